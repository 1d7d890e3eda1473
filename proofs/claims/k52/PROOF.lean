import PyProof.Rows.All
import Wide.All
import OpenK.AllK
import Wide.FinOn
import Lean
import PyProof.EqAt
import PyProof.EqKinds
import PyProof.TupleCall
import PySem.Challenge.RW_thinbook_k52_what_cannot_be_shown
local macro_rules | `(tactic| omega) => `(tactic| lia)
set_option Elab.async false
set_option linter.all false
set_option maxRecDepth 100000
open PySem.W (Frag nsIn fnOf codeIn keepIn mg_of)
namespace L2
open PySem PySem.Spec PyProof.Rows
abbrev Key:=Sum Int Str
def qqj:Key->Value->Bool
 | .inl k,v=>Value.isInt k v
 | .inr x,v=>Value.isStrOf x v
def qD1 (w:World):Key->Int
 | .inl k=>hashInt k
 | .inr x=>hashStr w x
theorem qbd:∀ {k:Key} {v:Value},qqj k v=true->(∃ i t,k=Sum.inl i/\v=Value.int i t)\/(∃ x t,k=Sum.inr x/\v=Value.str x t)
 | .inl i,v,h=>by
  obtain ⟨t,e⟩:=Value.isInt_shape (k:=i) (v:=v) h;exact .inl ⟨i,t,rfl,e⟩
 | .inr x,v,h=>by
  obtain ⟨t,e⟩:=Value.isStrOf_shape (x:=x) (v:=v) h;exact .inr ⟨x,t,rfl,e⟩
theorem qrn (i:Int) (t:Tok):qqj (.inl i) (.int i t)=true:=by simp[qqj,Value.isInt]
theorem qro (x:Str) (t:Tok):qqj (.inr x) (.str x t)=true:=by simp[qqj,Value.isStrOf]
theorem qzm (a b:Int):decide ((Sum.inl a:Key)=Sum.inl b)=(a == b):=by
 by_cases e:a=b
 ·subst e;simp
 ·have h:¬ (Sum.inl a:Key)=Sum.inl b:=λq=>e (Sum.inl.inj q)
  rw[decide_eq_false h];exact (beq_eq_false_iff_ne.mpr e).symm
theorem qzn (a b:Str):decide ((Sum.inr a:Key)=Sum.inr b)=decide (a=b):=by
 by_cases e:a=b
 ·subst e;simp
 ·have h:¬ (Sum.inr a:Key)=Sum.inr b:=λq=>e (Sum.inr.inj q)
  rw[decide_eq_false h,decide_eq_false e]
theorem qzo (a:Int) (b:Str):decide ((Sum.inl a:Key)=Sum.inr b)=false:=decide_eq_false (λq=>nomatch q)
theorem qzp (a:Str) (b:Int):decide ((Sum.inr a:Key)=Sum.inl b)=false:=decide_eq_false (λq=>nomatch q)
def qbo (prog:Program) (w:World):PySem.KeyKind prog w Key where
 is:=qqj
 hash:=qD1 w
 inj:=λv a b ha hb=>by
  rcases qbd ha with ⟨i,t,rfl,rfl⟩|⟨x,t,rfl,rfl⟩
  ·rcases qbd hb with ⟨j,u,rfl,e⟩|⟨y,u,rfl,e⟩
   ·injection e with e1 _;rw[e1]
   ·exact nomatch e
  ·rcases qbd hb with ⟨j,u,rfl,e⟩|⟨y,u,rfl,e⟩
   ·exact nomatch e
   ·injection e with e1 _;rw[e1]
 byValue:=λk v h=>by
  rcases qbd h with ⟨i,t,rfl,rfl⟩|⟨x,t,rfl,rfl⟩<;>rfl
 pyHash:=λhv h=>by
  rcases qbd hv with ⟨i,t,rfl,rfl⟩|⟨x,t,rfl,rfl⟩
  ·exact wpAny_pyHash_int h
  ·exact wpAny_pyHash_str h
 eqBool:=λhu hv h=>by
  rcases qbd hu with ⟨i,t,rfl,rfl⟩|⟨x,t,rfl,rfl⟩
  ·rcases qbd hv with ⟨j,u,rfl,rfl⟩|⟨y,u,rfl,rfl⟩
   ·rw[qzm] at h;exact wpAny_eqBool_int h
   ·rw[qzo] at h;exact SeqAt.EqAt.int_str i t y u _ _ _ _ h
  ·rcases qbd hv with ⟨j,u,rfl,rfl⟩|⟨y,u,rfl,rfl⟩
   ·rw[qzp] at h;exact SeqAt.EqAt.str_int x t j u _ _ _ _ h
   ·rw[qzn] at h;exact wpAny_eqBool_str h
 «strs» :=λk x t v h=>by
  rcases qbd h with ⟨i,u,rfl,e⟩|⟨y,u,rfl,e⟩
  ·exact nomatch e
  ·injection e with e1 _
   subst e1
   cases v<;>rfl
theorem qn1 (prog:Program) (w:World) (i:Int) (t:Tok):(qbo prog w).is (.inl i) (.int i t)=true:=qrn i t
theorem qn2 (prog:Program) (w:World) (x:Str) (t:Tok):(qbo prog w).is (.inr x) (.str x t)=true:=qro x t
open PySem PySem.Spec PyProof.Rows
inductive V where
 | non|bl (b:Bool)|int (i:Int)|str (x:Str)|byt (b:Array UInt8)|flt (b:UInt64)|ref (a:Addr)|ty (n:String)
 deriving DecidableEq
def RelV:V->Value->Prop
 | .non,u=>u=Value.none
 | .bl b,u=>u=Value.bool b
 | .int i,u=>∃ t,u=Value.int i t
 | .str x,u=>∃ t,u=Value.str x t
 | .byt b,u=>∃ t,u=Value.bytes b t
 | .flt b,u=>∃ t,u=Value.float b t
 | .ref a,u=>u=Value.ref a
 | .ty n,u=>u=Value.type n
abbrev Vals:List V->List Value->Prop:=Paired RelV
theorem Vals.length {xs:List V} {us:List Value} (r:Vals xs us):xs.length=us.length:=Paired.length r
theorem Vals.get:∀ {xs:List V} {us:List Value} {i:Nat} {x:V},Vals xs us->xs[i]?=some x->∃ u,us[i]?=some u/\RelV x u
 | _,_,_,_,.nil,e=>by simp at e
 | _,_,0,_,.cons r _,e=>by simp at e;subst e;exact ⟨_,rfl,r⟩
 | _,_,i+1,x,.cons _ t,e=>by
  obtain ⟨u,h1,h2⟩:=Vals.get (i:=i) (x:=x) t (by simpa using e);exact ⟨u,by simpa using h1,h2⟩
theorem Vals.append:∀ {xs ys:List V} {us ws:List Value},Vals xs us->Vals ys ws->Vals (xs ++ ys) (us ++ ws)
 | _,_,_,_,.nil,s=>s
 | _,_,_,_,.cons r t,s=>.cons r (Vals.append t s)
theorem Vals.take:∀ {xs:List V} {us:List Value} (n:Nat),Vals xs us->Vals (xs.take n) (us.take n)
 | _,_,0,_=>.nil
 | _,_,_+1,.nil=>.nil
 | _,_,n+1,.cons r t=>.cons r (Vals.take n t)
theorem Vals.drop:∀ {xs:List V} {us:List Value} (n:Nat),Vals xs us->Vals (xs.drop n) (us.drop n)
 | _,_,0,r=>r
 | _,_,_+1,.nil=>.nil
 | _,_,n+1,.cons _ t=>Vals.drop n t
def RelO:Option V->Option Value->Prop
 | some v,some u=>RelV v u
 | none,none=>True
 | _,_=>False
def KV {κ:Type}:List (κ×V)->List (κ×Value)->Prop:=Paired fun (p:κ×V) (q:κ×Value)=>p.1=q.1/\RelV p.2 q.2
def kV:Key->V
 | .inl i=>.int i
 | .inr x=>.str x
inductive HO where
 | lst (xs:List V)
 | tup (xs:List V)
 | dK (kvs:List (Key×V))|dT (kvs:List (List Key×V))
 | set (S:Int->Bool) (n:Nat)
 | ins (C dx:Addr) (fs:List (Str×V))
 | own (x:Addr)
 | xd (fs:List (Str×V))
 | met (f x:Addr)
 | rng (lo hi:Int)
 | frz (o:Obj) (u:HO)
 | tbl (ps:Array Value)
 | ext (φ:Heap->Prop)
abbrev Hp:=Addr->Option HO
def upd (H:Hp) (a:Addr) (o:HO):Hp:=λb=>if b=a then some o else H b
theorem qa2 {H:Hp} {a:Addr} {o:HO}:upd H a o a=some o:=by unfold upd;rw[if_pos rfl]
theorem qat {H:Hp} {a b:Addr} {o:HO} (h:b≠a):upd H a o b=H b:=by unfold upd;rw[if_neg h]
theorem qbe {H:Hp} {a b:Addr} {o u:HO} (h:H a=some o) (h':H b=some u) (d:o≠u):a≠b:=by
 intro e;subst e;rw[h] at h';exact d (Option.some.inj h')
theorem qai {H:Hp} {a b:Addr} {o:HO} (h:H a=some o) (h':H b=none):a≠b:=by
 intro e;subst e;rw[h] at h';cases h'
section
variable (P:Program) (w:World)
def ObjOk (H:Hp) (h:Heap) (a:Addr):HO->Prop
 | .lst xs=>xs.length<=sizeLine/\∃ (its:List Value) (n:Nat),Vals xs its/\h.get? a=some { cls:=.type "list",data:=.seq its.toArray n }
 | .tup xs=>xs.length<=sizeLine/\∃ its:List Value,Vals xs its/\IsTup h a its.toArray
 | .dK kvs=>kvs.length<=sizeLine/\(a == sysModules)=false/\∃ vs,KV kvs vs/\h.DictOf (qbo P w) a vs
 | .dT kvs=>kvs.length<=sizeLine/\(a == sysModules)=false/\∃ xs:List (List Key×Addr×Value),
   Paired (fun (p:List Key×V) (q:List Key×Addr×Value)=>p.1=q.1/\H q.2.1=some (.tup (p.1.map kV))/\RelV p.2 q.2.2) kvs xs /\
   ∃ o es ep,h.get? a=some o/\o.ExactDict/\o.data=.dict es ep/\es.toList=xs.map (entryOfKey (tupleKind (qbo P w)))/\(xs.map (·.1)).Nodup
 | .set S n=>h.SetOf (intKind P w) a S n
 | .ins C dx fs=>H dx=some (.own a)/\fs.length<=1000/\dx≠a/\h.get? a=some (PySem.W.instObj C dx) /\
   ∃ mA,h.Ns1 dx mA/\(∀ f,RelO (fs.lookup f) (mA f))/\PySem.Within mA (fs.map (·.1))
 | .own _=>∃ o,h.get? a=some o
 | .xd fs=>∃ mA,h.Ns1 a mA/\∀ f,RelO (fs.lookup f) (mA f)
 | .rng lo hi=>∃ t u v,h.get? a=some { cls:=.type "range",data:=.fields #[.int lo t,.int hi u,.int 1 v] }
 | .frz o u=>h.get? a=some o/\ObjOk H h a u
 | .tbl ps=>h.get? a=some { cls:=.none,data:=.fields ps }
 | .met f x=>h.get? a=some (PySem.W.methodObj (.ref f) (.ref x))
 | .ext φ=>φ h/\(∃ o,h.get? a=some o)/\∀ h1 h2:Heap,φ h1->(∀ o,h1.get? a=some o->h2.get? a=some o)->φ h2
def HOk (H:Hp) (h:Heap):Prop:=∀ a o,H a=some o->ObjOk P w H h a o
end
section
variable {P:Program} {w:World} {H H':Hp} {h h':Heap} {a:Addr} {o:HO}
theorem ObjOk.lt (x:ObjOk P w H h a o):a<h.objs.size:=by
 cases o with
 | lst xs=>obtain ⟨_,_,_,_,e⟩:=x;exact Heap.lt_size e
 | tup xs=>obtain ⟨_,_,_,p⟩:=x;exact p.lt
 | dK kvs=>obtain ⟨_,_,_,_,o,_,_,e,_⟩:=x;exact Heap.lt_size e
 | dT kvs=>obtain ⟨_,_,_,_,o,_,_,e,_⟩:=x;exact Heap.lt_size e
 | set S n=>obtain ⟨o,_,_,_,e,_⟩:=x;exact Heap.lt_size e
 | ins C dx fs=>obtain ⟨_,_,_,e,_⟩:=x;exact Heap.lt_size e
 | own y=>obtain ⟨_,e⟩:=x;exact Heap.lt_size e
 | xd fs=>obtain ⟨_,⟨_,_,_,e,_⟩,_⟩:=x;exact Heap.lt_size e
 | rng lo hi=>obtain ⟨_,_,_,e⟩:=x;exact Heap.lt_size e
 | frz ob u=>obtain ⟨e,_⟩:=x;exact Heap.lt_size e
 | tbl ps=>exact Heap.lt_size (show h.get? a=some _ from x)
 | met f y=>exact Heap.lt_size (show h.get? a=some _ from x)
 | ext φ=>obtain ⟨_,⟨_,e⟩,_⟩:=x;exact Heap.lt_size e
theorem Paired.mapP {α β:Type} {F G:α->β->Prop}:∀ {l₁:List α} {l₂:List β},Paired F l₁ l₂->(∀ a b,F a b->G a b)->Paired G l₁ l₂
 | _,_,.nil,_=>.nil
 | _,_,.cons r t,f=>.cons (f _ _ r) (Paired.mapP t f)
theorem ObjOk.stay (x:ObjOk P w H h a o) (k:∀ b u,(b=a\/H b=some (.own a))->h.get? b=some u->h'.get? b=some u)
  (ho:∀ b,H b=some (.own a)->H' b=some (.own a)) (ht:∀ b xs,H b=some (.tup xs)->H' b=some (.tup xs)):ObjOk P w H' h' a o:=by
 induction o with
 | lst xs=>obtain ⟨z,its,n,r,e⟩:=x;exact ⟨z,its,n,r,k _ _ (.inl rfl) e⟩
 | tup xs=>obtain ⟨z,its,r,ob,e,c⟩:=x;exact ⟨z,its,r,ob,k _ _ (.inl rfl) e,c⟩
 | dK kvs=>obtain ⟨z,y,vs,r,ob,es,ep,e,c⟩:=x;exact ⟨z,y,vs,r,ob,es,ep,k _ _ (.inl rfl) e,c⟩
 | dT kvs =>
  obtain ⟨z,y,xs,r,ob,es,ep,e,c⟩:=x;exact ⟨z,y,xs,Paired.mapP r λp q z=>⟨z.1,ht _ _ z.2.1,z.2.2⟩,ob,es,ep,k _ _ (.inl rfl) e,c⟩
 | set S n=>obtain ⟨ob,es,ep,t,e,c⟩:=x;exact ⟨ob,es,ep,t,k _ _ (.inl rfl) e,c⟩
 | ins C dx fs =>
  obtain ⟨d,z,ne,e,mA,⟨od,es,ep,e2,c⟩,r⟩:=x;exact ⟨ho _ d,z,ne,k _ _ (.inl rfl) e,mA,⟨od,es,ep,k _ _ (.inr d) e2,c⟩,r⟩
 | own y=>obtain ⟨ob,e⟩:=x;exact ⟨ob,k _ _ (.inl rfl) e⟩
 | xd fs=>obtain ⟨mA,⟨od,es,ep,e,c⟩,r⟩:=x;exact ⟨mA,⟨od,es,ep,k _ _ (.inl rfl) e,c⟩,r⟩
 | rng lo hi=>obtain ⟨t,u,v,e⟩:=x;exact ⟨t,u,v,k _ _ (.inl rfl) e⟩
 | frz ob u ih=>obtain ⟨e,q⟩:=x;exact ⟨k _ _ (.inl rfl) e,ih q⟩
 | tbl ps =>
  have e:h.get? a=some { cls:=.none,data:=.fields ps }:=x
  show h'.get? a=some { cls:=.none,data:=.fields ps }
  exact k a _ (.inl rfl) e
 | met f y =>
  have e:h.get? a=some (PySem.W.methodObj (.ref f) (.ref y)):=x
  show h'.get? a=some (PySem.W.methodObj (.ref f) (.ref y))
  exact k a _ (.inl rfl) e
 | ext φ=>obtain ⟨p,⟨o,e⟩,st⟩:=x;exact ⟨st _ _ p λo q=>k _ _ (.inl rfl) q,⟨o,k _ _ (.inl rfl) e⟩,st⟩
theorem HOk.lt (x:HOk P w H h) (e:H a=some o):a<h.objs.size:=(x a o e).lt
theorem HOk.fresh (x:HOk P w H h) (e:h.objs.size<=a):H a=none:=by
 cases q:H a with
 | none=>rfl
 | some u=>exact absurd (Nat.lt_of_lt_of_le (x.lt q) e) (Nat.lt_irrefl _)
theorem HOk.kept (x:HOk P w H h) (k:∀ b u,h.get? b=some u->h'.get? b=some u):HOk P w H h':=λa o e =>
 (x a o e).stay (λb u _ q=>k b u q) (λ_ q=>q) λ_ _ q=>q
theorem HOk.laid (x:HOk P w H h) (k:∀ b u,h.get? b=some u->h'.get? b=some u) (hp:h.objs.size<=a) (new:ObjOk P w (upd H a o) h' a o):HOk P w (upd H a o) h':=λb u e=>by
 have hn:=x.fresh hp
 by_cases hb:b=a
 ·subst hb;rw[qa2] at e;cases e;exact new
 ·rw[qat hb] at e
  exact (x b u e).stay (λc v _ q=>k c v q) (λc q=>by rw[qat (qai q hn)];exact q) λc xs q=>by rw[qat (qai q hn)];exact q
end
def Rd (H:Hp) (a:Addr) (u:HO):Prop:=H a=some u\/∃ o,H a=some (.frz o u)
theorem Rd.ok {P:Program} {w:World} {H:Hp} {h:Heap} {a:Addr} {u:HO} (r:Rd H a u) (x:HOk P w H h):ObjOk P w H h a u:=by
 rcases r with r|⟨o,r⟩
 ·exact x a u r
 ·obtain ⟨_,q⟩:=x a _ r
  exact q
def Mut:Option HO->Prop
 | some (.lst _)=>True
 | some (.dK _)=>True
 | some (.dT _)=>True
 | some (.set _ _)=>True
 | some (.ins _ _ _)=>True
 | some (.ext _)=>True
 | _=>False
section
variable {P:Program} {w:World} {H:Hp} {h h':Heap} {x e:Addr} {o':HO}
theorem HOk.write (ok:HOk P w H h) (mu:Mut (H x)) (he:e=x\/H e=some (.own x)) (k:∀ b u,b≠e->h.get? b=some u->h'.get? b=some u) (heo:∃ u,h'.get? e=some u)
  (new:ObjOk P w (upd H x o') h' x o'):HOk P w (upd H x o') h':=λb u q=>by
 have nown:∀ c y,H c=some (.own y)->c≠x:=λc y r z=>by subst z;rw[r] at mu;exact mu
 have ntup:∀ c xs,H c=some (.tup xs)->c≠x:=λc xs r z=>by subst z;rw[r] at mu;exact mu
 by_cases hb:b=x
 ·subst hb;rw[qa2] at q;cases q;exact new
 ·rw[qat hb] at q
  by_cases hbe:b=e
  ·have q':H b=some (.own x):=by
    rcases he with z|z
    ·exact absurd (hbe.trans z) hb
    ·rw[hbe];exact z
   rw[q] at q';cases q';obtain ⟨v,hv⟩:=heo;exact ⟨v,by rw[hbe];exact hv⟩
  ·refine (ok b u q).stay (λc v hc r=>k c v ?_ r) (λc r=>by rw[qat (nown c b r)];exact r) λc xs r=>by rw[qat (ntup c xs r)];exact r
   rcases hc with rfl|hc
   ·exact hbe
   ·rintro rfl
    rcases he with z|z
    ·exact nown c b hc z
    ·rw[hc] at z;cases z;exact hb rfl
end
structure Un (fs ex:List Addr) (H H':Hp) (h h':Heap):Prop where
 keep:∀ b o,h.get? b=some o->H b=none->b ∉ fs->b ∉ ex->h'.get? b=some o
 slot:∀ b o,h.get? b=some o->H b=none->b∈fs->b ∉ ex->∃ sl,h'.get? b=some { o with slots:=sl }
 free:∀ b o,h.get? b=some o->H b=none->b ∉ ex->H' b=none
 there:∀ b o,h.get? b=some o->b ∉ ex->∃ o',h'.get? b=some o'
 tups:∀ b xs,H b=some (.tup xs)->H' b=some (.tup xs)
 frzs:∀ b o u,H b=some (.frz o u)->H' b=some (.frz o u)
 tbls:∀ b ps,H b=some (.tbl ps)->∃ more,H' b=some (.tbl (ps ++ more))
section
variable {fs fs' ex ex':List Addr} {H H1 H2:Hp} {h h1 h2 h':Heap} {a x e:Addr} {o:HO}
theorem Un.any (u:Un fs ex H H1 h h1) {b:Addr} {ob:Obj} (q:h.get? b=some ob) (n:H b=none) (hx:b ∉ ex):∃ sl,h1.get? b=some { ob with slots:=sl }:=by
 by_cases hb:b∈fs
 ·exact u.slot b ob q n hb hx
 ·exact ⟨ob.slots,u.keep b ob q n hb hx⟩
theorem Un.kept (k:∀ b u,h.get? b=some u->h'.get? b=some u):Un fs ex H H h h':=
 ⟨λb ob q _ _ _=>k b ob q,λb ob q _ _ _=>⟨ob.slots,k b ob q⟩,λ_ _ _ n _=>n,λb ob q _=>⟨ob,k b ob q⟩,λ_ _ q=>q,λ_ _ _ q=>q,λ_ ps q=>⟨#[],by rw[q];simp⟩⟩
theorem Un.refl:Un fs ex H H h h:=Un.kept λ_ _ q=>q
theorem Un.laid (k:∀ b u,h.get? b=some u->h'.get? b=some u) (hp:h.objs.size<=a) (hn:H a=none):Un fs ex H (upd H a o) h h' where
 keep:=λb u q _ _ _=>k b u q
 slot:=λb u q _ _ _=>⟨u.slots,k b u q⟩
 free:=λb u q n _=>by rw[qat (Nat.ne_of_lt (Nat.lt_of_lt_of_le (Heap.lt_size q) hp))];exact n
 there:=λb u q _=>⟨u,k b u q⟩
 tups:=λb xs q=>by rw[qat (qai q hn)];exact q
 frzs:=λb u xs q=>by rw[qat (qai q hn)];exact q
 tbls:=λb ps q=>⟨#[],by rw[qat (qai q hn),q];simp⟩
theorem Un.write (mu:Mut (H x)) (he:e=x\/H e=some (.own x)) (k:∀ b u,b≠e->h.get? b=some u->h'.get? b=some u) (heo:∃ u,h'.get? e=some u):Un fs ex H (upd H x o) h h':=by
 have hx:∀ b,H b=none->b≠x:=λb n z=>by subst z;rw[n] at mu;exact mu
 have hb:∀ b,H b=none->b≠e:=λb n z=>by
  subst z
  rcases he with r|r
  ·exact hx b n r
  ·rw[n] at r;cases r
 have hm:∀ b u,H b=some u->¬ Mut (some u)->b≠x:=λb u q nm z=>by subst z;rw[q] at mu;exact nm mu
 refine ⟨λb u q n _ _=>k b u (hb b n) q,λb u q n _ _=>⟨u.slots,k b u (hb b n) q⟩,λb u q n _=>by rw[qat (hx b n)];exact n,λb u q _=>?_,
  λb xs q=>by rw[qat (hm b _ q λz=>z)];exact q,λb u xs q=>by rw[qat (hm b _ q λz=>z)];exact q,λb ps q=>⟨#[],by rw[qat (hm b _ q λz=>z),q];simp⟩⟩
 by_cases hbe:b=e
 ·subst hbe;exact heo
 ·exact ⟨u,k b u hbe q⟩
end
def trk (h:Heap) (H:Hp):List Addr:=(List.range h.objs.size).filter λa=>(H a).isSome
def qur (h:Heap) (H:Hp):Heap:=PySem.W.hideAll h (trk h H)
theorem qrp (h:Heap) (H:Hp):(qur h H).objs.size=h.objs.size:=PySem.W.hideAll_size _ _
theorem qus {h:Heap} {H:Hp} {b:Addr} {o:Obj} (e:h.get? b=some o) (n:H b=none):(qur h H).get? b=some o:=
 PySem.W.hideAll_get _ e λhm=>by
  have q:(H b).isSome=true:=(List.mem_filter.mp hm).2;rw[n] at q;simp at q
theorem qxk {h:Heap} {H:Hp} {b:Addr} {o:Obj} (e:(qur h H).get? b=some o):h.get? b=some o/\H b=none:=by
 have e':h.get? b=some o:=PySem.W.of_hideAll (trk h H) e;refine ⟨e',?_⟩
 cases q:H b with
 | none=>rfl
 | some x =>
  have hm:b∈trk h H:=List.mem_filter.mpr ⟨List.mem_range.mpr (Heap.lt_size e'),by simp[q]⟩;have z:(qur h H).get? b=none:=PySem.W.hideAll_none (trk h H) hm;rw[z] at e;cases e
def qxl (g h:Heap) (L:Addr):List (Addr×Obj):=(List.range h.objs.size).filterMap λa=>if a=L\/(g.get? a).isSome=true then none else (h.get? a).map λo=>(a,o)
def rest (g h:Heap) (L d:Addr):List (Addr×Obj):=(qxl g h L).filter λp=>decide (p.1≠d)
open PySem PySem.Spec PyProof.Rows
structure Mod (K:Frag) (mg:Str->Option Value) (base:Heap):Prop where
 kin:K.In base
 glob:base.Ns mainGlobals mg
 blt:∃ mb,base.Ns builtinsNs mb/\∀ x:Str,x ≠ "__name__" -> mb x=bootBuiltins x
 nolimit:base.NoLimit
structure Cx where
 prog:Program
 w:World
 K:Frag
 mg:Str->Option Value
 base:Heap
 A:Around
 N:List Str
 s₀:Shared
 H₀:Hp
 env:Env
 outer:List Env
 stack:List Env
 ex:List Addr
 fn:Str->Bool
 calm:Bool
 pn:List (Addr×Obj)
 xe:Value->Shared->Prop
def frs (l:List Env):List Addr:=l.filterMap (·.frame)
abbrev Cx.fs (X:Cx):List Addr:=frs X.outer
def Vis (sc:Scope) (x:Str):Prop:=sc.names.lookup x=some .local\/sc.names.lookup x=some .cell\/sc.names.lookup x=some .free
def Loc (sc:Scope) (x:Str):Prop:=sc.names.lookup x=some .local\/sc.names.lookup x=some .cell
def Look (env:Env) (h:Heap) (m:Str->Option Value) (x:Str) (u:Value):Prop:=
 (env.kindOf x=some .local/\m x=some u)\/((env.kindOf x=some .cell\/env.kindOf x=some .free)/\∃ c,env.cells.lookup x=some c/\h.IsCell c (some u))
structure Cx.Ok (X:Cx):Prop where
 mod:Mod X.K X.mg X.base
 kind:X.env.scope.kind=.function
 glob:X.env.globals=mainGlobals
 blt:X.env.builtins=builtinsNs
 above:X.s₀.heap.objs.size<=X.env.locals
 inj:∀ x y c,X.env.cells.lookup x=some c->X.env.cells.lookup y=some c->x=y
 has:∀ x,(X.env.kindOf x=some .cell\/X.env.kindOf x=some .free)->∃ c,X.env.cells.lookup x=some c
 cab:∀ x c,X.fn x=true->X.env.cells.lookup x=some c->X.s₀.heap.objs.size<=c
 hd:X.calm=true->X.A.handled=none
 frames:X.A.frames=some X.stack
 stk:X.stack=X.outer\/(X.stack=X.env :: X.outer/\X.env.frame=some X.env.locals)
 exf:∀ b∈X.ex,b≠X.env.locals/\∀ x c,X.env.cells.lookup x=some c->c≠b
 bs:∀ b o,X.base.get? b=some o->X.s₀.heap.get? b=some o/\X.H₀ b=none
 bsz:X.base.objs.size<=X.s₀.heap.objs.size
 noex:∀ b o,X.base.get? b=some o->b ∉ X.ex
 exfs:∀ b∈X.ex,b ∉ X.fs
 funs:X.s₀.heap.FunFrames X.base X.outer
 frf:∀ b∈X.fs,X.H₀ b=none
structure Inv (X:Cx) (pins:List (Addr×Obj)) (σ:List (Option V)) (H:Hp) (s:Shared):Prop where
 ok:X.Ok
 os:s.os=X.s₀.os
 bare:AllBare s.gens
 base:Un X.fs X.ex X.H₀ H X.s₀.heap s.heap
 loc:∃ m,s.heap.Ns X.env.locals m/\∀ (i:Nat) (x:Str) (v:V),X.N[i]?=some x->σ[i]?=some (some v)->Vis X.env.scope x->∃ u,RelV v u/\Look X.env s.heap m x u
 cell:∀ x c,X.env.cells.lookup x=some c->∃ v,s.heap.IsCell c v
 free:H X.env.locals=none
 freeC:∀ x c,X.env.cells.lookup x=some c->H c=none
 pin:∀ p∈X.pn ++ pins,s.heap.get? p.1=some p.2/\H p.1=none/\p.1≠X.env.locals/\p.1 ∉ X.fs/\∀ v,p.2.data≠.cell v
 hok:HOk X.prog X.w H s.heap
 len:σ.length=X.N.length
section
variable {X:Cx} {pins:List (Addr×Obj)} {σ:List (Option V)} {H H':Hp} {s:Shared} {h':Heap}
theorem Cx.Ok.nofr (ok:X.Ok) {b:Addr} {o:Obj} (e:X.base.get? b=some o):b ∉ X.fs:=λhb=>by
 have:=(ok.funs.mem hb).1;rw[e] at this;cases this
theorem Inv.bs (I:Inv X pins σ H s):∀ b o,X.base.get? b=some o->s.heap.get? b=some o/\H b=none:=λb o e =>
 ⟨I.base.keep b o (I.ok.bs b o e).1 (I.ok.bs b o e).2 (I.ok.nofr e) (I.ok.noex b o e),I.base.free b o (I.ok.bs b o e).1 (I.ok.bs b o e).2 (I.ok.noex b o e)⟩
theorem Inv.bk (I:Inv X pins σ H s):∀ b o,X.base.get? b=some o->s.heap.get? b=some o:=λb o e=>(I.bs b o e).1
theorem Inv.mod (I:Inv X pins σ H s):Mod X.K X.mg X.base:=I.ok.mod
theorem Inv.kIn (I:Inv X pins σ H s):X.K.In s.heap:=I.ok.mod.kin.keeps I.bk
theorem Inv.lt (I:Inv X pins σ H s):X.env.locals<s.heap.objs.size:=let ⟨_,hn,_⟩:=I.loc;hn.lt
theorem Inv.sz (I:Inv X pins σ H s):X.s₀.heap.objs.size<=s.heap.objs.size:=Nat.le_trans I.ok.above (Nat.le_of_lt I.lt)
theorem Inv.nofs (I:Inv X pins σ H s) {a:Addr} (h:s.heap.objs.size<=a):a ∉ X.fs:=λhb=>by
 obtain ⟨_,o,ho,_⟩:=I.ok.funs.mem hb;exact absurd (Nat.lt_of_lt_of_le (Heap.lt_size ho) (Nat.le_trans I.sz h)) (Nat.lt_irrefl _)
theorem Inv.cne (I:Inv X pins σ H s):∀ x c,X.env.cells.lookup x=some c->c≠X.env.locals:=λx c e z=>by
 obtain ⟨v,o,ho,hd⟩:=I.cell x c e;obtain ⟨m,⟨o',es,ep,ho',hd',_⟩,_⟩:=I.loc;rw[z,ho'] at ho;cases ho;rw[hd'] at hd;cases hd
theorem Inv.funs (I:Inv X pins σ H s):s.heap.FunFrames X.base X.outer:=by
 have all:∀ (l:List Env),(∀ b∈frs l,b∈X.fs)->X.s₀.heap.FunFrames X.base l->s.heap.FunFrames X.base l:=by
  intro l
  induction l with
  | nil=>intro _ _;trivial
  | cons env r ih =>
   intro hs hl;obtain ⟨hk,⟨L,o,hf,hn,ho,hd⟩,hr⟩:=hl;have hL:L∈X.fs:=hs L (by unfold frs;rw[List.filterMap_cons,hf];exact List.mem_cons_self);obtain ⟨sl,e⟩:=I.base.slot L o ho (I.ok.frf L hL) hL λz=>I.ok.exfs L z hL
   exact ⟨hk,⟨L,_,hf,hn,e,hd⟩,ih (λb hb=>hs b (by unfold frs;rw[List.filterMap_cons,hf];exact List.mem_cons_of_mem _ hb)) hr⟩
 exact all X.outer (λ_ hb=>hb) I.ok.funs
theorem Inv.stack (I:Inv X pins σ H s):s.heap.FunFrames X.base X.stack:=by
 rcases I.ok.stk with e|⟨e,hf⟩
 ·rw[e];exact I.funs
 ·rw[e]
  obtain ⟨m,hn,_⟩:=I.loc;refine .cons (by rw[I.ok.kind];decide) hf hn ?_ I.funs;exact Heap.get?_none_of_le (Nat.le_trans I.ok.bsz I.ok.above)
theorem Inv.stkSub (I:Inv X pins σ H s):∀ b∈frs X.stack,b∈X.env.locals :: X.fs:=λb hb=>by
 rcases I.ok.stk with e|⟨e,hf⟩
 ·rw[e] at hb;exact List.mem_cons_of_mem _ hb
 ·rw[e] at hb
  unfold frs at hb;rw[List.filterMap_cons,hf] at hb;exact hb
theorem Inv.stkFree (I:Inv X pins σ H s):∀ b∈frs X.stack,H b=none:=λb hb=>by
 rcases List.mem_cons.mp (I.stkSub b hb) with e|hb
 ·rw[e];exact I.free
 ·obtain ⟨_,o,ho,_⟩:=I.ok.funs.mem hb
  exact I.base.free b o ho (I.ok.frf b hb) λz=>I.ok.exfs b z hb
theorem Inv.step {g':Array GenState} {t':Nat} {d':Drawn} {ch:List Addr} (I:Inv X pins σ H s)
  (hch:∀ b∈ch,(b∈X.ex\/X.s₀.heap.objs.size<=b)/\b≠X.env.locals/\(∀ x c,X.env.cells.lookup x=some c->c≠b)/\∀ p∈X.pn ++ pins,p.1≠b)
  (keep:∀ b o,b≠X.env.locals->b ∉ X.fs->b ∉ ch->s.heap.get? b=some o->H b=none->h'.get? b=some o)
  (slot:∀ b o,b≠X.env.locals->b∈X.fs->b ∉ ch->s.heap.get? b=some o->H b=none->∃ sl,h'.get? b=some { o with slots:=sl }) (free:∀ b o,b ∉ ch->s.heap.get? b=some o->H b=none->H' b=none)
  (there:∀ b o,b ∉ ch->s.heap.get? b=some o->∃ o',h'.get? b=some o')
  (tups:∀ b xs,H b=some (.tup xs)->H' b=some (.tup xs)) (frzs:∀ b o u,H b=some (.frz o u)->H' b=some (.frz o u)) (tbls:∀ b ps,H b=some (.tbl ps)->∃ more,H' b=some (.tbl (ps ++ more)))
  (ns:∀ m,s.heap.Ns X.env.locals m->h'.Ns X.env.locals m) (hok:HOk X.prog X.w H' h') (hg:AllBare g') :
  Inv X pins σ H' { s with heap:=h',gens:=g',drawn:=d',toks:=t' }:=by
 have neL:∀ b o,X.s₀.heap.get? b=some o->b≠X.env.locals:=λb o e=>Nat.ne_of_lt (Nat.lt_of_lt_of_le (Heap.lt_size e) I.ok.above)
 have neC:∀ b o,X.s₀.heap.get? b=some o->b ∉ X.ex->b ∉ ch:=λb o e hx hb=>by
  rcases (hch b hb).1 with z|z
  ·exact hx z
  ·exact absurd (Nat.lt_of_lt_of_le (Heap.lt_size e) z) (Nat.lt_irrefl _)
 have cellK:∀ x c,X.env.cells.lookup x=some c->∀ v,s.heap.IsCell c v->h'.IsCell c v:=λx c e v ⟨o,ho,hd⟩=>by
  have nch:c ∉ ch:=λz=>(hch c z).2.2.1 x c e rfl
  by_cases hc:c∈X.fs
  ·obtain ⟨sl,q⟩:=slot c o (I.cne x c e) hc nch ho (I.freeC x c e)
   exact ⟨_,q,hd⟩
  ·exact ⟨o,keep c o (I.cne x c e) hc nch ho (I.freeC x c e),hd⟩
 refine ⟨I.ok,I.os,hg,⟨λb o e n hb hx=>?_,λb o e n hb hx=>?_,λb o e n hx=>?_,λb o e hx=>?_,λb xs e=>tups b xs (I.base.tups b xs e),λb o xs e=>frzs b o xs (I.base.frzs b o xs e),λb ps e=>?_⟩,?_,λx c e=>?_,?_,λx c e=>?_,λp hp=>?_,hok,I.len⟩
 ·exact keep b o (neL b o e) hb (neC b o e hx) (I.base.keep b o e n hb hx) (I.base.free b o e n hx)
 ·obtain ⟨sl,e1⟩:=I.base.slot b o e n hb hx
  obtain ⟨sl',e2⟩:=slot b _ (neL b o e) hb (neC b o e hx) e1 (I.base.free b o e n hx);exact ⟨sl',e2⟩
 ·obtain ⟨o',e1⟩:=I.base.there b o e hx
  exact free b o' (neC b o e hx) e1 (I.base.free b o e n hx)
 ·obtain ⟨o',e1⟩:=I.base.there b o e hx
  exact there b o' (neC b o e hx) e1
 ·obtain ⟨m1,e1⟩:=I.base.tbls b ps e
  obtain ⟨m2,e2⟩:=tbls b _ e1;exact ⟨m1 ++ m2,by rw[e2,Array.append_assoc]⟩
 ·obtain ⟨m,hn,hl⟩:=I.loc
  refine ⟨m,ns m hn,λi x v e1 e2 e3=>?_⟩;obtain ⟨u,r,l⟩:=hl i x v e1 e2 e3;refine ⟨u,r,?_⟩
  rcases l with l|⟨k,c,e,z⟩
  ·exact .inl l
  ·exact .inr ⟨k,c,e,cellK x c e _ z⟩
 ·obtain ⟨v,z⟩:=I.cell x c e
  exact ⟨v,cellK x c e v z⟩
 ·obtain ⟨m,⟨o,_,_,ho,_⟩,_⟩:=I.loc
  exact free _ o (λz=>(hch _ z).2.1 rfl) ho I.free
 ·obtain ⟨v,o,ho,hd⟩:=I.cell x c e
  exact free c o (λz=>(hch c z).2.2.1 x c e rfl) ho (I.freeC x c e)
 ·obtain ⟨e,n,ne,nf,d⟩:=I.pin p hp
  have nch:p.1 ∉ ch:=λz=>(hch p.1 z).2.2.2 p hp rfl
  exact ⟨keep p.1 p.2 ne nf nch e n,free p.1 p.2 nch e n,ne,nf,d⟩
theorem Inv.un {t':Nat} (I:Inv X pins σ H s) (u:Un X.fs [] H H' s.heap h') (hok:HOk X.prog X.w H' h'):Inv X pins σ H' { s with heap:=h',toks:=t' }:=by
 obtain ⟨m,⟨o,es,ep,ho,r⟩,_⟩:=id I.loc;obtain ⟨sl,hL⟩:=u.any ho I.free (by simp);exact I.step (g':=s.gens) (d':=s.drawn) (ch:=[]) (λ_ z=>nomatch z) (λb o _ hb _ e n=>u.keep b o e n hb (by simp)) (λb o _ hb _ e n=>u.slot b o e n hb (by simp)) (λb o _ e n=>u.free b o e n (by simp)) (λb o _ e=>u.there b o e (by simp)) u.tups u.frzs u.tbls (λm' hm=>by
  obtain ⟨o',es',ep',ho',r'⟩:=hm;rw[ho] at ho';cases ho';exact ⟨_,es',ep',hL,r'⟩) hok I.bare
theorem Inv.call {g':Array GenState} {t':Nat} {d':Drawn} {ch:List Addr} (I:Inv X pins σ H s) (u:Un (frs X.stack) ch H H' s.heap h') (hok:HOk X.prog X.w H' h') (hg:AllBare g')
  (hch:∀ b∈ch,(b∈X.ex\/X.s₀.heap.objs.size<=b)/\b≠X.env.locals/\(∀ x c,X.env.cells.lookup x=some c->c≠b)/\∀ p∈X.pn ++ pins,p.1≠b) :
  Inv X pins σ H' { s with heap:=h',gens:=g',drawn:=d',toks:=t' }:=by
 obtain ⟨m,⟨o,es,ep,ho,r⟩,_⟩:=id I.loc;obtain ⟨sl,hL⟩:=u.any ho I.free λz=>(hch _ z).2.1 rfl
 exact I.step (ch:=ch) hch (λb o hL hb hc e n=>u.keep b o e n (λz=>(List.mem_cons.mp (I.stkSub b z)).elim hL hb) hc) (λb o _ _ hc e n=>u.any e n hc) (λb o hc e n=>u.free b o e n hc) (λb o hc e=>u.there b o e hc) u.tups u.frzs u.tbls (λm' hm=>by
  obtain ⟨o',es',ep',ho',r'⟩:=hm;rw[ho] at ho';cases ho';exact ⟨_,es',ep',hL,r'⟩) hok hg
theorem Inv.turned {t':Nat} {it:Addr} (I:Inv X pins σ H s) (k:∀ b o,b≠it->s.heap.get? b=some o->h'.get? b=some o) (hn:H it=none) (hL:it≠X.env.locals)
  (h1:it∈X.ex\/X.s₀.heap.objs.size<=it) (h2:∀ x c,X.env.cells.lookup x=some c->c≠it) (h3:∀ p∈X.pn ++ pins,p.1≠it):Inv X pins σ H { s with heap:=h',toks:=t' }:=by
 have nit:∀ b u,H b=some u->b≠it:=λb u e z=>by rw[z,hn] at e;cases e
 refine I.step (g':=s.gens) (d':=s.drawn) (ch:=[it]) (λb hb=>?_) (λb o _ _ hc e _=>k b o (λz=>hc (by simp[z])) e) (λb o _ _ hc e _=>⟨o.slots,k b o (λz=>hc (by simp[z])) e⟩) (λ_ _ _ _ n=>n)
  (λb o hc e=>⟨o,k b o (λz=>hc (by simp[z])) e⟩) (λ_ _ e=>e) (λ_ _ _ e=>e) (λb ps e=>⟨#[],by rw[e];simp⟩) (λm hm=>?_) (λb u e=>?_) I.bare
 ·have e:b=it:=by simpa using hb
  subst e;exact ⟨h1,hL,h2,h3⟩
 ·obtain ⟨o,es,ep,ho,r⟩:=hm
  exact ⟨o,es,ep,k _ o (Ne.symm hL) ho,r⟩
 ·refine (I.hok b u e).stay (λc v hc q=>k c v ?_ q) (λ_ q=>q) λ_ _ q=>q
  rcases hc with z|z
  ·rw[z];exact nit b u e
  ·exact nit c _ z
theorem Inv.tok (I:Inv X pins σ H s) (t:Nat):Inv X pins σ H { s with toks:=t }:=I.un (h':=s.heap) (t':=t) Un.refl I.hok
theorem Inv.kept {t':Nat} (I:Inv X pins σ H s) (k:∀ b u,s.heap.get? b=some u->h'.get? b=some u):Inv X pins σ H { s with heap:=h',toks:=t' }:=I.un (Un.kept k) (I.hok.kept k)
theorem Inv.laid {a:Addr} {o:HO} {t':Nat} (I:Inv X pins σ H s) (k:∀ b u,s.heap.get? b=some u->h'.get? b=some u) (hp:s.heap.objs.size<=a) (new:ObjOk X.prog X.w (upd H a o) h' a o) :
  Inv X pins σ (upd H a o) { s with heap:=h',toks:=t' }:=I.un (Un.laid k hp (I.hok.fresh hp)) (I.hok.laid k hp new)
theorem Inv.write {x e:Addr} {o:HO} {t':Nat} (I:Inv X pins σ H s) (mu:Mut (H x)) (he:e=x\/H e=some (.own x)) (k:∀ b u,b≠e->s.heap.get? b=some u->h'.get? b=some u) (heo:∃ u,h'.get? e=some u)
  (new:ObjOk X.prog X.w (upd H x o) h' x o):Inv X pins σ (upd H x o) { s with heap:=h',toks:=t' }:=I.un (Un.write mu he k heo) (I.hok.write mu he k heo new)
theorem Inv.weak {σ':List (Option V)} (I:Inv X pins σ H s) (hl:σ'.length=σ.length) (w:∀ (i:Nat) v,σ'[i]?=some (some v)->σ[i]?=some (some v)):Inv X pins σ' H s:=
 ⟨I.ok,I.os,I.bare,I.base,let ⟨m,hn,hl'⟩:=I.loc;⟨m,hn,λi x v e1 e2 e3=>hl' i x v e1 (w i v e2) e3⟩,I.cell,I.free,I.freeC,I.pin,I.hok,hl.trans I.len⟩
theorem Inv.pins_of {pins':List (Addr×Obj)} (I:Inv X pins σ H s) (h:∀ p∈pins',s.heap.get? p.1=some p.2/\H p.1=none/\p.1≠X.env.locals/\p.1 ∉ X.fs/\∀ v,p.2.data≠.cell v):Inv X pins' σ H s:=
 ⟨I.ok,I.os,I.bare,I.base,I.loc,I.cell,I.free,I.freeC,λp hp=>(List.mem_append.mp hp).elim (λz=>I.pin p (List.mem_append_left _ z)) (h p),I.hok,I.len⟩
theorem qk1 {N:List Str} (hN:N.Nodup) {i j:Nat} {x:Str} (a:N[i]?=some x) (b:N[j]?=some x):i=j:=by
 obtain ⟨h1,e1⟩:=List.getElem?_eq_some_iff.mp a;obtain ⟨h2,e2⟩:=List.getElem?_eq_some_iff.mp b;exact (List.getElem_inj hN).mp (e1.trans e2.symm)
theorem qrq {M:Model} {A:Around} {E:Value->Shared->Prop} {i:Nat} {x:Str} {v:V} {u:Value} {Q:Unit->Shared->Prop} (I:Inv X pins σ H s) (hN:X.N.Nodup) (hi:X.N[i]?=some x) (hx:Loc X.env.scope x) (r:RelV v u)
  (h:∀ s',Inv X pins (σ.set i (some v)) H s'->(∃ a,Heap.SameBut a s.heap s'.heap/\(a=X.env.locals\/X.env.cells.lookup x=some a))->Q () s') (hf:X.fn x=true\/X.env.scope.names.lookup x=some .local:=by first|exact .inl rfl|exact .inr rfl|assumption):wpAny M A (storeName X.env x u) Q E s:=by
 obtain ⟨m,hn,hl⟩:=id I.loc;have hcls:(X.env.scope.kind == .class || (X.env.scope.kind == .module && X.env.locals != X.env.globals))=false:=by rw[I.ok.kind];rfl
 have hiσ:i<σ.length:=by rw[I.len];exact (List.getElem?_eq_some_iff.mp hi).1
 have cne:=I.cne;have tracked:∀ {a:Addr} {h':Heap},(∃ o,s.heap.get? a=some o/\H a=none)->Heap.SameBut a s.heap h'->HOk X.prog X.w H h':=fun {a h'} ha hs b ob e=>by
  obtain ⟨_,_,hfree⟩:=ha;refine (I.hok b ob e).stay (λc w' hc q=>(hs.2 c ?_).trans q) (λ_ q=>q) λ_ _ q=>q
  rintro rfl
  rcases hc with rfl|hc
  ·rw[hfree] at e;cases e
  ·rw[hfree] at hc;cases hc
 rcases hx with hk|hk
 ·refine wpAny_storeName_local hk hn (λh' hn' hs=>?_) hcls
  obtain ⟨oL,_,_,hoL,_⟩:=id hn;refine h _ ⟨I.ok,I.os,I.bare,⟨λb o e n hb hx=>?_,λb o e n hb hx=>?_,I.base.free,λb o e hx=>?_,I.base.tups,I.base.frzs,I.base.tbls⟩,⟨_,hn',λj y v' e1 e2 e3=>?_⟩,λy c e=>?_,I.free,I.freeC,λp hp=>?_,tracked ⟨oL,hoL,I.free⟩ hs,by simpa using I.len⟩ ⟨_,hs,.inl rfl⟩
  ·exact (hs.2 b (Nat.ne_of_lt (Nat.lt_of_lt_of_le (Heap.lt_size e) I.ok.above))).trans (I.base.keep b o e n hb hx)
  ·obtain ⟨sl,e1⟩:=I.base.slot b o e n hb hx
   exact ⟨sl,(hs.2 b (Nat.ne_of_lt (Nat.lt_of_lt_of_le (Heap.lt_size e) I.ok.above))).trans e1⟩
  ·obtain ⟨o',e1⟩:=I.base.there b o e hx
   exact ⟨o',(hs.2 b (Nat.ne_of_lt (Nat.lt_of_lt_of_le (Heap.lt_size e) I.ok.above))).trans e1⟩
  ·by_cases hj:j=i
   ·subst hj
    rw[hi] at e1;cases e1;rw[List.getElem?_set_self hiσ] at e2;cases e2;exact ⟨u,r,.inl ⟨hk,by simp⟩⟩
   ·rw[List.getElem?_set_ne (Ne.symm hj)] at e2
    obtain ⟨u',r',q⟩:=hl j y v' e1 e2 e3;refine ⟨u',r',?_⟩
    rcases q with ⟨k,e⟩|⟨k,c,e,z⟩
    ·refine .inl ⟨k,?_⟩
     have:y≠x:=λe=>hj (qk1 hN e1 (e ▸ hi))
     simp[this,e]
    ·exact .inr ⟨k,c,e,z.sameBut hs (cne y c e)⟩
  ·obtain ⟨w',z⟩:=I.cell y c e
   exact ⟨w',z.sameBut hs (cne y c e)⟩
  ·obtain ⟨e,n,ne,nf,d⟩:=I.pin p hp
   exact ⟨(hs.2 p.1 ne).trans e,n,ne,nf,d⟩
 ·have hfn:X.fn x=true:=by
   rcases hf with z|z
   ·exact z
   ·rw[z] at hk;cases hk
  obtain ⟨c,hc⟩:=I.ok.has x (.inl hk);obtain ⟨w',z⟩:=I.cell x c hc;refine wpAny_storeName_cell I.ok.kind hk hc z (λh' hc' hs=>?_);obtain ⟨oc,hoc,hocd⟩:=id z;refine h { s with heap:=h' } ⟨I.ok,I.os,I.bare,⟨λb o e n hb hx=>?_,λb o e n hb hx=>?_,I.base.free,λb o e hx=>?_,I.base.tups,I.base.frzs,I.base.tbls⟩,⟨m,hn.sameBut hs (Ne.symm (cne x c hc)),λj y v' e1 e2 e3=>?_⟩,λy c' e=>?_,I.free,I.freeC,λp hp=>?_,tracked ⟨oc,hoc,I.freeC x c hc⟩ hs,by simpa using I.len⟩ ⟨c,hs,.inr hc⟩
  ·exact (hs.2 b (Nat.ne_of_lt (Nat.lt_of_lt_of_le (Heap.lt_size e) (I.ok.cab x c hfn hc)))).trans (I.base.keep b o e n hb hx)
  ·obtain ⟨sl,e1⟩:=I.base.slot b o e n hb hx
   exact ⟨sl,(hs.2 b (Nat.ne_of_lt (Nat.lt_of_lt_of_le (Heap.lt_size e) (I.ok.cab x c hfn hc)))).trans e1⟩
  ·obtain ⟨o',e1⟩:=I.base.there b o e hx
   exact ⟨o',(hs.2 b (Nat.ne_of_lt (Nat.lt_of_lt_of_le (Heap.lt_size e) (I.ok.cab x c hfn hc)))).trans e1⟩
  ·by_cases hj:j=i
   ·subst hj
    rw[hi] at e1;cases e1;rw[List.getElem?_set_self hiσ] at e2;cases e2;exact ⟨u,r,.inr ⟨.inl hk,c,hc,hc'⟩⟩
   ·rw[List.getElem?_set_ne (Ne.symm hj)] at e2
    obtain ⟨u',r',q⟩:=hl j y v' e1 e2 e3;refine ⟨u',r',?_⟩
    rcases q with q|⟨k,c',e,z'⟩
    ·exact .inl q
    ·refine .inr ⟨k,c',e,z'.sameBut hs ?_⟩
     rintro rfl;exact hj (qk1 hN e1 (I.ok.inj _ _ _ e hc ▸ hi))
  ·by_cases hcc:c'=c
   ·subst hcc;exact ⟨_,hc'⟩
   ·obtain ⟨w2,z2⟩:=I.cell y c' e
    exact ⟨w2,z2.sameBut hs hcc⟩
  ·obtain ⟨e,n,ne,nf,d⟩:=I.pin p hp
   refine ⟨(hs.2 p.1 ?_).trans e,n,ne,nf,d⟩;intro q;rw[q,hoc] at e;have q':oc=p.2:=Option.some.inj e;exact d w' (by rw[<- q'];exact hocd)
theorem qhh {M:Model} {A:Around} {E:Value->Shared->Prop} {i:Nat} {x:Str} {v:V} {u:Value} {Q:Unit->Shared->Prop} (I:Inv X pins σ H s) (hN:X.N.Nodup) (hi:X.N[i]?=some x) (hx:Loc X.env.scope x) (r:RelV v u)
  (h:∀ s',Inv X pins (σ.set i (some v)) H s'->Q () s') (hf:X.fn x=true\/X.env.scope.names.lookup x=some .local:=by first|exact .inl rfl|exact .inr rfl|assumption):wpAny M A (storeName X.env x u) Q E s:=
 qrq I hN hi hx r (λs' I' _=>h s' I') hf
theorem Inv.call' {s':Shared} {ch:List Addr} (I:Inv X pins σ H s) (ho:s'.os=s.os) (u:Un (frs X.stack) ch H H' s.heap s'.heap) (hok:HOk X.prog X.w H' s'.heap) (hg:AllBare s'.gens)
  (hch:∀ b∈ch,(b∈X.ex\/X.s₀.heap.objs.size<=b)/\b≠X.env.locals/\(∀ x c,X.env.cells.lookup x=some c->c≠b)/\∀ p∈X.pn ++ pins,p.1≠b):Inv X pins σ H' s':=by
 obtain ⟨h',g',d',t',o'⟩:=s';have e:o'=s.os:=ho;subst e;exact I.call (g':=g') (t':=t') (d':=d') u hok hg hch
end
abbrev XK:=Value->Option Addr->Hp->Prop
abbrev St:=List (Option V)
abbrev VK:=V->Hp->Prop
abbrev TE:=St->Hp->VK->Prop
abbrev TT:=St->Hp->(Bool->Hp->Prop)->Prop
abbrev TA:=St->Hp->(List V->Hp->Prop)->Prop
structure Ends where
 nx:St->Hp->Prop
 rt:VK
 bk:St->Hp->Prop:=λ_ _=>False
 ct:St->Hp->Prop:=λ_ _=>False
abbrev TS:=Ends->St->Hp->Prop
def EP (X:Cx) (pins:List (Addr×Obj)) (σ:St) (Q:VK) (u:Value) (s':Shared):Prop:=∃ v H',Inv X pins σ H' s'/\RelV v u/\Q v H'
def TP (X:Cx) (pins:List (Addr×Obj)) (σ:St) (Q:Bool->Hp->Prop) (b:Bool) (s':Shared):Prop:=∃ H',Inv X pins σ H' s'/\Q b H'
def AP (X:Cx) (pins:List (Addr×Obj)) (σ:St) (Q:List V->Hp->Prop) (us:List Value) (s':Shared):Prop:=∃ vs H',Inv X pins σ H' s'/\Vals vs us/\Q vs H'
def SP (X:Cx) (pins:List (Addr×Obj)) (D:Ends) (f:Flow) (s':Shared):Prop:=
 match f with
 | .next=>∃ σ' H',Inv X pins σ' H' s'/\D.nx σ' H'
 | .brk=>∃ σ' H',Inv X pins σ' H' s'/\D.bk σ' H'
 | .cont=>∃ σ' H',Inv X pins σ' H' s'/\D.ct σ' H'
 | .ret u=>∃ v σ' H',Inv X pins σ' H' s'/\RelV v u/\D.rt v H'
def PE (X:Cx) (e:Expr) (t:TE):Prop:=
 ∀ (pins:List (Addr×Obj)) (s:Shared) (σ:St) (H:Hp) (Q:VK),Inv X pins σ H s->t σ H Q->wpAny (model X.prog X.w) X.A (eval e X.env) (EP X pins σ Q) X.xe s
def PT (X:Cx) (e:Expr) (t:TT):Prop:=
 ∀ (pins:List (Addr×Obj)) (s:Shared) (σ:St) (H:Hp) (Q:Bool->Hp->Prop),Inv X pins σ H s->t σ H Q->wpAny (model X.prog X.w) X.A (isTrue e X.env (eval e X.env)) (TP X pins σ Q) X.xe s
def PW (X:Cx) (e:Expr) (t:TT):Prop:=
 ∀ (whole:Sem Value) (pins:List (Addr×Obj)) (s:Shared) (σ:St) (H:Hp) (Q:Bool->Hp->Prop),Inv X pins σ H s->t σ H Q->wpAny (model X.prog X.w) X.A (isTrue e X.env whole) (TP X pins σ Q) X.xe s
theorem PW.pt {X:Cx} {e:Expr} {t:TT} (h:PW X e t):PT X e t:=h _
def PA (X:Cx) (es:List Expr) (t:TA):Prop:=
 ∀ (pos:Pos) (pins:List (Addr×Obj)) (s:Shared) (σ:St) (H:Hp) (Q:List V->Hp->Prop),Inv X pins σ H s->t σ H Q->wpAny (model X.prog X.w) X.A (spliced (backTo pos (starEach es X.env))) (AP X pins σ Q) X.xe s
def PS (X:Cx) (st:Stmt) (t:TS):Prop:=
 ∀ (pins:List (Addr×Obj)) (s:Shared) (σ:St) (H:Hp) (D:Ends),Inv X pins σ H s->t D σ H->wpAny (model X.prog X.w) X.A (exec st X.env) (SP X pins D) X.xe s
def PSs (X:Cx) (st:List Stmt) (t:TS):Prop:=
 ∀ (pins:List (Addr×Obj)) (s:Shared) (σ:St) (H:Hp) (D:Ends),Inv X pins σ H s->t D σ H->wpAny (model X.prog X.w) X.A (execs st X.env) (SP X pins D) X.xe s
theorem thn {α:Type} {t:Sem α} {Q Q':α->Shared->Prop} {M:Model} {A:Around} {E:Value->Shared->Prop} {s:Shared} (h:wpAny M A t Q E s) (hQ:∀ a s,Q a s->Q' a s):wpAny M A t Q' E s:=wpAny_mono h hQ λ_ _ x=>x
open PySem PySem.Spec PyProof.Rows
section
variable {X:Cx}
inductive tVarS (i:Nat) (σ:St) (H:Hp) (Q:VK):Prop
 | mk (v:V) (h:σ[i]?=some (some v)) (k:Q v H)
def qDm (i:Nat):TE:=λσ H Q=>tVarS i σ H Q
def tC (v:V):TE:=λ_ H Q=>Q v H
theorem qzq {i:Nat} {x:Str} {pos:Pos} (hN:X.N[i]?=some x) (hv:Vis X.env.scope x) (hd:(x == ("__debug__" : Str))=false:=by decide) (hcd:(x == ("__classdict__" : Str))=false:=by decide):PE X (.Name x pos) (qDm i):=by
 intro pins s σ H Q I h;obtain ⟨v,e,h⟩:=h;obtain ⟨m,hn,hl⟩:=I.loc;obtain ⟨u,r,l⟩:=hl i x v hN e hv;have fin:EP X pins σ Q u s:=⟨v,H,I,r,h⟩
 rcases l with ⟨hk,hm⟩|⟨hk,c,hc,hcell⟩
 ·exact wpAny_Name (wpAny_loadName_local I.ok.kind hk hn hm fin) hd
 ·rcases hk with hk|hk
  ·exact wpAny_Name (wpAny_loadName_cell I.ok.kind hk hc hcell fin) hd
  ·exact wpAny_Name (wpAny_loadName_free I.ok.kind hk hc hcell fin hcd) hd
theorem qaa {i j pos}:PE X (.Constant (.int i) j pos) (tC (.int i)):=λ_ _ _ H _ I h=>wpAny_Constant_int ⟨.int i,H,I.tok _,⟨_,rfl⟩,h⟩
theorem qlw {b j pos}:PE X (.Constant (.bool b) j pos) (tC (.bl b)):=λ_ _ _ H _ I h=>Constant_bool ⟨.bl b,H,I,rfl,h⟩
theorem qau {j pos}:PE X (.Constant .none j pos) (tC .non):=λ_ _ _ H _ I h=>Constant_none ⟨.non,H,I,rfl,h⟩
theorem qb6 {x j pos}:PE X (.Constant (.str x) j pos) (tC (.str x)):=λ_ _ _ H _ I h=>Calls.Constant_str ⟨.str x,H,I.tok _,⟨_,rfl⟩,h⟩
def Gl (X:Cx) (x:Str):Prop:=X.env.kindOf x=some .globalImplicit
theorem qdp {E:Value->Shared->Prop} {pins:List (Addr×Obj)} {s:Shared} {σ:St} {H:Hp} {x:Str} {u:Value} {pos:Pos} {Q:Value->Shared->Prop} (I:Inv X pins σ H s) (hg:Gl X x) (hm:X.mg x=some u) (h:Q u s)
  (hd:(x == ("__debug__" : Str))=false:=by decide):wpAny (model X.prog X.w) X.A (eval (.Name x pos) X.env) Q E s:=
 Calls.Name_function_global I.ok.kind hg (Calls.loadGlobal_global (by rw[I.ok.glob];exact I.mod.glob.keeps I.bk) hm h) hd
theorem qhx {E:Value->Shared->Prop} {pins:List (Addr×Obj)} {s:Shared} {σ:St} {H:Hp} {x:Str} {u:Value} {pos:Pos} {Q:Value->Shared->Prop} (I:Inv X pins σ H s) (hg:Gl X x) (hm:X.mg x=none) (hv:bootBuiltins x=some u) (h:Q u s)
  (hn:x ≠ "__name__" :=by decide) (hd:(x == ("__debug__" : Str))=false:=by decide):wpAny (model X.prog X.w) X.A (eval (.Name x pos) X.env) Q E s:=by
 obtain ⟨mb,h1,h2⟩:=I.mod.blt;exact Calls.Name_function_global I.ok.kind hg (Calls.loadGlobal_builtin (by rw[I.ok.glob];exact I.mod.glob.keeps I.bk) hm (by rw[I.ok.blt];exact h1.keeps I.bk) ((h2 x hn).trans hv) h) hd
theorem qdd {x:Str} {v:V} {u:Value} {pos:Pos} (hg:Gl X x) (hm:X.mg x=some u) (r:RelV v u) (hd:(x == ("__debug__" : Str))=false:=by decide):PE X (.Name x pos) (tC v):=
 λ_ _ _ H _ I h=>qdp I hg hm ⟨v,H,I,r,h⟩ hd
theorem qhy {x:Str} {v:V} {u:Value} {pos:Pos} (hg:Gl X x) (hm:X.mg x=none) (hv:bootBuiltins x=some u) (r:RelV v u) (hn:x ≠ "__name__" :=by decide) (hd:(x == ("__debug__" : Str))=false:=by decide):PE X (.Name x pos) (tC v):=
 λ_ _ _ H _ I h=>qhx I hg hm hv ⟨v,H,I,r,h⟩ hn hd
variable {a b:Expr} {ta tb:TE} {pos:Pos}
def PC (X:Cx) (op:CmpOp) (a b:Expr) (t:TE):Prop:=
 ∀ (pins:List (Addr×Obj)) (s:Shared) (σ:St) (H:Hp) (Q:VK),Inv X pins σ H s->t σ H Q ->
  wpAny (model X.prog X.w) X.A (eval a X.env) (λv s₁=>wpAny (model X.prog X.w) X.A (eval b X.env) (λu s₂=>wpAny (model X.prog X.w) X.A (compareOp op v u) (EP X pins σ Q) X.xe s₂) X.xe s₁) X.xe s
theorem qut (b:Expr) {op:CmpOp} (h:op≠.In) (h2:op≠.NotIn):behindInMarks op b=false:=by
 have e1:(op == CmpOp.In)=false:=by cases op<;>first|rfl|exact absurd rfl h
 have e2:(op == CmpOp.NotIn)=false:=by cases op<;>first|rfl|exact absurd rfl h2
 cases b<;>simp[behindInMarks,e1,e2]
inductive tBS (x:V) (H:Hp) (Q:Bool->Hp->Prop):Prop
 | mk (c:Bool) (h:x=.bl c) (k:Q c H)
def tB (t:TE):TT:=λσ H Q=>t σ H λx H1=>tBS x H1 Q
theorem qwi {op:CmpOp} {t:TE} (h:PC X op a b t) (h1:behindInMarks op b=false:=by first|exact qut _ (by decide) (by decide)|rfl):PT X (.Compare a [op] [b] pos) (tB t):=by
 intro pins s σ H Q I hw;refine wpAny_isTrue_Compare1 (thn (h pins s σ H _ I hw) λv s1 h1=>thn h1 λu s2 h2=>thn h2 λc s3 hq__=>?_) h1;obtain ⟨x,H1,I1,r1,q1⟩:=hq__;obtain ⟨d,rfl,q⟩:=q1;cases r1;exact wpAny_truthy_bool ⟨H1,I1,q⟩
theorem qco {e:Expr} {t:TE} (h:PE X e t) (he:∀ whole,isTrue e X.env whole=(do let v <- whole;standAt e.pos;holding [v] (truthy v)):=by intro _;rfl):PT X e (tB t):=by
 intro pins s σ H Q I hw;refine isTrue_plain (thn (h pins s σ H _ I hw) λv s1 hq__=>?_) (he _);obtain ⟨x,H1,I1,r1,q1⟩:=hq__;obtain ⟨d,rfl,q⟩:=q1;cases r1;exact wpAny_truthy_bool ⟨H1,I1,q⟩
variable {tA tB':TT} {rest:List Expr}
def qD2 (t u:TT):TT:=λσ H Q=>t σ H λc H1=>if c=true then u σ H1 Q else Q false H1
def tOr (t u:TT):TT:=λσ H Q=>t σ H λc H1=>if c=true then Q true H1 else u σ H1 Q
def qD3 (t:TT):TT:=λσ H Q=>t σ H λc H1=>Q (!c) H1
theorem qhz (ha:PT X a tA):PW X (.BoolOp .And [a] pos) tA:=by
 intro wh pins s σ H Q I h;refine isTrue_and (thn (ha pins s σ H Q I h) λc s1 e=>?_)
 cases c with
 | true=>exact isTrue_and_nil e
 | false=>exact e
theorem qj2 (ha:PT X a tA):PW X (.BoolOp .Or [a] pos) tA:=by
 intro wh pins s σ H Q I h;refine isTrue_or (thn (ha pins s σ H Q I h) λc s1 e=>?_)
 cases c with
 | false=>exact isTrue_or_nil e
 | true=>exact e
theorem qlx (ha:PT X a tA) (hb:PW X (.BoolOp .And (b :: rest) pos) tB'):PW X (.BoolOp .And (a :: b :: rest) pos) (qD2 tA tB'):=by
 intro wh pins s σ H Q I h;refine isTrue_and (thn (ha pins s σ H _ I h) λc s1 hq__=>?_);obtain ⟨H1,I1,q1⟩:=hq__
 cases c with
 | true=>exact hb wh pins s1 σ H1 Q I1 q1
 | false=>exact ⟨H1,I1,q1⟩
theorem qly (ha:PT X a tA) (hb:PW X (.BoolOp .Or (b :: rest) pos) tB'):PW X (.BoolOp .Or (a :: b :: rest) pos) (tOr tA tB'):=by
 intro wh pins s σ H Q I h;refine isTrue_or (thn (ha pins s σ H _ I h) λc s1 hq__=>?_);obtain ⟨H1,I1,q1⟩:=hq__
 cases c with
 | true=>exact ⟨H1,I1,q1⟩
 | false=>exact hb wh pins s1 σ H1 Q I1 q1
theorem qlz (ha:PT X a tA):PT X (.UnaryOp .Not a pos) (qD3 tA):=by
 intro pins s σ H Q I h;exact isTrue_not (ha pins s σ H (λc H1=>Q (!c) H1) I h)
inductive tAndVS (tb:TE) (σ:St) (x:V) (H:Hp) (Q:VK):Prop
 | mk (c:Bool) (h:x=.bl c) (k:if c=true then tb σ H Q else Q (.bl false) H)
def qB4 (ta tb:TE):TE:=λσ H Q=>ta σ H λx H1=>tAndVS tb σ x H1 Q
inductive tOrVS (tb:TE) (σ:St) (x:V) (H:Hp) (Q:VK):Prop
 | mk (c:Bool) (h:x=.bl c) (k:if c=true then Q (.bl true) H else tb σ H Q)
inductive tNotVS (x:V) (H:Hp) (Q:VK):Prop
 | mk (c:Bool) (h:x=.bl c) (k:Q (.bl (!c)) H)
def qB5 (ta:TE):TE:=λσ H Q=>ta σ H λx H1=>tNotVS x H1 Q
theorem qh0 {op} {t:TE} (h:PE X a t):PE X (.BoolOp op [a] pos) t:=λpins s σ H Q I hw=>BoolOp_one (h pins s σ H Q I hw)
theorem qdx (ha:PE X a ta) (hb:PE X (.BoolOp .And (b :: rest) pos) tb):PE X (.BoolOp .And (a :: b :: rest) pos) (qB4 ta tb):=by
 intro pins s σ H Q I h;refine BoolOp_and (thn (ha pins s σ H _ I h) λv s1 hq__=>?_);obtain ⟨x,H1,I1,r1,q1⟩:=hq__;obtain ⟨c,rfl,q1⟩:=q1;cases r1;refine wpAny_truthy_bool ?_
 cases c with
 | true=>exact hb pins s1 σ H1 Q I1 q1
 | false=>exact ⟨.bl false,H1,I1,rfl,q1⟩
theorem qrr (ha:PE X a ta):PE X (.UnaryOp .Not a pos) (qB5 ta):=by
 intro pins s σ H Q I h;refine UnaryOp_ (thn (ha pins s σ H _ I h) λv s1 hq__=>?_);obtain ⟨x,H1,I1,r1,q1⟩:=hq__;obtain ⟨c,rfl,q1⟩:=q1;cases r1;exact not_of (wpAny_truthy_bool ⟨.bl (!c),H1,I1,rfl,q1⟩)
def tIf (t:TT) (ta tb:TE):TE:=λσ H Q=>t σ H λc H1=>if c=true then ta σ H1 Q else tb σ H1 Q
theorem qc3 {c:Expr} (hc:PT X c tA) (ha:PE X a ta) (hb:PE X b tb):PE X (.IfExp c a b pos) (tIf tA ta tb):=by
 intro pins s σ H Q I h;refine wpAny_IfExp (thn (hc pins s σ H _ I h) λd s1 hq__=>?_);obtain ⟨H1,I1,q1⟩:=hq__
 cases d with
 | true=>exact ha pins s1 σ H1 Q I1 q1
 | false=>exact hb pins s1 σ H1 Q I1 q1
end
open PySem PySem.Spec PyProof.Rows
def SqL (K:Frag) (H:Hp) (a:Addr) (xs:List V):Prop:=
 Rd H a (.lst xs) \/
  ∃ (o:Obj) (its:Array Value) (n:Nat),K.lookup a=some o/\o.cls=.type "list" /\ o.dict=none/\o.data=.seq its n/\its.size<=sizeLine/\Vals xs its.toList
def SqT (K:Frag) (H:Hp) (a:Addr) (xs:List V):Prop:=
 Rd H a (.tup xs) \/
  ∃ (o:Obj) (its:Array Value) (n:Nat),K.lookup a=some o/\o.cls=.type "tuple" /\ o.data=.seq its n/\its.size<=sizeLine/\Vals xs its.toList
def qD4:Value->Option V
 | .none=>some .non
 | .bool b=>some (.bl b)
 | .int i _=>some (.int i)
 | .str x _=>some (.str x)
 | .bytes b _=>some (.byt b)
 | .float b _=>some (.flt b)
 | .ref a=>some (.ref a)
 | .type n=>some (.ty n)
 | _=>none
theorem RelV.abs {x:V} {u:Value} (r:RelV x u):qD4 u=some x:=by
 cases x with
 | non=>cases r;rfl
 | bl _=>cases r;rfl
 | int _=>obtain ⟨t,rfl⟩:=r;rfl
 | str _=>obtain ⟨t,rfl⟩:=r;rfl
 | byt _=>obtain ⟨t,rfl⟩:=r;rfl
 | flt _=>obtain ⟨t,rfl⟩:=r;rfl
 | ref _=>cases r;rfl
 | ty _=>cases r;rfl
theorem RelV.inj {x y:V} {u:Value} (r:RelV x u) (q:RelV y u):x=y:=Option.some.inj (r.abs.symm.trans q.abs)
theorem Vals.inj:∀ {xs ys:List V} {us:List Value},Vals xs us->Vals ys us->xs=ys
 | _,_,_,.nil,.nil=>rfl
 | _,_,_,.cons r t,.cons r' t'=>by rw[r.inj r',Vals.inj t t']
section
variable {X:Cx} {pins:List (Addr×Obj)} {σ:St} {H:Hp} {s:Shared} {a:Addr} {xs ys:List V}
theorem SqL.of {K:Frag} (h:H a=some (.lst xs)):SqL K H a xs:=.inl (.inl h)
theorem SqT.of {K:Frag} (h:H a=some (.tup xs)):SqT K H a xs:=.inl (.inl h)
theorem Inv.list (I:Inv X pins σ H s) (h:SqL X.K H a xs):∃ its:List Value,Vals xs its/\PlainL s.heap a its.toArray/\xs.length<=sizeLine:=by
 rcases h with h|⟨o,its,n,hk,hc,hd,hs,hz,r⟩
 ·obtain ⟨z,its,n,r,e⟩:=h.ok I.hok
  exact ⟨its,r,⟨_,n,e,rfl,rfl,rfl⟩,z⟩
 ·refine ⟨its.toList,r,⟨o,n,I.kIn a o hk,hc,hd,by simpa using hs⟩,?_⟩
  have e:=r.length;simp only[Array.length_toList] at e;omega
theorem Inv.tuple (I:Inv X pins σ H s) (h:SqT X.K H a xs):∃ its:List Value,Vals xs its/\IsTup s.heap a its.toArray/\xs.length<=sizeLine:=by
 rcases h with h|⟨o,its,n,hk,hc,hs,hz,r⟩
 ·obtain ⟨z,its,r,p⟩:=h.ok I.hok
  exact ⟨its,r,p,z⟩
 ·refine ⟨its.toList,r,⟨o,I.kIn a o hk,hc,n,by simpa using hs⟩,?_⟩
  have e:=r.length;simp only[Array.length_toList] at e;omega
theorem Inv.list_inj (I:Inv X pins σ H s) (h:SqL X.K H a xs) (h':SqL X.K H a ys):xs=ys:=by
 obtain ⟨its,r,⟨o,n,e,_,_,d⟩,_⟩:=I.list h;obtain ⟨its',r',⟨o',n',e',_,_,d'⟩,_⟩:=I.list h';rw[e] at e';cases e';rw[d] at d';injection d' with d1 _
 have:its=its':=by simpa using congrArg Array.toList d1
 subst this;exact r.inj r'
end
abbrev Cx.wish (X:Cx) (E:Value->Shared->Prop):Cx:={ X with xe:=E }
abbrev Cx.nox (X:Cx):Cx:=X.wish λ_ _=>False
theorem Cx.Ok.wish {X:Cx} (ok:X.Ok) (E:Value->Shared->Prop):(X.wish E).Ok:=
 ⟨ok.mod,ok.kind,ok.glob,ok.blt,ok.above,ok.inj,ok.has,ok.cab,ok.hd,ok.frames,ok.stk,ok.exf,ok.bs,ok.bsz,ok.noex,ok.exfs,ok.funs,ok.frf⟩
theorem Cx.Ok.unwish {X:Cx} {E:Value->Shared->Prop} (ok:(X.wish E).Ok):X.Ok:=
 ⟨ok.mod,ok.kind,ok.glob,ok.blt,ok.above,ok.inj,ok.has,ok.cab,ok.hd,ok.frames,ok.stk,ok.exf,ok.bs,ok.bsz,ok.noex,ok.exfs,ok.funs,ok.frf⟩
section
variable {X:Cx} {pins:List (Addr×Obj)} {σ:St} {H:Hp} {s:Shared} {E:Value->Shared->Prop}
theorem Inv.wish (I:Inv X pins σ H s) (E:Value->Shared->Prop):Inv (X.wish E) pins σ H s:=⟨I.ok.wish E,I.os,I.bare,I.base,I.loc,I.cell,I.free,I.freeC,I.pin,I.hok,I.len⟩
theorem Inv.unwish (I:Inv (X.wish E) pins σ H s):Inv X pins σ H s:=⟨I.ok.unwish,I.os,I.bare,I.base,I.loc,I.cell,I.free,I.freeC,I.pin,I.hok,I.len⟩
theorem SP.unwish {D:Ends} {f:Flow} {s':Shared} (h:SP (X.wish E) pins D f s'):SP X pins D f s':=by
 cases f with
 | next=>obtain ⟨σ',H',I,q⟩:=h;exact ⟨σ',H',I.unwish,q⟩
 | brk=>obtain ⟨σ',H',I,q⟩:=h;exact ⟨σ',H',I.unwish,q⟩
 | cont=>obtain ⟨σ',H',I,q⟩:=h;exact ⟨σ',H',I.unwish,q⟩
 | ret u=>obtain ⟨v,σ',H',I,r,q⟩:=h;exact ⟨v,σ',H',I.unwish,r,q⟩
theorem PSs.nox {st:List Stmt} {t:TS} (h:PSs X.nox st t):PSs X st t:=λpins s σ H D I hw =>
 wpAny_mono (h pins s σ H D (I.wish _) hw) (λ_ _ q=>q.unwish) λ_ _ z=>False.elim z
end
section
variable {X:Cx} {st:Stmt} {rest:List Stmt} {t u:TS} {e:Expr} {te:TE} {pos:Pos}
def quu:TS:=λD σ H=>D.nx σ H
def qck (t u:TS):TS:=λD σ H=>t { D with nx:=u D } σ H
theorem qam:PSs X [] quu:=λ_ _ σ H _ I h=>wpAny_execs_nil ⟨σ,H,I,h⟩
theorem qaj (h1:PS X st t) (h2:PSs X rest u):PSs X (st :: rest) (qck t u):=by
 intro pins s σ H D I h;refine wpAny_execs_cons (thn (h1 pins s σ H { D with nx:=u D } I h) λf s1 q=>?_)
 cases f with
 | next =>
  obtain ⟨σ',H',I',q⟩:=q;exact h2 pins s1 σ' H' D I' q
 | ret v=>exact q
 | brk=>exact q
 | cont=>exact q
theorem qac (h1:PS X st t):PSs X [st] t:=by
 intro pins s σ H D I h;refine wpAny_execs_cons (thn (h1 pins s σ H D I h) λf s1 q=>?_)
 cases f with
 | next=>exact wpAny_execs_nil q
 | ret v=>exact q
 | brk=>exact q
 | cont=>exact q
theorem Inv.quiet {pins:List (Addr×Obj)} {σ:St} {H:Hp} {s:Shared} (I:Inv X pins σ H s):interactive X.env=false:=by simp[interactive,I.ok.kind]
def qB6 (te:TE):TS:=λD σ H=>te σ H λ_ H1=>D.nx σ H1
theorem qa0 (he:PE X e te) (hs:swapsWith e none pos.line X.env=pure false:=by rfl):PS X (.Expr e pos) (qB6 te):=by
 intro pins s σ H D I h;exact wpAny_Expr_any (thn (he pins s σ H _ I h) λv s1 ⟨x,H1,I1,r1,q1⟩=>⟨σ,H1,I1,q1⟩) I.quiet hs
def qD5 (te:TE):TS:=λD σ H=>te σ H D.rt
theorem qaf (he:PE X e te):PS X (.Return (some e) pos) (qD5 te):=by
 intro pins s σ H D I h;exact wpAny_Return_some (thn (he pins s σ H _ I h) λv s1 ⟨x,H1,I1,r1,q1⟩=>⟨x,σ,H1,I1,r1,q1⟩)
def qB7:TS:=λD _ H=>D.rt .non H
theorem qxm:PS X (.Return none pos) qB7:=λ_ _ σ H _ I h=>wpAny_Return_none ⟨.non,σ,H,I,rfl,h⟩
def qzr (c:TT) (t u:TS):TS:=λD σ H=>c σ H λb H1=>if b=true then t D σ H1 else u D σ H1
theorem qav {c:Expr} {a b:List Stmt} {tc:TT} (hc:PT X c tc) (ha:PSs X a t) (hb:PSs X b u):PS X (.If c a b pos) (qzr tc t u):=by
 intro pins s σ H D I h;refine wpAny_If (thn (hc pins s σ H _ I h) λd s1 hq__=>?_);obtain ⟨H1,I1,q1⟩:=hq__
 cases d with
 | true=>exact ha pins s1 σ H1 D I1 q1
 | false=>exact hb pins s1 σ H1 D I1 q1
def qzs:TS:=λ_ _ _=>False
theorem qc4:PS X st qzs:=λ_ _ _ _ _ _ h=>h.elim
end
abbrev TG:=V->St->Hp->(St->Hp->Prop)->Prop
abbrev TGs:=List V->St->Hp->(St->Hp->Prop)->Prop
def PG (X:Cx) (target:Expr) (t:TG):Prop:=
 ∀ (pins:List (Addr×Obj)) (s:Shared) (σ:St) (H:Hp) (v:V) (u:Value) (Q:St->Hp->Prop),Inv X pins σ H s->RelV v u->t v σ H Q ->
  wpAny (model X.prog X.w) X.A (assign target X.env u) (λ_ s'=>∃ σ' H',Inv X pins σ' H' s'/\Q σ' H') X.xe s
def PGs (X:Cx) (ts:List Expr) (t:TGs):Prop:=
 ∀ (pins:List (Addr×Obj)) (s:Shared) (σ:St) (H:Hp) (vs:List V) (us:List Value) (Q:St->Hp->Prop),Inv X pins σ H s->Vals vs us->t vs σ H Q ->
  wpAny (model X.prog X.w) X.A (assignInOrder ((assignEach ts X.env).map (·.2)) us) (λ_ s'=>∃ σ' H',Inv X pins σ' H' s'/\Q σ' H') X.xe s
abbrev TIp:=V->V->Hp->VK->Prop
def PIp (X:Cx) (op:Operator) (t:TIp):Prop:=
 ∀ (pins:List (Addr×Obj)) (s:Shared) (σ:St) (H:Hp) (x y:V) (v u:Value) (Q:VK),Inv X pins σ H s->RelV x v->RelV y u->t x y H Q ->
  wpAny (model X.prog X.w) X.A (inplaceOp op v u) (EP X pins σ Q) X.xe s
section
variable {X:Cx} {pos:Pos}
def qd3 (i:Nat):TG:=λv σ H Q=>Q (σ.set i (some v)) H
theorem qn3 {i:Nat} {x:Str} (hN:X.N.Nodup) (hi:X.N[i]?=some x) (hx:Loc X.env.scope x) (hf:X.fn x=true\/X.env.scope.names.lookup x=some .local:=by first|exact .inl rfl|exact .inr rfl|assumption):PG X (.Name x pos) (qd3 i):=by
 intro pins s σ H v u Q I r h;exact wpAny_assign_Name (qhh I hN hi hx r (λs' I'=>⟨_,H,I',h⟩) hf)
def qzg:TGs:=λvs σ H Q=>vs=[]/\Q σ H
def qg9 (t:TG) (u:TGs):TGs:=λvs σ H Q=>∃ v r,vs=v :: r/\t v σ H λσ' H'=>u r σ' H' Q
theorem qrs:PGs X [] qzg:=by
 intro pins s σ H vs us Q I r h;obtain ⟨e,h⟩:=h;subst e;cases r;exact assignInOrder_nil ⟨σ,H,I,h⟩
theorem qfb {e:Expr} {es:List Expr} {t:TG} {u:TGs} (h1:PG X e t) (h2:PGs X es u)
  (hs:(assignEach (e :: es) X.env).map (·.2)=assign e X.env :: (assignEach es X.env).map (·.2):=by rfl):PGs X (e :: es) (qg9 t u):=by
 intro pins s σ H vs us Q I r h;obtain ⟨v,vr,e1,h⟩:=h;subst e1
 cases r with
 | cons r rr =>
  rw[hs];refine assignInOrder_cons (thn (h1 pins s σ H _ _ _ I r h) λ_ s1 hq__=>?_);obtain ⟨σ1,H1,I1,q1⟩:=hq__;exact h2 pins s1 σ1 H1 _ _ Q I1 rr q1
def qzh (K:Frag) (n:Nat) (t:TGs):TG:=λv σ H Q=>∃ a xs,v=.ref a/\SqT K H a xs/\xs.length=n/\t xs σ H Q
theorem qwj {es:List Expr} {k:Nat} {t:TGs} {n:Nat} (hc:X.calm=true) (h:PGs X es t)
  (hn:(assignEach es X.env).length=n:=by rfl) (hst:(assignEach es X.env).findIdx? (·.1)=none:=by rfl):PG X (.Tuple es k pos) (qzh X.K n t):=by
 intro pins s σ H v u Q I r hw;obtain ⟨a,xs,e1,hq,hl,hw⟩:=hw;subst e1;cases r;obtain ⟨its,rv,ht,hz⟩:=I.tuple hq;refine assign_Tuple_tuple (I.ok.hd hc) ht (by simp[hn,<- hl,rv.length]) hst λh' hx=>?_
 have I1:Inv X pins σ H { s with heap:=h' }:=I.kept (t':=s.toks) λb o e=>hx b o (Nat.ne_of_lt (Heap.lt_size e)) e
 exact h pins _ σ H xs _ Q I1 (by simpa using rv) hw
def qBt (te:TE) (g:TG):TS:=λD σ H=>te σ H λx H1=>g x σ H1 D.nx
theorem qj3 {tg e:Expr} {te:TE} {g:TG} (he:PE X e te) (hg:PG X tg g) (hs:swapsWithSole [tg] e pos.line X.env=pure false:=by rfl) (hw:swappedStores [tg] e X.env=pure none:=by rfl)
  (h1:(assignEach [tg] X.env).map (·.2)=[assign tg X.env]:=by rfl):PS X (.Assign [tg] e pos) (qBt te g):=by
 intro pins s σ H D I h;refine wpAny_Assign_stores (thn (he pins s σ H _ I h) λv s1 hq__=>?_) hs hw;obtain ⟨x,H1,I1,r1,q1⟩:=hq__;rw[h1];exact thn (hg pins s1 σ H1 x v _ I1 r1 q1) λ_ s2 q=>q
theorem qrt {i:Nat} {x:Str} {e:Expr} {te:TE} {pos':Pos} (hN:X.N.Nodup) (hi:X.N[i]?=some x) (hx:Loc X.env.scope x) (he:PE X e te) (hs:swapsWith e (some (.Name x pos')) pos.line X.env=pure false:=by rfl) (hf:X.fn x=true\/X.env.scope.names.lookup x=some .local:=by first|exact .inl rfl|exact .inr rfl|assumption) :
  PS X (.Assign [.Name x pos'] e pos) (qBt te (qd3 i)):=by
 intro pins s σ H D I h;refine wpAny_Assign_Name (thn (he pins s σ H _ I h) λv s1 hq__=>?_) hs;obtain ⟨y,H1,I1,r1,q1⟩:=hq__;exact qhh I1 hN hi hx r1 (λs2 I2=>⟨_,H1,I2,q1⟩) hf
def qD6 (i:Nat) (te:TE) (ti:TIp):TS:=λD σ H=>∃ x,σ[i]?=some (some x)/\te σ H λy H1=>ti x y H1 λz H2=>D.nx (σ.set i (some z)) H2
theorem qwk {i:Nat} {x:Str} {e:Expr} {te:TE} {op:Operator} {ti:TIp} {pos':Pos} (hN:X.N.Nodup) (hi:X.N[i]?=some x) (hx:Loc X.env.scope x) (he:PE X e te) (ho:PIp X op ti) (hf:X.fn x=true\/X.env.scope.names.lookup x=some .local:=by first|exact .inl rfl|exact .inr rfl|assumption) :
  PS X (.AugAssign (.Name x pos') op e pos) (qD6 i te ti):=by
 intro pins s σ H D I h;obtain ⟨v,e1,h⟩:=h;obtain ⟨m,hn,hl⟩:=I.loc;have vis:Vis X.env.scope x:=by rcases hx with k|k;exact .inl k;exact .inr (.inl k)
 obtain ⟨u,r,l⟩:=hl i x v hi e1 vis;refine wpAny_AugAssign_Name ?_;have go:wpAny (model X.prog X.w) X.A (eval e X.env) (λw s₂=>wpAny (model X.prog X.w) X.A (inplaceOp op u w) (λr s₃=>wpAny (model X.prog X.w) X.A (storeName X.env x r) (λ_=>SP X pins D .next) X.xe s₃) X.xe s₂) X.xe s:=by
  refine thn (he pins s σ H _ I h) λw s1 hq__=>?_
  obtain ⟨y,H1,I1,r1,q1⟩:=hq__;refine thn (ho pins s1 σ H1 v y u w _ I1 r r1 q1) λz s2 hq__=>?_
  obtain ⟨zv,H2,I2,r2,q2⟩:=hq__;exact qhh I2 hN hi hx r2 (λs3 I3=>⟨_,H2,I3,q2⟩) hf
 rcases l with ⟨hk,hm⟩|⟨hk,c,hc,hcell⟩
 ·exact wpAny_loadName_local I.ok.kind hk hn hm go
 ·rcases hk with hk|hk
  ·exact wpAny_loadName_cell I.ok.kind hk hc hcell go
  ·rcases hx with k|k
   ·have:X.env.scope.names.lookup x=some .free:=hk
    rw[k] at this;cases this
   ·have:X.env.scope.names.lookup x=some .free:=hk
    rw[k] at this;cases this
end
section
variable {X:Cx} {pos:Pos}
def qwl (c:TT) (tb:TS):TS:=λD σ H=>∃ W:Nat->St->Hp->Prop,(∃ m,W m σ H)/\∀ m σ H,W m σ H ->
 c σ H λb H1=>if b=true then ∃ N:St->Hp->Prop,(∀ σ' H',N σ' H'->∃ m',m'<m/\W m' σ' H')/\tb { D with nx:=N,ct:=N,bk:=D.nx } σ H1 else D.nx σ H1
theorem quv {c:Expr} {body:List Stmt} {tc:TT} {tb:TS} (hp:PassesOwn (model X.prog X.w) X.A X.env X.xe) (hc:PT X c tc) (hb:PSs X body tb):PS X (.While c body [] pos) (qwl tc tb):=by
 intro pins s σ H D I h;obtain ⟨W,⟨m0,w0⟩,turn⟩:=h;refine wpAny_While (codeAny_whileLoop (λn s'=>∃ σ' H',Inv X pins σ' H' s'/\W n σ' H') ?_ m0 ⟨σ,H,I,w0⟩);rintro n s1 ⟨σ1,H1,I1,w1⟩;refine wpAny_passesOwn hp (thn (hc pins s1 σ1 H1 _ I1 (turn n σ1 H1 w1)) λb s2 hq__=>?_);obtain ⟨H2,I2,q2⟩:=hq__
 cases b with
 | true =>
  obtain ⟨N,hN,q2⟩:=q2;rw[if_pos rfl];refine wpAny_passesOwn hp (thn (hb pins s2 σ1 H2 _ I2 q2) λf s3 q3=>?_)
  cases f with
  | next =>
   obtain ⟨σ3,H3,I3,n3⟩:=q3;obtain ⟨m',hm,w3⟩:=hN σ3 H3 n3;exact ⟨m',hm,σ3,H3,I3,w3⟩
  | cont =>
   obtain ⟨σ3,H3,I3,n3⟩:=q3;obtain ⟨m',hm,w3⟩:=hN σ3 H3 n3;exact ⟨m',hm,σ3,H3,I3,w3⟩
  | brk=>exact q3
  | ret v=>exact q3
 | false =>
  rw[if_neg Bool.false_ne_true];exact wpAny_execs_nil ⟨σ1,H2,I2,q2⟩
end
structure It where
 go:Nat->Hp->Prop
 yld:Nat->Hp->V->Hp->Prop
 stop:Nat->Hp->Prop
def qqk (X:Cx) (pins:List (Addr×Obj)) (H:Hp) (b:Addr):Prop:=
 H b=none/\b≠X.env.locals/\b ∉ X.fs/\(b∈X.ex\/X.s₀.heap.objs.size<=b)/\(∀ x c,X.env.cells.lookup x=some c->c≠b)/\∀ p∈X.pn ++ pins,p.1≠b
theorem Inv.fpOk {X:Cx} {pins:List (Addr×Obj)} {σ:St} {H H':Hp} {s:Shared} {b:Addr} (I:Inv X pins σ H s) (hb:s.heap.objs.size<=b) (hn:H' b=none):qqk X pins H' b:=by
 refine ⟨hn,Nat.ne_of_gt (Nat.lt_of_lt_of_le I.lt hb),I.nofs hb,.inr (Nat.le_trans I.sz hb),λx c e z=>?_,λp hp z=>?_⟩
 ·obtain ⟨v,q⟩:=I.cell x c e
  exact absurd (Nat.lt_of_lt_of_le q.lt (by rw[z];exact hb)) (Nat.lt_irrefl _)
 ·exact absurd (Nat.lt_of_lt_of_le (Heap.lt_size (I.pin p hp).1) (by rw[z];exact hb)) (Nat.lt_irrefl _)
structure Turn (P:Program) (w:World) (K:Frag) (tg:Expr) (J:It) (fp:List Addr) (it:Addr) (tn:Nat->Heap->Prop):Prop where
 mem:it∈fp
 obj:∀ i h,tn i h->∀ b∈fp,∃ o,h.get? b=some o/\∀ v,o.data≠.cell v
 keep:∀ i h h',tn i h->(∀ b∈fp,∀ o,h.get? b=some o->h'.get? b=some o)->tn i h'
 item:∀ (X:Cx),X.prog=P->X.w=w->X.K=K->X.calm=true->∀ (i:Nat) (pins:List (Addr×Obj)) (s:Shared) (σ:St) (H:Hp) (E:Value->Shared->Prop),Inv X pins σ H s->(∀ b∈fp,qqk X pins H b)->tn i s.heap->J.go i H ->
  wpAny (model P w) X.A (pyNext (.ref it)) (λr s1=>∃ u,r=some u /\
   wpAny (model P w) X.A (letOwnedTupleGo tg (.ref it) u) (λ_ s2=>∃ x H',Inv X pins σ H' s2/\RelV x u/\J.yld i H x H'/\tn (i+1) s2.heap/\∀ b∈fp,H' b=none) E s1) E s
 done:∀ (X:Cx),X.prog=P->X.w=w->X.K=K->X.calm=true->∀ (i:Nat) (pins:List (Addr×Obj)) (s:Shared) (σ:St) (H:Hp) (E:Value->Shared->Prop),Inv X pins σ H s->(∀ b∈fp,qqk X pins H b)->tn i s.heap->J.stop i H ->
  wpAny (model P w) X.A (pyNext (.ref it)) (λr s1=>r=none/\Inv X pins σ H s1) E s
 self:∀ (A:Around) (i:Nat) (s:Shared) (Q:Value->Shared->Prop) (E:Value->Shared->Prop),tn i s.heap->Q (.ref it) s->wpAny (model P w) A (pyIter (.ref it)) Q E s
abbrev TI:=St->Hp->(It->Hp->Prop)->Prop
def PIE (X:Cx) (pins:List (Addr×Obj)) (σ:St) (tg:Expr) (R:It->Hp->Prop) (itv:Value) (s2:Shared):Prop:=
 ∃ (it:Addr) (fp:List Addr) (tn:Nat->Heap->Prop) (J:It) (H':Hp),itv=.ref it/\Inv X pins σ H' s2/\Turn X.prog X.w X.K tg J fp it tn/\tn 0 s2.heap/\(∀ b∈fp,qqk X pins H' b)/\R J H'
def PI (X:Cx) (tg iter:Expr) (wi:TI):Prop:=
 ∀ (pins:List (Addr×Obj)) (s:Shared) (σ:St) (H:Hp) (R:It->Hp->Prop),Inv X pins σ H s->wi σ H R ->
  wpAny (model X.prog X.w) X.A (eval iter X.env) (λv s1=>wpAny (model X.prog X.w) X.A (pyIter v) (PIE X pins σ tg R) X.xe s1) X.xe s
theorem qzt {M:Model} {A:Around} {E:Value->Shared->Prop} {s:Shared} {tg:Expr} {it:Addr} {u:Value} {o:Obj} {n:String} {vs:Array Value} {Q:Unit->Shared->Prop} (ho:s.heap.get? it=some o) (hc:o.cls=.type n) (hd:o.data=.fields vs)
  (hn:["enumerate", "zip", "dict_itemiterator", "dict_reverseitemiterator", "odict_iterator", "itertools.zip_longest", "itertools.pairwise"].contains n=false) (hQ:Q () s):wpAny M A (letOwnedTupleGo tg (.ref it) u) Q E s:=by
 unfold letOwnedTupleGo
 cases tg<;>first
  | exact wpAny_pure hQ
  | (cases u<;>first
    | exact wpAny_pure hQ
    | (refine wpAny_bind (wpAny_load ho ?_)
       rw[hc,hd]
       show wpAny M A (if (["enumerate", "zip", "dict_itemiterator", "dict_reverseitemiterator", "odict_iterator", "itertools.zip_longest", "itertools.pairwise"].contains n && vs[0]? == some (rawInt _))=true then _ else _) Q E s
       rw[if_neg (by intro h;rw[hn,Bool.false_and] at h;cases h)];exact wpAny_pure hQ))
def Itl (K:Frag) (a:Addr):It:=
 ⟨λi H=>∃ xs x,SqL K H a xs/\xs[i]?=some x,λi H x H'=>H'=H/\∀ xs,SqL K H a xs->xs[i]?=some x,λi H=>∃ xs,SqL K H a xs/\xs.length<=i⟩
def Itr (lo:Int) (n:Nat):It:=⟨λi _=>i<n,λi H x H'=>H'=H/\x=.int (lo+i),λi _=>n<=i⟩
theorem qru {P:Program} {w:World} {K:Frag} {tg:Expr} (a it:Addr):Turn P w K tg (Itl K a) [it] it (λi h=>h.IsListIter it a i) where
 mem:=by simp
 obj:=λi h st b hb=>by
  have e:b=it:=by simpa using hb
  subst e;obtain ⟨o,e,c,d⟩:=st;exact ⟨o,e,λv z=>by rw[d] at z;cases z⟩
 keep:=λi h h' st k=>st.at λo e=>k it (by simp) o e
 item:=by
  intro X hP hw hK hc i pins s σ H E I hf st hg;subst hP hw hK;obtain ⟨xs,x,hq,hx⟩:=hg;obtain ⟨its,rv,p,hz⟩:=I.list hq;obtain ⟨u,hu,ru⟩:=rv.get hx;obtain ⟨f0,f1,f2,f3,f4,f5⟩:=hf it (by simp);refine wpAny_pyNext_list_item st p.isList (x:=u) (by simpa using hu) λh' st' sb=>?_
  have I1:Inv X pins σ H { s with heap:=h' }:=I.turned (t':=s.toks) (λb o hb e=>(sb.2 b hb).trans e) f0 f1 f3 f4 f5;obtain ⟨o,e,c,d⟩:=id st';exact ⟨u,rfl,qzt (s:={ s with heap:=h' }) e c d (by decide) ⟨x,H,I1,ru,⟨rfl,λys hy=>by rw[I.list_inj hy hq];exact hx⟩,st',λb hb=>(hf b hb).1⟩⟩
 done:=by
  intro X hP hw hK hc i pins s σ H E I hf st hg;subst hP hw hK;obtain ⟨xs,hq,hx⟩:=hg;obtain ⟨its,rv,p,hz⟩:=I.list hq;obtain ⟨f0,f1,f2,f3,f4,f5⟩:=hf it (by simp);have hl:=rv.length;exact wpAny_pyNext_list_end (I.ok.hd hc) st p.isList (by simp;omega) λh' eb=>⟨rfl,I.turned (t':=s.toks) (λb o hb e=>eb b o hb e) f0 f1 f3 f4 f5⟩
 self:=λ_ _ _ _ _ st h=>wpAny_pyIter_listiter st h
theorem qql {P:Program} {w:World} {K:Frag} {tg:Expr} (it:Addr) (lo:Int) (n:Nat):Turn P w K tg (Itr lo n) [it] it (λi h=>IsRangeIter h it (lo+(i:Nat)*1) ((n:Int)-(i:Nat)) 1) where
 mem:=by simp
 obj:=λi h st b hb=>by
  have e:b=it:=by simpa using hb
  subst e;exact ⟨_,st,λv z=>by
   have z':Data.fields _=Data.cell v:=z
   cases z'⟩
 keep:=λi h h' st k=>k it (by simp) _ st
 item:=by
  intro X hP hw hK hc i pins s σ H E I hf st hg;subst hP hw hK;obtain ⟨f0,f1,f2,f3,f4,f5⟩:=hf it (by simp);have W:=Walks.range (prog:=X.prog) (w:=X.w) (I.ok.hd hc) it lo 1 n;refine W.item i s _ _ hg st λv h' tk hv st' kk=>?_
  obtain ⟨t,rfl⟩:=hv;have I1:Inv X pins σ H { s with heap:=h',toks:=tk }:=I.turned (λb o hb e=>kk b o (by simpa using hb) e) f0 f1 f3 f4 f5;refine ⟨_,rfl,qzt (s:={ s with heap:=h',toks:=tk }) (n:= "range_iterator") st' rfl rfl (by decide) ⟨.int (lo+i),H,I1,⟨t,?_⟩,⟨rfl,rfl⟩,st',λb hb=>(hf b hb).1⟩⟩;rw[Int.mul_one]
 done:=by
  intro X hP hw hK hc i pins s σ H E I hf st hg;subst hP hw hK;obtain ⟨f0,f1,f2,f3,f4,f5⟩:=hf it (by simp);exact wpAny_pyNext_range_end (I.ok.hd hc) st (by have:n<=i:=hg;omega) λh' eb=>⟨rfl,I.turned (t':=s.toks) (λb o hb e=>eb b o hb e) f0 f1 f3 f4 f5⟩
 self:=λ_ _ _ _ _ st h=>wpAny_pyIter_rangeiter st h
open PySem PySem.Spec PyProof.Rows
section
variable {X:Cx} {tg:Expr}
def qB8 (K:Frag) (tl:TE):TI:=λσ H R=>tl σ H λx H1=>∃ a,x=.ref a/\(∃ xs,SqL K H1 a xs)/\R (Itl K a) H1
theorem qap {l:Expr} {tl:TE} (hl:PE X l tl):PI X tg l (qB8 X.K tl):=by
 intro pins s σ H R I h;refine thn (hl pins s σ H _ I h) λv s1 hq__=>?_
 obtain ⟨x,H1,I1,r1,q1⟩:=hq__;obtain ⟨a,e,⟨xs,hq⟩,q⟩:=q1;subst e;cases r1;obtain ⟨its,rv,p,hz⟩:=I1.list hq;refine wpAny_pyIter_list p.isList ?_;refine ⟨s1.heap.objs.size,[s1.heap.objs.size],_,_,H1,rfl,I1.kept (t':=s1.toks) λb o e=>Heap.get?_push_of_some _ e,qru a _,⟨_,Heap.get?_push_size _ rfl,rfl,rfl⟩,λb hb=>?_,q⟩;have e:b=s1.heap.objs.size:=by simpa using hb
 subst e;exact I1.fpOk (Nat.le_refl _) (I1.hok.fresh (Nat.le_refl _))
theorem quw {pins:List (Addr×Obj)} {σ:St} {H:Hp} {s:Shared} {R:It->Hp->Prop} {E:Value->Shared->Prop} {lo hi:Int} {t u v:Tok} {tk:Nat} (I:Inv X pins σ H s) (h1:-(2 ^ 62)<=lo) (h2:lo<2 ^ 62) (h3:-(2 ^ 62)<=hi) (h4:hi<2 ^ 62)
  (q:R (Itr lo (hi-lo).toNat) H):wpAny (model X.prog X.w) X.A (pyIter (.ref s.heap.objs.size)) (PIE X pins σ tg R) E { s with heap:=s.heap.push { cls:=.type "range",data:=.fields #[.int lo t,.int hi u,.int 1 v] },toks:=tk }:=by
 refine wpAny_pyIter_range (IsRange.new ..) (small_one h1 h2 h3 h4) ?_;have I1:Inv X pins σ H { s with heap:=s.heap.push { cls:=.type "range",data:=.fields #[.int lo t,.int hi u,.int 1 v] },toks:=tk }:=I.kept λb o e=>Heap.get?_push_of_some _ e
 refine ⟨(s.heap.push { cls:=.type "range",data:=.fields #[.int lo t,.int hi u,.int 1 v] }).objs.size,[(s.heap.push { cls:=.type "range",data:=.fields #[.int lo t,.int hi u,.int 1 v] }).objs.size],_,_,H,rfl,
  I1.kept (t':=tk) λb o e=>Heap.get?_push_of_some _ e,qql _ lo (hi-lo).toNat,?_,λb hb=>?_,q⟩
 ·have e1:lo+((0:Nat):Int)*1=lo:=by simp
  have e2:(((hi-lo).toNat:Nat):Int)-((0:Nat):Int)=Builtin.Range.rangeSize lo hi 1:=by rw[rangeSize_one];split<;>omega
  show IsRangeIter _ _ (lo+((0:Nat):Int)*1) ((((hi-lo).toNat:Nat):Int)-((0:Nat):Int)) 1
  rw[e1,e2];exact Heap.get?_push_size _ rfl
 ·have e:b=(s.heap.push { cls:=.type "range",data:=.fields #[.int lo t,.int hi u,.int 1 v] }).objs.size:=by simpa using hb
  subst e;exact I1.fpOk (Nat.le_refl _) (I1.hok.fresh (Nat.le_refl _))
def qB9 (ta:TA):TI:=λσ H R=>ta σ H λvs H1=>∃ j:Int,vs=[.int j] /\ -(2 ^ 62)<=j/\j<2 ^ 62/\R (Itr 0 j.toNat) H1
theorem ql0 {a:Expr} {ta:TA} {p pos:Pos} (hg:Gl X "range") (hm:X.mg "range" = none) (ha:PA X [a] ta) (hs:starEach [a] X.env=[(false,eval a X.env)]:=by rfl):PI X tg (.Call (.Name "range" p) [a] [] pos) (qB9 ta):=by
 intro pins s σ H R I h;refine Call_ (qhx I hg hm boot_range (PyProof.Rows.callWith_type1 (thn (ha pos pins s σ H _ I h) λus s1 hq__=>?_) hs rfl));obtain ⟨vs,H1,I1,r1,q1⟩:=hq__;obtain ⟨j,e,q1,q2,q⟩:=q1;subst e
 cases r1 with
 | cons r rr =>
  cases rr;obtain ⟨t,rfl⟩:=r;exact call_range_1 (quw I1 (by omega) (by omega) q1 q2 (by simpa using q))
def qD7 (wi:TI) (g:TG) (tb:TS):TS:=λD σ H=>wi σ H λJ H1=>∃ W:Nat->Nat->St->Hp->Prop,(∃ m,W 0 m σ H1)/\∀ i m σ H,W i m σ H ->
 (J.stop i H/\D.nx σ H)\/(J.go i H/\∃ N:St->Hp->Prop,(∀ σ' H',N σ' H'->∃ m',m'<m/\W (i+1) m' σ' H')/\∀ x H',J.yld i H x H'->g x σ H' λσ2 H2=>tb { D with nx:=N,ct:=N,bk:=D.nx } σ2 H2)
def ql1 (fp:List Addr) (h:Heap):List (Addr×Obj):=fp.filterMap λb=>(h.get? b).map λo=>(b,o)
theorem qen {fp:List Addr} {h:Heap} {b:Addr} {o:Obj} (hb:b∈fp) (e:h.get? b=some o):(b,o)∈ql1 fp h:=List.mem_filterMap.mpr ⟨b,hb,by rw[e];rfl⟩
theorem qrv {fp:List Addr} {h:Heap} {p:Addr×Obj} (hp:p∈ql1 fp h):p.1∈fp/\h.get? p.1=some p.2:=by
 obtain ⟨b,hb,e⟩:=List.mem_filterMap.mp hp
 cases q:h.get? b with
 | none=>rw[q] at e;cases e
 | some o =>
  rw[q] at e;have e':(b,o)=p:=Option.some.inj e;subst e';exact ⟨hb,q⟩
theorem Inv.pinned {pins:List (Addr×Obj)} {σ:St} {H:Hp} {s:Shared} {fp:List Addr} (I:Inv X pins σ H s) (hf:∀ b∈fp,qqk X pins H b) (ho:∀ b∈fp,∃ o,s.heap.get? b=some o/\∀ v,o.data≠.cell v):Inv X (pins ++ ql1 fp s.heap) σ H s:=
 I.pins_of λp hp=>(List.mem_append.mp hp).elim (λz=>I.pin p (List.mem_append_right _ z)) λz=>by
  obtain ⟨hb,e⟩:=qrv z;obtain ⟨f0,f1,f2,_⟩:=hf p.1 hb;obtain ⟨o,e',d⟩:=ho p.1 hb;rw[e] at e';cases e';exact ⟨e,f0,f1,f2,d⟩
theorem Inv.unpinned {pins pl:List (Addr×Obj)} {σ:St} {H:Hp} {s:Shared} (I:Inv X (pins ++ pl) σ H s):Inv X pins σ H s:=I.pins_of λp hp=>I.pin p (List.mem_append_right _ (List.mem_append_left _ hp))
theorem qb7 {iter:Expr} {body:List Stmt} {wi:TI} {g:TG} {tb:TS} {pos:Pos} (hp:PassesOwn (model X.prog X.w) X.A X.env X.xe) (hc:X.calm=true) (hi:PI X tg iter wi) (hg:PG X tg g) (hb:PSs X body tb)
  (hs:∀ x,foldedSetIterable iter X.env x=pure x:=by intro _;rfl):PS X (.For tg iter body [] pos) (qD7 wi g tb):=by
 intro pins s σ H D I h;refine wpAny_For (thn (hi pins s σ H _ I h) λv s1 h1=>thn h1 λitv s2 h2=>?_) hs;obtain ⟨it,fp,tn,J,H2,e,I2,T,st2,f2,W,⟨m0,w0⟩,turn⟩:=h2;subst e;have stat:∀ {H':Hp},(∀ b∈fp,H' b=none)->∀ b∈fp,qqk X pins H' b:=λhn b hb=>⟨hn b hb,(f2 b hb).2⟩
 refine codeAny_forLoop_any (λn s'=>∃ i σ' H',Inv X pins σ' H' s'/\tn i s'.heap/\(∀ b∈fp,H' b=none)/\W i n σ' H') ?_ m0 ⟨0,σ,H2,I2,st2,λb hb=>(f2 b hb).1,w0⟩;rintro n s3 ⟨i,σ3,H3,I3,st3,fr3,w3⟩
 rcases turn i n σ3 H3 w3 with ⟨stop,qn⟩|⟨go,N,hN,step⟩
 ·refine wpAny_passesOwn hp (thn (T.done X rfl rfl rfl hc i pins s3 σ3 H3 X.xe I3 (stat fr3) st3 stop) λr s4 hq__=>?_)
  obtain ⟨hr,I4⟩:=hq__;subst hr;exact wpAny_execs_nil ⟨σ3,H3,I4,qn⟩
 ·refine wpAny_passesOwn hp (thn (T.item X rfl rfl rfl hc i pins s3 σ3 H3 X.xe I3 (stat fr3) st3 go) λr s4 hq__=>?_)
  obtain ⟨u,hr,h4⟩:=hq__;subst hr;refine wpAny_passesOwn hp (thn h4 λ_ s5 hq__=>?_);obtain ⟨x,H5,I5,r5,y5,st5,fr5⟩:=hq__;have I5':=I5.pinned (stat fr5) (T.obj _ _ st5);refine wpAny_passesOwn hp (thn (hg _ s5 σ3 H5 x u _ I5' r5 (step x H5 y5)) λ_ s6 hq__=>?_);obtain ⟨σ6,H6,I6,q6⟩:=hq__;refine wpAny_passesOwn hp (thn (hb _ s6 σ6 H6 _ I6 q6) λf s7 q7=>?_);have again:∀ {σ7:St} {H7:Hp},Inv X (pins ++ ql1 fp s5.heap) σ7 H7 s7->N σ7 H7->∃ m,m<n/\∃ i σ' H',Inv X pins σ' H' s7/\tn i s7.heap/\(∀ b∈fp,H' b=none)/\W i m σ' H':=fun {σ7 H7} I7 n7=>by
   obtain ⟨m',hm,w7⟩:=hN σ7 H7 n7;refine ⟨m',hm,i+1,σ7,H7,I7.unpinned,T.keep _ _ _ st5 λb hb o e=>(I7.pin (b,o) (List.mem_append_right _ (List.mem_append_right _ (qen hb e)))).1,λb hb=>?_,w7⟩;obtain ⟨o,e,d⟩:=T.obj _ _ st5 b hb;exact (I7.pin (b,o) (List.mem_append_right _ (List.mem_append_right _ (qen hb e)))).2.1
  cases f with
  | next=>obtain ⟨σ7,H7,I7,n7⟩:=q7;exact again I7 n7
  | cont=>obtain ⟨σ7,H7,I7,n7⟩:=q7;exact again I7 n7
  | brk=>obtain ⟨σ7,H7,I7,q7⟩:=q7;exact ⟨σ7,H7,I7.unpinned,q7⟩
  | ret v=>obtain ⟨x7,σ7,H7,I7,r7,q7⟩:=q7;exact ⟨x7,σ7,H7,I7.unpinned,r7,q7⟩
end
theorem qbt {K:Frag} {a:Addr} {xs:List V} {g:TG} {tb:TS} {D:Ends} {σ:St} {H:Hp} (Pv:Nat->St->Hp->Prop) (h0:Pv 0 σ H) (hl:∀ i σ H,i<=xs.length->Pv i σ H->SqL K H a xs)
  (hs:∀ i x σ H,xs[i]?=some x->Pv i σ H->g x σ H λσ2 H2=>tb { D with nx:=Pv (i+1),ct:=Pv (i+1),bk:=D.nx } σ2 H2) (hd:∀ σ H,Pv xs.length σ H->D.nx σ H) :
  ∃ W:Nat->Nat->St->Hp->Prop,(∃ m,W 0 m σ H)/\∀ i m σ H,W i m σ H ->
   ((Itl K a).stop i H/\D.nx σ H)\/((Itl K a).go i H/\∃ N:St->Hp->Prop,(∀ σ' H',N σ' H'->∃ m',m'<m/\W (i+1) m' σ' H')/\∀ x H',(Itl K a).yld i H x H'->g x σ H' λσ2 H2=>tb { D with nx:=N,ct:=N,bk:=D.nx } σ2 H2):=by
 refine ⟨λi m σ H=>m=xs.length-i/\i<=xs.length/\Pv i σ H,⟨xs.length,by simp,Nat.zero_le _,h0⟩,?_⟩;rintro i m σ H ⟨rfl,hi,p⟩;have q:=hl i σ H hi p
 by_cases hlt:i<xs.length
 ·refine .inr ⟨⟨xs,xs[i],q,by simp[hlt]⟩,Pv (i+1),λσ' H' p'=>⟨xs.length-(i+1),by omega,rfl,hlt,p'⟩,λx H' y=>?_⟩
  obtain ⟨e,y⟩:=y;subst e;exact hs i x σ _ (y xs q) p
 ·have e:i=xs.length:=by omega
  subst e;exact .inl ⟨⟨xs,q,Nat.le_refl _⟩,hd σ H p⟩
theorem ql2 {lo:Int} {n:Nat} {g:TG} {tb:TS} {D:Ends} {σ:St} {H:Hp} (Pv:Nat->St->Hp->Prop) (h0:Pv 0 σ H)
  (hs:∀ i σ H,i<n->Pv i σ H->g (.int (lo+i)) σ H λσ2 H2=>tb { D with nx:=Pv (i+1),ct:=Pv (i+1),bk:=D.nx } σ2 H2) (hd:∀ σ H,Pv n σ H->D.nx σ H) :
  ∃ W:Nat->Nat->St->Hp->Prop,(∃ m,W 0 m σ H)/\∀ i m σ H,W i m σ H ->
   ((Itr lo n).stop i H/\D.nx σ H)\/((Itr lo n).go i H/\∃ N:St->Hp->Prop,(∀ σ' H',N σ' H'->∃ m',m'<m/\W (i+1) m' σ' H')/\∀ x H',(Itr lo n).yld i H x H'->g x σ H' λσ2 H2=>tb { D with nx:=N,ct:=N,bk:=D.nx } σ2 H2):=by
 refine ⟨λi m σ H=>m=n-i/\i<=n/\Pv i σ H,⟨n,by simp,Nat.zero_le _,h0⟩,?_⟩;rintro i m σ H ⟨rfl,hi,p⟩
 by_cases hlt:i<n
 ·refine .inr ⟨hlt,Pv (i+1),λσ' H' p'=>⟨n-(i+1),by omega,rfl,hlt,p'⟩,λx H' y=>?_⟩
  obtain ⟨e,y⟩:=y;subst e y;exact hs i σ _ hlt p
 ·have e:i=n:=by omega
  subst e;exact .inl ⟨Nat.le_refl _,hd σ H p⟩
theorem qux {c:TT} {tb:TS} {D:Ends} {σ:St} {H:Hp} (Pv:St->Hp->Prop) (μ:St->Hp->Nat) (h0:Pv σ H)
  (hs:∀ σ H,Pv σ H->c σ H λb H1=>if b=true then tb { D with nx:=λσ' H'=>Pv σ' H'/\μ σ' H'<μ σ H,ct:=λσ' H'=>Pv σ' H'/\μ σ' H'<μ σ H,bk:=D.nx } σ H1 else D.nx σ H1)
  (mono:∀ σ H Q Q',(∀ b H1,Q b H1->Q' b H1)->c σ H Q->c σ H Q'):qwl c tb D σ H:=by
 refine ⟨λm σ H=>m=μ σ H/\Pv σ H,⟨_,rfl,h0⟩,?_⟩;rintro m σ H ⟨rfl,p⟩;refine mono σ H _ _ (λb H1 q=>?_) (hs σ H p)
 cases b with
 | true=>exact ⟨_,λσ' H' ⟨p',l⟩=>⟨_,l,rfl,p'⟩,q⟩
 | false=>exact q
open PySem PySem.Spec PyProof.Rows
abbrev R2:=V->V->Hp->VK->Prop
def OpR (X:Cx) (f:Value->Value->Sem Value) (r:R2):Prop:=
 ∀ (pins:List (Addr×Obj)) (s:Shared) (σ:St) (H:Hp) (x y:V) (v u:Value) (Q:VK),Inv X pins σ H s->RelV x v->RelV y u->r x y H Q ->
  wpAny (model X.prog X.w) X.A (f v u) (EP X pins σ Q) X.xe s
def UnR (X:Cx) (f:Value->Sem Value) (r:V->Hp->VK->Prop):Prop:=
 ∀ (pins:List (Addr×Obj)) (s:Shared) (σ:St) (H:Hp) (x:V) (v:Value) (Q:VK),Inv X pins σ H s->RelV x v->r x H Q ->
  wpAny (model X.prog X.w) X.A (f v) (EP X pins σ Q) X.xe s
def CallR (X:Cx) (f:Value) (r:List V->Hp->VK->Prop):Prop:=
 ∀ (pins:List (Addr×Obj)) (s:Shared) (σ:St) (H:Hp) (xs:List V) (us:List Value) (Q:VK),Inv X pins σ H s->Vals xs us->r xs H Q ->
  wpAny (model X.prog X.w) X.A (call f us) (EP X pins σ Q) X.xe s
def tOp (r:R2) (ta tb:TE):TE:=λσ H Q=>ta σ H λx H1=>tb σ H1 λy H2=>r x y H2 Q
def tUn (r:V->Hp->VK->Prop) (ta:TE):TE:=λσ H Q=>ta σ H λx H1=>r x H1 Q
inductive rIS (C:Int->Int->Prop) (g:Int->Int->V) (x y:V) (H:Hp) (Q:VK):Prop
 | mk (i j:Int) (hx:x=.int i) (hy:y=.int j) (hc:C i j) (k:Q (g i j) H)
def rI (C:Int->Int->Prop) (g:Int->Int->V):R2:=λx y H Q=>rIS C g x y H Q
inductive rI0S (g:Int->Int->V) (x y:V) (H:Hp) (Q:VK):Prop
 | mk (i j:Int) (hx:x=.int i) (hy:y=.int j) (k:Q (g i j) H)
def rI0 (g:Int->Int->V):R2:=λx y H Q=>rI0S g x y H Q
inductive rUS (g:Int->V) (x:V) (H:Hp) (Q:VK):Prop
 | mk (i:Int) (h:x=.int i) (k:Q (g i) H)
def rU (g:Int->V):V->Hp->VK->Prop:=λx H Q=>rUS g x H Q
section
variable {X:Cx} {a b c:Expr} {ta tb tc:TE} {pos:Pos}
theorem qCa (ha:PE X a ta) (hb:PE X b tb) {pins:List (Addr×Obj)} {s:Shared} {σ:St} {H:Hp} {R:V->V->Hp->Prop} (I:Inv X pins σ H s)
  (h:ta σ H λx H1=>tb σ H1 λy H2=>R x y H2) {Q:Value->Shared->Prop} {f:Value->Value->Sem Value}
  (hf:∀ v u s2 x y H2,Inv X pins σ H2 s2->RelV x v->RelV y u->R x y H2->wpAny (model X.prog X.w) X.A (f v u) Q X.xe s2) :
  wpAny (model X.prog X.w) X.A (eval a X.env) (λv s₁=>wpAny (model X.prog X.w) X.A (eval b X.env) (λu s₂=>wpAny (model X.prog X.w) X.A (f v u) Q X.xe s₂) X.xe s₁) X.xe s:=by
 refine thn (ha pins s σ H _ I h) λv s1 hq__=>?_
 obtain ⟨x,H1,I1,r1,q1⟩:=hq__;refine thn (hb pins s1 σ H1 _ I1 q1) λu s2 hq__=>?_
 obtain ⟨y,H2,I2,r2,q2⟩:=hq__;exact hf v u s2 x y H2 I2 r1 r2 q2
theorem qae {op:Operator} {r:R2} (ho:OpR X (binaryOp op) r) (ha:PE X a ta) (hb:PE X b tb):PE X (.BinOp a op b pos) (tOp r ta tb):=by
 intro pins s σ H Q I h;exact wpAny_BinOp (qCa ha hb I h λv u s2 x y H2 I2 rx ry q=>ho pins s2 σ H2 x y v u Q I2 rx ry q)
theorem qe4 {op:UnaryOp} {r:V->Hp->VK->Prop} (ho:UnR X (unaryOp op) r) (ha:PE X a ta):PE X (.UnaryOp op a pos) (tUn r ta):=by
 intro pins s σ H Q I h;exact UnaryOp_ (thn (ha pins s σ H _ I h) λv s1 ⟨x,H1,I1,r1,q1⟩=>ho pins s1 σ H1 x v Q I1 r1 q1)
theorem opI {f:Value->Value->Sem Value} {C:Int->Int->Prop} {g:Int->Int->Int}
  (rule:∀ (i j:Int) (t u:Tok) (s:Shared) (Q:Value->Shared->Prop) (E:Value->Shared->Prop),C i j->Q (.int (g i j) s.toks) { s with toks:=s.toks+1 }->wpAny (model X.prog X.w) X.A (f (.int i t) (.int j u)) Q E s) :
  OpR X f (rI C λi j=>.int (g i j)):=by
 intro pins s σ H x y v u Q I rx ry h;obtain ⟨i,j,rfl,rfl,hc,q⟩:=h;obtain ⟨t,rfl⟩:=rx;obtain ⟨t',rfl⟩:=ry;exact rule i j t t' s _ _ hc ⟨.int (g i j),H,I.tok _,⟨_,rfl⟩,q⟩
theorem qCb {f:Value->Value->Sem Value} {g:Int->Int->Int}
  (rule:∀ (i j:Int) (t u:Tok) (s:Shared) (Q:Value->Shared->Prop) (E:Value->Shared->Prop),Q (.int (g i j) s.toks) { s with toks:=s.toks+1 }->wpAny (model X.prog X.w) X.A (f (.int i t) (.int j u)) Q E s) :
  OpR X f (rI0 λi j=>.int (g i j)):=by
 intro pins s σ H x y v u Q I rx ry h;obtain ⟨i,j,rfl,rfl,q⟩:=h;obtain ⟨t,rfl⟩:=rx;obtain ⟨t',rfl⟩:=ry;exact rule i j t t' s _ _ ⟨.int (g i j),H,I.tok _,⟨_,rfl⟩,q⟩
theorem qBu {f:Value->Value->Sem Value} {g:Int->Int->Bool}
  (rule:∀ (i j:Int) (t u:Tok) (s:Shared) (Q:Value->Shared->Prop) (E:Value->Shared->Prop),Q (.bool (g i j)) s->wpAny (model X.prog X.w) X.A (f (.int i t) (.int j u)) Q E s) :
  OpR X f (rI0 λi j=>.bl (g i j)):=by
 intro pins s σ H x y v u Q I rx ry h;obtain ⟨i,j,rfl,rfl,q⟩:=h;obtain ⟨t,rfl⟩:=rx;obtain ⟨t',rfl⟩:=ry;exact rule i j t t' s _ _ ⟨.bl (g i j),H,I,rfl,q⟩
def qD8 (i j:Int):Prop:=0<j/\j<1073741824
def qD9 (i j:Int):Prop:=0<=j/\j<=1000000/\i.natAbs<2 ^ 64
def CMul (i j:Int):Prop:=(-(2 ^ 64)<i/\i<2 ^ 64)\/(-(2 ^ 64)<j/\j<2 ^ 64)
theorem CMul.ok {i j:Int} (h:CMul i j):IntMulOk i j:=by
 rcases h with ⟨h1,h2⟩|⟨h1,h2⟩
 ·exact .of_left (intBits_le_64 h1 h2)
 ·exact .of_right (intBits_le_64 h1 h2)
theorem qa1:OpR X (binaryOp .Add) (rI0 λi j=>.int (i+j)):=qCb λ_ _ _ _ _ _ _ q=>add_int q
theorem qbr:OpR X (binaryOp .Sub) (rI0 λi j=>.int (i-j)):=qCb λ_ _ _ _ _ _ _ q=>sub_int q
theorem qdg:OpR X (binaryOp .Mult) (rI CMul λi j=>.int (i*j)):=opI λ_ _ _ _ _ _ _ hc q=>mul_int q hc.ok
theorem qbf:OpR X (binaryOp .FloorDiv) (rI qD8 λi j=>.int (i / j)):=opI λi j _ _ _ _ _ hc q=>by
 have h1:(0:Int)<j:=hc.1;have h2:j<1073741824:=hc.2;exact floordiv_int (by omega) (by rw[Int.fdiv_eq_ediv_of_nonneg i (by omega)];exact q) (.inl (PyProof.noPylong_small (by omega)))
theorem qaq:OpR X (binaryOp .Mod) (rI (λ_ j=>0<j) λi j=>.int (i % j)):=opI λi j _ _ _ _ _ hc q=>by
 have h1:(0:Int)<j:=hc;exact mod_int' (by omega) (by rw[Int.fmod_eq_emod_of_nonneg i (by omega)];exact q)
theorem qc5:OpR X (binaryOp .Pow) (rI qD9 λi j=>.int (i ^ j.toNat)):=opI λ_ _ _ _ _ _ _ hc q=>pow_int_small hc.1 hc.2.1 hc.2.2 q
theorem qrw:OpR X (inplaceOp .Add) (rI0 λi j=>.int (i+j)):=qCb λ_ _ _ _ _ _ _ q=>iadd_int q
theorem unI {f:Value->Sem Value} {g:Int->Int}
  (rule:∀ (i:Int) (t:Tok) (s:Shared) (Q:Value->Shared->Prop) (E:Value->Shared->Prop),Q (.int (g i) s.toks) { s with toks:=s.toks+1 }->wpAny (model X.prog X.w) X.A (f (.int i t)) Q E s) :
  UnR X f (rU λi=>.int (g i)):=by
 intro pins s σ H x v Q I rx h;obtain ⟨i,rfl,q⟩:=h;obtain ⟨t,rfl⟩:=rx;exact rule i t s _ _ ⟨.int (g i),H,I.tok _,⟨_,rfl⟩,q⟩
theorem qcz:UnR X (unaryOp .USub) (rU λi=>.int (-i)):=unI λ_ _ _ _ _ q=>neg_int q
end
def qDn:V->V->Bool
 | .non,.non=>true|.non,.int _=>true|.int _,.non=>true|.non,.bl _=>true|.bl _,.non=>true|.non,.str _=>true|.str _,.non=>true
 | .int _,.int _=>true|.bl _,.bl _=>true|.str _,.str _=>true|.byt _,.byt _=>true
 | .int _,.str _=>true|.str _,.int _=>true|.bl _,.str _=>true|.str _,.bl _=>true
 | _,_=>false
def rEq:R2:=λx y H Q=>qDn x y=true/\Q (.bl (decide (x=y))) H
def rNe:R2:=λx y H Q=>qDn x y=true/\Q (.bl (!decide (x=y))) H
theorem qrx {i j:Int}:decide (V.int i=V.int j)=(i == j):=by
 rw[Bool.eq_iff_iff]
 simp
theorem qwm {i j:Bool}:decide (V.bl i=V.bl j)=(i == j):=by
 rw[Bool.eq_iff_iff]
 simp
theorem qry {i j:Str}:decide (V.str i=V.str j)=(i == j):=by
 rw[Bool.eq_iff_iff]
 simp
theorem qrz {i j:Array UInt8}:decide (V.byt i=V.byt j)=(i.toList == j.toList):=by
 rw[Bool.eq_iff_iff];cases i;cases j
 simp
section
variable {X:Cx} {a b c:Expr} {ta tb tc:TE} {pos:Pos}
theorem qa5 {pins:List (Addr×Obj)} {σ:St} {H:Hp} {s:Shared} {Q:VK} {k k':Bool} (I:Inv X pins σ H s) (q:Q (.bl k) H) (e:k=k'):EP X pins σ Q (.bool k') s:=by
 subst e;exact ⟨.bl k,H,I,rfl,q⟩
theorem qb0:OpR X (compareOp .Eq) rEq:=by
 intro pins s σ H x y v u Q I rx ry h;obtain ⟨hs,q⟩:=h
 cases x with
 | non =>
  cases rx
  cases y with
  | non=>cases ry;exact PySem.EqNone.eq_none_none (qa5 I q (by simp))
  | bl j=>cases ry;exact PySem.EqNone.eq_none_bool (qa5 I q (by simp))
  | int j=>obtain ⟨t',rfl⟩:=ry;exact PySem.EqNone.eq_none_int (qa5 I q (by simp))
  | str j=>obtain ⟨t',rfl⟩:=ry;exact PySem.EqNone.eq_none_str (qa5 I q (by simp))
  | _=>exact absurd (show false=true from hs) Bool.false_ne_true
 | bl i =>
  cases rx
  cases y with
  | non=>cases ry;exact PySem.EqNone.eq_bool_none (qa5 I q (by simp))
  | bl j=>cases ry;exact eq_bool (qa5 I q qwm)
  | str j=>obtain ⟨t',rfl⟩:=ry;exact PySem.EqMixed.eq_bool_str (qa5 I q (by simp))
  | _=>exact absurd (show false=true from hs) Bool.false_ne_true
 | int i =>
  obtain ⟨t,rfl⟩:=rx
  cases y with
  | non=>cases ry;exact PySem.EqNone.eq_int_none (qa5 I q (by simp))
  | int j=>obtain ⟨t',rfl⟩:=ry;exact eq_int (qa5 I q qrx)
  | str j=>obtain ⟨t',rfl⟩:=ry;exact PySem.EqMixed.eq_int_str (qa5 I q (by simp))
  | _=>exact absurd (show false=true from hs) Bool.false_ne_true
 | str i =>
  obtain ⟨t,rfl⟩:=rx
  cases y with
  | non=>cases ry;exact PySem.EqNone.eq_str_none (qa5 I q (by simp))
  | bl j=>cases ry;exact PySem.EqMixed.eq_str_bool (qa5 I q (by simp))
  | int j=>obtain ⟨t',rfl⟩:=ry;exact PySem.EqMixed.eq_str_int (qa5 I q (by simp))
  | str j=>obtain ⟨t',rfl⟩:=ry;exact eq_str (qa5 I q qry)
  | _=>exact absurd (show false=true from hs) Bool.false_ne_true
 | byt i =>
  obtain ⟨t,rfl⟩:=rx
  cases y with
  | byt j=>obtain ⟨t',rfl⟩:=ry;exact PySem.W.eq_bytes (qa5 I q qrz)
  | _=>exact absurd (show false=true from hs) Bool.false_ne_true
 | _=>cases y<;>exact absurd (show false=true from hs) Bool.false_ne_true
theorem qxn:OpR X (compareOp .NotEq) rNe:=by
 intro pins s σ H x y v u Q I rx ry h;obtain ⟨hs,q⟩:=h
 cases x with
 | non =>
  cases rx
  cases y with
  | non=>cases ry;exact PySem.EqNone.ne_none_none (qa5 I q (by simp))
  | bl j=>cases ry;exact PySem.EqNone.ne_none_bool (qa5 I q (by simp))
  | int j=>obtain ⟨t',rfl⟩:=ry;exact PySem.EqNone.ne_none_int (qa5 I q (by simp))
  | str j=>obtain ⟨t',rfl⟩:=ry;exact PySem.EqNone.ne_none_str (qa5 I q (by simp))
  | _=>exact absurd (show false=true from hs) Bool.false_ne_true
 | bl i =>
  cases rx
  cases y with
  | non=>cases ry;exact PySem.EqNone.ne_bool_none (qa5 I q (by simp))
  | bl j=>cases ry;exact ne_bool (qa5 I q (congrArg not qwm))
  | str j=>obtain ⟨t',rfl⟩:=ry;exact PySem.EqMixed.ne_bool_str (qa5 I q (by simp))
  | _=>exact absurd (show false=true from hs) Bool.false_ne_true
 | int i =>
  obtain ⟨t,rfl⟩:=rx
  cases y with
  | non=>cases ry;exact PySem.EqNone.ne_int_none (qa5 I q (by simp))
  | int j=>obtain ⟨t',rfl⟩:=ry;exact ne_int (qa5 I q (congrArg not qrx))
  | str j=>obtain ⟨t',rfl⟩:=ry;exact PySem.EqMixed.ne_int_str (qa5 I q (by simp))
  | _=>exact absurd (show false=true from hs) Bool.false_ne_true
 | str i =>
  obtain ⟨t,rfl⟩:=rx
  cases y with
  | non=>cases ry;exact PySem.EqNone.ne_str_none (qa5 I q (by simp))
  | bl j=>cases ry;exact PySem.EqMixed.ne_str_bool (qa5 I q (by simp))
  | int j=>obtain ⟨t',rfl⟩:=ry;exact PySem.EqMixed.ne_str_int (qa5 I q (by simp))
  | str j=>obtain ⟨t',rfl⟩:=ry;exact ne_str (qa5 I q (congrArg not qry))
  | _=>exact absurd (show false=true from hs) Bool.false_ne_true
 | byt i =>
  obtain ⟨t,rfl⟩:=rx
  cases y with
  | byt j=>obtain ⟨t',rfl⟩:=ry;exact PySem.W.ne_bytes (qa5 I q (congrArg not qrz))
  | _=>exact absurd (show false=true from hs) Bool.false_ne_true
 | _=>cases y<;>exact absurd (show false=true from hs) Bool.false_ne_true
theorem qe5:OpR X (compareOp .Lt) (rI0 λi j=>.bl (decide (i<j))):=qBu λ_ _ _ _ _ _ _ q=>lt_int q
theorem qzu:OpR X (compareOp .LtE) (rI0 λi j=>.bl (decide (i<=j))):=qBu λ_ _ _ _ _ _ _ q=>le_int q
theorem ql3:OpR X (compareOp .Gt) (rI0 λi j=>.bl (decide (j<i))):=qBu λ_ _ _ _ _ _ _ q=>gt_int q
theorem qxo:OpR X (compareOp .GtE) (rI0 λi j=>.bl (decide (j<=i))):=qBu λ_ _ _ _ _ _ _ q=>ge_int q
theorem qc0:OpR X (compareOp .Is) (λx y H Q=>y=.non/\Q (.bl (decide (x=.non))) H):=by
 intro pins s σ H x y v u Q I rx ry h;obtain ⟨rfl,q⟩:=h;cases ry;refine is_none_gen (qa5 I q ?_)
 cases x<;>first
  | (cases rx;rfl)
  | (obtain ⟨t,rfl⟩:=rx;rfl)
theorem qd4:OpR X (compareOp .IsNot) (λx y H Q=>y=.non/\Q (.bl (!decide (x=.non))) H):=by
 intro pins s σ H x y v u Q I rx ry h;obtain ⟨rfl,q⟩:=h;cases ry;refine isnot_none_gen (qa5 I q ?_)
 cases x<;>first
  | (cases rx;rfl)
  | (obtain ⟨t,rfl⟩:=rx;rfl)
theorem qwn (b:Expr) {op:CmpOp} (h:op≠.In:=by decide) (h2:op≠.NotIn:=by decide):behindInMarks op b=false:=by
 have e1:(op == CmpOp.In)=false:=by cases op<;>first|rfl|exact absurd rfl h
 have e2:(op == CmpOp.NotIn)=false:=by cases op<;>first|rfl|exact absurd rfl h2
 cases b<;>simp[behindInMarks,e1,e2]
theorem qxp {op:CmpOp} {r:R2} (ho:OpR X (compareOp op) r) (ha:PE X a ta) (hb:PE X b tb) (hm:behindInMarks op b=false):PE X (.Compare a [op] [b] pos) (tOp r ta tb):=by
 intro pins s σ H Q I h;exact wpAny_Compare1 (qCa ha hb I h λv u s2 x y H2 I2 rx ry q=>ho pins s2 σ H2 x y v u Q I2 rx ry q) hm
def qzv (t:TE):TT:=λσ H Q=>t σ H λx H'=>∃ k,x=.bl k/\Q k H'
theorem qxq {op:CmpOp} {r:R2} (ho:OpR X (compareOp op) r) (ha:PE X a ta) (hb:PE X b tb) (hm:behindInMarks op b=false):PT X (.Compare a [op] [b] pos) (qzv (tOp r ta tb)):=by
 intro pins s σ H Q I h;refine wpAny_isTrue_Compare1 (thn (ha pins s σ H _ I h) λv s1 ⟨x,H1,I1,r1,q1⟩=>thn (hb pins s1 σ H1 _ I1 q1) λu s2 ⟨y,H2,I2,r2,q2⟩ =>
  thn (ho pins s2 σ H2 x y v u _ I2 r1 r2 q2) λc s3 ⟨z,H3,I3,r3,k,e,q3⟩=>?_) hm
 subst e;cases r3;exact wpAny_truthy_bool ⟨H3,I3,q3⟩
theorem qr0:(sizeLine:Nat)<2 ^ 63:=by rw[sizeLine_eq];decide
theorem vals1 {x:V} {us:List Value} (r:Vals [x] us):∃ u,us=[u]/\RelV x u:=by
 cases r with
 | cons r1 r2=>cases r2;exact ⟨_,rfl,r1⟩
theorem vals2 {x y:V} {us:List Value} (r:Vals [x,y] us):∃ u w',us=[u,w']/\RelV x u/\RelV y w':=by
 cases r with
 | cons r1 r2 =>
  cases r2 with
  | cons r3 r4=>cases r4;exact ⟨_,_,rfl,r1,r3⟩
theorem quy:CallR X (.builtin "abs") (λxs H Q=>∃ i,xs=[.int i]/\Q (.int (if i<0 then -i else i)) H):=by
 intro pins s σ H xs us Q I r h;obtain ⟨i,rfl,q⟩:=h;obtain ⟨u,rfl,t,rfl⟩:=vals1 r;exact call_abs_int λu tk=>⟨.int (if i<0 then -i else i),H,I.tok _,⟨_,rfl⟩,q⟩
theorem qdh (hc:X.calm=true):CallR X (.builtin "max") (λxs H Q=>∃ i j,xs=[.int i,.int j]/\Q (.int (if j>i then j else i)) H):=by
 intro pins s σ H xs us Q I r h;obtain ⟨i,j,rfl,q⟩:=h;obtain ⟨u,w',rfl,⟨t,rfl⟩,⟨t',rfl⟩⟩:=vals2 r;refine max_two_ints (I.ok.hd hc) λh' tk k=>⟨_,H,I.kept k,?_,q⟩
 by_cases hj:j>i
 ·rw[if_pos hj,if_pos hj];exact ⟨_,rfl⟩
 ·rw[if_neg hj,if_neg hj];exact ⟨_,rfl⟩
theorem ql4 (hc:X.calm=true):CallR X (.builtin "min") (λxs H Q=>∃ i j,xs=[.int i,.int j]/\Q (.int (if j<i then j else i)) H):=by
 intro pins s σ H xs us Q I r h;obtain ⟨i,j,rfl,q⟩:=h;obtain ⟨u,w',rfl,⟨t,rfl⟩,⟨t',rfl⟩⟩:=vals2 r;refine min_two_ints (I.ok.hd hc) λh' tk k=>⟨_,H,I.kept k,?_,q⟩
 by_cases hj:j<i
 ·rw[if_pos hj,if_pos hj];exact ⟨_,rfl⟩
 ·rw[if_neg hj,if_neg hj];exact ⟨_,rfl⟩
theorem qr1:CallR X (.type "int") (λxs H Q=>(∃ i,xs=[.int i]/\Q (.int i) H)\/∃ k,xs=[.bl k]/\Q (.int (if k then 1 else 0)) H):=by
 intro pins s σ H xs us Q I r h
 rcases h with ⟨i,rfl,q⟩|⟨k,rfl,q⟩
 ·obtain ⟨u,rfl,t,rfl⟩:=vals1 r
  exact call_int_int ⟨.int i,H,I,⟨_,rfl⟩,q⟩
 ·obtain ⟨u,rfl,r1⟩:=vals1 r
  cases r1;exact call_int_bool ⟨.int (if k then 1 else 0),H,I.tok _,⟨_,rfl⟩,q⟩
end
open PySem PySem.Spec PyProof.Rows
structure ObjM (h:Heap) (x dx C:Addr) (mA:Str->Option Value):Prop where
 obj:h.get? x=some (PySem.W.instObj C dx)
 ns:h.Ns1 dx mA
 ne:dx≠x
theorem ql5 {h:Heap} {dx:Addr} {mA:Str->Option Value} (n:h.Ns1 dx mA):∃ od,h.get? dx=some od/\∀ name,PySem.W.lookIn name od=some (mA name):=by
 obtain ⟨o,es,ep,ho,hd,hk,_,hm⟩:=n;refine ⟨o,ho,λname=>?_⟩;have e:=hm name;unfold nsFind findBy at e;rw[<- Array.find?_toList] at e;unfold PySem.W.lookIn;rw[hd];dsimp only
 split
 ·rename_i y q
  rw[q] at e;exact congrArg some e
 ·rename_i q
  rw[q] at e;have a:es.toList.any (·.refKey)=false:=by
   rw[List.any_eq_false];intro y hy;obtain ⟨z,t,hkey⟩:=hk y (Array.mem_toList_iff.mp hy)
   simp[DictEntry.refKey,hkey]
  have a':¬ es.toList.any (·.refKey)=true:=by rw[a];exact Bool.false_ne_true
  rw[if_neg a'];exact congrArg some e
theorem ObjM.look {h:Heap} {x dx C:Addr} {mA:Str->Option Value} (I:ObjM h x dx C mA):∃ od,PySem.W.InstAt h x (PySem.W.instObj C dx) C (some od)/\∀ name,PySem.W.lookIn name od=some (mA name):=
 let ⟨od,ho,hl⟩:=ql5 I.ns
 ⟨od,⟨I.obj,rfl,rfl,ho⟩,hl⟩
section
variable {prog:Program} {w:World} {A:Around} {E:Value->Shared->Prop} {s:Shared} {K:Frag} {x dx C f:Addr} {mA:Str->Option Value} {name:Str} {v:Value}
theorem qxr {expr:Bool} {Q:Value->Shared->Prop} (X:K.In s.heap) (I:ObjM s.heap x dx C mA) (hg:PySem.W.plainGet K C name=true) (hh:PySem.W.hasDictIn K C=true)
  (ha:PySem.W.findIn K (.ref C) name=some none) (hv:mA name=some v) (hv':PySem.W.handedIn v=true) (h:Q v { s with toks:=s.toks+1 }) :
  wpAny (model prog w) A (getAttr (.ref x) name expr) Q E s:=by
 obtain ⟨od,J,hl⟩:=I.look;exact PySem.W.get_value X J (PySem.W.plainGet_of hg).1 (PySem.W.findObj_own hh ha rfl (by rw[hl,hv])) hv' h
theorem quz {pl:Sem Bool} {Q:Value×List Value->Shared->Prop} (X:K.In s.heap) (I:ObjM s.heap x dx C mA) (hg:PySem.W.plainGet K C name=true)
  (hf:PySem.W.findIn K (.ref C) name=some (some (.ref f))) (ht:PySem.W.isFn K (.ref f)=true) (hv:mA name=none) (h:Q (.ref f,[.ref x]) s) :
  wpAny (model prog w) A (getMethod (.ref x) name pl) Q E s:=by
 obtain ⟨od,J,hl⟩:=I.look;exact PySem.W.method_fn X J (PySem.W.plainGet_of hg).1 (PySem.W.plainGet_of hg).2 hf (beq_iff_eq.mp ht) (by show (PySem.W.lookIn name od).map (·.isSome)=some false;rw[hl,hv];rfl) h
theorem qxs {ns:List Str} {Q:Unit->Shared->Prop} (X:K.In s.heap) (I:ObjM s.heap x dx C mA)
  (hs:PySem.W.findIn K (.ref C) "__setattr__" = some (some (.builtin "object.__setattr__"))) (hp:PySem.W.plainOver K C=true) (ht:PySem.W.takerIn K C name=some none) (hh:PySem.W.hasDictIn K C=true)
  (hw:PySem.Within mA ns) (hsz:ns.length<=sizeLine)
  (h:∀ h',ObjM h' x dx C (λy=>if y=name then some v else mA y)->Heap.SameBut dx s.heap h'->Q () { s with heap:=h',toks:=s.toks+2 }) :
  wpAny (model prog w) A (setAttr (.ref x) name v) Q E s:=by
 obtain ⟨od,J,hl⟩:=I.look;refine PySem.W.set_plain X J hs (PySem.W.osa_open (s:={ s with toks:=s.toks+1 }) (r:=none) X J hp ht λb=>?_);obtain ⟨cd,hc,hd'⟩:=PySem.W.any_some hh;have hx:s.heap.get? x=some ⟨.ref C,some dx,.plain,#[]⟩:=I.obj;refine wpAny_bind (wpAny_pure (wpAny_bind (wpAny_bind (wpAny_loadPart hx (wpAny_bind (PySem.W.Looks.here (s:={ s with toks:=s.toks+1 }) (PySem.W.looks_clsIn X hc) ?_))))));rw[hd'];refine wpAny_pure (a:=some dx) (wpAny_bind (wpAny_pure (wpAny_bind ?_)));refine wpAny_nsSet1 (s:={ s with toks:=s.toks+1 }) I.ns λh' hn2 hs2=>?_
 obtain ⟨oD,esD,epD,hoD,hdD,hcD⟩:=hn2.count (PySem.Within.cons name v hw);refine wpAny_bind (wpAny_lookBehind hoD (by rw[hdD];exact pastItsLine_dict (Nat.le_trans hcD (by rw[List.length_cons];omega))) ?_);exact wpAny_pure (h _ ⟨(hs2.2 _ (Ne.symm I.ne)).trans I.obj,hn2,I.ne⟩ hs2)
theorem qu0 {R:Result->Shared->Prop} {vs:List Value} {kw:List (Str×Value)} (X:K.In s.heap) (hm:PySem.W.makesIn K C=true)
  (hi:PySem.W.findIn K (.ref C) "__init__" = some (some (.ref f))) (hf:PySem.W.typeIn K (.ref f)=some (.type "function"))
  (h:codeAny (model prog w) (A.under (.builtin "type.__call__" ⟨.ref C :: vs,kw⟩)) (.call (.ref f) ⟨.ref (s.heap.objs.size+1) :: vs,kw⟩) (PySem.W.InitBack (s.heap.objs.size+1) R)
   {s with heap:=(s.heap.push PySem.W.emptyDict).push (PySem.W.instObj C s.heap.objs.size) }) :
  codeAny (model prog w) A (.call (.ref C) ⟨vs,kw⟩) R s:=by
 obtain ⟨hh,g,d,t,os⟩:=s;exact PySem.W.make_core (PySem.W.makes_of X hm) (PySem.W.looks_findIn X hi) (λself=>PySem.W.bind_fn X self hf) (.inl rfl) h
theorem qr2 {R:Result->Shared->Prop} (X:K.In s.heap) (hm:PySem.W.makesIn K C=true)
  (hi:PySem.W.findIn K (.ref C) "__init__" = some (some (.builtin "object.__init__")))
  (hb:∀ self,PySem.W.Looks (model prog w) s.heap (bindSpecial (.builtin "object.__init__") self) (.builtin "object.__init__",[self]))
  (h:codeAny (model prog w) (A.under (.builtin "type.__call__" ⟨[.ref C],[]⟩)) (.call (.builtin "object.__init__") ⟨[.ref (s.heap.objs.size+1)],[]⟩) (PySem.W.InitBack (s.heap.objs.size+1) R)
   {s with heap:=(s.heap.push PySem.W.emptyDict).push (PySem.W.instObj C s.heap.objs.size) }) :
  codeAny (model prog w) A (.call (.ref C) ⟨[],[]⟩) R s:=by
 obtain ⟨hh,g,d,t,os⟩:=s;exact PySem.W.make_core (PySem.W.makes_of X hm) (PySem.W.looks_findIn X hi) hb (.inr ⟨rfl,rfl⟩) h
end
def qhi (f:Str) (v:V):List (Str×V)->List (Str×V)
 | []=>[(f,v)]
 | (g,x) :: r=>if g=f then (g,v) :: r else (g,x) :: qhi f v r
theorem qak (f g:Str) (v:V):∀ fs:List (Str×V),(qhi f v fs).lookup g=if g=f then some v else fs.lookup g
 | []=>by
  show List.lookup g [(f,v)]=_
  by_cases h:g=f
  ·have hb:(g == f)=true:=beq_iff_eq.mpr h
   simp only[List.lookup,hb,if_pos h]
  ·have hb:(g == f)=false:=beq_eq_false_iff_ne.mpr h
   simp only[List.lookup,hb,if_neg h]
 | (k,x) :: r=>by
  have ih:=qak f g v r;rw[show qhi f v ((k,x) :: r)=(if k=f then (k,v) :: r else (k,x) :: qhi f v r) from rfl]
  by_cases hk:k=f
  ·rw[if_pos hk]
   by_cases h:g=k
   ·have hb:(g == k)=true:=beq_iff_eq.mpr h
    simp only[List.lookup,hb,if_pos (h.trans hk)]
   ·have hb:(g == k)=false:=beq_eq_false_iff_ne.mpr h
    simp only[List.lookup,hb,if_neg (λe:g=f=>h (e.trans hk.symm))]
  ·rw[if_neg hk]
   by_cases h:g=k
   ·have hb:(g == k)=true:=beq_iff_eq.mpr h
    simp only[List.lookup,hb,if_neg (λe:g=f=>hk (h.symm.trans e))]
   ·have hb:(g == k)=false:=beq_eq_false_iff_ne.mpr h
    simp only[List.lookup,hb];exact ih
theorem qh1 (f:Str) (v:V):∀ fs:List (Str×V),f∈(qhi f v fs).map (·.1)/\∀ g,g∈fs.map (·.1)->g∈(qhi f v fs).map (·.1)
 | []=>⟨by simp[qhi],λg h=>by simp at h⟩
 | (k,x) :: r=>by
  obtain ⟨i1,i2⟩:=qh1 f v r;rw[show qhi f v ((k,x) :: r)=(if k=f then (k,v) :: r else (k,x) :: qhi f v r) from rfl]
  by_cases hk:k=f
  ·rw[if_pos hk]
   subst hk;exact ⟨by simp,λg h=>by simpa using h⟩
  ·rw[if_neg hk]
   refine ⟨?_,λg h=>?_⟩
   ·rw[List.map_cons]
    exact List.mem_cons_of_mem _ i1
   ·rw[List.map_cons] at h ⊢
    rcases List.mem_cons.mp h with e|e
    ·exact List.mem_cons.mpr (.inl e)
    ·exact List.mem_cons_of_mem _ (i2 g e)
theorem qh2 (f:Str) (v:V):∀ fs:List (Str×V),(qhi f v fs).length<=fs.length+1
 | []=>by simp[qhi]
 | (k,x) :: r=>by
  have ih:=qh2 f v r;rw[show qhi f v ((k,x) :: r)=(if k=f then (k,v) :: r else (k,x) :: qhi f v r) from rfl]
  by_cases hk:k=f
  ·rw[if_pos hk,List.length_cons,List.length_cons];omega
  ·rw[if_neg hk,List.length_cons,List.length_cons];omega
theorem RelO.some_of {v:V} {o:Option Value} (r:RelO (some v) o):∃ u,o=some u/\RelV v u:=by
 cases o with
 | none=>exact (show False from r).elim
 | some u=>exact ⟨u,rfl,r⟩
theorem RelO.none_of {o:Option Value} (r:RelO none o):o=none:=by
 cases o with
 | none=>rfl
 | some u=>exact (show False from r).elim
theorem ql6 {v:V} {u:Value} (r:RelV v u):PySem.W.handedIn u=true:=by
 cases v with
 | non=>cases (show u=Value.none from r);rfl
 | bl b=>cases (show u=Value.bool b from r);rfl
 | int i=>obtain ⟨t,e⟩:=(show ∃ t,u=Value.int i t from r);cases e;rfl
 | str x=>obtain ⟨t,e⟩:=(show ∃ t,u=Value.str x t from r);cases e;rfl
 | byt b=>obtain ⟨t,e⟩:=(show ∃ t,u=Value.bytes b t from r);cases e;rfl
 | flt b=>obtain ⟨t,e⟩:=(show ∃ t,u=Value.float b t from r);cases e;rfl
 | ref a=>cases (show u=Value.ref a from r);rfl
 | ty n=>cases (show u=Value.type n from r);rfl
section
variable {P:Program} {w:World} {H H':Hp} {h h':Heap} {a C dx:Addr} {fs fs':List (Str×V)}
theorem qk2 (hok:HOk P w H h) (e:H a=some (.ins C dx fs)):∃ mA,ObjM h a dx C mA/\(∀ f,RelO (fs.lookup f) (mA f))/\PySem.Within mA (fs.map (·.1))/\fs.length<=1000/\H dx=some (.own a):=by
 obtain ⟨d,z,ne,ob,mA,n,r,q⟩:=(show ObjOk P w H h a (.ins C dx fs) from hok a _ e);exact ⟨mA,⟨ob,n,ne⟩,r,q,z,d⟩
end
structure Cls (K:Frag) (C:Addr):Prop where
 pg:PySem.W.plainGet K C Str.empty=true
 hd:PySem.W.hasDictIn K C=true
 po:PySem.W.plainOver K C=true
 sa:PySem.W.findIn K (.ref C) "__setattr__" = some (some (.builtin "object.__setattr__"))
theorem Cls.get {K:Frag} {C:Addr} (c:Cls K C) (f:Str):PySem.W.plainGet K C f=true:=c.pg
def NoAttr (K:Frag) (C:Addr) (f:Str):Prop:=PySem.W.findIn K (.ref C) f=some none
theorem NoAttr.taker {K:Frag} {C:Addr} {f:Str} (n:NoAttr K C f):PySem.W.takerIn K C f=some none:=by
 unfold PySem.W.takerIn;rw[show PySem.W.findIn K (.ref C) f=some none from n]
 rfl
structure qeo (K:Frag) (C:Addr) (m:Str) (f:Addr):Prop where
 at_:PySem.W.findIn K (.ref C) m=some (some (.ref f))
 fn:PySem.W.isFn K (.ref f)=true
 kp:keepIn K (.ref f)=true
section
variable {X:Cx} {pins:List (Addr×Obj)} {σ:St} {H:Hp} {s:Shared} {a C dx:Addr} {fs:List (Str×V)} {f:Str} {v:V} {A:Around} {E:Value->Shared->Prop}
theorem qqm {b:Bool} {Q:Value->Shared->Prop} (I:Inv X pins σ H s) (e:H a=some (.ins C dx fs)) (c:Cls X.K C) (n:NoAttr X.K C f) (l:fs.lookup f=some v)
  (h:∀ u s',Inv X pins σ H s'->RelV v u->Q u s'):wpAny (model X.prog X.w) A (getAttr (.ref a) f b) Q E s:=by
 obtain ⟨mA,O,r,_,_,_⟩:=qk2 I.hok e;obtain ⟨u,hu,ru⟩:=RelO.some_of (v:=v) (o:=mA f) (by rw[<- l];exact r f);exact qxr I.kIn O (c.get f) c.hd n hu (ql6 ru) (h u _ (I.tok _) ru)
theorem qf5 {m:Str} {g:Addr} {pl:Sem Bool} {Q:Value×List Value->Shared->Prop} (I:Inv X pins σ H s) (e:H a=some (.ins C dx fs)) (c:Cls X.K C) (k:qeo X.K C m g) (l:fs.lookup m=none)
  (h:Q (.ref g,[.ref a]) s):wpAny (model X.prog X.w) A (getMethod (.ref a) m pl) Q E s:=by
 obtain ⟨mA,O,r,_,_,_⟩:=qk2 I.hok e;have hn:mA m=none:=RelO.none_of (by rw[<- l];exact r m);exact quz I.kIn O (c.get m) k.at_ k.fn hn h
theorem qqn {y:V} {u:Value} {Q:Unit->Shared->Prop} (I:Inv X pins σ H s) (e:H a=some (.ins C dx fs)) (c:Cls X.K C) (n:NoAttr X.K C f) (hl:fs.length<1000) (ry:RelV y u)
  (h:∀ s',Inv X pins σ (upd H a (.ins C dx (qhi f y fs))) s'->Q () s'):wpAny (model X.prog X.w) A (setAttr (.ref a) f u) Q E s:=by
 obtain ⟨mA,O,r,wi,_,ho⟩:=qk2 I.hok e;have hz:(fs.map (·.1)).length<=sizeLine:=by rw[List.length_map,sizeLine_eq];omega
 refine qxs I.kIn O c.sa c.po n.taker c.hd wi hz λh' O' sb=>h _ ?_
 have hd:∃ o,h'.get? dx=some o:=let ⟨o,_,_,e',_⟩:=O'.ns;⟨o,e'⟩
 refine I.write (x:=a) (e:=dx) (by rw[e];exact True.intro) (.inr ho) (λb q hb z=>(sb.2 b hb).trans z) hd ?_;refine ⟨by rw[qat O.ne];exact ho,?_,O.ne,O'.obj,_,O'.ns,λg=>?_,λg hg=>?_⟩
 ·have:=qh2 f y fs;omega
 ·show RelO ((qhi f y fs).lookup g) (if g=f then some u else mA g)
  rw[qak]
  by_cases q:g=f
  ·rw[if_pos q,if_pos q];exact ry
  ·rw[if_neg q,if_neg q];exact r g
 ·by_cases q:g=f
  ·rw[q];exact (qh1 f y fs).1
  ·refine (qh1 f y fs).2 g (wi g λz=>hg ?_)
   show (if g=f then some u else mA g)=none
   rw[if_neg q];exact z
theorem Inv.made (I:Inv X pins σ H s):Inv X pins σ (upd (upd H s.heap.objs.size (.own (s.heap.objs.size+1))) (s.heap.objs.size+1) (.ins C s.heap.objs.size []))
  {s with heap:=(s.heap.push PySem.W.emptyDict).push (PySem.W.instObj C s.heap.objs.size) }:=by
 have e1:(s.heap.push PySem.W.emptyDict).get? s.heap.objs.size=some PySem.W.emptyDict:=Heap.get?_push_size s.heap rfl;have e2:((s.heap.push PySem.W.emptyDict).push (PySem.W.instObj C s.heap.objs.size)).get? (s.heap.objs.size+1)=some (PySem.W.instObj C s.heap.objs.size):=by
  have:=Heap.get?_push_size (s.heap.push PySem.W.emptyDict) (o:=PySem.W.instObj C s.heap.objs.size) rfl
  rwa [Heap.size_push] at this
 have e3:(s.heap.push PySem.W.emptyDict).Ns s.heap.objs.size (λ_=>none):=⟨PySem.W.emptyDict,#[],_,e1,rfl,(λe he=>absurd he (by simp)),λ_=>rfl⟩;have I1:=I.laid (a:=s.heap.objs.size) (o:=.own (s.heap.objs.size+1)) (h':=s.heap.push PySem.W.emptyDict) (t':=s.toks) (λb u q=>Heap.get?_push_of_some _ q) (Nat.le_refl _) ⟨_,e1⟩;refine I1.laid (a:=s.heap.objs.size+1) (o:=.ins C s.heap.objs.size []) (t':=s.toks) (λb u q=>Heap.get?_push_of_some _ q) (Nat.le_of_eq (Heap.size_push _ _)) ?_;have ne:s.heap.objs.size≠s.heap.objs.size+1:=Nat.ne_of_lt (Nat.lt_succ_self _);refine ⟨by rw[qat ne,qa2],Nat.zero_le _,ne,e2,λ_=>none,(Heap.Ns1.of_empty e3).at λo q=>Heap.get?_push_of_some _ q,λ_=>True.intro,λy hy=>absurd rfl hy⟩
theorem qr3 {prog:Program} {w:World} {env:Env} {e:Expr} {f:Str} {pos:Pos} {s:Shared} {Q:Value->Shared->Prop} (hb:attributeBase e f env (eval e env)=eval e env)
  (h:wpAny (model prog w) A (eval e env) (λo s₁=>wpAny (model prog w) A (getAttr o f true) Q E s₁) E s):wpAny (model prog w) A (eval (.Attribute e f pos) env) Q E s:=
 Attribute_any_ h (by rw[arm_eval_Attribute,hb])
end
inductive qCc (K:Frag) (f:Str) (x:V) (H1:Hp) (Q:VK):Prop
 | mk (a C dx:Addr) (fs:List (Str×V)) (v:V) (hx:x=.ref a) (ho:H1 a=some (.ins C dx fs)) (hc:Cls K C) (hn:NoAttr K C f) (hl:fs.lookup f=some v) (k:Q v H1)
def qCd (K:Frag) (ta:TE) (f:Str):TE:=λσ H Q=>ta σ H λx H1=>qCc K f x H1 Q
section
variable {X:Cx} {o e value:Expr} {f:Str} {pos pos' tpos:Pos} {ta tv:TE}
theorem qbx (he:PE X e ta) (hb:attributeBase e f X.env (eval e X.env)=eval e X.env):PE X (.Attribute e f pos) (qCd X.K ta f):=by
 intro pins s σ H Q I h;refine qr3 hb (thn (he pins s σ H _ I h) λu s1 hq__=>?_);obtain ⟨x,H1,I1,rx,a,C,dx,fs,v,ex,ea,c,n,l,q⟩:=hq__;subst ex;obtain rfl:u=Value.ref a:=rx;exact qqm I1 ea c n l λu' s2 I2 ru=>⟨v,H1,I2,ru,q⟩
end
section
variable {X:Cx} {pins:List (Addr×Obj)} {σ:St} {H:Hp} {s:Shared} {A:Around} {E:Value->Shared->Prop} {Q:Value->Shared->Prop} {c:Value} {b:Bool}
inductive TyOf (K:Frag) (H:Hp):V->Value->Prop where
 | non:TyOf K H .non (.type "NoneType")
 | bl (x:Bool):TyOf K H (.bl x) (.type "bool")
 | int (i:Int):TyOf K H (.int i) (.type "int")
 | str (x:Str):TyOf K H (.str x) (.type "str")
 | flt (x:UInt64):TyOf K H (.flt x) (.type "float")
 | lst {a:Addr} {xs:List V} (e:H a=some (.lst xs)):TyOf K H (.ref a) (.type "list")
 | frz {a:Addr} {o:Obj} {xs:List V} (e:H a=some (.frz o (.lst xs))):TyOf K H (.ref a) (.type "list")
 | tup {a:Addr} {xs:List V} (e:H a=some (.tup xs)):TyOf K H (.ref a) (.type "tuple")
 | dK {a:Addr} {kvs:List (Key×V)} (e:H a=some (.dK kvs)):TyOf K H (.ref a) (.type "dict")
 | dT {a:Addr} {kvs:List (List Key×V)} (e:H a=some (.dT kvs)):TyOf K H (.ref a) (.type "dict")
 | ins {a C dx:Addr} {fs:List (Str×V)} (e:H a=some (.ins C dx fs)) (cl:Cls K C) (ha:PySem.W.findIn K (.ref C) "__class__" = some (some (.builtin "object.__class__")))
   (hn:PySem.W.specialIn K (.builtin "object.__class__") "__get__" = some (some (.builtin "getset_descriptor.__get__"))) (htk:PySem.W.takesIn K (.builtin "object.__class__")=some true)
   (hm:PySem.W.mroIn K C (.type "object")=some true):TyOf K H (.ref a) (.ref C)
theorem qr4 {x:V} {u t:Value} (I:Inv X pins σ H s) (rx:RelV x u) (ty:TyOf X.K H x t) (e:PySem.W.kitOne X.K t c=some b) (h:∀ tk,Q (.bool b) { s with toks:=tk }) :
  wpAny (model X.prog X.w) A (call (.builtin "isinstance") [u,c]) Q E s:=by
 cases ty with
 | non=>cases (show u=Value.none from rx);exact PySem.W.kia_one PySem.W.kitx_none I.kIn True.intro e (λz=>nomatch z) h
 | bl y=>cases (show u=Value.bool y from rx);exact PySem.W.kia_one PySem.W.kitx_bool I.kIn True.intro e (λz=>nomatch z) h
 | int i=>obtain ⟨t,q⟩:=(show ∃ t,u=Value.int i t from rx);cases q;exact PySem.W.kia_one PySem.W.kitx_int I.kIn True.intro e (λz=>nomatch z) h
 | str y=>obtain ⟨t,q⟩:=(show ∃ t,u=Value.str y t from rx);cases q;exact PySem.W.kia_one PySem.W.kitx_str I.kIn True.intro e (λz=>nomatch z) h
 | flt y=>obtain ⟨t,q⟩:=(show ∃ t,u=Value.float y t from rx);cases q;exact PySem.W.kia_one PySem.W.kitx_float I.kIn True.intro e (λz=>nomatch z) h
 | @lst a xs ea =>
  cases (show u=Value.ref a from rx)
  obtain ⟨_,_,n,_,h1⟩:=(show ObjOk X.prog X.w H s.heap a (.lst xs) from I.hok a _ ea);exact PySem.W.kia_one PySem.W.kitx_list I.kIn ⟨_,h1,rfl⟩ e (λz=>nomatch z) h
 | @frz a ob xs ea =>
  cases (show u=Value.ref a from rx)
  obtain ⟨_,_,_,n,_,h1⟩:=(show ObjOk X.prog X.w H s.heap a (.frz ob (.lst xs)) from I.hok a _ ea);exact PySem.W.kia_one PySem.W.kitx_list I.kIn ⟨_,h1,rfl⟩ e (λz=>nomatch z) h
 | @tup a xs ea =>
  cases (show u=Value.ref a from rx)
  obtain ⟨_,_,_,p⟩:=(show ObjOk X.prog X.w H s.heap a (.tup xs) from I.hok a _ ea);obtain ⟨o,h1,h2,_⟩:=p;exact PySem.W.kia_one PySem.W.kitx_tuple I.kIn ⟨o,h1,h2⟩ e (λz=>nomatch z) h
 | @dK a kvs ea =>
  cases (show u=Value.ref a from rx)
  obtain ⟨_,_,vs,_,p⟩:=(show ObjOk X.prog X.w H s.heap a (.dK kvs) from I.hok a _ ea);obtain ⟨o,es,ep,h1,h2,_⟩:=p;exact PySem.W.kia_one PySem.W.kitx_dict I.kIn ⟨o,h1,h2.1⟩ e (λz=>nomatch z) h
 | @dT a kvs ea =>
  cases (show u=Value.ref a from rx)
  obtain ⟨_,_,xs,_,o,es,ep,h1,h2,_⟩:=(show ObjOk X.prog X.w H s.heap a (.dT kvs) from I.hok a _ ea);exact PySem.W.kia_one PySem.W.kitx_dict I.kIn ⟨o,h1,h2.1⟩ e (λz=>nomatch z) h
 | @ins a C dx fs ea cl ha hn htk hm =>
  cases (show u=Value.ref a from rx)
  obtain ⟨mA,O,_⟩:=qk2 I.hok ea;obtain ⟨od,J,_⟩:=O.look;exact PySem.W.kia_one (PySem.W.kitx_own (cl.get _) cl.hd ha hn htk hm) I.kIn J e (λz=>nomatch z) h
end
open PySem PySem.Spec PyProof.Rows
structure Room (k:Nat) (A:Around):Prop where
 hd:A.handled=none
 dp:A.depth+3*k+5<recursionLimit
 un:A.units+16*k+200<cLine
theorem Room.mono {j k:Nat} {A:Around} (r:Room k A) (h:j<=k):Room j A:=⟨r.hd,by have:=r.dp;omega,by have:=r.un;omega⟩
theorem Room.deeper {k:Nat} {A:Around} (r:Room (k+1) A) (env:Env):Room k (A.deeper env):=
 ⟨r.hd,by have:=r.dp;show A.depth+1+3*k+5<_;omega,by have:=r.un;show A.units+3+16*k+200<_;omega⟩
theorem qqo {A:Around} {C:Addr} {us:List Value} {kw:List (Str×Value)}:(A.under (.builtin "type.__call__" ⟨.ref C :: us,kw⟩)).depth=A.depth+1:=by
 first|rfl|simp[Around.under,Code.weight,Code.isCreation,Code.isGuard,Code.isCaller,Code.frames,Code.isFrame,guardIds]
theorem qqp {A:Around} {C:Addr} {us:List Value} {kw:List (Str×Value)}:(A.under (.builtin "type.__call__" ⟨.ref C :: us,kw⟩)).units=A.units+1:=by
 first|rfl|simp[Around.under,Code.cUnits,Code.frames,Code.isFrame]
theorem Room.make {k:Nat} {A:Around} (r:Room (k+1) A) (C:Addr) (us:List Value) (kw:List (Str×Value)):Room k (A.under (.builtin "type.__call__" ⟨.ref C :: us,kw⟩)):=
 ⟨r.hd,by have:=r.dp;rw[qqo];omega,by have:=r.un;rw[qqp];omega⟩
theorem Room.depth {k:Nat} {A:Around} (r:Room k A):A.depth<recursionLimit:=by have:=r.dp;omega
theorem Room.units {k:Nat} {A:Around} (r:Room k A):A.units+64<cLine:=by have:=r.un;omega
def qlv:TA:=λ_ H Q=>Q [] H
def qc2 (ta:TE) (tr:TA):TA:=λσ H Q=>ta σ H λx H1=>tr σ H1 λxs H2=>Q (x :: xs) H2
section
variable {X:Cx} {e:Expr} {es:List Expr} {te:TE} {t:TA} {pos:Pos}
theorem qc6:PA X [] qlv:=λ_ _ _ _ H Q I h=>Calls.spliced_nil ⟨[],H,I,.nil,h⟩
theorem qba (ha:PE X e te) (hr:PA X es t) (hs:starEach (e :: es) X.env=(false,eval e X.env) :: starEach es X.env:=by rfl):PA X (e :: es) (qc2 te t):=by
 intro pos pins s σ H Q I h;rw[hs]
 show wpAny _ _ (spliced ((false,eval e X.env) :: backTo pos (starEach es X.env))) _ _ s
 refine Calls.spliced_cons (thn (ha pins s σ H _ I h) λu s1 hq__=>?_);obtain ⟨x,H1,I1,r1,q1⟩:=hq__;exact thn (hr pos pins s1 σ H1 _ I1 q1) λus s2 ⟨xs,H2,I2,r2,q2⟩=>⟨x :: xs,H2,I2,.cons r1 r2,q2⟩
end
abbrev Sp:=List V->Hp->VK->XK->Prop
abbrev CXT:=List Env->Hp->Shared->XK->Value->Shared->Prop
structure Env0 (P:Program) (w:World) (K:Frag) (mg:Str->Option Value) (base:Heap) (A:Around) (outer:List Env) (s:Shared) (H:Hp):Prop where
 frames:A.frames=some outer
 mod:Mod K mg base
 bs:∀ b o,base.get? b=some o->s.heap.get? b=some o/\H b=none
 bsz:base.objs.size<=s.heap.objs.size
 funs:s.heap.FunFrames base outer
 frf:∀ b∈frs outer,H b=none
 hok:HOk P w H s.heap
 bare:AllBare s.gens
def CE (outer:List Env) (P:Program) (w:World) (H:Hp) (s:Shared) (Q:VK) (u:Value) (s':Shared):Prop:=
 ∃ v H',s'.os=s.os/\AllBare s'.gens/\Un (frs outer) [] H H' s.heap s'.heap/\HOk P w H' s'.heap/\RelV v u/\Q v H'
def CR (CX:CXT) (outer:List Env) (P:Program) (w:World) (H:Hp) (s:Shared) (Q:VK) (E:XK) (r:Result) (s':Shared):Prop:=
 match r with
 | .ok (.ret u)=>CE outer P w H s Q u s'
 | .ok _=>False
 | .error e=>CX outer H s E e s'
structure qf6 (P:Program) (w:World) (K:Frag) (mg:Str->Option Value) (base:Heap) (CX:CXT) (k:Nat) (f:Addr) (fd:FuncData) (ps:List Str) (sp:Sp):Prop where
 len:∀ vs H Q E,sp vs H Q E->vs.length=ps.length
 run:∀ (A:Around) (outer:List Env) (s:Shared) (H:Hp) (args:Args) (us:List Value) (vs:List V) (Q:VK) (E:XK),Room k A->Env0 P w K mg base A outer s H->BindsTo s fd args (ps.zip us)->Vals vs us->sp vs H Q E ->
  codeAny (model P w) A (.call (.ref f) args) (CR CX outer P w H s Q E) s
theorem Env0.make {P:Program} {w:World} {K:Frag} {mg:Str->Option Value} {base:Heap} {A:Around} {outer:List Env} {s:Shared} {H:Hp} (e:Env0 P w K mg base A outer s H) (C:Addr) (us:List Value) (kw:List (Str×Value)) :
  Env0 P w K mg base (A.under (.builtin "type.__call__" ⟨.ref C :: us,kw⟩)) outer s H:=⟨by first|exact e.frames|(simpa [Around.under,Code.envs,Code.isFrame,pushEnvs] using e.frames),e.mod,e.bs,e.bsz,e.funs,e.frf,e.hok,e.bare⟩
section
variable {X:Cx} {pins:List (Addr×Obj)} {σ:St} {H:Hp} {s s':Shared}
theorem Inv.env0 (I:Inv X pins σ H s):Env0 X.prog X.w X.K X.mg X.base X.A X.stack s H:=
 ⟨I.ok.frames,I.ok.mod,I.bs,Nat.le_trans I.ok.bsz I.sz,I.stack,I.stkFree,I.hok,I.bare⟩
theorem Inv.after {Q:VK} {u:Value} (I:Inv X pins σ H s) (h:CE X.stack X.prog X.w H s Q u s'):EP X pins σ Q u s':=by
 obtain ⟨v,H',os,bare,un,hok,r,q⟩:=h;obtain ⟨hh,g,d,t,os'⟩:=s';obtain rfl:os'=s.os:=os;exact ⟨v,H',I.call (h':=hh) (g':=g) (d':=d) (t':=t) (ch:=[]) un hok bare (λb z=>absurd z (by simp)),r,q⟩
end
def qu1 (sp:Sp) (dvs:List V) (E:XK) (t:TA):TE:=λσ H Q=>t σ H λvs H1=>sp (vs ++ dvs) H1 Q E
inductive qwo (C:Addr) (m:Str) (x:V) (H:Hp) (k:Prop):Prop
 | mk (a dx:Addr) (fs:List (Str×V)) (hx:x=.ref a) (ho:H a=some (.ins C dx fs)) (hl:fs.lookup m=none) (hk:k)
def qh3 (C:Addr) (m:Str) (sp:Sp) (dvs:List V) (E:XK) (ta:TE) (t:TA):TE:=λσ H Q=>ta σ H λx H1=>qwo C m x H1 (t σ H1 λvs H2=>sp (x :: (vs ++ dvs)) H2 Q E)
def Binds (K:Frag) (fd:FuncData) (ps:List Str) (ds:List Value):Prop:=
 ∀ (s:Shared) (us:List Value),K.In s.heap->(us ++ ds).length=ps.length->BindsTo s fd ⟨us,[]⟩ (ps.zip (us ++ ds))
theorem Binds.all {K:Frag} {fd:FuncData} {ps:List Str} (h:∀ us:List Value,us.length=ps.length->bindArgs fd ⟨us,[]⟩=pure (ps.zip us)):Binds K fd ps []:=λs us _ hl=>by
 rw[List.append_nil] at hl ⊢;exact .of_eq (h us hl)
def qh4 (CX:CXT) (X:Cx) (E:XK):Prop:=∀ (pins:List (Addr×Obj)) (σ:St) (H:Hp) (s:Shared) (e:Value) (s':Shared),Inv X pins σ H s->CX X.stack H s E e s'->X.xe e s'
section
variable {X:Cx} {CX:CXT} {k:Nat} {f C:Addr} {fd:FuncData} {ps:List Str} {sp:Sp} {dvs:List V} {ds:List Value} {E:XK} {x m:Str} {p pos apos:Pos} {e o:Expr} {es:List Expr} {ta:TE} {t:TA}
theorem qr5 {pins:List (Addr×Obj)} {σ:St} {H:Hp} {s:Shared} {Q:VK} {us:List Value} {vs:List V} (F:qf6 X.prog X.w X.K X.mg X.base CX k f fd ps sp) (hr:Room k X.A) (hb:Binds X.K fd ps ds) (hd:Vals dvs ds) (hx:qh4 CX X E)
  (I:Inv X pins σ H s) (r:Vals vs us) (h:sp (vs ++ dvs) H Q E):wpAny (model X.prog X.w) X.A (call (.ref f) us) (EP X pins σ Q) X.xe s:=by
 have r2:Vals (vs ++ dvs) (us ++ ds):=r.append hd;have hl:(us ++ ds).length=ps.length:=by rw[<- r2.length];exact F.len _ _ _ _ h
 refine wpAny_call (codeAny_mono (F.run X.A X.stack s H ⟨us,[]⟩ (us ++ ds) (vs ++ dvs) Q E hr I.env0 (hb s us I.kIn hl) r2 h) λr s' hq=>?_)
 cases r with
 | error e=>exact hx pins σ H s e s' I hq
 | ok fl =>
  cases fl with
  | ret u=>exact I.after hq
  | next=>exact False.elim hq
  | brk=>exact False.elim hq
  | cont=>exact False.elim hq
theorem qr6 (F:qf6 X.prog X.w X.K X.mg X.base CX k f fd ps sp) (hr:Room k X.A) (hg:Gl X x) (hm:X.mg x=some (.ref f)) (hk:keepIn X.K (.ref f)=true) (hb:Binds X.K fd ps ds) (hd:Vals dvs ds) (hx:qh4 CX X E)
  (ha:PA X (e :: es) t) (hdb:(x == ("__debug__" : Str))=false:=by decide) (he:starEach (e :: es) X.env=(false,eval e X.env) :: starEach es X.env:=by rfl) (hpl:(backTo pos (starEach es X.env)).any (·.1)=false:=by rfl) :
  PE X (.Call (.Name x p) (e :: es) [] pos) (qu1 sp dvs E t):=by
 intro pins s σ H Q I h;refine wpAny_Call_Name_kw (qdp I hg hm ?_ hdb);refine PySem.W.callWith_K (h₀:=X.base) I.ok.mod.kin hk (thn (ha pos pins s σ H _ I h) λus s1 ⟨vs,H1,I1,r,q⟩=>⟨I1.kIn,?_⟩) he hpl;exact qr5 F hr hb hd hx I1 r q
theorem qr7 {pl:Sem Bool} (he:PE X o ta) (c:Cls X.K C) (hm:qeo X.K C m f) (F:qf6 X.prog X.w X.K X.mg X.base CX k f fd ps sp) (hr:Room k X.A) (hb:Binds X.K fd ps ds) (hd:Vals dvs ds) (hx:qh4 CX X E) (ha:PA X (e :: es) t)
  (hst:starEach (e :: es) X.env=(false,eval e X.env) :: starEach es X.env:=by rfl) (hpl:(backTo pos (starEach es X.env)).any (·.1)=false:=by rfl)
  (ht:eval (.Call (.Attribute o m apos) (e :: es) [] pos) X.env=(do
   let ov <- eval o X.env
   standAt apos.atName
   let (f,first) <- holding [ov] (getMethod ov m pl)
   callWith pos f first (backTo pos (starEach (e :: es) X.env)) (backToKw pos (keywordEach [] X.env))):=by rfl) :
  PE X (.Call (.Attribute o m apos) (e :: es) [] pos) (qh3 C m sp dvs E ta t):=by
 intro pins s σ H Q I h;refine PySem.W.methodCall_KW (pl:=pl) (thn (he pins s σ H _ I h) λu s1 hq__=>?_) ht;obtain ⟨x,H1,I1,rx,a,dx,fs,ex,ea,l,q⟩:=hq__;subst ex;obtain rfl:u=Value.ref a:=rx;refine qf5 I1 ea c hm l ?_;refine PySem.W.callWith_K (first:=[.ref a]) (h₀:=X.base) I.ok.mod.kin hm.kp (thn (ha pos pins s1 σ H1 _ I1 q) λus s2 ⟨vs,H2,I2,r,q2⟩=>⟨I2.kIn,?_⟩) hst hpl;exact qr5 (us:=.ref a :: us) (vs:=.ref a :: vs) F hr hb hd hx I2 (.cons rfl r) q2
theorem qu2 {pl:Sem Bool} (he:PE X o ta) (c:Cls X.K C) (hm:qeo X.K C m f) (F:qf6 X.prog X.w X.K X.mg X.base CX k f fd ps sp) (hr:Room k X.A) (hb:Binds X.K fd ps ds) (hd:Vals dvs ds) (hx:qh4 CX X E)
  (ht:eval (.Call (.Attribute o m apos) [] [] pos) X.env=(do
   let ov <- eval o X.env
   standAt apos.atName
   let (f,first) <- holding [ov] (getMethod ov m pl)
   callWith pos f first (backTo pos (starEach [] X.env)) (backToKw pos (keywordEach [] X.env))):=by rfl) :
  PE X (.Call (.Attribute o m apos) [] [] pos) (qh3 C m sp dvs E ta qlv):=by
 intro pins s σ H Q I h;refine PySem.W.methodCall_KW (pl:=pl) (thn (he pins s σ H _ I h) λu s1 hq__=>?_) ht;obtain ⟨x,H1,I1,rx,a,dx,fs,ex,ea,l,q⟩:=hq__;subst ex;obtain rfl:u=Value.ref a:=rx;refine qf5 I1 ea c hm l ?_;exact PySem.W.callWith_K0 (first:=[.ref a]) I1.kIn hm.kp (qr5 (us:=[.ref a]) (vs:=[.ref a]) F hr hb hd hx I1 (.cons rfl .nil) q)
structure Mk (K:Frag) (C f:Addr):Prop where
 makes:PySem.W.makesIn K C=true
 init:PySem.W.findIn K (.ref C) "__init__" = some (some (.ref f))
 fn:PySem.W.isFn K (.ref f)=true
 kp:keepIn K (.ref C)=true
theorem qu3 {pins:List (Addr×Obj)} {σ:St} {H:Hp} {s:Shared} {Q:VK} {us:List Value} {vs:List V} (M:Mk X.K C f) (F:qf6 X.prog X.w X.K X.mg X.base CX k f fd ps sp) (hr:Room (k+1) X.A) (hb:Binds X.K fd ps ds) (hd:Vals dvs ds)
  (hx:qh4 CX X E) (I:Inv X pins σ H s) (r:Vals vs us)
  (h:∀ x dx,H x=none->H dx=none->dx≠x->sp (.ref x :: (vs ++ dvs)) (upd (upd H dx (.own x)) x (.ins C dx [])) (λv H2=>v=.non/\Q (.ref x) H2) E) :
  wpAny (model X.prog X.w) X.A (call (.ref C) us) (EP X pins σ Q) X.xe s:=by
 have hq:=h (s.heap.objs.size+1) s.heap.objs.size (I.hok.fresh (Nat.le_succ _)) (I.hok.fresh (Nat.le_refl _)) (Nat.ne_of_lt (Nat.lt_succ_self _));have I2:=Inv.made (C:=C) I;have r2:Vals (V.ref (s.heap.objs.size+1) :: (vs ++ dvs)) (Value.ref (s.heap.objs.size+1) :: (us ++ ds)):=.cons rfl (r.append hd);have hl:(Value.ref (s.heap.objs.size+1) :: us ++ ds).length=ps.length:=by
  have e:=r2.length;rw[F.len _ _ _ _ hq] at e;exact e.symm
 refine wpAny_call (qu0 (f:=f) I.kIn M.makes M.init (beq_iff_eq.mp M.fn) (codeAny_mono (F.run _ X.stack _ _ ⟨Value.ref (s.heap.objs.size+1) :: us,[]⟩ (Value.ref (s.heap.objs.size+1) :: (us ++ ds)) _ _ E (hr.make C us [])
  (I2.env0.make C us []) (hb _ (Value.ref (s.heap.objs.size+1) :: us) I2.kIn hl) r2 hq) λr s' hq'=>?_))
 cases r with
 | error e=>exact hx pins σ _ _ e s' I2 hq'
 | ok fl =>
  cases fl with
  | ret u =>
   obtain ⟨v,H',I3,rv,ev,q3⟩:=I2.after hq';subst ev;exact ⟨rv,⟨V.ref (s.heap.objs.size+1),H',I3,rfl,q3⟩⟩
  | next=>exact False.elim hq'
  | brk=>exact False.elim hq'
  | cont=>exact False.elim hq'
end
section
variable {X:Cx} {CX:CXT} {k:Nat} {f C:Addr} {fd:FuncData} {ps ks:List Str} {sp:Sp} {E:XK} {x m:Str} {p pos apos kpos:Pos} {e o:Expr} {es:List Expr} {kws:List Keyword} {te ta:TE} {t tk:TA} {nm:Option Str}
variable {g:List Value->List Value->List Value} {gV:List V->List V->List V}
end
structure qad (N P:List Str) (sc:Scope):Prop where
 kind:sc.kind=.function
 co:sc.isCoroutine=false
 gen:sc.isGenerator=false
 nd:N.Nodup
 pre:N.take P.length=P
 par:∀ x∈P,sc.names.lookup x=some .local\/sc.names.lookup x=some .cell
 nofree:∀ y∈sc.names,y.2≠.free
theorem ql7 {kindOf:Str->Option NameKind} {x:Str}:∀ {binds:List (Str×Value)} {m:Str->Option Value},(∀ v,(x,v) ∉ binds)->bindL kindOf binds m x=m x
 | [],_,_=>rfl
 | (n,v) :: r,m,h=>by
  unfold bindL;rw[ql7 λw hw=>h w (List.mem_cons_of_mem _ hw)]
  split
  ·have:x≠n:=by rintro rfl;exact h v List.mem_cons_self
   simp[this]
  ·rfl
theorem ql8 {kindOf:Str->Option NameKind} {x:Str}:∀ {binds:List (Str×Value)} {m:Str->Option Value},(∀ v,(x,v) ∉ binds)->bindC kindOf binds m x=m x
 | [],_,_=>rfl
 | (n,v) :: r,m,h=>by
  unfold bindC;rw[ql8 λw hw=>h w (List.mem_cons_of_mem _ hw)]
  split
  ·rfl
  ·have:x≠n:=by rintro rfl;exact h v List.mem_cons_self
   simp[this]
theorem ql9 {kindOf:Str->Option NameKind} {x:Str} {v:Value}:∀ {P:List Str} {vs:List Value} {i:Nat} {m:Str->Option Value},P.Nodup->P[i]?=some x->vs[i]?=some v->kindOf x=some .local ->
  bindL kindOf (P.zip vs) m x=some v
 | [],_,_,_,_,h,_,_=>by simp at h
 | _ :: _,[],_,_,_,_,h,_=>by simp at h
 | p :: P,w :: vs,0,m,nd,h1,h2,hk=>by
  simp at h1 h2;subst h1;subst h2
  show bindL kindOf ((p,w) :: P.zip vs) m p=_
  unfold bindL;rw[ql7 λv hv=>(List.nodup_cons.mp nd).1 (List.of_mem_zip hv).1,if_pos hk]
  simp
 | p :: P,w :: vs,i+1,m,nd,h1,h2,hk=>by
  show bindL kindOf ((p,w) :: P.zip vs) m x=_
  unfold bindL;exact ql9 (i:=i) (List.nodup_cons.mp nd).2 (by simpa using h1) (by simpa using h2) hk
theorem qma {kindOf:Str->Option NameKind} {x:Str} {v:Value}:∀ {P:List Str} {vs:List Value} {i:Nat} {m:Str->Option Value},P.Nodup->P[i]?=some x->vs[i]?=some v->kindOf x≠some .local ->
  bindC kindOf (P.zip vs) m x=some v
 | [],_,_,_,_,h,_,_=>by simp at h
 | _ :: _,[],_,_,_,_,h,_=>by simp at h
 | p :: P,w :: vs,0,m,nd,h1,h2,hk=>by
  simp at h1 h2;subst h1;subst h2
  show bindC kindOf ((p,w) :: P.zip vs) m p=_
  unfold bindC;rw[ql8 λv hv=>(List.nodup_cons.mp nd).1 (List.of_mem_zip hv).1,if_neg hk]
  simp
 | p :: P,w :: vs,i+1,m,nd,h1,h2,hk=>by
  show bindC kindOf ((p,w) :: P.zip vs) m x=_
  unfold bindC;exact qma (i:=i) (List.nodup_cons.mp nd).2 (by simpa using h1) (by simpa using h2) hk
def start (N:List Str) (vs:List V):St:=vs.map some ++ List.replicate (N.length-vs.length) none
def qrl (CX:CXT) (P:Program) (w:World) (K:Frag) (mg:Str->Option Value) (base:Heap) (N:List Str) (qual:Str) (scope:Scope) (f:Addr) (cd:Value) (A:Around) (outer:List Env) (s:Shared) (H:Hp) (E:XK):Cx where
 prog:=P
 w:=w
 K:=K
 mg:=mg
 base:=base
 A:=A.deeper (envOfC qual scope s.heap.objs.size f cd)
 N:=N
 s₀:=s
 H₀:=H
 env:=envOfC qual scope s.heap.objs.size f cd
 outer:=outer
 stack:=envOfC qual scope s.heap.objs.size f cd :: outer
 ex:=[]
 calm:=true
 fn:=λ_=>true
 pn:=[]
 xe:=λe s'=>wpAny (model P w) (A.deeper (envOfC qual scope s.heap.objs.size f cd)) (leaving (envOfC qual scope s.heap.objs.size f cd) e) (λ_ s''=>CX outer H s E e s'') (λe' s''=>CX outer H s E e' s'') s'
theorem qoz {sc:Scope} {n:Nat} {x:Str} (h:sc.names.lookup x=some .cell):∃ c,(cellsFrom n sc.names []).lookup x=some c:=by
 have q:=PySem.W.cellsFrom_some sc.names n [] (.inl h);exact Option.isSome_iff_exists.mp q
theorem qr8 {CX:CXT} {P:Program} {w:World} {K:Frag} {mg:Str->Option Value} {base:Heap} {N ps:List Str} {qual:Str} {scope:Scope} {f:Addr} {cd:Value} {A:Around} {outer:List Env} {s s1:Shared} {H:Hp} {E:XK} {us:List Value} {vs:List V}
  (S:qad N ps scope) (hd:A.handled=none) (e0:Env0 P w K mg base A outer s H) (hl:vs.length=ps.length) (r:Vals vs us)
  (x:InCallC s s.heap.objs.size (bindL (envOfC qual scope s.heap.objs.size f cd).kindOf (ps.zip us) λ_=>none) (cellsFrom (s.heap.objs.size+1) scope.names []) (bindC (envOfC qual scope s.heap.objs.size f cd).kindOf (ps.zip us) λ_=>none) s1) :
  Inv (qrl CX P w K mg base N qual scope f cd A outer s H E) [] (start N vs) H s1:=by
 have hpl:ps.length<=N.length:=by have:=congrArg List.length S.pre;rw[List.length_take] at this;omega
 obtain ⟨h1,tk,rfl,hk⟩:=x.done;have noA:∀ b:Addr,b ∉ (qrl CX P w K mg base N qual scope f cd A outer s H E).ex:=λb z=>absurd (show b∈([]:List Addr) from z) (by simp)
 refine ⟨⟨e0.mod,S.kind,rfl,rfl,Nat.le_refl _,λy z c h1 h2=>?_,λy hy=>?_,λy c _ h=>?_,λ_=>hd,Around.frames_deeper e0.frames,.inr ⟨rfl,rfl⟩,λb z=>absurd z (noA b),e0.bs,e0.bsz,λb _ _=>noA b,λb z=>absurd z (noA b),e0.funs,e0.frf⟩,
  rfl,e0.bare,Un.kept hk,⟨_,x.toInCall.ns,λi y v h1 h2 h3=>?_⟩,λy c h=>⟨_,x.cell y c h⟩,e0.hok.fresh (Nat.le_refl _),λy c h=>?_,λp hp=>absurd (show p∈([]:List (Addr×Obj)) from hp) (by simp),e0.hok.kept hk,?_⟩
 ·exact name_of_addr x.apart (PySem.mem_of_lookup h1) (PySem.mem_of_lookup h2)
 ·have hy:scope.names.lookup y=some .cell\/scope.names.lookup y=some .free:=hy
  rcases hy with hy|hy
  ·exact qoz hy
  ·exact absurd rfl (S.nofree _ (PySem.mem_of_lookup hy))
 ·exact Nat.le_of_lt (x.above y c (PySem.mem_of_lookup h))
 ·have hi:i<vs.length:=by
   unfold start at h2
   by_cases hi:i<vs.length
   ·exact hi
   ·rw[List.getElem?_append_right (by simpa using hi)] at h2
    rw[List.getElem?_replicate] at h2
    split at h2<;>cases h2
  have ha:vs[i]?=some v:=by
   unfold start at h2;rw[List.getElem?_append_left (by simpa using hi),List.getElem?_map] at h2
   cases e:vs[i]? with
   | none=>rw[e] at h2;cases h2
   | some a=>rw[e] at h2;cases h2;rfl
  obtain ⟨u,hu,rv⟩:=r.get ha;have hp:ps[i]?=some y:=by
   rw[<- S.pre,List.getElem?_take_of_lt (by omega)];exact h1
  have ndP:ps.Nodup:=by rw[<- S.pre];exact S.nd.sublist (List.take_sublist _ _)
  refine ⟨u,rv,?_⟩
  rcases S.par y (List.mem_of_getElem? hp) with k|k
  ·exact .inl ⟨k,ql9 ndP hp hu k⟩
  ·obtain ⟨c,e⟩:=qoz (n:=s.heap.objs.size+1) k
   refine .inr ⟨.inl k,c,e,?_⟩;have q:=x.cell y c e;rw[qma ndP hp hu (by show scope.names.lookup y≠_;rw[k];decide)] at q;exact q
 ·exact e0.hok.fresh (Nat.le_of_lt (x.above y c (PySem.mem_of_lookup h)))
 ·unfold start
  show _=N.length
  rw[List.length_append,List.length_map,List.length_replicate];omega
theorem qu4 {CX:CXT} {P:Program} {w:World} {K:Frag} {mg:Str->Option Value} {base:Heap} {k:Nat} {f:Addr} {name qual:Str} {params:Arguments} {body:List Stmt} {scope:Scope} {dV kV doc pm cdv ct oc:Value} {an od:Option Addr}
  {osl:Array (Option Value)} {N ps:List Str} {sp:Sp} (lk:K.lookup f=some ⟨oc,od,.func (fnOf name qual params body scope dV kV doc pm an cdv ct),osl⟩) (hcd:codeIn K cdv qual=true) (S:qad N ps scope)
  (len:∀ vs H Q E,sp vs H Q E->vs.length=ps.length)
  (hbody:∀ (A:Around) (outer:List Env) (s:Shared) (H:Hp) (vs:List V) (Q:VK) (E:XK),Room k (A.deeper (envOfC qual scope s.heap.objs.size f cdv))->sp vs H Q E ->
   ∃ t,PSs (qrl CX P w K mg base N qual scope f cdv A outer s H E) body t/\t { nx:=λ_ H'=>Q .non H',rt:=Q } (start N vs) H) :
  qf6 P w K mg base CX (k+1) f (fnOf name qual params body scope dV kV doc pm an cdv ct) ps sp:=by
 refine ⟨len,λA outer s H args us vs Q E hr e0 hb r hsp=>?_⟩;have hl:=len _ _ _ _ hsp;have KX:K.In s.heap:=e0.mod.kin.keeps λb o e=>(e0.bs b o e).1
 have lim:s.heap.NoLimit:=e0.mod.nolimit.keeps λb o e=>(e0.bs b o e).1
 have hkind:∀ y∈ps.zip us,scope.names.lookup y.1=some .local\/(scope.names.lookup y.1=some .cell/\((cellsFrom (s.heap.objs.size+1) scope.names []).lookup y.1).isSome=true):=fun ⟨n,v⟩ hy=>by
  rcases S.par n (List.of_mem_zip hy).1 with q|q
  ·exact .inl q
  ·exact .inr ⟨q,PySem.W.cellsFrom_some _ _ _ (.inl q)⟩
 refine codeAny_call_function hr.depth (KX _ _ lk) rfl S.co S.gen rfl (PySem.W.codeRec_of KX hcd) (hb _ _ _ _ ?_);refine wpAny_newFunctionEnv_cells S.kind hkind λenv he s1 x=>?_
 subst he;refine ⟨lim.keeps x.toInCall.keep,codeAny_func ?_⟩;obtain ⟨t,ht,hq⟩:=hbody A outer s H vs Q E (hr.deeper _) hsp;have I:Inv (qrl CX P w K mg base N qual scope f cdv A outer s H E) [] (start N vs) H s1:=qr8 S hr.hd e0 hl r x;refine wpAny_mono (ht [] s1 (start N vs) H _ I hq) (λfl s' hs=>?_) λe s' hs=>hs
 have fin:∀ {σ':St} {H':Hp} {v:V} {u:Value},Inv (qrl CX P w K mg base N qual scope f cdv A outer s H E) [] σ' H' s'->RelV v u->Q v H'->CE outer P w H s Q u s':=
  fun {σ' H' v u} J rv q=>⟨v,H',J.os,J.bare,J.base,J.hok,rv,q⟩
 cases fl with
 | ret u =>
  obtain ⟨v,σ',H',J,rv,q⟩:=hs;exact fin J rv q
 | next =>
  obtain ⟨σ',H',J,q⟩:=hs;exact fin (v:=V.non) (u:=Value.none) J rfl q
 | brk =>
  obtain ⟨_,_,_,q⟩:=hs;exact False.elim q
 | cont =>
  obtain ⟨_,_,_,q⟩:=hs;exact False.elim q
open PySem PySem.Spec PyProof.Rows
section
variable {X:Cx} {x:Str} {p pos:Pos} {e:Expr} {es:List Expr} {t:TA} {id T:String} {r:List V->Hp->VK->Prop}
def tCB (r:List V->Hp->VK->Prop) (t:TA):TE:=λσ H Q=>t σ H λvs H1=>r vs H1 Q
theorem qag (hc:CallR X (.builtin id) r) (hg:Gl X x) (hm:X.mg x=none) (hv:bootBuiltins x=some (.builtin id)) (ha:PA X (e :: es) t) (hn:x ≠ "__name__" :=by decide) (hdb:(x == ("__debug__" : Str))=false:=by decide)
  (he:starEach (e :: es) X.env=(false,eval e X.env) :: starEach es X.env:=by rfl) (hpl:(backTo pos (starEach es X.env)).any (·.1)=false:=by rfl):PE X (.Call (.Name x p) (e :: es) [] pos) (tCB r t):=by
 intro pins s σ H Q I h;refine wpAny_Call_Name_kw (qhx I hg hm hv ?_ hn hdb);exact PyProof.Rows.callWith_builtin1 (thn (ha pos pins s σ H _ I h) λus s1 ⟨vs,H1,I1,r1,q1⟩=>hc pins s1 σ H1 vs us Q I1 r1 q1) he hpl
theorem qce (hc:CallR X (.type T) r) (hg:Gl X x) (hm:X.mg x=none) (hv:bootBuiltins x=some (.type T)) (ha:PA X (e :: es) t) (hn:x ≠ "__name__" :=by decide) (hdb:(x == ("__debug__" : Str))=false:=by decide)
  (he:starEach (e :: es) X.env=(false,eval e X.env) :: starEach es X.env:=by rfl) (hpl:(backTo pos (starEach es X.env)).any (·.1)=false:=by rfl):PE X (.Call (.Name x p) (e :: es) [] pos) (tCB r t):=by
 intro pins s σ H Q I h;refine wpAny_Call_Name_kw (qhx I hg hm hv ?_ hn hdb);exact PyProof.Rows.callWith_type1 (thn (ha pos pins s σ H _ I h) λus s1 ⟨vs,H1,I1,r1,q1⟩=>hc pins s1 σ H1 vs us Q I1 r1 q1) he hpl
end
end L2
namespace HT
open PySem PyProof.Rows
section
open PySem.SeqAt
open PySem.AutoSeq1 (wpAny_loadPart')
open PySem.MeetsSeq PySem.MeetsSeq2 PySem.MeetsSeq3
end
section
variable {prog:Program} {w:World} {A:Around} {E:Value->Shared->Prop} {s:Shared}
theorem cat_tup {t b:Addr} {vs ws:List Value} {Q:Value->Shared->Prop} (ht:IsTup s.heap t vs.toArray) (hb:IsTup s.heap b ws.toArray) (hv:vs≠[])
  (h1:ws=[]->Q (.ref t) s) (h2:ws≠[]->Q (.ref s.heap.objs.size) { s with heap:=s.heap.push { cls:=.type "tuple",data:=.seq (vs ++ ws).toArray } })
  (hsz:vs.length+ws.length<=sizeLine):wpAny (model prog w) A (binaryOp .Add (.ref t) (.ref b)) Q E s:=by
 obtain ⟨⟨cls,dd,data,sl⟩,ho,hc,n,hd⟩:=id ht;obtain ⟨⟨cls2,dd2,data2,sl2⟩,ho2,hc2,n2,hd2⟩:=id hb;simp only at hc hd hc2 hd2;subst hc hd hc2 hd2;have e:vs.toArray ++ ws.toArray=(vs ++ ws).toArray:=by simp
 by_cases hw:ws=[]
 ·exact concat_meets ⟨_,ho,rfl⟩ ⟨_,ho2,rfl⟩ noFill_tuple_add seq_tuple_add PySem.F.slot_tuple_add PySem.F.entry_tuple_add (PySem.F.args_tuple_add_2 _ _)
   (tuple_addW1 t b vs.toArray ws.toArray n n2 dd dd2 sl sl2 (by simpa using hv) (by simp[hw])) ⟨ho,ho2,h1 hw⟩
 ·refine concat_meets ⟨_,ho,rfl⟩ ⟨_,ho2,rfl⟩ noFill_tuple_add seq_tuple_add PySem.F.slot_tuple_add PySem.F.entry_tuple_add (PySem.F.args_tuple_add_2 _ _)
   (tuple_addW2 t b vs.toArray ws.toArray n n2 dd dd2 sl sl2 (by simpa using hv) (by simpa using hw) (by rw[List.size_toArray,List.size_toArray];exact hsz)) ⟨ho,ho2,?_⟩
  rw[e];exact h2 hw
def sIx (n d:Nat):Option Int->Nat
 | none=>d
 | some v=>if v<0 then (v+(n:Int)).toNat else min v.toNat n
theorem sIx_none (n d:Nat):sIx n d none=d:=rfl
theorem sIx_nat (n d k:Nat):sIx n d (some (k:Int))=min k n:=by
 show (if (k:Int)<0 then ((k:Int)+(n:Int)).toNat else min (k:Int).toNat n)=min k n
 rw[if_neg (by omega),Int.toNat_natCast]
theorem qzw (n d:Nat) (hd:d<=n) (o:Option Int):sIx n d o<=n:=by
 cases o with
 | none=>exact hd
 | some v =>
  show (if v<0 then (v+(n:Int)).toNat else min v.toNat n)<=n
  by_cases hv:v<0
  ·rw[if_pos hv];omega
  ·rw[if_neg hv];exact Nat.min_le_right _ _
theorem qr9 (v:Int) (n d:Nat):(if v<0 then max (v+(n:Int)) 0 else min v (n:Int))=((sIx n d (some v):Nat):Int):=by
 show (if v<0 then max (v+(n:Int)) 0 else min v (n:Int))=(((if v<0 then (v+(n:Int)).toNat else min v.toNat n):Nat):Int)
 by_cases hv:v<0
 ·simp only[if_pos hv];omega
 ·simp only[if_neg hv];omega
theorem qqq (lo hi:Option Int) (n:Nat):Builtin.Slice.sliceAdjust lo hi 1 (n:Int)=(((sIx n 0 lo:Nat):Int),((sIx n n hi:Nat):Int)):=by
 have h1:¬ ((1:Int)<0):=by omega
 unfold Builtin.Slice.sliceAdjust;simp only[h1,if_false];refine Prod.ext ?_ ?_
 ·cases lo with
  | none=>rfl
  | some v=>exact qr9 v n 0
 ·cases hi with
  | none=>rfl
  | some v=>exact qr9 v n n
theorem qqr (i j:Nat):Builtin.Slice.slicePlaces (i:Int) (j:Int) 1=j-i:=by
 unfold Builtin.Slice.slicePlaces;have h1:(1:Int)>0:=by omega
 simp only[h1,if_true,Int.ediv_one]
 split<;>omega
theorem qj4 {v:Value} {o:Option Int} {Q:Option Int->Shared->Prop} (p:IsPart v o) (h:Q o s):wpAny (model prog w) A (Builtin.Slice.slicePartIndex v) Q E s:=by
 cases p with
 | none=>exact slicePart_none h
 | int i t=>exact slicePart_int h
theorem qha {sl:Addr} {vl vu:Value} {lo hi:Option Int} {n:Nat} {Q:Int×Int×Nat->Shared->Prop} (hs:s.heap.IsSliceOf sl vl vu .none) (pl:IsPart vl lo) (pu:IsPart vu hi)
  (h:Q (((sIx n 0 lo:Nat):Int),1,sIx n n hi-sIx n 0 lo) s):wpAny (model prog w) A (Builtin.Slice.sliceApplied (.ref sl) (pure (n:Int))) Q E s:=by
 obtain ⟨os,hos,hcs,hds⟩:=id hs;unfold Builtin.Slice.sliceApplied Builtin.Slice.sliceFields;refine wpAny_bind (wpAny_bind (wpAny_field hos hds (x:=vl) rfl (wpAny_bind (wpAny_field hos hds (x:=vu) rfl (wpAny_bind (wpAny_field hos hds (x:=.none) rfl (wpAny_pure ?_)))))));refine wpAny_bind (slicePart_none ?_)
 show wpAny _ _ (if ((1:Int) == 0)=true then _ else _) _ _ s
 rw[if_neg (by decide)];refine wpAny_bind (qj4 pl (wpAny_bind (qj4 pu (wpAny_bind (wpAny_pure ?_)))))
 show wpAny _ _ (match Builtin.Slice.sliceAdjust lo hi 1 (n:Int) with|(lo,hi)=>pure (lo,(1:Int),Builtin.Slice.slicePlaces lo hi 1)) _ _ s
 rw[qqq lo hi n]
 show wpAny _ _ (pure (((sIx n 0 lo:Nat):Int),(1:Int),Builtin.Slice.slicePlaces ((sIx n 0 lo:Nat):Int) ((sIx n n hi:Nat):Int) 1)) _ _ s
 rw[qqr];exact wpAny_pure h
theorem qu5 (xs:Array Value) (i k:Nat):((List.range k).filterMap fun (m:Nat)=>xs[((i:Int)+(m:Int)*1).toNat]?).toArray=((xs.toList.drop i).take k).toArray:=by
 have e:(fun (m:Nat)=>xs[((i:Int)+(m:Int)*1).toNat]?)=λm=>xs[i+m]?:=by
  funext m
  have:((i:Int)+(m:Int)*1).toNat=i+m:=by omega
  rw[this]
 rw[e];have:=pick_run xs i k;rw[List.filterMap_map] at this;have e2:((λx=>xs[x]?) ∘ λx=>i+x)=λm=>xs[i+m]?:=rfl
 rw[e2] at this;rw[this]
theorem getItem_tuple_cut {t sl:Addr} {items:Array Value} {vl vu:Value} {lo hi:Option Int} {Q:Value->Shared->Prop} (ht:IsTup s.heap t items) (hs:s.heap.IsSliceOf sl vl vu .none) (pl:IsPart vl lo) (pu:IsPart vu hi)
  (hw:¬ (sIx items.size 0 lo=0/\sIx items.size items.size hi=items.size))
  (h:Q (.ref s.heap.objs.size) { s with heap:=s.heap.push { cls:=.type "tuple",data:=.seq ((items.toList.drop (sIx items.size 0 lo)).take (sIx items.size items.size hi-sIx items.size 0 lo)).toArray } })
  (hsz:items.size<=sizeLine):wpAny (model prog w) A (getItem (.ref t) (.ref sl)) Q E s:=by
 have htake:sizeOk (.seq ((items.toList.drop (sIx items.size 0 lo)).take (sIx items.size items.size hi-sIx items.size 0 lo)).toArray):=by
  show ((items.toList.drop (sIx items.size 0 lo)).take (sIx items.size items.size hi-sIx items.size 0 lo)).toArray.size<=sizeLine
  rw[List.size_toArray,List.length_take,List.length_drop,Array.length_toList];omega
 have hj:sIx items.size items.size hi<=items.size:=qzw _ _ (Nat.le_refl _) hi;obtain ⟨os,hos,hcs,hds⟩:=id hs;have hTs:s.TypeIs (.ref sl) "slice" :=⟨os,hos,hcs⟩;unfold getItem
 try with_reducible refine wpAny_holding ?_
 first|refine wpAny_bind (wpAny_pure ?_)|skip
 refine wpAny_bind (wpAny_sequenceKey ht.typeIs (by decide) ?_);refine wpAny_bind (wpAny_callSpecial?_slot (name:=Str.ofString "__getitem__") ht.typeIs PyProof.Rows.slot_tuple_getitem
  (wpAny_call_entry PyProof.Rows.slot_tuple_getitem ht.typeIs entry_tuple_getitem ?_ (args_tuple_getitem _ _)))
 show wpAny _ _ (Builtin.Tuple.tupleItemsOf (.ref t) >>= _) _ _ s
 refine wpAny_bind (tupleItemsOf_ ht ?_);refine wpAny_bind (wpAny_typeOf hTs ?_);rw[if_pos (by decide)];refine wpAny_bind (qha hs pl pu ?_);have hno:¬ ((((sIx items.size 0 lo:Nat):Int) == 0 && (1:Int) == 1 && (sIx items.size items.size hi-sIx items.size 0 lo) == items.size)=true):=by
  intro q;rw[Bool.and_eq_true,Bool.and_eq_true] at q;have q1:((sIx items.size 0 lo:Nat):Int)=0:=eq_of_beq q.1.1;have q2:sIx items.size items.size hi-sIx items.size 0 lo=items.size:=eq_of_beq q.2;exact hw ⟨by omega,by omega⟩
 show wpAny _ _ (if (((sIx items.size 0 lo:Nat):Int) == 0 && (1:Int) == 1 && (sIx items.size items.size hi-sIx items.size 0 lo) == items.size)=true then _ else _) _ _ s
 rw[if_neg hno,qu5]
 first
  | exact wpAny_bind (m:=Builtin.Tuple.tupleExact _) (wpAny_newObj_type (wpAny_pure ⟨_,rfl,wpAny_pure h⟩) htake)
  | exact wpAny_bind (m:=Builtin.Tuple.tupleExact _) (wpAny_newObj_type (wpAny_bind (wpAny_pure (wpAny_pure ⟨_,rfl,wpAny_pure h⟩))) htake)
  | exact wpAny_bind (wpAny_bind (m:=Builtin.Tuple.tupleExact _) (wpAny_newObj_type (wpAny_pure (wpAny_pure ⟨_,rfl,wpAny_pure h⟩)) htake))
  | exact wpAny_bind (wpAny_bind (m:=Builtin.Tuple.tupleExact _) (wpAny_newObj_type (wpAny_pure ⟨_,rfl,wpAny_pure h⟩) htake))
end
end HT
namespace L2
open PySem PySem.Spec PyProof.Rows
abbrev TO:=St->Hp->(Option Int->Hp->Prop)->Prop
def PO (X:Cx) (e:Option Expr) (t:TO):Prop:=
 ∀ (pins:List (Addr×Obj)) (s:Shared) (σ:St) (H:Hp) (Q:Option Int->Hp->Prop),Inv X pins σ H s->t σ H Q ->
  wpAny (model X.prog X.w) X.A (evalPart e X.env) (λu s'=>∃ o H',Inv X pins σ H' s'/\IsPart u o/\Q o H') X.xe s
def qxt:TO:=λ_ H Q=>Q none H
inductive tPartS (x:V) (H:Hp) (Q:Option Int->Hp->Prop):Prop
 | mk (i:Int) (h:x=.int i) (k:Q (some i) H)
def qCe (t:TE):TO:=λσ H Q=>t σ H λx H1=>tPartS x H1 Q
theorem intsAre_of {ns:List Int}:∀ {us:List Value},Vals (ns.map V.int) us->IntsAre us ns:=by
 induction ns with
 | nil=>intro us r;rw[List.map_nil] at r;cases r;exact .nil
 | cons n ns ih =>
  intro us r;rw[List.map_cons] at r
  cases r with
  | cons r1 r2 =>
   obtain ⟨t,e⟩:=r1;subst e;exact .cons n t (ih r2)
section
variable {X:Cx} {e:Expr} {te:TE} {lo hi:Option Expr} {tl th:TO} {pos p2:Pos}
theorem qf7:PO X none qxt:=by
 intro pins s σ H Q I h;rw[evalPart_none];exact wpAny_pure ⟨none,H,I,.none,h⟩
theorem qcl (h:PE X e te):PO X (some e) (qCe te):=by
 intro pins s σ H Q I hw;rw[evalPart_some];refine thn (h pins s σ H _ I hw) λu s1 hq__=>?_
 obtain ⟨x,H1,I1,r1,q1⟩:=hq__;obtain ⟨i,rfl,q⟩:=q1;obtain ⟨t,rfl⟩:=r1;exact ⟨some i,H1,I1,.int i t,q⟩
def SlR (X:Cx) (r:V->Option Int->Option Int->Hp->VK->Prop):Prop:=
 ∀ (pins:List (Addr×Obj)) (s:Shared) (σ:St) (H:Hp) (x:V) (v vl vu:Value) (lo hi:Option Int) (sl:Addr) (Q:VK),Inv X pins σ H s->RelV x v->s.heap.IsSliceOf sl vl vu .none->IsPart vl lo->IsPart vu hi->r x lo hi H Q ->
  ∃ T id,typeLookup (.type T) "__getitem__" = pure (some (.builtin id))/\s.TypeIs v T/\wpAny (model X.prog X.w) X.A (getItem v (.ref sl)) (EP X pins σ Q) X.xe s
def tSl (r:V->Option Int->Option Int->Hp->VK->Prop) (te:TE) (tl th:TO):TE:=λσ H Q=>te σ H λx H1=>tl σ H1 λl H2=>th σ H2 λu H3=>r x l u H3 Q
theorem qcq {r:V->Option Int->Option Int->Hp->VK->Prop} (hr:SlR X r) (he:PE X e te) (hl:PO X lo tl) (hu:PO X hi th):PE X (.Subscript e (.Slice lo hi none p2) pos) (tSl r te tl th):=by
 intro pins s σ H Q I h;refine Subscript_ (thn (he pins s σ H _ I h) λv s1 hq__=>?_);obtain ⟨x,H1,I1,r1,q1⟩:=hq__;refine wpAny_Slice (thn (hl pins s1 σ H1 _ I1 q1) λvl s2 ⟨l,H2,I2,pl,q2⟩=>thn (hu pins s2 σ H2 _ I2 q2) λvu s3 hq__=>?_);obtain ⟨u,H3,I3,pu,q3⟩:=hq__;rw[evalPart_none];refine wpAny_pure ?_;have I4:Inv X pins σ H3 { s3 with heap:=s3.heap.push { cls:=.type "slice",data:=.fields #[vl,vu,.none] } }:=I3.kept (t':=s3.toks) λb ob q=>Heap.get?_push_of_some _ q
 obtain ⟨T,id,hT,ht,hg⟩:=hr pins { s3 with heap:=s3.heap.push { cls:=.type "slice",data:=.fields #[vl,vu,.none] } } σ H3 x v vl vu l u s3.heap.objs.size Q I4 r1 (Heap.IsSliceOf.new ..) pl pu q3
 show wpAny (model X.prog X.w) X.A (subscriptTail e (.Slice lo hi none p2) v (.ref s3.heap.objs.size)) (EP X pins σ Q) X.xe { s3 with heap:=s3.heap.push { cls:=.type "slice",data:=.fields #[vl,vu,.none] } }
 exact tail_any (ops:=[.ref s3.heap.objs.size,v]) ht hT hg (by with_unfolding_all rfl)
def qhj (xs:List V) (lo hi:Option Int):List V:=(xs.drop (HT.sIx xs.length 0 lo)).take (HT.sIx xs.length xs.length hi-HT.sIx xs.length 0 lo)
theorem qh5 (xs:List V) (lo hi:Option Int):(qhj xs lo hi).length<=xs.length:=by
 unfold qhj;rw[List.length_take,List.length_drop];omega
def qCf (K:Frag):V->Option Int->Option Int->Hp->VK->Prop:=λx lo hi H Q=>∃ a xs,x=.ref a/\SqT K H a xs /\
 ¬ (HT.sIx xs.length 0 lo=0/\HT.sIx xs.length xs.length hi=xs.length)/\∀ p,H p=none->Q (.ref p) (upd H p (.tup (qhj xs lo hi)))
theorem qo0:SlR X (qCf X.K):=by
 intro pins s σ H x v vl vu lo hi sl Q I rx hs pl pu h;obtain ⟨a,xs,rfl,hx,hw,q⟩:=h;cases rx;obtain ⟨its,r,ht,hz⟩:=I.tuple hx;have hlen:its.toArray.size=xs.length:=by rw[List.size_toArray];exact r.length.symm
 refine ⟨"tuple",_,PyProof.Rows.slot_tuple_getitem.lookup,ht.typeIs,?_⟩;refine HT.getItem_tuple_cut ht hs pl pu (by rw[hlen];exact hw) ?_ (by rw[hlen];exact hz);rw[hlen];refine ⟨.ref s.heap.objs.size,_,I.laid (t':=s.toks) (o:=.tup (qhj xs lo hi)) (λb ob q=>Heap.get?_push_of_some _ q) (Nat.le_refl _) ?_,rfl,q _ (I.hok.fresh (Nat.le_refl _))⟩;exact ⟨Nat.le_trans (qh5 xs lo hi) hz,_,(r.drop (HT.sIx xs.length 0 lo)).take (HT.sIx xs.length xs.length hi-HT.sIx xs.length 0 lo),IsTup.new _ _⟩
def qCg (K:Frag):R2:=λx y H Q=>∃ a b xs ys,x=.ref a/\y=.ref b/\SqT K H a xs/\SqT K H b ys/\xs≠[]/\xs.length+ys.length<=sizeLine /\
 (ys=[]->Q (.ref a) H)/\(ys≠[]->∀ p,H p=none->Q (.ref p) (upd H p (.tup (xs ++ ys))))
theorem Vals.nil_iff {xs:List V} {us:List Value} (r:Vals xs us):us=[]↔xs=[]:=by
 cases r with
 | nil=>simp
 | cons _ _=>simp
theorem op_catT:OpR X (binaryOp .Add) (qCg X.K):=by
 intro pins s σ H x y v u Q I rx ry h;obtain ⟨a,b,xs,ys,rfl,rfl,ha,hb,hx,hz,q1,q2⟩:=h;cases rx;cases ry;obtain ⟨its,r1,p1,_⟩:=I.tuple ha;obtain ⟨its2,r2,p2,_⟩:=I.tuple hb;refine HT.cat_tup p1 p2 (λz=>hx (r1.nil_iff.mp z)) (λz=>⟨.ref a,H,I,rfl,q1 (r2.nil_iff.mp z)⟩) (λz=>?_) (by rw[<- r1.length,<- r2.length];exact hz);refine ⟨.ref s.heap.objs.size,_,I.laid (t':=s.toks) (o:=.tup (xs ++ ys)) (λb ob q=>Heap.get?_push_of_some _ q) (Nat.le_refl _) ?_,rfl,q2 (λw=>z (r2.nil_iff.mpr w)) _ (I.hok.fresh (Nat.le_refl _))⟩;exact ⟨by rw[List.length_append];exact hz,_,r1.append r2,IsTup.new _ _⟩
end
open PySem PySem.Spec PyProof.Rows
def ixN (n:Nat) (i:Int):Option Nat:=if 0<=i then (if i<n then some i.toNat else none) else if -(n:Int)<=i then some (i+n).toNat else none
def atI {α:Type} (xs:List α) (i:Int):Option α:=(ixN xs.length i).bind λj=>xs[j]?
theorem qxu {n:Nat} {i:Int} {j:Nat} (h:ixN n i=some j):seqIndex? i n=some j/\j<n /\ -(n:Int)<=i/\i<n:=by
 unfold ixN at h
 by_cases h0:0<=i
 ·rw[if_pos h0] at h
  by_cases h1:i<n
  ·rw[if_pos h1] at h
   have e:i.toNat=j:=Option.some.inj h;exact ⟨by rw[seqIndex_of h0 h1,e],by omega,by omega,h1⟩
  ·rw[if_neg h1] at h;cases h
 ·rw[if_neg h0] at h
  by_cases h1:-(n:Int)<=i
  ·rw[if_pos h1] at h
   have e:(i+n).toNat=j:=Option.some.inj h;exact ⟨by rw[seqIndex_neg (by omega) h1,e],by omega,h1,by omega⟩
  ·rw[if_neg h1] at h;cases h
theorem qsa {α:Type} {xs:List α} {i:Int} {v:α} (h:atI xs i=some v):∃ j,seqIndex? i xs.length=some j/\xs[j]?=some v/\j<xs.length /\ -(xs.length:Int)<=i/\i<xs.length:=by
 unfold atI at h
 cases e:ixN xs.length i with
 | none=>rw[e] at h;cases h
 | some j =>
  rw[e] at h;obtain ⟨h1,h2,h3,h4⟩:=qxu e;exact ⟨j,h1,h,h2,h3,h4⟩
theorem qd5 {α:Type} {xs:List α} {j:Nat} {v:α} (h:xs[j]?=some v):atI xs (j:Int)=some v:=by
 have hj:j<xs.length:=(List.getElem?_eq_some_iff.mp h).1;have e:ixN xs.length (j:Int)=some j:=by
  unfold ixN;rw[if_pos (by omega),if_pos (by omega)];simp
 unfold atI;rw[e];exact h
def qn4 (b:Expr):Prop:=∀ o i,subscripted b false o i=operate [o,i] (getItem o i)
def IxR (X:Cx) (r:R2):Prop:=
 ∀ (value slice:Expr) (pins:List (Addr×Obj)) (s:Shared) (σ:St) (H:Hp) (x y:V) (v u:Value) (Q:VK),Inv X pins σ H s->RelV x v->RelV y u->r x y H Q ->
  subscripted slice false v u=operate [v,u] (getItem v u)->wpAny (model X.prog X.w) X.A (subscriptTail value slice v u) (EP X pins σ Q) X.xe s
def MtR (X:Cx) (id:String) (r:V->List V->Hp->VK->Prop):Prop:=
 ∀ (pins:List (Addr×Obj)) (s:Shared) (σ:St) (H:Hp) (x:V) (xs:List V) (v:Value) (us:List Value) (Q:VK),Inv X pins σ H s->RelV x v->Vals xs us->r x xs H Q ->
  wpAny (model X.prog X.w) X.A (call (.builtin id) (v :: us)) (EP X pins σ Q) X.xe s
section
variable {X:Cx} {a b:Expr} {ta tb:TE} {pos:Pos}
theorem qcm {r:R2} (hr:IxR X r) (ha:PE X a ta) (hb:PE X b tb) (hs:qn4 b):PE X (.Subscript a b pos) (tOp r ta tb):=by
 intro pins s σ H Q I h;exact Subscript_ (qCa ha hb I h λv u s2 x y H2 I2 rx ry q=>hr a b pins s2 σ H2 x y v u Q I2 rx ry q (hs _ _))
inductive rIxLS (K:Frag) (x y:V) (H:Hp) (Q:VK):Prop
 | mk (p:Addr) (xs:List V) (i:Int) (v:V) (hx:x=.ref p) (hy:y=.int i) (hs:SqL K H p xs) (ha:atI xs i=some v) (k:Q v H)
def qCh (K:Frag):R2:=λx y H Q=>rIxLS K x y H Q
inductive rIxTS (K:Frag) (x y:V) (H:Hp) (Q:VK):Prop
 | mk (p:Addr) (xs:List V) (i:Int) (v:V) (hx:x=.ref p) (hy:y=.int i) (hs:SqT K H p xs) (ha:atI xs i=some v) (k:Q v H)
def qhk (K:Frag):R2:=λx y H Q=>rIxTS K x y H Q
theorem qsb:IxR X (qCh X.K):=by
 intro value slice pins s σ H x y v u Q I rx ry h hs;obtain ⟨p,xs,i,z,rfl,rfl,hq,he,q⟩:=h;cases rx;obtain ⟨t,rfl⟩:=ry;obtain ⟨its,r,pl,hz⟩:=I.list hq;obtain ⟨j,h1,h2,h3,h4,h5⟩:=qsa he;obtain ⟨w,ew,rw'⟩:=r.get h2;have hl:=r.length;have hn:=qr0;have fin:EP X pins σ Q w s:=⟨z,H,I,rw',q⟩
 by_cases h0:0<=i
 ·have hj:i.toNat=j:=by
   rw[seqIndex_of h0 h5] at h1;exact Option.some.inj h1
  exact item_listR pl.isList h0 (by omega) (by rw[hj];simpa using ew) fin hs
 ·have hj:(i+(its.toArray.size:Int)).toNat=j:=by
   rw[seqIndex_neg (by omega) h4] at h1;rw[List.size_toArray,<- hl];exact Option.some.inj h1
  exact subscriptTail_builtinR (x:=w) pl.isList.typeIs slot_list_getitem.lookup
   (wpAny_getItem_list_neg (Q:=λr s'=>r=w/\EP X pins σ Q r s') pl.isList (by omega) (by rw[List.size_toArray]<;>omega) (by omega) (by rw[hj];simpa using ew) ⟨rfl,fin⟩) hs
theorem qbi:IxR X (qhk X.K):=by
 intro value slice pins s σ H x y v u Q I rx ry h hs;obtain ⟨p,xs,i,z,rfl,rfl,hq,he,q⟩:=h;cases rx;obtain ⟨t,rfl⟩:=ry;obtain ⟨its,r,pl,hz⟩:=I.tuple hq;obtain ⟨j,h1,h2,h3,h4,h5⟩:=qsa he;obtain ⟨w,ew,rw'⟩:=r.get h2;have hl:=r.length;have hn:=qr0;have fin:EP X pins σ Q w s:=⟨z,H,I,rw',q⟩;exact subscriptTail_builtinR (x:=w) pl.typeIs slot_tuple_getitem.lookup
  (getItem_tuple (j:=j) (Q:=λr s'=>r=w/\EP X pins σ Q r s') pl (by omega) (by omega) (by rw[List.size_toArray,<- hl];exact h1) (by simpa using ew) ⟨rfl,fin⟩) hs
theorem qmb (lo hi:Option Int) (n:Nat):(sliceBounds lo hi none n).1=((HT.sIx n 0 lo:Nat):Int)/\(sliceBounds lo hi none n).2.1=((HT.sIx n n hi:Nat):Int)/\(sliceBounds lo hi none n).2.2=1:=by
 refine ⟨?_,?_,rfl⟩
 ·cases lo with
  | none=>simp[sliceBounds,HT.sIx]
  | some i =>
   simp only[sliceBounds,HT.sIx,Option.getD_none,show (1:Int)>0 by decide,if_true]
   by_cases h:i<0
   ·simp only[h,if_true]<;>omega
   ·simp only[h,if_false]<;>omega
 ·cases hi with
  | none=>simp[sliceBounds,HT.sIx]
  | some i =>
   simp only[sliceBounds,HT.sIx,Option.getD_none,show (1:Int)>0 by decide,if_true]
   by_cases h:i<0
   ·simp only[h,if_true]<;>omega
   ·simp only[h,if_false]<;>omega
theorem qk3 (its:List Value) (lo hi:Option Int):slicePick its.toArray lo hi none=((its.drop (HT.sIx its.length 0 lo)).take (HT.sIx its.length its.length hi-HT.sIx its.length 0 lo)).toArray:=by
 obtain ⟨h1,h2,h3⟩:=qmb lo hi its.toArray.size;unfold slicePick;rw[h1,h2,h3];simp only[sliceRange_one,pick_run,List.size_toArray]<;>rfl
def qEa (K:Frag):V->Option Int->Option Int->Hp->VK->Prop:=λx lo hi H Q=>∃ a xs,x=.ref a/\SqL K H a xs/\∀ p,H p=none->Q (.ref p) (upd H p (.lst (qhj xs lo hi)))
theorem qxv:SlR X (qEa X.K):=by
 intro pins s σ H x v vl vu lo hi sl Q I rx hs pl pu h;obtain ⟨a,xs,rfl,hx,q⟩:=h;cases rx;obtain ⟨its,r,ht,hz⟩:=I.list hx;have hlen:=r.length;refine ⟨"list",_,slot_list_getitem.lookup,ht.isList.typeIs,?_⟩;refine wpAny_getItem_list_slice ht.isList hs pl pu .none (by simp) ?_ (by rw[List.size_toArray]<;>omega);rw[qk3,<- hlen];refine ⟨.ref s.heap.objs.size,_,I.laid (t':=s.toks) (o:=.lst (qhj xs lo hi)) (λb ob q=>Heap.get?_push_of_some _ q) (Nat.le_refl _) ?_,rfl,q _ (I.hok.fresh (Nat.le_refl _))⟩;exact ⟨Nat.le_trans (qh5 xs lo hi) hz,_,0,(r.drop (HT.sIx xs.length 0 lo)).take (HT.sIx xs.length xs.length hi-HT.sIx xs.length 0 lo),Heap.get?_push_size _ rfl⟩
theorem qal:CallR X (.builtin "len") (λxs H Q=>∃ p ys,xs=[.ref p]/\(SqL X.K H p ys\/SqT X.K H p ys)/\Q (.int ys.length) H):=by
 intro pins s σ H xs us Q I r h;obtain ⟨p,ys,rfl,hq,q⟩:=h;obtain ⟨u,rfl,rx⟩:=vals1 r;cases rx;have hn:=qr0
 rcases hq with hq|hq
 ·obtain ⟨its,r',pl,hz⟩:=I.list hq
  have hlen:=r'.length;exact Calls.call_len_list pl.isList (by simp only[List.size_toArray]<;>omega) ⟨.int ys.length,H,I.tok _,⟨s.toks+1,by rw[List.size_toArray,hlen]⟩,q⟩
 ·obtain ⟨its,r',pl,hz⟩:=I.tuple hq
  have hlen:=r'.length;exact len_tuple pl (by simp only[List.size_toArray]<;>omega) ⟨.int ys.length,H,I.tok _,⟨s.toks+1,by rw[List.size_toArray,hlen]⟩,q⟩
theorem call_list_of:CallR X (.type "list") (λxs H Q=>∃ p ys,xs=[.ref p]/\(SqL X.K H p ys\/SqT X.K H p ys)/\∀ l,H l=none->Q (.ref l) (upd H l (.lst ys))):=by
 intro pins s σ H xs us Q I r h;obtain ⟨p,ys,rfl,hq,q⟩:=h;obtain ⟨u,rfl,rx⟩:=vals1 r;cases rx;have fin:∀ (its:List Value),Vals ys its->ys.length<=sizeLine->∀ (h':Heap) (c':Nat),(∀ b o',s.heap.get? b=some o'->h'.get? b=some o') ->
   h'.get? s.heap.objs.size=some { cls:=.type "list",dict:=none,data:=.seq its.toArray c',slots:=#[] }->EP X pins σ Q (.ref s.heap.objs.size) { s with heap:=h' }:=λits r' hz h' c' kp e =>
  ⟨.ref s.heap.objs.size,_,I.laid (t':=s.toks) kp (Nat.le_refl _) (show ObjOk X.prog X.w _ h' _ (.lst ys) from ⟨hz,its,c',r',e⟩),rfl,q _ (I.hok.fresh (Nat.le_refl _))⟩
 rcases hq with hq|hq
 ·obtain ⟨its,r',pl,hz⟩:=I.list hq
  have hlen:=r'.length;obtain ⟨o,ho,hc,n,hd⟩:=pl.isList;exact call_list_seq p (.inl rfl) ho hc hd (λh' c' kp e=>fin its r' hz h' c' kp e) (by simp only[List.size_toArray]<;>omega)
 ·obtain ⟨its,r',pl,hz⟩:=I.tuple hq
  have hlen:=r'.length;obtain ⟨o,ho,hc,n,hd⟩:=pl;exact call_list_seq p (.inr rfl) ho hc hd (λh' c' kp e=>fin its r' hz h' c' kp e) (by simp only[List.size_toArray]<;>omega)
def tyV (K:Frag) (T:String) (x:V) (H:Hp):Prop:=match x with
 | .str _=>T = "str"
 | .int _=>T = "int"
 | .ref p=>(T = "list" /\ ∃ xs,SqL K H p xs)\/(T = "tuple" /\ ∃ o,K.lookup p=some o/\o.cls=.type "tuple" /\ o.dict=none) \/
   (T = "dict" /\ ((∃ kvs,H p=some (.dK kvs))\/∃ kvs,H p=some (.dT kvs)))\/(T = "set" /\ ∃ S n,H p=some (.set S n))
 | _=>False
theorem qzx {pins:List (Addr×Obj)} {σ:St} {H:Hp} {s:Shared} {T:String} {x:V} {v:Value} (I:Inv X pins σ H s) (r:RelV x v) (ty:tyV X.K T x H) :
  s.TypeIs v T/\∀ a,v=.ref a->∃ ob,s.heap.get? a=some ob/\ob.dict=none:=by
 cases x with
 | str z =>
  obtain ⟨t,rfl⟩:=r
  cases (show T = "str" from ty)
  exact ⟨typeIs_str s z t,λ_ e=>nomatch e⟩
 | int i =>
  obtain ⟨t,rfl⟩:=r
  cases (show T = "int" from ty)
  exact ⟨typeIs_int s i t,λ_ e=>nomatch e⟩
 | ref p =>
  cases r
  rcases ty with ⟨rfl,xs,hq⟩|⟨rfl,o,hk,hc,hd⟩|⟨rfl,hk⟩|⟨rfl,S,n,hk⟩
  ·obtain ⟨its,_,pl,_⟩:=I.list hq
   refine ⟨pl.isList.typeIs,λa e=>?_⟩;cases e;obtain ⟨o,n,e,c,hd,_⟩:=pl;exact ⟨o,e,hd⟩
  ·refine ⟨⟨o,I.kIn p o hk,hc⟩,λa e=>?_⟩
   cases e;exact ⟨o,I.kIn _ o hk,hd⟩
  ·have z:∃ o,s.heap.get? p=some o/\o.ExactDict:=by
    rcases hk with ⟨kvs,hk⟩|⟨kvs,hk⟩
    ·obtain ⟨_,_,_,_,o,_,_,e,ex,_⟩:=I.hok p _ hk
     exact ⟨o,e,ex⟩
    ·obtain ⟨_,_,_,_,o,_,_,e,ex,_⟩:=I.hok p _ hk
     exact ⟨o,e,ex⟩
   obtain ⟨o,e,ex⟩:=z;refine ⟨⟨o,e,ex.1⟩,λa e2=>?_⟩;cases e2;exact ⟨o,e,ex.2.1⟩
  ·obtain ⟨o,_,_,_,e,ex,_⟩:=I.hok p _ hk
   refine ⟨⟨o,e,ex.1⟩,λa e2=>?_⟩;cases e2;exact ⟨o,e,ex.2.1⟩
 | _=>exact False.elim ty
def tBM (K:Frag) (T:String) (r:V->List V->Hp->VK->Prop) (to:TE) (t:TA):TE:=λσ H Q=>to σ H λx H1=>tyV K T x H1/\t σ H1 λxs H2=>r x xs H2 Q
variable {o e:Expr} {es:List Expr} {to:TE} {t:TA} {name:Str} {apos cpos:Pos} {T id:String} {r:V->List V->Hp->VK->Prop}
theorem qf8 (pa:PlainAttrs T) (slot:Slot T name id) (hty:typeOf (.builtin id)=pure (.type "method_descriptor")) (hm:MtR X id r) (ho:PE X o to) (ha:PA X (e :: es) t)
  (hbase:attributeBase o name X.env (eval o X.env)=eval o X.env:=by rfl)
  (hfew:((backTo cpos (starEach (e :: es) X.env)).all (λx=>!x.1) && (backToKw cpos (keywordEach [] X.env)).all (λx=>x.1.isSome)
   && decide ((e :: es).length+([]:List Keyword).length+(if ([]:List Keyword).isEmpty then 0 else 1)<30))=true:=by rfl)
  (hline:(apos.endLine == cpos.line)=true:=by rfl) (hs:starEach (e :: es) X.env=(false,eval e X.env) :: starEach es X.env:=by rfl) (hplain:(backTo cpos (starEach es X.env)).any (·.1)=false:=by rfl) :
  PE X (.Call (.Attribute o name apos) (e :: es) [] cpos) (tBM X.K T r to t):=by
 intro pins s σ H Q I h;refine wpAny_Call_method_late hbase hfew hline rfl (thn (ho pins s σ H _ I h) λv s1 hq__=>?_);obtain ⟨x,H1,I1,r1,ty,q1⟩:=hq__;obtain ⟨h1,h2⟩:=qzx I1 r1 ty;refine ⟨T,id,pa,slot,hty,h1,h2,?_⟩;have hA:=ha cpos pins s1 σ H1 _ I1 q1;rw[hs] at hA ⊢;refine Calls.callWith_builtin (by show (false || (backTo cpos (starEach es X.env)).any (·.1))=false;rw[hplain]<;>rfl) (Calls.evalArgs_plain ?_);exact thn hA λus s2 ⟨vs,H2,I2,r2,q2⟩=>hm pins s2 σ H2 x vs v us Q I2 r1 r2 q2
end
open PySem PySem.Spec PyProof.Rows
def MtM (X:Cx) (id:String) (r:V->List V->Hp->VK->Prop):Prop:=
 ∀ (pins:List (Addr×Obj)) (s:Shared) (σ:St) (H:Hp) (x:V) (xs:List V) (v:Value) (us:List Value) (Q:VK),Inv X pins σ H s->RelV x v->Vals xs us->r x xs H Q ->
  wpAny (model X.prog X.w) X.A (call (.builtin id) (v :: us)) (EP X pins σ Q) X.xe s
theorem Vals.one:∀ {x:V} {us:List Value},Vals [x] us->∃ u,us=[u]/\RelV x u
 | _,_,.cons r .nil=>⟨_,rfl,r⟩
theorem Vals.two:∀ {x y:V} {us:List Value},Vals [x,y] us->∃ u v,us=[u,v]/\RelV x u/\RelV y v
 | _,_,_,.cons r (.cons q .nil)=>⟨_,_,rfl,r,q⟩
theorem Vals.reverse {xs:List V} {us:List Value} (h:Vals xs us):Vals xs.reverse us.reverse:=by
 induction h with
 | nil=>exact .nil
 | cons r t ih=>rw[List.reverse_cons,List.reverse_cons];exact Vals.append ih (.cons r .nil)
section
variable {X:Cx} {pins:List (Addr×Obj)} {σ:St} {H:Hp} {s:Shared} {l b:Addr} {xs ys zs:List V}
theorem Inv.lset {its its':List Value} {n:Nat} {f:Array Value->Array Value} {t':Nat} (I:Inv X pins σ H s) (hH:H l=some (.lst xs))
  (e:s.heap.get? l=some { cls:=.type "list",data:=.seq its.toArray n }) (hf:f its.toArray=its'.toArray) (hv:Vals ys its') (hz:ys.length<=sizeLine) :
  Inv X pins σ (upd H l (.lst ys)) { s with heap:=s.heap.update l (Obj.mapSeq f),toks:=t' }:=by
 have q:=PySem.IsL.update e f;rw[hf] at q;refine I.write (x:=l) (e:=l) (by rw[hH];exact trivial) (.inl rfl) (λb' u hb hu=>(Heap.get?_update_other s.heap (Obj.mapSeq f) (Ne.symm hb)).trans hu) ⟨_,q⟩ ?_;exact ⟨hz,its',_,hv,q⟩
theorem Inv.lnew {its:List Value} {t':Nat} (I:Inv X pins σ H s) (hv:Vals ys its) (hz:ys.length<=sizeLine) :
  Inv X pins σ (upd H s.heap.objs.size (.lst ys)) { s with heap:=s.heap.push { cls:=.type "list",data:=.seq its.toArray },toks:=t' }:=
 I.laid (λ_ _ q=>Heap.get?_push_of_some _ q) (Nat.le_refl _) ⟨hz,its,0,hv,Heap.get?_push_size _ rfl⟩
theorem Inv.fresh (I:Inv X pins σ H s):H s.heap.objs.size=none:=I.hok.fresh (Nat.le_refl _)
theorem Inv.lstM (I:Inv X pins σ H s) (hH:H l=some (.lst xs)):xs.length<=sizeLine/\∃ (its:List Value) (n:Nat),Vals xs its/\xs.length=its.length/\s.heap.get? l=some { cls:=.type "list",data:=.seq its.toArray n }:=by
 obtain ⟨z,its,n,r,e⟩:=I.hok l _ hH;exact ⟨z,its,n,r,r.length,e⟩
theorem qu6 {n:Nat} (h:n<=sizeLine):Builtin.List.listTooLong n=false:=by
 unfold Builtin.List.listTooLong;exact decide_eq_false (by omega)
end
section
variable {X:Cx}
def qxw:V->List V->Hp->VK->Prop:=λx vs H Q=>∃ l xs y,x=.ref l/\vs=[y]/\H l=some (.lst xs)/\xs.length<sizeLine/\Q .non (upd H l (.lst (xs ++ [y])))
theorem mt_append:MtM X "list.append" qxw:=by
 intro pins s σ H x vs v us Q I rx rv h;obtain ⟨l,xs,y,rfl,rfl,hH,hz,q⟩:=h;cases rx;obtain ⟨u,rfl,ru⟩:=rv.one;obtain ⟨z,its,n,r,hl,e⟩:=I.lstM hH;refine call_meets F.slot_list_append ⟨_,e,rfl⟩ F.entry_list_append (F.args_list_append_2 _ _) (PySem.list_append l its.toArray n u (by rw[List.size_toArray];omega)) ⟨e,?_⟩;refine ⟨.non,_,I.lset (its':=its ++ [u]) hH e (by simp) (r.append (.cons ru .nil)) ?_,rfl,q⟩;rw[List.length_append,List.length_singleton];omega
def qxx:V->List V->Hp->VK->Prop:=λx vs H Q=>∃ l b xs zs,x=.ref l/\vs=[.ref b]/\H l=some (.lst xs)/\H b=some (.lst zs)/\xs.length+zs.length<=sizeLine/\Q .non (upd H l (.lst (xs ++ zs)))
theorem mt_extend:MtM X "list.extend" qxx:=by
 intro pins s σ H x vs v us Q I rx rv h;obtain ⟨l,b,xs,zs,rfl,rfl,hH,hB,hz,q⟩:=h;cases rx;obtain ⟨u,rfl,ru⟩:=rv.one;cases ru;obtain ⟨z,its,n,r,hl,e⟩:=I.lstM hH;obtain ⟨z2,its2,n2,r2,hl2,e2⟩:=I.lstM hB;have hsz:its.toArray.size+its2.toArray.size<=sizeLine:=by rw[List.size_toArray,List.size_toArray];omega
 have hlong:¬ (!its.toArray.isEmpty && Builtin.List.listTooLong (its.toArray.size+its2.toArray.size))=true:=by
  rw[qu6 hsz,Bool.and_false];exact Bool.false_ne_true
 refine call_meets F.slot_list_extend ⟨_,e,rfl⟩ F.entry_list_extend (F.args_list_extend_2 _ _)
  (AutoSeq1.list_extend_list_list_0 l its.toArray n b its2.toArray n2 hlong (by rw[List.size_toArray];omega) (by omega)) ⟨e,e2,?_⟩
 refine ⟨.non,_,I.lset (its':=its ++ its2) hH e (by simp) (r.append r2) ?_,rfl,q⟩;rw[List.length_append];omega
def qEb:R2:=λx y H Q=>∃ l b xs zs,x=.ref l/\y=.ref b/\H l=some (.lst xs)/\H b=some (.lst zs)/\xs.length+zs.length<=sizeLine/\∀ p,H p=none->Q (.ref p) (upd H p (.lst (xs ++ zs)))
theorem op_cat:OpR X (binaryOp .Add) qEb:=by
 intro pins s σ H x y v u Q I rx ry h;obtain ⟨l,b,xs,zs,rfl,rfl,hH,hB,hz,q⟩:=h;cases rx;cases ry;obtain ⟨z,its,n,r,hl,e⟩:=I.lstM hH;obtain ⟨z2,its2,n2,r2,hl2,e2⟩:=I.lstM hB;refine PySem.P.add_list e e2 ?_ (by rw[List.size_toArray,List.size_toArray];omega);have ea:its.toArray ++ its2.toArray=(its ++ its2).toArray:=by simp
 rw[ea];exact ⟨.ref _,_,I.lnew (t':=s.toks) (r.append r2) (by rw[List.length_append];omega),rfl,q _ I.fresh⟩
end
section
variable {prog:Program} {w:World} {A:Around} {E:Value->Shared->Prop} {s:Shared}
end
section
variable {X:Cx}
end
open PySem PySem.Spec PyProof.Rows
section
variable {κ:Type} [DecidableEq κ]
def qcr (kvs:List (κ×V)) (k:κ):Option V:=(kvs.find? λkv=>decide (kv.1=k)).map (·.2)
def putK (kvs:List (κ×V)) (k:κ) (v:V):List (κ×V):=
 if (kvs.any λkv=>decide (kv.1=k))=true then kvs.map (λkv=>if kv.1=k then (kv.1,v) else kv) else kvs ++ [(k,v)]
theorem qb1 {p:κ×V} {r:List (κ×V)} {k:κ} (e:p.1=k):qcr (p :: r) k=some p.2:=by simp[qcr,List.find?_cons,e]
theorem qb2 {p:κ×V} {r:List (κ×V)} {k:κ} (e:¬ p.1=k):qcr (p :: r) k=qcr r k:=by simp[qcr,List.find?_cons,e]
theorem qhl (k:κ):∀ kvs:List (κ×V),(kvs.any λkv=>decide (kv.1=k))=(qcr kvs k).isSome
 | []=>rfl
 | p :: r=>by
  rw[List.any_cons]
  by_cases e:p.1=k
  ·simp only[qb1 e,decide_eq_true e,Bool.true_or,Option.isSome_some]
  ·rw[qb2 e,decide_eq_false e,Bool.false_or];exact qhl k r
theorem qo1 (k j:κ) (y:V):∀ kvs:List (κ×V),qcr (kvs.map λkv=>if kv.1=k then (kv.1,y) else kv) j=(qcr kvs j).map λx=>if j=k then y else x
 | []=>rfl
 | p :: r=>by
  have ih:=qo1 k j y r;rw[List.map_cons]
  by_cases h:p.1=k
  ·rw[if_pos h]
   by_cases e:p.1=j
   ·rw[qb1 (p:=(p.1,y)) e,qb1 e,Option.map_some,if_pos (e.symm.trans h)]
   ·rw[qb2 (p:=(p.1,y)) e,qb2 e,ih]
  ·rw[if_neg h]
   by_cases e:p.1=j
   ·rw[qb1 (p:=p) e,qb1 e,Option.map_some,if_neg (λz=>h (e.trans z))]
   ·rw[qb2 (p:=p) e,qb2 e,ih]
theorem qmc (k j:κ) (y:V):∀ kvs:List (κ×V),qcr kvs k=none->qcr (kvs ++ [(k,y)]) j=if j=k then some y else qcr kvs j
 | [],_=>by
  by_cases e:k=j
  ·rw[if_pos e.symm];exact qb1 (p:=(k,y)) e
  ·rw[if_neg (λz=>e z.symm)];exact qb2 (p:=(k,y)) e
 | p :: r,hn=>by
  rw[List.cons_append];have hk:¬ p.1=k:=λz=>by rw[qb1 z] at hn;cases hn
  rw[qb2 hk] at hn;have ih:=qmc k j y r hn
  by_cases e:p.1=j
  ·rw[qb1 e,qb1 e,if_neg (λz=>hk (e.trans z))]
  ·rw[qb2 e,qb2 e,ih]
theorem qfc (kvs:List (κ×V)) (k j:κ) (y:V):qcr (putK kvs k y) j=if j=k then some y else qcr kvs j:=by
 unfold putK
 by_cases a:(kvs.any λkv=>decide (kv.1=k))=true
 ·rw[if_pos a,qo1]
  rw[qhl] at a
  by_cases e:j=k
  ·obtain ⟨x,hx⟩:=Option.isSome_iff_exists.mp a
   rw[if_pos e,e,hx,Option.map_some,if_pos rfl]
  ·rw[if_neg e]
   cases qcr kvs j with
   | none=>rfl
   | some x=>rw[Option.map_some,if_neg e]
 ·rw[if_neg a]
  refine qmc k j y kvs ?_;rw[qhl] at a
  cases q:qcr kvs k with
  | none=>rfl
  | some x=>rw[q] at a;exact (a rfl).elim
theorem qdq (kvs:List (κ×V)) (k:κ) (v:V):(putK kvs k v).length<=kvs.length+1:=by
 unfold putK
 split
 ·rw[List.length_map];omega
 ·rw[List.length_append,List.length_cons,List.length_nil];omega
theorem RelO.isSome_eq {o:Option V} {u:Option Value} (r:RelO o u):o.isSome=u.isSome:=by
 cases o with
 | none=>cases u with
  | none=>rfl
  | some _=>exact (show False from r).elim
 | some _=>cases u with
  | none=>exact (show False from r).elim
  | some _=>rfl
theorem RelO.getD {o:Option V} {u:Option Value} {d:V} {d':Value} (r:RelO o u) (rd:RelV d d'):RelV (o.getD d) (u.getD d'):=by
 cases o with
 | none=>cases u with
  | none=>exact rd
  | some _=>exact (show False from r).elim
 | some _=>cases u with
  | none=>exact (show False from r).elim
  | some _=>exact r
theorem KV.val {kvs:List (κ×V)} {vs:List (κ×Value)} (r:KV kvs vs) (k:κ):RelO (qcr kvs k) (valueAt vs k):=by
 unfold KV at r
 induction r with
 | nil=>exact True.intro
 | @cons p q ps qs h t ih =>
  obtain ⟨h1,h2⟩:=h
  by_cases e:p.1=k
  ·have e':q.1=k:=h1.symm.trans e
   have b:valueAt (q :: qs) k=some q.2:=by simp[valueAt,List.find?_cons,e']
   rw[qb1 e,b];exact h2
  ·have e':¬ q.1=k:=λz=>e (h1.trans z)
   have b:valueAt (q :: qs) k=valueAt qs k:=by simp[valueAt,List.find?_cons,e']
   rw[qb2 e,b];exact ih
theorem KV.any {kvs:List (κ×V)} {vs:List (κ×Value)} (r:KV kvs vs) (k:κ):(kvs.any λkv=>decide (kv.1=k))=vs.any λkv=>decide (kv.1=k):=by
 unfold KV at r
 induction r with
 | nil=>rfl
 | cons h t ih=>rw[List.any_cons,List.any_cons,ih,h.1]
theorem KV.repl {kvs:List (κ×V)} {vs:List (κ×Value)} (r:KV kvs vs) (k:κ) {y:V} {u:Value} (ry:RelV y u) :
  KV (kvs.map λkv=>if kv.1=k then (kv.1,y) else kv) (vs.map λkv=>if kv.1=k then (kv.1,u) else kv):=by
 unfold KV at r ⊢
 induction r with
 | nil=>exact .nil
 | @cons p q ps qs h t ih =>
  rw[List.map_cons,List.map_cons];refine .cons ?_ ih;obtain ⟨h1,h2⟩:=h
  by_cases e:p.1=k
  ·rw[if_pos e,if_pos (h1.symm.trans e)];exact ⟨h1,ry⟩
  ·rw[if_neg e,if_neg (λz=>e (h1.trans z))];exact ⟨h1,h2⟩
theorem KV.put {kvs:List (κ×V)} {vs:List (κ×Value)} (r:KV kvs vs) (k:κ) {y:V} {u:Value} (ry:RelV y u):KV (putK kvs k y) (stored vs k u):=by
 unfold putK stored;rw[r.any k]
 by_cases e:(vs.any λkv=>decide (kv.1=k))=true
 ·rw[if_pos e,if_pos e];exact r.repl k ry
 ·rw[if_neg e,if_neg e];exact Paired.snoc r ⟨rfl,ry⟩
theorem KV.length {kvs:List (κ×V)} {vs:List (κ×Value)} (r:KV kvs vs):kvs.length=vs.length:=Paired.length r
end
theorem qn5 {P:Program} {w:World} {k:Key} {u:Value} (r:RelV (kV k) u):(qbo P w).is k u=true:=by
 cases k with
 | inl i=>obtain ⟨t,e⟩:=(show ∃ t,u=Value.int i t from r);subst e;exact qn1 P w i t
 | inr x=>obtain ⟨t,e⟩:=(show ∃ t,u=Value.str x t from r);subst e;exact qn2 P w x t
theorem qmd {P:Program} {w:World}:∀ {ks:List Key} {us:List Value},Vals (ks.map kV) us->ItemsAre (qbo P w) ks us
 | [],_,r=>by rw[List.map_nil] at r;cases r;exact .nil
 | k :: ks,_,r=>by
  rw[List.map_cons] at r
  cases r with
  | cons h t=>exact .cons (qn5 h) (qmd t)
abbrev KT (H:Hp):List (List Key×V)->List (List Key×Addr×Value)->Prop:=Paired λp q=>p.1=q.1/\H q.2.1=some (.tup (p.1.map kV))/\RelV p.2 q.2.2
theorem KT.val {H:Hp} {kvs:List (List Key×V)} {xs:List (List Key×Addr×Value)} (r:KT H kvs xs) (k:List Key):RelO (qcr kvs k) ((atKey xs k).map (·.2)):=by
 induction r with
 | nil=>exact True.intro
 | @cons p q ps qs h t ih =>
  obtain ⟨h1,_,h2⟩:=h
  by_cases e:p.1=k
  ·have e':q.1=k:=h1.symm.trans e
   have b:atKey (q :: qs) k=some q.2:=by simp[atKey,List.find?_cons,e']
   rw[qb1 e,b];exact h2
  ·have e':¬ q.1=k:=λz=>e (h1.trans z)
   have b:atKey (q :: qs) k=atKey qs k:=by simp[atKey,List.find?_cons,e']
   rw[qb2 e,b];exact ih
theorem KT.repl {H:Hp} {kvs:List (List Key×V)} {xs:List (List Key×Addr×Value)} (r:KT H kvs xs) (k:List Key) {y:V} {u:Value} (ry:RelV y u) :
  KT H (kvs.map λkv=>if kv.1=k then (kv.1,y) else kv) (xs.map (putAt k u)):=by
 induction r with
 | nil=>exact .nil
 | @cons p q ps qs h t ih =>
  rw[List.map_cons,List.map_cons];refine .cons ?_ ih;obtain ⟨h1,h2,h3⟩:=h;unfold putAt
  by_cases e:p.1=k
  ·rw[if_pos e,if_pos (h1.symm.trans e)];exact ⟨h1,h2,ry⟩
  ·rw[if_neg e,if_neg (λz=>e (h1.trans z))];exact ⟨h1,h2,h3⟩
theorem KT.put {H:Hp} {kvs:List (List Key×V)} {xs:List (List Key×Addr×Value)} (r:KT H kvs xs) (k:List Key) {b:Addr} {y:V} {u:Value} (hb:H b=some (.tup (k.map kV))) (ry:RelV y u) :
  KT H (putK kvs k y) (storedH xs k b u):=by
 have e:(kvs.any λkv=>decide (kv.1=k))=(atKey xs k).isSome:=by
  rw[qhl,(r.val k).isSome_eq,Option.isSome_map]
 unfold putK storedH;rw[e]
 by_cases q:(atKey xs k).isSome=true
 ·rw[if_pos q,if_pos q];exact r.repl k ry
 ·rw[if_neg q,if_neg q];exact Paired.snoc r ⟨rfl,hb,ry⟩
theorem KT.keeps {H H':Hp} {kvs:List (List Key×V)} {xs:List (List Key×Addr×Value)} (r:KT H kvs xs) (ht:∀ b ys,H b=some (.tup ys)->H' b=some (.tup ys)):KT H' kvs xs:=
 Paired.mapP r λ_ _ z=>⟨z.1,ht _ _ z.2.1,z.2.2⟩
section
variable {P:Program} {w:World} {H:Hp} {h:Heap} {a:Addr}
theorem qzy {u:HO} (ok:HOk P w H h) (e:Rd H a u):ObjOk P w H h a u:=e.ok ok
theorem qn6 {kvs:List (Key×V)} (ok:HOk P w H h) (e:Rd H a (.dK kvs)):kvs.length<=sizeLine/\(a == sysModules)=false/\∃ vs,KV kvs vs/\h.DictOf (qbo P w) a vs:=
 show ObjOk P w H h a (.dK kvs) from qzy ok e
theorem qCi {kvs:List (Key×V)} (ok:HOk P w H h) (e:H a=some (.dK kvs)):kvs.length<=sizeLine/\(a == sysModules)=false/\∃ vs,KV kvs vs/\h.DictOf (qbo P w) a vs:=qn6 ok (.inl e)
theorem qj5 {ks:List Key} (ok:HOk P w H h) (e:H a=some (.tup (ks.map kV))):(tupleKind (qbo P w)).is h ks a:=by
 obtain ⟨_,its,r,o,h1,h2,n,h3⟩:=(show ObjOk P w H h a (.tup (ks.map kV)) from ok a _ e);exact ⟨o,its.toArray,n,h1,h2,h3,by simpa using qmd r⟩
theorem qn7 {kvs:List (List Key×V)} (ok:HOk P w H h) (e:Rd H a (.dT kvs)):kvs.length<=sizeLine/\(a == sysModules)=false /\
  ∃ xs,KT H kvs xs/\h.DictOfH (tupleKind (qbo P w)) a xs:=by
 obtain ⟨z,y,xs,r,o,es,ep,h1,h2,h3,h4,h5⟩:=(show ObjOk P w H h a (.dT kvs) from qzy ok e);refine ⟨z,y,xs,r,o,es,ep,h1,h2,h3,h4,λx hx=>?_,h5⟩;have all:∀ {l:List (List Key×V)} {m:List (List Key×Addr×Value)},KT H l m->∀ x∈m,(tupleKind (qbo P w)).is h x.1 x.2.1:=by
  intro l m q
  induction q with
  | nil=>intro x hx;exact nomatch hx
  | @cons p q ps qs hq t ih =>
   intro x hx
   rcases List.mem_cons.mp hx with e|hx
   ·subst e
    exact qj5 ok (by rw[<- hq.1];exact hq.2.1)
   ·exact ih x hx
 exact all r x hx
theorem qzz {kvs:List (List Key×V)} (ok:HOk P w H h) (e:H a=some (.dT kvs)):kvs.length<=sizeLine/\(a == sysModules)=false /\
  ∃ xs,KT H kvs xs/\h.DictOfH (tupleKind (qbo P w)) a xs:=qn7 ok (.inl e)
end
def DGet (H:Hp) (a:Addr) (y:V) (r:Option V):Prop:=
 (∃ kvs k,Rd H a (.dK kvs)/\y=kV k/\r=qcr kvs k)\/∃ kvs k b,Rd H a (.dT kvs)/\y=.ref b/\H b=some (.tup (k.map kV))/\r=qcr kvs k
def DPut (H:Hp) (a:Addr) (y v:V) (H':Hp):Prop:=
 (∃ kvs k,H a=some (.dK kvs)/\y=kV k/\kvs.length<sizeLine/\H'=upd H a (.dK (putK kvs k v))) \/
 ∃ kvs k b,H a=some (.dT kvs)/\y=.ref b/\H b=some (.tup (k.map kV))/\kvs.length<sizeLine/\H'=upd H a (.dT (putK kvs k v))
theorem DGet.k {H:Hp} {a:Addr} {kvs:List (Key×V)} {k:Key} (e:H a=some (.dK kvs)):DGet H a (kV k) (qcr kvs k):=.inl ⟨kvs,k,.inl e,rfl,rfl⟩
theorem DGet.t {H:Hp} {a b:Addr} {kvs:List (List Key×V)} {k:List Key} (e:H a=some (.dT kvs)) (eb:H b=some (.tup (k.map kV))):DGet H a (.ref b) (qcr kvs k):=.inr ⟨kvs,k,b,.inl e,rfl,eb,rfl⟩
theorem DPut.k {H:Hp} {a:Addr} {kvs:List (Key×V)} {k:Key} {v:V} (e:H a=some (.dK kvs)) (hl:kvs.length<sizeLine):DPut H a (kV k) v (upd H a (.dK (putK kvs k v))):=.inl ⟨kvs,k,e,rfl,hl,rfl⟩
theorem DPut.t {H:Hp} {a b:Addr} {kvs:List (List Key×V)} {k:List Key} {v:V} (e:H a=some (.dT kvs)) (eb:H b=some (.tup (k.map kV))) (hl:kvs.length<sizeLine) :
  DPut H a (.ref b) v (upd H a (.dT (putK kvs k v))):=.inr ⟨kvs,k,b,e,rfl,eb,hl,rfl⟩
section
variable {X:Cx} {pins:List (Addr×Obj)} {σ:St} {H:Hp} {s:Shared} {a:Addr} {y v:V} {u r:Value} {o:Option V} {A:Around} {E:Value->Shared->Prop}
theorem Inv.big (I:Inv X pins σ H s):sysModules<s.heap.objs.size:=by
 have h:mainGlobals<s.heap.objs.size:=(I.mod.glob.keeps I.bk).lt;exact Nat.lt_trans (by decide) h
theorem qsc {Q:Value->Shared->Prop} (hu:A.units+1<cLine) (I:Inv X pins σ H s) (g:DGet H a y (some v)) (ry:RelV y u) (h:∀ w' s',Inv X pins σ H s'->RelV v w'->Q w' s') :
  wpAny (model X.prog X.w) A (getItem (.ref a) u) Q E s:=by
 rcases g with ⟨kvs,k,e,ey,l⟩|⟨kvs,k,b,e,ey,eb,l⟩
 ·subst ey
  obtain ⟨z,hd,vs,rel,dd⟩:=qn6 I.hok e;obtain ⟨w',hw,rw'⟩:=RelO.some_of (v:=v) (o:=valueAt vs k) (by rw[l];exact rel.val k);exact wpAny_getItem_of (qn5 ry) dd.mapOf hw (h w' _ (I.tok _) rw')
 ·subst ey
  cases (show u=Value.ref b from ry)
  obtain ⟨z,hd,xs,rel,dd⟩:=qn7 I.hok e;obtain ⟨w',hw,rw'⟩:=RelO.some_of (v:=v) (o:=(atKey xs k).map (·.2)) (by rw[l];exact rel.val k);obtain ⟨p,hp,hp2⟩:=Option.map_eq_some_iff.mp hw;refine wpAny_getItem_heap (tupleKind_room_in1 hu) (qj5 I.hok eb) dd hp ?_;rw[hp2];exact h w' _ (I.tok _) rw'
theorem qEc {Q:Value->Shared->Prop} (hu:A.units+1<cLine) (I:Inv X pins σ H s) (g:DGet H a y o) (ry:RelV y u) (h:∀ s',Inv X pins σ H s'->Q (.bool o.isSome) s') :
  wpAny (model X.prog X.w) A (compareOp .In u (.ref a)) Q E s:=by
 rcases g with ⟨kvs,k,e,ey,l⟩|⟨kvs,k,b,e,ey,eb,l⟩
 ·subst ey
  obtain ⟨z,hd,vs,rel,dd⟩:=qn6 I.hok e;refine wpAny_in_of (qn5 ry) hd dd.mapOf ?_;rw[<- (rel.val k).isSome_eq,<- l];exact h _ (I.tok _)
 ·subst ey
  cases (show u=Value.ref b from ry)
  obtain ⟨z,hd,xs,rel,dd⟩:=qn7 I.hok e;refine wpAny_in_heap (tupleKind_room_in1 hu) (qj5 I.hok eb) hd dd ?_;have q:=(rel.val k).isSome_eq;rw[Option.isSome_map] at q;rw[<- q,<- l];exact h _ (I.tok _)
theorem qxy {Q:Value->Shared->Prop} (hu:A.units+1<cLine) (I:Inv X pins σ H s) (g:DGet H a y o) (ry:RelV y u) (h:∀ s',Inv X pins σ H s'->Q (.bool (!o.isSome)) s') :
  wpAny (model X.prog X.w) A (compareOp .NotIn u (.ref a)) Q E s:=by
 rcases g with ⟨kvs,k,e,ey,l⟩|⟨kvs,k,b,e,ey,eb,l⟩
 ·subst ey
  obtain ⟨z,hd,vs,rel,dd⟩:=qn6 I.hok e;refine wpAny_notIn_of (qn5 ry) hd dd.mapOf ?_;rw[<- (rel.val k).isSome_eq,<- l];exact h _ (I.tok _)
 ·subst ey
  cases (show u=Value.ref b from ry)
  obtain ⟨z,hd,xs,rel,dd⟩:=qn7 I.hok e;refine wpAny_notIn_heap (tupleKind_room_in1 hu) (qj5 I.hok eb) hd dd ?_;have q:=(rel.val k).isSome_eq;rw[Option.isSome_map] at q;rw[<- q,<- l];exact h _ (I.tok _)
theorem qsd {h':Heap} {t':Nat} {ob:HO} (I:Inv X pins σ H s) (mu:Mut (H a)) (hs:Heap.SameBut a s.heap h') (he:∃ q,h'.get? a=some q) (new:ObjOk X.prog X.w (upd H a ob) h' a ob) :
  Inv X pins σ (upd H a ob) { s with heap:=h',toks:=t' }:=
 I.write (x:=a) (e:=a) mu (.inl rfl) (λb q hb z=>(hs.2 b hb).trans z) he new
theorem qwp {P:Program} {w:World} {H':Hp} {h':Heap} {kvs:List (Key×V)} {vs:List (Key×Value)} (z:kvs.length<=sizeLine) (hd:(a == sysModules)=false) (rel:KV kvs vs) (dd:h'.DictOf (qbo P w) a vs) :
  ObjOk P w H' h' a (.dK kvs):=⟨z,hd,vs,rel,dd⟩
theorem qse {H':Hp} {Q:Unit->Shared->Prop} (hu:A.units+1<cLine) (I:Inv X pins σ H s) (g:DPut H a y v H') (ry:RelV y u) (rv:RelV v r) (h:∀ s',Inv X pins σ H' s'->Q () s') :
  wpAny (model X.prog X.w) A (setItem (.ref a) u r) Q E s:=by
 rcases g with ⟨kvs,k,e,ey,l,eH⟩|⟨kvs,k,b,e,ey,eb,l,eH⟩
 ·subst ey eH
  obtain ⟨z,hd,vs,rel,dd⟩:=qCi I.hok e;have hz:vs.length<=sizeLine:=by rw[<- rel.length];exact z
  have hl:(putK kvs k v).length<=sizeLine:=by have:=qdq kvs k v;omega
  refine wpAny_setItem_pairs (hsz:=hz) (qn5 ry) dd λh' dd' hs=>h _ ?_
  have he:∃ q,h'.get? a=some q:=let ⟨q,_,_,hq,_⟩:=dd';⟨q,hq⟩
  exact qsd I (by rw[e];exact True.intro) hs he (qwp hl hd (rel.put k rv) dd')
 ·subst ey eH
  cases (show u=Value.ref b from ry)
  obtain ⟨z,hd,xs,rel,dd⟩:=qzz I.hok e;have hz:xs.length<=sizeLine:=by rw[<- Paired.length rel];exact z
  have hl:(putK kvs k v).length<=sizeLine:=by have:=qdq kvs k v;omega
  refine wpAny_setItem_heap (hsz:=hz) (tupleKind_room_in1 hu) (qj5 I.hok eb) dd λh' dd' hs=>h _ ?_
  obtain ⟨q,es,ep,hq,h2,h3,h4,_,h5⟩:=dd';refine qsd I (by rw[e];exact True.intro) hs ⟨q,hq⟩ ⟨hl,hd,_,(rel.put k eb rv).keeps λc ys ec=>?_,q,es,ep,hq,h2,h3,h4,h5⟩;rw[qat (qbe ec e (λz=>nomatch z))];exact ec
end
section
variable {X:Cx} {pins:List (Addr×Obj)} {σ:St} {H:Hp} {s:Shared} {a:Addr} {kvs:List (Key×V)} {k:Key} {u:Value} {A:Around} {E:Value->Shared->Prop}
end
def qDo (i:Expr):Prop:=∀ ov iv,subscripted i false ov iv=operate [ov,iv] (getItem ov iv)
theorem qxz {prog:Program} {w:World} {A:Around} {E:Value->Shared->Prop} {s:Shared} {env:Env} {value slice:Expr} {pos:Pos} {T id:String} {Q:Value->Shared->Prop}
  (hl:typeLookup (.type T) "__getitem__" = pure (some (.builtin id))) (hs:qDo slice)
  (h:wpAny (model prog w) A (eval value env) (λo s₁=>wpAny (model prog w) A (eval slice env) (λi s₂=>s₂.TypeIs o T/\wpAny (model prog w) A (getItem o i) Q E s₂) E s₁) E s) :
  wpAny (model prog w) A (eval (.Subscript value slice pos) env) Q E s:=by
 refine Subscript_ (wpAny_mono h (λo s₁ h₁=>wpAny_mono h₁ (λi s₂ h₂=>?_) λ_ _ x=>x) λ_ _ x=>x);obtain ⟨hT,h₂⟩:=h₂;unfold subscriptTail;refine wpAny_bind ?_;rw[getitemInPython_of_ne hT.not_modules];refine wpAny_bind (wpAny_specialOf hT hl ?_);have fin:wpAny (model prog w) A (subscripted slice false o i) (λr s₃=>wpAny (model prog w) A (letTemporaryGo value o r >>= λ_=>pure r) Q E s₃) E s₂:=by
  rw[hs o i];exact wpAny_operating (wpAny_mono h₂ (λr s₃ h₃=>wpAny_bind (wpAny_letTemporaryGo (wpAny_pure h₃))) λ_ _ x=>x)
 first
  | exact wpAny_pure (wpAny_bind fin)
  | exact wpAny_bind (wpAny_pure (wpAny_bind fin))
  | exact wpAny_bind fin
theorem qn8 {X:Cx} {pins:List (Addr×Obj)} {σ:St} {H:Hp} {s:Shared} {a:Addr} {y:V} {o:Option V} (I:Inv X pins σ H s) (g:DGet H a y o):s.TypeIs (.ref a) "dict" :=by
 rcases g with ⟨kvs,k,e,_,_⟩|⟨kvs,k,b,e,_,_,_⟩
 ·obtain ⟨_,_,vs,_,dd⟩:=qn6 I.hok e
  exact dd.typeIs
 ·obtain ⟨_,_,xs,_,dd⟩:=qn7 I.hok e
  exact dd.typeIs
def qCj (td ty:TE):TE:=λσ H Q=>td σ H λx H1=>ty σ H1 λy H2=>∃ a v,x=.ref a/\DGet H2 a y (some v)/\Q v H2
def qEd (ty td:TE):TE:=λσ H Q=>ty σ H λy H1=>td σ H1 λx H2=>∃ a o,x=.ref a/\DGet H2 a y o/\Q (.bl o.isSome) H2
def qx0 (ty td:TE):TE:=λσ H Q=>ty σ H λy H1=>td σ H1 λx H2=>∃ a o,x=.ref a/\DGet H2 a y o/\Q (.bl (!o.isSome)) H2
def qCk (td ty tv:TE):TS:=λD σ H=>tv σ H λv H1=>td σ H1 λx H2=>ty σ H2 λy H3=>∃ a H4,x=.ref a/\DPut H3 a y v H4/\D.nx σ H4
section
variable {X:Cx} {o i e value:Expr} {pos pos' tpos:Pos} {td ty tv:TE}
theorem qn9 (hu:X.A.units+1<cLine) (ho:PE X o td) (hi:PE X i ty) (hs:qDo i):PE X (.Subscript o i pos) (qCj td ty):=by
 intro pins s σ H Q I h;refine qxz PySem.F.slot_dict_getitem.lookup hs (thn (ho pins s σ H _ I h) λu s1 ⟨x,H1,I1,rx,q1⟩=>thn (hi pins s1 σ H1 _ I1 q1) λiv s2 hq__=>?_);obtain ⟨y,H2,I2,ry,a,v,ex,g,q2⟩:=hq__;subst ex;obtain rfl:u=Value.ref a:=rx;exact ⟨qn8 I2 g,qsc hu I2 g ry λw' s3 I3 rw'=>⟨v,H2,I3,rw',q2⟩⟩
theorem qz0 (hu:X.A.units+1<cLine) (hi:PE X i ty) (ho:PE X o td):PC X .In i o (qEd ty td):=by
 intro pins s σ H Q I h;refine thn (hi pins s σ H _ I h) λiv s1 ⟨y,H1,I1,ry,q1⟩=>thn (ho pins s1 σ H1 _ I1 q1) λu s2 hq__=>?_
 obtain ⟨x,H2,I2,rx,a,ov,ex,g,q2⟩:=hq__;subst ex;obtain rfl:u=Value.ref a:=rx;exact qEc hu I2 g ry λs3 I3=>⟨.bl ov.isSome,H2,I3,rfl,q2⟩
theorem qsf (hu:X.A.units+1<cLine) (hi:PE X i ty) (ho:PE X o td):PC X .NotIn i o (qx0 ty td):=by
 intro pins s σ H Q I h;refine thn (hi pins s σ H _ I h) λiv s1 ⟨y,H1,I1,ry,q1⟩=>thn (ho pins s1 σ H1 _ I1 q1) λu s2 hq__=>?_
 obtain ⟨x,H2,I2,rx,a,ov,ex,g,q2⟩:=hq__;subst ex;obtain rfl:u=Value.ref a:=rx;exact qxy hu I2 g ry λs3 I3=>⟨.bl (!ov.isSome),H2,I3,rfl,q2⟩
theorem qk4 (hu:X.A.units+1<cLine) (ho:PE X o td) (hi:PE X i ty) (hv:PE X value tv) (hs:swapsWith value (some (.Subscript o i pos')) pos.line X.env=pure false) :
  PS X (.Assign [.Subscript o i pos'] value pos) (qCk td ty tv):=by
 intro pins s σ H D I h;refine wpAny_Assign_Subscript (thn (hv pins s σ H _ I h) λr s1 ⟨v,H1,I1,rv,q1⟩=>thn (ho pins s1 σ H1 _ I1 q1) λu s2 ⟨x,H2,I2,rx,q2⟩=>thn (hi pins s2 σ H2 _ I2 q2) λiv s3 hq__=>?_) hs;obtain ⟨y,H3,I3,ry,a,H4,ex,g,q3⟩:=hq__;subst ex;obtain rfl:u=Value.ref a:=rx;exact qse hu I3 g ry rv λs4 I4=>⟨σ,H4,I4,q3⟩
end
theorem qu7 {P:Program} {w:World} {H:Hp} (h:Heap) (hb:sysModules<h.objs.size):ObjOk P w H (h.push { cls:=.type "dict",data:=.dict #[] }) h.objs.size (.dK []):=
 ⟨Nat.zero_le _,beq_eq_false_iff_ne.mpr (Ne.symm (Nat.ne_of_lt hb)),[],.nil,Heap.DictOf.new h⟩
theorem qu8 {P:Program} {w:World} {H:Hp} (h:Heap) (hb:sysModules<h.objs.size):ObjOk P w H (h.push { cls:=.type "dict",data:=.dict #[] }) h.objs.size (.dT []):=
 ⟨Nat.zero_le _,beq_eq_false_iff_ne.mpr (Ne.symm (Nat.ne_of_lt hb)),[],.nil,_,#[],0,Heap.get?_push_size _ rfl,⟨rfl,rfl,rfl⟩,rfl,rfl,List.nodup_nil⟩
def qz1:TE:=λ_ H Q=>∀ p,H p=none->Q (.ref p) (upd H p (.dK []))
def qz2:TE:=λ_ H Q=>∀ p,H p=none->Q (.ref p) (upd H p (.dT []))
section
variable {X:Cx} {pos:Pos}
theorem qu9:PE X (.Dict [] [] pos) qz1:=λpins s σ H Q I h =>
 wpAny_Dict_empty ⟨.ref s.heap.objs.size,_,I.laid (a:=s.heap.objs.size) (o:=.dK []) (t':=s.toks) (λ_ _ q=>Heap.get?_push_of_some _ q) (Nat.le_refl _) (qu7 s.heap I.big),rfl,h _ (I.hok.fresh (Nat.le_refl _))⟩
theorem qva:PE X (.Dict [] [] pos) qz2:=λpins s σ H Q I h =>
 wpAny_Dict_empty ⟨.ref s.heap.objs.size,_,I.laid (a:=s.heap.objs.size) (o:=.dT []) (t':=s.toks) (λ_ _ q=>Heap.get?_push_of_some _ q) (Nat.le_refl _) (qu8 s.heap I.big),rfl,h _ (I.hok.fresh (Nat.le_refl _))⟩
end
def qh6 (kvs more:List (Key×V)):List (Key×V):=more.foldl (λacc kv=>putK acc kv.1 kv.2) kvs
theorem KV.merge:∀ {more:List (Key×V)} {rs:List (Key×Value)} {kvs:List (Key×V)} {vs:List (Key×Value)},KV more rs->KV kvs vs->KV (qh6 kvs more) (merged vs rs):=by
 intro more rs kvs vs r;unfold KV at r
 induction r generalizing kvs vs with
 | nil=>intro q;exact q
 | @cons p q ps qs h t ih =>
  intro r0;have e:KV (putK kvs p.1 p.2) (stored vs q.1 q.2):=by
   have:=r0.put p.1 h.2;rw[<- h.1];exact this
  exact ih e
theorem qfd:∀ (more kvs:List (Key×V)),(qh6 kvs more).length<=kvs.length+more.length
 | [],kvs=>by show kvs.length<=kvs.length+0;omega
 | p :: r,kvs=>by
  have h1:=qfd r (putK kvs p.1 p.2);have h2:=qdq kvs p.1 p.2
  show (qh6 (putK kvs p.1 p.2) r).length<=_
  rw[List.length_cons];omega
structure M2 (X:Cx) (o:Expr) (m:Str) (apos:Pos) (e f:Expr) (cpos:Pos):Prop where
 base:attributeBase o m X.env (eval o X.env)=eval o X.env
 few:((backTo cpos (starEach [e,f] X.env)).all (λx=>!x.1) && (backToKw cpos (keywordEach [] X.env)).all (λx=>x.1.isSome)
  && decide (([e,f]:List Expr).length+([]:List Keyword).length+(if ([]:List Keyword).isEmpty then 0 else 1)<30))=true
 line:(apos.endLine == cpos.line)=true
 trees:backTo cpos (starEach [e,f] X.env)=[(false,eval e X.env),(false,eval f X.env)]
def IsD (H:Hp) (a:Addr):Prop:=(∃ kvs,Rd H a (.dK kvs))\/∃ kvs,Rd H a (.dT kvs)
theorem qz3 {X:Cx} {pins:List (Addr×Obj)} {σ:St} {H:Hp} {s:Shared} {a:Addr} (I:Inv X pins σ H s) (d:IsD H a) :
  s.TypeIs (.ref a) "dict" /\ (∀ b,Value.ref a=.ref b->∃ ob,s.heap.get? b=some ob/\ob.dict=none)/\(a == sysModules)=false:=by
 rcases d with ⟨kvs,e⟩|⟨kvs,e⟩
 ·obtain ⟨_,hd,vs,_,dd⟩:=qn6 I.hok e
  refine ⟨dd.typeIs,λb q=>?_,hd⟩;cases q;obtain ⟨ob,_,_,h1,h2,_⟩:=dd;exact ⟨ob,h1,h2.2.1⟩
 ·obtain ⟨_,hd,xs,_,dd⟩:=qn7 I.hok e
  refine ⟨dd.typeIs,λb q=>?_,hd⟩;cases q;obtain ⟨ob,_,_,h1,h2,_⟩:=dd;exact ⟨ob,h1,h2.2.1⟩
section
variable {X:Cx} {pins:List (Addr×Obj)} {σ:St} {H:Hp} {s:Shared} {a:Addr} {y d:V} {u r:Value} {o:Option V} {A:Around} {E:Value->Shared->Prop}
theorem qz4 {Q:Value->Shared->Prop} (hu:A.units+1<cLine) (I:Inv X pins σ H s) (g:DGet H a y o) (ry:RelV y u) (rd:RelV d r) (h:∀ w' s',Inv X pins σ H s'->RelV (o.getD d) w'->Q w' s') :
  wpAny (model X.prog X.w) A (call (.builtin "dict.get") [.ref a,u,r]) Q E s:=by
 rcases g with ⟨kvs,k,e,ey,l⟩|⟨kvs,k,b,e,ey,eb,l⟩
 ·subst ey
  obtain ⟨z,hd,vs,rel,dd⟩:=qn6 I.hok e;refine call_meetsIn PySem.F.slot_dict_get dd.typeIs PySem.F.entry_dict_get (PySem.F.args_dict_get_3 _ _ _) (meets_dict_get_default (qbo X.prog X.w) a (qn5 ry) hd r) ⟨_,dd.mapOf,h _ _ (I.tok _) ?_⟩;rw[l];exact (rel.val k).getD rd
 ·subst ey
  cases (show u=Value.ref b from ry)
  obtain ⟨z,hd,xs,rel,dd⟩:=qn7 I.hok e;refine call_meetsIn PySem.F.slot_dict_get dd.typeIs PySem.F.entry_dict_get (PySem.F.args_dict_get_3 _ _ _) (meetsH_dict_get_default (tupleKind (qbo X.prog X.w)) a b hd r) ⟨tupleKind_room_in1 hu,k,xs,qj5 I.hok eb,dd,h _ _ (I.tok _) ?_⟩;rw[l];exact (rel.val k).getD rd
end
def qz5 (td ty tx:TE):TE:=λσ H Q=>td σ H λx H1=>∃ a,x=.ref a/\IsD H1 a/\ty σ H1 λy H2=>tx σ H2 λz H3=>∃ o,DGet H3 a y o/\Q (o.getD z) H3
section
variable {X:Cx} {o e f:Expr} {apos cpos:Pos} {td ty tx:TE}
theorem qo2 (hu:X.A.units+1<cLine) (ho:PE X o td) (he:PE X e ty) (hf:PE X f tx) (m:M2 X o "get" apos e f cpos):PE X (.Call (.Attribute o "get" apos) [e,f] [] cpos) (qz5 td ty tx):=by
 intro pins s σ H Q I h;refine wpAny_Call_method m.base m.few m.line PySem.F.plainAttrs_dict PySem.F.slot_dict_get PySem.F.type_dict_get (thn (ho pins s σ H _ I h) λu s1 hq__=>?_);obtain ⟨x,H1,I1,rx,a,ex,d,q1⟩:=hq__;subst ex;obtain rfl:u=Value.ref a:=rx;obtain ⟨t1,t2,_⟩:=qz3 I1 d;refine ⟨t1,t2,?_⟩;rw[m.trees];refine Calls.callWith_builtin rfl (Calls.evalArgs_plain (Calls.spliced_cons (thn (he pins s1 σ H1 _ I1 q1) λiv s2 ⟨y,H2,I2,ry,q2⟩ =>
  Calls.spliced_cons (thn (hf pins s2 σ H2 _ I2 q2) λfv s3 ⟨z,H3,I3,rz,ov,g,q3⟩=>Calls.spliced_nil ?_))))
 exact qz4 hu I3 g ry rz λw' s4 I4 rw'=>⟨_,H3,I4,rw',q3⟩
end
section
variable {X:Cx} {pins:List (Addr×Obj)} {σ:St} {H:Hp} {s:Shared} {a:Addr} {kvs:List (Key×V)} {A:Around} {E:Value->Shared->Prop}
end
section
variable {X:Cx} {pins:List (Addr×Obj)} {σ:St} {H:Hp} {s:Shared} {a:Addr} {y:V} {u:Value} {A:Around} {E:Value->Shared->Prop}
end
end L2
namespace Att
open PySem PySem.W PySem.Calls PyProof.Rows
theorem qh7 {P:Params} {h:Heap}:∀ (ns:List Int) (vs:List Value),WellAll P h vs (ns.map WData.int)->IntsAre vs ns:=by
 intro ns
 induction ns with
 | nil =>
  intro vs w;rw[List.map_nil] at w;cases w;exact .nil
 | cons n ns ih =>
  intro vs w;rw[List.map_cons] at w
  cases w with
  | cons a b =>
   cases a;exact .cons _ _ (ih _ b)
theorem qsg {l:OpenLaw} {n:Nat} (hn:l.most=some n) {P:Params} {h:Heap} {args:List WData} {qgk:List Value}
  (hpre:l.row.toRowW.claim.pre args=true) (hwl:WellAll P h qgk args) :
  ∃ a vs ns,qgk=[Value.ref a]/\args=[WData.list (ns.map WData.int)]/\h.get? a=some { cls:=.type "list",data:=.seq vs.toArray }/\IntsAre vs ns/\ns.length<=n:=by
 have hsh:WShape.hasAll [] args [.list .int]=true:=(pre_splitW hpre).1;have hc:l.pre.holds [] { args:=args }=true:=(pre_splitW hpre).2;obtain ⟨d,r,rfl,h1,h2⟩:=hasAllW_cons hsh;obtain rfl:=hasAllW_nil h2;obtain ⟨xs,rfl,h3⟩:=hasW_list h1;obtain ⟨ns,rfl⟩:=items_int h3;have hlen:ns.length<=n:=by
  unfold OpenLaw.pre at hc;have h4:(WTm.not (.lt (.lit (.int (n:Int))) (.len (.arg 0)))).holds [] { args:=[.list (ns.map .int)] }=true:=by
   have h4:=(holds_andW hc).1;rw[hn] at h4;exact h4
  have h5:=condW_of h4 (w_not (w_lt w_lit (w_len_list (w_arg rfl))));rw[List.length_map] at h5;refine Nat.le_of_not_lt λq=>?_
  have q':(n:Int)<((ns.length:Nat):Int):=by omega
  first
   | (rw[decide_eq_true q'] at h5;exact absurd h5 (by decide))
   | (simp at h5;omega)
 cases hwl with
 | cons w1 w2 =>
  cases w2
  cases w1 with
  | list ho hall=>exact ⟨_,_,ns,rfl,rfl,ho,qh7 ns _ hall,hlen⟩
theorem qsh (l:OpenLaw) (args:List WData):l.row.toRowW.claim.post args (.bool true) args=true:=
 postW_of (r:=l.row.toRowW) (X:=(true == true))
  (show WShape.has [] (.bool true) .bool=true by first|rfl|decide|simp[WShape.has,WShape.arms,WShape.armsAll])
  (show (WTm.eq .res (.lit (.bool true))).value [] { args:=args,res:=some (.bool true),after:=args }=some (.bool (true == true)) from w_eq_bool (w_res rfl) w_lit) rfl
theorem attach_call {l:OpenLaw} {n:Nat} {q:Program} {loose:List Str} {XP:(Str->Option Value)->Heap->Prop} {YP:World->Heap->Prop} {d:DefRec}
  (hn:l.most=some n) (hdf:d.params.defaults=[])
  (call:∀ (w:World) (s₀ s₁:Shared) (mg mb:Str->Option Value) (fa:Addr) (o:Obj) (pm cd doc:Value) (a:Addr) (vs:List Value) (ns:List Int),
   Ground q loose [] XP w s₀ mg mb s₁.heap->YP w s₁.heap ->
   s₁.heap.get? fa=some o->o.data=.func (docDef d.name d.params d.body d.scope pm cd doc)->s₁.heap.CodeRec cd d.name->mg d.name=some (.ref fa) ->
   s₁.heap.get? a=some { cls:=.type "list",data:=.seq vs.toArray }->IntsAre vs ns->ns.length<=n->s₁.gens = #[] ->
   codeAny (model l.prog w) callerA (.call (.ref fa) ⟨[.ref a],[]⟩) (λr s'=>r=.ok (.ret (.bool true))/\OldK s₁.heap s'.heap/\s'.os=s₁.os/\AllBare s'.gens) s₁) :
  WalkO q loose XP YP l.row.toRowW d [] (λf vs=>PySem.call f vs):=by
 intro w s₀ s₁ mg mb G Y fa o pm cd doc dV kV ho hd hcd hD hmg hg args qgk as hpre hlay hrd hwl hlo;obtain rfl:dV=.none:=Dflts.none hD hdf;obtain rfl:kV=.none:=Dflts.noKw hD;obtain ⟨a,vs,ns,rfl,rfl,hobj,hints,hlen⟩:=qsg hn hpre hwl;refine enter_call (codeAny_mono (call w s₀ s₁ mg mb fa o pm cd doc a vs ns G Y ho (fd_plain hd) hcd hmg hobj hints hlen hg) λr s' hq=>?_);obtain ⟨rfl,h2,h3,h4⟩:=hq;exact ⟨.inl ⟨.bool true,.bool true,[],rfl,λ_=>rfl,.bool true,qsh l _,λ_=>⟨List.Pairwise.nil,λ_ hm=>(nomatch hm)⟩⟩,h2,h3,h4⟩
section
variable {prog:Program} {w:World} {A:Around} {E:Value->Shared->Prop} {s:Shared} {K:Frag}
def ledger (h:Heap) (L d:Addr):List (Addr×Obj):=(List.range h.objs.size).filterMap λa=>if a=L\/a=d then none else (h.get? a).map λo=>(a,o)
end
end Att
namespace L2
open PySem PySem.Spec PyProof.Rows
theorem qh8:∀ {vs:List Value} {ns:List Int},IntsAre vs ns->Vals (ns.map V.int) vs
 | _,_,.nil=>.nil
 | _,_,.cons n t h=>.cons ⟨t,rfl⟩ (qh8 h)
def qCl (H:Hp):Prop:=∀ b,H b=none\/∃ o xs,H b=some (.frz o (.lst xs))
theorem qvb {P:Program} {w:World} {K:Frag} {mg mb:Str->Option Value} {CX:CXT} {k:Nat} {fa a:Addr} {fd:FuncData} {x:Str} {sp:Sp} {s₁:Shared} {vs:List Value} {ns:List Int}
  (KX:K.In s₁.heap) (hns:s₁.heap.Ns mainGlobals mg) (hb:s₁.heap.Ns builtinsNs mb) (hbb:∀ x:Str,x ≠ "__name__" -> mb x=bootBuiltins x) (hlim:s₁.heap.NoLimit) (hg:s₁.gens = #[])
  (ha:s₁.heap.get? a=some { cls:=.type "list",data:=.seq vs.toArray }) (hi:IntsAre vs ns) (hl:ns.length<=sizeLine) (hr:Room k callerA)
  (F:∀ base:Heap,K.In base->base.Ns mainGlobals mg->qf6 P w K mg base CX k fa fd [x] sp) (hbind:∀ (s:Shared) (u:Value),BindsTo s fd ⟨[u],[]⟩ [(x,u)])
  (hsp:∀ H:Hp,qCl H->SqL K H a (ns.map V.int)->sp [.ref a] H (λv _=>v=.bl true) λ_ _ _=>False)
  (hCX:∀ H e s',CX [] H s₁ (λ_ _ _=>False) e s'->False) :
  codeAny (model P w) callerA (.call (.ref fa) ⟨[.ref a],[]⟩) (λr s'=>r=.ok (.ret (.bool true))/\OldK s₁.heap s'.heap/\s'.os=s₁.os/\AllBare s'.gens) s₁:=by
 have rv:=qh8 hi;have lenV:=hi.length;have core:∀ H:Hp,qCl H->SqL K H a (ns.map V.int)->HOk P w H s₁.heap->(∀ b,H b≠none->b=a)->(H a≠none->K.lookup a=none) ->
   codeAny (model P w) callerA (.call (.ref fa) ⟨[.ref a],[]⟩) (λr s'=>r=.ok (.ret (.bool true))/\OldK s₁.heap s'.heap/\s'.os=s₁.os/\AllBare s'.gens) s₁:=by
  intro H hO hS hok hA hK;have base_of:∀ {b:Addr} {o:Obj},s₁.heap.get? b=some o->H b=none->(qur s₁.heap H).get? b=some o:=λe n=>qus e n
  have noA:∀ {b:Addr} {o:Obj} {es:Array DictEntry} {ep:Nat},s₁.heap.get? b=some o->o.data=.dict es ep->H b=none:=fun {b o es ep} e d=>by
   cases q:H b with
   | none=>rfl
   | some u =>
    have e':b=a:=hA b (by rw[q];simp);subst e';rw[ha] at e;cases e;have d':Data.seq vs.toArray _=Data.dict es ep:=d
    cases d'
  have nsK:∀ {b:Addr} {m:Str->Option Value},s₁.heap.Ns b m->(qur s₁.heap H).Ns b m:=fun {b m} ⟨o,es,ep,e,d,r⟩=>⟨o,es,ep,base_of e (noA e d),d,r⟩
  have hKb:K.In (qur s₁.heap H):=λb o e=>base_of (KX b o e) (by
   cases q:H b with
   | none=>rfl
   | some u =>
    have e':b=a:=hA b (by rw[q];simp);subst e';rw[hK (by rw[q];simp)] at e;cases e)
  have hM:Mod K mg (qur s₁.heap H):=⟨hKb,nsK hns,⟨mb,nsK hb,hbb⟩,let ⟨mc,h1,h2⟩:=hlim;⟨mc,nsK h1,h2⟩⟩;have e0:Env0 P w K mg (qur s₁.heap H) callerA [] s₁ H:=⟨rfl,hM,λb o e=>qxk e,Nat.le_of_eq (qrp _ _),trivial,λb hb=>absurd (show b∈([]:List Addr) from hb) (by simp),hok,.of_eq hg⟩;refine codeAny_mono ((F _ hKb (nsK hns)).run callerA [] s₁ H ⟨[.ref a],[]⟩ [.ref a] [.ref a] _ _ hr e0 (hbind s₁ (.ref a)) (.cons rfl .nil) (hsp H hO hS)) λr s' h=>?_
  cases r with
  | error e=>exact (hCX H e s' h).elim
  | ok fl =>
   cases fl with
   | next=>exact False.elim h
   | brk=>exact False.elim h
   | cont=>exact False.elim h
   | ret u =>
    obtain ⟨v,H',os,bare,un,hok',r',q⟩:=h;have q':v=.bl true:=q;subst q';obtain rfl:u=Value.bool true:=r';refine ⟨rfl,OldK.of_keep λb o e=>?_,os,bare⟩
    cases q:H b with
    | none=>exact un.keep b o e q (by intro z;exact absurd (show b∈([]:List Addr) from z) (by simp)) (by simp)
    | some u =>
     rcases hO b with z|⟨ob,xs,z⟩
     ·rw[q] at z;cases z
     ·have z2:=un.frzs b ob _ z
      obtain ⟨e1,_⟩:=hok b _ z;obtain ⟨e2,_⟩:=hok' b _ z2;rw[e] at e1;cases e1;exact e2
 cases hk:K.lookup a with
 | some o =>
  have e:=KX a o hk;rw[ha] at e;cases e;refine core (λ_=>none) (λ_=>.inl rfl) (.inr ⟨_,vs.toArray,_,hk,rfl,rfl,rfl,by rw[List.size_toArray,lenV];exact hl,by simpa using rv⟩) (λb u z=>by have z':(none:Option HO)=some u:=z;cases z') (λb z=>absurd rfl z) λz=>absurd rfl z
 | none =>
  refine core (λb=>if b=a then some (.frz { cls:=.type "list",data:=.seq vs.toArray } (.lst (ns.map V.int))) else none) (λb=>?_) (.inl (.inr ⟨{ cls:=.type "list",data:=.seq vs.toArray },if_pos rfl⟩)) (λb u z=>?_) (λb z=>?_) λ_=>hk
  ·by_cases hb:b=a
   ·exact .inr ⟨_,_,if_pos hb⟩
   ·exact .inl (if_neg hb)
  ·by_cases hb:b=a
   ·have z':=(if_pos hb).symm.trans z
    cases z'
    subst hb;exact ⟨ha,by rw[List.length_map];exact hl,vs,_,rv,ha⟩
   ·have z':=(if_neg hb).symm.trans z
    cases z'
  ·by_cases hb:b=a
   ·exact hb
   ·exact absurd (if_neg hb) z
open PySem PySem.Spec PyProof.Rows
abbrev KOf {K:Frag} {h:Heap} (_:K.In h):Frag:=K
theorem qx1 {l:PySem.W.OpenLaw} {n k:Nat} {q:Program} {loose:List Str} {XP:(Str->Option Value)->Heap->Prop} {YP:World->Heap->Prop} {d:DefRec} {K:Params->Frag} {CX:World->CXT} {sp:World->Sp} {x:Str}
  (hn:l.most=some n) (hn2:n<=sizeLine) (hdf:d.params.defaults=[]) (hr:Room k callerA)
  (hY:∀ (w:World) (h:Heap),YP w h->(K w.params).In h)
  (F:∀ (w:World) (mg:Str->Option Value) (fa:Addr) (h:Heap),(K w.params).In h->h.Ns mainGlobals mg->mg d.name=some (.ref fa) ->
   ∃ fd:FuncData,(∀ (s:Shared) (u:Value),BindsTo s fd ⟨[u],[]⟩ [(x,u)]) /\
    ∀ base:Heap,(K w.params).In base->base.Ns mainGlobals mg->qf6 l.prog w (K w.params) mg base (CX w) k fa fd [x] (sp w))
  (hsp:∀ (w:World) (H:Hp) (a:Addr) (ns:List Int),ns.length<=n->qCl H->SqL (K w.params) H a (ns.map V.int)->sp w [.ref a] H (λv _=>v=.bl true) λ_ _ _=>False)
  (hCX:∀ (w:World) (H:Hp) (s:Shared) (e:Value) (s':Shared),CX w [] H s (λ_ _ _=>False) e s'->False) :
  PySem.W.WalkO q loose XP YP l.row.toRowW d [] (λf vs=>PySem.call f vs):=by
 refine Att.attach_call hn hdf λw s₀ s₁ mg mb fa o pm cd doc a vs ns G Y ho hd hcd hmg hobj hints hlen hg=>?_
 have KX:=hY w _ Y;obtain ⟨fd,hb,hF⟩:=F w mg fa _ KX G.T.g hmg;exact qvb KX G.T.g G.T.b G.T.builtins G.T.nolimit hg hobj hints (Nat.le_trans hlen hn2) hr hF hb (λH hO hS=>hsp w H a ns hlen hO hS) λH e s'=>hCX w H s₁ e s'
open PySem PySem.Spec PyProof.Rows
def inClass (s:Stmt) (j:Nat):Stmt:=match s with
 | .ClassDef _ _ _ body _ _ _ _ _ _ _=>body.getD j (.Pass ⟨0,0,0,0⟩)
 | _=>.Pass ⟨0,0,0,0⟩
def qb9 (s:Stmt):Arguments:=match s with
 | .FunctionDef _ a _ _ _ _ _ _ _ _=>a
 | _=>{ posonlyargs:=[],args:=[],vararg:=none,kwonlyargs:=[],kw_defaults:=[],kwarg:=none,defaults:=[] }
def qbj (s:Stmt):List Stmt:=match s with
 | .FunctionDef _ _ b _ _ _ _ _ _ _=>b
 | _=>[]
def qab (s:Stmt):Scope:=match s with
 | .FunctionDef _ _ _ _ _ _ sc _ _ _=>sc
 | _=>{ kind:=.function,names:=[],isGenerator:=false,isCoroutine:=false }
abbrev CX0:CXT:=λ_ _ _ _ _ _=>False
abbrev E0:XK:=λ_ _ _=>False
theorem qsi {X:Cx}:qh4 CX0 X E0:=λ_ _ _ _ _ _ _ h=>h.elim
structure Fun (K:Frag) (x qual:Str) (st:Stmt) (f:Addr) (fd:FuncData):Prop where
 ex:∃ (oc:Value) (od:Option Addr) (kV doc pm:Value) (an:Option Addr) (cdv ct:Value) (osl:Array (Option Value)),
  fd=fnOf x qual (qb9 st) (qbj st) (qab st) .none kV doc pm an cdv ct/\K.lookup f=some ⟨oc,od,.func fd,osl⟩/\codeIn K cdv qual=true
 kp:keepIn K (.ref f)=true
section
variable {P:Program} {w:World} {K:Frag} {mg:Str->Option Value} {base:Heap}
theorem Fun.ok {x qual:Str} {st:Stmt} {f:Addr} {fd:FuncData} {N ps:List Str} {k:Nat} {sp:Sp} (F:Fun K x qual st f fd) (S:qad N ps (qab st)) (len:∀ vs H Q E,sp vs H Q E->vs.length=ps.length)
  (hbody:∀ (cdv:Value) (A:Around) (outer:List Env) (s:Shared) (H:Hp) (vs:List V) (Q:VK) (E:XK),Room k (A.deeper (envOfC qual (qab st) s.heap.objs.size f cdv))->sp vs H Q E ->
   ∃ t,PSs (qrl CX0 P w K mg base N qual (qab st) f cdv A outer s H E).nox (qbj st) t/\t { nx:=λ_ H'=>Q .non H',rt:=Q } (start N vs) H):qf6 P w K mg base CX0 (k+1) f fd ps sp:=by
 obtain ⟨oc,od,kV,doc,pm,an,cdv,ct,osl,rfl,lk,hcd⟩:=F.ex;refine qu4 lk hcd S len λA outer s H vs Q E hr hsp=>?_
 obtain ⟨t,h,q⟩:=hbody cdv A outer s H vs Q E hr hsp;exact ⟨t,h.nox,q⟩
theorem Fun.binds {x qual:Str} {st:Stmt} {f:Addr} {fd:FuncData} {ps:List Str} (F:Fun K x qual st f fd)
  (h:∀ (kV doc pm:Value) (an:Option Addr) (cdv ct:Value) (us:List Value),us.length=ps.length->bindArgs (fnOf x qual (qb9 st) (qbj st) (qab st) .none kV doc pm an cdv ct) ⟨us,[]⟩=pure (ps.zip us)):Binds K fd ps []:=by
 obtain ⟨oc,od,kV,doc,pm,an,cdv,ct,osl,rfl,lk,hcd⟩:=F.ex;exact .all (h kV doc pm an cdv ct)
theorem qme {x qual:Str} {st:Stmt} {f:Addr} {oc:Value} {od an:Option Addr} {osl:Array (Option Value)} {kV doc pm cdv ct:Value} (l:K.lookup f=some ⟨oc,od,.func (fnOf x qual (qb9 st) (qbj st) (qab st) .none kV doc pm an cdv ct),osl⟩)
  (c:codeIn K cdv qual=true) (k:keepIn K (.ref f)=true):Fun K x qual st f (fnOf x qual (qb9 st) (qbj st) (qab st) .none kV doc pm an cdv ct):=⟨⟨oc,od,kV,doc,pm,an,cdv,ct,osl,rfl,l,c⟩,k⟩
end
theorem qh9 {A:Around} {k:Nat} (hr:Room k A):A.units+1<cLine:=Nat.lt_of_le_of_lt (Nat.add_le_add_left (by decide:1<=64) _) hr.units
theorem qah {n:Nat} (h:n<=1000):n<sizeLine:=Nat.lt_of_le_of_lt h (by decide)
section
variable {X:Cx}
theorem pv (i:Nat) {x:Str} {pos:Pos} (hN:X.N[i]?=some x:=by rfl) (hv:Vis X.env.scope x:=by first|exact Or.inl rfl|exact Or.inr (Or.inl rfl)|exact Or.inr (Or.inr rfl)) (hd:(x == ("__debug__" : Str))=false:=by decide)
  (hcd:(x == ("__classdict__" : Str))=false:=by decide):PE X (.Name x pos) (qDm i):=qzq hN hv hd hcd
end
theorem qgl {A B:Prop} (h:B):if false=true then A else B:=by
 rw[if_neg Bool.false_ne_true];exact h
theorem qd2 {A B:Prop} (h:A):if true=true then A else B:=by
 rw[if_pos rfl];exact h
theorem qcj {c A B:Prop} [Decidable c] (h1:c->A) (h2:¬ c->B):if c then A else B:=by
 by_cases h:c
 ·rw[if_pos h]
  exact h1 h
 ·rw[if_neg h]
  exact h2 h
theorem qz6 {c A B:Prop} [Decidable c] (hc:c) (h:B):if (!decide c)=true then A else B:=by
 rw[decide_eq_true hc];exact qgl h
def Same (H H':Hp):Prop:=∀ b o,H b=some o->H' b=some o
theorem Same.refl (H:Hp):Same H H:=λ_ _ h=>h
theorem Same.trans {H H1 H2:Hp} (a:Same H H1) (b:Same H1 H2):Same H H2:=λc o h=>b c o (a c o h)
theorem Same.free {H H':Hp} (e:Same H H') {l:Addr} (h:H' l=Option.none):H l=Option.none:=by
 cases q:H l with
 | none=>rfl
 | some o =>
  rw[e l o q] at h;cases h
section
variable {κ:Type} [DecidableEq κ]
end
end L2
set_option maxHeartbeats 4000000
namespace L2
open PySem PySem.Spec PyProof.Rows
section
variable {X:Cx}
theorem qz7:(10:Nat) ^ 100<2 ^ 400:=by decide +kernel
theorem qo3 {j:Int} (h:j.natAbs<10 ^ 100):j.natAbs.log2<400:=by
 by_cases h0:j.natAbs=0
 ·rw[h0];decide +kernel
 ·exact (Nat.log2_lt h0).mpr (Nat.lt_trans h qz7)
def qCm (_ j:Int):Prop:=0<j/\j<10 ^ 100
theorem qdr:OpR X (binaryOp .FloorDiv) (rI qCm λi j=>.int (i / j)):=opI λi j _ _ _ _ _ hc q=>by
 have h1:(0:Int)<j:=hc.1;have h2:j<10 ^ 100:=hc.2;have h3:j.natAbs<10 ^ 100:=by omega
 exact floordiv_int (by omega) (by rw[Int.fdiv_eq_ediv_of_nonneg i (by omega)];exact q) (.inl (PyProof.noPylong_of_log2 (Nat.lt_trans (qo3 h3) (by decide))))
def CMulB (i j:Int):Prop:=(-(10 ^ 100)<i/\i<10 ^ 100)/\(-(10 ^ 100)<j/\j<10 ^ 100)
theorem qo4 {j:Int} (h:j.natAbs<10 ^ 100):Builtin.Int.intBits j<=400:=by
 unfold Builtin.Int.intBits
 split
 ·exact Nat.zero_le _
 ·have:=qo3 h
  omega
theorem CMulB.ok {i j:Int} (h:CMulB i j):IntMulOk i j:=by
 obtain ⟨⟨h1,h2⟩,h3,h4⟩:=h;have e1:=qo4 (j:=i) (by omega);have e2:=qo4 (j:=j) (by omega);have e3:Builtin.Int.intTooBig (Builtin.Int.intBits i+Builtin.Int.intBits j)=false:=by
  unfold Builtin.Int.intTooBig;rw[decide_eq_false];have:(bitsLine:Int)=134217728:=by decide +kernel
  omega
 unfold IntMulOk;rw[e3]
 simp
theorem qb3:OpR X (binaryOp .Mult) (rI CMulB λi j=>.int (i*j)):=opI λ_ _ _ _ _ _ _ hc q=>mul_int q hc.ok
end
section
variable {X:Cx}
theorem qfe:CallR X (.builtin "isinstance") (λxs H Q=>∃ x T t b,xs=[x,.ty T]/\TyOf X.K H x t/\PySem.W.kitOne X.K t (.type T)=some b/\Q (.bl b) H):=by
 intro pins s σ H xs us Q I r h;obtain ⟨x,T,t,b,rfl,ty,e,q⟩:=h;obtain ⟨u,w',rfl,ru,rw'⟩:=vals2 r
 cases (show w'=Value.type T from rw')
 exact qr4 I ru ty e λtk=>⟨.bl b,H,I.tok tk,rfl,q⟩
end
mutual
inductive Rep (K:Frag) (H:Hp):V->PyData->Prop where
 | non:Rep K H .non .none
 | bl (b:Bool):Rep K H (.bl b) (.bool b)
 | int (i:Int):Rep K H (.int i) (.int i)
 | str (x:Str):Rep K H (.str x) (.str x)
 | lst {a:Addr} {xs:List V} {ds:List PyData}:SqL K H a xs->qx2 K H xs ds->Rep K H (.ref a) (.list ds)
 | tup {a:Addr} {xs:List V} {ds:List PyData}:SqT K H a xs->qx2 K H xs ds->Rep K H (.ref a) (.tuple ds)
inductive qx2 (K:Frag) (H:Hp):List V->List PyData->Prop where
 | nil:qx2 K H [] []
 | cons {v:V} {vs:List V} {d:PyData} {ds:List PyData}:Rep K H v d->qx2 K H vs ds->qx2 K H (v :: vs) (d :: ds)
end
section
variable {X:Cx} {pins:List (Addr×Obj)} {σ:St} {H:Hp} {s:Shared}
mutual
theorem qia (I:Inv X pins σ H s):∀ (d:PyData) (v:V) (u:Value),Rep X.K H v d->RelV v u->∃ as,Reads s.heap u d as
 | .none,v,u,r,q=>by cases r;cases (show u=Value.none from q);exact ⟨_,.none⟩
 | .bool b,v,u,r,q=>by cases r;cases (show u=Value.bool b from q);exact ⟨_,.bool b⟩
 | .int i,v,u,r,q=>by cases r;obtain ⟨t,e⟩:=(show ∃ t,u=Value.int i t from q);cases e;exact ⟨_,.int i t⟩
 | .str x,v,u,r,q=>by cases r;obtain ⟨t,e⟩:=(show ∃ t,u=Value.str x t from q);cases e;exact ⟨_,.str x t⟩
 | .list ds,v,u,r,q=>by
  cases r with
  | @lst a xs _ hq rs =>
   cases (show u=Value.ref a from q)
   obtain ⟨its,rv,⟨o,n,e,c,_,d⟩,hz⟩:=I.list hq;obtain ⟨as,ra⟩:=qf9 I ds xs its rs rv;exact ⟨_,.list e c d (by simpa using ra)⟩
 | .tuple ds,v,u,r,q=>by
  cases r with
  | @tup a xs _ hq rs =>
   cases (show u=Value.ref a from q)
   obtain ⟨its,rv,⟨o,e,c,n,d⟩,hz⟩:=I.tuple hq;obtain ⟨as,ra⟩:=qf9 I ds xs its rs rv;exact ⟨_,.tuple e c d (by simpa using ra)⟩
 | .dict _,v,u,r,q=>by cases r
theorem qf9 (I:Inv X pins σ H s):∀ (ds:List PyData) (vs:List V) (us:List Value),qx2 X.K H vs ds->Vals vs us->∃ as,ReadsAll s.heap us ds as
 | [],vs,us,r,q=>by cases r;cases q;exact ⟨_,.nil⟩
 | d :: ds,vs,us,r,q=>by
  cases r with
  | cons r1 r2 =>
   cases q with
   | cons q1 q2 =>
    obtain ⟨as,a1⟩:=qia I d _ _ r1 q1;obtain ⟨bs,a2⟩:=qf9 I ds _ _ r2 q2;exact ⟨_,.cons a1 a2⟩
end
end
def qEe (K:Frag) (neg:Bool):R2:=λx y H Q=>∃ d e,Rep K H x d/\Rep K H y e/\d.canLay0=true/\e.canLay0=true/\d.depth<=20/\Q (.bl (if neg then !PyData.eqv d e else PyData.eqv d e)) H
section
variable {X:Cx}
theorem qz8 (hu:X.A.units+64<cLine):OpR X (compareOp .NotEq) (qEe X.K true):=by
 intro pins s σ H x y v u Q I rx ry h;obtain ⟨d,e,rd,re,cd,ce,hd,q⟩:=h;obtain ⟨as,ra⟩:=qia I d x v rd rx;obtain ⟨bs,rb⟩:=qia I e y u re ry;have hm:min d.depth e.depth<=d.depth:=Nat.min_le_left _ _;exact SeqAt.rcNeAt_reads ra rb cd ce (by omega) X.prog X.w X.xe _ ⟨.bl _,H,I,rfl,q⟩
end
section
variable {X:Cx} {pins:List (Addr×Obj)} {σ:St} {H:Hp} {s:Shared} {h':Heap}
theorem Inv.turnedLaid {t':Nat} {ch:List Addr} {a:Addr} {o:HO} (I:Inv X pins σ H s) (hf:∀ b∈ch,qqk X pins H b) (k:∀ b u,b ∉ ch->s.heap.get? b=some u->h'.get? b=some u)
  (hp:s.heap.objs.size<=a) (new:ObjOk X.prog X.w (upd H a o) h' a o):Inv X pins σ (upd H a o) { s with heap:=h',toks:=t' }:=by
 have hna:H a=none:=I.hok.fresh hp;have nch:∀ b u,H b=some u->b ∉ ch:=λb u e z=>by rw[(hf b z).1] at e;cases e
 have nea:∀ b u,s.heap.get? b=some u->b≠a:=λb u e z=>absurd (Nat.lt_of_lt_of_le (Heap.lt_size e) (by rw[z];exact hp)) (Nat.lt_irrefl _)
 refine I.step (g':=s.gens) (d':=s.drawn) (ch:=ch) (λb hb=>⟨(hf b hb).2.2.2.1,(hf b hb).2.1,(hf b hb).2.2.2.2.1,(hf b hb).2.2.2.2.2⟩) (λb o _ _ hc e _=>k b o hc e) (λb o _ _ hc e _=>⟨o.slots,k b o hc e⟩)
  (λb o hc e n=>by rw[qat (nea b o e)];exact n) (λb o hc e=>⟨o,k b o hc e⟩) (λb xs e=>by rw[qat (qai e hna)];exact e) (λb o u e=>by rw[qat (qai e hna)];exact e)
  (λb ps e=>⟨#[],by rw[qat (qai e hna),e];simp⟩) (λm hm=>?_) (λb u e=>?_) I.bare
 ·obtain ⟨o,es,ep,ho,r⟩:=hm
  exact ⟨o,es,ep,k _ o (λz=>(hf _ z).2.1 rfl) ho,r⟩
 ·by_cases hb:b=a
  ·subst hb;rw[qa2] at e;cases e;exact new
  ·rw[qat hb] at e
   refine (I.hok b u e).stay (λc v hc q=>k c v ?_ q) (λc q=>by rw[qat (qai q hna)];exact q) λc xs q=>by rw[qat (qai q hna)];exact q
   rcases hc with z|z
   ·rw[z];exact nch b u e
   ·exact nch c _ z
theorem Inv.turnedL {t':Nat} {ch:List Addr} (I:Inv X pins σ H s) (hf:∀ b∈ch,qqk X pins H b) (k:∀ b u,b ∉ ch->s.heap.get? b=some u->h'.get? b=some u):Inv X pins σ H { s with heap:=h',toks:=t' }:=by
 have nch:∀ b u,H b=some u->b ∉ ch:=λb u e z=>by rw[(hf b z).1] at e;cases e
 refine I.step (g':=s.gens) (d':=s.drawn) (ch:=ch) (λb hb=>⟨(hf b hb).2.2.2.1,(hf b hb).2.1,(hf b hb).2.2.2.2.1,(hf b hb).2.2.2.2.2⟩) (λb o _ _ hc e _=>k b o hc e) (λb o _ _ hc e _=>⟨o.slots,k b o hc e⟩)
  (λ_ _ _ _ n=>n) (λb o hc e=>⟨o,k b o hc e⟩) (λ_ _ e=>e) (λ_ _ _ e=>e) (λb ps e=>⟨#[],by rw[e];simp⟩) (λm hm=>?_) (λb u e=>?_) I.bare
 ·obtain ⟨o,es,ep,ho,r⟩:=hm
  exact ⟨o,es,ep,k _ o (λz=>(hf _ z).2.1 rfl) ho,r⟩
 ·refine (I.hok b u e).stay (λc v hc q=>k c v ?_ q) (λ_ q=>q) λ_ _ q=>q
  rcases hc with z|z
  ·rw[z];exact nch b u e
  ·exact nch c _ z
end
def Itz (K:Frag) (a b:Addr):It:=
 ⟨λi H=>∃ xs ys x y,SqL K H a xs/\SqL K H b ys/\xs[i]?=some x/\ys[i]?=some y,
   λi H v H'=>∃ p,v=.ref p/\H p=none/\∀ xs ys x y,SqL K H a xs->SqL K H b ys->xs[i]?=some x->ys[i]?=some y->H'=upd H p (.tup [x,y]),
   λi H=>∃ xs ys,SqL K H a xs/\SqL K H b ys/\(xs.length<=i\/ys.length<=i)⟩
theorem qa6 {h:Heap} {a b:Addr} {o u:Obj} (e:h.get? a=some o) (e':h.get? b=some u) (d:o.cls≠u.cls):a≠b:=λz=>by
 subst z;rw[e] at e';exact d (congrArg Obj.cls (Option.some.inj e'))
theorem qBv:Value.type "tuple" ≠ Value.type "zip" :=by decide
theorem qBw:Value.type "list_iterator" ≠ Value.type "zip" :=by decide
theorem qwq:Value.type "tuple" ≠ Value.type "list_iterator" :=by decide
theorem qBx:Value.type "list" ≠ Value.type "zip" :=by decide
theorem qBy:Value.type "list" ≠ Value.type "tuple" :=by decide
theorem qwr:Value.type "list" ≠ Value.type "list_iterator" :=by decide
theorem qvc {P:Program} {w:World} {K:Frag} {elts:List Expr} {ek:Nat} {epos:Pos} (a b z TI TO i1 i2:Addr) (d1:TI≠TO) (d2:i1≠i2) :
  Turn P w K (.Tuple elts ek epos) (Itz K a b) [z,TI,TO,i1,i2] z (λi h=>IsZip h z TI TO .none/\IsPair h TI (.ref i1) (.ref i2)/\(∃ x y,IsPair h TO x y)/\h.IsListIter i1 a i/\h.IsListIter i2 b i) where
 mem:=by simp
 obj:=λi h st c hc=>by
  obtain ⟨hz,hTI,⟨x,y,hTO⟩,⟨o1,e1,c1,f1⟩,⟨o2,e2,c2,f2⟩⟩:=st;simp only[List.mem_cons,List.not_mem_nil,or_false] at hc
  rcases hc with rfl|rfl|rfl|rfl|rfl
  ·exact ⟨_,hz,λv q=>by have q':Data.fields _=Data.cell v:=q;cases q'⟩
  ·exact ⟨_,hTI,λv q=>by have q':Data.seq _ _=Data.cell v:=q;cases q'⟩
  ·exact ⟨_,hTO,λv q=>by have q':Data.seq _ _=Data.cell v:=q;cases q'⟩
  ·exact ⟨_,e1,λv q=>by rw[f1] at q;cases q⟩
  ·exact ⟨_,e2,λv q=>by rw[f2] at q;cases q⟩
 keep:=λi h h' st k=>by
  obtain ⟨hz,hTI,⟨x,y,hTO⟩,h1,h2⟩:=st;exact ⟨k z (by simp) _ hz,k TI (by simp) _ hTI,⟨x,y,k TO (by simp) _ hTO⟩,h1.at λo e=>k i1 (by simp) o e,h2.at λo e=>k i2 (by simp) o e⟩
 item:=by
  intro X hP hw hK hc i pins s σ H E I hf st hg;subst hP hw hK;obtain ⟨xs,ys,x,y,qa,qb,hx,hy⟩:=hg;obtain ⟨hz,hTI,⟨x0,y0,hTO⟩,h1,h2⟩:=st;obtain ⟨itsA,rA,pA,zA⟩:=I.list qa;obtain ⟨itsB,rB,pB,zB⟩:=I.list qb;obtain ⟨u,hu,ru⟩:=rA.get hx;obtain ⟨u',hu',ru'⟩:=rB.get hy;have D:ZipApart z TI TO i1 i2 a b:=by
   obtain ⟨o1,e1,c1,f1⟩:=id h1;obtain ⟨o2,e2,c2,f2⟩:=id h2;obtain ⟨oa,na,ea,ca,_,fa⟩:=id pA;obtain ⟨ob,nb,eb,cb,_,fb⟩:=id pB;exact ⟨qa6 hTI hz qBv,qa6 hTO hz qBv,qa6 e1 hz (by rw[c1];exact qBw),qa6 e2 hz (by rw[c2];exact qBw),d1,qa6 hTI e1 (by rw[c1];exact qwq),qa6 hTI e2 (by rw[c2];exact qwq),
    qa6 hTO e1 (by rw[c1];exact qwq),qa6 hTO e2 (by rw[c2];exact qwq),d2,qa6 ea hz (by rw[ca];exact qBx),qa6 ea hTO (by rw[ca];exact qBy),qa6 ea e1 (by rw[ca,c1];exact qwr),qa6 ea e2 (by rw[ca,c2];exact qwr),
    qa6 eb hz (by rw[cb];exact qBx),qa6 eb hTO (by rw[cb];exact qBy),qa6 eb e1 (by rw[cb,c1];exact qwr),qa6 eb e2 (by rw[cb,c2];exact qwr)⟩
  refine wpAny_pyNext_zip_item D hz hTI hTO h1 h2 pA.isList pB.isList (x:=u) (y:=u') (by simpa using hu) (by simpa using hu') λh' a1 a2 a3 a4 a5 a6 hk=>?_
  refine ⟨.ref s.heap.objs.size,rfl,wpAny_letOwnedTupleGo_zip a1 λh'' hz'' sb=>?_⟩;have lz:z<s.heap.objs.size:=Heap.lt_size hz;have nz:s.heap.objs.size≠z:=Nat.ne_of_gt lz;have k2:∀ c o,c ∉ [z,TI,TO,i1,i2]->s.heap.get? c=some o->h''.get? c=some o:=λc o hc e=>by
   simp only[List.mem_cons,List.not_mem_nil,or_false,not_or] at hc;exact sb.extBut _ _ hc.1 (hk c o hc.1 hc.2.2.1 hc.2.2.2.1 hc.2.2.2.2 e)
  have T2:IsPair h'' s.heap.objs.size u u':=sb.extBut _ _ nz a5;refine ⟨.ref s.heap.objs.size,upd H s.heap.objs.size (.tup [x,y]),I.turnedLaid (t':=s.toks) (ch:=[z,TI,TO,i1,i2]) hf k2 (Nat.le_refl _) ⟨by show 2<=sizeLine;decide,[u,u'],.cons ru (.cons ru' .nil),_,T2,rfl,_,rfl⟩,rfl,⟨_,rfl,I.hok.fresh (Nat.le_refl _),λxs' ys' x' y' qa' qb' hx' hy'=>?_⟩,⟨hz'',sb.extBut _ _ D.TIz (hk _ _ D.TIz D.TITO D.TIi1 D.TIi2 hTI),⟨_,_,sb.extBut _ _ D.TOz a2⟩,a3.extBut sb.extBut D.i1z,a4.extBut sb.extBut D.i2z⟩,λb hb=>?_⟩
  ·rw[I.list_inj qa' qa,hx] at hx'
   rw[I.list_inj qb' qb,hy] at hy'
   cases hx';cases hy';rfl
  ·have e:b≠s.heap.objs.size:=λq=>by
    have:∃ o,s.heap.get? b=some o:=by
     simp only[List.mem_cons,List.not_mem_nil,or_false] at hb;obtain ⟨o1,e1,_⟩:=id h1;obtain ⟨o2,e2,_⟩:=id h2
     rcases hb with rfl|rfl|rfl|rfl|rfl
     ·exact ⟨_,hz⟩
     ·exact ⟨_,hTI⟩
     ·exact ⟨_,hTO⟩
     ·exact ⟨_,e1⟩
     ·exact ⟨_,e2⟩
    obtain ⟨o,e⟩:=this;exact absurd (Heap.lt_size e) (by rw[q];exact Nat.lt_irrefl _)
   rw[qat e];exact (hf b hb).1
 done:=by
  intro X hP hw hK hc i pins s σ H E I hf st hg;subst hP hw hK;obtain ⟨xs,ys,qa,qb,hx⟩:=hg;obtain ⟨hz,hTI,⟨x0,y0,hTO⟩,h1,h2⟩:=st;obtain ⟨itsA,rA,pA,zA⟩:=I.list qa;obtain ⟨itsB,rB,pB,zB⟩:=I.list qb;have D:ZipApart z TI TO i1 i2 a b:=by
   obtain ⟨o1,e1,c1,f1⟩:=id h1;obtain ⟨o2,e2,c2,f2⟩:=id h2;obtain ⟨oa,na,ea,ca,_,fa⟩:=id pA;obtain ⟨ob,nb,eb,cb,_,fb⟩:=id pB;exact ⟨qa6 hTI hz qBv,qa6 hTO hz qBv,qa6 e1 hz (by rw[c1];exact qBw),qa6 e2 hz (by rw[c2];exact qBw),d1,qa6 hTI e1 (by rw[c1];exact qwq),qa6 hTI e2 (by rw[c2];exact qwq),
    qa6 hTO e1 (by rw[c1];exact qwq),qa6 hTO e2 (by rw[c2];exact qwq),d2,qa6 ea hz (by rw[ca];exact qBx),qa6 ea hTO (by rw[ca];exact qBy),qa6 ea e1 (by rw[ca,c1];exact qwr),qa6 ea e2 (by rw[ca,c2];exact qwr),
    qa6 eb hz (by rw[cb];exact qBx),qa6 eb hTO (by rw[cb];exact qBy),qa6 eb e1 (by rw[cb,c1];exact qwr),qa6 eb e2 (by rw[cb,c2];exact qwr)⟩
  have lA:=rA.length;have lB:=rB.length;refine wpAny_pyNext_zip_end (I.ok.hd hc) D hz hTI hTO h1 h2 pA.isList pB.isList (hx.imp (λq=>by simp;omega) λq=>by simp;omega) λh' hk=>⟨rfl,I.turnedL (t':=s.toks) (ch:=[z,TI,TO,i1,i2]) hf λc o hc e=>?_⟩
  simp only[List.mem_cons,List.not_mem_nil,or_false,not_or] at hc;exact hk c o hc.1 hc.2.2.1 hc.2.2.2.1 hc.2.2.2.2 e
 self:=λ_ _ _ _ _ st h=>wpAny_pyIter_zip st.1 h
section
variable {X:Cx}
def qEf (K:Frag) (ta:TA):TI:=λσ H R=>ta σ H λvs H1=>∃ a b xs ys,vs=[.ref a,.ref b]/\SqL K H1 a xs/\SqL K H1 b ys/\R (Itz K a b) H1
theorem qib {elts:List Expr} {ek:Nat} {epos:Pos} {e1 e2:Expr} {ta:TA} {p pos:Pos} (hg:Gl X "zip") (hm:X.mg "zip" = none) (ha:PA X [e1,e2] ta)
  (hs:starEach [e1,e2] X.env=[(false,eval e1 X.env),(false,eval e2 X.env)]:=by rfl) (hs2:starEach [e2] X.env=[(false,eval e2 X.env)]:=by rfl) :
  PI X (.Tuple elts ek epos) (.Call (.Name "zip" p) [e1,e2] [] pos) (qEf X.K ta):=by
 intro pins s σ H R I h;refine Call_ (qhx I hg hm (show bootBuiltins "zip" = some (.type "zip") by decide +kernel) (PyProof.Rows.callWith_type1 (thn (ha pos pins s σ H _ I h) λus s1 ⟨vs,H1,I1,r1,q1⟩=>?_) (by rw[hs,hs2]) (by rw[hs2];rfl)));obtain ⟨a,b,xs,ys,rfl,qa,qb,q⟩:=q1;obtain ⟨u,u',rfl,ru,ru'⟩:=vals2 r1
 cases (show u=Value.ref a from ru)
 cases (show u'=Value.ref b from ru')
 obtain ⟨itsA,rA,pA,zA⟩:=I1.list qa;obtain ⟨itsB,rB,pB,zB⟩:=I1.list qb;refine call_zip_2 pA.isList pB.isList λh' hz hTI hTO h1 h2 hsz hk=>wpAny_pyIter_zip hz ?_
 refine ⟨s1.heap.objs.size+4,_,_,_,H1,rfl,I1.kept (t':=s1.toks) hk,qvc a b _ (s1.heap.objs.size+2) (s1.heap.objs.size+3) s1.heap.objs.size (s1.heap.objs.size+1) (Nat.ne_of_lt (Nat.lt_succ_self _)) (Nat.ne_of_lt (Nat.lt_succ_self _)),⟨hz,hTI,⟨_,_,hTO⟩,h1,h2⟩,λc hc=>?_,q⟩;have e:s1.heap.objs.size<=c:=by
  simp only[List.mem_cons,List.not_mem_nil,or_false] at hc
  rcases hc with rfl|rfl|rfl|rfl|rfl
  ·exact Nat.le_add_right _ _
  ·exact Nat.le_add_right _ _
  ·exact Nat.le_add_right _ _
  ·exact Nat.le_refl _
  ·exact Nat.le_add_right _ _
 exact I1.fpOk e (I1.hok.fresh e)
end
theorem qx3 {K:Frag} {a b:Addr} {xs ys:List V} {g:TG} {tb:TS} {D:Ends} {σ:St} {H:Hp} (Pv:Nat->St->Hp->Prop) (h0:Pv 0 σ H) (hl:∀ i σ H,Pv i σ H->SqL K H a xs/\SqL K H b ys)
  (hs:∀ i x y σ H p,xs[i]?=some x->ys[i]?=some y->H p=none->Pv i σ H->g (.ref p) σ (upd H p (.tup [x,y])) λσ2 H2=>tb { D with nx:=Pv (i+1),ct:=Pv (i+1),bk:=D.nx } σ2 H2)
  (hd:∀ i σ H,i=min xs.length ys.length->Pv i σ H->D.nx σ H) :
  ∃ W:Nat->Nat->St->Hp->Prop,(∃ m,W 0 m σ H)/\∀ i m σ H,W i m σ H ->
   ((Itz K a b).stop i H/\D.nx σ H)\/((Itz K a b).go i H/\∃ N:St->Hp->Prop,(∀ σ' H',N σ' H'->∃ m',m'<m/\W (i+1) m' σ' H')/\∀ x H',(Itz K a b).yld i H x H'->g x σ H' λσ2 H2=>tb { D with nx:=N,ct:=N,bk:=D.nx } σ2 H2):=by
 refine ⟨λi m σ H=>m=min xs.length ys.length-i/\i<=min xs.length ys.length/\Pv i σ H,⟨min xs.length ys.length,by simp,Nat.zero_le _,h0⟩,?_⟩;rintro i m σ H ⟨rfl,hi,p⟩;obtain ⟨qa,qb⟩:=hl i σ H p
 by_cases hlt:i<min xs.length ys.length
 ·have ha:i<xs.length:=by omega
  have hb:i<ys.length:=by omega
  refine .inr ⟨⟨xs,ys,xs[i],ys[i],qa,qb,by simp[ha],by simp[hb]⟩,Pv (i+1),λσ' H' p'=>⟨min xs.length ys.length-(i+1),by omega,rfl,hlt,p'⟩,λx H' y=>?_⟩;obtain ⟨t,rfl,ht,y⟩:=y;have ea:xs[i]?=some xs[i]:=by simp[ha]
  have eb:ys[i]?=some ys[i]:=by simp[hb]
  rw[y xs ys xs[i] ys[i] qa qb ea eb];exact hs i xs[i] ys[i] σ H t ea eb ht p
 ·exact .inl ⟨⟨xs,ys,qa,qb,by omega⟩,hd i σ H (by omega) p⟩
structure FunD (K:Frag) (x qual:Str) (st:Stmt) (dV:Value) (f:Addr) (fd:FuncData):Prop where
 ex:∃ (oc:Value) (od:Option Addr) (kV doc pm:Value) (an:Option Addr) (cdv ct:Value) (osl:Array (Option Value)),
  fd=fnOf x qual (qb9 st) (qbj st) (qab st) dV kV doc pm an cdv ct/\K.lookup f=some ⟨oc,od,.func fd,osl⟩/\codeIn K cdv qual=true
 kp:keepIn K (.ref f)=true
section
variable {P:Program} {w:World} {K:Frag} {mg:Str->Option Value} {base:Heap}
theorem FunD.ok {x qual:Str} {st:Stmt} {dV:Value} {f:Addr} {fd:FuncData} {N ps:List Str} {k:Nat} {sp:Sp} (F:FunD K x qual st dV f fd) (S:qad N ps (qab st)) (len:∀ vs H Q E,sp vs H Q E->vs.length=ps.length)
  (hbody:∀ (cdv:Value) (A:Around) (outer:List Env) (s:Shared) (H:Hp) (vs:List V) (Q:VK) (E:XK),Room k (A.deeper (envOfC qual (qab st) s.heap.objs.size f cdv))->sp vs H Q E ->
   ∃ t,PSs (qrl CX0 P w K mg base N qual (qab st) f cdv A outer s H E).nox (qbj st) t/\t { nx:=λ_ H'=>Q .non H',rt:=Q } (start N vs) H):qf6 P w K mg base CX0 (k+1) f fd ps sp:=by
 obtain ⟨oc,od,kV,doc,pm,an,cdv,ct,osl,rfl,lk,hcd⟩:=F.ex;refine qu4 lk hcd S len λA outer s H vs Q E hr hsp=>?_
 obtain ⟨t,h,q⟩:=hbody cdv A outer s H vs Q E hr hsp;exact ⟨t,h.nox,q⟩
theorem qoa {fd:FuncData} {ps:List Str} {ds:List Value} {T:Addr} {o:Obj} {items:Array Value} {n:Nat} (hd:fd.defaults=.ref T) (lk:K.lookup T=some o) (hs:o.data=.seq items n)
  (h:∀ us:List Value,(us ++ ds).length=ps.length->∃ k,bindArgs fd ⟨us,[]⟩=seqItems? fd.defaults >>= k/\k (some items)=pure (ps.zip (us ++ ds))):Binds K fd ps ds:=λs us kin hl=>by
 obtain ⟨k,h1,h2⟩:=h us hl;exact .of_defaults hd (kin _ _ lk) hs h1 h2
end
def qaw (P:Program) (w:World) (K:Frag) (mg:Str->Option Value) (base:Heap) (k:Nat) (x:Str) (ps:List Str) (sp:Sp):Prop:=
 ∃ f fd,qf6 P w K mg base CX0 k f fd ps sp/\mg x=some (.ref f)/\keepIn K (.ref f)=true/\Binds K fd ps []
def qca (P:Program) (w:World) (K:Frag) (mg:Str->Option Value) (base:Heap) (C:Addr) (k:Nat) (m:Str) (ps:List Str) (sp:Sp):Prop:=
 ∃ f fd,qf6 P w K mg base CX0 k f fd ps sp/\qeo K C m f/\Binds K fd ps []
def qCn (P:Program) (w:World) (K:Frag) (mg:Str->Option Value) (base:Heap) (C:Addr) (k:Nat) (x:Str) (ps:List Str) (ds:List Value) (sp:Sp):Prop:=
 ∃ f fd,qf6 P w K mg base CX0 k f fd ps sp/\mg x=some (.ref C)/\Mk K C f/\Binds K fd ps ds
section
variable {X:Cx} {k:Nat} {C:Addr} {ps:List Str} {sp:Sp} {dvs:List V} {ds:List Value} {x m:Str} {p pos apos:Pos} {e o:Expr} {es:List Expr} {ta:TE} {t:TA}
theorem qCo (D:qaw X.prog X.w X.K X.mg X.base k x ps sp) (hr:Room k X.A) (hg:Gl X x) (ha:PA X (e :: es) t) (hdb:(x == ("__debug__" : Str))=false:=by decide)
  (he:starEach (e :: es) X.env=(false,eval e X.env) :: starEach es X.env:=by rfl) (hpl:(backTo pos (starEach es X.env)).any (·.1)=false:=by rfl):PE X (.Call (.Name x p) (e :: es) [] pos) (qu1 sp [] E0 t):=by
 obtain ⟨f,fd,F,hm,hk,hb⟩:=D;exact qr6 F hr hg hm hk hb .nil qsi ha hdb he hpl
end
open PySem PySem.Spec PyProof.Rows
section
variable {X:Cx} {k:Nat} {C:Addr} {ps:List Str} {sp:Sp} {x m:Str} {p pos apos:Pos} {e o:Expr} {es:List Expr} {ta:TE} {t:TA}
theorem qcs {pl:Sem Bool} (he:PE X o ta) (c:Cls X.K C) (D:qca X.prog X.w X.K X.mg X.base C k m ps sp) (hr:Room k X.A) (ha:PA X (e :: es) t)
  (hst:starEach (e :: es) X.env=(false,eval e X.env) :: starEach es X.env:=by rfl) (hpl:(backTo pos (starEach es X.env)).any (·.1)=false:=by rfl)
  (ht:eval (.Call (.Attribute o m apos) (e :: es) [] pos) X.env=(do
   let ov <- eval o X.env
   standAt apos.atName
   let (f,first) <- holding [ov] (getMethod ov m pl)
   callWith pos f first (backTo pos (starEach (e :: es) X.env)) (backToKw pos (keywordEach [] X.env))):=by rfl) :
  PE X (.Call (.Attribute o m apos) (e :: es) [] pos) (qh3 C m sp [] E0 ta t):=by
 obtain ⟨f,fd,F,hm,hb⟩:=D;exact qr7 (pl:=pl) he c hm F hr hb .nil qsi ha hst hpl ht
theorem qcf {pl:Sem Bool} (he:PE X o ta) (c:Cls X.K C) (D:qca X.prog X.w X.K X.mg X.base C k m ps sp) (hr:Room k X.A)
  (ht:eval (.Call (.Attribute o m apos) [] [] pos) X.env=(do
   let ov <- eval o X.env
   standAt apos.atName
   let (f,first) <- holding [ov] (getMethod ov m pl)
   callWith pos f first (backTo pos (starEach [] X.env)) (backToKw pos (keywordEach [] X.env))):=by rfl) :
  PE X (.Call (.Attribute o m apos) [] [] pos) (qh3 C m sp [] E0 ta qlv):=by
 obtain ⟨f,fd,F,hm,hb⟩:=D;exact qu2 (pl:=pl) he c hm F hr hb .nil qsi ht
end
section
variable {P:Program} {w:World} {K:Frag} {mg:Str->Option Value} {base:Heap}
theorem Fun.def_ {x:Str} {st:Stmt} {f:Addr} {fd:FuncData} {ps:List Str} {k:Nat} {sp:Sp} (F:Fun K x x st f fd) (hm:mg x=some (.ref f)) (hf:qf6 P w K mg base CX0 k f fd ps sp) (hb:Binds K fd ps []):qaw P w K mg base k x ps sp:=
 ⟨f,fd,hf,hm,F.kp,hb⟩
end
theorem qbn:bootBuiltins "len" = some (.builtin "len"):=by decide +kernel
theorem qar:bootBuiltins "isinstance" = some (.builtin "isinstance"):=by decide +kernel
theorem qz9:bootBuiltins "abs" = some (.builtin "abs"):=by decide +kernel
theorem qj6:bootBuiltins "sum" = some (.builtin "sum"):=by decide +kernel
theorem qds:bootBuiltins "list" = some (.type "list"):=by decide +kernel
theorem qvd:bootBuiltins "tuple" = some (.type "tuple"):=by decide +kernel
theorem qws:bootBuiltins "int" = some (.type "int"):=by decide +kernel
theorem qx4:bootBuiltins "bool" = some (.type "bool"):=by decide +kernel
theorem qic (K:Frag):PySem.W.kitOne K (.type "int") (.type "int")=some true:=by rfl
theorem qgm (K:Frag):PySem.W.kitOne K (.type "int") (.type "bool")=some false:=by rfl
theorem qep (K:Frag):PySem.W.kitOne K (.type "list") (.type "list")=some true:=by rfl
theorem kit_tuple (K:Frag):PySem.W.kitOne K (.type "tuple") (.type "tuple")=some true:=by rfl
theorem qff {H:Hp} {p:Addr} {o:HO} (h:H p=none):Same H (upd H p o):=λb u e=>by rw[qat (qai e h)];exact e
open PySem PySem.Spec PyProof.Rows
def blk (X:Cx) (Nc:List Str) (scope:Scope) (cl:List (Str×Addr)) (C:Addr) (s:Shared) (H:Hp) (ex:List Addr):Cx where
 prog:=X.prog
 w:=X.w
 K:=X.K
 mg:=X.mg
 base:=X.base
 A:=X.A
 N:=Nc
 s₀:=s
 H₀:=H
 env:=compEnvC scope cl C X.env
 outer:=X.stack
 stack:=X.stack
 ex:=ex
 fn:=λ_=>false
 calm:=X.calm
 pn:=[]
 xe:=λ_ _=>False
structure qve (X:Cx) (scope:Scope) (cl:List (Str×Addr)):Prop where
 clos:closureFor scope X.env=pure cl
 kind:scope.kind=.function
 nocell:∀ y∈scope.names,y.2≠.cell
 names:∀ y∈scope.names,y.2=.local->scope.names.lookup y.1=some .local
 sub:∀ x c,cl.lookup x=some c->X.env.cells.lookup x=some c
 has:∀ x,((relabel scope X.env).names.lookup x=some .cell\/(relabel scope X.env).names.lookup x=some .free)->∃ c,cl.lookup x=some c
def FvOk (X:Cx) (scope:Scope) (cl:List (Str×Addr)):List Str->List Nat->Prop
 | [],[]=>True
 | x :: xs,j :: js=>(X.N[j]?=some x/\(X.env.kindOf x=some .cell\/X.env.kindOf x=some .free)/\cl.lookup x=X.env.cells.lookup x /\
   ((relabel scope X.env).names.lookup x=some .cell\/(relabel scope X.env).names.lookup x=some .free))/\FvOk X scope cl xs js
 | _,_=>False
def lcσ (nv:Nat) (fv:List Nat) (σ:St):St:=List.replicate nv none ++ fv.map λj=>(σ[j]?).join
theorem FvOk.len {X:Cx} {scope:Scope} {cl:List (Str×Addr)}:∀ {xs:List Str} {js:List Nat},FvOk X scope cl xs js->xs.length=js.length
 | [],[],_=>rfl
 | _ :: _,_ :: _,h=>by simp[FvOk.len h.2]
 | [],_ :: _,h=>h.elim
 | _ :: _,[],h=>h.elim
theorem FvOk.get {X:Cx} {scope:Scope} {cl:List (Str×Addr)}:∀ {xs:List Str} {js:List Nat} {k:Nat} {x:Str} {j:Nat},FvOk X scope cl xs js->xs[k]?=some x->js[k]?=some j ->
  X.N[j]?=some x/\(X.env.kindOf x=some .cell\/X.env.kindOf x=some .free)/\cl.lookup x=X.env.cells.lookup x/\((relabel scope X.env).names.lookup x=some .cell\/(relabel scope X.env).names.lookup x=some .free)
 | [],[],_,_,_,_,e,_=>by simp at e
 | _ :: _,_ :: _,0,_,_,h,e,e'=>by simp at e e';subst e;subst e';exact h.1
 | _ :: _,_ :: _,k+1,x,j,h,e,e'=>FvOk.get (k:=k) h.2 (by simpa using e) (by simpa using e')
 | [],_ :: _,_,_,_,h,_,_=>h.elim
 | _ :: _,[],_,_,_,h,_,_=>h.elim
abbrev qan:Obj:={ cls:=.type "list",dict:=none,data:=.seq ([]:List Value).toArray }
theorem ltS {h:Heap} {b:Addr} {o:Obj} (e:h.get? b=some o):b≠(h.push qan).objs.size:=Nat.ne_of_lt (by rw[Heap.size_push];exact Nat.lt_succ_of_lt (Heap.lt_size e))
theorem neS {h:Heap}:h.objs.size≠(h.push qan).objs.size:=Nat.ne_of_lt (by rw[Heap.size_push];exact Nat.lt_succ_self _)
theorem leS {h:Heap}:h.objs.size<=(h.push qan).objs.size:=by rw[Heap.size_push];exact Nat.le_succ _
theorem neZ {h:Heap} {b:Addr} {o:Obj} (e:h.get? b=some o):b≠h.objs.size:=Nat.ne_of_lt (Heap.lt_size e)
section
variable {X:Cx} {pins:List (Addr×Obj)} {σ:St} {H:Hp} {s:Shared} {scope:Scope} {cl:List (Str×Addr)} {vars frees:List Str} {fv:List Nat} {fp:List Addr}
theorem qx5 {h':Heap} {t':Nat} (I:Inv X pins σ H s) (L:qve X scope cl) (fo:FvOk X scope cl frees fv) (hf:∀ b∈fp,qqk X pins H b) (ho:∀ b∈fp,∃ o,s.heap.get? b=some o)
  (hns:h'.Ns (s.heap.push qan).objs.size (λ_=>none)) (hsb:∀ b o,b≠(s.heap.push qan).objs.size->(s.heap.push qan).get? b=some o->h'.get? b=some o) :
  Inv (blk X (vars ++ frees) scope cl (s.heap.push qan).objs.size { s with heap:=s.heap.push qan } H (s.heap.objs.size :: fp)) [(s.heap.objs.size,qan)] (lcσ vars.length fv σ) H { s with heap:=h',toks:=t' }:=by
 have hC:(s.heap.push qan).objs.size=s.heap.objs.size+1:=Heap.size_push ..;have hlt:∀ {b:Addr} {o:Obj},s.heap.get? b=some o->b<s.heap.objs.size:=λe=>Heap.lt_size e
 have old:∀ b o,s.heap.get? b=some o->h'.get? b=some o:=λb o e=>hsb b o (ltS e) (Heap.get?_push_of_some _ e)
 have hD:h'.get? s.heap.objs.size=some qan:=hsb _ _ neS (Heap.get?_push_size _ rfl);have stk:∀ b∈frs X.stack,b<s.heap.objs.size/\b ∉ fp:=λb hb=>by
  rcases List.mem_cons.mp (I.stkSub b hb) with z|z
  ·exact ⟨by rw[z];exact I.lt,λq=>(hf b q).2.1 z⟩
  ·refine ⟨?_,λq=>(hf b q).2.2.1 z⟩
   apply Nat.lt_of_not_le
   intro q;exact I.nofs q z
 have cellL:∀ x c,cl.lookup x=some c->c<s.heap.objs.size:=λx c e=>by
  obtain ⟨v,q⟩:=I.cell x c (L.sub x c e);exact q.lt
 refine ⟨⟨I.ok.mod,L.kind,I.ok.glob,I.ok.blt,Nat.le_refl _,λx y c e1 e2=>I.ok.inj x y c (L.sub x c e1) (L.sub y c e2),λx h=>L.has x h,(λx c z=>nomatch z),I.ok.hd,I.ok.frames,.inl rfl,λb hb=>?_,λb o e=>?_,?_,λb o e hb=>?_,λb hb hq=>?_,?_,λb hb=>I.stkFree b hb⟩,
  rfl,I.bare,Un.kept λb u e=>?_,⟨_,hns,λi x v e1 e2 e3=>?_⟩,λx c e=>?_,?_,λx c e=>I.freeC x c (L.sub x c e),λp hp=>?_,I.hok.kept old,?_⟩
 ·
  refine ⟨?_,λx c e z=>?_⟩
  ·show b≠(s.heap.push qan).objs.size
   rcases List.mem_cons.mp hb with z|z
   ·rw[z];exact neS
   ·obtain ⟨o,e⟩:=ho b z
    exact ltS e
  ·rcases List.mem_cons.mp hb with q|q
   ·exact Nat.ne_of_lt (cellL x c e) (z.trans q)
   ·exact (hf b q).2.2.2.2.1 x c (L.sub x c e) z
 ·exact ⟨Heap.get?_push_of_some _ (I.bs b o e).1,(I.bs b o e).2⟩
 ·exact Nat.le_trans (Nat.le_trans I.ok.bsz I.sz) leS
 ·
  rcases List.mem_cons.mp hb with q|q
  ·exact neZ (I.bs b o e).1 q
  ·rcases (hf b q).2.2.2.1 with z|z
   ·exact I.ok.noex b o e z
   ·exact absurd (Nat.lt_of_lt_of_le (Heap.lt_size (I.ok.bs b o e).1) z) (Nat.lt_irrefl _)
 ·
  obtain ⟨h1,h2⟩:=stk b hq
  rcases List.mem_cons.mp hb with q|q
  ·exact Nat.ne_of_lt h1 q
  ·exact h2 q
 ·exact Heap.FunFrames.of_keeps (λb o e _=>⟨o,Heap.get?_push_of_some _ e,rfl⟩) I.stack
 ·exact hsb b u (Nat.ne_of_lt (Heap.lt_size e)) e
 ·
  obtain ⟨m,hn,hl⟩:=I.loc;have hi:vars.length<=i:=by
   apply Nat.le_of_not_lt
   intro z;rw[show lcσ vars.length fv σ=List.replicate vars.length none ++ fv.map λj=>(σ[j]?).join from rfl,List.getElem?_append_left (by simpa using z),List.getElem?_replicate_of_lt (by simpa using z)] at e2;cases e2
  obtain ⟨k,rfl⟩:∃ k,i=vars.length+k:=⟨i-vars.length,by omega⟩;have e1':frees[k]?=some x:=by
   have e1'':(vars ++ frees)[vars.length+k]?=some x:=e1;rw[List.getElem?_append_right (by omega)] at e1''
   simpa using e1''
  have e2':(fv.map λj=>(σ[j]?).join)[k]?=some (some v):=by
   rw[show lcσ vars.length fv σ=List.replicate vars.length none ++ fv.map λj=>(σ[j]?).join from rfl,List.getElem?_append_right (by simp)] at e2
   simpa using e2
  rw[List.getElem?_map] at e2';obtain ⟨j,hj,ej⟩:=Option.map_eq_some_iff.mp e2';have ej':σ[j]?=some (some v):=by
   cases q:σ[j]? with
   | none=>rw[q] at ej;cases ej
   | some y=>rw[q] at ej;exact congrArg some ej
  obtain ⟨f1,f2,f3,f4⟩:=fo.get e1' hj;obtain ⟨u,ru,lk⟩:=hl j x v f1 ej' (f2.elim (λz=>.inr (.inl z)) λz=>.inr (.inr z));refine ⟨u,ru,.inr ⟨f4,?_⟩⟩
  rcases lk with ⟨z,_⟩|⟨_,c,hc,o,q,d⟩
  ·rcases f2 with y|y<;>rw[y] at z<;>cases z
  ·exact ⟨c,f3.trans hc,o,old c o q,d⟩
 ·obtain ⟨v,o,q,d⟩:=I.cell x c (L.sub x c e)
  exact ⟨v,o,old c o q,d⟩
 ·exact I.hok.fresh leS
 ·have e:p=(s.heap.objs.size,qan):=by
   have hp':p∈([]:List (Addr×Obj)) ++ [(s.heap.objs.size,qan)]:=hp
   simpa using hp'
  subst e;refine ⟨hD,I.hok.fresh (Nat.le_refl _),neS,λq=>?_,λv q=>by have q':Data.seq _ _=Data.cell v:=q;cases q'⟩;exact Nat.lt_irrefl _ (stk _ q).1
 ·show (lcσ vars.length fv σ).length=(vars ++ frees).length
  simp[lcσ,fo.len]
end
def qzi (X:Cx) (ifs:List Expr) (t:TT):Prop:=
 ∀ (pins:List (Addr×Obj)) (s:Shared) (σ:St) (H:Hp) (Q:Bool->Hp->Prop),Inv X pins σ H s->t σ H Q ->
  wpAny (model X.prog X.w) X.A (forIn ifs true λc r=>if r=true then do let ok <- isTrue c X.env (eval c X.env);pure (ForInStep.yield ok) else pure (ForInStep.yield r)) (TP X pins σ Q) X.xe s
def qAa:TT:=λ_ H Q=>Q true H
theorem qo5 {σ:St} {H:Hp} {Q:Bool->Hp->Prop} (h:Q true H):qAa σ H Q:=h
theorem qa3 {X:Cx}:qzi X [] qAa:=λ_ _ _ H _ I h=>wpAny_tests_nil ⟨H,I,h⟩
theorem qdt {X:Cx} {c:Expr} {t:TT} (h:PT X c t):qzi X [c] t:=λpins s σ H Q I q=>wpAny_tests_one (h pins s σ H Q I q)
def qfg (J:It) (Q:VK) (g:TG) (tc:TT) (te:TE) (σc:St) (H1:Hp):Prop:=∃ W:Nat->Nat->List V->Hp->Prop,(∃ m,W 0 m [] H1)/\∀ i m ys H2,W i m ys H2 ->
 (J.stop i H2/\ys.length<=sizeLine/\∀ p,H2 p=none->Q (.ref p) (upd H2 p (.lst ys))) \/
 (J.go i H2/\ys.length<sizeLine/\∃ N:List V->Hp->Prop,(∀ zs H',N zs H'->∃ m',m'<m/\W (i+1) m' zs H')/\∀ x H3,J.yld i H2 x H3->g x σc H3 λσ4 H4=>tc σ4 H4 λb H5=>if b=true then te σ4 H5 λv H6=>N (ys ++ [v]) H6 else N ys H5)
def tLC (nv:Nat) (fv:List Nat) (wi:TI) (g:TG) (tc:TT) (te:TE):TE:=λσ H Q=>wi σ H λJ H1=>qfg J Q g tc te (lcσ nv fv σ) H1
theorem qqs {prog:Program} {w:World} {A:Around} {R:Result->Shared->Prop} {s:Shared} {elt target iter:Expr} {ifs:List Expr} {scope:Scope} {pos:Pos} {it acc:Value} {env:Env} (I:Nat->Shared->Prop)
  (turn:∀ n s,I n s->wpAny (model prog w) A (pyNext it) (λr s₁=>match r with
   | none=>R (.ok .next) s₁
   | some v=>wpAny (model prog w) A (letOwnedTupleGo target it v) (λ_ s₁'=>wpAny (model prog w) A (assign target env v) (λ_ s₂ =>
     wpAny (model prog w) A (forIn ifs true λc r=>if r=true then do let ok <- isTrue c env (eval c env);pure (ForInStep.yield ok) else pure (ForInStep.yield r)) (λok s₃ =>
      if ok=true then wpAny (model prog w) A (eval elt env) (λx s₄ =>
       wpAny (model prog w) A (call (.builtin "list.append") [acc,x]) (λ_ s₅=>∃ m,m<n/\I m s₅) (notedBy (model prog w) A env λe s'=>R (.error e) s') s₄) (notedBy (model prog w) A env λe s'=>R (.error e) s') s₃
      else ∃ m,m<n/\I m s₃) (notedBy (model prog w) A env λe s'=>R (.error e) s') s₂) (notedBy (model prog w) A env λe s'=>R (.error e) s') s₁') (notedBy (model prog w) A env λe s'=>R (.error e) s') s₁) (notedBy (model prog w) A env λe s'=>R (.error e) s') s)
  (n:Nat) (h:I n s):codeAny (model prog w) A (.compLoop (.ListComp elt [⟨target,iter,ifs,0⟩] scope pos) 0 it acc env) R s:=by
 refine codeAny_loop rfl I (λn s hI=>?_) n h
 show wpAny _ A ((compTurn (.ListComp elt [⟨target,iter,ifs,0⟩] scope pos) 0 it acc env).onRaise (λx=>do noteFrame x env;theTreesLotGoes x)) _ _ s
 refine wpAny_noted ?_;rw[compTurn_list];refine wpAny_bind (wpAny_standAt (wpAny_bind (wpAny_mono (turn n s hI) (λr s₁ h₁=>?_) λ_ _ h'=>h')))
 cases r with
 | none=>exact wpAny_pure h₁
 | some v =>
  refine wpAny_bind (wpAny_mono h₁ (λ_ s₁' h₁'=>?_) λ_ _ h'=>h');refine wpAny_bind (wpAny_mono h₁' (λ_ s₂ h₂=>wpAny_bind (wpAny_mono h₂ (λok s₃ h₃=>?_) λ_ _ h'=>h')) λ_ _ h'=>h')
  cases ok with
  | false=>exact wpAny_pure ⟨rfl,h₃⟩
  | true =>
   exact wpAny_bind (wpAny_bind (wpAny_mono h₃ (λx s₄ h₄=>wpAny_bind (wpAny_mono h₄ (λ_ s₅ h₅=>wpAny_pure (wpAny_pure ⟨rfl,h₅⟩)) λ_ _ h'=>h')) λ_ _ h'=>h'))
def qqt (nv:Nat) (g:TG):Prop:=∀ x σ H (K:St->Hp->Prop),g x σ H K->g x σ H λσ' H'=>K σ' H'/\σ'.length=σ.length/\∀ i,nv<=i->σ'[i]?=σ[i]?
theorem qbp {nv i:Nat} (h:i<nv):qqt nv (qd3 i):=λx σ H K q=>⟨q,by simp,λj hj=>by rw[List.getElem?_set_ne (by omega)]⟩
theorem qcb {F:Frag} {nv i j:Nat} (hi:i<nv) (hj:j<nv):qqt nv (qzh F 2 (qg9 (qd3 i) (qg9 (qd3 j) qzg))):=λx σ H K ⟨a,xs,e,hq,hl,v,r,e1,v2,r2,e2,e3,q⟩ =>
 ⟨a,xs,e,hq,hl,v,r,e1,v2,r2,e2,e3,q,by simp,λk hk=>by rw[List.getElem?_set_ne (by omega),List.getElem?_set_ne (by omega)]⟩
abbrev lobj (us:List Value) (n:Nat):Obj:={ cls:=.type "list",data:=.seq us.toArray n }
theorem qx6 {Y:Cx} {D it:Addr} {J:It} {fp:List Addr} {tn:Nat->Heap->Prop} {g:TG} {tc:TT} {te:TE} {Q:VK} {W:Nat->Nat->List V->Hp->Prop} {nv n0 m0:Nat} {σc:St} {H:Hp} {s:Shared}
  {elt target iter:Expr} {ifs:List Expr} {scope:Scope} {pos:Pos} {R:Result->Shared->Prop} (hx:Y.xe=λ_ _=>False)
  (hc:Y.calm=true) (hg:PG Y target g) (hk:qqt nv g) (hi:qzi Y ifs tc) (he:PE Y elt te) (T:Turn Y.prog Y.w Y.K target J fp it tn)
  (hnv:∀ i,i<nv->∀ v,σc[i]?≠some (some v))
  (d1:D≠Y.env.locals) (d2:D∈Y.ex) (d3:D ∉ Y.fs) (d4:∀ x c,Y.env.cells.lookup x=some c->c≠D) (d5:D ∉ fp) (d6:Y.pn=[])
  (hf:∀ b∈fp,b≠Y.env.locals/\b ∉ Y.fs/\(b∈Y.ex\/Y.s₀.heap.objs.size<=b)/\(∀ x c,Y.env.cells.lookup x=some c->c≠b))
  (I0:Inv Y [(D,lobj [] n0)] σc H s) (st:tn 0 s.heap) (fr:∀ b∈fp,H b=none) (w0:W 0 m0 [] H)
  (turn:∀ i m ys H2,W i m ys H2->(J.stop i H2/\ys.length<=sizeLine/\∀ p,H2 p=none->Q (.ref p) (upd H2 p (.lst ys))) \/
   (J.go i H2/\ys.length<sizeLine/\∃ N:List V->Hp->Prop,(∀ zs H',N zs H'->∃ m',m'<m/\W (i+1) m' zs H')/\∀ x H3,J.yld i H2 x H3->g x σc H3 λσ4 H4=>tc σ4 H4 λb H5=>if b=true then te σ4 H5 λv H6=>N (ys ++ [v]) H6 else N ys H5))
  (hend:∀ ys us n H' s',Inv Y [(D,lobj us n)] σc H' s'->Vals ys us->ys.length<=sizeLine->(∀ p,H' p=none->Q (.ref p) (upd H' p (.lst ys)))->R (.ok .next) s') :
  codeAny (model Y.prog Y.w) Y.A (.compLoop (.ListComp elt [⟨target,iter,ifs,0⟩] scope pos) 0 (.ref it) (.ref D) Y.env) R s:=by
 have fpok:∀ {H':Hp} {o:Obj},(∀ b∈fp,H' b=none)->∀ b∈fp,qqk Y [(D,o)] H' b:=fun {H' o} hn b hb=>by
  obtain ⟨f1,f2,f3,f4⟩:=hf b hb;refine ⟨hn b hb,f1,f2,f3,f4,λp hp=>?_⟩;rw[d6] at hp;have e:p=(D,o):=by simpa using hp
  rw[e];exact λz=>d5 (by rw[show D=b from z];exact hb)
 refine qqs (λn s'=>∃ i ys us k H',Inv Y [(D,lobj us k)] σc H' s'/\Vals ys us/\tn i s'.heap/\(∀ b∈fp,H' b=none)/\W i n ys H') ?_ m0 ⟨0,[],[],n0,H,I0,.nil,st,fr,w0⟩;rintro n s3 ⟨i,ys,us,k,H3,I3,rv,st3,fr3,w3⟩;have ex0:∀ {E':Value->Shared->Prop} {e:Value} {s':Shared},Y.xe e s'->E' e s':=fun {E' e s'} z=>by rw[hx] at z;exact z.elim
 rcases turn i n ys H3 w3 with ⟨stop,hz,q⟩|⟨go,hz,N,hN,step⟩
 ·refine thn (T.done Y rfl rfl rfl hc i _ s3 σc H3 _ I3 (fpok fr3) st3 stop) λr s4 hq__=>?_
  obtain ⟨hr,I4⟩:=hq__;subst hr;exact hend ys us k H3 s4 I4 rv hz q
 ·refine thn (T.item Y rfl rfl rfl hc i _ s3 σc H3 _ I3 (fpok fr3) st3 go) λr s4 hq__=>?_
  obtain ⟨u,hr,h4⟩:=hq__;subst hr;refine thn h4 λ_ s5 hq__=>?_
  obtain ⟨x,H5,I5,r5,y5,st5,fr5⟩:=hq__;have I5':=I5.pinned (fpok fr5) (T.obj _ _ st5);refine wpAny_mono (hg _ s5 σc H5 x u _ I5' r5 (hk x σc H5 _ (step x H5 y5))) (λ_ s6 hq__=>?_) λ_ _ z=>ex0 z
  obtain ⟨σ6,H6,I6,q6,l6,e6⟩:=hq__;have wk:∀ (i:Nat) v,σc[i]?=some (some v)->σ6[i]?=some (some v):=λi v e=>by
   by_cases h:nv<=i
   ·rw[e6 i h];exact e
   ·exact absurd e (hnv i (by omega) v)
  have back:∀ {o:Obj} {H':Hp} {s':Shared},Inv Y ([(D,o)] ++ ql1 fp s5.heap) σ6 H' s'->Inv Y [(D,o)] σc H' s'/\tn (i+1) s'.heap/\∀ b∈fp,H' b=none:=fun {o H' s'} I'=>by
   refine ⟨(I'.unpinned).weak (by rw[<- l6]) wk,T.keep _ _ _ st5 λb hb o e=>(I'.pin (b,o) (List.mem_append_right _ (List.mem_append_right _ (qen hb e)))).1,λb hb=>?_⟩;obtain ⟨o,e,_⟩:=T.obj _ _ st5 b hb;exact (I'.pin (b,o) (List.mem_append_right _ (List.mem_append_right _ (qen hb e)))).2.1
  refine wpAny_mono (hi _ s6 σ6 H6 _ I6 q6) (λb s7 hq__=>?_) λ_ _ z=>ex0 z
  obtain ⟨H7,I7,q7⟩:=hq__
  cases b with
  | false =>
   obtain ⟨m',hm,w7⟩:=hN ys H7 q7;obtain ⟨I8,st8,fr8⟩:=back I7;exact ⟨m',hm,i+1,ys,us,k,H7,I8,rv,st8,fr8,w7⟩
  | true =>
   refine wpAny_mono (he _ s7 σ6 H7 _ I7 q7) (λu2 s8 hq__=>?_) λ_ _ z=>ex0 z
   obtain ⟨v,H8,I8,r8,n8⟩:=hq__;obtain ⟨m',hm,w8⟩:=hN _ H8 n8;obtain ⟨I9,st9,fr9⟩:=back I8;obtain ⟨eD,nD,_,_,_⟩:=I9.pin (D,lobj us k) (by simp);have hlen:=rv.length;refine call_meets F.slot_list_append ⟨_,eD,rfl⟩ F.entry_list_append (F.args_list_append_2 _ _) (PySem.list_append D us.toArray k u2 (by rw[List.size_toArray];omega)) ⟨eD,?_⟩;have q:=PySem.IsL.update eD (λx_1=>x_1.push u2);have eq:us.toArray.push u2=(us ++ [u2]).toArray:=by simp
   rw[eq] at q;obtain ⟨n',q⟩:∃ n',(s8.heap.update D (Obj.mapSeq λx_1=>x_1.push u2)).get? D=some (lobj (us ++ [u2]) n'):=⟨_,q⟩;have I10:Inv Y [] σc H8 s8:=I9.pins_of λp hp=>by cases hp
   have I11:Inv Y [] σc H8 { s8 with heap:=s8.heap.update D (Obj.mapSeq λx_1=>x_1.push u2),toks:=s8.toks }:=
    I10.turned (it:=D) (λb o hb e=>(Heap.get?_update_other s8.heap (Obj.mapSeq _) (Ne.symm hb)).trans e) nD d1 (.inl d2) d4 (λp hp=>by rw[d6] at hp;cases hp)
   refine ⟨m',hm,i+1,ys ++ [v],us ++ [u2],n',H8,I11.pins_of (λp hp=>?_),rv.append (.cons r8 .nil),?_,fr9,w8⟩
   ·have e:p=(D,lobj (us ++ [u2]) n'):=by simpa using hp
    subst e;exact ⟨q,nD,d1,d3,λv z=>by have z':Data.seq _ _=Data.cell v:=z;cases z'⟩
   ·refine T.keep _ _ _ st9 λb hb o e=>?_
    exact (Heap.get?_update_other s8.heap (Obj.mapSeq _) (λz=>d5 (by rw[z];exact hb))).trans e
section
variable {X:Cx} {pins:List (Addr×Obj)} {σ:St} {H:Hp} {s:Shared} {scope:Scope} {cl:List (Str×Addr)} {vars frees:List Str} {fv:List Nat} {elt target iter:Expr} {ifs:List Expr} {pos:Pos}
def qAb (X:Cx) (pins:List (Addr×Obj)) (σ:St) (Q:VK) (D C:Addr) (s':Shared):Prop:=
 ∃ (ys:List V) (H':Hp) (oC:Obj) (m:Str->Option Value),Inv X (pins ++ [(C,oC)]) σ (upd H' D (.lst ys)) s'/\s'.heap.Ns C m/\qqk X pins (upd H' D (.lst ys)) C/\Q (.ref D) (upd H' D (.lst ys))
theorem qsj {J:It} {fp:List Addr} {it:Addr} {tn:Nat->Heap->Prop} {g:TG} {tc:TT} {te:TE} {Q:VK} {W:Nat->Nat->List V->Hp->Prop} {m0:Nat} {E:Value->Shared->Prop} {E2:Value->Addr->Value->Shared->Prop}
  (hc:X.calm=true) (L:qve X scope cl) (fo:FvOk X scope cl frees fv) (hk:qqt vars.length g)
  (hg:∀ C s H ex,PG (blk X (vars ++ frees) scope cl C s H ex) target g) (hi:∀ C s H ex,qzi (blk X (vars ++ frees) scope cl C s H ex) ifs tc) (he:∀ C s H ex,PE (blk X (vars ++ frees) scope cl C s H ex) elt te)
  (I:Inv X pins σ H s) (T:Turn X.prog X.w X.K target J fp it tn) (st:tn 0 s.heap) (hf:∀ b∈fp,qqk X pins H b) (w0:W 0 m0 [] H)
  (turn:∀ i m ys H2,W i m ys H2->(J.stop i H2/\ys.length<=sizeLine/\∀ p,H2 p=none->Q (.ref p) (upd H2 p (.lst ys))) \/
   (J.go i H2/\ys.length<sizeLine/\∃ N:List V->Hp->Prop,(∀ zs H',N zs H'->∃ m',m'<m/\W (i+1) m' zs H')/\∀ x H3,J.yld i H2 x H3->g x (lcσ vars.length fv σ) H3 λσ4 H4=>tc σ4 H4 λb H5=>if b=true then te σ4 H5 λv H6=>N (ys ++ [v]) H6 else N ys H5)) :
  wpAny (model X.prog X.w) X.A (newList []) (λacc s₃=>wpAny (model X.prog X.w) X.A (newFunctionEnv scope X.env.globals cl [] X.env.qual none .none (some X.env)) (λcenv s₄ =>
   codeAny (model X.prog X.w) X.A (.compStart (.ListComp elt [⟨target,iter,ifs,0⟩] scope pos) 0 (.ref it) acc { cenv with scope:=relabel scope X.env })
    (λr s'=>match r with|.ok _=>∃ D,acc=.ref D/\qAb X pins σ Q D cenv.locals s'|.error x=>E2 acc cenv.locals x s') s₄) E s₃) E s:=by
 have hoo:∀ b∈fp,∃ o,s.heap.get? b=some o:=λb hb=>let ⟨o,e,_⟩:=T.obj 0 _ st b hb;⟨o,e⟩
 refine wpAny_newObj_type (wpAny_newFunctionEnv L.nocell (by intro y hy;simp at hy) (λh₁ hns hsb=>?_) L.kind);dsimp only at hns hsb ⊢;have hC:(s.heap.push qan).objs.size=s.heap.objs.size+1:=Heap.size_push ..;have keep1:∀ b o,b≠(s.heap.push qan).objs.size->(s.heap.push qan).get? b=some o->h₁.get? b=some o:=λb o hb e=>hsb.extBut b o hb (Heap.get?_push_of_some _ e)
 have I0:Inv (blk X (vars ++ frees) scope cl (s.heap.push qan).objs.size { s with heap:=s.heap.push qan } H (s.heap.objs.size :: fp)) [(s.heap.objs.size,qan)] (lcσ vars.length fv σ) H { s with heap:=h₁,toks:=s.toks+([]:List (Str×Value)).length }:=
  qx5 I L fo hf hoo (by simpa using hns) keep1
 have st1:tn 0 h₁:=T.keep 0 _ _ st λb hb o e=>keep1 b o (ltS e) (Heap.get?_push_of_some _ e)
 have loop:codeAny (model X.prog X.w) X.A (.compLoop (.ListComp elt [⟨target,iter,ifs,0⟩] scope pos) 0 (.ref it) (.ref s.heap.objs.size) (compEnvC scope cl (s.heap.push qan).objs.size X.env))
   (λr s'=>match r with|.ok _=>∃ D,Value.ref s.heap.objs.size=.ref D/\qAb X pins σ Q D (s.heap.push qan).objs.size s'|.error x=>E2 (.ref s.heap.objs.size) (s.heap.push qan).objs.size x s') { s with heap:=h₁,toks:=s.toks+([]:List (Str×Value)).length }:=by
  refine qx6 (Y:=blk X (vars ++ frees) scope cl (s.heap.push qan).objs.size { s with heap:=s.heap.push qan } H (s.heap.objs.size :: fp)) (nv:=vars.length) (n0:=0) rfl hc (hg _ _ _ _) hk (hi _ _ _ _) (he _ _ _ _) T (λi hi v e=>?_)
   neS (by show s.heap.objs.size∈s.heap.objs.size :: fp;simp) ?_ (λx c e=>?_) (λz=>?_) rfl (λb hb=>?_) I0 st1 (λb hb=>(hf b hb).1) w0 turn ?_
  ·rw[show lcσ vars.length fv σ=List.replicate vars.length none ++ fv.map λj=>(σ[j]?).join from rfl,List.getElem?_append_left (by simpa using hi),List.getElem?_replicate_of_lt (by simpa using hi)] at e
   cases e
  ·exact (I0.pin (s.heap.objs.size,qan) (by simp)).2.2.2.1
  ·obtain ⟨v,q⟩:=I.cell x c (L.sub x c e)
   exact Nat.ne_of_lt q.lt
  ·obtain ⟨o,e⟩:=hoo _ z
   exact absurd (Heap.lt_size e) (Nat.lt_irrefl _)
  ·exact ⟨(I0.ok.exf b (List.mem_cons_of_mem _ hb)).1,I0.ok.exfs b (List.mem_cons_of_mem _ hb),.inl (List.mem_cons_of_mem _ hb),(I0.ok.exf b (List.mem_cons_of_mem _ hb)).2⟩
  ·intro ys us n H' s' I' rv hz q
   obtain ⟨eD,nD,_,fD,_⟩:=I'.pin (s.heap.objs.size,lobj us n) (by simp);obtain ⟨mC,hnC,_⟩:=I'.loc;obtain ⟨oC,es,ep,eC,dC,r1,r2⟩:=id hnC;have nC:H' (s.heap.push qan).objs.size=none:=I'.free;have neDC:(s.heap.push qan).objs.size≠s.heap.objs.size:=neS.symm;have lt:∀ {b:Addr} {o:Obj},s.heap.get? b=some o->b≠s.heap.objs.size/\b≠(s.heap.push qan).objs.size:=λe=>⟨neZ e,ltS e⟩
   have nex:∀ {b:Addr} {o:Obj},s.heap.get? b=some o->b ∉ fp->b ∉ s.heap.objs.size :: fp:=λe hb z=>by
    rcases List.mem_cons.mp z with z|z
    ·exact (lt e).1 z
    ·exact hb z
   have upn:∀ {b:Addr} {u:HO},H' b=some u->upd H' s.heap.objs.size (.lst ys) b=some u:=λe=>by rw[qat (qai e nD)];exact e
   have un:Un (frs X.stack) fp H (upd H' s.heap.objs.size (.lst ys)) s.heap s'.heap:=
    {keep:=λb o e n hb hx=>I'.base.keep b o (Heap.get?_push_of_some _ e) n hb (nex e hx)
     slot:=λb o e n hb hx=>I'.base.slot b o (Heap.get?_push_of_some _ e) n hb (nex e hx)
     free:=λb o e n hx=>by rw[qat (lt e).1];exact I'.base.free b o (Heap.get?_push_of_some _ e) n (nex e hx)
     there:=λb o e hx=>I'.base.there b o (Heap.get?_push_of_some _ e) (nex e hx)
     tups:=λb xs e=>upn (I'.base.tups b xs e)
     frzs:=λb o u e=>upn (I'.base.frzs b o u e)
     tbls:=λb ps e=>let ⟨more,z⟩:=I'.base.tbls b ps e;⟨more,upn z⟩ }
   have hok:HOk X.prog X.w (upd H' s.heap.objs.size (.lst ys)) s'.heap:=λb u e=>by
    by_cases hb:b=s.heap.objs.size
    ·subst hb;rw[qa2] at e;cases e
     exact ⟨hz,us,n,rv,eD⟩
    ·rw[qat hb] at e
     exact (I'.hok b u e).stay (λc v _ z=>z) (λc z=>upn z) λc xs z=>upn z
   have J1:Inv X pins σ (upd H' s.heap.objs.size (.lst ys)) s':=I.call' (ch:=fp) I'.os un hok I'.bare λb hb=>⟨(hf b hb).2.2.2.1,(hf b hb).2.1,(hf b hb).2.2.2.2.1,(hf b hb).2.2.2.2.2⟩
   have fC:qqk X pins (upd H' s.heap.objs.size (.lst ys)) (s.heap.push qan).objs.size:=I.fpOk leS (by rw[qat neDC];exact nC);refine ⟨_,rfl,ys,H',oC,mC,J1.pins_of (λp hp=>?_),hnC,fC,q _ nD⟩
   rcases List.mem_append.mp hp with z|z
   ·exact J1.pin p (List.mem_append_right _ z)
   ·have e:p=((s.heap.push qan).objs.size,oC):=by simpa using z
    subst e;exact ⟨eC,fC.1,fC.2.1,fC.2.2.1,λv z=>by rw[dC] at z;cases z⟩
 exact codeAny_compStart_list loop (T.self _ 0 _ _ _ st1 loop)
theorem qdi {wi:TI} {g:TG} {tc:TT} {te:TE} (hc:X.calm=true) (L:qve X scope cl) (fo:FvOk X scope cl frees fv) (hit:PI X target iter wi) (hk:qqt vars.length g)
  (hg:∀ C s H ex,PG (blk X (vars ++ frees) scope cl C s H ex) target g) (hi:∀ C s H ex,qzi (blk X (vars ++ frees) scope cl C s H ex) ifs tc) (he:∀ C s H ex,PE (blk X (vars ++ frees) scope cl C s H ex) elt te)
  (hs:∀ x,foldedSetIterable iter X.env x=pure x:=by intro _;rfl):PE X (.ListComp elt [⟨target,iter,ifs,0⟩] scope pos) (tLC vars.length fv wi g tc te):=by
 intro pins s σ H Q I h;rw[eval_ListComp];refine wpAny_comprehension_free (use:=none) rfl hs L.clos L.kind L.names (thn (hit pins s σ H _ I h) λv s1 h1=>thn h1 λitv s2 h2=>?_);obtain ⟨it,fp,tn,J,H2,e,I2,T,st2,f2,W,⟨m0,w0⟩,turn⟩:=h2;subst e;refine wpAny_mono (qsj (E:=X.xe) (E2:=λacc C x s'=>compPost (model X.prog X.w) X.A X.xe none (EP X pins σ Q) acc C (.error x) s') hc L fo hk hg hi he I2 T st2 f2 w0 turn) (λacc s3 h3=>thn h3 λcenv s4 h4=>codeAny_mono h4 λr s' h5=>?_) λ_ _ z=>z
 cases r with
 | error x=>exact h5
 | ok f =>
  obtain ⟨D,rfl,ys,H',oC,m,J1,hn,fC,q⟩:=h5;refine ⟨m,hn,λh' sb=>⟨.ref D,_,?_,rfl,q⟩⟩;exact J1.unpinned.turned (t':=s'.toks) (it:=cenv.locals) (λb o hb e=>(sb.2 b hb).trans e) fC.1 fC.2.1 fC.2.2.2.1 fC.2.2.2.2.1 fC.2.2.2.2.2
theorem qct {wi:TI} {g:TG} {tc:TT} {te:TE} {i:Nat} {x:Str} {spos pos':Pos} (hN:X.N.Nodup) (hix:X.N[i]?=some x) (hlx:Loc X.env.scope x) (hc:X.calm=true) (L:qve X scope cl) (fo:FvOk X scope cl frees fv) (hit:PI X target iter wi) (hk:qqt vars.length g)
  (hg:∀ C s H ex,PG (blk X (vars ++ frees) scope cl C s H ex) target g) (hi:∀ C s H ex,qzi (blk X (vars ++ frees) scope cl C s H ex) ifs tc) (he:∀ C s H ex,PE (blk X (vars ++ frees) scope cl C s H ex) elt te)
  (hsw:swapsWith (.ListComp elt [⟨target,iter,ifs,0⟩] scope pos) (some (.Name x pos')) spos.line X.env=pure true:=by rfl)
  (hs:∀ x,foldedSetIterable iter X.env x=pure x:=by intro _;rfl) (hf:X.fn x=true\/X.env.scope.names.lookup x=some .local:=by first|exact .inl rfl|exact .inr rfl|assumption) :
  PS X (.Assign [.Name x pos'] (.ListComp elt [⟨target,iter,ifs,0⟩] scope pos) spos) (qBt (tLC vars.length fv wi g tc te) (qd3 i)):=by
 intro pins s σ H Dn I h;rw[exec_Assign_Name_used _ _ _ _ hsw];refine wpAny_bind (wpAny_standAt (wpAny_bind ?_))
 show wpAny _ X.A (do let _ <- comprehension (.ListComp elt [⟨target,iter,ifs,0⟩] scope pos) scope X.env _ (newList []) false (eval iter X.env) (some (assign (.Name x pos') X.env))) _ _ s
 refine wpAny_bind (wpAny_mono (wpAny_comprehension_free (use:=some (assign (.Name x pos') X.env)) (Q:=λ_ s'=>SP X pins Dn .next s') rfl hs L.clos L.kind L.names (thn (hit pins s σ H _ I h) λv s1 h1=>thn h1 λitv s2 h2=>?_)) (λ_ s' hq=>wpAny_pure (wpAny_pure hq)) λ_ _ e=>e);obtain ⟨it,fp,tn,J,H2,e,I2,T,st2,f2,W,⟨m0,w0⟩,turn⟩:=h2;subst e;refine wpAny_mono (qsj (Q:=λx H1=>qd3 i x σ H1 Dn.nx) (E:=X.xe) (E2:=λacc C y s'=>compPost (model X.prog X.w) X.A X.xe (some (assign (.Name x pos') X.env)) (λ_ s'=>SP X pins Dn .next s') acc C (.error y) s') hc L fo hk hg hi he I2 T st2 f2 w0 turn) (λacc s3 h3=>thn h3 λcenv s4 h4=>codeAny_mono h4 λr s' h5=>?_) λ_ _ z=>z
 cases r with
 | error y=>exact h5
 | ok f =>
  obtain ⟨D,rfl,ys,H',oC,m,J1,hn,fC,q⟩:=h5
  show wpAny (model X.prog X.w) X.A (assign (.Name x pos') X.env (.ref D)) (λ_ s''=>∃ m,s''.heap.Ns cenv.locals m/\∀ h',Heap.SameBut cenv.locals s''.heap h'->SP X pins Dn .next { s'' with heap:=h' }) X.xe s'
  refine thn (qn3 (i:=i) hN hix hlx hf _ s' σ _ (.ref D) (.ref D) (λσ' H''=>Dn.nx σ' H''/\H''=upd H' D (.lst ys)) J1 rfl ⟨q,rfl⟩) λ_ s6 hq__=>?_
  obtain ⟨σ6,H6,I6,q6,e6⟩:=hq__;subst e6;have eC:=(I6.pin (cenv.locals,oC) (by simp)).1;have eC':=(J1.pin (cenv.locals,oC) (by simp)).1;obtain ⟨o,es,ep,ho,r1⟩:=hn;rw[eC'] at ho;cases ho;refine ⟨m,⟨oC,es,ep,eC,r1⟩,λh' sb=>⟨σ6,_,?_,q6⟩⟩;exact I6.unpinned.turned (t':=s6.toks) (it:=cenv.locals) (λb o hb e=>(sb.2 b hb).trans e) fC.1 fC.2.1 fC.2.2.2.1 fC.2.2.2.2.1 fC.2.2.2.2.2
end
open PySem PySem.Spec PyProof.Rows
theorem qsk {K:Frag} {a:Addr} {xs:List V} {g:TG} {tc:TT} {te:TE} {Q:VK} {σ:St} {H:Hp} (Pv:Nat->List V->Hp->Prop) (hz:xs.length<=sizeLine) (h0:Pv 0 [] H) (hl:∀ i ys H,Pv i ys H->SqL K H a xs/\ys.length<=i)
  (hs:∀ i x ys H,xs[i]?=some x->Pv i ys H->g x σ H λσ4 H4=>tc σ4 H4 λb H5=>if b=true then te σ4 H5 λv H6=>Pv (i+1) (ys ++ [v]) H6 else Pv (i+1) ys H5)
  (hd:∀ ys H p,Pv xs.length ys H->H p=none->Q (.ref p) (upd H p (.lst ys))) :
  qfg (Itl K a) Q g tc te σ H:=by
 refine ⟨λi m ys H=>m=xs.length-i/\i<=xs.length/\Pv i ys H,⟨xs.length,by simp,Nat.zero_le _,h0⟩,?_⟩;rintro i m ys H2 ⟨rfl,hi,p⟩;obtain ⟨q,hy⟩:=hl i ys H2 p
 by_cases hlt:i<xs.length
 ·refine .inr ⟨⟨xs,xs[i],q,by simp[hlt]⟩,by omega,Pv (i+1),λzs H' p'=>⟨xs.length-(i+1),by omega,rfl,hlt,p'⟩,λx H3 y=>?_⟩
  obtain ⟨e,y⟩:=y;subst e;exact hs i x ys _ (y xs q) p
 ·have e:i=xs.length:=by omega
  subst e;exact .inl ⟨⟨xs,q,Nat.le_refl _⟩,by omega,λp' hp'=>hd ys H2 p' p hp'⟩
theorem qwt {K:Frag} {a b:Addr} {xs ys:List V} {g:TG} {tc:TT} {te:TE} {Q:VK} {σ:St} {H:Hp} (Pv:Nat->List V->Hp->Prop) (hz:xs.length<=sizeLine) (h0:Pv 0 [] H) (hl:∀ i zs H,Pv i zs H->SqL K H a xs/\SqL K H b ys/\zs.length<=i)
  (hs:∀ i x y zs H p,xs[i]?=some x->ys[i]?=some y->H p=none->Pv i zs H->g (.ref p) σ (upd H p (.tup [x,y])) λσ4 H4=>tc σ4 H4 λb H5=>if b=true then te σ4 H5 λv H6=>Pv (i+1) (zs ++ [v]) H6 else Pv (i+1) zs H5)
  (hd:∀ i zs H p,i=min xs.length ys.length->Pv i zs H->H p=none->Q (.ref p) (upd H p (.lst zs))) :
  qfg (Itz K a b) Q g tc te σ H:=by
 refine ⟨λi m zs H=>m=min xs.length ys.length-i/\i<=min xs.length ys.length/\Pv i zs H,⟨min xs.length ys.length,by simp,Nat.zero_le _,h0⟩,?_⟩;rintro i m zs H2 ⟨rfl,hi,p⟩;obtain ⟨qa,qb,hy⟩:=hl i zs H2 p
 by_cases hlt:i<min xs.length ys.length
 ·have ha:i<xs.length:=by omega
  have hb:i<ys.length:=by omega
  refine .inr ⟨⟨xs,ys,xs[i],ys[i],qa,qb,by simp[ha],by simp[hb]⟩,by omega,Pv (i+1),λzs H' p'=>⟨min xs.length ys.length-(i+1),by omega,rfl,hlt,p'⟩,λx H3 y=>?_⟩;obtain ⟨t,rfl,ht,y⟩:=y;have ea:xs[i]?=some xs[i]:=by simp[ha]
  have eb:ys[i]?=some ys[i]:=by simp[hb]
  rw[y xs ys xs[i] ys[i] qa qb ea eb];exact hs i xs[i] ys[i] zs H2 t ea eb ht p
 ·exact .inl ⟨⟨xs,ys,qa,qb,by omega⟩,by omega,λp' hp'=>hd i zs H2 p' (by omega) p hp'⟩
open PySem PySem.Spec PyProof.Rows
structure New (H H':Hp) (p:Addr) (o:HO):Prop where
 same:Same H H'
 fresh:H p=none
 at_:H' p=some o
theorem qa8 {H:Hp} {p:Addr} {o:HO} (h:H p=none):New H (upd H p o) p o:=⟨qff h,h,qa2⟩
def But (l:Addr) (H H':Hp):Prop:=∀ b o,H b=some o->b≠l->H' b=some o
theorem but_upd {H:Hp} {l:Addr} {o:HO}:But l H (upd H l o):=λb u e n=>by rw[qat n];exact e
theorem But.same {H0 H H':Hp} {l:Addr} (b:But l H H') (s:Same H0 H) (h:H0 l=none):Same H0 H':=λc o e=>b c o (s c o e) (qai e h)
theorem But.tup {H H':Hp} {l:Addr} {o:HO} (b:But l H H') (h:H l=some o) (n:∀ xs,o≠.tup xs):∀ c xs,H c=some (.tup xs)->H' c=some (.tup xs):=λc xs e=>b c _ e (qbe e h (λz=>n xs z.symm))
section
variable {X:Cx} {e:Expr} {es:List Expr} {te:TE} {t:TA} {pos:Pos}
def qCp (t:TA):TE:=λσ H Q=>t σ H λxs H1=>xs.length<=sizeLine/\∀ p H',New H1 H' p (.tup xs)->Q (.ref p) H'
def qCq (t:TA):TE:=λσ H Q=>t σ H λxs H1=>xs.length<=sizeLine/\∀ p H',New H1 H' p (.lst xs)->Q (.ref p) H'
theorem qao {x1} (h:PA X es t):PE X (.Tuple es x1 pos) (qCp t):=by
 intro pins s σ H Q I hq;refine wpAny_Tuple_spliced (thn (h pos pins s σ H _ I hq) λus s1 ⟨xs,H1,I1,r,z,q⟩=>⟨by rw[<- r.length];exact z,?_⟩);have hf:H1 s1.heap.objs.size=none:=I1.hok.fresh (Nat.le_refl _);refine ⟨.ref s1.heap.objs.size,upd H1 s1.heap.objs.size (.tup xs),I1.laid (t':=s1.toks) (λb u e=>Heap.get?_push_of_some _ e) (Nat.le_refl _) ?_,rfl,q _ _ (qa8 hf)⟩;exact ⟨z,us,r,⟨_,Heap.get?_push_size _ rfl,rfl,_,rfl⟩⟩
theorem qax (h:PA X es t):PE X (.List es pos) (qCq t):=by
 intro pins s σ H Q I hq;refine wpAny_List_spliced (thn (h pos pins s σ H _ I hq) λus s1 ⟨xs,H1,I1,r,z,q⟩=>⟨by rw[<- r.length];exact z,?_⟩);have hf:H1 s1.heap.objs.size=none:=I1.hok.fresh (Nat.le_refl _);refine ⟨.ref s1.heap.objs.size,upd H1 s1.heap.objs.size (.lst xs),I1.laid (t':=s1.toks) (λb u e=>Heap.get?_push_of_some _ e) (Nat.le_refl _) ?_,rfl,q _ _ (qa8 hf)⟩;exact ⟨z,us,0,r,Heap.get?_push_size _ rfl⟩
theorem CallR.imp {f:Value} {r r':List V->Hp->VK->Prop} (h:CallR X f r) (i:∀ xs H Q,r' xs H Q->r xs H Q):CallR X f r':=λpins s σ H xs us Q I v q=>h pins s σ H xs us Q I v (i xs H Q q)
theorem OpR.imp {f:Value->Value->Sem Value} {r r':R2} (h:OpR X f r) (i:∀ x y H Q,r' x y H Q->r x y H Q):OpR X f r':=λpins s σ H x y v u Q I rx ry q=>h pins s σ H x y v u Q I rx ry (i x y H Q q)
theorem MtM.imp {id:String} {r r':V->List V->Hp->VK->Prop} (h:MtM X id r) (i:∀ x xs H Q,r' x xs H Q->r x xs H Q):MtM X id r':=λpins s σ H x xs v us Q I rx rv q=>h pins s σ H x xs v us Q I rx rv (i x xs H Q q)
theorem qcy:CallR X (.type "list") (λxs H Q=>∃ p ys,xs=[.ref p]/\(SqL X.K H p ys\/SqT X.K H p ys)/\∀ l H',New H H' l (.lst ys)->Q (.ref l) H'):=
 call_list_of.imp λ_ _ _ ⟨p,ys,e,h,q⟩=>⟨p,ys,e,h,λl hl=>q l _ (qa8 hl)⟩
inductive rSlLNS (K:Frag) (x:V) (lo hi:Option Int) (H:Hp) (Q:VK):Prop
 | mk:∀ a xs,x=.ref a->SqL K H a xs->(∀ p H',New H H' p (.lst (qhj xs lo hi))->Q (.ref p) H')->rSlLNS K x lo hi H Q
def qCr (K:Frag):V->Option Int->Option Int->Hp->VK->Prop:=λx lo hi H Q=>rSlLNS K x lo hi H Q
theorem qfh:SlR X (qCr X.K):=λpins s σ H x v vl vu lo hi sl Q I rx hs p1 p2 ⟨a,xs,e,h,q⟩=>qxv pins s σ H x v vl vu lo hi sl Q I rx hs p1 p2 ⟨a,xs,e,h,λp hp=>q p _ (qa8 hp)⟩
inductive qwu  (x y:V) (H:Hp) (Q:VK):Prop
 | mk:∀ l b xs zs,x=.ref l->y=.ref b->H l=some (.lst xs)->H b=some (.lst zs)->xs.length+zs.length<=sizeLine->(∀ p H',New H H' p (.lst (xs ++ zs))->Q (.ref p) H')->qwu x y H Q
def qCs:R2:=λx y H Q=>qwu x y H Q
theorem qe6:OpR X (binaryOp .Add) qCs:=op_cat.imp λ_ _ _ _ ⟨l,b,xs,zs,e1,e2,h1,h2,z,q⟩=>⟨l,b,xs,zs,e1,e2,h1,h2,z,λp hp=>q p _ (qa8 hp)⟩
inductive rAppendNS  (x:V) (vs:List V) (H:Hp) (Q:VK):Prop
 | mk:∀ l xs y,x=.ref l->vs=[y]->H l=some (.lst xs)->xs.length<sizeLine->(∀ H',But l H H'->H' l=some (.lst (xs ++ [y]))->Q .non H')->rAppendNS x vs H Q
def qvf:V->List V->Hp->VK->Prop:=λx vs H Q=>rAppendNS x vs H Q
theorem qby:MtM X "list.append" qvf:=mt_append.imp λ_ _ _ _ ⟨l,xs,y,e1,e2,h,z,q⟩=>⟨l,xs,y,e1,e2,h,z,q _ but_upd qa2⟩
end
section
variable {X:Cx} {k:Nat} {C:Addr} {ps:List Str} {sp:Sp} {dvs:List V} {ds:List Value} {x f:Str} {p pos pos':Pos} {e o value:Expr} {es:List Expr} {ta tv:TE} {t:TA}
def qAc (C:Addr) (sp:Sp) (dvs:List V) (E:XK) (t:TA):TE:=λσ H Q=>t σ H λvs H1=>∀ x dx H',Same H1 H'->H1 x=none->H' x=some (.ins C dx [])->sp (.ref x :: (vs ++ dvs)) H' (λv H2=>v=.non/\Q (.ref x) H2) E
theorem qmf (D:qCn X.prog X.w X.K X.mg X.base C k x ps ds sp) (hr:Room (k+1) X.A) (hg:Gl X x) (hd:Vals dvs ds) (ha:PA X (e :: es) t) (hdb:(x == ("__debug__" : Str))=false:=by decide)
  (he:starEach (e :: es) X.env=(false,eval e X.env) :: starEach es X.env:=by rfl) (hpl:(backTo pos (starEach es X.env)).any (·.1)=false:=by rfl):PE X (.Call (.Name x p) (e :: es) [] pos) (qAc C sp dvs E0 t):=by
 obtain ⟨f,fd,F,hm,M,hb⟩:=D;intro pins s σ H Q I h;refine wpAny_Call_Name_kw (qdp I hg hm ?_ hdb);refine PySem.W.callWith_K (h₀:=X.base) I.ok.mod.kin M.kp (thn (ha pos pins s σ H _ I h) λus s1 ⟨vs,H1,I1,r,q⟩=>⟨I1.kIn,?_⟩) he hpl;refine qu3 M F hr hb hd qsi I1 r λy dx h1 h2 h3=>q y dx _ ?_ h1 qa2
 exact (qff h2).trans (qff (by rw[qat h3.symm];exact h1))
def qCt (K:Frag) (ta tv:TE) (f:Str):TS:=λD σ H=>tv σ H λy H1=>ta σ H1 λx H2=>∃ a C dx fs,x=.ref a/\H2 a=some (.ins C dx fs)/\Cls K C/\NoAttr K C f/\fs.length<1000 /\
 ∀ H',But a H2 H'->H' a=some (.ins C dx (qhi f y fs))->D.nx σ H'
theorem qd6 (ha:PE X o ta) (hv:PE X value tv) (hs:swapsWith value (some (.Attribute o f pos')) pos.line X.env=pure false):PS X (.Assign [.Attribute o f pos'] value pos) (qCt X.K ta tv f):=by
 intro pins s σ H D I h;refine plainObj_wpAny_Assign_Attribute (thn (hv pins s σ H _ I h) λu s1 ⟨y,H1,I1,ry,q⟩=>thn (ha pins s1 σ H1 _ I1 q) λov s2 hq__=>?_) hs;obtain ⟨x,H2,I2,rx,a,C,dx,fs,ex,ea,c,n,l,q2⟩:=hq__;subst ex;obtain rfl:ov=Value.ref a:=rx;exact qqn I2 ea c n l ry λs3 I3=>⟨σ,_,I3,q2 _ but_upd qa2⟩
end
theorem qhm {K:Frag} {a b:Addr} {xs ys:List V} {g:TG} {tb:TS} {D:Ends} {σ:St} {H:Hp} (Pv:Nat->St->Hp->Prop) (h0:Pv 0 σ H) (hl:∀ i σ H,Pv i σ H->SqL K H a xs/\SqL K H b ys)
  (hs:∀ i x y σ H p H',xs[i]?=some x->ys[i]?=some y->New H H' p (.tup [x,y])->Pv i σ H->g (.ref p) σ H' λσ2 H2=>tb { D with nx:=Pv (i+1),ct:=Pv (i+1),bk:=D.nx } σ2 H2)
  (hd:∀ i σ H,i=min xs.length ys.length->Pv i σ H->D.nx σ H) :
  ∃ W:Nat->Nat->St->Hp->Prop,(∃ m,W 0 m σ H)/\∀ i m σ H,W i m σ H ->
   ((Itz K a b).stop i H/\D.nx σ H)\/((Itz K a b).go i H/\∃ N:St->Hp->Prop,(∀ σ' H',N σ' H'->∃ m',m'<m/\W (i+1) m' σ' H')/\∀ x H',(Itz K a b).yld i H x H'->g x σ H' λσ2 H2=>tb { D with nx:=N,ct:=N,bk:=D.nx } σ2 H2):=
 qx3 Pv h0 hl (λi x y σ H p e1 e2 hn p'=>hs i x y σ H p _ e1 e2 (qa8 hn) p') hd
theorem qBz {X:Cx} {scope:Scope} {cl:List (Str×Addr)} (clos:closureFor scope X.env=pure cl) (kind:scope.kind=.function) (nocell:∀ y∈scope.names,y.2≠.cell)
  (names:∀ y∈scope.names,y.2=.local->scope.names.lookup y.1=some .local) (sub:∀ p∈cl,X.env.cells.lookup p.1=some p.2)
  (has:((relabel scope X.env).names.all λy=>(y.2 != .cell && y.2 != .free) || (cl.lookup y.1).isSome)=true):qve X scope cl:=by
 refine ⟨clos,kind,nocell,names,λx c e=>?_,λx h=>?_⟩
 ·have:∀ l:List (Str×Addr),l.lookup x=some c->(x,c)∈l:=λl=>by
   induction l with
   | nil=>intro z;simp at z
   | cons p r ih =>
    intro z;obtain ⟨y,d⟩:=p;rw[List.lookup_cons] at z
    by_cases q:(x == y)=true
    ·rw[q] at z
     have e1:x=y:=by simpa using q
     have e2:d=c:=Option.some.inj z;subst e1 e2;exact List.mem_cons_self
    ·have q':(x == y)=false:=by simpa using q
     rw[q'] at z;exact List.mem_cons_of_mem _ (ih z)
  exact sub (x,c) (this cl e)
 ·have:∀ (l:List (Str×NameKind)) (k:NameKind),l.lookup x=some k->(x,k)∈l:=λl k=>by
   induction l with
   | nil=>intro z;simp at z
   | cons p r ih =>
    intro z;obtain ⟨y,d⟩:=p;rw[List.lookup_cons] at z
    by_cases q:(x == y)=true
    ·rw[q] at z
     have e1:x=y:=by simpa using q
     have e2:d=k:=Option.some.inj z;subst e1 e2;exact List.mem_cons_self
    ·have q':(x == y)=false:=by simpa using q
     rw[q'] at z;exact List.mem_cons_of_mem _ (ih z)
  rw[List.all_eq_true] at has
  cases e:cl.lookup x with
  | some c=>exact ⟨c,rfl⟩
  | none =>
   rcases h with h|h
   ·have:=has _ (this _ _ h)
    rw[e] at this
    simp at this
   ·have:=has _ (this _ _ h)
    rw[e] at this
    simp at this
open PySem PySem.Spec PyProof.Rows
section
variable {X:Cx}
theorem qeq (hc:X.calm=true):CallR X (.builtin "sum") (λxs H Q=>∃ (p:Addr) (ns:List Int),xs=[.ref p]/\SqL X.K H p (ns.map V.int)/\Q (.int ns.sum) H):=by
 intro pins s σ H xs us Q I r h;obtain ⟨p,ns,rfl,hq,q⟩:=h;obtain ⟨u,rfl,ru⟩:=vals1 r
 cases (show u=Value.ref p from ru)
 obtain ⟨its,rv,pl,hz⟩:=I.list hq;have hi:IntsAre its ns:=L2.intsAre_of rv;have hn:=hi.numsOf;obtain ⟨ys,e⟩:=hi.allInts.items;have hl:=pl.isList;rw[e] at hl;refine sum_intListG (I.ok.hd hc) hl λh' tk t' hk=>⟨.int ns.sum,H,I.kept hk,⟨t',?_⟩,q⟩
 have e3:its=(intItems ys).toList:=by rw[<- e]
 rw[e3,nums_intItems] at hn;rw[preSum_eq,List.take_of_length_le (by simp),hn]
end
open PySem PySem.Spec PyProof.Rows
def FlT (h:Heap) (e T:Addr) (cls:Value) (dd:Option Addr) (fl:Value):Prop:=
 ∃ oe vs oT ts,h.get? e=some oe/\oe.cls=cls/\oe.dict=dd/\oe.data=.fields vs/\vs[1]?=some (.ref T)/\T≠e/\h.get? T=some oT/\oT.data=.fields ts/\ts[3]?=some fl
def Fl0 (h:Heap) (e:Addr) (cls:Value) (dd:Option Addr):Prop:=
 ∃ oe vs,h.get? e=some oe/\oe.cls=cls/\oe.dict=dd/\oe.data=.fields vs/\vs[1]?=some .none
def FpX (X:Cx) (H:Hp) (b:Addr):Prop:=
 H b=none/\b≠X.env.locals/\b ∉ X.fs/\X.s₀.heap.get? b=none/\(∀ x c,X.env.cells.lookup x=some c->c≠b)/\∀ p∈X.pn,p.1≠b
def Fly (X:Cx) (H:Hp) (h:Heap) (e:Addr) (cls:Value) (dd:Option Addr):Prop:=
 FpX X H e/\(Fl0 h e cls dd\/∃ T fl,FpX X H T/\FlT h e T cls dd fl)
abbrev XW:=Value->Option Addr->St->Hp->Prop
def XE (X:Cx) (W:XW) (ev:Value) (s:Shared):Prop:=
 ∃ e cls dd σ H,ev=.ref e/\Inv X [] σ H s/\Fly X H s.heap e cls dd/\W cls dd σ H
def qga (X:Cx):Prop:=X.stack=X.env :: X.outer/\X.env.frame=some X.env.locals/\X.ex=[]
section
variable {X:Cx} {σ:St} {H:Hp} {s:Shared} {h':Heap} {M:Model} {A:Around} {E:Value->Shared->Prop} {e T:Addr} {cls fl:Value} {dd:Option Addr}
theorem ObjOk.there {P:Program} {w:World} {H:Hp} {h:Heap} {a:Addr} {o:HO} (x:ObjOk P w H h a o):∃ u,h.get? a=some u:=by
 induction o with
 | lst xs=>obtain ⟨_,_,_,_,e⟩:=x;exact ⟨_,e⟩
 | tup xs=>obtain ⟨_,_,_,u,e,_⟩:=x;exact ⟨u,e⟩
 | dK kvs=>obtain ⟨_,_,_,_,u,_,_,e,_⟩:=x;exact ⟨u,e⟩
 | dT kvs=>obtain ⟨_,_,_,_,u,_,_,e,_⟩:=x;exact ⟨u,e⟩
 | set S n=>obtain ⟨u,_,_,_,e,_⟩:=x;exact ⟨u,e⟩
 | ins C dx fs=>obtain ⟨_,_,_,e,_⟩:=x;exact ⟨_,e⟩
 | own y=>exact x
 | xd fs=>obtain ⟨_,⟨u,_,_,e,_⟩,_⟩:=x;exact ⟨u,e⟩
 | met f y=>exact ⟨_,x⟩
 | rng lo hi=>obtain ⟨_,_,_,e⟩:=x;exact ⟨_,e⟩
 | frz u v _=>obtain ⟨e,_⟩:=x;exact ⟨_,e⟩
 | tbl ps=>exact ⟨_,x⟩
 | ext φ=>exact x.2.1
theorem Inv.fpX {H':Hp} {pins:List (Addr×Obj)} (hs:qga X) (I:Inv X pins σ H s) (hb:s.heap.get? e=none) (hn:H' e=none):FpX X H' e:=by
 refine ⟨hn,λz=>?_,λz=>?_,?_,λx c q z=>?_,λp hp z=>?_⟩
 ·obtain ⟨m,⟨o,_,_,ho,_⟩,_⟩:=I.loc
  rw[<- z,hb] at ho;cases ho
 ·obtain ⟨_,o,ho,_⟩:=I.funs.mem z
  rw[hb] at ho;cases ho
 ·cases q:X.s₀.heap.get? e with
  | none=>rfl
  | some o =>
   obtain ⟨o',ho'⟩:=I.base.there e o q (by rw[hs.2.2];simp);rw[hb] at ho';cases ho'
 ·obtain ⟨v,o,ho,_⟩:=I.cell x c q
  rw[z,hb] at ho;cases ho
 ·have:=(I.pin p (List.mem_append_left _ hp)).1
  rw[z,hb] at this;cases this
theorem Inv.noneOf {pins:List (Addr×Obj)} (I:Inv X pins σ H s) (hb:s.heap.get? e=none):H e=none:=by
 cases q:H e with
 | none=>rfl
 | some o =>
  obtain ⟨u,hu⟩:=(I.hok e o q).there;rw[hb] at hu;cases hu
theorem Inv.turnR {H':Hp} {t':Nat} {ch:List Addr} (I:Inv X [] σ H s) (hf:∀ b∈ch,FpX X H b) (k:∀ b u,b ∉ ch->b ∉ frs X.stack->s.heap.get? b=some u->h'.get? b=some u)
  (k2:∀ b u,b ∉ ch->s.heap.get? b=some u->∃ sl,h'.get? b=some { u with slots:=sl }) (hH:∀ b,b ∉ ch->H' b=H b) (hok:HOk X.prog X.w H' h'):Inv X [] σ H' { s with heap:=h',toks:=t' }:=by
 have sup:∀ b o,H b=some o->H' b=some o:=λb o q=>by rw[hH b (λz=>by rw[(hf b z).1] at q;cases q)];exact q
 have nosl:∀ b,b≠X.env.locals->b ∉ X.fs->b ∉ frs X.stack:=λb h1 h2 z=>(List.mem_cons.mp (I.stkSub b z)).elim h1 h2
 have neL:∀ b o,X.s₀.heap.get? b=some o->b≠X.env.locals:=λb o q=>Nat.ne_of_lt (Nat.lt_of_lt_of_le (Heap.lt_size q) I.ok.above)
 have neC:∀ b o,X.s₀.heap.get? b=some o->b ∉ ch:=λb o q hb=>by rw[(hf b hb).2.2.2.1] at q;cases q
 have cellK:∀ x c,X.env.cells.lookup x=some c->∀ v,s.heap.IsCell c v->h'.IsCell c v:=λx c q v ⟨o,ho,hd⟩=>by
  obtain ⟨sl,q'⟩:=k2 c o (λz=>(hf c z).2.2.2.2.1 x c q rfl) ho;exact ⟨_,q',hd⟩
 refine ⟨I.ok,I.os,I.bare,⟨λb o q n hb hx=>?_,λb o q n hb hx=>?_,λb o q n hx=>?_,λb o q hx=>?_,λb xs q=>sup _ _ (I.base.tups b xs q),λb o xs q=>sup _ _ (I.base.frzs b o xs q),λb ps q=>?_⟩,?_,λx c q=>?_,?_,λx c q=>?_,λp hp=>?_,hok,I.len⟩
 ·exact k b o (neC b o q) (nosl b (neL b o q) hb) (I.base.keep b o q n hb hx)
 ·obtain ⟨sl,e1⟩:=I.base.slot b o q n hb hx
  obtain ⟨sl',e2⟩:=k2 b _ (neC b o q) e1;exact ⟨sl',e2⟩
 ·rw[hH b (neC b o q)]
  exact I.base.free b o q n hx
 ·obtain ⟨o',e1⟩:=I.base.there b o q hx
  obtain ⟨sl',e2⟩:=k2 b _ (neC b o q) e1;exact ⟨_,e2⟩
 ·obtain ⟨m1,e1⟩:=I.base.tbls b ps q
  exact ⟨m1,sup _ _ e1⟩
 ·obtain ⟨m,hn,hl⟩:=I.loc
  refine ⟨m,?_,λi x v e1 e2 e3=>?_⟩
  ·obtain ⟨o,es,ep,ho,r⟩:=hn
   obtain ⟨sl,q⟩:=k2 _ o (λz=>(hf _ z).2.1 rfl) ho;exact ⟨_,es,ep,q,r⟩
  ·obtain ⟨u,r,l⟩:=hl i x v e1 e2 e3
   refine ⟨u,r,?_⟩
   rcases l with l|⟨kk,c,q,z⟩
   ·exact .inl l
   ·exact .inr ⟨kk,c,q,cellK x c q _ z⟩
 ·obtain ⟨v,z⟩:=I.cell x c q
  exact ⟨v,cellK x c q v z⟩
 ·rw[hH _ (λz=>(hf _ z).2.1 rfl)];exact I.free
 ·rw[hH _ (λz=>(hf _ z).2.2.2.2.1 x c q rfl)];exact I.freeC x c q
 ·obtain ⟨q,n,ne,nf,d⟩:=I.pin p hp
  have hp':p∈X.pn:=by
   have:p∈X.pn ++ ([]:List (Addr×Obj)):=hp
   simpa using this
  have nch:p.1 ∉ ch:=λz=>(hf p.1 z).2.2.2.2.2 p hp' rfl
  exact ⟨k p.1 p.2 nch (nosl p.1 ne nf) q,by rw[hH _ nch];exact n,ne,nf,d⟩
theorem Inv.turnS {t':Nat} {ch:List Addr} (I:Inv X [] σ H s) (hf:∀ b∈ch,FpX X H b) (k:∀ b u,b ∉ ch->b ∉ frs X.stack->s.heap.get? b=some u->h'.get? b=some u)
  (k2:∀ b u,b ∉ ch->s.heap.get? b=some u->∃ sl,h'.get? b=some { u with slots:=sl }):Inv X [] σ H { s with heap:=h',toks:=t' }:=by
 have nch:∀ b u,H b=some u->b ∉ ch:=λb u e z=>by rw[(hf b z).1] at e;cases e
 have nst:∀ b u,H b=some u->b ∉ frs X.stack:=λb u e z=>by rw[I.stkFree b z] at e;cases e
 refine I.turnR hf k k2 (λ_ _=>rfl) λb u e=>?_
 refine (I.hok b u e).stay (λc v hc q=>?_) (λ_ q=>q) λ_ _ q=>q
 rcases hc with z|z
 ·subst z;exact k _ v (nch _ u e) (nst _ u e) q
 ·exact k c v (nch c _ z) (nst c _ z) q
theorem Inv.track {o:HO} (I:Inv X [] σ H s) (hf:FpX X H e) (ok:ObjOk X.prog X.w (upd H e o) s.heap e o):Inv X [] σ (upd H e o) s:=by
 refine I.turnR (h':=s.heap) (t':=s.toks) (ch:=[e]) (λb hb=>by rw[List.mem_singleton.mp hb];exact hf) (λ_ _ _ _ q=>q) (λb u _ q=>⟨u.slots,q⟩) (λb hb=>qat (λz=>hb (by simp[z]))) λb u q=>?_
 by_cases hb:b=e
 ·subst hb;rw[qa2] at q;cases q;exact ok
 ·rw[qat hb] at q
  exact (I.hok b u q).stay (λ_ _ _ q=>q) (λc q=>by rw[qat (qai q hf.1)];exact q) λc xs q=>by rw[qat (qai q hf.1)];exact q
theorem qo6 {oe:Obj} {vs:Array Value} {head:Value} {hadNext:Bool} {Q:Unit->Shared->Prop} (hs:qga X) (hA:A.frames=some X.stack) (I:Inv X [] σ H s) (hp:FpX X H e)
  (he:s.heap.get? e=some oe) (hc:oe.cls=cls) (hdd:oe.dict=dd) (hd:oe.data=.fields vs) (hsz:1<vs.size)
  (k:∀ h' T,Inv X [] σ H { s with heap:=h' }->FpX X H T->FlT h' e T cls dd (rawInt X.env.locals)->Q () { s with heap:=h' }) :
  wpAny M A (do let a <- frameOf X.env;let pl <- entryPlaceOf X.env.locals hadNext;let b <- EntryCells.newEntry head a .none (rawInt X.env.locals) .none pl;setField (.ref e) 1 b) Q E s:=by
 have hs0:=hs;obtain ⟨hst,hfr,_⟩:=hs;have hl:=I.stack;rw[hst] at hl hA;have hene:e ∉ frs X.stack:=λhm=>by
  rcases List.mem_cons.mp (I.stkSub e hm) with z|z
  ·exact hp.2.1 z
  ·exact hp.2.2.1 z
 refine wpAny_bind (wpAny_frameOf_fun hA hl hfr λh₁ hs₁=>?_);refine wpAny_bind (wpAny_entryPlaceOf λpl hpl=>?_);unfold EntryCells.newEntry newFields;refine wpAny_bind (wpAny_newObj_type ?_ (hpl.sizeOk5 _ _ _ _ _));have S:(X.env :: X.outer).filterMap (·.frame)=frs X.stack:=by rw[hst];rfl
 rw[S] at hs₁;have he₁:h₁.get? e=some oe:=(hs₁.2.1 e hene).trans he
 generalize hob:({ cls:=.type "traceback",dict:=none,data:=.fields ([head,.ref X.env.locals,.none,rawInt X.env.locals,.none] ++ (if pl.isEmpty then List.replicate 6 Value.none else pl)).toArray }:Obj)=ob
 have hobd:ob.data=.fields ([head,.ref X.env.locals,.none,rawInt X.env.locals,.none] ++ (if pl.isEmpty then List.replicate 6 Value.none else pl)).toArray:=by rw[<- hob]
 have he₂:=Heap.get?_push_of_some (h:=h₁) ob he₁;refine wpAny_setField he₂ hd hsz ?_;have hTe:h₁.objs.size≠e:=Nat.ne_of_gt (Heap.lt_size he₁);have hd₃:=Obj.data_mapFields hd (·.setIfInBounds 1 (Value.ref h₁.objs.size));have he₃:=Heap.get?_update_self (Obj.mapFields (·.setIfInBounds 1 (Value.ref h₁.objs.size))) he₂ (Obj.isFreed_of_fields hd₃);have hT₃:=(Heap.get?_update_other (h₁.push ob) (Obj.mapFields (·.setIfInBounds 1 (Value.ref h₁.objs.size))) (Ne.symm hTe)).trans (Heap.get?_push_size h₁ (by rw[<- hob];rfl));have kk:∀ b o,b≠e->h₁.get? b=some o->((h₁.push ob).update e (Obj.mapFields (·.setIfInBounds 1 (Value.ref h₁.objs.size)))).get? b=some o:=λb o hb q=>by
  rw[Heap.get?_update_other _ _ (Ne.symm hb)];exact Heap.get?_push_of_some _ q
 refine k _ h₁.objs.size (I.turnS (t':=s.toks) (ch:=[e]) (λb hb=>by rw[List.mem_singleton.mp hb];exact hp) (λb u hb hn q=>?_) λb u hb q=>?_) (I.fpX hs0 (by rw[hs₁.1];exact Heap.get?_none_of_le (Nat.le_refl _)) (I.hok.fresh (by rw[hs₁.1];exact Nat.le_refl _))) ?_
 ·exact kk b u (λz=>hb (by simp[z])) ((hs₁.2.1 b hn).trans q)
 ·obtain ⟨sl,q'⟩:=hs₁.2.2 b u q
  exact ⟨sl,kk b _ (λz=>hb (by simp[z])) q'⟩
 ·refine ⟨_,_,_,_,he₃,(Obj.cls_mapFields _ _).trans hc,?_,hd₃,by simp[hsz],hTe,hT₃,hobd,by simp⟩
  rw[<- hdd];obtain ⟨c9,d9,dt9,sl9⟩:=oe
  cases dt9<;>rfl
theorem qob {Q:Unit->Shared->Prop} (hs:qga X) (hA:A.frames=some X.stack) (I:Inv X [] σ H s) (F:Fly X H s.heap e cls dd)
  (k:∀ h' T,Inv X [] σ H { s with heap:=h' }->FpX X H T->FlT h' e T cls dd (rawInt X.env.locals)->Q () { s with heap:=h' }):wpAny M A (noteFrame (.ref e) X.env) Q E s:=by
 obtain ⟨hp,F⟩:=F;unfold noteFrame;simp only[hs.2.1]
 rcases F with ⟨oe,vs,he,hc,hdd,hd,h1⟩|⟨T,fl,hT,oe,vs,oT,ts,he,hc,hdd,hd,h1,hTe,hoT,hdT,h3⟩
 ·refine wpAny_bind (wpAny_field he hd h1 ?_)
  rw[if_neg (by decide)];exact qo6 hs hA I hp he hc hdd hd (Array.getElem?_eq_some_iff.mp h1).1 k
 ·refine wpAny_bind (wpAny_field he hd h1 ?_)
  rw[if_pos (show (Value.ref T != Value.none)=true from by simp)];refine wpAny_bind (wpAny_field hoT hdT h3 ?_)
  by_cases hfl:(fl == rawInt X.env.locals)=true
  ·rw[if_pos hfl]
   have:=k s.heap T I hT ⟨oe,vs,oT,ts,he,hc,hdd,hd,h1,hTe,hoT,hdT,by rw[h3,beq_iff_eq.mp hfl]⟩;exact wpAny_pure this
  ·rw[if_neg hfl]
   refine wpAny_bind (wpAny_setField hoT hdT (Array.getElem?_eq_some_iff.mp h3).1 ?_);have other:∀ b,b≠T->(s.heap.update T (Obj.mapFields (·.setIfInBounds 3 Value.none))).get? b=s.heap.get? b:=λb hb=>Heap.get?_update_other _ _ (Ne.symm hb)
   have I2:Inv X [] σ H { s with heap:=s.heap.update T (Obj.mapFields (·.setIfInBounds 3 Value.none)) }:=
    I.turnS (t':=s.toks) (ch:=[T]) (λb hb=>by rw[List.mem_singleton.mp hb];exact hT) (λb u hb _ q=>(other b (λz=>hb (by simp[z]))).trans q) λb u hb q=>⟨u.slots,(other b (λz=>hb (by simp[z]))).trans q⟩
   exact qo6 hs hA I2 hp ((other e (Ne.symm hTe)).trans he) hc hdd hd (Array.getElem?_eq_some_iff.mp h1).1 k
theorem qfi {Q:Unit->Shared->Prop} (fr:Option Addr) (I:Inv X [] σ H s) (hT:FpX X H T) (F:FlT s.heap e T cls dd fl)
  (k:∀ h',Inv X [] σ H { s with heap:=h' }->FlT h' e T cls dd (fr.elim .none λf=>rawInt f)->Q () { s with heap:=h' }):wpAny M A (setFlight (.ref e) fr) Q E s:=by
 obtain ⟨oe,vs,oT,ts,he,hc,hdd,hd,h1,hTe,hoT,hdT,h3⟩:=F;have hsz3:3<ts.size:=(Array.getElem?_eq_some_iff.mp h3).1;have other:∀ b,b≠T->(s.heap.update T (Obj.mapFields (·.setIfInBounds 3 (fr.elim .none λf=>rawInt f)))).get? b=s.heap.get? b:=λb hb=>Heap.get?_update_other _ _ (Ne.symm hb)
 unfold setFlight;refine wpAny_bind (wpAny_field he hd h1 ?_);rw[if_pos (show (Value.ref T != Value.none)=true from by simp)];refine wpAny_setField hoT hdT hsz3 (k _ ?_ ?_)
 ·exact I.turnS (t':=s.toks) (ch:=[T]) (λb hb=>by rw[List.mem_singleton.mp hb];exact hT) (λb u hb _ q=>(other b (λz=>hb (by simp[z]))).trans q) λb u hb q=>⟨u.slots,(other b (λz=>hb (by simp[z]))).trans q⟩
 ·exact ⟨oe,vs,_,_,(other e (Ne.symm hTe)).trans he,hc,hdd,hd,h1,hTe,Heap.get?_update_self _ hoT (Obj.isFreed_of_fields (Obj.data_mapFields hdT _)),Obj.data_mapFields hdT _,by simp[hsz3]⟩
theorem qqu {W:XW} (hs:qga X):PassesOwn (model X.prog X.w) X.A X.env (XE X W):=by
 rintro ev s ⟨e,cls,dd,σ,H,rfl,I,F,hw⟩;refine qob hs I.ok.frames I F λh1 T I1 hT F1=>?_
 unfold cameBackBy;obtain ⟨oe,vs,oT,ts,he,hc,hdd,hd,h1',hTe,hoT,hdT,h3⟩:=id F1;refine wpAny_bind (wpAny_field he hd h1' ?_);rw[if_neg (show ¬ (Value.ref T == Value.none)=true from by simp)];exact qfi _ I1 hT F1 λh2 I2 F2=>⟨e,cls,dd,σ,H,rfl,I2,⟨F.1,.inr ⟨T,_,hT,F2⟩⟩,hw⟩
end
def CX1 (P:Program) (w:World):CXT:=λouter H s E ev s'=>∃ e T cls dd H',ev=.ref e/\s'.os=s.os/\AllBare s'.gens/\Un (frs outer) [] H H' s.heap s'.heap/\HOk P w H' s'.heap/\FlT s'.heap e T cls dd .none/\H' e=none/\H' T=none /\
 s.heap.get? e=none/\s.heap.get? T=none/\E cls dd H'
theorem CX1.xe {X:Cx} {W:XW} {pins:List (Addr×Obj)} {σ:St} {H:Hp} {s s':Shared} {ev:Value} (hs:qga X) (I:Inv X pins σ H s) (h:CX1 X.prog X.w X.stack H s (λc d H'=>W c d σ H') ev s'):XE X W ev s':=by
 obtain ⟨e,T,cls,dd,H',rfl,os,bare,un,hok,F,he,hT,le,lT,q⟩:=h;have J:Inv X [] σ H s:=I.pins_of (by simp);have J':Inv X [] σ H' s':=by
  obtain ⟨hh,g,d,t,os'⟩:=s';obtain rfl:os'=s.os:=os;exact J.call (h':=hh) (g':=g) (d':=d) (t':=t) (ch:=[]) un hok bare (λb z=>absurd z (by simp))
 exact ⟨e,cls,dd,σ,H',rfl,J',⟨J.fpX hs le he,.inr ⟨T,_,J.fpX hs lT hT,F⟩⟩,q⟩
theorem qwv {P:Program} {w:World} {K:Frag} {mg:Str->Option Value} {base:Heap} {N:List Str} {qual:Str} {scope:Scope} {f:Addr} {cd:Value} {A:Around} {outer:List Env} {s:Shared} {H:Hp} {E:XK} {ev:Value} {s':Shared}
  (h:XE (qrl (CX1 P w) P w K mg base N qual scope f cd A outer s H E) (λc d _ H'=>E c d H') ev s'):(qrl (CX1 P w) P w K mg base N qual scope f cd A outer s H E).xe ev s':=by
 obtain ⟨e,cls,dd,σ,H',rfl,I,F,q⟩:=h
 show wpAny _ _ (leaving _ _) _ _ _
 unfold leaving;refine wpAny_bind (qob (X:=qrl (CX1 P w) P w K mg base N qual scope f cd A outer s H E) ⟨rfl,rfl,rfl⟩ I.ok.frames I F λh1 T I1 hT F1=>?_);refine qfi none I1 hT F1 λh2 I2 F2=>?_
 exact ⟨e,T,cls,dd,H',rfl,I2.os,I2.bare,I2.base,I2.hok,F2,F.1.1,hT.1,F.1.2.2.2.1,hT.2.2.2.1,q⟩
def qoc (X:Cx) (W:XW):Prop:=qga X/\∀ ev s,XE X W ev s->X.xe ev s
theorem XE.unwish {X:Cx} {E:Value->Shared->Prop} {W:XW} {ev:Value} {s:Shared} (h:XE (X.wish E) W ev s):XE X W ev s:=
 let ⟨e,cls,dd,σ,H,q,I,F,w⟩:=h;⟨e,cls,dd,σ,H,q,I.unwish,F,w⟩
theorem qbb {X:Cx} {W:XW} (hs:qga X):qoc (X.wish (XE X W)) W:=⟨hs,λ_ _ h=>h.unwish⟩
theorem qo7 {X:Cx} {W:XW} (hs:qga X):PassesOwn (model X.prog X.w) X.A X.env (X.wish (XE X W)).xe:=qqu hs
theorem PSs.imp {X:Cx} {E:Value->Shared->Prop} {st:List Stmt} {t:TS} (hE:∀ ev s,E ev s->X.xe ev s) (h:PSs (X.wish E) st t):PSs X st t:=λpins s σ H D I hw =>
 wpAny_mono (h pins s σ H D (I.wish _) hw) (λ_ _ q=>q.unwish) λe s z=>hE e s z
section
variable {P:Program} {w:World} {K:Frag} {mg:Str->Option Value} {base:Heap}
abbrev bx (P:Program) (w:World) (K:Frag) (mg:Str->Option Value) (base:Heap) (N:List Str) (qual:Str) (scope:Scope) (f:Addr) (cd:Value) (A:Around) (outer:List Env) (s:Shared) (H:Hp) (E:XK):Cx:=
 (qrl (CX1 P w) P w K mg base N qual scope f cd A outer s H E).wish (XE (qrl (CX1 P w) P w K mg base N qual scope f cd A outer s H E) (λc d _ H'=>E c d H'))
theorem Fun.okX {x qual:Str} {st:Stmt} {f:Addr} {fd:FuncData} {N ps:List Str} {k:Nat} {sp:Sp} (F:Fun K x qual st f fd) (S:qad N ps (qab st)) (len:∀ vs H Q E,sp vs H Q E->vs.length=ps.length)
  (hbody:∀ (cdv:Value) (A:Around) (outer:List Env) (s:Shared) (H:Hp) (vs:List V) (Q:VK) (E:XK),Room k (A.deeper (envOfC qual (qab st) s.heap.objs.size f cdv))->sp vs H Q E ->
   ∃ t,PSs (bx P w K mg base N qual (qab st) f cdv A outer s H E) (qbj st) t/\t { nx:=λ_ H'=>Q .non H',rt:=Q } (start N vs) H):qf6 P w K mg base (CX1 P w) (k+1) f fd ps sp:=by
 obtain ⟨oc,od,kV,doc,pm,an,cdv,ct,osl,rfl,lk,hcd⟩:=F.ex;refine qu4 lk hcd S len λA outer s H vs Q E hr hsp=>?_
 obtain ⟨t,h,q⟩:=hbody cdv A outer s H vs Q E hr hsp;exact ⟨t,h.imp λ_ _ z=>qwv z,q⟩
theorem FunD.okX {x qual:Str} {st:Stmt} {dV:Value} {f:Addr} {fd:FuncData} {N ps:List Str} {k:Nat} {sp:Sp} (F:FunD K x qual st dV f fd) (S:qad N ps (qab st)) (len:∀ vs H Q E,sp vs H Q E->vs.length=ps.length)
  (hbody:∀ (cdv:Value) (A:Around) (outer:List Env) (s:Shared) (H:Hp) (vs:List V) (Q:VK) (E:XK),Room k (A.deeper (envOfC qual (qab st) s.heap.objs.size f cdv))->sp vs H Q E ->
   ∃ t,PSs (bx P w K mg base N qual (qab st) f cdv A outer s H E) (qbj st) t/\t { nx:=λ_ H'=>Q .non H',rt:=Q } (start N vs) H):qf6 P w K mg base (CX1 P w) (k+1) f fd ps sp:=by
 obtain ⟨oc,od,kV,doc,pm,an,cdv,ct,osl,rfl,lk,hcd⟩:=F.ex;refine qu4 lk hcd S len λA outer s H vs Q E hr hsp=>?_
 obtain ⟨t,h,q⟩:=hbody cdv A outer s H vs Q E hr hsp;exact ⟨t,h.imp λ_ _ z=>qwv z,q⟩
end
def qqv (P:Program) (w:World) (K:Frag) (mg:Str->Option Value) (base:Heap) (k:Nat) (x:Str) (ps:List Str) (ds:List Value) (sp:Sp):Prop:=
 ∃ f fd,qf6 P w K mg base (CX1 P w) k f fd ps sp/\mg x=some (.ref f)/\keepIn K (.ref f)=true/\Binds K fd ps ds
def qzj (P:Program) (w:World) (K:Frag) (mg:Str->Option Value) (base:Heap) (C:Addr) (k:Nat) (m:Str) (ps:List Str) (ds:List Value) (sp:Sp):Prop:=
 ∃ f fd,qf6 P w K mg base (CX1 P w) k f fd ps sp/\qeo K C m f/\Binds K fd ps ds
def qsl (sp:Sp) (dvs:List V) (W:XW) (t:TA):TE:=λσ H Q=>t σ H λvs H1=>sp (vs ++ dvs) H1 Q λc d H'=>W c d σ H'
def qid (C:Addr) (m:Str) (sp:Sp) (dvs:List V) (W:XW) (ta:TE) (t:TA):TE:=λσ H Q=>ta σ H λx H1=>qwo C m x H1 (t σ H1 λvs H2=>sp (x :: (vs ++ dvs)) H2 Q λc d H'=>W c d σ H')
section
variable {X:Cx} {W:XW} {k:Nat} {f C:Addr} {fd:FuncData} {ps:List Str} {sp:Sp} {dvs:List V} {ds:List Value} {x m:Str} {p pos apos:Pos} {e o:Expr} {es:List Expr} {ta:TE} {t:TA}
theorem qsm {pins:List (Addr×Obj)} {σ:St} {H:Hp} {s:Shared} {Q:VK} {us:List Value} {vs:List V} (hW:qoc X W) (F:qf6 X.prog X.w X.K X.mg X.base (CX1 X.prog X.w) k f fd ps sp) (hr:Room k X.A) (hb:Binds X.K fd ps ds) (hd:Vals dvs ds)
  (I:Inv X pins σ H s) (r:Vals vs us) (h:sp (vs ++ dvs) H Q λc d H'=>W c d σ H'):wpAny (model X.prog X.w) X.A (call (.ref f) us) (EP X pins σ Q) X.xe s:=by
 have r2:Vals (vs ++ dvs) (us ++ ds):=r.append hd;have hl:(us ++ ds).length=ps.length:=by rw[<- r2.length];exact F.len _ _ _ _ h
 refine wpAny_call (codeAny_mono (F.run X.A X.stack s H ⟨us,[]⟩ (us ++ ds) (vs ++ dvs) Q _ hr I.env0 (hb s us I.kIn hl) r2 h) λr s' hq=>?_)
 cases r with
 | error e=>exact hW.2 _ _ (CX1.xe hW.1 I hq)
 | ok fl =>
  cases fl with
  | ret u=>exact I.after hq
  | next=>exact False.elim hq
  | brk=>exact False.elim hq
  | cont=>exact False.elim hq
theorem qsn (hW:qoc X W) (D:qqv X.prog X.w X.K X.mg X.base k x ps ds sp) (hr:Room k X.A) (hg:Gl X x) (hd:Vals dvs ds) (ha:PA X (e :: es) t) (hdb:(x == ("__debug__" : Str))=false:=by decide)
  (he:starEach (e :: es) X.env=(false,eval e X.env) :: starEach es X.env:=by rfl) (hpl:(backTo pos (starEach es X.env)).any (·.1)=false:=by rfl):PE X (.Call (.Name x p) (e :: es) [] pos) (qsl sp dvs W t):=by
 obtain ⟨f,fd,F,hm,hk,hb⟩:=D;intro pins s σ H Q I h;refine wpAny_Call_Name_kw (qdp I hg hm ?_ hdb);refine PySem.W.callWith_K (h₀:=X.base) I.ok.mod.kin hk (thn (ha pos pins s σ H _ I h) λus s1 ⟨vs,H1,I1,r,q⟩=>⟨I1.kIn,?_⟩) he hpl;exact qsm hW F hr hb hd I1 r q
theorem qmg {pl:Sem Bool} (hW:qoc X W) (he:PE X o ta) (c:Cls X.K C) (D:qzj X.prog X.w X.K X.mg X.base C k m ps ds sp) (hr:Room k X.A) (hd:Vals dvs ds) (ha:PA X (e :: es) t)
  (hst:starEach (e :: es) X.env=(false,eval e X.env) :: starEach es X.env:=by rfl) (hpl:(backTo pos (starEach es X.env)).any (·.1)=false:=by rfl)
  (ht:eval (.Call (.Attribute o m apos) (e :: es) [] pos) X.env=(do
   let ov <- eval o X.env
   standAt apos.atName
   let (f,first) <- holding [ov] (getMethod ov m pl)
   callWith pos f first (backTo pos (starEach (e :: es) X.env)) (backToKw pos (keywordEach [] X.env))):=by rfl) :
  PE X (.Call (.Attribute o m apos) (e :: es) [] pos) (qid C m sp dvs W ta t):=by
 obtain ⟨f,fd,F,hm,hb⟩:=D;intro pins s σ H Q I h;refine PySem.W.methodCall_KW (pl:=pl) (thn (he pins s σ H _ I h) λu s1 hq__=>?_) ht;obtain ⟨x,H1,I1,rx,a,dx,fs,ex,ea,l,q⟩:=hq__;subst ex;obtain rfl:u=Value.ref a:=rx;refine qf5 I1 ea c hm l ?_;refine PySem.W.callWith_K (first:=[.ref a]) (h₀:=X.base) I.ok.mod.kin hm.kp (thn (ha pos pins s1 σ H1 _ I1 q) λus s2 ⟨vs,H2,I2,r,q2⟩=>⟨I2.kIn,?_⟩) hst hpl;exact qsm (us:=.ref a :: us) (vs:=.ref a :: vs) hW F hr hb hd I2 (.cons rfl r) q2
end
def veMro:List Value:=[.type "ValueError",.type "Exception",.type "BaseException",.type "object"]
def qx7 (K:Frag) (C:Addr):Prop:=PySem.W.excIn K C veMro "ValueError.__new__" = true
theorem qAd {K:Frag} {h:Heap} {C:Addr} {bmB:List Value} {newId:String} (X:K.In h) (q:PySem.W.excIn K C bmB newId=true) :
  ∃ bm N nm qn bs hd sn sub ab col dd k0 k1 k2 k3 k5 mN,h.get? C=some (excClassObj nm qn C N bs bm hd sn sub ab col dd k0 k1 k2 k3 k5 newId)/\h.Ns N mN/\mN "__init__" = none/\OwnTail h bmB bm:=by
 unfold PySem.W.excIn at q
 split at q
 case h_2=>cases q
 case h_1 dd cd sl ho =>
  split at q
  case h_2=>cases q
  case h_1 C' bm k0 k1 k2 k3 n k5 hm hsl =>
   simp only[Bool.and_eq_true,beq_iff_eq,Bool.not_eq_true'] at q;obtain ⟨⟨⟨⟨⟨q1,q2⟩,q3⟩,q4⟩,q5⟩,q6⟩:=q;subst q1 q2
   cases cd with
   | mk nm bs mro ns qn hd sn sub ab col del =>
    cases sl with
    | mk l =>
     have hm':mro=_:=hm;have hl':l=_:=hsl;have q3':del=false:=q3;subst hm' hl' q3';exact ⟨bm,ns,nm,qn,bs,hd,sn,sub,ab,col,dd,k0,k1,k2,k3,k5,_,X _ _ ho,.of_isNs (PySem.W.isNs_of_in X q5),PySem.W.nsMap_none_of_in X q5 q6,PySem.W.tail_of_in X q4⟩
def qAe (W:XW) (C:Addr) (t:TA):TS:=λ_ σ H=>t σ H λvs H1=>vs.length<=sizeLine/\W (.ref C) none σ H1
theorem qAf {h h':Heap} {N:Addr} {m:Str->Option Value} (k:∀ b o,h.get? b=some o->h'.get? b=some o) (n:h.Ns N m):h'.Ns N m:=
 let ⟨o,es,ep,e,r⟩:=n;⟨o,es,ep,k _ _ e,r⟩
theorem qhn {X:Cx} {W:XW} {C:Addr} {x:Str} {np cpos pos:Pos} {e:Expr} {es:List Expr} {t:TA} (hW:qoc X W) (hc:X.calm=true) (hE:qx7 X.K C) (hg:Gl X x) (hm:X.mg x=some (.ref C)) (ha:PA X (e :: es) t)
  (hdb:(x == ("__debug__" : Str))=false:=by decide) (he:starEach (e :: es) X.env=(false,eval e X.env) :: starEach es X.env:=by rfl) (hpl:(backTo cpos (starEach es X.env)).any (·.1)=false:=by rfl) :
  PS X (.Raise (some (.Call (.Name x np) (e :: es) [] cpos)) none pos) (qAe W C t):=by
 intro pins s σ H D I h;obtain ⟨bm,N,nm,qn,bs,hd,sn,sub,ab,col,dd,k0,k1,k2,k3,k5,mN,hC,hN,hni,hT⟩:=qAd I.ok.mod.kin hE;refine wpAny_Raise_call_subU PySem.F.excBase_ValueError (by decide +kernel) PySem.F.excBase_ValueError (C:=C) (nm:=nm) (q:=qn) (N:=N) (bs:=bs) (hdct:=hd) (sn:=sn) (sub:=sub) (ab:=ab) (col:=col) (dd:=dd) (k0:=k0) (k1:=k1) (k2:=k2) (k3:=k3) (k5:=k5) (hT.hasType (by decide +kernel)) (I.ok.hd hc) (by rw[he];show (false || (backTo cpos (starEach es X.env)).any (·.1))=false;rw[hpl];rfl) hni (qdp I hg hm ⟨rfl,?_⟩ hdb);have h2:=ha cpos pins s σ H _ I h;rw[he] at h2 ⊢;refine Calls.evalArgs_plain (thn h2 λus s1 ⟨vs,H1,I1,r,q1,q2⟩=>⟨rfl,by rw[<- r.length];exact q1,I1.bk _ _ hC,qAf I1.bk hN,hT.keeps I1.bk,λh' ex hx=>hW.2 _ _ ?_⟩);obtain ⟨tt,hex,_,_⟩:=hx.there;have J:Inv X [] σ H1 s1:=I1.pins_of (by simp);exact ⟨ex,.ref C,none,σ,H1,rfl,J.kept (t':=s1.toks) hx.keeps,⟨J.fpX hW.1 hx.new (J.noneOf hx.new),.inl ⟨_,_,hex,rfl,rfl,rfl,rfl⟩⟩,q2⟩
open PySem PySem.Spec PyProof.Rows
def qod (a:Addr) (cls:Value) (dd:Option Addr):HO:=.ext λh=>∃ oe vs,h.get? a=some oe/\oe.cls=cls/\oe.dict=dd/\oe.data=.fields vs
abbrev hnd (X:Cx) (e:Addr):Cx:={ X with A:=X.A.mark (some (.ref e)),calm:=false,xe:=λ_ _=>False }
abbrev pnd (X:Cx) (pn:List (Addr×Obj)):Cx:={ X with pn:=pn }
section
variable {X:Cx} {pins:List (Addr×Obj)} {σ:St} {H:Hp} {s:Shared} {e:Addr}
theorem Inv.hnd (I:Inv X pins σ H s) (e:Addr):Inv (hnd X e) pins σ H s:=
 ⟨⟨I.ok.mod,I.ok.kind,I.ok.glob,I.ok.blt,I.ok.above,I.ok.inj,I.ok.has,I.ok.cab,(λz=>nomatch z),I.ok.frames,I.ok.stk,I.ok.exf,I.ok.bs,I.ok.bsz,I.ok.noex,I.ok.exfs,I.ok.funs,I.ok.frf⟩,I.os,I.bare,I.base,I.loc,I.cell,I.free,I.freeC,I.pin,I.hok,I.len⟩
theorem Inv.unhnd (hd:X.calm=true->X.A.handled=none) (I:Inv (L2.hnd X e) pins σ H s):Inv X pins σ H s:=
 ⟨⟨I.ok.mod,I.ok.kind,I.ok.glob,I.ok.blt,I.ok.above,I.ok.inj,I.ok.has,I.ok.cab,hd,I.ok.frames,I.ok.stk,I.ok.exf,I.ok.bs,I.ok.bsz,I.ok.noex,I.ok.exfs,I.ok.funs,I.ok.frf⟩,I.os,I.bare,I.base,I.loc,I.cell,I.free,I.freeC,I.pin,I.hok,I.len⟩
theorem Inv.pnd (I:Inv X pins σ H s):Inv (pnd X (X.pn ++ pins)) [] σ H s:=
 ⟨⟨I.ok.mod,I.ok.kind,I.ok.glob,I.ok.blt,I.ok.above,I.ok.inj,I.ok.has,I.ok.cab,I.ok.hd,I.ok.frames,I.ok.stk,I.ok.exf,I.ok.bs,I.ok.bsz,I.ok.noex,I.ok.exfs,I.ok.funs,I.ok.frf⟩,I.os,I.bare,I.base,I.loc,I.cell,I.free,I.freeC,λp hp=>I.pin p (by
  have:p∈(X.pn ++ pins) ++ ([]:List (Addr×Obj)):=hp
  simpa using this),I.hok,I.len⟩
theorem Inv.unpnd (I:Inv (L2.pnd X (X.pn ++ pins)) [] σ H s):Inv X pins σ H s:=
 ⟨⟨I.ok.mod,I.ok.kind,I.ok.glob,I.ok.blt,I.ok.above,I.ok.inj,I.ok.has,I.ok.cab,I.ok.hd,I.ok.frames,I.ok.stk,I.ok.exf,I.ok.bs,I.ok.bsz,I.ok.noex,I.ok.exfs,I.ok.funs,I.ok.frf⟩,I.os,I.bare,I.base,I.loc,I.cell,I.free,I.freeC,λp hp=>I.pin p (by
  show p∈(X.pn ++ pins) ++ ([]:List (Addr×Obj))
  simpa using hp),I.hok,I.len⟩
theorem SP.unpnd {E:Value->Shared->Prop} {D:Ends} {f:Flow} {s':Shared} (h:SP ((L2.pnd X (X.pn ++ pins)).wish E) [] D f s'):SP X pins D f s':=by
 cases f with
 | next=>obtain ⟨σ',H',I,q⟩:=h;exact ⟨σ',H',I.unwish.unpnd,q⟩
 | brk=>obtain ⟨σ',H',I,q⟩:=h;exact ⟨σ',H',I.unwish.unpnd,q⟩
 | cont=>obtain ⟨σ',H',I,q⟩:=h;exact ⟨σ',H',I.unwish.unpnd,q⟩
 | ret u=>obtain ⟨v,σ',H',I,r,q⟩:=h;exact ⟨v,σ',H',I.unwish.unpnd,r,q⟩
theorem Inv.gone {h':Heap} {t':Nat} {n:Str} {j:Nat} {m:Str->Option Value} {v:Option Value} (I:Inv X pins σ H s) (hN:X.N.Nodup) (hj:X.N[j]?=some n) (hm:s.heap.Ns X.env.locals m)
  (hl:∀ (i:Nat) (x:Str) (v:V),X.N[i]?=some x->σ[i]?=some (some v)->Vis X.env.scope x->∃ u,RelV v u/\Look X.env s.heap m x u)
  (hn:h'.Ns X.env.locals (λx=>if x=n then v else m x)) (hs:Heap.SameBut X.env.locals s.heap h'):Inv X pins (σ.set j none) H { s with heap:=h',toks:=t' }:=by
 have ne0:∀ b o,X.s₀.heap.get? b=some o->b≠X.env.locals:=λb o q=>Nat.ne_of_lt (Nat.lt_of_lt_of_le (Heap.lt_size q) I.ok.above)
 refine ⟨I.ok,I.os,I.bare,⟨λb o q n hb hx=>?_,λb o q n hb hx=>?_,I.base.free,λb o q hx=>?_,I.base.tups,I.base.frzs,I.base.tbls⟩,⟨_,hn,λi y v' e1 e2 e3=>?_⟩,λy c q=>?_,I.free,I.freeC,λp hp=>?_,λb u q=>?_,by simpa using I.len⟩
 ·exact (hs.2 b (ne0 b o q)).trans (I.base.keep b o q n hb hx)
 ·obtain ⟨sl,e1⟩:=I.base.slot b o q n hb hx
  exact ⟨sl,(hs.2 b (ne0 b o q)).trans e1⟩
 ·obtain ⟨o',e1⟩:=I.base.there b o q hx
  exact ⟨o',(hs.2 b (ne0 b o q)).trans e1⟩
 ·by_cases hij:i=j
  ·subst hij
   have hi:i<σ.length:=by rw[I.len];exact (List.getElem?_eq_some_iff.mp hj).1
   rw[List.getElem?_set_self hi] at e2;cases e2
  ·rw[List.getElem?_set_ne (Ne.symm hij)] at e2
   obtain ⟨u',r',q⟩:=hl i y v' e1 e2 e3;refine ⟨u',r',?_⟩
   rcases q with ⟨k,q⟩|⟨k,c,q,z⟩
   ·have ny:y≠n:=λz=>hij (qk1 hN e1 (z ▸ hj))
    exact .inl ⟨k,by simp[ny,q]⟩
   ·exact .inr ⟨k,c,q,z.sameBut hs (I.cne y c q)⟩
 ·obtain ⟨w',z⟩:=I.cell y c q
  exact ⟨w',z.sameBut hs (I.cne y c q)⟩
 ·obtain ⟨q,n,ne,nf,d⟩:=I.pin p hp
  exact ⟨(hs.2 p.1 ne).trans q,n,ne,nf,d⟩
 ·refine (I.hok b u q).stay (λc w' hc q'=>(hs.2 c ?_).trans q') (λ_ q=>q) λ_ _ q=>q
  rintro rfl
  rcases hc with z|z
  ·rw[<- z,I.free] at q;cases q
  ·rw[I.free] at z;cases z
theorem qx8 {M:Model} {A:Around} {E:Value->Shared->Prop} {n:Str} {j:Nat} {pos:Pos} {Q:Unit->Shared->Prop} (I:Inv X pins σ H s) (hN:X.N.Nodup) (hj:X.N[j]?=some n) (hl:X.env.kindOf n=some .local)
  (k:∀ s',Inv X pins (σ.set j none) H s'->Q () s'):wpAny M A (do bindName X.env n .none;unbindBehindTheSuite X.env n pos) Q E s:=by
 obtain ⟨m,hm,hl'⟩:=id I.loc;exact wpAny_nameGoes_keeps hl hm (by rw[I.ok.kind];rfl) λh' v hn hs=>k _ (I.gone hN hj hm hl' hn hs)
end
def qEg (K:Frag) (C:Addr) (cls:Value):Prop:=∃ D,cls=.ref D/\PySem.W.ktsIn K D "BaseException" = true/\PySem.W.mroIn K D (.ref C)=some true
theorem qAg {K:Frag} {h:Heap} {C:Addr} {base:Value} {r:Bool} {nm q:Str} {N:Addr} {bs bm:List Value} {hdct:Bool} {sn:List Str} {sub:List Value} {ab:Bool} {col:Option Bool} {dd:Option Addr} {k0 k1 k2 k3 k5:Option Value} {newId:String}
  (X:K.In h) (e:PySem.W.mroIn K C base=some r) (hC:h.get? C=some (excClassObj nm q C N bs bm hdct sn sub ab col dd k0 k1 k2 k3 k5 newId)):(Value.ref C :: bm).contains base=r:=by
 unfold PySem.W.mroIn PySem.W.clsIn at e
 split at e
 case h_1 ho =>
  have:=X _ _ ho;rw[hC] at this;cases this
  simpa using e
 case h_2=>simp at e
theorem qjt {M:Model} {A:Around} {E:Value->Shared->Prop} {K:Frag} {s:Shared} {e C D:Addr} {oe:Obj} {Q:Bool->Shared->Prop} (X:K.In s.heap) (he:s.heap.get? e=some oe) (hcls:oe.cls=.ref D)
  (hC:PySem.W.ktsIn K C "BaseException" = true) (hD:PySem.W.ktsIn K D "BaseException" = true) (hs:PySem.W.mroIn K D (.ref C)=some true) (hq:Q true s):wpAny M A (excMatches (.ref e) (.ref C)) Q E s:=by
 obtain ⟨nm,qn,N,bs,bm,hdct,sn,sub,ab,col,dd,k0,k1,k2,k3,k5,newId,gC,hb,_⟩:=PySem.W.kts_cls X hC;obtain ⟨nm',qn',N',bs',bm',hdct',sn',sub',ab',col',dd',k0',k1',k2',k3',k5',newId',gD,hb',_⟩:=PySem.W.kts_cls X hD;have hcB:(Value.ref C :: bm).contains (.type "BaseException")=true:=by rw[List.contains_cons,hb,Bool.or_true]
 have hcC:=qAg X hs gD;have f:=tc_notTuple;obtain ⟨hp,g,d,tk,os⟩:=s;unfold excMatches
 repeat (first|(with_reducible refine wpAny_loadPart_at he ?_;rw[hcls])|with_reducible refine wpAny_loadPart_at gC ?_|(with_reducible refine wpAny_isSubtype_exc gC ?_;rw[hcB])|(with_reducible refine wpAny_isSubtype_exc gD ?_;rw[hcC])|wp_step)
 exact hq
def qCu (D:Ends) (j:Nat):Ends:={ nx:=λσ H=>D.nx (σ.set j none) H,rt:=D.rt,bk:=λσ H=>D.bk (σ.set j none) H,ct:=λσ H=>D.ct (σ.set j none) H }
def hW (K:Frag) (C:Addr) (th:TS) (j:Nat) (D:Ends):XW:=λcls dd σ H=>qEg K C cls/\∀ e H',New H H' e (qod e cls dd)->th (qCu D j) (σ.set j (some (.ref e))) H'
def qEh (K:Frag) (C:Addr) (tb:XW->TS) (th:TS) (j:Nat):TS:=λD σ H=>tb (hW K C th j D) D σ H
theorem qww {X:Cx} {C:Addr} {x n:Str} {j:Nat} {np hpos pos:Pos} {body suite:List Stmt} {b₀:Stmt} {tb:XW->TS} {th:TS} (hs:qga X) (hN:X.N.Nodup) (hj:X.N[j]?=some n) (hl:X.env.kindOf n=some .local) (hx:X.env.scope.names.lookup n=some .local)
  (hg:Gl X x) (hm:X.mg x=some (.ref C)) (hC:PySem.W.ktsIn X.K C "BaseException" = true)
  (hb:∀ pn W,PSs ((pnd X pn).wish (XE (pnd X pn) W)) body (tb W)) (hh:∀ pn e,PSs (hnd (pnd X pn) e) (b₀ :: suite) th) (hdb:(x == ("__debug__" : Str))=false:=by decide) :
  PS X (.Try body [.ExceptHandler (some (.Name x np)) (some n) (b₀ :: suite) hpos] [] [] pos) (qEh X.K C tb th j):=by
 intro pins s σ H D I h;have I0:Inv (pnd X (X.pn ++ pins)) [] σ H s:=I.pnd;refine wpAny_Try_except (wpAny_mono (hb (X.pn ++ pins) _ [] s σ H D (I0.wish _) h) (λf s1 q=>?_) λev s1 q=>?_)
 ·cases f with
  | next=>exact wpAny_execs_nil q.unpnd
  | brk=>exact q.unpnd
  | cont=>exact q.unpnd
  | ret u=>exact q.unpnd
 ·obtain ⟨e,cls,dd,σ1,H1,rfl,I1,F1,⟨DC,rfl,hD,hDC⟩,w1⟩:=q
  have hs':qga (pnd X (X.pn ++ pins)):=hs;refine qob (X:=pnd X (X.pn ++ pins)) hs' I1.ok.frames I1 F1 λh2 T I2 hT F2=>?_
  refine qfi none I2 hT F2 λh3 I3 F3=>?_
  obtain ⟨oe,vs,oT,ts,he,hc,_⟩:=id F3;refine wpAny_handleBy_cons (codeAny_handlers_test (qdp (X:=hnd (pnd X (X.pn ++ pins)) e) (I3.hnd e) hg hm ?_ hdb)) (by intro q;cases q);refine qjt (s:={ s1 with heap:=h3 }) I3.kIn he hc hC hD hDC (codeAny_handlers_suite_as ?_);refine qfi none I3 hT F3 λh4 I4 F4=>?_
  obtain ⟨oe,vs,oT,ts,he,hc,hdd,hd,_⟩:=id F4;have I5:Inv (pnd X (X.pn ++ pins)) [] σ1 (upd H1 e (qod e (.ref DC) dd)) { s1 with heap:=h4 }:=I4.track F1.1 ⟨⟨oe,vs,he,hc,hdd,hd⟩,⟨oe,he⟩,λg1 g2 ⟨o',v',q1,q2,q3,q4⟩ k=>⟨o',v',k _ q1,q2,q3,q4⟩⟩;refine qhh (X:=pnd X (X.pn ++ pins)) (v:=.ref e) I5 hN hj (.inl hx) rfl (λs6 I6=>?_) (.inr hx);have w2:=w1 e _ (qa8 F1.1.1);refine wpAny_mono (hh (X.pn ++ pins) e [] s6 _ _ _ (I6.hnd e) w2) (λf s7 q=>?_) λ_ _ z=>False.elim z
  have go:∀ {σ7 H7},Inv (hnd (pnd X (X.pn ++ pins)) e) [] σ7 H7 s7->∀ {Q:Unit->Shared->Prop},(∀ s',Inv X pins (σ7.set j none) H7 s'->Q () s')->wpAny (model X.prog X.w) X.A (do bindName X.env n .none;unbindBehindTheSuite X.env n hpos) Q X.xe s7:=fun {σ7 H7} J {Q} k =>
   qx8 (Inv.unpnd (Inv.unhnd I.ok.hd J)) hN hj hl k
  cases f with
  | next=>obtain ⟨σ7,H7,J,q7⟩:=q;exact go J λs' J'=>⟨_,_,J',q7⟩
  | brk=>obtain ⟨σ7,H7,J,q7⟩:=q;exact go J λs' J'=>⟨_,_,J',q7⟩
  | cont=>obtain ⟨σ7,H7,J,q7⟩:=q;exact go J λs' J'=>⟨_,_,J',q7⟩
  | ret u=>obtain ⟨v,σ7,H7,J,r,q7⟩:=q;exact go J λs' J'=>⟨v,_,_,J',r,q7⟩
open PySem PySem.Spec PyProof.Rows
structure qqw (K:Frag) (D:Addr):Prop where
 ga:PySem.W.findIn K (.ref D) "__getattribute__" = some (some (.builtin "BaseException.__getattribute__"))
 gt:PySem.W.findIn K (.ref D) "__getattr__" = some none
 cl:PySem.W.findIn K (.ref D) "__class__" = some (some (.builtin "object.__class__"))
 ob:PySem.W.mroIn K D (.type "object")=some true
 be:PySem.W.mroIn K D (.type "BaseException")=some true
 kt:PySem.W.ktsIn K D "BaseException" = true
section
variable {prog:Program} {w:World} {A:Around} {E:Value->Shared->Prop} {s:Shared} {K:Frag} {a D:Addr} {oe:Obj} {vs:Array Value}
theorem qso {Q:Option Value->Shared->Prop} (X:K.In s.heap) (F:qqw K D) (he:s.heap.get? a=some oe) (hc:oe.cls=.ref D) (hd:oe.data=.fields vs) (hdx:∀ dx,oe.dict=some dx->∃ o,s.heap.get? dx=some o) (h:Q (some (.ref D)) { s with toks:=s.toks+1 }) :
  wpAny (model prog w) A (getAttr? (.ref a) "__class__") Q E s:=by
 obtain ⟨hh,g,d,t,os⟩:=s;have L0:PySem.W.Looks (model prog w) hh (typeOf (.ref a)) (.ref D):=hc ▸ (PySem.W.Looks.ld he).andThen .now;have L1:=PySem.W.looks_findIn (M:=model prog w) X F.ga;have L2':=PySem.W.looks_findIn (M:=model prog w) X F.gt;have L3:=PySem.W.looks_findIn (M:=model prog w) X F.cl;have L4:=PySem.W.looks_mroIn (M:=model prog w) X F.be;have f3:=(PySem.F.attr_ValueError).ga.bind (.ref a);have hx2:(Value.builtin "BaseException.__getattribute__" == Value.builtin "object.__getattribute__")=false:=by decide +kernel
 unfold getAttr? getAttrBy? getAttrBy;refine wpAny_bind (wpAny_mkText (wpAny_bind (wpAny_attempt (wpAny_holding (wpAny_bind (L0.at (wpAny_bind (L1.at ?_))))))));have hsel:(onTheHeap (Value.ref D) && Value.builtin "BaseException.__getattribute__" == Value.builtin "object.__getattribute__")=false:=by rw[hx2];rfl
 dsimp only;rw[if_neg (by rw[hsel];decide)];unfold getAttrByItsOwn;have hx0:(false && onTheHeap (Value.builtin "BaseException.__getattribute__"))=false:=rfl;unfold hookBefore;refine wpAny_bind ?_;rw[if_pos (show onTheHeap (Value.ref D)=true from rfl)];refine L2'.at ?_;refine wpAny_bind (wpAny_attempt (wpAny_holding ?_));unfold callGetattribute;rw[if_neg (by decide)];unfold boundAndCalled;rw[f3];refine wpAny_bind (wpAny_pure ?_);refine wpAny_call (codeAny_call_builtin PySem.F.attr_ValueError.ga.plain PySem.F.entry_bexc_ga ?_);have hk:builtinKind "BaseException.__getattribute__" = some .slot:=by decide +kernel
 have hsplit:splitId "BaseException.__getattribute__" = some ("BaseException", "__getattribute__"):=by decide +kernel
 have ha:=PySem.F.args_bexc_ga (.ref a) (.str "__class__" t);have hT5:(⟨hh,g,d,t,os⟩:Shared).TypeIs (.builtin "object.__class__") "getset_descriptor" :=PySem.F.typeOf_object_class;have f5:=PySem.F.typeOf_object_class;have f6:=PySem.F.slot_gs_get.lookup;have f7:=PySem.F.slot_gs_set.lookup;simp only[checkBuiltinCall,hk,hsplit];refine wpAny_bind ?_;unfold isInstance
 repeat (first|with_reducible refine L0.at ?_|with_reducible refine L4.at ?_|wp_step)
 refine L3.at ?_
 repeat (any_goals (first|assumption|with_reducible refine L0.at ?_|wp_step))
 obtain ⟨od,I⟩:∃ od,PySem.W.InstAt hh a oe D od:=by
  cases q:oe.dict with
  | none=>exact ⟨none,he,hc,by unfold PySem.W.notCls;rw[hd],by rw[q];trivial⟩
  | some dx =>
   obtain ⟨o,ho⟩:=hdx dx q;exact ⟨some o,he,hc,by unfold PySem.W.notCls;rw[hd],by rw[q];exact ho⟩
 refine PySem.W.class_get (s:=⟨hh,g,d,t+1,os⟩) (od:=od) X I F.ob ?_;refine wpAny_pure ?_;exact PySem.W.handed_on rfl (wpAny_pure h)
def qEi (a D:Addr) (h:Heap):Prop:=∃ oe vs,h.get? a=some oe/\oe.cls=.ref D/\oe.data=.fields vs/\∀ dx,oe.dict=some dx->∃ o,h.get? dx=some o
theorem qvg (F:qqw K D):PySem.W.KitX K (.ref a) (.ref D) (qEi a D) where
 ty:=λM h _ ⟨oe,vs,he,hc,_⟩=>hc ▸ (PySem.W.Looks.ld he).andThen .now
 it:=λ_ _ X _=>by
  obtain ⟨nm,qn,N,bs,bm,hdct,sn,sub,ab,col,dd,k0,k1,k2,k3,k5,newId,gD,_⟩:=PySem.W.kts_cls X F.kt;intro A' Q' E' s' k q;unfold isType loadHead;exact wpAny_bind (wpAny_loadPart (k _ _ gD) (wpAny_pure q))
 ne:=λh tp dd its n sl X htp=>by
  obtain ⟨nm,qn,N,bs,bm,hdct,sn,sub,ab,col,dd,k0,k1,k2,k3,k5,newId,gD,_⟩:=PySem.W.kts_cls X F.kt;refine Bool.eq_false_iff.mpr λq=>?_
  have e:D=tp:=Value.ref.inj (beq_iff_eq.mp q);subst e;rw[gD] at htp;have h2:=congrArg (Option.map Obj.cls) htp
  simp at h2
 ca:=λX ⟨oe,vs,he,hc,hd,hdx⟩ k=>qso X F he hc hd hdx k
end
def qCv:V->Value
 | .ref C=>.ref C
 | .ty T=>.type T
 | _=>.none
theorem qb4 {X:Cx} {K:Frag} (hK:X.K=K):CallR X (.builtin "isinstance") (λxs H Q=>∃ a D dd c b,xs=[.ref a,c]/\H a=some (qod a (.ref D) dd)/\qqw K D/\(∀ dx,dd=some dx->∃ fs,H dx=some (.xd fs))/\PySem.W.kitOne K (.ref D) (qCv c)=some b/\Q (.bl b) H):=by
 subst hK;intro pins s σ H xs us Q I r h;obtain ⟨a,D,dd,c,b,rfl,ha,F,hdd,e,q⟩:=h;obtain ⟨u,w',rfl,ru,rw'⟩:=vals2 r
 cases (show u=Value.ref a from ru)
 have hw:w'=qCv c:=by
  cases c<;>first|exact rw'|(exfalso;simp[PySem.W.kitOne,PySem.W.kitCls,qCv] at e)
 subst hw;obtain ⟨⟨oe,vs,he,hc,hdc,hd⟩,_⟩:=(show ObjOk X.prog X.w H s.heap a (qod a (.ref D) dd) from I.hok a _ ha);refine PySem.W.kia_one (qvg F) I.kIn ⟨oe,vs,he,hc,hd,λdx z=>?_⟩ e (λz=>nomatch z) λtk=>⟨.bl b,H,I.tok tk,rfl,q⟩
 obtain ⟨fs,hx⟩:=hdd dx (hdc.symm.trans z);exact (I.hok dx _ hx).there
open PySem PySem.Spec PyProof.Rows
section
variable {X:Cx}
theorem qie (hc:X.calm=true):CallR X (.builtin "max") (λxs H Q=>∃ (p:Addr) (ns:List Int),xs=[.ref p]/\SqL X.K H p (ns.map V.int)/\0<ns.length/\∀ m,m∈ns->(∀ a∈ns,a<=m)->Q (.int m) H):=by
 intro pins s σ H xs us Q I r h;obtain ⟨p,ns,rfl,hq,hne,q⟩:=h;obtain ⟨u,rfl,ru⟩:=vals1 r
 cases (show u=Value.ref p from ru)
 obtain ⟨its,rv,pl,hz⟩:=I.list hq;have hi:IntsAre its ns:=L2.intsAre_of rv;obtain ⟨ys,e⟩:=hi.allInts.items;have hns:ns=ys.toList.map (·.1):=by rw[<- hi.numsOf,<- nums_intItems,<- e]
 have hl:=pl.isList;rw[e] at hl;have hsz:0<ys.size:=by have h3:=hne;rw[hns,List.length_map,Array.length_toList] at h3;exact h3
 refine max_intList (I.ok.hd hc) hl hsz λv h' tk hv hk=>?_
 obtain ⟨t,rfl⟩:=intItems_at hv;obtain ⟨h1,h2⟩:=argBest_gt (numAt ys) (ys.size-1);refine ⟨.int _,H,I.kept hk,⟨t,rfl⟩,q _ ?_ λa ha=>?_⟩
 ·rw[hns,numAt_eq];exact getD_mem (by rw[List.length_map,Array.length_toList];omega)
 ·rw[hns] at ha
  obtain ⟨j,hj,rfl⟩:=mem_getD ha;rw[List.length_map,Array.length_toList] at hj;rw[<- numAt_eq];exact h2 j (by omega)
theorem qmh (hc:X.calm=true):CallR X (.builtin "min") (λxs H Q=>∃ (p:Addr) (ns:List Int),xs=[.ref p]/\SqL X.K H p (ns.map V.int)/\0<ns.length/\∀ m,m∈ns->(∀ a∈ns,m<=a)->Q (.int m) H):=by
 intro pins s σ H xs us Q I r h;obtain ⟨p,ns,rfl,hq,hne,q⟩:=h;obtain ⟨u,rfl,ru⟩:=vals1 r
 cases (show u=Value.ref p from ru)
 obtain ⟨its,rv,pl,hz⟩:=I.list hq;have hi:IntsAre its ns:=L2.intsAre_of rv;obtain ⟨ys,e⟩:=hi.allInts.items;have hns:ns=ys.toList.map (·.1):=by rw[<- hi.numsOf,<- nums_intItems,<- e]
 have hl:=pl.isList;rw[e] at hl;have hsz:0<ys.size:=by have h3:=hne;rw[hns,List.length_map,Array.length_toList] at h3;exact h3
 refine min_intList (I.ok.hd hc) hl hsz λv h' tk hv hk=>?_
 obtain ⟨t,rfl⟩:=intItems_at hv;obtain ⟨h1,h2⟩:=argBest_lt (numAt ys) (ys.size-1);refine ⟨.int _,H,I.kept hk,⟨t,rfl⟩,q _ ?_ λa ha=>?_⟩
 ·rw[hns,numAt_eq];exact getD_mem (by rw[List.length_map,Array.length_toList];omega)
 ·rw[hns] at ha
  obtain ⟨j,hj,rfl⟩:=mem_getD ha;rw[List.length_map,Array.length_toList] at hj;rw[<- numAt_eq];exact h2 j (by omega)
theorem qk5 {pins:List (Addr×Obj)} {σ:St} {H:Hp} {s:Shared} {vs:List Value} {out:Array Value} {ns:List Int} (I:Inv X pins σ H s) (hi:IntsAre out.toList ns) (hz:ns.length<=sizeLine) :
  Inv X pins σ (upd H (s.heap.objs.size+1) (.lst (ns.map V.int))) { s with heap:=sortedAll s.heap vs out }:=by
 obtain ⟨e,he⟩:=sortedAll_at s.heap vs out;refine I.laid (t':=s.toks) (λ_ _=>sortedAll_old) (Nat.le_succ _) ⟨by simpa using hz,out.toList,e,qh8 hi,?_⟩;rw[he]
theorem qoe:CallR X (.builtin "sorted") (λxs H Q=>∃ (p:Addr) (ns:List Int),xs=[.ref p]/\SqL X.K H p (ns.map V.int)/\ns.length<64/\∀ (ms:List Int) l H',ms.Perm ns->ms.Pairwise (· <= ·)->New H H' l (.lst (ms.map V.int))->Q (.ref l) H'):=by
 intro pins s σ H xs us Q I r h;obtain ⟨p,ns,rfl,hq,h64,q⟩:=h;obtain ⟨u,rfl,ru⟩:=vals1 r
 cases (show u=Value.ref p from ru)
 obtain ⟨its,rv,pl,hz⟩:=I.list hq;have hi:IntsAre its ns:=L2.intsAre_of rv;have hln:=hi.length;refine sorted_ints pl.isList hi (by omega) λout ms a1 a2 a3=>?_
 exact ⟨.ref _,_,qk5 I a1 (by rw[a2.length_eq];simpa using hz),rfl,q ms _ _ a2 a3 (qa8 (I.hok.fresh (Nat.le_succ _)))⟩
end
theorem qfj:bootBuiltins "max" = some (.builtin "max"):=by decide +kernel
theorem qo8:bootBuiltins "min" = some (.builtin "min"):=by decide +kernel
theorem qfk:bootBuiltins "sorted" = some (.builtin "sorted"):=by decide +kernel
theorem qsp {X:Cx} (hs:qga X):qoc X.nox (λ_ _ _ _=>False):=⟨hs,λ_ _ ⟨_,_,_,_,_,_,_,_,w⟩=>w⟩
open PySem PySem.Spec PyProof.Rows
theorem qx9 {H H':Hp} {a:Addr} {o:HO} (s:Same H H') (h:H a=some o):H' a=some o:=s _ _ h
theorem qAh {H H':Hp} {p a:Addr} {u o:HO} (n:New H H' p u) (h:H a=some o):H' a=some o:=n.same _ _ h
theorem qya {H H1 H2:Hp} {p:Addr} {u:HO} (a:Same H H1) (n:New H1 H2 p u):Same H H2:=a.trans n.same
open PySem PySem.Spec PyProof.Rows
section
variable {X:Cx} {e e1:Expr} {te t1:TE} {pos p2:Pos}
end
def qEj (J:St->Hp->Prop) (t u:TS):TS:=λD σ H=>t { D with nx:=J } σ H/\∀ σ' H',J σ' H'->u D σ' H'
theorem qyb {X:Cx} {st:Stmt} {rest:List Stmt} {t u:TS} (J:St->Hp->Prop) (h1:PS X st t) (h2:PSs X rest u):PSs X (st :: rest) (qEj J t u):=by
 intro pins s σ H D I h;refine wpAny_execs_cons (thn (h1 pins s σ H { D with nx:=J } I h.1) λf s1 q=>?_)
 cases f with
 | next =>
  obtain ⟨σ',H',I',q⟩:=q;exact h2 pins s1 σ' H' D I' (h.2 σ' H' q)
 | ret v=>exact q
 | brk=>exact q
 | cont=>exact q
open PySem PySem.Spec PyProof.Rows
section
variable {prog:Program} {w:World} {A:Around} {R:Result->Shared->Prop} {I:Addr} {fp wr:List Addr} {n:Nat} {P:Nat->Value->Prop} {St:Nat->Heap->Prop} {d:Value}
end
section
variable {X:Cx}
end
open PySem PyProof PyProof.Rows
section
variable {X:Cx}
end
open PySem PySem.Spec PyProof.Rows
theorem qsq:typeLookup (.type "list_reverseiterator") "__len__" = pure none:=by rw[typeLookup_type,builtinLookup_eq_fast];kernel_rfl
theorem qvh:typeLookup (.type "list_reverseiterator") "__length_hint__" = pure (some (.builtin "list_reverseiterator.__length_hint__")):=by rw[typeLookup_type,builtinLookup_eq_fast];kernel_rfl
abbrev RvP (items:Array Value):Nat->Value->Prop:=λi v=>items[items.size-1-i]?=some v
abbrev qwx (acc:Array Value) (c:Nat):Obj:={ cls:=.type "list",dict:=none,data:=.seq acc c,slots:=#[] }
section
variable {prog:Program} {w:World} {A:Around} {E:Value->Shared->Prop} {s:Shared}
abbrev qDp (prog:Program) (w:World) (A:Around) (R:Result->Shared->Prop):Fin->Shared->Prop:=λfin s'=>match fin with|.done f=>R (.ok f) s'|.again c'=>c'.quiet=true/\codeAny (model prog w) A c' R s'
theorem qyc {R:Result->Shared->Prop} {J l S:Addr} {items:Array Value} {res:Value} {c₀:Nat} (hh:A.handled=none) (hit:s.heap.IsRevIter J l ((items.size:Int)-1)) (hl:s.heap.IsList l items) (hne:l≠J) (hSl:S≠l) (hSJ:S≠J) (hn:items.size<=sizeLine) (hS:s.heap.get? S=some (qwx #[] c₀))
  (hR:∀ h' tk acc' c',(∀ b o,b≠S->b≠J->s.heap.get? b=some o->h'.get? b=some o)->h'.get? S=some (qwx acc' c')->ItemsOf (RvP items) acc' items.size->R (.ok (.ret res)) { s with heap:=h',toks:=tk }) :
  wpAny (model prog w) A.in1 (Builtin.List.listExtendWith (.ref S) (.ref J) res) (qDp prog w A R) (λe s'=>R (.error e) s') s:=by
 have W:=(Walks.listRev (prog:=prog) (w:=w) (A:=A.in1) hh J l hne items).toS;have hSf:S ∉ [J,l]:=λhm=>by
  simp only[List.mem_cons,List.not_mem_nil,or_false] at hm
  rcases hm with e|e
  ·exact hSJ e
  ·exact hSl e
 have hT:=hit.typeIs;unfold Builtin.List.listExtendWith;refine wpAny_bind (wpAny_typeOf hT ?_);have k1:Builtin.List.listSameRef (.ref S) (.ref J)=false:=by simp[Builtin.List.listSameRef,hSJ]
 have k2:(Value.type "list_reverseiterator" == Value.type "list")=false:=by decide
 have k3:(Value.type "list_reverseiterator" == Value.type "tuple")=false:=by decide
 simp only[k1,k2,k3,Bool.or_false,Bool.false_eq_true,if_false];refine wpAny_bind (wpAny_pyIter_revIter hit ?_);refine wpAny_bind (wpAny_holding ?_);unfold Builtin.List.listLengthHint;refine wpAny_bind (wpAny_specialOf hT qsq ?_)
 show wpAny _ A.in1 (specialOf (Value.ref J) (Str.ofString "__length_hint__") >>= _) _ _ s
 refine wpAny_bind (wpAny_specialOf hT qvh ?_)
 generalize hid:("list_reverseiterator.__length_hint__" : String)=id0
 wp_delta
 rw[show splitId id0=some ("list_reverseiterator", "__length_hint__") from by subst hid;decide +kernel];subst hid;refine wpAny_bind (wpAny_isInstance (T:= "list_reverseiterator") (b:=true) hT (by rw[isSubtype_type];kernel_rfl) ?_);refine wpAny_pure ?_;rw[if_neg (by decide)];refine wpAny_pure ⟨plainId_quiet F.plain_extend_loop _,codeAny_extend_loopS W hn S hSf res items.size 0 s #[] c₀ rfl (Nat.zero_le _) ⟨Nat.zero_le _,by simpa using hit,hl⟩ hS (ItemsOf.nil _) λs' acc' c' hm hS' hacc=>?_⟩;rw[Moved.eq_with hm];refine hR s'.heap s'.toks acc' c' (λb o hb hj e=>hm.heap b o (λz=>?_) e) hS' hacc;simp only[List.mem_cons,List.not_mem_nil,or_false] at z
 rcases z with z|z
 ·exact hb z
 ·exact hj z
theorem qvi {R:Result->Shared->Prop} {J l S:Addr} {items:Array Value} (hh:A.handled=none) (hit:s.heap.IsRevIter J l ((items.size:Int)-1)) (hl:s.heap.IsList l items) (hne:l≠J) (hSl:S≠l) (hSJ:S≠J) (hn:items.size<=sizeLine) (hS:s.heap.get? S=some (qwx #[] 0))
  (hR:∀ h' tk acc' c',(∀ b o,b≠S->b≠J->s.heap.get? b=some o->h'.get? b=some o)->h'.get? S=some (qwx acc' c')->ItemsOf (RvP items) acc' items.size->R (.ok (.ret .none)) { s with heap:=h',toks:=tk }) :
  wpAny (model prog w) A.in1 (Builtin.«list.__init__» ⟨[.ref S,.ref J],[]⟩) (qDp prog w A R) (λe s'=>R (.error e) s') s:=by
 show wpAny _ _ (do let old <- Builtin.List.listItems (.ref S);Builtin.List.listUpdate (.ref S) (λ_=>#[]);letGo old.toList.reverse;Builtin.List.listExtendWith (.ref S) (.ref J) .none) _ _ s
 refine wpAny_bind ?_;unfold Builtin.List.listItems;refine wpAny_bind (wpAny_seqItems hS rfl (wpAny_pure ?_))
 show wpAny _ _ (updateSeq S (λ_=>#[]) >>= λ_=>letGo (#[]:Array Value).toList.reverse >>= λ_=>Builtin.List.listExtendWith (.ref S) (.ref J) .none) _ _ s
 refine wpAny_bind (wpAny_updateSeq hS rfl ?_);have hS2:=Heap.get?_update_self (Obj.mapSeq (λ_=>(#[]:Array Value))) hS rfl;have oth:∀ b o,b≠S->s.heap.get? b=some o->(s.heap.update S (Obj.mapSeq (λ_=>(#[]:Array Value)))).get? b=some o:=λb o hb e=>(Heap.get?_update_other _ _ (Ne.symm hb)).trans e
 refine wpAny_bind (wpAny_letGo ?_);refine qyc hh (hit.at λo e=>oth J o (Ne.symm hSJ) e) (hl.at λo e=>oth l o (Ne.symm hSl) e) hne hSl hSJ hn hS2 λh' tk acc' c' hk hS' hacc=>?_
 exact hR h' tk acc' c' (λb o hb hj e=>hk b o hb hj (oth b o hb e)) hS' hacc
theorem qvj {Q:Value->Shared->Prop} {J l:Addr} {items:Array Value} (hh:A.handled=none) (hit:s.heap.IsRevIter J l ((items.size:Int)-1)) (hl:s.heap.IsList l items) (hne:l≠J) (hn:items.size<=sizeLine)
  (hQ:∀ h' tk acc' c',(∀ b o,b≠J->s.heap.get? b=some o->h'.get? b=some o)->h'.get? s.heap.objs.size=some (qwx acc' c')->ItemsOf (RvP items) acc' items.size->Q (.ref s.heap.objs.size) { s with heap:=h',toks:=tk }) :
  wpAny (model prog w) A (call (.type "list") [.ref J]) Q E s:=by
 refine callType_codes (Q₁:=λobj s₁=>obj=.ref s.heap.objs.size/\s₁={ s with heap:=s.heap.push (qwx #[] 0) }) F.called_list (F.typeCall_list_1 _) F.entry_list_init (code_list_new _ ⟨rfl,rfl⟩) λobj s₁ h₁=>?_
 obtain ⟨rfl,rfl⟩:=h₁;have hS:(s.heap.push (qwx #[] 0)).get? s.heap.objs.size=some (qwx #[] 0):=Heap.get?_push_size _ rfl;have hJ:s.heap.objs.size≠J:=by obtain ⟨o,ho,_⟩:=hit;exact Ne.symm (Nat.ne_of_lt (Heap.lt_size ho))
 have hL:s.heap.objs.size≠l:=by obtain ⟨o,ho,_⟩:=hl;exact Ne.symm (Nat.ne_of_lt (Heap.lt_size ho))
 refine ⟨⟨_,hS,rfl⟩,F.args_list_init_2 _ _,qvi (A:=A.in1) hh (hit.at λo e=>Heap.get?_push_of_some _ e) (hl.at λo e=>Heap.get?_push_of_some _ e) hne hL hJ hn hS λh' tk acc' c' hk hS' hacc=>?_⟩;exact ⟨rfl,hQ h' tk acc' c' (λb o hj e=>hk b o (Nat.ne_of_lt (Heap.lt_size e)) hj (Heap.get?_push_of_some _ e)) hS' hacc⟩
end
theorem qsr {items acc:Array Value} (h:ItemsOf (RvP items) acc items.size):acc.toList=items.toList.reverse:=by
 apply List.ext_getElem?
 intro i
 by_cases hi:i<acc.size
 ·have e:=h.2 i acc[i] (by simp[hi])
  have hi2:i<items.toList.length:=by rw[Array.length_toList,<- h.1];exact hi
  rw[List.getElem?_reverse hi2];have e2:acc.toList[i]?=some acc[i]:=by simp[hi]
  rw[e2,<- e]
  simp
 ·rw[List.getElem?_eq_none (by simpa using hi),List.getElem?_eq_none (by rw[List.length_reverse,Array.length_toList,<- h.1];exact Nat.not_lt.mp hi)]
section
variable {X:Cx}
def qvk (K:Frag) (te:TE):TE:=λσ H Q=>te σ H λx H1=>∃ a xs,x=.ref a/\SqL K H1 a xs/\∀ p H',New H1 H' p (.lst xs.reverse)->Q (.ref p) H'
theorem qqx {e:Expr} {te:TE} {p p1 pos pos1:Pos} (hc:X.calm=true) (hg:Gl X "list") (hm:X.mg "list" = none) (hg1:Gl X "reversed") (hm1:X.mg "reversed" = none) (ha:PE X e te)
  (hs:starEach [.Call (.Name "reversed" p1) [e] [] pos1] X.env=[(false,eval (.Call (.Name "reversed" p1) [e] [] pos1) X.env)]:=by rfl) (hs1:starEach [e] X.env=[(false,eval e X.env)]:=by rfl) :
  PE X (.Call (.Name "list" p) [.Call (.Name "reversed" p1) [e] [] pos1] [] pos) (qvk X.K te):=by
 intro pins s σ H Q I h;refine Call_ (qhx I hg hm qds (PyProof.Rows.callWith_type1 ?_ hs rfl));rw[hs]
 show wpAny _ _ (spliced ((false,eval (.Call (.Name "reversed" p1) [e] [] pos1) X.env) :: [])) _ _ s
 refine Calls.spliced_cons ?_;refine Call_ (qhx I hg1 hm1 (show bootBuiltins "reversed" = some (.type "reversed") by decide +kernel) (PyProof.Rows.callWith_type1 ?_ hs1 rfl));rw[hs1]
 show wpAny _ _ (spliced ((false,eval e X.env) :: [])) _ _ s
 refine Calls.spliced_cons (thn (ha pins s σ H _ I h) λu s1 ⟨x,H1,I1,r1,a,xs,ex,hq,q⟩=>Calls.spliced_nil ?_);subst ex
 cases (show u=Value.ref a from r1)
 obtain ⟨its,rv,pl,hz⟩:=I1.list hq;have hlen:=rv.length;refine call_reversed_list pl.isList (Calls.spliced_nil ?_);have hl:=pl.isList;have hJ:a≠s1.heap.objs.size:=by obtain ⟨o,ho,_⟩:=hl;exact Nat.ne_of_lt (Heap.lt_size ho)
 have hit:(s1.heap.push (revObj a ((its.toArray.size:Int)-1))).IsRevIter s1.heap.objs.size a ((its.toArray.size:Int)-1):=⟨_,Heap.get?_push_size _ rfl,rfl,rfl⟩;refine qvj (s:={ s1 with heap:=s1.heap.push (revObj a ((its.toArray.size:Int)-1)) }) (I.ok.hd hc) hit (hl.at λo e=>Heap.get?_push_of_some _ e) hJ (by rw[List.size_toArray];omega) λh' tk acc' c' hk hS' hacc=>?_
 have e3:acc'.toList=its.reverse:=by simpa using qsr hacc
 have kp:∀ b ob,s1.heap.get? b=some ob->h'.get? b=some ob:=λb ob e=>hk b ob (Nat.ne_of_lt (Heap.lt_size e)) (Heap.get?_push_of_some _ e)
 have hge:s1.heap.objs.size<=(s1.heap.push (revObj a ((its.toArray.size:Int)-1))).objs.size:=by rw[Heap.size_push];exact Nat.le_succ _
 refine ⟨.ref (s1.heap.push (revObj a ((its.toArray.size:Int)-1))).objs.size,_,I1.laid (t':=tk) (o:=.lst xs.reverse) kp hge ?_,rfl,q _ _ (qa8 (I1.hok.fresh hge))⟩;refine ⟨by simpa using hz,its.reverse,c',rv.reverse,?_⟩;rw[<- e3];exact hS'
end
open PySem PySem.Spec PyProof.Rows
def RawD (h:Heap) (d:Addr) (es:Array DictEntry) (ep:Nat):Prop:=∃ o,h.get? d=some o/\o.ExactDict/\o.data=.dict es ep
theorem RawD.ty {s:Shared} {d:Addr} {es:Array DictEntry} {ep:Nat} (x:RawD s.heap d es ep):s.TypeIs (.ref d) "dict" :=let ⟨o,a,b,_⟩:=x;⟨o,a,b.1⟩
theorem RawD.up {h h':Heap} {d:Addr} {es:Array DictEntry} {ep:Nat} (x:RawD h d es ep) (e:∀ o,h.get? d=some o->h'.get? d=some o):RawD h' d es ep:=let ⟨o,a,b⟩:=x;⟨o,e o a,b⟩
theorem RawD.lt {h:Heap} {d:Addr} {es:Array DictEntry} {ep:Nat} (x:RawD h d es ep):d<h.objs.size:=let ⟨_,a,_⟩:=x;Heap.lt_size a
section
variable {prog:Program} {w:World} {A:Around} {E:Value->Shared->Prop} {s:Shared}
abbrev qCw (d:Addr) (n ep:Nat):Obj:={ cls:=.type "dict_keyiterator",data:=.fields #[.ref d,.int 0 0,.int n 0,.int ep 0] }
theorem qyd {d:Addr} {es:Array DictEntry} {ep:Nat} {Q:Value->Shared->Prop} (lo:(d == sysModules)=false) (hm:RawD s.heap d es ep) (hQ:Q (.ref s.heap.objs.size) { s with heap:=s.heap.push (qCw d es.size ep) }) :
  wpAny (model prog w) A (pyIter (.ref d)) Q E s:=by
 have ty:=hm.ty;obtain ⟨o,h1,h2,h3⟩:=hm;refine wpAny_pyIter_slot ty F.slot_dict_iter (wpAny_call_entry F.slot_dict_iter ty F.entry_dict_iter ?_ (F.args_dict_iter_1 _));unfold Builtin.«dict.__iter__»;refine wpAny_bind ?_;unfold Builtin.Dict.dictSlotNone;refine wpAny_bind (wpAny_notOrdered_dict ty ?_)
 show wpAny _ _ (pure (Value.ref d)) _ _ s;refine wpAny_pure ?_
 show wpAny _ _ (Builtin.Dict.showsAll d >>= _) _ _ s;unfold Builtin.Dict.showsAll
 rw[if_neg (by rw[lo];exact Bool.false_ne_true)];refine wpAny_bind (wpAny_pure ?_);refine wpAny_bind (wpAny_dictEntries h1 h3 ?_);refine wpAny_bind (wpAny_dictEpoch h1 h3 ?_);refine wpAny_bind (wpAny_newObj_type (wpAny_pure ⟨_,rfl, "dict_keyiterator",_,⟨_,Heap.get?_push_size _ rfl,rfl⟩,F.slot_dict_keyiterator_next.lookup,?_⟩));simpa [rawInt] using hQ
theorem qye {it d:Addr} {i ep:Nat} {es:Array DictEntry} {Q:Option Value->Shared->Prop} (hJ:s.heap.IsKeyIter it d i es.size ep) (hm:RawD s.heap d es ep) (hx:i<es.size)
  (hQ:∀ h',h'.IsKeyIter it d (i+1) es.size ep->Heap.SameBut it s.heap h'->Q (some es[i].key) { s with heap:=h' }):wpAny (model prog w) A (pyNext (.ref it)) Q E s:=by
 obtain ⟨o,ho,hc,hd⟩:=id hJ;obtain ⟨od,h1,h2,h3⟩:=hm;have ty:=hJ.typeIs;unfold pyNext;refine wpAny_bind (wpAny_attempt (wpAny_callSpecial?_slot (name:=Str.ofString "__next__") ty F.slot_dict_keyiterator_next (wpAny_call_entry F.slot_dict_keyiterator_next ty F.entry_dict_keyiterator_next ?_ (F.args_dict_keyiterator_next_1 _))));refine wpAny_bind (wpAny_pure ?_);refine wpAny_bind ?_;refine wpAny_bind ?_
 first|refine wpAny_bind (wpAny_typeNameOfWhole_keyiter ty (wpAny_pure ?_))|refine wpAny_bind (wpAny_typeNameOf_keyiter ty (wpAny_pure ?_))
 refine wpAny_bind (wpAny_fieldsOf ho hd ?_);simp only[show Builtin.Dict_items.ownsTuple "dict_keyiterator" = false by decide,Bool.false_eq_true,if_false]
 show wpAny _ _ (if (Value.ref d == Value.none)=true then _ else _) _ _ s;rw[if_neg (show ¬ ((Value.ref d == Value.none)=true) from Bool.false_ne_true)]
 refine wpAny_bind (wpAny_pure ?_);refine wpAny_bind (wpAny_dictEntries h1 h3 ?_);rw[if_neg (by simp)];refine wpAny_bind (wpAny_pure ?_);refine wpAny_bind (wpAny_dictEpoch h1 h3 ?_);rw[if_neg (by simp)];refine wpAny_pure ?_;simp only[show ¬ ((i:Int)<0) from by omega,if_false,Int.toNat_natCast,Array.getElem?_eq_getElem hx];refine wpAny_bind ?_
 first|refine wpAny_bind (wpAny_typeNameOfWhole_keyiter ty (wpAny_pure ?_))|refine wpAny_bind (wpAny_typeNameOf_keyiter ty (wpAny_pure ?_))
 refine wpAny_bind (wpAny_isOneOf_keyiter ty ?_)
 show wpAny _ _ (setField (.ref it) 1 (rawInt ((i:Int)+1)) >>= _) _ _ s;refine wpAny_bind (wpAny_setField ho hd (by simp) ?_)
 have hJ':(s.heap.update it (Obj.mapFields (·.setIfInBounds 1 (rawInt ((i:Int)+1))))).IsKeyIter it d (i+1) es.size ep:=⟨_,Heap.get?_update_self _ ho (Obj.isFreed_of_fields (Obj.data_mapFields hd _)),(Obj.cls_mapFields ..).trans hc,by rw[Obj.data_mapFields hd];simp[rawInt]⟩;refine wpAny_bind (wpAny_holding ?_);refine wpAny_bind (wpAny_isOneOf_keyiter (s:={ s with heap:=s.heap.update it (Obj.mapFields (·.setIfInBounds 1 (rawInt ((i:Int)+1)))) }) hJ'.typeIs ?_)
 show wpAny _ _ (pure es[i].key) _ _ _
 exact wpAny_pure (wpAny_pure ⟨_,rfl,wpAny_pure (hQ _ hJ' (Heap.SameBut.update ..))⟩)
theorem qAi {it d:Addr} {ep:Nat} {es:Array DictEntry} {Q:Option Value->Shared->Prop} (hh:A.handled=none) (hJ:s.heap.IsKeyIter it d es.size es.size ep) (hm:RawD s.heap d es ep)
  (hQ:∀ h',Heap.ExtBut it s.heap h'->Q none { s with heap:=h' }):wpAny (model prog w) A (pyNext (.ref it)) Q E s:=by
 obtain ⟨o,ho,hc,hd⟩:=id hJ;obtain ⟨od,h1,h2,h3⟩:=hm;have ty:=hJ.typeIs;unfold pyNext;refine wpAny_bind (wpAny_attempt (wpAny_callSpecial?_slot (name:=Str.ofString "__next__") ty F.slot_dict_keyiterator_next (wpAny_call_entry F.slot_dict_keyiterator_next ty F.entry_dict_keyiterator_next ?_ (F.args_dict_keyiterator_next_1 _))));refine wpAny_bind (wpAny_pure ?_);refine wpAny_bind ?_;refine wpAny_bind ?_
 first|refine wpAny_bind (wpAny_typeNameOfWhole_keyiter ty (wpAny_pure ?_))|refine wpAny_bind (wpAny_typeNameOf_keyiter ty (wpAny_pure ?_))
 refine wpAny_bind (wpAny_fieldsOf ho hd ?_);simp only[show Builtin.Dict_items.ownsTuple "dict_keyiterator" = false by decide,Bool.false_eq_true,if_false]
 show wpAny _ _ (if (Value.ref d == Value.none)=true then _ else _) _ _ s;rw[if_neg (show ¬ ((Value.ref d == Value.none)=true) from Bool.false_ne_true)]
 refine wpAny_bind (wpAny_pure ?_);refine wpAny_bind (wpAny_dictEntries h1 h3 ?_);rw[if_neg (by simp)];refine wpAny_bind (wpAny_pure ?_);refine wpAny_bind (wpAny_dictEpoch h1 h3 ?_);rw[if_neg (by simp)];refine wpAny_pure ?_;simp only[show ¬ ((es.size:Int)<0) from by omega,if_false,Int.toNat_natCast,Array.getElem?_eq_none (Nat.le_refl _)];refine wpAny_bind ?_
 first|refine wpAny_bind (wpAny_typeNameOfWhole_keyiter ty (wpAny_pure ?_))|refine wpAny_bind (wpAny_typeNameOf_keyiter ty (wpAny_pure ?_))
 show wpAny _ _ (setField (.ref it) 0 .none >>= _) _ _ s;refine wpAny_bind (wpAny_setField ho hd (by simp) ?_)
 show wpAny _ _ (newExc (.type "StopIteration") [] >>= _) _ _ _;refine wpAny_bind ?_
 simp only[newExc,newTuple];refine wpAny_bind (wpAny_newObj_type ?_ (by size_fits));refine wpAny_bind (m:=firstArgMember _ _) (wpAny_of_eq (a:=Value.none) (by first|rfl|(simp only[firstArgMember];rfl)) ?_);refine wpAny_newObj_type ?_ (by size_fits);simp only[raiseNew];refine wpAny_bind (wpAny_handled ?_);rw[show A.in1.handled=none from hh];refine wpAny_bind (wpAny_pure (wpAny_throw ?_));refine wpAny_bind (wpAny_isInstance (T:= "StopIteration") (b:=true) ⟨_,Heap.get?_push_size _ rfl,rfl⟩ isSubtype_stop ?_);exact wpAny_pure (hQ _ (((Heap.SameBut.update ..).extBut.push _).push _))
theorem qvl (hh:A.handled=none) (J d:Addr) (hne:d≠J) (es:Array DictEntry) (ep:Nat) :
  Walks prog w A J [J,d] [J] es.size (λi v=>∃ e,es[i]?=some e/\v=e.key) (λi h=>h.IsKeyIter J d i es.size ep/\RawD h d es ep) where
 sub:=λb hb=>by simp at hb;simp[hb]
 frame:=λ_ _ _ st hk=>⟨st.1.at λo e=>hk J (by simp) o e,st.2.up λo e=>hk d (by simp) o e⟩
 item:=λi s Q E hi st hQ=>by
  refine qye st.1 st.2 hi λh' hJ' hs'=>?_
  exact hQ _ h' s.toks ⟨es[i],by simp[hi],rfl⟩ ⟨hJ',st.2.up λo e=>hs'.extBut d o hne e⟩ λb o hb e=>hs'.extBut b o (λh=>hb (by simp[h])) e
 done:=λs Q E st hQ=>qAi hh st.1 st.2 λh' he'=>hQ h' s.toks λb o hb e=>he' b o (λh=>hb (by simp[h])) e
 self:=λ_ _ _ _ st hQ=>wpAny_pyIter_keyiter st.1 hQ
theorem qAj {d:Addr} {es:Array DictEntry} {ep:Nat} (lo:(d == sysModules)=false):PySem.W.KdlSrc prog w "dict" d d es.size (λi v=>∃ e,es[i]?=some e/\v=e.key) (λh=>RawD h d es ep) where
 type:=λ_ hm=>hm.ty
 there:=λ_ hm=>⟨hm.lt,hm.lt⟩
 keep:=λ_ _ hm hk=>hm.up λo e=>hk d (.inl rfl) o e
 notList:=by decide
 notTuple:=by decide
 hint:=λ_ _ _ _ hm hq=>PySem.W.kdl_hint_dict hm.ty hq
 iter:=λ_ _ hh hm=>⟨_,_,(λ_ _ hq=>qyd lo hm hq),qvl hh _ d (Nat.ne_of_lt hm.lt) es ep,⟨⟨_,Heap.get?_push_size _ rfl,rfl,rfl⟩,hm.up λ_ e=>Heap.get?_push_of_some _ e⟩⟩
end
open PySem PySem.Spec PyProof.Rows
section
variable {prog:Program} {w:World} {A:Around} {E:Value->Shared->Prop} {s:Shared}
theorem qj7 {a:Addr} {vs:List Value} {n:Nat} {P:Fin->Shared->Prop} (ho:s.heap.get? a=some (seqObj "list" vs.toArray n)) (h2:vs.length<2)
  (h:P (.done (.ret .none)) { s with heap:=sortedHeap s.heap a vs ((vs.toArray.zip vs.toArray).map (·.2)) }):wpAny (model prog w) A (Builtin.«list.sort» ⟨[.ref a],[]⟩) P E s:=by
 rw[list_sort_plain];have la:a<s.heap.objs.size:=Heap.lt_size ho;refine wpAny_bind (listItems_at ho rfl ?_);refine wpAny_bind (listUpdate_at ho rfl ?_);obtain ⟨e1,h1⟩:∃ e1,(s.heap.update a (Obj.mapSeq λ_=>#[])).get? a=some (seqObj "list" #[] e1):=⟨_,get?_update_seq ho (λ_=>#[])⟩;refine wpAny_bind (seqEpoch_at h1 rfl ?_);refine wpAny_bind (wpAny_newTuple ?_);refine wpAny_bind (wpAny_newList ?_);refine wpAny_holding ?_;have h6:(((s.heap.update a (Obj.mapSeq λ_=>#[])).push (seqObj "tuple" vs.toArray 0)).push (seqObj "list" #[] 0)).get? a=some (seqObj "list" #[] e1):=by
  rw[Heap.get?_push_ne _ _ _ (by rw[size_push',Heap.size_update];exact Nat.ne_of_lt (Nat.lt_succ_of_lt la)),Heap.get?_push_ne _ _ _ (by rw[Heap.size_update];exact Nat.ne_of_lt la)];exact h1
 show wpAny (model prog w) A _ P E { s with heap:=((s.heap.update a (Obj.mapSeq λ_=>#[])).push (seqObj "tuple" vs.toArray 0)).push (seqObj "list" #[] 0) }
 dsimp only;have z2:vs.toArray.size<2:=by simpa using h2
 rw[if_pos z2,if_pos z2];refine wpAny_bind (wpAny_pure ?_);rw[StateT.run_pure];refine wpAny_bind (wpAny_pure ?_);dsimp only;refine wpAny_bind (seqEpoch_at h6 rfl ?_);refine wpAny_bind (listUpdate_at h6 rfl ?_ (hsz2:=by rw[Array.size_map];show (pairsOf vs).size<=_;rw[pairsOf_size,sizeLine_eq];omega));simp only[bne_self_eq_false,Bool.false_eq_true,if_false];exact wpAny_pure h
end
theorem qss (vs:List Value):(vs.toArray.zip vs.toArray).map (·.2)=vs.toArray:=by
 apply Array.ext'
 simpa using List.map_snd_zip (l₁:=vs) (l₂:=vs) (Nat.le_refl _)
section
variable {X:Cx}
end
open PySem PySem.Spec PyProof.Rows
section
variable {X:Cx} {tg:Expr}
end
section
variable {X:Cx}
inductive qst (K:Frag) (x y:V) (H:Hp) (Q:VK):Prop
 | mk:∀ a b xs ys,x=.ref a->y=.ref b->SqT K H a xs->SqT K H b ys->xs≠[]->ys≠[]->xs.length+ys.length<=sizeLine->(∀ p H',New H H' p (.tup (xs ++ ys))->Q (.ref p) H')->qst K x y H Q
def qo9 (K:Frag):R2:=λx y H Q=>qst K x y H Q
theorem qk6:OpR X (binaryOp .Add) (qo9 X.K):=op_catT.imp λ_ _ _ _ ⟨a,b,xs,ys,e1,e2,h1,h2,z,zy,hz,q⟩=>⟨a,b,xs,ys,e1,e2,h1,h2,z,hz,λe=>absurd e zy,λ_ p hp=>q p _ (qa8 hp)⟩
def qAk:TE:=λ_ H Q=>∀ p H',New H H' p (.dT [])->Q (.ref p) H'
theorem qpa {pos:Pos}:PE X (.Dict [] [] pos) qAk:=λpins s σ H Q I h=>qva pins s σ H Q I λp hp=>h p _ (qa8 hp)
end
open PySem PySem.Spec PyProof.Rows
end L2
namespace L2
theorem lq1 {α:Type} {us:List α} (h:us.length=1):∃ a,us=[a]:=by
 cases us with
 | nil=>cases h
 | cons a r=>exact ⟨a,by rw[List.length_eq_zero_iff.mp (Nat.succ.inj h)]⟩
theorem lq2 {α:Type} {us:List α} (h:us.length=2):∃ a0 a1,us=[a0,a1]:=by
 cases us with
 | nil=>cases h
 | cons a r=>obtain ⟨a1,e⟩:=lq1 (Nat.succ.inj h);exact ⟨a,a1,by rw[e]⟩
theorem lq3 {α:Type} {us:List α} (h:us.length=3):∃ a0 a1 a2,us=[a0,a1,a2]:=by
 cases us with
 | nil=>cases h
 | cons a r=>obtain ⟨a1,a2,e⟩:=lq2 (Nat.succ.inj h);exact ⟨a,a1,a2,by rw[e]⟩
theorem lq4 {α:Type} {us:List α} (h:us.length=4):∃ a0 a1 a2 a3,us=[a0,a1,a2,a3]:=by
 cases us with
 | nil=>cases h
 | cons a r=>obtain ⟨a1,a2,a3,e⟩:=lq3 (Nat.succ.inj h);exact ⟨a,a1,a2,a3,by rw[e]⟩
theorem lq5 {α:Type} {us:List α} (h:us.length=5):∃ a0 a1 a2 a3 a4,us=[a0,a1,a2,a3,a4]:=by
 cases us with
 | nil=>cases h
 | cons a r=>obtain ⟨a1,a2,a3,a4,e⟩:=lq4 (Nat.succ.inj h);exact ⟨a,a1,a2,a3,a4,by rw[e]⟩
open PySem PySem.Spec PyProof.Rows PySem.W
def KW (lt:Nat->Nat->Bool) (n:Nat) {α:Type}:KasT α->(α->Prop)->Prop
 | .ret a,Q=>Q a
 | .ask i j k,Q=>i<n/\j<n/\KW lt n (k (lt i j)) Q
theorem KW.bind {lt:Nat->Nat->Bool} {n:Nat} {α β:Type} {f:α->KasT β} {Q:β->Prop}:∀ {t:KasT α},KW lt n t (λa=>KW lt n (f a) Q)->KW lt n (t.bind f) Q
 | .ret a,h=>by rw[KasT.bind.eq_1];exact h
 | .ask i j k,h=>by
  rw[KasT.bind.eq_2];exact ⟨h.1,h.2.1,KW.bind h.2.2⟩
theorem KW.mono {lt:Nat->Nat->Bool} {n:Nat} {α:Type} {Q Q':α->Prop} (hq:∀ a,Q a->Q' a):∀ {t:KasT α},KW lt n t Q->KW lt n t Q'
 | .ret a,h=>hq a h
 | .ask i j k,h=>⟨h.1,h.2.1,KW.mono hq h.2.2⟩
theorem KW.run {lt:Nat->Nat->Bool} {n:Nat} {α:Type} {Q:α->Prop} {cmp:Nat->Nat->(Bool->Shared->Prop)->Shared->Prop} {s:Shared} (hc:∀ i j (C:Bool->Shared->Prop),i<n->j<n->C (lt i j) s->cmp i j C s) :
  ∀ {t:KasT α},KW lt n t Q->KasT.kasWp cmp t (λa s'=>s'=s/\Q a) s
 | .ret a,h=>by rw[KasT.kasWp.eq_1];exact ⟨rfl,h⟩
 | .ask i j k,h=>by
  rw[KasT.kasWp.eq_2];exact hc i j _ h.1 h.2.1 (KW.run hc h.2.2)
structure qDq (n:Nat) (lt:Nat->Nat->Bool):Prop where
 tot:∀ i j,i<n->j<n->i≠j->lt i j=false->lt j i=true
 tr:∀ i j k,i<n->j<n->k<n->lt i j=true->lt j k=true->lt i k=true
structure PermA (n:Nat) (p:Array Nat):Prop where
 sz:p.size=n
 perm:p.toList.Perm (List.range n)
theorem PermA.lt {n:Nat} {p:Array Nat} (h:PermA n p) {x:Nat} (hx:x<n):p.getD x 0<n:=by
 have hs:=h.sz;rw[Array.getD_eq_getD_getElem?,Array.getElem?_eq_getElem (by omega)];have:p[x]∈p.toList:=by simp
 exact List.mem_range.mp (h.perm.mem_iff.mp this)
theorem PermA.inj {n:Nat} {p:Array Nat} (h:PermA n p) {x y:Nat} (hx:x<n) (hy:y<n) (hne:x≠y):p.getD x 0≠p.getD y 0:=by
 have hs:=h.sz;have nd:p.toList.Nodup:=h.perm.nodup_iff.mpr List.nodup_range;rw[Array.getD_eq_getD_getElem?,Array.getElem?_eq_getElem (by omega),Array.getD_eq_getD_getElem?,Array.getElem?_eq_getElem (by omega)];intro e;have e':p.toList[x]'(by simpa using by omega)=p.toList[y]'(by simpa using by omega):=by simpa using e
 have pw:=List.pairwise_iff_getElem.mp nd
 rcases Nat.lt_or_gt_of_ne hne with h1|h1
 ·exact pw x y (by simpa using by omega) (by simpa using by omega) h1 e'
 ·exact pw y x (by simpa using by omega) (by simpa using by omega) h1 e'.symm
theorem PermA.of {n:Nat} {p q:Array Nat} (h:PermA n p) (hq:q.Perm p):PermA n q:=by
 have e:q.toList.Perm p.toList:=Array.perm_iff_toList_perm.mp hq;exact ⟨by have:=e.length_eq;simpa [h.sz] using this,e.trans h.perm⟩
def Asc (lt:Nat->Nat->Bool) (p:Array Nat) (b:Nat):Prop:=∀ x y,x<y->y<b->lt (p.getD x 0) (p.getD y 0)=true
structure OrdW (n:Nat) (lt:Nat->Nat->Bool):Prop where
 as_:∀ i j,i<n->j<n->lt i j=true->lt j i=false
 tr:∀ i j k,i<n->j<n->k<n->lt j i=false->lt k j=false->lt k i=false
theorem OrdW.irr {n:Nat} {lt:Nat->Nat->Bool} (O:OrdW n lt) {i:Nat} (h:i<n):lt i i=false:=by
 cases e:lt i i with
 | false=>rfl
 | true=>rw[<- e];exact O.as_ i i h h e
def qrm (lt:Nat->Nat->Bool) (p:Array Nat) (b:Nat):Prop:=∀ x y,x<y->y<b->lt (p.getD y 0) (p.getD x 0)=false
def qup (lt:Nat->Nat->Bool) (p:Array Nat) (b:Nat):Prop:=∀ x y,x<y->y<b->lt (p.getD x 0) (p.getD y 0)=false
def qk7 (lt:Nat->Nat->Bool) (p:Array Nat) (i j:Nat):Prop:=∀ a b,i<=a->a<j->i<=b->b<j->lt (p.getD a 0) (p.getD b 0)=false
section
variable {lt:Nat->Nat->Bool} {n:Nat}
theorem qof (O:OrdW n lt) {p:Array Nat} (hp:PermA n p):∀ (f x:Nat),1<=x->x+f<=n->qrm lt p x->KW lt n (kas_asc p f x) (λm=>x<=m/\m<=x+f/\qrm lt p m/\(m=x+f\/lt (p.getD m 0) (p.getD (m-1) 0)=true))
 | 0,x,h1,hx,ha=>by rw[kas_asc.eq_1];exact ⟨Nat.le_refl _,Nat.le_refl _,ha,.inl rfl⟩
 | f+1,x,h1,hx,ha=>by
  rw[kas_asc.eq_2];refine ⟨hp.lt (by omega),hp.lt (by omega),?_⟩
  cases e:lt (p.getD x 0) (p.getD (x-1) 0) with
  | true=>dsimp only;rw[if_pos rfl];exact ⟨Nat.le_refl _,by omega,ha,.inr e⟩
  | false =>
   dsimp only;rw[if_neg Bool.false_ne_true];refine KW.mono (λm hm=>?_) (qof O hp f (x+1) (by omega) (by omega) ?_)
   ·obtain ⟨m1,m2,m3,m4⟩:=hm
    exact ⟨by omega,by omega,m3,m4.imp (λz=>by omega) id⟩
   ·intro a b hab hb
    by_cases hbx:b=x
    ·subst hbx
     by_cases hax:a=b-1
     ·subst hax;exact e
     ·exact O.tr _ _ _ (hp.lt (by omega)) (hp.lt (by omega)) (hp.lt (by omega)) (ha a (b-1) (by omega) (by omega)) e
    ·exact ha a b hab (by omega)
theorem qk8 {p:Array Nat} (hp:PermA n p) {i m x:Nat} (hm:m<=n):(kas_rev p i m).getD x 0=if i<=x/\x<m then p.getD (i+m-1-x) 0 else p.getD x 0:=by
 have hs:=hp.sz;unfold kas_rev;rw[Array.getD_eq_getD_getElem?,getElem?_mirror_all (by omega)]
 split<;>rw[Array.getD_eq_getD_getElem?]
theorem qd7 {p:Array Nat} (hp:PermA n p) (i m:Nat):PermA n (kas_rev p i m):=hp.of (mirror_perm _ _ _ _)
theorem qpb (O:OrdW n lt) {p:Array Nat} (hp:PermA n p) {i m:Nat} (hm:m<=n) (hs:qk7 lt p i m) {a:Nat} (ha:a<n):lt ((kas_rev p i m).getD a 0) (p.getD a 0)=false/\lt (p.getD a 0) ((kas_rev p i m).getD a 0)=false:=by
 rw[qk8 hp hm]
 split
 ·exact ⟨hs _ _ (by omega) (by omega) (by omega) (by omega),hs _ _ (by omega) (by omega) (by omega) (by omega)⟩
 ·exact ⟨O.irr (hp.lt ha),O.irr (hp.lt ha)⟩
theorem qsu (O:OrdW n lt) {p:Array Nat} (hp:PermA n p) {i m:Nat} (hm:m<=n) (hs:qk7 lt p i m) {a b:Nat} (ha:a<n) (hb:b<n) (h:lt (p.getD a 0) (p.getD b 0)=false):lt ((kas_rev p i m).getD a 0) ((kas_rev p i m).getD b 0)=false:=by
 have hq:=qd7 hp i m;have h1:=qpb O hp hm hs ha;have h2:=qpb O hp hm hs hb;exact O.tr _ _ _ (hq.lt hb) (hp.lt ha) (hq.lt ha) (O.tr _ _ _ (hq.lt hb) (hp.lt hb) (hp.lt ha) h2.2 h) h1.1
theorem qsv (O:OrdW n lt) {p:Array Nat} (hp:PermA n p) {i m x:Nat} (hm:m<=n) (hx:x<=n) (hs:qk7 lt p i m) (h:qup lt p x):qup lt (kas_rev p i m) x:=
 λa b hab hb=>qsu O hp hm hs (by omega) (by omega) (h a b hab hb)
theorem qho (O:OrdW n lt):∀ (f:Nat) (p:Array Nat) (x q:Nat),PermA n p->2<=x->x+f<=n->q+1<=x->qup lt p x->qk7 lt p (x-(q+1)) x ->
  KW lt n (kas_desc f p x q) (λr=>PermA n r.1/\x<=r.2.1/\r.2.1<=x+f/\r.2.2+1<=r.2.1/\qup lt r.1 r.2.1/\qk7 lt r.1 (r.2.1-(r.2.2+1)) r.2.1)
 | 0,p,x,q,hp,h1,hx,hq,ha,hs=>by rw[kas_desc.eq_1];exact ⟨hp,Nat.le_refl _,Nat.le_refl _,hq,ha,hs⟩
 | f+1,p,x,q,hp,h1,hx,hq,ha,hs=>by
  rw[kas_desc.eq_2];refine ⟨hp.lt (by omega),hp.lt (by omega),?_⟩;have fin:∀ {t:KasT (Array Nat×Nat×Nat)},KW lt n t (λr=>PermA n r.1/\x+1<=r.2.1/\r.2.1<=x+1+f/\r.2.2+1<=r.2.1/\qup lt r.1 r.2.1/\qk7 lt r.1 (r.2.1-(r.2.2+1)) r.2.1)->KW lt n t (λr=>PermA n r.1/\x<=r.2.1/\r.2.1<=x+(f+1)/\r.2.2+1<=r.2.1/\qup lt r.1 r.2.1/\qk7 lt r.1 (r.2.1-(r.2.2+1)) r.2.1):=λh=>KW.mono (λr ⟨r1,r2,r3,r4,r5,r6⟩=>⟨r1,by omega,by omega,r4,r5,r6⟩) h
  have one:∀ (p':Array Nat),PermA n p'->qup lt p' x->lt (p'.getD (x-1) 0) (p'.getD x 0)=false->qup lt p' (x+1):=λp' hp' hd e a b hab hb=>by
   by_cases hbx:b=x
   ·subst hbx
    by_cases hax:a=b-1
    ·subst hax;exact e
    ·exact O.tr _ _ _ (hp'.lt (by omega)) (hp'.lt (by omega)) (hp'.lt (by omega)) e (hd a (b-1) (by omega) (by omega))
   ·exact hd a b hab (by omega)
  have seg1:∀ (p':Array Nat),PermA n p'->qk7 lt p' (x+1-(0+1)) (x+1):=λp' hp' a b h1 h2 h3 h4=>by
   have ea:a=x:=by omega
   have eb:b=x:=by omega
   rw[ea,eb];exact O.irr (hp'.lt (by omega))
  cases e:lt (p.getD x 0) (p.getD (x-1) 0) with
  | true =>
   have e2:=O.as_ _ _ (hp.lt (by omega)) (hp.lt (by omega)) e;dsimp only;rw[if_pos rfl]
   by_cases hq0:q>0
   ·rw[if_pos hq0]
    have hp':=qd7 hp (x-(q+1)) x;refine fin (qho O f _ (x+1) 0 hp' (by omega) (by omega) (by omega) (one _ hp' (qsv O hp (by omega) (by omega) hs ha) ?_) (seg1 _ hp'));exact qsu O hp (by omega) hs (by omega) (by omega) e2
   ·rw[if_neg hq0]
    exact fin (qho O f _ (x+1) 0 hp (by omega) (by omega) (by omega) (one _ hp ha e2) (seg1 _ hp))
  | false =>
   dsimp only;rw[if_neg Bool.false_ne_true];refine ⟨hp.lt (by omega),hp.lt (by omega),?_⟩
   cases e2:lt (p.getD (x-1) 0) (p.getD x 0) with
   | true =>
    dsimp only;rw[if_pos rfl];exact ⟨hp,Nat.le_refl _,(show x<=x+(f+1) by omega),hq,ha,hs⟩
   | false =>
    dsimp only;rw[if_neg Bool.false_ne_true];refine fin (qho O f _ (x+1) (q+1) hp (by omega) (by omega) (by omega) (one _ hp ha e2) ?_);have key:∀ a,x-(q+1)<=a->a<=x->lt (p.getD a 0) (p.getD x 0)=false/\lt (p.getD x 0) (p.getD a 0)=false:=λa h1 h2=>by
     by_cases hax:a=x
     ·rw[hax];exact ⟨O.irr (hp.lt (by omega)),O.irr (hp.lt (by omega))⟩
     ·have f1:=hs a (x-1) (by omega) (by omega) (by omega) (by omega)
      have f2:=hs (x-1) a (by omega) (by omega) (by omega) (by omega);exact ⟨O.tr _ _ _ (hp.lt (by omega)) (hp.lt (by omega)) (hp.lt (by omega)) e2 f1,O.tr _ _ _ (hp.lt (by omega)) (hp.lt (by omega)) (hp.lt (by omega)) f2 e⟩
    intro a b h1 h2 h3 h4;exact O.tr _ _ _ (hp.lt (by omega)) (hp.lt (show x<n by omega)) (hp.lt (by omega)) (key b (by omega) (by omega)).2 (key a (by omega) (by omega)).1
theorem qgn (O:OrdW n lt) {p:Array Nat} (hp:PermA n p) {m:Nat} (h1:1<=m) (hm:m<n) (hd:qup lt p (m+1)):KW lt n (kas_descPart m n p) (λr=>PermA n r.2/\1<=r.1/\r.1<=n/\qrm lt r.2 r.1):=by
 unfold kas_descPart;have tail:∀ {q:Array Nat} {x:Nat},PermA n q->1<=x->x<=n->qup lt q x->KW lt n (kas_tail3 x n q) (λr=>PermA n r.2/\1<=r.1/\r.1<=n/\qrm lt r.2 r.1):=fun {q x} hq hx1 hxn hdq=>by
  unfold kas_tail3;have hq':=qd7 hq 0 x;refine KW.bind (KW.mono (λm' hm'=>?_) (qof O hq' (n-x) x hx1 (by omega) ?_))
  ·obtain ⟨a1,a2,a3,_⟩:=hm'
   exact ⟨hq',by show 1<=m';omega,by show m'<=n;omega,a3⟩
  ·intro a b hab hb
   rw[qk8 hq hxn,qk8 hq hxn,if_pos ⟨Nat.zero_le _,hb⟩,if_pos ⟨Nat.zero_le _,by omega⟩];exact hdq _ _ (by omega) (by omega)
 refine KW.bind (KW.mono (λr hr=>?_) (qho O (n-(m+1)) p (m+1) 0 hp (by omega) (by omega) (by omega) hd (λa b h1 h2 h3 h4=>?_)))
 ·obtain ⟨r1,r2,r3,r4,r5,r6⟩:=hr
  by_cases hq:r.2.2>0
  ·rw[if_pos hq]
   exact tail (qd7 r1 _ _) (by omega) (by omega) (qsv O r1 (by omega) (by omega) r6 r5)
  ·rw[if_neg hq]
   exact tail r1 (by omega) (by omega) r5
 ·have ea:a=m:=by omega
  have eb:b=m:=by omega
  rw[ea,eb];exact O.irr (hp.lt hm)
theorem qsw (O:OrdW n lt) {p:Array Nat} (hp:PermA n p) (hn:2<=n):KW lt n (kas_count n p) (λr=>PermA n r.2/\1<=r.1/\r.1<=n/\qrm lt r.2 r.1):=by
 rw[kas_count.eq_1];refine KW.bind (KW.mono (λm hm=>?_) (qof O hp (n-1) 1 (Nat.le_refl _) (by omega) (λx y h1 h2=>by omega)));obtain ⟨m1,m2,m3,m4⟩:=hm
 by_cases hmn:m=n
 ·rw[if_pos (by simpa using hmn)]
  exact ⟨hp,by omega,by omega,m3⟩
 ·rw[if_neg (by simpa using hmn)]
  have d0:lt (p.getD m 0) (p.getD (m-1) 0)=true:=by
   rcases m4 with z|z
   ·omega
   ·exact z
  have d1:=O.as_ _ _ (hp.lt (by omega)) (hp.lt (by omega)) d0
  by_cases h1:m>1
  ·rw[if_pos h1]
   refine ⟨hp.lt (by omega),hp.lt (by omega),?_⟩
   cases e:lt (p.getD 0 0) (p.getD (m-1) 0) with
   | true =>
    dsimp only;rw[if_pos rfl];exact ⟨hp,by omega,by omega,m3⟩
   | false =>
    dsimp only;rw[if_neg Bool.false_ne_true];have le:∀ a b,a<=b->b<m->lt (p.getD b 0) (p.getD a 0)=false:=λa b hab hb=>by
     by_cases z:a=b
     ·rw[z];exact O.irr (hp.lt (by omega))
     ·exact m3 a b (by omega) hb
    have hs:qk7 lt p 0 m:=λa b _ ha _ hb=>by
     exact O.tr _ _ _ (hp.lt (by omega)) (hp.lt (show 0<n by omega)) (hp.lt (by omega)) (O.tr _ _ _ (hp.lt (by omega)) (hp.lt (show m-1<n by omega)) (hp.lt (by omega)) (le b (m-1) (by omega) (by omega)) e) (le 0 a (by omega) ha)
    refine qgn O (qd7 hp 0 m) (by omega) (by omega) λa b hab hb=>qsu O hp (by omega) hs (by omega) (by omega) ?_
    by_cases hbm:b=m
    ·rw[hbm]
     exact O.tr _ _ _ (hp.lt (by omega)) (hp.lt (show m-1<n by omega)) (hp.lt (by omega)) d1 (hs a (m-1) (by omega) (by omega) (by omega) (by omega))
    ·exact hs a b (by omega) (by omega) (by omega) (by omega)
  ·rw[if_neg h1]
   have em:m=1:=by omega
   subst em;refine qgn O hp (Nat.le_refl _) (by omega) λa b hab hb=>?_
   have ea:a=0:=by omega
   have eb:b=1:=by omega
   rw[ea,eb];exact d1
theorem qif (O:OrdW n lt) {p:Array Nat} (hp:PermA n p) {k:Nat} (hk:k<n) (ha:qrm lt p k):∀ (f lo hi:Nat),lo<=hi->hi<=k->hi-lo<=f->(∀ j,j<lo->lt (p.getD k 0) (p.getD j 0)=false)->(∀ j,hi<=j->j<k->lt (p.getD j 0) (p.getD k 0)=false) ->
  KW lt n (kas_place p k f lo hi) (λl=>l<=k/\(∀ j,j<l->lt (p.getD k 0) (p.getD j 0)=false)/\∀ j,l<=j->j<k->lt (p.getD j 0) (p.getD k 0)=false)
 | 0,lo,hi,h1,h2,h3,h4,h5=>by
  rw[kas_place.eq_1];exact ⟨by omega,h4,λj hj=>h5 j (by omega)⟩
 | f+1,lo,hi,h1,h2,h3,h4,h5=>by
  rw[kas_place.eq_2]
  by_cases hlt:lo ≥ hi
  ·rw[if_pos hlt]
   exact ⟨by omega,h4,λj hj=>h5 j (by omega)⟩
  ·rw[if_neg hlt]
   refine ⟨hp.lt hk,hp.lt (by omega),?_⟩;have le:∀ a b,a<=b->b<k->lt (p.getD b 0) (p.getD a 0)=false:=λa b hab hb=>by
    by_cases z:a=b
    ·rw[z];exact O.irr (hp.lt (by omega))
    ·exact ha a b (by omega) hb
   cases e:lt (p.getD k 0) (p.getD ((lo+hi) / 2) 0) with
   | true =>
    dsimp only;rw[if_pos rfl];have e2:=O.as_ _ _ (hp.lt hk) (hp.lt (by omega)) e;refine qif O hp hk ha f lo ((lo+hi) / 2) (by omega) (by omega) (by omega) h4 λj hj hjk=>?_
    exact O.tr _ _ _ (hp.lt hk) (hp.lt (by omega)) (hp.lt (by omega)) e2 (le _ j hj hjk)
   | false =>
    dsimp only;rw[if_neg Bool.false_ne_true];refine qif O hp hk ha f ((lo+hi) / 2+1) hi (by omega) h2 (by omega) (λj hj=>?_) h5;exact O.tr _ _ _ (hp.lt (by omega)) (hp.lt (show (lo+hi) / 2<n by omega)) (hp.lt hk) (le j _ (by omega) (by omega)) e
theorem qsx (O:OrdW n lt):∀ (f:Nat) (p:Array Nat) (k:Nat),PermA n p->1<=k->k+f=n->qrm lt p k->KW lt n (kas_bin f p k) (λq=>PermA n q/\qrm lt q n)
 | 0,p,k,hp,h1,hk,ha=>by
  rw[kas_bin.eq_1];have:k=n:=by omega
  subst this;exact ⟨hp,ha⟩
 | f+1,p,k,hp,h1,hk,ha=>by
  rw[kas_bin.eq_2];have hkn:k<n:=by omega
  have hs:=hp.sz;refine KW.bind (KW.mono (λl hl=>?_) (qif O hp hkn ha k 0 k (Nat.zero_le _) (Nat.le_refl _) (by omega) (λj hj=>by omega) (λj h1 h2=>by omega)));obtain ⟨l1,l2,l3⟩:=hl;have hq:PermA n (bubble p k (k-l)):=hp.of (bubble_perm _ _ _);refine qsx O f _ (k+1) hq (by omega) (by omega) ?_;have hg:∀ x,(bubble p k (k-l)).getD x 0=if x=l then p.getD k 0 else if l<x/\x<=k then p.getD (x-1) 0 else p.getD x 0:=λx=>by
   rw[Array.getD_eq_getD_getElem?,getElem?_bubble (by omega) (k-l) (by omega),show k-(k-l)=l by omega]
   split
   ·rw[Array.getD_eq_getD_getElem?]
   ·split<;>rw[Array.getD_eq_getD_getElem?]
  intro x y hxy hy;rw[hg x,hg y]
  by_cases hx:x=l
  ·rw[if_pos hx,if_neg (by omega),if_pos ⟨by omega,by omega⟩]
   exact l3 _ (by omega) (by omega)
  ·rw[if_neg hx]
   by_cases hy2:y=l
   ·rw[if_pos hy2,if_neg (by omega)]
    exact l2 _ (by omega)
   ·rw[if_neg hy2]
    by_cases hx3:l<x/\x<=k
    ·rw[if_pos hx3,if_pos ⟨by omega,by omega⟩]
     exact ha _ _ (by omega) (by omega)
    ·rw[if_neg hx3]
     by_cases hy3:l<y/\y<=k
     ·rw[if_pos hy3]
      exact ha _ _ (by omega) (by omega)
     ·rw[if_neg hy3]
      exact ha _ _ hxy (by omega)
theorem qpc (O:OrdW n lt) (hn:2<=n):KW lt n (kas_sort n) (λq=>PermA n q/\qrm lt q n):=by
 unfold kas_sort;have hp:PermA n (List.range n).toArray:=⟨by simp,by simp⟩;refine KW.bind (KW.mono (λr hr=>?_) (qsw O hp hn));obtain ⟨r1,r2,r3,r4⟩:=hr
 by_cases h:r.1<n
 ·rw[if_pos h,Nat.max_eq_left r2]
  exact qsx O _ _ _ r1 r2 (by omega) r4
 ·rw[if_neg h]
  have e:r.1=n:=by omega
  rw[e] at r4;exact ⟨r1,r4⟩
end
theorem qyf {lt:Nat->Nat->Bool} {n:Nat} (O:qDq n lt) (W:OrdW n lt) (hn:2<=n):KW lt n (kas_sort n) (λq=>PermA n q/\Asc lt q n):=KW.mono (λ_ h=>⟨h.1,λx y hxy hy=>O.tot _ _ (h.1.lt hy) (h.1.lt (by omega)) (h.1.inj hy (by omega) (by omega)) (h.2 x y hxy hy)⟩) (qpc W hn)
open PySem PySem.Spec PyProof.Rows PySem.W
def blt:List Int->List Int->Bool
 | [],[]=>false
 | [],_ :: _=>true
 | _ :: _,[]=>false
 | a :: r,b :: t=>if a=b then blt r t else decide (a<b)
theorem qe7:∀ (k l:List Int),k≠l->blt k l=false->blt l k=true
 | [],[],h,_=>absurd rfl h
 | [],_ :: _,_,h=>by simp[blt] at h
 | _ :: _,[],_,_=>rfl
 | a :: r,b :: t,h,e=>by
  unfold blt at e ⊢
  by_cases hab:a=b
  ·subst hab
   rw[if_pos rfl] at e ⊢;exact qe7 r t (λz=>h (by rw[z])) e
  ·rw[if_neg hab] at e
   rw[if_neg (λz=>hab z.symm)]
   simp at e ⊢
   omega
theorem qj8:∀ (k l m:List Int),blt k l=true->blt l m=true->blt k m=true
 | [],[],_,h,_=>by simp[blt] at h
 | _ :: _,[],_,h,_=>by simp[blt] at h
 | [],_ :: _,[],_,h=>by simp[blt] at h
 | _ :: _,_ :: _,[],_,h=>by simp[blt] at h
 | [],_ :: _,_ :: _,_,_=>rfl
 | a :: r,b :: t,c :: u,h1,h2=>by
  unfold blt at h1 h2 ⊢
  by_cases hab:a=b
  ·subst hab
   rw[if_pos rfl] at h1
   by_cases hbc:a=c
   ·subst hbc
    rw[if_pos rfl] at h2 ⊢;exact qj8 r t u h1 h2
   ·rw[if_neg hbc] at h2 ⊢
    exact h2
  ·rw[if_neg hab] at h1
   by_cases hbc:b=c
   ·subst hbc
    rw[if_neg hab];exact h1
   ·rw[if_neg hbc] at h2
    simp at h1 h2
    rw[if_neg (by omega)]
    simp;omega
theorem qig:∀ k:List Int,blt k k=false
 | []=>rfl
 | a :: r=>by unfold blt;rw[if_pos rfl];exact qig r
def ltK (ks:List (List Int)) (i j:Nat):Bool:=blt (ks.getD i []) (ks.getD j [])
theorem qEk (ks:List (List Int)) (nd:ks.Nodup):qDq ks.length (ltK ks) where
 tot:=λi j hi hj hne e=>by
  refine qe7 _ _ (λz=>?_) e;rw[List.getD_eq_getElem?_getD,List.getD_eq_getElem?_getD,List.getElem?_eq_getElem hi,List.getElem?_eq_getElem hj] at z;have pw:=List.pairwise_iff_getElem.mp nd
  rcases Nat.lt_or_gt_of_ne hne with h|h
  ·exact pw i j hi hj h z
  ·exact pw j i hj hi h z.symm
 tr:=λi j k _ _ _ h1 h2=>qj8 _ _ _ h1 h2
theorem qwy {k l:List Int} (h:blt k l=true):blt l k=false:=by
 cases e:blt l k with
 | false=>rfl
 | true =>
  have:=qj8 k l k h e;rw[qig] at this;cases this
theorem qAl {k l m:List Int} (h1:blt l k=false) (h2:blt m l=false):blt m k=false:=by
 by_cases e1:k=l
 ·rw[e1];exact h2
 ·by_cases e2:l=m
  ·rw[<- e2];exact h1
  ·exact qwy (qj8 _ _ _ (qe7 _ _ (λz=>e1 z.symm) h1) (qe7 _ _ (λz=>e2 z.symm) h2))
theorem qAm (ks:List (List Int)):OrdW ks.length (ltK ks):=⟨λ_ _ _ _ h=>qwy h,λ_ _ _ _ _ _ h1 h2=>qAl h1 h2⟩
def qsy (h:Heap) (v:Value) (k:List Int):Prop:=∃ b o xs e,v=.ref b/\h.get? b=some o/\o.cls=.type "tuple" /\ o.data=.seq xs e/\Vals (k.map V.int) xs.toList
section
variable {prog:Program} {w:World} {A:Around} {E:Value->Shared->Prop} {s:Shared}
theorem qpd {b fin:Bool} {Q:Bool->Shared->Prop}:∀ (k l:List Int) (us ws:List Value) (i:Nat),Vals (k.map V.int) us->Vals (l.map V.int) ws->fin=decide (k.length<l.length)->Q (blt k l) s->KatLex prog w A b fin Q (us.zip ws) i s
 | [],l,us,ws,i,hu,hw,hf,q=>by
  cases us with
  | cons _ _=>exact absurd hu.length (by simp)
  | nil =>
   rw[List.zip_nil_left];refine kat_nil ?_;rw[hf]
   cases l with
   | nil=>exact q
   | cons _ _=>exact q
 | x :: k,[],us,ws,i,hu,hw,hf,q=>by
  cases ws with
  | cons _ _=>exact absurd hw.length (by simp)
  | nil =>
   rw[List.zip_nil_right];refine kat_nil ?_;rw[hf];exact q
 | x :: k,y :: l,us,ws,i,hu,hw,hf,q=>by
  cases us with
  | nil=>exact absurd hu.length (by simp)
  | cons u us =>
   cases ws with
   | nil=>exact absurd hw.length (by simp)
   | cons v ws =>
    rw[List.map_cons] at hu hw
    cases hu with
    | cons hx hu =>
     cases hw with
     | cons hy hw =>
      obtain ⟨t,rfl⟩:=(show ∃ t,u=Value.int x t from hx);obtain ⟨t',rfl⟩:=(show ∃ t,v=Value.int y t from hy);rw[List.zip_cons_cons];refine kat_cons (wpAny_eqBool_int ?_)
      by_cases hxy:x=y
      ·subst hxy
       rw[show (x == x)=true by simp];refine kat_yes (qpd k l us ws (i+1) hu hw (by rw[hf];simp) ?_);unfold blt at q
       rwa [if_pos rfl] at q
      ·rw[show (x == y)=false by simpa using hxy]
       unfold blt at q;rw[if_neg hxy] at q;refine kat_no ?_
       cases (b && i == 0) with
       | true=>exact oneLt_int q
       | false=>exact kat_one _ _ (lt_int q)
theorem qwz {b:Bool} {Q:Bool->Shared->Prop} {x y:Value} {k l:List Int} (hx:qsy s.heap x k) (hy:qsy s.heap y l) (q:Q (blt k l) s):wpAny (model prog w) A (keyLt' (tuples' b) x y) Q E s:=by
 obtain ⟨a,o,xs,e,rfl,h1,h2,h3,h4⟩:=hx;obtain ⟨a',o',xs',e',rfl,h1',h2',h3',h4'⟩:=hy;refine kat_lt h1 h3 h1' h3' (qpd k l _ _ 0 h4 h4' ?_ q);have e1:k.length=xs.size:=by have:=h4.length;simpa using this
 have e2:l.length=xs'.size:=by have:=h4'.length;simpa using this
 rw[e1,e2]
theorem qsz {h:Heap}:∀ {vs:List Value} {ks:List (List Int)},vs.length=ks.length->(∀ (i:Nat) v k,vs[i]?=some v->ks[i]?=some k->qsy h v k/\k≠[])->∃ fs,KatTups h vs fs/\fs.length=vs.length/\∀ v∈fs,∃ i t,v=Value.int i t
 | [],[],_,_=>⟨[],.nil,rfl,λv hv=>by cases hv⟩
 | v :: vs,k :: ks,hl,H=>by
  obtain ⟨fs,f1,f2,f3⟩:=qsz (vs:=vs) (ks:=ks) (by simpa using hl) (λi v k e1 e2=>H (i+1) v k (by simpa using e1) (by simpa using e2));obtain ⟨⟨b,o,xs,e,rfl,h1,h2,h3,h4⟩,hne⟩:=H 0 v k rfl rfl
  cases k with
  | nil=>exact absurd rfl hne
  | cons i r =>
   obtain ⟨u,us,eu,hu⟩:∃ u us,xs.toList=u :: us/\RelV (.int i) u:=by
    generalize xs.toList=ys at h4
    cases h4 with
    | cons hx _=>exact ⟨_,_,rfl,hx⟩
   obtain ⟨t,rfl⟩:=(show ∃ t,u=Value.int i t from hu);refine ⟨Value.int i t :: fs,?_,by simp[f2],λv hv=>?_⟩
   ·rw[KatTups.eq_2]
    refine ⟨⟨b,o,xs,e,rfl,h1,h2,h3,?_⟩,f1⟩;rw[<- Array.getElem?_toList,eu];rfl
   ·rcases List.mem_cons.mp hv with h|h
    ·exact ⟨i,t,h⟩
    ·exact f3 v h
theorem qs0 {a:Addr} {vs:List Value} {n:Nat} {P:Fin->Shared->Prop} {ks:List (List Int)} (ho:s.heap.get? a=some (seqObj "list" vs.toArray n)) (h2:2<=vs.length) (h64:vs.length<64) (hl:vs.length=ks.length) (nd:ks.Nodup)
  (hT:∀ (i:Nat) v k,vs[i]?=some v->ks[i]?=some k->qsy s.heap v k/\k≠[])
  (h:∀ p:Array Nat,PermA ks.length p->Asc (ltK ks) p ks.length->P (.done (.ret .none)) { s with heap:=sortedHeap s.heap a vs (p.map λi=>vs.getD i .none) }):wpAny (model prog w) A (Builtin.«list.sort» ⟨[.ref a],[]⟩) P E s:=by
 rw[list_sort_plain];have la:a<s.heap.objs.size:=Heap.lt_size ho;refine wpAny_bind (listItems_at ho rfl ?_);refine wpAny_bind (listUpdate_at ho rfl ?_);obtain ⟨e1,h1⟩:∃ e1,(s.heap.update a (Obj.mapSeq λ_=>#[])).get? a=some (seqObj "list" #[] e1):=⟨_,get?_update_seq ho (λ_=>#[])⟩;refine wpAny_bind (seqEpoch_at h1 rfl ?_);refine wpAny_bind (wpAny_newTuple ?_ (by simp only[List.toList_toArray];rw[sizeLine_eq];omega));refine wpAny_bind (wpAny_newList ?_);refine wpAny_holding ?_;have h6:(((s.heap.update a (Obj.mapSeq λ_=>#[])).push (seqObj "tuple" vs.toArray 0)).push (seqObj "list" #[] 0)).get? a=some (seqObj "list" #[] e1):=by
  rw[Heap.get?_push_ne _ _ _ (by rw[size_push',Heap.size_update];exact Nat.ne_of_lt (Nat.lt_succ_of_lt la)),Heap.get?_push_ne _ _ _ (by rw[Heap.size_update];exact Nat.ne_of_lt la)];exact h1
 show wpAny (model prog w) A _ P E { s with heap:=((s.heap.update a (Obj.mapSeq λ_=>#[])).push (seqObj "tuple" vs.toArray 0)).push (seqObj "list" #[] 0) }
 obtain ⟨s3,es3⟩:∃ s3:Shared,s3={ s with heap:=((s.heap.update a (Obj.mapSeq λ_=>#[])).push (seqObj "tuple" vs.toArray 0)).push (seqObj "list" #[] 0) }:=⟨_,rfl⟩;have hT3:∀ (i:Nat) v k,vs[i]?=some v->ks[i]?=some k->qsy s3.heap v k/\k≠[]:=λi v k q1 q2=>by
  obtain ⟨⟨b,o,xs,e,rfl,g1,g2,g3,g4⟩,hne⟩:=hT i v k q1 q2;refine ⟨⟨b,o,xs,e,rfl,?_,g2,g3,g4⟩,hne⟩;have hba:b≠a:=λz=>by
   subst z;rw[ho] at g1;cases g1;have g2':(Value.type "list" : Value)=Value.type "tuple" :=g2;injection g2' with e'
   exact absurd e' (by decide)
  rw[es3];exact Heap.get?_push_of_some _ (Heap.get?_push_of_some _ ((Heap.SameBut.update s.heap a _).extBut b o hba g1))
 obtain ⟨fs,f1,f2,f3⟩:=qsz hl hT3;have z2:¬ vs.toArray.size<2:=by simpa using by omega
 dsimp only;rw[if_neg z2,if_neg z2,<- es3];refine wpAny_bind (kat_kind (T:=.type "int") f1 (by omega) (λv hv=>?_) (by decide) ?_)
 ·obtain ⟨i,t,rfl⟩:=f3 v hv
  exact Looks.of_pure rfl
 have hrun:=kas_runs (prog:=prog) (w:=w) (A:=A) (E:=E) (κ:=tuples' true) (it:=pairsOf vs) (n:=ks.length) (s:=s3) (G:=λp s'=>s'=s3/\PermA ks.length p/\Asc (ltK ks) p ks.length)
  (Q:=λ_ st' s'=>s'=s3/\failedOf st'=none/\∃ p,arrOf st'=p.map (kas_item (pairsOf vs))/\PermA ks.length p/\Asc (ltK ks) p ks.length) (by omega) (by omega)
  (λp st' s' hz ha hf hG=>⟨hG.1,hf,p,ha,hG.2⟩)
  (KW.run (λi j C hi hj hC=>by
   unfold kas_cmp;rw[kas_item_eq,kas_item_eq];have q1:vs[i]?=some (vs.getD i .none):=by rw[List.getD_eq_getElem?_getD,List.getElem?_eq_getElem (by omega)];rfl
   have q2:vs[j]?=some (vs.getD j .none):=by rw[List.getD_eq_getElem?_getD,List.getElem?_eq_getElem (by omega)];rfl
   have q3:ks[i]?=some (ks.getD i []):=by rw[List.getD_eq_getElem?_getD,List.getElem?_eq_getElem hi];rfl
   have q4:ks[j]?=some (ks.getD j []):=by rw[List.getD_eq_getElem?_getD,List.getElem?_eq_getElem hj];rfl
   exact qwz (hT3 i _ _ q1 q3).1 (hT3 j _ _ q2 q4).1 hC) (qyf (qEk ks nd) (qAm ks) (by omega)))
 have est:kas_st (tuples' true) (pairsOf vs) (List.range ks.length).toArray=SortSt.mk' (tuples' true) (vs.toArray.zip vs.toArray) #[] 7 none:=by
  unfold kas_st;have:=kas_range (pairsOf vs);rw[pairsOf_size,hl] at this;rw[this];rfl
 rw[est] at hrun
 show wpAny (model prog w) A (sortRuns'.run (SortSt.mk' (tuples' true) (vs.toArray.zip vs.toArray) #[] 7 none) >>= _) P E s3
 refine wpAny_bind (wpAny_mono hrun (λr s' hq=>?_) λ_ _ z=>z);obtain ⟨rfl,hf,p,hp,hq⟩:=hq;have h6':s'.heap.get? a=some (seqObj "list" #[] e1):=by rw[es3];exact h6
 have hz:((arrOf r.2).map (·.2)).size<=sizeLine:=by rw[Array.size_map,hp,Array.size_map,hq.1.sz,sizeLine_eq];omega
 refine wpAny_bind (seqEpoch_at h6' rfl ?_);refine wpAny_bind (listUpdate_at h6' rfl ?_ (hsz2:=Nat.le_succ_of_le hz));rw[hf];simp only[bne_self_eq_false,Bool.false_eq_true,if_false];refine wpAny_pure ?_;have:=h p hq.1 hq.2;rw[es3];rw[hp,Array.map_map];have ef:((λx:Keyed=>x.2) ∘ kas_item (pairsOf vs))=λi=>vs.getD i .none:=by
  funext i
  show (kas_item (pairsOf vs) i).2=_
  rw[kas_item_eq]
 rw[ef];exact this
end
open PySem PySem.Spec PyProof.Rows PySem.W
def pick {α:Type} (idx:List Nat) (xs:List α) (d:α):List α:=idx.map λi=>xs.getD i d
theorem qdj {α:Type} (xs:List α) (d:α):pick (List.range xs.length) xs d=xs:=by
 unfold pick
 apply List.ext_getElem?
 intro i;rw[List.getElem?_map]
 by_cases h:i<xs.length
 ·rw[List.getElem?_range h,List.getElem?_eq_getElem h]
  simp[List.getD_eq_getElem?_getD,List.getElem?_eq_getElem h]
 ·rw[List.getElem?_eq_none (by simpa using by omega),List.getElem?_eq_none (by omega)];rfl
theorem qmi {α:Type} {idx:List Nat} {xs:List α} {d:α} (h:idx.Perm (List.range xs.length)):(pick idx xs d).Perm xs:=by
 have:=h.map (λi=>xs.getD i d);have e:=qdj xs d;unfold pick at e;rw[e] at this;exact this
def TupsH (H:Hp) (xs:List V) (ks:List (List Int)):Prop:=Paired (λv r=>∃ a,v=V.ref a/\H a=some (.tup (r.map V.int))) xs ks
theorem TupsH.len {H:Hp}:∀ {xs:List V} {ks:List (List Int)},TupsH H xs ks->xs.length=ks.length
 | _,_,.nil=>rfl
 | _,_,.cons _ t=>by simp[TupsH.len t]
theorem TupsH.get {H:Hp}:∀ {xs:List V} {ks:List (List Int)} {i:Nat} {x:V} {k:List Int},TupsH H xs ks->xs[i]?=some x->ks[i]?=some k->∃ a,x=.ref a/\H a=some (.tup (k.map V.int))
 | _,_,_,_,_,.nil,e,_=>by simp at e
 | _,_,0,_,_,.cons r _,e,f=>by simp at e f;subst e f;exact r
 | _,_,i+1,x,k,.cons _ t,e,f=>TupsH.get (i:=i) t (by simpa using e) (by simpa using f)
theorem TupsH.pick {H:Hp} {xs:List V} {ks:List (List Int)} (h:TupsH H xs ks):∀ {idx:List Nat},(∀ i∈idx,i<ks.length)->TupsH H (pick idx xs .non) (pick idx ks [])
 | [],_=>.nil
 | i :: r,hi=>by
  have h0:=hi i List.mem_cons_self;have hl:=h.len;refine .cons (h.get (i:=i) ?_ ?_) (TupsH.pick h λj hj=>hi j (List.mem_cons_of_mem _ hj))
  ·show xs[i]?=some (xs.getD i .non)
   rw[List.getD_eq_getElem?_getD,List.getElem?_eq_getElem (by omega)];rfl
  ·show ks[i]?=some (ks.getD i [])
   rw[List.getD_eq_getElem?_getD,List.getElem?_eq_getElem h0];rfl
theorem vals_pick {xs:List V} {vs:List Value} (h:Vals xs vs):∀ {idx:List Nat},(∀ i∈idx,i<xs.length)->Vals (pick idx xs .non) (pick idx vs .none)
 | [],_=>.nil
 | i :: r,hi=>by
  have h0:=hi i List.mem_cons_self;have hl:=h.length;refine .cons ?_ (vals_pick h λj hj=>hi j (List.mem_cons_of_mem _ hj))
  show RelV (xs.getD i .non) (vs.getD i .none)
  rw[List.getD_eq_getElem?_getD,List.getElem?_eq_getElem h0,List.getD_eq_getElem?_getD,List.getElem?_eq_getElem (by omega)];exact vals_ix h h0 (by omega)
where
 vals_ix:∀ {xs:List V} {vs:List Value} {i:Nat},Vals xs vs->(h1:i<xs.length)->(h2:i<vs.length)->RelV xs[i] vs[i]
  | _,_,0,.cons r _,_,_=>r
  | _,_,i+1,.cons _ t,h1,h2=>vals_ix (i:=i) t (by simpa using h1) (by simpa using h2)
section
variable {prog:Program} {w:World} {A:Around} {E:Value->Shared->Prop} {s:Shared}
theorem qvm {a:Addr} {vs:List Value} {n:Nat} {P:Fin->Shared->Prop} {ks:List (List Int)} (ho:s.heap.get? a=some (seqObj "list" vs.toArray n)) (h64:vs.length<64) (hl:vs.length=ks.length) (nd:ks.Nodup)
  (hT:∀ (i:Nat) v k,vs[i]?=some v->ks[i]?=some k->qsy s.heap v k/\k≠[])
  (h:∀ idx:List Nat,idx.Perm (List.range ks.length)->(pick idx ks []).Pairwise (λk l=>blt k l=true)->P (.done (.ret .none)) { s with heap:=sortedHeap s.heap a vs (pick idx vs .none).toArray }):wpAny (model prog w) A (Builtin.«list.sort» ⟨[.ref a],[]⟩) P E s:=by
 by_cases h2:vs.length<2
 ·refine qj7 ho h2 ?_
  have:=h (List.range ks.length) (.refl _) (by
   rw[qdj]
   match ks,hl with
   | [],_=>exact .nil
   | [k],_=>exact List.pairwise_singleton _ _
   | _ :: _ :: _,hl=>simp at hl;omega)
  rw[<- hl,qdj] at this;rw[qss];exact this
 ·refine qs0 ho (by omega) h64 hl nd hT λp hp ha=>?_
  have e:(p.map λi=>vs.getD i .none)=(pick p.toList vs .none).toArray:=by
   apply Array.ext'
   simp[pick]
  rw[e];refine h p.toList hp.perm ?_;rw[List.pairwise_iff_getElem];intro i j hi hj hij;have hs:=hp.sz;have li:i<p.size:=by simpa [pick] using hi
  have lj:j<p.size:=by simpa [pick] using hj
  have:=ha i j hij (by omega);unfold ltK at this;rw[Array.getD_eq_getD_getElem?,Array.getElem?_eq_getElem li,Array.getD_eq_getD_getElem?,Array.getElem?_eq_getElem lj] at this
  simpa [pick] using this
end
section
variable {X:Cx}
theorem qs1 {pins:List (Addr×Obj)} {σ:St} {H:Hp} {s:Shared} {a:Addr} {k:List Int} (I:Inv X pins σ H s) (h:H a=some (.tup (k.map V.int))):qsy s.heap (.ref a) k:=by
 obtain ⟨its,rv,p,_⟩:=I.tuple (SqT.of h);obtain ⟨o,h1,h2,n,h3⟩:=(show s.heap.IsTuple a its.toArray from p);exact ⟨a,o,its.toArray,n,rfl,h1,h2,h3,by simpa using rv⟩
def qAn:List V->Hp->VK->Prop:=λxs H Q=>∃ (a:Addr) (kvs:List (List Key×V)) (ks:List (List Int)),xs=[.ref a]/\H a=some (.dT kvs)/\kvs.map (·.1)=ks.map (λk=>k.map Sum.inl)/\ks.length<64/\ks.Nodup/\(∀ k∈ks,k≠[]) /\
 ∀ ms zs l H',ms.Perm ks->ms.Pairwise (λk l=>blt k l=true)->TupsH H zs ms->New H H' l (.lst zs)->Q (.ref l) H'
theorem qs2 {H:Hp}:∀ {kvs:List (List Key×V)} {ys:List (List Key×Addr×Value)} {ks:List (List Int)},KT H kvs ys->kvs.map (·.1)=ks.map (λk=>k.map Sum.inl)->TupsH H (ys.map λy=>V.ref y.2.1) ks
 | [],_,ks,.nil,e=>by
  cases ks with
  | nil=>exact .nil
  | cons _ _=>cases e
 | p :: r,_,ks,.cons (b:=y) hy t,e=>by
  cases ks with
  | nil=>cases e
  | cons k ks =>
   rw[List.map_cons,List.map_cons] at e;injection e with e1 e2
   refine .cons ⟨y.2.1,rfl,?_⟩ (qs2 t e2);have:=hy.2.1;rw[e1] at this;rw[this,List.map_map];rfl
theorem qmj:∀ ys:List (List Key×Addr×Value),Vals (ys.map λy=>V.ref y.2.1) (ys.map λy=>Value.ref y.2.1)
 | []=>.nil
 | _ :: r=>.cons rfl (qmj r)
theorem qgo (hc:X.calm=true):CallR X (.builtin "sorted") qAn:=by
 intro pins s σ H xs us Q I r h;obtain ⟨a,kvs,ks,rfl,ha,ek,h64,nd,hne,q⟩:=h;obtain ⟨u,rfl,rx⟩:=vals1 r
 cases (show u=Value.ref a from rx)
 obtain ⟨hz,lo,ys,kt,o,es,ep,e1,e2,e3,e4,_⟩:=qzz I.hok ha;have hR:RawD s.heap a es ep:=⟨o,e1,e2,e3⟩;have hT:=qs2 kt ek;have lk:kvs.length=ks.length:=by have:=congrArg List.length ek;simpa using this
 have ly:ys.length=ks.length:=by have:=hT.len;simpa using this
 have hl:es.size=ys.length:=by rw[<- Array.length_toList,e4,List.length_map]
 refine Calls.call_function_entry kind_sorted plain_sorted entry_sorted (args_sorted1 _) ?_;unfold Builtin.«sorted»;refine wpAny_bind (m:=checkCount "sorted" 1 1 _) (wpAny_pure ?_);refine wpAny_bind (PySem.W.kdu_collect (qAj lo) (I.ok.hd hc) hR (by rw[sizeLine_eq];omega) λh' tk acc hk hacc=>?_);have hlen:acc.toList.length=ks.length:=by rw[Array.length_toList,hacc.1,hl,ly]
 have hacc':acc.toList=ys.map λy=>Value.ref y.2.1:=by
  apply List.ext_getElem?
  intro i
  by_cases hi:i<ys.length
  ·obtain ⟨v,hv⟩:∃ v,acc.toList[i]?=some v:=⟨_,List.getElem?_eq_getElem (by omega)⟩
   obtain ⟨e,he,hve⟩:=hacc.2 i v (by rw[<- Array.getElem?_toList];exact hv);rw[<- Array.getElem?_toList,e4,List.getElem?_map,List.getElem?_eq_getElem hi] at he;cases he;rw[hv,List.getElem?_map,List.getElem?_eq_getElem hi,hve];rfl
  ·rw[List.getElem?_eq_none (by omega),List.getElem?_eq_none (by simpa using by omega)]
 have I':Inv X pins σ H { s with heap:=h',toks:=tk }:=I.kept hk;have rv:Vals (ys.map λy=>V.ref y.2.1) acc.toList:=by
  rw[hacc'];exact qmj ys
 refine wpAny_bind (wpAny_newList ?_ (by rw[hlen,sizeLine_eq];omega));have hS:(h'.push (seqObj "list" acc.toList.toArray 0)).get? h'.objs.size=some (seqObj "list" acc.toList.toArray 0):=Heap.get?_push_size _ rfl;refine wpAny_bind (wpAny_holding (wpAny_call_entry slot_list_sort ⟨_,hS,rfl⟩ entry_list_sort (qvm (s:={ s with heap:=h'.push (seqObj "list" acc.toList.toArray 0),toks:=tk }) (ks:=ks) hS (by omega) hlen nd (λi v k q1 q2=>?_) λidx i1 i2=>⟨_,rfl,?_⟩) (args_list_sort _)))
 ·obtain ⟨y,hy⟩:∃ y,ys[i]?=some y:=⟨_,List.getElem?_eq_getElem (by have:=(List.getElem?_eq_some_iff.mp q2).1;omega)⟩
  obtain ⟨b,eb,hb⟩:=hT.get (i:=i) (by rw[List.getElem?_map,hy];rfl) q2;cases eb;have hv:v=Value.ref y.2.1:=by
   rw[hacc',List.getElem?_map,hy] at q1;exact (Option.some.inj q1).symm
  subst hv;obtain ⟨b,o,xs,e,e1,g1,g2⟩:=qs1 I' hb;exact ⟨⟨b,o,xs,e,e1,Heap.get?_push_of_some _ g1,g2⟩,hne k (List.mem_of_getElem? q2)⟩
 ·refine wpAny_pure ⟨_,rfl,?_⟩
  have hi:∀ i∈idx,i<ks.length:=λi h=>List.mem_range.mp (i1.mem_iff.mp h)
  have hil:=i1.length_eq;rw[List.length_range] at hil;obtain ⟨c,hat⟩:∃ c,(sortedHeap (h'.push (seqObj "list" acc.toList.toArray 0)) h'.objs.size acc.toList (pick idx acc.toList .none).toArray).get? h'.objs.size=some (seqObj "list" (pick idx acc.toList .none).toArray c):=sortedHeap_at hS;have kp:∀ b ob,h'.get? b=some ob->(sortedHeap (h'.push (seqObj "list" acc.toList.toArray 0)) h'.objs.size acc.toList (pick idx acc.toList .none).toArray).get? b=some ob:=λb ob hb=>by
   have lb:=Heap.lt_size hb;rw[sortedHeap_old (Nat.ne_of_lt lb) (by rw[size_push'];exact Nat.lt_succ_of_lt lb)];exact Heap.get?_push_of_some _ hb
  have vp:Vals (pick idx (ys.map λy=>V.ref y.2.1) .non) (pick idx acc.toList .none):=vals_pick rv (λi h=>by have:=hi i h;simp;omega);refine ⟨.ref h'.objs.size,_,I'.laid (t':=tk) (o:=.lst (pick idx (ys.map λy=>V.ref y.2.1) .non)) kp (Nat.le_refl _) ⟨?_,pick idx acc.toList .none,c,vp,hat⟩,rfl,q (pick idx ks []) _ _ _ (qmi i1) i2 (hT.pick hi) (qa8 (I'.hok.fresh (Nat.le_refl _)))⟩
  show (pick idx _ V.non).length<=_
  unfold pick;rw[List.length_map,sizeLine_eq];omega
end
open PySem PySem.Spec PyProof.Rows
def qDr (P:Program) (w:World) (K:Frag) (mg:Str->Option Value) (base:Heap) (C:Addr) (k:Nat) (m:Str) (ps:List Str) (ds:List Value) (sp:Sp):Prop:=
 ∃ f fd,qf6 P w K mg base CX0 k f fd ps sp/\qeo K C m f/\Binds K fd ps ds
section
variable {X:Cx} {k:Nat} {C:Addr} {ps:List Str} {sp:Sp} {dvs:List V} {ds:List Value} {m:Str} {pos apos:Pos} {e o:Expr} {es:List Expr} {ta:TE} {t:TA}
theorem qw0 {pl:Sem Bool} (he:PE X o ta) (c:Cls X.K C) (D:qDr X.prog X.w X.K X.mg X.base C k m ps ds sp) (hr:Room k X.A) (hd:Vals dvs ds) (ha:PA X (e :: es) t)
  (hst:starEach (e :: es) X.env=(false,eval e X.env) :: starEach es X.env:=by rfl) (hpl:(backTo pos (starEach es X.env)).any (·.1)=false:=by rfl)
  (ht:eval (.Call (.Attribute o m apos) (e :: es) [] pos) X.env=(do
   let ov <- eval o X.env
   standAt apos.atName
   let (f,first) <- holding [ov] (getMethod ov m pl)
   callWith pos f first (backTo pos (starEach (e :: es) X.env)) (backToKw pos (keywordEach [] X.env))):=by rfl) :
  PE X (.Call (.Attribute o m apos) (e :: es) [] pos) (qh3 C m sp dvs E0 ta t):=by
 obtain ⟨f,fd,F,hm,hb⟩:=D;exact qr7 (pl:=pl) he c hm F hr hb hd qsi ha hst hpl ht
end
open PySem PySem.Spec PyProof.Rows PySem.W
section
variable {prog:Program} {w:World} {A:Around} {E:Value->Shared->Prop} {s:Shared}
end
section
variable {X:Cx} {pos:Pos}
end
open PySem PySem.Spec PyProof.Rows
section
variable {prog:Program} {w:World} {A:Around} {E:Value->Shared->Prop} {s:Shared}
end
open PySem PySem.Spec PyProof.Rows
section
variable {X:Cx} {pins:List (Addr×Obj)} {σ:St} {H:Hp} {s:Shared} {d:Addr}
end
section
variable {X:Cx}
end
open PySem PySem.Spec PyProof.Rows
section
variable {prog:Program} {w:World} {A:Around} {E:Value->Shared->Prop} {h:Heap} {g:Array GenState} {d:Drawn} {t:Nat} {os:OsState}
variable {nm q:Str} {C N x:Addr} {bs bm:List Value} {hdct:Bool} {sn:List Str} {sub:List Value} {ab:Bool} {col:Option Bool} {dd:Option Addr} {k0 k1 k2 k3 k5:Option Value}
theorem qju (T:OwnTail h veMro bm) {mN:Str->Option Value} {rest:List Value} {fI:Addr} {oI:Obj} {Q:Fin->Shared->Prop}
  (hC:h.get? C=some (excClassObj nm q C N bs bm hdct sn sub ab col dd k0 k1 k2 k3 k5 "ValueError.__new__")) (hn:h.Ns N mN) (hi:mN "__init__" = some (.ref fI))
  (hfI:h.get? fI=some oI) (hfc:oI.cls=.type "function")
  (hq:∀ h',(∀ b o,h.get? b=some o->h'.get? b=some o)->h'.get? (h.objs.size+1)=some { cls:=.ref C,data:=.fields #[.ref h.objs.size,.none,.none,.none,.bool false,.none] } ->
   wpAny (model prog w) A (call (.ref fI) (.ref (h.objs.size+1) :: rest)) (λr s'=>r=.none/\Q (.done (.ret (.ref (h.objs.size+1)))) s') E ⟨h',g,d,t,os⟩) (hrest:rest.length<=sizeLine) :
  wpAny (model prog w) A (Builtin.«type.__call__» ⟨.ref C :: rest,[]⟩) Q E ⟨h,g,d,t,os⟩:=by
 have F:=PySem.F.excBase_ValueError;have hBn:veMro.contains (.type "ValueError")=true:=by decide +kernel
 repeat (first|with_reducible refine wpAny_loadPart_at hC ?_|with_reducible refine wpAny_madeBy_exc hC ?_|wp_step)
 refine codeAny_call_builtin_code (Code.quiet_builtin _ F.quiet) (wpAny_check_new_subU F hBn T hC ?_);refine codeAny_exc_new_subU F hBn F T hC ?_ hrest
 show wpAny _ _ _ _ _ _
 have hC₁:=Heap.get?_push_of_some { cls:=.ref C,data:=.fields #[.ref h.objs.size,.none,.none,.none,.bool false,.none] }
  (Heap.get?_push_of_some { cls:=.type "tuple",data:=.seq rest.toArray } hC)
 have hfI₁:=Heap.get?_push_of_some { cls:=.ref C,data:=.fields #[.ref h.objs.size,.none,.none,.none,.bool false,.none] }
  (Heap.get?_push_of_some { cls:=.type "tuple",data:=.seq rest.toArray } hfI)
 have hn₁:((h.push { cls:=.type "tuple",data:=.seq rest.toArray }).push { cls:=.ref C,data:=.fields #[.ref h.objs.size,.none,.none,.none,.bool false,.none] }).Ns N mN:=
  let ⟨o,es,ep,e,r⟩:=hn;⟨o,es,ep,Heap.get?_push_of_some _ (Heap.get?_push_of_some _ e),r⟩
 have hget:((h.push { cls:=.type "tuple",data:=.seq rest.toArray }).push
   {cls:=.ref C,data:=.fields #[.ref h.objs.size,.none,.none,.none,.bool false,.none] }).get? (h.objs.size+1)=some
   {cls:=.ref C,data:=.fields #[.ref h.objs.size,.none,.none,.none,.bool false,.none] }:=by heap_get
 have hcC:(Value.ref C :: bm).contains (.ref C)=true:=by simp
 have T₁:=T.keeps (h':=(h.push { cls:=.type "tuple",data:=.seq rest.toArray }).push { cls:=.ref C,data:=.fields #[.ref h.objs.size,.none,.none,.none,.bool false,.none] })
  λb o e=>Heap.get?_push_of_some _ (Heap.get?_push_of_some _ e)
 unfold isInstance
 repeat (first|with_reducible refine wpAny_loadPart_at hget ?_|(with_reducible refine wpAny_isSubtype_exc hC₁ ?_;rw[hcC])|wp_step)
 show wpAny _ _ (typeLookup (.ref C) _) _ _ _
 refine wpAny_typeLookup_tail hC₁ hn₁ T₁ F.mroIs F.init.lookup ?_;rw[hi];refine wpAny_holding (wpAny_bind ?_);unfold bindSpecial;refine wpAny_bind (wpAny_typeOf (T:= "function") ⟨_,hfI₁,hfc⟩ ?_);rw[if_pos (by decide)];refine wpAny_pure (wpAny_bind (wpAny_mono (hq _ (λb o hb=>Heap.get?_push_of_some _ (Heap.get?_push_of_some _ hb)) hget) (λr s' hr=>?_) λ_ _ x=>x));obtain ⟨rfl,hQ⟩:=hr
 wp_walk
 exact hQ
theorem qs3 (T:OwnTail h veMro bm) {mN:Str->Option Value} {rest:List Value} {fI:Addr} {oI:Obj} {Q:Value->Shared->Prop}
  (hC:h.get? C=some (excClassObj nm q C N bs bm hdct sn sub ab col dd k0 k1 k2 k3 k5 "ValueError.__new__")) (hn:h.Ns N mN) (hi:mN "__init__" = some (.ref fI))
  (hfI:h.get? fI=some oI) (hfc:oI.cls=.type "function")
  (hq:∀ h',(∀ b o,h.get? b=some o->h'.get? b=some o)->h'.get? (h.objs.size+1)=some { cls:=.ref C,data:=.fields #[.ref h.objs.size,.none,.none,.none,.bool false,.none] } ->
   wpAny (model prog w) (A.under (.builtin "type.__call__" ⟨.ref C :: rest,[]⟩)) (call (.ref fI) (.ref (h.objs.size+1) :: rest)) (λr s'=>r=.none/\Q (.ref (h.objs.size+1)) s') E ⟨h',g,d,t,os⟩) (hrest:rest.length<=sizeLine) :
  wpAny (model prog w) A (call (.ref C) rest) Q E ⟨h,g,d,t,os⟩:=by
 have f1:=tc_lookup;have f2:=tc_bind (.ref C);have hT:(⟨h,g,d,t,os⟩:Shared).TypeIs (.ref C) "type" :=⟨_,hC,rfl⟩;refine wpAny_call (codeAny_of_tree ?_)
 show wpAny _ _ (callAny (.ref C) _) _ _ _
 repeat (any_goals (first|assumption|with_reducible refine wpAny_loadPart_at hC ?_|wp_step))
 refine ⟨rfl,?_⟩;refine codeAny_call_builtin_at (Code.quiet_builtin _ (by decide +kernel)) entry_typeCall (wpAny_check_type_call_sub hC (qju T hC hn hi hfI hfc (λh' hk he=>?_) hrest));exact hq h' hk he
theorem qqy {M:Model} {s:Shared} {env:Env} {y:Sem Value} {newId:String} {Q:Flow->Shared->Prop} (hbase:bm.contains (.type "BaseException")=true) (hh:A.handled=none)
  (h:wpAny M A y (λv s₁=>∃ e dx vs sl,v=.ref e/\s₁.heap.get? C=some (excClassObj nm q C N bs bm hdct sn sub ab col dd k0 k1 k2 k3 k5 newId) /\
   s₁.heap.get? e=some ⟨.ref C,dx,.fields vs,sl⟩/\vs[1]?=some .none/\E (.ref e) s₁) E s):wpAny M A (raiseStmt env (some y) none) Q E s:=by
 have hcB:(Value.ref C :: bm).contains (.type "BaseException")=true:=by rw[List.contains_cons,hbase,Bool.or_true]
 unfold raiseStmt;refine wpAny_bind (wpAny_mono h (λv s₁ h₁=>?_) λ_ _ x=>x);obtain ⟨e,dx,vs,sl,rfl,hC,he,h1,hE⟩:=h₁;obtain ⟨hp,g,d,tk,os⟩:=s₁
 repeat (first|with_reducible refine wpAny_field he rfl h1 ?_|with_reducible refine wpAny_loadPart_at he ?_|with_reducible refine wpAny_loadPart_at hC ?_|(with_reducible refine wpAny_isSubtype_exc hC ?_;rw[hcB])|wp_step)
 exact wpAny_raiseNew_none hh hE
theorem qog {self:Value} {what:Str}:∀ {bm:List Value},OwnTail h veMro bm->refuseLoop self what bm=refuseLoop self what veMro:=by
 intro bm T
 induction T with
 | base=>rfl
 | own _ _ _ _ ih=>rw[refuseLoop_ref];exact ih
end
def qpe (a:Addr) (cls:Value) (dd:Option Addr):HO:=.ext λh=>∃ oe vs,h.get? a=some oe/\oe.cls=cls/\oe.dict=dd/\oe.data=.fields vs/\vs.size=6/\vs[1]?=some .none
def qpf (K:Frag) (C f:Addr):Bool:=match K.lookup C with
 | some ⟨.type "type",_,.cls cd,sl⟩=>(match cd.mro,sl.toList with
  | .ref C' :: bm,[_,_,_,_,some (.builtin n),_]=>C' == C && n == "ValueError.__new__" && !cd.hasDel && PySem.W.tailIn K veMro bm && PySem.W.nsOkIn K cd.ns && nsIn K cd.ns "__init__" == some (some (.ref f)) && cd.hasDict
  | _,_=>false)
 | _=>false
structure qAo (K:Frag) (C f:Addr) (fld:Str):Prop where
 e:qpf K C f=true
 fn:PySem.W.isFn K (.ref f)=true
 x:qqw K C
 hd:PySem.W.hasDictIn K C=true
 sa:PySem.W.findIn K (.ref C) "__setattr__" = some (some (.builtin "object.__setattr__"))
 na:PySem.W.findIn K (.ref C) fld=some none
theorem qAp {K:Frag} {h:Heap} {N:Addr} {mg:Str->Option Value} {n:Str} {v:Value} (X:K.In h) (G:h.Ns N mg) (e:nsIn K N n=some (some v)):mg n=some v:=by
 obtain ⟨o,es,ep,ho,hd,_,hf⟩:=G;unfold nsIn at e
 split at e
 ·rename_i c d es' n' sl q
  have:=X _ _ q;rw[ho] at this;cases this;cases hd
  split at e
  ·rename_i en he
   cases e;rw[<- hf];unfold nsFind findBy;rw[<- Array.find?_toList,he]
   rfl
  ·split at e<;>cases e
 ·cases e
structure qs4 (h:Heap) (C f:Addr):Prop where
 e:∃ bm N nm qn bs sn sub ab col dd k0 k1 k2 k3 k5 mN,h.get? C=some (excClassObj nm qn C N bs bm true sn sub ab col dd k0 k1 k2 k3 k5 "ValueError.__new__")/\h.Ns N mN/\mN "__init__" = some (.ref f)/\OwnTail h veMro bm
theorem qoh {K:Frag} {h:Heap} {C f:Addr} (X:K.In h) (q:qpf K C f=true):qs4 h C f:=by
 unfold qpf at q
 split at q
 case h_2=>cases q
 case h_1 dd cd sl ho =>
  split at q
  case h_2=>cases q
  case h_1 C' bm k0 k1 k2 k3 n k5 hm hsl =>
   simp only[Bool.and_eq_true,beq_iff_eq,Bool.not_eq_true'] at q;obtain ⟨⟨⟨⟨⟨⟨q1,q2⟩,q3⟩,q4⟩,q5⟩,q6⟩,q7⟩:=q;subst q1 q2
   cases cd with
   | mk nm bs mro ns qn hd sn sub ab col del =>
    cases sl with
    | mk l =>
     have hm':mro=_:=hm;have hl':l=_:=hsl;have q3':del=false:=q3;have q7':hd=true:=q7;subst hm' hl' q3' q7';have hN:=PySem.Heap.Ns.of_isNs (PySem.W.isNs_of_in X q5);exact ⟨bm,ns,nm,qn,bs,sn,sub,ab,col,dd,k0,k1,k2,k3,k5,_,X _ _ ho,hN,qAp X hN q6,PySem.W.tail_of_in X q4⟩
section
variable {prog:Program} {w:World} {A:Around} {E:Value->Shared->Prop} {K:Frag} {h:Heap} {g:Array GenState} {d:Drawn} {t:Nat} {os:OsState} {C f x:Addr} {o:Obj} {vs:Array Value}
theorem qs5 {name:Str} {v:Value} {Q:Unit->Shared->Prop} (X:K.In h) (hE:qs4 h C f) (hsa:PySem.W.findIn K (.ref C) "__setattr__" = some (some (.builtin "object.__setattr__"))) (hna:PySem.W.findIn K (.ref C) name=some none)
  (hob:PySem.W.mroIn K C (.type "object")=some true) (hx:h.get? x=some o) (hc:o.cls=.ref C) (hd:o.data=.fields vs) (hdn:o.dict=none)
  (hq:∀ h' tk',h'.get? x=some { o with dict:=some h.objs.size }->h'.Ns1 h.objs.size (λy=>if y=name then some v else none)->(∀ b ob,b≠x->h.get? b=some ob->h'.get? b=some ob)->Q () ⟨h',g,d,tk',os⟩) :
  wpAny (model prog w) A (setAttr (.ref x) name v) Q E ⟨h,g,d,t,os⟩:=by
 obtain ⟨bm,N,nm,qn,bs,sn,sub,ab,col,dd,k0,k1,k2,k3,k5,mN,hC,hn,hi,T⟩:=hE;have SF:=PySem.F.store_ValueError;have I:PySem.W.InstAt h x o C none:=⟨hx,hc,by unfold PySem.W.notCls;rw[hd],by rw[hdn];trivial⟩;refine PySem.W.set_plain (s:=⟨h,g,d,t,os⟩) X I hsa ?_;have L3:=PySem.W.looks_findIn (M:=model prog w) X hna;have sub':PySem.W.Looks (model prog w) h (isInstance (.ref x) (.type "object")) true:=I.type.andThen (PySem.W.looks_mroIn X hob);refine codeAny_call_builtin SF.slot.plain SF.entry (@PySem.W.check_slot (model prog w) _ _ ⟨h,g,d,t+1,os⟩ "object.__setattr__" "object" "__setattr__" (.ref x) [.str name t,v] [] _ SF.kind SF.split sub' (SF.args (.ref x) (.str name t) v) ?_);have hpass:refuseLoop (.ref x) "__setattr__" (.ref C :: bm)=pure ():=by rw[refuseLoop_ref,qog T];exact SF.passes _
 unfold Builtin.«object.__setattr__»
 repeat (first|rw[refuse_eq]|rw[hpass]|(with_reducible refine wpAny_loadPart_at hx ?_;rw[hc])|with_reducible refine wpAny_mroOf_exc hC ?_|with_reducible refine L3.at ?_|wp_step)
 rw[hdn,if_neg (by simp[typeHasDict])]
 split
 ·rename_i hcd
  cases hcd
 split
 ·rename_i c hcd
  rw[hd] at hcd;cases hcd
 ·have hx₁:(h.push { cls:=.type "dict",data:=.dict #[] }).get? x=some o:=Heap.get?_push_of_some _ hx
  have hxs:x≠h.objs.size:=Nat.ne_of_lt (Heap.lt_size hx);refine wpAny_bind (wpAny_alloc' ?_);refine wpAny_bind (wpAny_update' hx₁ ?_);refine wpAny_pure ?_;have hgd:((h.push { cls:=.type "dict",data:=.dict #[] }).update x λo=>{ cls:=o.cls,dict:=some h.objs.size,data:=o.data,slots:=o.slots }).get? h.objs.size
    = some { cls:=.type "dict",data:=.dict #[] }:=
   (Heap.get?_update_ne _ _ _ _ hxs.symm).trans (Heap.get?_push_at rfl rfl)
  have hnd:((h.push { cls:=.type "dict",data:=.dict #[] }).update x λo=>{ cls:=o.cls,dict:=some h.objs.size,data:=o.data,slots:=o.slots }).Ns h.objs.size (λ_=>none):=
   ⟨_,#[],_,hgd,rfl,λe he=>absurd he (by simp),λ_=>rfl⟩
  show wpAny _ _ (Builtin.ObjectAttr.storeInDict h.objs.size (.str name t) name v) _ _ _
  unfold Builtin.ObjectAttr.storeInDict Builtin.ObjectAttr.newKeyGuard;refine wpAny_bind (wpAny_pure (wpAny_bind (wpAny_nsSet1 (Heap.Ns1.of_empty hnd) λh' hn' hs=>?_)));obtain ⟨oD,esD,epD,hoD,hdD,hcD⟩:=hn'.count (Within.cons name v Within.nil);refine wpAny_bind (wpAny_lookBehind hoD (by rw[hdD];exact pastItsLine_dict (Nat.le_trans hcD (by rw[List.length_cons,List.length_nil,sizeLine_eq];omega))) ?_)
  wp_walk
  refine hq h' _ ?_ hn' (λb ob hbx hb=>?_)
  ·refine (hs.2 x hxs).trans (Heap.get?_update_self _ hx₁ ?_)
   have hfr:=(Heap.get?_some_iff.mp hx).2;obtain ⟨oc,od,odt,osl⟩:=o
   cases odt<;>first|rfl|exact hfr
  ·exact (hs.2 b (Nat.ne_of_lt (Heap.lt_size hb))).trans ((Heap.get?_update_ne _ _ _ _ hbx).trans (Heap.get?_push_of_some _ hb))
theorem qk9 {rest:List Value} {Q:Value->Shared->Prop} (hE:qs4 h C f) (hx:h.get? x=some o) (hc:o.cls=.ref C) (hd:o.data=.fields vs) (h0:0<vs.size) (hrest:rest.length<=sizeLine)
  (hq:∀ h' v0,(∀ b ob,b≠x->h.get? b=some ob->h'.get? b=some ob)->h'.get? x=some { o with data:=.fields (vs.setIfInBounds 0 v0) }->Q .none ⟨h',g,d,t,os⟩) :
  wpAny (model prog w) A (call (.builtin "ValueError.__init__") (.ref x :: rest)) Q E ⟨h,g,d,t,os⟩:=by
 obtain ⟨bm,N,nm,qn,bs,sn,sub,ab,col,dd,k0,k1,k2,k3,k5,mN,hC,hn,hi,T⟩:=hE;have F:=PySem.F.excBase_ValueError;refine wpAny_call (codeAny_call_builtin F.init.plain F.initEntry (wpAny_check_init_subU F T hC hx hc ?_));have hx₁:(h.push { cls:=.type "tuple",data:=.seq rest.toArray }).get? x=some o:=Heap.get?_push_of_some _ hx;obtain ⟨oc,od,odt,osl⟩:=o;dsimp only at hd hc;subst hd;have e0:vs[0]?=some vs[0]:=Array.getElem?_eq_getElem h0
 wp_walk
 dsimp only;rw[e0];refine wpAny_pure ?_;refine wpAny_bind (wpAny_setField hx₁ rfl h0 ?_);have fin:Q .none ⟨(h.push { cls:=.type "tuple",data:=.seq rest.toArray }).update x (Obj.mapFields (·.setIfInBounds 0 (Value.ref h.objs.size))),g,d,t,os⟩:=by
  refine hq _ (Value.ref h.objs.size) (λb ob hb q=>?_) ?_
  ·rw[Heap.get?_update_other _ _ (Ne.symm hb)]
   exact Heap.get?_push_of_some _ q
  ·exact Heap.get?_update_self _ hx₁ rfl
 generalize vs[0]=old
 cases old<;>first|exact wpAny_pure (wpAny_pure fin)|exact wpAny_letGo (wpAny_pure fin)
end
open PySem PySem.Spec PyProof.Rows
section
variable {prog:Program} {w:World} {A:Around} {E:Value->Shared->Prop} {s:Shared} {K:Frag} {a D:Addr} {oe:Obj} {od:Option Obj}
theorem qyg {name:Str} {v:Value} {expr:Bool} {Q:Value->Shared->Prop} (X:K.In s.heap) (F:qqw K D) (I:PySem.W.InstAt s.heap a oe D od) (hf:PySem.W.findObj K D od name=some (.value v)) (hv:PySem.W.handedIn v=true)
  (h:Q v { s with toks:=s.toks+1 }):wpAny (model prog w) A (getAttr (.ref a) name expr) Q E s:=by
 obtain ⟨hh,g,d,t,os⟩:=s;have L0:=I.type (M:=model prog w);have L1:=PySem.W.looks_findIn (M:=model prog w) X F.ga;have L2':=PySem.W.looks_findIn (M:=model prog w) X F.gt;have Lf:=PySem.W.looks_find (M:=model prog w) X I hf;have sub':PySem.W.Looks (model prog w) hh (isInstance (.ref a) (.type "BaseException")) true:=L0.andThen (PySem.W.looks_mroIn X F.be);have f3:=(PySem.F.attr_ValueError).ga.bind (.ref a);have hx2:(Value.builtin "BaseException.__getattribute__" == Value.builtin "object.__getattribute__")=false:=by decide +kernel
 have hsel:(onTheHeap (Value.ref D) && Value.builtin "BaseException.__getattribute__" == Value.builtin "object.__getattribute__")=false:=by rw[hx2];rfl
 refine wpAny_bind (wpAny_mkText (wpAny_holding (wpAny_bind (L0.at (wpAny_bind (L1.at ?_))))));dsimp only;rw[if_neg (by rw[hsel];decide)];unfold getAttrByItsOwn hookBefore;refine wpAny_bind ?_;rw[if_pos (show onTheHeap (Value.ref D)=true from rfl)];refine L2'.at ?_;refine wpAny_bind (wpAny_attempt (wpAny_holding ?_));unfold callGetattribute;rw[show (expr && onTheHeap (Value.builtin "BaseException.__getattribute__"))=false from Bool.and_false _,if_neg (by decide)];unfold boundAndCalled;rw[f3];refine wpAny_bind (wpAny_pure ?_);refine wpAny_call (codeAny_call_builtin PySem.F.attr_ValueError.ga.plain PySem.F.entry_bexc_ga ?_);refine @PySem.W.check_slot (model prog w) _ _ ⟨hh,g,d,t+1,os⟩ "BaseException.__getattribute__" "BaseException" "__getattribute__" (.ref a) [.str name t] [] _ (by decide +kernel) (by decide +kernel) sub' (PySem.F.args_bexc_ga (.ref a) (.str name t)) ?_
 repeat (first|with_reducible refine L0.at ?_|with_reducible refine Lf.at ?_|wp_step)
 exact PySem.W.handed_on (M:=model prog w) hv h
end
def qCx (K:Frag) (ta:TE) (f:Str):TE:=λσ H Q=>ta σ H λx H1=>∃ a D dx fs v,x=.ref a/\H1 a=some (qod a (.ref D) (some dx))/\H1 dx=some (.xd fs)/\qqw K D/\PySem.W.hasDictIn K D=true/\PySem.W.findIn K (.ref D) f=some none/\fs.lookup f=some v/\Q v H1
theorem qs6 {X:Cx} {K:Frag} {e:Expr} {f:Str} {pos:Pos} {ta:TE} (hK:X.K=K) (he:PE X e ta) (hb:attributeBase e f X.env (eval e X.env)=eval e X.env):PE X (.Attribute e f pos) (qCx K ta f):=by
 subst hK;intro pins s σ H Q I h;refine qr3 hb (thn (he pins s σ H _ I h) λu s1 hq=>?_);obtain ⟨x,H1,I1,rx,a,D,dx,fs,v,ex,ea,edx,F,hdi,hna,l,q⟩:=hq;subst ex;obtain rfl:u=Value.ref a:=rx;obtain ⟨⟨oe,vs,h1,hc,hdc,hd⟩,_⟩:=(show ObjOk X.prog X.w H1 s1.heap a (qod a (.ref D) (some dx)) from I1.hok a _ ea);obtain ⟨mA,hN,hr⟩:=(show ObjOk X.prog X.w H1 s1.heap dx (.xd fs) from I1.hok dx _ edx);obtain ⟨u',hu,ru⟩:=RelO.some_of (v:=v) (o:=mA f) (by rw[<- l];exact hr f);obtain ⟨od,ho,hl⟩:=ql5 hN;have J:PySem.W.InstAt s1.heap a oe D (some od):=⟨h1,hc,by unfold PySem.W.notCls;rw[hd],by rw[hdc];exact ho⟩;exact qyg I1.kIn F J (PySem.W.findObj_own hdi hna rfl (by rw[hl,hu])) (ql6 ru) ⟨v,H1,I1.tok _,ru,q⟩
theorem qoi {P:Program} {w:World} {H:Hp} {h:Heap} {a:Addr} {cls:Value} {dd:Option Addr} {oe:Obj} {vs:Array Value} (h1:h.get? a=some oe) (h2:oe.cls=cls) (h3:oe.dict=dd) (h4:oe.data=.fields vs) (h5:vs.size=6) (h6:vs[1]?=some .none):ObjOk P w H h a (qpe a cls dd):=
 ⟨⟨oe,vs,h1,h2,h3,h4,h5,h6⟩,⟨oe,h1⟩,λ_ _ ⟨o',v',q1,q2,q3,q4,q5,q6⟩ k=>⟨o',v',k _ q1,q2,q3,q4,q5,q6⟩⟩
def qCy (K:Frag) (ta tv:TE) (f:Str):TS:=λD σ H=>tv σ H λy H1=>ta σ H1 λx H2=>∃ a C fI,x=.ref a/\H2 a=some (qpe a (.ref C) none)/\qAo K C fI f /\
 ∀ dx H3,H2 dx=none->dx≠a->H3 a=some (qpe a (.ref C) (some dx))->H3 dx=some (.xd [(f,y)])->(∀ b o,H2 b=some o->b≠a->H3 b=some o)->D.nx σ H3
theorem qyh {X:Cx} {o value:Expr} {f:Str} {pos pos':Pos} {ta tv:TE} (ha:PE X o ta) (hv:PE X value tv) (hs:swapsWith value (some (.Attribute o f pos')) pos.line X.env=pure false):PS X (.Assign [.Attribute o f pos'] value pos) (qCy X.K ta tv f):=by
 intro pins s σ H D I h;refine plainObj_wpAny_Assign_Attribute (thn (hv pins s σ H _ I h) λu s1 hq1=>?_) hs;obtain ⟨y,H1,I1,ry,q⟩:=hq1;refine thn (ha pins s1 σ H1 _ I1 q) λov s2 hq2=>?_
 obtain ⟨x,H2,I2,rx,a,C,fI,ex,ea,hE,q2⟩:=hq2;subst ex;obtain rfl:ov=Value.ref a:=rx;obtain ⟨⟨oe,vs,h1,hc,hdn,hd,h6,hv1⟩,_⟩:=(show ObjOk X.prog X.w H2 s2.heap a (qpe a (.ref C) none) from I2.hok a _ ea);obtain ⟨hh,g,d,t,os⟩:=s2;refine qs5 I2.kIn (qoh I2.kIn hE.e) hE.sa hE.na hE.x.ob h1 hc hd hdn λh' tk' hx' hn' hk=>?_
 have h1':hh.get? a=some oe:=h1;have hne:hh.objs.size≠a:=Nat.ne_of_gt (Heap.lt_size h1');have hfree:H2 hh.objs.size=none:=I2.hok.fresh (Nat.le_refl _);obtain ⟨oD,esD,epD,hoD,_⟩:=id hn';have hpush:(hh.push oD).get? hh.objs.size=some oD:=Heap.get?_push_size hh (Heap.get?_some_iff.mp hoD).2;have I3:=I2.laid (a:=hh.objs.size) (o:=.xd [(f,y)]) (h':=hh.push oD) (t':=tk') (λb u q=>Heap.get?_push_of_some _ q) (Nat.le_refl _) ⟨_,hn'.at (λo q=>by rw[hoD] at q;cases q;exact hpush),λg=>by
  show RelO (List.lookup g [(f,y)]) (if g=f then some u else none)
  by_cases e:g=f
  ·subst e
   rw[if_pos rfl,List.lookup_cons];simp only[beq_self_eq_true];exact ry
  ·rw[if_neg e,List.lookup_cons]
   have:(g == f)=false:=by simpa using e
   rw[this];exact True.intro⟩
 have I4:=I3.write (x:=a) (e:=a) (o:=qpe a (.ref C) (some hh.objs.size)) (h':=h') (t':=tk') (by rw[qat (Ne.symm hne),ea];exact True.intro) (.inl rfl) (λb u hb q=>?_) ⟨_,hx'⟩ (qoi hx' hc rfl hd h6 hv1)
 ·refine ⟨σ,_,I4,q2 hh.objs.size _ hfree hne qa2 (by rw[qat hne];exact qa2) λb o e hb=>?_⟩
  rw[qat hb,qat (qai e hfree)];exact e
 ·rcases Heap.get?_push_cases q with ⟨rfl,rfl⟩|q
  ·exact hoD
  ·exact hk b u hb q
structure qAq (K:Frag) (B:Addr):Prop where
 sp:PySem.W.specialIn K (.ref B) "__getattribute__" = some (some (.builtin "type.__getattribute__"))
 rd:PySem.W.readsIn K B (.type "type")=true
 fi:PySem.W.findCls K (.ref B) (.type "type") "__init__" = some (.val (.builtin "ValueError.__init__"))
def qAr (K:Frag) (t:TA):TE:=λσ H Q=>t σ H λvs H1=>∃ a C fI fld dd rest,vs=.ref a :: rest/\rest.length<=1000/\qAo K C fI fld/\H1 a=some (qpe a (.ref C) dd)/\Q .non H1
theorem qAs {H:Hp} {a:Addr} {o:HO} (h:H a=some o):upd H a o=H:=by
 funext b
 by_cases e:b=a
 ·subst e;rw[qa2,h]
 ·rw[qat e]
theorem qvn {X:Cx} {B:Addr} {x:Str} {np apos pos:Pos} {e:Expr} {es:List Expr} {t:TA} {pl:Sem Bool} (hg:Gl X x) (hm:X.mg x=some (.ref B)) (hB:qAq X.K B) (ha:PA X (e :: es) t) (hdb:(x == ("__debug__" : Str))=false:=by decide)
  (he:starEach (e :: es) X.env=(false,eval e X.env) :: starEach es X.env:=by rfl) (hpl:(backTo pos (starEach es X.env)).any (·.1)=false:=by rfl)
  (ht:eval (.Call (.Attribute (.Name x np) "__init__" apos) (e :: es) [] pos) X.env=(do
   let ov <- eval (.Name x np) X.env
   standAt apos.atName
   let (f,first) <- holding [ov] (getMethod ov "__init__" pl)
   callWith pos f first (backTo pos (starEach (e :: es) X.env)) (backToKw pos (keywordEach [] X.env))):=by rfl) :
  PE X (.Call (.Attribute (.Name x np) "__init__" apos) (e :: es) [] pos) (qAr X.K t):=by
 intro pins s σ H Q I h;refine PySem.W.methodCall_KW (pl:=pl) (qdp I hg hm ?_ hdb) ht;refine PySem.W.method_cls I.kIn hB.sp (PySem.W.cls_value I.kIn hB.rd hB.fi rfl ?_);refine PyProof.Rows.callWith_builtin1 (thn (ha pos pins _ σ H _ (I.tok _) h) λus s1 hq=>?_) he hpl;obtain ⟨vs,H1,I1,r1,a,C,fI,fld,dd,rest,ev,hl,hE,hx,q⟩:=hq;subst ev
 cases us with
 | nil=>cases r1
 | cons u us =>
  cases r1 with
  | cons r0 r1 =>
   cases (show u=Value.ref a from r0)
   obtain ⟨⟨oe,ws,h1,hc,hdn,hd,h6,hv1⟩,_⟩:=(show ObjOk X.prog X.w H1 s1.heap a (qpe a (.ref C) dd) from I1.hok a _ hx);obtain ⟨hh,g,d,t,os⟩:=s1;refine qk9 (qoh I1.kIn hE.e) h1 hc hd (by omega) (by rw[<- r1.length,sizeLine_eq];omega) λh' v0 hk hx'=>?_
   have I2:=I1.write (x:=a) (e:=a) (o:=qpe a (.ref C) dd) (h':=h') (t':=t) (by rw[hx];exact True.intro) (.inl rfl) (λb u hb q=>hk b u hb q) ⟨_,hx'⟩ (qoi hx' hc hdn rfl (by simp[h6]) (by rw[Array.getElem?_setIfInBounds_ne (by decide)];exact hv1));rw[qAs hx] at I2;exact ⟨.non,H1,I2,rfl,q⟩
theorem qCz {K:Frag} {h:Heap} {f:Addr} (X:K.In h) (e:PySem.W.isFn K (.ref f)=true):∃ o,h.get? f=some o/\o.cls=.type "function" :=by
 unfold PySem.W.isFn PySem.W.typeIn at e;obtain ⟨o,ho,hc⟩:=Option.map_eq_some_iff.mp (beq_iff_eq.mp e);exact ⟨o,X _ _ ho,hc⟩
def qqz (H:Hp) (e:Addr):Hp:=λb=>if b=e then none else H b
theorem qih {H:Hp} {e b:Addr} (h:b≠e):qqz H e b=H b:=if_neg h
theorem qoj {H:Hp} {e:Addr}:qqz H e e=none:=if_pos rfl
theorem Inv.drop {X:Cx} {σ:St} {H:Hp} {s:Shared} {e:Addr} {φ:Heap->Prop} (I:Inv X [] σ H s) (he:H e=some (.ext φ)):Inv X [] σ (qqz H e) s:=by
 have key:∀ b o,H b=some o->(∀ ψ,o≠.ext ψ)->qqz H e b=some o:=λb o q n=>by
  rw[qih (λz=>by rw[z,he] at q;cases q;exact n _ rfl)];exact q
 have no:∀ b,H b=none->qqz H e b=none:=λb q=>by
  by_cases z:b=e
  ·rw[z];exact qoj
  ·rw[qih z];exact q
 refine ⟨I.ok,I.os,I.bare,⟨I.base.keep,I.base.slot,λb o q n hx=>no b (I.base.free b o q n hx),I.base.there,λb xs q=>key _ _ (I.base.tups b xs q) (by intro ψ z;cases z),λb o xs q=>key _ _ (I.base.frzs b o xs q) (by intro ψ z;cases z),λb ps q=>?_⟩,I.loc,I.cell,no _ I.free,λx c q=>no _ (I.freeC x c q),λp hp=>?_,λb u q=>?_,I.len⟩
 ·obtain ⟨m1,e1⟩:=I.base.tbls b ps q
  exact ⟨m1,key _ _ e1 (by intro ψ z;cases z)⟩
 ·obtain ⟨q,n,ne,nf,d⟩:=I.pin p hp
  exact ⟨q,no _ n,ne,nf,d⟩
 ·by_cases z:b=e
  ·rw[z,qoj] at q;cases q
  ·rw[qih z] at q
   exact (I.hok b u q).stay (λ_ _ _ q=>q) (λc q=>key _ _ q (by intro ψ z;cases z)) λc xs q=>key _ _ q (by intro ψ z;cases z)
def qpg (C:Addr) (fld:Str):Sp:=λvs H Q _=>∃ ex v,vs=[.ref ex,v]/\H ex=some (qpe ex (.ref C) none)/\∀ dx H',H dx=none->dx≠ex->H' ex=some (qpe ex (.ref C) (some dx))->H' dx=some (.xd [(fld,v)])->(∀ b o,H b=some o->b≠ex->H' b=some o)->Q .non H'
structure qDs (P:Program) (w:World) (K:Frag) (mg:Str->Option Value) (base:Heap) (C:Addr) (k:Nat) (x:Str) (ps:List Str) (fld:Str):Prop where
 ex:∃ f fd,qf6 P w K mg base CX0 k f fd ps (qpg C fld)/\mg x=some (.ref C)/\qAo K C f fld/\Binds K fd ps []
def qyi (W:XW) (C:Addr) (fld:Str) (t:TA):TS:=λ_ σ H=>t σ H λvs H1=>∃ v,vs=[v]/\∀ dx H2,New H1 H2 dx (.xd [(fld,v)])->W (.ref C) (some dx) σ H2
theorem qs7 {X:Cx} {W:XW} {C:Addr} {k:Nat} {x fld:Str} {ps:List Str} {np cpos pos:Pos} {e:Expr} {es:List Expr} {t:TA} (hW:qoc X W) (hc:X.calm=true) (D:qDs X.prog X.w X.K X.mg X.base C k x ps fld) (hr:Room (k+1) X.A) (hg:Gl X x) (ha:PA X (e :: es) t)
  (hdb:(x == ("__debug__" : Str))=false:=by decide) (he:starEach (e :: es) X.env=(false,eval e X.env) :: starEach es X.env:=by rfl) (hpl:(backTo cpos (starEach es X.env)).any (·.1)=false:=by rfl) :
  PS X (.Raise (some (.Call (.Name x np) (e :: es) [] cpos)) none pos) (qyi W C fld t):=by
 intro pins s σ H D' I h;obtain ⟨f,fd,F,hm,hE,hb⟩:=D.ex;obtain ⟨bm,N,nm,qn,bs,sn,sub,ab,col,dd,k0,k1,k2,k3,k5,mN,hC,hN,hi,hT⟩:=(qoh I.ok.mod.kin hE.e).e;rw[arm_exec_Raise];have hplain:(backTo cpos (starEach (e :: es) X.env)).any (·.1)=false:=by rw[he];show (false || (backTo cpos (starEach es X.env)).any (·.1))=false;rw[hpl];rfl
 have main:wpAny (model X.prog X.w) X.A (eval (.Call (.Name x np) (e :: es) [] cpos) X.env) (λv s₁=>∃ ex dx vs sl,v=.ref ex/\s₁.heap.get? C=some (excClassObj nm qn C N bs bm true sn sub ab col dd k0 k1 k2 k3 k5 "ValueError.__new__") /\
   s₁.heap.get? ex=some ⟨.ref C,dx,.fields vs,sl⟩/\vs[1]?=some .none/\X.xe (.ref ex) s₁) X.xe s:=by
  refine wpAny_Call_ofName (qdp I hg hm ?_ hdb);unfold callWith;have h2:=ha cpos pins s σ H _ I h;rw[he] at h2 ⊢;refine wpAny_bind (wpAny_holding (Calls.evalArgs_plain (thn h2 λus s1 hq=>wpAny_bind (wpAny_standAt ?_))));obtain ⟨vs,H1,I1,r,v,ev,q⟩:=hq;subst ev;obtain ⟨u,rfl,ru⟩:=vals1 r;rw[<- he];simp only[hplain];have hC1:=I1.bk _ _ hC;refine wpAny_bind (wpAny_keeperOf_exc hC1 ?_);have J:Inv X [] σ H1 s1:=I1.pins_of (by simp);obtain ⟨oI,hfI,hfc⟩:∃ oI,s1.heap.get? f=some oI/\oI.cls=.type "function" :=qCz I1.kIn hE.fn;obtain ⟨hh,g,d,tk,os⟩:=s1;refine wpAny_bind (qs3 (hT.keeps I1.bk) hC1 (qAf I1.bk hN) hi hfI hfc (λh' hk hx=>?_) (by show 1<=sizeLine;rw[sizeLine_eq];omega));have hfree:H1 (hh.objs.size+1)=none:=J.hok.fresh (Nat.le_succ _);have J2:=J.laid (a:=hh.objs.size+1) (o:=qpe (hh.objs.size+1) (.ref C) none) (h':=h') (t':=tk) hk (Nat.le_succ _) (qoi hx rfl rfl rfl rfl rfl);have r2:Vals [V.ref (hh.objs.size+1),v] [Value.ref (hh.objs.size+1),u]:=.cons rfl (.cons ru .nil);have hsp:qpg C fld [V.ref (hh.objs.size+1),v] (upd H1 (hh.objs.size+1) (qpe (hh.objs.size+1) (.ref C) none)) (λw' H3=>w'=.non/\∃ dx,H3 (hh.objs.size+1)=some (qpe (hh.objs.size+1) (.ref C) (some dx))/\W (.ref C) (some dx) σ (qqz H3 (hh.objs.size+1))) (λ_ _ _=>False):=by
   refine ⟨_,v,rfl,qa2,λdx H3 f1 ne h3 h4 h5=>⟨rfl,dx,h3,q dx _ ⟨λb o e=>?_,?_,by rw[qih ne];exact h4⟩⟩⟩
   ·have hb:b≠hh.objs.size+1:=qai e hfree
    rw[qih hb];exact h5 b o (by rw[qat hb];exact e) hb
   ·rw[qat ne] at f1;exact f1
  have hl:[Value.ref (hh.objs.size+1),u].length=ps.length:=by rw[<- r2.length];exact F.len _ _ _ _ hsp
  refine wpAny_call (codeAny_mono (F.run _ X.stack _ _ ⟨[Value.ref (hh.objs.size+1),u],[]⟩ [Value.ref (hh.objs.size+1),u] _ _ _ (hr.make C [u] []) (J2.env0.make C [u] []) (hb _ [Value.ref (hh.objs.size+1),u] J2.kIn (by rw[List.append_nil];exact hl)) r2 hsp) λr s' hq'=>?_)
  cases r with
  | error e=>exact False.elim hq'
  | ok fl =>
   cases fl with
   | ret u' =>
    obtain ⟨w',H3,I3,rv,ev,dx,h3,hw⟩:=J2.after hq';subst ev;refine ⟨rv,wpAny_bind (wpAny_holding (wpAny_point (wpAny_pure ?_)))⟩;obtain ⟨⟨oe,ws,g1,gc,gd,gf,g6,gv1⟩,_⟩:=(show ObjOk X.prog X.w H3 s'.heap _ (qpe (hh.objs.size+1) (.ref C) (some dx)) from I3.hok _ _ h3);have I4:=I3.drop h3;refine ⟨_,oe.dict,ws,oe.slots,rfl,I3.bk _ _ hC,?_,gv1,hW.2 _ _ ⟨_,.ref C,some dx,σ,_,rfl,I4,⟨J.fpX hW.1 (Heap.get?_none_of_le (Nat.le_succ _)) qoj,.inl ⟨oe,ws,g1,gc,gd,gf,gv1⟩⟩,hw⟩⟩;rw[g1,<- gc,<- gf]
   | next=>exact False.elim hq'
   | brk=>exact False.elim hq'
   | cont=>exact False.elim hq'
 exact wpAny_bind (wpAny_standAt (qqy (hT.hasType (by decide +kernel)) (I.ok.hd hc) (wpAny_bind (wpAny_mono main (λv s₃ h₃=>wpAny_bind (wpAny_standAt (wpAny_pure h₃))) λ_ _ x=>x))))
open PySem PySem.Spec PyProof.Rows
def qvo (t u:TE):TE:=λσ H Q=>t σ H Q\/u σ H Q
theorem qbz {X:Cx} {e:Expr} {t u:TE} (ht:PE X e t) (hu:PE X e u):PE X e (qvo t u):=λpins s σ H Q I h=>h.elim (ht pins s σ H Q I) (hu pins s σ H Q I)
structure Mk0 (K:Frag) (C:Addr):Prop where
 makes:PySem.W.makesIn K C=true
 init:PySem.W.findIn K (.ref C) "__init__" = some (some (.builtin "object.__init__"))
 kp:keepIn K (.ref C)=true
def qC0 (C:Addr):TE:=λ_ H Q=>∀ x dx H',Same H H'->H x=none->H' x=some (.ins C dx [])->Q (.ref x) H'
theorem qii {X:Cx} {C:Addr} {x:Str} {p pos:Pos} (M:Mk0 X.K C) (hg:Gl X x) (hm:X.mg x=some (.ref C)) (hdb:(x == ("__debug__" : Str))=false:=by decide):PE X (.Call (.Name x p) [] [] pos) (qC0 C):=by
 intro pins s σ H Q I h;refine wpAny_Call_Name_kw (qdp I hg hm ?_ hdb);refine PySem.W.callWith_K0 I.kIn M.kp ?_;have I2:=Inv.made (C:=C) I;have f1:H (s.heap.objs.size+1)=none:=I.hok.fresh (Nat.le_succ _);have f2:H s.heap.objs.size=none:=I.hok.fresh (Nat.le_refl _);have hq:=h (s.heap.objs.size+1) s.heap.objs.size (upd (upd H s.heap.objs.size (.own (s.heap.objs.size+1))) (s.heap.objs.size+1) (.ins C s.heap.objs.size [])) ((qff f2).trans (qff (by rw[qat (Nat.ne_of_gt (Nat.lt_succ_self _))];exact f1))) f1 qa2;have Y:=PySem.W.makes_of (M:=model X.prog X.w) I.kIn M.makes;have kin:=I.kIn;clear I h f1 f2;obtain ⟨hh,g,d,t,os⟩:=s;refine wpAny_call (qr2 kin M.makes M.init (λself=>PySem.W.Looks.of_pure (PySem.W.oi_bind self)) ?_);have e2:((hh.push PySem.W.emptyDict).push (PySem.W.instObj C hh.objs.size)).get? (hh.objs.size+1)=some (PySem.W.instObj C hh.objs.size):=by
  have:=Heap.get?_push_size (hh.push PySem.W.emptyDict) (o:=PySem.W.instObj C hh.objs.size) rfl
  rwa [Heap.size_push] at this
 have t1:PySem.W.Looks (model X.prog X.w) ((hh.push PySem.W.emptyDict).push (PySem.W.instObj C hh.objs.size)) (typeOf (.ref (hh.objs.size+1))) (.ref C):=(PySem.W.Looks.ld e2).andThen .now;have t2:PySem.W.Looks (model X.prog X.w) ((hh.push PySem.W.emptyDict).push (PySem.W.instObj C hh.objs.size)) (isInstance (.ref (hh.objs.size+1)) (.type "object")) true:=t1.andThen (Y.top.keeps λb o e=>Heap.get?_push_of_some _ (Heap.get?_push_of_some _ e));refine codeAny_call_builtin PySem.W.oi_plain PySem.W.entry_oi (@PySem.W.check_slot (model X.prog X.w) _ _ _ "object.__init__" "object" "__init__" (.ref (hh.objs.size+1)) [] [] _ PySem.W.oi_kind PySem.W.oi_split t2 (PySem.W.oi_args (.ref (hh.objs.size+1))) ?_);rw[PySem.W.oi_run];exact wpAny_pure (And.intro rfl ⟨.ref _,_,I2,rfl,hq⟩)
open PySem PySem.Spec PyProof.Rows PySem.Builtin PySem.Builtin.Str
end L2
namespace L2
open PySem PySem.Spec PyProof.Rows PySem.W
open PySem PySem.Spec PyProof.Rows PySem.W
section
variable {prog:Program} {w:World} {A:Around} {E:Value->Shared->Prop} {s:Shared}
theorem qq0 {a:Addr} {vs:List Value} {n:Nat} {P:Fin->Shared->Prop} {ks:List (List Int)} (ho:s.heap.get? a=some (seqObj "list" vs.toArray n)) (h2:2<=vs.length) (h64:vs.length<64) (hl:vs.length=ks.length)
  (hT:∀ (i:Nat) v k,vs[i]?=some v->ks[i]?=some k->qsy s.heap v k/\k≠[])
  (h:∀ p:Array Nat,PermA ks.length p->qrm (ltK ks) p ks.length->P (.done (.ret .none)) { s with heap:=sortedHeap s.heap a vs (p.map λi=>vs.getD i .none) }):wpAny (model prog w) A (Builtin.«list.sort» ⟨[.ref a],[]⟩) P E s:=by
 rw[list_sort_plain];have la:a<s.heap.objs.size:=Heap.lt_size ho;refine wpAny_bind (listItems_at ho rfl ?_);refine wpAny_bind (listUpdate_at ho rfl ?_);obtain ⟨e1,h1⟩:∃ e1,(s.heap.update a (Obj.mapSeq λ_=>#[])).get? a=some (seqObj "list" #[] e1):=⟨_,get?_update_seq ho (λ_=>#[])⟩;refine wpAny_bind (seqEpoch_at h1 rfl ?_);refine wpAny_bind (wpAny_newTuple ?_ (by simp only[List.toList_toArray];rw[sizeLine_eq];omega));refine wpAny_bind (wpAny_newList ?_);refine wpAny_holding ?_;have h6:(((s.heap.update a (Obj.mapSeq λ_=>#[])).push (seqObj "tuple" vs.toArray 0)).push (seqObj "list" #[] 0)).get? a=some (seqObj "list" #[] e1):=by
  rw[Heap.get?_push_ne _ _ _ (by rw[size_push',Heap.size_update];exact Nat.ne_of_lt (Nat.lt_succ_of_lt la)),Heap.get?_push_ne _ _ _ (by rw[Heap.size_update];exact Nat.ne_of_lt la)];exact h1
 show wpAny (model prog w) A _ P E { s with heap:=((s.heap.update a (Obj.mapSeq λ_=>#[])).push (seqObj "tuple" vs.toArray 0)).push (seqObj "list" #[] 0) }
 obtain ⟨s3,es3⟩:∃ s3:Shared,s3={ s with heap:=((s.heap.update a (Obj.mapSeq λ_=>#[])).push (seqObj "tuple" vs.toArray 0)).push (seqObj "list" #[] 0) }:=⟨_,rfl⟩;have hT3:∀ (i:Nat) v k,vs[i]?=some v->ks[i]?=some k->qsy s3.heap v k/\k≠[]:=λi v k q1 q2=>by
  obtain ⟨⟨b,o,xs,e,rfl,g1,g2,g3,g4⟩,hne⟩:=hT i v k q1 q2;refine ⟨⟨b,o,xs,e,rfl,?_,g2,g3,g4⟩,hne⟩;have hba:b≠a:=λz=>by
   subst z;rw[ho] at g1;cases g1;have g2':(Value.type "list" : Value)=Value.type "tuple" :=g2;injection g2' with e'
   exact absurd e' (by decide)
  rw[es3];exact Heap.get?_push_of_some _ (Heap.get?_push_of_some _ ((Heap.SameBut.update s.heap a _).extBut b o hba g1))
 obtain ⟨fs,f1,f2,f3⟩:=qsz hl hT3;have z2:¬ vs.toArray.size<2:=by simpa using by omega
 dsimp only;rw[if_neg z2,if_neg z2,<- es3];refine wpAny_bind (kat_kind (T:=.type "int") f1 (by omega) (λv hv=>?_) (by decide) ?_)
 ·obtain ⟨i,t,rfl⟩:=f3 v hv
  exact Looks.of_pure rfl
 have hrun:=kas_runs (prog:=prog) (w:=w) (A:=A) (E:=E) (κ:=tuples' true) (it:=pairsOf vs) (n:=ks.length) (s:=s3) (G:=λp s'=>s'=s3/\PermA ks.length p/\qrm (ltK ks) p ks.length)
  (Q:=λ_ st' s'=>s'=s3/\failedOf st'=none/\∃ p,arrOf st'=p.map (kas_item (pairsOf vs))/\PermA ks.length p/\qrm (ltK ks) p ks.length) (by omega) (by omega)
  (λp st' s' hz ha hf hG=>⟨hG.1,hf,p,ha,hG.2⟩)
  (KW.run (λi j C hi hj hC=>by
   unfold kas_cmp;rw[kas_item_eq,kas_item_eq];have q1:vs[i]?=some (vs.getD i .none):=by rw[List.getD_eq_getElem?_getD,List.getElem?_eq_getElem (by omega)];rfl
   have q2:vs[j]?=some (vs.getD j .none):=by rw[List.getD_eq_getElem?_getD,List.getElem?_eq_getElem (by omega)];rfl
   have q3:ks[i]?=some (ks.getD i []):=by rw[List.getD_eq_getElem?_getD,List.getElem?_eq_getElem hi];rfl
   have q4:ks[j]?=some (ks.getD j []):=by rw[List.getD_eq_getElem?_getD,List.getElem?_eq_getElem hj];rfl
   exact qwz (hT3 i _ _ q1 q3).1 (hT3 j _ _ q2 q4).1 hC) (qpc (qAm ks) (by omega)))
 have est:kas_st (tuples' true) (pairsOf vs) (List.range ks.length).toArray=SortSt.mk' (tuples' true) (vs.toArray.zip vs.toArray) #[] 7 none:=by
  unfold kas_st;have:=kas_range (pairsOf vs);rw[pairsOf_size,hl] at this;rw[this];rfl
 rw[est] at hrun
 show wpAny (model prog w) A (sortRuns'.run (SortSt.mk' (tuples' true) (vs.toArray.zip vs.toArray) #[] 7 none) >>= _) P E s3
 refine wpAny_bind (wpAny_mono hrun (λr s' hq=>?_) λ_ _ z=>z);obtain ⟨rfl,hf,p,hp,hq⟩:=hq;have h6':s'.heap.get? a=some (seqObj "list" #[] e1):=by rw[es3];exact h6
 have hz:((arrOf r.2).map (·.2)).size<=sizeLine:=by rw[Array.size_map,hp,Array.size_map,hq.1.sz,sizeLine_eq];omega
 refine wpAny_bind (seqEpoch_at h6' rfl ?_);refine wpAny_bind (listUpdate_at h6' rfl ?_ (hsz2:=Nat.le_succ_of_le hz));rw[hf];simp only[bne_self_eq_false,Bool.false_eq_true,if_false];refine wpAny_pure ?_;have:=h p hq.1 hq.2;rw[es3];rw[hp,Array.map_map];have ef:((λx:Keyed=>x.2) ∘ kas_item (pairsOf vs))=λi=>vs.getD i .none:=by
  funext i
  show (kas_item (pairsOf vs) i).2=_
  rw[kas_item_eq]
 rw[ef];exact this
theorem qs8 {a:Addr} {vs:List Value} {n:Nat} {P:Fin->Shared->Prop} {ks:List (List Int)} (ho:s.heap.get? a=some (seqObj "list" vs.toArray n)) (h64:vs.length<64) (hl:vs.length=ks.length)
  (hT:∀ (i:Nat) v k,vs[i]?=some v->ks[i]?=some k->qsy s.heap v k/\k≠[])
  (h:∀ idx:List Nat,idx.Perm (List.range ks.length)->(pick idx ks []).Pairwise (λk l=>blt l k=false)->P (.done (.ret .none)) { s with heap:=sortedHeap s.heap a vs (pick idx vs .none).toArray }):wpAny (model prog w) A (Builtin.«list.sort» ⟨[.ref a],[]⟩) P E s:=by
 by_cases h2:vs.length<2
 ·refine qj7 ho h2 ?_
  have:=h (List.range ks.length) (.refl _) (by
   rw[qdj]
   match ks,hl with
   | [],_=>exact .nil
   | [k],_=>exact List.pairwise_singleton _ _
   | _ :: _ :: _,hl=>simp at hl;omega)
  rw[<- hl,qdj] at this;rw[qss];exact this
 ·refine qq0 ho (by omega) h64 hl hT λp hp ha=>?_
  have e:(p.map λi=>vs.getD i .none)=(pick p.toList vs .none).toArray:=by
   apply Array.ext'
   simp[pick]
  rw[e];refine h p.toList hp.perm ?_;rw[List.pairwise_iff_getElem];intro i j hi hj hij;have hs:=hp.sz;have li:i<p.size:=by simpa [pick] using hi
  have lj:j<p.size:=by simpa [pick] using hj
  have:=ha i j hij (by omega);unfold ltK at this;rw[Array.getD_eq_getD_getElem?,Array.getElem?_eq_getElem lj,Array.getD_eq_getD_getElem?,Array.getElem?_eq_getElem li] at this
  simpa [pick] using this
theorem qmk {l:Addr} {vs:List Value} {ks:List (List Int)} {Q:Value->Shared->Prop} (hL:s.heap.IsList l vs.toArray) (h64:vs.length<64) (hl:vs.length=ks.length)
  (hT:∀ (i:Nat) v k,vs[i]?=some v->ks[i]?=some k->qsy s.heap v k/\k≠[])
  (h:∀ idx:List Nat,idx.Perm (List.range ks.length)->(pick idx ks []).Pairwise (λk l=>blt l k=false)->Q (.ref (s.heap.objs.size+1)) { s with heap:=sortedAll s.heap vs (pick idx vs .none).toArray }):wpAny (model prog w) A (call (.builtin "sorted") [.ref l]) Q E s:=by
 refine Calls.call_function_entry kind_sorted plain_sorted entry_sorted (args_sorted1 _) ?_;unfold Builtin.«sorted»;refine wpAny_bind (m:=checkCount "sorted" 1 1 _) (wpAny_pure ?_);refine wpAny_bind (collect_list hL ?_ (by rw[sizeLine_eq];omega));refine wpAny_bind (wpAny_newList ?_ (by rw[sizeLine_eq];omega));have hsz:((s.heap.push (seqObj "list" #[] 0)).update s.heap.objs.size (Obj.mapSeq λx=>x ++ vs.toArray)).objs.size=s.heap.objs.size+1:=by rw[Heap.size_update,size_push']
 have hS:(((s.heap.push (seqObj "list" #[] 0)).update s.heap.objs.size (Obj.mapSeq λx=>x ++ vs.toArray)).push (seqObj "list" vs.toArray 0)).get? (s.heap.objs.size+1)=some (seqObj "list" vs.toArray 0):=by
  rw[<- hsz];exact Heap.get?_push_size _ rfl
 dsimp only;rw[hsz];have kp:∀ b ob,s.heap.get? b=some ob->(((s.heap.push (seqObj "list" #[] 0)).update s.heap.objs.size (Obj.mapSeq λx=>x ++ vs.toArray)).push (seqObj "list" vs.toArray 0)).get? b=some ob:=λb ob hb=>by
  refine Heap.get?_push_of_some _ ((Heap.SameBut.update _ s.heap.objs.size _).extBut b ob (Nat.ne_of_lt (Heap.lt_size hb)) (Heap.get?_push_of_some _ hb))
 refine wpAny_bind (wpAny_holding (wpAny_call_entry slot_list_sort ⟨_,hS,rfl⟩ entry_list_sort (qs8 (s:={ s with heap:=((s.heap.push (seqObj "list" #[] 0)).update s.heap.objs.size (Obj.mapSeq λx=>x ++ vs.toArray)).push (seqObj "list" vs.toArray 0) }) hS h64 hl (λi v k q1 q2=>?_) λidx i1 i2=>⟨_,rfl,?_⟩) (args_list_sort _)))
 ·obtain ⟨⟨b,o,xs,e,e1,g1,g2⟩,hne⟩:=hT i v k q1 q2
  exact ⟨⟨b,o,xs,e,e1,kp _ _ g1,g2⟩,hne⟩
 ·exact wpAny_pure ⟨_,rfl,h idx i1 i2⟩
end
section
variable {X:Cx}
inductive qml  (x:V) (vs:List V) (H:Hp) (Q:VK):Prop
 | mk:∀ l b xs zs,x=.ref l->vs=[.ref b]->H l=some (.lst xs)->H b=some (.lst zs)->xs.length+zs.length<=sizeLine->(∀ H',But l H H'->H' l=some (.lst (xs ++ zs))->Q .non H')->qml x vs H Q
def qvp:V->List V->Hp->VK->Prop:=λx vs H Q=>qml x vs H Q
theorem qdk:MtM X "list.extend" qvp:=mt_extend.imp λ_ _ _ _ ⟨l,b,xs,zs,e1,e2,h,h2,z,q⟩=>⟨l,b,xs,zs,e1,e2,h,h2,z,q _ but_upd qa2⟩
def qAt (K:Frag):List V->Hp->VK->Prop:=λxs H Q=>∃ (p:Addr) (ys:List V) (ks:List (List Int)),xs=[.ref p]/\SqL K H p ys/\TupsH H ys ks/\ks.length<64/\(∀ k∈ks,k≠[]) /\
 ∀ ms zs l H',ms.Perm ks->ms.Pairwise (λk l=>blt l k=false)->TupsH H zs ms->New H H' l (.lst zs)->Q (.ref l) H'
theorem qmm:CallR X (.builtin "sorted") (qAt X.K):=by
 intro pins s σ H xs us Q I r h;obtain ⟨p,ys,ks,rfl,hq,hT,h64,hne,q⟩:=h;obtain ⟨u,rfl,ru⟩:=vals1 r
 cases (show u=Value.ref p from ru)
 obtain ⟨its,rv,pl,hz⟩:=I.list hq;have l1:=hT.len;have l2:=rv.length;refine qmk pl.isList (by omega) (ks:=ks) (by omega) (λi v k q1 q2=>?_) λidx i1 i2=>?_
 ·obtain ⟨x,qx⟩:∃ x,ys[i]?=some x:=⟨_,List.getElem?_eq_getElem (by have:=(List.getElem?_eq_some_iff.mp q2).1;omega)⟩
  obtain ⟨a,rfl,ha⟩:=hT.get qx q2;have hv:v=Value.ref a:=by
   have hx:=(List.getElem?_eq_some_iff.mp qx);have hvv:=(List.getElem?_eq_some_iff.mp q1);have:=vals_pick.vals_ix rv hx.1 hvv.1;rw[hx.2,hvv.2] at this;exact this
  subst hv;exact ⟨qs1 I ha,hne k (List.mem_of_getElem? q2)⟩
 ·have hi:∀ i∈idx,i<ks.length:=λi h=>List.mem_range.mp (i1.mem_iff.mp h)
  obtain ⟨e,he⟩:=sortedAll_at s.heap its (pick idx its .none).toArray;have vp:Vals (pick idx ys .non) (pick idx its .none):=vals_pick rv (λi h=>by have:=hi i h;omega);refine ⟨.ref _,_,I.laid (t':=s.toks) (o:=.lst (pick idx ys .non)) (λ_ _=>sortedAll_old) (Nat.le_succ _) ⟨?_,pick idx its .none,e,vp,he⟩,rfl,q (pick idx ks []) (pick idx ys .non) _ _ (qmi i1) i2 (hT.pick hi) (qa8 (I.hok.fresh (Nat.le_succ _)))⟩;have:=i1.length_eq;rw[List.length_range] at this
  show (pick idx ys .non).length<=_
  unfold pick;rw[List.length_map,sizeLine_eq];omega
end
open PySem PySem.Spec PyProof.Rows
theorem qyj:typeLookup (.type "list") "keys" = pure none:=am_miss_of_fast (by decide +kernel)
theorem qs9 {prog:Program} {w:World} {A:Around} {E:Value->Shared->Prop} {s:Shared} {a:Addr} {o:Obj} {xs:Array Value} {k:Nat} {Q:Option Value->Shared->Prop}
  (hx:s.heap.get? a=some o) (hc:o.cls=.type "list") (hdat:o.data=.seq xs k) (hd:o.dict=none) (hA:A.handled=none)
  (h:∀ h' tk e,Heap.NewExcOf s.heap h' e "AttributeError" -> Q none { s with heap:=h',toks:=tk }) :
  wpAny (model prog w) A (getAttr? (.ref a) "keys") Q E s:=by
 obtain ⟨c,dct,dat,sl⟩:=o;simp only at hc hdat hd;subst hc hdat hd;obtain ⟨hp,g,d,tk,os⟩:=s;have hT:∀ tk',(⟨hp,g,d,tk',os⟩:Shared).TypeIs (.ref a) "list" :=λ_=>⟨_,hx,rfl⟩
 have f1:=sub_AttributeError;have f3:=F.slot_list_getattribute.lookup;have f4:=F.slot_list_getattribute.bind (.ref a);have f5:=am_list_getattr_none;have hn:(["__module__", "__name__", "__qualname__", "__doc__", "__annotations__"]:List Str).contains "keys" = false:=by decide +kernel
 unfold getAttr? getAttrBy? getAttrBy
 repeat (any_goals (first|assumption|exact hT _|((with_reducible show wpAny _ _ (call (Value.builtin "list.__getattribute__") _ _) _ _ _);refine call_meets F.slot_list_getattribute (hT _) am_entry_list_getattribute (F.args_list_getattribute_2 _ _) (meets_getattribute_miss_list a xs k sl "keys" _ qyj hn (by decide +kernel)) ⟨hx,hA,λh' tk' e hx'=>?_⟩)|wp_step))
 obtain ⟨t',u',he⟩:=hx'.there
 show wpAny _ _ (getattributeRaised _ _ _ _ _ _ _) _ _ _
 unfold getattributeRaised;have hTe:∀ tk',(⟨h',g,d,tk',os⟩:Shared).TypeIs (.ref e) "AttributeError" :=λ_=>⟨_,he,rfl⟩
 repeat (any_goals (first|assumption|exact hTe _|wp_step))
 exact h _ _ _ hx'.of
theorem qhp:plainId "dict.update.loop" = true:=by decide +kernel
theorem qph:entryFor table "dict.update.loop" = some Builtin.«dict.update.loop» :=entryFor_of_fast (by kernel_rfl)
section
variable {prog:Program} {w:World} {A:Around} {R:Result->Shared->Prop} {I:Addr} {fp wr:List Addr} {n:Nat} {P:Nat->Value->Prop} {St:Nat->Heap->Prop} {K:Type} [DecidableEq K] {knd:KeyKind prog w K}
theorem qyk (W:Walks prog w A.in1 I fp wr n P St) (D:Addr) (hDf:D ∉ fp) (res:Value) (rs:List (K×Value)) (hn:n<=1000) (G:Addr->Obj->Prop) (hGw:∀ a o,G a o->a ∉ wr/\a≠D)
  (hP:∀ i v,P i v->∃ a o key k val m,v=.ref a/\G a o/\o.cls=.type "tuple" /\ o.data=.seq #[key,val] m/\knd.is k key=true/\rs[i]?=some (k,val)) (hl:rs.length=n) :
  ∀ (k i:Nat) (z:Int) (t:Tok) (s:Shared),n-i=k->i<=n->St i s.heap->s.heap.DictOf knd D (merged [] (rs.take i))->(∀ a o,G a o->s.heap.get? a=some o) ->
  (∀ h' tk,h'.DictOf knd D (merged [] rs)->(∀ b o,b ∉ wr->b≠D->s.heap.get? b=some o->h'.get? b=some o)->R (.ok (.ret res)) { s with heap:=h',toks:=tk }) ->
  codeAny (model prog w) A (.builtin "dict.update.loop" ⟨[.ref D,.ref I,.int z t,res],[]⟩) R s:=by
 have hDw:D ∉ wr:=λh=>hDf (W.sub _ h)
 intro k
 induction k with
 | zero =>
  intro i z t s hk hi hst hd hg hR;have hin:i=n:=by omega
  subst hin;rw[<- hl,List.take_length] at hd;refine codeAny_builtin qph ?_;rw[Around.under_plainId qhp _]
  show wpAny _ A.in1 (pyNext (.ref I) >>= _) _ _ s
  refine wpAny_bind (W.done s _ _ hst λh' tk hm=>?_)
  show wpAny _ _ (Builtin.Dict.addKeywords D [] >>= _) _ _ _
  refine wpAny_bind (wpAny_pure (wpAny_pure (hR h' tk ?_ λb o hb _ e=>hm b o hb e)));obtain ⟨o,es,ep,ho,r⟩:=hd;exact ⟨o,es,ep,hm D o hDw ho,r⟩
 | succ k ih =>
  intro i z t s hk hi hst hd hg hR;have hlt:i<n:=by omega
  refine codeAny_builtin qph ?_;rw[Around.under_plainId qhp _]
  show wpAny _ A.in1 (pyNext (.ref I) >>= _) _ _ s
  refine wpAny_bind (W.item i s _ _ hlt hst λv h' tk hp hst' hm=>?_);obtain ⟨a,o,key,kk,val,m,rfl,ga,hc,hdat,hkey,hrs⟩:=hP i v hp;have ha':=hm a o (hGw a o ga).1 (hg a o ga);obtain ⟨o1,es,ep,ho1,rr⟩:=hd;have hd':h'.DictOf knd D (merged [] (rs.take i)):=⟨o1,es,ep,hm D o1 hDw ho1,rr⟩;have lm:(merged ([]:List (K×Value)) (rs.take i)).length<=sizeLine:=by
   have:=merged_length_le ([]:List (K×Value)) (rs.take i);rw[List.length_take,List.length_nil] at this;rw[sizeLine_eq];omega
  show wpAny _ A.in1 (holding [Value.ref a] _ >>= _) _ _ _
  refine wpAny_bind (wpAny_holding (wpAny_bind (wpAny_tryCatch ?_)));unfold Builtin.Dict.pairItems;refine wpAny_bind (wpAny_typeOf (T:= "tuple") ⟨o,ha',hc⟩ ?_);rw[if_pos (by decide)];refine wpAny_bind (wpAny_seqItems ha' hdat (wpAny_pure ?_))
  show wpAny _ A.in1 (holding [key,val] (dictSet D key val)) _ _ _
  refine wpAny_holding (wpAny_dictSet_pairs (hsz:=lm) hkey hd' λh2 hd2 hs2=>?_);refine wpAny_pure ⟨plainId_quiet qhp _,ih (i+1) (z+1) 0 _ (by omega) hlt (W.frame _ _ _ hst' λb hb o e=>?_) ?_ (λb o gb=>?_) λh3 tk3 hd3 hk3=>?_⟩
  ·exact (hs2.2 b (λh:b=D=>hDf (by rw[<- h];exact hb))).trans e
  ·rw[merged_take_succ [] rs i (kk,val) hrs]
   exact hd2
  ·exact (hs2.2 b (hGw b o gb).2).trans (hm b o (hGw b o gb).1 (hg b o gb))
  ·exact hR h3 tk3 hd3 λb o hb hbD e=>hk3 b o hb hbD ((hs2.2 b hbD).trans (hm b o hb e))
end
open PySem PySem.Spec PyProof.Rows
section
variable {prog:Program} {w:World} {A:Around} {E:Value->Shared->Prop} {s:Shared} {K:Type} [DecidableEq K] {knd:KeyKind prog w K}
theorem qyl {p:Addr} {its:List Value} {rs:List (K×Value)} {Q:Value->Shared->Prop} (hl:PlainL s.heap p its.toArray) (hA:A.handled=none) (hA1:A.in1.handled=none) (hn:its.length<=1000) (hlen:rs.length=its.length)
  (hP:∀ (i:Nat) v,its[i]?=some v->∃ a o key k val m,v=.ref a/\s.heap.get? a=some o/\o.cls=.type "tuple" /\ o.data=.seq #[key,val] m/\knd.is k key=true/\rs[i]?=some (k,val))
  (h:∀ h' tk,h'.DictOf knd s.heap.objs.size (merged [] rs)->(∀ b o,s.heap.get? b=some o->h'.get? b=some o)->Q (.ref s.heap.objs.size) { s with heap:=h',toks:=tk }) :
  wpAny (model prog w) A (call (.type "dict") [.ref p]) Q E s:=by
 refine callType_codes (Q₁:=λobj s₁=>obj=.ref s.heap.objs.size/\s₁={ s with heap:=s.heap.push { cls:=.type "dict",data:=.dict #[] } }) F.kt_called_dict (F.kt_typeCall_dict_1 _) F.entry_dict_init (kt_code_dict_new _ ⟨rfl,rfl⟩) ?_;rintro obj s₁ ⟨rfl,rfl⟩;have hnew:(s.heap.push { cls:=.type "dict",data:=.dict #[] }).DictOf knd s.heap.objs.size []:=Heap.DictOf.new s.heap;obtain ⟨ol,nl,e1,e2,e3,e4⟩:=hl;have hpl:p<s.heap.objs.size:=Heap.lt_size e1;have e1':=Heap.get?_push_of_some { cls:=Value.type "dict",data:=Data.dict #[] } e1;refine ⟨hnew.typeIs,F.args_dict_init_2 _ _,?_⟩;unfold Builtin.«dict.__init__»;refine wpAny_bind ?_;unfold Builtin.Dict.selfAndRest;refine wpAny_bind (wpAny_notOrdered_dict hnew.typeIs ?_)
 show wpAny _ _ (pure (s.heap.objs.size,[Value.ref p])) _ _ _
 refine wpAny_pure ?_
 show wpAny _ _ (Builtin.Dict.updateFrom "dict.__init__" s.heap.objs.size (.ref p) [] .none) _ _ _
 unfold Builtin.Dict.updateFrom;refine wpAny_bind (wpAny_typeOf (T:= "list") ⟨ol,e1',e2⟩ ?_);rw[if_pos (by decide)];refine wpAny_bind (qs9 e1' e2 e4 e3 hA1 λh1 tk1 ex hx=>?_);have e1'':=hx.keeps _ _ e1';have hl1:h1.IsList p its.toArray:=PlainL.isList ⟨ol,nl,e1'',e2,e3,e4⟩;have hsz:s.heap.objs.size<h1.objs.size:=by
  obtain ⟨o,_,_,ho,_⟩:=hnew;exact Heap.lt_size (hx.keeps _ _ ho)
 have hpi:p≠h1.objs.size:=Nat.ne_of_lt (Nat.lt_trans hpl hsz);rw[if_pos (show (none:Option Value).isNone=true from rfl)];refine wpAny_bind (wpAny_rule (wpAny_bind (wpAny_pyIter_list hl1 ?_)));have W:=Walks.list (prog:=prog) (w:=w) (A:=A.in1.in1) hA h1.objs.size p hpi its.toArray;have keep:∀ b o,s.heap.get? b=some o->(h1.push { cls:=Value.type "list_iterator",data:=Data.fields #[Value.ref p,Value.int 0 0] }).get? b=some o:=λb o q =>
  Heap.get?_push_of_some _ (hx.keeps _ _ (Heap.get?_push_of_some _ q))
 refine wpAny_pure ⟨plainId_quiet qhp _,qyk (A:=A.in1) (knd:=knd) W s.heap.objs.size ?_ .none rs (by simpa using hn) (λa o=>s.heap.get? a=some o) (λa o q=>?_) (λi v q=>?_) (by simpa using hlen) _ 0 0 0 _ rfl (Nat.zero_le _) ⟨⟨_,Heap.get?_push_size _ rfl,rfl,rfl⟩,hl1.push _⟩ ?_ (λa o q=>keep a o q) λh' tk hd' hk=>?_⟩
 ·intro hm
  simp only[List.mem_cons,List.not_mem_nil,or_false] at hm
  rcases hm with e|e
  ·exact absurd e (Nat.ne_of_lt hsz)
  ·exact absurd e.symm (Nat.ne_of_lt hpl)
 ·have lt:=Heap.lt_size q
  exact ⟨λhm=>absurd (List.mem_singleton.mp hm) (Nat.ne_of_lt (Nat.lt_trans lt hsz)),Nat.ne_of_lt lt⟩
 ·exact hP i v (by simpa using q)
 ·obtain ⟨o,es,ep,ho,r⟩:=hnew
  exact ⟨o,es,ep,Heap.get?_push_of_some _ (hx.keeps _ _ ho),r⟩
 ·refine ⟨rfl,h h' tk hd' λb o q=>?_⟩
  have lt:=Heap.lt_size q;exact hk b o (λhm=>absurd (List.mem_singleton.mp hm) (Nat.ne_of_lt (Nat.lt_trans lt hsz))) (Nat.ne_of_lt lt) (keep b o q)
end
def qta (H:Hp) (ys:List V) (kvs:List (Key×V)):Prop:=Paired (fun (v:V) (kv:Key×V)=>∃ a,v=.ref a/\H a=some (.tup [kV kv.1,kv.2])) ys kvs
theorem qw1 {X:Cx} {pins:List (Addr×Obj)} {σ:St} {H:Hp} {s:Shared} (I:Inv X pins σ H s):∀ {ys:List V} {kvs:List (Key×V)} {its:List Value},qta H ys kvs->Vals ys its->∃ rs:List (Key×Value),rs.length=its.length/\KV kvs rs /\
  ∀ (i:Nat) v,its[i]?=some v->∃ a o key k val m,v=.ref a/\s.heap.get? a=some o/\o.cls=.type "tuple" /\ o.data=.seq #[key,val] m/\(qbo X.prog X.w).is k key=true/\rs[i]?=some (k,val)
 | _,_,_,.nil,.nil=>⟨[],rfl,.nil,λi v h=>by simp at h⟩
 | _,_,_,.cons (a:=y) (b:=kv) ⟨a,e,ha⟩ t,.cons (b:=u) ru tu=>by
  subst e
  cases (show u=Value.ref a from ru)
  obtain ⟨rs,hl,rel,hP⟩:=qw1 I t tu;obtain ⟨its2,rv,⟨o,eo,ec,n,ed⟩,_⟩:=I.tuple (SqT.of ha);obtain ⟨k1,v1,rfl,rk,rw'⟩:=Vals.two rv;refine ⟨(kv.1,v1) :: rs,by rw[List.length_cons,List.length_cons,hl],.cons ⟨rfl,rw'⟩ rel,λi v h=>?_⟩
  cases i with
  | zero =>
   cases h;exact ⟨a,o,k1,kv.1,v1,n,rfl,eo,ec,ed,qn5 rk,rfl⟩
  | succ i=>exact hP i v h
theorem qq1 {X:Cx} (hc:X.calm=true):CallR X (.type "dict") (λxs H Q=>∃ (p:Addr) (ys:List V) (kvs:List (Key×V)),xs=[.ref p]/\SqL X.K H p ys/\qta H ys kvs/\ys.length<=1000/\∀ q H',New H H' q (.dK (qh6 [] kvs))->Q (.ref q) H'):=by
 intro pins s σ H xs us Q I r h;obtain ⟨p,ys,kvs,rfl,hq,hp,hz,q⟩:=h;obtain ⟨u,rfl,ru⟩:=vals1 r
 cases (show u=Value.ref p from ru)
 obtain ⟨its,rv,pl,_⟩:=I.list hq;obtain ⟨rs,hl,rel,hP⟩:=qw1 I hp rv;have hlen:its.length=ys.length:=(Paired.length rv).symm;have hk:kvs.length=ys.length:=(Paired.length hp).symm;refine qyl pl (I.ok.hd hc) (I.ok.hd hc) (by omega) hl hP λh' tk hd hk'=>?_
 refine ⟨.ref s.heap.objs.size,_,I.laid (a:=s.heap.objs.size) (o:=.dK (qh6 [] kvs)) (h':=h') (t':=tk) hk' (Nat.le_refl _) ?_,rfl,q _ _ (qa8 (I.hok.fresh (Nat.le_refl _)))⟩;have lm:=qfd kvs [];rw[List.length_nil] at lm;refine qwp (by rw[sizeLine_eq];omega) ?_ (rel.merge .nil) hd;exact beq_false_of_ne (Nat.ne_of_gt I.big)
theorem qym:bootBuiltins "dict" = some (.type "dict"):=by decide +kernel
open PySem PySem.Spec PyProof.Rows
theorem qC1 {X:Cx}:qh4 (CX1 X.prog X.w) X E0:=λ_ _ _ _ _ _ _ ⟨_,_,_,_,_,_,_,_,_,_,_,_,_,_,_,q⟩=>q.elim
section
variable {X:Cx} {k:Nat} {ps:List Str} {sp:Sp} {dvs:List V} {ds:List Value} {x:Str} {p pos:Pos} {e:Expr} {es:List Expr} {t:TA}
theorem qAu (D:qqv X.prog X.w X.K X.mg X.base k x ps ds sp) (hr:Room k X.A) (hg:Gl X x) (hd:Vals dvs ds) (ha:PA X (e :: es) t) (hdb:(x == ("__debug__" : Str))=false:=by decide)
  (he:starEach (e :: es) X.env=(false,eval e X.env) :: starEach es X.env:=by rfl) (hpl:(backTo pos (starEach es X.env)).any (·.1)=false:=by rfl):PE X (.Call (.Name x p) (e :: es) [] pos) (qu1 sp dvs E0 t):=by
 obtain ⟨f,fd,F,hm,hk,hb⟩:=D;exact qr6 F hr hg hm hk hb hd qC1 ha hdb he hpl
end
open PySem
end L2
namespace L2
open PySem
def qyn:TE:=λ_ H Q=>∀ p H',New H H' p (.dK [])->Q (.ref p) H'
theorem qtb {X:Cx} {pos:Pos}:PE X (.Dict [] [] pos) qyn:=λpins s σ H Q I h=>qu9 pins s σ H Q I λp hp=>h p _ (qa8 hp)
open PySem
section
variable {X:Cx}
theorem jS (i:Nat) {x:Str} {e:Expr} {te:TE} {pos pos':Pos} (hN:X.N.Nodup) (he:PE X e te) (hi:X.N[i]?=some x:=by rfl) (hx:Loc X.env.scope x:=by exact Or.inl rfl) (hs:swapsWith e (some (.Name x pos')) pos.line X.env=pure false:=by rfl) (hf:X.fn x=true\/X.env.scope.names.lookup x=some .local:=by first|exact .inl rfl|exact .inr rfl|assumption):PS X (.Assign [.Name x pos'] e pos) (qBt te (qd3 i)):=qrt hN hi hx he hs hf
theorem jN (i:Nat) {x:Str} {pos:Pos} (hN:X.N.Nodup) (hi:X.N[i]?=some x:=by rfl) (hx:Loc X.env.scope x:=by exact Or.inl rfl) (hf:X.fn x=true\/X.env.scope.names.lookup x=some .local:=by first|exact .inl rfl|exact .inr rfl|assumption):PG X (.Name x pos) (qd3 i):=qn3 hN hi hx hf
theorem jM (i:Nat) {x:Str} {pos:Pos} (L:List Str) (hl:X.N=L:=by rfl) (hd:L.Nodup:=by decide +kernel) (hi:X.N[i]?=some x:=by rfl) (hx:Loc X.env.scope x:=by exact Or.inl rfl) (hf:X.fn x=true\/X.env.scope.names.lookup x=some .local:=by first|exact .inl rfl|exact .inr rfl|assumption):PG X (.Name x pos) (qd3 i):=qn3 (by rw[hl];exact hd) hi hx hf
theorem jF {k k2:Nat} {x:Str} {ps:List Str} {sp:Sp} {e:Expr} {es:List Expr} {t:TA} {p pos:Pos} (D:qaw X.prog X.w X.K X.mg X.base k x ps sp) (hr:Room k2 X.A) (ha:PA X (e :: es) t) (hk:k<=k2:=by decide) (hg:Gl X x:=by rfl) (hdb:(x == ("__debug__" : Str))=false:=by decide) (he:starEach (e :: es) X.env=(false,eval e X.env) :: starEach es X.env:=by rfl) (hpl:(backTo pos (starEach es X.env)).any (·.1)=false:=by rfl):PE X (.Call (.Name x p) (e :: es) [] pos) (qu1 sp [] E0 t):=qCo D (hr.mono hk) hg ha hdb he hpl
theorem jX {Y:Cx} {k k2:Nat} {x:Str} {ps:List Str} {sp:Sp} {e:Expr} {es:List Expr} {t:TA} {p pos:Pos} (D:qqv Y.prog Y.w Y.K Y.mg Y.base k x ps [] sp) (hr:Room k2 Y.A) (ha:PA Y.nox (e :: es) t) (hk:k<=k2:=by decide) (hs:qga Y:=by exact ⟨rfl,rfl,rfl⟩) (hg:Gl Y.nox x:=by rfl) (hdb:(x == ("__debug__" : Str))=false:=by decide) (he:starEach (e :: es) Y.nox.env=(false,eval e Y.nox.env) :: starEach es Y.nox.env:=by rfl) (hpl:(backTo pos (starEach es Y.nox.env)).any (·.1)=false:=by rfl):PE Y.nox (.Call (.Name x p) (e :: es) [] pos) (qsl sp [] (λ_ _ _ _=>False) t):=qsn (qsp hs) D (hr.mono hk) hg .nil ha hdb he hpl
theorem jW {Y:Cx} {W:XW} {k k2:Nat} {x:Str} {ps:List Str} {sp:Sp} {e:Expr} {es:List Expr} {t:TA} {p pos:Pos} (D:qqv Y.prog Y.w Y.K Y.mg Y.base k x ps [] sp) (hr:Room k2 Y.A) (ha:PA (Y.wish (XE Y W)) (e :: es) t) (hk:k<=k2:=by decide) (hs:qga Y:=by exact ⟨rfl,rfl,rfl⟩) (hg:Gl (Y.wish (XE Y W)) x:=by rfl) (hdb:(x == ("__debug__" : Str))=false:=by decide) (he:starEach (e :: es) Y.env=(false,eval e Y.env) :: starEach es Y.env:=by rfl) (hpl:(backTo pos (starEach es Y.env)).any (·.1)=false:=by rfl):PE (Y.wish (XE Y W)) (.Call (.Name x p) (e :: es) [] pos) (qsl sp [] W t):=qsn (qbb hs) D (hr.mono hk) hg .nil ha hdb he hpl
theorem jC {op:CmpOp} {r:R2} {a b:Expr} {ta tb:TE} {pos:Pos} (ho:OpR X (compareOp op) r) (ha:PE X a ta) (hb:PE X b tb) (hm:behindInMarks op b=false:=by exact qwn _):PT X (.Compare a [op] [b] pos) (qzv (tOp r ta tb)):=qxq ho ha hb hm
theorem jD {op:CmpOp} {r:R2} {a b:Expr} {ta tb:TE} {pos:Pos} (ho:OpR X (compareOp op) r) (ha:PE X a ta) (hb:PE X b tb) (hm:behindInMarks op b=false:=by exact qwn _):PE X (.Compare a [op] [b] pos) (tOp r ta tb):=qxp ho ha hb hm
theorem jI {a b:Expr} {ta tb:TE} {pos:Pos} (ha:PE X a ta) (hb:PE X b tb) (hs:qn4 b:=by exact λ_ _=>rfl):PE X (.Subscript a b pos) (tOp (qCh X.K) ta tb):=qcm qsb ha hb hs
theorem jT {a b:Expr} {ta tb:TE} {pos:Pos} (ha:PE X a ta) (hb:PE X b tb) (hs:qn4 b:=by exact λ_ _=>rfl):PE X (.Subscript a b pos) (tOp (qhk X.K) ta tb):=qcm qbi ha hb hs
theorem jA1 {e1:Expr} {t1:TE} (h1:PE X e1 t1) (s1:starEach [e1] X.env=(false,eval e1 X.env) :: starEach [] X.env:=by rfl):PA X [e1] (qc2 t1 qlv):=qba h1 qc6 s1
theorem jA2 {e1 e2:Expr} {t1 t2:TE} (h1:PE X e1 t1) (h2:PE X e2 t2) (s1:starEach [e1,e2] X.env=(false,eval e1 X.env) :: starEach [e2] X.env:=by rfl) (s2:starEach [e2] X.env=(false,eval e2 X.env) :: starEach [] X.env:=by rfl):PA X [e1,e2] (qc2 t1 (qc2 t2 qlv)):=qba h1 (qba h2 qc6 s2) s1
theorem jA3 {e1 e2 e3:Expr} {t1 t2 t3:TE} (h1:PE X e1 t1) (h2:PE X e2 t2) (h3:PE X e3 t3) (s1:starEach [e1,e2,e3] X.env=(false,eval e1 X.env) :: starEach [e2,e3] X.env:=by rfl) (s2:starEach [e2,e3] X.env=(false,eval e2 X.env) :: starEach [e3] X.env:=by rfl) (s3:starEach [e3] X.env=(false,eval e3 X.env) :: starEach [] X.env:=by rfl):PA X [e1,e2,e3] (qc2 t1 (qc2 t2 (qc2 t3 qlv))):=qba h1 (qba h2 (qba h3 qc6 s3) s2) s1
theorem jA4 {e1 e2 e3 e4:Expr} {t1 t2 t3 t4:TE} (h1:PE X e1 t1) (h2:PE X e2 t2) (h3:PE X e3 t3) (h4:PE X e4 t4) (s1:starEach [e1,e2,e3,e4] X.env=(false,eval e1 X.env) :: starEach [e2,e3,e4] X.env:=by rfl) (s2:starEach [e2,e3,e4] X.env=(false,eval e2 X.env) :: starEach [e3,e4] X.env:=by rfl) (s3:starEach [e3,e4] X.env=(false,eval e3 X.env) :: starEach [e4] X.env:=by rfl) (s4:starEach [e4] X.env=(false,eval e4 X.env) :: starEach [] X.env:=by rfl):PA X [e1,e2,e3,e4] (qc2 t1 (qc2 t2 (qc2 t3 (qc2 t4 qlv)))):=qba h1 (qba h2 (qba h3 (qba h4 qc6 s4) s3) s2) s1
theorem jA5 {e1 e2 e3 e4 e5:Expr} {t1 t2 t3 t4 t5:TE} (h1:PE X e1 t1) (h2:PE X e2 t2) (h3:PE X e3 t3) (h4:PE X e4 t4) (h5:PE X e5 t5) (s1:starEach [e1,e2,e3,e4,e5] X.env=(false,eval e1 X.env) :: starEach [e2,e3,e4,e5] X.env:=by rfl) (s2:starEach [e2,e3,e4,e5] X.env=(false,eval e2 X.env) :: starEach [e3,e4,e5] X.env:=by rfl) (s3:starEach [e3,e4,e5] X.env=(false,eval e3 X.env) :: starEach [e4,e5] X.env:=by rfl) (s4:starEach [e4,e5] X.env=(false,eval e4 X.env) :: starEach [e5] X.env:=by rfl) (s5:starEach [e5] X.env=(false,eval e5 X.env) :: starEach [] X.env:=by rfl):PA X [e1,e2,e3,e4,e5] (qc2 t1 (qc2 t2 (qc2 t3 (qc2 t4 (qc2 t5 qlv))))):=qba h1 (qba h2 (qba h3 (qba h4 (qba h5 qc6 s5) s4) s3) s2) s1
theorem jA6 {e1 e2 e3 e4 e5 e6:Expr} {t1 t2 t3 t4 t5 t6:TE} (h1:PE X e1 t1) (h2:PE X e2 t2) (h3:PE X e3 t3) (h4:PE X e4 t4) (h5:PE X e5 t5) (h6:PE X e6 t6) (s1:starEach [e1,e2,e3,e4,e5,e6] X.env=(false,eval e1 X.env) :: starEach [e2,e3,e4,e5,e6] X.env:=by rfl) (s2:starEach [e2,e3,e4,e5,e6] X.env=(false,eval e2 X.env) :: starEach [e3,e4,e5,e6] X.env:=by rfl) (s3:starEach [e3,e4,e5,e6] X.env=(false,eval e3 X.env) :: starEach [e4,e5,e6] X.env:=by rfl) (s4:starEach [e4,e5,e6] X.env=(false,eval e4 X.env) :: starEach [e5,e6] X.env:=by rfl) (s5:starEach [e5,e6] X.env=(false,eval e5 X.env) :: starEach [e6] X.env:=by rfl) (s6:starEach [e6] X.env=(false,eval e6 X.env) :: starEach [] X.env:=by rfl):PA X [e1,e2,e3,e4,e5,e6] (qc2 t1 (qc2 t2 (qc2 t3 (qc2 t4 (qc2 t5 (qc2 t6 qlv)))))):=qba h1 (qba h2 (qba h3 (qba h4 (qba h5 (qba h6 qc6 s6) s5) s4) s3) s2) s1
theorem jG2 {e1 e2:Expr} {t1 t2:TG} {k:Nat} {pos:Pos} (h1:PG X e1 t1) (h2:PG X e2 t2) (hc:X.calm=true:=by rfl) (s1:(assignEach [e1,e2] X.env).map (·.2)=assign e1 X.env :: (assignEach [e2] X.env).map (·.2):=by rfl) (s2:(assignEach [e2] X.env).map (·.2)=assign e2 X.env :: (assignEach [] X.env).map (·.2):=by rfl) (hn:(assignEach [e1,e2] X.env).length=2:=by rfl) (hst:(assignEach [e1,e2] X.env).findIdx? (·.1)=none:=by rfl):PG X (.Tuple [e1,e2] k pos) (qzh X.K 2 (qg9 t1 (qg9 t2 qzg))):=qwj hc (qfb h1 (qfb h2 qrs s2) s1) hn hst
theorem jG3 {e1 e2 e3:Expr} {t1 t2 t3:TG} {k:Nat} {pos:Pos} (h1:PG X e1 t1) (h2:PG X e2 t2) (h3:PG X e3 t3) (hc:X.calm=true:=by rfl) (s1:(assignEach [e1,e2,e3] X.env).map (·.2)=assign e1 X.env :: (assignEach [e2,e3] X.env).map (·.2):=by rfl) (s2:(assignEach [e2,e3] X.env).map (·.2)=assign e2 X.env :: (assignEach [e3] X.env).map (·.2):=by rfl) (s3:(assignEach [e3] X.env).map (·.2)=assign e3 X.env :: (assignEach [] X.env).map (·.2):=by rfl) (hn:(assignEach [e1,e2,e3] X.env).length=3:=by rfl) (hst:(assignEach [e1,e2,e3] X.env).findIdx? (·.1)=none:=by rfl):PG X (.Tuple [e1,e2,e3] k pos) (qzh X.K 3 (qg9 t1 (qg9 t2 (qg9 t3 qzg)))):=qwj hc (qfb h1 (qfb h2 (qfb h3 qrs s3) s2) s1) hn hst
theorem jB2 {s1 s2:Stmt} {t1 t2:TS} (h1:PS X s1 t1) (h2:PS X s2 t2):PSs X [s1,s2] (qck t1 t2):=qaj h1 (qac h2)
theorem jB3 {s1 s2 s3:Stmt} {t1 t2 t3:TS} (h1:PS X s1 t1) (h2:PS X s2 t2) (h3:PS X s3 t3):PSs X [s1,s2,s3] (qck t1 (qck t2 t3)):=qaj h1 (qaj h2 (qac h3))
theorem jB4 {s1 s2 s3 s4:Stmt} {t1 t2 t3 t4:TS} (h1:PS X s1 t1) (h2:PS X s2 t2) (h3:PS X s3 t3) (h4:PS X s4 t4):PSs X [s1,s2,s3,s4] (qck t1 (qck t2 (qck t3 t4))):=qaj h1 (qaj h2 (qaj h3 (qac h4)))
theorem jB5 {s1 s2 s3 s4 s5:Stmt} {t1 t2 t3 t4 t5:TS} (h1:PS X s1 t1) (h2:PS X s2 t2) (h3:PS X s3 t3) (h4:PS X s4 t4) (h5:PS X s5 t5):PSs X [s1,s2,s3,s4,s5] (qck t1 (qck t2 (qck t3 (qck t4 t5)))):=qaj h1 (qaj h2 (qaj h3 (qaj h4 (qac h5))))
theorem jB6 {s1 s2 s3 s4 s5 s6:Stmt} {t1 t2 t3 t4 t5 t6:TS} (h1:PS X s1 t1) (h2:PS X s2 t2) (h3:PS X s3 t3) (h4:PS X s4 t4) (h5:PS X s5 t5) (h6:PS X s6 t6):PSs X [s1,s2,s3,s4,s5,s6] (qck t1 (qck t2 (qck t3 (qck t4 (qck t5 t6))))):=qaj h1 (qaj h2 (qaj h3 (qaj h4 (qaj h5 (qac h6)))))
theorem jB7 {s1 s2 s3 s4 s5 s6 s7:Stmt} {t1 t2 t3 t4 t5 t6 t7:TS} (h1:PS X s1 t1) (h2:PS X s2 t2) (h3:PS X s3 t3) (h4:PS X s4 t4) (h5:PS X s5 t5) (h6:PS X s6 t6) (h7:PS X s7 t7):PSs X [s1,s2,s3,s4,s5,s6,s7] (qck t1 (qck t2 (qck t3 (qck t4 (qck t5 (qck t6 t7)))))):=qaj h1 (qaj h2 (qaj h3 (qaj h4 (qaj h5 (qaj h6 (qac h7))))))
theorem jB8 {s1 s2 s3 s4 s5 s6 s7 s8:Stmt} {t1 t2 t3 t4 t5 t6 t7 t8:TS} (h1:PS X s1 t1) (h2:PS X s2 t2) (h3:PS X s3 t3) (h4:PS X s4 t4) (h5:PS X s5 t5) (h6:PS X s6 t6) (h7:PS X s7 t7) (h8:PS X s8 t8):PSs X [s1,s2,s3,s4,s5,s6,s7,s8] (qck t1 (qck t2 (qck t3 (qck t4 (qck t5 (qck t6 (qck t7 t8))))))):=qaj h1 (qaj h2 (qaj h3 (qaj h4 (qaj h5 (qaj h6 (qaj h7 (qac h8)))))))
theorem jB9 {s1 s2 s3 s4 s5 s6 s7 s8 s9:Stmt} {t1 t2 t3 t4 t5 t6 t7 t8 t9:TS} (h1:PS X s1 t1) (h2:PS X s2 t2) (h3:PS X s3 t3) (h4:PS X s4 t4) (h5:PS X s5 t5) (h6:PS X s6 t6) (h7:PS X s7 t7) (h8:PS X s8 t8) (h9:PS X s9 t9):PSs X [s1,s2,s3,s4,s5,s6,s7,s8,s9] (qck t1 (qck t2 (qck t3 (qck t4 (qck t5 (qck t6 (qck t7 (qck t8 t9)))))))):=qaj h1 (qaj h2 (qaj h3 (qaj h4 (qaj h5 (qaj h6 (qaj h7 (qaj h8 (qac h9))))))))
theorem qEl {s1 s2 s3 s4 s5 s6 s7 s8 s9 s10 s11 s12:Stmt} {t1 t2 t3 t4 t5 t6 t7 t8 t9 t10 t11 t12:TS} (h1:PS X s1 t1) (h2:PS X s2 t2) (h3:PS X s3 t3) (h4:PS X s4 t4) (h5:PS X s5 t5) (h6:PS X s6 t6) (h7:PS X s7 t7) (h8:PS X s8 t8) (h9:PS X s9 t9) (h10:PS X s10 t10) (h11:PS X s11 t11) (h12:PS X s12 t12):PSs X [s1,s2,s3,s4,s5,s6,s7,s8,s9,s10,s11,s12] (qck t1 (qck t2 (qck t3 (qck t4 (qck t5 (qck t6 (qck t7 (qck t8 (qck t9 (qck t10 (qck t11 t12))))))))))):=qaj h1 (qaj h2 (qaj h3 (qaj h4 (qaj h5 (qaj h6 (qaj h7 (qaj h8 (qaj h9 (qaj h10 (qaj h11 (qac h12)))))))))))
theorem jL0 {scope:Scope} {cl:List (Str×Addr)} (h1:closureFor scope X.env=pure cl) (h2:scope.kind=.function:=by rfl) (h3:∀ y∈scope.names,y.2≠.cell:=by decide +kernel) (h4:∀ y∈scope.names,y.2=.local->scope.names.lookup y.1=some .local:=by decide +kernel) (h5:∀ p∈cl,X.env.cells.lookup p.1=some p.2:=by intro p hp;cases hp) (h6:((relabel scope X.env).names.all λy=>(y.2 != .cell && y.2 != .free) || (cl.lookup y.1).isSome)=true:=by rfl):qve X scope cl:=qBz h1 h2 h3 h4 h5 h6
theorem jL1 {scope:Scope} {cl:List (Str×Addr)} (h1:closureFor scope X.env=pure cl) (h2:scope.kind=.function:=by rfl) (h3:∀ y∈scope.names,y.2≠.cell:=by decide +kernel) (h4:∀ y∈scope.names,y.2=.local->scope.names.lookup y.1=some .local:=by decide +kernel) (h5:∀ p∈cl,X.env.cells.lookup p.1=some p.2:=by intro p hp;simp only[List.mem_cons,List.not_mem_nil,or_false] at hp;rcases hp with rfl<;>rfl) (h6:((relabel scope X.env).names.all λy=>(y.2 != .cell && y.2 != .free) || (cl.lookup y.1).isSome)=true:=by rfl):qve X scope cl:=qBz h1 h2 h3 h4 h5 h6
theorem jL2 {scope:Scope} {cl:List (Str×Addr)} (h1:closureFor scope X.env=pure cl) (h2:scope.kind=.function:=by rfl) (h3:∀ y∈scope.names,y.2≠.cell:=by decide +kernel) (h4:∀ y∈scope.names,y.2=.local->scope.names.lookup y.1=some .local:=by decide +kernel) (h5:∀ p∈cl,X.env.cells.lookup p.1=some p.2:=by intro p hp;simp only[List.mem_cons,List.not_mem_nil,or_false] at hp;rcases hp with rfl|rfl<;>rfl) (h6:((relabel scope X.env).names.all λy=>(y.2 != .cell && y.2 != .free) || (cl.lookup y.1).isSome)=true:=by rfl):qve X scope cl:=qBz h1 h2 h3 h4 h5 h6
theorem jL3 {scope:Scope} {cl:List (Str×Addr)} (h1:closureFor scope X.env=pure cl) (h2:scope.kind=.function:=by rfl) (h3:∀ y∈scope.names,y.2≠.cell:=by decide +kernel) (h4:∀ y∈scope.names,y.2=.local->scope.names.lookup y.1=some .local:=by decide +kernel) (h5:∀ p∈cl,X.env.cells.lookup p.1=some p.2:=by intro p hp;simp only[List.mem_cons,List.not_mem_nil,or_false] at hp;rcases hp with rfl|rfl|rfl<;>rfl) (h6:((relabel scope X.env).names.all λy=>(y.2 != .cell && y.2 != .free) || (cl.lookup y.1).isSome)=true:=by rfl):qve X scope cl:=qBz h1 h2 h3 h4 h5 h6
end
end L2
namespace TB
def qDt (c k:Int):Int:=(c % 2147483647+7919*k+1)*48271 % 2147483647
def mixed (c k:Int):Int:=qDt c k*(qDt c k / 1009+69621) % 2147483647
theorem qtc (c k:Int):0<=mixed c k/\mixed c k<2147483647:=by
 unfold mixed;exact ⟨Int.emod_nonneg _ (by decide),Int.emod_lt_of_pos _ (by decide)⟩
def qgp (x:Int):Int:=if x % 4=0 then 0 else if x % 4=1 then x / 4 % 5 else if x % 4=2 then x / 4 % 100 else x / 4*(10 ^ 12+39)
theorem qvq {x:Int} (h:0<=x) (h2:x<2147483647):0<=qgp x/\qgp x<10 ^ 22:=by
 unfold qgp
 split
 ·omega
 ·split
  ·omega
  ·split<;>omega
def factor (x:Int):Int:=1+(if x % 3=0 then 0 else if x % 3=1 then x / 3 % 12 else x / 3 % 10 ^ 7)
theorem qvr (x:Int):1<=factor x/\factor x<=10 ^ 7:=by
 unfold factor
 split
 ·omega
 ·split<;>omega
def qij (c:Int):Nat->Int
 | 0=>qgp (mixed c 0)
 | k+1=>qij c k+qgp (mixed c (2*(k:Int)+2))
def qcn (c:Int):Nat->Int
 | 0=>1
 | k+1=>qcn c k*factor (mixed c (2*(k:Int)+1))
theorem qtd (c k:Int):0<=qgp (mixed c k)/\qgp (mixed c k)<10 ^ 22:=qvq (qtc c k).1 (qtc c k).2
theorem qla (c:Int):∀ k:Nat,0<=qij c k/\qij c k<10 ^ 22*((k:Int)+1)
 | 0=>by have:=qtd c 0;simp only[qij];omega
 | k+1=>by
  have h1:=qla c k;have h2:=qtd c (2*(k:Int)+2);simp only[qij];omega
theorem qik (c:Int):∀ k:Nat,1<=qcn c k/\qcn c k<=(10 ^ 7) ^ k
 | 0=>by simp[qcn]
 | k+1=>by
  have h1:=qik c k;have h2:=qvr (mixed c (2*(k:Int)+1));simp only[qcn]
  constructor
  ·have:1*1<=qcn c k*factor (mixed c (2*(k:Int)+1)):=Int.mul_le_mul h1.1 h2.1 (by omega) (by omega)
   omega
  ·rw[Int.pow_succ]
   exact Int.mul_le_mul h1.2 h2.2 (by omega) (by omega)
structure Good (ps:List (Int×Int)):Prop where
 lo:1<=ps.length
 hi:ps.length<=5
 each:∀ (i:Nat) p,ps[i]?=some p->0<=p.1/\1<=p.2
 next:∀ (i:Nat) p q,ps[i]?=some p->ps[i+1]?=some q->p.1<=q.1/\q.2 % p.2=0
def qte (g:Option Int) (last:Int):Prop:=∀ z,g=some z->last<=z
end TB
namespace TB
def cut (d a w:Int):Int:=(d-a) / w*w
def Bd (x:Int):Prop:=-(10 ^ 45)<x/\x<10 ^ 45
def qAv (ps:List (Int×Int)):Prop:=∀ (i:Nat) p,ps[i]?=some p->0<=p.1/\p.1<10 ^ 45/\1<=p.2/\p.2<10 ^ 45
theorem qyo {x w B:Int} (hw:1<=w) (hB:0<=B) (h1:-B<=x) (h2:x<B):-B<=x / w/\x / w<B:=by
 have hBw:B*1<=B*w:=Int.mul_le_mul_of_nonneg_left hw hB
 constructor
 ·refine Int.le_ediv_of_mul_le (by omega) ?_
  have:-B*w = -(B*w):=Int.neg_mul _ _;omega
 ·exact Int.ediv_lt_of_lt_mul (by omega) (by omega)
theorem qAw {d a w:Int} (hw:1<=w):cut d a w<=d-a:=by
 have h:=Int.emod_add_mul_ediv (d-a) w;have h1:=Int.emod_nonneg (d-a) (show w≠0 by omega);unfold cut;rw[Int.mul_comm] at h;omega
theorem qAx {d a w:Int} (hw:1<=w):d-a<cut d a w+w:=by
 have h:=Int.emod_add_mul_ediv (d-a) w;have h1:=Int.emod_lt_of_pos (d-a) (show 0<w by omega);unfold cut;rw[Int.mul_comm] at h;omega
theorem qw2 {d a w:Int} (hd:Bd d) (ha:0<=a) (ha':a<10 ^ 45) (hw:1<=w) (hw':w<10 ^ 45):-(4*10 ^ 45)<cut d a w/\cut d a w<4*10 ^ 45:=by
 have h1:=qAw (d:=d) (a:=a) hw;have h2:=qAx (d:=d) (a:=a) hw;unfold Bd at hd;omega
theorem qvs {ps:List (Int×Int)} {p:Int×Int} (h:ps[ps.length-1]?=some p):ps.getLast?.getD (0,1)=p:=by
 rw[List.getLast?_eq_getElem?,h];rfl
end TB
namespace TB
open PySem L2
def PairAt (H:Hp) (v:V) (p:Int×Int):Prop:=∃ a,v=.ref a/\H a=some (.tup [.int p.1,.int p.2])
def Pairs (H:Hp) (xs:List V) (ps:List (Int×Int)):Prop:=Paired (PairAt H) xs ps
theorem PairAt.same {H H':Hp} (s:Same H H') {v:V} {p:Int×Int}:PairAt H v p->PairAt H' v p:=fun ⟨a,e,h⟩=>⟨a,e,s _ _ h⟩
def qn0 (H H':Hp):Prop:=∀ b xs,H b=some (.tup xs)->H' b=some (.tup xs)
theorem Same.tup {H H':Hp} (s:Same H H'):qn0 H H':=λb xs h=>s b _ h
theorem PairAt.tupS {H H':Hp} (s:qn0 H H') {v:V} {p:Int×Int}:PairAt H v p->PairAt H' v p:=fun ⟨a,e,h⟩=>⟨a,e,s _ _ h⟩
theorem Pairs.tupS {H H':Hp} (s:qn0 H H'):∀ {xs:List V} {ps:List (Int×Int)},Pairs H xs ps->Pairs H' xs ps
 | _,_,.nil=>.nil
 | _,_,.cons r t=>.cons (r.tupS s) (Pairs.tupS s t)
theorem Pairs.same {H H':Hp} (s:Same H H') {xs:List V} {ps:List (Int×Int)} (h:Pairs H xs ps):Pairs H' xs ps:=Pairs.tupS (Same.tup s) h
theorem Pairs.length {H:Hp}:∀ {xs:List V} {ps:List (Int×Int)},Pairs H xs ps->xs.length=ps.length
 | _,_,.nil=>rfl
 | _,_,.cons _ t=>by simp[Pairs.length t]
theorem Pairs.get {H:Hp}:∀ {xs:List V} {ps:List (Int×Int)} {i:Nat} {x:V},Pairs H xs ps->xs[i]?=some x->∃ p,ps[i]?=some p/\PairAt H x p
 | _,_,_,_,.nil,e=>by simp at e
 | _,_,0,_,.cons r _,e=>by simp at e;subst e;exact ⟨_,rfl,r⟩
 | _,_,i+1,x,.cons _ t,e=>by
  obtain ⟨u,h1,h2⟩:=Pairs.get (i:=i) (x:=x) t (by simpa using e);exact ⟨u,by simpa using h1,h2⟩
theorem Pairs.get' {H:Hp}:∀ {xs:List V} {ps:List (Int×Int)} {i:Nat} {p:Int×Int},Pairs H xs ps->ps[i]?=some p->∃ x,xs[i]?=some x/\PairAt H x p
 | _,_,_,_,.nil,e=>by simp at e
 | _,_,0,_,.cons r _,e=>by simp at e;subst e;exact ⟨_,rfl,r⟩
 | _,_,i+1,x,.cons _ t,e=>by
  obtain ⟨u,h1,h2⟩:=Pairs.get' (i:=i) (p:=x) t (by simpa using e);exact ⟨u,by simpa using h1,h2⟩
theorem Pairs.snoc {H:Hp} {v:V} {p:Int×Int} (r:PairAt H v p):∀ {xs:List V} {ps:List (Int×Int)},Pairs H xs ps->Pairs H (xs ++ [v]) (ps ++ [p])
 | _,_,.nil=>.cons r .nil
 | _,_,.cons q t=>.cons q (Pairs.snoc r t)
theorem qmn {K:Frag} {H:Hp}:∀ ns:List Int,qx2 K H (ns.map V.int) (ns.map PyData.int)
 | []=>.nil
 | n :: r=>.cons (.int n) (qmn r)
theorem qmo:∀ ns:List Int,PyData.canLayAll0 (ns.map PyData.int)=true
 | []=>rfl
 | n :: r=>by simp[PyData.canLayAll0,PyData.canLay0,qmo r]
theorem qmp:∀ ns:List Int,PyData.depthAll (ns.map PyData.int)=0
 | []=>rfl
 | n :: r=>by simp[PyData.depthAll,PyData.depth,qmp r]
def gv:Option Int->V
 | none=>.non
 | some i=>.int i
theorem qC2:¬ (("kept_steps" : Str) = "gone_age"):=by decide +kernel
def rf (l:Addr) (g:V):List (Str×V):=qhi "gone_age" g (qhi "kept_steps" (.ref l) [])
theorem qyp (l:Addr) (g:V):(rf l g).lookup ("kept_steps" : Str)=some (.ref l):=by
 unfold rf;rw[qak,if_neg qC2,qak,if_pos rfl]
theorem qC3 (l:Addr) (g:V):(rf l g).lookup ("gone_age" : Str)=some g:=by
 unfold rf;rw[qak,if_pos rfl]
theorem qtf (l:Addr) (g:V) {m:Str} (h1:¬ m = "gone_age") (h2:¬ m = "kept_steps"):(rf l g).lookup m=none:=by
 unfold rf;rw[qak,if_neg h1,qak,if_neg h2]
 rfl
structure RuleAt (C:Addr) (H:Hp) (r l:Addr) (ps:List (Int×Int)) (g:Option Int):Prop where
 ob:∃ dx,H r=some (.ins C dx (rf l (gv g)))
 ls:∃ xs,H l=some (.lst xs)/\Pairs H xs ps
theorem RuleAt.same {C:Addr} {H H':Hp} {r l:Addr} {ps:List (Int×Int)} {g:Option Int} (s:Same H H') (h:RuleAt C H r l ps g):RuleAt C H' r l ps g:=
 ⟨let ⟨dx,e⟩:=h.ob;⟨dx,s _ _ e⟩,let ⟨xs,e,p⟩:=h.ls;⟨xs,s _ _ e,p.same s⟩⟩
theorem qes {xs:List V} {v:V} (h:xs[xs.length-1]?=some v):atI xs (-1)=some v:=by
 have hl:xs.length-1<xs.length:=(List.getElem?_eq_some_iff.mp h).1;have e:ixN xs.length (-1)=some (xs.length-1):=by
  unfold ixN;rw[if_neg (by decide),if_pos (by omega)]
  congr 1;omega
 unfold atI;rw[e];exact h
theorem at3 (x a b c:Int):atI [V.int a,V.int b,V.int c] (x % 3)=some (.int (if x % 3=0 then a else if x % 3=1 then b else c)):=by
 have h:x % 3=0\/x % 3=1\/x % 3=2:=by omega
 rcases h with h|h|h<;>rw[h]<;>rfl
theorem qEm (xs:List V):qhj xs (some 1) none=xs.drop 1:=by
 unfold qhj;rw[HT.sIx_none,show (some (1:Int))=some ((1:Nat):Int) from rfl,HT.sIx_nat]
 by_cases h:1<=xs.length
 ·rw[Nat.min_eq_left h]
  exact List.take_of_length_le (by simp)
 ·have e:xs=[]:=by cases xs with|nil=>rfl|cons _ _=>simp at h
  subst e;rfl
def qok:Sp:=λvs H Q _=>∃ x,vs=[x]/\((∃ i,x=.int i/\Q (.bl true) H))
def qq2:Sp:=λvs H Q _=>∃ x p,vs=[x]/\PairAt H x p/\Q (.bl true) H
def qgb:Sp:=λvs H Q _=>∃ x p,vs=[x]/\PairAt H x p/\0<=p.1/\1<=p.2/\Q .non H
inductive qc7 (vs:List V) (H:Hp) (Q:VK) (E_:XK):Prop
 | mk:∀ x y p q,vs=[x,y]->PairAt H x p->PairAt H y q->1<=p.2->p.1<=q.1->q.2 % p.2=0->Q .non H->qc7 vs H Q E_
inductive qet (vs:List V) (H:Hp) (Q:VK) (E_:XK):Prop
 | mk:∀ l xs ps,vs=[.ref l]->H l=some (.lst xs)->Pairs H xs ps->Good ps->(∀ H',Same H H'->Q .non H')->qet vs H Q E_
def qlb:Sp:=λvs H Q _=>∃ g last,vs=[gv g,.int last]/\qte g last/\Q .non H
inductive qtg (C:Addr) (vs:List V) (H:Hp) (Q:VK) (E_:XK):Prop
 | mk:∀ r l ps g,vs=[.ref r]->RuleAt C H r l ps g->Q (gv g) H->qtg C vs H Q E_
def qw3 (K:Frag):Sp:=λvs H Q _=>∃ (a:Addr) (ns:List Int),vs=[.ref a]/\SqL K H a (ns.map V.int)/\ns.length<=63/\∀ H',Q (.bl true) H'
open PySem L2
theorem New.after {H H1 H2:Hp} {p:Addr} {o:HO} (s:Same H H1) (n:New H1 H2 p o):New H H2 p o:=⟨s.trans n.same,s.free n.fresh,n.at_⟩
def lw (ps:List (Int×Int)):Int:=(ps.getLast?.getD (0,1)).2
def eV (ps:List (Int×Int)) (g:Option Int) (d:Int):List V:=(ps.map λp=>V.int (cut d p.1 p.2)) ++ [gv (g.map λz=>cut d z (lw ps))]
def GBd (g:Option Int):Prop:=∀ z,g=some z->0<=z/\z<10 ^ 45
structure Pr (ps:List (Int×Int)) (g:Option Int):Prop where
 good:Good ps
 size:qAv ps
 gone:∀ p,ps[ps.length-1]?=some p->qte g p.1
 gb:GBd g
theorem Pr.last {ps:List (Int×Int)} {g:Option Int} (P:Pr ps g):∃ p,ps[ps.length-1]?=some p/\lw ps=p.2:=by
 have hl:=P.good.lo;refine ⟨ps[ps.length-1]'(by omega),List.getElem?_eq_getElem _,?_⟩;unfold lw;rw[qvs (List.getElem?_eq_getElem _)]
theorem RuleAt.but {C:Addr} {H H':Hp} {r l m:Addr} {o:HO} {ps:List (Int×Int)} {g:Option Int} (h:RuleAt C H r l ps g) (b:But m H H') (hm:H m=some o) (nt:∀ xs,o≠.tup xs) (n1:r≠m) (n2:l≠m):RuleAt C H' r l ps g:=
 ⟨let ⟨dx,e⟩:=h.ob;⟨dx,b _ _ e n1⟩,let ⟨xs,e,p⟩:=h.ls;⟨xs,b _ _ e n2,p.tupS (b.tup hm nt)⟩⟩
theorem Pairs.but {H H':Hp} {m:Addr} {o:HO} {xs:List V} {ps:List (Int×Int)} (h:Pairs H xs ps) (b:But m H H') (hm:H m=some o) (nt:∀ xs,o≠.tup xs):Pairs H' xs ps:=h.tupS (b.tup hm nt)
theorem qth {xs:List V}:∀ ys,(HO.lst xs)≠.tup ys:=λ_ z=>by cases z
theorem qgq {C dx:Addr} {fs:List (Str×V)}:∀ ys,(HO.ins C dx fs)≠.tup ys:=λ_ z=>by cases z
inductive qlc (C:Addr) (vs:List V) (H:Hp) (Q:VK) (E_:XK):Prop
 | mk:∀ r dx l xs ps g,vs=[.ref r,.ref l,gv g]->H r=some (.ins C dx [])->H l=some (.lst xs)->Pairs H xs ps->Good ps->(∀ p,ps[ps.length-1]?=some p->qte g p.1)->(∀ l' H',H l'=none->RuleAt C H' r l' ps g->But r H H'->Q .non H')->qlc C vs H Q E_
inductive qmq (C:Addr) (vs:List V) (H:Hp) (Q:VK) (E_:XK):Prop
 | mk:∀ r l ps g xs,vs=[.ref r]->RuleAt C H r l ps g->H l=some (.lst xs)->(∀ p H',New H H' p (.lst xs)->Q (.ref p) H')->qmq C vs H Q E_
def qq3:Sp:=λvs H Q _=>∃ n w,vs=[.int n,.int w]/\1<=w/\w<10 ^ 45 /\ -(10 ^ 46)<=n/\n<10 ^ 46/\Q (.int (n / w*w)) H
inductive qil (C:Addr) (vs:List V) (H:Hp) (Q:VK) (E_:XK):Prop
 | mk:∀ r l ps g d,vs=[.ref r,.int d]->RuleAt C H r l ps g->Pr ps g->Bd d->(∀ H',Same H H'->Q (gv (g.map λz=>cut d z (lw ps))) H')->qil C vs H Q E_
inductive qim (C:Addr) (vs:List V) (H:Hp) (Q:VK) (E_:XK):Prop
 | mk:∀ r l ps g d,vs=[.ref r,.int d]->RuleAt C H r l ps g->Pr ps g->Bd d->(∀ p H',New H H' p (.lst (eV ps g d))->Q (.ref p) H')->qim C vs H Q E_
def dV:V->PyData
 | .int i=>.int i
 | _=>.none
def Ed (v:V):Prop:=v=.non\/∃ i,v=.int i
theorem qDu {α β:Type} (f:α->β) (xs:List α) (i:Nat) (x:α) (h:xs[i]?=some x):(xs.take (i+1)).map f=(xs.take i).map f ++ [f x]:=by
 rw[List.take_succ,h]
 simp
open PySem L2
end TB
namespace TB
def mc (p e:Int×Int):Int:=(e.1-p.1+e.2-1) / p.2
open PySem L2
theorem qb8 {i:Nat} {v:V} {σ:St} {H:Hp} {K:St->Hp->Prop} (h:K (σ.set i (some v)) H):qd3 i v σ H K:=h
theorem qti {K:Frag} {a b:Addr} {xs ys:List V} {g:TG} {tc:TT} {te:TE} {Q:VK} {σ:St} {H:Hp} (Pv:Nat->List V->Hp->Prop) (hz:xs.length<=sizeLine) (h0:Pv 0 [] H) (hl:∀ i zs H,Pv i zs H->SqL K H a xs/\SqL K H b ys/\zs.length<=i)
  (hs:∀ i x y zs H p H',xs[i]?=some x->ys[i]?=some y->New H H' p (.tup [x,y])->Pv i zs H->g (.ref p) σ H' λσ4 H4=>tc σ4 H4 λb H5=>if b=true then te σ4 H5 λv H6=>Pv (i+1) (zs ++ [v]) H6 else Pv (i+1) zs H5)
  (hd:∀ i zs H p H',i=min xs.length ys.length->Pv i zs H->New H H' p (.lst zs)->Q (.ref p) H'):qfg (Itz K a b) Q g tc te σ H:=
 qwt Pv hz h0 hl (λi x y zs H p e1 e2 hn p'=>hs i x y zs H p _ e1 e2 (qa8 hn) p') λi zs H p e p' hp=>hd i zs H p _ e p' (qa8 hp)
open PySem L2
end TB
namespace TB
open PySem L2
theorem qEn {c A B:Prop} [Decidable c] (hc:¬ c) (h:A):if (!decide c)=true then A else B:=by rw[decide_eq_false hc];exact qd2 h
def gE:V->V->V
 | .non,y=>y
 | .int i,.int j=>.int (if j>i then j else i)
 | x,_=>x
theorem qtj {x y:V} (hx:Ed x) (hy:Ed y):gE x y=gE y x:=by
 rcases hx with rfl|⟨i,rfl⟩<;>rcases hy with rfl|⟨j,rfl⟩<;>try rfl
 simp only[gE]
 congr 1
 split<;>split<;>omega
theorem qpi:∀ {xs ys:List V},(∀ v∈xs,Ed v)->(∀ v∈ys,Ed v)->List.zipWith gE xs ys=List.zipWith gE ys xs
 | [],ys,_,_=>by simp
 | x :: xs,[],_,_=>rfl
 | x :: xs,y :: ys,h1,h2=>by
  simp only[List.zipWith_cons_cons];rw[qtj (h1 x List.mem_cons_self) (h2 y List.mem_cons_self),qpi (λv hv=>h1 v (List.mem_cons_of_mem _ hv)) λv hv=>h2 v (List.mem_cons_of_mem _ hv)]
theorem zip_get {xs ys:List V} {i:Nat} {x y:V} (h1:xs[i]?=some x) (h2:ys[i]?=some y):(List.zipWith gE xs ys)[i]?=some (gE x y):=by
 rw[List.getElem?_zipWith,h1,h2]
theorem qbq {α:Type} (xs:List α) (i:Nat) (x:α) (h:xs[i]?=some x):xs.take (i+1)=xs.take i ++ [x]:=by
 rw[List.take_succ,h];rfl
def qin:Sp:=λvs H Q _=>∃ x y,vs=[x,y]/\Ed x/\Ed y/\Q (gE x y) H
inductive qj9 (C:Addr) (vs:List V) (H:Hp) (Q:VK) (E:XK):Prop
 | mk:∀ a b xs ys,vs=[.ref a,.ref b]->H a=some (.lst xs)->H b=some (.lst ys)->(∀ v∈xs,Ed v)->(∀ v∈ys,Ed v)->xs.length<=1000->(xs.length=ys.length->∀ p H',New H H' p (.lst (List.zipWith gE xs ys))->Q (.ref p) H')->(xs.length≠ys.length->E (.ref C) none H)->qj9 C vs H Q E
theorem qC4 (g:Option Int):Ed (gv g):=by cases g with
 | none=>exact .inl rfl
 | some z=>exact .inr ⟨z,rfl⟩
def qtk (v:V):Bool:=!decide (v=V.non)
theorem qw4 {xs:List V} {i:Nat} {x:V} (h:xs[i]?=some x) (hn:qtk x=true):(xs.take (i+1)).filter qtk=(xs.take i).filter qtk ++ [x]:=by
 rw[qbq xs i x h,List.filter_append];simp[hn]
theorem qw5 {xs:List V} {i:Nat} {x:V} (h:xs[i]?=some x) (hn:¬ qtk x=true):(xs.take (i+1)).filter qtk=(xs.take i).filter qtk:=by
 rw[qbq xs i x h,List.filter_append];simp[hn]
theorem qpj (xs:List V) (i:Nat):((xs.take i).filter qtk).length<=i:=Nat.le_trans (List.length_filter_le _ _) (by rw[List.length_take];omega)
open PySem L2
def qyq (c c':Int) (n:Nat):List (Int×Int):=(List.range n).map λk=>(qij c' (k+1),qcn c (k+1))
def qC5 (c':Int) (n:Nat):Option Int:=if 0<c' / 5 % 3 then some (qij c' n+qgp (mixed c' 20)) else none
theorem qyr {α:Type} (f:Nat->α) {n k:Nat} (h:k<n):((List.range n).map f)[k]?=some (f k):=by
 rw[List.getElem?_map,List.getElem?_range h];rfl
theorem qmr {α:Type} {f:Nat->α} {n k:Nat} {x:α} (h:((List.range n).map f)[k]?=some x):k<n/\x=f k:=by
 have hk:k<n:=by have:=(List.getElem?_eq_some_iff.mp h).1;simpa using this
 rw[qyr f hk] at h;exact ⟨hk,(Option.some.inj h).symm⟩
theorem good2 (c c':Int) {n:Nat} (h1:1<=n) (h5:n<=5):Good (qyq c c' n) where
 lo:=by simpa [qyq] using h1
 hi:=by simpa [qyq] using h5
 each:=λi p h=>by
  obtain ⟨_,rfl⟩:=qmr h;exact ⟨(qla c' _).1,(qik c _).1⟩
 next:=λi p q h h'=>by
  obtain ⟨_,rfl⟩:=qmr h;obtain ⟨_,rfl⟩:=qmr h';refine ⟨?_,?_⟩
  ·have:=qtd c' (2*((i+1:Nat):Int)+2)
   show qij c' (i+1)<=qij c' (i+1)+_
   omega
  ·show qcn c (i+1)*_ % qcn c (i+1)=0
   exact Int.mul_emod_right _ _
theorem w_b (c:Int) {k n:Nat} (h:k<n) (h5:n<=5):1<=qcn c (k+1)/\qcn c (k+1)<=10 ^ 35:=by
 have h2:=qik c (k+1);have h4:((10:Int) ^ 7) ^ (k+1)<=10 ^ 35:=by
  have:k+1=1\/k+1=2\/k+1=3\/k+1=4\/k+1=5:=by omega
  rcases this with e|e|e|e|e<;>rw[e]<;>decide
 omega
theorem pr2 (c c':Int) {n:Nat} (h1:1<=n) (h5:n<=5):Pr (qyq c c' n) (qC5 c' n):=by
 refine ⟨good2 c c' h1 h5,λi p h=>?_,λp h z hz=>?_,λz hz=>?_⟩
 ·obtain ⟨hi,rfl⟩:=qmr h
  have a1:=qla c' (i+1);have a2:=w_b c hi h5;refine ⟨a1.1,?_,a2.1,?_⟩
  ·show qij c' (i+1)<10 ^ 45;omega
  ·show qcn c (i+1)<10 ^ 45;omega
 ·obtain ⟨hi,rfl⟩:=qmr h
  have e:(qyq c c' n).length-1+1=n:=by simp[qyq];omega
  show qij c' ((qyq c c' n).length-1+1)<=z
  rw[e];unfold qC5 at hz;have:=qtd c' 20
  split at hz
  ·cases hz;omega
  ·cases hz
 ·unfold qC5 at hz
  have a1:=qtd c' 20;have a2:=qla c' n
  split at hz
  ·cases hz;omega
  ·cases hz
def EB (x:Int):Prop:=-(4*10 ^ 45)<x/\x<4*10 ^ 45
structure EdS (EV:List V) (es:List Int) (ge:Option Int):Prop where
 eq:EV=es.map V.int ++ [gv ge]
 bd:∀ x∈es,EB x
 gb:∀ z,ge=some z->EB z
theorem EdS.ed {EV:List V} {es:List Int} {ge:Option Int} (h:EdS EV es ge):∀ v∈EV,Ed v:=by
 intro v hv;rw[h.eq] at hv
 rcases List.mem_append.mp hv with z|z
 ·obtain ⟨i,_,e⟩:=List.mem_map.mp z;exact .inr ⟨i,e.symm⟩
 ·rw[List.mem_singleton.mp z];exact qC4 ge
theorem EdS.of {ps:List (Int×Int)} {g:Option Int} {d:Int} (P:Pr ps g) (hd:Bd d):EdS (eV ps g d) (ps.map λp=>cut d p.1 p.2) (g.map λz=>cut d z (lw ps)):=by
 refine ⟨by unfold eV;rw[List.map_map];rfl,λx hx=>?_,λz hz=>?_⟩
 ·obtain ⟨p,hp,rfl⟩:=List.mem_map.mp hx
  obtain ⟨i,hi,e⟩:=List.getElem_of_mem hp;have hs:=P.size i p (by rw[<- e];exact List.getElem?_eq_getElem hi);exact qw2 hd hs.1 hs.2.1 hs.2.2.1 hs.2.2.2
 ·cases g with
  | none=>cases hz
  | some y =>
   cases hz;obtain ⟨p,hp,ep⟩:=P.last;have hs:=P.size _ p hp;have hg:=P.gb y rfl;rw[ep];exact qw2 hd hg.1 hg.2 hs.2.2.1 hs.2.2.2
def qol:Option Int->Option Int->Option Int
 | none,y=>y
 | some i,some j=>some (if j>i then j else i)
 | x,none=>x
theorem qAy (x y:Option Int):gE (gv x) (gv y)=gv (qol x y):=by cases x<;>cases y<;>rfl
theorem EdS.max {E1 E2:List V} {a b:List Int} {g1 g2:Option Int} (h1:EdS E1 a g1) (h2:EdS E2 b g2) (hl:a.length=b.length):EdS (List.zipWith gE E1 E2) (List.zipWith (λi j=>if j>i then j else i) a b) (qol g1 g2):=by
 refine ⟨?_,λx hx=>?_,λz hz=>?_⟩
 ·rw[h1.eq,h2.eq,List.zipWith_append (by simpa using hl)]
  congr 1
  ·rw[List.zipWith_map_left,List.zipWith_map_right,List.map_zipWith];rfl
  ·show [gE (gv g1) (gv g2)]=_
   rw[qAy]
 ·obtain ⟨i,hi,e⟩:=List.getElem_of_mem hx
  have hi':=hi;rw[List.length_zipWith] at hi';have hia:i<a.length:=by omega
  have hib:i<b.length:=by omega
  rw[List.getElem_zipWith] at e;have e1:=h1.bd a[i] (List.getElem_mem _);have e2:=h2.bd b[i] (List.getElem_mem _);rw[<- e]
  split
  ·exact e2
  ·exact e1
 ·cases g1 with
  | none=>exact h2.gb z hz
  | some i =>
   cases g2 with
   | none=>exact h1.gb z hz
   | some j =>
    have e1:=h1.gb i rfl;have e2:=h2.gb j rfl;simp only[qol,Option.some.injEq] at hz;rw[<- hz]
    split
    ·exact e2
    ·exact e1
def wl (ws es:List Int) (t:Int):List Int:=((ws.zip es).filter λx=>decide (t<x.2)).map (·.1)
def qcc (ge:Option Int) (t:Int):Prop:=∃ z,ge=some z/\t<z
def CellOf (ws es:List Int) (ge:Option Int) (t:Int) (o:Option (Int×Int)):Prop:=
 (∀ e0,es[0]?=some e0->(e0<=t->o=some (t,0))/\(t<e0->(qcc ge t->o=none)/\(¬ qcc ge t->∃ w,(wl ws es t)[(wl ws es t).length-1]?=some w/\o=some (t / w*w,w))))
theorem qAz {ws es:List Int} {t w0 e0:Int} (h1:ws[0]?=some w0) (h2:es[0]?=some e0) (h:t<e0):1<=(wl ws es t).length:=by
 cases ws with
 | nil=>simp at h1
 | cons w r =>
  cases es with
  | nil=>simp at h2
  | cons e s =>
   simp at h2
   subst h2;unfold wl;rw[List.zip_cons_cons,List.filter_cons_of_pos (by simpa using h)]
   simp
theorem qtl {ws es:List Int} {t w:Int} (h:w∈wl ws es t):w∈ws:=by
 unfold wl at h;obtain ⟨x,hx,rfl⟩:=List.mem_map.mp h;exact (List.of_mem_zip (List.mem_filter.mp hx).1).1
theorem qEo {ws es:List Int} {t:Int} {i:Nat} {w e:Int} (h1:ws[i]?=some w) (h2:es[i]?=some e) (h:t<e):((((ws.zip es).take (i+1)).filter λx=>decide (t<x.2)).map (·.1))=((((ws.zip es).take i).filter λx=>decide (t<x.2)).map (·.1)) ++ [w]:=by
 have hz:(ws.zip es)[i]?=some (w,e):=by rw[List.getElem?_zip_eq_some];exact ⟨h1,h2⟩
 rw[qbq _ i _ hz,List.filter_append,List.map_append]
 simp[h]
theorem qEp {ws es:List Int} {t:Int} {i:Nat} {w e:Int} (h1:ws[i]?=some w) (h2:es[i]?=some e) (h:¬ t<e):((((ws.zip es).take (i+1)).filter λx=>decide (t<x.2)).map (·.1))=((((ws.zip es).take i).filter λx=>decide (t<x.2)).map (·.1)):=by
 have hz:(ws.zip es)[i]?=some (w,e):=by rw[List.getElem?_zip_eq_some];exact ⟨h1,h2⟩
 rw[qbq _ i _ hz,List.filter_append,List.map_append]
 simp[h]
theorem qA0 {ws es:List Int} {t:Int} {i:Nat} (h:(ws.zip es).length<=i):((((ws.zip es).take i).filter λx=>decide (t<x.2)).map (·.1))=wl ws es t:=by
 rw[List.take_of_length_le h];rfl
theorem qA1 (ws es:List Int) (t:Int) (i:Nat):((((ws.zip es).take i).filter λx=>decide (t<x.2)).map (·.1)).length<=i:=by
 rw[List.length_map];exact Nat.le_trans (List.length_filter_le _ _) (by rw[List.length_take];omega)
def qA2 (H:Hp) (v:V) (o:Option (Int×Int)):Prop:=match o with
 | none=>v=.non
 | some p=>PairAt H v p
theorem CellOf.uniq {ws es:List Int} {ge:Option Int} {t:Int} {o o':Option (Int×Int)} {e0:Int} (h0:es[0]?=some e0) (h:CellOf ws es ge t o) (h':CellOf ws es ge t o'):o=o':=by
 obtain ⟨a1,a2⟩:=h e0 h0;obtain ⟨b1,b2⟩:=h' e0 h0
 by_cases hc:e0<=t
 ·rw[a1 hc,b1 hc]
 ·have hlt:t<e0:=by omega
  by_cases hg:qcc ge t
  ·rw[(a2 hlt).1 hg,(b2 hlt).1 hg]
  ·obtain ⟨w,hw,rfl⟩:=(a2 hlt).2 hg
   obtain ⟨w',hw',rfl⟩:=(b2 hlt).2 hg;rw[hw] at hw'
   cases hw'
   rfl
inductive qka (vs:List V) (H:Hp) (Q:VK) (E_:XK):Prop
 | mk:∀ (e:Addr) (es:List Int) (ge:Option Int) (t:Int),vs=[.ref e,.int t]->H e=some (.lst (es.map V.int ++ [gv ge]))->(qcc ge t->Q (.bl true) H)->(¬ qcc ge t->Q (.bl false) H)->qka vs H Q E_
inductive qio (C:Addr) (vs:List V) (H:Hp) (Q:VK) (E_:XK):Prop
 | mk:∀ (r l:Addr) (ps:List (Int×Int)) (g:Option Int) (e:Addr) (es:List Int) (ge:Option Int) (t e0:Int),vs=[.ref r,.ref e,.int t]->RuleAt C H r l ps g->H e=some (.lst (es.map V.int ++ [gv ge]))->es.length=ps.length->1<=ps.length->ps.length<=5->es[0]?=some e0->t<e0->(∀ w H',(wl (ps.map (·.2)) es t)[(wl (ps.map (·.2)) es t).length-1]?=some w->Same H H'->Q (.int w) H')->qio C vs H Q E_
def qvt (t:Int):Prop:=-(10 ^ 46)<=t/\t<10 ^ 46
inductive qkb (C:Addr) (vs:List V) (H:Hp) (Q:VK) (E_:XK):Prop
 | mk:∀ (r l:Addr) (ps:List (Int×Int)) (g:Option Int) (e:Addr) (es:List Int) (ge:Option Int) (t:Int),vs=[.ref r,.ref e,.int t]->RuleAt C H r l ps g->H e=some (.lst (es.map V.int ++ [gv ge]))->es.length=ps.length->1<=ps.length->ps.length<=5->qAv ps->qvt t->(∀ v o H',CellOf (ps.map (·.2)) es ge t o->qA2 H' v o->Same H H'->Q v H')->qkb C vs H Q E_
inductive qpk (K:Frag) (vs:List V) (H:Hp) (Q:VK) (E_:XK):Prop
 | mk:∀ (a:Addr) (ns:List Int) (k:Int),vs=[.ref a,.int k]->SqL K H a (List.map V.int ns)->0<=k->(∀ i,Q (.int i) H)->qpk K vs H Q E_
inductive qip (vs:List V) (H:Hp) (Q:VK) (E_:XK):Prop
 | mk:∀ (a b:Addr) (xs ys:List V),vs=[.ref a,.ref b]->H a=some (.lst xs)->H b=some (.lst ys)->(∀ v∈xs,Ed v)->(∀ v∈ys,Ed v)->xs.length=ys.length->xs.length<=1000->(∀ p H',New H H' p (.lst (List.zipWith gE xs ys))->Q (.ref p) H')->qip vs H Q E_
theorem CellOf.a {ws es:List Int} {ge:Option Int} {t e0:Int} (h0:es[0]?=some e0) (h:e0<=t):CellOf ws es ge t (some (t,0)):=λx hx=>by
 rw[h0] at hx;cases hx;exact ⟨λ_=>rfl,λh'=>absurd h (by omega)⟩
theorem CellOf.b {ws es:List Int} {ge:Option Int} {t e0:Int} (h0:es[0]?=some e0) (h:t<e0) (hg:qcc ge t):CellOf ws es ge t none:=λx hx=>by
 rw[h0] at hx;cases hx;exact ⟨λh'=>absurd h (by omega),λ_=>⟨λ_=>rfl,λn=>absurd hg n⟩⟩
theorem CellOf.c {ws es:List Int} {ge:Option Int} {t e0 w:Int} (h0:es[0]?=some e0) (h:t<e0) (hg:¬ qcc ge t) (hw:(wl ws es t)[(wl ws es t).length-1]?=some w):CellOf ws es ge t (some (t / w*w,w)):=λx hx=>by
 rw[h0] at hx;cases hx;exact ⟨λh'=>absurd h (by omega),λ_=>⟨λn=>absurd n hg,λ_=>⟨w,hw,rfl⟩⟩⟩
theorem qiq {K:Frag} {H H':Hp} {a:Addr} {xs:List V} (s:Same H H') (h:SqL K H a xs):SqL K H' a xs:=by
 rcases h with (h|⟨o,h⟩)|h
 ·exact .inl (.inl (s _ _ h))
 ·exact .inl (.inr ⟨o,s _ _ h⟩)
 ·exact .inr h
theorem qC6 (ns:List Int) (h:0<ns.length) (x:Int):∃ m,m∈ns/\atI (ns.map V.int) (x % ((ns.map V.int).length:Int))=some (V.int m):=by
 rw[List.length_map];have h1:=Int.emod_nonneg x (show (ns.length:Int)≠0 by omega);have h2:=Int.emod_lt_of_pos x (show (0:Int)<ns.length by omega);have hl:(x % (ns.length:Int)).toNat<ns.length:=by omega
 refine ⟨ns[(x % (ns.length:Int)).toNat],List.getElem_mem _,?_⟩;have:=qd5 (xs:=ns.map V.int) (j:=(x % (ns.length:Int)).toNat) (v:=V.int ns[(x % (ns.length:Int)).toNat]) (by simp[hl])
 rwa [Int.toNat_of_nonneg h1] at this
theorem qms:∀ es:List Int,(es.map V.int).filter qtk=es.map V.int
 | []=>rfl
 | e :: r=>by rw[List.map_cons,List.filter_cons_of_pos (by rfl),qms r]
theorem known (es:List Int) (ge:Option Int):(es.map V.int ++ [gv ge]).filter qtk=(es ++ ge.toList).map V.int:=by
 rw[List.filter_append,qms,List.map_append]
 cases ge<;>rfl
theorem qys {EV:List V} {es:List Int} {ge:Option Int} (E:EdS EV es ge):∀ x∈es ++ ge.toList,EB x:=by
 intro x hx
 rcases List.mem_append.mp hx with h|h
 ·exact E.bd x h
 ·cases ge with
  | none=>cases h
  | some y=>simp at h;subst h;exact E.gb _ rfl
theorem qa9 {K:Frag} {a:Addr} {xs:List V} {g:TG} {tc:TT} {te:TE} {Q:VK} {σ:St} {H:Hp} (Pv:Nat->List V->Hp->Prop) (hz:xs.length<=sizeLine) (h0:Pv 0 [] H) (hl:∀ i ys H,Pv i ys H->SqL K H a xs/\ys.length<=i)
  (hs:∀ i x ys H,xs[i]?=some x->Pv i ys H->g x σ H λσ4 H4=>tc σ4 H4 λb H5=>if b=true then te σ4 H5 λv H6=>Pv (i+1) (ys ++ [v]) H6 else Pv (i+1) ys H5)
  (hd:∀ ys H p H',Pv xs.length ys H->New H H' p (.lst ys)->Q (.ref p) H'):qfg (Itl K a) Q g tc te σ H:=
 qsk Pv hz h0 hl hs λys H p p' hp=>hd ys H p _ p' (qa8 hp)
open PySem L2
def qom (p:Int×Int):Prop:=(-(10 ^ 40)<p.1/\p.1<10 ^ 40)/\1<=p.2/\p.2<10 ^ 40
def qd8 (rs:List (Int×Int)):Prop:=∀ p∈rs,qom p
def RunT (p:Int×Int):Prop:=(-(10 ^ 31)<p.1/\p.1<10 ^ 31)/\1<=p.2/\p.2<10 ^ 31
def RunsT (rs:List (Int×Int)):Prop:=∀ p∈rs,RunT p
theorem RunT.ok {p:Int×Int} (h:RunT p):qom p:=by unfold RunT at h;unfold qom;omega
theorem RunsT.ok {rs:List (Int×Int)} (h:RunsT rs):qd8 rs:=λp hp=>(h p hp).ok
def qgk (rs:List (Int×Int)):List Int:=rs.map λp=>p.1
def qvu (rs:List (Int×Int)):List Int:=rs.map λp=>p.2
def qw6 (rs:List (Int×Int)):List Int:=rs.map λp=>p.1*p.2
def rN (rs:List (Int×Int)):Int:=(qvu rs).sum
def rT (rs:List (Int×Int)):Int:=(qw6 rs).sum
structure HeapOf (rs:List (Int×Int)) (vm vt vl vg:Int):Prop where
 m:vm=rN rs
 t:vt=rT rs
 lo:vl∈qgk rs
 lo':∀ a∈qgk rs,vl<=a
 hi:vg∈qgk rs
 hi':∀ a∈qgk rs,a<=vg
theorem qd9 (p:Int×Int) (rs:List (Int×Int)):rN (p :: rs)=p.2+rN rs:=by simp[rN,qvu]
theorem qe8 (p:Int×Int) (rs:List (Int×Int)):rT (p :: rs)=p.1*p.2+rT rs:=by simp[rT,qw6]
theorem qA3 (rs qs:List (Int×Int)):rN (rs ++ qs)=rN rs+rN qs:=by
 induction rs with
 | nil=>simp[rN,qvu]
 | cons p r ih=>rw[List.cons_append,qd9,qd9,ih];omega
theorem qA4 (rs qs:List (Int×Int)):rT (rs ++ qs)=rT rs+rT qs:=by
 induction rs with
 | nil=>simp[rT,qw6]
 | cons p r ih=>rw[List.cons_append,qe8,qe8,ih];omega
theorem qhq (rs qs:List (Int×Int)):qgk (rs ++ qs)=qgk rs ++ qgk qs:=by simp[qgk]
theorem HeapOf.app {rs qs:List (Int×Int)} {m t lo hi m' t' lo' hi':Int} (a:HeapOf rs m t lo hi) (b:HeapOf qs m' t' lo' hi'):HeapOf (rs ++ qs) (m+m') (t+t') (if lo'<lo then lo' else lo) (if hi'>hi then hi' else hi):=by
 refine ⟨by rw[qA3,a.m,b.m],by rw[qA4,a.t,b.t],?_,?_,?_,?_⟩
 ·rw[qhq]
  split
  ·exact List.mem_append_right _ b.lo
  ·exact List.mem_append_left _ a.lo
 ·intro x hx
  rw[qhq] at hx
  rcases List.mem_append.mp hx with h|h
  ·have:=a.lo' x h
   split<;>omega
  ·have:=b.lo' x h
   split<;>omega
 ·rw[qhq]
  split
  ·exact List.mem_append_right _ b.hi
  ·exact List.mem_append_left _ a.hi
 ·intro x hx
  rw[qhq] at hx
  rcases List.mem_append.mp hx with h|h
  ·have:=a.hi' x h
   split<;>omega
  ·have:=b.hi' x h
   split<;>omega
theorem qC7 {rs:List (Int×Int)} (h:qd8 rs):(rs.length:Int)<=rN rs/\rN rs<=rs.length*10 ^ 40:=by
 induction rs with
 | nil=>simp[rN,qvu]
 | cons p r ih =>
  have h1:=ih λq hq=>h q (List.mem_cons_of_mem _ hq)
  have h2:=h p List.mem_cons_self;unfold qom at h2;rw[qd9];simp only[List.length_cons];omega
theorem qC8 {rs:List (Int×Int)} (h:RunsT rs):rN rs<=rs.length*10 ^ 31:=by
 induction rs with
 | nil=>simp[rN,qvu]
 | cons p r ih =>
  have h1:=ih λq hq=>h q (List.mem_cons_of_mem _ hq)
  have h2:=h p List.mem_cons_self;unfold RunT at h2;rw[qd9];simp only[List.length_cons];omega
theorem qpl {rs:List (Int×Int)} (h:qd8 rs) {v:Int} (hv:v∈qgk rs):-(10 ^ 40)<v/\v<10 ^ 40:=by
 obtain ⟨p,hp,rfl⟩:=List.mem_map.mp hv;exact (h p hp).1
theorem Pairs.app {H:Hp}:∀ {xs ys:List V} {ps qs:List (Int×Int)},Pairs H xs ps->Pairs H ys qs->Pairs H (xs ++ ys) (ps ++ qs)
 | _,_,_,_,.nil,h=>h
 | _,_,_,_,.cons r t,h=>.cons r (Pairs.app t h)
theorem Pairs.rev {H:Hp}:∀ {xs:List V} {ps:List (Int×Int)},Pairs H xs ps->Pairs H xs.reverse ps.reverse
 | _,_,.nil=>.nil
 | _,_,.cons r t=>by
  rw[List.reverse_cons,List.reverse_cons];exact Pairs.snoc r (Pairs.rev t)
theorem qyt (xs:List V) (k:Nat) (h:k<=xs.length):qhj xs (some (k:Int)) none=xs.drop k:=by
 unfold qhj;rw[HT.sIx_none,HT.sIx_nat,Nat.min_eq_left h];exact List.take_of_length_le (by simp)
theorem mapN' (f:Int×Int->Int) (rs:List (Int×Int)) {i:Nat} {p:Int×Int} (h:rs[i]?=some p):((rs.take (i+1)).map f).map V.int=((rs.take i).map f).map V.int ++ [V.int (f p)]:=by
 rw[List.take_succ,h]
 simp
theorem qhr {K:Frag} {l:Addr} {xs:List V} {rs:List (Int×Int)} {te:TE} {Q:VK} {σ:St} {H:Hp} (f:Int×Int->Int) (hl:H l=some (.lst xs)) (hp:Pairs H xs rs) (hz:rs.length<=200)
  (hs:∀ p∈rs,∀ Q':VK,Q' (.int (f p)) H->te ((σ.set 0 (some (.int p.1))).set 1 (some (.int p.2))) H Q')
  (hd:∀ a H',New H H' a (.lst ((rs.map f).map V.int))->Q (.ref a) H'):qfg (Itl K l) Q (qzh K 2 (qg9 (qd3 0) (qg9 (qd3 1) qzg))) qAa te σ H:=by
 have hlen:=hp.length;refine qa9 (xs:=xs) (λi ys H2=>H2=H/\ys=((rs.take i).map f).map V.int) (Nat.le_of_lt (qah (by omega))) ⟨rfl,rfl⟩ (λi ys H2 h2=>⟨SqL.of (by rw[h2.1];exact hl),by rw[h2.2];simp;omega⟩) ?_ ?_
 ·rintro i x ys H2 hi ⟨rfl,rfl⟩
  obtain ⟨p,hpi,a,rfl,ha⟩:=hp.get hi;refine ⟨a,_,rfl,SqT.of ha,rfl,_,_,rfl,_,_,rfl,rfl,qo5 (qd2 ?_)⟩;refine hs p (List.mem_of_getElem? hpi) _ ⟨rfl,?_⟩;rw[mapN' f rs hpi]
 ·rintro ys H2 a H' ⟨rfl,rfl⟩ n
  rw[hlen,List.take_length] at n;exact hd a H' n
theorem qEq {xs:List Int} (h:xs.length=3):∃ a b c,xs=[a,b,c]:=by
 match xs,h with
 | [a,b,c],_=>exact ⟨a,b,c,rfl⟩
def XB (x:Int):Prop:=0<=x/\x<10 ^ 41
def qA5:Sp:=λvs H Q _=>∃ c k,vs=[.int c,.int k]/\0<=k/\k<6/\∀ a p H',New H H' a (.tup [.int p.1,.int p.2])->RunT p->Q (.ref a) H'
inductive qmt (vs:List V) (H:Hp) (Q:VK) (E_:XK):Prop
 | mk:∀ a b m t lo hi m' t' lo' hi',vs=[.ref a,.ref b]->H a=some (.tup [.int m,.int t,.int lo,.int hi])->H b=some (.tup [.int m',.int t',.int lo',.int hi'])->(∀ p H',New H H' p (.tup [.int (m+m'),.int (t+t'),.int (if lo'<lo then lo' else lo),.int (if hi'>hi then hi' else hi)])->Q (.ref p) H')->qmt vs H Q E_
open PySem L2
structure qhb (vm vt vl vg:Int):Prop where
 m:1<=vm
 le:vl<=vg
 a:(vm-1)*vl+vg<=vt
 b:vt<=vl+(vm-1)*vg
theorem qpm (lo v c T N:Int):v*c+T-lo*(c+N)=(v-lo)*c+(T-lo*N):=by
 rw[Int.mul_add,Int.sub_mul];omega
theorem exc_cons' (hi v c T N:Int):hi*(c+N)-(v*c+T)=(hi-v)*c+(hi*N-T):=by
 rw[Int.mul_add,Int.sub_mul];omega
theorem qhs {x c:Int} (hx:0<=x) (hc:1<=c):x<=x*c:=by
 have:=Int.mul_le_mul_of_nonneg_left hc hx;omega
theorem qw7 {lo:Int}:∀ {rs:List (Int×Int)},qd8 rs->(∀ a∈qgk rs,lo<=a)->0<=rT rs-lo*rN rs
 | [],_,_=>by simp[rT,rN,qw6,qvu]
 | p :: r,ok,h=>by
  have h1:=qw7 (rs:=r) (λq hq=>ok q (List.mem_cons_of_mem _ hq)) λa ha=>h a (List.mem_cons_of_mem _ ha)
  have h2:=h p.1 List.mem_cons_self;have h3:=(ok p List.mem_cons_self).2.1;have h4:=qhs (x:=p.1-lo) (by omega) h3;rw[qe8,qd9,qpm];omega
theorem qw8 {hi:Int}:∀ {rs:List (Int×Int)},qd8 rs->(∀ a∈qgk rs,a<=hi)->0<=hi*rN rs-rT rs
 | [],_,_=>by simp[rT,rN,qw6,qvu]
 | p :: r,ok,h=>by
  have h1:=qw8 (rs:=r) (λq hq=>ok q (List.mem_cons_of_mem _ hq)) λa ha=>h a (List.mem_cons_of_mem _ ha)
  have h2:=h p.1 List.mem_cons_self;have h3:=(ok p List.mem_cons_self).2.1;have h4:=qhs (x:=hi-p.1) (by omega) h3;rw[qe8,qd9,exc_cons'];omega
theorem exc_lo' {lo v:Int}:∀ {rs:List (Int×Int)},qd8 rs->(∀ a∈qgk rs,lo<=a)->v∈qgk rs->v-lo<=rT rs-lo*rN rs
 | [],_,_,hv=>by simp[qgk] at hv
 | p :: r,ok,h,hv=>by
  have ok':qd8 r:=λq hq=>ok q (List.mem_cons_of_mem _ hq)
  have h':∀ a∈qgk r,lo<=a:=λa ha=>h a (List.mem_cons_of_mem _ ha)
  have h1:=qw7 ok' h';have h2:=h p.1 List.mem_cons_self;have h3:=(ok p List.mem_cons_self).2.1;have h4:=qhs (x:=p.1-lo) (by omega) h3;rw[qe8,qd9,qpm]
  rcases List.mem_cons.mp hv with e|hv
  ·have e:v=p.1:=e
   omega
  ·have:=exc_lo' ok' h' hv
   omega
theorem exc_hi' {hi v:Int}:∀ {rs:List (Int×Int)},qd8 rs->(∀ a∈qgk rs,a<=hi)->v∈qgk rs->hi-v<=hi*rN rs-rT rs
 | [],_,_,hv=>by simp[qgk] at hv
 | p :: r,ok,h,hv=>by
  have ok':qd8 r:=λq hq=>ok q (List.mem_cons_of_mem _ hq)
  have h':∀ a∈qgk r,a<=hi:=λa ha=>h a (List.mem_cons_of_mem _ ha)
  have h1:=qw8 ok' h';have h2:=h p.1 List.mem_cons_self;have h3:=(ok p List.mem_cons_self).2.1;have h4:=qhs (x:=hi-p.1) (by omega) h3;rw[qe8,qd9,exc_cons']
  rcases List.mem_cons.mp hv with e|hv
  ·have e:v=p.1:=e
   omega
  ·have:=exc_hi' ok' h' hv
   omega
theorem qld (m x:Int):(m-1)*x=x*m-x:=by rw[Int.sub_mul,Int.one_mul,Int.mul_comm]
theorem HeapOf.can {rs:List (Int×Int)} {m t lo hi:Int} (h:HeapOf rs m t lo hi) (ok:qd8 rs):qhb m t lo hi:=by
 have h1:=exc_lo' ok h.lo' h.hi;have h2:=exc_hi' ok h.hi' h.lo;have h3:=h.lo' _ h.hi;rw[<- h.m,<- h.t] at h1 h2;refine ⟨?_,h3,by rw[qld];omega,by rw[qld];omega⟩;have:=(qC7 ok).1;rw[<- h.m] at this;have hne:1<=rs.length:=by
  cases rs with
  | nil=>exact absurd h.lo (by simp[qgk])
  | cons p r=>simp
 omega
def qq4 (m t lo hi:Int):List (Int×Int):=
 if lo=hi then [(lo,m)] else if (t-m*lo) % (hi-lo)=0 then [(lo,m-(t-m*lo) / (hi-lo)),(hi,(t-m*lo) / (hi-lo))]
 else [(lo,m-(t-m*lo) / (hi-lo)-1),(lo+(t-m*lo) % (hi-lo),1),(hi,(t-m*lo) / (hi-lo))]
inductive WRow (m t lo hi:Int):List (Int×Int)->Prop
 | one:lo=hi->t=m*lo->1<=m->WRow m t lo hi [(lo,m)]
 | two {L U:Int}:lo<hi->1<=L->1<=U->L+U=m->t=lo*L+hi*U->WRow m t lo hi [(lo,L),(hi,U)]
 | three {L U x:Int}:lo<hi->1<=L->1<=U->L+1+U=m->0<x->x<hi-lo->t=lo*L+(lo+x)+hi*U->WRow m t lo hi [(lo,L),(lo+x,1),(hi,U)]
theorem WRow.of {m t lo hi:Int} (h:qhb m t lo hi):WRow m t lo hi (qq4 m t lo hi):=by
 have h1:=h.m;have h2:=h.le;have h3:=h.a;have h4:=h.b;rw[qld] at h3 h4;unfold qq4
 split
 ·rename_i e
  subst e;exact .one rfl (by rw[Int.mul_comm] at h3 h4;omega) h1
 ·have hd:0<hi-lo:=by omega
  have e1:(hi-lo)*((t-m*lo) / (hi-lo))+(t-m*lo) % (hi-lo)=t-m*lo:=Int.mul_ediv_add_emod _ _;have e2:=Int.emod_nonneg (t-m*lo) (show hi-lo≠0 by omega);have e3:=Int.emod_lt_of_pos (t-m*lo) hd
  generalize (t-m*lo) / (hi-lo)=U at e1 ⊢
  generalize (t-m*lo) % (hi-lo)=x at e1 e2 e3 ⊢
  have e4:(hi-lo)*U=hi*U-lo*U:=Int.sub_mul _ _ _;have e5:m*lo=lo*m:=Int.mul_comm _ _;have e6:(hi-lo)*(m-1)=hi*m-lo*m-(hi-lo):=by rw[Int.mul_sub,Int.sub_mul];omega
  have e7:lo*(m-U)=lo*m-lo*U:=Int.mul_sub _ _ _;have e8:lo*(m-U-1)=lo*m-lo*U-lo:=by rw[Int.mul_sub,Int.mul_sub];omega
  have u1:1<=U:=by
   by_cases z:U<=0
   ·have:=Int.mul_le_mul_of_nonneg_left z (show 0<=hi-lo by omega)
    omega
   ·omega
  split
  ·rename_i z
   have u2:U<=m-1:=by
    by_cases z:m<=U
    ·have:=Int.mul_le_mul_of_nonneg_left z (show 0<=hi-lo by omega)
     rw[Int.sub_mul,Int.sub_mul] at this;omega
    ·omega
   exact .two (by omega) (by omega) u1 (by omega) (by rw[e7];omega)
  ·rename_i z
   have u2:U<=m-2:=by
    by_cases z:m-1<=U
    ·have:=Int.mul_le_mul_of_nonneg_left z (show 0<=hi-lo by omega)
     omega
    ·omega
   exact .three (by omega) (by omega) u1 (by omega) (by omega) (by omega) (by rw[e8];omega)
theorem WRow.len {m t lo hi:Int} {rs:List (Int×Int)} (h:WRow m t lo hi rs):1<=rs.length/\rs.length<=3:=by cases h<;>simp
theorem WRow.ok {m t lo hi:Int} {rs:List (Int×Int)} (h:WRow m t lo hi rs) {i:Nat} {p:Int×Int} (hi':rs[i]?=some p):1<=p.2/\p.2<=m/\lo<=p.1/\p.1<=hi/\(p.1=lo\/p.1=hi\/p.2=1):=by
 have hm:=List.mem_of_getElem? hi'
 cases h with
 | one e1 e2 e3=>simp at hm;subst hm;simp;omega
 | two e1 e2 e3 e4 e5=>simp at hm;rcases hm with rfl|rfl<;>simp<;>omega
 | three e1 e2 e3 e4 e5 e6 e7=>simp at hm;rcases hm with rfl|rfl|rfl<;>simp<;>omega
def oth (lo hi:Int) (p:Int×Int):Bool:=!decide (p.1=lo) && !decide (p.1=hi)
def HBd (m lo hi:Int):Prop:=(0<=m/\m<10 ^ 45)/\(-(10 ^ 45)<lo/\lo<10 ^ 45) /\ -(10 ^ 45)<hi/\hi<10 ^ 45
theorem HeapOf.bd {rs:List (Int×Int)} {m t lo hi:Int} (h:HeapOf rs m t lo hi) (ok:qd8 rs) (hl:rs.length<=200):HBd m lo hi:=by
 have h1:=qC7 ok;rw[<- h.m] at h1;have h2:=qpl ok h.lo;have h3:=qpl ok h.hi;refine ⟨⟨by omega,?_⟩,⟨by omega,by omega⟩,by omega,by omega⟩;have:(rs.length:Int)*10 ^ 40<=200*10 ^ 40:=Int.mul_le_mul_of_nonneg_right (by omega) (by decide);omega
def hT (m t lo hi:Int):HO:=.tup [.int m,.int t,.int lo,.int hi]
inductive qmu (vs:List V) (H:Hp) (Q:VK) (E_:XK):Prop
 | mk:∀ a m t lo hi,vs=[.ref a]->H a=some (.tup [.int m,.int t,.int lo,.int hi])->qhb m t lo hi->HBd m lo hi->(∀ l xs H1 H',Same H H1->New H1 H' l (.lst xs)->Pairs H' xs (qq4 m t lo hi)->Q (.ref l) H')->qmu vs H Q E_
open PySem L2
structure Least (m t lo hi k v:Int):Prop where
 a:lo*k<=v
 b:t-hi*(m-k)<=v
 c:v=lo*k\/v=t-hi*(m-k)
theorem nn {a b:Int} (ha:0<=a) (hb:0<=b):0<=a*b:=Int.mul_nonneg ha hb
open PySem L2
def fA (c x:Int):Int:=if c<x then x-c else 0
def fB (c x:Int):Int:=if x<c then c-x else 0
def above (c:Int):List (Int×Int)->Int
 | []=>0
 | p :: r=>fA c p.1*p.2+above c r
def below (c:Int):List (Int×Int)->Int
 | []=>0
 | p :: r=>fB c p.1*p.2+below c r
open PySem L2
def rof (ru:Addr) (day:Int) (le dy dh:Addr):List (Str×V):=qhi "cell_heaps" (.ref dh) (qhi "whole_ones" (.ref dy) (qhi "kept_edges" (.ref le) (qhi "kept_day" (.int day) (qhi "kept_rule" (.ref ru) []))))
section
variable (ru:Addr) (day:Int) (le dy dh:Addr)
theorem qtm:(rof ru day le dy dh).lookup ("kept_rule" : Str)=some (.ref ru):=by
 unfold rof;rw[qak,if_neg (by decide +kernel),qak,if_neg (by decide +kernel),qak,if_neg (by decide +kernel),qak,if_neg (by decide +kernel),qak,if_pos rfl]
theorem qA6:(rof ru day le dy dh).lookup ("kept_day" : Str)=some (.int day):=by
 unfold rof;rw[qak,if_neg (by decide +kernel),qak,if_neg (by decide +kernel),qak,if_neg (by decide +kernel),qak,if_pos rfl]
theorem qpn:(rof ru day le dy dh).lookup ("kept_edges" : Str)=some (.ref le):=by
 unfold rof;rw[qak,if_neg (by decide +kernel),qak,if_neg (by decide +kernel),qak,if_pos rfl]
theorem qpo:(rof ru day le dy dh).lookup ("whole_ones" : Str)=some (.ref dy):=by
 unfold rof;rw[qak,if_neg (by decide +kernel),qak,if_pos rfl]
theorem qkc:(rof ru day le dy dh).lookup ("cell_heaps" : Str)=some (.ref dh):=by
 unfold rof;rw[qak,if_pos rfl]
theorem qfl {m:Str} (h1:¬ m = "cell_heaps") (h2:¬ m = "whole_ones") (h3:¬ m = "kept_edges") (h4:¬ m = "kept_day") (h5:¬ m = "kept_rule"):(rof ru day le dy dh).lookup m=none:=by
 unfold rof;rw[qak,if_neg h1,qak,if_neg h2,qak,if_neg h3,qak,if_neg h4,qak,if_neg h5];rfl
theorem qtn:(rof ru day le dy dh).lookup ("put" : Str)=none:=qfl _ _ _ _ _ (by decide +kernel) (by decide +kernel) (by decide +kernel) (by decide +kernel) (by decide +kernel)
theorem qpp:(rof ru day le dy dh).lookup ("pour_into_cell" : Str)=none:=qfl _ _ _ _ _ (by decide +kernel) (by decide +kernel) (by decide +kernel) (by decide +kernel) (by decide +kernel)
theorem qvv:(rof ru day le dy dh).lookup ("rule" : Str)=none:=qfl _ _ _ _ _ (by decide +kernel) (by decide +kernel) (by decide +kernel) (by decide +kernel) (by decide +kernel)
theorem qto:(rof ru day le dy dh).lookup ("day" : Str)=none:=qfl _ _ _ _ _ (by decide +kernel) (by decide +kernel) (by decide +kernel) (by decide +kernel) (by decide +kernel)
theorem qir:(rof ru day le dy dh).lookup ("edges" : Str)=none:=qfl _ _ _ _ _ (by decide +kernel) (by decide +kernel) (by decide +kernel) (by decide +kernel) (by decide +kernel)
theorem qis:(rof ru day le dy dh).lookup ("young" : Str)=none:=qfl _ _ _ _ _ (by decide +kernel) (by decide +kernel) (by decide +kernel) (by decide +kernel) (by decide +kernel)
theorem qit:(rof ru day le dy dh).lookup ("heaps" : Str)=none:=qfl _ _ _ _ _ (by decide +kernel) (by decide +kernel) (by decide +kernel) (by decide +kernel) (by decide +kernel)
end
abbrev KV:=List (List Key×V)
structure qay where
 ru:Addr
 rl:Addr
 le:Addr
 dy:Addr
 dh:Addr
 ps:List (Int×Int)
 g:Option Int
 day:Int
 es:List Int
 ge:Option Int
 Y:KV
 Z:KV
structure RollAt (C R:Addr) (H:Hp) (ro:Addr) (D:qay):Prop where
 ob:∃ dx,H ro=some (.ins C dx (rof D.ru D.day D.le D.dy D.dh))
 rule:RuleAt R H D.ru D.rl D.ps D.g
 ed:H D.le=some (.lst (D.es.map V.int ++ [gv D.ge]))
 yo:H D.dy=some (.dT D.Y)
 he:H D.dh=some (.dT D.Z)
 ne:D.dy≠D.dh
theorem RollAt.same {C R:Addr} {H H':Hp} {ro:Addr} {D:qay} (s:Same H H') (h:RollAt C R H ro D):RollAt C R H' ro D:=
 ⟨let ⟨dx,e⟩:=h.ob;⟨dx,s _ _ e⟩,h.rule.same s,s _ _ h.ed,s _ _ h.yo,s _ _ h.he,h.ne⟩
theorem qA7 {kvs:KV}:∀ xs,HO.dT kvs≠.tup xs:=λ_ z=>by cases z
theorem RuleAt.but2 {C:Addr} {H H':Hp} {r l a:Addr} {ps:List (Int×Int)} {g:Option Int} {o:HO} (h:RuleAt C H r l ps g) (b:But a H H') (ha:H a=some o) (nt:∀ xs,o≠.tup xs) (nl:∀ xs,o≠.lst xs) (hr:r≠a):RuleAt C H' r l ps g:=by
 obtain ⟨dx,e⟩:=h.ob;obtain ⟨xs,e2,p⟩:=h.ls;exact ⟨⟨dx,b _ _ e hr⟩,xs,b _ _ e2 (qbe e2 ha (λz=>nl xs z.symm)),p.but b ha nt⟩
theorem RollAt.putY {C R:Addr} {H H':Hp} {ro:Addr} {D:qay} {Y':KV} (A:RollAt C R H ro D) (b:But D.dy H H') (h:H' D.dy=some (.dT Y')):RollAt C R H' ro { D with Y:=Y' }:=by
 obtain ⟨dx,e⟩:=A.ob;obtain ⟨dx2,e2⟩:=A.rule.ob;exact ⟨⟨dx,b _ _ e (qbe e A.yo (by intro z;cases z))⟩,A.rule.but2 b A.yo qA7 (by intro xs z;cases z) (qbe e2 A.yo (by intro z;cases z)),b _ _ A.ed (qbe A.ed A.yo (by intro z;cases z)),h,b _ _ A.he A.ne.symm,A.ne⟩
theorem RollAt.putZ {C R:Addr} {H H':Hp} {ro:Addr} {D:qay} {Z':KV} (A:RollAt C R H ro D) (b:But D.dh H H') (h:H' D.dh=some (.dT Z')):RollAt C R H' ro { D with Z:=Z' }:=by
 obtain ⟨dx,e⟩:=A.ob;obtain ⟨dx2,e2⟩:=A.rule.ob;exact ⟨⟨dx,b _ _ e (qbe e A.he (by intro z;cases z))⟩,A.rule.but2 b A.he qA7 (by intro xs z;cases z) (qbe e2 A.he (by intro z;cases z)),b _ _ A.ed (qbe A.ed A.he (by intro z;cases z)),b _ _ A.yo A.ne,h,A.ne⟩
def But2 (a b:Addr) (H H':Hp):Prop:=∀ c o,H c=some o->c≠a->c≠b->H' c=some o
structure qgr (D:qay):Prop where
 pr:Pr D.ps D.g
 es:D.es.length=D.ps.length
def qA8 (ru rl le dy dh:Addr) (ps:List (Int×Int)) (g:Option Int) (day:Int):qay:=⟨ru,rl,le,dy,dh,ps,g,day,ps.map (λp=>cut day p.1 p.2),g.map (λz=>cut day z (lw ps)),[],[]⟩
def YOk (Y:KV):Prop:=∀ k x,qcr Y k=some x->∃ n,x=V.int n
def ZOk (H:Hp) (Z:KV):Prop:=∀ k x,qcr Z k=some x->∃ (h:Addr) (m t lo hi:Int),x=.ref h/\H h=some (.tup [.int m,.int t,.int lo,.int hi])
theorem ZOk.same {H H':Hp} {Z:KV} (s:Same H H') (h:ZOk H Z):ZOk H' Z:=λk x e=>by
 obtain ⟨a,m,t,lo,hi,e1,e2⟩:=h k x e;exact ⟨a,m,t,lo,hi,e1,s _ _ e2⟩
def yv (Y:KV) (k:List Key):Int:=match qcr Y k with
 | some (.int n)=>n
 | _=>0
def kk (a b:Int):List Key:=[.inl a,.inl b]
theorem qA9 {Y:KV} (h:YOk Y) (k:List Key):(qcr Y k).getD (V.int 0)=V.int (yv Y k):=by
 unfold yv
 cases e:qcr Y k with
 | none=>rfl
 | some x =>
  obtain ⟨n,rfl⟩:=h k x e
  rfl
def qBa (H:Hp) (Z:KV) (k:List Key) (v m a b lo hi:Int):Prop:=
 (qcr Z k=none/\HeapOf [(v,m)] a b lo hi)\/∃ (h0:Addr) (m0 t0 lo0 hi0 a' b' lo' hi':Int),qcr Z k=some (.ref h0)/\H h0=some (.tup [.int m0,.int t0,.int lo0,.int hi0])/\HeapOf [(v,m)] a' b' lo' hi'/\a=m0+a'/\b=t0+b'/\lo=(if lo'<lo0 then lo' else lo0)/\hi=(if hi'>hi0 then hi' else hi0)
def Puts (H H':Hp) (D D':qay) (o:Option (Int×Int)) (t v m:Int):Prop:=
 (o=none/\D'=D)\/(o=some (t,0)/\D'={ D with Y:=putK D.Y (kk t v) (.int (yv D.Y (kk t v)+m)) }) \/
 ∃ (s w:Int) (h:Addr) (a b lo hi:Int),o=some (s,w)/\1<=w/\D'={ D with Z:=putK D.Z (kk s w) (.ref h) }/\H' h=some (.tup [.int a,.int b,.int lo,.int hi])/\qBa H D.Z (kk s w) v m a b lo hi
theorem CellOf.some_ {ws es:List Int} {ge:Option Int} {t:Int} {p:Int×Int} (h:CellOf ws es ge t (some p)) (hl:1<=es.length) (hw:∀ w∈ws,1<=w):p=(t,0)\/1<=p.2:=by
 obtain ⟨h1,h2⟩:=h es[0] (List.getElem?_eq_getElem (by omega))
 by_cases c:es[0]<=t
 ·exact .inl (Option.some.inj (h1 c))
 ·obtain ⟨g1,g2⟩:=h2 (by omega)
  by_cases hg:qcc ge t
  ·cases g1 hg
  ·obtain ⟨w,e1,e2⟩:=g2 hg
   cases e2;exact .inr (hw w (qtl (List.mem_of_getElem? e1)))
theorem Pr.w1 {ps:List (Int×Int)} {g:Option Int} (P:Pr ps g) {w:Int} (h:w∈ps.map (·.2)):1<=w:=by
 obtain ⟨p,hp,rfl⟩:=List.mem_map.mp h;obtain ⟨i,hi,e⟩:=List.getElem_of_mem hp;exact (P.size i p (by rw[<- e];exact List.getElem?_eq_getElem hi)).2.2.1
def qvw (p:Int×Int):Prop:=(-(10 ^ 45)<p.1/\p.1<10 ^ 45)/\1<=p.2/\p.2<10 ^ 45
inductive qiu (vs:List V) (H:Hp) (Q:VK) (E_:XK):Prop
 | mk:∀ l xs rs,vs=[.ref l]->H l=some (.lst xs)->Pairs H xs rs->(∀ p∈rs,qvw p)->rs.length<=200->(rs=[]->Q .non H)->(rs≠[]->∀ a m t lo hi H',HeapOf rs m t lo hi->New H H' a (.tup [.int m,.int t,.int lo,.int hi])->Q (.ref a) H')->qiu vs H Q E_
inductive qgs (C R:Addr) (vs:List V) (H:Hp) (Q:VK) (E_:XK):Prop
 | mk:∀ (ro dx ru rl:Addr) (ps:List (Int×Int)) (g:Option Int) (day:Int),vs=[.ref ro,.ref ru,.int day]->H ro=some (.ins C dx [])->RuleAt R H ru rl ps g->Pr ps g->Bd day->(∀ le dy dh H',H le=none->H dy=none->H dh=none->RollAt C R H' ro (qA8 ru rl le dy dh ps g day)->But ro H H'->Q .non H')->qgs C R vs H Q E_
def qvx (C R:Addr):Sp:=λvs H Q _=>∃ (ro:Addr) (D:qay),vs=[.ref ro]/\RollAt C R H ro D/\Q (.ref D.ru) H
def qyu (C R:Addr):Sp:=λvs H Q _=>∃ (ro:Addr) (D:qay),vs=[.ref ro]/\RollAt C R H ro D/\Q (.int D.day) H
def qtp (C R:Addr):Sp:=λvs H Q _=>∃ (ro:Addr) (D:qay),vs=[.ref ro]/\RollAt C R H ro D/\∀ p H',New H H' p (.lst (D.es.map V.int ++ [gv D.ge]))->Q (.ref p) H'
def TupAt (H:Hp) (v:V) (r:List Int):Prop:=∃ a,v=.ref a/\H a=some (.tup (r.map V.int))
def Tups (H:Hp) (xs:List V) (rs:List (List Int)):Prop:=Paired (TupAt H) xs rs
theorem TupAt.same {H H':Hp} (s:Same H H') {v:V} {r:List Int}:TupAt H v r->TupAt H' v r:=fun ⟨a,e,h⟩=>⟨a,e,s _ _ h⟩
theorem Tups.same {H H':Hp} (s:Same H H'):∀ {xs:List V} {rs:List (List Int)},Tups H xs rs->Tups H' xs rs
 | _,_,.nil=>.nil
 | _,_,.cons r t=>.cons (r.same s) (Tups.same s t)
theorem Tups.length {H:Hp}:∀ {xs:List V} {rs:List (List Int)},Tups H xs rs->xs.length=rs.length
 | _,_,.nil=>rfl
 | _,_,.cons _ t=>by simp[Tups.length t]
theorem Tups.get {H:Hp}:∀ {xs:List V} {rs:List (List Int)} {i:Nat} {x:V},Tups H xs rs->xs[i]?=some x->∃ r,rs[i]?=some r/\TupAt H x r
 | _,_,_,_,.nil,e=>by simp at e
 | _,_,0,_,.cons r _,e=>by simp at e;subst e;exact ⟨_,rfl,r⟩
 | _,_,i+1,x,.cons _ t,e=>by
  obtain ⟨u,h1,h2⟩:=Tups.get (i:=i) (x:=x) t (by simpa using e);exact ⟨u,by simpa using h1,h2⟩
open PySem L2
abbrev HP4:=Int×Int×Int×Int
structure Abs where
 y:List Int->Option Int
 z:List Int->Option HP4
def mg4 (a b:HP4):HP4:=(a.1+b.1,a.2.1+b.2.1,(if b.2.2.1<a.2.2.1 then b.2.2.1 else a.2.2.1),(if b.2.2.2>a.2.2.2 then b.2.2.2 else a.2.2.2))
def qf4 (v m:Int):HP4:=(m,v*m,v,v)
def qdo {α:Type} (f:List Int->Option α) (k:List Int) (x:α):List Int->Option α:=λj=>if j=k then some x else f j
theorem qas {α:Type} (f:List Int->Option α) (k:List Int) (x:α):qdo f k x k=some x:=if_pos rfl
theorem qa4 {α:Type} (f:List Int->Option α) {k j:List Int} (x:α) (h:j≠k):qdo f k x j=f j:=if_neg h
theorem qbk {α:Type} (f:List Int->Option α) (k:List Int) (x y:α):qdo (qdo f k x) k y=qdo f k y:=by
 funext j;unfold qdo;split<;>rfl
theorem qfm {α:Type} (f:List Int->Option α) {k l:List Int} (x y:α) (h:k≠l):qdo (qdo f k x) l y=qdo (qdo f l y) k x:=by
 funext j;unfold qdo
 by_cases h1:j=k
 ·subst h1;rw[if_neg h,if_pos rfl]
  simp
 ·by_cases h2:j=l
  ·subst h2;simp[h1]
  ·simp[h1,h2]
def qb5 (o:Option HP4) (b:HP4):HP4:=match o with
 | none=>b
 | some a=>mg4 a b
theorem qzk {a b:HP4} (h1:a.1=b.1) (h2:a.2.1=b.2.1) (h3:a.2.2.1=b.2.2.1) (h4:a.2.2.2=b.2.2.2):a=b:=by
 obtain ⟨_,_,_,_⟩:=a;obtain ⟨_,_,_,_⟩:=b
 simp at h1 h2 h3 h4
 simp[h1,h2,h3,h4]
theorem qvy (a b:HP4):mg4 a b=mg4 b a:=by
 unfold mg4;refine qzk ?_ ?_ ?_ ?_<;>dsimp only
 ·omega
 ·omega
 ·split<;>split<;>omega
 ·split<;>split<;>omega
theorem qtq (h a b:HP4):mg4 (mg4 h a) b=mg4 (mg4 h b) a:=by
 unfold mg4;refine qzk ?_ ?_ ?_ ?_<;>dsimp only
 ·omega
 ·omega
 ·repeat' split
  all_goals omega
 ·repeat' split
  all_goals omega
theorem qgc (o:Option HP4) (a b:HP4):qb5 (some (qb5 o a)) b=qb5 (some (qb5 o b)) a:=by
 cases o with
 | none=>exact qvy a b
 | some h=>exact qtq h a b
theorem qq5 (o:Option HP4) (v m n:Int):qb5 (some (qb5 o (qf4 v m))) (qf4 v n)=qb5 o (qf4 v (m+n)):=by
 have e:v*m+v*n=v*(m+n):=(Int.mul_add v m n).symm
 cases o with
 | none =>
  show mg4 (qf4 v m) (qf4 v n)=qf4 v (m+n)
  unfold mg4 qf4;refine qzk ?_ ?_ ?_ ?_<;>dsimp only
  ·exact e
  ·split<;>rfl
  ·split<;>rfl
 | some h =>
  show mg4 (mg4 h (qf4 v m)) (qf4 v n)=mg4 h (qf4 v (m+n))
  unfold mg4 qf4;refine qzk ?_ ?_ ?_ ?_<;>dsimp only
  ·omega
  ·rw[Int.add_assoc,e]
  ·repeat' split
   all_goals omega
  ·repeat' split
   all_goals omega
abbrev Rd3:=Int×Int×Int
def qcg (cell:Int->Option (Int×Int)) (s:Abs) (r:Rd3):Abs:=match cell r.1 with
 | none=>s
 | some (a,w)=>if w=0 then { s with y:=qdo s.y [r.1,r.2.1] ((s.y [r.1,r.2.1]).getD 0+r.2.2) } else { s with z:=qdo s.z [a,w] (qb5 (s.z [a,w]) (qf4 r.2.1 r.2.2)) }
theorem qtr (cell:Int->Option (Int×Int)) (s:Abs) (r q:Rd3):qcg cell (qcg cell s r) q=qcg cell (qcg cell s q) r:=by
 unfold qcg
 cases e1:cell r.1 with
 | none=>cases e2:cell q.1<;>rfl
 | some p =>
  obtain ⟨a,w⟩:=p
  cases e2:cell q.1 with
  | none=>rfl
  | some p2 =>
   obtain ⟨b,u⟩:=p2;dsimp only
   by_cases hw:w=0
   ·by_cases hu:u=0
    ·rw[if_pos hw,if_pos hu,if_pos hu,if_pos hw]
     dsimp only
     by_cases hk:[r.1,r.2.1]=[q.1,q.2.1]
     ·rw[hk,qas,qbk,qas,qbk]
      simp only[Option.getD_some]
      congr 2
      omega
     ·rw[qa4 _ _ (λz=>hk z.symm),qa4 _ _ hk,qfm _ _ _ hk]
    ·rw[if_pos hw,if_neg hu,if_neg hu,if_pos hw]
   ·by_cases hu:u=0
    ·rw[if_neg hw,if_pos hu,if_pos hu,if_neg hw]
    ·rw[if_neg hw,if_neg hu,if_neg hu,if_neg hw]
     dsimp only
     by_cases hk:[a,w]=[b,u]
     ·rw[hk,qas,qbk,qas,qbk,qgc]
     ·rw[qa4 _ _ (λz=>hk z.symm),qa4 _ _ hk,qfm _ _ _ hk]
theorem qq6 (cell:Int->Option (Int×Int)) (s:Abs) (t v m n:Int):qcg cell (qcg cell s (t,v,m)) (t,v,n)=qcg cell s (t,v,m+n):=by
 unfold qcg;dsimp only
 cases e1:cell t with
 | none=>rfl
 | some p =>
  obtain ⟨a,w⟩:=p;dsimp only
  by_cases hw:w=0
  ·rw[if_pos hw,if_pos hw,if_pos hw]
   dsimp only;rw[qas,qbk];simp only[Option.getD_some]
   congr 2
   omega
  ·rw[if_neg hw,if_neg hw,if_neg hw]
   dsimp only;rw[qas,qbk,qq5]
def qq7:Abs:=⟨λ_=>none,λ_=>none⟩
def qcu (cell:Int->Option (Int×Int)) (rs:List Rd3):Abs:=rs.foldl (qcg cell) qq7
theorem qgd (cell:Int->Option (Int×Int)) (rs:List Rd3) (r:Rd3):qcu cell (rs ++ [r])=qcg cell (qcu cell rs) r:=by
 unfold qcu;rw[List.foldl_append];rfl
structure SKeys {α:Type} (f:List Int->Option α) (ms:List (List Int)):Prop where
 srt:ms.Pairwise (λk l=>blt k l=true)
 mem:∀ k,k∈ms↔f k≠none
theorem qle {k l:List Int} (h1:blt k l=true) (h2:blt l k=true):False:=by
 have:=qj8 k l k h1 h2;rw[qig] at this;cases this
theorem SKeys.uniq {α:Type} {f:List Int->Option α} {ms ms':List (List Int)} (a:SKeys f ms) (b:SKeys f ms'):ms=ms':=by
 have nd:∀ {l:List (List Int)},l.Pairwise (λk l=>blt k l=true)->l.Nodup:=λh=>h.imp fun {k l} hb e=>by rw[e,qig] at hb;cases hb
 refine List.Perm.eq_of_pairwise (le:=λk l=>blt k l=true) (λk l _ _ h1 h2=>(qle h1 h2).elim) a.srt b.srt ?_;rw[List.perm_ext_iff_of_nodup (nd a.srt) (nd b.srt)];intro k;rw[a.mem,b.mem]
def kI (k:List Int):List Key:=k.map Sum.inl
theorem qiv {k l:List Int} (h:kI k=kI l):k=l:=by
 induction k generalizing l with
 | nil=>cases l with
  | nil=>rfl
  | cons _ _=>cases h
 | cons a r ih=>cases l with
  | nil=>cases h
  | cons b t =>
   unfold kI at h;rw[List.map_cons,List.map_cons] at h;injection h with h1 h2
   injection h1 with h1
   rw[h1,ih h2]
theorem qBb (k:List Int):(kI k).map kV=k.map V.int:=by
 unfold kI;rw[List.map_map];rfl
theorem qpq (kvs:KV) (k:List Key) (v:V):(k∈kvs.map (·.1)->(putK kvs k v).map (·.1)=kvs.map (·.1))/\(k ∉ kvs.map (·.1)->(putK kvs k v).map (·.1)=kvs.map (·.1) ++ [k]):=by
 unfold putK
 by_cases h:(kvs.any λkv=>decide (kv.1=k))=true
 ·have hm:k∈kvs.map (·.1):=by
   obtain ⟨x,hx,e⟩:=List.any_eq_true.mp h;exact List.mem_map.mpr ⟨x,hx,by simpa using e⟩
  refine ⟨λ_=>?_,λn=>absurd hm n⟩;rw[if_pos h,List.map_map]
  apply List.map_congr_left
  intro x hx
  show (if x.1=k then (x.1,v) else x).1=x.1
  split<;>rfl
 ·have hm:k ∉ kvs.map (·.1):=λhm=>h (by
   obtain ⟨x,hx,e⟩:=List.mem_map.mp hm;exact List.any_eq_true.mpr ⟨x,hx,by simpa using e⟩)
  refine ⟨λn=>absurd n hm,λ_=>?_⟩;rw[if_neg h,List.map_append];rfl
theorem valV_mem {kvs:KV} {k:List Key}:qcr kvs k≠none↔k∈kvs.map (·.1):=by
 unfold qcr
 constructor
 ·intro h
  cases e:kvs.find? λkv=>decide (kv.1=k) with
  | none=>rw[e] at h;exact absurd rfl h
  | some x =>
   have:=List.find?_some e;exact List.mem_map.mpr ⟨x,List.mem_of_find?_eq_some e,by simpa using this⟩
 ·intro h z
  obtain ⟨x,hx,e⟩:=List.mem_map.mp h;rw[Option.map_eq_none_iff,List.find?_eq_none] at z;exact z x hx (by simpa using e)
structure DKeys (kvs:KV) (ks:List (List Int)):Prop where
 eq:kvs.map (·.1)=ks.map kI
 nd:ks.Nodup
 ne:∀ k∈ks,k.length=2
theorem DKeys.nil:DKeys [] []:=⟨rfl,.nil,λk h=>by cases h⟩
theorem DKeys.put {kvs:KV} {ks:List (List Int)} (h:DKeys kvs ks) (k:List Int) (hk:k.length=2) (v:V):∃ ks',DKeys (putK kvs (kI k) v) ks'/\∀ j,j∈ks'↔j∈ks\/j=k:=by
 have hm:kI k∈kvs.map (·.1)↔k∈ks:=by
  rw[h.eq]
  constructor
  ·intro z
   obtain ⟨j,hj,e⟩:=List.mem_map.mp z;rw[<- qiv e];exact hj
  ·exact λz=>List.mem_map.mpr ⟨k,z,rfl⟩
 by_cases hin:k∈ks
 ·refine ⟨ks,⟨by rw[(qpq _ _ _).1 (hm.mpr hin)];exact h.eq,h.nd,h.ne⟩,λj=>⟨.inl,λz=>z.elim id λe=>by rw[e];exact hin⟩⟩
 ·refine ⟨ks ++ [k],⟨by rw[(qpq _ _ _).2 (λz=>hin (hm.mp z)),h.eq,List.map_append];rfl,?_,?_⟩,λj=>by simp⟩
  ·rw[List.nodup_append]
   exact ⟨h.nd,List.pairwise_singleton _ _,λa ha b hb e=>by
    rw[List.mem_singleton.mp hb] at e;exact hin (by rw[<- e];exact ha)⟩
  ·intro j hj
   rcases List.mem_append.mp hj with z|z
   ·exact h.ne j z
   ·rw[List.mem_singleton.mp z];exact hk
theorem DKeys.ne' {kvs:KV} {ks:List (List Int)} (h:DKeys kvs ks):∀ k∈ks,k≠[]:=λk hk z=>by
 have:=h.ne k hk;rw[z] at this;cases this
theorem DKeys.mem {kvs:KV} {ks:List (List Int)} (h:DKeys kvs ks) (k:List Int):k∈ks↔qcr kvs (kI k)≠none:=by
 rw[valV_mem,h.eq]
 constructor
 ·exact λz=>List.mem_map.mpr ⟨k,z,rfl⟩
 ·intro z
  obtain ⟨j,hj,e⟩:=List.mem_map.mp z;rw[<- qiv e];exact hj
def v4 (h:HP4):List V:=[.int h.1,.int h.2.1,.int h.2.2.1,.int h.2.2.2]
structure RAbs (H:Hp) (D:qay) (s:Abs) (LY LZ:List (List Int)):Prop where
 yv:∀ k,qcr D.Y (kI k)=(s.y k).map V.int
 yk:∃ ks,DKeys D.Y ks/\ks ⊆ LY
 zn:∀ k,s.z k=none->qcr D.Z (kI k)=none
 zs:∀ k h,s.z k=some h->∃ a,qcr D.Z (kI k)=some (.ref a)/\H a=some (.tup (v4 h))
 zk:∃ ks,DKeys D.Z ks/\ks ⊆ LZ
theorem RAbs.same {H H':Hp} {D:qay} {s:Abs} {LY LZ:List (List Int)} (e:Same H H') (h:RAbs H D s LY LZ):RAbs H' D s LY LZ:=
 ⟨h.yv,h.yk,h.zn,λk x q=>(h.zs k x q).imp λ_ z=>⟨z.1,e _ _ z.2⟩,h.zk⟩
theorem RAbs.tups {H H':Hp} {D:qay} {s:Abs} {LY LZ:List (List Int)} (e:qn0 H H') (h:RAbs H D s LY LZ):RAbs H' D s LY LZ:=
 ⟨h.yv,h.yk,h.zn,λk x q=>(h.zs k x q).imp λ_ z=>⟨z.1,e _ _ z.2⟩,h.zk⟩
theorem RAbs.mono {H:Hp} {D:qay} {s:Abs} {LY LZ LY' LZ':List (List Int)} (h:RAbs H D s LY LZ) (a:LY ⊆ LY') (b:LZ ⊆ LZ'):RAbs H D s LY' LZ':=
 ⟨h.yv,h.yk.imp λ_ z=>⟨z.1,λ_ y=>a (z.2 y)⟩,h.zn,h.zs,h.zk.imp λ_ z=>⟨z.1,λ_ y=>b (z.2 y)⟩⟩
theorem RAbs.zero {H:Hp} {D:qay} {LY LZ:List (List Int)} (eY:D.Y=[]) (eZ:D.Z=[]):RAbs H D qq7 LY LZ where
 yv:=λk=>by rw[eY];rfl
 yk:=⟨[],by rw[eY];exact DKeys.nil,λ_ z=>by cases z⟩
 zn:=λk _=>by rw[eZ];rfl
 zs:=λk x z=>by cases z
 zk:=⟨[],by rw[eZ];exact DKeys.nil,λ_ z=>by cases z⟩
theorem RAbs.yok {H:Hp} {D:qay} {s:Abs} {LY LZ:List (List Int)} (h:RAbs H D s LY LZ):∀ k x,qcr D.Y (kI k)=some x->∃ n,x=V.int n:=λk x e=>by
 rw[h.yv] at e
 cases e2:s.y k with
 | none=>rw[e2] at e;cases e
 | some n=>rw[e2] at e;exact ⟨n,(Option.some.inj e).symm⟩
theorem qw9 {kvs:KV} {ks L:List (List Int)} (h:DKeys kvs ks) (hs:ks ⊆ L):kvs.length<=L.length:=by
 have:=congrArg List.length h.eq;rw[List.length_map,List.length_map] at this;rw[this];exact List.Nodup.length_le_of_subset h.nd hs
open PySem L2
theorem qlf {v m a b lo hi:Int} (h:HeapOf [(v,m)] a b lo hi):a=m/\b=v*m/\lo=v/\hi=v:=by
 refine ⟨by rw[h.m];simp[rN,qvu],by rw[h.t];simp[rT,qw6],?_,?_⟩
 ·have:=h.lo;simpa [qgk] using this
 ·have:=h.hi;simpa [qgk] using this
theorem qxa {kvs:KV} {ks:List (List Int)} (h:DKeys kvs ks) {k:List Key} {x:V} (e:qcr kvs k=some x):∃ j,k=kI j:=by
 have:k∈kvs.map (·.1):=valV_mem.mp (by rw[e];simp);rw[h.eq] at this;obtain ⟨j,_,e⟩:=List.mem_map.mp this;exact ⟨j,e.symm⟩
theorem RAbs.YOk {H:Hp} {D:qay} {s:Abs} {LY LZ:List (List Int)} (h:RAbs H D s LY LZ):YOk D.Y:=λk x e=>by
 obtain ⟨ks,d,_⟩:=h.yk;obtain ⟨j,rfl⟩:=qxa d e;exact h.yok j x e
theorem RAbs.ZOk {H:Hp} {D:qay} {s:Abs} {LY LZ:List (List Int)} (h:RAbs H D s LY LZ):ZOk H D.Z:=λk x e=>by
 obtain ⟨ks,d,_⟩:=h.zk;obtain ⟨j,rfl⟩:=qxa d e
 cases ez:s.z j with
 | none=>rw[h.zn j ez] at e;cases e
 | some p =>
  obtain ⟨a,e1,e2⟩:=h.zs j p ez;rw[e] at e1;cases e1;exact ⟨a,p.1,p.2.1,p.2.2.1,p.2.2.2,rfl,e2⟩
theorem RAbs.ylen {H:Hp} {D:qay} {s:Abs} {LY LZ:List (List Int)} (h:RAbs H D s LY LZ):D.Y.length<=LY.length:=by
 obtain ⟨ks,d,e⟩:=h.yk;exact qw9 d e
theorem RAbs.zlen {H:Hp} {D:qay} {s:Abs} {LY LZ:List (List Int)} (h:RAbs H D s LY LZ):D.Z.length<=LZ.length:=by
 obtain ⟨ks,d,e⟩:=h.zk;exact qw9 d e
def qC9 (cell:Int->Option (Int×Int)) (r:Rd3):List Int:=match cell r.1 with
 | none=>[]
 | some (a,w)=>[a,w]
theorem RAbs.put {H H':Hp} {D D':qay} {o:Option (Int×Int)} {t v m:Int} {s:Abs} {LY LZ:List (List Int)} {cell:Int->Option (Int×Int)} (h:RAbs H D s LY LZ) (hp:Puts H H' D D' o t v m) (eo:cell t=o) (ts:qn0 H H')
  (hy:[t,v]∈LY) (hz:∀ a w,o=some (a,w)->[a,w]∈LZ):RAbs H' D' (qcg cell s (t,v,m)) LY LZ:=by
 have h2:=h.tups ts;unfold qcg;dsimp only
 rcases hp with ⟨rfl,rfl⟩|⟨rfl,rfl⟩|⟨a,w,b,m1,t1,lo1,hi1,rfl,hw,rfl,hb,po⟩
 ·rw[eo];exact h2
 ·rw[eo]
  dsimp only;rw[if_pos rfl];have ey:TB.yv D.Y (kk t v)=(s.y [t,v]).getD 0:=by
   unfold TB.yv;have:=h.yv [t,v];rw[show kk t v=kI [t,v] from rfl,this]
   cases s.y [t,v]<;>rfl
  refine ⟨λk=>?_,?_,h2.zn,h2.zs,h2.zk⟩
  ·show qcr (putK D.Y (kI [t,v]) _) (kI k)=(qdo s.y [t,v] ((s.y [t,v]).getD 0+m) k).map V.int
   rw[qfc,ey]
   by_cases hk:k=[t,v]
   ·subst hk;rw[if_pos rfl,qas];rfl
   ·rw[if_neg (λz=>hk (qiv z)),qa4 _ _ hk];exact h.yv k
  ·obtain ⟨ks,d,e⟩:=h.yk
   obtain ⟨ks',d',e'⟩:=d.put [t,v] rfl (V.int (TB.yv D.Y (kk t v)+m));exact ⟨ks',d',λj hj=>(e' j).mp hj |>.elim (λz=>e z) λz=>by rw[z];exact hy⟩
 ·rw[eo]
  dsimp only;rw[if_neg (by omega)];have ev:(m1,t1,lo1,hi1)=qb5 (s.z [a,w]) (qf4 v m):=by
   rcases po with ⟨p1,p2⟩|⟨h0,m0,t0,lo0,hi0,a',b',lo',hi',p1,p2,p3,rfl,rfl,rfl,rfl⟩
   ·obtain ⟨rfl,rfl,rfl,rfl⟩:=qlf p2
    cases ez:s.z [a,w] with
    | none=>rfl
    | some q =>
     obtain ⟨_,e1,_⟩:=h.zs _ q ez;rw[show kk a w=kI [a,w] from rfl,e1] at p1;cases p1
   ·obtain ⟨rfl,rfl,rfl,rfl⟩:=qlf p3
    cases ez:s.z [a,w] with
    | none =>
     have:=h.zn _ ez;rw[show kk a w=kI [a,w] from rfl,this] at p1;cases p1
    | some q =>
     obtain ⟨_,e1,e2⟩:=h.zs _ q ez;rw[show kk a w=kI [a,w] from rfl,e1] at p1;cases p1;rw[p2] at e2;have e3:[V.int m0,V.int t0,V.int lo0,V.int hi0]=v4 q:=by injection e2 with e2;injection e2
     unfold v4 at e3;injection e3 with c1 e3
     injection e3 with c2 e3
     injection e3 with c3 e3
     injection e3 with c4 e3
     injection c1 with c1
     injection c2 with c2
     injection c3 with c3
     injection c4 with c4
     subst c1 c2 c3 c4
     rfl
  have hb':H' b=some (.tup (v4 (qb5 (s.z [a,w]) (qf4 v m)))):=by rw[<- ev];exact hb
  refine ⟨h2.yv,h2.yk,λk hk=>?_,λk q hk=>?_,?_⟩
  ·have hk:qdo s.z [a,w] (qb5 (s.z [a,w]) (qf4 v m)) k=none:=hk
   show qcr (putK D.Z (kI [a,w]) _) (kI k)=_
   rw[qfc]
   by_cases hk2:k=[a,w]
   ·subst hk2;rw[qas] at hk;cases hk
   ·rw[if_neg (λz=>hk2 (qiv z))]
    rw[qa4 _ _ hk2] at hk;exact h.zn k hk
  ·have hk:qdo s.z [a,w] (qb5 (s.z [a,w]) (qf4 v m)) k=some q:=hk
   show ∃ c,qcr (putK D.Z (kI [a,w]) (.ref b)) (kI k)=some (.ref c)/\_
   rw[qfc]
   by_cases hk2:k=[a,w]
   ·subst hk2
    rw[qas] at hk;cases hk;exact ⟨b,if_pos rfl,hb'⟩
   ·rw[qa4 _ _ hk2] at hk
    rw[if_neg (λz=>hk2 (qiv z))];exact h2.zs k q hk
  ·obtain ⟨ks,d,e⟩:=h.zk
   obtain ⟨ks',d',e'⟩:=d.put [a,w] rfl (V.ref b);exact ⟨ks',d',λj hj=>(e' j).mp hj |>.elim (λz=>e z) λz=>by rw[z];exact hz a w rfl⟩
inductive qfn (C R:Addr) (vs:List V) (H:Hp) (Q:VK) (E_:XK):Prop
 | mk:∀ (ro:Addr) (D:qay) (t v m:Int),vs=[.ref ro,.int t,.int v,.int m]->RollAt C R H ro D->qgr D->qvt t->1<=m->qvw (v,m)->TB.YOk D.Y->TB.ZOk H D.Z->D.Y.length<=900->D.Z.length<=900->(∀ o,CellOf (D.ps.map (·.2)) D.es D.ge t o->∀ D' H',Puts H H' D D' o t v m->RollAt C R H' ro D'->But2 D.dy D.dh H H'->Q (.bl o.isSome) H')->qfn C R vs H Q E_
def qmv (s:Abs) (k:List Int):List Int:=k ++ [(s.y k).getD 0]
def i4 (h:HP4):List Int:=[h.1,h.2.1,h.2.2.1,h.2.2.2]
def qjv (s:Abs) (k:List Int):List Int:=k ++ i4 ((s.z k).getD (0,0,0,0))
inductive qiw (C R:Addr) (vs:List V) (H:Hp) (Q:VK) (E_:XK):Prop
 | mk:∀ (ro:Addr) (D:qay) (s:Abs) (LY LZ:List (List Int)),vs=[.ref ro]->RollAt C R H ro D->RAbs H D s LY LZ->LY.length<64->(∀ l xs ms H',Same H H'->H l=none->H' l=some (.lst xs)->SKeys s.y ms->ms.length<64->Tups H' xs (ms.map (qmv s))->Q (.ref l) H')->qiw C R vs H Q E_
inductive qix (C R:Addr) (vs:List V) (H:Hp) (Q:VK) (E_:XK):Prop
 | mk:∀ (ro:Addr) (D:qay) (s:Abs) (LY LZ:List (List Int)),vs=[.ref ro]->RollAt C R H ro D->RAbs H D s LY LZ->LZ.length<64->(∀ l xs ms H',Same H H'->H l=none->H' l=some (.lst xs)->SKeys s.z ms->ms.length<64->Tups H' xs (ms.map (qjv s))->Q (.ref l) H')->qix C R vs H Q E_
theorem Tups.snoc {H:Hp} {v:V} {r:List Int} (h:TupAt H v r):∀ {xs:List V} {rs:List (List Int)},Tups H xs rs->Tups H (xs ++ [v]) (rs ++ [r])
 | _,_,.nil=>.cons h .nil
 | _,_,.cons q t=>.cons q (Tups.snoc h t)
theorem SKeys.ofD {kvs:KV} {ks ms:List (List Int)} {α:Type} {f:List Int->Option α} (d:DKeys kvs ks) (hf:∀ k,qcr kvs (kI k)≠none↔f k≠none) (p:ms.Perm ks) (hs:ms.Pairwise (λk l=>blt k l=true)):SKeys f ms:=
 ⟨hs,λk=>by rw[p.mem_iff,d.mem,hf]⟩
open PySem L2
def ROk (r:Rd3):Prop:=qvt r.1/\qvw (r.2.1,r.2.2)
def l3 (r:Rd3):List Int:=[r.1,r.2.1,r.2.2]
open Classical in
noncomputable def qbu (ws es:List Int) (ge:Option Int) (t:Int):Option (Int×Int):=if h:∃ o,CellOf ws es ge t o then h.choose else none
theorem qlg {ws es:List Int} {ge:Option Int} {t:Int} {o:Option (Int×Int)} (hl:1<=es.length) (h:CellOf ws es ge t o):qbu ws es ge t=o:=by
 have hx:∃ o,CellOf ws es ge t o:=⟨o,h⟩;unfold qbu;rw[dif_pos hx];exact CellOf.uniq (e0:=es[0]) (List.getElem?_eq_getElem (by omega)) hx.choose_spec h
def dd (Y Z:KV):qay:=⟨0,0,0,0,0,[],none,0,[],none,Y,Z⟩
open PySem L2
def RR (C R:Addr) (H:Hp) (ro:Addr) (c:qay) (s:Abs) (LY LZ:List (List Int)):Prop:=
 ∃ Y Z,RollAt C R H ro { c with Y:=Y,Z:=Z }/\RAbs H { c with Y:=Y,Z:=Z } s LY LZ
theorem RR.same {C R:Addr} {H H':Hp} {ro:Addr} {c:qay} {s:Abs} {LY LZ:List (List Int)} (e:Same H H') (h:RR C R H ro c s LY LZ):RR C R H' ro c s LY LZ:=
 let ⟨Y,Z,a,b⟩:=h;⟨Y,Z,a.same e,b.same e⟩
theorem But2.tups {H H':Hp} {a b:Addr} {Y Z:KV} (h:But2 a b H H') (ha:H a=some (.dT Y)) (hb:H b=some (.dT Z)):qn0 H H':=λx xs e =>
 h x _ e (qbe e ha (by intro z;cases z)) (qbe e hb (by intro z;cases z))
theorem But2.keep {H H':Hp} {a b:Addr} {Y Z:KV} (h:But2 a b H H') (ha:H a=some (.dT Y)) (hb:H b=some (.dT Z)) {x:Addr} {o:HO} (e:H x=some o) (n:∀ K,o≠.dT K):H' x=some o:=
 h x _ e (qbe e ha (n _)) (qbe e hb (n _))
theorem But2.trans {H H1 H2:Hp} {a b:Addr} (h:But2 a b H H1) (h2:But2 a b H1 H2):But2 a b H H2:=λx o e n m=>h2 x o (h x o e n m) n m
theorem But2.refl (a b:Addr) (H:Hp):But2 a b H H:=λ_ _ e _ _=>e
theorem RuleAt.keep2 {C:Addr} {H H':Hp} {r l a b:Addr} {ps:List (Int×Int)} {g:Option Int} {Y Z:KV} (h:RuleAt C H r l ps g) (e:But2 a b H H') (ha:H a=some (.dT Y)) (hb:H b=some (.dT Z)):RuleAt C H' r l ps g:=by
 obtain ⟨dx,e1⟩:=h.ob;obtain ⟨xs,e2,p⟩:=h.ls;exact ⟨⟨dx,e.keep ha hb e1 (by intro K z;cases z)⟩,xs,e.keep ha hb e2 (by intro K z;cases z),p.tupS (e.tups ha hb)⟩
theorem RR.frame {C R:Addr} {H H':Hp} {ro:Addr} {c:qay} {s:Abs} {LY LZ:List (List Int)} {a b:Addr} {Y Z:KV} (h:RR C R H ro c s LY LZ) (e:But2 a b H H') (ha:H a=some (.dT Y)) (hb:H b=some (.dT Z))
  (n1:c.dy≠a) (n2:c.dy≠b) (n3:c.dh≠a) (n4:c.dh≠b):RR C R H' ro c s LY LZ:=by
 obtain ⟨Y',Z',A,B⟩:=h;obtain ⟨dx,e1⟩:=A.ob;exact ⟨Y',Z',⟨⟨dx,e.keep ha hb e1 (by intro K z;cases z)⟩,A.rule.keep2 e ha hb,e.keep ha hb A.ed (by intro K z;cases z),e _ _ A.yo n1 n2,e _ _ A.he n3 n4,A.ne⟩,B.tups (e.tups ha hb)⟩
theorem RR.dicts {C R:Addr} {H:Hp} {ro:Addr} {c:qay} {s:Abs} {LY LZ:List (List Int)} (h:RR C R H ro c s LY LZ):(∃ Y,H c.dy=some (.dT Y))/\∃ Z,H c.dh=some (.dT Z):=
 let ⟨_,_,A,_⟩:=h;⟨⟨_,A.yo⟩,⟨_,A.he⟩⟩
theorem RR.obj {C R:Addr} {H:Hp} {ro:Addr} {c:qay} {s:Abs} {LY LZ:List (List Int)} (h:RR C R H ro c s LY LZ):∃ dx,H ro=some (.ins C dx (rof c.ru c.day c.le c.dy c.dh)):=
 let ⟨_,_,A,_⟩:=h;A.ob
noncomputable abbrev cellD (c:qay):Int->Option (Int×Int):=qbu (c.ps.map (·.2)) c.es c.ge
theorem RR.put {C R:Addr} {H:Hp} {ro:Addr} {c:qay} {s:Abs} {LY LZ:List (List Int)} {t v m:Int} {Q:VK} {E:XK} (h:RR C R H ro c s LY LZ) (ok:qgr c) (hr:qvt t) (h1:1<=m) (hb:qvw (v,m)) (ly:LY.length<64) (lz:LZ.length<64)
  (hy:[t,v]∈LY) (hz:∀ a w,cellD c t=some (a,w)->[a,w]∈LZ)
  (q:∀ H',RR C R H' ro c (qcg (cellD c) s (t,v,m)) LY LZ->But2 c.dy c.dh H H'->Q (.bl (cellD c t).isSome) H'):qfn C R [.ref ro,.int t,.int v,.int m] H Q E:=by
 obtain ⟨Y,Z,A,B⟩:=h;have hes:1<=c.es.length:=by rw[ok.es];exact ok.pr.good.lo
 refine ⟨ro,_,t,v,m,rfl,A,⟨ok.pr,ok.es⟩,hr,h1,hb,B.YOk,B.ZOk,Nat.le_trans B.ylen (by omega),Nat.le_trans B.zlen (by omega),λo hc D' H' pu A' b'=>?_⟩;have eo:cellD c t=o:=qlg hes hc;rw[<- eo];have B':=B.put pu eo (b'.tups A.yo A.he) hy (λa w e=>hz a w (eo.trans e));refine q H' ?_ b'
 rcases pu with ⟨_,rfl⟩|⟨_,rfl⟩|⟨_,_,_,_,_,_,_,_,_,rfl,_,_⟩
 ·exact ⟨Y,Z,A',B'⟩
 ·exact ⟨_,Z,A',B'⟩
 ·exact ⟨Y,_,A',B'⟩
open Classical in
noncomputable def qbh (s:Abs):List (List Int):=if h:∃ ms,SKeys s.y ms then h.choose.map (qmv s) else []
open Classical in
noncomputable def qbc (s:Abs):List (List Int):=if h:∃ ms,SKeys s.z ms then h.choose.map (qjv s) else []
theorem qcv {s:Abs} {ms:List (List Int)} (h:SKeys s.y ms):ms.map (qmv s)=qbh s:=by
 have hx:∃ ms,SKeys s.y ms:=⟨ms,h⟩;unfold qbh;rw[dif_pos hx,SKeys.uniq h hx.choose_spec]
theorem qcw {s:Abs} {ms:List (List Int)} (h:SKeys s.z ms):ms.map (qjv s)=qbc s:=by
 have hx:∃ ms,SKeys s.z ms:=⟨ms,h⟩;unfold qbc;rw[dif_pos hx,SKeys.uniq h hx.choose_spec]
def qxb (rs:List (List Int)):Prop:=rs.length<=900/\∀ r∈rs,r.length<=10
theorem RR.young {C R:Addr} {H:Hp} {ro:Addr} {c:qay} {s:Abs} {LY LZ:List (List Int)} {Q:VK} {E:XK} (h:RR C R H ro c s LY LZ) (ly:LY.length<64)
  (q:∀ l xs H',Same H H'->H l=none->H' l=some (.lst xs)->Tups H' xs (qbh s)->qxb (qbh s)->Q (.ref l) H'):qiw C R [.ref ro] H Q E:=by
 obtain ⟨Y,Z,A,B⟩:=h;refine ⟨ro,_,s,LY,LZ,rfl,A,B,ly,λl xs ms H' e f hl sk hm tu=>?_⟩;rw[qcv sk] at tu;refine q l xs H' e f hl tu ?_;rw[<- qcv sk];obtain ⟨ks,dk,_⟩:=B.yk;refine ⟨by rw[List.length_map];omega,λr hr=>?_⟩;obtain ⟨k,hk,rfl⟩:=List.mem_map.mp hr;have:k∈ks:=(dk.mem k).mpr (by rw[B.yv];have:=(sk.mem k).mp hk;cases z:s.y k with|none=>exact absurd z this|some _=>simp);have:=dk.ne k this;unfold qmv;rw[List.length_append,this];simp
theorem RR.heaps {C R:Addr} {H:Hp} {ro:Addr} {c:qay} {s:Abs} {LY LZ:List (List Int)} {Q:VK} {E:XK} (h:RR C R H ro c s LY LZ) (lz:LZ.length<64)
  (q:∀ l xs H',Same H H'->H l=none->H' l=some (.lst xs)->Tups H' xs (qbc s)->qxb (qbc s)->Q (.ref l) H'):qix C R [.ref ro] H Q E:=by
 obtain ⟨Y,Z,A,B⟩:=h;refine ⟨ro,_,s,LY,LZ,rfl,A,B,lz,λl xs ms H' e f hl sk hm tu=>?_⟩;rw[qcw sk] at tu;refine q l xs H' e f hl tu ?_;rw[<- qcw sk];obtain ⟨ks,dk,_⟩:=B.zk;refine ⟨by rw[List.length_map];omega,λr hr=>?_⟩;obtain ⟨k,hk,rfl⟩:=List.mem_map.mp hr;have:k∈ks:=(dk.mem k).mpr (by
  have:=(sk.mem k).mp hk
  cases z:s.z k with
  | none=>exact absurd z this
  | some h4=>obtain ⟨a,e1,_⟩:=B.zs k h4 z;rw[e1];simp)
 have:=dk.ne k this;unfold qjv i4;rw[List.length_append,this];simp
theorem Tups.tupS {H H':Hp} (s:qn0 H H'):∀ {xs:List V} {rs:List (List Int)},Tups H xs rs->Tups H' xs rs
 | _,_,.nil=>.nil
 | _,_,.cons ⟨a,e,h⟩ t=>.cons ⟨a,e,s _ _ h⟩ (Tups.tupS s t)
open PySem L2
def qdl (cell:Int->Option (Int×Int)) (s:Abs) (a:Int) (x:HP4):Abs:=match cell a with
 | none=>s
 | some (b,w)=>{ s with z:=qdo s.z [b,w] (qb5 (s.z [b,w]) x) }
def qts (H:Hp) (Z:KV) (k:List Key) (x y:HP4):Prop:=
 (qcr Z k=none/\y=x)\/∃ (h0:Addr) (x0:HP4),qcr Z k=some (.ref h0)/\H h0=some (.tup (v4 x0))/\y=mg4 x0 x
theorem qxc {x y:HP4} (h:v4 x=v4 y):x=y:=by
 unfold v4 at h;injection h with h1 h
 injection h with h2 h
 injection h with h3 h
 injection h with h4 _
 injection h1 with h1
 injection h2 with h2
 injection h3 with h3
 injection h4 with h4
 exact qzk h1 h2 h3 h4
theorem RAbs.pour {H H':Hp} {D:qay} {a w:Int} {b:Addr} {x y:HP4} {s:Abs} {LY LZ:List (List Int)} (h:RAbs H D s LY LZ) (po:qts H D.Z (kk a w) x y) (hb:H' b=some (.tup (v4 y))) (ts:qn0 H H') (hz:[a,w]∈LZ) :
  RAbs H' { D with Z:=putK D.Z (kk a w) (.ref b) } { s with z:=qdo s.z [a,w] (qb5 (s.z [a,w]) x) } LY LZ:=by
 have h2:=h.tups ts;have ev:y=qb5 (s.z [a,w]) x:=by
  rcases po with ⟨p1,p2⟩|⟨h0,x0,p1,p2,p3⟩
  ·cases ez:s.z [a,w] with
   | none=>exact p2
   | some q =>
    obtain ⟨_,e1,_⟩:=h.zs _ q ez;rw[show kk a w=kI [a,w] from rfl,e1] at p1;cases p1
  ·cases ez:s.z [a,w] with
   | none =>
    have:=h.zn _ ez;rw[show kk a w=kI [a,w] from rfl,this] at p1;cases p1
   | some q =>
    obtain ⟨_,e1,e2⟩:=h.zs _ q ez;rw[show kk a w=kI [a,w] from rfl,e1] at p1;cases p1;rw[p2] at e2;have e3:v4 x0=v4 q:=by injection e2 with e2;injection e2
    rw[p3,qxc e3]
    rfl
 subst ev;refine ⟨h2.yv,h2.yk,λk hk=>?_,λk q hk=>?_,?_⟩
 ·have hk:qdo s.z [a,w] (qb5 (s.z [a,w]) x) k=none:=hk
  show qcr (putK D.Z (kI [a,w]) _) (kI k)=_
  rw[qfc]
  by_cases hk2:k=[a,w]
  ·subst hk2;rw[qas] at hk;cases hk
  ·rw[if_neg (λz=>hk2 (qiv z))]
   rw[qa4 _ _ hk2] at hk;exact h.zn k hk
 ·have hk:qdo s.z [a,w] (qb5 (s.z [a,w]) x) k=some q:=hk
  show ∃ c,qcr (putK D.Z (kI [a,w]) (.ref b)) (kI k)=some (.ref c)/\_
  rw[qfc]
  by_cases hk2:k=[a,w]
  ·subst hk2
   rw[qas] at hk;cases hk;exact ⟨b,if_pos rfl,hb⟩
  ·rw[qa4 _ _ hk2] at hk
   rw[if_neg (λz=>hk2 (qiv z))];exact h2.zs k q hk
 ·obtain ⟨ks,d,e⟩:=h.zk
  obtain ⟨ks',d',e'⟩:=d.put [a,w] rfl (V.ref b);exact ⟨ks',d',λj hj=>(e' j).mp hj |>.elim (λz=>e z) λz=>by rw[z];exact hz⟩
def qcp (cell:Int->Option (Int×Int)) (s:Abs):List Int->Abs
 | [t,v,m]=>qcg cell s (t,v,m)
 | _=>s
def qbv (cell:Int->Option (Int×Int)) (s:Abs):List Int->Abs
 | [a,_,m,t,lo,hi]=>qdl cell s a (m,t,lo,hi)
 | _=>s
def qfo (cell:Int->Option (Int×Int)) (s:Abs) (Y Z:List (List Int)):Abs:=Z.foldl (qbv cell) (Y.foldl (qcp cell) s)
inductive qmw (C R:Addr) (vs:List V) (H:Hp) (Q:VK) (E_:XK):Prop
 | mk:∀ (ro:Addr) (D:qay) (c h:Addr) (s w:Int) (x:HP4),vs=[.ref ro,.ref c,.ref h]->RollAt C R H ro D->H c=some (.tup [.int s,.int w])->H h=some (.tup (v4 x))->ZOk H D.Z->D.Z.length<=900->(∀ h2 y H',H' h2=some (.tup (v4 y))->qts H D.Z (kk s w) x y->RollAt C R H' ro { D with Z:=putK D.Z (kk s w) (.ref h2) }->But D.dh H H'->Q .non H')->qmw C R vs H Q E_
inductive qpr (C R:Addr) (vs:List V) (H:Hp) (Q:VK) (E_:XK):Prop
 | mk:∀ (ro:Addr) (c:qay) (s:Abs) (LY LZ:List (List Int)) (a:Int) (h:Addr) (x:HP4),vs=[.ref ro,.int a,.ref h]->RR C R H ro c s LY LZ->qgr c->qvt a->H h=some (.tup (v4 x))->LZ.length<64->(∀ b w,cellD c a=some (b,w)->[b,w]∈LZ)->(∀ H',RR C R H' ro c (qdl (cellD c) s a x) LY LZ->But2 c.dy c.dh H H'->Q .non H')->qpr C R vs H Q E_
structure qps (cell:Int->Option (Int×Int)) (LY LZ Y Z:List (List Int)):Prop where
 y:∀ r∈Y,∃ t v m,r=[t,v,m]/\ROk (t,v,m)/\[t,v]∈LY/\∀ a w,cell t=some (a,w)->[a,w]∈LZ
 z:∀ r∈Z,∃ a w m t lo hi,r=[a,w,m,t,lo,hi]/\qvt a/\∀ b w,cell a=some (b,w)->[b,w]∈LZ
def qBc (c d:qay):Prop:=c.dy≠d.dy/\c.dy≠d.dh/\c.dh≠d.dy/\c.dh≠d.dh
inductive qiy (C R:Addr) (vs:List V) (H:Hp) (Q:VK) (E_:XK):Prop
 | mk:∀ (ro r2:Addr) (c c2:qay) (s s2:Abs) (LY LZ LY2 LZ2:List (List Int)),vs=[.ref ro,.ref r2]->RR C R H ro c s LY LZ->RR C R H r2 c2 s2 LY2 LZ2->qgr c->qBc c2 c->LY.length<64->LZ.length<64->LY2.length<64->LZ2.length<64->qps (cellD c) LY LZ (qbh s2) (qbc s2)->(∀ H',RR C R H' ro c (qfo (cellD c) s (qbh s2) (qbc s2)) LY LZ->But2 c.dy c.dh H H'->Q .non H')->qiy C R vs H Q E_
open PySem L2
theorem SKeys.nd {α:Type} {f:List Int->Option α} {ms:List (List Int)} (h:SKeys f ms):ms.Nodup:=h.srt.imp fun {k l} hb e=>by rw[e,qig] at hb;cases hb
open PySem L2
theorem qdu {ws es:List Int} {ge:Option Int} (hw:1<=ws.length) (he:1<=es.length) (t:Int):CellOf ws es ge t (qbu ws es ge t):=by
 obtain ⟨o,h⟩:∃ o,CellOf ws es ge t o:=by
  by_cases c:es[0]<=t
  ·exact ⟨some (t,0),λe0 h0=>⟨λ_=>rfl,λz=>by rw[List.getElem?_eq_getElem (by omega)] at h0;have:=Option.some.inj h0;omega⟩⟩
  ·by_cases hg:qcc ge t
   ·exact ⟨none,λe0 h0=>⟨λz=>by rw[List.getElem?_eq_getElem (by omega)] at h0;have:=Option.some.inj h0;omega,λ_=>⟨λ_=>rfl,λz=>absurd hg z⟩⟩⟩
   ·have hn:=qAz (ws:=ws) (es:=es) (t:=t) (w0:=ws[0]) (e0:=es[0]) (List.getElem?_eq_getElem (by omega)) (List.getElem?_eq_getElem (by omega)) (by omega)
    refine ⟨some (t / (wl ws es t)[(wl ws es t).length-1]*(wl ws es t)[(wl ws es t).length-1],(wl ws es t)[(wl ws es t).length-1]),λe0 h0=>⟨λz=>by rw[List.getElem?_eq_getElem (by omega)] at h0;have:=Option.some.inj h0;omega,λ_=>⟨λz=>absurd z hg,λ_=>⟨_,List.getElem?_eq_getElem (by omega),rfl⟩⟩⟩⟩
 rw[qlg he h];exact h
theorem qpt {e t w:Int} (hw:1<=w) (h:w ∣ e) (hl:e<=t):e<=t / w*w:=by
 obtain ⟨k,rfl⟩:=h;have:k<=t / w:=(Int.le_ediv_iff_mul_le (by omega)).mpr (by rw[Int.mul_comm];exact hl);rw[Int.mul_comm w k];exact Int.mul_le_mul_of_nonneg_right this (by omega)
def qB0 (W:Int) (cell:Int->Option (Int×Int)):Prop:=∀ t a w,cell t=some (a,w)->a<=t/\t-W<=a
theorem qtt {ws es:List Int} {ge:Option Int} {W:Int} (hw:1<=ws.length) (he:1<=es.length) (hW:0<=W) (hb:∀ w∈ws,1<=w/\w<=W):qB0 W (qbu ws es ge):=λt a w e=>by
 have h:=qdu (ge:=ge) hw he t;rw[e] at h;obtain ⟨h1,h2⟩:=h es[0] (List.getElem?_eq_getElem (by omega))
 by_cases c:es[0]<=t
 ·have:=h1 c
  cases this;omega
 ·obtain ⟨g1,g2⟩:=h2 (by omega)
  by_cases hg:qcc ge t
  ·cases g1 hg
  ·obtain ⟨w',hl,e2⟩:=g2 hg
   cases e2;have:=hb w (qtl (List.mem_of_getElem? hl));have h1:=Int.ediv_mul_le t (b:=w) (by omega);have h2:=Int.lt_ediv_add_one_mul_self t (b:=w) (by omega);rw[Int.add_mul,Int.one_mul] at h2;omega
open PySem L2
def quq (cell:Int->Option (Int×Int)) (r:Rd3):List Int:=match cell r.1 with
 | none=>[]
 | some (a,w)=>if w=0 then [0,r.1,r.2.1] else [1,a,w]
def Tags (cell:Int->Option (Int×Int)) (s:Abs) (L:List Rd3):Prop:=(∀ k,s.y k≠none->∃ r∈L,quq cell r=0 :: k)/\∀ k,s.z k≠none->∃ r∈L,quq cell r=1 :: k
theorem Tags.put {cell:Int->Option (Int×Int)} {s:Abs} {L:List Rd3} (h:Tags cell s L) (r:Rd3):Tags cell (qcg cell s r) (L ++ [r]):=by
 have up:∀ {x:List Int},(∃ r∈L,quq cell r=x)->∃ q∈L ++ [r],quq cell q=x:=fun ⟨q,hq,e⟩=>⟨q,List.mem_append_left _ hq,e⟩
 have me:r∈L ++ [r]:=List.mem_append_right _ List.mem_cons_self;unfold qcg
 rcases e:cell r.1 with _|⟨a,w⟩
 ·exact ⟨λk hk=>up (h.1 k hk),λk hk=>up (h.2 k hk)⟩
 ·dsimp only
  split
  ·rename_i hw
   refine ⟨λk hk=>?_,λk hk=>up (h.2 k hk)⟩
   by_cases ek:k=[r.1,r.2.1]
   ·exact ⟨r,me,by unfold quq;rw[e];dsimp only;rw[if_pos hw,ek]⟩
   ·have hk:qdo s.y [r.1,r.2.1] _ k≠none:=hk
    rw[qa4 _ _ ek] at hk;exact up (h.1 k hk)
  ·rename_i hw
   refine ⟨λk hk=>up (h.1 k hk),λk hk=>?_⟩
   by_cases ek:k=[a,w]
   ·exact ⟨r,me,by unfold quq;rw[e];dsimp only;rw[if_neg hw,ek]⟩
   ·have hk:qdo s.z [a,w] _ k≠none:=hk
    rw[qa4 _ _ ek] at hk;exact up (h.2 k hk)
theorem Tags.puts {cell:Int->Option (Int×Int)}:∀ (rs:List Rd3) {s:Abs} {L:List Rd3},Tags cell s L->Tags cell (rs.foldl (qcg cell) s) (L ++ rs)
 | [],_,L,h=>by rw[List.append_nil];exact h
 | r :: t,s,L,h=>by
  have:=Tags.puts t (h.put r);rw[List.append_assoc] at this;exact this
theorem qtu (cell:Int->Option (Int×Int)) (rs:List Rd3):Tags cell (qcu cell rs) rs:=Tags.puts rs (L:=[]) ⟨λ_ h=>absurd rfl h,λ_ h=>absurd rfl h⟩
theorem qyv {cell:Int->Option (Int×Int)} {s:Abs} {rs:List Rd3} {my mz:List (List Int)} (tg:Tags cell s rs) (hy:SKeys s.y my) (hz:SKeys s.z mz):my.length+mz.length<=rs.length:=by
 have nd:(my.map (λk=>(0:Int) :: k) ++ mz.map (λk=>(1:Int) :: k)).Nodup:=by
  rw[List.nodup_append];refine ⟨?_,?_,λa ha b hb e=>?_⟩
  ·rw[List.nodup_iff_pairwise_ne,List.pairwise_map];exact hy.nd.imp λhne e=>hne (by injection e)
  ·rw[List.nodup_iff_pairwise_ne,List.pairwise_map];exact hz.nd.imp λhne e=>hne (by injection e)
  ·obtain ⟨k,_,rfl⟩:=List.mem_map.mp ha
   obtain ⟨l,_,rfl⟩:=List.mem_map.mp hb;injection e with e _
   omega
 have sub:(my.map (λk=>(0:Int) :: k) ++ mz.map (λk=>(1:Int) :: k)) ⊆ rs.map (quq cell):=λx hx=>by
  rcases List.mem_append.mp hx with h|h
  ·obtain ⟨k,hk,rfl⟩:=List.mem_map.mp h
   obtain ⟨r,hr,e⟩:=tg.1 k ((hy.mem k).mp hk);exact List.mem_map.mpr ⟨r,hr,e⟩
  ·obtain ⟨k,hk,rfl⟩:=List.mem_map.mp h
   obtain ⟨r,hr,e⟩:=tg.2 k ((hz.mem k).mp hk);exact List.mem_map.mpr ⟨r,hr,e⟩
 have:=List.Nodup.length_le_of_subset nd sub
 simpa using this
structure AbsB (B N:Int) (s:Abs):Prop where
 y:∀ k n,s.y k=some n->∃ t v,k=[t,v]/\(-B<=t/\t<=B)/\(-(10 ^ 45)<v/\v<10 ^ 45)/\1<=n/\n<=N
 z:∀ k x,s.z k=some x->∃ a w,k=[a,w] /\ -B<=a/\a<=B
theorem qDa {B N:Int}:AbsB B N qq7:=⟨(λ_ _ h=>by cases h),(λ_ _ h=>by cases h)⟩
theorem AbsB.put {B W N M:Int} {cell:Int->Option (Int×Int)} (cn:qB0 W cell) {s:Abs} (h:AbsB B N s) (hN:0<=N) (hM:0<=M) {r:Rd3} (ht:-B<=r.1-W/\r.1<=B) (hW:0<=W) (hv:-(10 ^ 45)<r.2.1/\r.2.1<10 ^ 45) (hm:1<=r.2.2/\r.2.2<=M):AbsB B (N+M) (qcg cell s r):=by
 have h':AbsB B (N+M) s:=⟨λk n e=>by obtain ⟨t,v,e1,e2,e3,e4,e5⟩:=h.y k n e;exact ⟨t,v,e1,e2,e3,e4,by omega⟩,h.z⟩;unfold qcg
 rcases e:cell r.1 with _|⟨a,w⟩
 ·exact h'
 ·dsimp only
  split
  ·refine ⟨λk n hk=>?_,h'.z⟩
   have hk:qdo s.y [r.1,r.2.1] _ k=some n:=hk
   by_cases ek:k=[r.1,r.2.1]
   ·rw[ek,qas] at hk
    have hk:=Option.some.inj hk;refine ⟨r.1,r.2.1,ek,by omega,hv,?_⟩
    cases e2:s.y [r.1,r.2.1] with
    | none=>rw[e2] at hk;simp at hk;omega
    | some n0 =>
     obtain ⟨_,_,_,_,_,e4,e5⟩:=h.y _ _ e2;rw[e2] at hk
     simp at hk
     omega
   ·rw[qa4 _ _ ek] at hk;exact h'.y k n hk
  ·refine ⟨h'.y,λk x hk=>?_⟩
   have hk:qdo s.z [a,w] _ k=some x:=hk
   by_cases ek:k=[a,w]
   ·have:=cn _ _ _ e
    exact ⟨a,w,ek,by omega,by omega⟩
   ·rw[qa4 _ _ ek] at hk;exact h'.z k x hk
def RLt (r:Rd3):Prop:=(-(5*10 ^ 45)<=r.1/\r.1<=5*10 ^ 45)/\(-(10 ^ 45)<r.2.1/\r.2.1<10 ^ 45)/\1<=r.2.2/\r.2.2<=10 ^ 31
theorem qtv {cell:Int->Option (Int×Int)} (cn:qB0 (10 ^ 36) cell):∀ (rs:List Rd3) {s:Abs} {N:Int},AbsB (5*10 ^ 45+10 ^ 36) N s->0<=N->(∀ r∈rs,RLt r)->AbsB (5*10 ^ 45+10 ^ 36) (N+10 ^ 31*rs.length) (rs.foldl (qcg cell) s)
 | [],s,N,h,_,_=>by simpa using h
 | r :: t,s,N,h,hN,hr=>by
  obtain ⟨h1,h2,h3,h4⟩:=hr r List.mem_cons_self;have a:=h.put cn hN (M:=10 ^ 31) (by omega) (r:=r) (by omega) (by omega) h2 ⟨h3,h4⟩;have:=qtv cn t a (by omega) λq hq=>hr q (List.mem_cons_of_mem _ hq)
  rw[List.foldl_cons];have e:N+10 ^ 31+10 ^ 31*(t.length:Int)=N+10 ^ 31*((r :: t).length:Int):=by
   rw[List.length_cons];push_cast;omega
  rw[<- e];exact this
theorem qht {α:Type} {f:List Int->Option α} {ks:List (List Int)} (nd:ks.Nodup) (h:∀ k,k∈ks↔f k≠none):∃ ms,SKeys f ms/\ms.length=ks.length:=by
 have tot:∀ a b:List Int,(!blt b a || !blt a b)=true:=λa b=>by
  cases h1:blt b a<;>cases h2:blt a b<;>simp
  exact qle h1 h2
 have tr:∀ a b c:List Int,(!blt b a)=true->(!blt c b)=true->(!blt c a)=true:=λa b c h1 h2=>by
  simp at h1 h2 ⊢
  by_cases e1:a=b
  ·subst e1;exact h2
  ·by_cases e2:b=c
   ·subst e2;exact h1
   ·have a1:=qe7 b a (λz=>e1 z.symm) h1
    have a2:=qe7 c b (λz=>e2 z.symm) h2;have a3:=qj8 _ _ _ a1 a2
    cases h3:blt c a with
    | false=>rfl
    | true=>exact (qle a3 h3).elim
 have pm:=List.mergeSort_perm ks (λa b=>!blt b a);refine ⟨ks.mergeSort (λa b=>!blt b a),⟨?_,λk=>by rw[pm.mem_iff,h]⟩,pm.length_eq⟩;have srt:=List.pairwise_mergeSort tr tot ks;have nd':=pm.nodup_iff.mpr nd;rw[List.nodup_iff_pairwise_ne] at nd';refine (srt.and nd').imp fun {a b} hab=>?_
 obtain ⟨h1,h2⟩:=hab
 simp at h1
 exact qe7 b a (λz=>h2 z.symm) h1
open PySem L2
structure Fall (ws es:List Int) (ge:Option Int):Prop where
 len:ws.length=es.length
 pos:∀ (i:Nat) w,ws[i]?=some w->1<=w
 dv:∀ (i j:Nat) a b,i<=j->ws[i]?=some a->ws[j]?=some b->a ∣ b
 ml:∀ (i:Nat) w e,ws[i]?=some w->es[i]?=some e->w ∣ e
 gl:∀ (i:Nat) w z,ws[i]?=some w->ge=some z->w ∣ z
 dn:∀ (i j:Nat) a b,i<=j->es[i]?=some a->es[j]?=some b->b<=a
structure StepAt (ws es:List Int) (t:Int) (i:Nat) (w e:Int):Prop where
 gw:ws[i]?=some w
 ge:es[i]?=some e
 lt:t<e
 nx:∀ e',es[i+1]?=some e'->e'<=t
theorem qDb {ws es:List Int} {t:Int} (h:∀ x∈es,x<=t):wl ws es t=[]:=by
 unfold wl;rw[List.filter_eq_nil_iff.mpr,List.map_nil];intro x hx;have:=h x.2 (List.of_mem_zip hx).2
 simp;omega
theorem qmx:∀ {i:Nat} {ws es:List Int} {t w e:Int},(∀ (i j:Nat) a b,i<=j->es[i]?=some a->es[j]?=some b->b<=a)->StepAt ws es t i w e->(wl ws es t).getLast?=some w
 | 0,ws,es,t,w,e,F,S=>by
  cases ws with
  | nil=>have:=S.gw;simp at this
  | cons w1 wr =>
   cases es with
   | nil=>have:=S.ge;simp at this
   | cons e1 er =>
    have ew:=S.gw;have ee:=S.ge
    simp at ew ee
    subst ew;subst ee;have hr:∀ x∈er,x<=t:=λx hx=>by
     obtain ⟨k,hk,rfl⟩:=List.getElem_of_mem hx;have h0:0<er.length:=by omega
     have a:=S.nx er[0] (by simp[h0]);have b:=F 1 (k+1) er[0] er[k] (by omega) (by simp[h0]) (by simp[hk]);omega
    have e1:wl (w1 :: wr) (e1 :: er) t=w1 :: wl wr er t:=by
     unfold wl;rw[List.zip_cons_cons,List.filter_cons_of_pos (by simpa using S.lt)];rfl
    rw[e1,qDb hr];rfl
 | i+1,ws,es,t,w,e,F,S=>by
  cases ws with
  | nil=>have:=S.gw;simp at this
  | cons w1 wr =>
   cases es with
   | nil=>have:=S.ge;simp at this
   | cons e1 er =>
    have S':StepAt wr er t i w e:=⟨by simpa using S.gw,by simpa using S.ge,S.lt,λe' h=>S.nx e' (by simpa using h)⟩;have ih:=qmx (λa b x y h h1 h2=>F (a+1) (b+1) x y (by omega) (by simpa using h1) (by simpa using h2)) S';have hlt:t<e1:=by
     have:=F 0 (i+1) e1 e (by omega) (by simp) S.ge;have:=S.lt;omega
    have e2:wl (w1 :: wr) (e1 :: er) t=w1 :: wl wr er t:=by
     unfold wl;rw[List.zip_cons_cons,List.filter_cons_of_pos (by simpa using hlt)];rfl
    rw[e2,List.getLast?_cons,ih];rfl
theorem qiz:∀ {es ws:List Int} {t e0:Int},ws.length=es.length->es[0]?=some e0->t<e0->∃ i w e,StepAt ws es t i w e
 | [],ws,t,e0,_,h,_=>by simp at h
 | e1 :: er,[],t,e0,hl,_,_=>by simp at hl
 | e1 :: er,w1 :: wr,t,e0,hl,h,hlt=>by
  simp at h
  subst h
  by_cases hc:∃ e2,er[0]?=some e2/\t<e2
  ·obtain ⟨e2,he2,h2⟩:=hc
   obtain ⟨i,w,e,S⟩:=qiz (es:=er) (ws:=wr) (by simpa using hl) he2 h2;exact ⟨i+1,w,e,by simpa using S.gw,by simpa using S.ge,S.lt,λe' h=>S.nx e' (by simpa using h)⟩
  ·refine ⟨0,w1,e1,by simp,by simp,hlt,λe' h=>?_⟩
   have h':er[0]?=some e':=by simpa using h
   by_cases z:t<e'
   ·exact absurd ⟨e',h',z⟩ hc
   ·omega
theorem qmy {w t e:Int} (hw:1<=w) (hd:w ∣ e) (h:t<e):t / w*w+w<=e:=by
 obtain ⟨k,rfl⟩:=hd;have h1:t / w<k:=Int.ediv_lt_of_lt_mul (by omega) (by rwa [Int.mul_comm] at h);have h2:=Int.mul_le_mul_of_nonneg_left (show t / w+1<=k by omega) (show 0<=w by omega);rw[Int.mul_add,Int.mul_one,Int.mul_comm w (t / w)] at h2;exact h2
theorem qq8 {w:Int} (t:Int) (hw:1<=w):t / w*w<=t/\t<t / w*w+w:=by
 have a:=Int.mul_ediv_add_emod t w;have b:=Int.emod_nonneg t (show w≠0 by omega);have c:=Int.emod_lt_of_pos t (show 0<w by omega);rw[Int.mul_comm] at a;omega
theorem qi0 (t w:Int):w ∣ t / w*w:=⟨t / w,Int.mul_comm _ _⟩
theorem qyw {w s x:Int} (hw:1<=w) (hd:w ∣ x) (h1:x<=s) (h2:s<x+w):s / w*w=x:=by
 have a:=qpt hw hd h1;have b:=qq8 s hw;obtain ⟨k,rfl⟩:=hd;have c:=qmy hw (show w ∣ w*(k+1) from ⟨k+1,rfl⟩) (show s<w*(k+1) by rw[Int.mul_add,Int.mul_one];exact h2);rw[Int.mul_add,Int.mul_one] at c;omega
theorem StepAt.cell {ws es:List Int} {ge:Option Int} {t s w e:Int} {i:Nat} (F:Fall ws es ge) (S:StepAt ws es t i w e) (h1:t / w*w<=s) (h2:s<t / w*w+w):StepAt ws es s i w e/\(qcc ge s↔qcc ge t)/\s / w*w=t / w*w:=by
 have hw:=F.pos i w S.gw;refine ⟨⟨S.gw,S.ge,?_,λe' he'=>?_⟩,?_,qyw hw (qi0 t w) h1 h2⟩
 ·have:=qmy hw (F.ml i w e S.gw S.ge) S.lt
  omega
 ·have hl:i+1<ws.length:=by rw[F.len];exact (List.getElem?_eq_some_iff.mp he').1
  have hd:w ∣ e':=Int.dvd_trans (F.dv i (i+1) w ws[i+1] (by omega) S.gw (List.getElem?_eq_getElem hl)) (F.ml (i+1) _ e' (List.getElem?_eq_getElem hl) he');have:=qpt hw hd (S.nx e' he');omega
 ·constructor
  ·rintro ⟨z,hz,h⟩
   have hd:=F.gl i w z S.gw hz;refine ⟨z,hz,?_⟩
   by_cases c:t<z
   ·exact c
   ·have:=qpt hw hd (show z<=t by omega);omega
  ·rintro ⟨z,hz,h⟩
   have hd:=F.gl i w z S.gw hz;exact ⟨z,hz,by have:=qmy hw hd h;omega⟩
theorem StepAt.idx {ws es:List Int} {ge:Option Int} {t:Int} {i j:Nat} {w e w' e':Int} (F:Fall ws es ge) (S:StepAt ws es t i w e) (h:es[j]?=some e') (hlt:t<e'):j<=i:=by
 by_cases c:j<=i
 ·exact c
 ·have hl:i+1<es.length:=by have:=(List.getElem?_eq_some_iff.mp h).1;omega
  have a:=S.nx es[i+1] (List.getElem?_eq_getElem hl);have b:=F.dn (i+1) j _ e' (by omega) (List.getElem?_eq_getElem hl) h;omega
open PySem L2
theorem qi1 {ws es:List Int} {ge:Option Int} {t w e e0:Int} {i:Nat} (F:Fall ws es ge) (h0:es[0]?=some e0) (S:StepAt ws es t i w e) (hg:¬ qcc ge t):CellOf ws es ge t (some (t / w*w,w)):=by
 have hlt:t<e0:=by have:=F.dn 0 i e0 e (by omega) h0 S.ge;have:=S.lt;omega
 exact CellOf.c h0 hlt hg (by rw[<- List.getLast?_eq_getElem?];exact qmx F.dn S)
theorem qkd {ws es:List Int} {ge:Option Int} {t e0:Int} {o:Option (Int×Int)} (F:Fall ws es ge) (h0:es[0]?=some e0) (C:CellOf ws es ge t o) :
  (e0<=t/\o=some (t,0))\/(t<e0/\qcc ge t/\o=none)\/(t<e0/\¬ qcc ge t/\∃ i w e,StepAt ws es t i w e/\o=some (t / w*w,w)):=by
 by_cases hc:e0<=t
 ·exact .inl ⟨hc,C.uniq h0 (CellOf.a h0 hc)⟩
 ·have hlt:t<e0:=by omega
  by_cases hg:qcc ge t
  ·exact .inr (.inl ⟨hlt,hg,C.uniq h0 (CellOf.b h0 hlt hg)⟩)
  ·obtain ⟨i,w,e,S⟩:=qiz F.len h0 hlt
   exact .inr (.inr ⟨hlt,hg,i,w,e,S,C.uniq h0 (qi1 F h0 S hg)⟩)
theorem behind {ws es:List Int} {ge:Option Int} {t w e e0:Int} {i:Nat} {o:Option (Int×Int)} (F:Fall ws es ge) (h0:es[0]?=some e0) (S:StepAt ws es t i w e) (hg:¬ qcc ge t) (C:CellOf ws es ge (t / w*w+w) o):∃ p,o=some p/\p.1=t / w*w+w:=by
 have hw:=F.pos i w S.gw;have h1:=qq8 t hw
 rcases qkd F h0 C with ⟨_,rfl⟩|⟨_,⟨z,hz,h⟩,rfl⟩|⟨_,_,j,w',e',S',rfl⟩
 ·exact ⟨_,rfl,rfl⟩
 ·exact absurd ⟨z,hz,by omega⟩ hg
 ·refine ⟨_,rfl,?_⟩
  have hji:j<=i:=StepAt.idx (w':=w') (e':=e') F S S'.ge (by have:=S'.lt;omega);have hd:w' ∣ w:=F.dv j i w' w hji S'.gw S.gw;have hw':=F.pos j w' S'.gw;exact qyw hw' (Int.dvd_add (Int.dvd_trans hd (qi0 t w)) hd) (by omega) (by omega)
structure Later (es es':List Int) (ge ge':Option Int):Prop where
 len:es'.length=es.length
 up:∀ (i:Nat) a b,es[i]?=some a->es'[i]?=some b->a<=b
 gn:∀ z,ge=some z->∃ z',ge'=some z'/\z<=z'
theorem Later.gone {es es':List Int} {ge ge':Option Int} {t:Int} (L:Later es es' ge ge') (h:qcc ge t):qcc ge' t:=by
 obtain ⟨z,hz,h⟩:=h;obtain ⟨z',hz',h'⟩:=L.gn z hz;exact ⟨z',hz',by omega⟩
theorem qq9 {ws es es':List Int} {ge ge':Option Int} {t e0 e0':Int} {o:Option (Int×Int)} (L:Later es es' ge ge') (h0:es[0]?=some e0) (h0':es'[0]?=some e0') (hlt:t<e0) (hg:qcc ge t) (C:CellOf ws es' ge' t o):o=none:=
 C.uniq h0' (CellOf.b h0' (by have:=L.up 0 e0 e0' h0 h0';omega) (L.gone hg))
theorem qra {ws es es':List Int} {ge ge':Option Int} {t w e e0':Int} {i:Nat} (F:Fall ws es ge) (F':Fall ws es' ge') (L:Later es es' ge ge') (h0':es'[0]?=some e0') (S:StepAt ws es t i w e) :
  ∃ o,(∀ s,t / w*w<=s->s<t / w*w+w->∀ o',CellOf ws es' ge' s o'->o'=o)/\∀ p,o=some p->p.1<=t / w*w/\t / w*w+w<=p.1+p.2:=by
 have hw:=F.pos i w S.gw;have h1:=qq8 t hw;have hle:i<es'.length:=by rw[L.len];exact (List.getElem?_eq_some_iff.mp S.ge).1
 have hu:=L.up i e es'[i] S.ge (List.getElem?_eq_getElem hle);have hend:=qmy hw (F.ml i w e S.gw S.ge) S.lt;have hlt0:t / w*w<e0':=by
  have:=F'.dn 0 i e0' es'[i] (by omega) h0' (List.getElem?_eq_getElem hle);omega
 obtain ⟨j,w',e',S'⟩:=qiz F'.len h0' hlt0;have hij:i<=j:=StepAt.idx (w':=w') (e':=es'[i]) F' S' (List.getElem?_eq_getElem hle) (by omega);have hd:w ∣ w':=F.dv i j w w' hij S.gw S'.gw;have hw':=F'.pos j w' S'.gw;have h2:=qq8 (t / w*w) hw';have h3:t / w*w+w<=t / w*w / w'*w'+w':=by
  have hdd:w ∣ t / w*w / w'*w'+w':=Int.dvd_add (Int.dvd_trans hd (qi0 _ w')) hd;have:=qmy hw hdd (show t / w*w<t / w*w / w'*w'+w' by omega);have e:t / w*w / w*w=t / w*w:=qyw hw (qi0 t w) (by omega) (by omega);omega
 have all:∀ s,t / w*w<=s->s<t / w*w+w->StepAt ws es' s j w' e'/\(qcc ge' s↔qcc ge' (t / w*w))/\s / w'*w'=t / w*w / w'*w':=
  λs a b=>StepAt.cell F' S' (by omega) (by omega)
 by_cases hg:qcc ge' (t / w*w)
 ·refine ⟨none,λs a b o' C=>?_,λp h=>by cases h⟩
  obtain ⟨S2,g2,_⟩:=all s a b;have:s<e0':=by have:=F'.dn 0 j e0' e' (by omega) h0' S2.ge;have:=S2.lt;omega
  exact C.uniq h0' (CellOf.b h0' this (g2.mpr hg))
 ·refine ⟨some (t / w*w / w'*w',w'),λs a b o' C=>?_,λp h=>?_⟩
  ·obtain ⟨S2,g2,e2⟩:=all s a b
   have:=C.uniq h0' (qi1 F' h0' S2 λg=>hg (g2.mp g));rw[this,e2]
  ·cases h
   exact ⟨h2.1,h3⟩
theorem qvz {ws es:List Int} {ge:Option Int} {t w e e0 s:Int} {i:Nat} {o:Option (Int×Int)} (F:Fall ws es ge) (h0:es[0]?=some e0) (S:StepAt ws es t i w e) (hg:¬ qcc ge t) (h1:t / w*w<=s) (h2:s<t / w*w+w) (C:CellOf ws es ge s o):o=some (t / w*w,w):=by
 obtain ⟨S2,g2,e2⟩:=StepAt.cell F S h1 h2;have:=C.uniq h0 (qi1 F h0 S2 λg=>hg (g2.mp g));rw[this,e2]
open PySem L2
theorem qlh {ps:List (Int×Int)} (G:Good ps):∀ (k i:Nat) p q,ps[i]?=some p->ps[i+k]?=some q->p.1<=q.1/\p.2 ∣ q.2
 | 0,i,p,q,hp,hq=>by rw[Nat.add_zero,hp] at hq;cases hq;exact ⟨Int.le_refl _,Int.dvd_refl _⟩
 | k+1,i,p,q,hp,hq=>by
  have hl:i+k<ps.length:=by have:=(List.getElem?_eq_some_iff.mp hq).1;omega
  obtain ⟨a,b⟩:=qlh G k i p ps[i+k] hp (List.getElem?_eq_getElem hl);obtain ⟨c,d⟩:=G.next (i+k) ps[i+k] q (List.getElem?_eq_getElem hl) (by rw[Nat.add_assoc];exact hq);exact ⟨by omega,Int.dvd_trans b (Int.dvd_of_emod_eq_zero d)⟩
theorem Fall.of {ps:List (Int×Int)} {g:Option Int} (P:Pr ps g) (d:Int):Fall (ps.map (·.2)) (ps.map λp=>cut d p.1 p.2) (g.map λz=>cut d z (lw ps)) where
 len:=by rw[List.length_map,List.length_map]
 pos:=λi w h=>by
  rw[List.getElem?_map] at h;obtain ⟨p,hp,rfl⟩:=Option.map_eq_some_iff.mp h;exact (P.good.each i p hp).2
 dv:=λi j a b hij ha hb=>by
  rw[List.getElem?_map] at ha hb;obtain ⟨p,hp,rfl⟩:=Option.map_eq_some_iff.mp ha;obtain ⟨q,hq,rfl⟩:=Option.map_eq_some_iff.mp hb;exact (qlh P.good (j-i) i p q hp (by rw[show i+(j-i)=j by omega];exact hq)).2
 ml:=λi w e hw he=>by
  rw[List.getElem?_map] at hw he;obtain ⟨p,hp,rfl⟩:=Option.map_eq_some_iff.mp hw;rw[hp] at he;cases he;exact qi0 _ _
 gl:=λi w z hw hz=>by
  rw[List.getElem?_map] at hw;obtain ⟨p,hp,rfl⟩:=Option.map_eq_some_iff.mp hw;obtain ⟨y,rfl,rfl⟩:=Option.map_eq_some_iff.mp hz;obtain ⟨q,hq,eq⟩:=P.last;have hi:=(List.getElem?_eq_some_iff.mp hp).1;have:=(qlh P.good (ps.length-1-i) i p q hp (by rw[show i+(ps.length-1-i)=ps.length-1 by omega];exact hq)).2;rw[eq];exact Int.dvd_trans this (qi0 _ _)
 dn:=λi j a b hij ha hb=>by
  rw[List.getElem?_map] at ha hb;obtain ⟨p,hp,rfl⟩:=Option.map_eq_some_iff.mp ha;obtain ⟨q,hq,rfl⟩:=Option.map_eq_some_iff.mp hb;obtain ⟨h1,h2⟩:=qlh P.good (j-i) i p q hp (by rw[show i+(j-i)=j by omega];exact hq);have wp:=(P.good.each i p hp).2;have wq:=(P.good.each j q hq).2;have a:=(qq8 (d-q.1) wq).1;exact qpt wp (Int.dvd_trans h2 (qi0 _ _)) (show (d-q.1) / q.2*q.2<=d-p.1 by omega)
def mx (i j:Int):Int:=if j>i then j else i
theorem qBd (i j:Int):i<=mx i j/\j<=mx i j/\(mx i j=i\/mx i j=j):=by unfold mx;split<;>omega
theorem qv0 {a b:List Int} {i:Nat} {x:Int} (h:(List.zipWith mx a b)[i]?=some x):∃ u v,a[i]?=some u/\b[i]?=some v/\x=mx u v:=by
 rw[List.getElem?_zipWith] at h
 split at h
 ·rename_i u v hu hv;exact ⟨u,v,hu,hv,(Option.some.inj h).symm⟩
 ·cases h
theorem qtw {g1 g2:Option Int} {z:Int} (h:qol g1 g2=some z):g1=some z\/g2=some z:=by
 cases g1 with
 | none=>exact .inr h
 | some i =>
  cases g2 with
  | none=>exact .inl h
  | some j =>
   simp only[qol,Option.some.injEq] at h;rw[<- h]
   split
   ·exact .inr rfl
   ·exact .inl rfl
theorem Fall.max {ws a b:List Int} {g1 g2:Option Int} (F:Fall ws a g1) (G:Fall ws b g2):Fall ws (List.zipWith mx a b) (qol g1 g2) where
 len:=by rw[List.length_zipWith,<- F.len,<- G.len];omega
 pos:=F.pos
 dv:=F.dv
 ml:=λi w e hw he=>by
  obtain ⟨u,v,hu,hv,rfl⟩:=qv0 he
  rcases (qBd u v).2.2 with h|h
  ·rw[h];exact F.ml i w u hw hu
  ·rw[h];exact G.ml i w v hw hv
 gl:=λi w z hw hz=>by
  rcases qtw hz with h|h
  ·exact F.gl i w z hw h
  ·exact G.gl i w z hw h
 dn:=λi j x y hij hx hy=>by
  obtain ⟨u,v,hu,hv,rfl⟩:=qv0 hx;obtain ⟨u',v',hu',hv',rfl⟩:=qv0 hy;have c:=F.dn i j u u' hij hu hu';have d:=G.dn i j v v' hij hv hv';have e:=qBd u v
  rcases (qBd u' v').2.2 with h|h<;>omega
open PySem L2
def qon:Sp:=λvs H Q _=>∃ (c:Int) (k:Nat),vs=[.int c,.int (k:Int)]/\k<=20/\∀ l (xs:List Int) H',New H H' l (.lst (xs.map V.int))->xs.length=k->(∀ x∈xs,XB x)->Q (.ref l) H'
def qB1 (a:Option Int) (st:Int):Int:=match a with
 | none=>st
 | some x=>if st>x then st else x
def qzl (b:Option Int) (e:Int):Int:=match b with
 | none=>e
 | some y=>if e<y then e else y
def qtx (a b:Option Int) (st w:Int):Int:=if qzl b (st+w)-qB1 a st>0 then qzl b (st+w)-qB1 a st else 0
inductive qBe (vs:List V) (H:Hp) (Q:VK) (E_:XK):Prop
 | mk:∀ (a b:Option Int) (st w:Int),vs=[gv a,gv b,.int st,.int w]->Q (.int (qtx a b st w)) H->qBe vs H Q E_
inductive qpu (vs:List V) (H:Hp) (Q:VK) (E_:XK):Prop
 | mk:∀ (a b:Option Int) (st w:Int),vs=[gv a,gv b,.int st,.int w]->Q (.bl (decide (0<qtx a b st w) && decide (qtx a b st w<w))) H->qpu vs H Q E_
def qmz (e a:Option Int):Prop:=∃ z,e=some z/\∀ x,a=some x->x<z
def qDc (C:Addr):Sp:=λvs H Q E=>∃ (e a:Option Int),vs=[gv e,gv a]/\(qmz e a->∀ dx H',New H H' dx (.xd [("edge",gv e)])->E (.ref C) (some dx) H')/\(¬ qmz e a->Q .non H)
structure St41 (i:Nat) (age w:Int) (ps:List (Int×Int)):Prop where
 len:ps.length=i
 a0:0<=age
 a1:age<=5*10 ^ 12+40*10 ^ 12*i
 w0:1<=w
 w1:w<=3*10 ^ 12*5 ^ i
 each:∀ (k:Nat) p,ps[k]?=some p->0<=p.1/\p.1<=age/\1<=p.2/\p.2<=w
 next:∀ (k:Nat) p q,ps[k]?=some p->ps[k+1]?=some q->p.1<=q.1/\q.2 % p.2=0
 last:∀ p,ps[ps.length-1]?=some p->w % p.2=0
theorem St41.zero {age w:Int} (h0:0<=age) (h1:age<=5*10 ^ 12) (w0:1<=w) (w1:w<=3*10 ^ 12):St41 0 age w []:=
 ⟨rfl,h0,by omega,w0,by omega,(λk p h=>by rw[List.getElem?_nil] at h;cases h),(λk p q h=>by rw[List.getElem?_nil] at h;cases h),(λp h=>by rw[List.getElem?_nil] at h;cases h)⟩
theorem qoo {α:Type} {xs:List α} {x:α} {k:Nat} {y:α} (h:(xs ++ [x])[k]?=some y):(k<xs.length/\xs[k]?=some y)\/(k=xs.length/\y=x):=by
 by_cases c:k<xs.length
 ·rw[List.getElem?_append_left c] at h;exact .inl ⟨c,h⟩
 ·have hk:=(List.getElem?_eq_some_iff.mp h).1
  rw[List.length_append,List.length_singleton] at hk;have e:k=xs.length:=by omega
  rw[e,List.getElem?_append_right (Nat.le_refl _),Nat.sub_self] at h;cases h;exact .inr ⟨e,rfl⟩
theorem St41.step {i:Nat} {age w d m:Int} {ps:List (Int×Int)} (h:St41 i age w ps) (d0:0<=d) (d1:d<=40*10 ^ 12) (m1:1<=m) (m5:m<=5):St41 (i+1) (age+d) (w*m) (ps ++ [(age,w)]):=by
 have a0:=h.a0;have a1:=h.a1;have w0:=h.w0;have w1:=h.w1;have hw:w<=w*m:=by have:=Int.mul_le_mul_of_nonneg_left m1 (show 0<=w by omega);rwa [Int.mul_one] at this
 refine ⟨by rw[List.length_append,h.len];rfl,by omega,(by have e:((i+1:Nat):Int)=(i:Int)+1:=(by omega);rw[e];omega),by omega,?_,?_,?_,?_⟩
 ·have:=Int.mul_le_mul_of_nonneg_left m5 (show 0<=w by omega)
  have e:(3*10 ^ 12*5 ^ (i+1):Int)=3*10 ^ 12*5 ^ i*5:=by rw[Int.pow_succ (5:Int) i,<- Int.mul_assoc]
  rw[e];omega
 ·intro k p hk
  rcases qoo hk with ⟨_,hk'⟩|⟨_,rfl⟩
  ·have:=h.each k p hk'
   exact ⟨this.1,by omega,this.2.2.1,by omega⟩
  ·exact ⟨a0,by show age<=age+d;omega,w0,hw⟩
 ·intro k p q hp hq
  rcases qoo hq with ⟨c,hq'⟩|⟨c,rfl⟩
  ·rw[List.getElem?_append_left (by omega)] at hp
   exact h.next k p q hp hq'
  ·rw[List.getElem?_append_left (by omega)] at hp
   refine ⟨(h.each k p hp).2.1,h.last p ?_⟩;rw[<- c];exact hp
 ·intro p hp
  rcases qoo hp with ⟨c,_⟩|⟨_,rfl⟩
  ·rw[List.length_append,List.length_singleton] at c;omega
  ·exact Int.mul_emod_right w m
structure qv1 (ps:List (Int×Int)) (g:Option Int):Prop where
 pr:Pr ps g
 each:∀ (k:Nat) p,ps[k]?=some p->p.1<=10 ^ 15/\p.2<=10 ^ 16
 gone:∀ z,g=some z->z<=10 ^ 15
theorem St41.dr {i:Nat} {age w:Int} {ps:List (Int×Int)} (h:St41 i age w ps) (h1:1<=i) (h5:i<=5) {g:Option Int} (hg:∀ z p,g=some z->ps[ps.length-1]?=some p->p.1<=z/\z<=10 ^ 15):qv1 ps g:=by
 have hl:=h.len;have a1:=h.a1;have w1:=h.w1;have w2:w<=10 ^ 16:=by
  have hc:i=1\/i=2\/i=3\/i=4\/i=5:=by omega
  rcases hc with rfl|rfl|rfl|rfl|rfl<;>omega
 obtain ⟨pl,hpl⟩:∃ pl,ps[ps.length-1]?=some pl:=⟨_,List.getElem?_eq_getElem (by omega)⟩;refine ⟨⟨⟨by omega,by omega,λk p hk=>⟨(h.each k p hk).1,(h.each k p hk).2.2.1⟩,h.next⟩,λk p hk=>?_,λp hp=>?_,λz hz=>?_⟩,λk p hk=>?_,λz hz=>(hg z pl hz hpl).2⟩
 ·have:=h.each k p hk
  exact ⟨this.1,by omega,this.2.2.1,by omega⟩
 ·intro z hz
  exact (hg z p hz hp).1
 ·have h1:=hg z pl hz hpl
  have h2:=h.each _ pl hpl;omega
 ·have:=h.each k p hk
  omega
def qty:Sp:=λvs H Q _=>∃ c,vs=[.int c]/\∀ t l xs ps g H',Same H H'->H' t=some (.tup [.ref l,gv g])->H' l=some (.lst xs)->Pairs H' xs ps->qv1 ps g->Q (.ref t) H'
inductive qpv (vs:List V) (H:Hp) (Q:VK) (E_:XK):Prop
 | mk:∀ (t l:Addr) (xs:List V) (ps:List (Int×Int)) (g:Option Int) (d:Int),vs=[.ref t,.int d]->H t=some (.tup [.ref l,gv g])->H l=some (.lst xs)->Pairs H xs ps->Pr ps g->Bd d->(∀ p H',New H H' p (.lst (eV ps g d))->Q (.ref p) H')->qpv vs H Q E_
open PySem L2
def kZ (a b:Option Int) (r:List Int):Bool:=decide (qtx a b (r.getD 0 0) (r.getD 1 0)=r.getD 1 0)
def cZ (a b:Option Int) (r:List Int):Bool:=decide (0<qtx a b (r.getD 0 0) (r.getD 1 0)) && decide (qtx a b (r.getD 0 0) (r.getD 1 0)<r.getD 1 0)
def kY (a b:Option Int) (r:List Int):Bool:=decide (qtx a b (r.getD 0 0) 1=1)
def yH (r:List Int):List Int:=[r.getD 2 0,r.getD 1 0*r.getD 2 0,r.getD 1 0,r.getD 1 0]
def qtz (a b:Option Int) (Y Z:List (List Int)):List (List Int):=(Z.filter (kZ a b)).map (List.drop 2) ++ (Y.filter (kY a b)).map yH
def qm0 (a b:Option Int) (Z:List (List Int)):List (List Int):=Z.filter (cZ a b)
def ZSh (r:List Int):Prop:=∃ st w m t lo hi,r=[st,w,m,t,lo,hi]/\1<=w
def YSh (r:List Int):Prop:=∃ t v m,r=[t,v,m]/\qvw (v,m)
theorem qDd {α:Type} {xs:List α} {p:α->Bool} {i:Nat} {x:α} (h:xs[i]?=some x) (z:p x=true):(xs.take (i+1)).filter p=(xs.take i).filter p ++ [x]:=by
 rw[qbq xs i x h,List.filter_append];simp[z]
theorem qDe {α:Type} {xs:List α} {p:α->Bool} {i:Nat} {x:α} (h:xs[i]?=some x) (z:¬ p x=true):(xs.take (i+1)).filter p=(xs.take i).filter p:=by
 rw[qbq xs i x h,List.filter_append];simp[z]
theorem qt0 {α:Type} (xs:List α) (p:α->Bool) (i:Nat):((xs.take i).filter p).length<=i:=Nat.le_trans (List.length_filter_le _ _) (by rw[List.length_take];omega)
def PartAt (H:Hp) (v:V) (r:List Int):Prop:=∃ p q,v=.ref p/\H p=some (.tup [.int (r.getD 0 0),.int (r.getD 1 0),.ref q])/\H q=some (.tup ((r.drop 2).map V.int))
def Parts (H:Hp) (xs:List V) (rs:List (List Int)):Prop:=Paired (PartAt H) xs rs
theorem PartAt.tupS {H H':Hp} (s:qn0 H H') {v:V} {r:List Int}:PartAt H v r->PartAt H' v r:=fun ⟨p,q,e,h1,h2⟩=>⟨p,q,e,s _ _ h1,s _ _ h2⟩
theorem Parts.tupS {H H':Hp} (s:qn0 H H'):∀ {xs:List V} {rs:List (List Int)},Parts H xs rs->Parts H' xs rs
 | _,_,.nil=>.nil
 | _,_,.cons r t=>.cons (r.tupS s) (Parts.tupS s t)
theorem Parts.same {H H':Hp} (s:Same H H') {xs:List V} {rs:List (List Int)} (h:Parts H xs rs):Parts H' xs rs:=h.tupS λ_ _ e=>s _ _ e
theorem Parts.snoc {H:Hp} {v:V} {r:List Int} (h:PartAt H v r):∀ {xs:List V} {rs:List (List Int)},Parts H xs rs->Parts H (xs ++ [v]) (rs ++ [r])
 | _,_,.nil=>.cons h .nil
 | _,_,.cons q t=>.cons q (Parts.snoc h t)
theorem Parts.length {H:Hp}:∀ {xs:List V} {rs:List (List Int)},Parts H xs rs->xs.length=rs.length
 | _,_,.nil=>rfl
 | _,_,.cons _ t=>by simp[Parts.length t]
structure AOk (n:Nat) (s:Abs):Prop where
 y:∀ k x,s.y k=some x->∃ t v,k=[t,v]/\(-(10 ^ 40)<v/\v<10 ^ 40)/\1<=x/\x<=n*10 ^ 40
 z:∀ k x,s.z k=some x->∃ a w,k=[a,w]/\1<=w
theorem AOk.zero:AOk 0 qq7:=⟨λk x e=>(by cases e),λk x e=>(by cases e)⟩
theorem AOk.mono {n m:Nat} {s:Abs} (h:AOk n s) (e:n<=m):AOk m s:=⟨λk x ex=>by
 obtain ⟨t,v,e1,e2,e3,e4⟩:=h.y k x ex;exact ⟨t,v,e1,e2,e3,by omega⟩,h.z⟩
theorem AOk.put {n:Nat} {s:Abs} {cell:Int->Option (Int×Int)} {r:Rd3} (h:AOk n s) (hc:∀ a w,cell r.1=some (a,w)->w=0\/1<=w) (ok:qom r.2):AOk (n+1) (qcg cell s r):=by
 have h':=h.mono (Nat.le_succ n);have ok1:(-(10 ^ 40)<r.2.1/\r.2.1<10 ^ 40)/\1<=r.2.2/\r.2.2<10 ^ 40:=ok;unfold qcg
 cases e:cell r.1 with
 | none=>exact h'
 | some p =>
  obtain ⟨a,w⟩:=p;dsimp only
  by_cases hw:w=0
  ·rw[if_pos hw]
   refine ⟨λk x ek=>?_,h'.z⟩;have ek:qdo s.y [r.1,r.2.1] _ k=some x:=ek
   by_cases hk:k=[r.1,r.2.1]
   ·rw[hk,qas] at ek
    have ek:=Option.some.inj ek;refine ⟨r.1,r.2.1,hk,ok1.1,?_⟩
    cases e2:s.y [r.1,r.2.1] with
    | none=>rw[e2] at ek;simp at ek;omega
    | some y =>
     obtain ⟨_,_,_,_,h1,h2⟩:=h.y _ y e2;rw[e2] at ek
     simp at ek
     omega
   ·rw[qa4 _ _ hk] at ek
    exact h'.y k x ek
  ·rw[if_neg hw]
   refine ⟨h'.y,λk x ek=>?_⟩;have ek:qdo s.z [a,w] _ k=some x:=ek
   by_cases hk:k=[a,w]
   ·exact ⟨a,w,hk,(hc a w e).resolve_left hw⟩
   ·rw[qa4 _ _ hk] at ek
    exact h'.z k x ek
theorem AOk.of {cell:Int->Option (Int×Int)} (hc:∀ t a w,cell t=some (a,w)->w=0\/1<=w) (rs:List Rd3) (hr:∀ r∈rs,qom r.2):∀ n,n<=rs.length->AOk n (qcu cell (rs.take n))
 | 0,_=>AOk.zero
 | n+1,h=>by
  have hn:n<rs.length:=by omega
  have e:rs[n]?=some rs[n]:=List.getElem?_eq_getElem hn;rw[qbq rs n _ e,qgd];exact (AOk.of hc rs hr n (by omega)).put (λa w=>hc _ a w) (hr _ (List.getElem_mem hn))
theorem AOk.all {cell:Int->Option (Int×Int)} (hc:∀ t a w,cell t=some (a,w)->w=0\/1<=w) (rs:List Rd3) (hr:∀ r∈rs,qom r.2):AOk rs.length (qcu cell rs):=by
 have:=AOk.of hc rs hr rs.length (Nat.le_refl _)
 rwa [List.take_length] at this
theorem AOk.ysh {n:Nat} {s:Abs} (h:AOk n s) (hn:n<=1000):∀ r∈qbh s,YSh r:=by
 intro r hr;unfold qbh at hr
 split at hr
 ·rename_i hx
  obtain ⟨k,hk,rfl⟩:=List.mem_map.mp hr;have hm:=(hx.choose_spec.mem k).mp hk
  cases e:s.y k with
  | none=>exact absurd e hm
  | some x =>
   obtain ⟨t,v,rfl,h1,h2,h3⟩:=h.y k x e;refine ⟨t,v,x,by unfold qmv;rw[e];rfl,?_⟩;unfold qvw;have h3':x<=1000*10 ^ 40:=by omega
   dsimp only;omega
 ·cases hr
theorem AOk.zsh {n:Nat} {s:Abs} (h:AOk n s):∀ r∈qbc s,ZSh r:=by
 intro r hr;unfold qbc at hr
 split at hr
 ·rename_i hx
  obtain ⟨k,hk,rfl⟩:=List.mem_map.mp hr;have hm:=(hx.choose_spec.mem k).mp hk
  cases e:s.z k with
  | none=>exact absurd e hm
  | some x =>
   obtain ⟨a,w,rfl,h1⟩:=h.z k x e;exact ⟨a,w,x.1,x.2.1,x.2.2.1,x.2.2.2,by unfold qjv;rw[e];rfl,h1⟩
 ·cases hr
inductive qm1 (C R G:Addr) (vs:List V) (H:Hp) (Q:VK) (E:XK):Prop
 | mk:∀ (ro:Addr) (c:qay) (s:Abs) (LY LZ:List (List Int)) (n:Nat) (a b:Option Int),vs=[.ref ro,gv a,gv b]->RR C R H ro c s LY LZ->LY.length<64->LZ.length<64->AOk n s->n<=1000->(qmz c.ge a->∀ dx H',New H H' dx (.xd [("edge",gv c.ge)])->E (.ref G) (some dx) H')->(¬ qmz c.ge a->∀ t l1 l2 xs ys H',Same H H'->H l1=none->H l2=none->l1≠l2->H' t=some (.tup [.ref l1,.ref l2])->H' l1=some (.lst xs)->Tups H' xs (qtz a b (qbh s) (qbc s))->H' l2=some (.lst ys)->Parts H' ys (qm0 a b (qbc s))->Q (.ref t) H')->qm1 C R G vs H Q E
open PySem L2
def j4 (h:HP4):List Int:=[h.1,h.2.1,h.2.2.1,h.2.2.2]
def mN (hs:List HP4):Int:=(hs.map λh=>h.1).sum
def mT (hs:List HP4):Int:=(hs.map λh=>h.2.1).sum
def HsOk (hs:List HP4):Prop:=hs.length<=40/\∀ h∈hs,1<=h.1/\h.1<10 ^ 42 /\ -(10 ^ 80)<h.2.1/\h.2.1<10 ^ 80
theorem qxd:∀ {hs:List HP4},(∀ h∈hs,1<=h.1/\h.1<10 ^ 42 /\ -(10 ^ 80)<h.2.1/\h.2.1<10 ^ 80)->(hs.length:Int)<=mN hs/\mN hs<=hs.length*10 ^ 42 /\ -(hs.length*10 ^ 80:Int)<=mT hs/\mT hs<=hs.length*10 ^ 80
 | [],_=>by simp[mN,mT]
 | h :: t,ok=>by
  have i:=qxd (hs:=t) λx hx=>ok x (List.mem_cons_of_mem _ hx)
  have j:=ok h List.mem_cons_self;have e1:mN (h :: t)=h.1+mN t:=by simp[mN]
  have e2:mT (h :: t)=h.2.1+mT t:=by simp[mT]
  rw[e1,e2,List.length_cons];omega
theorem HsOk.b {hs:List HP4} (h:HsOk hs):0<=mN hs/\mN hs<=10 ^ 44 /\ -(10 ^ 82)<=mT hs/\mT hs<=10 ^ 82/\(hs≠[]->1<=mN hs):=by
 have b:=qxd h.2;have l:=h.1;refine ⟨by omega,by omega,by omega,by omega,λz=>?_⟩;have:=List.length_pos_iff.mpr z;omega
def Low (a b t n:Int):Prop:=1<=b/\a*n=t*b/\Nat.gcd a.natAbs b.natAbs=1/\b<=n/\a.natAbs<=t.natAbs
theorem qBf {t n:Int} (hn:1<=n):Low (t / (Nat.gcd t.natAbs n.natAbs:Int)) (n / (Nat.gcd t.natAbs n.natAbs:Int)) t n/\1<=(Nat.gcd t.natAbs n.natAbs:Int)/\(Nat.gcd t.natAbs n.natAbs:Int)<=n:=by
 have hg:0<Nat.gcd t.natAbs n.natAbs:=Nat.gcd_pos_of_pos_right _ (by omega);have d1:(Nat.gcd t.natAbs n.natAbs:Int) ∣ t:=Int.ofNat_dvd_left.mpr (Nat.gcd_dvd_left _ _);have d2:(Nat.gcd t.natAbs n.natAbs:Int) ∣ n:=Int.ofNat_dvd_left.mpr (Nat.gcd_dvd_right _ _);have le:Nat.gcd t.natAbs n.natAbs<=n.natAbs:=Nat.le_of_dvd (by omega) (Nat.gcd_dvd_right _ _)
 generalize e:Nat.gcd t.natAbs n.natAbs=g at hg d1 d2 le ⊢
 obtain ⟨a,rfl⟩:=d1;obtain ⟨b,rfl⟩:=d2;have hg':(0:Int)<g:=by omega
 rw[Int.mul_ediv_cancel_left _ (by omega),Int.mul_ediv_cancel_left _ (by omega)];rw[Int.natAbs_mul,Int.natAbs_mul,Int.natAbs_natCast,Nat.gcd_mul_left] at e;have cop:Nat.gcd a.natAbs b.natAbs=1:=Nat.eq_of_mul_eq_mul_left hg (by rw[e,Nat.mul_one]);have bp:1<=b:=Decidable.byContradiction λz=>by
  have:=Int.mul_le_mul_of_nonneg_left (show b<=0 by omega) (Int.le_of_lt hg');omega
 refine ⟨⟨bp,?_,cop,?_,?_⟩,by omega,by omega⟩
 ·rw[Int.mul_left_comm,Int.mul_assoc]
 ·have:=Int.mul_le_mul_of_nonneg_right (show (1:Int)<=g by omega) (show 0<=b by omega)
  rwa [Int.one_mul] at this
 ·rw[Int.natAbs_mul,Int.natAbs_natCast]
  have:=Nat.mul_le_mul_right a.natAbs hg
  rwa [Nat.succ_eq_add_one,Nat.zero_add,Nat.one_mul] at this
inductive qm2 (vs:List V) (H:Hp) (Q:VK) (E_:XK):Prop
 | mk:∀ l xs hs,vs=[.ref l]->H l=some (.lst xs)->Tups H xs (hs.map j4)->hs.length<=200->(∀ H',Same H H'->Q (.int (mN hs)) H')->qm2 vs H Q E_
inductive qke (vs:List V) (H:Hp) (Q:VK) (E_:XK):Prop
 | mk:∀ l xs hs,vs=[.ref l]->H l=some (.lst xs)->Tups H xs (hs.map j4)->hs.length<=200->(∀ H',Same H H'->Q (.int (mT hs)) H')->qke vs H Q E_
inductive qkf (vs:List V) (H:Hp) (Q:VK) (E_:XK):Prop
 | mk:∀ l xs hs,vs=[.ref l]->H l=some (.lst xs)->Tups H xs (hs.map j4)->hs.length<=200->hs≠[]->(∀ z H',Same H H'->z∈hs.map (λh=>h.2.2.1)->(∀ x∈hs.map (λh=>h.2.2.1),z<=x)->Q (.int z) H')->qkf vs H Q E_
inductive qkg (vs:List V) (H:Hp) (Q:VK) (E_:XK):Prop
 | mk:∀ l xs hs,vs=[.ref l]->H l=some (.lst xs)->Tups H xs (hs.map j4)->hs.length<=200->hs≠[]->(∀ z H',Same H H'->z∈hs.map (λh=>h.2.2.2)->(∀ x∈hs.map (λh=>h.2.2.2),x<=z)->Q (.int z) H')->qkg vs H Q E_
def qBg:Sp:=λvs H Q _=>∃ m n:Nat,vs=[.int m,.int n]/\Q (.int (Nat.gcd m n)) H
def qBh:Sp:=λvs H Q _=>∃ t n,vs=[.int t,.int n]/\1<=n/\n<10 ^ 45/\∀ p a b H',New H H' p (.tup [.int a,.int b])->Low a b t n->Q (.ref p) H'
def wd:Nat->Str
 | 0 => "many"
 | 1 => "sum"
 | 2 => "least"
 | 3 => "greatest"
 | _ => "mean"
def qli (a b c d e:Addr):Nat->Addr
 | 0=>a
 | 1=>b
 | 2=>c
 | 3=>d
 | _=>e
def qrb (C:Nat->Addr) (N:Addr):Sp:=λvs H Q E=>∃ w:Str,vs=[.str w]/\(∀ k,k<5->w=wd k->∀ x dx H',Same H H'->H' x=some (.ins (C k) dx [])->Q (.ref x) H')/\((∀ k,k<5->w≠wd k)->E (.ref N) none H)
open PySem L2
def wOf (h:HP4):List (Int×Int):=qq4 h.1 h.2.1 h.2.2.1 h.2.2.2
def qjr (ps:List HP4):List (Int×Int):=ps.flatMap wOf
def PsOk (ps:List HP4):Prop:=(qjr ps).length<64/\HsOk ps/\∀ h∈ps,qhb h.1 h.2.1 h.2.2.1 h.2.2.2/\HBd h.1 h.2.2.1 h.2.2.2
def r2 (p:Int×Int):List Int:=[p.1,p.2]
def qBi (rs:List (Int×Int)):Prop:=(rs.map r2).Pairwise λk l=>blt l k=false
theorem qt1 {H:Hp}:∀ {xs:List V} {rs:List (Int×Int)},Pairs H xs rs->TupsH H xs (rs.map r2)
 | _,_,.nil=>.nil
 | _,_,.cons r t=>.cons r (qt1 t)
theorem qkh {H:Hp}:∀ {xs:List V} {rs:List (Int×Int)},TupsH H xs (rs.map r2)->Pairs H xs rs
 | [],[],_=>.nil
 | _ :: _,_ :: _,.cons r t=>.cons r (qkh t)
theorem qyx {ms:List (List Int)} {rs:List (Int×Int)} (h:ms.Perm (rs.map r2)):∃ qs:List (Int×Int),ms=qs.map r2/\qs.Perm rs:=by
 refine ⟨ms.map λm=>(m.getD 0 0,m.getD 1 0),?_,?_⟩
 ·rw[List.map_map]
  have:∀ m∈ms,(r2 ∘ λm=>(m.getD 0 0,m.getD 1 0)) m=m:=λm hm=>by
   obtain ⟨p,_,rfl⟩:=List.mem_map.mp (h.mem_iff.mp hm)
   rfl
  exact (List.map_id ms).symm.trans (List.map_congr_left λm hm=>(this m hm).symm)
 ·have:=h.map λm=>(m.getD 0 0,m.getD 1 0)
  rw[List.map_map] at this;have e:rs.map ((λm:List Int=>(m.getD 0 0,m.getD 1 0)) ∘ r2)=rs:=by
   conv=>rhs;rw[<- List.map_id rs]
   exact List.map_congr_left λp _=>rfl
  rw[e] at this;exact this
inductive qpw (vs:List V) (H:Hp) (Q:VK) (E_:XK):Prop
 | mk:∀ l xs ps,vs=[.ref l]->H l=some (.lst xs)->Tups H xs (ps.map j4)->PsOk ps->(∀ p ys rs H',Same H H'->H' p=some (.lst ys)->Pairs H' ys rs->rs.Perm (qjr ps)->qBi rs->Q (.ref p) H')->qpw vs H Q E_
inductive qm3 (vs:List V) (H:Hp) (Q:VK) (E_:XK):Prop
 | mk:∀ v n t b,vs=[.int v,.int n,.int t,.bl b]->CMulB v n->Q (.bl (if b=true then decide (t<v*n) else decide (v*n<t))) H->qm3 vs H Q E_
def qi2 (b:Bool) (s:Int×Int) (r:Int×Int):Int×Int:=if s.1=0\/(if b=true then decide (s.2<r.1*s.1) else decide (r.1*s.1<s.2))=true then (s.1+r.2,s.2+r.1*r.2) else s
theorem qpx (b:Bool) (s r:Int×Int):qi2 b s r=(s.1+r.2,s.2+r.1*r.2)\/(qi2 b s r=s/\s.1≠0):=by
 unfold qi2
 by_cases h:s.1=0\/(if b=true then decide (s.2<r.1*s.1) else decide (r.1*s.1<s.2))=true
 ·exact .inl (if_pos h)
 ·exact .inr ⟨if_neg h,λz=>h (.inl z)⟩
def mE (b:Bool) (hs:List HP4) (rs:List (Int×Int)):Int×Int:=rs.foldl (qi2 b) (mN hs,mT hs)
def RB (p:Int×Int):Prop:=(-(10 ^ 45)<p.1/\p.1<10 ^ 45)/\1<=p.2/\p.2<10 ^ 43
inductive qki (vs:List V) (H:Hp) (Q:VK) (E_:XK):Prop
 | mk:∀ l r xs ys hs rs b,vs=[.ref l,.ref r,.bl b]->H l=some (.lst xs)->Tups H xs (hs.map j4)->HsOk hs->H r=some (.lst ys)->Pairs H ys rs->rs.length<64->(∀ p∈rs,RB p)->(hs≠[]\/rs≠[])->(∀ p x y H',Same H H'->H' p=some (.tup [.int x,.int y])->Low x y (mE b hs rs).2 (mE b hs rs).1->Q (.ref p) H')->qki vs H Q E_
theorem qB2 {b:Bool} {hs:List HP4} (ok:HsOk hs) {rs:List (Int×Int)} (hr:∀ p∈rs,RB p):∀ i,i<=rs.length->0<=(mE b hs (rs.take i)).1/\(mE b hs (rs.take i)).1<=10 ^ 44+i*10 ^ 43/\(hs≠[]\/1<=i->1<=(mE b hs (rs.take i)).1)
 | 0,_=>by
  obtain ⟨b0,b1,_,_,b4⟩:=ok.b;refine ⟨b0,?_,λz=>b4 (z.resolve_right (by omega))⟩
  show mN hs<=_
  omega
 | i+1,h=>by
  obtain ⟨c0,c1,c2⟩:=qB2 (b:=b) ok hr i (by omega);have e:rs[i]?=some (rs[i]'(by omega)):=List.getElem?_eq_getElem (by omega);have hp:=hr _ (List.getElem_mem (show i<rs.length by omega));have es:mE b hs (rs.take (i+1))=qi2 b (mE b hs (rs.take i)) (rs[i]'(by omega)):=by
   unfold mE;rw[qbq rs i _ e,List.foldl_append];rfl
  rw[es];unfold RB at hp;have e43:((i+1:Nat):Int)*10 ^ 43=(i:Int)*10 ^ 43+10 ^ 43:=by omega
  rcases qpx b (mE b hs (rs.take i)) (rs[i]'(by omega)) with z|⟨z,z2⟩
  ·rw[z]
   refine ⟨?_,?_,λ_=>?_⟩
   ·show 0<=(mE b hs (rs.take i)).1+_;omega
   ·show (mE b hs (rs.take i)).1+_<=_;omega
   ·show 1<=(mE b hs (rs.take i)).1+_;omega
  ·rw[z]
   exact ⟨c0,by omega,λ_=>by omega⟩
open PySem L2
end TB
namespace TB
open PySem L2
def hg (A B v:Int):Int:=if A<B*v then B*v-A else 0
open PySem L2
end TB
namespace TB
open PySem L2
def PsC (ps:List HP4):Prop:=∀ h∈ps,qhb h.1 h.2.1 h.2.2.1 h.2.2.2
theorem qt2 (h:HP4) (ps:List HP4):qjr (h :: ps)=wOf h ++ qjr ps:=rfl
open PySem L2
def qBj (cell:Int->Option (Int×Int)):Prop:=∀ t a w s,cell t=some (a,w)->w≠0->a<=s->s<a+w->cell s=some (a,w)
theorem Fall.whole {ws es:List Int} {ge:Option Int} (F:Fall ws es ge) (hl:1<=es.length):qBj (qbu ws es ge):=by
 intro t a w s e hw h1 h2;have h0:es[0]?=some es[0]:=List.getElem?_eq_getElem hl;have hlw:1<=ws.length:=by have:=F.len;omega
 have C:=qdu (ge:=ge) hlw hl t;have C2:=qdu (ge:=ge) hlw hl s;rw[e] at C
 rcases qkd F h0 C with ⟨_,e2⟩|⟨_,_,e2⟩|⟨_,hg,i,w',e',S,e2⟩
 ·cases e2;exact absurd rfl hw
 ·cases e2
 ·cases e2
  exact qvz F h0 S hg h1 h2 C2
structure HMade (n:Nat) (x:HP4):Prop where
 ex:∃ q:List (Int×Int),HeapOf q x.1 x.2.1 x.2.2.1 x.2.2.2/\RunsT q/\1<=q.length/\q.length<=n
theorem HMade.mono {n m:Nat} {x:HP4} (h:HMade n x) (e:n<=m):HMade m x:=⟨let ⟨q,a,b,c,d⟩:=h.ex;⟨q,a,b,c,by omega⟩⟩
theorem qpy {v m:Int} (h:RunT (v,m)):HMade 1 (qf4 v m):=by
 refine ⟨[(v,m)],⟨?_,?_,List.mem_cons_self,(λa ha=>by rw[List.mem_singleton.mp ha];exact Int.le_refl _),List.mem_cons_self,λa ha=>by rw[List.mem_singleton.mp ha];exact Int.le_refl _⟩,λp hp=>by rw[List.mem_singleton.mp hp];exact h,by simp,by simp⟩
 ·show m=rN [(v,m)];simp[rN,qvu]
 ·show v*m=rT [(v,m)];simp[rT,qw6]
theorem HMade.pour {n m:Nat} {x y:HP4} (a:HMade n x) (b:HMade m y):HMade (n+m) (mg4 x y):=by
 obtain ⟨q,o,t,l1,l2⟩:=a.ex;obtain ⟨q',o',t',l1',l2'⟩:=b.ex;exact ⟨q ++ q',o.app o',λp hp=>(List.mem_append.mp hp).elim (t p) (t' p),by rw[List.length_append];omega,by rw[List.length_append];omega⟩
structure Fit (cell:Int->Option (Int×Int)) (n:Nat) (s:Abs):Prop where
 y:∀ k x,s.y k=some x->∃ t v,k=[t,v]/\(-(10 ^ 31)<v/\v<10 ^ 31)/\1<=x/\x<=n*10 ^ 31
 z:∀ k x,s.z k=some x->HMade n x/\∃ t a w,cell t=some (a,w)/\w≠0/\k=[a,w]
theorem Fit.put {cell:Int->Option (Int×Int)} {n:Nat} {s:Abs} (h:Fit cell n s) {r:Rd3} (ok:RunT r.2):Fit cell (n+1) (qcg cell s r):=by
 have h':Fit cell (n+1) s:=⟨λk x e=>by
  obtain ⟨t,v,e1,e2,e3,e4⟩:=h.y k x e;exact ⟨t,v,e1,e2,e3,by omega⟩,λk x e=>⟨(h.z k x e).1.mono (Nat.le_succ n),(h.z k x e).2⟩⟩
 have ok1:(-(10 ^ 31)<r.2.1/\r.2.1<10 ^ 31)/\1<=r.2.2/\r.2.2<10 ^ 31:=ok;unfold qcg
 cases e:cell r.1 with
 | none=>exact h'
 | some p =>
  obtain ⟨a,w⟩:=p;dsimp only
  by_cases hw:w=0
  ·rw[if_pos hw]
   refine ⟨λk x ek=>?_,h'.z⟩;have ek:qdo s.y [r.1,r.2.1] _ k=some x:=ek
   by_cases hk:k=[r.1,r.2.1]
   ·rw[hk,qas] at ek
    have ek:=Option.some.inj ek;refine ⟨r.1,r.2.1,hk,ok1.1,?_⟩
    cases e2:s.y [r.1,r.2.1] with
    | none=>rw[e2] at ek;simp at ek;omega
    | some y =>
     obtain ⟨_,_,_,_,h1,h2⟩:=h.y _ y e2;rw[e2] at ek
     simp at ek
     omega
   ·rw[qa4 _ _ hk] at ek
    exact h'.y k x ek
  ·rw[if_neg hw]
   refine ⟨h'.y,λk x ek=>?_⟩;have ek:qdo s.z [a,w] _ k=some x:=ek
   by_cases hk:k=[a,w]
   ·rw[hk,qas] at ek
    have ek:=Option.some.inj ek;refine ⟨?_,r.1,a,w,e,hw,hk⟩;rw[<- ek]
    cases e2:s.z [a,w] with
    | none=>exact (qpy ok).mono (by omega)
    | some y=>exact (h.z _ y e2).1.pour (qpy ok)
   ·rw[qa4 _ _ hk] at ek
    exact h'.z k x ek
theorem Fit.of (cell:Int->Option (Int×Int)) (rs:List Rd3) (hr:∀ r∈rs,RunT r.2):∀ n,n<=rs.length->Fit cell n (qcu cell (rs.take n))
 | 0,_=>⟨λk x e=>(by cases e),λk x e=>(by cases e)⟩
 | n+1,h=>by
  have hn:n<rs.length:=by omega
  have e:rs[n]?=some rs[n]:=List.getElem?_eq_getElem hn;rw[qbq rs n _ e,qgd];exact (Fit.of cell rs hr n (by omega)).put (hr _ (List.getElem_mem hn))
theorem Fit.all (cell:Int->Option (Int×Int)) (rs:List Rd3) (hr:∀ r∈rs,RunT r.2):Fit cell rs.length (qcu cell rs):=by
 have:=Fit.of cell rs hr rs.length (Nat.le_refl _)
 rwa [List.take_length] at this
theorem qt3 {s:Abs} {r:List Int} (h:r∈qbh s):∃ k x,s.y k=some x/\r=k ++ [x]:=by
 unfold qbh at h
 split at h
 ·rename_i hx
  obtain ⟨k,hk,rfl⟩:=List.mem_map.mp h;have hm:=(hx.choose_spec.mem k).mp hk
  cases e:s.y k with
  | none=>exact absurd e hm
  | some x=>exact ⟨k,x,e,by unfold qmv;rw[e];rfl⟩
 ·cases h
theorem qi3 {s:Abs} {r:List Int} (h:r∈qbc s):∃ k x,s.z k=some x/\r=k ++ i4 x:=by
 unfold qbc at h
 split at h
 ·rename_i hx
  obtain ⟨k,hk,rfl⟩:=List.mem_map.mp h;have hm:=(hx.choose_spec.mem k).mp hk
  cases e:s.z k with
  | none=>exact absurd e hm
  | some x=>exact ⟨k,x,e,by unfold qjv;rw[e];rfl⟩
 ·cases h
theorem qBk:∀ L:List (List Int),∃ M:List (List Int),M.Nodup/\∀ k,k∈M↔k∈L
 | []=>⟨[],.nil,λ_=>Iff.rfl⟩
 | a :: t=>by
  obtain ⟨M,nd,hm⟩:=qBk t
  by_cases h:a∈M
  ·refine ⟨M,nd,λk=>⟨λhk=>List.mem_cons_of_mem _ ((hm k).mp hk),λhk=>?_⟩⟩
   rcases List.mem_cons.mp hk with e|e
   ·rw[e];exact h
   ·exact (hm k).mpr e
  ·refine ⟨a :: M,List.nodup_cons.mpr ⟨h,nd⟩,λk=>?_⟩
   rw[List.mem_cons,List.mem_cons,hm]
theorem qkj {cell:Int->Option (Int×Int)} {rs:List Rd3}:(qbh (qcu cell rs)).length+(qbc (qcu cell rs)).length<=rs.length:=by
 have tg:=qtu cell rs;have ex:∀ {α:Type} {f:List Int->Option α} {L:List (List Int)},(∀ k,f k≠none->k∈L)->∃ ms,SKeys f ms:=fun {α f L} h=>by
  classical
  obtain ⟨M,nd,hm⟩:=qBk (L.filter λk=>decide (f k≠none));obtain ⟨ms,h1,_⟩:=qht (f:=f) (ks:=M) nd λk=>by
   rw[hm,List.mem_filter];simp only[decide_eq_true_eq];exact ⟨λh=>h.2,λhk=>⟨h k hk,hk⟩⟩
  exact ⟨ms,h1⟩
 obtain ⟨my,sy⟩:=ex (f:=(qcu cell rs).y) (L:=rs.map λr=>(quq cell r).drop 1) λk hk=>by
  obtain ⟨r,hr',e⟩:=tg.1 k hk;exact List.mem_map.mpr ⟨r,hr',by rw[e];rfl⟩
 obtain ⟨mz,sz⟩:=ex (f:=(qcu cell rs).z) (L:=rs.map λr=>(quq cell r).drop 1) λk hk=>by
  obtain ⟨r,hr',e⟩:=tg.2 k hk;exact List.mem_map.mpr ⟨r,hr',by rw[e];rfl⟩
 rw[<- qcv sy,<- qcw sz,List.length_map,List.length_map];exact qyv tg sy sz
theorem qt4 {cell:Int->Option (Int×Int)} {n:Nat} {s:Abs} (wh:qBj cell) (ft:Fit cell n s) (a b:Option Int):(qm0 a b (qbc s)).length<=2:=by
 unfold qbc
 split
 case isFalse=>simp[qm0]
 case isTrue hx =>
  have sk:=hx.choose_spec
  generalize hx.choose=ms at sk
  unfold qm0;rw[List.filter_map,List.length_map];have kf:∀ o:Option Int,∃ L:List (List Int),L.length<=1/\∀ z p w,o=some z->cell z=some (p,w)->[p,w]∈L:=λo=>by
   cases o with
   | none=>exact ⟨[],by simp,λz p w e=>by cases e⟩
   | some z =>
    cases e:cell z with
    | none=>exact ⟨[],by simp,λz' p w e1 e2=>by cases e1;rw[e] at e2;cases e2⟩
    | some p=>exact ⟨[[p.1,p.2]],by simp,λz' q w e1 e2=>by cases e1;rw[e] at e2;cases e2;exact List.mem_cons_self⟩
  obtain ⟨La,la,ha⟩:=kf a;obtain ⟨Lb,lb,hb⟩:=kf b;have nd:(ms.filter ((cZ a b) ∘ qjv s)).Nodup:=(sk.nd).filter _;have sub:ms.filter ((cZ a b) ∘ qjv s) ⊆ La ++ Lb:=λk hk=>by
   obtain ⟨hm,hc⟩:=List.mem_filter.mp hk
   cases e:s.z k with
   | none=>exact absurd e ((sk.mem k).mp hm)
   | some x =>
    obtain ⟨_,t,p,w,ct,hw,rfl⟩:=ft.z k x e;have hc:cZ a b (qjv s [p,w])=true:=hc;have e0:(qjv s [p,w]).getD 0 0=p:=rfl;have e1:(qjv s [p,w]).getD 1 0=w:=rfl;unfold cZ at hc;rw[e0,e1,Bool.and_eq_true,decide_eq_true_eq,decide_eq_true_eq] at hc;obtain ⟨c1,c2⟩:=hc;have hw1:0<w:=by omega
    unfold qtx at c1 c2
    split at c1
    case isFalse=>omega
    case isTrue c3 =>
     rw[if_pos c3] at c2
     cases a with
     | some xa =>
      have ea:qB1 (some xa) p=if p>xa then p else xa:=rfl
      by_cases h1:p<xa/\xa<p+w
      ·exact List.mem_append_left _ (ha xa p w rfl (wh t p w xa ct hw (by omega) h1.2))
      ·cases b with
       | some yb =>
        have eb:qzl (some yb) (p+w)=if p+w<yb then p+w else yb:=rfl
        rw[ea,eb] at c2 c3;refine List.mem_append_right _ (hb yb p w rfl (wh t p w yb ct hw ?_ ?_))
        ·split at c3<;>split at c3<;>omega
        ·split at c2<;>split at c2<;>omega
       | none =>
        have eb:qzl none (p+w)=p+w:=rfl;rw[ea,eb] at c2 c3
        split at c2<;>split at c3<;>omega
     | none =>
      have ea:qB1 none p=p:=rfl
      cases b with
      | some yb =>
       have eb:qzl (some yb) (p+w)=if p+w<yb then p+w else yb:=rfl
       rw[ea,eb] at c2 c3;refine List.mem_append_right _ (hb yb p w rfl (wh t p w yb ct hw ?_ ?_))
       ·split at c3<;>omega
       ·split at c2<;>omega
      | none =>
       have eb:qzl none (p+w)=p+w:=rfl;rw[ea,eb] at c2;omega
  have:=List.Nodup.length_le_of_subset nd sub;rw[List.length_append] at this;omega
open PySem L2
theorem qlj (cell:Int->Option (Int×Int)) (s:Abs) (r:Rd3) (b:Int) (x:HP4):qdl cell (qcg cell s r) b x=qcg cell (qdl cell s b x) r:=by
 unfold qcg qdl
 rcases e1:cell r.1 with _|⟨a,w⟩
 ·rcases e2:cell b with _|⟨c,u⟩<;>rfl
 ·rcases e2:cell b with _|⟨c,u⟩
  ·rfl
  ·dsimp only
   by_cases hw:w=0
   ·rw[if_pos hw,if_pos hw]
   ·rw[if_neg hw,if_neg hw]
    dsimp only
    by_cases hk:[a,w]=[c,u]
    ·rw[hk,qas,qbk,qas,qbk,qgc]
    ·rw[qa4 _ _ (λz=>hk z.symm),qa4 _ _ hk,qfm _ _ _ hk]
theorem qt5 (cell:Int->Option (Int×Int)) (s:Abs) (r z:List Int):qbv cell (qcp cell s r) z=qcp cell (qbv cell s z) r:=by
 unfold qbv qcp
 split<;>split<;>first|rfl|exact qlj _ _ _ _ _
theorem qm4 (cell:Int->Option (Int×Int)):∀ (Z:List (List Int)) (s:Abs) (r:List Int),Z.foldl (qbv cell) (qcp cell s r)=qcp cell (Z.foldl (qbv cell) s) r
 | [],_,_=>rfl
 | z :: t,s,r=>by rw[List.foldl_cons,List.foldl_cons,qt5,qm4 cell t]
open PySem L2
theorem qc1 {S A:Type} {op:S->A->S} (comm:∀ s r q,op (op s r) q=op (op s q) r) {l l':List A} (p:l.Perm l'):∀ s,l.foldl op s=l'.foldl op s:=by
 induction p with
 | nil=>intro s;rfl
 | cons x _ ih=>intro s;exact ih _
 | swap x y l=>intro s;simp only[List.foldl_cons];rw[comm]
 | trans _ _ ih1 ih2=>intro s;rw[ih1,ih2]
theorem qdv {S A:Type} {op:S->A->S} (comm:∀ s r q,op (op s r) q=op (op s q) r) (x:A) (l:List A) (s:S):(x :: l).foldl op s=op (l.foldl op s) x:=by
 have h:=qc1 comm (List.perm_append_comm (l₁:=[x]) (l₂:=l)) s;have e:(l ++ [x]).foldl op s=op (l.foldl op s) x:=by rw[List.foldl_append];rfl
 rw[<- e,<- h];rfl
theorem qm5 {S:Type} {op:S->List Int->S} (comm:∀ s r q,op (op s r) q=op (op s q) r) {ms:List (List Int)} (nd:ms.Nodup) {f g:List Int->List Int} {k:List Int} (hk:k∈ms) (hfg:∀ j,j≠k->f j=g j) (s:S):∃ X,(ms.map f).foldl op s=op X (f k)/\(ms.map g).foldl op s=op X (g k):=by
 have p:=List.perm_cons_erase hk;have nd':=p.nodup_iff.mp nd;rw[List.nodup_cons] at nd';have e:(ms.erase k).map f=(ms.erase k).map g:=List.map_congr_left λj hj=>hfg j λz=>nd'.1 (z ▸ hj)
 refine ⟨((ms.erase k).map f).foldl op s,?_,?_⟩
 ·rw[qc1 comm (p.map f) s,List.map_cons,qdv comm]
 ·rw[qc1 comm (p.map g) s,List.map_cons,qdv comm,e]
theorem qe9 (cell:Int->Option (Int×Int)) (s:Abs) (r q:List Int):qcp cell (qcp cell s r) q=qcp cell (qcp cell s q) r:=by
 unfold qcp
 split<;>split<;>first|rfl|exact qtr _ _ _ _
theorem qrc (cell:Int->Option (Int×Int)) (s:Abs) (a b:Int) (x y:HP4):qdl cell (qdl cell s a x) b y=qdl cell (qdl cell s b y) a x:=by
 unfold qdl
 rcases e1:cell a with _|⟨c,u⟩
 ·rcases e2:cell b with _|⟨d,w⟩<;>rfl
 ·rcases e2:cell b with _|⟨d,w⟩
  ·rfl
  ·dsimp only
   by_cases hk:[c,u]=[d,w]
   ·rw[hk,qas,qbk,qas,qbk,qgc]
   ·rw[qa4 _ _ (λz=>hk z.symm),qa4 _ _ hk,qfm _ _ _ hk]
theorem qea (cell:Int->Option (Int×Int)) (s:Abs) (r q:List Int):qbv cell (qbv cell s r) q=qbv cell (qbv cell s q) r:=by
 unfold qbv
 split<;>split<;>first|rfl|exact qrc _ _ _ _ _ _
structure qm6 (cell cell':Int->Option (Int×Int)):Prop where
 n:∀ t,cell t=none->cell' t=none
 h:∀ t a w,cell t=some (a,w)->w≠0->cell' t=cell' a/\∀ b u,cell' a=some (b,u)->u≠0
structure KF (s:Abs):Prop where
 y:∃ my,SKeys s.y my/\∀ k∈my,k.length=2
 z:∃ mz,SKeys s.z mz/\∀ k∈mz,k.length=2
theorem qfp {α:Type} {f:List Int->Option α} {ms:List (List Int)} (h:SKeys f ms) (h2:∀ k∈ms,k.length=2) {k:List Int} (hk:k.length=2) (x:α):∃ ms',SKeys (qdo f k x) ms'/\(∀ j∈ms',j.length=2)/\((k∈ms->ms'=ms)/\(k ∉ ms->ms'.Perm (k :: ms))):=by
 by_cases c:k∈ms
 ·refine ⟨ms,⟨h.srt,λj=>?_⟩,h2,λ_=>rfl,λz=>absurd c z⟩
  by_cases e:j=k
  ·subst e;rw[qas];simp[c]
  ·rw[qa4 _ _ e];exact h.mem j
 ·have nd:(k :: ms).Nodup:=List.nodup_cons.mpr ⟨c,h.nd⟩
  have mem:∀ j,j∈k :: ms↔qdo f k x j≠none:=λj=>by
   by_cases e:j=k
   ·subst e;rw[qas];simp
   ·rw[qa4 _ _ e,List.mem_cons]
    exact ⟨λz=>(h.mem j).mp (z.resolve_left e),λz=>.inr ((h.mem j).mpr z)⟩
  obtain ⟨ms',s',_⟩:=qht nd mem;have pm:ms'.Perm (k :: ms):=by
   rw[List.perm_ext_iff_of_nodup s'.nd nd];intro j;rw[s'.mem,mem]
  refine ⟨ms',s',λj hj=>?_,λz=>absurd z c,λ_=>pm⟩
  rcases List.mem_cons.mp (pm.mem_iff.mp hj) with e|e
  ·rw[e];exact hk
  ·exact h2 j e
theorem qrd {S0:Abs} {cell':Int->Option (Int×Int)} {s:Abs} {my mz:List (List Int)} (sy:SKeys s.y my) (h2:∀ k∈my,k.length=2) (sz:SKeys s.z mz) (t v m:Int) :
  qfo cell' S0 (qbh { s with y:=qdo s.y [t,v] ((s.y [t,v]).getD 0+m) }) (qbc { s with y:=qdo s.y [t,v] ((s.y [t,v]).getD 0+m) })=qcg cell' (qfo cell' S0 (qbh s) (qbc s)) (t,v,m):=by
 obtain ⟨my',sy',_,hin,hout⟩:=qfp sy h2 (k:=[t,v]) rfl ((s.y [t,v]).getD 0+m)
 generalize es:({ s with y:=qdo s.y [t,v] ((s.y [t,v]).getD 0+m) }:Abs)=s'
 have ey':s'.y=qdo s.y [t,v] ((s.y [t,v]).getD 0+m):=by rw[<- es]
 have ez':s'.z=s.z:=by rw[<- es]
 have sy'':SKeys s'.y my':=by rw[ey'];exact sy'
 have ezr:qbc s'=qbc s:=by
  have:SKeys s'.z mz:=by rw[ez'];exact sz
  rw[<- qcw this,<- qcw sz];refine List.map_congr_left λk _=>?_
  unfold qjv;rw[ez']
 rw[ezr,<- qcv sy'',<- qcv sy];unfold qfo
 show _=qcp cell' ((qbc s).foldl (qbv cell') ((my.map (qmv s)).foldl (qcp cell') S0)) [t,v,m]
 rw[<- qm4]
 congr 1
 have ne:∀ j,j≠[t,v]->qmv s' j=qmv s j:=λj hj=>by unfold qmv;rw[ey',qa4 _ _ hj]
 have at_:qmv s' [t,v]=[t,v,(s.y [t,v]).getD 0+m]:=by unfold qmv;rw[ey',qas];rfl
 by_cases c:[t,v]∈my
 ·rw[hin c]
  obtain ⟨X,e1,e2⟩:=qm5 (qe9 cell') sy.nd c ne S0;rw[e1,e2,at_]
  show qcg cell' X (t,v,_)=qcg cell' (qcg cell' X (t,v,(s.y [t,v]).getD 0)) (t,v,m)
  rw[qq6]
 ·rw[qc1 (qe9 cell') ((hout c).map _) S0,List.map_cons,qdv (qe9 cell'),at_]
  have e:my.map (qmv s')=my.map (qmv s):=List.map_congr_left λj hj=>ne j λz=>c (by rw[<- z];exact hj)
  have en:s.y [t,v]=none:=by
   cases q:s.y [t,v] with
   | none=>rfl
   | some n=>exact absurd ((sy.mem _).mpr (by rw[q];simp)) c
  rw[e,en]
  show qcg cell' _ (t,v,0+m)=qcg cell' _ (t,v,m)
  rw[Int.zero_add]
theorem qt6 (a b c:HP4):mg4 (mg4 a b) c=mg4 a (mg4 b c):=by
 unfold mg4;refine qzk ?_ ?_ ?_ ?_<;>dsimp only
 ·omega
 ·omega
 ·repeat' split
  all_goals omega
 ·repeat' split
  all_goals omega
theorem qop (o:Option HP4) (b c:HP4):qb5 (some (qb5 o b)) c=qb5 o (mg4 b c):=by
 cases o with
 | none=>rfl
 | some a=>exact qt6 a b c
theorem qv2 {cell':Int->Option (Int×Int)} {t a:Int} (hc:cell' t=cell' a) (hu:∀ b u,cell' a=some (b,u)->u≠0) (X:Abs) (v m:Int):qdl cell' X a (qf4 v m)=qcg cell' X (t,v,m):=by
 unfold qdl qcg;dsimp only;rw[hc]
 rcases e:cell' a with _|⟨b,u⟩
 ·rfl
 ·dsimp only
  rw[if_neg (hu b u e)]
theorem qyy (cell':Int->Option (Int×Int)) (X:Abs) (a:Int) (x y:HP4):qdl cell' (qdl cell' X a x) a y=qdl cell' X a (mg4 x y):=by
 unfold qdl
 rcases e:cell' a with _|⟨b,u⟩
 ·rfl
 ·dsimp only
  rw[qas,qbk,qop]
theorem take_heap {S0:Abs} {cell':Int->Option (Int×Int)} {s:Abs} {my mz:List (List Int)} (sy:SKeys s.y my) (sz:SKeys s.z mz) (h2:∀ k∈mz,k.length=2) {t a:Int} (hc:cell' t=cell' a) (hu:∀ b u,cell' a=some (b,u)->u≠0) (w v m:Int) :
  qfo cell' S0 (qbh { s with z:=qdo s.z [a,w] (qb5 (s.z [a,w]) (qf4 v m)) }) (qbc { s with z:=qdo s.z [a,w] (qb5 (s.z [a,w]) (qf4 v m)) })=qcg cell' (qfo cell' S0 (qbh s) (qbc s)) (t,v,m):=by
 obtain ⟨mz',sz',_,hin,hout⟩:=qfp sz h2 (k:=[a,w]) rfl (qb5 (s.z [a,w]) (qf4 v m))
 generalize es:({ s with z:=qdo s.z [a,w] (qb5 (s.z [a,w]) (qf4 v m)) }:Abs)=s'
 have ez':s'.z=qdo s.z [a,w] (qb5 (s.z [a,w]) (qf4 v m)):=by rw[<- es]
 have ey':s'.y=s.y:=by rw[<- es]
 have sz'':SKeys s'.z mz':=by rw[ez'];exact sz'
 have eyr:qbh s'=qbh s:=by
  have:SKeys s'.y my:=by rw[ey'];exact sy
  rw[<- qcv this,<- qcv sy];refine List.map_congr_left λk _=>?_
  unfold qmv;rw[ey']
 rw[eyr,<- qcw sz'',<- qcw sz,<- qv2 hc hu];unfold qfo
 generalize (qbh s).foldl (qcp cell') S0=S1
 have ne:∀ j,j≠[a,w]->qjv s' j=qjv s j:=λj hj=>by unfold qjv;rw[ez',qa4 _ _ hj]
 have at_:qjv s' [a,w]=[a,w] ++ i4 (qb5 (s.z [a,w]) (qf4 v m)):=by unfold qjv;rw[ez',qas];rfl
 have pr:∀ (X:Abs) (x:HP4),qbv cell' X ([a,w] ++ i4 x)=qdl cell' X a x:=λX x=>rfl
 by_cases c:[a,w]∈mz
 ·rw[hin c]
  obtain ⟨X,e1,e2⟩:=qm5 (qea cell') sz.nd c ne S1;rw[e1,e2,at_,pr]
  show _=qdl cell' (qbv cell' X ([a,w] ++ i4 ((s.z [a,w]).getD (0,0,0,0)))) a (qf4 v m)
  rw[pr]
  cases q:s.z [a,w] with
  | none=>exact absurd q ((sz.mem _).mp c)
  | some x=>rw[Option.getD_some,qyy];rfl
 ·rw[qc1 (qea cell') ((hout c).map _) S1,List.map_cons,qdv (qea cell'),at_,pr]
  have e:mz.map (qjv s')=mz.map (qjv s):=List.map_congr_left λj hj=>ne j λz=>c (by rw[<- z];exact hj)
  have en:s.z [a,w]=none:=by
   cases q:s.z [a,w] with
   | none=>rfl
   | some n=>exact absurd ((sz.mem _).mpr (by rw[q];simp)) c
  rw[e,en];rfl
theorem qv3 {S0:Abs} {cell cell':Int->Option (Int×Int)} (co:qm6 cell cell') {s:Abs} (kf:KF s) (r:Rd3) :
  qfo cell' S0 (qbh (qcg cell s r)) (qbc (qcg cell s r))=qcg cell' (qfo cell' S0 (qbh s) (qbc s)) r/\KF (qcg cell s r):=by
 obtain ⟨my,sy,hy⟩:=kf.y;obtain ⟨mz,sz,hz⟩:=kf.z;obtain ⟨t,v,m⟩:=r
 rcases e:cell t with _|⟨a,w⟩
 ·have e1:qcg cell s (t,v,m)=s:=by unfold qcg;dsimp only;rw[e]
  have e2:∀ X,qcg cell' X (t,v,m)=X:=λX=>by unfold qcg;dsimp only;rw[co.n t e]
  rw[e1,e2];exact ⟨rfl,kf⟩
 ·by_cases hw:w=0
  ·have e1:qcg cell s (t,v,m)={ s with y:=qdo s.y [t,v] ((s.y [t,v]).getD 0+m) }:=by unfold qcg;dsimp only;rw[e];dsimp only;rw[if_pos hw]
   rw[e1];refine ⟨qrd sy hy sz t v m,?_,⟨mz,sz,hz⟩⟩;obtain ⟨my',sy',h',_⟩:=qfp sy hy (k:=[t,v]) rfl ((s.y [t,v]).getD 0+m);exact ⟨my',sy',h'⟩
  ·have e1:qcg cell s (t,v,m)={ s with z:=qdo s.z [a,w] (qb5 (s.z [a,w]) (qf4 v m)) }:=by unfold qcg;dsimp only;rw[e];dsimp only;rw[if_neg hw]
   rw[e1];obtain ⟨c1,c2⟩:=co.h t a w e hw;refine ⟨take_heap sy sz hz c1 c2 w v m,⟨my,sy,hy⟩,?_⟩;obtain ⟨mz',sz',h',_⟩:=qfp sz hz (k:=[a,w]) rfl (qb5 (s.z [a,w]) (qf4 v m));exact ⟨mz',sz',h'⟩
theorem kf0:KF qq7:=⟨⟨[],⟨.nil,λk=>⟨(λh=>by cases h),λh=>absurd rfl h⟩⟩,(λk h=>by cases h)⟩,⟨[],⟨.nil,λk=>⟨(λh=>by cases h),λh=>absurd rfl h⟩⟩,(λk h=>by cases h)⟩⟩
theorem qm7 {S0:Abs} {cell cell':Int->Option (Int×Int)} (co:qm6 cell cell'):∀ (rs:List Rd3) {s s':Abs},KF s->qfo cell' S0 (qbh s) (qbc s)=s'->qfo cell' S0 (qbh (rs.foldl (qcg cell) s)) (qbc (rs.foldl (qcg cell) s))=rs.foldl (qcg cell') s'
 | [],_,_,_,e=>e
 | r :: t,s,s',kf,e=>by
  obtain ⟨h1,h2⟩:=qv3 co kf r;exact qm7 co t h2 (by rw[h1,e])
theorem qyz {cell cell':Int->Option (Int×Int)} (co:qm6 cell cell') (rs:List Rd3) (S0:Abs):qfo cell' S0 (qbh (qcu cell rs)) (qbc (qcu cell rs))=rs.foldl (qcg cell') S0:=by
 refine qm7 co rs kf0 ?_;have hy:qbh qq7=[]:=(qcv (ms:=[]) ⟨.nil,λk=>⟨(λh=>by cases h),λh=>absurd rfl h⟩⟩).symm;have hz:qbc qq7=[]:=(qcw (ms:=[]) ⟨.nil,λk=>⟨(λh=>by cases h),λh=>absurd rfl h⟩⟩).symm;rw[hy,hz];rfl
theorem qy0 {cell cell':Int->Option (Int×Int)} (co:qm6 cell cell') (rs:List Rd3):qfo cell' qq7 (qbh (qcu cell rs)) (qbc (qcu cell rs))=qcu cell' rs:=qyz co rs qq7
theorem qt7 {ws es es':List Int} {ge ge':Option Int} (F:Fall ws es ge) (F':Fall ws es' ge') (L:Later es es' ge ge') (hl:1<=es.length):qm6 (qbu ws es ge) (qbu ws es' ge'):=by
 have hl':1<=es'.length:=by rw[L.len];exact hl
 have hw:1<=ws.length:=by rw[F.len];exact hl
 have h0:es[0]?=some es[0]:=List.getElem?_eq_getElem (by omega);have h0':es'[0]?=some es'[0]:=List.getElem?_eq_getElem (by omega);have up:=L.up 0 _ _ h0 h0';refine ⟨λt e=>?_,λt a w e hw0=>?_⟩
 ·have C:=qdu (ge:=ge) hw hl t
  have C':=qdu (ge:=ge') hw hl' t;rw[e] at C
  by_cases c:es[0]<=t
  ·cases (C es[0] h0).1 c
  ·by_cases hg:qcc ge t
   ·exact qq9 L h0 h0' (by omega) hg C'
   ·obtain ⟨w,_,e2⟩:=((C es[0] h0).2 (by omega)).2 hg
    cases e2
 ·have C:=qdu (ge:=ge) hw hl t
  rw[e] at C;have hlt:t<es[0]:=by
   by_cases c:es[0]<=t
   ·have:=(C es[0] h0).1 c
    cases this;exact absurd rfl hw0
   ·omega
  obtain ⟨i,w',e',S⟩:=qiz F.len h0 hlt;have hg:¬ qcc ge t:=λg=>by cases ((C es[0] h0).2 hlt).1 g
  have:=C.uniq h0 (qi1 F h0 S hg);cases this;have hw1:=F.pos i w S.gw;have fl:=qq8 t hw1;obtain ⟨o,ho,_⟩:=qra F F' L h0' S;have a1:=ho t fl.1 fl.2 _ (qdu hw hl' t);have a2:=ho (t / w*w) (Int.le_refl _) (by omega) _ (qdu hw hl' (t / w*w));refine ⟨a1.trans a2.symm,λb u eb hu=>?_⟩;have C2:=qdu (ge:=ge') hw hl' (t / w*w);rw[eb] at C2;have lt2:t / w*w<es'[0]:=by omega
  obtain ⟨j,w2,e2,S2⟩:=qiz F'.len h0' lt2;have hg2:¬ qcc ge' (t / w*w):=λg=>by cases ((C2 es'[0] h0').2 lt2).1 g
  have:=C2.uniq h0' (qi1 F' h0' S2 hg2);cases this;have:=F'.pos j _ S2.gw;omega
end TB
local macro_rules | `(tactic| walk_at "same") => `(tactic| first | exact L2.Same.refl _ | assumption | exact L2.New.same (by assumption) | (refine L2.qya ?_ (by assumption); walk_at "same") | (refine L2.Same.trans ?_ (by assumption); walk_at "same"))
local macro_rules | `(tactic| walk_at "fact") => `(tactic| first | assumption | exact L2.New.at_ (by assumption) | (refine L2.qAh (by assumption) ?_; walk_at "fact") | (refine L2.qx9 (by assumption) ?_; walk_at "fact"))
local macro_rules | `(tactic| walk_at "sq") => `(tactic| first | assumption | exact L2.SqL.of (by walk_at "fact") | exact L2.SqT.of (by walk_at "fact") | exact Or.inl (L2.SqL.of (by walk_at "fact")) | exact Or.inr (L2.SqT.of (by walk_at "fact")) | exact Or.inl (by assumption) | walk_at "fact")
local macro_rules | `(tactic| walk_at "c") => `(tactic| first
 | ((with_reducible show _<=PySem.sizeLine);first|exact Nat.le_of_lt (L2.qah (Nat.le_of_ble_eq_true rfl))|exact Nat.le_of_lt (L2.qah (by omega))|exact Nat.le_of_lt (L2.qah (by simp only[List.length_map,List.length_append,List.length_cons,List.length_nil];omega)))
 | ((with_reducible show _<PySem.sizeLine);first|exact L2.qah (by omega)|exact L2.qah (by simp only[List.length_map,List.length_append,List.length_cons,List.length_nil];omega))
 | decide|omega|(dsimp only;first|decide|omega)|(simp only[List.length_map,List.length_append,List.length_cons,List.length_nil];omega)
 | ((with_reducible refine And.intro ?_ ?_)<;>walk_at "c")
 | (refine And.intro ?_ ?_<;>walk_at "c")|(refine Or.inl ?_;walk_at "c")|(refine Or.inr ?_;walk_at "c"))
local macro_rules | `(tactic| walk_at "at") => `(tactic| first | rfl | assumption | exact L2.qd5 (by assumption) | exact TB.qes (by assumption))
local macro_rules | `(tactic| walk_at "ty") => `(tactic| first | exact L2.TyOf.int _ | exact L2.TyOf.bl _ | exact L2.TyOf.non | exact L2.TyOf.str _ | exact L2.TyOf.lst (by walk_at "fact") | exact L2.TyOf.tup (by walk_at "fact"))
local macro_rules | `(tactic| walk_at "kit") => `(tactic| first | exact L2.qic _ | exact L2.qgm _ | exact L2.qep _ | exact L2.kit_tuple _ | rfl)
local macro_rules | `(tactic| walk_at "r1") => `(tactic| first
 | refine L2.tVarS.mk _ rfl ?_
 | refine L2.rI0S.mk _ _ rfl rfl ?_
 | refine L2.rIxLS.mk _ _ _ _ rfl rfl (by walk_at "sq") (by walk_at "at") ?_
 | refine L2.rIxTS.mk _ _ _ _ rfl rfl (by walk_at "sq") (by walk_at "at") ?_
 | refine L2.rIS.mk _ _ rfl rfl (by walk_at "c") ?_
 | refine L2.tBS.mk _ rfl ?_
 | refine L2.tAndVS.mk _ rfl ?_
 | refine L2.tOrVS.mk _ rfl ?_
 | refine L2.tNotVS.mk _ rfl ?_
 | refine L2.rUS.mk _ rfl ?_
 | refine L2.tPartS.mk _ rfl ?_
 | refine L2.rSlLNS.mk _ _ rfl (by walk_at "sq") ?_
 | refine L2.rAppendNS.mk _ _ _ rfl rfl (by walk_at "fact") (by walk_at "c") ?_
 | refine Exists.intro _ (And.intro rfl ?_)
 | refine Exists.intro _ (Exists.intro _ (And.intro rfl (And.intro rfl ?_)))
 | refine And.intro rfl ?_
 | refine Exists.intro _ (Exists.intro _ (And.intro rfl (And.intro (by walk_at "sq") ?_)))
 | refine Exists.intro _ (Exists.intro _ (Exists.intro _ (Exists.intro _ (And.intro rfl (And.intro rfl (And.intro (by walk_at "sq") (And.intro (by walk_at "at") ?_)))))))
 | refine And.intro (Or.inl ⟨rfl,_,L2.SqL.of (by walk_at "fact")⟩) ?_
 | refine Exists.intro _ (Exists.intro _ (Exists.intro _ (And.intro rfl (And.intro rfl (And.intro (by walk_at "fact") (And.intro (by walk_at "c") ?_))))))
 | refine Exists.intro _ (Exists.intro _ (Exists.intro _ (Exists.intro _ (And.intro rfl (And.intro (by walk_at "ty") (And.intro (by walk_at "kit") ?_))))))
 | refine Exists.intro _ (Exists.intro _ (And.intro rfl ?_))
 | refine And.intro (by walk_at "c") ?_
 | refine L2.qd2 ?_
 | refine L2.qgl ?_)
local macro_rules | `(tactic| walk_at "n") => `(tactic| simp only [L2.tNil, List.cons_append, List.nil_append, List.append_nil])
local macro_rules | `(tactic| walk_at "r") => `(tactic| (walk_at "r1"; repeat walk_at "r1"))
namespace TB
open PySem L2
abbrev FG (K:Frag) (mg:Str->Option Value) (n:Str) (s:Stmt):Prop:=∃ f fd,Fun K n n s f fd/\mg n=some (.ref f)
abbrev FGd (K:Frag) (mg:Str->Option Value) (n:Str) (s:Stmt) (vs:Array Value):Prop:=∃ f fd dT o m,FunD K n n s (.ref dT) f fd/\mg n=some (.ref f)/\fd.defaults=.ref dT/\K.lookup dT=some o/\o.data=.seq vs m
abbrev FM (K:Frag) (C:Addr) (n q:Str) (s:Stmt):Prop:=∃ f fd,Fun K n q s f fd/\qeo K C n f
abbrev FMd (K:Frag) (C:Addr) (n q:Str) (s:Stmt) (i:Int):Prop:=∃ f fd dT o m t,FunD K n q s (.ref dT) f fd/\qeo K C n f/\fd.defaults=.ref dT/\K.lookup dT=some o/\o.data=.seq #[.int i t] m
abbrev FI (K:Frag) (C:Addr) (q:Str) (s:Stmt):Prop:=∃ f fd,Fun K "__init__" q s f fd/\Mk K C f
abbrev FId (K:Frag) (C:Addr) (q:Str) (s:Stmt) (vs:Array Value):Prop:=∃ f fd dT o m,FunD K "__init__" q s (.ref dT) f fd/\Mk K C f/\fd.defaults=.ref dT/\K.lookup dT=some o/\o.data=.seq vs m
section
variable {K:Frag} {h:Heap} {mg:Str->Option Value} {n q:Str} {s:Stmt} {f dT C:Addr} {od an dd:Option Addr} {sl ds:Array (Option Value)} {oc kV dc pm cd ct dk:Value} {dn:Nat} {dt:Tok} {v:Int} {vs:Array Value}
theorem fnG (X:K.In h) (G:h.Ns mainGlobals mg) (a:nsIn K mainGlobals n=some (some (.ref f))) (l:K.lookup f=some ⟨oc,od,.func (fnOf n n (qb9 s) (qbj s) (qab s) .none kV dc pm an cd ct),sl⟩) (c:codeIn K cd n=true) (k:keepIn K (.ref f)=true):FG K mg n s:=⟨f,_,qme l c k,mg_of X G a⟩
theorem qEr (X:K.In h) (G:h.Ns mainGlobals mg) (a:nsIn K mainGlobals n=some (some (.ref f))) (l:K.lookup f=some ⟨oc,od,.func (fnOf n n (qb9 s) (qbj s) (qab s) (.ref dT) kV dc pm an cd ct),sl⟩) (c:codeIn K cd n=true) (k:keepIn K (.ref f)=true) (d:K.lookup dT=some ⟨dk,dd,.seq vs dn,ds⟩):FGd K mg n s vs:=⟨f,_,dT,_,_,⟨⟨_,_,_,_,_,_,_,_,_,rfl,l,c⟩,k⟩,mg_of X G a,rfl,d,rfl⟩
theorem fnM (a:PySem.W.findIn K (.ref C) n=some (some (.ref f))) (i:PySem.W.isFn K (.ref f)=true) (l:K.lookup f=some ⟨oc,od,.func (fnOf n q (qb9 s) (qbj s) (qab s) .none kV dc pm an cd ct),sl⟩) (c:codeIn K cd q=true) (k:keepIn K (.ref f)=true):FM K C n q s:=⟨f,_,qme l c k,⟨a,i,k⟩⟩
theorem qDv {Q:Addr->Prop} (a:PySem.W.findIn K (.ref C) n=some (some (.ref f))) (i:PySem.W.isFn K (.ref f)=true) (l:K.lookup f=some ⟨oc,od,.func (fnOf n q (qb9 s) (qbj s) (qab s) .none kV dc pm an cd ct),sl⟩) (c:codeIn K cd q=true) (k:keepIn K (.ref f)=true) (z:Q f):∃ f fd,Fun K n q s f fd/\qeo K C n f/\Q f:=⟨f,_,qme l c k,⟨a,i,k⟩,z⟩
theorem qEs (a:PySem.W.findIn K (.ref C) n=some (some (.ref f))) (i:PySem.W.isFn K (.ref f)=true) (l:K.lookup f=some ⟨oc,od,.func (fnOf n q (qb9 s) (qbj s) (qab s) (.ref dT) kV dc pm an cd ct),sl⟩) (c:codeIn K cd q=true) (k:keepIn K (.ref f)=true) (d:K.lookup dT=some ⟨dk,dd,.seq #[.int v dt] dn,ds⟩):FMd K C n q s v:=⟨f,_,dT,_,_,dt,⟨⟨_,_,_,_,_,_,_,_,_,rfl,l,c⟩,k⟩,⟨a,i,k⟩,rfl,d,rfl⟩
theorem fnI (m:PySem.W.makesIn K C=true) (kc:keepIn K (.ref C)=true) (a:PySem.W.findIn K (.ref C) "__init__" = some (some (.ref f))) (i:PySem.W.isFn K (.ref f)=true) (l:K.lookup f=some ⟨oc,od,.func (fnOf "__init__" q (qb9 s) (qbj s) (qab s) .none kV dc pm an cd ct),sl⟩) (c:codeIn K cd q=true) (k:keepIn K (.ref f)=true):FI K C q s:=⟨f,_,qme l c k,⟨m,a,i,kc⟩⟩
theorem qEt (m:PySem.W.makesIn K C=true) (kc:keepIn K (.ref C)=true) (a:PySem.W.findIn K (.ref C) "__init__" = some (some (.ref f))) (i:PySem.W.isFn K (.ref f)=true) (l:K.lookup f=some ⟨oc,od,.func (fnOf "__init__" q (qb9 s) (qbj s) (qab s) (.ref dT) kV dc pm an cd ct),sl⟩) (c:codeIn K cd q=true) (k:keepIn K (.ref f)=true) (d:K.lookup dT=some ⟨dk,dd,.seq vs dn,ds⟩):FId K C q s vs:=⟨f,_,dT,_,_,⟨⟨_,_,_,_,_,_,_,_,_,rfl,l,c⟩,k⟩,⟨m,a,i,kc⟩,rfl,d,rfl⟩
theorem fnX {fl:Str} (xi:qpf K C f=true) (xK:qqw K C) (xh:PySem.W.hasDictIn K C=true) (xs:PySem.W.findIn K (.ref C) "__setattr__" = some (some (.builtin "object.__setattr__"))) (xn:PySem.W.findIn K (.ref C) fl=some none) (a:PySem.W.findIn K (.ref C) "__init__" = some (some (.ref f))) (i:PySem.W.isFn K (.ref f)=true) (l:K.lookup f=some ⟨oc,od,.func (fnOf "__init__" q (qb9 s) (qbj s) (qab s) .none kV dc pm an cd ct),sl⟩) (c:codeIn K cd q=true) (k:keepIn K (.ref f)=true):∃ f fd,Fun K "__init__" q s f fd/\qAo K C f fl:=⟨f,_,qme l c k,⟨xi,i,xK,xh,xs,xn⟩⟩
theorem naI (h:PySem.W.findIn K (.ref C) n=some none):NoAttr K C n:=h
theorem exI (h:PySem.W.excIn K C veMro "ValueError.__new__" = true):qx7 K C:=h
theorem cI (X:K.In h) (G:h.Ns mainGlobals mg) (a:nsIn K mainGlobals n=some (some (.int v dt))):∃ t,mg n=some (.int v t):=⟨_,mg_of X G a⟩
end
theorem scp {N P:List Str} {sc:Scope} (h1:sc.kind=.function:=by rfl) (h2:sc.isCoroutine=false:=by rfl) (h3:sc.isGenerator=false:=by rfl) (h4:N.Nodup:=by decide +kernel) (h5:N.take P.length=P:=by rfl) (h6:∀ x∈P,sc.names.lookup x=some .local\/sc.names.lookup x=some .cell:=by decide +kernel) (h7:∀ y∈sc.names,y.2≠.free:=by decide +kernel):qad N P sc:=⟨h1,h2,h3,h4,h5,h6,h7⟩
def top (i:Nat):Stmt:=PySem.Challenge.pw_thinbook_k52_what_cannot_be_shown.main.body.getD i (.Pass ⟨0,0,0,0⟩)
abbrev qkk:Stmt:=(top 9)
abbrev qm8:Stmt:=(top 10)
abbrev qc8:Stmt:=(top 11)
abbrev qeu:Stmt:=(top 12)
abbrev qkl:Stmt:=(top 14)
abbrev qkm:Stmt:=(top 15)
abbrev qev:Stmt:=(top 16)
abbrev qm9:Stmt:=(top 17)
abbrev qna:Stmt:=(top 18)
abbrev qkn:Stmt:=(top 19)
abbrev qnb:Stmt:=(top 20)
abbrev qnc:Stmt:=(top 22)
abbrev qpz:Stmt:=(top 23)
abbrev qp0:Stmt:=(top 25)
abbrev qnd:Stmt:=(top 27)
abbrev qko:Stmt:=(top 28)
abbrev qew:Stmt:=(top 29)
abbrev qdm:Stmt:=(top 30)
abbrev qfq:Stmt:=(top 31)
abbrev qi4:Stmt:=(top 32)
abbrev qkp:Stmt:=(top 33)
abbrev qdy:Stmt:=(inClass (top 34) 0)
abbrev qeb:Stmt:=(inClass (top 34) 1)
abbrev qex:Stmt:=(inClass (top 35) 0)
abbrev qec:Stmt:=(inClass (top 35) 1)
abbrev qgt:Stmt:=(inClass (top 36) 0)
abbrev qfr:Stmt:=(inClass (top 36) 1)
abbrev qgu:Stmt:=(inClass (top 37) 0)
abbrev qfs:Stmt:=(inClass (top 37) 1)
abbrev qed:Stmt:=(inClass (top 38) 0)
abbrev qdz:Stmt:=(inClass (top 38) 1)
abbrev qi5:Stmt:=(inClass (top 39) 0)
abbrev qgv:Stmt:=(inClass (top 39) 1)
abbrev qne:Stmt:=(top 40)
abbrev qey:Stmt:=(top 42)
abbrev qp1:Stmt:=(top 43)
abbrev qft:Stmt:=(top 44)
abbrev qp2:Stmt:=(top 45)
abbrev qee:Stmt:=(top 46)
abbrev qef:Stmt:=(top 47)
abbrev qfu:Stmt:=(top 48)
abbrev qgw:Stmt:=(top 49)
abbrev qoq:Stmt:=(top 50)
abbrev qnf:Stmt:=(top 52)
abbrev qng:Stmt:=(top 53)
abbrev qfv:Stmt:=(top 54)
abbrev qfw:Stmt:=(top 55)
abbrev qc9:Stmt:=(top 56)
abbrev qda:Stmt:=(top 57)
abbrev qt8:Stmt:=(top 58)
abbrev qi6:Stmt:=(inClass (top 60) 0)
abbrev qge:Stmt:=(inClass (top 60) 1)
abbrev qch:Stmt:=(inClass (top 60) 2)
abbrev qd0:Stmt:=(inClass (top 60) 3)
abbrev qeg:Stmt:=(inClass (top 60) 4)
abbrev qi7:Stmt:=(inClass (top 60) 5)
abbrev qkq:Stmt:=(inClass (top 60) 6)
abbrev qgx:Stmt:=(inClass (top 60) 7)
abbrev qgy:Stmt:=(inClass (top 60) 8)
abbrev qgz:Stmt:=(inClass (top 60) 9)
abbrev qt9:Stmt:=(top 61)
abbrev qnh:Stmt:=(top 64)
abbrev qd1:Stmt:=(top 65)
abbrev qdn:Stmt:=(top 66)
abbrev qfx:Stmt:=(top 67)
abbrev qg0:Stmt:=(top 68)
abbrev qfa:Stmt:=(inClass (top 69) 0)
abbrev qg1:Stmt:=(inClass (top 69) 1)
abbrev qi8:Stmt:=(inClass (top 69) 2)
abbrev qi9:Stmt:=(top 70)
abbrev qua:Stmt:=(top 72)
abbrev qez:Stmt:=(top 74)
abbrev qfy:Stmt:=(top 75)
abbrev qkr:Stmt:=(top 76)
abbrev qja:Stmt:=(top 77)
abbrev qg2:Stmt:=(top 78)
abbrev qjb:Stmt:=(top 80)
abbrev qe0:Stmt:=(top 81)
abbrev qg3:Stmt:=(top 82)
abbrev qe1:Stmt:=(top 83)
abbrev qjc:Stmt:=(top 84)
abbrev qg4:Stmt:=(top 85)
abbrev qks:Stmt:=(top 86)
abbrev qkt:Stmt:=(top 87)
abbrev qjd:Stmt:=(top 88)
abbrev qg5:Stmt:=(top 89)
abbrev qy1:Stmt:=(top 90)
abbrev qje:Stmt:=(inClass (top 5) 0)
theorem sc_is_whole:qad ["thing"] ["thing"] (qab qkk):=scp
theorem sc_floored:qad ["number", "width"] ["number", "width"] (qab qm8):=scp
theorem sc_greatest_divisor:qad ["one", "other", "rest"] ["one", "other"] (qab qc8):=scp
theorem sc_lowest_terms:qad ["top", "bottom", "divisor"] ["top", "bottom"] (qab qeu):=scp
theorem sc_gone_cut:qad ["rule", "day", "gone"] ["rule", "day"] (qab qkl):=scp
theorem sc_edges_at:qad ["rule", "day", "cuts"] ["rule", "day"] (qab qkm):=scp
theorem sc_greater_edge:qad ["one", "other"] ["one", "other"] (qab qev):=scp
theorem sc_greater:qad ["one", "other"] ["one", "other"] (qab qm9):=scp
theorem sc_is_gone:qad ["edges", "time"] ["edges", "time"] (qab qna):=scp
theorem sc_width_at:qad ["rule", "edges", "time", "widths"] ["rule", "edges", "time"] (qab qkn):=scp
theorem sc_cell_at:qad ["rule", "edges", "time", "width"] ["rule", "edges", "time"] (qab qnb):=scp
theorem sc_heap_of:qad ["runs", "values", "how_many", "total"] ["runs"] (qab qnc):=scp
theorem sc_poured:qad ["one", "other"] ["one", "other"] (qab qpz):=scp
theorem sc_widest:qad ["heap", "many", "least", "greatest", "beyond", "tops", "lift"] ["heap"] (qab qp0):=scp
theorem sc_many_of:qad ["heaps"] ["heaps"] (qab qnd):=scp
theorem sc_total_of:qad ["heaps"] ["heaps"] (qab qko):=scp
theorem sc_least_of_all:qad ["heaps"] ["heaps"] (qab qew):=scp
theorem sc_greatest_of_all:qad ["heaps"] ["heaps"] (qab qdm):=scp
theorem sc_widest_runs:qad ["parts", "runs", "part"] ["parts"] (qab qfq):=scp
theorem sc_is_beyond:qad ["value", "many", "total", "high"] ["value", "many", "total", "high"] (qab qi4):=scp
theorem sc_mean_end:qad ["known", "runs", "high", "many", "total", "value", "times"] ["known", "runs", "high"] (qab qkp):=scp
theorem sc_Measure_chosen:qad ["self", "known", "parts", "high", "pair", "end"] ["self", "known", "parts", "high"] (qab qdy):=scp
theorem sc_Measure_taken:qad ["self", "part", "end", "high"] ["self", "part", "end", "high"] (qab qeb):=scp
theorem sc_HowMany_told:qad ["self", "known", "parts", "least"] ["self", "known", "parts"] (qab qex):=scp
theorem sc_HowMany_takes:qad ["self", "value", "end", "high"] ["self", "value", "end", "high"] (qab qec):=scp
theorem sc_Total_told:qad ["self", "known", "parts", "runs", "base", "below", "above"] ["self", "known", "parts"] (qab qgt):=scp
theorem sc_Total_takes:qad ["self", "value", "end", "high"] ["self", "value", "end", "high"] (qab qfr):=scp
theorem sc_Least_told:qad ["self", "known", "parts", "low", "high"] ["self", "known", "parts"] (qab qgu):=scp
theorem sc_Least_takes:qad ["self", "value", "end", "high"] ["self", "value", "end", "high"] (qab qfs):=scp
theorem sc_Greatest_told:qad ["self", "known", "parts", "low", "high"] ["self", "known", "parts"] (qab qed):=scp
theorem sc_Greatest_takes:qad ["self", "value", "end", "high"] ["self", "value", "end", "high"] (qab qdz):=scp
theorem sc_Mean_told:qad ["self", "known", "parts", "runs"] ["self", "known", "parts"] (qab qi5):=scp
theorem sc_Mean_takes:qad ["self", "value", "end", "high", "top", "bottom"] ["self", "value", "end", "high"] (qab qgv):=scp
theorem sc_measure:qad ["word"] ["word"] (qab qne):=scp
theorem sc_times_within:qad ["a", "b", "start", "width", "first", "end"] ["a", "b", "start", "width"] (qab qey):=scp
theorem sc_is_cut:qad ["a", "b", "start", "width", "within"] ["a", "b", "start", "width"] (qab qp1):=scp
theorem sc_check_begin:qad ["edge", "a"] ["edge", "a"] (qab qft):=scp
theorem sc_pieces:qad ["roll", "a", "b", "rows", "known", "time", "value", "many", "parts"] ["roll", "a", "b"] (qab qp2):=scp
theorem sc_greatest_gone:qad ["rolls", "edge", "roll"] ["rolls"] (qab qee):=scp
theorem sc_pieces_of_all:qad ["rolls", "a", "b"] ["rolls", "a", "b"] (qab qef):=scp
theorem sc_known_heaps:qad ["laid", "heaps", "known", "parts"] ["laid"] (qab qfu):=scp
theorem sc_part_heaps:qad ["laid", "heaps", "known", "parts"] ["laid"] (qab qgw):=scp
theorem sc_asked:qad ["word", "rolls", "a", "b", "ask", "laid"] ["word", "rolls", "a", "b"] (qab qoq):=scp
theorem sc_at_time:qad ["time", "runs"] ["time", "runs"] (qab qnf):=scp
theorem sc_left_of:qad ["runs", "taken", "less", "left"] ["runs", "taken"] (qab qng):=scp
theorem sc_time_within:qad ["part", "a"] ["part", "a"] (qab qfv):=scp
theorem sc_time_beyond:qad ["part", "a"] ["part", "a"] (qab qfw):=scp
theorem sc_readings_of_part:qad ["part", "taken", "a", "left"] ["part", "taken", "a"] (qab qc9):=scp
theorem sc_readings_of_roll:qad ["roll", "parts", "picked", "a", "readings", "cut", "part", "taken", "row"] ["roll", "parts", "picked", "a"] (qab qda):=scp
theorem sc_shown:qad ["word", "rolls", "a", "b", "high", "ask", "laid", "picked", "told", "place", "roll", "piece", "behind"] ["word", "rolls", "a", "b", "high"] (qab qt8):=scp
theorem sc_Roll_init:qad ["self", "rule", "day"] ["self", "rule", "day"] (qab qi6):=scp
theorem sc_Roll_put:qad ["self", "time", "value", "many", "cell"] ["self", "time", "value", "many"] (qab qge):=scp
theorem sc_Roll_pour_into_cell:qad ["self", "cell", "heap"] ["self", "cell", "heap"] (qab qch):=scp
theorem sc_Roll_take_heap:qad ["self", "start", "heap", "cell"] ["self", "start", "heap"] (qab qd0):=scp
theorem sc_Roll_take_all:qad ["self", "roll", "time", "value", "many", "row"] ["self", "roll"] (qab qeg):=scp
theorem sc_Roll_rule:qad ["self"] ["self"] (qab qi7):=scp
theorem sc_Roll_day:qad ["self"] ["self"] (qab qkq):=scp
theorem sc_Roll_edges:qad ["self"] ["self"] (qab qgx):=scp
theorem sc_Roll_young:qad ["self"] ["self"] (qab qgy):=scp
theorem sc_Roll_heaps:qad ["self"] ["self"] (qab qgz):=scp
theorem sc_begun:qad ["rule", "day", "edges", "roll"] ["rule", "day", "edges"] (qab qt9):=scp
theorem sc_is_step:qad ["thing"] ["thing"] (qab qnh):=scp
theorem sc_check_one_step:qad ["step"] ["step"] (qab qd1):=scp
theorem sc_check_next_step:qad ["step", "behind"] ["step", "behind"] (qab qdn):=scp
theorem sc_check_steps:qad ["steps", "step", "behind"] ["steps"] (qab qfx):=scp
theorem sc_check_gone:qad ["gone", "last_age"] ["gone", "last_age"] (qab qg0):=scp
theorem sc_Rule_init:qad ["self", "steps", "gone", "kept"] ["self", "steps", "gone"] (qab qfa):=scp
theorem sc_Rule_steps:qad ["self"] ["self"] (qab qg1):=scp
theorem sc_Rule_gone:qad ["self"] ["self"] (qab qi8):=scp
theorem sc_widths_of:qad ["rule"] ["rule"] (qab qi9):=scp
theorem sc_under:qad ["roll", "rule", "new"] ["roll", "rule"] (qab qua):=scp
theorem sc__law_cell_at:qad ["_law_script", "_law_k"] ["_law_script", "_law_k"] (qab qez):=scp
theorem sc__law_stream:qad ["_law_cell_here", "_law_many", "_law_found", "_law_number", "_law_k"] ["_law_cell_here", "_law_many"] (qab qfy):=scp
theorem sc__law_run:qad ["_law_cell_here", "_law_kind", "_law_xs", "_law_value"] ["_law_cell_here", "_law_kind"] (qab qkr):=scp
theorem sc__law_rule:qad ["_law_cell_here", "_law_xs", "_law_scale", "_law_age", "_law_width", "_law_steps", "_law_x"] ["_law_cell_here"] (qab qja):=scp
theorem sc__law_edges:qad ["_law_rule_here", "_law_day", "_law_edges_here"] ["_law_rule_here", "_law_day"] (qab qg2):=scp
theorem sc__law_time:qad ["_law_rule_here", "_law_day", "_law_x", "_law_edges_here", "_law_edge", "_law_wide", "_law_span"] ["_law_rule_here", "_law_day", "_law_x"] (qab qjb):=scp
theorem sc__law_reading:qad ["_law_rule_here", "_law_day", "_law_cell_here", "_law_kind", "_law_x"] ["_law_rule_here", "_law_day", "_law_cell_here", "_law_kind"] (qab qe0):=scp
theorem sc__law_other:qad ["_law_rule_here", "_law_cell_here", "_law_ages", "_law_steps"] ["_law_rule_here", "_law_cell_here"] (qab qg3):=scp
theorem sc__law_greater:qad ["_law_one", "_law_other_here", "_law_found", "_law_mine", "_law_yours"] ["_law_one", "_law_other_here"] (qab qe1):=scp
theorem sc__law_back:qad ["_law_rule_here", "_law_roll", "_law_edges_here", "_law_cell_here", "_law_other_here", "_law_found"] ["_law_rule_here", "_law_roll", "_law_edges_here", "_law_cell_here"] (qab qjc):=scp
theorem sc__law_rolls:qad ["_law_rule_here", "_law_script", "_law_rolls_here", "_law_edges_here", "_law_k", "_law_xs", "_law_day", "_law_roll", "_law_x", "_law_time_here", "_law_value", "_law_many", "_law_mine"] ["_law_rule_here", "_law_script"] (qab qg4):=scp
theorem sc__law_end:qad ["_law_rule_here", "_law_cell_here", "_law_x"] ["_law_rule_here", "_law_cell_here"] (qab qks):=scp
theorem sc__law_ask:qad ["_law_word", "_law_rolls_here", "_law_a", "_law_b", "_law_said", "_law_found", "e"] ["_law_word", "_law_rolls_here", "_law_a", "_law_b"] (qab qkt):=scp
theorem sc__law_show:qad ["_law_word", "_law_rolls_here", "_law_a", "_law_b", "_law_high", "_law_said", "_law_found", "e"] ["_law_word", "_law_rolls_here", "_law_a", "_law_b", "_law_high"] (qab qjd):=scp
theorem sc__law_alike:qad ["_law_found", "_law_due"] ["_law_found", "_law_due"] (qab qg5):=scp
theorem sc_law:qad ["_law_script", "_law_rule_here", "_law_rolls_here", "_law_top", "_law_cell_here", "_law_word", "_law_high", "_law_a", "_law_b", "_law_due", "_law_refused", "_law_found", "_law_said"] ["_law_script"] (qab qy1):=scp
theorem sc_Gone_init:qad ["self", "edge"] ["self", "edge"] (qab qje):=scp
structure Txt (K:Frag) (mg:Str->Option Value) (C_Measure C_HowMany C_Total C_Least C_Greatest C_Mean C_Roll C_Rule C_BookError C_NoNumber C_NoRule C_Gone C_NoAsk C_NoAnswer:Addr):Prop where
 f_is_whole:FG K mg "is_whole" qkk
 f_floored:FG K mg "floored" qm8
 f_greatest_divisor:FG K mg "greatest_divisor" qc8
 f_lowest_terms:FG K mg "lowest_terms" qeu
 f_gone_cut:FG K mg "gone_cut" qkl
 f_edges_at:FG K mg "edges_at" qkm
 f_greater_edge:FG K mg "greater_edge" qev
 f_greater:FG K mg "greater" qm9
 f_is_gone:FG K mg "is_gone" qna
 f_width_at:FG K mg "width_at" qkn
 f_cell_at:FG K mg "cell_at" qnb
 f_heap_of:FG K mg "heap_of" qnc
 f_poured:FG K mg "poured" qpz
 f_widest:FG K mg "widest" qp0
 f_many_of:FG K mg "many_of" qnd
 f_total_of:FG K mg "total_of" qko
 f_least_of_all:FG K mg "least_of_all" qew
 f_greatest_of_all:FG K mg "greatest_of_all" qdm
 f_widest_runs:FG K mg "widest_runs" qfq
 f_is_beyond:FG K mg "is_beyond" qi4
 f_mean_end:FG K mg "mean_end" qkp
 f_Measure_chosen:∃ f fd,Fun K "chosen" "Measure.chosen" qdy f fd/\qeo K C_Measure "chosen" f/\qeo K C_HowMany "chosen" f/\qeo K C_Total "chosen" f/\qeo K C_Least "chosen" f/\qeo K C_Greatest "chosen" f/\qeo K C_Mean "chosen" f
 f_Measure_taken:∃ f fd,Fun K "taken" "Measure.taken" qeb f fd/\qeo K C_Measure "taken" f/\qeo K C_HowMany "taken" f/\qeo K C_Total "taken" f/\qeo K C_Least "taken" f/\qeo K C_Greatest "taken" f/\qeo K C_Mean "taken" f
 f_HowMany_told:FM K C_HowMany "told" "HowMany.told" qex
 f_HowMany_takes:FM K C_HowMany "takes" "HowMany.takes" qec
 f_Total_told:FM K C_Total "told" "Total.told" qgt
 f_Total_takes:FM K C_Total "takes" "Total.takes" qfr
 f_Least_told:FM K C_Least "told" "Least.told" qgu
 f_Least_takes:FM K C_Least "takes" "Least.takes" qfs
 f_Greatest_told:FM K C_Greatest "told" "Greatest.told" qed
 f_Greatest_takes:FM K C_Greatest "takes" "Greatest.takes" qdz
 f_Mean_told:FM K C_Mean "told" "Mean.told" qi5
 f_Mean_takes:FM K C_Mean "takes" "Mean.takes" qgv
 f_measure:FG K mg "measure" qne
 f_times_within:FG K mg "times_within" qey
 f_is_cut:FG K mg "is_cut" qp1
 f_check_begin:FG K mg "check_begin" qft
 f_pieces:FG K mg "pieces" qp2
 f_greatest_gone:FG K mg "greatest_gone" qee
 f_pieces_of_all:FG K mg "pieces_of_all" qef
 f_known_heaps:FG K mg "known_heaps" qfu
 f_part_heaps:FG K mg "part_heaps" qgw
 f_asked:FGd K mg "asked" qoq #[.none,.none]
 f_at_time:FG K mg "at_time" qnf
 f_left_of:FG K mg "left_of" qng
 f_time_within:FG K mg "time_within" qfv
 f_time_beyond:FG K mg "time_beyond" qfw
 f_readings_of_part:FG K mg "readings_of_part" qc9
 f_readings_of_roll:FG K mg "readings_of_roll" qda
 f_shown:FG K mg "shown" qt8
 f_Roll_init:FI K C_Roll "Roll.__init__" qi6
 f_Roll_put:FMd K C_Roll "put" "Roll.put" qge 1
 f_Roll_pour_into_cell:FM K C_Roll "pour_into_cell" "Roll.pour_into_cell" qch
 f_Roll_take_heap:FM K C_Roll "take_heap" "Roll.take_heap" qd0
 f_Roll_take_all:FM K C_Roll "take_all" "Roll.take_all" qeg
 f_Roll_rule:FM K C_Roll "rule" "Roll.rule" qi7
 f_Roll_day:FM K C_Roll "day" "Roll.day" qkq
 f_Roll_edges:FM K C_Roll "edges" "Roll.edges" qgx
 f_Roll_young:FM K C_Roll "young" "Roll.young" qgy
 f_Roll_heaps:FM K C_Roll "heaps" "Roll.heaps" qgz
 f_begun:FG K mg "begun" qt9
 f_is_step:FG K mg "is_step" qnh
 f_check_one_step:FG K mg "check_one_step" qd1
 f_check_next_step:FG K mg "check_next_step" qdn
 f_check_steps:FG K mg "check_steps" qfx
 f_check_gone:FG K mg "check_gone" qg0
 f_Rule_init:FId K C_Rule "Rule.__init__" qfa #[.none]
 f_Rule_steps:FM K C_Rule "steps" "Rule.steps" qg1
 f_Rule_gone:FM K C_Rule "gone" "Rule.gone" qi8
 f_widths_of:FG K mg "widths_of" qi9
 f_under:FG K mg "under" qua
 f__law_cell_at:FG K mg "_law_cell_at" qez
 f__law_stream:FG K mg "_law_stream" qfy
 f__law_run:FG K mg "_law_run" qkr
 f__law_rule:FG K mg "_law_rule" qja
 f__law_edges:FG K mg "_law_edges" qg2
 f__law_time:FG K mg "_law_time" qjb
 f__law_reading:FG K mg "_law_reading" qe0
 f__law_other:FG K mg "_law_other" qg3
 f__law_greater:FG K mg "_law_greater" qe1
 f__law_back:FG K mg "_law_back" qjc
 f__law_rolls:FG K mg "_law_rolls" qg4
 f__law_end:FG K mg "_law_end" qks
 f__law_ask:FG K mg "_law_ask" qkt
 f__law_show:FG K mg "_law_show" qjd
 f__law_alike:FG K mg "_law_alike" qg5
 f_law:FG K mg "law" qy1
 f_Gone_init:∃ f fd,Fun K "__init__" "Gone.__init__" qje f fd/\qAo K C_Gone f "edge"
 cl_Measure:Cls K C_Measure
 mg_Measure:mg "Measure" = some (.ref C_Measure)
 mk_Measure:Mk0 K C_Measure
 cl_HowMany:Cls K C_HowMany
 mg_HowMany:mg "HowMany" = some (.ref C_HowMany)
 mk_HowMany:Mk0 K C_HowMany
 cl_Total:Cls K C_Total
 mg_Total:mg "Total" = some (.ref C_Total)
 mk_Total:Mk0 K C_Total
 cl_Least:Cls K C_Least
 mg_Least:mg "Least" = some (.ref C_Least)
 mk_Least:Mk0 K C_Least
 cl_Greatest:Cls K C_Greatest
 mg_Greatest:mg "Greatest" = some (.ref C_Greatest)
 mk_Greatest:Mk0 K C_Greatest
 cl_Mean:Cls K C_Mean
 mg_Mean:mg "Mean" = some (.ref C_Mean)
 mk_Mean:Mk0 K C_Mean
 cl_Roll:Cls K C_Roll
 mg_Roll:mg "Roll" = some (.ref C_Roll)
 na_Roll_kept_rule:NoAttr K C_Roll "kept_rule"
 na_Roll_kept_day:NoAttr K C_Roll "kept_day"
 na_Roll_kept_edges:NoAttr K C_Roll "kept_edges"
 na_Roll_whole_ones:NoAttr K C_Roll "whole_ones"
 na_Roll_cell_heaps:NoAttr K C_Roll "cell_heaps"
 cl_Rule:Cls K C_Rule
 mg_Rule:mg "Rule" = some (.ref C_Rule)
 na_Rule_kept_steps:NoAttr K C_Rule "kept_steps"
 na_Rule_gone_age:NoAttr K C_Rule "gone_age"
 mg_BookError:mg "BookError" = some (.ref C_BookError)
 mg_NoNumber:mg "NoNumber" = some (.ref C_NoNumber)
 mg_NoRule:mg "NoRule" = some (.ref C_NoRule)
 mg_Gone:mg "Gone" = some (.ref C_Gone)
 mg_NoAsk:mg "NoAsk" = some (.ref C_NoAsk)
 mg_NoAnswer:mg "NoAnswer" = some (.ref C_NoAnswer)
 ex_BookError:qx7 K C_BookError
 kx_BookError:qqw K C_BookError
 hit_BookError_BookError:PySem.W.mroIn K C_BookError (.ref C_BookError)=some true
 is_BookError_BookError:PySem.W.kitOne K (.ref C_BookError) (.ref C_BookError)=some true
 is_BookError_NoNumber:PySem.W.kitOne K (.ref C_BookError) (.ref C_NoNumber)=some false
 is_BookError_NoRule:PySem.W.kitOne K (.ref C_BookError) (.ref C_NoRule)=some false
 is_BookError_Gone:PySem.W.kitOne K (.ref C_BookError) (.ref C_Gone)=some false
 is_BookError_NoAsk:PySem.W.kitOne K (.ref C_BookError) (.ref C_NoAsk)=some false
 is_BookError_NoAnswer:PySem.W.kitOne K (.ref C_BookError) (.ref C_NoAnswer)=some false
 is_BookError_ValueError:PySem.W.kitOne K (.ref C_BookError) (.type "ValueError")=some true
 ex_NoNumber:qx7 K C_NoNumber
 kx_NoNumber:qqw K C_NoNumber
 hit_NoNumber_BookError:PySem.W.mroIn K C_NoNumber (.ref C_BookError)=some true
 is_NoNumber_BookError:PySem.W.kitOne K (.ref C_NoNumber) (.ref C_BookError)=some true
 hit_NoNumber_NoNumber:PySem.W.mroIn K C_NoNumber (.ref C_NoNumber)=some true
 is_NoNumber_NoNumber:PySem.W.kitOne K (.ref C_NoNumber) (.ref C_NoNumber)=some true
 is_NoNumber_NoRule:PySem.W.kitOne K (.ref C_NoNumber) (.ref C_NoRule)=some false
 is_NoNumber_Gone:PySem.W.kitOne K (.ref C_NoNumber) (.ref C_Gone)=some false
 is_NoNumber_NoAsk:PySem.W.kitOne K (.ref C_NoNumber) (.ref C_NoAsk)=some false
 is_NoNumber_NoAnswer:PySem.W.kitOne K (.ref C_NoNumber) (.ref C_NoAnswer)=some false
 is_NoNumber_ValueError:PySem.W.kitOne K (.ref C_NoNumber) (.type "ValueError")=some true
 ex_NoRule:qx7 K C_NoRule
 kx_NoRule:qqw K C_NoRule
 hit_NoRule_BookError:PySem.W.mroIn K C_NoRule (.ref C_BookError)=some true
 is_NoRule_BookError:PySem.W.kitOne K (.ref C_NoRule) (.ref C_BookError)=some true
 is_NoRule_NoNumber:PySem.W.kitOne K (.ref C_NoRule) (.ref C_NoNumber)=some false
 hit_NoRule_NoRule:PySem.W.mroIn K C_NoRule (.ref C_NoRule)=some true
 is_NoRule_NoRule:PySem.W.kitOne K (.ref C_NoRule) (.ref C_NoRule)=some true
 is_NoRule_Gone:PySem.W.kitOne K (.ref C_NoRule) (.ref C_Gone)=some false
 is_NoRule_NoAsk:PySem.W.kitOne K (.ref C_NoRule) (.ref C_NoAsk)=some false
 is_NoRule_NoAnswer:PySem.W.kitOne K (.ref C_NoRule) (.ref C_NoAnswer)=some false
 is_NoRule_ValueError:PySem.W.kitOne K (.ref C_NoRule) (.type "ValueError")=some true
 kx_Gone:qqw K C_Gone
 hit_Gone_BookError:PySem.W.mroIn K C_Gone (.ref C_BookError)=some true
 is_Gone_BookError:PySem.W.kitOne K (.ref C_Gone) (.ref C_BookError)=some true
 is_Gone_NoNumber:PySem.W.kitOne K (.ref C_Gone) (.ref C_NoNumber)=some false
 is_Gone_NoRule:PySem.W.kitOne K (.ref C_Gone) (.ref C_NoRule)=some false
 hit_Gone_Gone:PySem.W.mroIn K C_Gone (.ref C_Gone)=some true
 is_Gone_Gone:PySem.W.kitOne K (.ref C_Gone) (.ref C_Gone)=some true
 is_Gone_NoAsk:PySem.W.kitOne K (.ref C_Gone) (.ref C_NoAsk)=some false
 is_Gone_NoAnswer:PySem.W.kitOne K (.ref C_Gone) (.ref C_NoAnswer)=some false
 is_Gone_ValueError:PySem.W.kitOne K (.ref C_Gone) (.type "ValueError")=some true
 ex_NoAsk:qx7 K C_NoAsk
 kx_NoAsk:qqw K C_NoAsk
 hit_NoAsk_BookError:PySem.W.mroIn K C_NoAsk (.ref C_BookError)=some true
 is_NoAsk_BookError:PySem.W.kitOne K (.ref C_NoAsk) (.ref C_BookError)=some true
 is_NoAsk_NoNumber:PySem.W.kitOne K (.ref C_NoAsk) (.ref C_NoNumber)=some false
 is_NoAsk_NoRule:PySem.W.kitOne K (.ref C_NoAsk) (.ref C_NoRule)=some false
 is_NoAsk_Gone:PySem.W.kitOne K (.ref C_NoAsk) (.ref C_Gone)=some false
 hit_NoAsk_NoAsk:PySem.W.mroIn K C_NoAsk (.ref C_NoAsk)=some true
 is_NoAsk_NoAsk:PySem.W.kitOne K (.ref C_NoAsk) (.ref C_NoAsk)=some true
 is_NoAsk_NoAnswer:PySem.W.kitOne K (.ref C_NoAsk) (.ref C_NoAnswer)=some false
 is_NoAsk_ValueError:PySem.W.kitOne K (.ref C_NoAsk) (.type "ValueError")=some true
 ex_NoAnswer:qx7 K C_NoAnswer
 kx_NoAnswer:qqw K C_NoAnswer
 hit_NoAnswer_BookError:PySem.W.mroIn K C_NoAnswer (.ref C_BookError)=some true
 is_NoAnswer_BookError:PySem.W.kitOne K (.ref C_NoAnswer) (.ref C_BookError)=some true
 is_NoAnswer_NoNumber:PySem.W.kitOne K (.ref C_NoAnswer) (.ref C_NoNumber)=some false
 is_NoAnswer_NoRule:PySem.W.kitOne K (.ref C_NoAnswer) (.ref C_NoRule)=some false
 is_NoAnswer_Gone:PySem.W.kitOne K (.ref C_NoAnswer) (.ref C_Gone)=some false
 is_NoAnswer_NoAsk:PySem.W.kitOne K (.ref C_NoAnswer) (.ref C_NoAsk)=some false
 hit_NoAnswer_NoAnswer:PySem.W.mroIn K C_NoAnswer (.ref C_NoAnswer)=some true
 is_NoAnswer_NoAnswer:PySem.W.kitOne K (.ref C_NoAnswer) (.ref C_NoAnswer)=some true
 is_NoAnswer_ValueError:PySem.W.kitOne K (.ref C_NoAnswer) (.type "ValueError")=some true
 bi_BookError:qAq K C_BookError
 b_abs:mg "abs" = none
 b_bool:mg "bool" = none
 b_dict:mg "dict" = none
 b_int:mg "int" = none
 b_isinstance:mg "isinstance" = none
 b_len:mg "len" = none
 b_list:mg "list" = none
 b_max:mg "max" = none
 b_min:mg "min" = none
 b_range:mg "range" = none
 b_reversed:mg "reversed" = none
 b_sorted:mg "sorted" = none
 b_sum:mg "sum" = none
 b_tuple:mg "tuple" = none
 b_zip:mg "zip" = none
 c_MOST_STEPS:∃ t,mg "MOST_STEPS" = some (.int 5 t)
theorem qBl {K:Frag} {mg:Str->Option Value} {C_Measure C_HowMany C_Total C_Least C_Greatest C_Mean C_Roll C_Rule C_BookError C_NoNumber C_NoRule C_Gone C_NoAsk C_NoAnswer:Addr} (_:nsIn K mainGlobals "Measure" = some (some (.ref C_Measure))) (_:nsIn K mainGlobals "HowMany" = some (some (.ref C_HowMany))) (_:nsIn K mainGlobals "Total" = some (some (.ref C_Total))) (_:nsIn K mainGlobals "Least" = some (some (.ref C_Least))) (_:nsIn K mainGlobals "Greatest" = some (some (.ref C_Greatest))) (_:nsIn K mainGlobals "Mean" = some (some (.ref C_Mean))) (_:nsIn K mainGlobals "Roll" = some (some (.ref C_Roll))) (_:nsIn K mainGlobals "Rule" = some (some (.ref C_Rule))) (_:nsIn K mainGlobals "BookError" = some (some (.ref C_BookError))) (_:nsIn K mainGlobals "NoNumber" = some (some (.ref C_NoNumber))) (_:nsIn K mainGlobals "NoRule" = some (some (.ref C_NoRule))) (_:nsIn K mainGlobals "Gone" = some (some (.ref C_Gone))) (_:nsIn K mainGlobals "NoAsk" = some (some (.ref C_NoAsk))) (_:nsIn K mainGlobals "NoAnswer" = some (some (.ref C_NoAnswer))) (T:Txt K mg C_Measure C_HowMany C_Total C_Least C_Greatest C_Mean C_Roll C_Rule C_BookError C_NoNumber C_NoRule C_Gone C_NoAsk C_NoAnswer):∃ C_Measure C_HowMany C_Total C_Least C_Greatest C_Mean C_Roll C_Rule C_BookError C_NoNumber C_NoRule C_Gone C_NoAsk C_NoAnswer,Txt K mg C_Measure C_HowMany C_Total C_Least C_Greatest C_Mean C_Roll C_Rule C_BookError C_NoNumber C_NoRule C_Gone C_NoAsk C_NoAnswer:=⟨C_Measure,C_HowMany,C_Total,C_Least,C_Greatest,C_Mean,C_Roll,C_Rule,C_BookError,C_NoNumber,C_NoRule,C_Gone,C_NoAsk,C_NoAnswer,T⟩
section
variable {P:Program} {w:World} {K:Frag} {mg:Str->Option Value} {base:Heap} {C_Measure C_HowMany C_Total C_Least C_Greatest C_Mean C_Roll C_Rule C_BookError C_NoNumber C_NoRule C_Gone C_NoAsk C_NoAnswer:Addr} (T:Txt K mg C_Measure C_HowMany C_Total C_Least C_Greatest C_Mean C_Roll C_Rule C_BookError C_NoNumber C_NoRule C_Gone C_NoAsk C_NoAnswer)
include T in
theorem qgf:qaw P w K mg base 1 "is_whole" ["thing"] qok:=by
 obtain ⟨f,fd,F,hm⟩:=T.f_is_whole;have nd:=sc_is_whole.nd;refine F.def_ hm (F.ok sc_is_whole (λvs H Q E h=>?_) (λcdv A outer s H vs Q E hr h=>?_)) (F.binds λ_ _ _ _ _ _ us hl=>by obtain ⟨_,rfl⟩:=L2.lq1 hl;rfl)
 ·obtain ⟨x,rfl,_⟩:=h;rfl
 ·obtain ⟨x,rfl,i,rfl,q⟩:=h
  refine ⟨_,(qac (qaf (qdx (qag qfe rfl T.b_isinstance qar (jA2 (pv 0) (qhy (v:=.ty "int") rfl T.b_int qws rfl))) (qh0 (qrr (qag qfe rfl T.b_isinstance qar (jA2 (pv 0) (qhy (v:=.ty "bool") rfl T.b_bool qx4 rfl)))))))),?_⟩;refine ⟨_,rfl,_,_,_,true,rfl,.int i,qic _,_,rfl,qd2 ?_⟩;exact ⟨_,rfl,_,_,_,false,rfl,.int i,qgm _,_,rfl,q⟩
include T in
theorem qub:qaw P w K mg base 2 "is_step" ["thing"] qq2:=by
 obtain ⟨f,fd,F,hm⟩:=T.f_is_step;have nd:=sc_is_step.nd;refine F.def_ hm (F.ok sc_is_step (λvs H Q E h=>?_) (λcdv A outer s H vs Q E hr h=>?_)) (F.binds λ_ _ _ _ _ _ us hl=>by obtain ⟨_,rfl⟩:=L2.lq1 hl;rfl)
 ·obtain ⟨x,p,rfl,_⟩:=h;rfl
 ·obtain ⟨x,p,rfl,⟨a,rfl,ha⟩,q⟩:=h
  refine ⟨_,(qac (qaf (qdx (qag qfe rfl T.b_isinstance qar (jA2 (pv 0) (qhy (v:=.ty "tuple") rfl T.b_tuple qvd rfl))) (qdx (jD qb0 (qag qal rfl T.b_len qbn (jA1 (pv 0))) qaa) (qdx (jF (qgf T) hr (jA1 (jT (pv 0) qaa))) (qh0 (jF (qgf T) hr (jA1 (jT (pv 0) qaa))))))))),?_⟩;refine ⟨_,rfl,_,_,_,true,rfl,.tup ha,kit_tuple _,_,rfl,qd2 ?_⟩;refine ⟨_,rfl,a,_,rfl,.inr (SqT.of ha),rfl,_,rfl,qd2 ?_⟩;refine ⟨_,rfl,a,_,0,_,rfl,rfl,SqT.of ha,rfl,_,rfl,_,rfl,_,rfl,qd2 ?_⟩;exact ⟨_,rfl,a,_,1,_,rfl,rfl,SqT.of ha,rfl,_,rfl,_,rfl,q⟩
include T in
theorem qhc:qaw P w K mg base 3 "check_one_step" ["step"] qgb:=by
 obtain ⟨f,fd,F,hm⟩:=T.f_check_one_step;have nd:=sc_check_one_step.nd;refine F.def_ hm (F.ok sc_check_one_step (λvs H Q E h=>?_) (λcdv A outer s H vs Q E hr h=>?_)) (F.binds λ_ _ _ _ _ _ us hl=>by obtain ⟨_,rfl⟩:=L2.lq1 hl;rfl)
 ·obtain ⟨x,p,rfl,_⟩:=h;rfl
 ·obtain ⟨x,p,rfl,hp,h1,h2,q⟩:=h
  obtain ⟨a,rfl,ha⟩:=id hp;refine ⟨_,(jB3 (qav (qlz (qco (jF (qub T) hr (jA1 (pv 0))))) (qac qc4) qam) (qav (jC qe5 (jT (pv 0) qaa) qaa) (qac qc4) qam) (qav (jC qe5 (jT (pv 0) qaa) qaa) (qac qc4) qam)),?_⟩;refine ⟨_,rfl,_,p,rfl,hp,_,rfl,qgl ?_⟩;refine ⟨_,rfl,a,_,0,_,rfl,rfl,SqT.of ha,rfl,_,_,rfl,rfl,_,rfl,qcj (λz=>?_) λ_=>?_⟩
  ·exact absurd (of_decide_eq_true z) (by omega)
  refine ⟨_,rfl,a,_,1,_,rfl,rfl,SqT.of ha,rfl,_,_,rfl,rfl,_,rfl,qcj (λz=>?_) λ_=>q⟩;exact absurd (of_decide_eq_true z) (by omega)
include T in
theorem qgg:qaw P w K mg base 1 "check_next_step" ["step", "behind"] qc7:=by
 obtain ⟨f,fd,F,hm⟩:=T.f_check_next_step;have nd:=sc_check_next_step.nd;refine F.def_ hm (F.ok sc_check_next_step (λvs H Q E h=>?_) (λcdv A outer s H vs Q E hr h=>?_)) (F.binds λ_ _ _ _ _ _ us hl=>by obtain ⟨_,_,rfl⟩:=L2.lq2 hl;rfl)
 ·obtain ⟨x,y,p,p',rfl,_⟩:=h;rfl
 ·obtain ⟨x,y,p,p',rfl,⟨a,rfl,ha⟩,⟨b,rfl,hb⟩,h0,h1,h2,q⟩:=h
  refine ⟨_,(jB2 (qav (jC qe5 (jT (pv 1) qaa) (jT (pv 0) qaa)) (qac qc4) qam) (qav (jC qxn (qae qaq (jT (pv 1) qaa) (jT (pv 0) qaa)) qaa) (qac qc4) qam)),?_⟩;refine ⟨_,rfl,b,_,0,_,rfl,rfl,SqT.of hb,rfl,_,rfl,a,_,0,_,rfl,rfl,SqT.of ha,rfl,_,_,rfl,rfl,_,rfl,qcj (λz=>?_) λ_=>?_⟩
  ·exact absurd (of_decide_eq_true z) (by omega)
  refine ⟨_,rfl,b,_,1,_,rfl,rfl,SqT.of hb,rfl,_,rfl,a,_,1,_,rfl,rfl,SqT.of ha,rfl,_,_,rfl,rfl,(by show 0<p.2;omega),rfl,_,rfl,?_⟩;refine qz6 ?_ q;exact congrArg V.int h2
include T in
theorem qlk:qaw P w K mg base 4 "check_steps" ["steps"] qet:=by
 obtain ⟨f,fd,F,hm⟩:=T.f_check_steps;have nd:=sc_check_steps.nd;refine F.def_ hm (F.ok sc_check_steps (λvs H Q E h=>?_) (λcdv A outer s H vs Q E hr h=>?_)) (F.binds λ_ _ _ _ _ _ us hl=>by obtain ⟨_,rfl⟩:=L2.lq1 hl;rfl)
 ·obtain ⟨l,xs,ps,rfl,_⟩:=h;rfl
 ·obtain ⟨l,xs,ps,rfl,hl,hp,G,q⟩:=h
  have hlen:=hp.length;have g1:=G.lo;have g2:=G.hi;refine ⟨_,(jB3 (qav (PW.pt (qly (jC qe5 (qag qal rfl T.b_len qbn (jA1 (pv 0))) qaa) (qj2 (jC ql3 (qag qal rfl T.b_len qbn (jA1 (pv 0))) (qdd (v:=.int 5) rfl T.c_MOST_STEPS.choose_spec ⟨_,rfl⟩))))) (qac qc4) qam) (qb7 PassesOwn.never rfl (qap (pv 0)) (jN 1 nd) (qac (qa0 (jF (qhc T) hr (jA1 (pv 1)))))) (qb7 PassesOwn.never rfl (qib rfl T.b_zip (jA2 (pv 0) (qcq qfh (pv 0) (qcl qaa) qf7))) (jG2 (jN 1 nd) (jN 2 nd)) (qac (qa0 (jF (qgg T) hr (jA2 (pv 1) (pv 2))))))),?_⟩;refine ⟨_,rfl,l,xs,rfl,.inl (SqL.of hl),_,_,rfl,rfl,_,rfl,qcj (λz=>?_) λ_=>?_⟩
  ·exact absurd (of_decide_eq_true z) (by omega)
  refine ⟨_,rfl,l,xs,rfl,.inl (SqL.of hl),_,_,rfl,rfl,_,rfl,qcj (λz=>?_) λ_=>?_⟩
  ·exact absurd (of_decide_eq_true z) (by omega)
  refine ⟨_,rfl,l,rfl,⟨_,SqL.of hl⟩,qbt (xs:=xs) (λi σ H2=>H2=H/\∃ v,σ=[some (.ref l),v,none]) ⟨rfl,none,rfl⟩ (λi σ H2 _ h2=>by rw[h2.1];exact SqL.of hl) ?_ ?_⟩
  ·rintro i x σ H2 hi ⟨rfl,v,rfl⟩
   obtain ⟨p,hpi,hx⟩:=hp.get hi;obtain ⟨e1,e2⟩:=G.each i p hpi;exact ⟨_,rfl,_,p,rfl,hx,e1,e2,rfl,_,rfl⟩
  ·rintro σ H2 ⟨rfl,v,rfl⟩
   refine ⟨_,rfl,_,rfl,_,rfl,_,xs,rfl,SqL.of hl,λl2 H3 n3=>?_⟩;refine ⟨l,l2,xs,_,rfl,SqL.of (n3.same _ _ hl),SqL.of n3.at_,qhm (xs:=xs) (ys:=qhj xs (some 1) none) (λi σ H4=>Same H3 H4/\∃ u v,σ=[some (.ref l),u,v]) ⟨Same.refl _,_,_,rfl⟩
    (λi σ H4 h4=>⟨SqL.of (h4.1 _ _ (n3.same _ _ hl)),SqL.of (h4.1 _ _ n3.at_)⟩) ?_ ?_⟩
   ·rintro i x y σ H4 p H5 hx hy n5 ⟨s4,u,v',rfl⟩
    obtain ⟨p1,hp1,hx1⟩:=hp.get hx;have hy':xs[i+1]?=some y:=by
     have:qhj xs (some 1) none=xs.drop 1:=qEm xs;rw[this,List.getElem?_drop] at hy
     rwa [Nat.add_comm] at hy
    obtain ⟨p2,hp2,hx2⟩:=hp.get hy';obtain ⟨e1,e2⟩:=G.next i p1 p2 hp1 hp2;obtain ⟨_,e3⟩:=G.each i p1 hp1;have s5:Same H2 H5:=n3.same.trans (s4.trans n5.same);refine ⟨p,_,rfl,SqT.of n5.at_,rfl,_,_,rfl,_,_,rfl,rfl,?_⟩;exact ⟨_,rfl,_,rfl,x,y,p1,p2,rfl,hx1.same s5,hx2.same s5,e3,e1,e2,s4.trans n5.same,_,_,rfl⟩
   ·rintro i σ H4 _ ⟨s4,_,_,_⟩
    exact q H4 (n3.same.trans s4)
include T in
theorem qni:qaw P w K mg base 2 "check_gone" ["gone", "last_age"] qlb:=by
 obtain ⟨f,fd,F,hm⟩:=T.f_check_gone;have nd:=sc_check_gone.nd;refine F.def_ hm (F.ok sc_check_gone (λvs H Q E h=>?_) (λcdv A outer s H vs Q E hr h=>?_)) (F.binds λ_ _ _ _ _ _ us hl=>by obtain ⟨_,_,rfl⟩:=L2.lq2 hl;rfl)
 ·obtain ⟨g,last,rfl,_⟩:=h;rfl
 ·obtain ⟨g,last,rfl,hg,q⟩:=h
  refine ⟨_,(jB2 (qav (jC qc0 (pv 0) qau) (qac qxm) qam) (qav (PW.pt (qly (qlz (qco (jF (qgf T) hr (jA1 (pv 0))))) (qj2 (jC qe5 (pv 0) (pv 1))))) (qac qc4) qam)),?_⟩
  cases g with
  | none=>exact ⟨_,rfl,rfl,_,rfl,qd2 q⟩
  | some z =>
   refine ⟨_,rfl,rfl,_,rfl,qgl ?_⟩;refine ⟨_,rfl,_,rfl,z,rfl,_,rfl,qgl ?_⟩;refine ⟨_,rfl,_,rfl,_,_,rfl,rfl,_,rfl,qcj (λy=>?_) λ_=>q⟩;exact absurd (of_decide_eq_true y) (by have:=hg z rfl;omega)
include T in
theorem qor:∃ f fd dT o n,qf6 P w K mg base CX0 5 f fd ["self", "steps", "gone"] (qlc C_Rule)/\FunD K "__init__" "Rule.__init__" qfa (.ref dT) f fd/\Mk K C_Rule f/\fd.defaults=.ref dT/\K.lookup dT=some o/\o.data=.seq #[.none] n:=by
 obtain ⟨f,fd,dT,o,n,F,M,h1,h2,h3⟩:=T.f_Rule_init;have nd:=sc_Rule_init.nd;refine ⟨f,fd,dT,o,n,(F.ok sc_Rule_init (λvs H Q E h=>?_) (λcdv A outer s H vs Q E hr h=>?_)),F,M,h1,h2,h3⟩
 ·obtain ⟨r,dx,l,xs,ps,g,rfl,_⟩:=h;rfl
 ·obtain ⟨r,dx,l,xs,ps,g,rfl,hro,hl,hp,G,hg,k⟩:=h
  have g1:=G.lo;refine ⟨_,(jB5 (jS 3 nd (qce qcy rfl T.b_list qds (jA1 (pv 1)))) (qa0 (jF (qlk T) hr (jA1 (pv 3)))) (qa0 (jF (qni T) hr (jA2 (pv 2) (jT (jI (pv 3) (qe4 qcz qaa)) qaa)))) (qd6 (pv 0) (pv 3) rfl) (qd6 (pv 0) (pv 2) rfl)),?_⟩;refine ⟨_,rfl,l,xs,rfl,.inl (SqL.of hl),λl' H1 n1=>?_⟩;refine ⟨_,rfl,l',xs,ps,rfl,n1.at_,hp.same n1.same,G,λH2 s2=>?_⟩;have hl2:=s2 _ _ n1.at_;have hp2:=(hp.same n1.same).same s2;have hlen:=hp.length;obtain ⟨v,hv⟩:∃ v,xs[xs.length-1]?=some v:=⟨xs[xs.length-1]'(by omega),List.getElem?_eq_getElem _⟩;obtain ⟨p,hpv,a,rfl,ha⟩:=hp2.get hv;refine ⟨_,rfl,_,rfl,_,rfl,l',xs,-1,_,rfl,rfl,SqL.of hl2,qes hv,a,_,0,_,rfl,rfl,SqT.of ha,rfl,g,p.1,rfl,hg p (by rw[<- hlen];exact hpv),?_⟩;have hr2:=s2 _ _ (n1.same _ _ hro);have nrl:r≠l':=qai hro n1.fresh;refine ⟨_,rfl,_,rfl,r,C_Rule,dx,[],rfl,hr2,T.cl_Rule,T.na_Rule_kept_steps,(by show 0<1000;decide),λH3 b3 h3=>?_⟩;refine ⟨_,rfl,_,rfl,r,C_Rule,dx,_,rfl,h3,T.cl_Rule,T.na_Rule_gone_age,(by show 1<1000;decide),λH4 b4 h4=>?_⟩;refine k l' _ n1.fresh ⟨⟨dx,h4⟩,xs,b4 _ _ (b3 _ _ hl2 nrl.symm) nrl.symm,(hp2.but b3 hr2 qgq).but b4 h3 qgq⟩ λb o e hb=>?_
  exact b4 _ _ (b3 _ _ (s2 _ _ (n1.same _ _ e)) hb) hb
include T in
theorem qll:qCn P w K mg base C_Rule 5 "Rule" ["self", "steps", "gone"] [] (qlc C_Rule):=by
 obtain ⟨f,fd,dT,o,n,hf,F,M,h1,h2,h3⟩:=qor (P:=P) (w:=w) (base:=base) T;refine ⟨f,fd,hf,T.mg_Rule,M,qoa h1 h2 h3 λus hl=>?_⟩;obtain ⟨oc,od,kV,doc,pm,an,cdv,ct,osl,rfl,lk,hcd⟩:=F.ex;obtain ⟨_,_,_,rfl⟩:=L2.lq3 (us:=us) (by simpa using hl);exact ⟨_,rfl,rfl⟩
include T in
theorem qdb:qca P w K mg base C_Rule 1 "steps" ["self"] (qmq C_Rule):=by
 obtain ⟨f,fd,F,hm⟩:=T.f_Rule_steps;have nd:=sc_Rule_steps.nd;refine ⟨f,fd,(F.ok sc_Rule_steps (λvs H Q E h=>?_) (λcdv A outer s H vs Q E hr h=>?_)),hm,(F.binds λ_ _ _ _ _ _ us hl=>by obtain ⟨_,rfl⟩:=L2.lq1 hl;rfl)⟩
 ·obtain ⟨r,l,ps,g,xs,rfl,_⟩:=h;rfl
 ·obtain ⟨r,l,ps,g,xs,rfl,R,hl,k⟩:=h
  obtain ⟨dx,hob⟩:=R.ob;refine ⟨_,(qac (qaf (qce qcy rfl T.b_list qds (jA1 (qbx (pv 0) rfl))))),?_⟩;exact ⟨_,rfl,r,C_Rule,dx,_,_,rfl,hob,T.cl_Rule,T.na_Rule_kept_steps,qyp _ _,l,xs,rfl,.inl (SqL.of hl),k⟩
include T in
theorem qos:qca P w K mg base C_Rule 1 "gone" ["self"] (qtg C_Rule):=by
 obtain ⟨f,fd,F,hm⟩:=T.f_Rule_gone;have nd:=sc_Rule_gone.nd;refine ⟨f,fd,(F.ok sc_Rule_gone (λvs H Q E h=>?_) (λcdv A outer s H vs Q E hr h=>?_)),hm,(F.binds λ_ _ _ _ _ _ us hl=>by obtain ⟨_,rfl⟩:=L2.lq1 hl;rfl)⟩
 ·obtain ⟨r,l,ps,g,rfl,_⟩:=h;rfl
 ·obtain ⟨r,l,ps,g,rfl,R,q⟩:=h
  obtain ⟨dx,hob⟩:=R.ob;refine ⟨_,(qac (qaf (qbx (pv 0) rfl))),?_⟩;exact ⟨_,rfl,r,C_Rule,dx,_,_,rfl,hob,T.cl_Rule,T.na_Rule_gone_age,qC3 _ _,q⟩
include T in
theorem qjf:qaw P w K mg base 1 "floored" ["number", "width"] qq3:=by
 obtain ⟨f,fd,F,hm⟩:=T.f_floored;have nd:=sc_floored.nd;refine F.def_ hm (F.ok sc_floored (λvs H Q E h=>?_) (λcdv A outer s H vs Q E hr h=>?_)) (F.binds λ_ _ _ _ _ _ us hl=>by obtain ⟨_,_,rfl⟩:=L2.lq2 hl;rfl)
 ·obtain ⟨n,w',rfl,_⟩:=h;rfl
 ·obtain ⟨n,w',rfl,h1,h2,h3,h4,q⟩:=h
  have hb:=qyo h1 (by decide:(0:Int)<=10 ^ 46) h3 h4;refine ⟨_,(qac (qaf (qae qb3 (qae qdr (pv 0) (pv 1)) (pv 1)))),?_⟩;exact ⟨_,rfl,_,rfl,_,_,rfl,rfl,⟨by omega,by omega⟩,_,rfl,_,_,rfl,rfl,⟨⟨by omega,by omega⟩,by omega,by omega⟩,q⟩
include T in
theorem qre:qaw P w K mg base 2 "gone_cut" ["rule", "day"] (qil C_Rule):=by
 obtain ⟨f,fd,F,hm⟩:=T.f_gone_cut;have nd:=sc_gone_cut.nd;refine F.def_ hm (F.ok sc_gone_cut (λvs H Q E h=>?_) (λcdv A outer s H vs Q E hr h=>?_)) (F.binds λ_ _ _ _ _ _ us hl=>by obtain ⟨_,_,rfl⟩:=L2.lq2 hl;rfl)
 ·obtain ⟨r,l,ps,g,d,rfl,_⟩:=h;rfl
 ·obtain ⟨r,l,ps,g,d,rfl,R,Pg,hd,q⟩:=h
  obtain ⟨dx,hob⟩:=R.ob;obtain ⟨xs,hl,hx⟩:=R.ls;have n1:(rf l (gv g)).lookup ("gone" : Str)=none:=qtf _ _ (by decide +kernel) (by decide +kernel);have n2:(rf l (gv g)).lookup ("steps" : Str)=none:=qtf _ _ (by decide +kernel) (by decide +kernel);obtain ⟨p,hp,ep⟩:=Pg.last;have hlen:=hx.length;refine ⟨_,(jB3 (jS 2 nd (qcf (pv 0) T.cl_Rule (qos T) (hr.mono (by decide)))) (qav (jC qc0 (pv 2) qau) (qac (qaf qau)) qam) (qaf (jF (qjf T) hr (jA2 (qae qbr (pv 1) (pv 2)) (jT (jI (qcf (pv 0) T.cl_Rule (qdb T) (hr.mono (by decide))) (qe4 qcz qaa)) qaa))))),?_⟩;refine ⟨_,rfl,r,dx,_,rfl,hob,n1,r,l,ps,g,rfl,R,?_⟩
  cases g with
  | none=>exact ⟨_,rfl,rfl,_,rfl,qd2 (q H (Same.refl _))⟩
  | some z =>
   refine ⟨_,rfl,rfl,_,rfl,qgl ?_⟩;refine ⟨_,rfl,_,rfl,_,_,rfl,rfl,?_⟩;refine ⟨_,rfl,r,dx,_,rfl,hob,n2,r,l,ps,_,xs,rfl,R,hl,λp1 H1 m1=>?_⟩;obtain ⟨v,hv,a,rfl,ha⟩:=hx.get' hp;have hz:=Pg.gb z rfl;have hs:=Pg.size _ p hp;unfold Bd at hd;refine ⟨_,rfl,p1,xs,-1,_,rfl,rfl,SqL.of m1.at_,qes (by rw[hlen];exact hv),a,_,1,_,rfl,rfl,SqT.of (m1.same _ _ ha),rfl,d-z,p.2,rfl,hs.2.2.1,hs.2.2.2,by omega,by omega,?_⟩;have:=q H1 m1.same;rw[ep] at this;exact this
include T in
theorem qrf:qaw P w K mg base 3 "edges_at" ["rule", "day"] (qim C_Rule):=by
 obtain ⟨f,fd,F,hm⟩:=T.f_edges_at;have nd:=sc_edges_at.nd;refine F.def_ hm (F.ok sc_edges_at (λvs H Q E h=>?_) (λcdv A outer s H vs Q E hr h=>?_)) (F.binds λ_ _ _ _ _ _ us hl=>by obtain ⟨_,_,rfl⟩:=L2.lq2 hl;rfl)
 ·obtain ⟨r,l,ps,g,d,rfl,_⟩:=h;rfl
 ·obtain ⟨r,l,ps,g,d,rfl,R,Pg,hd,q⟩:=h
  obtain ⟨dx,hob⟩:=R.ob;obtain ⟨xs,hl,hx⟩:=R.ls;have n2:(rf l (gv g)).lookup ("steps" : Str)=none:=qtf _ _ (by decide +kernel) (by decide +kernel);have hlen:=hx.length;have h5:=Pg.good.hi;refine ⟨_,(jB2 (qct (i:=2) (vars:=[ "age", "width" ]) (frees:=[ "day" ]) (fv:=[1]) nd rfl (Or.inl rfl) rfl (jL1 rfl) ⟨⟨rfl,.inl rfl,rfl,.inl rfl⟩,trivial⟩ (qap (qcf (pv 0) T.cl_Rule (qdb T) (hr.mono (by decide)))) (qcb (by decide) (by decide)) (λ_ _ _ _=>(jG2 (jM 0 [ "age", "width", "day" ]) (jM 1 [ "age", "width", "day" ]))) (λ_ _ _ _=>qa3) (λ_ _ _ _=>(jF (qjf T) hr (jA2 (qae qbr (pv 2) (pv 0)) (pv 1))))) (qaf (qae qe6 (pv 2) (qax (jA1 (jF (qre T) hr (jA2 (pv 0) (pv 1)))))))),?_⟩;refine ⟨_,rfl,r,dx,_,rfl,hob,n2,r,l,ps,g,xs,rfl,R,hl,λp1 H1 m1=>?_⟩;refine ⟨p1,rfl,⟨_,SqL.of m1.at_⟩,qsk (xs:=xs) (λi ys H2=>Same H1 H2/\ys=(ps.take i).map λp=>V.int (cut d p.1 p.2)) (Nat.le_of_lt (qah (by omega))) ⟨Same.refl _,rfl⟩ (λi ys H2 h2=>⟨SqL.of (h2.1 _ _ m1.at_),by rw[h2.2];simp;omega⟩) ?_ ?_⟩
  ·rintro i x ys H2 hi ⟨s2,rfl⟩
   obtain ⟨p,hpi,a,rfl,ha⟩:=hx.get hi;have hs:=Pg.size i p hpi;unfold Bd at hd;refine ⟨a,_,rfl,SqT.of (s2 _ _ (m1.same _ _ ha)),rfl,_,_,rfl,_,_,rfl,rfl,qo5 (qd2 ?_)⟩;refine ⟨_,rfl,_,rfl,_,_,rfl,rfl,_,rfl,d-p.1,p.2,rfl,hs.2.2.1,hs.2.2.2,by omega,by omega,s2,?_⟩;exact (qDu _ ps i p hpi).symm
  ·rintro ys H2 c1 ⟨s2,rfl⟩ hc
   have nc:=qa8 (o:=.lst ((ps.take xs.length).map λp=>V.int (cut d p.1 p.2))) hc
   generalize upd H2 c1 _=H3 at nc ⊢
   have s3:Same H H3:=m1.same.trans (s2.trans nc.same);rw[hlen,List.take_length] at nc;refine ⟨_,rfl,_,rfl,_,rfl,r,l,ps,g,d,rfl,R.same s3,Pg,hd,λH4 s4=>⟨by show 1<=sizeLine;decide,λc2 H5 n5=>?_⟩⟩;refine ⟨c1,c2,_,_,rfl,rfl,n5.same _ _ (s4 _ _ nc.at_),n5.at_,Nat.le_of_lt (qah (by simp;omega)),λz H6 n6=>?_⟩;exact q z H6 (New.after (s3.trans (s4.trans n5.same)) n6)
include T in
theorem quc:qaw P w K mg base 1 "is_gone" ["edges", "time"] qka:=by
 obtain ⟨f,fd,F,hm⟩:=T.f_is_gone;have nd:=sc_is_gone.nd;refine F.def_ hm (F.ok sc_is_gone (λvs H Q E h=>?_) (λcdv A outer s H vs Q E hr h=>?_)) (F.binds λ_ _ _ _ _ _ us hl=>by obtain ⟨_,_,rfl⟩:=L2.lq2 hl;rfl)
 ·obtain ⟨e,es,ge,t,rfl,_⟩:=h;rfl
 ·obtain ⟨e,es,ge,t,rfl,he,q1,q2⟩:=h
  have hlast:(es.map V.int ++ [gv ge])[(es.map V.int ++ [gv ge]).length-1]?=some (gv ge):=by simp
  refine ⟨_,(qac (qaf (qdx (jD qd4 (jI (pv 0) (qe4 qcz qaa)) qau) (qh0 (jD qe5 (pv 1) (jI (pv 0) (qe4 qcz qaa))))))),?_⟩
  cases ge with
  | none =>
   walk_at "r"
   exact q2 fun ⟨z,e,_⟩=>by cases e
  | some y =>
   walk_at "r"
   show Q (.bl (decide (t<y))) H
   by_cases h:t<y
   ·rw[decide_eq_true h];exact q1 ⟨y,rfl,h⟩
   ·rw[decide_eq_false h];exact q2 fun ⟨z,e,h'⟩=>by cases e;exact h h'
include T in
theorem qrg:qaw P w K mg base 2 "width_at" ["rule", "edges", "time"] (qio C_Rule):=by
 obtain ⟨f,fd,F,hm⟩:=T.f_width_at;have nd:=sc_width_at.nd;refine F.def_ hm (F.ok sc_width_at (λvs H Q E h=>?_) (λcdv A outer s H vs Q E hr h=>?_)) (F.binds λ_ _ _ _ _ _ us hl=>by obtain ⟨_,_,_,rfl⟩:=L2.lq3 hl;rfl)
 ·obtain ⟨r,l,ps,g,e,es,ge,t,e0,rfl,_⟩:=h;rfl
 ·obtain ⟨r,l,ps,g,e,es,ge,t,e0,rfl,R,he,hl,h1,h5,h0,hlt,q⟩:=h
  obtain ⟨dx,hob⟩:=R.ob;obtain ⟨xs,hxl,hx⟩:=R.ls;have n2:(rf l (gv g)).lookup ("steps" : Str)=none:=qtf _ _ (by decide +kernel) (by decide +kernel);have hlen:=hx.length;refine ⟨_,(jB2 (qct (i:=3) (vars:=[ "step", "edge" ]) (frees:=[ "time" ]) (fv:=[2]) nd rfl (Or.inl rfl) rfl (jL1 rfl) ⟨⟨rfl,.inl rfl,rfl,.inl rfl⟩,trivial⟩ (qib rfl T.b_zip (jA2 (qcf (pv 0) T.cl_Rule (qdb T) (hr.mono (by decide))) (pv 1))) (qcb (by decide) (by decide)) (λ_ _ _ _=>(jG2 (jM 0 [ "step", "edge", "time" ]) (jM 1 [ "step", "edge", "time" ]))) (λ_ _ _ _=>(qdt (jC ql3 (pv 1) (pv 2)))) (λ_ _ _ _=>(qcm (show IxR _ (qhk K) from qbi) (pv 0) qaa (λ_ _=>rfl)))) (qaf (jI (pv 3) (qe4 qcz qaa)))),?_⟩;refine ⟨_,rfl,r,dx,_,rfl,hob,n2,r,l,ps,g,xs,rfl,R,hxl,λp1 H1 m1=>?_⟩;have he1:=m1.same _ _ he;refine ⟨_,rfl,p1,e,xs,_,rfl,SqL.of m1.at_,SqL.of he1,?_⟩;refine qti (xs:=xs) (λi zs H2=>Same H1 H2/\zs=((((((ps.map (·.2)).zip es).take i).filter λx=>decide (t<x.2)).map (·.1)).map V.int)) (Nat.le_of_lt (qah (by omega))) ⟨Same.refl _,rfl⟩ (λi zs H2 h2=>⟨SqL.of (h2.1 _ _ m1.at_),SqL.of (h2.1 _ _ he1),by rw[h2.2,List.length_map];exact qA1 _ _ _ _⟩) ?_ ?_
  ·rintro i x y zs H2 p H3 hxi hyi n3 ⟨s2,rfl⟩
   obtain ⟨pi,hpi,a,rfl,ha⟩:=hx.get hxi;have hi:i<es.length:=by have:=(List.getElem?_eq_some_iff.mp hpi).1;omega
   have hy:y=V.int es[i]:=by
    rw[List.getElem?_append_left (by simpa using hi),List.getElem?_map,List.getElem?_eq_getElem hi] at hyi;exact (Option.some.inj hyi).symm
   subst hy;have hw:(ps.map (·.2))[i]?=some pi.2:=by rw[List.getElem?_map,hpi];rfl
   have ha3:H3 a=some (.tup [.int pi.1,.int pi.2]):=n3.same _ _ (s2 _ _ (m1.same _ _ ha))
   walk_at "r"
   refine qcj (λz=>?_) λz=>?_
   ·walk_at "r"
    refine ⟨s2.trans n3.same,?_⟩;have:=qEo hw (List.getElem?_eq_getElem hi) (by simpa using z:t<es[i]);rw[this,List.map_append];rfl
   ·refine ⟨s2.trans n3.same,?_⟩
    rw[qEp hw (List.getElem?_eq_getElem hi) (by simpa using z)]
  ·rintro i zs H2 p H3 hi ⟨s2,rfl⟩ n3
   have ez:((((ps.map (·.2)).zip es).take i).filter λx=>decide (t<x.2)).map (·.1)=wl (ps.map (·.2)) es t:=qA0 (by rw[hi];simp only[List.length_zip,List.length_map,List.length_append,List.length_singleton];omega);rw[ez] at n3;have hne:1<=(wl (ps.map (·.2)) es t).length:=qAz (w0:=(ps[0]'(by omega)).2) (by rw[List.getElem?_map,List.getElem?_eq_getElem (by omega:0<ps.length)];rfl) h0 hlt;obtain ⟨w',hw'⟩:∃ w',(wl (ps.map (·.2)) es t)[(wl (ps.map (·.2)) es t).length-1]?=some w':=⟨_,List.getElem?_eq_getElem (by omega)⟩;have hlast:((wl (ps.map (·.2)) es t).map V.int)[((wl (ps.map (·.2)) es t).map V.int).length-1]?=some (V.int w'):=by rw[List.length_map,List.getElem?_map,hw'];rfl
   walk_at "r"
   exact q w' H3 hw' (m1.same.trans (s2.trans n3.same))
include T in
theorem qnj:qaw P w K mg base 3 "cell_at" ["rule", "edges", "time"] (qkb C_Rule):=by
 obtain ⟨f,fd,F,hm⟩:=T.f_cell_at;have nd:=sc_cell_at.nd;refine F.def_ hm (F.ok sc_cell_at (λvs H Q E h=>?_) (λcdv A outer s H vs Q E hr h=>?_)) (F.binds λ_ _ _ _ _ _ us hl=>by obtain ⟨_,_,_,rfl⟩:=L2.lq3 hl;rfl)
 ·obtain ⟨r,l,ps,g,e,es,ge,t,rfl,_⟩:=h;rfl
 ·obtain ⟨r,l,ps,g,e,es,ge,t,rfl,R,he,hl,h1,h5,hsz,ht,q⟩:=h
  obtain ⟨e0,h0⟩:∃ e0,es[0]?=some e0:=⟨_,List.getElem?_eq_getElem (by omega)⟩;have hi0:atI (es.map V.int ++ [gv ge]) 0=some (.int e0):=qd5 (j:=0) (by rw[List.getElem?_append_left (by simp;omega),List.getElem?_map,h0];rfl);refine ⟨_,(jB4 (qav (jC qxo (pv 2) (jI (pv 1) qaa)) (qac (qaf (qao (jA2 (pv 2) qaa)))) qam) (qav (qco (jF (quc T) hr (jA2 (pv 1) (pv 2)))) (qac (qaf qau)) qam) (jS 3 nd (jF (qrg T) hr (jA3 (pv 0) (pv 1) (pv 2)))) (qaf (qao (jA2 (jF (qjf T) hr (jA2 (pv 2) (pv 3))) (pv 3))))),?_⟩
  walk_at "r"
  refine qcj (λz=>?_) λz=>?_
  ·simp at z
   walk_at "r";intro p H1 n1
   refine q (.ref p) (some (t,0)) H1 (λx hx=>?_) ⟨p,rfl,n1.at_⟩ n1.same;rw[h0] at hx;cases hx;exact ⟨λ_=>rfl,λh=>absurd z (by omega)⟩
  ·simp at z
   walk_at "r"
   refine ⟨e,es,ge,t,rfl,he,λhg=>?_,λhg=>?_⟩
   ·walk_at "r"
    refine q .non none H (λx hx=>?_) rfl (Same.refl _);rw[h0] at hx;cases hx;exact ⟨λh=>absurd z (by omega),λ_=>⟨λ_=>rfl,λn=>absurd hg n⟩⟩
   ·walk_at "r"
    refine ⟨r,l,ps,g,e,es,ge,t,e0,rfl,R,he,hl,h1,h5,h0,z,λw' H1 hw' s1=>?_⟩;have hwm:w'∈ps.map (·.2):=qtl (List.mem_of_getElem? hw');obtain ⟨pi,hpi,rfl⟩:=List.mem_map.mp hwm;obtain ⟨i,hi,ei⟩:=List.getElem_of_mem hpi;have hs:=hsz i pi (by rw[<- ei];exact List.getElem?_eq_getElem hi);refine ⟨_,rfl,_,rfl,t,pi.2,rfl,hs.2.2.1,hs.2.2.2,ht.1,ht.2,?_⟩
    walk_at "r";intro p H2 n2
    refine q (.ref p) (some (t / pi.2*pi.2,pi.2)) H2 (λx hx=>?_) ⟨p,rfl,n2.at_⟩ (s1.trans n2.same);rw[h0] at hx;cases hx;exact ⟨λh=>absurd z (by omega),λ_=>⟨λn=>absurd n hg,λ_=>⟨pi.2,hw',rfl⟩⟩⟩
include T in
theorem qnk:qaw P w K mg base 1 "heap_of" ["runs"] qiu:=by
 obtain ⟨f,fd,F,hm⟩:=T.f_heap_of;have nd:=sc_heap_of.nd;refine F.def_ hm (F.ok sc_heap_of (λvs H Q E h=>?_) (λcdv A outer s H vs Q E hr h=>?_)) (F.binds λ_ _ _ _ _ _ us hl=>by obtain ⟨_,rfl⟩:=L2.lq1 hl;rfl)
 ·obtain ⟨l,xs,rs,rfl,_⟩:=h;rfl
 ·obtain ⟨l,xs,rs,rfl,hl,hp,ok,h2,q0,q⟩:=h
  have hlen:=hp.length;refine ⟨_,(jB5 (qav (jC qb0 (qag qal rfl T.b_len qbn (jA1 (pv 0))) qaa) (qac (qaf qau)) qam) (qct (i:=1) (vars:=[ "value", "many" ]) (frees:=[]) (fv:=[]) nd rfl (Or.inl rfl) rfl (jL0 rfl) trivial (qap (pv 0)) (qcb (by decide) (by decide)) (λ_ _ _ _=>(jG2 (jM 0 [ "value", "many" ]) (jM 1 [ "value", "many" ]))) (λ_ _ _ _=>qa3) (λ_ _ _ _=>(pv 0))) (jS 2 nd (qag (qeq rfl) rfl T.b_sum qj6 (jA1 (qdi (vars:=[ "value", "many" ]) (frees:=[]) (fv:=[]) rfl (jL0 rfl) trivial (qap (pv 0)) (qcb (by decide) (by decide)) (λ_ _ _ _=>(jG2 (jM 0 [ "value", "many" ]) (jM 1 [ "value", "many" ]))) (λ_ _ _ _=>qa3) (λ_ _ _ _=>(pv 1)))))) (jS 3 nd (qag (qeq rfl) rfl T.b_sum qj6 (jA1 (qdi (vars:=[ "value", "many" ]) (frees:=[]) (fv:=[]) rfl (jL0 rfl) trivial (qap (pv 0)) (qcb (by decide) (by decide)) (λ_ _ _ _=>(jG2 (jM 0 [ "value", "many" ]) (jM 1 [ "value", "many" ]))) (λ_ _ _ _=>qa3) (λ_ _ _ _=>(qae qb3 (pv 0) (pv 1))))))) (qaf (qao (jA4 (pv 2) (pv 3) (qag (qmh rfl) rfl T.b_min qo8 (jA1 (pv 1))) (qag (qie rfl) rfl T.b_max qfj (jA1 (pv 1))))))),?_⟩
  walk_at "r"
  refine qcj (λz=>?_) λz=>?_
  ·have z':xs.length=0:=by simpa using z
   exact q0 (List.length_eq_zero_iff.mp (by omega))
  ·have z':¬ xs.length=0:=by simpa using z
   have hne:rs≠[]:=λe=>z' (by rw[hlen,e];rfl)
   have h1:1<=rs.length:=by omega
   have mulB:∀ p∈rs,CMulB p.1 p.2:=λp hp=>by
    have:=ok p hp;unfold qvw at this;exact ⟨⟨by omega,by omega⟩,by omega,by omega⟩
   refine ⟨_,rfl,l,rfl,⟨_,SqL.of hl⟩,qhr (λp=>p.1) hl hp h2 (λp hp Q' hq=>⟨_,rfl,hq⟩) λa1 H1 n1=>?_⟩;have hl1:=n1.same _ _ hl;have hp1:=hp.same n1.same;refine ⟨_,rfl,l,rfl,⟨_,SqL.of hl1⟩,qhr (λp=>p.2) hl1 hp1 h2 (λp hp Q' hq=>⟨_,rfl,hq⟩) λa2 H2 n2=>⟨a2,_,rfl,SqL.of n2.at_,?_⟩⟩;have hl2:=n2.same _ _ hl1;have hp2:=hp1.same n2.same;refine ⟨_,rfl,l,rfl,⟨_,SqL.of hl2⟩,qhr (λp=>p.1*p.2) hl2 hp2 h2 (λp hp Q' hq=>⟨_,rfl,_,rfl,_,_,rfl,rfl,mulB p hp,hq⟩) λa3 H3 n3=>⟨a3,_,rfl,SqL.of n3.at_,?_⟩⟩;have hv:=n3.same _ _ (n2.same _ _ n1.at_);refine ⟨_,rfl,_,rfl,_,rfl,a1,_,rfl,SqL.of hv,by simp;omega,λlo hlo hlo'=>?_⟩;refine ⟨_,rfl,a1,_,rfl,SqL.of hv,by simp;omega,λhi hhi hhi'=>?_⟩
   walk_at "r";intro a H5 n5
   exact q hne a _ _ lo hi H5 ⟨rfl,rfl,hlo,hlo',hhi,hhi'⟩ (New.after (n1.same.trans (n2.same.trans n3.same)) n5)
include T in
theorem qv4:qaw P w K mg base 1 "poured" ["one", "other"] qmt:=by
 obtain ⟨f,fd,F,hm⟩:=T.f_poured;have nd:=sc_poured.nd;refine F.def_ hm (F.ok sc_poured (λvs H Q E h=>?_) (λcdv A outer s H vs Q E hr h=>?_)) (F.binds λ_ _ _ _ _ _ us hl=>by obtain ⟨_,_,rfl⟩:=L2.lq2 hl;rfl)
 ·obtain ⟨a,b,m,t,lo,hi,m',t',lo',hi',rfl,_⟩:=h;rfl
 ·obtain ⟨a,b,m,t,lo,hi,m',t',lo',hi',rfl,ha,hb,q⟩:=h
  refine ⟨_,(qac (qaf (qao (jA4 (qae qa1 (jT (pv 0) qaa) (jT (pv 1) qaa)) (qae qa1 (jT (pv 0) qaa) (jT (pv 1) qaa)) (qag (ql4 rfl) rfl T.b_min qo8 (jA2 (jT (pv 0) qaa) (jT (pv 1) qaa))) (qag (qdh rfl) rfl T.b_max qfj (jA2 (jT (pv 0) qaa) (jT (pv 1) qaa))))))),?_⟩
  walk_at "r";intro p H1 n1
  exact q p H1 n1
include T in
theorem qe2:qaw P w K mg base 1 "greater_edge" ["one", "other"] qin:=by
 obtain ⟨f,fd,F,hm⟩:=T.f_greater_edge;have nd:=sc_greater_edge.nd;refine F.def_ hm (F.ok sc_greater_edge (λvs H Q E h=>?_) (λcdv A outer s H vs Q E hr h=>?_)) (F.binds λ_ _ _ _ _ _ us hl=>by obtain ⟨_,_,rfl⟩:=L2.lq2 hl;rfl)
 ·obtain ⟨x,y,rfl,_⟩:=h;rfl
 ·obtain ⟨x,y,rfl,hx,hy,q⟩:=h
  refine ⟨_,(jB3 (qav (jC qc0 (pv 0) qau) (qac (qaf (pv 1))) qam) (qav (jC qc0 (pv 1) qau) (qac (qaf (pv 0))) qam) (qaf (qag (qdh rfl) rfl T.b_max qfj (jA2 (pv 0) (pv 1))))),?_⟩
  rcases hx with rfl|⟨i,rfl⟩
  ·exact ⟨_,rfl,rfl,_,rfl,qd2 ⟨_,rfl,q⟩⟩
  ·refine ⟨_,rfl,rfl,_,rfl,qgl ?_⟩
   rcases hy with rfl|⟨j,rfl⟩
   ·exact ⟨_,rfl,rfl,_,rfl,qd2 ⟨_,rfl,q⟩⟩
   ·exact ⟨_,rfl,rfl,_,rfl,qgl ⟨_,rfl,_,rfl,_,_,rfl,q⟩⟩
include T in
theorem qud:qqv P w K mg base 2 "greater" ["one", "other"] [] (qj9 C_NoRule):=by
 obtain ⟨f,fd,F,hm⟩:=T.f_greater;have nd:=sc_greater.nd;refine ⟨f,fd,(F.okX sc_greater (λvs H Q E h=>?_) (λcdv A outer s H vs Q E hr h=>?_)),hm,F.kp,(F.binds λ_ _ _ _ _ _ us hl=>by obtain ⟨_,_,rfl⟩:=L2.lq2 hl;rfl)⟩
 ·obtain ⟨a,b,xs,ys,rfl,_⟩:=h;rfl
 ·obtain ⟨a,b,xs,ys,rfl,ha,hb,hx,hy,hz,q,hE⟩:=h
  refine ⟨_,(jB2 (qav (jC qxn (qag qal rfl T.b_len qbn (jA1 (pv 0))) (qag qal rfl T.b_len qbn (jA1 (pv 1)))) (qac (qhn (qbb ⟨rfl,rfl,rfl⟩) rfl T.ex_NoRule rfl T.mg_NoRule (jA1 qb6))) qam) (qaf (qdi (vars:=[ "left", "right" ]) (frees:=[]) (fv:=[]) rfl (jL0 rfl) trivial (qib rfl T.b_zip (jA2 (pv 0) (pv 1))) (qcb (by decide) (by decide)) (λ_ _ _ _=>(jG2 (jM 0 [ "left", "right" ]) (jM 1 [ "left", "right" ]))) (λ_ _ _ _=>qa3) (λ_ _ _ _=>(jF (qe2 T) hr (jA2 (pv 0) (pv 1))))))),?_⟩;refine ⟨_,rfl,a,xs,rfl,.inl (SqL.of ha),_,rfl,b,ys,rfl,.inl (SqL.of hb),rfl,_,rfl,?_⟩
  by_cases he:xs.length=ys.length
  ·refine qz6 (by rw[he]) ?_
   refine ⟨_,rfl,_,rfl,a,b,xs,ys,rfl,SqL.of ha,SqL.of hb,?_⟩;refine qwt (xs:=xs) (λi zs H2=>Same H H2/\zs=(List.zipWith gE xs ys).take i) (Nat.le_of_lt (qah hz)) ⟨Same.refl _,rfl⟩ (λi zs H2 h2=>⟨SqL.of (h2.1 _ _ ha),SqL.of (h2.1 _ _ hb),by rw[h2.2];simp;omega⟩) ?_ ?_
   ·rintro i x y zs H2 p h1 h2 hn ⟨s2,rfl⟩
    have n:=qa8 (o:=.tup [x,y]) hn
    generalize upd H2 p _=H3 at n ⊢
    refine ⟨p,_,rfl,SqT.of n.at_,rfl,_,_,rfl,_,_,rfl,rfl,qo5 (qd2 ?_)⟩;exact ⟨_,rfl,_,rfl,x,y,rfl,hx x (List.mem_of_getElem? h1),hy y (List.mem_of_getElem? h2),s2.trans n.same,(qbq _ i _ (zip_get h1 h2)).symm⟩
   ·rintro i zs H2 p hi ⟨s2,rfl⟩ hn
    have n:=qa8 (o:=.lst ((List.zipWith gE xs ys).take i)) hn;have e:(List.zipWith gE xs ys).take i=List.zipWith gE xs ys:=List.take_of_length_le (by rw[List.length_zipWith,hi];exact Nat.le_refl _);rw[e] at n ⊢;exact q he p _ (New.after s2 n)
  ·refine qEn (λz=>he (by injection z with z;exact Int.ofNat.inj z)) ?_
   exact ⟨by show 1<=sizeLine;decide,hE he⟩
include T in
theorem qp3:qCn P w K mg base C_Roll 4 "Roll" ["self", "rule", "day"] [] (qgs C_Roll C_Rule):=by
 obtain ⟨f,fd,F,M⟩:=T.f_Roll_init;have nd:=sc_Roll_init.nd;refine ⟨f,fd,(F.ok sc_Roll_init (λvs H Q E h=>?_) (λcdv A outer s H vs Q E hr h=>?_)),T.mg_Roll,M,(F.binds λ_ _ _ _ _ _ us hl=>by obtain ⟨_,_,_,rfl⟩:=L2.lq3 hl;rfl)⟩
 ·obtain ⟨ro,dx,ru,rl,ps,g,day,rfl,_⟩:=h;rfl
 ·obtain ⟨ro,dx,ru,rl,ps,g,day,rfl,hro,R,Pg,hd,q⟩:=h
  obtain ⟨dx2,hru⟩:=R.ob;have nru:ru≠ro:=qbe hru hro (by intro z;injection z with _ _ z;have:=qyp rl (gv g);rw[z] at this;cases this);refine ⟨_,(jB5 (qd6 (pv 0) (pv 1) rfl) (qd6 (pv 0) (pv 2) rfl) (qd6 (pv 0) (jF (qrf T) hr (jA2 (pv 1) (pv 2))) rfl) (qd6 (pv 0) qpa rfl) (qd6 (pv 0) qpa rfl)),?_⟩;refine ⟨_,rfl,_,rfl,ro,C_Roll,dx,[],rfl,hro,T.cl_Roll,T.na_Roll_kept_rule,(by show 0<1000;decide),λH1 b1 h1=>?_⟩;refine ⟨_,rfl,_,rfl,ro,C_Roll,dx,_,rfl,h1,T.cl_Roll,T.na_Roll_kept_day,(by show 1<1000;decide),λH2 b2 h2=>?_⟩;have R2:=(R.but2 b1 hro qgq (by intro xs z;cases z) nru).but2 b2 h1 qgq (by intro xs z;cases z) nru;refine ⟨_,rfl,_,rfl,ru,rl,ps,g,day,rfl,R2,Pg,hd,λle H3 n3=>?_⟩;refine ⟨_,rfl,ro,C_Roll,dx,_,rfl,n3.same _ _ h2,T.cl_Roll,T.na_Roll_kept_edges,(by show 2<1000;decide),λH4 b4 h4=>?_⟩;intro dy H5 n5;refine ⟨_,rfl,ro,C_Roll,dx,_,rfl,n5.same _ _ h4,T.cl_Roll,T.na_Roll_whole_ones,(by show 3<1000;decide),λH6 b6 h6=>?_⟩;intro dh H7 n7;refine ⟨_,rfl,ro,C_Roll,dx,_,rfl,n7.same _ _ h6,T.cl_Roll,T.na_Roll_cell_heaps,(by show 4<1000;decide),λH8 b8 h8=>?_⟩;have R8:=((((R2.same n3.same).but2 b4 (n3.same _ _ h2) qgq (by intro xs z;cases z) nru).same n5.same |>.but2 b6 (n5.same _ _ h4) qgq (by intro xs z;cases z) nru).same n7.same).but2 b8 (n7.same _ _ h6) qgq (by intro xs z;cases z) nru;have bb:But ro H H8:=λb o e hb=>b8 _ _ (n7.same _ _ (b6 _ _ (n5.same _ _ (b4 _ _ (n3.same _ _ (b2 _ _ (b1 _ _ e hb) hb)) hb)) hb)) hb
  have fr:∀ b,b≠ro->H8 b=none->H b=none:=λb hb h0=>by
   cases e:H b with
   | none=>rfl
   | some o=>rw[bb b o e hb] at h0;cases h0
  have e4:H4 le=some (.lst (eV ps g day)):=b4 _ _ n3.at_ (qbe n3.at_ (n3.same _ _ h2) (by intro z;cases z));have e6:H6 dy=some (.dT []):=b6 _ _ n5.at_ (qbe n5.at_ (n5.same _ _ h4) (by intro z;cases z));have up2:∀ b o,H b=some o->b≠ro->H2 b=some o:=λb o e hb=>b2 _ _ (b1 _ _ e hb) hb
  have fr2:∀ b,H2 b=none->H b=none:=λb h0=>by
   cases e:H b with
   | none=>rfl
   | some o =>
    by_cases hb:b=ro
    ·subst hb;rw[h2] at h0;cases h0
    ·rw[up2 b o e hb] at h0;cases h0
  have fr4:∀ b,H4 b=none->H2 b=none:=λb h0=>by
   cases e:H2 b with
   | none=>rfl
   | some o =>
    by_cases hb:b=ro
    ·subst hb;rw[h4] at h0;cases h0
    ·rw[b4 _ _ (n3.same _ _ e) hb] at h0;cases h0
  have fr6:∀ b,H6 b=none->H4 b=none:=λb h0=>by
   cases e:H4 b with
   | none=>rfl
   | some o =>
    by_cases hb:b=ro
    ·subst hb;rw[h6] at h0;cases h0
    ·rw[b6 _ _ (n5.same _ _ e) hb] at h0;cases h0
  refine q le dy dh H8 (fr2 _ n3.fresh) (fr2 _ (fr4 _ n5.fresh)) (fr2 _ (fr4 _ (fr6 _ n7.fresh))) ⟨⟨dx,h8⟩,R8,?_,?_,?_,qai e6 n7.fresh⟩ bb
  ·have e8:=b8 _ _ (n7.same _ _ (b6 _ _ (n5.same _ _ e4) (qbe (n5.same _ _ e4) (n5.same _ _ h4) (by intro z;cases z)))) (qbe (n7.same _ _ (b6 _ _ (n5.same _ _ e4) (qbe (n5.same _ _ e4) (n5.same _ _ h4) (by intro z;cases z)))) (n7.same _ _ h6) (by intro z;cases z))
   show H8 le=some (.lst (((ps.map λp=>cut day p.1 p.2).map V.int) ++ [gv (g.map λz=>cut day z (lw ps))]))
   rw[<- (EdS.of Pg hd).eq];exact e8
  ·exact b8 _ _ (n7.same _ _ e6) (qbe (n7.same _ _ e6) (n7.same _ _ h6) (by intro z;cases z))
  ·exact b8 _ _ n7.at_ (qbe n7.at_ (n7.same _ _ h6) (by intro z;cases z))
include T in
theorem qci:qca P w K mg base C_Roll 2 "pour_into_cell" ["self", "cell", "heap"] (qmw C_Roll C_Rule):=by
 obtain ⟨f,fd,F,hm⟩:=T.f_Roll_pour_into_cell;have nd:=sc_Roll_pour_into_cell.nd;refine ⟨f,fd,(F.ok sc_Roll_pour_into_cell (λvs H Q E h=>?_) (λcdv A outer s H vs Q E hr h=>?_)),hm,(F.binds λ_ _ _ _ _ _ us hl=>by obtain ⟨_,_,_,rfl⟩:=L2.lq3 hl;rfl)⟩
 ·obtain ⟨ro,D,c,h,s,w',x,rfl,_⟩:=h;rfl
 ·obtain ⟨ro,D,c,h,s',w',x,rfl,A',hc,hh,hZ,hl,q⟩:=h
  obtain ⟨dx,hob⟩:=A'.ob;refine ⟨_,(qac (qav (qwi (qz0 (qh9 hr) (pv 1) (qbx (pv 0) rfl))) (qac (qk4 (qh9 hr) (qbx (pv 0) rfl) (pv 1) (jF (qv4 T) hr (jA2 (qn9 (qh9 hr) (qbx (pv 0) rfl) (pv 1) (λ_ _=>rfl)) (pv 2))) rfl)) (qac (qk4 (qh9 hr) (qbx (pv 0) rfl) (pv 1) (pv 2) rfl)))),?_⟩;refine ⟨_,rfl,_,rfl,ro,C_Roll,dx,_,_,rfl,hob,T.cl_Roll,T.na_Roll_cell_heaps,qkc _ _ _ _ _,D.dh,_,rfl,DGet.t (k:=kk s' w') A'.he hc,_,rfl,?_⟩
  cases e:qcr D.Z (kk s' w') with
  | none =>
   refine qgl ?_;refine ⟨_,rfl,_,rfl,ro,C_Roll,dx,_,_,rfl,hob,T.cl_Roll,T.na_Roll_cell_heaps,qkc _ _ _ _ _,_,rfl,D.dh,_,rfl,DPut.t (k:=kk s' w') A'.he hc (qah (by omega)),?_⟩;exact q h x _ (but_upd _ _ hh (qbe hh A'.he (by intro z;cases z))) (.inl ⟨e,rfl⟩) (A'.putZ but_upd qa2) but_upd
  | some xx =>
   obtain ⟨h0,m0,t0,lo0,hi0,rfl,hh0⟩:=hZ _ _ e;refine qd2 ?_;refine ⟨_,rfl,ro,C_Roll,dx,_,_,rfl,hob,T.cl_Roll,T.na_Roll_cell_heaps,qkc _ _ _ _ _,_,rfl,D.dh,_,rfl,(by have:=DGet.t (k:=kk s' w') A'.he hc;rwa [e] at this),_,rfl,?_⟩;refine ⟨h0,h,m0,t0,lo0,hi0,x.1,x.2.1,x.2.2.1,x.2.2.2,rfl,hh0,hh,λp H1 n1=>?_⟩;have A1:=A'.same n1.same;refine ⟨_,rfl,ro,C_Roll,dx,_,_,rfl,n1.same _ _ hob,T.cl_Roll,T.na_Roll_cell_heaps,qkc _ _ _ _ _,_,rfl,D.dh,_,rfl,DPut.t (k:=kk s' w') A1.he (n1.same _ _ hc) (qah (by omega)),?_⟩;refine q p (mg4 (m0,t0,lo0,hi0) x) _ (but_upd _ _ n1.at_ (qbe n1.at_ A1.he (by intro z;cases z))) (.inr ⟨h0,(m0,t0,lo0,hi0),e,hh0,rfl⟩) (A1.putZ but_upd qa2) λb o eo hb=>but_upd _ _ (n1.same _ _ eo) hb
include T in
theorem qrh:∃ f fd dT o n t,qf6 P w K mg base CX0 4 f fd ["self", "time", "value", "many"] (qfn C_Roll C_Rule)/\FunD K "put" "Roll.put" qge (.ref dT) f fd/\qeo K C_Roll "put" f/\fd.defaults=.ref dT/\K.lookup dT=some o/\o.data=.seq #[.int 1 t] n:=by
 obtain ⟨f,fd,dT,o,n,t,F,M,h1,h2,h3⟩:=T.f_Roll_put;have nd:=sc_Roll_put.nd;refine ⟨f,fd,dT,o,n,t,(F.ok sc_Roll_put (λvs H Q E h=>?_) (λcdv A outer s H vs Q E hr h=>?_)),F,M,h1,h2,h3⟩
 ·obtain ⟨ro,D,t,v,m,rfl,_⟩:=h;rfl
 ·obtain ⟨ro,D,t,v,m,rfl,A',ok,ht,z1,rok,hY,hZ,ly,lz,q⟩:=h
  obtain ⟨dx,hob⟩:=A'.ob;refine ⟨_,(jB5 (qav (jC qe5 (pv 3) qaa) (qac qc4) qam) (jS 4 nd (jF (qnj T) hr (jA3 (qbx (pv 0) rfl) (qbx (pv 0) rfl) (pv 1)))) (qav (jC qc0 (pv 4) qau) (qac (qaf qlw)) qam) (qav (jC qb0 (jT (pv 4) qaa) qaa) (qac (qk4 (qh9 hr) (qbx (pv 0) rfl) (qao (jA2 (pv 1) (pv 2))) (qae qa1 (qo2 (qh9 hr) (qbx (pv 0) rfl) (qao (jA2 (pv 1) (pv 2))) qaa ⟨rfl,rfl,rfl,rfl⟩) (pv 3)) rfl)) (qac (qa0 (qcs (pv 0) T.cl_Roll (qci T) (hr.mono (by decide)) (jA2 (pv 4) (jF (qnk T) hr (jA1 (qax (jA1 (qao (jA2 (pv 2) (pv 3)))))))))))) (qaf qlw)),?_⟩
  walk_at "r"
  refine qcj (λz=>?_) λz=>?_
  ·exact absurd (of_decide_eq_true z) (by omega)
  have lo:=ok.pr.good.lo;refine ⟨_,rfl,ro,C_Roll,dx,_,_,rfl,hob,T.cl_Roll,T.na_Roll_kept_rule,qtm _ _ _ _ _,_,rfl,ro,C_Roll,dx,_,_,rfl,hob,T.cl_Roll,T.na_Roll_kept_edges,qpn _ _ _ _ _,_,rfl,D.ru,D.rl,D.ps,D.g,D.le,D.es,D.ge,t,rfl,A'.rule,A'.ed,ok.es,lo,ok.pr.good.hi,ok.pr.size,ht,λcv o H1 hc cat s1=>?_⟩;have hob1:=s1 _ _ hob;have A1:=A'.same s1
  cases o with
  | none =>
   cases (show cv=.non from cat)
   walk_at "r"
   exact q none hc D H1 (.inl ⟨rfl,rfl⟩) A1 λc o e _ _=>s1 _ _ e
  | some p =>
   obtain ⟨c,rfl,hcv⟩:=cat;have hp:=CellOf.some_ hc (by rw[ok.es];exact lo) λw' hw'=>ok.pr.w1 hw'
   rcases hp with rfl|hp
   ·walk_at "r"
    refine ⟨ro,C_Roll,dx,_,_,rfl,hob1,T.cl_Roll,T.na_Roll_whole_ones,qpo _ _ _ _ _,D.dy,rfl,.inr ⟨_,.inl A1.yo⟩,?_⟩
    walk_at "r";intro p2 H2 n2
    have A2:=A1.same n2.same;refine ⟨_,DGet.t (k:=kk t v) A2.yo n2.at_,?_⟩;rw[qA9 hY]
    walk_at "r"
    refine ⟨ro,C_Roll,dx,_,_,rfl,n2.same _ _ hob1,T.cl_Roll,T.na_Roll_whole_ones,qpo _ _ _ _ _,?_⟩
    walk_at "r";intro p3 H3 n3
    have A3:=A2.same n3.same;refine ⟨D.dy,_,rfl,DPut.t (k:=kk t v) A3.yo n3.at_ (qah (by omega)),?_⟩
    show Q _ _
    exact q (some (t,0)) hc _ _ (.inr (.inl ⟨rfl,rfl⟩)) (A3.putY but_upd qa2) λc o e hc1 _=>but_upd _ _ (n3.same _ _ (n2.same _ _ (s1 _ _ e))) hc1
   ·walk_at "r"
    refine qcj (λz=>?_) λz=>?_
    ·exact absurd z (by simp;omega)
    refine ⟨_,rfl,ro,dx,_,rfl,hob1,qpp _ _ _ _ _,_,rfl,?_⟩
    walk_at "r";intro p2 H2 n2
    walk_at "r";intro p3 H3 n3
    refine ⟨p3,_,[(v,m)],rfl,n3.at_,.cons ⟨p2,rfl,n3.same _ _ n2.at_⟩ .nil,(λq hq=>by rw[List.mem_singleton.mp hq];exact rok),by simp,(λe=>by cases e),λ_ h4 a' b' lo' hi' H4 hof n4=>?_⟩;have s4:Same H1 H4:=n2.same.trans (n3.same.trans n4.same);refine ⟨ro,D,c,h4,p.1,p.2,(a',b',lo',hi'),rfl,A1.same s4,s4 _ _ hcv,n4.at_,hZ.same (s1.trans s4),lz,λh5 y H5 e5 po A5 b5=>?_⟩
    show Q _ _
    refine q (some p) hc _ H5 (.inr (.inr ⟨p.1,p.2,h5,y.1,y.2.1,y.2.2.1,y.2.2.2,rfl,hp,rfl,e5,?_⟩)) A5 λc o e _ hc2=>b5 _ _ (s4 _ _ (s1 _ _ e)) hc2
    rcases po with ⟨po1,rfl⟩|⟨h0,x0,e1,e2,rfl⟩
    ·exact .inl ⟨po1,hof⟩
    ·obtain ⟨h0',m0',t0',lo0',hi0',e4,e9⟩:=hZ _ _ e1
     cases e4;rw[s4 _ _ (s1 _ _ e9)] at e2;have e6:v4 (m0',t0',lo0',hi0')=v4 x0:=by injection e2 with e2;injection e2
     have e7:=qxc e6;subst e7;exact .inr ⟨h0,m0',t0',lo0',hi0',a',b',lo',hi',e1,e9,hof,rfl,rfl,rfl,rfl⟩
include T in
theorem qg6:qDr P w K mg base C_Roll 4 "put" ["self", "time", "value", "many"] [] (qfn C_Roll C_Rule):=by
 obtain ⟨f,fd,dT,o,n,t,hf,F,M,h1,h2,h3⟩:=qrh (P:=P) (w:=w) (base:=base) T;refine ⟨f,fd,hf,M,qoa h1 h2 h3 λus hl=>?_⟩;obtain ⟨oc,od,kV,doc,pm,an,cdv,ct,osl,rfl,lk,hcd⟩:=F.ex;obtain ⟨_,_,_,_,rfl⟩:=L2.lq4 (us:=us) (by simpa using hl);exact ⟨_,rfl,rfl⟩
include T in
theorem qot:qca P w K mg base C_Roll 1 "rule" ["self"] (qvx C_Roll C_Rule):=by
 obtain ⟨f,fd,F,hm⟩:=T.f_Roll_rule;have nd:=sc_Roll_rule.nd;refine ⟨f,fd,(F.ok sc_Roll_rule (λvs H Q E h=>?_) (λcdv A outer s H vs Q E hr h=>?_)),hm,(F.binds λ_ _ _ _ _ _ us hl=>by obtain ⟨_,rfl⟩:=L2.lq1 hl;rfl)⟩
 ·obtain ⟨ro,D,rfl,_⟩:=h;rfl
 ·obtain ⟨ro,D,rfl,A',q⟩:=h
  obtain ⟨dx,hob⟩:=A'.ob;refine ⟨_,(qac (qaf (qbx (pv 0) rfl))),?_⟩;exact ⟨_,rfl,ro,C_Roll,dx,_,_,rfl,hob,T.cl_Roll,T.na_Roll_kept_rule,qtm _ _ _ _ _,q⟩
include T in
theorem qku:qca P w K mg base C_Roll 1 "day" ["self"] (qyu C_Roll C_Rule):=by
 obtain ⟨f,fd,F,hm⟩:=T.f_Roll_day;have nd:=sc_Roll_day.nd;refine ⟨f,fd,(F.ok sc_Roll_day (λvs H Q E h=>?_) (λcdv A outer s H vs Q E hr h=>?_)),hm,(F.binds λ_ _ _ _ _ _ us hl=>by obtain ⟨_,rfl⟩:=L2.lq1 hl;rfl)⟩
 ·obtain ⟨ro,D,rfl,_⟩:=h;rfl
 ·obtain ⟨ro,D,rfl,A',q⟩:=h
  obtain ⟨dx,hob⟩:=A'.ob;refine ⟨_,(qac (qaf (qbx (pv 0) rfl))),?_⟩;exact ⟨_,rfl,ro,C_Roll,dx,_,_,rfl,hob,T.cl_Roll,T.na_Roll_kept_day,qA6 _ _ _ _ _,q⟩
include T in
theorem qeh:qca P w K mg base C_Roll 1 "edges" ["self"] (qtp C_Roll C_Rule):=by
 obtain ⟨f,fd,F,hm⟩:=T.f_Roll_edges;have nd:=sc_Roll_edges.nd;refine ⟨f,fd,(F.ok sc_Roll_edges (λvs H Q E h=>?_) (λcdv A outer s H vs Q E hr h=>?_)),hm,(F.binds λ_ _ _ _ _ _ us hl=>by obtain ⟨_,rfl⟩:=L2.lq1 hl;rfl)⟩
 ·obtain ⟨ro,D,rfl,_⟩:=h;rfl
 ·obtain ⟨ro,D,rfl,A',q⟩:=h
  obtain ⟨dx,hob⟩:=A'.ob;refine ⟨_,(qac (qaf (qce qcy rfl T.b_list qds (jA1 (qbx (pv 0) rfl))))),?_⟩;exact ⟨_,rfl,ro,C_Roll,dx,_,_,rfl,hob,T.cl_Roll,T.na_Roll_kept_edges,qpn _ _ _ _ _,D.le,_,rfl,.inl (SqL.of A'.ed),q⟩
theorem qxe {H:Hp} {D:qay} {s:Abs} {LY LZ:List (List Int)} (h:RAbs H D s LY LZ) (k:List Int):qcr D.Z (kI k)≠none↔s.z k≠none:=by
 cases e:s.z k with
 | none=>simp[h.zn k e]
 | some p=>obtain ⟨a,e1,_⟩:=h.zs k p e;rw[e1];simp
include T in
theorem qei:qca P w K mg base C_Roll 1 "young" ["self"] (qiw C_Roll C_Rule):=by
 obtain ⟨f,fd,F,hm⟩:=T.f_Roll_young;have nd:=sc_Roll_young.nd;refine ⟨f,fd,(F.ok sc_Roll_young (λvs H Q E h=>?_) (λcdv A outer s H vs Q E hr h=>?_)),hm,(F.binds λ_ _ _ _ _ _ us hl=>by obtain ⟨_,rfl⟩:=L2.lq1 hl;rfl)⟩
 ·obtain ⟨ro,D,ab,LY,LZ,rfl,_⟩:=h;rfl
 ·obtain ⟨ro,D,ab,LY,LZ,rfl,A',RA,hL,q⟩:=h
  obtain ⟨dx,hob⟩:=A'.ob;obtain ⟨ks,dk,hks⟩:=RA.yk;have hkl:ks.length<64:=Nat.lt_of_le_of_lt (List.Nodup.length_le_of_subset dk.nd hks) hL;refine ⟨_,(qac (qaf (qdi (vars:=[ "key" ]) (frees:=[ "self" ]) (fv:=[0]) rfl (jL1 rfl) ⟨⟨rfl,.inl rfl,rfl,.inl rfl⟩,trivial⟩ (qap (qag (qgo rfl) rfl T.b_sorted qfk (jA1 (qbx (pv 0) rfl)))) (qbp (by decide)) (λ_ _ _ _=>(jM 0 [ "key", "self" ])) (λ_ _ _ _=>qa3) (λ_ _ _ _=>(qae (show OpR _ _ (qo9 K) from qk6) (pv 0) (qao (jA1 (qn9 (by exact qh9 hr) (show PE _ _ (qCd K _ _) from qbx (pv 1) rfl) (pv 0) (λ_ _=>rfl))))))))),?_⟩;refine ⟨_,rfl,ro,C_Roll,dx,_,_,rfl,hob,T.cl_Roll,T.na_Roll_whole_ones,qpo _ _ _ _ _,D.dy,D.Y,ks,rfl,A'.yo,dk.eq,hkl,dk.nd,dk.ne',λms zs l1 H1 pm sm tz n1=>?_⟩;have sk:SKeys ab.y ms:=SKeys.ofD dk (λk=>by rw[RA.yv];cases ab.y k<;>simp) pm sm;have hml:ms.length=ks.length:=pm.length_eq;have tz1:Tups H1 zs ms:=Tups.same n1.same (show Tups H zs ms from tz);have hzl:=tz1.length;refine ⟨l1,rfl,⟨_,SqL.of n1.at_⟩,qa9 (xs:=zs) (λi ys H2=>Same H1 H2/\Tups H2 ys ((ms.take i).map (qmv ab))) (Nat.le_of_lt (qah (by omega))) ⟨Same.refl _,.nil⟩ (λi ys H2 h2=>⟨SqL.of (h2.1 _ _ n1.at_),by have:=h2.2.length;rw[this,List.length_map,List.length_take];omega⟩) ?_ ?_⟩
  ·rintro i x ys H2 hi ⟨s2,ty⟩
   obtain ⟨k,hki,b,rfl,hb⟩:=tz1.get hi;have hkm:k∈ms:=List.mem_of_getElem? hki;have hk2:=dk.ne k (pm.mem_iff.mp hkm);have s02:=n1.same.trans s2;have A2:=A'.same s02;have hb2:=s2 _ _ hb;obtain ⟨n,hn⟩:∃ n,ab.y k=some n:=by
    cases e:ab.y k with
    | none=>exact absurd e ((sk.mem k).mp hkm)
    | some n=>exact ⟨n,rfl⟩
   have hv:qcr D.Y (kI k)=some (.int n):=by rw[RA.yv,hn];rfl
   refine qb8 (qo5 (qd2 ?_));refine ⟨_,rfl,_,rfl,ro,C_Roll,dx,_,_,rfl,s02 _ _ hob,T.cl_Roll,T.na_Roll_whole_ones,qpo _ _ _ _ _,_,rfl,D.dy,.int n,rfl,?_,(by show 1<=sizeLine;decide),λp3 H3 n3=>?_⟩
   ·have:=DGet.t (k:=kI k) A2.yo (by rw[qBb];exact hb2)
    rw[hv] at this;exact this
   ·refine ⟨b,p3,_,_,rfl,rfl,SqT.of (n3.same _ _ hb2),SqT.of n3.at_,(by intro z;have:=congrArg List.length z;rw[List.length_map,hk2] at this;cases this),(by intro z;cases z),(by rw[List.length_map,hk2];show 2+1<=sizeLine;decide),λp4 H4 n4=>?_⟩
    have s4:=n3.same.trans n4.same;refine ⟨s2.trans s4,?_⟩;rw[qbq _ i _ hki,List.map_append];refine Tups.snoc ⟨p4,rfl,?_⟩ (ty.same s4);rw[n4.at_]
    show some (HO.tup (k.map V.int ++ [V.int n]))=some (.tup ((k ++ [(ab.y k).getD 0]).map V.int))
    rw[hn,List.map_append];rfl
  ·rintro ys H2 l3 H3 ⟨s2,ty⟩ n3
   rw[hzl,List.take_length] at ty;exact q l3 ys ms H3 (n1.same.trans (s2.trans n3.same)) ((n1.same.trans s2).free n3.fresh) n3.at_ sk (by omega) (ty.same n3.same)
include T in
theorem qej:qca P w K mg base C_Roll 1 "heaps" ["self"] (qix C_Roll C_Rule):=by
 obtain ⟨f,fd,F,hm⟩:=T.f_Roll_heaps;have nd:=sc_Roll_heaps.nd;refine ⟨f,fd,(F.ok sc_Roll_heaps (λvs H Q E h=>?_) (λcdv A outer s H vs Q E hr h=>?_)),hm,(F.binds λ_ _ _ _ _ _ us hl=>by obtain ⟨_,rfl⟩:=L2.lq1 hl;rfl)⟩
 ·obtain ⟨ro,D,ab,LY,LZ,rfl,_⟩:=h;rfl
 ·obtain ⟨ro,D,ab,LY,LZ,rfl,A',RA,hL,q⟩:=h
  obtain ⟨dx,hob⟩:=A'.ob;obtain ⟨ks,dk,hks⟩:=RA.zk;have hkl:ks.length<64:=Nat.lt_of_le_of_lt (List.Nodup.length_le_of_subset dk.nd hks) hL;refine ⟨_,(qac (qaf (qdi (vars:=[ "cell" ]) (frees:=[ "self" ]) (fv:=[0]) rfl (jL1 rfl) ⟨⟨rfl,.inl rfl,rfl,.inl rfl⟩,trivial⟩ (qap (qag (qgo rfl) rfl T.b_sorted qfk (jA1 (qbx (pv 0) rfl)))) (qbp (by decide)) (λ_ _ _ _=>(jM 0 [ "cell", "self" ])) (λ_ _ _ _=>qa3) (λ_ _ _ _=>(qae (show OpR _ _ (qo9 K) from qk6) (pv 0) (qn9 (by exact qh9 hr) (show PE _ _ (qCd K _ _) from qbx (pv 1) rfl) (pv 0) (λ_ _=>rfl))))))),?_⟩;refine ⟨_,rfl,ro,C_Roll,dx,_,_,rfl,hob,T.cl_Roll,T.na_Roll_cell_heaps,qkc _ _ _ _ _,D.dh,D.Z,ks,rfl,A'.he,dk.eq,hkl,dk.nd,dk.ne',λms zs l1 H1 pm sm tz n1=>?_⟩;have sk:SKeys ab.z ms:=SKeys.ofD dk (λk=>qxe RA k) pm sm;have hml:ms.length=ks.length:=pm.length_eq;have tz1:Tups H1 zs ms:=Tups.same n1.same (show Tups H zs ms from tz);have hzl:=tz1.length;refine ⟨l1,rfl,⟨_,SqL.of n1.at_⟩,qa9 (xs:=zs) (λi ys H2=>Same H1 H2/\Tups H2 ys ((ms.take i).map (qjv ab))) (Nat.le_of_lt (qah (by omega))) ⟨Same.refl _,.nil⟩ (λi ys H2 h2=>⟨SqL.of (h2.1 _ _ n1.at_),by have:=h2.2.length;rw[this,List.length_map,List.length_take];omega⟩) ?_ ?_⟩
  ·rintro i x ys H2 hi ⟨s2,ty⟩
   obtain ⟨k,hki,b,rfl,hb⟩:=tz1.get hi;have hkm:k∈ms:=List.mem_of_getElem? hki;have hk2:=dk.ne k (pm.mem_iff.mp hkm);have s02:=n1.same.trans s2;have A2:=A'.same s02;have hb2:=s2 _ _ hb;obtain ⟨n,hn⟩:∃ n,ab.z k=some n:=by
    cases e:ab.z k with
    | none=>exact absurd e ((sk.mem k).mp hkm)
    | some n=>exact ⟨n,rfl⟩
   obtain ⟨hh,hv,hht⟩:=RA.zs k n hn;refine qb8 (qo5 (qd2 ?_));refine ⟨_,rfl,_,rfl,ro,C_Roll,dx,_,_,rfl,s02 _ _ hob,T.cl_Roll,T.na_Roll_cell_heaps,qkc _ _ _ _ _,?_⟩;refine ⟨_,rfl,D.dh,.ref hh,rfl,?_,?_⟩
   ·have:=DGet.t (k:=kI k) A2.he (by rw[qBb];exact hb2)
    rw[hv] at this;exact this
   ·refine ⟨b,hh,_,_,rfl,rfl,SqT.of hb2,SqT.of (s02 _ _ hht),(by intro z;have:=congrArg List.length z;rw[List.length_map,hk2] at this;cases this),(by intro z;cases z),(by rw[List.length_map,hk2];show 2+4<=sizeLine;decide),λp4 H4 n4=>?_⟩
    refine ⟨s2.trans n4.same,?_⟩;rw[qbq _ i _ hki,List.map_append];refine Tups.snoc ⟨p4,rfl,?_⟩ (ty.same n4.same);rw[n4.at_]
    show some (HO.tup (k.map V.int ++ v4 n))=some (.tup ((k ++ i4 ((ab.z k).getD (0,0,0,0))).map V.int))
    rw[hn,List.map_append];rfl
  ·rintro ys H2 l3 H3 ⟨s2,ty⟩ n3
   rw[hzl,List.take_length] at ty;exact q l3 ys ms H3 (n1.same.trans (s2.trans n3.same)) ((n1.same.trans s2).free n3.fresh) n3.at_ sk (by omega) (ty.same n3.same)
include T in
theorem qhd:qca P w K mg base C_Roll 4 "take_heap" ["self", "start", "heap"] (qpr C_Roll C_Rule):=by
 obtain ⟨f,fd,F,hm⟩:=T.f_Roll_take_heap;have nd:=sc_Roll_take_heap.nd;refine ⟨f,fd,(F.ok sc_Roll_take_heap (λvs H Q E h=>?_) (λcdv A outer s H vs Q E hr h=>?_)),hm,(F.binds λ_ _ _ _ _ _ us hl=>by obtain ⟨_,_,_,rfl⟩:=L2.lq3 hl;rfl)⟩
 ·obtain ⟨ro,c,s,LY,LZ,a,h,x,rfl,_⟩:=h;rfl
 ·obtain ⟨ro,c,s',LY,LZ,a,h,x,rfl,⟨Y,Z,A',B'⟩,ok,ha,hh,lz,hz,q⟩:=h
  obtain ⟨dx,hob⟩:=A'.ob;refine ⟨_,(jB2 (jS 3 nd (jF (qnj T) hr (jA3 (qbx (pv 0) rfl) (qbx (pv 0) rfl) (pv 1)))) (qav (jC qd4 (pv 3) qau) (qac (qa0 (qcs (pv 0) T.cl_Roll (qci T) (hr.mono (by decide)) (jA2 (pv 3) (pv 2))))) qam)),?_⟩;have lo:=ok.pr.good.lo;refine ⟨_,rfl,ro,C_Roll,dx,_,_,rfl,hob,T.cl_Roll,T.na_Roll_kept_rule,qtm _ _ _ _ _,_,rfl,ro,C_Roll,dx,_,_,rfl,hob,T.cl_Roll,T.na_Roll_kept_edges,qpn _ _ _ _ _,_,rfl,c.ru,c.rl,c.ps,c.g,c.le,c.es,c.ge,a,rfl,A'.rule,A'.ed,ok.es,lo,ok.pr.good.hi,ok.pr.size,ha,λcv o H1 hc cat s1=>?_⟩;have hob1:=s1 _ _ hob;have A1:=A'.same s1;have eo:cellD c a=o:=qlg (by rw[ok.es];exact lo) hc
  cases o with
  | none =>
   cases (show cv=.non from cat)
   walk_at "r"
   refine q H1 ?_ λb o e _ _=>s1 _ _ e
   unfold qdl;rw[eo];exact ⟨Y,Z,A1,B'.same s1⟩
  | some p =>
   obtain ⟨cc,rfl,hcv⟩:=cat;obtain ⟨b,w'⟩:=p;have B1:=B'.same s1
   walk_at "r"
   refine ⟨ro,dx,_,rfl,hob1,qpp _ _ _ _ _,_,rfl,_,rfl,?_⟩;simp only[qlv,List.cons_append,List.nil_append,List.append_nil];refine ⟨ro,_,cc,h,b,w',x,rfl,A1,hcv,s1 _ _ hh,B1.ZOk,Nat.le_trans B1.zlen (by omega),λh2 y H2 hh2 po A2 b2=>?_⟩
   show Q _ _
   have bb:But2 c.dy c.dh H H2:=λz o e _ n2=>b2 _ _ (s1 _ _ e) n2
   refine q H2 ?_ bb;unfold qdl;rw[eo];exact ⟨Y,_,A2,B1.pour po hh2 (λz xs e=>b2 _ _ e (qbe e A1.he (by intro z;cases z))) (hz b w' eo)⟩
abbrev IvT (C_Roll C_Rule:Addr) (H1:Hp) (ro r2:Addr) (c:qay) (s2 s':Abs) (LY LZ:List (List Int)) (i:Nat) (σ:St) (H3:Hp):Prop:=But2 c.dy c.dh H1 H3/\RR C_Roll C_Rule H3 ro c (((qbh s2).take i).foldl (qcp (cellD c)) s') LY LZ/\∃ v3 v4 v5:Option V,σ=[some (.ref ro),some (.ref r2),v3,v4,v5,none]
abbrev IvU (C_Roll C_Rule:Addr) (H4:Hp) (ro r2:Addr) (c:qay) (s2 s':Abs) (LY LZ:List (List Int)) (v3 v4 v5:Option V) (i:Nat) (σ:St) (H5:Hp):Prop:=But2 c.dy c.dh H4 H5/\RR C_Roll C_Rule H5 ro c (((qbc s2).take i).foldl (qbv (cellD c)) ((qbh s2).foldl (qcp (cellD c)) s')) LY LZ/\∃ v6:Option V,σ=[some (.ref ro),some (.ref r2),v3,v4,v5,v6]
include T in
theorem qjg:qca P w K mg base C_Roll 5 "take_all" ["self", "roll"] (qiy C_Roll C_Rule):=by
 obtain ⟨f,fd,F,hm⟩:=T.f_Roll_take_all;have nd:=sc_Roll_take_all.nd;refine ⟨f,fd,(F.ok sc_Roll_take_all (λvs H Q E h=>?_) (λcdv A outer s H vs Q E hr h=>?_)),hm,(F.binds λ_ _ _ _ _ _ us hl=>by obtain ⟨_,_,rfl⟩:=L2.lq2 hl;rfl)⟩
 ·obtain ⟨ro,r2,c,c2,s,s2,LY,LZ,LY2,LZ2,rfl,_⟩:=h;rfl
 ·obtain ⟨ro,r2,c,c2,s',s2,LY,LZ,LY2,LZ2,rfl,R1,R2,ok,ap,ly,lz,ly2,lz2,tk,q⟩:=h
  obtain ⟨dx,hob⟩:=R1.obj;obtain ⟨dx2,hob2⟩:=R2.obj;refine ⟨_,(jB2 (qb7 PassesOwn.never rfl (qap (qcf (pv 1) T.cl_Roll (qei T) (hr.mono (by decide)))) (jG3 (jN 2 nd) (jN 3 nd) (jN 4 nd)) (qac (qa0 (qw0 (pv 0) T.cl_Roll (qg6 T) (hr.mono (by decide)) .nil (jA3 (pv 2) (pv 3) (pv 4)))))) (qb7 PassesOwn.never rfl (qap (qcf (pv 1) T.cl_Roll (qej T) (hr.mono (by decide)))) (jN 5 nd) (qac (qa0 (qcs (pv 0) T.cl_Roll (qhd T) (hr.mono (by decide)) (jA2 (jT (pv 5) qaa) (qcq qo0 (pv 5) (qcl qaa) qf7))))))),?_⟩;refine ⟨_,rfl,r2,dx2,_,rfl,hob2,qis _ _ _ _ _,?_⟩;simp only[qlv,List.cons_append,List.nil_append,List.append_nil];refine R2.young ly2 λl xs H1 s1 f1 hl tl kl=>?_
  have R1a:=R1.same s1;obtain ⟨⟨Y1,hY1⟩,⟨Z1,hZ1⟩⟩:=R1a.dicts;refine ⟨l,rfl,⟨_,SqL.of hl⟩,qbt (D:={ nx:=_,rt:=Q }) (xs:=xs) (λi σ H3=>IvT C_Roll C_Rule H1 ro r2 c s2 s' LY LZ i σ H3) ⟨But2.refl _ _ _,R1a,none,none,none,rfl⟩ (λi σ H3 _ h3=>SqL.of (h3.1.keep hY1 hZ1 hl (by intro K z;cases z))) ?_ ?_⟩
  ·rintro i x σ H3 hxi ⟨b3,R3,v3,v4,v5,rfl⟩
   obtain ⟨r',hr',ta,rfl,hta⟩:=tl.get hxi;obtain ⟨t,v,m,rfl,rok,hy,hz⟩:=tk.y r' (List.mem_of_getElem? hr');have hta3:=b3.keep hY1 hZ1 hta (by intro K z;cases z);obtain ⟨dx3,hob3⟩:=R3.obj;refine ⟨ta,_,rfl,SqT.of hta3,rfl,_,_,rfl,_,_,rfl,_,_,rfl,rfl,?_⟩;refine ⟨_,rfl,ro,dx3,_,rfl,hob3,qtn _ _ _ _ _,_,rfl,_,rfl,_,rfl,?_⟩;simp only[qlv,List.cons_append,List.nil_append,List.append_nil];refine R3.put ok rok.1 rok.2.2.1 rok.2 ly lz hy hz λH4 R4 b4=>?_
   refine ⟨b3.trans b4,?_,_,_,_,rfl⟩;rw[qbq _ i _ hr',List.foldl_append];exact R4
  ·rintro σ H3 ⟨b3,R3,v3,v4,v5,rfl⟩
   rw[tl.length,List.take_length] at R3;have R2':=(R2.same s1).frame b3 hY1 hZ1 ap.1 ap.2.1 ap.2.2.1 ap.2.2.2;obtain ⟨dx4,hob4⟩:=R2'.obj;refine ⟨_,rfl,r2,dx4,_,rfl,hob4,qit _ _ _ _ _,?_⟩;simp only[qlv,List.cons_append,List.nil_append,List.append_nil];refine R2'.heaps lz2 λl4 xs4 H4 s4 f4 hl4 tl4 kl4=>?_
   have R4:=R3.same s4;obtain ⟨⟨Y4,hY4⟩,⟨Z4,hZ4⟩⟩:=R4.dicts;have b04:But2 c.dy c.dh H H4:=λz o e n1 n2=>s4 _ _ (b3 _ _ (s1 _ _ e) n1 n2)
   refine ⟨l4,rfl,⟨_,SqL.of hl4⟩,qbt (D:={ nx:=_,rt:=Q }) (xs:=xs4) (λi σ H5=>IvU C_Roll C_Rule H4 ro r2 c s2 s' LY LZ v3 v4 v5 i σ H5) ⟨But2.refl _ _ _,R4,none,rfl⟩ (λi σ H5 _ h5=>SqL.of (h5.1.keep hY4 hZ4 hl4 (by intro K z;cases z))) ?_ ?_⟩
   ·rintro i x σ H5 hxi ⟨b5,R5,v6,rfl⟩
    obtain ⟨r',hr',ta,rfl,hta⟩:=tl4.get hxi;obtain ⟨a,w',m,t,lo,hi,rfl,ha,hz⟩:=tk.z r' (List.mem_of_getElem? hr');have hta5:=b5.keep hY4 hZ4 hta (by intro K z;cases z);obtain ⟨dx5,hob5⟩:=R5.obj
    walk_at "r"
    refine ⟨ro,dx5,_,rfl,hob5,qfl _ _ _ _ _ (by decide +kernel) (by decide +kernel) (by decide +kernel) (by decide +kernel) (by decide +kernel),?_⟩
    walk_at "r"
    refine ⟨λz=>by have z1:HT.sIx 6 0 (some 2)=0:=z.1;revert z1;decide,λp hp=>?_⟩;have n6:New H5 (upd H5 p (.tup (qhj (List.map V.int [a,w',m,t,lo,hi]) (some 2) none))) p (.tup (TB.v4 (m,t,lo,hi))):=qa8 hp;simp only[qlv,List.cons_append,List.nil_append,List.append_nil];refine ⟨ro,c,_,LY,LZ,a,p,(m,t,lo,hi),rfl,R5.same n6.same,ok,ha,n6.at_,lz,hz,λH7 R7 b7=>?_⟩;refine ⟨λz o e n1 n2=>b7 _ _ (n6.same _ _ (b5 _ _ e n1 n2)) n1 n2,?_,_,rfl⟩;rw[qbq _ i _ hr',List.foldl_append];exact R7
   ·rintro σ H5 ⟨b5,R5,v6,rfl⟩
    rw[tl4.length,List.take_length] at R5;exact q H5 R5 (b04.trans b5)
theorem qy2 (ru:Addr) (day:Int) (le dy dh p:Addr):qhi "kept_edges" (.ref p) (rof ru day le dy dh)=rof ru day p dy dh:=by rfl
inductive qp4 (C R N:Addr) (vs:List V) (H:Hp) (Q:VK) (E:XK):Prop
 | mk:∀ (ru rl e:Addr) (ps:List (Int×Int)) (g:Option Int) (day:Int) (EV:List V),vs=[.ref ru,.int day,.ref e]->RuleAt R H ru rl ps g->Pr ps g->Bd day->H e=some (.lst EV)->(∀ v∈EV,Ed v)->EV.length<=10->(EV.length≠ps.length+1->∀ H',Same H H'->E (.ref N) none H')->(EV.length=ps.length+1->∃ (es:List Int) (ge:Option Int),EdS EV es ge/\es.length=ps.length/\∀ ro c H',RollAt C R H' ro c->c.ps=ps->c.g=g->c.day=day->c.Y=[]->c.Z=[]->EdS (List.zipWith gE (eV ps g day) EV) c.es c.ge->c.es.length=ps.length->Same H H'->H c.dy=none->H c.dh=none->(c.ru=ru/\c.rl=rl/\H c.le=none)->Q (.ref ro) H')->qp4 C R N vs H Q E
include T in
theorem qy3:qqv P w K mg base 6 "begun" ["rule", "day", "edges"] [] (qp4 C_Roll C_Rule C_NoRule):=by
 obtain ⟨f,fd,F,hm⟩:=T.f_begun;have nd:=sc_begun.nd;refine ⟨f,fd,(F.okX sc_begun (λvs H Q E h=>?_) (λcdv A outer s H vs Q E hr h=>?_)),hm,F.kp,(F.binds λ_ _ _ _ _ _ us hl=>by obtain ⟨_,_,_,rfl⟩:=L2.lq3 hl;rfl)⟩
 ·obtain ⟨ru,rl,e,ps,g,day,EV,rfl,_⟩:=h;rfl
 ·obtain ⟨ru,rl,e,ps,g,day,EV,rfl,R,Pg,hd,he,hEd,h10,qE,q⟩:=h
  refine ⟨_,(jB3 (jS 3 nd (qmf (qp3 T) (hr.mono (by decide)) rfl .nil (jA2 (pv 0) (pv 1)))) (qd6 (pv 3) (jW (qud T) hr (jA2 (qbx (pv 3) rfl) (pv 2))) rfl) (qaf (pv 3))),?_⟩;refine ⟨_,rfl,_,rfl,λro dx H1 s1 f1 d1=>?_⟩;refine ⟨ro,dx,ru,rl,ps,g,day,rfl,d1,R.same s1,Pg,hd,λle dy dh H2 z1 z2 z3 A2 b2=>⟨rfl,?_⟩⟩;have s2:Same H H2:=b2.same s1 f1;obtain ⟨dx2,hob⟩:=A2.ob;have E0':=EdS.of Pg hd;have hob':H2 ro=some (.ins C_Roll dx2 (rof ru day le dy dh)):=hob;have hed:H2 le=some (.lst (eV ps g day)):=by rw[E0'.eq];exact A2.ed
  have l0:(eV ps g day).length=ps.length+1:=by rw[E0'.eq];simp
  have g5:=Pg.good.hi;refine ⟨_,rfl,ro,C_Roll,dx2,_,_,rfl,hob',T.cl_Roll,T.na_Roll_kept_edges,qpn _ _ _ _ _,_,rfl,le,e,_,EV,rfl,hed,s2 _ _ he,E0'.ed,hEd,by omega,λhl p H3 n3=>?_,λhne=>?_⟩
  ·obtain ⟨es,ge,Ee,hln,q⟩:=q (by omega)
   refine ⟨_,rfl,ro,C_Roll,dx2,_,rfl,n3.same _ _ hob',T.cl_Roll,T.na_Roll_kept_edges,(by show 5<1000;decide),λH4 b4 h4=>?_⟩;rw[qy2] at h4;have A3:=A2.same n3.same;have M:=E0'.max Ee (by rw[List.length_map];exact hln.symm);have hro3:=n3.same _ _ hob';have hp4:H4 p=some (.lst (List.zipWith gE (eV ps g day) EV)):=b4 _ _ n3.at_ (qbe n3.at_ hro3 (by intro z;cases z));obtain ⟨dxr,hru⟩:=A3.rule.ob;have nru:ru≠ro:=qbe hru hro3 (by intro z;injection z with _ _ z;have:=qyp rl (gv g);have z':rf rl (gv g)=rof ru day le dy dh:=z;rw[z'] at this;cases this);have s04:Same H H4:=b4.same (s2.trans n3.same) f1;refine ⟨_,rfl,q ro { qA8 ru rl p dy dh ps g day with es:=_,ge:=_ } H4 ⟨⟨dx2,h4⟩,A3.rule.but2 b4 hro3 qgq (by intro xs z;cases z) nru,?_,b4 _ _ A3.yo (qbe A3.yo hro3 (by intro z;cases z)),b4 _ _ A3.he (qbe A3.he hro3 (by intro z;cases z)),A3.ne⟩ rfl rfl rfl rfl rfl M ?_ s04 (s1.free z2) (s1.free z3) ⟨rfl,rfl,s2.free n3.fresh⟩⟩
   ·rw[M.eq] at hp4;exact hp4
   ·show (List.zipWith _ _ _).length=ps.length
    rw[List.length_zipWith,List.length_map];omega
  ·exact qE (λz=>hne (by omega)) H2 s2
theorem ints_rep {F:Frag} {H:Hp} {l:Addr} {ns:List Int} (h:H l=some (.lst (ns.map V.int))):Rep F H (.ref l) (.list (ns.map PyData.int)):=.lst (SqL.of h) (qmn ns)
theorem qp5 (ns:List Int):(PyData.list (ns.map PyData.int)).canLay0=true:=by simp only[PyData.canLay0,qmo]
theorem qv5 (ns:List Int):(PyData.list (ns.map PyData.int)).depth<=20:=by simp[PyData.depth,qmp]
theorem qp6:∀ ns ms:List Int,PyData.eqvAll (ns.map PyData.int) (ms.map PyData.int)=decide (ns=ms)
 | [],[]=>by simp[PyData.eqvAll]
 | [],_ :: _=>by simp[PyData.eqvAll]
 | _ :: _,[]=>by simp[PyData.eqvAll]
 | n :: ns,m :: ms=>by
  rw[List.map_cons,List.map_cons,PyData.eqvAll,qp6 ns ms]
  by_cases h1:n=m<;>by_cases h2:ns=ms<;>simp[h1,h2,PyData.eqv]
theorem qv6 (ns ms:List Int):PyData.eqv (.list (ns.map PyData.int)) (.list (ms.map PyData.int))=decide (ns=ms):=by
 rw[PyData.eqv,qp6]
theorem EdS.uniq {E:List V} {a b:List Int} {g h:Option Int} (x:EdS E a g) (y:EdS E b h):a=b/\g=h:=by
 have e:=x.eq.symm.trans y.eq;have hl:(a.map V.int).length=(b.map V.int).length:=by have:=congrArg List.length e;simp only[List.length_append,List.length_singleton] at this;omega
 obtain ⟨e1,e2⟩:=List.append_inj e hl;refine ⟨?_,?_⟩
 ·have:∀ {a b:List Int},a.map V.int=b.map V.int->a=b:=fun {a b} e=>by
   induction a generalizing b with
   | nil=>cases b with
    | nil=>rfl
    | cons _ _=>cases e
   | cons x t ih=>cases b with
    | nil=>cases e
    | cons y u=>injection e with h1 h2;injection h1 with h1;rw[h1,ih h2]
  exact this e1
 ·injection e2 with h1 _
  cases g<;>cases h<;>first|rfl|(injection h1 with h1;rw[h1])|cases h1
inductive qjh (R:Addr) (vs:List V) (H:Hp) (Q:VK) (E_:XK):Prop
 | mk:∀ (ru rl:Addr) (ps:List (Int×Int)) (g:Option Int),vs=[.ref ru]->RuleAt R H ru rl ps g->ps.length<=5->(∀ p H',Same H H'->H' p=some (.lst ((ps.map (·.2)).map V.int))->Q (.ref p) H')->qjh R vs H Q E_
include T in
theorem qji:qaw P w K mg base 3 "widths_of" ["rule"] (qjh C_Rule):=by
 obtain ⟨f,fd,F,hm⟩:=T.f_widths_of;have nd:=sc_widths_of.nd;refine F.def_ hm (F.ok sc_widths_of (λvs H Q E h=>?_) (λcdv A outer s H vs Q E hr h=>?_)) (F.binds λ_ _ _ _ _ _ us hl=>by obtain ⟨_,rfl⟩:=L2.lq1 hl;rfl)
 ·obtain ⟨ru,rl,ps,g,rfl,_⟩:=h;rfl
 ·obtain ⟨ru,rl,ps,g,rfl,R,h5,q⟩:=h
  obtain ⟨dxr,hru⟩:=R.ob;obtain ⟨xr,hxl,hxr⟩:=R.ls;have nst:(rf rl (gv g)).lookup ("steps" : Str)=none:=TB.qtf _ _ (by decide +kernel) (by decide +kernel);refine ⟨_,(qac (qaf (qdi (vars:=[ "age", "width" ]) (frees:=[]) (fv:=[]) rfl (jL0 rfl) trivial (qap (qcf (pv 0) T.cl_Rule (qdb T) (hr.mono (by decide)))) (qcb (by decide) (by decide)) (λ_ _ _ _=>(jG2 (jM 0 [ "age", "width" ]) (jM 1 [ "age", "width" ]))) (λ_ _ _ _=>qa3) (λ_ _ _ _=>(pv 1))))),?_⟩;refine ⟨_,rfl,ru,dxr,_,rfl,hru,nst,ru,rl,ps,g,xr,rfl,R,hxl,λl1 H1 n1=>?_⟩;refine ⟨l1,rfl,⟨_,SqL.of n1.at_⟩,qhr (λp=>p.2) n1.at_ (hxr.same n1.same) (by omega) (λp _ Q' q'=>⟨_,rfl,q'⟩) λa H2 n2=>?_⟩;exact q a H2 (n1.same.trans n2.same) (by rw[n2.at_])
inductive qgh (C R N:Addr) (vs:List V) (H:Hp) (Q:VK) (E:XK):Prop
 | mk:∀ (ro ru rl:Addr) (c:qay) (s:Abs) (LY LZ:List (List Int)) (ps:List (Int×Int)) (g:Option Int),vs=[.ref ro,.ref ru]->RR C R H ro c s LY LZ->qgr c->EdS (c.es.map V.int ++ [gv c.ge]) c.es c.ge->RuleAt R H ru rl ps g->Pr ps g->Bd c.day->LY.length<64->LZ.length<64->(c.ps.map (·.2)≠ps.map (·.2)->∀ H',Same H H'->E (.ref N) none H')->(c.ps.map (·.2)=ps.map (·.2)->∃ (fs:List Int) (fg:Option Int) (LY' LZ':List (List Int)),EdS (List.zipWith gE (eV ps g c.day) (c.es.map V.int ++ [gv c.ge])) fs fg/\LY'.length<64/\LZ'.length<64/\qps (qbu (ps.map (·.2)) fs fg) LY' LZ' (qbh s) (qbc s)/\∀ r' c' H',c'.ps=ps->c'.g=g->c'.day=c.day->c'.es=fs->c'.ge=fg->qgr c'->RR C R H' r' c' (qfo (qbu (ps.map (·.2)) fs fg) qq7 (qbh s) (qbc s)) LY' LZ'->Same H H'->(H c'.dy=none/\H c'.dh=none)->(c'.ru=ru/\c'.rl=rl/\H c'.le=none)->Q (.ref r') H')->qgh C R N vs H Q E
include T in
theorem que:qqv P w K mg base 7 "under" ["roll", "rule"] [] (qgh C_Roll C_Rule C_NoRule):=by
 obtain ⟨f,fd,F,hm⟩:=T.f_under;have nd:=sc_under.nd;refine ⟨f,fd,(F.okX sc_under (λvs H Q E h=>?_) (λcdv A outer s H vs Q E hr h=>?_)),hm,F.kp,(F.binds λ_ _ _ _ _ _ us hl=>by obtain ⟨_,_,rfl⟩:=L2.lq2 hl;rfl)⟩
 ·obtain ⟨ro,ru,rl,c,s',LY,LZ,ps,g,rfl,_⟩:=h;rfl
 ·obtain ⟨ro,ru,rl,c,s',LY,LZ,ps,g,rfl,R0,ok,E0',Ru,Pg,hd,ly,lz,qE,q⟩:=h
  obtain ⟨dx,hob⟩:=R0.obj;obtain ⟨Y0,Z0,A0,B0⟩:=id R0;refine ⟨_,(jB4 (qav (jC (qz8 hr.units) (jF (qji T) hr (jA1 (qcf (pv 0) T.cl_Roll (qot T) (hr.mono (by decide))))) (jF (qji T) hr (jA1 (pv 1)))) (qac (qhn (qbb ⟨rfl,rfl,rfl⟩) rfl T.ex_NoRule rfl T.mg_NoRule (jA1 qb6))) qam) (jS 2 nd (jW (qy3 T) hr (jA3 (pv 1) (qcf (pv 0) T.cl_Roll (qku T) (hr.mono (by decide))) (qcf (pv 0) T.cl_Roll (qeh T) (hr.mono (by decide)))))) (qa0 (qcs (pv 2) T.cl_Roll (qjg T) (hr.mono (by decide)) (jA1 (pv 0)))) (qaf (pv 2))),?_⟩;refine ⟨_,rfl,ro,dx,_,rfl,hob,qvv _ _ _ _ _,ro,_,rfl,A0,?_⟩;refine ⟨c.ru,c.rl,c.ps,c.g,rfl,A0.rule,ok.pr.good.hi,λp1 H1 s1 hp1=>?_⟩;refine ⟨_,rfl,ru,rl,ps,g,rfl,Ru.same s1,Pg.good.hi,λp2 H2 s2 hp2=>?_⟩;refine ⟨_,_,ints_rep (s2 _ _ hp1),ints_rep hp2,qp5 _,qp5 _,qv5 _,_,rfl,?_⟩
  show if (!PyData.eqv _ _)=true then _ else _
  rw[qv6];have s02:=s1.trans s2
  by_cases hw:c.ps.map (·.2)=ps.map (·.2)
  ·rw[decide_eq_true hw]
   refine qgl ?_;obtain ⟨fs,fg,LY',LZ',Ef,ly',lz',tk,q⟩:=q hw;have A2:=A0.same s02;have hlp:c.ps.length=ps.length:=by have:=congrArg List.length hw;simpa using this
   have hEl:(c.es.map V.int ++ [gv c.ge]).length=ps.length+1:=by simp[ok.es,hlp]
   have g5:=Pg.good.hi
   walk_at "r"
   refine ⟨ro,dx,_,rfl,s02 _ _ hob,qto _ _ _ _ _,ro,_,rfl,A2,?_⟩;refine ⟨_,rfl,ro,dx,_,rfl,s02 _ _ hob,qir _ _ _ _ _,ro,_,rfl,A2,λle H3 n3=>?_⟩;have s03:=s02.trans n3.same;refine ⟨ru,rl,le,ps,g,c.day,_,rfl,Ru.same s03,Pg,hd,n3.at_,E0'.ed,Nat.le_trans (Nat.le_of_eq hEl) (by omega),λz=>absurd hEl z,λ_=>⟨c.es,c.ge,E0',by rw[ok.es,hlp],λr' c' H4 A4 e1 e2 e3 eY eZ Ec hcl s4 f1 f2 w1=>?_⟩⟩;obtain ⟨z1,z2⟩:=EdS.uniq Ec Ef;have okc:qgr c':=⟨by rw[e1,e2];exact Pg,by rw[hcl,e1]⟩;have ec:{ c' with Y:=[],Z:=[] }=c':=by
    cases c'
    simp only at eY eZ;rw[eY,eZ]
   have R4:RR C_Roll C_Rule H4 r' c' qq7 LY' LZ':=⟨[],[],by rw[ec];exact A4,RAbs.zero rfl rfl⟩;have s04:=s03.trans s4;have ecell:cellD c'=qbu (ps.map (·.2)) fs fg:=by unfold cellD;rw[e1,z1,z2]
   obtain ⟨dx4,hob4⟩:=R4.obj;obtain ⟨⟨Yr,hYr⟩,⟨Zr,hZr⟩⟩:=(R0.same s03).dicts
   walk_at "r"
   refine ⟨r',dx4,_,rfl,hob4,qfl _ _ _ _ _ (by decide +kernel) (by decide +kernel) (by decide +kernel) (by decide +kernel) (by decide +kernel),?_⟩
   walk_at "r"
   refine ⟨r',ro,c',c,qq7,s',LY',LZ',LY,LZ,rfl,R4,R0.same s04,okc,⟨qai hYr f1,qai hYr f2,qai hZr f1,qai hZr f2⟩,ly',lz',ly,lz,by rw[ecell];exact tk,λH5 R5 b5=>?_⟩;rw[ecell] at R5
   walk_at "r"
   exact q r' c' H5 e1 e2 e3 z1 z2 okc R5 (λb o e=>b5 _ _ (s04 _ _ e) (qai (s03 _ _ e) f1) (qai (s03 _ _ e) f2)) ⟨s03.free f1,s03.free f2⟩ ⟨w1.1,w1.2.1,s03.free w1.2.2⟩
  ·rw[decide_eq_false hw]
   refine qd2 ?_
   walk_at "r"
   exact qE hw H2 s02
theorem qDw (x:Int) {k:Int} (hk:0<k):∃ n:Nat,(n:Int)<k/\x % k=(n:Int):=⟨(x % k).toNat,by rw[Int.toNat_of_nonneg (Int.emod_nonneg _ (Int.ne_of_gt hk))];exact Int.emod_lt_of_pos _ hk,(Int.toNat_of_nonneg (Int.emod_nonneg _ (Int.ne_of_gt hk))).symm⟩
theorem qDx:∀ n:Nat,(n:Int)<4->(n:Int)=0\/(n:Int)=1\/(n:Int)=2\/(n:Int)=3
 | 0,_=>.inl rfl
 | 1,_=>.inr (.inl rfl)
 | 2,_=>.inr (.inr (.inl rfl))
 | 3,_=>.inr (.inr (.inr rfl))
 | n+4,h=>by omega
theorem mod4' (x:Int):x % 4=0\/x % 4=1\/x % 4=2\/x % 4=3:=by
 obtain ⟨n,h,e⟩:=qDw x (k:=4) (by decide);rw[e];exact qDx n h
theorem qEu:∀ n:Nat,(n:Int)<3->(n:Int)=0\/(n:Int)=1\/(n:Int)=2
 | 0,_=>.inl rfl
 | 1,_=>.inr (.inl rfl)
 | 2,_=>.inr (.inr rfl)
 | n+3,h=>by omega
theorem mod3' (x:Int):x % 3=0\/x % 3=1\/x % 3=2:=by
 obtain ⟨n,h,e⟩:=qDw x (k:=3) (by decide);rw[e];exact qEu n h
theorem qEv {k:Int} (h0:0<=k) (h4:k<4):k=0\/k=1\/k=2\/k=3:=by
 obtain ⟨n,rfl⟩:=Int.eq_ofNat_of_zero_le h0;exact qDx n h4
include T in
theorem qbs:qaw P w K mg base 1 "_law_cell_at" ["_law_script", "_law_k"] (qpk K):=by
 obtain ⟨f,fd,F,hm⟩:=T.f__law_cell_at;have nd:=sc__law_cell_at.nd;refine F.def_ hm (F.ok sc__law_cell_at (λvs H Q E h=>?_) (λcdv A outer s H vs Q E hr h=>?_)) (F.binds λ_ _ _ _ _ _ us hl=>by obtain ⟨_,_,rfl⟩:=L2.lq2 hl;rfl)
 ·obtain ⟨a,ns,k,rfl,_⟩:=h;rfl
 ·obtain ⟨a,ns,k,rfl,hS,h0,q⟩:=h
  refine ⟨_,(jB2 (qav (jC qe5 (pv 1) (qag qal rfl T.b_len qbn (jA1 (pv 0)))) (qac (qaf (jI (pv 0) (pv 1)))) qam) (qaf qaa)),?_⟩
  walk_at "r"
  refine qcj (λz=>?_) λz=>?_
  ·have z':k<ns.length:=by simpa using z
   have hk:k.toNat<ns.length:=by omega
   have hi:atI (ns.map V.int) k=some (.int ns[k.toNat]):=by
    have:=qd5 (xs:=ns.map V.int) (j:=k.toNat) (v:=V.int ns[k.toNat]) (by simp[hk])
    rwa [Int.toNat_of_nonneg h0] at this
   walk_at "r";exact q _
  ·exact q 0
include T in
theorem qbm:qaw P w K mg base 1 "_law_stream" ["_law_cell_here", "_law_many"] qon:=by
 obtain ⟨f,fd,F,hm⟩:=T.f__law_stream;have nd:=sc__law_stream.nd;refine F.def_ hm (F.ok sc__law_stream (λvs H Q E h=>?_) (λcdv A outer s H vs Q E hr h=>?_)) (F.binds λ_ _ _ _ _ _ us hl=>by obtain ⟨_,_,rfl⟩:=L2.lq2 hl;rfl)
 ·obtain ⟨c,k,rfl,_⟩:=h;rfl
 ·obtain ⟨c,k,rfl,hk,q⟩:=h
  refine ⟨_,(jB4 (jS 2 nd (qax qc6)) (jS 3 nd (qae qa1 (qae qaq (pv 0) (qae qa1 (qae qc5 qaa qaa) qaa)) qaa)) (qb7 PassesOwn.never rfl (ql0 rfl T.b_range (jA1 (qae qa1 (pv 1) qaa))) (jN 4 nd) (jB2 (jS 3 nd (qae qaq (qae qa1 (qae qa1 (qae qb3 (pv 3) (pv 3)) (qae qb3 qaa (pv 3))) (pv 4)) (qae qa1 (qae qc5 qaa qaa) qaa))) (qa0 (qf8 PySem.F.plainAttrs_list PySem.F.slot_list_append PySem.F.type_list_append qby (pv 2) (jA1 (pv 3)))))) (qaf (qcq qfh (pv 2) (qcl qaa) qf7))),?_⟩
  walk_at "r";intro l H1 n1
  walk_at "r"
  refine ql2 (n:=k+4) (λi σ H2=>Same H H2/\∃ (xs:List Int) (n:Int) (v4:Option V),H2 l=some (.lst (xs.map V.int))/\xs.length=i/\(∀ x∈xs,XB x)/\XB n/\σ=[some (.int c),some (.int (k:Int)),some (.ref l),some (.int n),v4]) ⟨n1.same,[],_,none,n1.at_,rfl,(λx hx=>by cases hx),(by show XB (c % (10 ^ 40+121)+48271);unfold XB;omega),rfl⟩ ?_ ?_
  ·rintro i σ H2 hi ⟨s2,xs,n,v4,hl2,hx,hb,hn,rfl⟩
   unfold XB at hn;rw[Int.zero_add]
   walk_at "r"
   intro H3 b3 h3;have hm:XB ((n*n+48271*n+(i:Int)) % (10 ^ 40+121)):=⟨Int.emod_nonneg _ (by decide),Int.lt_of_lt_of_le (Int.emod_lt_of_pos _ (by decide)) (by decide)⟩;refine ⟨b3.same s2 n1.fresh,xs ++ [(n*n+48271*n+(i:Int)) % (10 ^ 40+121)],_,_,by rw[List.map_append];exact h3,by simp[hx],λx hx'=>?_,hm,rfl⟩
   rcases List.mem_append.mp hx' with z|z
   ·exact hb x z
   ·rw[List.mem_singleton.mp z];exact hm
  ·rintro σ H2 ⟨s2,xs,n,v4,hl2,hx,hb,hn,rfl⟩
   walk_at "r";intro l3 H3 n3
   have ec:qhj (xs.map V.int) (some 4) none=(xs.drop 4).map V.int:=by
    have:=qyt (xs.map V.int) 4 (by simp;omega);rw[List.map_drop];exact this
   rw[ec] at n3;exact q l3 (xs.drop 4) H3 (New.after s2 n3) (by rw[List.length_drop];omega) λx hx=>hb x (List.mem_of_mem_drop hx)
include T in
theorem qri:qaw P w K mg base 2 "_law_run" ["_law_cell_here", "_law_kind"] qA5:=by
 obtain ⟨f,fd,F,hm⟩:=T.f__law_run;have nd:=sc__law_run.nd;refine F.def_ hm (F.ok sc__law_run (λvs H Q E h=>?_) (λcdv A outer s H vs Q E hr h=>?_)) (F.binds λ_ _ _ _ _ _ us hl=>by obtain ⟨_,_,rfl⟩:=L2.lq2 hl;rfl)
 ·obtain ⟨c,k,rfl,_⟩:=h;rfl
 ·obtain ⟨c,k,rfl,h0,h6,q⟩:=h
  obtain ⟨J,eJ⟩:∃ J:St->Hp->Prop,J=λσ H'=>∃ (k:Int) (l:Addr) (x0 x1 x2:Int),0<=k/\k<4/\XB x0/\XB x1/\XB x2/\Same H H'/\H' l=some (.lst [.int x0,.int x1,.int x2])/\σ=[some (.int c),some (.int k),some (.ref l),none]:=⟨_,rfl⟩
  refine ⟨_,(qaj (jS 2 nd (jF (qbm T) hr (jA2 (pv 0) qaa))) (qyb J (qav (jC ql3 (pv 1) qaa) (qac (jS 1 nd (qae qaq (qae qbf (jI (pv 2) qaa) qaa) qaa))) qam) (jB2 (jS 3 nd (jI (qax (jA4 (qae qbr (qae qaq (jI (pv 2) qaa) qaa) qaa) (qae qaq (jI (pv 2) qaa) qaa) (qae qbr (qae qaq (jI (pv 2) qaa) (qae qdg qaa (qae qc5 qaa qaa))) (qae qc5 qaa qaa)) (qae qbr (qae qaq (jI (pv 2) qaa) (qae qdg qaa (qae qc5 qaa qaa))) (qae qc5 qaa qaa)))) (pv 1))) (qaf (qao (jA2 (pv 3) (jI (qax (jA4 qaa qaa (qae qa1 qaa (qae qaq (jI (pv 2) qaa) qaa)) (qae qa1 qaa (qae qaq (jI (pv 2) qaa) (qae qc5 qaa qaa))))) (qae qaq (jI (pv 2) qaa) qaa)))))))),?_⟩
  walk_at "r"
  intro l xs H1 n1 hx hb;obtain ⟨x0,x1,x2,rfl⟩:=qEq hx;have b0:=hb x0 (by simp);have b1:=hb x1 (by simp);have b2:=hb x2 (by simp);have hl:H1 l=some (.lst [.int x0,.int x1,.int x2]):=n1.at_;refine And.intro ?_ ?_
  ·walk_at "r"
   refine qcj (λz=>?_) λz=>?_
   ·walk_at "r"
    show J _ _
    rw[eJ];exact ⟨_,l,x0,x1,x2,by omega,by omega,b0,b1,b2,n1.same,hl,rfl⟩
   ·have z':¬ (3<k):=by simpa using z
    show J _ _
    rw[eJ];exact ⟨_,l,x0,x1,x2,h0,by omega,b0,b1,b2,n1.same,hl,rfl⟩
  clear hl n1 b0 b1 b2 hb hx h0 h6;intro σ' H' j;rw[eJ] at j;clear eJ;obtain ⟨k,l,x0,x1,x2,k0,k4,b0,b1,b2,s',hl,rfl⟩:=j;unfold XB at b0 b1 b2
  walk_at "r";intro p1 H2 n2
  obtain ⟨v,hv,v1,v2⟩:∃ v,atI [V.int (x0 % 9-4),V.int (x0 % 3),V.int (x0 % (2*10 ^ 9)-10 ^ 9),V.int (x0 % (2*10 ^ 30)-10 ^ 30)] k=some (V.int v) /\ -(10 ^ 31)<v/\v<10 ^ 31:=by
   have hk:=qEv k0 k4
   rcases hk with rfl|rfl|rfl|rfl
   ·exact ⟨_,rfl,by omega,by omega⟩
   ·exact ⟨_,rfl,by omega,by omega⟩
   ·exact ⟨_,rfl,by omega,by omega⟩
   ·exact ⟨_,rfl,by omega,by omega⟩
  walk_at "r";intro p3 H3 n3
  obtain ⟨m,hm,m1,m2⟩:∃ m,atI [V.int 1,V.int 1,V.int (1+x2 % 5),V.int (1+x2 % 10 ^ 12)] (x1 % 4)=some (V.int m)/\1<=m/\m<10 ^ 31:=by
   have hk:=mod4' x1
   rcases hk with e|e|e|e<;>rw[e]
   ·exact ⟨_,rfl,by omega,by omega⟩
   ·exact ⟨_,rfl,by omega,by omega⟩
   ·exact ⟨_,rfl,by omega,by omega⟩
   ·exact ⟨_,rfl,by omega,by omega⟩
  walk_at "r";intro a H4 n4
  exact q a (v,m) H4 (New.after (s'.trans (n2.same.trans n3.same)) n4) ⟨⟨v1,v2⟩,m1,m2⟩
include T in
theorem qde:qaw P w K mg base 1 "times_within" ["a", "b", "start", "width"] qBe:=by
 obtain ⟨f,fd,F,hm⟩:=T.f_times_within;have nd:=sc_times_within.nd;refine F.def_ hm (F.ok sc_times_within (λvs H Q E h=>?_) (λcdv A outer s H vs Q E hr h=>?_)) (F.binds λ_ _ _ _ _ _ us hl=>by obtain ⟨_,_,_,_,rfl⟩:=L2.lq4 hl;rfl)
 ·obtain ⟨a,b,st,w,rfl,_⟩:=h;rfl
 ·obtain ⟨a,b,st,w,rfl,q⟩:=h
  refine ⟨_,(jB3 (jS 4 nd (qc3 (jC qc0 (pv 0) qau) (pv 2) (qag (qdh rfl) rfl T.b_max qfj (jA2 (pv 0) (pv 2))))) (jS 5 nd (qc3 (jC qc0 (pv 1) qau) (qae qa1 (pv 2) (pv 3)) (qag (ql4 rfl) rfl T.b_min qo8 (jA2 (pv 1) (qae qa1 (pv 2) (pv 3)))))) (qaf (qag (qdh rfl) rfl T.b_max qfj (jA2 qaa (qae qbr (pv 5) (pv 4)))))),?_⟩
  cases a with
  | none =>
   cases b with
   | none=>walk_at "r";exact q
   | some y=>walk_at "r";exact q
  | some x =>
   cases b with
   | none=>walk_at "r";exact q
   | some y=>walk_at "r";exact q
include T in
theorem qv7:qaw P w K mg base 2 "is_cut" ["a", "b", "start", "width"] qpu:=by
 obtain ⟨f,fd,F,hm⟩:=T.f_is_cut;have nd:=sc_is_cut.nd;refine F.def_ hm (F.ok sc_is_cut (λvs H Q E h=>?_) (λcdv A outer s H vs Q E hr h=>?_)) (F.binds λ_ _ _ _ _ _ us hl=>by obtain ⟨_,_,_,_,rfl⟩:=L2.lq4 hl;rfl)
 ·obtain ⟨a,b,st,w,rfl,_⟩:=h;rfl
 ·obtain ⟨a,b,st,w,rfl,q⟩:=h
  refine ⟨_,(jB2 (jS 4 nd (jF (qde T) hr (jA4 (pv 0) (pv 1) (pv 2) (pv 3)))) (qaf (qdx (jD qe5 qaa (pv 4)) (qh0 (jD qe5 (pv 4) (pv 3)))))),?_⟩
  walk_at "r"
  refine ⟨a,b,st,w,rfl,?_⟩
  generalize qtx a b st w=n at q
  walk_at "r"
  refine qcj (λz=>?_) λz=>?_
  ·rw[z,Bool.true_and] at q
   walk_at "r";exact q
  ·have z':decide (0<n)=false:=by simpa using z
   rw[z',Bool.false_and] at q;exact q
include T in
theorem qou:qDs P w K mg base C_Gone 1 "Gone" ["self", "edge"] "edge" :=by
 obtain ⟨f,fd,F,hE⟩:=T.f_Gone_init;have nd:=sc_Gone_init.nd;refine ⟨f,fd,(F.ok sc_Gone_init (λvs H Q E h=>?_) (λcdv A outer s H vs Q E hr h=>?_)),T.mg_Gone,hE,(F.binds λ_ _ _ _ _ _ us hl=>by obtain ⟨_,_,rfl⟩:=L2.lq2 hl;rfl)⟩
 ·obtain ⟨ex,v,rfl,_⟩:=h;rfl
 ·obtain ⟨ex,v,rfl,hx,q⟩:=h
  refine ⟨_,(jB2 (qa0 (qvn rfl T.mg_BookError T.bi_BookError (jA2 (pv 0) qb6))) (qyh (pv 0) (pv 1) rfl)),?_⟩;refine ⟨_,rfl,ex,C_Gone,f, "edge",none,_,rfl,by decide,hE,hx,?_⟩;exact ⟨_,rfl,_,rfl,ex,C_Gone,f,rfl,hx,hE,λdx H3 f1 ne h3 h4 h5=>q dx H3 f1 ne h3 h4 h5⟩
include T in
theorem qfz:qqv P w K mg base 3 "check_begin" ["edge", "a"] [] (qDc C_Gone):=by
 obtain ⟨f,fd,F,hm⟩:=T.f_check_begin;have nd:=sc_check_begin.nd;refine ⟨f,fd,(F.okX sc_check_begin (λvs H Q E h=>?_) (λcdv A outer s H vs Q E hr h=>?_)),hm,F.kp,(F.binds λ_ _ _ _ _ _ us hl=>by obtain ⟨_,_,rfl⟩:=L2.lq2 hl;rfl)⟩
 ·obtain ⟨e,a,rfl,_⟩:=h;rfl
 ·obtain ⟨e,a,rfl,qE,q⟩:=h
  refine ⟨_,(qac (qav (PW.pt (qlx (jC qd4 (pv 0) qau) (qhz (PW.pt (qly (jC qc0 (pv 1) qau) (qj2 (jC qe5 (pv 1) (pv 0)))))))) (qac (qs7 (qbb ⟨rfl,rfl,rfl⟩) rfl (qou T) (hr.mono (by decide)) rfl (jA1 (pv 0)))) qam)),?_⟩
  cases e with
  | none =>
   walk_at "r"
   exact q fun ⟨z,e,_⟩=>by cases e
  | some z =>
   cases a with
   | none =>
    walk_at "r"
    exact λdx H2 n2=>qE ⟨z,rfl,λx e=>by cases e⟩ dx H2 n2
   | some x =>
    walk_at "r"
    refine qcj (λy=>?_) λy=>?_
    ·walk_at "r"
     exact λdx H2 n2=>qE ⟨z,rfl,λx' e=>by cases e;simpa using y⟩ dx H2 n2
    ·exact q fun ⟨z',e,h'⟩=>by cases e;exact absurd (h' x rfl) (by simpa using y)
include T in
theorem qek:qaw P w K mg base 1 "_law_edges" ["_law_rule_here", "_law_day"] qpv:=by
 obtain ⟨f,fd,F,hm⟩:=T.f__law_edges;have nd:=sc__law_edges.nd;refine F.def_ hm (F.ok sc__law_edges (λvs H Q E h=>?_) (λcdv A outer s H vs Q E hr h=>?_)) (F.binds λ_ _ _ _ _ _ us hl=>by obtain ⟨_,_,rfl⟩:=L2.lq2 hl;rfl)
 ·obtain ⟨t,l,xs,ps,g,d,rfl,_⟩:=h;rfl
 ·obtain ⟨t,l,xs,ps,g,d,rfl,ht,hl,hx,Pg,hd,q⟩:=h
  have hlen:=hx.length;have h5:=Pg.good.hi;obtain ⟨p,hp,ep⟩:=Pg.last;refine ⟨_,(jB3 (qct (i:=2) (vars:=[ "_law_age", "_law_width" ]) (frees:=[ "_law_day" ]) (fv:=[1]) nd rfl (Or.inl rfl) rfl (jL1 rfl) ⟨⟨rfl,.inl rfl,rfl,.inl rfl⟩,trivial⟩ (qap (jT (pv 0) qaa)) (qcb (by decide) (by decide)) (λ_ _ _ _=>(jG2 (jM 0 [ "_law_age", "_law_width", "_law_day" ]) (jM 1 [ "_law_age", "_law_width", "_law_day" ]))) (λ_ _ _ _=>qa3) (λ_ _ _ _=>(qae qb3 (qae qdr (qae qbr (pv 2) (pv 0)) (pv 1)) (pv 1)))) (qav (jC qc0 (jT (pv 0) qaa) qau) (qac (qaf (qae qe6 (pv 2) (qax (jA1 qau))))) qam) (qaf (qae qe6 (pv 2) (qax (jA1 (qae qb3 (qae qdr (qae qbr (pv 1) (jT (pv 0) qaa)) (jT (jI (jT (pv 0) qaa) (qe4 qcz qaa)) qaa)) (jT (jI (jT (pv 0) qaa) (qe4 qcz qaa)) qaa))))))),?_⟩
  walk_at "r"
  refine ⟨⟨_,SqL.of hl⟩,qa9 (xs:=xs) (λi ys H2=>Same H H2/\ys=(ps.take i).map λp=>V.int (cut d p.1 p.2)) (Nat.le_of_lt (qah (by omega))) ⟨Same.refl _,rfl⟩ (λi ys H2 h2=>⟨SqL.of (h2.1 _ _ hl),by rw[h2.2];simp;omega⟩) ?_ ?_⟩
  ·rintro i x ys H2 hi ⟨s2,rfl⟩
   obtain ⟨p,hpi,a,rfl,ha⟩:=hx.get hi;have hs:=Pg.size i p hpi;unfold Bd at hd;have hb:=qyo (x:=d-p.1) (B:=10 ^ 46) hs.2.2.1 (by decide) (by omega) (by omega);refine ⟨a,_,rfl,SqT.of (s2 _ _ ha),rfl,_,_,rfl,_,_,rfl,rfl,qo5 (qd2 ?_)⟩;refine ⟨_,rfl,_,rfl,_,_,rfl,rfl,_,rfl,_,_,rfl,rfl,⟨by show 0<p.2;omega,by show p.2<_;omega⟩,_,rfl,_,_,rfl,rfl,⟨⟨by omega,by omega⟩,by omega,by omega⟩,s2,?_⟩;exact (qDu _ ps i p hpi).symm
  ·rintro ys H2 c1 H3 ⟨s2,rfl⟩ n3
   rw[hlen,List.take_length] at n3;have s3:Same H H3:=s2.trans n3.same;have ht3:=s3 _ _ ht;have hl3:=s3 _ _ hl
   cases g with
   | none =>
    walk_at "r";intro c2 H4 n4
    refine ⟨c1,c2,_,_,rfl,rfl,n4.same _ _ n3.at_,n4.at_,Nat.le_of_lt (qah (by simp;omega)),λz H6 n6=>?_⟩;exact q z H6 (New.after (s3.trans n4.same) n6)
   | some z =>
    obtain ⟨v,hv,a,rfl,ha⟩:=hx.get' hp;have hz:=Pg.gb z rfl;have hs:=Pg.size _ p hp;unfold Bd at hd;have hb:=qyo (x:=d-z) (B:=10 ^ 46) hs.2.2.1 (by decide) (by omega) (by omega);have hat:atI xs (-1)=some (.ref a):=qes (by rw[hlen];exact hv);have ha3:=s3 _ _ ha
    walk_at "r";intro c2 H4 n4
    refine ⟨c1,c2,_,_,rfl,rfl,n4.same _ _ n3.at_,n4.at_,Nat.le_of_lt (qah (by simp;omega)),λy H6 n6=>?_⟩;have e:eV ps (some z) d=(ps.map λp=>V.int (cut d p.1 p.2)) ++ [V.int ((d-z) / p.2*p.2)]:=by
     show (ps.map λp=>V.int (cut d p.1 p.2)) ++ [V.int (cut d z (lw ps))]=_
     rw[ep];rfl
    refine q y H6 ?_;rw[e];exact New.after (s3.trans n4.same) n6
def T5 (t:Int):Prop:=-(5*10 ^ 45)<=t/\t<=5*10 ^ 45
inductive qnl (vs:List V) (H:Hp) (Q:VK) (E_:XK):Prop
 | mk:∀ (t l:Addr) (xs:List V) (ps:List (Int×Int)) (g:Option Int) (d x:Int),vs=[.ref t,.int d,.int x]->H t=some (.tup [.ref l,gv g])->H l=some (.lst xs)->Pairs H xs ps->qv1 ps g->Bd d->(∀ tm H',T5 tm->Same H H'->Q (.int tm) H')->qnl vs H Q E_
include T in
theorem qjj:qaw P w K mg base 2 "_law_time" ["_law_rule_here", "_law_day", "_law_x"] qnl:=by
 obtain ⟨f,fd,F,hm⟩:=T.f__law_time;have nd:=sc__law_time.nd;refine F.def_ hm (F.ok sc__law_time (λvs H Q E h=>?_) (λcdv A outer s H vs Q E hr h=>?_)) (F.binds λ_ _ _ _ _ _ us hl=>by obtain ⟨_,_,_,rfl⟩:=L2.lq3 hl;rfl)
 ·obtain ⟨t,l,xs,ps,g,d,x,rfl,_⟩:=h;rfl
 ·obtain ⟨t,l,xs,ps,g,d,x,rfl,ht,hl,hx,D,hd,q⟩:=h
  have P:=D.pr;obtain ⟨p,hp,ep⟩:=P.last;obtain ⟨v,hv,a,rfl,ha⟩:=hx.get' hp;have hlen:=hx.length;have lo:=P.good.lo;have h5:=P.good.hi;have hat:atI xs (-1)=some (.ref a):=qes (by rw[hlen];exact hv);have E0:=EdS.of P hd;have hs:=P.size _ p hp;have hb:=D.each _ p hp;have hel:(ps.map λp=>cut d p.1 p.2).length=ps.length:=by rw[List.length_map]
  have hEl:(eV ps g d).length=ps.length+1:=by rw[E0.eq];simp
  refine ⟨_,(jB7 (qct (i:=3) (vars:=[ "_law_edge" ]) (frees:=[]) (fv:=[]) nd rfl (Or.inl rfl) rfl (jL0 rfl) trivial (qap (jF (qek T) hr (jA2 (pv 0) (pv 1)))) (qbp (by decide)) (λ_ _ _ _=>(jM 0 [ "_law_edge" ])) (λ_ _ _ _=>(qdt (jC qd4 (pv 0) qau))) (λ_ _ _ _=>(pv 0))) (jS 4 nd (jI (pv 3) (qae qaq (qae qbf (pv 2) qaa) (qag qal rfl T.b_len qbn (jA1 (pv 3)))))) (jS 5 nd (jT (jI (jT (pv 0) qaa) (qe4 qcz qaa)) qaa)) (jS 6 nd (qae qa1 (qae qa1 (jT (jI (jT (pv 0) qaa) (qe4 qcz qaa)) qaa) (qae qdg qaa (pv 5))) qaa)) (qav (jC qb0 (qae qaq (pv 2) qaa) qaa) (qac (qaf (qae qbr (qae qa1 (pv 4) (qae qaq (qae qbf (pv 2) qaa) qaa)) qaa))) qam) (qav (jC qb0 (qae qaq (pv 2) qaa) qaa) (qac (qaf (qae qa1 (qae qbr (pv 4) (qae qaq (qae qbf (pv 2) qaa) (qae qdg qaa (pv 5)))) qaa))) qam) (qaf (qae qbr (qae qa1 (pv 1) qaa) (qae qaq (qae qbf (pv 2) qaa) (pv 6))))),?_⟩
  walk_at "r"
  refine ⟨t,l,xs,ps,g,d,rfl,ht,hl,hx,P,hd,λle H1 n1=>?_⟩;refine ⟨le,rfl,⟨_,SqL.of n1.at_⟩,qa9 (xs:=eV ps g d) (λi ys H3=>Same H1 H3/\ys=((eV ps g d).take i).filter qtk) (Nat.le_of_lt (qah (by omega))) ⟨Same.refl _,rfl⟩ (λi ys H3 h3=>⟨SqL.of (h3.1 _ _ n1.at_),by rw[h3.2];exact qpj _ _⟩) ?_ ?_⟩
  ·rintro i x ys H3 hi ⟨s3,rfl⟩
   refine ⟨_,rfl,rfl,_,rfl,qcj (λz=>?_) λz=>?_⟩
   ·exact ⟨_,rfl,s3,(qw4 hi z).symm⟩
   ·exact ⟨s3,(qw5 hi z).symm⟩
  ·rintro ys H3 kl H4 ⟨s3,rfl⟩ n4
   rw[List.take_length] at n4;rw[E0.eq,known] at n4;have kb:=qys E0
   generalize (ps.map λp=>cut d p.1 p.2)=es at n4 kb hel
   generalize (g.map λz=>cut d z (lw ps))=ge at n4 kb
   obtain ⟨ed,hed,hat2⟩:=qC6 (es ++ ge.toList) (by rw[List.length_append];omega) (x / 4);have hb2:=kb ed hed;unfold EB at hb2;have hkl:0<((es ++ ge.toList).map V.int).length:=by rw[List.length_map,List.length_append];omega
   have s4:Same H H4:=n1.same.trans (s3.trans n4.same);have ht4:=s4 _ _ ht;have hl4:=s4 _ _ hl;have ha4:=s4 _ _ ha;have hk4:=n4.at_;clear n1 s3 n4;unfold Bd at hd;have m0:=Int.emod_nonneg (x / 64) (show 3*p.2≠0 by omega);have m1:=Int.emod_lt_of_pos (x / 64) (show 0<3*p.2 by omega);have k0:=Int.emod_nonneg (x / 64) (show p.1+3*p.2+9≠0 by omega);have k1:=Int.emod_lt_of_pos (x / 64) (show 0<p.1+3*p.2+9 by omega)
   walk_at "r"
   refine qcj (λz=>?_) λz=>?_
   ·walk_at "r"
    exact q _ H4 (by unfold T5;omega) s4
   walk_at "r"
   refine qcj (λz=>?_) λz=>?_
   ·walk_at "r"
    exact q _ H4 (by unfold T5;omega) s4
   walk_at "r"
   exact q _ H4 (by unfold T5;omega) s4
inductive qnm (vs:List V) (H:Hp) (Q:VK) (E_:XK):Prop
 | mk:∀ (t l:Addr) (xs:List V) (ps:List (Int×Int)) (g:Option Int) (d c k:Int),vs=[.ref t,.int d,.int c,.int k]->H t=some (.tup [.ref l,gv g])->H l=some (.lst xs)->Pairs H xs ps->qv1 ps g->Bd d->0<=k->k<6->(∀ a (r:Rd3) H',T5 r.1->RunT r.2->Same H H'->H' a=some (.tup [.int r.1,.int r.2.1,.int r.2.2])->Q (.ref a) H')->qnm vs H Q E_
include T in
theorem qjw:qaw P w K mg base 3 "_law_reading" ["_law_rule_here", "_law_day", "_law_cell_here", "_law_kind"] qnm:=by
 obtain ⟨f,fd,F,hm⟩:=T.f__law_reading;have nd:=sc__law_reading.nd;refine F.def_ hm (F.ok sc__law_reading (λvs H Q E h=>?_) (λcdv A outer s H vs Q E hr h=>?_)) (F.binds λ_ _ _ _ _ _ us hl=>by obtain ⟨_,_,_,_,rfl⟩:=L2.lq4 hl;rfl)
 ·obtain ⟨t,l,xs,ps,g,d,c,k,rfl,_⟩:=h;rfl
 ·obtain ⟨t,l,xs,ps,g,d,c,k,rfl,ht,hl,hx,D,hd,k0,k6,q⟩:=h
  refine ⟨_,(jB2 (jS 4 nd (jI (jF (qbm T) hr (jA2 (pv 2) qaa)) qaa)) (qaf (qae (show OpR _ _ (qo9 K) from qk6) (qao (jA1 (jF (qjj T) hr (jA3 (pv 0) (pv 1) (pv 4))))) (jF (qri T) hr (jA2 (pv 2) (pv 3)))))),?_⟩
  walk_at "r";intro ls ys H1 n1 hy hb
  have hy:ys.length=4:=hy;obtain ⟨x,hx3⟩:∃ x,ys[3]?=some x:=⟨_,List.getElem?_eq_getElem (by omega)⟩;have at3:atI (ys.map V.int) 3=some (.int x):=qd5 (j:=3) (by rw[List.getElem?_map,hx3];rfl);have hls:=n1.at_
  walk_at "r"
  refine ⟨t,l,xs,ps,g,d,x,rfl,n1.same _ _ ht,n1.same _ _ hl,hx.same n1.same,D,hd,λtm H2 htm s2=>?_⟩;have s02:=n1.same.trans s2
  walk_at "r";intro p3 H3 n3
  refine ⟨_,rfl,_,rfl,c,k,rfl,k0,k6,λb r H4 n4 hr4=>?_⟩;refine ⟨p3,b,_,_,rfl,rfl,SqT.of (n4.same _ _ n3.at_),SqT.of n4.at_,(by intro z;cases z),(by intro z;cases z),(by show 1+2<=sizeLine;decide),λa H5 n5=>?_⟩;exact q a (tm,r) H5 htm hr4 (s02.trans (n3.same.trans (n4.same.trans n5.same))) n5.at_
theorem qv8 {xs:List Int} (h:xs.length=12) {n:Int} (h0:0<=n) (h5:n<5):∃ ms:List Int,qhj (xs.map V.int) (some 4) (some (5+n))=ms.map V.int/\1<=ms.length/\ms.length<=5:=by
 obtain ⟨m,rfl⟩:=Int.eq_ofNat_of_zero_le h0;have h6:m<5:=Int.ofNat_lt.mp h5;unfold qhj;rw[show (some (4:Int))=some ((4:Nat):Int) from rfl,show (some (5+(m:Int)))=some (((5+m:Nat)):Int) from rfl,HT.sIx_nat,HT.sIx_nat];simp only[<- List.map_take,<- List.map_drop];refine ⟨_,rfl,?_⟩;simp only[List.length_take,List.length_drop,List.length_map,h];clear h h0 h5 xs
 revert m;decide
abbrev IvQ (H:Hp) (ms xs:List Int) (lz l ls:Addr) (c sc:Int) (i:Nat) (σ:St) (H':Hp):Prop:=Same H H'/\H' lz=some (.lst (ms.map V.int))/\H' l=some (.lst (xs.map V.int))/\∃ (age w:Int) (ys:List V) (ps:List (Int×Int)) (v6:Option V),H' ls=some (.lst ys)/\Pairs H' ys ps/\St41 i age w ps/\σ=[some (.int c),some (.ref l),some (.int sc),some (.int age),some (.int w),some (.ref ls),v6]
include T in
theorem qov:qaw P w K mg base 2 "_law_rule" ["_law_cell_here"] qty:=by
 obtain ⟨f,fd,F,hm⟩:=T.f__law_rule;have nd:=sc__law_rule.nd;refine F.def_ hm (F.ok sc__law_rule (λvs H Q E h=>?_) (λcdv A outer s H vs Q E hr h=>?_)) (F.binds λ_ _ _ _ _ _ us hl=>by obtain ⟨_,rfl⟩:=L2.lq1 hl;rfl)
 ·obtain ⟨c,rfl,_⟩:=h;rfl
 ·obtain ⟨c,rfl,q⟩:=h
  refine ⟨_,(jB8 (jS 1 nd (jF (qbm T) hr (jA2 (pv 0) qaa))) (jS 2 nd (jI (qax (jA4 qaa qaa qaa (qae qc5 qaa qaa))) (qae qaq (jI (pv 1) qaa) qaa))) (jS 3 nd (qae qdg (qae qaq (jI (pv 1) qaa) qaa) (pv 2))) (jS 4 nd (jI (qax (jA2 qaa (qae qdg (pv 2) (qae qa1 qaa (qae qaq (jI (pv 1) qaa) qaa))))) (qae qbf (qae qaq (qae qbf (jI (pv 1) qaa) qaa) qaa) qaa))) (jS 5 nd (qax qc6)) (qb7 PassesOwn.never rfl (qap (qcq qfh (pv 1) (qcl qaa) (qcl (qae qa1 qaa (qae qaq (jI (pv 1) qaa) qaa))))) (jN 6 nd) (jB3 (qa0 (qf8 PySem.F.plainAttrs_list PySem.F.slot_list_append PySem.F.type_list_append qby (pv 5) (jA1 (qao (jA2 (pv 3) (pv 4)))))) (jS 3 nd (qae qa1 (pv 3) (jI (qax (jA4 qaa (qae qdg (qae qaq (qae qbf (pv 6) qaa) qaa) (pv 2)) (qae qdg (qae qaq (qae qbf (pv 6) qaa) qaa) (pv 2)) (qae qa1 qaa (qae qaq (qae qbf (pv 6) qaa) qaa)))) (qae qaq (pv 6) qaa)))) (jS 4 nd (qae qdg (pv 4) (jI (qax (jA4 qaa qaa qaa qaa)) (qae qaq (qae qbf (pv 6) qaa) qaa)))))) (qav (jC qb0 (qae qaq (jI (pv 1) qaa) qaa) qaa) (qac (qaf (qao (jA2 (pv 5) qau)))) qam) (qaf (qao (jA2 (pv 5) (qae qa1 (jT (jI (pv 5) (qe4 qcz qaa)) qaa) (jI (qax (jA3 qaa (qae qdg (qae qaq (jI (pv 1) qaa) qaa) (pv 2)) qaa)) (qae qaq (qae qbf (jI (pv 1) qaa) qaa) qaa))))))),?_⟩;refine ⟨_,rfl,_,12,rfl,by decide,λl xs H1 n1 hx hb=>?_⟩;have hx:xs.length=12:=hx;have g:∀ k:Nat,k<12->∃ x,atI (xs.map V.int) (k:Int)=some (.int x)/\0<=x:=λk hk=>by
   have e:xs[k]?=some (xs[k]'(by omega)):=List.getElem?_eq_getElem (by omega);exact ⟨_,qd5 (by rw[List.getElem?_map,e];rfl),(hb _ (List.mem_of_getElem? e)).1⟩
  obtain ⟨x0,at0,_⟩:=g 0 (by omega);obtain ⟨x1,at1,_⟩:=g 1 (by omega);obtain ⟨x2,at2,_⟩:=g 2 (by omega);obtain ⟨x3,at3,_⟩:=g 3 (by omega);obtain ⟨x9,at9,_⟩:=g 9 (by omega);obtain ⟨x10,at10,_⟩:=g 10 (by omega);have hl:=n1.at_;have at0':atI (xs.map V.int) 0=some (.int x0):=at0;have at1':atI (xs.map V.int) 1=some (.int x1):=at1;have at2':atI (xs.map V.int) 2=some (.int x2):=at2;have at3':atI (xs.map V.int) 3=some (.int x3):=at3;have at9':atI (xs.map V.int) 9=some (.int x9):=at9;have at10':atI (xs.map V.int) 10=some (.int x10):=at10;refine ⟨_,_,rfl,rfl,⟨by decide,by decide,by decide⟩,(by show 4<=sizeLine;decide),λp2 H2 n2=>?_⟩;obtain ⟨sc,hsc,sc1,sc2⟩:∃ sc,atI [V.int 1,V.int 1,V.int 60,V.int (10 ^ 12)] (x0 % 4)=some (V.int sc)/\1<=sc/\sc<=10 ^ 12:=by
   have hk:=mod4' (x0)
   rcases hk with e|e|e|e<;>rw[e]
   ·exact ⟨_,rfl,by omega,by omega⟩
   ·exact ⟨_,rfl,by omega,by omega⟩
   ·exact ⟨_,rfl,by omega,by omega⟩
   ·exact ⟨_,rfl,by omega,by omega⟩
  have hl2:=n2.same _ _ hl;have h2:=n2.at_;have mB:∀ {x n:Int},0<=x->x<=n->n<=1000->0<=x*sc/\x*sc<=n*10 ^ 12:=fun {x n} h0 h1 hn=>⟨Int.mul_nonneg h0 (by omega),Int.le_trans (Int.mul_le_mul_of_nonneg_right h1 (by omega)) (Int.mul_le_mul_of_nonneg_left sc2 (by omega))⟩
  have m6:=mB (x:=x1 % 6) (n:=5) (by omega) (by omega) (by omega);have m3:=mB (x:=1+x2 % 3) (n:=3) (by omega) (by omega) (by omega);rw[Int.mul_comm] at m3;refine ⟨_,rfl,l,_,_,_,rfl,rfl,SqL.of hl2,at0',_,_,rfl,rfl,(by first|decide|(dsimp only;decide)),p2,_,_,_,rfl,rfl,SqL.of h2,hsc,_,rfl,l,_,_,_,rfl,rfl,SqL.of hl2,at1',_,_,rfl,rfl,(by first|decide|(dsimp only;decide)),_,rfl,_,_,rfl,rfl,(.inl ⟨by omega,by omega⟩),_,rfl,_,rfl,l,_,_,_,rfl,rfl,SqL.of hl2,at2',_,_,rfl,rfl,(by first|decide|(dsimp only;decide)),_,_,rfl,rfl,_,_,rfl,rfl,(.inl ⟨by omega,by omega⟩),(by show 2<=sizeLine;decide),λp3 H3 n3=>?_⟩;obtain ⟨w,hw,w1,w2⟩:∃ w,atI [V.int 1,V.int (sc*(1+x2 % 3))] (x2 / 3 % 3 / 2)=some (V.int w)/\1<=w/\w<=3*10 ^ 12:=by
   have hk:x2 / 3 % 3 / 2=0\/x2 / 3 % 3 / 2=1:=by omega
   have h1:sc<=sc*(1+x2 % 3):=by have:=Int.mul_le_mul_of_nonneg_left (show 1<=1+x2 % 3 by omega) (show 0<=sc by omega);rwa [Int.mul_one] at this
   rcases hk with e|e<;>rw[e]
   ·exact ⟨_,rfl,by omega,by omega⟩
   ·exact ⟨_,rfl,by omega,by omega⟩
  have hl3:=n3.same _ _ hl2;refine ⟨_,rfl,l,_,_,_,rfl,rfl,SqL.of hl3,at2',_,_,rfl,rfl,⟨by decide,by decide⟩,_,_,rfl,rfl,(by first|decide|(dsimp only;decide)),_,_,rfl,rfl,⟨by decide,by decide⟩,p3,_,_,_,rfl,rfl,SqL.of n3.at_,hw,(by show 0<=sizeLine;decide),λls H4 n4=>?_⟩;have s14:=n2.same.trans (n3.same.trans n4.same);have hl4:=s14 _ _ hl;obtain ⟨ms,ec,ms1,ms5⟩:=qv8 hx (n:=x3 % 5) (by omega) (by omega);have fls:H ls=none:=(n1.same.trans (n2.same.trans n3.same)).free n4.fresh;have nl:l≠ls:=qai hl3 n4.fresh;refine ⟨_,rfl,_,rfl,_,rfl,l,_,_,_,rfl,rfl,SqL.of hl4,at3',_,_,rfl,rfl,(by first|decide|(dsimp only;decide)),_,_,rfl,rfl,_,rfl,l,_,rfl,SqL.of hl4,λlz H5 n5=>?_⟩;have nlz:lz≠ls:=(qai n4.at_ n5.fresh).symm;rw[ec] at n5;have s15:=s14.trans n5.same;refine ⟨lz,rfl,⟨_,SqL.of n5.at_⟩,qbt (xs:=ms.map V.int) (λi σ H'=>IvQ H ms xs lz l ls c sc i σ H') ⟨n1.same.trans s15,n5.at_,s15 _ _ hl,_,w,[],[],none,n5.same _ _ n4.at_,.nil,St41.zero m6.1 m6.2 w1 w2,rfl⟩ (λi σ H' _ h=>SqL.of h.2.1) ?_ ?_⟩
  ·rintro i v σ H' hvi ⟨s',hz,hl',age,w,ys,ps,v6,hls,hp,St,rfl⟩
   rw[List.getElem?_map] at hvi;obtain ⟨x,hxi,rfl⟩:=Option.map_eq_some_iff.mp hvi;have hi5:i<5:=by have:=(List.getElem?_eq_some_iff.mp hxi).1;omega
   have hlen:=hp.length;have hSl:=St.len;have hw0:=St.w0;have hwb:w<=10 ^ 16:=by
    have w1:=St.w1;have hc:i=0\/i=1\/i=2\/i=3\/i=4:=by omega
    rcases hc with rfl|rfl|rfl|rfl|rfl<;>omega
   have mA:=mB (x:=x / 8 % 7) (n:=6) (by omega) (by omega) (by omega);have mC:=mB (x:=x / 8 % 40) (n:=39) (by omega) (by omega) (by omega);refine qb8 ⟨_,rfl,.inl ⟨rfl,_,SqL.of hls⟩,_,rfl,_,rfl,(by show 2<=sizeLine;decide),λt1 G1 k1=>?_⟩;have hls1:=k1.same _ _ hls;refine ⟨ls,_,_,rfl,rfl,hls1,qah (by omega),λG2 b2 h2'=>?_⟩;have sG:Same H G2:=b2.same (s'.trans k1.same) fls;have hzG:=b2 _ _ (k1.same _ _ hz) nlz;have hlG:=b2 _ _ (k1.same _ _ hl') nl;have hpG:=Pairs.but (Pairs.snoc (show PairAt G1 (.ref t1) (age,w) from ⟨t1,rfl,k1.at_⟩) (hp.same k1.same)) b2 hls1 qth;clear b2 hls1 k1 hls hp hz hl' s';refine ⟨_,rfl,_,rfl,_,_,rfl,rfl,⟨by decide,by decide⟩,_,_,rfl,rfl,(by first|decide|(dsimp only;decide)),_,rfl,_,_,rfl,rfl,(.inl ⟨by omega,by omega⟩),_,rfl,_,_,rfl,rfl,⟨by decide,by decide⟩,_,_,rfl,rfl,(by first|decide|(dsimp only;decide)),_,rfl,_,_,rfl,rfl,(.inl ⟨by omega,by omega⟩),_,rfl,_,_,rfl,rfl,⟨by decide,by decide⟩,_,_,rfl,rfl,(by first|decide|(dsimp only;decide)),_,_,rfl,rfl,(by show 4<=sizeLine;decide),λp3 G3 k3=>?_⟩;obtain ⟨dd,hdd,d0,d1⟩:∃ dd,atI [V.int 0,V.int (x / 8 % 7*sc),V.int (x / 8 % 40*sc),V.int (1+x / 8 % 9)] (x % 4)=some (V.int dd)/\0<=dd/\dd<=40*10 ^ 12:=by
    have hk:=mod4' (x)
    rcases hk with e|e|e|e<;>rw[e]
    ·exact ⟨_,rfl,by omega,by omega⟩
    ·exact ⟨_,rfl,by omega,by omega⟩
    ·exact ⟨_,rfl,by omega,by omega⟩
    ·exact ⟨_,rfl,by omega,by omega⟩
   refine ⟨_,rfl,_,_,rfl,rfl,(by first|decide|(dsimp only;decide)),p3,_,_,_,rfl,rfl,SqL.of k3.at_,hdd,_,_,rfl,rfl,_,rfl,(by show 4<=sizeLine;decide),λp4 G4 k4=>?_⟩;obtain ⟨m,hm,mm1,mm5⟩:∃ m,atI [V.int 1,V.int 2,V.int 3,V.int 5] (x / 1000 % 4)=some (V.int m)/\1<=m/\m<=5:=by
    have hk:=mod4' (x / 1000)
    rcases hk with e|e|e|e<;>rw[e]
    ·exact ⟨_,rfl,by omega,by omega⟩
    ·exact ⟨_,rfl,by omega,by omega⟩
    ·exact ⟨_,rfl,by omega,by omega⟩
    ·exact ⟨_,rfl,by omega,by omega⟩
   refine ⟨_,rfl,_,_,rfl,rfl,⟨by decide,by decide⟩,_,_,rfl,rfl,(by first|decide|(dsimp only;decide)),p4,_,_,_,rfl,rfl,SqL.of k4.at_,hm,_,_,rfl,rfl,(.inl ⟨by omega,by omega⟩),?_⟩;have s24:=k3.same.trans k4.same;exact ⟨sG.trans s24,s24 _ _ hzG,s24 _ _ hlG,_,_,_,_,_,s24 _ _ h2',hpG.same s24,St.step d0 d1 mm1 mm5,rfl⟩
  ·rintro σ H' ⟨s',hz,hl',age,w,ys,ps,v6,hls,hp,St,rfl⟩
   rw[List.length_map] at St;have hlen:=hp.length;have hSl:=St.len;refine ⟨_,rfl,l,_,_,_,rfl,rfl,SqL.of hl',at9',_,_,rfl,rfl,(by first|decide|(dsimp only;decide)),rfl,_,rfl,?_⟩;refine qcj (λz=>?_) λz=>?_
   ·refine ⟨_,rfl,(by show 2<=sizeLine;decide),λt Ht nt=>?_⟩
    exact q t ls ys ps none Ht (s'.trans nt.same) nt.at_ (nt.same _ _ hls) (hp.same nt.same) (St.dr ms1 ms5 λz p e=>by cases e)
   ·obtain ⟨pl,hpl⟩:∃ pl,ps[ps.length-1]?=some pl:=⟨_,List.getElem?_eq_getElem (by omega)⟩
    obtain ⟨v,hv,ap,rfl,hap⟩:=hp.get' hpl;have hat:atI ys (-1)=some (.ref ap):=qes (by rw[hlen];exact hv);have mE:=mB (x:=x10 % 50) (n:=49) (by omega) (by omega) (by omega);refine ⟨_,rfl,_,rfl,_,rfl,ls,_,_,_,rfl,rfl,SqL.of hls,hat,ap,_,_,_,rfl,rfl,SqT.of hap,rfl,_,rfl,l,_,_,_,rfl,rfl,SqL.of hl',at10',_,_,rfl,rfl,(by first|decide|(dsimp only;decide)),_,rfl,_,_,rfl,rfl,(.inl ⟨by omega,by omega⟩),(by show 3<=sizeLine;decide),λp3 G3 k3=>?_⟩;obtain ⟨e,he,e0,e1⟩:∃ e,atI [V.int 0,V.int (x10 % 50*sc),V.int 1] (x9 / 3 % 3)=some (V.int e)/\0<=e/\e<=50*10 ^ 12:=by
     have hk:=mod3' (x9 / 3)
     rcases hk with e|e|e<;>rw[e]
     ·exact ⟨_,rfl,by omega,by omega⟩
     ·exact ⟨_,rfl,by omega,by omega⟩
     ·exact ⟨_,rfl,by omega,by omega⟩
    have hl3':=k3.same _ _ hl';refine ⟨_,rfl,l,_,_,_,rfl,rfl,SqL.of hl3',at9',_,_,rfl,rfl,⟨by decide,by decide⟩,_,_,rfl,rfl,(by first|decide|(dsimp only;decide)),p3,_,_,_,rfl,rfl,SqL.of k3.at_,he,_,_,rfl,rfl,(by show 2<=sizeLine;decide),λt Ht nt=>?_⟩;have s2:=k3.same.trans nt.same;have hb1:=St.each _ pl hpl;have ha1:=St.a1;exact q t ls ys ps (some (pl.1+e)) Ht (s'.trans s2) nt.at_ (s2 _ _ hls) (hp.same s2) (St.dr ms1 ms5 λz p ez hp'=>by cases ez;rw[hpl] at hp';cases hp';omega)
theorem quf {σ:St} {H:Hp} {K:List V->Hp->Prop} (h:K [] H):qlv σ H K:=h
theorem qug {a b c d e f:Int} {H:Hp} {p:Addr} (hp:H p=none):New H (upd H p (.tup (qhj [V.int a,.int b,.int c,.int d,.int e,.int f] (some 2) none))) p (.tup [V.int c,.int d,.int e,.int f]):=qa8 hp
theorem qlm (h:HT.sIx 6 0 (some 2)=0/\HT.sIx 6 6 none=6):False:=by
 have z1:HT.sIx 6 0 (some 2)=0:=h.1
 revert z1;decide
abbrev IvP (s':Abs) (H5:Hp) (ro l2 lk:Addr) (a b:Option Int) (i:Nat) (σ:St) (H6:Hp):Prop:=But lk H5 H6/\∃ (ks:List V) (v5 v6 v7:Option V),H6 lk=some (.lst ks)/\Tups H6 ks (((qbc s').filter (kZ a b)).map (List.drop 2) ++ (((qbh s').take i).filter (kY a b)).map yH)/\σ=[some (.ref ro),some (gv a),some (gv b),some (.ref l2),some (.ref lk),v5,v6,v7,none]
include T in
theorem qv9:qqv P w K mg base 4 "pieces" ["roll", "a", "b"] [] (qm1 C_Roll C_Rule C_Gone):=by
 obtain ⟨f,fd,F,hm⟩:=T.f_pieces;have nd:=sc_pieces.nd;refine ⟨f,fd,(F.okX sc_pieces (λvs H Q E h=>?_) (λcdv A outer s H vs Q E hr h=>?_)),hm,F.kp,(F.binds λ_ _ _ _ _ _ us hl=>by obtain ⟨_,_,_,rfl⟩:=L2.lq3 hl;rfl)⟩
 ·obtain ⟨ro,c,s',LY,LZ,n,a,b,rfl,_⟩:=h;rfl
 ·obtain ⟨ro,c,s',LY,LZ,n,a,b,rfl,R0,ly,lz,ao,hn,qE,q⟩:=h
  obtain ⟨dx,hob⟩:=R0.obj;obtain ⟨Y0,Z0,A0,B0⟩:=id R0;have ysh:=ao.ysh hn;have zsh:=ao.zsh;refine ⟨_,(jB6 (qa0 (jW (qfz T) hr (jA2 (jI (qcf (pv 0) T.cl_Roll (qeh T) (hr.mono (by decide))) (qe4 qcz qaa)) (pv 1)))) (jS 3 nd (qcf (pv 0) T.cl_Roll (qej T) (hr.mono (by decide)))) (qct (i:=4) (vars:=[ "row" ]) (frees:=[ "a", "b" ]) (fv:=[1,2]) nd rfl (Or.inl rfl) rfl (jL2 rfl) ⟨⟨rfl,.inl rfl,rfl,.inl rfl⟩,⟨⟨rfl,.inl rfl,rfl,.inl rfl⟩,trivial⟩⟩ (qap (pv 3)) (qbp (by decide)) (λ_ _ _ _=>(jM 0 [ "row", "a", "b" ])) (λ_ _ _ _=>(qdt (jC qb0 (jF (qde T) hr (jA4 (pv 1) (pv 2) (qcm (show IxR _ (qhk K) from qbi) (pv 0) qaa (λ_ _=>rfl)) (qcm (show IxR _ (qhk K) from qbi) (pv 0) qaa (λ_ _=>rfl)))) (qcm (show IxR _ (qhk K) from qbi) (pv 0) qaa (λ_ _=>rfl))))) (λ_ _ _ _=>(qcq (show SlR _ (qCf K) from qo0) (pv 0) (qcl qaa) qf7))) (qb7 (qo7 ⟨rfl,rfl,rfl⟩) rfl (qap (qcf (pv 0) T.cl_Roll (qei T) (hr.mono (by decide)))) (jG3 (jN 5 nd) (jN 6 nd) (jN 7 nd)) (qac (qav (jC qb0 (jF (qde T) hr (jA4 (pv 1) (pv 2) (pv 5) qaa)) qaa) (qac (qa0 (qf8 PySem.F.plainAttrs_list PySem.F.slot_list_append PySem.F.type_list_append qby (pv 4) (jA1 (jF (qnk T) hr (jA1 (qax (jA1 (qao (jA2 (pv 6) (pv 7))))))))))) qam))) (qct (i:=8) (vars:=[ "row" ]) (frees:=[ "a", "b" ]) (fv:=[1,2]) nd rfl (Or.inl rfl) rfl (jL2 rfl) ⟨⟨rfl,.inl rfl,rfl,.inl rfl⟩,⟨⟨rfl,.inl rfl,rfl,.inl rfl⟩,trivial⟩⟩ (qap (pv 3)) (qbp (by decide)) (λ_ _ _ _=>(jM 0 [ "row", "a", "b" ])) (λ_ _ _ _=>(qdt (qco (jF (qv7 T) hr (jA4 (pv 1) (pv 2) (qcm (show IxR _ (qhk K) from qbi) (pv 0) qaa (λ_ _=>rfl)) (qcm (show IxR _ (qhk K) from qbi) (pv 0) qaa (λ_ _=>rfl))))))) (λ_ _ _ _=>(qao (jA3 (qcm (show IxR _ (qhk K) from qbi) (pv 0) qaa (λ_ _=>rfl)) (qcm (show IxR _ (qhk K) from qbi) (pv 0) qaa (λ_ _=>rfl)) (qcq (show SlR _ (qCf K) from qo0) (pv 0) (qcl qaa) qf7))))) (qaf (qao (jA2 (pv 4) (pv 8))))),?_⟩
  walk_at "r"
  refine ⟨ro,dx,_,rfl,hob,qir _ _ _ _ _,ro,_,rfl,A0,λle H1 n1=>?_⟩;have hat:atI (c.es.map V.int ++ [gv c.ge]) (-1)=some (gv c.ge):=qes (by simp);have hle:H1 le=some (.lst (c.es.map V.int ++ [gv c.ge])):=n1.at_;refine ⟨_,rfl,le,_,_,_,rfl,rfl,SqL.of hle,hat,_,rfl,?_⟩;refine ⟨c.ge,a,rfl,λbd dx2 H2 n2=>qE bd dx2 H2 (New.after n1.same n2),λnb=>?_⟩;have q:=q nb;clear qE hat hle;have s01:=n1.same;clear n1
  walk_at "r"
  refine ⟨ro,dx,_,rfl,s01 _ _ hob,qit _ _ _ _ _,quf ?_⟩;refine (R0.same s01).heaps lz λl2 xs2 H2 s2 f2 h2 t2 ok2=>?_
  have hzl:=t2.length;obtain ⟨o1,o2⟩:=ok2;have s02:=s01.trans s2;have fl2:H l2=none:=s01.free f2;clear s01 s2 f2;refine ⟨_,rfl,l2,rfl,⟨_,SqL.of h2⟩,qa9 (xs:=xs2) (λi ys H3=>Same H2 H3/\Tups H3 ys ((((qbc s').take i).filter (kZ a b)).map (List.drop 2))) (Nat.le_of_lt (qah (by omega))) ⟨Same.refl _,.nil⟩ (λi ys H3 h3=>⟨SqL.of (h3.1 _ _ h2),by rw[h3.2.length,List.length_map];exact qt0 _ _ _⟩) ?_ ?_⟩
  ·rintro i x ys H3 hi ⟨s3,ty⟩
   obtain ⟨r,hri,p,rfl,hp⟩:=t2.get hi;obtain ⟨st,w,m,t,lo,hi',rfl,hw⟩:=zsh r (List.mem_of_getElem? hri);have hp3:H3 p=some (.tup [.int st,.int w,.int m,.int t,.int lo,.int hi']):=s3 _ _ hp;refine qb8 ?_
   walk_at "r"
   refine ⟨a,b,st,w,rfl,?_⟩
   walk_at "r"
   refine qcj (λz=>?_) λz=>?_
   ·have z2:kZ a b [st,w,m,t,lo,hi']=true:=by unfold kZ;simpa using z
    walk_at "r"
    refine ⟨λy=>qlm y,λp5 hp5=>?_⟩;have n5:=qug (a:=st) (b:=w) (c:=m) (d:=t) (e:=lo) (f:=hi') hp5;refine ⟨s3.trans n5.same,?_⟩;rw[qDd hri z2,List.map_append];exact Tups.snoc ⟨p5,rfl,n5.at_⟩ (ty.same n5.same)
   ·have z2:¬ kZ a b [st,w,m,t,lo,hi']=true:=by unfold kZ;simpa using z
    rw[qDe hri z2];exact ⟨s3,ty⟩
  rintro ys H3 lk H4 ⟨s3,ty⟩ n4;rw[hzl,List.take_length] at ty;have s04:=s02.trans (s3.trans n4.same);have flk:H lk=none:=(s02.trans s3).free n4.fresh;have h24:=n4.same _ _ (s3 _ _ h2);have t24:=t2.same (s3.trans n4.same);have hk4:=n4.at_;have ty4:=ty.same n4.same;have nk2:l2≠lk:=qai (s3 _ _ h2) n4.fresh;clear s3 n4 ty h2 t2 s02
  walk_at "r"
  refine ⟨ro,dx,_,rfl,s04 _ _ hob,qis _ _ _ _ _,quf ?_⟩;refine (R0.same s04).young ly λl5 xs5 H5 s5 f5 h5 t5 ok5=>?_
  have hyl:=t5.length;obtain ⟨o3,o4⟩:=ok5;have nk5:l5≠lk:=(qai hk4 f5).symm;have hk5:=s5 _ _ hk4;have h25:=s5 _ _ h24;have t25:=t24.same s5;have ty5:=ty4.same s5;have s05:=s04.trans s5;clear s5 f5 hk4 h24 t24 ty4 s04;refine ⟨l5,rfl,⟨_,SqL.of h5⟩,qbt (xs:=xs5) (λi σ H6=>IvP s' H5 ro l2 lk a b i σ H6) ⟨λ_ _ e _=>e,ys,none,none,none,hk5,by simpa using ty5,rfl⟩ (λi σ H6 _ h6=>SqL.of (h6.1 _ _ h5 nk5)) ?_ ?_⟩
  ·rintro i x σ H6 hi ⟨b6,ks,v5,v6,v7,hk6,tk6,rfl⟩
   obtain ⟨r,hri,p,rfl,hp⟩:=t5.get hi;obtain ⟨t,v,m,rfl,rb⟩:=ysh r (List.mem_of_getElem? hri);have hp6:H6 p=some (.tup [.int t,.int v,.int m]):=b6 _ _ hp (qbe hp hk5 (by intro z;cases z));have lk6:=tk6.length;have lfl:=qt0 (qbh s') (kY a b) i;have lfz:=List.length_filter_le (kZ a b) (qbc s');have li:i<xs5.length:=(List.getElem?_eq_some_iff.mp hi).1;rw[List.length_append,List.length_map,List.length_map] at lk6;refine ⟨p,_,rfl,SqT.of hp6,rfl,_,_,rfl,_,_,rfl,_,_,rfl,rfl,?_⟩
   walk_at "r"
   refine ⟨a,b,t,1,rfl,?_⟩
   walk_at "r"
   refine qcj (λz=>?_) λz=>?_
   ·have z2:kY a b [t,v,m]=true:=by unfold kY;simpa using z
    walk_at "r";intro p7 H7 n7
    walk_at "r";intro p8 H8 n8
    refine ⟨p8,_,[(v,m)],rfl,n8.at_,.cons ⟨p7,rfl,n8.same _ _ n7.at_⟩ .nil,(λq hq=>by rw[List.mem_singleton.mp hq];exact rb),by simp,(λz=>by cases z),λ_ h9 a1 b1 lo hi' H9 ho n9=>?_⟩;obtain ⟨e1,e2,e3,e4⟩:=qlf ho;rw[e1,e2,e3,e4] at n9;have s69:=n7.same.trans (n8.same.trans n9.same);have hk9:=s69 _ _ hk6;refine ⟨lk,_,_,rfl,rfl,hk9,(by rw[sizeLine_eq];omega),λH10 b10 hk10=>?_⟩;refine ⟨λx o e hx=>b10 _ _ (s69 _ _ (b6 _ _ e hx)) hx,_,_,_,_,hk10,?_,rfl⟩;rw[qDd hri z2,List.map_append,<- List.append_assoc];have ts:qn0 H9 H10:=λx xs e=>b10 _ _ e (qbe e hk9 (by intro z;cases z))
    exact Tups.snoc ⟨h9,rfl,ts _ _ (show H9 h9=some (.tup ((yH [t,v,m]).map V.int)) from n9.at_)⟩ ((tk6.same s69).tupS ts)
   ·have z2:¬ kY a b [t,v,m]=true:=by unfold kY;simpa using z
    exact ⟨b6,ks,_,_,_,hk6,by rw[qDe hri z2];exact tk6,rfl⟩
  rintro σ H6 ⟨b6,ks,v5,v6,v7,hk6,tk6,rfl⟩;rw[hyl,List.take_length] at tk6;have h26:=b6 _ _ h25 nk2;have t26:Tups H6 xs2 (qbc s'):=t25.tupS λx xs e=>b6 _ _ e (qbe e hk5 (by intro z;cases z))
  have s06:Same H H6:=b6.same s05 flk;clear b6 t25 h25 ty5 hk5 s05 h5 t5;refine ⟨_,rfl,l2,rfl,⟨_,SqL.of h26⟩,qa9 (xs:=xs2) (λi ys H3=>Same H6 H3/\Parts H3 ys (((qbc s').take i).filter (cZ a b))) (Nat.le_of_lt (qah (by omega))) ⟨Same.refl _,.nil⟩ (λi ys H3 h3=>⟨SqL.of (h3.1 _ _ h26),by rw[h3.2.length];exact qt0 _ _ _⟩) ?_ ?_⟩
  ·rintro i x ys H7 hi ⟨s7,ty⟩
   obtain ⟨r,hri,p,rfl,hp⟩:=t26.get hi;obtain ⟨st,w,m,t,lo,hi',rfl,hw⟩:=zsh r (List.mem_of_getElem? hri);have hp7:H7 p=some (.tup [.int st,.int w,.int m,.int t,.int lo,.int hi']):=s7 _ _ hp;refine qb8 ?_
   walk_at "r"
   refine ⟨a,b,st,w,rfl,?_⟩;have ec:(decide (0<qtx a b st w) && decide (qtx a b st w<w))=cZ a b [st,w,m,t,lo,hi']:=rfl;rw[ec];refine ⟨_,rfl,qcj (λz=>?_) λz=>?_⟩
   ·walk_at "r"
    refine ⟨λy=>qlm y,λp8 hp8=>?_⟩;have n8:=qug (a:=st) (b:=w) (c:=m) (d:=t) (e:=lo) (f:=hi') hp8
    generalize upd H7 p8 (.tup (qhj [V.int st,.int w,.int m,.int t,.int lo,.int hi'] (some 2) none))=H8 at n8 ⊢
    walk_at "r";intro p9 H9 n9
    have s79:=n8.same.trans n9.same;refine ⟨s7.trans s79,?_⟩;rw[qDd hri z];exact Parts.snoc (r:=[st,w,m,t,lo,hi']) ⟨p9,p8,rfl,n9.at_,n9.same _ _ n8.at_⟩ (ty.same s79)
   ·rw[qDe hri z]
    exact ⟨s7,ty⟩
  rintro zs H7 lp H8 ⟨s7,ty⟩ n8;rw[hzl,List.take_length] at ty
  walk_at "r";intro tt H9 n9
  have s69:=s7.trans (n8.same.trans n9.same);have hk9:=s69 _ _ hk6;exact q tt lk lp ks zs H9 (s06.trans s69) flk ((s06.trans s7).free n8.fresh) (qai (s7 _ _ hk6) n8.fresh) n9.at_ hk9 (tk6.same s69) (n9.same _ _ n8.at_) (ty.same (n8.same.trans n9.same))
include T in
theorem qhu:qaw P w K mg base 1 "widest" ["heap"] qmu:=by
 obtain ⟨f,fd,F,hm⟩:=T.f_widest;have nd:=sc_widest.nd;refine F.def_ hm (F.ok sc_widest (λvs H Q E h=>?_) (λcdv A outer s H vs Q E hr h=>?_)) (F.binds λ_ _ _ _ _ _ us hl=>by obtain ⟨_,rfl⟩:=L2.lq1 hl;rfl)
 ·obtain ⟨a,m,t,lo,hi,rfl,_⟩:=h;rfl
 ·obtain ⟨a,m,t,lo,hi,rfl,ha,cb,hb,q⟩:=h
  have h2:=cb.le;unfold HBd at hb;refine ⟨_,(jB9 (jS 1 nd (jT (pv 0) qaa)) (jS 2 nd (jT (pv 0) qaa)) (jS 3 nd (jT (pv 0) qaa)) (qav (jC qb0 (pv 2) (pv 3)) (qac (qaf (qax (jA1 (qao (jA2 (pv 2) (pv 1))))))) qam) (jS 4 nd (qae qbr (jT (pv 0) qaa) (qae qb3 (pv 1) (pv 2)))) (jS 5 nd (qae qdr (pv 4) (qae qbr (pv 3) (pv 2)))) (jS 6 nd (qae qaq (pv 4) (qae qbr (pv 3) (pv 2)))) (qav (jC qb0 (pv 6) qaa) (qac (qaf (qax (jA2 (qao (jA2 (pv 2) (qae qbr (pv 1) (pv 5)))) (qao (jA2 (pv 3) (pv 5))))))) qam) (qaf (qax (jA3 (qao (jA2 (pv 2) (qae qbr (qae qbr (pv 1) (pv 5)) qaa))) (qao (jA2 (qae qa1 (pv 2) (pv 6)) qaa)) (qao (jA2 (pv 3) (pv 5))))))),?_⟩
  walk_at "r"
  refine qcj (λz=>?_) λz=>?_
  ·have z':lo=hi:=by simpa using z
   walk_at "r";intro p1 H1 n1
   walk_at "r";intro l H2 n2
   refine q l _ H1 H2 n1.same n2 ?_;have e:qq4 m t lo hi=[(lo,m)]:=by unfold qq4;rw[if_pos z']
   rw[e];exact .cons ⟨p1,rfl,n2.same _ _ n1.at_⟩ .nil
  ·have z':¬ lo=hi:=by simpa using z
   walk_at "r"
   refine qcj (λy=>?_) λy=>?_
   ·have y':(t-m*lo) % (hi-lo)=0:=by simpa using y
    walk_at "r";intro p1 H1 n1
    walk_at "r";intro p2 H2 n2
    walk_at "r";intro l H3 n3
    refine q l _ H2 H3 (n1.same.trans n2.same) n3 ?_;have e:qq4 m t lo hi=[(lo,m-(t-m*lo) / (hi-lo)),(hi,(t-m*lo) / (hi-lo))]:=by unfold qq4;rw[if_neg z',if_pos y']
    rw[e];exact .cons ⟨p1,rfl,n3.same _ _ (n2.same _ _ n1.at_)⟩ (.cons ⟨p2,rfl,n3.same _ _ n2.at_⟩ .nil)
   ·have y':¬ (t-m*lo) % (hi-lo)=0:=by simpa using y
    walk_at "r";intro p1 H1 n1
    walk_at "r";intro p2 H2 n2
    walk_at "r";intro p3 H3 n3
    walk_at "r";intro l H4 n4
    refine q l _ H3 H4 (n1.same.trans (n2.same.trans n3.same)) n4 ?_;have e:qq4 m t lo hi=[(lo,m-(t-m*lo) / (hi-lo)-1),(lo+(t-m*lo) % (hi-lo),1),(hi,(t-m*lo) / (hi-lo))]:=by unfold qq4;rw[if_neg z',if_neg y']
    rw[e];exact .cons ⟨p1,rfl,n4.same _ _ (n3.same _ _ (n2.same _ _ n1.at_))⟩ (.cons ⟨p2,rfl,n4.same _ _ (n3.same _ _ n2.at_)⟩ (.cons ⟨p3,rfl,n4.same _ _ n3.at_⟩ .nil))
theorem qhv {K:Frag} {l:Addr} {xs:List V} {hs:List HP4} {te:TE} {Q:VK} {σ:St} {H:Hp} (f:HP4->Int) (hl:H l=some (.lst xs)) (hp:Tups H xs (hs.map j4)) (hz:hs.length<=200)
  (hs':∀ p h,H p=some (.tup [.int h.1,.int h.2.1,.int h.2.2.1,.int h.2.2.2])->∀ Q':VK,Q' (.int (f h)) H->te (σ.set 0 (some (.ref p))) H Q')
  (hd:∀ a H',New H H' a (.lst ((hs.map f).map V.int))->Q (.ref a) H'):qfg (Itl K l) Q (qd3 0) qAa te σ H:=by
 have hlen:xs.length=hs.length:=by rw[hp.length,List.length_map]
 refine qa9 (xs:=xs) (λi ys H2=>H2=H/\ys=((hs.take i).map f).map V.int) (Nat.le_of_lt (qah (by omega))) ⟨rfl,rfl⟩ (λi ys H2 h2=>⟨SqL.of (by rw[h2.1];exact hl),by rw[h2.2];simp;omega⟩) ?_ ?_
 ·rintro i x ys H2 hi ⟨rfl,rfl⟩
  obtain ⟨r,hri,a,rfl,ha⟩:=hp.get hi;rw[List.getElem?_map] at hri;obtain ⟨h,hh,rfl⟩:=Option.map_eq_some_iff.mp hri;refine qb8 (qo5 (qd2 (hs' a h ha _ ⟨rfl,?_⟩)));rw[qbq hs i h hh,List.map_append,List.map_append];rfl
 ·rintro ys H2 a H' ⟨rfl,rfl⟩ n
  rw[hlen,List.take_length] at n;exact hd a H' n
include T in
theorem qf0:qaw P w K mg base 1 "greatest_divisor" ["one", "other"] qBg:=by
 obtain ⟨f,fd,F,hm⟩:=T.f_greatest_divisor;have nd:=sc_greatest_divisor.nd;refine F.def_ hm (F.ok sc_greatest_divisor (λvs H Q E h=>?_) (λcdv A outer s H vs Q E hr h=>?_)) (F.binds λ_ _ _ _ _ _ us hl=>by obtain ⟨_,_,rfl⟩:=L2.lq2 hl;rfl)
 ·obtain ⟨m,n,rfl,_⟩:=h;rfl
 ·obtain ⟨m,n,rfl,q⟩:=h
  refine ⟨_,(jB2 (quv PassesOwn.never (jC ql3 (pv 1) qaa) (jB3 (jS 2 nd (qae qaq (pv 0) (pv 1))) (jS 0 nd (pv 1)) (jS 1 nd (pv 2)))) (qaf (pv 0))),?_⟩;refine qux (λσ H'=>H'=H/\∃ (a b:Nat) (v:Option V),Nat.gcd a b=Nat.gcd m n/\σ=[some (.int a),some (.int b),v]) (λσ _=>match σ with|_ :: some (.int b) :: _=>b.toNat|_=>0) ⟨rfl,m,n,none,rfl,rfl⟩ ?_ ?_
  ·rintro σ H' ⟨rfl,a,b,v,e,rfl⟩
   walk_at "r"
   refine qcj (λz=>?_) λz=>?_
   ·have hb:0<b:=by simpa using z
    have em:(a:Int) % (b:Int)=((a % b:Nat):Int):=(Int.natCast_emod a b).symm;refine ⟨_,rfl,_,rfl,_,_,rfl,rfl,(by show (0:Int)<(b:Int);omega),?_⟩;refine ⟨_,rfl,?_⟩;refine ⟨_,rfl,?_⟩;refine ⟨⟨rfl,b,a % b,_,by rw[<- e,Nat.gcd_comm a b,Nat.gcd_rec b a,Nat.gcd_comm],by show _=_;rw[<- em];rfl⟩,?_⟩
    show ((a:Int) % (b:Int)).toNat<(b:Int).toNat
    rw[em];have:=Nat.mod_lt a hb;omega
   ·have hb:b=0:=by
     have:¬ 0<b:=by simpa using z
     omega
    subst hb;rw[Nat.gcd_zero_right] at e;refine ⟨_,rfl,?_⟩;rw[e];exact q
  ·exact λσ H Q Q' hq ⟨v,e,i,j,e1,e2,b,e3,h⟩=>⟨v,e,i,j,e1,e2,b,e3,hq _ _ h⟩
include T in
theorem qjx:qaw P w K mg base 2 "lowest_terms" ["top", "bottom"] qBh:=by
 obtain ⟨f,fd,F,hm⟩:=T.f_lowest_terms;have nd:=sc_lowest_terms.nd;refine F.def_ hm (F.ok sc_lowest_terms (λvs H Q E h=>?_) (λcdv A outer s H vs Q E hr h=>?_)) (F.binds λ_ _ _ _ _ _ us hl=>by obtain ⟨_,_,rfl⟩:=L2.lq2 hl;rfl)
 ·obtain ⟨t,n,rfl,_⟩:=h;rfl
 ·obtain ⟨t,n,rfl,h1,h2,q⟩:=h
  obtain ⟨lo,g1,g2⟩:=qBf (t:=t) h1;refine ⟨_,(jB2 (jS 2 nd (jF (qf0 T) hr (jA2 (qag quy rfl T.b_abs qz9 (jA1 (pv 0))) (pv 1)))) (qaf (qao (jA2 (qae qdr (pv 0) (pv 2)) (qae qdr (pv 1) (pv 2)))))),?_⟩;have e1:(if t<0 then -t else t)=(t.natAbs:Int):=by split<;>omega
  have e2:n=(n.natAbs:Int):=by omega
  refine ⟨_,rfl,_,rfl,_,rfl,t.natAbs,n.natAbs,(by rw[e1,<- e2];rfl),?_⟩
  generalize (Nat.gcd t.natAbs n.natAbs:Int)=g at lo g1 g2 ⊢
  refine ⟨_,rfl,_,rfl,_,_,rfl,rfl,⟨by show 0<g;omega,by show g<_;omega⟩,_,rfl,_,rfl,_,_,rfl,rfl,⟨by show 0<g;omega,by show g<_;omega⟩,by show 2<=sizeLine;decide,λp H1 n1=>?_⟩;exact q p _ _ H1 n1 lo
include T in
theorem qjk:qaw P w K mg base 1 "many_of" ["heaps"] qm2:=by
 obtain ⟨f,fd,F,hm⟩:=T.f_many_of;have nd:=sc_many_of.nd;refine F.def_ hm (F.ok sc_many_of (λvs H Q E h=>?_) (λcdv A outer s H vs Q E hr h=>?_)) (F.binds λ_ _ _ _ _ _ us hl=>by obtain ⟨_,rfl⟩:=L2.lq1 hl;rfl)
 ·obtain ⟨l,xs,hs,rfl,_⟩:=h;rfl
 ·obtain ⟨l,xs,hs,rfl,hl,hp,hn,q⟩:=h
  refine ⟨_,(qac (qaf (qag (qeq rfl) rfl T.b_sum qj6 (jA1 (qdi (vars:=[ "heap" ]) (frees:=[]) (fv:=[]) rfl (jL0 rfl) trivial (qap (pv 0)) (qbp (by decide)) (λ_ _ _ _=>(jM 0 [ "heap" ])) (λ_ _ _ _=>qa3) (λ_ _ _ _=>(qcm (show IxR _ (qhk K) from qbi) (pv 0) qaa (λ_ _=>rfl)))))))),?_⟩;exact ⟨_,rfl,l,rfl,⟨_,SqL.of hl⟩,qhv (λh=>h.1) hl hp hn (λp h e Q' q=>⟨_,rfl,p,_,_,_,rfl,rfl,SqT.of e,rfl,q⟩) λa H1 n1=>⟨a,_,rfl,SqL.of n1.at_,q H1 n1.same⟩⟩
include T in
theorem qkv:qaw P w K mg base 1 "total_of" ["heaps"] qke:=by
 obtain ⟨f,fd,F,hm⟩:=T.f_total_of;have nd:=sc_total_of.nd;refine F.def_ hm (F.ok sc_total_of (λvs H Q E h=>?_) (λcdv A outer s H vs Q E hr h=>?_)) (F.binds λ_ _ _ _ _ _ us hl=>by obtain ⟨_,rfl⟩:=L2.lq1 hl;rfl)
 ·obtain ⟨l,xs,hs,rfl,_⟩:=h;rfl
 ·obtain ⟨l,xs,hs,rfl,hl,hp,hn,q⟩:=h
  refine ⟨_,(qac (qaf (qag (qeq rfl) rfl T.b_sum qj6 (jA1 (qdi (vars:=[ "heap" ]) (frees:=[]) (fv:=[]) rfl (jL0 rfl) trivial (qap (pv 0)) (qbp (by decide)) (λ_ _ _ _=>(jM 0 [ "heap" ])) (λ_ _ _ _=>qa3) (λ_ _ _ _=>(qcm (show IxR _ (qhk K) from qbi) (pv 0) qaa (λ_ _=>rfl)))))))),?_⟩;exact ⟨_,rfl,l,rfl,⟨_,SqL.of hl⟩,qhv (λh=>h.2.1) hl hp hn (λp h e Q' q=>⟨_,rfl,p,_,_,_,rfl,rfl,SqT.of e,rfl,q⟩) λa H1 n1=>⟨a,_,rfl,SqL.of n1.at_,q H1 n1.same⟩⟩
include T in
theorem qdf:qaw P w K mg base 1 "least_of_all" ["heaps"] qkf:=by
 obtain ⟨f,fd,F,hm⟩:=T.f_least_of_all;have nd:=sc_least_of_all.nd;refine F.def_ hm (F.ok sc_least_of_all (λvs H Q E h=>?_) (λcdv A outer s H vs Q E hr h=>?_)) (F.binds λ_ _ _ _ _ _ us hl=>by obtain ⟨_,rfl⟩:=L2.lq1 hl;rfl)
 ·obtain ⟨l,xs,hs,rfl,_⟩:=h;rfl
 ·obtain ⟨l,xs,hs,rfl,hl,hp,hn,hne,q⟩:=h
  refine ⟨_,(qac (qaf (qag (qmh rfl) rfl T.b_min qo8 (jA1 (qdi (vars:=[ "heap" ]) (frees:=[]) (fv:=[]) rfl (jL0 rfl) trivial (qap (pv 0)) (qbp (by decide)) (λ_ _ _ _=>(jM 0 [ "heap" ])) (λ_ _ _ _=>qa3) (λ_ _ _ _=>(qcm (show IxR _ (qhk K) from qbi) (pv 0) qaa (λ_ _=>rfl)))))))),?_⟩;exact ⟨_,rfl,l,rfl,⟨_,SqL.of hl⟩,qhv (λh=>h.2.2.1) hl hp hn (λp h e Q' q=>⟨_,rfl,p,_,_,_,rfl,rfl,SqT.of e,rfl,q⟩) λa H1 n1=>⟨a,_,rfl,SqL.of n1.at_,by rw[List.length_map];exact List.length_pos_iff.mpr hne,λm h1 h2=>q m H1 n1.same h1 h2⟩⟩
include T in
theorem qcd:qaw P w K mg base 1 "greatest_of_all" ["heaps"] qkg:=by
 obtain ⟨f,fd,F,hm⟩:=T.f_greatest_of_all;have nd:=sc_greatest_of_all.nd;refine F.def_ hm (F.ok sc_greatest_of_all (λvs H Q E h=>?_) (λcdv A outer s H vs Q E hr h=>?_)) (F.binds λ_ _ _ _ _ _ us hl=>by obtain ⟨_,rfl⟩:=L2.lq1 hl;rfl)
 ·obtain ⟨l,xs,hs,rfl,_⟩:=h;rfl
 ·obtain ⟨l,xs,hs,rfl,hl,hp,hn,hne,q⟩:=h
  refine ⟨_,(qac (qaf (qag (qie rfl) rfl T.b_max qfj (jA1 (qdi (vars:=[ "heap" ]) (frees:=[]) (fv:=[]) rfl (jL0 rfl) trivial (qap (pv 0)) (qbp (by decide)) (λ_ _ _ _=>(jM 0 [ "heap" ])) (λ_ _ _ _=>qa3) (λ_ _ _ _=>(qcm (show IxR _ (qhk K) from qbi) (pv 0) qaa (λ_ _=>rfl)))))))),?_⟩;exact ⟨_,rfl,l,rfl,⟨_,SqL.of hl⟩,qhv (λh=>h.2.2.2) hl hp hn (λp h e Q' q=>⟨_,rfl,p,_,_,_,rfl,rfl,SqT.of e,rfl,q⟩) λa H1 n1=>⟨a,_,rfl,SqL.of n1.at_,by rw[List.length_map];exact List.length_pos_iff.mpr hne,λm h1 h2=>q m H1 n1.same h1 h2⟩⟩
theorem qBm {a b c d e:Addr} {m:Str} {sp:Nat->Sp} {dvs:List V} {E:XK} {ta:TE} {t:TA} {σ:St} {H:Hp} {Q:VK} (k:Nat) (hk:k<5) (h:qh3 (qli a b c d e k) m (sp k) dvs E ta t σ H Q) :
  qvo (qh3 a m (sp 0) dvs E ta t) (qvo (qh3 b m (sp 1) dvs E ta t) (qvo (qh3 c m (sp 2) dvs E ta t) (qvo (qh3 d m (sp 3) dvs E ta t) (qh3 e m (sp 4) dvs E ta t)))) σ H Q:=
 match k,hk,h with
 | 0,_,h=>.inl h
 | 1,_,h=>.inr (.inl h)
 | 2,_,h=>.inr (.inr (.inl h))
 | 3,_,h=>.inr (.inr (.inr (.inl h)))
 | 4,_,h=>.inr (.inr (.inr (.inr h)))
theorem qDf {a b c d e:Addr} {m:Str} {sp:Sp} {dvs:List V} {W:XW} {ta:TE} {t:TA} {σ:St} {H:Hp} {Q:VK} (k:Nat) (hk:k<5) (h:qid (qli a b c d e k) m sp dvs W ta t σ H Q) :
  qvo (qid a m sp dvs W ta t) (qvo (qid b m sp dvs W ta t) (qvo (qid c m sp dvs W ta t) (qvo (qid d m sp dvs W ta t) (qid e m sp dvs W ta t)))) σ H Q:=
 match k,hk,h with
 | 0,_,h=>.inl h
 | 1,_,h=>.inr (.inl h)
 | 2,_,h=>.inr (.inr (.inl h))
 | 3,_,h=>.inr (.inr (.inr (.inl h)))
 | 4,_,h=>.inr (.inr (.inr (.inr h)))
include T in
theorem qnn:qqv P w K mg base 1 "measure" ["word"] [] (qrb (qli C_HowMany C_Total C_Least C_Greatest C_Mean) C_NoAsk):=by
 obtain ⟨f,fd,F,hm⟩:=T.f_measure;have nd:=sc_measure.nd;refine ⟨f,fd,(F.okX sc_measure (λvs H Q E h=>?_) (λcdv A outer s H vs Q E hr h=>?_)),hm,F.kp,(F.binds λ_ _ _ _ _ _ us hl=>by obtain ⟨_,rfl⟩:=L2.lq1 hl;rfl)⟩
 ·obtain ⟨w,rfl,_⟩:=h;rfl
 ·obtain ⟨wo,rfl,qk,qE⟩:=h
  refine ⟨_,(jB6 (qav (jC qb0 (pv 0) qb6) (qac (qaf (qii T.mk_HowMany rfl T.mg_HowMany))) qam) (qav (jC qb0 (pv 0) qb6) (qac (qaf (qii T.mk_Total rfl T.mg_Total))) qam) (qav (jC qb0 (pv 0) qb6) (qac (qaf (qii T.mk_Least rfl T.mg_Least))) qam) (qav (jC qb0 (pv 0) qb6) (qac (qaf (qii T.mk_Greatest rfl T.mg_Greatest))) qam) (qav (jC qb0 (pv 0) qb6) (qac (qaf (qii T.mk_Mean rfl T.mg_Mean))) qam) (qhn (qbb ⟨rfl,rfl,rfl⟩) rfl T.ex_NoAsk rfl T.mg_NoAsk (jA1 qb6))),?_⟩;refine ⟨_,rfl,rfl,_,rfl,qcj (λz=>?_) λz0=>?_⟩
  ·have z2:wo = "many" :=by simpa using z
   exact λx dx H1 s1 f1 h1=>qk 0 (by omega) z2 x dx H1 s1 h1
  refine ⟨_,rfl,rfl,_,rfl,qcj (λz=>?_) λz1=>?_⟩
  ·have z2:wo = "sum" :=by simpa using z
   exact λx dx H1 s1 f1 h1=>qk 1 (by omega) z2 x dx H1 s1 h1
  refine ⟨_,rfl,rfl,_,rfl,qcj (λz=>?_) λz2=>?_⟩
  ·have z2:wo = "least" :=by simpa using z
   exact λx dx H1 s1 f1 h1=>qk 2 (by omega) z2 x dx H1 s1 h1
  refine ⟨_,rfl,rfl,_,rfl,qcj (λz=>?_) λz3=>?_⟩
  ·have z2:wo = "greatest" :=by simpa using z
   exact λx dx H1 s1 f1 h1=>qk 3 (by omega) z2 x dx H1 s1 h1
  refine ⟨_,rfl,rfl,_,rfl,qcj (λz=>?_) λz4=>?_⟩
  ·have z2:wo = "mean" :=by simpa using z
   exact λx dx H1 s1 f1 h1=>qk 4 (by omega) z2 x dx H1 s1 h1
  refine ⟨by show 1<=sizeLine;decide,qE λk hk e=>?_⟩
  match k,hk,e with
  | 0,_,e=>exact z0 (decide_eq_true (congrArg V.str e))
  | 1,_,e=>exact z1 (decide_eq_true (congrArg V.str e))
  | 2,_,e=>exact z2 (decide_eq_true (congrArg V.str e))
  | 3,_,e=>exact z3 (decide_eq_true (congrArg V.str e))
  | 4,_,e=>exact z4 (decide_eq_true (congrArg V.str e))
theorem qBn {C:TT} {F:TS} {D:Ends} {σ:St} {H:Hp} (c:Bool) (hC:∀ Q:Bool->Hp->Prop,Q c H->C σ H Q) (h1:c=true->F D σ H) (h2:¬ c=true->D.nx σ H):qzr C F quu D σ H:=hC _ (qcj h1 h2)
include T in
theorem qf1:qaw P w K mg base 2 "widest_runs" ["parts"] qpw:=by
 obtain ⟨f,fd,F,hm⟩:=T.f_widest_runs;have nd:=sc_widest_runs.nd;refine F.def_ hm (F.ok sc_widest_runs (λvs H Q E h=>?_) (λcdv A outer s H vs Q E hr h=>?_)) (F.binds λ_ _ _ _ _ _ us hl=>by obtain ⟨_,rfl⟩:=L2.lq1 hl;rfl)
 ·obtain ⟨l,xs,ps,rfl,_⟩:=h;rfl
 ·obtain ⟨l,xs,ps,rfl,hl,hp,ok,q⟩:=h
  obtain ⟨ok1,ok2,ok3⟩:=ok;have hxl:xs.length=ps.length:=by rw[hp.length,List.length_map]
  refine ⟨_,(jB3 (jS 1 nd (qax qc6)) (qb7 PassesOwn.never rfl (qap (pv 0)) (jN 2 nd) (qac (qa0 (qf8 PySem.F.plainAttrs_list PySem.F.slot_list_extend PySem.F.type_list_extend qdk (pv 1) (jA1 (jF (qhu T) hr (jA1 (pv 2)))))))) (qaf (qag qmm rfl T.b_sorted qfk (jA1 (pv 1))))),?_⟩;refine ⟨by show 0<=sizeLine;decide,λr H1 n1=>?_⟩;have fr:H r=none:=n1.fresh;have nl:l≠r:=qai hl fr;refine ⟨_,rfl,l,rfl,⟨_,SqL.of (n1.same _ _ hl)⟩,qbt (xs:=xs) (λi σ H'=>Same H H'/\∃ (ys:List V) (v:Option V),H' r=some (.lst ys)/\Pairs H' ys (qjr (ps.take i))/\σ=[some (.ref l),some (.ref r),v]) ⟨n1.same,[],none,n1.at_,.nil,rfl⟩ (λi σ H' _ h'=>SqL.of (h'.1 _ _ hl)) ?_ ?_⟩
  ·rintro i x σ H2 hi ⟨s2,ys,v,hr2,py,rfl⟩
   obtain ⟨j,hji,a,rfl,ha⟩:=hp.get hi;rw[List.getElem?_map] at hji;obtain ⟨h,hh,rfl⟩:=Option.map_eq_some_iff.mp hji;obtain ⟨cb,hb⟩:=ok3 h (List.mem_of_getElem? hh);have ha2:H2 a=some (.tup [.int h.1,.int h.2.1,.int h.2.2.1,.int h.2.2.2]):=s2 _ _ ha;have ew:qjr (ps.take (i+1))=qjr (ps.take i) ++ wOf h:=by
    unfold qjr;rw[qbq ps i h hh,List.flatMap_append];simp
   have lw:(qjr (ps.take (i+1))).length<=(qjr ps).length:=by
    have e:=List.take_append_drop (i+1) ps;have:qjr ps=qjr (ps.take (i+1)) ++ qjr (ps.drop (i+1)):=by
     unfold qjr;rw[<- List.flatMap_append,e]
    rw[this,List.length_append];omega
   rw[ew,List.length_append] at lw;refine qb8 ?_;refine ⟨_,rfl,.inl ⟨rfl,_,SqL.of hr2⟩,_,rfl,a,h.1,h.2.1,h.2.2.1,h.2.2.2,rfl,ha2,cb,hb,λl3 xs3 H3 H4 s3 n4 p4=>?_⟩;have s24:=s3.trans n4.same;have l1:=py.length;have l2:=p4.length;have hr4:=s24 _ _ hr2;have e3:(qq4 h.1 h.2.1 h.2.2.1 h.2.2.2).length=(wOf h).length:=rfl;refine ⟨r,l3,ys,xs3,rfl,rfl,hr4,n4.at_,Nat.le_of_lt (qah (by omega)),λH5 b5 hr5=>?_⟩;have ts:qn0 H4 H5:=λx xs e=>b5 _ _ e (qbe e hr4 (by intro z;cases z))
   refine ⟨b5.same (s2.trans s24) fr,_,_,hr5,?_,rfl⟩;rw[ew];exact Pairs.app ((py.same s24).tupS ts) (p4.tupS ts)
  ·rintro σ H2 ⟨s2,ys,v,hr2,py,rfl⟩
   rw[hxl,List.take_length] at py;refine ⟨_,rfl,r,ys,(qjr ps).map r2,rfl,SqL.of hr2,qt1 py,by rw[List.length_map];exact ok1,(λk hk=>by obtain ⟨p,_,rfl⟩:=List.mem_map.mp hk;exact List.cons_ne_nil _ _),λms zs l3 H3 pm sm tz n3=>?_⟩;obtain ⟨qs,rfl,pq⟩:=qyx pm;exact q l3 zs qs H3 (s2.trans n3.same) n3.at_ ((qkh tz).same n3.same) pq sm
include T in
theorem qow:qaw P w K mg base 1 "is_beyond" ["value", "many", "total", "high"] qm3:=by
 obtain ⟨f,fd,F,hm⟩:=T.f_is_beyond;have nd:=sc_is_beyond.nd;refine F.def_ hm (F.ok sc_is_beyond (λvs H Q E h=>?_) (λcdv A outer s H vs Q E hr h=>?_)) (F.binds λ_ _ _ _ _ _ us hl=>by obtain ⟨_,_,_,_,rfl⟩:=L2.lq4 hl;rfl)
 ·obtain ⟨v,n,t,b,rfl,_⟩:=h;rfl
 ·obtain ⟨v,n,t,b,rfl,cm,q⟩:=h
  refine ⟨_,(jB2 (qav (qco (pv 3)) (qac (qaf (jD ql3 (qae qb3 (pv 0) (pv 1)) (pv 2)))) qam) (qaf (jD qe5 (qae qb3 (pv 0) (pv 1)) (pv 2)))),?_⟩
  cases b with
  | true=>exact ⟨_,rfl,_,rfl,qd2 ⟨_,rfl,_,rfl,_,_,rfl,rfl,cm,_,rfl,_,_,rfl,rfl,q⟩⟩
  | false=>exact ⟨_,rfl,_,rfl,qgl ⟨_,rfl,_,rfl,_,_,rfl,rfl,cm,_,rfl,_,_,rfl,rfl,q⟩⟩
include T in
theorem qkw:qaw P w K mg base 3 "mean_end" ["known", "runs", "high"] qki:=by
 obtain ⟨f,fd,F,hm⟩:=T.f_mean_end;have nd:=sc_mean_end.nd;refine F.def_ hm (F.ok sc_mean_end (λvs H Q E h=>?_) (λcdv A outer s H vs Q E hr h=>?_)) (F.binds λ_ _ _ _ _ _ us hl=>by obtain ⟨_,_,_,rfl⟩:=L2.lq3 hl;rfl)
 ·obtain ⟨l,r,xs,ys,hs,rs,b,rfl,_⟩:=h;rfl
 ·obtain ⟨l,r,xs,ys,hs,rs,b,rfl,hl,hp,ok,hr0,py,lr,hrb,hne,q⟩:=h
  have hn:=ok.1;have hyl:=py.length;refine ⟨_,(jB4 (jS 3 nd (jF (qjk T) hr (jA1 (pv 0)))) (jS 4 nd (jF (qkv T) hr (jA1 (pv 0)))) (qb7 PassesOwn.never rfl (qap (pv 1)) (jG2 (jN 5 nd) (jN 6 nd)) (qac (qav (PW.pt (qly (jC qb0 (pv 3) qaa) (qj2 (qco (jF (qow T) hr (jA4 (pv 5) (pv 3) (pv 4) (pv 2))))))) (jB2 (qwk (i:=3) nd rfl (Or.inl rfl) (pv 6) qrw) (qwk (i:=4) nd rfl (Or.inl rfl) (qae qb3 (pv 5) (pv 6)) qrw)) qam))) (qaf (jF (qjx T) hr (jA2 (pv 4) (pv 3))))),?_⟩;refine ⟨_,rfl,l,xs,hs,rfl,hl,hp,by omega,λH1 s1=>?_⟩;refine ⟨_,rfl,l,xs,hs,rfl,s1 _ _ hl,hp.same s1,by omega,λH2 s2=>?_⟩;have s12:=s1.trans s2;have hr2:=s12 _ _ hr0;have py2:=py.same s12;refine ⟨_,rfl,r,rfl,⟨_,SqL.of hr2⟩,qbt (xs:=ys) (λi σ H'=>H'=H2/\∃ v w,σ=[some (.ref l),some (.ref r),some (.bl b),some (.int (mE b hs (rs.take i)).1),some (.int (mE b hs (rs.take i)).2),v,w]) ⟨rfl,none,none,rfl⟩ (λi σ H' _ h'=>by rw[h'.1];exact SqL.of hr2) ?_ ?_⟩
  ·rintro i x σ H' hi ⟨rfl,v,w,rfl⟩
   obtain ⟨p,hpi,a,rfl,ha⟩:=py2.get hi;have hil:i<rs.length:=(List.getElem?_eq_some_iff.mp hpi).1;obtain ⟨c0,c1,c2⟩:=qB2 (b:=b) ok hrb i (by omega);have rb:=hrb p (List.mem_of_getElem? hpi);have es:mE b hs (rs.take (i+1))=qi2 b (mE b hs (rs.take i)) p:=by
    unfold mE;rw[qbq rs i _ hpi,List.foldl_append];rfl
   unfold RB at rb;rw[es]
   generalize mE b hs (rs.take i)=s at c0 c1 c2 ⊢
   have cm:CMulB p.1 s.1:=by unfold CMulB;omega
   have cm2:CMulB p.1 p.2:=by unfold CMulB;omega
   refine ⟨a,_,rfl,SqT.of ha,rfl,_,_,rfl,_,_,rfl,rfl,?_⟩;refine qBn (decide (s.1=0) || (if b=true then decide (s.2<p.1*s.1) else decide (p.1*s.1<s.2))) (λQ hQ=>?_) (λz=>?_) λz=>?_
   ·refine ⟨_,rfl,rfl,_,rfl,qcj (λz=>?_) λz=>?_⟩
    ·have z2:s.1=0:=V.int.inj (of_decide_eq_true z)
     rw[decide_eq_true z2,Bool.true_or] at hQ;exact hQ
    ·have z2:¬ s.1=0:=λe=>z (decide_eq_true (congrArg V.int e))
     rw[decide_eq_false z2,Bool.false_or] at hQ;exact ⟨_,rfl,_,rfl,_,rfl,_,rfl,p.1,s.1,s.2,b,rfl,cm,_,rfl,hQ⟩
   ·have em:qi2 b s p=(s.1+p.2,s.2+p.1*p.2):=by
     unfold qi2;rw[if_pos]
     rcases Bool.or_eq_true_iff.mp z with z1|z1
     ·exact .inl (of_decide_eq_true z1)
     ·exact .inr z1
    rw[em];refine ⟨_,rfl,_,rfl,_,_,rfl,rfl,?_⟩;refine ⟨_,rfl,_,rfl,_,rfl,_,_,rfl,rfl,cm2,_,_,rfl,rfl,?_⟩;exact ⟨rfl,_,_,rfl⟩
   ·have em:qi2 b s p=s:=by
     unfold qi2;rw[if_neg];intro y
     apply z
     rcases y with y|y
     ·rw[decide_eq_true y];rfl
     ·rw[y,Bool.or_true]
    rw[em];exact ⟨rfl,_,_,rfl⟩
  ·rintro σ H' ⟨rfl,v,w,rfl⟩
   rw[hyl,List.take_length];obtain ⟨c0,c1,c2⟩:=qB2 (b:=b) ok hrb rs.length (Nat.le_refl _);rw[List.take_length] at c0 c1 c2;have c2:=c2 (hne.imp id λz=>List.length_pos_iff.mpr z);refine ⟨_,rfl,_,rfl,(mE b hs rs).2,(mE b hs rs).1,rfl,c2,by omega,λp x y H3 n3 lo=>?_⟩;exact q p x y H3 (s12.trans n3.same) n3.at_ lo
theorem qy4 {C:TT} {F REST:TS} {D:Ends} {σ:St} {H:Hp} (c:Bool) (hC:∀ Q:Bool->Hp->Prop,Q c H->C σ H Q) (h1:c=true->F { D with nx:=REST D } σ H) (h2:¬ c=true->REST D σ H):qck (qzr C F quu) REST D σ H:=hC _ (qcj h1 h2)
theorem qno {K:Frag} {l:Addr} {xs:List V} {rs:List (Int×Int)} {tc:TT} {te:TE} {Q:VK} {σ:St} {H:Hp} (c:Int×Int->Bool) (f:Int×Int->Int) (hl:H l=some (.lst xs)) (hp:Pairs H xs rs) (hz:rs.length<=200)
  (ht:∀ p∈rs,∀ Q':Bool->Hp->Prop,Q' (c p) H->tc ((σ.set 0 (some (.int p.1))).set 1 (some (.int p.2))) H Q')
  (hs:∀ p∈rs,∀ Q':VK,Q' (.int (f p)) H->te ((σ.set 0 (some (.int p.1))).set 1 (some (.int p.2))) H Q')
  (hd:∀ a H',New H H' a (.lst (((rs.filter c).map f).map V.int))->Q (.ref a) H'):qfg (Itl K l) Q (qzh K 2 (qg9 (qd3 0) (qg9 (qd3 1) qzg))) tc te σ H:=by
 have hlen:=hp.length;refine qa9 (xs:=xs) (λi ys H2=>H2=H/\ys=(((rs.take i).filter c).map f).map V.int) (Nat.le_of_lt (qah (by omega))) ⟨rfl,rfl⟩ (λi ys H2 h2=>⟨SqL.of (by rw[h2.1];exact hl),?_⟩) ?_ ?_
 ·rw[h2.2,List.length_map,List.length_map]
  exact Nat.le_trans (List.length_filter_le _ _) (by rw[List.length_take];omega)
 ·rintro i x ys H2 hi ⟨rfl,rfl⟩
  obtain ⟨p,hpi,a,rfl,ha⟩:=hp.get hi;have hm:=List.mem_of_getElem? hpi;refine ⟨a,_,rfl,SqT.of ha,rfl,_,_,rfl,_,_,rfl,rfl,ht p hm _ (qcj (λz=>?_) λz=>?_)⟩
  ·refine hs p hm _ ⟨rfl,?_⟩
   rw[qbq rs i p hpi,List.filter_append,List.map_append,List.map_append]
   simp[z]
  ·refine ⟨rfl,?_⟩
   rw[qbq rs i p hpi,List.filter_append,List.map_append,List.map_append]
   simp[z]
 ·rintro ys H2 a H' ⟨rfl,rfl⟩ n
  rw[hlen,List.take_length] at n;exact hd a H' n
def sN (c:Int×Int->Bool) (rs:List (Int×Int)):Int:=((rs.filter c).map λp=>p.1*p.2).sum
def qDy (p:Int×Int):Bool:=decide (p.1<0)
def qDz (p:Int×Int):Bool:=decide (0<p.1)
def qDg (hs:List HP4) (z:Int):Prop:=z∈hs.map (λh=>h.2.2.1)/\∀ x∈hs.map (λh=>h.2.2.1),z<=x
def qDh (hs:List HP4) (z:Int):Prop:=z∈hs.map (λh=>h.2.2.2)/\∀ x∈hs.map (λh=>h.2.2.2),x<=z
def qp7 (H:Hp) (k:Nat) (hs ps:List HP4) (x y:V):Prop:=match k with
 | 0=>x=.int (mN hs)/\y=.int (mN hs+mN ps)
 | 1=>∃ rs:List (Int×Int),rs.Perm (qjr ps)/\x=.int (mT hs+sN qDy rs)/\y=.int (mT hs+sN qDz rs)
 | 2=>(hs=[]/\ps=[]/\x=.non/\y=.non)\/∃ a b,x=.int a/\y=.int b/\qDg (hs ++ ps) a/\(hs=[]->qDh ps b)/\(hs≠[]->qDg hs b)
 | 3=>(hs=[]/\ps=[]/\x=.non/\y=.non)\/∃ a b,x=.int a/\y=.int b/\qDh (hs ++ ps) b/\(hs=[]->qDg ps a)/\(hs≠[]->qDh hs a)
 | _=>(hs=[]/\ps=[]/\x=.non/\y=.non)\/∃ (p q:Addr) (rs:List (Int×Int)) (a b c d:Int),x=.ref p/\y=.ref q/\H p=some (.tup [.int a,.int b])/\H q=some (.tup [.int c,.int d])/\rs.Perm (qjr ps)/\qBi rs/\(hs≠[]\/rs≠[])/\Low a b (mE false hs rs).2 (mE false hs rs).1/\Low c d (mE true hs rs.reverse).2 (mE true hs rs.reverse).1
inductive qdc (k:Nat) (vs:List V) (H:Hp) (Q:VK) (E_:XK):Prop
 | mk:∀ (me l p:Addr) (xs ys:List V) (hs ps:List HP4),vs=[.ref me,.ref l,.ref p]->H l=some (.lst xs)->Tups H xs (hs.map j4)->HsOk hs->H p=some (.lst ys)->Tups H ys (ps.map j4)->PsOk ps->(∀ t x y H',Same H H'->H' t=some (.tup [x,y])->qp7 H' k hs ps x y->Q (.ref t) H')->qdc k vs H Q E_
theorem Tups.app {H:Hp}:∀ {xs ys:List V} {as bs:List (List Int)},Tups H xs as->Tups H ys bs->Tups H (xs ++ ys) (as ++ bs)
 | _,_,_,_,.nil,h=>h
 | _,_,_,_,.cons r t,h=>.cons r (Tups.app t h)
theorem PsOk.rb {ps:List HP4} (ok:PsOk ps):∀ p∈qjr ps,RB p:=by
 intro p hp;obtain ⟨h,hh,hw⟩:=List.mem_flatMap.mp hp;obtain ⟨cb,hb⟩:=ok.2.2 h hh;have hm:=ok.2.1.2 h hh;have W:=WRow.of cb;obtain ⟨i,hi⟩:=List.mem_iff_getElem?.mp hw;have:=W.ok hi;unfold HBd at hb;unfold RB;omega
include T in
theorem qe3:qca P w K mg base C_HowMany 2 "told" ["self", "known", "parts"] (qdc 0):=by
 obtain ⟨f,fd,F,hm⟩:=T.f_HowMany_told;have nd:=sc_HowMany_told.nd;refine ⟨f,fd,(F.ok sc_HowMany_told (λvs H Q E h=>?_) (λcdv A outer s H vs Q E hr h=>?_)),hm,(F.binds λ_ _ _ _ _ _ us hl=>by obtain ⟨_,_,_,rfl⟩:=L2.lq3 hl;rfl)⟩
 ·obtain ⟨me,l,p,xs,ys,hs,ps,rfl,_⟩:=h;rfl
 ·obtain ⟨me,l,p,xs,ys,hs,ps,rfl,hl,hp,ok,hp0,tp,pok,q⟩:=h
  have hn:=ok.1;have hm:=pok.2.1.1;refine ⟨_,(jB2 (jS 3 nd (jF (qjk T) hr (jA1 (pv 1)))) (qaf (qao (jA2 (pv 3) (qae qa1 (pv 3) (jF (qjk T) hr (jA1 (pv 2)))))))),?_⟩;refine ⟨_,rfl,l,xs,hs,rfl,hl,hp,by omega,λH1 s1=>?_⟩;refine ⟨_,rfl,_,rfl,_,rfl,p,ys,ps,rfl,s1 _ _ hp0,tp.same s1,by omega,λH2 s2=>?_⟩;refine ⟨_,_,rfl,rfl,by show 2<=sizeLine;decide,λt H3 n3=>?_⟩;exact q t _ _ H3 (s1.trans (s2.trans n3.same)) n3.at_ ⟨rfl,rfl⟩
include T in
theorem qg7:qca P w K mg base C_Total 3 "told" ["self", "known", "parts"] (qdc 1):=by
 obtain ⟨f,fd,F,hm⟩:=T.f_Total_told;have nd:=sc_Total_told.nd;refine ⟨f,fd,(F.ok sc_Total_told (λvs H Q E h=>?_) (λcdv A outer s H vs Q E hr h=>?_)),hm,(F.binds λ_ _ _ _ _ _ us hl=>by obtain ⟨_,_,_,rfl⟩:=L2.lq3 hl;rfl)⟩
 ·obtain ⟨me,l,p,xs,ys,hs,ps,rfl,_⟩:=h;rfl
 ·obtain ⟨me,l,p,xs,ys,hs,ps,rfl,hl,hp,ok,hp0,tp,pok,q⟩:=h
  have hn:=ok.1;refine ⟨_,(jB5 (jS 3 nd (jF (qf1 T) hr (jA1 (pv 2)))) (jS 4 nd (jF (qkv T) hr (jA1 (pv 1)))) (jS 5 nd (qag (qeq rfl) rfl T.b_sum qj6 (jA1 (qdi (vars:=[ "value", "many" ]) (frees:=[]) (fv:=[]) rfl (jL0 rfl) trivial (qap (pv 3)) (qcb (by decide) (by decide)) (λ_ _ _ _=>(jG2 (jM 0 [ "value", "many" ]) (jM 1 [ "value", "many" ]))) (λ_ _ _ _=>(qdt (jC qe5 (pv 0) qaa))) (λ_ _ _ _=>(qae qb3 (pv 0) (pv 1))))))) (jS 6 nd (qag (qeq rfl) rfl T.b_sum qj6 (jA1 (qdi (vars:=[ "value", "many" ]) (frees:=[]) (fv:=[]) rfl (jL0 rfl) trivial (qap (pv 3)) (qcb (by decide) (by decide)) (λ_ _ _ _=>(jG2 (jM 0 [ "value", "many" ]) (jM 1 [ "value", "many" ]))) (λ_ _ _ _=>(qdt (jC ql3 (pv 0) qaa))) (λ_ _ _ _=>(qae qb3 (pv 0) (pv 1))))))) (qaf (qao (jA2 (qae qa1 (pv 4) (pv 5)) (qae qa1 (pv 4) (pv 6)))))),?_⟩;refine ⟨_,rfl,p,ys,ps,rfl,hp0,tp,pok,λr zs rs H1 s1 hr1 pr pm _=>?_⟩;have lrs:rs.length<64:=by rw[pm.length_eq];exact pok.1
  have mulB:∀ p∈rs,CMulB p.1 p.2:=λp hp=>by
   have:=pok.rb p (pm.mem_iff.mp hp);unfold RB at this;unfold CMulB;omega
  refine ⟨_,rfl,l,xs,hs,rfl,s1 _ _ hl,hp.same s1,by omega,λH2 s2=>?_⟩;have hr2:=s2 _ _ hr1;have pr2:=pr.same s2;refine ⟨_,rfl,r,rfl,⟨_,SqL.of hr2⟩,qno qDy (λp=>p.1*p.2) hr2 pr2 (by omega) (λp _ Q' hq=>⟨_,rfl,_,_,rfl,rfl,_,rfl,hq⟩) (λp hp Q' hq=>⟨_,rfl,_,rfl,_,_,rfl,rfl,mulB p hp,hq⟩) λa3 H3 n3=>⟨a3,_,rfl,SqL.of n3.at_,?_⟩⟩;have hr3:=n3.same _ _ hr2;have pr3:=pr2.same n3.same;refine ⟨_,rfl,r,rfl,⟨_,SqL.of hr3⟩,qno qDz (λp=>p.1*p.2) hr3 pr3 (by omega) (λp _ Q' hq=>⟨_,rfl,_,_,rfl,rfl,_,rfl,hq⟩) (λp hp Q' hq=>⟨_,rfl,_,rfl,_,_,rfl,rfl,mulB p hp,hq⟩) λa4 H4 n4=>⟨a4,_,rfl,SqL.of n4.at_,?_⟩⟩;refine ⟨_,rfl,_,rfl,_,_,rfl,rfl,_,rfl,_,rfl,_,_,rfl,rfl,by show 2<=sizeLine;decide,λt H5 n5=>?_⟩;exact q t _ _ H5 (s1.trans (s2.trans (n3.same.trans (n4.same.trans n5.same)))) n5.at_ ⟨rs,pm,rfl,rfl⟩
include T in
theorem qg8:qca P w K mg base C_Least 2 "told" ["self", "known", "parts"] (qdc 2):=by
 obtain ⟨f,fd,F,hm⟩:=T.f_Least_told;have nd:=sc_Least_told.nd;refine ⟨f,fd,(F.ok sc_Least_told (λvs H Q E h=>?_) (λcdv A outer s H vs Q E hr h=>?_)),hm,(F.binds λ_ _ _ _ _ _ us hl=>by obtain ⟨_,_,_,rfl⟩:=L2.lq3 hl;rfl)⟩
 ·obtain ⟨me,l,p,xs,ys,hs,ps,rfl,_⟩:=h;rfl
 ·obtain ⟨me,l,p,xs,ys,hs,ps,rfl,hl,hp,ok,hp0,tp,pok,q⟩:=h
  have hn:=ok.1;have hm:=pok.2.1.1;have hxl:xs.length=hs.length:=by rw[hp.length,List.length_map]
  have hyl:ys.length=ps.length:=by rw[tp.length,List.length_map]
  refine ⟨_,(jB4 (qav (PW.pt (qlx (jC qb0 (qag qal rfl T.b_len qbn (jA1 (pv 1))) qaa) (qhz (jC qb0 (qag qal rfl T.b_len qbn (jA1 (pv 2))) qaa)))) (qac (qaf (qao (jA2 qau qau)))) qam) (jS 3 nd (jF (qdf T) hr (jA1 (qae qe6 (pv 1) (pv 2))))) (jS 4 nd (qc3 (jC qb0 (qag qal rfl T.b_len qbn (jA1 (pv 1))) qaa) (jF (qcd T) hr (jA1 (pv 2))) (jF (qdf T) hr (jA1 (pv 1))))) (qaf (qao (jA2 (pv 3) (pv 4))))),?_⟩;refine qy4 (decide (xs.length=0) && decide (ys.length=0)) (λQ hQ=>?_) (λz=>?_) λz=>?_
  ·refine ⟨_,rfl,l,xs,rfl,.inl (SqL.of hl),rfl,_,rfl,qcj (λz=>?_) λz=>?_⟩
   ·have z2:xs.length=0:=by simpa using z
    rw[decide_eq_true z2,Bool.true_and] at hQ;refine ⟨_,rfl,p,ys,rfl,.inl (SqL.of hp0),rfl,_,rfl,?_⟩;have e:decide (V.int (ys.length:Int)=V.int 0)=decide (ys.length=0):=by
     rw[Bool.eq_iff_iff];simp
    rw[e];exact hQ
   ·have z2:¬ xs.length=0:=by simpa using z
    rw[decide_eq_false z2,Bool.false_and] at hQ;exact hQ
  ·rw[Bool.and_eq_true,decide_eq_true_eq,decide_eq_true_eq] at z
   have e1:hs=[]:=List.length_eq_zero_iff.mp (by omega);have e2:ps=[]:=List.length_eq_zero_iff.mp (by omega);exact ⟨by show 2<=sizeLine;decide,λt H1 n1=>q t _ _ H1 n1.same n1.at_ (.inl ⟨e1,e2,rfl,rfl⟩)⟩
  have zz:¬ (xs.length=0/\ys.length=0):=λy=>z (by rw[decide_eq_true y.1,decide_eq_true y.2];rfl)
  have hne:hs ++ ps≠[]:=λe=>by
   have:=congrArg List.length e;rw[List.length_append,List.length_nil] at this;omega
  refine ⟨_,rfl,_,rfl,l,p,xs,ys,rfl,rfl,hl,hp0,Nat.le_of_lt (qah (by omega)),λc H1 n1=>?_⟩;refine ⟨c,xs ++ ys,hs ++ ps,rfl,n1.at_,by rw[List.map_append];exact (Tups.app hp tp).same n1.same,by rw[List.length_append];omega,hne,λa H2 s2 a1 a2=>?_⟩;have s12:=n1.same.trans s2;refine ⟨_,rfl,l,xs,rfl,.inl (SqL.of (s12 _ _ hl)),rfl,_,rfl,qcj (λy=>?_) λy=>?_⟩
  ·have y2:xs.length=0:=by simpa using y
   have e1:hs=[]:=List.length_eq_zero_iff.mp (by omega);have e2:ps≠[]:=λe=>zz ⟨y2,by rw[hyl,e];rfl⟩
   refine ⟨_,rfl,p,ys,ps,rfl,s12 _ _ hp0,tp.same s12,by omega,e2,λb H3 s3 b1 b2=>?_⟩;exact ⟨_,rfl,_,rfl,by show 2<=sizeLine;decide,λt H4 n4=>q t _ _ H4 (s12.trans (s3.trans n4.same)) n4.at_ (.inr ⟨a,b,rfl,rfl,⟨a1,a2⟩,λ_=>⟨b1,b2⟩,λz=>absurd e1 z⟩)⟩
  ·have y2:¬ xs.length=0:=by simpa using y
   have e1:hs≠[]:=λe=>y2 (by rw[hxl,e];rfl)
   refine ⟨_,rfl,l,xs,hs,rfl,s12 _ _ hl,hp.same s12,by omega,e1,λb H3 s3 b1 b2=>?_⟩;exact ⟨_,rfl,_,rfl,by show 2<=sizeLine;decide,λt H4 n4=>q t _ _ H4 (s12.trans (s3.trans n4.same)) n4.at_ (.inr ⟨a,b,rfl,rfl,⟨a1,a2⟩,λz=>absurd z e1,λ_=>⟨b1,b2⟩⟩)⟩
include T in
theorem qel:qca P w K mg base C_Greatest 2 "told" ["self", "known", "parts"] (qdc 3):=by
 obtain ⟨f,fd,F,hm⟩:=T.f_Greatest_told;have nd:=sc_Greatest_told.nd;refine ⟨f,fd,(F.ok sc_Greatest_told (λvs H Q E h=>?_) (λcdv A outer s H vs Q E hr h=>?_)),hm,(F.binds λ_ _ _ _ _ _ us hl=>by obtain ⟨_,_,_,rfl⟩:=L2.lq3 hl;rfl)⟩
 ·obtain ⟨me,l,p,xs,ys,hs,ps,rfl,_⟩:=h;rfl
 ·obtain ⟨me,l,p,xs,ys,hs,ps,rfl,hl,hp,ok,hp0,tp,pok,q⟩:=h
  have hn:=ok.1;have hm:=pok.2.1.1;have hxl:xs.length=hs.length:=by rw[hp.length,List.length_map]
  have hyl:ys.length=ps.length:=by rw[tp.length,List.length_map]
  refine ⟨_,(jB4 (qav (PW.pt (qlx (jC qb0 (qag qal rfl T.b_len qbn (jA1 (pv 1))) qaa) (qhz (jC qb0 (qag qal rfl T.b_len qbn (jA1 (pv 2))) qaa)))) (qac (qaf (qao (jA2 qau qau)))) qam) (jS 3 nd (qc3 (jC qb0 (qag qal rfl T.b_len qbn (jA1 (pv 1))) qaa) (jF (qdf T) hr (jA1 (pv 2))) (jF (qcd T) hr (jA1 (pv 1))))) (jS 4 nd (jF (qcd T) hr (jA1 (qae qe6 (pv 1) (pv 2))))) (qaf (qao (jA2 (pv 3) (pv 4))))),?_⟩;refine qy4 (decide (xs.length=0) && decide (ys.length=0)) (λQ hQ=>?_) (λz=>?_) λz=>?_
  ·refine ⟨_,rfl,l,xs,rfl,.inl (SqL.of hl),rfl,_,rfl,qcj (λz=>?_) λz=>?_⟩
   ·have z2:xs.length=0:=by simpa using z
    rw[decide_eq_true z2,Bool.true_and] at hQ;refine ⟨_,rfl,p,ys,rfl,.inl (SqL.of hp0),rfl,_,rfl,?_⟩;have e:decide (V.int (ys.length:Int)=V.int 0)=decide (ys.length=0):=by
     rw[Bool.eq_iff_iff];simp
    rw[e];exact hQ
   ·have z2:¬ xs.length=0:=by simpa using z
    rw[decide_eq_false z2,Bool.false_and] at hQ;exact hQ
  ·rw[Bool.and_eq_true,decide_eq_true_eq,decide_eq_true_eq] at z
   have e1:hs=[]:=List.length_eq_zero_iff.mp (by omega);have e2:ps=[]:=List.length_eq_zero_iff.mp (by omega);exact ⟨by show 2<=sizeLine;decide,λt H1 n1=>q t _ _ H1 n1.same n1.at_ (.inl ⟨e1,e2,rfl,rfl⟩)⟩
  have zz:¬ (xs.length=0/\ys.length=0):=λy=>z (by rw[decide_eq_true y.1,decide_eq_true y.2];rfl)
  have hne:hs ++ ps≠[]:=λe=>by
   have:=congrArg List.length e;rw[List.length_append,List.length_nil] at this;omega
  refine ⟨_,rfl,l,xs,rfl,.inl (SqL.of hl),rfl,_,rfl,qcj (λy=>?_) λy=>?_⟩
  ·have y2:xs.length=0:=by simpa using y
   have e1:hs=[]:=List.length_eq_zero_iff.mp (by omega);have e2:ps≠[]:=λe=>zz ⟨y2,by rw[hyl,e];rfl⟩
   refine ⟨_,rfl,p,ys,ps,rfl,hp0,tp,by omega,e2,λa H1 s1 a1 a2=>?_⟩;refine ⟨_,rfl,_,rfl,l,p,xs,ys,rfl,rfl,s1 _ _ hl,s1 _ _ hp0,Nat.le_of_lt (qah (by omega)),λc H2 n2=>?_⟩;refine ⟨c,xs ++ ys,hs ++ ps,rfl,n2.at_,by rw[List.map_append];exact (Tups.app hp tp).same (s1.trans n2.same),by rw[List.length_append];omega,hne,λb H3 s3 b1 b2=>?_⟩;exact ⟨_,rfl,_,rfl,by show 2<=sizeLine;decide,λt H4 n4=>q t _ _ H4 (s1.trans (n2.same.trans (s3.trans n4.same))) n4.at_ (.inr ⟨a,b,rfl,rfl,⟨b1,b2⟩,λ_=>⟨a1,a2⟩,λz=>absurd e1 z⟩)⟩
  ·have y2:¬ xs.length=0:=by simpa using y
   have e1:hs≠[]:=λe=>y2 (by rw[hxl,e];rfl)
   refine ⟨_,rfl,l,xs,hs,rfl,hl,hp,by omega,e1,λa H1 s1 a1 a2=>?_⟩;refine ⟨_,rfl,_,rfl,l,p,xs,ys,rfl,rfl,s1 _ _ hl,s1 _ _ hp0,Nat.le_of_lt (qah (by omega)),λc H2 n2=>?_⟩;refine ⟨c,xs ++ ys,hs ++ ps,rfl,n2.at_,by rw[List.map_append];exact (Tups.app hp tp).same (s1.trans n2.same),by rw[List.length_append];omega,hne,λb H3 s3 b1 b2=>?_⟩;exact ⟨_,rfl,_,rfl,by show 2<=sizeLine;decide,λt H4 n4=>q t _ _ H4 (s1.trans (n2.same.trans (s3.trans n4.same))) n4.at_ (.inr ⟨a,b,rfl,rfl,⟨b1,b2⟩,λz=>absurd z e1,λ_=>⟨a1,a2⟩⟩)⟩
include T in
theorem qjl:qca P w K mg base C_Mean 4 "told" ["self", "known", "parts"] (qdc 4):=by
 obtain ⟨f,fd,F,hm⟩:=T.f_Mean_told;have nd:=sc_Mean_told.nd;refine ⟨f,fd,(F.ok sc_Mean_told (λvs H Q E h=>?_) (λcdv A outer s H vs Q E hr h=>?_)),hm,(F.binds λ_ _ _ _ _ _ us hl=>by obtain ⟨_,_,_,rfl⟩:=L2.lq3 hl;rfl)⟩
 ·obtain ⟨me,l,p,xs,ys,hs,ps,rfl,_⟩:=h;rfl
 ·obtain ⟨me,l,p,xs,ys,hs,ps,rfl,hl,hp,ok,hp0,tp,pok,q⟩:=h
  have hn:=ok.1;have hm:=pok.2.1.1;have hxl:xs.length=hs.length:=by rw[hp.length,List.length_map]
  have hyl:ys.length=ps.length:=by rw[tp.length,List.length_map]
  refine ⟨_,(jB3 (qav (PW.pt (qlx (jC qb0 (qag qal rfl T.b_len qbn (jA1 (pv 1))) qaa) (qhz (jC qb0 (qag qal rfl T.b_len qbn (jA1 (pv 2))) qaa)))) (qac (qaf (qao (jA2 qau qau)))) qam) (jS 3 nd (jF (qf1 T) hr (jA1 (pv 2)))) (qaf (qao (jA2 (jF (qkw T) hr (jA3 (pv 1) (pv 3) qlw)) (jF (qkw T) hr (jA3 (pv 1) (qqx rfl rfl T.b_list rfl T.b_reversed (pv 3)) qlw)))))),?_⟩;refine qy4 (decide (xs.length=0) && decide (ys.length=0)) (λQ hQ=>?_) (λz=>?_) λz=>?_
  ·refine ⟨_,rfl,l,xs,rfl,.inl (SqL.of hl),rfl,_,rfl,qcj (λz=>?_) λz=>?_⟩
   ·have z2:xs.length=0:=by simpa using z
    rw[decide_eq_true z2,Bool.true_and] at hQ;refine ⟨_,rfl,p,ys,rfl,.inl (SqL.of hp0),rfl,_,rfl,?_⟩;have e:decide (V.int (ys.length:Int)=V.int 0)=decide (ys.length=0):=by
     rw[Bool.eq_iff_iff];simp
    rw[e];exact hQ
   ·have z2:¬ xs.length=0:=by simpa using z
    rw[decide_eq_false z2,Bool.false_and] at hQ;exact hQ
  ·rw[Bool.and_eq_true,decide_eq_true_eq,decide_eq_true_eq] at z
   have e1:hs=[]:=List.length_eq_zero_iff.mp (by omega);have e2:ps=[]:=List.length_eq_zero_iff.mp (by omega);exact ⟨by show 2<=sizeLine;decide,λt H1 n1=>q t _ _ H1 n1.same n1.at_ (.inl ⟨e1,e2,rfl,rfl⟩)⟩
  have zz:¬ (xs.length=0/\ys.length=0):=λy=>z (by rw[decide_eq_true y.1,decide_eq_true y.2];rfl)
  have hne:hs ++ ps≠[]:=λe=>by
   have:=congrArg List.length e;rw[List.length_append,List.length_nil] at this;omega
  refine ⟨_,rfl,p,ys,ps,rfl,hp0,tp,pok,λr zs rs H1 s1 hr1 pr pm rise=>?_⟩;have lrs:rs.length<64:=by rw[pm.length_eq];exact pok.1
  have rb:∀ p∈rs,RB p:=λp hp=>pok.rb p (pm.mem_iff.mp hp)
  have hor:hs≠[]\/rs≠[]:=by
   by_cases e:hs=[]
   ·refine .inr λer=>?_
    rw[er] at pm;have ew:qjr ps=[]:=pm.symm.eq_nil
    cases ps with
    | nil=>exact hne (by rw[e];rfl)
    | cons h t =>
     have hw:wOf h≠[]:=by
      have W:=WRow.of (pok.2.2 h List.mem_cons_self).1
      show qq4 _ _ _ _≠[]
      intro z;rw[z] at W;cases W
     have:qjr (h :: t)=wOf h ++ qjr t:=rfl;rw[this] at ew;exact hw (List.append_eq_nil_iff.mp ew).1
   ·exact .inl e
  refine ⟨_,rfl,_,rfl,l,r,xs,zs,hs,rs,false,rfl,s1 _ _ hl,hp.same s1,ok,hr1,pr,lrs,rb,hor,λp1 x1 y1 H2 s2 h2 lo2=>?_⟩;have s12:=s1.trans s2;refine ⟨_,rfl,_,rfl,r,zs,rfl,SqL.of (s2 _ _ hr1),λr2 H3 n3=>?_⟩;have s13:=s12.trans n3.same;refine ⟨l,r2,xs,zs.reverse,hs,rs.reverse,true,rfl,s13 _ _ hl,hp.same s13,ok,n3.at_,(pr.same (s2.trans n3.same)).rev,by rw[List.length_reverse];exact lrs,(λp hp=>rb p (List.mem_reverse.mp hp)),hor.imp id (λz e=>z (List.reverse_eq_nil_iff.mp e)),λp2 x2 y2 H4 s4 h4 lo4=>?_⟩;exact ⟨by show 2<=sizeLine;decide,λt H5 n5=>q t _ _ H5 (s13.trans (s4.trans n5.same)) n5.at_ (.inr ⟨p1,p2,rs,x1,y1,x2,y2,rfl,rfl,n5.same _ _ (s4 _ _ (n3.same _ _ h2)),n5.same _ _ h4,pm,rise,hor,lo2,lo4⟩)⟩
def tkB (k:Nat) (b:Bool) (z n v:Int):Bool:=match k with
 | 0=>b
 | 1=>if b=true then decide (0<v) else decide (v<0)
 | 2=>decide (z<=v)
 | 3=>decide (v<=z)
 | _=>if b=true then decide (z<=v*n) else decide (v*n<=z)
def FrAt (H:Hp) (k:Nat) (v:V) (z n:Int):Prop:=(k<4/\v=.int z/\n=1)\/(k=4/\∃ p,v=.ref p/\H p=some (.tup [.int z,.int n])/\1<=n/\n<10 ^ 100 /\ -(10 ^ 100)<z/\z<10 ^ 100)
theorem FrAt.same {H H':Hp} (s:Same H H') {k:Nat} {v:V} {z n:Int} (h:FrAt H k v z n):FrAt H' k v z n:=
 h.imp id fun ⟨e,p,ev,hp,b⟩=>⟨e,p,ev,s _ _ hp,b⟩
theorem qD0 {b:Bool} {hs:List HP4} (ok:HsOk hs) {rs:List (Int×Int)} (hr:∀ p∈rs,RB p):∀ i,i<=rs.length -> -(10 ^ 82+(i:Int)*10 ^ 88)<=(mE b hs (rs.take i)).2/\(mE b hs (rs.take i)).2<=10 ^ 82+(i:Int)*10 ^ 88
 | 0,_=>by
  obtain ⟨_,_,b2,b3,_⟩:=ok.b;refine ⟨?_,?_⟩
  ·show _<=mT hs;omega
  ·show mT hs<=_;omega
 | i+1,h=>by
  obtain ⟨c0,c1⟩:=qD0 (b:=b) ok hr i (by omega);have e:rs[i]?=some (rs[i]'(by omega)):=List.getElem?_eq_getElem (by omega);have hp:=hr _ (List.getElem_mem (show i<rs.length by omega));have es:mE b hs (rs.take (i+1))=qi2 b (mE b hs (rs.take i)) (rs[i]'(by omega)):=by
   unfold mE;rw[qbq rs i _ e,List.foldl_append];rfl
  rw[es]
  generalize rs[i]'(by omega)=p at hp
  have hp:(-(10 ^ 45)<p.1/\p.1<10 ^ 45)/\1<=p.2/\p.2<10 ^ 43:=hp;have m1:p.1*p.2<=10 ^ 45*p.2:=Int.mul_le_mul_of_nonneg_right (by omega) (by omega);have m2:-(10 ^ 45)*p.2<=p.1*p.2:=Int.mul_le_mul_of_nonneg_right (by omega) (by omega);have e43:((i+1:Nat):Int)*10 ^ 88=(i:Int)*10 ^ 88+10 ^ 88:=by omega
  rcases qpx b (mE b hs (rs.take i)) p with z|⟨z,z2⟩
  ·rw[z]
   refine ⟨?_,?_⟩
   ·show _<=(mE b hs (rs.take i)).2+p.1*p.2;omega
   ·show (mE b hs (rs.take i)).2+p.1*p.2<=_;omega
  ·rw[z]
   exact ⟨by omega,by omega⟩
theorem qxf {H:Hp} {p:Addr} {a c:Int} {b:Bool} {hs:List HP4} (ok:HsOk hs) {rs:List (Int×Int)} (hr:∀ p∈rs,RB p) (l64:rs.length<64) (hp:H p=some (.tup [.int a,.int c])) (l:Low a c (mE b hs rs).2 (mE b hs rs).1):FrAt H 4 (.ref p) a c:=by
 obtain ⟨c1,_,_,c2,c3⟩:=l;have n1:=qB2 (b:=b) ok hr rs.length (Nat.le_refl _);have t1:=qD0 (b:=b) ok hr rs.length (Nat.le_refl _);rw[List.take_length] at n1 t1;exact .inr ⟨rfl,p,rfl,hp,c1,by omega,by omega,by omega⟩
structure TF (H:Hp) (k:Nat) (x y:V) (z1 n1 z2 n2:Int):Prop where
 x:FrAt H k x z1 n1
 y:FrAt H k y z2 n2
theorem qp8 {H:Hp} {k:Nat} {hs ps:List HP4} {x y:V} (hk:k<5) (ok:HsOk hs) (_:∀ h∈hs,h.2.2.1<=h.2.2.2) (pok:PsOk ps) (ne:hs≠[]\/ps≠[]) (t:qp7 H k hs ps x y):∃ z1 n1 z2 n2,TF H k x y z1 n1 z2 n2:=by
 have hc:k=0\/k=1\/k=2\/k=3\/k=4:=by omega
 rcases hc with rfl|rfl|rfl|rfl|rfl
 ·obtain ⟨rfl,rfl⟩:=t
  exact ⟨_,_,_,_,.inl ⟨by decide,rfl,rfl⟩,.inl ⟨by decide,rfl,rfl⟩⟩
 ·obtain ⟨rs,_,rfl,rfl⟩:=t
  exact ⟨_,_,_,_,.inl ⟨by decide,rfl,rfl⟩,.inl ⟨by decide,rfl,rfl⟩⟩
 ·rcases t with ⟨e1,e2,_⟩|⟨a,b,rfl,rfl,_⟩
  ·exact absurd e2 (ne.resolve_left λz=>z e1)
  ·exact ⟨_,_,_,_,.inl ⟨by decide,rfl,rfl⟩,.inl ⟨by decide,rfl,rfl⟩⟩
 ·rcases t with ⟨e1,e2,_⟩|⟨a,b,rfl,rfl,_⟩
  ·exact absurd e2 (ne.resolve_left λz=>z e1)
  ·exact ⟨_,_,_,_,.inl ⟨by decide,rfl,rfl⟩,.inl ⟨by decide,rfl,rfl⟩⟩
 ·rcases t with ⟨e1,e2,_⟩|⟨p,q,rs,a,b,c,d,rfl,rfl,hp,hq,pm,_,_,l1,l2⟩
  ·exact absurd e2 (ne.resolve_left λz=>z e1)
  ·have rb:∀ p∈rs,RB p:=λp hp=>pok.rb p (pm.mem_iff.mp hp)
   have l64:rs.length<64:=by rw[pm.length_eq];exact pok.1
   exact ⟨_,_,_,_,qxf ok rb l64 hp l1,qxf ok (λp hp=>rb p (List.mem_reverse.mp hp)) (by rw[List.length_reverse];exact l64) hq l2⟩
inductive LL (H:Hp):List V->List (List (Int×Int))->Prop
 | nil:LL H [] []
 | cons {a:Addr} {ys xs:List V} {rs:List (Int×Int)} {rss:List (List (Int×Int))}:H a=some (.lst ys)->Pairs H ys rs->LL H xs rss->LL H (.ref a :: xs) (rs :: rss)
theorem LL.same {H H':Hp} (s:Same H H'):∀ {xs:List V} {rss:List (List (Int×Int))},LL H xs rss->LL H' xs rss
 | _,_,.nil=>.nil
 | _,_,.cons h p t=>.cons (s _ _ h) (p.same s) (LL.same s t)
theorem LL.length {H:Hp}:∀ {xs:List V} {rss:List (List (Int×Int))},LL H xs rss->xs.length=rss.length
 | _,_,.nil=>rfl
 | _,_,.cons _ _ t=>by rw[List.length_cons,List.length_cons,LL.length t]
theorem LL.get {H:Hp}:∀ {xs:List V} {rss:List (List (Int×Int))} {i:Nat} {x:V},LL H xs rss->xs[i]?=some x->∃ rs a ys,rss[i]?=some rs/\x=.ref a/\H a=some (.lst ys)/\Pairs H ys rs
 | _,_,0,_,.cons h p _,e=>by cases e;exact ⟨_,_,_,rfl,rfl,h,p⟩
 | _,_,i+1,_,.cons _ _ t,e=>LL.get (i:=i) t e
theorem LL.snoc {H:Hp} {a:Addr} {ys:List V} {rs:List (Int×Int)} (h:H a=some (.lst ys)) (p:Pairs H ys rs):∀ {xs:List V} {rss:List (List (Int×Int))},LL H xs rss->LL H (xs ++ [.ref a]) (rss ++ [rs])
 | _,_,.nil=>.cons h p .nil
 | _,_,.cons h1 p1 t=>.cons h1 p1 (LL.snoc h p t)
inductive qdw (k:Nat) (vs:List V) (H:Hp) (Q:VK) (E_:XK):Prop
 | mk:∀ (me:Addr) (v:Int) (e:V) (z n:Int) (b:Bool),vs=[.ref me,.int v,e,.bl b]->FrAt H k e z n->(-(10 ^ 100)<v/\v<10 ^ 100)->Q (.bl (tkB k b z n v)) H->qdw k vs H Q E_
include T in
theorem qjm:qca P w K mg base C_HowMany 1 "takes" ["self", "value", "end", "high"] (qdw 0):=by
 obtain ⟨f,fd,F,hm⟩:=T.f_HowMany_takes;have nd:=sc_HowMany_takes.nd;refine ⟨f,fd,(F.ok sc_HowMany_takes (λvs H Q E h=>?_) (λcdv A outer s H vs Q E hr h=>?_)),hm,(F.binds λ_ _ _ _ _ _ us hl=>by obtain ⟨_,_,_,_,rfl⟩:=L2.lq4 hl;rfl)⟩
 ·obtain ⟨me,v,e,z,n,b,rfl,_⟩:=h;rfl
 ·obtain ⟨me,v,e,z,n,b,rfl,fr,bd,q⟩:=h
  refine ⟨_,(qac (qaf (pv 3))),?_⟩;exact ⟨_,rfl,q⟩
include T in
theorem qln:qca P w K mg base C_Total 1 "takes" ["self", "value", "end", "high"] (qdw 1):=by
 obtain ⟨f,fd,F,hm⟩:=T.f_Total_takes;have nd:=sc_Total_takes.nd;refine ⟨f,fd,(F.ok sc_Total_takes (λvs H Q E h=>?_) (λcdv A outer s H vs Q E hr h=>?_)),hm,(F.binds λ_ _ _ _ _ _ us hl=>by obtain ⟨_,_,_,_,rfl⟩:=L2.lq4 hl;rfl)⟩
 ·obtain ⟨me,v,e,z,n,b,rfl,_⟩:=h;rfl
 ·obtain ⟨me,v,e,z,n,b,rfl,fr,bd,q⟩:=h
  refine ⟨_,(qac (qaf (qc3 (qco (pv 3)) (jD ql3 (pv 1) qaa) (jD qe5 (pv 1) qaa)))),?_⟩
  cases b with
  | true=>exact ⟨_,rfl,_,rfl,qd2 ⟨_,rfl,_,_,rfl,rfl,q⟩⟩
  | false=>exact ⟨_,rfl,_,rfl,qgl ⟨_,rfl,_,_,rfl,rfl,q⟩⟩
include T in
theorem qlo:qca P w K mg base C_Least 1 "takes" ["self", "value", "end", "high"] (qdw 2):=by
 obtain ⟨f,fd,F,hm⟩:=T.f_Least_takes;have nd:=sc_Least_takes.nd;refine ⟨f,fd,(F.ok sc_Least_takes (λvs H Q E h=>?_) (λcdv A outer s H vs Q E hr h=>?_)),hm,(F.binds λ_ _ _ _ _ _ us hl=>by obtain ⟨_,_,_,_,rfl⟩:=L2.lq4 hl;rfl)⟩
 ·obtain ⟨me,v,e,z,n,b,rfl,_⟩:=h;rfl
 ·obtain ⟨me,v,e,z,n,b,rfl,fr,bd,q⟩:=h
  refine ⟨_,(qac (qaf (jD qxo (pv 1) (pv 2)))),?_⟩
  rcases fr with ⟨_,rfl,_⟩|⟨e4,_⟩
  ·exact ⟨_,rfl,_,rfl,_,_,rfl,rfl,q⟩
  ·exact absurd e4 (by decide)
include T in
theorem qhe:qca P w K mg base C_Greatest 1 "takes" ["self", "value", "end", "high"] (qdw 3):=by
 obtain ⟨f,fd,F,hm⟩:=T.f_Greatest_takes;have nd:=sc_Greatest_takes.nd;refine ⟨f,fd,(F.ok sc_Greatest_takes (λvs H Q E h=>?_) (λcdv A outer s H vs Q E hr h=>?_)),hm,(F.binds λ_ _ _ _ _ _ us hl=>by obtain ⟨_,_,_,_,rfl⟩:=L2.lq4 hl;rfl)⟩
 ·obtain ⟨me,v,e,z,n,b,rfl,_⟩:=h;rfl
 ·obtain ⟨me,v,e,z,n,b,rfl,fr,bd,q⟩:=h
  refine ⟨_,(qac (qaf (jD qzu (pv 1) (pv 2)))),?_⟩
  rcases fr with ⟨_,rfl,_⟩|⟨e4,_⟩
  ·exact ⟨_,rfl,_,rfl,_,_,rfl,rfl,q⟩
  ·exact absurd e4 (by decide)
include T in
theorem qnp:qca P w K mg base C_Mean 1 "takes" ["self", "value", "end", "high"] (qdw 4):=by
 obtain ⟨f,fd,F,hm⟩:=T.f_Mean_takes;have nd:=sc_Mean_takes.nd;refine ⟨f,fd,(F.ok sc_Mean_takes (λvs H Q E h=>?_) (λcdv A outer s H vs Q E hr h=>?_)),hm,(F.binds λ_ _ _ _ _ _ us hl=>by obtain ⟨_,_,_,_,rfl⟩:=L2.lq4 hl;rfl)⟩
 ·obtain ⟨me,v,e,z,n,b,rfl,_⟩:=h;rfl
 ·obtain ⟨me,v,e,z,n,b,rfl,fr,bd,q⟩:=h
  refine ⟨_,(jB3 (jS 4 nd (jT (pv 2) qaa)) (jS 5 nd (jT (pv 2) qaa)) (qaf (qc3 (qco (pv 3)) (jD qxo (qae qb3 (pv 1) (pv 5)) (pv 4)) (jD qzu (qae qb3 (pv 1) (pv 5)) (pv 4))))),?_⟩
  rcases fr with ⟨e4,_⟩|⟨_,p,rfl,hp,n1,n2,z1,z2⟩
  ·exact absurd e4 (by decide)
  have cm:CMulB v n:=by unfold CMulB;omega
  refine ⟨_,rfl,p,_,_,_,rfl,rfl,SqT.of hp,rfl,_,rfl,p,_,_,_,rfl,rfl,SqT.of hp,rfl,?_⟩
  cases b with
  | true=>exact ⟨_,rfl,_,rfl,qd2 ⟨_,rfl,_,rfl,_,_,rfl,rfl,cm,_,rfl,_,_,rfl,rfl,q⟩⟩
  | false=>exact ⟨_,rfl,_,rfl,qgl ⟨_,rfl,_,rfl,_,_,rfl,rfl,cm,_,rfl,_,_,rfl,rfl,q⟩⟩
def wTk (k:Nat) (b:Bool) (z n:Int) (h:HP4):List (Int×Int):=(wOf h).filter λp=>tkB k b z n p.1
inductive qcx (C:Nat->Addr) (vs:List V) (H:Hp) (Q:VK) (E_:XK):Prop
 | mk:∀ (me dx a:Addr) (h:HP4) (k:Nat) (e:V) (z n:Int) (b:Bool),vs=[.ref me,.ref a,e,.bl b]->k<5->H me=some (.ins (C k) dx [])->H a=some (.tup ((j4 h).map V.int))->qhb h.1 h.2.1 h.2.2.1 h.2.2.2->HBd h.1 h.2.2.1 h.2.2.2->FrAt H k e z n->(∀ l ys H1 H',Same H H1->New H1 H' l (.lst ys)->Pairs H' ys (wTk k b z n h)->Q (.ref l) H')->qcx C vs H Q E_
include T in
theorem qbl:∃ f fd,qf6 P w K mg base CX0 3 f fd ["self", "part", "end", "high"] (qcx (qli C_HowMany C_Total C_Least C_Greatest C_Mean))/\qeo K C_Measure "taken" f/\qeo K C_HowMany "taken" f/\qeo K C_Total "taken" f/\qeo K C_Least "taken" f/\qeo K C_Greatest "taken" f/\qeo K C_Mean "taken" f/\Binds K fd ["self", "part", "end", "high"] []:=by
 obtain ⟨f,fd,F,hm,m0,m1,m2,m3,m4⟩:=T.f_Measure_taken;have nd:=sc_Measure_taken.nd;refine ⟨f,fd,(F.ok sc_Measure_taken (λvs H Q E h=>?_) (λcdv A outer s H vs Q E hr h=>?_)),hm,m0,m1,m2,m3,m4,(F.binds λ_ _ _ _ _ _ us hl=>by obtain ⟨_,_,_,_,rfl⟩:=L2.lq4 hl;rfl)⟩
 ·obtain ⟨me,dx,a,h,k,e,z,n,b,rfl,_⟩:=h;rfl
 ·obtain ⟨me,dx,a,h,k,e,z,n,b,rfl,hk,hme,ha,cb,hb,fr,q⟩:=h
  refine ⟨_,(qac (qaf (qdi (vars:=[ "run" ]) (frees:=[ "end", "high", "self" ]) (fv:=[2,3,0]) rfl (jL3 rfl) ⟨⟨rfl,.inl rfl,rfl,.inl rfl⟩,⟨⟨rfl,.inl rfl,rfl,.inl rfl⟩,⟨⟨rfl,.inl rfl,rfl,.inl rfl⟩,trivial⟩⟩⟩ (qap (jF (qhu T) hr (jA1 (pv 1)))) (qbp (by decide)) (λ_ _ _ _=>(jM 0 [ "run", "end", "high", "self" ])) (λ_ _ _ _=>(qdt (qco (qbz (qcs (pv 3) T.cl_HowMany (qjm T) (hr.mono (by decide)) (jA3 (qcm (show IxR _ (qhk K) from qbi) (pv 0) qaa (λ_ _=>rfl)) (pv 1) (pv 2))) (qbz (qcs (pv 3) T.cl_Total (qln T) (hr.mono (by decide)) (jA3 (qcm (show IxR _ (qhk K) from qbi) (pv 0) qaa (λ_ _=>rfl)) (pv 1) (pv 2))) (qbz (qcs (pv 3) T.cl_Least (qlo T) (hr.mono (by decide)) (jA3 (qcm (show IxR _ (qhk K) from qbi) (pv 0) qaa (λ_ _=>rfl)) (pv 1) (pv 2))) (qbz (qcs (pv 3) T.cl_Greatest (qhe T) (hr.mono (by decide)) (jA3 (qcm (show IxR _ (qhk K) from qbi) (pv 0) qaa (λ_ _=>rfl)) (pv 1) (pv 2))) (qcs (pv 3) T.cl_Mean (qnp T) (hr.mono (by decide)) (jA3 (qcm (show IxR _ (qhk K) from qbi) (pv 0) qaa (λ_ _=>rfl)) (pv 1) (pv 2)))))))))) (λ_ _ _ _=>(pv 0))))),?_⟩;refine ⟨_,rfl,a,h.1,h.2.1,h.2.2.1,h.2.2.2,rfl,ha,cb,hb,λl xs H1 H2 s1 n2 pr=>⟨l,rfl,⟨_,SqL.of n2.at_⟩,?_⟩⟩;have s2:=s1.trans n2.same;have hme2:=s2 _ _ hme;have fr2:=fr.same s2;have W:=WRow.of cb;have pr:Pairs H2 xs (wOf h):=pr;have lx:=pr.length;have lw:(wOf h).length<=3:=W.len.2;refine qa9 (xs:=xs) (λi ys H3=>H3=H2/\Pairs H2 ys (((wOf h).take i).filter λp=>tkB k b z n p.1)) (Nat.le_of_lt (qah (by omega))) ⟨rfl,.nil⟩ (λi ys H3 h3=>⟨SqL.of (by rw[h3.1];exact n2.at_),?_⟩) ?_ ?_
  ·rw[h3.2.length]
   exact Nat.le_trans (List.length_filter_le _ _) (by rw[List.length_take];omega)
  ·rintro i x ys H3 hi ⟨rfl,py⟩
   obtain ⟨p,hpi,a',rfl,ha'⟩:=pr.get hi;have wk:=W.ok hpi;unfold HBd at hb;refine qb8 ?_;refine qBm (sp:=qdw) k hk ⟨_,rfl,me,dx,_,rfl,hme2,rfl,_,rfl,a',_,_,_,rfl,rfl,SqT.of ha',rfl,_,rfl,_,rfl,?_⟩;refine ⟨me,p.1,e,z,n,b,rfl,fr2,⟨by omega,by omega⟩,_,rfl,qcj (λy=>?_) λy=>?_⟩
   ·refine ⟨_,rfl,rfl,?_⟩
    rw[qbq (wOf h) i p hpi,List.filter_append,List.filter_cons_of_pos (p:=λp:Int×Int=>tkB k b z n p.1) y];exact Pairs.snoc ⟨a',rfl,ha'⟩ py
   ·refine ⟨rfl,?_⟩
    rw[qbq (wOf h) i p hpi,List.filter_append,List.filter_cons_of_neg (p:=λp:Int×Int=>tkB k b z n p.1) y,List.filter_nil,List.append_nil];exact py
  ·rintro ys H3 l3 H' ⟨rfl,py⟩ n3
   rw[lx,List.take_length] at py;exact q l3 ys H3 H' s2 n3 (py.same n3.same)
include T in
theorem qjn:qca P w K mg base C_HowMany 3 "taken" ["self", "part", "end", "high"] (qcx (qli C_HowMany C_Total C_Least C_Greatest C_Mean)):=
 let ⟨f,fd,F,_,m,_,_,_,_,b⟩:=qbl T
 ⟨f,fd,F,m,b⟩
include T in
theorem qlp:qca P w K mg base C_Total 3 "taken" ["self", "part", "end", "high"] (qcx (qli C_HowMany C_Total C_Least C_Greatest C_Mean)):=
 let ⟨f,fd,F,_,_,m,_,_,_,b⟩:=qbl T
 ⟨f,fd,F,m,b⟩
include T in
theorem qlq:qca P w K mg base C_Least 3 "taken" ["self", "part", "end", "high"] (qcx (qli C_HowMany C_Total C_Least C_Greatest C_Mean)):=
 let ⟨f,fd,F,_,_,_,m,_,_,b⟩:=qbl T
 ⟨f,fd,F,m,b⟩
include T in
theorem qhf:qca P w K mg base C_Greatest 3 "taken" ["self", "part", "end", "high"] (qcx (qli C_HowMany C_Total C_Least C_Greatest C_Mean)):=
 let ⟨f,fd,F,_,_,_,_,m,_,b⟩:=qbl T
 ⟨f,fd,F,m,b⟩
include T in
theorem qnq:qca P w K mg base C_Mean 3 "taken" ["self", "part", "end", "high"] (qcx (qli C_HowMany C_Total C_Least C_Greatest C_Mean)):=
 let ⟨f,fd,F,_,_,_,_,_,m,b⟩:=qbl T
 ⟨f,fd,F,m,b⟩
theorem FrAt.ne_non {H:Hp} {k:Nat} {v:V} {z n:Int} (h:FrAt H k v z n):v≠.non:=by
 rcases h with ⟨_,e,_⟩|⟨_,p,e,_⟩<;>rw[e]<;>intro y<;>cases y
theorem qwa {H H1:Hp} {a:Addr} (s:Same H H1) (h:H1 a=none):H a=none:=by
 cases e:H a with
 | none=>rfl
 | some o=>rw[s _ _ e] at h;cases h
theorem qhw {K:Frag} {l:Addr} {xs:List V} {ps:List HP4} {te:TE} {Q:VK} {σ:St} {H:Hp} (f:HP4->List (Int×Int)) (hl:H l=some (.lst xs)) (tp:Tups H xs (ps.map j4)) (ln:ps.length<=40)
  (hs:∀ a h H2 (Q':VK),h∈ps->Same H H2->H2 a=some (.tup ((j4 h).map V.int))->(∀ b ys H3 H4,Same H2 H3->New H3 H4 b (.lst ys)->Pairs H4 ys (f h)->Q' (.ref b) H4)->te (σ.set 0 (some (.ref a))) H2 Q')
  (hd:∀ a zs H1 H',Same H H1->New H1 H' a (.lst zs)->LL H' zs (ps.map f)->(∀ b,V.ref b∈zs->H b=none/\b≠a)->Q (.ref a) H'):qfg (Itl K l) Q (qd3 0) qAa te σ H:=by
 have hxl:xs.length=ps.length:=by rw[tp.length,List.length_map]
 refine qa9 (xs:=xs) (λi zs H2=>Same H H2/\LL H2 zs ((ps.take i).map f)/\∀ b,V.ref b∈zs->H b=none/\∃ o,H2 b=some o) (Nat.le_of_lt (qah (by omega))) ⟨Same.refl _,.nil,λb hb=>by cases hb⟩ (λi zs H2 h2=>⟨SqL.of (h2.1 _ _ hl),by rw[h2.2.1.length,List.length_map,List.length_take];omega⟩) ?_ ?_
 ·rintro i x zs H2 hi ⟨s2,ll,fz⟩
  obtain ⟨j,hji,a,rfl,ha⟩:=tp.get hi;rw[List.getElem?_map] at hji;obtain ⟨h,hh,rfl⟩:=Option.map_eq_some_iff.mp hji;refine qb8 (qo5 (qd2 (hs a h H2 _ (List.mem_of_getElem? hh) s2 (s2 _ _ ha) λb ys H3 H4 s3 n4 py=>⟨s2.trans (s3.trans n4.same),?_,λc hc=>?_⟩)))
  ·rw[qbq ps i h hh,List.map_append]
   exact LL.snoc n4.at_ py (ll.same (s3.trans n4.same))
  ·rcases List.mem_append.mp hc with y|y
   ·obtain ⟨e1,o,e2⟩:=fz c y
    exact ⟨e1,o,(s3.trans n4.same) _ _ e2⟩
   ·cases List.mem_singleton.mp y
    exact ⟨qwa (s2.trans s3) n4.fresh,_,n4.at_⟩
 ·rintro zs H2 a H' ⟨s2,ll,fz⟩ n
  rw[hxl,List.take_length] at ll;refine hd a zs H2 H' s2 n (ll.same n.same) λb hb=>?_
  obtain ⟨e1,o,e2⟩:=fz b hb;exact ⟨e1,qai e2 n.fresh⟩
theorem qy5 {k:Nat} {b:Bool} {z n:Int} {h:HP4} (c:qhb h.1 h.2.1 h.2.2.1 h.2.2.2):(wTk k b z n h).length<=3:=
 Nat.le_trans (List.length_filter_le _ _) (WRow.of c).len.2
def NoE (k:Nat) (hs ps:List HP4):Prop:=2<=k/\hs=[]/\ps=[]
inductive qbw (C:Nat->Addr) (N:Addr) (vs:List V) (H:Hp) (Q:VK) (E:XK):Prop
 | mk:∀ (me l p dx:Addr) (xs ys:List V) (hs ps:List HP4) (k:Nat) (b:Bool),vs=[.ref me,.ref l,.ref p,.bl b]->k<5->H me=some (.ins (C k) dx [])->H l=some (.lst xs)->Tups H xs (hs.map j4)->HsOk hs->(∀ h∈hs,h.2.2.1<=h.2.2.2)->H p=some (.lst ys)->Tups H ys (ps.map j4)->PsOk ps->(NoE k hs ps->∀ H',Same H H'->E (.ref N) none H')->(¬ NoE k hs ps->∀ q zs rss H',Same H H'->H' q=some (.lst zs)->LL H' zs rss->rss.length=ps.length->(∀ rs∈rss,rs.length<=3)->Q (.ref q) H')->qbw C N vs H Q E
include T in
theorem qbg:∃ f fd,qf6 P w K mg base (CX1 P w) 5 f fd ["self", "known", "parts", "high"] (qbw (qli C_HowMany C_Total C_Least C_Greatest C_Mean) C_NoAnswer)/\qeo K C_Measure "chosen" f/\qeo K C_HowMany "chosen" f/\qeo K C_Total "chosen" f/\qeo K C_Least "chosen" f/\qeo K C_Greatest "chosen" f/\qeo K C_Mean "chosen" f/\Binds K fd ["self", "known", "parts", "high"] []:=by
 obtain ⟨f,fd,F,hm,m0,m1,m2,m3,m4⟩:=T.f_Measure_chosen;have nd:=sc_Measure_chosen.nd;refine ⟨f,fd,(F.okX sc_Measure_chosen (λvs H Q E h=>?_) (λcdv A outer s H vs Q E hr h=>?_)),hm,m0,m1,m2,m3,m4,(F.binds λ_ _ _ _ _ _ us hl=>by obtain ⟨_,_,_,_,rfl⟩:=L2.lq4 hl;rfl)⟩
 ·obtain ⟨me,l,p,dx,xs,ys,hs,ps,k,b,rfl,_⟩:=h;rfl
 ·obtain ⟨me,l,p,dx,xs,ys,hs,ps,k,b,rfl,hk,hme,hl,tk,ok,le,hp,tp,pok,qE,q⟩:=h
  have ln:=pok.2.1.1;refine ⟨_,(jB4 (jS 4 nd (qbz (qcs (pv 0) T.cl_HowMany (qe3 T) (hr.mono (by decide)) (jA2 (pv 1) (pv 2))) (qbz (qcs (pv 0) T.cl_Total (qg7 T) (hr.mono (by decide)) (jA2 (pv 1) (pv 2))) (qbz (qcs (pv 0) T.cl_Least (qg8 T) (hr.mono (by decide)) (jA2 (pv 1) (pv 2))) (qbz (qcs (pv 0) T.cl_Greatest (qel T) (hr.mono (by decide)) (jA2 (pv 1) (pv 2))) (qcs (pv 0) T.cl_Mean (qjl T) (hr.mono (by decide)) (jA2 (pv 1) (pv 2)))))))) (qrt (i:=5) nd rfl (Or.inr rfl) (qc3 (qco (pv 3)) (jT (pv 4) qaa) (jT (pv 4) qaa))) (qav (jC qc0 (pv 5) qau) (qac (qhn (qbb ⟨rfl,rfl,rfl⟩) rfl T.ex_NoAnswer rfl T.mg_NoAnswer (jA1 qb6))) qam) (qaf (qdi (vars:=[ "part" ]) (frees:=[ "end", "high", "self" ]) (fv:=[5,3,0]) rfl (jL3 rfl) ⟨⟨rfl,.inl rfl,rfl,.inl rfl⟩,⟨⟨rfl,.inl rfl,rfl,.inl rfl⟩,⟨⟨rfl,.inl rfl,rfl,.inl rfl⟩,trivial⟩⟩⟩ (qap (pv 2)) (qbp (by decide)) (λ_ _ _ _=>(jM 0 [ "part", "end", "high", "self" ])) (λ_ _ _ _=>qa3) (λ_ _ _ _=>(qbz (qcs (pv 3) T.cl_HowMany (qjn T) (hr.mono (by decide)) (jA3 (pv 0) (pv 1) (pv 2))) (qbz (qcs (pv 3) T.cl_Total (qlp T) (hr.mono (by decide)) (jA3 (pv 0) (pv 1) (pv 2))) (qbz (qcs (pv 3) T.cl_Least (qlq T) (hr.mono (by decide)) (jA3 (pv 0) (pv 1) (pv 2))) (qbz (qcs (pv 3) T.cl_Greatest (qhf T) (hr.mono (by decide)) (jA3 (pv 0) (pv 1) (pv 2))) (qcs (pv 3) T.cl_Mean (qnq T) (hr.mono (by decide)) (jA3 (pv 0) (pv 1) (pv 2))))))))))),?_⟩;refine qBm (sp:=qdc) k hk ⟨_,rfl,me,dx,_,rfl,hme,rfl,_,rfl,_,rfl,?_⟩;refine ⟨me,l,p,xs,ys,hs,ps,rfl,hl,tk,ok,hp,tp,pok,λt x y H1 s1 ht told=>?_⟩;have hme1:=s1 _ _ hme;have hp1:=s1 _ _ hp;have tp1:=tp.same s1
  by_cases ne:hs≠[]\/ps≠[]
  ·have nN:¬ NoE k hs ps:=fun ⟨_,e1,e2⟩=>ne.elim (λz=>z e1) λz=>z e2
   have q:=q nN;have fin:∀ (b:Bool) (z n:Int) qa zs H2 H3,Same H1 H2->New H2 H3 qa (.lst zs)->LL H3 zs (ps.map (wTk k b z n))->Q (.ref qa) H3:=λb z n qa zs H2 H3 s2 n3 ll=>q qa zs _ H3 (s1.trans (s2.trans n3.same)) n3.at_ ll (by rw[List.length_map]) λrs hrs=>by
    obtain ⟨h,hh,rfl⟩:=List.mem_map.mp hrs;exact qy5 (pok.2.2 h hh).1
   obtain ⟨z1,n1,z2,n2,f⟩:=qp8 hk ok le pok ne told
   cases b with
   | true =>
    refine ⟨_,rfl,_,rfl,qd2 ?_⟩;refine ⟨_,rfl,t,_,1,_,rfl,rfl,SqT.of ht,rfl,?_⟩;refine ⟨_,rfl,rfl,_,rfl,qcj (λz=>absurd (by simpa using z) f.y.ne_non) λ_=>?_⟩;refine ⟨_,rfl,p,rfl,⟨_,SqL.of hp1⟩,qhw (wTk k true z2 n2) hp1 tp1 (by omega) (λa h H2 Q' hh s2 ha q'=>?_) λqa zs H2 H3 s2 n3 ll fz=>fin true z2 n2 qa zs H2 H3 s2 n3 ll⟩;exact qBm (sp:=λ_=>qcx (qli C_HowMany C_Total C_Least C_Greatest C_Mean)) k hk ⟨_,rfl,me,dx,_,rfl,s2 _ _ hme1,rfl,_,rfl,_,rfl,_,rfl,me,dx,a,h,k,y,z2,n2,true,rfl,hk,s2 _ _ hme1,ha,(pok.2.2 h hh).1,(pok.2.2 h hh).2,f.y.same s2,q'⟩
   | false =>
    refine ⟨_,rfl,_,rfl,qgl ?_⟩;refine ⟨_,rfl,t,_,0,_,rfl,rfl,SqT.of ht,rfl,?_⟩;refine ⟨_,rfl,rfl,_,rfl,qcj (λz=>absurd (by simpa using z) f.x.ne_non) λ_=>?_⟩;refine ⟨_,rfl,p,rfl,⟨_,SqL.of hp1⟩,qhw (wTk k false z1 n1) hp1 tp1 (by omega) (λa h H2 Q' hh s2 ha q'=>?_) λqa zs H2 H3 s2 n3 ll fz=>fin false z1 n1 qa zs H2 H3 s2 n3 ll⟩;exact qBm (sp:=λ_=>qcx (qli C_HowMany C_Total C_Least C_Greatest C_Mean)) k hk ⟨_,rfl,me,dx,_,rfl,s2 _ _ hme1,rfl,_,rfl,_,rfl,_,rfl,me,dx,a,h,k,x,z1,n1,false,rfl,hk,s2 _ _ hme1,ha,(pok.2.2 h hh).1,(pok.2.2 h hh).2,f.x.same s2,q'⟩
  ·have e1:hs=[]:=Classical.byContradiction λz=>ne (.inl z)
   have e2:ps=[]:=Classical.byContradiction λz=>ne (.inr z)
   subst e1 e2;have hys:ys=[]:=by have:=tp.length;simpa using this
   subst hys
   by_cases k2:2<=k
   ·have nn:x=.non/\y=.non:=by
     have hc:k=2\/k=3\/k=4:=by omega
     rcases hc with rfl|rfl|rfl
     ·rcases told with ⟨_,_,e1,e2⟩|⟨a,b,_,_,h1,_⟩
      ·exact ⟨e1,e2⟩
      ·cases h1.1
     ·rcases told with ⟨_,_,e1,e2⟩|⟨a,b,_,_,h1,_⟩
      ·exact ⟨e1,e2⟩
      ·cases h1.1
     ·rcases told with ⟨_,_,e1,e2⟩|⟨p,q,rs,a,b,c,d,_,_,_,_,pm,_,ne,_⟩
      ·exact ⟨e1,e2⟩
      ·rcases ne with z|z
       ·exact absurd rfl z
       ·exact absurd (List.perm_nil.mp pm) z
    obtain ⟨rfl,rfl⟩:=nn;have qE:=qE ⟨k2,rfl,rfl⟩
    cases b with
    | true =>
     refine ⟨_,rfl,_,rfl,qd2 ⟨_,rfl,t,_,1,_,rfl,rfl,SqT.of ht,rfl,_,rfl,rfl,_,rfl,qd2 ?_⟩⟩
     walk_at "r"
     exact qE H1 s1
    | false =>
     refine ⟨_,rfl,_,rfl,qgl ⟨_,rfl,t,_,0,_,rfl,rfl,SqT.of ht,rfl,_,rfl,rfl,_,rfl,qd2 ?_⟩⟩
     walk_at "r"
     exact qE H1 s1
   ·have nn:x≠.non/\y≠.non:=by
     have hc:k=0\/k=1:=by omega
     rcases hc with rfl|rfl
     ·obtain ⟨rfl,rfl⟩:=told
      exact ⟨(λz=>by cases z),λz=>by cases z⟩
     ·obtain ⟨rs,_,rfl,rfl⟩:=told
      exact ⟨(λz=>by cases z),λz=>by cases z⟩
    have q:=q λz=>k2 z.1
    have fin:∀ qa zs H2 H3,Same H1 H2->New H2 H3 qa (.lst zs)->LL H3 zs []->Q (.ref qa) H3:=λqa zs H2 H3 s2 n3 ll=>q qa zs _ H3 (s1.trans (s2.trans n3.same)) n3.at_ ll rfl λrs hrs=>by cases hrs
    cases b with
    | true =>
     refine ⟨_,rfl,_,rfl,qd2 ⟨_,rfl,t,_,1,_,rfl,rfl,SqT.of ht,rfl,_,rfl,rfl,_,rfl,qcj (λz=>absurd (by simpa using z) nn.2) λ_=>?_⟩⟩;exact ⟨_,rfl,p,rfl,⟨_,SqL.of hp1⟩,qhw (ps:=[]) (λ_=>[]) hp1 .nil (by simp) (λa h H2 Q' hh=>by cases hh) λqa zs H2 H3 s2 n3 ll fz=>fin qa zs H2 H3 s2 n3 ll⟩
    | false =>
     refine ⟨_,rfl,_,rfl,qgl ⟨_,rfl,t,_,0,_,rfl,rfl,SqT.of ht,rfl,_,rfl,rfl,_,rfl,qcj (λz=>absurd (by simpa using z) nn.1) λ_=>?_⟩⟩;exact ⟨_,rfl,p,rfl,⟨_,SqL.of hp1⟩,qhw (ps:=[]) (λ_=>[]) hp1 .nil (by simp) (λa h H2 Q' hh=>by cases hh) λqa zs H2 H3 s2 n3 ll fz=>fin qa zs H2 H3 s2 n3 ll⟩
include T in
theorem qhg:qzj P w K mg base C_HowMany 5 "chosen" ["self", "known", "parts", "high"] [] (qbw (qli C_HowMany C_Total C_Least C_Greatest C_Mean) C_NoAnswer):=
 let ⟨f,fd,F,_,m,_,_,_,_,b⟩:=qbg T
 ⟨f,fd,F,m,b⟩
include T in
theorem qjy:qzj P w K mg base C_Total 5 "chosen" ["self", "known", "parts", "high"] [] (qbw (qli C_HowMany C_Total C_Least C_Greatest C_Mean) C_NoAnswer):=
 let ⟨f,fd,F,_,_,m,_,_,_,b⟩:=qbg T
 ⟨f,fd,F,m,b⟩
include T in
theorem qjz:qzj P w K mg base C_Least 5 "chosen" ["self", "known", "parts", "high"] [] (qbw (qli C_HowMany C_Total C_Least C_Greatest C_Mean) C_NoAnswer):=
 let ⟨f,fd,F,_,_,_,m,_,_,b⟩:=qbg T
 ⟨f,fd,F,m,b⟩
include T in
theorem qgi:qzj P w K mg base C_Greatest 5 "chosen" ["self", "known", "parts", "high"] [] (qbw (qli C_HowMany C_Total C_Least C_Greatest C_Mean) C_NoAnswer):=
 let ⟨f,fd,F,_,_,_,_,m,_,b⟩:=qbg T
 ⟨f,fd,F,m,b⟩
include T in
theorem qlr:qzj P w K mg base C_Mean 5 "chosen" ["self", "known", "parts", "high"] [] (qbw (qli C_HowMany C_Total C_Least C_Greatest C_Mean) C_NoAnswer):=
 let ⟨f,fd,F,_,_,_,_,_,m,b⟩:=qbg T
 ⟨f,fd,F,m,b⟩
structure RD where
 ro:Addr
 c:qay
 s:Abs
 LY:List (List Int)
 LZ:List (List Int)
 n:Nat
def qBo (C R:Addr) (H:Hp) (v:V) (r:RD):Prop:=v=.ref r.ro/\RR C R H r.ro r.c r.s r.LY r.LZ/\r.LY.length<64/\r.LZ.length<64/\AOk r.n r.s/\r.n<=1000
def Rds (C R:Addr) (H:Hp) (xs:List V) (rs:List RD):Prop:=Paired (qBo C R H) xs rs
theorem Rds.same {C R:Addr} {H H':Hp} (s:Same H H'):∀ {xs:List V} {rs:List RD},Rds C R H xs rs->Rds C R H' xs rs
 | _,_,.nil=>.nil
 | _,_,.cons ⟨e,h,r⟩ t=>.cons ⟨e,h.same s,r⟩ (Rds.same s t)
theorem Rds.length {C R:Addr} {H:Hp}:∀ {xs:List V} {rs:List RD},Rds C R H xs rs->xs.length=rs.length
 | _,_,.nil=>rfl
 | _,_,.cons _ t=>by rw[List.length_cons,List.length_cons,Rds.length t]
theorem Rds.get {C R:Addr} {H:Hp}:∀ {xs:List V} {rs:List RD} {i:Nat} {x:V},Rds C R H xs rs->xs[i]?=some x->∃ r,rs[i]?=some r/\qBo C R H x r
 | _,_,0,_,.cons h _,e=>by cases e;exact ⟨_,rfl,h⟩
 | _,_,i+1,_,.cons _ t,e=>Rds.get (i:=i) t e
def gMx (rs:List RD):Option Int:=rs.foldl (λe r=>qol e r.c.ge) none
theorem qBp (x:Option Int):Ed (gv x):=by cases x with|none=>exact .inl rfl|some i=>exact .inr ⟨i,rfl⟩
theorem qwb (x y:Option Int):(∀ z,x=some z->∃ w,qol x y=some w/\z<=w)/\∀ z,y=some z->∃ w,qol x y=some w/\z<=w:=by
 cases x with
 | none=>exact ⟨λz e=>(by cases e),λz e=>⟨z,e,Int.le_refl _⟩⟩
 | some i =>
  cases y with
  | none=>exact ⟨λz e=>⟨z,e,Int.le_refl _⟩,λz e=>(by cases e)⟩
  | some j =>
   refine ⟨λz e=>⟨_,rfl,?_⟩,λz e=>⟨_,rfl,?_⟩⟩
   ·cases e;split<;>omega
   ·cases e;split<;>omega
theorem quh:∀ (rs:List RD) (x:Option Int),(∀ z,x=some z->∃ w,rs.foldl (λe r=>qol e r.c.ge) x=some w/\z<=w)/\∀ r∈rs,∀ z,r.c.ge=some z->∃ w,rs.foldl (λe r=>qol e r.c.ge) x=some w/\z<=w
 | [],x=>⟨λz e=>⟨z,e,Int.le_refl _⟩,λr hr'=>by cases hr'⟩
 | q :: t,x=>by
  obtain ⟨i1,i2⟩:=quh t (qol x q.c.ge);obtain ⟨m1,m2⟩:=qwb x q.c.ge;refine ⟨λz e=>?_,λr hr' z e=>?_⟩
  ·obtain ⟨w,ew,lw⟩:=m1 z e
   obtain ⟨w',ew',lw'⟩:=i1 w ew;exact ⟨w',ew',by omega⟩
  ·rcases List.mem_cons.mp hr' with y|y
   ·obtain ⟨w,ew,lw⟩:=m2 z (by rw[<- y];exact e)
    obtain ⟨w',ew',lw'⟩:=i1 w ew;exact ⟨w',ew',by omega⟩
   ·exact i2 r y z e
theorem qy6 {rs:List RD} {a:Option Int} (h:¬ qmz (gMx rs) a) {r:RD} (hr':r∈rs):¬ qmz r.c.ge a:=by
 rintro ⟨z,e,lt⟩;obtain ⟨w,ew,lw⟩:=(quh rs none).2 r hr' z e;exact h ⟨w,ew,λx ex=>by have:=lt x ex;omega⟩
inductive qBq (C R:Addr) (vs:List V) (H:Hp) (Q:VK) (E_:XK):Prop
 | mk:∀ (l:Addr) (xs:List V) (rs:List RD),vs=[.ref l]->H l=some (.lst xs)->Rds C R H xs rs->rs.length<=900->(∀ H',Same H H'->Q (gv (gMx rs)) H')->qBq C R vs H Q E_
include T in
theorem qjo:qaw P w K mg base 3 "greatest_gone" ["rolls"] (qBq C_Roll C_Rule):=by
 obtain ⟨f,fd,F,hm⟩:=T.f_greatest_gone;have nd:=sc_greatest_gone.nd;refine F.def_ hm (F.ok sc_greatest_gone (λvs H Q E h=>?_) (λcdv A outer s H vs Q E hr h=>?_)) (F.binds λ_ _ _ _ _ _ us hl=>by obtain ⟨_,rfl⟩:=L2.lq1 hl;rfl)
 ·obtain ⟨l,xs,rs,rfl,_⟩:=h;rfl
 ·obtain ⟨l,xs,rs,rfl,hl,rd,ln,q⟩:=h
  have lx:=rd.length;refine ⟨_,(jB3 (jS 1 nd qau) (qb7 PassesOwn.never rfl (qap (pv 0)) (jN 2 nd) (qac (jS 1 nd (jF (qe2 T) hr (jA2 (pv 1) (jI (qcf (pv 2) T.cl_Roll (qeh T) (hr.mono (by decide))) (qe4 qcz qaa))))))) (qaf (pv 1))),?_⟩;refine ⟨_,rfl,l,rfl,⟨_,SqL.of hl⟩,qbt (xs:=xs) (λi σ H'=>Same H H'/\∃ v,σ=[some (.ref l),some (gv (gMx (rs.take i))),v]) ⟨Same.refl _,none,rfl⟩ (λi σ H' _ h'=>SqL.of (h'.1 _ _ hl)) ?_ ?_⟩
  ·rintro i x σ H2 hi ⟨s2,v,rfl⟩
   obtain ⟨r,hri,rfl,R0,ly,lz,ao,hn⟩:=rd.get hi;have R2:=R0.same s2;obtain ⟨dx,hob⟩:=R2.obj;obtain ⟨Y0,Z0,A0,B0⟩:=id R2;refine qb8 ?_;refine ⟨_,rfl,_,rfl,r.ro,dx,_,rfl,hob,qir _ _ _ _ _,quf ⟨r.ro,_,rfl,A0,λle H3 n3=>?_⟩⟩;have hat:atI (r.c.es.map V.int ++ [gv r.c.ge]) (-1)=some (gv r.c.ge):=qes (by simp);have hle:H3 le=some (.lst (r.c.es.map V.int ++ [gv r.c.ge])):=n3.at_;refine ⟨_,rfl,le,_,_,_,rfl,rfl,SqL.of hle,hat,?_⟩;refine ⟨_,_,rfl,qBp _,qBp _,?_⟩;rw[qAy];have:gMx (rs.take (i+1))=qol (gMx (rs.take i)) r.c.ge:=by
    unfold gMx;rw[qbq rs i r hri,List.foldl_append];rfl
   refine ⟨s2.trans n3.same,some (.ref r.ro),?_⟩;rw[this]
   rfl
  ·rintro σ H2 ⟨s2,v,rfl⟩
   rw[lx,List.take_length];exact ⟨_,rfl,q H2 s2⟩
noncomputable def kOf (a b:Option Int) (r:RD):List (List Int):=qtz a b (qbh r.s) (qbc r.s)
noncomputable def pOf (a b:Option Int) (r:RD):List (List Int):=qm0 a b (qbc r.s)
def LdAt (H:Hp) (a b:Option Int) (v:V) (r:RD):Prop:=∃ (t l1 l2:Addr) (xs ys:List V),v=.ref t/\H t=some (.tup [.ref l1,.ref l2])/\H l1=some (.lst xs)/\Tups H xs (kOf a b r)/\H l2=some (.lst ys)/\Parts H ys (pOf a b r)
def Lds (H:Hp) (a b:Option Int) (xs:List V) (rs:List RD):Prop:=Paired (LdAt H a b) xs rs
theorem LdAt.same {H H':Hp} (s:Same H H') {a b:Option Int} {v:V} {r:RD}:LdAt H a b v r->LdAt H' a b v r
 | ⟨t,l1,l2,xs,ys,e,ht,h1,t1,h2,t2⟩=>⟨t,l1,l2,xs,ys,e,s _ _ ht,s _ _ h1,t1.same s,s _ _ h2,t2.same s⟩
theorem Lds.same {H H':Hp} (s:Same H H') {a b:Option Int}:∀ {xs:List V} {rs:List RD},Lds H a b xs rs->Lds H' a b xs rs
 | _,_,.nil=>.nil
 | _,_,.cons h t=>.cons (h.same s) (Lds.same s t)
theorem Lds.length {H:Hp} {a b:Option Int}:∀ {xs:List V} {rs:List RD},Lds H a b xs rs->xs.length=rs.length
 | _,_,.nil=>rfl
 | _,_,.cons _ t=>by rw[List.length_cons,List.length_cons,Lds.length t]
theorem Lds.get {H:Hp} {a b:Option Int}:∀ {xs:List V} {rs:List RD} {i:Nat} {x:V},Lds H a b xs rs->xs[i]?=some x->∃ r,rs[i]?=some r/\LdAt H a b x r
 | _,_,0,_,.cons h _,e=>by cases e;exact ⟨_,rfl,h⟩
 | _,_,i+1,_,.cons _ t,e=>Lds.get (i:=i) t e
theorem Lds.snoc {H:Hp} {a b:Option Int} {v:V} {r:RD} (h:LdAt H a b v r):∀ {xs:List V} {rs:List RD},Lds H a b xs rs->Lds H a b (xs ++ [v]) (rs ++ [r])
 | _,_,.nil=>.cons h .nil
 | _,_,.cons q t=>.cons q (Lds.snoc h t)
inductive qxg (C R G:Addr) (vs:List V) (H:Hp) (Q:VK) (E:XK):Prop
 | mk:∀ (l:Addr) (xs:List V) (rs:List RD) (a b:Option Int),vs=[.ref l,gv a,gv b]->H l=some (.lst xs)->Rds C R H xs rs->rs.length<=900->(qmz (gMx rs) a->∀ dx H1 H',Same H H1->New H1 H' dx (.xd [("edge",gv (gMx rs))])->E (.ref G) (some dx) H')->(¬ qmz (gMx rs) a->∀ t zs H',Same H H'->H t=none->H' t=some (.lst zs)->Lds H' a b zs rs->Q (.ref t) H')->qxg C R G vs H Q E
include T in
theorem qem:qqv P w K mg base 5 "pieces_of_all" ["rolls", "a", "b"] [] (qxg C_Roll C_Rule C_Gone):=by
 obtain ⟨f,fd,F,hm⟩:=T.f_pieces_of_all;have nd:=sc_pieces_of_all.nd;refine ⟨f,fd,(F.okX sc_pieces_of_all (λvs H Q E h=>?_) (λcdv A outer s H vs Q E hr h=>?_)),hm,F.kp,(F.binds λ_ _ _ _ _ _ us hl=>by obtain ⟨_,_,_,rfl⟩:=L2.lq3 hl;rfl)⟩
 ·obtain ⟨l,xs,rs,a,b,rfl,_⟩:=h;rfl
 ·obtain ⟨l,xs,rs,a,b,rfl,hl,rd,ln,qE,q⟩:=h
  have lx:=rd.length;refine ⟨_,(jB2 (qa0 (jW (qfz T) hr (jA2 (jF (qjo T) hr (jA1 (pv 0))) (pv 1)))) (qaf (qdi (vars:=[ "roll" ]) (frees:=[ "a", "b" ]) (fv:=[1,2]) rfl (jL2 rfl) ⟨⟨rfl,.inl rfl,rfl,.inl rfl⟩,⟨⟨rfl,.inl rfl,rfl,.inl rfl⟩,trivial⟩⟩ (qap (pv 0)) (qbp (by decide)) (λ_ _ _ _=>(jM 0 [ "roll", "a", "b" ])) (λ_ _ _ _=>qa3) (λ_ _ _ _=>(qAu (qv9 T) (hr.mono (by decide)) rfl .nil (jA3 (pv 0) (pv 1) (pv 2))))))),?_⟩;refine ⟨_,rfl,l,xs,rs,rfl,hl,rd,ln,λH1 s1=>?_⟩;refine ⟨_,rfl,gMx rs,a,rfl,λbd dx2 H2 n2=>qE bd dx2 H1 H2 s1 n2,λnb=>?_⟩;have q:=q nb;have hl1:=s1 _ _ hl;have rd1:=rd.same s1;refine ⟨_,rfl,l,rfl,⟨_,SqL.of hl1⟩,qa9 (xs:=xs) (λi zs H2=>Same H1 H2/\Lds H2 a b zs (rs.take i)) (Nat.le_of_lt (qah (by omega))) ⟨Same.refl _,.nil⟩ (λi zs H2 h2=>⟨SqL.of (h2.1 _ _ hl1),by rw[h2.2.length,List.length_take];omega⟩) ?_ ?_⟩
  ·rintro i x zs H2 hi ⟨s2,ld⟩
   obtain ⟨r,hri,rfl,R0,ly,lz,ao,hn⟩:=rd1.get hi;refine qb8 (qo5 (qd2 ?_));refine ⟨_,rfl,_,rfl,_,rfl,r.ro,r.c,r.s,r.LY,r.LZ,r.n,a,b,rfl,R0.same s2,ly,lz,ao,hn,λbd=>absurd bd (qy6 nb (List.mem_of_getElem? hri)),λ_ t l1 l2 ys1 ys2 H3 s3 _ _ _ ht h1 t1 h2 t2=>⟨s2.trans s3,?_⟩⟩;rw[qbq rs i r hri];exact Lds.snoc ⟨t,l1,l2,ys1,ys2,rfl,ht,h1,t1,h2,t2⟩ (ld.same s3)
  ·rintro zs H2 t H3 ⟨s2,ld⟩ n3
   rw[lx,List.take_length] at ld;exact q t zs H3 (s1.trans (s2.trans n3.same)) ((s1.trans s2).free n3.fresh) n3.at_ (ld.same n3.same)
noncomputable def qj0 (a b:Option Int) (rs:List RD):List (List Int):=rs.flatMap (kOf a b)
noncomputable def qjs (a b:Option Int) (rs:List RD):List (List Int):=rs.flatMap λr=>(pOf a b r).map (List.drop 2)
theorem qnr {α β:Type} (f:α->List β) (rs:List α) (i:Nat) (r:α) (h:rs[i]?=some r):(rs.take (i+1)).flatMap f=(rs.take i).flatMap f ++ f r:=by
 rw[qbq rs i r h,List.flatMap_append];simp
theorem qp9 {α β:Type} (f:α->List β) (rs:List α) (i:Nat):((rs.take i).flatMap f).length<=(rs.flatMap f).length:=by
 have e:=List.take_append_drop i rs;have:rs.flatMap f=(rs.take i).flatMap f ++ (rs.drop i).flatMap f:=by rw[<- List.flatMap_append,e]
 rw[this,List.length_append];omega
theorem qns {H H':Hp} (s:qn0 H H'):∀ {xs:List V} {rs:List (List Int)},Tups H xs rs->Tups H' xs rs
 | _,_,.nil=>.nil
 | _,_,.cons ⟨a,e,h⟩ t=>.cons ⟨a,e,s _ _ h⟩ (qns s t)
theorem Parts.get {H:Hp}:∀ {xs:List V} {rs:List (List Int)} {i:Nat} {x:V},Parts H xs rs->xs[i]?=some x->∃ r,rs[i]?=some r/\PartAt H x r
 | _,_,0,_,.cons h _,e=>by cases e;exact ⟨_,rfl,h⟩
 | _,_,i+1,_,.cons _ t,e=>Parts.get (i:=i) t e
inductive qBr (vs:List V) (H:Hp) (Q:VK) (E_:XK):Prop
 | mk:∀ (l:Addr) (zs:List V) (rs:List RD) (a b:Option Int),vs=[.ref l]->H l=some (.lst zs)->Lds H a b zs rs->rs.length<=900->(qj0 a b rs).length<=900->(∀ p xs H',Same H H'->H' p=some (.lst xs)->Tups H' xs (qj0 a b rs)->Q (.ref p) H')->qBr vs H Q E_
inductive qBs (vs:List V) (H:Hp) (Q:VK) (E_:XK):Prop
 | mk:∀ (l:Addr) (zs:List V) (rs:List RD) (a b:Option Int),vs=[.ref l]->H l=some (.lst zs)->Lds H a b zs rs->rs.length<=900->(qjs a b rs).length<=900->(∀ p xs H',Same H H'->H' p=some (.lst xs)->Tups H' xs (qjs a b rs)->Q (.ref p) H')->qBs vs H Q E_
include T in
theorem qaz:qaw P w K mg base 1 "known_heaps" ["laid"] qBr:=by
 obtain ⟨f,fd,F,hm⟩:=T.f_known_heaps;have nd:=sc_known_heaps.nd;refine F.def_ hm (F.ok sc_known_heaps (λvs H Q E h=>?_) (λcdv A outer s H vs Q E hr h=>?_)) (F.binds λ_ _ _ _ _ _ us hl=>by obtain ⟨_,rfl⟩:=L2.lq1 hl;rfl)
 ·obtain ⟨l,zs,rs,a,b,rfl,_⟩:=h;rfl
 ·obtain ⟨l,zs,rs,a,b,rfl,hl,ld,ln,lk,q⟩:=h
  have lx:=ld.length;refine ⟨_,(jB3 (jS 1 nd (qax qc6)) (qb7 PassesOwn.never rfl (qap (pv 0)) (jG2 (jN 2 nd) (jN 3 nd)) (qac (qa0 (qf8 PySem.F.plainAttrs_list PySem.F.slot_list_extend PySem.F.type_list_extend qdk (pv 1) (jA1 (pv 2)))))) (qaf (pv 1))),?_⟩;refine ⟨by show 0<=sizeLine;decide,λr H1 n1=>?_⟩;refine ⟨_,rfl,l,rfl,⟨_,SqL.of (n1.same _ _ hl)⟩,qbt (xs:=zs) (λi σ H'=>Same H H'/\∃ (ys:List V) (v w:Option V),H' r=some (.lst ys)/\Tups H' ys (qj0 a b (rs.take i))/\σ=[some (.ref l),some (.ref r),v,w]) ⟨n1.same,[],none,none,n1.at_,.nil,rfl⟩ (λi σ H' _ h'=>SqL.of (h'.1 _ _ hl)) ?_ ?_⟩
  ·rintro i x σ H2 hi ⟨s2,ys,v,w,hr2,ty,rfl⟩
   obtain ⟨rd,hri,t,l1,l2,xs1,xs2,rfl,ht,h1,t1,h2,t2⟩:=ld.get hi;have e1:qj0 a b (rs.take (i+1))=qj0 a b (rs.take i) ++ kOf a b rd:=qnr _ _ _ _ hri;have l3:=qp9 (kOf a b) rs (i+1);have e1':(rs.take (i+1)).flatMap (kOf a b)=qj0 a b (rs.take i) ++ kOf a b rd:=e1;rw[e1',List.length_append] at l3;have lk':(rs.flatMap (kOf a b)).length<=900:=lk;have m1:=ty.length;have m2:=t1.length;refine ⟨t,_,rfl,SqT.of (s2 _ _ ht),rfl,_,_,rfl,_,_,rfl,rfl,?_⟩;refine ⟨_,rfl,.inl ⟨rfl,_,SqL.of hr2⟩,_,rfl,r,l1,ys,xs1,rfl,rfl,hr2,s2 _ _ h1,Nat.le_of_lt (qah (by omega)),λH3 b3 h3=>?_⟩;have ts:qn0 H2 H3:=λx xs e=>b3 _ _ e (qbe e hr2 (by intro z;cases z))
   refine ⟨b3.same s2 n1.fresh,_,_,_,h3,?_,rfl⟩;rw[e1];exact Tups.app (qns ts ty) (qns ts (t1.same s2))
  ·rintro σ H2 ⟨s2,ys,v,w,hr2,ty,rfl⟩
   rw[lx,List.take_length] at ty;exact ⟨_,rfl,q r ys H2 s2 hr2 ty⟩
include T in
theorem qa7:qaw P w K mg base 1 "part_heaps" ["laid"] qBs:=by
 obtain ⟨f,fd,F,hm⟩:=T.f_part_heaps;have nd:=sc_part_heaps.nd;refine F.def_ hm (F.ok sc_part_heaps (λvs H Q E h=>?_) (λcdv A outer s H vs Q E hr h=>?_)) (F.binds λ_ _ _ _ _ _ us hl=>by obtain ⟨_,rfl⟩:=L2.lq1 hl;rfl)
 ·obtain ⟨l,zs,rs,a,b,rfl,_⟩:=h;rfl
 ·obtain ⟨l,zs,rs,a,b,rfl,hl,ld,ln,lk,q⟩:=h
  have lx:=ld.length;refine ⟨_,(jB3 (jS 1 nd (qax qc6)) (qb7 PassesOwn.never rfl (qap (pv 0)) (jG2 (jN 2 nd) (jN 3 nd)) (qac (qa0 (qf8 PySem.F.plainAttrs_list PySem.F.slot_list_extend PySem.F.type_list_extend qdk (pv 1) (jA1 (qdi (vars:=[ "part" ]) (frees:=[]) (fv:=[]) rfl (jL0 rfl) trivial (qap (pv 3)) (qbp (by decide)) (λ_ _ _ _=>(jM 0 [ "part" ])) (λ_ _ _ _=>qa3) (λ_ _ _ _=>(qcm (show IxR _ (qhk K) from qbi) (pv 0) qaa (λ_ _=>rfl))))))))) (qaf (pv 1))),?_⟩;refine ⟨by show 0<=sizeLine;decide,λr H1 n1=>?_⟩;refine ⟨_,rfl,l,rfl,⟨_,SqL.of (n1.same _ _ hl)⟩,qbt (xs:=zs) (λi σ H'=>Same H H'/\∃ (ys:List V) (v w:Option V),H' r=some (.lst ys)/\Tups H' ys (qjs a b (rs.take i))/\σ=[some (.ref l),some (.ref r),v,w]) ⟨n1.same,[],none,none,n1.at_,.nil,rfl⟩ (λi σ H' _ h'=>SqL.of (h'.1 _ _ hl)) ?_ ?_⟩
  ·rintro i x σ H2 hi ⟨s2,ys,v,w,hr2,ty,rfl⟩
   obtain ⟨rd,hri,t,l1,l2,xs1,xs2,rfl,ht,h1,t1,h2,t2⟩:=ld.get hi;have e1:qjs a b (rs.take (i+1))=qjs a b (rs.take i) ++ (pOf a b rd).map (List.drop 2):=qnr _ _ _ _ hri;have l3:=qp9 (λr=>(pOf a b r).map (List.drop 2)) rs (i+1);have e1':(rs.take (i+1)).flatMap (λr=>(pOf a b r).map (List.drop 2))=qjs a b (rs.take i) ++ (pOf a b rd).map (List.drop 2):=e1;rw[e1',List.length_append,List.length_map] at l3;have lk':(rs.flatMap λr=>(pOf a b r).map (List.drop 2)).length<=900:=lk;have m1:=ty.length;have m2:=t2.length;have h22:=s2 _ _ h2;have t22:=t2.same s2;refine ⟨t,_,rfl,SqT.of (s2 _ _ ht),rfl,_,_,rfl,_,_,rfl,rfl,?_⟩;refine ⟨_,rfl,.inl ⟨rfl,_,SqL.of hr2⟩,_,rfl,l2,rfl,⟨_,SqL.of h22⟩,qa9 (xs:=xs2) (λj us H3=>H3=H2/\Tups H2 us (((pOf a b rd).take j).map (List.drop 2))) (Nat.le_of_lt (qah (by omega))) ⟨rfl,.nil⟩ (λj us H3 h3=>⟨SqL.of (by rw[h3.1];exact h22),by rw[h3.2.length,List.length_map,List.length_take];omega⟩) ?_ ?_⟩
   ·rintro j u us H3 hj ⟨rfl,tu⟩
    obtain ⟨pr,hpr,p,q',rfl,hp,hq'⟩:=Parts.get t22 hj;refine qb8 (qo5 (qd2 ?_));refine ⟨_,rfl,p,_,_,_,rfl,rfl,SqT.of hp,rfl,rfl,?_⟩;rw[qbq _ j pr hpr,List.map_append];exact Tups.snoc ⟨q',rfl,hq'⟩ tu
   rintro us H3 lu H4 ⟨rfl,tu⟩ n4;rw[m2,List.take_length] at tu;have hr4:=n4.same _ _ hr2;have lu':=tu.length;rw[List.length_map] at lu';refine ⟨r,lu,ys,us,rfl,rfl,hr4,n4.at_,Nat.le_of_lt (qah (by omega)),λH5 b5 h5=>?_⟩;have ts:qn0 H4 H5:=λx xs e=>b5 _ _ e (qbe e hr4 (by intro z;cases z))
   refine ⟨b5.same (s2.trans n4.same) n1.fresh,_,_,_,h5,?_,rfl⟩;rw[e1];exact Tups.app (qns ts (ty.same n4.same)) (qns ts (tu.same n4.same))
  ·rintro σ H2 ⟨s2,ys,v,w,hr2,ty,rfl⟩
   rw[lx,List.take_length] at ty;exact ⟨_,rfl,q r ys H2 s2 hr2 ty⟩
inductive qls (Cl:Nat->Addr) (C R N G:Addr) (vs:List V) (H:Hp) (Q:VK) (E:XK):Prop
 | mk:∀ (w:Str) (l:Addr) (xs:List V) (rs:List RD) (a b:Option Int),vs=[.str w,.ref l,gv a,gv b]->H l=some (.lst xs)->Rds C R H xs rs->rs.length<=900->((∀ k,k<5->w≠wd k)->E (.ref N) none H)->(∀ k,k<5->w=wd k->(qmz (gMx rs) a->∀ dx H1 H',Same H H1->New H1 H' dx (.xd [("edge",gv (gMx rs))])->E (.ref G) (some dx) H')/\(¬ qmz (gMx rs) a->∃ hs ps:List HP4,qj0 a b rs=hs.map j4/\qjs a b rs=ps.map j4/\HsOk hs/\PsOk ps/\∀ t x y H',Same H H'->H' t=some (.tup [x,y])->qp7 H' k hs ps x y->Q (.ref t) H'))->qls Cl C R N G vs H Q E
include T in
theorem qy7:∃ f fd dT o n,qf6 P w K mg base (CX1 P w) 6 f fd ["word", "rolls", "a", "b"] (qls (qli C_HowMany C_Total C_Least C_Greatest C_Mean) C_Roll C_Rule C_NoAsk C_Gone)/\FunD K "asked" "asked" qoq (.ref dT) f fd/\mg "asked" = some (.ref f)/\fd.defaults=.ref dT/\K.lookup dT=some o/\o.data=.seq #[.none,.none] n:=by
 obtain ⟨f,fd,dT,o,n,F,M,h1,h2,h3⟩:=T.f_asked;have nd:=sc_asked.nd;refine ⟨f,fd,dT,o,n,(F.okX sc_asked (λvs H Q E h=>?_) (λcdv A outer s H vs Q E hr h=>?_)),F,M,h1,h2,h3⟩
 ·obtain ⟨w,l,xs,rs,a,b,rfl,_⟩:=h;rfl
 ·obtain ⟨wo,l,xs,rs,a,b,rfl,hl,rd,ln,qN,q⟩:=h
  refine ⟨_,(jB3 (jS 4 nd (jW (qnn T) hr (jA1 (pv 0)))) (jS 5 nd (jW (qem T) hr (jA3 (pv 1) (pv 2) (pv 3)))) (qaf (qbz (qcs (pv 4) T.cl_HowMany (qe3 T) (hr.mono (by decide)) (jA2 (jF (qaz T) hr (jA1 (pv 5))) (jF (qa7 T) hr (jA1 (pv 5))))) (qbz (qcs (pv 4) T.cl_Total (qg7 T) (hr.mono (by decide)) (jA2 (jF (qaz T) hr (jA1 (pv 5))) (jF (qa7 T) hr (jA1 (pv 5))))) (qbz (qcs (pv 4) T.cl_Least (qg8 T) (hr.mono (by decide)) (jA2 (jF (qaz T) hr (jA1 (pv 5))) (jF (qa7 T) hr (jA1 (pv 5))))) (qbz (qcs (pv 4) T.cl_Greatest (qel T) (hr.mono (by decide)) (jA2 (jF (qaz T) hr (jA1 (pv 5))) (jF (qa7 T) hr (jA1 (pv 5))))) (qcs (pv 4) T.cl_Mean (qjl T) (hr.mono (by decide)) (jA2 (jF (qaz T) hr (jA1 (pv 5))) (jF (qa7 T) hr (jA1 (pv 5))))))))))),?_⟩;refine ⟨_,rfl,wo,rfl,λk hk e me dx H1 s1 hme=>?_,λz=>qN z⟩;obtain ⟨qE,q⟩:=q k hk e;have hl1:=s1 _ _ hl;have rd1:=rd.same s1;refine ⟨_,rfl,_,rfl,_,rfl,l,xs,rs,a,b,rfl,hl1,rd1,ln,λbd dx2 H2 H3 s2 n3=>qE bd dx2 H2 H3 (s1.trans s2) n3,λnb t zs H2 s2 _ ht ld=>?_⟩;obtain ⟨hs,ps,ek,ep,ok,pok,q⟩:=q nb;have lk:(qj0 a b rs).length<=900:=by rw[ek,List.length_map];have:=ok.1;omega
  have lp:(qjs a b rs).length<=900:=by rw[ep,List.length_map];have:=pok.2.1.1;omega
  refine qBm (sp:=qdc) k hk ⟨_,rfl,me,dx,_,rfl,s2 _ _ hme,rfl,_,rfl,t,zs,rs,a,b,rfl,ht,ld,ln,lk,λp1 x1 H3 s3 h3 t3=>⟨_,rfl,t,zs,rs,a,b,rfl,s3 _ _ ht,ld.same s3,ln,lp,λp2 x2 H4 s4 h4 t4=>?_⟩⟩;rw[ek] at t3;rw[ep] at t4;exact ⟨me,p1,p2,x1,x2,hs,ps,rfl,s4 _ _ h3,t3.same s4,ok,h4,t4,pok,λt x y H5 s5 h5 told=>q t x y H5 (s1.trans (s2.trans (s3.trans (s4.trans s5)))) h5 told⟩
include T in
theorem qui:qqv P w K mg base 6 "asked" ["word", "rolls", "a", "b"] [] (qls (qli C_HowMany C_Total C_Least C_Greatest C_Mean) C_Roll C_Rule C_NoAsk C_Gone):=by
 obtain ⟨f,fd,dT,o,n,hf,F,M,h1,h2,h3⟩:=qy7 (P:=P) (w:=w) (base:=base) T;refine ⟨f,fd,hf,M,F.kp,qoa h1 h2 h3 λus hl=>?_⟩;obtain ⟨oc,od,kV,doc,pm,an,cdv,ct,osl,rfl,lk,hcd⟩:=F.ex;obtain ⟨_,_,_,_,rfl⟩:=L2.lq4 (us:=us) (by simpa using hl);exact ⟨_,rfl,rfl⟩
def RdF (r:RD):Prop:=∃ (ws es:List Int) (ge:Option Int) (rs:List Rd3),r.s=qcu (qbu ws es ge) rs/\Fall ws es ge/\1<=es.length/\rs.length<=6/\∀ q∈rs,RunT q.2
theorem qDi {rs:List (Int×Int)} (h:RunsT rs):-(rs.length*10 ^ 62:Int)<=rT rs/\rT rs<=rs.length*10 ^ 62:=by
 induction rs with
 | nil=>simp[rT,qw6]
 | cons p r ih =>
  have h1:=ih λq hq=>h q (List.mem_cons_of_mem _ hq)
  have h2:=h p List.mem_cons_self;unfold RunT at h2;have m1:p.1*p.2<=10 ^ 31*p.2:=Int.mul_le_mul_of_nonneg_right (by omega) (by omega);have m2:-(10 ^ 31)*p.2<=p.1*p.2:=Int.mul_le_mul_of_nonneg_right (by omega) (by omega);rw[qe8];simp only[List.length_cons];omega
theorem qqa:∀ {ps:List HP4},PsC ps->(qjr ps).length<=3*ps.length
 | [],_=>Nat.le_refl _
 | h :: t,c=>by
  have ih:=qqa (ps:=t) λx hx=>c x (List.mem_cons_of_mem _ hx)
  have:=(WRow.of (c h List.mem_cons_self)).len;rw[qt2,List.length_append,List.length_cons];have e:(wOf h).length=(qq4 h.1 h.2.1 h.2.2.1 h.2.2.2).length:=rfl;omega
def qy8 (x:HP4):Prop:=1<=x.1/\x.1<10 ^ 42 /\ -(10 ^ 80)<x.2.1/\x.2.1<10 ^ 80/\x.2.2.1<=x.2.2.2
theorem HMade.fit {n:Nat} {x:HP4} (h:HMade n x) (hn:n<=100):qy8 x/\qhb x.1 x.2.1 x.2.2.1 x.2.2.2/\HBd x.1 x.2.2.1 x.2.2.2:=by
 obtain ⟨q,o,t,l1,l2⟩:=h.ex;have n1:=(qC7 t.ok).1;have n2:=qC8 t;have n3:=qDi t;have e1:=o.m;have e2:=o.t;exact ⟨⟨by omega,by omega,by omega,by omega,(o.can t.ok).le⟩,o.can t.ok,o.bd t.ok (by omega)⟩
def toH (r:List Int):HP4:=(r.getD 0 0,r.getD 1 0,r.getD 2 0,r.getD 3 0)
theorem quj {r:RD} (h:RdF r) (a b:Option Int):(kOf a b r).length<=6/\∀ x∈kOf a b r,∃ g:HP4,x=j4 g/\qy8 g:=by
 obtain ⟨ws,es,ge,rs,es',F,l1,l6,ok⟩:=h;have ft:=Fit.all (qbu ws es ge) rs ok;have rl:=qkj (cell:=qbu ws es ge) (rs:=rs);rw[<- es'] at ft rl;unfold kOf qtz;refine ⟨?_,λx hx=>?_⟩
 ·rw[List.length_append,List.length_map,List.length_map]
  have h1:=List.length_filter_le (kZ a b) (qbc r.s);have h2:=List.length_filter_le (kY a b) (qbh r.s);omega
 ·rcases List.mem_append.mp hx with z|z
  ·obtain ⟨y,hy,rfl⟩:=List.mem_map.mp z
   obtain ⟨k,x,e,rfl⟩:=qi3 (List.mem_filter.mp hy).1;obtain ⟨hm,t,p,w,_,_,rfl⟩:=ft.z k x e;exact ⟨x,rfl,(hm.fit (by omega)).1⟩
  ·obtain ⟨y,hy,rfl⟩:=List.mem_map.mp z
   obtain ⟨k,x,e,rfl⟩:=qt3 (List.mem_filter.mp hy).1;obtain ⟨t,v,rfl,hv,x1,x2⟩:=ft.y k x e;have x3:x<=6*10 ^ 31:=by omega
   have m1:v*x<=10 ^ 31*x:=Int.mul_le_mul_of_nonneg_right (by omega) (by omega);have m2:-(10 ^ 31)*x<=v*x:=Int.mul_le_mul_of_nonneg_right (by omega) (by omega);refine ⟨qf4 v x,rfl,?_,?_,?_,?_,Int.le_refl _⟩
   ·show 1<=x;omega
   ·show x<10 ^ 42;omega
   ·show -(10 ^ 80)<v*x;omega
   ·show v*x<10 ^ 80;omega
theorem qox {r:RD} (h:RdF r) (a b:Option Int):(pOf a b r).length<=2/\∀ x∈(pOf a b r).map (List.drop 2),∃ g:HP4,x=j4 g/\qy8 g/\qhb g.1 g.2.1 g.2.2.1 g.2.2.2/\HBd g.1 g.2.2.1 g.2.2.2:=by
 obtain ⟨ws,es,ge,rs,es',F,l1,l6,ok⟩:=h;have ft:=Fit.all (qbu ws es ge) rs ok;rw[<- es'] at ft;refine ⟨qt4 (F.whole l1) ft a b,λx hx=>?_⟩;obtain ⟨y,hy,rfl⟩:=List.mem_map.mp hx;obtain ⟨k,x,e,rfl⟩:=qi3 (List.mem_filter.mp hy).1;obtain ⟨hm,t,p,w,_,_,rfl⟩:=ft.z k x e;exact ⟨x,rfl,hm.fit (by omega)⟩
theorem quk {rs:List RD} (h:∀ r∈rs,RdF r) (ln:rs.length<=4) (a b:Option Int):∃ hs ps:List HP4,qj0 a b rs=hs.map j4/\qjs a b rs=ps.map j4/\HsOk hs/\PsOk ps/\∀ g∈hs,g.2.2.1<=g.2.2.2:=by
 have lK:∀ {rs:List RD},(∀ r∈rs,RdF r)->(qj0 a b rs).length<=6*rs.length/\(qjs a b rs).length<=2*rs.length:=by
  intro rs
  induction rs with
  | nil=>intro _;simp[qj0,qjs]
  | cons r t ih =>
   intro h;obtain ⟨i1,i2⟩:=ih λx hx=>h x (List.mem_cons_of_mem _ hx)
   have k1:=(quj (h r List.mem_cons_self) a b).1;have k2:=(qox (h r List.mem_cons_self) a b).1;have e1:qj0 a b (r :: t)=kOf a b r ++ qj0 a b t:=rfl;have e2:qjs a b (r :: t)=(pOf a b r).map (List.drop 2) ++ qjs a b t:=rfl;rw[e1,e2,List.length_append,List.length_append,List.length_map,List.length_cons];omega
 obtain ⟨l1,l2⟩:=lK h;have fK:∀ x∈qj0 a b rs,∃ g:HP4,x=j4 g/\qy8 g:=λx hx=>by
  obtain ⟨r,hr',hx⟩:=List.mem_flatMap.mp hx;exact (quj (h r hr') a b).2 x hx
 have fP:∀ x∈qjs a b rs,∃ g:HP4,x=j4 g/\qy8 g/\qhb g.1 g.2.1 g.2.2.1 g.2.2.2/\HBd g.1 g.2.2.1 g.2.2.2:=λx hx=>by
  obtain ⟨r,hr',hx⟩:=List.mem_flatMap.mp hx;exact (qox (h r hr') a b).2 x hx
 have eK:qj0 a b rs=((qj0 a b rs).map toH).map j4:=by
  rw[List.map_map]
  conv=>lhs;rw[<- List.map_id (qj0 a b rs)]
  refine List.map_congr_left λx hx=>?_
  obtain ⟨g,rfl,_⟩:=fK x hx
  rfl
 have eP:qjs a b rs=((qjs a b rs).map toH).map j4:=by
  rw[List.map_map]
  conv=>lhs;rw[<- List.map_id (qjs a b rs)]
  refine List.map_congr_left λx hx=>?_
  obtain ⟨g,rfl,_⟩:=fP x hx
  rfl
 have mK:∀ g∈(qj0 a b rs).map toH,qy8 g:=λg hg'=>by
  obtain ⟨x,hx,rfl⟩:=List.mem_map.mp hg';obtain ⟨g,rfl,f⟩:=fK x hx;exact f
 have mP:∀ g∈(qjs a b rs).map toH,qy8 g/\qhb g.1 g.2.1 g.2.2.1 g.2.2.2/\HBd g.1 g.2.2.1 g.2.2.2:=λg hg'=>by
  obtain ⟨x,hx,rfl⟩:=List.mem_map.mp hg';obtain ⟨g,rfl,f⟩:=fP x hx;exact f
 have pc:PsC ((qjs a b rs).map toH):=λg hg'=>(mP g hg').2.1
 have lw:=qqa pc;rw[List.length_map] at lw;refine ⟨_,_,eK,eP,⟨by rw[List.length_map];omega,λg hg'=>?_⟩,⟨by omega,⟨by rw[List.length_map];omega,λg hg'=>?_⟩,λg hg'=>(mP g hg').2⟩,λg hg'=>(mK g hg').2.2.2.2⟩
 ·obtain ⟨q1,q2,q3,q4,_⟩:=mK g hg'
  exact ⟨q1,q2,q3,q4⟩
 ·obtain ⟨q1,q2,q3,q4,_⟩:=(mP g hg').1
  exact ⟨q1,q2,q3,q4⟩
def qwc (cell:Int->Option (Int×Int)) (r:List Int):List Int:=match cell (r.headD 0) with
 | none=>[]
 | some p=>[p.1,p.2]
theorem qy9 {x y:V} (hx:Ed x) (hy:Ed y):gE x (gE x y)=gE x y:=by
 rcases hx with rfl|⟨i,rfl⟩<;>rcases hy with rfl|⟨j,rfl⟩<;>try rfl
 ·show V.int (if i>i then i else i)=V.int i
  split<;>rfl
 ·show V.int (if (if j>i then j else i)>i then (if j>i then j else i) else i)=V.int (if j>i then j else i)
  congr 1
  repeat' split
  all_goals omega
theorem qqb:∀ {xs ys:List V},(∀ v∈xs,Ed v)->(∀ v∈ys,Ed v)->List.zipWith gE xs (List.zipWith gE xs ys)=List.zipWith gE xs ys
 | [],ys,_,_=>by simp
 | x :: xs,[],_,_=>rfl
 | x :: xs,y :: ys,h1,h2=>by
  simp only[List.zipWith_cons_cons];rw[qy9 (h1 x List.mem_cons_self) (h2 y List.mem_cons_self),qqb (λv hv=>h1 v (List.mem_cons_of_mem _ hv)) λv hv=>h2 v (List.mem_cons_of_mem _ hv)]
theorem RR.skeys {C R:Addr} {H:Hp} {ro:Addr} {c:qay} {s:Abs} {LY LZ:List (List Int)} (h:RR C R H ro c s LY LZ):∃ my mz,SKeys s.y my/\SKeys s.z mz/\(∀ k∈my,k.length=2)/\∀ k∈mz,k.length=2:=by
 obtain ⟨Y,Z,A,B⟩:=h;obtain ⟨ks,dk,_⟩:=B.yk;obtain ⟨js,dj,_⟩:=B.zk;have hy:∀ k,k∈ks↔s.y k≠none:=λk=>by rw[dk.mem,B.yv];cases s.y k<;>simp
 have hz:∀ k,k∈js↔s.z k≠none:=λk=>by rw[dj.mem];exact qxe B k
 obtain ⟨my,sy,_⟩:=qht dk.nd hy;obtain ⟨mz,sz,_⟩:=qht dj.nd hz;exact ⟨my,mz,sy,sz,λk hk=>dk.ne k ((hy k).mpr ((sy.mem k).mp hk)),λk hk=>dj.ne k ((hz k).mpr ((sz.mem k).mp hk))⟩
def TagL (s:Abs) (T:List (List Int)):Prop:=(∀ k,s.y k≠none->(0 :: k)∈T)/\∀ k,s.z k≠none->(1 :: k)∈T
theorem TagL.of {cell:Int->Option (Int×Int)} {s:Abs} {rs:List Rd3} (h:Tags cell s rs):TagL s (rs.map (quq cell)):=
 ⟨λk hk=>let ⟨r,hr,e⟩:=h.1 k hk;List.mem_map.mpr ⟨r,hr,e⟩,λk hk=>let ⟨r,hr,e⟩:=h.2 k hk;List.mem_map.mpr ⟨r,hr,e⟩⟩
theorem qwd {s:Abs} {T:List (List Int)} {my mz:List (List Int)} (tg:TagL s T) (hy:SKeys s.y my) (hz:SKeys s.z mz):my.length+mz.length<=T.length:=by
 have nd:(my.map (λk=>(0:Int) :: k) ++ mz.map (λk=>(1:Int) :: k)).Nodup:=by
  rw[List.nodup_append];refine ⟨?_,?_,λa ha b hb e=>?_⟩
  ·rw[List.nodup_iff_pairwise_ne,List.pairwise_map];exact hy.nd.imp λhne e=>hne (by injection e)
  ·rw[List.nodup_iff_pairwise_ne,List.pairwise_map];exact hz.nd.imp λhne e=>hne (by injection e)
  ·obtain ⟨k,_,rfl⟩:=List.mem_map.mp ha
   obtain ⟨l,_,rfl⟩:=List.mem_map.mp hb;injection e with e _
   omega
 have sub:(my.map (λk=>(0:Int) :: k) ++ mz.map (λk=>(1:Int) :: k)) ⊆ T:=λx hx=>by
  rcases List.mem_append.mp hx with h|h
  ·obtain ⟨k,hk,rfl⟩:=List.mem_map.mp h
   exact tg.1 k ((hy.mem k).mp hk)
  ·obtain ⟨k,hk,rfl⟩:=List.mem_map.mp h
   exact tg.2 k ((hz.mem k).mp hk)
 have:=List.Nodup.length_le_of_subset nd sub
 simpa using this
theorem qza {cell:Int->Option (Int×Int)} {s:Abs} {my mz:List (List Int)} {B N:Int} (h:AbsB B N s) (hB:B<10 ^ 46) (hN:N<10 ^ 45) (sy:SKeys s.y my) (sz:SKeys s.z mz):qps cell my (my.map (qwc cell) ++ mz.map (qwc cell)) (qbh s) (qbc s):=by
 refine ⟨λr hr=>?_,λr hr=>?_⟩
 ·rw[<- qcv sy] at hr
  obtain ⟨k,hk,rfl⟩:=List.mem_map.mp hr
  cases e:s.y k with
  | none=>exact absurd e ((sy.mem k).mp hk)
  | some n =>
   obtain ⟨t,v,rfl,h1,h2,h3,h4⟩:=h.y k n e;refine ⟨t,v,n,by unfold qmv;rw[e];rfl,⟨by unfold qvt;dsimp only;omega,by unfold qvw;dsimp only;omega⟩,hk,λa w ec=>List.mem_append_left _ (List.mem_map.mpr ⟨_,hk,?_⟩)⟩;unfold qwc;dsimp only [List.headD];rw[ec]
 ·rw[<- qcw sz] at hr
  obtain ⟨k,hk,rfl⟩:=List.mem_map.mp hr
  cases e:s.z k with
  | none=>exact absurd e ((sz.mem k).mp hk)
  | some x =>
   obtain ⟨a,w,rfl,h1,h2⟩:=h.z k x e;refine ⟨a,w,x.1,x.2.1,x.2.2.1,x.2.2.2,by unfold qjv i4;rw[e];rfl,by unfold qvt;omega,λb w' ec=>List.mem_append_right _ (List.mem_map.mpr ⟨_,hk,?_⟩)⟩;unfold qwc;dsimp only [List.headD];rw[ec]
theorem qzb {x y z:V} (hx:Ed x) (hy:Ed y) (hz:Ed z):gE x (gE y z)=gE y (gE x z):=by
 rcases hx with rfl|⟨i,rfl⟩<;>rcases hy with rfl|⟨j,rfl⟩<;>rcases hz with rfl|⟨k,rfl⟩<;>first
  | rfl
  | exact qtj (.inr ⟨_,rfl⟩) (.inr ⟨_,rfl⟩)
  | (show V.int (if (if k>j then k else j)>i then (if k>j then k else j) else i)=V.int (if (if k>i then k else i)>j then (if k>i then k else i) else j);congr 1;(repeat' split)<;>omega)
theorem qqc:∀ {xs ys zs:List V},(∀ v∈xs,Ed v)->(∀ v∈ys,Ed v)->(∀ v∈zs,Ed v)->List.zipWith gE xs (List.zipWith gE ys zs)=List.zipWith gE ys (List.zipWith gE xs zs)
 | [],ys,zs,_,_,_=>by cases ys<;>cases zs<;>rfl
 | _ :: _,[],zs,_,_,_=>by cases zs<;>rfl
 | _ :: _,_ :: _,[],_,_,_=>rfl
 | x :: xs,y :: ys,z :: zs,hx,hy,hz=>by
  simp only[List.zipWith_cons_cons];rw[qzb (hx x List.mem_cons_self) (hy y List.mem_cons_self) (hz z List.mem_cons_self),qqc (λv hv=>hx v (List.mem_cons_of_mem _ hv)) (λv hv=>hy v (List.mem_cons_of_mem _ hv)) λv hv=>hz v (List.mem_cons_of_mem _ hv)]
theorem qzc {x:V} (hx:Ed x):gE x x=x:=by
 rcases hx with rfl|⟨i,rfl⟩
 ·rfl
 ·show V.int (if i>i then i else i)=V.int i
  split<;>rfl
theorem qqd:∀ {xs:List V},(∀ v∈xs,Ed v)->List.zipWith gE xs xs=xs
 | [],_=>rfl
 | x :: xs,h=>by
  rw[List.zipWith_cons_cons,qzc (h x List.mem_cons_self),qqd λv hv=>h v (List.mem_cons_of_mem _ hv)]
theorem qzd {a b:List Int} (g1 g2:Option Int) (h:a.length=b.length):Later b (List.zipWith mx a b) g2 (qol g1 g2) where
 len:=by rw[List.length_zipWith];omega
 up:=λi x y hx hy=>by
  obtain ⟨u,v,hu,hv,rfl⟩:=qv0 hy;rw[hx] at hv;cases hv;exact (qBd u x).2.1
 gn:=λz hz=>by
  subst hz
  cases g1 with
  | none=>exact ⟨z,rfl,Int.le_refl _⟩
  | some j=>exact ⟨mx j z,rfl,(qBd j z).2.1⟩
theorem RR.mono {C R:Addr} {H:Hp} {ro:Addr} {c:qay} {s:Abs} {LY LZ LY' LZ':List (List Int)} (h:RR C R H ro c s LY LZ) (a:LY ⊆ LY') (b:LZ ⊆ LZ'):RR C R H ro c s LY' LZ':=
 let ⟨Y,Z,A,B⟩:=h;⟨Y,Z,A,B.mono a b⟩
def RT5 (r:Rd3):Prop:=T5 r.1/\RunT r.2
theorem RT5.lt {r:Rd3} (h:RT5 r):RLt r:=by
 obtain ⟨h1,h2⟩:=h;unfold T5 at h1;have h2:(-(10 ^ 31)<r.2.1/\r.2.1<10 ^ 31)/\1<=r.2.2/\r.2.2<10 ^ 31:=h2;exact ⟨h1,by omega,h2.2.1,by omega⟩
structure R46 (C R:Addr) (H:Hp) (r:Addr) (q:qay) (ps:List (Int×Int)) (g:Option Int) (d:Int) (es:List Int) (ge:Option Int) (rs:List Rd3) (LY LZ:List (List Int)):Prop where
 R:RR C R H r q (qcu (qbu (ps.map (·.2)) es ge) rs) LY LZ
 ok:qgr q
 qp:q.ps=ps
 qg:q.g=g
 qd:q.day=d
 qe:q.es=es
 qh:q.ge=ge
 P:Pr ps g
 wb:∀ p∈ps,p.2<=10 ^ 35
 E:EdS (es.map V.int ++ [gv ge]) es ge
 F:Fall (ps.map (·.2)) es ge
 dom:List.zipWith gE (eV ps g d) (es.map V.int ++ [gv ge])=es.map V.int ++ [gv ge]
 hd:Bd d
 hr:∀ r∈rs,RT5 r
 ly:LY.length<=rs.length
 lz:LZ.length<=rs.length
structure qDj (ps:List (Int×Int)) (g:Option Int) (D:Int) (EV:List V) (es:List Int) (ge:Option Int) (fs:List Int) (fg:Option Int):Prop where
 Ef:EdS (List.zipWith gE (eV ps g D) EV) fs fg
 F:Fall (ps.map (·.2)) fs fg
 L:Later es fs ge fg
 eq:List.zipWith gE (eV ps g D) EV=fs.map V.int ++ [gv fg]
 dom:List.zipWith gE (eV ps g D) (fs.map V.int ++ [gv fg])=fs.map V.int ++ [gv fg]
 E:EdS (fs.map V.int ++ [gv fg]) fs fg
theorem qEw {ps:List (Int×Int)} {g:Option Int} (P:Pr ps g) {D:Int} (hD:Bd D) {es:List Int} {ge:Option Int} {EV:List V} (E:EdS EV es ge) (F:Fall (ps.map (·.2)) es ge):∃ fs fg,qDj ps g D EV es ge fs fg:=by
 have l1:(ps.map λp=>cut D p.1 p.2).length=es.length:=by have:=F.len;rw[List.length_map] at this ⊢;exact this
 have M:=(EdS.of P hD).max E l1;have M':=M;rw[M.eq] at M';refine ⟨_,_,M,(Fall.of P D).max F,qzd _ _ l1,M.eq,?_,M'⟩;rw[<- M.eq];exact qqb (EdS.of P hD).ed E.ed
section
variable {C R N:Addr} {H H':Hp} {r ru rl:Addr} {q:qay} {ps ps2:List (Int×Int)} {g g2:Option Int} {d D:Int} {es fs:List Int} {ge fg:Option Int} {rs:List Rd3} {LY LZ:List (List Int)} {Q:VK} {E:XK}
theorem R46.same (e:Same H H') (h:R46 C R H r q ps g d es ge rs LY LZ):R46 C R H' r q ps g d es ge rs LY LZ:={ h with R:=h.R.same e }
theorem R46.cellD (h:R46 C R H r q ps g d es ge rs LY LZ):TB.cellD q=qbu (ps.map (·.2)) es ge:=by unfold TB.cellD;rw[h.qp,h.qe,h.qh]
theorem R46.eq (h:R46 C R H r q ps g d es ge rs LY LZ):q.es.map V.int ++ [gv q.ge]=es.map V.int ++ [gv ge]:=by rw[h.qe,h.qh]
theorem R46.len (h:R46 C R H r q ps g d es ge rs LY LZ):1<=es.length:=by have:=h.F.len;have:=h.P.good.lo;rw[List.length_map] at *;omega
theorem R46.take (h:R46 C R H r q ps g d es ge rs LY LZ) (h50:rs.length<=50) (cell':Int->Option (Int×Int)) :
  ∃ LY' LZ',LY'.length<=rs.length/\LZ'.length<=rs.length/\qps cell' LY' LZ' (qbh (qcu (qbu (ps.map (·.2)) es ge) rs)) (qbc (qcu (qbu (ps.map (·.2)) es ge) rs)):=by
 obtain ⟨my,mz,sy,sz,h2,hz2⟩:=h.R.skeys;have nr:qB0 (10 ^ 36) (qbu (ps.map (·.2)) es ge):=qtt (by rw[List.length_map];exact h.P.good.lo) h.len (by decide) λw hw=>by
  obtain ⟨p,hp,rfl⟩:=List.mem_map.mp hw;obtain ⟨i,hi,e⟩:=List.getElem_of_mem hp;have:=h.wb p hp;exact ⟨(h.P.good.each i p (by rw[<- e];exact List.getElem?_eq_getElem hi)).2,by omega⟩
 have hab:=qtv nr rs (s:=qq7) (N:=0) qDa (by omega) λr hr=>(h.hr r hr).lt
 have hN:0+10 ^ 31*(rs.length:Int)<=10 ^ 33:=by omega
 have hab':AbsB (5*10 ^ 45+10 ^ 36) (10 ^ 33) (qcu (qbu (ps.map (·.2)) es ge) rs):=⟨λk n e=>by obtain ⟨t,v,e1,e2,e3,e4,e5⟩:=hab.y k n e;exact ⟨t,v,e1,e2,e3,e4,by omega⟩,hab.z⟩;have cnt:=qwd (TagL.of (qtu (qbu (ps.map (·.2)) es ge) rs)) sy sz;rw[List.length_map] at cnt;have tk:=qza (cell:=cell') hab' (by omega) (by omega) sy sz;exact ⟨_,_,by omega,by rw[List.length_append,List.length_map,List.length_map];omega,tk⟩
theorem R46.under (h:R46 C R H r q ps g d es ge rs LY LZ) (h50:rs.length<=50) (Ru:RuleAt R H ru rl ps2 g2) (P2:Pr ps2 g2) (hw:ps2.map (·.2)=ps.map (·.2)) (U:qDj ps2 g2 d (es.map V.int ++ [gv ge]) es ge fs fg) (k:∀ r' q' LY' LZ' H',Same H H'->R46 C R H' r' q' ps2 g2 d fs fg rs LY' LZ'->(H q'.dy=none/\H q'.dh=none)->(q'.ru=ru/\q'.rl=rl/\H q'.le=none)->Q (.ref r') H'):qgh C R N [.ref r,.ref ru] H Q E:=by
 have l1:=h.ly;have l2:=h.lz;obtain ⟨LY',LZ',l3,l4,tk⟩:=h.take h50 (qbu (ps2.map (·.2)) fs fg);have ew:q.ps.map (·.2)=ps2.map (·.2):=by rw[h.qp,hw]
 have wb2:∀ p∈ps2,p.2<=10 ^ 35:=λp hp=>by
  have:p.2∈ps.map (·.2):=by rw[<- hw];exact List.mem_map.mpr ⟨p,hp,rfl⟩
  obtain ⟨p',hp',e⟩:=List.mem_map.mp this;rw[<- e];exact h.wb p' hp'
 refine ⟨r,ru,rl,q,_,LY,LZ,ps2,g2,rfl,h.R,h.ok,by rw[h.eq,h.qe,h.qh];exact h.E,Ru,P2,by rw[h.qd];exact h.hd,by omega,by omega,λz=>absurd ew z,λ_=>⟨fs,fg,LY',LZ',by rw[h.qd,h.eq];exact U.Ef,by omega,by omega,tk,λr' c' H' e1 e2 e3 e4 e5 ok' R' s f f2=>?_⟩⟩;have F0:=h.F;rw[<- hw] at F0;have hT:=qy0 (qt7 F0 U.F U.L h.len) rs;rw[<- hw,hT] at R';exact k r' c' LY' LZ' H' s ⟨R',ok',e1,e2,by rw[e3,h.qd],e4,e5,P2,wb2,U.E,U.F,U.dom,h.hd,h.hr,l3,l4⟩ f f2
theorem R46.new {ro le dy dh:Addr} (P:Pr ps g) (wb:∀ p∈ps,p.2<=10 ^ 35) (hd:Bd d) (A:RollAt C R H' ro (qA8 ru rl le dy dh ps g d)):R46 C R H' ro (qA8 ru rl le dy dh ps g d) ps g d (ps.map λp=>cut d p.1 p.2) (g.map λz=>cut d z (TB.lw ps)) [] [] []:=by
 have Ex:=EdS.of P hd;have Ex':=Ex;rw[Ex.eq] at Ex';refine ⟨⟨[],[],A,RAbs.zero rfl rfl⟩,⟨P,by show (ps.map _).length=ps.length;rw[List.length_map]⟩,rfl,rfl,rfl,rfl,rfl,P,wb,Ex',Fall.of P d,?_,hd,(by intro r h;cases h),Nat.le_refl _,Nat.le_refl _⟩;rw[<- Ex.eq];exact qqd Ex.ed
theorem R46.put {t:Rd3} (h:R46 C R H r q ps g d es ge rs LY LZ) (h50:rs.length<50) (ht:RT5 t) (k:∀ H',R46 C R H' r q ps g d es ge (rs ++ [t]) ([t.1,t.2.1] :: LY) (qC9 (qbu (ps.map (·.2)) es ge) t :: LZ)->But2 q.dy q.dh H H'->Q (.bl (qbu (ps.map (·.2)) es ge t.1).isSome) H'):qfn C R [.ref r,.int t.1,.int t.2.1,.int t.2.2] H Q E:=by
 have l1:=h.ly;have l2:=h.lz;have ht':=ht;obtain ⟨t1,t2⟩:=ht;unfold T5 at t1;have t2:(-(10 ^ 31)<t.2.1/\t.2.1<10 ^ 31)/\1<=t.2.2/\t.2.2<10 ^ 31:=t2;have ec:=h.cellD;refine (h.R.mono (List.subset_cons_self [t.1,t.2.1] _) (List.subset_cons_self (qC9 (qbu (ps.map (·.2)) es ge) t) _)).put h.ok (by unfold qvt;omega) t2.2.1 (by unfold qvw;dsimp only;omega) (by rw[List.length_cons];omega) (by rw[List.length_cons];omega) List.mem_cons_self (λa w e=>by rw[ec] at e;unfold qC9;rw[e];exact List.mem_cons_self) λH3 R3 b3=>?_
 rw[ec] at R3 ⊢;refine k H3 { h with R:=?_,hr:=λr hr=>(List.mem_append.mp hr).elim (h.hr r) λz=>by rw[List.mem_singleton.mp z];exact ht',ly:=by rw[List.length_cons,List.length_append,List.length_singleton];omega,lz:=by rw[List.length_cons,List.length_append,List.length_singleton];omega } b3;rw[qgd];exact R3
theorem But2.same {a b:Addr} {H0:Hp} (h:But2 a b H H') (s:Same H0 H) (ha:H0 a=none) (hb:H0 b=none):Same H0 H':=λx o e=>h x o (s x o e) (qai e ha) (qai e hb)
end
theorem R46.rd {C R:Addr} {H:Hp} {r:Addr} {q:qay} {ps:List (Int×Int)} {g:Option Int} {d:Int} {es:List Int} {ge:Option Int} {rs:List Rd3} {LY LZ:List (List Int)} (h:R46 C R H r q ps g d es ge rs LY LZ) (h50:rs.length<=50):qBo C R H (.ref r) ⟨r,q,qcu (qbu (ps.map (·.2)) es ge) rs,LY,LZ,rs.length⟩:=by
 have l1:=h.ly;have l2:=h.lz;refine ⟨rfl,h.R,by show LY.length<64;omega,by show LZ.length<64;omega,AOk.all (λt a w e=>?_) rs (λr hr=>(h.hr r hr).2.ok),by show rs.length<=1000;omega⟩;unfold qbu at e
 split at e
 ·rename_i hx
  have hc:=hx.choose_spec;rw[e] at hc
  rcases CellOf.some_ hc h.len (λw' hw'=>h.P.w1 hw') with z|z
  ·cases z;exact .inl rfl
  ·exact .inr z
 ·cases e
theorem R46.rdf {C R:Addr} {H:Hp} {r:Addr} {q:qay} {ps:List (Int×Int)} {g:Option Int} {d:Int} {es:List Int} {ge:Option Int} {rs:List Rd3} {LY LZ:List (List Int)} (h:R46 C R H r q ps g d es ge rs LY LZ) (h6:rs.length<=6):RdF ⟨r,q,qcu (qbu (ps.map (·.2)) es ge) rs,LY,LZ,rs.length⟩:=
 ⟨_,es,ge,rs,rfl,h.F,h.len,h6,λq hq=>(h.hr q hq).2⟩
theorem RR.butL {C R:Addr} {H H':Hp} {ro:Addr} {c:qay} {s:Abs} {LY LZ:List (List Int)} {l:Addr} {ys:List V} (h:RR C R H ro c s LY LZ) (b:But l H H') (hl:H l=some (.lst ys)) (n1:c.rl≠l) (n2:c.le≠l):RR C R H' ro c s LY LZ:=by
 obtain ⟨Y,Z,A,B⟩:=h;obtain ⟨dx,e1⟩:=A.ob;obtain ⟨dx2,e2⟩:=A.rule.ob;refine ⟨Y,Z,⟨⟨dx,b _ _ e1 (qbe e1 hl (by intro z;cases z))⟩,A.rule.but b hl qth (qbe e2 hl (by intro z;cases z)) n1,b _ _ A.ed n2,b _ _ A.yo (qbe A.yo hl (by intro z;cases z)),b _ _ A.he (qbe A.he hl (by intro z;cases z)),A.ne⟩,B.tups (b.tup hl qth)⟩
def Apart (l:Addr) (rs:List RD):Prop:=∀ r∈rs,r.c.rl≠l/\r.c.le≠l
theorem Rds.butL {C R:Addr} {H H':Hp} {l:Addr} {ys:List V} (b:But l H H') (hl:H l=some (.lst ys)):∀ {xs:List V} {rs:List RD},Rds C R H xs rs->Apart l rs->Rds C R H' xs rs
 | _,_,.nil,_=>.nil
 | _,_,.cons ⟨e,h,r⟩ t,a=>.cons ⟨e,h.butL b hl (a _ List.mem_cons_self).1 (a _ List.mem_cons_self).2,r⟩ (Rds.butL b hl t λr hr=>a r (List.mem_cons_of_mem _ hr))
theorem qqe {ps:List (Int×Int)} {g:Option Int} (D:qv1 ps g) {ms:List Int} (hl:ms.length=ps.length) (hs:ms.Pairwise (· <= ·)) (hb:∀ m∈ms,0<=m/\m<=10 ^ 16) {g2:Option Int} (hg:∀ z m,g2=some z->ms[ms.length-1]?=some m->m<=z/\z<=10 ^ 17):Pr (ms.zip (ps.map (·.2))) g2/\(ms.zip (ps.map (·.2))).map (·.2)=ps.map (·.2):=by
 have P:=D.pr;have lz:(ms.zip (ps.map (·.2))).length=ps.length:=by rw[List.length_zip,List.length_map];omega
 have gt:∀ (i:Nat) z,(ms.zip (ps.map (·.2)))[i]?=some z->ms[i]?=some z.1/\∃ p,ps[i]?=some p/\p.2=z.2:=λi z h=>by
  obtain ⟨h1,h2⟩:=List.getElem?_zip_eq_some.mp h;rw[List.getElem?_map] at h2;obtain ⟨p,hp,e⟩:=Option.map_eq_some_iff.mp h2;exact ⟨h1,p,hp,e⟩
 have lo:=P.good.lo;obtain ⟨ml,hml⟩:∃ ml,ms[ms.length-1]?=some ml:=⟨_,List.getElem?_eq_getElem (by omega)⟩;have bl:=hb ml (List.mem_of_getElem? hml);refine ⟨⟨⟨by omega,by rw[lz];exact P.good.hi,λi z h=>?_,λi z w h h'=>?_⟩,λi z h=>?_,λz h y hy=>?_,λz hz=>?_⟩,List.map_snd_zip (by rw[List.length_map];omega)⟩
 ·obtain ⟨h1,p,hp,e⟩:=gt i z h
  rw[<- e];exact ⟨(hb _ (List.mem_of_getElem? h1)).1,(P.good.each i p hp).2⟩
 ·obtain ⟨h1,p,hp,e⟩:=gt i z h
  obtain ⟨h1',p',hp',e'⟩:=gt (i+1) w h';rw[<- e,<- e'];obtain ⟨a1,b1⟩:=List.getElem?_eq_some_iff.mp h1;obtain ⟨a2,b2⟩:=List.getElem?_eq_some_iff.mp h1';refine ⟨?_,(P.good.next i p p' hp hp').2⟩;rw[<- b1,<- b2];exact List.pairwise_iff_getElem.mp hs i (i+1) a1 a2 (by omega)
 ·obtain ⟨h1,p,hp,e⟩:=gt i z h
  have:=hb _ (List.mem_of_getElem? h1);have hsz:=P.size i p hp;rw[<- e];exact ⟨by omega,by omega,hsz.2.2⟩
 ·rw[lz,<- hl] at h
  exact (hg y z.1 hy (gt _ z h).1).1
 ·have:=hg z ml hz hml
  omega
inductive qkx (vs:List V) (H:Hp) (Q:VK) (E_:XK):Prop
 | mk:∀ (t l:Addr) (xs:List V) (ps:List (Int×Int)) (g:Option Int) (c:Int),vs=[.ref t,.int c]->H t=some (.tup [.ref l,gv g])->H l=some (.lst xs)->Pairs H xs ps->qv1 ps g->(∀ t2 l2 xs2 ps2 g2 H',Same H H'->H' t2=some (.tup [.ref l2,gv g2])->H' l2=some (.lst xs2)->Pairs H' xs2 ps2->Pr ps2 g2->ps2.map (·.2)=ps.map (·.2)->Q (.ref t2) H')->qkx vs H Q E_
include T in
theorem qnt:qaw P w K mg base 2 "_law_other" ["_law_rule_here", "_law_cell_here"] qkx:=by
 obtain ⟨f,fd,F,hm⟩:=T.f__law_other;have nd:=sc__law_other.nd;refine F.def_ hm (F.ok sc__law_other (λvs H Q E h=>?_) (λcdv A outer s H vs Q E hr h=>?_)) (F.binds λ_ _ _ _ _ _ us hl=>by obtain ⟨_,_,rfl⟩:=L2.lq2 hl;rfl)
 ·obtain ⟨t,l,xs,ps,g,c,rfl,_⟩:=h;rfl
 ·obtain ⟨t,l,xs,ps,g,c,rfl,ht,hl,hx,D,q⟩:=h
  have P:=D.pr;obtain ⟨p,hp,ep⟩:=P.last;obtain ⟨v,hv,a,rfl,ha⟩:=hx.get' hp;have hlen:=hx.length;have h5:=P.good.hi;have lo:=P.good.lo;have hb:=D.each _ p hp;have hs:=P.size _ p hp;have hat:atI xs (-1)=some (.ref a):=qes (by rw[hlen];exact hv);refine ⟨_,(jB4 (jS 2 nd (qag qoe rfl T.b_sorted qfk (jA1 (qdi (vars:=[ "_law_x" ]) (frees:=[ "_law_rule_here" ]) (fv:=[0]) rfl (jL1 rfl) ⟨⟨rfl,.inl rfl,rfl,.inl rfl⟩,trivial⟩ (qap (jF (qbm T) hr (jA2 (pv 1) (qag qal rfl T.b_len qbn (jA1 (jT (pv 0) qaa)))))) (qbp (by decide)) (λ_ _ _ _=>(jM 0 [ "_law_x", "_law_rule_here" ])) (λ_ _ _ _=>qa3) (λ_ _ _ _=>(qae qaq (pv 0) (qae qa1 (qcm (show IxR _ (qhk K) from qbi) (qcm (show IxR _ (qCh K) from qsb) (qcm (show IxR _ (qhk K) from qbi) (pv 1) qaa (λ_ _=>rfl)) (qe4 qcz qaa) (λ_ _=>rfl)) qaa (λ_ _=>rfl)) qaa))))))) (qct (i:=3) (vars:=[ "_law_age", "_law_step" ]) (frees:=[]) (fv:=[]) nd rfl (Or.inl rfl) rfl (jL0 rfl) trivial (qib rfl T.b_zip (jA2 (pv 2) (jT (pv 0) qaa))) (qcb (by decide) (by decide)) (λ_ _ _ _=>(jG2 (jM 0 [ "_law_age", "_law_step" ]) (jM 1 [ "_law_age", "_law_step" ]))) (λ_ _ _ _=>qa3) (λ_ _ _ _=>(qao (jA2 (pv 0) (qcm (show IxR _ (qhk K) from qbi) (pv 1) qaa (λ_ _=>rfl)))))) (qav (jC qb0 (qae qaq (pv 1) qaa) qaa) (qac (qaf (qao (jA2 (pv 3) qau)))) qam) (qaf (qao (jA2 (pv 3) (qae qa1 (jT (jI (pv 3) (qe4 qcz qaa)) qaa) (qae qaq (pv 1) qaa)))))),?_⟩
  walk_at "r";intro ls ys H1 n1 hy hyb
  refine ⟨ls,rfl,⟨_,SqL.of n1.at_⟩,qa9 (xs:=ys.map V.int) (λi zs H2=>Same H1 H2/\zs=((ys.take i).map λx=>x % (p.1+50)).map V.int) (Nat.le_of_lt (qah (by rw[List.length_map];omega))) ⟨Same.refl _,rfl⟩ (λi zs H2 h2=>⟨SqL.of (h2.1 _ _ n1.at_),by rw[h2.2];simp;omega⟩) ?_ ?_⟩
  ·rintro i x zs H2 hi ⟨s2,rfl⟩
   rw[List.getElem?_map] at hi;obtain ⟨m,hm,rfl⟩:=Option.map_eq_some_iff.mp hi;have s12:=n1.same.trans s2;have ht2:=s12 _ _ ht;have hl2:=s12 _ _ hl;have ha2:=s12 _ _ ha;refine qb8 (qo5 (qd2 ?_))
   walk_at "r"
   rw[qbq ys i m hm,List.map_append,List.map_append];rfl
  rintro zs H2 lz H3 ⟨s2,rfl⟩ n3;rw[List.length_map,List.take_length] at n3;have hyl:((ys.map λx=>x % (p.1+50))).length=xs.length:=by rw[List.length_map,hy]
  refine ⟨lz,_,rfl,SqL.of n3.at_,by omega,λms lm H4 pm so n4=>?_⟩;have hml:ms.length=ps.length:=by rw[pm.length_eq,hyl,hlen]
  have mb:∀ m∈ms,0<=m/\m<=10 ^ 16:=λm hm=>by
   obtain ⟨x,_,rfl⟩:=List.mem_map.mp (pm.mem_iff.mp hm);have:=Int.emod_nonneg x (show p.1+50≠0 by omega);have:=Int.emod_lt_of_pos x (show 0<p.1+50 by omega);omega
  have s14:=s2.trans (n3.same.trans n4.same);have s04:=n1.same.trans s14;have ht4:=s04 _ _ ht;have hl4:=s04 _ _ hl;have hx4:=hx.same s04;have hm4:=n4.at_;clear n1 n3 n4 s14 pm
  walk_at "r"
  refine ⟨lm,l,ms.map V.int,xs,rfl,SqL.of hm4,SqL.of hl4,qti (xs:=ms.map V.int) (λi zs H5=>Same H4 H5/\Pairs H5 zs ((ms.zip (ps.map (·.2))).take i)) (Nat.le_of_lt (qah (by rw[List.length_map];omega))) ⟨Same.refl _,.nil⟩ (λi zs H5 h5=>⟨SqL.of (h5.1 _ _ hm4),SqL.of (h5.1 _ _ hl4),by rw[h5.2.length,List.length_take];omega⟩) ?_ ?_⟩
  ·rintro i x y zs H5 pa H6 hxi hyi n6 ⟨s5,tz⟩
   rw[List.getElem?_map] at hxi;obtain ⟨m,hm,rfl⟩:=Option.map_eq_some_iff.mp hxi;obtain ⟨pi,hpi,b,rfl,hb'⟩:=hx4.get hyi;have s6:=s5.trans n6.same;have hb6:=s6 _ _ hb';refine ⟨pa,_,rfl,SqT.of n6.at_,rfl,_,_,rfl,_,_,rfl,rfl,qo5 (qd2 ?_)⟩
   walk_at "r";intro t7 H7 n7
   refine ⟨s6.trans n7.same,?_⟩;have hzi:(ms.zip (ps.map (·.2)))[i]?=some (m,pi.2):=List.getElem?_zip_eq_some.mpr ⟨hm,by rw[List.getElem?_map,hpi];rfl⟩;rw[qbq _ i _ hzi];exact Pairs.snoc ⟨t7,rfl,n7.at_⟩ ((tz.same n6.same).same n7.same)
  rintro i zs H5 l2 H6 hi ⟨s5,tz⟩ n6;have hzl:(ms.zip (ps.map (·.2))).length=ps.length:=by rw[List.length_zip,List.length_map];omega
  rw[List.take_of_length_le (by rw[hzl,hi,List.length_map];omega)] at tz;have s06:=s04.trans (s5.trans n6.same);have t6:=tz.same n6.same;have h26:=n6.at_;obtain ⟨ml,hml'⟩:∃ ml,ms[ms.length-1]?=some ml:=⟨_,List.getElem?_eq_getElem (by omega)⟩;have bl:=mb ml (List.mem_of_getElem? hml');clear n6 s5 tz s04 hx4 hl4 ht4 hm4
  walk_at "r"
  refine qcj (λz=>?_) λz=>?_
  ·walk_at "r";intro t7 H7 n7
   obtain ⟨P2,w2⟩:=qqe D hml so mb (g2:=none) λz m e=>by cases e
   exact q t7 l2 zs _ none H7 (s06.trans n7.same) n7.at_ (n7.same _ _ h26) (t6.same n7.same) P2 w2
  ·have hw:∃ w,(ms.zip (ps.map (·.2)))[(ms.zip (ps.map (·.2))).length-1]?=some (ml,w):=by
    rw[hzl,<- hml];have hi:ms.length-1<(ps.map (·.2)).length:=by rw[List.length_map];omega
    exact ⟨(ps.map (·.2))[ms.length-1],List.getElem?_zip_eq_some.mpr ⟨hml',List.getElem?_eq_getElem hi⟩⟩
   obtain ⟨w,hw⟩:=hw;obtain ⟨u,hu,b,rfl,hb'⟩:=t6.get' hw;have hat2:atI zs (-1)=some (.ref b):=qes (by rw[t6.length];exact hu)
   walk_at "r";intro t7 H7 n7
   obtain ⟨P2,w2⟩:=qqe D hml so mb (g2:=some (ml+c % 90)) λz m e hm=>by cases e;rw[hml'] at hm;cases hm;omega
   exact q t7 l2 zs _ (some (ml+c % 90)) H7 (s06.trans n7.same) n7.at_ (n7.same _ _ h26) (t6.same n7.same) P2 w2
include T in
theorem qj1:qaw P w K mg base 1 "_law_greater" ["_law_one", "_law_other_here"] qip:=by
 obtain ⟨f,fd,F,hm⟩:=T.f__law_greater;have nd:=sc__law_greater.nd;refine F.def_ hm (F.ok sc__law_greater (λvs H Q E h=>?_) (λcdv A outer s H vs Q E hr h=>?_)) (F.binds λ_ _ _ _ _ _ us hl=>by obtain ⟨_,_,rfl⟩:=L2.lq2 hl;rfl)
 ·obtain ⟨a,b,xs,ys,rfl,_⟩:=h;rfl
 ·obtain ⟨a,b,xs,ys,rfl,ha,hb,hx,hy,hxy,hz,q⟩:=h
  have hzl:(List.zipWith gE xs ys).length=xs.length:=by rw[List.length_zipWith];omega
  refine ⟨_,(jB3 (jS 2 nd (qax qc6)) (qb7 PassesOwn.never rfl (qib rfl T.b_zip (jA2 (pv 0) (pv 1))) (jG2 (jN 3 nd) (jN 4 nd)) (qac (qav (jC qc0 (pv 3) qau) (qac (qa0 (qf8 PySem.F.plainAttrs_list PySem.F.slot_list_append PySem.F.type_list_append qby (pv 2) (jA1 (pv 4))))) (qac (qav (jC qc0 (pv 4) qau) (qac (qa0 (qf8 PySem.F.plainAttrs_list PySem.F.slot_list_append PySem.F.type_list_append qby (pv 2) (jA1 (pv 3))))) (qac (qa0 (qf8 PySem.F.plainAttrs_list PySem.F.slot_list_append PySem.F.type_list_append qby (pv 2) (jA1 (qag (qdh rfl) rfl T.b_max qfj (jA2 (pv 3) (pv 4)))))))))))) (qaf (pv 2))),?_⟩
  walk_at "r";intro l H1 n1;walk_at "r"
  refine ⟨a,b,xs,ys,rfl,SqL.of (n1.same _ _ ha),SqL.of (n1.same _ _ hb),qhm (xs:=xs) (λi σ H2=>Same H H2/\∃ v3 v4,H2 l=some (.lst ((List.zipWith gE xs ys).take i))/\σ=[some (.ref a),some (.ref b),some (.ref l),v3,v4]) ⟨n1.same,none,none,n1.at_,rfl⟩ (λi σ H2 h2=>⟨SqL.of (h2.1 _ _ ha),SqL.of (h2.1 _ _ hb)⟩) ?_ ?_⟩
  ·rintro i x y σ H2 p H3 hxi hyi n3 ⟨s2,v3,v4,hl,rfl⟩
   have hzi:=zip_get hxi hyi;have hl3:=n3.same _ _ hl;have s3:=s2.trans n3.same;have hsm:((List.zipWith gE xs ys).take i).length<sizeLine:=qah (by rw[List.length_take];omega);have fin:∀ H7,But l H3 H7->H7 l=some (.lst ((List.zipWith gE xs ys).take i ++ [gE x y]))->Same H H7/\∃ v3 v4,H7 l=some (.lst ((List.zipWith gE xs ys).take (i+1)))/\[some (V.ref a),some (V.ref b),some (V.ref l),some x,some y]=[some (V.ref a),some (V.ref b),some (V.ref l),v3,v4]:=λH7 b7 h7=>⟨b7.same s3 n1.fresh,_,_,by rw[qbq _ i _ hzi];exact h7,rfl⟩
   refine ⟨p,_,rfl,SqT.of n3.at_,rfl,_,_,rfl,_,_,rfl,rfl,?_⟩
   rcases hx x (List.mem_of_getElem? hxi) with rfl|⟨i1,rfl⟩
   ·walk_at "r"
    exact λH7 b7 h7=>fin H7 b7 h7
   ·rcases hy y (List.mem_of_getElem? hyi) with rfl|⟨j1,rfl⟩
    ·walk_at "r"
     exact λH7 b7 h7=>fin H7 b7 h7
    ·walk_at "r"
     exact λH7 b7 h7=>fin H7 b7 h7
  ·rintro i σ H2 hi ⟨s2,v3,v4,hl,rfl⟩
   have e:(List.zipWith gE xs ys).take i=List.zipWith gE xs ys:=List.take_of_length_le (by rw[List.length_zipWith,hi];exact Nat.le_refl _);rw[e] at hl;exact ⟨_,rfl,q l H2 ⟨s2,n1.fresh,hl⟩⟩
theorem Later.rf (es:List Int) (ge:Option Int):Later es es ge ge where
 len:=rfl
 up:=λi x y hx hy=>by rw[hx] at hy;cases hy;exact Int.le_refl _
 gn:=λz hz=>⟨z,hz,Int.le_refl _⟩
inductive qnu (C R:Addr) (vs:List V) (H:Hp) (Q:VK) (E_:XK):Prop
 | mk:∀ (t l:Addr) (xs:List V) (ps:List (Int×Int)) (g:Option Int) (d:Int) (ro:Addr) (c:qay) (es:List Int) (ge:Option Int) (rs:List Rd3) (LY LZ:List (List Int)) (le:Addr) (x:Int),vs=[.ref t,.ref ro,.ref le,.int x]->H t=some (.tup [.ref l,gv g])->H l=some (.lst xs)->Pairs H xs ps->qv1 ps g->R46 C R H ro c ps g d es ge rs LY LZ->rs.length<=50->H le=some (.lst (es.map V.int ++ [gv ge]))->(∀ p ro' c' le' fs fg LY' LZ' H',Same H H'->H' p=some (.tup [.ref ro',.ref le'])->R46 C R H' ro' c' ps g d fs fg rs LY' LZ'->H' le'=some (.lst (fs.map V.int ++ [gv fg]))->(H c'.dy=none/\H c'.dh=none/\H c'.rl=none/\H c'.le=none)->H le'=none->Q (.ref p) H')->qnu C R vs H Q E_
include T in
theorem qoy:qaw P w K mg base 8 "_law_back" ["_law_rule_here", "_law_roll", "_law_edges_here", "_law_cell_here"] (qnu C_Roll C_Rule):=by
 obtain ⟨f,fd,F,hm⟩:=T.f__law_back;have nd:=sc__law_back.nd;refine F.def_ hm (F.ok sc__law_back (λvs H Q E h=>?_) (λcdv A outer s H vs Q E hr h=>?_)) (F.binds λ_ _ _ _ _ _ us hl=>by obtain ⟨_,_,_,_,rfl⟩:=L2.lq4 hl;rfl)
 ·obtain ⟨t,l,xs,ps,g,d,ro,c,es,ge,rs,LY,LZ,le,x,rfl,_⟩:=h;rfl
 ·obtain ⟨t,l,xs,ps,g,d,ro,c,es,ge,rs,LY,LZ,le,x,rfl,ht,hl,hx,D,R0,h50,hle,q⟩:=h
  refine ⟨_,(jB4 (jS 4 nd (jF (qnt T) hr (jA2 (pv 0) (pv 3)))) (jS 5 nd (jX (que T) hr (jA2 (pv 1) (qmf (qll T) (hr.mono (by decide)) rfl .nil (jA2 (qce qcy rfl T.b_list qds (jA1 (jT (pv 4) qaa))) (jT (pv 4) qaa)))))) (jS 2 nd (jF (qj1 T) hr (jA2 (pv 2) (jF (qek T) hr (jA2 (pv 4) (qcf (pv 1) T.cl_Roll (qku T) (hr.mono (by decide)))))))) (qaf (qao (jA2 (jX (que T) hr (jA2 (pv 5) (qmf (qll T) (hr.mono (by decide)) rfl .nil (jA2 (qce qcy rfl T.b_list qds (jA1 (jT (pv 0) qaa))) (jT (pv 0) qaa))))) (pv 2))))),?_⟩;refine ⟨_,rfl,_,rfl,t,l,xs,ps,g,x,rfl,ht,hl,hx,D,λt2 l2 xs2 ps2 g2 H1 s1 ht2 hl2 hx2 P2 w2=>?_⟩;have R1:=R0.same s1;refine ⟨_,rfl,_,rfl,t2,_,_,_,rfl,rfl,SqT.of ht2,rfl,l2,xs2,rfl,.inl (SqL.of hl2),λlc H2 n2=>?_⟩;refine ⟨_,rfl,t2,_,_,_,rfl,rfl,SqT.of (n2.same _ _ ht2),rfl,λru dx H3 s3 f3 d3=>?_⟩;refine ⟨ru,dx,lc,xs2,ps2,g2,rfl,d3,s3 _ _ n2.at_,(hx2.same n2.same).same s3,P2.good,P2.gone,λrl H4 hrl R4 b4=>⟨rfl,?_⟩⟩;have s14:Same H1 H4:=n2.same.trans (b4.same s3 f3);have R4':=R1.same s14;have F2:=R0.F;rw[<- w2] at F2;obtain ⟨fs,fg,U⟩:=qEw P2 R0.hd R0.E F2;simp only[qlv,List.cons_append,List.nil_append,List.append_nil];refine R4'.under h50 R4 P2 w2 U λr5 c5 LY5 LZ5 H5 s5 R5 fr5 _=>?_
  have s05:Same H H5:=s1.trans (s14.trans s5);have s15:Same H1 H5:=s14.trans s5;obtain ⟨dx0,hob0⟩:=(R0.R.same s05).obj;obtain ⟨Y0,Z0,A0,B0⟩:=id (R0.R.same s05);have eday:({ c with Y:=Y0,Z:=Z0 }:qay).day=d:=R0.qd;refine ⟨_,rfl,_,rfl,_,rfl,ro,dx0,_,rfl,hob0,qto _ _ _ _ _,ro,_,rfl,A0,?_⟩;rw[eday];refine ⟨t2,l2,xs2,ps2,g2,d,rfl,s15 _ _ ht2,s15 _ _ hl2,hx2.same s15,P2,R0.hd,λle2 H6 n6=>?_⟩;have E2:=EdS.of P2 R0.hd;have s06:=s05.trans n6.same;refine ⟨le,le2,_,_,rfl,s06 _ _ hle,n6.at_,R0.E.ed,E2.ed,?_,?_,λle3 H7 n7=>?_⟩
  ·rw[E2.eq]
   have l2:=F2.len;rw[List.length_map] at l2;simp only[List.length_append,List.length_map,List.length_singleton];omega
  ·have l2:=F2.len
   rw[List.length_map] at l2;have:=P2.good.hi;simp only[List.length_append,List.length_map,List.length_singleton];omega
  have key:List.zipWith gE (eV ps g d) (fs.map V.int ++ [gv fg])=fs.map V.int ++ [gv fg]:=by
   rw[<- U.eq,qqc (EdS.of D.pr R0.hd).ed E2.ed R0.E.ed,R0.dom]
  have U2:qDj ps g d (fs.map V.int ++ [gv fg]) fs fg fs fg:=⟨by rw[key];exact U.E,by rw[<- w2];exact U.F,Later.rf _ _,key,key,U.E⟩;have n7':New H6 H7 le3 (.lst (fs.map V.int ++ [gv fg])):=by rw[<- U.eq,qpi E2.ed R0.E.ed];exact n7
  have s67:=n6.same.trans n7'.same;have s07:=s06.trans n7'.same;have hle3:=n7'.at_;have fle3:=s06.free n7'.fresh;have R7:=R5.same s67;have ht7:=s07 _ _ ht;have hl7:=s07 _ _ hl;have hx7:=hx.same s07;clear n7 n7' n6 A0 B0 hob0 R4 R4' R1 s14 b4 s3 f3 d3 n2 R5 s5 fr5 s15 s05 s06 hx2 ht2 hl2 s67;refine ⟨_,rfl,_,rfl,t,_,_,_,rfl,rfl,SqT.of ht7,rfl,l,xs,rfl,.inl (SqL.of hl7),λlc2 H8 n8=>?_⟩;refine ⟨_,rfl,t,_,_,_,rfl,rfl,SqT.of (n8.same _ _ ht7),rfl,λru2 dx2 H9 s9 f9 d9=>?_⟩;refine ⟨ru2,dx2,lc2,xs,ps,g,rfl,d9,s9 _ _ n8.at_,(hx7.same n8.same).same s9,D.pr.good,D.pr.gone,λrl2 H10 hrl2 R10 b10=>⟨rfl,?_⟩⟩;have s710:Same H7 H10:=n8.same.trans (b10.same s9 f9);simp only[qlv,List.cons_append,List.nil_append,List.append_nil];refine (R7.same s710).under h50 R10 D.pr w2.symm U2 λr11 c11 LY11 LZ11 H11 s11 R11 fr11 fr12=>?_
  have s711:=s710.trans s11;have s010:=s07.trans s710;refine ⟨_,rfl,by show 2<=sizeLine;decide,λp H12 n12=>?_⟩;exact q p r11 c11 le3 fs fg LY11 LZ11 H12 (s07.trans (s711.trans n12.same)) n12.at_ (R11.same n12.same) (n12.same _ _ (s711 _ _ hle3)) ⟨s010.free fr11.1,s010.free fr11.2,by rw[fr12.2.1];exact (s07.trans (n8.same.trans s9)).free hrl2,s010.free fr12.2.2⟩ fle3
inductive qqf (vs:List V) (H:Hp) (Q:VK) (E_:XK):Prop
 | mk:∀ (t l:Addr) (xs:List V) (ps:List (Int×Int)) (g:Option Int) (c:Int),vs=[.ref t,.int c]->H t=some (.tup [.ref l,gv g])->H l=some (.lst xs)->Pairs H xs ps->qv1 ps g->(∀ (o:Option Int) H',Same H H'->Q (gv o) H')->qqf vs H Q E_
include T in
theorem qky:qaw P w K mg base 3 "_law_end" ["_law_rule_here", "_law_cell_here"] qqf:=by
 obtain ⟨f,fd,F,hm⟩:=T.f__law_end;have nd:=sc__law_end.nd;refine F.def_ hm (F.ok sc__law_end (λvs H Q E h=>?_) (λcdv A outer s H vs Q E hr h=>?_)) (F.binds λ_ _ _ _ _ _ us hl=>by obtain ⟨_,_,rfl⟩:=L2.lq2 hl;rfl)
 ·obtain ⟨t,l,xs,ps,g,c,rfl,_⟩:=h;rfl
 ·obtain ⟨t,l,xs,ps,g,c,rfl,ht,hl,hx,D,q⟩:=h
  refine ⟨_,(jB3 (jS 2 nd (jI (jF (qbm T) hr (jA2 (pv 1) qaa)) qaa)) (qav (jC qb0 (qae qaq (pv 2) qaa) qaa) (qac (qaf qau)) qam) (qaf (jF (qjj T) hr (jA3 (pv 0) (jI (qax (jA2 (qae qaq (qae qbf (pv 2) qaa) qaa) (qae qbr (qae qaq (qae qbf (pv 2) qaa) (qae qdg qaa (qae qc5 qaa qaa))) (qae qc5 qaa qaa)))) (qae qaq (qae qdr (pv 2) (qae qc5 qaa qaa)) qaa)) (qae qbf (pv 2) qaa))))),?_⟩
  walk_at "r";intro ls ys H1 n1 hy hb
  have hy:ys.length=2:=hy;obtain ⟨x,hx1⟩:∃ x,ys[1]?=some x:=⟨_,List.getElem?_eq_getElem (by omega)⟩;have at1:atI (ys.map V.int) 1=some (.int x):=qd5 (j:=1) (by rw[List.getElem?_map,hx1];rfl);have hls:=n1.at_;have ht1:=n1.same _ _ ht;have hl1:=n1.same _ _ hl;have hx1':=hx.same n1.same;have s1:=n1.same;clear n1
  walk_at "r"
  refine qcj (λz=>?_) λz=>?_
  ·exact q none H1 s1
  walk_at "r";intro p2 H2 n2
  obtain ⟨d,hd,hdb⟩:∃ d,atI [V.int (x / 7 % 100),V.int (x / 7 % (2*10 ^ 15)-10 ^ 15)] (x / 10 ^ 20 % 2)=some (V.int d)/\Bd d:=by
   have hk:x / 10 ^ 20 % 2=0\/x / 10 ^ 20 % 2=1:=by omega
   rcases hk with e|e<;>rw[e]
   ·exact ⟨_,rfl,by unfold Bd;omega⟩
   ·exact ⟨_,rfl,by unfold Bd;omega⟩
  have h2:=n2.at_
  walk_at "r"
  exact ⟨t,l,xs,ps,g,d,_,rfl,n2.same _ _ ht1,n2.same _ _ hl1,hx1'.same n2.same,D,hdb,λtm H3 _ s3=>q (some tm) H3 (s1.trans (n2.same.trans s3))⟩
def AllI (kvs:List (Key×V)):Prop:=∀ kv∈kvs,∃ n:Int,kv.2=.int n
theorem AllI.put {kvs:List (Key×V)} {k:Key} {n:Int} (h:AllI kvs):AllI (putK kvs k (.int n)):=by
 intro kv hk;unfold putK at hk
 split at hk
 ·obtain ⟨x,hx,rfl⟩:=List.mem_map.mp hk
  split
  ·exact ⟨n,rfl⟩
  ·exact h x hx
 ·rcases List.mem_append.mp hk with z|z
  ·exact h kv z
  ·rw[List.mem_singleton.mp z];exact ⟨n,rfl⟩
theorem AllI.get {kvs:List (Key×V)} (h:AllI kvs) (k:Key):∃ n:Int,(qcr kvs k).getD (.int 0)=.int n:=by
 unfold qcr
 cases e:kvs.find? λkv=>decide (kv.1=k) with
 | none=>exact ⟨0,rfl⟩
 | some kv =>
  obtain ⟨n,hn⟩:=h kv (List.mem_of_find?_eq_some e);exact ⟨n,by show kv.2=_;exact hn⟩
def kvW (rs:List (Int×Int)):List (Key×V):=rs.map λp=>(Sum.inl p.1,V.int p.2)
theorem qnv {H:Hp}:∀ {xs:List V} {rs:List (Int×Int)},Pairs H xs rs->qta H xs (kvW rs)
 | _,_,.nil=>.nil
 | _,_,.cons ⟨a,e,h⟩ t=>.cons ⟨a,e,h⟩ (qnv t)
theorem AllI.merge:∀ (rs:List (Int×Int)) {kvs:List (Key×V)},AllI kvs->AllI (qh6 kvs (kvW rs))
 | [],_,h=>h
 | r :: t,_,h=>AllI.merge t h.put
inductive qnw (vs:List V) (H:Hp) (Q:VK) (E_:XK):Prop
 | mk:∀ (t:Int) (l:Addr) (xs:List V) (rs:List (Int×Int)),vs=[.int t,.ref l]->H l=some (.lst xs)->Pairs H xs rs->rs.length<=100->(∀ p ys H',Same H H'->H p=none->H' p=some (.lst ys)->Tups H' ys (rs.map λr=>[t,r.1,r.2])->Q (.ref p) H')->qnw vs H Q E_
include T in
theorem qjp:qaw P w K mg base 1 "at_time" ["time", "runs"] qnw:=by
 obtain ⟨f,fd,F,hm⟩:=T.f_at_time;have nd:=sc_at_time.nd;refine F.def_ hm (F.ok sc_at_time (λvs H Q E h=>?_) (λcdv A outer s H vs Q E hr h=>?_)) (F.binds λ_ _ _ _ _ _ us hl=>by obtain ⟨_,_,rfl⟩:=L2.lq2 hl;rfl)
 ·obtain ⟨t,l,xs,rs,rfl,_⟩:=h;rfl
 ·obtain ⟨t,l,xs,rs,rfl,hl,hp,ln,q⟩:=h
  have lx:=hp.length;refine ⟨_,(qac (qaf (qdi (vars:=[ "value", "many" ]) (frees:=[ "time" ]) (fv:=[0]) rfl (jL1 rfl) ⟨⟨rfl,.inl rfl,rfl,.inl rfl⟩,trivial⟩ (qap (pv 1)) (qcb (by decide) (by decide)) (λ_ _ _ _=>(jG2 (jM 0 [ "value", "many", "time" ]) (jM 1 [ "value", "many", "time" ]))) (λ_ _ _ _=>qa3) (λ_ _ _ _=>(qao (jA3 (pv 2) (pv 0) (pv 1))))))),?_⟩;refine ⟨_,rfl,l,rfl,⟨_,SqL.of hl⟩,qa9 (xs:=xs) (λi zs H2=>Same H H2/\Tups H2 zs ((rs.take i).map λr=>[t,r.1,r.2])) (Nat.le_of_lt (qah (by omega))) ⟨Same.refl _,.nil⟩ (λi zs H2 h2=>⟨SqL.of (h2.1 _ _ hl),by rw[h2.2.length,List.length_map,List.length_take];omega⟩) ?_ ?_⟩
  ·rintro i x zs H2 hi ⟨s2,tz⟩
   obtain ⟨p,hpi,a,rfl,ha⟩:=hp.get hi;refine ⟨a,_,rfl,SqT.of (s2 _ _ ha),rfl,_,_,rfl,_,_,rfl,rfl,qo5 (qd2 ?_)⟩;refine ⟨_,rfl,_,rfl,_,rfl,by show 3<=sizeLine;decide,λb H3 n3=>⟨s2.trans n3.same,?_⟩⟩;rw[qbq rs i p hpi,List.map_append];exact Tups.snoc ⟨b,rfl,n3.at_⟩ (tz.same n3.same)
  ·rintro zs H2 p H3 ⟨s2,tz⟩ n3
   rw[lx,List.take_length] at tz;exact q p zs H3 (s2.trans n3.same) (s2.free n3.fresh) n3.at_ (tz.same n3.same)
inductive qul (vs:List V) (H:Hp) (Q:VK) (E_:XK):Prop
 | mk:∀ (l m:Addr) (xs ys:List V) (rs ts:List (Int×Int)),vs=[.ref l,.ref m]->H l=some (.lst xs)->Pairs H xs rs->H m=some (.lst ys)->Pairs H ys ts->rs.length<=50->ts.length<=50->(∀ p zs qs H',Same H H'->H' p=some (.lst zs)->Pairs H' zs qs->qs.length<=rs.length->Q (.ref p) H')->qul vs H Q E_
include T in
theorem qum:qaw P w K mg base 1 "left_of" ["runs", "taken"] qul:=by
 obtain ⟨f,fd,F,hm⟩:=T.f_left_of;have nd:=sc_left_of.nd;refine F.def_ hm (F.ok sc_left_of (λvs H Q E h=>?_) (λcdv A outer s H vs Q E hr h=>?_)) (F.binds λ_ _ _ _ _ _ us hl=>by obtain ⟨_,_,rfl⟩:=L2.lq2 hl;rfl)
 ·obtain ⟨l,m,xs,ys,rs,ts,rfl,_⟩:=h;rfl
 ·obtain ⟨l,m,xs,ys,rs,ts,rfl,hl,hp,hm,hq,l1,l2,q⟩:=h
  have lx:=hp.length;have ly:=hq.length;refine ⟨_,(jB3 (qrt (i:=2) nd rfl (Or.inr rfl) (qce (qq1 rfl) rfl T.b_dict qym (jA1 (pv 1)))) (qct (i:=3) (vars:=[ "value", "many" ]) (frees:=[ "less" ]) (fv:=[2]) nd rfl (Or.inl rfl) rfl (jL1 rfl) ⟨⟨rfl,.inl rfl,rfl,.inl rfl⟩,trivial⟩ (qap (pv 0)) (qcb (by decide) (by decide)) (λ_ _ _ _=>(jG2 (jM 0 [ "value", "many", "less" ]) (jM 1 [ "value", "many", "less" ]))) (λ_ _ _ _=>qa3) (λ_ _ _ _=>(qao (jA2 (pv 0) (qae qbr (pv 1) (qo2 (qh9 hr) (pv 2) (pv 0) qaa ⟨rfl,rfl,rfl,rfl⟩)))))) (qaf (qdi (vars:=[ "run" ]) (frees:=[]) (fv:=[]) rfl (jL0 rfl) trivial (qap (pv 3)) (qbp (by decide)) (λ_ _ _ _=>(jM 0 [ "run" ])) (λ_ _ _ _=>(qdt (jC ql3 (qcm (show IxR _ (qhk K) from qbi) (pv 0) qaa (λ_ _=>rfl)) qaa))) (λ_ _ _ _=>(pv 0))))),?_⟩;refine ⟨_,rfl,m,ys,kvW ts,rfl,SqL.of hm,qnv hq,by omega,λd H1 n1=>?_⟩;have hl1:=n1.same _ _ hl;have hp1:=hp.same n1.same;have hd1:=n1.at_;have aI:AllI (qh6 [] (kvW ts)):=AllI.merge ts (λkv hk=>by cases hk);refine ⟨_,rfl,l,rfl,⟨_,SqL.of hl1⟩,qa9 (xs:=xs) (λi zs H2=>Same H1 H2/\∃ qs:List (Int×Int),Pairs H2 zs qs/\qs.length=(rs.take i).length) (Nat.le_of_lt (qah (by omega))) ⟨Same.refl _,[],.nil,rfl⟩ (λi zs H2 h2=>⟨SqL.of (h2.1 _ _ hl1),by obtain ⟨_,qs,h3,h4⟩:=h2;rw[h3.length,h4,List.length_take];omega⟩) ?_ ?_⟩
  ·rintro i x zs H2 hi ⟨s2,qs,tz,e⟩
   obtain ⟨p,hpi,a,rfl,ha⟩:=hp1.get hi;obtain ⟨n,hn⟩:=aI.get (Sum.inl p.1);have hd2:=s2 _ _ hd1;refine ⟨a,_,rfl,SqT.of (s2 _ _ ha),rfl,_,_,rfl,_,_,rfl,rfl,qo5 (qd2 ?_)⟩;refine ⟨_,rfl,_,rfl,_,rfl,d,rfl,.inl ⟨_,.inl hd2⟩,_,rfl,_,DGet.k (k:=Sum.inl p.1) hd2,?_⟩;rw[hn];refine ⟨_,_,rfl,rfl,by show 2<=sizeLine;decide,λb H3 n3=>⟨s2.trans n3.same,qs ++ [(p.1,p.2-n)],?_,?_⟩⟩
   ·exact Pairs.snoc ⟨b,rfl,n3.at_⟩ (tz.same n3.same)
   ·rw[qbq rs i p hpi,List.length_append,List.length_append,e];rfl
  rintro zs H2 l3 H3 ⟨s2,qs,tz,e⟩ n3;rw[lx,List.take_length] at e;have t3:=tz.same n3.same;have h33:=n3.at_;have lz:=t3.length;have s03:=n1.same.trans (s2.trans n3.same);refine ⟨_,rfl,l3,rfl,⟨_,SqL.of h33⟩,qa9 (xs:=zs) (λi us H4=>H4=H3/\∃ vs:List (Int×Int),Pairs H3 us vs/\vs.length<=(qs.take i).length) (Nat.le_of_lt (qah (by omega))) ⟨rfl,[],.nil,Nat.zero_le _⟩ (λi us H4 h4=>⟨SqL.of (by rw[h4.1];exact h33),by obtain ⟨_,vs,h5,h6⟩:=h4;rw[h5.length];rw[List.length_take] at h6;omega⟩) ?_ ?_⟩
  ·rintro i x us H4 hi ⟨rfl,vs,tu,le⟩
   obtain ⟨p,hpi,a,rfl,ha⟩:=t3.get hi;have e4:(qs.take (i+1)).length=(qs.take i).length+1:=by rw[qbq qs i p hpi,List.length_append];rfl
   refine qb8 ?_;refine ⟨_,rfl,a,_,1,_,rfl,rfl,SqT.of ha,rfl,_,_,rfl,rfl,_,rfl,qcj (λz=>?_) λz=>?_⟩
   ·exact ⟨_,rfl,rfl,vs ++ [p],Pairs.snoc ⟨a,rfl,ha⟩ tu,by rw[List.length_append,e4,List.length_singleton];omega⟩
   ·exact ⟨rfl,vs,tu,by omega⟩
  ·rintro us H4 p H5 ⟨rfl,vs,tu,le⟩ n5
   rw[lz,List.take_length] at le;exact q p us vs H5 (s03.trans n5.same) n5.at_ (tu.same n5.same) (by omega)
inductive qgj (vs:List V) (H:Hp) (Q:VK) (E_:XK):Prop
 | mk:∀ (p q:Addr) (r:List Int) (a:Option Int),vs=[.ref p,gv a]->H p=some (.tup [.int (r.getD 0 0),.int (r.getD 1 0),.ref q])->(∀ t,Q (.int t) H)->qgj vs H Q E_
include T in
theorem qlt:qaw P w K mg base 1 "time_within" ["part", "a"] qgj:=by
 obtain ⟨f,fd,F,hm⟩:=T.f_time_within;have nd:=sc_time_within.nd;refine F.def_ hm (F.ok sc_time_within (λvs H Q E h=>?_) (λcdv A outer s H vs Q E hr h=>?_)) (F.binds λ_ _ _ _ _ _ us hl=>by obtain ⟨_,_,rfl⟩:=L2.lq2 hl;rfl)
 ·obtain ⟨p,q,r,a,rfl,_⟩:=h;rfl
 ·obtain ⟨p,q',r,a,rfl,hp,q⟩:=h
  refine ⟨_,(qac (qaf (qc3 (jC qc0 (pv 1) qau) (jT (pv 0) qaa) (qag (qdh rfl) rfl T.b_max qfj (jA2 (pv 1) (jT (pv 0) qaa)))))),?_⟩
  cases a with
  | none=>walk_at "r";exact q _
  | some x=>walk_at "r";exact q _
include T in
theorem qlu:qaw P w K mg base 1 "time_beyond" ["part", "a"] qgj:=by
 obtain ⟨f,fd,F,hm⟩:=T.f_time_beyond;have nd:=sc_time_beyond.nd;refine F.def_ hm (F.ok sc_time_beyond (λvs H Q E h=>?_) (λcdv A outer s H vs Q E hr h=>?_)) (F.binds λ_ _ _ _ _ _ us hl=>by obtain ⟨_,_,rfl⟩:=L2.lq2 hl;rfl)
 ·obtain ⟨p,q,r,a,rfl,_⟩:=h;rfl
 ·obtain ⟨p,q',r,a,rfl,hp,q⟩:=h
  refine ⟨_,(jB2 (qav (PW.pt (qlx (jC qd4 (pv 1) qau) (qhz (jC qe5 (jT (pv 0) qaa) (pv 1))))) (qac (qaf (jT (pv 0) qaa))) qam) (qaf (qae qbr (qae qa1 (jT (pv 0) qaa) (jT (pv 0) qaa)) qaa))),?_⟩
  cases a with
  | none=>walk_at "r";exact q _
  | some x =>
   walk_at "r"
   refine qcj (λz=>?_) λz=>?_
   ·walk_at "r";exact q _
   ·walk_at "r";exact q _
def qDk (g:HP4):Prop:=qhb g.1 g.2.1 g.2.2.1 g.2.2.2/\HBd g.1 g.2.2.1 g.2.2.2
inductive qxh (vs:List V) (H:Hp) (Q:VK) (E_:XK):Prop
 | mk:∀ (p m:Addr) (r:List Int) (g:HP4) (ys:List V) (ts:List (Int×Int)) (a:Option Int),vs=[.ref p,.ref m,gv a]->PartAt H (.ref p) r->r.drop 2=j4 g->qDk g->H m=some (.lst ys)->Pairs H ys ts->ts.length<=3->(∀ p' zs H',Same H H'->H' p'=some (.lst zs)->zs.length<=6->Q (.ref p') H')->qxh vs H Q E_
include T in
theorem qf2:qaw P w K mg base 2 "readings_of_part" ["part", "taken", "a"] qxh:=by
 obtain ⟨f,fd,F,hm⟩:=T.f_readings_of_part;have nd:=sc_readings_of_part.nd;refine F.def_ hm (F.ok sc_readings_of_part (λvs H Q E h=>?_) (λcdv A outer s H vs Q E hr h=>?_)) (F.binds λ_ _ _ _ _ _ us hl=>by obtain ⟨_,_,_,rfl⟩:=L2.lq3 hl;rfl)
 ·obtain ⟨p,m,r,g,ys,ts,a,rfl,_⟩:=h;rfl
 ·obtain ⟨p,m,r,g,ys,ts,a,rfl,⟨p0,q0,e0,hp,hq⟩,eg,⟨can,hbd⟩,hm,hy,ln,q⟩:=h
  cases e0;rw[eg] at hq;have wl:=(WRow.of can).len;refine ⟨_,(jB2 (jS 3 nd (jF (qum T) hr (jA2 (jF (qhu T) hr (jA1 (jT (pv 0) qaa))) (pv 1)))) (qaf (qae qe6 (jF (qjp T) hr (jA2 (jF (qlt T) hr (jA2 (pv 0) (pv 2))) (pv 1))) (jF (qjp T) hr (jA2 (jF (qlu T) hr (jA2 (pv 0) (pv 2))) (pv 3)))))),?_⟩;refine ⟨_,rfl,p,_,_,_,rfl,rfl,SqT.of hp,rfl,q0,g.1,g.2.1,g.2.2.1,g.2.2.2,rfl,hq,can,hbd,λl xs H1 H2 s1 n2 hx=>?_⟩;have s02:=s1.trans n2.same;refine ⟨_,rfl,l,m,xs,ys,_,ts,rfl,n2.at_,hx,s02 _ _ hm,hy.same s02,by omega,by omega,λp1 zs qs H3 s3 hp1 hz lq=>?_⟩;have s03:=s02.trans s3;refine ⟨_,rfl,_,rfl,p,q0,r,a,rfl,s03 _ _ hp,λt1=>⟨_,rfl,t1,m,ys,ts,rfl,s03 _ _ hm,hy.same s03,by omega,λp4 us4 H4 s4 f4 h4 t4=>?_⟩⟩;have s04:=s03.trans s4;refine ⟨_,rfl,_,rfl,p,q0,r,a,rfl,s04 _ _ hp,λt2=>⟨_,rfl,t2,p1,zs,qs,rfl,s4 _ _ hp1,hz.same s4,by omega,λp5 us5 H5 s5 f5 h5 t5=>?_⟩⟩;have l4:=t4.length;have l5:=t5.length;rw[List.length_map] at l4 l5;exact ⟨p4,p5,us4,us5,rfl,rfl,s5 _ _ h4,h5,Nat.le_of_lt (qah (by omega)),λp6 H6 n6=>q p6 _ H6 (s04.trans (s5.trans n6.same)) n6.at_ (by rw[List.length_append];omega)⟩
theorem qun {r:RD} (h:RdF r):∀ x∈qbc r.s,∃ (st w:Int) (g:HP4),x=[st,w,g.1,g.2.1,g.2.2.1,g.2.2.2]/\qDk g:=by
 obtain ⟨ws,es,ge,rs,es',F,l1,l6,ok⟩:=h;have ft:=Fit.all (qbu ws es ge) rs ok;rw[<- es'] at ft;intro x hx;obtain ⟨k,y,e,rfl⟩:=qi3 hx;obtain ⟨hm,t,p,w,_,_,rfl⟩:=ft.z k y e;exact ⟨p,w,y,rfl,(hm.fit (by omega)).2⟩
theorem qwe {r:RD} (h:RdF r):(qbh r.s).length+(qbc r.s).length<=6:=by
 obtain ⟨ws,es,ge,rs,es',F,l1,l6,ok⟩:=h;have rl:=qkj (cell:=qbu ws es ge) (rs:=rs);rw[es'];omega
inductive qxi (C R:Addr) (vs:List V) (H:Hp) (Q:VK) (E_:XK):Prop
 | mk:∀ (r:RD) (lp lk:Addr) (ys zs:List V) (prs:List (List Int)) (rss:List (List (Int×Int))) (a:Option Int),vs=[.ref r.ro,.ref lp,.ref lk,gv a]->qBo C R H (.ref r.ro) r->RdF r->H lp=some (.lst ys)->Parts H ys prs->(∀ x∈prs,∃ g:HP4,x.drop 2=j4 g/\qDk g)->prs.length<=2->H lk=some (.lst zs)->LL H zs rss->(∀ rs∈rss,rs.length<=3)->(∀ p xs H',Same H H'->H' p=some (.lst xs)->Q (.ref p) H')->qxi C R vs H Q E_
include T in
theorem qf3:qaw P w K mg base 3 "readings_of_roll" ["roll", "parts", "picked", "a"] (qxi C_Roll C_Rule):=by
 obtain ⟨f,fd,F,hm⟩:=T.f_readings_of_roll;have nd:=sc_readings_of_roll.nd;refine F.def_ hm (F.ok sc_readings_of_roll (λvs H Q E h=>?_) (λcdv A outer s H vs Q E hr h=>?_)) (F.binds λ_ _ _ _ _ _ us hl=>by obtain ⟨_,_,_,_,rfl⟩:=L2.lq4 hl;rfl)
 ·obtain ⟨r,lp,lk,ys,zs,prs,rss,a,rfl,_⟩:=h;rfl
 ·obtain ⟨r,lp,lk,ys,zs,prs,rss,a,rfl,⟨_,R0,ly,lz,ao,hn⟩,F,hlp,hpr,pf,p2,hlk,ll,l3,q⟩:=h
  obtain ⟨dx,hob⟩:=R0.obj;have six:=qwe F;have zf:=qun F;have lys:=hpr.length;refine ⟨_,(jB5 (jS 4 nd (qcf (pv 0) T.cl_Roll (qei T) (hr.mono (by decide)))) (jS 5 nd qtb) (qb7 PassesOwn.never rfl (qib rfl T.b_zip (jA2 (pv 1) (pv 2))) (jG2 (jN 6 nd) (jN 7 nd)) (jB2 (qa0 (qf8 PySem.F.plainAttrs_list PySem.F.slot_list_extend PySem.F.type_list_extend qdk (pv 4) (jA1 (jF (qf2 T) hr (jA3 (pv 6) (pv 7) (pv 3)))))) (qk4 (qh9 hr) (pv 5) (jT (pv 6) qaa) qlw rfl))) (qb7 PassesOwn.never rfl (qap (qcf (pv 0) T.cl_Roll (qej T) (hr.mono (by decide)))) (jN 8 nd) (qac (qav (qwi (qsf (qh9 hr) (jT (pv 8) qaa) (pv 5))) (qac (qa0 (qf8 PySem.F.plainAttrs_list PySem.F.slot_list_extend PySem.F.type_list_extend qdk (pv 4) (jA1 (jF (qjp T) hr (jA2 (jT (pv 8) qaa) (jF (qhu T) hr (jA1 (qcq qo0 (pv 8) (qcl qaa) qf7))))))))) qam))) (qaf (pv 4))),?_⟩;refine ⟨_,rfl,r.ro,dx,_,rfl,hob,qis _ _ _ _ _,quf (R0.young ly λl1 x1 H1 s1 f1 h1 t1 k1=>?_)⟩;refine λd H2 n2=>?_
  have l1len:=t1.length;have fd:H d=none:=s1.free n2.fresh;have ne1:l1≠d:=qai h1 n2.fresh;have s02:=s1.trans n2.same;have h12:=n2.same _ _ h1;have hd2:=n2.at_;clear n2 h1 t1;refine ⟨_,rfl,_,rfl,lp,lk,ys,zs,rfl,SqL.of (s02 _ _ hlp),SqL.of (s02 _ _ hlk),qhm (xs:=ys) (λi σ H'=>Same H H'/\∃ (xs:List V) (kvs:List (Key×V)) (v6 v7:Option V),H' l1=some (.lst xs)/\xs.length<=6+6*i/\H' d=some (.dK kvs)/\kvs.length<=i/\σ=[some (.ref r.ro),some (.ref lp),some (.ref lk),some (gv a),some (.ref l1),some (.ref d),v6,v7,none]) ⟨s02,x1,[],none,none,h12,by omega,hd2,Nat.le_refl _,rfl⟩ (λi σ H' h'=>⟨SqL.of (h'.1 _ _ hlp),SqL.of (h'.1 _ _ hlk)⟩) ?_ ?_⟩
  ·rintro i x y σ H3 pa H4 hxi hyi n4 ⟨s3,xs,kvs,v6,v7,h13,lx,hd3,lk',rfl⟩
   obtain ⟨row,hri,hpa⟩:=Parts.get hpr hxi;obtain ⟨p,q0,rfl,hp,hq⟩:=id hpa;obtain ⟨ts,m,ms,hti,rfl,hm,hms⟩:=ll.get hyi;have hmem:=List.mem_of_getElem? hri;obtain ⟨g,eg,gf⟩:=pf row hmem;have hi2:i<2:=by have:=(List.getElem?_eq_some_iff.mp hri).1;omega
   have s04:=s3.trans n4.same;have h14:=n4.same _ _ h13;have hd4:=n4.same _ _ hd3;refine ⟨pa,_,rfl,SqT.of n4.at_,rfl,_,_,rfl,_,_,rfl,rfl,?_⟩;refine ⟨_,rfl,.inl ⟨rfl,_,SqL.of h14⟩,_,rfl,_,rfl,_,rfl,p,m,row,g,ms,ts,a,rfl,⟨p,q0,rfl,s04 _ _ hp,s04 _ _ hq⟩,eg,gf,s04 _ _ hm,hms.same s04,l3 ts (List.mem_of_getElem? hti),λp5 z5 H5 s5 h5 l5=>?_⟩;have s05:=s04.trans s5;have h15:=s5 _ _ h14;have hd5:=s5 _ _ hd4;refine ⟨l1,p5,xs,z5,rfl,rfl,h15,h5,Nat.le_of_lt (qah (by omega)),λH6 b6 h6=>?_⟩;have s06:Same H H6:=b6.same s05 f1;have hd6:=b6 _ _ hd5 ne1.symm;refine ⟨_,rfl,_,rfl,p,_,_,_,rfl,rfl,SqT.of (s06 _ _ hp),rfl,d,_,rfl,DPut.k (k:=Sum.inl _) hd6 (qah (by omega)),?_⟩;refine ⟨but_upd.same s06 fd,xs ++ z5,_,_,_,but_upd _ _ h6 ne1,by rw[List.length_append];omega,qa2,?_,rfl⟩;have:=qdq kvs (Sum.inl (row.getD 0 0)) (V.bl true);omega
  rintro i σ H3 hi ⟨s3,xs,kvs,v6,v7,h13,lx,hd3,lk',rfl⟩;have hi2:i<=2:=by rw[hi];omega
  have R3:=R0.same s3;refine ⟨_,rfl,r.ro,dx,_,rfl,s3 _ _ hob,qit _ _ _ _ _,quf (R3.heaps lz λl4 x4 H4 s4 f4 h4 t4 k4=>?_)⟩;have l4len:=t4.length;have s04:=s3.trans s4;have h14:=s4 _ _ h13;have hd4:=s4 _ _ hd3;have ne4:l4≠l1:=λe=>by rw[e,h13] at f4;cases f4
  clear h13 hd3 R3;refine ⟨l4,rfl,⟨_,SqL.of h4⟩,qbt (xs:=x4) (λj σ H'=>Same H H'/\qn0 H4 H'/\H' l4=some (.lst x4)/\∃ (us:List V) (v8:Option V),H' l1=some (.lst us)/\us.length<=20+3*j/\H' d=some (.dK kvs)/\σ=[some (.ref r.ro),some (.ref lp),some (.ref lk),some (gv a),some (.ref l1),some (.ref d),v6,v7,v8]) ⟨s04,(λ_ _ e=>e),h4,xs,none,h14,by omega,hd4,rfl⟩ (λj σ H' _ h'=>SqL.of h'.2.2.1) ?_ ?_⟩
  ·rintro j x σ H5 hxj ⟨s5,ts5,h45,us,v8,h15,lu,hd5,rfl⟩
   obtain ⟨row,hrj,b,rfl,hb⟩:=t4.get hxj;obtain ⟨st,w,g,rfl,gf⟩:=zf row (List.mem_of_getElem? hrj);have hj6:j<6:=by have:=(List.getElem?_eq_some_iff.mp hrj).1;omega
   have hb5:H5 b=some (.tup [.int st,.int w,.int g.1,.int g.2.1,.int g.2.2.1,.int g.2.2.2]):=ts5 _ _ hb;have wl:=(WRow.of gf.1).len;refine qb8 ?_;refine ⟨_,rfl,b,_,_,_,rfl,rfl,SqT.of hb5,rfl,_,rfl,d,_,rfl,DGet.k (k:=Sum.inl _) hd5,_,rfl,qcj (λz=>?_) λz=>?_⟩
   ·refine ⟨_,rfl,.inl ⟨rfl,_,SqL.of h15⟩,_,rfl,b,_,_,_,rfl,rfl,SqT.of hb5,rfl,_,rfl,_,rfl,b,_,rfl,SqT.of hb5,λy=>qlm y,λp6 hp6=>?_⟩
    have n6:=qug (a:=st) (b:=w) (c:=g.1) (d:=g.2.1) (e:=g.2.2.1) (f:=g.2.2.2) hp6
    generalize upd H5 p6 (.tup (qhj [V.int st,.int w,.int g.1,.int g.2.1,.int g.2.2.1,.int g.2.2.2] (some 2) none))=H6 at n6 ⊢
    refine ⟨p6,g.1,g.2.1,g.2.2.1,g.2.2.2,rfl,n6.at_,gf.1,gf.2,λl7 x7 H7 H8 s7 n8 hx7=>?_⟩;have s58:=n6.same.trans (s7.trans n8.same);refine ⟨st,l7,x7,_,rfl,n8.at_,hx7,by omega,λp9 y9 H9 s9 f9 h9 t9=>?_⟩;have s59:=s58.trans s9;have l9:=t9.length;rw[List.length_map] at l9;have h19:=s59 _ _ h15;refine ⟨l1,p9,us,y9,rfl,rfl,h19,h9,Nat.le_of_lt (qah (by omega)),λH10 b10 h10=>?_⟩;exact ⟨b10.same (s5.trans s59) f1,λx o e=>b10 _ _ (s59 _ _ (ts5 x o e)) (qbe (s59 _ _ (ts5 x o e)) h19 (by intro z;cases z)),b10 _ _ (s59 _ _ h45) ne4,us ++ y9,_,h10,by rw[List.length_append];omega,b10 _ _ (s59 _ _ hd5) ne1.symm,rfl⟩
   ·exact ⟨s5,ts5,h45,us,_,h15,by omega,hd5,rfl⟩
  ·rintro σ H5 ⟨s5,ts5,h45,us,v8,h15,lu,hd5,rfl⟩
   exact ⟨_,rfl,q l1 us H5 s5 h15⟩
theorem LL.drop {H:Hp}:∀ (m:Nat) {xs:List V} {rss:List (List (Int×Int))},LL H xs rss->LL H (xs.drop m) (rss.drop m)
 | 0,_,_,h=>h
 | _+1,_,_,.nil=>.nil
 | m+1,_,_,.cons _ _ t=>LL.drop m t
theorem LL.take {H:Hp}:∀ (m:Nat) {xs:List V} {rss:List (List (Int×Int))},LL H xs rss->LL H (xs.take m) (rss.take m)
 | 0,_,_,_=>.nil
 | _+1,_,_,.nil=>.nil
 | m+1,_,_,.cons h p t=>.cons h p (LL.take m t)
theorem LL.cut {H:Hp} {xs:List V} {rss:List (List (Int×Int))} (h:LL H xs rss) (l3:∀ rs∈rss,rs.length<=3) (lo hi:Option Int):∃ rss',LL H (qhj xs lo hi) rss'/\∀ rs∈rss',rs.length<=3:=by
 unfold qhj;exact ⟨_,LL.take _ (LL.drop _ h),λrs hrs=>l3 rs (List.mem_of_mem_drop (List.mem_of_mem_take hrs))⟩
def qwf (k:Nat) (a b:Option Int) (rs:List RD):Prop:=2<=k/\qj0 a b rs=[]/\qjs a b rs=[]
inductive qqg (C R N G A:Addr) (vs:List V) (H:Hp) (Q:VK) (E:XK):Prop
 | mk:∀ (w:Str) (l:Addr) (xs:List V) (rs:List RD) (a b:Option Int) (hi:Bool),vs=[.str w,.ref l,gv a,gv b,.bl hi]->H l=some (.lst xs)->Rds C R H xs rs->(∀ r∈rs,RdF r)->rs.length<=4->((∀ k,k<5->w≠wd k)->E (.ref N) none H)->(∀ k,k<5->w=wd k->(qmz (gMx rs) a->∀ dx H1 H',Same H H1->New H1 H' dx (.xd [("edge",gv (gMx rs))])->E (.ref G) (some dx) H')/\(¬ qmz (gMx rs) a->(qwf k a b rs->∀ H',Same H H'->E (.ref A) none H')/\(¬ qwf k a b rs->∀ p ys H',Same H H'->H' p=some (.lst ys)->ys.length=rs.length->Q (.ref p) H')))->qqg C R N G A vs H Q E
include T in
theorem qze:qqv P w K mg base 6 "shown" ["word", "rolls", "a", "b", "high"] [] (qqg C_Roll C_Rule C_NoAsk C_Gone C_NoAnswer):=by
 obtain ⟨f,fd,F,hm⟩:=T.f_shown;have nd:=sc_shown.nd;refine ⟨f,fd,(F.okX sc_shown (λvs H Q E h=>?_) (λcdv A outer s H vs Q E hr h=>?_)),hm,F.kp,(F.binds λ_ _ _ _ _ _ us hl=>by obtain ⟨_,_,_,_,_,rfl⟩:=L2.lq5 hl;rfl)⟩
 ·obtain ⟨w,l,xs,rs,a,b,hi,rfl,_⟩:=h;rfl
 ·obtain ⟨wo,l,xs,rs,a,b,hi,rfl,hl,rd,rf,ln,qN,q⟩:=h
  have lx:=rd.length;refine ⟨_,(jB7 (jS 5 nd (jW (qnn T) hr (jA1 (pv 0)))) (jS 6 nd (jW (qem T) hr (jA3 (pv 1) (pv 2) (pv 3)))) (jS 7 nd (qbz (qmg (qbb ⟨rfl,rfl,rfl⟩) (pv 5) T.cl_HowMany (qhg T) (hr.mono (by decide)) .nil (jA3 (jF (qaz T) hr (jA1 (pv 6))) (jF (qa7 T) hr (jA1 (pv 6))) (pv 4))) (qbz (qmg (qbb ⟨rfl,rfl,rfl⟩) (pv 5) T.cl_Total (qjy T) (hr.mono (by decide)) .nil (jA3 (jF (qaz T) hr (jA1 (pv 6))) (jF (qa7 T) hr (jA1 (pv 6))) (pv 4))) (qbz (qmg (qbb ⟨rfl,rfl,rfl⟩) (pv 5) T.cl_Least (qjz T) (hr.mono (by decide)) .nil (jA3 (jF (qaz T) hr (jA1 (pv 6))) (jF (qa7 T) hr (jA1 (pv 6))) (pv 4))) (qbz (qmg (qbb ⟨rfl,rfl,rfl⟩) (pv 5) T.cl_Greatest (qgi T) (hr.mono (by decide)) .nil (jA3 (jF (qaz T) hr (jA1 (pv 6))) (jF (qa7 T) hr (jA1 (pv 6))) (pv 4))) (qmg (qbb ⟨rfl,rfl,rfl⟩) (pv 5) T.cl_Mean (qlr T) (hr.mono (by decide)) .nil (jA3 (jF (qaz T) hr (jA1 (pv 6))) (jF (qa7 T) hr (jA1 (pv 6))) (pv 4)))))))) (jS 8 nd (qax qc6)) (jS 9 nd qaa) (qb7 (qo7 ⟨rfl,rfl,rfl⟩) rfl (qib rfl T.b_zip (jA2 (pv 1) (pv 6))) (jG2 (jN 10 nd) (jN 11 nd)) (jB3 (jS 12 nd (qae qa1 (pv 9) (qag qal rfl T.b_len qbn (jA1 (jT (pv 11) qaa))))) (qa0 (qf8 PySem.F.plainAttrs_list PySem.F.slot_list_append PySem.F.type_list_append qby (pv 8) (jA1 (jF (qf3 T) hr (jA4 (pv 10) (jT (pv 11) qaa) (qcq qfh (pv 7) (qcl (pv 9)) (qcl (pv 12))) (pv 2)))))) (jS 9 nd (pv 12)))) (qaf (pv 8))),?_⟩;refine ⟨_,rfl,wo,rfl,λk hk e me dx H1 s1 hme=>?_,λz=>qN z⟩;obtain ⟨qE,q⟩:=q k hk e;have hl1:=s1 _ _ hl;have rd1:=rd.same s1;refine ⟨_,rfl,_,rfl,_,rfl,l,xs,rs,a,b,rfl,hl1,rd1,by omega,λbd dx2 H2 H3 s2 n3=>qE bd dx2 H2 H3 (s1.trans s2) n3,λnb t zs H2 s2 _ ht ld=>?_⟩;obtain ⟨qA,q⟩:=q nb;obtain ⟨hs,ps,ek,ep,ok,pok,le⟩:=quk rf ln a b;have lk:(qj0 a b rs).length<=900:=by rw[ek,List.length_map];have:=ok.1;omega
  have lp:(qjs a b rs).length<=900:=by rw[ep,List.length_map];have:=pok.2.1.1;omega
  have nil_iff:∀ {gs:List HP4} {L:List (List Int)},L=gs.map j4->(L=[]↔gs=[]):=fun {gs L} e=>by rw[e];exact List.map_eq_nil_iff
  have nE:NoE k hs ps↔qwf k a b rs:=⟨λz=>⟨z.1,(nil_iff ek).mpr z.2.1,(nil_iff ep).mpr z.2.2⟩,λz=>⟨z.1,(nil_iff ek).mp z.2.1,(nil_iff ep).mp z.2.2⟩⟩;have s02:=s1.trans s2;refine qDf k hk ⟨_,rfl,me,dx,_,rfl,s2 _ _ hme,rfl,_,rfl,t,zs,rs,a,b,rfl,ht,ld,by omega,lk,λp1 x1 H3 s3 h3 t3=>⟨_,rfl,t,zs,rs,a,b,rfl,s3 _ _ ht,ld.same s3,by omega,lp,λp2 x2 H4 s4 h4 t4=>⟨_,rfl,?_⟩⟩⟩;rw[ek] at t3;rw[ep] at t4;have s24:=s3.trans s4;have s04:=s02.trans s24;refine ⟨me,p1,p2,dx,x1,x2,hs,ps,k,hi,rfl,hk,s24 _ _ (s2 _ _ hme),s4 _ _ h3,t3.same s4,ok,le,h4,t4,pok,λz H5 s5=>qA (nE.mp z) H5 (s04.trans s5),λz qa zq rss H5 s5 hq ll lr l3=>?_⟩;have q:=q λy=>z (nE.mpr y)
  have s25:=s24.trans s5;have ht5:=s25 _ _ ht;have ld5:=ld.same s25;have s05:=s04.trans s5;have hl5:=s05 _ _ hl;have rd5:=rd.same s05;clear t3 t4 h3 h4 ld rd1 hl1;refine ⟨by show 0<=sizeLine;decide,λlt H6 n6=>?_⟩;have flt:H lt=none:=s05.free n6.fresh;have f5:=n6.fresh;refine ⟨_,rfl,_,rfl,l,t,xs,zs,rfl,SqL.of (n6.same _ _ hl5),SqL.of (n6.same _ _ ht5),qhm (xs:=xs) (λi σ H'=>Same H5 H'/\∃ (us:List V) (n:Int) (v10 v11 v12:Option V),H' lt=some (.lst us)/\us.length=i/\σ=[some (.str wo),some (.ref l),some (gv a),some (gv b),some (.bl hi),some (.ref me),some (.ref t),some (.ref qa),some (.ref lt),some (.int n),v10,v11,v12]) ⟨n6.same,[],0,none,none,none,n6.at_,rfl,rfl⟩ (λi σ H' h'=>⟨SqL.of (h'.1 _ _ hl5),SqL.of (h'.1 _ _ ht5)⟩) ?_ ?_⟩
  ·rintro i x y σ H7 pa H8 hxi hyi n8 ⟨s7,us,n,v10,v11,v12,hlt,lu,rfl⟩
   obtain ⟨r,hri,hx⟩:=rd5.get hxi;obtain ⟨ro,R0,r1,r2,r3,r4⟩:=id hx;cases ro;obtain ⟨r',hri',tp,m1,m2,ys1,ys2,rfl,htp,hm1,tm1,hm2,tm2⟩:=ld5.get hyi;rw[hri] at hri'
   cases hri'
   have hmem:=List.mem_of_getElem? hri;have hi4:i<4:=by have:=(List.getElem?_eq_some_iff.mp hri).1;omega
   have pf:=qox (rf r hmem) a b;have s58:=s7.trans n8.same;refine ⟨pa,_,rfl,SqT.of n8.at_,rfl,_,_,rfl,_,_,rfl,rfl,?_⟩;refine ⟨_,rfl,_,rfl,tp,_,_,_,rfl,rfl,SqT.of (s58 _ _ htp),rfl,m2,ys2,rfl,.inl (SqL.of (s58 _ _ hm2)),_,_,rfl,rfl,?_⟩;refine ⟨_,rfl,.inl ⟨rfl,_,SqL.of (n8.same _ _ hlt)⟩,_,rfl,_,rfl,tp,_,_,_,rfl,rfl,SqT.of (s58 _ _ htp),rfl,_,rfl,_,rfl,_,rfl,_,rfl,_,rfl,qa,_,rfl,SqL.of (s58 _ _ hq),λlc H9 n9=>?_⟩;obtain ⟨rss',ll',l3'⟩:=LL.cut ll l3 (some n) (some (n+(ys2.length:Int)));have s59:=s58.trans n9.same;refine ⟨_,rfl,r,m2,lc,ys2,_,pOf a b r,rss',a,rfl,⟨rfl,R0.same s59,r1,r2,r3,r4⟩,rf r hmem,s59 _ _ hm2,tm2.same s59,λx hx'=>?_,pf.1,n9.at_,ll'.same s59,l3',λp10 xs10 H10 s10 h10=>?_⟩
   ·obtain ⟨g,eg,_,g1,g2⟩:=pf.2 _ (List.mem_map.mpr ⟨x,hx',rfl⟩)
    exact ⟨g,eg,g1,g2⟩
   have s510:=s59.trans s10;have hlt10:=(n8.same.trans (n9.same.trans s10)) _ _ hlt;refine ⟨lt,_,_,rfl,rfl,hlt10,qah (by omega),λH11 b11 h11=>?_⟩;exact ⟨_,rfl,b11.same s510 f5,us ++ [.ref p10],_,_,_,_,h11,by rw[List.length_append,lu];rfl,rfl⟩
  ·rintro i σ H7 hi' ⟨s7,us,n,v10,v11,v12,hlt,lu,rfl⟩
   have ll5:=ld5.length;exact ⟨_,rfl,q lt us H7 (s05.trans s7) hlt (by rw[lu,hi'];omega)⟩
theorem qqh:∀ (rs:List RD) (x:Option Int) (w:Int),rs.foldl (λe r=>qol e r.c.ge) x=some w->x=some w\/∃ r∈rs,r.c.ge=some w
 | [],x,w,h=>.inl h
 | q :: t,x,w,h=>by
  rcases qqh t _ w h with z|⟨r,hr',e⟩
  ·rcases qtw z with z|z
   ·exact .inl z
   ·exact .inr ⟨q,List.mem_cons_self,z⟩
  ·exact .inr ⟨r,List.mem_cons_of_mem _ hr',e⟩
theorem qzf {xs:List Int} (h:xs.length=9) {n:Int} (h0:0<=n) (h7:n<7):∃ ms:List Int,qhj (xs.map V.int) (some 2) (some (2+n))=ms.map V.int/\ms.length<=6:=by
 unfold qhj;rw[show (some (2:Int))=some ((2:Nat):Int) from rfl,show (some (2+n))=some (((2+n.toNat:Nat)):Int) by congr 1;omega,HT.sIx_nat,HT.sIx_nat];simp only[<- List.map_take,<- List.map_drop];exact ⟨_,rfl,by simp only[List.length_take,List.length_drop,List.length_map];omega⟩
theorem Rds.snoc {C R:Addr} {H:Hp} {v:V} {r:RD} (h:qBo C R H v r):∀ {xs:List V} {rs:List RD},Rds C R H xs rs->Rds C R H (xs ++ [v]) (rs ++ [r])
 | _,_,.nil=>.cons h .nil
 | _,_,.cons q t=>.cons q (Rds.snoc h t)
theorem qxj {H:Hp} {a b:Addr} {xs:List V} {o:HO} (h:H a=some (.lst xs)) (h':H b=some o) (n:∀ ys,o≠.lst ys):a≠b:=λe=>by rw[e,h'] at h;injection h with h;exact n _ h
theorem ifj {C:TT} {F REST:TS} {D:Ends} {σ:St} {H:Hp} (c:Bool) (J:St->Hp->Prop) (hC:∀ Q:Bool->Hp->Prop,Q c H->C σ H Q) (h1:c=true->(∀ σ' H',J σ' H'->REST D σ' H')->F { D with nx:=REST D } σ H) (h2:¬ c=true->J σ H) (h:∀ σ' H',J σ' H'->REST D σ' H'):qck (qzr C F quu) REST D σ H:=hC _ (qcj (λz=>h1 z h) λz=>h _ _ (h2 z))
theorem qer {rs:List RD} {top:Int} (h:∀ r∈rs,∀ z,r.c.ge=some z->z<=top):¬ qmz (gMx rs) (some top):=by
 rintro ⟨z,e,lt⟩;have lt:=lt top rfl
 rcases qqh rs none z e with y|⟨r,hr',er⟩
 ·cases y
 ·have:=h r hr' z er
  omega
inductive qkz (K:Frag) (C R:Addr) (vs:List V) (H:Hp) (Q:VK) (E_:XK):Prop
 | mk:∀ (t l:Addr) (xs:List V) (ps:List (Int×Int)) (g:Option Int) (a:Addr) (ns:List Int),vs=[.ref t,.ref a]->H t=some (.tup [.ref l,gv g])->H l=some (.lst xs)->Pairs H xs ps->qv1 ps g->SqL K H a (ns.map V.int)->(∀ p l1 top ys rs H',Same H H'->H' p=some (.tup [.ref l1,.int top])->H' l1=some (.lst ys)->Rds C R H' ys rs->(∀ r∈rs,RdF r)->rs.length<=4->(∀ r∈rs,∀ z,r.c.ge=some z->z<=top)->Q (.ref p) H')->qkz K C R vs H Q E_
include T in
theorem qnx:qaw P w K mg base 9 "_law_rolls" ["_law_rule_here", "_law_script"] (qkz K C_Roll C_Rule):=by
 obtain ⟨f,fd,F,hm⟩:=T.f__law_rolls;have nd:=sc__law_rolls.nd;refine F.def_ hm (F.ok sc__law_rolls (λvs H Q E h=>?_) (λcdv A outer s H vs Q E hr h=>?_)) (F.binds λ_ _ _ _ _ _ us hl=>by obtain ⟨_,_,rfl⟩:=L2.lq2 hl;rfl)
 ·obtain ⟨t,l,xs,ps,g,a,ns,rfl,_⟩:=h;rfl
 ·obtain ⟨t,l,xs,ps,g,a,ns,rfl,ht,hl,hx,D5,hS,q⟩:=h
  have P5:=D5.pr;refine ⟨_,(jB4 (jS 2 nd (qax qc6)) (jS 3 nd (qax (jA1 (qe4 qcz (qae qc5 qaa qaa))))) (qb7 PassesOwn.never rfl (ql0 rfl T.b_range (jA1 (qae qaq (jF (qbs T) hr (jA2 (pv 1) qaa)) qaa))) (jN 4 nd) (jB8 (jS 5 nd (jF (qbm T) hr (jA2 (qae qa1 (jF (qbs T) hr (jA2 (pv 1) qaa)) (qae qdg qaa (pv 4))) qaa))) (jS 6 nd (jI (qax (jA3 (qae qaq (jI (pv 5) qaa) qaa) (qae qbr (qae qaq (jI (pv 5) qaa) (qae qdg qaa (qae qc5 qaa qaa))) (qae qc5 qaa qaa)) (qae qaq (jF (qbs T) hr (jA2 (pv 1) qaa)) qaa))) (qae qaq (jI (pv 5) qaa) qaa))) (jS 7 nd (qmf (qp3 T) (hr.mono (by decide)) rfl .nil (jA2 (qmf (qll T) (hr.mono (by decide)) rfl .nil (jA2 (qce qcy rfl T.b_list qds (jA1 (jT (pv 0) qaa))) (jT (pv 0) qaa))) (pv 6)))) (qb7 PassesOwn.never rfl (qap (qcq qfh (pv 5) (qcl qaa) (qcl (qae qa1 qaa (qae qbf (qae qaq (qae qbf (jI (pv 5) qaa) qaa) qaa) qaa))))) (jN 8 nd) (jB2 (qj3 (jF (qjw T) hr (jA4 (pv 0) (pv 6) (pv 8) (qae qaq (pv 8) qaa))) (jG3 (jN 9 nd) (jN 10 nd) (jN 11 nd))) (qa0 (qw0 (pv 7) T.cl_Roll (qg6 T) (hr.mono (by decide)) .nil (jA3 (pv 9) (pv 10) (pv 11)))))) (jS 12 nd (jF (qek T) hr (jA2 (pv 0) (pv 6)))) (qav (jC qb0 (qae qaq (qae qbf (jI (pv 5) qaa) qaa) qaa) qaa) (qac (qj3 (jF (qoy T) hr (jA4 (pv 0) (pv 7) (pv 12) (jI (pv 5) qaa))) (jG2 (jN 7 nd) (jN 12 nd)))) qam) (qa0 (qf8 PySem.F.plainAttrs_list PySem.F.slot_list_append PySem.F.type_list_append qby (pv 2) (jA1 (pv 7)))) (jS 3 nd (qae qe6 (pv 3) (qdi (vars:=[ "_law_edge" ]) (frees:=[]) (fv:=[]) rfl (jL0 rfl) trivial (qap (pv 12)) (qbp (by decide)) (λ_ _ _ _=>(jM 0 [ "_law_edge" ])) (λ_ _ _ _=>(qdt (jC qd4 (pv 0) qau))) (λ_ _ _ _=>(pv 0))))))) (qaf (qao (jA2 (pv 2) (qag (qie rfl) rfl T.b_max qfj (jA1 (pv 3))))))),?_⟩;refine ⟨by show 0<=sizeLine;decide,λl1 H1 n1=>⟨_,_,rfl,rfl,⟨by decide,by decide,by decide⟩,_,rfl,by show 1<=sizeLine;decide,λl2 H2 n2=>?_⟩⟩;have f1:H l1=none:=n1.fresh;have s02:=n1.same.trans n2.same;have h1:=n2.same _ _ n1.at_;have h2:=n2.at_;clear n1 n2;refine ⟨_,rfl,a,ns,1,rfl,qiq s02 hS,by decide,λc1=>?_⟩
  walk_at "r"
  refine ql2 (n:=(c1 % 4).toNat) (λi σ H'=>Same H H'/\∃ (ys:List V) (rs:List RD) (l2:Addr) (gs:List Int) (v4 v5 v6 v7 v8 v9 v10 v11 v12:Option V),H' l1=some (.lst ys)/\Rds C_Roll C_Rule H' ys rs/\(∀ r∈rs,RdF r)/\rs.length=i/\H' l2=some (.lst (gs.map V.int))/\gs≠[]/\gs.length<=1+6*i/\(∀ r∈rs,∀ z,r.c.ge=some z->z∈gs)/\Apart l1 rs/\σ=[some (.ref t),some (.ref a),some (.ref l1),some (.ref l2),v4,v5,v6,v7,v8,v9,v10,v11,v12]) ⟨s02,[],[],l2,[-(10 ^ 30)],_,_,_,_,_,_,_,_,_,h1,.nil,(λr hr=>by cases hr),rfl,h2,by simp,by simp,(λr hr=>by cases hr),(λr hr=>by cases hr),rfl⟩ ?_ ?_
  ·rintro i σ H3 hi ⟨s3,ys,rs,l2,gs,v4,v5,v6,v7,v8,v9,v10,v11,v12',h31,rd,rf,ln,h32,gne,gln,gm,ap,rfl⟩
   have hi4:i<4:=by omega
   rw[Int.zero_add];have hS3:=qiq s3 hS;refine ⟨_,rfl,a,ns,2,rfl,hS3,by decide,λc2=>⟨_,rfl,_,_,rfl,rfl,.inl ⟨by decide,by decide⟩,_,_,rfl,rfl,_,9,rfl,by decide,λlx xs9 H4 n4 hx9 hb9=>?_⟩⟩;have hx9:xs9.length=9:=hx9;have gx:∀ k:Nat,k<9->∃ x,atI (xs9.map V.int) (k:Int)=some (.int x):=λk hk=>by
    have e:xs9[k]?=some (xs9[k]'(by omega)):=List.getElem?_eq_getElem (by omega);exact ⟨_,qd5 (by rw[List.getElem?_map,e];rfl)⟩
   obtain ⟨x0,at0⟩:=gx 0 (by omega);obtain ⟨x1,at1⟩:=gx 1 (by omega);obtain ⟨x8,at8⟩:=gx 8 (by omega);have at0:atI (xs9.map V.int) 0=some (.int x0):=at0;have at1:atI (xs9.map V.int) 1=some (.int x1):=at1;have at8:atI (xs9.map V.int) 8=some (.int x8):=at8;have s04:=s3.trans n4.same;have hS4:=qiq s04 hS;have hx4:=n4.at_;have h41:=n4.same _ _ h31;have h42:=n4.same _ _ h32;have rd4:=rd.same n4.same;clear n4 hS3 rd h31 h32 gx;refine ⟨_,rfl,lx,_,_,_,rfl,rfl,SqL.of hx4,at0,_,_,rfl,rfl,(by first|decide|(dsimp only;decide)),_,rfl,lx,_,_,_,rfl,rfl,SqL.of hx4,at0,_,_,rfl,rfl,⟨by decide,by decide,by decide⟩,_,_,rfl,rfl,.inl ⟨by decide,by decide⟩,_,_,rfl,rfl,(by first|decide|(dsimp only;decide)),_,_,rfl,rfl,⟨by decide,by decide,by decide⟩,_,_,rfl,rfl,_,rfl,a,ns,2,rfl,hS4,by decide,λc3=>⟨_,_,rfl,rfl,(by first|decide|(dsimp only;decide)),by show 3<=sizeLine;decide,λp6 H6 n6=>?_⟩⟩;obtain ⟨d,hd,hdb⟩:∃ d,atI [V.int (x0 % 100),V.int (x0 % (2*10 ^ 15)-10 ^ 15),V.int (c3 % 100)] (x1 % 3)=some (V.int d)/\Bd d:=by
    have hk:x1 % 3=0\/x1 % 3=1\/x1 % 3=2:=by omega
    rcases hk with e|e|e<;>rw[e]
    ·exact ⟨_,rfl,by unfold Bd;omega⟩
    ·exact ⟨_,rfl,by unfold Bd;omega⟩
    ·exact ⟨_,rfl,by unfold Bd;omega⟩
   have h6p:=n6.at_;have hx6:=n6.same _ _ hx4;refine ⟨_,rfl,lx,_,_,_,rfl,rfl,SqL.of hx6,at1,_,_,rfl,rfl,(by first|decide|(dsimp only;decide)),p6,_,_,_,rfl,rfl,SqL.of h6p,hd,?_⟩;have s06:=s04.trans n6.same;have ht6:=s06 _ _ ht;have hl6:=s06 _ _ hl;have hp6:=hx.same s06;have h61:=n6.same _ _ h41;have h62:=n6.same _ _ h42;have rd6:=rd4.same n6.same;clear n6 hx4 h41 h42 rd4 s04 hS4 h6p;refine ⟨_,rfl,t,_,_,_,rfl,rfl,SqT.of ht6,rfl,l,xs,rfl,.inl (SqL.of hl6),λlc H7 n7=>?_⟩;refine ⟨_,rfl,t,_,_,_,rfl,rfl,SqT.of (n7.same _ _ ht6),rfl,λru dx H8 s8 f8 d8=>?_⟩;refine ⟨ru,dx,lc,xs,ps,g,rfl,d8,s8 _ _ n7.at_,(hp6.same n7.same).same s8,P5.good,P5.gone,λrl H9 hrl' R9 b9=>⟨rfl,?_⟩⟩;refine ⟨_,rfl,λro dx' H10 s10 f10 d10=>?_⟩;refine ⟨ro,dx',ru,rl,ps,g,d,rfl,d10,R9.same s10,P5,hdb,λle dy dh H11 z1 z2 z3 A11 b11=>⟨rfl,?_⟩⟩;have s69:Same H6 H9:=n7.same.trans (b9.same s8 f8);have s611:Same H6 H11:=s69.trans (b11.same s10 f10);have fdy:H6 dy=none:=(s69.trans s10).free z2;have fdh:H6 dh=none:=(s69.trans s10).free z3;have frl0:H6 rl=none:=(n7.same.trans s8).free hrl';have fle0:H6 le=none:=(s69.trans s10).free z1;have wb:∀ p∈ps,p.2<=10 ^ 35:=λp hp=>by
    obtain ⟨i,hi,e⟩:=List.getElem_of_mem hp;have:=(D5.each i p (by rw[<- e];exact List.getElem?_eq_getElem hi)).2;omega
   have R11:=R46.new P5 wb hdb A11
   generalize ecc:qA8 ru rl le dy dh ps g d=c at R11
   have fdy':H6 c.dy=none:=by rw[<- ecc];exact fdy
   have fdh':H6 c.dh=none:=by rw[<- ecc];exact fdh
   have frl:H6 c.rl=none:=by rw[<- ecc];exact frl0
   have fle:H6 c.le=none:=by rw[<- ecc];exact fle0
   clear ecc A11 b11 z1 z2 z3 d10 f10 s10 R9 b9 d8 f8 s8 n7 fdy fdh s69;have eEV:eV ps g d=(ps.map λp=>cut d p.1 p.2).map V.int ++ [gv (g.map λz=>cut d z (lw ps))]:=(EdS.of P5 hdb).eq
   generalize (ps.map λp=>cut d p.1 p.2)=es at R11 eEV
   generalize (g.map λz=>cut d z (lw ps))=ge at R11 eEV
   obtain ⟨ms,ec,hms⟩:=qzf hx9 (n:=x1 / 3 % 7 / 2) (by omega) (by omega);have hx11:=s611 _ _ hx6;refine ⟨_,rfl,_,rfl,_,rfl,lx,_,_,_,rfl,rfl,SqL.of hx11,at1,_,_,rfl,rfl,⟨by decide,by decide⟩,_,_,rfl,rfl,(by first|decide|(dsimp only;decide)),_,_,rfl,rfl,⟨by decide,by decide⟩,_,_,rfl,rfl,_,rfl,lx,_,rfl,SqL.of hx11,λlz H12 n12=>?_⟩;rw[ec] at n12;have s612:=s611.trans n12.same;refine ⟨lz,rfl,⟨_,SqL.of n12.at_⟩,qbt (xs:=ms.map V.int) (λj σ H'=>Same H6 H'/\H' lz=some (.lst (ms.map V.int))/\∃ (rs6:List Rd3) (LY LZ:List (List Int)) (v9 v10 v11 v12:Option V),R46 C_Roll C_Rule H' ro c ps g d es ge rs6 LY LZ/\rs6.length=j/\σ=[some (.ref t),some (.ref a),some (.ref l1),some (.ref l2),some (.int (i:Int)),some (.ref lx),some (.int d),some (.ref ro),v9,v10,v11,v12,v12']) ⟨s612,n12.at_,[],[],[],_,_,_,_,R11.same n12.same,rfl,rfl⟩ (λj σ H' _ h'=>SqL.of h'.2.1) ?_ ?_⟩
   ·rintro j v σ H' hvj ⟨s',hz',rs6,LY,LZ,w9,w10,w11,w12,R',hrl,rfl⟩
    rw[List.getElem?_map] at hvj;obtain ⟨x,hxj,rfl⟩:=Option.map_eq_some_iff.mp hvj;have hj6:j<6:=by have:=(List.getElem?_eq_some_iff.mp hxj).1;omega
    refine qb8 ?_;refine ⟨_,rfl,_,rfl,_,rfl,_,rfl,_,_,rfl,rfl,(by first|decide|(dsimp only;decide)),t,l,xs,ps,g,d,x,_,rfl,s' _ _ ht6,s' _ _ hl6,hp6.same s',D5,hdb,by omega,by omega,λpr r3 G1 t5 rt g1s hpr=>?_⟩;refine ⟨pr,_,rfl,SqT.of hpr,rfl,_,_,rfl,_,_,rfl,_,_,rfl,rfl,?_⟩;have R1:=R'.same g1s;obtain ⟨dxr,hob⟩:=R1.R.obj;obtain ⟨⟨Yd,hYd⟩,⟨Zd,hZd⟩⟩:=R1.R.dicts;have hz1:=g1s _ _ hz';refine ⟨_,rfl,ro,dxr,_,rfl,hob,qtn _ _ _ _ _,_,rfl,_,rfl,_,rfl,?_⟩;simp only[qlv,List.cons_append,List.nil_append,List.append_nil];refine R1.put (by omega) ⟨t5,rt⟩ λG2 R2 b2=>?_
    refine ⟨b2.same (s'.trans g1s) fdy' fdh',b2 _ _ hz1 (qxj hz1 hYd (by intro ys z;cases z)) (qxj hz1 hZd (by intro ys z;cases z)),_,_,_,_,_,_,_,R2,by rw[List.length_append,hrl];rfl,rfl⟩
   rintro σ13 H13 ⟨s13,hz13,rs6,LY,LZ,w9,w10,w11,w12,R13,hrl,rfl⟩;rw[List.length_map] at hrl;have h6:rs6.length<=6:=by omega
   clear hx11 n12 s612 s611 hz13 R11 ec hms hrl;refine ⟨_,rfl,_,rfl,t,l,xs,ps,g,d,rfl,s13 _ _ ht6,s13 _ _ hl6,hp6.same s13,P5,hdb,λlm H14 n14=>?_⟩;rw[eEV] at n14;have s614:=s13.trans n14.same;have R14:=R13.same n14.same;have hx14:=s614 _ _ hx6;have ht14:=s614 _ _ ht6;have hl14:=s614 _ _ hl6;have hp14:=hp6.same s614;have h141:=s614 _ _ h61;have h142:=s614 _ _ h62;have rd14:=rd6.same s614;have hlm:=n14.at_;have flm:=s13.free n14.fresh;clear n14 R13 eEV;refine qb8 ?_;dsimp only;refine ifj (decide (V.int (x1 / 21 % 3)=V.int 1)) (λσ' H'=>Same H14 H'/\∃ (ro':Addr) (c':qay) (le':Addr) (fs:List Int) (fg:Option Int) (LY' LZ':List (List Int)),R46 C_Roll C_Rule H' ro' c' ps g d fs fg rs6 LY' LZ'/\(H6 c'.rl=none/\H6 c'.le=none/\H6 le'=none)/\H' le'=some (.lst (fs.map V.int ++ [gv fg]))/\σ'=[some (.ref t),some (.ref a),some (.ref l1),some (.ref l2),some (.int (i:Int)),some (.ref lx),some (.int d),some (.ref ro'),w9,w10,w11,w12,some (.ref le')]) (λQ hQ=>⟨_,rfl,lx,_,_,_,rfl,rfl,SqL.of hx14,at1,_,_,rfl,rfl,⟨by decide,by decide⟩,_,_,rfl,rfl,(by first|decide|(dsimp only;decide)),rfl,_,rfl,hQ⟩) (λz hJ=>?_) (λ_=>⟨Same.refl _,ro,c,lm,es,ge,LY,LZ,R14,⟨frl,fle,flm⟩,hlm,rfl⟩) ?_
   ·refine ⟨_,rfl,_,rfl,_,rfl,_,rfl,lx,_,_,_,rfl,rfl,SqL.of hx14,at8,t,l,xs,ps,g,d,ro,c,es,ge,rs6,LY,LZ,lm,x8,rfl,ht14,hl14,hp14,D5,R14,by omega,hlm,λp ro' c' le' fs fg LY' LZ' H15 s15 hp15 R15 hle15 fr15 fl15=>?_⟩
    refine ⟨p,_,rfl,SqT.of hp15,rfl,_,_,rfl,_,_,rfl,rfl,?_⟩;exact hJ _ _ ⟨s15,ro',c',le',fs,fg,LY',LZ',R15,⟨s614.free fr15.2.2.1,s614.free fr15.2.2.2,s614.free fl15⟩,hle15,rfl⟩
   rintro σ15 H15 ⟨s15,ro',c',le',fs,fg,LY',LZ',R15,⟨frl',fle',fl'⟩,hle15,rfl⟩;have s615:=s614.trans s15;have h151:=s15 _ _ h141;have h152:=s15 _ _ h142;have rd15:=rd14.same s15;have ylen:=rd15.length;have ap1:c'.rl≠l1/\c'.le≠l1:=⟨(λe=>by rw[e,h61] at frl';cases frl'),(λe=>by rw[e,h61] at fle';cases fle')⟩;clear rd14 h141 h142 R14 hlm rd6 s614 s13;refine ⟨_,rfl,.inl ⟨rfl,_,SqL.of h151⟩,_,rfl,l1,_,_,rfl,rfl,h151,qah (by omega),λH16 b16 h16=>?_⟩;have s016:Same H H16:=b16.same (s06.trans s615) f1;have rd16:=(rd15.butL b16 h151 ap).snoc (R46.rd { R15 with R:=R15.R.butL b16 h151 ap1.1 ap1.2 } (by omega));have ne12:l2≠l1:=λe=>by
    rw[e,h151] at h152
    cases gs with
    | nil=>exact gne rfl
    | cons z tl =>
     injection h152 with h152
     injection h152 with h152
     rw[h152] at rd15
     cases rd15 with
     | cons hv _=>have:=hv.1;cases this
   have h162:=b16 _ _ h152 ne12;have hle16:H16 le'=some (.lst (fs.map V.int ++ [gv fg])):=b16 _ _ hle15 λe=>by rw[e,h61] at fl';cases fl'
   have flen:fs.length=ps.length:=by have:=R15.F.len;rw[List.length_map] at this;omega
   have p5:=P5.good.hi;have El:(fs.map V.int ++ [gv fg]).length=fs.length+1:=by simp
   refine ⟨_,rfl,_,rfl,le',rfl,⟨_,SqL.of hle16⟩,qa9 (xs:=fs.map V.int ++ [gv fg]) (λj us H'=>Same H16 H'/\us=((fs.map V.int ++ [gv fg]).take j).filter qtk) (Nat.le_of_lt (qah (by omega))) ⟨Same.refl _,rfl⟩ (λj us H' h'=>⟨SqL.of (h'.1 _ _ hle16),by rw[h'.2];exact qpj _ _⟩) ?_ ?_⟩
   ·rintro j x us H17 hj ⟨s17,rfl⟩
    refine ⟨_,rfl,rfl,_,rfl,qcj (λz=>?_) λz=>?_⟩
    ·exact ⟨_,rfl,s17,(qw4 hj z).symm⟩
    ·exact ⟨s17,(qw5 hj z).symm⟩
   rintro us H17 lf H18 ⟨s17,rfl⟩ n18;rw[List.take_length,known] at n18;have s1618:=s17.trans n18.same;have fgl:fg.toList.length<=1:=by cases fg<;>simp
   refine ⟨l2,lf,_,_,rfl,rfl,s1618 _ _ h162,n18.at_,Nat.le_of_lt (qah (by rw[List.length_map,List.length_map,List.length_append];omega)),λl3 H19 n19=>?_⟩;have s1619:=s1618.trans n19.same;refine ⟨s016.trans s1619,_,_,l3,gs ++ (fs ++ fg.toList),_,_,_,_,_,_,_,_,_,s1619 _ _ h16,rd16.same s1619,?_,?_,?_,?_,?_,?_,?_,rfl⟩
   ·intro r hr
    rcases List.mem_append.mp hr with z|z
    ·exact rf r z
    ·rw[List.mem_singleton.mp z];exact R15.rdf h6
   ·rw[List.length_append,ln];rfl
   ·rw[List.map_append];exact n19.at_
   ·intro z;exact gne (List.append_eq_nil_iff.mp z).1
   ·rw[List.length_append,List.length_append];omega
   ·intro r hr z ez
    rcases List.mem_append.mp hr with y|y
    ·exact List.mem_append_left _ (gm r y z ez)
    ·rw[List.mem_singleton.mp y] at ez
     have ez:c'.ge=some z:=ez;rw[R15.qh] at ez;exact List.mem_append_right _ (List.mem_append_right _ (by rw[ez];exact List.mem_cons_self))
   ·intro r hr
    rcases List.mem_append.mp hr with z|z
    ·exact ap r z
    ·rw[List.mem_singleton.mp z];exact ap1
  ·rintro σ H3 ⟨s3,ys,rs,l2,gs,v4,v5,v6,v7,v8,v9,v10,v11,v12,h31,rd,rf,ln,h32,gne,gln,gm,ap,rfl⟩
   refine ⟨_,rfl,_,rfl,l2,gs,rfl,SqL.of h32,List.length_pos_iff.mpr gne,λm hm hmx=>⟨by show 2<=sizeLine;decide,λp H4 n4=>?_⟩⟩;exact q p l1 m ys rs H4 (s3.trans n4.same) n4.at_ (n4.same _ _ h31) (rd.same n4.same) rf (by omega) λr hr z ez=>hmx z (gm r hr z ez)
inductive qqi (C R N G:Addr) (vs:List V) (H:Hp) (Q:VK) (E_:XK):Prop
 | mk:∀ (w:Str) (l:Addr) (xs:List V) (rs:List RD) (a b:Option Int),vs=[.str w,.ref l,gv a,gv b]->H l=some (.lst xs)->Rds C R H xs rs->(∀ r∈rs,RdF r)->rs.length<=4->((∀ k,k<5->w≠wd k)->∀ p ex H',Same H H'->H' p=some (.tup [.non,.ref ex])->H' ex=some (qod ex (.ref N) none)->Q (.ref p) H')->(∀ k,k<5->w=wd k->(qmz (gMx rs) a->∀ p ex dx H',Same H H'->H' p=some (.tup [.non,.ref ex])->H' ex=some (qod ex (.ref G) (some dx))->H' dx=some (.xd [("edge",gv (gMx rs))])->Q (.ref p) H')/\(¬ qmz (gMx rs) a->∀ p t x y H',Same H H'->H' p=some (.tup [.ref t,.non])->H' t=some (.tup [x,y])->(qwf k a b rs->x=.non/\y=.non)->(¬ qwf k a b rs->x≠.non/\y≠.non)->Q (.ref p) H'))->qqi C R N G vs H Q E_
theorem qwg {H:Hp} {k:Nat} {hs ps:List HP4} {x y:V} (hk:k<5) (ok:HsOk hs) (le:∀ h∈hs,h.2.2.1<=h.2.2.2) (pok:PsOk ps) (told:qp7 H k hs ps x y):(NoE k hs ps->x=.non/\y=.non)/\(¬ NoE k hs ps->x≠.non/\y≠.non):=by
 by_cases ne:hs≠[]\/ps≠[]
 ·obtain ⟨z1,n1,z2,n2,f⟩:=qp8 hk ok le pok ne told
  exact ⟨fun ⟨_,e1,e2⟩=>(ne.elim (λz=>z e1) λz=>z e2).elim,λ_=>⟨f.x.ne_non,f.y.ne_non⟩⟩
 ·have e1:hs=[]:=Classical.byContradiction λz=>ne (.inl z)
  have e2:ps=[]:=Classical.byContradiction λz=>ne (.inr z)
  subst e1 e2;have hc:k=0\/k=1\/k=2\/k=3\/k=4:=by omega
  rcases hc with rfl|rfl|rfl|rfl|rfl
  ·obtain ⟨rfl,rfl⟩:=told
   exact ⟨λz=>absurd z.1 (by decide),λ_=>⟨(λz=>by cases z),λz=>by cases z⟩⟩
  ·obtain ⟨rs,_,rfl,rfl⟩:=told
   exact ⟨λz=>absurd z.1 (by decide),λ_=>⟨(λz=>by cases z),λz=>by cases z⟩⟩
  ·rcases told with ⟨_,_,e1,e2⟩|⟨a,b,_,_,h1,_⟩
   ·exact ⟨λ_=>⟨e1,e2⟩,λz=>absurd ⟨by decide,rfl,rfl⟩ z⟩
   ·cases h1.1
  ·rcases told with ⟨_,_,e1,e2⟩|⟨a,b,_,_,h1,_⟩
   ·exact ⟨λ_=>⟨e1,e2⟩,λz=>absurd ⟨by decide,rfl,rfl⟩ z⟩
   ·cases h1.1
  ·rcases told with ⟨_,_,e1,e2⟩|⟨p,q,rs,a,b,c,d,_,_,_,_,pm,_,ne,_⟩
   ·exact ⟨λ_=>⟨e1,e2⟩,λz=>absurd ⟨by decide,rfl,rfl⟩ z⟩
   ·rcases ne with z|z
    ·exact absurd rfl z
    ·exact absurd (List.perm_nil.mp pm) z
theorem quo {k:Nat} {a b:Option Int} {rs:List RD} {hs ps:List HP4} (ek:qj0 a b rs=hs.map j4) (ep:qjs a b rs=ps.map j4):NoE k hs ps↔qwf k a b rs:=by
 unfold NoE qwf;rw[ek,ep,List.map_eq_nil_iff,List.map_eq_nil_iff]
include T in
theorem qrj:qaw P w K mg base 7 "_law_ask" ["_law_word", "_law_rolls_here", "_law_a", "_law_b"] (qqi C_Roll C_Rule C_NoAsk C_Gone):=by
 obtain ⟨f,fd,F,hm⟩:=T.f__law_ask;have nd:=sc__law_ask.nd;refine F.def_ hm (F.ok sc__law_ask (λvs H Q E h=>?_) (λcdv A outer s H vs Q E hr h=>?_)) (F.binds λ_ _ _ _ _ _ us hl=>by obtain ⟨_,_,_,_,rfl⟩:=L2.lq4 hl;rfl)
 ·obtain ⟨w,l,xs,rs,a,b,rfl,_⟩:=h;rfl
 ·obtain ⟨wo,l,xs,rs,a,b,rfl,hl,rd,rf,ln,qN,q⟩:=h
  obtain ⟨hs,ps,ek,ep,ok,pok,le⟩:=quk rf ln a b;refine ⟨_,(jB4 (jS 4 nd qau) (jS 5 nd qau) (qww (j:=6) ⟨rfl,rfl,rfl⟩ nd rfl rfl rfl rfl T.mg_BookError T.kx_BookError.kt (λ_ _=>(qac (jS 5 nd (qsn (dvs:=[]) (qbb ⟨rfl,rfl,rfl⟩) (qui T) (hr.mono (by decide)) rfl .nil (jA4 (pv 0) (pv 1) (pv 2) (pv 3)))))) (λ_ _=>(qac (jS 4 nd (pv 6))))) (qaf (qao (jA2 (pv 5) (pv 4))))),?_⟩;refine ⟨_,rfl,_,rfl,_,rfl,_,rfl,wo,l,xs,rs,a,b,rfl,hl,rd,by omega,λnw=>⟨⟨C_NoAsk,rfl,T.kx_NoAsk.kt,T.hit_NoAsk_BookError⟩,λex H1 n1=>?_⟩,λk hk e=>⟨λbd dx H1 H2 s1 n2=>⟨⟨C_Gone,rfl,T.kx_Gone.kt,T.hit_Gone_BookError⟩,λex H3 n3=>?_⟩,λnb=>?_⟩⟩
  ·exact ⟨_,rfl,_,rfl,_,rfl,by show 2<=sizeLine;decide,λp H2 n2=>qN nw p ex H2 (n1.same.trans n2.same) n2.at_ (n2.same _ _ n1.at_)⟩
  ·exact ⟨_,rfl,_,rfl,_,rfl,by show 2<=sizeLine;decide,λp H4 n4=>(q k hk e).1 bd p ex dx H4 (s1.trans (n2.same.trans (n3.same.trans n4.same))) n4.at_ (n4.same _ _ n3.at_) (n4.same _ _ (n3.same _ _ n2.at_))⟩
  ·have q:=(q k hk e).2 nb
   refine ⟨hs,ps,ek,ep,ok,pok,λt x y H1 s1 ht told=>⟨_,rfl,_,rfl,by show 2<=sizeLine;decide,λp H2 n2=>?_⟩⟩;have tn:=qwg hk ok le pok told;exact q p t x y H2 (s1.trans n2.same) n2.at_ (n2.same _ _ ht) (λz=>tn.1 ((quo ek ep).mpr z)) λz=>tn.2 λy=>z ((quo ek ep).mp y)
inductive qny (C R N G A:Addr) (vs:List V) (H:Hp) (Q:VK) (E_:XK):Prop
 | mk:∀ (w:Str) (l:Addr) (xs:List V) (rs:List RD) (a b:Option Int) (hi:Bool),vs=[.str w,.ref l,gv a,gv b,.bl hi]->H l=some (.lst xs)->Rds C R H xs rs->(∀ r∈rs,RdF r)->rs.length<=4->((∀ k,k<5->w≠wd k)->∀ p ex H',Same H H'->H' p=some (.tup [.non,.ref ex])->H' ex=some (qod ex (.ref N) none)->Q (.ref p) H')->(∀ k,k<5->w=wd k->(qmz (gMx rs) a->∀ p ex dx H',Same H H'->H' p=some (.tup [.non,.ref ex])->H' ex=some (qod ex (.ref G) (some dx))->H' dx=some (.xd [("edge",gv (gMx rs))])->Q (.ref p) H')/\(¬ qmz (gMx rs) a->(qwf k a b rs->∀ p ex H',Same H H'->H' p=some (.tup [.non,.ref ex])->H' ex=some (qod ex (.ref A) none)->Q (.ref p) H')/\(¬ qwf k a b rs->∀ p t ys H',Same H H'->H' p=some (.tup [.ref t,.non])->H' t=some (.lst ys)->ys.length=rs.length->Q (.ref p) H')))->qny C R N G A vs H Q E_
include T in
theorem qjq:qaw P w K mg base 7 "_law_show" ["_law_word", "_law_rolls_here", "_law_a", "_law_b", "_law_high"] (qny C_Roll C_Rule C_NoAsk C_Gone C_NoAnswer):=by
 obtain ⟨f,fd,F,hm⟩:=T.f__law_show;have nd:=sc__law_show.nd;refine F.def_ hm (F.ok sc__law_show (λvs H Q E h=>?_) (λcdv A outer s H vs Q E hr h=>?_)) (F.binds λ_ _ _ _ _ _ us hl=>by obtain ⟨_,_,_,_,_,rfl⟩:=L2.lq5 hl;rfl)
 ·obtain ⟨w,l,xs,rs,a,b,hi,rfl,_⟩:=h;rfl
 ·obtain ⟨wo,l,xs,rs,a,b,hi,rfl,hl,rd,rf,ln,qN,q⟩:=h
  refine ⟨_,(jB4 (jS 5 nd qau) (jS 6 nd qau) (qww (j:=7) ⟨rfl,rfl,rfl⟩ nd rfl rfl rfl rfl T.mg_BookError T.kx_BookError.kt (λ_ _=>(qac (jS 6 nd (jW (qze T) hr (jA5 (pv 0) (pv 1) (pv 2) (pv 3) (pv 4)))))) (λ_ _=>(qac (jS 5 nd (pv 7))))) (qaf (qao (jA2 (pv 6) (pv 5))))),?_⟩;refine ⟨_,rfl,_,rfl,_,rfl,_,rfl,_,rfl,wo,l,xs,rs,a,b,hi,rfl,hl,rd,rf,ln,λnw=>⟨⟨C_NoAsk,rfl,T.kx_NoAsk.kt,T.hit_NoAsk_BookError⟩,λex H1 n1=>?_⟩,λk hk e=>⟨λbd dx H1 H2 s1 n2=>⟨⟨C_Gone,rfl,T.kx_Gone.kt,T.hit_Gone_BookError⟩,λex H3 n3=>?_⟩,λnb=>⟨λz H1 s1=>⟨⟨C_NoAnswer,rfl,T.kx_NoAnswer.kt,T.hit_NoAnswer_BookError⟩,λex H2 n2=>?_⟩,λz t ys H1 s1 ht ly=>?_⟩⟩⟩
  ·exact ⟨_,rfl,_,rfl,_,rfl,by show 2<=sizeLine;decide,λp H2 n2=>qN nw p ex H2 (n1.same.trans n2.same) n2.at_ (n2.same _ _ n1.at_)⟩
  ·exact ⟨_,rfl,_,rfl,_,rfl,by show 2<=sizeLine;decide,λp H4 n4=>(q k hk e).1 bd p ex dx H4 (s1.trans (n2.same.trans (n3.same.trans n4.same))) n4.at_ (n4.same _ _ n3.at_) (n4.same _ _ (n3.same _ _ n2.at_))⟩
  ·exact ⟨_,rfl,_,rfl,_,rfl,by show 2<=sizeLine;decide,λp H3 n3=>((q k hk e).2 nb).1 z p ex H3 (s1.trans (n2.same.trans n3.same)) n3.at_ (n3.same _ _ n2.at_)⟩
  ·exact ⟨_,rfl,_,rfl,by show 2<=sizeLine;decide,λp H2 n2=>((q k hk e).2 nb).2 z p t ys H2 (s1.trans n2.same) n2.at_ (n2.same _ _ ht) ly⟩
theorem lk1 (f:Str) (v:V):[(f,v)].lookup f=some v:=by rw[List.lookup_cons];simp
theorem qk0 {j k:Nat} (hj:j<5) (hk:k<5) (h:wd j=wd k):j=k:=by
 have:∀ j<5,∀ k<5,wd j=wd k->j=k:=by decide +kernel
 exact this j hj k hk h
def qrk (N G:Addr):Sp:=λvs H Q _=>∃ (e1 e2:Addr),vs=[.ref e1,.ref e2]/\((H e1=some (qod e1 (.ref N) none)/\H e2=some (qod e2 (.ref N) none))\/∃ (d1 d2:Addr) (z:Int),H e1=some (qod e1 (.ref G) (some d1))/\H e2=some (qod e2 (.ref G) (some d2))/\H d1=some (.xd [("edge",.int z)])/\H d2=some (.xd [("edge",.int z)]))/\Q (.bl true) H
include T in
theorem qnz:qaw P w K mg base 1 "_law_alike" ["_law_found", "_law_due"] (qrk C_NoAsk C_Gone):=by
 obtain ⟨f,fd,F,hm⟩:=T.f__law_alike;have nd:=sc__law_alike.nd;refine F.def_ hm (F.ok sc__law_alike (λvs H Q E h=>?_) (λcdv A outer s H vs Q E hr h=>?_)) (F.binds λ_ _ _ _ _ _ us hl=>by obtain ⟨_,_,rfl⟩:=L2.lq2 hl;rfl)
 ·obtain ⟨e1,e2,rfl,_⟩:=h;rfl
 ·obtain ⟨e1,e2,rfl,hc,q⟩:=h
  obtain ⟨fB,fdB,FB,hE⟩:=T.f_Gone_init;refine ⟨_,(jB2 (qav (qco (qag (qb4 (K:=K) rfl) rfl T.b_isinstance qar (jA2 (pv 1) (qdd (v:=.ref C_Gone) rfl T.mg_Gone rfl)))) (qac (qaf (qdx (qag (qb4 (K:=K) rfl) rfl T.b_isinstance qar (jA2 (pv 0) (qdd (v:=.ref C_Gone) rfl T.mg_Gone rfl))) (qdx (qrr (qag (qb4 (K:=K) rfl) rfl T.b_isinstance qar (jA2 (pv 0) (qdd (v:=.ref C_NoAsk) rfl T.mg_NoAsk rfl)))) (qh0 (jD qb0 (qs6 (K:=K) rfl (pv 0) rfl) (qs6 (K:=K) rfl (pv 1) rfl))))))) qam) (qaf (qdx (qag (qb4 (K:=K) rfl) rfl T.b_isinstance qar (jA2 (pv 1) (qdd (v:=.ref C_NoAsk) rfl T.mg_NoAsk rfl))) (qdx (qag (qb4 (K:=K) rfl) rfl T.b_isinstance qar (jA2 (pv 0) (qdd (v:=.ref C_NoAsk) rfl T.mg_NoAsk rfl))) (qh0 (qrr (qag (qb4 (K:=K) rfl) rfl T.b_isinstance qar (jA2 (pv 0) (qdd (v:=.ref C_Gone) rfl T.mg_Gone rfl))))))))),?_⟩
  rcases hc with ⟨h1,h2⟩|⟨d1,d2,z,h1,h2,hd1,hd2⟩
  ·refine ⟨_,rfl,e2,C_NoAsk,none,.ref C_Gone,false,rfl,h2,T.kx_NoAsk,(λ_ z=>by cases z),T.is_NoAsk_Gone,_,rfl,qgl ?_⟩
   refine ⟨_,rfl,e2,C_NoAsk,none,.ref C_NoAsk,true,rfl,h2,T.kx_NoAsk,(λ_ z=>by cases z),T.is_NoAsk_NoAsk,true,rfl,?_⟩;refine ⟨_,rfl,e1,C_NoAsk,none,.ref C_NoAsk,true,rfl,h1,T.kx_NoAsk,(λ_ z=>by cases z),T.is_NoAsk_NoAsk,true,rfl,?_⟩;exact ⟨_,rfl,e1,C_NoAsk,none,.ref C_Gone,false,rfl,h1,T.kx_NoAsk,(λ_ z=>by cases z),T.is_NoAsk_Gone,false,rfl,q⟩
  ·refine ⟨_,rfl,e2,C_Gone,some d2,.ref C_Gone,true,rfl,h2,T.kx_Gone,(λ_ z=>by cases z;exact ⟨_,hd2⟩),T.is_Gone_Gone,_,rfl,qd2 ?_⟩
   refine ⟨_,rfl,e1,C_Gone,some d1,.ref C_Gone,true,rfl,h1,T.kx_Gone,(λ_ z=>by cases z;exact ⟨_,hd1⟩),T.is_Gone_Gone,true,rfl,?_⟩;refine ⟨_,rfl,e1,C_Gone,some d1,.ref C_NoAsk,false,rfl,h1,T.kx_Gone,(λ_ z=>by cases z;exact ⟨_,hd1⟩),T.is_Gone_NoAsk,false,rfl,?_⟩;refine ⟨true,rfl,?_⟩;refine ⟨_,rfl,e1,C_Gone,d1,_,_,rfl,h1,hd1,T.kx_Gone,hE.hd,hE.na,lk1 _ _,?_⟩;refine ⟨_,rfl,e2,C_Gone,d2,_,_,rfl,h2,hd2,T.kx_Gone,hE.hd,hE.na,lk1 _ _,?_⟩;refine ⟨rfl,?_⟩;rw[show decide (V.int z=V.int z)=true from decide_eq_true rfl];exact q
theorem qwh (c:Int):∃ wo:Str,atI [V.str "many",V.str "sum",V.str "least",V.str "greatest",V.str "mean",V.str "most",V.str ""] (c % 7)=some (.str wo):=by
 have hk:c % 7=0\/c % 7=1\/c % 7=2\/c % 7=3\/c % 7=4\/c % 7=5\/c % 7=6:=by omega
 rcases hk with e|e|e|e|e|e|e<;>rw[e]<;>exact ⟨_,rfl⟩
structure J52 (C R:Addr) (H:Hp) (l1:Addr) (top:Int) (ys:List V) (rs:List RD):Prop where
 h1:H l1=some (.lst ys)
 rd:Rds C R H ys rs
 rf:∀ r∈rs,RdF r
 ln:rs.length<=4
 tp:∀ r∈rs,∀ z,r.c.ge=some z->z<=top
theorem J52.same {C R:Addr} {H H':Hp} {l1:Addr} {top:Int} {ys:List V} {rs:List RD} (s:Same H H') (h:J52 C R H l1 top ys rs):J52 C R H' l1 top ys rs:=⟨s _ _ h.h1,h.rd.same s,h.rf,h.ln,h.tp⟩
theorem nrm {K:St->Hp->Prop} {σ σ':St} {H:Hp} (e:σ=σ') (h:K σ' H):K σ H:=e ▸ h
theorem qB3 {c:Bool} {P Q:Prop} (h:c=true) (p:P):if c=true then P else Q:=by rw[if_pos h];exact p
theorem if3 {C:TT} {F G REST:TS} {D:Ends} {σ:St} {H:Hp} (c:Bool) (hC:∀ Q:Bool->Hp->Prop,Q c H->C σ H Q) (h:∀ H',Same H H'->REST D σ H') (h1:c=true->(∀ H',Same H H'->REST D σ H')->F { D with nx:=REST D } σ H) (h2:¬ c=true->(∀ H',Same H H'->REST D σ H')->G { D with nx:=REST D } σ H):qck (qzr C F G) REST D σ H:=hC _ (qcj (λz=>h1 z h) λz=>h2 z h)
include T in
theorem qDl {f:Addr} {fd:FuncData} (F:Fun K "law" "law" qy1 f fd):qf6 P w K mg base CX0 11 f fd ["_law_script"] (qw3 K):=by
 have nd:=sc_law.nd;refine F.ok sc_law (λvs H Q E h=>?_) (λcdv A outer s H vs Q E hr h=>?_)
 ·obtain ⟨a,ns,rfl,_⟩:=h;rfl
 ·obtain ⟨a,ns,rfl,hS,hn,k⟩:=h
  refine ⟨_,(qEl (jS 1 nd (jF (qov T) hr (jA1 (jF (qbs T) hr (jA2 (pv 0) qaa))))) (qj3 (jF (qnx T) hr (jA2 (pv 1) (pv 0))) (jG2 (jN 2 nd) (jN 3 nd))) (jS 4 nd (jF (qbs T) hr (jA2 (pv 0) qaa))) (jS 5 nd (jI (qax (qba qb6 (jA6 qb6 qb6 qb6 qb6 qb6 qb6))) (qae qaq (pv 4) qaa))) (jS 6 nd (jD qb0 (qae qaq (qae qbf (pv 4) qaa) qaa) qaa)) (jS 7 nd (jF (qky T) hr (jA2 (pv 1) (qae qa1 (pv 4) qaa)))) (jS 8 nd (jF (qky T) hr (jA2 (pv 1) (qae qa1 (pv 4) qaa)))) (qj3 (jF (qrj T) hr (jA4 (pv 5) (pv 2) (pv 7) (pv 8))) (jG2 (jN 9 nd) (jN 10 nd))) (qj3 (jF (qjq T) hr (jA5 (pv 5) (pv 2) (pv 7) (pv 8) (pv 6))) (jG2 (jN 11 nd) (jN 12 nd))) (qav (jC qd4 (pv 10) qau) (qac (qav (qlz (qco (jF (qnz T) hr (jA2 (pv 12) (pv 10))))) (qac (qaf qlw)) qam)) (qac (qav (jC qc0 (jT (pv 9) (qce qr1 rfl T.b_int qws (jA1 (pv 6)))) qau) (qac (qav (PW.pt (qly (qlz (qco (qag (qb4 (K:=K) rfl) rfl T.b_isinstance qar (jA2 (pv 12) (qdd (v:=.ref C_NoAnswer) rfl T.mg_NoAnswer rfl))))) (qly (qco (qag (qb4 (K:=K) rfl) rfl T.b_isinstance qar (jA2 (pv 12) (qdd (v:=.ref C_NoAsk) rfl T.mg_NoAsk rfl)))) (qj2 (qco (qag (qb4 (K:=K) rfl) rfl T.b_isinstance qar (jA2 (pv 12) (qdd (v:=.ref C_Gone) rfl T.mg_Gone rfl)))))))) (qac (qaf qlw)) qam)) (qac (qav (PW.pt (qly (jC qd4 (pv 12) qau) (qly (qlz (qco (qag qfe rfl T.b_isinstance qar (jA2 (pv 11) (qhy (v:=.ty "list") rfl T.b_list qds rfl))))) (qj2 (jC qxn (qag qal rfl T.b_len qbn (jA1 (pv 11))) (qag qal rfl T.b_len qbn (jA1 (pv 2)))))))) (qac (qaf qlw)) qam))))) (qj3 (jF (qjq T) hr (jA5 qb6 (pv 2) (pv 3) qau (pv 6))) (jG2 (jN 11 nd) (jN 12 nd))) (qaf (qdx (jD qc0 (pv 12) qau) (qdx (qag qfe rfl T.b_isinstance qar (jA2 (pv 11) (qhy (v:=.ty "list") rfl T.b_list qds rfl))) (qh0 (jD qb0 (qag qal rfl T.b_len qbn (jA1 (pv 11))) (qag qal rfl T.b_len qbn (jA1 (pv 2))))))))),?_⟩;refine ⟨_,rfl,a,ns,0,rfl,hS,by decide,λc0=>⟨_,rfl,λt l xs ps g H1 s1 ht hl hx D=>?_⟩⟩;have hS1:=qiq s1 hS;clear s1;refine ⟨_,rfl,_,rfl,t,l,xs,ps,g,a,ns,rfl,ht,hl,hx,D,hS1,λp l1 top ys rs H2 s2 hp h1 rd rf ln tp=>?_⟩;refine ⟨p,_,rfl,SqT.of hp,rfl,_,_,rfl,_,_,rfl,rfl,?_⟩;have J2:J52 C_Roll C_Rule H2 l1 top ys rs:=⟨h1,rd,rf,ln,tp⟩;have ht2:=s2 _ _ ht;have hl2:=s2 _ _ hl;have hx2:=hx.same s2;have hS2:=qiq s2 hS1;clear hp h1 rd rf ln tp s2 ht hl hx hS1;refine ⟨_,rfl,a,ns,3,rfl,hS2,by decide,λc3=>⟨by show 7<=sizeLine;decide,λlw H3 n3=>?_⟩⟩;obtain ⟨wo,hwo⟩:=qwh c3;have s3:=n3.same;have ht3:=s3 _ _ ht2;have hl3:=s3 _ _ hl2;have hx3:=hx2.same s3;have J3:=J2.same s3;refine ⟨_,rfl,_,_,rfl,rfl,(by first|decide|(dsimp only;decide)),lw,_,_,_,rfl,rfl,SqL.of n3.at_,hwo,_,rfl,_,_,rfl,rfl,⟨by decide,by decide⟩,_,_,rfl,rfl,(by first|decide|(dsimp only;decide)),rfl,_,rfl,_,rfl,_,_,rfl,rfl,t,l,xs,ps,g,_,rfl,ht3,hl3,hx3,D,λoa H4 s4=>⟨_,rfl,_,rfl,_,_,rfl,rfl,t,l,xs,ps,g,_,rfl,s4 _ _ ht3,s4 _ _ hl3,hx3.same s4,D,λob H5 s5=>?_⟩⟩;have J5:=(J3.same s4).same s5;clear J2 n3 s3 ht2 hl2 hx2 hS2 J3 s4 s5 ht3 hl3 hx3 hwo D
  generalize decide (V.int (c3 / 7 % 2)=V.int 1)=b
  have ylen:=J5.rd.length;refine qb8 (nrm (σ':=[some (.ref a),some (.ref t),some (.ref l1),some (.int top),some (.int c3),some (.str wo),some (.bl b),some (gv oa),some (gv ob),none,none,none,none]) rfl ?_);refine ⟨_,rfl,_,rfl,_,rfl,_,rfl,wo,l1,ys,rs,oa,ob,rfl,J5.h1,J5.rd,J5.rf,J5.ln,λnw p ex H6 s6 hp hex=>?_,λkk hk e=>⟨λbd p ex dx H6 s6 hp hex hdx=>?_,λnb p td x y H6 s6 hp htd eN eY=>?_⟩⟩
  ·refine ⟨p,_,rfl,SqT.of hp,rfl,_,_,rfl,_,_,rfl,rfl,nrm (σ':=[some (.ref a),some (.ref t),some (.ref l1),some (.int top),some (.int c3),some (.str wo),some (.bl b),some (gv oa),some (gv ob),some .non,some (.ref ex),none,none]) rfl ?_⟩
   have J:=J5.same s6;refine ⟨_,rfl,_,rfl,_,rfl,_,rfl,_,rfl,wo,l1,ys,rs,oa,ob,b,rfl,J.h1,J.rd,J.rf,J.ln,λ_ p2 ex2 H7 s6 hp2 hex2=>?_,λkk hk e=>absurd e (nw kk hk)⟩;refine ⟨p2,_,rfl,SqT.of hp2,rfl,_,_,rfl,_,_,rfl,rfl,nrm (σ':=[some (.ref a),some (.ref t),some (.ref l1),some (.int top),some (.int c3),some (.str wo),some (.bl b),some (gv oa),some (gv ob),some .non,some (.ref ex),some .non,some (.ref ex2)]) rfl ?_⟩;dsimp only;refine if3 true (λQ hQ=>⟨_,rfl,rfl,_,rfl,hQ⟩) (λH' s'=>by
    refine ⟨_,rfl,_,rfl,_,rfl, "many",l1,ys,rs,some top,none,b,rfl,s' _ _ (s6 _ _ J.h1),(J.rd.same s6).same s',J.rf,J.ln,λnw=>absurd rfl (nw 0 (by decide)),λk2 hk2 e2=>⟨λbd=>absurd bd (qer J.tp),λ_=>⟨λz=>?_,λ_ pz tz yz Hz sz hpz htz lyz=>?_⟩⟩⟩
    ·have:k2=0:=qk0 hk2 (by decide) e2.symm
     have:=z.1;omega
    refine ⟨pz,_,rfl,SqT.of hpz,rfl,_,_,rfl,_,_,rfl,rfl,nrm (σ':=[some (.ref a),some (.ref t),some (.ref l1),some (.int top),some (.int c3),some (.str wo),some (.bl b),some (gv oa),some (gv ob),some .non,some (.ref ex),some (.ref tz),some .non]) rfl ?_⟩;have hz1:=sz _ _ (s' _ _ (s6 _ _ J.h1));have lz:(yz.length:Int)=(ys.length:Int):=by rw[lyz,<- J.rd.length]
    refine ⟨_,rfl,rfl,_,rfl,qB3 (decide_eq_true rfl) ⟨_,rfl,_, "list",_,true,rfl,TyOf.lst htz,qep _,true,rfl,_,rfl,tz,yz,rfl,.inl (SqL.of htz),_,rfl,l1,ys,rfl,.inl (SqL.of hz1),rfl,?_⟩⟩
    show Q (V.bl (decide (V.int (yz.length:Int)=V.int (ys.length:Int)))) Hz
    rw[lz,decide_eq_true rfl];exact k Hz) (λ_ h=>?_) λz=>absurd rfl z
   exact ⟨_,rfl,_,rfl,ex2,ex,rfl,.inl ⟨hex2,s6 _ _ hex⟩,_,rfl,qgl (h H7 (Same.refl _))⟩
  ·refine ⟨p,_,rfl,SqT.of hp,rfl,_,_,rfl,_,_,rfl,rfl,nrm (σ':=[some (.ref a),some (.ref t),some (.ref l1),some (.int top),some (.int c3),some (.str wo),some (.bl b),some (gv oa),some (gv ob),some .non,some (.ref ex),none,none]) rfl ?_⟩
   have J:=J5.same s6;refine ⟨_,rfl,_,rfl,_,rfl,_,rfl,_,rfl,wo,l1,ys,rs,oa,ob,b,rfl,J.h1,J.rd,J.rf,J.ln,λnw=>absurd e (nw kk hk),λk3 hk3 e3=>⟨λ_ p2 ex2 dx2 H7 s6 hp2 hex2 hdx2=>?_,λnb=>absurd bd nb⟩⟩;obtain ⟨z,ez,_⟩:=bd;rw[ez] at hdx hdx2;refine ⟨p2,_,rfl,SqT.of hp2,rfl,_,_,rfl,_,_,rfl,rfl,nrm (σ':=[some (.ref a),some (.ref t),some (.ref l1),some (.int top),some (.int c3),some (.str wo),some (.bl b),some (gv oa),some (gv ob),some .non,some (.ref ex),some .non,some (.ref ex2)]) rfl ?_⟩;dsimp only;refine if3 true (λQ hQ=>⟨_,rfl,rfl,_,rfl,hQ⟩) (λH' s'=>by
    refine ⟨_,rfl,_,rfl,_,rfl, "many",l1,ys,rs,some top,none,b,rfl,s' _ _ (s6 _ _ J.h1),(J.rd.same s6).same s',J.rf,J.ln,λnw=>absurd rfl (nw 0 (by decide)),λk2 hk2 e2=>⟨λbd=>absurd bd (qer J.tp),λ_=>⟨λz=>?_,λ_ pz tz yz Hz sz hpz htz lyz=>?_⟩⟩⟩
    ·have:k2=0:=qk0 hk2 (by decide) e2.symm
     have:=z.1;omega
    refine ⟨pz,_,rfl,SqT.of hpz,rfl,_,_,rfl,_,_,rfl,rfl,nrm (σ':=[some (.ref a),some (.ref t),some (.ref l1),some (.int top),some (.int c3),some (.str wo),some (.bl b),some (gv oa),some (gv ob),some .non,some (.ref ex),some (.ref tz),some .non]) rfl ?_⟩;have hz1:=sz _ _ (s' _ _ (s6 _ _ J.h1));have lz:(yz.length:Int)=(ys.length:Int):=by rw[lyz,<- J.rd.length]
    refine ⟨_,rfl,rfl,_,rfl,qB3 (decide_eq_true rfl) ⟨_,rfl,_, "list",_,true,rfl,TyOf.lst htz,qep _,true,rfl,_,rfl,tz,yz,rfl,.inl (SqL.of htz),_,rfl,l1,ys,rfl,.inl (SqL.of hz1),rfl,?_⟩⟩
    show Q (V.bl (decide (V.int (yz.length:Int)=V.int (ys.length:Int)))) Hz
    rw[lz,decide_eq_true rfl];exact k Hz) (λ_ h=>?_) λz=>absurd rfl z
   exact ⟨_,rfl,_,rfl,ex2,ex,rfl,.inr ⟨dx2,dx,z,hex2,s6 _ _ hex,hdx2,s6 _ _ hdx⟩,_,rfl,qgl (h H7 (Same.refl _))⟩
  ·refine ⟨p,_,rfl,SqT.of hp,rfl,_,_,rfl,_,_,rfl,rfl,nrm (σ':=[some (.ref a),some (.ref t),some (.ref l1),some (.int top),some (.int c3),some (.str wo),some (.bl b),some (gv oa),some (gv ob),some (.ref td),some .non,none,none]) rfl ?_⟩
   have J:=J5.same s6;refine ⟨_,rfl,_,rfl,_,rfl,_,rfl,_,rfl,wo,l1,ys,rs,oa,ob,b,rfl,J.h1,J.rd,J.rf,J.ln,λnw=>absurd e (nw kk hk),λk3 hk3 e3=>⟨λbd=>absurd bd nb,λ_=>⟨λne p2 ex2 H7 s6 hp2 hex2=>?_,λne p2 t2 y2 H7 s6 hp2 ht2 l2=>?_⟩⟩⟩
   ·obtain rfl:=qk0 hk hk3 (e.symm.trans e3)
    obtain ⟨rfl,rfl⟩:=eN ne;have htd7:=s6 _ _ htd;refine ⟨p2,_,rfl,SqT.of hp2,rfl,_,_,rfl,_,_,rfl,rfl,nrm (σ':=[some (.ref a),some (.ref t),some (.ref l1),some (.int top),some (.int c3),some (.str wo),some (.bl b),some (gv oa),some (gv ob),some (.ref td),some .non,some .non,some (.ref ex2)]) rfl ?_⟩;dsimp only;refine if3 false (λQ hQ=>⟨_,rfl,rfl,_,rfl,hQ⟩) (λH' s'=>by
    refine ⟨_,rfl,_,rfl,_,rfl, "many",l1,ys,rs,some top,none,b,rfl,s' _ _ (s6 _ _ J.h1),(J.rd.same s6).same s',J.rf,J.ln,λnw=>absurd rfl (nw 0 (by decide)),λk2 hk2 e2=>⟨λbd=>absurd bd (qer J.tp),λ_=>⟨λz=>?_,λ_ pz tz yz Hz sz hpz htz lyz=>?_⟩⟩⟩
    ·have:k2=0:=qk0 hk2 (by decide) e2.symm
     have:=z.1;omega
    refine ⟨pz,_,rfl,SqT.of hpz,rfl,_,_,rfl,_,_,rfl,rfl,nrm (σ':=[some (.ref a),some (.ref t),some (.ref l1),some (.int top),some (.int c3),some (.str wo),some (.bl b),some (gv oa),some (gv ob),some (.ref td),some .non,some (.ref tz),some .non]) rfl ?_⟩;have hz1:=sz _ _ (s' _ _ (s6 _ _ J.h1));have lz:(yz.length:Int)=(ys.length:Int):=by rw[lyz,<- J.rd.length]
    refine ⟨_,rfl,rfl,_,rfl,qB3 (decide_eq_true rfl) ⟨_,rfl,_, "list",_,true,rfl,TyOf.lst htz,qep _,true,rfl,_,rfl,tz,yz,rfl,.inl (SqL.of htz),_,rfl,l1,ys,rfl,.inl (SqL.of hz1),rfl,?_⟩⟩
    show Q (V.bl (decide (V.int (yz.length:Int)=V.int (ys.length:Int)))) Hz
    rw[lz,decide_eq_true rfl];exact k Hz) (λz=>by cases z) λ_ h=>?_
    have hat:atI [V.non,V.non] (if b=true then 1 else 0)=some .non:=by cases b<;>rfl
    refine ⟨_,rfl,_,rfl,.inr ⟨b,rfl,td,_,_,_,rfl,rfl,SqT.of htd7,hat,rfl,_,rfl,qd2 ?_⟩⟩;refine ⟨_,rfl,ex2,C_NoAnswer,none,.ref C_NoAnswer,true,rfl,hex2,T.kx_NoAnswer,(λ_ z=>by cases z),T.is_NoAnswer_NoAnswer,_,rfl,qgl ?_⟩;refine ⟨_,rfl,ex2,C_NoAnswer,none,.ref C_NoAsk,false,rfl,hex2,T.kx_NoAnswer,(λ_ z=>by cases z),T.is_NoAnswer_NoAsk,_,rfl,qgl ?_⟩;exact ⟨_,rfl,ex2,C_NoAnswer,none,.ref C_Gone,false,rfl,hex2,T.kx_NoAnswer,(λ_ z=>by cases z),T.is_NoAnswer_Gone,_,rfl,qgl (h H7 (Same.refl _))⟩
   ·obtain rfl:=qk0 hk hk3 (e.symm.trans e3)
    obtain ⟨nx,ny⟩:=eY ne;have htd7:=s6 _ _ htd;refine ⟨p2,_,rfl,SqT.of hp2,rfl,_,_,rfl,_,_,rfl,rfl,nrm (σ':=[some (.ref a),some (.ref t),some (.ref l1),some (.int top),some (.int c3),some (.str wo),some (.bl b),some (gv oa),some (gv ob),some (.ref td),some .non,some (.ref t2),some .non]) rfl ?_⟩;dsimp only;refine if3 false (λQ hQ=>⟨_,rfl,rfl,_,rfl,hQ⟩) (λH' s'=>by
    refine ⟨_,rfl,_,rfl,_,rfl, "many",l1,ys,rs,some top,none,b,rfl,s' _ _ (s6 _ _ J.h1),(J.rd.same s6).same s',J.rf,J.ln,λnw=>absurd rfl (nw 0 (by decide)),λk2 hk2 e2=>⟨λbd=>absurd bd (qer J.tp),λ_=>⟨λz=>?_,λ_ pz tz yz Hz sz hpz htz lyz=>?_⟩⟩⟩
    ·have:k2=0:=qk0 hk2 (by decide) e2.symm
     have:=z.1;omega
    refine ⟨pz,_,rfl,SqT.of hpz,rfl,_,_,rfl,_,_,rfl,rfl,nrm (σ':=[some (.ref a),some (.ref t),some (.ref l1),some (.int top),some (.int c3),some (.str wo),some (.bl b),some (gv oa),some (gv ob),some (.ref td),some .non,some (.ref tz),some .non]) rfl ?_⟩;have hz1:=sz _ _ (s' _ _ (s6 _ _ J.h1));have lz:(yz.length:Int)=(ys.length:Int):=by rw[lyz,<- J.rd.length]
    refine ⟨_,rfl,rfl,_,rfl,qB3 (decide_eq_true rfl) ⟨_,rfl,_, "list",_,true,rfl,TyOf.lst htz,qep _,true,rfl,_,rfl,tz,yz,rfl,.inl (SqL.of htz),_,rfl,l1,ys,rfl,.inl (SqL.of hz1),rfl,?_⟩⟩
    show Q (V.bl (decide (V.int (yz.length:Int)=V.int (ys.length:Int)))) Hz
    rw[lz,decide_eq_true rfl];exact k Hz) (λz=>by cases z) λ_ h=>?_
    obtain ⟨v,hat,nv⟩:∃ v,atI [x,y] (if b=true then 1 else 0)=some v/\v≠.non:=by
     cases b with
     | true=>exact ⟨y,rfl,ny⟩
     | false=>exact ⟨x,rfl,nx⟩
    refine ⟨_,rfl,_,rfl,.inr ⟨b,rfl,td,_,_,_,rfl,rfl,SqT.of htd7,hat,rfl,_,rfl,?_⟩⟩;rw[show decide (v=V.non)=false from decide_eq_false nv];refine qgl ?_;refine ⟨_,rfl,rfl,_,rfl,qgl ?_⟩;have h17:=(J.same s6).h1;have lz:(y2.length:Int)=(ys.length:Int):=by rw[l2,<- ylen]
    refine ⟨_,rfl,_, "list",_,true,rfl,TyOf.lst ht2,qep _,_,rfl,qgl ?_⟩;refine ⟨_,rfl,t2,y2,rfl,.inl (SqL.of ht2),_,rfl,l1,ys,rfl,.inl (SqL.of h17),rfl,_,rfl,?_⟩;rw[show (!decide (V.int (y2.length:Int)=V.int (ys.length:Int)))=false by rw[lz,decide_eq_true rfl];rfl];exact qgl (h H7 (Same.refl _))
end
theorem walk {l:PySem.W.OpenLaw} {q:Program} {loose:List Str} {XP:(Str->Option Value)->Heap->Prop} {YP:World->Heap->Prop} {d:DefRec} {K:Params->Frag} (hn:l.most=some 63) (hdf:d.params.defaults=[]) (hdn:d.name = "law")
  (hY:∀ (w:World) (h:Heap),YP w h->(K w.params).In h)
  (F:∀ (w:World) (mg:Str->Option Value) (h:Heap),(K w.params).In h->h.Ns mainGlobals mg->∃ C_Measure C_HowMany C_Total C_Least C_Greatest C_Mean C_Roll C_Rule C_BookError C_NoNumber C_NoRule C_Gone C_NoAsk C_NoAnswer,Txt (K w.params) mg C_Measure C_HowMany C_Total C_Least C_Greatest C_Mean C_Roll C_Rule C_BookError C_NoNumber C_NoRule C_Gone C_NoAsk C_NoAnswer) :
  PySem.W.WalkO q loose XP YP l.row.toRowW d [] (λf vs=>PySem.call f vs):=by
 refine L2.qx1 (n:=63) (k:=11) (x:= "_law_script") (CX:=λ_=>CX0) (sp:=λw=>qw3 (K w.params)) hn (by decide) hdf ⟨rfl,by decide,by decide⟩ hY (λw mg fa h kin ns hm=>?_) (λ_ _ a ns hl _ hS=>⟨a,ns,rfl,hS,hl,λ_=>rfl⟩) λ_ _ _ _ _ z=>z
 obtain ⟨C_Measure,C_HowMany,C_Total,C_Least,C_Greatest,C_Mean,C_Roll,C_Rule,C_BookError,C_NoNumber,C_NoRule,C_Gone,C_NoAsk,C_NoAnswer,T⟩:=F w mg h kin ns;obtain ⟨f,fd,Fu,hm'⟩:=T.f_law;rw[hdn,hm'] at hm;cases hm;refine ⟨fd,?_,λbase kb nb=>qDl T Fu⟩;obtain ⟨oc,od,kV,doc,pm,an,cdv,ct,osl,rfl,lk,hcd⟩:=Fu.ex;exact λs u=>.of_eq rfl
end TB
namespace PySem.W.Fast
theorem tw10910252504907381208:True:=⟨⟩
theorem tw10609587916821136955:True:=⟨⟩
theorem tw2901921765527290711:True:=⟨⟩
theorem tw84761787275359459:True:=⟨⟩
theorem tw4745236057548685504:True:=⟨⟩
theorem tw18015656473365298515:True:=⟨⟩
theorem tw12952886751211040076:True:=⟨⟩
theorem tw9616840006054615938:True:=⟨⟩
theorem tw2305548071944504530:True:=⟨⟩
theorem tw13195684473185970542:True:=⟨⟩
theorem tw16382348243185850320:True:=⟨⟩
theorem tw13821617118040787198:True:=⟨⟩
theorem tw15214776551509216033:True:=⟨⟩
theorem tw2748119575590370670:True:=⟨⟩
theorem tw13727247281828430144:True:=⟨⟩
theorem tw5164240100099376300:True:=⟨⟩
theorem tw12270418462191007396:True:=⟨⟩
theorem tw15908292182437564052:True:=⟨⟩
theorem tw10293580390466700546:True:=⟨⟩
theorem tw7841172513837794:True:=⟨⟩
theorem tw8070037530479620632:True:=⟨⟩
theorem tw3727014791292878283:True:=⟨⟩
theorem tw12712425257128079299:True:=⟨⟩
theorem tw11169773812025242533:True:=⟨⟩
theorem tw86493576378902942:True:=⟨⟩
theorem tw3224598315109629214:True:=⟨⟩
theorem tw3770028506594349887:True:=⟨⟩
theorem tw3955612761839630686:True:=⟨⟩
theorem tw3162177694262007387:True:=⟨⟩
theorem tw9501651547256139672:True:=⟨⟩
theorem tw7187528504972270247:True:=⟨⟩
theorem tw11228485435641383564:True:=⟨⟩
theorem tw14167901086812780116:True:=⟨⟩
theorem tw2346858211458754576:True:=⟨⟩
theorem tw3641677695683940594:True:=⟨⟩
theorem tw37511720398531497:True:=⟨⟩
theorem tw12288924851607320763:True:=⟨⟩
theorem tw16677243186238436919:True:=⟨⟩
theorem tw7163616605928050602:True:=⟨⟩
theorem tw3342303388787098968:True:=⟨⟩
theorem tw11494890459796905116:True:=⟨⟩
theorem tw6472944826927149217:True:=⟨⟩
theorem tw16198994981509326867:True:=⟨⟩
theorem tw17104765815904596532:True:=⟨⟩
theorem tw16647547641467624514:True:=⟨⟩
theorem tw8461512805008153914:True:=⟨⟩
theorem tw6300108213633866626:True:=⟨⟩
theorem tw2157208353310078051:True:=⟨⟩
theorem tw17938005418787966874:True:=⟨⟩
theorem tw12803813599771916362:True:=⟨⟩
theorem tw796026557855300721:True:=⟨⟩
theorem tw10238568130844726036:True:=⟨⟩
theorem tw3510468949128118991:True:=⟨⟩
theorem tw3888956160218202446:True:=⟨⟩
theorem tw2511913830271755875:True:=⟨⟩
theorem tw6414899416123353154:True:=⟨⟩
theorem tw15488802651696774790:True:=⟨⟩
theorem tw9409959787883503133:True:=⟨⟩
theorem tw403392622815994350:True:=⟨⟩
theorem tw14479952677020348788:True:=⟨⟩
theorem tw14468960319920876011:True:=⟨⟩
theorem tw120829028173466414:True:=⟨⟩
theorem tw2887612738518274410:True:=⟨⟩
theorem tw14212492707883035162:True:=⟨⟩
theorem tw16220889075499268200:True:=⟨⟩
theorem tw9955943275107513536:True:=⟨⟩
theorem tw7040773728165446287:True:=⟨⟩
theorem tw427599680952575045:True:=⟨⟩
theorem tw12913490201525030184:True:=⟨⟩
theorem tw8112667632977508839:True:=⟨⟩
theorem tw2948481778653699643:True:=⟨⟩
theorem tw2217486940271360389:True:=⟨⟩
theorem tw14690894422127281429:True:=⟨⟩
theorem tw15377306991820642016:True:=⟨⟩
theorem tw2776303161884323080:True:=⟨⟩
theorem tw12764980805464073838:True:=⟨⟩
theorem tw5688766442161202517:True:=⟨⟩
theorem tw17209987523069856139:True:=⟨⟩
theorem tw12315592657503559958:True:=⟨⟩
theorem tw7061145270699686324:True:=⟨⟩
theorem tw6092157565202681012:True:=⟨⟩
theorem tw9994365590468608366:True:=⟨⟩
theorem tw17035110551909559392:True:=⟨⟩
theorem tw8152539153354984508:True:=⟨⟩
theorem tw3339346508743789319:True:=⟨⟩
theorem tw6257025032218720119:True:=⟨⟩
theorem tw2939141268006809753:True:=⟨⟩
theorem tw1219051658015659094:True:=⟨⟩
theorem tw13095253520952777650:True:=⟨⟩
theorem tw17098161966845200739:True:=⟨⟩
theorem tw16988386950300535916:True:=⟨⟩
theorem tw2945225377450301100:True:=⟨⟩
theorem tw7059700879248853299:True:=⟨⟩
theorem tw3847055359583580309:True:=⟨⟩
theorem tw6235192687027365233:True:=⟨⟩
theorem tw17995576765988005925:True:=⟨⟩
theorem tw15764370076581117406:True:=⟨⟩
theorem tw11801726610259620863:True:=⟨⟩
theorem tw9819489189570350423:True:=⟨⟩
theorem tw15141112859629446071:True:=⟨⟩
theorem tw15118609013797745136:True:=⟨⟩
theorem tw15799449673991976594:True:=⟨⟩
theorem tw10037592116382426206:True:=⟨⟩
theorem tw1673623858778691164:True:=⟨⟩
theorem tw16162449471606013805:True:=⟨⟩
theorem tw9849137223654664783:True:=⟨⟩
theorem tw15185742115150960057:True:=⟨⟩
theorem tw6336913269328792846:True:=⟨⟩
theorem tw8275174621268456919:True:=⟨⟩
theorem tw8769675305177662388:True:=⟨⟩
theorem tw16557162299870552083:True:=⟨⟩
theorem tw2598498317270056130:True:=⟨⟩
theorem tw14023214090493541804:True:=⟨⟩
theorem tw15272307350116363344:True:=⟨⟩
theorem tw6660239603171956788:True:=⟨⟩
theorem tw9282584547558498319:True:=⟨⟩
theorem tw4641348744467535105:True:=⟨⟩
theorem tw9534360420918150232:True:=⟨⟩
theorem tw16302311235301580865:True:=⟨⟩
theorem tw6131372104768645058:True:=⟨⟩
theorem tw232533722242682508:True:=⟨⟩
theorem tw15449223861885420231:True:=⟨⟩
theorem tw3456012525523814893:True:=⟨⟩
theorem tw18197281851533427421:True:=⟨⟩
theorem tw12180524221629473213:True:=⟨⟩
theorem tw9470816409375207992:True:=⟨⟩
theorem tw15379297608506380856:True:=⟨⟩
theorem tw8098622675628517367:True:=⟨⟩
theorem tw17433363571246357388:True:=⟨⟩
theorem tw14300799519473702951:True:=⟨⟩
theorem tw2015395338151369553:True:=⟨⟩
theorem tw917412363329997583:True:=⟨⟩
theorem tw14840429822596520973:True:=⟨⟩
theorem tw10282484340799583513:True:=⟨⟩
theorem tw11004481159122944611:True:=⟨⟩
theorem tw1927262722907556036:True:=⟨⟩
theorem tw18027890794986230929:True:=⟨⟩
theorem tw14738109878903286933:True:=⟨⟩
theorem tw11015104778591275077:True:=⟨⟩
theorem tw3129937520298287225:True:=⟨⟩
theorem tw10114327939723527737:True:=⟨⟩
theorem tw3358256849072864583:True:=⟨⟩
theorem tw17596916386602493399:True:=⟨⟩
theorem tw2719538215281474430:True:=⟨⟩
theorem tw17527293913029788523:True:=⟨⟩
theorem tw7204449197340633941:True:=⟨⟩
theorem tw13022019628576529704:True:=⟨⟩
theorem tw5089428323504232108:True:=⟨⟩
theorem tw3918625515133724893:True:=⟨⟩
theorem tw18392058600187730626:True:=⟨⟩
theorem tw14514195937746162298:True:=⟨⟩
theorem tw4182991658124967316:True:=⟨⟩
theorem tw8251478554279697607:True:=⟨⟩
theorem tw4722206838145310577:True:=⟨⟩
theorem tw681009486757646289:True:=⟨⟩
theorem tw5562302890061928925:True:=⟨⟩
theorem tw5708849027259838001:True:=⟨⟩
theorem tw9415616770719002643:True:=⟨⟩
theorem tw7729568285585411035:True:=⟨⟩
theorem tw11111202631303599729:True:=⟨⟩
theorem tw4777910329795456265:True:=⟨⟩
theorem tw167058241592277190:True:=⟨⟩
theorem tw6479309691868491316:True:=⟨⟩
theorem tw13341670831463094813:True:=⟨⟩
theorem tw6324108711709505622:True:=⟨⟩
theorem tw14156400025588659593:True:=⟨⟩
theorem tw10411499735471296091:True:=⟨⟩
theorem tw13617541259357138424:True:=⟨⟩
theorem tw1058893727374113315:True:=⟨⟩
theorem tw3360488892908041002:True:=⟨⟩
theorem tw16286461545103888395:True:=⟨⟩
theorem tw10012661986470219838:True:=⟨⟩
theorem tw15464555616923202668:True:=⟨⟩
theorem tw14770004218123542869:True:=⟨⟩
theorem tw13686281000160380861:True:=⟨⟩
theorem tw16717376506937480039:True:=⟨⟩
theorem tw4088997315843249129:True:=⟨⟩
theorem tw2058106586595231999:True:=⟨⟩
theorem tw4004552791028097226:True:=⟨⟩
theorem tw5638518843649771936:True:=⟨⟩
theorem tw5631901442880257667:True:=⟨⟩
theorem tw11218215480302678234:True:=⟨⟩
theorem tw18433878514796277268:True:=⟨⟩
theorem tw17367622832723637608:True:=⟨⟩
theorem tw11959752287023322895:True:=⟨⟩
theorem tw14179481314588176147:True:=⟨⟩
theorem tw4269343753642968057:True:=⟨⟩
theorem tw15829145166051179259:True:=⟨⟩
theorem tw5622393233414086173:True:=⟨⟩
theorem tw5389197990514301512:True:=⟨⟩
theorem tw14168585712196170149:True:=⟨⟩
theorem tw10111366820639255055:True:=⟨⟩
theorem tw7937621147099563005:True:=⟨⟩
theorem tw14230151682526683959:True:=⟨⟩
theorem tw13512008645522121780:True:=⟨⟩
theorem tw6129911870462625201:True:=⟨⟩
theorem tw16779442627580228091:True:=⟨⟩
theorem tw13186712670835101758:True:=⟨⟩
theorem tw10708332630436407508:True:=⟨⟩
theorem tw8931552685081888135:True:=⟨⟩
theorem tw17842678986806266410:True:=⟨⟩
theorem tw1265046285259857007:True:=⟨⟩
theorem tw17192769687589769791:True:=⟨⟩
theorem tw1660404305369623018:True:=⟨⟩
theorem tw10562748261870696417:True:=⟨⟩
theorem tw10218824603527111282:True:=⟨⟩
theorem tw8141344442104142580:True:=⟨⟩
theorem tw1905799106180189309:True:=⟨⟩
theorem tw15744241823802210250:True:=⟨⟩
theorem tw9781955087329888854:True:=⟨⟩
theorem tw12046303032025214520:True:=⟨⟩
theorem tw4831277172292242919:True:=⟨⟩
theorem tw2438030452585177431:True:=⟨⟩
theorem tw1883250395080204061:True:=⟨⟩
theorem tw9182883992673636905:True:=⟨⟩
theorem tw1259064253984061407:True:=⟨⟩
theorem tw3857752266680764534:True:=⟨⟩
theorem tw6883494228984378667:True:=⟨⟩
theorem tw16613872607858305161:True:=⟨⟩
theorem tw2918331830631735125:True:=⟨⟩
theorem tw2999198987181168475:True:=⟨⟩
theorem tw14357261955287757591:True:=⟨⟩
theorem tw12569297294380315665:True:=⟨⟩
theorem tw16886876064451956069:True:=⟨⟩
theorem tw12744254355229909102:True:=⟨⟩
theorem tw9239563933919046043:True:=⟨⟩
theorem tw14724426958727178426:True:=⟨⟩
theorem tw6569815766035675423:True:=⟨⟩
theorem tw5808947073754979831:True:=⟨⟩
theorem tw1745716507103599837:True:=⟨⟩
theorem tw1885658819426753445:True:=⟨⟩
theorem tw7018793225029142607:True:=⟨⟩
theorem tw5016559554485010762:True:=⟨⟩
theorem tw6557703989233068545:True:=⟨⟩
theorem tw9661977316991060844:True:=⟨⟩
theorem tw17340786054319093328:True:=⟨⟩
theorem tw1407944944897844009:True:=⟨⟩
theorem tw1436625402079559115:True:=⟨⟩
theorem tw16422264469351006698:True:=⟨⟩
theorem tw7927793260100366543:True:=⟨⟩
theorem tw16762186347490431434:True:=⟨⟩
theorem tw15968149752267811837:True:=⟨⟩
theorem tw11647607223041125502:True:=⟨⟩
theorem tw10181960171908766245:True:=⟨⟩
theorem tw14157173090831357319:True:=⟨⟩
theorem tw13040116246115584534:True:=⟨⟩
theorem tw15794879555463696905:True:=⟨⟩
theorem tw11537354412966327698:True:=⟨⟩
theorem tw8643050719193940477:True:=⟨⟩
theorem tw15864841640254390117:True:=⟨⟩
theorem tw7597586089727027478:True:=⟨⟩
theorem tw16681769638159518749:True:=⟨⟩
theorem tw8798195528259093303:True:=⟨⟩
theorem tw17378716830327779442:True:=⟨⟩
theorem tw280791757828965847:True:=⟨⟩
theorem tw17918598572365165160:True:=⟨⟩
theorem tw11547817405948127532:True:=⟨⟩
theorem tw10773132553884296058:True:=⟨⟩
theorem tw5918780509554167238:True:=⟨⟩
theorem tw5429183945006189251:True:=⟨⟩
theorem tw9777713310511363877:True:=⟨⟩
theorem tw11021482741089894766:True:=⟨⟩
theorem tw1429929864495626507:True:=⟨⟩
theorem tw4234688598143635520:True:=⟨⟩
theorem tw4991711944506955905:True:=⟨⟩
theorem tw1140693608960715959:True:=⟨⟩
theorem tw18320860330455106709:True:=⟨⟩
theorem tw12290524264871857820:True:=⟨⟩
theorem tw9568933950297971866:True:=⟨⟩
theorem tw5257109279277694730:True:=⟨⟩
theorem tw11084322540695887180:True:=⟨⟩
theorem tw15356976050459333151:True:=⟨⟩
theorem tw13470421062560830284:True:=⟨⟩
theorem tw12180342991237907333:True:=⟨⟩
theorem tw10298933772514084922:True:=⟨⟩
theorem tw4788784661584628287:True:=⟨⟩
theorem tw1575826817325976820:True:=⟨⟩
theorem tw13463073876825890402:True:=⟨⟩
theorem tw880444436419974481:True:=⟨⟩
theorem tw4205041417769179650:True:=⟨⟩
theorem tw6454664282939351883:True:=⟨⟩
theorem tw1700377653774722501:True:=⟨⟩
theorem tw8144647925088607335:True:=⟨⟩
theorem tw5840071741571238859:True:=⟨⟩
theorem tw1602170658194888899:True:=⟨⟩
theorem tw14060127781148667182:True:=⟨⟩
theorem tw10222445638966186101:True:=⟨⟩
theorem tw8420955050485605493:True:=⟨⟩
theorem tw3376407821168049573:True:=⟨⟩
theorem tw18335034995792780560:True:=⟨⟩
theorem tw15160703577946501970:True:=⟨⟩
theorem tw2562337888503264880:True:=⟨⟩
theorem tw14430163830219200408:True:=⟨⟩
theorem tw17458636885207862787:True:=⟨⟩
theorem tw3301992540843956596:True:=⟨⟩
theorem tw13774496964415162273:True:=⟨⟩
theorem tw8296333437341012092:True:=⟨⟩
theorem tw10494681461685114038:True:=⟨⟩
theorem tw468801133682785162:True:=⟨⟩
theorem tw4366341912377737857:True:=⟨⟩
theorem tw3637222624125508226:True:=⟨⟩
theorem tw2733862255331657470:True:=⟨⟩
theorem tw1237426725054333997:True:=⟨⟩
theorem tw6914032479150782435:True:=⟨⟩
theorem tw13542339282991130987:True:=⟨⟩
theorem tw12745811185820597440:True:=⟨⟩
theorem tw9530490898659217568:True:=⟨⟩
theorem tw13308030237570087089:True:=⟨⟩
theorem tw13170970128430566001:True:=⟨⟩
theorem tw13773826929382557864:True:=⟨⟩
theorem tw13252061593764597613:True:=⟨⟩
theorem tw14722856196602303814:True:=⟨⟩
theorem tw4577354025594526357:True:=⟨⟩
theorem tw9614009195446565669:True:=⟨⟩
theorem tw951399963461111644:True:=⟨⟩
theorem tw16113537939395792824:True:=⟨⟩
theorem tw10411912567683810646:True:=⟨⟩
theorem tw6931046320898769421:True:=⟨⟩
theorem tw14445741374565099221:True:=⟨⟩
theorem tw17177913006255486274:True:=⟨⟩
theorem tw10366678969583417513:True:=⟨⟩
theorem tw6136853318372018031:True:=⟨⟩
theorem tw16274178541760553482:True:=⟨⟩
theorem tw16046905512804256107:True:=⟨⟩
theorem tw7832059688730748160:True:=⟨⟩
theorem tw2551091073931484903:True:=⟨⟩
theorem tw1686795608536634163:True:=⟨⟩
theorem tw13832827185052745308:True:=⟨⟩
theorem tw956880825748983389:True:=⟨⟩
theorem tw15031325027922277175:True:=⟨⟩
theorem tw14116757254774482390:True:=⟨⟩
theorem tw1621225504919934347:True:=⟨⟩
theorem tw12288373517791498969:True:=⟨⟩
theorem tw16547636836061281068:True:=⟨⟩
theorem tw12036992005596590830:True:=⟨⟩
theorem tw8659032933759934997:True:=⟨⟩
theorem tw16569400355946581578:True:=⟨⟩
theorem tw16242983687655129840:True:=⟨⟩
theorem tw3659177036196279069:True:=⟨⟩
theorem tw16505774400312960359:True:=⟨⟩
theorem tw3207247819700920941:True:=⟨⟩
theorem tw8840914630329226788:True:=⟨⟩
theorem tw3163669598077408193:True:=⟨⟩
theorem tw2880869540295919222:True:=⟨⟩
theorem tw5854551666082170172:True:=⟨⟩
theorem tw14831430475865077449:True:=⟨⟩
theorem tw3657953116189066509:True:=⟨⟩
theorem tw4046024620919087127:True:=⟨⟩
theorem tw135453253421402678:True:=⟨⟩
theorem tw8641703225279285658:True:=⟨⟩
theorem tw8602613833140194098:True:=⟨⟩
theorem tw14901780799258253920:True:=⟨⟩
theorem tw8982320139669513527:True:=⟨⟩
theorem tw5492074703657480881:True:=⟨⟩
theorem tw17278745180015622302:True:=⟨⟩
theorem tw9452062162504932198:True:=⟨⟩
theorem tw5468362569189086445:True:=⟨⟩
theorem tw14801749759638042722:True:=⟨⟩
theorem tw12656770419765346603:True:=⟨⟩
theorem tw18267463328286969976:True:=⟨⟩
theorem tw12317197001946089865:True:=⟨⟩
theorem tw10143310991461030837:True:=⟨⟩
theorem tw5153530894990688635:True:=⟨⟩
theorem tw1979012801581390116:True:=⟨⟩
theorem tw16481761855587112898:True:=⟨⟩
theorem tw1600303093434837115:True:=⟨⟩
theorem tw11915588149637054299:True:=⟨⟩
theorem tw1828157802173464125:True:=⟨⟩
theorem tw6911230419839951608:True:=⟨⟩
theorem tw2702012950091446671:True:=⟨⟩
theorem tw2131273260527868062:True:=⟨⟩
theorem tw1438705766902282608:True:=⟨⟩
theorem tw5270965292268090497:True:=⟨⟩
theorem tw16217348072170952250:True:=⟨⟩
theorem tw925160627565092663:True:=⟨⟩
theorem tw7107487459068459854:True:=⟨⟩
theorem tw2759411408470376906:True:=⟨⟩
theorem tw17834216736954086874:True:=⟨⟩
theorem tw8676937593476182768:True:=⟨⟩
theorem tw15103510675141224324:True:=⟨⟩
theorem tw8298767976583015903:True:=⟨⟩
theorem tw8352964667673916433:True:=⟨⟩
theorem tw1781380273790064967:True:=⟨⟩
theorem tw4830368562100467666:True:=⟨⟩
theorem tw4821082147303222233:True:=⟨⟩
theorem tw6168288610689920400:True:=⟨⟩
theorem tw472783187803673282:True:=⟨⟩
theorem tw2895146456455843948:True:=⟨⟩
theorem tw9615056401925418383:True:=⟨⟩
theorem tw6013880607270090767:True:=⟨⟩
theorem tw17858651465296745500:True:=⟨⟩
theorem tw16560868925346797633:True:=⟨⟩
theorem tw12141815565205586862:True:=⟨⟩
theorem tw7173882450732651723:True:=⟨⟩
theorem tw13534936787084849185:True:=⟨⟩
theorem tw6726821603244518980:True:=⟨⟩
theorem tw8211845539258680765:True:=⟨⟩
theorem tw7046259341813627008:True:=⟨⟩
theorem tw703534502845822793:True:=⟨⟩
theorem tw8011495529387546923:True:=⟨⟩
theorem tw4660238416717450882:True:=⟨⟩
theorem tw18091183616996535382:True:=⟨⟩
theorem tw17598531036767805467:True:=⟨⟩
theorem tw13369702073192082686:True:=⟨⟩
theorem tw10489690851746712482:True:=⟨⟩
theorem tw14836645500014463867:True:=⟨⟩
theorem tw12464939276186990749:True:=⟨⟩
theorem tw9830227531091086464:True:=⟨⟩
theorem tw5858610382066808540:True:=⟨⟩
theorem tw3448633742409265144:True:=⟨⟩
theorem tw13062121447763866918:True:=⟨⟩
theorem tw5096587366748342996:True:=⟨⟩
theorem tw10554537205127823847:True:=⟨⟩
theorem tw13298888105475569011:True:=⟨⟩
theorem tw3748887470424099628:True:=⟨⟩
theorem tw16651427469031487627:True:=⟨⟩
theorem tw15059823555752803223:True:=⟨⟩
theorem tw9660000319464480378:True:=⟨⟩
theorem tw10326203749495656336:True:=⟨⟩
theorem tw17262225724330403587:True:=⟨⟩
theorem tw6948627874434384026:True:=⟨⟩
theorem tw102439215740466545:True:=⟨⟩
theorem tw4483148389883991738:True:=⟨⟩
theorem tw13520733344735795104:True:=⟨⟩
theorem tw8254965765097159798:True:=⟨⟩
theorem tw422560616533065413:True:=⟨⟩
theorem tw18411328669061481641:True:=⟨⟩
theorem tw14890621037498354274:True:=⟨⟩
theorem tw11756917372387387083:True:=⟨⟩
theorem tw2274308339450411035:True:=⟨⟩
theorem tw8188441940902011465:True:=⟨⟩
theorem tw4545392510771483451:True:=⟨⟩
theorem tw7120910319109929297:True:=⟨⟩
theorem tw13641012392467196307:True:=⟨⟩
theorem tw15820613057424172725:True:=⟨⟩
theorem tw16555617887826519323:True:=⟨⟩
theorem tw441270661809992638:True:=⟨⟩
theorem tw10563211427664836847:True:=⟨⟩
theorem tw8214643709129768710:True:=⟨⟩
theorem tw2799496110649712764:True:=⟨⟩
theorem tw17984612256099188262:True:=⟨⟩
theorem tw5115784221439820460:True:=⟨⟩
theorem tw10361305055755082061:True:=⟨⟩
theorem tw10791248469836285307:True:=⟨⟩
theorem tw8320741775798208627:True:=⟨⟩
theorem tw288913776003108128:True:=⟨⟩
theorem tw3930273262735728274:True:=⟨⟩
theorem tw11865039466621430943:True:=⟨⟩
theorem tw14862637414035434107:True:=⟨⟩
theorem tw13886190683079744030:True:=⟨⟩
end PySem.W.Fast
open PySem PySem.W PyProof.Rows
set_option maxRecDepth 100000 in
set_option maxHeartbeats 0 in
theorem PySem.Challenge.cw_thinbook_k52_what_cannot_be_shown_holds : PySem.Challenge.rw_thinbook_k52_what_cannot_be_shown.Holds := by
 w_on;o_law;k_head;(case hw=>w_witness2)
 k_fill
 refine TB.walk (l:=PySem.Challenge.rw_thinbook_k52_what_cannot_be_shown) rfl rfl rfl (λw h Y=>PySem.W.kIn_of Y) ?F
 case F =>
  intro w mg h KX G;refine' TB.qBl ?a0 ?a1 ?a2 ?a3 ?a4 ?a5 ?a6 ?a7 ?a8 ?a9 ?a10 ?a11 ?a12 ?a13 ?T
  (case a0|a1|a2|a3|a4|a5|a6|a7|a8|a9|a10|a11|a12|a13=>k_is)
  refine' ⟨TB.fnG KX G ?_ ?_ ?_ ?_,TB.fnG KX G ?_ ?_ ?_ ?_,TB.fnG KX G ?_ ?_ ?_ ?_,TB.fnG KX G ?_ ?_ ?_ ?_,TB.fnG KX G ?_ ?_ ?_ ?_,TB.fnG KX G ?_ ?_ ?_ ?_,TB.fnG KX G ?_ ?_ ?_ ?_,TB.fnG KX G ?_ ?_ ?_ ?_,TB.fnG KX G ?_ ?_ ?_ ?_,TB.fnG KX G ?_ ?_ ?_ ?_,TB.fnG KX G ?_ ?_ ?_ ?_,TB.fnG KX G ?_ ?_ ?_ ?_,TB.fnG KX G ?_ ?_ ?_ ?_,TB.fnG KX G ?_ ?_ ?_ ?_,TB.fnG KX G ?_ ?_ ?_ ?_,TB.fnG KX G ?_ ?_ ?_ ?_,TB.fnG KX G ?_ ?_ ?_ ?_,TB.fnG KX G ?_ ?_ ?_ ?_,TB.fnG KX G ?_ ?_ ?_ ?_,TB.fnG KX G ?_ ?_ ?_ ?_,TB.fnG KX G ?_ ?_ ?_ ?_,TB.qDv ?_ ?_ ?_ ?_ ?_ ⟨⟨?_,?_,?_⟩,⟨?_,?_,?_⟩,⟨?_,?_,?_⟩,⟨?_,?_,?_⟩,⟨?_,?_,?_⟩⟩,TB.qDv ?_ ?_ ?_ ?_ ?_ ⟨⟨?_,?_,?_⟩,⟨?_,?_,?_⟩,⟨?_,?_,?_⟩,⟨?_,?_,?_⟩,⟨?_,?_,?_⟩⟩,TB.fnM ?_ ?_ ?_ ?_ ?_,TB.fnM ?_ ?_ ?_ ?_ ?_,TB.fnM ?_ ?_ ?_ ?_ ?_,TB.fnM ?_ ?_ ?_ ?_ ?_,TB.fnM ?_ ?_ ?_ ?_ ?_,TB.fnM ?_ ?_ ?_ ?_ ?_,TB.fnM ?_ ?_ ?_ ?_ ?_,TB.fnM ?_ ?_ ?_ ?_ ?_,TB.fnM ?_ ?_ ?_ ?_ ?_,TB.fnM ?_ ?_ ?_ ?_ ?_,TB.fnG KX G ?_ ?_ ?_ ?_,TB.fnG KX G ?_ ?_ ?_ ?_,TB.fnG KX G ?_ ?_ ?_ ?_,TB.fnG KX G ?_ ?_ ?_ ?_,TB.fnG KX G ?_ ?_ ?_ ?_,TB.fnG KX G ?_ ?_ ?_ ?_,TB.fnG KX G ?_ ?_ ?_ ?_,TB.fnG KX G ?_ ?_ ?_ ?_,TB.fnG KX G ?_ ?_ ?_ ?_,TB.qEr KX G ?_ ?_ ?_ ?_ ?_,TB.fnG KX G ?_ ?_ ?_ ?_,TB.fnG KX G ?_ ?_ ?_ ?_,TB.fnG KX G ?_ ?_ ?_ ?_,TB.fnG KX G ?_ ?_ ?_ ?_,TB.fnG KX G ?_ ?_ ?_ ?_,TB.fnG KX G ?_ ?_ ?_ ?_,TB.fnG KX G ?_ ?_ ?_ ?_,TB.fnI ?_ ?_ ?_ ?_ ?_ ?_ ?_,TB.qEs ?_ ?_ ?_ ?_ ?_ ?_,TB.fnM ?_ ?_ ?_ ?_ ?_,TB.fnM ?_ ?_ ?_ ?_ ?_,TB.fnM ?_ ?_ ?_ ?_ ?_,TB.fnM ?_ ?_ ?_ ?_ ?_,TB.fnM ?_ ?_ ?_ ?_ ?_,TB.fnM ?_ ?_ ?_ ?_ ?_,TB.fnM ?_ ?_ ?_ ?_ ?_,TB.fnM ?_ ?_ ?_ ?_ ?_,TB.fnG KX G ?_ ?_ ?_ ?_,TB.fnG KX G ?_ ?_ ?_ ?_,TB.fnG KX G ?_ ?_ ?_ ?_,TB.fnG KX G ?_ ?_ ?_ ?_,TB.fnG KX G ?_ ?_ ?_ ?_,TB.fnG KX G ?_ ?_ ?_ ?_,TB.qEt ?_ ?_ ?_ ?_ ?_ ?_ ?_ ?_,TB.fnM ?_ ?_ ?_ ?_ ?_,TB.fnM ?_ ?_ ?_ ?_ ?_,TB.fnG KX G ?_ ?_ ?_ ?_,TB.fnG KX G ?_ ?_ ?_ ?_,TB.fnG KX G ?_ ?_ ?_ ?_,TB.fnG KX G ?_ ?_ ?_ ?_,TB.fnG KX G ?_ ?_ ?_ ?_,TB.fnG KX G ?_ ?_ ?_ ?_,TB.fnG KX G ?_ ?_ ?_ ?_,TB.fnG KX G ?_ ?_ ?_ ?_,TB.fnG KX G ?_ ?_ ?_ ?_,TB.fnG KX G ?_ ?_ ?_ ?_,TB.fnG KX G ?_ ?_ ?_ ?_,TB.fnG KX G ?_ ?_ ?_ ?_,TB.fnG KX G ?_ ?_ ?_ ?_,TB.fnG KX G ?_ ?_ ?_ ?_,TB.fnG KX G ?_ ?_ ?_ ?_,TB.fnG KX G ?_ ?_ ?_ ?_,TB.fnG KX G ?_ ?_ ?_ ?_,TB.fnG KX G ?_ ?_ ?_ ?_,TB.fnX ?h1 ⟨?_,?_,?_,?_,?_,?h2⟩ ?_ ?_ ?_ ?_ ?_ ?_ ?_ ?_,⟨?_,?_,?_,?_⟩,mg_of KX G ?_,⟨?_,?_,?_⟩,⟨?_,?_,?_,?_⟩,mg_of KX G ?_,⟨?_,?_,?_⟩,⟨?_,?_,?_,?_⟩,mg_of KX G ?_,⟨?_,?_,?_⟩,⟨?_,?_,?_,?_⟩,mg_of KX G ?_,⟨?_,?_,?_⟩,⟨?_,?_,?_,?_⟩,mg_of KX G ?_,⟨?_,?_,?_⟩,⟨?_,?_,?_,?_⟩,mg_of KX G ?_,⟨?_,?_,?_⟩,⟨?_,?_,?_,?_⟩,mg_of KX G ?_,TB.naI ?_,TB.naI ?_,TB.naI ?_,TB.naI ?_,TB.naI ?_,⟨?_,?_,?_,?_⟩,mg_of KX G ?_,TB.naI ?_,TB.naI ?_,mg_of KX G ?_,mg_of KX G ?_,mg_of KX G ?_,mg_of KX G ?_,mg_of KX G ?_,mg_of KX G ?_,TB.exI ?h3,⟨?_,?_,?_,?_,?_,?h4⟩,?_,?h5,?h6,?h7,?h8,?h9,?h10,?h11,TB.exI ?h12,⟨?_,?_,?_,?_,?_,?h13⟩,?_,?h14,?_,?h15,?h16,?h17,?h18,?h19,?h20,TB.exI ?h21,⟨?_,?_,?_,?_,?_,?h22⟩,?_,?h23,?h24,?_,?h25,?h26,?h27,?h28,?h29,⟨?_,?_,?_,?_,?_,?h30⟩,?_,?h31,?h32,?h33,?_,?h34,?h35,?h36,?h37,TB.exI ?h38,⟨?_,?_,?_,?_,?_,?h39⟩,?_,?h40,?h41,?h42,?h43,?_,?h44,?h45,?h46,TB.exI ?h47,⟨?_,?_,?_,?_,?_,?h48⟩,?_,?h49,?h50,?h51,?h52,?h53,?_,?h54,?h55,⟨?h56,?h57,?h58⟩,mg_none_of KX G ?_,mg_none_of KX G ?_,mg_none_of KX G ?_,mg_none_of KX G ?_,mg_none_of KX G ?_,mg_none_of KX G ?_,mg_none_of KX G ?_,mg_none_of KX G ?_,mg_none_of KX G ?_,mg_none_of KX G ?_,mg_none_of KX G ?_,mg_none_of KX G ?_,mg_none_of KX G ?_,mg_none_of KX G ?_,mg_none_of KX G ?_,TB.cI KX G ?_⟩
  (case h2|h4|h13|h22|h30|h39|h48=>kts_isx)
  (case h3|h12|h21|h38|h47=>k_exc)
  (case h5|h6|h7|h8|h9|h10|h11|h14|h15|h16|h17|h18|h19|h20|h23|h24|h25|h26|h27|h28|h29|h31|h32|h33|h34|h35|h36|h37|h40|h41|h42|h43|h44|h45|h46|h49|h50|h51|h52|h53|h54|h55=>kit_is)
  all_goals try k_is
  all_goals kernel_rfl
