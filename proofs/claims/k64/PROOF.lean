import PyProof.Rows.All
import Wide.All
import OpenK.AllK
import Wide.FinOn
import Lean
import PyProof.EqAt
import PyProof.EqKinds
import PyProof.TupleCall
import PySem.Challenge.RW_thinbook_k64_names_chosen
set_option Elab.async false
set_option linter.all false
set_option maxRecDepth 100000
open PySem.W (Frag nsIn fnOf codeIn keepIn mg_of)
namespace L2
open PySem PySem.Spec PyProof.Rows
abbrev Key:=Sum Int Str
def qku:Key->Value->Bool
 | .inl k,v=>Value.isInt k v
 | .inr x,v=>Value.isStrOf x v
def qvl (w:World):Key->Int
 | .inl k=>hashInt k
 | .inr x=>hashStr w x
theorem qa9:∀ {k:Key} {v:Value},qku k v=true->(∃ i t,k=Sum.inl i/\v=Value.int i t)\/(∃ x t,k=Sum.inr x/\v=Value.str x t)
 | .inl i,v,h=>by
  obtain ⟨t,e⟩:=Value.isInt_shape (k:=i) (v:=v) h;exact .inl ⟨i,t,rfl,e⟩
 | .inr x,v,h=>by
  obtain ⟨t,e⟩:=Value.isStrOf_shape (x:=x) (v:=v) h;exact .inr ⟨x,t,rfl,e⟩
theorem qlx (i:Int) (t:Tok):qku (.inl i) (.int i t)=true:=by simp[qku,Value.isInt]
theorem qly (x:Str) (t:Tok):qku (.inr x) (.str x t)=true:=by simp[qku,Value.isStrOf]
theorem qrl (a b:Int):decide ((Sum.inl a:Key)=Sum.inl b)=(a == b):=by
 by_cases e:a=b
 ·subst e;simp
 ·have h:¬ (Sum.inl a:Key)=Sum.inl b:=λq=>e (Sum.inl.inj q)
  rw[decide_eq_false h];exact (beq_eq_false_iff_ne.mpr e).symm
theorem qrm (a b:Str):decide ((Sum.inr a:Key)=Sum.inr b)=decide (a=b):=by
 by_cases e:a=b
 ·subst e;simp
 ·have h:¬ (Sum.inr a:Key)=Sum.inr b:=λq=>e (Sum.inr.inj q)
  rw[decide_eq_false h,decide_eq_false e]
theorem qrn (a:Int) (b:Str):decide ((Sum.inl a:Key)=Sum.inr b)=false:=decide_eq_false (λq=>nomatch q)
theorem qro (a:Str) (b:Int):decide ((Sum.inr a:Key)=Sum.inl b)=false:=decide_eq_false (λq=>nomatch q)
def qba (prog:Program) (w:World):PySem.KeyKind prog w Key where
 is:=qku
 hash:=qvl w
 inj:=λv a b ha hb=>by
  rcases qa9 ha with ⟨i,t,rfl,rfl⟩|⟨x,t,rfl,rfl⟩
  ·rcases qa9 hb with ⟨j,u,rfl,e⟩|⟨y,u,rfl,e⟩
   ·injection e with e1 _;rw[e1]
   ·exact nomatch e
  ·rcases qa9 hb with ⟨j,u,rfl,e⟩|⟨y,u,rfl,e⟩
   ·exact nomatch e
   ·injection e with e1 _;rw[e1]
 byValue:=λk v h=>by
  rcases qa9 h with ⟨i,t,rfl,rfl⟩|⟨x,t,rfl,rfl⟩<;>rfl
 pyHash:=λhv h=>by
  rcases qa9 hv with ⟨i,t,rfl,rfl⟩|⟨x,t,rfl,rfl⟩
  ·exact wpAny_pyHash_int h
  ·exact wpAny_pyHash_str h
 eqBool:=λhu hv h=>by
  rcases qa9 hu with ⟨i,t,rfl,rfl⟩|⟨x,t,rfl,rfl⟩
  ·rcases qa9 hv with ⟨j,u,rfl,rfl⟩|⟨y,u,rfl,rfl⟩
   ·rw[qrl] at h;exact wpAny_eqBool_int h
   ·rw[qrn] at h;exact SeqAt.EqAt.int_str i t y u _ _ _ _ h
  ·rcases qa9 hv with ⟨j,u,rfl,rfl⟩|⟨y,u,rfl,rfl⟩
   ·rw[qro] at h;exact SeqAt.EqAt.str_int x t j u _ _ _ _ h
   ·rw[qrm] at h;exact wpAny_eqBool_str h
 «strs» :=λk x t v h=>by
  rcases qa9 h with ⟨i,u,rfl,e⟩|⟨y,u,rfl,e⟩
  ·exact nomatch e
  ·injection e with e1 _
   subst e1
   cases v<;>rfl
theorem qi4 (prog:Program) (w:World) (i:Int) (t:Tok):(qba prog w).is (.inl i) (.int i t)=true:=qlx i t
theorem qi5 (prog:Program) (w:World) (x:Str) (t:Tok):(qba prog w).is (.inr x) (.str x t)=true:=qly x t
open PySem PySem.Spec PyProof.Rows
inductive V where
 | non|bl (b:Bool)|int (i:Int)|str (x:Str)|byt (b:Array UInt8)|flt (b:UInt64)|ref (a:Addr)|ty (n:String)
 deriving DecidableEq
def RelV:V->Value->Prop
 | .non,u=>u=Value.none
 | .bl b,u=>u=Value.bool b
 | .int i,u=>∃ t,u=Value.int i t
 | .str x,u=>∃ t,u=Value.str x t
 | .byt b,u=>∃ t,u=Value.bytes b t
 | .flt b,u=>∃ t,u=Value.float b t
 | .ref a,u=>u=Value.ref a
 | .ty n,u=>u=Value.type n
abbrev Vals:List V->List Value->Prop:=Paired RelV
theorem Vals.length {xs:List V} {us:List Value} (r:Vals xs us):xs.length=us.length:=Paired.length r
theorem Vals.get:∀ {xs:List V} {us:List Value} {i:Nat} {x:V},Vals xs us->xs[i]?=some x->∃ u,us[i]?=some u/\RelV x u
 | _,_,_,_,.nil,e=>by simp at e
 | _,_,0,_,.cons r _,e=>by simp at e;subst e;exact ⟨_,rfl,r⟩
 | _,_,i+1,x,.cons _ t,e=>by
  obtain ⟨u,h1,h2⟩:=Vals.get (i:=i) (x:=x) t (by simpa using e);exact ⟨u,by simpa using h1,h2⟩
theorem Vals.append:∀ {xs ys:List V} {us ws:List Value},Vals xs us->Vals ys ws->Vals (xs ++ ys) (us ++ ws)
 | _,_,_,_,.nil,s=>s
 | _,_,_,_,.cons r t,s=>.cons r (Vals.append t s)
theorem Vals.take:∀ {xs:List V} {us:List Value} (n:Nat),Vals xs us->Vals (xs.take n) (us.take n)
 | _,_,0,_=>.nil
 | _,_,_+1,.nil=>.nil
 | _,_,n+1,.cons r t=>.cons r (Vals.take n t)
theorem Vals.drop:∀ {xs:List V} {us:List Value} (n:Nat),Vals xs us->Vals (xs.drop n) (us.drop n)
 | _,_,0,r=>r
 | _,_,_+1,.nil=>.nil
 | _,_,n+1,.cons _ t=>Vals.drop n t
def RelO:Option V->Option Value->Prop
 | some v,some u=>RelV v u
 | none,none=>True
 | _,_=>False
def KV {κ:Type}:List (κ×V)->List (κ×Value)->Prop:=Paired fun (p:κ×V) (q:κ×Value)=>p.1=q.1/\RelV p.2 q.2
def kV:Key->V
 | .inl i=>.int i
 | .inr x=>.str x
inductive HO where
 | lst (xs:List V)
 | tup (xs:List V)
 | dK (kvs:List (Key×V))|dT (kvs:List (List Key×V))
 | set (S:Int->Bool) (n:Nat)
 | ins (C dx:Addr) (fs:List (Str×V))
 | own (x:Addr)
 | xd (fs:List (Str×V))
 | met (f x:Addr)
 | rng (lo hi:Int)
 | frz (o:Obj) (u:HO)
 | tbl (ps:Array Value)
 | ext (φ:Heap->Prop)
abbrev Hp:=Addr->Option HO
def upd (H:Hp) (a:Addr) (o:HO):Hp:=λb=>if b=a then some o else H b
theorem qat {H:Hp} {a:Addr} {o:HO}:upd H a o a=some o:=by unfold upd;rw[if_pos rfl]
theorem qam {H:Hp} {a b:Addr} {o:HO} (h:b≠a):upd H a o b=H b:=by unfold upd;rw[if_neg h]
theorem qa6 {H:Hp} {a b:Addr} {o u:HO} (h:H a=some o) (h':H b=some u) (d:o≠u):a≠b:=by
 intro e;subst e;rw[h] at h';exact d (Option.some.inj h')
theorem qaj {H:Hp} {a b:Addr} {o:HO} (h:H a=some o) (h':H b=none):a≠b:=by
 intro e;subst e;rw[h] at h';cases h'
section
variable (P:Program) (w:World)
def ObjOk (H:Hp) (h:Heap) (a:Addr):HO->Prop
 | .lst xs=>xs.length<=sizeLine/\∃ (its:List Value) (n:Nat),Vals xs its/\h.get? a=some { cls:=.type "list",data:=.seq its.toArray n }
 | .tup xs=>xs.length<=sizeLine/\∃ its:List Value,Vals xs its/\IsTup h a its.toArray
 | .dK kvs=>kvs.length<=sizeLine/\(a == sysModules)=false/\∃ vs,KV kvs vs/\h.DictOf (qba P w) a vs
 | .dT kvs=>kvs.length<=sizeLine/\(a == sysModules)=false/\∃ xs:List (List Key×Addr×Value),
   Paired (fun (p:List Key×V) (q:List Key×Addr×Value)=>p.1=q.1/\H q.2.1=some (.tup (p.1.map kV))/\RelV p.2 q.2.2) kvs xs /\
   ∃ o es ep,h.get? a=some o/\o.ExactDict/\o.data=.dict es ep/\es.toList=xs.map (entryOfKey (tupleKind (qba P w)))/\(xs.map (·.1)).Nodup
 | .set S n=>h.SetOf (intKind P w) a S n
 | .ins C dx fs=>H dx=some (.own a)/\fs.length<=1000/\dx≠a/\h.get? a=some (PySem.W.instObj C dx) /\
   ∃ mA,h.Ns1 dx mA/\(∀ f,RelO (fs.lookup f) (mA f))/\PySem.Within mA (fs.map (·.1))
 | .own _=>∃ o,h.get? a=some o
 | .xd fs=>∃ mA,h.Ns1 a mA/\∀ f,RelO (fs.lookup f) (mA f)
 | .rng lo hi=>∃ t u v,h.get? a=some { cls:=.type "range",data:=.fields #[.int lo t,.int hi u,.int 1 v] }
 | .frz o u=>h.get? a=some o/\ObjOk H h a u
 | .tbl ps=>h.get? a=some { cls:=.none,data:=.fields ps }
 | .met f x=>h.get? a=some (PySem.W.methodObj (.ref f) (.ref x))
 | .ext φ=>φ h/\(∃ o,h.get? a=some o)/\∀ h1 h2:Heap,φ h1->(∀ o,h1.get? a=some o->h2.get? a=some o)->φ h2
def HOk (H:Hp) (h:Heap):Prop:=∀ a o,H a=some o->ObjOk P w H h a o
end
section
variable {P:Program} {w:World} {H H':Hp} {h h':Heap} {a:Addr} {o:HO}
theorem ObjOk.lt (x:ObjOk P w H h a o):a<h.objs.size:=by
 cases o with
 | lst xs=>obtain ⟨_,_,_,_,e⟩:=x;exact Heap.lt_size e
 | tup xs=>obtain ⟨_,_,_,p⟩:=x;exact p.lt
 | dK kvs=>obtain ⟨_,_,_,_,o,_,_,e,_⟩:=x;exact Heap.lt_size e
 | dT kvs=>obtain ⟨_,_,_,_,o,_,_,e,_⟩:=x;exact Heap.lt_size e
 | set S n=>obtain ⟨o,_,_,_,e,_⟩:=x;exact Heap.lt_size e
 | ins C dx fs=>obtain ⟨_,_,_,e,_⟩:=x;exact Heap.lt_size e
 | own y=>obtain ⟨_,e⟩:=x;exact Heap.lt_size e
 | xd fs=>obtain ⟨_,⟨_,_,_,e,_⟩,_⟩:=x;exact Heap.lt_size e
 | rng lo hi=>obtain ⟨_,_,_,e⟩:=x;exact Heap.lt_size e
 | frz ob u=>obtain ⟨e,_⟩:=x;exact Heap.lt_size e
 | tbl ps=>exact Heap.lt_size (show h.get? a=some _ from x)
 | met f y=>exact Heap.lt_size (show h.get? a=some _ from x)
 | ext φ=>obtain ⟨_,⟨_,e⟩,_⟩:=x;exact Heap.lt_size e
theorem Paired.mapP {α β:Type} {F G:α->β->Prop}:∀ {l₁:List α} {l₂:List β},Paired F l₁ l₂->(∀ a b,F a b->G a b)->Paired G l₁ l₂
 | _,_,.nil,_=>.nil
 | _,_,.cons r t,f=>.cons (f _ _ r) (Paired.mapP t f)
theorem ObjOk.stay (x:ObjOk P w H h a o) (k:∀ b u,(b=a\/H b=some (.own a))->h.get? b=some u->h'.get? b=some u)
  (ho:∀ b,H b=some (.own a)->H' b=some (.own a)) (ht:∀ b xs,H b=some (.tup xs)->H' b=some (.tup xs)):ObjOk P w H' h' a o:=by
 induction o with
 | lst xs=>obtain ⟨z,its,n,r,e⟩:=x;exact ⟨z,its,n,r,k _ _ (.inl rfl) e⟩
 | tup xs=>obtain ⟨z,its,r,ob,e,c⟩:=x;exact ⟨z,its,r,ob,k _ _ (.inl rfl) e,c⟩
 | dK kvs=>obtain ⟨z,y,vs,r,ob,es,ep,e,c⟩:=x;exact ⟨z,y,vs,r,ob,es,ep,k _ _ (.inl rfl) e,c⟩
 | dT kvs =>
  obtain ⟨z,y,xs,r,ob,es,ep,e,c⟩:=x;exact ⟨z,y,xs,Paired.mapP r λp q z=>⟨z.1,ht _ _ z.2.1,z.2.2⟩,ob,es,ep,k _ _ (.inl rfl) e,c⟩
 | set S n=>obtain ⟨ob,es,ep,t,e,c⟩:=x;exact ⟨ob,es,ep,t,k _ _ (.inl rfl) e,c⟩
 | ins C dx fs =>
  obtain ⟨d,z,ne,e,mA,⟨od,es,ep,e2,c⟩,r⟩:=x;exact ⟨ho _ d,z,ne,k _ _ (.inl rfl) e,mA,⟨od,es,ep,k _ _ (.inr d) e2,c⟩,r⟩
 | own y=>obtain ⟨ob,e⟩:=x;exact ⟨ob,k _ _ (.inl rfl) e⟩
 | xd fs=>obtain ⟨mA,⟨od,es,ep,e,c⟩,r⟩:=x;exact ⟨mA,⟨od,es,ep,k _ _ (.inl rfl) e,c⟩,r⟩
 | rng lo hi=>obtain ⟨t,u,v,e⟩:=x;exact ⟨t,u,v,k _ _ (.inl rfl) e⟩
 | frz ob u ih=>obtain ⟨e,q⟩:=x;exact ⟨k _ _ (.inl rfl) e,ih q⟩
 | tbl ps =>
  have e:h.get? a=some { cls:=.none,data:=.fields ps }:=x
  show h'.get? a=some { cls:=.none,data:=.fields ps }
  exact k a _ (.inl rfl) e
 | met f y =>
  have e:h.get? a=some (PySem.W.methodObj (.ref f) (.ref y)):=x
  show h'.get? a=some (PySem.W.methodObj (.ref f) (.ref y))
  exact k a _ (.inl rfl) e
 | ext φ=>obtain ⟨p,⟨o,e⟩,st⟩:=x;exact ⟨st _ _ p λo q=>k _ _ (.inl rfl) q,⟨o,k _ _ (.inl rfl) e⟩,st⟩
theorem HOk.lt (x:HOk P w H h) (e:H a=some o):a<h.objs.size:=(x a o e).lt
theorem HOk.fresh (x:HOk P w H h) (e:h.objs.size<=a):H a=none:=by
 cases q:H a with
 | none=>rfl
 | some u=>exact absurd (Nat.lt_of_lt_of_le (x.lt q) e) (Nat.lt_irrefl _)
theorem HOk.kept (x:HOk P w H h) (k:∀ b u,h.get? b=some u->h'.get? b=some u):HOk P w H h':=λa o e =>
 (x a o e).stay (λb u _ q=>k b u q) (λ_ q=>q) λ_ _ q=>q
theorem HOk.laid (x:HOk P w H h) (k:∀ b u,h.get? b=some u->h'.get? b=some u) (hp:h.objs.size<=a) (new:ObjOk P w (upd H a o) h' a o):HOk P w (upd H a o) h':=λb u e=>by
 have hn:=x.fresh hp
 by_cases hb:b=a
 ·subst hb;rw[qat] at e;cases e;exact new
 ·rw[qam hb] at e
  exact (x b u e).stay (λc v _ q=>k c v q) (λc q=>by rw[qam (qaj q hn)];exact q) λc xs q=>by rw[qam (qaj q hn)];exact q
end
def Rd (H:Hp) (a:Addr) (u:HO):Prop:=H a=some u\/∃ o,H a=some (.frz o u)
theorem Rd.ok {P:Program} {w:World} {H:Hp} {h:Heap} {a:Addr} {u:HO} (r:Rd H a u) (x:HOk P w H h):ObjOk P w H h a u:=by
 rcases r with r|⟨o,r⟩
 ·exact x a u r
 ·obtain ⟨_,q⟩:=x a _ r
  exact q
def Mut:Option HO->Prop
 | some (.lst _)=>True
 | some (.dK _)=>True
 | some (.dT _)=>True
 | some (.set _ _)=>True
 | some (.ins _ _ _)=>True
 | some (.ext _)=>True
 | _=>False
section
variable {P:Program} {w:World} {H:Hp} {h h':Heap} {x e:Addr} {o':HO}
theorem HOk.write (ok:HOk P w H h) (mu:Mut (H x)) (he:e=x\/H e=some (.own x)) (k:∀ b u,b≠e->h.get? b=some u->h'.get? b=some u) (heo:∃ u,h'.get? e=some u)
  (new:ObjOk P w (upd H x o') h' x o'):HOk P w (upd H x o') h':=λb u q=>by
 have nown:∀ c y,H c=some (.own y)->c≠x:=λc y r z=>by subst z;rw[r] at mu;exact mu
 have ntup:∀ c xs,H c=some (.tup xs)->c≠x:=λc xs r z=>by subst z;rw[r] at mu;exact mu
 by_cases hb:b=x
 ·subst hb;rw[qat] at q;cases q;exact new
 ·rw[qam hb] at q
  by_cases hbe:b=e
  ·have q':H b=some (.own x):=by
    rcases he with z|z
    ·exact absurd (hbe.trans z) hb
    ·rw[hbe];exact z
   rw[q] at q';cases q';obtain ⟨v,hv⟩:=heo;exact ⟨v,by rw[hbe];exact hv⟩
  ·refine (ok b u q).stay (λc v hc r=>k c v ?_ r) (λc r=>by rw[qam (nown c b r)];exact r) λc xs r=>by rw[qam (ntup c xs r)];exact r
   rcases hc with rfl|hc
   ·exact hbe
   ·rintro rfl
    rcases he with z|z
    ·exact nown c b hc z
    ·rw[hc] at z;cases z;exact hb rfl
end
structure Un (fs ex:List Addr) (H H':Hp) (h h':Heap):Prop where
 keep:∀ b o,h.get? b=some o->H b=none->b ∉ fs->b ∉ ex->h'.get? b=some o
 slot:∀ b o,h.get? b=some o->H b=none->b∈fs->b ∉ ex->∃ sl,h'.get? b=some { o with slots:=sl }
 free:∀ b o,h.get? b=some o->H b=none->b ∉ ex->H' b=none
 there:∀ b o,h.get? b=some o->b ∉ ex->∃ o',h'.get? b=some o'
 tups:∀ b xs,H b=some (.tup xs)->H' b=some (.tup xs)
 frzs:∀ b o u,H b=some (.frz o u)->H' b=some (.frz o u)
 tbls:∀ b ps,H b=some (.tbl ps)->∃ more,H' b=some (.tbl (ps ++ more))
section
variable {fs fs' ex ex':List Addr} {H H1 H2:Hp} {h h1 h2 h':Heap} {a x e:Addr} {o:HO}
theorem Un.any (u:Un fs ex H H1 h h1) {b:Addr} {ob:Obj} (q:h.get? b=some ob) (n:H b=none) (hx:b ∉ ex):∃ sl,h1.get? b=some { ob with slots:=sl }:=by
 by_cases hb:b∈fs
 ·exact u.slot b ob q n hb hx
 ·exact ⟨ob.slots,u.keep b ob q n hb hx⟩
theorem Un.kept (k:∀ b u,h.get? b=some u->h'.get? b=some u):Un fs ex H H h h':=
 ⟨λb ob q _ _ _=>k b ob q,λb ob q _ _ _=>⟨ob.slots,k b ob q⟩,λ_ _ _ n _=>n,λb ob q _=>⟨ob,k b ob q⟩,λ_ _ q=>q,λ_ _ _ q=>q,λ_ ps q=>⟨#[],by rw[q];simp⟩⟩
theorem Un.refl:Un fs ex H H h h:=Un.kept λ_ _ q=>q
theorem Un.laid (k:∀ b u,h.get? b=some u->h'.get? b=some u) (hp:h.objs.size<=a) (hn:H a=none):Un fs ex H (upd H a o) h h' where
 keep:=λb u q _ _ _=>k b u q
 slot:=λb u q _ _ _=>⟨u.slots,k b u q⟩
 free:=λb u q n _=>by rw[qam (Nat.ne_of_lt (Nat.lt_of_lt_of_le (Heap.lt_size q) hp))];exact n
 there:=λb u q _=>⟨u,k b u q⟩
 tups:=λb xs q=>by rw[qam (qaj q hn)];exact q
 frzs:=λb u xs q=>by rw[qam (qaj q hn)];exact q
 tbls:=λb ps q=>⟨#[],by rw[qam (qaj q hn),q];simp⟩
theorem Un.write (mu:Mut (H x)) (he:e=x\/H e=some (.own x)) (k:∀ b u,b≠e->h.get? b=some u->h'.get? b=some u) (heo:∃ u,h'.get? e=some u):Un fs ex H (upd H x o) h h':=by
 have hx:∀ b,H b=none->b≠x:=λb n z=>by subst z;rw[n] at mu;exact mu
 have hb:∀ b,H b=none->b≠e:=λb n z=>by
  subst z
  rcases he with r|r
  ·exact hx b n r
  ·rw[n] at r;cases r
 have hm:∀ b u,H b=some u->¬ Mut (some u)->b≠x:=λb u q nm z=>by subst z;rw[q] at mu;exact nm mu
 refine ⟨λb u q n _ _=>k b u (hb b n) q,λb u q n _ _=>⟨u.slots,k b u (hb b n) q⟩,λb u q n _=>by rw[qam (hx b n)];exact n,λb u q _=>?_,
  λb xs q=>by rw[qam (hm b _ q λz=>z)];exact q,λb u xs q=>by rw[qam (hm b _ q λz=>z)];exact q,λb ps q=>⟨#[],by rw[qam (hm b _ q λz=>z),q];simp⟩⟩
 by_cases hbe:b=e
 ·subst hbe;exact heo
 ·exact ⟨u,k b u hbe q⟩
end
def trk (h:Heap) (H:Hp):List Addr:=(List.range h.objs.size).filter λa=>(H a).isSome
def qjv (h:Heap) (H:Hp):Heap:=PySem.W.hideAll h (trk h H)
theorem qhv (h:Heap) (H:Hp):(qjv h H).objs.size=h.objs.size:=PySem.W.hideAll_size _ _
theorem qjw {h:Heap} {H:Hp} {b:Addr} {o:Obj} (e:h.get? b=some o) (n:H b=none):(qjv h H).get? b=some o:=
 PySem.W.hideAll_get _ e λhm=>by
  have q:(H b).isSome=true:=(List.mem_filter.mp hm).2;rw[n] at q;simp at q
theorem qlz {h:Heap} {H:Hp} {b:Addr} {o:Obj} (e:(qjv h H).get? b=some o):h.get? b=some o/\H b=none:=by
 have e':h.get? b=some o:=PySem.W.of_hideAll (trk h H) e;refine ⟨e',?_⟩
 cases q:H b with
 | none=>rfl
 | some x =>
  have hm:b∈trk h H:=List.mem_filter.mpr ⟨List.mem_range.mpr (Heap.lt_size e'),by simp[q]⟩;have z:(qjv h H).get? b=none:=PySem.W.hideAll_none (trk h H) hm;rw[z] at e;cases e
def qpv (g h:Heap) (L:Addr):List (Addr×Obj):=(List.range h.objs.size).filterMap λa=>if a=L\/(g.get? a).isSome=true then none else (h.get? a).map λo=>(a,o)
def rest (g h:Heap) (L d:Addr):List (Addr×Obj):=(qpv g h L).filter λp=>decide (p.1≠d)
open PySem PySem.Spec PyProof.Rows
structure Mod (K:Frag) (mg:Str->Option Value) (base:Heap):Prop where
 kin:K.In base
 glob:base.Ns mainGlobals mg
 blt:∃ mb,base.Ns builtinsNs mb/\∀ x:Str,x ≠ "__name__" -> mb x=bootBuiltins x
 nolimit:base.NoLimit
 nodig:base.NoDigits
 bm:∃ bm ob,mg "__builtins__" = some (.ref bm)/\bm≠builtinsNs/\base.get? bm=some ob/\ob.cls=.type "module" /\ ob.dict=some builtinsNs/\ob.data=.plain
structure Cx where
 prog:Program
 w:World
 K:Frag
 mg:Str->Option Value
 base:Heap
 A:Around
 N:List Str
 s₀:Shared
 H₀:Hp
 env:Env
 outer:List Env
 stack:List Env
 ex:List Addr
 fn:Str->Bool
 calm:Bool
 pn:List (Addr×Obj)
 xe:Value->Shared->Prop
def frs (l:List Env):List Addr:=l.filterMap (·.frame)
abbrev Cx.fs (X:Cx):List Addr:=frs X.outer
def Vis (sc:Scope) (x:Str):Prop:=sc.names.lookup x=some .local\/sc.names.lookup x=some .cell\/sc.names.lookup x=some .free
def Loc (sc:Scope) (x:Str):Prop:=sc.names.lookup x=some .local\/sc.names.lookup x=some .cell
def Look (env:Env) (h:Heap) (m:Str->Option Value) (x:Str) (u:Value):Prop:=
 (env.kindOf x=some .local/\m x=some u)\/((env.kindOf x=some .cell\/env.kindOf x=some .free)/\∃ c,env.cells.lookup x=some c/\h.IsCell c (some u))
structure Cx.Ok (X:Cx):Prop where
 mod:Mod X.K X.mg X.base
 kind:X.env.scope.kind=.function
 glob:X.env.globals=mainGlobals
 blt:X.env.builtins=builtinsNs
 above:X.s₀.heap.objs.size<=X.env.locals
 inj:∀ x y c,X.env.cells.lookup x=some c->X.env.cells.lookup y=some c->x=y
 has:∀ x,(X.env.kindOf x=some .cell\/X.env.kindOf x=some .free)->∃ c,X.env.cells.lookup x=some c
 cab:∀ x c,X.fn x=true->X.env.cells.lookup x=some c->X.s₀.heap.objs.size<=c
 hd:X.calm=true->X.A.handled=none
 frames:X.A.frames=some X.stack
 stk:X.stack=X.outer\/(X.stack=X.env :: X.outer/\X.env.frame=some X.env.locals)
 exf:∀ b∈X.ex,b≠X.env.locals/\∀ x c,X.env.cells.lookup x=some c->c≠b
 bs:∀ b o,X.base.get? b=some o->X.s₀.heap.get? b=some o/\X.H₀ b=none
 bsz:X.base.objs.size<=X.s₀.heap.objs.size
 noex:∀ b o,X.base.get? b=some o->b ∉ X.ex
 exfs:∀ b∈X.ex,b ∉ X.fs
 funs:X.s₀.heap.FunFrames X.base X.outer
 frf:∀ b∈X.fs,X.H₀ b=none
structure Inv (X:Cx) (pins:List (Addr×Obj)) (σ:List (Option V)) (H:Hp) (s:Shared):Prop where
 ok:X.Ok
 os:s.os=X.s₀.os
 bare:AllBare s.gens
 base:Un X.fs X.ex X.H₀ H X.s₀.heap s.heap
 loc:∃ m,s.heap.Ns X.env.locals m/\∀ (i:Nat) (x:Str) (v:V),X.N[i]?=some x->σ[i]?=some (some v)->Vis X.env.scope x->∃ u,RelV v u/\Look X.env s.heap m x u
 cell:∀ x c,X.env.cells.lookup x=some c->∃ v,s.heap.IsCell c v
 free:H X.env.locals=none
 freeC:∀ x c,X.env.cells.lookup x=some c->H c=none
 pin:∀ p∈X.pn ++ pins,s.heap.get? p.1=some p.2/\H p.1=none/\p.1≠X.env.locals/\p.1 ∉ X.fs/\∀ v,p.2.data≠.cell v
 hok:HOk X.prog X.w H s.heap
 len:σ.length=X.N.length
section
variable {X:Cx} {pins:List (Addr×Obj)} {σ:List (Option V)} {H H':Hp} {s:Shared} {h':Heap}
theorem Cx.Ok.nofr (ok:X.Ok) {b:Addr} {o:Obj} (e:X.base.get? b=some o):b ∉ X.fs:=λhb=>by
 have:=(ok.funs.mem hb).1;rw[e] at this;cases this
theorem Inv.bs (I:Inv X pins σ H s):∀ b o,X.base.get? b=some o->s.heap.get? b=some o/\H b=none:=λb o e =>
 ⟨I.base.keep b o (I.ok.bs b o e).1 (I.ok.bs b o e).2 (I.ok.nofr e) (I.ok.noex b o e),I.base.free b o (I.ok.bs b o e).1 (I.ok.bs b o e).2 (I.ok.noex b o e)⟩
theorem Inv.bk (I:Inv X pins σ H s):∀ b o,X.base.get? b=some o->s.heap.get? b=some o:=λb o e=>(I.bs b o e).1
theorem Inv.mod (I:Inv X pins σ H s):Mod X.K X.mg X.base:=I.ok.mod
theorem Inv.kIn (I:Inv X pins σ H s):X.K.In s.heap:=I.ok.mod.kin.keeps I.bk
theorem Inv.nolimit (I:Inv X pins σ H s):s.heap.NoLimit:=I.ok.mod.nolimit.keeps I.bk
theorem Inv.lt (I:Inv X pins σ H s):X.env.locals<s.heap.objs.size:=let ⟨_,hn,_⟩:=I.loc;hn.lt
theorem Inv.sz (I:Inv X pins σ H s):X.s₀.heap.objs.size<=s.heap.objs.size:=Nat.le_trans I.ok.above (Nat.le_of_lt I.lt)
theorem Inv.nofs (I:Inv X pins σ H s) {a:Addr} (h:s.heap.objs.size<=a):a ∉ X.fs:=λhb=>by
 obtain ⟨_,o,ho,_⟩:=I.ok.funs.mem hb;exact absurd (Nat.lt_of_lt_of_le (Heap.lt_size ho) (Nat.le_trans I.sz h)) (Nat.lt_irrefl _)
theorem Inv.cne (I:Inv X pins σ H s):∀ x c,X.env.cells.lookup x=some c->c≠X.env.locals:=λx c e z=>by
 obtain ⟨v,o,ho,hd⟩:=I.cell x c e;obtain ⟨m,⟨o',es,ep,ho',hd',_⟩,_⟩:=I.loc;rw[z,ho'] at ho;cases ho;rw[hd'] at hd;cases hd
theorem Inv.funs (I:Inv X pins σ H s):s.heap.FunFrames X.base X.outer:=by
 have all:∀ (l:List Env),(∀ b∈frs l,b∈X.fs)->X.s₀.heap.FunFrames X.base l->s.heap.FunFrames X.base l:=by
  intro l
  induction l with
  | nil=>intro _ _;trivial
  | cons env r ih =>
   intro hs hl;obtain ⟨hk,⟨L,o,hf,hn,ho,hd⟩,hr⟩:=hl;have hL:L∈X.fs:=hs L (by unfold frs;rw[List.filterMap_cons,hf];exact List.mem_cons_self);obtain ⟨sl,e⟩:=I.base.slot L o ho (I.ok.frf L hL) hL λz=>I.ok.exfs L z hL
   exact ⟨hk,⟨L,_,hf,hn,e,hd⟩,ih (λb hb=>hs b (by unfold frs;rw[List.filterMap_cons,hf];exact List.mem_cons_of_mem _ hb)) hr⟩
 exact all X.outer (λ_ hb=>hb) I.ok.funs
theorem Inv.stack (I:Inv X pins σ H s):s.heap.FunFrames X.base X.stack:=by
 rcases I.ok.stk with e|⟨e,hf⟩
 ·rw[e];exact I.funs
 ·rw[e]
  obtain ⟨m,hn,_⟩:=I.loc;refine .cons (by rw[I.ok.kind];decide) hf hn ?_ I.funs;exact Heap.get?_none_of_le (Nat.le_trans I.ok.bsz I.ok.above)
theorem Inv.stkSub (I:Inv X pins σ H s):∀ b∈frs X.stack,b∈X.env.locals :: X.fs:=λb hb=>by
 rcases I.ok.stk with e|⟨e,hf⟩
 ·rw[e] at hb;exact List.mem_cons_of_mem _ hb
 ·rw[e] at hb
  unfold frs at hb;rw[List.filterMap_cons,hf] at hb;exact hb
theorem Inv.stkFree (I:Inv X pins σ H s):∀ b∈frs X.stack,H b=none:=λb hb=>by
 rcases List.mem_cons.mp (I.stkSub b hb) with e|hb
 ·rw[e];exact I.free
 ·obtain ⟨_,o,ho,_⟩:=I.ok.funs.mem hb
  exact I.base.free b o ho (I.ok.frf b hb) λz=>I.ok.exfs b z hb
theorem Inv.step {g':Array GenState} {t':Nat} {d':Drawn} {ch:List Addr} (I:Inv X pins σ H s)
  (hch:∀ b∈ch,(b∈X.ex\/X.s₀.heap.objs.size<=b)/\b≠X.env.locals/\(∀ x c,X.env.cells.lookup x=some c->c≠b)/\∀ p∈X.pn ++ pins,p.1≠b)
  (keep:∀ b o,b≠X.env.locals->b ∉ X.fs->b ∉ ch->s.heap.get? b=some o->H b=none->h'.get? b=some o)
  (slot:∀ b o,b≠X.env.locals->b∈X.fs->b ∉ ch->s.heap.get? b=some o->H b=none->∃ sl,h'.get? b=some { o with slots:=sl }) (free:∀ b o,b ∉ ch->s.heap.get? b=some o->H b=none->H' b=none)
  (there:∀ b o,b ∉ ch->s.heap.get? b=some o->∃ o',h'.get? b=some o')
  (tups:∀ b xs,H b=some (.tup xs)->H' b=some (.tup xs)) (frzs:∀ b o u,H b=some (.frz o u)->H' b=some (.frz o u)) (tbls:∀ b ps,H b=some (.tbl ps)->∃ more,H' b=some (.tbl (ps ++ more)))
  (ns:∀ m,s.heap.Ns X.env.locals m->h'.Ns X.env.locals m) (hok:HOk X.prog X.w H' h') (hg:AllBare g') :
  Inv X pins σ H' { s with heap:=h',gens:=g',drawn:=d',toks:=t' }:=by
 have neL:∀ b o,X.s₀.heap.get? b=some o->b≠X.env.locals:=λb o e=>Nat.ne_of_lt (Nat.lt_of_lt_of_le (Heap.lt_size e) I.ok.above)
 have neC:∀ b o,X.s₀.heap.get? b=some o->b ∉ X.ex->b ∉ ch:=λb o e hx hb=>by
  rcases (hch b hb).1 with z|z
  ·exact hx z
  ·exact absurd (Nat.lt_of_lt_of_le (Heap.lt_size e) z) (Nat.lt_irrefl _)
 have cellK:∀ x c,X.env.cells.lookup x=some c->∀ v,s.heap.IsCell c v->h'.IsCell c v:=λx c e v ⟨o,ho,hd⟩=>by
  have nch:c ∉ ch:=λz=>(hch c z).2.2.1 x c e rfl
  by_cases hc:c∈X.fs
  ·obtain ⟨sl,q⟩:=slot c o (I.cne x c e) hc nch ho (I.freeC x c e)
   exact ⟨_,q,hd⟩
  ·exact ⟨o,keep c o (I.cne x c e) hc nch ho (I.freeC x c e),hd⟩
 refine ⟨I.ok,I.os,hg,⟨λb o e n hb hx=>?_,λb o e n hb hx=>?_,λb o e n hx=>?_,λb o e hx=>?_,λb xs e=>tups b xs (I.base.tups b xs e),λb o xs e=>frzs b o xs (I.base.frzs b o xs e),λb ps e=>?_⟩,?_,λx c e=>?_,?_,λx c e=>?_,λp hp=>?_,hok,I.len⟩
 ·exact keep b o (neL b o e) hb (neC b o e hx) (I.base.keep b o e n hb hx) (I.base.free b o e n hx)
 ·obtain ⟨sl,e1⟩:=I.base.slot b o e n hb hx
  obtain ⟨sl',e2⟩:=slot b _ (neL b o e) hb (neC b o e hx) e1 (I.base.free b o e n hx);exact ⟨sl',e2⟩
 ·obtain ⟨o',e1⟩:=I.base.there b o e hx
  exact free b o' (neC b o e hx) e1 (I.base.free b o e n hx)
 ·obtain ⟨o',e1⟩:=I.base.there b o e hx
  exact there b o' (neC b o e hx) e1
 ·obtain ⟨m1,e1⟩:=I.base.tbls b ps e
  obtain ⟨m2,e2⟩:=tbls b _ e1;exact ⟨m1 ++ m2,by rw[e2,Array.append_assoc]⟩
 ·obtain ⟨m,hn,hl⟩:=I.loc
  refine ⟨m,ns m hn,λi x v e1 e2 e3=>?_⟩;obtain ⟨u,r,l⟩:=hl i x v e1 e2 e3;refine ⟨u,r,?_⟩
  rcases l with l|⟨k,c,e,z⟩
  ·exact .inl l
  ·exact .inr ⟨k,c,e,cellK x c e _ z⟩
 ·obtain ⟨v,z⟩:=I.cell x c e
  exact ⟨v,cellK x c e v z⟩
 ·obtain ⟨m,⟨o,_,_,ho,_⟩,_⟩:=I.loc
  exact free _ o (λz=>(hch _ z).2.1 rfl) ho I.free
 ·obtain ⟨v,o,ho,hd⟩:=I.cell x c e
  exact free c o (λz=>(hch c z).2.2.1 x c e rfl) ho (I.freeC x c e)
 ·obtain ⟨e,n,ne,nf,d⟩:=I.pin p hp
  have nch:p.1 ∉ ch:=λz=>(hch p.1 z).2.2.2 p hp rfl
  exact ⟨keep p.1 p.2 ne nf nch e n,free p.1 p.2 nch e n,ne,nf,d⟩
theorem Inv.un {t':Nat} (I:Inv X pins σ H s) (u:Un X.fs [] H H' s.heap h') (hok:HOk X.prog X.w H' h'):Inv X pins σ H' { s with heap:=h',toks:=t' }:=by
 obtain ⟨m,⟨o,es,ep,ho,r⟩,_⟩:=id I.loc;obtain ⟨sl,hL⟩:=u.any ho I.free (by simp);exact I.step (g':=s.gens) (d':=s.drawn) (ch:=[]) (λ_ z=>nomatch z) (λb o _ hb _ e n=>u.keep b o e n hb (by simp)) (λb o _ hb _ e n=>u.slot b o e n hb (by simp)) (λb o _ e n=>u.free b o e n (by simp)) (λb o _ e=>u.there b o e (by simp)) u.tups u.frzs u.tbls (λm' hm=>by
  obtain ⟨o',es',ep',ho',r'⟩:=hm;rw[ho] at ho';cases ho';exact ⟨_,es',ep',hL,r'⟩) hok I.bare
theorem Inv.call {g':Array GenState} {t':Nat} {d':Drawn} {ch:List Addr} (I:Inv X pins σ H s) (u:Un (frs X.stack) ch H H' s.heap h') (hok:HOk X.prog X.w H' h') (hg:AllBare g')
  (hch:∀ b∈ch,(b∈X.ex\/X.s₀.heap.objs.size<=b)/\b≠X.env.locals/\(∀ x c,X.env.cells.lookup x=some c->c≠b)/\∀ p∈X.pn ++ pins,p.1≠b) :
  Inv X pins σ H' { s with heap:=h',gens:=g',drawn:=d',toks:=t' }:=by
 obtain ⟨m,⟨o,es,ep,ho,r⟩,_⟩:=id I.loc;obtain ⟨sl,hL⟩:=u.any ho I.free λz=>(hch _ z).2.1 rfl
 exact I.step (ch:=ch) hch (λb o hL hb hc e n=>u.keep b o e n (λz=>(List.mem_cons.mp (I.stkSub b z)).elim hL hb) hc) (λb o _ _ hc e n=>u.any e n hc) (λb o hc e n=>u.free b o e n hc) (λb o hc e=>u.there b o e hc) u.tups u.frzs u.tbls (λm' hm=>by
  obtain ⟨o',es',ep',ho',r'⟩:=hm;rw[ho] at ho';cases ho';exact ⟨_,es',ep',hL,r'⟩) hok hg
theorem Inv.turned {t':Nat} {it:Addr} (I:Inv X pins σ H s) (k:∀ b o,b≠it->s.heap.get? b=some o->h'.get? b=some o) (hn:H it=none) (hL:it≠X.env.locals)
  (h1:it∈X.ex\/X.s₀.heap.objs.size<=it) (h2:∀ x c,X.env.cells.lookup x=some c->c≠it) (h3:∀ p∈X.pn ++ pins,p.1≠it):Inv X pins σ H { s with heap:=h',toks:=t' }:=by
 have nit:∀ b u,H b=some u->b≠it:=λb u e z=>by rw[z,hn] at e;cases e
 refine I.step (g':=s.gens) (d':=s.drawn) (ch:=[it]) (λb hb=>?_) (λb o _ _ hc e _=>k b o (λz=>hc (by simp[z])) e) (λb o _ _ hc e _=>⟨o.slots,k b o (λz=>hc (by simp[z])) e⟩) (λ_ _ _ _ n=>n)
  (λb o hc e=>⟨o,k b o (λz=>hc (by simp[z])) e⟩) (λ_ _ e=>e) (λ_ _ _ e=>e) (λb ps e=>⟨#[],by rw[e];simp⟩) (λm hm=>?_) (λb u e=>?_) I.bare
 ·have e:b=it:=by simpa using hb
  subst e;exact ⟨h1,hL,h2,h3⟩
 ·obtain ⟨o,es,ep,ho,r⟩:=hm
  exact ⟨o,es,ep,k _ o (Ne.symm hL) ho,r⟩
 ·refine (I.hok b u e).stay (λc v hc q=>k c v ?_ q) (λ_ q=>q) λ_ _ q=>q
  rcases hc with z|z
  ·rw[z];exact nit b u e
  ·exact nit c _ z
theorem Inv.tok (I:Inv X pins σ H s) (t:Nat):Inv X pins σ H { s with toks:=t }:=I.un (h':=s.heap) (t':=t) Un.refl I.hok
theorem Inv.kept {t':Nat} (I:Inv X pins σ H s) (k:∀ b u,s.heap.get? b=some u->h'.get? b=some u):Inv X pins σ H { s with heap:=h',toks:=t' }:=I.un (Un.kept k) (I.hok.kept k)
theorem Inv.laid {a:Addr} {o:HO} {t':Nat} (I:Inv X pins σ H s) (k:∀ b u,s.heap.get? b=some u->h'.get? b=some u) (hp:s.heap.objs.size<=a) (new:ObjOk X.prog X.w (upd H a o) h' a o) :
  Inv X pins σ (upd H a o) { s with heap:=h',toks:=t' }:=I.un (Un.laid k hp (I.hok.fresh hp)) (I.hok.laid k hp new)
theorem Inv.write {x e:Addr} {o:HO} {t':Nat} (I:Inv X pins σ H s) (mu:Mut (H x)) (he:e=x\/H e=some (.own x)) (k:∀ b u,b≠e->s.heap.get? b=some u->h'.get? b=some u) (heo:∃ u,h'.get? e=some u)
  (new:ObjOk X.prog X.w (upd H x o) h' x o):Inv X pins σ (upd H x o) { s with heap:=h',toks:=t' }:=I.un (Un.write mu he k heo) (I.hok.write mu he k heo new)
theorem Inv.weak {σ':List (Option V)} (I:Inv X pins σ H s) (hl:σ'.length=σ.length) (w:∀ (i:Nat) v,σ'[i]?=some (some v)->σ[i]?=some (some v)):Inv X pins σ' H s:=
 ⟨I.ok,I.os,I.bare,I.base,let ⟨m,hn,hl'⟩:=I.loc;⟨m,hn,λi x v e1 e2 e3=>hl' i x v e1 (w i v e2) e3⟩,I.cell,I.free,I.freeC,I.pin,I.hok,hl.trans I.len⟩
theorem Inv.pins_of {pins':List (Addr×Obj)} (I:Inv X pins σ H s) (h:∀ p∈pins',s.heap.get? p.1=some p.2/\H p.1=none/\p.1≠X.env.locals/\p.1 ∉ X.fs/\∀ v,p.2.data≠.cell v):Inv X pins' σ H s:=
 ⟨I.ok,I.os,I.bare,I.base,I.loc,I.cell,I.free,I.freeC,λp hp=>(List.mem_append.mp hp).elim (λz=>I.pin p (List.mem_append_left _ z)) (h p),I.hok,I.len⟩
theorem qjx {N:List Str} (hN:N.Nodup) {i j:Nat} {x:Str} (a:N[i]?=some x) (b:N[j]?=some x):i=j:=by
 obtain ⟨h1,e1⟩:=List.getElem?_eq_some_iff.mp a;obtain ⟨h2,e2⟩:=List.getElem?_eq_some_iff.mp b;exact (List.getElem_inj hN).mp (e1.trans e2.symm)
theorem ql0 {M:Model} {A:Around} {E:Value->Shared->Prop} {i:Nat} {x:Str} {v:V} {u:Value} {Q:Unit->Shared->Prop} (I:Inv X pins σ H s) (hN:X.N.Nodup) (hi:X.N[i]?=some x) (hx:Loc X.env.scope x) (r:RelV v u)
  (h:∀ s',Inv X pins (σ.set i (some v)) H s'->(∃ a,Heap.SameBut a s.heap s'.heap/\(a=X.env.locals\/X.env.cells.lookup x=some a))->Q () s') (hf:X.fn x=true\/X.env.scope.names.lookup x=some .local:=by first|exact .inl rfl|exact .inr rfl|assumption):wpAny M A (storeName X.env x u) Q E s:=by
 obtain ⟨m,hn,hl⟩:=id I.loc;have hcls:(X.env.scope.kind == .class || (X.env.scope.kind == .module && X.env.locals != X.env.globals))=false:=by rw[I.ok.kind];rfl
 have hiσ:i<σ.length:=by rw[I.len];exact (List.getElem?_eq_some_iff.mp hi).1
 have cne:=I.cne;have tracked:∀ {a:Addr} {h':Heap},(∃ o,s.heap.get? a=some o/\H a=none)->Heap.SameBut a s.heap h'->HOk X.prog X.w H h':=fun {a h'} ha hs b ob e=>by
  obtain ⟨_,_,hfree⟩:=ha;refine (I.hok b ob e).stay (λc w' hc q=>(hs.2 c ?_).trans q) (λ_ q=>q) λ_ _ q=>q
  rintro rfl
  rcases hc with rfl|hc
  ·rw[hfree] at e;cases e
  ·rw[hfree] at hc;cases hc
 rcases hx with hk|hk
 ·refine wpAny_storeName_local hk hn (λh' hn' hs=>?_) hcls
  obtain ⟨oL,_,_,hoL,_⟩:=id hn;refine h _ ⟨I.ok,I.os,I.bare,⟨λb o e n hb hx=>?_,λb o e n hb hx=>?_,I.base.free,λb o e hx=>?_,I.base.tups,I.base.frzs,I.base.tbls⟩,⟨_,hn',λj y v' e1 e2 e3=>?_⟩,λy c e=>?_,I.free,I.freeC,λp hp=>?_,tracked ⟨oL,hoL,I.free⟩ hs,by simpa using I.len⟩ ⟨_,hs,.inl rfl⟩
  ·exact (hs.2 b (Nat.ne_of_lt (Nat.lt_of_lt_of_le (Heap.lt_size e) I.ok.above))).trans (I.base.keep b o e n hb hx)
  ·obtain ⟨sl,e1⟩:=I.base.slot b o e n hb hx
   exact ⟨sl,(hs.2 b (Nat.ne_of_lt (Nat.lt_of_lt_of_le (Heap.lt_size e) I.ok.above))).trans e1⟩
  ·obtain ⟨o',e1⟩:=I.base.there b o e hx
   exact ⟨o',(hs.2 b (Nat.ne_of_lt (Nat.lt_of_lt_of_le (Heap.lt_size e) I.ok.above))).trans e1⟩
  ·by_cases hj:j=i
   ·subst hj
    rw[hi] at e1;cases e1;rw[List.getElem?_set_self hiσ] at e2;cases e2;exact ⟨u,r,.inl ⟨hk,by simp⟩⟩
   ·rw[List.getElem?_set_ne (Ne.symm hj)] at e2
    obtain ⟨u',r',q⟩:=hl j y v' e1 e2 e3;refine ⟨u',r',?_⟩
    rcases q with ⟨k,e⟩|⟨k,c,e,z⟩
    ·refine .inl ⟨k,?_⟩
     have:y≠x:=λe=>hj (qjx hN e1 (e ▸ hi))
     simp[this,e]
    ·exact .inr ⟨k,c,e,z.sameBut hs (cne y c e)⟩
  ·obtain ⟨w',z⟩:=I.cell y c e
   exact ⟨w',z.sameBut hs (cne y c e)⟩
  ·obtain ⟨e,n,ne,nf,d⟩:=I.pin p hp
   exact ⟨(hs.2 p.1 ne).trans e,n,ne,nf,d⟩
 ·have hfn:X.fn x=true:=by
   rcases hf with z|z
   ·exact z
   ·rw[z] at hk;cases hk
  obtain ⟨c,hc⟩:=I.ok.has x (.inl hk);obtain ⟨w',z⟩:=I.cell x c hc;refine wpAny_storeName_cell I.ok.kind hk hc z (λh' hc' hs=>?_);obtain ⟨oc,hoc,hocd⟩:=id z;refine h { s with heap:=h' } ⟨I.ok,I.os,I.bare,⟨λb o e n hb hx=>?_,λb o e n hb hx=>?_,I.base.free,λb o e hx=>?_,I.base.tups,I.base.frzs,I.base.tbls⟩,⟨m,hn.sameBut hs (Ne.symm (cne x c hc)),λj y v' e1 e2 e3=>?_⟩,λy c' e=>?_,I.free,I.freeC,λp hp=>?_,tracked ⟨oc,hoc,I.freeC x c hc⟩ hs,by simpa using I.len⟩ ⟨c,hs,.inr hc⟩
  ·exact (hs.2 b (Nat.ne_of_lt (Nat.lt_of_lt_of_le (Heap.lt_size e) (I.ok.cab x c hfn hc)))).trans (I.base.keep b o e n hb hx)
  ·obtain ⟨sl,e1⟩:=I.base.slot b o e n hb hx
   exact ⟨sl,(hs.2 b (Nat.ne_of_lt (Nat.lt_of_lt_of_le (Heap.lt_size e) (I.ok.cab x c hfn hc)))).trans e1⟩
  ·obtain ⟨o',e1⟩:=I.base.there b o e hx
   exact ⟨o',(hs.2 b (Nat.ne_of_lt (Nat.lt_of_lt_of_le (Heap.lt_size e) (I.ok.cab x c hfn hc)))).trans e1⟩
  ·by_cases hj:j=i
   ·subst hj
    rw[hi] at e1;cases e1;rw[List.getElem?_set_self hiσ] at e2;cases e2;exact ⟨u,r,.inr ⟨.inl hk,c,hc,hc'⟩⟩
   ·rw[List.getElem?_set_ne (Ne.symm hj)] at e2
    obtain ⟨u',r',q⟩:=hl j y v' e1 e2 e3;refine ⟨u',r',?_⟩
    rcases q with q|⟨k,c',e,z'⟩
    ·exact .inl q
    ·refine .inr ⟨k,c',e,z'.sameBut hs ?_⟩
     rintro rfl;exact hj (qjx hN e1 (I.ok.inj _ _ _ e hc ▸ hi))
  ·by_cases hcc:c'=c
   ·subst hcc;exact ⟨_,hc'⟩
   ·obtain ⟨w2,z2⟩:=I.cell y c' e
    exact ⟨w2,z2.sameBut hs hcc⟩
  ·obtain ⟨e,n,ne,nf,d⟩:=I.pin p hp
   refine ⟨(hs.2 p.1 ?_).trans e,n,ne,nf,d⟩;intro q;rw[q,hoc] at e;have q':oc=p.2:=Option.some.inj e;exact d w' (by rw[<- q'];exact hocd)
theorem qg6 {M:Model} {A:Around} {E:Value->Shared->Prop} {i:Nat} {x:Str} {v:V} {u:Value} {Q:Unit->Shared->Prop} (I:Inv X pins σ H s) (hN:X.N.Nodup) (hi:X.N[i]?=some x) (hx:Loc X.env.scope x) (r:RelV v u)
  (h:∀ s',Inv X pins (σ.set i (some v)) H s'->Q () s') (hf:X.fn x=true\/X.env.scope.names.lookup x=some .local:=by first|exact .inl rfl|exact .inr rfl|assumption):wpAny M A (storeName X.env x u) Q E s:=
 ql0 I hN hi hx r (λs' I' _=>h s' I') hf
theorem Inv.call' {s':Shared} {ch:List Addr} (I:Inv X pins σ H s) (ho:s'.os=s.os) (u:Un (frs X.stack) ch H H' s.heap s'.heap) (hok:HOk X.prog X.w H' s'.heap) (hg:AllBare s'.gens)
  (hch:∀ b∈ch,(b∈X.ex\/X.s₀.heap.objs.size<=b)/\b≠X.env.locals/\(∀ x c,X.env.cells.lookup x=some c->c≠b)/\∀ p∈X.pn ++ pins,p.1≠b):Inv X pins σ H' s':=by
 obtain ⟨h',g',d',t',o'⟩:=s';have e:o'=s.os:=ho;subst e;exact I.call (g':=g') (t':=t') (d':=d') u hok hg hch
end
abbrev XK:=Value->Option Addr->Hp->Prop
abbrev St:=List (Option V)
abbrev VK:=V->Hp->Prop
abbrev TE:=St->Hp->VK->Prop
abbrev TT:=St->Hp->(Bool->Hp->Prop)->Prop
abbrev TA:=St->Hp->(List V->Hp->Prop)->Prop
structure Ends where
 nx:St->Hp->Prop
 rt:VK
 bk:St->Hp->Prop:=λ_ _=>False
 ct:St->Hp->Prop:=λ_ _=>False
abbrev TS:=Ends->St->Hp->Prop
def EP (X:Cx) (pins:List (Addr×Obj)) (σ:St) (Q:VK) (u:Value) (s':Shared):Prop:=∃ v H',Inv X pins σ H' s'/\RelV v u/\Q v H'
def TP (X:Cx) (pins:List (Addr×Obj)) (σ:St) (Q:Bool->Hp->Prop) (b:Bool) (s':Shared):Prop:=∃ H',Inv X pins σ H' s'/\Q b H'
def AP (X:Cx) (pins:List (Addr×Obj)) (σ:St) (Q:List V->Hp->Prop) (us:List Value) (s':Shared):Prop:=∃ vs H',Inv X pins σ H' s'/\Vals vs us/\Q vs H'
def SP (X:Cx) (pins:List (Addr×Obj)) (D:Ends) (f:Flow) (s':Shared):Prop:=
 match f with
 | .next=>∃ σ' H',Inv X pins σ' H' s'/\D.nx σ' H'
 | .brk=>∃ σ' H',Inv X pins σ' H' s'/\D.bk σ' H'
 | .cont=>∃ σ' H',Inv X pins σ' H' s'/\D.ct σ' H'
 | .ret u=>∃ v σ' H',Inv X pins σ' H' s'/\RelV v u/\D.rt v H'
def PE (X:Cx) (e:Expr) (t:TE):Prop:=
 ∀ (pins:List (Addr×Obj)) (s:Shared) (σ:St) (H:Hp) (Q:VK),Inv X pins σ H s->t σ H Q->wpAny (model X.prog X.w) X.A (eval e X.env) (EP X pins σ Q) X.xe s
def PT (X:Cx) (e:Expr) (t:TT):Prop:=
 ∀ (pins:List (Addr×Obj)) (s:Shared) (σ:St) (H:Hp) (Q:Bool->Hp->Prop),Inv X pins σ H s->t σ H Q->wpAny (model X.prog X.w) X.A (isTrue e X.env (eval e X.env)) (TP X pins σ Q) X.xe s
def PW (X:Cx) (e:Expr) (t:TT):Prop:=
 ∀ (whole:Sem Value) (pins:List (Addr×Obj)) (s:Shared) (σ:St) (H:Hp) (Q:Bool->Hp->Prop),Inv X pins σ H s->t σ H Q->wpAny (model X.prog X.w) X.A (isTrue e X.env whole) (TP X pins σ Q) X.xe s
theorem PW.pt {X:Cx} {e:Expr} {t:TT} (h:PW X e t):PT X e t:=h _
def PA (X:Cx) (es:List Expr) (t:TA):Prop:=
 ∀ (pos:Pos) (pins:List (Addr×Obj)) (s:Shared) (σ:St) (H:Hp) (Q:List V->Hp->Prop),Inv X pins σ H s->t σ H Q->wpAny (model X.prog X.w) X.A (spliced (backTo pos (starEach es X.env))) (AP X pins σ Q) X.xe s
def PS (X:Cx) (st:Stmt) (t:TS):Prop:=
 ∀ (pins:List (Addr×Obj)) (s:Shared) (σ:St) (H:Hp) (D:Ends),Inv X pins σ H s->t D σ H->wpAny (model X.prog X.w) X.A (exec st X.env) (SP X pins D) X.xe s
def PSs (X:Cx) (st:List Stmt) (t:TS):Prop:=
 ∀ (pins:List (Addr×Obj)) (s:Shared) (σ:St) (H:Hp) (D:Ends),Inv X pins σ H s->t D σ H->wpAny (model X.prog X.w) X.A (execs st X.env) (SP X pins D) X.xe s
theorem thn {α:Type} {t:Sem α} {Q Q':α->Shared->Prop} {M:Model} {A:Around} {E:Value->Shared->Prop} {s:Shared} (h:wpAny M A t Q E s) (hQ:∀ a s,Q a s->Q' a s):wpAny M A t Q' E s:=wpAny_mono h hQ λ_ _ x=>x
open PySem PySem.Spec PyProof.Rows
section
variable {X:Cx}
inductive tVarS (i:Nat) (σ:St) (H:Hp) (Q:VK):Prop
 | mk (v:V) (h:σ[i]?=some (some v)) (k:Q v H)
def qti (i:Nat):TE:=λσ H Q=>tVarS i σ H Q
def tC (v:V):TE:=λ_ H Q=>Q v H
theorem qfe {i:Nat} {x:Str} {pos:Pos} (hN:X.N[i]?=some x) (hv:Vis X.env.scope x) (hd:(x == ("__debug__" : Str))=false:=by decide) (hcd:(x == ("__classdict__" : Str))=false:=by decide):PE X (.Name x pos) (qti i):=by
 intro pins s σ H Q I h;obtain ⟨v,e,h⟩:=h;obtain ⟨m,hn,hl⟩:=I.loc;obtain ⟨u,r,l⟩:=hl i x v hN e hv;have fin:EP X pins σ Q u s:=⟨v,H,I,r,h⟩
 rcases l with ⟨hk,hm⟩|⟨hk,c,hc,hcell⟩
 ·exact wpAny_Name (wpAny_loadName_local I.ok.kind hk hn hm fin) hd
 ·rcases hk with hk|hk
  ·exact wpAny_Name (wpAny_loadName_cell I.ok.kind hk hc hcell fin) hd
  ·exact wpAny_Name (wpAny_loadName_free I.ok.kind hk hc hcell fin hcd) hd
theorem qah {i j pos}:PE X (.Constant (.int i) j pos) (tC (.int i)):=λ_ _ _ H _ I h=>wpAny_Constant_int ⟨.int i,H,I.tok _,⟨_,rfl⟩,h⟩
theorem qi6 {b j pos}:PE X (.Constant (.bool b) j pos) (tC (.bl b)):=λ_ _ _ H _ I h=>Constant_bool ⟨.bl b,H,I,rfl,h⟩
theorem qgt {j pos}:PE X (.Constant .none j pos) (tC .non):=λ_ _ _ H _ I h=>Constant_none ⟨.non,H,I,rfl,h⟩
theorem qbg {x j pos}:PE X (.Constant (.str x) j pos) (tC (.str x)):=λ_ _ _ H _ I h=>Calls.Constant_str ⟨.str x,H,I.tok _,⟨_,rfl⟩,h⟩
def Gl (X:Cx) (x:Str):Prop:=X.env.kindOf x=some .globalImplicit
theorem qfr {E:Value->Shared->Prop} {pins:List (Addr×Obj)} {s:Shared} {σ:St} {H:Hp} {x:Str} {u:Value} {pos:Pos} {Q:Value->Shared->Prop} (I:Inv X pins σ H s) (hg:Gl X x) (hm:X.mg x=some u) (h:Q u s)
  (hd:(x == ("__debug__" : Str))=false:=by decide):wpAny (model X.prog X.w) X.A (eval (.Name x pos) X.env) Q E s:=
 Calls.Name_function_global I.ok.kind hg (Calls.loadGlobal_global (by rw[I.ok.glob];exact I.mod.glob.keeps I.bk) hm h) hd
theorem qgu {E:Value->Shared->Prop} {pins:List (Addr×Obj)} {s:Shared} {σ:St} {H:Hp} {x:Str} {u:Value} {pos:Pos} {Q:Value->Shared->Prop} (I:Inv X pins σ H s) (hg:Gl X x) (hm:X.mg x=none) (hv:bootBuiltins x=some u) (h:Q u s)
  (hn:x ≠ "__name__" :=by decide) (hd:(x == ("__debug__" : Str))=false:=by decide):wpAny (model X.prog X.w) X.A (eval (.Name x pos) X.env) Q E s:=by
 obtain ⟨mb,h1,h2⟩:=I.mod.blt;exact Calls.Name_function_global I.ok.kind hg (Calls.loadGlobal_builtin (by rw[I.ok.glob];exact I.mod.glob.keeps I.bk) hm (by rw[I.ok.blt];exact h1.keeps I.bk) ((h2 x hn).trans hv) h) hd
theorem qfs {x:Str} {v:V} {u:Value} {pos:Pos} (hg:Gl X x) (hm:X.mg x=some u) (r:RelV v u) (hd:(x == ("__debug__" : Str))=false:=by decide):PE X (.Name x pos) (tC v):=
 λ_ _ _ H _ I h=>qfr I hg hm ⟨v,H,I,r,h⟩ hd
theorem qe2 {x:Str} {v:V} {u:Value} {pos:Pos} (hg:Gl X x) (hm:X.mg x=none) (hv:bootBuiltins x=some u) (r:RelV v u) (hn:x ≠ "__name__" :=by decide) (hd:(x == ("__debug__" : Str))=false:=by decide):PE X (.Name x pos) (tC v):=
 λ_ _ _ H _ I h=>qgu I hg hm hv ⟨v,H,I,r,h⟩ hn hd
variable {a b:Expr} {ta tb:TE} {pos:Pos}
def PC (X:Cx) (op:CmpOp) (a b:Expr) (t:TE):Prop:=
 ∀ (pins:List (Addr×Obj)) (s:Shared) (σ:St) (H:Hp) (Q:VK),Inv X pins σ H s->t σ H Q ->
  wpAny (model X.prog X.w) X.A (eval a X.env) (λv s₁=>wpAny (model X.prog X.w) X.A (eval b X.env) (λu s₂=>wpAny (model X.prog X.w) X.A (compareOp op v u) (EP X pins σ Q) X.xe s₂) X.xe s₁) X.xe s
theorem qnu (b:Expr) {op:CmpOp} (h:op≠.In) (h2:op≠.NotIn):behindInMarks op b=false:=by
 have e1:(op == CmpOp.In)=false:=by cases op<;>first|rfl|exact absurd rfl h
 have e2:(op == CmpOp.NotIn)=false:=by cases op<;>first|rfl|exact absurd rfl h2
 cases b<;>simp[behindInMarks,e1,e2]
inductive tBS (x:V) (H:Hp) (Q:Bool->Hp->Prop):Prop
 | mk (c:Bool) (h:x=.bl c) (k:Q c H)
def tB (t:TE):TT:=λσ H Q=>t σ H λx H1=>tBS x H1 Q
theorem ql1 {op:CmpOp} {t:TE} (h:PC X op a b t) (h1:behindInMarks op b=false:=by first|exact qnu _ (by decide) (by decide)|rfl):PT X (.Compare a [op] [b] pos) (tB t):=by
 intro pins s σ H Q I hw;refine wpAny_isTrue_Compare1 (thn (h pins s σ H _ I hw) λv s1 h1=>thn h1 λu s2 h2=>thn h2 λc s3 hq__=>?_) h1;obtain ⟨x,H1,I1,r1,q1⟩:=hq__;obtain ⟨d,rfl,q⟩:=q1;cases r1;exact wpAny_truthy_bool ⟨H1,I1,q⟩
theorem qcl {e:Expr} {t:TE} (h:PE X e t) (he:∀ whole,isTrue e X.env whole=(do let v <- whole;standAt e.pos;holding [v] (truthy v)):=by intro _;rfl):PT X e (tB t):=by
 intro pins s σ H Q I hw;refine isTrue_plain (thn (h pins s σ H _ I hw) λv s1 hq__=>?_) (he _);obtain ⟨x,H1,I1,r1,q1⟩:=hq__;obtain ⟨d,rfl,q⟩:=q1;cases r1;exact wpAny_truthy_bool ⟨H1,I1,q⟩
variable {tA tB':TT} {rest:List Expr}
def qvm (t u:TT):TT:=λσ H Q=>t σ H λc H1=>if c=true then u σ H1 Q else Q false H1
def tOr (t u:TT):TT:=λσ H Q=>t σ H λc H1=>if c=true then Q true H1 else u σ H1 Q
def qvn (t:TT):TT:=λσ H Q=>t σ H λc H1=>Q (!c) H1
theorem qpw (ha:PT X a tA):PW X (.BoolOp .And [a] pos) tA:=by
 intro wh pins s σ H Q I h;refine isTrue_and (thn (ha pins s σ H Q I h) λc s1 e=>?_)
 cases c with
 | true=>exact isTrue_and_nil e
 | false=>exact e
theorem qgv (ha:PT X a tA):PW X (.BoolOp .Or [a] pos) tA:=by
 intro wh pins s σ H Q I h;refine isTrue_or (thn (ha pins s σ H Q I h) λc s1 e=>?_)
 cases c with
 | false=>exact isTrue_or_nil e
 | true=>exact e
theorem qrp (ha:PT X a tA) (hb:PW X (.BoolOp .And (b :: rest) pos) tB'):PW X (.BoolOp .And (a :: b :: rest) pos) (qvm tA tB'):=by
 intro wh pins s σ H Q I h;refine isTrue_and (thn (ha pins s σ H _ I h) λc s1 hq__=>?_);obtain ⟨H1,I1,q1⟩:=hq__
 cases c with
 | true=>exact hb wh pins s1 σ H1 Q I1 q1
 | false=>exact ⟨H1,I1,q1⟩
theorem qkv (ha:PT X a tA) (hb:PW X (.BoolOp .Or (b :: rest) pos) tB'):PW X (.BoolOp .Or (a :: b :: rest) pos) (tOr tA tB'):=by
 intro wh pins s σ H Q I h;refine isTrue_or (thn (ha pins s σ H _ I h) λc s1 hq__=>?_);obtain ⟨H1,I1,q1⟩:=hq__
 cases c with
 | true=>exact ⟨H1,I1,q1⟩
 | false=>exact hb wh pins s1 σ H1 Q I1 q1
theorem qdm (ha:PT X a tA):PT X (.UnaryOp .Not a pos) (qvn tA):=by
 intro pins s σ H Q I h;exact isTrue_not (ha pins s σ H (λc H1=>Q (!c) H1) I h)
inductive tAndVS (tb:TE) (σ:St) (x:V) (H:Hp) (Q:VK):Prop
 | mk (c:Bool) (h:x=.bl c) (k:if c=true then tb σ H Q else Q (.bl false) H)
def qtt (ta tb:TE):TE:=λσ H Q=>ta σ H λx H1=>tAndVS tb σ x H1 Q
inductive tOrVS (tb:TE) (σ:St) (x:V) (H:Hp) (Q:VK):Prop
 | mk (c:Bool) (h:x=.bl c) (k:if c=true then Q (.bl true) H else tb σ H Q)
def qvo (ta tb:TE):TE:=λσ H Q=>ta σ H λx H1=>tOrVS tb σ x H1 Q
inductive tNotVS (x:V) (H:Hp) (Q:VK):Prop
 | mk (c:Bool) (h:x=.bl c) (k:Q (.bl (!c)) H)
def qtu (ta:TE):TE:=λσ H Q=>ta σ H λx H1=>tNotVS x H1 Q
theorem qft {op} {t:TE} (h:PE X a t):PE X (.BoolOp op [a] pos) t:=λpins s σ H Q I hw=>BoolOp_one (h pins s σ H Q I hw)
theorem qer (ha:PE X a ta) (hb:PE X (.BoolOp .And (b :: rest) pos) tb):PE X (.BoolOp .And (a :: b :: rest) pos) (qtt ta tb):=by
 intro pins s σ H Q I h;refine BoolOp_and (thn (ha pins s σ H _ I h) λv s1 hq__=>?_);obtain ⟨x,H1,I1,r1,q1⟩:=hq__;obtain ⟨c,rfl,q1⟩:=q1;cases r1;refine wpAny_truthy_bool ?_
 cases c with
 | true=>exact hb pins s1 σ H1 Q I1 q1
 | false=>exact ⟨.bl false,H1,I1,rfl,q1⟩
theorem qtv (ha:PE X a ta) (hb:PE X (.BoolOp .Or (b :: rest) pos) tb):PE X (.BoolOp .Or (a :: b :: rest) pos) (qvo ta tb):=by
 intro pins s σ H Q I h;refine BoolOp_or (thn (ha pins s σ H _ I h) λv s1 hq__=>?_);obtain ⟨x,H1,I1,r1,q1⟩:=hq__;obtain ⟨c,rfl,q1⟩:=q1;cases r1;refine wpAny_truthy_bool ?_
 cases c with
 | false=>exact hb pins s1 σ H1 Q I1 q1
 | true=>exact ⟨.bl true,H1,I1,rfl,q1⟩
theorem qpa (ha:PE X a ta):PE X (.UnaryOp .Not a pos) (qtu ta):=by
 intro pins s σ H Q I h;refine UnaryOp_ (thn (ha pins s σ H _ I h) λv s1 hq__=>?_);obtain ⟨x,H1,I1,r1,q1⟩:=hq__;obtain ⟨c,rfl,q1⟩:=q1;cases r1;exact not_of (wpAny_truthy_bool ⟨.bl (!c),H1,I1,rfl,q1⟩)
def tIf (t:TT) (ta tb:TE):TE:=λσ H Q=>t σ H λc H1=>if c=true then ta σ H1 Q else tb σ H1 Q
theorem qjy {c:Expr} (hc:PT X c tA) (ha:PE X a ta) (hb:PE X b tb):PE X (.IfExp c a b pos) (tIf tA ta tb):=by
 intro pins s σ H Q I h;refine wpAny_IfExp (thn (hc pins s σ H _ I h) λd s1 hq__=>?_);obtain ⟨H1,I1,q1⟩:=hq__
 cases d with
 | true=>exact ha pins s1 σ H1 Q I1 q1
 | false=>exact hb pins s1 σ H1 Q I1 q1
end
open PySem PySem.Spec PyProof.Rows
def SqL (K:Frag) (H:Hp) (a:Addr) (xs:List V):Prop:=
 Rd H a (.lst xs) \/
  ∃ (o:Obj) (its:Array Value) (n:Nat),K.lookup a=some o/\o.cls=.type "list" /\ o.dict=none/\o.data=.seq its n/\its.size<=sizeLine/\Vals xs its.toList
def SqT (K:Frag) (H:Hp) (a:Addr) (xs:List V):Prop:=
 Rd H a (.tup xs) \/
  ∃ (o:Obj) (its:Array Value) (n:Nat),K.lookup a=some o/\o.cls=.type "tuple" /\ o.data=.seq its n/\its.size<=sizeLine/\Vals xs its.toList
def qvp:Value->Option V
 | .none=>some .non
 | .bool b=>some (.bl b)
 | .int i _=>some (.int i)
 | .str x _=>some (.str x)
 | .bytes b _=>some (.byt b)
 | .float b _=>some (.flt b)
 | .ref a=>some (.ref a)
 | .type n=>some (.ty n)
 | _=>none
theorem RelV.abs {x:V} {u:Value} (r:RelV x u):qvp u=some x:=by
 cases x with
 | non=>cases r;rfl
 | bl _=>cases r;rfl
 | int _=>obtain ⟨t,rfl⟩:=r;rfl
 | str _=>obtain ⟨t,rfl⟩:=r;rfl
 | byt _=>obtain ⟨t,rfl⟩:=r;rfl
 | flt _=>obtain ⟨t,rfl⟩:=r;rfl
 | ref _=>cases r;rfl
 | ty _=>cases r;rfl
theorem RelV.inj {x y:V} {u:Value} (r:RelV x u) (q:RelV y u):x=y:=Option.some.inj (r.abs.symm.trans q.abs)
theorem Vals.inj:∀ {xs ys:List V} {us:List Value},Vals xs us->Vals ys us->xs=ys
 | _,_,_,.nil,.nil=>rfl
 | _,_,_,.cons r t,.cons r' t'=>by rw[r.inj r',Vals.inj t t']
section
variable {X:Cx} {pins:List (Addr×Obj)} {σ:St} {H:Hp} {s:Shared} {a:Addr} {xs ys:List V}
theorem SqL.of {K:Frag} (h:H a=some (.lst xs)):SqL K H a xs:=.inl (.inl h)
theorem SqT.of {K:Frag} (h:H a=some (.tup xs)):SqT K H a xs:=.inl (.inl h)
theorem Inv.list (I:Inv X pins σ H s) (h:SqL X.K H a xs):∃ its:List Value,Vals xs its/\PlainL s.heap a its.toArray/\xs.length<=sizeLine:=by
 rcases h with h|⟨o,its,n,hk,hc,hd,hs,hz,r⟩
 ·obtain ⟨z,its,n,r,e⟩:=h.ok I.hok
  exact ⟨its,r,⟨_,n,e,rfl,rfl,rfl⟩,z⟩
 ·refine ⟨its.toList,r,⟨o,n,I.kIn a o hk,hc,hd,by simpa using hs⟩,?_⟩
  have e:=r.length;simp only[Array.length_toList] at e;omega
theorem Inv.tuple (I:Inv X pins σ H s) (h:SqT X.K H a xs):∃ its:List Value,Vals xs its/\IsTup s.heap a its.toArray/\xs.length<=sizeLine:=by
 rcases h with h|⟨o,its,n,hk,hc,hs,hz,r⟩
 ·obtain ⟨z,its,r,p⟩:=h.ok I.hok
  exact ⟨its,r,p,z⟩
 ·refine ⟨its.toList,r,⟨o,I.kIn a o hk,hc,n,by simpa using hs⟩,?_⟩
  have e:=r.length;simp only[Array.length_toList] at e;omega
theorem Inv.list_inj (I:Inv X pins σ H s) (h:SqL X.K H a xs) (h':SqL X.K H a ys):xs=ys:=by
 obtain ⟨its,r,⟨o,n,e,_,_,d⟩,_⟩:=I.list h;obtain ⟨its',r',⟨o',n',e',_,_,d'⟩,_⟩:=I.list h';rw[e] at e';cases e';rw[d] at d';injection d' with d1 _
 have:its=its':=by simpa using congrArg Array.toList d1
 subst this;exact r.inj r'
end
abbrev Cx.wish (X:Cx) (E:Value->Shared->Prop):Cx:={ X with xe:=E }
abbrev Cx.nox (X:Cx):Cx:=X.wish λ_ _=>False
theorem Cx.Ok.wish {X:Cx} (ok:X.Ok) (E:Value->Shared->Prop):(X.wish E).Ok:=
 ⟨ok.mod,ok.kind,ok.glob,ok.blt,ok.above,ok.inj,ok.has,ok.cab,ok.hd,ok.frames,ok.stk,ok.exf,ok.bs,ok.bsz,ok.noex,ok.exfs,ok.funs,ok.frf⟩
theorem Cx.Ok.unwish {X:Cx} {E:Value->Shared->Prop} (ok:(X.wish E).Ok):X.Ok:=
 ⟨ok.mod,ok.kind,ok.glob,ok.blt,ok.above,ok.inj,ok.has,ok.cab,ok.hd,ok.frames,ok.stk,ok.exf,ok.bs,ok.bsz,ok.noex,ok.exfs,ok.funs,ok.frf⟩
section
variable {X:Cx} {pins:List (Addr×Obj)} {σ:St} {H:Hp} {s:Shared} {E:Value->Shared->Prop}
theorem Inv.wish (I:Inv X pins σ H s) (E:Value->Shared->Prop):Inv (X.wish E) pins σ H s:=⟨I.ok.wish E,I.os,I.bare,I.base,I.loc,I.cell,I.free,I.freeC,I.pin,I.hok,I.len⟩
theorem Inv.unwish (I:Inv (X.wish E) pins σ H s):Inv X pins σ H s:=⟨I.ok.unwish,I.os,I.bare,I.base,I.loc,I.cell,I.free,I.freeC,I.pin,I.hok,I.len⟩
theorem SP.unwish {D:Ends} {f:Flow} {s':Shared} (h:SP (X.wish E) pins D f s'):SP X pins D f s':=by
 cases f with
 | next=>obtain ⟨σ',H',I,q⟩:=h;exact ⟨σ',H',I.unwish,q⟩
 | brk=>obtain ⟨σ',H',I,q⟩:=h;exact ⟨σ',H',I.unwish,q⟩
 | cont=>obtain ⟨σ',H',I,q⟩:=h;exact ⟨σ',H',I.unwish,q⟩
 | ret u=>obtain ⟨v,σ',H',I,r,q⟩:=h;exact ⟨v,σ',H',I.unwish,r,q⟩
theorem PSs.nox {st:List Stmt} {t:TS} (h:PSs X.nox st t):PSs X st t:=λpins s σ H D I hw =>
 wpAny_mono (h pins s σ H D (I.wish _) hw) (λ_ _ q=>q.unwish) λ_ _ z=>False.elim z
end
section
variable {X:Cx} {st:Stmt} {rest:List Stmt} {t u:TS} {e:Expr} {te:TE} {pos:Pos}
def qtw:TS:=λD σ H=>D.nx σ H
def qu6 (t u:TS):TS:=λD σ H=>t { D with nx:=u D } σ H
theorem qau:PSs X [] qtw:=λ_ _ σ H _ I h=>wpAny_execs_nil ⟨σ,H,I,h⟩
theorem qad (h1:PS X st t) (h2:PSs X rest u):PSs X (st :: rest) (qu6 t u):=by
 intro pins s σ H D I h;refine wpAny_execs_cons (thn (h1 pins s σ H { D with nx:=u D } I h) λf s1 q=>?_)
 cases f with
 | next =>
  obtain ⟨σ',H',I',q⟩:=q;exact h2 pins s1 σ' H' D I' q
 | ret v=>exact q
 | brk=>exact q
 | cont=>exact q
theorem qaf (h1:PS X st t):PSs X [st] t:=by
 intro pins s σ H D I h;refine wpAny_execs_cons (thn (h1 pins s σ H D I h) λf s1 q=>?_)
 cases f with
 | next=>exact wpAny_execs_nil q
 | ret v=>exact q
 | brk=>exact q
 | cont=>exact q
theorem Inv.quiet {pins:List (Addr×Obj)} {σ:St} {H:Hp} {s:Shared} (I:Inv X pins σ H s):interactive X.env=false:=by simp[interactive,I.ok.kind]
def qtx (te:TE):TS:=λD σ H=>te σ H λ_ H1=>D.nx σ H1
theorem qcm (he:PE X e te) (hs:swapsWith e none pos.line X.env=pure false:=by rfl):PS X (.Expr e pos) (qtx te):=by
 intro pins s σ H D I h;exact wpAny_Expr_any (thn (he pins s σ H _ I h) λv s1 ⟨x,H1,I1,r1,q1⟩=>⟨σ,H1,I1,q1⟩) I.quiet hs
def qvq (te:TE):TS:=λD σ H=>te σ H D.rt
theorem qaw (he:PE X e te):PS X (.Return (some e) pos) (qvq te):=by
 intro pins s σ H D I h;exact wpAny_Return_some (thn (he pins s σ H _ I h) λv s1 ⟨x,H1,I1,r1,q1⟩=>⟨x,σ,H1,I1,r1,q1⟩)
def qty:TS:=λD _ H=>D.rt .non H
theorem qpx:PS X (.Return none pos) qty:=λ_ _ σ H _ I h=>wpAny_Return_none ⟨.non,σ,H,I,rfl,h⟩
def qvr (c:TT) (t u:TS):TS:=λD σ H=>c σ H λb H1=>if b=true then t D σ H1 else u D σ H1
theorem qbs {c:Expr} {a b:List Stmt} {tc:TT} (hc:PT X c tc) (ha:PSs X a t) (hb:PSs X b u):PS X (.If c a b pos) (qvr tc t u):=by
 intro pins s σ H D I h;refine wpAny_If (thn (hc pins s σ H _ I h) λd s1 hq__=>?_);obtain ⟨H1,I1,q1⟩:=hq__
 cases d with
 | true=>exact ha pins s1 σ H1 D I1 q1
 | false=>exact hb pins s1 σ H1 D I1 q1
def qrq:TS:=λ_ _ _=>False
theorem qcx:PS X st qrq:=λ_ _ _ _ _ _ h=>h.elim
end
abbrev TG:=V->St->Hp->(St->Hp->Prop)->Prop
abbrev TGs:=List V->St->Hp->(St->Hp->Prop)->Prop
def PG (X:Cx) (target:Expr) (t:TG):Prop:=
 ∀ (pins:List (Addr×Obj)) (s:Shared) (σ:St) (H:Hp) (v:V) (u:Value) (Q:St->Hp->Prop),Inv X pins σ H s->RelV v u->t v σ H Q ->
  wpAny (model X.prog X.w) X.A (assign target X.env u) (λ_ s'=>∃ σ' H',Inv X pins σ' H' s'/\Q σ' H') X.xe s
def PGs (X:Cx) (ts:List Expr) (t:TGs):Prop:=
 ∀ (pins:List (Addr×Obj)) (s:Shared) (σ:St) (H:Hp) (vs:List V) (us:List Value) (Q:St->Hp->Prop),Inv X pins σ H s->Vals vs us->t vs σ H Q ->
  wpAny (model X.prog X.w) X.A (assignInOrder ((assignEach ts X.env).map (·.2)) us) (λ_ s'=>∃ σ' H',Inv X pins σ' H' s'/\Q σ' H') X.xe s
section
variable {X:Cx} {pos:Pos}
def qhw (i:Nat):TG:=λv σ H Q=>Q (σ.set i (some v)) H
theorem qaq {i:Nat} {x:Str} (hN:X.N.Nodup) (hi:X.N[i]?=some x) (hx:Loc X.env.scope x) (hf:X.fn x=true\/X.env.scope.names.lookup x=some .local:=by first|exact .inl rfl|exact .inr rfl|assumption):PG X (.Name x pos) (qhw i):=by
 intro pins s σ H v u Q I r h;exact wpAny_assign_Name (qg6 I hN hi hx r (λs' I'=>⟨_,H,I',h⟩) hf)
def qu7:TGs:=λvs σ H Q=>vs=[]/\Q σ H
def qpy (t:TG) (u:TGs):TGs:=λvs σ H Q=>∃ v r,vs=v :: r/\t v σ H λσ' H'=>u r σ' H' Q
theorem qej:PGs X [] qu7:=by
 intro pins s σ H vs us Q I r h;obtain ⟨e,h⟩:=h;subst e;cases r;exact assignInOrder_nil ⟨σ,H,I,h⟩
theorem qbf {e:Expr} {es:List Expr} {t:TG} {u:TGs} (h1:PG X e t) (h2:PGs X es u)
  (hs:(assignEach (e :: es) X.env).map (·.2)=assign e X.env :: (assignEach es X.env).map (·.2):=by rfl):PGs X (e :: es) (qpy t u):=by
 intro pins s σ H vs us Q I r h;obtain ⟨v,vr,e1,h⟩:=h;subst e1
 cases r with
 | cons r rr =>
  rw[hs];refine assignInOrder_cons (thn (h1 pins s σ H _ _ _ I r h) λ_ s1 hq__=>?_);obtain ⟨σ1,H1,I1,q1⟩:=hq__;exact h2 pins s1 σ1 H1 _ _ Q I1 rr q1
def qu8 (K:Frag) (n:Nat) (t:TGs):TG:=λv σ H Q=>∃ a xs,v=.ref a/\SqT K H a xs/\xs.length=n/\t xs σ H Q
theorem qfu {es:List Expr} {k:Nat} {t:TGs} {n:Nat} (hc:X.calm=true) (h:PGs X es t)
  (hn:(assignEach es X.env).length=n:=by rfl) (hst:(assignEach es X.env).findIdx? (·.1)=none:=by rfl):PG X (.Tuple es k pos) (qu8 X.K n t):=by
 intro pins s σ H v u Q I r hw;obtain ⟨a,xs,e1,hq,hl,hw⟩:=hw;subst e1;cases r;obtain ⟨its,rv,ht,hz⟩:=I.tuple hq;refine assign_Tuple_tuple (I.ok.hd hc) ht (by simp[hn,<- hl,rv.length]) hst λh' hx=>?_
 have I1:Inv X pins σ H { s with heap:=h' }:=I.kept (t':=s.toks) λb o e=>hx b o (Nat.ne_of_lt (Heap.lt_size e)) e
 exact h pins _ σ H xs _ Q I1 (by simpa using rv) hw
def qtz (te:TE) (g:TG):TS:=λD σ H=>te σ H λx H1=>g x σ H1 D.nx
theorem qrr {tg e:Expr} {te:TE} {g:TG} (he:PE X e te) (hg:PG X tg g) (hs:swapsWithSole [tg] e pos.line X.env=pure false:=by rfl) (hw:swappedStores [tg] e X.env=pure none:=by rfl)
  (h1:(assignEach [tg] X.env).map (·.2)=[assign tg X.env]:=by rfl):PS X (.Assign [tg] e pos) (qtz te g):=by
 intro pins s σ H D I h;refine wpAny_Assign_stores (thn (he pins s σ H _ I h) λv s1 hq__=>?_) hs hw;obtain ⟨x,H1,I1,r1,q1⟩:=hq__;rw[h1];exact thn (hg pins s1 σ H1 x v _ I1 r1 q1) λ_ s2 q=>q
theorem qaz {i:Nat} {x:Str} {e:Expr} {te:TE} {pos':Pos} (hN:X.N.Nodup) (hi:X.N[i]?=some x) (hx:Loc X.env.scope x) (he:PE X e te) (hs:swapsWith e (some (.Name x pos')) pos.line X.env=pure false:=by rfl) (hf:X.fn x=true\/X.env.scope.names.lookup x=some .local:=by first|exact .inl rfl|exact .inr rfl|assumption) :
  PS X (.Assign [.Name x pos'] e pos) (qtz te (qhw i)):=by
 intro pins s σ H D I h;refine wpAny_Assign_Name (thn (he pins s σ H _ I h) λv s1 hq__=>?_) hs;obtain ⟨y,H1,I1,r1,q1⟩:=hq__;exact qg6 I1 hN hi hx r1 (λs2 I2=>⟨_,H1,I2,q1⟩) hf
end
section
variable {X:Cx} {pos:Pos}
end
structure It where
 go:Nat->Hp->Prop
 yld:Nat->Hp->V->Hp->Prop
 stop:Nat->Hp->Prop
def qjz (X:Cx) (pins:List (Addr×Obj)) (H:Hp) (b:Addr):Prop:=
 H b=none/\b≠X.env.locals/\b ∉ X.fs/\(b∈X.ex\/X.s₀.heap.objs.size<=b)/\(∀ x c,X.env.cells.lookup x=some c->c≠b)/\∀ p∈X.pn ++ pins,p.1≠b
theorem Inv.fpOk {X:Cx} {pins:List (Addr×Obj)} {σ:St} {H H':Hp} {s:Shared} {b:Addr} (I:Inv X pins σ H s) (hb:s.heap.objs.size<=b) (hn:H' b=none):qjz X pins H' b:=by
 refine ⟨hn,Nat.ne_of_gt (Nat.lt_of_lt_of_le I.lt hb),I.nofs hb,.inr (Nat.le_trans I.sz hb),λx c e z=>?_,λp hp z=>?_⟩
 ·obtain ⟨v,q⟩:=I.cell x c e
  exact absurd (Nat.lt_of_lt_of_le q.lt (by rw[z];exact hb)) (Nat.lt_irrefl _)
 ·exact absurd (Nat.lt_of_lt_of_le (Heap.lt_size (I.pin p hp).1) (by rw[z];exact hb)) (Nat.lt_irrefl _)
structure Turn (P:Program) (w:World) (K:Frag) (tg:Expr) (J:It) (fp:List Addr) (it:Addr) (tn:Nat->Heap->Prop):Prop where
 mem:it∈fp
 obj:∀ i h,tn i h->∀ b∈fp,∃ o,h.get? b=some o/\∀ v,o.data≠.cell v
 keep:∀ i h h',tn i h->(∀ b∈fp,∀ o,h.get? b=some o->h'.get? b=some o)->tn i h'
 item:∀ (X:Cx),X.prog=P->X.w=w->X.K=K->X.calm=true->∀ (i:Nat) (pins:List (Addr×Obj)) (s:Shared) (σ:St) (H:Hp) (E:Value->Shared->Prop),Inv X pins σ H s->(∀ b∈fp,qjz X pins H b)->tn i s.heap->J.go i H ->
  wpAny (model P w) X.A (pyNext (.ref it)) (λr s1=>∃ u,r=some u /\
   wpAny (model P w) X.A (letOwnedTupleGo tg (.ref it) u) (λ_ s2=>∃ x H',Inv X pins σ H' s2/\RelV x u/\J.yld i H x H'/\tn (i+1) s2.heap/\∀ b∈fp,H' b=none) E s1) E s
 done:∀ (X:Cx),X.prog=P->X.w=w->X.K=K->X.calm=true->∀ (i:Nat) (pins:List (Addr×Obj)) (s:Shared) (σ:St) (H:Hp) (E:Value->Shared->Prop),Inv X pins σ H s->(∀ b∈fp,qjz X pins H b)->tn i s.heap->J.stop i H ->
  wpAny (model P w) X.A (pyNext (.ref it)) (λr s1=>r=none/\Inv X pins σ H s1) E s
 self:∀ (A:Around) (i:Nat) (s:Shared) (Q:Value->Shared->Prop) (E:Value->Shared->Prop),tn i s.heap->Q (.ref it) s->wpAny (model P w) A (pyIter (.ref it)) Q E s
abbrev TI:=St->Hp->(It->Hp->Prop)->Prop
def PIE (X:Cx) (pins:List (Addr×Obj)) (σ:St) (tg:Expr) (R:It->Hp->Prop) (itv:Value) (s2:Shared):Prop:=
 ∃ (it:Addr) (fp:List Addr) (tn:Nat->Heap->Prop) (J:It) (H':Hp),itv=.ref it/\Inv X pins σ H' s2/\Turn X.prog X.w X.K tg J fp it tn/\tn 0 s2.heap/\(∀ b∈fp,qjz X pins H' b)/\R J H'
def PI (X:Cx) (tg iter:Expr) (wi:TI):Prop:=
 ∀ (pins:List (Addr×Obj)) (s:Shared) (σ:St) (H:Hp) (R:It->Hp->Prop),Inv X pins σ H s->wi σ H R ->
  wpAny (model X.prog X.w) X.A (eval iter X.env) (λv s1=>wpAny (model X.prog X.w) X.A (pyIter v) (PIE X pins σ tg R) X.xe s1) X.xe s
theorem qnv {M:Model} {A:Around} {E:Value->Shared->Prop} {s:Shared} {tg:Expr} {it:Addr} {u:Value} {o:Obj} {n:String} {vs:Array Value} {Q:Unit->Shared->Prop} (ho:s.heap.get? it=some o) (hc:o.cls=.type n) (hd:o.data=.fields vs)
  (hn:["enumerate", "zip", "dict_itemiterator", "dict_reverseitemiterator", "odict_iterator", "itertools.zip_longest", "itertools.pairwise"].contains n=false) (hQ:Q () s):wpAny M A (letOwnedTupleGo tg (.ref it) u) Q E s:=by
 unfold letOwnedTupleGo
 cases tg<;>first
  | exact wpAny_pure hQ
  | (cases u<;>first
    | exact wpAny_pure hQ
    | (refine wpAny_bind (wpAny_load ho ?_)
       rw[hc,hd]
       show wpAny M A (if (["enumerate", "zip", "dict_itemiterator", "dict_reverseitemiterator", "odict_iterator", "itertools.zip_longest", "itertools.pairwise"].contains n && vs[0]? == some (rawInt _))=true then _ else _) Q E s
       rw[if_neg (by intro h;rw[hn,Bool.false_and] at h;cases h)];exact wpAny_pure hQ))
def Itl (K:Frag) (a:Addr):It:=
 ⟨λi H=>∃ xs x,SqL K H a xs/\xs[i]?=some x,λi H x H'=>H'=H/\∀ xs,SqL K H a xs->xs[i]?=some x,λi H=>∃ xs,SqL K H a xs/\xs.length<=i⟩
def Itr (lo:Int) (n:Nat):It:=⟨λi _=>i<n,λi H x H'=>H'=H/\x=.int (lo+i),λi _=>n<=i⟩
theorem ql2 {P:Program} {w:World} {K:Frag} {tg:Expr} (a it:Addr):Turn P w K tg (Itl K a) [it] it (λi h=>h.IsListIter it a i) where
 mem:=by simp
 obj:=λi h st b hb=>by
  have e:b=it:=by simpa using hb
  subst e;obtain ⟨o,e,c,d⟩:=st;exact ⟨o,e,λv z=>by rw[d] at z;cases z⟩
 keep:=λi h h' st k=>st.at λo e=>k it (by simp) o e
 item:=by
  intro X hP hw hK hc i pins s σ H E I hf st hg;subst hP hw hK;obtain ⟨xs,x,hq,hx⟩:=hg;obtain ⟨its,rv,p,hz⟩:=I.list hq;obtain ⟨u,hu,ru⟩:=rv.get hx;obtain ⟨f0,f1,f2,f3,f4,f5⟩:=hf it (by simp);refine wpAny_pyNext_list_item st p.isList (x:=u) (by simpa using hu) λh' st' sb=>?_
  have I1:Inv X pins σ H { s with heap:=h' }:=I.turned (t':=s.toks) (λb o hb e=>(sb.2 b hb).trans e) f0 f1 f3 f4 f5;obtain ⟨o,e,c,d⟩:=id st';exact ⟨u,rfl,qnv (s:={ s with heap:=h' }) e c d (by decide) ⟨x,H,I1,ru,⟨rfl,λys hy=>by rw[I.list_inj hy hq];exact hx⟩,st',λb hb=>(hf b hb).1⟩⟩
 done:=by
  intro X hP hw hK hc i pins s σ H E I hf st hg;subst hP hw hK;obtain ⟨xs,hq,hx⟩:=hg;obtain ⟨its,rv,p,hz⟩:=I.list hq;obtain ⟨f0,f1,f2,f3,f4,f5⟩:=hf it (by simp);have hl:=rv.length;exact wpAny_pyNext_list_end (I.ok.hd hc) st p.isList (by simp;omega) λh' eb=>⟨rfl,I.turned (t':=s.toks) (λb o hb e=>eb b o hb e) f0 f1 f3 f4 f5⟩
 self:=λ_ _ _ _ _ st h=>wpAny_pyIter_listiter st h
theorem qkw {P:Program} {w:World} {K:Frag} {tg:Expr} (it:Addr) (lo:Int) (n:Nat):Turn P w K tg (Itr lo n) [it] it (λi h=>IsRangeIter h it (lo+(i:Nat)*1) ((n:Int)-(i:Nat)) 1) where
 mem:=by simp
 obj:=λi h st b hb=>by
  have e:b=it:=by simpa using hb
  subst e;exact ⟨_,st,λv z=>by
   have z':Data.fields _=Data.cell v:=z
   cases z'⟩
 keep:=λi h h' st k=>k it (by simp) _ st
 item:=by
  intro X hP hw hK hc i pins s σ H E I hf st hg;subst hP hw hK;obtain ⟨f0,f1,f2,f3,f4,f5⟩:=hf it (by simp);have W:=Walks.range (prog:=X.prog) (w:=X.w) (I.ok.hd hc) it lo 1 n;refine W.item i s _ _ hg st λv h' tk hv st' kk=>?_
  obtain ⟨t,rfl⟩:=hv;have I1:Inv X pins σ H { s with heap:=h',toks:=tk }:=I.turned (λb o hb e=>kk b o (by simpa using hb) e) f0 f1 f3 f4 f5;refine ⟨_,rfl,qnv (s:={ s with heap:=h',toks:=tk }) (n:= "range_iterator") st' rfl rfl (by decide) ⟨.int (lo+i),H,I1,⟨t,?_⟩,⟨rfl,rfl⟩,st',λb hb=>(hf b hb).1⟩⟩;rw[Int.mul_one]
 done:=by
  intro X hP hw hK hc i pins s σ H E I hf st hg;subst hP hw hK;obtain ⟨f0,f1,f2,f3,f4,f5⟩:=hf it (by simp);exact wpAny_pyNext_range_end (I.ok.hd hc) st (by have:n<=i:=hg;omega) λh' eb=>⟨rfl,I.turned (t':=s.toks) (λb o hb e=>eb b o hb e) f0 f1 f3 f4 f5⟩
 self:=λ_ _ _ _ _ st h=>wpAny_pyIter_rangeiter st h
open PySem PySem.Spec PyProof.Rows
section
variable {X:Cx} {tg:Expr}
def qt0 (K:Frag) (tl:TE):TI:=λσ H R=>tl σ H λx H1=>∃ a,x=.ref a/\(∃ xs,SqL K H1 a xs)/\R (Itl K a) H1
theorem qcd {l:Expr} {tl:TE} (hl:PE X l tl):PI X tg l (qt0 X.K tl):=by
 intro pins s σ H R I h;refine thn (hl pins s σ H _ I h) λv s1 hq__=>?_
 obtain ⟨x,H1,I1,r1,q1⟩:=hq__;obtain ⟨a,e,⟨xs,hq⟩,q⟩:=q1;subst e;cases r1;obtain ⟨its,rv,p,hz⟩:=I1.list hq;refine wpAny_pyIter_list p.isList ?_;refine ⟨s1.heap.objs.size,[s1.heap.objs.size],_,_,H1,rfl,I1.kept (t':=s1.toks) λb o e=>Heap.get?_push_of_some _ e,ql2 a _,⟨_,Heap.get?_push_size _ rfl,rfl,rfl⟩,λb hb=>?_,q⟩;have e:b=s1.heap.objs.size:=by simpa using hb
 subst e;exact I1.fpOk (Nat.le_refl _) (I1.hok.fresh (Nat.le_refl _))
theorem qnw {pins:List (Addr×Obj)} {σ:St} {H:Hp} {s:Shared} {R:It->Hp->Prop} {E:Value->Shared->Prop} {lo hi:Int} {t u v:Tok} {tk:Nat} (I:Inv X pins σ H s) (h1:-(2 ^ 62)<=lo) (h2:lo<2 ^ 62) (h3:-(2 ^ 62)<=hi) (h4:hi<2 ^ 62)
  (q:R (Itr lo (hi-lo).toNat) H):wpAny (model X.prog X.w) X.A (pyIter (.ref s.heap.objs.size)) (PIE X pins σ tg R) E { s with heap:=s.heap.push { cls:=.type "range",data:=.fields #[.int lo t,.int hi u,.int 1 v] },toks:=tk }:=by
 refine wpAny_pyIter_range (IsRange.new ..) (small_one h1 h2 h3 h4) ?_;have I1:Inv X pins σ H { s with heap:=s.heap.push { cls:=.type "range",data:=.fields #[.int lo t,.int hi u,.int 1 v] },toks:=tk }:=I.kept λb o e=>Heap.get?_push_of_some _ e
 refine ⟨(s.heap.push { cls:=.type "range",data:=.fields #[.int lo t,.int hi u,.int 1 v] }).objs.size,[(s.heap.push { cls:=.type "range",data:=.fields #[.int lo t,.int hi u,.int 1 v] }).objs.size],_,_,H,rfl,
  I1.kept (t':=tk) λb o e=>Heap.get?_push_of_some _ e,qkw _ lo (hi-lo).toNat,?_,λb hb=>?_,q⟩
 ·have e1:lo+((0:Nat):Int)*1=lo:=by simp
  have e2:(((hi-lo).toNat:Nat):Int)-((0:Nat):Int)=Builtin.Range.rangeSize lo hi 1:=by rw[rangeSize_one];split<;>omega
  show IsRangeIter _ _ (lo+((0:Nat):Int)*1) ((((hi-lo).toNat:Nat):Int)-((0:Nat):Int)) 1
  rw[e1,e2];exact Heap.get?_push_size _ rfl
 ·have e:b=(s.heap.push { cls:=.type "range",data:=.fields #[.int lo t,.int hi u,.int 1 v] }).objs.size:=by simpa using hb
  subst e;exact I1.fpOk (Nat.le_refl _) (I1.hok.fresh (Nat.le_refl _))
def qt1 (ta:TA):TI:=λσ H R=>ta σ H λvs H1=>∃ j:Int,vs=[.int j] /\ -(2 ^ 62)<=j/\j<2 ^ 62/\R (Itr 0 j.toNat) H1
theorem qdn {a:Expr} {ta:TA} {p pos:Pos} (hg:Gl X "range") (hm:X.mg "range" = none) (ha:PA X [a] ta) (hs:starEach [a] X.env=[(false,eval a X.env)]:=by rfl):PI X tg (.Call (.Name "range" p) [a] [] pos) (qt1 ta):=by
 intro pins s σ H R I h;refine Call_ (qgu I hg hm boot_range (PyProof.Rows.callWith_type1 (thn (ha pos pins s σ H _ I h) λus s1 hq__=>?_) hs rfl));obtain ⟨vs,H1,I1,r1,q1⟩:=hq__;obtain ⟨j,e,q1,q2,q⟩:=q1;subst e
 cases r1 with
 | cons r rr =>
  cases rr;obtain ⟨t,rfl⟩:=r;exact call_range_1 (qnw I1 (by omega) (by omega) q1 q2 (by simpa using q))
def qt2 (wi:TI) (g:TG) (tb:TS):TS:=λD σ H=>wi σ H λJ H1=>∃ W:Nat->Nat->St->Hp->Prop,(∃ m,W 0 m σ H1)/\∀ i m σ H,W i m σ H ->
 (J.stop i H/\D.nx σ H)\/(J.go i H/\∃ N:St->Hp->Prop,(∀ σ' H',N σ' H'->∃ m',m'<m/\W (i+1) m' σ' H')/\∀ x H',J.yld i H x H'->g x σ H' λσ2 H2=>tb { D with nx:=N,ct:=N,bk:=D.nx } σ2 H2)
def qhx (fp:List Addr) (h:Heap):List (Addr×Obj):=fp.filterMap λb=>(h.get? b).map λo=>(b,o)
theorem qd2 {fp:List Addr} {h:Heap} {b:Addr} {o:Obj} (hb:b∈fp) (e:h.get? b=some o):(b,o)∈qhx fp h:=List.mem_filterMap.mpr ⟨b,hb,by rw[e];rfl⟩
theorem ql3 {fp:List Addr} {h:Heap} {p:Addr×Obj} (hp:p∈qhx fp h):p.1∈fp/\h.get? p.1=some p.2:=by
 obtain ⟨b,hb,e⟩:=List.mem_filterMap.mp hp
 cases q:h.get? b with
 | none=>rw[q] at e;cases e
 | some o =>
  rw[q] at e;have e':(b,o)=p:=Option.some.inj e;subst e';exact ⟨hb,q⟩
theorem Inv.pinned {pins:List (Addr×Obj)} {σ:St} {H:Hp} {s:Shared} {fp:List Addr} (I:Inv X pins σ H s) (hf:∀ b∈fp,qjz X pins H b) (ho:∀ b∈fp,∃ o,s.heap.get? b=some o/\∀ v,o.data≠.cell v):Inv X (pins ++ qhx fp s.heap) σ H s:=
 I.pins_of λp hp=>(List.mem_append.mp hp).elim (λz=>I.pin p (List.mem_append_right _ z)) λz=>by
  obtain ⟨hb,e⟩:=ql3 z;obtain ⟨f0,f1,f2,_⟩:=hf p.1 hb;obtain ⟨o,e',d⟩:=ho p.1 hb;rw[e] at e';cases e';exact ⟨e,f0,f1,f2,d⟩
theorem Inv.unpinned {pins pl:List (Addr×Obj)} {σ:St} {H:Hp} {s:Shared} (I:Inv X (pins ++ pl) σ H s):Inv X pins σ H s:=I.pins_of λp hp=>I.pin p (List.mem_append_right _ (List.mem_append_left _ hp))
theorem qfv {iter:Expr} {body:List Stmt} {wi:TI} {g:TG} {tb:TS} {pos:Pos} (hp:PassesOwn (model X.prog X.w) X.A X.env X.xe) (hc:X.calm=true) (hi:PI X tg iter wi) (hg:PG X tg g) (hb:PSs X body tb)
  (hs:∀ x,foldedSetIterable iter X.env x=pure x:=by intro _;rfl):PS X (.For tg iter body [] pos) (qt2 wi g tb):=by
 intro pins s σ H D I h;refine wpAny_For (thn (hi pins s σ H _ I h) λv s1 h1=>thn h1 λitv s2 h2=>?_) hs;obtain ⟨it,fp,tn,J,H2,e,I2,T,st2,f2,W,⟨m0,w0⟩,turn⟩:=h2;subst e;have stat:∀ {H':Hp},(∀ b∈fp,H' b=none)->∀ b∈fp,qjz X pins H' b:=λhn b hb=>⟨hn b hb,(f2 b hb).2⟩
 refine codeAny_forLoop_any (λn s'=>∃ i σ' H',Inv X pins σ' H' s'/\tn i s'.heap/\(∀ b∈fp,H' b=none)/\W i n σ' H') ?_ m0 ⟨0,σ,H2,I2,st2,λb hb=>(f2 b hb).1,w0⟩;rintro n s3 ⟨i,σ3,H3,I3,st3,fr3,w3⟩
 rcases turn i n σ3 H3 w3 with ⟨stop,qn⟩|⟨go,N,hN,step⟩
 ·refine wpAny_passesOwn hp (thn (T.done X rfl rfl rfl hc i pins s3 σ3 H3 X.xe I3 (stat fr3) st3 stop) λr s4 hq__=>?_)
  obtain ⟨hr,I4⟩:=hq__;subst hr;exact wpAny_execs_nil ⟨σ3,H3,I4,qn⟩
 ·refine wpAny_passesOwn hp (thn (T.item X rfl rfl rfl hc i pins s3 σ3 H3 X.xe I3 (stat fr3) st3 go) λr s4 hq__=>?_)
  obtain ⟨u,hr,h4⟩:=hq__;subst hr;refine wpAny_passesOwn hp (thn h4 λ_ s5 hq__=>?_);obtain ⟨x,H5,I5,r5,y5,st5,fr5⟩:=hq__;have I5':=I5.pinned (stat fr5) (T.obj _ _ st5);refine wpAny_passesOwn hp (thn (hg _ s5 σ3 H5 x u _ I5' r5 (step x H5 y5)) λ_ s6 hq__=>?_);obtain ⟨σ6,H6,I6,q6⟩:=hq__;refine wpAny_passesOwn hp (thn (hb _ s6 σ6 H6 _ I6 q6) λf s7 q7=>?_);have again:∀ {σ7:St} {H7:Hp},Inv X (pins ++ qhx fp s5.heap) σ7 H7 s7->N σ7 H7->∃ m,m<n/\∃ i σ' H',Inv X pins σ' H' s7/\tn i s7.heap/\(∀ b∈fp,H' b=none)/\W i m σ' H':=fun {σ7 H7} I7 n7=>by
   obtain ⟨m',hm,w7⟩:=hN σ7 H7 n7;refine ⟨m',hm,i+1,σ7,H7,I7.unpinned,T.keep _ _ _ st5 λb hb o e=>(I7.pin (b,o) (List.mem_append_right _ (List.mem_append_right _ (qd2 hb e)))).1,λb hb=>?_,w7⟩;obtain ⟨o,e,d⟩:=T.obj _ _ st5 b hb;exact (I7.pin (b,o) (List.mem_append_right _ (List.mem_append_right _ (qd2 hb e)))).2.1
  cases f with
  | next=>obtain ⟨σ7,H7,I7,n7⟩:=q7;exact again I7 n7
  | cont=>obtain ⟨σ7,H7,I7,n7⟩:=q7;exact again I7 n7
  | brk=>obtain ⟨σ7,H7,I7,q7⟩:=q7;exact ⟨σ7,H7,I7.unpinned,q7⟩
  | ret v=>obtain ⟨x7,σ7,H7,I7,r7,q7⟩:=q7;exact ⟨x7,σ7,H7,I7.unpinned,r7,q7⟩
end
theorem qg7 {K:Frag} {a:Addr} {xs:List V} {g:TG} {tb:TS} {D:Ends} {σ:St} {H:Hp} (Pv:Nat->St->Hp->Prop) (h0:Pv 0 σ H) (hl:∀ i σ H,i<=xs.length->Pv i σ H->SqL K H a xs)
  (hs:∀ i x σ H,xs[i]?=some x->Pv i σ H->g x σ H λσ2 H2=>tb { D with nx:=Pv (i+1),ct:=Pv (i+1),bk:=D.nx } σ2 H2) (hd:∀ σ H,Pv xs.length σ H->D.nx σ H) :
  ∃ W:Nat->Nat->St->Hp->Prop,(∃ m,W 0 m σ H)/\∀ i m σ H,W i m σ H ->
   ((Itl K a).stop i H/\D.nx σ H)\/((Itl K a).go i H/\∃ N:St->Hp->Prop,(∀ σ' H',N σ' H'->∃ m',m'<m/\W (i+1) m' σ' H')/\∀ x H',(Itl K a).yld i H x H'->g x σ H' λσ2 H2=>tb { D with nx:=N,ct:=N,bk:=D.nx } σ2 H2):=by
 refine ⟨λi m σ H=>m=xs.length-i/\i<=xs.length/\Pv i σ H,⟨xs.length,by simp,Nat.zero_le _,h0⟩,?_⟩;rintro i m σ H ⟨rfl,hi,p⟩;have q:=hl i σ H hi p
 by_cases hlt:i<xs.length
 ·refine .inr ⟨⟨xs,xs[i],q,by simp[hlt]⟩,Pv (i+1),λσ' H' p'=>⟨xs.length-(i+1),by omega,rfl,hlt,p'⟩,λx H' y=>?_⟩
  obtain ⟨e,y⟩:=y;subst e;exact hs i x σ _ (y xs q) p
 ·have e:i=xs.length:=by omega
  subst e;exact .inl ⟨⟨xs,q,Nat.le_refl _⟩,hd σ H p⟩
theorem qhy {lo:Int} {n:Nat} {g:TG} {tb:TS} {D:Ends} {σ:St} {H:Hp} (Pv:Nat->St->Hp->Prop) (h0:Pv 0 σ H)
  (hs:∀ i σ H,i<n->Pv i σ H->g (.int (lo+i)) σ H λσ2 H2=>tb { D with nx:=Pv (i+1),ct:=Pv (i+1),bk:=D.nx } σ2 H2) (hd:∀ σ H,Pv n σ H->D.nx σ H) :
  ∃ W:Nat->Nat->St->Hp->Prop,(∃ m,W 0 m σ H)/\∀ i m σ H,W i m σ H ->
   ((Itr lo n).stop i H/\D.nx σ H)\/((Itr lo n).go i H/\∃ N:St->Hp->Prop,(∀ σ' H',N σ' H'->∃ m',m'<m/\W (i+1) m' σ' H')/\∀ x H',(Itr lo n).yld i H x H'->g x σ H' λσ2 H2=>tb { D with nx:=N,ct:=N,bk:=D.nx } σ2 H2):=by
 refine ⟨λi m σ H=>m=n-i/\i<=n/\Pv i σ H,⟨n,by simp,Nat.zero_le _,h0⟩,?_⟩;rintro i m σ H ⟨rfl,hi,p⟩
 by_cases hlt:i<n
 ·refine .inr ⟨hlt,Pv (i+1),λσ' H' p'=>⟨n-(i+1),by omega,rfl,hlt,p'⟩,λx H' y=>?_⟩
  obtain ⟨e,y⟩:=y;subst e y;exact hs i σ _ hlt p
 ·have e:i=n:=by omega
  subst e;exact .inl ⟨Nat.le_refl _,hd σ H p⟩
open PySem PySem.Spec PyProof.Rows
abbrev R2:=V->V->Hp->VK->Prop
def OpR (X:Cx) (f:Value->Value->Sem Value) (r:R2):Prop:=
 ∀ (pins:List (Addr×Obj)) (s:Shared) (σ:St) (H:Hp) (x y:V) (v u:Value) (Q:VK),Inv X pins σ H s->RelV x v->RelV y u->r x y H Q ->
  wpAny (model X.prog X.w) X.A (f v u) (EP X pins σ Q) X.xe s
def UnR (X:Cx) (f:Value->Sem Value) (r:V->Hp->VK->Prop):Prop:=
 ∀ (pins:List (Addr×Obj)) (s:Shared) (σ:St) (H:Hp) (x:V) (v:Value) (Q:VK),Inv X pins σ H s->RelV x v->r x H Q ->
  wpAny (model X.prog X.w) X.A (f v) (EP X pins σ Q) X.xe s
def CallR (X:Cx) (f:Value) (r:List V->Hp->VK->Prop):Prop:=
 ∀ (pins:List (Addr×Obj)) (s:Shared) (σ:St) (H:Hp) (xs:List V) (us:List Value) (Q:VK),Inv X pins σ H s->Vals xs us->r xs H Q ->
  wpAny (model X.prog X.w) X.A (call f us) (EP X pins σ Q) X.xe s
def tOp (r:R2) (ta tb:TE):TE:=λσ H Q=>ta σ H λx H1=>tb σ H1 λy H2=>r x y H2 Q
def tUn (r:V->Hp->VK->Prop) (ta:TE):TE:=λσ H Q=>ta σ H λx H1=>r x H1 Q
inductive rIS (C:Int->Int->Prop) (g:Int->Int->V) (x y:V) (H:Hp) (Q:VK):Prop
 | mk (i j:Int) (hx:x=.int i) (hy:y=.int j) (hc:C i j) (k:Q (g i j) H)
def rI (C:Int->Int->Prop) (g:Int->Int->V):R2:=λx y H Q=>rIS C g x y H Q
inductive rI0S (g:Int->Int->V) (x y:V) (H:Hp) (Q:VK):Prop
 | mk (i j:Int) (hx:x=.int i) (hy:y=.int j) (k:Q (g i j) H)
def rI0 (g:Int->Int->V):R2:=λx y H Q=>rI0S g x y H Q
inductive rUS (g:Int->V) (x:V) (H:Hp) (Q:VK):Prop
 | mk (i:Int) (h:x=.int i) (k:Q (g i) H)
def rU (g:Int->V):V->Hp->VK->Prop:=λx H Q=>rUS g x H Q
section
variable {X:Cx} {a b c:Expr} {ta tb tc:TE} {pos:Pos}
theorem qtj (ha:PE X a ta) (hb:PE X b tb) {pins:List (Addr×Obj)} {s:Shared} {σ:St} {H:Hp} {R:V->V->Hp->Prop} (I:Inv X pins σ H s)
  (h:ta σ H λx H1=>tb σ H1 λy H2=>R x y H2) {Q:Value->Shared->Prop} {f:Value->Value->Sem Value}
  (hf:∀ v u s2 x y H2,Inv X pins σ H2 s2->RelV x v->RelV y u->R x y H2->wpAny (model X.prog X.w) X.A (f v u) Q X.xe s2) :
  wpAny (model X.prog X.w) X.A (eval a X.env) (λv s₁=>wpAny (model X.prog X.w) X.A (eval b X.env) (λu s₂=>wpAny (model X.prog X.w) X.A (f v u) Q X.xe s₂) X.xe s₁) X.xe s:=by
 refine thn (ha pins s σ H _ I h) λv s1 hq__=>?_
 obtain ⟨x,H1,I1,r1,q1⟩:=hq__;refine thn (hb pins s1 σ H1 _ I1 q1) λu s2 hq__=>?_
 obtain ⟨y,H2,I2,r2,q2⟩:=hq__;exact hf v u s2 x y H2 I2 r1 r2 q2
theorem qas {op:Operator} {r:R2} (ho:OpR X (binaryOp op) r) (ha:PE X a ta) (hb:PE X b tb):PE X (.BinOp a op b pos) (tOp r ta tb):=by
 intro pins s σ H Q I h;exact wpAny_BinOp (qtj ha hb I h λv u s2 x y H2 I2 rx ry q=>ho pins s2 σ H2 x y v u Q I2 rx ry q)
theorem qpz {op:UnaryOp} {r:V->Hp->VK->Prop} (ho:UnR X (unaryOp op) r) (ha:PE X a ta):PE X (.UnaryOp op a pos) (tUn r ta):=by
 intro pins s σ H Q I h;exact UnaryOp_ (thn (ha pins s σ H _ I h) λv s1 ⟨x,H1,I1,r1,q1⟩=>ho pins s1 σ H1 x v Q I1 r1 q1)
theorem opI {f:Value->Value->Sem Value} {C:Int->Int->Prop} {g:Int->Int->Int}
  (rule:∀ (i j:Int) (t u:Tok) (s:Shared) (Q:Value->Shared->Prop) (E:Value->Shared->Prop),C i j->Q (.int (g i j) s.toks) { s with toks:=s.toks+1 }->wpAny (model X.prog X.w) X.A (f (.int i t) (.int j u)) Q E s) :
  OpR X f (rI C λi j=>.int (g i j)):=by
 intro pins s σ H x y v u Q I rx ry h;obtain ⟨i,j,rfl,rfl,hc,q⟩:=h;obtain ⟨t,rfl⟩:=rx;obtain ⟨t',rfl⟩:=ry;exact rule i j t t' s _ _ hc ⟨.int (g i j),H,I.tok _,⟨_,rfl⟩,q⟩
theorem qu9 {f:Value->Value->Sem Value} {g:Int->Int->Int}
  (rule:∀ (i j:Int) (t u:Tok) (s:Shared) (Q:Value->Shared->Prop) (E:Value->Shared->Prop),Q (.int (g i j) s.toks) { s with toks:=s.toks+1 }->wpAny (model X.prog X.w) X.A (f (.int i t) (.int j u)) Q E s) :
  OpR X f (rI0 λi j=>.int (g i j)):=by
 intro pins s σ H x y v u Q I rx ry h;obtain ⟨i,j,rfl,rfl,q⟩:=h;obtain ⟨t,rfl⟩:=rx;obtain ⟨t',rfl⟩:=ry;exact rule i j t t' s _ _ ⟨.int (g i j),H,I.tok _,⟨_,rfl⟩,q⟩
theorem qtk {f:Value->Value->Sem Value} {g:Int->Int->Bool}
  (rule:∀ (i j:Int) (t u:Tok) (s:Shared) (Q:Value->Shared->Prop) (E:Value->Shared->Prop),Q (.bool (g i j)) s->wpAny (model X.prog X.w) X.A (f (.int i t) (.int j u)) Q E s) :
  OpR X f (rI0 λi j=>.bl (g i j)):=by
 intro pins s σ H x y v u Q I rx ry h;obtain ⟨i,j,rfl,rfl,q⟩:=h;obtain ⟨t,rfl⟩:=rx;obtain ⟨t',rfl⟩:=ry;exact rule i j t t' s _ _ ⟨.bl (g i j),H,I,rfl,q⟩
def qvs (i j:Int):Prop:=0<j/\j<1073741824
def qvt (i j:Int):Prop:=0<=j/\j<=1000000/\i.natAbs<2 ^ 64
def CMul (i j:Int):Prop:=(-(2 ^ 64)<i/\i<2 ^ 64)\/(-(2 ^ 64)<j/\j<2 ^ 64)
theorem CMul.ok {i j:Int} (h:CMul i j):IntMulOk i j:=by
 rcases h with ⟨h1,h2⟩|⟨h1,h2⟩
 ·exact .of_left (intBits_le_64 h1 h2)
 ·exact .of_right (intBits_le_64 h1 h2)
theorem qc4:OpR X (binaryOp .Add) (rI0 λi j=>.int (i+j)):=qu9 λ_ _ _ _ _ _ _ q=>add_int q
theorem qpb:OpR X (binaryOp .Sub) (rI0 λi j=>.int (i-j)):=qu9 λ_ _ _ _ _ _ _ q=>sub_int q
theorem qgw:OpR X (binaryOp .Mult) (rI CMul λi j=>.int (i*j)):=opI λ_ _ _ _ _ _ _ hc q=>mul_int q hc.ok
theorem qek:OpR X (binaryOp .FloorDiv) (rI qvs λi j=>.int (i / j)):=opI λi j _ _ _ _ _ hc q=>by
 have h1:(0:Int)<j:=hc.1;have h2:j<1073741824:=hc.2;exact floordiv_int (by omega) (by rw[Int.fdiv_eq_ediv_of_nonneg i (by omega)];exact q) (.inl (PyProof.noPylong_small (by omega)))
theorem qbc:OpR X (binaryOp .Mod) (rI (λ_ j=>0<j) λi j=>.int (i % j)):=opI λi j _ _ _ _ _ hc q=>by
 have h1:(0:Int)<j:=hc;exact mod_int' (by omega) (by rw[Int.fmod_eq_emod_of_nonneg i (by omega)];exact q)
theorem qrs:OpR X (binaryOp .Pow) (rI qvt λi j=>.int (i ^ j.toNat)):=opI λ_ _ _ _ _ _ _ hc q=>pow_int_small hc.1 hc.2.1 hc.2.2 q
theorem unI {f:Value->Sem Value} {g:Int->Int}
  (rule:∀ (i:Int) (t:Tok) (s:Shared) (Q:Value->Shared->Prop) (E:Value->Shared->Prop),Q (.int (g i) s.toks) { s with toks:=s.toks+1 }->wpAny (model X.prog X.w) X.A (f (.int i t)) Q E s) :
  UnR X f (rU λi=>.int (g i)):=by
 intro pins s σ H x v Q I rx h;obtain ⟨i,rfl,q⟩:=h;obtain ⟨t,rfl⟩:=rx;exact rule i t s _ _ ⟨.int (g i),H,I.tok _,⟨_,rfl⟩,q⟩
theorem ql4:UnR X (unaryOp .USub) (rU λi=>.int (-i)):=unI λ_ _ _ _ _ q=>neg_int q
end
def qva:V->V->Bool
 | .non,.non=>true|.non,.int _=>true|.int _,.non=>true|.non,.bl _=>true|.bl _,.non=>true|.non,.str _=>true|.str _,.non=>true
 | .int _,.int _=>true|.bl _,.bl _=>true|.str _,.str _=>true|.byt _,.byt _=>true
 | .int _,.str _=>true|.str _,.int _=>true|.bl _,.str _=>true|.str _,.bl _=>true
 | _,_=>false
def rEq:R2:=λx y H Q=>qva x y=true/\Q (.bl (decide (x=y))) H
def rNe:R2:=λx y H Q=>qva x y=true/\Q (.bl (!decide (x=y))) H
theorem ql5 {i j:Int}:decide (V.int i=V.int j)=(i == j):=by
 rw[Bool.eq_iff_iff]
 simp
theorem ql6 {i j:Bool}:decide (V.bl i=V.bl j)=(i == j):=by
 rw[Bool.eq_iff_iff]
 simp
theorem ql7 {i j:Str}:decide (V.str i=V.str j)=(i == j):=by
 rw[Bool.eq_iff_iff]
 simp
theorem ql8 {i j:Array UInt8}:decide (V.byt i=V.byt j)=(i.toList == j.toList):=by
 rw[Bool.eq_iff_iff];cases i;cases j
 simp
section
variable {X:Cx} {a b c:Expr} {ta tb tc:TE} {pos:Pos}
theorem qa1 {pins:List (Addr×Obj)} {σ:St} {H:Hp} {s:Shared} {Q:VK} {k k':Bool} (I:Inv X pins σ H s) (q:Q (.bl k) H) (e:k=k'):EP X pins σ Q (.bool k') s:=by
 subst e;exact ⟨.bl k,H,I,rfl,q⟩
theorem qkx:OpR X (compareOp .Eq) rEq:=by
 intro pins s σ H x y v u Q I rx ry h;obtain ⟨hs,q⟩:=h
 cases x with
 | non =>
  cases rx
  cases y with
  | non=>cases ry;exact PySem.EqNone.eq_none_none (qa1 I q (by simp))
  | bl j=>cases ry;exact PySem.EqNone.eq_none_bool (qa1 I q (by simp))
  | int j=>obtain ⟨t',rfl⟩:=ry;exact PySem.EqNone.eq_none_int (qa1 I q (by simp))
  | str j=>obtain ⟨t',rfl⟩:=ry;exact PySem.EqNone.eq_none_str (qa1 I q (by simp))
  | _=>exact absurd (show false=true from hs) Bool.false_ne_true
 | bl i =>
  cases rx
  cases y with
  | non=>cases ry;exact PySem.EqNone.eq_bool_none (qa1 I q (by simp))
  | bl j=>cases ry;exact eq_bool (qa1 I q ql6)
  | str j=>obtain ⟨t',rfl⟩:=ry;exact PySem.EqMixed.eq_bool_str (qa1 I q (by simp))
  | _=>exact absurd (show false=true from hs) Bool.false_ne_true
 | int i =>
  obtain ⟨t,rfl⟩:=rx
  cases y with
  | non=>cases ry;exact PySem.EqNone.eq_int_none (qa1 I q (by simp))
  | int j=>obtain ⟨t',rfl⟩:=ry;exact eq_int (qa1 I q ql5)
  | str j=>obtain ⟨t',rfl⟩:=ry;exact PySem.EqMixed.eq_int_str (qa1 I q (by simp))
  | _=>exact absurd (show false=true from hs) Bool.false_ne_true
 | str i =>
  obtain ⟨t,rfl⟩:=rx
  cases y with
  | non=>cases ry;exact PySem.EqNone.eq_str_none (qa1 I q (by simp))
  | bl j=>cases ry;exact PySem.EqMixed.eq_str_bool (qa1 I q (by simp))
  | int j=>obtain ⟨t',rfl⟩:=ry;exact PySem.EqMixed.eq_str_int (qa1 I q (by simp))
  | str j=>obtain ⟨t',rfl⟩:=ry;exact eq_str (qa1 I q ql7)
  | _=>exact absurd (show false=true from hs) Bool.false_ne_true
 | byt i =>
  obtain ⟨t,rfl⟩:=rx
  cases y with
  | byt j=>obtain ⟨t',rfl⟩:=ry;exact PySem.W.eq_bytes (qa1 I q ql8)
  | _=>exact absurd (show false=true from hs) Bool.false_ne_true
 | _=>cases y<;>exact absurd (show false=true from hs) Bool.false_ne_true
theorem qp0:OpR X (compareOp .NotEq) rNe:=by
 intro pins s σ H x y v u Q I rx ry h;obtain ⟨hs,q⟩:=h
 cases x with
 | non =>
  cases rx
  cases y with
  | non=>cases ry;exact PySem.EqNone.ne_none_none (qa1 I q (by simp))
  | bl j=>cases ry;exact PySem.EqNone.ne_none_bool (qa1 I q (by simp))
  | int j=>obtain ⟨t',rfl⟩:=ry;exact PySem.EqNone.ne_none_int (qa1 I q (by simp))
  | str j=>obtain ⟨t',rfl⟩:=ry;exact PySem.EqNone.ne_none_str (qa1 I q (by simp))
  | _=>exact absurd (show false=true from hs) Bool.false_ne_true
 | bl i =>
  cases rx
  cases y with
  | non=>cases ry;exact PySem.EqNone.ne_bool_none (qa1 I q (by simp))
  | bl j=>cases ry;exact ne_bool (qa1 I q (congrArg not ql6))
  | str j=>obtain ⟨t',rfl⟩:=ry;exact PySem.EqMixed.ne_bool_str (qa1 I q (by simp))
  | _=>exact absurd (show false=true from hs) Bool.false_ne_true
 | int i =>
  obtain ⟨t,rfl⟩:=rx
  cases y with
  | non=>cases ry;exact PySem.EqNone.ne_int_none (qa1 I q (by simp))
  | int j=>obtain ⟨t',rfl⟩:=ry;exact ne_int (qa1 I q (congrArg not ql5))
  | str j=>obtain ⟨t',rfl⟩:=ry;exact PySem.EqMixed.ne_int_str (qa1 I q (by simp))
  | _=>exact absurd (show false=true from hs) Bool.false_ne_true
 | str i =>
  obtain ⟨t,rfl⟩:=rx
  cases y with
  | non=>cases ry;exact PySem.EqNone.ne_str_none (qa1 I q (by simp))
  | bl j=>cases ry;exact PySem.EqMixed.ne_str_bool (qa1 I q (by simp))
  | int j=>obtain ⟨t',rfl⟩:=ry;exact PySem.EqMixed.ne_str_int (qa1 I q (by simp))
  | str j=>obtain ⟨t',rfl⟩:=ry;exact ne_str (qa1 I q (congrArg not ql7))
  | _=>exact absurd (show false=true from hs) Bool.false_ne_true
 | byt i =>
  obtain ⟨t,rfl⟩:=rx
  cases y with
  | byt j=>obtain ⟨t',rfl⟩:=ry;exact PySem.W.ne_bytes (qa1 I q (congrArg not ql8))
  | _=>exact absurd (show false=true from hs) Bool.false_ne_true
 | _=>cases y<;>exact absurd (show false=true from hs) Bool.false_ne_true
theorem qky:OpR X (compareOp .Lt) (rI0 λi j=>.bl (decide (i<j))):=qtk λ_ _ _ _ _ _ _ q=>lt_int q
theorem qrt:OpR X (compareOp .LtE) (rI0 λi j=>.bl (decide (i<=j))):=qtk λ_ _ _ _ _ _ _ q=>le_int q
theorem qru:OpR X (compareOp .Gt) (rI0 λi j=>.bl (decide (j<i))):=qtk λ_ _ _ _ _ _ _ q=>gt_int q
theorem qrv:OpR X (compareOp .GtE) (rI0 λi j=>.bl (decide (j<=i))):=qtk λ_ _ _ _ _ _ _ q=>ge_int q
theorem ql9:OpR X (compareOp .In) (λx y H Q=>∃ i j,x=.str i/\y=.str j/\Q (.bl (!(Builtin.Str.occurrences j i 0 j.length 1).isEmpty)) H):=by
 intro pins s σ H x y v u Q I rx ry h;obtain ⟨i,j,rfl,rfl,q⟩:=h;obtain ⟨t,rfl⟩:=rx;obtain ⟨t',rfl⟩:=ry;exact in_str (qa1 I q rfl)
theorem qhz:OpR X (compareOp .Is) (λx y H Q=>y=.non/\Q (.bl (decide (x=.non))) H):=by
 intro pins s σ H x y v u Q I rx ry h;obtain ⟨rfl,q⟩:=h;cases ry;refine is_none_gen (qa1 I q ?_)
 cases x<;>first
  | (cases rx;rfl)
  | (obtain ⟨t,rfl⟩:=rx;rfl)
theorem qa2 (b:Expr) {op:CmpOp} (h:op≠.In:=by decide) (h2:op≠.NotIn:=by decide):behindInMarks op b=false:=by
 have e1:(op == CmpOp.In)=false:=by cases op<;>first|rfl|exact absurd rfl h
 have e2:(op == CmpOp.NotIn)=false:=by cases op<;>first|rfl|exact absurd rfl h2
 cases b<;>simp[behindInMarks,e1,e2]
theorem qbt {op:CmpOp} {r:R2} (ho:OpR X (compareOp op) r) (ha:PE X a ta) (hb:PE X b tb) (hm:behindInMarks op b=false):PE X (.Compare a [op] [b] pos) (tOp r ta tb):=by
 intro pins s σ H Q I h;exact wpAny_Compare1 (qtj ha hb I h λv u s2 x y H2 I2 rx ry q=>ho pins s2 σ H2 x y v u Q I2 rx ry q) hm
def qrw (t:TE):TT:=λσ H Q=>t σ H λx H'=>∃ k,x=.bl k/\Q k H'
theorem qax {op:CmpOp} {r:R2} (ho:OpR X (compareOp op) r) (ha:PE X a ta) (hb:PE X b tb) (hm:behindInMarks op b=false):PT X (.Compare a [op] [b] pos) (qrw (tOp r ta tb)):=by
 intro pins s σ H Q I h;refine wpAny_isTrue_Compare1 (thn (ha pins s σ H _ I h) λv s1 ⟨x,H1,I1,r1,q1⟩=>thn (hb pins s1 σ H1 _ I1 q1) λu s2 ⟨y,H2,I2,r2,q2⟩ =>
  thn (ho pins s2 σ H2 x y v u _ I2 r1 r2 q2) λc s3 ⟨z,H3,I3,r3,k,e,q3⟩=>?_) hm
 subst e;cases r3;exact wpAny_truthy_bool ⟨H3,I3,q3⟩
theorem qj0:(sizeLine:Nat)<2 ^ 63:=by rw[sizeLine_eq];decide
theorem qc5:OpR X (binaryOp .Add) (λx y H Q=>∃ i j,x=.str i/\y=.str j/\i.length+j.length<=sizeLine/\Q (.str (i ++ j)) H):=by
 intro pins s σ H x y v u Q I rx ry h;obtain ⟨i,j,rfl,rfl,hz,q⟩:=h;obtain ⟨t,rfl⟩:=rx;obtain ⟨t',rfl⟩:=ry;exact add_str (λt' tk=>⟨.str (i ++ j),H,I.tok _,⟨_,rfl⟩,q⟩) hz
def qnx (b:Expr):Prop:=∀ o i,subscripted b false o i=operate [o,i] (getItem o i)
theorem vals1 {x:V} {us:List Value} (r:Vals [x] us):∃ u,us=[u]/\RelV x u:=by
 cases r with
 | cons r1 r2=>cases r2;exact ⟨_,rfl,r1⟩
theorem vals2 {x y:V} {us:List Value} (r:Vals [x,y] us):∃ u w',us=[u,w']/\RelV x u/\RelV y w':=by
 cases r with
 | cons r1 r2 =>
  cases r2 with
  | cons r3 r4=>cases r4;exact ⟨_,_,rfl,r1,r3⟩
theorem qma (hc:X.calm=true):CallR X (.builtin "max") (λxs H Q=>∃ i j,xs=[.int i,.int j]/\Q (.int (if j>i then j else i)) H):=by
 intro pins s σ H xs us Q I r h;obtain ⟨i,j,rfl,q⟩:=h;obtain ⟨u,w',rfl,⟨t,rfl⟩,⟨t',rfl⟩⟩:=vals2 r;refine max_two_ints (I.ok.hd hc) λh' tk k=>⟨_,H,I.kept k,?_,q⟩
 by_cases hj:j>i
 ·rw[if_pos hj,if_pos hj];exact ⟨_,rfl⟩
 ·rw[if_neg hj,if_neg hj];exact ⟨_,rfl⟩
def qvu (K:Frag) (x:V) (H:Hp) (n:Nat):Prop:=
 match x with
 | .str y=>y.length<=sizeLine/\n=y.length
 | .byt y=>y.size<=sizeLine/\n=y.size
 | .ref p=>(∃ xs,SqL K H p xs/\n=xs.length)\/∃ xs,SqT K H p xs/\n=xs.length
 | _=>False
theorem qny:CallR X (.builtin "len") (λxs H Q=>∃ x n,xs=[x]/\qvu X.K x H n/\Q (.int n) H):=by
 intro pins s σ H xs us Q I r h;obtain ⟨x,n,rfl,e,q⟩:=h;obtain ⟨u,rfl,rx⟩:=vals1 r;have hl:=qj0;have hs:sizeLine=16777216:=sizeLine_eq
 cases x with
 | str y =>
  obtain ⟨t,rfl⟩:=rx;obtain ⟨hy,e'⟩:y.length<=sizeLine/\n=y.length:=e;subst e';exact len_str (by omega) ⟨.int _,H,I.tok _,⟨_,rfl⟩,q⟩
 | byt y =>
  obtain ⟨t,rfl⟩:=rx;obtain ⟨hy,e'⟩:y.size<=sizeLine/\n=y.size:=e;subst e';exact PySem.W.len_bytes (by omega) ⟨.int _,H,I.tok _,⟨_,rfl⟩,q⟩
 | ref p =>
  cases rx;have e':(∃ xs,SqL X.K H p xs/\n=xs.length)\/∃ xs,SqT X.K H p xs/\n=xs.length:=e
  rcases e' with ⟨xs,hx,e'⟩|⟨xs,hx,e'⟩
  ·subst e'
   obtain ⟨its,r',pl,hz⟩:=I.list hx;have hlen:=r'.length;exact Calls.call_len_list pl.isList (by simp only[List.size_toArray];omega) ⟨.int xs.length,H,I.tok _,⟨_,by simp only[List.size_toArray];rw[hlen]⟩,q⟩
  ·subst e'
   obtain ⟨its,r',pl,hz⟩:=I.tuple hx;have hlen:=r'.length;exact len_tuple pl (by simp only[List.size_toArray];omega) ⟨.int xs.length,H,I.tok _,⟨_,by simp only[List.size_toArray];rw[hlen]⟩,q⟩
 | _=>exact (show False from e).elim
end
open PySem PySem.Spec PyProof.Rows
structure ObjM (h:Heap) (x dx C:Addr) (mA:Str->Option Value):Prop where
 obj:h.get? x=some (PySem.W.instObj C dx)
 ns:h.Ns1 dx mA
 ne:dx≠x
theorem qmb {h:Heap} {dx:Addr} {mA:Str->Option Value} (n:h.Ns1 dx mA):∃ od,h.get? dx=some od/\∀ name,PySem.W.lookIn name od=some (mA name):=by
 obtain ⟨o,es,ep,ho,hd,hk,_,hm⟩:=n;refine ⟨o,ho,λname=>?_⟩;have e:=hm name;unfold nsFind findBy at e;rw[<- Array.find?_toList] at e;unfold PySem.W.lookIn;rw[hd];dsimp only
 split
 ·rename_i y q
  rw[q] at e;exact congrArg some e
 ·rename_i q
  rw[q] at e;have a:es.toList.any (·.refKey)=false:=by
   rw[List.any_eq_false];intro y hy;obtain ⟨z,t,hkey⟩:=hk y (Array.mem_toList_iff.mp hy)
   simp[DictEntry.refKey,hkey]
  have a':¬ es.toList.any (·.refKey)=true:=by rw[a];exact Bool.false_ne_true
  rw[if_neg a'];exact congrArg some e
theorem ObjM.look {h:Heap} {x dx C:Addr} {mA:Str->Option Value} (I:ObjM h x dx C mA):∃ od,PySem.W.InstAt h x (PySem.W.instObj C dx) C (some od)/\∀ name,PySem.W.lookIn name od=some (mA name):=
 let ⟨od,ho,hl⟩:=qmb I.ns
 ⟨od,⟨I.obj,rfl,rfl,ho⟩,hl⟩
section
variable {prog:Program} {w:World} {A:Around} {E:Value->Shared->Prop} {s:Shared} {K:Frag} {x dx C f:Addr} {mA:Str->Option Value} {name:Str} {v:Value}
theorem qp1 {expr:Bool} {Q:Value->Shared->Prop} (X:K.In s.heap) (I:ObjM s.heap x dx C mA) (hg:PySem.W.plainGet K C name=true) (hh:PySem.W.hasDictIn K C=true)
  (ha:PySem.W.findIn K (.ref C) name=some none) (hv:mA name=some v) (hv':PySem.W.handedIn v=true) (h:Q v { s with toks:=s.toks+1 }) :
  wpAny (model prog w) A (getAttr (.ref x) name expr) Q E s:=by
 obtain ⟨od,J,hl⟩:=I.look;exact PySem.W.get_value X J (PySem.W.plainGet_of hg).1 (PySem.W.findObj_own hh ha rfl (by rw[hl,hv])) hv' h
theorem qnz {pl:Sem Bool} {Q:Value×List Value->Shared->Prop} (X:K.In s.heap) (I:ObjM s.heap x dx C mA) (hg:PySem.W.plainGet K C name=true)
  (hf:PySem.W.findIn K (.ref C) name=some (some (.ref f))) (ht:PySem.W.isFn K (.ref f)=true) (hv:mA name=none) (h:Q (.ref f,[.ref x]) s) :
  wpAny (model prog w) A (getMethod (.ref x) name pl) Q E s:=by
 obtain ⟨od,J,hl⟩:=I.look;exact PySem.W.method_fn X J (PySem.W.plainGet_of hg).1 (PySem.W.plainGet_of hg).2 hf (beq_iff_eq.mp ht) (by show (PySem.W.lookIn name od).map (·.isSome)=some false;rw[hl,hv];rfl) h
theorem qp2 {ns:List Str} {Q:Unit->Shared->Prop} (X:K.In s.heap) (I:ObjM s.heap x dx C mA)
  (hs:PySem.W.findIn K (.ref C) "__setattr__" = some (some (.builtin "object.__setattr__"))) (hp:PySem.W.plainOver K C=true) (ht:PySem.W.takerIn K C name=some none) (hh:PySem.W.hasDictIn K C=true)
  (hw:PySem.Within mA ns) (hsz:ns.length<=sizeLine)
  (h:∀ h',ObjM h' x dx C (λy=>if y=name then some v else mA y)->Heap.SameBut dx s.heap h'->Q () { s with heap:=h',toks:=s.toks+2 }) :
  wpAny (model prog w) A (setAttr (.ref x) name v) Q E s:=by
 obtain ⟨od,J,hl⟩:=I.look;refine PySem.W.set_plain X J hs (PySem.W.osa_open (s:={ s with toks:=s.toks+1 }) (r:=none) X J hp ht λb=>?_);obtain ⟨cd,hc,hd'⟩:=PySem.W.any_some hh;have hx:s.heap.get? x=some ⟨.ref C,some dx,.plain,#[]⟩:=I.obj;refine wpAny_bind (wpAny_pure (wpAny_bind (wpAny_bind (wpAny_loadPart hx (wpAny_bind (PySem.W.Looks.here (s:={ s with toks:=s.toks+1 }) (PySem.W.looks_clsIn X hc) ?_))))));rw[hd'];refine wpAny_pure (a:=some dx) (wpAny_bind (wpAny_pure (wpAny_bind ?_)));refine wpAny_nsSet1 (s:={ s with toks:=s.toks+1 }) I.ns λh' hn2 hs2=>?_
 obtain ⟨oD,esD,epD,hoD,hdD,hcD⟩:=hn2.count (PySem.Within.cons name v hw);refine wpAny_bind (wpAny_lookBehind hoD (by rw[hdD];exact pastItsLine_dict (Nat.le_trans hcD (by rw[List.length_cons];omega))) ?_);exact wpAny_pure (h _ ⟨(hs2.2 _ (Ne.symm I.ne)).trans I.obj,hn2,I.ne⟩ hs2)
theorem qn0 {R:Result->Shared->Prop} {vs:List Value} {kw:List (Str×Value)} (X:K.In s.heap) (hm:PySem.W.makesIn K C=true)
  (hi:PySem.W.findIn K (.ref C) "__init__" = some (some (.ref f))) (hf:PySem.W.typeIn K (.ref f)=some (.type "function"))
  (h:codeAny (model prog w) (A.under (.builtin "type.__call__" ⟨.ref C :: vs,kw⟩)) (.call (.ref f) ⟨.ref (s.heap.objs.size+1) :: vs,kw⟩) (PySem.W.InitBack (s.heap.objs.size+1) R)
   {s with heap:=(s.heap.push PySem.W.emptyDict).push (PySem.W.instObj C s.heap.objs.size) }) :
  codeAny (model prog w) A (.call (.ref C) ⟨vs,kw⟩) R s:=by
 obtain ⟨hh,g,d,t,os⟩:=s;exact PySem.W.make_core (PySem.W.makes_of X hm) (PySem.W.looks_findIn X hi) (λself=>PySem.W.bind_fn X self hf) (.inl rfl) h
end
def qes (f:Str) (v:V):List (Str×V)->List (Str×V)
 | []=>[(f,v)]
 | (g,x) :: r=>if g=f then (g,v) :: r else (g,x) :: qes f v r
theorem qai (f g:Str) (v:V):∀ fs:List (Str×V),(qes f v fs).lookup g=if g=f then some v else fs.lookup g
 | []=>by
  show List.lookup g [(f,v)]=_
  by_cases h:g=f
  ·have hb:(g == f)=true:=beq_iff_eq.mpr h
   simp only[List.lookup,hb,if_pos h]
  ·have hb:(g == f)=false:=beq_eq_false_iff_ne.mpr h
   simp only[List.lookup,hb,if_neg h]
 | (k,x) :: r=>by
  have ih:=qai f g v r;rw[show qes f v ((k,x) :: r)=(if k=f then (k,v) :: r else (k,x) :: qes f v r) from rfl]
  by_cases hk:k=f
  ·rw[if_pos hk]
   by_cases h:g=k
   ·have hb:(g == k)=true:=beq_iff_eq.mpr h
    simp only[List.lookup,hb,if_pos (h.trans hk)]
   ·have hb:(g == k)=false:=beq_eq_false_iff_ne.mpr h
    simp only[List.lookup,hb,if_neg (λe:g=f=>h (e.trans hk.symm))]
  ·rw[if_neg hk]
   by_cases h:g=k
   ·have hb:(g == k)=true:=beq_iff_eq.mpr h
    simp only[List.lookup,hb,if_neg (λe:g=f=>hk (h.symm.trans e))]
   ·have hb:(g == k)=false:=beq_eq_false_iff_ne.mpr h
    simp only[List.lookup,hb];exact ih
theorem qfw (f:Str) (v:V):∀ fs:List (Str×V),f∈(qes f v fs).map (·.1)/\∀ g,g∈fs.map (·.1)->g∈(qes f v fs).map (·.1)
 | []=>⟨by simp[qes],λg h=>by simp at h⟩
 | (k,x) :: r=>by
  obtain ⟨i1,i2⟩:=qfw f v r;rw[show qes f v ((k,x) :: r)=(if k=f then (k,v) :: r else (k,x) :: qes f v r) from rfl]
  by_cases hk:k=f
  ·rw[if_pos hk]
   subst hk;exact ⟨by simp,λg h=>by simpa using h⟩
  ·rw[if_neg hk]
   refine ⟨?_,λg h=>?_⟩
   ·rw[List.map_cons]
    exact List.mem_cons_of_mem _ i1
   ·rw[List.map_cons] at h ⊢
    rcases List.mem_cons.mp h with e|e
    ·exact List.mem_cons.mpr (.inl e)
    ·exact List.mem_cons_of_mem _ (i2 g e)
theorem qfx (f:Str) (v:V):∀ fs:List (Str×V),(qes f v fs).length<=fs.length+1
 | []=>by simp[qes]
 | (k,x) :: r=>by
  have ih:=qfx f v r;rw[show qes f v ((k,x) :: r)=(if k=f then (k,v) :: r else (k,x) :: qes f v r) from rfl]
  by_cases hk:k=f
  ·rw[if_pos hk,List.length_cons,List.length_cons];omega
  ·rw[if_neg hk,List.length_cons,List.length_cons];omega
theorem RelO.some_of {v:V} {o:Option Value} (r:RelO (some v) o):∃ u,o=some u/\RelV v u:=by
 cases o with
 | none=>exact (show False from r).elim
 | some u=>exact ⟨u,rfl,r⟩
theorem RelO.none_of {o:Option Value} (r:RelO none o):o=none:=by
 cases o with
 | none=>rfl
 | some u=>exact (show False from r).elim
theorem qmc {v:V} {u:Value} (r:RelV v u):PySem.W.handedIn u=true:=by
 cases v with
 | non=>cases (show u=Value.none from r);rfl
 | bl b=>cases (show u=Value.bool b from r);rfl
 | int i=>obtain ⟨t,e⟩:=(show ∃ t,u=Value.int i t from r);cases e;rfl
 | str x=>obtain ⟨t,e⟩:=(show ∃ t,u=Value.str x t from r);cases e;rfl
 | byt b=>obtain ⟨t,e⟩:=(show ∃ t,u=Value.bytes b t from r);cases e;rfl
 | flt b=>obtain ⟨t,e⟩:=(show ∃ t,u=Value.float b t from r);cases e;rfl
 | ref a=>cases (show u=Value.ref a from r);rfl
 | ty n=>cases (show u=Value.type n from r);rfl
section
variable {P:Program} {w:World} {H H':Hp} {h h':Heap} {a C dx:Addr} {fs fs':List (Str×V)}
theorem qg8 (hok:HOk P w H h) (e:H a=some (.ins C dx fs)):∃ mA,ObjM h a dx C mA/\(∀ f,RelO (fs.lookup f) (mA f))/\PySem.Within mA (fs.map (·.1))/\fs.length<=1000/\H dx=some (.own a):=by
 obtain ⟨d,z,ne,ob,mA,n,r,q⟩:=(show ObjOk P w H h a (.ins C dx fs) from hok a _ e);exact ⟨mA,⟨ob,n,ne⟩,r,q,z,d⟩
end
structure Cls (K:Frag) (C:Addr):Prop where
 pg:PySem.W.plainGet K C Str.empty=true
 hd:PySem.W.hasDictIn K C=true
 po:PySem.W.plainOver K C=true
 sa:PySem.W.findIn K (.ref C) "__setattr__" = some (some (.builtin "object.__setattr__"))
theorem Cls.get {K:Frag} {C:Addr} (c:Cls K C) (f:Str):PySem.W.plainGet K C f=true:=c.pg
def NoAttr (K:Frag) (C:Addr) (f:Str):Prop:=PySem.W.findIn K (.ref C) f=some none
theorem NoAttr.taker {K:Frag} {C:Addr} {f:Str} (n:NoAttr K C f):PySem.W.takerIn K C f=some none:=by
 unfold PySem.W.takerIn;rw[show PySem.W.findIn K (.ref C) f=some none from n]
 rfl
structure qfo (K:Frag) (C:Addr) (m:Str) (f:Addr):Prop where
 at_:PySem.W.findIn K (.ref C) m=some (some (.ref f))
 fn:PySem.W.isFn K (.ref f)=true
 kp:keepIn K (.ref f)=true
section
variable {X:Cx} {pins:List (Addr×Obj)} {σ:St} {H:Hp} {s:Shared} {a C dx:Addr} {fs:List (Str×V)} {f:Str} {v:V} {A:Around} {E:Value->Shared->Prop}
theorem qkz {b:Bool} {Q:Value->Shared->Prop} (I:Inv X pins σ H s) (e:H a=some (.ins C dx fs)) (c:Cls X.K C) (n:NoAttr X.K C f) (l:fs.lookup f=some v)
  (h:∀ u s',Inv X pins σ H s'->RelV v u->Q u s'):wpAny (model X.prog X.w) A (getAttr (.ref a) f b) Q E s:=by
 obtain ⟨mA,O,r,_,_,_⟩:=qg8 I.hok e;obtain ⟨u,hu,ru⟩:=RelO.some_of (v:=v) (o:=mA f) (by rw[<- l];exact r f);exact qp1 I.kIn O (c.get f) c.hd n hu (qmc ru) (h u _ (I.tok _) ru)
theorem qe3 {m:Str} {g:Addr} {pl:Sem Bool} {Q:Value×List Value->Shared->Prop} (I:Inv X pins σ H s) (e:H a=some (.ins C dx fs)) (c:Cls X.K C) (k:qfo X.K C m g) (l:fs.lookup m=none)
  (h:Q (.ref g,[.ref a]) s):wpAny (model X.prog X.w) A (getMethod (.ref a) m pl) Q E s:=by
 obtain ⟨mA,O,r,_,_,_⟩:=qg8 I.hok e;have hn:mA m=none:=RelO.none_of (by rw[<- l];exact r m);exact qnz I.kIn O (c.get m) k.at_ k.fn hn h
theorem qk0 {y:V} {u:Value} {Q:Unit->Shared->Prop} (I:Inv X pins σ H s) (e:H a=some (.ins C dx fs)) (c:Cls X.K C) (n:NoAttr X.K C f) (hl:fs.length<1000) (ry:RelV y u)
  (h:∀ s',Inv X pins σ (upd H a (.ins C dx (qes f y fs))) s'->Q () s'):wpAny (model X.prog X.w) A (setAttr (.ref a) f u) Q E s:=by
 obtain ⟨mA,O,r,wi,_,ho⟩:=qg8 I.hok e;have hz:(fs.map (·.1)).length<=sizeLine:=by rw[List.length_map,sizeLine_eq];omega
 refine qp2 I.kIn O c.sa c.po n.taker c.hd wi hz λh' O' sb=>h _ ?_
 have hd:∃ o,h'.get? dx=some o:=let ⟨o,_,_,e',_⟩:=O'.ns;⟨o,e'⟩
 refine I.write (x:=a) (e:=dx) (by rw[e];exact True.intro) (.inr ho) (λb q hb z=>(sb.2 b hb).trans z) hd ?_;refine ⟨by rw[qam O.ne];exact ho,?_,O.ne,O'.obj,_,O'.ns,λg=>?_,λg hg=>?_⟩
 ·have:=qfx f y fs;omega
 ·show RelO ((qes f y fs).lookup g) (if g=f then some u else mA g)
  rw[qai]
  by_cases q:g=f
  ·rw[if_pos q,if_pos q];exact ry
  ·rw[if_neg q,if_neg q];exact r g
 ·by_cases q:g=f
  ·rw[q];exact (qfw f y fs).1
  ·refine (qfw f y fs).2 g (wi g λz=>hg ?_)
   show (if g=f then some u else mA g)=none
   rw[if_neg q];exact z
theorem Inv.made (I:Inv X pins σ H s):Inv X pins σ (upd (upd H s.heap.objs.size (.own (s.heap.objs.size+1))) (s.heap.objs.size+1) (.ins C s.heap.objs.size []))
  {s with heap:=(s.heap.push PySem.W.emptyDict).push (PySem.W.instObj C s.heap.objs.size) }:=by
 have e1:(s.heap.push PySem.W.emptyDict).get? s.heap.objs.size=some PySem.W.emptyDict:=Heap.get?_push_size s.heap rfl;have e2:((s.heap.push PySem.W.emptyDict).push (PySem.W.instObj C s.heap.objs.size)).get? (s.heap.objs.size+1)=some (PySem.W.instObj C s.heap.objs.size):=by
  have:=Heap.get?_push_size (s.heap.push PySem.W.emptyDict) (o:=PySem.W.instObj C s.heap.objs.size) rfl
  rwa [Heap.size_push] at this
 have e3:(s.heap.push PySem.W.emptyDict).Ns s.heap.objs.size (λ_=>none):=⟨PySem.W.emptyDict,#[],_,e1,rfl,(λe he=>absurd he (by simp)),λ_=>rfl⟩;have I1:=I.laid (a:=s.heap.objs.size) (o:=.own (s.heap.objs.size+1)) (h':=s.heap.push PySem.W.emptyDict) (t':=s.toks) (λb u q=>Heap.get?_push_of_some _ q) (Nat.le_refl _) ⟨_,e1⟩;refine I1.laid (a:=s.heap.objs.size+1) (o:=.ins C s.heap.objs.size []) (t':=s.toks) (λb u q=>Heap.get?_push_of_some _ q) (Nat.le_of_eq (Heap.size_push _ _)) ?_;have ne:s.heap.objs.size≠s.heap.objs.size+1:=Nat.ne_of_lt (Nat.lt_succ_self _);refine ⟨by rw[qam ne,qat],Nat.zero_le _,ne,e2,λ_=>none,(Heap.Ns1.of_empty e3).at λo q=>Heap.get?_push_of_some _ q,λ_=>True.intro,λy hy=>absurd rfl hy⟩
theorem qp3 {prog:Program} {w:World} {env:Env} {e:Expr} {f:Str} {pos:Pos} {s:Shared} {Q:Value->Shared->Prop} (hb:attributeBase e f env (eval e env)=eval e env)
  (h:wpAny (model prog w) A (eval e env) (λo s₁=>wpAny (model prog w) A (getAttr o f true) Q E s₁) E s):wpAny (model prog w) A (eval (.Attribute e f pos) env) Q E s:=
 Attribute_any_ h (by rw[arm_eval_Attribute,hb])
end
inductive qt3 (K:Frag) (f:Str) (x:V) (H1:Hp) (Q:VK):Prop
 | mk (a C dx:Addr) (fs:List (Str×V)) (v:V) (hx:x=.ref a) (ho:H1 a=some (.ins C dx fs)) (hc:Cls K C) (hn:NoAttr K C f) (hl:fs.lookup f=some v) (k:Q v H1)
def qvv (K:Frag) (ta:TE) (f:Str):TE:=λσ H Q=>ta σ H λx H1=>qt3 K f x H1 Q
section
variable {X:Cx} {o e value:Expr} {f:Str} {pos pos' tpos:Pos} {ta tv:TE}
theorem qdk (he:PE X e ta) (hb:attributeBase e f X.env (eval e X.env)=eval e X.env):PE X (.Attribute e f pos) (qvv X.K ta f):=by
 intro pins s σ H Q I h;refine qp3 hb (thn (he pins s σ H _ I h) λu s1 hq__=>?_);obtain ⟨x,H1,I1,rx,a,C,dx,fs,v,ex,ea,c,n,l,q⟩:=hq__;subst ex;obtain rfl:u=Value.ref a:=rx;exact qkz I1 ea c n l λu' s2 I2 ru=>⟨v,H1,I2,ru,q⟩
end
section
variable {X:Cx} {pins:List (Addr×Obj)} {σ:St} {H:Hp} {s:Shared} {A:Around} {E:Value->Shared->Prop} {Q:Value->Shared->Prop} {c:Value} {b:Bool}
inductive TyOf (K:Frag) (H:Hp):V->Value->Prop where
 | non:TyOf K H .non (.type "NoneType")
 | bl (x:Bool):TyOf K H (.bl x) (.type "bool")
 | int (i:Int):TyOf K H (.int i) (.type "int")
 | str (x:Str):TyOf K H (.str x) (.type "str")
 | flt (x:UInt64):TyOf K H (.flt x) (.type "float")
 | lst {a:Addr} {xs:List V} (e:H a=some (.lst xs)):TyOf K H (.ref a) (.type "list")
 | frz {a:Addr} {o:Obj} {xs:List V} (e:H a=some (.frz o (.lst xs))):TyOf K H (.ref a) (.type "list")
 | tup {a:Addr} {xs:List V} (e:H a=some (.tup xs)):TyOf K H (.ref a) (.type "tuple")
 | dK {a:Addr} {kvs:List (Key×V)} (e:H a=some (.dK kvs)):TyOf K H (.ref a) (.type "dict")
 | dT {a:Addr} {kvs:List (List Key×V)} (e:H a=some (.dT kvs)):TyOf K H (.ref a) (.type "dict")
 | ins {a C dx:Addr} {fs:List (Str×V)} (e:H a=some (.ins C dx fs)) (cl:Cls K C) (ha:PySem.W.findIn K (.ref C) "__class__" = some (some (.builtin "object.__class__")))
   (hn:PySem.W.specialIn K (.builtin "object.__class__") "__get__" = some (some (.builtin "getset_descriptor.__get__"))) (htk:PySem.W.takesIn K (.builtin "object.__class__")=some true)
   (hm:PySem.W.mroIn K C (.type "object")=some true):TyOf K H (.ref a) (.ref C)
theorem qmd {x:V} {u t:Value} (I:Inv X pins σ H s) (rx:RelV x u) (ty:TyOf X.K H x t) (e:PySem.W.kitOne X.K t c=some b) (h:∀ tk,Q (.bool b) { s with toks:=tk }) :
  wpAny (model X.prog X.w) A (call (.builtin "isinstance") [u,c]) Q E s:=by
 cases ty with
 | non=>cases (show u=Value.none from rx);exact PySem.W.kia_one PySem.W.kitx_none I.kIn True.intro e (λz=>nomatch z) h
 | bl y=>cases (show u=Value.bool y from rx);exact PySem.W.kia_one PySem.W.kitx_bool I.kIn True.intro e (λz=>nomatch z) h
 | int i=>obtain ⟨t,q⟩:=(show ∃ t,u=Value.int i t from rx);cases q;exact PySem.W.kia_one PySem.W.kitx_int I.kIn True.intro e (λz=>nomatch z) h
 | str y=>obtain ⟨t,q⟩:=(show ∃ t,u=Value.str y t from rx);cases q;exact PySem.W.kia_one PySem.W.kitx_str I.kIn True.intro e (λz=>nomatch z) h
 | flt y=>obtain ⟨t,q⟩:=(show ∃ t,u=Value.float y t from rx);cases q;exact PySem.W.kia_one PySem.W.kitx_float I.kIn True.intro e (λz=>nomatch z) h
 | @lst a xs ea =>
  cases (show u=Value.ref a from rx)
  obtain ⟨_,_,n,_,h1⟩:=(show ObjOk X.prog X.w H s.heap a (.lst xs) from I.hok a _ ea);exact PySem.W.kia_one PySem.W.kitx_list I.kIn ⟨_,h1,rfl⟩ e (λz=>nomatch z) h
 | @frz a ob xs ea =>
  cases (show u=Value.ref a from rx)
  obtain ⟨_,_,_,n,_,h1⟩:=(show ObjOk X.prog X.w H s.heap a (.frz ob (.lst xs)) from I.hok a _ ea);exact PySem.W.kia_one PySem.W.kitx_list I.kIn ⟨_,h1,rfl⟩ e (λz=>nomatch z) h
 | @tup a xs ea =>
  cases (show u=Value.ref a from rx)
  obtain ⟨_,_,_,p⟩:=(show ObjOk X.prog X.w H s.heap a (.tup xs) from I.hok a _ ea);obtain ⟨o,h1,h2,_⟩:=p;exact PySem.W.kia_one PySem.W.kitx_tuple I.kIn ⟨o,h1,h2⟩ e (λz=>nomatch z) h
 | @dK a kvs ea =>
  cases (show u=Value.ref a from rx)
  obtain ⟨_,_,vs,_,p⟩:=(show ObjOk X.prog X.w H s.heap a (.dK kvs) from I.hok a _ ea);obtain ⟨o,es,ep,h1,h2,_⟩:=p;exact PySem.W.kia_one PySem.W.kitx_dict I.kIn ⟨o,h1,h2.1⟩ e (λz=>nomatch z) h
 | @dT a kvs ea =>
  cases (show u=Value.ref a from rx)
  obtain ⟨_,_,xs,_,o,es,ep,h1,h2,_⟩:=(show ObjOk X.prog X.w H s.heap a (.dT kvs) from I.hok a _ ea);exact PySem.W.kia_one PySem.W.kitx_dict I.kIn ⟨o,h1,h2.1⟩ e (λz=>nomatch z) h
 | @ins a C dx fs ea cl ha hn htk hm =>
  cases (show u=Value.ref a from rx)
  obtain ⟨mA,O,_⟩:=qg8 I.hok ea;obtain ⟨od,J,_⟩:=O.look;exact PySem.W.kia_one (PySem.W.kitx_own (cl.get _) cl.hd ha hn htk hm) I.kIn J e (λz=>nomatch z) h
end
open PySem PySem.Spec PyProof.Rows
structure Room (k:Nat) (A:Around):Prop where
 hd:A.handled=none
 dp:A.depth+3*k+5<recursionLimit
 un:A.units+16*k+200<cLine
theorem Room.mono {j k:Nat} {A:Around} (r:Room k A) (h:j<=k):Room j A:=⟨r.hd,by have:=r.dp;omega,by have:=r.un;omega⟩
theorem Room.deeper {k:Nat} {A:Around} (r:Room (k+1) A) (env:Env):Room k (A.deeper env):=
 ⟨r.hd,by have:=r.dp;show A.depth+1+3*k+5<_;omega,by have:=r.un;show A.units+3+16*k+200<_;omega⟩
theorem qk1 {A:Around} {C:Addr} {us:List Value} {kw:List (Str×Value)}:(A.under (.builtin "type.__call__" ⟨.ref C :: us,kw⟩)).depth=A.depth+1:=by
 first|rfl|simp[Around.under,Code.weight,Code.isCreation,Code.isGuard,Code.isCaller,Code.frames,Code.isFrame,guardIds]
theorem qk2 {A:Around} {C:Addr} {us:List Value} {kw:List (Str×Value)}:(A.under (.builtin "type.__call__" ⟨.ref C :: us,kw⟩)).units=A.units+1:=by
 first|rfl|simp[Around.under,Code.cUnits,Code.frames,Code.isFrame]
theorem Room.make {k:Nat} {A:Around} (r:Room (k+1) A) (C:Addr) (us:List Value) (kw:List (Str×Value)):Room k (A.under (.builtin "type.__call__" ⟨.ref C :: us,kw⟩)):=
 ⟨r.hd,by have:=r.dp;rw[qk1];omega,by have:=r.un;rw[qk2];omega⟩
theorem Room.depth {k:Nat} {A:Around} (r:Room k A):A.depth<recursionLimit:=by have:=r.dp;omega
theorem Room.units {k:Nat} {A:Around} (r:Room k A):A.units+64<cLine:=by have:=r.un;omega
def qtl:TA:=λ_ H Q=>Q [] H
def qt4 (ta:TE) (tr:TA):TA:=λσ H Q=>ta σ H λx H1=>tr σ H1 λxs H2=>Q (x :: xs) H2
section
variable {X:Cx} {e:Expr} {es:List Expr} {te:TE} {t:TA} {pos:Pos}
theorem qac:PA X [] qtl:=λ_ _ _ _ H Q I h=>Calls.spliced_nil ⟨[],H,I,.nil,h⟩
theorem qaa (ha:PE X e te) (hr:PA X es t) (hs:starEach (e :: es) X.env=(false,eval e X.env) :: starEach es X.env:=by rfl):PA X (e :: es) (qt4 te t):=by
 intro pos pins s σ H Q I h;rw[hs]
 show wpAny _ _ (spliced ((false,eval e X.env) :: backTo pos (starEach es X.env))) _ _ s
 refine Calls.spliced_cons (thn (ha pins s σ H _ I h) λu s1 hq__=>?_);obtain ⟨x,H1,I1,r1,q1⟩:=hq__;exact thn (hr pos pins s1 σ H1 _ I1 q1) λus s2 ⟨xs,H2,I2,r2,q2⟩=>⟨x :: xs,H2,I2,.cons r1 r2,q2⟩
end
abbrev Sp:=List V->Hp->VK->XK->Prop
abbrev CXT:=List Env->Hp->Shared->XK->Value->Shared->Prop
structure Env0 (P:Program) (w:World) (K:Frag) (mg:Str->Option Value) (base:Heap) (A:Around) (outer:List Env) (s:Shared) (H:Hp):Prop where
 frames:A.frames=some outer
 mod:Mod K mg base
 bs:∀ b o,base.get? b=some o->s.heap.get? b=some o/\H b=none
 bsz:base.objs.size<=s.heap.objs.size
 funs:s.heap.FunFrames base outer
 frf:∀ b∈frs outer,H b=none
 hok:HOk P w H s.heap
 bare:AllBare s.gens
def CE (outer:List Env) (P:Program) (w:World) (H:Hp) (s:Shared) (Q:VK) (u:Value) (s':Shared):Prop:=
 ∃ v H',s'.os=s.os/\AllBare s'.gens/\Un (frs outer) [] H H' s.heap s'.heap/\HOk P w H' s'.heap/\RelV v u/\Q v H'
def CR (CX:CXT) (outer:List Env) (P:Program) (w:World) (H:Hp) (s:Shared) (Q:VK) (E:XK) (r:Result) (s':Shared):Prop:=
 match r with
 | .ok (.ret u)=>CE outer P w H s Q u s'
 | .ok _=>False
 | .error e=>CX outer H s E e s'
structure qff (P:Program) (w:World) (K:Frag) (mg:Str->Option Value) (base:Heap) (CX:CXT) (k:Nat) (f:Addr) (fd:FuncData) (ps:List Str) (sp:Sp):Prop where
 len:∀ vs H Q E,sp vs H Q E->vs.length=ps.length
 run:∀ (A:Around) (outer:List Env) (s:Shared) (H:Hp) (args:Args) (us:List Value) (vs:List V) (Q:VK) (E:XK),Room k A->Env0 P w K mg base A outer s H->BindsTo s fd args (ps.zip us)->Vals vs us->sp vs H Q E ->
  codeAny (model P w) A (.call (.ref f) args) (CR CX outer P w H s Q E) s
theorem Env0.make {P:Program} {w:World} {K:Frag} {mg:Str->Option Value} {base:Heap} {A:Around} {outer:List Env} {s:Shared} {H:Hp} (e:Env0 P w K mg base A outer s H) (C:Addr) (us:List Value) (kw:List (Str×Value)) :
  Env0 P w K mg base (A.under (.builtin "type.__call__" ⟨.ref C :: us,kw⟩)) outer s H:=⟨by first|exact e.frames|(simpa [Around.under,Code.envs,Code.isFrame,pushEnvs] using e.frames),e.mod,e.bs,e.bsz,e.funs,e.frf,e.hok,e.bare⟩
section
variable {X:Cx} {pins:List (Addr×Obj)} {σ:St} {H:Hp} {s s':Shared}
theorem Inv.env0 (I:Inv X pins σ H s):Env0 X.prog X.w X.K X.mg X.base X.A X.stack s H:=
 ⟨I.ok.frames,I.ok.mod,I.bs,Nat.le_trans I.ok.bsz I.sz,I.stack,I.stkFree,I.hok,I.bare⟩
theorem Inv.after {Q:VK} {u:Value} (I:Inv X pins σ H s) (h:CE X.stack X.prog X.w H s Q u s'):EP X pins σ Q u s':=by
 obtain ⟨v,H',os,bare,un,hok,r,q⟩:=h;obtain ⟨hh,g,d,t,os'⟩:=s';obtain rfl:os'=s.os:=os;exact ⟨v,H',I.call (h':=hh) (g':=g) (d':=d) (t':=t) (ch:=[]) un hok bare (λb z=>absurd z (by simp)),r,q⟩
end
def qrx (sp:Sp) (dvs:List V) (E:XK) (t:TA):TE:=λσ H Q=>t σ H λvs H1=>sp (vs ++ dvs) H1 Q E
inductive qpc (C:Addr) (m:Str) (x:V) (H:Hp) (k:Prop):Prop
 | mk (a dx:Addr) (fs:List (Str×V)) (hx:x=.ref a) (ho:H a=some (.ins C dx fs)) (hl:fs.lookup m=none) (hk:k)
def qme (C:Addr) (m:Str) (sp:Sp) (dvs:List V) (E:XK) (ta:TE) (t:TA):TE:=λσ H Q=>ta σ H λx H1=>qpc C m x H1 (t σ H1 λvs H2=>sp (x :: (vs ++ dvs)) H2 Q E)
def Binds (K:Frag) (fd:FuncData) (ps:List Str) (ds:List Value):Prop:=
 ∀ (s:Shared) (us:List Value),K.In s.heap->(us ++ ds).length=ps.length->BindsTo s fd ⟨us,[]⟩ (ps.zip (us ++ ds))
theorem Binds.all {K:Frag} {fd:FuncData} {ps:List Str} (h:∀ us:List Value,us.length=ps.length->bindArgs fd ⟨us,[]⟩=pure (ps.zip us)):Binds K fd ps []:=λs us _ hl=>by
 rw[List.append_nil] at hl ⊢;exact .of_eq (h us hl)
def qfy (CX:CXT) (X:Cx) (E:XK):Prop:=∀ (pins:List (Addr×Obj)) (σ:St) (H:Hp) (s:Shared) (e:Value) (s':Shared),Inv X pins σ H s->CX X.stack H s E e s'->X.xe e s'
section
variable {X:Cx} {CX:CXT} {k:Nat} {f C:Addr} {fd:FuncData} {ps:List Str} {sp:Sp} {dvs:List V} {ds:List Value} {E:XK} {x m:Str} {p pos apos:Pos} {e o:Expr} {es:List Expr} {ta:TE} {t:TA}
theorem qmf {pins:List (Addr×Obj)} {σ:St} {H:Hp} {s:Shared} {Q:VK} {us:List Value} {vs:List V} (F:qff X.prog X.w X.K X.mg X.base CX k f fd ps sp) (hr:Room k X.A) (hb:Binds X.K fd ps ds) (hd:Vals dvs ds) (hx:qfy CX X E)
  (I:Inv X pins σ H s) (r:Vals vs us) (h:sp (vs ++ dvs) H Q E):wpAny (model X.prog X.w) X.A (call (.ref f) us) (EP X pins σ Q) X.xe s:=by
 have r2:Vals (vs ++ dvs) (us ++ ds):=r.append hd;have hl:(us ++ ds).length=ps.length:=by rw[<- r2.length];exact F.len _ _ _ _ h
 refine wpAny_call (codeAny_mono (F.run X.A X.stack s H ⟨us,[]⟩ (us ++ ds) (vs ++ dvs) Q E hr I.env0 (hb s us I.kIn hl) r2 h) λr s' hq=>?_)
 cases r with
 | error e=>exact hx pins σ H s e s' I hq
 | ok fl =>
  cases fl with
  | ret u=>exact I.after hq
  | next=>exact False.elim hq
  | brk=>exact False.elim hq
  | cont=>exact False.elim hq
theorem qp4 (F:qff X.prog X.w X.K X.mg X.base CX k f fd ps sp) (hr:Room k X.A) (hg:Gl X x) (hm:X.mg x=some (.ref f)) (hk:keepIn X.K (.ref f)=true) (hb:Binds X.K fd ps ds) (hd:Vals dvs ds) (hx:qfy CX X E)
  (ha:PA X (e :: es) t) (hdb:(x == ("__debug__" : Str))=false:=by decide) (he:starEach (e :: es) X.env=(false,eval e X.env) :: starEach es X.env:=by rfl) (hpl:(backTo pos (starEach es X.env)).any (·.1)=false:=by rfl) :
  PE X (.Call (.Name x p) (e :: es) [] pos) (qrx sp dvs E t):=by
 intro pins s σ H Q I h;refine wpAny_Call_Name_kw (qfr I hg hm ?_ hdb);refine PySem.W.callWith_K (h₀:=X.base) I.ok.mod.kin hk (thn (ha pos pins s σ H _ I h) λus s1 ⟨vs,H1,I1,r,q⟩=>⟨I1.kIn,?_⟩) he hpl;exact qmf F hr hb hd hx I1 r q
theorem qmg {pl:Sem Bool} (he:PE X o ta) (c:Cls X.K C) (hm:qfo X.K C m f) (F:qff X.prog X.w X.K X.mg X.base CX k f fd ps sp) (hr:Room k X.A) (hb:Binds X.K fd ps ds) (hd:Vals dvs ds) (hx:qfy CX X E) (ha:PA X (e :: es) t)
  (hst:starEach (e :: es) X.env=(false,eval e X.env) :: starEach es X.env:=by rfl) (hpl:(backTo pos (starEach es X.env)).any (·.1)=false:=by rfl)
  (ht:eval (.Call (.Attribute o m apos) (e :: es) [] pos) X.env=(do
   let ov <- eval o X.env
   standAt apos.atName
   let (f,first) <- holding [ov] (getMethod ov m pl)
   callWith pos f first (backTo pos (starEach (e :: es) X.env)) (backToKw pos (keywordEach [] X.env))):=by rfl) :
  PE X (.Call (.Attribute o m apos) (e :: es) [] pos) (qme C m sp dvs E ta t):=by
 intro pins s σ H Q I h;refine PySem.W.methodCall_KW (pl:=pl) (thn (he pins s σ H _ I h) λu s1 hq__=>?_) ht;obtain ⟨x,H1,I1,rx,a,dx,fs,ex,ea,l,q⟩:=hq__;subst ex;obtain rfl:u=Value.ref a:=rx;refine qe3 I1 ea c hm l ?_;refine PySem.W.callWith_K (first:=[.ref a]) (h₀:=X.base) I.ok.mod.kin hm.kp (thn (ha pos pins s1 σ H1 _ I1 q) λus s2 ⟨vs,H2,I2,r,q2⟩=>⟨I2.kIn,?_⟩) hst hpl;exact qmf (us:=.ref a :: us) (vs:=.ref a :: vs) F hr hb hd hx I2 (.cons rfl r) q2
theorem qn1 {pl:Sem Bool} (he:PE X o ta) (c:Cls X.K C) (hm:qfo X.K C m f) (F:qff X.prog X.w X.K X.mg X.base CX k f fd ps sp) (hr:Room k X.A) (hb:Binds X.K fd ps ds) (hd:Vals dvs ds) (hx:qfy CX X E)
  (ht:eval (.Call (.Attribute o m apos) [] [] pos) X.env=(do
   let ov <- eval o X.env
   standAt apos.atName
   let (f,first) <- holding [ov] (getMethod ov m pl)
   callWith pos f first (backTo pos (starEach [] X.env)) (backToKw pos (keywordEach [] X.env))):=by rfl) :
  PE X (.Call (.Attribute o m apos) [] [] pos) (qme C m sp dvs E ta qtl):=by
 intro pins s σ H Q I h;refine PySem.W.methodCall_KW (pl:=pl) (thn (he pins s σ H _ I h) λu s1 hq__=>?_) ht;obtain ⟨x,H1,I1,rx,a,dx,fs,ex,ea,l,q⟩:=hq__;subst ex;obtain rfl:u=Value.ref a:=rx;refine qe3 I1 ea c hm l ?_;exact PySem.W.callWith_K0 (first:=[.ref a]) I1.kIn hm.kp (qmf (us:=[.ref a]) (vs:=[.ref a]) F hr hb hd hx I1 (.cons rfl .nil) q)
structure Mk (K:Frag) (C f:Addr):Prop where
 makes:PySem.W.makesIn K C=true
 init:PySem.W.findIn K (.ref C) "__init__" = some (some (.ref f))
 fn:PySem.W.isFn K (.ref f)=true
 kp:keepIn K (.ref C)=true
theorem qn2 {pins:List (Addr×Obj)} {σ:St} {H:Hp} {s:Shared} {Q:VK} {us:List Value} {vs:List V} (M:Mk X.K C f) (F:qff X.prog X.w X.K X.mg X.base CX k f fd ps sp) (hr:Room (k+1) X.A) (hb:Binds X.K fd ps ds) (hd:Vals dvs ds)
  (hx:qfy CX X E) (I:Inv X pins σ H s) (r:Vals vs us)
  (h:∀ x dx,H x=none->H dx=none->dx≠x->sp (.ref x :: (vs ++ dvs)) (upd (upd H dx (.own x)) x (.ins C dx [])) (λv H2=>v=.non/\Q (.ref x) H2) E) :
  wpAny (model X.prog X.w) X.A (call (.ref C) us) (EP X pins σ Q) X.xe s:=by
 have hq:=h (s.heap.objs.size+1) s.heap.objs.size (I.hok.fresh (Nat.le_succ _)) (I.hok.fresh (Nat.le_refl _)) (Nat.ne_of_lt (Nat.lt_succ_self _));have I2:=Inv.made (C:=C) I;have r2:Vals (V.ref (s.heap.objs.size+1) :: (vs ++ dvs)) (Value.ref (s.heap.objs.size+1) :: (us ++ ds)):=.cons rfl (r.append hd);have hl:(Value.ref (s.heap.objs.size+1) :: us ++ ds).length=ps.length:=by
  have e:=r2.length;rw[F.len _ _ _ _ hq] at e;exact e.symm
 refine wpAny_call (qn0 (f:=f) I.kIn M.makes M.init (beq_iff_eq.mp M.fn) (codeAny_mono (F.run _ X.stack _ _ ⟨Value.ref (s.heap.objs.size+1) :: us,[]⟩ (Value.ref (s.heap.objs.size+1) :: (us ++ ds)) _ _ E (hr.make C us [])
  (I2.env0.make C us []) (hb _ (Value.ref (s.heap.objs.size+1) :: us) I2.kIn hl) r2 hq) λr s' hq'=>?_))
 cases r with
 | error e=>exact hx pins σ _ _ e s' I2 hq'
 | ok fl =>
  cases fl with
  | ret u =>
   obtain ⟨v,H',I3,rv,ev,q3⟩:=I2.after hq';subst ev;exact ⟨rv,⟨V.ref (s.heap.objs.size+1),H',I3,rfl,q3⟩⟩
  | next=>exact False.elim hq'
  | brk=>exact False.elim hq'
  | cont=>exact False.elim hq'
end
section
variable {X:Cx} {CX:CXT} {k:Nat} {f C:Addr} {fd:FuncData} {ps ks:List Str} {sp:Sp} {E:XK} {x m:Str} {p pos apos kpos:Pos} {e o:Expr} {es:List Expr} {kws:List Keyword} {te ta:TE} {t tk:TA} {nm:Option Str}
variable {g:List Value->List Value->List Value} {gV:List V->List V->List V}
end
structure qal (N P:List Str) (sc:Scope):Prop where
 kind:sc.kind=.function
 co:sc.isCoroutine=false
 gen:sc.isGenerator=false
 nd:N.Nodup
 pre:N.take P.length=P
 par:∀ x∈P,sc.names.lookup x=some .local\/sc.names.lookup x=some .cell
 nofree:∀ y∈sc.names,y.2≠.free
theorem qh0 {kindOf:Str->Option NameKind} {x:Str}:∀ {binds:List (Str×Value)} {m:Str->Option Value},(∀ v,(x,v) ∉ binds)->bindL kindOf binds m x=m x
 | [],_,_=>rfl
 | (n,v) :: r,m,h=>by
  unfold bindL;rw[qh0 λw hw=>h w (List.mem_cons_of_mem _ hw)]
  split
  ·have:x≠n:=by rintro rfl;exact h v List.mem_cons_self
   simp[this]
  ·rfl
theorem qh1 {kindOf:Str->Option NameKind} {x:Str}:∀ {binds:List (Str×Value)} {m:Str->Option Value},(∀ v,(x,v) ∉ binds)->bindC kindOf binds m x=m x
 | [],_,_=>rfl
 | (n,v) :: r,m,h=>by
  unfold bindC;rw[qh1 λw hw=>h w (List.mem_cons_of_mem _ hw)]
  split
  ·rfl
  ·have:x≠n:=by rintro rfl;exact h v List.mem_cons_self
   simp[this]
theorem qh2 {kindOf:Str->Option NameKind} {x:Str} {v:Value}:∀ {P:List Str} {vs:List Value} {i:Nat} {m:Str->Option Value},P.Nodup->P[i]?=some x->vs[i]?=some v->kindOf x=some .local ->
  bindL kindOf (P.zip vs) m x=some v
 | [],_,_,_,_,h,_,_=>by simp at h
 | _ :: _,[],_,_,_,_,h,_=>by simp at h
 | p :: P,w :: vs,0,m,nd,h1,h2,hk=>by
  simp at h1 h2;subst h1;subst h2
  show bindL kindOf ((p,w) :: P.zip vs) m p=_
  unfold bindL;rw[qh0 λv hv=>(List.nodup_cons.mp nd).1 (List.of_mem_zip hv).1,if_pos hk]
  simp
 | p :: P,w :: vs,i+1,m,nd,h1,h2,hk=>by
  show bindL kindOf ((p,w) :: P.zip vs) m x=_
  unfold bindL;exact qh2 (i:=i) (List.nodup_cons.mp nd).2 (by simpa using h1) (by simpa using h2) hk
theorem qh3 {kindOf:Str->Option NameKind} {x:Str} {v:Value}:∀ {P:List Str} {vs:List Value} {i:Nat} {m:Str->Option Value},P.Nodup->P[i]?=some x->vs[i]?=some v->kindOf x≠some .local ->
  bindC kindOf (P.zip vs) m x=some v
 | [],_,_,_,_,h,_,_=>by simp at h
 | _ :: _,[],_,_,_,_,h,_=>by simp at h
 | p :: P,w :: vs,0,m,nd,h1,h2,hk=>by
  simp at h1 h2;subst h1;subst h2
  show bindC kindOf ((p,w) :: P.zip vs) m p=_
  unfold bindC;rw[qh1 λv hv=>(List.nodup_cons.mp nd).1 (List.of_mem_zip hv).1,if_neg hk]
  simp
 | p :: P,w :: vs,i+1,m,nd,h1,h2,hk=>by
  show bindC kindOf ((p,w) :: P.zip vs) m x=_
  unfold bindC;exact qh3 (i:=i) (List.nodup_cons.mp nd).2 (by simpa using h1) (by simpa using h2) hk
def start (N:List Str) (vs:List V):St:=vs.map some ++ List.replicate (N.length-vs.length) none
def qj1 (CX:CXT) (P:Program) (w:World) (K:Frag) (mg:Str->Option Value) (base:Heap) (N:List Str) (qual:Str) (scope:Scope) (f:Addr) (cd:Value) (A:Around) (outer:List Env) (s:Shared) (H:Hp) (E:XK):Cx where
 prog:=P
 w:=w
 K:=K
 mg:=mg
 base:=base
 A:=A.deeper (envOfC qual scope s.heap.objs.size f cd)
 N:=N
 s₀:=s
 H₀:=H
 env:=envOfC qual scope s.heap.objs.size f cd
 outer:=outer
 stack:=envOfC qual scope s.heap.objs.size f cd :: outer
 ex:=[]
 calm:=true
 fn:=λ_=>true
 pn:=[]
 xe:=λe s'=>wpAny (model P w) (A.deeper (envOfC qual scope s.heap.objs.size f cd)) (leaving (envOfC qual scope s.heap.objs.size f cd) e) (λ_ s''=>CX outer H s E e s'') (λe' s''=>CX outer H s E e' s'') s'
theorem qj2 {sc:Scope} {n:Nat} {x:Str} (h:sc.names.lookup x=some .cell):∃ c,(cellsFrom n sc.names []).lookup x=some c:=by
 have q:=PySem.W.cellsFrom_some sc.names n [] (.inl h);exact Option.isSome_iff_exists.mp q
theorem qfz {CX:CXT} {P:Program} {w:World} {K:Frag} {mg:Str->Option Value} {base:Heap} {N ps:List Str} {qual:Str} {scope:Scope} {f:Addr} {cd:Value} {A:Around} {outer:List Env} {s s1:Shared} {H:Hp} {E:XK} {us:List Value} {vs:List V}
  (S:qal N ps scope) (hd:A.handled=none) (e0:Env0 P w K mg base A outer s H) (hl:vs.length=ps.length) (r:Vals vs us)
  (x:InCallC s s.heap.objs.size (bindL (envOfC qual scope s.heap.objs.size f cd).kindOf (ps.zip us) λ_=>none) (cellsFrom (s.heap.objs.size+1) scope.names []) (bindC (envOfC qual scope s.heap.objs.size f cd).kindOf (ps.zip us) λ_=>none) s1) :
  Inv (qj1 CX P w K mg base N qual scope f cd A outer s H E) [] (start N vs) H s1:=by
 have hpl:ps.length<=N.length:=by have:=congrArg List.length S.pre;rw[List.length_take] at this;omega
 obtain ⟨h1,tk,rfl,hk⟩:=x.done;have noA:∀ b:Addr,b ∉ (qj1 CX P w K mg base N qual scope f cd A outer s H E).ex:=λb z=>absurd (show b∈([]:List Addr) from z) (by simp)
 refine ⟨⟨e0.mod,S.kind,rfl,rfl,Nat.le_refl _,λy z c h1 h2=>?_,λy hy=>?_,λy c _ h=>?_,λ_=>hd,Around.frames_deeper e0.frames,.inr ⟨rfl,rfl⟩,λb z=>absurd z (noA b),e0.bs,e0.bsz,λb _ _=>noA b,λb z=>absurd z (noA b),e0.funs,e0.frf⟩,
  rfl,e0.bare,Un.kept hk,⟨_,x.toInCall.ns,λi y v h1 h2 h3=>?_⟩,λy c h=>⟨_,x.cell y c h⟩,e0.hok.fresh (Nat.le_refl _),λy c h=>?_,λp hp=>absurd (show p∈([]:List (Addr×Obj)) from hp) (by simp),e0.hok.kept hk,?_⟩
 ·exact name_of_addr x.apart (PySem.mem_of_lookup h1) (PySem.mem_of_lookup h2)
 ·have hy:scope.names.lookup y=some .cell\/scope.names.lookup y=some .free:=hy
  rcases hy with hy|hy
  ·exact qj2 hy
  ·exact absurd rfl (S.nofree _ (PySem.mem_of_lookup hy))
 ·exact Nat.le_of_lt (x.above y c (PySem.mem_of_lookup h))
 ·have hi:i<vs.length:=by
   unfold start at h2
   by_cases hi:i<vs.length
   ·exact hi
   ·rw[List.getElem?_append_right (by simpa using hi)] at h2
    rw[List.getElem?_replicate] at h2
    split at h2<;>cases h2
  have ha:vs[i]?=some v:=by
   unfold start at h2;rw[List.getElem?_append_left (by simpa using hi),List.getElem?_map] at h2
   cases e:vs[i]? with
   | none=>rw[e] at h2;cases h2
   | some a=>rw[e] at h2;cases h2;rfl
  obtain ⟨u,hu,rv⟩:=r.get ha;have hp:ps[i]?=some y:=by
   rw[<- S.pre,List.getElem?_take_of_lt (by omega)];exact h1
  have ndP:ps.Nodup:=by rw[<- S.pre];exact S.nd.sublist (List.take_sublist _ _)
  refine ⟨u,rv,?_⟩
  rcases S.par y (List.mem_of_getElem? hp) with k|k
  ·exact .inl ⟨k,qh2 ndP hp hu k⟩
  ·obtain ⟨c,e⟩:=qj2 (n:=s.heap.objs.size+1) k
   refine .inr ⟨.inl k,c,e,?_⟩;have q:=x.cell y c e;rw[qh3 ndP hp hu (by show scope.names.lookup y≠_;rw[k];decide)] at q;exact q
 ·exact e0.hok.fresh (Nat.le_of_lt (x.above y c (PySem.mem_of_lookup h)))
 ·unfold start
  show _=N.length
  rw[List.length_append,List.length_map,List.length_replicate];omega
theorem qn3 {CX:CXT} {P:Program} {w:World} {K:Frag} {mg:Str->Option Value} {base:Heap} {k:Nat} {f:Addr} {name qual:Str} {params:Arguments} {body:List Stmt} {scope:Scope} {dV kV doc pm cdv ct oc:Value} {an od:Option Addr}
  {osl:Array (Option Value)} {N ps:List Str} {sp:Sp} (lk:K.lookup f=some ⟨oc,od,.func (fnOf name qual params body scope dV kV doc pm an cdv ct),osl⟩) (hcd:codeIn K cdv qual=true) (S:qal N ps scope)
  (len:∀ vs H Q E,sp vs H Q E->vs.length=ps.length)
  (hbody:∀ (A:Around) (outer:List Env) (s:Shared) (H:Hp) (vs:List V) (Q:VK) (E:XK),Room k (A.deeper (envOfC qual scope s.heap.objs.size f cdv))->sp vs H Q E ->
   ∃ t,PSs (qj1 CX P w K mg base N qual scope f cdv A outer s H E) body t/\t { nx:=λ_ H'=>Q .non H',rt:=Q } (start N vs) H) :
  qff P w K mg base CX (k+1) f (fnOf name qual params body scope dV kV doc pm an cdv ct) ps sp:=by
 refine ⟨len,λA outer s H args us vs Q E hr e0 hb r hsp=>?_⟩;have hl:=len _ _ _ _ hsp;have KX:K.In s.heap:=e0.mod.kin.keeps λb o e=>(e0.bs b o e).1
 have lim:s.heap.NoLimit:=e0.mod.nolimit.keeps λb o e=>(e0.bs b o e).1
 have hkind:∀ y∈ps.zip us,scope.names.lookup y.1=some .local\/(scope.names.lookup y.1=some .cell/\((cellsFrom (s.heap.objs.size+1) scope.names []).lookup y.1).isSome=true):=fun ⟨n,v⟩ hy=>by
  rcases S.par n (List.of_mem_zip hy).1 with q|q
  ·exact .inl q
  ·exact .inr ⟨q,PySem.W.cellsFrom_some _ _ _ (.inl q)⟩
 refine codeAny_call_function hr.depth (KX _ _ lk) rfl S.co S.gen rfl (PySem.W.codeRec_of KX hcd) (hb _ _ _ _ ?_);refine wpAny_newFunctionEnv_cells S.kind hkind λenv he s1 x=>?_
 subst he;refine ⟨lim.keeps x.toInCall.keep,codeAny_func ?_⟩;obtain ⟨t,ht,hq⟩:=hbody A outer s H vs Q E (hr.deeper _) hsp;have I:Inv (qj1 CX P w K mg base N qual scope f cdv A outer s H E) [] (start N vs) H s1:=qfz S hr.hd e0 hl r x;refine wpAny_mono (ht [] s1 (start N vs) H _ I hq) (λfl s' hs=>?_) λe s' hs=>hs
 have fin:∀ {σ':St} {H':Hp} {v:V} {u:Value},Inv (qj1 CX P w K mg base N qual scope f cdv A outer s H E) [] σ' H' s'->RelV v u->Q v H'->CE outer P w H s Q u s':=
  fun {σ' H' v u} J rv q=>⟨v,H',J.os,J.bare,J.base,J.hok,rv,q⟩
 cases fl with
 | ret u =>
  obtain ⟨v,σ',H',J,rv,q⟩:=hs;exact fin J rv q
 | next =>
  obtain ⟨σ',H',J,q⟩:=hs;exact fin (v:=V.non) (u:=Value.none) J rfl q
 | brk =>
  obtain ⟨_,_,_,q⟩:=hs;exact False.elim q
 | cont =>
  obtain ⟨_,_,_,q⟩:=hs;exact False.elim q
open PySem PySem.Spec PyProof.Rows
section
variable {X:Cx} {x:Str} {p pos:Pos} {e:Expr} {es:List Expr} {t:TA} {id T:String} {r:List V->Hp->VK->Prop}
def tCB (r:List V->Hp->VK->Prop) (t:TA):TE:=λσ H Q=>t σ H λvs H1=>r vs H1 Q
theorem qan (hc:CallR X (.builtin id) r) (hg:Gl X x) (hm:X.mg x=none) (hv:bootBuiltins x=some (.builtin id)) (ha:PA X (e :: es) t) (hn:x ≠ "__name__" :=by decide) (hdb:(x == ("__debug__" : Str))=false:=by decide)
  (he:starEach (e :: es) X.env=(false,eval e X.env) :: starEach es X.env:=by rfl) (hpl:(backTo pos (starEach es X.env)).any (·.1)=false:=by rfl):PE X (.Call (.Name x p) (e :: es) [] pos) (tCB r t):=by
 intro pins s σ H Q I h;refine wpAny_Call_Name_kw (qgu I hg hm hv ?_ hn hdb);exact PyProof.Rows.callWith_builtin1 (thn (ha pos pins s σ H _ I h) λus s1 ⟨vs,H1,I1,r1,q1⟩=>hc pins s1 σ H1 vs us Q I1 r1 q1) he hpl
theorem qdo (hc:CallR X (.type T) r) (hg:Gl X x) (hm:X.mg x=none) (hv:bootBuiltins x=some (.type T)) (ha:PA X (e :: es) t) (hn:x ≠ "__name__" :=by decide) (hdb:(x == ("__debug__" : Str))=false:=by decide)
  (he:starEach (e :: es) X.env=(false,eval e X.env) :: starEach es X.env:=by rfl) (hpl:(backTo pos (starEach es X.env)).any (·.1)=false:=by rfl):PE X (.Call (.Name x p) (e :: es) [] pos) (tCB r t):=by
 intro pins s σ H Q I h;refine wpAny_Call_Name_kw (qgu I hg hm hv ?_ hn hdb);exact PyProof.Rows.callWith_type1 (thn (ha pos pins s σ H _ I h) λus s1 ⟨vs,H1,I1,r1,q1⟩=>hc pins s1 σ H1 vs us Q I1 r1 q1) he hpl
end
end L2
namespace HT
open PySem PyProof.Rows
section
open PySem.SeqAt
open PySem.AutoSeq1 (wpAny_loadPart')
open PySem.MeetsSeq PySem.MeetsSeq2 PySem.MeetsSeq3
end
section
variable {prog:Program} {w:World} {A:Around} {E:Value->Shared->Prop} {s:Shared}
def sIx (n d:Nat):Option Int->Nat
 | none=>d
 | some v=>if v<0 then (v+(n:Int)).toNat else min v.toNat n
theorem sIx_none (n d:Nat):sIx n d none=d:=rfl
theorem sIx_nat (n d k:Nat):sIx n d (some (k:Int))=min k n:=by
 show (if (k:Int)<0 then ((k:Int)+(n:Int)).toNat else min (k:Int).toNat n)=min k n
 rw[if_neg (by omega),Int.toNat_natCast]
end
end HT
namespace L2
open PySem PySem.Spec PyProof.Rows
abbrev TO:=St->Hp->(Option Int->Hp->Prop)->Prop
def PO (X:Cx) (e:Option Expr) (t:TO):Prop:=
 ∀ (pins:List (Addr×Obj)) (s:Shared) (σ:St) (H:Hp) (Q:Option Int->Hp->Prop),Inv X pins σ H s->t σ H Q ->
  wpAny (model X.prog X.w) X.A (evalPart e X.env) (λu s'=>∃ o H',Inv X pins σ H' s'/\IsPart u o/\Q o H') X.xe s
def qp5:TO:=λ_ H Q=>Q none H
inductive tPartS (x:V) (H:Hp) (Q:Option Int->Hp->Prop):Prop
 | mk (i:Int) (h:x=.int i) (k:Q (some i) H)
def qt5 (t:TE):TO:=λσ H Q=>t σ H λx H1=>tPartS x H1 Q
section
variable {X:Cx} {e:Expr} {te:TE} {lo hi:Option Expr} {tl th:TO} {pos p2:Pos}
theorem qdd:PO X none qp5:=by
 intro pins s σ H Q I h;rw[evalPart_none];exact wpAny_pure ⟨none,H,I,.none,h⟩
theorem qde (h:PE X e te):PO X (some e) (qt5 te):=by
 intro pins s σ H Q I hw;rw[evalPart_some];refine thn (h pins s σ H _ I hw) λu s1 hq__=>?_
 obtain ⟨x,H1,I1,r1,q1⟩:=hq__;obtain ⟨i,rfl,q⟩:=q1;obtain ⟨t,rfl⟩:=r1;exact ⟨some i,H1,I1,.int i t,q⟩
def SlR (X:Cx) (r:V->Option Int->Option Int->Hp->VK->Prop):Prop:=
 ∀ (pins:List (Addr×Obj)) (s:Shared) (σ:St) (H:Hp) (x:V) (v vl vu:Value) (lo hi:Option Int) (sl:Addr) (Q:VK),Inv X pins σ H s->RelV x v->s.heap.IsSliceOf sl vl vu .none->IsPart vl lo->IsPart vu hi->r x lo hi H Q ->
  ∃ T id,typeLookup (.type T) "__getitem__" = pure (some (.builtin id))/\s.TypeIs v T/\wpAny (model X.prog X.w) X.A (getItem v (.ref sl)) (EP X pins σ Q) X.xe s
def tSl (r:V->Option Int->Option Int->Hp->VK->Prop) (te:TE) (tl th:TO):TE:=λσ H Q=>te σ H λx H1=>tl σ H1 λl H2=>th σ H2 λu H3=>r x l u H3 Q
theorem qch {r:V->Option Int->Option Int->Hp->VK->Prop} (hr:SlR X r) (he:PE X e te) (hl:PO X lo tl) (hu:PO X hi th):PE X (.Subscript e (.Slice lo hi none p2) pos) (tSl r te tl th):=by
 intro pins s σ H Q I h;refine Subscript_ (thn (he pins s σ H _ I h) λv s1 hq__=>?_);obtain ⟨x,H1,I1,r1,q1⟩:=hq__;refine wpAny_Slice (thn (hl pins s1 σ H1 _ I1 q1) λvl s2 ⟨l,H2,I2,pl,q2⟩=>thn (hu pins s2 σ H2 _ I2 q2) λvu s3 hq__=>?_);obtain ⟨u,H3,I3,pu,q3⟩:=hq__;rw[evalPart_none];refine wpAny_pure ?_;have I4:Inv X pins σ H3 { s3 with heap:=s3.heap.push { cls:=.type "slice",data:=.fields #[vl,vu,.none] } }:=I3.kept (t':=s3.toks) λb ob q=>Heap.get?_push_of_some _ q
 obtain ⟨T,id,hT,ht,hg⟩:=hr pins { s3 with heap:=s3.heap.push { cls:=.type "slice",data:=.fields #[vl,vu,.none] } } σ H3 x v vl vu l u s3.heap.objs.size Q I4 r1 (Heap.IsSliceOf.new ..) pl pu q3
 show wpAny (model X.prog X.w) X.A (subscriptTail e (.Slice lo hi none p2) v (.ref s3.heap.objs.size)) (EP X pins σ Q) X.xe { s3 with heap:=s3.heap.push { cls:=.type "slice",data:=.fields #[vl,vu,.none] } }
 exact tail_any (ops:=[.ref s3.heap.objs.size,v]) ht hT hg (by with_unfolding_all rfl)
def qlv (xs:List V) (lo hi:Option Int):List V:=(xs.drop (HT.sIx xs.length 0 lo)).take (HT.sIx xs.length xs.length hi-HT.sIx xs.length 0 lo)
theorem qi7 (xs:List V) (lo hi:Option Int):(qlv xs lo hi).length<=xs.length:=by
 unfold qlv;rw[List.length_take,List.length_drop];omega
end
open PySem PySem.Spec PyProof.Rows
def ixN (n:Nat) (i:Int):Option Nat:=if 0<=i then (if i<n then some i.toNat else none) else if -(n:Int)<=i then some (i+n).toNat else none
def atI {α:Type} (xs:List α) (i:Int):Option α:=(ixN xs.length i).bind λj=>xs[j]?
theorem qp6 {n:Nat} {i:Int} {j:Nat} (h:ixN n i=some j):seqIndex? i n=some j/\j<n /\ -(n:Int)<=i/\i<n:=by
 unfold ixN at h
 by_cases h0:0<=i
 ·rw[if_pos h0] at h
  by_cases h1:i<n
  ·rw[if_pos h1] at h
   have e:i.toNat=j:=Option.some.inj h;exact ⟨by rw[seqIndex_of h0 h1,e],by omega,by omega,h1⟩
  ·rw[if_neg h1] at h;cases h
 ·rw[if_neg h0] at h
  by_cases h1:-(n:Int)<=i
  ·rw[if_pos h1] at h
   have e:(i+n).toNat=j:=Option.some.inj h;exact ⟨by rw[seqIndex_neg (by omega) h1,e],by omega,h1,by omega⟩
  ·rw[if_neg h1] at h;cases h
theorem qmh {α:Type} {xs:List α} {i:Int} {v:α} (h:atI xs i=some v):∃ j,seqIndex? i xs.length=some j/\xs[j]?=some v/\j<xs.length /\ -(xs.length:Int)<=i/\i<xs.length:=by
 unfold atI at h
 cases e:ixN xs.length i with
 | none=>rw[e] at h;cases h
 | some j =>
  rw[e] at h;obtain ⟨h1,h2,h3,h4⟩:=qp6 e;exact ⟨j,h1,h,h2,h3,h4⟩
theorem qmi {α:Type} {xs:List α} {j:Nat} {v:α} (h:xs[j]?=some v):atI xs (j:Int)=some v:=by
 have hj:j<xs.length:=(List.getElem?_eq_some_iff.mp h).1;have e:ixN xs.length (j:Int)=some j:=by
  unfold ixN;rw[if_pos (by omega),if_pos (by omega)];simp
 unfold atI;rw[e];exact h
def qp7 (b:Expr):Prop:=∀ o i,subscripted b false o i=operate [o,i] (getItem o i)
def IxR (X:Cx) (r:R2):Prop:=
 ∀ (value slice:Expr) (pins:List (Addr×Obj)) (s:Shared) (σ:St) (H:Hp) (x y:V) (v u:Value) (Q:VK),Inv X pins σ H s->RelV x v->RelV y u->r x y H Q ->
  subscripted slice false v u=operate [v,u] (getItem v u)->wpAny (model X.prog X.w) X.A (subscriptTail value slice v u) (EP X pins σ Q) X.xe s
def MtR (X:Cx) (id:String) (r:V->List V->Hp->VK->Prop):Prop:=
 ∀ (pins:List (Addr×Obj)) (s:Shared) (σ:St) (H:Hp) (x:V) (xs:List V) (v:Value) (us:List Value) (Q:VK),Inv X pins σ H s->RelV x v->Vals xs us->r x xs H Q ->
  wpAny (model X.prog X.w) X.A (call (.builtin id) (v :: us)) (EP X pins σ Q) X.xe s
section
variable {X:Cx} {a b:Expr} {ta tb:TE} {pos:Pos}
theorem qel {r:R2} (hr:IxR X r) (ha:PE X a ta) (hb:PE X b tb) (hs:qp7 b):PE X (.Subscript a b pos) (tOp r ta tb):=by
 intro pins s σ H Q I h;exact Subscript_ (qtj ha hb I h λv u s2 x y H2 I2 rx ry q=>hr a b pins s2 σ H2 x y v u Q I2 rx ry q (hs _ _))
inductive rIxLS (K:Frag) (x y:V) (H:Hp) (Q:VK):Prop
 | mk (p:Addr) (xs:List V) (i:Int) (v:V) (hx:x=.ref p) (hy:y=.int i) (hs:SqL K H p xs) (ha:atI xs i=some v) (k:Q v H)
def qvw (K:Frag):R2:=λx y H Q=>rIxLS K x y H Q
inductive rIxTS (K:Frag) (x y:V) (H:Hp) (Q:VK):Prop
 | mk (p:Addr) (xs:List V) (i:Int) (v:V) (hx:x=.ref p) (hy:y=.int i) (hs:SqT K H p xs) (ha:atI xs i=some v) (k:Q v H)
def qvx (K:Frag):R2:=λx y H Q=>rIxTS K x y H Q
theorem qf0:IxR X (qvw X.K):=by
 intro value slice pins s σ H x y v u Q I rx ry h hs;obtain ⟨p,xs,i,z,rfl,rfl,hq,he,q⟩:=h;cases rx;obtain ⟨t,rfl⟩:=ry;obtain ⟨its,r,pl,hz⟩:=I.list hq;obtain ⟨j,h1,h2,h3,h4,h5⟩:=qmh he;obtain ⟨w,ew,rw'⟩:=r.get h2;have hl:=r.length;have hn:=qj0;have fin:EP X pins σ Q w s:=⟨z,H,I,rw',q⟩
 by_cases h0:0<=i
 ·have hj:i.toNat=j:=by
   rw[seqIndex_of h0 h5] at h1;exact Option.some.inj h1
  exact item_listR pl.isList h0 (by omega) (by rw[hj];simpa using ew) fin hs
 ·have hj:(i+(its.toArray.size:Int)).toNat=j:=by
   rw[seqIndex_neg (by omega) h4] at h1;rw[List.size_toArray,<- hl];exact Option.some.inj h1
  exact subscriptTail_builtinR (x:=w) pl.isList.typeIs slot_list_getitem.lookup
   (wpAny_getItem_list_neg (Q:=λr s'=>r=w/\EP X pins σ Q r s') pl.isList (by omega) (by rw[List.size_toArray]<;>omega) (by omega) (by rw[hj];simpa using ew) ⟨rfl,fin⟩) hs
theorem qee:IxR X (qvx X.K):=by
 intro value slice pins s σ H x y v u Q I rx ry h hs;obtain ⟨p,xs,i,z,rfl,rfl,hq,he,q⟩:=h;cases rx;obtain ⟨t,rfl⟩:=ry;obtain ⟨its,r,pl,hz⟩:=I.tuple hq;obtain ⟨j,h1,h2,h3,h4,h5⟩:=qmh he;obtain ⟨w,ew,rw'⟩:=r.get h2;have hl:=r.length;have hn:=qj0;have fin:EP X pins σ Q w s:=⟨z,H,I,rw',q⟩;exact subscriptTail_builtinR (x:=w) pl.typeIs slot_tuple_getitem.lookup
  (getItem_tuple (j:=j) (Q:=λr s'=>r=w/\EP X pins σ Q r s') pl (by omega) (by omega) (by rw[List.size_toArray,<- hl];exact h1) (by simpa using ew) ⟨rfl,fin⟩) hs
theorem qh4 (lo hi:Option Int) (n:Nat):(sliceBounds lo hi none n).1=((HT.sIx n 0 lo:Nat):Int)/\(sliceBounds lo hi none n).2.1=((HT.sIx n n hi:Nat):Int)/\(sliceBounds lo hi none n).2.2=1:=by
 refine ⟨?_,?_,rfl⟩
 ·cases lo with
  | none=>simp[sliceBounds,HT.sIx]
  | some i =>
   simp only[sliceBounds,HT.sIx,Option.getD_none,show (1:Int)>0 by decide,if_true]
   by_cases h:i<0
   ·simp only[h,if_true]<;>omega
   ·simp only[h,if_false]<;>omega
 ·cases hi with
  | none=>simp[sliceBounds,HT.sIx]
  | some i =>
   simp only[sliceBounds,HT.sIx,Option.getD_none,show (1:Int)>0 by decide,if_true]
   by_cases h:i<0
   ·simp only[h,if_true]<;>omega
   ·simp only[h,if_false]<;>omega
theorem qg9 (its:List Value) (lo hi:Option Int):slicePick its.toArray lo hi none=((its.drop (HT.sIx its.length 0 lo)).take (HT.sIx its.length its.length hi-HT.sIx its.length 0 lo)).toArray:=by
 obtain ⟨h1,h2,h3⟩:=qh4 lo hi its.toArray.size;unfold slicePick;rw[h1,h2,h3];simp only[sliceRange_one,pick_run,List.size_toArray]<;>rfl
def qvy (K:Frag):V->Option Int->Option Int->Hp->VK->Prop:=λx lo hi H Q=>∃ a xs,x=.ref a/\SqL K H a xs/\∀ p,H p=none->Q (.ref p) (upd H p (.lst (qlv xs lo hi)))
theorem qp8:SlR X (qvy X.K):=by
 intro pins s σ H x v vl vu lo hi sl Q I rx hs pl pu h;obtain ⟨a,xs,rfl,hx,q⟩:=h;cases rx;obtain ⟨its,r,ht,hz⟩:=I.list hx;have hlen:=r.length;refine ⟨"list",_,slot_list_getitem.lookup,ht.isList.typeIs,?_⟩;refine wpAny_getItem_list_slice ht.isList hs pl pu .none (by simp) ?_ (by rw[List.size_toArray]<;>omega);rw[qg9,<- hlen];refine ⟨.ref s.heap.objs.size,_,I.laid (t':=s.toks) (o:=.lst (qlv xs lo hi)) (λb ob q=>Heap.get?_push_of_some _ q) (Nat.le_refl _) ?_,rfl,q _ (I.hok.fresh (Nat.le_refl _))⟩;exact ⟨Nat.le_trans (qi7 xs lo hi) hz,_,0,(r.drop (HT.sIx xs.length 0 lo)).take (HT.sIx xs.length xs.length hi-HT.sIx xs.length 0 lo),Heap.get?_push_size _ rfl⟩
def qha:V->Bool
 | .non=>true
 | .bl _=>true
 | .int _=>true
 | .str _=>true
 | _=>false
def eqV:V->V->Bool
 | .non,.non=>true
 | .bl a,.bl b=>a == b
 | .bl a,.int b=>(if a then 1 else 0) == b
 | .int a,.bl b=>a == (if b then 1 else 0)
 | .int a,.int b=>a == b
 | .str a,.str b=>a == b
 | _,_=>false
theorem qry {A:Around} {s:Shared} {y x:V} {u v:Value} (ry:RelV y u) (rx:RelV x v) (fy:qha y=true) (fx:qha x=true):SeqAt.EqAt A s u v (eqV y x):=by
 cases y with
 | non =>
  cases ry
  cases x with
  | non=>cases rx;exact SeqAt.EqAt.same _
  | bl b=>cases rx;exact SeqAt.EqAt.none_bool b
  | int b=>obtain ⟨t,rfl⟩:=rx;exact SeqAt.EqAt.none_int b t
  | str b=>obtain ⟨t,rfl⟩:=rx;exact SeqAt.EqAt.none_str b t
  | _=>exact absurd (show false=true from fx) Bool.false_ne_true
 | bl a =>
  cases ry
  cases x with
  | non=>cases rx;exact SeqAt.EqAt.bool_none a
  | bl b=>cases rx;exact SeqAt.EqAt.bool_bool a b
  | int b=>obtain ⟨t,rfl⟩:=rx;exact SeqAt.EqAt.bool_int a b t
  | str b=>obtain ⟨t,rfl⟩:=rx;exact SeqAt.EqAt.bool_str a b t
  | _=>exact absurd (show false=true from fx) Bool.false_ne_true
 | int a =>
  obtain ⟨t',rfl⟩:=ry
  cases x with
  | non=>cases rx;exact SeqAt.EqAt.int_none a t'
  | bl b=>cases rx;exact SeqAt.EqAt.int_bool a t' b
  | int b=>obtain ⟨t,rfl⟩:=rx;exact SeqAt.EqAt.int_int a t' b t
  | str b=>obtain ⟨t,rfl⟩:=rx;exact SeqAt.EqAt.int_str a t' b t
  | _=>exact absurd (show false=true from fx) Bool.false_ne_true
 | str a =>
  obtain ⟨t',rfl⟩:=ry
  cases x with
  | non=>cases rx;exact SeqAt.EqAt.str_none a t'
  | bl b=>cases rx;exact SeqAt.EqAt.str_bool a t' b
  | int b=>obtain ⟨t,rfl⟩:=rx;exact SeqAt.EqAt.str_int a t' b t
  | str b=>obtain ⟨t,rfl⟩:=rx;exact SeqAt.EqAt.str_str a t' b t
  | _=>exact absurd (show false=true from fx) Bool.false_ne_true
 | _=>exact absurd (show false=true from fy) Bool.false_ne_true
def eqU (x:V) (u:Value):Bool:=match u with
 | .none=>eqV .non x
 | .bool b=>eqV (.bl b) x
 | .int i _=>eqV (.int i) x
 | .str z _=>eqV (.str z) x
 | _=>false
theorem qpd {x y:V} {u:Value} (r:RelV y u) (f:qha y=true):eqU x u=eqV y x:=by
 cases y with
 | non=>cases r;rfl
 | bl b=>cases r;rfl
 | int i=>obtain ⟨t,rfl⟩:=r;rfl
 | str z=>obtain ⟨t,rfl⟩:=r;rfl
 | _=>exact absurd (show false=true from f) Bool.false_ne_true
theorem qf1 {x:V}:∀ {xs:List V} {us:List Value},Vals xs us->xs.all qha=true->us.any (eqU x)=xs.any λy=>eqV y x
 | _,_,.nil,_=>rfl
 | y :: xs,u :: us,.cons r t,f=>by
  rw[List.all_cons,Bool.and_eq_true] at f;rw[List.any_cons,List.any_cons,qpd r f.1,qf1 t f.2]
theorem qet {A:Around} {s:Shared} {x:V} {v:Value} (rx:RelV x v) (fx:qha x=true):∀ {xs:List V} {us:List Value},Vals xs us->xs.all qha=true->∀ u∈us,SeqAt.EqAt A s u v (eqU x u)
 | _,_,.nil,_=>λu hu=>by cases hu
 | y :: xs,u :: us,.cons r t,f=>λu' hu=>by
  rw[List.all_cons,Bool.and_eq_true] at f
  rcases List.mem_cons.mp hu with rfl|hu
  ·rw[qpd r f.1];exact qry r rx f.1 fx
  ·exact qet rx fx t f.2 u' hu
def inV (x:V) (xs:List V):Bool:=xs.any λy=>eqV y x
def rIn (K:Frag) (neg:Bool):R2:=λx y H Q=>∃ p xs,y=.ref p/\(SqL K H p xs\/SqT K H p xs)/\qha x=true/\xs.all qha=true/\Q (.bl (if neg then !inV x xs else inV x xs)) H
theorem qf2:OpR X (compareOp .In) (rIn X.K false):=by
 intro pins s σ H x y v u Q I rx ry h;obtain ⟨p,xs,rfl,hq,fx,fs,q⟩:=h;cases ry
 rcases hq with hq|hq
 ·obtain ⟨its,r,pl,hz⟩:=I.list hq
  refine SeqAt.in_listAt (eqU x) pl.isList (λw hw=>qet rx fx r fs w (by simpa using hw)) ⟨.bl _,H,I,rfl,?_⟩;rw[show its.toArray.any (eqU x)=its.any (eqU x) by simp,qf1 r fs];exact q
 ·obtain ⟨its,r,pl,hz⟩:=I.tuple hq
  refine SeqAt.in_tupleAt (eqU x) pl (λw hw=>qet rx fx r fs w (by simpa using hw)) ⟨.bl _,H,I,rfl,?_⟩;rw[show its.toArray.any (eqU x)=its.any (eqU x) by simp,qf1 r fs];exact q
theorem qfg:OpR X (compareOp .NotIn) (rIn X.K true):=by
 intro pins s σ H x y v u Q I rx ry h;obtain ⟨p,xs,rfl,hq,fx,fs,q⟩:=h;cases ry
 rcases hq with hq|hq
 ·obtain ⟨its,r,pl,hz⟩:=I.list hq
  refine SeqAt.notIn_listAt (eqU x) pl.isList (λw hw=>qet rx fx r fs w (by simpa using hw)) ⟨.bl _,H,I,rfl,?_⟩;rw[show its.toArray.any (eqU x)=its.any (eqU x) by simp,qf1 r fs];exact q
 ·obtain ⟨its,r,pl,hz⟩:=I.tuple hq
  refine SeqAt.notIn_tupleAt (eqU x) pl (λw hw=>qet rx fx r fs w (by simpa using hw)) ⟨.bl _,H,I,rfl,?_⟩;rw[show its.toArray.any (eqU x)=its.any (eqU x) by simp,qf1 r fs];exact q
theorem qa3:CallR X (.builtin "len") (λxs H Q=>∃ p ys,xs=[.ref p]/\(SqL X.K H p ys\/SqT X.K H p ys)/\Q (.int ys.length) H):=by
 intro pins s σ H xs us Q I r h;obtain ⟨p,ys,rfl,hq,q⟩:=h;obtain ⟨u,rfl,rx⟩:=vals1 r;cases rx;have hn:=qj0
 rcases hq with hq|hq
 ·obtain ⟨its,r',pl,hz⟩:=I.list hq
  have hlen:=r'.length;exact Calls.call_len_list pl.isList (by simp only[List.size_toArray]<;>omega) ⟨.int ys.length,H,I.tok _,⟨s.toks+1,by rw[List.size_toArray,hlen]⟩,q⟩
 ·obtain ⟨its,r',pl,hz⟩:=I.tuple hq
  have hlen:=r'.length;exact len_tuple pl (by simp only[List.size_toArray]<;>omega) ⟨.int ys.length,H,I.tok _,⟨s.toks+1,by rw[List.size_toArray,hlen]⟩,q⟩
theorem call_list_of:CallR X (.type "list") (λxs H Q=>∃ p ys,xs=[.ref p]/\(SqL X.K H p ys\/SqT X.K H p ys)/\∀ l,H l=none->Q (.ref l) (upd H l (.lst ys))):=by
 intro pins s σ H xs us Q I r h;obtain ⟨p,ys,rfl,hq,q⟩:=h;obtain ⟨u,rfl,rx⟩:=vals1 r;cases rx;have fin:∀ (its:List Value),Vals ys its->ys.length<=sizeLine->∀ (h':Heap) (c':Nat),(∀ b o',s.heap.get? b=some o'->h'.get? b=some o') ->
   h'.get? s.heap.objs.size=some { cls:=.type "list",dict:=none,data:=.seq its.toArray c',slots:=#[] }->EP X pins σ Q (.ref s.heap.objs.size) { s with heap:=h' }:=λits r' hz h' c' kp e =>
  ⟨.ref s.heap.objs.size,_,I.laid (t':=s.toks) kp (Nat.le_refl _) (show ObjOk X.prog X.w _ h' _ (.lst ys) from ⟨hz,its,c',r',e⟩),rfl,q _ (I.hok.fresh (Nat.le_refl _))⟩
 rcases hq with hq|hq
 ·obtain ⟨its,r',pl,hz⟩:=I.list hq
  have hlen:=r'.length;obtain ⟨o,ho,hc,n,hd⟩:=pl.isList;exact call_list_seq p (.inl rfl) ho hc hd (λh' c' kp e=>fin its r' hz h' c' kp e) (by simp only[List.size_toArray]<;>omega)
 ·obtain ⟨its,r',pl,hz⟩:=I.tuple hq
  have hlen:=r'.length;obtain ⟨o,ho,hc,n,hd⟩:=pl;exact call_list_seq p (.inr rfl) ho hc hd (λh' c' kp e=>fin its r' hz h' c' kp e) (by simp only[List.size_toArray]<;>omega)
def tyV (K:Frag) (T:String) (x:V) (H:Hp):Prop:=match x with
 | .str _=>T = "str"
 | .int _=>T = "int"
 | .ref p=>(T = "list" /\ ∃ xs,SqL K H p xs)\/(T = "tuple" /\ ∃ o,K.lookup p=some o/\o.cls=.type "tuple" /\ o.dict=none) \/
   (T = "dict" /\ ((∃ kvs,H p=some (.dK kvs))\/∃ kvs,H p=some (.dT kvs)))\/(T = "set" /\ ∃ S n,H p=some (.set S n))
 | _=>False
theorem qrz {pins:List (Addr×Obj)} {σ:St} {H:Hp} {s:Shared} {T:String} {x:V} {v:Value} (I:Inv X pins σ H s) (r:RelV x v) (ty:tyV X.K T x H) :
  s.TypeIs v T/\∀ a,v=.ref a->∃ ob,s.heap.get? a=some ob/\ob.dict=none:=by
 cases x with
 | str z =>
  obtain ⟨t,rfl⟩:=r
  cases (show T = "str" from ty)
  exact ⟨typeIs_str s z t,λ_ e=>nomatch e⟩
 | int i =>
  obtain ⟨t,rfl⟩:=r
  cases (show T = "int" from ty)
  exact ⟨typeIs_int s i t,λ_ e=>nomatch e⟩
 | ref p =>
  cases r
  rcases ty with ⟨rfl,xs,hq⟩|⟨rfl,o,hk,hc,hd⟩|⟨rfl,hk⟩|⟨rfl,S,n,hk⟩
  ·obtain ⟨its,_,pl,_⟩:=I.list hq
   refine ⟨pl.isList.typeIs,λa e=>?_⟩;cases e;obtain ⟨o,n,e,c,hd,_⟩:=pl;exact ⟨o,e,hd⟩
  ·refine ⟨⟨o,I.kIn p o hk,hc⟩,λa e=>?_⟩
   cases e;exact ⟨o,I.kIn _ o hk,hd⟩
  ·have z:∃ o,s.heap.get? p=some o/\o.ExactDict:=by
    rcases hk with ⟨kvs,hk⟩|⟨kvs,hk⟩
    ·obtain ⟨_,_,_,_,o,_,_,e,ex,_⟩:=I.hok p _ hk
     exact ⟨o,e,ex⟩
    ·obtain ⟨_,_,_,_,o,_,_,e,ex,_⟩:=I.hok p _ hk
     exact ⟨o,e,ex⟩
   obtain ⟨o,e,ex⟩:=z;refine ⟨⟨o,e,ex.1⟩,λa e2=>?_⟩;cases e2;exact ⟨o,e,ex.2.1⟩
  ·obtain ⟨o,_,_,_,e,ex,_⟩:=I.hok p _ hk
   refine ⟨⟨o,e,ex.1⟩,λa e2=>?_⟩;cases e2;exact ⟨o,e,ex.2.1⟩
 | _=>exact False.elim ty
def tBM (K:Frag) (T:String) (r:V->List V->Hp->VK->Prop) (to:TE) (t:TA):TE:=λσ H Q=>to σ H λx H1=>tyV K T x H1/\t σ H1 λxs H2=>r x xs H2 Q
variable {o e:Expr} {es:List Expr} {to:TE} {t:TA} {name:Str} {apos cpos:Pos} {T id:String} {r:V->List V->Hp->VK->Prop}
theorem qhb (pa:PlainAttrs T) (slot:Slot T name id) (hty:typeOf (.builtin id)=pure (.type "method_descriptor")) (hm:MtR X id r) (ho:PE X o to) (ha:PA X (e :: es) t)
  (hbase:attributeBase o name X.env (eval o X.env)=eval o X.env:=by rfl)
  (hfew:((backTo cpos (starEach (e :: es) X.env)).all (λx=>!x.1) && (backToKw cpos (keywordEach [] X.env)).all (λx=>x.1.isSome)
   && decide ((e :: es).length+([]:List Keyword).length+(if ([]:List Keyword).isEmpty then 0 else 1)<30))=true:=by rfl)
  (hline:(apos.endLine == cpos.line)=true:=by rfl) (hs:starEach (e :: es) X.env=(false,eval e X.env) :: starEach es X.env:=by rfl) (hplain:(backTo cpos (starEach es X.env)).any (·.1)=false:=by rfl) :
  PE X (.Call (.Attribute o name apos) (e :: es) [] cpos) (tBM X.K T r to t):=by
 intro pins s σ H Q I h;refine wpAny_Call_method_late hbase hfew hline rfl (thn (ho pins s σ H _ I h) λv s1 hq__=>?_);obtain ⟨x,H1,I1,r1,ty,q1⟩:=hq__;obtain ⟨h1,h2⟩:=qrz I1 r1 ty;refine ⟨T,id,pa,slot,hty,h1,h2,?_⟩;have hA:=ha cpos pins s1 σ H1 _ I1 q1;rw[hs] at hA ⊢;refine Calls.callWith_builtin (by show (false || (backTo cpos (starEach es X.env)).any (·.1))=false;rw[hplain]<;>rfl) (Calls.evalArgs_plain ?_);exact thn hA λus s2 ⟨vs,H2,I2,r2,q2⟩=>hm pins s2 σ H2 x vs v us Q I2 r1 r2 q2
end
open PySem PySem.Spec PyProof.Rows
def MtM (X:Cx) (id:String) (r:V->List V->Hp->VK->Prop):Prop:=
 ∀ (pins:List (Addr×Obj)) (s:Shared) (σ:St) (H:Hp) (x:V) (xs:List V) (v:Value) (us:List Value) (Q:VK),Inv X pins σ H s->RelV x v->Vals xs us->r x xs H Q ->
  wpAny (model X.prog X.w) X.A (call (.builtin id) (v :: us)) (EP X pins σ Q) X.xe s
theorem Vals.one:∀ {x:V} {us:List Value},Vals [x] us->∃ u,us=[u]/\RelV x u
 | _,_,.cons r .nil=>⟨_,rfl,r⟩
theorem Vals.reverse {xs:List V} {us:List Value} (h:Vals xs us):Vals xs.reverse us.reverse:=by
 induction h with
 | nil=>exact .nil
 | cons r t ih=>rw[List.reverse_cons,List.reverse_cons];exact Vals.append ih (.cons r .nil)
section
variable {X:Cx} {pins:List (Addr×Obj)} {σ:St} {H:Hp} {s:Shared} {l b:Addr} {xs ys zs:List V}
theorem Inv.lset {its its':List Value} {n:Nat} {f:Array Value->Array Value} {t':Nat} (I:Inv X pins σ H s) (hH:H l=some (.lst xs))
  (e:s.heap.get? l=some { cls:=.type "list",data:=.seq its.toArray n }) (hf:f its.toArray=its'.toArray) (hv:Vals ys its') (hz:ys.length<=sizeLine) :
  Inv X pins σ (upd H l (.lst ys)) { s with heap:=s.heap.update l (Obj.mapSeq f),toks:=t' }:=by
 have q:=PySem.IsL.update e f;rw[hf] at q;refine I.write (x:=l) (e:=l) (by rw[hH];exact trivial) (.inl rfl) (λb' u hb hu=>(Heap.get?_update_other s.heap (Obj.mapSeq f) (Ne.symm hb)).trans hu) ⟨_,q⟩ ?_;exact ⟨hz,its',_,hv,q⟩
theorem Inv.lnew {its:List Value} {t':Nat} (I:Inv X pins σ H s) (hv:Vals ys its) (hz:ys.length<=sizeLine) :
  Inv X pins σ (upd H s.heap.objs.size (.lst ys)) { s with heap:=s.heap.push { cls:=.type "list",data:=.seq its.toArray },toks:=t' }:=
 I.laid (λ_ _ q=>Heap.get?_push_of_some _ q) (Nat.le_refl _) ⟨hz,its,0,hv,Heap.get?_push_size _ rfl⟩
theorem Inv.fresh (I:Inv X pins σ H s):H s.heap.objs.size=none:=I.hok.fresh (Nat.le_refl _)
theorem Inv.lstM (I:Inv X pins σ H s) (hH:H l=some (.lst xs)):xs.length<=sizeLine/\∃ (its:List Value) (n:Nat),Vals xs its/\xs.length=its.length/\s.heap.get? l=some { cls:=.type "list",data:=.seq its.toArray n }:=by
 obtain ⟨z,its,n,r,e⟩:=I.hok l _ hH;exact ⟨z,its,n,r,r.length,e⟩
end
section
variable {X:Cx}
def qp9:V->List V->Hp->VK->Prop:=λx vs H Q=>∃ l xs y,x=.ref l/\vs=[y]/\H l=some (.lst xs)/\xs.length<sizeLine/\Q .non (upd H l (.lst (xs ++ [y])))
theorem mt_append:MtM X "list.append" qp9:=by
 intro pins s σ H x vs v us Q I rx rv h;obtain ⟨l,xs,y,rfl,rfl,hH,hz,q⟩:=h;cases rx;obtain ⟨u,rfl,ru⟩:=rv.one;obtain ⟨z,its,n,r,hl,e⟩:=I.lstM hH;refine call_meets F.slot_list_append ⟨_,e,rfl⟩ F.entry_list_append (F.args_list_append_2 _ _) (PySem.list_append l its.toArray n u (by rw[List.size_toArray];omega)) ⟨e,?_⟩;refine ⟨.non,_,I.lset (its':=its ++ [u]) hH e (by simp) (r.append (.cons ru .nil)) ?_,rfl,q⟩;rw[List.length_append,List.length_singleton];omega
def qvz:R2:=λx y H Q=>∃ l b xs zs,x=.ref l/\y=.ref b/\H l=some (.lst xs)/\H b=some (.lst zs)/\xs.length+zs.length<=sizeLine/\∀ p,H p=none->Q (.ref p) (upd H p (.lst (xs ++ zs)))
theorem op_cat:OpR X (binaryOp .Add) qvz:=by
 intro pins s σ H x y v u Q I rx ry h;obtain ⟨l,b,xs,zs,rfl,rfl,hH,hB,hz,q⟩:=h;cases rx;cases ry;obtain ⟨z,its,n,r,hl,e⟩:=I.lstM hH;obtain ⟨z2,its2,n2,r2,hl2,e2⟩:=I.lstM hB;refine PySem.P.add_list e e2 ?_ (by rw[List.size_toArray,List.size_toArray];omega);have ea:its.toArray ++ its2.toArray=(its ++ its2).toArray:=by simp
 rw[ea];exact ⟨.ref _,_,I.lnew (t':=s.toks) (r.append r2) (by rw[List.length_append];omega),rfl,q _ I.fresh⟩
end
section
variable {prog:Program} {w:World} {A:Around} {E:Value->Shared->Prop} {s:Shared}
end
section
variable {X:Cx}
end
open PySem PySem.Spec PyProof.Rows
section
variable {κ:Type} [DecidableEq κ]
def qi3 (kvs:List (κ×V)) (k:κ):Option V:=(kvs.find? λkv=>decide (kv.1=k)).map (·.2)
def putK (kvs:List (κ×V)) (k:κ) (v:V):List (κ×V):=
 if (kvs.any λkv=>decide (kv.1=k))=true then kvs.map (λkv=>if kv.1=k then (kv.1,v) else kv) else kvs ++ [(k,v)]
theorem qhc {p:κ×V} {r:List (κ×V)} {k:κ} (e:p.1=k):qi3 (p :: r) k=some p.2:=by simp[qi3,List.find?_cons,e]
theorem qhd {p:κ×V} {r:List (κ×V)} {k:κ} (e:¬ p.1=k):qi3 (p :: r) k=qi3 r k:=by simp[qi3,List.find?_cons,e]
theorem qj3 (k:κ):∀ kvs:List (κ×V),(kvs.any λkv=>decide (kv.1=k))=(qi3 kvs k).isSome
 | []=>rfl
 | p :: r=>by
  rw[List.any_cons]
  by_cases e:p.1=k
  ·simp only[qhc e,decide_eq_true e,Bool.true_or,Option.isSome_some]
  ·rw[qhd e,decide_eq_false e,Bool.false_or];exact qj3 k r
theorem qf3 (kvs:List (κ×V)) (k:κ) (v:V):(putK kvs k v).length<=kvs.length+1:=by
 unfold putK
 split
 ·rw[List.length_map];omega
 ·rw[List.length_append,List.length_cons,List.length_nil];omega
theorem RelO.isSome_eq {o:Option V} {u:Option Value} (r:RelO o u):o.isSome=u.isSome:=by
 cases o with
 | none=>cases u with
  | none=>rfl
  | some _=>exact (show False from r).elim
 | some _=>cases u with
  | none=>exact (show False from r).elim
  | some _=>rfl
theorem KV.val {kvs:List (κ×V)} {vs:List (κ×Value)} (r:KV kvs vs) (k:κ):RelO (qi3 kvs k) (valueAt vs k):=by
 unfold KV at r
 induction r with
 | nil=>exact True.intro
 | @cons p q ps qs h t ih =>
  obtain ⟨h1,h2⟩:=h
  by_cases e:p.1=k
  ·have e':q.1=k:=h1.symm.trans e
   have b:valueAt (q :: qs) k=some q.2:=by simp[valueAt,List.find?_cons,e']
   rw[qhc e,b];exact h2
  ·have e':¬ q.1=k:=λz=>e (h1.trans z)
   have b:valueAt (q :: qs) k=valueAt qs k:=by simp[valueAt,List.find?_cons,e']
   rw[qhd e,b];exact ih
theorem KV.any {kvs:List (κ×V)} {vs:List (κ×Value)} (r:KV kvs vs) (k:κ):(kvs.any λkv=>decide (kv.1=k))=vs.any λkv=>decide (kv.1=k):=by
 unfold KV at r
 induction r with
 | nil=>rfl
 | cons h t ih=>rw[List.any_cons,List.any_cons,ih,h.1]
theorem KV.repl {kvs:List (κ×V)} {vs:List (κ×Value)} (r:KV kvs vs) (k:κ) {y:V} {u:Value} (ry:RelV y u) :
  KV (kvs.map λkv=>if kv.1=k then (kv.1,y) else kv) (vs.map λkv=>if kv.1=k then (kv.1,u) else kv):=by
 unfold KV at r ⊢
 induction r with
 | nil=>exact .nil
 | @cons p q ps qs h t ih =>
  rw[List.map_cons,List.map_cons];refine .cons ?_ ih;obtain ⟨h1,h2⟩:=h
  by_cases e:p.1=k
  ·rw[if_pos e,if_pos (h1.symm.trans e)];exact ⟨h1,ry⟩
  ·rw[if_neg e,if_neg (λz=>e (h1.trans z))];exact ⟨h1,h2⟩
theorem KV.put {kvs:List (κ×V)} {vs:List (κ×Value)} (r:KV kvs vs) (k:κ) {y:V} {u:Value} (ry:RelV y u):KV (putK kvs k y) (stored vs k u):=by
 unfold putK stored;rw[r.any k]
 by_cases e:(vs.any λkv=>decide (kv.1=k))=true
 ·rw[if_pos e,if_pos e];exact r.repl k ry
 ·rw[if_neg e,if_neg e];exact Paired.snoc r ⟨rfl,ry⟩
theorem KV.length {kvs:List (κ×V)} {vs:List (κ×Value)} (r:KV kvs vs):kvs.length=vs.length:=Paired.length r
end
theorem qmj {P:Program} {w:World} {k:Key} {u:Value} (r:RelV (kV k) u):(qba P w).is k u=true:=by
 cases k with
 | inl i=>obtain ⟨t,e⟩:=(show ∃ t,u=Value.int i t from r);subst e;exact qi4 P w i t
 | inr x=>obtain ⟨t,e⟩:=(show ∃ t,u=Value.str x t from r);subst e;exact qi5 P w x t
theorem qh5 {P:Program} {w:World}:∀ {ks:List Key} {us:List Value},Vals (ks.map kV) us->ItemsAre (qba P w) ks us
 | [],_,r=>by rw[List.map_nil] at r;cases r;exact .nil
 | k :: ks,_,r=>by
  rw[List.map_cons] at r
  cases r with
  | cons h t=>exact .cons (qmj h) (qh5 t)
abbrev KT (H:Hp):List (List Key×V)->List (List Key×Addr×Value)->Prop:=Paired λp q=>p.1=q.1/\H q.2.1=some (.tup (p.1.map kV))/\RelV p.2 q.2.2
theorem KT.val {H:Hp} {kvs:List (List Key×V)} {xs:List (List Key×Addr×Value)} (r:KT H kvs xs) (k:List Key):RelO (qi3 kvs k) ((atKey xs k).map (·.2)):=by
 induction r with
 | nil=>exact True.intro
 | @cons p q ps qs h t ih =>
  obtain ⟨h1,_,h2⟩:=h
  by_cases e:p.1=k
  ·have e':q.1=k:=h1.symm.trans e
   have b:atKey (q :: qs) k=some q.2:=by simp[atKey,List.find?_cons,e']
   rw[qhc e,b];exact h2
  ·have e':¬ q.1=k:=λz=>e (h1.trans z)
   have b:atKey (q :: qs) k=atKey qs k:=by simp[atKey,List.find?_cons,e']
   rw[qhd e,b];exact ih
theorem KT.repl {H:Hp} {kvs:List (List Key×V)} {xs:List (List Key×Addr×Value)} (r:KT H kvs xs) (k:List Key) {y:V} {u:Value} (ry:RelV y u) :
  KT H (kvs.map λkv=>if kv.1=k then (kv.1,y) else kv) (xs.map (putAt k u)):=by
 induction r with
 | nil=>exact .nil
 | @cons p q ps qs h t ih =>
  rw[List.map_cons,List.map_cons];refine .cons ?_ ih;obtain ⟨h1,h2,h3⟩:=h;unfold putAt
  by_cases e:p.1=k
  ·rw[if_pos e,if_pos (h1.symm.trans e)];exact ⟨h1,h2,ry⟩
  ·rw[if_neg e,if_neg (λz=>e (h1.trans z))];exact ⟨h1,h2,h3⟩
theorem KT.put {H:Hp} {kvs:List (List Key×V)} {xs:List (List Key×Addr×Value)} (r:KT H kvs xs) (k:List Key) {b:Addr} {y:V} {u:Value} (hb:H b=some (.tup (k.map kV))) (ry:RelV y u) :
  KT H (putK kvs k y) (storedH xs k b u):=by
 have e:(kvs.any λkv=>decide (kv.1=k))=(atKey xs k).isSome:=by
  rw[qj3,(r.val k).isSome_eq,Option.isSome_map]
 unfold putK storedH;rw[e]
 by_cases q:(atKey xs k).isSome=true
 ·rw[if_pos q,if_pos q];exact r.repl k ry
 ·rw[if_neg q,if_neg q];exact Paired.snoc r ⟨rfl,hb,ry⟩
theorem KT.keeps {H H':Hp} {kvs:List (List Key×V)} {xs:List (List Key×Addr×Value)} (r:KT H kvs xs) (ht:∀ b ys,H b=some (.tup ys)->H' b=some (.tup ys)):KT H' kvs xs:=
 Paired.mapP r λ_ _ z=>⟨z.1,ht _ _ z.2.1,z.2.2⟩
section
variable {P:Program} {w:World} {H:Hp} {h:Heap} {a:Addr}
theorem qr0 {u:HO} (ok:HOk P w H h) (e:Rd H a u):ObjOk P w H h a u:=e.ok ok
theorem qk3 {kvs:List (Key×V)} (ok:HOk P w H h) (e:Rd H a (.dK kvs)):kvs.length<=sizeLine/\(a == sysModules)=false/\∃ vs,KV kvs vs/\h.DictOf (qba P w) a vs:=
 show ObjOk P w H h a (.dK kvs) from qr0 ok e
theorem qt6 {kvs:List (Key×V)} (ok:HOk P w H h) (e:H a=some (.dK kvs)):kvs.length<=sizeLine/\(a == sysModules)=false/\∃ vs,KV kvs vs/\h.DictOf (qba P w) a vs:=qk3 ok (.inl e)
theorem qh6 {ks:List Key} (ok:HOk P w H h) (e:H a=some (.tup (ks.map kV))):(tupleKind (qba P w)).is h ks a:=by
 obtain ⟨_,its,r,o,h1,h2,n,h3⟩:=(show ObjOk P w H h a (.tup (ks.map kV)) from ok a _ e);exact ⟨o,its.toArray,n,h1,h2,h3,by simpa using qh5 r⟩
theorem qmk {kvs:List (List Key×V)} (ok:HOk P w H h) (e:Rd H a (.dT kvs)):kvs.length<=sizeLine/\(a == sysModules)=false /\
  ∃ xs,KT H kvs xs/\h.DictOfH (tupleKind (qba P w)) a xs:=by
 obtain ⟨z,y,xs,r,o,es,ep,h1,h2,h3,h4,h5⟩:=(show ObjOk P w H h a (.dT kvs) from qr0 ok e);refine ⟨z,y,xs,r,o,es,ep,h1,h2,h3,h4,λx hx=>?_,h5⟩;have all:∀ {l:List (List Key×V)} {m:List (List Key×Addr×Value)},KT H l m->∀ x∈m,(tupleKind (qba P w)).is h x.1 x.2.1:=by
  intro l m q
  induction q with
  | nil=>intro x hx;exact nomatch hx
  | @cons p q ps qs hq t ih =>
   intro x hx
   rcases List.mem_cons.mp hx with e|hx
   ·subst e
    exact qh6 ok (by rw[<- hq.1];exact hq.2.1)
   ·exact ih x hx
 exact all r x hx
theorem qt7 {kvs:List (List Key×V)} (ok:HOk P w H h) (e:H a=some (.dT kvs)):kvs.length<=sizeLine/\(a == sysModules)=false /\
  ∃ xs,KT H kvs xs/\h.DictOfH (tupleKind (qba P w)) a xs:=qmk ok (.inl e)
end
def DGet (H:Hp) (a:Addr) (y:V) (r:Option V):Prop:=
 (∃ kvs k,Rd H a (.dK kvs)/\y=kV k/\r=qi3 kvs k)\/∃ kvs k b,Rd H a (.dT kvs)/\y=.ref b/\H b=some (.tup (k.map kV))/\r=qi3 kvs k
def DPut (H:Hp) (a:Addr) (y v:V) (H':Hp):Prop:=
 (∃ kvs k,H a=some (.dK kvs)/\y=kV k/\kvs.length<sizeLine/\H'=upd H a (.dK (putK kvs k v))) \/
 ∃ kvs k b,H a=some (.dT kvs)/\y=.ref b/\H b=some (.tup (k.map kV))/\kvs.length<sizeLine/\H'=upd H a (.dT (putK kvs k v))
theorem DGet.k {H:Hp} {a:Addr} {kvs:List (Key×V)} {k:Key} (e:H a=some (.dK kvs)):DGet H a (kV k) (qi3 kvs k):=.inl ⟨kvs,k,.inl e,rfl,rfl⟩
theorem DPut.k {H:Hp} {a:Addr} {kvs:List (Key×V)} {k:Key} {v:V} (e:H a=some (.dK kvs)) (hl:kvs.length<sizeLine):DPut H a (kV k) v (upd H a (.dK (putK kvs k v))):=.inl ⟨kvs,k,e,rfl,hl,rfl⟩
section
variable {X:Cx} {pins:List (Addr×Obj)} {σ:St} {H:Hp} {s:Shared} {a:Addr} {y v:V} {u r:Value} {o:Option V} {A:Around} {E:Value->Shared->Prop}
theorem Inv.big (I:Inv X pins σ H s):sysModules<s.heap.objs.size:=by
 have h:mainGlobals<s.heap.objs.size:=(I.mod.glob.keeps I.bk).lt;exact Nat.lt_trans (by decide) h
theorem qml {Q:Value->Shared->Prop} (hu:A.units+1<cLine) (I:Inv X pins σ H s) (g:DGet H a y (some v)) (ry:RelV y u) (h:∀ w' s',Inv X pins σ H s'->RelV v w'->Q w' s') :
  wpAny (model X.prog X.w) A (getItem (.ref a) u) Q E s:=by
 rcases g with ⟨kvs,k,e,ey,l⟩|⟨kvs,k,b,e,ey,eb,l⟩
 ·subst ey
  obtain ⟨z,hd,vs,rel,dd⟩:=qk3 I.hok e;obtain ⟨w',hw,rw'⟩:=RelO.some_of (v:=v) (o:=valueAt vs k) (by rw[l];exact rel.val k);exact wpAny_getItem_of (qmj ry) dd.mapOf hw (h w' _ (I.tok _) rw')
 ·subst ey
  cases (show u=Value.ref b from ry)
  obtain ⟨z,hd,xs,rel,dd⟩:=qmk I.hok e;obtain ⟨w',hw,rw'⟩:=RelO.some_of (v:=v) (o:=(atKey xs k).map (·.2)) (by rw[l];exact rel.val k);obtain ⟨p,hp,hp2⟩:=Option.map_eq_some_iff.mp hw;refine wpAny_getItem_heap (tupleKind_room_in1 hu) (qh6 I.hok eb) dd hp ?_;rw[hp2];exact h w' _ (I.tok _) rw'
theorem qv0 {Q:Value->Shared->Prop} (hu:A.units+1<cLine) (I:Inv X pins σ H s) (g:DGet H a y o) (ry:RelV y u) (h:∀ s',Inv X pins σ H s'->Q (.bool o.isSome) s') :
  wpAny (model X.prog X.w) A (compareOp .In u (.ref a)) Q E s:=by
 rcases g with ⟨kvs,k,e,ey,l⟩|⟨kvs,k,b,e,ey,eb,l⟩
 ·subst ey
  obtain ⟨z,hd,vs,rel,dd⟩:=qk3 I.hok e;refine wpAny_in_of (qmj ry) hd dd.mapOf ?_;rw[<- (rel.val k).isSome_eq,<- l];exact h _ (I.tok _)
 ·subst ey
  cases (show u=Value.ref b from ry)
  obtain ⟨z,hd,xs,rel,dd⟩:=qmk I.hok e;refine wpAny_in_heap (tupleKind_room_in1 hu) (qh6 I.hok eb) hd dd ?_;have q:=(rel.val k).isSome_eq;rw[Option.isSome_map] at q;rw[<- q,<- l];exact h _ (I.tok _)
theorem qqa {Q:Value->Shared->Prop} (hu:A.units+1<cLine) (I:Inv X pins σ H s) (g:DGet H a y o) (ry:RelV y u) (h:∀ s',Inv X pins σ H s'->Q (.bool (!o.isSome)) s') :
  wpAny (model X.prog X.w) A (compareOp .NotIn u (.ref a)) Q E s:=by
 rcases g with ⟨kvs,k,e,ey,l⟩|⟨kvs,k,b,e,ey,eb,l⟩
 ·subst ey
  obtain ⟨z,hd,vs,rel,dd⟩:=qk3 I.hok e;refine wpAny_notIn_of (qmj ry) hd dd.mapOf ?_;rw[<- (rel.val k).isSome_eq,<- l];exact h _ (I.tok _)
 ·subst ey
  cases (show u=Value.ref b from ry)
  obtain ⟨z,hd,xs,rel,dd⟩:=qmk I.hok e;refine wpAny_notIn_heap (tupleKind_room_in1 hu) (qh6 I.hok eb) hd dd ?_;have q:=(rel.val k).isSome_eq;rw[Option.isSome_map] at q;rw[<- q,<- l];exact h _ (I.tok _)
theorem qmm {h':Heap} {t':Nat} {ob:HO} (I:Inv X pins σ H s) (mu:Mut (H a)) (hs:Heap.SameBut a s.heap h') (he:∃ q,h'.get? a=some q) (new:ObjOk X.prog X.w (upd H a ob) h' a ob) :
  Inv X pins σ (upd H a ob) { s with heap:=h',toks:=t' }:=
 I.write (x:=a) (e:=a) mu (.inl rfl) (λb q hb z=>(hs.2 b hb).trans z) he new
theorem qr1 {P:Program} {w:World} {H':Hp} {h':Heap} {kvs:List (Key×V)} {vs:List (Key×Value)} (z:kvs.length<=sizeLine) (hd:(a == sysModules)=false) (rel:KV kvs vs) (dd:h'.DictOf (qba P w) a vs) :
  ObjOk P w H' h' a (.dK kvs):=⟨z,hd,vs,rel,dd⟩
theorem qmn {H':Hp} {Q:Unit->Shared->Prop} (hu:A.units+1<cLine) (I:Inv X pins σ H s) (g:DPut H a y v H') (ry:RelV y u) (rv:RelV v r) (h:∀ s',Inv X pins σ H' s'->Q () s') :
  wpAny (model X.prog X.w) A (setItem (.ref a) u r) Q E s:=by
 rcases g with ⟨kvs,k,e,ey,l,eH⟩|⟨kvs,k,b,e,ey,eb,l,eH⟩
 ·subst ey eH
  obtain ⟨z,hd,vs,rel,dd⟩:=qt6 I.hok e;have hz:vs.length<=sizeLine:=by rw[<- rel.length];exact z
  have hl:(putK kvs k v).length<=sizeLine:=by have:=qf3 kvs k v;omega
  refine wpAny_setItem_pairs (hsz:=hz) (qmj ry) dd λh' dd' hs=>h _ ?_
  have he:∃ q,h'.get? a=some q:=let ⟨q,_,_,hq,_⟩:=dd';⟨q,hq⟩
  exact qmm I (by rw[e];exact True.intro) hs he (qr1 hl hd (rel.put k rv) dd')
 ·subst ey eH
  cases (show u=Value.ref b from ry)
  obtain ⟨z,hd,xs,rel,dd⟩:=qt7 I.hok e;have hz:xs.length<=sizeLine:=by rw[<- Paired.length rel];exact z
  have hl:(putK kvs k v).length<=sizeLine:=by have:=qf3 kvs k v;omega
  refine wpAny_setItem_heap (hsz:=hz) (tupleKind_room_in1 hu) (qh6 I.hok eb) dd λh' dd' hs=>h _ ?_
  obtain ⟨q,es,ep,hq,h2,h3,h4,_,h5⟩:=dd';refine qmm I (by rw[e];exact True.intro) hs ⟨q,hq⟩ ⟨hl,hd,_,(rel.put k eb rv).keeps λc ys ec=>?_,q,es,ep,hq,h2,h3,h4,h5⟩;rw[qam (qa6 ec e (λz=>nomatch z))];exact ec
end
section
variable {X:Cx} {pins:List (Addr×Obj)} {σ:St} {H:Hp} {s:Shared} {a:Addr} {kvs:List (Key×V)} {k:Key} {u:Value} {A:Around} {E:Value->Shared->Prop}
end
def qvb (i:Expr):Prop:=∀ ov iv,subscripted i false ov iv=operate [ov,iv] (getItem ov iv)
theorem qqb {prog:Program} {w:World} {A:Around} {E:Value->Shared->Prop} {s:Shared} {env:Env} {value slice:Expr} {pos:Pos} {T id:String} {Q:Value->Shared->Prop}
  (hl:typeLookup (.type T) "__getitem__" = pure (some (.builtin id))) (hs:qvb slice)
  (h:wpAny (model prog w) A (eval value env) (λo s₁=>wpAny (model prog w) A (eval slice env) (λi s₂=>s₂.TypeIs o T/\wpAny (model prog w) A (getItem o i) Q E s₂) E s₁) E s) :
  wpAny (model prog w) A (eval (.Subscript value slice pos) env) Q E s:=by
 refine Subscript_ (wpAny_mono h (λo s₁ h₁=>wpAny_mono h₁ (λi s₂ h₂=>?_) λ_ _ x=>x) λ_ _ x=>x);obtain ⟨hT,h₂⟩:=h₂;unfold subscriptTail;refine wpAny_bind ?_;rw[getitemInPython_of_ne hT.not_modules];refine wpAny_bind (wpAny_specialOf hT hl ?_);have fin:wpAny (model prog w) A (subscripted slice false o i) (λr s₃=>wpAny (model prog w) A (letTemporaryGo value o r >>= λ_=>pure r) Q E s₃) E s₂:=by
  rw[hs o i];exact wpAny_operating (wpAny_mono h₂ (λr s₃ h₃=>wpAny_bind (wpAny_letTemporaryGo (wpAny_pure h₃))) λ_ _ x=>x)
 first
  | exact wpAny_pure (wpAny_bind fin)
  | exact wpAny_bind (wpAny_pure (wpAny_bind fin))
  | exact wpAny_bind fin
theorem qi8 {X:Cx} {pins:List (Addr×Obj)} {σ:St} {H:Hp} {s:Shared} {a:Addr} {y:V} {o:Option V} (I:Inv X pins σ H s) (g:DGet H a y o):s.TypeIs (.ref a) "dict" :=by
 rcases g with ⟨kvs,k,e,_,_⟩|⟨kvs,k,b,e,_,_,_⟩
 ·obtain ⟨_,_,vs,_,dd⟩:=qk3 I.hok e
  exact dd.typeIs
 ·obtain ⟨_,_,xs,_,dd⟩:=qmk I.hok e
  exact dd.typeIs
def qt8 (td ty:TE):TE:=λσ H Q=>td σ H λx H1=>ty σ H1 λy H2=>∃ a v,x=.ref a/\DGet H2 a y (some v)/\Q v H2
def qv1 (ty td:TE):TE:=λσ H Q=>ty σ H λy H1=>td σ H1 λx H2=>∃ a o,x=.ref a/\DGet H2 a y o/\Q (.bl o.isSome) H2
def qqc (ty td:TE):TE:=λσ H Q=>ty σ H λy H1=>td σ H1 λx H2=>∃ a o,x=.ref a/\DGet H2 a y o/\Q (.bl (!o.isSome)) H2
def qt9 (td ty tv:TE):TS:=λD σ H=>tv σ H λv H1=>td σ H1 λx H2=>ty σ H2 λy H3=>∃ a H4,x=.ref a/\DPut H3 a y v H4/\D.nx σ H4
section
variable {X:Cx} {o i e value:Expr} {pos pos' tpos:Pos} {td ty tv:TE}
theorem qhe (hu:X.A.units+1<cLine) (ho:PE X o td) (hi:PE X i ty) (hs:qvb i):PE X (.Subscript o i pos) (qt8 td ty):=by
 intro pins s σ H Q I h;refine qqb PySem.F.slot_dict_getitem.lookup hs (thn (ho pins s σ H _ I h) λu s1 ⟨x,H1,I1,rx,q1⟩=>thn (hi pins s1 σ H1 _ I1 q1) λiv s2 hq__=>?_);obtain ⟨y,H2,I2,ry,a,v,ex,g,q2⟩:=hq__;subst ex;obtain rfl:u=Value.ref a:=rx;exact ⟨qi8 I2 g,qml hu I2 g ry λw' s3 I3 rw'=>⟨v,H2,I3,rw',q2⟩⟩
theorem qr2 (hu:X.A.units+1<cLine) (hi:PE X i ty) (ho:PE X o td):PC X .In i o (qv1 ty td):=by
 intro pins s σ H Q I h;refine thn (hi pins s σ H _ I h) λiv s1 ⟨y,H1,I1,ry,q1⟩=>thn (ho pins s1 σ H1 _ I1 q1) λu s2 hq__=>?_
 obtain ⟨x,H2,I2,rx,a,ov,ex,g,q2⟩:=hq__;subst ex;obtain rfl:u=Value.ref a:=rx;exact qv0 hu I2 g ry λs3 I3=>⟨.bl ov.isSome,H2,I3,rfl,q2⟩
theorem qh7 (hu:X.A.units+1<cLine) (hi:PE X i ty) (ho:PE X o td):PC X .NotIn i o (qqc ty td):=by
 intro pins s σ H Q I h;refine thn (hi pins s σ H _ I h) λiv s1 ⟨y,H1,I1,ry,q1⟩=>thn (ho pins s1 σ H1 _ I1 q1) λu s2 hq__=>?_
 obtain ⟨x,H2,I2,rx,a,ov,ex,g,q2⟩:=hq__;subst ex;obtain rfl:u=Value.ref a:=rx;exact qqa hu I2 g ry λs3 I3=>⟨.bl (!ov.isSome),H2,I3,rfl,q2⟩
theorem qi9 (hu:X.A.units+1<cLine) (ho:PE X o td) (hi:PE X i ty) (hv:PE X value tv) (hs:swapsWith value (some (.Subscript o i pos')) pos.line X.env=pure false) :
  PS X (.Assign [.Subscript o i pos'] value pos) (qt9 td ty tv):=by
 intro pins s σ H D I h;refine wpAny_Assign_Subscript (thn (hv pins s σ H _ I h) λr s1 ⟨v,H1,I1,rv,q1⟩=>thn (ho pins s1 σ H1 _ I1 q1) λu s2 ⟨x,H2,I2,rx,q2⟩=>thn (hi pins s2 σ H2 _ I2 q2) λiv s3 hq__=>?_) hs;obtain ⟨y,H3,I3,ry,a,H4,ex,g,q3⟩:=hq__;subst ex;obtain rfl:u=Value.ref a:=rx;exact qmn hu I3 g ry rv λs4 I4=>⟨σ,H4,I4,q3⟩
end
theorem qn4 {P:Program} {w:World} {H:Hp} (h:Heap) (hb:sysModules<h.objs.size):ObjOk P w H (h.push { cls:=.type "dict",data:=.dict #[] }) h.objs.size (.dK []):=
 ⟨Nat.zero_le _,beq_eq_false_iff_ne.mpr (Ne.symm (Nat.ne_of_lt hb)),[],.nil,Heap.DictOf.new h⟩
theorem qn5 {P:Program} {w:World} {H:Hp} (h:Heap) (hb:sysModules<h.objs.size):ObjOk P w H (h.push { cls:=.type "dict",data:=.dict #[] }) h.objs.size (.dT []):=
 ⟨Nat.zero_le _,beq_eq_false_iff_ne.mpr (Ne.symm (Nat.ne_of_lt hb)),[],.nil,_,#[],0,Heap.get?_push_size _ rfl,⟨rfl,rfl,rfl⟩,rfl,rfl,List.nodup_nil⟩
def qr3:TE:=λ_ H Q=>∀ p,H p=none->Q (.ref p) (upd H p (.dK []))
def qr4:TE:=λ_ H Q=>∀ p,H p=none->Q (.ref p) (upd H p (.dT []))
section
variable {X:Cx} {pos:Pos}
theorem qn6:PE X (.Dict [] [] pos) qr3:=λpins s σ H Q I h =>
 wpAny_Dict_empty ⟨.ref s.heap.objs.size,_,I.laid (a:=s.heap.objs.size) (o:=.dK []) (t':=s.toks) (λ_ _ q=>Heap.get?_push_of_some _ q) (Nat.le_refl _) (qn4 s.heap I.big),rfl,h _ (I.hok.fresh (Nat.le_refl _))⟩
theorem qn7:PE X (.Dict [] [] pos) qr4:=λpins s σ H Q I h =>
 wpAny_Dict_empty ⟨.ref s.heap.objs.size,_,I.laid (a:=s.heap.objs.size) (o:=.dT []) (t':=s.toks) (λ_ _ q=>Heap.get?_push_of_some _ q) (Nat.le_refl _) (qn5 s.heap I.big),rfl,h _ (I.hok.fresh (Nat.le_refl _))⟩
end
section
variable {X:Cx} {pins:List (Addr×Obj)} {σ:St} {H:Hp} {s:Shared} {a:Addr} {y d:V} {u r:Value} {o:Option V} {A:Around} {E:Value->Shared->Prop}
end
section
variable {X:Cx} {o e f:Expr} {apos cpos:Pos} {td ty tx:TE}
end
section
variable {X:Cx} {pins:List (Addr×Obj)} {σ:St} {H:Hp} {s:Shared} {a:Addr} {kvs:List (Key×V)} {A:Around} {E:Value->Shared->Prop}
end
section
variable {X:Cx} {pins:List (Addr×Obj)} {σ:St} {H:Hp} {s:Shared} {a:Addr} {y:V} {u:Value} {A:Around} {E:Value->Shared->Prop}
end
end L2
namespace Att
open PySem PySem.W PySem.Calls PyProof.Rows
theorem qf4 {P:Params} {h:Heap}:∀ (ns:List Int) (vs:List Value),WellAll P h vs (ns.map WData.int)->IntsAre vs ns:=by
 intro ns
 induction ns with
 | nil =>
  intro vs w;rw[List.map_nil] at w;cases w;exact .nil
 | cons n ns ih =>
  intro vs w;rw[List.map_cons] at w
  cases w with
  | cons a b =>
   cases a;exact .cons _ _ (ih _ b)
theorem qmo {l:OpenLaw} {n:Nat} (hn:l.most=some n) {P:Params} {h:Heap} {args:List WData} {qtm:List Value}
  (hpre:l.row.toRowW.claim.pre args=true) (hwl:WellAll P h qtm args) :
  ∃ a vs ns,qtm=[Value.ref a]/\args=[WData.list (ns.map WData.int)]/\h.get? a=some { cls:=.type "list",data:=.seq vs.toArray }/\IntsAre vs ns/\ns.length<=n:=by
 have hsh:WShape.hasAll [] args [.list .int]=true:=(pre_splitW hpre).1;have hc:l.pre.holds [] { args:=args }=true:=(pre_splitW hpre).2;obtain ⟨d,r,rfl,h1,h2⟩:=hasAllW_cons hsh;obtain rfl:=hasAllW_nil h2;obtain ⟨xs,rfl,h3⟩:=hasW_list h1;obtain ⟨ns,rfl⟩:=items_int h3;have hlen:ns.length<=n:=by
  unfold OpenLaw.pre at hc;have h4:(WTm.not (.lt (.lit (.int (n:Int))) (.len (.arg 0)))).holds [] { args:=[.list (ns.map .int)] }=true:=by
   have h4:=(holds_andW hc).1;rw[hn] at h4;exact h4
  have h5:=condW_of h4 (w_not (w_lt w_lit (w_len_list (w_arg rfl))));rw[List.length_map] at h5;refine Nat.le_of_not_lt λq=>?_
  have q':(n:Int)<((ns.length:Nat):Int):=by omega
  first
   | (rw[decide_eq_true q'] at h5;exact absurd h5 (by decide))
   | (simp at h5;omega)
 cases hwl with
 | cons w1 w2 =>
  cases w2
  cases w1 with
  | list ho hall=>exact ⟨_,_,ns,rfl,rfl,ho,qf4 ns _ hall,hlen⟩
theorem qmp (l:OpenLaw) (args:List WData):l.row.toRowW.claim.post args (.bool true) args=true:=
 postW_of (r:=l.row.toRowW) (X:=(true == true))
  (show WShape.has [] (.bool true) .bool=true by first|rfl|decide|simp[WShape.has,WShape.arms,WShape.armsAll])
  (show (WTm.eq .res (.lit (.bool true))).value [] { args:=args,res:=some (.bool true),after:=args }=some (.bool (true == true)) from w_eq_bool (w_res rfl) w_lit) rfl
theorem attach_call {l:OpenLaw} {n:Nat} {q:Program} {loose:List Str} {XP:(Str->Option Value)->Heap->Prop} {YP:World->Heap->Prop} {d:DefRec}
  (hn:l.most=some n) (hdf:d.params.defaults=[])
  (call:∀ (w:World) (s₀ s₁:Shared) (mg mb:Str->Option Value) (fa:Addr) (o:Obj) (pm cd doc:Value) (a:Addr) (vs:List Value) (ns:List Int),
   Ground q loose [] XP w s₀ mg mb s₁.heap->YP w s₁.heap ->
   s₁.heap.get? fa=some o->o.data=.func (docDef d.name d.params d.body d.scope pm cd doc)->s₁.heap.CodeRec cd d.name->mg d.name=some (.ref fa) ->
   s₁.heap.get? a=some { cls:=.type "list",data:=.seq vs.toArray }->IntsAre vs ns->ns.length<=n->s₁.gens = #[] ->
   codeAny (model l.prog w) callerA (.call (.ref fa) ⟨[.ref a],[]⟩) (λr s'=>r=.ok (.ret (.bool true))/\OldK s₁.heap s'.heap/\s'.os=s₁.os/\AllBare s'.gens) s₁) :
  WalkO q loose XP YP l.row.toRowW d [] (λf vs=>PySem.call f vs):=by
 intro w s₀ s₁ mg mb G Y fa o pm cd doc dV kV ho hd hcd hD hmg hg args qtm as hpre hlay hrd hwl hlo;obtain rfl:dV=.none:=Dflts.none hD hdf;obtain rfl:kV=.none:=Dflts.noKw hD;obtain ⟨a,vs,ns,rfl,rfl,hobj,hints,hlen⟩:=qmo hn hpre hwl;refine enter_call (codeAny_mono (call w s₀ s₁ mg mb fa o pm cd doc a vs ns G Y ho (fd_plain hd) hcd hmg hobj hints hlen hg) λr s' hq=>?_);obtain ⟨rfl,h2,h3,h4⟩:=hq;exact ⟨.inl ⟨.bool true,.bool true,[],rfl,λ_=>rfl,.bool true,qmp l _,λ_=>⟨List.Pairwise.nil,λ_ hm=>(nomatch hm)⟩⟩,h2,h3,h4⟩
section
variable {prog:Program} {w:World} {A:Around} {E:Value->Shared->Prop} {s:Shared} {K:Frag}
def ledger (h:Heap) (L d:Addr):List (Addr×Obj):=(List.range h.objs.size).filterMap λa=>if a=L\/a=d then none else (h.get? a).map λo=>(a,o)
end
end Att
namespace L2
open PySem PySem.Spec PyProof.Rows
theorem qf5:∀ {vs:List Value} {ns:List Int},IntsAre vs ns->Vals (ns.map V.int) vs
 | _,_,.nil=>.nil
 | _,_,.cons n t h=>.cons ⟨t,rfl⟩ (qf5 h)
def qua (H:Hp):Prop:=∀ b,H b=none\/∃ o xs,H b=some (.frz o (.lst xs))
theorem qn8 {P:Program} {w:World} {K:Frag} {mg mb:Str->Option Value} {CX:CXT} {k:Nat} {fa a:Addr} {fd:FuncData} {x:Str} {sp:Sp} {s₁:Shared} {vs:List Value} {ns:List Int}
  (KX:K.In s₁.heap) (hns:s₁.heap.Ns mainGlobals mg) (hb:s₁.heap.Ns builtinsNs mb) (hbb:∀ x:Str,x ≠ "__name__" -> mb x=bootBuiltins x) (hlim:s₁.heap.NoLimit) (hnd:s₁.heap.NoDigits) (hbm:∃ bm ob,mg "__builtins__" = some (.ref bm)/\bm≠builtinsNs/\s₁.heap.get? bm=some ob/\ob.cls=.type "module" /\ ob.dict=some builtinsNs/\ob.data=.plain) (hg:s₁.gens = #[])
  (ha:s₁.heap.get? a=some { cls:=.type "list",data:=.seq vs.toArray }) (hi:IntsAre vs ns) (hl:ns.length<=sizeLine) (hr:Room k callerA)
  (F:∀ base:Heap,K.In base->base.Ns mainGlobals mg->qff P w K mg base CX k fa fd [x] sp) (hbind:∀ (s:Shared) (u:Value),BindsTo s fd ⟨[u],[]⟩ [(x,u)])
  (hsp:∀ H:Hp,qua H->SqL K H a (ns.map V.int)->sp [.ref a] H (λv _=>v=.bl true) λ_ _ _=>False)
  (hCX:∀ H e s',CX [] H s₁ (λ_ _ _=>False) e s'->False) :
  codeAny (model P w) callerA (.call (.ref fa) ⟨[.ref a],[]⟩) (λr s'=>r=.ok (.ret (.bool true))/\OldK s₁.heap s'.heap/\s'.os=s₁.os/\AllBare s'.gens) s₁:=by
 have rv:=qf5 hi;have lenV:=hi.length;have core:∀ H:Hp,qua H->SqL K H a (ns.map V.int)->HOk P w H s₁.heap->(∀ b,H b≠none->b=a)->(H a≠none->K.lookup a=none) ->
   codeAny (model P w) callerA (.call (.ref fa) ⟨[.ref a],[]⟩) (λr s'=>r=.ok (.ret (.bool true))/\OldK s₁.heap s'.heap/\s'.os=s₁.os/\AllBare s'.gens) s₁:=by
  intro H hO hS hok hA hK;have base_of:∀ {b:Addr} {o:Obj},s₁.heap.get? b=some o->H b=none->(qjv s₁.heap H).get? b=some o:=λe n=>qjw e n
  have noA:∀ {b:Addr} {o:Obj} {es:Array DictEntry} {ep:Nat},s₁.heap.get? b=some o->o.data=.dict es ep->H b=none:=fun {b o es ep} e d=>by
   cases q:H b with
   | none=>rfl
   | some u =>
    have e':b=a:=hA b (by rw[q];simp);subst e';rw[ha] at e;cases e;have d':Data.seq vs.toArray _=Data.dict es ep:=d
    cases d'
  have nsK:∀ {b:Addr} {m:Str->Option Value},s₁.heap.Ns b m->(qjv s₁.heap H).Ns b m:=fun {b m} ⟨o,es,ep,e,d,r⟩=>⟨o,es,ep,base_of e (noA e d),d,r⟩
  have hKb:K.In (qjv s₁.heap H):=λb o e=>base_of (KX b o e) (by
   cases q:H b with
   | none=>rfl
   | some u =>
    have e':b=a:=hA b (by rw[q];simp);subst e';rw[hK (by rw[q];simp)] at e;cases e)
  have hM:Mod K mg (qjv s₁.heap H):=⟨hKb,nsK hns,⟨mb,nsK hb,hbb⟩,let ⟨mc,h1,h2⟩:=hlim;⟨mc,nsK h1,h2⟩,let ⟨mc,h1,h2⟩:=hnd;⟨mc,nsK h1,h2⟩,let ⟨bm,ob,h1,h2,h3,h4,h5⟩:=hbm;⟨bm,ob,h1,h2,base_of h3 (by cases q:H bm with|none=>rfl|some u=>(have e2:=hA bm (by rw[q];simp);subst e2;rw[ha] at h3;cases h3;exact absurd (Value.type.inj (show Value.type "list" = Value.type "module" from h4)) (by decide))),h4,h5⟩⟩;have e0:Env0 P w K mg (qjv s₁.heap H) callerA [] s₁ H:=⟨rfl,hM,λb o e=>qlz e,Nat.le_of_eq (qhv _ _),trivial,λb hb=>absurd (show b∈([]:List Addr) from hb) (by simp),hok,.of_eq hg⟩;refine codeAny_mono ((F _ hKb (nsK hns)).run callerA [] s₁ H ⟨[.ref a],[]⟩ [.ref a] [.ref a] _ _ hr e0 (hbind s₁ (.ref a)) (.cons rfl .nil) (hsp H hO hS)) λr s' h=>?_
  cases r with
  | error e=>exact (hCX H e s' h).elim
  | ok fl =>
   cases fl with
   | next=>exact False.elim h
   | brk=>exact False.elim h
   | cont=>exact False.elim h
   | ret u =>
    obtain ⟨v,H',os,bare,un,hok',r',q⟩:=h;have q':v=.bl true:=q;subst q';obtain rfl:u=Value.bool true:=r';refine ⟨rfl,OldK.of_keep λb o e=>?_,os,bare⟩
    cases q:H b with
    | none=>exact un.keep b o e q (by intro z;exact absurd (show b∈([]:List Addr) from z) (by simp)) (by simp)
    | some u =>
     rcases hO b with z|⟨ob,xs,z⟩
     ·rw[q] at z;cases z
     ·have z2:=un.frzs b ob _ z
      obtain ⟨e1,_⟩:=hok b _ z;obtain ⟨e2,_⟩:=hok' b _ z2;rw[e] at e1;cases e1;exact e2
 cases hk:K.lookup a with
 | some o =>
  have e:=KX a o hk;rw[ha] at e;cases e;refine core (λ_=>none) (λ_=>.inl rfl) (.inr ⟨_,vs.toArray,_,hk,rfl,rfl,rfl,by rw[List.size_toArray,lenV];exact hl,by simpa using rv⟩) (λb u z=>by have z':(none:Option HO)=some u:=z;cases z') (λb z=>absurd rfl z) λz=>absurd rfl z
 | none =>
  refine core (λb=>if b=a then some (.frz { cls:=.type "list",data:=.seq vs.toArray } (.lst (ns.map V.int))) else none) (λb=>?_) (.inl (.inr ⟨{ cls:=.type "list",data:=.seq vs.toArray },if_pos rfl⟩)) (λb u z=>?_) (λb z=>?_) λ_=>hk
  ·by_cases hb:b=a
   ·exact .inr ⟨_,_,if_pos hb⟩
   ·exact .inl (if_neg hb)
  ·by_cases hb:b=a
   ·have z':=(if_pos hb).symm.trans z
    cases z'
    subst hb;exact ⟨ha,by rw[List.length_map];exact hl,vs,_,rv,ha⟩
   ·have z':=(if_neg hb).symm.trans z
    cases z'
  ·by_cases hb:b=a
   ·exact hb
   ·exact absurd (if_neg hb) z
open PySem PySem.Spec PyProof.Rows
abbrev KOf {K:Frag} {h:Heap} (_:K.In h):Frag:=K
theorem qub {l:PySem.W.OpenLaw} {n k:Nat} {q:Program} {loose:List Str} {XP:(Str->Option Value)->Heap->Prop} {YP:World->Heap->Prop} {d:DefRec} {K:Params->Frag} {CX:World->CXT} {sp:World->Sp} {x:Str}
  (hn:l.most=some n) (hn2:n<=sizeLine) (hdf:d.params.defaults=[]) (hr:Room k callerA)
  (hY:∀ (w:World) (h:Heap),YP w h->(K w.params).In h)
  (F:∀ (w:World) (mg:Str->Option Value) (fa:Addr) (h:Heap),(K w.params).In h->h.Ns mainGlobals mg->mg d.name=some (.ref fa) ->
   ∃ fd:FuncData,(∀ (s:Shared) (u:Value),BindsTo s fd ⟨[u],[]⟩ [(x,u)]) /\
    ∀ base:Heap,(K w.params).In base->base.Ns mainGlobals mg->qff l.prog w (K w.params) mg base (CX w) k fa fd [x] (sp w))
  (hsp:∀ (w:World) (H:Hp) (a:Addr) (ns:List Int),ns.length<=n->qua H->SqL (K w.params) H a (ns.map V.int)->sp w [.ref a] H (λv _=>v=.bl true) λ_ _ _=>False)
  (hCX:∀ (w:World) (H:Hp) (s:Shared) (e:Value) (s':Shared),CX w [] H s (λ_ _ _=>False) e s'->False) :
  PySem.W.WalkO q loose XP YP l.row.toRowW d [] (λf vs=>PySem.call f vs):=by
 refine Att.attach_call hn hdf λw s₀ s₁ mg mb fa o pm cd doc a vs ns G Y ho hd hcd hmg hobj hints hlen hg=>?_
 have KX:=hY w _ Y;obtain ⟨fd,hb,hF⟩:=F w mg fa _ KX G.T.g hmg;exact qn8 KX G.T.g G.T.b G.T.builtins G.T.nolimit G.T.nodigits G.T.bmain hg hobj hints (Nat.le_trans hlen hn2) hr hF hb (λH hO hS=>hsp w H a ns hlen hO hS) λH e s'=>hCX w H s₁ e s'
open PySem PySem.Spec PyProof.Rows
def inClass (s:Stmt) (j:Nat):Stmt:=match s with
 | .ClassDef _ _ _ body _ _ _ _ _ _ _=>body.getD j (.Pass ⟨0,0,0,0⟩)
 | _=>.Pass ⟨0,0,0,0⟩
def qag (s:Stmt):Arguments:=match s with
 | .FunctionDef _ a _ _ _ _ _ _ _ _=>a
 | _=>{ posonlyargs:=[],args:=[],vararg:=none,kwonlyargs:=[],kw_defaults:=[],kwarg:=none,defaults:=[] }
def qae (s:Stmt):List Stmt:=match s with
 | .FunctionDef _ _ b _ _ _ _ _ _ _=>b
 | _=>[]
def qab (s:Stmt):Scope:=match s with
 | .FunctionDef _ _ _ _ _ _ sc _ _ _=>sc
 | _=>{ kind:=.function,names:=[],isGenerator:=false,isCoroutine:=false }
abbrev CX0:CXT:=λ_ _ _ _ _ _=>False
abbrev E0:XK:=λ_ _ _=>False
theorem qn9 {X:Cx}:qfy CX0 X E0:=λ_ _ _ _ _ _ _ h=>h.elim
structure Fun (K:Frag) (x qual:Str) (st:Stmt) (f:Addr) (fd:FuncData):Prop where
 ex:∃ (oc:Value) (od:Option Addr) (kV doc pm:Value) (an:Option Addr) (cdv ct:Value) (osl:Array (Option Value)),
  fd=fnOf x qual (qag st) (qae st) (qab st) .none kV doc pm an cdv ct/\K.lookup f=some ⟨oc,od,.func fd,osl⟩/\codeIn K cdv qual=true
 kp:keepIn K (.ref f)=true
section
variable {P:Program} {w:World} {K:Frag} {mg:Str->Option Value} {base:Heap}
theorem Fun.ok {x qual:Str} {st:Stmt} {f:Addr} {fd:FuncData} {N ps:List Str} {k:Nat} {sp:Sp} (F:Fun K x qual st f fd) (S:qal N ps (qab st)) (len:∀ vs H Q E,sp vs H Q E->vs.length=ps.length)
  (hbody:∀ (cdv:Value) (A:Around) (outer:List Env) (s:Shared) (H:Hp) (vs:List V) (Q:VK) (E:XK),Room k (A.deeper (envOfC qual (qab st) s.heap.objs.size f cdv))->sp vs H Q E ->
   ∃ t,PSs (qj1 CX0 P w K mg base N qual (qab st) f cdv A outer s H E).nox (qae st) t/\t { nx:=λ_ H'=>Q .non H',rt:=Q } (start N vs) H):qff P w K mg base CX0 (k+1) f fd ps sp:=by
 obtain ⟨oc,od,kV,doc,pm,an,cdv,ct,osl,rfl,lk,hcd⟩:=F.ex;refine qn3 lk hcd S len λA outer s H vs Q E hr hsp=>?_
 obtain ⟨t,h,q⟩:=hbody cdv A outer s H vs Q E hr hsp;exact ⟨t,h.nox,q⟩
theorem Fun.binds {x qual:Str} {st:Stmt} {f:Addr} {fd:FuncData} {ps:List Str} (F:Fun K x qual st f fd)
  (h:∀ (kV doc pm:Value) (an:Option Addr) (cdv ct:Value) (us:List Value),us.length=ps.length->bindArgs (fnOf x qual (qag st) (qae st) (qab st) .none kV doc pm an cdv ct) ⟨us,[]⟩=pure (ps.zip us)):Binds K fd ps []:=by
 obtain ⟨oc,od,kV,doc,pm,an,cdv,ct,osl,rfl,lk,hcd⟩:=F.ex;exact .all (h kV doc pm an cdv ct)
theorem qao {x qual:Str} {st:Stmt} {f:Addr} {oc:Value} {od an:Option Addr} {osl:Array (Option Value)} {kV doc pm cdv ct:Value} (l:K.lookup f=some ⟨oc,od,.func (fnOf x qual (qag st) (qae st) (qab st) .none kV doc pm an cdv ct),osl⟩)
  (c:codeIn K cdv qual=true) (k:keepIn K (.ref f)=true):Fun K x qual st f (fnOf x qual (qag st) (qae st) (qab st) .none kV doc pm an cdv ct):=⟨⟨oc,od,kV,doc,pm,an,cdv,ct,osl,rfl,l,c⟩,k⟩
end
theorem qgn {A:Around} {k:Nat} (hr:Room k A):A.units+1<cLine:=Nat.lt_of_le_of_lt (Nat.add_le_add_left (by decide:1<=64) _) hr.units
theorem qb6 {n:Nat} (h:n<=1000):n<sizeLine:=Nat.lt_of_le_of_lt h (by decide)
section
variable {X:Cx}
theorem pv (i:Nat) {x:Str} {pos:Pos} (hN:X.N[i]?=some x:=by rfl) (hv:Vis X.env.scope x:=by first|exact Or.inl rfl|exact Or.inr (Or.inl rfl)|exact Or.inr (Or.inr rfl)) (hd:(x == ("__debug__" : Str))=false:=by decide)
  (hcd:(x == ("__classdict__" : Str))=false:=by decide):PE X (.Name x pos) (qti i):=qfe hN hv hd hcd
end
theorem qe1 {A B:Prop} (h:B):if false=true then A else B:=by
 rw[if_neg Bool.false_ne_true];exact h
theorem qef {A B:Prop} (h:A):if true=true then A else B:=by
 rw[if_pos rfl];exact h
theorem qk4 {c A B:Prop} [Decidable c] (h1:c->A) (h2:¬ c->B):if c then A else B:=by
 by_cases h:c
 ·rw[if_pos h]
  exact h1 h
 ·rw[if_neg h]
  exact h2 h
theorem qr5 {c A B:Prop} [Decidable c] (hc:c) (h:B):if (!decide c)=true then A else B:=by
 rw[decide_eq_true hc];exact qe1 h
def Same (H H':Hp):Prop:=∀ b o,H b=some o->H' b=some o
theorem Same.refl (H:Hp):Same H H:=λ_ _ h=>h
theorem Same.trans {H H1 H2:Hp} (a:Same H H1) (b:Same H1 H2):Same H H2:=λc o h=>b c o (a c o h)
theorem Same.free {H H':Hp} (e:Same H H') {l:Addr} (h:H' l=Option.none):H l=Option.none:=by
 cases q:H l with
 | none=>rfl
 | some o =>
  rw[e l o q] at h;cases h
theorem Same.seq {K:Frag} {H H':Hp} {a:Addr} {xs:List V} (e:Same H H') (h:SqL K H a xs):SqL K H' a xs:=by
 rcases h with (h|⟨o,h⟩)|h
 ·exact .inl (.inl (e _ _ h))
 ·exact .inl (.inr ⟨o,e _ _ h⟩)
 ·exact .inr h
section
variable {κ:Type} [DecidableEq κ]
end
end L2
set_option maxHeartbeats 4000000
namespace L2
open PySem PySem.Spec PyProof.Rows
section
variable {X:Cx}
theorem qr6:(10:Nat) ^ 100<2 ^ 400:=by decide +kernel
theorem qj4 {j:Int} (h:j.natAbs<10 ^ 100):j.natAbs.log2<400:=by
 by_cases h0:j.natAbs=0
 ·rw[h0];decide +kernel
 ·exact (Nat.log2_lt h0).mpr (Nat.lt_trans h qr6)
def quc (_ j:Int):Prop:=0<j/\j<10 ^ 100
theorem qoa:OpR X (binaryOp .FloorDiv) (rI quc λi j=>.int (i / j)):=opI λi j _ _ _ _ _ hc q=>by
 have h1:(0:Int)<j:=hc.1;have h2:j<10 ^ 100:=hc.2;have h3:j.natAbs<10 ^ 100:=by omega
 exact floordiv_int (by omega) (by rw[Int.fdiv_eq_ediv_of_nonneg i (by omega)];exact q) (.inl (PyProof.noPylong_of_log2 (Nat.lt_trans (qj4 h3) (by decide))))
def CMulB (i j:Int):Prop:=(-(10 ^ 100)<i/\i<10 ^ 100)/\(-(10 ^ 100)<j/\j<10 ^ 100)
theorem qj5 {j:Int} (h:j.natAbs<10 ^ 100):Builtin.Int.intBits j<=400:=by
 unfold Builtin.Int.intBits
 split
 ·exact Nat.zero_le _
 ·have:=qj4 h
  omega
theorem CMulB.ok {i j:Int} (h:CMulB i j):IntMulOk i j:=by
 obtain ⟨⟨h1,h2⟩,h3,h4⟩:=h;have e1:=qj5 (j:=i) (by omega);have e2:=qj5 (j:=j) (by omega);have e3:Builtin.Int.intTooBig (Builtin.Int.intBits i+Builtin.Int.intBits j)=false:=by
  unfold Builtin.Int.intTooBig;rw[decide_eq_false];have:(bitsLine:Int)=134217728:=by decide +kernel
  omega
 unfold IntMulOk;rw[e3]
 simp
theorem qqd:OpR X (binaryOp .Mult) (rI CMulB λi j=>.int (i*j)):=opI λ_ _ _ _ _ _ _ hc q=>mul_int q hc.ok
end
section
variable {X:Cx}
theorem qd3:CallR X (.builtin "isinstance") (λxs H Q=>∃ x T t b,xs=[x,.ty T]/\TyOf X.K H x t/\PySem.W.kitOne X.K t (.type T)=some b/\Q (.bl b) H):=by
 intro pins s σ H xs us Q I r h;obtain ⟨x,T,t,b,rfl,ty,e,q⟩:=h;obtain ⟨u,w',rfl,ru,rw'⟩:=vals2 r
 cases (show w'=Value.type T from rw')
 exact qmd I ru ty e λtk=>⟨.bl b,H,I.tok tk,rfl,q⟩
end
mutual
inductive Rep (K:Frag) (H:Hp):V->PyData->Prop where
 | non:Rep K H .non .none
 | bl (b:Bool):Rep K H (.bl b) (.bool b)
 | int (i:Int):Rep K H (.int i) (.int i)
 | str (x:Str):Rep K H (.str x) (.str x)
 | lst {a:Addr} {xs:List V} {ds:List PyData}:SqL K H a xs->qqe K H xs ds->Rep K H (.ref a) (.list ds)
 | tup {a:Addr} {xs:List V} {ds:List PyData}:SqT K H a xs->qqe K H xs ds->Rep K H (.ref a) (.tuple ds)
inductive qqe (K:Frag) (H:Hp):List V->List PyData->Prop where
 | nil:qqe K H [] []
 | cons {v:V} {vs:List V} {d:PyData} {ds:List PyData}:Rep K H v d->qqe K H vs ds->qqe K H (v :: vs) (d :: ds)
end
section
variable {X:Cx} {pins:List (Addr×Obj)} {σ:St} {H:Hp} {s:Shared}
mutual
theorem qcn (I:Inv X pins σ H s):∀ (d:PyData) (v:V) (u:Value),Rep X.K H v d->RelV v u->∃ as,Reads s.heap u d as
 | .none,v,u,r,q=>by cases r;cases (show u=Value.none from q);exact ⟨_,.none⟩
 | .bool b,v,u,r,q=>by cases r;cases (show u=Value.bool b from q);exact ⟨_,.bool b⟩
 | .int i,v,u,r,q=>by cases r;obtain ⟨t,e⟩:=(show ∃ t,u=Value.int i t from q);cases e;exact ⟨_,.int i t⟩
 | .str x,v,u,r,q=>by cases r;obtain ⟨t,e⟩:=(show ∃ t,u=Value.str x t from q);cases e;exact ⟨_,.str x t⟩
 | .list ds,v,u,r,q=>by
  cases r with
  | @lst a xs _ hq rs =>
   cases (show u=Value.ref a from q)
   obtain ⟨its,rv,⟨o,n,e,c,_,d⟩,hz⟩:=I.list hq;obtain ⟨as,ra⟩:=qe4 I ds xs its rs rv;exact ⟨_,.list e c d (by simpa using ra)⟩
 | .tuple ds,v,u,r,q=>by
  cases r with
  | @tup a xs _ hq rs =>
   cases (show u=Value.ref a from q)
   obtain ⟨its,rv,⟨o,e,c,n,d⟩,hz⟩:=I.tuple hq;obtain ⟨as,ra⟩:=qe4 I ds xs its rs rv;exact ⟨_,.tuple e c d (by simpa using ra)⟩
 | .dict _,v,u,r,q=>by cases r
theorem qe4 (I:Inv X pins σ H s):∀ (ds:List PyData) (vs:List V) (us:List Value),qqe X.K H vs ds->Vals vs us->∃ as,ReadsAll s.heap us ds as
 | [],vs,us,r,q=>by cases r;cases q;exact ⟨_,.nil⟩
 | d :: ds,vs,us,r,q=>by
  cases r with
  | cons r1 r2 =>
   cases q with
   | cons q1 q2 =>
    obtain ⟨as,a1⟩:=qcn I d _ _ r1 q1;obtain ⟨bs,a2⟩:=qe4 I ds _ _ r2 q2;exact ⟨_,.cons a1 a2⟩
end
end
def qud (K:Frag) (neg:Bool):R2:=λx y H Q=>∃ d e,Rep K H x d/\Rep K H y e/\d.canLay0=true/\e.canLay0=true/\d.depth<=20/\Q (.bl (if neg then !PyData.eqv d e else PyData.eqv d e)) H
section
variable {X:Cx}
theorem qpe (hu:X.A.units+64<cLine):OpR X (compareOp .Eq) (qud X.K false):=by
 intro pins s σ H x y v u Q I rx ry h;obtain ⟨d,e,rd,re,cd,ce,hd,q⟩:=h;obtain ⟨as,ra⟩:=qcn I d x v rd rx;obtain ⟨bs,rb⟩:=qcn I e y u re ry;have hm:min d.depth e.depth<=d.depth:=Nat.min_le_left _ _;exact SeqAt.compareEq_reads ra rb cd ce (by omega) ⟨.bl _,H,I,rfl,q⟩
theorem qj6 (hu:X.A.units+64<cLine):OpR X (compareOp .NotEq) (qud X.K true):=by
 intro pins s σ H x y v u Q I rx ry h;obtain ⟨d,e,rd,re,cd,ce,hd,q⟩:=h;obtain ⟨as,ra⟩:=qcn I d x v rd rx;obtain ⟨bs,rb⟩:=qcn I e y u re ry;have hm:min d.depth e.depth<=d.depth:=Nat.min_le_left _ _;exact SeqAt.rcNeAt_reads ra rb cd ce (by omega) X.prog X.w X.xe _ ⟨.bl _,H,I,rfl,q⟩
end
section
variable {X:Cx} {pins:List (Addr×Obj)} {σ:St} {H:Hp} {s:Shared} {h':Heap}
theorem Inv.turnedLaid {t':Nat} {ch:List Addr} {a:Addr} {o:HO} (I:Inv X pins σ H s) (hf:∀ b∈ch,qjz X pins H b) (k:∀ b u,b ∉ ch->s.heap.get? b=some u->h'.get? b=some u)
  (hp:s.heap.objs.size<=a) (new:ObjOk X.prog X.w (upd H a o) h' a o):Inv X pins σ (upd H a o) { s with heap:=h',toks:=t' }:=by
 have hna:H a=none:=I.hok.fresh hp;have nch:∀ b u,H b=some u->b ∉ ch:=λb u e z=>by rw[(hf b z).1] at e;cases e
 have nea:∀ b u,s.heap.get? b=some u->b≠a:=λb u e z=>absurd (Nat.lt_of_lt_of_le (Heap.lt_size e) (by rw[z];exact hp)) (Nat.lt_irrefl _)
 refine I.step (g':=s.gens) (d':=s.drawn) (ch:=ch) (λb hb=>⟨(hf b hb).2.2.2.1,(hf b hb).2.1,(hf b hb).2.2.2.2.1,(hf b hb).2.2.2.2.2⟩) (λb o _ _ hc e _=>k b o hc e) (λb o _ _ hc e _=>⟨o.slots,k b o hc e⟩)
  (λb o hc e n=>by rw[qam (nea b o e)];exact n) (λb o hc e=>⟨o,k b o hc e⟩) (λb xs e=>by rw[qam (qaj e hna)];exact e) (λb o u e=>by rw[qam (qaj e hna)];exact e)
  (λb ps e=>⟨#[],by rw[qam (qaj e hna),e];simp⟩) (λm hm=>?_) (λb u e=>?_) I.bare
 ·obtain ⟨o,es,ep,ho,r⟩:=hm
  exact ⟨o,es,ep,k _ o (λz=>(hf _ z).2.1 rfl) ho,r⟩
 ·by_cases hb:b=a
  ·subst hb;rw[qat] at e;cases e;exact new
  ·rw[qam hb] at e
   refine (I.hok b u e).stay (λc v hc q=>k c v ?_ q) (λc q=>by rw[qam (qaj q hna)];exact q) λc xs q=>by rw[qam (qaj q hna)];exact q
   rcases hc with z|z
   ·rw[z];exact nch b u e
   ·exact nch c _ z
theorem Inv.turnedL {t':Nat} {ch:List Addr} (I:Inv X pins σ H s) (hf:∀ b∈ch,qjz X pins H b) (k:∀ b u,b ∉ ch->s.heap.get? b=some u->h'.get? b=some u):Inv X pins σ H { s with heap:=h',toks:=t' }:=by
 have nch:∀ b u,H b=some u->b ∉ ch:=λb u e z=>by rw[(hf b z).1] at e;cases e
 refine I.step (g':=s.gens) (d':=s.drawn) (ch:=ch) (λb hb=>⟨(hf b hb).2.2.2.1,(hf b hb).2.1,(hf b hb).2.2.2.2.1,(hf b hb).2.2.2.2.2⟩) (λb o _ _ hc e _=>k b o hc e) (λb o _ _ hc e _=>⟨o.slots,k b o hc e⟩)
  (λ_ _ _ _ n=>n) (λb o hc e=>⟨o,k b o hc e⟩) (λ_ _ e=>e) (λ_ _ _ e=>e) (λb ps e=>⟨#[],by rw[e];simp⟩) (λm hm=>?_) (λb u e=>?_) I.bare
 ·obtain ⟨o,es,ep,ho,r⟩:=hm
  exact ⟨o,es,ep,k _ o (λz=>(hf _ z).2.1 rfl) ho,r⟩
 ·refine (I.hok b u e).stay (λc v hc q=>k c v ?_ q) (λ_ q=>q) λ_ _ q=>q
  rcases hc with z|z
  ·rw[z];exact nch b u e
  ·exact nch c _ z
end
def Itz (K:Frag) (a b:Addr):It:=
 ⟨λi H=>∃ xs ys x y,SqL K H a xs/\SqL K H b ys/\xs[i]?=some x/\ys[i]?=some y,
   λi H v H'=>∃ p,v=.ref p/\H p=none/\∀ xs ys x y,SqL K H a xs->SqL K H b ys->xs[i]?=some x->ys[i]?=some y->H'=upd H p (.tup [x,y]),
   λi H=>∃ xs ys,SqL K H a xs/\SqL K H b ys/\(xs.length<=i\/ys.length<=i)⟩
theorem qa4 {h:Heap} {a b:Addr} {o u:Obj} (e:h.get? a=some o) (e':h.get? b=some u) (d:o.cls≠u.cls):a≠b:=λz=>by
 subst z;rw[e] at e';exact d (congrArg Obj.cls (Option.some.inj e'))
theorem qtn:Value.type "tuple" ≠ Value.type "zip" :=by decide
theorem qto:Value.type "list_iterator" ≠ Value.type "zip" :=by decide
theorem qpf:Value.type "tuple" ≠ Value.type "list_iterator" :=by decide
theorem qtp:Value.type "list" ≠ Value.type "zip" :=by decide
theorem qtq:Value.type "list" ≠ Value.type "tuple" :=by decide
theorem qpg:Value.type "list" ≠ Value.type "list_iterator" :=by decide
theorem qob {P:Program} {w:World} {K:Frag} {elts:List Expr} {ek:Nat} {epos:Pos} (a b z TI TO i1 i2:Addr) (d1:TI≠TO) (d2:i1≠i2) :
  Turn P w K (.Tuple elts ek epos) (Itz K a b) [z,TI,TO,i1,i2] z (λi h=>IsZip h z TI TO .none/\IsPair h TI (.ref i1) (.ref i2)/\(∃ x y,IsPair h TO x y)/\h.IsListIter i1 a i/\h.IsListIter i2 b i) where
 mem:=by simp
 obj:=λi h st c hc=>by
  obtain ⟨hz,hTI,⟨x,y,hTO⟩,⟨o1,e1,c1,f1⟩,⟨o2,e2,c2,f2⟩⟩:=st;simp only[List.mem_cons,List.not_mem_nil,or_false] at hc
  rcases hc with rfl|rfl|rfl|rfl|rfl
  ·exact ⟨_,hz,λv q=>by have q':Data.fields _=Data.cell v:=q;cases q'⟩
  ·exact ⟨_,hTI,λv q=>by have q':Data.seq _ _=Data.cell v:=q;cases q'⟩
  ·exact ⟨_,hTO,λv q=>by have q':Data.seq _ _=Data.cell v:=q;cases q'⟩
  ·exact ⟨_,e1,λv q=>by rw[f1] at q;cases q⟩
  ·exact ⟨_,e2,λv q=>by rw[f2] at q;cases q⟩
 keep:=λi h h' st k=>by
  obtain ⟨hz,hTI,⟨x,y,hTO⟩,h1,h2⟩:=st;exact ⟨k z (by simp) _ hz,k TI (by simp) _ hTI,⟨x,y,k TO (by simp) _ hTO⟩,h1.at λo e=>k i1 (by simp) o e,h2.at λo e=>k i2 (by simp) o e⟩
 item:=by
  intro X hP hw hK hc i pins s σ H E I hf st hg;subst hP hw hK;obtain ⟨xs,ys,x,y,qa,qb,hx,hy⟩:=hg;obtain ⟨hz,hTI,⟨x0,y0,hTO⟩,h1,h2⟩:=st;obtain ⟨itsA,rA,pA,zA⟩:=I.list qa;obtain ⟨itsB,rB,pB,zB⟩:=I.list qb;obtain ⟨u,hu,ru⟩:=rA.get hx;obtain ⟨u',hu',ru'⟩:=rB.get hy;have D:ZipApart z TI TO i1 i2 a b:=by
   obtain ⟨o1,e1,c1,f1⟩:=id h1;obtain ⟨o2,e2,c2,f2⟩:=id h2;obtain ⟨oa,na,ea,ca,_,fa⟩:=id pA;obtain ⟨ob,nb,eb,cb,_,fb⟩:=id pB;exact ⟨qa4 hTI hz qtn,qa4 hTO hz qtn,qa4 e1 hz (by rw[c1];exact qto),qa4 e2 hz (by rw[c2];exact qto),d1,qa4 hTI e1 (by rw[c1];exact qpf),qa4 hTI e2 (by rw[c2];exact qpf),
    qa4 hTO e1 (by rw[c1];exact qpf),qa4 hTO e2 (by rw[c2];exact qpf),d2,qa4 ea hz (by rw[ca];exact qtp),qa4 ea hTO (by rw[ca];exact qtq),qa4 ea e1 (by rw[ca,c1];exact qpg),qa4 ea e2 (by rw[ca,c2];exact qpg),
    qa4 eb hz (by rw[cb];exact qtp),qa4 eb hTO (by rw[cb];exact qtq),qa4 eb e1 (by rw[cb,c1];exact qpg),qa4 eb e2 (by rw[cb,c2];exact qpg)⟩
  refine wpAny_pyNext_zip_item D hz hTI hTO h1 h2 pA.isList pB.isList (x:=u) (y:=u') (by simpa using hu) (by simpa using hu') λh' a1 a2 a3 a4 a5 a6 hk=>?_
  refine ⟨.ref s.heap.objs.size,rfl,wpAny_letOwnedTupleGo_zip a1 λh'' hz'' sb=>?_⟩;have lz:z<s.heap.objs.size:=Heap.lt_size hz;have nz:s.heap.objs.size≠z:=Nat.ne_of_gt lz;have k2:∀ c o,c ∉ [z,TI,TO,i1,i2]->s.heap.get? c=some o->h''.get? c=some o:=λc o hc e=>by
   simp only[List.mem_cons,List.not_mem_nil,or_false,not_or] at hc;exact sb.extBut _ _ hc.1 (hk c o hc.1 hc.2.2.1 hc.2.2.2.1 hc.2.2.2.2 e)
  have T2:IsPair h'' s.heap.objs.size u u':=sb.extBut _ _ nz a5;refine ⟨.ref s.heap.objs.size,upd H s.heap.objs.size (.tup [x,y]),I.turnedLaid (t':=s.toks) (ch:=[z,TI,TO,i1,i2]) hf k2 (Nat.le_refl _) ⟨by show 2<=sizeLine;decide,[u,u'],.cons ru (.cons ru' .nil),_,T2,rfl,_,rfl⟩,rfl,⟨_,rfl,I.hok.fresh (Nat.le_refl _),λxs' ys' x' y' qa' qb' hx' hy'=>?_⟩,⟨hz'',sb.extBut _ _ D.TIz (hk _ _ D.TIz D.TITO D.TIi1 D.TIi2 hTI),⟨_,_,sb.extBut _ _ D.TOz a2⟩,a3.extBut sb.extBut D.i1z,a4.extBut sb.extBut D.i2z⟩,λb hb=>?_⟩
  ·rw[I.list_inj qa' qa,hx] at hx'
   rw[I.list_inj qb' qb,hy] at hy'
   cases hx';cases hy';rfl
  ·have e:b≠s.heap.objs.size:=λq=>by
    have:∃ o,s.heap.get? b=some o:=by
     simp only[List.mem_cons,List.not_mem_nil,or_false] at hb;obtain ⟨o1,e1,_⟩:=id h1;obtain ⟨o2,e2,_⟩:=id h2
     rcases hb with rfl|rfl|rfl|rfl|rfl
     ·exact ⟨_,hz⟩
     ·exact ⟨_,hTI⟩
     ·exact ⟨_,hTO⟩
     ·exact ⟨_,e1⟩
     ·exact ⟨_,e2⟩
    obtain ⟨o,e⟩:=this;exact absurd (Heap.lt_size e) (by rw[q];exact Nat.lt_irrefl _)
   rw[qam e];exact (hf b hb).1
 done:=by
  intro X hP hw hK hc i pins s σ H E I hf st hg;subst hP hw hK;obtain ⟨xs,ys,qa,qb,hx⟩:=hg;obtain ⟨hz,hTI,⟨x0,y0,hTO⟩,h1,h2⟩:=st;obtain ⟨itsA,rA,pA,zA⟩:=I.list qa;obtain ⟨itsB,rB,pB,zB⟩:=I.list qb;have D:ZipApart z TI TO i1 i2 a b:=by
   obtain ⟨o1,e1,c1,f1⟩:=id h1;obtain ⟨o2,e2,c2,f2⟩:=id h2;obtain ⟨oa,na,ea,ca,_,fa⟩:=id pA;obtain ⟨ob,nb,eb,cb,_,fb⟩:=id pB;exact ⟨qa4 hTI hz qtn,qa4 hTO hz qtn,qa4 e1 hz (by rw[c1];exact qto),qa4 e2 hz (by rw[c2];exact qto),d1,qa4 hTI e1 (by rw[c1];exact qpf),qa4 hTI e2 (by rw[c2];exact qpf),
    qa4 hTO e1 (by rw[c1];exact qpf),qa4 hTO e2 (by rw[c2];exact qpf),d2,qa4 ea hz (by rw[ca];exact qtp),qa4 ea hTO (by rw[ca];exact qtq),qa4 ea e1 (by rw[ca,c1];exact qpg),qa4 ea e2 (by rw[ca,c2];exact qpg),
    qa4 eb hz (by rw[cb];exact qtp),qa4 eb hTO (by rw[cb];exact qtq),qa4 eb e1 (by rw[cb,c1];exact qpg),qa4 eb e2 (by rw[cb,c2];exact qpg)⟩
  have lA:=rA.length;have lB:=rB.length;refine wpAny_pyNext_zip_end (I.ok.hd hc) D hz hTI hTO h1 h2 pA.isList pB.isList (hx.imp (λq=>by simp;omega) λq=>by simp;omega) λh' hk=>⟨rfl,I.turnedL (t':=s.toks) (ch:=[z,TI,TO,i1,i2]) hf λc o hc e=>?_⟩
  simp only[List.mem_cons,List.not_mem_nil,or_false,not_or] at hc;exact hk c o hc.1 hc.2.2.1 hc.2.2.2.1 hc.2.2.2.2 e
 self:=λ_ _ _ _ _ st h=>wpAny_pyIter_zip st.1 h
section
variable {X:Cx}
def qv2 (K:Frag) (ta:TA):TI:=λσ H R=>ta σ H λvs H1=>∃ a b xs ys,vs=[.ref a,.ref b]/\SqL K H1 a xs/\SqL K H1 b ys/\R (Itz K a b) H1
theorem qj7 {elts:List Expr} {ek:Nat} {epos:Pos} {e1 e2:Expr} {ta:TA} {p pos:Pos} (hg:Gl X "zip") (hm:X.mg "zip" = none) (ha:PA X [e1,e2] ta)
  (hs:starEach [e1,e2] X.env=[(false,eval e1 X.env),(false,eval e2 X.env)]:=by rfl) (hs2:starEach [e2] X.env=[(false,eval e2 X.env)]:=by rfl) :
  PI X (.Tuple elts ek epos) (.Call (.Name "zip" p) [e1,e2] [] pos) (qv2 X.K ta):=by
 intro pins s σ H R I h;refine Call_ (qgu I hg hm (show bootBuiltins "zip" = some (.type "zip") by decide +kernel) (PyProof.Rows.callWith_type1 (thn (ha pos pins s σ H _ I h) λus s1 ⟨vs,H1,I1,r1,q1⟩=>?_) (by rw[hs,hs2]) (by rw[hs2];rfl)));obtain ⟨a,b,xs,ys,rfl,qa,qb,q⟩:=q1;obtain ⟨u,u',rfl,ru,ru'⟩:=vals2 r1
 cases (show u=Value.ref a from ru)
 cases (show u'=Value.ref b from ru')
 obtain ⟨itsA,rA,pA,zA⟩:=I1.list qa;obtain ⟨itsB,rB,pB,zB⟩:=I1.list qb;refine call_zip_2 pA.isList pB.isList λh' hz hTI hTO h1 h2 hsz hk=>wpAny_pyIter_zip hz ?_
 refine ⟨s1.heap.objs.size+4,_,_,_,H1,rfl,I1.kept (t':=s1.toks) hk,qob a b _ (s1.heap.objs.size+2) (s1.heap.objs.size+3) s1.heap.objs.size (s1.heap.objs.size+1) (Nat.ne_of_lt (Nat.lt_succ_self _)) (Nat.ne_of_lt (Nat.lt_succ_self _)),⟨hz,hTI,⟨_,_,hTO⟩,h1,h2⟩,λc hc=>?_,q⟩;have e:s1.heap.objs.size<=c:=by
  simp only[List.mem_cons,List.not_mem_nil,or_false] at hc
  rcases hc with rfl|rfl|rfl|rfl|rfl
  ·exact Nat.le_add_right _ _
  ·exact Nat.le_add_right _ _
  ·exact Nat.le_add_right _ _
  ·exact Nat.le_refl _
  ·exact Nat.le_add_right _ _
 exact I1.fpOk e (I1.hok.fresh e)
end
theorem qqf {K:Frag} {a b:Addr} {xs ys:List V} {g:TG} {tb:TS} {D:Ends} {σ:St} {H:Hp} (Pv:Nat->St->Hp->Prop) (h0:Pv 0 σ H) (hl:∀ i σ H,Pv i σ H->SqL K H a xs/\SqL K H b ys)
  (hs:∀ i x y σ H p,xs[i]?=some x->ys[i]?=some y->H p=none->Pv i σ H->g (.ref p) σ (upd H p (.tup [x,y])) λσ2 H2=>tb { D with nx:=Pv (i+1),ct:=Pv (i+1),bk:=D.nx } σ2 H2)
  (hd:∀ i σ H,i=min xs.length ys.length->Pv i σ H->D.nx σ H) :
  ∃ W:Nat->Nat->St->Hp->Prop,(∃ m,W 0 m σ H)/\∀ i m σ H,W i m σ H ->
   ((Itz K a b).stop i H/\D.nx σ H)\/((Itz K a b).go i H/\∃ N:St->Hp->Prop,(∀ σ' H',N σ' H'->∃ m',m'<m/\W (i+1) m' σ' H')/\∀ x H',(Itz K a b).yld i H x H'->g x σ H' λσ2 H2=>tb { D with nx:=N,ct:=N,bk:=D.nx } σ2 H2):=by
 refine ⟨λi m σ H=>m=min xs.length ys.length-i/\i<=min xs.length ys.length/\Pv i σ H,⟨min xs.length ys.length,by simp,Nat.zero_le _,h0⟩,?_⟩;rintro i m σ H ⟨rfl,hi,p⟩;obtain ⟨qa,qb⟩:=hl i σ H p
 by_cases hlt:i<min xs.length ys.length
 ·have ha:i<xs.length:=by omega
  have hb:i<ys.length:=by omega
  refine .inr ⟨⟨xs,ys,xs[i],ys[i],qa,qb,by simp[ha],by simp[hb]⟩,Pv (i+1),λσ' H' p'=>⟨min xs.length ys.length-(i+1),by omega,rfl,hlt,p'⟩,λx H' y=>?_⟩;obtain ⟨t,rfl,ht,y⟩:=y;have ea:xs[i]?=some xs[i]:=by simp[ha]
  have eb:ys[i]?=some ys[i]:=by simp[hb]
  rw[y xs ys xs[i] ys[i] qa qb ea eb];exact hs i xs[i] ys[i] σ H t ea eb ht p
 ·exact .inl ⟨⟨xs,ys,qa,qb,by omega⟩,hd i σ H (by omega) p⟩
structure FunD (K:Frag) (x qual:Str) (st:Stmt) (dV:Value) (f:Addr) (fd:FuncData):Prop where
 ex:∃ (oc:Value) (od:Option Addr) (kV doc pm:Value) (an:Option Addr) (cdv ct:Value) (osl:Array (Option Value)),
  fd=fnOf x qual (qag st) (qae st) (qab st) dV kV doc pm an cdv ct/\K.lookup f=some ⟨oc,od,.func fd,osl⟩/\codeIn K cdv qual=true
 kp:keepIn K (.ref f)=true
section
variable {P:Program} {w:World} {K:Frag} {mg:Str->Option Value} {base:Heap}
theorem FunD.ok {x qual:Str} {st:Stmt} {dV:Value} {f:Addr} {fd:FuncData} {N ps:List Str} {k:Nat} {sp:Sp} (F:FunD K x qual st dV f fd) (S:qal N ps (qab st)) (len:∀ vs H Q E,sp vs H Q E->vs.length=ps.length)
  (hbody:∀ (cdv:Value) (A:Around) (outer:List Env) (s:Shared) (H:Hp) (vs:List V) (Q:VK) (E:XK),Room k (A.deeper (envOfC qual (qab st) s.heap.objs.size f cdv))->sp vs H Q E ->
   ∃ t,PSs (qj1 CX0 P w K mg base N qual (qab st) f cdv A outer s H E).nox (qae st) t/\t { nx:=λ_ H'=>Q .non H',rt:=Q } (start N vs) H):qff P w K mg base CX0 (k+1) f fd ps sp:=by
 obtain ⟨oc,od,kV,doc,pm,an,cdv,ct,osl,rfl,lk,hcd⟩:=F.ex;refine qn3 lk hcd S len λA outer s H vs Q E hr hsp=>?_
 obtain ⟨t,h,q⟩:=hbody cdv A outer s H vs Q E hr hsp;exact ⟨t,h.nox,q⟩
theorem qmq {fd:FuncData} {ps:List Str} {ds:List Value} {T:Addr} {o:Obj} {items:Array Value} {n:Nat} (hd:fd.defaults=.ref T) (lk:K.lookup T=some o) (hs:o.data=.seq items n)
  (h:∀ us:List Value,(us ++ ds).length=ps.length->∃ k,bindArgs fd ⟨us,[]⟩=seqItems? fd.defaults >>= k/\k (some items)=pure (ps.zip (us ++ ds))):Binds K fd ps ds:=λs us kin hl=>by
 obtain ⟨k,h1,h2⟩:=h us hl;exact .of_defaults hd (kin _ _ lk) hs h1 h2
end
def qce (P:Program) (w:World) (K:Frag) (mg:Str->Option Value) (base:Heap) (k:Nat) (x:Str) (ps:List Str) (sp:Sp):Prop:=
 ∃ f fd,qff P w K mg base CX0 k f fd ps sp/\mg x=some (.ref f)/\keepIn K (.ref f)=true/\Binds K fd ps []
def qk5 (P:Program) (w:World) (K:Frag) (mg:Str->Option Value) (base:Heap) (C:Addr) (k:Nat) (m:Str) (ps:List Str) (sp:Sp):Prop:=
 ∃ f fd,qff P w K mg base CX0 k f fd ps sp/\qfo K C m f/\Binds K fd ps []
def qtr (P:Program) (w:World) (K:Frag) (mg:Str->Option Value) (base:Heap) (C:Addr) (k:Nat) (x:Str) (ps:List Str) (ds:List Value) (sp:Sp):Prop:=
 ∃ f fd,qff P w K mg base CX0 k f fd ps sp/\mg x=some (.ref C)/\Mk K C f/\Binds K fd ps ds
section
variable {X:Cx} {k:Nat} {C:Addr} {ps:List Str} {sp:Sp} {dvs:List V} {ds:List Value} {x m:Str} {p pos apos:Pos} {e o:Expr} {es:List Expr} {ta:TE} {t:TA}
theorem qa7 (D:qce X.prog X.w X.K X.mg X.base k x ps sp) (hr:Room k X.A) (hg:Gl X x) (ha:PA X (e :: es) t) (hdb:(x == ("__debug__" : Str))=false:=by decide)
  (he:starEach (e :: es) X.env=(false,eval e X.env) :: starEach es X.env:=by rfl) (hpl:(backTo pos (starEach es X.env)).any (·.1)=false:=by rfl):PE X (.Call (.Name x p) (e :: es) [] pos) (qrx sp [] E0 t):=by
 obtain ⟨f,fd,F,hm,hk,hb⟩:=D;exact qp4 F hr hg hm hk hb .nil qn9 ha hdb he hpl
end
open PySem PySem.Spec PyProof.Rows
section
variable {X:Cx} {k:Nat} {C:Addr} {ps:List Str} {sp:Sp} {x m:Str} {p pos apos:Pos} {e o:Expr} {es:List Expr} {ta:TE} {t:TA}
theorem qoc {pl:Sem Bool} (he:PE X o ta) (c:Cls X.K C) (D:qk5 X.prog X.w X.K X.mg X.base C k m ps sp) (hr:Room k X.A) (ha:PA X (e :: es) t)
  (hst:starEach (e :: es) X.env=(false,eval e X.env) :: starEach es X.env:=by rfl) (hpl:(backTo pos (starEach es X.env)).any (·.1)=false:=by rfl)
  (ht:eval (.Call (.Attribute o m apos) (e :: es) [] pos) X.env=(do
   let ov <- eval o X.env
   standAt apos.atName
   let (f,first) <- holding [ov] (getMethod ov m pl)
   callWith pos f first (backTo pos (starEach (e :: es) X.env)) (backToKw pos (keywordEach [] X.env))):=by rfl) :
  PE X (.Call (.Attribute o m apos) (e :: es) [] pos) (qme C m sp [] E0 ta t):=by
 obtain ⟨f,fd,F,hm,hb⟩:=D;exact qmg (pl:=pl) he c hm F hr hb .nil qn9 ha hst hpl ht
theorem qh8 {pl:Sem Bool} (he:PE X o ta) (c:Cls X.K C) (D:qk5 X.prog X.w X.K X.mg X.base C k m ps sp) (hr:Room k X.A)
  (ht:eval (.Call (.Attribute o m apos) [] [] pos) X.env=(do
   let ov <- eval o X.env
   standAt apos.atName
   let (f,first) <- holding [ov] (getMethod ov m pl)
   callWith pos f first (backTo pos (starEach [] X.env)) (backToKw pos (keywordEach [] X.env))):=by rfl) :
  PE X (.Call (.Attribute o m apos) [] [] pos) (qme C m sp [] E0 ta qtl):=by
 obtain ⟨f,fd,F,hm,hb⟩:=D;exact qn1 (pl:=pl) he c hm F hr hb .nil qn9 ht
end
section
variable {P:Program} {w:World} {K:Frag} {mg:Str->Option Value} {base:Heap}
theorem Fun.def_ {x:Str} {st:Stmt} {f:Addr} {fd:FuncData} {ps:List Str} {k:Nat} {sp:Sp} (F:Fun K x x st f fd) (hm:mg x=some (.ref f)) (hf:qff P w K mg base CX0 k f fd ps sp) (hb:Binds K fd ps []):qce P w K mg base k x ps sp:=
 ⟨f,fd,hf,hm,F.kp,hb⟩
end
theorem qc6:bootBuiltins "len" = some (.builtin "len"):=by decide +kernel
theorem qbj:bootBuiltins "isinstance" = some (.builtin "isinstance"):=by decide +kernel
theorem qe5:bootBuiltins "list" = some (.type "list"):=by decide +kernel
theorem qod:bootBuiltins "tuple" = some (.type "tuple"):=by decide +kernel
theorem qr7:bootBuiltins "int" = some (.type "int"):=by decide +kernel
theorem qqg:bootBuiltins "bool" = some (.type "bool"):=by decide +kernel
theorem qph:bootBuiltins "str" = some (.type "str"):=by decide +kernel
theorem qf6 (K:Frag):PySem.W.kitOne K (.type "int") (.type "int")=some true:=by rfl
theorem qfh (K:Frag):PySem.W.kitOne K (.type "int") (.type "bool")=some false:=by rfl
theorem qj8 (K:Frag):PySem.W.kitOne K (.type "list") (.type "list")=some true:=by rfl
theorem kit_tuple (K:Frag):PySem.W.kitOne K (.type "tuple") (.type "tuple")=some true:=by rfl
theorem qd4 {H:Hp} {p:Addr} {o:HO} (h:H p=none):Same H (upd H p o):=λb u e=>by rw[qam (qaj e h)];exact e
open PySem PySem.Spec PyProof.Rows
def blk (X:Cx) (Nc:List Str) (scope:Scope) (cl:List (Str×Addr)) (C:Addr) (s:Shared) (H:Hp) (ex:List Addr):Cx where
 prog:=X.prog
 w:=X.w
 K:=X.K
 mg:=X.mg
 base:=X.base
 A:=X.A
 N:=Nc
 s₀:=s
 H₀:=H
 env:=compEnvC scope cl C X.env
 outer:=X.stack
 stack:=X.stack
 ex:=ex
 fn:=λ_=>false
 calm:=X.calm
 pn:=[]
 xe:=λ_ _=>False
structure qr8 (X:Cx) (scope:Scope) (cl:List (Str×Addr)):Prop where
 clos:closureFor scope X.env=pure cl
 kind:scope.kind=.function
 nocell:∀ y∈scope.names,y.2≠.cell
 names:∀ y∈scope.names,y.2=.local->scope.names.lookup y.1=some .local
 sub:∀ x c,cl.lookup x=some c->X.env.cells.lookup x=some c
 has:∀ x,((relabel scope X.env).names.lookup x=some .cell\/(relabel scope X.env).names.lookup x=some .free)->∃ c,cl.lookup x=some c
def FvOk (X:Cx) (scope:Scope) (cl:List (Str×Addr)):List Str->List Nat->Prop
 | [],[]=>True
 | x :: xs,j :: js=>(X.N[j]?=some x/\(X.env.kindOf x=some .cell\/X.env.kindOf x=some .free)/\cl.lookup x=X.env.cells.lookup x /\
   ((relabel scope X.env).names.lookup x=some .cell\/(relabel scope X.env).names.lookup x=some .free))/\FvOk X scope cl xs js
 | _,_=>False
def lcσ (nv:Nat) (fv:List Nat) (σ:St):St:=List.replicate nv none ++ fv.map λj=>(σ[j]?).join
theorem FvOk.len {X:Cx} {scope:Scope} {cl:List (Str×Addr)}:∀ {xs:List Str} {js:List Nat},FvOk X scope cl xs js->xs.length=js.length
 | [],[],_=>rfl
 | _ :: _,_ :: _,h=>by simp[FvOk.len h.2]
 | [],_ :: _,h=>h.elim
 | _ :: _,[],h=>h.elim
theorem FvOk.get {X:Cx} {scope:Scope} {cl:List (Str×Addr)}:∀ {xs:List Str} {js:List Nat} {k:Nat} {x:Str} {j:Nat},FvOk X scope cl xs js->xs[k]?=some x->js[k]?=some j ->
  X.N[j]?=some x/\(X.env.kindOf x=some .cell\/X.env.kindOf x=some .free)/\cl.lookup x=X.env.cells.lookup x/\((relabel scope X.env).names.lookup x=some .cell\/(relabel scope X.env).names.lookup x=some .free)
 | [],[],_,_,_,_,e,_=>by simp at e
 | _ :: _,_ :: _,0,_,_,h,e,e'=>by simp at e e';subst e;subst e';exact h.1
 | _ :: _,_ :: _,k+1,x,j,h,e,e'=>FvOk.get (k:=k) h.2 (by simpa using e) (by simpa using e')
 | [],_ :: _,_,_,_,h,_,_=>h.elim
 | _ :: _,[],_,_,_,h,_,_=>h.elim
abbrev qak:Obj:={ cls:=.type "list",dict:=none,data:=.seq ([]:List Value).toArray }
theorem ltS {h:Heap} {b:Addr} {o:Obj} (e:h.get? b=some o):b≠(h.push qak).objs.size:=Nat.ne_of_lt (by rw[Heap.size_push];exact Nat.lt_succ_of_lt (Heap.lt_size e))
theorem neS {h:Heap}:h.objs.size≠(h.push qak).objs.size:=Nat.ne_of_lt (by rw[Heap.size_push];exact Nat.lt_succ_self _)
theorem leS {h:Heap}:h.objs.size<=(h.push qak).objs.size:=by rw[Heap.size_push];exact Nat.le_succ _
theorem neZ {h:Heap} {b:Addr} {o:Obj} (e:h.get? b=some o):b≠h.objs.size:=Nat.ne_of_lt (Heap.lt_size e)
section
variable {X:Cx} {pins:List (Addr×Obj)} {σ:St} {H:Hp} {s:Shared} {scope:Scope} {cl:List (Str×Addr)} {vars frees:List Str} {fv:List Nat} {fp:List Addr}
theorem qqh {h':Heap} {t':Nat} (I:Inv X pins σ H s) (L:qr8 X scope cl) (fo:FvOk X scope cl frees fv) (hf:∀ b∈fp,qjz X pins H b) (ho:∀ b∈fp,∃ o,s.heap.get? b=some o)
  (hns:h'.Ns (s.heap.push qak).objs.size (λ_=>none)) (hsb:∀ b o,b≠(s.heap.push qak).objs.size->(s.heap.push qak).get? b=some o->h'.get? b=some o) :
  Inv (blk X (vars ++ frees) scope cl (s.heap.push qak).objs.size { s with heap:=s.heap.push qak } H (s.heap.objs.size :: fp)) [(s.heap.objs.size,qak)] (lcσ vars.length fv σ) H { s with heap:=h',toks:=t' }:=by
 have hC:(s.heap.push qak).objs.size=s.heap.objs.size+1:=Heap.size_push ..;have hlt:∀ {b:Addr} {o:Obj},s.heap.get? b=some o->b<s.heap.objs.size:=λe=>Heap.lt_size e
 have old:∀ b o,s.heap.get? b=some o->h'.get? b=some o:=λb o e=>hsb b o (ltS e) (Heap.get?_push_of_some _ e)
 have hD:h'.get? s.heap.objs.size=some qak:=hsb _ _ neS (Heap.get?_push_size _ rfl);have stk:∀ b∈frs X.stack,b<s.heap.objs.size/\b ∉ fp:=λb hb=>by
  rcases List.mem_cons.mp (I.stkSub b hb) with z|z
  ·exact ⟨by rw[z];exact I.lt,λq=>(hf b q).2.1 z⟩
  ·refine ⟨?_,λq=>(hf b q).2.2.1 z⟩
   apply Nat.lt_of_not_le
   intro q;exact I.nofs q z
 have cellL:∀ x c,cl.lookup x=some c->c<s.heap.objs.size:=λx c e=>by
  obtain ⟨v,q⟩:=I.cell x c (L.sub x c e);exact q.lt
 refine ⟨⟨I.ok.mod,L.kind,I.ok.glob,I.ok.blt,Nat.le_refl _,λx y c e1 e2=>I.ok.inj x y c (L.sub x c e1) (L.sub y c e2),λx h=>L.has x h,(λx c z=>nomatch z),I.ok.hd,I.ok.frames,.inl rfl,λb hb=>?_,λb o e=>?_,?_,λb o e hb=>?_,λb hb hq=>?_,?_,λb hb=>I.stkFree b hb⟩,
  rfl,I.bare,Un.kept λb u e=>?_,⟨_,hns,λi x v e1 e2 e3=>?_⟩,λx c e=>?_,?_,λx c e=>I.freeC x c (L.sub x c e),λp hp=>?_,I.hok.kept old,?_⟩
 ·
  refine ⟨?_,λx c e z=>?_⟩
  ·show b≠(s.heap.push qak).objs.size
   rcases List.mem_cons.mp hb with z|z
   ·rw[z];exact neS
   ·obtain ⟨o,e⟩:=ho b z
    exact ltS e
  ·rcases List.mem_cons.mp hb with q|q
   ·exact Nat.ne_of_lt (cellL x c e) (z.trans q)
   ·exact (hf b q).2.2.2.2.1 x c (L.sub x c e) z
 ·exact ⟨Heap.get?_push_of_some _ (I.bs b o e).1,(I.bs b o e).2⟩
 ·exact Nat.le_trans (Nat.le_trans I.ok.bsz I.sz) leS
 ·
  rcases List.mem_cons.mp hb with q|q
  ·exact neZ (I.bs b o e).1 q
  ·rcases (hf b q).2.2.2.1 with z|z
   ·exact I.ok.noex b o e z
   ·exact absurd (Nat.lt_of_lt_of_le (Heap.lt_size (I.ok.bs b o e).1) z) (Nat.lt_irrefl _)
 ·
  obtain ⟨h1,h2⟩:=stk b hq
  rcases List.mem_cons.mp hb with q|q
  ·exact Nat.ne_of_lt h1 q
  ·exact h2 q
 ·exact Heap.FunFrames.of_keeps (λb o e _=>⟨o,Heap.get?_push_of_some _ e,rfl⟩) I.stack
 ·exact hsb b u (Nat.ne_of_lt (Heap.lt_size e)) e
 ·
  obtain ⟨m,hn,hl⟩:=I.loc;have hi:vars.length<=i:=by
   apply Nat.le_of_not_lt
   intro z;rw[show lcσ vars.length fv σ=List.replicate vars.length none ++ fv.map λj=>(σ[j]?).join from rfl,List.getElem?_append_left (by simpa using z),List.getElem?_replicate_of_lt (by simpa using z)] at e2;cases e2
  obtain ⟨k,rfl⟩:∃ k,i=vars.length+k:=⟨i-vars.length,by omega⟩;have e1':frees[k]?=some x:=by
   have e1'':(vars ++ frees)[vars.length+k]?=some x:=e1;rw[List.getElem?_append_right (by omega)] at e1''
   simpa using e1''
  have e2':(fv.map λj=>(σ[j]?).join)[k]?=some (some v):=by
   rw[show lcσ vars.length fv σ=List.replicate vars.length none ++ fv.map λj=>(σ[j]?).join from rfl,List.getElem?_append_right (by simp)] at e2
   simpa using e2
  rw[List.getElem?_map] at e2';obtain ⟨j,hj,ej⟩:=Option.map_eq_some_iff.mp e2';have ej':σ[j]?=some (some v):=by
   cases q:σ[j]? with
   | none=>rw[q] at ej;cases ej
   | some y=>rw[q] at ej;exact congrArg some ej
  obtain ⟨f1,f2,f3,f4⟩:=fo.get e1' hj;obtain ⟨u,ru,lk⟩:=hl j x v f1 ej' (f2.elim (λz=>.inr (.inl z)) λz=>.inr (.inr z));refine ⟨u,ru,.inr ⟨f4,?_⟩⟩
  rcases lk with ⟨z,_⟩|⟨_,c,hc,o,q,d⟩
  ·rcases f2 with y|y<;>rw[y] at z<;>cases z
  ·exact ⟨c,f3.trans hc,o,old c o q,d⟩
 ·obtain ⟨v,o,q,d⟩:=I.cell x c (L.sub x c e)
  exact ⟨v,o,old c o q,d⟩
 ·exact I.hok.fresh leS
 ·have e:p=(s.heap.objs.size,qak):=by
   have hp':p∈([]:List (Addr×Obj)) ++ [(s.heap.objs.size,qak)]:=hp
   simpa using hp'
  subst e;refine ⟨hD,I.hok.fresh (Nat.le_refl _),neS,λq=>?_,λv q=>by have q':Data.seq _ _=Data.cell v:=q;cases q'⟩;exact Nat.lt_irrefl _ (stk _ q).1
 ·show (lcσ vars.length fv σ).length=(vars ++ frees).length
  simp[lcσ,fo.len]
end
def qri (X:Cx) (ifs:List Expr) (t:TT):Prop:=
 ∀ (pins:List (Addr×Obj)) (s:Shared) (σ:St) (H:Hp) (Q:Bool->Hp->Prop),Inv X pins σ H s->t σ H Q ->
  wpAny (model X.prog X.w) X.A (forIn ifs true λc r=>if r=true then do let ok <- isTrue c X.env (eval c X.env);pure (ForInStep.yield ok) else pure (ForInStep.yield r)) (TP X pins σ Q) X.xe s
def qvc:TT:=λ_ H Q=>Q true H
theorem qlw {σ:St} {H:Hp} {Q:Bool->Hp->Prop} (h:Q true H):qvc σ H Q:=h
theorem qbo {X:Cx}:qri X [] qvc:=λ_ _ _ H _ I h=>wpAny_tests_nil ⟨H,I,h⟩
theorem qf7 {X:Cx} {c:Expr} {t:TT} (h:PT X c t):qri X [c] t:=λpins s σ H Q I q=>wpAny_tests_one (h pins s σ H Q I q)
def qdp (J:It) (Q:VK) (g:TG) (tc:TT) (te:TE) (σc:St) (H1:Hp):Prop:=∃ W:Nat->Nat->List V->Hp->Prop,(∃ m,W 0 m [] H1)/\∀ i m ys H2,W i m ys H2 ->
 (J.stop i H2/\ys.length<=sizeLine/\∀ p,H2 p=none->Q (.ref p) (upd H2 p (.lst ys))) \/
 (J.go i H2/\ys.length<sizeLine/\∃ N:List V->Hp->Prop,(∀ zs H',N zs H'->∃ m',m'<m/\W (i+1) m' zs H')/\∀ x H3,J.yld i H2 x H3->g x σc H3 λσ4 H4=>tc σ4 H4 λb H5=>if b=true then te σ4 H5 λv H6=>N (ys ++ [v]) H6 else N ys H5)
def tLC (nv:Nat) (fv:List Nat) (wi:TI) (g:TG) (tc:TT) (te:TE):TE:=λσ H Q=>wi σ H λJ H1=>qdp J Q g tc te (lcσ nv fv σ) H1
theorem qk6 {prog:Program} {w:World} {A:Around} {R:Result->Shared->Prop} {s:Shared} {elt target iter:Expr} {ifs:List Expr} {scope:Scope} {pos:Pos} {it acc:Value} {env:Env} (I:Nat->Shared->Prop)
  (turn:∀ n s,I n s->wpAny (model prog w) A (pyNext it) (λr s₁=>match r with
   | none=>R (.ok .next) s₁
   | some v=>wpAny (model prog w) A (letOwnedTupleGo target it v) (λ_ s₁'=>wpAny (model prog w) A (assign target env v) (λ_ s₂ =>
     wpAny (model prog w) A (forIn ifs true λc r=>if r=true then do let ok <- isTrue c env (eval c env);pure (ForInStep.yield ok) else pure (ForInStep.yield r)) (λok s₃ =>
      if ok=true then wpAny (model prog w) A (eval elt env) (λx s₄ =>
       wpAny (model prog w) A (call (.builtin "list.append") [acc,x]) (λ_ s₅=>∃ m,m<n/\I m s₅) (notedBy (model prog w) A env λe s'=>R (.error e) s') s₄) (notedBy (model prog w) A env λe s'=>R (.error e) s') s₃
      else ∃ m,m<n/\I m s₃) (notedBy (model prog w) A env λe s'=>R (.error e) s') s₂) (notedBy (model prog w) A env λe s'=>R (.error e) s') s₁') (notedBy (model prog w) A env λe s'=>R (.error e) s') s₁) (notedBy (model prog w) A env λe s'=>R (.error e) s') s)
  (n:Nat) (h:I n s):codeAny (model prog w) A (.compLoop (.ListComp elt [⟨target,iter,ifs,0⟩] scope pos) 0 it acc env) R s:=by
 refine codeAny_loop rfl I (λn s hI=>?_) n h
 show wpAny _ A ((compTurn (.ListComp elt [⟨target,iter,ifs,0⟩] scope pos) 0 it acc env).onRaise (λx=>do noteFrame x env;theTreesLotGoes x)) _ _ s
 refine wpAny_noted ?_;rw[compTurn_list];refine wpAny_bind (wpAny_standAt (wpAny_bind (wpAny_mono (turn n s hI) (λr s₁ h₁=>?_) λ_ _ h'=>h')))
 cases r with
 | none=>exact wpAny_pure h₁
 | some v =>
  refine wpAny_bind (wpAny_mono h₁ (λ_ s₁' h₁'=>?_) λ_ _ h'=>h');refine wpAny_bind (wpAny_mono h₁' (λ_ s₂ h₂=>wpAny_bind (wpAny_mono h₂ (λok s₃ h₃=>?_) λ_ _ h'=>h')) λ_ _ h'=>h')
  cases ok with
  | false=>exact wpAny_pure ⟨rfl,h₃⟩
  | true =>
   exact wpAny_bind (wpAny_bind (wpAny_mono h₃ (λx s₄ h₄=>wpAny_bind (wpAny_mono h₄ (λ_ s₅ h₅=>wpAny_pure (wpAny_pure ⟨rfl,h₅⟩)) λ_ _ h'=>h')) λ_ _ h'=>h'))
def qk7 (nv:Nat) (g:TG):Prop:=∀ x σ H (K:St->Hp->Prop),g x σ H K->g x σ H λσ' H'=>K σ' H'/\σ'.length=σ.length/\∀ i,nv<=i->σ'[i]?=σ[i]?
theorem qb0 {nv i:Nat} (h:i<nv):qk7 nv (qhw i):=λx σ H K q=>⟨q,by simp,λj hj=>by rw[List.getElem?_set_ne (by omega)]⟩
theorem qhf {F:Frag} {nv i j:Nat} (hi:i<nv) (hj:j<nv):qk7 nv (qu8 F 2 (qpy (qhw i) (qpy (qhw j) qu7))):=λx σ H K ⟨a,xs,e,hq,hl,v,r,e1,v2,r2,e2,e3,q⟩ =>
 ⟨a,xs,e,hq,hl,v,r,e1,v2,r2,e2,e3,q,by simp,λk hk=>by rw[List.getElem?_set_ne (by omega),List.getElem?_set_ne (by omega)]⟩
abbrev lobj (us:List Value) (n:Nat):Obj:={ cls:=.type "list",data:=.seq us.toArray n }
theorem qqi {Y:Cx} {D it:Addr} {J:It} {fp:List Addr} {tn:Nat->Heap->Prop} {g:TG} {tc:TT} {te:TE} {Q:VK} {W:Nat->Nat->List V->Hp->Prop} {nv n0 m0:Nat} {σc:St} {H:Hp} {s:Shared}
  {elt target iter:Expr} {ifs:List Expr} {scope:Scope} {pos:Pos} {R:Result->Shared->Prop} (hx:Y.xe=λ_ _=>False)
  (hc:Y.calm=true) (hg:PG Y target g) (hk:qk7 nv g) (hi:qri Y ifs tc) (he:PE Y elt te) (T:Turn Y.prog Y.w Y.K target J fp it tn)
  (hnv:∀ i,i<nv->∀ v,σc[i]?≠some (some v))
  (d1:D≠Y.env.locals) (d2:D∈Y.ex) (d3:D ∉ Y.fs) (d4:∀ x c,Y.env.cells.lookup x=some c->c≠D) (d5:D ∉ fp) (d6:Y.pn=[])
  (hf:∀ b∈fp,b≠Y.env.locals/\b ∉ Y.fs/\(b∈Y.ex\/Y.s₀.heap.objs.size<=b)/\(∀ x c,Y.env.cells.lookup x=some c->c≠b))
  (I0:Inv Y [(D,lobj [] n0)] σc H s) (st:tn 0 s.heap) (fr:∀ b∈fp,H b=none) (w0:W 0 m0 [] H)
  (turn:∀ i m ys H2,W i m ys H2->(J.stop i H2/\ys.length<=sizeLine/\∀ p,H2 p=none->Q (.ref p) (upd H2 p (.lst ys))) \/
   (J.go i H2/\ys.length<sizeLine/\∃ N:List V->Hp->Prop,(∀ zs H',N zs H'->∃ m',m'<m/\W (i+1) m' zs H')/\∀ x H3,J.yld i H2 x H3->g x σc H3 λσ4 H4=>tc σ4 H4 λb H5=>if b=true then te σ4 H5 λv H6=>N (ys ++ [v]) H6 else N ys H5))
  (hend:∀ ys us n H' s',Inv Y [(D,lobj us n)] σc H' s'->Vals ys us->ys.length<=sizeLine->(∀ p,H' p=none->Q (.ref p) (upd H' p (.lst ys)))->R (.ok .next) s') :
  codeAny (model Y.prog Y.w) Y.A (.compLoop (.ListComp elt [⟨target,iter,ifs,0⟩] scope pos) 0 (.ref it) (.ref D) Y.env) R s:=by
 have fpok:∀ {H':Hp} {o:Obj},(∀ b∈fp,H' b=none)->∀ b∈fp,qjz Y [(D,o)] H' b:=fun {H' o} hn b hb=>by
  obtain ⟨f1,f2,f3,f4⟩:=hf b hb;refine ⟨hn b hb,f1,f2,f3,f4,λp hp=>?_⟩;rw[d6] at hp;have e:p=(D,o):=by simpa using hp
  rw[e];exact λz=>d5 (by rw[show D=b from z];exact hb)
 refine qk6 (λn s'=>∃ i ys us k H',Inv Y [(D,lobj us k)] σc H' s'/\Vals ys us/\tn i s'.heap/\(∀ b∈fp,H' b=none)/\W i n ys H') ?_ m0 ⟨0,[],[],n0,H,I0,.nil,st,fr,w0⟩;rintro n s3 ⟨i,ys,us,k,H3,I3,rv,st3,fr3,w3⟩;have ex0:∀ {E':Value->Shared->Prop} {e:Value} {s':Shared},Y.xe e s'->E' e s':=fun {E' e s'} z=>by rw[hx] at z;exact z.elim
 rcases turn i n ys H3 w3 with ⟨stop,hz,q⟩|⟨go,hz,N,hN,step⟩
 ·refine thn (T.done Y rfl rfl rfl hc i _ s3 σc H3 _ I3 (fpok fr3) st3 stop) λr s4 hq__=>?_
  obtain ⟨hr,I4⟩:=hq__;subst hr;exact hend ys us k H3 s4 I4 rv hz q
 ·refine thn (T.item Y rfl rfl rfl hc i _ s3 σc H3 _ I3 (fpok fr3) st3 go) λr s4 hq__=>?_
  obtain ⟨u,hr,h4⟩:=hq__;subst hr;refine thn h4 λ_ s5 hq__=>?_
  obtain ⟨x,H5,I5,r5,y5,st5,fr5⟩:=hq__;have I5':=I5.pinned (fpok fr5) (T.obj _ _ st5);refine wpAny_mono (hg _ s5 σc H5 x u _ I5' r5 (hk x σc H5 _ (step x H5 y5))) (λ_ s6 hq__=>?_) λ_ _ z=>ex0 z
  obtain ⟨σ6,H6,I6,q6,l6,e6⟩:=hq__;have wk:∀ (i:Nat) v,σc[i]?=some (some v)->σ6[i]?=some (some v):=λi v e=>by
   by_cases h:nv<=i
   ·rw[e6 i h];exact e
   ·exact absurd e (hnv i (by omega) v)
  have back:∀ {o:Obj} {H':Hp} {s':Shared},Inv Y ([(D,o)] ++ qhx fp s5.heap) σ6 H' s'->Inv Y [(D,o)] σc H' s'/\tn (i+1) s'.heap/\∀ b∈fp,H' b=none:=fun {o H' s'} I'=>by
   refine ⟨(I'.unpinned).weak (by rw[<- l6]) wk,T.keep _ _ _ st5 λb hb o e=>(I'.pin (b,o) (List.mem_append_right _ (List.mem_append_right _ (qd2 hb e)))).1,λb hb=>?_⟩;obtain ⟨o,e,_⟩:=T.obj _ _ st5 b hb;exact (I'.pin (b,o) (List.mem_append_right _ (List.mem_append_right _ (qd2 hb e)))).2.1
  refine wpAny_mono (hi _ s6 σ6 H6 _ I6 q6) (λb s7 hq__=>?_) λ_ _ z=>ex0 z
  obtain ⟨H7,I7,q7⟩:=hq__
  cases b with
  | false =>
   obtain ⟨m',hm,w7⟩:=hN ys H7 q7;obtain ⟨I8,st8,fr8⟩:=back I7;exact ⟨m',hm,i+1,ys,us,k,H7,I8,rv,st8,fr8,w7⟩
  | true =>
   refine wpAny_mono (he _ s7 σ6 H7 _ I7 q7) (λu2 s8 hq__=>?_) λ_ _ z=>ex0 z
   obtain ⟨v,H8,I8,r8,n8⟩:=hq__;obtain ⟨m',hm,w8⟩:=hN _ H8 n8;obtain ⟨I9,st9,fr9⟩:=back I8;obtain ⟨eD,nD,_,_,_⟩:=I9.pin (D,lobj us k) (by simp);have hlen:=rv.length;refine call_meets F.slot_list_append ⟨_,eD,rfl⟩ F.entry_list_append (F.args_list_append_2 _ _) (PySem.list_append D us.toArray k u2 (by rw[List.size_toArray];omega)) ⟨eD,?_⟩;have q:=PySem.IsL.update eD (λx_1=>x_1.push u2);have eq:us.toArray.push u2=(us ++ [u2]).toArray:=by simp
   rw[eq] at q;obtain ⟨n',q⟩:∃ n',(s8.heap.update D (Obj.mapSeq λx_1=>x_1.push u2)).get? D=some (lobj (us ++ [u2]) n'):=⟨_,q⟩;have I10:Inv Y [] σc H8 s8:=I9.pins_of λp hp=>by cases hp
   have I11:Inv Y [] σc H8 { s8 with heap:=s8.heap.update D (Obj.mapSeq λx_1=>x_1.push u2),toks:=s8.toks }:=
    I10.turned (it:=D) (λb o hb e=>(Heap.get?_update_other s8.heap (Obj.mapSeq _) (Ne.symm hb)).trans e) nD d1 (.inl d2) d4 (λp hp=>by rw[d6] at hp;cases hp)
   refine ⟨m',hm,i+1,ys ++ [v],us ++ [u2],n',H8,I11.pins_of (λp hp=>?_),rv.append (.cons r8 .nil),?_,fr9,w8⟩
   ·have e:p=(D,lobj (us ++ [u2]) n'):=by simpa using hp
    subst e;exact ⟨q,nD,d1,d3,λv z=>by have z':Data.seq _ _=Data.cell v:=z;cases z'⟩
   ·refine T.keep _ _ _ st9 λb hb o e=>?_
    exact (Heap.get?_update_other s8.heap (Obj.mapSeq _) (λz=>d5 (by rw[z];exact hb))).trans e
section
variable {X:Cx} {pins:List (Addr×Obj)} {σ:St} {H:Hp} {s:Shared} {scope:Scope} {cl:List (Str×Addr)} {vars frees:List Str} {fv:List Nat} {elt target iter:Expr} {ifs:List Expr} {pos:Pos}
def qr9 (X:Cx) (pins:List (Addr×Obj)) (σ:St) (Q:VK) (D C:Addr) (s':Shared):Prop:=
 ∃ (ys:List V) (H':Hp) (oC:Obj) (m:Str->Option Value),Inv X (pins ++ [(C,oC)]) σ (upd H' D (.lst ys)) s'/\s'.heap.Ns C m/\qjz X pins (upd H' D (.lst ys)) C/\Q (.ref D) (upd H' D (.lst ys))
theorem qmr {J:It} {fp:List Addr} {it:Addr} {tn:Nat->Heap->Prop} {g:TG} {tc:TT} {te:TE} {Q:VK} {W:Nat->Nat->List V->Hp->Prop} {m0:Nat} {E:Value->Shared->Prop} {E2:Value->Addr->Value->Shared->Prop}
  (hc:X.calm=true) (L:qr8 X scope cl) (fo:FvOk X scope cl frees fv) (hk:qk7 vars.length g)
  (hg:∀ C s H ex,PG (blk X (vars ++ frees) scope cl C s H ex) target g) (hi:∀ C s H ex,qri (blk X (vars ++ frees) scope cl C s H ex) ifs tc) (he:∀ C s H ex,PE (blk X (vars ++ frees) scope cl C s H ex) elt te)
  (I:Inv X pins σ H s) (T:Turn X.prog X.w X.K target J fp it tn) (st:tn 0 s.heap) (hf:∀ b∈fp,qjz X pins H b) (w0:W 0 m0 [] H)
  (turn:∀ i m ys H2,W i m ys H2->(J.stop i H2/\ys.length<=sizeLine/\∀ p,H2 p=none->Q (.ref p) (upd H2 p (.lst ys))) \/
   (J.go i H2/\ys.length<sizeLine/\∃ N:List V->Hp->Prop,(∀ zs H',N zs H'->∃ m',m'<m/\W (i+1) m' zs H')/\∀ x H3,J.yld i H2 x H3->g x (lcσ vars.length fv σ) H3 λσ4 H4=>tc σ4 H4 λb H5=>if b=true then te σ4 H5 λv H6=>N (ys ++ [v]) H6 else N ys H5)) :
  wpAny (model X.prog X.w) X.A (newList []) (λacc s₃=>wpAny (model X.prog X.w) X.A (newFunctionEnv scope X.env.globals cl [] X.env.qual none .none (some X.env)) (λcenv s₄ =>
   codeAny (model X.prog X.w) X.A (.compStart (.ListComp elt [⟨target,iter,ifs,0⟩] scope pos) 0 (.ref it) acc { cenv with scope:=relabel scope X.env })
    (λr s'=>match r with|.ok _=>∃ D,acc=.ref D/\qr9 X pins σ Q D cenv.locals s'|.error x=>E2 acc cenv.locals x s') s₄) E s₃) E s:=by
 have hoo:∀ b∈fp,∃ o,s.heap.get? b=some o:=λb hb=>let ⟨o,e,_⟩:=T.obj 0 _ st b hb;⟨o,e⟩
 refine wpAny_newObj_type (wpAny_newFunctionEnv L.nocell (by intro y hy;simp at hy) (λh₁ hns hsb=>?_) L.kind);dsimp only at hns hsb ⊢;have hC:(s.heap.push qak).objs.size=s.heap.objs.size+1:=Heap.size_push ..;have keep1:∀ b o,b≠(s.heap.push qak).objs.size->(s.heap.push qak).get? b=some o->h₁.get? b=some o:=λb o hb e=>hsb.extBut b o hb (Heap.get?_push_of_some _ e)
 have I0:Inv (blk X (vars ++ frees) scope cl (s.heap.push qak).objs.size { s with heap:=s.heap.push qak } H (s.heap.objs.size :: fp)) [(s.heap.objs.size,qak)] (lcσ vars.length fv σ) H { s with heap:=h₁,toks:=s.toks+([]:List (Str×Value)).length }:=
  qqh I L fo hf hoo (by simpa using hns) keep1
 have st1:tn 0 h₁:=T.keep 0 _ _ st λb hb o e=>keep1 b o (ltS e) (Heap.get?_push_of_some _ e)
 have loop:codeAny (model X.prog X.w) X.A (.compLoop (.ListComp elt [⟨target,iter,ifs,0⟩] scope pos) 0 (.ref it) (.ref s.heap.objs.size) (compEnvC scope cl (s.heap.push qak).objs.size X.env))
   (λr s'=>match r with|.ok _=>∃ D,Value.ref s.heap.objs.size=.ref D/\qr9 X pins σ Q D (s.heap.push qak).objs.size s'|.error x=>E2 (.ref s.heap.objs.size) (s.heap.push qak).objs.size x s') { s with heap:=h₁,toks:=s.toks+([]:List (Str×Value)).length }:=by
  refine qqi (Y:=blk X (vars ++ frees) scope cl (s.heap.push qak).objs.size { s with heap:=s.heap.push qak } H (s.heap.objs.size :: fp)) (nv:=vars.length) (n0:=0) rfl hc (hg _ _ _ _) hk (hi _ _ _ _) (he _ _ _ _) T (λi hi v e=>?_)
   neS (by show s.heap.objs.size∈s.heap.objs.size :: fp;simp) ?_ (λx c e=>?_) (λz=>?_) rfl (λb hb=>?_) I0 st1 (λb hb=>(hf b hb).1) w0 turn ?_
  ·rw[show lcσ vars.length fv σ=List.replicate vars.length none ++ fv.map λj=>(σ[j]?).join from rfl,List.getElem?_append_left (by simpa using hi),List.getElem?_replicate_of_lt (by simpa using hi)] at e
   cases e
  ·exact (I0.pin (s.heap.objs.size,qak) (by simp)).2.2.2.1
  ·obtain ⟨v,q⟩:=I.cell x c (L.sub x c e)
   exact Nat.ne_of_lt q.lt
  ·obtain ⟨o,e⟩:=hoo _ z
   exact absurd (Heap.lt_size e) (Nat.lt_irrefl _)
  ·exact ⟨(I0.ok.exf b (List.mem_cons_of_mem _ hb)).1,I0.ok.exfs b (List.mem_cons_of_mem _ hb),.inl (List.mem_cons_of_mem _ hb),(I0.ok.exf b (List.mem_cons_of_mem _ hb)).2⟩
  ·intro ys us n H' s' I' rv hz q
   obtain ⟨eD,nD,_,fD,_⟩:=I'.pin (s.heap.objs.size,lobj us n) (by simp);obtain ⟨mC,hnC,_⟩:=I'.loc;obtain ⟨oC,es,ep,eC,dC,r1,r2⟩:=id hnC;have nC:H' (s.heap.push qak).objs.size=none:=I'.free;have neDC:(s.heap.push qak).objs.size≠s.heap.objs.size:=neS.symm;have lt:∀ {b:Addr} {o:Obj},s.heap.get? b=some o->b≠s.heap.objs.size/\b≠(s.heap.push qak).objs.size:=λe=>⟨neZ e,ltS e⟩
   have nex:∀ {b:Addr} {o:Obj},s.heap.get? b=some o->b ∉ fp->b ∉ s.heap.objs.size :: fp:=λe hb z=>by
    rcases List.mem_cons.mp z with z|z
    ·exact (lt e).1 z
    ·exact hb z
   have upn:∀ {b:Addr} {u:HO},H' b=some u->upd H' s.heap.objs.size (.lst ys) b=some u:=λe=>by rw[qam (qaj e nD)];exact e
   have un:Un (frs X.stack) fp H (upd H' s.heap.objs.size (.lst ys)) s.heap s'.heap:=
    {keep:=λb o e n hb hx=>I'.base.keep b o (Heap.get?_push_of_some _ e) n hb (nex e hx)
     slot:=λb o e n hb hx=>I'.base.slot b o (Heap.get?_push_of_some _ e) n hb (nex e hx)
     free:=λb o e n hx=>by rw[qam (lt e).1];exact I'.base.free b o (Heap.get?_push_of_some _ e) n (nex e hx)
     there:=λb o e hx=>I'.base.there b o (Heap.get?_push_of_some _ e) (nex e hx)
     tups:=λb xs e=>upn (I'.base.tups b xs e)
     frzs:=λb o u e=>upn (I'.base.frzs b o u e)
     tbls:=λb ps e=>let ⟨more,z⟩:=I'.base.tbls b ps e;⟨more,upn z⟩ }
   have hok:HOk X.prog X.w (upd H' s.heap.objs.size (.lst ys)) s'.heap:=λb u e=>by
    by_cases hb:b=s.heap.objs.size
    ·subst hb;rw[qat] at e;cases e
     exact ⟨hz,us,n,rv,eD⟩
    ·rw[qam hb] at e
     exact (I'.hok b u e).stay (λc v _ z=>z) (λc z=>upn z) λc xs z=>upn z
   have J1:Inv X pins σ (upd H' s.heap.objs.size (.lst ys)) s':=I.call' (ch:=fp) I'.os un hok I'.bare λb hb=>⟨(hf b hb).2.2.2.1,(hf b hb).2.1,(hf b hb).2.2.2.2.1,(hf b hb).2.2.2.2.2⟩
   have fC:qjz X pins (upd H' s.heap.objs.size (.lst ys)) (s.heap.push qak).objs.size:=I.fpOk leS (by rw[qam neDC];exact nC);refine ⟨_,rfl,ys,H',oC,mC,J1.pins_of (λp hp=>?_),hnC,fC,q _ nD⟩
   rcases List.mem_append.mp hp with z|z
   ·exact J1.pin p (List.mem_append_right _ z)
   ·have e:p=((s.heap.push qak).objs.size,oC):=by simpa using z
    subst e;exact ⟨eC,fC.1,fC.2.1,fC.2.2.1,λv z=>by rw[dC] at z;cases z⟩
 exact codeAny_compStart_list loop (T.self _ 0 _ _ _ st1 loop)
theorem qem {wi:TI} {g:TG} {tc:TT} {te:TE} (hc:X.calm=true) (L:qr8 X scope cl) (fo:FvOk X scope cl frees fv) (hit:PI X target iter wi) (hk:qk7 vars.length g)
  (hg:∀ C s H ex,PG (blk X (vars ++ frees) scope cl C s H ex) target g) (hi:∀ C s H ex,qri (blk X (vars ++ frees) scope cl C s H ex) ifs tc) (he:∀ C s H ex,PE (blk X (vars ++ frees) scope cl C s H ex) elt te)
  (hs:∀ x,foldedSetIterable iter X.env x=pure x:=by intro _;rfl):PE X (.ListComp elt [⟨target,iter,ifs,0⟩] scope pos) (tLC vars.length fv wi g tc te):=by
 intro pins s σ H Q I h;rw[eval_ListComp];refine wpAny_comprehension_free (use:=none) rfl hs L.clos L.kind L.names (thn (hit pins s σ H _ I h) λv s1 h1=>thn h1 λitv s2 h2=>?_);obtain ⟨it,fp,tn,J,H2,e,I2,T,st2,f2,W,⟨m0,w0⟩,turn⟩:=h2;subst e;refine wpAny_mono (qmr (E:=X.xe) (E2:=λacc C x s'=>compPost (model X.prog X.w) X.A X.xe none (EP X pins σ Q) acc C (.error x) s') hc L fo hk hg hi he I2 T st2 f2 w0 turn) (λacc s3 h3=>thn h3 λcenv s4 h4=>codeAny_mono h4 λr s' h5=>?_) λ_ _ z=>z
 cases r with
 | error x=>exact h5
 | ok f =>
  obtain ⟨D,rfl,ys,H',oC,m,J1,hn,fC,q⟩:=h5;refine ⟨m,hn,λh' sb=>⟨.ref D,_,?_,rfl,q⟩⟩;exact J1.unpinned.turned (t':=s'.toks) (it:=cenv.locals) (λb o hb e=>(sb.2 b hb).trans e) fC.1 fC.2.1 fC.2.2.2.1 fC.2.2.2.2.1 fC.2.2.2.2.2
theorem qj9 {wi:TI} {g:TG} {tc:TT} {te:TE} {i:Nat} {x:Str} {spos pos':Pos} (hN:X.N.Nodup) (hix:X.N[i]?=some x) (hlx:Loc X.env.scope x) (hc:X.calm=true) (L:qr8 X scope cl) (fo:FvOk X scope cl frees fv) (hit:PI X target iter wi) (hk:qk7 vars.length g)
  (hg:∀ C s H ex,PG (blk X (vars ++ frees) scope cl C s H ex) target g) (hi:∀ C s H ex,qri (blk X (vars ++ frees) scope cl C s H ex) ifs tc) (he:∀ C s H ex,PE (blk X (vars ++ frees) scope cl C s H ex) elt te)
  (hsw:swapsWith (.ListComp elt [⟨target,iter,ifs,0⟩] scope pos) (some (.Name x pos')) spos.line X.env=pure true:=by rfl)
  (hs:∀ x,foldedSetIterable iter X.env x=pure x:=by intro _;rfl) (hf:X.fn x=true\/X.env.scope.names.lookup x=some .local:=by first|exact .inl rfl|exact .inr rfl|assumption) :
  PS X (.Assign [.Name x pos'] (.ListComp elt [⟨target,iter,ifs,0⟩] scope pos) spos) (qtz (tLC vars.length fv wi g tc te) (qhw i)):=by
 intro pins s σ H Dn I h;rw[exec_Assign_Name_used _ _ _ _ hsw];refine wpAny_bind (wpAny_standAt (wpAny_bind ?_))
 show wpAny _ X.A (do let _ <- comprehension (.ListComp elt [⟨target,iter,ifs,0⟩] scope pos) scope X.env _ (newList []) false (eval iter X.env) (some (assign (.Name x pos') X.env))) _ _ s
 refine wpAny_bind (wpAny_mono (wpAny_comprehension_free (use:=some (assign (.Name x pos') X.env)) (Q:=λ_ s'=>SP X pins Dn .next s') rfl hs L.clos L.kind L.names (thn (hit pins s σ H _ I h) λv s1 h1=>thn h1 λitv s2 h2=>?_)) (λ_ s' hq=>wpAny_pure (wpAny_pure hq)) λ_ _ e=>e);obtain ⟨it,fp,tn,J,H2,e,I2,T,st2,f2,W,⟨m0,w0⟩,turn⟩:=h2;subst e;refine wpAny_mono (qmr (Q:=λx H1=>qhw i x σ H1 Dn.nx) (E:=X.xe) (E2:=λacc C y s'=>compPost (model X.prog X.w) X.A X.xe (some (assign (.Name x pos') X.env)) (λ_ s'=>SP X pins Dn .next s') acc C (.error y) s') hc L fo hk hg hi he I2 T st2 f2 w0 turn) (λacc s3 h3=>thn h3 λcenv s4 h4=>codeAny_mono h4 λr s' h5=>?_) λ_ _ z=>z
 cases r with
 | error y=>exact h5
 | ok f =>
  obtain ⟨D,rfl,ys,H',oC,m,J1,hn,fC,q⟩:=h5
  show wpAny (model X.prog X.w) X.A (assign (.Name x pos') X.env (.ref D)) (λ_ s''=>∃ m,s''.heap.Ns cenv.locals m/\∀ h',Heap.SameBut cenv.locals s''.heap h'->SP X pins Dn .next { s'' with heap:=h' }) X.xe s'
  refine thn (qaq (i:=i) hN hix hlx hf _ s' σ _ (.ref D) (.ref D) (λσ' H''=>Dn.nx σ' H''/\H''=upd H' D (.lst ys)) J1 rfl ⟨q,rfl⟩) λ_ s6 hq__=>?_
  obtain ⟨σ6,H6,I6,q6,e6⟩:=hq__;subst e6;have eC:=(I6.pin (cenv.locals,oC) (by simp)).1;have eC':=(J1.pin (cenv.locals,oC) (by simp)).1;obtain ⟨o,es,ep,ho,r1⟩:=hn;rw[eC'] at ho;cases ho;refine ⟨m,⟨oC,es,ep,eC,r1⟩,λh' sb=>⟨σ6,_,?_,q6⟩⟩;exact I6.unpinned.turned (t':=s6.toks) (it:=cenv.locals) (λb o hb e=>(sb.2 b hb).trans e) fC.1 fC.2.1 fC.2.2.2.1 fC.2.2.2.2.1 fC.2.2.2.2.2
end
open PySem PySem.Spec PyProof.Rows
theorem qms {K:Frag} {a:Addr} {xs:List V} {g:TG} {tc:TT} {te:TE} {Q:VK} {σ:St} {H:Hp} (Pv:Nat->List V->Hp->Prop) (hz:xs.length<=sizeLine) (h0:Pv 0 [] H) (hl:∀ i ys H,Pv i ys H->SqL K H a xs/\ys.length<=i)
  (hs:∀ i x ys H,xs[i]?=some x->Pv i ys H->g x σ H λσ4 H4=>tc σ4 H4 λb H5=>if b=true then te σ4 H5 λv H6=>Pv (i+1) (ys ++ [v]) H6 else Pv (i+1) ys H5)
  (hd:∀ ys H p,Pv xs.length ys H->H p=none->Q (.ref p) (upd H p (.lst ys))) :
  qdp (Itl K a) Q g tc te σ H:=by
 refine ⟨λi m ys H=>m=xs.length-i/\i<=xs.length/\Pv i ys H,⟨xs.length,by simp,Nat.zero_le _,h0⟩,?_⟩;rintro i m ys H2 ⟨rfl,hi,p⟩;obtain ⟨q,hy⟩:=hl i ys H2 p
 by_cases hlt:i<xs.length
 ·refine .inr ⟨⟨xs,xs[i],q,by simp[hlt]⟩,by omega,Pv (i+1),λzs H' p'=>⟨xs.length-(i+1),by omega,rfl,hlt,p'⟩,λx H3 y=>?_⟩
  obtain ⟨e,y⟩:=y;subst e;exact hs i x ys _ (y xs q) p
 ·have e:i=xs.length:=by omega
  subst e;exact .inl ⟨⟨xs,q,Nat.le_refl _⟩,by omega,λp' hp'=>hd ys H2 p' p hp'⟩
theorem qoe {lo:Int} {n:Nat} {g:TG} {tc:TT} {te:TE} {Q:VK} {σ:St} {H:Hp} (Pv:Nat->List V->Hp->Prop) (hz:n<=sizeLine) (h0:Pv 0 [] H) (hl:∀ i ys H,Pv i ys H->ys.length<=i)
  (hs:∀ i ys H,i<n->Pv i ys H->g (.int (lo+i)) σ H λσ4 H4=>tc σ4 H4 λb H5=>if b=true then te σ4 H5 λv H6=>Pv (i+1) (ys ++ [v]) H6 else Pv (i+1) ys H5)
  (hd:∀ ys H p,Pv n ys H->H p=none->Q (.ref p) (upd H p (.lst ys))) :
  qdp (Itr lo n) Q g tc te σ H:=by
 refine ⟨λi m ys H=>m=n-i/\i<=n/\Pv i ys H,⟨n,by simp,Nat.zero_le _,h0⟩,?_⟩;rintro i m ys H2 ⟨rfl,hi,p⟩;have hy:=hl i ys H2 p
 by_cases hlt:i<n
 ·refine .inr ⟨hlt,by omega,Pv (i+1),λzs H' p'=>⟨n-(i+1),by omega,rfl,hlt,p'⟩,λx H3 y=>?_⟩
  obtain ⟨e,y⟩:=y;subst e y;exact hs i ys _ hlt p
 ·have e:i=n:=by omega
  subst e;exact .inl ⟨Nat.le_refl _,by omega,λp' hp'=>hd ys H2 p' p hp'⟩
theorem qpi {K:Frag} {a b:Addr} {xs ys:List V} {g:TG} {tc:TT} {te:TE} {Q:VK} {σ:St} {H:Hp} (Pv:Nat->List V->Hp->Prop) (hz:xs.length<=sizeLine) (h0:Pv 0 [] H) (hl:∀ i zs H,Pv i zs H->SqL K H a xs/\SqL K H b ys/\zs.length<=i)
  (hs:∀ i x y zs H p,xs[i]?=some x->ys[i]?=some y->H p=none->Pv i zs H->g (.ref p) σ (upd H p (.tup [x,y])) λσ4 H4=>tc σ4 H4 λb H5=>if b=true then te σ4 H5 λv H6=>Pv (i+1) (zs ++ [v]) H6 else Pv (i+1) zs H5)
  (hd:∀ i zs H p,i=min xs.length ys.length->Pv i zs H->H p=none->Q (.ref p) (upd H p (.lst zs))) :
  qdp (Itz K a b) Q g tc te σ H:=by
 refine ⟨λi m zs H=>m=min xs.length ys.length-i/\i<=min xs.length ys.length/\Pv i zs H,⟨min xs.length ys.length,by simp,Nat.zero_le _,h0⟩,?_⟩;rintro i m zs H2 ⟨rfl,hi,p⟩;obtain ⟨qa,qb,hy⟩:=hl i zs H2 p
 by_cases hlt:i<min xs.length ys.length
 ·have ha:i<xs.length:=by omega
  have hb:i<ys.length:=by omega
  refine .inr ⟨⟨xs,ys,xs[i],ys[i],qa,qb,by simp[ha],by simp[hb]⟩,by omega,Pv (i+1),λzs H' p'=>⟨min xs.length ys.length-(i+1),by omega,rfl,hlt,p'⟩,λx H3 y=>?_⟩;obtain ⟨t,rfl,ht,y⟩:=y;have ea:xs[i]?=some xs[i]:=by simp[ha]
  have eb:ys[i]?=some ys[i]:=by simp[hb]
  rw[y xs ys xs[i] ys[i] qa qb ea eb];exact hs i xs[i] ys[i] zs H2 t ea eb ht p
 ·exact .inl ⟨⟨xs,ys,qa,qb,by omega⟩,by omega,λp' hp'=>hd i zs H2 p' (by omega) p hp'⟩
open PySem PySem.Spec PyProof.Rows
structure New (H H':Hp) (p:Addr) (o:HO):Prop where
 same:Same H H'
 fresh:H p=none
 at_:H' p=some o
theorem qa0 {H:Hp} {p:Addr} {o:HO} (h:H p=none):New H (upd H p o) p o:=⟨qd4 h,h,qat⟩
def But (l:Addr) (H H':Hp):Prop:=∀ b o,H b=some o->b≠l->H' b=some o
theorem qe6 {H:Hp} {l:Addr} {o:HO}:But l H (upd H l o):=λb u e n=>by rw[qam n];exact e
theorem But.same {H0 H H':Hp} {l:Addr} (b:But l H H') (s:Same H0 H) (h:H0 l=none):Same H0 H':=λc o e=>b c o (s c o e) (qaj e h)
theorem But.tup {H H':Hp} {l:Addr} {o:HO} (b:But l H H') (h:H l=some o) (n:∀ xs,o≠.tup xs):∀ c xs,H c=some (.tup xs)->H' c=some (.tup xs):=λc xs e=>b c _ e (qa6 e h (λz=>n xs z.symm))
section
variable {X:Cx} {e:Expr} {es:List Expr} {te:TE} {t:TA} {pos:Pos}
def que (t:TA):TE:=λσ H Q=>t σ H λxs H1=>xs.length<=sizeLine/\∀ p H',New H1 H' p (.tup xs)->Q (.ref p) H'
def qsa (t:TA):TE:=λσ H Q=>t σ H λxs H1=>xs.length<=sizeLine/\∀ p H',New H1 H' p (.lst xs)->Q (.ref p) H'
theorem qmt {x1} (h:PA X es t):PE X (.Tuple es x1 pos) (que t):=by
 intro pins s σ H Q I hq;refine wpAny_Tuple_spliced (thn (h pos pins s σ H _ I hq) λus s1 ⟨xs,H1,I1,r,z,q⟩=>⟨by rw[<- r.length];exact z,?_⟩);have hf:H1 s1.heap.objs.size=none:=I1.hok.fresh (Nat.le_refl _);refine ⟨.ref s1.heap.objs.size,upd H1 s1.heap.objs.size (.tup xs),I1.laid (t':=s1.toks) (λb u e=>Heap.get?_push_of_some _ e) (Nat.le_refl _) ?_,rfl,q _ _ (qa0 hf)⟩;exact ⟨z,us,r,⟨_,Heap.get?_push_size _ rfl,rfl,_,rfl⟩⟩
theorem qc2 (h:PA X es t):PE X (.List es pos) (qsa t):=by
 intro pins s σ H Q I hq;refine wpAny_List_spliced (thn (h pos pins s σ H _ I hq) λus s1 ⟨xs,H1,I1,r,z,q⟩=>⟨by rw[<- r.length];exact z,?_⟩);have hf:H1 s1.heap.objs.size=none:=I1.hok.fresh (Nat.le_refl _);refine ⟨.ref s1.heap.objs.size,upd H1 s1.heap.objs.size (.lst xs),I1.laid (t':=s1.toks) (λb u e=>Heap.get?_push_of_some _ e) (Nat.le_refl _) ?_,rfl,q _ _ (qa0 hf)⟩;exact ⟨z,us,0,r,Heap.get?_push_size _ rfl⟩
theorem CallR.imp {f:Value} {r r':List V->Hp->VK->Prop} (h:CallR X f r) (i:∀ xs H Q,r' xs H Q->r xs H Q):CallR X f r':=λpins s σ H xs us Q I v q=>h pins s σ H xs us Q I v (i xs H Q q)
theorem OpR.imp {f:Value->Value->Sem Value} {r r':R2} (h:OpR X f r) (i:∀ x y H Q,r' x y H Q->r x y H Q):OpR X f r':=λpins s σ H x y v u Q I rx ry q=>h pins s σ H x y v u Q I rx ry (i x y H Q q)
theorem MtM.imp {id:String} {r r':V->List V->Hp->VK->Prop} (h:MtM X id r) (i:∀ x xs H Q,r' x xs H Q->r x xs H Q):MtM X id r':=λpins s σ H x xs v us Q I rx rv q=>h pins s σ H x xs v us Q I rx rv (i x xs H Q q)
theorem qd5:CallR X (.type "list") (λxs H Q=>∃ p ys,xs=[.ref p]/\(SqL X.K H p ys\/SqT X.K H p ys)/\∀ l H',New H H' l (.lst ys)->Q (.ref l) H'):=
 call_list_of.imp λ_ _ _ ⟨p,ys,e,h,q⟩=>⟨p,ys,e,h,λl hl=>q l _ (qa0 hl)⟩
inductive rSlLNS (K:Frag) (x:V) (lo hi:Option Int) (H:Hp) (Q:VK):Prop
 | mk:∀ a xs,x=.ref a->SqL K H a xs->(∀ p H',New H H' p (.lst (qlv xs lo hi))->Q (.ref p) H')->rSlLNS K x lo hi H Q
def quf (K:Frag):V->Option Int->Option Int->Hp->VK->Prop:=λx lo hi H Q=>rSlLNS K x lo hi H Q
theorem qhg:SlR X (quf X.K):=λpins s σ H x v vl vu lo hi sl Q I rx hs p1 p2 ⟨a,xs,e,h,q⟩=>qp8 pins s σ H x v vl vu lo hi sl Q I rx hs p1 p2 ⟨a,xs,e,h,λp hp=>q p _ (qa0 hp)⟩
inductive qpj  (x y:V) (H:Hp) (Q:VK):Prop
 | mk:∀ l b xs zs,x=.ref l->y=.ref b->H l=some (.lst xs)->H b=some (.lst zs)->xs.length+zs.length<=sizeLine->(∀ p H',New H H' p (.lst (xs ++ zs))->Q (.ref p) H')->qpj x y H Q
def qug:R2:=λx y H Q=>qpj x y H Q
theorem qqj:OpR X (binaryOp .Add) qug:=op_cat.imp λ_ _ _ _ ⟨l,b,xs,zs,e1,e2,h1,h2,z,q⟩=>⟨l,b,xs,zs,e1,e2,h1,h2,z,λp hp=>q p _ (qa0 hp)⟩
inductive rAppendNS  (x:V) (vs:List V) (H:Hp) (Q:VK):Prop
 | mk:∀ l xs y,x=.ref l->vs=[y]->H l=some (.lst xs)->xs.length<sizeLine->(∀ H',But l H H'->H' l=some (.lst (xs ++ [y]))->Q .non H')->rAppendNS x vs H Q
def qof:V->List V->Hp->VK->Prop:=λx vs H Q=>rAppendNS x vs H Q
theorem qd6:MtM X "list.append" qof:=mt_append.imp λ_ _ _ _ ⟨l,xs,y,e1,e2,h,z,q⟩=>⟨l,xs,y,e1,e2,h,z,q _ qe6 qat⟩
end
section
variable {X:Cx} {k:Nat} {C:Addr} {ps:List Str} {sp:Sp} {dvs:List V} {ds:List Value} {x f:Str} {p pos pos':Pos} {e o value:Expr} {es:List Expr} {ta tv:TE} {t:TA}
def qsb (C:Addr) (sp:Sp) (dvs:List V) (E:XK) (t:TA):TE:=λσ H Q=>t σ H λvs H1=>∀ x dx H',Same H1 H'->H1 x=none->H' x=some (.ins C dx [])->sp (.ref x :: (vs ++ dvs)) H' (λv H2=>v=.non/\Q (.ref x) H2) E
theorem qmu (D:qtr X.prog X.w X.K X.mg X.base C k x ps ds sp) (hr:Room (k+1) X.A) (hg:Gl X x) (hd:Vals dvs ds) (ha:PA X (e :: es) t) (hdb:(x == ("__debug__" : Str))=false:=by decide)
  (he:starEach (e :: es) X.env=(false,eval e X.env) :: starEach es X.env:=by rfl) (hpl:(backTo pos (starEach es X.env)).any (·.1)=false:=by rfl):PE X (.Call (.Name x p) (e :: es) [] pos) (qsb C sp dvs E0 t):=by
 obtain ⟨f,fd,F,hm,M,hb⟩:=D;intro pins s σ H Q I h;refine wpAny_Call_Name_kw (qfr I hg hm ?_ hdb);refine PySem.W.callWith_K (h₀:=X.base) I.ok.mod.kin M.kp (thn (ha pos pins s σ H _ I h) λus s1 ⟨vs,H1,I1,r,q⟩=>⟨I1.kIn,?_⟩) he hpl;refine qn2 M F hr hb hd qn9 I1 r λy dx h1 h2 h3=>q y dx _ ?_ h1 qat
 exact (qd4 h2).trans (qd4 (by rw[qam h3.symm];exact h1))
def quh (K:Frag) (ta tv:TE) (f:Str):TS:=λD σ H=>tv σ H λy H1=>ta σ H1 λx H2=>∃ a C dx fs,x=.ref a/\H2 a=some (.ins C dx fs)/\Cls K C/\NoAttr K C f/\fs.length<1000 /\
 ∀ H',But a H2 H'->H' a=some (.ins C dx (qes f y fs))->D.nx σ H'
theorem qb1 (ha:PE X o ta) (hv:PE X value tv) (hs:swapsWith value (some (.Attribute o f pos')) pos.line X.env=pure false):PS X (.Assign [.Attribute o f pos'] value pos) (quh X.K ta tv f):=by
 intro pins s σ H D I h;refine plainObj_wpAny_Assign_Attribute (thn (hv pins s σ H _ I h) λu s1 ⟨y,H1,I1,ry,q⟩=>thn (ha pins s1 σ H1 _ I1 q) λov s2 hq__=>?_) hs;obtain ⟨x,H2,I2,rx,a,C,dx,fs,ex,ea,c,n,l,q2⟩:=hq__;subst ex;obtain rfl:ov=Value.ref a:=rx;exact qk0 I2 ea c n l ry λs3 I3=>⟨σ,_,I3,q2 _ qe6 qat⟩
end
theorem qog {K:Frag} {a b:Addr} {xs ys:List V} {g:TG} {tb:TS} {D:Ends} {σ:St} {H:Hp} (Pv:Nat->St->Hp->Prop) (h0:Pv 0 σ H) (hl:∀ i σ H,Pv i σ H->SqL K H a xs/\SqL K H b ys)
  (hs:∀ i x y σ H p H',xs[i]?=some x->ys[i]?=some y->New H H' p (.tup [x,y])->Pv i σ H->g (.ref p) σ H' λσ2 H2=>tb { D with nx:=Pv (i+1),ct:=Pv (i+1),bk:=D.nx } σ2 H2)
  (hd:∀ i σ H,i=min xs.length ys.length->Pv i σ H->D.nx σ H) :
  ∃ W:Nat->Nat->St->Hp->Prop,(∃ m,W 0 m σ H)/\∀ i m σ H,W i m σ H ->
   ((Itz K a b).stop i H/\D.nx σ H)\/((Itz K a b).go i H/\∃ N:St->Hp->Prop,(∀ σ' H',N σ' H'->∃ m',m'<m/\W (i+1) m' σ' H')/\∀ x H',(Itz K a b).yld i H x H'->g x σ H' λσ2 H2=>tb { D with nx:=N,ct:=N,bk:=D.nx } σ2 H2):=
 qqf Pv h0 hl (λi x y σ H p e1 e2 hn p'=>hs i x y σ H p _ e1 e2 (qa0 hn) p') hd
theorem qh9 {X:Cx} {scope:Scope} {cl:List (Str×Addr)} (clos:closureFor scope X.env=pure cl) (kind:scope.kind=.function) (nocell:∀ y∈scope.names,y.2≠.cell)
  (names:∀ y∈scope.names,y.2=.local->scope.names.lookup y.1=some .local) (sub:∀ p∈cl,X.env.cells.lookup p.1=some p.2)
  (has:((relabel scope X.env).names.all λy=>(y.2 != .cell && y.2 != .free) || (cl.lookup y.1).isSome)=true):qr8 X scope cl:=by
 refine ⟨clos,kind,nocell,names,λx c e=>?_,λx h=>?_⟩
 ·have:∀ l:List (Str×Addr),l.lookup x=some c->(x,c)∈l:=λl=>by
   induction l with
   | nil=>intro z;simp at z
   | cons p r ih =>
    intro z;obtain ⟨y,d⟩:=p;rw[List.lookup_cons] at z
    by_cases q:(x == y)=true
    ·rw[q] at z
     have e1:x=y:=by simpa using q
     have e2:d=c:=Option.some.inj z;subst e1 e2;exact List.mem_cons_self
    ·have q':(x == y)=false:=by simpa using q
     rw[q'] at z;exact List.mem_cons_of_mem _ (ih z)
  exact sub (x,c) (this cl e)
 ·have:∀ (l:List (Str×NameKind)) (k:NameKind),l.lookup x=some k->(x,k)∈l:=λl k=>by
   induction l with
   | nil=>intro z;simp at z
   | cons p r ih =>
    intro z;obtain ⟨y,d⟩:=p;rw[List.lookup_cons] at z
    by_cases q:(x == y)=true
    ·rw[q] at z
     have e1:x=y:=by simpa using q
     have e2:d=k:=Option.some.inj z;subst e1 e2;exact List.mem_cons_self
    ·have q':(x == y)=false:=by simpa using q
     rw[q'] at z;exact List.mem_cons_of_mem _ (ih z)
  rw[List.all_eq_true] at has
  cases e:cl.lookup x with
  | some c=>exact ⟨c,rfl⟩
  | none =>
   rcases h with h|h
   ·have:=has _ (this _ _ h)
    rw[e] at this
    simp at this
   ·have:=has _ (this _ _ h)
    rw[e] at this
    simp at this
open PySem PySem.Spec PyProof.Rows
section
variable {X:Cx}
end
open PySem PySem.Spec PyProof.Rows
def FlT (h:Heap) (e T:Addr) (cls:Value) (dd:Option Addr) (fl:Value):Prop:=
 ∃ oe vs oT ts,h.get? e=some oe/\oe.cls=cls/\oe.dict=dd/\oe.data=.fields vs/\vs[1]?=some (.ref T)/\T≠e/\h.get? T=some oT/\oT.data=.fields ts/\ts[3]?=some fl
def Fl0 (h:Heap) (e:Addr) (cls:Value) (dd:Option Addr):Prop:=
 ∃ oe vs,h.get? e=some oe/\oe.cls=cls/\oe.dict=dd/\oe.data=.fields vs/\vs[1]?=some .none
def FpX (X:Cx) (H:Hp) (b:Addr):Prop:=
 H b=none/\b≠X.env.locals/\b ∉ X.fs/\X.s₀.heap.get? b=none/\(∀ x c,X.env.cells.lookup x=some c->c≠b)/\∀ p∈X.pn,p.1≠b
def Fly (X:Cx) (H:Hp) (h:Heap) (e:Addr) (cls:Value) (dd:Option Addr):Prop:=
 FpX X H e/\(Fl0 h e cls dd\/∃ T fl,FpX X H T/\FlT h e T cls dd fl)
abbrev XW:=Value->Option Addr->St->Hp->Prop
def XE (X:Cx) (W:XW) (ev:Value) (s:Shared):Prop:=
 ∃ e cls dd σ H,ev=.ref e/\Inv X [] σ H s/\Fly X H s.heap e cls dd/\W cls dd σ H
def qja (X:Cx):Prop:=X.stack=X.env :: X.outer/\X.env.frame=some X.env.locals/\X.ex=[]
section
variable {X:Cx} {σ:St} {H:Hp} {s:Shared} {h':Heap} {M:Model} {A:Around} {E:Value->Shared->Prop} {e T:Addr} {cls fl:Value} {dd:Option Addr}
theorem ObjOk.there {P:Program} {w:World} {H:Hp} {h:Heap} {a:Addr} {o:HO} (x:ObjOk P w H h a o):∃ u,h.get? a=some u:=by
 induction o with
 | lst xs=>obtain ⟨_,_,_,_,e⟩:=x;exact ⟨_,e⟩
 | tup xs=>obtain ⟨_,_,_,u,e,_⟩:=x;exact ⟨u,e⟩
 | dK kvs=>obtain ⟨_,_,_,_,u,_,_,e,_⟩:=x;exact ⟨u,e⟩
 | dT kvs=>obtain ⟨_,_,_,_,u,_,_,e,_⟩:=x;exact ⟨u,e⟩
 | set S n=>obtain ⟨u,_,_,_,e,_⟩:=x;exact ⟨u,e⟩
 | ins C dx fs=>obtain ⟨_,_,_,e,_⟩:=x;exact ⟨_,e⟩
 | own y=>exact x
 | xd fs=>obtain ⟨_,⟨u,_,_,e,_⟩,_⟩:=x;exact ⟨u,e⟩
 | met f y=>exact ⟨_,x⟩
 | rng lo hi=>obtain ⟨_,_,_,e⟩:=x;exact ⟨_,e⟩
 | frz u v _=>obtain ⟨e,_⟩:=x;exact ⟨_,e⟩
 | tbl ps=>exact ⟨_,x⟩
 | ext φ=>exact x.2.1
theorem Inv.fpX {H':Hp} {pins:List (Addr×Obj)} (hs:qja X) (I:Inv X pins σ H s) (hb:s.heap.get? e=none) (hn:H' e=none):FpX X H' e:=by
 refine ⟨hn,λz=>?_,λz=>?_,?_,λx c q z=>?_,λp hp z=>?_⟩
 ·obtain ⟨m,⟨o,_,_,ho,_⟩,_⟩:=I.loc
  rw[<- z,hb] at ho;cases ho
 ·obtain ⟨_,o,ho,_⟩:=I.funs.mem z
  rw[hb] at ho;cases ho
 ·cases q:X.s₀.heap.get? e with
  | none=>rfl
  | some o =>
   obtain ⟨o',ho'⟩:=I.base.there e o q (by rw[hs.2.2];simp);rw[hb] at ho';cases ho'
 ·obtain ⟨v,o,ho,_⟩:=I.cell x c q
  rw[z,hb] at ho;cases ho
 ·have:=(I.pin p (List.mem_append_left _ hp)).1
  rw[z,hb] at this;cases this
theorem Inv.noneOf {pins:List (Addr×Obj)} (I:Inv X pins σ H s) (hb:s.heap.get? e=none):H e=none:=by
 cases q:H e with
 | none=>rfl
 | some o =>
  obtain ⟨u,hu⟩:=(I.hok e o q).there;rw[hb] at hu;cases hu
theorem Inv.turnR {H':Hp} {t':Nat} {ch:List Addr} (I:Inv X [] σ H s) (hf:∀ b∈ch,FpX X H b) (k:∀ b u,b ∉ ch->b ∉ frs X.stack->s.heap.get? b=some u->h'.get? b=some u)
  (k2:∀ b u,b ∉ ch->s.heap.get? b=some u->∃ sl,h'.get? b=some { u with slots:=sl }) (hH:∀ b,b ∉ ch->H' b=H b) (hok:HOk X.prog X.w H' h'):Inv X [] σ H' { s with heap:=h',toks:=t' }:=by
 have sup:∀ b o,H b=some o->H' b=some o:=λb o q=>by rw[hH b (λz=>by rw[(hf b z).1] at q;cases q)];exact q
 have nosl:∀ b,b≠X.env.locals->b ∉ X.fs->b ∉ frs X.stack:=λb h1 h2 z=>(List.mem_cons.mp (I.stkSub b z)).elim h1 h2
 have neL:∀ b o,X.s₀.heap.get? b=some o->b≠X.env.locals:=λb o q=>Nat.ne_of_lt (Nat.lt_of_lt_of_le (Heap.lt_size q) I.ok.above)
 have neC:∀ b o,X.s₀.heap.get? b=some o->b ∉ ch:=λb o q hb=>by rw[(hf b hb).2.2.2.1] at q;cases q
 have cellK:∀ x c,X.env.cells.lookup x=some c->∀ v,s.heap.IsCell c v->h'.IsCell c v:=λx c q v ⟨o,ho,hd⟩=>by
  obtain ⟨sl,q'⟩:=k2 c o (λz=>(hf c z).2.2.2.2.1 x c q rfl) ho;exact ⟨_,q',hd⟩
 refine ⟨I.ok,I.os,I.bare,⟨λb o q n hb hx=>?_,λb o q n hb hx=>?_,λb o q n hx=>?_,λb o q hx=>?_,λb xs q=>sup _ _ (I.base.tups b xs q),λb o xs q=>sup _ _ (I.base.frzs b o xs q),λb ps q=>?_⟩,?_,λx c q=>?_,?_,λx c q=>?_,λp hp=>?_,hok,I.len⟩
 ·exact k b o (neC b o q) (nosl b (neL b o q) hb) (I.base.keep b o q n hb hx)
 ·obtain ⟨sl,e1⟩:=I.base.slot b o q n hb hx
  obtain ⟨sl',e2⟩:=k2 b _ (neC b o q) e1;exact ⟨sl',e2⟩
 ·rw[hH b (neC b o q)]
  exact I.base.free b o q n hx
 ·obtain ⟨o',e1⟩:=I.base.there b o q hx
  obtain ⟨sl',e2⟩:=k2 b _ (neC b o q) e1;exact ⟨_,e2⟩
 ·obtain ⟨m1,e1⟩:=I.base.tbls b ps q
  exact ⟨m1,sup _ _ e1⟩
 ·obtain ⟨m,hn,hl⟩:=I.loc
  refine ⟨m,?_,λi x v e1 e2 e3=>?_⟩
  ·obtain ⟨o,es,ep,ho,r⟩:=hn
   obtain ⟨sl,q⟩:=k2 _ o (λz=>(hf _ z).2.1 rfl) ho;exact ⟨_,es,ep,q,r⟩
  ·obtain ⟨u,r,l⟩:=hl i x v e1 e2 e3
   refine ⟨u,r,?_⟩
   rcases l with l|⟨kk,c,q,z⟩
   ·exact .inl l
   ·exact .inr ⟨kk,c,q,cellK x c q _ z⟩
 ·obtain ⟨v,z⟩:=I.cell x c q
  exact ⟨v,cellK x c q v z⟩
 ·rw[hH _ (λz=>(hf _ z).2.1 rfl)];exact I.free
 ·rw[hH _ (λz=>(hf _ z).2.2.2.2.1 x c q rfl)];exact I.freeC x c q
 ·obtain ⟨q,n,ne,nf,d⟩:=I.pin p hp
  have hp':p∈X.pn:=by
   have:p∈X.pn ++ ([]:List (Addr×Obj)):=hp
   simpa using this
  have nch:p.1 ∉ ch:=λz=>(hf p.1 z).2.2.2.2.2 p hp' rfl
  exact ⟨k p.1 p.2 nch (nosl p.1 ne nf) q,by rw[hH _ nch];exact n,ne,nf,d⟩
theorem Inv.turnS {t':Nat} {ch:List Addr} (I:Inv X [] σ H s) (hf:∀ b∈ch,FpX X H b) (k:∀ b u,b ∉ ch->b ∉ frs X.stack->s.heap.get? b=some u->h'.get? b=some u)
  (k2:∀ b u,b ∉ ch->s.heap.get? b=some u->∃ sl,h'.get? b=some { u with slots:=sl }):Inv X [] σ H { s with heap:=h',toks:=t' }:=by
 have nch:∀ b u,H b=some u->b ∉ ch:=λb u e z=>by rw[(hf b z).1] at e;cases e
 have nst:∀ b u,H b=some u->b ∉ frs X.stack:=λb u e z=>by rw[I.stkFree b z] at e;cases e
 refine I.turnR hf k k2 (λ_ _=>rfl) λb u e=>?_
 refine (I.hok b u e).stay (λc v hc q=>?_) (λ_ q=>q) λ_ _ q=>q
 rcases hc with z|z
 ·subst z;exact k _ v (nch _ u e) (nst _ u e) q
 ·exact k c v (nch c _ z) (nst c _ z) q
theorem qka {oe:Obj} {vs:Array Value} {head:Value} {hadNext:Bool} {Q:Unit->Shared->Prop} (hs:qja X) (hA:A.frames=some X.stack) (I:Inv X [] σ H s) (hp:FpX X H e)
  (he:s.heap.get? e=some oe) (hc:oe.cls=cls) (hdd:oe.dict=dd) (hd:oe.data=.fields vs) (hsz:1<vs.size)
  (k:∀ h' T,Inv X [] σ H { s with heap:=h' }->FpX X H T->FlT h' e T cls dd (rawInt X.env.locals)->Q () { s with heap:=h' }) :
  wpAny M A (do let a <- frameOf X.env;let pl <- entryPlaceOf X.env.locals hadNext;let b <- EntryCells.newEntry head a .none (rawInt X.env.locals) .none pl;setField (.ref e) 1 b) Q E s:=by
 have hs0:=hs;obtain ⟨hst,hfr,_⟩:=hs;have hl:=I.stack;rw[hst] at hl hA;have hene:e ∉ frs X.stack:=λhm=>by
  rcases List.mem_cons.mp (I.stkSub e hm) with z|z
  ·exact hp.2.1 z
  ·exact hp.2.2.1 z
 refine wpAny_bind (wpAny_frameOf_fun hA hl hfr λh₁ hs₁=>?_);refine wpAny_bind (wpAny_entryPlaceOf λpl hpl=>?_);unfold EntryCells.newEntry newFields;refine wpAny_bind (wpAny_newObj_type ?_ (hpl.sizeOk5 _ _ _ _ _));have S:(X.env :: X.outer).filterMap (·.frame)=frs X.stack:=by rw[hst];rfl
 rw[S] at hs₁;have he₁:h₁.get? e=some oe:=(hs₁.2.1 e hene).trans he
 generalize hob:({ cls:=.type "traceback",dict:=none,data:=.fields ([head,.ref X.env.locals,.none,rawInt X.env.locals,.none] ++ (if pl.isEmpty then List.replicate 6 Value.none else pl)).toArray }:Obj)=ob
 have hobd:ob.data=.fields ([head,.ref X.env.locals,.none,rawInt X.env.locals,.none] ++ (if pl.isEmpty then List.replicate 6 Value.none else pl)).toArray:=by rw[<- hob]
 have he₂:=Heap.get?_push_of_some (h:=h₁) ob he₁;refine wpAny_setField he₂ hd hsz ?_;have hTe:h₁.objs.size≠e:=Nat.ne_of_gt (Heap.lt_size he₁);have hd₃:=Obj.data_mapFields hd (·.setIfInBounds 1 (Value.ref h₁.objs.size));have he₃:=Heap.get?_update_self (Obj.mapFields (·.setIfInBounds 1 (Value.ref h₁.objs.size))) he₂ (Obj.isFreed_of_fields hd₃);have hT₃:=(Heap.get?_update_other (h₁.push ob) (Obj.mapFields (·.setIfInBounds 1 (Value.ref h₁.objs.size))) (Ne.symm hTe)).trans (Heap.get?_push_size h₁ (by rw[<- hob];rfl));have kk:∀ b o,b≠e->h₁.get? b=some o->((h₁.push ob).update e (Obj.mapFields (·.setIfInBounds 1 (Value.ref h₁.objs.size)))).get? b=some o:=λb o hb q=>by
  rw[Heap.get?_update_other _ _ (Ne.symm hb)];exact Heap.get?_push_of_some _ q
 refine k _ h₁.objs.size (I.turnS (t':=s.toks) (ch:=[e]) (λb hb=>by rw[List.mem_singleton.mp hb];exact hp) (λb u hb hn q=>?_) λb u hb q=>?_) (I.fpX hs0 (by rw[hs₁.1];exact Heap.get?_none_of_le (Nat.le_refl _)) (I.hok.fresh (by rw[hs₁.1];exact Nat.le_refl _))) ?_
 ·exact kk b u (λz=>hb (by simp[z])) ((hs₁.2.1 b hn).trans q)
 ·obtain ⟨sl,q'⟩:=hs₁.2.2 b u q
  exact ⟨sl,kk b _ (λz=>hb (by simp[z])) q'⟩
 ·refine ⟨_,_,_,_,he₃,(Obj.cls_mapFields _ _).trans hc,?_,hd₃,by simp[hsz],hTe,hT₃,hobd,by simp⟩
  rw[<- hdd];obtain ⟨c9,d9,dt9,sl9⟩:=oe
  cases dt9<;>rfl
theorem qqk {Q:Unit->Shared->Prop} (hs:qja X) (hA:A.frames=some X.stack) (I:Inv X [] σ H s) (F:Fly X H s.heap e cls dd)
  (k:∀ h' T,Inv X [] σ H { s with heap:=h' }->FpX X H T->FlT h' e T cls dd (rawInt X.env.locals)->Q () { s with heap:=h' }):wpAny M A (noteFrame (.ref e) X.env) Q E s:=by
 obtain ⟨hp,F⟩:=F;unfold noteFrame;simp only[hs.2.1]
 rcases F with ⟨oe,vs,he,hc,hdd,hd,h1⟩|⟨T,fl,hT,oe,vs,oT,ts,he,hc,hdd,hd,h1,hTe,hoT,hdT,h3⟩
 ·refine wpAny_bind (wpAny_field he hd h1 ?_)
  rw[if_neg (by decide)];exact qka hs hA I hp he hc hdd hd (Array.getElem?_eq_some_iff.mp h1).1 k
 ·refine wpAny_bind (wpAny_field he hd h1 ?_)
  rw[if_pos (show (Value.ref T != Value.none)=true from by simp)];refine wpAny_bind (wpAny_field hoT hdT h3 ?_)
  by_cases hfl:(fl == rawInt X.env.locals)=true
  ·rw[if_pos hfl]
   have:=k s.heap T I hT ⟨oe,vs,oT,ts,he,hc,hdd,hd,h1,hTe,hoT,hdT,by rw[h3,beq_iff_eq.mp hfl]⟩;exact wpAny_pure this
  ·rw[if_neg hfl]
   refine wpAny_bind (wpAny_setField hoT hdT (Array.getElem?_eq_some_iff.mp h3).1 ?_);have other:∀ b,b≠T->(s.heap.update T (Obj.mapFields (·.setIfInBounds 3 Value.none))).get? b=s.heap.get? b:=λb hb=>Heap.get?_update_other _ _ (Ne.symm hb)
   have I2:Inv X [] σ H { s with heap:=s.heap.update T (Obj.mapFields (·.setIfInBounds 3 Value.none)) }:=
    I.turnS (t':=s.toks) (ch:=[T]) (λb hb=>by rw[List.mem_singleton.mp hb];exact hT) (λb u hb _ q=>(other b (λz=>hb (by simp[z]))).trans q) λb u hb q=>⟨u.slots,(other b (λz=>hb (by simp[z]))).trans q⟩
   exact qka hs hA I2 hp ((other e (Ne.symm hTe)).trans he) hc hdd hd (Array.getElem?_eq_some_iff.mp h1).1 k
theorem qmv {Q:Unit->Shared->Prop} (fr:Option Addr) (I:Inv X [] σ H s) (hT:FpX X H T) (F:FlT s.heap e T cls dd fl)
  (k:∀ h',Inv X [] σ H { s with heap:=h' }->FlT h' e T cls dd (fr.elim .none λf=>rawInt f)->Q () { s with heap:=h' }):wpAny M A (setFlight (.ref e) fr) Q E s:=by
 obtain ⟨oe,vs,oT,ts,he,hc,hdd,hd,h1,hTe,hoT,hdT,h3⟩:=F;have hsz3:3<ts.size:=(Array.getElem?_eq_some_iff.mp h3).1;have other:∀ b,b≠T->(s.heap.update T (Obj.mapFields (·.setIfInBounds 3 (fr.elim .none λf=>rawInt f)))).get? b=s.heap.get? b:=λb hb=>Heap.get?_update_other _ _ (Ne.symm hb)
 unfold setFlight;refine wpAny_bind (wpAny_field he hd h1 ?_);rw[if_pos (show (Value.ref T != Value.none)=true from by simp)];refine wpAny_setField hoT hdT hsz3 (k _ ?_ ?_)
 ·exact I.turnS (t':=s.toks) (ch:=[T]) (λb hb=>by rw[List.mem_singleton.mp hb];exact hT) (λb u hb _ q=>(other b (λz=>hb (by simp[z]))).trans q) λb u hb q=>⟨u.slots,(other b (λz=>hb (by simp[z]))).trans q⟩
 ·exact ⟨oe,vs,_,_,(other e (Ne.symm hTe)).trans he,hc,hdd,hd,h1,hTe,Heap.get?_update_self _ hoT (Obj.isFreed_of_fields (Obj.data_mapFields hdT _)),Obj.data_mapFields hdT _,by simp[hsz3]⟩
end
def CX1 (P:Program) (w:World):CXT:=λouter H s E ev s'=>∃ e T cls dd H',ev=.ref e/\s'.os=s.os/\AllBare s'.gens/\Un (frs outer) [] H H' s.heap s'.heap/\HOk P w H' s'.heap/\FlT s'.heap e T cls dd .none/\H' e=none/\H' T=none /\
 s.heap.get? e=none/\s.heap.get? T=none/\E cls dd H'
theorem CX1.xe {X:Cx} {W:XW} {pins:List (Addr×Obj)} {σ:St} {H:Hp} {s s':Shared} {ev:Value} (hs:qja X) (I:Inv X pins σ H s) (h:CX1 X.prog X.w X.stack H s (λc d H'=>W c d σ H') ev s'):XE X W ev s':=by
 obtain ⟨e,T,cls,dd,H',rfl,os,bare,un,hok,F,he,hT,le,lT,q⟩:=h;have J:Inv X [] σ H s:=I.pins_of (by simp);have J':Inv X [] σ H' s':=by
  obtain ⟨hh,g,d,t,os'⟩:=s';obtain rfl:os'=s.os:=os;exact J.call (h':=hh) (g':=g) (d':=d) (t':=t) (ch:=[]) un hok bare (λb z=>absurd z (by simp))
 exact ⟨e,cls,dd,σ,H',rfl,J',⟨J.fpX hs le he,.inr ⟨T,_,J.fpX hs lT hT,F⟩⟩,q⟩
theorem qkb {P:Program} {w:World} {K:Frag} {mg:Str->Option Value} {base:Heap} {N:List Str} {qual:Str} {scope:Scope} {f:Addr} {cd:Value} {A:Around} {outer:List Env} {s:Shared} {H:Hp} {E:XK} {ev:Value} {s':Shared}
  (h:XE (qj1 (CX1 P w) P w K mg base N qual scope f cd A outer s H E) (λc d _ H'=>E c d H') ev s'):(qj1 (CX1 P w) P w K mg base N qual scope f cd A outer s H E).xe ev s':=by
 obtain ⟨e,cls,dd,σ,H',rfl,I,F,q⟩:=h
 show wpAny _ _ (leaving _ _) _ _ _
 unfold leaving;refine wpAny_bind (qqk (X:=qj1 (CX1 P w) P w K mg base N qual scope f cd A outer s H E) ⟨rfl,rfl,rfl⟩ I.ok.frames I F λh1 T I1 hT F1=>?_);refine qmv none I1 hT F1 λh2 I2 F2=>?_
 exact ⟨e,T,cls,dd,H',rfl,I2.os,I2.bare,I2.base,I2.hok,F2,F.1.1,hT.1,F.1.2.2.2.1,hT.2.2.2.1,q⟩
def qk8 (X:Cx) (W:XW):Prop:=qja X/\∀ ev s,XE X W ev s->X.xe ev s
theorem XE.unwish {X:Cx} {E:Value->Shared->Prop} {W:XW} {ev:Value} {s:Shared} (h:XE (X.wish E) W ev s):XE X W ev s:=
 let ⟨e,cls,dd,σ,H,q,I,F,w⟩:=h;⟨e,cls,dd,σ,H,q,I.unwish,F,w⟩
theorem qbe {X:Cx} {W:XW} (hs:qja X):qk8 (X.wish (XE X W)) W:=⟨hs,λ_ _ h=>h.unwish⟩
theorem PSs.imp {X:Cx} {E:Value->Shared->Prop} {st:List Stmt} {t:TS} (hE:∀ ev s,E ev s->X.xe ev s) (h:PSs (X.wish E) st t):PSs X st t:=λpins s σ H D I hw =>
 wpAny_mono (h pins s σ H D (I.wish _) hw) (λ_ _ q=>q.unwish) λe s z=>hE e s z
section
variable {P:Program} {w:World} {K:Frag} {mg:Str->Option Value} {base:Heap}
abbrev bx (P:Program) (w:World) (K:Frag) (mg:Str->Option Value) (base:Heap) (N:List Str) (qual:Str) (scope:Scope) (f:Addr) (cd:Value) (A:Around) (outer:List Env) (s:Shared) (H:Hp) (E:XK):Cx:=
 (qj1 (CX1 P w) P w K mg base N qual scope f cd A outer s H E).wish (XE (qj1 (CX1 P w) P w K mg base N qual scope f cd A outer s H E) (λc d _ H'=>E c d H'))
theorem Fun.okX {x qual:Str} {st:Stmt} {f:Addr} {fd:FuncData} {N ps:List Str} {k:Nat} {sp:Sp} (F:Fun K x qual st f fd) (S:qal N ps (qab st)) (len:∀ vs H Q E,sp vs H Q E->vs.length=ps.length)
  (hbody:∀ (cdv:Value) (A:Around) (outer:List Env) (s:Shared) (H:Hp) (vs:List V) (Q:VK) (E:XK),Room k (A.deeper (envOfC qual (qab st) s.heap.objs.size f cdv))->sp vs H Q E ->
   ∃ t,PSs (bx P w K mg base N qual (qab st) f cdv A outer s H E) (qae st) t/\t { nx:=λ_ H'=>Q .non H',rt:=Q } (start N vs) H):qff P w K mg base (CX1 P w) (k+1) f fd ps sp:=by
 obtain ⟨oc,od,kV,doc,pm,an,cdv,ct,osl,rfl,lk,hcd⟩:=F.ex;refine qn3 lk hcd S len λA outer s H vs Q E hr hsp=>?_
 obtain ⟨t,h,q⟩:=hbody cdv A outer s H vs Q E hr hsp;exact ⟨t,h.imp λ_ _ z=>qkb z,q⟩
theorem FunD.okX {x qual:Str} {st:Stmt} {dV:Value} {f:Addr} {fd:FuncData} {N ps:List Str} {k:Nat} {sp:Sp} (F:FunD K x qual st dV f fd) (S:qal N ps (qab st)) (len:∀ vs H Q E,sp vs H Q E->vs.length=ps.length)
  (hbody:∀ (cdv:Value) (A:Around) (outer:List Env) (s:Shared) (H:Hp) (vs:List V) (Q:VK) (E:XK),Room k (A.deeper (envOfC qual (qab st) s.heap.objs.size f cdv))->sp vs H Q E ->
   ∃ t,PSs (bx P w K mg base N qual (qab st) f cdv A outer s H E) (qae st) t/\t { nx:=λ_ H'=>Q .non H',rt:=Q } (start N vs) H):qff P w K mg base (CX1 P w) (k+1) f fd ps sp:=by
 obtain ⟨oc,od,kV,doc,pm,an,cdv,ct,osl,rfl,lk,hcd⟩:=F.ex;refine qn3 lk hcd S len λA outer s H vs Q E hr hsp=>?_
 obtain ⟨t,h,q⟩:=hbody cdv A outer s H vs Q E hr hsp;exact ⟨t,h.imp λ_ _ z=>qkb z,q⟩
end
def qsc (P:Program) (w:World) (K:Frag) (mg:Str->Option Value) (base:Heap) (k:Nat) (x:Str) (ps:List Str) (ds:List Value) (sp:Sp):Prop:=
 ∃ f fd,qff P w K mg base (CX1 P w) k f fd ps sp/\mg x=some (.ref f)/\keepIn K (.ref f)=true/\Binds K fd ps ds
def qsd (P:Program) (w:World) (K:Frag) (mg:Str->Option Value) (base:Heap) (C:Addr) (k:Nat) (m:Str) (ps:List Str) (ds:List Value) (sp:Sp):Prop:=
 ∃ f fd,qff P w K mg base (CX1 P w) k f fd ps sp/\qfo K C m f/\Binds K fd ps ds
def qse (sp:Sp) (dvs:List V) (W:XW) (t:TA):TE:=λσ H Q=>t σ H λvs H1=>sp (vs ++ dvs) H1 Q λc d H'=>W c d σ H'
def qsf (C:Addr) (m:Str) (sp:Sp) (dvs:List V) (W:XW) (ta:TE) (t:TA):TE:=λσ H Q=>ta σ H λx H1=>qpc C m x H1 (t σ H1 λvs H2=>sp (x :: (vs ++ dvs)) H2 Q λc d H'=>W c d σ H')
section
variable {X:Cx} {W:XW} {k:Nat} {f C:Addr} {fd:FuncData} {ps:List Str} {sp:Sp} {dvs:List V} {ds:List Value} {x m:Str} {p pos apos:Pos} {e o:Expr} {es:List Expr} {ta:TE} {t:TA}
theorem qmw {pins:List (Addr×Obj)} {σ:St} {H:Hp} {s:Shared} {Q:VK} {us:List Value} {vs:List V} (hW:qk8 X W) (F:qff X.prog X.w X.K X.mg X.base (CX1 X.prog X.w) k f fd ps sp) (hr:Room k X.A) (hb:Binds X.K fd ps ds) (hd:Vals dvs ds)
  (I:Inv X pins σ H s) (r:Vals vs us) (h:sp (vs ++ dvs) H Q λc d H'=>W c d σ H'):wpAny (model X.prog X.w) X.A (call (.ref f) us) (EP X pins σ Q) X.xe s:=by
 have r2:Vals (vs ++ dvs) (us ++ ds):=r.append hd;have hl:(us ++ ds).length=ps.length:=by rw[<- r2.length];exact F.len _ _ _ _ h
 refine wpAny_call (codeAny_mono (F.run X.A X.stack s H ⟨us,[]⟩ (us ++ ds) (vs ++ dvs) Q _ hr I.env0 (hb s us I.kIn hl) r2 h) λr s' hq=>?_)
 cases r with
 | error e=>exact hW.2 _ _ (CX1.xe hW.1 I hq)
 | ok fl =>
  cases fl with
  | ret u=>exact I.after hq
  | next=>exact False.elim hq
  | brk=>exact False.elim hq
  | cont=>exact False.elim hq
theorem qia (hW:qk8 X W) (D:qsc X.prog X.w X.K X.mg X.base k x ps ds sp) (hr:Room k X.A) (hg:Gl X x) (hd:Vals dvs ds) (ha:PA X (e :: es) t) (hdb:(x == ("__debug__" : Str))=false:=by decide)
  (he:starEach (e :: es) X.env=(false,eval e X.env) :: starEach es X.env:=by rfl) (hpl:(backTo pos (starEach es X.env)).any (·.1)=false:=by rfl):PE X (.Call (.Name x p) (e :: es) [] pos) (qse sp dvs W t):=by
 obtain ⟨f,fd,F,hm,hk,hb⟩:=D;intro pins s σ H Q I h;refine wpAny_Call_Name_kw (qfr I hg hm ?_ hdb);refine PySem.W.callWith_K (h₀:=X.base) I.ok.mod.kin hk (thn (ha pos pins s σ H _ I h) λus s1 ⟨vs,H1,I1,r,q⟩=>⟨I1.kIn,?_⟩) he hpl;exact qmw hW F hr hb hd I1 r q
theorem qmx {pl:Sem Bool} (hW:qk8 X W) (he:PE X o ta) (c:Cls X.K C) (D:qsd X.prog X.w X.K X.mg X.base C k m ps ds sp) (hr:Room k X.A) (hd:Vals dvs ds) (ha:PA X (e :: es) t)
  (hst:starEach (e :: es) X.env=(false,eval e X.env) :: starEach es X.env:=by rfl) (hpl:(backTo pos (starEach es X.env)).any (·.1)=false:=by rfl)
  (ht:eval (.Call (.Attribute o m apos) (e :: es) [] pos) X.env=(do
   let ov <- eval o X.env
   standAt apos.atName
   let (f,first) <- holding [ov] (getMethod ov m pl)
   callWith pos f first (backTo pos (starEach (e :: es) X.env)) (backToKw pos (keywordEach [] X.env))):=by rfl) :
  PE X (.Call (.Attribute o m apos) (e :: es) [] pos) (qsf C m sp dvs W ta t):=by
 obtain ⟨f,fd,F,hm,hb⟩:=D;intro pins s σ H Q I h;refine PySem.W.methodCall_KW (pl:=pl) (thn (he pins s σ H _ I h) λu s1 hq__=>?_) ht;obtain ⟨x,H1,I1,rx,a,dx,fs,ex,ea,l,q⟩:=hq__;subst ex;obtain rfl:u=Value.ref a:=rx;refine qe3 I1 ea c hm l ?_;refine PySem.W.callWith_K (first:=[.ref a]) (h₀:=X.base) I.ok.mod.kin hm.kp (thn (ha pos pins s1 σ H1 _ I1 q) λus s2 ⟨vs,H2,I2,r,q2⟩=>⟨I2.kIn,?_⟩) hst hpl;exact qmw (us:=.ref a :: us) (vs:=.ref a :: vs) hW F hr hb hd I2 (.cons rfl r) q2
end
def qk9:List Value:=[.type "ValueError",.type "Exception",.type "BaseException",.type "object"]
def qrj (K:Frag) (C:Addr):Prop:=PySem.W.excIn K C qk9 "ValueError.__new__" = true
theorem qsg {K:Frag} {h:Heap} {C:Addr} {bmB:List Value} {newId:String} (X:K.In h) (q:PySem.W.excIn K C bmB newId=true) :
  ∃ bm N nm qn bs hd sn sub ab col dd k0 k1 k2 k3 k5 mN,h.get? C=some (excClassObj nm qn C N bs bm hd sn sub ab col dd k0 k1 k2 k3 k5 newId)/\h.Ns N mN/\mN "__init__" = none/\OwnTail h bmB bm:=by
 unfold PySem.W.excIn at q
 split at q
 case h_2=>cases q
 case h_1 dd cd sl ho =>
  split at q
  case h_2=>cases q
  case h_1 C' bm k0 k1 k2 k3 n k5 hm hsl =>
   simp only[Bool.and_eq_true,beq_iff_eq,Bool.not_eq_true'] at q;obtain ⟨⟨⟨⟨⟨q1,q2⟩,q3⟩,q4⟩,q5⟩,q6⟩:=q;subst q1 q2
   cases cd with
   | mk nm bs mro ns qn hd sn sub ab col del =>
    cases sl with
    | mk l =>
     have hm':mro=_:=hm;have hl':l=_:=hsl;have q3':del=false:=q3;subst hm' hl' q3';exact ⟨bm,ns,nm,qn,bs,hd,sn,sub,ab,col,dd,k0,k1,k2,k3,k5,_,X _ _ ho,.of_isNs (PySem.W.isNs_of_in X q5),PySem.W.nsMap_none_of_in X q5 q6,PySem.W.tail_of_in X q4⟩
def qsh (W:XW) (C:Addr) (t:TA):TS:=λ_ σ H=>t σ H λvs H1=>vs.length<=sizeLine/\W (.ref C) none σ H1
theorem qui {h h':Heap} {N:Addr} {m:Str->Option Value} (k:∀ b o,h.get? b=some o->h'.get? b=some o) (n:h.Ns N m):h'.Ns N m:=
 let ⟨o,es,ep,e,r⟩:=n;⟨o,es,ep,k _ _ e,r⟩
theorem qdf {X:Cx} {W:XW} {C:Addr} {x:Str} {np cpos pos:Pos} {e:Expr} {es:List Expr} {t:TA} (hW:qk8 X W) (hc:X.calm=true) (hE:qrj X.K C) (hg:Gl X x) (hm:X.mg x=some (.ref C)) (ha:PA X (e :: es) t)
  (hdb:(x == ("__debug__" : Str))=false:=by decide) (he:starEach (e :: es) X.env=(false,eval e X.env) :: starEach es X.env:=by rfl) (hpl:(backTo cpos (starEach es X.env)).any (·.1)=false:=by rfl) :
  PS X (.Raise (some (.Call (.Name x np) (e :: es) [] cpos)) none pos) (qsh W C t):=by
 intro pins s σ H D I h;obtain ⟨bm,N,nm,qn,bs,hd,sn,sub,ab,col,dd,k0,k1,k2,k3,k5,mN,hC,hN,hni,hT⟩:=qsg I.ok.mod.kin hE;refine wpAny_Raise_call_subU PySem.F.excBase_ValueError (by decide +kernel) PySem.F.excBase_ValueError (C:=C) (nm:=nm) (q:=qn) (N:=N) (bs:=bs) (hdct:=hd) (sn:=sn) (sub:=sub) (ab:=ab) (col:=col) (dd:=dd) (k0:=k0) (k1:=k1) (k2:=k2) (k3:=k3) (k5:=k5) (hT.hasType (by decide +kernel)) (I.ok.hd hc) (by rw[he];show (false || (backTo cpos (starEach es X.env)).any (·.1))=false;rw[hpl];rfl) hni (qfr I hg hm ⟨rfl,?_⟩ hdb);have h2:=ha cpos pins s σ H _ I h;rw[he] at h2 ⊢;refine Calls.evalArgs_plain (thn h2 λus s1 ⟨vs,H1,I1,r,q1,q2⟩=>⟨rfl,by rw[<- r.length];exact q1,I1.bk _ _ hC,qui I1.bk hN,hT.keeps I1.bk,λh' ex hx=>hW.2 _ _ ?_⟩);obtain ⟨tt,hex,_,_⟩:=hx.there;have J:Inv X [] σ H1 s1:=I1.pins_of (by simp);exact ⟨ex,.ref C,none,σ,H1,rfl,J.kept (t':=s1.toks) hx.keeps,⟨J.fpX hW.1 hx.new (J.noneOf hx.new),.inl ⟨_,_,hex,rfl,rfl,rfl,rfl⟩⟩,q2⟩
open PySem PySem.Spec PyProof.Rows
def qv3 (a:Addr) (cls:Value) (dd:Option Addr):HO:=.ext λh=>∃ oe vs,h.get? a=some oe/\oe.cls=cls/\oe.dict=dd/\oe.data=.fields vs
abbrev hnd (X:Cx) (e:Addr):Cx:={ X with A:=X.A.mark (some (.ref e)),calm:=false,xe:=λ_ _=>False }
section
variable {X:Cx} {pins:List (Addr×Obj)} {σ:St} {H:Hp} {s:Shared} {e:Addr}
end
def qv4 (K:Frag) (C:Addr) (cls:Value):Prop:=∃ D,cls=.ref D/\PySem.W.ktsIn K D "BaseException" = true/\PySem.W.mroIn K D (.ref C)=some true
def quj (D:Ends) (j:Nat):Ends:={ nx:=λσ H=>D.nx (σ.set j none) H,rt:=D.rt,bk:=λσ H=>D.bk (σ.set j none) H,ct:=λσ H=>D.ct (σ.set j none) H }
def hW (K:Frag) (C:Addr) (th:TS) (j:Nat) (D:Ends):XW:=λcls dd σ H=>qv4 K C cls/\∀ e H',New H H' e (qv3 e cls dd)->th (quj D j) (σ.set j (some (.ref e))) H'
open PySem PySem.Spec PyProof.Rows
structure qrk (K:Frag) (D:Addr):Prop where
 ga:PySem.W.findIn K (.ref D) "__getattribute__" = some (some (.builtin "BaseException.__getattribute__"))
 gt:PySem.W.findIn K (.ref D) "__getattr__" = some none
 cl:PySem.W.findIn K (.ref D) "__class__" = some (some (.builtin "object.__class__"))
 ob:PySem.W.mroIn K D (.type "object")=some true
 be:PySem.W.mroIn K D (.type "BaseException")=some true
 kt:PySem.W.ktsIn K D "BaseException" = true
section
variable {prog:Program} {w:World} {A:Around} {E:Value->Shared->Prop} {s:Shared} {K:Frag} {a D:Addr} {oe:Obj} {vs:Array Value}
end
open PySem PySem.Spec PyProof.Rows
section
variable {X:Cx}
end
theorem qsi:bootBuiltins "max" = some (.builtin "max"):=by decide +kernel
theorem qc7:bootBuiltins "sorted" = some (.builtin "sorted"):=by decide +kernel
theorem qdq {X:Cx} (hs:qja X):qk8 X.nox (λ_ _ _ _=>False):=⟨hs,λ_ _ ⟨_,_,_,_,_,_,_,_,w⟩=>w⟩
open PySem PySem.Spec PyProof.Rows
theorem qql {H H':Hp} {a:Addr} {o:HO} (s:Same H H') (h:H a=some o):H' a=some o:=s _ _ h
theorem qsj {H H':Hp} {p a:Addr} {u o:HO} (n:New H H' p u) (h:H a=some o):H' a=some o:=n.same _ _ h
theorem qqm {H H1 H2:Hp} {p:Addr} {u:HO} (a:Same H H1) (n:New H1 H2 p u):Same H H2:=a.trans n.same
open PySem PySem.Spec PyProof.Rows
section
variable {X:Cx} {e e1:Expr} {te t1:TE} {pos p2:Pos}
def qv5 (K:Frag) (te t1:TE):TE:=λσ H Q=>te σ H λx H1=>t1 σ H1 λy H2=>∃ a xs,y=.int (-1)/\x=.ref a/\SqL K H2 a xs/\∀ p H',New H2 H' p (.lst xs.reverse)->Q (.ref p) H'
theorem qsk (he:PE X e te) (h1:PE X e1 t1):PE X (.Subscript e (.Slice none none (some e1) p2) pos) (qv5 X.K te t1):=by
 intro pins s σ H Q I h;refine Subscript_ (thn (he pins s σ H _ I h) λv s1 hq__=>?_);obtain ⟨x,H1,I1,r1,q1⟩:=hq__;refine wpAny_Slice ?_;rw[evalPart_none];refine wpAny_pure ?_;refine wpAny_pure ?_;rw[evalPart_some];refine thn (h1 pins s1 σ H1 _ I1 q1) λu s2 hq__=>?_
 obtain ⟨y,H2,I2,r2,a,xs,ey,ex,hq,q2⟩:=hq__;subst ey ex;obtain ⟨tk,rfl⟩:=r2;cases r1;have I4:Inv X pins σ H2 { s2 with heap:=s2.heap.push { cls:=.type "slice",data:=.fields #[.none,.none,.int (-1) tk] } }:=I2.kept (t':=s2.toks) λb ob q=>Heap.get?_push_of_some _ q
 obtain ⟨its,r,ht,hz⟩:=I4.list hq;have hlen:=r.length
 show wpAny (model X.prog X.w) X.A (subscriptTail e (.Slice none none (some e1) p2) (.ref a) (.ref s2.heap.objs.size)) (EP X pins σ Q) X.xe { s2 with heap:=s2.heap.push { cls:=.type "slice",data:=.fields #[.none,.none,.int (-1) tk] } }
 refine tail_any (ops:=[.ref a,.ref s2.heap.objs.size]) ht.isList.typeIs slot_list_getitem.lookup ?_ (by with_unfolding_all rfl);refine wpAny_getItem_list_slice ht.isList (Heap.IsSliceOf.new ..) .none .none (.int (-1) tk) (by simp) ?_ (by rw[List.size_toArray]<;>omega);rw[PySem.W.krv_pick];refine ⟨.ref (s2.heap.push { cls:=.type "slice",data:=.fields #[.none,.none,.int (-1) tk] }).objs.size,_,I4.laid (t':=s2.toks) (o:=.lst xs.reverse) (λb ob q=>Heap.get?_push_of_some _ q) (Nat.le_refl _) ?_,rfl,q2 _ _ (qa0 (I4.hok.fresh (Nat.le_refl _)))⟩;exact ⟨by simpa using hz,its.reverse,0,r.reverse,Heap.get?_push_size _ rfl⟩
end
open PySem PySem.Spec PyProof.Rows
section
variable {prog:Program} {w:World} {A:Around} {R:Result->Shared->Prop} {I:Addr} {fp wr:List Addr} {n:Nat} {P:Nat->Value->Prop} {St:Nat->Heap->Prop} {d:Value}
end
section
variable {X:Cx}
theorem qen:∀ {bs:List Bool} {us:List Value},Vals (bs.map V.bl) us->us=bs.map Value.bool
 | [],_,.nil=>rfl
 | b :: r,_,.cons h t=>by cases (show _=Value.bool b from h);rw[qen t];rfl
theorem qd7 (hc:X.calm=true):CallR X (.builtin "all") (λxs H Q=>∃ (p:Addr) (bs:List Bool),xs=[.ref p]/\SqL X.K H p (bs.map V.bl)/\Q (.bl (bs.all id)) H):=by
 intro pins s σ H xs us Q I r h;obtain ⟨p,bs,rfl,hq,q⟩:=h;obtain ⟨u,rfl,ru⟩:=vals1 r
 cases (show u=Value.ref p from ru)
 obtain ⟨its,rv,pl,hz⟩:=I.list hq;have hl:=pl.isList;have hlt:p<s.heap.objs.size:=by obtain ⟨_,e,_⟩:=hl;exact Heap.lt_size e
 have hb:=qen rv;refine call_all_walk (wpAny_pyIter_list hl ?_);refine ⟨s.heap.objs.size,[s.heap.objs.size,p],[s.heap.objs.size],its.toArray.size,_,_,λi=>(bs[i]?).getD true,rfl,Walks.list (A:=X.A.in1) (I.ok.hd hc) _ p (Nat.ne_of_lt hlt) its.toArray,
  ⟨⟨_,Heap.get?_push_size _ rfl,rfl,rfl⟩,hl.push _⟩,λi v s' Q' E' hP hQ=>?_,λh' tk hk=>?_⟩
 ·rw[hb] at hP
  have hP':(bs.map Value.bool)[i]?=some v:=by simpa using hP
  rw[List.getElem?_map] at hP';obtain ⟨b,e1,e2⟩:=Option.map_eq_some_iff.mp hP';subst e2;simp only[e1,Option.getD_some] at hQ;exact wpAny_truthy_bool hQ
 ·have e:((List.range its.toArray.size).all λi=>(bs[i]?).getD true)=bs.all id:=by
   rw[List.size_toArray,hb,List.length_map];exact PyProof.Rows.LSm.range_all bs
  rw[e];refine ⟨.bl _,H,I.kept λb o q=>hk b o (λhm=>?_) (Heap.get?_push_of_some _ q),rfl,q⟩;rw[List.mem_singleton.mp hm] at q;exact absurd (Heap.lt_size q) (Nat.lt_irrefl _)
end
theorem qgx:bootBuiltins "all" = some (.builtin "all"):=by decide +kernel
open PySem PyProof PyProof.Rows
section
variable {X:Cx}
end
open PySem PySem.Spec PyProof.Rows
section
variable {prog:Program} {w:World} {A:Around} {E:Value->Shared->Prop} {s:Shared}
end
section
variable {X:Cx}
end
open PySem PySem.Spec PyProof.Rows
def RawD (h:Heap) (d:Addr) (es:Array DictEntry) (ep:Nat):Prop:=∃ o,h.get? d=some o/\o.ExactDict/\o.data=.dict es ep
theorem RawD.ty {s:Shared} {d:Addr} {es:Array DictEntry} {ep:Nat} (x:RawD s.heap d es ep):s.TypeIs (.ref d) "dict" :=let ⟨o,a,b,_⟩:=x;⟨o,a,b.1⟩
theorem RawD.up {h h':Heap} {d:Addr} {es:Array DictEntry} {ep:Nat} (x:RawD h d es ep) (e:∀ o,h.get? d=some o->h'.get? d=some o):RawD h' d es ep:=let ⟨o,a,b⟩:=x;⟨o,e o a,b⟩
theorem RawD.lt {h:Heap} {d:Addr} {es:Array DictEntry} {ep:Nat} (x:RawD h d es ep):d<h.objs.size:=let ⟨_,a,_⟩:=x;Heap.lt_size a
section
variable {prog:Program} {w:World} {A:Around} {E:Value->Shared->Prop} {s:Shared}
abbrev quk (d:Addr) (n ep:Nat):Obj:={ cls:=.type "dict_keyiterator",data:=.fields #[.ref d,.int 0 0,.int n 0,.int ep 0] }
theorem qqn {d:Addr} {es:Array DictEntry} {ep:Nat} {Q:Value->Shared->Prop} (lo:(d == sysModules)=false) (hm:RawD s.heap d es ep) (hQ:Q (.ref s.heap.objs.size) { s with heap:=s.heap.push (quk d es.size ep) }) :
  wpAny (model prog w) A (pyIter (.ref d)) Q E s:=by
 have ty:=hm.ty;obtain ⟨o,h1,h2,h3⟩:=hm;refine wpAny_pyIter_slot ty F.slot_dict_iter (wpAny_call_entry F.slot_dict_iter ty F.entry_dict_iter ?_ (F.args_dict_iter_1 _));unfold Builtin.«dict.__iter__»;refine wpAny_bind ?_;unfold Builtin.Dict.dictSlotNone;refine wpAny_bind (wpAny_notOrdered_dict ty ?_)
 show wpAny _ _ (pure (Value.ref d)) _ _ s;refine wpAny_pure ?_
 show wpAny _ _ (Builtin.Dict.showsAll d >>= _) _ _ s;unfold Builtin.Dict.showsAll
 rw[if_neg (by rw[lo];exact Bool.false_ne_true)];refine wpAny_bind (wpAny_pure ?_);refine wpAny_bind (wpAny_dictEntries h1 h3 ?_);refine wpAny_bind (wpAny_dictEpoch h1 h3 ?_);refine wpAny_bind (wpAny_newObj_type (wpAny_pure ⟨_,rfl, "dict_keyiterator",_,⟨_,Heap.get?_push_size _ rfl,rfl⟩,F.slot_dict_keyiterator_next.lookup,?_⟩));simpa [rawInt] using hQ
theorem qqo {it d:Addr} {i ep:Nat} {es:Array DictEntry} {Q:Option Value->Shared->Prop} (hJ:s.heap.IsKeyIter it d i es.size ep) (hm:RawD s.heap d es ep) (hx:i<es.size)
  (hQ:∀ h',h'.IsKeyIter it d (i+1) es.size ep->Heap.SameBut it s.heap h'->Q (some es[i].key) { s with heap:=h' }):wpAny (model prog w) A (pyNext (.ref it)) Q E s:=by
 obtain ⟨o,ho,hc,hd⟩:=id hJ;obtain ⟨od,h1,h2,h3⟩:=hm;have ty:=hJ.typeIs;unfold pyNext;refine wpAny_bind (wpAny_attempt (wpAny_callSpecial?_slot (name:=Str.ofString "__next__") ty F.slot_dict_keyiterator_next (wpAny_call_entry F.slot_dict_keyiterator_next ty F.entry_dict_keyiterator_next ?_ (F.args_dict_keyiterator_next_1 _))));refine wpAny_bind (wpAny_pure ?_);refine wpAny_bind ?_;refine wpAny_bind ?_
 first|refine wpAny_bind (wpAny_typeNameOfWhole_keyiter ty (wpAny_pure ?_))|refine wpAny_bind (wpAny_typeNameOf_keyiter ty (wpAny_pure ?_))
 refine wpAny_bind (wpAny_fieldsOf ho hd ?_);simp only[show Builtin.Dict_items.ownsTuple "dict_keyiterator" = false by decide,Bool.false_eq_true,if_false]
 show wpAny _ _ (if (Value.ref d == Value.none)=true then _ else _) _ _ s;rw[if_neg (show ¬ ((Value.ref d == Value.none)=true) from Bool.false_ne_true)]
 refine wpAny_bind (wpAny_pure ?_);refine wpAny_bind (wpAny_dictEntries h1 h3 ?_);rw[if_neg (by simp)];refine wpAny_bind (wpAny_pure ?_);refine wpAny_bind (wpAny_dictEpoch h1 h3 ?_);rw[if_neg (by simp)];refine wpAny_pure ?_;simp only[show ¬ ((i:Int)<0) from by omega,if_false,Int.toNat_natCast,Array.getElem?_eq_getElem hx];refine wpAny_bind ?_
 first|refine wpAny_bind (wpAny_typeNameOfWhole_keyiter ty (wpAny_pure ?_))|refine wpAny_bind (wpAny_typeNameOf_keyiter ty (wpAny_pure ?_))
 refine wpAny_bind (wpAny_isOneOf_keyiter ty ?_)
 show wpAny _ _ (setField (.ref it) 1 (rawInt ((i:Int)+1)) >>= _) _ _ s;refine wpAny_bind (wpAny_setField ho hd (by simp) ?_)
 have hJ':(s.heap.update it (Obj.mapFields (·.setIfInBounds 1 (rawInt ((i:Int)+1))))).IsKeyIter it d (i+1) es.size ep:=⟨_,Heap.get?_update_self _ ho (Obj.isFreed_of_fields (Obj.data_mapFields hd _)),(Obj.cls_mapFields ..).trans hc,by rw[Obj.data_mapFields hd];simp[rawInt]⟩;refine wpAny_bind (wpAny_holding ?_);refine wpAny_bind (wpAny_isOneOf_keyiter (s:={ s with heap:=s.heap.update it (Obj.mapFields (·.setIfInBounds 1 (rawInt ((i:Int)+1)))) }) hJ'.typeIs ?_)
 show wpAny _ _ (pure es[i].key) _ _ _
 exact wpAny_pure (wpAny_pure ⟨_,rfl,wpAny_pure (hQ _ hJ' (Heap.SameBut.update ..))⟩)
theorem qsl {it d:Addr} {ep:Nat} {es:Array DictEntry} {Q:Option Value->Shared->Prop} (hh:A.handled=none) (hJ:s.heap.IsKeyIter it d es.size es.size ep) (hm:RawD s.heap d es ep)
  (hQ:∀ h',Heap.ExtBut it s.heap h'->Q none { s with heap:=h' }):wpAny (model prog w) A (pyNext (.ref it)) Q E s:=by
 obtain ⟨o,ho,hc,hd⟩:=id hJ;obtain ⟨od,h1,h2,h3⟩:=hm;have ty:=hJ.typeIs;unfold pyNext;refine wpAny_bind (wpAny_attempt (wpAny_callSpecial?_slot (name:=Str.ofString "__next__") ty F.slot_dict_keyiterator_next (wpAny_call_entry F.slot_dict_keyiterator_next ty F.entry_dict_keyiterator_next ?_ (F.args_dict_keyiterator_next_1 _))));refine wpAny_bind (wpAny_pure ?_);refine wpAny_bind ?_;refine wpAny_bind ?_
 first|refine wpAny_bind (wpAny_typeNameOfWhole_keyiter ty (wpAny_pure ?_))|refine wpAny_bind (wpAny_typeNameOf_keyiter ty (wpAny_pure ?_))
 refine wpAny_bind (wpAny_fieldsOf ho hd ?_);simp only[show Builtin.Dict_items.ownsTuple "dict_keyiterator" = false by decide,Bool.false_eq_true,if_false]
 show wpAny _ _ (if (Value.ref d == Value.none)=true then _ else _) _ _ s;rw[if_neg (show ¬ ((Value.ref d == Value.none)=true) from Bool.false_ne_true)]
 refine wpAny_bind (wpAny_pure ?_);refine wpAny_bind (wpAny_dictEntries h1 h3 ?_);rw[if_neg (by simp)];refine wpAny_bind (wpAny_pure ?_);refine wpAny_bind (wpAny_dictEpoch h1 h3 ?_);rw[if_neg (by simp)];refine wpAny_pure ?_;simp only[show ¬ ((es.size:Int)<0) from by omega,if_false,Int.toNat_natCast,Array.getElem?_eq_none (Nat.le_refl _)];refine wpAny_bind ?_
 first|refine wpAny_bind (wpAny_typeNameOfWhole_keyiter ty (wpAny_pure ?_))|refine wpAny_bind (wpAny_typeNameOf_keyiter ty (wpAny_pure ?_))
 show wpAny _ _ (setField (.ref it) 0 .none >>= _) _ _ s;refine wpAny_bind (wpAny_setField ho hd (by simp) ?_)
 show wpAny _ _ (newExc (.type "StopIteration") [] >>= _) _ _ _;refine wpAny_bind ?_
 simp only[newExc,newTuple];refine wpAny_bind (wpAny_newObj_type ?_ (by size_fits));refine wpAny_bind (m:=firstArgMember _ _) (wpAny_of_eq (a:=Value.none) (by first|rfl|(simp only[firstArgMember];rfl)) ?_);refine wpAny_newObj_type ?_ (by size_fits);simp only[raiseNew];refine wpAny_bind (wpAny_handled ?_);rw[show A.in1.handled=none from hh];refine wpAny_bind (wpAny_pure (wpAny_throw ?_));refine wpAny_bind (wpAny_isInstance (T:= "StopIteration") (b:=true) ⟨_,Heap.get?_push_size _ rfl,rfl⟩ isSubtype_stop ?_);exact wpAny_pure (hQ _ (((Heap.SameBut.update ..).extBut.push _).push _))
theorem qoh (hh:A.handled=none) (J d:Addr) (hne:d≠J) (es:Array DictEntry) (ep:Nat) :
  Walks prog w A J [J,d] [J] es.size (λi v=>∃ e,es[i]?=some e/\v=e.key) (λi h=>h.IsKeyIter J d i es.size ep/\RawD h d es ep) where
 sub:=λb hb=>by simp at hb;simp[hb]
 frame:=λ_ _ _ st hk=>⟨st.1.at λo e=>hk J (by simp) o e,st.2.up λo e=>hk d (by simp) o e⟩
 item:=λi s Q E hi st hQ=>by
  refine qqo st.1 st.2 hi λh' hJ' hs'=>?_
  exact hQ _ h' s.toks ⟨es[i],by simp[hi],rfl⟩ ⟨hJ',st.2.up λo e=>hs'.extBut d o hne e⟩ λb o hb e=>hs'.extBut b o (λh=>hb (by simp[h])) e
 done:=λs Q E st hQ=>qsl hh st.1 st.2 λh' he'=>hQ h' s.toks λb o hb e=>he' b o (λh=>hb (by simp[h])) e
 self:=λ_ _ _ _ st hQ=>wpAny_pyIter_keyiter st.1 hQ
theorem qsm {d:Addr} {es:Array DictEntry} {ep:Nat} (lo:(d == sysModules)=false):PySem.W.KdlSrc prog w "dict" d d es.size (λi v=>∃ e,es[i]?=some e/\v=e.key) (λh=>RawD h d es ep) where
 type:=λ_ hm=>hm.ty
 there:=λ_ hm=>⟨hm.lt,hm.lt⟩
 keep:=λ_ _ hm hk=>hm.up λo e=>hk d (.inl rfl) o e
 notList:=by decide
 notTuple:=by decide
 hint:=λ_ _ _ _ hm hq=>PySem.W.kdl_hint_dict hm.ty hq
 iter:=λ_ _ hh hm=>⟨_,_,(λ_ _ hq=>qqn lo hm hq),qoh hh _ d (Nat.ne_of_lt hm.lt) es ep,⟨⟨_,Heap.get?_push_size _ rfl,rfl,rfl⟩,hm.up λ_ e=>Heap.get?_push_of_some _ e⟩⟩
end
open PySem PySem.Spec PyProof.Rows
section
variable {prog:Program} {w:World} {A:Around} {E:Value->Shared->Prop} {s:Shared}
end
section
variable {X:Cx}
end
open PySem PySem.Spec PyProof.Rows
section
variable {X:Cx} {tg:Expr}
end
section
variable {X:Cx}
def qsn:TE:=λ_ H Q=>∀ p H',New H H' p (.dT [])->Q (.ref p) H'
theorem qkc {pos:Pos}:PE X (.Dict [] [] pos) qsn:=λpins s σ H Q I h=>qn7 pins s σ H Q I λp hp=>h p _ (qa0 hp)
end
open PySem PySem.Spec PyProof.Rows
end L2
namespace L2
theorem lq1 {α:Type} {us:List α} (h:us.length=1):∃ a,us=[a]:=by
 cases us with
 | nil=>cases h
 | cons a r=>exact ⟨a,by rw[List.length_eq_zero_iff.mp (Nat.succ.inj h)]⟩
theorem lq2 {α:Type} {us:List α} (h:us.length=2):∃ a0 a1,us=[a0,a1]:=by
 cases us with
 | nil=>cases h
 | cons a r=>obtain ⟨a1,e⟩:=lq1 (Nat.succ.inj h);exact ⟨a,a1,by rw[e]⟩
theorem lq3 {α:Type} {us:List α} (h:us.length=3):∃ a0 a1 a2,us=[a0,a1,a2]:=by
 cases us with
 | nil=>cases h
 | cons a r=>obtain ⟨a1,a2,e⟩:=lq2 (Nat.succ.inj h);exact ⟨a,a1,a2,by rw[e]⟩
theorem lq4 {α:Type} {us:List α} (h:us.length=4):∃ a0 a1 a2 a3,us=[a0,a1,a2,a3]:=by
 cases us with
 | nil=>cases h
 | cons a r=>obtain ⟨a1,a2,a3,e⟩:=lq3 (Nat.succ.inj h);exact ⟨a,a1,a2,a3,by rw[e]⟩
open PySem PySem.Spec PyProof.Rows PySem.W
section
variable {lt:Nat->Nat->Bool} {n:Nat}
end
open PySem PySem.Spec PyProof.Rows PySem.W
def blt:List Int->List Int->Bool
 | [],[]=>false
 | [],_ :: _=>true
 | _ :: _,[]=>false
 | a :: r,b :: t=>if a=b then blt r t else decide (a<b)
section
variable {prog:Program} {w:World} {A:Around} {E:Value->Shared->Prop} {s:Shared}
end
open PySem PySem.Spec PyProof.Rows PySem.W
section
variable {prog:Program} {w:World} {A:Around} {E:Value->Shared->Prop} {s:Shared}
end
section
variable {X:Cx}
end
open PySem PySem.Spec PyProof.Rows
section
variable {X:Cx} {k:Nat} {C:Addr} {ps:List Str} {sp:Sp} {dvs:List V} {ds:List Value} {m:Str} {pos apos:Pos} {e o:Expr} {es:List Expr} {ta:TE} {t:TA}
end
open PySem PySem.Spec PyProof.Rows PySem.W
section
variable {prog:Program} {w:World} {A:Around} {E:Value->Shared->Prop} {s:Shared}
end
section
variable {X:Cx} {pos:Pos}
end
open PySem PySem.Spec PyProof.Rows
section
variable {prog:Program} {w:World} {A:Around} {E:Value->Shared->Prop} {s:Shared}
abbrev qpk (d:Addr) (n ep:Nat):Obj:={ cls:=.type "dict_itemiterator",data:=.fields #[.none,.bool false,.ref d,.int 0 0,.int n 0,.int ep 0,.none,.none] }
theorem qqp {d:Addr} {es:Array DictEntry} {ep:Nat} {Q:Value->Shared->Prop} (lo:(d == sysModules)=false) (hm:RawD s.heap d es ep)
  (hQ:Q (.ref s.heap.objs.size) { s with heap:=s.heap.push { cls:=.type "dict_items",data:=.fields #[.ref d] } }):wpAny (model prog w) A (call (.builtin "dict.items") [.ref d]) Q E s:=by
 have ty:=hm.ty;refine wpAny_call_entry F.slot_dict_items ty F.entry_dict_items ?_ (F.args_dict_items_1 _);unfold Builtin.«dict.items»;refine wpAny_bind ?_;unfold Builtin.Dict.noArgs;refine wpAny_bind (wpAny_notOrdered_dict ty ?_);show wpAny _ _ (pure d) _ _ s;refine wpAny_pure ?_
 show wpAny _ _ (Builtin.Dict.showsAll d >>= _) _ _ s;unfold Builtin.Dict.showsAll;rw[if_neg (by rw[lo];exact Bool.false_ne_true)]
 refine wpAny_bind (wpAny_pure ?_);exact wpAny_bind (wpAny_newObj_type (wpAny_pure ⟨_,rfl,hQ⟩))
theorem qqq {v d:Addr} {es:Array DictEntry} {ep:Nat} {Q:Value->Shared->Prop} (hv:s.heap.IsItemsView v d) (hm:RawD s.heap d es ep)
  (hQ:Q (.ref s.heap.objs.size) { s with heap:=s.heap.push (qpk d es.size ep) }):wpAny (model prog w) A (pyIter (.ref v)) Q E s:=by
 have ty:=hv.typeIs;obtain ⟨u,e1,e2,e3⟩:=hv;obtain ⟨o,h1,h2,h3⟩:=hm;refine wpAny_pyIter_slot ty F.slot_dict_items_iter (wpAny_call_entry F.slot_dict_items_iter ty F.entry_dict_items_iter ?_ (F.args_dict_items_iter_1 _));unfold Builtin.«dict_items.__iter__»;refine wpAny_bind (wpAny_pure ?_);refine wpAny_bind ?_;unfold Builtin.Dict_items.dictOf;refine wpAny_bind (wpAny_field e1 e3 (x:=.ref d) rfl (wpAny_pure ?_));refine wpAny_bind ?_;unfold Builtin.Dict_items.newIterator;refine wpAny_bind (wpAny_dictEntries h1 h3 ?_);refine wpAny_bind (wpAny_dictEpoch h1 h3 ?_);simp only[show Builtin.Dict_items.ownsTuple "dict_itemiterator" = true by decide,if_true];refine wpAny_newObj_type (wpAny_pure ⟨_,rfl, "dict_itemiterator",_,⟨_,Heap.get?_push_size _ rfl,rfl⟩,F.slot_dict_itemiterator_next.lookup,?_⟩) (by simp only[sizeOk,Builtin.Dict_items.ownedTupleFields,List.size_toArray,List.length_append,List.length_cons,List.length_nil,sizeLine_eq];omega)
 simpa [rawInt,Builtin.Dict_items.ownedTupleFields] using hQ
theorem qqr {it d:Addr} {i ep:Nat} {es:Array DictEntry} {ok ov:Value} {Q:Option Value->Shared->Prop} (hJ:IsItemIter s.heap it d i es.size ep ok ov) (hm:RawD s.heap d es ep) (hx:i<es.size)
  (hQ:∀ h',IsItemIterOut h' it d (i+1) es.size ep es[i].key es[i].val s.heap.objs.size->h'.get? s.heap.objs.size=some { cls:=.type "tuple",data:=.seq #[es[i].key,es[i].val] } ->
   (∀ b o,b≠it->s.heap.get? b=some o->h'.get? b=some o)->Q (some (.ref s.heap.objs.size)) { s with heap:=h' }):wpAny (model prog w) A (pyNext (.ref it)) Q E s:=by
 obtain ⟨hp,g,dr,tk,os⟩:=s;obtain ⟨od,h1,h2,h3⟩:=hm;have ty:Shared.TypeIs ⟨hp,g,dr,tk,os⟩ (.ref it) "dict_itemiterator" :=⟨_,hJ,rfl⟩;unfold pyNext;refine wpAny_bind (wpAny_attempt (wpAny_callSpecial?_slot (name:=Str.ofString "__next__") ty F.slot_dict_itemiterator_next (wpAny_call_entry F.slot_dict_itemiterator_next ty F.entry_dict_itemiterator_next ?_ (F.args_dict_itemiterator_next_1 _))));refine wpAny_bind (wpAny_pure ?_);refine wpAny_bind ?_;refine wpAny_bind ?_
 first|refine wpAny_bind (wpAny_typeNameOfWhole_itemiter ty (wpAny_pure ?_))|refine wpAny_bind (wpAny_typeNameOf_itemiter ty (wpAny_pure ?_))
 refine wpAny_bind (wpAny_fieldsOf hJ rfl ?_);simp only[show Builtin.Dict_items.ownsTuple "dict_itemiterator" = true by decide,if_true]
 show wpAny _ _ (if (Value.ref d == Value.none)=true then _ else _) _ _ _;rw[if_neg (show ¬ ((Value.ref d == Value.none)=true) from Bool.false_ne_true)]
 refine wpAny_bind (wpAny_pure ?_);refine wpAny_bind (wpAny_dictEntries h1 h3 ?_);rw[if_neg (by simp)];refine wpAny_bind (wpAny_pure ?_);refine wpAny_bind (wpAny_dictEpoch h1 h3 ?_);rw[if_neg (by simp)];refine wpAny_pure ?_;simp only[show ¬ ((i:Int)<0) from by omega,if_false,Int.toNat_natCast,Array.getElem?_eq_getElem hx];refine wpAny_bind ?_
 first|refine wpAny_bind (wpAny_typeNameOfWhole_itemiter ty (wpAny_pure ?_))|refine wpAny_bind (wpAny_typeNameOf_itemiter ty (wpAny_pure ?_))
 refine wpAny_bind (wpAny_isOneOf_itemiter ty ?_)
 show wpAny _ _ (setField (.ref it) 3 (rawInt ((i:Int)+1)) >>= _) _ _ ⟨hp,g,dr,tk,os⟩;refine wpAny_bind (wpAny_setField_rec hJ (by simp) λg1 j1 b1=>?_)
 replace b1:Heap.SameBut it hp g1:=b1
 replace j1:IsItemIter g1 it d (i+1) es.size ep ok ov:=by
  unfold IsItemIter;rw[show ((i+1:Nat):Int)=(i:Int)+1 by omega];simpa [rawInt] using j1
 have ty1:Shared.TypeIs ⟨g1,g,dr,tk,os⟩ (.ref it) "dict_itemiterator" :=⟨_,j1,rfl⟩;refine wpAny_bind (wpAny_holding ?_);refine wpAny_bind (wpAny_isOneOf_itemiter ty1 ?_);refine wpAny_bind (wpAny_isOneOf_itemiter ty1 ?_)
 show wpAny _ _ (Builtin.Dict_items.pairFromOwner (.ref it) 6 es[i].key es[i].val) _ _ ⟨g1,g,dr,tk,os⟩;unfold Builtin.Dict_items.pairFromOwner;refine wpAny_bind (wpAny_newTuple ?_)
 have j2:IsItemIter (g1.push { cls:=.type "tuple",data:=.seq #[es[i].key,es[i].val] }) it d (i+1) es.size ep ok ov:=Heap.get?_push_of_some _ j1;have z1:g1.objs.size=hp.objs.size:=b1.1;have il:it≠hp.objs.size:=Nat.ne_of_lt (Heap.lt_size hJ);have t2:(g1.push { cls:=.type "tuple",data:=.seq #[es[i].key,es[i].val] }).get? hp.objs.size=some { cls:=.type "tuple",data:=.seq #[es[i].key,es[i].val] }:=by rw[<- z1];exact Heap.get?_push_size _ rfl
 have k2:∀ b o,b≠it->hp.get? b=some o->(g1.push { cls:=.type "tuple",data:=.seq #[es[i].key,es[i].val] }).get? b=some o:=λb o hb e=>Heap.get?_push_of_some _ (b1.extBut b o hb e)
 generalize (g1.push { cls:=.type "tuple",data:=.seq #[es[i].key,es[i].val] })=g2 at j2 t2 k2 ⊢
 show wpAny _ _ (Builtin.Dict_items.ownedTupleIsFree (.ref it) >>= _) _ _ ⟨g2,g,dr,tk,os⟩;rw[z1];refine wpAny_bind ?_
 unfold Builtin.Dict_items.ownedTupleIsFree;refine wpAny_bind (wpAny_field j2 rfl (x:=.none) rfl (wpAny_pure ?_));simp only[if_true];refine wpAny_bind (wpAny_field j2 rfl (x:=ok) rfl ?_);refine wpAny_bind (wpAny_field j2 rfl (x:=ov) rfl ?_);refine wpAny_bind (wpAny_setField_rec j2 (by simp) λg3 j3 b3=>?_);replace b3:Heap.SameBut it g2 g3:=b3;replace j3:IsItemIter g3 it d (i+1) es.size ep es[i].key ov:=j3;refine wpAny_bind (wpAny_setField_rec j3 (by simp) λg4 j4 b4=>?_);replace b4:Heap.SameBut it g3 g4:=b4;replace j4:IsItemIter g4 it d (i+1) es.size ep es[i].key es[i].val:=j4;refine wpAny_bind (wpAny_setField_rec j4 (by simp) λg5 j5 b5=>?_);replace b5:Heap.SameBut it g4 g5:=b5;replace j5:IsItemIterOut g5 it d (i+1) es.size ep es[i].key es[i].val hp.objs.size:=j5;refine wpAny_bind (wpAny_setField_rec j5 (by simp) λg6 j6 b6=>?_);replace b6:Heap.SameBut it g5 g6:=b6;replace j6:IsItemIterOut g6 it d (i+1) es.size ep es[i].key es[i].val hp.objs.size:=j6;have k6:∀ b o,b≠it->g2.get? b=some o->g6.get? b=some o:=λb o hb e=>b6.extBut b o hb (b5.extBut b o hb (b4.extBut b o hb (b3.extBut b o hb e)))
 exact wpAny_bind (wpAny_letGo (wpAny_pure (wpAny_pure ⟨_,rfl,wpAny_pure (hQ g6 j6 (k6 _ _ il.symm t2) λb o hb e=>k6 b o hb (k2 b o hb e))⟩)))
theorem qso {it d:Addr} {i ep:Nat} {es:Array DictEntry} {ok ov:Value} {Q:Option Value->Shared->Prop} (hh:A.handled=none) (hJ:IsItemIter s.heap it d i es.size ep ok ov) (hm:RawD s.heap d es ep) (hx:es.size<=i)
  (hQ:∀ h',Heap.ExtBut it s.heap h'->Q none { s with heap:=h' }):wpAny (model prog w) A (pyNext (.ref it)) Q E s:=by
 obtain ⟨od,h1,h2,h3⟩:=hm;have ty:s.TypeIs (.ref it) "dict_itemiterator" :=⟨_,hJ,rfl⟩;unfold pyNext;refine wpAny_bind (wpAny_attempt (wpAny_callSpecial?_slot (name:=Str.ofString "__next__") ty F.slot_dict_itemiterator_next (wpAny_call_entry F.slot_dict_itemiterator_next ty F.entry_dict_itemiterator_next ?_ (F.args_dict_itemiterator_next_1 _))));refine wpAny_bind (wpAny_pure ?_);refine wpAny_bind ?_;refine wpAny_bind ?_
 first|refine wpAny_bind (wpAny_typeNameOfWhole_itemiter ty (wpAny_pure ?_))|refine wpAny_bind (wpAny_typeNameOf_itemiter ty (wpAny_pure ?_))
 refine wpAny_bind (wpAny_fieldsOf hJ rfl ?_);simp only[show Builtin.Dict_items.ownsTuple "dict_itemiterator" = true by decide,if_true]
 show wpAny _ _ (if (Value.ref d == Value.none)=true then _ else _) _ _ s;rw[if_neg (show ¬ ((Value.ref d == Value.none)=true) from Bool.false_ne_true)]
 refine wpAny_bind (wpAny_pure ?_);refine wpAny_bind (wpAny_dictEntries h1 h3 ?_);rw[if_neg (by simp)];refine wpAny_bind (wpAny_pure ?_);refine wpAny_bind (wpAny_dictEpoch h1 h3 ?_);rw[if_neg (by simp)];refine wpAny_pure ?_;simp only[show ¬ ((i:Int)<0) from by omega,if_false,Int.toNat_natCast,Array.getElem?_eq_none hx];refine wpAny_bind ?_
 first|refine wpAny_bind (wpAny_typeNameOfWhole_itemiter ty (wpAny_pure ?_))|refine wpAny_bind (wpAny_typeNameOf_itemiter ty (wpAny_pure ?_))
 show wpAny _ _ (setField (.ref it) 2 .none >>= _) _ _ s;refine wpAny_bind (wpAny_setField hJ rfl (by simp) ?_)
 show wpAny _ _ (newExc (.type "StopIteration") [] >>= _) _ _ _;refine wpAny_bind ?_
 simp only[newExc,newTuple];refine wpAny_bind (wpAny_newObj_type ?_ (by size_fits));refine wpAny_bind (m:=firstArgMember _ _) (wpAny_of_eq (a:=Value.none) (by first|rfl|(simp only[firstArgMember];rfl)) ?_);refine wpAny_newObj_type ?_ (by size_fits);simp only[raiseNew];refine wpAny_bind (wpAny_handled ?_);rw[show A.in1.handled=none from hh];refine wpAny_bind (wpAny_pure (wpAny_throw ?_));refine wpAny_bind (wpAny_isInstance (T:= "StopIteration") (b:=true) ⟨_,Heap.get?_push_size _ rfl,rfl⟩ isSubtype_stop ?_);exact wpAny_pure (hQ _ (((Heap.SameBut.update ..).extBut.push _).push _))
theorem qoi:entryFor table "dict_itemiterator.__iter__" = some Builtin.«dict_keyiterator.__iter__» :=
 entryFor_alias (id':= "dict_keyiterator.__iter__") (by rw[fastTable_eq_tree];kernel_rfl) (by first|rfl|decide +kernel) (by decide +kernel) (by rw[fastTable_eq_tree];kernel_rfl)
theorem qqs {it d:Addr} {i n ep:Nat} {ok ov:Value} {Q:Value->Shared->Prop} (hJ:IsItemIter s.heap it d i n ep ok ov) (h:Q (.ref it) s):wpAny (model prog w) A (pyIter (.ref it)) Q E s:=by
 have ty:s.TypeIs (.ref it) "dict_itemiterator" :=⟨_,hJ,rfl⟩;refine wpAny_pyIter_slot ty F.slot_dict_itemiterator_iter (wpAny_call_entry F.slot_dict_itemiterator_iter ty qoi ?_ (F.args_dict_itemiterator_iter_1 _));show wpAny _ _ (ret (.ref it)) _ _ s
 exact wpAny_pure ⟨_,rfl, "dict_itemiterator",_,ty,F.slot_dict_itemiterator_next.lookup,h⟩
end
open PySem PySem.Spec PyProof.Rows
def NoF (X:Cx) (d:Addr):Prop:=(∀ xs,X.H₀ d≠some (.tup xs))/\(∀ o u,X.H₀ d≠some (.frz o u))/\∀ ps,X.H₀ d≠some (.tbl ps)
section
variable {X:Cx} {pins:List (Addr×Obj)} {σ:St} {H:Hp} {s:Shared} {d:Addr}
theorem Inv.swap {o1 o2:HO} (I:Inv X pins σ H s) (hd:H d=some o1) (n1:∀ xs,o1≠.tup xs) (n2:∀ b,o1≠.own b) (nf:NoF X d) (ok:ObjOk X.prog X.w (upd H d o2) s.heap d o2):Inv X pins σ (upd H d o2) s:=by
 have ne:∀ {b},H b=none->b≠d:=λh z=>by rw[z,hd] at h;cases h
 refine ⟨I.ok,I.os,I.bare,⟨I.base.keep,I.base.slot,λb o q n hx=>?_,I.base.there,λb xs q=>?_,λb o u q=>?_,λb ps q=>?_⟩,I.loc,I.cell,?_,λx c q=>?_,λp hp=>?_,λb u q=>?_,I.len⟩
 ·have h0:=I.base.free b o q n hx
  rw[qam (ne h0)];exact h0
 ·have hb:b≠d:=λz=>nf.1 xs (by rw[<- z];exact q)
  rw[qam hb];exact I.base.tups b xs q
 ·have hb:b≠d:=λz=>nf.2.1 o u (by rw[<- z];exact q)
  rw[qam hb];exact I.base.frzs b o u q
 ·have hb:b≠d:=λz=>nf.2.2 ps (by rw[<- z];exact q)
  rw[qam hb];exact I.base.tbls b ps q
 ·rw[qam (ne I.free)];exact I.free
 ·rw[qam (ne (I.freeC x c q))];exact I.freeC x c q
 ·obtain ⟨e,n,r⟩:=I.pin p hp
  exact ⟨e,by rw[qam (ne n)];exact n,r⟩
 ·by_cases hb:b=d
  ·subst hb;rw[qat] at q;cases q;exact ok
  ·rw[qam hb] at q
   refine (I.hok b u q).stay (λ_ _ _ q=>q) (λc q=>?_) λc xs q=>?_
   ·rw[qam (λz=>by rw[z,hd] at q;exact n2 _ (Option.some.inj q))];exact q
   ·rw[qam (λz=>by rw[z,hd] at q;exact n1 _ (Option.some.inj q))];exact q
end
theorem qib {α β:Type} {R:α->β->Prop}:∀ {xs:List α} {ys:List β} {i:Nat} {x:α},Paired R xs ys->xs[i]?=some x->∃ y,ys[i]?=some y/\R x y
 | _,_,_,_,.nil,e=>by simp at e
 | _,_,0,_,.cons r _,e=>by simp at e;subst e;exact ⟨_,rfl,r⟩
 | _,_,i+1,x,.cons _ t,e=>by
  obtain ⟨u,h1,h2⟩:=qib (i:=i) (x:=x) t (by simpa using e);exact ⟨u,by simpa using h1,h2⟩
section
variable {X:Cx}
end
open PySem PySem.Spec PyProof.Rows
section
variable {prog:Program} {w:World} {A:Around} {E:Value->Shared->Prop} {h:Heap} {g:Array GenState} {d:Drawn} {t:Nat} {os:OsState}
variable {nm q:Str} {C N x:Addr} {bs bm:List Value} {hdct:Bool} {sn:List Str} {sub:List Value} {ab:Bool} {col:Option Bool} {dd:Option Addr} {k0 k1 k2 k3 k5:Option Value}
end
section
variable {prog:Program} {w:World} {A:Around} {E:Value->Shared->Prop} {K:Frag} {h:Heap} {g:Array GenState} {d:Drawn} {t:Nat} {os:OsState} {C f x:Addr} {o:Obj} {vs:Array Value}
end
open PySem PySem.Spec PyProof.Rows
section
variable {prog:Program} {w:World} {A:Around} {E:Value->Shared->Prop} {s:Shared} {K:Frag} {a D:Addr} {oe:Obj} {od:Option Obj}
end
open PySem PySem.Spec PyProof.Rows
def qv6 (t u:TE):TE:=λσ H Q=>t σ H Q\/u σ H Q
theorem qsp {X:Cx} {e:Expr} {t u:TE} (ht:PE X e t) (hu:PE X e u):PE X e (qv6 t u):=λpins s σ H Q I h=>h.elim (ht pins s σ H Q I) (hu pins s σ H Q I)
open PySem PySem.Spec PyProof.Rows PySem.Builtin PySem.Builtin.Str
def slS (x:Str) (lo hi:Option Int):Str:=
 if ((strSliceIndices lo hi 1 x.length).length == x.length)=true then x else ⟨((strSliceIndices lo hi 1 x.length).filterMap (x.cps[·]?)).toArray⟩
def qv7:V->Option Int->Option Int->Hp->VK->Prop:=λx lo hi H Q=>∃ z,x=.str z/\(slS z lo hi).length<=sizeLine/\Q (.str (slS z lo hi)) H
theorem qgy {X:Cx}:SlR X qv7:=by
 intro pins s σ H x v vl vu lo hi sl Q I rx hs pl pu h;obtain ⟨z,rfl,hz,q⟩:=h;obtain ⟨t,rfl⟩:=rx;obtain ⟨l,el,el2⟩:∃ l:Option (Int×Tok),vl=partValue l/\l.map (·.1)=lo:=by
  cases pl with
  | none=>exact ⟨none,rfl,rfl⟩
  | int i t=>exact ⟨some (i,t),rfl,rfl⟩
 obtain ⟨u,eu,eu2⟩:∃ u:Option (Int×Tok),vu=partValue u/\u.map (·.1)=hi:=by
  cases pu with
  | none=>exact ⟨none,rfl,rfl⟩
  | int i t=>exact ⟨some (i,t),rfl,rfl⟩
 subst el eu el2 eu2;have hs':s.heap.IsSlice sl l u none:=hs;refine ⟨"str",_,F.slot_str_getitem.lookup,typeIs_str _ _ _,wpAny_getItem_str_slice (l:=l) (u:=u) (st:=none) hs' rfl ?_⟩;unfold slS at q hz;unfold sliceMade slicePicked
 by_cases c:((strSliceIndices (l.map (·.1)) (u.map (·.1)) 1 z.length).length == z.length)=true
 ·rw[if_pos c] at q
  rw[if_pos (by simpa using c)];exact ⟨.str z,H,I,⟨_,rfl⟩,q⟩
 ·rw[if_neg c] at q hz
  rw[if_neg (by simpa using c)];exact ⟨hz,⟨.str _,H,I.tok _,⟨_,rfl⟩,q⟩⟩
theorem qoj {X:Cx} (hc:X.calm=true):CallR X (.builtin "any") (λxs H Q=>∃ (p:Addr) (bs:List Bool),xs=[.ref p]/\SqL X.K H p (bs.map V.bl)/\Q (.bl (bs.any id)) H):=by
 intro pins s σ H xs us Q I r h;obtain ⟨p,bs,rfl,hq,q⟩:=h;obtain ⟨u,rfl,ru⟩:=vals1 r
 cases (show u=Value.ref p from ru)
 obtain ⟨its,rv,pl,hz⟩:=I.list hq;have hl:=pl.isList;have hlt:p<s.heap.objs.size:=by obtain ⟨_,e,_⟩:=hl;exact Heap.lt_size e
 have hb:=qen rv;refine call_any_walk (wpAny_pyIter_list hl ?_);refine ⟨s.heap.objs.size,[s.heap.objs.size,p],[s.heap.objs.size],its.toArray.size,_,_,λi=>(bs[i]?).getD false,rfl,Walks.list (A:=X.A.in1) (I.ok.hd hc) _ p (Nat.ne_of_lt hlt) its.toArray,
  ⟨⟨_,Heap.get?_push_size _ rfl,rfl,rfl⟩,hl.push _⟩,λi v s' Q' E' hP hQ=>?_,λh' tk hk=>?_⟩
 ·rw[hb] at hP
  have hP':(bs.map Value.bool)[i]?=some v:=by simpa using hP
  rw[List.getElem?_map] at hP';obtain ⟨b,e1,e2⟩:=Option.map_eq_some_iff.mp hP';subst e2;simp only[e1,Option.getD_some] at hQ;exact wpAny_truthy_bool hQ
 ·have e:((List.range its.toArray.size).any λi=>(bs[i]?).getD false)=bs.any id:=by
   rw[List.size_toArray,hb,List.length_map];exact PyProof.Rows.LSm.range_any bs
  rw[e];refine ⟨.bl _,H,I.kept λb o q=>hk b o (λhm=>?_) (Heap.get?_push_of_some _ q),rfl,q⟩;rw[List.mem_singleton.mp hm] at q;exact absurd (Heap.lt_size q) (Nat.lt_irrefl _)
theorem qsq:bootBuiltins "any" = some (.builtin "any"):=by decide +kernel
open PySem PySem.Spec PyProof.Rows PySem.W
end L2
namespace L2
open PySem PySem.Spec PyProof.Rows PySem.W
section
variable {prog:Program} {w:World} {A:Around} {E:Value->Shared->Prop} {s:Shared}
end
section
variable {X:Cx}
end
open PySem PySem.Spec PyProof.Rows
section
variable {prog:Program} {w:World} {A:Around} {R:Result->Shared->Prop} {I:Addr} {fp wr:List Addr} {n:Nat} {P:Nat->Value->Prop} {St:Nat->Heap->Prop} {K:Type} [DecidableEq K] {knd:KeyKind prog w K}
end
open PySem PySem.Spec PyProof.Rows
section
variable {prog:Program} {w:World} {A:Around} {E:Value->Shared->Prop} {s:Shared} {K:Type} [DecidableEq K] {knd:KeyKind prog w K}
end
open PySem PySem.Spec PyProof.Rows
theorem qul {X:Cx}:qfy (CX1 X.prog X.w) X E0:=λ_ _ _ _ _ _ _ ⟨_,_,_,_,_,_,_,_,_,_,_,_,_,_,_,q⟩=>q.elim
section
variable {X:Cx} {k:Nat} {ps:List Str} {sp:Sp} {dvs:List V} {ds:List Value} {x:Str} {p pos:Pos} {e:Expr} {es:List Expr} {t:TA}
end
open PySem
end L2
namespace L2
open PySem
def qqt:TE:=λ_ H Q=>∀ p H',New H H' p (.dK [])->Q (.ref p) H'
theorem qf8 {X:Cx} {pos:Pos}:PE X (.Dict [] [] pos) qqt:=λpins s σ H Q I h=>qn6 pins s σ H Q I λp hp=>h p _ (qa0 hp)
open PySem
section
variable {X:Cx}
end
open PySem PyProof PyProof.Rows
section
variable {X:Cx}
end
open PySem PySem.Calls PySem.NumText PyProof.Rows
section
variable {prog:Program} {w:World} {A:Around} {E:Value->Shared->Prop} {s:Shared} {Q:Value->Shared->Prop} {x:PySem.Str} {t:Tok} {n:Int}
end
open PySem PySem.Spec PyProof.Rows PySem.Builtin PySem.Builtin.Str
def S (l:List Nat):Str:=⟨l.toArray⟩
theorem qbk (l:List Nat):(S l).length=l.length:=by show l.toArray.size=_;simp
theorem qhh {a b:List Nat} (h:S a=S b):a=b:=by
 have:=congrArg (λx:Str=>x.cps.toList) h
 simpa [S] using this
theorem qmy (a b:List Nat):S a ++ S b=S (a ++ b):=by
 show (⟨a.toArray ++ b.toArray⟩:Str)=⟨(a ++ b).toArray⟩
 simp
theorem qum (a b:List Nat):decide (V.str (S a)=V.str (S b))=decide (a=b):=by
 by_cases h:a=b
 ·subst h;simp
 ·rw[decide_eq_false h,decide_eq_false λz=>h (qhh (by injection z))]
theorem qic {X:Cx}:CallR X (.builtin "len") (λxs H Q=>∃ z,xs=[.str (S z)]/\z.length<=sizeLine/\Q (.int z.length) H):=by
 intro pins s σ H xs us Q I r h;obtain ⟨z,rfl,hz,q⟩:=h;exact qny pins s σ H _ us Q I r ⟨_,_,rfl,⟨by rw[qbk];exact hz,rfl⟩,by rw[qbk];exact q⟩
theorem qkd {X:Cx} {a b:Expr} {ta tb:TE} {pos:Pos} (ha:PE X a ta) (hb:PE X b tb) (hs:qnx b) :
  PE X (.Subscript a b pos) (tOp (λx y H Q=>∃ z i c,x=.str (S z)/\y=.int i/\0<=i/\i<2 ^ 63/\z[i.toNat]?=some c/\Q (.str (S [c])) H) ta tb):=by
 intro pins s σ H Q I h;refine Subscript_ (qtj ha hb I h λv u s2 x y H2 I2 rx ry q=>?_);obtain ⟨z,i,c,rfl,rfl,h0,h63,hc,q⟩:=q;obtain ⟨t,rfl⟩:=rx;obtain ⟨t',rfl⟩:=ry;have hl:=(List.getElem?_eq_some_iff.mp hc).1;have e:seqIndex? i (S z).length=some i.toNat:=PySem.StrLaws.seqIndex_nonneg h0 (by rw[qbk];omega);exact tail_any (typeIs_str s2 (S z) t) PySem.F.slot_str_getitem.lookup (getItem_str (c:=c) (by
  have e1:decide (i < -(2 ^ 63:Int))=false:=decide_eq_false (by omega);have e2:decide (i ≥ 2 ^ 63)=false:=decide_eq_false (by omega);rw[e1,e2]<;>rfl) (by rw[e];simpa [S] using hc) ⟨.str (S [c]),H2,I2.tok _,⟨_,rfl⟩,q⟩) (hs _ _)
theorem qmz {X:Cx}:MtR X "str.startswith" (λx vs H Q=>∃ z y,x=.str z/\vs=[.str y]/\Q (.bl (PySem.Txt.startswith z y)) H):=by
 intro pins s σ H x xs v us Q I rx r h;obtain ⟨z,y,rfl,rfl,q⟩:=h;obtain ⟨t,rfl⟩:=rx;obtain ⟨u,rfl,t',rfl⟩:=vals1 r;exact SC.startswith ⟨.bl _,H,I,rfl,q⟩
def Its (x:List Nat):It:=⟨λi _=>i<x.length,λi H v H'=>H'=H/\∃ c,x[i]?=some c/\v=.str (S [c]),λi _=>i=x.length⟩
theorem qke {P:Program} {w:World} {K:Frag} {tg:Expr} (it:Addr) (x:List Nat) (t:Tok) (ty:String) (hty:ty = "str_ascii_iterator" \/ ty = "str_iterator"):Turn P w K tg (Its x) [it] it (λi h=>h.IsStrIter it ty (S x) t i) where
 mem:=by simp
 obj:=λi h st b hb=>by
  have e:b=it:=by simpa using hb
  subst e;obtain ⟨o,e,c,d⟩:=st;exact ⟨o,e,λv z=>by rw[d] at z;cases z⟩
 keep:=λi h h' st k=>by
  obtain ⟨o,ho,r⟩:=st;exact ⟨o,k it (by simp) o ho,r⟩
 item:=by
  intro X hP hw hK hc i pins s σ H E I hf st hg;subst hP hw hK;obtain ⟨f0,f1,f2,f3,f4,f5⟩:=hf it (by simp);have W:Walks X.prog X.w X.A it [it] [it] (S x).cps.size (SignAt (S x)) (λi h=>h.IsStrIter it ty (S x) t i):=by
   rcases hty with rfl|rfl
   ·exact Walks.strAscii (I.ok.hd hc) it (S x) t
   ·exact Walks.strWide (I.ok.hd hc) it (S x) t
  refine W.item i s _ _ (by have hg':i<x.length:=hg;show i<x.toArray.size;simpa using hg') st λv h' tk hv st' kk=>?_
  obtain ⟨c,u,hx,rfl⟩:=hv;have I1:Inv X pins σ H { s with heap:=h',toks:=tk }:=I.turned (λb o hb e=>kk b o (by simpa using hb) e) f0 f1 f3 f4 f5;obtain ⟨o,e,hcl,d⟩:=id st';exact ⟨_,rfl,qnv (s:={ s with heap:=h',toks:=tk }) e hcl d (by rcases hty with rfl|rfl<;>decide) ⟨.str (S [c]),H,I1,⟨u,rfl⟩,⟨rfl,c,by simpa [S] using hx,rfl⟩,st',λb hb=>(hf b hb).1⟩⟩
 done:=by
  intro X hP hw hK hc i pins s σ H E I hf st hg;subst hP hw hK;obtain ⟨f0,f1,f2,f3,f4,f5⟩:=hf it (by simp);have W:Walks X.prog X.w X.A it [it] [it] (S x).cps.size (SignAt (S x)) (λi h=>h.IsStrIter it ty (S x) t i):=by
   rcases hty with rfl|rfl
   ·exact Walks.strAscii (I.ok.hd hc) it (S x) t
   ·exact Walks.strWide (I.ok.hd hc) it (S x) t
  have e:i=(S x).cps.size:=by
   have h2:i=x.length:=hg;rw[h2];show x.length=x.toArray.size;simp
  subst e;exact W.done s _ _ st λh' tk kk=>⟨rfl,I.turned (λb o hb e=>kk b o (by simpa using hb) e) f0 f1 f3 f4 f5⟩
 self:=λA i s Q E st h=>by
  rcases hty with rfl|rfl
  ·exact wpAny_pyIter_striter_ascii st h
  ·exact wpAny_pyIter_striter_wide st h
def qv8 (tl:TE):TI:=λσ H R=>tl σ H λx H1=>∃ z,x=.str (S z)/\R (Its z) H1
theorem qsr {X:Cx} {tg l:Expr} {tl:TE} (hl:PE X l tl):PI X tg l (qv8 tl):=by
 intro pins s σ H R I h;refine thn (hl pins s σ H _ I h) λv s1 hq__=>?_
 obtain ⟨x,H1,I1,r1,q1⟩:=hq__;obtain ⟨z,e,q⟩:=q1;subst e;obtain ⟨t,rfl⟩:=r1;have fin:∀ b∈[s1.heap.objs.size],qjz X pins H1 b:=λb hb=>by
  have e:b=s1.heap.objs.size:=by simpa using hb
  subst e;exact I1.fpOk (Nat.le_refl _) (I1.hok.fresh (Nat.le_refl _))
 cases ha:(S z).cps.all (· < 128)
 ·exact wpAny_pyIter_wide ha ⟨s1.heap.objs.size,[s1.heap.objs.size],_,_,H1,rfl,I1.kept (t':=s1.toks) λb o e=>Heap.get?_push_of_some _ e,qke _ z t "str_iterator" (.inr rfl),⟨_,Heap.get?_push_size _ rfl,rfl,rfl⟩,fin,q⟩
 ·exact wpAny_pyIter_ascii ha ⟨s1.heap.objs.size,[s1.heap.objs.size],_,_,H1,rfl,I1.kept (t':=s1.toks) λb o e=>Heap.get?_push_of_some _ e,qke _ z t "str_ascii_iterator" (.inl rfl),⟨_,Heap.get?_push_size _ rfl,rfl,rfl⟩,fin,q⟩
theorem qss {x:List Nat} {g:TG} {tc:TT} {te:TE} {Q:VK} {σ:St} {H:Hp} (Pv:Nat->List V->Hp->Prop) (hz:x.length<=sizeLine) (h0:Pv 0 [] H) (hl:∀ i ys H,Pv i ys H->ys.length<=i)
  (hs:∀ i c ys H,x[i]?=some c->Pv i ys H->g (.str (S [c])) σ H λσ4 H4=>tc σ4 H4 λb H5=>if b=true then te σ4 H5 λv H6=>Pv (i+1) (ys ++ [v]) H6 else Pv (i+1) ys H5)
  (hd:∀ ys H p H',Pv x.length ys H->New H H' p (.lst ys)->Q (.ref p) H'):qdp (Its x) Q g tc te σ H:=by
 refine ⟨λi m ys H=>m=x.length-i/\i<=x.length/\Pv i ys H,⟨x.length,by simp,Nat.zero_le _,h0⟩,?_⟩;rintro i m ys H2 ⟨rfl,hi,p⟩;have hy:=hl i ys H2 p
 by_cases hlt:i<x.length
 ·refine .inr ⟨hlt,by omega,Pv (i+1),λzs H' p'=>⟨x.length-(i+1),by omega,rfl,hlt,p'⟩,λv H3 y=>?_⟩
  obtain ⟨e,c,y,z⟩:=y;subst e z;exact hs i c ys _ y p
 ·have e:i=x.length:=by omega
  subst e;exact .inl ⟨rfl,by omega,λp' hp'=>hd ys H2 p' _ p (qa0 hp')⟩
theorem qm0 (K:Frag):PySem.W.kitOne K (.type "str") (.type "str")=some true:=by rfl
theorem qqu (x:List Nat) (c:Nat):PySem.Txt.startswith (S x) (S [c])=decide (x.take 1=[c]):=by
 cases x with
 | nil=>rfl
 | cons a l =>
  unfold PySem.Txt.startswith;rw[PySem.StrLaws.subAt_eq];have e:(S [c]).length=1:=rfl;rw[e]
  show (decide (0+1<=(S (a :: l)).length) && ((((a :: l).toArray.toList).drop 0).take 1 == [c]))=decide ([a]=[c])
  rw[qbk,decide_eq_true (show 0+1<=(a :: l).length by simp),Bool.true_and]
  show ([a] == [c])=decide ([a]=[c])
  rw[Bool.eq_iff_iff]
  simp
theorem qst {X:Cx}:OpR X (compareOp .In) (λx y H Q=>∃ c j,x=.str (S [c])/\y=.str j/\Q (.bl (decide (c∈j.cps.toList))) H):=by
 intro pins s σ H x y v u Q I rx ry h;obtain ⟨c,j,rfl,rfl,q⟩:=h;exact ql9 pins s σ H _ _ v u Q I rx ry ⟨_,j,rfl,rfl,by rw[show S [c]=⟨#[c]⟩ from rfl,PySem.StrLaws.found_one];exact q⟩
theorem qpl (x:List Nat) {a b:Nat} (hab:a<=b) (hb:b<=x.length) {lo hi:Option Int} (h:strSliceIndices lo hi 1 (S x).length=strSliceIndices (some (a:Int)) (some (b:Int)) 1 (S x).length):slS (S x) lo hi=S ((x.drop a).take (b-a)):=by
 have hb':b<=(S x).length:=by rw[qbk];exact hb
 have e:=PySem.StrLaws.sliced_plain (S x) hab hb';unfold slS;rw[h]
 by_cases c:((strSliceIndices (some (a:Int)) (some (b:Int)) 1 (S x).length).length == (S x).length)=true
 ·rw[if_pos c]
  have hl:b-a=x.length:=by
   have:=eq_of_beq c;rw[PySem.StrLaws.strSliceIndices_plain hab hb',qbk] at this
   simpa using this
  have h1:a=0:=by omega
  rw[h1,List.drop_zero,Nat.sub_zero,List.take_of_length_le (by omega)]
 ·rw[if_neg c,e]
  show (⟨_⟩:Str)=⟨_⟩
  simp[S]
theorem qm1 (x:List Nat) {k:Nat} (h:k<=x.length):slS (S x) none (some (k:Int))=S (x.take k):=by
 have e:=qpl x (Nat.zero_le k) h (lo:=none) (hi:=some (k:Int)) (by
  unfold strSliceIndices;have:max (0:Int) (min (0:Int) ((S x).length:Int))=0:=by omega
  simp[this])
 simpa using e
theorem qjb (x:List Nat) (k:Nat):slS (S x) (some (k:Int)) none=S (x.drop k):=by
 have key:∀ k:Nat,k<=x.length->slS (S x) (some (k:Int)) none=S (x.drop k):=λk hk=>by
  have e:=qpl x hk (Nat.le_refl _) (lo:=some (k:Int)) (hi:=none) (by
   rw[qbk];unfold strSliceIndices;have h1:max (0:Int) (min (x.length:Int) (x.length:Int))=x.length:=by omega
   have h2:¬ (x.length:Int)<0:=by omega
   simp[h1,h2])
  rw[e,List.take_of_length_le (by simp)]
 by_cases hk:k<=x.length
 ·exact key k hk
 ·have h1:=key x.length (Nat.le_refl _)
  rw[List.drop_eq_nil_of_le (by omega)];rw[List.drop_eq_nil_of_le (by omega)] at h1;rw[<- h1];unfold slS;rw[indices_beyond (n:=(S x).length) (i:=(k:Int)) (by rw[qbk];omega),qbk]
open PySem PySem.Spec PyProof.Rows PySem.Builtin PySem.Builtin.Str
def qar (c:Nat):List Nat->List (List Nat)
 | []=>[[]]
 | a :: l=>if a=c then [] :: qar c l else match qar c l with
  | []=>[[a]]
  | p :: ps=>(a :: p) :: ps
theorem qm2 (c:Nat):∀ x,qar c x≠[]
 | []=>by simp[qar]
 | a :: l=>by
  unfold qar
  split
  ·simp
  ·split<;>simp
def qd8 (c:Nat):List Nat->List Nat
 | []=>[]
 | a :: l=>if a=c then 0 :: (qd8 c l).map (· + 1) else (qd8 c l).map (· + 1)
theorem qjc (c:Nat) (x:List Nat):(List.range' 0 (x.length+1)).filter (λi=>x[i]? == some c)=qd8 c x:=by
 induction x with
 | nil=>simp[qd8]
 | cons a l ih =>
  have e:List.range' 0 ((a :: l).length+1)=0 :: (List.range' 0 (l.length+1)).map (· + 1):=by
   rw[List.length_cons,List.range'_succ]
   congr 1
   rw[show (λx:Nat=>x+1)=(λx=>1+x) from funext λx=>Nat.add_comm x 1,List.map_add_range']
  rw[e,List.filter_cons,List.filter_map];have e2:((λi=>(a :: l)[i]? == some c) ∘ (· + 1))=λi=>l[i]? == some c:=by
   funext i;simp
  rw[e2,ih,show qd8 c (a :: l)=(if a=c then 0 :: (qd8 c l).map (· + 1) else (qd8 c l).map (· + 1)) from rfl]
  by_cases h:a=c
  ·rw[if_pos h,if_pos (by rw[h];simp)]
  ·rw[if_neg h,if_neg (by simpa using h)]
theorem qv9 (x:List Nat) (c:Nat):occurrences (S x) (S [c]) 0 (S x).length ((S x).length+1)=qd8 c x:=by
 rw[PySem.StrLaws.occ_eq,<- qjc];have key:∀ (l:List Nat) (a m:Nat) (acc:Array Nat) (free:Nat),l=List.range' a m->free<=a->acc.size+m<=x.length+1 ->
   (forIn l (acc,free) (PySem.StrLaws.occBody (S x) (S [c]) (S x).length ((S x).length+1))).run.fst.toList=acc.toList ++ l.filter (λi=>x[i]? == some c):=by
  intro l
  induction l with
  | nil=>intro a m acc free _ _ _;simp
  | cons b l ih =>
   intro a m acc free hl hf hs
   cases m with
   | zero=>simp at hl
   | succ m =>
    rw[List.range'_succ] at hl;obtain ⟨rfl,hl⟩:=List.cons.inj hl;rw[List.forIn_cons];unfold PySem.StrLaws.occBody;have so:=PySem.StrLaws.subAt_one (S x) c b;have eS:(S x).cps.toList=x:=by simp[S]
    rw[eS] at so
    by_cases hc:x[b]?=some c
    ·have hc2:=so.mpr hc
     have cond:(((acc,free).fst.size<(S x).length+1/\(acc,free).snd<=b)/\b+(S [c]).length<=(S x).length)/\subAt (S x) (S [c]) b=true:=⟨⟨⟨by rw[qbk];show acc.size<_;omega,hf⟩,hc2.1⟩,hc2.2⟩;rw[if_pos cond];have:=ih (b+1) m (acc.push b) (b+(S [c]).length) (by simpa using hl) (by show b+1<=b+1;omega) (by rw[Array.size_push];omega);rw[List.filter_cons,if_pos (by rw[hc];simp)];refine Eq.trans this ?_
     simp
    ·have cond:¬ ((((acc,free).fst.size<(S x).length+1/\(acc,free).snd<=b)/\b+(S [c]).length<=(S x).length)/\subAt (S x) (S [c]) b=true):=λh=>hc (so.mp ⟨h.1.2,h.2⟩)
     rw[if_neg cond];have:=ih (b+1) m acc free (by simpa using hl) (by omega) (by omega);rw[List.filter_cons,if_neg (by simpa using hc)];exact this
 have:=key (List.range' 0 ((S x).length+1-0)) 0 ((S x).length+1-0) #[] 0 rfl (Nat.le_refl _) (by rw[qbk];simp);rw[this,qbk]
 simp
def qla (x:List Nat) (cuts:List Nat):List (List Nat):=((0 :: cuts.map (· + 1)).zip (cuts ++ [x.length])).map λp=>(x.drop p.1).take (p.2-p.1)
theorem qgz (c:Nat):∀ x,qla x (qd8 c x)=qar c x
 | []=>by simp[qla,qd8,qar]
 | a :: l=>by
  have ih:=qgz c l;have sh:∀ (P Q:List Nat),((P.map (· + 1)).zip (Q.map (· + 1))).map (λp=>((a :: l).drop p.1).take (p.2-p.1))=(P.zip Q).map λp=>(l.drop p.1).take (p.2-p.1):=by
   intro P
   induction P with
   | nil=>intro Q;simp
   | cons p P ihP =>
    intro Q
    cases Q with
    | nil=>simp
    | cons q Q =>
     have:=ihP Q;simp only[List.map_cons,List.zip_cons_cons] at this ⊢;rw[this]
     simp
  rw[show qd8 c (a :: l)=(if a=c then 0 :: (qd8 c l).map (· + 1) else (qd8 c l).map (· + 1)) from rfl];rw[show qar c (a :: l)=(if a=c then [] :: qar c l else match qar c l with|[]=>[[a]]|p :: ps=>(a :: p) :: ps) from rfl]
  by_cases h:a=c
  ·rw[if_pos h,if_pos h,<- ih]
   unfold qla;have e1:((qd8 c l).map (· + 1) ++ [(a :: l).length])=(qd8 c l ++ [l.length]).map (· + 1):=by simp
   have e2:(0 :: (qd8 c l).map (· + 1)).map (· + 1)=(0 :: (qd8 c l).map (· + 1)).map (· + 1):=rfl;rw[List.map_cons,List.cons_append,List.zip_cons_cons,List.map_cons,e1,show ((0+1) :: ((qd8 c l).map (· + 1)).map (· + 1))=(0 :: (qd8 c l).map (· + 1)).map (· + 1) from rfl,sh]
   simp
  ·rw[if_neg h,if_neg h,<- ih]
   unfold qla;have e1:((qd8 c l).map (· + 1) ++ [(a :: l).length])=(qd8 c l ++ [l.length]).map (· + 1):=by simp
   rw[e1]
   cases hq:qd8 c l ++ [l.length] with
   | nil=>simp at hq
   | cons q Q =>
    rw[List.map_cons,List.zip_cons_cons,List.map_cons,List.zip_cons_cons,List.map_cons,sh]
    simp
theorem qqv (x:List Nat) {c:Nat} (hc:c<256):PySem.Txt.split (S x) (S [c])=(qar c x).map S:=by
 unfold PySem.Txt.split;have k1:PySem.Builtin.Str.strKind (S [c])=1:=by
  unfold PySem.Builtin.Str.strKind;rw[if_pos (by show (#[c].all (· < 256))=true;simp[hc])]
 have k2:1<=PySem.Builtin.Str.strKind (S x):=by
  unfold PySem.Builtin.Str.strKind
  split
  ·omega
  ·split<;>omega
 have e1:(S [c]).length=1:=rfl;rw[qv9,k1,e1,qbk];have kk:decide (PySem.Builtin.Str.strKind (S x)<1)=false:=decide_eq_false (by omega);rw[kk,Bool.or_false]
 by_cases hx:x.length<1
 ·rw[if_pos (decide_eq_true hx)]
  cases x with
  | nil=>rfl
  | cons a l=>simp at hx
 rw[if_neg (by simpa using hx)];have cs:=qgz c x;have parts:partsBetween (S x) (qd8 c x) 1=(qar c x).map S:=by
  rw[<- cs];unfold partsBetween qla;rw[qbk,List.map_map];refine List.map_congr_left λp _=>?_
  show strSub (S x) p.1 p.2=S ((x.drop p.1).take (p.2-p.1))
  unfold strSub
  show (⟨x.toArray.extract p.1 p.2⟩:Str)=⟨_⟩
  congr 1
  apply Array.ext'
  simp[List.extract_eq_drop_take]
 by_cases he:(qd8 c x).isEmpty=true
 ·rw[if_pos he]
  have e0:qd8 c x=[]:=by simpa using he
  rw[<- cs,e0]
  simp[qla]
 ·rw[if_neg he]
  exact parts
theorem qg0 (c:Nat):∀ x,(qar c x).length<=x.length+1
 | []=>by simp[qar]
 | a :: l=>by
  have ih:=qg0 c l;rw[show qar c (a :: l)=(if a=c then [] :: qar c l else match qar c l with|[]=>[[a]]|p :: ps=>(a :: p) :: ps) from rfl]
  split
  ·simp;omega
  ·cases h:qar c l with
   | nil=>simp
   | cons p ps=>rw[h] at ih;simp at ih ⊢;omega
theorem qid:∀ (l:List (Str×Tok)) (ps:List (List Nat)),l.map (·.1)=ps.map S->Vals (ps.map λp=>V.str (S p)) (strValues l)
 | [],[],_=>.nil
 | [],_ :: _,h=>by simp at h
 | _ :: _,[],h=>by simp at h
 | q :: l,p :: ps,h=>by
  rw[List.map_cons,List.map_cons] at h;obtain ⟨h1,h2⟩:=List.cons.inj h;exact .cons ⟨q.2,by rw[<- h1]⟩ (qid l ps h2)
def qsu (x:V) (vs:List V) (H:Hp) (Q:VK):Prop:=∃ z c,x=.str (S z)/\vs=[.str (S [c])]/\c<256/\z.length<=100000/\∀ l H',New H H' l (.lst ((qar c z).map λp=>V.str (S p)))->Q (.ref l) H'
theorem qok {X:Cx}:MtR X "str.split" qsu:=by
 intro pins s σ H x xs v us Q I rx r h;obtain ⟨z,c,rfl,rfl,hc,hz,q⟩:=h;obtain ⟨t,rfl⟩:=rx;obtain ⟨u,rfl,t',rfl⟩:=vals1 r;have hs:sizeLine=16777216:=sizeLine_eq;have hf:H s.heap.objs.size=none:=I.hok.fresh (Nat.le_refl _);have ln:=qg0 c z;have fin:∀ (l:List (Str×Tok)) (k:Nat),l.map (·.1)=PySem.Txt.split (S z) (S [c])->EP X pins σ Q (.ref s.heap.objs.size) { s with heap:=s.heap.push { cls:=.type "list",data:=.seq (strValues l).toArray },toks:=k }:=λl k e=>by
  rw[qqv z hc] at e;refine ⟨.ref s.heap.objs.size,upd H s.heap.objs.size (.lst ((qar c z).map λp=>V.str (S p))),I.laid (t':=k) (λb w e=>Heap.get?_push_of_some _ e) (Nat.le_refl _) ?_,rfl,q _ _ (qa0 hf)⟩;exact ⟨by rw[List.length_map,hs];omega,strValues l,0,qid l _ e,Heap.get?_push_size _ rfl⟩
 have hy:((S [c]).length == 0)=false:=rfl;have hb:(partsBetween (S z) (occurrences (S z) (S [c]) 0 (S z).length ((S z).length+1)) (S [c]).length).length<=sizeLine:=by
  have e1:=PySem.StrLaws.occ_length_le (S z) (S [c]) 0 (S z).length ((S z).length+1);rw[length_partsBetween];rw[qbk] at e1 ⊢;omega
 cases k1:(decide ((S z).length<(S [c]).length) || decide (PySem.Builtin.Str.strKind (S z)<PySem.Builtin.Str.strKind (S [c]))) with
 | true=>exact call_meets PySem.F.slot_str_split (typeIs_str _ _ _) PySem.F.entry_str_split (PySem.F.args_str_split_2 _ _) (meets_str_split_cannot_occur _ _ t t' k1) (fin [(S z,t)] s.toks (if_pos k1).symm)
 | false =>
  cases k2:(occurrences (S z) (S [c]) 0 (S z).length ((S z).length+1)).isEmpty with
  | true=>exact call_meets PySem.F.slot_str_split (typeIs_str _ _ _) PySem.F.entry_str_split (PySem.F.args_str_split_2 _ _) (meets_str_split_not_found _ _ t t' k1 hy k2) (fin [(S z,t)] s.toks ((if_neg (ne_true_of_eq_false k1)).trans (if_pos k2)).symm)
  | false =>
   refine call_meets PySem.F.slot_str_split (typeIs_str _ _ _) PySem.F.entry_str_split (PySem.F.args_str_split_2 _ _) (meets_str_split_sep _ _ t t' k1 hy k2 (by rw[qbk];omega) hb) ?_
   show EP X pins σ Q _ { s with toks:=_,heap:=s.heap.push { cls:=.type "list",data:=.seq (strsFrom s.toks (partsBetween (S z) (occurrences (S z) (S [c]) 0 (S z).length ((S z).length+1)) (S [c]).length)).toArray } }
   rw[strsFrom_eq];exact fin (numbered s.toks _) _ ((numbered_texts _ _).trans ((if_neg (ne_true_of_eq_false k1)).trans (if_neg (ne_true_of_eq_false k2))).symm)
def qcw (sep:List Nat):List (List Nat)->List Nat
 | []=>[]
 | [p]=>p
 | p :: ps=>p ++ sep ++ qcw sep ps
theorem qpm (sep:List Nat):∀ (ps:List (List Nat)) (a:List Nat),(ps.map S).foldl (λacc p=>acc ++ (S sep).cps ++ p.cps) a.toArray=(match ps with|[]=>a|_=>a ++ sep ++ qcw sep ps).toArray
 | [],a=>rfl
 | [p],a=>by
  show (a.toArray ++ sep.toArray ++ p.toArray)=_
  simp[qcw]
 | p :: r :: ps,a=>by
  have ih:=qpm sep (r :: ps) (a ++ sep ++ p);rw[List.map_cons,List.foldl_cons];have e:a.toArray ++ (S sep).cps ++ (S p).cps=(a ++ sep ++ p).toArray:=by show a.toArray ++ sep.toArray ++ p.toArray=_;simp
  rw[e,ih]
  simp[qcw]
theorem qsv (sep:List Nat) (ps:List (List Nat)):PySem.Txt.join (S sep) (ps.map S)=S (qcw sep ps):=by
 unfold PySem.Txt.join glued
 cases ps with
 | nil=>rfl
 | cons p ps =>
  show (⟨(ps.map S).foldl (λacc p=>acc ++ (S sep).cps ++ p.cps) p.toArray⟩:Str)=_
  rw[qpm]
  cases ps with
  | nil=>rfl
  | cons r ps=>simp[qcw,S]
def rJoin (K:Frag) (x:V) (vs:List V) (H:Hp) (Q:VK):Prop:=∃ sep ps p,x=.str (S sep)/\vs=[.ref p]/\SqL K H p (ps.map λq=>V.str (S q))/\(ps.map List.length).sum+ps.length*sep.length<=1000000/\Q (.str (S (qcw sep ps))) H
theorem qkf:∀ {ps:List (List Nat)} {us:List Value},Vals (ps.map λq=>V.str (S q)) us->StrsAre us (ps.map S)
 | [],_,.nil=>.nil
 | p :: ps,_,.cons ⟨t,e⟩ r=>by subst e;exact .cons _ _ (qkf r)
theorem qjd {X:Cx}:MtR X "str.join" (rJoin X.K):=by
 intro pins s σ H x xs v us Q I rx r h;obtain ⟨sep,ps,p,rfl,rfl,hq,hz,q⟩:=h;obtain ⟨t,rfl⟩:=rx;obtain ⟨u,rfl,ru⟩:=vals1 r
 cases (show u=Value.ref p from ru)
 obtain ⟨its,rv,pl,_⟩:=I.list hq;refine join_list (ys:=ps.map S) pl.isList (by simpa using qkf rv) ?_ λt' k=>⟨.str (S (qcw sep ps)),H,I.tok _,⟨t',by rw[qsv]⟩,q⟩
 have e:((ps.map S).map (·.length))=ps.map List.length:=by
  rw[List.map_map];exact List.map_congr_left λl _=>qbk l
 rw[e,List.length_map,qbk];omega
open PySem PySem.Spec PyProof.Rows
section
variable {X:Cx} {pins:List (Addr×Obj)} {σ:St} {H:Hp} {s:Shared} {scope:Scope} {cl:List (Str×Addr)} {vars frees:List Str} {fv:List Nat} {elt target iter:Expr} {ifs:List Expr} {pos:Pos}
end
section
variable {X:Cx} {σ:St} {EK:XK} {C:Addr} {k:Nat} {x:Str} {ps:List Str} {ds:List Value} {dvs:List V} {sp:Sp} {e:Expr} {es:List Expr} {t:TA} {p pos:Pos} {Nc:List Str} {scope:Scope} {cl:List (Str×Addr)} {s0:Shared} {H0:Hp} {ex:List Addr}
end
open PySem PySem.Spec PyProof.Rows
theorem qe7:∀ {ss:List Str} {us:List Value},Vals (ss.map V.str) us->StrsAre us ss
 | [],_,.nil=>.nil
 | s :: ss,_,.cons ⟨t,e⟩ r=>by subst e;exact .cons _ _ (qe7 r)
theorem qf9:∀ {ss:List Str} {us:List Value},StrsAre us ss->Vals (ss.map V.str) us
 | _,_,.nil=>.nil
 | _,_,.cons y t r=>.cons ⟨t,rfl⟩ (qf9 r)
theorem qie {X:Cx}:CallR X (.builtin "sorted") (λxs H Q=>∃ (p:Addr) (ss:List Str),xs=[.ref p]/\SqL X.K H p (ss.map V.str)/\ss.length<64/\∀ (ms:List Str) l H',ms.Perm ss->sortedS ms=true->New H H' l (.lst (ms.map V.str))->Q (.ref l) H'):=by
 intro pins s σ H xs us Q I r h;obtain ⟨p,ss,rfl,hq,h64,q⟩:=h;obtain ⟨u,rfl,ru⟩:=vals1 r
 cases (show u=Value.ref p from ru)
 obtain ⟨its,rv,pl,hz⟩:=I.list hq;have hi:StrsAre its ss:=qe7 rv;have hln:its.length=ss.length:=by have:=rv.length;simpa using this.symm
 refine sorted_strs pl.isList hi (by omega) λout ms a1 a2 a3=>?_
 obtain ⟨e,he⟩:=sortedAll_at s.heap its out;have hl:ms.length<=sizeLine:=by rw[a2.length_eq];simpa using hz
 refine ⟨.ref (s.heap.objs.size+1),upd H (s.heap.objs.size+1) (.lst (ms.map V.str)),I.laid (t':=s.toks) (λ_ _=>sortedAll_old) (Nat.le_succ _) ⟨by simpa using hl,out.toList,e,qf9 a1,?_⟩,rfl,q ms _ _ a2 a3 (qa0 (I.hok.fresh (Nat.le_succ _)))⟩;rw[he]
open PySem PySem.Spec PyProof.Rows
def qci (c:Addr) (v:V):HO:=.ext λh=>∃ u,RelV v u/\h.IsCell c (some u)
def qgo (c:Addr) (q:Str):HO:=.ext λh=>h.CodeRec (.ref c) q
def FnO (name qual:Str) (st:Stmt) (cl:List (Str×Addr)) (c f:Addr):HO:=.ext λh=>∃ doc pm ctv,h.get? f=some (PySem.W.fnMade name qual (qag st) (qae st) (qab st) cl doc pm c ctv)
section
variable {P:Program} {w:World} {H:Hp} {h:Heap}
theorem qje {c:Addr} {v:V} {u:Value} (r:RelV v u) (x:h.IsCell c (some u)):ObjOk P w H h c (qci c v):=
 ⟨⟨u,r,x⟩,let ⟨o,e,_⟩:=x;⟨o,e⟩,λ_ _ ⟨u,r,o,e,d⟩ k=>⟨u,r,o,k o e,d⟩⟩
theorem qqw {c:Addr} {q:Str} (x:h.CodeRec (.ref c) q):ObjOk P w H h c (qgo c q):=
 ⟨x,(by obtain ⟨c',o,vs,t,e,r⟩:=x;cases e;exact ⟨o,r.1⟩),λ_ _ ⟨c',o,vs,t,e,r⟩ k=>by cases e;exact ⟨c,o,vs,t,rfl,k o r.1,r.2⟩⟩
theorem qsw {name qual:Str} {st:Stmt} {cl:List (Str×Addr)} {c f:Addr} {doc pm ctv:Value} (x:h.get? f=some (PySem.W.fnMade name qual (qag st) (qae st) (qab st) cl doc pm c ctv)):ObjOk P w H h f (FnO name qual st cl c f):=
 ⟨⟨doc,pm,ctv,x⟩,⟨_,x⟩,λ_ _ ⟨doc,pm,ctv,e⟩ k=>⟨doc,pm,ctv,k _ e⟩⟩
end
structure qkg (K:Frag) (f c T:Addr):Prop where
 code:∀ oc od fd osl,K.lookup f=some ⟨oc,od,.func fd,osl⟩->fd.code=.ref c
 hd:∀ h:Heap,K.In h->PySem.W.CodeHd h c T
def SameX (T:Addr) (H H':Hp):Prop:=∀ b o,b≠T->H b=some o->H' b=some o
theorem SameX.of {T:Addr} {H H':Hp} (s:Same H H'):SameX T H H':=λb o _ e=>s b o e
theorem SameX.trans {T:Addr} {H H' H2:Hp} (s:SameX T H H') (z:SameX T H' H2):SameX T H H2:=λb o n e=>z b o n (s b o n e)
def Tb1 (T:Addr) (pos:Pos) (q:Str) (c:Addr) (H:Hp):Prop:=H T=some (.tbl #[rawInt pos.line,rawInt pos.col,.ref c])/\H c=some (qgo c q)
def Tb (T:Addr) (pos:Pos) (q:Str) (H:Hp):Prop:=H T=some (.tbl #[])\/∃ c,Tb1 T pos q c H
theorem Tb1.same {T:Addr} {pos:Pos} {q:Str} {c:Addr} {H H':Hp} (x:Tb1 T pos q c H) (s:Same H H'):Tb1 T pos q c H':=⟨s _ _ x.1,s _ _ x.2⟩
theorem Tb.same {T:Addr} {pos:Pos} {q:Str} {H H':Hp} (x:Tb T pos q H) (s:Same H H'):Tb T pos q H':=x.elim (λz=>.inl (s _ _ z)) fun ⟨c,z⟩=>.inr ⟨c,z.same s⟩
section
variable {X:Cx}
theorem Inv.bat {pins:List (Addr×Obj)} {σ:St} {H:Hp} {s:Shared} {T:Addr} {ps:Array Value} (I:Inv X pins σ H s) (e:s.heap.get? T=some (PySem.W.tabObj ps)):s.heap.BuiltinsAt X.mg T/\mainGlobals≠T:=by
 obtain ⟨bm,ob,b1,b2,b3,b4,b5,b6⟩:=I.mod.bm;obtain ⟨o,es,ep,g1,g2,_⟩:=I.mod.glob.keeps I.bk;refine ⟨⟨bm,ob,b1,b2,λq=>?_,λq=>?_,I.bk _ _ b3,b4,b5,b6⟩,λq=>?_⟩
 ·have z:=I.bk _ _ b3
  rw[q,g1] at z;cases z;rw[g2] at b6;cases b6
 ·have z:=I.bk _ _ b3
  rw[q,e] at z;cases z;cases b4
 ·rw[q,e] at g1
  cases g1;cases g2
def qqx (T:Addr) (name qual:Str) (st:Stmt) (cl:List (Str×Addr)) (pos:Pos) (i:Nat):TS:=λD σ H=>Tb T pos qual H/\∀ f c H',SameX T H H'->Tb1 T pos qual c H'->H f=none->f≠T->H' f=some (FnO name qual st cl c f)->D.nx (σ.set i (some (.ref f))) H'
theorem qm3 {T c0 f0:Addr} {name qual:Str} {st:Stmt} {cl:List (Str×Addr)} {pos:Pos} {i:Nat} (Z:qkg X.K f0 c0 T) (hc0:X.env.code=.ref c0) (hN:X.N.Nodup) (hi:X.N[i]?=some name) (hx:X.env.scope.names.lookup name=some .local)
  (hs:st=.FunctionDef name (qag st) (qae st) [] none [] (qab st) none name pos) (hd0:(qag st).defaults=[]) (hk0:(qag st).kw_defaults=[]) (ha:annTrees (qag st) none X.env=[])
  (hcl:closureFor (qab st) X.env=pure cl) (hq:qualnameIn X.env name name=qual):PS X st (qqx T name qual st cl pos i):=by
 intro pins s σ H D I ⟨hT,h⟩;rw[hs];refine PySem.W.nestDef_K hd0 hk0 ha ?_;rw[hq];have fin:∀ (H':Hp) (s':Shared) (f c:Addr),Inv X pins σ H' s'->SameX T H H'->Tb1 T pos qual c H'->H f=none->f≠T->H' f=some (FnO name qual st cl c f) ->
   wpAny (model X.prog X.w) X.A (storeName X.env name (.ref f)) (λ_ s''=>SP X pins D .next s'') X.xe s':=λH' s' f c I' e1 e2 e3 e4 e5 =>
  qg6 I' hN hi (.inl hx) (v:=.ref f) rfl (λs2 I2=>⟨_,_,I2,h f c H' e1 e2 e3 e4 e5⟩) (.inr hx)
 rcases hT with h0|⟨c,h1,h2⟩
 ·have eT:s.heap.get? T=some (PySem.W.tabObj #[]):=I.hok _ _ h0
  obtain ⟨bt,gT⟩:=I.bat eT;refine PySem.W.makeFunction_K (mg:=X.mg) hcl I.ok.glob (I.mod.glob.keeps I.bk) hc0 (Z.hd _ I.kIn) eT trivial rfl gT bt λc ctv doc h' tk hx hge hlt hrec htb=>?_
  have ltT:T<s.heap.objs.size:=Heap.lt_size eT;have hgf:s.heap.objs.size<=h'.objs.size:=Nat.le_trans hge (Nat.le_of_lt hlt);have ltc:∀ b u,H b=some u->b≠c:=λb u e=>Nat.ne_of_lt (Nat.lt_of_lt_of_le (I.hok.lt e) hge)
  have ltf:∀ b u,H b=some u->b≠h'.objs.size:=λb u e=>Nat.ne_of_lt (Nat.lt_of_lt_of_le (I.hok.lt e) hgf)
  have nT:∀ b,H b=none->b≠T:=λb n z=>by rw[z,h0] at n;cases n
  have keep:∀ b o,b≠T->s.heap.get? b=some o->(h'.push (PySem.W.fnMade name qual (qag st) (qae st) (qab st) cl doc ((X.mg "__name__").getD .none) c ctv)).get? b=some o:=λb o n e=>Heap.get?_push_of_some _ (hx b o n e)
  have cT:c≠T:=Ne.symm (Nat.ne_of_lt (Nat.lt_of_lt_of_le ltT hge));have fT:h'.objs.size≠T:=Ne.symm (Nat.ne_of_lt (Nat.lt_of_lt_of_le ltT hgf));have fc:h'.objs.size≠c:=Ne.symm (Nat.ne_of_lt hlt);have eb:∀ b,b≠T->b≠c->b≠h'.objs.size->upd (upd (upd H T (.tbl #[rawInt pos.line,rawInt pos.col,.ref c])) c (qgo c qual)) h'.objs.size (FnO name qual st cl c h'.objs.size) b=H b:=λb n1 n2 n3=>by
   rw[qam n3,qam n2,qam n1]
  have eTn:upd (upd (upd H T (.tbl #[rawInt pos.line,rawInt pos.col,.ref c])) c (qgo c qual)) h'.objs.size (FnO name qual st cl c h'.objs.size) T=some (.tbl #[rawInt pos.line,rawInt pos.col,.ref c]):=by
   rw[qam (Ne.symm fT),qam (Ne.symm cT),qat]
  have ecn:upd (upd (upd H T (.tbl #[rawInt pos.line,rawInt pos.col,.ref c])) c (qgo c qual)) h'.objs.size (FnO name qual st cl c h'.objs.size) c=some (qgo c qual):=by
   rw[qam (Ne.symm fc),qat]
  have efn:upd (upd (upd H T (.tbl #[rawInt pos.line,rawInt pos.col,.ref c])) c (qgo c qual)) h'.objs.size (FnO name qual st cl c h'.objs.size) h'.objs.size=some (FnO name qual st cl c h'.objs.size):=qat
  generalize hH:upd (upd (upd H T (.tbl #[rawInt pos.line,rawInt pos.col,.ref c])) c (qgo c qual)) h'.objs.size (FnO name qual st cl c h'.objs.size)=H2 at eb eTn ecn efn
  have I2:Inv X pins σ H2 { s with heap:=h'.push (PySem.W.fnMade name qual (qag st) (qae st) (qab st) cl doc ((X.mg "__name__").getD .none) c ctv),toks:=tk }:=by
   refine I.un (t':=tk) ⟨λb o e n _ _=>keep b o (nT b n) e,λb o e n _ _=>⟨o.slots,keep b o (nT b n) e⟩,λb o e n _=>?_,λb o e _=>?_,λb xs e=>?_,λb o u e=>?_,λb ps e=>?_⟩ ?_
   ·have lt:=Heap.lt_size e
    rw[eb b (nT b n) (Nat.ne_of_lt (Nat.lt_of_lt_of_le lt hge)) (Nat.ne_of_lt (Nat.lt_of_lt_of_le lt hgf))];exact n
   ·by_cases z:b=T
    ·subst z;exact ⟨_,Heap.get?_push_of_some _ htb⟩
    ·exact ⟨o,keep b o z e⟩
   ·rw[eb b (λz=>by rw[z,h0] at e;cases e) (ltc b _ e) (ltf b _ e)];exact e
   ·rw[eb b (λz=>by rw[z,h0] at e;cases e) (ltc b _ e) (ltf b _ e)];exact e
   ·by_cases z:b=T
    ·subst z
     rw[h0] at e;cases e;exact ⟨#[rawInt pos.line,rawInt pos.col,.ref c],by rw[eTn,Array.empty_append]⟩
    ·exact ⟨#[],by rw[eb b z (ltc b _ e) (ltf b _ e),e];simp⟩
   ·intro b u e
    by_cases zf:b=h'.objs.size
    ·subst zf
     rw[efn] at e;cases e;exact qsw (Heap.get?_push_size _ rfl)
    ·by_cases zc:b=c
     ·subst zc
      rw[ecn] at e;cases e;exact qqw (hrec.push _)
     ·by_cases zT:b=T
      ·subst zT
       rw[eTn] at e;cases e;exact Heap.get?_push_of_some _ htb
      ·rw[eb b zT zc zf] at e
       refine (I.hok b u e).stay (λd v hd q=>keep d v (λz=>?_) q) (λd q=>?_) λd xs q=>?_
       ·subst z
        rcases hd with z|z
        ·exact zT z.symm
        ·rw[h0] at z;cases z
       ·rw[eb d (λz=>by rw[z,h0] at q;cases q) (ltc d _ q) (ltf d _ q)];exact q
       ·rw[eb d (λz=>by rw[z,h0] at q;cases q) (ltc d _ q) (ltf d _ q)];exact q
  exact fin H2 _ h'.objs.size c I2 (λb o n e=>by rw[eb b n (ltc b o e) (ltf b o e)];exact e) ⟨eTn,ecn⟩ (I.hok.fresh hgf) fT efn
 ·have eT:s.heap.get? T=some (PySem.W.tabObj #[rawInt pos.line,rawInt pos.col,.ref c]):=I.hok _ _ h1
  obtain ⟨bt,gT⟩:=I.bat eT;refine PySem.W.makeFunction_hit (mg:=X.mg) hcl I.ok.glob (I.mod.glob.keeps I.bk) hc0 (Z.hd _ I.kIn) eT trivial (cv:=.ref c) (by simp[codeAmong,rawInt]) bt λctv doc h' tk hk hsz=>?_
  have fr:H h'.objs.size=none:=I.hok.fresh hsz;have I2:=I.laid (a:=h'.objs.size) (o:=FnO name qual st cl c h'.objs.size) (t':=tk) (h':=h'.push (PySem.W.fnMade name qual (qag st) (qae st) (qab st) cl doc ((X.mg "__name__").getD .none) c ctv)) (λb u e=>Heap.get?_push_of_some _ (hk b u e)) hsz (qsw (Heap.get?_push_size _ rfl));have sm:Same H (upd H h'.objs.size (FnO name qual st cl c h'.objs.size)):=qd4 fr;have fT:h'.objs.size≠T:=Ne.symm (Nat.ne_of_lt (Nat.lt_of_lt_of_le (Heap.lt_size eT) hsz));exact fin _ _ _ c I2 (.of sm) ⟨sm _ _ h1,sm _ _ h2⟩ fr fT qat
abbrev TZ:=(V->St->Hp->Prop)->St->Hp->Prop
def PZ (X:Cx) (st:List Stmt) (t:TZ):Prop:=∀ (pins:List (Addr×Obj)) (s:Shared) (σ:St) (H:Hp) (R:V->St->Hp->Prop),Inv X pins σ H s->t R σ H ->
 wpAny (model X.prog X.w) X.A (execs st X.env) (λfl s'=>∃ u v σ' H',fl=.ret u/\Inv X pins σ' H' s'/\RelV v u/\R v σ' H') X.xe s
theorem qpn {e:Expr} {te:TE} {pos:Pos} (he:PE X e te):PZ X [.Return (some e) pos] (λR σ H=>te σ H λv H'=>R v σ H'):=λpins s σ H R I h =>
 wpAny_execs_cons (wpAny_Return_some (thn (he pins s σ H _ I h) λu s1 ⟨x,H1,I1,r1,q1⟩=>⟨u,x,σ,H1,rfl,I1,r1,q1⟩))
theorem qe8 {st:Stmt} {rest:List Stmt} {t:TS} {u:TZ} (h1:PS X st t) (h2:PZ X rest u):PZ X (st :: rest) (λR σ H=>t { nx:=u R,rt:=λ_ _=>False } σ H):=λpins s σ H R I h=>by
 refine wpAny_execs_cons (thn (h1 pins s σ H _ I h) λf s1 q=>?_)
 cases f with
 | next =>
  obtain ⟨σ',H',I',q⟩:=q;exact h2 pins s1 σ' H' R I' q
 | ret v=>obtain ⟨_,_,_,_,_,q⟩:=q;exact False.elim q
 | brk=>obtain ⟨_,_,_,q⟩:=q;exact False.elim q
 | cont=>obtain ⟨_,_,_,q⟩:=q;exact False.elim q
theorem PZ.imp {E:Value->Shared->Prop} {st:List Stmt} {t:TZ} (hE:∀ ev s,E ev s->X.xe ev s) (h:PZ (X.wish E) st t):PZ X st t:=λpins s σ H R I hw =>
 wpAny_mono (h pins s σ H R (I.wish _) hw) (λ_ _ ⟨u,v,σ',H',a,I',b⟩=>⟨u,v,σ',H',a,I'.unwish,b⟩) λe s z=>hE e s z
end
section
variable {P:Program} {w:World} {K:Frag} {mg:Str->Option Value} {base:Heap}
theorem Fun.okC {x qual:Str} {st:Stmt} {f:Addr} {fd:FuncData} {N ps:List Str} {k:Nat} {sp:Sp} {x1 x2:Str} {i1 i2:Nat} {a1 a2:Nat} (F:Fun K x qual st f fd) (S:qal N ps (qab st)) (len:∀ vs H Q E,sp vs H Q E->vs.length=ps.length)
  (hx1:(qab st).names.lookup x1=some .cell) (hx2:(qab st).names.lookup x2=some .cell) (hi1:N[i1]?=some x1) (hi2:N[i2]?=some x2) (ha1:∀ n,(cellsFrom n (qab st).names []).lookup x1=some (n+a1)) (ha2:∀ n,(cellsFrom n (qab st).names []).lookup x2=some (n+a2)) (ha:a1≠a2)
  (hbody:∀ (cdv:Value) (A:Around) (outer:List Env) (s:Shared) (H:Hp) (vs:List V) (Q:VK) (E:XK),(∃ oc od osl fd,K.lookup f=some ⟨oc,od,.func fd,osl⟩/\fd.code=cdv)->Room k (A.deeper (envOfC qual (qab st) s.heap.objs.size f cdv))->sp vs H Q E ->
   ∃ t,PZ (bx P w K mg base N qual (qab st) f cdv A outer s H E) (qae st) t/\t (λv σ H1=>∃ v1 v2,σ[i1]?=some (some v1)/\σ[i2]?=some (some v2) /\
    ∀ c1 c2,c1=s.heap.objs.size+1+a1->c2=s.heap.objs.size+1+a2->c1≠c2->H1 c1=none->H1 c2=none->Q v (upd (upd H1 c1 (qci c1 v1)) c2 (qci c2 v2))) (start N vs) H):qff P w K mg base (CX1 P w) (k+1) f fd ps sp:=by
 obtain ⟨oc,od,kV,doc,pm,an,cdv,ct,osl,rfl,lk,hcd⟩:=F.ex;refine ⟨len,λA outer s H args us vs Q E hr e0 hb r hsp=>?_⟩;have hl:=len _ _ _ _ hsp;have KX:K.In s.heap:=e0.mod.kin.keeps λb o e=>(e0.bs b o e).1
 have lim:s.heap.NoLimit:=e0.mod.nolimit.keeps λb o e=>(e0.bs b o e).1
 have hkind:∀ y∈ps.zip us,(qab st).names.lookup y.1=some .local\/((qab st).names.lookup y.1=some .cell/\((cellsFrom (s.heap.objs.size+1) (qab st).names []).lookup y.1).isSome=true):=fun ⟨n,v⟩ hy=>by
  rcases S.par n (List.of_mem_zip hy).1 with q|q
  ·exact .inl q
  ·exact .inr ⟨q,PySem.W.cellsFrom_some _ _ _ (.inl q)⟩
 refine codeAny_call_function hr.depth (KX _ _ lk) rfl S.co S.gen rfl (PySem.W.codeRec_of KX hcd) (hb _ _ _ _ ?_);refine wpAny_newFunctionEnv_cells S.kind hkind λenv he s1 x=>?_
 subst he;refine ⟨lim.keeps x.toInCall.keep,codeAny_func ?_⟩;obtain ⟨t,ht,hq⟩:=hbody cdv A outer s H vs Q E ⟨oc,od,osl,_,lk,rfl⟩ (hr.deeper _) hsp;have I:Inv (qj1 (CX1 P w) P w K mg base N qual (qab st) f cdv A outer s H E) [] (start N vs) H s1:=qfz S hr.hd e0 hl r x;refine wpAny_mono ((ht.imp λ_ _ z=>qkb z) [] s1 (start N vs) H _ I hq) (λfl s' hs=>?_) λe s' hs=>hs
 obtain ⟨u,v,σ',H1,rfl,J,rv,v1,v2,e1,e2,q⟩:=hs;obtain ⟨m,hn,hl'⟩:=J.loc;have look:∀ {i:Nat} {y:Str} {c:Addr} {v:V},N[i]?=some y->(qab st).names.lookup y=some .cell->(cellsFrom (s.heap.objs.size+1) (qab st).names []).lookup y=some c->σ'[i]?=some (some v)->∃ u,RelV v u/\s'.heap.IsCell c (some u):=fun {i y c v} hi hk hc e=>by
  obtain ⟨u,ru,lu⟩:=hl' i y v hi e (.inr (.inl hk))
  rcases lu with ⟨z,_⟩|⟨_,c',hc',z⟩
  ·have z':(qab st).names.lookup y=some .local:=z
   rw[hk] at z';cases z'
  ·have hc2:(cellsFrom (s.heap.objs.size+1) (qab st).names []).lookup y=some c':=hc'
   rw[hc] at hc2;cases hc2;exact ⟨u,ru,z⟩
 obtain ⟨u1,r1,z1⟩:=look hi1 hx1 (ha1 _) e1;obtain ⟨u2,r2,z2⟩:=look hi2 hx2 (ha2 _) e2;have n1:H1 (s.heap.objs.size+1+a1)=none:=J.freeC x1 _ (ha1 _);have n2:H1 (s.heap.objs.size+1+a2)=none:=J.freeC x2 _ (ha2 _);have ne:s.heap.objs.size+1+a1≠s.heap.objs.size+1+a2:=by omega
 have Q2:=q _ _ rfl rfl ne n1 n2;have eb:∀ b,b≠s.heap.objs.size+1+a1->b≠s.heap.objs.size+1+a2->upd (upd H1 (s.heap.objs.size+1+a1) (qci (s.heap.objs.size+1+a1) v1)) (s.heap.objs.size+1+a2) (qci (s.heap.objs.size+1+a2) v2) b=H1 b:=λb h1 h2=>by rw[qam h2,qam h1]
 have ec1:upd (upd H1 (s.heap.objs.size+1+a1) (qci (s.heap.objs.size+1+a1) v1)) (s.heap.objs.size+1+a2) (qci (s.heap.objs.size+1+a2) v2) (s.heap.objs.size+1+a1)=some (qci (s.heap.objs.size+1+a1) v1):=by rw[qam ne,qat]
 have ec2:upd (upd H1 (s.heap.objs.size+1+a1) (qci (s.heap.objs.size+1+a1) v1)) (s.heap.objs.size+1+a2) (qci (s.heap.objs.size+1+a2) v2) (s.heap.objs.size+1+a2)=some (qci (s.heap.objs.size+1+a2) v2):=qat
 generalize upd (upd H1 (s.heap.objs.size+1+a1) (qci (s.heap.objs.size+1+a1) v1)) (s.heap.objs.size+1+a2) (qci (s.heap.objs.size+1+a2) v2)=H2 at Q2 eb ec1 ec2
 have sm:∀ b o,H1 b=some o->H2 b=some o:=λb o e=>by
  rw[eb b (λz=>by rw[z,n1] at e;cases e) λz=>by rw[z,n2] at e;cases e];exact e
 refine ⟨v,H2,J.os,J.bare,⟨J.base.keep,J.base.slot,λb o e n hx=>?_,J.base.there,λb xs e=>sm _ _ (J.base.tups b xs e),λb o u e=>sm _ _ (J.base.frzs b o u e),λb ps e=>?_⟩,λb o e=>?_,rv,Q2⟩
 ·have lt:=Heap.lt_size e
  rw[eb b (Nat.ne_of_lt (Nat.lt_of_lt_of_le lt (by omega))) (Nat.ne_of_lt (Nat.lt_of_lt_of_le lt (by omega)))];exact J.base.free b o e n hx
 ·obtain ⟨m,e⟩:=J.base.tbls b ps e
  exact ⟨m,sm _ _ e⟩
 ·by_cases b1:b=s.heap.objs.size+1+a1
  ·subst b1;rw[ec1] at e;cases e;exact qje r1 z1
  ·by_cases b2:b=s.heap.objs.size+1+a2
   ·subst b2;rw[ec2] at e;cases e;exact qje r2 z2
   ·rw[eb b b1 b2] at e
    exact (J.hok b o e).stay (λ_ _ _ q=>q) (λd q=>sm _ _ q) λd xs q=>sm _ _ q
end
open PySem PySem.Spec PyProof.Rows
theorem qqy {M:Model} {A:Around} {E:Value->Shared->Prop} {s:Shared} {scope:Scope} {cl:List (Str×Addr)} {x:Str} {u:Value} {qual:Str} {f:Addr} {cd:Value} {Q:Env->Shared->Prop} (hk:scope.kind=.function) (hx:scope.names.lookup x=some .cell)
  (hp:∀ h:Heap,pushCells h scope.names=h.push { cls:=.type "cell",data:=.cell none }) (hc:∀ n,cellsFrom n scope.names cl=(x,n) :: cl)
  (hQ:∀ h',(∀ b o,s.heap.get? b=some o->h'.get? b=some o)->h'.Ns s.heap.objs.size (λ_=>none)->h'.IsCell (s.heap.objs.size+1) (some u)->Q (PySem.W.envX qual scope s.heap.objs.size f cd ((x,s.heap.objs.size+1) :: cl)) { s with heap:=h' }) :
  wpAny M A (newFunctionEnv scope mainGlobals cl [(x,u)] (qual ++ ".<locals>.") (some f) cd none builtinsNs) Q E s:=by
 simp only[newFunctionEnv,Option.isSome_none,Bool.false_eq_true,if_false];refine wpAny_bind (wpAny_alloc ?_);refine wpAny_bind (wpAny_layCells _ (λname kind cells=>by cases hkc:kind == NameKind.cell<;>simp[hkc]) _ _ _ _ ?_);rw[hp,hc,show ({ s with heap:=s.heap.push { cls:=.type "frame",data:=.dict #[] } }:Shared).heap.objs.size=s.heap.objs.size+1 from Heap.size_push ..];rw[List.forIn_cons];have c0:((s.heap.push { cls:=.type "frame",data:=.dict #[] }).push { cls:=.type "cell",data:=.cell none }).IsCell (s.heap.objs.size+1) none:=by
  have z:((s.heap.push { cls:=.type "frame",data:=.dict #[] }).push { cls:=.type "cell",data:=.cell none }).get? (s.heap.push { cls:=.type "frame",data:=.dict #[] }).objs.size=some { cls:=.type "cell",data:=.cell none }:=Heap.get?_push_size _ rfl;rw[Heap.size_push] at z;exact ⟨_,z,rfl⟩
 have lk:List.lookup x ((x,s.heap.objs.size+1) :: cl)=some (s.heap.objs.size+1):=by rw[List.lookup_cons,beq_self_eq_true]
 refine wpAny_bind (wpAny_bind (wpAny_bind (wpAny_storeName_cell (env:=PySem.W.envX qual scope s.heap.objs.size f cd ((x,s.heap.objs.size+1) :: cl)) hk hx lk c0 λh' hc' hs=>?_)));refine wpAny_pure ?_;dsimp only;rw[List.forIn_nil];refine wpAny_pure (wpAny_pure ?_);have kp:∀ b o,b≠s.heap.objs.size+1->((s.heap.push { cls:=.type "frame",data:=.dict #[] }).push { cls:=.type "cell",data:=.cell none }).get? b=some o->h'.get? b=some o:=λb o n e=>(hs.2 b n).trans e
 refine hQ h' (λb o e=>kp b o (λz=>?_) (Heap.get?_push_of_some _ (Heap.get?_push_of_some _ e))) ?_ hc'
 ·exact absurd z (Nat.ne_of_lt (Nat.lt_of_lt_of_le (Heap.lt_size e) (Nat.le_succ _)))
 ·obtain ⟨o,es,ep,e,r⟩:=Heap.Ns.new s.heap (.type "frame")
  exact ⟨o,es,ep,kp _ _ (by omega) (Heap.get?_push_of_some _ e),r⟩
def cxC (P:Program) (w:World) (K:Frag) (mg:Str->Option Value) (base:Heap) (N:List Str) (qual:Str) (scope:Scope) (f:Addr) (cd:Value) (x:Str) (cl:List (Str×Addr)) (A:Around) (outer:List Env) (s:Shared) (H:Hp):Cx where
 prog:=P
 w:=w
 K:=K
 mg:=mg
 base:=base
 A:=A.deeper (PySem.W.envX qual scope s.heap.objs.size f cd ((x,s.heap.objs.size+1) :: cl))
 N:=N
 s₀:=s
 H₀:=H
 env:=PySem.W.envX qual scope s.heap.objs.size f cd ((x,s.heap.objs.size+1) :: cl)
 outer:=outer
 stack:=PySem.W.envX qual scope s.heap.objs.size f cd ((x,s.heap.objs.size+1) :: cl) :: outer
 ex:=[]
 calm:=true
 fn:=λ_=>false
 pn:=[]
 xe:=λ_ _=>False
structure qun (x x1 x2:Str) (sc:Scope):Prop where
 kind:sc.kind=.function
 co:sc.isCoroutine=false
 gen:sc.isGenerator=false
 hx:sc.names.lookup x=some .cell
 h1:sc.names.lookup x1=some .free
 h2:sc.names.lookup x2=some .free
 n1:x1≠x
 n2:x2≠x
 n12:x2≠x1
 only:∀ y∈sc.names,y.2=.cell\/y.2=.free->y.1=x\/y.1=x1\/y.1=x2
 push:∀ h:Heap,pushCells h sc.names=h.push { cls:=.type "cell",data:=.cell none }
 cells:∀ n cl,cellsFrom n sc.names cl=(x,n) :: cl
section
variable {P:Program} {w:World} {K:Frag} {mg:Str->Option Value} {base:Heap}
theorem lk3 {x x1 x2 y:Str} {a c1 c2 c:Addr} (h:List.lookup y [(x,a),(x1,c1),(x2,c2)]=some c):(y=x/\c=a)\/(y=x1/\c=c1)\/(y=x2/\c=c2):=by
 have m:=PySem.mem_of_lookup h;simp only[List.mem_cons,Prod.mk.injEq,List.not_mem_nil,or_false] at m;exact m
theorem qqz {qual:Str} {scope:Scope} {f c1 c2:Addr} {cd:Value} {x x1 x2:Str} {A:Around} {outer:List Env} {s:Shared} {H:Hp} {h':Heap} {u u1 u2:Value} {v v1 v2:V} (S:qun x x1 x2 scope) (hd:A.handled=none) (e0:Env0 P w K mg base A outer s H)
  (r:RelV v u) (r1:RelV v1 u1) (r2:RelV v2 u2) (z1:s.heap.IsCell c1 (some u1)) (z2:s.heap.IsCell c2 (some u2)) (m1:H c1=none) (m2:H c2=none) (ne:c1≠c2)
  (hk:∀ b o,s.heap.get? b=some o->h'.get? b=some o) (hn:h'.Ns s.heap.objs.size (λ_=>none)) (hc:h'.IsCell (s.heap.objs.size+1) (some u)) :
  Inv (cxC P w K mg base [x,x1,x2] qual scope f cd x [(x1,c1),(x2,c2)] A outer s H) [] [some v,some v1,some v2] H { s with heap:=h' }:=by
 have lt1:c1<s.heap.objs.size:=by obtain ⟨o,e,_⟩:=z1;exact Heap.lt_size e
 have lt2:c2<s.heap.objs.size:=by obtain ⟨o,e,_⟩:=z2;exact Heap.lt_size e
 have q1:c1≠s.heap.objs.size+1:=Nat.ne_of_lt (Nat.lt_of_lt_of_le lt1 (Nat.le_succ _));have q2:c2≠s.heap.objs.size+1:=Nat.ne_of_lt (Nat.lt_of_lt_of_le lt2 (Nat.le_succ _));have noA:∀ b:Addr,b ∉ (cxC P w K mg base [x,x1,x2] qual scope f cd x [(x1,c1),(x2,c2)] A outer s H).ex:=λb z=>absurd (show b∈([]:List Addr) from z) (by simp)
 have k1:h'.IsCell c1 (some u1):=let ⟨o,e,d⟩:=z1;⟨o,hk _ _ e,d⟩
 have k2:h'.IsCell c2 (some u2):=let ⟨o,e,d⟩:=z2;⟨o,hk _ _ e,d⟩
 have b1:(x1 == x)=false:=beq_eq_false_iff_ne.mpr S.n1;have b2:(x2 == x)=false:=beq_eq_false_iff_ne.mpr S.n2;have b12:(x2 == x1)=false:=beq_eq_false_iff_ne.mpr S.n12;have l0:List.lookup x [(x,s.heap.objs.size+1),(x1,c1),(x2,c2)]=some (s.heap.objs.size+1):=by rw[List.lookup_cons,beq_self_eq_true]
 have l1:List.lookup x1 [(x,s.heap.objs.size+1),(x1,c1),(x2,c2)]=some c1:=by rw[List.lookup_cons,b1];simp
 have l2:List.lookup x2 [(x,s.heap.objs.size+1),(x1,c1),(x2,c2)]=some c2:=by rw[List.lookup_cons,b2];simp[List.lookup_cons,b12]
 refine ⟨⟨e0.mod,S.kind,rfl,rfl,Nat.le_refl _,λy z c h1 h2=>?_,λy hy=>?_,λy c h=>?_,λ_=>hd,Around.frames_deeper e0.frames,.inr ⟨rfl,rfl⟩,λb z=>absurd z (noA b),e0.bs,e0.bsz,λb _ _=>noA b,λb z=>absurd z (noA b),e0.funs,e0.frf⟩,
  rfl,e0.bare,Un.kept hk,⟨_,hn,λi y v' h1 h2 h3=>?_⟩,λy c h=>?_,e0.hok.fresh (Nat.le_refl _),λy c h=>?_,λp hp=>absurd (show p∈([]:List (Addr×Obj)) from hp) (by simp),e0.hok.kept hk,rfl⟩
 ·rcases lk3 h1 with ⟨ey,ec⟩|⟨ey,ec⟩|⟨ey,ec⟩<;>rcases lk3 h2 with ⟨ez,ed⟩|⟨ez,ed⟩|⟨ez,ed⟩<;>first|(rw[ey,ez];done)|exact absurd (ec.symm.trans ed) ne|exact absurd (ed.symm.trans ec) ne|exact absurd (ec.symm.trans ed) q1|exact absurd (ed.symm.trans ec) q1|exact absurd (ec.symm.trans ed) q2|exact absurd (ed.symm.trans ec) q2
 ·have hy:scope.names.lookup y=some .cell\/scope.names.lookup y=some .free:=hy
  have hm:∃ kd,(y,kd)∈scope.names/\(kd=.cell\/kd=.free):=hy.elim (λz=>⟨_,PySem.mem_of_lookup z,.inl rfl⟩) λz=>⟨_,PySem.mem_of_lookup z,.inr rfl⟩
  obtain ⟨kd,hm,hkd⟩:=hm
  rcases S.only _ hm hkd with z|z|z
  ·have z':y=x:=z
   rw[z'];exact ⟨_,l0⟩
  ·have z':y=x1:=z
   rw[z'];exact ⟨_,l1⟩
  ·have z':y=x2:=z
   rw[z'];exact ⟨_,l2⟩
 ·cases h
 ·match i with
  | 0 =>
   have e1:x=y:=by simpa [cxC] using h1
   have e2:v=v':=by simpa using h2
   subst e1;subst e2;exact ⟨u,r,.inr ⟨.inl S.hx,_,l0,hc⟩⟩
  | 1 =>
   have e1:x1=y:=by simpa [cxC] using h1
   have e2:v1=v':=by simpa using h2
   subst e1;subst e2;exact ⟨u1,r1,.inr ⟨.inr S.h1,_,l1,k1⟩⟩
  | 2 =>
   have e1:x2=y:=by simpa [cxC] using h1
   have e2:v2=v':=by simpa using h2
   subst e1;subst e2;exact ⟨u2,r2,.inr ⟨.inr S.h2,_,l2,k2⟩⟩
  | i+3=>simp at h2
 ·rcases lk3 h with ⟨_,ec⟩|⟨_,ec⟩|⟨_,ec⟩<;>subst ec
  ·exact ⟨_,hc⟩
  ·exact ⟨_,k1⟩
  ·exact ⟨_,k2⟩
 ·rcases lk3 h with ⟨_,ec⟩|⟨_,ec⟩|⟨_,ec⟩<;>subst ec
  ·exact e0.hok.fresh (by omega)
  ·exact m1
  ·exact m2
end
def qdr (H:Hp) (c1 c2:Addr):Hp:=λb=>if b=c1\/b=c2 then none else H b
def put2 (H H2:Hp) (c1 c2:Addr):Hp:=λb=>if b=c1\/b=c2 then H b else H2 b
def CloAt (name qual:Str) (st:Stmt) (x1 x2:Str) (H:Hp) (f:Addr) (v1 v2:V):Prop:=∃ c c1 c2,H f=some (FnO name qual st [(x1,c1),(x2,c2)] c f)/\H c=some (qgo c qual)/\H c1=some (qci c1 v1)/\H c2=some (qci c2 v2)/\c1≠c2
theorem CloAt.same {name qual:Str} {st:Stmt} {x1 x2:Str} {H H':Hp} {f:Addr} {v1 v2:V} (x:CloAt name qual st x1 x2 H f v1 v2) (s:Same H H'):CloAt name qual st x1 x2 H' f v1 v2:=
 let ⟨c,c1,c2,h1,h2,h3,h4,h5⟩:=x;⟨c,c1,c2,s _ _ h1,s _ _ h2,s _ _ h3,s _ _ h4,h5⟩
section
variable {X:Cx}
theorem qq0 {k:Nat} {name qual:Str} {st:Stmt} {x x1 x2:Str} {pins:List (Addr×Obj)} {σ:St} {H:Hp} {s:Shared} {f:Addr} {m v1 v2:V} {um:Value} {Q:VK} (S:qun x x1 x2 (qab st)) (hr:Room (k+1) X.A) (I:Inv X pins σ H s)
  (hC:CloAt name qual st x1 x2 H f v1 v2) (rm:RelV m um) (hb:∀ (cl:List (Str×Addr)) (doc pm:Value) (c:Addr) (ctv u:Value),bindArgs (PySem.W.fnX name qual (qag st) (qae st) (qab st) cl .none .none doc pm none (.ref c) ctv) ⟨[u],[]⟩=pure [(x,u)])
  (hbody:∀ (c c1 c2:Addr) (A:Around) (outer:List Env) (s:Shared),Room k (A.deeper (PySem.W.envX qual (qab st) s.heap.objs.size f (.ref c) ((x,s.heap.objs.size+1) :: [(x1,c1),(x2,c2)])))->H c1=some (qci c1 v1)->H c2=some (qci c2 v2) ->
   ∃ t,PSs (cxC X.prog X.w X.K X.mg X.base [x,x1,x2] qual (qab st) f (.ref c) x [(x1,c1),(x2,c2)] A outer s (qdr H c1 c2)) (qae st) t /\
    t { nx:=λ_ H'=>Q .non (put2 H H' c1 c2),rt:=λv H'=>Q v (put2 H H' c1 c2) } [some m,some v1,some v2] (qdr H c1 c2)) :
  wpAny (model X.prog X.w) X.A (call (.ref f) [um]) (EP X pins σ Q) X.xe s:=by
 obtain ⟨c,c1,c2,h1,h2,h3,h4,ne⟩:=hC;obtain ⟨⟨doc,pm,ctv,ef⟩,_,_⟩:=I.hok f _ h1;obtain ⟨ec,_,_⟩:=I.hok c _ h2;obtain ⟨⟨u1,r1,z1⟩,⟨o1,g1⟩,k1⟩:=I.hok c1 _ h3;obtain ⟨⟨u2,r2,z2⟩,⟨o2,g2⟩,k2⟩:=I.hok c2 _ h4;have dne:∀ b,b≠c1->b≠c2->qdr H c1 c2 b=H b:=λb e1 e2=>if_neg λz=>z.elim e1 e2
 have d1:qdr H c1 c2 c1=none:=if_pos (.inl rfl);have d2:qdr H c1 c2 c2=none:=if_pos (.inr rfl);have dn:∀ b,H b=none->qdr H c1 c2 b=none:=λb e=>by
  unfold qdr;split
  ·rfl
  ·exact e
 have dsub:∀ b o,qdr H c1 c2 b=some o->H b=some o/\b≠c1/\b≠c2:=λb o e=>by
  unfold qdr at e;split at e
  ·cases e
  ·rename_i z;exact ⟨e,λy=>z (.inl y),λy=>z (.inr y)⟩
 have nx:∀ b o,H b=some o->(∀ φ,o≠.ext φ)->qdr H c1 c2 b=some o:=λb o e n=>by
  rw[dne b (λz=>by rw[z,h3] at e;exact n _ (Option.some.inj e).symm) λz=>by rw[z,h4] at e;exact n _ (Option.some.inj e).symm];exact e
 have e0:=I.env0;have e1:Env0 X.prog X.w X.K X.mg X.base X.A X.stack s (qdr H c1 c2):=⟨e0.frames,e0.mod,λb o e=>⟨(e0.bs b o e).1,dn b (e0.bs b o e).2⟩,e0.bsz,e0.funs,λb hb=>dn b (e0.frf b hb),λb o e=>by
  obtain ⟨e',_⟩:=dsub b o e;exact (I.hok b o e').stay (λ_ _ _ q=>q) (λd q=>nx d _ q (by intro φ z;cases z)) λd xs q=>nx d _ q (by intro φ z;cases z),e0.bare⟩
 refine wpAny_call ?_;refine codeAny_call_function hr.depth ef rfl S.co S.gen rfl ec ?_;rw[hb];refine wpAny_pure (qqy S.kind S.hx S.push (λn=>S.cells n _) λh' hk hn hc=>?_);refine ⟨I.nolimit.keeps hk,codeAny_func ?_⟩;obtain ⟨t,ht,hq⟩:=hbody c c1 c2 X.A X.stack s (hr.deeper _) h3 h4;have J:=qqz (f:=f) (cd:=.ref c) (qual:=qual) S hr.hd e1 rm r1 r2 z1 z2 d1 d2 ne hk hn hc;refine wpAny_mono (ht [] _ _ _ _ J hq) (λfl s' hs=>?_) λe s' hs=>False.elim hs
 have fs1:c1 ∉ frs X.stack:=λz=>by have:=I.stkFree c1 z;rw[h3] at this;cases this
 have fs2:c2 ∉ frs X.stack:=λz=>by have:=I.stkFree c2 z;rw[h4] at this;cases this
 have fin:∀ {σ':St} {H':Hp} {v:V} {u:Value},Inv (cxC X.prog X.w X.K X.mg X.base [x,x1,x2] qual (qab st) f (.ref c) x [(x1,c1),(x2,c2)] X.A X.stack s (qdr H c1 c2)) [] σ' H' s'->RelV v u->Q v (put2 H H' c1 c2)->EP X pins σ Q u s':=fun {σ' H' v u} J' rv q=>by
  have un:Un (frs X.stack) [] (qdr H c1 c2) H' s.heap s'.heap:=J'.base;have p1:H' c1=none:=un.free c1 o1 g1 d1 (by simp);have p2:H' c2=none:=un.free c2 o2 g2 d2 (by simp);have pne:∀ b,b≠c1->b≠c2->put2 H H' c1 c2 b=H' b:=λb e1 e2=>if_neg λz=>z.elim e1 e2
  have pc1:put2 H H' c1 c2 c1=H c1:=if_pos (.inl rfl);have pc2:put2 H H' c1 c2 c2=H c2:=if_pos (.inr rfl);have psm:∀ b o,H' b=some o->put2 H H' c1 c2 b=some o:=λb o e=>by
   rw[pne b (λz=>by rw[z,p1] at e;cases e) λz=>by rw[z,p2] at e;cases e];exact e
  have hne:∀ b,H b=none->b≠c1/\b≠c2:=λb e=>⟨λz=>(by rw[z,h3] at e;cases e),λz=>(by rw[z,h4] at e;cases e)⟩
  refine I.after ⟨v,put2 H H' c1 c2,J'.os,J'.bare,⟨λb o e n hf hx=>un.keep b o e (dn b n) hf hx,λb o e n hf hx=>un.slot b o e (dn b n) hf hx,λb o e n hx=>?_,un.there,λb xs e=>psm _ _ (un.tups b xs (nx b _ e (by intro φ z;cases z))),
   λb o u e=>psm _ _ (un.frzs b o u (nx b _ e (by intro φ z;cases z))),λb ps e=>?_⟩,λb o e=>?_,rv,q⟩
  ·rw[pne b (hne b n).1 (hne b n).2];exact un.free b o e (dn b n) hx
  ·obtain ⟨mo,e2⟩:=un.tbls b ps (nx b _ e (by intro φ z;cases z))
   exact ⟨mo,psm _ _ e2⟩
  ·by_cases b1:b=c1
   ·subst b1
    rw[pc1,h3] at e;cases e;have kp:=un.keep b o1 g1 d1 fs1 (by simp);exact ⟨k1 _ _ ⟨u1,r1,z1⟩ λo q=>by rw[g1] at q;cases q;exact kp,⟨o1,kp⟩,k1⟩
   ·by_cases b2:b=c2
    ·subst b2
     rw[pc2,h4] at e;cases e;have kp:=un.keep b o2 g2 d2 fs2 (by simp);exact ⟨k2 _ _ ⟨u2,r2,z2⟩ λo q=>by rw[g2] at q;cases q;exact kp,⟨o2,kp⟩,k2⟩
    ·rw[pne b b1 b2] at e
     exact (J'.hok b o e).stay (λ_ _ _ q=>q) (λd q=>psm _ _ q) λd xs q=>psm _ _ q
 cases fl with
 | ret u =>
  obtain ⟨v,σ',H',J',rv,q⟩:=hs;exact fin J' rv q
 | next =>
  obtain ⟨σ',H',J',q⟩:=hs;exact fin (v:=V.non) (u:=Value.none) J' rfl q
 | brk=>obtain ⟨_,_,_,q⟩:=hs;exact False.elim q
 | cont=>obtain ⟨_,_,_,q⟩:=hs;exact False.elim q
def qvd (X:Cx) (name qual:Str) (st:Stmt) (x1 x2:Str) (spl:V->V->V->Hp->VK->Prop):Prop:=∀ (pins:List (Addr×Obj)) (σ:St) (H:Hp) (s:Shared) (f:Addr) (m v1 v2:V) (um:Value) (Q:VK),Inv X pins σ H s->CloAt name qual st x1 x2 H f v1 v2->RelV m um->spl m v1 v2 H Q ->
 wpAny (model X.prog X.w) X.A (call (.ref f) [um]) (EP X pins σ Q) X.xe s
def qwa (name qual:Str) (st:Stmt) (x1 x2:Str) (spl:V->V->V->Hp->VK->Prop) (i:Nat) (t:TA):TE:=λσ H Q=>∃ f v1 v2,σ[i]?=some (some (.ref f))/\CloAt name qual st x1 x2 H f v1 v2/\t σ H λvs H1=>∃ m,vs=[m]/\CloAt name qual st x1 x2 H1 f v1 v2/\spl m v1 v2 H1 Q
theorem qsx {name qual:Str} {st:Stmt} {x1 x2:Str} {spl:V->V->V->Hp->VK->Prop} {i:Nat} {y:Str} {p pos:Pos} {e:Expr} {es:List Expr} {t:TA} (D:qvd X name qual st x1 x2 spl) (hN:X.N[i]?=some y) (hv:Vis X.env.scope y) (ha:PA X (e :: es) t) (hd:(y == ("__debug__" : Str))=false:=by decide) (hcd:(y == ("__classdict__" : Str))=false:=by decide)
  (he:starEach (e :: es) X.env=(false,eval e X.env) :: starEach es X.env:=by rfl) (hpl:(backTo pos (starEach es X.env)).any (·.1)=false:=by rfl):PE X (.Call (.Name y p) (e :: es) [] pos) (qwa name qual st x1 x2 spl i t):=by
 intro pins s σ H Q I ⟨f,v1,v2,hf,hC,h⟩;refine wpAny_Call_Name_kw (thn (qfe (pos:=p) hN hv hd hcd pins s σ H (λv H'=>v=.ref f/\H'=H) I ⟨_,hf,rfl,rfl⟩) λu s1 hq__=>?_);obtain ⟨v,H1,I1,rv,e1,e2⟩:=hq__;subst e1 e2;obtain rfl:u=Value.ref f:=rv;have at_:∀ {H:Hp} {s:Shared},Inv X pins σ H s->CloAt name qual st x1 x2 H f v1 v2->PySem.W.FnAt f s.heap:=fun {H s} I ⟨c,c1,c2,h1,_⟩=>by
  obtain ⟨⟨doc,pm,ctv,ef⟩,_,_⟩:=I.hok f _ h1;exact ⟨_,_,_,_,ef⟩
 refine PySem.W.callWith_F (at_ I1 hC) (thn (ha pos pins s1 σ H1 _ I1 h) λus s2 ⟨vs,H2,I2,r,m,em,hC2,q⟩=>⟨at_ I2 hC2,?_⟩) he hpl;subst em
 cases r with
 | cons rm r' =>
  cases r'
  exact D pins σ H2 s2 f m v1 v2 _ Q I2 hC2 rm q
end
open PySem PySem.Spec PyProof.Rows
def qol (T:Addr) (H:Hp):Prop:=H T=some (.tbl #[])
theorem qom {K:Frag} {x:Str} {c T:Addr} (h:PySem.W.tabIn K x=some (c,T)):∃ f oc od fd sl o,nsIn K mainGlobals x=some (some (.ref f))/\K.lookup f=some ⟨oc,od,.func fd,sl⟩/\fd.code=.ref c/\K.lookup c=some o:=by
 unfold PySem.W.tabIn at h
 split at h
 ·rename_i f hf
  split at h
  ·rename_i hfo
   split at h
   ·rename_i c₂ hc
    split at h
    ·rename_i hco
     split at h
     ·cases h
      exact ⟨f,_,_,_,_,_,hf,hfo,hc,hco⟩
     ·cases h
    ·cases h
   ·cases h
  ·cases h
 ·cases h
theorem qif {K:Frag} {T:Addr} {h:Heap} (hK:PySem.W.noTabs K=true) (KX:K.In h) (eT:h.get? T=some (PySem.W.tabObj #[])):K.lookup T=none:=by
 cases q:K.lookup T with
 | none=>rfl
 | some o =>
  have e:=KX T o q;rw[eT] at e;cases e;have h2:=List.all_eq_true.mp hK _ (PySem.W.mem_of_lookupK q);exact absurd (show false=true from h2) Bool.false_ne_true
open PySem PySem.Spec PyProof.Rows
theorem qhi:plainId "set.update.loop" = true:=by decide +kernel
theorem qkh:entryFor table "set.update.loop" = some Builtin.«set.update.loop» :=entryFor_of_fast (by kernel_rfl)
theorem qjf (a:Value):checkTypeCall "set" ⟨[a],[]⟩=pure ():=by kernel_rfl
theorem qlb (a:Value):checkBuiltinCall "set.__new__" ⟨[.type "set",a],[]⟩=pure ():=by kernel_rfl
section
variable {prog:Program} {w:World} {A:Around} {E:Value->Shared->Prop} {s:Shared}
theorem qon {M:Model} {self a:Value} {Q:Unit->Shared->Prop} (hT:s.TypeIs self "set") (hQ:Q () s) :
  wpAny M A (checkBuiltinCall "set.__init__" ⟨[self,a],[]⟩) Q E s:=by
 simp only[checkBuiltinCall,kind_set_init,split_set_init,sig_set_init];refine wpAny_bind (wpAny_isInstance hT sub_set_self ?_);simp only[Bool.not_true,Bool.false_eq_true,if_false];unfold Bind.checkArgs;dsimp only;refine wpAny_bind (m:=Bind.printed "set" true _ _) (PyProof.Rows.printed_name (by decide) ?_);refine wpAny_bind (m:=Bind.printed "*" false _ _) (PyProof.Rows.printed_star (self:=self) rfl hT λshort=>?_);have hrn:(Manifest.Receiver.self == Manifest.Receiver.none)=false:=by decide
 have hn:(if (Manifest.Receiver.self == Manifest.Receiver.none)=true then [self,a].length else [self,a].length-1)=1:=by simp[hrn]
 rw[hn];simp only[List.map_nil];have hc:Bind.check ⟨.positional, "set", "*",.self,[⟨"iterable",.posOnly,false⟩]⟩ "set" short 1 []=pure ():=by
  simp[Bind.check,Bind.checkCount,Bind.isPositional]
  intro h;exact absurd h (by decide)
 rw[hc];exact wpAny_pure hQ
theorem qsy (a:Value) {Q₁:Value->Shared->Prop}
  (h:∀ led:Bool,Q₁ (.ref s.heap.objs.size) { s with heap:=s.heap.push { cls:=.type "set",dict:=none,data:=.set #[] 0 (.fresh 0 0 led) } }) :
  codeAny (model prog w) A (.call (.builtin "set.__new__") ⟨[.type "set",a],[]⟩) (wants Q₁ E) s:=by
 refine codeAny_of_tree ?_
 show wpAny _ A.in1 (do checkBuiltinCall "set.__new__" ⟨[.type "set",a],[]⟩;again (.builtin "set.__new__" ⟨[.type "set",a],[]⟩)) _ _ s
 refine wpAny_bind (wpAny_of_eq (qlb a) (wpAny_pure ⟨plainId_quiet F.plain_set_new _,codeAny_builtin F.entry_set_new ?_⟩));rw[Around.under_plainId F.plain_set_new _];unfold Builtin.«set.__new__» Builtin.Frozenset.newClass;have hsub:=sub_set_self;obtain ⟨hp,g,d,tk,os⟩:=s;dsimp only
 wp_walk
 refine wpAny_askSetting (wpAny_pure ?_);dsimp only;simp only[newObj];refine wpAny_bind (wpAny_alloc (wpAny_pure ?_));exact wpAny_pure (h _)
end
section
variable {prog:Program} {w:World} {A:Around} {R:Result->Shared->Prop} {I:Addr} {fp wr:List Addr} {n:Nat} {P:Nat->Value->Prop} {St:Nat->Heap->Prop} {K:Type} [DecidableEq K] {knd:KeyKind prog w K}
def qds:List K->Nat
 | []=>0
 | k :: l=>if k∈l then qds l else qds l+1
theorem qhj (l:List K):qds l<=l.length:=by
 induction l with
 | nil=>exact Nat.le_refl _
 | cons k l ih=>unfold qds;split<;>simp<;>omega
theorem qq1 (W:Walks prog w A.in1 I fp wr n P St) (D:Addr) (hDf:D ∉ fp) (rs:List K) (hn:n<=1000)
  (hP:∀ i v,P i v->∃ k,knd.is k v=true/\v.scannable=true/\rs[i]?=some k) (hl:rs.length=n) :
  ∀ (k i:Nat) (s:Shared) (m:Nat),n-i=k->i<=n->St i s.heap->s.heap.SetOf knd D (λq=>decide (q∈(rs.take i).reverse)) m->m=qds (rs.take i).reverse ->
  (∀ h' tk,h'.SetOf knd D (λq=>decide (q∈rs.reverse)) (qds rs.reverse)->(∀ b o,b ∉ wr->b≠D->s.heap.get? b=some o->h'.get? b=some o)->R (.ok (.ret .none)) { s with heap:=h',toks:=tk }) ->
  codeAny (model prog w) A (.builtin "set.update.loop" ⟨[.ref D,.ref I],[]⟩) R s:=by
 have hDw:D ∉ wr:=λh=>hDf (W.sub _ h)
 intro k
 induction k with
 | zero =>
  intro i s m hk hi hst hd hm hR;have hin:i=n:=by omega
  subst hin;rw[<- hl,List.take_length] at hd hm;refine codeAny_builtin qkh ?_;rw[Around.under_plainId qhi _]
  show wpAny _ A.in1 (pyNext (.ref I) >>= _) _ _ s
  refine wpAny_bind (W.done s _ _ hst λh' tk hm'=>?_);refine wpAny_pure (hR h' tk ?_ λb o hb _ e=>hm' b o hb e);obtain ⟨o,es,ep,t,ho,r⟩:=hd;exact ⟨o,es,ep,t,hm' D o hDw ho,hm ▸ r⟩
 | succ k ih =>
  intro i s m hk hi hst hd hm hR;have hlt:i<n:=by omega
  refine codeAny_builtin qkh ?_;rw[Around.under_plainId qhi _]
  show wpAny _ A.in1 (pyNext (.ref I) >>= _) _ _ s
  refine wpAny_bind (W.item i s _ _ hlt hst λv h' tk hp hst' hmk=>?_);obtain ⟨kk,hkey,hsc,hrs⟩:=hP i v hp;obtain ⟨o1,es,ep,t,ho1,rr⟩:=hd;have hd':h'.SetOf knd D (λq=>decide (q∈(rs.take i).reverse)) m:=⟨o1,es,ep,t,hmk D o1 hDw ho1,rr⟩;have ml:m<=1000:=by
   have:=qhj (rs.take i).reverse;rw[List.length_reverse,List.length_take] at this;omega
  show wpAny _ A.in1 (holding [v] _ >>= _) _ _ _
  refine wpAny_bind (wpAny_holding ?_);unfold setAdd;refine wpAny_holding (wpAny_bind (knd.pyHash hkey ?_));refine wpAny_setAddHashed_of (s:={ s with heap:=h',toks:=_ }) hkey hsc hd' (by unfold scanBound;omega) λh2 hs2 hd2=>?_
  have et:rs.take (i+1)=rs.take i ++ [kk]:=by rw[List.take_succ,hrs];rfl
  refine wpAny_pure ⟨plainId_quiet qhi _,ih (i+1) _ _ (by omega) hlt (W.frame _ _ _ hst' λb hb o e=>?_) ?_ rfl λh3 tk3 hd3 hk3=>?_⟩
  ·exact (hs2.2 b (λh:b=D=>hDf (by rw[<- h];exact hb))).trans e
  ·rw[et]
   have e1:(λq=>decide (q∈(rs.take i ++ [kk]).reverse))=(λk'=>decide (k'∈(rs.take i).reverse) || decide (k'=kk)):=by
    funext q
    simp[Bool.or_comm]
   have e2:qds (rs.take i ++ [kk]).reverse=(if decide (kk∈(rs.take i).reverse)=true then m else m+1):=by
    rw[List.reverse_append,hm]
    show qds (kk :: (rs.take i).reverse)=_
    unfold qds
    by_cases e:kk∈(rs.take i).reverse
    ·rw[if_pos e,if_pos (decide_eq_true e)]
     cases hq:(rs.take i).reverse<;>rfl
    ·rw[if_neg e,if_neg (by simpa using e)]
     cases hq:(rs.take i).reverse<;>rfl
   rw[e1,e2];exact hd2
  ·exact hR h3 tk3 hd3 λb o hb hbD e=>hk3 b o hb hbD ((hs2.2 b hbD).trans (hmk b o hb e))
end
section
variable {prog:Program} {w:World} {A:Around} {E:Value->Shared->Prop} {s:Shared} {K:Type} [DecidableEq K] {knd:KeyKind prog w K}
theorem qm4 {p:Addr} {Q:Bool->Shared->Prop} (hT:s.TypeIs (.ref p) "list") (h:Q false s):wpAny (model prog w) A (Builtin.Frozenset.isAnySet (.ref p)) Q E s:=by
 have f1:=F.sub_list_set;have f2:=F.sub_list_frozenset;unfold Builtin.Frozenset.isAnySet
 wp_walk
 exact h
theorem qq2 {id:String} {D p:Addr} {its:List Value} {rs:List K} {Q:Unit->Shared->Prop} (hl:PlainL s.heap p its.toArray) (hpD:p≠D) (hA:A.handled=none) (hn:its.length<=1000) (hlen:rs.length=its.length)
  (hP:∀ (i:Nat) v,its[i]?=some v->∃ k,knd.is k v=true/\v.scannable=true/\rs[i]?=some k) (hD:s.heap.SetOf knd D (λ_=>false) 0)
  (h:∀ h' tk,h'.SetOf knd D (λq=>decide (q∈rs.reverse)) (qds rs.reverse)->(∀ b o,b≠D->s.heap.get? b=some o->h'.get? b=some o)->Q () { s with heap:=h',toks:=tk }) :
  wpAny (model prog w) A (Builtin.Frozenset.updateFrom id D (.ref p)) Q E s:=by
 obtain ⟨ol,nl,e1,e2,e3,e4⟩:=hl;have hpl:p<s.heap.objs.size:=Heap.lt_size e1;have hT:s.TypeIs (.ref p) "list" :=⟨ol,e1,e2⟩;have hDl:D<s.heap.objs.size:=by obtain ⟨o,_,_,_,ho,_⟩:=hD;exact Heap.lt_size ho
 unfold Builtin.Frozenset.updateFrom;refine wpAny_bind (qm4 hT ?_);rw[if_neg (by decide)];refine wpAny_bind (wpAny_typeOf hT ?_);rw[if_neg (by decide)];refine wpAny_bind (wpAny_pyIter_list (PlainL.isList ⟨ol,nl,e1,e2,e3,e4⟩) ?_);have W:=Walks.list (prog:=prog) (w:=w) (A:=A.in1) hA s.heap.objs.size p (Nat.ne_of_lt hpl) its.toArray;have keep:∀ b o,s.heap.get? b=some o->(s.heap.push { cls:=Value.type "list_iterator",data:=Data.fields #[Value.ref p,Value.int 0 0] }).get? b=some o:=λb o q=>Heap.get?_push_of_some _ q
 refine wpAny_bind (wpAny_runValue (qq1 (A:=A) (knd:=knd) W D ?_ rs (by simpa using hn) (λi v q=>?_) (by simpa using hlen) _ 0 _ 0 rfl (Nat.zero_le _) ⟨⟨_,Heap.get?_push_size _ rfl,rfl,rfl⟩,?_⟩ ?_ rfl λh' tk hd' hk=>wpAny_pure ?_))
 ·intro hm
  simp only[List.mem_cons,List.not_mem_nil,or_false] at hm
  rcases hm with e|e
  ·exact absurd e (Nat.ne_of_lt hDl)
  ·exact absurd e.symm hpD
 ·exact hP i v (by simpa using q)
 ·exact PlainL.isList ⟨ol,nl,keep _ _ e1,e2,e3,e4⟩
 ·obtain ⟨o,es,ep,t,ho,r⟩:=hD
  exact ⟨o,es,ep,t,keep _ _ ho,r⟩
 ·refine h h' tk hd' λb o hb q=>?_
  have lt:=Heap.lt_size q;exact hk b o (λhm=>absurd (List.mem_singleton.mp hm) (Nat.ne_of_lt lt)) hb (keep b o q)
theorem qq3 {p:Addr} {its:List Value} {rs:List K} {Q:Value->Shared->Prop} (hl:PlainL s.heap p its.toArray) (hA:A.handled=none) (hn:its.length<=1000) (hlen:rs.length=its.length)
  (hP:∀ (i:Nat) v,its[i]?=some v->∃ k,knd.is k v=true/\v.scannable=true/\rs[i]?=some k)
  (h:∀ h' tk,h'.SetOf knd s.heap.objs.size (λq=>decide (q∈rs.reverse)) (qds rs.reverse)->(∀ b o,s.heap.get? b=some o->h'.get? b=some o)->Q (.ref s.heap.objs.size) { s with heap:=h',toks:=tk }) :
  wpAny (model prog w) A (call (.type "set") [.ref p]) Q E s:=by
 obtain ⟨c,tl,hmro⟩:=F.called_set.mro;have hmade:=F.called_set.made;have hsub:=F.called_set.sub;refine wpAny_call (codeAny_of_tree ?_)
 show wpAny _ _ (callAny (.type "set") _) _ _ _
 refine wpAny_pure ⟨Code.quiet_builtin _ (by decide +kernel),codeAny_builtin F.entry_type_call ?_⟩;rw[Around.under_plain (weight_type_call_type "set" [.ref p] []) rfl];have h1:=F.called_set.notType;have h2:=F.called_set.canCreate;have hct:=qjf (.ref p)
 repeat (any_goals (first|assumption|wp_step))
 refine codeAny_mono (qsy (E:=E) (.ref p) (Q₁:=λobj s₁=>∃ led:Bool,obj=.ref s.heap.objs.size/\s₁={ s with heap:=s.heap.push { cls:=.type "set",dict:=none,data:=.set #[] 0 (.fresh 0 0 led) } }) λled=>⟨led,rfl,rfl⟩) λr s₁ hr=>?_
 cases r with
 | error e=>exact hr
 | ok fl =>
  cases fl with
  | ret obj =>
   obtain ⟨led,rfl,rfl⟩:=hr;have hS:(s.heap.push { cls:=.type "set",dict:=none,data:=.set #[] 0 (.fresh 0 0 led) }).get? s.heap.objs.size=some { cls:=.type "set",dict:=none,data:=.set #[] 0 (.fresh 0 0 led) }:=Heap.get?_push_size _ rfl;have hT:Shared.TypeIs { s with heap:=s.heap.push { cls:=.type "set",dict:=none,data:=.set #[] 0 (.fresh 0 0 led) } } (.ref s.heap.objs.size) "set" :=⟨_,hS,rfl⟩;have hli:=F.called_set.init.lookup;have hbi:=F.called_set.init.bind (.ref s.heap.objs.size)
   repeat (any_goals (first|assumption|wp_step))
   refine codeAny_mono (codeAny_call_builtin (R:=wants (λr s₂=>r=.none/\Q (.ref s.heap.objs.size) s₂) E) F.called_set.init.plain F.entry_set_init (qon hT ?_)) λr₂ s₂ hr₂=>?_
   ·unfold Builtin.«set.__init__» noKeywords
    have hl':PlainL (s.heap.push { cls:=.type "set",dict:=none,data:=.set #[] 0 (.fresh 0 0 led) }) p its.toArray:=by
     obtain ⟨ol,nl,e1,e2,e3,e4⟩:=hl;exact ⟨ol,nl,Heap.get?_push_of_some _ e1,e2,e3,e4⟩
    have hpD:p≠s.heap.objs.size:=by
     obtain ⟨ol,nl,e1,e2,e3,e4⟩:=hl;exact Nat.ne_of_lt (Heap.lt_size e1)
    have hnew:(s.heap.push { cls:=.type "set",dict:=none,data:=.set #[] 0 (.fresh 0 0 led) }).SetOf knd s.heap.objs.size (λ_=>false) 0:=(setObjOf_fresh (knd:=knd) led).setOf hS (by decide)
    repeat (any_goals (first|(refine qq2 hl' hpD hA hn hlen hP hnew (λh' tk hd hk=>?_))|assumption|wp_step))
    exact ⟨rfl,h h' tk hd λb o q=>hk b o (Nat.ne_of_lt (Heap.lt_size q)) (Heap.get?_push_of_some _ q)⟩
   ·cases r₂ with
    | error e=>exact hr₂
    | ok fl₂ =>
     cases fl₂ with
     | ret r =>
      obtain ⟨rfl,hq⟩:=hr₂
      repeat (any_goals (first|assumption|wp_step))
     | _=>exact hr₂.elim
  | _=>exact hr.elim
end
def quo (a:Addr) (n:Nat):HO:=.ext λh=>∃ o es ep t,h.get? a=some o/\o.ExactSet/\o.data=.set es ep t/\t.fits es.size=true/\es.size=n
theorem qm5:∀ {ss:List Str} {us:List Value},Vals (ss.map V.str) us->ss.length=us.length/\∀ (i:Nat) v,us[i]?=some v->∃ k t,v=.str k t/\ss[i]?=some k
 | [],_,.nil=>⟨rfl,λi v h=>by simp at h⟩
 | x :: ss,_,.cons ⟨t,e⟩ r=>by
  subst e;obtain ⟨h1,h2⟩:=qm5 r;refine ⟨by simp[h1],λi v h=>?_⟩
  cases i with
  | zero=>cases h;exact ⟨x,t,rfl,rfl⟩
  | succ i=>exact h2 i v h
theorem qm6 {X:Cx} (hc:X.calm=true):CallR X (.type "set") (λxs H Q=>∃ (p:Addr) (ss:List Str),xs=[.ref p]/\SqL X.K H p (ss.map V.str)/\ss.length<=1000/\∀ a H',New H H' a (quo a (qds ss.reverse))->Q (.ref a) H'):=by
 intro pins s σ H xs us Q I r h;obtain ⟨p,ss,rfl,hq,hz,q⟩:=h;obtain ⟨u,rfl,ru⟩:=vals1 r
 cases (show u=Value.ref p from ru)
 obtain ⟨its,rv,pl,_⟩:=I.list hq;obtain ⟨hl,hP⟩:=qm5 rv;refine qq3 (knd:=PySem.strKind X.prog X.w) pl (I.ok.hd hc) (by omega) hl (λi v e=>?_) λh' tk hd hk'=>?_
 ·obtain ⟨k,t,rfl,e'⟩:=hP i v e
  exact ⟨k,by simp[PySem.strKind,Value.isStrOf],rfl,e'⟩
 ·obtain ⟨o,es,ep,t,ho,hex,hdt,_,_,_,hf,hn⟩:=hd
  refine ⟨.ref s.heap.objs.size,_,I.laid (a:=s.heap.objs.size) (o:=quo s.heap.objs.size (qds ss.reverse)) (h':=h') (t':=tk) hk' (Nat.le_refl _) ?_,rfl,q _ _ (qa0 (I.hok.fresh (Nat.le_refl _)))⟩;refine ⟨⟨o,es,ep,t,ho,hex,hdt,hf,hn⟩,⟨o,ho⟩,λh1 h2 x y=>?_⟩;obtain ⟨o,es,ep,t,ho,r⟩:=x;exact ⟨o,es,ep,t,y _ ho,r⟩
theorem qm7 {X:Cx}:CallR X (.builtin "len") (λxs H Q=>∃ (a:Addr) (n:Nat),xs=[.ref a]/\H a=some (quo a n)/\n<=1000/\Q (.int n) H):=by
 intro pins s σ H xs us Q I r h;obtain ⟨a,n,rfl,ha,hz,q⟩:=h;obtain ⟨u,rfl,ru⟩:=vals1 r
 cases (show u=Value.ref a from ru)
 obtain ⟨⟨o,es,ep,t,ho,hex,hdt,hf,hn⟩,_⟩:=I.hok a _ ha;refine call_len_set ho hex hdt hf (by omega) ?_;exact ⟨.int n,H,I.tok (s.toks+1+1),⟨_,by rw[hn]⟩,q⟩
theorem qsz:bootBuiltins "set" = some (.type "set"):=by decide +kernel
open PySem PySem.Spec PyProof.Rows
def leT (a b:List Nat):Bool:=decide (¬ b<a)
def qcf (l:List (List Nat)):List (List Nat):=l.mergeSort leT
theorem qig (a b c:List Nat) (h1:leT a b=true) (h2:leT b c=true):leT a c=true:=by
 unfold leT at *
 have h1:=of_decide_eq_true h1;have h2:=of_decide_eq_true h2;exact decide_eq_true (List.le_trans h1 h2)
theorem qm8 (a b:List Nat):(leT a b || leT b a)=true:=by
 unfold leT
 rcases List.le_total a b with h|h
 ·rw[show decide (¬ b<a)=true from decide_eq_true h];rfl
 ·rw[show decide (¬ a<b)=true from decide_eq_true h,Bool.or_true]
theorem qoo {a b:List Nat} (h1:leT a b=true) (h2:leT b a=true):a=b:=List.le_antisymm (of_decide_eq_true h1) (of_decide_eq_true h2)
theorem qbq (l:List (List Nat)):(qcf l).Perm l:=List.mergeSort_perm l leT
theorem qop (l:List (List Nat)):(qcf l).Pairwise (λa b=>leT a b=true):=List.pairwise_mergeSort qig qm8 l
theorem qs0:∀ {a b:List (List Nat)},a.Perm b->a.Pairwise (λa b=>leT a b=true)->b.Pairwise (λa b=>leT a b=true)->a=b
 | [],b,p,_,_=>p.nil_eq
 | x :: a,[],p,_,_=>absurd p.symm.nil_eq (by simp)
 | x :: a,y :: b,p,h1,h2=>by
  have h1':=List.pairwise_cons.mp h1;have h2':=List.pairwise_cons.mp h2;have e:x=y:=by
   rcases List.mem_cons.mp (p.mem_iff.mp (List.mem_cons_self (a:=x) (l:=a))) with e|e
   ·exact e
   ·rcases List.mem_cons.mp (p.symm.mem_iff.mp (List.mem_cons_self (a:=y) (l:=b))) with e'|e'
    ·exact e'.symm
    ·exact qoo (h1'.1 y e') (h2'.1 x e)
  subst e;rw[qs0 (List.Perm.cons_inv p) h1'.2 h2'.2]
theorem qoq {a b:List (List Nat)} (p:a.Perm b) (h:a.Pairwise (λa b=>leT a b=true)):a=qcf b:=qs0 (p.trans (qbq b).symm) h (qop b)
theorem qih:∀ (x:List Nat) (l:List (List Nat)),risingS (S x) (l.map S)=true->(x :: l).Pairwise (λa b=>leT a b=true)
 | x,[],_=>List.pairwise_singleton ..
 | x,y :: l,h=>by
  have h:(!ltCps (S y).cps.toList (S x).cps.toList && risingS (S y) (l.map S))=true:=h;rw[Bool.and_eq_true] at h;have t:=qih y l h.2;have e:leT x y=true:=by
   have h1:=h.1;rw[ltCps_eq] at h1;unfold leT S at *
   simpa using h1
  refine List.pairwise_cons.mpr ⟨λz hz=>?_,t⟩
  rcases List.mem_cons.mp hz with rfl|hz
  ·exact e
  ·exact qig _ _ _ e ((List.pairwise_cons.mp t).1 z hz)
theorem qlc:∀ {l:List (List Nat)},sortedS (l.map S)=true->l.Pairwise (λa b=>leT a b=true)
 | [],_=>.nil
 | x :: l,h=>qih x l h
theorem qve (x:Str):S x.cps.toList=x:=by unfold S;simp
theorem qki {ss:List (List Nat)} {ms:List Str} (p:ms.Perm (ss.map S)) (h:sortedS ms=true):ms=(qcf ss).map S:=by
 have e:ms=(ms.map λx=>x.cps.toList).map S:=by
  rw[List.map_map]
  conv=>lhs;rw[<- List.map_id ms]
  exact List.map_congr_left λx _=>(qve x).symm
 have e2:(ss.map S).map (λx=>x.cps.toList)=ss:=by
  rw[List.map_map]
  conv=>rhs;rw[<- List.map_id ss]
  exact List.map_congr_left λx _=>by show (S x).cps.toList=x;unfold S;simp
 rw[e] at h;have p':=p.map (λx=>x.cps.toList);rw[e2] at p';rw[e,qoq p' (qlc h)]
theorem qeu {X:Cx}:CallR X (.builtin "sorted") (λxs H Q=>∃ (p:Addr) (ss:List (List Nat)),xs=[.ref p]/\SqL X.K H p (ss.map λq=>V.str (S q))/\ss.length<64/\∀ l H',New H H' l (.lst ((qcf ss).map λq=>V.str (S q)))->Q (.ref l) H'):=by
 intro pins s σ H xs us Q I r h;obtain ⟨p,ss,rfl,hq,h64,q⟩:=h;refine qie pins s σ H _ us Q I r ⟨p,ss.map S,rfl,by rw[List.map_map];exact hq,by simpa using h64,λms l H' h1 h2 n=>q l H' ?_⟩;rw[qki h1 h2,List.map_map] at n;exact n
section
variable {X:Cx}
theorem qjg {P:Program} {w:World}:∀ {kvs:List (Key×V)} {vs:List (Key×Value)} {es:List DictEntry},KV kvs vs->PySem.Pairs (qba P w) es vs->kvs.length=es.length/\∀ (i:Nat) k v,kvs[i]?=some (k,v)->∃ e,es[i]?=some e/\RelV (kV k) e.key/\RelV v e.val
 | _,_,_,.nil,.nil=>⟨rfl,λi k v h=>by simp at h⟩
 | _,_,_,.cons (a:=p) (b:=q) ⟨h1,h2⟩ t,.cons (e:=e) hk hv r=>by
  obtain ⟨hl,at_⟩:=qjg t r;refine ⟨by simp[hl],λi k v h=>?_⟩
  cases i with
  | zero =>
   cases h;refine ⟨e,rfl,?_,?_⟩
   ·subst h1
    rcases qa9 hk with ⟨i,t,e1,e2⟩|⟨x,t,e1,e2⟩
    ·rw[e1,e2];exact ⟨t,rfl⟩
    ·rw[e1,e2];exact ⟨t,rfl⟩
   ·rw[hv];exact h2
  | succ i=>exact at_ i k v h
theorem qm9:∀ {xs:List V} {us:List Value},xs.length=us.length->(∀ (i:Nat) x v,xs[i]?=some x->us[i]?=some v->RelV x v)->Vals xs us
 | [],[],_,_=>.nil
 | [],_ :: _,h,_=>by simp at h
 | _ :: _,[],h,_=>by simp at h
 | x :: xs,u :: us,h,g=>.cons (g 0 x u rfl rfl) (qm9 (by simpa using h) λi y v hy hv=>g (i+1) y v hy hv)
theorem qb4 (hc:X.calm=true):CallR X (.builtin "sorted") (λxs H Q=>∃ (a:Addr) (kvs:List (Key×V)) (ss:List (List Nat)),xs=[.ref a]/\Rd H a (.dK kvs)/\kvs.map (·.1)=ss.map (λq=>Sum.inr (S q))/\ss.length<64/\∀ l H',New H H' l (.lst ((qcf ss).map λq=>V.str (S q)))->Q (.ref l) H'):=by
 intro pins s σ H xs us Q I r h;obtain ⟨a,kvs,ss,rfl,ha,ek,h64,q⟩:=h;obtain ⟨u,rfl,rx⟩:=vals1 r
 cases (show u=Value.ref a from rx)
 obtain ⟨hz,lo,vs,kt,o,es,ep,e1,e2,e3,ek',e4,_⟩:=qk3 I.hok ha;have hR:RawD s.heap a es ep:=⟨o,e1,e2,e3⟩;obtain ⟨hl,at_⟩:=qjg kt e4;have hl:kvs.length=es.size:=by simpa using hl
 have lk:kvs.length=ss.length:=by have:=congrArg List.length ek;simpa using this
 refine Calls.call_function_entry kind_sorted plain_sorted entry_sorted (args_sorted1 _) ?_;unfold Builtin.«sorted»;refine wpAny_bind (m:=checkCount "sorted" 1 1 _) (wpAny_pure ?_);refine wpAny_bind (PySem.W.kdu_collect (qsm lo) (I.ok.hd hc) hR (by rw[sizeLine_eq];omega) λh' tk acc hk hacc=>?_);have hlen:acc.toList.length=ss.length:=by rw[Array.length_toList,hacc.1];omega
 have rv:Vals ((ss.map S).map V.str) acc.toList:=by
  refine qm9 (by simpa using hlen.symm) λi x v hx hv=>?_
  obtain ⟨e,he,hve⟩:=hacc.2 i v (by rw[<- Array.getElem?_toList];exact hv);have hi:i<kvs.length:=by have:=(List.getElem?_eq_some_iff.mp hv).1;omega
  obtain ⟨e',he',hk',_⟩:=at_ i kvs[i].1 kvs[i].2 (by rw[List.getElem?_eq_getElem hi]);rw[Array.getElem?_toList,he] at he'
  cases he'
  have e5:(kvs.map (·.1))[i]?=some kvs[i].1:=by simp[hi]
  rw[ek,List.getElem?_map] at e5;rw[List.map_map,List.getElem?_map] at hx
  cases hq:ss[i]? with
  | none=>rw[hq] at hx;cases hx
  | some z =>
   rw[hq] at hx e5;cases hx;have e6:=Option.some.inj e5;rw[<- e6] at hk';rw[hve];exact hk'
 have hS:StrsAre acc.toList (ss.map S):=qe7 rv;have I':Inv X pins σ H { s with heap:=h',toks:=tk }:=I.kept hk;refine wpAny_bind (wpAny_newList ?_ (by rw[hlen,sizeLine_eq];omega));have hoL:(h'.push (seqObj "list" acc.toList.toArray 0)).get? h'.objs.size=some (seqObj "list" acc.toList.toArray 0):=Heap.get?_push_size _ rfl;refine wpAny_bind (wpAny_holding (wpAny_call_entry slot_list_sort ⟨_,hoL,rfl⟩ entry_list_sort (list_sort_treeK (s:={ s with heap:=h'.push (seqObj "list" acc.toList.toArray 0),toks:=tk }) strKind_oneLt hoL hS.keysOf (λv₁ v₂ rest e=>keyKind_strs (by rw[<- e];exact hS)) (by omega) λst' a1 a2=>⟨_,rfl,?_⟩) (args_list_sort _)));refine wpAny_pure ⟨_,rfl,?_⟩;obtain ⟨ms,m1,m2,m3⟩:=sorted_out_str hS a1 a2;have em:=qki m2 m3;subst em;obtain ⟨c,hat⟩:∃ c,(sortedHeap (h'.push (seqObj "list" acc.toList.toArray 0)) h'.objs.size acc.toList ((arrOf st').map (·.2))).get? h'.objs.size=some (seqObj "list" ((arrOf st').map (·.2)) c):=sortedHeap_at hoL;have kp:∀ b ob,h'.get? b=some ob->(sortedHeap (h'.push (seqObj "list" acc.toList.toArray 0)) h'.objs.size acc.toList ((arrOf st').map (·.2))).get? b=some ob:=λb ob hb=>by
  have lb:=Heap.lt_size hb;rw[sortedHeap_old (Nat.ne_of_lt lb) (by rw[size_push'];exact Nat.lt_succ_of_lt lb)];exact Heap.get?_push_of_some _ hb
 have hl2:((qcf ss).map S).length<=sizeLine:=by rw[List.length_map,(qbq ss).length_eq,sizeLine_eq];omega
 have vv:=qf9 m1;rw[List.map_map] at vv;exact ⟨.ref h'.objs.size,upd H h'.objs.size (.lst ((qcf ss).map λq=>V.str (S q))),I'.laid (t':=tk) kp (Nat.le_refl _) ⟨by simpa using hl2,_,c,vv,by rw[hat]⟩,rfl,q _ _ (qa0 (I'.hok.fresh (Nat.le_refl _)))⟩
theorem Inv.noFK {pins:List (Addr×Obj)} {σ:St} {H:Hp} {s:Shared} {d:Addr} {kvs:List (Key×V)} (I:Inv X pins σ H s) (hd:H d=some (.dK kvs)):NoF X d:=by
 refine ⟨λxs q=>?_,λo u q=>?_,λps q=>?_⟩
 ·have:=I.base.tups d xs q;rw[hd] at this;cases this
 ·have:=I.base.frzs d o u q;rw[hd] at this;cases this
 ·obtain ⟨m,e⟩:=I.base.tbls d ps q;rw[hd] at e;cases e
theorem Inv.freezeK {pins:List (Addr×Obj)} {σ:St} {H:Hp} {s:Shared} {d:Addr} {kvs:List (Key×V)} {ob:Obj} (I:Inv X pins σ H s) (hd:H d=some (.dK kvs)) (e:s.heap.get? d=some ob):Inv X pins σ (upd H d (.frz ob (.dK kvs))) s:=
 I.swap hd (λ_ z=>nomatch z) (λ_ z=>nomatch z) (I.noFK hd) ⟨e,show ObjOk X.prog X.w H s.heap d (.dK kvs) from I.hok d _ hd⟩
theorem Inv.thawK {pins:List (Addr×Obj)} {σ:St} {H:Hp} {s:Shared} {d:Addr} {kvs:List (Key×V)} {ob:Obj} (I:Inv X pins σ H s) (hd:H d=some (.frz ob (.dK kvs))) (nf:NoF X d):Inv X pins σ (upd H d (.dK kvs)) s:=
 I.swap hd (λ_ z=>nomatch z) (λ_ z=>nomatch z) nf (show ObjOk X.prog X.w H s.heap d (.dK kvs) from (I.hok d _ hd).2)
def qvf (d:Addr) (ob:Obj) (kvs:List (Key×V)):It:=
 ⟨λi H=>H d=some (.frz ob (.dK kvs))/\i<kvs.length,
   λi H x H'=>∃ p k v,kvs[i]?=some (k,v)/\x=.ref p/\H p=none/\H'=upd H p (.tup [kV k,v]),
   λi H=>H d=some (.frz ob (.dK kvs))/\kvs.length<=i⟩
theorem qkj {P:Program} {w:World} {H:Hp} {h:Heap} {d:Addr} {ob:Obj} {kvs:List (Key×V)} {es:Array DictEntry} {ep:Nat} (x:ObjOk P w H h d (.frz ob (.dK kvs))) (he:ob.data=.dict es ep) :
  RawD h d es ep/\es.size=kvs.length/\∀ (i:Nat) k v,kvs[i]?=some (k,v)->∃ (hi:i<es.size),RelV (kV k) es[i].key/\RelV v es[i].val:=by
 obtain ⟨e0,hz,lo,vs,kt,o,es',ep',e1,e2,e3,_,e4,nd⟩:=x;rw[e0] at e1;cases e1;rw[he] at e3;cases e3;obtain ⟨hl,at_⟩:=qjg kt e4;have hl:es.size=kvs.length:=by simpa using hl.symm
 refine ⟨⟨ob,e0,e2,he⟩,hl,λi k v hk=>?_⟩;obtain ⟨e,q,q1,q2⟩:=at_ i k v hk;have hi:i<es.size:=by rw[hl];exact (List.getElem?_eq_some_iff.mp hk).1
 rw[Array.getElem?_toList,Array.getElem?_eq_getElem hi] at q;cases q;exact ⟨hi,q1,q2⟩
theorem qjh {P:Program} {w:World} {K:Frag} {elts:List Expr} {ek:Nat} {epos:Pos} (d it:Addr) (ob:Obj) (kvs:List (Key×V)) (es:Array DictEntry) (ep:Nat) (he:ob.data=.dict es ep) :
  Turn P w K (.Tuple elts ek epos) (qvf d ob kvs) [it] it (λi h=>∃ ok ov,IsItemIter h it d i es.size ep ok ov) where
 mem:=by simp
 obj:=λi h st b hb=>by
  have e:b=it:=by simpa using hb
  subst e;obtain ⟨ok,ov,st⟩:=st;exact ⟨_,st,λv z=>by
   have z':Data.fields _=Data.cell v:=z
   cases z'⟩
 keep:=λi h h' st k=>let ⟨ok,ov,st⟩:=st;⟨ok,ov,k it (by simp) _ st⟩
 item:=by
  intro X hP hw hK hc i pins s σ H E I hf st hg;subst hP hw hK;obtain ⟨hd,hi⟩:=hg;obtain ⟨ok,ov,st⟩:=st;obtain ⟨hR,hl,at_⟩:=qkj (I.hok d _ hd) he;have hkv:kvs[i]?=some (kvs[i].1,kvs[i].2):=by rw[List.getElem?_eq_getElem hi]
  obtain ⟨hi',hb,hv⟩:=at_ i _ _ hkv;refine qqr st hR hi' λh' a1 a2 a3=>?_
  refine ⟨.ref s.heap.objs.size,rfl,wpAny_letOwnedTupleGo_items a1 λh'' j'' sb=>?_⟩;have nz:s.heap.objs.size≠it:=Nat.ne_of_gt (Heap.lt_size st);have T2:=sb.extBut _ _ nz a2;refine ⟨.ref s.heap.objs.size,upd H s.heap.objs.size (.tup [kV kvs[i].1,kvs[i].2]),I.turnedLaid (t':=s.toks) (ch:=[it]) hf (λc o hc e=>?_) (Nat.le_refl _) ⟨by show 2<=sizeLine;decide,[es[i].key,es[i].val],.cons hb (.cons hv .nil),_,T2,rfl,_,rfl⟩,rfl,⟨_,_,_,hkv,rfl,I.hok.fresh (Nat.le_refl _),rfl⟩,⟨_,_,j''⟩,λc hc=>?_⟩
  ·have hne:c≠it:=λz=>hc (by simp[z])
   exact sb.extBut _ _ hne (a3 c o hne e)
  ·have e:c=it:=by simpa using hc
   subst e;rw[qam (Ne.symm nz)];exact (hf c (by simp)).1
 done:=by
  intro X hP hw hK hc i pins s σ H E I hf st hg;subst hP hw hK;obtain ⟨hd,hi⟩:=hg;obtain ⟨ok,ov,st⟩:=st;obtain ⟨hR,hl,at_⟩:=qkj (I.hok d _ hd) he;obtain ⟨f0,f1,f2,f3,f4,f5⟩:=hf it (by simp);exact qso (I.ok.hd hc) st hR (by omega) λh' eb=>⟨rfl,I.turned (t':=s.toks) (λb o hb e=>eb b o hb e) f0 f1 f3 f4 f5⟩
 self:=λ_ _ _ _ _ st h=>let ⟨_,_,st⟩:=st;qqs st h
def qji (X:Cx) (to:TE):TI:=λσ H R=>to σ H λx H1=>∃ d kvs,x=.ref d/\H1 d=some (.dK kvs)/\∀ ob,NoF X d->R (qvf d ob kvs) (upd H1 d (.frz ob (.dK kvs)))
theorem qna {elts:List Expr} {ek:Nat} {epos:Pos} {o:Expr} {to:TE} {apos cpos:Pos} (ho:PE X o to)
  (hbase:attributeBase o (Str.ofString "items") X.env (eval o X.env)=eval o X.env:=by rfl) (hline:(apos.endLine == cpos.line)=true:=by rfl) :
  PI X (.Tuple elts ek epos) (.Call (.Attribute o (Str.ofString "items") apos) [] [] cpos) (qji X to):=by
 intro pins s σ H R I h;refine wpAny_Call_method0_late hbase hline (thn (ho pins s σ H _ I h) λv s1 hq__=>?_);obtain ⟨x,H1,I1,r1,d,kvs,ex,hd,q⟩:=hq__;subst ex
 cases (show v=Value.ref d from r1)
 obtain ⟨hz,lo,vs,kt,ob,es,ep,e1,e2,e3,_,e4,nd⟩:=I1.hok d _ hd;have hR:RawD s1.heap d es ep:=⟨ob,e1,e2,e3⟩;refine ⟨"dict", "dict.items",F.plainAttrs_dict,F.slot_dict_items,F.type_dict_items,hR.ty,(λa ea=>by cases ea;exact ⟨ob,e1,e2.2.1⟩),Calls.callWith_builtin rfl (PySem.evalArgs_none (qqp lo hR ?_))⟩;refine qqq (s:={ s1 with heap:=s1.heap.push { cls:=.type "dict_items",data:=.fields #[.ref d] } }) ⟨_,Heap.get?_push_size _ rfl,rfl,rfl⟩ (hR.up λ_ e=>Heap.get?_push_of_some _ e) ?_;have k2:∀ b o,s1.heap.get? b=some o->((s1.heap.push { cls:=.type "dict_items",data:=.fields #[.ref d] }).push (qpk d es.size ep)).get? b=some o:=λb o e=>Heap.get?_push_of_some _ (Heap.get?_push_of_some _ e)
 have I2:=(I1.kept (t':=s1.toks) k2).freezeK hd (k2 _ _ e1);have hsz:s1.heap.objs.size<=(s1.heap.push { cls:=.type "dict_items",data:=.fields #[.ref d] }).objs.size:=by rw[Heap.size_push];exact Nat.le_succ _
 refine ⟨_,[_],_,_,_,rfl,I2,qjh d _ ob kvs es ep e3,⟨_,_,Heap.get?_push_size _ rfl⟩,λb hb=>?_,q ob (I1.noFK hd)⟩;have e:b=(s1.heap.push { cls:=.type "dict_items",data:=.fields #[.ref d] }).objs.size:=by simpa using hb
 subst e;refine I1.fpOk hsz ?_;have hne:(s1.heap.push { cls:=.type "dict_items",data:=.fields #[.ref d] }).objs.size≠d:=Nat.ne_of_gt (Nat.lt_of_lt_of_le (Heap.lt_size e1) hsz);rw[qam hne];exact I1.hok.fresh hsz
def qq4 (X:Cx) (D:Ends):Ends:=
 ⟨λσ H2=>∃ d kvs ob,H2 d=some (.frz ob (.dK kvs))/\NoF X d/\D.nx σ (upd H2 d (.dK kvs)),λv H2=>∃ d kvs ob,H2 d=some (.frz ob (.dK kvs))/\NoF X d/\D.rt v (upd H2 d (.dK kvs)),D.bk,D.ct⟩
def qs1 (X:Cx) (to:TE) (g:TG) (tb:TS):TS:=λD σ H=>qt2 (qji X to) g tb (qq4 X D) σ H
theorem qor {st:Stmt} {to:TE} {g:TG} {tb:TS} (h:PS X st (qt2 (qji X to) g tb)):PS X st (qs1 X to g tb):=by
 intro pins s σ H D I q;refine thn (h pins s σ H _ I q) λf s' z=>?_
 cases f with
 | next =>
  obtain ⟨σ',H2,I2,d,kvs,ob,hd,nf,q⟩:=z;exact ⟨σ',_,I2.thawK hd nf,q⟩
 | brk=>exact z
 | cont=>exact z
 | ret u =>
  obtain ⟨v,σ',H2,I2,rv,d,kvs,ob,hd,nf,q⟩:=z;exact ⟨v,σ',_,I2.thawK hd nf,rv,q⟩
theorem qld {to:TE} {g:TG} {tb:TS} {D:Ends} {σ:St} {H:Hp} (h:to σ H λx H1=>∃ d kvs,x=.ref d/\H1 d=some (.dK kvs)/\∀ ob,NoF X d->∃ J:Nat->St->Hp->Prop,
   J 0 σ (upd H1 d (.frz ob (.dK kvs)))/\(∀ i σ H2,J i σ H2->H2 d=some (.frz ob (.dK kvs))) /\
   (∀ i k v σ H2 p H3,J i σ H2->kvs[i]?=some (k,v)->New H2 H3 p (.tup [kV k,v])->g (.ref p) σ H3 λσ2 H4=>tb { qq4 X D with nx:=J (i+1),ct:=J (i+1),bk:=(qq4 X D).nx } σ2 H4) /\
   ∀ σ H2,J kvs.length σ H2->D.nx σ (upd H2 d (.dK kvs))) (mo:∀ {Q Q':VK},(∀ v H,Q v H->Q' v H)->to σ H Q->to σ H Q'):qs1 X to g tb D σ H:=by
 refine mo (λx H1 ⟨d,kvs,e,hd,z⟩=>⟨d,kvs,e,hd,λob nf=>?_⟩) h;obtain ⟨J,j0,jk,js,je⟩:=z ob nf;refine ⟨λi m σ H=>J i σ H/\i<=kvs.length/\m=kvs.length-i,⟨_,j0,Nat.zero_le _,rfl⟩,λi m σ H2 hq__=>?_⟩;obtain ⟨w,hi,hm⟩:=hq__
 by_cases hlt:i<kvs.length
 ·refine .inr ⟨⟨jk _ _ _ w,hlt⟩,J (i+1),λσ' H' w'=>⟨_,by omega,w',hlt,rfl⟩,λx H' hq__=>?_⟩
  obtain ⟨p,k,v,hk,ex,hp,e⟩:=hq__;subst ex e;exact js i k v σ H2 p _ w hk (qa0 hp)
 ·have e:i=kvs.length:=by omega
  subst e;exact .inl ⟨⟨jk _ _ _ w,Nat.le_refl _⟩,d,kvs,ob,jk _ _ _ w,nf,je σ H2 w⟩
theorem qii {H1 H2:Hp} {d:Addr} {o u:HO} (hd:H1 d=some u) (s:Same (upd H1 d o) H2):Same H1 (upd H2 d u):=λb v e=>by
 by_cases hb:b=d
 ·subst hb;rw[qat];rw[hd] at e;exact e
 ·rw[qam hb];exact s b v (by rw[qam hb];exact e)
end
open PySem PySem.Spec PyProof.Rows
end L2
namespace L2
open PySem PySem.Spec PyProof.Rows
open PySem PySem.Spec PyProof.Rows
def qed (H:Hp) (L:List Addr):Hp:=λb=>if b∈L then none else H b
def putL (H H2:Hp) (L:List Addr):Hp:=λb=>if b∈L then H b else H2 b
structure qup (x:Str) (xs N:List Str) (sc:Scope):Prop where
 kind:sc.kind=.function
 co:sc.isCoroutine=false
 gen:sc.isGenerator=false
 hx:sc.names.lookup x=some .local
 hf:∀ y∈xs,sc.names.lookup y=some .free
 nc:∀ y∈sc.names,y.2≠.cell
 only:∀ y∈sc.names,y.2=.free->y.1∈xs
 nd:xs.Nodup
 pre:N.take (xs.length+1)=x :: xs
def cxM (P:Program) (w:World) (K:Frag) (mg:Str->Option Value) (base:Heap) (N:List Str) (qual:Str) (scope:Scope) (f:Addr) (cd:Value) (cl:List (Str×Addr)) (A:Around) (outer:List Env) (s:Shared) (H:Hp):Cx where
 prog:=P
 w:=w
 K:=K
 mg:=mg
 base:=base
 A:=A.deeper (PySem.W.envX qual scope s.heap.objs.size f cd cl)
 N:=N
 s₀:=s
 H₀:=H
 env:=PySem.W.envX qual scope s.heap.objs.size f cd cl
 outer:=outer
 stack:=PySem.W.envX qual scope s.heap.objs.size f cd cl :: outer
 ex:=[]
 calm:=true
 fn:=λ_=>false
 pn:=[]
 xe:=λ_ _=>False
theorem lkN {α β:Type} [BEq α] [LawfulBEq α] {y:α} {c:β}:∀ {cs:List (α×β)} {i:Nat},(cs.map (·.1)).Nodup->cs[i]?=some (y,c)->cs.lookup y=some c
 | [],_,_,h=>by simp at h
 | p :: cs,0,_,h=>by
  have e:p=(y,c):=by simpa using h
  subst e;rw[List.lookup_cons,beq_self_eq_true]
 | p :: cs,i+1,nd,h=>by
  rw[List.map_cons,List.nodup_cons] at nd;have h':cs[i]?=some (y,c):=by simpa using h
  have n:(y == p.1)=false:=beq_eq_false_iff_ne.mpr λz=>nd.1 (List.mem_map.mpr ⟨_,List.mem_of_getElem? h',z⟩)
  obtain ⟨p1,p2⟩:=p;rw[List.lookup_cons,n];exact lkN nd.2 h'
theorem qvg {y z:Str} {c:Addr}:∀ {cs:List (Str×Addr)},(cs.map (·.2)).Nodup->(y,c)∈cs->(z,c)∈cs->y=z
 | [],_,h,_=>by cases h
 | p :: cs,nd,h1,h2=>by
  rw[List.map_cons,List.nodup_cons] at nd
  rcases List.mem_cons.mp h1 with e1|m1<;>rcases List.mem_cons.mp h2 with e2|m2
  ·rw[<- e1] at e2;exact (Prod.mk.inj e2).1.symm
  ·exact absurd (List.mem_map.mpr ⟨_,m2,by rw[<- e1]⟩) nd.1
  ·exact absurd (List.mem_map.mpr ⟨_,m1,by rw[<- e2]⟩) nd.1
  ·exact qvg nd.2 m1 m2
section
variable {P:Program} {w:World} {K:Frag} {mg:Str->Option Value} {base:Heap}
theorem qos {qual:Str} {scope:Scope} {f:Addr} {cd:Value} {x:Str} {xs N:List Str} {cs:List (Str×Addr)} {A:Around} {outer:List Env} {s:Shared} {H:Hp} {h':Heap} {tk:Nat} {u:Value} {v:V} {vs:List V} (S:qup x xs N scope) (hxs:cs.map (·.1)=xs) (nd:(cs.map (·.2)).Nodup) (hl:cs.length=vs.length) (hd:A.handled=none) (e0:Env0 P w K mg base A outer s H)
  (r:RelV v u) (rs:∀ (i:Nat) (y:Str) (c:Addr) (v:V),cs[i]?=some (y,c)->vs[i]?=some v->∃ u,RelV v u/\s.heap.IsCell c (some u)) (hm:∀ c∈cs.map (·.2),H c=none)
  (hk:∀ b o,s.heap.get? b=some o->h'.get? b=some o) (hn:h'.Ns s.heap.objs.size (λy=>[(x,u)].reverse.lookup y)) :
  Inv (cxM P w K mg base N qual scope f cd cs A outer s H) [] (start N (v :: vs)) H { s with heap:=h',toks:=tk }:=by
 have noA:∀ b:Addr,b ∉ (cxM P w K mg base N qual scope f cd cs A outer s H).ex:=λb z=>absurd (show b∈([]:List Addr) from z) (by simp)
 have ndx:(cs.map (·.1)).Nodup:=by rw[hxs];exact S.nd
 have lx:xs.length=vs.length:=by rw[<- hxs,List.length_map];exact hl
 have lN:vs.length+1<=N.length:=by have:=congrArg List.length S.pre;rw[List.length_take,List.length_cons] at this;omega
 have at_:∀ {y:Str} {c:Addr},(y,c)∈cs->∃ u,h'.IsCell c (some u):=fun {y c} m=>by
  obtain ⟨i,hi⟩:=List.getElem?_of_mem m;have li:i<vs.length:=by rw[<- hl];exact (List.getElem?_eq_some_iff.mp hi).1
  obtain ⟨u,_,o,e,d⟩:=rs i y c vs[i] hi (List.getElem?_eq_getElem li);exact ⟨u,o,hk _ _ e,d⟩
 refine ⟨⟨e0.mod,S.kind,rfl,rfl,Nat.le_refl _,λy z c h1 h2=>?_,λy hy=>?_,λy c h=>?_,λ_=>hd,Around.frames_deeper e0.frames,.inr ⟨rfl,rfl⟩,λb z=>absurd z (noA b),e0.bs,e0.bsz,λb _ _=>noA b,λb z=>absurd z (noA b),e0.funs,e0.frf⟩,
  rfl,e0.bare,Un.kept hk,⟨_,hn,λi y v' h1 h2 h3=>?_⟩,λy c h=>?_,e0.hok.fresh (Nat.le_refl _),λy c h=>?_,λp hp=>absurd (show p∈([]:List (Addr×Obj)) from hp) (by simp),e0.hok.kept hk,?_⟩
 ·exact qvg nd (PySem.mem_of_lookup h1) (PySem.mem_of_lookup h2)
 ·have hy:scope.names.lookup y=some .cell\/scope.names.lookup y=some .free:=hy
  rcases hy with z|z
  ·exact absurd rfl (S.nc _ (PySem.mem_of_lookup z))
  ·have m:=S.only _ (PySem.mem_of_lookup z) rfl
   rw[<- hxs] at m;obtain ⟨⟨y',c⟩,m1,m2⟩:=List.mem_map.mp m;obtain ⟨i,hi⟩:=List.getElem?_of_mem m1;have m2:y'=y:=m2;subst m2;exact ⟨c,lkN ndx hi⟩
 ·cases h
 ·have h1:N[i]?=some y:=h1
  have hi:i<(v :: vs).length:=by
   unfold start at h2
   by_cases hi:i<(v :: vs).length
   ·exact hi
   ·rw[List.getElem?_append_right (by simpa using hi)] at h2
    rw[List.getElem?_replicate] at h2
    split at h2<;>cases h2
  have ha:(v :: vs)[i]?=some v':=by
   unfold start at h2;rw[List.getElem?_append_left (by simpa using hi),List.getElem?_map] at h2
   cases e:(v :: vs)[i]? with
   | none=>rw[e] at h2;cases h2
   | some a=>rw[e] at h2;cases h2;rfl
  have hp:(x :: xs)[i]?=some y:=by
   rw[<- S.pre,List.getElem?_take_of_lt (by rw[List.length_cons] at hi;omega)];exact h1
  match i with
  | 0 =>
   have e1:x=y:=by simpa using hp
   have e2:v=v':=by simpa using ha
   subst e1;subst e2;exact ⟨u,r,.inl ⟨S.hx,by simp⟩⟩
  | j+1 =>
   have e1:xs[j]?=some y:=by simpa using hp
   have e2:vs[j]?=some v':=by simpa using ha
   rw[<- hxs,List.getElem?_map] at e1;obtain ⟨⟨y',c⟩,e3,e4⟩:=Option.map_eq_some_iff.mp e1;have e4:y'=y:=e4;subst e4;obtain ⟨u',ru,o,eo,d⟩:=rs j y' c v' e3 e2;exact ⟨u',ru,.inr ⟨.inr (S.hf y' (by rw[<- hxs];exact List.mem_map.mpr ⟨_,List.mem_of_getElem? e3,rfl⟩)),c,lkN ndx e3,o,hk _ _ eo,d⟩⟩
 ·obtain ⟨u',z⟩:=at_ (PySem.mem_of_lookup h)
  exact ⟨_,z⟩
 ·exact hm c (List.mem_map.mpr ⟨_,PySem.mem_of_lookup h,rfl⟩)
 ·show (start N (v :: vs)).length=N.length
  unfold start;rw[List.length_append,List.length_map,List.length_replicate,List.length_cons];omega
end
def CloM (name qual:Str) (st:Stmt) (xs:List Str) (H:Hp) (f:Addr) (vs:List V):Prop:=
 ∃ (cs:List (Str×Addr)) (c:Addr),cs.map (·.1)=xs/\(cs.map (·.2)).Nodup/\cs.length=vs.length/\H f=some (FnO name qual st cs c f)/\H c=some (qgo c qual)/\∀ (i:Nat) (y:Str) (c:Addr) (v:V),cs[i]?=some (y,c)->vs[i]?=some v->H c=some (qci c v)
theorem CloM.up {name qual:Str} {st:Stmt} {xs:List Str} {H H':Hp} {f:Addr} {vs:List V} (x:CloM name qual st xs H f vs) (s:∀ b φ,H b=some (.ext φ)->H' b=some (.ext φ)):CloM name qual st xs H' f vs:=
 let ⟨cs,c,h1,h2,h3,h4,h5,h6⟩:=x;⟨cs,c,h1,h2,h3,s _ _ h4,s _ _ h5,λi y c v e1 e2=>s _ _ (h6 i y c v e1 e2)⟩
theorem CloM.same {name qual:Str} {st:Stmt} {xs:List Str} {H H':Hp} {f:Addr} {vs:List V} (x:CloM name qual st xs H f vs) (s:Same H H'):CloM name qual st xs H' f vs:=x.up λ_ _ e=>s _ _ e
section
variable {X:Cx}
theorem qot {k:Nat} {name qual:Str} {st:Stmt} {x:Str} {xs N:List Str} {pins:List (Addr×Obj)} {σ:St} {H:Hp} {s:Shared} {f:Addr} {m:V} {vs:List V} {um:Value} {Q:VK} (S:qup x xs N (qab st)) (hr:Room (k+1) X.A) (I:Inv X pins σ H s)
  (hC:CloM name qual st xs H f vs) (rm:RelV m um) (hb:∀ (cl:List (Str×Addr)) (doc pm:Value) (c:Addr) (ctv u:Value),bindArgs (PySem.W.fnX name qual (qag st) (qae st) (qab st) cl .none .none doc pm none (.ref c) ctv) ⟨[u],[]⟩=pure [(x,u)])
  (hbody:∀ (c:Addr) (cs:List (Str×Addr)) (A:Around) (outer:List Env) (s:Shared),Room k (A.deeper (PySem.W.envX qual (qab st) s.heap.objs.size f (.ref c) cs))->cs.map (·.1)=xs->(∀ b∈cs.map (·.2),∃ φ,H b=some (.ext φ)) ->
   ∃ t,PSs (cxM X.prog X.w X.K X.mg X.base N qual (qab st) f (.ref c) cs A outer s (qed H (cs.map (·.2)))) (qae st) t /\
    t { nx:=λ_ H'=>(∀ b∈cs.map (·.2),H' b=none)->Q .non (putL H H' (cs.map (·.2))),rt:=λv H'=>(∀ b∈cs.map (·.2),H' b=none)->Q v (putL H H' (cs.map (·.2))) } (start N (m :: vs)) (qed H (cs.map (·.2)))) :
  wpAny (model X.prog X.w) X.A (call (.ref f) [um]) (EP X pins σ Q) X.xe s:=by
 obtain ⟨cs,c,hxs,nd,hl,h1,h2,h3⟩:=hC;obtain ⟨⟨doc,pm,ctv,ef⟩,_,_⟩:=I.hok f _ h1;obtain ⟨ec,_,_⟩:=I.hok c _ h2;have cell:∀ b∈cs.map (·.2),∃ v,H b=some (qci b v):=λb hb'=>by
  obtain ⟨⟨y,b'⟩,m1,m2⟩:=List.mem_map.mp hb';have m2:b'=b:=m2;subst m2;obtain ⟨i,hi⟩:=List.getElem?_of_mem m1;have li:i<vs.length:=by rw[<- hl];exact (List.getElem?_eq_some_iff.mp hi).1
  exact ⟨_,h3 i y b' vs[i] hi (List.getElem?_eq_getElem li)⟩
 generalize hL:cs.map (·.2)=L at cell
 have dne:∀ b,b ∉ L->qed H L b=H b:=λb e=>if_neg e
 have d1:∀ b∈L,qed H L b=none:=λb e=>if_pos e
 have dn:∀ b,H b=none->qed H L b=none:=λb e=>by
  unfold qed;split
  ·rfl
  ·exact e
 have dsub:∀ b o,qed H L b=some o->H b=some o/\b ∉ L:=λb o e=>by
  unfold qed at e;split at e
  ·cases e
  ·rename_i z;exact ⟨e,z⟩
 have nx:∀ b o,H b=some o->(∀ φ,o≠.ext φ)->qed H L b=some o:=λb o e n=>by
  rw[dne b λz=>by obtain ⟨v,q⟩:=cell b z;rw[q] at e;exact n _ (Option.some.inj e).symm];exact e
 have e0:=I.env0;have e1:Env0 X.prog X.w X.K X.mg X.base X.A X.stack s (qed H L):=⟨e0.frames,e0.mod,λb o e=>⟨(e0.bs b o e).1,dn b (e0.bs b o e).2⟩,e0.bsz,e0.funs,λb hb=>dn b (e0.frf b hb),λb o e=>by
  obtain ⟨e',_⟩:=dsub b o e;exact (I.hok b o e').stay (λ_ _ _ q=>q) (λd q=>nx d _ q (by intro φ z;cases z)) λd xs q=>nx d _ q (by intro φ z;cases z),e0.bare⟩
 refine wpAny_call ?_;refine codeAny_call_function hr.depth ef rfl S.co S.gen rfl ec ?_;rw[hb];refine wpAny_pure (wpAny_newFunctionEnv S.nc (λy hy=>by rw[List.mem_singleton.mp hy];exact S.hx) (λh' hn hs=>?_) S.kind);have hk:∀ b o,s.heap.get? b=some o->h'.get? b=some o:=λb o e=>(hs.2 b (Nat.ne_of_lt (Heap.lt_size e))).trans (Heap.get?_push_of_some _ e)
 refine ⟨I.nolimit.keeps hk,codeAny_func ?_⟩;obtain ⟨t,ht,hq⟩:=hbody c cs X.A X.stack s (hr.deeper _) hxs (λb hb'=>by rw[hL] at hb';obtain ⟨v,q⟩:=cell b hb';exact ⟨_,q⟩);rw[hL] at ht hq;have rs:∀ (i:Nat) (y:Str) (c:Addr) (v:V),cs[i]?=some (y,c)->vs[i]?=some v->∃ u,RelV v u/\s.heap.IsCell c (some u):=λi y c v a b=>(I.hok c _ (h3 i y c v a b)).1
 have J:=qos (f:=f) (cd:=.ref c) (qual:=qual) (tk:=s.toks+[(x,um)].length) S hxs nd hl hr.hd e1 rm rs (by rw[hL];exact d1) hk hn;refine wpAny_mono (ht [] _ _ _ _ J hq) (λfl s' hs=>?_) λe s' hs=>False.elim hs
 have fin:∀ {σ':St} {H':Hp} {v:V} {u:Value},Inv (cxM X.prog X.w X.K X.mg X.base N qual (qab st) f (.ref c) cs X.A X.stack s (qed H L)) [] σ' H' s'->RelV v u->((∀ b∈L,H' b=none)->Q v (putL H H' L))->EP X pins σ Q u s':=fun {σ' H' v u} J' rv q=>by
  have un:Un (frs X.stack) [] (qed H L) H' s.heap s'.heap:=J'.base;have hp:∀ b∈L,H' b=none:=λb hb'=>by
   obtain ⟨v,q⟩:=cell b hb';obtain ⟨_,⟨o,g⟩,_⟩:=I.hok b _ q;exact un.free b o g (d1 b hb') (by simp)
  have pne:∀ b,b ∉ L->putL H H' L b=H' b:=λb e=>if_neg e
  have pc:∀ b∈L,putL H H' L b=H b:=λb e=>if_pos e
  have psm:∀ b o,H' b=some o->putL H H' L b=some o:=λb o e=>by
   rw[pne b λz=>by rw[hp b z] at e;cases e];exact e
  have hne:∀ b,H b=none->b ∉ L:=λb e z=>by obtain ⟨v,q⟩:=cell b z;rw[q] at e;cases e
  refine I.after ⟨v,putL H H' L,J'.os,J'.bare,⟨λb o e n hf hx=>un.keep b o e (dn b n) hf hx,λb o e n hf hx=>un.slot b o e (dn b n) hf hx,λb o e n hx=>?_,un.there,λb xs e=>psm _ _ (un.tups b xs (nx b _ e (by intro φ z;cases z))),
   λb o u e=>psm _ _ (un.frzs b o u (nx b _ e (by intro φ z;cases z))),λb ps e=>?_⟩,λb o e=>?_,rv,q hp⟩
  ·rw[pne b (hne b n)];exact un.free b o e (dn b n) hx
  ·obtain ⟨mo,e2⟩:=un.tbls b ps (nx b _ e (by intro φ z;cases z))
   exact ⟨mo,psm _ _ e2⟩
  ·by_cases b1:b∈L
   ·obtain ⟨v1,q1⟩:=cell b b1
    rw[pc b b1,q1] at e;cases e;obtain ⟨z1,⟨o1,g1⟩,k1⟩:=I.hok b _ q1;have fs1:b ∉ frs X.stack:=λz=>by have:=I.stkFree b z;rw[q1] at this;cases this
    have kp:=un.keep b o1 g1 (d1 b b1) fs1 (by simp);exact ⟨k1 _ _ z1 λo q=>by rw[g1] at q;cases q;exact kp,⟨o1,kp⟩,k1⟩
   ·rw[pne b b1] at e
    exact (J'.hok b o e).stay (λ_ _ _ q=>q) (λd q=>psm _ _ q) λd xs q=>psm _ _ q
 cases fl with
 | ret u =>
  obtain ⟨v,σ',H',J',rv,q⟩:=hs;exact fin J' rv q
 | next =>
  obtain ⟨σ',H',J',q⟩:=hs;exact fin (v:=V.non) (u:=Value.none) J' rfl q
 | brk=>obtain ⟨_,_,_,q⟩:=hs;exact False.elim q
 | cont=>obtain ⟨_,_,_,q⟩:=hs;exact False.elim q
def qs2 (X:Cx) (name qual:Str) (st:Stmt) (xs:List Str) (spl:V->List V->Hp->VK->Prop):Prop:=∀ (pins:List (Addr×Obj)) (σ:St) (H:Hp) (s:Shared) (f:Addr) (m:V) (vs:List V) (um:Value) (Q:VK),Inv X pins σ H s->CloM name qual st xs H f vs->RelV m um->spl m vs H Q ->
 wpAny (model X.prog X.w) X.A (call (.ref f) [um]) (EP X pins σ Q) X.xe s
def quq (name qual:Str) (st:Stmt) (xs:List Str) (spl:V->List V->Hp->VK->Prop) (i:Nat) (t:TA):TE:=λσ H Q=>∃ f vs,σ[i]?=some (some (.ref f))/\CloM name qual st xs H f vs/\t σ H λus H1=>∃ m,us=[m]/\CloM name qual st xs H1 f vs/\spl m vs H1 Q
theorem qq5 {name qual:Str} {st:Stmt} {xs:List Str} {spl:V->List V->Hp->VK->Prop} {i:Nat} {y:Str} {p pos:Pos} {e:Expr} {es:List Expr} {t:TA} (D:qs2 X name qual st xs spl) (hN:X.N[i]?=some y) (hv:Vis X.env.scope y) (ha:PA X (e :: es) t) (hd:(y == ("__debug__" : Str))=false:=by decide) (hcd:(y == ("__classdict__" : Str))=false:=by decide)
  (he:starEach (e :: es) X.env=(false,eval e X.env) :: starEach es X.env:=by rfl) (hpl:(backTo pos (starEach es X.env)).any (·.1)=false:=by rfl):PE X (.Call (.Name y p) (e :: es) [] pos) (quq name qual st xs spl i t):=by
 intro pins s σ H Q I ⟨f,vs,hf,hC,h⟩;refine wpAny_Call_Name_kw (thn (qfe (pos:=p) hN hv hd hcd pins s σ H (λv H'=>v=.ref f/\H'=H) I ⟨_,hf,rfl,rfl⟩) λu s1 hq__=>?_);obtain ⟨v,H1,I1,rv,e1,e2⟩:=hq__;subst e1 e2;obtain rfl:u=Value.ref f:=rv;have at_:∀ {H:Hp} {s:Shared},Inv X pins σ H s->CloM name qual st xs H f vs->PySem.W.FnAt f s.heap:=fun {H s} I ⟨cs,c,_,_,_,h1,_⟩=>by
  obtain ⟨⟨doc,pm,ctv,ef⟩,_,_⟩:=I.hok f _ h1;exact ⟨_,_,_,_,ef⟩
 refine PySem.W.callWith_F (at_ I1 hC) (thn (ha pos pins s1 σ H1 _ I1 h) λus s2 ⟨ws,H2,I2,r,m,em,hC2,q⟩=>⟨at_ I2 hC2,?_⟩) he hpl;subst em
 cases r with
 | cons rm r' =>
  cases r'
  exact D pins σ H2 s2 f m vs _ Q I2 hC2 rm q
end
open PySem PySem.Spec PyProof.Rows
def qq6 (H:Hp) (l:List (Addr×V)):Hp:=λb=>match l.lookup b with|some v=>some (qci b v)|none=>H b
theorem qnb {H:Hp} {l:List (Addr×V)} {b:Addr} {v:V} (h:l.lookup b=some v):qq6 H l b=some (qci b v):=by unfold qq6;rw[h]
theorem qhk {H:Hp} {l:List (Addr×V)} {b:Addr} (h:l.lookup b=none):qq6 H l b=H b:=by unfold qq6;rw[h]
theorem qco {α β:Type} [BEq α] [LawfulBEq α] {y:α} {c:β}:∀ {cs:List (α×β)},cs.lookup y=some c->(y,c)∈cs
 | [],h=>by cases h
 | (a,b) :: cs,h=>by
  rw[List.lookup_cons] at h
  by_cases e:y == a
  ·rw[e] at h;cases h
   rw[beq_iff_eq.mp e];exact List.mem_cons_self
  ·rw[Bool.eq_false_iff.mpr e] at h
   exact List.mem_cons_of_mem _ (qco h)
section
variable {P:Program} {w:World} {K:Frag} {mg:Str->Option Value} {base:Heap}
theorem Fun.okM {x qual:Str} {st:Stmt} {f:Addr} {fd:FuncData} {N ps:List Str} {k:Nat} {sp:Sp} (as:List (Str×Nat×Nat)) (F:Fun K x qual st f fd) (S:qal N ps (qab st)) (len:∀ vs H Q E,sp vs H Q E->vs.length=ps.length)
  (hx:∀ p∈as,(qab st).names.lookup p.1=some .cell) (hi:∀ p∈as,N[p.2.1]?=some p.1) (ha:∀ p∈as,∀ n,(cellsFrom n (qab st).names []).lookup p.1=some (n+p.2.2)) (nd:(as.map (·.2.2)).Nodup)
  (hbody:∀ (cdv:Value) (A:Around) (outer:List Env) (s:Shared) (H:Hp) (vs:List V) (Q:VK) (E:XK),(∃ oc od osl fd,K.lookup f=some ⟨oc,od,.func fd,osl⟩/\fd.code=cdv)->Room k (A.deeper (envOfC qual (qab st) s.heap.objs.size f cdv))->sp vs H Q E ->
   ∃ t,PZ (bx P w K mg base N qual (qab st) f cdv A outer s H E) (qae st) t/\t (λv σ H1=>∃ us:List V,us.length=as.length/\(∀ (j:Nat) (p:Str×Nat×Nat) (u:V),as[j]?=some p->us[j]?=some u->σ[p.2.1]?=some (some u)) /\
    ∀ H2,Same H1 H2->(∀ b,H1 b=none->(∀ p∈as,b≠s.heap.objs.size+1+p.2.2)->H2 b=none)->(∀ p∈as,H1 (s.heap.objs.size+1+p.2.2)=none)->(∀ (j:Nat) (p:Str×Nat×Nat) (u:V),as[j]?=some p->us[j]?=some u->H2 (s.heap.objs.size+1+p.2.2)=some (qci (s.heap.objs.size+1+p.2.2) u))->Q v H2) (start N vs) H):qff P w K mg base (CX1 P w) (k+1) f fd ps sp:=by
 obtain ⟨oc,od,kV,doc,pm,an,cdv,ct,osl,rfl,lk,hcd⟩:=F.ex;refine ⟨len,λA outer s H args us vs Q E hr e0 hb r hsp=>?_⟩;have hl:=len _ _ _ _ hsp;have KX:K.In s.heap:=e0.mod.kin.keeps λb o e=>(e0.bs b o e).1
 have lim:s.heap.NoLimit:=e0.mod.nolimit.keeps λb o e=>(e0.bs b o e).1
 have hkind:∀ y∈ps.zip us,(qab st).names.lookup y.1=some .local\/((qab st).names.lookup y.1=some .cell/\((cellsFrom (s.heap.objs.size+1) (qab st).names []).lookup y.1).isSome=true):=fun ⟨n,v⟩ hy=>by
  rcases S.par n (List.of_mem_zip hy).1 with q|q
  ·exact .inl q
  ·exact .inr ⟨q,PySem.W.cellsFrom_some _ _ _ (.inl q)⟩
 refine codeAny_call_function hr.depth (KX _ _ lk) rfl S.co S.gen rfl (PySem.W.codeRec_of KX hcd) (hb _ _ _ _ ?_);refine wpAny_newFunctionEnv_cells S.kind hkind λenv he s1 x=>?_
 subst he;refine ⟨lim.keeps x.toInCall.keep,codeAny_func ?_⟩;obtain ⟨t,ht,hq⟩:=hbody cdv A outer s H vs Q E ⟨oc,od,osl,_,lk,rfl⟩ (hr.deeper _) hsp;have I:Inv (qj1 (CX1 P w) P w K mg base N qual (qab st) f cdv A outer s H E) [] (start N vs) H s1:=qfz S hr.hd e0 hl r x;refine wpAny_mono ((ht.imp λ_ _ z=>qkb z) [] s1 (start N vs) H _ I hq) (λfl s' hs=>?_) λe s' hs=>hs
 obtain ⟨u,v,σ',H1,rfl,J,rv,ws,lw,e1,q⟩:=hs;obtain ⟨m,hn,hl'⟩:=J.loc;have look:∀ {i:Nat} {y:Str} {c:Addr} {v:V},N[i]?=some y->(qab st).names.lookup y=some .cell->(cellsFrom (s.heap.objs.size+1) (qab st).names []).lookup y=some c->σ'[i]?=some (some v)->∃ u,RelV v u/\s'.heap.IsCell c (some u):=fun {i y c v} hi hk hc e=>by
  obtain ⟨u,ru,lu⟩:=hl' i y v hi e (.inr (.inl hk))
  rcases lu with ⟨z,_⟩|⟨_,c',hc',z⟩
  ·have z':(qab st).names.lookup y=some .local:=z
   rw[hk] at z';cases z'
  ·have hc2:(cellsFrom (s.heap.objs.size+1) (qab st).names []).lookup y=some c':=hc'
   rw[hc] at hc2;cases hc2;exact ⟨u,ru,z⟩
 obtain ⟨l,hL⟩:∃ l:List (Addr×V),l=(as.zip ws).map λp=>(s.heap.objs.size+1+p.1.2.2,p.2):=⟨_,rfl⟩
 have lat:∀ (j:Nat) (p:Str×Nat×Nat) (u:V),as[j]?=some p->ws[j]?=some u->l[j]?=some (s.heap.objs.size+1+p.2.2,u):=λj p u a b=>by
  rw[hL,List.getElem?_map,List.getElem?_zip_eq_some (z:=(p,u)) |>.mpr ⟨a,b⟩];rfl
 have lmem:∀ (b:Addr) (u:V),(b,u)∈l->∃ (j:Nat) (p:Str×Nat×Nat),as[j]?=some p/\ws[j]?=some u/\b=s.heap.objs.size+1+p.2.2:=λb u h=>by
  rw[hL] at h;obtain ⟨⟨p,u'⟩,hp,ep⟩:=List.mem_map.mp h;obtain ⟨j,hj⟩:=List.getElem?_of_mem hp;obtain ⟨a1,a2⟩:=List.getElem?_zip_eq_some.mp hj;injection ep with ep1 ep2
  exact ⟨j,p,a1,by rw[<- ep2];exact a2,ep1.symm⟩
 have kN:(l.map (·.1)).Nodup:=by
  have e:l.map (·.1)=((as.zip ws).map λp=>p.1.2.2).map (s.heap.objs.size+1 + ·):=by rw[hL,List.map_map,List.map_map];rfl
  have e2:(as.zip ws).map (λp=>p.1.2.2)=as.map (·.2.2):=by
   rw[show (λp:(Str×Nat×Nat)×V=>p.1.2.2)=(λp:Str×Nat×Nat=>p.2.2) ∘ Prod.fst from rfl,<- List.map_map,List.map_fst_zip (by omega)]
  rw[e,e2];exact List.Pairwise.map _ (λa b n z=>n (Nat.add_left_cancel z)) nd
 have n1:∀ p∈as,H1 (s.heap.objs.size+1+p.2.2)=none:=λp hp=>J.freeC p.1 _ (ha p hp _)
 have lno:∀ b o,H1 b=some o->l.lookup b=none:=λb o e=>by
  cases z:l.lookup b with
  | none=>rfl
  | some u =>
   obtain ⟨j,p,a1,_,a3⟩:=lmem _ _ (qco z);rw[a3,n1 p (List.mem_of_getElem? a1)] at e;cases e
 have sm:∀ b o,H1 b=some o->qq6 H1 l b=some o:=λb o e=>by rw[qhk (lno b o e)];exact e
 have Q2:=q (qq6 H1 l) sm (λb e n=>by
  rw[qhk]
  ·exact e
  ·cases z:l.lookup b with
   | none=>rfl
   | some u =>
    obtain ⟨j,p,a1,_,a3⟩:=lmem _ _ (qco z);exact absurd a3 (n p (List.mem_of_getElem? a1))) n1 λj p u a b=>qnb (lkN kN (lat j p u a b))
 refine ⟨v,qq6 H1 l,J.os,J.bare,⟨J.base.keep,J.base.slot,λb o e n hx=>?_,J.base.there,λb xs e=>sm _ _ (J.base.tups b xs e),λb o u e=>sm _ _ (J.base.frzs b o u e),λb ps e=>?_⟩,λb o e=>?_,rv,Q2⟩
 ·have lt:=Heap.lt_size e
  rw[qhk]
  ·exact J.base.free b o e n hx
  ·cases z:l.lookup b with
   | none=>rfl
   | some u =>
    obtain ⟨j,p,_,_,a3⟩:=lmem _ _ (qco z);rw[a3] at lt;exact absurd lt (Nat.not_lt.mpr (Nat.le_trans (Nat.le_succ _) (Nat.le_add_right _ _)))
 ·obtain ⟨m,e⟩:=J.base.tbls b ps e
  exact ⟨m,sm _ _ e⟩
 ·cases z:l.lookup b with
  | none =>
   rw[qhk z] at e;exact (J.hok b o e).stay (λ_ _ _ q=>q) (λd q=>sm _ _ q) λd xs q=>sm _ _ q
  | some v1 =>
   rw[qnb z] at e;cases e;obtain ⟨j,p,a1,a2,a3⟩:=lmem _ _ (qco z);have hp:=List.mem_of_getElem? a1;obtain ⟨u1,r1,z1⟩:=look (hi p hp) (hx p hp) (ha p hp _) (e1 j p v1 a1 a2);rw[a3];exact qje r1 z1
end
open PySem PySem.Spec PyProof.Rows
theorem qle {P:Program} {w:World} {K:Frag} {mg mb:Str->Option Value} {CX:CXT} {k:Nat} {fa a:Addr} {Ts:List Addr} {fd:FuncData} {x:Str} {sp:Sp} {s₁:Shared} {vs:List Value} {ns:List Int}
  (KX:K.In s₁.heap) (hns:s₁.heap.Ns mainGlobals mg) (hb:s₁.heap.Ns builtinsNs mb) (hbb:∀ x:Str,x ≠ "__name__" -> mb x=bootBuiltins x) (hlim:s₁.heap.NoLimit) (hnd:s₁.heap.NoDigits)
  (hbm:∃ bm ob,mg "__builtins__" = some (.ref bm)/\bm≠builtinsNs/\s₁.heap.get? bm=some ob/\ob.cls=.type "module" /\ ob.dict=some builtinsNs/\ob.data=.plain) (hg:s₁.gens = #[])
  (hT:∀ T∈Ts,∃ c,PySem.W.CodeHd s₁.heap c T) (eT:∀ T∈Ts,s₁.heap.get? T=some (PySem.W.tabObj #[])) (KT:∀ T∈Ts,K.lookup T=none)
  (ha:s₁.heap.get? a=some { cls:=.type "list",data:=.seq vs.toArray }) (hi:IntsAre vs ns) (hl:ns.length<=sizeLine) (hr:Room k callerA)
  (F:∀ base:Heap,K.In base->base.Ns mainGlobals mg->qff P w K mg base CX k fa fd [x] sp) (hbind:∀ (s:Shared) (u:Value),BindsTo s fd ⟨[u],[]⟩ [(x,u)])
  (hsp:∀ H:Hp,(∀ T∈Ts,H T=some (.tbl #[]))->SqL K H a (ns.map V.int)->sp [.ref a] H (λv _=>v=.bl true) λ_ _ _=>False)
  (hCX:∀ H e s',CX [] H s₁ (λ_ _ _=>False) e s'->False) :
  codeAny (model P w) callerA (.call (.ref fa) ⟨[.ref a],[]⟩) (λr s'=>r=.ok (.ret (.bool true))/\OldK s₁.heap s'.heap/\s'.os=s₁.os/\AllBare s'.gens) s₁:=by
 have rv:=qf5 hi;have lenV:=hi.length;have aT:a ∉ Ts:=λz=>by rw[eT a z] at ha;cases ha
 have core:∀ H:Hp,(∀ T∈Ts,H T=some (.tbl #[]))->(∀ b,b ∉ Ts->H b=none\/∃ o xs,H b=some (.frz o (.lst xs)))->SqL K H a (ns.map V.int)->HOk P w H s₁.heap->(∀ b,H b≠none->b=a\/b∈Ts)->(H a≠none->K.lookup a=none) ->
   codeAny (model P w) callerA (.call (.ref fa) ⟨[.ref a],[]⟩) (λr s'=>r=.ok (.ret (.bool true))/\OldK s₁.heap s'.heap/\s'.os=s₁.os/\AllBare s'.gens) s₁:=by
  intro H hTt hO hS hok hA hK;have base_of:∀ {b:Addr} {o:Obj},s₁.heap.get? b=some o->H b=none->(qjv s₁.heap H).get? b=some o:=λe n=>qjw e n
  have noT:∀ {b:Addr} {o:Obj},s₁.heap.get? b=some o->o≠{ cls:=.type "list",data:=.seq vs.toArray }->o≠PySem.W.tabObj #[]->H b=none:=fun {b o} e n1 n2=>by
   cases q:H b with
   | none=>rfl
   | some u =>
    rcases hA b (by rw[q];simp) with z|z
    ·subst z;rw[ha] at e;cases e;exact absurd rfl n1
    ·rw[eT b z] at e;cases e;exact absurd rfl n2
  have nsK:∀ {b:Addr} {m:Str->Option Value},s₁.heap.Ns b m->(qjv s₁.heap H).Ns b m:=fun {b m} ⟨o,es,ep,e,d,r⟩=>⟨o,es,ep,base_of e (noT e (λz=>by rw[z] at d;cases d) λz=>by rw[z] at d;cases d),d,r⟩
  have hKb:K.In (qjv s₁.heap H):=λb o e=>base_of (KX b o e) (by
   cases q:H b with
   | none=>rfl
   | some u =>
    rcases hA b (by rw[q];simp) with z|z
    ·subst z;rw[hK (by rw[q];simp)] at e;cases e
    ·rw[KT b z] at e;cases e)
  have hM:Mod K mg (qjv s₁.heap H):=⟨hKb,nsK hns,⟨mb,nsK hb,hbb⟩,let ⟨mc,h1,h2⟩:=hlim;⟨mc,nsK h1,h2⟩,let ⟨mc,h1,h2⟩:=hnd;⟨mc,nsK h1,h2⟩,
   let ⟨bm,ob,h1,h2,h3,h4,h5⟩:=hbm;⟨bm,ob,h1,h2,base_of h3 (noT h3 (λz=>by rw[z] at h5;cases h5.2) λz=>by rw[z] at h5;cases h5.2),h4,h5⟩⟩
  have e0:Env0 P w K mg (qjv s₁.heap H) callerA [] s₁ H:=⟨rfl,hM,λb o e=>qlz e,Nat.le_of_eq (qhv _ _),trivial,λb hb=>absurd (show b∈([]:List Addr) from hb) (by simp),hok,.of_eq hg⟩;refine codeAny_mono ((F _ hKb (nsK hns)).run callerA [] s₁ H ⟨[.ref a],[]⟩ [.ref a] [.ref a] _ _ hr e0 (hbind s₁ (.ref a)) (.cons rfl .nil) (hsp H hTt hS)) λr s' h=>?_
  cases r with
  | error e=>exact (hCX H e s' h).elim
  | ok fl =>
   cases fl with
   | next=>exact False.elim h
   | brk=>exact False.elim h
   | cont=>exact False.elim h
   | ret u =>
    obtain ⟨v,H',os,bare,un,hok',r',q⟩:=h;have q':v=.bl true:=q;subst q';obtain rfl:u=Value.bool true:=r';have kp:∀ b o,b ∉ Ts->s₁.heap.get? b=some o->s'.heap.get? b=some o:=λb o nb e=>by
     rcases hO b nb with z|⟨ob,xs,z⟩
     ·exact un.keep b o e z (by intro y;exact absurd (show b∈([]:List Addr) from y) (by simp)) (by simp)
     ·have z2:=un.frzs b ob _ z
      obtain ⟨e1,_⟩:=hok b _ z;obtain ⟨e2,_⟩:=hok' b _ z2;rw[e] at e1;cases e1;exact e2
    have zT:∀ T∈Ts,∃ more,s'.heap.get? T=some (PySem.W.tabObj (#[] ++ more)):=λT hT'=>let ⟨more,z⟩:=un.tbls T _ (hTt T hT');⟨more,hok' T _ z⟩
    refine ⟨rfl,⟨λb o e=>?_,λb o e=>?_⟩,os,bare⟩
    ·by_cases nb:b∈Ts
     ·have e2:=eT b nb
      rw[e2] at e;cases e;obtain ⟨c,hc⟩:=hT b nb;obtain ⟨more,z⟩:=zT b nb;exact .inr (.inl ⟨(hc.tab e2).isCodeTable,rfl,#[],more,rfl,z⟩)
     ·exact .inl (kp b o nb e)
    ·by_cases nb:b∈Ts
     ·obtain ⟨more,z⟩:=zT b nb
      exact ⟨_,z⟩
     ·exact ⟨o,kp b o nb e⟩
 cases hk:K.lookup a with
 | some o =>
  have e:=KX a o hk;rw[ha] at e;cases e;refine core (λb=>if b∈Ts then some (.tbl #[]) else none) (λT hT'=>if_pos hT') (λb nb=>.inl (if_neg nb)) (.inr ⟨_,vs.toArray,_,hk,rfl,rfl,rfl,by rw[List.size_toArray,lenV];exact hl,by simpa using rv⟩) (λb u z=>?_) (λb z=>.inr ?_) λz=>absurd (if_neg aT) z
  ·dsimp only at z
   by_cases nb:b∈Ts
   ·rw[if_pos nb] at z;cases z;exact eT b nb
   ·rw[if_neg nb] at z;cases z
  ·by_cases nb:b∈Ts
   ·exact nb
   ·exact absurd (if_neg nb) z
 | none =>
  refine core (λb=>if b∈Ts then some (.tbl #[]) else if b=a then some (.frz { cls:=.type "list",data:=.seq vs.toArray } (.lst (ns.map V.int))) else none) (λT hT'=>if_pos hT') (λb nb=>?_) (.inl (.inr ⟨{ cls:=.type "list",data:=.seq vs.toArray },by dsimp only;rw[if_neg aT,if_pos rfl]⟩)) (λb u z=>?_) (λb z=>?_) λ_=>hk
  ·rw[if_neg nb]
   by_cases hb:b=a
   ·exact .inr ⟨_,_,if_pos hb⟩
   ·exact .inl (if_neg hb)
  ·dsimp only at z
   by_cases nb:b∈Ts
   ·rw[if_pos nb] at z;cases z;exact eT b nb
   ·rw[if_neg nb] at z
    by_cases hb:b=a
    ·have z':=(if_pos hb).symm.trans z
     cases z'
     subst hb;exact ⟨ha,by rw[List.length_map];exact hl,vs,_,rv,ha⟩
    ·have z':=(if_neg hb).symm.trans z
     cases z'
  ·by_cases nb:b∈Ts
   ·exact .inr nb
   ·by_cases hb:b=a
    ·exact .inl hb
    ·exact absurd (by rw[if_neg nb,if_neg hb]) z
theorem qnc {l:PySem.W.OpenLaw} {n k:Nat} {q:Program} {loose:List Str} {XP:(Str->Option Value)->Heap->Prop} {YP:World->Heap->Prop} {d d9 e9:DefRec} {K:Params->Frag} {sp:World->Addr->Addr->Sp} {x x9 y9:Str}
  (hn:l.most=some n) (hn2:n<=sizeLine) (hdf:d.params.defaults=[]) (hr:Room k callerA) (h9:(recsOf q).find? (λe=>e.name == x9)=some d9) (i9:(recsOf q).find? (λe=>e.name == y9)=some e9)
  (hY:∀ (w:World) (h:Heap),YP w h->(K w.params).In h)
  (F:∀ (w:World) (mg:Str->Option Value) (fa:Addr) (h:Heap),(K w.params).In h->h.Ns mainGlobals mg->mg d.name=some (.ref fa) ->
   ∃ c T c2 T2,PySem.W.tabIn (K w.params) x9=some (c,T)/\PySem.W.tabIn (K w.params) y9=some (c2,T2)/\PySem.W.noTabs (K w.params)=true/\∃ fd:FuncData,(∀ (s:Shared) (u:Value),BindsTo s fd ⟨[u],[]⟩ [(x,u)]) /\
    ∀ base:Heap,(K w.params).In base->base.Ns mainGlobals mg->(∀ f,mg x9=some (.ref f)->qkg (K w.params) f c T)->(∀ f,mg y9=some (.ref f)->qkg (K w.params) f c2 T2)->qff l.prog w (K w.params) mg base CX0 k fa fd [x] (sp w T T2))
  (hsp:∀ (w:World) (T T2:Addr) (H:Hp) (a:Addr) (ns:List Int),ns.length<=n->qol T H->qol T2 H->SqL (K w.params) H a (ns.map V.int)->sp w T T2 [.ref a] H (λv _=>v=.bl true) λ_ _ _=>False) :
  PySem.W.WalkO q loose XP YP l.row.toRowW d [] (λf vs=>PySem.call f vs):=by
 refine Att.attach_call hn hdf λw s₀ s₁ mg mb fa o pm cd doc a vs ns G Y ho hd hcd hmg hobj hints hlen hg=>?_
 have KX:=hY w _ Y;obtain ⟨c,T,c2,T2,ht,ht2,hno,fd,hb,hF⟩:=F w mg fa _ KX G.T.g hmg;obtain ⟨hC,eT⟩:=PySem.W.tab_of G.T KX h9 ht;obtain ⟨hC2,eT2⟩:=PySem.W.tab_of G.T KX i9 ht2;have ZZ:∀ {z:Str} {c T:Addr},PySem.W.tabIn (K w.params) z=some (c,T)->PySem.W.CodeHd _ c T->∀ f,mg z=some (.ref f)->qkg (K w.params) f c T:=fun {z c T} ht hC f hf=>by
  obtain ⟨f9,oc,od,fd9,sl,ob,t1,t2,t3,t4⟩:=qom ht;have m9:=mg_of KX G.T.g t1;rw[m9] at hf;cases hf;refine ⟨λoc' od' fd' osl' e=>by rw[t2] at e;cases e;exact t3,λh kh=>?_⟩;obtain ⟨o',vs',file,tf,flags,tg,inF,text,tt,e1,r⟩:=hC;have e2:=KX _ _ t4;rw[e1] at e2;cases e2;exact ⟨_,vs',file,tf,flags,tg,inF,text,tt,kh _ _ t4,r⟩
 have two:∀ {p:Addr->Prop},p T->p T2->∀ U∈[T,T2],p U:=λh1 h2 U hU=>by
  simp only[List.mem_cons,List.not_mem_nil,or_false] at hU
  rcases hU with rfl|rfl
  ·exact h1
  ·exact h2
 exact qle (Ts:=[T,T2]) KX G.T.g G.T.b G.T.builtins G.T.nolimit G.T.nodigits G.T.bmain hg (two ⟨_,hC⟩ ⟨_,hC2⟩) (two eT eT2) (two (qif hno KX eT) (qif hno KX eT2)) hobj hints (Nat.le_trans hlen hn2) hr (λbase kb nb=>hF base kb nb (ZZ ht hC) (ZZ ht2 hC2)) hb (λH hO hS=>hsp w T T2 H a ns hlen (hO T (by simp)) (hO T2 (by simp)) hS) λH e s' z=>z
open PySem PySem.Spec PyProof.Rows
def qur (d:Addr) (ob:Obj) (kvs:List (Key×V)):It:=
 ⟨λi H=>H d=some (.frz ob (.dK kvs))/\i<kvs.length,
   λi H x H'=>∃ k,kvs[i]?=some (k,x)/\H'=H,
   λi H=>H d=some (.frz ob (.dK kvs))/\kvs.length<=i⟩
theorem qg1 {kvs:List (Key×V)} {vs:List (Key×Value)} (h:KV kvs vs):vs.length=kvs.length:=by
 unfold KV at h
 induction h with
 | nil=>rfl
 | cons _ _ ih=>simp[ih]
theorem qkk {P:Program} {w:World} {H:Hp} {h:Heap} {d:Addr} {ob:Obj} {kvs:List (Key×V)} {es:Array DictEntry} {ep:Nat} (x:ObjOk P w H h d (.frz ob (.dK kvs))) (he:ob.data=.dict es ep) :
  ∃ vs,KV kvs vs/\h.DictAt (qba P w) d vs ep:=by
 obtain ⟨e0,hz,lo,vs,kt,o,es',ep',e1,e2,e3,ek,e4,nd⟩:=x;rw[e0] at e1;cases e1;rw[he] at e3;cases e3;exact ⟨vs,kt,ob,es,e0,e2,he,ek,e4,nd⟩
theorem qij {P:Program} {w:World} {K:Frag} {tg:Expr} (d it:Addr) (ob:Obj) (kvs:List (Key×V)) (es:Array DictEntry) (ep:Nat) (he:ob.data=.dict es ep) :
  Turn P w K tg (qur d ob kvs) [it] it (λi h=>h.IsValIter it d i kvs.length ep) where
 mem:=by simp
 obj:=λi h st b hb=>by
  have e:b=it:=by simpa using hb
  subst e;obtain ⟨o,e1,e2,e3⟩:=st;exact ⟨o,e1,λv z=>by rw[e3] at z;cases z⟩
 keep:=λi h h' st k=>st.at λo e=>k it (by simp) o e
 item:=by
  intro X hP hw hK hc i pins s σ H E I hf st hg;subst hP hw hK;obtain ⟨hd,hi⟩:=hg;obtain ⟨vs,kt,hD⟩:=qkk (I.hok d _ hd) he;have hkv:kvs[i]?=some (kvs[i].1,kvs[i].2):=by rw[List.getElem?_eq_getElem hi]
  obtain ⟨⟨k',u⟩,hu,_,ru⟩:=qib kt hkv;rw[<- qg1 kt] at st;refine wpAny_pyNext_values_item st hD hu λh' hit' hs'=>⟨u,rfl,?_⟩
  rw[qg1 kt] at hit';obtain ⟨o,e1,e2,e3⟩:=id hit';obtain ⟨f0,f1,f2,f3,f4,f5⟩:=hf it (by simp);refine qnv e1 e2 e3 (by decide) ⟨kvs[i].2,H,I.turned (t':=s.toks) (λb o hb e=>hs'.extBut b o hb e) f0 f1 f3 f4 f5,ru,⟨_,hkv,rfl⟩,hit',λb hb=>(hf b hb).1⟩
 done:=by
  intro X hP hw hK hc i pins s σ H E I hf st hg;subst hP hw hK;obtain ⟨hd,hi⟩:=hg;obtain ⟨vs,kt,hD⟩:=qkk (I.hok d _ hd) he;obtain ⟨f0,f1,f2,f3,f4,f5⟩:=hf it (by simp);have hl:=qg1 kt;rw[<- qg1 kt] at st;exact wpAny_pyNext_values_end (I.ok.hd hc) st hD (List.getElem?_eq_none (by omega)) λh' eb=>⟨rfl,I.turned (t':=s.toks) (λb o hb e=>eb b o hb e) f0 f1 f3 f4 f5⟩
 self:=λ_ _ _ _ _ st h=>wpAny_pyIter_valiter st h
section
variable {X:Cx}
def qhl (X:Cx) (to:TE):TI:=λσ H R=>to σ H λx H1=>∃ d kvs,x=.ref d/\H1 d=some (.dK kvs)/\∀ ob,NoF X d->R (qur d ob kvs) (upd H1 d (.frz ob (.dK kvs)))
theorem qlf {tg o:Expr} {to:TE} {apos cpos:Pos} (ho:PE X o to)
  (hbase:attributeBase o (Str.ofString "values") X.env (eval o X.env)=eval o X.env:=by rfl) (hline:(apos.endLine == cpos.line)=true:=by rfl) :
  PI X tg (.Call (.Attribute o (Str.ofString "values") apos) [] [] cpos) (qhl X to):=by
 intro pins s σ H R I h;refine wpAny_Call_method0_late hbase hline (thn (ho pins s σ H _ I h) λv s1 hq__=>?_);obtain ⟨x,H1,I1,r1,d,kvs,ex,hd,q⟩:=hq__;subst ex
 cases (show v=Value.ref d from r1)
 obtain ⟨hz,lo,vs,kt,ob,es,ep,e1,e2,e3,ek,e4,nd⟩:=I1.hok d _ hd;have hR:RawD s1.heap d es ep:=⟨ob,e1,e2,e3⟩;have hD:s1.heap.DictAt (qba X.prog X.w) d vs ep:=⟨ob,es,e1,e2,e3,ek,e4,nd⟩;refine ⟨"dict", "dict.values",F.plainAttrs_dict,F.slot_dict_values,F.type_dict_values,hR.ty,(λa ea=>by cases ea;exact ⟨ob,e1,e2.2.1⟩),Calls.callWith_builtin rfl (PySem.evalArgs_none (call_meetsIn F.slot_dict_values hR.ty F.entry_dict_values (F.args_dict_values_1 _) (meets_dict_values (qba X.prog X.w) d lo) ⟨⟨vs,hD.dictOf⟩,?_⟩))⟩;refine wpAny_pyIter_values (s:={ s1 with heap:=s1.heap.push { cls:=.type "dict_values",data:=.fields #[.ref d] } }) ⟨_,Heap.get?_push_size _ rfl,rfl,rfl⟩ (hD.push _) ?_;rw[qg1 kt];have k2:∀ b o,s1.heap.get? b=some o->((s1.heap.push { cls:=.type "dict_values",data:=.fields #[.ref d] }).push { cls:=.type "dict_valueiterator",data:=.fields #[.ref d,.int 0 0,.int kvs.length 0,.int ep 0] }).get? b=some o:=λb o e=>Heap.get?_push_of_some _ (Heap.get?_push_of_some _ e)
 have I2:=(I1.kept (t':=s1.toks) k2).freezeK hd (k2 _ _ e1);have hsz:s1.heap.objs.size<=(s1.heap.push { cls:=.type "dict_values",data:=.fields #[.ref d] }).objs.size:=by rw[Heap.size_push];exact Nat.le_succ _
 refine ⟨_,[_],_,_,_,rfl,I2,qij d _ ob kvs es ep e3,⟨_,Heap.get?_push_size _ rfl,rfl,rfl⟩,λb hb=>?_,q ob (I1.noFK hd)⟩;have e:b=(s1.heap.push { cls:=.type "dict_values",data:=.fields #[.ref d] }).objs.size:=by simpa using hb
 subst e;refine I1.fpOk hsz ?_;have hne:(s1.heap.push { cls:=.type "dict_values",data:=.fields #[.ref d] }).objs.size≠d:=Nat.ne_of_gt (Nat.lt_of_lt_of_le (Heap.lt_size e1) hsz);rw[qam hne];exact I1.hok.fresh hsz
def qpo (X:Cx) (Q:VK):VK:=λv H2=>∃ d kvs ob,H2 d=some (.frz ob (.dK kvs))/\NoF X d/\Q v (upd H2 d (.dK kvs))
def qwb (X:Cx) (nv:Nat) (fv:List Nat) (to:TE) (g:TG) (tc:TT) (te:TE):TE:=λσ H Q=>tLC nv fv (qhl X to) g tc te σ H (qpo X Q)
theorem qou {e:Expr} {nv:Nat} {fv:List Nat} {to:TE} {g:TG} {tc:TT} {te:TE} (h:PE X e (tLC nv fv (qhl X to) g tc te)):PE X e (qwb X nv fv to g tc te):=by
 intro pins s σ H Q I q;exact thn (h pins s σ H _ I q) λu s' ⟨v,H2,I2,rv,d,kvs,ob,hd,nf,q⟩=>⟨v,_,I2.thawK hd nf,rv,q⟩
theorem qlg {d:Addr} {ob:Obj} {kvs:List (Key×V)} {g:TG} {tc:TT} {te:TE} {Q:VK} {σ:St} {H:Hp} (Pv:Nat->List V->Hp->Prop) (hz:kvs.length<=sizeLine) (nf:NoF X d) (h0:Pv 0 [] (upd H d (.frz ob (.dK kvs)))) (hl:∀ i ys H,Pv i ys H->H d=some (.frz ob (.dK kvs))/\ys.length<=i)
  (hs:∀ i k v ys H,kvs[i]?=some (k,v)->Pv i ys H->g v σ H λσ4 H4=>tc σ4 H4 λb H5=>if b=true then te σ4 H5 λv H6=>Pv (i+1) (ys ++ [v]) H6 else Pv (i+1) ys H5)
  (hd:∀ ys H p H',Pv kvs.length ys H->New H H' p (.lst ys)->H' d=some (.frz ob (.dK kvs))->Q (.ref p) (upd H' d (.dK kvs))):qdp (qur d ob kvs) (qpo X Q) g tc te σ (upd H d (.frz ob (.dK kvs))):=by
 refine ⟨λi m ys H2=>m=kvs.length-i/\i<=kvs.length/\Pv i ys H2,⟨kvs.length,by simp,Nat.zero_le _,h0⟩,?_⟩;rintro i m ys H2 ⟨rfl,hi,p⟩;obtain ⟨hd2,hy⟩:=hl i ys H2 p
 by_cases hlt:i<kvs.length
 ·refine .inr ⟨⟨hd2,hlt⟩,by omega,Pv (i+1),λzs H' p'=>⟨kvs.length-(i+1),by omega,rfl,hlt,p'⟩,λx H3 y=>?_⟩
  obtain ⟨k,e1,rfl⟩:=y;exact hs i k x ys _ e1 p
 ·have e:i=kvs.length:=by omega
  subst e;refine .inl ⟨⟨hd2,Nat.le_refl _⟩,by omega,λp' hp'=>?_⟩;have hne:d≠p':=λz=>by rw[<- z,hd2] at hp';cases hp'
  have h3:upd H2 p' (.lst ys) d=some (.frz ob (.dK kvs)):=by rw[qam hne];exact hd2
  exact ⟨d,kvs,ob,h3,nf,hd ys H2 p' _ p (qa0 hp') h3⟩
def qnd (te:TE):TE:=λσ H Q=>te σ H λx H1=>∃ d kvs,x=.ref d/\H1 d=some (.dK kvs)/\∀ p H',New H1 H' p (.lst (kvs.map (·.2)))->Q (.ref p) H'
theorem qq7 {kvs:List (Key×V)} {vs:List (Key×Value)} (h:KV kvs vs):Vals (kvs.map (·.2)) (vs.map (·.2)):=by
 unfold KV at h
 induction h with
 | nil=>exact .nil
 | cons a _ ih=>exact .cons a.2 ih
theorem qjj {o:Expr} {te:TE} {p pos apos cpos:Pos} (hc:X.calm=true) (hg:Gl X "list") (hm:X.mg "list" = none) (ho:PE X o te)
  (hs:starEach [.Call (.Attribute o (Str.ofString "values") apos) [] [] cpos] X.env=[(false,eval (.Call (.Attribute o (Str.ofString "values") apos) [] [] cpos) X.env)]:=by rfl)
  (hbase:attributeBase o (Str.ofString "values") X.env (eval o X.env)=eval o X.env:=by rfl) (hline:(apos.endLine == cpos.line)=true:=by rfl) :
  PE X (.Call (.Name "list" p) [.Call (.Attribute o (Str.ofString "values") apos) [] [] cpos] [] pos) (qnd te):=by
 intro pins s σ H Q I h;refine Call_ (qgu I hg hm qe5 (PyProof.Rows.callWith_type1 ?_ hs rfl));rw[hs]
 show wpAny _ _ (spliced ((false,eval (.Call (.Attribute o (Str.ofString "values") apos) [] [] cpos) X.env) :: [])) _ _ s
 refine Calls.spliced_cons ?_;refine wpAny_Call_method0_late hbase hline (thn (ho pins s σ H _ I h) λv s1 hq__=>?_);obtain ⟨x,H1,I1,r1,d,kvs,ex,hd,q⟩:=hq__;subst ex
 cases (show v=Value.ref d from r1)
 obtain ⟨hz,lo,vs,kt,ob,es,ep,e1,e2,e3,ek,e4,nd⟩:=I1.hok d _ hd;have hR:RawD s1.heap d es ep:=⟨ob,e1,e2,e3⟩;have hD:s1.heap.DictAt (qba X.prog X.w) d vs ep:=⟨ob,es,e1,e2,e3,ek,e4,nd⟩;refine ⟨"dict", "dict.values",F.plainAttrs_dict,F.slot_dict_values,F.type_dict_values,hR.ty,(λa ea=>by cases ea;exact ⟨ob,e1,e2.2.1⟩),Calls.callWith_builtin rfl (PySem.evalArgs_none (call_meetsIn F.slot_dict_values hR.ty F.entry_dict_values (F.args_dict_values_1 _) (meets_dict_values (qba X.prog X.w) d lo) ⟨⟨vs,hD.dictOf⟩,?_⟩))⟩;refine Calls.spliced_nil ?_;refine PySem.W.kdl_call (s:={ s1 with heap:=s1.heap.push { cls:=.type "dict_values",data:=.fields #[.ref d] } }) (PySem.W.kdl_values (knd:=qba X.prog X.w) (kvs:=vs) (ep:=ep)) (I.ok.hd hc) ⟨⟨_,Heap.get?_push_size _ rfl,rfl,rfl⟩,hD.push _⟩ (by rw[qg1 kt];exact hz) λh' tk acc' c' hk hS' hacc=>?_
 have kp:∀ b ob,s1.heap.get? b=some ob->h'.get? b=some ob:=λb ob e=>hk b ob (Heap.get?_push_of_some _ e)
 have hge:s1.heap.objs.size<=(s1.heap.push { cls:=.type "dict_values",data:=.fields #[.ref d] }).objs.size:=by rw[Heap.size_push];exact Nat.le_succ _
 have ea:acc'.toList=vs.map (·.2):=PySem.W.kdl_vals_eq _ (by rw[Array.length_toList];exact hacc.1) λj v e=>hacc.2 j v (by rw[<- Array.getElem?_toList];exact e)
 refine ⟨.ref (s1.heap.push { cls:=.type "dict_values",data:=.fields #[.ref d] }).objs.size,_,I1.laid (t':=tk) (o:=.lst (kvs.map (·.2))) kp hge ?_,rfl,q _ _ (qa0 (I1.hok.fresh hge))⟩;refine ⟨by rw[List.length_map];exact hz,vs.map (·.2),c',qq7 kt,?_⟩;rw[<- ea]
 simpa using hS'
end
open PySem PySem.Spec PyProof.Rows
section
variable {X:Cx}
abbrev txD (ms:List (List Nat)):PyData:=.list (ms.map λm=>PyData.str (S m))
theorem qev {K:Frag} {H:Hp}:∀ ms:List (List Nat),qqe K H (ms.map λm=>V.str (S m)) (ms.map λm=>PyData.str (S m))
 | []=>.nil
 | _ :: ms=>.cons (.str _) (qev ms)
theorem qjk:∀ ms:List (List Nat),PyData.depthAll (ms.map λm=>PyData.str (S m))=0
 | []=>rfl
 | m :: ms=>by
  show max (PyData.depth (.str (S m))) (PyData.depthAll (ms.map λm=>PyData.str (S m)))=0
  rw[qjk ms];rfl
theorem qne:∀ (ms ns:List (List Nat)),PyData.eqvAll (ms.map λm=>PyData.str (S m)) (ns.map λm=>PyData.str (S m))=decide (ms=ns)
 | [],[]=>rfl
 | [],_ :: _=>rfl
 | _ :: _,[]=>rfl
 | m :: ms,n :: ns=>by
  show ((S m == S n) && PyData.eqvAll (ms.map λm=>PyData.str (S m)) (ns.map λm=>PyData.str (S m)))=_
  rw[qne ms ns,Bool.eq_iff_iff];simp only[Bool.and_eq_true,beq_iff_eq,decide_eq_true_iff,List.cons.injEq];exact ⟨fun ⟨a,b⟩=>⟨qhh a,b⟩,fun ⟨a,b⟩=>⟨by rw[a],b⟩⟩
theorem qjl:∀ {ms ns:List (List Nat)},(ms.map λm=>V.str (S m))=(ns.map λm=>V.str (S m))->ms=ns
 | [],[],_=>rfl
 | [],_ :: _,h=>by cases h
 | _ :: _,[],h=>by cases h
 | m :: ms,n :: ns,h=>by
  simp only[List.map_cons,List.cons.injEq] at h;rw[qhh (V.str.inj h.1),qjl h.2]
noncomputable def qq8 (H:Hp) (ms:List (List Nat)) (u:Value):Bool:=match u with|.ref a=>@decide (H a=some (.lst (ms.map λm=>V.str (S m)))) (Classical.propDecidable _)|_=>false
structure InL (H:Hp) (q p:Addr) (ms:List (List Nat)) (as:List Addr):Prop where
 hq:H q=some (.lst (ms.map λm=>V.str (S m)))
 cq:(txD ms).canLay0=true
 hp:H p=some (.lst (as.map V.ref))
 each:∀ a∈as,∃ ns,H a=some (.lst (ns.map λm=>V.str (S m)))/\(txD ns).canLay0=true
def qvh (neg:Bool):R2:=λx y H Q=>∃ q p ms as,x=.ref q/\y=.ref p/\InL H q p ms as/\∀ b:Bool,(b=true↔∃ a∈as,H a=some (.lst (ms.map λm=>V.str (S m))))->Q (.bl (if neg then !b else b)) H
theorem qkl {pins:List (Addr×Obj)} {σ:St} {H:Hp} {s:Shared} {q p:Addr} {ms:List (List Nat)} {as:List Addr} (I:Inv X pins σ H s) (hu:X.A.units+64<cLine) (h:InL H q p ms as):∀ y∈as.map Value.ref,SeqAt.EqAt X.A.in1 s y (.ref q) (qq8 H ms y):=λy hy=>by
 obtain ⟨a,ha,rfl⟩:=List.mem_map.mp hy;obtain ⟨ns,hn,cn⟩:=h.each a ha;obtain ⟨a1,ra⟩:=qcn (X:=X) I (txD ns) (.ref a) (.ref a) (.lst (SqL.of hn) (qev ns)) rfl;obtain ⟨a2,rb⟩:=qcn (X:=X) I (txD ms) (.ref q) (.ref q) (.lst (SqL.of h.hq) (qev ms)) rfl;have dp:(txD ns).depth=1:=by show PyData.depthAll _+1=1;rw[qjk]
 have e:=SeqAt.eqAt_reads (txD ns) (txD ms) X.A.in1 s _ _ _ _ ra rb cn h.cq (by have hm:min (txD ns).depth (txD ms).depth<=(txD ns).depth:=Nat.min_le_left _ _;have:X.A.in1.units<=X.A.units+1:=Nat.le_refl _;omega);have e2:qq8 H ms (.ref a)=PyData.eqv (txD ns) (txD ms):=by
  show @decide _ (Classical.propDecidable _)=PyData.eqvAll _ _
  rw[qne,Bool.eq_iff_iff,@decide_eq_true_iff _ (Classical.propDecidable _),decide_eq_true_iff,hn]
  constructor
  ·intro z
   injection z with z
   injection z with z
   exact qjl z
  ·rintro rfl;rfl
 rw[e2];exact e
theorem qkm {H:Hp} {ms:List (List Nat)} {as:List Addr}:((as.map Value.ref).toArray.any (qq8 H ms))=true↔∃ a∈as,H a=some (.lst (ms.map λm=>V.str (S m))):=by
 rw[show (as.map Value.ref).toArray.any (qq8 H ms)=(as.map Value.ref).any (qq8 H ms) by simp,List.any_eq_true]
 constructor
 ·rintro ⟨y,hy,e⟩
  obtain ⟨a,ha,rfl⟩:=List.mem_map.mp hy;exact ⟨a,ha,@of_decide_eq_true _ (Classical.propDecidable _) e⟩
 ·rintro ⟨a,ha,e⟩
  exact ⟨.ref a,List.mem_map.mpr ⟨a,ha,rfl⟩,@decide_eq_true _ (Classical.propDecidable _) e⟩
theorem qga:∀ {as:List Addr} {us:List Value},Vals (as.map V.ref) us->us=as.map Value.ref
 | [],_,.nil=>rfl
 | a :: as,_,.cons r t=>by
  rw[qga t,show _=Value.ref a from r];rfl
theorem qs3 (hu:X.A.units+64<cLine):OpR X (compareOp .In) (qvh false):=by
 intro pins s σ H x y v u Q I rx ry h;obtain ⟨q,p,ms,as,rfl,rfl,hI,k⟩:=h;cases rx;cases ry;obtain ⟨its,r,pl,hz⟩:=I.list (SqL.of hI.hp);have ei:=qga r;subst ei;exact SeqAt.in_listAt (qq8 H ms) pl.isList (λw hw=>qkl I hu hI w (by simpa using hw)) ⟨.bl _,H,I,rfl,k _ qkm⟩
theorem qnf (hu:X.A.units+64<cLine):OpR X (compareOp .NotIn) (qvh true):=by
 intro pins s σ H x y v u Q I rx ry h;obtain ⟨q,p,ms,as,rfl,rfl,hI,k⟩:=h;cases rx;cases ry;obtain ⟨its,r,pl,hz⟩:=I.list (SqL.of hI.hp);have ei:=qga r;subst ei;exact SeqAt.notIn_listAt (qq8 H ms) pl.isList (λw hw=>qkl I hu hI w (by simpa using hw)) ⟨.bl _,H,I,rfl,k _ qkm⟩
theorem qpp {k:Nat} {C:Addr} {ps:List Str} {ds:List Value} {dvs:List V} {sp:Sp} {m:Str} {pos apos:Pos} {e o:Expr} {es:List Expr} {ta:TE} {t:TA} {pl:Sem Bool} (he:PE X o ta) (c:Cls X.K C) (D:qsd X.prog X.w X.K X.mg X.base C k m ps ds sp) (hr:Room k X.A) (hd:Vals dvs ds) (ha:PA X (e :: es) t)
  (hst:starEach (e :: es) X.env=(false,eval e X.env) :: starEach es X.env:=by rfl) (hpl:(backTo pos (starEach es X.env)).any (·.1)=false:=by rfl)
  (ht:eval (.Call (.Attribute o m apos) (e :: es) [] pos) X.env=(do
   let ov <- eval o X.env
   standAt apos.atName
   let (f,first) <- holding [ov] (getMethod ov m pl)
   callWith pos f first (backTo pos (starEach (e :: es) X.env)) (backToKw pos (keywordEach [] X.env))):=by rfl) :
  PE X (.Call (.Attribute o m apos) (e :: es) [] pos) (qme C m sp dvs E0 ta t):=by
 obtain ⟨f,fd,F,hm,hb⟩:=D;exact qmg (pl:=pl) he c hm F hr hb hd qul ha hst hpl ht
end
end L2
namespace TB
structure Good (ps:List (Int×Int)):Prop where
 lo:1<=ps.length
 hi:ps.length<=5
 each:∀ (i:Nat) p,ps[i]?=some p->0<=p.1/\1<=p.2
 next:∀ (i:Nat) p q,ps[i]?=some p->ps[i+1]?=some q->p.1<=q.1/\q.2 % p.2=0
def qng (g:Option Int) (last:Int):Prop:=∀ z,g=some z->last<=z
end TB
namespace TB
def cut (d a w:Int):Int:=(d-a) / w*w
def Bd (x:Int):Prop:=-(10 ^ 45)<x/\x<10 ^ 45
def qus (ps:List (Int×Int)):Prop:=∀ (i:Nat) p,ps[i]?=some p->0<=p.1/\p.1<10 ^ 45/\1<=p.2/\p.2<10 ^ 45
theorem qut {x w B:Int} (hw:1<=w) (hB:0<=B) (h1:-B<=x) (h2:x<B):-B<=x / w/\x / w<B:=by
 have hBw:B*1<=B*w:=Int.mul_le_mul_of_nonneg_left hw hB
 constructor
 ·refine Int.le_ediv_of_mul_le (by omega) ?_
  have:-B*w = -(B*w):=Int.neg_mul _ _;omega
 ·exact Int.ediv_lt_of_lt_mul (by omega) (by omega)
theorem qs4 {d a w:Int} (hw:1<=w):cut d a w<=d-a:=by
 have h:=Int.emod_add_mul_ediv (d-a) w;have h1:=Int.emod_nonneg (d-a) (show w≠0 by omega);unfold cut;rw[Int.mul_comm] at h;omega
theorem qs5 {d a w:Int} (hw:1<=w):d-a<cut d a w+w:=by
 have h:=Int.emod_add_mul_ediv (d-a) w;have h1:=Int.emod_lt_of_pos (d-a) (show 0<w by omega);unfold cut;rw[Int.mul_comm] at h;omega
theorem qpq {d a w:Int} (hd:Bd d) (ha:0<=a) (ha':a<10 ^ 45) (hw:1<=w) (hw':w<10 ^ 45):-(4*10 ^ 45)<cut d a w/\cut d a w<4*10 ^ 45:=by
 have h1:=qs4 (d:=d) (a:=a) hw;have h2:=qs5 (d:=d) (a:=a) hw;unfold Bd at hd;omega
theorem qov {ps:List (Int×Int)} {p:Int×Int} (h:ps[ps.length-1]?=some p):ps.getLast?.getD (0,1)=p:=by
 rw[List.getLast?_eq_getElem?,h];rfl
end TB
namespace TB
open PySem L2
def PairAt (H:Hp) (v:V) (p:Int×Int):Prop:=∃ a,v=.ref a/\H a=some (.tup [.int p.1,.int p.2])
def Pairs (H:Hp) (xs:List V) (ps:List (Int×Int)):Prop:=Paired (PairAt H) xs ps
theorem PairAt.same {H H':Hp} (s:Same H H') {v:V} {p:Int×Int}:PairAt H v p->PairAt H' v p:=fun ⟨a,e,h⟩=>⟨a,e,s _ _ h⟩
def quu (H H':Hp):Prop:=∀ b xs,H b=some (.tup xs)->H' b=some (.tup xs)
theorem Same.tup {H H':Hp} (s:Same H H'):quu H H':=λb xs h=>s b _ h
theorem PairAt.tupS {H H':Hp} (s:quu H H') {v:V} {p:Int×Int}:PairAt H v p->PairAt H' v p:=fun ⟨a,e,h⟩=>⟨a,e,s _ _ h⟩
theorem Pairs.tupS {H H':Hp} (s:quu H H'):∀ {xs:List V} {ps:List (Int×Int)},Pairs H xs ps->Pairs H' xs ps
 | _,_,.nil=>.nil
 | _,_,.cons r t=>.cons (r.tupS s) (Pairs.tupS s t)
theorem Pairs.same {H H':Hp} (s:Same H H') {xs:List V} {ps:List (Int×Int)} (h:Pairs H xs ps):Pairs H' xs ps:=Pairs.tupS (Same.tup s) h
theorem Pairs.length {H:Hp}:∀ {xs:List V} {ps:List (Int×Int)},Pairs H xs ps->xs.length=ps.length
 | _,_,.nil=>rfl
 | _,_,.cons _ t=>by simp[Pairs.length t]
theorem Pairs.get {H:Hp}:∀ {xs:List V} {ps:List (Int×Int)} {i:Nat} {x:V},Pairs H xs ps->xs[i]?=some x->∃ p,ps[i]?=some p/\PairAt H x p
 | _,_,_,_,.nil,e=>by simp at e
 | _,_,0,_,.cons r _,e=>by simp at e;subst e;exact ⟨_,rfl,r⟩
 | _,_,i+1,x,.cons _ t,e=>by
  obtain ⟨u,h1,h2⟩:=Pairs.get (i:=i) (x:=x) t (by simpa using e);exact ⟨u,by simpa using h1,h2⟩
theorem Pairs.get' {H:Hp}:∀ {xs:List V} {ps:List (Int×Int)} {i:Nat} {p:Int×Int},Pairs H xs ps->ps[i]?=some p->∃ x,xs[i]?=some x/\PairAt H x p
 | _,_,_,_,.nil,e=>by simp at e
 | _,_,0,_,.cons r _,e=>by simp at e;subst e;exact ⟨_,rfl,r⟩
 | _,_,i+1,x,.cons _ t,e=>by
  obtain ⟨u,h1,h2⟩:=Pairs.get' (i:=i) (p:=x) t (by simpa using e);exact ⟨u,by simpa using h1,h2⟩
def gv:Option Int->V
 | none=>.non
 | some i=>.int i
theorem quv:¬ (("kept_steps" : Str) = "gone_age"):=by decide +kernel
def rf (l:Addr) (g:V):List (Str×V):=qes "gone_age" g (qes "kept_steps" (.ref l) [])
theorem qow (l:Addr) (g:V):(rf l g).lookup ("kept_steps" : Str)=some (.ref l):=by
 unfold rf;rw[qai,if_neg quv,qai,if_pos rfl]
theorem quw (l:Addr) (g:V):(rf l g).lookup ("gone_age" : Str)=some g:=by
 unfold rf;rw[qai,if_pos rfl]
theorem qq9 (l:Addr) (g:V) {m:Str} (h1:¬ m = "gone_age") (h2:¬ m = "kept_steps"):(rf l g).lookup m=none:=by
 unfold rf;rw[qai,if_neg h1,qai,if_neg h2]
 rfl
structure RuleAt (C:Addr) (H:Hp) (r l:Addr) (ps:List (Int×Int)) (g:Option Int):Prop where
 ob:∃ dx,H r=some (.ins C dx (rf l (gv g)))
 ls:∃ xs,H l=some (.lst xs)/\Pairs H xs ps
theorem RuleAt.same {C:Addr} {H H':Hp} {r l:Addr} {ps:List (Int×Int)} {g:Option Int} (s:Same H H') (h:RuleAt C H r l ps g):RuleAt C H' r l ps g:=
 ⟨let ⟨dx,e⟩:=h.ob;⟨dx,s _ _ e⟩,let ⟨xs,e,p⟩:=h.ls;⟨xs,s _ _ e,p.same s⟩⟩
theorem qwc {α:Type} {us:List α} (h:us.length=2):∃ a b,us=[a,b]:=by
 match us,h with
 | [a,b],_=>exact ⟨a,b,rfl⟩
theorem qnh {xs:List V} {v:V} (h:xs[xs.length-1]?=some v):atI xs (-1)=some v:=by
 have hl:xs.length-1<xs.length:=(List.getElem?_eq_some_iff.mp h).1;have e:ixN xs.length (-1)=some (xs.length-1):=by
  unfold ixN;rw[if_neg (by decide),if_pos (by omega)]
  congr 1;omega
 unfold atI;rw[e];exact h
theorem qwd (xs:List V):qlv xs (some 1) none=xs.drop 1:=by
 unfold qlv;rw[HT.sIx_none,show (some (1:Int))=some ((1:Nat):Int) from rfl,HT.sIx_nat]
 by_cases h:1<=xs.length
 ·rw[Nat.min_eq_left h]
  exact List.take_of_length_le (by simp)
 ·have e:xs=[]:=by cases xs with|nil=>rfl|cons _ _=>simp at h
  subst e;rfl
def qjm:Sp:=λvs H Q _=>∃ x,vs=[x]/\((∃ i,x=.int i/\Q (.bl true) H))
def qlh:Sp:=λvs H Q _=>∃ x p,vs=[x]/\PairAt H x p/\Q (.bl true) H
def qe9:Sp:=λvs H Q _=>∃ x p,vs=[x]/\PairAt H x p/\0<=p.1/\1<=p.2/\Q .non H
inductive qcy (vs:List V) (H:Hp) (Q:VK) (E_:XK):Prop
 | mk:∀ x y p q,vs=[x,y]->PairAt H x p->PairAt H y q->1<=p.2->p.1<=q.1->q.2 % p.2=0->Q .non H->qcy vs H Q E_
inductive qeg (vs:List V) (H:Hp) (Q:VK) (E_:XK):Prop
 | mk:∀ l xs ps,vs=[.ref l]->H l=some (.lst xs)->Pairs H xs ps->Good ps->(∀ H',Same H H'->Q .non H')->qeg vs H Q E_
def qhm:Sp:=λvs H Q _=>∃ g last,vs=[gv g,.int last]/\qng g last/\Q .non H
inductive qni (C:Addr) (vs:List V) (H:Hp) (Q:VK) (E_:XK):Prop
 | mk:∀ r l ps g,vs=[.ref r]->RuleAt C H r l ps g->Q (gv g) H->qni C vs H Q E_
open PySem L2
theorem New.after {H H1 H2:Hp} {p:Addr} {o:HO} (s:Same H H1) (n:New H1 H2 p o):New H H2 p o:=⟨s.trans n.same,s.free n.fresh,n.at_⟩
def lw (ps:List (Int×Int)):Int:=(ps.getLast?.getD (0,1)).2
def eV (ps:List (Int×Int)) (g:Option Int) (d:Int):List V:=(ps.map λp=>V.int (cut d p.1 p.2)) ++ [gv (g.map λz=>cut d z (lw ps))]
def GBd (g:Option Int):Prop:=∀ z,g=some z->0<=z/\z<10 ^ 45
structure Pr (ps:List (Int×Int)) (g:Option Int):Prop where
 good:Good ps
 size:qus ps
 gone:∀ p,ps[ps.length-1]?=some p->qng g p.1
 gb:GBd g
theorem Pr.last {ps:List (Int×Int)} {g:Option Int} (P:Pr ps g):∃ p,ps[ps.length-1]?=some p/\lw ps=p.2:=by
 have hl:=P.good.lo;refine ⟨ps[ps.length-1]'(by omega),List.getElem?_eq_getElem _,?_⟩;unfold lw;rw[qov (List.getElem?_eq_getElem _)]
theorem Pairs.but {H H':Hp} {m:Addr} {o:HO} {xs:List V} {ps:List (Int×Int)} (h:Pairs H xs ps) (b:But m H H') (hm:H m=some o) (nt:∀ xs,o≠.tup xs):Pairs H' xs ps:=h.tupS (b.tup hm nt)
theorem qc8 {C dx:Addr} {fs:List (Str×V)}:∀ ys,(HO.ins C dx fs)≠.tup ys:=λ_ z=>by cases z
inductive qhn (C:Addr) (vs:List V) (H:Hp) (Q:VK) (E_:XK):Prop
 | mk:∀ r dx l xs ps g,vs=[.ref r,.ref l,gv g]->H r=some (.ins C dx [])->H l=some (.lst xs)->Pairs H xs ps->Good ps->(∀ p,ps[ps.length-1]?=some p->qng g p.1)->(∀ l' H',H l'=none->RuleAt C H' r l' ps g->But r H H'->Q .non H')->qhn C vs H Q E_
inductive qik (C:Addr) (vs:List V) (H:Hp) (Q:VK) (E_:XK):Prop
 | mk:∀ r l ps g xs,vs=[.ref r]->RuleAt C H r l ps g->H l=some (.lst xs)->(∀ p H',New H H' p (.lst xs)->Q (.ref p) H')->qik C vs H Q E_
def qli:Sp:=λvs H Q _=>∃ n w,vs=[.int n,.int w]/\1<=w/\w<10 ^ 45 /\ -(10 ^ 46)<=n/\n<10 ^ 46/\Q (.int (n / w*w)) H
inductive qgb (C:Addr) (vs:List V) (H:Hp) (Q:VK) (E_:XK):Prop
 | mk:∀ r l ps g d,vs=[.ref r,.int d]->RuleAt C H r l ps g->Pr ps g->Bd d->(∀ H',Same H H'->Q (gv (g.map λz=>cut d z (lw ps))) H')->qgb C vs H Q E_
inductive qgc (C:Addr) (vs:List V) (H:Hp) (Q:VK) (E_:XK):Prop
 | mk:∀ r l ps g d,vs=[.ref r,.int d]->RuleAt C H r l ps g->Pr ps g->Bd d->(∀ p H',New H H' p (.lst (eV ps g d))->Q (.ref p) H')->qgc C vs H Q E_
def dV:V->PyData
 | .int i=>.int i
 | _=>.none
def Ed (v:V):Prop:=v=.non\/∃ i,v=.int i
theorem qux {α β:Type} (f:α->β) (xs:List α) (i:Nat) (x:α) (h:xs[i]?=some x):(xs.take (i+1)).map f=(xs.take i).map f ++ [f x]:=by
 rw[List.take_succ,h]
 simp
open PySem L2
end TB
namespace TB
def mc (p e:Int×Int):Int:=(e.1-p.1+e.2-1) / p.2
open PySem L2
theorem qav {i:Nat} {v:V} {σ:St} {H:Hp} {K:St->Hp->Prop} (h:K (σ.set i (some v)) H):qhw i v σ H K:=h
theorem qra {K:Frag} {a b:Addr} {xs ys:List V} {g:TG} {tc:TT} {te:TE} {Q:VK} {σ:St} {H:Hp} (Pv:Nat->List V->Hp->Prop) (hz:xs.length<=sizeLine) (h0:Pv 0 [] H) (hl:∀ i zs H,Pv i zs H->SqL K H a xs/\SqL K H b ys/\zs.length<=i)
  (hs:∀ i x y zs H p H',xs[i]?=some x->ys[i]?=some y->New H H' p (.tup [x,y])->Pv i zs H->g (.ref p) σ H' λσ4 H4=>tc σ4 H4 λb H5=>if b=true then te σ4 H5 λv H6=>Pv (i+1) (zs ++ [v]) H6 else Pv (i+1) zs H5)
  (hd:∀ i zs H p H',i=min xs.length ys.length->Pv i zs H->New H H' p (.lst zs)->Q (.ref p) H'):qdp (Itz K a b) Q g tc te σ H:=
 qpi Pv hz h0 hl (λi x y zs H p e1 e2 hn p'=>hs i x y zs H p _ e1 e2 (qa0 hn) p') λi zs H p e p' hp=>hd i zs H p _ e p' (qa0 hp)
theorem qgd {lo:Int} {n:Nat} {g:TG} {tc:TT} {te:TE} {Q:VK} {σ:St} {H:Hp} (Pv:Nat->List V->Hp->Prop) (hz:n<=sizeLine) (h0:Pv 0 [] H) (hl:∀ i ys H,Pv i ys H->ys.length<=i)
  (hs:∀ i ys H,i<n->Pv i ys H->g (.int (lo+i)) σ H λσ4 H4=>tc σ4 H4 λb H5=>if b=true then te σ4 H5 λv H6=>Pv (i+1) (ys ++ [v]) H6 else Pv (i+1) ys H5)
  (hd:∀ ys H p H',Pv n ys H->New H H' p (.lst ys)->Q (.ref p) H'):qdp (Itr lo n) Q g tc te σ H:=
 qoe Pv hz h0 hl hs λys H p p' hp=>hd ys H p _ p' (qa0 hp)
open PySem L2
end TB
namespace TB
open PySem L2
def gE:V->V->V
 | .non,y=>y
 | .int i,.int j=>.int (if j>i then j else i)
 | x,_=>x
theorem zip_get {xs ys:List V} {i:Nat} {x y:V} (h1:xs[i]?=some x) (h2:ys[i]?=some y):(List.zipWith gE xs ys)[i]?=some (gE x y):=by
 rw[List.getElem?_zipWith,h1,h2]
theorem quy {α:Type} (xs:List α) (i:Nat) (x:α) (h:xs[i]?=some x):xs.take (i+1)=xs.take i ++ [x]:=by
 rw[List.take_succ,h];rfl
def qge:Sp:=λvs H Q _=>∃ x y,vs=[x,y]/\Ed x/\Ed y/\Q (gE x y) H
theorem quz (g:Option Int):Ed (gv g):=by cases g with
 | none=>exact .inl rfl
 | some z=>exact .inr ⟨z,rfl⟩
def qvi (v:V):Bool:=!decide (v=V.non)
open PySem L2
def EB (x:Int):Prop:=-(4*10 ^ 45)<x/\x<4*10 ^ 45
structure EdS (EV:List V) (es:List Int) (ge:Option Int):Prop where
 eq:EV=es.map V.int ++ [gv ge]
 bd:∀ x∈es,EB x
 gb:∀ z,ge=some z->EB z
theorem EdS.ed {EV:List V} {es:List Int} {ge:Option Int} (h:EdS EV es ge):∀ v∈EV,Ed v:=by
 intro v hv;rw[h.eq] at hv
 rcases List.mem_append.mp hv with z|z
 ·obtain ⟨i,_,e⟩:=List.mem_map.mp z;exact .inr ⟨i,e.symm⟩
 ·rw[List.mem_singleton.mp z];exact quz ge
theorem EdS.of {ps:List (Int×Int)} {g:Option Int} {d:Int} (P:Pr ps g) (hd:Bd d):EdS (eV ps g d) (ps.map λp=>cut d p.1 p.2) (g.map λz=>cut d z (lw ps)):=by
 refine ⟨by unfold eV;rw[List.map_map];rfl,λx hx=>?_,λz hz=>?_⟩
 ·obtain ⟨p,hp,rfl⟩:=List.mem_map.mp hx
  obtain ⟨i,hi,e⟩:=List.getElem_of_mem hp;have hs:=P.size i p (by rw[<- e];exact List.getElem?_eq_getElem hi);exact qpq hd hs.1 hs.2.1 hs.2.2.1 hs.2.2.2
 ·cases g with
  | none=>cases hz
  | some y =>
   cases hz;obtain ⟨p,hp,ep⟩:=P.last;have hs:=P.size _ p hp;have hg:=P.gb y rfl;rw[ep];exact qpq hd hg.1 hg.2 hs.2.2.1 hs.2.2.2
def qu0:Option Int->Option Int->Option Int
 | none,y=>y
 | some i,some j=>some (if j>i then j else i)
 | x,none=>x
theorem qu1 (x y:Option Int):gE (gv x) (gv y)=gv (qu0 x y):=by cases x<;>cases y<;>rfl
theorem EdS.max {E1 E2:List V} {a b:List Int} {g1 g2:Option Int} (h1:EdS E1 a g1) (h2:EdS E2 b g2) (hl:a.length=b.length):EdS (List.zipWith gE E1 E2) (List.zipWith (λi j=>if j>i then j else i) a b) (qu0 g1 g2):=by
 refine ⟨?_,λx hx=>?_,λz hz=>?_⟩
 ·rw[h1.eq,h2.eq,List.zipWith_append (by simpa using hl)]
  congr 1
  ·rw[List.zipWith_map_left,List.zipWith_map_right,List.map_zipWith];rfl
  ·show [gE (gv g1) (gv g2)]=_
   rw[qu1]
 ·obtain ⟨i,hi,e⟩:=List.getElem_of_mem hx
  have hi':=hi;rw[List.length_zipWith] at hi';have hia:i<a.length:=by omega
  have hib:i<b.length:=by omega
  rw[List.getElem_zipWith] at e;have e1:=h1.bd a[i] (List.getElem_mem _);have e2:=h2.bd b[i] (List.getElem_mem _);rw[<- e]
  split
  ·exact e2
  ·exact e1
 ·cases g1 with
  | none=>exact h2.gb z hz
  | some i =>
   cases g2 with
   | none=>exact h1.gb z hz
   | some j =>
    have e1:=h1.gb i rfl;have e2:=h2.gb j rfl;simp only[qu0,Option.some.injEq] at hz;rw[<- hz]
    split
    ·exact e2
    ·exact e1
def wl (ws es:List Int) (t:Int):List Int:=((ws.zip es).filter λx=>decide (t<x.2)).map (·.1)
inductive qgf (vs:List V) (H:Hp) (Q:VK) (E_:XK):Prop
 | mk:∀ (a b:Addr) (xs ys:List V),vs=[.ref a,.ref b]->H a=some (.lst xs)->H b=some (.lst ys)->(∀ v∈xs,Ed v)->(∀ v∈ys,Ed v)->xs.length=ys.length->xs.length<=1000->(∀ p H',New H H' p (.lst (List.zipWith gE xs ys))->Q (.ref p) H')->qgf vs H Q E_
theorem qeo {K:Frag} {H H':Hp} {a:Addr} {xs:List V} (s:Same H H') (h:SqL K H a xs):SqL K H' a xs:=by
 rcases h with (h|⟨o,h⟩)|h
 ·exact .inl (.inl (s _ _ h))
 ·exact .inl (.inr ⟨o,s _ _ h⟩)
 ·exact .inr h
theorem qil:∀ es:List Int,(es.map V.int).filter qvi=es.map V.int
 | []=>rfl
 | e :: r=>by rw[List.map_cons,List.filter_cons_of_pos (by rfl),qil r]
theorem known (es:List Int) (ge:Option Int):(es.map V.int ++ [gv ge]).filter qvi=(es ++ ge.toList).map V.int:=by
 rw[List.filter_append,qil,List.map_append]
 cases ge<;>rfl
theorem qho {K:Frag} {a:Addr} {xs:List V} {g:TG} {tc:TT} {te:TE} {Q:VK} {σ:St} {H:Hp} (Pv:Nat->List V->Hp->Prop) (hz:xs.length<=sizeLine) (h0:Pv 0 [] H) (hl:∀ i ys H,Pv i ys H->SqL K H a xs/\ys.length<=i)
  (hs:∀ i x ys H,xs[i]?=some x->Pv i ys H->g x σ H λσ4 H4=>tc σ4 H4 λb H5=>if b=true then te σ4 H5 λv H6=>Pv (i+1) (ys ++ [v]) H6 else Pv (i+1) ys H5)
  (hd:∀ ys H p H',Pv xs.length ys H->New H H' p (.lst ys)->Q (.ref p) H'):qdp (Itl K a) Q g tc te σ H:=
 qms Pv hz h0 hl hs λys H p p' hp=>hd ys H p _ p' (qa0 hp)
open PySem L2
def qtm (rs:List (Int×Int)):List Int:=rs.map λp=>p.1
open PySem L2
def rof (ru:Addr) (day:Int) (le dy dh:Addr):List (Str×V):=qes "cell_heaps" (.ref dh) (qes "whole_ones" (.ref dy) (qes "kept_edges" (.ref le) (qes "kept_day" (.int day) (qes "kept_rule" (.ref ru) []))))
section
variable (ru:Addr) (day:Int) (le dy dh:Addr)
theorem qs6:(rof ru day le dy dh).lookup ("kept_edges" : Str)=some (.ref le):=by
 unfold rof;rw[qai,if_neg (by decide +kernel),qai,if_neg (by decide +kernel),qai,if_pos rfl]
end
abbrev KV:=List (List Key×V)
structure qrb where
 ru:Addr
 rl:Addr
 le:Addr
 dy:Addr
 dh:Addr
 ps:List (Int×Int)
 g:Option Int
 day:Int
 es:List Int
 ge:Option Int
 Y:KV
 Z:KV
structure RollAt (C R:Addr) (H:Hp) (ro:Addr) (D:qrb):Prop where
 ob:∃ dx,H ro=some (.ins C dx (rof D.ru D.day D.le D.dy D.dh))
 rule:RuleAt R H D.ru D.rl D.ps D.g
 ed:H D.le=some (.lst (D.es.map V.int ++ [gv D.ge]))
 yo:H D.dy=some (.dT D.Y)
 he:H D.dh=some (.dT D.Z)
 ne:D.dy≠D.dh
theorem RollAt.same {C R:Addr} {H H':Hp} {ro:Addr} {D:qrb} (s:Same H H') (h:RollAt C R H ro D):RollAt C R H' ro D:=
 ⟨let ⟨dx,e⟩:=h.ob;⟨dx,s _ _ e⟩,h.rule.same s,s _ _ h.ed,s _ _ h.yo,s _ _ h.he,h.ne⟩
theorem RuleAt.but2 {C:Addr} {H H':Hp} {r l a:Addr} {ps:List (Int×Int)} {g:Option Int} {o:HO} (h:RuleAt C H r l ps g) (b:But a H H') (ha:H a=some o) (nt:∀ xs,o≠.tup xs) (nl:∀ xs,o≠.lst xs) (hr:r≠a):RuleAt C H' r l ps g:=by
 obtain ⟨dx,e⟩:=h.ob;obtain ⟨xs,e2,p⟩:=h.ls;exact ⟨⟨dx,b _ _ e hr⟩,xs,b _ _ e2 (qa6 e2 ha (λz=>nl xs z.symm)),p.but b ha nt⟩
def qwe (a b:Addr) (H H':Hp):Prop:=∀ c o,H c=some o->c≠a->c≠b->H' c=some o
def qvj (ru rl le dy dh:Addr) (ps:List (Int×Int)) (g:Option Int) (day:Int):qrb:=⟨ru,rl,le,dy,dh,ps,g,day,ps.map (λp=>cut day p.1 p.2),g.map (λz=>cut day z (lw ps)),[],[]⟩
def kk (a b:Int):List Key:=[.inl a,.inl b]
inductive qfi (C R:Addr) (vs:List V) (H:Hp) (Q:VK) (E_:XK):Prop
 | mk:∀ (ro dx ru rl:Addr) (ps:List (Int×Int)) (g:Option Int) (day:Int),vs=[.ref ro,.ref ru,.int day]->H ro=some (.ins C dx [])->RuleAt R H ru rl ps g->Pr ps g->Bd day->(∀ le dy dh H',H le=none->H dy=none->H dh=none->RollAt C R H' ro (qvj ru rl le dy dh ps g day)->But ro H H'->Q .non H')->qfi C R vs H Q E_
end TB
namespace TX
def sg (n:Int):List Nat:=(toString n).toList.map Char.toNat
def qts (x:List Nat):List Nat:=if x.take 1=[45] then x.drop 1 else x
def qrc (c:Nat):Prop:=48<=c/\c<=57
instance (c:Nat):Decidable (qrc c):=inferInstanceAs (Decidable (_/\_))
def Good (x:List Nat):Prop:=qts x≠[]/\(qts x).length<=1000/\¬ ((qts x).head?=some 48/\x≠[48])/\∀ c∈qts x,qrc c
instance (x:List Nat):Decidable (Good x):=inferInstanceAs (Decidable (_/\_/\_/\_))
end TX
namespace TX
open L2
theorem qhp {c:Nat}:∀ {x:List Nat},c ∉ x->qar c x=[x]
 | [],_=>rfl
 | a :: l,h=>by
  have ha:a≠c:=λz=>h (by rw[z];simp)
  have ih:=qhp (c:=c) (x:=l) λz=>h (List.mem_cons_of_mem _ z)
  rw[show qar c (a :: l)=(if a=c then [] :: qar c l else match qar c l with|[]=>[[a]]|p :: ps=>(a :: p) :: ps) from rfl,if_neg ha,ih]
theorem qim (c:Nat) (y:List Nat):∀ x:List Nat,qar c (x ++ c :: y)=qar c x ++ qar c y
 | []=>by
  rw[List.nil_append,show qar c (c :: y)=(if c=c then [] :: qar c y else match qar c y with|[]=>[[c]]|p :: ps=>(c :: p) :: ps) from rfl,if_pos rfl]
  rfl
 | a :: l=>by
  have ih:=qim c y l;rw[List.cons_append,show qar c (a :: (l ++ c :: y))=(if a=c then [] :: qar c (l ++ c :: y) else match qar c (l ++ c :: y) with|[]=>[[a]]|p :: ps=>(a :: p) :: ps) from rfl,ih];rw[show qar c (a :: l)=(if a=c then [] :: qar c l else match qar c l with|[]=>[[a]]|p :: ps=>(a :: p) :: ps) from rfl]
  by_cases h:a=c
  ·rw[if_pos h,if_pos h];rfl
  ·rw[if_neg h,if_neg h]
   cases hs:qar c l with
   | nil=>exact absurd hs (qm2 c l)
   | cons p ps=>rfl
theorem split_join {c:Nat}:∀ {ws:List (List Nat)},ws≠[]->(∀ w∈ws,c ∉ w)->qar c (qcw [c] ws)=ws
 | [],h,_=>absurd rfl h
 | [w],_,h=>qhp (h w (by simp))
 | w :: v :: ws,_,h=>by
  have ih:=split_join (c:=c) (ws:=v :: ws) (by simp) λu hu=>h u (List.mem_cons_of_mem _ hu)
  have e:qcw [c] (w :: v :: ws)=w ++ c :: qcw [c] (v :: ws):=by
   show w ++ [c] ++ qcw [c] (v :: ws)=_
   simp
  rw[e,qim,ih,qhp (h w (by simp))]
  rfl
end TX
namespace TB
open PySem L2 TX
def OddV (H:Hp) (v:V):Prop:=v=.non\/(∃ i,v=.int i)\/(∃ b,v=.bl b)\/(∃ p xs,v=.ref p/\H p=some (.tup xs))\/∃ p xs,v=.ref p/\H p=some (.lst xs)
def TextV (H:Hp) (v:V):Prop:=(∃ x,v=.str (S x)/\x.length<=3000)\/OddV H v
theorem TextV.same {H H':Hp} {v:V} (h:TextV H v) (s:Same H H'):TextV H' v:=by
 rcases h with h|h|h|h|⟨p,xs,e,h⟩|⟨p,xs,e,h⟩
 ·exact .inl h
 ·exact .inr (.inl h)
 ·exact .inr (.inr (.inl h))
 ·exact .inr (.inr (.inr (.inl h)))
 ·exact .inr (.inr (.inr (.inr (.inl ⟨p,xs,e,s _ _ h⟩))))
 ·exact .inr (.inr (.inr (.inr (.inr ⟨p,xs,e,s _ _ h⟩))))
theorem OddV.ty {K:Frag} {H:Hp} {v:V} (h:OddV H v):∃ t,TyOf K H v t/\PySem.W.kitOne K t (.type "str")=some false:=by
 rcases h with rfl|⟨i,rfl⟩|⟨b,rfl⟩|⟨p,xs,rfl,h⟩|⟨p,xs,rfl,h⟩
 ·exact ⟨_,.non,rfl⟩
 ·exact ⟨_,.int _,rfl⟩
 ·exact ⟨_,.bl _,rfl⟩
 ·exact ⟨_,.tup h,rfl⟩
 ·exact ⟨_,.lst h,rfl⟩
open PySem L2 TX
def qwf (x:List Nat):Prop:=1<=x.length/\x.length<=1000/\(x=[48]\/(x.head?≠some 48/\∀ c∈x,qrc c))
instance (x:List Nat):Decidable (qwf x):=inferInstanceAs (Decidable (_/\_/\_))
open PySem L2
abbrev tS (w:List Nat):V:=V.str (S w)
def kS (x:List Nat):Key:=Sum.inr (S x)
theorem qnj {a b:List Nat} (h:kS a=kS b):a=b:=qhh (Sum.inr.inj h)
def Ents {α:Type} (R:V->α->Prop) (kvs:List (Key×V)) (E:List (List Nat×α)):Prop:=Paired (fun (p:Key×V) (e:List Nat×α)=>p.1=kS e.1/\R p.2 e.2) kvs E
section
variable {α:Type} {R R':V->α->Prop} {kvs:List (Key×V)} {E:List (List Nat×α)}
theorem Ents.keys (h:Ents R kvs E):kvs.map (·.1)=(E.map (·.1)).map (λq=>Sum.inr (S q)):=by
 unfold Ents at h
 induction h with
 | nil=>rfl
 | cons a t ih=>rw[List.map_cons,List.map_cons,List.map_cons,ih,a.1];rfl
theorem Ents.len (h:Ents R kvs E):kvs.length=E.length:=by have:=congrArg List.length h.keys;simpa using this
theorem Ents.imp (h:Ents R kvs E) (f:∀ v a,R v a->R' v a):Ents R' kvs E:=by
 unfold Ents at h ⊢
 induction h with
 | nil=>exact .nil
 | cons a t ih=>exact .cons ⟨a.1,f _ _ a.2⟩ ih
theorem qin (p:Key×V) (l:List (Key×V)) (k:Key):qi3 (p :: l) k=if p.1=k then some p.2 else qi3 l k:=by
 unfold qi3;rw[List.find?_cons]
 by_cases e:p.1=k
 ·rw[if_pos e,decide_eq_true e];rfl
 ·rw[if_neg e,decide_eq_false e]
theorem Ents.hasn (h:Ents R kvs E) {x:List Nat} (hx:x ∉ E.map (·.1)):qi3 kvs (kS x)=none:=by
 unfold Ents at h
 induction h with
 | nil=>rfl
 | @cons p e ps es a t ih =>
  rw[List.map_cons,List.mem_cons,not_or] at hx;rw[qin,if_neg (λz=>hx.1 (qnj (z.symm.trans a.1))),ih hx.2]
theorem Ents.has (h:Ents R kvs E) {x:List Nat} (hx:x∈E.map (·.1)):∃ v a,qi3 kvs (kS x)=some v/\(x,a)∈E/\R v a:=by
 unfold Ents at h
 induction h with
 | nil=>cases hx
 | @cons p e ps es a t ih =>
  rw[qin]
  by_cases z:p.1=kS x
  ·have ex:e.1=x:=qnj (a.1.symm.trans z)
   rw[if_pos z];exact ⟨_,e.2,rfl,by rw[<- ex];exact List.mem_cons_self,a.2⟩
  ·rw[List.map_cons,List.mem_cons] at hx
   rcases hx with e'|hx
   ·exact absurd (by rw[a.1,e']) z
   ·rw[if_neg z]
    obtain ⟨v,b,h1,h2,h3⟩:=ih hx;exact ⟨v,b,h1,List.mem_cons_of_mem _ h2,h3⟩
theorem Ents.snoc {v:V} {a:α} {x:List Nat} (r:R v a):∀ {kvs:List (Key×V)} {E:List (List Nat×α)},Ents R kvs E->Ents R (kvs ++ [(kS x,v)]) (E ++ [(x,a)])
 | _,_,.nil=>.cons ⟨rfl,r⟩ .nil
 | _,_,.cons b t=>.cons b (Ents.snoc r t)
theorem Ents.put (h:Ents R kvs E) {x:List Nat} (hx:x ∉ E.map (·.1)) {v:V} {a:α} (r:R v a):Ents R (putK kvs (kS x) v) (E ++ [(x,a)]):=by
 have e:putK kvs (kS x) v=kvs ++ [(kS x,v)]:=by
  unfold putK;rw[if_neg];intro z;obtain ⟨p,hp,hk⟩:=List.any_eq_true.mp z;have:p.1∈kvs.map (·.1):=List.mem_map.mpr ⟨p,hp,rfl⟩;rw[h.keys,of_decide_eq_true hk] at this;obtain ⟨y,hy,ey⟩:=List.mem_map.mp this;exact hx ((qnj (show kS y=kS x from ey)) ▸ hy)
 rw[e];exact h.snoc r
theorem Ents.get:∀ {kvs:List (Key×V)} {E:List (List Nat×α)} {i:Nat} {k:Key} {v:V},Ents R kvs E->kvs[i]?=some (k,v)->∃ e,E[i]?=some e/\k=kS e.1/\R v e.2
 | _,_,_,_,_,.nil,h=>by simp at h
 | _,_,0,_,_,.cons b t,h=>by cases h;exact ⟨_,rfl,b⟩
 | _,_,i+1,_,_,.cons b t,h=>Ents.get (i:=i) t h
end
abbrev Rows:=List (List Nat×List (List Nat))
def bof (ru:Addr) (day:Int) (le dm dr:Addr):List (Str×V):=qes "kept_rolls" (.ref dr) (qes "kept_marks" (.ref dm) (qes "kept_edges" (.ref le) (qes "kept_day" (.int day) (qes "kept_rule" (.ref ru) []))))
section
variable (ru:Addr) (day:Int) (le dm dr:Addr)
theorem qs7:(bof ru day le dm dr).lookup ("kept_rule" : Str)=some (.ref ru):=by
 unfold bof;rw[qai,if_neg (by decide +kernel),qai,if_neg (by decide +kernel),qai,if_neg (by decide +kernel),qai,if_neg (by decide +kernel),qai,if_pos rfl]
theorem qs8:(bof ru day le dm dr).lookup ("kept_day" : Str)=some (.int day):=by
 unfold bof;rw[qai,if_neg (by decide +kernel),qai,if_neg (by decide +kernel),qai,if_neg (by decide +kernel),qai,if_pos rfl]
theorem qs9:(bof ru day le dm dr).lookup ("kept_edges" : Str)=some (.ref le):=by
 unfold bof;rw[qai,if_neg (by decide +kernel),qai,if_neg (by decide +kernel),qai,if_pos rfl]
theorem qpr:(bof ru day le dm dr).lookup ("kept_marks" : Str)=some (.ref dm):=by
 unfold bof;rw[qai,if_neg (by decide +kernel),qai,if_pos rfl]
theorem qkn:(bof ru day le dm dr).lookup ("kept_rolls" : Str)=some (.ref dr):=by
 unfold bof;rw[qai,if_pos rfl]
theorem qg2 {m:Str} (h1:¬ m = "kept_rolls") (h2:¬ m = "kept_marks") (h3:¬ m = "kept_edges") (h4:¬ m = "kept_day") (h5:¬ m = "kept_rule"):(bof ru day le dm dr).lookup m=none:=by
 unfold bof;rw[qai,if_neg h1,qai,if_neg h2,qai,if_neg h3,qai,if_neg h4,qai,if_neg h5];rfl
end
structure BookD where
 ru:Addr
 rl:Addr
 le:Addr
 dm:Addr
 dr:Addr
 ps:List (Int×Int)
 g:Option Int
 day:Int
def TxtL (H:Hp) (v:V) (ms:List (List Nat)):Prop:=∃ a,v=.ref a/\H a=some (.lst (ms.map tS))
theorem TxtL.same {H H':Hp} {v:V} {ms:List (List Nat)} (h:TxtL H v ms) (s:Same H H'):TxtL H' v ms:=let ⟨a,e,q⟩:=h;⟨a,e,s _ _ q⟩
end TB
local macro_rules | `(tactic| walk_at "same") => `(tactic| first | exact L2.Same.refl _ | assumption | exact L2.New.same (by assumption) | (refine L2.qqm ?_ (by assumption); walk_at "same") | (refine L2.Same.trans ?_ (by assumption); walk_at "same"))
local macro_rules | `(tactic| walk_at "fact") => `(tactic| first | assumption | exact L2.New.at_ (by assumption) | (refine L2.qsj (by assumption) ?_; walk_at "fact") | (refine L2.qql (by assumption) ?_; walk_at "fact"))
local macro_rules | `(tactic| walk_at "sq") => `(tactic| first | assumption | exact L2.SqL.of (by walk_at "fact") | exact L2.SqT.of (by walk_at "fact") | exact Or.inl (L2.SqL.of (by walk_at "fact")) | exact Or.inr (L2.SqT.of (by walk_at "fact")) | exact Or.inl (by assumption) | walk_at "fact")
local macro_rules | `(tactic| walk_at "c") => `(tactic| first
 | ((with_reducible show _<=PySem.sizeLine);first|exact Nat.le_of_lt (L2.qb6 (Nat.le_of_ble_eq_true rfl))|exact Nat.le_of_lt (L2.qb6 (by omega))|exact Nat.le_of_lt (L2.qb6 (by simp only[List.length_map,List.length_append,List.length_cons,List.length_nil];omega)))
 | ((with_reducible show _<PySem.sizeLine);first|exact L2.qb6 (by omega)|exact L2.qb6 (by simp only[List.length_map,List.length_append,List.length_cons,List.length_nil];omega))
 | decide|omega|(dsimp only;first|decide|omega)|(simp only[List.length_map,List.length_append,List.length_cons,List.length_nil];omega)
 | ((with_reducible refine And.intro ?_ ?_)<;>walk_at "c")
 | (refine And.intro ?_ ?_<;>walk_at "c")|(refine Or.inl ?_;walk_at "c")|(refine Or.inr ?_;walk_at "c"))
local macro_rules | `(tactic| walk_at "at") => `(tactic| first | rfl | assumption | exact L2.qmi (by assumption) | exact TB.qnh (by assumption))
local macro_rules | `(tactic| walk_at "ty") => `(tactic| first | exact L2.TyOf.int _ | exact L2.TyOf.bl _ | exact L2.TyOf.non | exact L2.TyOf.str _ | exact L2.TyOf.lst (by walk_at "fact") | exact L2.TyOf.tup (by walk_at "fact"))
local macro_rules | `(tactic| walk_at "kit") => `(tactic| first | exact L2.qf6 _ | exact L2.qfh _ | exact L2.qj8 _ | exact L2.kit_tuple _ | rfl)
local macro_rules | `(tactic| walk_at "r1") => `(tactic| first
 | refine L2.tVarS.mk _ rfl ?_
 | refine L2.rI0S.mk _ _ rfl rfl ?_
 | refine L2.rIxLS.mk _ _ _ _ rfl rfl (by walk_at "sq") (by walk_at "at") ?_
 | refine L2.rIxTS.mk _ _ _ _ rfl rfl (by walk_at "sq") (by walk_at "at") ?_
 | refine L2.rIS.mk _ _ rfl rfl (by walk_at "c") ?_
 | refine L2.tBS.mk _ rfl ?_
 | refine L2.tAndVS.mk _ rfl ?_
 | refine L2.tOrVS.mk _ rfl ?_
 | refine L2.tNotVS.mk _ rfl ?_
 | refine L2.rUS.mk _ rfl ?_
 | refine L2.tPartS.mk _ rfl ?_
 | refine L2.rSlLNS.mk _ _ rfl (by walk_at "sq") ?_
 | refine L2.rAppendNS.mk _ _ _ rfl rfl (by walk_at "fact") (by walk_at "c") ?_
 | refine Exists.intro _ (And.intro rfl ?_)
 | refine Exists.intro _ (Exists.intro _ (And.intro rfl (And.intro rfl ?_)))
 | refine And.intro rfl ?_
 | refine Exists.intro _ (Exists.intro _ (And.intro rfl (And.intro (by walk_at "sq") ?_)))
 | refine Exists.intro _ (Exists.intro _ (Exists.intro _ (Exists.intro _ (And.intro rfl (And.intro rfl (And.intro (by walk_at "sq") (And.intro (by walk_at "at") ?_)))))))
 | refine And.intro (Or.inl ⟨rfl,_,L2.SqL.of (by walk_at "fact")⟩) ?_
 | refine Exists.intro _ (Exists.intro _ (Exists.intro _ (And.intro rfl (And.intro rfl (And.intro (by walk_at "fact") (And.intro (by walk_at "c") ?_))))))
 | refine Exists.intro _ (Exists.intro _ (Exists.intro _ (Exists.intro _ (And.intro rfl (And.intro (by walk_at "ty") (And.intro (by walk_at "kit") ?_))))))
 | refine Exists.intro _ (Exists.intro _ (And.intro rfl ?_))
 | refine And.intro (by walk_at "c") ?_
 | refine L2.qef ?_
 | refine L2.qe1 ?_)
local macro_rules | `(tactic| walk_at "n") => `(tactic| simp only [L2.tNil, List.cons_append, List.nil_append, List.append_nil])
local macro_rules | `(tactic| walk_at "r") => `(tactic| (walk_at "r1"; repeat walk_at "r1"))
namespace TB
open PySem L2
def top (i:Nat):Stmt:=PySem.Challenge.pw_thinbook_k64_names_chosen.main.body.getD i (.Pass ⟨0,0,0,0⟩)
abbrev qc9:Stmt:=(top 9)
abbrev qdt:Stmt:=(top 10)
abbrev qda:Stmt:=(top 12)
abbrev qdb:Stmt:=(top 13)
abbrev qbl:Stmt:=(top 14)
abbrev qdu:Stmt:=(top 15)
abbrev qew:Stmt:=(top 16)
abbrev qd9:Stmt:=(top 17)
abbrev qex:Stmt:=(top 18)
abbrev qey:Stmt:=(top 20)
abbrev qfp:Stmt:=(top 21)
abbrev qcp:Stmt:=(inClass (top 23) 0)
abbrev qea:Stmt:=(inClass (top 23) 1)
abbrev qa8:Stmt:=(inClass (top 23) 2)
abbrev qbp:Stmt:=(inClass (top 23) 3)
abbrev qbu:Stmt:=(inClass (top 23) 4)
abbrev qdg:Stmt:=(inClass (top 23) 5)
abbrev qeb:Stmt:=(inClass (top 23) 6)
abbrev qcz:Stmt:=(inClass (top 23) 7)
abbrev qc0:Stmt:=(inClass (top 23) 8)
abbrev qc1:Stmt:=(inClass (top 23) 9)
abbrev qgg:Stmt:=(top 24)
abbrev qdv:Stmt:=(top 27)
abbrev qbd:Stmt:=(top 28)
abbrev qbb:Stmt:=(top 29)
abbrev qbv:Stmt:=(top 30)
abbrev qb7:Stmt:=(top 31)
abbrev qb2:Stmt:=(inClass (top 32) 0)
abbrev qb8:Stmt:=(inClass (top 32) 1)
abbrev qcq:Stmt:=(inClass (top 32) 2)
abbrev qko:Stmt:=(top 34)
abbrev qbh:Stmt:=(top 39)
abbrev qdw:Stmt:=(top 40)
abbrev qdx:Stmt:=(top 41)
abbrev qdc:Stmt:=(top 42)
abbrev qb9:Stmt:=(top 43)
abbrev qep:Stmt:=(top 44)
abbrev qbw:Stmt:=(top 47)
abbrev qcr:Stmt:=(inClass (top 48) 0)
abbrev qbr:Stmt:=(inClass (top 48) 1)
abbrev qay:Stmt:=(inClass (top 48) 2)
abbrev qbx:Stmt:=(inClass (top 48) 3)
abbrev qby:Stmt:=(inClass (top 48) 5)
abbrev qca:Stmt:=(inClass (top 48) 14)
abbrev qcb:Stmt:=(inClass (top 48) 15)
abbrev qdh:Stmt:=(inClass (top 48) 16)
abbrev qbm:Stmt:=(top 50)
abbrev qcc:Stmt:=(top 51)
abbrev qcs:Stmt:=(top 52)
abbrev qct:Stmt:=(top 53)
abbrev qcu:Stmt:=(top 54)
abbrev qb3:Stmt:=(top 55)
abbrev qbn:Stmt:=(top 56)
abbrev qbz:Stmt:=(top 57)
abbrev qlj:Stmt:=(top 58)
theorem sc_is_whole:qal ["thing"] ["thing"] (qab qc9):=⟨rfl,rfl,rfl,by decide +kernel,rfl,by decide +kernel,by decide +kernel⟩
theorem sc_floored:qal ["number", "width"] ["number", "width"] (qab qdt):=⟨rfl,rfl,rfl,by decide +kernel,rfl,by decide +kernel,by decide +kernel⟩
theorem sc_gone_cut:qal ["rule", "day", "gone"] ["rule", "day"] (qab qda):=⟨rfl,rfl,rfl,by decide +kernel,rfl,by decide +kernel,by decide +kernel⟩
theorem sc_edges_at:qal ["rule", "day", "cuts"] ["rule", "day"] (qab qdb):=⟨rfl,rfl,rfl,by decide +kernel,rfl,by decide +kernel,by decide +kernel⟩
theorem sc_greater_edge:qal ["one", "other"] ["one", "other"] (qab qbl):=⟨rfl,rfl,rfl,by decide +kernel,rfl,by decide +kernel,by decide +kernel⟩
theorem sc_greater:qal ["one", "other"] ["one", "other"] (qab qdu):=⟨rfl,rfl,rfl,by decide +kernel,rfl,by decide +kernel,by decide +kernel⟩
theorem sc_Roll_init:qal ["self", "rule", "day"] ["self", "rule", "day"] (qab qcp):=⟨rfl,rfl,rfl,by decide +kernel,rfl,by decide +kernel,by decide +kernel⟩
theorem sc_begun:qal ["rule", "day", "edges", "roll"] ["rule", "day", "edges"] (qab qgg):=⟨rfl,rfl,rfl,by decide +kernel,rfl,by decide +kernel,by decide +kernel⟩
theorem sc_is_step:qal ["thing"] ["thing"] (qab qdv):=⟨rfl,rfl,rfl,by decide +kernel,rfl,by decide +kernel,by decide +kernel⟩
theorem sc_check_one_step:qal ["step"] ["step"] (qab qbd):=⟨rfl,rfl,rfl,by decide +kernel,rfl,by decide +kernel,by decide +kernel⟩
theorem sc_check_next_step:qal ["step", "behind"] ["step", "behind"] (qab qbb):=⟨rfl,rfl,rfl,by decide +kernel,rfl,by decide +kernel,by decide +kernel⟩
theorem sc_check_steps:qal ["steps", "step", "behind"] ["steps"] (qab qbv):=⟨rfl,rfl,rfl,by decide +kernel,rfl,by decide +kernel,by decide +kernel⟩
theorem sc_check_gone:qal ["gone", "last_age"] ["gone", "last_age"] (qab qb7):=⟨rfl,rfl,rfl,by decide +kernel,rfl,by decide +kernel,by decide +kernel⟩
theorem sc_Rule_init:qal ["self", "steps", "gone", "kept"] ["self", "steps", "gone"] (qab qb2):=⟨rfl,rfl,rfl,by decide +kernel,rfl,by decide +kernel,by decide +kernel⟩
theorem sc_Rule_steps:qal ["self"] ["self"] (qab qb8):=⟨rfl,rfl,rfl,by decide +kernel,rfl,by decide +kernel,by decide +kernel⟩
theorem sc_Rule_gone:qal ["self"] ["self"] (qab qcq):=⟨rfl,rfl,rfl,by decide +kernel,rfl,by decide +kernel,by decide +kernel⟩
theorem sc_is_small_word:qal ["thing", "longest"] ["thing", "longest"] (qab qbh):=⟨rfl,rfl,rfl,by decide +kernel,rfl,by decide +kernel,by decide +kernel⟩
theorem sc_is_name:qal ["thing"] ["thing"] (qab qdw):=⟨rfl,rfl,rfl,by decide +kernel,rfl,by decide +kernel,by decide +kernel⟩
theorem sc_is_mark:qal ["thing"] ["thing"] (qab qdx):=⟨rfl,rfl,rfl,by decide +kernel,rfl,by decide +kernel,by decide +kernel⟩
theorem sc_words_of:qal ["text"] ["text"] (qab qdc):=⟨rfl,rfl,rfl,by decide +kernel,rfl,by decide +kernel,by decide +kernel⟩
theorem sc_is_barring:qal ["word"] ["word"] (qab qb9):=⟨rfl,rfl,rfl,by decide +kernel,rfl,by decide +kernel,by decide +kernel⟩
theorem sc_sieve:qal ["text", "words", "wanted", "barred", "lets"] ["text"] (qab qep):=⟨rfl,rfl,rfl,by decide +kernel,rfl,by decide +kernel,by decide +kernel⟩
theorem sc_check_marks:qal ["marks"] ["marks"] (qab qbw):=⟨rfl,rfl,rfl,by decide +kernel,rfl,by decide +kernel,by decide +kernel⟩
theorem sc_Book_init:qal ["self", "rule", "day"] ["self", "rule", "day"] (qab qcr):=⟨rfl,rfl,rfl,by decide +kernel,rfl,by decide +kernel,by decide +kernel⟩
theorem sc_Book_enrol:qal ["self", "name", "marks", "told"] ["self", "name", "marks"] (qab qbr):=⟨rfl,rfl,rfl,by decide +kernel,rfl,by decide +kernel,by decide +kernel⟩
theorem sc_Book_check_enrolled:qal ["self", "name"] ["self", "name"] (qab qay):=⟨rfl,rfl,rfl,by decide +kernel,rfl,by decide +kernel,by decide +kernel⟩
theorem sc_Book_chosen:qal ["self", "lets"] ["self", "lets"] (qab qby):=⟨rfl,rfl,rfl,by decide +kernel,rfl,by decide +kernel,by decide +kernel⟩
theorem sc_Book_names:qal ["self"] ["self"] (qab qca):=⟨rfl,rfl,rfl,by decide +kernel,rfl,by decide +kernel,by decide +kernel⟩
theorem sc_Book_marks:qal ["self", "name"] ["self", "name"] (qab qcb):=⟨rfl,rfl,rfl,by decide +kernel,rfl,by decide +kernel,by decide +kernel⟩
theorem sc__law_cell_at:qal ["_law_script", "_law_k"] ["_law_script", "_law_k"] (qab qbm):=⟨rfl,rfl,rfl,by decide +kernel,rfl,by decide +kernel,by decide +kernel⟩
theorem sc__law_mixed:qal ["_law_draw", "_law_k", "_law_number"] ["_law_draw", "_law_k"] (qab qcc):=⟨rfl,rfl,rfl,by decide +kernel,rfl,by decide +kernel,by decide +kernel⟩
theorem sc__law_name:qal ["_law_draw", "_law_k", "_law_some", "_law_length", "_law_body", "_law_at"] ["_law_draw", "_law_k"] (qab qcs):=⟨rfl,rfl,rfl,by decide +kernel,rfl,by decide +kernel,by decide +kernel⟩
theorem sc__law_mark:qal ["_law_draw", "_law_k", "_law_some", "_law_length", "_law_body", "_law_at"] ["_law_draw", "_law_k"] (qab qct):=⟨rfl,rfl,rfl,by decide +kernel,rfl,by decide +kernel,by decide +kernel⟩
theorem sc__law_book:qal ["_law_script", "_law_one", "_law_book_here", "_law_kept", "_law_k", "_law_number", "_law_name_here", "_law_marks"] ["_law_script"] (qab qcu):=⟨rfl,rfl,rfl,by decide +kernel,rfl,by decide +kernel,by decide +kernel⟩
theorem sc__law_own:qal ["_law_mark_here", "_law_least", "_law_heard", "_law_lets"] ["_law_mark_here", "_law_least", "_law_heard"] (qab qb3):=⟨rfl,rfl,rfl,by decide +kernel,rfl,by decide +kernel,by decide +kernel⟩
theorem sc__law_by_text:qal ["_law_book_here", "_law_kept", "_law_wanted_one", "_law_signs", "_law_text", "_law_due", "_law_name_here", "_law_found"] ["_law_book_here", "_law_kept", "_law_wanted_one", "_law_signs"] (qab qbn):=⟨rfl,rfl,rfl,by decide +kernel,rfl,by decide +kernel,by decide +kernel⟩
theorem sc__law_by_own:qal ["_law_book_here", "_law_kept", "_law_mark_here", "_law_least", "_law_heard", "_law_lets", "_law_due", "_law_marks"] ["_law_book_here", "_law_kept", "_law_mark_here", "_law_least"] (qab qbz):=⟨rfl,rfl,rfl,by decide +kernel,rfl,by decide +kernel,by decide +kernel⟩
theorem sc_law:qal ["_law_script", "_law_book_here", "_law_kept", "_law_one", "_law_k", "_law_number", "_law_marks", "_law_signs", "_law_name_here"] ["_law_script"] (qab qlj):=⟨rfl,rfl,rfl,by decide +kernel,rfl,by decide +kernel,by decide +kernel⟩
structure Txt (K:Frag) (mg:Str->Option Value) (C_Roll:Addr) (C_Rule:Addr) (C_Book:Addr) (C_BookError:Addr) (C_NoNumber:Addr) (C_NoRule:Addr) (C_Backward:Addr) (C_NoName:Addr) (C_NoMark:Addr):Prop where
 f_is_whole:∃ f fd,Fun K "is_whole" "is_whole" qc9 f fd/\mg "is_whole" = some (.ref f)
 f_floored:∃ f fd,Fun K "floored" "floored" qdt f fd/\mg "floored" = some (.ref f)
 f_gone_cut:∃ f fd,Fun K "gone_cut" "gone_cut" qda f fd/\mg "gone_cut" = some (.ref f)
 f_edges_at:∃ f fd,Fun K "edges_at" "edges_at" qdb f fd/\mg "edges_at" = some (.ref f)
 f_greater_edge:∃ f fd,Fun K "greater_edge" "greater_edge" qbl f fd/\mg "greater_edge" = some (.ref f)
 f_greater:∃ f fd,Fun K "greater" "greater" qdu f fd/\mg "greater" = some (.ref f)
 f_is_gone:∃ f fd,Fun K "is_gone" "is_gone" qew f fd/\mg "is_gone" = some (.ref f)
 f_width_at:∃ f fd,Fun K "width_at" "width_at" qd9 f fd/\mg "width_at" = some (.ref f)
 f_cell_at:∃ f fd,Fun K "cell_at" "cell_at" qex f fd/\mg "cell_at" = some (.ref f)
 f_heap_of:∃ f fd,Fun K "heap_of" "heap_of" qey f fd/\mg "heap_of" = some (.ref f)
 f_poured:∃ f fd,Fun K "poured" "poured" qfp f fd/\mg "poured" = some (.ref f)
 f_Roll_init:∃ f fd,Fun K "__init__" "Roll.__init__" qcp f fd/\Mk K C_Roll f
 f_Roll_put:∃ f fd dT o n t,FunD K "put" "Roll.put" qea (.ref dT) f fd/\qfo K C_Roll "put" f/\fd.defaults=.ref dT/\K.lookup dT=some o/\o.data=.seq #[.int 1 t] n
 f_Roll_pour_into_cell:∃ f fd,Fun K "pour_into_cell" "Roll.pour_into_cell" qa8 f fd/\qfo K C_Roll "pour_into_cell" f
 f_Roll_take_heap:∃ f fd,Fun K "take_heap" "Roll.take_heap" qbp f fd/\qfo K C_Roll "take_heap" f
 f_Roll_take_all:∃ f fd,Fun K "take_all" "Roll.take_all" qbu f fd/\qfo K C_Roll "take_all" f
 f_Roll_rule:∃ f fd,Fun K "rule" "Roll.rule" qdg f fd/\qfo K C_Roll "rule" f
 f_Roll_day:∃ f fd,Fun K "day" "Roll.day" qeb f fd/\qfo K C_Roll "day" f
 f_Roll_edges:∃ f fd,Fun K "edges" "Roll.edges" qcz f fd/\qfo K C_Roll "edges" f
 f_Roll_young:∃ f fd,Fun K "young" "Roll.young" qc0 f fd/\qfo K C_Roll "young" f
 f_Roll_heaps:∃ f fd,Fun K "heaps" "Roll.heaps" qc1 f fd/\qfo K C_Roll "heaps" f
 f_begun:∃ f fd,Fun K "begun" "begun" qgg f fd/\mg "begun" = some (.ref f)
 f_is_step:∃ f fd,Fun K "is_step" "is_step" qdv f fd/\mg "is_step" = some (.ref f)
 f_check_one_step:∃ f fd,Fun K "check_one_step" "check_one_step" qbd f fd/\mg "check_one_step" = some (.ref f)
 f_check_next_step:∃ f fd,Fun K "check_next_step" "check_next_step" qbb f fd/\mg "check_next_step" = some (.ref f)
 f_check_steps:∃ f fd,Fun K "check_steps" "check_steps" qbv f fd/\mg "check_steps" = some (.ref f)
 f_check_gone:∃ f fd,Fun K "check_gone" "check_gone" qb7 f fd/\mg "check_gone" = some (.ref f)
 f_Rule_init:∃ f fd dT o n,FunD K "__init__" "Rule.__init__" qb2 (.ref dT) f fd/\Mk K C_Rule f/\fd.defaults=.ref dT/\K.lookup dT=some o/\o.data=.seq #[.none] n
 f_Rule_steps:∃ f fd,Fun K "steps" "Rule.steps" qb8 f fd/\qfo K C_Rule "steps" f
 f_Rule_gone:∃ f fd,Fun K "gone" "Rule.gone" qcq f fd/\qfo K C_Rule "gone" f
 f_aged:∃ f fd,Fun K "aged" "aged" qko f fd/\mg "aged" = some (.ref f)
 f_is_small_word:∃ f fd,Fun K "is_small_word" "is_small_word" qbh f fd/\mg "is_small_word" = some (.ref f)
 f_is_name:∃ f fd,Fun K "is_name" "is_name" qdw f fd/\mg "is_name" = some (.ref f)
 f_is_mark:∃ f fd,Fun K "is_mark" "is_mark" qdx f fd/\mg "is_mark" = some (.ref f)
 f_words_of:∃ f fd,Fun K "words_of" "words_of" qdc f fd/\mg "words_of" = some (.ref f)
 f_is_barring:∃ f fd,Fun K "is_barring" "is_barring" qb9 f fd/\mg "is_barring" = some (.ref f)
 f_sieve:∃ f fd,Fun K "sieve" "sieve" qep f fd/\mg "sieve" = some (.ref f)
 f_check_marks:∃ f fd,Fun K "check_marks" "check_marks" qbw f fd/\mg "check_marks" = some (.ref f)
 f_Book_init:∃ f fd,Fun K "__init__" "Book.__init__" qcr f fd/\Mk K C_Book f
 f_Book_enrol:∃ f fd dT o n,FunD K "enrol" "Book.enrol" qbr (.ref dT) f fd/\qfo K C_Book "enrol" f/\fd.defaults=.ref dT/\K.lookup dT=some o/\o.data=.seq #[.none] n
 f_Book_check_enrolled:∃ f fd,Fun K "check_enrolled" "Book.check_enrolled" qay f fd/\qfo K C_Book "check_enrolled" f
 f_Book_own_roll:∃ f fd,Fun K "own_roll" "Book.own_roll" qbx f fd/\qfo K C_Book "own_roll" f
 f_Book_chosen:∃ f fd,Fun K "chosen" "Book.chosen" qby f fd/\qfo K C_Book "chosen" f
 f_Book_names:∃ f fd,Fun K "names" "Book.names" qca f fd/\qfo K C_Book "names" f
 f_Book_marks:∃ f fd,Fun K "marks" "Book.marks" qcb f fd/\qfo K C_Book "marks" f
 f_Book_roll:∃ f fd,Fun K "roll" "Book.roll" qdh f fd/\qfo K C_Book "roll" f
 f__law_cell_at:∃ f fd,Fun K "_law_cell_at" "_law_cell_at" qbm f fd/\mg "_law_cell_at" = some (.ref f)
 f__law_mixed:∃ f fd,Fun K "_law_mixed" "_law_mixed" qcc f fd/\mg "_law_mixed" = some (.ref f)
 f__law_name:∃ f fd,Fun K "_law_name" "_law_name" qcs f fd/\mg "_law_name" = some (.ref f)
 f__law_mark:∃ f fd,Fun K "_law_mark" "_law_mark" qct f fd/\mg "_law_mark" = some (.ref f)
 f__law_book:∃ f fd,Fun K "_law_book" "_law_book" qcu f fd/\mg "_law_book" = some (.ref f)
 f__law_own:∃ f fd,Fun K "_law_own" "_law_own" qb3 f fd/\mg "_law_own" = some (.ref f)
 f__law_by_text:∃ f fd,Fun K "_law_by_text" "_law_by_text" qbn f fd/\mg "_law_by_text" = some (.ref f)
 f__law_by_own:∃ f fd,Fun K "_law_by_own" "_law_by_own" qbz f fd/\mg "_law_by_own" = some (.ref f)
 f_law:∃ f fd,Fun K "law" "law" qlj f fd/\mg "law" = some (.ref f)
 cl_Roll:Cls K C_Roll
 mg_Roll:mg "Roll" = some (.ref C_Roll)
 na_Roll_kept_rule:NoAttr K C_Roll "kept_rule"
 na_Roll_kept_day:NoAttr K C_Roll "kept_day"
 na_Roll_kept_edges:NoAttr K C_Roll "kept_edges"
 na_Roll_whole_ones:NoAttr K C_Roll "whole_ones"
 na_Roll_cell_heaps:NoAttr K C_Roll "cell_heaps"
 cl_Rule:Cls K C_Rule
 mg_Rule:mg "Rule" = some (.ref C_Rule)
 na_Rule_kept_steps:NoAttr K C_Rule "kept_steps"
 na_Rule_gone_age:NoAttr K C_Rule "gone_age"
 cl_Book:Cls K C_Book
 mg_Book:mg "Book" = some (.ref C_Book)
 na_Book_kept_rule:NoAttr K C_Book "kept_rule"
 na_Book_kept_day:NoAttr K C_Book "kept_day"
 na_Book_kept_edges:NoAttr K C_Book "kept_edges"
 na_Book_kept_marks:NoAttr K C_Book "kept_marks"
 na_Book_kept_rolls:NoAttr K C_Book "kept_rolls"
 mg_BookError:mg "BookError" = some (.ref C_BookError)
 mg_NoNumber:mg "NoNumber" = some (.ref C_NoNumber)
 mg_NoRule:mg "NoRule" = some (.ref C_NoRule)
 mg_Backward:mg "Backward" = some (.ref C_Backward)
 mg_NoName:mg "NoName" = some (.ref C_NoName)
 mg_NoMark:mg "NoMark" = some (.ref C_NoMark)
 ex_BookError:qrj K C_BookError
 kx_BookError:qrk K C_BookError
 hit_BookError_BookError:PySem.W.mroIn K C_BookError (.ref C_BookError)=some true
 is_BookError_BookError:PySem.W.kitOne K (.ref C_BookError) (.ref C_BookError)=some true
 is_BookError_NoNumber:PySem.W.kitOne K (.ref C_BookError) (.ref C_NoNumber)=some false
 is_BookError_NoRule:PySem.W.kitOne K (.ref C_BookError) (.ref C_NoRule)=some false
 is_BookError_Backward:PySem.W.kitOne K (.ref C_BookError) (.ref C_Backward)=some false
 is_BookError_NoName:PySem.W.kitOne K (.ref C_BookError) (.ref C_NoName)=some false
 is_BookError_NoMark:PySem.W.kitOne K (.ref C_BookError) (.ref C_NoMark)=some false
 is_BookError_ValueError:PySem.W.kitOne K (.ref C_BookError) (.type "ValueError")=some true
 ex_NoNumber:qrj K C_NoNumber
 kx_NoNumber:qrk K C_NoNumber
 hit_NoNumber_BookError:PySem.W.mroIn K C_NoNumber (.ref C_BookError)=some true
 is_NoNumber_BookError:PySem.W.kitOne K (.ref C_NoNumber) (.ref C_BookError)=some true
 hit_NoNumber_NoNumber:PySem.W.mroIn K C_NoNumber (.ref C_NoNumber)=some true
 is_NoNumber_NoNumber:PySem.W.kitOne K (.ref C_NoNumber) (.ref C_NoNumber)=some true
 is_NoNumber_NoRule:PySem.W.kitOne K (.ref C_NoNumber) (.ref C_NoRule)=some false
 is_NoNumber_Backward:PySem.W.kitOne K (.ref C_NoNumber) (.ref C_Backward)=some false
 is_NoNumber_NoName:PySem.W.kitOne K (.ref C_NoNumber) (.ref C_NoName)=some false
 is_NoNumber_NoMark:PySem.W.kitOne K (.ref C_NoNumber) (.ref C_NoMark)=some false
 is_NoNumber_ValueError:PySem.W.kitOne K (.ref C_NoNumber) (.type "ValueError")=some true
 ex_NoRule:qrj K C_NoRule
 kx_NoRule:qrk K C_NoRule
 hit_NoRule_BookError:PySem.W.mroIn K C_NoRule (.ref C_BookError)=some true
 is_NoRule_BookError:PySem.W.kitOne K (.ref C_NoRule) (.ref C_BookError)=some true
 is_NoRule_NoNumber:PySem.W.kitOne K (.ref C_NoRule) (.ref C_NoNumber)=some false
 hit_NoRule_NoRule:PySem.W.mroIn K C_NoRule (.ref C_NoRule)=some true
 is_NoRule_NoRule:PySem.W.kitOne K (.ref C_NoRule) (.ref C_NoRule)=some true
 is_NoRule_Backward:PySem.W.kitOne K (.ref C_NoRule) (.ref C_Backward)=some false
 is_NoRule_NoName:PySem.W.kitOne K (.ref C_NoRule) (.ref C_NoName)=some false
 is_NoRule_NoMark:PySem.W.kitOne K (.ref C_NoRule) (.ref C_NoMark)=some false
 is_NoRule_ValueError:PySem.W.kitOne K (.ref C_NoRule) (.type "ValueError")=some true
 kx_Backward:qrk K C_Backward
 hit_Backward_BookError:PySem.W.mroIn K C_Backward (.ref C_BookError)=some true
 is_Backward_BookError:PySem.W.kitOne K (.ref C_Backward) (.ref C_BookError)=some true
 is_Backward_NoNumber:PySem.W.kitOne K (.ref C_Backward) (.ref C_NoNumber)=some false
 is_Backward_NoRule:PySem.W.kitOne K (.ref C_Backward) (.ref C_NoRule)=some false
 hit_Backward_Backward:PySem.W.mroIn K C_Backward (.ref C_Backward)=some true
 is_Backward_Backward:PySem.W.kitOne K (.ref C_Backward) (.ref C_Backward)=some true
 is_Backward_NoName:PySem.W.kitOne K (.ref C_Backward) (.ref C_NoName)=some false
 is_Backward_NoMark:PySem.W.kitOne K (.ref C_Backward) (.ref C_NoMark)=some false
 is_Backward_ValueError:PySem.W.kitOne K (.ref C_Backward) (.type "ValueError")=some true
 ex_NoName:qrj K C_NoName
 kx_NoName:qrk K C_NoName
 hit_NoName_BookError:PySem.W.mroIn K C_NoName (.ref C_BookError)=some true
 is_NoName_BookError:PySem.W.kitOne K (.ref C_NoName) (.ref C_BookError)=some true
 is_NoName_NoNumber:PySem.W.kitOne K (.ref C_NoName) (.ref C_NoNumber)=some false
 is_NoName_NoRule:PySem.W.kitOne K (.ref C_NoName) (.ref C_NoRule)=some false
 is_NoName_Backward:PySem.W.kitOne K (.ref C_NoName) (.ref C_Backward)=some false
 hit_NoName_NoName:PySem.W.mroIn K C_NoName (.ref C_NoName)=some true
 is_NoName_NoName:PySem.W.kitOne K (.ref C_NoName) (.ref C_NoName)=some true
 is_NoName_NoMark:PySem.W.kitOne K (.ref C_NoName) (.ref C_NoMark)=some false
 is_NoName_ValueError:PySem.W.kitOne K (.ref C_NoName) (.type "ValueError")=some true
 ex_NoMark:qrj K C_NoMark
 kx_NoMark:qrk K C_NoMark
 hit_NoMark_BookError:PySem.W.mroIn K C_NoMark (.ref C_BookError)=some true
 is_NoMark_BookError:PySem.W.kitOne K (.ref C_NoMark) (.ref C_BookError)=some true
 is_NoMark_NoNumber:PySem.W.kitOne K (.ref C_NoMark) (.ref C_NoNumber)=some false
 is_NoMark_NoRule:PySem.W.kitOne K (.ref C_NoMark) (.ref C_NoRule)=some false
 is_NoMark_Backward:PySem.W.kitOne K (.ref C_NoMark) (.ref C_Backward)=some false
 is_NoMark_NoName:PySem.W.kitOne K (.ref C_NoMark) (.ref C_NoName)=some false
 hit_NoMark_NoMark:PySem.W.mroIn K C_NoMark (.ref C_NoMark)=some true
 is_NoMark_NoMark:PySem.W.kitOne K (.ref C_NoMark) (.ref C_NoMark)=some true
 is_NoMark_ValueError:PySem.W.kitOne K (.ref C_NoMark) (.type "ValueError")=some true
 b_all:mg "all" = none
 b_any:mg "any" = none
 b_bool:mg "bool" = none
 b_int:mg "int" = none
 b_isinstance:mg "isinstance" = none
 b_len:mg "len" = none
 b_list:mg "list" = none
 b_max:mg "max" = none
 b_min:mg "min" = none
 b_range:mg "range" = none
 b_set:mg "set" = none
 b_sorted:mg "sorted" = none
 b_str:mg "str" = none
 b_sum:mg "sum" = none
 b_tuple:mg "tuple" = none
 b_zip:mg "zip" = none
 c_MOST_STEPS:∃ t,mg "MOST_STEPS" = some (.int 5 t)
 c_LETTERS:∃ t,mg "LETTERS" = some (.str "abcdefghijklmnopqrstuvwxyz" t)
 c_LONGEST_NAME:∃ t,mg "LONGEST_NAME" = some (.int 12 t)
 c_LONGEST_MARK:∃ t,mg "LONGEST_MARK" = some (.int 8 t)
 c_MOST_MARKS:∃ t,mg "MOST_MARKS" = some (.int 8 t)
theorem qta {K:Frag} {h:Heap} {mg:Str->Option Value} (X:K.In h) (G:h.Ns mainGlobals mg) {C_Roll C_Rule C_Book f0 f1 f2 f3 f4 f5 f6 f7 f8 f9 f10 f11 f12 dT12 f13 f14 f15 f16 f17 f18 f19 f20 f21 f22 f23 f24 f25 f26 f27 dT27 f28 f29 f30 f31 f32 f33 f34 f35 f36 f37 f38 f39 dT39 f40 f41 f42 f43 f44 f45 f46 f47 f48 f49 f50 f51 f52 f53 f54 C_BookError C_NoNumber C_NoRule C_Backward C_NoName C_NoMark:Addr} {od0 an0 od1 an1 od2 an2 od3 an3 od4 an4 od5 an5 od6 an6 od7 an7 od8 an8 od9 an9 od10 an10 od11 an11 od12 an12 dd12 od13 an13 od14 an14 od15 an15 od16 an16 od17 an17 od18 an18 od19 an19 od20 an20 od21 an21 od22 an22 od23 an23 od24 an24 od25 an25 od26 an26 od27 an27 dd27 od28 an28 od29 an29 od30 an30 od31 an31 od32 an32 od33 an33 od34 an34 od35 an35 od36 an36 od37 an37 od38 an38 od39 an39 dd39 od40 an40 od41 an41 od42 an42 od43 an43 od44 an44 od45 an45 od46 an46 od47 an47 od48 an48 od49 an49 od50 an50 od51 an51 od52 an52 od53 an53 od54 an54:Option Addr} {sl0 sl1 sl2 sl3 sl4 sl5 sl6 sl7 sl8 sl9 sl10 sl11 sl12 ds12 sl13 sl14 sl15 sl16 sl17 sl18 sl19 sl20 sl21 sl22 sl23 sl24 sl25 sl26 sl27 ds27 sl28 sl29 sl30 sl31 sl32 sl33 sl34 sl35 sl36 sl37 sl38 sl39 ds39 sl40 sl41 sl42 sl43 sl44 sl45 sl46 sl47 sl48 sl49 sl50 sl51 sl52 sl53 sl54:Array (Option Value)} {oc0 kV0 dc0 pm0 cd0 ct0 oc1 kV1 dc1 pm1 cd1 ct1 oc2 kV2 dc2 pm2 cd2 ct2 oc3 kV3 dc3 pm3 cd3 ct3 oc4 kV4 dc4 pm4 cd4 ct4 oc5 kV5 dc5 pm5 cd5 ct5 oc6 kV6 dc6 pm6 cd6 ct6 oc7 kV7 dc7 pm7 cd7 ct7 oc8 kV8 dc8 pm8 cd8 ct8 oc9 kV9 dc9 pm9 cd9 ct9 oc10 kV10 dc10 pm10 cd10 ct10 oc11 kV11 dc11 pm11 cd11 ct11 oc12 kV12 dc12 pm12 cd12 ct12 dk12 oc13 kV13 dc13 pm13 cd13 ct13 oc14 kV14 dc14 pm14 cd14 ct14 oc15 kV15 dc15 pm15 cd15 ct15 oc16 kV16 dc16 pm16 cd16 ct16 oc17 kV17 dc17 pm17 cd17 ct17 oc18 kV18 dc18 pm18 cd18 ct18 oc19 kV19 dc19 pm19 cd19 ct19 oc20 kV20 dc20 pm20 cd20 ct20 oc21 kV21 dc21 pm21 cd21 ct21 oc22 kV22 dc22 pm22 cd22 ct22 oc23 kV23 dc23 pm23 cd23 ct23 oc24 kV24 dc24 pm24 cd24 ct24 oc25 kV25 dc25 pm25 cd25 ct25 oc26 kV26 dc26 pm26 cd26 ct26 oc27 kV27 dc27 pm27 cd27 ct27 dk27 oc28 kV28 dc28 pm28 cd28 ct28 oc29 kV29 dc29 pm29 cd29 ct29 oc30 kV30 dc30 pm30 cd30 ct30 oc31 kV31 dc31 pm31 cd31 ct31 oc32 kV32 dc32 pm32 cd32 ct32 oc33 kV33 dc33 pm33 cd33 ct33 oc34 kV34 dc34 pm34 cd34 ct34 oc35 kV35 dc35 pm35 cd35 ct35 oc36 kV36 dc36 pm36 cd36 ct36 oc37 kV37 dc37 pm37 cd37 ct37 oc38 kV38 dc38 pm38 cd38 ct38 oc39 kV39 dc39 pm39 cd39 ct39 dk39 oc40 kV40 dc40 pm40 cd40 ct40 oc41 kV41 dc41 pm41 cd41 ct41 oc42 kV42 dc42 pm42 cd42 ct42 oc43 kV43 dc43 pm43 cd43 ct43 oc44 kV44 dc44 pm44 cd44 ct44 oc45 kV45 dc45 pm45 cd45 ct45 oc46 kV46 dc46 pm46 cd46 ct46 oc47 kV47 dc47 pm47 cd47 ct47 oc48 kV48 dc48 pm48 cd48 ct48 oc49 kV49 dc49 pm49 cd49 ct49 oc50 kV50 dc50 pm50 cd50 ct50 oc51 kV51 dc51 pm51 cd51 ct51 oc52 kV52 dc52 pm52 cd52 ct52 oc53 kV53 dc53 pm53 cd53 ct53 oc54 kV54 dc54 pm54 cd54 ct54:Value} {dn12 dn27 dn39:Nat} {dt12 t_MOST_STEPS t_LETTERS t_LONGEST_NAME t_LONGEST_MARK t_MOST_MARKS:Tok}
  (aCRoll:nsIn K mainGlobals "Roll" = some (some (.ref C_Roll)))
  (aCRule:nsIn K mainGlobals "Rule" = some (some (.ref C_Rule)))
  (aCBook:nsIn K mainGlobals "Book" = some (some (.ref C_Book)))
  (a0:nsIn K mainGlobals "is_whole" = some (some (.ref f0)))
  (l0:K.lookup f0=some ⟨oc0,od0,.func (fnOf "is_whole" "is_whole" (qag qc9) (qae qc9) (qab qc9) .none kV0 dc0 pm0 an0 cd0 ct0),sl0⟩)
  (c0:codeIn K cd0 "is_whole" = true)
  (k0:keepIn K (.ref f0)=true)
  (a1:nsIn K mainGlobals "floored" = some (some (.ref f1)))
  (l1:K.lookup f1=some ⟨oc1,od1,.func (fnOf "floored" "floored" (qag qdt) (qae qdt) (qab qdt) .none kV1 dc1 pm1 an1 cd1 ct1),sl1⟩)
  (c1:codeIn K cd1 "floored" = true)
  (k1:keepIn K (.ref f1)=true)
  (a2:nsIn K mainGlobals "gone_cut" = some (some (.ref f2)))
  (l2:K.lookup f2=some ⟨oc2,od2,.func (fnOf "gone_cut" "gone_cut" (qag qda) (qae qda) (qab qda) .none kV2 dc2 pm2 an2 cd2 ct2),sl2⟩)
  (c2:codeIn K cd2 "gone_cut" = true)
  (k2:keepIn K (.ref f2)=true)
  (a3:nsIn K mainGlobals "edges_at" = some (some (.ref f3)))
  (l3:K.lookup f3=some ⟨oc3,od3,.func (fnOf "edges_at" "edges_at" (qag qdb) (qae qdb) (qab qdb) .none kV3 dc3 pm3 an3 cd3 ct3),sl3⟩)
  (c3:codeIn K cd3 "edges_at" = true)
  (k3:keepIn K (.ref f3)=true)
  (a4:nsIn K mainGlobals "greater_edge" = some (some (.ref f4)))
  (l4:K.lookup f4=some ⟨oc4,od4,.func (fnOf "greater_edge" "greater_edge" (qag qbl) (qae qbl) (qab qbl) .none kV4 dc4 pm4 an4 cd4 ct4),sl4⟩)
  (c4:codeIn K cd4 "greater_edge" = true)
  (k4:keepIn K (.ref f4)=true)
  (a5:nsIn K mainGlobals "greater" = some (some (.ref f5)))
  (l5:K.lookup f5=some ⟨oc5,od5,.func (fnOf "greater" "greater" (qag qdu) (qae qdu) (qab qdu) .none kV5 dc5 pm5 an5 cd5 ct5),sl5⟩)
  (c5:codeIn K cd5 "greater" = true)
  (k5:keepIn K (.ref f5)=true)
  (a6:nsIn K mainGlobals "is_gone" = some (some (.ref f6)))
  (l6:K.lookup f6=some ⟨oc6,od6,.func (fnOf "is_gone" "is_gone" (qag qew) (qae qew) (qab qew) .none kV6 dc6 pm6 an6 cd6 ct6),sl6⟩)
  (c6:codeIn K cd6 "is_gone" = true)
  (k6:keepIn K (.ref f6)=true)
  (a7:nsIn K mainGlobals "width_at" = some (some (.ref f7)))
  (l7:K.lookup f7=some ⟨oc7,od7,.func (fnOf "width_at" "width_at" (qag qd9) (qae qd9) (qab qd9) .none kV7 dc7 pm7 an7 cd7 ct7),sl7⟩)
  (c7:codeIn K cd7 "width_at" = true)
  (k7:keepIn K (.ref f7)=true)
  (a8:nsIn K mainGlobals "cell_at" = some (some (.ref f8)))
  (l8:K.lookup f8=some ⟨oc8,od8,.func (fnOf "cell_at" "cell_at" (qag qex) (qae qex) (qab qex) .none kV8 dc8 pm8 an8 cd8 ct8),sl8⟩)
  (c8:codeIn K cd8 "cell_at" = true)
  (k8:keepIn K (.ref f8)=true)
  (a9:nsIn K mainGlobals "heap_of" = some (some (.ref f9)))
  (l9:K.lookup f9=some ⟨oc9,od9,.func (fnOf "heap_of" "heap_of" (qag qey) (qae qey) (qab qey) .none kV9 dc9 pm9 an9 cd9 ct9),sl9⟩)
  (c9:codeIn K cd9 "heap_of" = true)
  (k9:keepIn K (.ref f9)=true)
  (a10:nsIn K mainGlobals "poured" = some (some (.ref f10)))
  (l10:K.lookup f10=some ⟨oc10,od10,.func (fnOf "poured" "poured" (qag qfp) (qae qfp) (qab qfp) .none kV10 dc10 pm10 an10 cd10 ct10),sl10⟩)
  (c10:codeIn K cd10 "poured" = true)
  (k10:keepIn K (.ref f10)=true)
  (a11:PySem.W.findIn K (.ref C_Roll) "__init__" = some (some (.ref f11)))
  (i11:PySem.W.isFn K (.ref f11)=true)
  (l11:K.lookup f11=some ⟨oc11,od11,.func (fnOf "__init__" "Roll.__init__" (qag qcp) (qae qcp) (qab qcp) .none kV11 dc11 pm11 an11 cd11 ct11),sl11⟩)
  (c11:codeIn K cd11 "Roll.__init__" = true)
  (k11:keepIn K (.ref f11)=true)
  (a12:PySem.W.findIn K (.ref C_Roll) "put" = some (some (.ref f12)))
  (i12:PySem.W.isFn K (.ref f12)=true)
  (l12:K.lookup f12=some ⟨oc12,od12,.func (fnOf "put" "Roll.put" (qag qea) (qae qea) (qab qea) (.ref dT12) kV12 dc12 pm12 an12 cd12 ct12),sl12⟩)
  (c12:codeIn K cd12 "Roll.put" = true)
  (k12:keepIn K (.ref f12)=true)
  (d12:K.lookup dT12=some ⟨dk12,dd12,.seq #[.int 1 dt12] dn12,ds12⟩)
  (a13:PySem.W.findIn K (.ref C_Roll) "pour_into_cell" = some (some (.ref f13)))
  (i13:PySem.W.isFn K (.ref f13)=true)
  (l13:K.lookup f13=some ⟨oc13,od13,.func (fnOf "pour_into_cell" "Roll.pour_into_cell" (qag qa8) (qae qa8) (qab qa8) .none kV13 dc13 pm13 an13 cd13 ct13),sl13⟩)
  (c13:codeIn K cd13 "Roll.pour_into_cell" = true)
  (k13:keepIn K (.ref f13)=true)
  (a14:PySem.W.findIn K (.ref C_Roll) "take_heap" = some (some (.ref f14)))
  (i14:PySem.W.isFn K (.ref f14)=true)
  (l14:K.lookup f14=some ⟨oc14,od14,.func (fnOf "take_heap" "Roll.take_heap" (qag qbp) (qae qbp) (qab qbp) .none kV14 dc14 pm14 an14 cd14 ct14),sl14⟩)
  (c14:codeIn K cd14 "Roll.take_heap" = true)
  (k14:keepIn K (.ref f14)=true)
  (a15:PySem.W.findIn K (.ref C_Roll) "take_all" = some (some (.ref f15)))
  (i15:PySem.W.isFn K (.ref f15)=true)
  (l15:K.lookup f15=some ⟨oc15,od15,.func (fnOf "take_all" "Roll.take_all" (qag qbu) (qae qbu) (qab qbu) .none kV15 dc15 pm15 an15 cd15 ct15),sl15⟩)
  (c15:codeIn K cd15 "Roll.take_all" = true)
  (k15:keepIn K (.ref f15)=true)
  (a16:PySem.W.findIn K (.ref C_Roll) "rule" = some (some (.ref f16)))
  (i16:PySem.W.isFn K (.ref f16)=true)
  (l16:K.lookup f16=some ⟨oc16,od16,.func (fnOf "rule" "Roll.rule" (qag qdg) (qae qdg) (qab qdg) .none kV16 dc16 pm16 an16 cd16 ct16),sl16⟩)
  (c16:codeIn K cd16 "Roll.rule" = true)
  (k16:keepIn K (.ref f16)=true)
  (a17:PySem.W.findIn K (.ref C_Roll) "day" = some (some (.ref f17)))
  (i17:PySem.W.isFn K (.ref f17)=true)
  (l17:K.lookup f17=some ⟨oc17,od17,.func (fnOf "day" "Roll.day" (qag qeb) (qae qeb) (qab qeb) .none kV17 dc17 pm17 an17 cd17 ct17),sl17⟩)
  (c17:codeIn K cd17 "Roll.day" = true)
  (k17:keepIn K (.ref f17)=true)
  (a18:PySem.W.findIn K (.ref C_Roll) "edges" = some (some (.ref f18)))
  (i18:PySem.W.isFn K (.ref f18)=true)
  (l18:K.lookup f18=some ⟨oc18,od18,.func (fnOf "edges" "Roll.edges" (qag qcz) (qae qcz) (qab qcz) .none kV18 dc18 pm18 an18 cd18 ct18),sl18⟩)
  (c18:codeIn K cd18 "Roll.edges" = true)
  (k18:keepIn K (.ref f18)=true)
  (a19:PySem.W.findIn K (.ref C_Roll) "young" = some (some (.ref f19)))
  (i19:PySem.W.isFn K (.ref f19)=true)
  (l19:K.lookup f19=some ⟨oc19,od19,.func (fnOf "young" "Roll.young" (qag qc0) (qae qc0) (qab qc0) .none kV19 dc19 pm19 an19 cd19 ct19),sl19⟩)
  (c19:codeIn K cd19 "Roll.young" = true)
  (k19:keepIn K (.ref f19)=true)
  (a20:PySem.W.findIn K (.ref C_Roll) "heaps" = some (some (.ref f20)))
  (i20:PySem.W.isFn K (.ref f20)=true)
  (l20:K.lookup f20=some ⟨oc20,od20,.func (fnOf "heaps" "Roll.heaps" (qag qc1) (qae qc1) (qab qc1) .none kV20 dc20 pm20 an20 cd20 ct20),sl20⟩)
  (c20:codeIn K cd20 "Roll.heaps" = true)
  (k20:keepIn K (.ref f20)=true)
  (a21:nsIn K mainGlobals "begun" = some (some (.ref f21)))
  (l21:K.lookup f21=some ⟨oc21,od21,.func (fnOf "begun" "begun" (qag qgg) (qae qgg) (qab qgg) .none kV21 dc21 pm21 an21 cd21 ct21),sl21⟩)
  (c21:codeIn K cd21 "begun" = true)
  (k21:keepIn K (.ref f21)=true)
  (a22:nsIn K mainGlobals "is_step" = some (some (.ref f22)))
  (l22:K.lookup f22=some ⟨oc22,od22,.func (fnOf "is_step" "is_step" (qag qdv) (qae qdv) (qab qdv) .none kV22 dc22 pm22 an22 cd22 ct22),sl22⟩)
  (c22:codeIn K cd22 "is_step" = true)
  (k22:keepIn K (.ref f22)=true)
  (a23:nsIn K mainGlobals "check_one_step" = some (some (.ref f23)))
  (l23:K.lookup f23=some ⟨oc23,od23,.func (fnOf "check_one_step" "check_one_step" (qag qbd) (qae qbd) (qab qbd) .none kV23 dc23 pm23 an23 cd23 ct23),sl23⟩)
  (c23:codeIn K cd23 "check_one_step" = true)
  (k23:keepIn K (.ref f23)=true)
  (a24:nsIn K mainGlobals "check_next_step" = some (some (.ref f24)))
  (l24:K.lookup f24=some ⟨oc24,od24,.func (fnOf "check_next_step" "check_next_step" (qag qbb) (qae qbb) (qab qbb) .none kV24 dc24 pm24 an24 cd24 ct24),sl24⟩)
  (c24:codeIn K cd24 "check_next_step" = true)
  (k24:keepIn K (.ref f24)=true)
  (a25:nsIn K mainGlobals "check_steps" = some (some (.ref f25)))
  (l25:K.lookup f25=some ⟨oc25,od25,.func (fnOf "check_steps" "check_steps" (qag qbv) (qae qbv) (qab qbv) .none kV25 dc25 pm25 an25 cd25 ct25),sl25⟩)
  (c25:codeIn K cd25 "check_steps" = true)
  (k25:keepIn K (.ref f25)=true)
  (a26:nsIn K mainGlobals "check_gone" = some (some (.ref f26)))
  (l26:K.lookup f26=some ⟨oc26,od26,.func (fnOf "check_gone" "check_gone" (qag qb7) (qae qb7) (qab qb7) .none kV26 dc26 pm26 an26 cd26 ct26),sl26⟩)
  (c26:codeIn K cd26 "check_gone" = true)
  (k26:keepIn K (.ref f26)=true)
  (a27:PySem.W.findIn K (.ref C_Rule) "__init__" = some (some (.ref f27)))
  (i27:PySem.W.isFn K (.ref f27)=true)
  (l27:K.lookup f27=some ⟨oc27,od27,.func (fnOf "__init__" "Rule.__init__" (qag qb2) (qae qb2) (qab qb2) (.ref dT27) kV27 dc27 pm27 an27 cd27 ct27),sl27⟩)
  (c27:codeIn K cd27 "Rule.__init__" = true)
  (k27:keepIn K (.ref f27)=true)
  (d27:K.lookup dT27=some ⟨dk27,dd27,.seq #[.none] dn27,ds27⟩)
  (a28:PySem.W.findIn K (.ref C_Rule) "steps" = some (some (.ref f28)))
  (i28:PySem.W.isFn K (.ref f28)=true)
  (l28:K.lookup f28=some ⟨oc28,od28,.func (fnOf "steps" "Rule.steps" (qag qb8) (qae qb8) (qab qb8) .none kV28 dc28 pm28 an28 cd28 ct28),sl28⟩)
  (c28:codeIn K cd28 "Rule.steps" = true)
  (k28:keepIn K (.ref f28)=true)
  (a29:PySem.W.findIn K (.ref C_Rule) "gone" = some (some (.ref f29)))
  (i29:PySem.W.isFn K (.ref f29)=true)
  (l29:K.lookup f29=some ⟨oc29,od29,.func (fnOf "gone" "Rule.gone" (qag qcq) (qae qcq) (qab qcq) .none kV29 dc29 pm29 an29 cd29 ct29),sl29⟩)
  (c29:codeIn K cd29 "Rule.gone" = true)
  (k29:keepIn K (.ref f29)=true)
  (a30:nsIn K mainGlobals "aged" = some (some (.ref f30)))
  (l30:K.lookup f30=some ⟨oc30,od30,.func (fnOf "aged" "aged" (qag qko) (qae qko) (qab qko) .none kV30 dc30 pm30 an30 cd30 ct30),sl30⟩)
  (c30:codeIn K cd30 "aged" = true)
  (k30:keepIn K (.ref f30)=true)
  (a31:nsIn K mainGlobals "is_small_word" = some (some (.ref f31)))
  (l31:K.lookup f31=some ⟨oc31,od31,.func (fnOf "is_small_word" "is_small_word" (qag qbh) (qae qbh) (qab qbh) .none kV31 dc31 pm31 an31 cd31 ct31),sl31⟩)
  (c31:codeIn K cd31 "is_small_word" = true)
  (k31:keepIn K (.ref f31)=true)
  (a32:nsIn K mainGlobals "is_name" = some (some (.ref f32)))
  (l32:K.lookup f32=some ⟨oc32,od32,.func (fnOf "is_name" "is_name" (qag qdw) (qae qdw) (qab qdw) .none kV32 dc32 pm32 an32 cd32 ct32),sl32⟩)
  (c32:codeIn K cd32 "is_name" = true)
  (k32:keepIn K (.ref f32)=true)
  (a33:nsIn K mainGlobals "is_mark" = some (some (.ref f33)))
  (l33:K.lookup f33=some ⟨oc33,od33,.func (fnOf "is_mark" "is_mark" (qag qdx) (qae qdx) (qab qdx) .none kV33 dc33 pm33 an33 cd33 ct33),sl33⟩)
  (c33:codeIn K cd33 "is_mark" = true)
  (k33:keepIn K (.ref f33)=true)
  (a34:nsIn K mainGlobals "words_of" = some (some (.ref f34)))
  (l34:K.lookup f34=some ⟨oc34,od34,.func (fnOf "words_of" "words_of" (qag qdc) (qae qdc) (qab qdc) .none kV34 dc34 pm34 an34 cd34 ct34),sl34⟩)
  (c34:codeIn K cd34 "words_of" = true)
  (k34:keepIn K (.ref f34)=true)
  (a35:nsIn K mainGlobals "is_barring" = some (some (.ref f35)))
  (l35:K.lookup f35=some ⟨oc35,od35,.func (fnOf "is_barring" "is_barring" (qag qb9) (qae qb9) (qab qb9) .none kV35 dc35 pm35 an35 cd35 ct35),sl35⟩)
  (c35:codeIn K cd35 "is_barring" = true)
  (k35:keepIn K (.ref f35)=true)
  (a36:nsIn K mainGlobals "sieve" = some (some (.ref f36)))
  (l36:K.lookup f36=some ⟨oc36,od36,.func (fnOf "sieve" "sieve" (qag qep) (qae qep) (qab qep) .none kV36 dc36 pm36 an36 cd36 ct36),sl36⟩)
  (c36:codeIn K cd36 "sieve" = true)
  (k36:keepIn K (.ref f36)=true)
  (a37:nsIn K mainGlobals "check_marks" = some (some (.ref f37)))
  (l37:K.lookup f37=some ⟨oc37,od37,.func (fnOf "check_marks" "check_marks" (qag qbw) (qae qbw) (qab qbw) .none kV37 dc37 pm37 an37 cd37 ct37),sl37⟩)
  (c37:codeIn K cd37 "check_marks" = true)
  (k37:keepIn K (.ref f37)=true)
  (a38:PySem.W.findIn K (.ref C_Book) "__init__" = some (some (.ref f38)))
  (i38:PySem.W.isFn K (.ref f38)=true)
  (l38:K.lookup f38=some ⟨oc38,od38,.func (fnOf "__init__" "Book.__init__" (qag qcr) (qae qcr) (qab qcr) .none kV38 dc38 pm38 an38 cd38 ct38),sl38⟩)
  (c38:codeIn K cd38 "Book.__init__" = true)
  (k38:keepIn K (.ref f38)=true)
  (a39:PySem.W.findIn K (.ref C_Book) "enrol" = some (some (.ref f39)))
  (i39:PySem.W.isFn K (.ref f39)=true)
  (l39:K.lookup f39=some ⟨oc39,od39,.func (fnOf "enrol" "Book.enrol" (qag qbr) (qae qbr) (qab qbr) (.ref dT39) kV39 dc39 pm39 an39 cd39 ct39),sl39⟩)
  (c39:codeIn K cd39 "Book.enrol" = true)
  (k39:keepIn K (.ref f39)=true)
  (d39:K.lookup dT39=some ⟨dk39,dd39,.seq #[.none] dn39,ds39⟩)
  (a40:PySem.W.findIn K (.ref C_Book) "check_enrolled" = some (some (.ref f40)))
  (i40:PySem.W.isFn K (.ref f40)=true)
  (l40:K.lookup f40=some ⟨oc40,od40,.func (fnOf "check_enrolled" "Book.check_enrolled" (qag qay) (qae qay) (qab qay) .none kV40 dc40 pm40 an40 cd40 ct40),sl40⟩)
  (c40:codeIn K cd40 "Book.check_enrolled" = true)
  (k40:keepIn K (.ref f40)=true)
  (a41:PySem.W.findIn K (.ref C_Book) "own_roll" = some (some (.ref f41)))
  (i41:PySem.W.isFn K (.ref f41)=true)
  (l41:K.lookup f41=some ⟨oc41,od41,.func (fnOf "own_roll" "Book.own_roll" (qag qbx) (qae qbx) (qab qbx) .none kV41 dc41 pm41 an41 cd41 ct41),sl41⟩)
  (c41:codeIn K cd41 "Book.own_roll" = true)
  (k41:keepIn K (.ref f41)=true)
  (a42:PySem.W.findIn K (.ref C_Book) "chosen" = some (some (.ref f42)))
  (i42:PySem.W.isFn K (.ref f42)=true)
  (l42:K.lookup f42=some ⟨oc42,od42,.func (fnOf "chosen" "Book.chosen" (qag qby) (qae qby) (qab qby) .none kV42 dc42 pm42 an42 cd42 ct42),sl42⟩)
  (c42:codeIn K cd42 "Book.chosen" = true)
  (k42:keepIn K (.ref f42)=true)
  (a43:PySem.W.findIn K (.ref C_Book) "names" = some (some (.ref f43)))
  (i43:PySem.W.isFn K (.ref f43)=true)
  (l43:K.lookup f43=some ⟨oc43,od43,.func (fnOf "names" "Book.names" (qag qca) (qae qca) (qab qca) .none kV43 dc43 pm43 an43 cd43 ct43),sl43⟩)
  (c43:codeIn K cd43 "Book.names" = true)
  (k43:keepIn K (.ref f43)=true)
  (a44:PySem.W.findIn K (.ref C_Book) "marks" = some (some (.ref f44)))
  (i44:PySem.W.isFn K (.ref f44)=true)
  (l44:K.lookup f44=some ⟨oc44,od44,.func (fnOf "marks" "Book.marks" (qag qcb) (qae qcb) (qab qcb) .none kV44 dc44 pm44 an44 cd44 ct44),sl44⟩)
  (c44:codeIn K cd44 "Book.marks" = true)
  (k44:keepIn K (.ref f44)=true)
  (a45:PySem.W.findIn K (.ref C_Book) "roll" = some (some (.ref f45)))
  (i45:PySem.W.isFn K (.ref f45)=true)
  (l45:K.lookup f45=some ⟨oc45,od45,.func (fnOf "roll" "Book.roll" (qag qdh) (qae qdh) (qab qdh) .none kV45 dc45 pm45 an45 cd45 ct45),sl45⟩)
  (c45:codeIn K cd45 "Book.roll" = true)
  (k45:keepIn K (.ref f45)=true)
  (a46:nsIn K mainGlobals "_law_cell_at" = some (some (.ref f46)))
  (l46:K.lookup f46=some ⟨oc46,od46,.func (fnOf "_law_cell_at" "_law_cell_at" (qag qbm) (qae qbm) (qab qbm) .none kV46 dc46 pm46 an46 cd46 ct46),sl46⟩)
  (c46:codeIn K cd46 "_law_cell_at" = true)
  (k46:keepIn K (.ref f46)=true)
  (a47:nsIn K mainGlobals "_law_mixed" = some (some (.ref f47)))
  (l47:K.lookup f47=some ⟨oc47,od47,.func (fnOf "_law_mixed" "_law_mixed" (qag qcc) (qae qcc) (qab qcc) .none kV47 dc47 pm47 an47 cd47 ct47),sl47⟩)
  (c47:codeIn K cd47 "_law_mixed" = true)
  (k47:keepIn K (.ref f47)=true)
  (a48:nsIn K mainGlobals "_law_name" = some (some (.ref f48)))
  (l48:K.lookup f48=some ⟨oc48,od48,.func (fnOf "_law_name" "_law_name" (qag qcs) (qae qcs) (qab qcs) .none kV48 dc48 pm48 an48 cd48 ct48),sl48⟩)
  (c48:codeIn K cd48 "_law_name" = true)
  (k48:keepIn K (.ref f48)=true)
  (a49:nsIn K mainGlobals "_law_mark" = some (some (.ref f49)))
  (l49:K.lookup f49=some ⟨oc49,od49,.func (fnOf "_law_mark" "_law_mark" (qag qct) (qae qct) (qab qct) .none kV49 dc49 pm49 an49 cd49 ct49),sl49⟩)
  (c49:codeIn K cd49 "_law_mark" = true)
  (k49:keepIn K (.ref f49)=true)
  (a50:nsIn K mainGlobals "_law_book" = some (some (.ref f50)))
  (l50:K.lookup f50=some ⟨oc50,od50,.func (fnOf "_law_book" "_law_book" (qag qcu) (qae qcu) (qab qcu) .none kV50 dc50 pm50 an50 cd50 ct50),sl50⟩)
  (c50:codeIn K cd50 "_law_book" = true)
  (k50:keepIn K (.ref f50)=true)
  (a51:nsIn K mainGlobals "_law_own" = some (some (.ref f51)))
  (l51:K.lookup f51=some ⟨oc51,od51,.func (fnOf "_law_own" "_law_own" (qag qb3) (qae qb3) (qab qb3) .none kV51 dc51 pm51 an51 cd51 ct51),sl51⟩)
  (c51:codeIn K cd51 "_law_own" = true)
  (k51:keepIn K (.ref f51)=true)
  (a52:nsIn K mainGlobals "_law_by_text" = some (some (.ref f52)))
  (l52:K.lookup f52=some ⟨oc52,od52,.func (fnOf "_law_by_text" "_law_by_text" (qag qbn) (qae qbn) (qab qbn) .none kV52 dc52 pm52 an52 cd52 ct52),sl52⟩)
  (c52:codeIn K cd52 "_law_by_text" = true)
  (k52:keepIn K (.ref f52)=true)
  (a53:nsIn K mainGlobals "_law_by_own" = some (some (.ref f53)))
  (l53:K.lookup f53=some ⟨oc53,od53,.func (fnOf "_law_by_own" "_law_by_own" (qag qbz) (qae qbz) (qab qbz) .none kV53 dc53 pm53 an53 cd53 ct53),sl53⟩)
  (c53:codeIn K cd53 "_law_by_own" = true)
  (k53:keepIn K (.ref f53)=true)
  (a54:nsIn K mainGlobals "law" = some (some (.ref f54)))
  (l54:K.lookup f54=some ⟨oc54,od54,.func (fnOf "law" "law" (qag qlj) (qae qlj) (qab qlj) .none kV54 dc54 pm54 an54 cd54 ct54),sl54⟩)
  (c54:codeIn K cd54 "law" = true)
  (k54:keepIn K (.ref f54)=true)
  (pgRoll:PySem.W.plainGet K C_Roll Str.empty=true)
  (hdRoll:PySem.W.hasDictIn K C_Roll=true)
  (poRoll:PySem.W.plainOver K C_Roll=true)
  (saRoll:PySem.W.findIn K (.ref C_Roll) "__setattr__" = some (some (.builtin "object.__setattr__")))
  (mkRoll:PySem.W.makesIn K C_Roll=true)
  (kcRoll:keepIn K (.ref C_Roll)=true)
  (nRoll_kept_rule:PySem.W.findIn K (.ref C_Roll) "kept_rule" = some none)
  (nRoll_kept_day:PySem.W.findIn K (.ref C_Roll) "kept_day" = some none)
  (nRoll_kept_edges:PySem.W.findIn K (.ref C_Roll) "kept_edges" = some none)
  (nRoll_whole_ones:PySem.W.findIn K (.ref C_Roll) "whole_ones" = some none)
  (nRoll_cell_heaps:PySem.W.findIn K (.ref C_Roll) "cell_heaps" = some none)
  (pgRule:PySem.W.plainGet K C_Rule Str.empty=true)
  (hdRule:PySem.W.hasDictIn K C_Rule=true)
  (poRule:PySem.W.plainOver K C_Rule=true)
  (saRule:PySem.W.findIn K (.ref C_Rule) "__setattr__" = some (some (.builtin "object.__setattr__")))
  (mkRule:PySem.W.makesIn K C_Rule=true)
  (kcRule:keepIn K (.ref C_Rule)=true)
  (nRule_kept_steps:PySem.W.findIn K (.ref C_Rule) "kept_steps" = some none)
  (nRule_gone_age:PySem.W.findIn K (.ref C_Rule) "gone_age" = some none)
  (pgBook:PySem.W.plainGet K C_Book Str.empty=true)
  (hdBook:PySem.W.hasDictIn K C_Book=true)
  (poBook:PySem.W.plainOver K C_Book=true)
  (saBook:PySem.W.findIn K (.ref C_Book) "__setattr__" = some (some (.builtin "object.__setattr__")))
  (mkBook:PySem.W.makesIn K C_Book=true)
  (kcBook:keepIn K (.ref C_Book)=true)
  (nBook_kept_rule:PySem.W.findIn K (.ref C_Book) "kept_rule" = some none)
  (nBook_kept_day:PySem.W.findIn K (.ref C_Book) "kept_day" = some none)
  (nBook_kept_edges:PySem.W.findIn K (.ref C_Book) "kept_edges" = some none)
  (nBook_kept_marks:PySem.W.findIn K (.ref C_Book) "kept_marks" = some none)
  (nBook_kept_rolls:PySem.W.findIn K (.ref C_Book) "kept_rolls" = some none)
  (xCBookError:nsIn K mainGlobals "BookError" = some (some (.ref C_BookError)))
  (xCNoNumber:nsIn K mainGlobals "NoNumber" = some (some (.ref C_NoNumber)))
  (xCNoRule:nsIn K mainGlobals "NoRule" = some (some (.ref C_NoRule)))
  (xCBackward:nsIn K mainGlobals "Backward" = some (some (.ref C_Backward)))
  (xCNoName:nsIn K mainGlobals "NoName" = some (some (.ref C_NoName)))
  (xCNoMark:nsIn K mainGlobals "NoMark" = some (some (.ref C_NoMark)))
  (xEBookError:PySem.W.excIn K C_BookError qk9 "ValueError.__new__" = true)
  (xKBookError0:PySem.W.findIn K (.ref C_BookError) "__getattribute__" = some (some (.builtin "BaseException.__getattribute__")))
  (xKBookError1:PySem.W.findIn K (.ref C_BookError) "__getattr__" = some none)
  (xKBookError2:PySem.W.findIn K (.ref C_BookError) "__class__" = some (some (.builtin "object.__class__")))
  (xKBookError3:PySem.W.mroIn K C_BookError (.type "object")=some true)
  (xKBookError4:PySem.W.mroIn K C_BookError (.type "BaseException")=some true)
  (xKBookError5:PySem.W.ktsIn K C_BookError "BaseException" = true)
  (xHBookError_BookError:PySem.W.mroIn K C_BookError (.ref C_BookError)=some true)
  (xIBookError_BookError:PySem.W.kitOne K (.ref C_BookError) (.ref C_BookError)=some true)
  (xIBookError_NoNumber:PySem.W.kitOne K (.ref C_BookError) (.ref C_NoNumber)=some false)
  (xIBookError_NoRule:PySem.W.kitOne K (.ref C_BookError) (.ref C_NoRule)=some false)
  (xIBookError_Backward:PySem.W.kitOne K (.ref C_BookError) (.ref C_Backward)=some false)
  (xIBookError_NoName:PySem.W.kitOne K (.ref C_BookError) (.ref C_NoName)=some false)
  (xIBookError_NoMark:PySem.W.kitOne K (.ref C_BookError) (.ref C_NoMark)=some false)
  (xVBookError:PySem.W.kitOne K (.ref C_BookError) (.type "ValueError")=some true)
  (xENoNumber:PySem.W.excIn K C_NoNumber qk9 "ValueError.__new__" = true)
  (xKNoNumber0:PySem.W.findIn K (.ref C_NoNumber) "__getattribute__" = some (some (.builtin "BaseException.__getattribute__")))
  (xKNoNumber1:PySem.W.findIn K (.ref C_NoNumber) "__getattr__" = some none)
  (xKNoNumber2:PySem.W.findIn K (.ref C_NoNumber) "__class__" = some (some (.builtin "object.__class__")))
  (xKNoNumber3:PySem.W.mroIn K C_NoNumber (.type "object")=some true)
  (xKNoNumber4:PySem.W.mroIn K C_NoNumber (.type "BaseException")=some true)
  (xKNoNumber5:PySem.W.ktsIn K C_NoNumber "BaseException" = true)
  (xHNoNumber_BookError:PySem.W.mroIn K C_NoNumber (.ref C_BookError)=some true)
  (xINoNumber_BookError:PySem.W.kitOne K (.ref C_NoNumber) (.ref C_BookError)=some true)
  (xHNoNumber_NoNumber:PySem.W.mroIn K C_NoNumber (.ref C_NoNumber)=some true)
  (xINoNumber_NoNumber:PySem.W.kitOne K (.ref C_NoNumber) (.ref C_NoNumber)=some true)
  (xINoNumber_NoRule:PySem.W.kitOne K (.ref C_NoNumber) (.ref C_NoRule)=some false)
  (xINoNumber_Backward:PySem.W.kitOne K (.ref C_NoNumber) (.ref C_Backward)=some false)
  (xINoNumber_NoName:PySem.W.kitOne K (.ref C_NoNumber) (.ref C_NoName)=some false)
  (xINoNumber_NoMark:PySem.W.kitOne K (.ref C_NoNumber) (.ref C_NoMark)=some false)
  (xVNoNumber:PySem.W.kitOne K (.ref C_NoNumber) (.type "ValueError")=some true)
  (xENoRule:PySem.W.excIn K C_NoRule qk9 "ValueError.__new__" = true)
  (xKNoRule0:PySem.W.findIn K (.ref C_NoRule) "__getattribute__" = some (some (.builtin "BaseException.__getattribute__")))
  (xKNoRule1:PySem.W.findIn K (.ref C_NoRule) "__getattr__" = some none)
  (xKNoRule2:PySem.W.findIn K (.ref C_NoRule) "__class__" = some (some (.builtin "object.__class__")))
  (xKNoRule3:PySem.W.mroIn K C_NoRule (.type "object")=some true)
  (xKNoRule4:PySem.W.mroIn K C_NoRule (.type "BaseException")=some true)
  (xKNoRule5:PySem.W.ktsIn K C_NoRule "BaseException" = true)
  (xHNoRule_BookError:PySem.W.mroIn K C_NoRule (.ref C_BookError)=some true)
  (xINoRule_BookError:PySem.W.kitOne K (.ref C_NoRule) (.ref C_BookError)=some true)
  (xINoRule_NoNumber:PySem.W.kitOne K (.ref C_NoRule) (.ref C_NoNumber)=some false)
  (xHNoRule_NoRule:PySem.W.mroIn K C_NoRule (.ref C_NoRule)=some true)
  (xINoRule_NoRule:PySem.W.kitOne K (.ref C_NoRule) (.ref C_NoRule)=some true)
  (xINoRule_Backward:PySem.W.kitOne K (.ref C_NoRule) (.ref C_Backward)=some false)
  (xINoRule_NoName:PySem.W.kitOne K (.ref C_NoRule) (.ref C_NoName)=some false)
  (xINoRule_NoMark:PySem.W.kitOne K (.ref C_NoRule) (.ref C_NoMark)=some false)
  (xVNoRule:PySem.W.kitOne K (.ref C_NoRule) (.type "ValueError")=some true)
  (xKBackward0:PySem.W.findIn K (.ref C_Backward) "__getattribute__" = some (some (.builtin "BaseException.__getattribute__")))
  (xKBackward1:PySem.W.findIn K (.ref C_Backward) "__getattr__" = some none)
  (xKBackward2:PySem.W.findIn K (.ref C_Backward) "__class__" = some (some (.builtin "object.__class__")))
  (xKBackward3:PySem.W.mroIn K C_Backward (.type "object")=some true)
  (xKBackward4:PySem.W.mroIn K C_Backward (.type "BaseException")=some true)
  (xKBackward5:PySem.W.ktsIn K C_Backward "BaseException" = true)
  (xHBackward_BookError:PySem.W.mroIn K C_Backward (.ref C_BookError)=some true)
  (xIBackward_BookError:PySem.W.kitOne K (.ref C_Backward) (.ref C_BookError)=some true)
  (xIBackward_NoNumber:PySem.W.kitOne K (.ref C_Backward) (.ref C_NoNumber)=some false)
  (xIBackward_NoRule:PySem.W.kitOne K (.ref C_Backward) (.ref C_NoRule)=some false)
  (xHBackward_Backward:PySem.W.mroIn K C_Backward (.ref C_Backward)=some true)
  (xIBackward_Backward:PySem.W.kitOne K (.ref C_Backward) (.ref C_Backward)=some true)
  (xIBackward_NoName:PySem.W.kitOne K (.ref C_Backward) (.ref C_NoName)=some false)
  (xIBackward_NoMark:PySem.W.kitOne K (.ref C_Backward) (.ref C_NoMark)=some false)
  (xVBackward:PySem.W.kitOne K (.ref C_Backward) (.type "ValueError")=some true)
  (xENoName:PySem.W.excIn K C_NoName qk9 "ValueError.__new__" = true)
  (xKNoName0:PySem.W.findIn K (.ref C_NoName) "__getattribute__" = some (some (.builtin "BaseException.__getattribute__")))
  (xKNoName1:PySem.W.findIn K (.ref C_NoName) "__getattr__" = some none)
  (xKNoName2:PySem.W.findIn K (.ref C_NoName) "__class__" = some (some (.builtin "object.__class__")))
  (xKNoName3:PySem.W.mroIn K C_NoName (.type "object")=some true)
  (xKNoName4:PySem.W.mroIn K C_NoName (.type "BaseException")=some true)
  (xKNoName5:PySem.W.ktsIn K C_NoName "BaseException" = true)
  (xHNoName_BookError:PySem.W.mroIn K C_NoName (.ref C_BookError)=some true)
  (xINoName_BookError:PySem.W.kitOne K (.ref C_NoName) (.ref C_BookError)=some true)
  (xINoName_NoNumber:PySem.W.kitOne K (.ref C_NoName) (.ref C_NoNumber)=some false)
  (xINoName_NoRule:PySem.W.kitOne K (.ref C_NoName) (.ref C_NoRule)=some false)
  (xINoName_Backward:PySem.W.kitOne K (.ref C_NoName) (.ref C_Backward)=some false)
  (xHNoName_NoName:PySem.W.mroIn K C_NoName (.ref C_NoName)=some true)
  (xINoName_NoName:PySem.W.kitOne K (.ref C_NoName) (.ref C_NoName)=some true)
  (xINoName_NoMark:PySem.W.kitOne K (.ref C_NoName) (.ref C_NoMark)=some false)
  (xVNoName:PySem.W.kitOne K (.ref C_NoName) (.type "ValueError")=some true)
  (xENoMark:PySem.W.excIn K C_NoMark qk9 "ValueError.__new__" = true)
  (xKNoMark0:PySem.W.findIn K (.ref C_NoMark) "__getattribute__" = some (some (.builtin "BaseException.__getattribute__")))
  (xKNoMark1:PySem.W.findIn K (.ref C_NoMark) "__getattr__" = some none)
  (xKNoMark2:PySem.W.findIn K (.ref C_NoMark) "__class__" = some (some (.builtin "object.__class__")))
  (xKNoMark3:PySem.W.mroIn K C_NoMark (.type "object")=some true)
  (xKNoMark4:PySem.W.mroIn K C_NoMark (.type "BaseException")=some true)
  (xKNoMark5:PySem.W.ktsIn K C_NoMark "BaseException" = true)
  (xHNoMark_BookError:PySem.W.mroIn K C_NoMark (.ref C_BookError)=some true)
  (xINoMark_BookError:PySem.W.kitOne K (.ref C_NoMark) (.ref C_BookError)=some true)
  (xINoMark_NoNumber:PySem.W.kitOne K (.ref C_NoMark) (.ref C_NoNumber)=some false)
  (xINoMark_NoRule:PySem.W.kitOne K (.ref C_NoMark) (.ref C_NoRule)=some false)
  (xINoMark_Backward:PySem.W.kitOne K (.ref C_NoMark) (.ref C_Backward)=some false)
  (xINoMark_NoName:PySem.W.kitOne K (.ref C_NoMark) (.ref C_NoName)=some false)
  (xHNoMark_NoMark:PySem.W.mroIn K C_NoMark (.ref C_NoMark)=some true)
  (xINoMark_NoMark:PySem.W.kitOne K (.ref C_NoMark) (.ref C_NoMark)=some true)
  (xVNoMark:PySem.W.kitOne K (.ref C_NoMark) (.type "ValueError")=some true)
  (z_all:nsIn K mainGlobals "all" = some none)
  (z_any:nsIn K mainGlobals "any" = some none)
  (z_bool:nsIn K mainGlobals "bool" = some none)
  (z_int:nsIn K mainGlobals "int" = some none)
  (z_isinstance:nsIn K mainGlobals "isinstance" = some none)
  (z_len:nsIn K mainGlobals "len" = some none)
  (z_list:nsIn K mainGlobals "list" = some none)
  (z_max:nsIn K mainGlobals "max" = some none)
  (z_min:nsIn K mainGlobals "min" = some none)
  (z_range:nsIn K mainGlobals "range" = some none)
  (z_set:nsIn K mainGlobals "set" = some none)
  (z_sorted:nsIn K mainGlobals "sorted" = some none)
  (z_str:nsIn K mainGlobals "str" = some none)
  (z_sum:nsIn K mainGlobals "sum" = some none)
  (z_tuple:nsIn K mainGlobals "tuple" = some none)
  (z_zip:nsIn K mainGlobals "zip" = some none)
  (y_MOST_STEPS:nsIn K mainGlobals "MOST_STEPS" = some (some (.int 5 t_MOST_STEPS)))
  (y_LETTERS:nsIn K mainGlobals "LETTERS" = some (some (.str "abcdefghijklmnopqrstuvwxyz" t_LETTERS)))
  (y_LONGEST_NAME:nsIn K mainGlobals "LONGEST_NAME" = some (some (.int 12 t_LONGEST_NAME)))
  (y_LONGEST_MARK:nsIn K mainGlobals "LONGEST_MARK" = some (some (.int 8 t_LONGEST_MARK)))
  (y_MOST_MARKS:nsIn K mainGlobals "MOST_MARKS" = some (some (.int 8 t_MOST_MARKS))):∃ C_Roll C_Rule C_Book C_BookError C_NoNumber C_NoRule C_Backward C_NoName C_NoMark,Txt K mg C_Roll C_Rule C_Book C_BookError C_NoNumber C_NoRule C_Backward C_NoName C_NoMark:=by
 refine ⟨C_Roll,C_Rule,C_Book,C_BookError,C_NoNumber,C_NoRule,C_Backward,C_NoName,C_NoMark,?_⟩;exact ⟨⟨f0,_,qao l0 c0 k0,mg_of X G a0⟩,
  ⟨f1,_,qao l1 c1 k1,mg_of X G a1⟩,
  ⟨f2,_,qao l2 c2 k2,mg_of X G a2⟩,
  ⟨f3,_,qao l3 c3 k3,mg_of X G a3⟩,
  ⟨f4,_,qao l4 c4 k4,mg_of X G a4⟩,
  ⟨f5,_,qao l5 c5 k5,mg_of X G a5⟩,
  ⟨f6,_,qao l6 c6 k6,mg_of X G a6⟩,
  ⟨f7,_,qao l7 c7 k7,mg_of X G a7⟩,
  ⟨f8,_,qao l8 c8 k8,mg_of X G a8⟩,
  ⟨f9,_,qao l9 c9 k9,mg_of X G a9⟩,
  ⟨f10,_,qao l10 c10 k10,mg_of X G a10⟩,
  ⟨f11,_,qao l11 c11 k11,⟨mkRoll,a11,i11,kcRoll⟩⟩,
  ⟨f12,_,dT12,_,_,dt12,⟨⟨_,_,_,_,_,_,_,_,_,rfl,l12,c12⟩,k12⟩,⟨a12,i12,k12⟩,rfl,d12,rfl⟩,
  ⟨f13,_,qao l13 c13 k13,⟨a13,i13,k13⟩⟩,
  ⟨f14,_,qao l14 c14 k14,⟨a14,i14,k14⟩⟩,
  ⟨f15,_,qao l15 c15 k15,⟨a15,i15,k15⟩⟩,
  ⟨f16,_,qao l16 c16 k16,⟨a16,i16,k16⟩⟩,
  ⟨f17,_,qao l17 c17 k17,⟨a17,i17,k17⟩⟩,
  ⟨f18,_,qao l18 c18 k18,⟨a18,i18,k18⟩⟩,
  ⟨f19,_,qao l19 c19 k19,⟨a19,i19,k19⟩⟩,
  ⟨f20,_,qao l20 c20 k20,⟨a20,i20,k20⟩⟩,
  ⟨f21,_,qao l21 c21 k21,mg_of X G a21⟩,
  ⟨f22,_,qao l22 c22 k22,mg_of X G a22⟩,
  ⟨f23,_,qao l23 c23 k23,mg_of X G a23⟩,
  ⟨f24,_,qao l24 c24 k24,mg_of X G a24⟩,
  ⟨f25,_,qao l25 c25 k25,mg_of X G a25⟩,
  ⟨f26,_,qao l26 c26 k26,mg_of X G a26⟩,
  ⟨f27,_,dT27,_,_,⟨⟨_,_,_,_,_,_,_,_,_,rfl,l27,c27⟩,k27⟩,⟨mkRule,a27,i27,kcRule⟩,rfl,d27,rfl⟩,
  ⟨f28,_,qao l28 c28 k28,⟨a28,i28,k28⟩⟩,
  ⟨f29,_,qao l29 c29 k29,⟨a29,i29,k29⟩⟩,
  ⟨f30,_,qao l30 c30 k30,mg_of X G a30⟩,
  ⟨f31,_,qao l31 c31 k31,mg_of X G a31⟩,
  ⟨f32,_,qao l32 c32 k32,mg_of X G a32⟩,
  ⟨f33,_,qao l33 c33 k33,mg_of X G a33⟩,
  ⟨f34,_,qao l34 c34 k34,mg_of X G a34⟩,
  ⟨f35,_,qao l35 c35 k35,mg_of X G a35⟩,
  ⟨f36,_,qao l36 c36 k36,mg_of X G a36⟩,
  ⟨f37,_,qao l37 c37 k37,mg_of X G a37⟩,
  ⟨f38,_,qao l38 c38 k38,⟨mkBook,a38,i38,kcBook⟩⟩,
  ⟨f39,_,dT39,_,_,⟨⟨_,_,_,_,_,_,_,_,_,rfl,l39,c39⟩,k39⟩,⟨a39,i39,k39⟩,rfl,d39,rfl⟩,
  ⟨f40,_,qao l40 c40 k40,⟨a40,i40,k40⟩⟩,
  ⟨f41,_,qao l41 c41 k41,⟨a41,i41,k41⟩⟩,
  ⟨f42,_,qao l42 c42 k42,⟨a42,i42,k42⟩⟩,
  ⟨f43,_,qao l43 c43 k43,⟨a43,i43,k43⟩⟩,
  ⟨f44,_,qao l44 c44 k44,⟨a44,i44,k44⟩⟩,
  ⟨f45,_,qao l45 c45 k45,⟨a45,i45,k45⟩⟩,
  ⟨f46,_,qao l46 c46 k46,mg_of X G a46⟩,
  ⟨f47,_,qao l47 c47 k47,mg_of X G a47⟩,
  ⟨f48,_,qao l48 c48 k48,mg_of X G a48⟩,
  ⟨f49,_,qao l49 c49 k49,mg_of X G a49⟩,
  ⟨f50,_,qao l50 c50 k50,mg_of X G a50⟩,
  ⟨f51,_,qao l51 c51 k51,mg_of X G a51⟩,
  ⟨f52,_,qao l52 c52 k52,mg_of X G a52⟩,
  ⟨f53,_,qao l53 c53 k53,mg_of X G a53⟩,
  ⟨f54,_,qao l54 c54 k54,mg_of X G a54⟩,
  ⟨pgRoll,hdRoll,poRoll,saRoll⟩,
  mg_of X G aCRoll,
  nRoll_kept_rule,
  nRoll_kept_day,
  nRoll_kept_edges,
  nRoll_whole_ones,
  nRoll_cell_heaps,
  ⟨pgRule,hdRule,poRule,saRule⟩,
  mg_of X G aCRule,
  nRule_kept_steps,
  nRule_gone_age,
  ⟨pgBook,hdBook,poBook,saBook⟩,
  mg_of X G aCBook,
  nBook_kept_rule,
  nBook_kept_day,
  nBook_kept_edges,
  nBook_kept_marks,
  nBook_kept_rolls,
  mg_of X G xCBookError,
  mg_of X G xCNoNumber,
  mg_of X G xCNoRule,
  mg_of X G xCBackward,
  mg_of X G xCNoName,
  mg_of X G xCNoMark,
  xEBookError,
  ⟨xKBookError0,xKBookError1,xKBookError2,xKBookError3,xKBookError4,xKBookError5⟩,
  xHBookError_BookError,
  xIBookError_BookError,
  xIBookError_NoNumber,
  xIBookError_NoRule,
  xIBookError_Backward,
  xIBookError_NoName,
  xIBookError_NoMark,
  xVBookError,
  xENoNumber,
  ⟨xKNoNumber0,xKNoNumber1,xKNoNumber2,xKNoNumber3,xKNoNumber4,xKNoNumber5⟩,
  xHNoNumber_BookError,
  xINoNumber_BookError,
  xHNoNumber_NoNumber,
  xINoNumber_NoNumber,
  xINoNumber_NoRule,
  xINoNumber_Backward,
  xINoNumber_NoName,
  xINoNumber_NoMark,
  xVNoNumber,
  xENoRule,
  ⟨xKNoRule0,xKNoRule1,xKNoRule2,xKNoRule3,xKNoRule4,xKNoRule5⟩,
  xHNoRule_BookError,
  xINoRule_BookError,
  xINoRule_NoNumber,
  xHNoRule_NoRule,
  xINoRule_NoRule,
  xINoRule_Backward,
  xINoRule_NoName,
  xINoRule_NoMark,
  xVNoRule,
  ⟨xKBackward0,xKBackward1,xKBackward2,xKBackward3,xKBackward4,xKBackward5⟩,
  xHBackward_BookError,
  xIBackward_BookError,
  xIBackward_NoNumber,
  xIBackward_NoRule,
  xHBackward_Backward,
  xIBackward_Backward,
  xIBackward_NoName,
  xIBackward_NoMark,
  xVBackward,
  xENoName,
  ⟨xKNoName0,xKNoName1,xKNoName2,xKNoName3,xKNoName4,xKNoName5⟩,
  xHNoName_BookError,
  xINoName_BookError,
  xINoName_NoNumber,
  xINoName_NoRule,
  xINoName_Backward,
  xHNoName_NoName,
  xINoName_NoName,
  xINoName_NoMark,
  xVNoName,
  xENoMark,
  ⟨xKNoMark0,xKNoMark1,xKNoMark2,xKNoMark3,xKNoMark4,xKNoMark5⟩,
  xHNoMark_BookError,
  xINoMark_BookError,
  xINoMark_NoNumber,
  xINoMark_NoRule,
  xINoMark_Backward,
  xINoMark_NoName,
  xHNoMark_NoMark,
  xINoMark_NoMark,
  xVNoMark,
  PySem.W.mg_none_of X G z_all,
  PySem.W.mg_none_of X G z_any,
  PySem.W.mg_none_of X G z_bool,
  PySem.W.mg_none_of X G z_int,
  PySem.W.mg_none_of X G z_isinstance,
  PySem.W.mg_none_of X G z_len,
  PySem.W.mg_none_of X G z_list,
  PySem.W.mg_none_of X G z_max,
  PySem.W.mg_none_of X G z_min,
  PySem.W.mg_none_of X G z_range,
  PySem.W.mg_none_of X G z_set,
  PySem.W.mg_none_of X G z_sorted,
  PySem.W.mg_none_of X G z_str,
  PySem.W.mg_none_of X G z_sum,
  PySem.W.mg_none_of X G z_tuple,
  PySem.W.mg_none_of X G z_zip,
  ⟨_,mg_of X G y_MOST_STEPS⟩,
  ⟨_,mg_of X G y_LETTERS⟩,
  ⟨_,mg_of X G y_LONGEST_NAME⟩,
  ⟨_,mg_of X G y_LONGEST_MARK⟩,
  ⟨_,mg_of X G y_MOST_MARKS⟩⟩
section
variable {P:Program} {w:World} {K:Frag} {mg:Str->Option Value} {base:Heap} {C_Roll C_Rule C_Book C_BookError C_NoNumber C_NoRule C_Backward C_NoName C_NoMark:Addr}
theorem qfa (T:Txt K mg C_Roll C_Rule C_Book C_BookError C_NoNumber C_NoRule C_Backward C_NoName C_NoMark):qce P w K mg base 1 "is_whole" ["thing"] qjm:=by
 obtain ⟨f,fd,F,hm⟩:=T.f_is_whole;have nd:=sc_is_whole.nd;refine F.def_ hm (F.ok sc_is_whole (λvs H Q E h=>?_) (λcdv A outer s H vs Q E hr h=>?_)) (F.binds λ_ _ _ _ _ _ us hl=>by obtain ⟨_,rfl⟩:=L2.lq1 hl;rfl)
 ·obtain ⟨x,rfl,_⟩:=h;rfl
 ·obtain ⟨x,rfl,i,rfl,q⟩:=h
  refine ⟨_,(qaf (qaw (qer (qan qd3 rfl T.b_isinstance qbj (qaa (pv 0) (qaa (qe2 (v:=.ty "int") rfl T.b_int qr7 rfl) qac))) (qft (qpa (qan qd3 rfl T.b_isinstance qbj (qaa (pv 0) (qaa (qe2 (v:=.ty "bool") rfl T.b_bool qqg rfl) qac)))))))),?_⟩;refine ⟨_,rfl,_,_,_,true,rfl,.int i,qf6 _,_,rfl,qef ?_⟩;exact ⟨_,rfl,_,_,_,false,rfl,.int i,qfh _,_,rfl,q⟩
theorem qnk (T:Txt K mg C_Roll C_Rule C_Book C_BookError C_NoNumber C_NoRule C_Backward C_NoName C_NoMark):qce P w K mg base 2 "is_step" ["thing"] qlh:=by
 obtain ⟨f,fd,F,hm⟩:=T.f_is_step;have nd:=sc_is_step.nd;refine F.def_ hm (F.ok sc_is_step (λvs H Q E h=>?_) (λcdv A outer s H vs Q E hr h=>?_)) (F.binds λ_ _ _ _ _ _ us hl=>by obtain ⟨_,rfl⟩:=L2.lq1 hl;rfl)
 ·obtain ⟨x,p,rfl,_⟩:=h;rfl
 ·obtain ⟨x,p,rfl,⟨a,rfl,ha⟩,q⟩:=h
  refine ⟨_,(qaf (qaw (qer (qan qd3 rfl T.b_isinstance qbj (qaa (pv 0) (qaa (qe2 (v:=.ty "tuple") rfl T.b_tuple qod rfl) qac))) (qer (qbt qkx (qan qa3 rfl T.b_len qc6 (qaa (pv 0) qac)) qah (qa2 _)) (qer (qa7 (qfa T) (hr.mono (by decide)) rfl (qaa (qel qee (pv 0) qah (λ_ _=>rfl)) qac)) (qft (qa7 (qfa T) (hr.mono (by decide)) rfl (qaa (qel qee (pv 0) qah (λ_ _=>rfl)) qac)))))))),?_⟩;refine ⟨_,rfl,_,_,_,true,rfl,.tup ha,kit_tuple _,_,rfl,qef ?_⟩;refine ⟨_,rfl,a,_,rfl,.inr (SqT.of ha),rfl,_,rfl,qef ?_⟩;refine ⟨_,rfl,a,_,0,_,rfl,rfl,SqT.of ha,rfl,_,rfl,_,rfl,_,rfl,qef ?_⟩;exact ⟨_,rfl,a,_,1,_,rfl,rfl,SqT.of ha,rfl,_,rfl,_,rfl,q⟩
theorem qfn (T:Txt K mg C_Roll C_Rule C_Book C_BookError C_NoNumber C_NoRule C_Backward C_NoName C_NoMark):qce P w K mg base 3 "check_one_step" ["step"] qe9:=by
 obtain ⟨f,fd,F,hm⟩:=T.f_check_one_step;have nd:=sc_check_one_step.nd;refine F.def_ hm (F.ok sc_check_one_step (λvs H Q E h=>?_) (λcdv A outer s H vs Q E hr h=>?_)) (F.binds λ_ _ _ _ _ _ us hl=>by obtain ⟨_,rfl⟩:=L2.lq1 hl;rfl)
 ·obtain ⟨x,p,rfl,_⟩:=h;rfl
 ·obtain ⟨x,p,rfl,hp,h1,h2,q⟩:=h
  obtain ⟨a,rfl,ha⟩:=id hp;refine ⟨_,(qad (qbs (qdm (qcl (qa7 (qnk T) (hr.mono (by decide)) rfl (qaa (pv 0) qac))))
    (qaf qcx)
    qau)
   (qad (qbs (qax qky (qel qee (pv 0) qah (λ_ _=>rfl)) qah (qa2 _))
    (qaf qcx)
    qau)
   (qaf (qbs (qax qky (qel qee (pv 0) qah (λ_ _=>rfl)) qah (qa2 _))
    (qaf qcx)
    qau)))),?_⟩
  refine ⟨_,rfl,_,p,rfl,hp,_,rfl,qe1 ?_⟩;refine ⟨_,rfl,a,_,0,_,rfl,rfl,SqT.of ha,rfl,_,_,rfl,rfl,_,rfl,qk4 (λz=>?_) λ_=>?_⟩
  ·exact absurd (of_decide_eq_true z) (by omega)
  refine ⟨_,rfl,a,_,1,_,rfl,rfl,SqT.of ha,rfl,_,_,rfl,rfl,_,rfl,qk4 (λz=>?_) λ_=>q⟩;exact absurd (of_decide_eq_true z) (by omega)
theorem qfb (T:Txt K mg C_Roll C_Rule C_Book C_BookError C_NoNumber C_NoRule C_Backward C_NoName C_NoMark):qce P w K mg base 1 "check_next_step" ["step", "behind"] qcy:=by
 obtain ⟨f,fd,F,hm⟩:=T.f_check_next_step;have nd:=sc_check_next_step.nd;refine F.def_ hm (F.ok sc_check_next_step (λvs H Q E h=>?_) (λcdv A outer s H vs Q E hr h=>?_)) (F.binds λ_ _ _ _ _ _ us hl=>by obtain ⟨_,_,rfl⟩:=L2.lq2 hl;rfl)
 ·obtain ⟨x,y,p,p',rfl,_⟩:=h;rfl
 ·obtain ⟨x,y,p,p',rfl,⟨a,rfl,ha⟩,⟨b,rfl,hb⟩,h0,h1,h2,q⟩:=h
  refine ⟨_,(qad (qbs (qax qky (qel qee (pv 1) qah (λ_ _=>rfl)) (qel qee (pv 0) qah (λ_ _=>rfl)) (qa2 _))
    (qaf qcx)
    qau)
   (qaf (qbs (qax qp0 (qas qbc (qel qee (pv 1) qah (λ_ _=>rfl)) (qel qee (pv 0) qah (λ_ _=>rfl))) qah (qa2 _))
    (qaf qcx)
    qau))),?_⟩
  refine ⟨_,rfl,b,_,0,_,rfl,rfl,SqT.of hb,rfl,_,rfl,a,_,0,_,rfl,rfl,SqT.of ha,rfl,_,_,rfl,rfl,_,rfl,qk4 (λz=>?_) λ_=>?_⟩
  ·exact absurd (of_decide_eq_true z) (by omega)
  refine ⟨_,rfl,b,_,1,_,rfl,rfl,SqT.of hb,rfl,_,rfl,a,_,1,_,rfl,rfl,SqT.of ha,rfl,_,_,rfl,rfl,(by show 0<p.2;omega),rfl,_,rfl,?_⟩;refine qr5 ?_ q;exact congrArg V.int h2
theorem qhq (T:Txt K mg C_Roll C_Rule C_Book C_BookError C_NoNumber C_NoRule C_Backward C_NoName C_NoMark):qce P w K mg base 4 "check_steps" ["steps"] qeg:=by
 obtain ⟨f,fd,F,hm⟩:=T.f_check_steps;have nd:=sc_check_steps.nd;refine F.def_ hm (F.ok sc_check_steps (λvs H Q E h=>?_) (λcdv A outer s H vs Q E hr h=>?_)) (F.binds λ_ _ _ _ _ _ us hl=>by obtain ⟨_,rfl⟩:=L2.lq1 hl;rfl)
 ·obtain ⟨l,xs,ps,rfl,_⟩:=h;rfl
 ·obtain ⟨l,xs,ps,rfl,hl,hp,G,q⟩:=h
  have hlen:=hp.length;have g1:=G.lo;have g2:=G.hi;refine ⟨_,(qad (qbs (PW.pt (qkv (qax qky (qan qa3 rfl T.b_len qc6 (qaa (pv 0) qac)) qah (qa2 _)) (qgv (qax qru (qan qa3 rfl T.b_len qc6 (qaa (pv 0) qac)) (qfs (v:=.int 5) rfl T.c_MOST_STEPS.choose_spec ⟨_,rfl⟩) (qa2 _)))))
    (qaf qcx)
    qau)
   (qad (qfv PassesOwn.never rfl (qcd (pv 0)) (qaq (i:=1) nd rfl (Or.inl rfl))
    (qaf (qcm (qa7 (qfn T) (hr.mono (by decide)) rfl (qaa (pv 1) qac)))))
   (qaf (qfv PassesOwn.never rfl (qj7 rfl T.b_zip (qaa (pv 0) (qaa (qch qhg (pv 0) (qde qah) qdd) qac))) (qfu rfl (qbf (qaq (i:=1) nd rfl (Or.inl rfl)) (qbf (qaq (i:=2) nd rfl (Or.inl rfl)) qej)))
    (qaf (qcm (qa7 (qfb T) (hr.mono (by decide)) rfl (qaa (pv 1) (qaa (pv 2) qac))))))))),?_⟩
  refine ⟨_,rfl,l,xs,rfl,.inl (SqL.of hl),_,_,rfl,rfl,_,rfl,qk4 (λz=>?_) λ_=>?_⟩
  ·exact absurd (of_decide_eq_true z) (by omega)
  refine ⟨_,rfl,l,xs,rfl,.inl (SqL.of hl),_,_,rfl,rfl,_,rfl,qk4 (λz=>?_) λ_=>?_⟩
  ·exact absurd (of_decide_eq_true z) (by omega)
  refine ⟨_,rfl,l,rfl,⟨_,SqL.of hl⟩,qg7 (xs:=xs) (λi σ H2=>H2=H/\∃ v,σ=[some (.ref l),v,none]) ⟨rfl,none,rfl⟩ (λi σ H2 _ h2=>by rw[h2.1];exact SqL.of hl) ?_ ?_⟩
  ·rintro i x σ H2 hi ⟨rfl,v,rfl⟩
   obtain ⟨p,hpi,hx⟩:=hp.get hi;obtain ⟨e1,e2⟩:=G.each i p hpi;exact ⟨_,rfl,_,p,rfl,hx,e1,e2,rfl,_,rfl⟩
  ·rintro σ H2 ⟨rfl,v,rfl⟩
   refine ⟨_,rfl,_,rfl,_,rfl,_,xs,rfl,SqL.of hl,λl2 H3 n3=>?_⟩;refine ⟨l,l2,xs,_,rfl,SqL.of (n3.same _ _ hl),SqL.of n3.at_,qog (xs:=xs) (ys:=qlv xs (some 1) none) (λi σ H4=>Same H3 H4/\∃ u v,σ=[some (.ref l),u,v]) ⟨Same.refl _,_,_,rfl⟩
    (λi σ H4 h4=>⟨SqL.of (h4.1 _ _ (n3.same _ _ hl)),SqL.of (h4.1 _ _ n3.at_)⟩) ?_ ?_⟩
   ·rintro i x y σ H4 p H5 hx hy n5 ⟨s4,u,v',rfl⟩
    obtain ⟨p1,hp1,hx1⟩:=hp.get hx;have hy':xs[i+1]?=some y:=by
     have:qlv xs (some 1) none=xs.drop 1:=qwd xs;rw[this,List.getElem?_drop] at hy
     rwa [Nat.add_comm] at hy
    obtain ⟨p2,hp2,hx2⟩:=hp.get hy';obtain ⟨e1,e2⟩:=G.next i p1 p2 hp1 hp2;obtain ⟨_,e3⟩:=G.each i p1 hp1;have s5:Same H2 H5:=n3.same.trans (s4.trans n5.same);refine ⟨p,_,rfl,SqT.of n5.at_,rfl,_,_,rfl,_,_,rfl,rfl,?_⟩;exact ⟨_,rfl,_,rfl,x,y,p1,p2,rfl,hx1.same s5,hx2.same s5,e3,e1,e2,s4.trans n5.same,_,_,rfl⟩
   ·rintro i σ H4 _ ⟨s4,_,_,_⟩
    exact q H4 (n3.same.trans s4)
theorem qio (T:Txt K mg C_Roll C_Rule C_Book C_BookError C_NoNumber C_NoRule C_Backward C_NoName C_NoMark):qce P w K mg base 2 "check_gone" ["gone", "last_age"] qhm:=by
 obtain ⟨f,fd,F,hm⟩:=T.f_check_gone;have nd:=sc_check_gone.nd;refine F.def_ hm (F.ok sc_check_gone (λvs H Q E h=>?_) (λcdv A outer s H vs Q E hr h=>?_)) (F.binds λ_ _ _ _ _ _ us hl=>by obtain ⟨_,_,rfl⟩:=L2.lq2 hl;rfl)
 ·obtain ⟨g,last,rfl,_⟩:=h;rfl
 ·obtain ⟨g,last,rfl,hg,q⟩:=h
  refine ⟨_,(qad (qbs (qax qhz (pv 0) qgt (qa2 _))
    (qaf qpx)
    qau)
   (qaf (qbs (PW.pt (qkv (qdm (qcl (qa7 (qfa T) (hr.mono (by decide)) rfl (qaa (pv 0) qac)))) (qgv (qax qky (pv 0) (pv 1) (qa2 _)))))
    (qaf qcx)
    qau))),?_⟩
  cases g with
  | none=>exact ⟨_,rfl,rfl,_,rfl,qef q⟩
  | some z =>
   refine ⟨_,rfl,rfl,_,rfl,qe1 ?_⟩;refine ⟨_,rfl,_,rfl,z,rfl,_,rfl,qe1 ?_⟩;refine ⟨_,rfl,_,rfl,_,_,rfl,rfl,_,rfl,qk4 (λy=>?_) λ_=>q⟩;exact absurd (of_decide_eq_true y) (by have:=hg z rfl;omega)
theorem qjn (T:Txt K mg C_Roll C_Rule C_Book C_BookError C_NoNumber C_NoRule C_Backward C_NoName C_NoMark):∃ f fd dT o n,qff P w K mg base CX0 5 f fd ["self", "steps", "gone"] (qhn C_Rule)/\FunD K "__init__" "Rule.__init__" qb2 (.ref dT) f fd/\Mk K C_Rule f/\fd.defaults=.ref dT/\K.lookup dT=some o/\o.data=.seq #[.none] n:=by
 obtain ⟨f,fd,dT,o,n,F,M,h1,h2,h3⟩:=T.f_Rule_init;have nd:=sc_Rule_init.nd;refine ⟨f,fd,dT,o,n,(F.ok sc_Rule_init (λvs H Q E h=>?_) (λcdv A outer s H vs Q E hr h=>?_)),F,M,h1,h2,h3⟩
 ·obtain ⟨r,dx,l,xs,ps,g,rfl,_⟩:=h;rfl
 ·obtain ⟨r,dx,l,xs,ps,g,rfl,hro,hl,hp,G,hg,k⟩:=h
  have g1:=G.lo;refine ⟨_,(qad (qaz (i:=3) nd rfl (Or.inl rfl) (qdo qd5 rfl T.b_list qe5 (qaa (pv 1) qac)))
   (qad (qcm (qa7 (qhq T) (hr.mono (by decide)) rfl (qaa (pv 3) qac)))
   (qad (qcm (qa7 (qio T) (hr.mono (by decide)) rfl (qaa (pv 2) (qaa (qel qee (qel qf0 (pv 3) (qpz ql4 qah) (λ_ _=>rfl)) qah (λ_ _=>rfl)) qac))))
   (qad (qb1 (pv 0) (pv 3) rfl)
   (qaf (qb1 (pv 0) (pv 2) rfl)))))),?_⟩
  refine ⟨_,rfl,l,xs,rfl,.inl (SqL.of hl),λl' H1 n1=>?_⟩;refine ⟨_,rfl,l',xs,ps,rfl,n1.at_,hp.same n1.same,G,λH2 s2=>?_⟩;have hl2:=s2 _ _ n1.at_;have hp2:=(hp.same n1.same).same s2;have hlen:=hp.length;obtain ⟨v,hv⟩:∃ v,xs[xs.length-1]?=some v:=⟨xs[xs.length-1]'(by omega),List.getElem?_eq_getElem _⟩;obtain ⟨p,hpv,a,rfl,ha⟩:=hp2.get hv;refine ⟨_,rfl,_,rfl,_,rfl,l',xs,-1,_,rfl,rfl,SqL.of hl2,qnh hv,a,_,0,_,rfl,rfl,SqT.of ha,rfl,g,p.1,rfl,hg p (by rw[<- hlen];exact hpv),?_⟩;have hr2:=s2 _ _ (n1.same _ _ hro);have nrl:r≠l':=qaj hro n1.fresh;refine ⟨_,rfl,_,rfl,r,C_Rule,dx,[],rfl,hr2,T.cl_Rule,T.na_Rule_kept_steps,(by show 0<1000;decide),λH3 b3 h3=>?_⟩;refine ⟨_,rfl,_,rfl,r,C_Rule,dx,_,rfl,h3,T.cl_Rule,T.na_Rule_gone_age,(by show 1<1000;decide),λH4 b4 h4=>?_⟩;refine k l' _ n1.fresh ⟨⟨dx,h4⟩,xs,b4 _ _ (b3 _ _ hl2 nrl.symm) nrl.symm,(hp2.but b3 hr2 qc8).but b4 h3 qc8⟩ λb o e hb=>?_
  exact b4 _ _ (b3 _ _ (s2 _ _ (n1.same _ _ e)) hb) hb
theorem qox (T:Txt K mg C_Roll C_Rule C_Book C_BookError C_NoNumber C_NoRule C_Backward C_NoName C_NoMark):qtr P w K mg base C_Rule 5 "Rule" ["self", "steps", "gone"] [.none] (qhn C_Rule):=by
 obtain ⟨f,fd,dT,o,n,hf,F,M,h1,h2,h3⟩:=qjn (P:=P) (w:=w) (base:=base) T;refine ⟨f,fd,hf,T.mg_Rule,M,qmq h1 h2 h3 λus hl=>?_⟩;obtain ⟨oc,od,kV,doc,pm,an,cdv,ct,osl,rfl,lk,hcd⟩:=F.ex;obtain ⟨a,b,rfl⟩:=qwc (us:=us) (by simpa using hl);exact ⟨_,rfl,rfl⟩
theorem qfj (T:Txt K mg C_Roll C_Rule C_Book C_BookError C_NoNumber C_NoRule C_Backward C_NoName C_NoMark):qk5 P w K mg base C_Rule 1 "steps" ["self"] (qik C_Rule):=by
 obtain ⟨f,fd,F,hm⟩:=T.f_Rule_steps;have nd:=sc_Rule_steps.nd;refine ⟨f,fd,(F.ok sc_Rule_steps (λvs H Q E h=>?_) (λcdv A outer s H vs Q E hr h=>?_)),hm,(F.binds λ_ _ _ _ _ _ us hl=>by obtain ⟨_,rfl⟩:=L2.lq1 hl;rfl)⟩
 ·obtain ⟨r,l,ps,g,xs,rfl,_⟩:=h;rfl
 ·obtain ⟨r,l,ps,g,xs,rfl,R,hl,k⟩:=h
  obtain ⟨dx,hob⟩:=R.ob;refine ⟨_,(qaf (qaw (qdo qd5 rfl T.b_list qe5 (qaa (qdk (pv 0) rfl) qac)))),?_⟩;exact ⟨_,rfl,r,C_Rule,dx,_,_,rfl,hob,T.cl_Rule,T.na_Rule_kept_steps,qow _ _,l,xs,rfl,.inl (SqL.of hl),k⟩
end
section
variable {P:Program} {w:World} {K:Frag} {mg:Str->Option Value} {base:Heap} {C_Roll C_Rule C_Book C_BookError C_NoNumber C_NoRule C_Backward C_NoName C_NoMark:Addr}
theorem qjo (T:Txt K mg C_Roll C_Rule C_Book C_BookError C_NoNumber C_NoRule C_Backward C_NoName C_NoMark):qk5 P w K mg base C_Rule 1 "gone" ["self"] (qni C_Rule):=by
 obtain ⟨f,fd,F,hm⟩:=T.f_Rule_gone;have nd:=sc_Rule_gone.nd;refine ⟨f,fd,(F.ok sc_Rule_gone (λvs H Q E h=>?_) (λcdv A outer s H vs Q E hr h=>?_)),hm,(F.binds λ_ _ _ _ _ _ us hl=>by obtain ⟨_,rfl⟩:=L2.lq1 hl;rfl)⟩
 ·obtain ⟨r,l,ps,g,rfl,_⟩:=h;rfl
 ·obtain ⟨r,l,ps,g,rfl,R,q⟩:=h
  obtain ⟨dx,hob⟩:=R.ob;refine ⟨_,(qaf (qaw (qdk (pv 0) rfl))),?_⟩;exact ⟨_,rfl,r,C_Rule,dx,_,_,rfl,hob,T.cl_Rule,T.na_Rule_gone_age,quw _ _,q⟩
end
section
variable {P:Program} {w:World} {K:Frag} {mg:Str->Option Value} {base:Heap} {C_Roll C_Rule C_Book C_BookError C_NoNumber C_NoRule C_Backward C_NoName C_NoMark:Addr}
theorem qip (T:Txt K mg C_Roll C_Rule C_Book C_BookError C_NoNumber C_NoRule C_Backward C_NoName C_NoMark):qce P w K mg base 1 "floored" ["number", "width"] qli:=by
 obtain ⟨f,fd,F,hm⟩:=T.f_floored;have nd:=sc_floored.nd;refine F.def_ hm (F.ok sc_floored (λvs H Q E h=>?_) (λcdv A outer s H vs Q E hr h=>?_)) (F.binds λ_ _ _ _ _ _ us hl=>by obtain ⟨_,_,rfl⟩:=L2.lq2 hl;rfl)
 ·obtain ⟨n,w',rfl,_⟩:=h;rfl
 ·obtain ⟨n,w',rfl,h1,h2,h3,h4,q⟩:=h
  have hb:=qut h1 (by decide:(0:Int)<=10 ^ 46) h3 h4;refine ⟨_,(qaf (qaw (qas qqd (qas qoa (pv 0) (pv 1)) (pv 1)))),?_⟩;exact ⟨_,rfl,_,rfl,_,_,rfl,rfl,⟨by omega,by omega⟩,_,rfl,_,_,rfl,rfl,⟨⟨by omega,by omega⟩,by omega,by omega⟩,q⟩
theorem qlk (T:Txt K mg C_Roll C_Rule C_Book C_BookError C_NoNumber C_NoRule C_Backward C_NoName C_NoMark):qce P w K mg base 2 "gone_cut" ["rule", "day"] (qgb C_Rule):=by
 obtain ⟨f,fd,F,hm⟩:=T.f_gone_cut;have nd:=sc_gone_cut.nd;refine F.def_ hm (F.ok sc_gone_cut (λvs H Q E h=>?_) (λcdv A outer s H vs Q E hr h=>?_)) (F.binds λ_ _ _ _ _ _ us hl=>by obtain ⟨_,_,rfl⟩:=L2.lq2 hl;rfl)
 ·obtain ⟨r,l,ps,g,d,rfl,_⟩:=h;rfl
 ·obtain ⟨r,l,ps,g,d,rfl,R,Pg,hd,q⟩:=h
  obtain ⟨dx,hob⟩:=R.ob;obtain ⟨xs,hl,hx⟩:=R.ls;have n1:(rf l (gv g)).lookup ("gone" : Str)=none:=qq9 _ _ (by decide +kernel) (by decide +kernel);have n2:(rf l (gv g)).lookup ("steps" : Str)=none:=qq9 _ _ (by decide +kernel) (by decide +kernel);obtain ⟨p,hp,ep⟩:=Pg.last;have hlen:=hx.length;refine ⟨_,(qad (qaz (i:=2) nd rfl (Or.inl rfl) (qh8 (pv 0) T.cl_Rule (qjo T) (hr.mono (by decide))))
   (qad (qbs (qax qhz (pv 2) qgt (qa2 _))
    (qaf (qaw qgt))
    qau)
   (qaf (qaw (qa7 (qip T) (hr.mono (by decide)) rfl (qaa (qas qpb (pv 1) (pv 2)) (qaa (qel qee (qel qf0 (qh8 (pv 0) T.cl_Rule (qfj T) (hr.mono (by decide))) (qpz ql4 qah) (λ_ _=>rfl)) qah (λ_ _=>rfl)) qac))))))),?_⟩
  refine ⟨_,rfl,r,dx,_,rfl,hob,n1,r,l,ps,g,rfl,R,?_⟩
  cases g with
  | none=>exact ⟨_,rfl,rfl,_,rfl,qef (q H (Same.refl _))⟩
  | some z =>
   refine ⟨_,rfl,rfl,_,rfl,qe1 ?_⟩;refine ⟨_,rfl,_,rfl,_,_,rfl,rfl,?_⟩;refine ⟨_,rfl,r,dx,_,rfl,hob,n2,r,l,ps,_,xs,rfl,R,hl,λp1 H1 m1=>?_⟩;obtain ⟨v,hv,a,rfl,ha⟩:=hx.get' hp;have hz:=Pg.gb z rfl;have hs:=Pg.size _ p hp;unfold Bd at hd;refine ⟨_,rfl,p1,xs,-1,_,rfl,rfl,SqL.of m1.at_,qnh (by rw[hlen];exact hv),a,_,1,_,rfl,rfl,SqT.of (m1.same _ _ ha),rfl,d-z,p.2,rfl,hs.2.2.1,hs.2.2.2,by omega,by omega,?_⟩;have:=q H1 m1.same;rw[ep] at this;exact this
theorem qg3 (T:Txt K mg C_Roll C_Rule C_Book C_BookError C_NoNumber C_NoRule C_Backward C_NoName C_NoMark):qce P w K mg base 3 "edges_at" ["rule", "day"] (qgc C_Rule):=by
 obtain ⟨f,fd,F,hm⟩:=T.f_edges_at;have nd:=sc_edges_at.nd;refine F.def_ hm (F.ok sc_edges_at (λvs H Q E h=>?_) (λcdv A outer s H vs Q E hr h=>?_)) (F.binds λ_ _ _ _ _ _ us hl=>by obtain ⟨_,_,rfl⟩:=L2.lq2 hl;rfl)
 ·obtain ⟨r,l,ps,g,d,rfl,_⟩:=h;rfl
 ·obtain ⟨r,l,ps,g,d,rfl,R,Pg,hd,q⟩:=h
  obtain ⟨dx,hob⟩:=R.ob;obtain ⟨xs,hl,hx⟩:=R.ls;have n2:(rf l (gv g)).lookup ("steps" : Str)=none:=qq9 _ _ (by decide +kernel) (by decide +kernel);have hlen:=hx.length;have h5:=Pg.good.hi;refine ⟨_,(qad (qj9 (i:=2) (vars:=["age", "width"]) (frees:=["day"]) (fv:=[1]) nd rfl (Or.inl rfl) rfl (qh9 rfl rfl (by decide +kernel) (by decide +kernel) (by intro p hp;simp only[List.mem_cons,List.not_mem_nil,or_false] at hp;rcases hp with rfl<;>rfl) rfl) ⟨⟨rfl,.inl rfl,rfl,.inl rfl⟩,trivial⟩ (qcd (qh8 (pv 0) T.cl_Rule (qfj T) (hr.mono (by decide)))) (qhf (by decide) (by decide)) (λ_ _ _ _=>(qfu rfl (qbf (qaq (i:=0) (show (["age", "width", "day"]:List Str).Nodup by decide +kernel) rfl (Or.inl rfl)) (qbf (qaq (i:=1) (show (["age", "width", "day"]:List Str).Nodup by decide +kernel) rfl (Or.inl rfl)) qej)))) (λ_ _ _ _=>qbo) (λ_ _ _ _=>(qa7 (qip T) (hr.mono (by decide)) rfl (qaa (qas qpb (pv 2) (pv 0)) (qaa (pv 1) qac)))))
   (qaf (qaw (qas qqj (pv 2) (qc2 (qaa (qa7 (qlk T) (hr.mono (by decide)) rfl (qaa (pv 0) (qaa (pv 1) qac))) qac)))))),?_⟩
  refine ⟨_,rfl,r,dx,_,rfl,hob,n2,r,l,ps,g,xs,rfl,R,hl,λp1 H1 m1=>?_⟩;refine ⟨p1,rfl,⟨_,SqL.of m1.at_⟩,qms (xs:=xs) (λi ys H2=>Same H1 H2/\ys=(ps.take i).map λp=>V.int (cut d p.1 p.2)) (Nat.le_of_lt (qb6 (by omega))) ⟨Same.refl _,rfl⟩ (λi ys H2 h2=>⟨SqL.of (h2.1 _ _ m1.at_),by rw[h2.2];simp;omega⟩) ?_ ?_⟩
  ·rintro i x ys H2 hi ⟨s2,rfl⟩
   obtain ⟨p,hpi,a,rfl,ha⟩:=hx.get hi;have hs:=Pg.size i p hpi;unfold Bd at hd;refine ⟨a,_,rfl,SqT.of (s2 _ _ (m1.same _ _ ha)),rfl,_,_,rfl,_,_,rfl,rfl,qlw (qef ?_)⟩;refine ⟨_,rfl,_,rfl,_,_,rfl,rfl,_,rfl,d-p.1,p.2,rfl,hs.2.2.1,hs.2.2.2,by omega,by omega,s2,?_⟩;exact (qux _ ps i p hpi).symm
  ·rintro ys H2 c1 ⟨s2,rfl⟩ hc
   have nc:=qa0 (o:=.lst ((ps.take xs.length).map λp=>V.int (cut d p.1 p.2))) hc
   generalize upd H2 c1 _=H3 at nc ⊢
   have s3:Same H H3:=m1.same.trans (s2.trans nc.same);rw[hlen,List.take_length] at nc;refine ⟨_,rfl,_,rfl,_,rfl,r,l,ps,g,d,rfl,R.same s3,Pg,hd,λH4 s4=>⟨by show 1<=sizeLine;decide,λc2 H5 n5=>?_⟩⟩;refine ⟨c1,c2,_,_,rfl,rfl,n5.same _ _ (s4 _ _ nc.at_),n5.at_,Nat.le_of_lt (qb6 (by simp;omega)),λz H6 n6=>?_⟩;exact q z H6 (New.after (s3.trans (s4.trans n5.same)) n6)
end
section
variable {P:Program} {w:World} {K:Frag} {mg:Str->Option Value} {base:Heap} {C_Roll C_Rule C_Book C_BookError C_NoNumber C_NoRule C_Backward C_NoName C_NoMark:Addr}
theorem qgp (T:Txt K mg C_Roll C_Rule C_Book C_BookError C_NoNumber C_NoRule C_Backward C_NoName C_NoMark):qce P w K mg base 1 "greater_edge" ["one", "other"] qge:=by
 obtain ⟨f,fd,F,hm⟩:=T.f_greater_edge;have nd:=sc_greater_edge.nd;refine F.def_ hm (F.ok sc_greater_edge (λvs H Q E h=>?_) (λcdv A outer s H vs Q E hr h=>?_)) (F.binds λ_ _ _ _ _ _ us hl=>by obtain ⟨_,_,rfl⟩:=L2.lq2 hl;rfl)
 ·obtain ⟨x,y,rfl,_⟩:=h;rfl
 ·obtain ⟨x,y,rfl,hx,hy,q⟩:=h
  refine ⟨_,(qad (qbs (qax qhz (pv 0) qgt (qa2 _))
    (qaf (qaw (pv 1)))
    qau)
   (qad (qbs (qax qhz (pv 1) qgt (qa2 _))
    (qaf (qaw (pv 0)))
    qau)
   (qaf (qaw (qan (qma rfl) rfl T.b_max qsi (qaa (pv 0) (qaa (pv 1) qac))))))),?_⟩
  rcases hx with rfl|⟨i,rfl⟩
  ·exact ⟨_,rfl,rfl,_,rfl,qef ⟨_,rfl,q⟩⟩
  ·refine ⟨_,rfl,rfl,_,rfl,qe1 ?_⟩
   rcases hy with rfl|⟨j,rfl⟩
   ·exact ⟨_,rfl,rfl,_,rfl,qef ⟨_,rfl,q⟩⟩
   ·exact ⟨_,rfl,rfl,_,rfl,qe1 ⟨_,rfl,_,rfl,_,_,rfl,q⟩⟩
theorem qnl (T:Txt K mg C_Roll C_Rule C_Book C_BookError C_NoNumber C_NoRule C_Backward C_NoName C_NoMark):qce P w K mg base 2 "greater" ["one", "other"] qgf:=by
 obtain ⟨f,fd,F,hm⟩:=T.f_greater;have nd:=sc_greater.nd;refine F.def_ hm (F.ok sc_greater (λvs H Q E h=>?_) (λcdv A outer s H vs Q E hr h=>?_)) (F.binds λ_ _ _ _ _ _ us hl=>by obtain ⟨_,_,rfl⟩:=L2.lq2 hl;rfl)
 ·obtain ⟨a,b,xs,ys,rfl,_⟩:=h;rfl
 ·obtain ⟨a,b,xs,ys,rfl,ha,hb,hx,hy,he,hz,q⟩:=h
  refine ⟨_,(qad (qbs (qax qp0 (qan qa3 rfl T.b_len qc6 (qaa (pv 0) qac)) (qan qa3 rfl T.b_len qc6 (qaa (pv 1) qac)) (qa2 _))
    (qaf qcx)
    qau)
   (qaf (qaw (qem (vars:=["left", "right"]) (frees:=[]) (fv:=[]) rfl (qh9 rfl rfl (by decide +kernel) (by decide +kernel) (by intro p hp;cases hp) rfl) trivial (qj7 rfl T.b_zip (qaa (pv 0) (qaa (pv 1) qac))) (qhf (by decide) (by decide)) (λ_ _ _ _=>(qfu rfl (qbf (qaq (i:=0) (show (["left", "right"]:List Str).Nodup by decide +kernel) rfl (Or.inl rfl)) (qbf (qaq (i:=1) (show (["left", "right"]:List Str).Nodup by decide +kernel) rfl (Or.inl rfl)) qej)))) (λ_ _ _ _=>qbo) (λ_ _ _ _=>(qa7 (qgp T) (hr.mono (by decide)) rfl (qaa (pv 0) (qaa (pv 1) qac)))))))),?_⟩
  refine ⟨_,rfl,a,xs,rfl,.inl (SqL.of ha),_,rfl,b,ys,rfl,.inl (SqL.of hb),rfl,_,rfl,?_⟩;refine qr5 (by rw[he]) ?_;refine ⟨_,rfl,_,rfl,a,b,xs,ys,rfl,SqL.of ha,SqL.of hb,?_⟩;refine qpi (xs:=xs) (λi zs H2=>Same H H2/\zs=(List.zipWith gE xs ys).take i) (Nat.le_of_lt (qb6 hz)) ⟨Same.refl _,rfl⟩ (λi zs H2 h2=>⟨SqL.of (h2.1 _ _ ha),SqL.of (h2.1 _ _ hb),by rw[h2.2];simp;omega⟩) ?_ ?_
  ·rintro i x y zs H2 p h1 h2 hn ⟨s2,rfl⟩
   have n:=qa0 (o:=.tup [x,y]) hn
   generalize upd H2 p _=H3 at n ⊢
   refine ⟨p,_,rfl,SqT.of n.at_,rfl,_,_,rfl,_,_,rfl,rfl,qlw (qef ?_)⟩;exact ⟨_,rfl,_,rfl,x,y,rfl,hx x (List.mem_of_getElem? h1),hy y (List.mem_of_getElem? h2),s2.trans n.same,(quy _ i _ (zip_get h1 h2)).symm⟩
  ·rintro i zs H2 p hi ⟨s2,rfl⟩ hn
   have n:=qa0 (o:=.lst ((List.zipWith gE xs ys).take i)) hn;have e:(List.zipWith gE xs ys).take i=List.zipWith gE xs ys:=List.take_of_length_le (by rw[List.length_zipWith,hi];exact Nat.le_refl _);rw[e] at n ⊢;exact q p _ (New.after s2 n)
end
section
variable {P:Program} {w:World} {K:Frag} {mg:Str->Option Value} {base:Heap} {C_Roll C_Rule C_Book C_BookError C_NoNumber C_NoRule C_Backward C_NoName C_NoMark:Addr}
theorem qoy (T:Txt K mg C_Roll C_Rule C_Book C_BookError C_NoNumber C_NoRule C_Backward C_NoName C_NoMark):qtr P w K mg base C_Roll 4 "Roll" ["self", "rule", "day"] [] (qfi C_Roll C_Rule):=by
 obtain ⟨f,fd,F,M⟩:=T.f_Roll_init;have nd:=sc_Roll_init.nd;refine ⟨f,fd,(F.ok sc_Roll_init (λvs H Q E h=>?_) (λcdv A outer s H vs Q E hr h=>?_)),T.mg_Roll,M,(F.binds λ_ _ _ _ _ _ us hl=>by obtain ⟨_,_,_,rfl⟩:=L2.lq3 hl;rfl)⟩
 ·obtain ⟨ro,dx,ru,rl,ps,g,day,rfl,_⟩:=h;rfl
 ·obtain ⟨ro,dx,ru,rl,ps,g,day,rfl,hro,R,Pg,hd,q⟩:=h
  obtain ⟨dx2,hru⟩:=R.ob;have nru:ru≠ro:=qa6 hru hro (by intro z;injection z with _ _ z;have:=qow rl (gv g);rw[z] at this;cases this);refine ⟨_,(qad (qb1 (pv 0) (pv 1) rfl)
   (qad (qb1 (pv 0) (pv 2) rfl)
   (qad (qb1 (pv 0) (qa7 (qg3 T) (hr.mono (by decide)) rfl (qaa (pv 1) (qaa (pv 2) qac))) rfl)
   (qad (qb1 (pv 0) qkc rfl)
   (qaf (qb1 (pv 0) qkc rfl)))))),?_⟩
  refine ⟨_,rfl,_,rfl,ro,C_Roll,dx,[],rfl,hro,T.cl_Roll,T.na_Roll_kept_rule,(by show 0<1000;decide),λH1 b1 h1=>?_⟩;refine ⟨_,rfl,_,rfl,ro,C_Roll,dx,_,rfl,h1,T.cl_Roll,T.na_Roll_kept_day,(by show 1<1000;decide),λH2 b2 h2=>?_⟩;have R2:=(R.but2 b1 hro qc8 (by intro xs z;cases z) nru).but2 b2 h1 qc8 (by intro xs z;cases z) nru;refine ⟨_,rfl,_,rfl,ru,rl,ps,g,day,rfl,R2,Pg,hd,λle H3 n3=>?_⟩;refine ⟨_,rfl,ro,C_Roll,dx,_,rfl,n3.same _ _ h2,T.cl_Roll,T.na_Roll_kept_edges,(by show 2<1000;decide),λH4 b4 h4=>?_⟩;intro dy H5 n5;refine ⟨_,rfl,ro,C_Roll,dx,_,rfl,n5.same _ _ h4,T.cl_Roll,T.na_Roll_whole_ones,(by show 3<1000;decide),λH6 b6 h6=>?_⟩;intro dh H7 n7;refine ⟨_,rfl,ro,C_Roll,dx,_,rfl,n7.same _ _ h6,T.cl_Roll,T.na_Roll_cell_heaps,(by show 4<1000;decide),λH8 b8 h8=>?_⟩;have R8:=((((R2.same n3.same).but2 b4 (n3.same _ _ h2) qc8 (by intro xs z;cases z) nru).same n5.same |>.but2 b6 (n5.same _ _ h4) qc8 (by intro xs z;cases z) nru).same n7.same).but2 b8 (n7.same _ _ h6) qc8 (by intro xs z;cases z) nru;have bb:But ro H H8:=λb o e hb=>b8 _ _ (n7.same _ _ (b6 _ _ (n5.same _ _ (b4 _ _ (n3.same _ _ (b2 _ _ (b1 _ _ e hb) hb)) hb)) hb)) hb
  have fr:∀ b,b≠ro->H8 b=none->H b=none:=λb hb h0=>by
   cases e:H b with
   | none=>rfl
   | some o=>rw[bb b o e hb] at h0;cases h0
  have e4:H4 le=some (.lst (eV ps g day)):=b4 _ _ n3.at_ (qa6 n3.at_ (n3.same _ _ h2) (by intro z;cases z));have e6:H6 dy=some (.dT []):=b6 _ _ n5.at_ (qa6 n5.at_ (n5.same _ _ h4) (by intro z;cases z));have up2:∀ b o,H b=some o->b≠ro->H2 b=some o:=λb o e hb=>b2 _ _ (b1 _ _ e hb) hb
  have fr2:∀ b,H2 b=none->H b=none:=λb h0=>by
   cases e:H b with
   | none=>rfl
   | some o =>
    by_cases hb:b=ro
    ·subst hb;rw[h2] at h0;cases h0
    ·rw[up2 b o e hb] at h0;cases h0
  have fr4:∀ b,H4 b=none->H2 b=none:=λb h0=>by
   cases e:H2 b with
   | none=>rfl
   | some o =>
    by_cases hb:b=ro
    ·subst hb;rw[h4] at h0;cases h0
    ·rw[b4 _ _ (n3.same _ _ e) hb] at h0;cases h0
  have fr6:∀ b,H6 b=none->H4 b=none:=λb h0=>by
   cases e:H4 b with
   | none=>rfl
   | some o =>
    by_cases hb:b=ro
    ·subst hb;rw[h6] at h0;cases h0
    ·rw[b6 _ _ (n5.same _ _ e) hb] at h0;cases h0
  refine q le dy dh H8 (fr2 _ n3.fresh) (fr2 _ (fr4 _ n5.fresh)) (fr2 _ (fr4 _ (fr6 _ n7.fresh))) ⟨⟨dx,h8⟩,R8,?_,?_,?_,qaj e6 n7.fresh⟩ bb
  ·have e8:=b8 _ _ (n7.same _ _ (b6 _ _ (n5.same _ _ e4) (qa6 (n5.same _ _ e4) (n5.same _ _ h4) (by intro z;cases z)))) (qa6 (n7.same _ _ (b6 _ _ (n5.same _ _ e4) (qa6 (n5.same _ _ e4) (n5.same _ _ h4) (by intro z;cases z)))) (n7.same _ _ h6) (by intro z;cases z))
   show H8 le=some (.lst (((ps.map λp=>cut day p.1 p.2).map V.int) ++ [gv (g.map λz=>cut day z (lw ps))]))
   rw[<- (EdS.of Pg hd).eq];exact e8
  ·exact b8 _ _ (n7.same _ _ e6) (qa6 (n7.same _ _ e6) (n7.same _ _ h6) (by intro z;cases z))
  ·exact b8 _ _ n7.at_ (qa6 n7.at_ (n7.same _ _ h6) (by intro z;cases z))
theorem qrd (ru:Addr) (day:Int) (le dy dh p:Addr):qes "kept_edges" (.ref p) (rof ru day le dy dh)=rof ru day p dy dh:=by rfl
inductive qiq (C R:Addr) (vs:List V) (H:Hp) (Q:VK) (E_:XK):Prop
 | mk:∀ (ru rl e:Addr) (ps:List (Int×Int)) (g:Option Int) (day:Int) (EV:List V) (es:List Int) (ge:Option Int),vs=[.ref ru,.int day,.ref e]->RuleAt R H ru rl ps g->Pr ps g->Bd day->H e=some (.lst EV)->(∀ v∈EV,Ed v)->EV.length<=10->EV.length=ps.length+1->EdS EV es ge->es.length=ps.length->(∀ ro c H',RollAt C R H' ro c->c.ps=ps->c.g=g->c.day=day->c.Y=[]->c.Z=[]->EdS (List.zipWith gE (eV ps g day) EV) c.es c.ge->c.es.length=ps.length->Same H H'->H c.dy=none->H c.dh=none->(c.ru=ru/\c.rl=rl/\H c.le=none)->Q (.ref ro) H')->qiq C R vs H Q E_
theorem qre (T:Txt K mg C_Roll C_Rule C_Book C_BookError C_NoNumber C_NoRule C_Backward C_NoName C_NoMark):qce P w K mg base 6 "begun" ["rule", "day", "edges"] (qiq C_Roll C_Rule):=by
 obtain ⟨f,fd,F,hm⟩:=T.f_begun;have nd:=sc_begun.nd;refine F.def_ hm (F.ok sc_begun (λvs H Q E h=>?_) (λcdv A outer s H vs Q E hr h=>?_)) (F.binds λ_ _ _ _ _ _ us hl=>by obtain ⟨_,_,_,rfl⟩:=L2.lq3 hl;rfl)
 ·obtain ⟨ru,rl,e,ps,g,day,EV,es,ge,rfl,_⟩:=h;rfl
 ·obtain ⟨ru,rl,e,ps,g,day,EV,es,ge,rfl,R,Pg,hd,he,hEd,h10,hEl,Ee,hln,q⟩:=h
  refine ⟨_,(qad (qaz (i:=3) nd rfl (Or.inl rfl) (qmu (qoy T) (hr.mono (by decide)) rfl .nil (qaa (pv 0) (qaa (pv 1) qac))))
   (qad (qb1 (pv 3) (qa7 (qnl T) (hr.mono (by decide)) rfl (qaa (qdk (pv 3) rfl) (qaa (pv 2) qac))) rfl)
   (qaf (qaw (pv 3))))),?_⟩
  refine ⟨_,rfl,_,rfl,λro dx H1 s1 f1 d1=>?_⟩;refine ⟨ro,dx,ru,rl,ps,g,day,rfl,d1,R.same s1,Pg,hd,λle dy dh H2 z1 z2 z3 A2 b2=>⟨rfl,?_⟩⟩;have s2:Same H H2:=b2.same s1 f1;obtain ⟨dx2,hob⟩:=A2.ob;have E0':=EdS.of Pg hd;have hob':H2 ro=some (.ins C_Roll dx2 (rof ru day le dy dh)):=hob;have hed:H2 le=some (.lst (eV ps g day)):=by rw[E0'.eq];exact A2.ed
  have l0:(eV ps g day).length=ps.length+1:=by rw[E0'.eq];simp
  have g5:=Pg.good.hi;refine ⟨_,rfl,ro,C_Roll,dx2,_,_,rfl,hob',T.cl_Roll,T.na_Roll_kept_edges,qs6 _ _ _ _ _,_,rfl,le,e,_,EV,rfl,hed,s2 _ _ he,E0'.ed,hEd,by rw[l0,hEl],by omega,λp H3 n3=>?_⟩;refine ⟨_,rfl,ro,C_Roll,dx2,_,rfl,n3.same _ _ hob',T.cl_Roll,T.na_Roll_kept_edges,(by show 5<1000;decide),λH4 b4 h4=>?_⟩;rw[qrd] at h4;have A3:=A2.same n3.same;have M:=E0'.max Ee (by rw[List.length_map];exact hln.symm);have hro3:=n3.same _ _ hob';have hp4:H4 p=some (.lst (List.zipWith gE (eV ps g day) EV)):=b4 _ _ n3.at_ (qa6 n3.at_ hro3 (by intro z;cases z));obtain ⟨dxr,hru⟩:=A3.rule.ob;have nru:ru≠ro:=qa6 hru hro3 (by intro z;injection z with _ _ z;have:=qow rl (gv g);have z':rf rl (gv g)=rof ru day le dy dh:=z;rw[z'] at this;cases this);have s04:Same H H4:=b4.same (s2.trans n3.same) f1;refine ⟨_,rfl,q ro { qvj ru rl p dy dh ps g day with es:=_,ge:=_ } H4 ⟨⟨dx2,h4⟩,A3.rule.but2 b4 hro3 qc8 (by intro xs z;cases z) nru,?_,b4 _ _ A3.yo (qa6 A3.yo hro3 (by intro z;cases z)),b4 _ _ A3.he (qa6 A3.he hro3 (by intro z;cases z)),A3.ne⟩ rfl rfl rfl rfl rfl M ?_ s04 (s1.free z2) (s1.free z3) ⟨rfl,rfl,s2.free n3.fresh⟩⟩
  ·rw[M.eq] at hp4;exact hp4
  ·show (List.zipWith _ _ _).length=ps.length
   rw[List.length_zipWith,List.length_map];omega
structure RollE (C R:Addr) (H:Hp) (ro:Addr) (ru rl:Addr) (ps:List (Int×Int)) (g:Option Int) (day:Int):Prop where
 ex:∃ c,RollAt C R H ro c/\c.Y=[]/\c.Z=[]/\c.ru=ru/\c.rl=rl/\c.ps=ps/\c.g=g/\c.day=day/\EdS (c.es.map V.int ++ [gv c.ge]) c.es c.ge/\c.es.length=ps.length
theorem RollE.same {C R:Addr} {H H':Hp} {ro ru rl:Addr} {ps:List (Int×Int)} {g:Option Int} {day:Int} (h:RollE C R H ro ru rl ps g day) (s:Same H H'):RollE C R H' ro ru rl ps g day:=
 let ⟨c,A,r⟩:=h.ex;⟨c,A.same s,r⟩
end
section
variable {P:Program} {w:World} {K:Frag} {mg:Str->Option Value} {base:Heap} {C_Roll C_Rule C_Book C_BookError C_NoNumber C_NoRule C_Backward C_NoName C_NoMark:Addr}
theorem qdl {n:Nat} (h:n<=20000):n<=sizeLine:=by rw[sizeLine_eq];omega
def qap (n:Int) (x:List Nat):Prop:=1<=x.length/\(x.length:Int)<=n/\∀ c∈x,97<=c/\c<=122
instance (n:Int) (x:List Nat):Decidable (qap n x):=inferInstanceAs (Decidable (_/\_/\_))
def qcg (n:Int):V->Bool
 | .str s=>decide (qap n s.cps.toList)
 | _=>false
theorem qeq (n:Int) (x:List Nat):qcg n (.str (S x))=decide (qap n x):=rfl
theorem qtb (c:Nat):decide (c∈(Str.ofString "abcdefghijklmnopqrstuvwxyz").cps.toList)=decide (97<=c/\c<=122):=by
 have e:(Str.ofString "abcdefghijklmnopqrstuvwxyz").cps.toList=[97,98,99,100,101,102,103,104,105,106,107,108,109,110,111,112,113,114,115,116,117,118,119,120,121,122]:=by decide +kernel
 rw[e,decide_eq_decide]
 simp
 omega
def qoz:Sp:=λvs H Q _=>∃ v n,vs=[v,.int n]/\TextV H v/\∀ H',Same H H'->Q (.bl (qcg n v)) H'
theorem qdy (T:Txt K mg C_Roll C_Rule C_Book C_BookError C_NoNumber C_NoRule C_Backward C_NoName C_NoMark):qce P w K mg base 1 "is_small_word" ["thing", "longest"] qoz:=by
 obtain ⟨f,fd,F,hm⟩:=T.f_is_small_word;have nd:=sc_is_small_word.nd;refine F.def_ hm (F.ok sc_is_small_word (λvs H Q E h=>?_) (λcdv A outer s H vs Q E hr h=>?_)) (F.binds λ_ _ _ _ _ _ us hl=>by obtain ⟨_,_,rfl⟩:=L2.lq2 hl;rfl)
 ·obtain ⟨v,n,rfl,_⟩:=h;rfl
 ·obtain ⟨v,n,rfl,hv,q⟩:=h
  refine ⟨_,(qad (qbs (qdm (qcl (qan qd3 rfl T.b_isinstance qbj (qaa (pv 0) (qaa (qe2 (v:=.ty "str") rfl T.b_str qph rfl) qac)))))
    (qaf (qaw qi6))
    qau)
   (qaf (qaw (qer (qbt qrt qah (qan qic rfl T.b_len qc6 (qaa (pv 0) qac)) (qa2 _)) (qer (qbt qrt (qan qic rfl T.b_len qc6 (qaa (pv 0) qac)) (pv 1) (qa2 _)) (qft (qan (qd7 rfl) rfl T.b_all qgx (qaa (qem (vars:=["sign"]) (frees:=[]) (fv:=[]) rfl (qh9 rfl rfl (by decide +kernel) (by decide +kernel) (by intro p hp;cases hp) rfl) trivial (qsr (pv 0)) (qb0 (by decide)) (λ_ _ _ _=>(qaq (i:=0) (show (["sign"]:List Str).Nodup by decide +kernel) rfl (Or.inl rfl))) (λ_ _ _ _=>qbo) (λ_ _ _ _=>(qbt qst (pv 0) (qfs (v:=.str "abcdefghijklmnopqrstuvwxyz") rfl T.c_LETTERS.choose_spec ⟨_,rfl⟩) rfl))) qac)))))))),?_⟩
  rcases hv with ⟨x,rfl,hx⟩|hv
  ·have no:¬ qap n x->Q (V.bl false) H:=λz=>by
    have:=q H (Same.refl _);rw[qeq,decide_eq_false z] at this;exact this
   refine ⟨_,rfl,_,_,_,_,rfl,.str _,qm0 K,_,rfl,qe1 ?_⟩
   walk_at "r"
   refine ⟨qdl (by omega),?_⟩
   walk_at "r"
   by_cases l1:(1:Int)<=x.length
   ·rw[if_pos (decide_eq_true l1)]
    walk_at "r"
    refine ⟨qdl (by omega),?_⟩
    walk_at "r"
    by_cases l2:(x.length:Int)<=n
    ·rw[if_pos (decide_eq_true l2)]
     refine ⟨_,rfl,_,rfl,qss (x:=x) (λi ys H2=>Same H H2/\ys=(x.take i).map λd=>V.bl (decide (97<=d/\d<=122))) (qdl (by omega)) ⟨Same.refl _,rfl⟩ (λi ys H2 h2=>by rw[h2.2,List.length_map,List.length_take];omega) ?_ ?_⟩
     ·rintro i d ys H2 hi ⟨s2,rfl⟩
      refine qav (qlw (qef ?_));refine ⟨_,rfl,d,_,rfl,rfl,s2,?_⟩;rw[qtb];exact (qux _ x i d hi).symm
     ·rintro ys H2 p H3 ⟨s2,rfl⟩ n3
      rw[List.take_length] at n3;refine ⟨p,x.map λd=>decide (97<=d/\d<=122),rfl,SqL.of (by rw[List.map_map];exact n3.at_),?_⟩;have:=q H3 (s2.trans n3.same);have ef:decide (qap n x)=(x.map λd=>decide (97<=d/\d<=122)).all id:=by
       rw[Bool.eq_iff_iff,decide_eq_true_iff,List.all_eq_true]
       constructor
       ·intro h b hb
        obtain ⟨d,hd,rfl⟩:=List.mem_map.mp hb;exact decide_eq_true (h.2.2 d hd)
       ·intro h
        refine ⟨by omega,l2,λd hd=>?_⟩;exact of_decide_eq_true (h _ (List.mem_map.mpr ⟨d,hd,rfl⟩))
      rw[qeq,ef] at this;exact this
    ·rw[if_neg (λy=>l2 (of_decide_eq_true y))]
     exact no λh=>l2 h.2.1
   ·rw[if_neg (λy=>l1 (of_decide_eq_true y))]
    exact no λh=>l1 (by have:=h.1;omega)
  ·obtain ⟨t,ty,kt⟩:=OddV.ty (K:=K) hv
   refine ⟨_,rfl,_,_,_,_,rfl,ty,kt,_,rfl,qef ?_⟩;have:=q H (Same.refl _)
   rcases hv with rfl|⟨i,rfl⟩|⟨b,rfl⟩|⟨p,xs,rfl,h⟩|⟨p,xs,rfl,h⟩<;>exact this
def qir (n:Int):Sp:=λvs H Q _=>∃ v,vs=[v]/\TextV H v/\∀ H',Same H H'->Q (.bl (qcg n v)) H'
theorem qis (T:Txt K mg C_Roll C_Rule C_Book C_BookError C_NoNumber C_NoRule C_Backward C_NoName C_NoMark):qce P w K mg base 2 "is_name" ["thing"] (qir 12):=by
 obtain ⟨f,fd,F,hm⟩:=T.f_is_name;have nd:=sc_is_name.nd;refine F.def_ hm (F.ok sc_is_name (λvs H Q E h=>?_) (λcdv A outer s H vs Q E hr h=>?_)) (F.binds λ_ _ _ _ _ _ us hl=>by obtain ⟨_,rfl⟩:=L2.lq1 hl;rfl)
 ·obtain ⟨v,rfl,_⟩:=h;rfl
 ·obtain ⟨v,rfl,hv,q⟩:=h
  refine ⟨_,(qaf (qaw (qa7 (qdy T) (hr.mono (by decide)) rfl (qaa (pv 0) (qaa (qfs (v:=.int 12) rfl T.c_LONGEST_NAME.choose_spec ⟨_,rfl⟩) qac))))),?_⟩;exact ⟨_,rfl,v,12,rfl,hv,q⟩
theorem qez (T:Txt K mg C_Roll C_Rule C_Book C_BookError C_NoNumber C_NoRule C_Backward C_NoName C_NoMark):qce P w K mg base 2 "is_mark" ["thing"] (qir 8):=by
 obtain ⟨f,fd,F,hm⟩:=T.f_is_mark;have nd:=sc_is_mark.nd;refine F.def_ hm (F.ok sc_is_mark (λvs H Q E h=>?_) (λcdv A outer s H vs Q E hr h=>?_)) (F.binds λ_ _ _ _ _ _ us hl=>by obtain ⟨_,rfl⟩:=L2.lq1 hl;rfl)
 ·obtain ⟨v,rfl,_⟩:=h;rfl
 ·obtain ⟨v,rfl,hv,q⟩:=h
  refine ⟨_,(qaf (qaw (qa7 (qdy T) (hr.mono (by decide)) rfl (qaa (pv 0) (qaa (qfs (v:=.int 8) rfl T.c_LONGEST_MARK.choose_spec ⟨_,rfl⟩) qac))))),?_⟩;exact ⟨_,rfl,v,8,rfl,hv,q⟩
theorem qfc:(Str.ofString "")=S []:=by decide +kernel
theorem small_iff {n:Int} {v:V}:qcg n v=true↔∃ x,v=tS x/\qap n x:=by
 constructor
 ·intro h
  obtain ⟨s,rfl⟩:∃ s,v=.str s:=by
   cases v<;>first|exact ⟨_,rfl⟩|exact Bool.noConfusion h
  exact ⟨s.cps.toList,by rw[show tS s.cps.toList=V.str (S s.cps.toList) from rfl,qve],of_decide_eq_true h⟩
 ·rintro ⟨x,rfl,h⟩
  rw[qeq];exact decide_eq_true h
def qgh (vs:List V):Prop:=(∀ v∈vs,qcg 8 v=true)/\vs.Nodup/\vs.length<=8
theorem qhr {n:Int}:∀ {vs:List V},(∀ v∈vs,qcg n v=true)->∃ ms:List (List Nat),vs=ms.map tS/\∀ m∈ms,qap n m
 | [],_=>⟨[],rfl,by simp⟩
 | v :: vs,h=>by
  obtain ⟨x,rfl,hx⟩:=small_iff.mp (h v List.mem_cons_self);obtain ⟨ms,rfl,hm⟩:=qhr (vs:=vs) λv hv=>h v (List.mem_cons_of_mem _ hv)
  exact ⟨x :: ms,rfl,λm hm'=>by
   rcases List.mem_cons.mp hm' with rfl|z
   ·exact hx
   ·exact hm m z⟩
theorem qeh {a b:List Nat} (h:tS a=tS b):a=b:=qhh (V.str.inj h)
theorem qgi {α β:Type} {f:α->β} (inj:∀ a b,f a=f b->a=b):∀ {l:List α},(l.map f).Nodup↔l.Nodup
 | []=>by simp
 | x :: l=>by
  rw[List.map_cons,List.nodup_cons,List.nodup_cons,qgi inj];refine and_congr ⟨λh z=>h (List.mem_map.mpr ⟨x,z,rfl⟩),λh z=>?_⟩ Iff.rfl;obtain ⟨y,hy,e⟩:=List.mem_map.mp z;exact h (inj _ _ e ▸ hy)
theorem qit {α:Type} [DecidableEq α]:∀ l:List α,qds l=l.length↔l.Nodup
 | []=>by simp[qds]
 | x :: l=>by
  have:=qhj l;have ih:=qit l;unfold qds;rw[List.nodup_cons]
  by_cases e:x∈l
  ·rw[if_pos e,List.length_cons]
   exact ⟨λh=>by omega,λh=>absurd e h.1⟩
  ·rw[if_neg e,List.length_cons]
   exact ⟨λh=>⟨e,ih.mp (by omega)⟩,λh=>by have:=ih.mpr h.2;omega⟩
def qnm (N:Addr):Sp:=λvs H Q E=>∃ (l:Addr) (us:List V),vs=[.ref l]/\H l=some (.lst us)/\(∀ v∈us,TextV H v)/\us.length<=60/\(qgh us->∀ H',Same H H'->Q .non H')/\(¬ qgh us->∀ H',Same H H'->E (.ref N) none H')
theorem qhs (T:Txt K mg C_Roll C_Rule C_Book C_BookError C_NoNumber C_NoRule C_Backward C_NoName C_NoMark):qsc P w K mg base 3 "check_marks" ["marks"] [] (qnm C_NoMark):=by
 obtain ⟨f,fd,F,hm⟩:=T.f_check_marks;have nd:=sc_check_marks.nd;refine ⟨f,fd,(F.okX sc_check_marks (λvs H Q E h=>?_) (λcdv A outer s H vs Q E hr h=>?_)),hm,F.kp,(F.binds λ_ _ _ _ _ _ us hl=>by obtain ⟨_,rfl⟩:=L2.lq1 hl;rfl)⟩
 ·obtain ⟨l,us,rfl,_⟩:=h;rfl
 ·obtain ⟨l,us,rfl,hl,hv,hz,q1,q2⟩:=h
  refine ⟨_,(qad (qbs (qdm (qcl (qan (qd7 rfl) rfl T.b_all qgx (qaa (qem (vars:=["mark"]) (frees:=[]) (fv:=[]) rfl (qh9 rfl rfl (by decide +kernel) (by decide +kernel) (by intro p hp;cases hp) rfl) trivial (qcd (pv 0)) (qb0 (by decide)) (λ_ _ _ _=>(qaq (i:=0) (show (["mark"]:List Str).Nodup by decide +kernel) rfl (Or.inl rfl))) (λ_ _ _ _=>qbo) (λ_ _ _ _=>(qa7 (qez T) (hr.mono (by decide)) rfl (qaa (pv 0) qac)))) qac))))
    (qaf (qdf (qbe ⟨rfl,rfl,rfl⟩) rfl T.ex_NoMark rfl T.mg_NoMark (qaa qbg qac)))
    qau)
   (qad (qbs (qax qp0 (qan qm7 rfl T.b_len qc6 (qaa (qdo (qm6 rfl) rfl T.b_set qsz (qaa (pv 0) qac)) qac)) (qan qa3 rfl T.b_len qc6 (qaa (pv 0) qac)) (qa2 _))
    (qaf (qdf (qbe ⟨rfl,rfl,rfl⟩) rfl T.ex_NoMark rfl T.mg_NoMark (qaa qbg qac)))
    qau)
   (qaf (qbs (qax qru (qan qa3 rfl T.b_len qc6 (qaa (pv 0) qac)) (qfs (v:=.int 8) rfl T.c_MOST_MARKS.choose_spec ⟨_,rfl⟩) (qa2 _))
    (qaf (qdf (qbe ⟨rfl,rfl,rfl⟩) rfl T.ex_NoMark rfl T.mg_NoMark (qaa qbg qac)))
    qau)))),?_⟩
  refine ⟨_,rfl,l,rfl,⟨_,SqL.of hl⟩,qho (xs:=us) (λi ys H2=>Same H H2/\ys=(us.take i).map λv=>V.bl (qcg 8 v)) (qdl (by omega)) ⟨Same.refl _,rfl⟩ (λi ys H2 h2=>⟨SqL.of (h2.1 _ _ hl),by rw[h2.2,List.length_map,List.length_take];omega⟩) ?_ ?_⟩
  ·rintro i v ys H2 hi ⟨s2,rfl⟩
   refine qav (qlw (qef ?_));refine ⟨_,rfl,v,rfl,(hv v (List.mem_of_getElem? hi)).same s2,λH3 s3=>⟨s2.trans s3,?_⟩⟩;exact (qux _ us i v hi).symm
  ·rintro ys H2 p H3 ⟨s2,rfl⟩ n3
   rw[List.take_length] at n3;have s03:=s2.trans n3.same;refine ⟨p,us.map λv=>qcg 8 v,rfl,SqL.of (by rw[List.map_map];exact n3.at_),_,rfl,?_⟩
   by_cases a1:∀ v∈us,qcg 8 v=true
   ·have e1:(us.map λv=>qcg 8 v).all id=true:=by
     rw[List.all_eq_true];intro b hb;obtain ⟨v,hv,rfl⟩:=List.mem_map.mp hb;exact a1 v hv
    rw[e1];refine qe1 ?_;obtain ⟨ms,rfl,hm⟩:=qhr a1;have hl3:=s03 _ _ hl;rw[show (ms.map tS)=(ms.map S).map V.str by rw[List.map_map];rfl] at hl3;refine ⟨_,rfl,l,ms.map S,rfl,SqL.of hl3,by simp at hz ⊢;omega,λst H4 n4=>?_⟩;have hl4:=n4.same _ _ hl3;have su:=qhj (ms.map S).reverse;rw[List.length_reverse,List.length_map] at su;rw[List.length_map] at hz;refine ⟨st,_,rfl,n4.at_,by omega,_,rfl,l,_,rfl,.inl (SqL.of hl4),rfl,_,rfl,?_⟩;have s04:=s03.trans n4.same;have ed:(!decide (V.int (qds (ms.map S).reverse:Nat)=V.int (((ms.map S).map V.str).length:Nat))) = !decide (ms.map tS).Nodup:=by
     congr 1
     rw[decide_eq_decide];rw[qgi (λ_ _=>qeh),<- qgi (f:=S) (λ_ _=>qhh),<- (List.reverse_perm (ms.map S)).nodup_iff,<- qit]
     simp
     omega
    rw[ed]
    by_cases a2:(ms.map tS).Nodup
    ·rw[decide_eq_true a2]
     refine qe1 ?_;refine ⟨_,rfl,l,_,rfl,.inl (SqL.of hl4),_,_,rfl,rfl,_,rfl,?_⟩;refine qk4 (λz=>?_) λz=>?_
     ·walk_at "r"
      refine q2 (λh=>?_) H4 s04;have:=of_decide_eq_true z;have:=h.2.2
      simp at *
      omega
     ·refine q1 ⟨a1,a2,?_⟩ H4 s04
      have:=of_decide_eq_false (Bool.not_eq_true _ ▸ z)
      simp at *
      omega
    ·rw[decide_eq_false a2]
     refine qef ?_
     walk_at "r"
     exact q2 (λh=>a2 h.2.1) H4 s04
   ·have e1:(us.map λv=>qcg 8 v).all id=false:=by
     rw[Bool.eq_false_iff];intro h;rw[List.all_eq_true] at h;exact a1 λv hv=>h _ (List.mem_map.mpr ⟨v,hv,rfl⟩)
    rw[e1];refine qef ?_
    walk_at "r"
    exact q2 (λh=>a1 h.1) H3 s03
end
section
variable {P:Program} {w:World} {K:Frag} {mg:Str->Option Value} {base:Heap} {C_Roll C_Rule C_Book C_BookError C_NoNumber C_NoRule C_Backward C_NoName C_NoMark:Addr}
theorem qjp:(Str.ofString "-")=S [45]:=by decide +kernel
theorem qnn:(Str.ofString " ")=S [32]:=by decide +kernel
theorem qfq (x:List Nat):slS (S x) (some 1) none=S (x.drop 1):=qjb x 1
def qll:Sp:=λvs H Q _=>∃ x:List Nat,vs=[.str (S x)]/\x.length<=3000/\∀ H',Same H H'->Q (.bl (decide (x.take 1=[45]/\qap 8 (x.drop 1)))) H'
theorem qfk (T:Txt K mg C_Roll C_Rule C_Book C_BookError C_NoNumber C_NoRule C_Backward C_NoName C_NoMark):qce P w K mg base 3 "is_barring" ["word"] qll:=by
 obtain ⟨f,fd,F,hm⟩:=T.f_is_barring;have nd:=sc_is_barring.nd;refine F.def_ hm (F.ok sc_is_barring (λvs H Q E h=>?_) (λcdv A outer s H vs Q E hr h=>?_)) (F.binds λ_ _ _ _ _ _ us hl=>by obtain ⟨_,rfl⟩:=L2.lq1 hl;rfl)
 ·obtain ⟨x,rfl,_⟩:=h;rfl
 ·obtain ⟨x,rfl,hx,q⟩:=h
  refine ⟨_,(qaf (qaw (qer (qhb PySem.F.plainAttrs_str PySem.F.slot_str_startswith PySem.F.type_str_startswith qmz (pv 0) (qaa qbg qac)) (qft (qa7 (qez T) (hr.mono (by decide)) rfl (qaa (qch qgy (pv 0) (qde qah) qdd) qac)))))),?_⟩
  walk_at "r"
  rw[qjp,qqu]
  by_cases t:x.take 1=[45]
  ·rw[if_pos (decide_eq_true t)]
   refine ⟨_,rfl,_,rfl,_,rfl,by rw[qfq,qbk];exact qdl (by simp;omega),?_⟩;rw[qfq];refine ⟨_,rfl,.inl ⟨_,rfl,by simp;omega⟩,λH2 s2=>?_⟩;have:=q H2 s2;rw[show decide (x.take 1=[45]/\qap 8 (x.drop 1))=decide (qap 8 (x.drop 1)) by rw[decide_eq_decide];exact ⟨λh=>h.2,λh=>⟨t,h⟩⟩] at this;exact this
  ·rw[if_neg (by simpa using t)]
   have:=q H (Same.refl _);rw[decide_eq_false (λh=>t h.1)] at this;exact this
def qbi (x:List Nat):List (List Nat):=if x=[] then [] else qar 32 x
def qo0 (C:Addr):Sp:=λvs H Q E=>∃ v,vs=[v]/\TextV H v/\(∀ x,v=.str (S x)->∀ l H',New H H' l (.lst ((qbi x).map λp=>V.str (S p)))->Q (.ref l) H')/\(OddV H v->E (.ref C) none H)
theorem qlm (T:Txt K mg C_Roll C_Rule C_Book C_BookError C_NoNumber C_NoRule C_Backward C_NoName C_NoMark):qsc P w K mg base 1 "words_of" ["text"] [] (qo0 C_NoMark):=by
 obtain ⟨f,fd,F,hm⟩:=T.f_words_of;have nd:=sc_words_of.nd;refine ⟨f,fd,(F.okX sc_words_of (λvs H Q E h=>?_) (λcdv A outer s H vs Q E hr h=>?_)),hm,F.kp,(F.binds λ_ _ _ _ _ _ us hl=>by obtain ⟨_,rfl⟩:=L2.lq1 hl;rfl)⟩
 ·obtain ⟨v,rfl,_⟩:=h;rfl
 ·obtain ⟨v,rfl,hv,q1,q2⟩:=h
  refine ⟨_,(qad (qbs (qdm (qcl (qan qd3 rfl T.b_isinstance qbj (qaa (pv 0) (qaa (qe2 (v:=.ty "str") rfl T.b_str qph rfl) qac)))))
    (qaf (qdf (qbe ⟨rfl,rfl,rfl⟩) rfl T.ex_NoMark rfl T.mg_NoMark (qaa qbg qac)))
    qau)
   (qaf (qaw (qjy (qax qkx (pv 0) qbg (qa2 _)) (qc2 qac) (qhb PySem.F.plainAttrs_str PySem.F.slot_str_split PySem.F.type_str_split qok (pv 0) (qaa qbg qac)))))),?_⟩
  rcases hv with ⟨x,rfl,hx⟩|hv
  ·refine ⟨_,rfl,_,_,_,_,rfl,.str _,qm0 K,_,rfl,qe1 ?_⟩
   walk_at "r"
   rw[qfc,qum];refine qk4 (λz=>?_) λz=>?_
   ·have e:x=[]:=of_decide_eq_true z
    refine ⟨qdl (Nat.le_of_ble_eq_true rfl),λl H2 n2=>q1 x rfl l H2 ?_⟩;unfold qbi;rw[if_pos e];exact n2
   ·have e:¬ x=[]:=λy=>z (decide_eq_true y)
    rw[qnn]
    walk_at "r"
    intro l H2 n2;refine q1 x rfl l H2 ?_;unfold qbi;rw[if_neg e];exact n2
  ·obtain ⟨t,ty,kt⟩:=OddV.ty (K:=K) hv
   refine ⟨_,rfl,_,_,_,_,rfl,ty,kt,_,rfl,qef ?_⟩
   walk_at "r"
   exact q2 hv
end
section
variable {P:Program} {w:World} {K:Frag} {mg:Str->Option Value} {base:Heap} {C_Roll C_Rule C_Book C_BookError C_NoNumber C_NoRule C_Backward C_NoName C_NoMark:Addr}
theorem qjq {K:Frag} {a:Addr} {ws:List (List Nat)} {g:TG} {tc:TT} {te:TE} {Q:VK} {σ:St} {H:Hp} (f:List Nat->V) (b:List Nat->Bool) (ha:SqL K H a (ws.map tS)) (hz:ws.length<=20000)
  (hs:∀ w∈ws,∀ (H2:Hp) (R:Option V->Hp->Prop),Same H H2->(∀ H3,Same H2 H3->R (if b w=true then some (f w) else none) H3)->g (tS w) σ H2 λσ4 H4=>tc σ4 H4 λc H5=>if c=true then te σ4 H5 λv H6=>R (some v) H6 else R none H5)
  (hd:∀ p H',Same H H'->H p=none->H' p=some (.lst ((ws.filter b).map f))->Q (.ref p) H'):qdp (Itl K a) Q g tc te σ H:=by
 refine qho (xs:=ws.map tS) (λi ys H2=>Same H H2/\ys=((ws.take i).filter b).map f) (qdl (by rw[List.length_map];exact hz)) ⟨Same.refl _,rfl⟩ (λi ys H2 h2=>⟨Same.seq h2.1 ha,by rw[h2.2,List.length_map];exact Nat.le_trans (List.length_filter_le _ _) (by rw[List.length_take];omega)⟩) ?_ ?_
 ·rintro i x ys H2 hi ⟨s2,rfl⟩
  obtain ⟨w,hwi,rfl⟩:∃ w,ws[i]?=some w/\x=tS w:=by
   rw[List.getElem?_map] at hi;obtain ⟨w,a,b⟩:=Option.map_eq_some_iff.mp hi;exact ⟨w,a,b.symm⟩
  have et:ws.take (i+1)=ws.take i ++ [w]:=by rw[List.take_add_one,hwi];rfl
  refine hs w (List.mem_of_getElem? hwi) H2 (λo H6=>Same H H6/\(match o with|some v=>((ws.take i).filter b).map f ++ [v]|none=>((ws.take i).filter b).map f)=((ws.take (i+1)).filter b).map f) s2 λH3 s3=>⟨s2.trans s3,?_⟩
  rw[et,List.filter_append,List.map_append]
  by_cases hb:b w=true
  ·rw[if_pos hb];simp[hb]
  ·rw[if_neg hb];simp[hb]
 ·rintro ys H2 p H3 ⟨s2,rfl⟩ n3
  rw[List.length_map,List.take_length] at n3;refine hd p H3 (s2.trans n3.same) ?_ n3.at_
  cases q:H p with
  | none=>rfl
  | some o=>have:=s2 p o q;rw[n3.fresh] at this;cases this
theorem qg4 (c:Nat):∀ x:List Nat,(∀ p∈qar c x,p.length<=x.length)/\(qar c x).length<=x.length+1
 | []=>by simp[qar]
 | a :: l=>by
  obtain ⟨h1,h2⟩:=qg4 c l;unfold qar
  split
  ·refine ⟨λp hp=>?_,by simp;omega⟩
   rcases List.mem_cons.mp hp with rfl|hp
   ·simp
   ·have:=h1 p hp;simp;omega
  ·split
   ·simp
   ·rename_i p ps e
    rw[e] at h1 h2;refine ⟨λq hq=>?_,by simp at h2 ⊢;omega⟩
    rcases List.mem_cons.mp hq with rfl|hq
    ·have:=h1 p (.head _);simp;omega
    ·have:=h1 q (.tail _ hq);simp;omega
theorem qln (x:List Nat):(∀ p∈qbi x,p.length<=x.length)/\(qbi x).length<=x.length+1:=by
 unfold qbi
 split
 ·simp
 ·exact qg4 32 x
abbrev Bar (p:List Nat):Prop:=p.take 1=[45]/\qap 8 (p.drop 1)
def GoodW (p:List Nat):Prop:=qap 8 p\/Bar p
instance (p:List Nat):Decidable (GoodW p):=inferInstanceAs (Decidable (_\/_))
def qdi (ws:List (List Nat)):List (List Nat):=ws.filter λp=>decide (qap 8 p)
def qc3 (ws:List (List Nat)):List (List Nat):=(ws.filter λp=>decide (Bar p)).map λp=>p.drop 1
abbrev qiu:Stmt:=(qae qep).getD 4 (.Pass ⟨0,0,0,0⟩)
abbrev qd8:Pos:=⟨200,4,201,104⟩
abbrev qgj:Str:= "sieve.<locals>.lets"
abbrev qvk (H:Hp) (f:Addr) (v1 v2:V):Prop:=CloAt "lets" qgj qiu "wanted" "barred" H f v1 v2
def qo1 (C T:Addr):Sp:=λvs H Q E=>∃ v,vs=[v]/\TextV H v /\
 (∀ x,v=.str (S x)->(∀ p∈qbi x,GoodW p)->Tb T qd8 qgj H/\∀ f H' lw lb c,SameX T H H'->Tb1 T qd8 qgj c H'->qvk H' f (.ref lw) (.ref lb)->H' lw=some (.lst ((qdi (qbi x)).map tS))->H' lb=some (.lst ((qc3 (qbi x)).map tS))->Q (.ref f) H') /\
 ((OddV H v\/∃ x,v=.str (S x)/\¬ ∀ p∈qbi x,GoodW p)->∀ H',Same H H'->E (.ref C) none H')
theorem qno (T:Txt K mg C_Roll C_Rule C_Book C_BookError C_NoNumber C_NoRule C_Backward C_NoName C_NoMark) {c9 T9 d9 U9:Addr} (_ne9:T9≠U9) (Z9:∀ f,mg "sieve" = some (.ref f)->qkg K f c9 T9) (_Y9:∀ f,mg "_law_own" = some (.ref f)->qkg K f d9 U9):qsc P w K mg base 4 "sieve" ["text"] [] (qo1 C_NoMark T9):=by
 obtain ⟨f,fd,F,hm⟩:=T.f_sieve;have nd:=sc_sieve.nd;have Z:=Z9 f hm;refine ⟨f,fd,(F.okC (x1:= "wanted") (x2:= "barred") (i1:=2) (i2:=3) (a1:=1) (a2:=0) sc_sieve (λvs H Q E h=>?_) rfl rfl rfl rfl (λn=>rfl) (λn=>rfl) (by decide) (λcdv A outer s H vs Q E hcd hr h=>?_)),hm,F.kp,(F.binds λ_ _ _ _ _ _ us hl=>by obtain ⟨_,rfl⟩:=L2.lq1 hl;rfl)⟩
 ·obtain ⟨v,rfl,_⟩:=h;rfl
 ·obtain ⟨v,rfl,hv,q1,q2⟩:=h
  have hc:cdv=.ref c9:=by obtain ⟨oc,od,osl,fd',lk,e⟩:=hcd;rw[<- e];exact Z.code _ _ _ _ lk
  have NEST_lets:PS (bx P w K mg base ["text", "words", "wanted", "barred", "lets"] "sieve" (qab qep) f cdv A outer s H E) qiu (qqx T9 "lets" qgj qiu [("wanted",s.heap.objs.size+1+1),("barred",s.heap.objs.size+1)] qd8 4):=
   qm3 Z hc nd rfl rfl rfl rfl rfl rfl rfl (show (Str.ofString "sieve" ++ Str.ofString ".<locals>.") ++ Str.ofString "lets" = qgj by decide +kernel)
  refine ⟨_,(qe8 (qaz (i:=1) nd rfl (Or.inl rfl) (qia (qbe ⟨rfl,rfl,rfl⟩) (qlm T) (hr.mono (by decide)) rfl .nil (qaa (pv 0) qac)))
   (qe8 (qbs (qdm (qcl (qan (qd7 rfl) rfl T.b_all qgx (qaa (qem (vars:=["word"]) (frees:=[]) (fv:=[]) rfl (qh9 rfl rfl (by decide +kernel) (by decide +kernel) (by intro p hp;cases hp) rfl) trivial (qcd (pv 1)) (qb0 (by decide)) (λ_ _ _ _=>(qaq (i:=0) (show (["word"]:List Str).Nodup by decide +kernel) rfl (Or.inl rfl))) (λ_ _ _ _=>qbo) (λ_ _ _ _=>(qtv (qa7 (qez T) (hr.mono (by decide)) rfl (qaa (pv 0) qac)) (qft (qa7 (qfk T) (hr.mono (by decide)) rfl (qaa (pv 0) qac)))))) qac))))
    (qaf (qdf (qbe ⟨rfl,rfl,rfl⟩) rfl T.ex_NoMark rfl T.mg_NoMark (qaa qbg qac)))
    qau)
   (qe8 (qaz (i:=2) nd rfl (Or.inr rfl) (qem (vars:=["word"]) (frees:=[]) (fv:=[]) rfl (qh9 rfl rfl (by decide +kernel) (by decide +kernel) (by intro p hp;cases hp) rfl) trivial (qcd (pv 1)) (qb0 (by decide)) (λ_ _ _ _=>(qaq (i:=0) (show (["word"]:List Str).Nodup by decide +kernel) rfl (Or.inl rfl))) (λ_ _ _ _=>(qf7 (qcl (qa7 (qez T) (hr.mono (by decide)) rfl (qaa (pv 0) qac))))) (λ_ _ _ _=>(pv 0))))
   (qe8 (qaz (i:=3) nd rfl (Or.inr rfl) (qem (vars:=["word"]) (frees:=[]) (fv:=[]) rfl (qh9 rfl rfl (by decide +kernel) (by decide +kernel) (by intro p hp;cases hp) rfl) trivial (qcd (pv 1)) (qb0 (by decide)) (λ_ _ _ _=>(qaq (i:=0) (show (["word"]:List Str).Nodup by decide +kernel) rfl (Or.inl rfl))) (λ_ _ _ _=>(qf7 (qcl (qa7 (qfk T) (hr.mono (by decide)) rfl (qaa (pv 0) qac))))) (λ_ _ _ _=>(qch qgy (pv 0) (qde qah) qdd))))
   (qe8 NEST_lets
   (qpn (pv 4))))))),?_⟩
  walk_at "r"
  refine ⟨λx ex l H1 n1=>?_,λho=>q2 (.inl ho) H (Same.refl _)⟩;subst ex;have hx:x.length<=3000:=by
   rcases hv with ⟨y,e,hy⟩|hv
   ·have e2:x=y:=qhh (V.str.inj e)
    rw[e2];exact hy
   ·rcases hv with e|⟨_,e⟩|⟨_,e⟩|⟨_,_,e,_⟩|⟨_,_,e,_⟩<;>cases e
  obtain ⟨w1,w2⟩:=qln x;have wl:∀ p∈qbi x,p.length<=3000:=λp hp=>Nat.le_trans (w1 p hp) hx
  refine ⟨_,rfl,l,rfl,⟨_,SqL.of n1.at_⟩,qjq (ws:=qbi x) (λp=>.bl (decide (GoodW p))) (λ_=>true) (SqL.of n1.at_) (by omega) (λp hp H2 R s2 hR=>?_) λpl H2 s2 _ e2=>?_⟩
  ·refine qav (qlw (qef ?_))
   refine ⟨_,rfl,_,rfl,.inl ⟨p,rfl,wl p hp⟩,λH3 s3=>⟨_,rfl,?_⟩⟩;rw[qeq]
   by_cases sm:qap 8 p
   ·rw[if_pos (decide_eq_true sm)]
    have:=hR H3 s3;rw[if_pos rfl,decide_eq_true (show GoodW p from .inl sm)] at this;exact this
   ·rw[if_neg (λz=>sm (of_decide_eq_true z))]
    refine ⟨_,rfl,p,rfl,wl p hp,λH4 s4=>?_⟩;have:=hR H4 (s3.trans s4);rw[if_pos rfl,show decide (GoodW p)=decide (p.take 1=[45]/\qap 8 (p.drop 1)) by rw[decide_eq_decide];exact ⟨λh=>h.elim (λz=>absurd z sm) id,.inr⟩] at this;exact this
  ·have ft:(qbi x).filter (λ_=>true)=qbi x:=List.filter_eq_self.mpr (by simp)
   rw[ft] at e2;have sl:H2 l=some (.lst ((qbi x).map tS)):=s2 _ _ n1.at_;refine ⟨pl,(qbi x).map (λp=>decide (GoodW p)),rfl,SqL.of (by rw[List.map_map];exact e2),⟨_,rfl,?_⟩⟩
   by_cases gd:∀ p∈qbi x,GoodW p
   ·have ea:((qbi x).map (λp=>decide (GoodW p))).all id=true:=List.all_eq_true.mpr λb hb=>by
     obtain ⟨p,hp,rfl⟩:=List.mem_map.mp hb;exact decide_eq_true (gd p hp)
    rw[ea];refine qe1 ?_;obtain ⟨tb,q1⟩:=q1 x rfl gd;refine ⟨_,rfl,l,rfl,⟨_,SqL.of sl⟩,qjq (ws:=qbi x) tS (λp=>decide (qap 8 p)) (SqL.of sl) (by omega) (λp hp H3 R s3 hR=>?_) λlw H3 s3 _ e3=>?_⟩
    ·refine qav ?_
     refine ⟨_,rfl,_,rfl,.inl ⟨p,rfl,wl p hp⟩,λH4 s4=>⟨_,rfl,?_⟩⟩;rw[qeq]
     by_cases sm:qap 8 p
     ·rw[if_pos (decide_eq_true sm)]
      have:=hR H4 s4;rw[if_pos (decide_eq_true sm)] at this;exact ⟨_,rfl,this⟩
     ·rw[if_neg (λz=>sm (of_decide_eq_true z))]
      have:=hR H4 s4;rw[if_neg (λz=>sm (of_decide_eq_true z))] at this;exact this
    ·refine qav ?_
     have sl3:=s3 _ _ sl;refine ⟨_,rfl,l,rfl,⟨_,SqL.of sl3⟩,qjq (ws:=qbi x) (λp=>tS (p.drop 1)) (λp=>decide (Bar p)) (SqL.of sl3) (by omega) (λp hp H4 R s4 hR=>?_) λlb H4 s4 _ e4=>?_⟩
     ·refine qav ?_
      refine ⟨_,rfl,p,rfl,wl p hp,λH5 s5=>⟨_,rfl,?_⟩⟩
      by_cases sm:Bar p
      ·rw[if_pos (decide_eq_true sm)]
       have:=hR H5 s5;rw[if_pos (decide_eq_true sm)] at this;refine ⟨_,rfl,_,rfl,_,rfl,by rw[qfq,qbk];exact qdl (by have:=wl p hp;simp;omega),?_⟩;rw[qfq];exact this
      ·rw[if_neg (λz=>sm (of_decide_eq_true z))]
       have:=hR H5 s5;rw[if_neg (λz=>sm (of_decide_eq_true z))] at this;exact this
     ·have s04:Same H H4:=((n1.same.trans s2).trans s3).trans s4
      have tb4:=tb.same s04;obtain ⟨ps,hT4⟩:∃ ps,H4 T9=some (.tbl ps):=tb4.elim (λz=>⟨_,z⟩) fun ⟨_,z⟩=>⟨_,z.1⟩
      have nT:∀ b xs,H4 b=some (.lst xs)->b≠T9:=λb xs e z=>by rw[z,hT4] at e;cases e
      refine qav ⟨tb4,λfl c H5 sx tb1 hf hfT ho=>⟨_,rfl,_,_,rfl,rfl,λc1 c2 e1 e2 ne h1 h2=>?_⟩⟩;have sm:Same H5 (upd (upd H5 c1 (qci c1 (.ref lw))) c2 (qci c2 (.ref lb))):=(qd4 h1).trans (qd4 (by rw[qam (Ne.symm ne)];exact h2));refine q1 fl _ lw lb c (SameX.trans (SameX.trans (.of s04) sx) (.of sm)) (tb1.same sm) ⟨c,c1,c2,?_,sm _ _ tb1.2,?_,qat,ne⟩ (sm _ _ (sx _ _ (nT _ _ (s4 _ _ e3)) (s4 _ _ e3))) (sm _ _ (sx _ _ (nT _ _ e4) ?_))
      ·rw[e1,e2] at sm ⊢
       exact sm _ _ ho
      ·rw[qam ne,qat]
      ·rw[e4];unfold qc3;rw[List.map_map];rfl
   ·have ea:((qbi x).map (λp=>decide (GoodW p))).all id=false:=by
     rw[<- Bool.not_eq_true];intro z;refine gd λp hp=>of_decide_eq_true (List.all_eq_true.mp z _ (List.mem_map.mpr ⟨p,hp,rfl⟩))
    rw[ea];refine qef ?_;exact ⟨qdl (Nat.le_of_ble_eq_true rfl),q2 (.inr ⟨x,rfl,gd⟩) H2 (n1.same.trans s2)⟩
end
section
variable {P:Program} {w:World} {K:Frag} {mg:Str->Option Value} {base:Heap} {C_Roll C_Rule C_Book C_BookError C_NoNumber C_NoRule C_Backward C_NoName C_NoMark:Addr}
theorem qrf:qun "marks" "wanted" "barred" (qab qiu):=⟨rfl,rfl,rfl,rfl,rfl,rfl,by decide,by decide,by decide,by decide +kernel,λh=>rfl,λn cl=>rfl⟩
def qgq (ws bs ms:List (List Nat)):Bool:=(ws.all λw=>decide (w∈ms)) && !(bs.any λw=>decide (w∈ms))
theorem qnp (w:List Nat) (ms:List (List Nat)):inV (tS w) (ms.map tS)=decide (w∈ms):=by
 unfold inV;rw[Bool.eq_iff_iff,List.any_eq_true,decide_eq_true_iff]
 constructor
 ·rintro ⟨v,hv,e⟩
  obtain ⟨m,hm,rfl⟩:=List.mem_map.mp hv;have e2:S m=S w:=beq_iff_eq.mp e;rw[<- qhh e2];exact hm
 ·intro h
  exact ⟨_,List.mem_map.mpr ⟨w,h,rfl⟩,beq_self_eq_true (S w)⟩
theorem qgk (ms:List (List Nat)):(ms.map tS).all qha=true:=List.all_eq_true.mpr λv hv=>by
 obtain ⟨m,_,rfl⟩:=List.mem_map.mp hv
 rfl
def spl (m v1 v2:V) (H:Hp) (Q:VK):Prop:=∃ (pm p1 p2:Addr) (ms ws bs:List (List Nat)),m=.ref pm/\v1=.ref p1/\v2=.ref p2/\H pm=some (.lst (ms.map tS))/\H p1=some (.lst (ws.map tS))/\H p2=some (.lst (bs.map tS))/\ms.length<=20000/\ws.length<=20000/\bs.length<=20000/\∀ H',Same H H'->Q (.bl (qgq ws bs ms)) H'
theorem qtc {X:Cx} (T:Txt X.K X.mg C_Roll C_Rule C_Book C_BookError C_NoNumber C_NoRule C_Backward C_NoName C_NoMark) (hr:Room 2 X.A):qvd X "lets" qgj qiu "wanted" "barred" spl:=by
 intro pins σ H s f m v1 v2 um Q I hC rm ⟨pm,p1,p2,ms,ws,bs,em,e1,e2,hm,hw,hb,lm,lw,lb,q⟩;refine qq0 (x:= "marks") (k:=1) qrf hr I hC rm (λ_ _ _ _ _ _=>rfl) λc c1 c2 A outer s hr h1 h2=>⟨_,
  (qaf (qaw (qer (qan (qd7 rfl) rfl T.b_all qgx (qaa (qem (vars:=["mark"]) (frees:=["marks"]) (fv:=[0]) rfl (qh9 rfl rfl (by decide +kernel) (by decide +kernel) (by intro p hp;simp only[List.mem_cons,List.not_mem_nil,or_false] at hp;rcases hp with rfl<;>rfl) rfl) ⟨⟨rfl,.inl rfl,rfl,.inl rfl⟩,trivial⟩ (qcd (qfe (i:=1) rfl (.inr (.inr rfl)))) (qb0 (by decide)) (λ_ _ _ _=>(qaq (i:=0) (show (["mark", "marks"]:List Str).Nodup by decide +kernel) rfl (Or.inl rfl))) (λ_ _ _ _=>qbo) (λ_ _ _ _=>(qbt (show OpR _ _ (rIn X.K false) from qf2) (pv 0) (pv 1) rfl))) qac))
   (qft (qpa (qan (qoj rfl) rfl T.b_any qsq (qaa (qem (vars:=["mark"]) (frees:=["marks"]) (fv:=[0]) rfl (qh9 rfl rfl (by decide +kernel) (by decide +kernel) (by intro p hp;simp only[List.mem_cons,List.not_mem_nil,or_false] at hp;rcases hp with rfl<;>rfl) rfl) ⟨⟨rfl,.inl rfl,rfl,.inl rfl⟩,trivial⟩ (qcd (qfe (i:=2) rfl (.inr (.inr rfl)))) (qb0 (by decide)) (λ_ _ _ _=>(qaq (i:=0) (show (["mark", "marks"]:List Str).Nodup by decide +kernel) rfl (Or.inl rfl))) (λ_ _ _ _=>qbo) (λ_ _ _ _=>(qbt (show OpR _ _ (rIn X.K false) from qf2) (pv 0) (pv 1) rfl))) qac))))))),?_⟩
 subst em e1 e2;have dl:∀ b xs,H b=some (.lst xs)->qdr H c1 c2 b=some (.lst xs):=λb xs e=>by
  unfold qdr;rw[if_neg λz=>?_]
  ·exact e
  ·rcases z with z|z
   ·rw[z,h1] at e;cases e
   ·rw[z,h2] at e;cases e
 have ps:∀ H',Same (qdr H c1 c2) H'->Same H (put2 H H' c1 c2):=λH' s' b o e=>by
  unfold put2
  by_cases z:b=c1\/b=c2
  ·rw[if_pos z];exact e
  ·rw[if_neg z];exact s' b o (by unfold qdr;rw[if_neg z];exact e)
 have hm':=dl _ _ hm;have hw':=dl _ _ hw;have hb':=dl _ _ hb;refine ⟨_,rfl,p1,rfl,⟨_,SqL.of hw'⟩,qjq (ws:=ws) (λw=>.bl (decide (w∈ms))) (λ_=>true) (SqL.of hw') lw (λp hp H2 R s2 hR=>?_) λpl H2 s2 _ e2=>?_⟩
 ·refine qav (qlw (qef ?_))
  refine ⟨_,rfl,_,rfl,pm,ms.map tS,rfl,.inl (SqL.of (s2 _ _ hm')),rfl,qgk ms,?_⟩;have:=hR H2 (Same.refl _);rw[if_pos rfl] at this;rw[qnp];exact this
 ·rw[List.filter_eq_self.mpr (by simp)] at e2
  have ea:ws.all (λw=>decide (w∈ms))=(ws.map λw=>decide (w∈ms)).all id:=by rw[List.all_map];rfl
  refine ⟨pl,ws.map λw=>decide (w∈ms),rfl,SqL.of (by rw[List.map_map];exact e2),⟨_,rfl,?_⟩⟩;rw[<- ea]
  by_cases al:ws.all (λw=>decide (w∈ms))=true
  ·rw[if_pos al]
   have hb2:=s2 _ _ hb';refine ⟨_,rfl,p2,rfl,⟨_,SqL.of hb2⟩,qjq (ws:=bs) (λw=>.bl (decide (w∈ms))) (λ_=>true) (SqL.of hb2) lb (λp hp H3 R s3 hR=>?_) λpl2 H3 s3 _ e3=>?_⟩
   ·refine qav (qlw (qef ?_))
    refine ⟨_,rfl,_,rfl,pm,ms.map tS,rfl,.inl (SqL.of (s3 _ _ (s2 _ _ hm'))),rfl,qgk ms,?_⟩;have:=hR H3 (Same.refl _);rw[if_pos rfl] at this;rw[qnp];exact this
   ·rw[List.filter_eq_self.mpr (by simp)] at e3
    refine ⟨pl2,bs.map λw=>decide (w∈ms),rfl,SqL.of (by rw[List.map_map];exact e3),⟨_,rfl,?_⟩⟩;have eb:(bs.map λw=>decide (w∈ms)).any id=bs.any λw=>decide (w∈ms):=by rw[List.any_map];rfl
    have:=q _ (ps H3 (s2.trans s3));unfold qgq at this;rw[al,Bool.true_and] at this;rw[eb];exact this
  ·rw[if_neg al]
   have:=q _ (ps H2 s2);unfold qgq at this;rw[Bool.eq_false_iff.mpr al,Bool.false_and] at this;exact this
end
section
variable {P:Program} {w:World} {K:Frag} {mg:Str->Option Value} {base:Heap} {C_Roll C_Rule C_Book C_BookError C_NoNumber C_NoRule C_Backward C_NoName C_NoMark:Addr}
theorem GoodW.len {p:List Nat} (h:GoodW p):1<=p.length/\p.length<=9:=by
 rcases h with h|h
 ·have a:=h.1;have b:=h.2.1;omega
 ·have a:=h.2.1;have b:=h.2.2.1;simp at a b;omega
theorem GoodW.no {p:List Nat} (h:GoodW p):32 ∉ p:=by
 intro z
 rcases h with h|h
 ·have:=h.2.2 _ z;omega
 ·cases p with
  | nil=>cases z
  | cons a l =>
   have h1:=h.1
   simp at h1
   rcases List.mem_cons.mp z with e|e
   ·omega
   ·have:=h.2.2.2 _ (show 32∈(a :: l).drop 1 from e);omega
def qcv (w:List Nat):List Nat:=if w.take 1=[45] then w.drop 1 else w
def qu2 (ws ms:List (List Nat)):Bool:=ws.all λw=>decide (qcv w∈ms) == decide (qcv w=w)
theorem qo2 (ws ms:List (List Nat)) (h:∀ w∈ws,GoodW w):qgq (qdi ws) (qc3 ws) ms=qu2 ws ms:=by
 have sm:∀ w,qap 8 w->qcv w=w:=λw s=>by
  unfold qcv
  by_cases t:w.take 1=[45]
  ·cases w with
   | nil=>cases t
   | cons a l =>
    simp at t
    have:=s.2.2 a (.head _);omega
  ·rw[if_neg t]
 have br:∀ w,Bar w->qcv w=w.drop 1/\w.drop 1≠w:=λw b=>by
  refine ⟨by unfold qcv;rw[if_pos b.1],λe=>?_⟩;have e2:=congrArg List.length e
  cases w with
  | nil=>have:=b.1;cases this
  | cons a l=>simp at e2
 rw[Bool.eq_iff_iff];unfold qgq qu2 qdi qc3;rw[Bool.and_eq_true,List.all_eq_true,List.all_eq_true,Bool.not_eq_true',List.any_eq_false]
 constructor
 ·rintro ⟨h1,h2⟩ w hw
  rcases h w hw with s|b
  ·have:=h1 w (List.mem_filter.mpr ⟨hw,decide_eq_true s⟩)
   rw[sm w s,this];simp
  ·have:=h2 (w.drop 1) (List.mem_map.mpr ⟨w,List.mem_filter.mpr ⟨hw,decide_eq_true b⟩,rfl⟩)
   rw[(br w b).1,decide_eq_false (br w b).2,Bool.eq_false_iff.mpr this];rfl
 ·intro hd
  refine ⟨λw hw=>?_,λy hy=>?_⟩
  ·obtain ⟨hw,s⟩:=List.mem_filter.mp hw
   have:=hd w hw;rw[sm w (of_decide_eq_true s),decide_eq_true (show w=w from rfl),beq_iff_eq] at this;exact this
  ·obtain ⟨w,hw,rfl⟩:=List.mem_map.mp hy
   obtain ⟨hw,b⟩:=List.mem_filter.mp hw;have b:=of_decide_eq_true b;have:=hd w hw;rw[(br w b).1,decide_eq_false (br w b).2,beq_iff_eq] at this;rw[this];decide
theorem qkp:∀ ws:List (List Nat),(∀ w∈ws,w.length<=9)->(qcw [32] ws).length<=10*ws.length/\(ws.map List.length).sum<=9*ws.length
 | [],_=>by simp[qcw]
 | [w],h=>by have:=h w (.head _);simp[qcw];omega
 | w :: v :: ws,h=>by
  obtain ⟨i1,i2⟩:=qkp (v :: ws) λu hu=>h u (.tail _ hu)
  have:=h w (.head _)
  constructor
  ·show (w ++ [32] ++ qcw [32] (v :: ws)).length<=_
   simp at i1 ⊢;omega
  ·simp at i2 ⊢;omega
theorem qlo {ws:List (List Nat)} (h:∀ w∈ws,GoodW w):qbi (qcw [32] ws)=ws:=by
 cases ws with
 | nil=>rfl
 | cons w l =>
  have e:qcw [32] (w :: l)≠[]:=λz=>by
   have:=(h w (.head _)).len.1
   cases l with
   | nil=>have z':w=[]:=z;rw[z'] at this;simp at this
   | cons v l =>
    have z':w ++ [32] ++ qcw [32] (v :: l)=[]:=z
    simp at z'
  unfold qbi;rw[if_neg e];exact TX.split_join (by simp) λw hw=>(h w hw).no
theorem qtd (ws:List (List Nat)):(qdi ws).length<=ws.length/\(qc3 ws).length<=ws.length:=by
 unfold qdi qc3;rw[List.length_map];exact ⟨List.length_filter_le _ _,List.length_filter_le _ _⟩
end
section
variable {P:Program} {w:World} {K:Frag} {mg:Str->Option Value} {base:Heap} {C_Roll C_Rule C_Book C_BookError C_NoNumber C_NoRule C_Backward C_NoName C_NoMark:Addr}
structure BookAt (C CR R:Addr) (H:Hp) (b:Addr) (B:BookD) (E:Rows):Prop where
 ob:∃ dx,H b=some (.ins C dx (bof B.ru B.day B.le B.dm B.dr))
 rule:RuleAt R H B.ru B.rl B.ps B.g
 ed:H B.le=some (.lst (eV B.ps B.g B.day))
 ms:∃ kvs,H B.dm=some (.dK kvs)/\Ents (λv ms=>TxtL H v (qcf ms)) kvs E
 rs:∃ kvs,H B.dr=some (.dK kvs)/\Ents (λv _=>∃ r,v=.ref r/\RollE CR R H r B.ru B.rl B.ps B.g B.day) kvs E
 ne:B.dm≠B.dr
 pr:Pr B.ps B.g
 bd:Bd B.day
theorem BookAt.same {C CR R:Addr} {H H':Hp} {b:Addr} {B:BookD} {E:Rows} (h:BookAt C CR R H b B E) (s:Same H H'):BookAt C CR R H' b B E:=
 ⟨let ⟨dx,e⟩:=h.ob;⟨dx,s _ _ e⟩,h.rule.same s,s _ _ h.ed,let ⟨k,e,r⟩:=h.ms;⟨k,s _ _ e,r.imp λ_ _ q=>q.same s⟩,let ⟨k,e,r⟩:=h.rs;⟨k,s _ _ e,r.imp λ_ _ ⟨x,e1,e2⟩=>⟨x,e1,e2.same s⟩⟩,h.ne,h.pr,h.bd⟩
inductive qfl (C CR R:Addr) (vs:List V) (H:Hp) (Q:VK) (E_:XK):Prop
 | mk:∀ (b dx ru rl:Addr) (ps:List (Int×Int)) (g:Option Int) (day:Int),vs=[.ref b,.ref ru,.int day]->H b=some (.ins C dx [])->RuleAt R H ru rl ps g->Pr ps g->Bd day->(∀ le dm dr H',BookAt C CR R H' b ⟨ru,rl,le,dm,dr,ps,g,day⟩ []->H dm=none->H dr=none->But b H H'->Q .non H')->qfl C CR R vs H Q E_
theorem qo3 (T:Txt K mg C_Roll C_Rule C_Book C_BookError C_NoNumber C_NoRule C_Backward C_NoName C_NoMark):qtr P w K mg base C_Book 4 "Book" ["self", "rule", "day"] [] (qfl C_Book C_Roll C_Rule):=by
 obtain ⟨f,fd,F,M⟩:=T.f_Book_init;have nd:=sc_Book_init.nd;refine ⟨f,fd,(F.ok sc_Book_init (λvs H Q E h=>?_) (λcdv A outer s H vs Q E hr h=>?_)),T.mg_Book,M,(F.binds λ_ _ _ _ _ _ us hl=>by obtain ⟨_,_,_,rfl⟩:=L2.lq3 hl;rfl)⟩
 ·obtain ⟨ro,dx,ru,rl,ps,g,day,rfl,_⟩:=h;rfl
 ·obtain ⟨ro,dx,ru,rl,ps,g,day,rfl,hro,R,Pg,hd,q⟩:=h
  obtain ⟨dx2,hru⟩:=R.ob;have nru:ru≠ro:=qa6 hru hro (by intro z;injection z with _ _ z;have:=qow rl (gv g);rw[z] at this;cases this);refine ⟨_,(qad (qb1 (pv 0) (pv 1) rfl)
   (qad (qb1 (pv 0) (pv 2) rfl)
   (qad (qb1 (pv 0) (qa7 (qg3 T) (hr.mono (by decide)) rfl (qaa (pv 1) (qaa (pv 2) qac))) rfl)
   (qad (qb1 (pv 0) qf8 rfl)
   (qaf (qb1 (pv 0) qf8 rfl)))))),?_⟩
  refine ⟨_,rfl,_,rfl,ro,C_Book,dx,[],rfl,hro,T.cl_Book,T.na_Book_kept_rule,(by show 0<1000;decide),λH1 b1 h1=>?_⟩;refine ⟨_,rfl,_,rfl,ro,C_Book,dx,_,rfl,h1,T.cl_Book,T.na_Book_kept_day,(by show 1<1000;decide),λH2 b2 h2=>?_⟩;have R2:=(R.but2 b1 hro qc8 (by intro xs z;cases z) nru).but2 b2 h1 qc8 (by intro xs z;cases z) nru;refine ⟨_,rfl,_,rfl,ru,rl,ps,g,day,rfl,R2,Pg,hd,λle H3 n3=>?_⟩;refine ⟨_,rfl,ro,C_Book,dx,_,rfl,n3.same _ _ h2,T.cl_Book,T.na_Book_kept_edges,(by show 2<1000;decide),λH4 b4 h4=>?_⟩;intro dy H5 n5;refine ⟨_,rfl,ro,C_Book,dx,_,rfl,n5.same _ _ h4,T.cl_Book,T.na_Book_kept_marks,(by show 3<1000;decide),λH6 b6 h6=>?_⟩;intro dh H7 n7;refine ⟨_,rfl,ro,C_Book,dx,_,rfl,n7.same _ _ h6,T.cl_Book,T.na_Book_kept_rolls,(by show 4<1000;decide),λH8 b8 h8=>?_⟩;have R8:=((((R2.same n3.same).but2 b4 (n3.same _ _ h2) qc8 (by intro xs z;cases z) nru).same n5.same |>.but2 b6 (n5.same _ _ h4) qc8 (by intro xs z;cases z) nru).same n7.same).but2 b8 (n7.same _ _ h6) qc8 (by intro xs z;cases z) nru;have bb:But ro H H8:=λb o e hb=>b8 _ _ (n7.same _ _ (b6 _ _ (n5.same _ _ (b4 _ _ (n3.same _ _ (b2 _ _ (b1 _ _ e hb) hb)) hb)) hb)) hb
  have fr:∀ b,b≠ro->H8 b=none->H b=none:=λb hb h0=>by
   cases e:H b with
   | none=>rfl
   | some o=>rw[bb b o e hb] at h0;cases h0
  have e4:H4 le=some (.lst (eV ps g day)):=b4 _ _ n3.at_ (qa6 n3.at_ (n3.same _ _ h2) (by intro z;cases z));have e6:H6 dy=some (.dK []):=b6 _ _ n5.at_ (qa6 n5.at_ (n5.same _ _ h4) (by intro z;cases z));have up2:∀ b o,H b=some o->b≠ro->H2 b=some o:=λb o e hb=>b2 _ _ (b1 _ _ e hb) hb
  have fr2:∀ b,H2 b=none->H b=none:=λb h0=>by
   cases e:H b with
   | none=>rfl
   | some o =>
    by_cases hb:b=ro
    ·subst hb;rw[h2] at h0;cases h0
    ·rw[up2 b o e hb] at h0;cases h0
  have fr4:∀ b,H4 b=none->H2 b=none:=λb h0=>by
   cases e:H2 b with
   | none=>rfl
   | some o =>
    by_cases hb:b=ro
    ·subst hb;rw[h4] at h0;cases h0
    ·rw[b4 _ _ (n3.same _ _ e) hb] at h0;cases h0
  have fr6:∀ b,H6 b=none->H4 b=none:=λb h0=>by
   cases e:H4 b with
   | none=>rfl
   | some o =>
    by_cases hb:b=ro
    ·subst hb;rw[h6] at h0;cases h0
    ·rw[b6 _ _ (n5.same _ _ e) hb] at h0;cases h0
  refine q le dy dh H8 ⟨⟨dx,h8⟩,R8,?_,⟨[],?_,.nil⟩,⟨[],?_,.nil⟩,qaj e6 n7.fresh,Pg,hd⟩ (fr2 _ (fr4 _ n5.fresh)) (fr2 _ (fr4 _ (fr6 _ n7.fresh))) bb
  ·exact b8 _ _ (n7.same _ _ (b6 _ _ (n5.same _ _ e4) (qa6 (n5.same _ _ e4) (n5.same _ _ h4) (by intro z;cases z)))) (qa6 (n7.same _ _ (b6 _ _ (n5.same _ _ e4) (qa6 (n5.same _ _ e4) (n5.same _ _ h4) (by intro z;cases z)))) (n7.same _ _ h6) (by intro z;cases z))
  ·exact b8 _ _ (n7.same _ _ e6) (qa6 (n7.same _ _ e6) (n7.same _ _ h6) (by intro z;cases z))
  ·exact b8 _ _ n7.at_ (qa6 n7.at_ (n7.same _ _ h6) (by intro z;cases z))
inductive qiv (C CR R:Addr) (vs:List V) (H:Hp) (Q:VK) (E_:XK):Prop
 | mk:∀ (b:Addr) (B:BookD) (E:Rows),vs=[.ref b]->BookAt C CR R H b B E->E.length<64->(∀ l H',New H H' l (.lst ((qcf (E.map (·.1))).map tS))->Q (.ref l) H')->qiv C CR R vs H Q E_
theorem qfm (T:Txt K mg C_Roll C_Rule C_Book C_BookError C_NoNumber C_NoRule C_Backward C_NoName C_NoMark):qk5 P w K mg base C_Book 1 "names" ["self"] (qiv C_Book C_Roll C_Rule):=by
 obtain ⟨f,fd,F,hm⟩:=T.f_Book_names;have nd:=sc_Book_names.nd;refine ⟨f,fd,(F.ok sc_Book_names (λvs H Q E h=>?_) (λcdv A outer s H vs Q E hr h=>?_)),hm,(F.binds λ_ _ _ _ _ _ us hl=>by obtain ⟨_,rfl⟩:=L2.lq1 hl;rfl)⟩
 ·obtain ⟨b,B,E',rfl,_⟩:=h;rfl
 ·obtain ⟨b,B,E',rfl,A',hz,q⟩:=h
  obtain ⟨dx,hob⟩:=A'.ob;obtain ⟨kvs,hk,en⟩:=A'.rs;refine ⟨_,(qaf (qaw (qan (qb4 rfl) rfl T.b_sorted qc7 (qaa (qdk (pv 0) rfl) qac)))),?_⟩;exact ⟨_,rfl,b,C_Book,dx,_,_,rfl,hob,T.cl_Book,T.na_Book_kept_rolls,qkn _ _ _ _ _,B.dr,kvs,E'.map (·.1),rfl,.inl hk,en.keys,by simpa using hz,q⟩
def qte (E:Rows) (v:V):Prop:=∃ x,v=tS x/\qap 12 x/\x∈E.map (·.1)
inductive qiw (C CR R N:Addr) (vs:List V) (H:Hp) (Q:VK) (X:XK):Prop
 | mk:∀ (b:Addr) (B:BookD) (E:Rows) (v:V),vs=[.ref b,v]->BookAt C CR R H b B E->TextV H v->(qte E v->∀ H',Same H H'->Q .non H')->(¬ qte E v->∀ H',Same H H'->X (.ref N) none H')->qiw C CR R N vs H Q X
theorem qdz (T:Txt K mg C_Roll C_Rule C_Book C_BookError C_NoNumber C_NoRule C_Backward C_NoName C_NoMark):qsd P w K mg base C_Book 3 "check_enrolled" ["self", "name"] [] (qiw C_Book C_Roll C_Rule C_NoName):=by
 obtain ⟨f,fd,F,hm⟩:=T.f_Book_check_enrolled;have nd:=sc_Book_check_enrolled.nd;refine ⟨f,fd,(F.okX sc_Book_check_enrolled (λvs H Q E h=>?_) (λcdv A outer s H vs Q E hr h=>?_)),hm,(F.binds λ_ _ _ _ _ _ us hl=>by obtain ⟨_,_,rfl⟩:=L2.lq2 hl;rfl)⟩
 ·obtain ⟨b,B,E',v,rfl,_⟩:=h;rfl
 ·obtain ⟨b,B,E',v,rfl,A',hv,q1,q2⟩:=h
  obtain ⟨dx,hob⟩:=A'.ob;obtain ⟨kvs,hk,en⟩:=A'.rs;refine ⟨_,(qaf (qbs (PW.pt (qkv (qdm (qcl (qa7 (qis T) (hr.mono (by decide)) rfl (qaa (pv 1) qac)))) (qgv (ql1 (qh7 (qgn hr) (pv 1) (qdk (pv 0) rfl))))))
    (qaf (qdf (qbe ⟨rfl,rfl,rfl⟩) rfl T.ex_NoName rfl T.mg_NoName (qaa qbg qac)))
    qau)),?_⟩
  refine ⟨_,rfl,v,rfl,hv,λH1 s1=>⟨_,rfl,?_⟩⟩
  cases hs:qcg 12 v with
  | false =>
   refine qef ?_
   walk_at "r"
   refine q2 (fun ⟨x,e,hx,_⟩=>?_) H1 s1;rw[small_iff.mpr ⟨x,e,hx⟩] at hs;cases hs
  | true =>
   refine qe1 ?_;obtain ⟨x,rfl,hx⟩:=small_iff.mp hs;refine ⟨_,rfl,_,rfl,b,C_Book,dx,_,_,rfl,s1 _ _ hob,T.cl_Book,T.na_Book_kept_rolls,qkn _ _ _ _ _,B.dr,_,rfl,DGet.k (k:=kS x) (s1 _ _ hk),_,rfl,?_⟩
   by_cases hin:x∈E'.map (·.1)
   ·obtain ⟨u,a,e1,_,_⟩:=en.has hin
    rw[e1];refine qe1 ?_;exact q1 ⟨x,rfl,hx,hin⟩ H1 s1
   ·rw[en.hasn hin]
    refine qef ?_
    walk_at "r"
    refine q2 (fun ⟨y,e,_,hy⟩=>hin ?_) H1 s1;rw[qeh e];exact hy
inductive qix (C CR R N:Addr) (vs:List V) (H:Hp) (Q:VK) (X:XK):Prop
 | mk:∀ (b:Addr) (B:BookD) (E:Rows) (v:V),vs=[.ref b,v]->BookAt C CR R H b B E->TextV H v->(∀ x a,v=tS x->qap 12 x->(x,a)∈E->∀ l H',Same H H'->H l=none->H' l=some (.lst ((qcf a).map tS))->Q (.ref l) H')->(¬ qte E v->∀ H',Same H H'->X (.ref N) none H')->qix C CR R N vs H Q X
theorem qd0 (T:Txt K mg C_Roll C_Rule C_Book C_BookError C_NoNumber C_NoRule C_Backward C_NoName C_NoMark):qsd P w K mg base C_Book 4 "marks" ["self", "name"] [] (qix C_Book C_Roll C_Rule C_NoName):=by
 obtain ⟨f,fd,F,hm⟩:=T.f_Book_marks;have nd:=sc_Book_marks.nd;refine ⟨f,fd,(F.okX sc_Book_marks (λvs H Q E h=>?_) (λcdv A outer s H vs Q E hr h=>?_)),hm,(F.binds λ_ _ _ _ _ _ us hl=>by obtain ⟨_,_,rfl⟩:=L2.lq2 hl;rfl)⟩
 ·obtain ⟨b,B,E',v,rfl,_⟩:=h;rfl
 ·obtain ⟨b,B,E',v,rfl,A',hv,q1,q2⟩:=h
  obtain ⟨dx,hob⟩:=A'.ob;refine ⟨_,(qad (qcm (qmx (qbe ⟨rfl,rfl,rfl⟩) (pv 0) T.cl_Book (qdz T) (hr.mono (by decide)) .nil (qaa (pv 1) qac)))
   (qaf (qaw (qdo qd5 rfl T.b_list qe5 (qaa (qhe (qgn hr) (qdk (pv 0) rfl) (pv 1) (λ_ _=>rfl)) qac))))),?_⟩
  refine ⟨_,rfl,b,dx,_,rfl,hob,qg2 _ _ _ _ _ (by decide +kernel) (by decide +kernel) (by decide +kernel) (by decide +kernel) (by decide +kernel),_,rfl,b,B,E',v,rfl,A',hv,λhin H1 s1=>?_,λhn H1 s1=>q2 hn H1 s1⟩;obtain ⟨x,rfl,hx,hxE⟩:=hin;obtain ⟨kvs,hk,en⟩:=A'.ms;obtain ⟨u,a,e1,e2,l,rfl,hl⟩:=en.has hxE;have g:=DGet.k (k:=kS x) (s1 _ _ hk);rw[e1] at g;exact ⟨_,rfl,b,C_Book,dx,_,_,rfl,s1 _ _ hob,T.cl_Book,T.na_Book_kept_marks,qpr _ _ _ _ _,_,rfl,B.dm,_,rfl,g,l,_,rfl,.inl (SqL.of (s1 _ _ hl)),λl2 H2 n2=>q1 x a rfl hx e2 l2 H2 (s1.trans n2.same) (s1.free n2.fresh) n2.at_⟩
theorem RuleAt.butK {C:Addr} {H H':Hp} {r l a:Addr} {ps:List (Int×Int)} {g:Option Int} {kvs:List (Key×V)} (h:RuleAt C H r l ps g) (b:But a H H') (ha:H a=some (.dK kvs)):RuleAt C H' r l ps g:=
 h.but2 b ha (by intro xs z;cases z) (by intro xs z;cases z) (by obtain ⟨dx,e⟩:=h.ob;exact qa6 e ha (by intro z;cases z))
theorem TxtL.butK {H H':Hp} {a:Addr} {kvs:List (Key×V)} {v:V} {ms:List (List Nat)} (h:TxtL H v ms) (b:But a H H') (ha:H a=some (.dK kvs)):TxtL H' v ms:=
 let ⟨c,e,q⟩:=h;⟨c,e,b _ _ q (qa6 q ha (by intro z;cases z))⟩
theorem RollE.butK {C R:Addr} {H H':Hp} {a:Addr} {kvs:List (Key×V)} {ro ru rl:Addr} {ps:List (Int×Int)} {g:Option Int} {day:Int} (h:RollE C R H ro ru rl ps g day) (b:But a H H') (ha:H a=some (.dK kvs)):RollE C R H' ro ru rl ps g day:=
 let ⟨c,A,r⟩:=h.ex
 ⟨c,⟨let ⟨dx,e⟩:=A.ob;⟨dx,b _ _ e (qa6 e ha (by intro z;cases z))⟩,A.rule.butK b ha,b _ _ A.ed (qa6 A.ed ha (by intro z;cases z)),b _ _ A.yo (qa6 A.yo ha (by intro z;cases z)),b _ _ A.he (qa6 A.he ha (by intro z;cases z)),A.ne⟩,r⟩
def rm (H:Hp) (a:Addr):Hp:=λc=>if c=a then none else H c
theorem qgl {H:Hp} {a c:Addr} {o:HO} (h:H c=some o) (n:c≠a):rm H a c=some o:=by unfold rm;rw[if_neg n];exact h
theorem qkq {H:Hp} {a:Addr}:Same (rm H a) H:=λc o e=>by
 unfold rm at e
 split at e
 ·cases e
 ·exact e
theorem qjr {H H':Hp} {a:Addr} (s:Same H H'):Same (rm H a) (rm H' a):=λc o e=>by
 unfold rm at e ⊢
 split at e
 ·cases e
 ·rename_i n;rw[if_neg n];exact s _ _ e
theorem qnq {H H':Hp} {a d:Addr} (b:But d H H'):But d (rm H a) (rm H' a):=λc o e n=>by
 unfold rm at e ⊢
 split at e
 ·cases e
 ·rename_i m;rw[if_neg m];exact b _ _ e n
theorem qg5 {C CR R:Addr} {G4 G5 G6 G7:Hp} {b l2 ro:Addr} {B:BookD} {E:Rows} {x:List Nat} {ms:List (List Nat)} {km kr:List (Key×V)} (A4:BookAt C CR R G4 b B E) (hin:x ∉ E.map (·.1)) (hkm:G4 B.dm=some (.dK km)) (hkr:G4 B.dr=some (.dK kr)) (b5:But B.dm G4 G5) (d5:G5 B.dm=some (.dK (putK km (kS x) (.ref l2)))) (s6:Same G5 G6)
  (b7:But B.dr G6 G7) (d7:G7 B.dr=some (.dK (putK kr (kS x) (.ref ro)))) (tl:TxtL G4 (.ref l2) (qcf ms)) (re:RollE CR R G6 ro B.ru B.rl B.ps B.g B.day):BookAt C CR R G7 b B (E ++ [(x,ms)]):=by
 obtain ⟨dx,hob⟩:=A4.ob;obtain ⟨km',hkm',enm⟩:=A4.ms;obtain ⟨kr',hkr',enr⟩:=A4.rs;rw[hkm] at hkm'
 cases hkm'
 rw[hkr] at hkr'
 cases hkr'
 have hkr6:=s6 _ _ (b5 _ _ hkr (λz=>A4.ne z.symm));have hob6:=s6 _ _ (b5 _ _ hob (qa6 hob hkm (by intro z;cases z)));refine ⟨⟨dx,b7 _ _ hob6 (qa6 hob6 hkr6 (by intro z;cases z))⟩,((A4.rule.butK b5 hkm).same s6).butK b7 hkr6,?_,⟨_,b7 _ _ (s6 _ _ d5) A4.ne,(enm.put hin tl).imp λv ms' q=>((q.butK b5 hkm).same s6).butK b7 hkr6⟩,⟨_,d7,?_⟩,A4.ne,A4.pr,A4.bd⟩
 ·have e:=s6 _ _ (b5 _ _ A4.ed (qa6 A4.ed hkm (by intro z;cases z)))
  exact b7 _ _ e (qa6 e hkr6 (by intro z;cases z))
 ·have en6:Ents (λv (_:List (List Nat))=>∃ r,v=.ref r/\RollE CR R G6 r B.ru B.rl B.ps B.g B.day) kr E:=enr.imp λv _ ⟨r,e,q⟩=>⟨r,e,(q.butK b5 hkm).same s6⟩
  exact (en6.put hin ⟨ro,rfl,re⟩).imp λv _ ⟨r,e,q⟩=>⟨r,e,q.butK b7 hkr6⟩
def MkV (H:Hp) (v:V) (us:List V):Prop:=(v=.non/\us=[])\/∃ l,v=.ref l/\H l=some (.lst us)
theorem qrg {us:List V} {m:V} {σ:St} {H:Hp} {Kt:VK} (hσ:σ[2]?=some (some m)) (hm:MkV H m us) (k:∀ l H2,Same H H2->H2 l=some (.lst us)->Kt (.ref l) H2) :
  tIf (qrw (tOp (λx y H Q=>y=V.non/\Q (V.bl (decide (x=V.non))) H) (qti 2) (tC V.non))) (qsa qtl) (qti 2) σ H Kt:=by
 rcases hm with ⟨rfl,rfl⟩|⟨l,rfl,hl⟩
 ·exact ⟨_,hσ,rfl,_,rfl,qef ⟨Nat.zero_le _,λl H2 n2=>k l H2 n2.same n2.at_⟩⟩
 ·exact ⟨_,hσ,rfl,_,rfl,qe1 ⟨_,hσ,k l H (Same.refl _) hl⟩⟩
inductive qht (C CR R N M:Addr) (vs:List V) (H:Hp) (Q:VK) (X:XK):Prop
 | mk:∀ (b:Addr) (B:BookD) (E:Rows) (v m:V) (us:List V),vs=[.ref b,v,m]->BookAt C CR R H b B E->TextV H v->MkV H m us->(∀ u∈us,TextV H u)->us.length<=60->E.length<=60->((qcg 12 v=false\/qte E v)->∀ H',Same H H'->X (.ref N) none H')->(¬ (qcg 12 v=false\/qte E v)->¬ qgh us->∀ H',Same H H'->X (.ref M) none H')->(∀ x ms,v=tS x->qap 12 x->x ∉ E.map (·.1)->us=ms.map tS->qgh us->∀ H',qwe B.dm B.dr H H'->BookAt C CR R H' b B (E ++ [(x,ms)])->(∀ (lh:Addr) (zs:List V),H lh=some (.lst zs)->BookAt C CR R (rm H lh) b B E->BookAt C CR R (rm H' lh) b B (E ++ [(x,ms)]))->Q .non H')->qht C CR R N M vs H Q X
theorem qiy (T:Txt K mg C_Roll C_Rule C_Book C_BookError C_NoNumber C_NoRule C_Backward C_NoName C_NoMark):∃ f fd dT o n,qff P w K mg base (CX1 P w) 7 f fd ["self", "name", "marks"] (qht C_Book C_Roll C_Rule C_NoName C_NoMark)/\FunD K "enrol" "Book.enrol" qbr (.ref dT) f fd/\qfo K C_Book "enrol" f/\fd.defaults=.ref dT/\K.lookup dT=some o/\o.data=.seq #[.none] n:=by
 obtain ⟨f,fd,dT,o,n,F,M,h1,h2,h3⟩:=T.f_Book_enrol;have nd:=sc_Book_enrol.nd;refine ⟨f,fd,dT,o,n,(F.okX sc_Book_enrol (λvs H Q E h=>?_) (λcdv A outer s H vs Q E hr h=>?_)),F,M,h1,h2,h3⟩
 ·obtain ⟨b,B,E',v,m,us,rfl,_⟩:=h;rfl
 ·obtain ⟨b,B,E',v,m,us,rfl,A',hv,hm,hu,hz,hE,q1,q2,q3⟩:=h
  obtain ⟨dx,hob⟩:=A'.ob;obtain ⟨kr,hkr,enr⟩:=A'.rs;refine ⟨_,(qad (qbs (PW.pt (qkv (qdm (qcl (qa7 (qis T) (hr.mono (by decide)) rfl (qaa (pv 1) qac)))) (qgv (ql1 (qr2 (qgn hr) (pv 1) (qdk (pv 0) rfl))))))
    (qaf (qdf (qbe ⟨rfl,rfl,rfl⟩) rfl T.ex_NoName rfl T.mg_NoName (qaa qbg qac)))
    qau)
   (qad (qaz (i:=3) nd rfl (Or.inl rfl) (qjy (qax qhz (pv 2) qgt (qa2 _)) (qc2 qac) (pv 2)))
   (qad (qcm (qia (qbe ⟨rfl,rfl,rfl⟩) (qhs T) (hr.mono (by decide)) rfl .nil (qaa (pv 3) qac)))
   (qad (qi9 (qgn hr) (qdk (pv 0) rfl) (pv 1) (qan qeu rfl T.b_sorted qc7 (qaa (pv 3) qac)) rfl)
   (qaf (qi9 (qgn hr) (qdk (pv 0) rfl) (pv 1) (qa7 (qre T) (hr.mono (by decide)) rfl (qaa (qdk (pv 0) rfl) (qaa (qdk (pv 0) rfl) (qaa (qdk (pv 0) rfl) qac)))) rfl)))))),?_⟩
  refine ⟨_,rfl,v,rfl,hv,λH1 s1=>⟨_,rfl,?_⟩⟩
  cases hs:qcg 12 v with
  | false =>
   refine qef ?_
   walk_at "r"
   exact q1 (.inl hs) H1 s1
  | true =>
   refine qe1 ?_;obtain ⟨x,rfl,hx⟩:=small_iff.mp hs;refine ⟨_,rfl,_,rfl,b,C_Book,dx,_,_,rfl,s1 _ _ hob,T.cl_Book,T.na_Book_kept_rolls,qkn _ _ _ _ _,B.dr,_,rfl,DGet.k (k:=kS x) (s1 _ _ hkr),_,rfl,?_⟩
   by_cases hin:x∈E'.map (·.1)
   ·obtain ⟨u,a,e1,_,_⟩:=enr.has hin
    rw[e1];refine qef ?_
    walk_at "r"
    exact q1 (.inr ⟨x,rfl,hx,hin⟩) H1 s1
   ·rw[enr.hasn hin]
    refine qe1 ?_;have hm1:MkV H1 m us:=by
     rcases hm with h|⟨l,e,hl⟩
     ·exact .inl h
     ·exact .inr ⟨l,e,s1 _ _ hl⟩
    refine qrg rfl hm1 λl H2 s2 hl=>qav ?_
    have s02:=s1.trans s2;refine ⟨_,rfl,l,us,rfl,hl,λu hu'=>(hu u hu').same s02,hz,λok H3 s3=>?_,λbad H3 s3=>q2 (λh=>?_) bad H3 (s02.trans s3)⟩
    case refine_2 =>
     rcases h with h|⟨y,e,_,hy⟩
     ·rw[hs] at h;cases h
     ·exact hin (qeh e ▸ hy)
    obtain ⟨ms,rfl,_⟩:=qhr ok.1;have s03:=s02.trans s3;rw[List.length_map] at hz;refine ⟨_,rfl,l,ms,rfl,SqL.of (s3 _ _ hl),by omega,λl2 H4 n4=>?_⟩;have s04:=s03.trans n4.same;have A4:=A'.same s04;obtain ⟨km,hkm,enm⟩:=A4.ms;obtain ⟨kr4,hkr4,enr4⟩:=A4.rs;have lm:=enm.len;have lr:=enr4.len;refine ⟨_,rfl,b,C_Book,dx,_,_,rfl,s04 _ _ hob,T.cl_Book,T.na_Book_kept_marks,qpr _ _ _ _ _,_,rfl,B.dm,_,rfl,DPut.k (k:=kS x) hkm (by rw[sizeLine_eq];omega),?_⟩
    generalize h5:upd H4 B.dm (.dK (putK km (kS x) (.ref l2)))=H5
    have b5:But B.dm H4 H5:=by rw[<- h5];exact qe6
    have d5:H5 B.dm=some (.dK (putK km (kS x) (.ref l2))):=by rw[<- h5];exact qat
    have hob5:=b5 _ _ (s04 _ _ hob) (qa6 (s04 _ _ hob) hkm (by intro z;cases z));have E0':=EdS.of A'.pr A'.bd;have l0:(eV B.ps B.g B.day).length=B.ps.length+1:=by rw[E0'.eq];simp
    have g5:=A'.pr.good.hi;refine ⟨_,rfl,b,C_Book,dx,_,_,rfl,hob5,T.cl_Book,T.na_Book_kept_rule,qs7 _ _ _ _ _,_,rfl,b,C_Book,dx,_,_,rfl,hob5,T.cl_Book,T.na_Book_kept_day,qs8 _ _ _ _ _,_,rfl,b,C_Book,dx,_,_,rfl,hob5,T.cl_Book,T.na_Book_kept_edges,qs9 _ _ _ _ _,B.ru,B.rl,B.le,B.ps,B.g,B.day,_,_,_,rfl,A4.rule.butK b5 hkm,A'.pr,A'.bd,b5 _ _ A4.ed (qa6 A4.ed hkm (by intro z;cases z)),E0'.ed,by omega,l0,E0',by simp,λro c H6 A6 e1 e2 e3 eY eZ Ec hcl s6 f1 f2 w1=>?_⟩;have hkr6:=s6 _ _ (b5 _ _ hkr4 (λz=>A'.ne z.symm));refine ⟨_,rfl,b,C_Book,dx,_,_,rfl,s6 _ _ hob5,T.cl_Book,T.na_Book_kept_rolls,qkn _ _ _ _ _,_,rfl,B.dr,_,rfl,DPut.k (k:=kS x) hkr6 (by rw[sizeLine_eq];omega),?_⟩
    generalize h7:upd H6 B.dr (.dK (putK kr4 (kS x) (.ref ro)))=H7
    have b7:But B.dr H6 H7:=by rw[<- h7];exact qe6
    have d7:H7 B.dr=some (.dK (putK kr4 (kS x) (.ref ro))):=by rw[<- h7];exact qat
    have re:RollE C_Roll C_Rule H6 ro B.ru B.rl B.ps B.g B.day:=⟨c,A6,eY,eZ,w1.1,w1.2.1,e1,e2,e3,by rw[<- Ec.eq];exact Ec,hcl⟩;have tl:TxtL H4 (.ref l2) (qcf ms):=⟨l2,rfl,n4.at_⟩;refine q3 x ms rfl hx hin rfl ok H7 (λc' o e n1 n2=>b7 _ _ (s6 _ _ (b5 _ _ (s04 _ _ e) n1)) n2) (qg5 A4 hin hkm hkr4 b5 d5 s6 b7 d7 tl re) λlh zs hlh Ar=>?_
    have nd1:B.dm≠lh:=qa6 hkm (s04 _ _ hlh) (by intro z;cases z);have nd2:B.dr≠lh:=qa6 hkr4 (s04 _ _ hlh) (by intro z;cases z);have h5lh:H5 lh=some (.lst zs):=b5 _ _ (s04 _ _ hlh) nd1.symm;have A4r:=Ar.same (qjr s04);refine qg5 A4r hin (qgl hkm nd1) (qgl hkr4 nd2) (qnq b5) (qgl d5 nd1) (qjr s6) (qnq b7) (qgl d7 nd2) ⟨l2,rfl,qgl n4.at_ (λz=>by have:=n4.fresh;rw[z,s03 _ _ hlh] at this;cases this)⟩ ?_;obtain ⟨dxo,ho⟩:=A6.ob;have R6:=(A4r.rule.butK (qnq b5) (qgl hkm nd1)).same (qjr (a:=lh) s6);have h6lh:=s6 _ _ h5lh;refine ⟨c,⟨⟨dxo,qgl ho (qa6 ho h6lh (by intro z;cases z))⟩,?_,qgl A6.ed (λz=>by have:=w1.2.2;rw[z,h5lh] at this;cases this),qgl A6.yo (qa6 A6.yo h6lh (by intro z;cases z)),qgl A6.he (qa6 A6.he h6lh (by intro z;cases z)),A6.ne⟩,eY,eZ,w1.1,w1.2.1,e1,e2,e3,by rw[<- Ec.eq];exact Ec,hcl⟩;rw[w1.1,w1.2.1,e1,e2];exact R6
theorem qgr (T:Txt K mg C_Roll C_Rule C_Book C_BookError C_NoNumber C_NoRule C_Backward C_NoName C_NoMark):qsd P w K mg base C_Book 7 "enrol" ["self", "name", "marks"] [] (qht C_Book C_Roll C_Rule C_NoName C_NoMark):=by
 obtain ⟨f,fd,dT,o,n,hf,F,M,h1,h2,h3⟩:=qiy (P:=P) (w:=w) (base:=base) T;refine ⟨f,fd,hf,M,qmq h1 h2 h3 λus hl=>?_⟩;obtain ⟨oc,od,kV,doc,pm,an,cdv,ct,osl,rfl,lk,hcd⟩:=F.ex;obtain ⟨_,_,_,rfl⟩:=L2.lq3 (us:=us) (by simpa using hl);exact ⟨_,rfl,rfl⟩
end
section
variable {P:Program} {w:World} {K:Frag} {mg:Str->Option Value} {base:Heap} {C_Roll C_Rule C_Book C_BookError C_NoNumber C_NoRule C_Backward C_NoName C_NoMark:Addr}
inductive qiz (K:Frag) (vs:List V) (H:Hp) (Q:VK) (E_:XK):Prop
 | mk:∀ (a:Addr) (ns:List Int) (k:Int),vs=[.ref a,.int k]->SqL K H a (ns.map V.int)->0<=k->Q (.int (ns[k.toNat]?.getD 0)) H->qiz K vs H Q E_
theorem qb5 (T:Txt K mg C_Roll C_Rule C_Book C_BookError C_NoNumber C_NoRule C_Backward C_NoName C_NoMark):qce P w K mg base 1 "_law_cell_at" ["_law_script", "_law_k"] (qiz K):=by
 obtain ⟨f,fd,F,hm⟩:=T.f__law_cell_at;have nd:=sc__law_cell_at.nd;refine F.def_ hm (F.ok sc__law_cell_at (λvs H Q E h=>?_) (λcdv A outer s H vs Q E hr h=>?_)) (F.binds λ_ _ _ _ _ _ us hl=>by obtain ⟨_,_,rfl⟩:=L2.lq2 hl;rfl)
 ·obtain ⟨a,ns,k,rfl,_⟩:=h;rfl
 ·obtain ⟨a,ns,k,rfl,hS,h0,q⟩:=h
  refine ⟨_,(qad (qbs (qax qky (pv 1) (qan qa3 rfl T.b_len qc6 (qaa (pv 0) qac)) (qa2 _))
    (qaf (qaw (qel qf0 (pv 0) (pv 1) (λ_ _=>rfl))))
    qau)
   (qaf (qaw qah))),?_⟩
  walk_at "r"
  refine qk4 (λz=>?_) λz=>?_
  ·have z':k<ns.length:=by simpa using z
   have hk:k.toNat<ns.length:=by omega
   have hi:atI (ns.map V.int) k=some (.int ns[k.toNat]):=by
    have:=qmi (xs:=ns.map V.int) (j:=k.toNat) (v:=V.int ns[k.toNat]) (by simp[hk])
    rwa [Int.toNat_of_nonneg h0] at this
   walk_at "r"
   rw[List.getElem?_eq_getElem hk] at q;exact q
  ·have z':¬ k<ns.length:=by simpa using z
   rw[List.getElem?_eq_none (by omega)] at q;exact q
def qnr (d k:Int):Int:=(d % 2147483629+69621*k+1)*48271 % 2147483629*((d % 2147483629+69621*k+1)*48271 % 2147483629 / 1009+69621) % 2147483629
def qo4:Sp:=λvs H Q _=>∃ d k,vs=[.int d,.int k]/\0<=k/\k<=200/\∀ m,(0<=m/\m=qnr d k)->m<2147483629->Q (.int m) H
theorem qa5 (T:Txt K mg C_Roll C_Rule C_Book C_BookError C_NoNumber C_NoRule C_Backward C_NoName C_NoMark):qce P w K mg base 1 "_law_mixed" ["_law_draw", "_law_k"] qo4:=by
 obtain ⟨f,fd,F,hm⟩:=T.f__law_mixed;have nd:=sc__law_mixed.nd;refine F.def_ hm (F.ok sc__law_mixed (λvs H Q E h=>?_) (λcdv A outer s H vs Q E hr h=>?_)) (F.binds λ_ _ _ _ _ _ us hl=>by obtain ⟨_,_,rfl⟩:=L2.lq2 hl;rfl)
 ·obtain ⟨d,k,rfl,_⟩:=h;rfl
 ·obtain ⟨d,k,rfl,h1,h2,q⟩:=h
  refine ⟨_,(qad (qaz (i:=2) nd rfl (Or.inl rfl) (qas qbc (qas qgw (qas qc4 (qas qc4 (qas qbc (pv 0) qah) (qas qgw qah (pv 1))) qah) qah) qah))
   (qaf (qaw (qas qbc (qas qgw (pv 2) (qas qc4 (qas qek (pv 2) qah) qah)) qah)))),?_⟩
  have m1:0<=d % 2147483629/\d % 2147483629<2147483629:=by omega
  walk_at "r"
  exact q _ ⟨by omega,rfl⟩ (by omega)
theorem qtf:(Str.ofString "abcdefghijklmnopqrstuvwxyz")=S [97,98,99,100,101,102,103,104,105,106,107,108,109,110,111,112,113,114,115,116,117,118,119,120,121,122]:=by decide +kernel
theorem qkr {i:Int} (h0:0<=i) (h1:i<26):∃ c,[97,98,99,100,101,102,103,104,105,106,107,108,109,110,111,112,113,114,115,116,117,118,119,120,121,122][i.toNat]?=some c/\(97<=c/\c<=122)/\c=97+i.toNat:=by
 obtain ⟨j,rfl⟩:=Int.eq_ofNat_of_zero_le h0;have hj:j<26:=by omega
 have al:∀ j,j<26->[97,98,99,100,101,102,103,104,105,106,107,108,109,110,111,112,113,114,115,116,117,118,119,120,121,122][j]?=some (97+j):=by decide
 exact ⟨97+j,al j hj,by omega,rfl⟩
theorem join_one:∀ cs:List Nat,qcw [] (cs.map λc=>[c])=cs
 | []=>rfl
 | [c]=>rfl
 | c :: d :: cs=>by
  have ih:=join_one (d :: cs)
  show [c] ++ [] ++ qcw [] ((d :: cs).map λc=>[c])=_
  rw[ih];rfl
theorem qjs:∀ cs:List Nat,((cs.map λc=>[c]).map List.length).sum=cs.length
 | []=>rfl
 | c :: cs=>by
  have ih:=qjs cs;simp only[List.map_cons,List.sum_cons,List.length_cons,List.length_nil] at ih ⊢;omega
def ltr (z:Int):Nat:=97+(z % 26).toNat
def qo5 (d:Int):List Nat:=(List.range (qnr d 1 % 12).toNat).map λj=>ltr (qnr d (3+(j:Nat)))
def atF (d:Int):Nat:=(qnr d 2 % (qnr d 1 % 12+1)).toNat
def nmF (d k:Int):List Nat:=(qo5 d).take (atF d) ++ [ltr (d+5*k)] ++ (qo5 d).drop (atF d)
def qlp:Sp:=λvs H Q _=>∃ d k,vs=[.int d,.int k]/\∀ H',Same H H'->qap 12 (nmF d k)->Q (.str (S (nmF d k))) H'
theorem qjt (T:Txt K mg C_Roll C_Rule C_Book C_BookError C_NoNumber C_NoRule C_Backward C_NoName C_NoMark):qce P w K mg base 2 "_law_name" ["_law_draw", "_law_k"] qlp:=by
 obtain ⟨f,fd,F,hm⟩:=T.f__law_name;have nd:=sc__law_name.nd;refine F.def_ hm (F.ok sc__law_name (λvs H Q E h=>?_) (λcdv A outer s H vs Q E hr h=>?_)) (F.binds λ_ _ _ _ _ _ us hl=>by obtain ⟨_,_,rfl⟩:=L2.lq2 hl;rfl)
 ·obtain ⟨d,k,rfl,_⟩:=h;rfl
 ·obtain ⟨d,k,rfl,q⟩:=h
  refine ⟨_,(qad (qaz (i:=2) nd rfl (Or.inr rfl) qbg)
   (qad (qaz (i:=3) nd rfl (Or.inl rfl) (qas qbc (qa7 (qa5 T) (hr.mono (by decide)) rfl (qaa (pv 0) (qaa qah qac))) qah))
   (qad (qaz (i:=4) nd rfl (Or.inl rfl) (qhb PySem.F.plainAttrs_str PySem.F.slot_str_join PySem.F.type_str_join qjd qbg (qaa (qem (vars:=["_law_j"]) (frees:=["_law_some", "_law_draw"]) (fv:=[2,0]) rfl (qh9 rfl rfl (by decide +kernel) (by decide +kernel) (by intro p hp;simp only[List.mem_cons,List.not_mem_nil,or_false] at hp;rcases hp with rfl|rfl<;>rfl) rfl) ⟨⟨rfl,.inl rfl,rfl,.inl rfl⟩,⟨⟨rfl,.inl rfl,rfl,.inl rfl⟩,trivial⟩⟩ (qdn rfl T.b_range (qaa (pv 3) qac)) (qb0 (by decide)) (λ_ _ _ _=>(qaq (i:=0) (show (["_law_j", "_law_some", "_law_draw"]:List Str).Nodup by decide +kernel) rfl (Or.inl rfl))) (λ_ _ _ _=>qbo) (λ_ _ _ _=>(qkd (pv 1) (qas qbc (qa7 (qa5 T) (hr.mono (by decide)) rfl (qaa (pv 2) (qaa (qas qc4 qah (pv 0)) qac))) qah) (λ_ _=>rfl)))) qac)))
   (qad (qaz (i:=5) nd rfl (Or.inl rfl) (qas qbc (qa7 (qa5 T) (hr.mono (by decide)) rfl (qaa (pv 0) (qaa qah qac))) (qas qc4 (pv 3) qah)))
   (qaf (qaw (qas qc5 (qas qc5 (qch qgy (pv 4) qdd (qde (pv 5))) (qkd (pv 2) (qas qbc (qas qc4 (pv 0) (qas qgw qah (pv 1))) qah) (λ_ _=>rfl))) (qch qgy (pv 4) (qde (pv 5)) qdd)))))))),?_⟩
  rw[qtf]
  walk_at "r"
  intro m m0 m1
  walk_at "r"
  have m12:0<=m % 12/\m % 12<12:=by omega
  refine qgd (n:=(m % 12).toNat) (λi ys H2=>Same H H2/\∃ cs:List Nat,cs.length=i/\((∀ c∈cs,97<=c/\c<=122)/\cs=(List.range i).map λj=>ltr (qnr d (3+(j:Nat))))/\ys=cs.map λc=>V.str (S [c])) (qdl (by omega)) ⟨Same.refl _,[],rfl,⟨by simp,rfl⟩,rfl⟩ (λi ys H2 h2=>by obtain ⟨_,cs,h3,_,h4⟩:=h2;rw[h4,List.length_map,h3];exact Nat.le_refl _) ?_ ?_
  ·rintro i ys H2 hi ⟨s2,cs,hl,⟨hc,hcs⟩,rfl⟩
   refine qav (qlw (qef ?_))
   walk_at "r"
   intro a a0 a1;have a26:0<=a % 26/\a % 26<26:=by omega
   obtain ⟨c,hca,hcb,hcc⟩:=qkr a26.1 a26.2
   walk_at "r"
   refine ⟨_,_,c,rfl,rfl,a26.1,by omega,hca,?_⟩;refine ⟨s2,cs ++ [c],by simp[hl],⟨λx hx=>?_,?_⟩,by simp⟩
   case refine_2 =>
    rw[List.range_succ,List.map_append,<- hcs,hcc,a0.2,List.map_singleton,Int.zero_add];rfl
   rcases List.mem_append.mp hx with z|z
   ·exact hc x z
   ·rw[List.mem_singleton.mp z];exact hcb
  ·rintro ys H2 p H3 ⟨s2,cs,hl,⟨hc,hcs⟩,rfl⟩ n3
   rw[qfc];have e3:H3 p=some (.lst ((cs.map λc=>[c]).map λq=>V.str (S q))):=by rw[List.map_map];exact n3.at_
   refine ⟨[],cs.map λc=>[c],p,rfl,rfl,SqL.of e3,by rw[qjs];simp;omega,?_⟩;rw[join_one];have s3:=s2.trans n3.same
   walk_at "r"
   intro b b0 b1;obtain ⟨j,hj⟩:=Int.eq_ofNat_of_zero_le (Int.emod_nonneg b (show (m % 12+1)≠0 by omega));have hj1:=Int.emod_lt_of_pos b (show (0:Int)<m % 12+1 by omega);rw[hj] at hj1;have lj:j<=cs.length:=by omega
   have lc8:cs.length<=11:=by omega
   have d26:0<=(d+5*k) % 26/\(d+5*k) % 26<26:=by omega
   obtain ⟨c,hca,hcb,hcc⟩:=qkr d26.1 d26.2
   walk_at "r"
   rw[hj,qm1 cs lj];refine ⟨qdl (by rw[qbk,List.length_take];omega),?_⟩
   walk_at "r"
   refine ⟨_,_,c,rfl,rfl,d26.1,by omega,hca,?_⟩
   walk_at "r"
   refine ⟨qdl (by rw[qbk,qbk,List.length_take];simp;omega),?_⟩;rw[qmy]
   walk_at "r"
   rw[qjb cs j];refine ⟨qdl (by rw[qbk,List.length_drop];omega),?_⟩
   walk_at "r"
   refine ⟨qdl (by rw[qbk,qbk];simp;omega),?_⟩;rw[qmy];have eb:cs=qo5 d:=by rw[hcs];unfold qo5;rw[<- m0.2]
   have ej:j=atF d:=by unfold atF;rw[<- m0.2,<- b0.2,hj];rfl
   have ec:c=ltr (d+5*k):=hcc;have en:cs.take j ++ [c] ++ cs.drop j=nmF d k:=by unfold nmF;rw[<- eb,<- ej,<- ec]
   have sw:qap 12 (cs.take j ++ [c] ++ cs.drop j):=⟨by simp;omega,by simp;omega,λx hx=>by
    rcases List.mem_append.mp hx with z|z
    ·rcases List.mem_append.mp z with z|z
     ·exact hc x (List.mem_of_mem_take z)
     ·rw[List.mem_singleton.mp z];exact hcb
    ·exact hc x (List.mem_of_mem_drop z)⟩
   rw[en] at sw ⊢;exact q _ s3 sw
def qo6 (d:Int):List Nat:=(List.range (qnr d 21 % 8).toNat).map λj=>ltr (qnr d (23+(j:Nat)))
def atM (d:Int):Nat:=(qnr d 22 % (qnr d 21 % 8+1)).toNat
def mkF (d k:Int):List Nat:=(qo6 d).take (atM d) ++ [ltr (d / 3+7*k)] ++ (qo6 d).drop (atM d)
theorem qu3 {d k l:Int} (h:k≠l) (h1:k<l+26) (h2:l<k+26):mkF d k≠mkF d l:=λe=>by
 unfold mkF at e;rw[List.append_assoc,List.append_assoc] at e;have e2:=List.append_cancel_left e;have e3:ltr (d / 3+7*k)=ltr (d / 3+7*l):=by injection e2
 unfold ltr at e3;have n1:=Int.emod_nonneg (d / 3+7*k) (show (26:Int)≠0 by decide);have n2:=Int.emod_nonneg (d / 3+7*l) (show (26:Int)≠0 by decide);have e4:(d / 3+7*k) % 26=(d / 3+7*l) % 26:=by omega
 omega
def qlq:Sp:=λvs H Q _=>∃ d k,vs=[.int d,.int k]/\∀ H',Same H H'->qap 8 (mkF d k)->Q (.str (S (mkF d k))) H'
theorem qdj (T:Txt K mg C_Roll C_Rule C_Book C_BookError C_NoNumber C_NoRule C_Backward C_NoName C_NoMark):qce P w K mg base 2 "_law_mark" ["_law_draw", "_law_k"] qlq:=by
 obtain ⟨f,fd,F,hm⟩:=T.f__law_mark;have nd:=sc__law_mark.nd;refine F.def_ hm (F.ok sc__law_mark (λvs H Q E h=>?_) (λcdv A outer s H vs Q E hr h=>?_)) (F.binds λ_ _ _ _ _ _ us hl=>by obtain ⟨_,_,rfl⟩:=L2.lq2 hl;rfl)
 ·obtain ⟨d,k,rfl,_⟩:=h;rfl
 ·obtain ⟨d,k,rfl,q⟩:=h
  refine ⟨_,(qad (qaz (i:=2) nd rfl (Or.inr rfl) qbg)
   (qad (qaz (i:=3) nd rfl (Or.inl rfl) (qas qbc (qa7 (qa5 T) (hr.mono (by decide)) rfl (qaa (pv 0) (qaa qah qac))) qah))
   (qad (qaz (i:=4) nd rfl (Or.inl rfl) (qhb PySem.F.plainAttrs_str PySem.F.slot_str_join PySem.F.type_str_join qjd qbg (qaa (qem (vars:=["_law_j"]) (frees:=["_law_some", "_law_draw"]) (fv:=[2,0]) rfl (qh9 rfl rfl (by decide +kernel) (by decide +kernel) (by intro p hp;simp only[List.mem_cons,List.not_mem_nil,or_false] at hp;rcases hp with rfl|rfl<;>rfl) rfl) ⟨⟨rfl,.inl rfl,rfl,.inl rfl⟩,⟨⟨rfl,.inl rfl,rfl,.inl rfl⟩,trivial⟩⟩ (qdn rfl T.b_range (qaa (pv 3) qac)) (qb0 (by decide)) (λ_ _ _ _=>(qaq (i:=0) (show (["_law_j", "_law_some", "_law_draw"]:List Str).Nodup by decide +kernel) rfl (Or.inl rfl))) (λ_ _ _ _=>qbo) (λ_ _ _ _=>(qkd (pv 1) (qas qbc (qa7 (qa5 T) (hr.mono (by decide)) rfl (qaa (pv 2) (qaa (qas qc4 qah (pv 0)) qac))) qah) (λ_ _=>rfl)))) qac)))
   (qad (qaz (i:=5) nd rfl (Or.inl rfl) (qas qbc (qa7 (qa5 T) (hr.mono (by decide)) rfl (qaa (pv 0) (qaa qah qac))) (qas qc4 (pv 3) qah)))
   (qaf (qaw (qas qc5 (qas qc5 (qch qgy (pv 4) qdd (qde (pv 5))) (qkd (pv 2) (qas qbc (qas qc4 (qas qek (pv 0) qah) (qas qgw qah (pv 1))) qah) (λ_ _=>rfl))) (qch qgy (pv 4) (qde (pv 5)) qdd)))))))),?_⟩
  rw[qtf]
  walk_at "r"
  intro m m0 m1
  walk_at "r"
  have m12:0<=m % 8/\m % 8<8:=by omega
  refine qgd (n:=(m % 8).toNat) (λi ys H2=>Same H H2/\∃ cs:List Nat,cs.length=i/\((∀ c∈cs,97<=c/\c<=122)/\cs=(List.range i).map λj=>ltr (qnr d (23+(j:Nat))))/\ys=cs.map λc=>V.str (S [c])) (qdl (by omega)) ⟨Same.refl _,[],rfl,⟨by simp,rfl⟩,rfl⟩ (λi ys H2 h2=>by obtain ⟨_,cs,h3,_,h4⟩:=h2;rw[h4,List.length_map,h3];exact Nat.le_refl _) ?_ ?_
  ·rintro i ys H2 hi ⟨s2,cs,hl,⟨hc,hcs⟩,rfl⟩
   refine qav (qlw (qef ?_))
   walk_at "r"
   intro a a0 a1;have a26:0<=a % 26/\a % 26<26:=by omega
   obtain ⟨c,hca,hcb,hcc⟩:=qkr a26.1 a26.2
   walk_at "r"
   refine ⟨_,_,c,rfl,rfl,a26.1,by omega,hca,?_⟩;refine ⟨s2,cs ++ [c],by simp[hl],⟨λx hx=>?_,?_⟩,by simp⟩
   case refine_2 =>
    rw[List.range_succ,List.map_append,<- hcs,hcc,a0.2,List.map_singleton,Int.zero_add];rfl
   rcases List.mem_append.mp hx with z|z
   ·exact hc x z
   ·rw[List.mem_singleton.mp z];exact hcb
  ·rintro ys H2 p H3 ⟨s2,cs,hl,⟨hc,hcs⟩,rfl⟩ n3
   rw[qfc];have e3:H3 p=some (.lst ((cs.map λc=>[c]).map λq=>V.str (S q))):=by rw[List.map_map];exact n3.at_
   refine ⟨[],cs.map λc=>[c],p,rfl,rfl,SqL.of e3,by rw[qjs];simp;omega,?_⟩;rw[join_one];have s3:=s2.trans n3.same
   walk_at "r"
   intro b b0 b1;obtain ⟨j,hj⟩:=Int.eq_ofNat_of_zero_le (Int.emod_nonneg b (show (m % 8+1)≠0 by omega));have hj1:=Int.emod_lt_of_pos b (show (0:Int)<m % 8+1 by omega);rw[hj] at hj1;have lj:j<=cs.length:=by omega
   have lc8:cs.length<=7:=by omega
   have d26:0<=(d / 3+7*k) % 26/\(d / 3+7*k) % 26<26:=by omega
   obtain ⟨c,hca,hcb,hcc⟩:=qkr d26.1 d26.2
   walk_at "r"
   rw[hj,qm1 cs lj];refine ⟨qdl (by rw[qbk,List.length_take];omega),?_⟩
   walk_at "r"
   refine ⟨_,_,c,rfl,rfl,d26.1,by omega,hca,?_⟩
   walk_at "r"
   refine ⟨qdl (by rw[qbk,qbk,List.length_take];simp;omega),?_⟩;rw[qmy]
   walk_at "r"
   rw[qjb cs j];refine ⟨qdl (by rw[qbk,List.length_drop];omega),?_⟩
   walk_at "r"
   refine ⟨qdl (by rw[qbk,qbk];simp;omega),?_⟩;rw[qmy];have eb:cs=qo6 d:=by rw[hcs];unfold qo6;rw[<- m0.2]
   have ej:j=atM d:=by unfold atM;rw[<- m0.2,<- b0.2,hj];rfl
   have ec:c=ltr (d / 3+7*k):=hcc;have en:cs.take j ++ [c] ++ cs.drop j=mkF d k:=by unfold mkF;rw[<- eb,<- ej,<- ec]
   have sw:qap 8 (cs.take j ++ [c] ++ cs.drop j):=⟨by simp;omega,by simp;omega,λx hx=>by
    rcases List.mem_append.mp hx with z|z
    ·rcases List.mem_append.mp z with z|z
     ·exact hc x (List.mem_of_mem_take z)
     ·rw[List.mem_singleton.mp z];exact hcb
    ·exact hc x (List.mem_of_mem_drop z)⟩
   rw[en] at sw ⊢;exact q _ s3 sw
end
section
variable {P:Program} {w:World} {K:Frag} {mg:Str->Option Value} {base:Heap} {C_Roll C_Rule C_Book C_BookError C_NoNumber C_NoRule C_Backward C_NoName C_NoMark:Addr}
abbrev qe0:Stmt:=(qae qb3).getD 0 (.Pass ⟨0,0,0,0⟩)
abbrev qps:Pos:=⟨312,4,316,24⟩
abbrev qgm:Str:= "_law_own.<locals>._law_lets"
abbrev xsO:List Str:=["_law_mark_here", "_law_least", "_law_heard"]
abbrev qtg (H:Hp) (f:Addr) (vs:List V):Prop:=CloM "_law_lets" qgm qe0 xsO H f vs
inductive qpt (U:Addr) (vs:List V) (H:Hp) (Q:VK) (E_:XK):Prop
 | mk:∀ (mk k:V) (ph:Addr),vs=[mk,k,.ref ph]->Tb U qps qgm H->(∀ f c H',SameX U H H'->Tb1 U qps qgm c H'->qtg H' f [mk,k,.ref ph]->Q (.ref f) H')->qpt U vs H Q E_
theorem qlr (T:Txt K mg C_Roll C_Rule C_Book C_BookError C_NoNumber C_NoRule C_Backward C_NoName C_NoMark) {c9 T9 d9 U9:Addr} (_ne9:T9≠U9) (_Z9:∀ f,mg "sieve" = some (.ref f)->qkg K f c9 T9) (Y9:∀ f,mg "_law_own" = some (.ref f)->qkg K f d9 U9):qsc P w K mg base 2 "_law_own" ["_law_mark_here", "_law_least", "_law_heard"] [] (qpt U9):=by
 obtain ⟨f,fd,F,hm⟩:=T.f__law_own;have nd:=sc__law_own.nd;have Z:=Y9 f hm;refine ⟨f,fd,(F.okM [("_law_mark_here",0,0),("_law_least",1,1),("_law_heard",2,2)] sc__law_own (λvs H Q E h=>?_) ?_ ?_ ?_ (by decide) (λcdv A outer s H vs Q E hcd hr h=>?_)),hm,F.kp,(F.binds λ_ _ _ _ _ _ us hl=>by obtain ⟨_,_,_,rfl⟩:=L2.lq3 hl;rfl)⟩
 ·obtain ⟨mk,k,ph,rfl,_⟩:=h;rfl
 ·intro p hp;simp only[List.mem_cons,List.not_mem_nil,or_false] at hp;rcases hp with rfl|rfl|rfl<;>rfl
 ·intro p hp;simp only[List.mem_cons,List.not_mem_nil,or_false] at hp;rcases hp with rfl|rfl|rfl<;>rfl
 ·intro p hp n;simp only[List.mem_cons,List.not_mem_nil,or_false] at hp;rcases hp with rfl|rfl|rfl<;>rfl
 ·obtain ⟨mk,k,ph,rfl,tb,q⟩:=h
  have hc:cdv=.ref d9:=by obtain ⟨oc,od,osl,fd',lk,e⟩:=hcd;rw[<- e];exact Z.code _ _ _ _ lk
  have NEST__law_lets:PS (bx P w K mg base ["_law_mark_here", "_law_least", "_law_heard", "_law_lets"] "_law_own" (qab qb3) f cdv A outer s H E) qe0 (qqx U9 "_law_lets" qgm qe0 [("_law_mark_here",s.heap.objs.size+1),("_law_least",s.heap.objs.size+1+1),("_law_heard",s.heap.objs.size+1+2)] qps 3):=
   qm3 Z hc nd rfl rfl rfl rfl rfl rfl rfl (show (Str.ofString "_law_own" ++ Str.ofString ".<locals>.") ++ Str.ofString "_law_lets" = qgm by decide +kernel)
  refine ⟨_,(qe8 NEST__law_lets
   (qpn (pv 3))),?_⟩
  refine ⟨tb,λfl c H5 sx tb1 hf hfT ho=>⟨_,rfl,[mk,k,.ref ph],rfl,λj p u hp hu=>?_,λH2 sm _ _ hcell=>?_⟩⟩
  ·match j,hp,hu with
   | 0,hp,hu=>cases hp;cases hu;rfl
   | 1,hp,hu=>cases hp;cases hu;rfl
   | 2,hp,hu=>cases hp;cases hu;rfl
  ·refine q fl c H2 (SameX.trans sx (.of sm)) (tb1.same sm) ⟨_,c,rfl,?_,rfl,sm _ _ ho,sm _ _ tb1.2,λi y b v e1 e2=>?_⟩
   ·simp
   ·match i,e1,e2 with
    | 0,e1,e2=>cases e1;cases e2;exact hcell 0 _ _ rfl rfl
    | 1,e1,e2=>cases e1;cases e2;exact hcell 1 _ _ rfl rfl
    | 2,e1,e2=>cases e1;cases e2;exact hcell 2 _ _ rfl rfl
theorem qth:qup "_law_marks" xsO ["_law_marks", "_law_mark_here", "_law_least", "_law_heard", "_law_good"] (qab qe0):=⟨rfl,rfl,rfl,rfl,by decide +kernel,by decide +kernel,by decide +kernel,by decide +kernel,rfl⟩
def qwg (m:V) (vs:List V) (H:Hp) (Q:VK):Prop:=∃ (pm ph:Addr) (ms:List (List Nat)) (mk:List Nat) (least:Int) (hs:List V),m=.ref pm/\vs=[tS mk,.int least,.ref ph]/\H pm=some (.lst (ms.map tS))/\H ph=some (.lst hs)/\pm≠ph/\ms.length<=900/\hs.length<=900 /\
 ∀ l H',H l=none->H' l=some (.lst (ms.map tS))->H' ph=some (.lst (hs ++ [.ref l]))->(∀ b o,H b=some o->b≠pm->b≠ph->H' b=some o)->Q (.bl (decide (least<=ms.length) && !decide (mk∈ms))) H'
theorem qcj {F:St->Hp->Prop} {σ σ':St} {H:Hp} (e:σ=σ') (h:F σ' H):F σ H:=e ▸ h
theorem qu4 {X:Cx} (T:Txt X.K X.mg C_Roll C_Rule C_Book C_BookError C_NoNumber C_NoRule C_Backward C_NoName C_NoMark) (hr:Room 2 X.A):qs2 X "_law_lets" qgm qe0 xsO qwg:=by
 intro pins σ H s f m vs um Q I hC rm ⟨pm,ph,ms,mk,least,hs,em,ev,hm,hh,ne,l1,l2,q⟩;have nd:(["_law_marks", "_law_mark_here", "_law_least", "_law_heard", "_law_good"]:List Str).Nodup:=by decide +kernel
 refine qot (k:=1) qth hr I hC rm (λ_ _ _ _ _ _=>rfl) λc cs A outer s hr hxs hL=>⟨_,
  (qad (qcm (qhb PySem.F.plainAttrs_list PySem.F.slot_list_append PySem.F.type_list_append qd6 (qfe (i:=3) rfl (.inr (.inr rfl))) (qaa (qdo qd5 rfl T.b_list qe5 (qaa (pv 0) qac)) qac)))
  (qad (qaz (i:=4) nd rfl (Or.inl rfl) (qer (qbt qrv (qan qa3 rfl T.b_len qc6 (qaa (pv 0) qac)) (qfe (i:=2) rfl (.inr (.inr rfl))) (qa2 _)) (qft (qbt (show OpR _ _ (rIn X.K true) from qfg) (qfe (i:=1) rfl (.inr (.inr rfl))) (pv 0) rfl))))
  (qad (qcm (qhb PySem.F.plainAttrs_list PySem.F.slot_list_append PySem.F.type_list_append qd6 (pv 0) (qaa qbg qac)))
  (qaf (qaw (pv 4)))))),?_⟩
 subst em ev
 generalize hLL:cs.map (·.2)=L at hL
 have dl:∀ b xs,H b=some (.lst xs)->qed H L b=some (.lst xs):=λb xs e=>by
  unfold qed;rw[if_neg λz=>?_]
  ·exact e
  ·obtain ⟨φ,q⟩:=hL b z
   rw[q] at e;cases e
 have hm':=dl _ _ hm;have hh':=dl _ _ hh;refine ⟨_,rfl,.inl ⟨rfl,_,SqL.of hh'⟩,_,rfl,pm,_,rfl,.inl (SqL.of hm'),λl H1 n1=>⟨ph,hs,.ref l,rfl,rfl,n1.same _ _ hh',qdl (by omega),λH2 b2 h2=>?_⟩⟩;have nl:pm≠l:=qaj hm' n1.fresh;have hm2:=b2 _ _ (n1.same _ _ hm') ne;refine qcj (σ':=[some (.ref pm),some (tS mk),some (.int least),some (.ref ph),none]) rfl ?_;dsimp only;refine ⟨_,rfl,pm,_,rfl,.inl (SqL.of hm2),_,rfl,_,_,rfl,rfl,_,rfl,?_⟩;have fin:∀ H3,But pm H2 H3->(∀ b∈L,H3 b=none)->Q (.bl (decide (least<=ms.length) && !decide (mk∈ms))) (putL H H3 L):=λH3 b3 hn=>by
  have pk:∀ b o,H3 b=some o->putL H H3 L b=some o:=λb o e=>by
   unfold putL;rw[if_neg λz=>by rw[hn b z] at e;cases e];exact e
  have el:H3 l=some (.lst (ms.map tS)):=b3 _ _ (b2 _ _ n1.at_ (qaj hh' n1.fresh).symm) nl.symm;have lL:l ∉ L:=λz=>by rw[hn l z] at el;cases el
  refine q l _ ?_ (pk _ _ el) (pk _ _ (b3 _ _ h2 ne.symm)) λb o e e1 e2=>?_
  ·have f:=n1.fresh
   unfold qed at f;rw[if_neg lL] at f;exact f
  ·by_cases z:b∈L
   ·unfold putL;rw[if_pos z];exact e
   ·exact pk _ _ (b3 _ _ (b2 _ _ (n1.same _ _ (by unfold qed;rw[if_neg z];exact e)) e2) e1)
 rw[List.length_map]
 by_cases z:least<=ms.length
 ·rw[if_pos (decide_eq_true z)]
  refine ⟨_,rfl,_,rfl,pm,ms.map tS,rfl,.inl (SqL.of hm2),rfl,qgk ms,qav ?_⟩;refine qcj (σ':=[some (.ref pm),some (tS mk),some (.int least),some (.ref ph),some (.bl (!decide (mk∈ms)))]) (by rw[if_pos rfl,qnp];rfl) ?_;refine ⟨_,rfl,.inl ⟨rfl,_,SqL.of hm2⟩,pm,_,_,rfl,rfl,hm2,qdl (by rw[List.length_map];omega),λH3 b3 h3=>⟨_,rfl,λhn=>?_⟩⟩;have:=fin H3 b3 hn;rw[decide_eq_true z,Bool.true_and] at this;exact this
 ·rw[if_neg λy=>z (of_decide_eq_true y)]
  refine qav ?_;refine qcj (σ':=[some (.ref pm),some (tS mk),some (.int least),some (.ref ph),some (.bl false)]) rfl ?_;refine ⟨_,rfl,.inl ⟨rfl,_,SqL.of hm2⟩,pm,_,_,rfl,rfl,hm2,qdl (by rw[List.length_map];omega),λH3 b3 h3=>⟨_,rfl,λhn=>?_⟩⟩;have:=fin H3 b3 hn;rw[decide_eq_false z,Bool.false_and] at this;exact this
end
section
variable {P:Program} {w:World} {K:Frag} {mg:Str->Option Value} {base:Heap} {C_Roll C_Rule C_Book C_BookError C_NoNumber C_NoRule C_Backward C_NoName C_NoMark:Addr}
def SameN (H H':Hp):Prop:=∀ b o,H b=some o->(∀ ps,o≠HO.tbl ps)->H' b=some o
section
variable {H H' H2:Hp}
theorem SameN.ofX {T:Addr} {ps:Array Value} (hT:H T=some (.tbl ps)) (s:SameX T H H'):SameN H H':=λb o e n=>s b o (λz=>by rw[z,hT] at e;exact n ps (Option.some.inj e).symm) e
theorem SameN.lst {a:Addr} {xs:List V} (s:SameN H H') (h:H a=some (.lst xs)):H' a=some (.lst xs):=s _ _ h (by intro ps z;cases z)
theorem SameN.dK {a:Addr} {xs:List (Key×V)} (s:SameN H H') (h:H a=some (.dK xs)):H' a=some (.dK xs):=s _ _ h (by intro ps z;cases z)
theorem SameN.seq {K:Frag} {a:Addr} {xs:List V} (s:SameN H H') (h:SqL K H a xs):SqL K H' a xs:=by
 rcases h with (h|⟨o,h⟩)|h
 ·exact .inl (.inl (s.lst h))
 ·exact .inl (.inr ⟨o,s _ _ h (by intro ps z;cases z)⟩)
 ·exact .inr h
theorem RuleAt.up {C:Addr} {r l:Addr} {ps:List (Int×Int)} {g:Option Int} (h:RuleAt C H r l ps g) (s:SameN H H'):RuleAt C H' r l ps g:=
 ⟨let ⟨dx,e⟩:=h.ob;⟨dx,s _ _ e (by intro ps z;cases z)⟩,let ⟨xs,e,p⟩:=h.ls;⟨xs,s.lst e,p.tupS λb xs e=>s _ _ e (by intro ps z;cases z)⟩⟩
theorem TxtL.up {v:V} {ms:List (List Nat)} (h:TxtL H v ms) (s:SameN H H'):TxtL H' v ms:=let ⟨c,e,q⟩:=h;⟨c,e,s.lst q⟩
theorem RollE.up {C R:Addr} {ro ru rl:Addr} {ps:List (Int×Int)} {g:Option Int} {day:Int} (h:RollE C R H ro ru rl ps g day) (s:SameN H H'):RollE C R H' ro ru rl ps g day:=
 let ⟨c,A,r⟩:=h.ex
 ⟨c,⟨let ⟨dx,e⟩:=A.ob;⟨dx,s _ _ e (by intro ps z;cases z)⟩,A.rule.up s,s.lst A.ed,s _ _ A.yo (by intro ps z;cases z),s _ _ A.he (by intro ps z;cases z),A.ne⟩,r⟩
theorem BookAt.up {C CR R:Addr} {b:Addr} {B:BookD} {E:Rows} (h:BookAt C CR R H b B E) (s:SameN H H'):BookAt C CR R H' b B E:=
 ⟨let ⟨dx,e⟩:=h.ob;⟨dx,s _ _ e (by intro ps z;cases z)⟩,h.rule.up s,s.lst h.ed,let ⟨k,e,r⟩:=h.ms;⟨k,s.dK e,r.imp λ_ _ q=>q.up s⟩,let ⟨k,e,r⟩:=h.rs;⟨k,s.dK e,r.imp λ_ _ ⟨x,e1,e2⟩=>⟨x,e1,e2.up s⟩⟩,h.ne,h.pr,h.bd⟩
end
structure RowsOk (E:Rows):Prop where
 nm:∀ p∈E,qap 12 p.1
 ms:∀ p∈E,∀ m∈p.2,qap 8 m
 l8:∀ p∈E,p.2.length<=8
 nd:(E.map (·.1)).Nodup
 ln:E.length<=20
def mkO (E:Rows) (x:List Nat):List (List Nat):=qcf ((E.lookup x).getD [])
theorem qei {E:Rows} (h:(E.map (·.1)).Nodup) {x:List Nat} {a:List (List Nat)} (m:(x,a)∈E):mkO E x=qcf a:=by
 obtain ⟨i,hi⟩:=List.getElem?_of_mem m;unfold mkO;rw[lkN h hi];rfl
def qo7 (mk:List Nat) (least:Int) (ms:List (List Nat)):Bool:=decide (least<=ms.length) && !decide (mk∈ms)
def nmC (E:Rows):List (List Nat):=qcf (E.map (·.1))
theorem qd1 {E:Rows} {x:List Nat} (h:x∈nmC E):∃ a,(x,a)∈E:=by
 obtain ⟨⟨y,a⟩,hp,e⟩:=List.mem_map.mp ((qbq _).mem_iff.mp h);have e:y=x:=e;subst e;exact ⟨a,hp⟩
theorem qfd (E:Rows):(nmC E).length=E.length:=by unfold nmC;rw[(qbq _).length_eq,List.length_map]
inductive qi0 (C CR R:Addr) (vs:List V) (H:Hp) (Q:VK) (E_:XK):Prop
 | mk:∀ (b f:Addr) (B:BookD) (E:Rows),vs=[.ref b,.ref f]->RowsOk E->((∃ (lw lb:Addr) (ws bs:List (List Nat)),BookAt C CR R H b B E/\qvk H f (.ref lw) (.ref lb)/\H lw=some (.lst (ws.map tS))/\H lb=some (.lst (bs.map tS))/\ws.length<=20/\bs.length<=20/\∀ l H',Same H H'->H l=none->H' l=some (.lst (((nmC E).filter λx=>qgq ws bs (mkO E x)).map tS))->Q (.ref l) H')\/(∃ (ph:Addr) (mk:List Nat) (least:Int) (hs:List V),BookAt C CR R (rm H ph) b B E/\qtg H f [tS mk,.int least,.ref ph]/\H ph=some (.lst hs)/\hs.length<=100/\∀ l H' (as:List Addr),But ph H H'->H l=none->H' l=some (.lst (((nmC E).filter λx=>qo7 mk least (mkO E x)).map tS))->H' ph=some (.lst (hs ++ as.map V.ref))->as.length=E.length->(∀ (i:Nat) (a:Addr) (x:List Nat),as[i]?=some a->(nmC E)[i]?=some x->H a=none/\H' a=some (.lst ((mkO E x).map tS)))->Q (.ref l) H'))->qi0 C CR R vs H Q E_
theorem qck (T:Txt K mg C_Roll C_Rule C_Book C_BookError C_NoNumber C_NoRule C_Backward C_NoName C_NoMark):qk5 P w K mg base C_Book 6 "chosen" ["self", "lets"] (qi0 C_Book C_Roll C_Rule):=by
 obtain ⟨f,fd,F,hm⟩:=T.f_Book_chosen;have nd:=sc_Book_chosen.nd;refine ⟨f,fd,(F.ok sc_Book_chosen (λvs H Q E h=>?_) (λcdv A outer s H vs Q E hr h=>?_)),hm,(F.binds λ_ _ _ _ _ _ us hl=>by obtain ⟨_,_,rfl⟩:=L2.lq2 hl;rfl)⟩
 ·obtain ⟨b,f,B,E',rfl,_⟩:=h;rfl
 ·obtain ⟨b,fc,B,E',rfl,ro,h⟩:=h
  have no:∀ {m:Str},¬ m = "kept_rolls" -> ¬ m = "kept_marks" -> ¬ m = "kept_edges" -> ¬ m = "kept_day" -> ¬ m = "kept_rule" -> (bof B.ru B.day B.le B.dm B.dr).lookup m=none:=λa b c d e=>qg2 _ _ _ _ _ a b c d e
  have ml:∀ x∈nmC E',(mkO E' x).length<=8:=λx hx=>by
   obtain ⟨a,ha⟩:=qd1 hx;rw[qei ro.nd ha,(qbq _).length_eq];exact ro.l8 _ ha
  have ln:=ro.ln;have l2:=qfd E';refine ⟨_,(qaf (qaw (qem (vars:=["name"]) (frees:=["lets", "self"]) (fv:=[1,0]) rfl (qh9 rfl rfl (by decide +kernel) (by decide +kernel) (by intro p hp;simp only[List.mem_cons,List.not_mem_nil,or_false] at hp;rcases hp with rfl|rfl<;>rfl) rfl) ⟨⟨rfl,.inl rfl,rfl,.inl rfl⟩,⟨⟨rfl,.inl rfl,rfl,.inl rfl⟩,trivial⟩⟩ (qcd (qh8 (pv 0) T.cl_Book (qfm T) (hr.mono (by decide)))) (qb0 (by decide)) (λ_ _ _ _=>(qaq (i:=0) (show (["name", "lets", "self"]:List Str).Nodup by decide +kernel) rfl (Or.inl rfl))) (λ_ _ _ _=>(qf7 (qcl (qsp (qsx (i:=1) (qtc T (hr.mono (by decide))) rfl (by first|exact Or.inl rfl|exact Or.inr (Or.inl rfl)|exact Or.inr (Or.inr rfl)) (qaa (qpp (pv 2) T.cl_Book (qd0 T) (hr.mono (by decide)) .nil (qaa (pv 0) qac)) qac)) (qq5 (i:=1) (qu4 T (hr.mono (by decide))) rfl (by first|exact Or.inl rfl|exact Or.inr (Or.inl rfl)|exact Or.inr (Or.inr rfl)) (qaa (qpp (pv 2) T.cl_Book (qd0 T) (hr.mono (by decide)) .nil (qaa (pv 0) qac)) qac)))))) (λ_ _ _ _=>(pv 0))))),?_⟩
  rcases h with ⟨lw,lb,ws,bs,A',hC,hw,hb,lw2,lb2,q⟩|⟨ph,mk,least,hs,A',hC,hph,lhs,q⟩
  ·obtain ⟨dx,hob⟩:=A'.ob
   refine ⟨_,rfl,b,dx,_,rfl,hob,no (by decide +kernel) (by decide +kernel) (by decide +kernel) (by decide +kernel) (by decide +kernel),b,B,E',rfl,A',by omega,λlN H1 n1=>?_⟩;refine ⟨lN,rfl,⟨_,SqL.of n1.at_⟩,qjq (ws:=nmC E') tS (λx=>qgq ws bs (mkO E' x)) (SqL.of n1.at_) (by omega) (λx hx H2 R s2 hR=>?_) λl H2 s2 f2 e2=>?_⟩
   ·obtain ⟨a,ha⟩:=qd1 hx
    have s02:=n1.same.trans s2;have sx:qap 12 x:=ro.nm _ ha;refine qav (.inl ⟨fc,_,_,rfl,hC.same s02,?_⟩);refine ⟨_,rfl,b,dx,_,rfl,s02 _ _ hob,no (by decide +kernel) (by decide +kernel) (by decide +kernel) (by decide +kernel) (by decide +kernel),_,rfl,b,B,E',tS x,rfl,A'.same s02,.inl ⟨x,rfl,by have:=sx.2.1;omega⟩,λx' a' ex _ hm l3 H3 s3 f3 e3=>?_,λhn=>absurd ⟨x,rfl,sx,List.mem_map.mpr ⟨_,ha,rfl⟩⟩ hn⟩;have ex:=qeh ex;subst ex;rw[<- qei ro.nd hm] at e3;have s03:=s02.trans s3;refine ⟨.ref l3,rfl,hC.same s03,l3,lw,lb,mkO E' x,ws,bs,rfl,rfl,rfl,e3,s03 _ _ hw,s03 _ _ hb,by have:=ml x hx;omega,by omega,by omega,λH4 s4=>⟨_,rfl,?_⟩⟩;have r4:=hR H4 (s3.trans s4)
    by_cases z:qgq ws bs (mkO E' x)=true
    ·rw[if_pos z] at r4 ⊢
     exact ⟨_,rfl,r4⟩
    ·rw[if_neg z] at r4 ⊢
     exact r4
   ·exact q l H2 (n1.same.trans s2) (n1.same.free f2) e2
  ·obtain ⟨dx,hob⟩:=A'.ob
   have s0:=qkq (H:=H) (a:=ph);refine ⟨_,rfl,b,dx,_,rfl,s0 _ _ hob,no (by decide +kernel) (by decide +kernel) (by decide +kernel) (by decide +kernel) (by decide +kernel),b,B,E',rfl,A'.same s0,by omega,λlN H1 n1=>?_⟩;have nph:lN≠ph:=λz=>by have:=n1.fresh;rw[z,hph] at this;cases this
   refine ⟨lN,rfl,⟨_,SqL.of n1.at_⟩,qho (xs:=(nmC E').map tS) (λi ys H2=>But ph H1 H2/\ys=(((nmC E').take i).filter λx=>qo7 mk least (mkO E' x)).map tS/\∃ as:List Addr,as.length=i/\H2 ph=some (.lst (hs ++ as.map V.ref))/\∀ (j:Nat) (a:Addr) (x:List Nat),as[j]?=some a->(nmC E')[j]?=some x->H a=none/\H2 a=some (.lst ((mkO E' x).map tS))) (qdl (by rw[List.length_map];omega))
    ⟨λb o e _=>e,rfl,[],rfl,by simpa using n1.same _ _ hph,λj a x e=>by simp at e⟩ (λi ys H2 h2=>⟨SqL.of (h2.1 _ _ n1.at_ nph),by rw[h2.2.1,List.length_map];exact Nat.le_trans (List.length_filter_le _ _) (by rw[List.length_take];omega)⟩) ?_ ?_⟩
   ·rintro i v ys H2 hi ⟨b2,rfl,as,las,h2,ha2⟩
    obtain ⟨x,hxi,rfl⟩:∃ x,(nmC E')[i]?=some x/\v=tS x:=by
     rw[List.getElem?_map] at hi;obtain ⟨w,a,b⟩:=Option.map_eq_some_iff.mp hi;exact ⟨w,a,b.symm⟩
    have hx:=List.mem_of_getElem? hxi;obtain ⟨a,ha⟩:=qd1 hx;have sx:qap 12 x:=ro.nm _ ha;have hil:i<E'.length:=by rw[<- l2];exact (List.getElem?_eq_some_iff.mp hxi).1
    have sr:Same (rm H ph) H2:=λc o e=>by
     have n:c≠ph:=λz=>by unfold rm at e;rw[if_pos z] at e;cases e
     exact b2 _ _ (n1.same _ _ (s0 _ _ e)) n
    have A2:=A'.same sr;have C2:qtg H2 fc [tS mk,.int least,.ref ph]:=hC.up λc φ e=>b2 _ _ (n1.same _ _ e) (λz=>by rw[z,hph] at e;cases e)
    refine qav (.inr ⟨fc,_,rfl,C2,?_⟩);refine ⟨_,rfl,b,dx,_,rfl,sr _ _ hob,no (by decide +kernel) (by decide +kernel) (by decide +kernel) (by decide +kernel) (by decide +kernel),_,rfl,b,B,E',tS x,rfl,A2,.inl ⟨x,rfl,by have:=sx.2.1;omega⟩,λx' a' ex _ hm pm H3 s3 f3 e3=>?_,λhn=>absurd ⟨x,rfl,sx,List.mem_map.mpr ⟨_,ha,rfl⟩⟩ hn⟩;have ex:=qeh ex;subst ex;rw[<- qei ro.nd hm] at e3;have np:pm≠ph:=λz=>by rw[z,h2] at f3;cases f3
    refine ⟨.ref pm,rfl,C2.same s3,pm,ph,mkO E' x,mk,least,hs ++ as.map V.ref,rfl,rfl,e3,s3 _ _ h2,np,by have:=ml x hx;omega,by rw[List.length_append,List.length_map];omega,λl4 H4 f4 e4 e5 b4=>⟨_,rfl,?_⟩⟩;have nx:But ph H1 H4:=λc o e n=>b4 _ _ (s3 _ _ (b2 _ _ e n)) (λz=>by have:=b2 _ _ e n;rw[z,f3] at this;cases this) n
    have hN:H l4=none:=by
     cases z:H l4 with
     | none=>rfl
     | some o =>
      by_cases n:l4=ph
      ·rw[n,s3 _ _ h2] at f4;cases f4
      ·rw[s3 _ _ (b2 _ _ (n1.same _ _ z) n)] at f4;cases f4
    have al:∀ (j:Nat) (a:Addr) (y:List Nat),(as ++ [l4])[j]?=some a->(nmC E')[j]?=some y->H a=none/\H4 a=some (.lst ((mkO E' y).map tS)):=λj a y e1 e2'=>by
     by_cases jl:j<as.length
     ·rw[List.getElem?_append_left jl] at e1
      obtain ⟨z1,z2⟩:=ha2 j a y e1 e2';exact ⟨z1,b4 _ _ (s3 _ _ z2) (λz=>by rw[z,f3] at z2;cases z2) (λz=>by rw[z,hph] at z1;cases z1)⟩
     ·rw[List.getElem?_append_right (Nat.not_lt.mp jl)] at e1
      have j0:j-as.length=0:=by
       have:=(List.getElem?_eq_some_iff.mp e1).1
       simp at this;omega
      rw[j0] at e1;cases e1;have ji:j=i:=by omega
      rw[ji,hxi] at e2'
      cases e2'
      exact ⟨hN,e4⟩
    have et:(nmC E').take (i+1)=(nmC E').take i ++ [x]:=by rw[List.take_add_one,hxi];rfl
    have e6:H4 ph=some (.lst (hs ++ (as ++ [l4]).map V.ref)):=by rw[e5,List.map_append,<- List.append_assoc];rfl
    by_cases z:qo7 mk least (mkO E' x)=true
    ·have z':=z
     unfold qo7 at z';rw[if_pos z'];refine ⟨_,rfl,nx,?_,as ++ [l4],by simp[las],e6,al⟩;rw[et,List.filter_append,List.map_append]
     simp[z]
    ·have z':=z
     unfold qo7 at z';rw[if_neg z'];refine ⟨nx,?_,as ++ [l4],by simp[las],e6,al⟩;rw[et,List.filter_append,List.map_append]
     simp[z]
   ·rintro ys H2 l H3 ⟨b2,rfl,as,las,h2,ha2⟩ n3
    rw[List.length_map,List.take_length] at n3;refine q l H3 as (λc o e n=>n3.same _ _ (b2 _ _ (n1.same _ _ e) n)) ?_ n3.at_ (n3.same _ _ h2) (by rw[las,List.length_map,l2]) λj a x e1 e2=>⟨(ha2 j a x e1 e2).1,n3.same _ _ (ha2 j a x e1 e2).2⟩
    cases z:H l with
    | none=>rfl
    | some o =>
     have f:=n3.fresh
     by_cases n:l=ph
     ·rw[n,h2] at f;cases f
     ·rw[b2 _ _ (n1.same _ _ z) n] at f;cases f
end
section
variable {P:Program} {w:World} {K:Frag} {mg:Str->Option Value} {base:Heap} {C_Roll C_Rule C_Book C_BookError C_NoNumber C_NoRule C_Backward C_NoName C_NoMark:Addr}
theorem qwh {s u:TS} {D:Ends} {σ:St} {H:Hp} (J:St->Hp->Prop) (h1:∀ N:St->Hp->Prop,(∀ σ' H',J σ' H'->N σ' H')->s { D with nx:=N } σ H) (h2:∀ σ' H',J σ' H'->u D σ' H'):qu6 s u D σ H:=h1 (u D) h2
theorem BookAt.butK {C CR R:Addr} {H H':Hp} {b a:Addr} {B:BookD} {E:Rows} {kvs:List (Key×V)} (h:BookAt C CR R H b B E) (bu:But a H H') (ha:H a=some (.dK kvs)) (n1:B.dm≠a) (n2:B.dr≠a):BookAt C CR R H' b B E:=
 ⟨let ⟨dx,e⟩:=h.ob;⟨dx,bu _ _ e (qa6 e ha (by intro z;cases z))⟩,h.rule.butK bu ha,bu _ _ h.ed (qa6 h.ed ha (by intro z;cases z)),
  let ⟨k,e,r⟩:=h.ms;⟨k,bu _ _ e n1,r.imp λ_ _ q=>q.butK bu ha⟩,let ⟨k,e,r⟩:=h.rs;⟨k,bu _ _ e n2,r.imp λ_ _ ⟨x,e1,e2⟩=>⟨x,e1,e2.butK bu ha⟩⟩,h.ne,h.pr,h.bd⟩
theorem RowsOk.snoc {E:Rows} (h:RowsOk E) {x:List Nat} {ms:List (List Nat)} (hx:qap 12 x) (hn:x ∉ E.map (·.1)) (hm:∀ m∈ms,qap 8 m) (l8:ms.length<=8) (hl:E.length<20):RowsOk (E ++ [(x,ms)]):=by
 refine ⟨λe he=>?_,λe he=>?_,λe he=>?_,?_,by simp;omega⟩
 ·rcases List.mem_append.mp he with z|z
  ·exact h.nm e z
  ·rw[List.mem_singleton.mp z];exact hx
 ·rcases List.mem_append.mp he with z|z
  ·exact h.ms e z
  ·rw[List.mem_singleton.mp z];exact hm
 ·rcases List.mem_append.mp he with z|z
  ·exact h.l8 e z
  ·rw[List.mem_singleton.mp z];exact l8
 ·rw[List.map_append,List.nodup_append]
  refine ⟨h.nd,by simp,λa ha c hc e=>hn ?_⟩;have:c=x:=by simpa using hc
  rw[<- this,<- e];exact ha
theorem pr_64 {c:Int}:Pr [(0,1+c % 9)] none:=by
 have h1:0<=c % 9:=Int.emod_nonneg _ (by decide);have h2:c % 9<9:=Int.emod_lt_of_pos _ (by decide);refine ⟨⟨by simp,by simp,λi p h=>?_,λi p q h g=>?_⟩,λi p h=>?_,(λp h z e=>by cases e),(λz e=>by cases e)⟩
 ·have:p=(0,1+c % 9):=by
   have:=List.mem_of_getElem? h
   simpa using this
  subst this;exact ⟨Int.le_refl 0,by show 1<=1+c % 9;omega⟩
 ·have:=(List.getElem?_eq_some_iff.mp g).1
  simp at this
 ·have:p=(0,1+c % 9):=by
   have:=List.mem_of_getElem? h
   simpa using this
  subst this;exact ⟨Int.le_refl 0,by show (0:Int)<10 ^ 45;omega,by show 1<=1+c % 9;omega,by show 1+c % 9<10 ^ 45;omega⟩
structure W64 (C CR R:Addr) (H:Hp) (b:Addr) (B:BookD) (dk:Addr) (E:Rows):Prop where
 bk:BookAt C CR R H b B E
 kd:∃ kvs,H dk=some (.dK kvs)/\Ents (λv ms=>TxtL H v (qcf ms)) kvs E
 ro:RowsOk E
 n1:B.dm≠dk
 n2:B.dr≠dk
section
variable {C CR R:Addr} {H H':Hp} {b dk:Addr} {B:BookD} {E:Rows}
theorem W64.same (h:W64 C CR R H b B dk E) (s:Same H H'):W64 C CR R H' b B dk E:=
 ⟨h.bk.same s,let ⟨k,e,r⟩:=h.kd;⟨k,s _ _ e,r.imp λ_ _ z=>z.same s⟩,h.ro,h.n1,h.n2⟩
theorem W64.up (h:W64 C CR R H b B dk E) (s:SameN H H'):W64 C CR R H' b B dk E:=
 ⟨h.bk.up s,let ⟨k,e,r⟩:=h.kd;⟨k,s.dK e,r.imp λ_ _ z=>z.up s⟩,h.ro,h.n1,h.n2⟩
end
theorem qwi {α:Type} (f:α->V) (js:List α):qlv (js.map f) none (some 3)=(js.take 3).map f:=by
 unfold qlv;rw[show (some (3:Int))=some ((3:Nat):Int) from rfl,HT.sIx_nat]
 show ((js.map f).drop 0).take (min 3 (js.map f).length-0)=_
 rw[List.drop_zero,Nat.sub_zero,List.map_take];exact (List.take_eq_take_min ..).symm
def MkJ (d:Int) (js:List Int):Prop:=js.Nodup/\∀ j∈js,(0<=j/\j<26)/\qap 8 (mkF d j)
theorem MkJ.marks {d:Int} {js:List Int} (h:MkJ d js) (l:js.length<=8):qgh ((js.map (mkF d)).map tS):=by
 refine ⟨λv hv=>?_,?_,by simpa using l⟩
 ·rw[List.map_map] at hv
  obtain ⟨j,hj,rfl⟩:=List.mem_map.mp hv
  show qcg 8 (.str (S (mkF d j)))=true
  rw[qeq];exact decide_eq_true (h.2 j hj).2
 ·rw[List.map_map]
  unfold List.Nodup;rw[List.pairwise_map];refine h.1.imp_of_mem fun {i j} hi hj n e=>?_
  have a:=(h.2 i hi).1;have b:=(h.2 j hj).1;exact qu3 (d:=d) n (by omega) (by omega) (qeh e)
theorem MkJ.small {d:Int} {js:List Int} (h:MkJ d js):∀ m∈js.map (mkF d),qap 8 m:=λm hm=>by
 obtain ⟨j,hj,rfl⟩:=List.mem_map.mp hm;exact (h.2 j hj).2
def qls (K:Frag) (C CR R:Addr):Sp:=λvs H Q _=>∃ (a:Addr) (ns:List Int),vs=[.ref a]/\SqL K H a (ns.map V.int)/\∀ b B dk E t H',Same H H'->H' t=some (.tup [.ref b,.ref dk])->W64 C CR R H' b B dk E->Q (.ref t) H'
theorem qju (T:Txt K mg C_Roll C_Rule C_Book C_BookError C_NoNumber C_NoRule C_Backward C_NoName C_NoMark):qce P w K mg base 9 "_law_book" ["_law_script"] (qls K C_Book C_Roll C_Rule):=by
 obtain ⟨f,fd,F,hm⟩:=T.f__law_book;have nd:=sc__law_book.nd;refine F.def_ hm (F.ok sc__law_book (λvs H Q E h=>?_) (λcdv A outer s H vs Q E hr h=>?_)) (F.binds λ_ _ _ _ _ _ us hl=>by obtain ⟨_,rfl⟩:=L2.lq1 hl;rfl)
 ·obtain ⟨a,ns,rfl,_⟩:=h;rfl
 ·obtain ⟨a,ns,rfl,hS,q⟩:=h
  refine ⟨_,(qad (qaz (i:=1) nd rfl (Or.inr rfl) (qa7 (qb5 T) (hr.mono (by decide)) rfl (qaa (pv 0) (qaa qah qac))))
   (qad (qaz (i:=2) nd rfl (Or.inl rfl) (qmu (qo3 T) (hr.mono (by decide)) rfl .nil (qaa (qmu (dvs:=[.non]) (qox T) (hr.mono (by decide)) rfl (.cons rfl .nil) (qaa (qc2 (qaa (qmt (qaa qah (qaa (qas qc4 qah (qas qbc (pv 1) qah)) qac))) qac)) qac)) (qaa (qas qbc (pv 1) (qas qrs qah qah)) qac))))
   (qad (qaz (i:=3) nd rfl (Or.inl rfl) qf8)
   (qad (qfv PassesOwn.never rfl (qdn rfl T.b_range (qaa (qas qbc (qa7 (qa5 T) (hr.mono (by decide)) rfl (qaa (pv 1) (qaa qah qac))) qah) qac)) (qaq (i:=4) nd rfl (Or.inl rfl))
    (qad (qaz (i:=5) nd rfl (Or.inr rfl) (qa7 (qb5 T) (hr.mono (by decide)) rfl (qaa (pv 0) (qaa (qas qc4 qah (pv 4)) qac))))
   (qad (qaz (i:=6) nd rfl (Or.inl rfl) (qa7 (qjt T) (hr.mono (by decide)) rfl (qaa (pv 1) (qaa (qas qbc (qas qc4 (qas qgw (pv 4) qah) (pv 5)) qah) qac))))
   (qad (qaz (i:=7) nd rfl (Or.inl rfl) (qch qhg (qem (vars:=["_law_j"]) (frees:=["_law_number", "_law_one"]) (fv:=[5,1]) rfl (qh9 rfl rfl (by decide +kernel) (by decide +kernel) (by intro p hp;simp only[List.mem_cons,List.not_mem_nil,or_false] at hp;rcases hp with rfl|rfl<;>rfl) rfl) ⟨⟨rfl,.inl rfl,rfl,.inl rfl⟩,⟨⟨rfl,.inl rfl,rfl,.inl rfl⟩,trivial⟩⟩ (qdn rfl T.b_range (qaa qah qac)) (qb0 (by decide)) (λ_ _ _ _=>(qaq (i:=0) (show (["_law_j", "_law_number", "_law_one"]:List Str).Nodup by decide +kernel) rfl (Or.inl rfl))) (λ_ _ _ _=>(qf7 (qax qkx (qas qbc (qa7 (qa5 T) (hr.mono (by decide)) rfl (qaa (pv 1) (qaa (qas qc4 qah (pv 0)) qac))) qah) qah (qa2 _)))) (λ_ _ _ _=>(qa7 (qdj T) (hr.mono (by decide)) rfl (qaa (pv 2) (qaa (pv 0) qac))))) qdd (qde qah)))
   (qad (qbs (qax qkx (qas qbc (qa7 (qa5 T) (hr.mono (by decide)) rfl (qaa (pv 5) (qaa qah qac))) qah) qah (qa2 _))
    (qaf (qaz (i:=7) nd rfl (Or.inl rfl) (qsk (pv 7) (qpz ql4 qah))))
    qau)
   (qaf (qbs (ql1 (qh7 (qgn hr) (pv 6) (pv 3)))
    (qad (qi9 (qgn hr) (pv 3) (pv 6) (qan qeu rfl T.b_sorted qc7 (qaa (pv 7) qac)) rfl)
   (qaf (qcm (qmx (qdq ⟨rfl,rfl,rfl⟩) (pv 2) T.cl_Book (qgr T) (hr.mono (by decide)) .nil (qaa (pv 6) (qaa (pv 7) qac))))))
    qau)))))))
   (qaf (qaw (qmt (qaa (pv 2) (qaa (pv 3) qac))))))))),?_⟩
  refine ⟨_,rfl,a,ns,0,rfl,hS,by decide,qav ?_⟩
  generalize ns[(0:Int).toNat]?.getD 0=one
  refine qcj (σ':=[some (.ref a),some (.int one),none,none,none,none,none,none]) rfl ?_
  walk_at "r"
  intro t H1 n1;refine ⟨qdl (by simp),λl H2 n2=>?_⟩;intro ru dx H3 s3 f3 d3;have s13:=n2.same.trans s3;refine ⟨ru,dx,l,_,[(0,1+one % 9)],none,rfl,d3,s3 _ _ n2.at_,.cons ⟨t,rfl,s13 _ _ n1.at_⟩ .nil,pr_64.good,pr_64.gone,λrl H4 f4 R4 b4=>⟨rfl,?_⟩⟩;have s04:Same H H4:=b4.same (n1.same.trans s13) (n1.same.trans n2.same |>.free f3)
  walk_at "r"
  intro b dx5 H5 s5 f5 d5;refine ⟨b,dx5,ru,rl,_,none,one % 10 ^ 30,rfl,d5,R4.same s5,pr_64,?_,λle dm dr H6 A6 z1 z2 b6=>⟨rfl,qav ?_⟩⟩
  ·have h1:0<=one % 10 ^ 30:=Int.emod_nonneg _ (by decide)
   have h2:one % 10 ^ 30<10 ^ 30:=Int.emod_lt_of_pos _ (by decide);exact ⟨by omega,by omega⟩
  have s46:Same H4 H6:=b6.same s5 f5;have s06:=s04.trans s46;have fdm:H dm=none:=s04.free (s5.free z1);have fdr:H dr=none:=s04.free (s5.free z2);intro dk H7 n7;refine qav ?_;have fdk:H dk=none:=s06.free n7.fresh
  generalize hB:(BookD.mk ru rl le dm dr [(0,1+one % 9)] none (one % 10 ^ 30))=B at A6
  have em:B.dm=dm:=by rw[<- hB]
  have er:B.dr=dr:=by rw[<- hB]
  have w7:W64 C_Book C_Roll C_Rule H7 b B dk []:=⟨A6.same n7.same,⟨[],n7.at_,.nil⟩,⟨(by intro p h;cases h),(by intro p h;cases h),(by intro p h;cases h),.nil,by simp⟩,let ⟨_,e,_⟩:=A6.ms;qaj e n7.fresh,let ⟨_,e,_⟩:=A6.rs;qaj e n7.fresh⟩;rw[<- em] at fdm;rw[<- er] at fdr;have s07:=s06.trans n7.same;refine qcj (σ':=[some (.ref a),some (.int one),some (.ref b),some (.ref dk),none,none,none,none]) rfl ?_;clear hB em er A6 n7 s06 s46 s04 z1 z2 b6 d5 f5 s5 R4 b4 f4 d3 f3 s3 s13 n1 n2;refine ⟨_,rfl,one,11,rfl,by decide,by decide,λm m0 m1=>?_⟩;have m9:0<=m % 9/\m % 9<9:=by omega
  refine ⟨_,_,rfl,rfl,by decide,_,rfl,by omega,by omega,qhy (n:=(m % 9).toNat) (λi σ H'=>∃ (E':Rows) (v4 v5 v6 v7:Option V),Same H H'/\W64 C_Book C_Roll C_Rule H' b B dk E'/\E'.length<=i/\σ=[some (.ref a),some (.int one),some (.ref b),some (.ref dk),v4,v5,v6,v7]) ⟨[],_,_,_,_,s07,w7,Nat.zero_le _,rfl⟩ ?_ ?_⟩
  ·rintro i σ H0 hi ⟨E',v4,v5,v6,v7,s0,w0,lE,rfl⟩
   have hi9:i<9:=by omega
   refine qav ?_;refine qcj (σ':=[some (.ref a),some (.int one),some (.ref b),some (.ref dk),some (.int (0+i)),v5,v6,v7]) rfl ?_;refine ⟨_,rfl,_,rfl,_,_,rfl,rfl,a,ns,2+(0+(i:Int)),rfl,qeo s0 hS,by omega,qav ?_⟩
   generalize ns[(2+(0+(i:Int))).toNat]?.getD 0=num
   refine qcj (σ':=[some (.ref a),some (.int one),some (.ref b),some (.ref dk),some (.int (0+i)),some (.int num),v6,v7]) rfl ?_;refine ⟨_,rfl,_,rfl,_,_,rfl,rfl,by walk_at "c",_,rfl,_,_,rfl,rfl,_,_,rfl,rfl,by decide,one,_,rfl,λH1 s1 sx=>qav ?_⟩
   generalize nmF one _=x at sx
   refine qcj (σ':=[some (.ref a),some (.int one),some (.ref b),some (.ref dk),some (.int (0+i)),some (.int num),some (tS x),v7]) rfl ?_;refine ⟨_,rfl,by decide,by decide,qgd (n:=5) (λj ys H2=>Same H1 H2/\∃ js:List Int,ys=(js.map (mkF one)).map tS/\js.length<=j/\(∀ z∈js,z<j)/\MkJ one js) (qdl (by decide)) ⟨Same.refl _,[],rfl,Nat.le_refl _,by simp,.nil,by simp⟩ (λj ys H2 h2=>by obtain ⟨_,js,e,l,_⟩:=h2;rw[e];simpa using l) ?_ ?_⟩
   ·rintro j ys H2 hj ⟨s2,js,rfl,lj,lt,mj⟩
    refine qav ?_;refine ⟨_,rfl,_,rfl,_,_,rfl,rfl,num,_,rfl,by omega,by omega,λm2 _ _=>⟨_,_,rfl,rfl,by decide,rfl,_,rfl,?_⟩⟩;refine qk4 (λz=>?_) λz=>⟨s2,js,rfl,by omega,λz hz=>by have:=lt z hz;omega,mj⟩
    refine ⟨_,rfl,_,rfl,one,0+(j:Int),rfl,λH3 s3 sw=>⟨s2.trans s3,js ++ [0+(j:Int)],by simp,by simp;omega,λz hz=>?_,?_,λz hz=>?_⟩⟩
    ·rcases List.mem_append.mp hz with y|y
     ·have:=lt z y;omega
     ·rw[List.mem_singleton.mp y];omega
    ·rw[List.nodup_append]
     refine ⟨mj.1,by simp,λp hp c hc e=>?_⟩;have:=lt p hp;rw[e,List.mem_singleton.mp hc] at this;omega
    ·rcases List.mem_append.mp hz with y|y
     ·exact mj.2 z y
     ·rw[List.mem_singleton.mp y];exact ⟨⟨by omega,by omega⟩,sw⟩
   rintro ys H2 lq H3 ⟨s2,js,rfl,lj,lt,mj⟩ n3;refine ⟨_,rfl,lq,_,rfl,SqL.of n3.at_,λl H4 n4=>qav ?_⟩;rw[qwi,<- List.map_take] at n4;have mk4:MkJ one (js.take 3):=⟨List.Pairwise.sublist (List.take_sublist 3 js) mj.1,λz hz=>mj.2 z (List.mem_of_mem_take hz)⟩;have l3:(js.take 3).length<=3:=by rw[List.length_take];omega
   generalize js.take 3=ks at n4 mk4 l3
   have s14:=s2.trans (n3.same.trans n4.same);have s04:=s1.trans s14;have w4:=w0.same s04
   replace s0:=s0.trans s04
   have hl:=n4.at_;clear s04 s14 n4 n3 s2 mj lt lj s1 w0;refine qcj (σ':=[some (.ref a),some (.int one),some (.ref b),some (.ref dk),some (.int (0+i)),some (.int num),some (tS x),some (.ref l)]) rfl ?_;dsimp only;refine qwh (λσ H'=>∃ (l:Addr) (ks:List Int),Same H4 H'/\H' l=some (.lst ((ks.map (mkF one)).map tS))/\MkJ one ks/\ks.length<=3/\σ=[some (.ref a),some (.int one),some (.ref b),some (.ref dk),some (.int (0+i)),some (.int num),some (tS x),some (.ref l)]) (λN hN=>?_) ?_
   ·refine ⟨_,rfl,num,12,rfl,by decide,by decide,λm3 _ _=>⟨_,_,rfl,rfl,by decide,rfl,_,rfl,?_⟩⟩
    refine qk4 (λz=>?_) λz=>hN _ _ ⟨l,ks,Same.refl _,hl,mk4,l3,rfl⟩
    refine ⟨_,rfl,_,rfl,l,_,rfl,rfl,SqL.of hl,λp H5 n5=>qav (hN _ _ ⟨p,ks.reverse,n5.same,?_,⟨(by unfold List.Nodup;rw[List.pairwise_reverse];exact List.Pairwise.imp Ne.symm mk4.1),λz hz=>mk4.2 z (List.mem_reverse.mp hz)⟩,by rw[List.length_reverse];exact l3,rfl⟩)⟩;have e:=n5.at_;rw[<- List.map_reverse,<- List.map_reverse] at e;exact e
   clear hl mk4 l3;rintro σ H5 ⟨l,ks,s5,hl,mk,lk,rfl⟩;have w5:=w4.same s5
   replace s0:=s0.trans s5
   clear s5 w4;obtain ⟨kvs,hk,en⟩:=w5.kd;refine ⟨_,rfl,_,rfl,dk,_,rfl,DGet.k (k:=kS x) hk,_,rfl,?_⟩
   by_cases hin:x∈E'.map (·.1)
   ·obtain ⟨v,a2,e1,_⟩:=en.has hin
    rw[e1];exact qe1 ⟨E',_,_,_,_,s0,w5,by omega,rfl⟩
   rw[en.hasn hin];refine qef ?_;refine ⟨_,rfl,l,ks.map (mkF one),rfl,SqL.of hl,by rw[List.length_map];omega,λls H6 n6=>?_⟩;have hk6:=n6.same _ _ hk;have hl6:=n6.same _ _ hl;refine ⟨_,rfl,_,rfl,dk,_,rfl,DPut.k (k:=kS x) hk6 (by rw[en.len,sizeLine_eq];omega),?_⟩;have b7:But dk H6 (upd H6 dk (.dK (putK kvs (kS x) (.ref ls)))):=qe6;have e7:upd H6 dk (.dK (putK kvs (kS x) (.ref ls))) dk=some (.dK (putK kvs (kS x) (.ref ls))):=qat
   generalize upd H6 dk (.dK (putK kvs (kS x) (.ref ls)))=H7 at b7 e7
   have A7:=(w5.bk.same n6.same).butK b7 hk6 w5.n1 w5.n2;obtain ⟨dx7,hob7⟩:=A7.ob;obtain ⟨km7,hm7,_⟩:=A7.ms;obtain ⟨kr7,hr7,_⟩:=A7.rs;have hl7:=b7 _ _ hl6 (qa6 hl6 hk6 (by intro z;cases z));have mo:=mk.marks (show ks.length<=8 by omega);refine ⟨_,rfl,b,dx7,_,rfl,hob7,qg2 _ _ _ _ _ (by decide +kernel) (by decide +kernel) (by decide +kernel) (by decide +kernel) (by decide +kernel),_,rfl,_,rfl,b,B,E',tS x,.ref l,_,rfl,A7,.inl ⟨x,rfl,by have:=sx.2.1;omega⟩,.inr ⟨l,rfl,hl7⟩,λu hu=>?_,by simp;omega,by omega,λz=>?_,λ_ z=>absurd mo z,λy ms ey hy hn eu ok H8 b8 A8 _=>?_⟩
   ·obtain ⟨m,hm',rfl⟩:=List.mem_map.mp hu
    exact .inl ⟨m,rfl,by have:=(mk.small m hm').2.1;omega⟩
   ·rcases z with z|⟨y,e,_,hy'⟩
    ·rw[qeq,decide_eq_true sx] at z;cases z
    ·exact absurd (qeh e ▸ hy') hin
   have ey:=qeh ey;subst ey;have ems:=qjl eu;subst ems;have txt:∀ (v:V) ms,TxtL H5 v ms->TxtL H8 v ms:=λv ms h=>by
    obtain ⟨c,e,q7⟩:=(h.same n6.same).butK b7 hk6;exact ⟨c,e,b8 _ _ q7 (qa6 q7 hm7 (by intro z;cases z)) (qa6 q7 hr7 (by intro z;cases z))⟩
   have n1:dk≠B.dm:=λz=>w5.n1 z.symm
   have n2:dk≠B.dr:=λz=>w5.n2 z.symm
   have hls7:=b7 _ _ n6.at_ (qa6 n6.at_ hk6 (by intro z;cases z));refine ⟨E' ++ [(x,ks.map (mkF one))],_,_,_,_,λc o e=>b8 _ _ (b7 _ _ (n6.same _ _ (s0 _ _ e)) (qaj e fdk)) (qaj e fdm) (qaj e fdr),⟨A8,⟨_,b8 _ _ e7 n1 n2,(en.imp λv ms=>txt v (qcf ms)).put hin ⟨ls,rfl,b8 _ _ hls7 (qa6 hls7 hm7 (by intro z;cases z)) (qa6 hls7 hr7 (by intro z;cases z))⟩⟩,w5.ro.snoc sx hin mk.small (by rw[List.length_map];omega) (by omega),w5.n1,w5.n2⟩,by simp;omega,rfl⟩
  ·rintro σ H0 ⟨E',v4,v5,v6,v7,s0,w0,lE,rfl⟩
   refine ⟨_,rfl,_,rfl,qdl (by simp),λt H1 n1=>?_⟩;exact q b B dk E' t H1 (s0.trans n1.same) n1.at_ (w0.same n1.same)
end
section
variable {P:Program} {w:World} {K:Frag} {mg:Str->Option Value} {base:Heap} {C_Roll C_Rule C_Book C_BookError C_NoNumber C_NoRule C_Backward C_NoName C_NoMark:Addr}
theorem qns {K:Frag} {a b:Addr} {ss ms:List (List Nat)} {g:TG} {tc:TT} {te:TE} {Q:VK} {σ:St} {H:Hp} (f:List Nat->List Nat->V) (ha:SqL K H a (ss.map tS)) (hb:SqL K H b (ms.map tS)) (hz:ss.length<=20000)
  (hs:∀ s m,(s,m)∈ss.zip ms->∀ (p:Addr) (H2:Hp) (R:V->Hp->Prop) (Rn:Hp->Prop),Same H H2->H2 p=some (.tup [tS s,tS m])->(∀ H3,Same H2 H3->R (f s m) H3)->g (.ref p) σ H2 λσ4 H4=>tc σ4 H4 λc H5=>if c=true then te σ4 H5 λv H6=>R v H6 else Rn H5)
  (hd:∀ p H',Same H H'->H p=none->H' p=some (.lst ((ss.zip ms).map λq=>f q.1 q.2))->Q (.ref p) H'):qdp (Itz K a b) Q g tc te σ H:=by
 have tk:∀ {l:List (List Nat)} {i:Nat} {v:V},(l.map tS)[i]?=some v->∃ w,l[i]?=some w/\v=tS w:=fun {l i v} h=>by
  rw[List.getElem?_map] at h;obtain ⟨w,a,b⟩:=Option.map_eq_some_iff.mp h;exact ⟨w,a,b.symm⟩
 refine qra (xs:=ss.map tS) (ys:=ms.map tS) (λi zs H2=>Same H H2/\zs=((ss.zip ms).take i).map λq=>f q.1 q.2) (qdl (by rw[List.length_map];exact hz)) ⟨Same.refl _,rfl⟩ (λi zs H2 h2=>⟨qeo h2.1 ha,qeo h2.1 hb,by rw[h2.2,List.length_map,List.length_take];omega⟩) ?_ ?_
 ·rintro i x y zs H2 p H3 hx hy n3 ⟨s2,rfl⟩
  obtain ⟨s,es,rfl⟩:=tk hx;obtain ⟨m,em,rfl⟩:=tk hy;have hz:=(List.getElem?_zip_eq_some (z:=(s,m))).mpr ⟨es,em⟩;refine hs s m (List.mem_of_getElem? hz) p H3 (λv H6=>Same H H6/\((ss.zip ms).take i).map (λq=>f q.1 q.2) ++ [v]=((ss.zip ms).take (i+1)).map λq=>f q.1 q.2) _ (s2.trans n3.same) n3.at_ λH4 s4=>⟨(s2.trans n3.same).trans s4,?_⟩
  rw[List.take_add_one,hz,List.map_append];rfl
 ·rintro i zs H2 p H3 hi ⟨s2,rfl⟩ n3
  have e:(ss.zip ms).take i=ss.zip ms:=List.take_of_length_le (by rw[List.length_zip,hi,List.length_map,List.length_map];exact Nat.le_refl _);rw[e] at n3;exact hd p H3 (s2.trans n3.same) (s2.free n3.fresh) n3.at_
theorem qrh {n:Int} {x:List Nat} (h:qap n x):(PyData.str (S x)).canLay0=true:=by
 show PyData.strOk (S x)=true
 unfold PyData.strOk;rw[Array.all_eq_true'];intro c hc;have:=h.2.2 c (by simpa [S] using hc)
 simp;omega
theorem qlt {n:Int}:∀ ms:List (List Nat),(∀ m∈ms,qap n m)->(txD ms).canLay0=true
 | [],_=>rfl
 | m :: ms,h=>by
  show (PyData.canLay0 (.str (S m)) && (txD ms).canLay0)=true
  rw[qrh (h m List.mem_cons_self),qlt ms λx hx=>h x (List.mem_cons_of_mem _ hx)];rfl
theorem qlu {K:Frag} {H:Hp} {p q:Addr} {n:Int} {ms:List (List Nat)} {Q:VK} {neg:Bool} (hs:∀ m∈ms,qap n m) (hp:H p=some (.lst (ms.map tS))) (hq:H q=some (.lst (ms.map tS))) (h:Q (.bl (!neg)) H):qud K neg (.ref p) (.ref q) H Q:=by
 have c:=qlt ms hs;refine ⟨_,_,.lst (SqL.of hp) (qev ms),.lst (SqL.of hq) (qev ms),c,c,?_,?_⟩
 ·show PyData.depthAll _+1<=20
  rw[qjk];decide
 ·rw[PySem.SeqAt.eqv_refl _ c]
  cases neg
  ·exact h
  ·exact h
def qo8 (ps:List (List Nat×List Nat)) (ms:List (List Nat)):Bool:=ps.all λp=>decide (p.2∈ms) == decide (p.1=[])
structure SgM (ss wm:List (List Nat)):Prop where
 sg:∀ s∈ss,s=[]\/s=[45]
 sm:∀ m∈wm,qap 8 m
 l1:ss.length<=2
 l2:wm.length<=2
theorem SgM.good {ss wm:List (List Nat)} (h:SgM ss wm) {s m:List Nat} (hp:(s,m)∈ss.zip wm):GoodW (s ++ m)/\(qcv (s ++ m)=m)/\(qcv (s ++ m)=s ++ m↔s=[]):=by
 obtain ⟨h1,h2⟩:=List.of_mem_zip hp;have sm:=h.sm m h2
 rcases h.sg s h1 with rfl|rfl
 ·have e:qcv m=m:=by
   unfold qcv
   by_cases t:m.take 1=[45]
   ·cases m with
    | nil=>cases t
    | cons a l =>
     simp at t
     have:=sm.2.2 a (.head _);omega
   ·rw[if_neg t]
  exact ⟨.inl sm,e,by simp[e]⟩
 ·have e:qcv ([45] ++ m)=m:=by simp[qcv]
  refine ⟨.inr ⟨rfl,sm⟩,e,?_⟩;rw[e]
  constructor
  ·intro z
   have:=congrArg List.length z
   simp at this
  ·intro z;cases z
theorem SgM.due {ss wm:List (List Nat)} (h:SgM ss wm) (ms:List (List Nat)):qgq (qdi ((ss.zip wm).map λp=>p.1 ++ p.2)) (qc3 ((ss.zip wm).map λp=>p.1 ++ p.2)) ms=qo8 (ss.zip wm) ms:=by
 rw[qo2 _ _ λw hw=>by obtain ⟨⟨s,m⟩,hp,rfl⟩:=List.mem_map.mp hw;exact (h.good hp).1];unfold qu2 qo8;rw[List.all_map,Bool.eq_iff_iff,List.all_eq_true,List.all_eq_true];refine forall_congr' λp=>forall_congr' λhp=>?_
 obtain ⟨_,e1,e2⟩:=h.good (s:=p.1) (m:=p.2) hp
 show (decide (qcv (p.1 ++ p.2)∈ms) == decide (qcv (p.1 ++ p.2)=p.1 ++ p.2))=true↔_
 rw[show decide (qcv (p.1 ++ p.2)=p.1 ++ p.2)=decide (p.1=[]) from decide_eq_decide.mpr e2,e1]
inductive qi1 (K:Frag) (C CR R T9:Addr) (vs:List V) (H:Hp) (Q:VK) (E_:XK):Prop
 | mk:∀ (b dk lm lg:Addr) (B:BookD) (E:Rows) (ss wm:List (List Nat)),vs=[.ref b,.ref dk,.ref lm,.ref lg]->W64 C CR R H b B dk E->H lm=some (.lst (wm.map tS))->H lg=some (.lst (ss.map tS))->SgM ss wm->Tb T9 qd8 qgj H->(∀ H',SameX T9 H H'->Tb T9 qd8 qgj H'->Q (.bl true) H')->qi1 K C CR R T9 vs H Q E_
theorem qgs (T:Txt K mg C_Roll C_Rule C_Book C_BookError C_NoNumber C_NoRule C_Backward C_NoName C_NoMark) {c9 T9 d9 U9:Addr} (ne9:T9≠U9) (Z9:∀ f,mg "sieve" = some (.ref f)->qkg K f c9 T9) (Y9:∀ f,mg "_law_own" = some (.ref f)->qkg K f d9 U9):qce P w K mg base 7 "_law_by_text" ["_law_book_here", "_law_kept", "_law_wanted_one", "_law_signs"] (qi1 K C_Book C_Roll C_Rule T9):=by
 obtain ⟨f,fd,F,hm⟩:=T.f__law_by_text;have nd:=sc__law_by_text.nd;refine F.def_ hm (F.ok sc__law_by_text (λvs H Q E h=>?_) (λcdv A outer s H vs Q E hr h=>?_)) (F.binds λ_ _ _ _ _ _ us hl=>by obtain ⟨_,_,_,_,rfl⟩:=L2.lq4 hl;rfl)
 ·obtain ⟨b,dk,lm,lg,B,E',ss,wm,rfl,_⟩:=h;rfl
 ·obtain ⟨b,dk,lm,lg,B,E',ss,wm,rfl,w0,hm,hg,sg,tb,q⟩:=h
  have l1:=sg.l1;have l2:=sg.l2;have hE:=w0.ro.ln;refine ⟨_,(qad (qaz (i:=4) nd rfl (Or.inl rfl) (qhb PySem.F.plainAttrs_str PySem.F.slot_str_join PySem.F.type_str_join qjd qbg (qaa (qem (vars:=["_law_sign", "_law_mark_here"]) (frees:=[]) (fv:=[]) rfl (qh9 rfl rfl (by decide +kernel) (by decide +kernel) (by intro p hp;cases hp) rfl) trivial (qj7 rfl T.b_zip (qaa (pv 3) (qaa (pv 2) qac))) (qhf (by decide) (by decide)) (λ_ _ _ _=>(qfu rfl (qbf (qaq (i:=0) (show (["_law_sign", "_law_mark_here"]:List Str).Nodup by decide +kernel) rfl (Or.inl rfl)) (qbf (qaq (i:=1) (show (["_law_sign", "_law_mark_here"]:List Str).Nodup by decide +kernel) rfl (Or.inl rfl)) qej)))) (λ_ _ _ _=>qbo) (λ_ _ _ _=>(qas qc5 (pv 0) (pv 1)))) qac)))
   (qad (qaz (i:=5) nd rfl (Or.inl rfl) (qc2 qac))
   (qad (qfv PassesOwn.never rfl (qcd (qan (qb4 rfl) rfl T.b_sorted qc7 (qaa (pv 1) qac))) (qaq (i:=6) nd rfl (Or.inr rfl))
    (qaf (qbs (qcl (qan (qd7 rfl) rfl T.b_all qgx (qaa (qem (vars:=["_law_sign", "_law_mark_here"]) (frees:=["_law_kept", "_law_name_here"]) (fv:=[1,6]) rfl (qh9 rfl rfl (by decide +kernel) (by decide +kernel) (by intro p hp;simp only[List.mem_cons,List.not_mem_nil,or_false] at hp;rcases hp with rfl|rfl<;>rfl) rfl) ⟨⟨rfl,.inl rfl,rfl,.inl rfl⟩,⟨⟨rfl,.inl rfl,rfl,.inl rfl⟩,trivial⟩⟩ (qj7 rfl T.b_zip (qaa (pv 3) (qaa (pv 2) qac))) (qhf (by decide) (by decide)) (λ_ _ _ _=>(qfu rfl (qbf (qaq (i:=0) (show (["_law_sign", "_law_mark_here", "_law_kept", "_law_name_here"]:List Str).Nodup by decide +kernel) rfl (Or.inl rfl)) (qbf (qaq (i:=1) (show (["_law_sign", "_law_mark_here", "_law_kept", "_law_name_here"]:List Str).Nodup by decide +kernel) rfl (Or.inl rfl)) qej)))) (λ_ _ _ _=>qbo) (λ_ _ _ _=>(qbt qkx (qbt (show OpR _ _ (rIn K false) from qf2) (pv 1) (qhe (by exact qgn hr) (pv 2) (pv 3) (λ_ _=>rfl)) rfl) (qbt qkx (pv 0) qbg (qa2 _)) (qa2 _)))) qac)))
    (qaf (qcm (qhb PySem.F.plainAttrs_list PySem.F.slot_list_append PySem.F.type_list_append qd6 (pv 5) (qaa (pv 6) qac))))
    qau)))
   (qad (qaz (i:=7) nd rfl (Or.inl rfl) (qoc (pv 0) T.cl_Book (qck T) (hr.mono (by decide)) (qaa (qia (qdq ⟨rfl,rfl,rfl⟩) (qno T ne9 Z9 Y9) (hr.mono (by decide)) rfl .nil (qaa (pv 4) qac)) qac)))
   (qad (qbs (PW.pt (qkv (qdm (qcl (qan qd3 rfl T.b_isinstance qbj (qaa (pv 7) (qaa (qe2 (v:=.ty "list") rfl T.b_list qe5 rfl) qac))))) (qgv (qax (qj6 hr.units) (pv 7) (pv 5) (qa2 _)))))
    (qaf (qaw qi6))
    qau)
   (qad (qcm (qhb PySem.F.plainAttrs_list PySem.F.slot_list_append PySem.F.type_list_append qd6 (pv 7) (qaa qbg qac)))
   (qaf (qaw (qbt (qpe hr.units) (qoc (pv 0) T.cl_Book (qck T) (hr.mono (by decide)) (qaa (qia (qdq ⟨rfl,rfl,rfl⟩) (qno T ne9 Z9 Y9) (hr.mono (by decide)) rfl .nil (qaa (pv 4) qac)) qac)) (pv 5) (qa2 _)))))))))),?_⟩
  rw[qnn];refine ⟨rfl,_,rfl,_,rfl,lg,lm,_,_,rfl,SqL.of hg,SqL.of hm,qns (λs m=>tS (s ++ m)) (SqL.of hg) (SqL.of hm) (by omega) (λs m hp p H2 R Rn s2 hp2 hR=>?_) λpl H1 s1 _ e1=>?_⟩
  ·refine ⟨p,_,rfl,SqT.of hp2,rfl,_,_,rfl,_,_,rfl,rfl,qlw (qef ?_)⟩
   obtain ⟨z1,z2⟩:=List.of_mem_zip hp;have a1:s.length<=1:=by rcases sg.sg s z1 with rfl|rfl<;>simp
   have a2:=(sg.sm m z2).2.1;refine ⟨_,rfl,_,rfl,_,_,rfl,rfl,qdl (by rw[qbk,qbk];omega),?_⟩;rw[qmy];exact hR H2 (Same.refl _)
  have ew:((ss.zip wm).map λq=>tS (q.1 ++ q.2))=((ss.zip wm).map λp=>p.1 ++ p.2).map tS:=by rw[List.map_map];rfl
  rw[ew] at e1;have due:=sg.due;have gd:∀ w∈(ss.zip wm).map λp=>p.1 ++ p.2,GoodW w:=λw hw=>by
   obtain ⟨⟨s,m⟩,hp,rfl⟩:=List.mem_map.mp hw;exact (sg.good hp).1
  have lw2:((ss.zip wm).map λp=>p.1 ++ p.2).length<=2:=by rw[List.length_map,List.length_zip];omega
  generalize ((ss.zip wm).map λp=>p.1 ++ p.2)=ws at e1 due gd lw2
  obtain ⟨j1,j2⟩:=qkp ws λw hw=>(gd w hw).len.2
  have wj:=qlo gd;refine ⟨[32],ws,pl,rfl,rfl,SqL.of e1,by simp;omega,qav ?_⟩
  generalize qcw [32] ws=tx at j1 wj
  refine qcj (σ':=[some (.ref b),some (.ref dk),some (.ref lm),some (.ref lg),some (tS tx),none,none,none]) rfl ?_;refine ⟨qdl (by simp),λld H2 n2=>qav ?_⟩;refine qcj (σ':=[some (.ref b),some (.ref dk),some (.ref lm),some (.ref lg),some (tS tx),some (.ref ld),none,none]) rfl ?_;have fld:H ld=none:=s1.free n2.fresh;have s02:=s1.trans n2.same;obtain ⟨kvs,hk,en⟩:=w0.kd;refine ⟨_,rfl,dk,kvs,E'.map (·.1),rfl,.inl (s02 _ _ hk),en.keys,by simpa using (show E'.length<64 by omega),λl3 H3 n3=>?_⟩;have hld3:=n3.same _ _ n2.at_;have nl3:l3≠ld:=(qaj n2.at_ n3.fresh).symm;have s03:=s02.trans n3.same;refine ⟨l3,rfl,⟨_,SqL.of n3.at_⟩,qg7 (xs:=(nmC E').map tS) (λi σ H'=>∃ v6:Option V,Same H H'/\H' l3=some (.lst ((nmC E').map tS))/\H' ld=some (.lst ((((nmC E').take i).filter λx=>qo8 (ss.zip wm) (mkO E' x)).map tS))/\σ=[some (.ref b),some (.ref dk),some (.ref lm),some (.ref lg),some (tS tx),some (.ref ld),v6,none]) ⟨_,s03,n3.at_,hld3,rfl⟩ (λi σ H' _ ⟨_,_,z,_⟩=>SqL.of z) ?_ ?_⟩
  ·rintro i v σ H4 hi ⟨v6,s4,h4,hd4,rfl⟩
   obtain ⟨x,hxi,rfl⟩:∃ x,(nmC E')[i]?=some x/\v=tS x:=by
    rw[List.getElem?_map] at hi;obtain ⟨w,a,b⟩:=Option.map_eq_some_iff.mp hi;exact ⟨w,a,b.symm⟩
   have hx:=List.mem_of_getElem? hxi;obtain ⟨a0,ha0⟩:=qd1 hx;obtain ⟨v,a,ev,ha,l,rfl,hl⟩:=en.has (List.mem_map.mpr ⟨_,ha0,rfl⟩);rw[<- qei w0.ro.nd ha] at hl;refine qav ?_;refine qcj (σ':=[some (.ref b),some (.ref dk),some (.ref lm),some (.ref lg),some (tS tx),some (.ref ld),some (tS x),none]) rfl ?_;refine ⟨_,rfl,_,rfl,lg,lm,_,_,rfl,SqL.of (s4 _ _ hg),SqL.of (s4 _ _ hm),qns (λs m=>.bl (decide (m∈mkO E' x) == decide (s=[]))) (SqL.of (s4 _ _ hg)) (SqL.of (s4 _ _ hm)) (by omega) (λs m hp p H5 R Rn s5 hp5 hR=>?_) λp5 H5 s5 _ e5=>?_⟩
   ·have g:=DGet.k (k:=kS x) (s5 _ _ (s4 _ _ hk))
    rw[ev] at g;refine ⟨p,_,rfl,SqT.of hp5,rfl,_,_,rfl,_,_,rfl,rfl,qlw (qef ?_)⟩;refine ⟨_,rfl,_,rfl,_,rfl,dk,_,rfl,g,l,(mkO E' x).map tS,rfl,.inl (SqL.of (s5 _ _ (s4 _ _ hl))),rfl,qgk _,?_⟩;rw[if_neg (by decide),qnp];refine ⟨_,rfl,rfl,rfl,?_⟩;have:=hR H5 (Same.refl _);rw[ql6,qfc,show decide (tS s=V.str (S []))=decide (s=[]) from decide_eq_decide.mpr ⟨λe=>qhh (V.str.inj e),λe=>by rw[e]⟩];exact this
   ·refine ⟨p5,(ss.zip wm).map λp=>(decide (p.2∈mkO E' x) == decide (p.1=[])),rfl,SqL.of (by rw[List.map_map];exact e5),_,rfl,?_⟩
    rw[show ((ss.zip wm).map λp=>(decide (p.2∈mkO E' x) == decide (p.1=[]))).all id=qo8 (ss.zip wm) (mkO E' x) by unfold qo8;rw[List.all_map];rfl];have et:(nmC E').take (i+1)=(nmC E').take i ++ [x]:=by rw[List.take_add_one,hxi];rfl
    have s45:=s4.trans s5;have hd5:=s5 _ _ hd4;refine qk4 (λz=>?_) λz=>?_
    ·refine ⟨_,rfl,.inl ⟨rfl,_,SqL.of hd5⟩,_,rfl,ld,_,tS x,rfl,rfl,hd5,qdl ?_,λH6 b6 h6=>⟨_,λc o e=>b6 _ _ (s45 _ _ e) (qaj e fld),b6 _ _ (s5 _ _ h4) nl3,?_,rfl⟩⟩
     ·rw[List.length_map]
      refine Nat.le_trans (Nat.succ_le_succ (List.length_filter_le _ _)) ?_;rw[List.length_take,qfd];omega
     ·rw[h6,et,List.filter_append,List.map_append]
      simp[z]
    ·refine ⟨_,s45,s5 _ _ h4,?_,rfl⟩
     rw[hd5,et,List.filter_append,List.map_append]
     simp[z]
  rintro σ H4 ⟨v6,s4,_,hd4,rfl⟩;rw[List.length_map,List.take_length] at hd4;have nmS:∀ m∈(nmC E').filter λx=>qo8 (ss.zip wm) (mkO E' x),qap 12 m:=λm hm=>by
   obtain ⟨a,ha⟩:=qd1 (List.mem_filter.mp hm).1;exact w0.ro.nm _ ha
  have fe:(nmC E').filter (λx=>qgq (qdi ws) (qc3 ws) (mkO E' x))=(nmC E').filter λx=>qo8 (ss.zip wm) (mkO E' x):=List.filter_congr λx _=>due (mkO E' x)
  have lfl:((nmC E').filter λx=>qo8 (ss.zip wm) (mkO E' x)).length<=20:=Nat.le_trans (List.length_filter_le _ _) (by rw[qfd];exact hE)
  generalize (nmC E').filter (λx=>qo8 (ss.zip wm) (mkO E' x))=due1 at hd4 nmS fe lfl
  obtain ⟨wl,bl⟩:=qtd ws;have no:∀ {m:Str},¬ m = "kept_rolls" -> ¬ m = "kept_marks" -> ¬ m = "kept_edges" -> ¬ m = "kept_day" -> ¬ m = "kept_rule" -> (bof B.ru B.day B.le B.dm B.dr).lookup m=none:=λa b c d e=>qg2 _ _ _ _ _ a b c d e
  have txv:∀ {H:Hp},TextV H (tS tx):=.inl ⟨tx,rfl,by omega⟩;have tb4:=tb.same s4;have w4:=w0.same s4;obtain ⟨dx,hob⟩:=w4.bk.ob;have gx:∀ x,tS tx=.str (S x)->x=tx:=λx e=>(qeh e).symm
  refine ⟨_,rfl,b,dx,_,rfl,hob,no (by decide +kernel) (by decide +kernel) (by decide +kernel) (by decide +kernel) (by decide +kernel),_,rfl,tS tx,rfl,txv,λx ex _=>?_,λbad=>?_⟩
  case refine_2 =>
   exfalso
   rcases bad with e|⟨x,ex,ny⟩
   ·rcases e with e|⟨_,e⟩|⟨_,e⟩|⟨_,_,e,_⟩|⟨_,_,e,_⟩<;>cases e
   ·have:=gx x ex
    subst this;rw[wj] at ny;exact ny gd
  have:=gx x ex;subst this;rw[wj];refine ⟨tb4,λf5 H5 lw lb c sx5 tb5 hC5 hw5 hb5=>?_⟩;obtain ⟨ps4,hT4⟩:∃ ps,H4 T9=some (.tbl ps):=tb4.elim (λz=>⟨_,z⟩) fun ⟨_,z⟩=>⟨_,z.1⟩
  have n45:=SameN.ofX hT4 sx5;have w5:=w4.up n45;refine ⟨b,f5,B,E',rfl,w0.ro,.inl ⟨lw,lb,qdi ws,qc3 ws,w5.bk,hC5,hw5,hb5,by omega,by omega,λlf H6 s6 f6 e6=>qav ?_⟩⟩;rw[fe] at e6;refine qcj (σ':=[some (.ref b),some (.ref dk),some (.ref lm),some (.ref lg),some (tS x),some (.ref ld),v6,some (.ref lf)]) rfl ?_;refine ⟨_,rfl,_,_,_,_,rfl,.lst e6,qj8 K,_,rfl,qe1 ?_⟩;have hd6:=s6 _ _ (n45.lst hd4);refine ⟨_,rfl,_,rfl,qlu (neg:=true) nmS e6 hd6 ⟨_,rfl,qe1 ?_⟩⟩;refine ⟨_,rfl,.inl ⟨rfl,_,SqL.of e6⟩,lf,_,_,rfl,rfl,e6,qdl (by rw[List.length_map];omega),λH7 b7 h7=>?_⟩;have n57:SameN H5 H7:=λc o e _=>b7 _ _ (s6 _ _ e) (qaj e f6)
  have w7:=w5.up n57;have tb7:Tb1 T9 qd8 qgj c H7:=⟨b7 _ _ (s6 _ _ tb5.1) (qaj tb5.1 f6),b7 _ _ (s6 _ _ tb5.2) (qaj tb5.2 f6)⟩;obtain ⟨dx7,hob7⟩:=w7.bk.ob;refine ⟨_,rfl,b,dx7,_,rfl,hob7,no (by decide +kernel) (by decide +kernel) (by decide +kernel) (by decide +kernel) (by decide +kernel),_,rfl,tS x,rfl,txv,λy ey _=>?_,λbad=>?_⟩
  case refine_2 =>
   exfalso
   rcases bad with e|⟨y,ey,ny⟩
   ·rcases e with e|⟨_,e⟩|⟨_,e⟩|⟨_,_,e,_⟩|⟨_,_,e,_⟩<;>cases e
   ·have:=gx y ey
    subst this;rw[wj] at ny;exact ny gd
  have:=gx y ey;subst this;rw[wj];refine ⟨.inr ⟨c,tb7⟩,λf8 H8 lw8 lb8 c8 sx8 tb8 hC8 hw8 hb8=>?_⟩;have n78:=SameN.ofX tb7.1 sx8;refine ⟨b,f8,B,E',rfl,w0.ro,.inl ⟨lw8,lb8,qdi ws,qc3 ws,(w7.up n78).bk,hC8,hw8,hb8,by omega,by omega,λlg9 H9 s9 f9 e9=>?_⟩⟩;rw[fe] at e9;have hd9:=s9 _ _ (n78.lst (b7 _ _ hd6 (qaj (n45.lst hd4) f6)));refine ⟨_,rfl,qlu (neg:=false) nmS e9 hd9 (q H9 (λc' o n e=>s9 _ _ (sx8 _ _ n (b7 _ _ (s6 _ _ (sx5 _ _ n (s4 _ _ e))) (qaj (sx5 _ _ n (s4 _ _ e)) f6)))) (.inr ⟨c8,tb8.same s9⟩))⟩
end
section
variable {P:Program} {w:World} {K:Frag} {mg:Str->Option Value} {base:Heap} {C_Roll C_Rule C_Book C_BookError C_NoNumber C_NoRule C_Backward C_NoName C_NoMark:Addr}
theorem qi2 {H:Hp}:∀ {kvs:List (Key×V)} {E:Rows},Ents (λv ms=>TxtL H v (qcf ms)) kvs E->∃ cs:List Addr,kvs.map (·.2)=cs.map V.ref/\∀ (i:Nat) (p:List Nat×List (List Nat)),E[i]?=some p->∃ c,cs[i]?=some c/\H c=some (.lst ((qcf p.2).map tS))
 | _,_,.nil=>⟨[],rfl,λi p h=>by simp at h⟩
 | _,_,.cons b t=>by
  obtain ⟨cs,e,h⟩:=qi2 t;obtain ⟨_,c,ec,hc⟩:=b;refine ⟨c :: cs,by rw[List.map_cons,List.map_cons,e,ec],λi p hp=>?_⟩
  cases i with
  | zero=>cases hp;exact ⟨c,rfl,hc⟩
  | succ i=>exact h i p hp
theorem qo9 {H:Hp} {kvs:List (Key×V)} {E:Rows} {cs:List Addr} (en:Ents (λv ms=>TxtL H v (qcf ms)) kvs E) (e:kvs.map (·.2)=cs.map V.ref):∀ c∈cs,∃ p∈E,H c=some (.lst ((qcf p.2).map tS)):=λc hc=>by
 obtain ⟨i,hi⟩:=List.getElem?_of_mem hc;have h2:(kvs.map (·.2))[i]?=some (V.ref c):=by rw[e,List.getElem?_map,hi];rfl
 rw[List.getElem?_map] at h2;obtain ⟨⟨k,v⟩,h3,h4⟩:=Option.map_eq_some_iff.mp h2;obtain ⟨p,hp,_,c',e',h'⟩:=en.get h3;have h4:v=.ref c:=h4;rw[h4] at e'
 cases e'
 exact ⟨p,List.mem_of_getElem? hp,h'⟩
theorem qec {n:Int} {ms:List (List Nat)} (h:∀ m∈ms,qap n m):∀ m∈qcf ms,qap n m:=λm hm=>h m ((qbq _).mem_iff.mp hm)
structure Hrd (H:Hp) (E:Rows) (as:List Addr):Prop where
 ln:as.length=E.length
 at_:∀ (i:Nat) (a:Addr) (x:List Nat),as[i]?=some a->(nmC E)[i]?=some x->H a=some (.lst ((mkO E x).map tS))
theorem Hrd.mem {H:Hp} {E:Rows} {as:List Addr} (h:Hrd H E as) {a:Addr} (ha:a∈as):∃ p∈E,mkO E p.1=mkO E p.1/\H a=some (.lst ((mkO E p.1).map tS)):=by
 obtain ⟨i,hi⟩:=List.getElem?_of_mem ha;have li:i<(nmC E).length:=by rw[qfd,<- h.ln];exact (List.getElem?_eq_some_iff.mp hi).1
 have hx:=List.getElem?_eq_getElem li;obtain ⟨b,hb⟩:=qd1 (List.mem_of_getElem? hx);exact ⟨_,hb,rfl,h.at_ i a _ hi hx⟩
theorem Hrd.has {H:Hp} {E:Rows} {as:List Addr} (h:Hrd H E as) {p:List Nat×List (List Nat)} (hp:p∈E):∃ a∈as,H a=some (.lst ((mkO E p.1).map tS)):=by
 have hx:p.1∈nmC E:=(qbq _).mem_iff.mpr (List.mem_map.mpr ⟨p,hp,rfl⟩);obtain ⟨i,hi⟩:=List.getElem?_of_mem hx;have li:i<as.length:=by rw[h.ln,<- qfd];exact (List.getElem?_eq_some_iff.mp hi).1
 exact ⟨as[i],List.getElem_mem li,h.at_ i _ _ (List.getElem?_eq_getElem li) hi⟩
inductive qks (C CR R U9:Addr) (vs:List V) (H:Hp) (Q:VK) (E_:XK):Prop
 | mk:∀ (b dk:Addr) (B:BookD) (E:Rows) (mk:List Nat) (least:Int),vs=[.ref b,.ref dk,tS mk,.int least]->W64 C CR R H b B dk E->Tb U9 qps qgm H->(∀ H',SameX U9 H H'->Tb U9 qps qgm H'->Q (.bl true) H')->qks C CR R U9 vs H Q E_
theorem qhu (T:Txt K mg C_Roll C_Rule C_Book C_BookError C_NoNumber C_NoRule C_Backward C_NoName C_NoMark) {c9 T9 d9 U9:Addr} (ne9:T9≠U9) (Z9:∀ f,mg "sieve" = some (.ref f)->qkg K f c9 T9) (Y9:∀ f,mg "_law_own" = some (.ref f)->qkg K f d9 U9):qce P w K mg base 8 "_law_by_own" ["_law_book_here", "_law_kept", "_law_mark_here", "_law_least"] (qks C_Book C_Roll C_Rule U9):=by
 obtain ⟨f,fd,F,hm⟩:=T.f__law_by_own;have nd:=sc__law_by_own.nd;refine F.def_ hm (F.ok sc__law_by_own (λvs H Q E h=>?_) (λcdv A outer s H vs Q E hr h=>?_)) (F.binds λ_ _ _ _ _ _ us hl=>by obtain ⟨_,_,_,_,rfl⟩:=L2.lq4 hl;rfl)
 ·obtain ⟨b,dk,B,E',mk,least,rfl,_⟩:=h;rfl
 ·obtain ⟨b,dk,B,E',mk,least,rfl,w0,tb,q⟩:=h
  have hE:=w0.ro.ln;have ndE:=w0.ro.nd;have no:∀ {m:Str},¬ m = "kept_rolls" -> ¬ m = "kept_marks" -> ¬ m = "kept_edges" -> ¬ m = "kept_day" -> ¬ m = "kept_rule" -> (bof B.ru B.day B.le B.dm B.dr).lookup m=none:=λa b c d e=>qg2 _ _ _ _ _ a b c d e
  have mkS:∀ p∈E',∀ m∈mkO E' p.1,qap 8 m:=λp hp=>by
   rw[qei ndE (x:=p.1) (a:=p.2) hp];exact qec (w0.ro.ms p hp)
  refine ⟨_,(qad (qaz (i:=4) nd rfl (Or.inr rfl) (qc2 qac))
   (qad (qaz (i:=5) nd rfl (Or.inl rfl) (qia (qdq ⟨rfl,rfl,rfl⟩) (qlr T ne9 Z9 Y9) (hr.mono (by decide)) rfl .nil (qaa (pv 2) (qaa (pv 3) (qaa (pv 4) qac)))))
   (qad (qj9 (i:=6) (vars:=["_law_name_here"]) (frees:=["_law_least", "_law_mark_here", "_law_kept"]) (fv:=[3,2,1]) nd rfl (Or.inl rfl) rfl (qh9 rfl rfl (by decide +kernel) (by decide +kernel) (by intro p hp;simp only[List.mem_cons,List.not_mem_nil,or_false] at hp;rcases hp with rfl|rfl|rfl<;>rfl) rfl) ⟨⟨rfl,.inl rfl,rfl,.inl rfl⟩,⟨⟨rfl,.inl rfl,rfl,.inl rfl⟩,⟨⟨rfl,.inl rfl,rfl,.inl rfl⟩,trivial⟩⟩⟩ (qcd (qan (qb4 rfl) rfl T.b_sorted qc7 (qaa (pv 1) qac))) (qb0 (by decide)) (λ_ _ _ _=>(qaq (i:=0) (show (["_law_name_here", "_law_least", "_law_mark_here", "_law_kept"]:List Str).Nodup by decide +kernel) rfl (Or.inl rfl))) (λ_ _ _ _=>(qf7 (PW.pt (qrp (qax qrv (qan (show CallR _ _ (λxs H Q=>∃ p ys,xs=[V.ref p]/\(SqL K H p ys\/SqT K H p ys)/\Q (V.int ys.length) H) from qa3) rfl T.b_len qc6 (qaa (qhe (by exact qgn hr) (pv 3) (pv 0) (λ_ _=>rfl)) qac)) (pv 1) (qa2 _)) (qpw (qax (show OpR _ _ (rIn K true) from qfg) (pv 2) (qhe (by exact qgn hr) (pv 3) (pv 0) (λ_ _=>rfl)) rfl)))))) (λ_ _ _ _=>(pv 0)))
   (qad (qbs (PW.pt (qkv (qax (qj6 hr.units) (qoc (pv 0) T.cl_Book (qck T) (hr.mono (by decide)) (qaa (pv 5) qac)) (pv 6) (qa2 _)) (qgv (qax (qj6 hr.units) (qoc (pv 0) T.cl_Book (qck T) (hr.mono (by decide)) (qaa (pv 5) qac)) (pv 6) (qa2 _)))))
    (qaf (qaw qi6))
    qau)
   (qad (qfv PassesOwn.never rfl (qcd (pv 4)) (qaq (i:=7) nd rfl (Or.inl rfl))
    (qaf (qbs (qax (qnf hr.units) (pv 7) (qjj rfl rfl T.b_list (pv 1)) rfl)
    (qaf (qaw qi6))
    qau)))
   (qaf (qaw (qan (qd7 rfl) rfl T.b_all qgx (qaa (qou (qem (vars:=["_law_marks"]) (frees:=["_law_heard"]) (fv:=[4]) rfl (qh9 rfl rfl (by decide +kernel) (by decide +kernel) (by intro p hp;simp only[List.mem_cons,List.not_mem_nil,or_false] at hp;rcases hp with rfl<;>rfl) rfl) ⟨⟨rfl,.inl rfl,rfl,.inl rfl⟩,trivial⟩ (qlf (pv 1)) (qb0 (by decide)) (λ_ _ _ _=>(qaq (i:=0) (show (["_law_marks", "_law_heard"]:List Str).Nodup by decide +kernel) rfl (Or.inl rfl))) (λ_ _ _ _=>qbo) (λ_ _ _ _=>(qbt (qs3 hr.units) (pv 0) (pv 1) rfl)))) qac))))))))),?_⟩
  refine ⟨qdl (by simp),λph H1 n1=>qav ?_⟩;refine qcj (σ':=[some (.ref b),some (.ref dk),some (tS mk),some (.int least),some (.ref ph),none,none,none]) rfl ?_;have tb1:=tb.same n1.same;obtain ⟨ps1,hT1⟩:∃ ps,H1 U9=some (.tbl ps):=tb1.elim (λz=>⟨_,z⟩) fun ⟨_,z⟩=>⟨_,z.1⟩
  refine ⟨_,rfl,_,rfl,_,rfl,tS mk,.int least,ph,rfl,tb1,λfc c2 H2 sx2 tb2 hC2=>qav ?_⟩;refine qcj (σ':=[some (.ref b),some (.ref dk),some (tS mk),some (.int least),some (.ref ph),some (.ref fc),none,none]) rfl ?_;have n12:=SameN.ofX hT1 sx2;have hph2:=n12.lst n1.at_;have w2:=(w0.same n1.same).up n12;obtain ⟨kvs,hk2,en2⟩:=w2.kd;refine ⟨_,rfl,dk,kvs,E'.map (·.1),rfl,.inl hk2,en2.keys,by simpa using (show E'.length<64 by omega),λl3 H3 n3=>?_⟩;refine ⟨l3,rfl,⟨_,SqL.of n3.at_⟩,qjq (ws:=nmC E') tS (λx=>qo7 mk least (mkO E' x)) (SqL.of n3.at_) (by rw[qfd];omega) (λx hx H4 R s4 hR=>?_) λld H4 s4 f4 e4=>?_⟩
  ·obtain ⟨a0,ha0⟩:=qd1 hx
   have s24:=n3.same.trans s4;obtain ⟨v,a,ev,ha,l,rfl,hl⟩:=en2.has (List.mem_map.mpr ⟨_,ha0,rfl⟩);rw[<- qei ndE ha] at hl;have g:=DGet.k (k:=kS x) (s24 _ _ hk2);rw[ev] at g;refine qav ?_;refine ⟨_,rfl,_,rfl,dk,_,rfl,g,l,_,rfl,.inl (SqL.of (s24 _ _ hl)),_,rfl,_,_,rfl,rfl,_,rfl,?_⟩;have r4:=hR H4 (Same.refl _);rw[List.length_map];dsimp only
   by_cases z:least<=(mkO E' x).length
   ·rw[if_pos (decide_eq_true z)]
    refine ⟨_,rfl,_,rfl,_,rfl,dk,_,rfl,g,l,_,rfl,.inl (SqL.of (s24 _ _ hl)),rfl,qgk _,_,rfl,?_⟩;rw[if_pos rfl,qnp];unfold qo7 at r4;rw[decide_eq_true z,Bool.true_and] at r4;refine qk4 (λy=>?_) λy=>?_
    ·rw[if_pos y] at r4
     exact ⟨_,rfl,r4⟩
    ·rw[if_neg y] at r4
     exact r4
   ·rw[if_neg λy=>z (of_decide_eq_true y)]
    unfold qo7 at r4;rw[decide_eq_false z,Bool.false_and,if_neg (by decide)] at r4;exact qe1 r4
  refine qav ?_;refine qcj (σ':=[some (.ref b),some (.ref dk),some (tS mk),some (.int least),some (.ref ph),some (.ref fc),some (.ref ld),none]) rfl ?_;have s24:=n3.same.trans s4;have hph4:=s24 _ _ hph2;have nld:ld≠ph:=(qaj (n3.same _ _ hph2) f4).symm;have C4:qtg H4 fc [tS mk,.int least,.ref ph]:=hC2.same s24;have tb4:=tb2.same s24;have fph:H ph=none:=n1.fresh;have k04:∀ c o,c≠U9->H c=some o->H4 c=some o:=λc o n e=>s24 _ _ (sx2 _ _ n (n1.same _ _ e))
  have nN:∀ {G:Hp},(∀ c o,H4 c=some o->c≠ph->G c=some o)->SameN H (rm G ph):=fun {G} kp c o e n=>qgl (kp _ _ (s24 _ _ (n12 _ _ (n1.same _ _ e) n)) (qaj e fph)) (qaj e fph)
  have nmS:∀ m∈(nmC E').filter λx=>qo7 mk least (mkO E' x),qap 12 m:=λm hm=>by
   obtain ⟨a,ha⟩:=qd1 (List.mem_filter.mp hm).1;exact w0.ro.nm _ ha
  have A4:=w0.bk.up (nN (G:=H4) λc o e _=>e);obtain ⟨dx,hob⟩:=A4.ob;refine ⟨_,rfl,b,dx,_,rfl,qkq _ _ hob,no (by decide +kernel) (by decide +kernel) (by decide +kernel) (by decide +kernel) (by decide +kernel),_,rfl,b,fc,B,E',rfl,w0.ro,.inr ⟨ph,mk,least,[],A4,C4,hph4,by simp,λl5 H5 as1 b5 f5 e5 h5 la1 ha1=>?_⟩⟩;have hld5:=b5 _ _ e4 nld;refine ⟨_,rfl,qlu (neg:=true) nmS e5 hld5 ⟨_,rfl,qe1 ?_⟩⟩;have A5:=w0.bk.up (nN (G:=H5) b5);obtain ⟨dx5,hob5⟩:=A5.ob;have C5:qtg H5 fc [tS mk,.int least,.ref ph]:=C4.up λc φ e=>b5 _ _ e (λz=>by rw[z,hph4] at e;cases e)
  refine ⟨_,rfl,b,dx5,_,rfl,qkq _ _ hob5,no (by decide +kernel) (by decide +kernel) (by decide +kernel) (by decide +kernel) (by decide +kernel),_,rfl,b,fc,B,E',rfl,w0.ro,.inr ⟨ph,mk,least,_,A5,C5,h5,by simp;omega,λl6 H6 as2 b6 f6 e6 h6 la2 ha2=>?_⟩⟩;have hld6:=b6 _ _ hld5 nld;refine ⟨_,rfl,qlu (neg:=true) nmS e6 hld6 ⟨_,rfl,qe1 ?_⟩⟩;have b46:But ph H4 H6:=λc o e n=>b6 _ _ (b5 _ _ e n) n
  have w6:=(w0.up (nN (G:=H6) b46)).same qkq;have hd1:Hrd H6 E' as1:=⟨la1,λi a x e1 e2=>by
   obtain ⟨z1,z2⟩:=ha1 i a x e1 e2;exact b6 _ _ z2 (λz=>by rw[z,hph4] at z1;cases z1)⟩
  have hd2:Hrd H6 E' as2:=⟨la2,λi a x e1 e2=>(ha2 i a x e1 e2).2⟩;rw[List.nil_append,<- List.map_append] at h6;have hA:∀ a∈as1 ++ as2,∃ p∈E',H6 a=some (.lst ((mkO E' p.1).map tS)):=λa ha=>by
   rcases List.mem_append.mp ha with z|z
   ·obtain ⟨p,hp,_,e⟩:=hd1.mem z
    exact ⟨p,hp,e⟩
   ·obtain ⟨p,hp,_,e⟩:=hd2.mem z
    exact ⟨p,hp,e⟩
  have tb6:Tb1 U9 qps qgm c2 H6:=⟨b46 _ _ tb4.1 (λz=>by have:=tb4.1;rw[z,hph4] at this;cases this),b46 _ _ tb4.2 (λz=>by have:=tb4.2;rw[z,hph4] at this;cases this)⟩;have x06:SameX U9 H H6:=λc o n e=>b46 _ _ (k04 _ _ n e) (qaj e fph)
  have hh:∀ p∈E',∃ a∈as1 ++ as2,H6 a=some (.lst ((mkO E' p.1).map tS)):=λp hp=>by
   obtain ⟨a,ha,e⟩:=hd1.has hp;exact ⟨a,List.mem_append_left _ ha,e⟩
  generalize as1 ++ as2=as at h6 hA hh
  obtain ⟨kv6,hk6,en6⟩:=w6.kd;obtain ⟨cs,ecs,hcs⟩:=qi2 en6;have hcm:=qo9 en6 ecs;clear hd1 hd2 ha1 ha2 la1 la2 A5 A4 C4 C5 hob hob5 e5 e6 h5;dsimp only;refine ⟨_,rfl,ph,rfl,⟨_,SqL.of h6⟩,qg7 (xs:=as.map V.ref) (λi σ H'=>∃ v7:Option V,Same H6 H'/\σ=[some (.ref b),some (.ref dk),some (tS mk),some (.int least),some (.ref ph),some (.ref fc),some (.ref ld),v7]) ⟨_,Same.refl _,rfl⟩ (λi σ H' _ ⟨_,z,_⟩=>SqL.of (z _ _ h6)) ?_ ?_⟩
  ·rintro i v σ H7 hi ⟨v7,s7,rfl⟩
   obtain ⟨a,hai,rfl⟩:∃ a,as[i]?=some a/\v=.ref a:=by
    rw[List.getElem?_map] at hi;obtain ⟨w,a,b⟩:=Option.map_eq_some_iff.mp hi;exact ⟨w,a,b.symm⟩
   obtain ⟨p,hp,ha⟩:=hA a (List.mem_of_getElem? hai);refine qav ?_;refine qcj (σ':=[some (.ref b),some (.ref dk),some (tS mk),some (.int least),some (.ref ph),some (.ref fc),some (.ref ld),some (.ref a)]) rfl ?_;refine ⟨_,rfl,_,rfl,dk,kv6,rfl,s7 _ _ hk6,λlv H8 n8=>?_⟩;have s68:=s7.trans n8.same;have ev:=n8.at_;rw[ecs] at ev;refine ⟨a,lv,mkO E' p.1,cs,rfl,rfl,⟨s68 _ _ ha,qlt _ (mkS p hp),ev,λc hc=>?_⟩,λbb hb=>⟨_,rfl,?_⟩⟩
   ·obtain ⟨p',hp',e'⟩:=hcm c hc
    exact ⟨_,s68 _ _ e',qlt _ (qec (w0.ro.ms p' hp'))⟩
   ·have bt:bb=true:=hb.mpr (by
     obtain ⟨k,hk⟩:=List.getElem?_of_mem hp;obtain ⟨c,hc1,hc2⟩:=hcs k p hk;refine ⟨c,List.mem_of_getElem? hc1,?_⟩;rw[qei ndE (x:=p.1) (a:=p.2) hp];exact s68 _ _ hc2)
    subst bt;exact qe1 ⟨_,s68,rfl⟩
  rintro σ H7 ⟨v7,s7,rfl⟩;have hk7:=s7 _ _ hk6;refine ⟨_,rfl,dk,kv6,rfl,hk7,λob nf=>qlg (λi ys H'=>Same (upd H7 dk (.frz ob (.dK kv6))) H'/\ys=(List.replicate i true).map V.bl) ?_ nf ⟨Same.refl _,rfl⟩ (λi ys H' h'=>⟨h'.1 _ _ qat,by rw[h'.2];simp⟩) ?_ ?_⟩
  ·rw[en6.len,sizeLine_eq];omega
  ·rintro i k v ys H8 hkv ⟨s8,rfl⟩
   obtain ⟨p,hp,_,c,rfl,hc⟩:=en6.get hkv;have hpm:=List.mem_of_getElem? hp;have u8:∀ c o,H6 c=some o->c≠dk->H8 c=some o:=λc o e n=>s8 _ _ (by rw[qam n];exact s7 _ _ e)
   have ne_l:∀ {c:Addr} {xs:List V},H6 c=some (.lst xs)->c≠dk:=fun {c xs} e z=>by rw[z,hk6] at e;cases e
   refine qav (qlw (qef ?_));refine ⟨_,rfl,_,rfl,c,ph,qcf p.2,as,rfl,rfl,⟨u8 _ _ hc (ne_l hc),qlt _ (qec (w0.ro.ms p hpm)),u8 _ _ h6 (ne_l h6),λa ha=>?_⟩,λbb hb=>⟨s8,?_⟩⟩
   ·obtain ⟨p',hp',e'⟩:=hA a ha
    exact ⟨_,u8 _ _ e' (ne_l e'),qlt _ (mkS p' hp')⟩
   ·have bt:bb=true:=hb.mpr (by
     obtain ⟨a,ha,e⟩:=hh p hpm;rw[qei ndE (x:=p.1) (a:=p.2) hpm] at e;exact ⟨a,ha,u8 _ _ e (ne_l e)⟩)
    subst bt;rw[List.replicate_succ',List.map_append];rfl
  ·rintro ys H8 p H9 ⟨s8,rfl⟩ n9 hf
   have th:=qii hk7 (s8.trans n9.same);have np:p≠dk:=λz=>by have:=n9.at_;rw[z,hf] at this;cases this
   refine ⟨p,List.replicate kv6.length true,rfl,SqL.of (by rw[qam np];exact n9.at_),?_⟩;rw[show (List.replicate kv6.length true).all id=true from List.all_eq_true.mpr λz hz=>(List.mem_replicate.mp hz).2];exact q _ (SameX.trans (SameX.trans x06 (.of s7)) (.of th)) (.inr ⟨c2,(tb6.same s7).same th⟩)
end
section
variable {P:Program} {w:World} {K:Frag} {mg:Str->Option Value} {base:Heap} {C_Roll C_Rule C_Book C_BookError C_NoNumber C_NoRule C_Backward C_NoName C_NoMark:Addr}
def qnt (K:Frag) (T9 U9:Addr):Sp:=λvs H Q _=>∃ (a:Addr) (ns:List Int),vs=[.ref a]/\qol T9 H/\qol U9 H/\SqL K H a (ns.map V.int)/\ns.length<=63/\∀ H',Q (.bl true) H'
theorem qpu {T:Addr} {pos:Pos} {qq:Str} {H:Hp} (h:Tb T pos qq H):∃ ps,H T=some (.tbl ps):=h.elim (λz=>⟨_,z⟩) fun ⟨_,z⟩=>⟨_,z.1⟩
theorem qkt {T U:Addr} {pos:Pos} {qq:Str} {H H':Hp} {ps:Array Value} (h:Tb U pos qq H) (n:U≠T) (hT:H T=some (.tbl ps)) (s:SameX T H H'):Tb U pos qq H':=by
 rcases h with h|⟨c,h1,h2⟩
 ·exact .inl (s _ _ n h)
 ·exact .inr ⟨c,s _ _ n h1,s _ _ (λz=>by rw[z,hT] at h2;cases h2) h2⟩
theorem qwj (m:Int):∃ s,atI [V.str (Str.ofString ""),V.str (Str.ofString ""),V.str (Str.ofString "-")] (m % 3)=some (tS s)/\(s=[]\/s=[45]):=by
 rw[qfc,qjp]
 rcases (show m % 3=0\/m % 3=1\/m % 3=2 by omega) with e|e|e<;>rw[e]
 ·exact ⟨[],rfl,.inl rfl⟩
 ·exact ⟨[],rfl,.inl rfl⟩
 ·exact ⟨[45],rfl,.inr rfl⟩
theorem qwk (m:Int):∃ s,atI [V.str (Str.ofString ""),V.str (Str.ofString "-")] (m % 2)=some (tS s)/\(s=[]\/s=[45]):=by
 rw[qfc,qjp]
 rcases (show m % 2=0\/m % 2=1 by omega) with e|e<;>rw[e]
 ·exact ⟨[],rfl,.inl rfl⟩
 ·exact ⟨[45],rfl,.inr rfl⟩
theorem qwl (x y:List Nat) (m:Int) (hx:qap 8 x) (hy:qap 8 y):∃ wm:List (List Nat),qlv [tS x,tS y] none (some (m % 3))=wm.map tS/\wm.length<=2/\∀ w∈wm,qap 8 w:=by
 rcases (show m % 3=0\/m % 3=1\/m % 3=2 by omega) with e|e|e<;>rw[e]
 ·exact ⟨[],rfl,by simp,by simp⟩
 ·exact ⟨[x],rfl,by simp,by simpa using hx⟩
 ·exact ⟨[x,y],rfl,by simp,by simpa using ⟨hx,hy⟩⟩
theorem qu5 (T:Txt K mg C_Roll C_Rule C_Book C_BookError C_NoNumber C_NoRule C_Backward C_NoName C_NoMark) {c9 T9 d9 U9:Addr} (ne9:T9≠U9) (Z9:∀ f,mg "sieve" = some (.ref f)->qkg K f c9 T9) (Y9:∀ f,mg "_law_own" = some (.ref f)->qkg K f d9 U9) {f:Addr} {fd:FuncData} (F:Fun K "law" "law" qlj f fd):qff P w K mg base CX0 12 f fd ["_law_script"] (qnt K T9 U9):=by
 have nd:=sc_law.nd;refine F.ok sc_law (λvs H Q E h=>?_) (λcdv A outer s H vs Q E hr h=>?_)
 ·obtain ⟨a,ns,rfl,_⟩:=h;rfl
 ·obtain ⟨a,ns,rfl,hT,hU,hS,hn,k⟩:=h
  refine ⟨_,(qad (qrr (qa7 (qju T) (hr.mono (by decide)) rfl (qaa (pv 0) qac)) (qfu rfl (qbf (qaq (i:=1) nd rfl (Or.inl rfl)) (qbf (qaq (i:=2) nd rfl (Or.inl rfl)) qej))))
   (qad (qaz (i:=3) nd rfl (Or.inl rfl) (qa7 (qb5 T) (hr.mono (by decide)) rfl (qaa (pv 0) (qaa qah qac))))
   (qad (qfv PassesOwn.never rfl (qdn rfl T.b_range (qaa qah qac)) (qaq (i:=4) nd rfl (Or.inl rfl))
    (qad (qaz (i:=5) nd rfl (Or.inl rfl) (qa7 (qa5 T) (hr.mono (by decide)) rfl (qaa (qa7 (qb5 T) (hr.mono (by decide)) rfl (qaa (pv 0) (qaa qah qac))) (qaa (pv 4) qac))))
   (qad (qaz (i:=6) nd rfl (Or.inl rfl) (qch qhg (qc2 (qaa (qa7 (qdj T) (hr.mono (by decide)) rfl (qaa (pv 3) (qaa (qas qbc (pv 5) qah) qac))) (qaa (qa7 (qdj T) (hr.mono (by decide)) rfl (qaa (pv 3) (qaa (qas qbc (qas qek (pv 5) qah) qah) qac))) qac))) qdd (qde (qas qbc (qas qek (pv 5) qah) qah))))
   (qad (qaz (i:=7) nd rfl (Or.inl rfl) (qc2 (qaa (qel qf0 (qc2 (qaa qbg (qaa qbg (qaa qbg qac)))) (qas qbc (qas qek (pv 5) qah) qah) (λ_ _=>rfl)) (qaa (qel qf0 (qc2 (qaa qbg (qaa qbg qac))) (qas qbc (qas qek (pv 5) qah) qah) (λ_ _=>rfl)) qac))))
   (qad (qbs (qdm (qcl (qa7 (qgs T ne9 Z9 Y9) (hr.mono (by decide)) rfl (qaa (pv 1) (qaa (pv 2) (qaa (pv 6) (qaa (pv 7) qac)))))))
    (qaf (qaw qi6))
    qau)
   (qaf (qbs (qdm (qcl (qa7 (qhu T ne9 Z9 Y9) (hr.mono (by decide)) rfl (qaa (pv 1) (qaa (pv 2) (qaa (qa7 (qdj T) (hr.mono (by decide)) rfl (qaa (pv 3) (qaa (qas qbc (pv 5) qah) qac))) (qaa (qas qbc (qas qek (pv 5) qah) qah) qac)))))))
    (qaf (qaw qi6))
    qau)))))))
   (qad (qor (qfv PassesOwn.never rfl (qna (pv 2)) (qfu rfl (qbf (qaq (i:=8) nd rfl (Or.inl rfl)) (qbf (qaq (i:=6) nd rfl (Or.inl rfl)) qej)))
    (qaf (qbs (qax (qj6 hr.units) (qmx (qdq ⟨rfl,rfl,rfl⟩) (pv 1) T.cl_Book (qd0 T) (hr.mono (by decide)) .nil (qaa (pv 8) qac)) (pv 6) (qa2 _))
    (qaf (qaw qi6))
    qau))))
   (qaf (qaw (qbt (qpe hr.units) (qh8 (pv 1) T.cl_Book (qfm T) (hr.mono (by decide))) (qan (qb4 rfl) rfl T.b_sorted qc7 (qaa (pv 2) qac)) (qa2 _)))))))),?_⟩
  refine ⟨_,rfl,a,ns,rfl,hS,λb B dk E' t H1 s1 ht w1=>?_⟩;refine ⟨t,_,rfl,SqT.of ht,rfl,_,_,rfl,_,_,rfl,rfl,?_⟩;refine qcj (σ':=[some (.ref a),some (.ref b),some (.ref dk),none,none,none,none,none,none]) rfl ?_;have hS1:=qeo s1 hS;have tT:Tb T9 qd8 qgj H1:=.inl (s1 _ _ hT);have tU:Tb U9 qps qgm H1:=.inl (s1 _ _ hU);refine ⟨_,rfl,a,ns,0,rfl,hS1,by decide,qav ?_⟩
  generalize ns[(0:Int).toNat]?.getD 0=one
  refine qcj (σ':=[some (.ref a),some (.ref b),some (.ref dk),some (.int one),none,none,none,none,none]) rfl ?_;have hE:=w1.ro.ln;have no:∀ {m:Str},¬ m = "kept_rolls" -> ¬ m = "kept_marks" -> ¬ m = "kept_edges" -> ¬ m = "kept_day" -> ¬ m = "kept_rule" -> (bof B.ru B.day B.le B.dm B.dr).lookup m=none:=λa b c d e=>qg2 _ _ _ _ _ a b c d e
  clear s1 hS hT hU ht;refine ⟨_,rfl,by decide,by decide,qhy (n:=4) (λi σ H'=>∃ v4 v5 v6 v7:Option V,SqL K H' a (ns.map V.int)/\W64 C_Book C_Roll C_Rule H' b B dk E'/\Tb T9 qd8 qgj H'/\Tb U9 qps qgm H'/\σ=[some (.ref a),some (.ref b),some (.ref dk),some (.int one),v4,v5,v6,v7,none]) ⟨_,_,_,_,hS1,w1,tT,tU,rfl⟩ ?_ ?_⟩
  ·rintro i σ H2 hi ⟨v4,v5,v6,v7,hS2,w2,tT2,tU2,rfl⟩
   refine qav ?_;refine qcj (σ':=[some (.ref a),some (.ref b),some (.ref dk),some (.int one),some (.int (0+i)),v5,v6,v7,none]) rfl ?_;refine ⟨_,rfl,a,ns,1,rfl,hS2,by decide,_,rfl,_,_,rfl,by omega,by omega,λm _ _=>qav ?_⟩;refine qcj (σ':=[some (.ref a),some (.ref b),some (.ref dk),some (.int one),some (.int (0+i)),some (.int m),v6,v7,none]) rfl ?_;refine ⟨_,rfl,_,rfl,_,_,rfl,rfl,by decide,one,_,rfl,λH3 s3 sw1=>?_⟩;refine ⟨_,rfl,_,rfl,_,_,rfl,rfl,by walk_at "c",_,_,rfl,rfl,by decide,one,_,rfl,λH4 s4 sw2=>⟨qdl (by simp),λl5 H5 n5=>?_⟩⟩;obtain ⟨wm,ewm,lwm,swm⟩:=qwl _ _ (m / 36) sw1 sw2;refine ⟨_,rfl,_,_,rfl,rfl,by walk_at "c",_,_,rfl,rfl,by decide,_,rfl,l5,_,rfl,SqL.of n5.at_,λlm H6 n6=>qav ?_⟩;rw[ewm] at n6;refine qcj (σ':=[some (.ref a),some (.ref b),some (.ref dk),some (.int one),some (.int (0+i)),some (.int m),some (.ref lm),v7,none]) rfl ?_;have s26:=s3.trans (s4.trans (n5.same.trans n6.same))
   replace hS2:=qeo s26 hS2
   replace w2:=w2.same s26
   replace tT2:=tT2.same s26
   replace tU2:=tU2.same s26
   have hm6:=n6.at_;clear s26 n6 n5 s4 s3 sw1 sw2 ewm;obtain ⟨g1,eg1,hg1⟩:=qwj (m / 108);obtain ⟨g2,eg2,hg2⟩:=qwk (m / 324);refine ⟨qdl (by simp),λp7 H7 n7=>⟨_,rfl,_,_,rfl,rfl,by walk_at "c",_,_,rfl,rfl,by decide,p7,_,_,_,rfl,rfl,SqL.of n7.at_,eg1,?_⟩⟩;refine ⟨qdl (by simp),λp8 H8 n8=>⟨_,rfl,_,_,rfl,rfl,by walk_at "c",_,_,rfl,rfl,by decide,p8,_,_,_,rfl,rfl,SqL.of n8.at_,eg2,qdl (by simp),λlg H9 n9=>qav ?_⟩⟩;refine qcj (σ':=[some (.ref a),some (.ref b),some (.ref dk),some (.int one),some (.int (0+i)),some (.int m),some (.ref lm),some (.ref lg),none]) rfl ?_;have s69:=n7.same.trans (n8.same.trans n9.same)
   replace hS2:=qeo s69 hS2
   replace w2:=w2.same s69
   replace tT2:=tT2.same s69
   replace tU2:=tU2.same s69
   have hm9:=s69 _ _ hm6;have hg9:=n9.at_;clear s69 n9 n8 n7 hm6;have sgm:SgM [g1,g2] wm:=⟨λs hs=>by
    simp only[List.mem_cons,List.not_mem_nil,or_false] at hs
    rcases hs with rfl|rfl
    ·exact hg1
    ·exact hg2,swm,by simp,lwm⟩
   refine ⟨_,rfl,_,rfl,_,rfl,_,rfl,b,dk,lm,lg,B,E',[g1,g2],wm,rfl,w2,hm9,hg9,sgm,tT2,λH10 sx10 tT10=>⟨_,rfl,qe1 ?_⟩⟩;obtain ⟨ps9,hT9⟩:=qpu tT2;have n10:=SameN.ofX hT9 sx10
   replace hS2:=n10.seq hS2
   replace w2:=w2.up n10
   replace tU2:=qkt tU2 ne9.symm hT9 sx10
   refine ⟨_,rfl,_,rfl,_,rfl,_,rfl,_,_,rfl,rfl,by decide,one,_,rfl,λH11 s11 _=>?_⟩
   replace hS2:=qeo s11 hS2
   replace w2:=w2.same s11
   replace tU2:=tU2.same s11
   replace tT10:=tT10.same s11
   refine ⟨_,rfl,_,_,rfl,rfl,by walk_at "c",_,_,rfl,rfl,by decide,b,dk,B,E',_,_,rfl,w2,tU2,λH12 sx12 tU12=>⟨_,rfl,qe1 ?_⟩⟩;obtain ⟨ps11,hU11⟩:=qpu tU2;have n12:=SameN.ofX hU11 sx12;exact ⟨_,_,_,_,n12.seq hS2,w2.up n12,qkt tT10 ne9 hU11 sx12,tU12,rfl⟩
  rintro σ H2 ⟨v4,v5,v6,v7,hS2,w2,tT2,tU2,rfl⟩;clear tT2 tU2 hS2 tT tU hS1;obtain ⟨kvs,hk2,en2⟩:=w2.kd;have ndE:=w2.ro.nd;refine qld ⟨_,rfl,dk,kvs,rfl,hk2,λob nf=>?_⟩ (λmo ⟨v,e,z⟩=>⟨v,e,mo _ _ z⟩)
  generalize hf:upd H2 dk (.frz ob (.dK kvs))=HF
  have bf:But dk H2 HF:=by rw[<- hf];exact qe6
  have df:HF dk=some (.frz ob (.dK kvs)):=by rw[<- hf];exact qat
  have AF:=w2.bk.butK bf hk2 w2.n1 w2.n2;have enF:Ents (λv ms=>TxtL HF v (qcf ms)) kvs E':=en2.imp λv ms z=>z.butK bf hk2
  refine ⟨λi σ H3=>Same HF H3/\∃ v4 v5 v6 v7 v8:Option V,σ=[some (.ref a),some (.ref b),some (.ref dk),some (.int one),v4,v5,v6,v7,v8],⟨Same.refl _,_,_,_,_,_,rfl⟩,λi σ H3 z=>z.1 _ _ df,?_,?_⟩
  ·rintro i kk v σ H3 p H4 ⟨s3,v4,v5,v6,v7,v8,rfl⟩ hi m4
   obtain ⟨⟨x,ms⟩,he,rfl,lm,rfl,hlm⟩:=enF.get hi;have hem:=List.mem_of_getElem? he;have s4:=s3.trans m4.same;refine ⟨p,_,rfl,SqT.of m4.at_,rfl,_,_,rfl,_,_,rfl,rfl,?_⟩;refine qcj (σ':=[some (.ref a),some (.ref b),some (.ref dk),some (.int one),v4,v5,some (.ref lm),v7,some (tS x)]) rfl ?_;have A4:=AF.same s4;obtain ⟨dx4,hob4⟩:=A4.ob;have sx:qap 12 x:=w2.ro.nm _ hem;refine ⟨_,rfl,b,dx4,_,rfl,hob4,no (by decide +kernel) (by decide +kernel) (by decide +kernel) (by decide +kernel) (by decide +kernel),_,rfl,b,B,E',tS x,rfl,A4,.inl ⟨x,rfl,by have:=sx.2.1;omega⟩,λy a' ey hy ha l5 H5 s5 f5 h5=>?_,λnin=>absurd ⟨x,rfl,sx,List.mem_map.mpr ⟨_,hem,rfl⟩⟩ nin⟩;have ey:=qeh ey;subst ey;rw[<- qei ndE ha,qei ndE hem] at h5;refine ⟨_,rfl,qlu (neg:=true) (qec (w2.ro.ms _ hem)) h5 (s5 _ _ (s4 _ _ hlm)) ⟨_,rfl,qe1 ?_⟩⟩;exact ⟨s4.trans s5,_,_,_,_,_,rfl⟩
  ·rintro σ H3 ⟨s3,v4,v5,v6,v7,v8,rfl⟩
   have th:Same H2 (upd H3 dk (.dK kvs)):=qii hk2 (by rw[hf];exact s3);have w3:=w2.same th;obtain ⟨dx3,hob3⟩:=w3.bk.ob;obtain ⟨kv3,hk3,en3⟩:=w3.kd;refine ⟨_,rfl,b,dx3,_,rfl,hob3,no (by decide +kernel) (by decide +kernel) (by decide +kernel) (by decide +kernel) (by decide +kernel),b,B,E',rfl,w3.bk,by omega,λl4 H4 n4=>?_⟩;refine ⟨_,rfl,dk,kv3,E'.map (·.1),rfl,.inl (n4.same _ _ hk3),en3.keys,by simpa using (show E'.length<64 by omega),λl5 H5 n5=>?_⟩;refine qlu (neg:=false) (n:=12) (λm hm=>?_) (n5.same _ _ n4.at_) n5.at_ (k H5);obtain ⟨p,hp,rfl⟩:=List.mem_map.mp ((qbq _).mem_iff.mp hm);exact w2.ro.nm p hp
end
theorem walk {l:PySem.W.OpenLaw} {q:Program} {loose:List Str} {XP:(Str->Option Value)->Heap->Prop} {YP:World->Heap->Prop} {d d9 e9:DefRec} {K:Params->Frag} (hn:l.most=some 63) (hdf:d.params.defaults=[]) (hdn:d.name = "law") (h9:(PyProof.Rows.recsOf q).find? (λe=>e.name == ("sieve" : Str))=some d9) (i9:(PyProof.Rows.recsOf q).find? (λe=>e.name == ("_law_own" : Str))=some e9)
  (hY:∀ (w:World) (h:Heap),YP w h->(K w.params).In h)
  (F:∀ (w:World) (mg:Str->Option Value) (h:Heap),(K w.params).In h->h.Ns mainGlobals mg->(∃ c T c2 T2,PySem.W.tabIn (K w.params) "sieve" = some (c,T)/\PySem.W.tabIn (K w.params) "_law_own" = some (c2,T2)/\T≠T2/\PySem.W.noTabs (K w.params)=true)/\∃ C_Roll C_Rule C_Book C_BookError C_NoNumber C_NoRule C_Backward C_NoName C_NoMark,Txt (K w.params) mg C_Roll C_Rule C_Book C_BookError C_NoNumber C_NoRule C_Backward C_NoName C_NoMark) :
  PySem.W.WalkO q loose XP YP l.row.toRowW d [] (λf vs=>PySem.call f vs):=by
 refine L2.qnc (n:=63) (k:=12) (x:= "_law_script") (x9:= "sieve") (y9:= "_law_own") (sp:=λw T T2=>qnt (K w.params) T T2) hn (by decide) hdf ⟨rfl,by decide,by decide⟩ h9 i9 hY (λw mg fa h kin ns hm=>?_) (λ_ _ _ _ a ns hl hO hP hS=>⟨a,ns,rfl,hO,hP,hS,hl,λ_=>rfl⟩);obtain ⟨⟨c9,T9,d9,U9,ht,hu,ne9,hno⟩,F⟩:=F w mg h kin ns;obtain ⟨C_Roll,C_Rule,C_Book,C_BookError,C_NoNumber,C_NoRule,C_Backward,C_NoName,C_NoMark,T⟩:=F;obtain ⟨f,fd,Fu,hm'⟩:=T.f_law;rw[hdn,hm'] at hm;cases hm;refine ⟨c9,T9,d9,U9,ht,hu,hno,fd,?_,λbase kb nb Z9 Y9=>qu5 T ne9 Z9 Y9 Fu⟩;obtain ⟨oc,od,kV,doc,pm,an,cdv,ct,osl,rfl,lk,hcd⟩:=Fu.ex;exact λs u=>.of_eq rfl
end TB
namespace PySem.W.Fast
theorem tw16743529361956910883:True:=⟨⟩
theorem tw10466397723245240400:True:=⟨⟩
theorem tw14366007652109211550:True:=⟨⟩
theorem tw13792476552291829967:True:=⟨⟩
theorem tw13181412014870020606:True:=⟨⟩
theorem tw8019716771459389493:True:=⟨⟩
theorem tw13980228694052332791:True:=⟨⟩
theorem tw15705166521234155321:True:=⟨⟩
theorem tw15068778548921030951:True:=⟨⟩
theorem tw2915213668956061752:True:=⟨⟩
theorem tw1941351299094049909:True:=⟨⟩
theorem tw9665785652373638186:True:=⟨⟩
theorem tw16295065300507761168:True:=⟨⟩
theorem tw6533458318259803260:True:=⟨⟩
theorem tw5382179735069194840:True:=⟨⟩
theorem tw3110729799122440801:True:=⟨⟩
theorem tw17167065631065216502:True:=⟨⟩
theorem tw14475712541805249135:True:=⟨⟩
theorem tw12508029476528035044:True:=⟨⟩
theorem tw7810872887668404994:True:=⟨⟩
theorem tw10624989884850560775:True:=⟨⟩
theorem tw2439035064765415468:True:=⟨⟩
theorem tw6148232661479157360:True:=⟨⟩
theorem tw10894840257526703059:True:=⟨⟩
theorem tw16307724320642980626:True:=⟨⟩
theorem tw13225597034351383021:True:=⟨⟩
theorem tw8469673668766827851:True:=⟨⟩
theorem tw3302692286272643768:True:=⟨⟩
theorem tw10154276434559069044:True:=⟨⟩
theorem tw13194471080239018863:True:=⟨⟩
theorem tw3296994775584118044:True:=⟨⟩
theorem tw11672567962751101420:True:=⟨⟩
theorem tw2702036590576274366:True:=⟨⟩
theorem tw11641337002778932763:True:=⟨⟩
theorem tw2100894346953754732:True:=⟨⟩
theorem tw11083184005228951472:True:=⟨⟩
theorem tw14031240641886394749:True:=⟨⟩
theorem tw10870232673276205505:True:=⟨⟩
theorem tw2432997225092261636:True:=⟨⟩
theorem tw13615432319884996154:True:=⟨⟩
theorem tw5892445104679678481:True:=⟨⟩
theorem tw9123486369182894442:True:=⟨⟩
theorem tw15007877857289851469:True:=⟨⟩
theorem tw10640247133191139634:True:=⟨⟩
theorem tw15184077659490134289:True:=⟨⟩
theorem tw15023400499260708709:True:=⟨⟩
theorem tw6024074160961471185:True:=⟨⟩
theorem tw1927506922121193248:True:=⟨⟩
theorem tw2865804401895131196:True:=⟨⟩
theorem tw9841041783092235392:True:=⟨⟩
theorem tw428726323735648766:True:=⟨⟩
theorem tw3480870137152382266:True:=⟨⟩
theorem tw3313377281516517703:True:=⟨⟩
theorem tw10595135010052680946:True:=⟨⟩
theorem tw4523742830454676308:True:=⟨⟩
theorem tw11565381578349368643:True:=⟨⟩
theorem tw17313118640137965534:True:=⟨⟩
theorem tw783715196719322898:True:=⟨⟩
theorem tw7471248522105848946:True:=⟨⟩
theorem tw5076486526386355902:True:=⟨⟩
theorem tw2582176054682459022:True:=⟨⟩
theorem tw4110504208549106297:True:=⟨⟩
theorem tw15976327650705582245:True:=⟨⟩
theorem tw11084035438076425135:True:=⟨⟩
theorem tw879959984834647515:True:=⟨⟩
theorem tw13531123755997570319:True:=⟨⟩
theorem tw6187765000448586167:True:=⟨⟩
theorem tw1800577345282130332:True:=⟨⟩
theorem tw6268362411539970730:True:=⟨⟩
theorem tw4813543807215230000:True:=⟨⟩
theorem tw16233682382172887107:True:=⟨⟩
theorem tw1117657967333799209:True:=⟨⟩
theorem tw16159387731706578517:True:=⟨⟩
theorem tw2646292515453611161:True:=⟨⟩
theorem tw9311449649911353014:True:=⟨⟩
theorem tw8398065067675412383:True:=⟨⟩
theorem tw1787057333997316549:True:=⟨⟩
theorem tw14451531737048435355:True:=⟨⟩
theorem tw11029110993857344597:True:=⟨⟩
theorem tw3030743372529096514:True:=⟨⟩
theorem tw5981749136341791158:True:=⟨⟩
theorem tw5279340771592763120:True:=⟨⟩
theorem tw2031823011656122117:True:=⟨⟩
theorem tw4468419384213767302:True:=⟨⟩
theorem tw11283307309766452391:True:=⟨⟩
theorem tw7417170708482160740:True:=⟨⟩
theorem tw9221989512661545193:True:=⟨⟩
theorem tw3255952002102750096:True:=⟨⟩
theorem tw8090768266074775983:True:=⟨⟩
theorem tw3585415339849158523:True:=⟨⟩
theorem tw3356053020748651472:True:=⟨⟩
theorem tw4067553209909017254:True:=⟨⟩
theorem tw13319418790401777767:True:=⟨⟩
theorem tw3783510377985387378:True:=⟨⟩
theorem tw3728637611086877570:True:=⟨⟩
theorem tw13584905954841353684:True:=⟨⟩
theorem tw7205462740915439845:True:=⟨⟩
theorem tw9287498467755708802:True:=⟨⟩
theorem tw7963434263866385816:True:=⟨⟩
theorem tw3712034411584529757:True:=⟨⟩
theorem tw1147187491597066800:True:=⟨⟩
theorem tw12504401696639232535:True:=⟨⟩
theorem tw2250209227168608145:True:=⟨⟩
theorem tw8318819909345420229:True:=⟨⟩
theorem tw17264976964766288045:True:=⟨⟩
theorem tw11746982824337430420:True:=⟨⟩
theorem tw1498178999776675540:True:=⟨⟩
theorem tw14500265114546324082:True:=⟨⟩
theorem tw8782620293003425560:True:=⟨⟩
theorem tw14512200946171550433:True:=⟨⟩
theorem tw13095033705506297286:True:=⟨⟩
theorem tw3537992101092446905:True:=⟨⟩
theorem tw3052458793232621684:True:=⟨⟩
theorem tw15258537333648045098:True:=⟨⟩
theorem tw2758326633930756564:True:=⟨⟩
theorem tw14160612318525268667:True:=⟨⟩
theorem tw7303719175432695123:True:=⟨⟩
theorem tw14304276069399270694:True:=⟨⟩
theorem tw9534361368433997168:True:=⟨⟩
theorem tw16182742479385993648:True:=⟨⟩
theorem tw12686252391420207172:True:=⟨⟩
theorem tw18180481202144406990:True:=⟨⟩
theorem tw6816216148498903355:True:=⟨⟩
theorem tw6674640160766397773:True:=⟨⟩
theorem tw18440838073493357600:True:=⟨⟩
theorem tw5215631119999808527:True:=⟨⟩
theorem tw13220404511844509284:True:=⟨⟩
theorem tw5064178895607961863:True:=⟨⟩
theorem tw17570675639544195723:True:=⟨⟩
theorem tw242529850277957435:True:=⟨⟩
theorem tw6497460317395654450:True:=⟨⟩
theorem tw6337682725665409122:True:=⟨⟩
theorem tw6734378892654397805:True:=⟨⟩
theorem tw3938529922284094375:True:=⟨⟩
theorem tw1618176297863382180:True:=⟨⟩
theorem tw17382912128152382538:True:=⟨⟩
theorem tw1244023212691880783:True:=⟨⟩
theorem tw8138020862077543936:True:=⟨⟩
theorem tw4536169767551716819:True:=⟨⟩
theorem tw8462538439198505443:True:=⟨⟩
theorem tw17822161803742481366:True:=⟨⟩
theorem tw13310586841421281476:True:=⟨⟩
theorem tw5665286852799813591:True:=⟨⟩
theorem tw13182470724079889797:True:=⟨⟩
theorem tw7006357171368335741:True:=⟨⟩
theorem tw15015001803062469:True:=⟨⟩
theorem tw641674645686029674:True:=⟨⟩
theorem tw2829862781129254498:True:=⟨⟩
theorem tw6046125761381513661:True:=⟨⟩
theorem tw14291721222458500829:True:=⟨⟩
theorem tw2409592652112815773:True:=⟨⟩
theorem tw11102425097945446797:True:=⟨⟩
theorem tw1683522459252210332:True:=⟨⟩
theorem tw9790941871432349790:True:=⟨⟩
theorem tw8258642640726173417:True:=⟨⟩
theorem tw1928108839415069291:True:=⟨⟩
theorem tw15121287334095206432:True:=⟨⟩
theorem tw18155124861702466840:True:=⟨⟩
theorem tw10805361191116330037:True:=⟨⟩
theorem tw7372131101159094176:True:=⟨⟩
theorem tw6365146423680340102:True:=⟨⟩
theorem tw10292216805692351441:True:=⟨⟩
theorem tw3645790088075199789:True:=⟨⟩
theorem tw10578368963320984741:True:=⟨⟩
theorem tw1439380710922072075:True:=⟨⟩
theorem tw439233654351951088:True:=⟨⟩
theorem tw2839570092651510289:True:=⟨⟩
theorem tw13335577136980463585:True:=⟨⟩
theorem tw7906275020193176634:True:=⟨⟩
theorem tw15521466806601657225:True:=⟨⟩
theorem tw12015706005566799536:True:=⟨⟩
theorem tw5016433291152037156:True:=⟨⟩
theorem tw1604988710900158618:True:=⟨⟩
theorem tw10002169948418265560:True:=⟨⟩
theorem tw1362281146612473363:True:=⟨⟩
theorem tw17393164486145723633:True:=⟨⟩
theorem tw7016385242052830447:True:=⟨⟩
theorem tw455920393176338302:True:=⟨⟩
theorem tw492690977506996352:True:=⟨⟩
theorem tw18246805746591144693:True:=⟨⟩
theorem tw17812140623538116195:True:=⟨⟩
theorem tw145605283442837305:True:=⟨⟩
theorem tw13184034080931835471:True:=⟨⟩
theorem tw18084596236127994005:True:=⟨⟩
theorem tw13107599541124943097:True:=⟨⟩
theorem tw12077400864772153258:True:=⟨⟩
theorem tw11887308717710989997:True:=⟨⟩
theorem tw9528151155022926437:True:=⟨⟩
theorem tw12903968849356759087:True:=⟨⟩
theorem tw16479275180092243363:True:=⟨⟩
theorem tw15018414960529485676:True:=⟨⟩
theorem tw17084718526896291885:True:=⟨⟩
theorem tw8734757286490194493:True:=⟨⟩
theorem tw5356711656343482636:True:=⟨⟩
theorem tw2000214903014104041:True:=⟨⟩
theorem tw8839599883450064415:True:=⟨⟩
theorem tw700264533820405506:True:=⟨⟩
theorem tw17520554563108227430:True:=⟨⟩
theorem tw10374270338395725635:True:=⟨⟩
theorem tw9725234802052841552:True:=⟨⟩
theorem tw14244896624865234745:True:=⟨⟩
theorem tw1331486345988551708:True:=⟨⟩
theorem tw9365517861519489320:True:=⟨⟩
theorem tw7230171325568548611:True:=⟨⟩
theorem tw699358296153742349:True:=⟨⟩
theorem tw2452188796315871357:True:=⟨⟩
theorem tw14093349775600205416:True:=⟨⟩
theorem tw9253794801935460077:True:=⟨⟩
theorem tw15603676759950818248:True:=⟨⟩
theorem tw1882092580594736315:True:=⟨⟩
theorem tw4831887754806933260:True:=⟨⟩
theorem tw11501409953012216798:True:=⟨⟩
theorem tw17760716310704947237:True:=⟨⟩
theorem tw15788786245798509509:True:=⟨⟩
theorem tw12315524891155415940:True:=⟨⟩
theorem tw3617273321759819874:True:=⟨⟩
theorem tw923832747701834912:True:=⟨⟩
theorem tw17938037038150009860:True:=⟨⟩
theorem tw3954992794411860713:True:=⟨⟩
theorem tw16589296706232274593:True:=⟨⟩
theorem tw1600116276022817484:True:=⟨⟩
theorem tw49279008204287612:True:=⟨⟩
theorem tw17459431749800023468:True:=⟨⟩
theorem tw15794451254963897282:True:=⟨⟩
theorem tw6209270083966901577:True:=⟨⟩
theorem tw18134983590603065706:True:=⟨⟩
theorem tw5972629153665956746:True:=⟨⟩
theorem tw7172564502120400934:True:=⟨⟩
theorem tw13618477809099758305:True:=⟨⟩
theorem tw4797993110139127648:True:=⟨⟩
theorem tw14914103735274181885:True:=⟨⟩
theorem tw4272304921302011237:True:=⟨⟩
theorem tw11776784816509563603:True:=⟨⟩
theorem tw8193474635961483377:True:=⟨⟩
theorem tw17291276723608381630:True:=⟨⟩
theorem tw8167534788649156551:True:=⟨⟩
theorem tw5780426007653360526:True:=⟨⟩
theorem tw7086343357786508616:True:=⟨⟩
theorem tw14850516215655209738:True:=⟨⟩
theorem tw10055851270580531920:True:=⟨⟩
theorem tw8873941240014193560:True:=⟨⟩
theorem tw14993572053105533728:True:=⟨⟩
theorem tw2948319230476929694:True:=⟨⟩
theorem tw12487167481515523013:True:=⟨⟩
theorem tw12305090803056831654:True:=⟨⟩
theorem tw2214080141848102158:True:=⟨⟩
theorem tw15220916343136946247:True:=⟨⟩
theorem tw10492452286291115831:True:=⟨⟩
theorem tw2165988185636766407:True:=⟨⟩
theorem tw6974483033828518564:True:=⟨⟩
theorem tw13007089371857069826:True:=⟨⟩
theorem tw10280243296817695601:True:=⟨⟩
theorem tw18388112786698746577:True:=⟨⟩
theorem tw540548167179509626:True:=⟨⟩
theorem tw285333328344791080:True:=⟨⟩
theorem tw4875157391523805667:True:=⟨⟩
theorem tw17625372188547088524:True:=⟨⟩
theorem tw15433337376093748670:True:=⟨⟩
theorem tw15027272326753340337:True:=⟨⟩
theorem tw8174588360832723213:True:=⟨⟩
theorem tw627450281437926686:True:=⟨⟩
theorem tw1949675327231863570:True:=⟨⟩
theorem tw15700424664628635904:True:=⟨⟩
theorem tw13388668810658539363:True:=⟨⟩
theorem tw996354134365466725:True:=⟨⟩
theorem tw2929654717282625254:True:=⟨⟩
theorem tw13330924241446310321:True:=⟨⟩
theorem tw2324897711318654247:True:=⟨⟩
theorem tw10444327960748901741:True:=⟨⟩
theorem tw6608257340029764461:True:=⟨⟩
theorem tw9383117753940257937:True:=⟨⟩
theorem tw16131853940211509987:True:=⟨⟩
theorem tw3192229808833779636:True:=⟨⟩
theorem tw10747606099699987240:True:=⟨⟩
theorem tw3951246359769844410:True:=⟨⟩
theorem tw4142859783278019968:True:=⟨⟩
theorem tw15023717492075840298:True:=⟨⟩
theorem tw10192973680814906139:True:=⟨⟩
theorem tw4977171515684362933:True:=⟨⟩
theorem tw11030309874208257356:True:=⟨⟩
theorem tw10486392094486142124:True:=⟨⟩
theorem tw5754275533687402617:True:=⟨⟩
theorem tw920606813271353821:True:=⟨⟩
theorem tw10304309921096836372:True:=⟨⟩
theorem tw3252550374245759161:True:=⟨⟩
theorem tw17616242016201465079:True:=⟨⟩
theorem tw13140691196752999397:True:=⟨⟩
theorem tw18142695841979052487:True:=⟨⟩
theorem tw14032099980425032021:True:=⟨⟩
theorem tw9432409363763253947:True:=⟨⟩
theorem tw8790267371098112125:True:=⟨⟩
theorem tw2666881466563628030:True:=⟨⟩
theorem tw18211520458171580323:True:=⟨⟩
theorem tw6717209339699649910:True:=⟨⟩
theorem tw15869456120665703860:True:=⟨⟩
theorem tw18222892973146480742:True:=⟨⟩
theorem tw18017402565929688778:True:=⟨⟩
theorem tw7872525332801702717:True:=⟨⟩
theorem tw4242568587662995645:True:=⟨⟩
theorem tw11690175870426636443:True:=⟨⟩
theorem tw14301373007965436397:True:=⟨⟩
theorem tw527733991019952420:True:=⟨⟩
theorem tw11925733876593720480:True:=⟨⟩
theorem tw9599565832800654696:True:=⟨⟩
theorem tw1132451530861081120:True:=⟨⟩
theorem tw9727624554404000306:True:=⟨⟩
theorem tw7650958133618444882:True:=⟨⟩
theorem tw17394795446444202950:True:=⟨⟩
theorem tw11386071158085001618:True:=⟨⟩
theorem tw12337060338826219461:True:=⟨⟩
theorem tw5270542217499310701:True:=⟨⟩
theorem tw14353731067002570254:True:=⟨⟩
theorem tw452842607688342315:True:=⟨⟩
theorem tw15843801175363247087:True:=⟨⟩
theorem tw14365931938480677153:True:=⟨⟩
theorem tw11498421095240204782:True:=⟨⟩
theorem tw13376614808365534599:True:=⟨⟩
theorem tw9863402820271943530:True:=⟨⟩
theorem tw11235729732226824199:True:=⟨⟩
theorem tw10901271343968125930:True:=⟨⟩
theorem tw5984177647330572679:True:=⟨⟩
theorem tw5674423215852213252:True:=⟨⟩
theorem tw13775460092794803161:True:=⟨⟩
theorem tw1118595840280231251:True:=⟨⟩
theorem tw10491060927513953639:True:=⟨⟩
theorem tw3958350479417943551:True:=⟨⟩
theorem tw12952403029056875416:True:=⟨⟩
theorem tw6561647240566765581:True:=⟨⟩
theorem tw10904989645937068695:True:=⟨⟩
theorem tw3730267529913913465:True:=⟨⟩
theorem tw18309385724156740976:True:=⟨⟩
theorem tw13763737867633201612:True:=⟨⟩
theorem tw5491666547477190917:True:=⟨⟩
theorem tw13686705622636313774:True:=⟨⟩
theorem tw11381079315406041651:True:=⟨⟩
theorem tw5395560177742558152:True:=⟨⟩
theorem tw7915461434142882083:True:=⟨⟩
theorem tw7737108020186839136:True:=⟨⟩
theorem tw2190662863740482872:True:=⟨⟩
theorem tw6729401730524888784:True:=⟨⟩
theorem tw12208122697422365927:True:=⟨⟩
theorem tw810912409262101228:True:=⟨⟩
theorem tw17455164531738822431:True:=⟨⟩
theorem tw13999031891009350106:True:=⟨⟩
theorem tw5022134394162438854:True:=⟨⟩
theorem tw1401429011924190689:True:=⟨⟩
theorem tw9369176858614002224:True:=⟨⟩
theorem tw14299944972049682659:True:=⟨⟩
theorem tw17096786959357623016:True:=⟨⟩
theorem tw4641739511245304500:True:=⟨⟩
theorem tw448011490366514065:True:=⟨⟩
theorem tw6213723271944448767:True:=⟨⟩
theorem tw15908629711648938925:True:=⟨⟩
theorem tw14538902559247096169:True:=⟨⟩
theorem tw13037809980536838990:True:=⟨⟩
theorem tw7734764247172691321:True:=⟨⟩
theorem tw4710059378396328566:True:=⟨⟩
theorem tw1450190853822061569:True:=⟨⟩
theorem tw4526022925748429571:True:=⟨⟩
theorem tw13022930671350629222:True:=⟨⟩
theorem tw17860055508049698452:True:=⟨⟩
theorem tw2046681378671914167:True:=⟨⟩
theorem tw7192311748818054355:True:=⟨⟩
theorem tw5796059663792940092:True:=⟨⟩
theorem tw2649430648931484684:True:=⟨⟩
theorem tw1745284268461086408:True:=⟨⟩
theorem tw11586123836435378176:True:=⟨⟩
theorem tw112489960948513299:True:=⟨⟩
theorem tw17655655405166440660:True:=⟨⟩
theorem tw6183491348846234591:True:=⟨⟩
theorem tw4169389734207972490:True:=⟨⟩
theorem tw2011961075680912690:True:=⟨⟩
theorem tw17958415422990184342:True:=⟨⟩
theorem tw12707981325164473590:True:=⟨⟩
theorem tw6253535741748477156:True:=⟨⟩
theorem tw5102190220071458734:True:=⟨⟩
theorem tw3814890980803651627:True:=⟨⟩
theorem tw3761229979998550754:True:=⟨⟩
theorem tw3210327489245399647:True:=⟨⟩
theorem tw15012615127339315201:True:=⟨⟩
theorem tw13397247753682755824:True:=⟨⟩
theorem tw11925078705554974005:True:=⟨⟩
theorem tw8314245683284549302:True:=⟨⟩
theorem tw4896460689639163619:True:=⟨⟩
theorem tw15602078354258823332:True:=⟨⟩
theorem tw7991963123608457638:True:=⟨⟩
theorem tw17323243894917893428:True:=⟨⟩
theorem tw1766721321202729552:True:=⟨⟩
theorem tw7122723927904967130:True:=⟨⟩
theorem tw9476262665632397676:True:=⟨⟩
theorem tw7498714082253674318:True:=⟨⟩
theorem tw17253776997629984110:True:=⟨⟩
theorem tw13183547983526925407:True:=⟨⟩
theorem tw9496552399815344111:True:=⟨⟩
theorem tw6171830018676287279:True:=⟨⟩
theorem tw5489199008110331335:True:=⟨⟩
theorem tw4715115118750385112:True:=⟨⟩
theorem tw3902529462411413610:True:=⟨⟩
theorem tw3566814184109772836:True:=⟨⟩
theorem tw2566174589574858715:True:=⟨⟩
theorem tw17584887795007947576:True:=⟨⟩
theorem tw15113079404785964400:True:=⟨⟩
theorem tw14485844657578805128:True:=⟨⟩
theorem tw13736892182469129314:True:=⟨⟩
theorem tw13128361420314798067:True:=⟨⟩
theorem tw10887029161530760873:True:=⟨⟩
theorem tw1337504051502177670:True:=⟨⟩
theorem tw11243580139857948196:True:=⟨⟩
theorem tw14396240064573651478:True:=⟨⟩
theorem tw9657130959296964556:True:=⟨⟩
theorem tw9641109910691724415:True:=⟨⟩
theorem tw7380312820938946709:True:=⟨⟩
theorem tw388189088594826242:True:=⟨⟩
theorem tw3073346233484484179:True:=⟨⟩
theorem tw17277485413817062221:True:=⟨⟩
theorem tw16476974207928770743:True:=⟨⟩
theorem tw1610016694067491219:True:=⟨⟩
theorem tw10434186131325534925:True:=⟨⟩
theorem tw10170591379353234936:True:=⟨⟩
theorem tw8510488589244436348:True:=⟨⟩
theorem tw7737093754025397800:True:=⟨⟩
theorem tw6708257205764945817:True:=⟨⟩
theorem tw5318653505374848152:True:=⟨⟩
theorem tw4038643591726278301:True:=⟨⟩
theorem tw193592666931304552:True:=⟨⟩
theorem tw16339050501036890894:True:=⟨⟩
theorem tw15160432512697096425:True:=⟨⟩
theorem tw14482475151213076729:True:=⟨⟩
theorem tw11381932937200064976:True:=⟨⟩
theorem tw18287292101992655986:True:=⟨⟩
theorem tw14814154556825431147:True:=⟨⟩
theorem tw13577457541145313760:True:=⟨⟩
theorem tw7869015611119398514:True:=⟨⟩
theorem tw5831034201179540307:True:=⟨⟩
theorem tw5342684038447540415:True:=⟨⟩
theorem tw1297285365889833107:True:=⟨⟩
theorem tw1026695005079222301:True:=⟨⟩
theorem tw7517529991752540518:True:=⟨⟩
theorem tw6793365972105253941:True:=⟨⟩
theorem tw4980248534969434040:True:=⟨⟩
theorem tw443084504447029893:True:=⟨⟩
theorem tw2955765752315235013:True:=⟨⟩
theorem tw18412183157333353114:True:=⟨⟩
theorem tw18030255108237783870:True:=⟨⟩
theorem tw12536301854569644512:True:=⟨⟩
theorem tw11394104745825282308:True:=⟨⟩
theorem tw8016769685137444542:True:=⟨⟩
theorem tw3368704132724576976:True:=⟨⟩
theorem tw14099693218588132498:True:=⟨⟩
theorem tw10624470879667402601:True:=⟨⟩
theorem tw9648449339499221588:True:=⟨⟩
theorem tw2335262022096553253:True:=⟨⟩
theorem tw13635141599937480750:True:=⟨⟩
theorem tw9994015992538751777:True:=⟨⟩
theorem tw9760844088905119998:True:=⟨⟩
theorem tw9716444295329836755:True:=⟨⟩
theorem tw9545149397661438201:True:=⟨⟩
theorem tw954121899080661956:True:=⟨⟩
theorem tw9501819461944245106:True:=⟨⟩
theorem tw9292283150191020254:True:=⟨⟩
theorem tw9289195136416983005:True:=⟨⟩
theorem tw9217809946870701870:True:=⟨⟩
theorem tw9103285927020990769:True:=⟨⟩
theorem tw9085407191169791143:True:=⟨⟩
theorem tw8909396997039210610:True:=⟨⟩
theorem tw879231083121279104:True:=⟨⟩
theorem tw8787412493114750890:True:=⟨⟩
theorem tw8730495899735765175:True:=⟨⟩
theorem tw8728612143941403515:True:=⟨⟩
theorem tw8470990011006716296:True:=⟨⟩
theorem tw8392820981022850564:True:=⟨⟩
theorem tw8308584754295321547:True:=⟨⟩
theorem tw8301022683778260042:True:=⟨⟩
theorem tw8054441823034977154:True:=⟨⟩
theorem tw7834609306801277882:True:=⟨⟩
theorem tw7730059792093165174:True:=⟨⟩
theorem tw7670701293549515112:True:=⟨⟩
theorem tw7456899924257885239:True:=⟨⟩
theorem tw7248062467553038936:True:=⟨⟩
theorem tw7196280256254699079:True:=⟨⟩
theorem tw7109539466689437990:True:=⟨⟩
theorem tw6933432056992272458:True:=⟨⟩
theorem tw6790457019160802990:True:=⟨⟩
theorem tw6639495216869489940:True:=⟨⟩
theorem tw6613150433549934352:True:=⟨⟩
theorem tw6461465473936804479:True:=⟨⟩
theorem tw6388812549149627897:True:=⟨⟩
theorem tw6371215746869482826:True:=⟨⟩
theorem tw623747246202257749:True:=⟨⟩
theorem tw6203064484139791211:True:=⟨⟩
theorem tw6189996088333643772:True:=⟨⟩
theorem tw6028138108524201932:True:=⟨⟩
theorem tw5611397644603229592:True:=⟨⟩
theorem tw5410124705543817781:True:=⟨⟩
theorem tw5069103822670748287:True:=⟨⟩
theorem tw5039853048933351602:True:=⟨⟩
theorem tw4870919041306530907:True:=⟨⟩
theorem tw4708620360318205289:True:=⟨⟩
theorem tw4668582606004352587:True:=⟨⟩
theorem tw4647553907336643067:True:=⟨⟩
theorem tw4470509003423142584:True:=⟨⟩
theorem tw4374616792628087454:True:=⟨⟩
theorem tw4239098779079813380:True:=⟨⟩
theorem tw4212664669927342231:True:=⟨⟩
theorem tw3968213351682675257:True:=⟨⟩
theorem tw3892831359364473286:True:=⟨⟩
theorem tw3872564833364143262:True:=⟨⟩
theorem tw364599636050683854:True:=⟨⟩
theorem tw3476455221537592725:True:=⟨⟩
theorem tw3359638601385586683:True:=⟨⟩
theorem tw3257648561841767390:True:=⟨⟩
theorem tw3218522821195104820:True:=⟨⟩
theorem tw3208508191741104993:True:=⟨⟩
theorem tw3174303000111990169:True:=⟨⟩
theorem tw3108748818245638931:True:=⟨⟩
theorem tw309892976812882235:True:=⟨⟩
theorem tw3092994926669443083:True:=⟨⟩
theorem tw2951873573720522571:True:=⟨⟩
theorem tw2901667534241870324:True:=⟨⟩
theorem tw2850115803372998301:True:=⟨⟩
theorem tw2727507698245621277:True:=⟨⟩
theorem tw2558427509706189738:True:=⟨⟩
theorem tw2518397889085141390:True:=⟨⟩
theorem tw2077089427175657024:True:=⟨⟩
theorem tw2060394246285092867:True:=⟨⟩
theorem tw2039295576899223300:True:=⟨⟩
theorem tw1918933436055455106:True:=⟨⟩
theorem tw18344363333398130273:True:=⟨⟩
theorem tw18291230278280113675:True:=⟨⟩
theorem tw18286511575512786702:True:=⟨⟩
theorem tw18269313987541497722:True:=⟨⟩
theorem tw18227992500855732447:True:=⟨⟩
theorem tw18200945516828923305:True:=⟨⟩
theorem tw1808155916221657733:True:=⟨⟩
theorem tw18052126894205151212:True:=⟨⟩
theorem tw17978068340604254620:True:=⟨⟩
theorem tw17950216538412556011:True:=⟨⟩
theorem tw17791280504146557933:True:=⟨⟩
theorem tw17673400087238240975:True:=⟨⟩
theorem tw17672115264690261472:True:=⟨⟩
theorem tw17587665606522798360:True:=⟨⟩
theorem tw17393011157077284712:True:=⟨⟩
theorem tw17341680343328128555:True:=⟨⟩
theorem tw17073930762258132143:True:=⟨⟩
theorem tw1697951305859980389:True:=⟨⟩
theorem tw1695665446174078784:True:=⟨⟩
theorem tw16880972425108923254:True:=⟨⟩
theorem tw16802317893582236121:True:=⟨⟩
theorem tw16784489522128166629:True:=⟨⟩
theorem tw16704336635144912519:True:=⟨⟩
theorem tw16701403384342085194:True:=⟨⟩
theorem tw1659404820951794142:True:=⟨⟩
theorem tw16535463774811788116:True:=⟨⟩
theorem tw16466701358626095949:True:=⟨⟩
theorem tw16294503706840500689:True:=⟨⟩
theorem tw15663350186920525866:True:=⟨⟩
theorem tw15565144731928801011:True:=⟨⟩
theorem tw15469497925327761597:True:=⟨⟩
theorem tw15197163198425763050:True:=⟨⟩
theorem tw15087005287537089838:True:=⟨⟩
theorem tw14749185492097531316:True:=⟨⟩
theorem tw14612280917073896057:True:=⟨⟩
theorem tw14517916229233750812:True:=⟨⟩
theorem tw14404303395029053212:True:=⟨⟩
theorem tw14391255448540125839:True:=⟨⟩
theorem tw14338825060265569731:True:=⟨⟩
theorem tw14178517506818267567:True:=⟨⟩
theorem tw1415583893184016225:True:=⟨⟩
theorem tw14083779487938856602:True:=⟨⟩
theorem tw14014236238935043664:True:=⟨⟩
theorem tw14004667610631279781:True:=⟨⟩
theorem tw13857166086812907493:True:=⟨⟩
theorem tw13849507417074967900:True:=⟨⟩
theorem tw13815794081896976940:True:=⟨⟩
theorem tw13597280943199438833:True:=⟨⟩
theorem tw13428249403048008546:True:=⟨⟩
theorem tw13311890232120342462:True:=⟨⟩
theorem tw13202613037172135466:True:=⟨⟩
theorem tw1309550769601448449:True:=⟨⟩
theorem tw12974913852764501522:True:=⟨⟩
theorem tw12929762735277696871:True:=⟨⟩
theorem tw12866355775188438750:True:=⟨⟩
theorem tw12814364839466242585:True:=⟨⟩
theorem tw12696294095851992302:True:=⟨⟩
theorem tw12672542162676013684:True:=⟨⟩
theorem tw12603978737310667287:True:=⟨⟩
theorem tw12585415368761348397:True:=⟨⟩
theorem tw12411266556715082355:True:=⟨⟩
theorem tw12277701100317610908:True:=⟨⟩
theorem tw12185314757012910871:True:=⟨⟩
theorem tw12179790120685874327:True:=⟨⟩
theorem tw12141147015354812734:True:=⟨⟩
theorem tw12095631931826037845:True:=⟨⟩
theorem tw12005503318991286786:True:=⟨⟩
theorem tw11973302887239498691:True:=⟨⟩
theorem tw11709574619445238289:True:=⟨⟩
theorem tw11460318300112808512:True:=⟨⟩
theorem tw11384143679099559609:True:=⟨⟩
theorem tw11370993021874319267:True:=⟨⟩
theorem tw1133980561900380678:True:=⟨⟩
theorem tw11321435360627484475:True:=⟨⟩
theorem tw11302840867824815953:True:=⟨⟩
theorem tw11239890046739225884:True:=⟨⟩
theorem tw11220182715980960956:True:=⟨⟩
theorem tw11122164323466744037:True:=⟨⟩
theorem tw11104466623552918837:True:=⟨⟩
theorem tw11054315160705255684:True:=⟨⟩
theorem tw10973394900267066392:True:=⟨⟩
theorem tw10819665078332298943:True:=⟨⟩
theorem tw10475366369961044002:True:=⟨⟩
theorem tw10421545942946557203:True:=⟨⟩
theorem tw10190480942857635427:True:=⟨⟩
end PySem.W.Fast
open PySem PySem.W PyProof.Rows
set_option maxRecDepth 100000 in
set_option maxHeartbeats 0 in
theorem PySem.Challenge.cw_thinbook_k64_names_chosen_holds : PySem.Challenge.rw_thinbook_k64_names_chosen.Holds := by
 w_on;o_law;k_head;(case hw=>w_witness2)
 k_fill
 refine TB.walk (l:=PySem.Challenge.rw_thinbook_k64_names_chosen) rfl rfl rfl rfl rfl (λw h Y=>PySem.W.km_in_of Y) ?F
 case F =>
  intro w mg h KX G;refine' ⟨⟨380,378,556,552,?t9,?u9,?e9,?n9⟩,?tx⟩
  (case t9=>kernel_rfl)
  (case u9=>kernel_rfl)
  (case e9=>decide)
  (case n9=>kernel_rfl)
  refine' TB.qta KX G ?aCRoll ?aCRule ?aCBook ?a0 ?l0 ?c0 ?k0 ?a1 ?l1 ?c1 ?k1 ?a2 ?l2 ?c2 ?k2 ?a3 ?l3 ?c3 ?k3 ?a4 ?l4 ?c4 ?k4 ?a5 ?l5 ?c5 ?k5 ?a6 ?l6 ?c6 ?k6 ?a7 ?l7 ?c7 ?k7 ?a8 ?l8 ?c8 ?k8 ?a9 ?l9 ?c9 ?k9 ?a10 ?l10 ?c10 ?k10 ?a11 ?i11 ?l11 ?c11 ?k11 ?a12 ?i12 ?l12 ?c12 ?k12 ?d12 ?a13 ?i13 ?l13 ?c13 ?k13 ?a14 ?i14 ?l14 ?c14 ?k14 ?a15 ?i15 ?l15 ?c15 ?k15 ?a16 ?i16 ?l16 ?c16 ?k16 ?a17 ?i17 ?l17 ?c17 ?k17 ?a18 ?i18 ?l18 ?c18 ?k18 ?a19 ?i19 ?l19 ?c19 ?k19 ?a20 ?i20 ?l20 ?c20 ?k20 ?a21 ?l21 ?c21 ?k21 ?a22 ?l22 ?c22 ?k22 ?a23 ?l23 ?c23 ?k23 ?a24 ?l24 ?c24 ?k24 ?a25 ?l25 ?c25 ?k25 ?a26 ?l26 ?c26 ?k26 ?a27 ?i27 ?l27 ?c27 ?k27 ?d27 ?a28 ?i28 ?l28 ?c28 ?k28 ?a29 ?i29 ?l29 ?c29 ?k29 ?a30 ?l30 ?c30 ?k30 ?a31 ?l31 ?c31 ?k31 ?a32 ?l32 ?c32 ?k32 ?a33 ?l33 ?c33 ?k33 ?a34 ?l34 ?c34 ?k34 ?a35 ?l35 ?c35 ?k35 ?a36 ?l36 ?c36 ?k36 ?a37 ?l37 ?c37 ?k37 ?a38 ?i38 ?l38 ?c38 ?k38 ?a39 ?i39 ?l39 ?c39 ?k39 ?d39 ?a40 ?i40 ?l40 ?c40 ?k40 ?a41 ?i41 ?l41 ?c41 ?k41 ?a42 ?i42 ?l42 ?c42 ?k42 ?a43 ?i43 ?l43 ?c43 ?k43 ?a44 ?i44 ?l44 ?c44 ?k44 ?a45 ?i45 ?l45 ?c45 ?k45 ?a46 ?l46 ?c46 ?k46 ?a47 ?l47 ?c47 ?k47 ?a48 ?l48 ?c48 ?k48 ?a49 ?l49 ?c49 ?k49 ?a50 ?l50 ?c50 ?k50 ?a51 ?l51 ?c51 ?k51 ?a52 ?l52 ?c52 ?k52 ?a53 ?l53 ?c53 ?k53 ?a54 ?l54 ?c54 ?k54 ?pgRoll ?hdRoll ?poRoll ?saRoll ?mkRoll ?kcRoll ?nRoll_kept_rule ?nRoll_kept_day ?nRoll_kept_edges ?nRoll_whole_ones ?nRoll_cell_heaps ?pgRule ?hdRule ?poRule ?saRule ?mkRule ?kcRule ?nRule_kept_steps ?nRule_gone_age ?pgBook ?hdBook ?poBook ?saBook ?mkBook ?kcBook ?nBook_kept_rule ?nBook_kept_day ?nBook_kept_edges ?nBook_kept_marks ?nBook_kept_rolls ?xCBookError ?xCNoNumber ?xCNoRule ?xCBackward ?xCNoName ?xCNoMark ?xEBookError ?xKBookError0 ?xKBookError1 ?xKBookError2 ?xKBookError3 ?xKBookError4 ?xKBookError5 ?xHBookError_BookError ?xIBookError_BookError ?xIBookError_NoNumber ?xIBookError_NoRule ?xIBookError_Backward ?xIBookError_NoName ?xIBookError_NoMark ?xVBookError ?xENoNumber ?xKNoNumber0 ?xKNoNumber1 ?xKNoNumber2 ?xKNoNumber3 ?xKNoNumber4 ?xKNoNumber5 ?xHNoNumber_BookError ?xINoNumber_BookError ?xHNoNumber_NoNumber ?xINoNumber_NoNumber ?xINoNumber_NoRule ?xINoNumber_Backward ?xINoNumber_NoName ?xINoNumber_NoMark ?xVNoNumber ?xENoRule ?xKNoRule0 ?xKNoRule1 ?xKNoRule2 ?xKNoRule3 ?xKNoRule4 ?xKNoRule5 ?xHNoRule_BookError ?xINoRule_BookError ?xINoRule_NoNumber ?xHNoRule_NoRule ?xINoRule_NoRule ?xINoRule_Backward ?xINoRule_NoName ?xINoRule_NoMark ?xVNoRule ?xKBackward0 ?xKBackward1 ?xKBackward2 ?xKBackward3 ?xKBackward4 ?xKBackward5 ?xHBackward_BookError ?xIBackward_BookError ?xIBackward_NoNumber ?xIBackward_NoRule ?xHBackward_Backward ?xIBackward_Backward ?xIBackward_NoName ?xIBackward_NoMark ?xVBackward ?xENoName ?xKNoName0 ?xKNoName1 ?xKNoName2 ?xKNoName3 ?xKNoName4 ?xKNoName5 ?xHNoName_BookError ?xINoName_BookError ?xINoName_NoNumber ?xINoName_NoRule ?xINoName_Backward ?xHNoName_NoName ?xINoName_NoName ?xINoName_NoMark ?xVNoName ?xENoMark ?xKNoMark0 ?xKNoMark1 ?xKNoMark2 ?xKNoMark3 ?xKNoMark4 ?xKNoMark5 ?xHNoMark_BookError ?xINoMark_BookError ?xINoMark_NoNumber ?xINoMark_NoRule ?xINoMark_Backward ?xINoMark_NoName ?xHNoMark_NoMark ?xINoMark_NoMark ?xVNoMark ?z_all ?z_any ?z_bool ?z_int ?z_isinstance ?z_len ?z_list ?z_max ?z_min ?z_range ?z_set ?z_sorted ?z_str ?z_sum ?z_tuple ?z_zip ?y_MOST_STEPS ?y_LETTERS ?y_LONGEST_NAME ?y_LONGEST_MARK ?y_MOST_MARKS
  (case aCRoll|aCRule|aCBook|a0|l0|c0|k0|a1|l1|c1|k1|a2|l2|c2|k2|a3|l3|c3|k3|a4|l4|c4|k4|a5|l5|c5|k5|a6|l6|c6|k6|a7|l7|c7|k7|a8|l8|c8|k8|a9|l9|c9|k9|a10|l10|c10|k10|a11|i11|l11|c11|k11|a12|i12|l12|c12|k12|d12|a13|i13|l13|c13|k13|a14|i14|l14|c14|k14|a15|i15|l15|c15|k15|a16|i16|l16|c16|k16|a17|i17|l17|c17|k17|a18|i18|l18|c18|k18|a19|i19|l19|c19|k19|a20|i20|l20|c20|k20|a21|l21|c21|k21|a22|l22|c22|k22|a23|l23|c23|k23|a24|l24|c24|k24|a25|l25|c25|k25|a26|l26|c26|k26|a27|i27|l27|c27|k27|d27|a28|i28|l28|c28|k28|a29|i29|l29|c29|k29|a30|l30|c30|k30|a31|l31|c31|k31|a32|l32|c32|k32|a33|l33|c33|k33|a34|l34|c34|k34|a35|l35|c35|k35|a36|l36|c36|k36|a37|l37|c37|k37|a38|i38|l38|c38|k38|a39|i39|l39|c39|k39|d39|a40|i40|l40|c40|k40|a41|i41|l41|c41|k41|a42|i42|l42|c42|k42|a43|i43|l43|c43|k43|a44|i44|l44|c44|k44|a45|i45|l45|c45|k45|a46|l46|c46|k46|a47|l47|c47|k47|a48|l48|c48|k48|a49|l49|c49|k49|a50|l50|c50|k50|a51|l51|c51|k51|a52|l52|c52|k52|a53|l53|c53|k53|a54|l54|c54|k54|pgRoll|hdRoll|poRoll|saRoll|mkRoll|kcRoll|nRoll_kept_rule|nRoll_kept_day|nRoll_kept_edges|nRoll_whole_ones|nRoll_cell_heaps|pgRule|hdRule|poRule|saRule|mkRule|kcRule|nRule_kept_steps|nRule_gone_age|pgBook|hdBook|poBook|saBook|mkBook|kcBook|nBook_kept_rule|nBook_kept_day|nBook_kept_edges|nBook_kept_marks|nBook_kept_rolls|xCBookError|xCNoNumber|xCNoRule|xCBackward|xCNoName|xCNoMark|xKBookError0|xKBookError1|xKBookError2|xKBookError3|xKBookError4|xHBookError_BookError|xKNoNumber0|xKNoNumber1|xKNoNumber2|xKNoNumber3|xKNoNumber4|xHNoNumber_BookError|xHNoNumber_NoNumber|xKNoRule0|xKNoRule1|xKNoRule2|xKNoRule3|xKNoRule4|xHNoRule_BookError|xHNoRule_NoRule|xKBackward0|xKBackward1|xKBackward2|xKBackward3|xKBackward4|xHBackward_BookError|xHBackward_Backward|xKNoName0|xKNoName1|xKNoName2|xKNoName3|xKNoName4|xHNoName_BookError|xHNoName_NoName|xKNoMark0|xKNoMark1|xKNoMark2|xKNoMark3|xKNoMark4|xHNoMark_BookError|xHNoMark_NoMark|z_all|z_any|z_bool|z_int|z_isinstance|z_len|z_list|z_max|z_min|z_range|z_set|z_sorted|z_str|z_sum|z_tuple|z_zip|y_MOST_STEPS|y_LETTERS|y_LONGEST_NAME|y_LONGEST_MARK|y_MOST_MARKS=>k_is)
  (case xEBookError|xENoNumber|xENoRule|xENoName|xENoMark=>k_exc)
  (case xKBookError5|xKNoNumber5|xKNoRule5|xKBackward5|xKNoName5|xKNoMark5=>kts_isx)
  (case xIBookError_BookError|xIBookError_NoNumber|xIBookError_NoRule|xIBookError_Backward|xIBookError_NoName|xIBookError_NoMark|xVBookError|xINoNumber_BookError|xINoNumber_NoNumber|xINoNumber_NoRule|xINoNumber_Backward|xINoNumber_NoName|xINoNumber_NoMark|xVNoNumber|xINoRule_BookError|xINoRule_NoNumber|xINoRule_NoRule|xINoRule_Backward|xINoRule_NoName|xINoRule_NoMark|xVNoRule|xIBackward_BookError|xIBackward_NoNumber|xIBackward_NoRule|xIBackward_Backward|xIBackward_NoName|xIBackward_NoMark|xVBackward|xINoName_BookError|xINoName_NoNumber|xINoName_NoRule|xINoName_Backward|xINoName_NoName|xINoName_NoMark|xVNoName|xINoMark_BookError|xINoMark_NoNumber|xINoMark_NoRule|xINoMark_Backward|xINoMark_NoName|xINoMark_NoMark|xVNoMark=>kit_is)
