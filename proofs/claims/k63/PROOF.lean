import PyProof.Rows.All
import Wide.All
import OpenK.AllK
import Wide.FinOn
import Lean
import PyProof.EqAt
import PyProof.EqKinds
import PyProof.TupleCall
import PySem.Challenge.RW_thinbook_k63_readings_put
set_option Elab.async false
set_option linter.all false
set_option maxRecDepth 100000
open PySem.W (Frag nsIn fnOf codeIn keepIn mg_of)
namespace L2
open PySem PySem.Spec PyProof.Rows
abbrev Key:=Sum Int Str
def qnz:Key->Value->Bool
 | .inl k,v=>Value.isInt k v
 | .inr x,v=>Value.isStrOf x v
def qz9 (w:World):Key->Int
 | .inl k=>hashInt k
 | .inr x=>hashStr w x
theorem qbl:∀ {k:Key} {v:Value},qnz k v=true->(∃ i t,k=Sum.inl i/\v=Value.int i t)\/(∃ x t,k=Sum.inr x/\v=Value.str x t)
 | .inl i,v,h=>by
  obtain ⟨t,e⟩:=Value.isInt_shape (k:=i) (v:=v) h;exact .inl ⟨i,t,rfl,e⟩
 | .inr x,v,h=>by
  obtain ⟨t,e⟩:=Value.isStrOf_shape (x:=x) (v:=v) h;exact .inr ⟨x,t,rfl,e⟩
theorem qo5 (i:Int) (t:Tok):qnz (.inl i) (.int i t)=true:=by simp[qnz,Value.isInt]
theorem qo6 (x:Str) (t:Tok):qnz (.inr x) (.str x t)=true:=by simp[qnz,Value.isStrOf]
theorem qv6 (a b:Int):decide ((Sum.inl a:Key)=Sum.inl b)=(a == b):=by
 by_cases e:a=b
 ·subst e;simp
 ·have h:¬ (Sum.inl a:Key)=Sum.inl b:=λq=>e (Sum.inl.inj q)
  rw[decide_eq_false h];exact (beq_eq_false_iff_ne.mpr e).symm
theorem qv7 (a b:Str):decide ((Sum.inr a:Key)=Sum.inr b)=decide (a=b):=by
 by_cases e:a=b
 ·subst e;simp
 ·have h:¬ (Sum.inr a:Key)=Sum.inr b:=λq=>e (Sum.inr.inj q)
  rw[decide_eq_false h,decide_eq_false e]
theorem qv8 (a:Int) (b:Str):decide ((Sum.inl a:Key)=Sum.inr b)=false:=decide_eq_false (λq=>nomatch q)
theorem qv9 (a:Str) (b:Int):decide ((Sum.inr a:Key)=Sum.inl b)=false:=decide_eq_false (λq=>nomatch q)
def qbx (prog:Program) (w:World):PySem.KeyKind prog w Key where
 is:=qnz
 hash:=qz9 w
 inj:=λv a b ha hb=>by
  rcases qbl ha with ⟨i,t,rfl,rfl⟩|⟨x,t,rfl,rfl⟩
  ·rcases qbl hb with ⟨j,u,rfl,e⟩|⟨y,u,rfl,e⟩
   ·injection e with e1 _;rw[e1]
   ·exact nomatch e
  ·rcases qbl hb with ⟨j,u,rfl,e⟩|⟨y,u,rfl,e⟩
   ·exact nomatch e
   ·injection e with e1 _;rw[e1]
 byValue:=λk v h=>by
  rcases qbl h with ⟨i,t,rfl,rfl⟩|⟨x,t,rfl,rfl⟩<;>rfl
 pyHash:=λhv h=>by
  rcases qbl hv with ⟨i,t,rfl,rfl⟩|⟨x,t,rfl,rfl⟩
  ·exact wpAny_pyHash_int h
  ·exact wpAny_pyHash_str h
 eqBool:=λhu hv h=>by
  rcases qbl hu with ⟨i,t,rfl,rfl⟩|⟨x,t,rfl,rfl⟩
  ·rcases qbl hv with ⟨j,u,rfl,rfl⟩|⟨y,u,rfl,rfl⟩
   ·rw[qv6] at h;exact wpAny_eqBool_int h
   ·rw[qv8] at h;exact SeqAt.EqAt.int_str i t y u _ _ _ _ h
  ·rcases qbl hv with ⟨j,u,rfl,rfl⟩|⟨y,u,rfl,rfl⟩
   ·rw[qv9] at h;exact SeqAt.EqAt.str_int x t j u _ _ _ _ h
   ·rw[qv7] at h;exact wpAny_eqBool_str h
 «strs» :=λk x t v h=>by
  rcases qbl h with ⟨i,u,rfl,e⟩|⟨y,u,rfl,e⟩
  ·exact nomatch e
  ·injection e with e1 _
   subst e1
   cases v<;>rfl
theorem qma (prog:Program) (w:World) (i:Int) (t:Tok):(qbx prog w).is (.inl i) (.int i t)=true:=qo5 i t
theorem qmb (prog:Program) (w:World) (x:Str) (t:Tok):(qbx prog w).is (.inr x) (.str x t)=true:=qo6 x t
open PySem PySem.Spec PyProof.Rows
inductive V where
 | non|bl (b:Bool)|int (i:Int)|str (x:Str)|byt (b:Array UInt8)|flt (b:UInt64)|ref (a:Addr)|ty (n:String)
 deriving DecidableEq
def RelV:V->Value->Prop
 | .non,u=>u=Value.none
 | .bl b,u=>u=Value.bool b
 | .int i,u=>∃ t,u=Value.int i t
 | .str x,u=>∃ t,u=Value.str x t
 | .byt b,u=>∃ t,u=Value.bytes b t
 | .flt b,u=>∃ t,u=Value.float b t
 | .ref a,u=>u=Value.ref a
 | .ty n,u=>u=Value.type n
abbrev Vals:List V->List Value->Prop:=Paired RelV
theorem Vals.length {xs:List V} {us:List Value} (r:Vals xs us):xs.length=us.length:=Paired.length r
theorem Vals.get:∀ {xs:List V} {us:List Value} {i:Nat} {x:V},Vals xs us->xs[i]?=some x->∃ u,us[i]?=some u/\RelV x u
 | _,_,_,_,.nil,e=>by simp at e
 | _,_,0,_,.cons r _,e=>by simp at e;subst e;exact ⟨_,rfl,r⟩
 | _,_,i+1,x,.cons _ t,e=>by
  obtain ⟨u,h1,h2⟩:=Vals.get (i:=i) (x:=x) t (by simpa using e);exact ⟨u,by simpa using h1,h2⟩
theorem Vals.append:∀ {xs ys:List V} {us ws:List Value},Vals xs us->Vals ys ws->Vals (xs ++ ys) (us ++ ws)
 | _,_,_,_,.nil,s=>s
 | _,_,_,_,.cons r t,s=>.cons r (Vals.append t s)
theorem Vals.take:∀ {xs:List V} {us:List Value} (n:Nat),Vals xs us->Vals (xs.take n) (us.take n)
 | _,_,0,_=>.nil
 | _,_,_+1,.nil=>.nil
 | _,_,n+1,.cons r t=>.cons r (Vals.take n t)
theorem Vals.drop:∀ {xs:List V} {us:List Value} (n:Nat),Vals xs us->Vals (xs.drop n) (us.drop n)
 | _,_,0,r=>r
 | _,_,_+1,.nil=>.nil
 | _,_,n+1,.cons _ t=>Vals.drop n t
def RelO:Option V->Option Value->Prop
 | some v,some u=>RelV v u
 | none,none=>True
 | _,_=>False
def KV {κ:Type}:List (κ×V)->List (κ×Value)->Prop:=Paired fun (p:κ×V) (q:κ×Value)=>p.1=q.1/\RelV p.2 q.2
def kV:Key->V
 | .inl i=>.int i
 | .inr x=>.str x
inductive HO where
 | lst (xs:List V)
 | tup (xs:List V)
 | dK (kvs:List (Key×V))|dT (kvs:List (List Key×V))
 | set (S:Int->Bool) (n:Nat)
 | ins (C dx:Addr) (fs:List (Str×V))
 | own (x:Addr)
 | xd (fs:List (Str×V))
 | met (f x:Addr)
 | rng (lo hi:Int)
 | frz (o:Obj) (u:HO)
 | tbl (ps:Array Value)
 | ext (φ:Heap->Prop)
abbrev Hp:=Addr->Option HO
def upd (H:Hp) (a:Addr) (o:HO):Hp:=λb=>if b=a then some o else H b
theorem qbp {H:Hp} {a:Addr} {o:HO}:upd H a o a=some o:=by unfold upd;rw[if_pos rfl]
theorem qa8 {H:Hp} {a b:Addr} {o:HO} (h:b≠a):upd H a o b=H b:=by unfold upd;rw[if_neg h]
theorem qa1 {H:Hp} {a b:Addr} {o u:HO} (h:H a=some o) (h':H b=some u) (d:o≠u):a≠b:=by
 intro e;subst e;rw[h] at h';exact d (Option.some.inj h')
theorem qah {H:Hp} {a b:Addr} {o:HO} (h:H a=some o) (h':H b=none):a≠b:=by
 intro e;subst e;rw[h] at h';cases h'
section
variable (P:Program) (w:World)
def ObjOk (H:Hp) (h:Heap) (a:Addr):HO->Prop
 | .lst xs=>xs.length<=sizeLine/\∃ (its:List Value) (n:Nat),Vals xs its/\h.get? a=some { cls:=.type "list",data:=.seq its.toArray n }
 | .tup xs=>xs.length<=sizeLine/\∃ its:List Value,Vals xs its/\IsTup h a its.toArray
 | .dK kvs=>kvs.length<=sizeLine/\(a == sysModules)=false/\∃ vs,KV kvs vs/\h.DictOf (qbx P w) a vs
 | .dT kvs=>kvs.length<=sizeLine/\(a == sysModules)=false/\∃ xs:List (List Key×Addr×Value),
   Paired (fun (p:List Key×V) (q:List Key×Addr×Value)=>p.1=q.1/\H q.2.1=some (.tup (p.1.map kV))/\RelV p.2 q.2.2) kvs xs /\
   ∃ o es ep,h.get? a=some o/\o.ExactDict/\o.data=.dict es ep/\es.toList=xs.map (entryOfKey (tupleKind (qbx P w)))/\(xs.map (·.1)).Nodup
 | .set S n=>h.SetOf (intKind P w) a S n
 | .ins C dx fs=>H dx=some (.own a)/\fs.length<=1000/\dx≠a/\h.get? a=some (PySem.W.instObj C dx) /\
   ∃ mA,h.Ns1 dx mA/\(∀ f,RelO (fs.lookup f) (mA f))/\PySem.Within mA (fs.map (·.1))
 | .own _=>∃ o,h.get? a=some o
 | .xd fs=>∃ mA,h.Ns1 a mA/\∀ f,RelO (fs.lookup f) (mA f)
 | .rng lo hi=>∃ t u v,h.get? a=some { cls:=.type "range",data:=.fields #[.int lo t,.int hi u,.int 1 v] }
 | .frz o u=>h.get? a=some o/\ObjOk H h a u
 | .tbl ps=>h.get? a=some { cls:=.none,data:=.fields ps }
 | .met f x=>h.get? a=some (PySem.W.methodObj (.ref f) (.ref x))
 | .ext φ=>φ h/\(∃ o,h.get? a=some o)/\∀ h1 h2:Heap,φ h1->(∀ o,h1.get? a=some o->h2.get? a=some o)->φ h2
def HOk (H:Hp) (h:Heap):Prop:=∀ a o,H a=some o->ObjOk P w H h a o
end
section
variable {P:Program} {w:World} {H H':Hp} {h h':Heap} {a:Addr} {o:HO}
theorem ObjOk.lt (x:ObjOk P w H h a o):a<h.objs.size:=by
 cases o with
 | lst xs=>obtain ⟨_,_,_,_,e⟩:=x;exact Heap.lt_size e
 | tup xs=>obtain ⟨_,_,_,p⟩:=x;exact p.lt
 | dK kvs=>obtain ⟨_,_,_,_,o,_,_,e,_⟩:=x;exact Heap.lt_size e
 | dT kvs=>obtain ⟨_,_,_,_,o,_,_,e,_⟩:=x;exact Heap.lt_size e
 | set S n=>obtain ⟨o,_,_,_,e,_⟩:=x;exact Heap.lt_size e
 | ins C dx fs=>obtain ⟨_,_,_,e,_⟩:=x;exact Heap.lt_size e
 | own y=>obtain ⟨_,e⟩:=x;exact Heap.lt_size e
 | xd fs=>obtain ⟨_,⟨_,_,_,e,_⟩,_⟩:=x;exact Heap.lt_size e
 | rng lo hi=>obtain ⟨_,_,_,e⟩:=x;exact Heap.lt_size e
 | frz ob u=>obtain ⟨e,_⟩:=x;exact Heap.lt_size e
 | tbl ps=>exact Heap.lt_size (show h.get? a=some _ from x)
 | met f y=>exact Heap.lt_size (show h.get? a=some _ from x)
 | ext φ=>obtain ⟨_,⟨_,e⟩,_⟩:=x;exact Heap.lt_size e
theorem Paired.mapP {α β:Type} {F G:α->β->Prop}:∀ {l₁:List α} {l₂:List β},Paired F l₁ l₂->(∀ a b,F a b->G a b)->Paired G l₁ l₂
 | _,_,.nil,_=>.nil
 | _,_,.cons r t,f=>.cons (f _ _ r) (Paired.mapP t f)
theorem ObjOk.stay (x:ObjOk P w H h a o) (k:∀ b u,(b=a\/H b=some (.own a))->h.get? b=some u->h'.get? b=some u)
  (ho:∀ b,H b=some (.own a)->H' b=some (.own a)) (ht:∀ b xs,H b=some (.tup xs)->H' b=some (.tup xs)):ObjOk P w H' h' a o:=by
 induction o with
 | lst xs=>obtain ⟨z,its,n,r,e⟩:=x;exact ⟨z,its,n,r,k _ _ (.inl rfl) e⟩
 | tup xs=>obtain ⟨z,its,r,ob,e,c⟩:=x;exact ⟨z,its,r,ob,k _ _ (.inl rfl) e,c⟩
 | dK kvs=>obtain ⟨z,y,vs,r,ob,es,ep,e,c⟩:=x;exact ⟨z,y,vs,r,ob,es,ep,k _ _ (.inl rfl) e,c⟩
 | dT kvs =>
  obtain ⟨z,y,xs,r,ob,es,ep,e,c⟩:=x;exact ⟨z,y,xs,Paired.mapP r λp q z=>⟨z.1,ht _ _ z.2.1,z.2.2⟩,ob,es,ep,k _ _ (.inl rfl) e,c⟩
 | set S n=>obtain ⟨ob,es,ep,t,e,c⟩:=x;exact ⟨ob,es,ep,t,k _ _ (.inl rfl) e,c⟩
 | ins C dx fs =>
  obtain ⟨d,z,ne,e,mA,⟨od,es,ep,e2,c⟩,r⟩:=x;exact ⟨ho _ d,z,ne,k _ _ (.inl rfl) e,mA,⟨od,es,ep,k _ _ (.inr d) e2,c⟩,r⟩
 | own y=>obtain ⟨ob,e⟩:=x;exact ⟨ob,k _ _ (.inl rfl) e⟩
 | xd fs=>obtain ⟨mA,⟨od,es,ep,e,c⟩,r⟩:=x;exact ⟨mA,⟨od,es,ep,k _ _ (.inl rfl) e,c⟩,r⟩
 | rng lo hi=>obtain ⟨t,u,v,e⟩:=x;exact ⟨t,u,v,k _ _ (.inl rfl) e⟩
 | frz ob u ih=>obtain ⟨e,q⟩:=x;exact ⟨k _ _ (.inl rfl) e,ih q⟩
 | tbl ps =>
  have e:h.get? a=some { cls:=.none,data:=.fields ps }:=x
  show h'.get? a=some { cls:=.none,data:=.fields ps }
  exact k a _ (.inl rfl) e
 | met f y =>
  have e:h.get? a=some (PySem.W.methodObj (.ref f) (.ref y)):=x
  show h'.get? a=some (PySem.W.methodObj (.ref f) (.ref y))
  exact k a _ (.inl rfl) e
 | ext φ=>obtain ⟨p,⟨o,e⟩,st⟩:=x;exact ⟨st _ _ p λo q=>k _ _ (.inl rfl) q,⟨o,k _ _ (.inl rfl) e⟩,st⟩
theorem HOk.lt (x:HOk P w H h) (e:H a=some o):a<h.objs.size:=(x a o e).lt
theorem HOk.fresh (x:HOk P w H h) (e:h.objs.size<=a):H a=none:=by
 cases q:H a with
 | none=>rfl
 | some u=>exact absurd (Nat.lt_of_lt_of_le (x.lt q) e) (Nat.lt_irrefl _)
theorem HOk.kept (x:HOk P w H h) (k:∀ b u,h.get? b=some u->h'.get? b=some u):HOk P w H h':=λa o e =>
 (x a o e).stay (λb u _ q=>k b u q) (λ_ q=>q) λ_ _ q=>q
theorem HOk.laid (x:HOk P w H h) (k:∀ b u,h.get? b=some u->h'.get? b=some u) (hp:h.objs.size<=a) (new:ObjOk P w (upd H a o) h' a o):HOk P w (upd H a o) h':=λb u e=>by
 have hn:=x.fresh hp
 by_cases hb:b=a
 ·subst hb;rw[qbp] at e;cases e;exact new
 ·rw[qa8 hb] at e
  exact (x b u e).stay (λc v _ q=>k c v q) (λc q=>by rw[qa8 (qah q hn)];exact q) λc xs q=>by rw[qa8 (qah q hn)];exact q
end
def Rd (H:Hp) (a:Addr) (u:HO):Prop:=H a=some u\/∃ o,H a=some (.frz o u)
theorem Rd.ok {P:Program} {w:World} {H:Hp} {h:Heap} {a:Addr} {u:HO} (r:Rd H a u) (x:HOk P w H h):ObjOk P w H h a u:=by
 rcases r with r|⟨o,r⟩
 ·exact x a u r
 ·obtain ⟨_,q⟩:=x a _ r
  exact q
def Mut:Option HO->Prop
 | some (.lst _)=>True
 | some (.dK _)=>True
 | some (.dT _)=>True
 | some (.set _ _)=>True
 | some (.ins _ _ _)=>True
 | some (.ext _)=>True
 | _=>False
section
variable {P:Program} {w:World} {H:Hp} {h h':Heap} {x e:Addr} {o':HO}
theorem HOk.write (ok:HOk P w H h) (mu:Mut (H x)) (he:e=x\/H e=some (.own x)) (k:∀ b u,b≠e->h.get? b=some u->h'.get? b=some u) (heo:∃ u,h'.get? e=some u)
  (new:ObjOk P w (upd H x o') h' x o'):HOk P w (upd H x o') h':=λb u q=>by
 have nown:∀ c y,H c=some (.own y)->c≠x:=λc y r z=>by subst z;rw[r] at mu;exact mu
 have ntup:∀ c xs,H c=some (.tup xs)->c≠x:=λc xs r z=>by subst z;rw[r] at mu;exact mu
 by_cases hb:b=x
 ·subst hb;rw[qbp] at q;cases q;exact new
 ·rw[qa8 hb] at q
  by_cases hbe:b=e
  ·have q':H b=some (.own x):=by
    rcases he with z|z
    ·exact absurd (hbe.trans z) hb
    ·rw[hbe];exact z
   rw[q] at q';cases q';obtain ⟨v,hv⟩:=heo;exact ⟨v,by rw[hbe];exact hv⟩
  ·refine (ok b u q).stay (λc v hc r=>k c v ?_ r) (λc r=>by rw[qa8 (nown c b r)];exact r) λc xs r=>by rw[qa8 (ntup c xs r)];exact r
   rcases hc with rfl|hc
   ·exact hbe
   ·rintro rfl
    rcases he with z|z
    ·exact nown c b hc z
    ·rw[hc] at z;cases z;exact hb rfl
end
structure Un (fs ex:List Addr) (H H':Hp) (h h':Heap):Prop where
 keep:∀ b o,h.get? b=some o->H b=none->b ∉ fs->b ∉ ex->h'.get? b=some o
 slot:∀ b o,h.get? b=some o->H b=none->b∈fs->b ∉ ex->∃ sl,h'.get? b=some { o with slots:=sl }
 free:∀ b o,h.get? b=some o->H b=none->b ∉ ex->H' b=none
 there:∀ b o,h.get? b=some o->b ∉ ex->∃ o',h'.get? b=some o'
 tups:∀ b xs,H b=some (.tup xs)->H' b=some (.tup xs)
 frzs:∀ b o u,H b=some (.frz o u)->H' b=some (.frz o u)
 tbls:∀ b ps,H b=some (.tbl ps)->∃ more,H' b=some (.tbl (ps ++ more))
section
variable {fs fs' ex ex':List Addr} {H H1 H2:Hp} {h h1 h2 h':Heap} {a x e:Addr} {o:HO}
theorem Un.any (u:Un fs ex H H1 h h1) {b:Addr} {ob:Obj} (q:h.get? b=some ob) (n:H b=none) (hx:b ∉ ex):∃ sl,h1.get? b=some { ob with slots:=sl }:=by
 by_cases hb:b∈fs
 ·exact u.slot b ob q n hb hx
 ·exact ⟨ob.slots,u.keep b ob q n hb hx⟩
theorem Un.kept (k:∀ b u,h.get? b=some u->h'.get? b=some u):Un fs ex H H h h':=
 ⟨λb ob q _ _ _=>k b ob q,λb ob q _ _ _=>⟨ob.slots,k b ob q⟩,λ_ _ _ n _=>n,λb ob q _=>⟨ob,k b ob q⟩,λ_ _ q=>q,λ_ _ _ q=>q,λ_ ps q=>⟨#[],by rw[q];simp⟩⟩
theorem Un.refl:Un fs ex H H h h:=Un.kept λ_ _ q=>q
theorem Un.laid (k:∀ b u,h.get? b=some u->h'.get? b=some u) (hp:h.objs.size<=a) (hn:H a=none):Un fs ex H (upd H a o) h h' where
 keep:=λb u q _ _ _=>k b u q
 slot:=λb u q _ _ _=>⟨u.slots,k b u q⟩
 free:=λb u q n _=>by rw[qa8 (Nat.ne_of_lt (Nat.lt_of_lt_of_le (Heap.lt_size q) hp))];exact n
 there:=λb u q _=>⟨u,k b u q⟩
 tups:=λb xs q=>by rw[qa8 (qah q hn)];exact q
 frzs:=λb u xs q=>by rw[qa8 (qah q hn)];exact q
 tbls:=λb ps q=>⟨#[],by rw[qa8 (qah q hn),q];simp⟩
theorem Un.write (mu:Mut (H x)) (he:e=x\/H e=some (.own x)) (k:∀ b u,b≠e->h.get? b=some u->h'.get? b=some u) (heo:∃ u,h'.get? e=some u):Un fs ex H (upd H x o) h h':=by
 have hx:∀ b,H b=none->b≠x:=λb n z=>by subst z;rw[n] at mu;exact mu
 have hb:∀ b,H b=none->b≠e:=λb n z=>by
  subst z
  rcases he with r|r
  ·exact hx b n r
  ·rw[n] at r;cases r
 have hm:∀ b u,H b=some u->¬ Mut (some u)->b≠x:=λb u q nm z=>by subst z;rw[q] at mu;exact nm mu
 refine ⟨λb u q n _ _=>k b u (hb b n) q,λb u q n _ _=>⟨u.slots,k b u (hb b n) q⟩,λb u q n _=>by rw[qa8 (hx b n)];exact n,λb u q _=>?_,
  λb xs q=>by rw[qa8 (hm b _ q λz=>z)];exact q,λb u xs q=>by rw[qa8 (hm b _ q λz=>z)];exact q,λb ps q=>⟨#[],by rw[qa8 (hm b _ q λz=>z),q];simp⟩⟩
 by_cases hbe:b=e
 ·subst hbe;exact heo
 ·exact ⟨u,k b u hbe q⟩
end
def trk (h:Heap) (H:Hp):List Addr:=(List.range h.objs.size).filter λa=>(H a).isSome
def qrs (h:Heap) (H:Hp):Heap:=PySem.W.hideAll h (trk h H)
theorem qo7 (h:Heap) (H:Hp):(qrs h H).objs.size=h.objs.size:=PySem.W.hideAll_size _ _
theorem qrt {h:Heap} {H:Hp} {b:Addr} {o:Obj} (e:h.get? b=some o) (n:H b=none):(qrs h H).get? b=some o:=
 PySem.W.hideAll_get _ e λhm=>by
  have q:(H b).isSome=true:=(List.mem_filter.mp hm).2;rw[n] at q;simp at q
theorem qud {h:Heap} {H:Hp} {b:Addr} {o:Obj} (e:(qrs h H).get? b=some o):h.get? b=some o/\H b=none:=by
 have e':h.get? b=some o:=PySem.W.of_hideAll (trk h H) e;refine ⟨e',?_⟩
 cases q:H b with
 | none=>rfl
 | some x =>
  have hm:b∈trk h H:=List.mem_filter.mpr ⟨List.mem_range.mpr (Heap.lt_size e'),by simp[q]⟩;have z:(qrs h H).get? b=none:=PySem.W.hideAll_none (trk h H) hm;rw[z] at e;cases e
def que (g h:Heap) (L:Addr):List (Addr×Obj):=(List.range h.objs.size).filterMap λa=>if a=L\/(g.get? a).isSome=true then none else (h.get? a).map λo=>(a,o)
def rest (g h:Heap) (L d:Addr):List (Addr×Obj):=(que g h L).filter λp=>decide (p.1≠d)
open PySem PySem.Spec PyProof.Rows
structure Mod (K:Frag) (mg:Str->Option Value) (base:Heap):Prop where
 kin:K.In base
 glob:base.Ns mainGlobals mg
 blt:∃ mb,base.Ns builtinsNs mb/\∀ x:Str,x ≠ "__name__" -> mb x=bootBuiltins x
 nolimit:base.NoLimit
 nodig:base.NoDigits
structure Cx where
 prog:Program
 w:World
 K:Frag
 mg:Str->Option Value
 base:Heap
 A:Around
 N:List Str
 s₀:Shared
 H₀:Hp
 env:Env
 outer:List Env
 stack:List Env
 ex:List Addr
 fn:Str->Bool
 calm:Bool
 pn:List (Addr×Obj)
 xe:Value->Shared->Prop
def frs (l:List Env):List Addr:=l.filterMap (·.frame)
abbrev Cx.fs (X:Cx):List Addr:=frs X.outer
def Vis (sc:Scope) (x:Str):Prop:=sc.names.lookup x=some .local\/sc.names.lookup x=some .cell\/sc.names.lookup x=some .free
def Loc (sc:Scope) (x:Str):Prop:=sc.names.lookup x=some .local\/sc.names.lookup x=some .cell
def Look (env:Env) (h:Heap) (m:Str->Option Value) (x:Str) (u:Value):Prop:=
 (env.kindOf x=some .local/\m x=some u)\/((env.kindOf x=some .cell\/env.kindOf x=some .free)/\∃ c,env.cells.lookup x=some c/\h.IsCell c (some u))
structure Cx.Ok (X:Cx):Prop where
 mod:Mod X.K X.mg X.base
 kind:X.env.scope.kind=.function
 glob:X.env.globals=mainGlobals
 blt:X.env.builtins=builtinsNs
 above:X.s₀.heap.objs.size<=X.env.locals
 inj:∀ x y c,X.env.cells.lookup x=some c->X.env.cells.lookup y=some c->x=y
 has:∀ x,(X.env.kindOf x=some .cell\/X.env.kindOf x=some .free)->∃ c,X.env.cells.lookup x=some c
 cab:∀ x c,X.fn x=true->X.env.cells.lookup x=some c->X.s₀.heap.objs.size<=c
 hd:X.calm=true->X.A.handled=none
 frames:X.A.frames=some X.stack
 stk:X.stack=X.outer\/(X.stack=X.env :: X.outer/\X.env.frame=some X.env.locals)
 exf:∀ b∈X.ex,b≠X.env.locals/\∀ x c,X.env.cells.lookup x=some c->c≠b
 bs:∀ b o,X.base.get? b=some o->X.s₀.heap.get? b=some o/\X.H₀ b=none
 bsz:X.base.objs.size<=X.s₀.heap.objs.size
 noex:∀ b o,X.base.get? b=some o->b ∉ X.ex
 exfs:∀ b∈X.ex,b ∉ X.fs
 funs:X.s₀.heap.FunFrames X.base X.outer
 frf:∀ b∈X.fs,X.H₀ b=none
structure Inv (X:Cx) (pins:List (Addr×Obj)) (σ:List (Option V)) (H:Hp) (s:Shared):Prop where
 ok:X.Ok
 os:s.os=X.s₀.os
 bare:AllBare s.gens
 base:Un X.fs X.ex X.H₀ H X.s₀.heap s.heap
 loc:∃ m,s.heap.Ns X.env.locals m/\∀ (i:Nat) (x:Str) (v:V),X.N[i]?=some x->σ[i]?=some (some v)->Vis X.env.scope x->∃ u,RelV v u/\Look X.env s.heap m x u
 cell:∀ x c,X.env.cells.lookup x=some c->∃ v,s.heap.IsCell c v
 free:H X.env.locals=none
 freeC:∀ x c,X.env.cells.lookup x=some c->H c=none
 pin:∀ p∈X.pn ++ pins,s.heap.get? p.1=some p.2/\H p.1=none/\p.1≠X.env.locals/\p.1 ∉ X.fs/\∀ v,p.2.data≠.cell v
 hok:HOk X.prog X.w H s.heap
 len:σ.length=X.N.length
section
variable {X:Cx} {pins:List (Addr×Obj)} {σ:List (Option V)} {H H':Hp} {s:Shared} {h':Heap}
theorem Cx.Ok.nofr (ok:X.Ok) {b:Addr} {o:Obj} (e:X.base.get? b=some o):b ∉ X.fs:=λhb=>by
 have:=(ok.funs.mem hb).1;rw[e] at this;cases this
theorem Inv.bs (I:Inv X pins σ H s):∀ b o,X.base.get? b=some o->s.heap.get? b=some o/\H b=none:=λb o e =>
 ⟨I.base.keep b o (I.ok.bs b o e).1 (I.ok.bs b o e).2 (I.ok.nofr e) (I.ok.noex b o e),I.base.free b o (I.ok.bs b o e).1 (I.ok.bs b o e).2 (I.ok.noex b o e)⟩
theorem Inv.bk (I:Inv X pins σ H s):∀ b o,X.base.get? b=some o->s.heap.get? b=some o:=λb o e=>(I.bs b o e).1
theorem Inv.mod (I:Inv X pins σ H s):Mod X.K X.mg X.base:=I.ok.mod
theorem Inv.kIn (I:Inv X pins σ H s):X.K.In s.heap:=I.ok.mod.kin.keeps I.bk
theorem Inv.lt (I:Inv X pins σ H s):X.env.locals<s.heap.objs.size:=let ⟨_,hn,_⟩:=I.loc;hn.lt
theorem Inv.sz (I:Inv X pins σ H s):X.s₀.heap.objs.size<=s.heap.objs.size:=Nat.le_trans I.ok.above (Nat.le_of_lt I.lt)
theorem Inv.nofs (I:Inv X pins σ H s) {a:Addr} (h:s.heap.objs.size<=a):a ∉ X.fs:=λhb=>by
 obtain ⟨_,o,ho,_⟩:=I.ok.funs.mem hb;exact absurd (Nat.lt_of_lt_of_le (Heap.lt_size ho) (Nat.le_trans I.sz h)) (Nat.lt_irrefl _)
theorem Inv.cne (I:Inv X pins σ H s):∀ x c,X.env.cells.lookup x=some c->c≠X.env.locals:=λx c e z=>by
 obtain ⟨v,o,ho,hd⟩:=I.cell x c e;obtain ⟨m,⟨o',es,ep,ho',hd',_⟩,_⟩:=I.loc;rw[z,ho'] at ho;cases ho;rw[hd'] at hd;cases hd
theorem Inv.funs (I:Inv X pins σ H s):s.heap.FunFrames X.base X.outer:=by
 have all:∀ (l:List Env),(∀ b∈frs l,b∈X.fs)->X.s₀.heap.FunFrames X.base l->s.heap.FunFrames X.base l:=by
  intro l
  induction l with
  | nil=>intro _ _;trivial
  | cons env r ih =>
   intro hs hl;obtain ⟨hk,⟨L,o,hf,hn,ho,hd⟩,hr⟩:=hl;have hL:L∈X.fs:=hs L (by unfold frs;rw[List.filterMap_cons,hf];exact List.mem_cons_self);obtain ⟨sl,e⟩:=I.base.slot L o ho (I.ok.frf L hL) hL λz=>I.ok.exfs L z hL
   exact ⟨hk,⟨L,_,hf,hn,e,hd⟩,ih (λb hb=>hs b (by unfold frs;rw[List.filterMap_cons,hf];exact List.mem_cons_of_mem _ hb)) hr⟩
 exact all X.outer (λ_ hb=>hb) I.ok.funs
theorem Inv.stack (I:Inv X pins σ H s):s.heap.FunFrames X.base X.stack:=by
 rcases I.ok.stk with e|⟨e,hf⟩
 ·rw[e];exact I.funs
 ·rw[e]
  obtain ⟨m,hn,_⟩:=I.loc;refine .cons (by rw[I.ok.kind];decide) hf hn ?_ I.funs;exact Heap.get?_none_of_le (Nat.le_trans I.ok.bsz I.ok.above)
theorem Inv.stkSub (I:Inv X pins σ H s):∀ b∈frs X.stack,b∈X.env.locals :: X.fs:=λb hb=>by
 rcases I.ok.stk with e|⟨e,hf⟩
 ·rw[e] at hb;exact List.mem_cons_of_mem _ hb
 ·rw[e] at hb
  unfold frs at hb;rw[List.filterMap_cons,hf] at hb;exact hb
theorem Inv.stkFree (I:Inv X pins σ H s):∀ b∈frs X.stack,H b=none:=λb hb=>by
 rcases List.mem_cons.mp (I.stkSub b hb) with e|hb
 ·rw[e];exact I.free
 ·obtain ⟨_,o,ho,_⟩:=I.ok.funs.mem hb
  exact I.base.free b o ho (I.ok.frf b hb) λz=>I.ok.exfs b z hb
theorem Inv.step {g':Array GenState} {t':Nat} {d':Drawn} {ch:List Addr} (I:Inv X pins σ H s)
  (hch:∀ b∈ch,(b∈X.ex\/X.s₀.heap.objs.size<=b)/\b≠X.env.locals/\(∀ x c,X.env.cells.lookup x=some c->c≠b)/\∀ p∈X.pn ++ pins,p.1≠b)
  (keep:∀ b o,b≠X.env.locals->b ∉ X.fs->b ∉ ch->s.heap.get? b=some o->H b=none->h'.get? b=some o)
  (slot:∀ b o,b≠X.env.locals->b∈X.fs->b ∉ ch->s.heap.get? b=some o->H b=none->∃ sl,h'.get? b=some { o with slots:=sl }) (free:∀ b o,b ∉ ch->s.heap.get? b=some o->H b=none->H' b=none)
  (there:∀ b o,b ∉ ch->s.heap.get? b=some o->∃ o',h'.get? b=some o')
  (tups:∀ b xs,H b=some (.tup xs)->H' b=some (.tup xs)) (frzs:∀ b o u,H b=some (.frz o u)->H' b=some (.frz o u)) (tbls:∀ b ps,H b=some (.tbl ps)->∃ more,H' b=some (.tbl (ps ++ more)))
  (ns:∀ m,s.heap.Ns X.env.locals m->h'.Ns X.env.locals m) (hok:HOk X.prog X.w H' h') (hg:AllBare g') :
  Inv X pins σ H' { s with heap:=h',gens:=g',drawn:=d',toks:=t' }:=by
 have neL:∀ b o,X.s₀.heap.get? b=some o->b≠X.env.locals:=λb o e=>Nat.ne_of_lt (Nat.lt_of_lt_of_le (Heap.lt_size e) I.ok.above)
 have neC:∀ b o,X.s₀.heap.get? b=some o->b ∉ X.ex->b ∉ ch:=λb o e hx hb=>by
  rcases (hch b hb).1 with z|z
  ·exact hx z
  ·exact absurd (Nat.lt_of_lt_of_le (Heap.lt_size e) z) (Nat.lt_irrefl _)
 have cellK:∀ x c,X.env.cells.lookup x=some c->∀ v,s.heap.IsCell c v->h'.IsCell c v:=λx c e v ⟨o,ho,hd⟩=>by
  have nch:c ∉ ch:=λz=>(hch c z).2.2.1 x c e rfl
  by_cases hc:c∈X.fs
  ·obtain ⟨sl,q⟩:=slot c o (I.cne x c e) hc nch ho (I.freeC x c e)
   exact ⟨_,q,hd⟩
  ·exact ⟨o,keep c o (I.cne x c e) hc nch ho (I.freeC x c e),hd⟩
 refine ⟨I.ok,I.os,hg,⟨λb o e n hb hx=>?_,λb o e n hb hx=>?_,λb o e n hx=>?_,λb o e hx=>?_,λb xs e=>tups b xs (I.base.tups b xs e),λb o xs e=>frzs b o xs (I.base.frzs b o xs e),λb ps e=>?_⟩,?_,λx c e=>?_,?_,λx c e=>?_,λp hp=>?_,hok,I.len⟩
 ·exact keep b o (neL b o e) hb (neC b o e hx) (I.base.keep b o e n hb hx) (I.base.free b o e n hx)
 ·obtain ⟨sl,e1⟩:=I.base.slot b o e n hb hx
  obtain ⟨sl',e2⟩:=slot b _ (neL b o e) hb (neC b o e hx) e1 (I.base.free b o e n hx);exact ⟨sl',e2⟩
 ·obtain ⟨o',e1⟩:=I.base.there b o e hx
  exact free b o' (neC b o e hx) e1 (I.base.free b o e n hx)
 ·obtain ⟨o',e1⟩:=I.base.there b o e hx
  exact there b o' (neC b o e hx) e1
 ·obtain ⟨m1,e1⟩:=I.base.tbls b ps e
  obtain ⟨m2,e2⟩:=tbls b _ e1;exact ⟨m1 ++ m2,by rw[e2,Array.append_assoc]⟩
 ·obtain ⟨m,hn,hl⟩:=I.loc
  refine ⟨m,ns m hn,λi x v e1 e2 e3=>?_⟩;obtain ⟨u,r,l⟩:=hl i x v e1 e2 e3;refine ⟨u,r,?_⟩
  rcases l with l|⟨k,c,e,z⟩
  ·exact .inl l
  ·exact .inr ⟨k,c,e,cellK x c e _ z⟩
 ·obtain ⟨v,z⟩:=I.cell x c e
  exact ⟨v,cellK x c e v z⟩
 ·obtain ⟨m,⟨o,_,_,ho,_⟩,_⟩:=I.loc
  exact free _ o (λz=>(hch _ z).2.1 rfl) ho I.free
 ·obtain ⟨v,o,ho,hd⟩:=I.cell x c e
  exact free c o (λz=>(hch c z).2.2.1 x c e rfl) ho (I.freeC x c e)
 ·obtain ⟨e,n,ne,nf,d⟩:=I.pin p hp
  have nch:p.1 ∉ ch:=λz=>(hch p.1 z).2.2.2 p hp rfl
  exact ⟨keep p.1 p.2 ne nf nch e n,free p.1 p.2 nch e n,ne,nf,d⟩
theorem Inv.un {t':Nat} (I:Inv X pins σ H s) (u:Un X.fs [] H H' s.heap h') (hok:HOk X.prog X.w H' h'):Inv X pins σ H' { s with heap:=h',toks:=t' }:=by
 obtain ⟨m,⟨o,es,ep,ho,r⟩,_⟩:=id I.loc;obtain ⟨sl,hL⟩:=u.any ho I.free (by simp);exact I.step (g':=s.gens) (d':=s.drawn) (ch:=[]) (λ_ z=>nomatch z) (λb o _ hb _ e n=>u.keep b o e n hb (by simp)) (λb o _ hb _ e n=>u.slot b o e n hb (by simp)) (λb o _ e n=>u.free b o e n (by simp)) (λb o _ e=>u.there b o e (by simp)) u.tups u.frzs u.tbls (λm' hm=>by
  obtain ⟨o',es',ep',ho',r'⟩:=hm;rw[ho] at ho';cases ho';exact ⟨_,es',ep',hL,r'⟩) hok I.bare
theorem Inv.call {g':Array GenState} {t':Nat} {d':Drawn} {ch:List Addr} (I:Inv X pins σ H s) (u:Un (frs X.stack) ch H H' s.heap h') (hok:HOk X.prog X.w H' h') (hg:AllBare g')
  (hch:∀ b∈ch,(b∈X.ex\/X.s₀.heap.objs.size<=b)/\b≠X.env.locals/\(∀ x c,X.env.cells.lookup x=some c->c≠b)/\∀ p∈X.pn ++ pins,p.1≠b) :
  Inv X pins σ H' { s with heap:=h',gens:=g',drawn:=d',toks:=t' }:=by
 obtain ⟨m,⟨o,es,ep,ho,r⟩,_⟩:=id I.loc;obtain ⟨sl,hL⟩:=u.any ho I.free λz=>(hch _ z).2.1 rfl
 exact I.step (ch:=ch) hch (λb o hL hb hc e n=>u.keep b o e n (λz=>(List.mem_cons.mp (I.stkSub b z)).elim hL hb) hc) (λb o _ _ hc e n=>u.any e n hc) (λb o hc e n=>u.free b o e n hc) (λb o hc e=>u.there b o e hc) u.tups u.frzs u.tbls (λm' hm=>by
  obtain ⟨o',es',ep',ho',r'⟩:=hm;rw[ho] at ho';cases ho';exact ⟨_,es',ep',hL,r'⟩) hok hg
theorem Inv.turned {t':Nat} {it:Addr} (I:Inv X pins σ H s) (k:∀ b o,b≠it->s.heap.get? b=some o->h'.get? b=some o) (hn:H it=none) (hL:it≠X.env.locals)
  (h1:it∈X.ex\/X.s₀.heap.objs.size<=it) (h2:∀ x c,X.env.cells.lookup x=some c->c≠it) (h3:∀ p∈X.pn ++ pins,p.1≠it):Inv X pins σ H { s with heap:=h',toks:=t' }:=by
 have nit:∀ b u,H b=some u->b≠it:=λb u e z=>by rw[z,hn] at e;cases e
 refine I.step (g':=s.gens) (d':=s.drawn) (ch:=[it]) (λb hb=>?_) (λb o _ _ hc e _=>k b o (λz=>hc (by simp[z])) e) (λb o _ _ hc e _=>⟨o.slots,k b o (λz=>hc (by simp[z])) e⟩) (λ_ _ _ _ n=>n)
  (λb o hc e=>⟨o,k b o (λz=>hc (by simp[z])) e⟩) (λ_ _ e=>e) (λ_ _ _ e=>e) (λb ps e=>⟨#[],by rw[e];simp⟩) (λm hm=>?_) (λb u e=>?_) I.bare
 ·have e:b=it:=by simpa using hb
  subst e;exact ⟨h1,hL,h2,h3⟩
 ·obtain ⟨o,es,ep,ho,r⟩:=hm
  exact ⟨o,es,ep,k _ o (Ne.symm hL) ho,r⟩
 ·refine (I.hok b u e).stay (λc v hc q=>k c v ?_ q) (λ_ q=>q) λ_ _ q=>q
  rcases hc with z|z
  ·rw[z];exact nit b u e
  ·exact nit c _ z
theorem Inv.tok (I:Inv X pins σ H s) (t:Nat):Inv X pins σ H { s with toks:=t }:=I.un (h':=s.heap) (t':=t) Un.refl I.hok
theorem Inv.kept {t':Nat} (I:Inv X pins σ H s) (k:∀ b u,s.heap.get? b=some u->h'.get? b=some u):Inv X pins σ H { s with heap:=h',toks:=t' }:=I.un (Un.kept k) (I.hok.kept k)
theorem Inv.laid {a:Addr} {o:HO} {t':Nat} (I:Inv X pins σ H s) (k:∀ b u,s.heap.get? b=some u->h'.get? b=some u) (hp:s.heap.objs.size<=a) (new:ObjOk X.prog X.w (upd H a o) h' a o) :
  Inv X pins σ (upd H a o) { s with heap:=h',toks:=t' }:=I.un (Un.laid k hp (I.hok.fresh hp)) (I.hok.laid k hp new)
theorem Inv.write {x e:Addr} {o:HO} {t':Nat} (I:Inv X pins σ H s) (mu:Mut (H x)) (he:e=x\/H e=some (.own x)) (k:∀ b u,b≠e->s.heap.get? b=some u->h'.get? b=some u) (heo:∃ u,h'.get? e=some u)
  (new:ObjOk X.prog X.w (upd H x o) h' x o):Inv X pins σ (upd H x o) { s with heap:=h',toks:=t' }:=I.un (Un.write mu he k heo) (I.hok.write mu he k heo new)
theorem Inv.weak {σ':List (Option V)} (I:Inv X pins σ H s) (hl:σ'.length=σ.length) (w:∀ (i:Nat) v,σ'[i]?=some (some v)->σ[i]?=some (some v)):Inv X pins σ' H s:=
 ⟨I.ok,I.os,I.bare,I.base,let ⟨m,hn,hl'⟩:=I.loc;⟨m,hn,λi x v e1 e2 e3=>hl' i x v e1 (w i v e2) e3⟩,I.cell,I.free,I.freeC,I.pin,I.hok,hl.trans I.len⟩
theorem Inv.pins_of {pins':List (Addr×Obj)} (I:Inv X pins σ H s) (h:∀ p∈pins',s.heap.get? p.1=some p.2/\H p.1=none/\p.1≠X.env.locals/\p.1 ∉ X.fs/\∀ v,p.2.data≠.cell v):Inv X pins' σ H s:=
 ⟨I.ok,I.os,I.bare,I.base,I.loc,I.cell,I.free,I.freeC,λp hp=>(List.mem_append.mp hp).elim (λz=>I.pin p (List.mem_append_left _ z)) (h p),I.hok,I.len⟩
theorem qjn {N:List Str} (hN:N.Nodup) {i j:Nat} {x:Str} (a:N[i]?=some x) (b:N[j]?=some x):i=j:=by
 obtain ⟨h1,e1⟩:=List.getElem?_eq_some_iff.mp a;obtain ⟨h2,e2⟩:=List.getElem?_eq_some_iff.mp b;exact (List.getElem_inj hN).mp (e1.trans e2.symm)
theorem qo8 {M:Model} {A:Around} {E:Value->Shared->Prop} {i:Nat} {x:Str} {v:V} {u:Value} {Q:Unit->Shared->Prop} (I:Inv X pins σ H s) (hN:X.N.Nodup) (hi:X.N[i]?=some x) (hx:Loc X.env.scope x) (r:RelV v u)
  (h:∀ s',Inv X pins (σ.set i (some v)) H s'->(∃ a,Heap.SameBut a s.heap s'.heap/\(a=X.env.locals\/X.env.cells.lookup x=some a))->Q () s') (hf:X.fn x=true\/X.env.scope.names.lookup x=some .local:=by first|exact .inl rfl|exact .inr rfl|assumption):wpAny M A (storeName X.env x u) Q E s:=by
 obtain ⟨m,hn,hl⟩:=id I.loc;have hcls:(X.env.scope.kind == .class || (X.env.scope.kind == .module && X.env.locals != X.env.globals))=false:=by rw[I.ok.kind];rfl
 have hiσ:i<σ.length:=by rw[I.len];exact (List.getElem?_eq_some_iff.mp hi).1
 have cne:=I.cne;have tracked:∀ {a:Addr} {h':Heap},(∃ o,s.heap.get? a=some o/\H a=none)->Heap.SameBut a s.heap h'->HOk X.prog X.w H h':=fun {a h'} ha hs b ob e=>by
  obtain ⟨_,_,hfree⟩:=ha;refine (I.hok b ob e).stay (λc w' hc q=>(hs.2 c ?_).trans q) (λ_ q=>q) λ_ _ q=>q
  rintro rfl
  rcases hc with rfl|hc
  ·rw[hfree] at e;cases e
  ·rw[hfree] at hc;cases hc
 rcases hx with hk|hk
 ·refine wpAny_storeName_local hk hn (λh' hn' hs=>?_) hcls
  obtain ⟨oL,_,_,hoL,_⟩:=id hn;refine h _ ⟨I.ok,I.os,I.bare,⟨λb o e n hb hx=>?_,λb o e n hb hx=>?_,I.base.free,λb o e hx=>?_,I.base.tups,I.base.frzs,I.base.tbls⟩,⟨_,hn',λj y v' e1 e2 e3=>?_⟩,λy c e=>?_,I.free,I.freeC,λp hp=>?_,tracked ⟨oL,hoL,I.free⟩ hs,by simpa using I.len⟩ ⟨_,hs,.inl rfl⟩
  ·exact (hs.2 b (Nat.ne_of_lt (Nat.lt_of_lt_of_le (Heap.lt_size e) I.ok.above))).trans (I.base.keep b o e n hb hx)
  ·obtain ⟨sl,e1⟩:=I.base.slot b o e n hb hx
   exact ⟨sl,(hs.2 b (Nat.ne_of_lt (Nat.lt_of_lt_of_le (Heap.lt_size e) I.ok.above))).trans e1⟩
  ·obtain ⟨o',e1⟩:=I.base.there b o e hx
   exact ⟨o',(hs.2 b (Nat.ne_of_lt (Nat.lt_of_lt_of_le (Heap.lt_size e) I.ok.above))).trans e1⟩
  ·by_cases hj:j=i
   ·subst hj
    rw[hi] at e1;cases e1;rw[List.getElem?_set_self hiσ] at e2;cases e2;exact ⟨u,r,.inl ⟨hk,by simp⟩⟩
   ·rw[List.getElem?_set_ne (Ne.symm hj)] at e2
    obtain ⟨u',r',q⟩:=hl j y v' e1 e2 e3;refine ⟨u',r',?_⟩
    rcases q with ⟨k,e⟩|⟨k,c,e,z⟩
    ·refine .inl ⟨k,?_⟩
     have:y≠x:=λe=>hj (qjn hN e1 (e ▸ hi))
     simp[this,e]
    ·exact .inr ⟨k,c,e,z.sameBut hs (cne y c e)⟩
  ·obtain ⟨w',z⟩:=I.cell y c e
   exact ⟨w',z.sameBut hs (cne y c e)⟩
  ·obtain ⟨e,n,ne,nf,d⟩:=I.pin p hp
   exact ⟨(hs.2 p.1 ne).trans e,n,ne,nf,d⟩
 ·have hfn:X.fn x=true:=by
   rcases hf with z|z
   ·exact z
   ·rw[z] at hk;cases hk
  obtain ⟨c,hc⟩:=I.ok.has x (.inl hk);obtain ⟨w',z⟩:=I.cell x c hc;refine wpAny_storeName_cell I.ok.kind hk hc z (λh' hc' hs=>?_);obtain ⟨oc,hoc,hocd⟩:=id z;refine h { s with heap:=h' } ⟨I.ok,I.os,I.bare,⟨λb o e n hb hx=>?_,λb o e n hb hx=>?_,I.base.free,λb o e hx=>?_,I.base.tups,I.base.frzs,I.base.tbls⟩,⟨m,hn.sameBut hs (Ne.symm (cne x c hc)),λj y v' e1 e2 e3=>?_⟩,λy c' e=>?_,I.free,I.freeC,λp hp=>?_,tracked ⟨oc,hoc,I.freeC x c hc⟩ hs,by simpa using I.len⟩ ⟨c,hs,.inr hc⟩
  ·exact (hs.2 b (Nat.ne_of_lt (Nat.lt_of_lt_of_le (Heap.lt_size e) (I.ok.cab x c hfn hc)))).trans (I.base.keep b o e n hb hx)
  ·obtain ⟨sl,e1⟩:=I.base.slot b o e n hb hx
   exact ⟨sl,(hs.2 b (Nat.ne_of_lt (Nat.lt_of_lt_of_le (Heap.lt_size e) (I.ok.cab x c hfn hc)))).trans e1⟩
  ·obtain ⟨o',e1⟩:=I.base.there b o e hx
   exact ⟨o',(hs.2 b (Nat.ne_of_lt (Nat.lt_of_lt_of_le (Heap.lt_size e) (I.ok.cab x c hfn hc)))).trans e1⟩
  ·by_cases hj:j=i
   ·subst hj
    rw[hi] at e1;cases e1;rw[List.getElem?_set_self hiσ] at e2;cases e2;exact ⟨u,r,.inr ⟨.inl hk,c,hc,hc'⟩⟩
   ·rw[List.getElem?_set_ne (Ne.symm hj)] at e2
    obtain ⟨u',r',q⟩:=hl j y v' e1 e2 e3;refine ⟨u',r',?_⟩
    rcases q with q|⟨k,c',e,z'⟩
    ·exact .inl q
    ·refine .inr ⟨k,c',e,z'.sameBut hs ?_⟩
     rintro rfl;exact hj (qjn hN e1 (I.ok.inj _ _ _ e hc ▸ hi))
  ·by_cases hcc:c'=c
   ·subst hcc;exact ⟨_,hc'⟩
   ·obtain ⟨w2,z2⟩:=I.cell y c' e
    exact ⟨w2,z2.sameBut hs hcc⟩
  ·obtain ⟨e,n,ne,nf,d⟩:=I.pin p hp
   refine ⟨(hs.2 p.1 ?_).trans e,n,ne,nf,d⟩;intro q;rw[q,hoc] at e;have q':oc=p.2:=Option.some.inj e;exact d w' (by rw[<- q'];exact hocd)
theorem qjo {M:Model} {A:Around} {E:Value->Shared->Prop} {i:Nat} {x:Str} {v:V} {u:Value} {Q:Unit->Shared->Prop} (I:Inv X pins σ H s) (hN:X.N.Nodup) (hi:X.N[i]?=some x) (hx:Loc X.env.scope x) (r:RelV v u)
  (h:∀ s',Inv X pins (σ.set i (some v)) H s'->Q () s') (hf:X.fn x=true\/X.env.scope.names.lookup x=some .local:=by first|exact .inl rfl|exact .inr rfl|assumption):wpAny M A (storeName X.env x u) Q E s:=
 qo8 I hN hi hx r (λs' I' _=>h s' I') hf
theorem Inv.call' {s':Shared} {ch:List Addr} (I:Inv X pins σ H s) (ho:s'.os=s.os) (u:Un (frs X.stack) ch H H' s.heap s'.heap) (hok:HOk X.prog X.w H' s'.heap) (hg:AllBare s'.gens)
  (hch:∀ b∈ch,(b∈X.ex\/X.s₀.heap.objs.size<=b)/\b≠X.env.locals/\(∀ x c,X.env.cells.lookup x=some c->c≠b)/\∀ p∈X.pn ++ pins,p.1≠b):Inv X pins σ H' s':=by
 obtain ⟨h',g',d',t',o'⟩:=s';have e:o'=s.os:=ho;subst e;exact I.call (g':=g') (t':=t') (d':=d') u hok hg hch
end
abbrev XK:=Value->Option Addr->Hp->Prop
abbrev St:=List (Option V)
abbrev VK:=V->Hp->Prop
abbrev TE:=St->Hp->VK->Prop
abbrev TT:=St->Hp->(Bool->Hp->Prop)->Prop
abbrev TA:=St->Hp->(List V->Hp->Prop)->Prop
structure Ends where
 nx:St->Hp->Prop
 rt:VK
 bk:St->Hp->Prop:=λ_ _=>False
 ct:St->Hp->Prop:=λ_ _=>False
abbrev TS:=Ends->St->Hp->Prop
def EP (X:Cx) (pins:List (Addr×Obj)) (σ:St) (Q:VK) (u:Value) (s':Shared):Prop:=∃ v H',Inv X pins σ H' s'/\RelV v u/\Q v H'
def TP (X:Cx) (pins:List (Addr×Obj)) (σ:St) (Q:Bool->Hp->Prop) (b:Bool) (s':Shared):Prop:=∃ H',Inv X pins σ H' s'/\Q b H'
def AP (X:Cx) (pins:List (Addr×Obj)) (σ:St) (Q:List V->Hp->Prop) (us:List Value) (s':Shared):Prop:=∃ vs H',Inv X pins σ H' s'/\Vals vs us/\Q vs H'
def SP (X:Cx) (pins:List (Addr×Obj)) (D:Ends) (f:Flow) (s':Shared):Prop:=
 match f with
 | .next=>∃ σ' H',Inv X pins σ' H' s'/\D.nx σ' H'
 | .brk=>∃ σ' H',Inv X pins σ' H' s'/\D.bk σ' H'
 | .cont=>∃ σ' H',Inv X pins σ' H' s'/\D.ct σ' H'
 | .ret u=>∃ v σ' H',Inv X pins σ' H' s'/\RelV v u/\D.rt v H'
def PE (X:Cx) (e:Expr) (t:TE):Prop:=
 ∀ (pins:List (Addr×Obj)) (s:Shared) (σ:St) (H:Hp) (Q:VK),Inv X pins σ H s->t σ H Q->wpAny (model X.prog X.w) X.A (eval e X.env) (EP X pins σ Q) X.xe s
def PT (X:Cx) (e:Expr) (t:TT):Prop:=
 ∀ (pins:List (Addr×Obj)) (s:Shared) (σ:St) (H:Hp) (Q:Bool->Hp->Prop),Inv X pins σ H s->t σ H Q->wpAny (model X.prog X.w) X.A (isTrue e X.env (eval e X.env)) (TP X pins σ Q) X.xe s
def PW (X:Cx) (e:Expr) (t:TT):Prop:=
 ∀ (whole:Sem Value) (pins:List (Addr×Obj)) (s:Shared) (σ:St) (H:Hp) (Q:Bool->Hp->Prop),Inv X pins σ H s->t σ H Q->wpAny (model X.prog X.w) X.A (isTrue e X.env whole) (TP X pins σ Q) X.xe s
theorem PW.pt {X:Cx} {e:Expr} {t:TT} (h:PW X e t):PT X e t:=h _
def PA (X:Cx) (es:List Expr) (t:TA):Prop:=
 ∀ (pos:Pos) (pins:List (Addr×Obj)) (s:Shared) (σ:St) (H:Hp) (Q:List V->Hp->Prop),Inv X pins σ H s->t σ H Q->wpAny (model X.prog X.w) X.A (spliced (backTo pos (starEach es X.env))) (AP X pins σ Q) X.xe s
def PS (X:Cx) (st:Stmt) (t:TS):Prop:=
 ∀ (pins:List (Addr×Obj)) (s:Shared) (σ:St) (H:Hp) (D:Ends),Inv X pins σ H s->t D σ H->wpAny (model X.prog X.w) X.A (exec st X.env) (SP X pins D) X.xe s
def PSs (X:Cx) (st:List Stmt) (t:TS):Prop:=
 ∀ (pins:List (Addr×Obj)) (s:Shared) (σ:St) (H:Hp) (D:Ends),Inv X pins σ H s->t D σ H->wpAny (model X.prog X.w) X.A (execs st X.env) (SP X pins D) X.xe s
theorem thn {α:Type} {t:Sem α} {Q Q':α->Shared->Prop} {M:Model} {A:Around} {E:Value->Shared->Prop} {s:Shared} (h:wpAny M A t Q E s) (hQ:∀ a s,Q a s->Q' a s):wpAny M A t Q' E s:=wpAny_mono h hQ λ_ _ x=>x
open PySem PySem.Spec PyProof.Rows
section
variable {X:Cx}
inductive tVarS (i:Nat) (σ:St) (H:Hp) (Q:VK):Prop
 | mk (v:V) (h:σ[i]?=some (some v)) (k:Q v H)
def qx9 (i:Nat):TE:=λσ H Q=>tVarS i σ H Q
def tC (v:V):TE:=λ_ H Q=>Q v H
theorem qwa {i:Nat} {x:Str} {pos:Pos} (hN:X.N[i]?=some x) (hv:Vis X.env.scope x) (hd:(x == ("__debug__" : Str))=false:=by decide) (hcd:(x == ("__classdict__" : Str))=false:=by decide):PE X (.Name x pos) (qx9 i):=by
 intro pins s σ H Q I h;obtain ⟨v,e,h⟩:=h;obtain ⟨m,hn,hl⟩:=I.loc;obtain ⟨u,r,l⟩:=hl i x v hN e hv;have fin:EP X pins σ Q u s:=⟨v,H,I,r,h⟩
 rcases l with ⟨hk,hm⟩|⟨hk,c,hc,hcell⟩
 ·exact wpAny_Name (wpAny_loadName_local I.ok.kind hk hn hm fin) hd
 ·rcases hk with hk|hk
  ·exact wpAny_Name (wpAny_loadName_cell I.ok.kind hk hc hcell fin) hd
  ·exact wpAny_Name (wpAny_loadName_free I.ok.kind hk hc hcell fin hcd) hd
theorem qae {i j pos}:PE X (.Constant (.int i) j pos) (tC (.int i)):=λ_ _ _ H _ I h=>wpAny_Constant_int ⟨.int i,H,I.tok _,⟨_,rfl⟩,h⟩
theorem qfx {b j pos}:PE X (.Constant (.bool b) j pos) (tC (.bl b)):=λ_ _ _ H _ I h=>Constant_bool ⟨.bl b,H,I,rfl,h⟩
theorem qdj {j pos}:PE X (.Constant .none j pos) (tC .non):=λ_ _ _ H _ I h=>Constant_none ⟨.non,H,I,rfl,h⟩
theorem qd4 {x j pos}:PE X (.Constant (.str x) j pos) (tC (.str x)):=λ_ _ _ H _ I h=>Calls.Constant_str ⟨.str x,H,I.tok _,⟨_,rfl⟩,h⟩
def Gl (X:Cx) (x:Str):Prop:=X.env.kindOf x=some .globalImplicit
theorem qgd {E:Value->Shared->Prop} {pins:List (Addr×Obj)} {s:Shared} {σ:St} {H:Hp} {x:Str} {u:Value} {pos:Pos} {Q:Value->Shared->Prop} (I:Inv X pins σ H s) (hg:Gl X x) (hm:X.mg x=some u) (h:Q u s)
  (hd:(x == ("__debug__" : Str))=false:=by decide):wpAny (model X.prog X.w) X.A (eval (.Name x pos) X.env) Q E s:=
 Calls.Name_function_global I.ok.kind hg (Calls.loadGlobal_global (by rw[I.ok.glob];exact I.mod.glob.keeps I.bk) hm h) hd
theorem qkj {E:Value->Shared->Prop} {pins:List (Addr×Obj)} {s:Shared} {σ:St} {H:Hp} {x:Str} {u:Value} {pos:Pos} {Q:Value->Shared->Prop} (I:Inv X pins σ H s) (hg:Gl X x) (hm:X.mg x=none) (hv:bootBuiltins x=some u) (h:Q u s)
  (hn:x ≠ "__name__" :=by decide) (hd:(x == ("__debug__" : Str))=false:=by decide):wpAny (model X.prog X.w) X.A (eval (.Name x pos) X.env) Q E s:=by
 obtain ⟨mb,h1,h2⟩:=I.mod.blt;exact Calls.Name_function_global I.ok.kind hg (Calls.loadGlobal_builtin (by rw[I.ok.glob];exact I.mod.glob.keeps I.bk) hm (by rw[I.ok.blt];exact h1.keeps I.bk) ((h2 x hn).trans hv) h) hd
theorem qen {x:Str} {v:V} {u:Value} {pos:Pos} (hg:Gl X x) (hm:X.mg x=some u) (r:RelV v u) (hd:(x == ("__debug__" : Str))=false:=by decide):PE X (.Name x pos) (tC v):=
 λ_ _ _ H _ I h=>qgd I hg hm ⟨v,H,I,r,h⟩ hd
theorem qeo {x:Str} {v:V} {u:Value} {pos:Pos} (hg:Gl X x) (hm:X.mg x=none) (hv:bootBuiltins x=some u) (r:RelV v u) (hn:x ≠ "__name__" :=by decide) (hd:(x == ("__debug__" : Str))=false:=by decide):PE X (.Name x pos) (tC v):=
 λ_ _ _ H _ I h=>qkj I hg hm hv ⟨v,H,I,r,h⟩ hn hd
variable {a b:Expr} {ta tb:TE} {pos:Pos}
def PC (X:Cx) (op:CmpOp) (a b:Expr) (t:TE):Prop:=
 ∀ (pins:List (Addr×Obj)) (s:Shared) (σ:St) (H:Hp) (Q:VK),Inv X pins σ H s->t σ H Q ->
  wpAny (model X.prog X.w) X.A (eval a X.env) (λv s₁=>wpAny (model X.prog X.w) X.A (eval b X.env) (λu s₂=>wpAny (model X.prog X.w) X.A (compareOp op v u) (EP X pins σ Q) X.xe s₂) X.xe s₁) X.xe s
theorem qru (b:Expr) {op:CmpOp} (h:op≠.In) (h2:op≠.NotIn):behindInMarks op b=false:=by
 have e1:(op == CmpOp.In)=false:=by cases op<;>first|rfl|exact absurd rfl h
 have e2:(op == CmpOp.NotIn)=false:=by cases op<;>first|rfl|exact absurd rfl h2
 cases b<;>simp[behindInMarks,e1,e2]
inductive tBS (x:V) (H:Hp) (Q:Bool->Hp->Prop):Prop
 | mk (c:Bool) (h:x=.bl c) (k:Q c H)
def tB (t:TE):TT:=λσ H Q=>t σ H λx H1=>tBS x H1 Q
theorem qmu {op:CmpOp} {t:TE} (h:PC X op a b t) (h1:behindInMarks op b=false:=by first|exact qru _ (by decide) (by decide)|rfl):PT X (.Compare a [op] [b] pos) (tB t):=by
 intro pins s σ H Q I hw;refine wpAny_isTrue_Compare1 (thn (h pins s σ H _ I hw) λv s1 h1=>thn h1 λu s2 h2=>thn h2 λc s3 hq__=>?_) h1;obtain ⟨x,H1,I1,r1,q1⟩:=hq__;obtain ⟨d,rfl,q⟩:=q1;cases r1;exact wpAny_truthy_bool ⟨H1,I1,q⟩
theorem qda {e:Expr} {t:TE} (h:PE X e t) (he:∀ whole,isTrue e X.env whole=(do let v <- whole;standAt e.pos;holding [v] (truthy v)):=by intro _;rfl):PT X e (tB t):=by
 intro pins s σ H Q I hw;refine isTrue_plain (thn (h pins s σ H _ I hw) λv s1 hq__=>?_) (he _);obtain ⟨x,H1,I1,r1,q1⟩:=hq__;obtain ⟨d,rfl,q⟩:=q1;cases r1;exact wpAny_truthy_bool ⟨H1,I1,q⟩
variable {tA tB':TT} {rest:List Expr}
def qAa (t u:TT):TT:=λσ H Q=>t σ H λc H1=>if c=true then u σ H1 Q else Q false H1
def tOr (t u:TT):TT:=λσ H Q=>t σ H λc H1=>if c=true then Q true H1 else u σ H1 Q
def qAb (t:TT):TT:=λσ H Q=>t σ H λc H1=>Q (!c) H1
theorem qhe (ha:PT X a tA):PW X (.BoolOp .And [a] pos) tA:=by
 intro wh pins s σ H Q I h;refine isTrue_and (thn (ha pins s σ H Q I h) λc s1 e=>?_)
 cases c with
 | true=>exact isTrue_and_nil e
 | false=>exact e
theorem qfy (ha:PT X a tA):PW X (.BoolOp .Or [a] pos) tA:=by
 intro wh pins s σ H Q I h;refine isTrue_or (thn (ha pins s σ H Q I h) λc s1 e=>?_)
 cases c with
 | false=>exact isTrue_or_nil e
 | true=>exact e
theorem qkk (ha:PT X a tA) (hb:PW X (.BoolOp .And (b :: rest) pos) tB'):PW X (.BoolOp .And (a :: b :: rest) pos) (qAa tA tB'):=by
 intro wh pins s σ H Q I h;refine isTrue_and (thn (ha pins s σ H _ I h) λc s1 hq__=>?_);obtain ⟨H1,I1,q1⟩:=hq__
 cases c with
 | true=>exact hb wh pins s1 σ H1 Q I1 q1
 | false=>exact ⟨H1,I1,q1⟩
theorem qit (ha:PT X a tA) (hb:PW X (.BoolOp .Or (b :: rest) pos) tB'):PW X (.BoolOp .Or (a :: b :: rest) pos) (tOr tA tB'):=by
 intro wh pins s σ H Q I h;refine isTrue_or (thn (ha pins s σ H _ I h) λc s1 hq__=>?_);obtain ⟨H1,I1,q1⟩:=hq__
 cases c with
 | true=>exact ⟨H1,I1,q1⟩
 | false=>exact hb wh pins s1 σ H1 Q I1 q1
theorem qd5 (ha:PT X a tA):PT X (.UnaryOp .Not a pos) (qAb tA):=by
 intro pins s σ H Q I h;exact isTrue_not (ha pins s σ H (λc H1=>Q (!c) H1) I h)
inductive tAndVS (tb:TE) (σ:St) (x:V) (H:Hp) (Q:VK):Prop
 | mk (c:Bool) (h:x=.bl c) (k:if c=true then tb σ H Q else Q (.bl false) H)
def qyk (ta tb:TE):TE:=λσ H Q=>ta σ H λx H1=>tAndVS tb σ x H1 Q
inductive tOrVS (tb:TE) (σ:St) (x:V) (H:Hp) (Q:VK):Prop
 | mk (c:Bool) (h:x=.bl c) (k:if c=true then Q (.bl true) H else tb σ H Q)
def qAc (ta tb:TE):TE:=λσ H Q=>ta σ H λx H1=>tOrVS tb σ x H1 Q
inductive tNotVS (x:V) (H:Hp) (Q:VK):Prop
 | mk (c:Bool) (h:x=.bl c) (k:Q (.bl (!c)) H)
def qyl (ta:TE):TE:=λσ H Q=>ta σ H λx H1=>tNotVS x H1 Q
theorem qi2 {op} {t:TE} (h:PE X a t):PE X (.BoolOp op [a] pos) t:=λpins s σ H Q I hw=>BoolOp_one (h pins s σ H Q I hw)
theorem qgu (ha:PE X a ta) (hb:PE X (.BoolOp .And (b :: rest) pos) tb):PE X (.BoolOp .And (a :: b :: rest) pos) (qyk ta tb):=by
 intro pins s σ H Q I h;refine BoolOp_and (thn (ha pins s σ H _ I h) λv s1 hq__=>?_);obtain ⟨x,H1,I1,r1,q1⟩:=hq__;obtain ⟨c,rfl,q1⟩:=q1;cases r1;refine wpAny_truthy_bool ?_
 cases c with
 | true=>exact hb pins s1 σ H1 Q I1 q1
 | false=>exact ⟨.bl false,H1,I1,rfl,q1⟩
theorem qym (ha:PE X a ta) (hb:PE X (.BoolOp .Or (b :: rest) pos) tb):PE X (.BoolOp .Or (a :: b :: rest) pos) (qAc ta tb):=by
 intro pins s σ H Q I h;refine BoolOp_or (thn (ha pins s σ H _ I h) λv s1 hq__=>?_);obtain ⟨x,H1,I1,r1,q1⟩:=hq__;obtain ⟨c,rfl,q1⟩:=q1;cases r1;refine wpAny_truthy_bool ?_
 cases c with
 | false=>exact hb pins s1 σ H1 Q I1 q1
 | true=>exact ⟨.bl true,H1,I1,rfl,q1⟩
theorem qwb (ha:PE X a ta):PE X (.UnaryOp .Not a pos) (qyl ta):=by
 intro pins s σ H Q I h;refine UnaryOp_ (thn (ha pins s σ H _ I h) λv s1 hq__=>?_);obtain ⟨x,H1,I1,r1,q1⟩:=hq__;obtain ⟨c,rfl,q1⟩:=q1;cases r1;exact not_of (wpAny_truthy_bool ⟨.bl (!c),H1,I1,rfl,q1⟩)
def tIf (t:TT) (ta tb:TE):TE:=λσ H Q=>t σ H λc H1=>if c=true then ta σ H1 Q else tb σ H1 Q
theorem qrv {c:Expr} (hc:PT X c tA) (ha:PE X a ta) (hb:PE X b tb):PE X (.IfExp c a b pos) (tIf tA ta tb):=by
 intro pins s σ H Q I h;refine wpAny_IfExp (thn (hc pins s σ H _ I h) λd s1 hq__=>?_);obtain ⟨H1,I1,q1⟩:=hq__
 cases d with
 | true=>exact ha pins s1 σ H1 Q I1 q1
 | false=>exact hb pins s1 σ H1 Q I1 q1
end
open PySem PySem.Spec PyProof.Rows
def SqL (K:Frag) (H:Hp) (a:Addr) (xs:List V):Prop:=
 Rd H a (.lst xs) \/
  ∃ (o:Obj) (its:Array Value) (n:Nat),K.lookup a=some o/\o.cls=.type "list" /\ o.dict=none/\o.data=.seq its n/\its.size<=sizeLine/\Vals xs its.toList
def SqT (K:Frag) (H:Hp) (a:Addr) (xs:List V):Prop:=
 Rd H a (.tup xs) \/
  ∃ (o:Obj) (its:Array Value) (n:Nat),K.lookup a=some o/\o.cls=.type "tuple" /\ o.data=.seq its n/\its.size<=sizeLine/\Vals xs its.toList
def qAd:Value->Option V
 | .none=>some .non
 | .bool b=>some (.bl b)
 | .int i _=>some (.int i)
 | .str x _=>some (.str x)
 | .bytes b _=>some (.byt b)
 | .float b _=>some (.flt b)
 | .ref a=>some (.ref a)
 | .type n=>some (.ty n)
 | _=>none
theorem RelV.abs {x:V} {u:Value} (r:RelV x u):qAd u=some x:=by
 cases x with
 | non=>cases r;rfl
 | bl _=>cases r;rfl
 | int _=>obtain ⟨t,rfl⟩:=r;rfl
 | str _=>obtain ⟨t,rfl⟩:=r;rfl
 | byt _=>obtain ⟨t,rfl⟩:=r;rfl
 | flt _=>obtain ⟨t,rfl⟩:=r;rfl
 | ref _=>cases r;rfl
 | ty _=>cases r;rfl
theorem RelV.inj {x y:V} {u:Value} (r:RelV x u) (q:RelV y u):x=y:=Option.some.inj (r.abs.symm.trans q.abs)
theorem Vals.inj:∀ {xs ys:List V} {us:List Value},Vals xs us->Vals ys us->xs=ys
 | _,_,_,.nil,.nil=>rfl
 | _,_,_,.cons r t,.cons r' t'=>by rw[r.inj r',Vals.inj t t']
section
variable {X:Cx} {pins:List (Addr×Obj)} {σ:St} {H:Hp} {s:Shared} {a:Addr} {xs ys:List V}
theorem SqL.of {K:Frag} (h:H a=some (.lst xs)):SqL K H a xs:=.inl (.inl h)
theorem SqT.of {K:Frag} (h:H a=some (.tup xs)):SqT K H a xs:=.inl (.inl h)
theorem Inv.list (I:Inv X pins σ H s) (h:SqL X.K H a xs):∃ its:List Value,Vals xs its/\PlainL s.heap a its.toArray/\xs.length<=sizeLine:=by
 rcases h with h|⟨o,its,n,hk,hc,hd,hs,hz,r⟩
 ·obtain ⟨z,its,n,r,e⟩:=h.ok I.hok
  exact ⟨its,r,⟨_,n,e,rfl,rfl,rfl⟩,z⟩
 ·refine ⟨its.toList,r,⟨o,n,I.kIn a o hk,hc,hd,by simpa using hs⟩,?_⟩
  have e:=r.length;simp only[Array.length_toList] at e;omega
theorem Inv.tuple (I:Inv X pins σ H s) (h:SqT X.K H a xs):∃ its:List Value,Vals xs its/\IsTup s.heap a its.toArray/\xs.length<=sizeLine:=by
 rcases h with h|⟨o,its,n,hk,hc,hs,hz,r⟩
 ·obtain ⟨z,its,r,p⟩:=h.ok I.hok
  exact ⟨its,r,p,z⟩
 ·refine ⟨its.toList,r,⟨o,I.kIn a o hk,hc,n,by simpa using hs⟩,?_⟩
  have e:=r.length;simp only[Array.length_toList] at e;omega
theorem Inv.list_inj (I:Inv X pins σ H s) (h:SqL X.K H a xs) (h':SqL X.K H a ys):xs=ys:=by
 obtain ⟨its,r,⟨o,n,e,_,_,d⟩,_⟩:=I.list h;obtain ⟨its',r',⟨o',n',e',_,_,d'⟩,_⟩:=I.list h';rw[e] at e';cases e';rw[d] at d';injection d' with d1 _
 have:its=its':=by simpa using congrArg Array.toList d1
 subst this;exact r.inj r'
end
abbrev Cx.wish (X:Cx) (E:Value->Shared->Prop):Cx:={ X with xe:=E }
abbrev Cx.nox (X:Cx):Cx:=X.wish λ_ _=>False
theorem Cx.Ok.wish {X:Cx} (ok:X.Ok) (E:Value->Shared->Prop):(X.wish E).Ok:=
 ⟨ok.mod,ok.kind,ok.glob,ok.blt,ok.above,ok.inj,ok.has,ok.cab,ok.hd,ok.frames,ok.stk,ok.exf,ok.bs,ok.bsz,ok.noex,ok.exfs,ok.funs,ok.frf⟩
theorem Cx.Ok.unwish {X:Cx} {E:Value->Shared->Prop} (ok:(X.wish E).Ok):X.Ok:=
 ⟨ok.mod,ok.kind,ok.glob,ok.blt,ok.above,ok.inj,ok.has,ok.cab,ok.hd,ok.frames,ok.stk,ok.exf,ok.bs,ok.bsz,ok.noex,ok.exfs,ok.funs,ok.frf⟩
section
variable {X:Cx} {pins:List (Addr×Obj)} {σ:St} {H:Hp} {s:Shared} {E:Value->Shared->Prop}
theorem Inv.wish (I:Inv X pins σ H s) (E:Value->Shared->Prop):Inv (X.wish E) pins σ H s:=⟨I.ok.wish E,I.os,I.bare,I.base,I.loc,I.cell,I.free,I.freeC,I.pin,I.hok,I.len⟩
theorem Inv.unwish (I:Inv (X.wish E) pins σ H s):Inv X pins σ H s:=⟨I.ok.unwish,I.os,I.bare,I.base,I.loc,I.cell,I.free,I.freeC,I.pin,I.hok,I.len⟩
theorem SP.unwish {D:Ends} {f:Flow} {s':Shared} (h:SP (X.wish E) pins D f s'):SP X pins D f s':=by
 cases f with
 | next=>obtain ⟨σ',H',I,q⟩:=h;exact ⟨σ',H',I.unwish,q⟩
 | brk=>obtain ⟨σ',H',I,q⟩:=h;exact ⟨σ',H',I.unwish,q⟩
 | cont=>obtain ⟨σ',H',I,q⟩:=h;exact ⟨σ',H',I.unwish,q⟩
 | ret u=>obtain ⟨v,σ',H',I,r,q⟩:=h;exact ⟨v,σ',H',I.unwish,r,q⟩
theorem PSs.nox {st:List Stmt} {t:TS} (h:PSs X.nox st t):PSs X st t:=λpins s σ H D I hw =>
 wpAny_mono (h pins s σ H D (I.wish _) hw) (λ_ _ q=>q.unwish) λ_ _ z=>False.elim z
end
section
variable {X:Cx} {st:Stmt} {rest:List Stmt} {t u:TS} {e:Expr} {te:TE} {pos:Pos}
def qyn:TS:=λD σ H=>D.nx σ H
def qzx (t u:TS):TS:=λD σ H=>t { D with nx:=u D } σ H
theorem qao:PSs X [] qyn:=λ_ _ σ H _ I h=>wpAny_execs_nil ⟨σ,H,I,h⟩
theorem qac (h1:PS X st t) (h2:PSs X rest u):PSs X (st :: rest) (qzx t u):=by
 intro pins s σ H D I h;refine wpAny_execs_cons (thn (h1 pins s σ H { D with nx:=u D } I h) λf s1 q=>?_)
 cases f with
 | next =>
  obtain ⟨σ',H',I',q⟩:=q;exact h2 pins s1 σ' H' D I' q
 | ret v=>exact q
 | brk=>exact q
 | cont=>exact q
theorem qaf (h1:PS X st t):PSs X [st] t:=by
 intro pins s σ H D I h;refine wpAny_execs_cons (thn (h1 pins s σ H D I h) λf s1 q=>?_)
 cases f with
 | next=>exact wpAny_execs_nil q
 | ret v=>exact q
 | brk=>exact q
 | cont=>exact q
theorem Inv.quiet {pins:List (Addr×Obj)} {σ:St} {H:Hp} {s:Shared} (I:Inv X pins σ H s):interactive X.env=false:=by simp[interactive,I.ok.kind]
def qyo (te:TE):TS:=λD σ H=>te σ H λ_ H1=>D.nx σ H1
theorem qby (he:PE X e te) (hs:swapsWith e none pos.line X.env=pure false:=by rfl):PS X (.Expr e pos) (qyo te):=by
 intro pins s σ H D I h;exact wpAny_Expr_any (thn (he pins s σ H _ I h) λv s1 ⟨x,H1,I1,r1,q1⟩=>⟨σ,H1,I1,q1⟩) I.quiet hs
def qAe (te:TE):TS:=λD σ H=>te σ H D.rt
theorem qam (he:PE X e te):PS X (.Return (some e) pos) (qAe te):=by
 intro pins s σ H D I h;exact wpAny_Return_some (thn (he pins s σ H _ I h) λv s1 ⟨x,H1,I1,r1,q1⟩=>⟨x,σ,H1,I1,r1,q1⟩)
def qyp:TS:=λD _ H=>D.rt .non H
theorem quf:PS X (.Return none pos) qyp:=λ_ _ σ H _ I h=>wpAny_Return_none ⟨.non,σ,H,I,rfl,h⟩
def qAf (c:TT) (t u:TS):TS:=λD σ H=>c σ H λb H1=>if b=true then t D σ H1 else u D σ H1
theorem qbc {c:Expr} {a b:List Stmt} {tc:TT} (hc:PT X c tc) (ha:PSs X a t) (hb:PSs X b u):PS X (.If c a b pos) (qAf tc t u):=by
 intro pins s σ H D I h;refine wpAny_If (thn (hc pins s σ H _ I h) λd s1 hq__=>?_);obtain ⟨H1,I1,q1⟩:=hq__
 cases d with
 | true=>exact ha pins s1 σ H1 D I1 q1
 | false=>exact hb pins s1 σ H1 D I1 q1
def qwc:TS:=λ_ _ _=>False
theorem qde:PS X st qwc:=λ_ _ _ _ _ _ h=>h.elim
end
abbrev TG:=V->St->Hp->(St->Hp->Prop)->Prop
abbrev TGs:=List V->St->Hp->(St->Hp->Prop)->Prop
def PG (X:Cx) (target:Expr) (t:TG):Prop:=
 ∀ (pins:List (Addr×Obj)) (s:Shared) (σ:St) (H:Hp) (v:V) (u:Value) (Q:St->Hp->Prop),Inv X pins σ H s->RelV v u->t v σ H Q ->
  wpAny (model X.prog X.w) X.A (assign target X.env u) (λ_ s'=>∃ σ' H',Inv X pins σ' H' s'/\Q σ' H') X.xe s
def PGs (X:Cx) (ts:List Expr) (t:TGs):Prop:=
 ∀ (pins:List (Addr×Obj)) (s:Shared) (σ:St) (H:Hp) (vs:List V) (us:List Value) (Q:St->Hp->Prop),Inv X pins σ H s->Vals vs us->t vs σ H Q ->
  wpAny (model X.prog X.w) X.A (assignInOrder ((assignEach ts X.env).map (·.2)) us) (λ_ s'=>∃ σ' H',Inv X pins σ' H' s'/\Q σ' H') X.xe s
section
variable {X:Cx} {pos:Pos}
def qiu (i:Nat):TG:=λv σ H Q=>Q (σ.set i (some v)) H
theorem qas {i:Nat} {x:Str} (hN:X.N.Nodup) (hi:X.N[i]?=some x) (hx:Loc X.env.scope x) (hf:X.fn x=true\/X.env.scope.names.lookup x=some .local:=by first|exact .inl rfl|exact .inr rfl|assumption):PG X (.Name x pos) (qiu i):=by
 intro pins s σ H v u Q I r h;exact wpAny_assign_Name (qjo I hN hi hx r (λs' I'=>⟨_,H,I',h⟩) hf)
def qyq:TGs:=λvs σ H Q=>vs=[]/\Q σ H
def qo9 (t:TG) (u:TGs):TGs:=λvs σ H Q=>∃ v r,vs=v :: r/\t v σ H λσ' H'=>u r σ' H' Q
theorem qc7:PGs X [] qyq:=by
 intro pins s σ H vs us Q I r h;obtain ⟨e,h⟩:=h;subst e;cases r;exact assignInOrder_nil ⟨σ,H,I,h⟩
theorem qav {e:Expr} {es:List Expr} {t:TG} {u:TGs} (h1:PG X e t) (h2:PGs X es u)
  (hs:(assignEach (e :: es) X.env).map (·.2)=assign e X.env :: (assignEach es X.env).map (·.2):=by rfl):PGs X (e :: es) (qo9 t u):=by
 intro pins s σ H vs us Q I r h;obtain ⟨v,vr,e1,h⟩:=h;subst e1
 cases r with
 | cons r rr =>
  rw[hs];refine assignInOrder_cons (thn (h1 pins s σ H _ _ _ I r h) λ_ s1 hq__=>?_);obtain ⟨σ1,H1,I1,q1⟩:=hq__;exact h2 pins s1 σ1 H1 _ _ Q I1 rr q1
def qyr (K:Frag) (n:Nat) (t:TGs):TG:=λv σ H Q=>∃ a xs,v=.ref a/\SqT K H a xs/\xs.length=n/\t xs σ H Q
theorem qeu {es:List Expr} {k:Nat} {t:TGs} {n:Nat} (hc:X.calm=true) (h:PGs X es t)
  (hn:(assignEach es X.env).length=n:=by rfl) (hst:(assignEach es X.env).findIdx? (·.1)=none:=by rfl):PG X (.Tuple es k pos) (qyr X.K n t):=by
 intro pins s σ H v u Q I r hw;obtain ⟨a,xs,e1,hq,hl,hw⟩:=hw;subst e1;cases r;obtain ⟨its,rv,ht,hz⟩:=I.tuple hq;refine assign_Tuple_tuple (I.ok.hd hc) ht (by simp[hn,<- hl,rv.length]) hst λh' hx=>?_
 have I1:Inv X pins σ H { s with heap:=h' }:=I.kept (t':=s.toks) λb o e=>hx b o (Nat.ne_of_lt (Heap.lt_size e)) e
 exact h pins _ σ H xs _ Q I1 (by simpa using rv) hw
def qys (te:TE) (g:TG):TS:=λD σ H=>te σ H λx H1=>g x σ H1 D.nx
theorem qpa {tg e:Expr} {te:TE} {g:TG} (he:PE X e te) (hg:PG X tg g) (hs:swapsWithSole [tg] e pos.line X.env=pure false:=by rfl) (hw:swappedStores [tg] e X.env=pure none:=by rfl)
  (h1:(assignEach [tg] X.env).map (·.2)=[assign tg X.env]:=by rfl):PS X (.Assign [tg] e pos) (qys te g):=by
 intro pins s σ H D I h;refine wpAny_Assign_stores (thn (he pins s σ H _ I h) λv s1 hq__=>?_) hs hw;obtain ⟨x,H1,I1,r1,q1⟩:=hq__;rw[h1];exact thn (hg pins s1 σ H1 x v _ I1 r1 q1) λ_ s2 q=>q
theorem qay {i:Nat} {x:Str} {e:Expr} {te:TE} {pos':Pos} (hN:X.N.Nodup) (hi:X.N[i]?=some x) (hx:Loc X.env.scope x) (he:PE X e te) (hs:swapsWith e (some (.Name x pos')) pos.line X.env=pure false:=by rfl) (hf:X.fn x=true\/X.env.scope.names.lookup x=some .local:=by first|exact .inl rfl|exact .inr rfl|assumption) :
  PS X (.Assign [.Name x pos'] e pos) (qys te (qiu i)):=by
 intro pins s σ H D I h;refine wpAny_Assign_Name (thn (he pins s σ H _ I h) λv s1 hq__=>?_) hs;obtain ⟨y,H1,I1,r1,q1⟩:=hq__;exact qjo I1 hN hi hx r1 (λs2 I2=>⟨_,H1,I2,q1⟩) hf
end
section
variable {X:Cx} {pos:Pos}
end
structure It where
 go:Nat->Hp->Prop
 yld:Nat->Hp->V->Hp->Prop
 stop:Nat->Hp->Prop
def qmv (X:Cx) (pins:List (Addr×Obj)) (H:Hp) (b:Addr):Prop:=
 H b=none/\b≠X.env.locals/\b ∉ X.fs/\(b∈X.ex\/X.s₀.heap.objs.size<=b)/\(∀ x c,X.env.cells.lookup x=some c->c≠b)/\∀ p∈X.pn ++ pins,p.1≠b
theorem Inv.fpOk {X:Cx} {pins:List (Addr×Obj)} {σ:St} {H H':Hp} {s:Shared} {b:Addr} (I:Inv X pins σ H s) (hb:s.heap.objs.size<=b) (hn:H' b=none):qmv X pins H' b:=by
 refine ⟨hn,Nat.ne_of_gt (Nat.lt_of_lt_of_le I.lt hb),I.nofs hb,.inr (Nat.le_trans I.sz hb),λx c e z=>?_,λp hp z=>?_⟩
 ·obtain ⟨v,q⟩:=I.cell x c e
  exact absurd (Nat.lt_of_lt_of_le q.lt (by rw[z];exact hb)) (Nat.lt_irrefl _)
 ·exact absurd (Nat.lt_of_lt_of_le (Heap.lt_size (I.pin p hp).1) (by rw[z];exact hb)) (Nat.lt_irrefl _)
structure Turn (P:Program) (w:World) (K:Frag) (tg:Expr) (J:It) (fp:List Addr) (it:Addr) (tn:Nat->Heap->Prop):Prop where
 mem:it∈fp
 obj:∀ i h,tn i h->∀ b∈fp,∃ o,h.get? b=some o/\∀ v,o.data≠.cell v
 keep:∀ i h h',tn i h->(∀ b∈fp,∀ o,h.get? b=some o->h'.get? b=some o)->tn i h'
 item:∀ (X:Cx),X.prog=P->X.w=w->X.K=K->X.calm=true->∀ (i:Nat) (pins:List (Addr×Obj)) (s:Shared) (σ:St) (H:Hp) (E:Value->Shared->Prop),Inv X pins σ H s->(∀ b∈fp,qmv X pins H b)->tn i s.heap->J.go i H ->
  wpAny (model P w) X.A (pyNext (.ref it)) (λr s1=>∃ u,r=some u /\
   wpAny (model P w) X.A (letOwnedTupleGo tg (.ref it) u) (λ_ s2=>∃ x H',Inv X pins σ H' s2/\RelV x u/\J.yld i H x H'/\tn (i+1) s2.heap/\∀ b∈fp,H' b=none) E s1) E s
 done:∀ (X:Cx),X.prog=P->X.w=w->X.K=K->X.calm=true->∀ (i:Nat) (pins:List (Addr×Obj)) (s:Shared) (σ:St) (H:Hp) (E:Value->Shared->Prop),Inv X pins σ H s->(∀ b∈fp,qmv X pins H b)->tn i s.heap->J.stop i H ->
  wpAny (model P w) X.A (pyNext (.ref it)) (λr s1=>r=none/\Inv X pins σ H s1) E s
 self:∀ (A:Around) (i:Nat) (s:Shared) (Q:Value->Shared->Prop) (E:Value->Shared->Prop),tn i s.heap->Q (.ref it) s->wpAny (model P w) A (pyIter (.ref it)) Q E s
abbrev TI:=St->Hp->(It->Hp->Prop)->Prop
def PIE (X:Cx) (pins:List (Addr×Obj)) (σ:St) (tg:Expr) (R:It->Hp->Prop) (itv:Value) (s2:Shared):Prop:=
 ∃ (it:Addr) (fp:List Addr) (tn:Nat->Heap->Prop) (J:It) (H':Hp),itv=.ref it/\Inv X pins σ H' s2/\Turn X.prog X.w X.K tg J fp it tn/\tn 0 s2.heap/\(∀ b∈fp,qmv X pins H' b)/\R J H'
def PI (X:Cx) (tg iter:Expr) (wi:TI):Prop:=
 ∀ (pins:List (Addr×Obj)) (s:Shared) (σ:St) (H:Hp) (R:It->Hp->Prop),Inv X pins σ H s->wi σ H R ->
  wpAny (model X.prog X.w) X.A (eval iter X.env) (λv s1=>wpAny (model X.prog X.w) X.A (pyIter v) (PIE X pins σ tg R) X.xe s1) X.xe s
theorem qug {M:Model} {A:Around} {E:Value->Shared->Prop} {s:Shared} {tg:Expr} {it:Addr} {u:Value} {o:Obj} {n:String} {vs:Array Value} {Q:Unit->Shared->Prop} (ho:s.heap.get? it=some o) (hc:o.cls=.type n) (hd:o.data=.fields vs)
  (hn:["enumerate", "zip", "dict_itemiterator", "dict_reverseitemiterator", "odict_iterator", "itertools.zip_longest", "itertools.pairwise"].contains n=false) (hQ:Q () s):wpAny M A (letOwnedTupleGo tg (.ref it) u) Q E s:=by
 unfold letOwnedTupleGo
 cases tg<;>first
  | exact wpAny_pure hQ
  | (cases u<;>first
    | exact wpAny_pure hQ
    | (refine wpAny_bind (wpAny_load ho ?_)
       rw[hc,hd]
       show wpAny M A (if (["enumerate", "zip", "dict_itemiterator", "dict_reverseitemiterator", "odict_iterator", "itertools.zip_longest", "itertools.pairwise"].contains n && vs[0]? == some (rawInt _))=true then _ else _) Q E s
       rw[if_neg (by intro h;rw[hn,Bool.false_and] at h;cases h)];exact wpAny_pure hQ))
def Itl (K:Frag) (a:Addr):It:=
 ⟨λi H=>∃ xs x,SqL K H a xs/\xs[i]?=some x,λi H x H'=>H'=H/\∀ xs,SqL K H a xs->xs[i]?=some x,λi H=>∃ xs,SqL K H a xs/\xs.length<=i⟩
def Itr (lo:Int) (n:Nat):It:=⟨λi _=>i<n,λi H x H'=>H'=H/\x=.int (lo+i),λi _=>n<=i⟩
theorem qpb {P:Program} {w:World} {K:Frag} {tg:Expr} (a it:Addr):Turn P w K tg (Itl K a) [it] it (λi h=>h.IsListIter it a i) where
 mem:=by simp
 obj:=λi h st b hb=>by
  have e:b=it:=by simpa using hb
  subst e;obtain ⟨o,e,c,d⟩:=st;exact ⟨o,e,λv z=>by rw[d] at z;cases z⟩
 keep:=λi h h' st k=>st.at λo e=>k it (by simp) o e
 item:=by
  intro X hP hw hK hc i pins s σ H E I hf st hg;subst hP hw hK;obtain ⟨xs,x,hq,hx⟩:=hg;obtain ⟨its,rv,p,hz⟩:=I.list hq;obtain ⟨u,hu,ru⟩:=rv.get hx;obtain ⟨f0,f1,f2,f3,f4,f5⟩:=hf it (by simp);refine wpAny_pyNext_list_item st p.isList (x:=u) (by simpa using hu) λh' st' sb=>?_
  have I1:Inv X pins σ H { s with heap:=h' }:=I.turned (t':=s.toks) (λb o hb e=>(sb.2 b hb).trans e) f0 f1 f3 f4 f5;obtain ⟨o,e,c,d⟩:=id st';exact ⟨u,rfl,qug (s:={ s with heap:=h' }) e c d (by decide) ⟨x,H,I1,ru,⟨rfl,λys hy=>by rw[I.list_inj hy hq];exact hx⟩,st',λb hb=>(hf b hb).1⟩⟩
 done:=by
  intro X hP hw hK hc i pins s σ H E I hf st hg;subst hP hw hK;obtain ⟨xs,hq,hx⟩:=hg;obtain ⟨its,rv,p,hz⟩:=I.list hq;obtain ⟨f0,f1,f2,f3,f4,f5⟩:=hf it (by simp);have hl:=rv.length;exact wpAny_pyNext_list_end (I.ok.hd hc) st p.isList (by simp;omega) λh' eb=>⟨rfl,I.turned (t':=s.toks) (λb o hb e=>eb b o hb e) f0 f1 f3 f4 f5⟩
 self:=λ_ _ _ _ _ st h=>wpAny_pyIter_listiter st h
theorem qn0 {P:Program} {w:World} {K:Frag} {tg:Expr} (it:Addr) (lo:Int) (n:Nat):Turn P w K tg (Itr lo n) [it] it (λi h=>IsRangeIter h it (lo+(i:Nat)*1) ((n:Int)-(i:Nat)) 1) where
 mem:=by simp
 obj:=λi h st b hb=>by
  have e:b=it:=by simpa using hb
  subst e;exact ⟨_,st,λv z=>by
   have z':Data.fields _=Data.cell v:=z
   cases z'⟩
 keep:=λi h h' st k=>k it (by simp) _ st
 item:=by
  intro X hP hw hK hc i pins s σ H E I hf st hg;subst hP hw hK;obtain ⟨f0,f1,f2,f3,f4,f5⟩:=hf it (by simp);have W:=Walks.range (prog:=X.prog) (w:=X.w) (I.ok.hd hc) it lo 1 n;refine W.item i s _ _ hg st λv h' tk hv st' kk=>?_
  obtain ⟨t,rfl⟩:=hv;have I1:Inv X pins σ H { s with heap:=h',toks:=tk }:=I.turned (λb o hb e=>kk b o (by simpa using hb) e) f0 f1 f3 f4 f5;refine ⟨_,rfl,qug (s:={ s with heap:=h',toks:=tk }) (n:= "range_iterator") st' rfl rfl (by decide) ⟨.int (lo+i),H,I1,⟨t,?_⟩,⟨rfl,rfl⟩,st',λb hb=>(hf b hb).1⟩⟩;rw[Int.mul_one]
 done:=by
  intro X hP hw hK hc i pins s σ H E I hf st hg;subst hP hw hK;obtain ⟨f0,f1,f2,f3,f4,f5⟩:=hf it (by simp);exact wpAny_pyNext_range_end (I.ok.hd hc) st (by have:n<=i:=hg;omega) λh' eb=>⟨rfl,I.turned (t':=s.toks) (λb o hb e=>eb b o hb e) f0 f1 f3 f4 f5⟩
 self:=λ_ _ _ _ _ st h=>wpAny_pyIter_rangeiter st h
open PySem PySem.Spec PyProof.Rows
section
variable {X:Cx} {tg:Expr}
def qyt (K:Frag) (tl:TE):TI:=λσ H R=>tl σ H λx H1=>∃ a,x=.ref a/\(∃ xs,SqL K H1 a xs)/\R (Itl K a) H1
theorem qcd {l:Expr} {tl:TE} (hl:PE X l tl):PI X tg l (qyt X.K tl):=by
 intro pins s σ H R I h;refine thn (hl pins s σ H _ I h) λv s1 hq__=>?_
 obtain ⟨x,H1,I1,r1,q1⟩:=hq__;obtain ⟨a,e,⟨xs,hq⟩,q⟩:=q1;subst e;cases r1;obtain ⟨its,rv,p,hz⟩:=I1.list hq;refine wpAny_pyIter_list p.isList ?_;refine ⟨s1.heap.objs.size,[s1.heap.objs.size],_,_,H1,rfl,I1.kept (t':=s1.toks) λb o e=>Heap.get?_push_of_some _ e,qpb a _,⟨_,Heap.get?_push_size _ rfl,rfl,rfl⟩,λb hb=>?_,q⟩;have e:b=s1.heap.objs.size:=by simpa using hb
 subst e;exact I1.fpOk (Nat.le_refl _) (I1.hok.fresh (Nat.le_refl _))
theorem qrw {pins:List (Addr×Obj)} {σ:St} {H:Hp} {s:Shared} {R:It->Hp->Prop} {E:Value->Shared->Prop} {lo hi:Int} {t u v:Tok} {tk:Nat} (I:Inv X pins σ H s) (h1:-(2 ^ 62)<=lo) (h2:lo<2 ^ 62) (h3:-(2 ^ 62)<=hi) (h4:hi<2 ^ 62)
  (q:R (Itr lo (hi-lo).toNat) H):wpAny (model X.prog X.w) X.A (pyIter (.ref s.heap.objs.size)) (PIE X pins σ tg R) E { s with heap:=s.heap.push { cls:=.type "range",data:=.fields #[.int lo t,.int hi u,.int 1 v] },toks:=tk }:=by
 refine wpAny_pyIter_range (IsRange.new ..) (small_one h1 h2 h3 h4) ?_;have I1:Inv X pins σ H { s with heap:=s.heap.push { cls:=.type "range",data:=.fields #[.int lo t,.int hi u,.int 1 v] },toks:=tk }:=I.kept λb o e=>Heap.get?_push_of_some _ e
 refine ⟨(s.heap.push { cls:=.type "range",data:=.fields #[.int lo t,.int hi u,.int 1 v] }).objs.size,[(s.heap.push { cls:=.type "range",data:=.fields #[.int lo t,.int hi u,.int 1 v] }).objs.size],_,_,H,rfl,
  I1.kept (t':=tk) λb o e=>Heap.get?_push_of_some _ e,qn0 _ lo (hi-lo).toNat,?_,λb hb=>?_,q⟩
 ·have e1:lo+((0:Nat):Int)*1=lo:=by simp
  have e2:(((hi-lo).toNat:Nat):Int)-((0:Nat):Int)=Builtin.Range.rangeSize lo hi 1:=by rw[rangeSize_one];split<;>omega
  show IsRangeIter _ _ (lo+((0:Nat):Int)*1) ((((hi-lo).toNat:Nat):Int)-((0:Nat):Int)) 1
  rw[e1,e2];exact Heap.get?_push_size _ rfl
 ·have e:b=(s.heap.push { cls:=.type "range",data:=.fields #[.int lo t,.int hi u,.int 1 v] }).objs.size:=by simpa using hb
  subst e;exact I1.fpOk (Nat.le_refl _) (I1.hok.fresh (Nat.le_refl _))
def qyu (ta:TA):TI:=λσ H R=>ta σ H λvs H1=>∃ j:Int,vs=[.int j] /\ -(2 ^ 62)<=j/\j<2 ^ 62/\R (Itr 0 j.toNat) H1
theorem qex {a:Expr} {ta:TA} {p pos:Pos} (hg:Gl X "range") (hm:X.mg "range" = none) (ha:PA X [a] ta) (hs:starEach [a] X.env=[(false,eval a X.env)]:=by rfl):PI X tg (.Call (.Name "range" p) [a] [] pos) (qyu ta):=by
 intro pins s σ H R I h;refine Call_ (qkj I hg hm boot_range (PyProof.Rows.callWith_type1 (thn (ha pos pins s σ H _ I h) λus s1 hq__=>?_) hs rfl));obtain ⟨vs,H1,I1,r1,q1⟩:=hq__;obtain ⟨j,e,q1,q2,q⟩:=q1;subst e
 cases r1 with
 | cons r rr =>
  cases rr;obtain ⟨t,rfl⟩:=r;exact call_range_1 (qrw I1 (by omega) (by omega) q1 q2 (by simpa using q))
def qAg (wi:TI) (g:TG) (tb:TS):TS:=λD σ H=>wi σ H λJ H1=>∃ W:Nat->Nat->St->Hp->Prop,(∃ m,W 0 m σ H1)/\∀ i m σ H,W i m σ H ->
 (J.stop i H/\D.nx σ H)\/(J.go i H/\∃ N:St->Hp->Prop,(∀ σ' H',N σ' H'->∃ m',m'<m/\W (i+1) m' σ' H')/\∀ x H',J.yld i H x H'->g x σ H' λσ2 H2=>tb { D with nx:=N,ct:=N,bk:=D.nx } σ2 H2)
def qkl (fp:List Addr) (h:Heap):List (Addr×Obj):=fp.filterMap λb=>(h.get? b).map λo=>(b,o)
theorem qfj {fp:List Addr} {h:Heap} {b:Addr} {o:Obj} (hb:b∈fp) (e:h.get? b=some o):(b,o)∈qkl fp h:=List.mem_filterMap.mpr ⟨b,hb,by rw[e];rfl⟩
theorem qpc {fp:List Addr} {h:Heap} {p:Addr×Obj} (hp:p∈qkl fp h):p.1∈fp/\h.get? p.1=some p.2:=by
 obtain ⟨b,hb,e⟩:=List.mem_filterMap.mp hp
 cases q:h.get? b with
 | none=>rw[q] at e;cases e
 | some o =>
  rw[q] at e;have e':(b,o)=p:=Option.some.inj e;subst e';exact ⟨hb,q⟩
theorem Inv.pinned {pins:List (Addr×Obj)} {σ:St} {H:Hp} {s:Shared} {fp:List Addr} (I:Inv X pins σ H s) (hf:∀ b∈fp,qmv X pins H b) (ho:∀ b∈fp,∃ o,s.heap.get? b=some o/\∀ v,o.data≠.cell v):Inv X (pins ++ qkl fp s.heap) σ H s:=
 I.pins_of λp hp=>(List.mem_append.mp hp).elim (λz=>I.pin p (List.mem_append_right _ z)) λz=>by
  obtain ⟨hb,e⟩:=qpc z;obtain ⟨f0,f1,f2,_⟩:=hf p.1 hb;obtain ⟨o,e',d⟩:=ho p.1 hb;rw[e] at e';cases e';exact ⟨e,f0,f1,f2,d⟩
theorem Inv.unpinned {pins pl:List (Addr×Obj)} {σ:St} {H:Hp} {s:Shared} (I:Inv X (pins ++ pl) σ H s):Inv X pins σ H s:=I.pins_of λp hp=>I.pin p (List.mem_append_right _ (List.mem_append_left _ hp))
theorem qev {iter:Expr} {body:List Stmt} {wi:TI} {g:TG} {tb:TS} {pos:Pos} (hp:PassesOwn (model X.prog X.w) X.A X.env X.xe) (hc:X.calm=true) (hi:PI X tg iter wi) (hg:PG X tg g) (hb:PSs X body tb)
  (hs:∀ x,foldedSetIterable iter X.env x=pure x:=by intro _;rfl):PS X (.For tg iter body [] pos) (qAg wi g tb):=by
 intro pins s σ H D I h;refine wpAny_For (thn (hi pins s σ H _ I h) λv s1 h1=>thn h1 λitv s2 h2=>?_) hs;obtain ⟨it,fp,tn,J,H2,e,I2,T,st2,f2,W,⟨m0,w0⟩,turn⟩:=h2;subst e;have stat:∀ {H':Hp},(∀ b∈fp,H' b=none)->∀ b∈fp,qmv X pins H' b:=λhn b hb=>⟨hn b hb,(f2 b hb).2⟩
 refine codeAny_forLoop_any (λn s'=>∃ i σ' H',Inv X pins σ' H' s'/\tn i s'.heap/\(∀ b∈fp,H' b=none)/\W i n σ' H') ?_ m0 ⟨0,σ,H2,I2,st2,λb hb=>(f2 b hb).1,w0⟩;rintro n s3 ⟨i,σ3,H3,I3,st3,fr3,w3⟩
 rcases turn i n σ3 H3 w3 with ⟨stop,qn⟩|⟨go,N,hN,step⟩
 ·refine wpAny_passesOwn hp (thn (T.done X rfl rfl rfl hc i pins s3 σ3 H3 X.xe I3 (stat fr3) st3 stop) λr s4 hq__=>?_)
  obtain ⟨hr,I4⟩:=hq__;subst hr;exact wpAny_execs_nil ⟨σ3,H3,I4,qn⟩
 ·refine wpAny_passesOwn hp (thn (T.item X rfl rfl rfl hc i pins s3 σ3 H3 X.xe I3 (stat fr3) st3 go) λr s4 hq__=>?_)
  obtain ⟨u,hr,h4⟩:=hq__;subst hr;refine wpAny_passesOwn hp (thn h4 λ_ s5 hq__=>?_);obtain ⟨x,H5,I5,r5,y5,st5,fr5⟩:=hq__;have I5':=I5.pinned (stat fr5) (T.obj _ _ st5);refine wpAny_passesOwn hp (thn (hg _ s5 σ3 H5 x u _ I5' r5 (step x H5 y5)) λ_ s6 hq__=>?_);obtain ⟨σ6,H6,I6,q6⟩:=hq__;refine wpAny_passesOwn hp (thn (hb _ s6 σ6 H6 _ I6 q6) λf s7 q7=>?_);have again:∀ {σ7:St} {H7:Hp},Inv X (pins ++ qkl fp s5.heap) σ7 H7 s7->N σ7 H7->∃ m,m<n/\∃ i σ' H',Inv X pins σ' H' s7/\tn i s7.heap/\(∀ b∈fp,H' b=none)/\W i m σ' H':=fun {σ7 H7} I7 n7=>by
   obtain ⟨m',hm,w7⟩:=hN σ7 H7 n7;refine ⟨m',hm,i+1,σ7,H7,I7.unpinned,T.keep _ _ _ st5 λb hb o e=>(I7.pin (b,o) (List.mem_append_right _ (List.mem_append_right _ (qfj hb e)))).1,λb hb=>?_,w7⟩;obtain ⟨o,e,d⟩:=T.obj _ _ st5 b hb;exact (I7.pin (b,o) (List.mem_append_right _ (List.mem_append_right _ (qfj hb e)))).2.1
  cases f with
  | next=>obtain ⟨σ7,H7,I7,n7⟩:=q7;exact again I7 n7
  | cont=>obtain ⟨σ7,H7,I7,n7⟩:=q7;exact again I7 n7
  | brk=>obtain ⟨σ7,H7,I7,q7⟩:=q7;exact ⟨σ7,H7,I7.unpinned,q7⟩
  | ret v=>obtain ⟨x7,σ7,H7,I7,r7,q7⟩:=q7;exact ⟨x7,σ7,H7,I7.unpinned,r7,q7⟩
end
theorem qdy {K:Frag} {a:Addr} {xs:List V} {g:TG} {tb:TS} {D:Ends} {σ:St} {H:Hp} (Pv:Nat->St->Hp->Prop) (h0:Pv 0 σ H) (hl:∀ i σ H,i<=xs.length->Pv i σ H->SqL K H a xs)
  (hs:∀ i x σ H,xs[i]?=some x->Pv i σ H->g x σ H λσ2 H2=>tb { D with nx:=Pv (i+1),ct:=Pv (i+1),bk:=D.nx } σ2 H2) (hd:∀ σ H,Pv xs.length σ H->D.nx σ H) :
  ∃ W:Nat->Nat->St->Hp->Prop,(∃ m,W 0 m σ H)/\∀ i m σ H,W i m σ H ->
   ((Itl K a).stop i H/\D.nx σ H)\/((Itl K a).go i H/\∃ N:St->Hp->Prop,(∀ σ' H',N σ' H'->∃ m',m'<m/\W (i+1) m' σ' H')/\∀ x H',(Itl K a).yld i H x H'->g x σ H' λσ2 H2=>tb { D with nx:=N,ct:=N,bk:=D.nx } σ2 H2):=by
 refine ⟨λi m σ H=>m=xs.length-i/\i<=xs.length/\Pv i σ H,⟨xs.length,by simp,Nat.zero_le _,h0⟩,?_⟩;rintro i m σ H ⟨rfl,hi,p⟩;have q:=hl i σ H hi p
 by_cases hlt:i<xs.length
 ·refine .inr ⟨⟨xs,xs[i],q,by simp[hlt]⟩,Pv (i+1),λσ' H' p'=>⟨xs.length-(i+1),by omega,rfl,hlt,p'⟩,λx H' y=>?_⟩
  obtain ⟨e,y⟩:=y;subst e;exact hs i x σ _ (y xs q) p
 ·have e:i=xs.length:=by omega
  subst e;exact .inl ⟨⟨xs,q,Nat.le_refl _⟩,hd σ H p⟩
theorem qhf {lo:Int} {n:Nat} {g:TG} {tb:TS} {D:Ends} {σ:St} {H:Hp} (Pv:Nat->St->Hp->Prop) (h0:Pv 0 σ H)
  (hs:∀ i σ H,i<n->Pv i σ H->g (.int (lo+i)) σ H λσ2 H2=>tb { D with nx:=Pv (i+1),ct:=Pv (i+1),bk:=D.nx } σ2 H2) (hd:∀ σ H,Pv n σ H->D.nx σ H) :
  ∃ W:Nat->Nat->St->Hp->Prop,(∃ m,W 0 m σ H)/\∀ i m σ H,W i m σ H ->
   ((Itr lo n).stop i H/\D.nx σ H)\/((Itr lo n).go i H/\∃ N:St->Hp->Prop,(∀ σ' H',N σ' H'->∃ m',m'<m/\W (i+1) m' σ' H')/\∀ x H',(Itr lo n).yld i H x H'->g x σ H' λσ2 H2=>tb { D with nx:=N,ct:=N,bk:=D.nx } σ2 H2):=by
 refine ⟨λi m σ H=>m=n-i/\i<=n/\Pv i σ H,⟨n,by simp,Nat.zero_le _,h0⟩,?_⟩;rintro i m σ H ⟨rfl,hi,p⟩
 by_cases hlt:i<n
 ·refine .inr ⟨hlt,Pv (i+1),λσ' H' p'=>⟨n-(i+1),by omega,rfl,hlt,p'⟩,λx H' y=>?_⟩
  obtain ⟨e,y⟩:=y;subst e y;exact hs i σ _ hlt p
 ·have e:i=n:=by omega
  subst e;exact .inl ⟨Nat.le_refl _,hd σ H p⟩
open PySem PySem.Spec PyProof.Rows
abbrev R2:=V->V->Hp->VK->Prop
def OpR (X:Cx) (f:Value->Value->Sem Value) (r:R2):Prop:=
 ∀ (pins:List (Addr×Obj)) (s:Shared) (σ:St) (H:Hp) (x y:V) (v u:Value) (Q:VK),Inv X pins σ H s->RelV x v->RelV y u->r x y H Q ->
  wpAny (model X.prog X.w) X.A (f v u) (EP X pins σ Q) X.xe s
def UnR (X:Cx) (f:Value->Sem Value) (r:V->Hp->VK->Prop):Prop:=
 ∀ (pins:List (Addr×Obj)) (s:Shared) (σ:St) (H:Hp) (x:V) (v:Value) (Q:VK),Inv X pins σ H s->RelV x v->r x H Q ->
  wpAny (model X.prog X.w) X.A (f v) (EP X pins σ Q) X.xe s
def CallR (X:Cx) (f:Value) (r:List V->Hp->VK->Prop):Prop:=
 ∀ (pins:List (Addr×Obj)) (s:Shared) (σ:St) (H:Hp) (xs:List V) (us:List Value) (Q:VK),Inv X pins σ H s->Vals xs us->r xs H Q ->
  wpAny (model X.prog X.w) X.A (call f us) (EP X pins σ Q) X.xe s
def tOp (r:R2) (ta tb:TE):TE:=λσ H Q=>ta σ H λx H1=>tb σ H1 λy H2=>r x y H2 Q
def tUn (r:V->Hp->VK->Prop) (ta:TE):TE:=λσ H Q=>ta σ H λx H1=>r x H1 Q
inductive rIS (C:Int->Int->Prop) (g:Int->Int->V) (x y:V) (H:Hp) (Q:VK):Prop
 | mk (i j:Int) (hx:x=.int i) (hy:y=.int j) (hc:C i j) (k:Q (g i j) H)
def rI (C:Int->Int->Prop) (g:Int->Int->V):R2:=λx y H Q=>rIS C g x y H Q
inductive rI0S (g:Int->Int->V) (x y:V) (H:Hp) (Q:VK):Prop
 | mk (i j:Int) (hx:x=.int i) (hy:y=.int j) (k:Q (g i j) H)
def rI0 (g:Int->Int->V):R2:=λx y H Q=>rI0S g x y H Q
inductive rUS (g:Int->V) (x:V) (H:Hp) (Q:VK):Prop
 | mk (i:Int) (h:x=.int i) (k:Q (g i) H)
def rU (g:Int->V):V->Hp->VK->Prop:=λx H Q=>rUS g x H Q
section
variable {X:Cx} {a b c:Expr} {ta tb tc:TE} {pos:Pos}
theorem qya (ha:PE X a ta) (hb:PE X b tb) {pins:List (Addr×Obj)} {s:Shared} {σ:St} {H:Hp} {R:V->V->Hp->Prop} (I:Inv X pins σ H s)
  (h:ta σ H λx H1=>tb σ H1 λy H2=>R x y H2) {Q:Value->Shared->Prop} {f:Value->Value->Sem Value}
  (hf:∀ v u s2 x y H2,Inv X pins σ H2 s2->RelV x v->RelV y u->R x y H2->wpAny (model X.prog X.w) X.A (f v u) Q X.xe s2) :
  wpAny (model X.prog X.w) X.A (eval a X.env) (λv s₁=>wpAny (model X.prog X.w) X.A (eval b X.env) (λu s₂=>wpAny (model X.prog X.w) X.A (f v u) Q X.xe s₂) X.xe s₁) X.xe s:=by
 refine thn (ha pins s σ H _ I h) λv s1 hq__=>?_
 obtain ⟨x,H1,I1,r1,q1⟩:=hq__;refine thn (hb pins s1 σ H1 _ I1 q1) λu s2 hq__=>?_
 obtain ⟨y,H2,I2,r2,q2⟩:=hq__;exact hf v u s2 x y H2 I2 r1 r2 q2
theorem qal {op:Operator} {r:R2} (ho:OpR X (binaryOp op) r) (ha:PE X a ta) (hb:PE X b tb):PE X (.BinOp a op b pos) (tOp r ta tb):=by
 intro pins s σ H Q I h;exact wpAny_BinOp (qya ha hb I h λv u s2 x y H2 I2 rx ry q=>ho pins s2 σ H2 x y v u Q I2 rx ry q)
theorem qiv {op:UnaryOp} {r:V->Hp->VK->Prop} (ho:UnR X (unaryOp op) r) (ha:PE X a ta):PE X (.UnaryOp op a pos) (tUn r ta):=by
 intro pins s σ H Q I h;exact UnaryOp_ (thn (ha pins s σ H _ I h) λv s1 ⟨x,H1,I1,r1,q1⟩=>ho pins s1 σ H1 x v Q I1 r1 q1)
theorem opI {f:Value->Value->Sem Value} {C:Int->Int->Prop} {g:Int->Int->Int}
  (rule:∀ (i j:Int) (t u:Tok) (s:Shared) (Q:Value->Shared->Prop) (E:Value->Shared->Prop),C i j->Q (.int (g i j) s.toks) { s with toks:=s.toks+1 }->wpAny (model X.prog X.w) X.A (f (.int i t) (.int j u)) Q E s) :
  OpR X f (rI C λi j=>.int (g i j)):=by
 intro pins s σ H x y v u Q I rx ry h;obtain ⟨i,j,rfl,rfl,hc,q⟩:=h;obtain ⟨t,rfl⟩:=rx;obtain ⟨t',rfl⟩:=ry;exact rule i j t t' s _ _ hc ⟨.int (g i j),H,I.tok _,⟨_,rfl⟩,q⟩
theorem qzy {f:Value->Value->Sem Value} {g:Int->Int->Int}
  (rule:∀ (i j:Int) (t u:Tok) (s:Shared) (Q:Value->Shared->Prop) (E:Value->Shared->Prop),Q (.int (g i j) s.toks) { s with toks:=s.toks+1 }->wpAny (model X.prog X.w) X.A (f (.int i t) (.int j u)) Q E s) :
  OpR X f (rI0 λi j=>.int (g i j)):=by
 intro pins s σ H x y v u Q I rx ry h;obtain ⟨i,j,rfl,rfl,q⟩:=h;obtain ⟨t,rfl⟩:=rx;obtain ⟨t',rfl⟩:=ry;exact rule i j t t' s _ _ ⟨.int (g i j),H,I.tok _,⟨_,rfl⟩,q⟩
theorem qyb {f:Value->Value->Sem Value} {g:Int->Int->Bool}
  (rule:∀ (i j:Int) (t u:Tok) (s:Shared) (Q:Value->Shared->Prop) (E:Value->Shared->Prop),Q (.bool (g i j)) s->wpAny (model X.prog X.w) X.A (f (.int i t) (.int j u)) Q E s) :
  OpR X f (rI0 λi j=>.bl (g i j)):=by
 intro pins s σ H x y v u Q I rx ry h;obtain ⟨i,j,rfl,rfl,q⟩:=h;obtain ⟨t,rfl⟩:=rx;obtain ⟨t',rfl⟩:=ry;exact rule i j t t' s _ _ ⟨.bl (g i j),H,I,rfl,q⟩
def qAh (i j:Int):Prop:=0<j/\j<1073741824
def qAi (i j:Int):Prop:=0<=j/\j<=1000000/\i.natAbs<2 ^ 64
def CMul (i j:Int):Prop:=(-(2 ^ 64)<i/\i<2 ^ 64)\/(-(2 ^ 64)<j/\j<2 ^ 64)
theorem CMul.ok {i j:Int} (h:CMul i j):IntMulOk i j:=by
 rcases h with ⟨h1,h2⟩|⟨h1,h2⟩
 ·exact .of_left (intBits_le_64 h1 h2)
 ·exact .of_right (intBits_le_64 h1 h2)
theorem qbn:OpR X (binaryOp .Add) (rI0 λi j=>.int (i+j)):=qzy λ_ _ _ _ _ _ _ q=>add_int q
theorem qfo:OpR X (binaryOp .Sub) (rI0 λi j=>.int (i-j)):=qzy λ_ _ _ _ _ _ _ q=>sub_int q
theorem qi3:OpR X (binaryOp .Mult) (rI CMul λi j=>.int (i*j)):=opI λ_ _ _ _ _ _ _ hc q=>mul_int q hc.ok
theorem qey:OpR X (binaryOp .FloorDiv) (rI qAh λi j=>.int (i / j)):=opI λi j _ _ _ _ _ hc q=>by
 have h1:(0:Int)<j:=hc.1;have h2:j<1073741824:=hc.2;exact floordiv_int (by omega) (by rw[Int.fdiv_eq_ediv_of_nonneg i (by omega)];exact q) (.inl (PyProof.noPylong_small (by omega)))
theorem qa5:OpR X (binaryOp .Mod) (rI (λ_ j=>0<j) λi j=>.int (i % j)):=opI λi j _ _ _ _ _ hc q=>by
 have h1:(0:Int)<j:=hc;exact mod_int' (by omega) (by rw[Int.fmod_eq_emod_of_nonneg i (by omega)];exact q)
theorem qgv:OpR X (binaryOp .Pow) (rI qAi λi j=>.int (i ^ j.toNat)):=opI λ_ _ _ _ _ _ _ hc q=>pow_int_small hc.1 hc.2.1 hc.2.2 q
theorem unI {f:Value->Sem Value} {g:Int->Int}
  (rule:∀ (i:Int) (t:Tok) (s:Shared) (Q:Value->Shared->Prop) (E:Value->Shared->Prop),Q (.int (g i) s.toks) { s with toks:=s.toks+1 }->wpAny (model X.prog X.w) X.A (f (.int i t)) Q E s) :
  UnR X f (rU λi=>.int (g i)):=by
 intro pins s σ H x v Q I rx h;obtain ⟨i,rfl,q⟩:=h;obtain ⟨t,rfl⟩:=rx;exact rule i t s _ _ ⟨.int (g i),H,I.tok _,⟨_,rfl⟩,q⟩
theorem qfp:UnR X (unaryOp .USub) (rU λi=>.int (-i)):=unI λ_ _ _ _ _ q=>neg_int q
end
def qyv:V->V->Bool
 | .non,.non=>true|.non,.int _=>true|.int _,.non=>true|.non,.bl _=>true|.bl _,.non=>true|.non,.str _=>true|.str _,.non=>true
 | .int _,.int _=>true|.bl _,.bl _=>true|.str _,.str _=>true|.byt _,.byt _=>true
 | .int _,.str _=>true|.str _,.int _=>true|.bl _,.str _=>true|.str _,.bl _=>true
 | _,_=>false
def rEq:R2:=λx y H Q=>qyv x y=true/\Q (.bl (decide (x=y))) H
def rNe:R2:=λx y H Q=>qyv x y=true/\Q (.bl (!decide (x=y))) H
theorem qpd {i j:Int}:decide (V.int i=V.int j)=(i == j):=by
 rw[Bool.eq_iff_iff]
 simp
theorem qtg {i j:Bool}:decide (V.bl i=V.bl j)=(i == j):=by
 rw[Bool.eq_iff_iff]
 simp
theorem qpe {i j:Str}:decide (V.str i=V.str j)=(i == j):=by
 rw[Bool.eq_iff_iff]
 simp
theorem qpf {i j:Array UInt8}:decide (V.byt i=V.byt j)=(i.toList == j.toList):=by
 rw[Bool.eq_iff_iff];cases i;cases j
 simp
section
variable {X:Cx} {a b c:Expr} {ta tb tc:TE} {pos:Pos}
theorem qbd {pins:List (Addr×Obj)} {σ:St} {H:Hp} {s:Shared} {Q:VK} {k k':Bool} (I:Inv X pins σ H s) (q:Q (.bl k) H) (e:k=k'):EP X pins σ Q (.bool k') s:=by
 subst e;exact ⟨.bl k,H,I,rfl,q⟩
theorem qhg:OpR X (compareOp .Eq) rEq:=by
 intro pins s σ H x y v u Q I rx ry h;obtain ⟨hs,q⟩:=h
 cases x with
 | non =>
  cases rx
  cases y with
  | non=>cases ry;exact PySem.EqNone.eq_none_none (qbd I q (by simp))
  | bl j=>cases ry;exact PySem.EqNone.eq_none_bool (qbd I q (by simp))
  | int j=>obtain ⟨t',rfl⟩:=ry;exact PySem.EqNone.eq_none_int (qbd I q (by simp))
  | str j=>obtain ⟨t',rfl⟩:=ry;exact PySem.EqNone.eq_none_str (qbd I q (by simp))
  | _=>exact absurd (show false=true from hs) Bool.false_ne_true
 | bl i =>
  cases rx
  cases y with
  | non=>cases ry;exact PySem.EqNone.eq_bool_none (qbd I q (by simp))
  | bl j=>cases ry;exact eq_bool (qbd I q qtg)
  | str j=>obtain ⟨t',rfl⟩:=ry;exact PySem.EqMixed.eq_bool_str (qbd I q (by simp))
  | _=>exact absurd (show false=true from hs) Bool.false_ne_true
 | int i =>
  obtain ⟨t,rfl⟩:=rx
  cases y with
  | non=>cases ry;exact PySem.EqNone.eq_int_none (qbd I q (by simp))
  | int j=>obtain ⟨t',rfl⟩:=ry;exact eq_int (qbd I q qpd)
  | str j=>obtain ⟨t',rfl⟩:=ry;exact PySem.EqMixed.eq_int_str (qbd I q (by simp))
  | _=>exact absurd (show false=true from hs) Bool.false_ne_true
 | str i =>
  obtain ⟨t,rfl⟩:=rx
  cases y with
  | non=>cases ry;exact PySem.EqNone.eq_str_none (qbd I q (by simp))
  | bl j=>cases ry;exact PySem.EqMixed.eq_str_bool (qbd I q (by simp))
  | int j=>obtain ⟨t',rfl⟩:=ry;exact PySem.EqMixed.eq_str_int (qbd I q (by simp))
  | str j=>obtain ⟨t',rfl⟩:=ry;exact eq_str (qbd I q qpe)
  | _=>exact absurd (show false=true from hs) Bool.false_ne_true
 | byt i =>
  obtain ⟨t,rfl⟩:=rx
  cases y with
  | byt j=>obtain ⟨t',rfl⟩:=ry;exact PySem.W.eq_bytes (qbd I q qpf)
  | _=>exact absurd (show false=true from hs) Bool.false_ne_true
 | _=>cases y<;>exact absurd (show false=true from hs) Bool.false_ne_true
theorem qkm:OpR X (compareOp .NotEq) rNe:=by
 intro pins s σ H x y v u Q I rx ry h;obtain ⟨hs,q⟩:=h
 cases x with
 | non =>
  cases rx
  cases y with
  | non=>cases ry;exact PySem.EqNone.ne_none_none (qbd I q (by simp))
  | bl j=>cases ry;exact PySem.EqNone.ne_none_bool (qbd I q (by simp))
  | int j=>obtain ⟨t',rfl⟩:=ry;exact PySem.EqNone.ne_none_int (qbd I q (by simp))
  | str j=>obtain ⟨t',rfl⟩:=ry;exact PySem.EqNone.ne_none_str (qbd I q (by simp))
  | _=>exact absurd (show false=true from hs) Bool.false_ne_true
 | bl i =>
  cases rx
  cases y with
  | non=>cases ry;exact PySem.EqNone.ne_bool_none (qbd I q (by simp))
  | bl j=>cases ry;exact ne_bool (qbd I q (congrArg not qtg))
  | str j=>obtain ⟨t',rfl⟩:=ry;exact PySem.EqMixed.ne_bool_str (qbd I q (by simp))
  | _=>exact absurd (show false=true from hs) Bool.false_ne_true
 | int i =>
  obtain ⟨t,rfl⟩:=rx
  cases y with
  | non=>cases ry;exact PySem.EqNone.ne_int_none (qbd I q (by simp))
  | int j=>obtain ⟨t',rfl⟩:=ry;exact ne_int (qbd I q (congrArg not qpd))
  | str j=>obtain ⟨t',rfl⟩:=ry;exact PySem.EqMixed.ne_int_str (qbd I q (by simp))
  | _=>exact absurd (show false=true from hs) Bool.false_ne_true
 | str i =>
  obtain ⟨t,rfl⟩:=rx
  cases y with
  | non=>cases ry;exact PySem.EqNone.ne_str_none (qbd I q (by simp))
  | bl j=>cases ry;exact PySem.EqMixed.ne_str_bool (qbd I q (by simp))
  | int j=>obtain ⟨t',rfl⟩:=ry;exact PySem.EqMixed.ne_str_int (qbd I q (by simp))
  | str j=>obtain ⟨t',rfl⟩:=ry;exact ne_str (qbd I q (congrArg not qpe))
  | _=>exact absurd (show false=true from hs) Bool.false_ne_true
 | byt i =>
  obtain ⟨t,rfl⟩:=rx
  cases y with
  | byt j=>obtain ⟨t',rfl⟩:=ry;exact PySem.W.ne_bytes (qbd I q (congrArg not qpf))
  | _=>exact absurd (show false=true from hs) Bool.false_ne_true
 | _=>cases y<;>exact absurd (show false=true from hs) Bool.false_ne_true
theorem qjp:OpR X (compareOp .Lt) (rI0 λi j=>.bl (decide (i<j))):=qyb λ_ _ _ _ _ _ _ q=>lt_int q
theorem qwd:OpR X (compareOp .LtE) (rI0 λi j=>.bl (decide (i<=j))):=qyb λ_ _ _ _ _ _ _ q=>le_int q
theorem qrx:OpR X (compareOp .Gt) (rI0 λi j=>.bl (decide (j<i))):=qyb λ_ _ _ _ _ _ _ q=>gt_int q
theorem qwe:OpR X (compareOp .GtE) (rI0 λi j=>.bl (decide (j<=i))):=qyb λ_ _ _ _ _ _ _ q=>ge_int q
theorem qpg:OpR X (compareOp .In) (λx y H Q=>∃ i j,x=.str i/\y=.str j/\Q (.bl (!(Builtin.Str.occurrences j i 0 j.length 1).isEmpty)) H):=by
 intro pins s σ H x y v u Q I rx ry h;obtain ⟨i,j,rfl,rfl,q⟩:=h;obtain ⟨t,rfl⟩:=rx;obtain ⟨t',rfl⟩:=ry;exact in_str (qbd I q rfl)
theorem qhh:OpR X (compareOp .Is) (λx y H Q=>y=.non/\Q (.bl (decide (x=.non))) H):=by
 intro pins s σ H x y v u Q I rx ry h;obtain ⟨rfl,q⟩:=h;cases ry;refine is_none_gen (qbd I q ?_)
 cases x<;>first
  | (cases rx;rfl)
  | (obtain ⟨t,rfl⟩:=rx;rfl)
theorem qjq:OpR X (compareOp .IsNot) (λx y H Q=>y=.non/\Q (.bl (!decide (x=.non))) H):=by
 intro pins s σ H x y v u Q I rx ry h;obtain ⟨rfl,q⟩:=h;cases ry;refine isnot_none_gen (qbd I q ?_)
 cases x<;>first
  | (cases rx;rfl)
  | (obtain ⟨t,rfl⟩:=rx;rfl)
theorem qat (b:Expr) {op:CmpOp} (h:op≠.In:=by decide) (h2:op≠.NotIn:=by decide):behindInMarks op b=false:=by
 have e1:(op == CmpOp.In)=false:=by cases op<;>first|rfl|exact absurd rfl h
 have e2:(op == CmpOp.NotIn)=false:=by cases op<;>first|rfl|exact absurd rfl h2
 cases b<;>simp[behindInMarks,e1,e2]
theorem qdk {op:CmpOp} {r:R2} (ho:OpR X (compareOp op) r) (ha:PE X a ta) (hb:PE X b tb) (hm:behindInMarks op b=false):PE X (.Compare a [op] [b] pos) (tOp r ta tb):=by
 intro pins s σ H Q I h;exact wpAny_Compare1 (qya ha hb I h λv u s2 x y H2 I2 rx ry q=>ho pins s2 σ H2 x y v u Q I2 rx ry q) hm
def qwf (t:TE):TT:=λσ H Q=>t σ H λx H'=>∃ k,x=.bl k/\Q k H'
theorem qap {op:CmpOp} {r:R2} (ho:OpR X (compareOp op) r) (ha:PE X a ta) (hb:PE X b tb) (hm:behindInMarks op b=false):PT X (.Compare a [op] [b] pos) (qwf (tOp r ta tb)):=by
 intro pins s σ H Q I h;refine wpAny_isTrue_Compare1 (thn (ha pins s σ H _ I h) λv s1 ⟨x,H1,I1,r1,q1⟩=>thn (hb pins s1 σ H1 _ I1 q1) λu s2 ⟨y,H2,I2,r2,q2⟩ =>
  thn (ho pins s2 σ H2 x y v u _ I2 r1 r2 q2) λc s3 ⟨z,H3,I3,r3,k,e,q3⟩=>?_) hm
 subst e;cases r3;exact wpAny_truthy_bool ⟨H3,I3,q3⟩
theorem qmw:(sizeLine:Nat)<2 ^ 63:=by rw[sizeLine_eq];decide
theorem qi4:OpR X (binaryOp .Add) (λx y H Q=>∃ i j,x=.str i/\y=.str j/\i.length+j.length<=sizeLine/\Q (.str (i ++ j)) H):=by
 intro pins s σ H x y v u Q I rx ry h;obtain ⟨i,j,rfl,rfl,hz,q⟩:=h;obtain ⟨t,rfl⟩:=rx;obtain ⟨t',rfl⟩:=ry;exact add_str (λt' tk=>⟨.str (i ++ j),H,I.tok _,⟨_,rfl⟩,q⟩) hz
def qry (b:Expr):Prop:=∀ o i,subscripted b false o i=operate [o,i] (getItem o i)
theorem vals1 {x:V} {us:List Value} (r:Vals [x] us):∃ u,us=[u]/\RelV x u:=by
 cases r with
 | cons r1 r2=>cases r2;exact ⟨_,rfl,r1⟩
theorem vals2 {x y:V} {us:List Value} (r:Vals [x,y] us):∃ u w',us=[u,w']/\RelV x u/\RelV y w':=by
 cases r with
 | cons r1 r2 =>
  cases r2 with
  | cons r3 r4=>cases r4;exact ⟨_,_,rfl,r1,r3⟩
theorem qkn (hc:X.calm=true):CallR X (.builtin "max") (λxs H Q=>∃ i j,xs=[.int i,.int j]/\Q (.int (if j>i then j else i)) H):=by
 intro pins s σ H xs us Q I r h;obtain ⟨i,j,rfl,q⟩:=h;obtain ⟨u,w',rfl,⟨t,rfl⟩,⟨t',rfl⟩⟩:=vals2 r;refine max_two_ints (I.ok.hd hc) λh' tk k=>⟨_,H,I.kept k,?_,q⟩
 by_cases hj:j>i
 ·rw[if_pos hj,if_pos hj];exact ⟨_,rfl⟩
 ·rw[if_neg hj,if_neg hj];exact ⟨_,rfl⟩
theorem qph (hc:X.calm=true):CallR X (.builtin "min") (λxs H Q=>∃ i j,xs=[.int i,.int j]/\Q (.int (if j<i then j else i)) H):=by
 intro pins s σ H xs us Q I r h;obtain ⟨i,j,rfl,q⟩:=h;obtain ⟨u,w',rfl,⟨t,rfl⟩,⟨t',rfl⟩⟩:=vals2 r;refine min_two_ints (I.ok.hd hc) λh' tk k=>⟨_,H,I.kept k,?_,q⟩
 by_cases hj:j<i
 ·rw[if_pos hj,if_pos hj];exact ⟨_,rfl⟩
 ·rw[if_neg hj,if_neg hj];exact ⟨_,rfl⟩
def qAj (K:Frag) (x:V) (H:Hp) (n:Nat):Prop:=
 match x with
 | .str y=>y.length<=sizeLine/\n=y.length
 | .byt y=>y.size<=sizeLine/\n=y.size
 | .ref p=>(∃ xs,SqL K H p xs/\n=xs.length)\/∃ xs,SqT K H p xs/\n=xs.length
 | _=>False
theorem qrz:CallR X (.builtin "len") (λxs H Q=>∃ x n,xs=[x]/\qAj X.K x H n/\Q (.int n) H):=by
 intro pins s σ H xs us Q I r h;obtain ⟨x,n,rfl,e,q⟩:=h;obtain ⟨u,rfl,rx⟩:=vals1 r;have hl:=qmw;have hs:sizeLine=16777216:=sizeLine_eq
 cases x with
 | str y =>
  obtain ⟨t,rfl⟩:=rx;obtain ⟨hy,e'⟩:y.length<=sizeLine/\n=y.length:=e;subst e';exact len_str (by omega) ⟨.int _,H,I.tok _,⟨_,rfl⟩,q⟩
 | byt y =>
  obtain ⟨t,rfl⟩:=rx;obtain ⟨hy,e'⟩:y.size<=sizeLine/\n=y.size:=e;subst e';exact PySem.W.len_bytes (by omega) ⟨.int _,H,I.tok _,⟨_,rfl⟩,q⟩
 | ref p =>
  cases rx;have e':(∃ xs,SqL X.K H p xs/\n=xs.length)\/∃ xs,SqT X.K H p xs/\n=xs.length:=e
  rcases e' with ⟨xs,hx,e'⟩|⟨xs,hx,e'⟩
  ·subst e'
   obtain ⟨its,r',pl,hz⟩:=I.list hx;have hlen:=r'.length;exact Calls.call_len_list pl.isList (by simp only[List.size_toArray];omega) ⟨.int xs.length,H,I.tok _,⟨_,by simp only[List.size_toArray];rw[hlen]⟩,q⟩
  ·subst e'
   obtain ⟨its,r',pl,hz⟩:=I.tuple hx;have hlen:=r'.length;exact len_tuple pl (by simp only[List.size_toArray];omega) ⟨.int xs.length,H,I.tok _,⟨_,by simp only[List.size_toArray];rw[hlen]⟩,q⟩
 | _=>exact (show False from e).elim
end
open PySem PySem.Spec PyProof.Rows
structure ObjM (h:Heap) (x dx C:Addr) (mA:Str->Option Value):Prop where
 obj:h.get? x=some (PySem.W.instObj C dx)
 ns:h.Ns1 dx mA
 ne:dx≠x
theorem qpi {h:Heap} {dx:Addr} {mA:Str->Option Value} (n:h.Ns1 dx mA):∃ od,h.get? dx=some od/\∀ name,PySem.W.lookIn name od=some (mA name):=by
 obtain ⟨o,es,ep,ho,hd,hk,_,hm⟩:=n;refine ⟨o,ho,λname=>?_⟩;have e:=hm name;unfold nsFind findBy at e;rw[<- Array.find?_toList] at e;unfold PySem.W.lookIn;rw[hd];dsimp only
 split
 ·rename_i y q
  rw[q] at e;exact congrArg some e
 ·rename_i q
  rw[q] at e;have a:es.toList.any (·.refKey)=false:=by
   rw[List.any_eq_false];intro y hy;obtain ⟨z,t,hkey⟩:=hk y (Array.mem_toList_iff.mp hy)
   simp[DictEntry.refKey,hkey]
  have a':¬ es.toList.any (·.refKey)=true:=by rw[a];exact Bool.false_ne_true
  rw[if_neg a'];exact congrArg some e
theorem ObjM.look {h:Heap} {x dx C:Addr} {mA:Str->Option Value} (I:ObjM h x dx C mA):∃ od,PySem.W.InstAt h x (PySem.W.instObj C dx) C (some od)/\∀ name,PySem.W.lookIn name od=some (mA name):=
 let ⟨od,ho,hl⟩:=qpi I.ns
 ⟨od,⟨I.obj,rfl,rfl,ho⟩,hl⟩
section
variable {prog:Program} {w:World} {A:Around} {E:Value->Shared->Prop} {s:Shared} {K:Frag} {x dx C f:Addr} {mA:Str->Option Value} {name:Str} {v:Value}
theorem quh {expr:Bool} {Q:Value->Shared->Prop} (X:K.In s.heap) (I:ObjM s.heap x dx C mA) (hg:PySem.W.plainGet K C name=true) (hh:PySem.W.hasDictIn K C=true)
  (ha:PySem.W.findIn K (.ref C) name=some none) (hv:mA name=some v) (hv':PySem.W.handedIn v=true) (h:Q v { s with toks:=s.toks+1 }) :
  wpAny (model prog w) A (getAttr (.ref x) name expr) Q E s:=by
 obtain ⟨od,J,hl⟩:=I.look;exact PySem.W.get_value X J (PySem.W.plainGet_of hg).1 (PySem.W.findObj_own hh ha rfl (by rw[hl,hv])) hv' h
theorem qr0 {pl:Sem Bool} {Q:Value×List Value->Shared->Prop} (X:K.In s.heap) (I:ObjM s.heap x dx C mA) (hg:PySem.W.plainGet K C name=true)
  (hf:PySem.W.findIn K (.ref C) name=some (some (.ref f))) (ht:PySem.W.isFn K (.ref f)=true) (hv:mA name=none) (h:Q (.ref f,[.ref x]) s) :
  wpAny (model prog w) A (getMethod (.ref x) name pl) Q E s:=by
 obtain ⟨od,J,hl⟩:=I.look;exact PySem.W.method_fn X J (PySem.W.plainGet_of hg).1 (PySem.W.plainGet_of hg).2 hf (beq_iff_eq.mp ht) (by show (PySem.W.lookIn name od).map (·.isSome)=some false;rw[hl,hv];rfl) h
theorem qui {ns:List Str} {Q:Unit->Shared->Prop} (X:K.In s.heap) (I:ObjM s.heap x dx C mA)
  (hs:PySem.W.findIn K (.ref C) "__setattr__" = some (some (.builtin "object.__setattr__"))) (hp:PySem.W.plainOver K C=true) (ht:PySem.W.takerIn K C name=some none) (hh:PySem.W.hasDictIn K C=true)
  (hw:PySem.Within mA ns) (hsz:ns.length<=sizeLine)
  (h:∀ h',ObjM h' x dx C (λy=>if y=name then some v else mA y)->Heap.SameBut dx s.heap h'->Q () { s with heap:=h',toks:=s.toks+2 }) :
  wpAny (model prog w) A (setAttr (.ref x) name v) Q E s:=by
 obtain ⟨od,J,hl⟩:=I.look;refine PySem.W.set_plain X J hs (PySem.W.osa_open (s:={ s with toks:=s.toks+1 }) (r:=none) X J hp ht λb=>?_);obtain ⟨cd,hc,hd'⟩:=PySem.W.any_some hh;have hx:s.heap.get? x=some ⟨.ref C,some dx,.plain,#[]⟩:=I.obj;refine wpAny_bind (wpAny_pure (wpAny_bind (wpAny_bind (wpAny_loadPart hx (wpAny_bind (PySem.W.Looks.here (s:={ s with toks:=s.toks+1 }) (PySem.W.looks_clsIn X hc) ?_))))));rw[hd'];refine wpAny_pure (a:=some dx) (wpAny_bind (wpAny_pure (wpAny_bind ?_)));refine wpAny_nsSet1 (s:={ s with toks:=s.toks+1 }) I.ns λh' hn2 hs2=>?_
 obtain ⟨oD,esD,epD,hoD,hdD,hcD⟩:=hn2.count (PySem.Within.cons name v hw);refine wpAny_bind (wpAny_lookBehind hoD (by rw[hdD];exact pastItsLine_dict (Nat.le_trans hcD (by rw[List.length_cons];omega))) ?_);exact wpAny_pure (h _ ⟨(hs2.2 _ (Ne.symm I.ne)).trans I.obj,hn2,I.ne⟩ hs2)
theorem qr1 {R:Result->Shared->Prop} {vs:List Value} {kw:List (Str×Value)} (X:K.In s.heap) (hm:PySem.W.makesIn K C=true)
  (hi:PySem.W.findIn K (.ref C) "__init__" = some (some (.ref f))) (hf:PySem.W.typeIn K (.ref f)=some (.type "function"))
  (h:codeAny (model prog w) (A.under (.builtin "type.__call__" ⟨.ref C :: vs,kw⟩)) (.call (.ref f) ⟨.ref (s.heap.objs.size+1) :: vs,kw⟩) (PySem.W.InitBack (s.heap.objs.size+1) R)
   {s with heap:=(s.heap.push PySem.W.emptyDict).push (PySem.W.instObj C s.heap.objs.size) }) :
  codeAny (model prog w) A (.call (.ref C) ⟨vs,kw⟩) R s:=by
 obtain ⟨hh,g,d,t,os⟩:=s;exact PySem.W.make_core (PySem.W.makes_of X hm) (PySem.W.looks_findIn X hi) (λself=>PySem.W.bind_fn X self hf) (.inl rfl) h
end
def qfz (f:Str) (v:V):List (Str×V)->List (Str×V)
 | []=>[(f,v)]
 | (g,x) :: r=>if g=f then (g,v) :: r else (g,x) :: qfz f v r
theorem qag (f g:Str) (v:V):∀ fs:List (Str×V),(qfz f v fs).lookup g=if g=f then some v else fs.lookup g
 | []=>by
  show List.lookup g [(f,v)]=_
  by_cases h:g=f
  ·have hb:(g == f)=true:=beq_iff_eq.mpr h
   simp only[List.lookup,hb,if_pos h]
  ·have hb:(g == f)=false:=beq_eq_false_iff_ne.mpr h
   simp only[List.lookup,hb,if_neg h]
 | (k,x) :: r=>by
  have ih:=qag f g v r;rw[show qfz f v ((k,x) :: r)=(if k=f then (k,v) :: r else (k,x) :: qfz f v r) from rfl]
  by_cases hk:k=f
  ·rw[if_pos hk]
   by_cases h:g=k
   ·have hb:(g == k)=true:=beq_iff_eq.mpr h
    simp only[List.lookup,hb,if_pos (h.trans hk)]
   ·have hb:(g == k)=false:=beq_eq_false_iff_ne.mpr h
    simp only[List.lookup,hb,if_neg (λe:g=f=>h (e.trans hk.symm))]
  ·rw[if_neg hk]
   by_cases h:g=k
   ·have hb:(g == k)=true:=beq_iff_eq.mpr h
    simp only[List.lookup,hb,if_neg (λe:g=f=>hk (h.symm.trans e))]
   ·have hb:(g == k)=false:=beq_eq_false_iff_ne.mpr h
    simp only[List.lookup,hb];exact ih
theorem qhi (f:Str) (v:V):∀ fs:List (Str×V),f∈(qfz f v fs).map (·.1)/\∀ g,g∈fs.map (·.1)->g∈(qfz f v fs).map (·.1)
 | []=>⟨by simp[qfz],λg h=>by simp at h⟩
 | (k,x) :: r=>by
  obtain ⟨i1,i2⟩:=qhi f v r;rw[show qfz f v ((k,x) :: r)=(if k=f then (k,v) :: r else (k,x) :: qfz f v r) from rfl]
  by_cases hk:k=f
  ·rw[if_pos hk]
   subst hk;exact ⟨by simp,λg h=>by simpa using h⟩
  ·rw[if_neg hk]
   refine ⟨?_,λg h=>?_⟩
   ·rw[List.map_cons]
    exact List.mem_cons_of_mem _ i1
   ·rw[List.map_cons] at h ⊢
    rcases List.mem_cons.mp h with e|e
    ·exact List.mem_cons.mpr (.inl e)
    ·exact List.mem_cons_of_mem _ (i2 g e)
theorem qhj (f:Str) (v:V):∀ fs:List (Str×V),(qfz f v fs).length<=fs.length+1
 | []=>by simp[qfz]
 | (k,x) :: r=>by
  have ih:=qhj f v r;rw[show qfz f v ((k,x) :: r)=(if k=f then (k,v) :: r else (k,x) :: qfz f v r) from rfl]
  by_cases hk:k=f
  ·rw[if_pos hk,List.length_cons,List.length_cons];omega
  ·rw[if_neg hk,List.length_cons,List.length_cons];omega
theorem RelO.some_of {v:V} {o:Option Value} (r:RelO (some v) o):∃ u,o=some u/\RelV v u:=by
 cases o with
 | none=>exact (show False from r).elim
 | some u=>exact ⟨u,rfl,r⟩
theorem RelO.none_of {o:Option Value} (r:RelO none o):o=none:=by
 cases o with
 | none=>rfl
 | some u=>exact (show False from r).elim
theorem qpj {v:V} {u:Value} (r:RelV v u):PySem.W.handedIn u=true:=by
 cases v with
 | non=>cases (show u=Value.none from r);rfl
 | bl b=>cases (show u=Value.bool b from r);rfl
 | int i=>obtain ⟨t,e⟩:=(show ∃ t,u=Value.int i t from r);cases e;rfl
 | str x=>obtain ⟨t,e⟩:=(show ∃ t,u=Value.str x t from r);cases e;rfl
 | byt b=>obtain ⟨t,e⟩:=(show ∃ t,u=Value.bytes b t from r);cases e;rfl
 | flt b=>obtain ⟨t,e⟩:=(show ∃ t,u=Value.float b t from r);cases e;rfl
 | ref a=>cases (show u=Value.ref a from r);rfl
 | ty n=>cases (show u=Value.type n from r);rfl
section
variable {P:Program} {w:World} {H H':Hp} {h h':Heap} {a C dx:Addr} {fs fs':List (Str×V)}
theorem qjr (hok:HOk P w H h) (e:H a=some (.ins C dx fs)):∃ mA,ObjM h a dx C mA/\(∀ f,RelO (fs.lookup f) (mA f))/\PySem.Within mA (fs.map (·.1))/\fs.length<=1000/\H dx=some (.own a):=by
 obtain ⟨d,z,ne,ob,mA,n,r,q⟩:=(show ObjOk P w H h a (.ins C dx fs) from hok a _ e);exact ⟨mA,⟨ob,n,ne⟩,r,q,z,d⟩
end
structure Cls (K:Frag) (C:Addr):Prop where
 pg:PySem.W.plainGet K C Str.empty=true
 hd:PySem.W.hasDictIn K C=true
 po:PySem.W.plainOver K C=true
 sa:PySem.W.findIn K (.ref C) "__setattr__" = some (some (.builtin "object.__setattr__"))
theorem Cls.get {K:Frag} {C:Addr} (c:Cls K C) (f:Str):PySem.W.plainGet K C f=true:=c.pg
def NoAttr (K:Frag) (C:Addr) (f:Str):Prop:=PySem.W.findIn K (.ref C) f=some none
theorem NoAttr.taker {K:Frag} {C:Addr} {f:Str} (n:NoAttr K C f):PySem.W.takerIn K C f=some none:=by
 unfold PySem.W.takerIn;rw[show PySem.W.findIn K (.ref C) f=some none from n]
 rfl
structure qgc (K:Frag) (C:Addr) (m:Str) (f:Addr):Prop where
 at_:PySem.W.findIn K (.ref C) m=some (some (.ref f))
 fn:PySem.W.isFn K (.ref f)=true
 kp:keepIn K (.ref f)=true
section
variable {X:Cx} {pins:List (Addr×Obj)} {σ:St} {H:Hp} {s:Shared} {a C dx:Addr} {fs:List (Str×V)} {f:Str} {v:V} {A:Around} {E:Value->Shared->Prop}
theorem qn1 {b:Bool} {Q:Value->Shared->Prop} (I:Inv X pins σ H s) (e:H a=some (.ins C dx fs)) (c:Cls X.K C) (n:NoAttr X.K C f) (l:fs.lookup f=some v)
  (h:∀ u s',Inv X pins σ H s'->RelV v u->Q u s'):wpAny (model X.prog X.w) A (getAttr (.ref a) f b) Q E s:=by
 obtain ⟨mA,O,r,_,_,_⟩:=qjr I.hok e;obtain ⟨u,hu,ru⟩:=RelO.some_of (v:=v) (o:=mA f) (by rw[<- l];exact r f);exact quh I.kIn O (c.get f) c.hd n hu (qpj ru) (h u _ (I.tok _) ru)
theorem qge {m:Str} {g:Addr} {pl:Sem Bool} {Q:Value×List Value->Shared->Prop} (I:Inv X pins σ H s) (e:H a=some (.ins C dx fs)) (c:Cls X.K C) (k:qgc X.K C m g) (l:fs.lookup m=none)
  (h:Q (.ref g,[.ref a]) s):wpAny (model X.prog X.w) A (getMethod (.ref a) m pl) Q E s:=by
 obtain ⟨mA,O,r,_,_,_⟩:=qjr I.hok e;have hn:mA m=none:=RelO.none_of (by rw[<- l];exact r m);exact qr0 I.kIn O (c.get m) k.at_ k.fn hn h
theorem qn2 {y:V} {u:Value} {Q:Unit->Shared->Prop} (I:Inv X pins σ H s) (e:H a=some (.ins C dx fs)) (c:Cls X.K C) (n:NoAttr X.K C f) (hl:fs.length<1000) (ry:RelV y u)
  (h:∀ s',Inv X pins σ (upd H a (.ins C dx (qfz f y fs))) s'->Q () s'):wpAny (model X.prog X.w) A (setAttr (.ref a) f u) Q E s:=by
 obtain ⟨mA,O,r,wi,_,ho⟩:=qjr I.hok e;have hz:(fs.map (·.1)).length<=sizeLine:=by rw[List.length_map,sizeLine_eq];omega
 refine qui I.kIn O c.sa c.po n.taker c.hd wi hz λh' O' sb=>h _ ?_
 have hd:∃ o,h'.get? dx=some o:=let ⟨o,_,_,e',_⟩:=O'.ns;⟨o,e'⟩
 refine I.write (x:=a) (e:=dx) (by rw[e];exact True.intro) (.inr ho) (λb q hb z=>(sb.2 b hb).trans z) hd ?_;refine ⟨by rw[qa8 O.ne];exact ho,?_,O.ne,O'.obj,_,O'.ns,λg=>?_,λg hg=>?_⟩
 ·have:=qhj f y fs;omega
 ·show RelO ((qfz f y fs).lookup g) (if g=f then some u else mA g)
  rw[qag]
  by_cases q:g=f
  ·rw[if_pos q,if_pos q];exact ry
  ·rw[if_neg q,if_neg q];exact r g
 ·by_cases q:g=f
  ·rw[q];exact (qhi f y fs).1
  ·refine (qhi f y fs).2 g (wi g λz=>hg ?_)
   show (if g=f then some u else mA g)=none
   rw[if_neg q];exact z
theorem Inv.made (I:Inv X pins σ H s):Inv X pins σ (upd (upd H s.heap.objs.size (.own (s.heap.objs.size+1))) (s.heap.objs.size+1) (.ins C s.heap.objs.size []))
  {s with heap:=(s.heap.push PySem.W.emptyDict).push (PySem.W.instObj C s.heap.objs.size) }:=by
 have e1:(s.heap.push PySem.W.emptyDict).get? s.heap.objs.size=some PySem.W.emptyDict:=Heap.get?_push_size s.heap rfl;have e2:((s.heap.push PySem.W.emptyDict).push (PySem.W.instObj C s.heap.objs.size)).get? (s.heap.objs.size+1)=some (PySem.W.instObj C s.heap.objs.size):=by
  have:=Heap.get?_push_size (s.heap.push PySem.W.emptyDict) (o:=PySem.W.instObj C s.heap.objs.size) rfl
  rwa [Heap.size_push] at this
 have e3:(s.heap.push PySem.W.emptyDict).Ns s.heap.objs.size (λ_=>none):=⟨PySem.W.emptyDict,#[],_,e1,rfl,(λe he=>absurd he (by simp)),λ_=>rfl⟩;have I1:=I.laid (a:=s.heap.objs.size) (o:=.own (s.heap.objs.size+1)) (h':=s.heap.push PySem.W.emptyDict) (t':=s.toks) (λb u q=>Heap.get?_push_of_some _ q) (Nat.le_refl _) ⟨_,e1⟩;refine I1.laid (a:=s.heap.objs.size+1) (o:=.ins C s.heap.objs.size []) (t':=s.toks) (λb u q=>Heap.get?_push_of_some _ q) (Nat.le_of_eq (Heap.size_push _ _)) ?_;have ne:s.heap.objs.size≠s.heap.objs.size+1:=Nat.ne_of_lt (Nat.lt_succ_self _);refine ⟨by rw[qa8 ne,qbp],Nat.zero_le _,ne,e2,λ_=>none,(Heap.Ns1.of_empty e3).at λo q=>Heap.get?_push_of_some _ q,λ_=>True.intro,λy hy=>absurd rfl hy⟩
theorem quj {prog:Program} {w:World} {env:Env} {e:Expr} {f:Str} {pos:Pos} {s:Shared} {Q:Value->Shared->Prop} (hb:attributeBase e f env (eval e env)=eval e env)
  (h:wpAny (model prog w) A (eval e env) (λo s₁=>wpAny (model prog w) A (getAttr o f true) Q E s₁) E s):wpAny (model prog w) A (eval (.Attribute e f pos) env) Q E s:=
 Attribute_any_ h (by rw[arm_eval_Attribute,hb])
end
inductive qyw (K:Frag) (f:Str) (x:V) (H1:Hp) (Q:VK):Prop
 | mk (a C dx:Addr) (fs:List (Str×V)) (v:V) (hx:x=.ref a) (ho:H1 a=some (.ins C dx fs)) (hc:Cls K C) (hn:NoAttr K C f) (hl:fs.lookup f=some v) (k:Q v H1)
def qyx (K:Frag) (ta:TE) (f:Str):TE:=λσ H Q=>ta σ H λx H1=>qyw K f x H1 Q
section
variable {X:Cx} {o e value:Expr} {f:Str} {pos pos' tpos:Pos} {ta tv:TE}
theorem qbe (he:PE X e ta) (hb:attributeBase e f X.env (eval e X.env)=eval e X.env):PE X (.Attribute e f pos) (qyx X.K ta f):=by
 intro pins s σ H Q I h;refine quj hb (thn (he pins s σ H _ I h) λu s1 hq__=>?_);obtain ⟨x,H1,I1,rx,a,C,dx,fs,v,ex,ea,c,n,l,q⟩:=hq__;subst ex;obtain rfl:u=Value.ref a:=rx;exact qn1 I1 ea c n l λu' s2 I2 ru=>⟨v,H1,I2,ru,q⟩
end
section
variable {X:Cx} {pins:List (Addr×Obj)} {σ:St} {H:Hp} {s:Shared} {A:Around} {E:Value->Shared->Prop} {Q:Value->Shared->Prop} {c:Value} {b:Bool}
inductive TyOf (K:Frag) (H:Hp):V->Value->Prop where
 | non:TyOf K H .non (.type "NoneType")
 | bl (x:Bool):TyOf K H (.bl x) (.type "bool")
 | int (i:Int):TyOf K H (.int i) (.type "int")
 | str (x:Str):TyOf K H (.str x) (.type "str")
 | flt (x:UInt64):TyOf K H (.flt x) (.type "float")
 | lst {a:Addr} {xs:List V} (e:H a=some (.lst xs)):TyOf K H (.ref a) (.type "list")
 | frz {a:Addr} {o:Obj} {xs:List V} (e:H a=some (.frz o (.lst xs))):TyOf K H (.ref a) (.type "list")
 | tup {a:Addr} {xs:List V} (e:H a=some (.tup xs)):TyOf K H (.ref a) (.type "tuple")
 | dK {a:Addr} {kvs:List (Key×V)} (e:H a=some (.dK kvs)):TyOf K H (.ref a) (.type "dict")
 | dT {a:Addr} {kvs:List (List Key×V)} (e:H a=some (.dT kvs)):TyOf K H (.ref a) (.type "dict")
 | ins {a C dx:Addr} {fs:List (Str×V)} (e:H a=some (.ins C dx fs)) (cl:Cls K C) (ha:PySem.W.findIn K (.ref C) "__class__" = some (some (.builtin "object.__class__")))
   (hn:PySem.W.specialIn K (.builtin "object.__class__") "__get__" = some (some (.builtin "getset_descriptor.__get__"))) (htk:PySem.W.takesIn K (.builtin "object.__class__")=some true)
   (hm:PySem.W.mroIn K C (.type "object")=some true):TyOf K H (.ref a) (.ref C)
theorem qpk {x:V} {u t:Value} (I:Inv X pins σ H s) (rx:RelV x u) (ty:TyOf X.K H x t) (e:PySem.W.kitOne X.K t c=some b) (h:∀ tk,Q (.bool b) { s with toks:=tk }) :
  wpAny (model X.prog X.w) A (call (.builtin "isinstance") [u,c]) Q E s:=by
 cases ty with
 | non=>cases (show u=Value.none from rx);exact PySem.W.kia_one PySem.W.kitx_none I.kIn True.intro e (λz=>nomatch z) h
 | bl y=>cases (show u=Value.bool y from rx);exact PySem.W.kia_one PySem.W.kitx_bool I.kIn True.intro e (λz=>nomatch z) h
 | int i=>obtain ⟨t,q⟩:=(show ∃ t,u=Value.int i t from rx);cases q;exact PySem.W.kia_one PySem.W.kitx_int I.kIn True.intro e (λz=>nomatch z) h
 | str y=>obtain ⟨t,q⟩:=(show ∃ t,u=Value.str y t from rx);cases q;exact PySem.W.kia_one PySem.W.kitx_str I.kIn True.intro e (λz=>nomatch z) h
 | flt y=>obtain ⟨t,q⟩:=(show ∃ t,u=Value.float y t from rx);cases q;exact PySem.W.kia_one PySem.W.kitx_float I.kIn True.intro e (λz=>nomatch z) h
 | @lst a xs ea =>
  cases (show u=Value.ref a from rx)
  obtain ⟨_,_,n,_,h1⟩:=(show ObjOk X.prog X.w H s.heap a (.lst xs) from I.hok a _ ea);exact PySem.W.kia_one PySem.W.kitx_list I.kIn ⟨_,h1,rfl⟩ e (λz=>nomatch z) h
 | @frz a ob xs ea =>
  cases (show u=Value.ref a from rx)
  obtain ⟨_,_,_,n,_,h1⟩:=(show ObjOk X.prog X.w H s.heap a (.frz ob (.lst xs)) from I.hok a _ ea);exact PySem.W.kia_one PySem.W.kitx_list I.kIn ⟨_,h1,rfl⟩ e (λz=>nomatch z) h
 | @tup a xs ea =>
  cases (show u=Value.ref a from rx)
  obtain ⟨_,_,_,p⟩:=(show ObjOk X.prog X.w H s.heap a (.tup xs) from I.hok a _ ea);obtain ⟨o,h1,h2,_⟩:=p;exact PySem.W.kia_one PySem.W.kitx_tuple I.kIn ⟨o,h1,h2⟩ e (λz=>nomatch z) h
 | @dK a kvs ea =>
  cases (show u=Value.ref a from rx)
  obtain ⟨_,_,vs,_,p⟩:=(show ObjOk X.prog X.w H s.heap a (.dK kvs) from I.hok a _ ea);obtain ⟨o,es,ep,h1,h2,_⟩:=p;exact PySem.W.kia_one PySem.W.kitx_dict I.kIn ⟨o,h1,h2.1⟩ e (λz=>nomatch z) h
 | @dT a kvs ea =>
  cases (show u=Value.ref a from rx)
  obtain ⟨_,_,xs,_,o,es,ep,h1,h2,_⟩:=(show ObjOk X.prog X.w H s.heap a (.dT kvs) from I.hok a _ ea);exact PySem.W.kia_one PySem.W.kitx_dict I.kIn ⟨o,h1,h2.1⟩ e (λz=>nomatch z) h
 | @ins a C dx fs ea cl ha hn htk hm =>
  cases (show u=Value.ref a from rx)
  obtain ⟨mA,O,_⟩:=qjr I.hok ea;obtain ⟨od,J,_⟩:=O.look;exact PySem.W.kia_one (PySem.W.kitx_own (cl.get _) cl.hd ha hn htk hm) I.kIn J e (λz=>nomatch z) h
end
open PySem PySem.Spec PyProof.Rows
structure Room (k:Nat) (A:Around):Prop where
 hd:A.handled=none
 dp:A.depth+3*k+5<recursionLimit
 un:A.units+16*k+200<cLine
theorem Room.mono {j k:Nat} {A:Around} (r:Room k A) (h:j<=k):Room j A:=⟨r.hd,by have:=r.dp;omega,by have:=r.un;omega⟩
theorem Room.deeper {k:Nat} {A:Around} (r:Room (k+1) A) (env:Env):Room k (A.deeper env):=
 ⟨r.hd,by have:=r.dp;show A.depth+1+3*k+5<_;omega,by have:=r.un;show A.units+3+16*k+200<_;omega⟩
theorem qn3 {A:Around} {C:Addr} {us:List Value} {kw:List (Str×Value)}:(A.under (.builtin "type.__call__" ⟨.ref C :: us,kw⟩)).depth=A.depth+1:=by
 first|rfl|simp[Around.under,Code.weight,Code.isCreation,Code.isGuard,Code.isCaller,Code.frames,Code.isFrame,guardIds]
theorem qn4 {A:Around} {C:Addr} {us:List Value} {kw:List (Str×Value)}:(A.under (.builtin "type.__call__" ⟨.ref C :: us,kw⟩)).units=A.units+1:=by
 first|rfl|simp[Around.under,Code.cUnits,Code.frames,Code.isFrame]
theorem Room.make {k:Nat} {A:Around} (r:Room (k+1) A) (C:Addr) (us:List Value) (kw:List (Str×Value)):Room k (A.under (.builtin "type.__call__" ⟨.ref C :: us,kw⟩)):=
 ⟨r.hd,by have:=r.dp;rw[qn3];omega,by have:=r.un;rw[qn4];omega⟩
theorem Room.depth {k:Nat} {A:Around} (r:Room k A):A.depth<recursionLimit:=by have:=r.dp;omega
theorem Room.units {k:Nat} {A:Around} (r:Room k A):A.units+64<cLine:=by have:=r.un;omega
def qgf:TA:=λ_ H Q=>Q [] H
def qyy (ta:TE) (tr:TA):TA:=λσ H Q=>ta σ H λx H1=>tr σ H1 λxs H2=>Q (x :: xs) H2
section
variable {X:Cx} {e:Expr} {es:List Expr} {te:TE} {t:TA} {pos:Pos}
theorem qad:PA X [] qgf:=λ_ _ _ _ H Q I h=>Calls.spliced_nil ⟨[],H,I,.nil,h⟩
theorem qaa (ha:PE X e te) (hr:PA X es t) (hs:starEach (e :: es) X.env=(false,eval e X.env) :: starEach es X.env:=by rfl):PA X (e :: es) (qyy te t):=by
 intro pos pins s σ H Q I h;rw[hs]
 show wpAny _ _ (spliced ((false,eval e X.env) :: backTo pos (starEach es X.env))) _ _ s
 refine Calls.spliced_cons (thn (ha pins s σ H _ I h) λu s1 hq__=>?_);obtain ⟨x,H1,I1,r1,q1⟩:=hq__;exact thn (hr pos pins s1 σ H1 _ I1 q1) λus s2 ⟨xs,H2,I2,r2,q2⟩=>⟨x :: xs,H2,I2,.cons r1 r2,q2⟩
end
abbrev Sp:=List V->Hp->VK->XK->Prop
abbrev CXT:=List Env->Hp->Shared->XK->Value->Shared->Prop
structure Env0 (P:Program) (w:World) (K:Frag) (mg:Str->Option Value) (base:Heap) (A:Around) (outer:List Env) (s:Shared) (H:Hp):Prop where
 frames:A.frames=some outer
 mod:Mod K mg base
 bs:∀ b o,base.get? b=some o->s.heap.get? b=some o/\H b=none
 bsz:base.objs.size<=s.heap.objs.size
 funs:s.heap.FunFrames base outer
 frf:∀ b∈frs outer,H b=none
 hok:HOk P w H s.heap
 bare:AllBare s.gens
def CE (outer:List Env) (P:Program) (w:World) (H:Hp) (s:Shared) (Q:VK) (u:Value) (s':Shared):Prop:=
 ∃ v H',s'.os=s.os/\AllBare s'.gens/\Un (frs outer) [] H H' s.heap s'.heap/\HOk P w H' s'.heap/\RelV v u/\Q v H'
def CR (CX:CXT) (outer:List Env) (P:Program) (w:World) (H:Hp) (s:Shared) (Q:VK) (E:XK) (r:Result) (s':Shared):Prop:=
 match r with
 | .ok (.ret u)=>CE outer P w H s Q u s'
 | .ok _=>False
 | .error e=>CX outer H s E e s'
structure qg9 (P:Program) (w:World) (K:Frag) (mg:Str->Option Value) (base:Heap) (CX:CXT) (k:Nat) (f:Addr) (fd:FuncData) (ps:List Str) (sp:Sp):Prop where
 len:∀ vs H Q E,sp vs H Q E->vs.length=ps.length
 run:∀ (A:Around) (outer:List Env) (s:Shared) (H:Hp) (args:Args) (us:List Value) (vs:List V) (Q:VK) (E:XK),Room k A->Env0 P w K mg base A outer s H->BindsTo s fd args (ps.zip us)->Vals vs us->sp vs H Q E ->
  codeAny (model P w) A (.call (.ref f) args) (CR CX outer P w H s Q E) s
theorem Env0.make {P:Program} {w:World} {K:Frag} {mg:Str->Option Value} {base:Heap} {A:Around} {outer:List Env} {s:Shared} {H:Hp} (e:Env0 P w K mg base A outer s H) (C:Addr) (us:List Value) (kw:List (Str×Value)) :
  Env0 P w K mg base (A.under (.builtin "type.__call__" ⟨.ref C :: us,kw⟩)) outer s H:=⟨by first|exact e.frames|(simpa [Around.under,Code.envs,Code.isFrame,pushEnvs] using e.frames),e.mod,e.bs,e.bsz,e.funs,e.frf,e.hok,e.bare⟩
section
variable {X:Cx} {pins:List (Addr×Obj)} {σ:St} {H:Hp} {s s':Shared}
theorem Inv.env0 (I:Inv X pins σ H s):Env0 X.prog X.w X.K X.mg X.base X.A X.stack s H:=
 ⟨I.ok.frames,I.ok.mod,I.bs,Nat.le_trans I.ok.bsz I.sz,I.stack,I.stkFree,I.hok,I.bare⟩
theorem Inv.after {Q:VK} {u:Value} (I:Inv X pins σ H s) (h:CE X.stack X.prog X.w H s Q u s'):EP X pins σ Q u s':=by
 obtain ⟨v,H',os,bare,un,hok,r,q⟩:=h;obtain ⟨hh,g,d,t,os'⟩:=s';obtain rfl:os'=s.os:=os;exact ⟨v,H',I.call (h':=hh) (g':=g) (d':=d) (t':=t) (ch:=[]) un hok bare (λb z=>absurd z (by simp)),r,q⟩
end
def qwg (sp:Sp) (dvs:List V) (E:XK) (t:TA):TE:=λσ H Q=>t σ H λvs H1=>sp (vs ++ dvs) H1 Q E
inductive qth (C:Addr) (m:Str) (x:V) (H:Hp) (k:Prop):Prop
 | mk (a dx:Addr) (fs:List (Str×V)) (hx:x=.ref a) (ho:H a=some (.ins C dx fs)) (hl:fs.lookup m=none) (hk:k)
def qr2 (C:Addr) (m:Str) (sp:Sp) (dvs:List V) (E:XK) (ta:TE) (t:TA):TE:=λσ H Q=>ta σ H λx H1=>qth C m x H1 (t σ H1 λvs H2=>sp (x :: (vs ++ dvs)) H2 Q E)
def Binds (K:Frag) (fd:FuncData) (ps:List Str) (ds:List Value):Prop:=
 ∀ (s:Shared) (us:List Value),K.In s.heap->(us ++ ds).length=ps.length->BindsTo s fd ⟨us,[]⟩ (ps.zip (us ++ ds))
theorem Binds.all {K:Frag} {fd:FuncData} {ps:List Str} (h:∀ us:List Value,us.length=ps.length->bindArgs fd ⟨us,[]⟩=pure (ps.zip us)):Binds K fd ps []:=λs us _ hl=>by
 rw[List.append_nil] at hl ⊢;exact .of_eq (h us hl)
def qi5 (CX:CXT) (X:Cx) (E:XK):Prop:=∀ (pins:List (Addr×Obj)) (σ:St) (H:Hp) (s:Shared) (e:Value) (s':Shared),Inv X pins σ H s->CX X.stack H s E e s'->X.xe e s'
section
variable {X:Cx} {CX:CXT} {k:Nat} {f C:Addr} {fd:FuncData} {ps:List Str} {sp:Sp} {dvs:List V} {ds:List Value} {E:XK} {x m:Str} {p pos apos:Pos} {e o:Expr} {es:List Expr} {ta:TE} {t:TA}
theorem qpl {pins:List (Addr×Obj)} {σ:St} {H:Hp} {s:Shared} {Q:VK} {us:List Value} {vs:List V} (F:qg9 X.prog X.w X.K X.mg X.base CX k f fd ps sp) (hr:Room k X.A) (hb:Binds X.K fd ps ds) (hd:Vals dvs ds) (hx:qi5 CX X E)
  (I:Inv X pins σ H s) (r:Vals vs us) (h:sp (vs ++ dvs) H Q E):wpAny (model X.prog X.w) X.A (call (.ref f) us) (EP X pins σ Q) X.xe s:=by
 have r2:Vals (vs ++ dvs) (us ++ ds):=r.append hd;have hl:(us ++ ds).length=ps.length:=by rw[<- r2.length];exact F.len _ _ _ _ h
 refine wpAny_call (codeAny_mono (F.run X.A X.stack s H ⟨us,[]⟩ (us ++ ds) (vs ++ dvs) Q E hr I.env0 (hb s us I.kIn hl) r2 h) λr s' hq=>?_)
 cases r with
 | error e=>exact hx pins σ H s e s' I hq
 | ok fl =>
  cases fl with
  | ret u=>exact I.after hq
  | next=>exact False.elim hq
  | brk=>exact False.elim hq
  | cont=>exact False.elim hq
theorem quk (F:qg9 X.prog X.w X.K X.mg X.base CX k f fd ps sp) (hr:Room k X.A) (hg:Gl X x) (hm:X.mg x=some (.ref f)) (hk:keepIn X.K (.ref f)=true) (hb:Binds X.K fd ps ds) (hd:Vals dvs ds) (hx:qi5 CX X E)
  (ha:PA X (e :: es) t) (hdb:(x == ("__debug__" : Str))=false:=by decide) (he:starEach (e :: es) X.env=(false,eval e X.env) :: starEach es X.env:=by rfl) (hpl:(backTo pos (starEach es X.env)).any (·.1)=false:=by rfl) :
  PE X (.Call (.Name x p) (e :: es) [] pos) (qwg sp dvs E t):=by
 intro pins s σ H Q I h;refine wpAny_Call_Name_kw (qgd I hg hm ?_ hdb);refine PySem.W.callWith_K (h₀:=X.base) I.ok.mod.kin hk (thn (ha pos pins s σ H _ I h) λus s1 ⟨vs,H1,I1,r,q⟩=>⟨I1.kIn,?_⟩) he hpl;exact qpl F hr hb hd hx I1 r q
theorem qul {pl:Sem Bool} (he:PE X o ta) (c:Cls X.K C) (hm:qgc X.K C m f) (F:qg9 X.prog X.w X.K X.mg X.base CX k f fd ps sp) (hr:Room k X.A) (hb:Binds X.K fd ps ds) (hd:Vals dvs ds) (hx:qi5 CX X E) (ha:PA X (e :: es) t)
  (hst:starEach (e :: es) X.env=(false,eval e X.env) :: starEach es X.env:=by rfl) (hpl:(backTo pos (starEach es X.env)).any (·.1)=false:=by rfl)
  (ht:eval (.Call (.Attribute o m apos) (e :: es) [] pos) X.env=(do
   let ov <- eval o X.env
   standAt apos.atName
   let (f,first) <- holding [ov] (getMethod ov m pl)
   callWith pos f first (backTo pos (starEach (e :: es) X.env)) (backToKw pos (keywordEach [] X.env))):=by rfl) :
  PE X (.Call (.Attribute o m apos) (e :: es) [] pos) (qr2 C m sp dvs E ta t):=by
 intro pins s σ H Q I h;refine PySem.W.methodCall_KW (pl:=pl) (thn (he pins s σ H _ I h) λu s1 hq__=>?_) ht;obtain ⟨x,H1,I1,rx,a,dx,fs,ex,ea,l,q⟩:=hq__;subst ex;obtain rfl:u=Value.ref a:=rx;refine qge I1 ea c hm l ?_;refine PySem.W.callWith_K (first:=[.ref a]) (h₀:=X.base) I.ok.mod.kin hm.kp (thn (ha pos pins s1 σ H1 _ I1 q) λus s2 ⟨vs,H2,I2,r,q2⟩=>⟨I2.kIn,?_⟩) hst hpl;exact qpl (us:=.ref a :: us) (vs:=.ref a :: vs) F hr hb hd hx I2 (.cons rfl r) q2
theorem qr3 {pl:Sem Bool} (he:PE X o ta) (c:Cls X.K C) (hm:qgc X.K C m f) (F:qg9 X.prog X.w X.K X.mg X.base CX k f fd ps sp) (hr:Room k X.A) (hb:Binds X.K fd ps ds) (hd:Vals dvs ds) (hx:qi5 CX X E)
  (ht:eval (.Call (.Attribute o m apos) [] [] pos) X.env=(do
   let ov <- eval o X.env
   standAt apos.atName
   let (f,first) <- holding [ov] (getMethod ov m pl)
   callWith pos f first (backTo pos (starEach [] X.env)) (backToKw pos (keywordEach [] X.env))):=by rfl) :
  PE X (.Call (.Attribute o m apos) [] [] pos) (qr2 C m sp dvs E ta qgf):=by
 intro pins s σ H Q I h;refine PySem.W.methodCall_KW (pl:=pl) (thn (he pins s σ H _ I h) λu s1 hq__=>?_) ht;obtain ⟨x,H1,I1,rx,a,dx,fs,ex,ea,l,q⟩:=hq__;subst ex;obtain rfl:u=Value.ref a:=rx;refine qge I1 ea c hm l ?_;exact PySem.W.callWith_K0 (first:=[.ref a]) I1.kIn hm.kp (qpl (us:=[.ref a]) (vs:=[.ref a]) F hr hb hd hx I1 (.cons rfl .nil) q)
structure Mk (K:Frag) (C f:Addr):Prop where
 makes:PySem.W.makesIn K C=true
 init:PySem.W.findIn K (.ref C) "__init__" = some (some (.ref f))
 fn:PySem.W.isFn K (.ref f)=true
 kp:keepIn K (.ref C)=true
theorem qr4 {pins:List (Addr×Obj)} {σ:St} {H:Hp} {s:Shared} {Q:VK} {us:List Value} {vs:List V} (M:Mk X.K C f) (F:qg9 X.prog X.w X.K X.mg X.base CX k f fd ps sp) (hr:Room (k+1) X.A) (hb:Binds X.K fd ps ds) (hd:Vals dvs ds)
  (hx:qi5 CX X E) (I:Inv X pins σ H s) (r:Vals vs us)
  (h:∀ x dx,H x=none->H dx=none->dx≠x->sp (.ref x :: (vs ++ dvs)) (upd (upd H dx (.own x)) x (.ins C dx [])) (λv H2=>v=.non/\Q (.ref x) H2) E) :
  wpAny (model X.prog X.w) X.A (call (.ref C) us) (EP X pins σ Q) X.xe s:=by
 have hq:=h (s.heap.objs.size+1) s.heap.objs.size (I.hok.fresh (Nat.le_succ _)) (I.hok.fresh (Nat.le_refl _)) (Nat.ne_of_lt (Nat.lt_succ_self _));have I2:=Inv.made (C:=C) I;have r2:Vals (V.ref (s.heap.objs.size+1) :: (vs ++ dvs)) (Value.ref (s.heap.objs.size+1) :: (us ++ ds)):=.cons rfl (r.append hd);have hl:(Value.ref (s.heap.objs.size+1) :: us ++ ds).length=ps.length:=by
  have e:=r2.length;rw[F.len _ _ _ _ hq] at e;exact e.symm
 refine wpAny_call (qr1 (f:=f) I.kIn M.makes M.init (beq_iff_eq.mp M.fn) (codeAny_mono (F.run _ X.stack _ _ ⟨Value.ref (s.heap.objs.size+1) :: us,[]⟩ (Value.ref (s.heap.objs.size+1) :: (us ++ ds)) _ _ E (hr.make C us [])
  (I2.env0.make C us []) (hb _ (Value.ref (s.heap.objs.size+1) :: us) I2.kIn hl) r2 hq) λr s' hq'=>?_))
 cases r with
 | error e=>exact hx pins σ _ _ e s' I2 hq'
 | ok fl =>
  cases fl with
  | ret u =>
   obtain ⟨v,H',I3,rv,ev,q3⟩:=I2.after hq';subst ev;exact ⟨rv,⟨V.ref (s.heap.objs.size+1),H',I3,rfl,q3⟩⟩
  | next=>exact False.elim hq'
  | brk=>exact False.elim hq'
  | cont=>exact False.elim hq'
end
section
variable {X:Cx} {CX:CXT} {k:Nat} {f C:Addr} {fd:FuncData} {ps ks:List Str} {sp:Sp} {E:XK} {x m:Str} {p pos apos kpos:Pos} {e o:Expr} {es:List Expr} {kws:List Keyword} {te ta:TE} {t tk:TA} {nm:Option Str}
variable {g:List Value->List Value->List Value} {gV:List V->List V->List V}
end
structure qaj (N P:List Str) (sc:Scope):Prop where
 kind:sc.kind=.function
 co:sc.isCoroutine=false
 gen:sc.isGenerator=false
 nd:N.Nodup
 pre:N.take P.length=P
 par:∀ x∈P,sc.names.lookup x=some .local\/sc.names.lookup x=some .cell
 nofree:∀ y∈sc.names,y.2≠.free
theorem qko {kindOf:Str->Option NameKind} {x:Str}:∀ {binds:List (Str×Value)} {m:Str->Option Value},(∀ v,(x,v) ∉ binds)->bindL kindOf binds m x=m x
 | [],_,_=>rfl
 | (n,v) :: r,m,h=>by
  unfold bindL;rw[qko λw hw=>h w (List.mem_cons_of_mem _ hw)]
  split
  ·have:x≠n:=by rintro rfl;exact h v List.mem_cons_self
   simp[this]
  ·rfl
theorem qkp {kindOf:Str->Option NameKind} {x:Str}:∀ {binds:List (Str×Value)} {m:Str->Option Value},(∀ v,(x,v) ∉ binds)->bindC kindOf binds m x=m x
 | [],_,_=>rfl
 | (n,v) :: r,m,h=>by
  unfold bindC;rw[qkp λw hw=>h w (List.mem_cons_of_mem _ hw)]
  split
  ·rfl
  ·have:x≠n:=by rintro rfl;exact h v List.mem_cons_self
   simp[this]
theorem qkq {kindOf:Str->Option NameKind} {x:Str} {v:Value}:∀ {P:List Str} {vs:List Value} {i:Nat} {m:Str->Option Value},P.Nodup->P[i]?=some x->vs[i]?=some v->kindOf x=some .local ->
  bindL kindOf (P.zip vs) m x=some v
 | [],_,_,_,_,h,_,_=>by simp at h
 | _ :: _,[],_,_,_,_,h,_=>by simp at h
 | p :: P,w :: vs,0,m,nd,h1,h2,hk=>by
  simp at h1 h2;subst h1;subst h2
  show bindL kindOf ((p,w) :: P.zip vs) m p=_
  unfold bindL;rw[qko λv hv=>(List.nodup_cons.mp nd).1 (List.of_mem_zip hv).1,if_pos hk]
  simp
 | p :: P,w :: vs,i+1,m,nd,h1,h2,hk=>by
  show bindL kindOf ((p,w) :: P.zip vs) m x=_
  unfold bindL;exact qkq (i:=i) (List.nodup_cons.mp nd).2 (by simpa using h1) (by simpa using h2) hk
theorem qkr {kindOf:Str->Option NameKind} {x:Str} {v:Value}:∀ {P:List Str} {vs:List Value} {i:Nat} {m:Str->Option Value},P.Nodup->P[i]?=some x->vs[i]?=some v->kindOf x≠some .local ->
  bindC kindOf (P.zip vs) m x=some v
 | [],_,_,_,_,h,_,_=>by simp at h
 | _ :: _,[],_,_,_,_,h,_=>by simp at h
 | p :: P,w :: vs,0,m,nd,h1,h2,hk=>by
  simp at h1 h2;subst h1;subst h2
  show bindC kindOf ((p,w) :: P.zip vs) m p=_
  unfold bindC;rw[qkp λv hv=>(List.nodup_cons.mp nd).1 (List.of_mem_zip hv).1,if_neg hk]
  simp
 | p :: P,w :: vs,i+1,m,nd,h1,h2,hk=>by
  show bindC kindOf ((p,w) :: P.zip vs) m x=_
  unfold bindC;exact qkr (i:=i) (List.nodup_cons.mp nd).2 (by simpa using h1) (by simpa using h2) hk
def start (N:List Str) (vs:List V):St:=vs.map some ++ List.replicate (N.length-vs.length) none
def qo1 (CX:CXT) (P:Program) (w:World) (K:Frag) (mg:Str->Option Value) (base:Heap) (N:List Str) (qual:Str) (scope:Scope) (f:Addr) (cd:Value) (A:Around) (outer:List Env) (s:Shared) (H:Hp) (E:XK):Cx where
 prog:=P
 w:=w
 K:=K
 mg:=mg
 base:=base
 A:=A.deeper (envOfC qual scope s.heap.objs.size f cd)
 N:=N
 s₀:=s
 H₀:=H
 env:=envOfC qual scope s.heap.objs.size f cd
 outer:=outer
 stack:=envOfC qual scope s.heap.objs.size f cd :: outer
 ex:=[]
 calm:=true
 fn:=λ_=>true
 pn:=[]
 xe:=λe s'=>wpAny (model P w) (A.deeper (envOfC qual scope s.heap.objs.size f cd)) (leaving (envOfC qual scope s.heap.objs.size f cd) e) (λ_ s''=>CX outer H s E e s'') (λe' s''=>CX outer H s E e' s'') s'
theorem qmx {sc:Scope} {n:Nat} {x:Str} (h:sc.names.lookup x=some .cell):∃ c,(cellsFrom n sc.names []).lookup x=some c:=by
 have q:=PySem.W.cellsFrom_some sc.names n [] (.inl h);exact Option.isSome_iff_exists.mp q
theorem qpm {CX:CXT} {P:Program} {w:World} {K:Frag} {mg:Str->Option Value} {base:Heap} {N ps:List Str} {qual:Str} {scope:Scope} {f:Addr} {cd:Value} {A:Around} {outer:List Env} {s s1:Shared} {H:Hp} {E:XK} {us:List Value} {vs:List V}
  (S:qaj N ps scope) (hd:A.handled=none) (e0:Env0 P w K mg base A outer s H) (hl:vs.length=ps.length) (r:Vals vs us)
  (x:InCallC s s.heap.objs.size (bindL (envOfC qual scope s.heap.objs.size f cd).kindOf (ps.zip us) λ_=>none) (cellsFrom (s.heap.objs.size+1) scope.names []) (bindC (envOfC qual scope s.heap.objs.size f cd).kindOf (ps.zip us) λ_=>none) s1) :
  Inv (qo1 CX P w K mg base N qual scope f cd A outer s H E) [] (start N vs) H s1:=by
 have hpl:ps.length<=N.length:=by have:=congrArg List.length S.pre;rw[List.length_take] at this;omega
 obtain ⟨h1,tk,rfl,hk⟩:=x.done;have noA:∀ b:Addr,b ∉ (qo1 CX P w K mg base N qual scope f cd A outer s H E).ex:=λb z=>absurd (show b∈([]:List Addr) from z) (by simp)
 refine ⟨⟨e0.mod,S.kind,rfl,rfl,Nat.le_refl _,λy z c h1 h2=>?_,λy hy=>?_,λy c _ h=>?_,λ_=>hd,Around.frames_deeper e0.frames,.inr ⟨rfl,rfl⟩,λb z=>absurd z (noA b),e0.bs,e0.bsz,λb _ _=>noA b,λb z=>absurd z (noA b),e0.funs,e0.frf⟩,
  rfl,e0.bare,Un.kept hk,⟨_,x.toInCall.ns,λi y v h1 h2 h3=>?_⟩,λy c h=>⟨_,x.cell y c h⟩,e0.hok.fresh (Nat.le_refl _),λy c h=>?_,λp hp=>absurd (show p∈([]:List (Addr×Obj)) from hp) (by simp),e0.hok.kept hk,?_⟩
 ·exact name_of_addr x.apart (PySem.mem_of_lookup h1) (PySem.mem_of_lookup h2)
 ·have hy:scope.names.lookup y=some .cell\/scope.names.lookup y=some .free:=hy
  rcases hy with hy|hy
  ·exact qmx hy
  ·exact absurd rfl (S.nofree _ (PySem.mem_of_lookup hy))
 ·exact Nat.le_of_lt (x.above y c (PySem.mem_of_lookup h))
 ·have hi:i<vs.length:=by
   unfold start at h2
   by_cases hi:i<vs.length
   ·exact hi
   ·rw[List.getElem?_append_right (by simpa using hi)] at h2
    rw[List.getElem?_replicate] at h2
    split at h2<;>cases h2
  have ha:vs[i]?=some v:=by
   unfold start at h2;rw[List.getElem?_append_left (by simpa using hi),List.getElem?_map] at h2
   cases e:vs[i]? with
   | none=>rw[e] at h2;cases h2
   | some a=>rw[e] at h2;cases h2;rfl
  obtain ⟨u,hu,rv⟩:=r.get ha;have hp:ps[i]?=some y:=by
   rw[<- S.pre,List.getElem?_take_of_lt (by omega)];exact h1
  have ndP:ps.Nodup:=by rw[<- S.pre];exact S.nd.sublist (List.take_sublist _ _)
  refine ⟨u,rv,?_⟩
  rcases S.par y (List.mem_of_getElem? hp) with k|k
  ·exact .inl ⟨k,qkq ndP hp hu k⟩
  ·obtain ⟨c,e⟩:=qmx (n:=s.heap.objs.size+1) k
   refine .inr ⟨.inl k,c,e,?_⟩;have q:=x.cell y c e;rw[qkr ndP hp hu (by show scope.names.lookup y≠_;rw[k];decide)] at q;exact q
 ·exact e0.hok.fresh (Nat.le_of_lt (x.above y c (PySem.mem_of_lookup h)))
 ·unfold start
  show _=N.length
  rw[List.length_append,List.length_map,List.length_replicate];omega
theorem qr5 {CX:CXT} {P:Program} {w:World} {K:Frag} {mg:Str->Option Value} {base:Heap} {k:Nat} {f:Addr} {name qual:Str} {params:Arguments} {body:List Stmt} {scope:Scope} {dV kV doc pm cdv ct oc:Value} {an od:Option Addr}
  {osl:Array (Option Value)} {N ps:List Str} {sp:Sp} (lk:K.lookup f=some ⟨oc,od,.func (fnOf name qual params body scope dV kV doc pm an cdv ct),osl⟩) (hcd:codeIn K cdv qual=true) (S:qaj N ps scope)
  (len:∀ vs H Q E,sp vs H Q E->vs.length=ps.length)
  (hbody:∀ (A:Around) (outer:List Env) (s:Shared) (H:Hp) (vs:List V) (Q:VK) (E:XK),Room k (A.deeper (envOfC qual scope s.heap.objs.size f cdv))->sp vs H Q E ->
   ∃ t,PSs (qo1 CX P w K mg base N qual scope f cdv A outer s H E) body t/\t { nx:=λ_ H'=>Q .non H',rt:=Q } (start N vs) H) :
  qg9 P w K mg base CX (k+1) f (fnOf name qual params body scope dV kV doc pm an cdv ct) ps sp:=by
 refine ⟨len,λA outer s H args us vs Q E hr e0 hb r hsp=>?_⟩;have hl:=len _ _ _ _ hsp;have KX:K.In s.heap:=e0.mod.kin.keeps λb o e=>(e0.bs b o e).1
 have lim:s.heap.NoLimit:=e0.mod.nolimit.keeps λb o e=>(e0.bs b o e).1
 have hkind:∀ y∈ps.zip us,scope.names.lookup y.1=some .local\/(scope.names.lookup y.1=some .cell/\((cellsFrom (s.heap.objs.size+1) scope.names []).lookup y.1).isSome=true):=fun ⟨n,v⟩ hy=>by
  rcases S.par n (List.of_mem_zip hy).1 with q|q
  ·exact .inl q
  ·exact .inr ⟨q,PySem.W.cellsFrom_some _ _ _ (.inl q)⟩
 refine codeAny_call_function hr.depth (KX _ _ lk) rfl S.co S.gen rfl (PySem.W.codeRec_of KX hcd) (hb _ _ _ _ ?_);refine wpAny_newFunctionEnv_cells S.kind hkind λenv he s1 x=>?_
 subst he;refine ⟨lim.keeps x.toInCall.keep,codeAny_func ?_⟩;obtain ⟨t,ht,hq⟩:=hbody A outer s H vs Q E (hr.deeper _) hsp;have I:Inv (qo1 CX P w K mg base N qual scope f cdv A outer s H E) [] (start N vs) H s1:=qpm S hr.hd e0 hl r x;refine wpAny_mono (ht [] s1 (start N vs) H _ I hq) (λfl s' hs=>?_) λe s' hs=>hs
 have fin:∀ {σ':St} {H':Hp} {v:V} {u:Value},Inv (qo1 CX P w K mg base N qual scope f cdv A outer s H E) [] σ' H' s'->RelV v u->Q v H'->CE outer P w H s Q u s':=
  fun {σ' H' v u} J rv q=>⟨v,H',J.os,J.bare,J.base,J.hok,rv,q⟩
 cases fl with
 | ret u =>
  obtain ⟨v,σ',H',J,rv,q⟩:=hs;exact fin J rv q
 | next =>
  obtain ⟨σ',H',J,q⟩:=hs;exact fin (v:=V.non) (u:=Value.none) J rfl q
 | brk =>
  obtain ⟨_,_,_,q⟩:=hs;exact False.elim q
 | cont =>
  obtain ⟨_,_,_,q⟩:=hs;exact False.elim q
open PySem PySem.Spec PyProof.Rows
section
variable {X:Cx} {x:Str} {p pos:Pos} {e:Expr} {es:List Expr} {t:TA} {id T:String} {r:List V->Hp->VK->Prop}
def tCB (r:List V->Hp->VK->Prop) (t:TA):TE:=λσ H Q=>t σ H λvs H1=>r vs H1 Q
theorem qan (hc:CallR X (.builtin id) r) (hg:Gl X x) (hm:X.mg x=none) (hv:bootBuiltins x=some (.builtin id)) (ha:PA X (e :: es) t) (hn:x ≠ "__name__" :=by decide) (hdb:(x == ("__debug__" : Str))=false:=by decide)
  (he:starEach (e :: es) X.env=(false,eval e X.env) :: starEach es X.env:=by rfl) (hpl:(backTo pos (starEach es X.env)).any (·.1)=false:=by rfl):PE X (.Call (.Name x p) (e :: es) [] pos) (tCB r t):=by
 intro pins s σ H Q I h;refine wpAny_Call_Name_kw (qkj I hg hm hv ?_ hn hdb);exact PyProof.Rows.callWith_builtin1 (thn (ha pos pins s σ H _ I h) λus s1 ⟨vs,H1,I1,r1,q1⟩=>hc pins s1 σ H1 vs us Q I1 r1 q1) he hpl
theorem qd6 (hc:CallR X (.type T) r) (hg:Gl X x) (hm:X.mg x=none) (hv:bootBuiltins x=some (.type T)) (ha:PA X (e :: es) t) (hn:x ≠ "__name__" :=by decide) (hdb:(x == ("__debug__" : Str))=false:=by decide)
  (he:starEach (e :: es) X.env=(false,eval e X.env) :: starEach es X.env:=by rfl) (hpl:(backTo pos (starEach es X.env)).any (·.1)=false:=by rfl):PE X (.Call (.Name x p) (e :: es) [] pos) (tCB r t):=by
 intro pins s σ H Q I h;refine wpAny_Call_Name_kw (qkj I hg hm hv ?_ hn hdb);exact PyProof.Rows.callWith_type1 (thn (ha pos pins s σ H _ I h) λus s1 ⟨vs,H1,I1,r1,q1⟩=>hc pins s1 σ H1 vs us Q I1 r1 q1) he hpl
end
end L2
namespace HT
open PySem PyProof.Rows
section
open PySem.SeqAt
open PySem.AutoSeq1 (wpAny_loadPart')
open PySem.MeetsSeq PySem.MeetsSeq2 PySem.MeetsSeq3
end
section
variable {prog:Program} {w:World} {A:Around} {E:Value->Shared->Prop} {s:Shared}
theorem cat_tup {t b:Addr} {vs ws:List Value} {Q:Value->Shared->Prop} (ht:IsTup s.heap t vs.toArray) (hb:IsTup s.heap b ws.toArray) (hv:vs≠[])
  (h1:ws=[]->Q (.ref t) s) (h2:ws≠[]->Q (.ref s.heap.objs.size) { s with heap:=s.heap.push { cls:=.type "tuple",data:=.seq (vs ++ ws).toArray } })
  (hsz:vs.length+ws.length<=sizeLine):wpAny (model prog w) A (binaryOp .Add (.ref t) (.ref b)) Q E s:=by
 obtain ⟨⟨cls,dd,data,sl⟩,ho,hc,n,hd⟩:=id ht;obtain ⟨⟨cls2,dd2,data2,sl2⟩,ho2,hc2,n2,hd2⟩:=id hb;simp only at hc hd hc2 hd2;subst hc hd hc2 hd2;have e:vs.toArray ++ ws.toArray=(vs ++ ws).toArray:=by simp
 by_cases hw:ws=[]
 ·exact concat_meets ⟨_,ho,rfl⟩ ⟨_,ho2,rfl⟩ noFill_tuple_add seq_tuple_add PySem.F.slot_tuple_add PySem.F.entry_tuple_add (PySem.F.args_tuple_add_2 _ _)
   (tuple_addW1 t b vs.toArray ws.toArray n n2 dd dd2 sl sl2 (by simpa using hv) (by simp[hw])) ⟨ho,ho2,h1 hw⟩
 ·refine concat_meets ⟨_,ho,rfl⟩ ⟨_,ho2,rfl⟩ noFill_tuple_add seq_tuple_add PySem.F.slot_tuple_add PySem.F.entry_tuple_add (PySem.F.args_tuple_add_2 _ _)
   (tuple_addW2 t b vs.toArray ws.toArray n n2 dd dd2 sl sl2 (by simpa using hv) (by simpa using hw) (by rw[List.size_toArray,List.size_toArray];exact hsz)) ⟨ho,ho2,?_⟩
  rw[e];exact h2 hw
def sIx (n d:Nat):Option Int->Nat
 | none=>d
 | some v=>if v<0 then (v+(n:Int)).toNat else min v.toNat n
theorem sIx_none (n d:Nat):sIx n d none=d:=rfl
theorem sIx_nat (n d k:Nat):sIx n d (some (k:Int))=min k n:=by
 show (if (k:Int)<0 then ((k:Int)+(n:Int)).toNat else min (k:Int).toNat n)=min k n
 rw[if_neg (by omega),Int.toNat_natCast]
theorem qwh (n d:Nat) (hd:d<=n) (o:Option Int):sIx n d o<=n:=by
 cases o with
 | none=>exact hd
 | some v =>
  show (if v<0 then (v+(n:Int)).toNat else min v.toNat n)<=n
  by_cases hv:v<0
  ·rw[if_pos hv];omega
  ·rw[if_neg hv];exact Nat.min_le_right _ _
theorem qpn (v:Int) (n d:Nat):(if v<0 then max (v+(n:Int)) 0 else min v (n:Int))=((sIx n d (some v):Nat):Int):=by
 show (if v<0 then max (v+(n:Int)) 0 else min v (n:Int))=(((if v<0 then (v+(n:Int)).toNat else min v.toNat n):Nat):Int)
 by_cases hv:v<0
 ·simp only[if_pos hv];omega
 ·simp only[if_neg hv];omega
theorem qn5 (lo hi:Option Int) (n:Nat):Builtin.Slice.sliceAdjust lo hi 1 (n:Int)=(((sIx n 0 lo:Nat):Int),((sIx n n hi:Nat):Int)):=by
 have h1:¬ ((1:Int)<0):=by omega
 unfold Builtin.Slice.sliceAdjust;simp only[h1,if_false];refine Prod.ext ?_ ?_
 ·cases lo with
  | none=>rfl
  | some v=>exact qpn v n 0
 ·cases hi with
  | none=>rfl
  | some v=>exact qpn v n n
theorem qn6 (i j:Nat):Builtin.Slice.slicePlaces (i:Int) (j:Int) 1=j-i:=by
 unfold Builtin.Slice.slicePlaces;have h1:(1:Int)>0:=by omega
 simp only[h1,if_true,Int.ediv_one]
 split<;>omega
theorem qi6 {v:Value} {o:Option Int} {Q:Option Int->Shared->Prop} (p:IsPart v o) (h:Q o s):wpAny (model prog w) A (Builtin.Slice.slicePartIndex v) Q E s:=by
 cases p with
 | none=>exact slicePart_none h
 | int i t=>exact slicePart_int h
theorem qg6 {sl:Addr} {vl vu:Value} {lo hi:Option Int} {n:Nat} {Q:Int×Int×Nat->Shared->Prop} (hs:s.heap.IsSliceOf sl vl vu .none) (pl:IsPart vl lo) (pu:IsPart vu hi)
  (h:Q (((sIx n 0 lo:Nat):Int),1,sIx n n hi-sIx n 0 lo) s):wpAny (model prog w) A (Builtin.Slice.sliceApplied (.ref sl) (pure (n:Int))) Q E s:=by
 obtain ⟨os,hos,hcs,hds⟩:=id hs;unfold Builtin.Slice.sliceApplied Builtin.Slice.sliceFields;refine wpAny_bind (wpAny_bind (wpAny_field hos hds (x:=vl) rfl (wpAny_bind (wpAny_field hos hds (x:=vu) rfl (wpAny_bind (wpAny_field hos hds (x:=.none) rfl (wpAny_pure ?_)))))));refine wpAny_bind (slicePart_none ?_)
 show wpAny _ _ (if ((1:Int) == 0)=true then _ else _) _ _ s
 rw[if_neg (by decide)];refine wpAny_bind (qi6 pl (wpAny_bind (qi6 pu (wpAny_bind (wpAny_pure ?_)))))
 show wpAny _ _ (match Builtin.Slice.sliceAdjust lo hi 1 (n:Int) with|(lo,hi)=>pure (lo,(1:Int),Builtin.Slice.slicePlaces lo hi 1)) _ _ s
 rw[qn5 lo hi n]
 show wpAny _ _ (pure (((sIx n 0 lo:Nat):Int),(1:Int),Builtin.Slice.slicePlaces ((sIx n 0 lo:Nat):Int) ((sIx n n hi:Nat):Int) 1)) _ _ s
 rw[qn6];exact wpAny_pure h
theorem qr6 (xs:Array Value) (i k:Nat):((List.range k).filterMap fun (m:Nat)=>xs[((i:Int)+(m:Int)*1).toNat]?).toArray=((xs.toList.drop i).take k).toArray:=by
 have e:(fun (m:Nat)=>xs[((i:Int)+(m:Int)*1).toNat]?)=λm=>xs[i+m]?:=by
  funext m
  have:((i:Int)+(m:Int)*1).toNat=i+m:=by omega
  rw[this]
 rw[e];have:=pick_run xs i k;rw[List.filterMap_map] at this;have e2:((λx=>xs[x]?) ∘ λx=>i+x)=λm=>xs[i+m]?:=rfl
 rw[e2] at this;rw[this]
theorem getItem_tuple_cut {t sl:Addr} {items:Array Value} {vl vu:Value} {lo hi:Option Int} {Q:Value->Shared->Prop} (ht:IsTup s.heap t items) (hs:s.heap.IsSliceOf sl vl vu .none) (pl:IsPart vl lo) (pu:IsPart vu hi)
  (hw:¬ (sIx items.size 0 lo=0/\sIx items.size items.size hi=items.size))
  (h:Q (.ref s.heap.objs.size) { s with heap:=s.heap.push { cls:=.type "tuple",data:=.seq ((items.toList.drop (sIx items.size 0 lo)).take (sIx items.size items.size hi-sIx items.size 0 lo)).toArray } })
  (hsz:items.size<=sizeLine):wpAny (model prog w) A (getItem (.ref t) (.ref sl)) Q E s:=by
 have htake:sizeOk (.seq ((items.toList.drop (sIx items.size 0 lo)).take (sIx items.size items.size hi-sIx items.size 0 lo)).toArray):=by
  show ((items.toList.drop (sIx items.size 0 lo)).take (sIx items.size items.size hi-sIx items.size 0 lo)).toArray.size<=sizeLine
  rw[List.size_toArray,List.length_take,List.length_drop,Array.length_toList];omega
 have hj:sIx items.size items.size hi<=items.size:=qwh _ _ (Nat.le_refl _) hi;obtain ⟨os,hos,hcs,hds⟩:=id hs;have hTs:s.TypeIs (.ref sl) "slice" :=⟨os,hos,hcs⟩;unfold getItem
 try with_reducible refine wpAny_holding ?_
 first|refine wpAny_bind (wpAny_pure ?_)|skip
 refine wpAny_bind (wpAny_sequenceKey ht.typeIs (by decide) ?_);refine wpAny_bind (wpAny_callSpecial?_slot (name:=Str.ofString "__getitem__") ht.typeIs PyProof.Rows.slot_tuple_getitem
  (wpAny_call_entry PyProof.Rows.slot_tuple_getitem ht.typeIs entry_tuple_getitem ?_ (args_tuple_getitem _ _)))
 show wpAny _ _ (Builtin.Tuple.tupleItemsOf (.ref t) >>= _) _ _ s
 refine wpAny_bind (tupleItemsOf_ ht ?_);refine wpAny_bind (wpAny_typeOf hTs ?_);rw[if_pos (by decide)];refine wpAny_bind (qg6 hs pl pu ?_);have hno:¬ ((((sIx items.size 0 lo:Nat):Int) == 0 && (1:Int) == 1 && (sIx items.size items.size hi-sIx items.size 0 lo) == items.size)=true):=by
  intro q;rw[Bool.and_eq_true,Bool.and_eq_true] at q;have q1:((sIx items.size 0 lo:Nat):Int)=0:=eq_of_beq q.1.1;have q2:sIx items.size items.size hi-sIx items.size 0 lo=items.size:=eq_of_beq q.2;exact hw ⟨by omega,by omega⟩
 show wpAny _ _ (if (((sIx items.size 0 lo:Nat):Int) == 0 && (1:Int) == 1 && (sIx items.size items.size hi-sIx items.size 0 lo) == items.size)=true then _ else _) _ _ s
 rw[if_neg hno,qr6]
 first
  | exact wpAny_bind (m:=Builtin.Tuple.tupleExact _) (wpAny_newObj_type (wpAny_pure ⟨_,rfl,wpAny_pure h⟩) htake)
  | exact wpAny_bind (m:=Builtin.Tuple.tupleExact _) (wpAny_newObj_type (wpAny_bind (wpAny_pure (wpAny_pure ⟨_,rfl,wpAny_pure h⟩))) htake)
  | exact wpAny_bind (wpAny_bind (m:=Builtin.Tuple.tupleExact _) (wpAny_newObj_type (wpAny_pure (wpAny_pure ⟨_,rfl,wpAny_pure h⟩)) htake))
  | exact wpAny_bind (wpAny_bind (m:=Builtin.Tuple.tupleExact _) (wpAny_newObj_type (wpAny_pure ⟨_,rfl,wpAny_pure h⟩) htake))
end
end HT
namespace L2
open PySem PySem.Spec PyProof.Rows
abbrev TO:=St->Hp->(Option Int->Hp->Prop)->Prop
def PO (X:Cx) (e:Option Expr) (t:TO):Prop:=
 ∀ (pins:List (Addr×Obj)) (s:Shared) (σ:St) (H:Hp) (Q:Option Int->Hp->Prop),Inv X pins σ H s->t σ H Q ->
  wpAny (model X.prog X.w) X.A (evalPart e X.env) (λu s'=>∃ o H',Inv X pins σ H' s'/\IsPart u o/\Q o H') X.xe s
def qum:TO:=λ_ H Q=>Q none H
inductive tPartS (x:V) (H:Hp) (Q:Option Int->Hp->Prop):Prop
 | mk (i:Int) (h:x=.int i) (k:Q (some i) H)
def qyz (t:TE):TO:=λσ H Q=>t σ H λx H1=>tPartS x H1 Q
theorem intsAre_of {ns:List Int}:∀ {us:List Value},Vals (ns.map V.int) us->IntsAre us ns:=by
 induction ns with
 | nil=>intro us r;rw[List.map_nil] at r;cases r;exact .nil
 | cons n ns ih =>
  intro us r;rw[List.map_cons] at r
  cases r with
  | cons r1 r2 =>
   obtain ⟨t,e⟩:=r1;subst e;exact .cons n t (ih r2)
section
variable {X:Cx} {e:Expr} {te:TE} {lo hi:Option Expr} {tl th:TO} {pos p2:Pos}
theorem qjs:PO X none qum:=by
 intro pins s σ H Q I h;rw[evalPart_none];exact wpAny_pure ⟨none,H,I,.none,h⟩
theorem qgg (h:PE X e te):PO X (some e) (qyz te):=by
 intro pins s σ H Q I hw;rw[evalPart_some];refine thn (h pins s σ H _ I hw) λu s1 hq__=>?_
 obtain ⟨x,H1,I1,r1,q1⟩:=hq__;obtain ⟨i,rfl,q⟩:=q1;obtain ⟨t,rfl⟩:=r1;exact ⟨some i,H1,I1,.int i t,q⟩
def SlR (X:Cx) (r:V->Option Int->Option Int->Hp->VK->Prop):Prop:=
 ∀ (pins:List (Addr×Obj)) (s:Shared) (σ:St) (H:Hp) (x:V) (v vl vu:Value) (lo hi:Option Int) (sl:Addr) (Q:VK),Inv X pins σ H s->RelV x v->s.heap.IsSliceOf sl vl vu .none->IsPart vl lo->IsPart vu hi->r x lo hi H Q ->
  ∃ T id,typeLookup (.type T) "__getitem__" = pure (some (.builtin id))/\s.TypeIs v T/\wpAny (model X.prog X.w) X.A (getItem v (.ref sl)) (EP X pins σ Q) X.xe s
def tSl (r:V->Option Int->Option Int->Hp->VK->Prop) (te:TE) (tl th:TO):TE:=λσ H Q=>te σ H λx H1=>tl σ H1 λl H2=>th σ H2 λu H3=>r x l u H3 Q
theorem qf0 {r:V->Option Int->Option Int->Hp->VK->Prop} (hr:SlR X r) (he:PE X e te) (hl:PO X lo tl) (hu:PO X hi th):PE X (.Subscript e (.Slice lo hi none p2) pos) (tSl r te tl th):=by
 intro pins s σ H Q I h;refine Subscript_ (thn (he pins s σ H _ I h) λv s1 hq__=>?_);obtain ⟨x,H1,I1,r1,q1⟩:=hq__;refine wpAny_Slice (thn (hl pins s1 σ H1 _ I1 q1) λvl s2 ⟨l,H2,I2,pl,q2⟩=>thn (hu pins s2 σ H2 _ I2 q2) λvu s3 hq__=>?_);obtain ⟨u,H3,I3,pu,q3⟩:=hq__;rw[evalPart_none];refine wpAny_pure ?_;have I4:Inv X pins σ H3 { s3 with heap:=s3.heap.push { cls:=.type "slice",data:=.fields #[vl,vu,.none] } }:=I3.kept (t':=s3.toks) λb ob q=>Heap.get?_push_of_some _ q
 obtain ⟨T,id,hT,ht,hg⟩:=hr pins { s3 with heap:=s3.heap.push { cls:=.type "slice",data:=.fields #[vl,vu,.none] } } σ H3 x v vl vu l u s3.heap.objs.size Q I4 r1 (Heap.IsSliceOf.new ..) pl pu q3
 show wpAny (model X.prog X.w) X.A (subscriptTail e (.Slice lo hi none p2) v (.ref s3.heap.objs.size)) (EP X pins σ Q) X.xe { s3 with heap:=s3.heap.push { cls:=.type "slice",data:=.fields #[vl,vu,.none] } }
 exact tail_any (ops:=[.ref s3.heap.objs.size,v]) ht hT hg (by with_unfolding_all rfl)
def qmy (xs:List V) (lo hi:Option Int):List V:=(xs.drop (HT.sIx xs.length 0 lo)).take (HT.sIx xs.length xs.length hi-HT.sIx xs.length 0 lo)
theorem qhk (xs:List V) (lo hi:Option Int):(qmy xs lo hi).length<=xs.length:=by
 unfold qmy;rw[List.length_take,List.length_drop];omega
def qAk (K:Frag):V->Option Int->Option Int->Hp->VK->Prop:=λx lo hi H Q=>∃ a xs,x=.ref a/\SqT K H a xs /\
 ¬ (HT.sIx xs.length 0 lo=0/\HT.sIx xs.length xs.length hi=xs.length)/\∀ p,H p=none->Q (.ref p) (upd H p (.tup (qmy xs lo hi)))
theorem qwi:SlR X (qAk X.K):=by
 intro pins s σ H x v vl vu lo hi sl Q I rx hs pl pu h;obtain ⟨a,xs,rfl,hx,hw,q⟩:=h;cases rx;obtain ⟨its,r,ht,hz⟩:=I.tuple hx;have hlen:its.toArray.size=xs.length:=by rw[List.size_toArray];exact r.length.symm
 refine ⟨"tuple",_,PyProof.Rows.slot_tuple_getitem.lookup,ht.typeIs,?_⟩;refine HT.getItem_tuple_cut ht hs pl pu (by rw[hlen];exact hw) ?_ (by rw[hlen];exact hz);rw[hlen];refine ⟨.ref s.heap.objs.size,_,I.laid (t':=s.toks) (o:=.tup (qmy xs lo hi)) (λb ob q=>Heap.get?_push_of_some _ q) (Nat.le_refl _) ?_,rfl,q _ (I.hok.fresh (Nat.le_refl _))⟩;exact ⟨Nat.le_trans (qhk xs lo hi) hz,_,(r.drop (HT.sIx xs.length 0 lo)).take (HT.sIx xs.length xs.length hi-HT.sIx xs.length 0 lo),IsTup.new _ _⟩
def qy0 (K:Frag):R2:=λx y H Q=>∃ a b xs ys,x=.ref a/\y=.ref b/\SqT K H a xs/\SqT K H b ys/\xs≠[]/\xs.length+ys.length<=sizeLine /\
 (ys=[]->Q (.ref a) H)/\(ys≠[]->∀ p,H p=none->Q (.ref p) (upd H p (.tup (xs ++ ys))))
theorem Vals.nil_iff {xs:List V} {us:List Value} (r:Vals xs us):us=[]↔xs=[]:=by
 cases r with
 | nil=>simp
 | cons _ _=>simp
theorem op_catT:OpR X (binaryOp .Add) (qy0 X.K):=by
 intro pins s σ H x y v u Q I rx ry h;obtain ⟨a,b,xs,ys,rfl,rfl,ha,hb,hx,hz,q1,q2⟩:=h;cases rx;cases ry;obtain ⟨its,r1,p1,_⟩:=I.tuple ha;obtain ⟨its2,r2,p2,_⟩:=I.tuple hb;refine HT.cat_tup p1 p2 (λz=>hx (r1.nil_iff.mp z)) (λz=>⟨.ref a,H,I,rfl,q1 (r2.nil_iff.mp z)⟩) (λz=>?_) (by rw[<- r1.length,<- r2.length];exact hz);refine ⟨.ref s.heap.objs.size,_,I.laid (t':=s.toks) (o:=.tup (xs ++ ys)) (λb ob q=>Heap.get?_push_of_some _ q) (Nat.le_refl _) ?_,rfl,q2 (λw=>z (r2.nil_iff.mpr w)) _ (I.hok.fresh (Nat.le_refl _))⟩;exact ⟨by rw[List.length_append];exact hz,_,r1.append r2,IsTup.new _ _⟩
end
open PySem PySem.Spec PyProof.Rows
def ixN (n:Nat) (i:Int):Option Nat:=if 0<=i then (if i<n then some i.toNat else none) else if -(n:Int)<=i then some (i+n).toNat else none
def atI {α:Type} (xs:List α) (i:Int):Option α:=(ixN xs.length i).bind λj=>xs[j]?
theorem qun {n:Nat} {i:Int} {j:Nat} (h:ixN n i=some j):seqIndex? i n=some j/\j<n /\ -(n:Int)<=i/\i<n:=by
 unfold ixN at h
 by_cases h0:0<=i
 ·rw[if_pos h0] at h
  by_cases h1:i<n
  ·rw[if_pos h1] at h
   have e:i.toNat=j:=Option.some.inj h;exact ⟨by rw[seqIndex_of h0 h1,e],by omega,by omega,h1⟩
  ·rw[if_neg h1] at h;cases h
 ·rw[if_neg h0] at h
  by_cases h1:-(n:Int)<=i
  ·rw[if_pos h1] at h
   have e:(i+n).toNat=j:=Option.some.inj h;exact ⟨by rw[seqIndex_neg (by omega) h1,e],by omega,h1,by omega⟩
  ·rw[if_neg h1] at h;cases h
theorem qpo {α:Type} {xs:List α} {i:Int} {v:α} (h:atI xs i=some v):∃ j,seqIndex? i xs.length=some j/\xs[j]?=some v/\j<xs.length /\ -(xs.length:Int)<=i/\i<xs.length:=by
 unfold atI at h
 cases e:ixN xs.length i with
 | none=>rw[e] at h;cases h
 | some j =>
  rw[e] at h;obtain ⟨h1,h2,h3,h4⟩:=qun e;exact ⟨j,h1,h,h2,h3,h4⟩
theorem qfs {α:Type} {xs:List α} {j:Nat} {v:α} (h:xs[j]?=some v):atI xs (j:Int)=some v:=by
 have hj:j<xs.length:=(List.getElem?_eq_some_iff.mp h).1;have e:ixN xs.length (j:Int)=some j:=by
  unfold ixN;rw[if_pos (by omega),if_pos (by omega)];simp
 unfold atI;rw[e];exact h
def quo (b:Expr):Prop:=∀ o i,subscripted b false o i=operate [o,i] (getItem o i)
def IxR (X:Cx) (r:R2):Prop:=
 ∀ (value slice:Expr) (pins:List (Addr×Obj)) (s:Shared) (σ:St) (H:Hp) (x y:V) (v u:Value) (Q:VK),Inv X pins σ H s->RelV x v->RelV y u->r x y H Q ->
  subscripted slice false v u=operate [v,u] (getItem v u)->wpAny (model X.prog X.w) X.A (subscriptTail value slice v u) (EP X pins σ Q) X.xe s
def MtR (X:Cx) (id:String) (r:V->List V->Hp->VK->Prop):Prop:=
 ∀ (pins:List (Addr×Obj)) (s:Shared) (σ:St) (H:Hp) (x:V) (xs:List V) (v:Value) (us:List Value) (Q:VK),Inv X pins σ H s->RelV x v->Vals xs us->r x xs H Q ->
  wpAny (model X.prog X.w) X.A (call (.builtin id) (v :: us)) (EP X pins σ Q) X.xe s
section
variable {X:Cx} {a b:Expr} {ta tb:TE} {pos:Pos}
theorem qa4 {r:R2} (hr:IxR X r) (ha:PE X a ta) (hb:PE X b tb) (hs:quo b):PE X (.Subscript a b pos) (tOp r ta tb):=by
 intro pins s σ H Q I h;exact Subscript_ (qya ha hb I h λv u s2 x y H2 I2 rx ry q=>hr a b pins s2 σ H2 x y v u Q I2 rx ry q (hs _ _))
inductive rIxLS (K:Frag) (x y:V) (H:Hp) (Q:VK):Prop
 | mk (p:Addr) (xs:List V) (i:Int) (v:V) (hx:x=.ref p) (hy:y=.int i) (hs:SqL K H p xs) (ha:atI xs i=some v) (k:Q v H)
def qAl (K:Frag):R2:=λx y H Q=>rIxLS K x y H Q
inductive rIxTS (K:Frag) (x y:V) (H:Hp) (Q:VK):Prop
 | mk (p:Addr) (xs:List V) (i:Int) (v:V) (hx:x=.ref p) (hy:y=.int i) (hs:SqT K H p xs) (ha:atI xs i=some v) (k:Q v H)
def qzz (K:Frag):R2:=λx y H Q=>rIxTS K x y H Q
theorem qa0:IxR X (qAl X.K):=by
 intro value slice pins s σ H x y v u Q I rx ry h hs;obtain ⟨p,xs,i,z,rfl,rfl,hq,he,q⟩:=h;cases rx;obtain ⟨t,rfl⟩:=ry;obtain ⟨its,r,pl,hz⟩:=I.list hq;obtain ⟨j,h1,h2,h3,h4,h5⟩:=qpo he;obtain ⟨w,ew,rw'⟩:=r.get h2;have hl:=r.length;have hn:=qmw;have fin:EP X pins σ Q w s:=⟨z,H,I,rw',q⟩
 by_cases h0:0<=i
 ·have hj:i.toNat=j:=by
   rw[seqIndex_of h0 h5] at h1;exact Option.some.inj h1
  exact item_listR pl.isList h0 (by omega) (by rw[hj];simpa using ew) fin hs
 ·have hj:(i+(its.toArray.size:Int)).toNat=j:=by
   rw[seqIndex_neg (by omega) h4] at h1;rw[List.size_toArray,<- hl];exact Option.some.inj h1
  exact subscriptTail_builtinR (x:=w) pl.isList.typeIs slot_list_getitem.lookup
   (wpAny_getItem_list_neg (Q:=λr s'=>r=w/\EP X pins σ Q r s') pl.isList (by omega) (by rw[List.size_toArray]<;>omega) (by omega) (by rw[hj];simpa using ew) ⟨rfl,fin⟩) hs
theorem qbo:IxR X (qzz X.K):=by
 intro value slice pins s σ H x y v u Q I rx ry h hs;obtain ⟨p,xs,i,z,rfl,rfl,hq,he,q⟩:=h;cases rx;obtain ⟨t,rfl⟩:=ry;obtain ⟨its,r,pl,hz⟩:=I.tuple hq;obtain ⟨j,h1,h2,h3,h4,h5⟩:=qpo he;obtain ⟨w,ew,rw'⟩:=r.get h2;have hl:=r.length;have hn:=qmw;have fin:EP X pins σ Q w s:=⟨z,H,I,rw',q⟩;exact subscriptTail_builtinR (x:=w) pl.typeIs slot_tuple_getitem.lookup
  (getItem_tuple (j:=j) (Q:=λr s'=>r=w/\EP X pins σ Q r s') pl (by omega) (by omega) (by rw[List.size_toArray,<- hl];exact h1) (by simpa using ew) ⟨rfl,fin⟩) hs
theorem qks (lo hi:Option Int) (n:Nat):(sliceBounds lo hi none n).1=((HT.sIx n 0 lo:Nat):Int)/\(sliceBounds lo hi none n).2.1=((HT.sIx n n hi:Nat):Int)/\(sliceBounds lo hi none n).2.2=1:=by
 refine ⟨?_,?_,rfl⟩
 ·cases lo with
  | none=>simp[sliceBounds,HT.sIx]
  | some i =>
   simp only[sliceBounds,HT.sIx,Option.getD_none,show (1:Int)>0 by decide,if_true]
   by_cases h:i<0
   ·simp only[h,if_true]<;>omega
   ·simp only[h,if_false]<;>omega
 ·cases hi with
  | none=>simp[sliceBounds,HT.sIx]
  | some i =>
   simp only[sliceBounds,HT.sIx,Option.getD_none,show (1:Int)>0 by decide,if_true]
   by_cases h:i<0
   ·simp only[h,if_true]<;>omega
   ·simp only[h,if_false]<;>omega
theorem qjt (its:List Value) (lo hi:Option Int):slicePick its.toArray lo hi none=((its.drop (HT.sIx its.length 0 lo)).take (HT.sIx its.length its.length hi-HT.sIx its.length 0 lo)).toArray:=by
 obtain ⟨h1,h2,h3⟩:=qks lo hi its.toArray.size;unfold slicePick;rw[h1,h2,h3];simp only[sliceRange_one,pick_run,List.size_toArray]<;>rfl
def qAm (K:Frag):V->Option Int->Option Int->Hp->VK->Prop:=λx lo hi H Q=>∃ a xs,x=.ref a/\SqL K H a xs/\∀ p,H p=none->Q (.ref p) (upd H p (.lst (qmy xs lo hi)))
theorem qup:SlR X (qAm X.K):=by
 intro pins s σ H x v vl vu lo hi sl Q I rx hs pl pu h;obtain ⟨a,xs,rfl,hx,q⟩:=h;cases rx;obtain ⟨its,r,ht,hz⟩:=I.list hx;have hlen:=r.length;refine ⟨"list",_,slot_list_getitem.lookup,ht.isList.typeIs,?_⟩;refine wpAny_getItem_list_slice ht.isList hs pl pu .none (by simp) ?_ (by rw[List.size_toArray]<;>omega);rw[qjt,<- hlen];refine ⟨.ref s.heap.objs.size,_,I.laid (t':=s.toks) (o:=.lst (qmy xs lo hi)) (λb ob q=>Heap.get?_push_of_some _ q) (Nat.le_refl _) ?_,rfl,q _ (I.hok.fresh (Nat.le_refl _))⟩;exact ⟨Nat.le_trans (qhk xs lo hi) hz,_,0,(r.drop (HT.sIx xs.length 0 lo)).take (HT.sIx xs.length xs.length hi-HT.sIx xs.length 0 lo),Heap.get?_push_size _ rfl⟩
theorem qbf:CallR X (.builtin "len") (λxs H Q=>∃ p ys,xs=[.ref p]/\(SqL X.K H p ys\/SqT X.K H p ys)/\Q (.int ys.length) H):=by
 intro pins s σ H xs us Q I r h;obtain ⟨p,ys,rfl,hq,q⟩:=h;obtain ⟨u,rfl,rx⟩:=vals1 r;cases rx;have hn:=qmw
 rcases hq with hq|hq
 ·obtain ⟨its,r',pl,hz⟩:=I.list hq
  have hlen:=r'.length;exact Calls.call_len_list pl.isList (by simp only[List.size_toArray]<;>omega) ⟨.int ys.length,H,I.tok _,⟨s.toks+1,by rw[List.size_toArray,hlen]⟩,q⟩
 ·obtain ⟨its,r',pl,hz⟩:=I.tuple hq
  have hlen:=r'.length;exact len_tuple pl (by simp only[List.size_toArray]<;>omega) ⟨.int ys.length,H,I.tok _,⟨s.toks+1,by rw[List.size_toArray,hlen]⟩,q⟩
theorem call_list_of:CallR X (.type "list") (λxs H Q=>∃ p ys,xs=[.ref p]/\(SqL X.K H p ys\/SqT X.K H p ys)/\∀ l,H l=none->Q (.ref l) (upd H l (.lst ys))):=by
 intro pins s σ H xs us Q I r h;obtain ⟨p,ys,rfl,hq,q⟩:=h;obtain ⟨u,rfl,rx⟩:=vals1 r;cases rx;have fin:∀ (its:List Value),Vals ys its->ys.length<=sizeLine->∀ (h':Heap) (c':Nat),(∀ b o',s.heap.get? b=some o'->h'.get? b=some o') ->
   h'.get? s.heap.objs.size=some { cls:=.type "list",dict:=none,data:=.seq its.toArray c',slots:=#[] }->EP X pins σ Q (.ref s.heap.objs.size) { s with heap:=h' }:=λits r' hz h' c' kp e =>
  ⟨.ref s.heap.objs.size,_,I.laid (t':=s.toks) kp (Nat.le_refl _) (show ObjOk X.prog X.w _ h' _ (.lst ys) from ⟨hz,its,c',r',e⟩),rfl,q _ (I.hok.fresh (Nat.le_refl _))⟩
 rcases hq with hq|hq
 ·obtain ⟨its,r',pl,hz⟩:=I.list hq
  have hlen:=r'.length;obtain ⟨o,ho,hc,n,hd⟩:=pl.isList;exact call_list_seq p (.inl rfl) ho hc hd (λh' c' kp e=>fin its r' hz h' c' kp e) (by simp only[List.size_toArray]<;>omega)
 ·obtain ⟨its,r',pl,hz⟩:=I.tuple hq
  have hlen:=r'.length;obtain ⟨o,ho,hc,n,hd⟩:=pl;exact call_list_seq p (.inr rfl) ho hc hd (λh' c' kp e=>fin its r' hz h' c' kp e) (by simp only[List.size_toArray]<;>omega)
def tyV (K:Frag) (T:String) (x:V) (H:Hp):Prop:=match x with
 | .str _=>T = "str"
 | .int _=>T = "int"
 | .ref p=>(T = "list" /\ ∃ xs,SqL K H p xs)\/(T = "tuple" /\ ∃ o,K.lookup p=some o/\o.cls=.type "tuple" /\ o.dict=none) \/
   (T = "dict" /\ ((∃ kvs,H p=some (.dK kvs))\/∃ kvs,H p=some (.dT kvs)))\/(T = "set" /\ ∃ S n,H p=some (.set S n))
 | _=>False
theorem qwj {pins:List (Addr×Obj)} {σ:St} {H:Hp} {s:Shared} {T:String} {x:V} {v:Value} (I:Inv X pins σ H s) (r:RelV x v) (ty:tyV X.K T x H) :
  s.TypeIs v T/\∀ a,v=.ref a->∃ ob,s.heap.get? a=some ob/\ob.dict=none:=by
 cases x with
 | str z =>
  obtain ⟨t,rfl⟩:=r
  cases (show T = "str" from ty)
  exact ⟨typeIs_str s z t,λ_ e=>nomatch e⟩
 | int i =>
  obtain ⟨t,rfl⟩:=r
  cases (show T = "int" from ty)
  exact ⟨typeIs_int s i t,λ_ e=>nomatch e⟩
 | ref p =>
  cases r
  rcases ty with ⟨rfl,xs,hq⟩|⟨rfl,o,hk,hc,hd⟩|⟨rfl,hk⟩|⟨rfl,S,n,hk⟩
  ·obtain ⟨its,_,pl,_⟩:=I.list hq
   refine ⟨pl.isList.typeIs,λa e=>?_⟩;cases e;obtain ⟨o,n,e,c,hd,_⟩:=pl;exact ⟨o,e,hd⟩
  ·refine ⟨⟨o,I.kIn p o hk,hc⟩,λa e=>?_⟩
   cases e;exact ⟨o,I.kIn _ o hk,hd⟩
  ·have z:∃ o,s.heap.get? p=some o/\o.ExactDict:=by
    rcases hk with ⟨kvs,hk⟩|⟨kvs,hk⟩
    ·obtain ⟨_,_,_,_,o,_,_,e,ex,_⟩:=I.hok p _ hk
     exact ⟨o,e,ex⟩
    ·obtain ⟨_,_,_,_,o,_,_,e,ex,_⟩:=I.hok p _ hk
     exact ⟨o,e,ex⟩
   obtain ⟨o,e,ex⟩:=z;refine ⟨⟨o,e,ex.1⟩,λa e2=>?_⟩;cases e2;exact ⟨o,e,ex.2.1⟩
  ·obtain ⟨o,_,_,_,e,ex,_⟩:=I.hok p _ hk
   refine ⟨⟨o,e,ex.1⟩,λa e2=>?_⟩;cases e2;exact ⟨o,e,ex.2.1⟩
 | _=>exact False.elim ty
def tBM (K:Frag) (T:String) (r:V->List V->Hp->VK->Prop) (to:TE) (t:TA):TE:=λσ H Q=>to σ H λx H1=>tyV K T x H1/\t σ H1 λxs H2=>r x xs H2 Q
variable {o e:Expr} {es:List Expr} {to:TE} {t:TA} {name:Str} {apos cpos:Pos} {T id:String} {r:V->List V->Hp->VK->Prop}
theorem qr7 (pa:PlainAttrs T) (slot:Slot T name id) (hty:typeOf (.builtin id)=pure (.type "method_descriptor")) (hm:MtR X id r) (ho:PE X o to) (ha:PA X (e :: es) t)
  (hbase:attributeBase o name X.env (eval o X.env)=eval o X.env:=by rfl)
  (hfew:((backTo cpos (starEach (e :: es) X.env)).all (λx=>!x.1) && (backToKw cpos (keywordEach [] X.env)).all (λx=>x.1.isSome)
   && decide ((e :: es).length+([]:List Keyword).length+(if ([]:List Keyword).isEmpty then 0 else 1)<30))=true:=by rfl)
  (hline:(apos.endLine == cpos.line)=true:=by rfl) (hs:starEach (e :: es) X.env=(false,eval e X.env) :: starEach es X.env:=by rfl) (hplain:(backTo cpos (starEach es X.env)).any (·.1)=false:=by rfl) :
  PE X (.Call (.Attribute o name apos) (e :: es) [] cpos) (tBM X.K T r to t):=by
 intro pins s σ H Q I h;refine wpAny_Call_method_late hbase hfew hline rfl (thn (ho pins s σ H _ I h) λv s1 hq__=>?_);obtain ⟨x,H1,I1,r1,ty,q1⟩:=hq__;obtain ⟨h1,h2⟩:=qwj I1 r1 ty;refine ⟨T,id,pa,slot,hty,h1,h2,?_⟩;have hA:=ha cpos pins s1 σ H1 _ I1 q1;rw[hs] at hA ⊢;refine Calls.callWith_builtin (by show (false || (backTo cpos (starEach es X.env)).any (·.1))=false;rw[hplain]<;>rfl) (Calls.evalArgs_plain ?_);exact thn hA λus s2 ⟨vs,H2,I2,r2,q2⟩=>hm pins s2 σ H2 x vs v us Q I2 r1 r2 q2
end
open PySem PySem.Spec PyProof.Rows
def MtM (X:Cx) (id:String) (r:V->List V->Hp->VK->Prop):Prop:=
 ∀ (pins:List (Addr×Obj)) (s:Shared) (σ:St) (H:Hp) (x:V) (xs:List V) (v:Value) (us:List Value) (Q:VK),Inv X pins σ H s->RelV x v->Vals xs us->r x xs H Q ->
  wpAny (model X.prog X.w) X.A (call (.builtin id) (v :: us)) (EP X pins σ Q) X.xe s
theorem Vals.one:∀ {x:V} {us:List Value},Vals [x] us->∃ u,us=[u]/\RelV x u
 | _,_,.cons r .nil=>⟨_,rfl,r⟩
section
variable {X:Cx} {pins:List (Addr×Obj)} {σ:St} {H:Hp} {s:Shared} {l b:Addr} {xs ys zs:List V}
theorem Inv.lset {its its':List Value} {n:Nat} {f:Array Value->Array Value} {t':Nat} (I:Inv X pins σ H s) (hH:H l=some (.lst xs))
  (e:s.heap.get? l=some { cls:=.type "list",data:=.seq its.toArray n }) (hf:f its.toArray=its'.toArray) (hv:Vals ys its') (hz:ys.length<=sizeLine) :
  Inv X pins σ (upd H l (.lst ys)) { s with heap:=s.heap.update l (Obj.mapSeq f),toks:=t' }:=by
 have q:=PySem.IsL.update e f;rw[hf] at q;refine I.write (x:=l) (e:=l) (by rw[hH];exact trivial) (.inl rfl) (λb' u hb hu=>(Heap.get?_update_other s.heap (Obj.mapSeq f) (Ne.symm hb)).trans hu) ⟨_,q⟩ ?_;exact ⟨hz,its',_,hv,q⟩
theorem Inv.lnew {its:List Value} {t':Nat} (I:Inv X pins σ H s) (hv:Vals ys its) (hz:ys.length<=sizeLine) :
  Inv X pins σ (upd H s.heap.objs.size (.lst ys)) { s with heap:=s.heap.push { cls:=.type "list",data:=.seq its.toArray },toks:=t' }:=
 I.laid (λ_ _ q=>Heap.get?_push_of_some _ q) (Nat.le_refl _) ⟨hz,its,0,hv,Heap.get?_push_size _ rfl⟩
theorem Inv.fresh (I:Inv X pins σ H s):H s.heap.objs.size=none:=I.hok.fresh (Nat.le_refl _)
theorem Inv.lstM (I:Inv X pins σ H s) (hH:H l=some (.lst xs)):xs.length<=sizeLine/\∃ (its:List Value) (n:Nat),Vals xs its/\xs.length=its.length/\s.heap.get? l=some { cls:=.type "list",data:=.seq its.toArray n }:=by
 obtain ⟨z,its,n,r,e⟩:=I.hok l _ hH;exact ⟨z,its,n,r,r.length,e⟩
end
section
variable {X:Cx}
def quq:V->List V->Hp->VK->Prop:=λx vs H Q=>∃ l xs y,x=.ref l/\vs=[y]/\H l=some (.lst xs)/\xs.length<sizeLine/\Q .non (upd H l (.lst (xs ++ [y])))
theorem mt_append:MtM X "list.append" quq:=by
 intro pins s σ H x vs v us Q I rx rv h;obtain ⟨l,xs,y,rfl,rfl,hH,hz,q⟩:=h;cases rx;obtain ⟨u,rfl,ru⟩:=rv.one;obtain ⟨z,its,n,r,hl,e⟩:=I.lstM hH;refine call_meets F.slot_list_append ⟨_,e,rfl⟩ F.entry_list_append (F.args_list_append_2 _ _) (PySem.list_append l its.toArray n u (by rw[List.size_toArray];omega)) ⟨e,?_⟩;refine ⟨.non,_,I.lset (its':=its ++ [u]) hH e (by simp) (r.append (.cons ru .nil)) ?_,rfl,q⟩;rw[List.length_append,List.length_singleton];omega
def qAn:R2:=λx y H Q=>∃ l b xs zs,x=.ref l/\y=.ref b/\H l=some (.lst xs)/\H b=some (.lst zs)/\xs.length+zs.length<=sizeLine/\∀ p,H p=none->Q (.ref p) (upd H p (.lst (xs ++ zs)))
theorem op_cat:OpR X (binaryOp .Add) qAn:=by
 intro pins s σ H x y v u Q I rx ry h;obtain ⟨l,b,xs,zs,rfl,rfl,hH,hB,hz,q⟩:=h;cases rx;cases ry;obtain ⟨z,its,n,r,hl,e⟩:=I.lstM hH;obtain ⟨z2,its2,n2,r2,hl2,e2⟩:=I.lstM hB;refine PySem.P.add_list e e2 ?_ (by rw[List.size_toArray,List.size_toArray];omega);have ea:its.toArray ++ its2.toArray=(its ++ its2).toArray:=by simp
 rw[ea];exact ⟨.ref _,_,I.lnew (t':=s.toks) (r.append r2) (by rw[List.length_append];omega),rfl,q _ I.fresh⟩
end
section
variable {prog:Program} {w:World} {A:Around} {E:Value->Shared->Prop} {s:Shared}
end
section
variable {X:Cx}
end
open PySem PySem.Spec PyProof.Rows
section
variable {κ:Type} [DecidableEq κ]
def qc6 (kvs:List (κ×V)) (k:κ):Option V:=(kvs.find? λkv=>decide (kv.1=k)).map (·.2)
def putK (kvs:List (κ×V)) (k:κ) (v:V):List (κ×V):=
 if (kvs.any λkv=>decide (kv.1=k))=true then kvs.map (λkv=>if kv.1=k then (kv.1,v) else kv) else kvs ++ [(k,v)]
theorem qcg {p:κ×V} {r:List (κ×V)} {k:κ} (e:p.1=k):qc6 (p :: r) k=some p.2:=by simp[qc6,List.find?_cons,e]
theorem qch {p:κ×V} {r:List (κ×V)} {k:κ} (e:¬ p.1=k):qc6 (p :: r) k=qc6 r k:=by simp[qc6,List.find?_cons,e]
theorem qha (k:κ):∀ kvs:List (κ×V),(kvs.any λkv=>decide (kv.1=k))=(qc6 kvs k).isSome
 | []=>rfl
 | p :: r=>by
  rw[List.any_cons]
  by_cases e:p.1=k
  ·simp only[qcg e,decide_eq_true e,Bool.true_or,Option.isSome_some]
  ·rw[qch e,decide_eq_false e,Bool.false_or];exact qha k r
theorem qmz (k j:κ) (y:V):∀ kvs:List (κ×V),qc6 (kvs.map λkv=>if kv.1=k then (kv.1,y) else kv) j=(qc6 kvs j).map λx=>if j=k then y else x
 | []=>rfl
 | p :: r=>by
  have ih:=qmz k j y r;rw[List.map_cons]
  by_cases h:p.1=k
  ·rw[if_pos h]
   by_cases e:p.1=j
   ·rw[qcg (p:=(p.1,y)) e,qcg e,Option.map_some,if_pos (e.symm.trans h)]
   ·rw[qch (p:=(p.1,y)) e,qch e,ih]
  ·rw[if_neg h]
   by_cases e:p.1=j
   ·rw[qcg (p:=p) e,qcg e,Option.map_some,if_neg (λz=>h (e.trans z))]
   ·rw[qch (p:=p) e,qch e,ih]
theorem qkt (k j:κ) (y:V):∀ kvs:List (κ×V),qc6 kvs k=none->qc6 (kvs ++ [(k,y)]) j=if j=k then some y else qc6 kvs j
 | [],_=>by
  by_cases e:k=j
  ·rw[if_pos e.symm];exact qcg (p:=(k,y)) e
  ·rw[if_neg (λz=>e z.symm)];exact qch (p:=(k,y)) e
 | p :: r,hn=>by
  rw[List.cons_append];have hk:¬ p.1=k:=λz=>by rw[qcg z] at hn;cases hn
  rw[qch hk] at hn;have ih:=qkt k j y r hn
  by_cases e:p.1=j
  ·rw[qcg e,qcg e,if_neg (λz=>hk (e.trans z))]
  ·rw[qch e,qch e,ih]
theorem qf1 (kvs:List (κ×V)) (k j:κ) (y:V):qc6 (putK kvs k y) j=if j=k then some y else qc6 kvs j:=by
 unfold putK
 by_cases a:(kvs.any λkv=>decide (kv.1=k))=true
 ·rw[if_pos a,qmz]
  rw[qha] at a
  by_cases e:j=k
  ·obtain ⟨x,hx⟩:=Option.isSome_iff_exists.mp a
   rw[if_pos e,e,hx,Option.map_some,if_pos rfl]
  ·rw[if_neg e]
   cases qc6 kvs j with
   | none=>rfl
   | some x=>rw[Option.map_some,if_neg e]
 ·rw[if_neg a]
  refine qkt k j y kvs ?_;rw[qha] at a
  cases q:qc6 kvs k with
  | none=>rfl
  | some x=>rw[q] at a;exact (a rfl).elim
theorem qhl (kvs:List (κ×V)) (k:κ) (v:V):(putK kvs k v).length<=kvs.length+1:=by
 unfold putK
 split
 ·rw[List.length_map];omega
 ·rw[List.length_append,List.length_cons,List.length_nil];omega
theorem RelO.isSome_eq {o:Option V} {u:Option Value} (r:RelO o u):o.isSome=u.isSome:=by
 cases o with
 | none=>cases u with
  | none=>rfl
  | some _=>exact (show False from r).elim
 | some _=>cases u with
  | none=>exact (show False from r).elim
  | some _=>rfl
theorem RelO.getD {o:Option V} {u:Option Value} {d:V} {d':Value} (r:RelO o u) (rd:RelV d d'):RelV (o.getD d) (u.getD d'):=by
 cases o with
 | none=>cases u with
  | none=>exact rd
  | some _=>exact (show False from r).elim
 | some _=>cases u with
  | none=>exact (show False from r).elim
  | some _=>exact r
theorem KV.val {kvs:List (κ×V)} {vs:List (κ×Value)} (r:KV kvs vs) (k:κ):RelO (qc6 kvs k) (valueAt vs k):=by
 unfold KV at r
 induction r with
 | nil=>exact True.intro
 | @cons p q ps qs h t ih =>
  obtain ⟨h1,h2⟩:=h
  by_cases e:p.1=k
  ·have e':q.1=k:=h1.symm.trans e
   have b:valueAt (q :: qs) k=some q.2:=by simp[valueAt,List.find?_cons,e']
   rw[qcg e,b];exact h2
  ·have e':¬ q.1=k:=λz=>e (h1.trans z)
   have b:valueAt (q :: qs) k=valueAt qs k:=by simp[valueAt,List.find?_cons,e']
   rw[qch e,b];exact ih
theorem KV.any {kvs:List (κ×V)} {vs:List (κ×Value)} (r:KV kvs vs) (k:κ):(kvs.any λkv=>decide (kv.1=k))=vs.any λkv=>decide (kv.1=k):=by
 unfold KV at r
 induction r with
 | nil=>rfl
 | cons h t ih=>rw[List.any_cons,List.any_cons,ih,h.1]
theorem KV.repl {kvs:List (κ×V)} {vs:List (κ×Value)} (r:KV kvs vs) (k:κ) {y:V} {u:Value} (ry:RelV y u) :
  KV (kvs.map λkv=>if kv.1=k then (kv.1,y) else kv) (vs.map λkv=>if kv.1=k then (kv.1,u) else kv):=by
 unfold KV at r ⊢
 induction r with
 | nil=>exact .nil
 | @cons p q ps qs h t ih =>
  rw[List.map_cons,List.map_cons];refine .cons ?_ ih;obtain ⟨h1,h2⟩:=h
  by_cases e:p.1=k
  ·rw[if_pos e,if_pos (h1.symm.trans e)];exact ⟨h1,ry⟩
  ·rw[if_neg e,if_neg (λz=>e (h1.trans z))];exact ⟨h1,h2⟩
theorem KV.put {kvs:List (κ×V)} {vs:List (κ×Value)} (r:KV kvs vs) (k:κ) {y:V} {u:Value} (ry:RelV y u):KV (putK kvs k y) (stored vs k u):=by
 unfold putK stored;rw[r.any k]
 by_cases e:(vs.any λkv=>decide (kv.1=k))=true
 ·rw[if_pos e,if_pos e];exact r.repl k ry
 ·rw[if_neg e,if_neg e];exact Paired.snoc r ⟨rfl,ry⟩
theorem KV.length {kvs:List (κ×V)} {vs:List (κ×Value)} (r:KV kvs vs):kvs.length=vs.length:=Paired.length r
end
theorem qmc {P:Program} {w:World} {k:Key} {u:Value} (r:RelV (kV k) u):(qbx P w).is k u=true:=by
 cases k with
 | inl i=>obtain ⟨t,e⟩:=(show ∃ t,u=Value.int i t from r);subst e;exact qma P w i t
 | inr x=>obtain ⟨t,e⟩:=(show ∃ t,u=Value.str x t from r);subst e;exact qmb P w x t
theorem qku {P:Program} {w:World}:∀ {ks:List Key} {us:List Value},Vals (ks.map kV) us->ItemsAre (qbx P w) ks us
 | [],_,r=>by rw[List.map_nil] at r;cases r;exact .nil
 | k :: ks,_,r=>by
  rw[List.map_cons] at r
  cases r with
  | cons h t=>exact .cons (qmc h) (qku t)
abbrev KT (H:Hp):List (List Key×V)->List (List Key×Addr×Value)->Prop:=Paired λp q=>p.1=q.1/\H q.2.1=some (.tup (p.1.map kV))/\RelV p.2 q.2.2
theorem KT.val {H:Hp} {kvs:List (List Key×V)} {xs:List (List Key×Addr×Value)} (r:KT H kvs xs) (k:List Key):RelO (qc6 kvs k) ((atKey xs k).map (·.2)):=by
 induction r with
 | nil=>exact True.intro
 | @cons p q ps qs h t ih =>
  obtain ⟨h1,_,h2⟩:=h
  by_cases e:p.1=k
  ·have e':q.1=k:=h1.symm.trans e
   have b:atKey (q :: qs) k=some q.2:=by simp[atKey,List.find?_cons,e']
   rw[qcg e,b];exact h2
  ·have e':¬ q.1=k:=λz=>e (h1.trans z)
   have b:atKey (q :: qs) k=atKey qs k:=by simp[atKey,List.find?_cons,e']
   rw[qch e,b];exact ih
theorem KT.repl {H:Hp} {kvs:List (List Key×V)} {xs:List (List Key×Addr×Value)} (r:KT H kvs xs) (k:List Key) {y:V} {u:Value} (ry:RelV y u) :
  KT H (kvs.map λkv=>if kv.1=k then (kv.1,y) else kv) (xs.map (putAt k u)):=by
 induction r with
 | nil=>exact .nil
 | @cons p q ps qs h t ih =>
  rw[List.map_cons,List.map_cons];refine .cons ?_ ih;obtain ⟨h1,h2,h3⟩:=h;unfold putAt
  by_cases e:p.1=k
  ·rw[if_pos e,if_pos (h1.symm.trans e)];exact ⟨h1,h2,ry⟩
  ·rw[if_neg e,if_neg (λz=>e (h1.trans z))];exact ⟨h1,h2,h3⟩
theorem KT.put {H:Hp} {kvs:List (List Key×V)} {xs:List (List Key×Addr×Value)} (r:KT H kvs xs) (k:List Key) {b:Addr} {y:V} {u:Value} (hb:H b=some (.tup (k.map kV))) (ry:RelV y u) :
  KT H (putK kvs k y) (storedH xs k b u):=by
 have e:(kvs.any λkv=>decide (kv.1=k))=(atKey xs k).isSome:=by
  rw[qha,(r.val k).isSome_eq,Option.isSome_map]
 unfold putK storedH;rw[e]
 by_cases q:(atKey xs k).isSome=true
 ·rw[if_pos q,if_pos q];exact r.repl k ry
 ·rw[if_neg q,if_neg q];exact Paired.snoc r ⟨rfl,hb,ry⟩
theorem KT.keeps {H H':Hp} {kvs:List (List Key×V)} {xs:List (List Key×Addr×Value)} (r:KT H kvs xs) (ht:∀ b ys,H b=some (.tup ys)->H' b=some (.tup ys)):KT H' kvs xs:=
 Paired.mapP r λ_ _ z=>⟨z.1,ht _ _ z.2.1,z.2.2⟩
section
variable {P:Program} {w:World} {H:Hp} {h:Heap} {a:Addr}
theorem qwk {u:HO} (ok:HOk P w H h) (e:Rd H a u):ObjOk P w H h a u:=e.ok ok
theorem qju {kvs:List (Key×V)} (ok:HOk P w H h) (e:Rd H a (.dK kvs)):kvs.length<=sizeLine/\(a == sysModules)=false/\∃ vs,KV kvs vs/\h.DictOf (qbx P w) a vs:=
 show ObjOk P w H h a (.dK kvs) from qwk ok e
theorem qy1 {kvs:List (Key×V)} (ok:HOk P w H h) (e:H a=some (.dK kvs)):kvs.length<=sizeLine/\(a == sysModules)=false/\∃ vs,KV kvs vs/\h.DictOf (qbx P w) a vs:=qju ok (.inl e)
theorem qhm {ks:List Key} (ok:HOk P w H h) (e:H a=some (.tup (ks.map kV))):(tupleKind (qbx P w)).is h ks a:=by
 obtain ⟨_,its,r,o,h1,h2,n,h3⟩:=(show ObjOk P w H h a (.tup (ks.map kV)) from ok a _ e);exact ⟨o,its.toArray,n,h1,h2,h3,by simpa using qku r⟩
theorem qkv {kvs:List (List Key×V)} (ok:HOk P w H h) (e:Rd H a (.dT kvs)):kvs.length<=sizeLine/\(a == sysModules)=false /\
  ∃ xs,KT H kvs xs/\h.DictOfH (tupleKind (qbx P w)) a xs:=by
 obtain ⟨z,y,xs,r,o,es,ep,h1,h2,h3,h4,h5⟩:=(show ObjOk P w H h a (.dT kvs) from qwk ok e);refine ⟨z,y,xs,r,o,es,ep,h1,h2,h3,h4,λx hx=>?_,h5⟩;have all:∀ {l:List (List Key×V)} {m:List (List Key×Addr×Value)},KT H l m->∀ x∈m,(tupleKind (qbx P w)).is h x.1 x.2.1:=by
  intro l m q
  induction q with
  | nil=>intro x hx;exact nomatch hx
  | @cons p q ps qs hq t ih =>
   intro x hx
   rcases List.mem_cons.mp hx with e|hx
   ·subst e
    exact qhm ok (by rw[<- hq.1];exact hq.2.1)
   ·exact ih x hx
 exact all r x hx
theorem qwl {kvs:List (List Key×V)} (ok:HOk P w H h) (e:H a=some (.dT kvs)):kvs.length<=sizeLine/\(a == sysModules)=false /\
  ∃ xs,KT H kvs xs/\h.DictOfH (tupleKind (qbx P w)) a xs:=qkv ok (.inl e)
end
def DGet (H:Hp) (a:Addr) (y:V) (r:Option V):Prop:=
 (∃ kvs k,Rd H a (.dK kvs)/\y=kV k/\r=qc6 kvs k)\/∃ kvs k b,Rd H a (.dT kvs)/\y=.ref b/\H b=some (.tup (k.map kV))/\r=qc6 kvs k
def DPut (H:Hp) (a:Addr) (y v:V) (H':Hp):Prop:=
 (∃ kvs k,H a=some (.dK kvs)/\y=kV k/\kvs.length<sizeLine/\H'=upd H a (.dK (putK kvs k v))) \/
 ∃ kvs k b,H a=some (.dT kvs)/\y=.ref b/\H b=some (.tup (k.map kV))/\kvs.length<sizeLine/\H'=upd H a (.dT (putK kvs k v))
theorem DGet.k {H:Hp} {a:Addr} {kvs:List (Key×V)} {k:Key} (e:H a=some (.dK kvs)):DGet H a (kV k) (qc6 kvs k):=.inl ⟨kvs,k,.inl e,rfl,rfl⟩
theorem DGet.t {H:Hp} {a b:Addr} {kvs:List (List Key×V)} {k:List Key} (e:H a=some (.dT kvs)) (eb:H b=some (.tup (k.map kV))):DGet H a (.ref b) (qc6 kvs k):=.inr ⟨kvs,k,b,.inl e,rfl,eb,rfl⟩
theorem DPut.k {H:Hp} {a:Addr} {kvs:List (Key×V)} {k:Key} {v:V} (e:H a=some (.dK kvs)) (hl:kvs.length<sizeLine):DPut H a (kV k) v (upd H a (.dK (putK kvs k v))):=.inl ⟨kvs,k,e,rfl,hl,rfl⟩
theorem DPut.t {H:Hp} {a b:Addr} {kvs:List (List Key×V)} {k:List Key} {v:V} (e:H a=some (.dT kvs)) (eb:H b=some (.tup (k.map kV))) (hl:kvs.length<sizeLine) :
  DPut H a (.ref b) v (upd H a (.dT (putK kvs k v))):=.inr ⟨kvs,k,b,e,rfl,eb,hl,rfl⟩
section
variable {X:Cx} {pins:List (Addr×Obj)} {σ:St} {H:Hp} {s:Shared} {a:Addr} {y v:V} {u r:Value} {o:Option V} {A:Around} {E:Value->Shared->Prop}
theorem Inv.big (I:Inv X pins σ H s):sysModules<s.heap.objs.size:=by
 have h:mainGlobals<s.heap.objs.size:=(I.mod.glob.keeps I.bk).lt;exact Nat.lt_trans (by decide) h
theorem qpp {Q:Value->Shared->Prop} (hu:A.units+1<cLine) (I:Inv X pins σ H s) (g:DGet H a y (some v)) (ry:RelV y u) (h:∀ w' s',Inv X pins σ H s'->RelV v w'->Q w' s') :
  wpAny (model X.prog X.w) A (getItem (.ref a) u) Q E s:=by
 rcases g with ⟨kvs,k,e,ey,l⟩|⟨kvs,k,b,e,ey,eb,l⟩
 ·subst ey
  obtain ⟨z,hd,vs,rel,dd⟩:=qju I.hok e;obtain ⟨w',hw,rw'⟩:=RelO.some_of (v:=v) (o:=valueAt vs k) (by rw[l];exact rel.val k);exact wpAny_getItem_of (qmc ry) dd.mapOf hw (h w' _ (I.tok _) rw')
 ·subst ey
  cases (show u=Value.ref b from ry)
  obtain ⟨z,hd,xs,rel,dd⟩:=qkv I.hok e;obtain ⟨w',hw,rw'⟩:=RelO.some_of (v:=v) (o:=(atKey xs k).map (·.2)) (by rw[l];exact rel.val k);obtain ⟨p,hp,hp2⟩:=Option.map_eq_some_iff.mp hw;refine wpAny_getItem_heap (tupleKind_room_in1 hu) (qhm I.hok eb) dd hp ?_;rw[hp2];exact h w' _ (I.tok _) rw'
theorem qAo {Q:Value->Shared->Prop} (hu:A.units+1<cLine) (I:Inv X pins σ H s) (g:DGet H a y o) (ry:RelV y u) (h:∀ s',Inv X pins σ H s'->Q (.bool o.isSome) s') :
  wpAny (model X.prog X.w) A (compareOp .In u (.ref a)) Q E s:=by
 rcases g with ⟨kvs,k,e,ey,l⟩|⟨kvs,k,b,e,ey,eb,l⟩
 ·subst ey
  obtain ⟨z,hd,vs,rel,dd⟩:=qju I.hok e;refine wpAny_in_of (qmc ry) hd dd.mapOf ?_;rw[<- (rel.val k).isSome_eq,<- l];exact h _ (I.tok _)
 ·subst ey
  cases (show u=Value.ref b from ry)
  obtain ⟨z,hd,xs,rel,dd⟩:=qkv I.hok e;refine wpAny_in_heap (tupleKind_room_in1 hu) (qhm I.hok eb) hd dd ?_;have q:=(rel.val k).isSome_eq;rw[Option.isSome_map] at q;rw[<- q,<- l];exact h _ (I.tok _)
theorem qur {Q:Value->Shared->Prop} (hu:A.units+1<cLine) (I:Inv X pins σ H s) (g:DGet H a y o) (ry:RelV y u) (h:∀ s',Inv X pins σ H s'->Q (.bool (!o.isSome)) s') :
  wpAny (model X.prog X.w) A (compareOp .NotIn u (.ref a)) Q E s:=by
 rcases g with ⟨kvs,k,e,ey,l⟩|⟨kvs,k,b,e,ey,eb,l⟩
 ·subst ey
  obtain ⟨z,hd,vs,rel,dd⟩:=qju I.hok e;refine wpAny_notIn_of (qmc ry) hd dd.mapOf ?_;rw[<- (rel.val k).isSome_eq,<- l];exact h _ (I.tok _)
 ·subst ey
  cases (show u=Value.ref b from ry)
  obtain ⟨z,hd,xs,rel,dd⟩:=qkv I.hok e;refine wpAny_notIn_heap (tupleKind_room_in1 hu) (qhm I.hok eb) hd dd ?_;have q:=(rel.val k).isSome_eq;rw[Option.isSome_map] at q;rw[<- q,<- l];exact h _ (I.tok _)
theorem qpq {h':Heap} {t':Nat} {ob:HO} (I:Inv X pins σ H s) (mu:Mut (H a)) (hs:Heap.SameBut a s.heap h') (he:∃ q,h'.get? a=some q) (new:ObjOk X.prog X.w (upd H a ob) h' a ob) :
  Inv X pins σ (upd H a ob) { s with heap:=h',toks:=t' }:=
 I.write (x:=a) (e:=a) mu (.inl rfl) (λb q hb z=>(hs.2 b hb).trans z) he new
theorem qwm {P:Program} {w:World} {H':Hp} {h':Heap} {kvs:List (Key×V)} {vs:List (Key×Value)} (z:kvs.length<=sizeLine) (hd:(a == sysModules)=false) (rel:KV kvs vs) (dd:h'.DictOf (qbx P w) a vs) :
  ObjOk P w H' h' a (.dK kvs):=⟨z,hd,vs,rel,dd⟩
theorem qpr {H':Hp} {Q:Unit->Shared->Prop} (hu:A.units+1<cLine) (I:Inv X pins σ H s) (g:DPut H a y v H') (ry:RelV y u) (rv:RelV v r) (h:∀ s',Inv X pins σ H' s'->Q () s') :
  wpAny (model X.prog X.w) A (setItem (.ref a) u r) Q E s:=by
 rcases g with ⟨kvs,k,e,ey,l,eH⟩|⟨kvs,k,b,e,ey,eb,l,eH⟩
 ·subst ey eH
  obtain ⟨z,hd,vs,rel,dd⟩:=qy1 I.hok e;have hz:vs.length<=sizeLine:=by rw[<- rel.length];exact z
  have hl:(putK kvs k v).length<=sizeLine:=by have:=qhl kvs k v;omega
  refine wpAny_setItem_pairs (hsz:=hz) (qmc ry) dd λh' dd' hs=>h _ ?_
  have he:∃ q,h'.get? a=some q:=let ⟨q,_,_,hq,_⟩:=dd';⟨q,hq⟩
  exact qpq I (by rw[e];exact True.intro) hs he (qwm hl hd (rel.put k rv) dd')
 ·subst ey eH
  cases (show u=Value.ref b from ry)
  obtain ⟨z,hd,xs,rel,dd⟩:=qwl I.hok e;have hz:xs.length<=sizeLine:=by rw[<- Paired.length rel];exact z
  have hl:(putK kvs k v).length<=sizeLine:=by have:=qhl kvs k v;omega
  refine wpAny_setItem_heap (hsz:=hz) (tupleKind_room_in1 hu) (qhm I.hok eb) dd λh' dd' hs=>h _ ?_
  obtain ⟨q,es,ep,hq,h2,h3,h4,_,h5⟩:=dd';refine qpq I (by rw[e];exact True.intro) hs ⟨q,hq⟩ ⟨hl,hd,_,(rel.put k eb rv).keeps λc ys ec=>?_,q,es,ep,hq,h2,h3,h4,h5⟩;rw[qa8 (qa1 ec e (λz=>nomatch z))];exact ec
end
section
variable {X:Cx} {pins:List (Addr×Obj)} {σ:St} {H:Hp} {s:Shared} {a:Addr} {kvs:List (Key×V)} {k:Key} {u:Value} {A:Around} {E:Value->Shared->Prop}
end
def qz0 (i:Expr):Prop:=∀ ov iv,subscripted i false ov iv=operate [ov,iv] (getItem ov iv)
theorem qus {prog:Program} {w:World} {A:Around} {E:Value->Shared->Prop} {s:Shared} {env:Env} {value slice:Expr} {pos:Pos} {T id:String} {Q:Value->Shared->Prop}
  (hl:typeLookup (.type T) "__getitem__" = pure (some (.builtin id))) (hs:qz0 slice)
  (h:wpAny (model prog w) A (eval value env) (λo s₁=>wpAny (model prog w) A (eval slice env) (λi s₂=>s₂.TypeIs o T/\wpAny (model prog w) A (getItem o i) Q E s₂) E s₁) E s) :
  wpAny (model prog w) A (eval (.Subscript value slice pos) env) Q E s:=by
 refine Subscript_ (wpAny_mono h (λo s₁ h₁=>wpAny_mono h₁ (λi s₂ h₂=>?_) λ_ _ x=>x) λ_ _ x=>x);obtain ⟨hT,h₂⟩:=h₂;unfold subscriptTail;refine wpAny_bind ?_;rw[getitemInPython_of_ne hT.not_modules];refine wpAny_bind (wpAny_specialOf hT hl ?_);have fin:wpAny (model prog w) A (subscripted slice false o i) (λr s₃=>wpAny (model prog w) A (letTemporaryGo value o r >>= λ_=>pure r) Q E s₃) E s₂:=by
  rw[hs o i];exact wpAny_operating (wpAny_mono h₂ (λr s₃ h₃=>wpAny_bind (wpAny_letTemporaryGo (wpAny_pure h₃))) λ_ _ x=>x)
 first
  | exact wpAny_pure (wpAny_bind fin)
  | exact wpAny_bind (wpAny_pure (wpAny_bind fin))
  | exact wpAny_bind fin
theorem qmd {X:Cx} {pins:List (Addr×Obj)} {σ:St} {H:Hp} {s:Shared} {a:Addr} {y:V} {o:Option V} (I:Inv X pins σ H s) (g:DGet H a y o):s.TypeIs (.ref a) "dict" :=by
 rcases g with ⟨kvs,k,e,_,_⟩|⟨kvs,k,b,e,_,_,_⟩
 ·obtain ⟨_,_,vs,_,dd⟩:=qju I.hok e
  exact dd.typeIs
 ·obtain ⟨_,_,xs,_,dd⟩:=qkv I.hok e
  exact dd.typeIs
def qy2 (td ty:TE):TE:=λσ H Q=>td σ H λx H1=>ty σ H1 λy H2=>∃ a v,x=.ref a/\DGet H2 a y (some v)/\Q v H2
def qAp (ty td:TE):TE:=λσ H Q=>ty σ H λy H1=>td σ H1 λx H2=>∃ a o,x=.ref a/\DGet H2 a y o/\Q (.bl o.isSome) H2
def qut (ty td:TE):TE:=λσ H Q=>ty σ H λy H1=>td σ H1 λx H2=>∃ a o,x=.ref a/\DGet H2 a y o/\Q (.bl (!o.isSome)) H2
def qy3 (td ty tv:TE):TS:=λD σ H=>tv σ H λv H1=>td σ H1 λx H2=>ty σ H2 λy H3=>∃ a H4,x=.ref a/\DPut H3 a y v H4/\D.nx σ H4
section
variable {X:Cx} {o i e value:Expr} {pos pos' tpos:Pos} {td ty tv:TE}
theorem qhn (hu:X.A.units+1<cLine) (ho:PE X o td) (hi:PE X i ty) (hs:qz0 i):PE X (.Subscript o i pos) (qy2 td ty):=by
 intro pins s σ H Q I h;refine qus PySem.F.slot_dict_getitem.lookup hs (thn (ho pins s σ H _ I h) λu s1 ⟨x,H1,I1,rx,q1⟩=>thn (hi pins s1 σ H1 _ I1 q1) λiv s2 hq__=>?_);obtain ⟨y,H2,I2,ry,a,v,ex,g,q2⟩:=hq__;subst ex;obtain rfl:u=Value.ref a:=rx;exact ⟨qmd I2 g,qpp hu I2 g ry λw' s3 I3 rw'=>⟨v,H2,I3,rw',q2⟩⟩
theorem qps (hu:X.A.units+1<cLine) (hi:PE X i ty) (ho:PE X o td):PC X .In i o (qAp ty td):=by
 intro pins s σ H Q I h;refine thn (hi pins s σ H _ I h) λiv s1 ⟨y,H1,I1,ry,q1⟩=>thn (ho pins s1 σ H1 _ I1 q1) λu s2 hq__=>?_
 obtain ⟨x,H2,I2,rx,a,ov,ex,g,q2⟩:=hq__;subst ex;obtain rfl:u=Value.ref a:=rx;exact qAo hu I2 g ry λs3 I3=>⟨.bl ov.isSome,H2,I3,rfl,q2⟩
theorem qpt (hu:X.A.units+1<cLine) (hi:PE X i ty) (ho:PE X o td):PC X .NotIn i o (qut ty td):=by
 intro pins s σ H Q I h;refine thn (hi pins s σ H _ I h) λiv s1 ⟨y,H1,I1,ry,q1⟩=>thn (ho pins s1 σ H1 _ I1 q1) λu s2 hq__=>?_
 obtain ⟨x,H2,I2,rx,a,ov,ex,g,q2⟩:=hq__;subst ex;obtain rfl:u=Value.ref a:=rx;exact qur hu I2 g ry λs3 I3=>⟨.bl (!ov.isSome),H2,I3,rfl,q2⟩
theorem qgh (hu:X.A.units+1<cLine) (ho:PE X o td) (hi:PE X i ty) (hv:PE X value tv) (hs:swapsWith value (some (.Subscript o i pos')) pos.line X.env=pure false) :
  PS X (.Assign [.Subscript o i pos'] value pos) (qy3 td ty tv):=by
 intro pins s σ H D I h;refine wpAny_Assign_Subscript (thn (hv pins s σ H _ I h) λr s1 ⟨v,H1,I1,rv,q1⟩=>thn (ho pins s1 σ H1 _ I1 q1) λu s2 ⟨x,H2,I2,rx,q2⟩=>thn (hi pins s2 σ H2 _ I2 q2) λiv s3 hq__=>?_) hs;obtain ⟨y,H3,I3,ry,a,H4,ex,g,q3⟩:=hq__;subst ex;obtain rfl:u=Value.ref a:=rx;exact qpr hu I3 g ry rv λs4 I4=>⟨σ,H4,I4,q3⟩
end
theorem qr8 {P:Program} {w:World} {H:Hp} (h:Heap) (hb:sysModules<h.objs.size):ObjOk P w H (h.push { cls:=.type "dict",data:=.dict #[] }) h.objs.size (.dK []):=
 ⟨Nat.zero_le _,beq_eq_false_iff_ne.mpr (Ne.symm (Nat.ne_of_lt hb)),[],.nil,Heap.DictOf.new h⟩
theorem qr9 {P:Program} {w:World} {H:Hp} (h:Heap) (hb:sysModules<h.objs.size):ObjOk P w H (h.push { cls:=.type "dict",data:=.dict #[] }) h.objs.size (.dT []):=
 ⟨Nat.zero_le _,beq_eq_false_iff_ne.mpr (Ne.symm (Nat.ne_of_lt hb)),[],.nil,_,#[],0,Heap.get?_push_size _ rfl,⟨rfl,rfl,rfl⟩,rfl,rfl,List.nodup_nil⟩
def qwn:TE:=λ_ H Q=>∀ p,H p=none->Q (.ref p) (upd H p (.dK []))
def qwo:TE:=λ_ H Q=>∀ p,H p=none->Q (.ref p) (upd H p (.dT []))
section
variable {X:Cx} {pos:Pos}
theorem qsa:PE X (.Dict [] [] pos) qwn:=λpins s σ H Q I h =>
 wpAny_Dict_empty ⟨.ref s.heap.objs.size,_,I.laid (a:=s.heap.objs.size) (o:=.dK []) (t':=s.toks) (λ_ _ q=>Heap.get?_push_of_some _ q) (Nat.le_refl _) (qr8 s.heap I.big),rfl,h _ (I.hok.fresh (Nat.le_refl _))⟩
theorem qsb:PE X (.Dict [] [] pos) qwo:=λpins s σ H Q I h =>
 wpAny_Dict_empty ⟨.ref s.heap.objs.size,_,I.laid (a:=s.heap.objs.size) (o:=.dT []) (t':=s.toks) (λ_ _ q=>Heap.get?_push_of_some _ q) (Nat.le_refl _) (qr9 s.heap I.big),rfl,h _ (I.hok.fresh (Nat.le_refl _))⟩
end
structure M1 (X:Cx) (o:Expr) (m:Str) (apos:Pos) (e:Expr) (cpos:Pos):Prop where
 base:attributeBase o m X.env (eval o X.env)=eval o X.env
 few:((backTo cpos (starEach [e] X.env)).all (λx=>!x.1) && (backToKw cpos (keywordEach [] X.env)).all (λx=>x.1.isSome)
  && decide (([e]:List Expr).length+([]:List Keyword).length+(if ([]:List Keyword).isEmpty then 0 else 1)<30))=true
 line:(apos.endLine == cpos.line)=true
 trees:backTo cpos (starEach [e] X.env)=[(false,eval e X.env)]
structure M2 (X:Cx) (o:Expr) (m:Str) (apos:Pos) (e f:Expr) (cpos:Pos):Prop where
 base:attributeBase o m X.env (eval o X.env)=eval o X.env
 few:((backTo cpos (starEach [e,f] X.env)).all (λx=>!x.1) && (backToKw cpos (keywordEach [] X.env)).all (λx=>x.1.isSome)
  && decide (([e,f]:List Expr).length+([]:List Keyword).length+(if ([]:List Keyword).isEmpty then 0 else 1)<30))=true
 line:(apos.endLine == cpos.line)=true
 trees:backTo cpos (starEach [e,f] X.env)=[(false,eval e X.env),(false,eval f X.env)]
def IsD (H:Hp) (a:Addr):Prop:=(∃ kvs,Rd H a (.dK kvs))\/∃ kvs,Rd H a (.dT kvs)
theorem qti {X:Cx} {pins:List (Addr×Obj)} {σ:St} {H:Hp} {s:Shared} {a:Addr} (I:Inv X pins σ H s) (d:IsD H a) :
  s.TypeIs (.ref a) "dict" /\ (∀ b,Value.ref a=.ref b->∃ ob,s.heap.get? b=some ob/\ob.dict=none)/\(a == sysModules)=false:=by
 rcases d with ⟨kvs,e⟩|⟨kvs,e⟩
 ·obtain ⟨_,hd,vs,_,dd⟩:=qju I.hok e
  refine ⟨dd.typeIs,λb q=>?_,hd⟩;cases q;obtain ⟨ob,_,_,h1,h2,_⟩:=dd;exact ⟨ob,h1,h2.2.1⟩
 ·obtain ⟨_,hd,xs,_,dd⟩:=qkv I.hok e
  refine ⟨dd.typeIs,λb q=>?_,hd⟩;cases q;obtain ⟨ob,_,_,h1,h2,_⟩:=dd;exact ⟨ob,h1,h2.2.1⟩
section
variable {X:Cx} {pins:List (Addr×Obj)} {σ:St} {H:Hp} {s:Shared} {a:Addr} {y d:V} {u r:Value} {o:Option V} {A:Around} {E:Value->Shared->Prop}
theorem qwp {Q:Value->Shared->Prop} (hu:A.units+1<cLine) (I:Inv X pins σ H s) (g:DGet H a y o) (ry:RelV y u) (h:∀ w' s',Inv X pins σ H s'->RelV (o.getD .non) w'->Q w' s') :
  wpAny (model X.prog X.w) A (call (.builtin "dict.get") [.ref a,u]) Q E s:=by
 rcases g with ⟨kvs,k,e,ey,l⟩|⟨kvs,k,b,e,ey,eb,l⟩
 ·subst ey
  obtain ⟨z,hd,vs,rel,dd⟩:=qju I.hok e;refine call_meetsIn PySem.F.slot_dict_get dd.typeIs PySem.F.entry_dict_get (PySem.F.args_dict_get_2 _ _) (meets_dict_get (qbx X.prog X.w) a (qmc ry) hd) ⟨_,dd.mapOf,h _ _ (I.tok _) ?_⟩;rw[l];exact (rel.val k).getD rfl
 ·subst ey
  cases (show u=Value.ref b from ry)
  obtain ⟨z,hd,xs,rel,dd⟩:=qkv I.hok e;refine call_meetsIn PySem.F.slot_dict_get dd.typeIs PySem.F.entry_dict_get (PySem.F.args_dict_get_2 _ _) (meetsH_dict_get (tupleKind (qbx X.prog X.w)) a b hd) ⟨tupleKind_room_in1 hu,k,xs,qhm I.hok eb,dd,h _ _ (I.tok _) ?_⟩;rw[l];exact (rel.val k).getD rfl
theorem qwq {Q:Value->Shared->Prop} (hu:A.units+1<cLine) (I:Inv X pins σ H s) (g:DGet H a y o) (ry:RelV y u) (rd:RelV d r) (h:∀ w' s',Inv X pins σ H s'->RelV (o.getD d) w'->Q w' s') :
  wpAny (model X.prog X.w) A (call (.builtin "dict.get") [.ref a,u,r]) Q E s:=by
 rcases g with ⟨kvs,k,e,ey,l⟩|⟨kvs,k,b,e,ey,eb,l⟩
 ·subst ey
  obtain ⟨z,hd,vs,rel,dd⟩:=qju I.hok e;refine call_meetsIn PySem.F.slot_dict_get dd.typeIs PySem.F.entry_dict_get (PySem.F.args_dict_get_3 _ _ _) (meets_dict_get_default (qbx X.prog X.w) a (qmc ry) hd r) ⟨_,dd.mapOf,h _ _ (I.tok _) ?_⟩;rw[l];exact (rel.val k).getD rd
 ·subst ey
  cases (show u=Value.ref b from ry)
  obtain ⟨z,hd,xs,rel,dd⟩:=qkv I.hok e;refine call_meetsIn PySem.F.slot_dict_get dd.typeIs PySem.F.entry_dict_get (PySem.F.args_dict_get_3 _ _ _) (meetsH_dict_get_default (tupleKind (qbx X.prog X.w)) a b hd r) ⟨tupleKind_room_in1 hu,k,xs,qhm I.hok eb,dd,h _ _ (I.tok _) ?_⟩;rw[l];exact (rel.val k).getD rd
end
def qwr (td ty:TE):TE:=λσ H Q=>td σ H λx H1=>∃ a,x=.ref a/\IsD H1 a/\ty σ H1 λy H2=>∃ o,DGet H2 a y o/\Q (o.getD .non) H2
def qws (td ty tx:TE):TE:=λσ H Q=>td σ H λx H1=>∃ a,x=.ref a/\IsD H1 a/\ty σ H1 λy H2=>tx σ H2 λz H3=>∃ o,DGet H3 a y o/\Q (o.getD z) H3
section
variable {X:Cx} {o e f:Expr} {apos cpos:Pos} {td ty tx:TE}
theorem qsc (hu:X.A.units+1<cLine) (ho:PE X o td) (he:PE X e ty) (m:M1 X o "get" apos e cpos):PE X (.Call (.Attribute o "get" apos) [e] [] cpos) (qwr td ty):=by
 intro pins s σ H Q I h;refine wpAny_Call_method m.base m.few m.line PySem.F.plainAttrs_dict PySem.F.slot_dict_get PySem.F.type_dict_get (thn (ho pins s σ H _ I h) λu s1 hq__=>?_);obtain ⟨x,H1,I1,rx,a,ex,d,q1⟩:=hq__;subst ex;obtain rfl:u=Value.ref a:=rx;obtain ⟨t1,t2,_⟩:=qti I1 d;refine ⟨t1,t2,?_⟩;rw[m.trees];refine Calls.callWith_builtin rfl (Calls.evalArgs_plain (Calls.spliced_cons (thn (he pins s1 σ H1 _ I1 q1) λiv s2 ⟨y,H2,I2,ry,ov,g,q2⟩=>Calls.spliced_nil ?_)));exact qwp hu I2 g ry λw' s3 I3 rw'=>⟨_,H2,I3,rw',q2⟩
theorem qsd (hu:X.A.units+1<cLine) (ho:PE X o td) (he:PE X e ty) (hf:PE X f tx) (m:M2 X o "get" apos e f cpos):PE X (.Call (.Attribute o "get" apos) [e,f] [] cpos) (qws td ty tx):=by
 intro pins s σ H Q I h;refine wpAny_Call_method m.base m.few m.line PySem.F.plainAttrs_dict PySem.F.slot_dict_get PySem.F.type_dict_get (thn (ho pins s σ H _ I h) λu s1 hq__=>?_);obtain ⟨x,H1,I1,rx,a,ex,d,q1⟩:=hq__;subst ex;obtain rfl:u=Value.ref a:=rx;obtain ⟨t1,t2,_⟩:=qti I1 d;refine ⟨t1,t2,?_⟩;rw[m.trees];refine Calls.callWith_builtin rfl (Calls.evalArgs_plain (Calls.spliced_cons (thn (he pins s1 σ H1 _ I1 q1) λiv s2 ⟨y,H2,I2,ry,q2⟩ =>
  Calls.spliced_cons (thn (hf pins s2 σ H2 _ I2 q2) λfv s3 ⟨z,H3,I3,rz,ov,g,q3⟩=>Calls.spliced_nil ?_))))
 exact qwq hu I3 g ry rz λw' s4 I4 rw'=>⟨_,H3,I4,rw',q3⟩
end
section
variable {X:Cx} {pins:List (Addr×Obj)} {σ:St} {H:Hp} {s:Shared} {a:Addr} {kvs:List (Key×V)} {A:Around} {E:Value->Shared->Prop}
end
section
variable {X:Cx} {pins:List (Addr×Obj)} {σ:St} {H:Hp} {s:Shared} {a:Addr} {y:V} {u:Value} {A:Around} {E:Value->Shared->Prop}
end
end L2
namespace Att
open PySem PySem.W PySem.Calls PyProof.Rows
theorem qho {P:Params} {h:Heap}:∀ (ns:List Int) (vs:List Value),WellAll P h vs (ns.map WData.int)->IntsAre vs ns:=by
 intro ns
 induction ns with
 | nil =>
  intro vs w;rw[List.map_nil] at w;cases w;exact .nil
 | cons n ns ih =>
  intro vs w;rw[List.map_cons] at w
  cases w with
  | cons a b =>
   cases a;exact .cons _ _ (ih _ b)
theorem qpu {l:OpenLaw} {n:Nat} (hn:l.most=some n) {P:Params} {h:Heap} {args:List WData} {qrp:List Value}
  (hpre:l.row.toRowW.claim.pre args=true) (hwl:WellAll P h qrp args) :
  ∃ a vs ns,qrp=[Value.ref a]/\args=[WData.list (ns.map WData.int)]/\h.get? a=some { cls:=.type "list",data:=.seq vs.toArray }/\IntsAre vs ns/\ns.length<=n:=by
 have hsh:WShape.hasAll [] args [.list .int]=true:=(pre_splitW hpre).1;have hc:l.pre.holds [] { args:=args }=true:=(pre_splitW hpre).2;obtain ⟨d,r,rfl,h1,h2⟩:=hasAllW_cons hsh;obtain rfl:=hasAllW_nil h2;obtain ⟨xs,rfl,h3⟩:=hasW_list h1;obtain ⟨ns,rfl⟩:=items_int h3;have hlen:ns.length<=n:=by
  unfold OpenLaw.pre at hc;have h4:(WTm.not (.lt (.lit (.int (n:Int))) (.len (.arg 0)))).holds [] { args:=[.list (ns.map .int)] }=true:=by
   have h4:=(holds_andW hc).1;rw[hn] at h4;exact h4
  have h5:=condW_of h4 (w_not (w_lt w_lit (w_len_list (w_arg rfl))));rw[List.length_map] at h5;refine Nat.le_of_not_lt λq=>?_
  have q':(n:Int)<((ns.length:Nat):Int):=by omega
  first
   | (rw[decide_eq_true q'] at h5;exact absurd h5 (by decide))
   | (simp at h5;omega)
 cases hwl with
 | cons w1 w2 =>
  cases w2
  cases w1 with
  | list ho hall=>exact ⟨_,_,ns,rfl,rfl,ho,qho ns _ hall,hlen⟩
theorem qpv (l:OpenLaw) (args:List WData):l.row.toRowW.claim.post args (.bool true) args=true:=
 postW_of (r:=l.row.toRowW) (X:=(true == true))
  (show WShape.has [] (.bool true) .bool=true by first|rfl|decide|simp[WShape.has,WShape.arms,WShape.armsAll])
  (show (WTm.eq .res (.lit (.bool true))).value [] { args:=args,res:=some (.bool true),after:=args }=some (.bool (true == true)) from w_eq_bool (w_res rfl) w_lit) rfl
theorem attach_call {l:OpenLaw} {n:Nat} {q:Program} {loose:List Str} {XP:(Str->Option Value)->Heap->Prop} {YP:World->Heap->Prop} {d:DefRec}
  (hn:l.most=some n) (hdf:d.params.defaults=[])
  (call:∀ (w:World) (s₀ s₁:Shared) (mg mb:Str->Option Value) (fa:Addr) (o:Obj) (pm cd doc:Value) (a:Addr) (vs:List Value) (ns:List Int),
   Ground q loose [] XP w s₀ mg mb s₁.heap->YP w s₁.heap ->
   s₁.heap.get? fa=some o->o.data=.func (docDef d.name d.params d.body d.scope pm cd doc)->s₁.heap.CodeRec cd d.name->mg d.name=some (.ref fa) ->
   s₁.heap.get? a=some { cls:=.type "list",data:=.seq vs.toArray }->IntsAre vs ns->ns.length<=n->s₁.gens = #[] ->
   codeAny (model l.prog w) callerA (.call (.ref fa) ⟨[.ref a],[]⟩) (λr s'=>r=.ok (.ret (.bool true))/\OldK s₁.heap s'.heap/\s'.os=s₁.os/\AllBare s'.gens) s₁) :
  WalkO q loose XP YP l.row.toRowW d [] (λf vs=>PySem.call f vs):=by
 intro w s₀ s₁ mg mb G Y fa o pm cd doc dV kV ho hd hcd hD hmg hg args qrp as hpre hlay hrd hwl hlo;obtain rfl:dV=.none:=Dflts.none hD hdf;obtain rfl:kV=.none:=Dflts.noKw hD;obtain ⟨a,vs,ns,rfl,rfl,hobj,hints,hlen⟩:=qpu hn hpre hwl;refine enter_call (codeAny_mono (call w s₀ s₁ mg mb fa o pm cd doc a vs ns G Y ho (fd_plain hd) hcd hmg hobj hints hlen hg) λr s' hq=>?_);obtain ⟨rfl,h2,h3,h4⟩:=hq;exact ⟨.inl ⟨.bool true,.bool true,[],rfl,λ_=>rfl,.bool true,qpv l _,λ_=>⟨List.Pairwise.nil,λ_ hm=>(nomatch hm)⟩⟩,h2,h3,h4⟩
section
variable {prog:Program} {w:World} {A:Around} {E:Value->Shared->Prop} {s:Shared} {K:Frag}
def ledger (h:Heap) (L d:Addr):List (Addr×Obj):=(List.range h.objs.size).filterMap λa=>if a=L\/a=d then none else (h.get? a).map λo=>(a,o)
end
end Att
namespace L2
open PySem PySem.Spec PyProof.Rows
theorem qkw:∀ {vs:List Value} {ns:List Int},IntsAre vs ns->Vals (ns.map V.int) vs
 | _,_,.nil=>.nil
 | _,_,.cons n t h=>.cons ⟨t,rfl⟩ (qkw h)
def qy4 (H:Hp):Prop:=∀ b,H b=none\/∃ o xs,H b=some (.frz o (.lst xs))
theorem qse {P:Program} {w:World} {K:Frag} {mg mb:Str->Option Value} {CX:CXT} {k:Nat} {fa a:Addr} {fd:FuncData} {x:Str} {sp:Sp} {s₁:Shared} {vs:List Value} {ns:List Int}
  (KX:K.In s₁.heap) (hns:s₁.heap.Ns mainGlobals mg) (hb:s₁.heap.Ns builtinsNs mb) (hbb:∀ x:Str,x ≠ "__name__" -> mb x=bootBuiltins x) (hlim:s₁.heap.NoLimit) (hnd:s₁.heap.NoDigits) (hg:s₁.gens = #[])
  (ha:s₁.heap.get? a=some { cls:=.type "list",data:=.seq vs.toArray }) (hi:IntsAre vs ns) (hl:ns.length<=sizeLine) (hr:Room k callerA)
  (F:∀ base:Heap,K.In base->base.Ns mainGlobals mg->qg9 P w K mg base CX k fa fd [x] sp) (hbind:∀ (s:Shared) (u:Value),BindsTo s fd ⟨[u],[]⟩ [(x,u)])
  (hsp:∀ H:Hp,qy4 H->SqL K H a (ns.map V.int)->sp [.ref a] H (λv _=>v=.bl true) λ_ _ _=>False)
  (hCX:∀ H e s',CX [] H s₁ (λ_ _ _=>False) e s'->False) :
  codeAny (model P w) callerA (.call (.ref fa) ⟨[.ref a],[]⟩) (λr s'=>r=.ok (.ret (.bool true))/\OldK s₁.heap s'.heap/\s'.os=s₁.os/\AllBare s'.gens) s₁:=by
 have rv:=qkw hi;have lenV:=hi.length;have core:∀ H:Hp,qy4 H->SqL K H a (ns.map V.int)->HOk P w H s₁.heap->(∀ b,H b≠none->b=a)->(H a≠none->K.lookup a=none) ->
   codeAny (model P w) callerA (.call (.ref fa) ⟨[.ref a],[]⟩) (λr s'=>r=.ok (.ret (.bool true))/\OldK s₁.heap s'.heap/\s'.os=s₁.os/\AllBare s'.gens) s₁:=by
  intro H hO hS hok hA hK;have base_of:∀ {b:Addr} {o:Obj},s₁.heap.get? b=some o->H b=none->(qrs s₁.heap H).get? b=some o:=λe n=>qrt e n
  have noA:∀ {b:Addr} {o:Obj} {es:Array DictEntry} {ep:Nat},s₁.heap.get? b=some o->o.data=.dict es ep->H b=none:=fun {b o es ep} e d=>by
   cases q:H b with
   | none=>rfl
   | some u =>
    have e':b=a:=hA b (by rw[q];simp);subst e';rw[ha] at e;cases e;have d':Data.seq vs.toArray _=Data.dict es ep:=d
    cases d'
  have nsK:∀ {b:Addr} {m:Str->Option Value},s₁.heap.Ns b m->(qrs s₁.heap H).Ns b m:=fun {b m} ⟨o,es,ep,e,d,r⟩=>⟨o,es,ep,base_of e (noA e d),d,r⟩
  have hKb:K.In (qrs s₁.heap H):=λb o e=>base_of (KX b o e) (by
   cases q:H b with
   | none=>rfl
   | some u =>
    have e':b=a:=hA b (by rw[q];simp);subst e';rw[hK (by rw[q];simp)] at e;cases e)
  have hM:Mod K mg (qrs s₁.heap H):=⟨hKb,nsK hns,⟨mb,nsK hb,hbb⟩,let ⟨mc,h1,h2⟩:=hlim;⟨mc,nsK h1,h2⟩,let ⟨mc,h1,h2⟩:=hnd;⟨mc,nsK h1,h2⟩⟩;have e0:Env0 P w K mg (qrs s₁.heap H) callerA [] s₁ H:=⟨rfl,hM,λb o e=>qud e,Nat.le_of_eq (qo7 _ _),trivial,λb hb=>absurd (show b∈([]:List Addr) from hb) (by simp),hok,.of_eq hg⟩;refine codeAny_mono ((F _ hKb (nsK hns)).run callerA [] s₁ H ⟨[.ref a],[]⟩ [.ref a] [.ref a] _ _ hr e0 (hbind s₁ (.ref a)) (.cons rfl .nil) (hsp H hO hS)) λr s' h=>?_
  cases r with
  | error e=>exact (hCX H e s' h).elim
  | ok fl =>
   cases fl with
   | next=>exact False.elim h
   | brk=>exact False.elim h
   | cont=>exact False.elim h
   | ret u =>
    obtain ⟨v,H',os,bare,un,hok',r',q⟩:=h;have q':v=.bl true:=q;subst q';obtain rfl:u=Value.bool true:=r';refine ⟨rfl,OldK.of_keep λb o e=>?_,os,bare⟩
    cases q:H b with
    | none=>exact un.keep b o e q (by intro z;exact absurd (show b∈([]:List Addr) from z) (by simp)) (by simp)
    | some u =>
     rcases hO b with z|⟨ob,xs,z⟩
     ·rw[q] at z;cases z
     ·have z2:=un.frzs b ob _ z
      obtain ⟨e1,_⟩:=hok b _ z;obtain ⟨e2,_⟩:=hok' b _ z2;rw[e] at e1;cases e1;exact e2
 cases hk:K.lookup a with
 | some o =>
  have e:=KX a o hk;rw[ha] at e;cases e;refine core (λ_=>none) (λ_=>.inl rfl) (.inr ⟨_,vs.toArray,_,hk,rfl,rfl,rfl,by rw[List.size_toArray,lenV];exact hl,by simpa using rv⟩) (λb u z=>by have z':(none:Option HO)=some u:=z;cases z') (λb z=>absurd rfl z) λz=>absurd rfl z
 | none =>
  refine core (λb=>if b=a then some (.frz { cls:=.type "list",data:=.seq vs.toArray } (.lst (ns.map V.int))) else none) (λb=>?_) (.inl (.inr ⟨{ cls:=.type "list",data:=.seq vs.toArray },if_pos rfl⟩)) (λb u z=>?_) (λb z=>?_) λ_=>hk
  ·by_cases hb:b=a
   ·exact .inr ⟨_,_,if_pos hb⟩
   ·exact .inl (if_neg hb)
  ·by_cases hb:b=a
   ·have z':=(if_pos hb).symm.trans z
    cases z'
    subst hb;exact ⟨ha,by rw[List.length_map];exact hl,vs,_,rv,ha⟩
   ·have z':=(if_neg hb).symm.trans z
    cases z'
  ·by_cases hb:b=a
   ·exact hb
   ·exact absurd (if_neg hb) z
open PySem PySem.Spec PyProof.Rows
abbrev KOf {K:Frag} {h:Heap} (_:K.In h):Frag:=K
theorem quu {l:PySem.W.OpenLaw} {n k:Nat} {q:Program} {loose:List Str} {XP:(Str->Option Value)->Heap->Prop} {YP:World->Heap->Prop} {d:DefRec} {K:Params->Frag} {CX:World->CXT} {sp:World->Sp} {x:Str}
  (hn:l.most=some n) (hn2:n<=sizeLine) (hdf:d.params.defaults=[]) (hr:Room k callerA)
  (hY:∀ (w:World) (h:Heap),YP w h->(K w.params).In h)
  (F:∀ (w:World) (mg:Str->Option Value) (fa:Addr) (h:Heap),(K w.params).In h->h.Ns mainGlobals mg->mg d.name=some (.ref fa) ->
   ∃ fd:FuncData,(∀ (s:Shared) (u:Value),BindsTo s fd ⟨[u],[]⟩ [(x,u)]) /\
    ∀ base:Heap,(K w.params).In base->base.Ns mainGlobals mg->qg9 l.prog w (K w.params) mg base (CX w) k fa fd [x] (sp w))
  (hsp:∀ (w:World) (H:Hp) (a:Addr) (ns:List Int),ns.length<=n->qy4 H->SqL (K w.params) H a (ns.map V.int)->sp w [.ref a] H (λv _=>v=.bl true) λ_ _ _=>False)
  (hCX:∀ (w:World) (H:Hp) (s:Shared) (e:Value) (s':Shared),CX w [] H s (λ_ _ _=>False) e s'->False) :
  PySem.W.WalkO q loose XP YP l.row.toRowW d [] (λf vs=>PySem.call f vs):=by
 refine Att.attach_call hn hdf λw s₀ s₁ mg mb fa o pm cd doc a vs ns G Y ho hd hcd hmg hobj hints hlen hg=>?_
 have KX:=hY w _ Y;obtain ⟨fd,hb,hF⟩:=F w mg fa _ KX G.T.g hmg;exact qse KX G.T.g G.T.b G.T.builtins G.T.nolimit G.T.nodigits hg hobj hints (Nat.le_trans hlen hn2) hr hF hb (λH hO hS=>hsp w H a ns hlen hO hS) λH e s'=>hCX w H s₁ e s'
open PySem PySem.Spec PyProof.Rows
def inClass (s:Stmt) (j:Nat):Stmt:=match s with
 | .ClassDef _ _ _ body _ _ _ _ _ _ _=>body.getD j (.Pass ⟨0,0,0,0⟩)
 | _=>.Pass ⟨0,0,0,0⟩
def qak (s:Stmt):Arguments:=match s with
 | .FunctionDef _ a _ _ _ _ _ _ _ _=>a
 | _=>{ posonlyargs:=[],args:=[],vararg:=none,kwonlyargs:=[],kw_defaults:=[],kwarg:=none,defaults:=[] }
def qai (s:Stmt):List Stmt:=match s with
 | .FunctionDef _ _ b _ _ _ _ _ _ _=>b
 | _=>[]
def qab (s:Stmt):Scope:=match s with
 | .FunctionDef _ _ _ _ _ _ sc _ _ _=>sc
 | _=>{ kind:=.function,names:=[],isGenerator:=false,isCoroutine:=false }
abbrev CX0:CXT:=λ_ _ _ _ _ _=>False
abbrev E0:XK:=λ_ _ _=>False
theorem qsf {X:Cx}:qi5 CX0 X E0:=λ_ _ _ _ _ _ _ h=>h.elim
structure Fun (K:Frag) (x qual:Str) (st:Stmt) (f:Addr) (fd:FuncData):Prop where
 ex:∃ (oc:Value) (od:Option Addr) (kV doc pm:Value) (an:Option Addr) (cdv ct:Value) (osl:Array (Option Value)),
  fd=fnOf x qual (qak st) (qai st) (qab st) .none kV doc pm an cdv ct/\K.lookup f=some ⟨oc,od,.func fd,osl⟩/\codeIn K cdv qual=true
 kp:keepIn K (.ref f)=true
section
variable {P:Program} {w:World} {K:Frag} {mg:Str->Option Value} {base:Heap}
theorem Fun.ok {x qual:Str} {st:Stmt} {f:Addr} {fd:FuncData} {N ps:List Str} {k:Nat} {sp:Sp} (F:Fun K x qual st f fd) (S:qaj N ps (qab st)) (len:∀ vs H Q E,sp vs H Q E->vs.length=ps.length)
  (hbody:∀ (cdv:Value) (A:Around) (outer:List Env) (s:Shared) (H:Hp) (vs:List V) (Q:VK) (E:XK),Room k (A.deeper (envOfC qual (qab st) s.heap.objs.size f cdv))->sp vs H Q E ->
   ∃ t,PSs (qo1 CX0 P w K mg base N qual (qab st) f cdv A outer s H E).nox (qai st) t/\t { nx:=λ_ H'=>Q .non H',rt:=Q } (start N vs) H):qg9 P w K mg base CX0 (k+1) f fd ps sp:=by
 obtain ⟨oc,od,kV,doc,pm,an,cdv,ct,osl,rfl,lk,hcd⟩:=F.ex;refine qr5 lk hcd S len λA outer s H vs Q E hr hsp=>?_
 obtain ⟨t,h,q⟩:=hbody cdv A outer s H vs Q E hr hsp;exact ⟨t,h.nox,q⟩
theorem Fun.binds {x qual:Str} {st:Stmt} {f:Addr} {fd:FuncData} {ps:List Str} (F:Fun K x qual st f fd)
  (h:∀ (kV doc pm:Value) (an:Option Addr) (cdv ct:Value) (us:List Value),us.length=ps.length->bindArgs (fnOf x qual (qak st) (qai st) (qab st) .none kV doc pm an cdv ct) ⟨us,[]⟩=pure (ps.zip us)):Binds K fd ps []:=by
 obtain ⟨oc,od,kV,doc,pm,an,cdv,ct,osl,rfl,lk,hcd⟩:=F.ex;exact .all (h kV doc pm an cdv ct)
theorem qau {x qual:Str} {st:Stmt} {f:Addr} {oc:Value} {od an:Option Addr} {osl:Array (Option Value)} {kV doc pm cdv ct:Value} (l:K.lookup f=some ⟨oc,od,.func (fnOf x qual (qak st) (qai st) (qab st) .none kV doc pm an cdv ct),osl⟩)
  (c:codeIn K cdv qual=true) (k:keepIn K (.ref f)=true):Fun K x qual st f (fnOf x qual (qak st) (qai st) (qab st) .none kV doc pm an cdv ct):=⟨⟨oc,od,kV,doc,pm,an,cdv,ct,osl,rfl,l,c⟩,k⟩
end
theorem qez {A:Around} {k:Nat} (hr:Room k A):A.units+1<cLine:=Nat.lt_of_le_of_lt (Nat.add_le_add_left (by decide:1<=64) _) hr.units
theorem qa6 {n:Nat} (h:n<=1000):n<sizeLine:=Nat.lt_of_le_of_lt h (by decide)
section
variable {X:Cx}
theorem pv (i:Nat) {x:Str} {pos:Pos} (hN:X.N[i]?=some x:=by rfl) (hv:Vis X.env.scope x:=by first|exact Or.inl rfl|exact Or.inr (Or.inl rfl)|exact Or.inr (Or.inr rfl)) (hd:(x == ("__debug__" : Str))=false:=by decide)
  (hcd:(x == ("__classdict__" : Str))=false:=by decide):PE X (.Name x pos) (qx9 i):=qwa hN hv hd hcd
end
theorem qd7 {A B:Prop} (h:B):if false=true then A else B:=by
 rw[if_neg Bool.false_ne_true];exact h
theorem qd8 {A B:Prop} (h:A):if true=true then A else B:=by
 rw[if_pos rfl];exact h
theorem qhp {c A B:Prop} [Decidable c] (h1:c->A) (h2:¬ c->B):if c then A else B:=by
 by_cases h:c
 ·rw[if_pos h]
  exact h1 h
 ·rw[if_neg h]
  exact h2 h
theorem qwt {c A B:Prop} [Decidable c] (hc:c) (h:B):if (!decide c)=true then A else B:=by
 rw[decide_eq_true hc];exact qd7 h
def Same (H H':Hp):Prop:=∀ b o,H b=some o->H' b=some o
theorem Same.refl (H:Hp):Same H H:=λ_ _ h=>h
theorem Same.trans {H H1 H2:Hp} (a:Same H H1) (b:Same H1 H2):Same H H2:=λc o h=>b c o (a c o h)
theorem Same.free {H H':Hp} (e:Same H H') {l:Addr} (h:H' l=Option.none):H l=Option.none:=by
 cases q:H l with
 | none=>rfl
 | some o =>
  rw[e l o q] at h;cases h
section
variable {κ:Type} [DecidableEq κ]
end
end L2
set_option maxHeartbeats 4000000
namespace L2
open PySem PySem.Spec PyProof.Rows
section
variable {X:Cx}
theorem qwu:(10:Nat) ^ 100<2 ^ 400:=by decide +kernel
theorem qm0 {j:Int} (h:j.natAbs<10 ^ 100):j.natAbs.log2<400:=by
 by_cases h0:j.natAbs=0
 ·rw[h0];decide +kernel
 ·exact (Nat.log2_lt h0).mpr (Nat.lt_trans h qwu)
def qy5 (_ j:Int):Prop:=0<j/\j<10 ^ 100
theorem qsg:OpR X (binaryOp .FloorDiv) (rI qy5 λi j=>.int (i / j)):=opI λi j _ _ _ _ _ hc q=>by
 have h1:(0:Int)<j:=hc.1;have h2:j<10 ^ 100:=hc.2;have h3:j.natAbs<10 ^ 100:=by omega
 exact floordiv_int (by omega) (by rw[Int.fdiv_eq_ediv_of_nonneg i (by omega)];exact q) (.inl (PyProof.noPylong_of_log2 (Nat.lt_trans (qm0 h3) (by decide))))
def CMulB (i j:Int):Prop:=(-(10 ^ 100)<i/\i<10 ^ 100)/\(-(10 ^ 100)<j/\j<10 ^ 100)
theorem qm1 {j:Int} (h:j.natAbs<10 ^ 100):Builtin.Int.intBits j<=400:=by
 unfold Builtin.Int.intBits
 split
 ·exact Nat.zero_le _
 ·have:=qm0 h
  omega
theorem CMulB.ok {i j:Int} (h:CMulB i j):IntMulOk i j:=by
 obtain ⟨⟨h1,h2⟩,h3,h4⟩:=h;have e1:=qm1 (j:=i) (by omega);have e2:=qm1 (j:=j) (by omega);have e3:Builtin.Int.intTooBig (Builtin.Int.intBits i+Builtin.Int.intBits j)=false:=by
  unfold Builtin.Int.intTooBig;rw[decide_eq_false];have:(bitsLine:Int)=134217728:=by decide +kernel
  omega
 unfold IntMulOk;rw[e3]
 simp
theorem qc8:OpR X (binaryOp .Mult) (rI CMulB λi j=>.int (i*j)):=opI λ_ _ _ _ _ _ _ hc q=>mul_int q hc.ok
end
section
variable {X:Cx}
theorem qep:CallR X (.builtin "isinstance") (λxs H Q=>∃ x T t b,xs=[x,.ty T]/\TyOf X.K H x t/\PySem.W.kitOne X.K t (.type T)=some b/\Q (.bl b) H):=by
 intro pins s σ H xs us Q I r h;obtain ⟨x,T,t,b,rfl,ty,e,q⟩:=h;obtain ⟨u,w',rfl,ru,rw'⟩:=vals2 r
 cases (show w'=Value.type T from rw')
 exact qpk I ru ty e λtk=>⟨.bl b,H,I.tok tk,rfl,q⟩
end
mutual
inductive Rep (K:Frag) (H:Hp):V->PyData->Prop where
 | non:Rep K H .non .none
 | bl (b:Bool):Rep K H (.bl b) (.bool b)
 | int (i:Int):Rep K H (.int i) (.int i)
 | str (x:Str):Rep K H (.str x) (.str x)
 | lst {a:Addr} {xs:List V} {ds:List PyData}:SqL K H a xs->qpw K H xs ds->Rep K H (.ref a) (.list ds)
 | tup {a:Addr} {xs:List V} {ds:List PyData}:SqT K H a xs->qpw K H xs ds->Rep K H (.ref a) (.tuple ds)
inductive qpw (K:Frag) (H:Hp):List V->List PyData->Prop where
 | nil:qpw K H [] []
 | cons {v:V} {vs:List V} {d:PyData} {ds:List PyData}:Rep K H v d->qpw K H vs ds->qpw K H (v :: vs) (d :: ds)
end
section
variable {X:Cx} {pins:List (Addr×Obj)} {σ:St} {H:Hp} {s:Shared}
mutual
theorem qe0 (I:Inv X pins σ H s):∀ (d:PyData) (v:V) (u:Value),Rep X.K H v d->RelV v u->∃ as,Reads s.heap u d as
 | .none,v,u,r,q=>by cases r;cases (show u=Value.none from q);exact ⟨_,.none⟩
 | .bool b,v,u,r,q=>by cases r;cases (show u=Value.bool b from q);exact ⟨_,.bool b⟩
 | .int i,v,u,r,q=>by cases r;obtain ⟨t,e⟩:=(show ∃ t,u=Value.int i t from q);cases e;exact ⟨_,.int i t⟩
 | .str x,v,u,r,q=>by cases r;obtain ⟨t,e⟩:=(show ∃ t,u=Value.str x t from q);cases e;exact ⟨_,.str x t⟩
 | .list ds,v,u,r,q=>by
  cases r with
  | @lst a xs _ hq rs =>
   cases (show u=Value.ref a from q)
   obtain ⟨its,rv,⟨o,n,e,c,_,d⟩,hz⟩:=I.list hq;obtain ⟨as,ra⟩:=qgi I ds xs its rs rv;exact ⟨_,.list e c d (by simpa using ra)⟩
 | .tuple ds,v,u,r,q=>by
  cases r with
  | @tup a xs _ hq rs =>
   cases (show u=Value.ref a from q)
   obtain ⟨its,rv,⟨o,e,c,n,d⟩,hz⟩:=I.tuple hq;obtain ⟨as,ra⟩:=qgi I ds xs its rs rv;exact ⟨_,.tuple e c d (by simpa using ra)⟩
 | .dict _,v,u,r,q=>by cases r
theorem qgi (I:Inv X pins σ H s):∀ (ds:List PyData) (vs:List V) (us:List Value),qpw X.K H vs ds->Vals vs us->∃ as,ReadsAll s.heap us ds as
 | [],vs,us,r,q=>by cases r;cases q;exact ⟨_,.nil⟩
 | d :: ds,vs,us,r,q=>by
  cases r with
  | cons r1 r2 =>
   cases q with
   | cons q1 q2 =>
    obtain ⟨as,a1⟩:=qe0 I d _ _ r1 q1;obtain ⟨bs,a2⟩:=qgi I ds _ _ r2 q2;exact ⟨_,.cons a1 a2⟩
end
end
def qtj (K:Frag) (neg:Bool):R2:=λx y H Q=>∃ d e,Rep K H x d/\Rep K H y e/\d.canLay0=true/\e.canLay0=true/\d.depth<=20/\Q (.bl (if neg then !PyData.eqv d e else PyData.eqv d e)) H
section
variable {X:Cx}
theorem qpx (hu:X.A.units+64<cLine):OpR X (compareOp .Eq) (qtj X.K false):=by
 intro pins s σ H x y v u Q I rx ry h;obtain ⟨d,e,rd,re,cd,ce,hd,q⟩:=h;obtain ⟨as,ra⟩:=qe0 I d x v rd rx;obtain ⟨bs,rb⟩:=qe0 I e y u re ry;have hm:min d.depth e.depth<=d.depth:=Nat.min_le_left _ _;exact SeqAt.compareEq_reads ra rb cd ce (by omega) ⟨.bl _,H,I,rfl,q⟩
theorem qhq (hu:X.A.units+64<cLine):OpR X (compareOp .NotEq) (qtj X.K true):=by
 intro pins s σ H x y v u Q I rx ry h;obtain ⟨d,e,rd,re,cd,ce,hd,q⟩:=h;obtain ⟨as,ra⟩:=qe0 I d x v rd rx;obtain ⟨bs,rb⟩:=qe0 I e y u re ry;have hm:min d.depth e.depth<=d.depth:=Nat.min_le_left _ _;exact SeqAt.rcNeAt_reads ra rb cd ce (by omega) X.prog X.w X.xe _ ⟨.bl _,H,I,rfl,q⟩
end
section
variable {X:Cx} {pins:List (Addr×Obj)} {σ:St} {H:Hp} {s:Shared} {h':Heap}
theorem Inv.turnedLaid {t':Nat} {ch:List Addr} {a:Addr} {o:HO} (I:Inv X pins σ H s) (hf:∀ b∈ch,qmv X pins H b) (k:∀ b u,b ∉ ch->s.heap.get? b=some u->h'.get? b=some u)
  (hp:s.heap.objs.size<=a) (new:ObjOk X.prog X.w (upd H a o) h' a o):Inv X pins σ (upd H a o) { s with heap:=h',toks:=t' }:=by
 have hna:H a=none:=I.hok.fresh hp;have nch:∀ b u,H b=some u->b ∉ ch:=λb u e z=>by rw[(hf b z).1] at e;cases e
 have nea:∀ b u,s.heap.get? b=some u->b≠a:=λb u e z=>absurd (Nat.lt_of_lt_of_le (Heap.lt_size e) (by rw[z];exact hp)) (Nat.lt_irrefl _)
 refine I.step (g':=s.gens) (d':=s.drawn) (ch:=ch) (λb hb=>⟨(hf b hb).2.2.2.1,(hf b hb).2.1,(hf b hb).2.2.2.2.1,(hf b hb).2.2.2.2.2⟩) (λb o _ _ hc e _=>k b o hc e) (λb o _ _ hc e _=>⟨o.slots,k b o hc e⟩)
  (λb o hc e n=>by rw[qa8 (nea b o e)];exact n) (λb o hc e=>⟨o,k b o hc e⟩) (λb xs e=>by rw[qa8 (qah e hna)];exact e) (λb o u e=>by rw[qa8 (qah e hna)];exact e)
  (λb ps e=>⟨#[],by rw[qa8 (qah e hna),e];simp⟩) (λm hm=>?_) (λb u e=>?_) I.bare
 ·obtain ⟨o,es,ep,ho,r⟩:=hm
  exact ⟨o,es,ep,k _ o (λz=>(hf _ z).2.1 rfl) ho,r⟩
 ·by_cases hb:b=a
  ·subst hb;rw[qbp] at e;cases e;exact new
  ·rw[qa8 hb] at e
   refine (I.hok b u e).stay (λc v hc q=>k c v ?_ q) (λc q=>by rw[qa8 (qah q hna)];exact q) λc xs q=>by rw[qa8 (qah q hna)];exact q
   rcases hc with z|z
   ·rw[z];exact nch b u e
   ·exact nch c _ z
theorem Inv.turnedL {t':Nat} {ch:List Addr} (I:Inv X pins σ H s) (hf:∀ b∈ch,qmv X pins H b) (k:∀ b u,b ∉ ch->s.heap.get? b=some u->h'.get? b=some u):Inv X pins σ H { s with heap:=h',toks:=t' }:=by
 have nch:∀ b u,H b=some u->b ∉ ch:=λb u e z=>by rw[(hf b z).1] at e;cases e
 refine I.step (g':=s.gens) (d':=s.drawn) (ch:=ch) (λb hb=>⟨(hf b hb).2.2.2.1,(hf b hb).2.1,(hf b hb).2.2.2.2.1,(hf b hb).2.2.2.2.2⟩) (λb o _ _ hc e _=>k b o hc e) (λb o _ _ hc e _=>⟨o.slots,k b o hc e⟩)
  (λ_ _ _ _ n=>n) (λb o hc e=>⟨o,k b o hc e⟩) (λ_ _ e=>e) (λ_ _ _ e=>e) (λb ps e=>⟨#[],by rw[e];simp⟩) (λm hm=>?_) (λb u e=>?_) I.bare
 ·obtain ⟨o,es,ep,ho,r⟩:=hm
  exact ⟨o,es,ep,k _ o (λz=>(hf _ z).2.1 rfl) ho,r⟩
 ·refine (I.hok b u e).stay (λc v hc q=>k c v ?_ q) (λ_ q=>q) λ_ _ q=>q
  rcases hc with z|z
  ·rw[z];exact nch b u e
  ·exact nch c _ z
end
def Itz (K:Frag) (a b:Addr):It:=
 ⟨λi H=>∃ xs ys x y,SqL K H a xs/\SqL K H b ys/\xs[i]?=some x/\ys[i]?=some y,
   λi H v H'=>∃ p,v=.ref p/\H p=none/\∀ xs ys x y,SqL K H a xs->SqL K H b ys->xs[i]?=some x->ys[i]?=some y->H'=upd H p (.tup [x,y]),
   λi H=>∃ xs ys,SqL K H a xs/\SqL K H b ys/\(xs.length<=i\/ys.length<=i)⟩
theorem qbg {h:Heap} {a b:Addr} {o u:Obj} (e:h.get? a=some o) (e':h.get? b=some u) (d:o.cls≠u.cls):a≠b:=λz=>by
 subst z;rw[e] at e';exact d (congrArg Obj.cls (Option.some.inj e'))
theorem qyc:Value.type "tuple" ≠ Value.type "zip" :=by decide
theorem qyd:Value.type "list_iterator" ≠ Value.type "zip" :=by decide
theorem qtk:Value.type "tuple" ≠ Value.type "list_iterator" :=by decide
theorem qye:Value.type "list" ≠ Value.type "zip" :=by decide
theorem qyf:Value.type "list" ≠ Value.type "tuple" :=by decide
theorem qtl:Value.type "list" ≠ Value.type "list_iterator" :=by decide
theorem qsh {P:Program} {w:World} {K:Frag} {elts:List Expr} {ek:Nat} {epos:Pos} (a b z TI TO i1 i2:Addr) (d1:TI≠TO) (d2:i1≠i2) :
  Turn P w K (.Tuple elts ek epos) (Itz K a b) [z,TI,TO,i1,i2] z (λi h=>IsZip h z TI TO .none/\IsPair h TI (.ref i1) (.ref i2)/\(∃ x y,IsPair h TO x y)/\h.IsListIter i1 a i/\h.IsListIter i2 b i) where
 mem:=by simp
 obj:=λi h st c hc=>by
  obtain ⟨hz,hTI,⟨x,y,hTO⟩,⟨o1,e1,c1,f1⟩,⟨o2,e2,c2,f2⟩⟩:=st;simp only[List.mem_cons,List.not_mem_nil,or_false] at hc
  rcases hc with rfl|rfl|rfl|rfl|rfl
  ·exact ⟨_,hz,λv q=>by have q':Data.fields _=Data.cell v:=q;cases q'⟩
  ·exact ⟨_,hTI,λv q=>by have q':Data.seq _ _=Data.cell v:=q;cases q'⟩
  ·exact ⟨_,hTO,λv q=>by have q':Data.seq _ _=Data.cell v:=q;cases q'⟩
  ·exact ⟨_,e1,λv q=>by rw[f1] at q;cases q⟩
  ·exact ⟨_,e2,λv q=>by rw[f2] at q;cases q⟩
 keep:=λi h h' st k=>by
  obtain ⟨hz,hTI,⟨x,y,hTO⟩,h1,h2⟩:=st;exact ⟨k z (by simp) _ hz,k TI (by simp) _ hTI,⟨x,y,k TO (by simp) _ hTO⟩,h1.at λo e=>k i1 (by simp) o e,h2.at λo e=>k i2 (by simp) o e⟩
 item:=by
  intro X hP hw hK hc i pins s σ H E I hf st hg;subst hP hw hK;obtain ⟨xs,ys,x,y,qa,qb,hx,hy⟩:=hg;obtain ⟨hz,hTI,⟨x0,y0,hTO⟩,h1,h2⟩:=st;obtain ⟨itsA,rA,pA,zA⟩:=I.list qa;obtain ⟨itsB,rB,pB,zB⟩:=I.list qb;obtain ⟨u,hu,ru⟩:=rA.get hx;obtain ⟨u',hu',ru'⟩:=rB.get hy;have D:ZipApart z TI TO i1 i2 a b:=by
   obtain ⟨o1,e1,c1,f1⟩:=id h1;obtain ⟨o2,e2,c2,f2⟩:=id h2;obtain ⟨oa,na,ea,ca,_,fa⟩:=id pA;obtain ⟨ob,nb,eb,cb,_,fb⟩:=id pB;exact ⟨qbg hTI hz qyc,qbg hTO hz qyc,qbg e1 hz (by rw[c1];exact qyd),qbg e2 hz (by rw[c2];exact qyd),d1,qbg hTI e1 (by rw[c1];exact qtk),qbg hTI e2 (by rw[c2];exact qtk),
    qbg hTO e1 (by rw[c1];exact qtk),qbg hTO e2 (by rw[c2];exact qtk),d2,qbg ea hz (by rw[ca];exact qye),qbg ea hTO (by rw[ca];exact qyf),qbg ea e1 (by rw[ca,c1];exact qtl),qbg ea e2 (by rw[ca,c2];exact qtl),
    qbg eb hz (by rw[cb];exact qye),qbg eb hTO (by rw[cb];exact qyf),qbg eb e1 (by rw[cb,c1];exact qtl),qbg eb e2 (by rw[cb,c2];exact qtl)⟩
  refine wpAny_pyNext_zip_item D hz hTI hTO h1 h2 pA.isList pB.isList (x:=u) (y:=u') (by simpa using hu) (by simpa using hu') λh' a1 a2 a3 a4 a5 a6 hk=>?_
  refine ⟨.ref s.heap.objs.size,rfl,wpAny_letOwnedTupleGo_zip a1 λh'' hz'' sb=>?_⟩;have lz:z<s.heap.objs.size:=Heap.lt_size hz;have nz:s.heap.objs.size≠z:=Nat.ne_of_gt lz;have k2:∀ c o,c ∉ [z,TI,TO,i1,i2]->s.heap.get? c=some o->h''.get? c=some o:=λc o hc e=>by
   simp only[List.mem_cons,List.not_mem_nil,or_false,not_or] at hc;exact sb.extBut _ _ hc.1 (hk c o hc.1 hc.2.2.1 hc.2.2.2.1 hc.2.2.2.2 e)
  have T2:IsPair h'' s.heap.objs.size u u':=sb.extBut _ _ nz a5;refine ⟨.ref s.heap.objs.size,upd H s.heap.objs.size (.tup [x,y]),I.turnedLaid (t':=s.toks) (ch:=[z,TI,TO,i1,i2]) hf k2 (Nat.le_refl _) ⟨by show 2<=sizeLine;decide,[u,u'],.cons ru (.cons ru' .nil),_,T2,rfl,_,rfl⟩,rfl,⟨_,rfl,I.hok.fresh (Nat.le_refl _),λxs' ys' x' y' qa' qb' hx' hy'=>?_⟩,⟨hz'',sb.extBut _ _ D.TIz (hk _ _ D.TIz D.TITO D.TIi1 D.TIi2 hTI),⟨_,_,sb.extBut _ _ D.TOz a2⟩,a3.extBut sb.extBut D.i1z,a4.extBut sb.extBut D.i2z⟩,λb hb=>?_⟩
  ·rw[I.list_inj qa' qa,hx] at hx'
   rw[I.list_inj qb' qb,hy] at hy'
   cases hx';cases hy';rfl
  ·have e:b≠s.heap.objs.size:=λq=>by
    have:∃ o,s.heap.get? b=some o:=by
     simp only[List.mem_cons,List.not_mem_nil,or_false] at hb;obtain ⟨o1,e1,_⟩:=id h1;obtain ⟨o2,e2,_⟩:=id h2
     rcases hb with rfl|rfl|rfl|rfl|rfl
     ·exact ⟨_,hz⟩
     ·exact ⟨_,hTI⟩
     ·exact ⟨_,hTO⟩
     ·exact ⟨_,e1⟩
     ·exact ⟨_,e2⟩
    obtain ⟨o,e⟩:=this;exact absurd (Heap.lt_size e) (by rw[q];exact Nat.lt_irrefl _)
   rw[qa8 e];exact (hf b hb).1
 done:=by
  intro X hP hw hK hc i pins s σ H E I hf st hg;subst hP hw hK;obtain ⟨xs,ys,qa,qb,hx⟩:=hg;obtain ⟨hz,hTI,⟨x0,y0,hTO⟩,h1,h2⟩:=st;obtain ⟨itsA,rA,pA,zA⟩:=I.list qa;obtain ⟨itsB,rB,pB,zB⟩:=I.list qb;have D:ZipApart z TI TO i1 i2 a b:=by
   obtain ⟨o1,e1,c1,f1⟩:=id h1;obtain ⟨o2,e2,c2,f2⟩:=id h2;obtain ⟨oa,na,ea,ca,_,fa⟩:=id pA;obtain ⟨ob,nb,eb,cb,_,fb⟩:=id pB;exact ⟨qbg hTI hz qyc,qbg hTO hz qyc,qbg e1 hz (by rw[c1];exact qyd),qbg e2 hz (by rw[c2];exact qyd),d1,qbg hTI e1 (by rw[c1];exact qtk),qbg hTI e2 (by rw[c2];exact qtk),
    qbg hTO e1 (by rw[c1];exact qtk),qbg hTO e2 (by rw[c2];exact qtk),d2,qbg ea hz (by rw[ca];exact qye),qbg ea hTO (by rw[ca];exact qyf),qbg ea e1 (by rw[ca,c1];exact qtl),qbg ea e2 (by rw[ca,c2];exact qtl),
    qbg eb hz (by rw[cb];exact qye),qbg eb hTO (by rw[cb];exact qyf),qbg eb e1 (by rw[cb,c1];exact qtl),qbg eb e2 (by rw[cb,c2];exact qtl)⟩
  have lA:=rA.length;have lB:=rB.length;refine wpAny_pyNext_zip_end (I.ok.hd hc) D hz hTI hTO h1 h2 pA.isList pB.isList (hx.imp (λq=>by simp;omega) λq=>by simp;omega) λh' hk=>⟨rfl,I.turnedL (t':=s.toks) (ch:=[z,TI,TO,i1,i2]) hf λc o hc e=>?_⟩
  simp only[List.mem_cons,List.not_mem_nil,or_false,not_or] at hc;exact hk c o hc.1 hc.2.2.1 hc.2.2.2.1 hc.2.2.2.2 e
 self:=λ_ _ _ _ _ st h=>wpAny_pyIter_zip st.1 h
section
variable {X:Cx}
def qAq (K:Frag) (ta:TA):TI:=λσ H R=>ta σ H λvs H1=>∃ a b xs ys,vs=[.ref a,.ref b]/\SqL K H1 a xs/\SqL K H1 b ys/\R (Itz K a b) H1
theorem qpy {elts:List Expr} {ek:Nat} {epos:Pos} {e1 e2:Expr} {ta:TA} {p pos:Pos} (hg:Gl X "zip") (hm:X.mg "zip" = none) (ha:PA X [e1,e2] ta)
  (hs:starEach [e1,e2] X.env=[(false,eval e1 X.env),(false,eval e2 X.env)]:=by rfl) (hs2:starEach [e2] X.env=[(false,eval e2 X.env)]:=by rfl) :
  PI X (.Tuple elts ek epos) (.Call (.Name "zip" p) [e1,e2] [] pos) (qAq X.K ta):=by
 intro pins s σ H R I h;refine Call_ (qkj I hg hm (show bootBuiltins "zip" = some (.type "zip") by decide +kernel) (PyProof.Rows.callWith_type1 (thn (ha pos pins s σ H _ I h) λus s1 ⟨vs,H1,I1,r1,q1⟩=>?_) (by rw[hs,hs2]) (by rw[hs2];rfl)));obtain ⟨a,b,xs,ys,rfl,qa,qb,q⟩:=q1;obtain ⟨u,u',rfl,ru,ru'⟩:=vals2 r1
 cases (show u=Value.ref a from ru)
 cases (show u'=Value.ref b from ru')
 obtain ⟨itsA,rA,pA,zA⟩:=I1.list qa;obtain ⟨itsB,rB,pB,zB⟩:=I1.list qb;refine call_zip_2 pA.isList pB.isList λh' hz hTI hTO h1 h2 hsz hk=>wpAny_pyIter_zip hz ?_
 refine ⟨s1.heap.objs.size+4,_,_,_,H1,rfl,I1.kept (t':=s1.toks) hk,qsh a b _ (s1.heap.objs.size+2) (s1.heap.objs.size+3) s1.heap.objs.size (s1.heap.objs.size+1) (Nat.ne_of_lt (Nat.lt_succ_self _)) (Nat.ne_of_lt (Nat.lt_succ_self _)),⟨hz,hTI,⟨_,_,hTO⟩,h1,h2⟩,λc hc=>?_,q⟩;have e:s1.heap.objs.size<=c:=by
  simp only[List.mem_cons,List.not_mem_nil,or_false] at hc
  rcases hc with rfl|rfl|rfl|rfl|rfl
  ·exact Nat.le_add_right _ _
  ·exact Nat.le_add_right _ _
  ·exact Nat.le_add_right _ _
  ·exact Nat.le_refl _
  ·exact Nat.le_add_right _ _
 exact I1.fpOk e (I1.hok.fresh e)
end
theorem quv {K:Frag} {a b:Addr} {xs ys:List V} {g:TG} {tb:TS} {D:Ends} {σ:St} {H:Hp} (Pv:Nat->St->Hp->Prop) (h0:Pv 0 σ H) (hl:∀ i σ H,Pv i σ H->SqL K H a xs/\SqL K H b ys)
  (hs:∀ i x y σ H p,xs[i]?=some x->ys[i]?=some y->H p=none->Pv i σ H->g (.ref p) σ (upd H p (.tup [x,y])) λσ2 H2=>tb { D with nx:=Pv (i+1),ct:=Pv (i+1),bk:=D.nx } σ2 H2)
  (hd:∀ i σ H,i=min xs.length ys.length->Pv i σ H->D.nx σ H) :
  ∃ W:Nat->Nat->St->Hp->Prop,(∃ m,W 0 m σ H)/\∀ i m σ H,W i m σ H ->
   ((Itz K a b).stop i H/\D.nx σ H)\/((Itz K a b).go i H/\∃ N:St->Hp->Prop,(∀ σ' H',N σ' H'->∃ m',m'<m/\W (i+1) m' σ' H')/\∀ x H',(Itz K a b).yld i H x H'->g x σ H' λσ2 H2=>tb { D with nx:=N,ct:=N,bk:=D.nx } σ2 H2):=by
 refine ⟨λi m σ H=>m=min xs.length ys.length-i/\i<=min xs.length ys.length/\Pv i σ H,⟨min xs.length ys.length,by simp,Nat.zero_le _,h0⟩,?_⟩;rintro i m σ H ⟨rfl,hi,p⟩;obtain ⟨qa,qb⟩:=hl i σ H p
 by_cases hlt:i<min xs.length ys.length
 ·have ha:i<xs.length:=by omega
  have hb:i<ys.length:=by omega
  refine .inr ⟨⟨xs,ys,xs[i],ys[i],qa,qb,by simp[ha],by simp[hb]⟩,Pv (i+1),λσ' H' p'=>⟨min xs.length ys.length-(i+1),by omega,rfl,hlt,p'⟩,λx H' y=>?_⟩;obtain ⟨t,rfl,ht,y⟩:=y;have ea:xs[i]?=some xs[i]:=by simp[ha]
  have eb:ys[i]?=some ys[i]:=by simp[hb]
  rw[y xs ys xs[i] ys[i] qa qb ea eb];exact hs i xs[i] ys[i] σ H t ea eb ht p
 ·exact .inl ⟨⟨xs,ys,qa,qb,by omega⟩,hd i σ H (by omega) p⟩
structure FunD (K:Frag) (x qual:Str) (st:Stmt) (dV:Value) (f:Addr) (fd:FuncData):Prop where
 ex:∃ (oc:Value) (od:Option Addr) (kV doc pm:Value) (an:Option Addr) (cdv ct:Value) (osl:Array (Option Value)),
  fd=fnOf x qual (qak st) (qai st) (qab st) dV kV doc pm an cdv ct/\K.lookup f=some ⟨oc,od,.func fd,osl⟩/\codeIn K cdv qual=true
 kp:keepIn K (.ref f)=true
section
variable {P:Program} {w:World} {K:Frag} {mg:Str->Option Value} {base:Heap}
theorem FunD.ok {x qual:Str} {st:Stmt} {dV:Value} {f:Addr} {fd:FuncData} {N ps:List Str} {k:Nat} {sp:Sp} (F:FunD K x qual st dV f fd) (S:qaj N ps (qab st)) (len:∀ vs H Q E,sp vs H Q E->vs.length=ps.length)
  (hbody:∀ (cdv:Value) (A:Around) (outer:List Env) (s:Shared) (H:Hp) (vs:List V) (Q:VK) (E:XK),Room k (A.deeper (envOfC qual (qab st) s.heap.objs.size f cdv))->sp vs H Q E ->
   ∃ t,PSs (qo1 CX0 P w K mg base N qual (qab st) f cdv A outer s H E).nox (qai st) t/\t { nx:=λ_ H'=>Q .non H',rt:=Q } (start N vs) H):qg9 P w K mg base CX0 (k+1) f fd ps sp:=by
 obtain ⟨oc,od,kV,doc,pm,an,cdv,ct,osl,rfl,lk,hcd⟩:=F.ex;refine qr5 lk hcd S len λA outer s H vs Q E hr hsp=>?_
 obtain ⟨t,h,q⟩:=hbody cdv A outer s H vs Q E hr hsp;exact ⟨t,h.nox,q⟩
theorem qgj {fd:FuncData} {ps:List Str} {ds:List Value} {T:Addr} {o:Obj} {items:Array Value} {n:Nat} (hd:fd.defaults=.ref T) (lk:K.lookup T=some o) (hs:o.data=.seq items n)
  (h:∀ us:List Value,(us ++ ds).length=ps.length->∃ k,bindArgs fd ⟨us,[]⟩=seqItems? fd.defaults >>= k/\k (some items)=pure (ps.zip (us ++ ds))):Binds K fd ps ds:=λs us kin hl=>by
 obtain ⟨k,h1,h2⟩:=h us hl;exact .of_defaults hd (kin _ _ lk) hs h1 h2
end
def qbz (P:Program) (w:World) (K:Frag) (mg:Str->Option Value) (base:Heap) (k:Nat) (x:Str) (ps:List Str) (sp:Sp):Prop:=
 ∃ f fd,qg9 P w K mg base CX0 k f fd ps sp/\mg x=some (.ref f)/\keepIn K (.ref f)=true/\Binds K fd ps []
def qfm (P:Program) (w:World) (K:Frag) (mg:Str->Option Value) (base:Heap) (C:Addr) (k:Nat) (m:Str) (ps:List Str) (sp:Sp):Prop:=
 ∃ f fd,qg9 P w K mg base CX0 k f fd ps sp/\qgc K C m f/\Binds K fd ps []
def qyg (P:Program) (w:World) (K:Frag) (mg:Str->Option Value) (base:Heap) (C:Addr) (k:Nat) (x:Str) (ps:List Str) (ds:List Value) (sp:Sp):Prop:=
 ∃ f fd,qg9 P w K mg base CX0 k f fd ps sp/\mg x=some (.ref C)/\Mk K C f/\Binds K fd ps ds
section
variable {X:Cx} {k:Nat} {C:Addr} {ps:List Str} {sp:Sp} {dvs:List V} {ds:List Value} {x m:Str} {p pos apos:Pos} {e o:Expr} {es:List Expr} {ta:TE} {t:TA}
theorem qax (D:qbz X.prog X.w X.K X.mg X.base k x ps sp) (hr:Room k X.A) (hg:Gl X x) (ha:PA X (e :: es) t) (hdb:(x == ("__debug__" : Str))=false:=by decide)
  (he:starEach (e :: es) X.env=(false,eval e X.env) :: starEach es X.env:=by rfl) (hpl:(backTo pos (starEach es X.env)).any (·.1)=false:=by rfl):PE X (.Call (.Name x p) (e :: es) [] pos) (qwg sp [] E0 t):=by
 obtain ⟨f,fd,F,hm,hk,hb⟩:=D;exact quk F hr hg hm hk hb .nil qsf ha hdb he hpl
end
open PySem PySem.Spec PyProof.Rows
section
variable {X:Cx} {k:Nat} {C:Addr} {ps:List Str} {sp:Sp} {x m:Str} {p pos apos:Pos} {e o:Expr} {es:List Expr} {ta:TE} {t:TA}
theorem qsi {pl:Sem Bool} (he:PE X o ta) (c:Cls X.K C) (D:qfm X.prog X.w X.K X.mg X.base C k m ps sp) (hr:Room k X.A) (ha:PA X (e :: es) t)
  (hst:starEach (e :: es) X.env=(false,eval e X.env) :: starEach es X.env:=by rfl) (hpl:(backTo pos (starEach es X.env)).any (·.1)=false:=by rfl)
  (ht:eval (.Call (.Attribute o m apos) (e :: es) [] pos) X.env=(do
   let ov <- eval o X.env
   standAt apos.atName
   let (f,first) <- holding [ov] (getMethod ov m pl)
   callWith pos f first (backTo pos (starEach (e :: es) X.env)) (backToKw pos (keywordEach [] X.env))):=by rfl) :
  PE X (.Call (.Attribute o m apos) (e :: es) [] pos) (qr2 C m sp [] E0 ta t):=by
 obtain ⟨f,fd,F,hm,hb⟩:=D;exact qul (pl:=pl) he c hm F hr hb .nil qsf ha hst hpl ht
theorem qa9 {pl:Sem Bool} (he:PE X o ta) (c:Cls X.K C) (D:qfm X.prog X.w X.K X.mg X.base C k m ps sp) (hr:Room k X.A)
  (ht:eval (.Call (.Attribute o m apos) [] [] pos) X.env=(do
   let ov <- eval o X.env
   standAt apos.atName
   let (f,first) <- holding [ov] (getMethod ov m pl)
   callWith pos f first (backTo pos (starEach [] X.env)) (backToKw pos (keywordEach [] X.env))):=by rfl) :
  PE X (.Call (.Attribute o m apos) [] [] pos) (qr2 C m sp [] E0 ta qgf):=by
 obtain ⟨f,fd,F,hm,hb⟩:=D;exact qr3 (pl:=pl) he c hm F hr hb .nil qsf ht
end
section
variable {P:Program} {w:World} {K:Frag} {mg:Str->Option Value} {base:Heap}
theorem Fun.def_ {x:Str} {st:Stmt} {f:Addr} {fd:FuncData} {ps:List Str} {k:Nat} {sp:Sp} (F:Fun K x x st f fd) (hm:mg x=some (.ref f)) (hf:qg9 P w K mg base CX0 k f fd ps sp) (hb:Binds K fd ps []):qbz P w K mg base k x ps sp:=
 ⟨f,fd,hf,hm,F.kp,hb⟩
end
theorem qd9:bootBuiltins "len" = some (.builtin "len"):=by decide +kernel
theorem qa3:bootBuiltins "isinstance" = some (.builtin "isinstance"):=by decide +kernel
theorem qtm:bootBuiltins "sum" = some (.builtin "sum"):=by decide +kernel
theorem qhr:bootBuiltins "list" = some (.type "list"):=by decide +kernel
theorem qsj:bootBuiltins "tuple" = some (.type "tuple"):=by decide +kernel
theorem qwv:bootBuiltins "int" = some (.type "int"):=by decide +kernel
theorem qpz:bootBuiltins "bool" = some (.type "bool"):=by decide +kernel
theorem qkx:bootBuiltins "str" = some (.type "str"):=by decide +kernel
theorem qhs (K:Frag):PySem.W.kitOne K (.type "int") (.type "int")=some true:=by rfl
theorem qgw (K:Frag):PySem.W.kitOne K (.type "int") (.type "bool")=some false:=by rfl
theorem qsk (K:Frag):PySem.W.kitOne K (.type "list") (.type "list")=some true:=by rfl
theorem kit_tuple (K:Frag):PySem.W.kitOne K (.type "tuple") (.type "tuple")=some true:=by rfl
theorem qjv {H:Hp} {p:Addr} {o:HO} (h:H p=none):Same H (upd H p o):=λb u e=>by rw[qa8 (qah e h)];exact e
open PySem PySem.Spec PyProof.Rows
def blk (X:Cx) (Nc:List Str) (scope:Scope) (cl:List (Str×Addr)) (C:Addr) (s:Shared) (H:Hp) (ex:List Addr):Cx where
 prog:=X.prog
 w:=X.w
 K:=X.K
 mg:=X.mg
 base:=X.base
 A:=X.A
 N:=Nc
 s₀:=s
 H₀:=H
 env:=compEnvC scope cl C X.env
 outer:=X.stack
 stack:=X.stack
 ex:=ex
 fn:=λ_=>false
 calm:=X.calm
 pn:=[]
 xe:=λ_ _=>False
structure qww (X:Cx) (scope:Scope) (cl:List (Str×Addr)):Prop where
 clos:closureFor scope X.env=pure cl
 kind:scope.kind=.function
 nocell:∀ y∈scope.names,y.2≠.cell
 names:∀ y∈scope.names,y.2=.local->scope.names.lookup y.1=some .local
 sub:∀ x c,cl.lookup x=some c->X.env.cells.lookup x=some c
 has:∀ x,((relabel scope X.env).names.lookup x=some .cell\/(relabel scope X.env).names.lookup x=some .free)->∃ c,cl.lookup x=some c
def FvOk (X:Cx) (scope:Scope) (cl:List (Str×Addr)):List Str->List Nat->Prop
 | [],[]=>True
 | x :: xs,j :: js=>(X.N[j]?=some x/\(X.env.kindOf x=some .cell\/X.env.kindOf x=some .free)/\cl.lookup x=X.env.cells.lookup x /\
   ((relabel scope X.env).names.lookup x=some .cell\/(relabel scope X.env).names.lookup x=some .free))/\FvOk X scope cl xs js
 | _,_=>False
def lcσ (nv:Nat) (fv:List Nat) (σ:St):St:=List.replicate nv none ++ fv.map λj=>(σ[j]?).join
theorem FvOk.len {X:Cx} {scope:Scope} {cl:List (Str×Addr)}:∀ {xs:List Str} {js:List Nat},FvOk X scope cl xs js->xs.length=js.length
 | [],[],_=>rfl
 | _ :: _,_ :: _,h=>by simp[FvOk.len h.2]
 | [],_ :: _,h=>h.elim
 | _ :: _,[],h=>h.elim
theorem FvOk.get {X:Cx} {scope:Scope} {cl:List (Str×Addr)}:∀ {xs:List Str} {js:List Nat} {k:Nat} {x:Str} {j:Nat},FvOk X scope cl xs js->xs[k]?=some x->js[k]?=some j ->
  X.N[j]?=some x/\(X.env.kindOf x=some .cell\/X.env.kindOf x=some .free)/\cl.lookup x=X.env.cells.lookup x/\((relabel scope X.env).names.lookup x=some .cell\/(relabel scope X.env).names.lookup x=some .free)
 | [],[],_,_,_,_,e,_=>by simp at e
 | _ :: _,_ :: _,0,_,_,h,e,e'=>by simp at e e';subst e;subst e';exact h.1
 | _ :: _,_ :: _,k+1,x,j,h,e,e'=>FvOk.get (k:=k) h.2 (by simpa using e) (by simpa using e')
 | [],_ :: _,_,_,_,h,_,_=>h.elim
 | _ :: _,[],_,_,_,h,_,_=>h.elim
abbrev qaq:Obj:={ cls:=.type "list",dict:=none,data:=.seq ([]:List Value).toArray }
theorem ltS {h:Heap} {b:Addr} {o:Obj} (e:h.get? b=some o):b≠(h.push qaq).objs.size:=Nat.ne_of_lt (by rw[Heap.size_push];exact Nat.lt_succ_of_lt (Heap.lt_size e))
theorem neS {h:Heap}:h.objs.size≠(h.push qaq).objs.size:=Nat.ne_of_lt (by rw[Heap.size_push];exact Nat.lt_succ_self _)
theorem leS {h:Heap}:h.objs.size<=(h.push qaq).objs.size:=by rw[Heap.size_push];exact Nat.le_succ _
theorem neZ {h:Heap} {b:Addr} {o:Obj} (e:h.get? b=some o):b≠h.objs.size:=Nat.ne_of_lt (Heap.lt_size e)
section
variable {X:Cx} {pins:List (Addr×Obj)} {σ:St} {H:Hp} {s:Shared} {scope:Scope} {cl:List (Str×Addr)} {vars frees:List Str} {fv:List Nat} {fp:List Addr}
theorem quw {h':Heap} {t':Nat} (I:Inv X pins σ H s) (L:qww X scope cl) (fo:FvOk X scope cl frees fv) (hf:∀ b∈fp,qmv X pins H b) (ho:∀ b∈fp,∃ o,s.heap.get? b=some o)
  (hns:h'.Ns (s.heap.push qaq).objs.size (λ_=>none)) (hsb:∀ b o,b≠(s.heap.push qaq).objs.size->(s.heap.push qaq).get? b=some o->h'.get? b=some o) :
  Inv (blk X (vars ++ frees) scope cl (s.heap.push qaq).objs.size { s with heap:=s.heap.push qaq } H (s.heap.objs.size :: fp)) [(s.heap.objs.size,qaq)] (lcσ vars.length fv σ) H { s with heap:=h',toks:=t' }:=by
 have hC:(s.heap.push qaq).objs.size=s.heap.objs.size+1:=Heap.size_push ..;have hlt:∀ {b:Addr} {o:Obj},s.heap.get? b=some o->b<s.heap.objs.size:=λe=>Heap.lt_size e
 have old:∀ b o,s.heap.get? b=some o->h'.get? b=some o:=λb o e=>hsb b o (ltS e) (Heap.get?_push_of_some _ e)
 have hD:h'.get? s.heap.objs.size=some qaq:=hsb _ _ neS (Heap.get?_push_size _ rfl);have stk:∀ b∈frs X.stack,b<s.heap.objs.size/\b ∉ fp:=λb hb=>by
  rcases List.mem_cons.mp (I.stkSub b hb) with z|z
  ·exact ⟨by rw[z];exact I.lt,λq=>(hf b q).2.1 z⟩
  ·refine ⟨?_,λq=>(hf b q).2.2.1 z⟩
   apply Nat.lt_of_not_le
   intro q;exact I.nofs q z
 have cellL:∀ x c,cl.lookup x=some c->c<s.heap.objs.size:=λx c e=>by
  obtain ⟨v,q⟩:=I.cell x c (L.sub x c e);exact q.lt
 refine ⟨⟨I.ok.mod,L.kind,I.ok.glob,I.ok.blt,Nat.le_refl _,λx y c e1 e2=>I.ok.inj x y c (L.sub x c e1) (L.sub y c e2),λx h=>L.has x h,(λx c z=>nomatch z),I.ok.hd,I.ok.frames,.inl rfl,λb hb=>?_,λb o e=>?_,?_,λb o e hb=>?_,λb hb hq=>?_,?_,λb hb=>I.stkFree b hb⟩,
  rfl,I.bare,Un.kept λb u e=>?_,⟨_,hns,λi x v e1 e2 e3=>?_⟩,λx c e=>?_,?_,λx c e=>I.freeC x c (L.sub x c e),λp hp=>?_,I.hok.kept old,?_⟩
 ·
  refine ⟨?_,λx c e z=>?_⟩
  ·show b≠(s.heap.push qaq).objs.size
   rcases List.mem_cons.mp hb with z|z
   ·rw[z];exact neS
   ·obtain ⟨o,e⟩:=ho b z
    exact ltS e
  ·rcases List.mem_cons.mp hb with q|q
   ·exact Nat.ne_of_lt (cellL x c e) (z.trans q)
   ·exact (hf b q).2.2.2.2.1 x c (L.sub x c e) z
 ·exact ⟨Heap.get?_push_of_some _ (I.bs b o e).1,(I.bs b o e).2⟩
 ·exact Nat.le_trans (Nat.le_trans I.ok.bsz I.sz) leS
 ·
  rcases List.mem_cons.mp hb with q|q
  ·exact neZ (I.bs b o e).1 q
  ·rcases (hf b q).2.2.2.1 with z|z
   ·exact I.ok.noex b o e z
   ·exact absurd (Nat.lt_of_lt_of_le (Heap.lt_size (I.ok.bs b o e).1) z) (Nat.lt_irrefl _)
 ·
  obtain ⟨h1,h2⟩:=stk b hq
  rcases List.mem_cons.mp hb with q|q
  ·exact Nat.ne_of_lt h1 q
  ·exact h2 q
 ·exact Heap.FunFrames.of_keeps (λb o e _=>⟨o,Heap.get?_push_of_some _ e,rfl⟩) I.stack
 ·exact hsb b u (Nat.ne_of_lt (Heap.lt_size e)) e
 ·
  obtain ⟨m,hn,hl⟩:=I.loc;have hi:vars.length<=i:=by
   apply Nat.le_of_not_lt
   intro z;rw[show lcσ vars.length fv σ=List.replicate vars.length none ++ fv.map λj=>(σ[j]?).join from rfl,List.getElem?_append_left (by simpa using z),List.getElem?_replicate_of_lt (by simpa using z)] at e2;cases e2
  obtain ⟨k,rfl⟩:∃ k,i=vars.length+k:=⟨i-vars.length,by omega⟩;have e1':frees[k]?=some x:=by
   have e1'':(vars ++ frees)[vars.length+k]?=some x:=e1;rw[List.getElem?_append_right (by omega)] at e1''
   simpa using e1''
  have e2':(fv.map λj=>(σ[j]?).join)[k]?=some (some v):=by
   rw[show lcσ vars.length fv σ=List.replicate vars.length none ++ fv.map λj=>(σ[j]?).join from rfl,List.getElem?_append_right (by simp)] at e2
   simpa using e2
  rw[List.getElem?_map] at e2';obtain ⟨j,hj,ej⟩:=Option.map_eq_some_iff.mp e2';have ej':σ[j]?=some (some v):=by
   cases q:σ[j]? with
   | none=>rw[q] at ej;cases ej
   | some y=>rw[q] at ej;exact congrArg some ej
  obtain ⟨f1,f2,f3,f4⟩:=fo.get e1' hj;obtain ⟨u,ru,lk⟩:=hl j x v f1 ej' (f2.elim (λz=>.inr (.inl z)) λz=>.inr (.inr z));refine ⟨u,ru,.inr ⟨f4,?_⟩⟩
  rcases lk with ⟨z,_⟩|⟨_,c,hc,o,q,d⟩
  ·rcases f2 with y|y<;>rw[y] at z<;>cases z
  ·exact ⟨c,f3.trans hc,o,old c o q,d⟩
 ·obtain ⟨v,o,q,d⟩:=I.cell x c (L.sub x c e)
  exact ⟨v,o,old c o q,d⟩
 ·exact I.hok.fresh leS
 ·have e:p=(s.heap.objs.size,qaq):=by
   have hp':p∈([]:List (Addr×Obj)) ++ [(s.heap.objs.size,qaq)]:=hp
   simpa using hp'
  subst e;refine ⟨hD,I.hok.fresh (Nat.le_refl _),neS,λq=>?_,λv q=>by have q':Data.seq _ _=Data.cell v:=q;cases q'⟩;exact Nat.lt_irrefl _ (stk _ q).1
 ·show (lcσ vars.length fv σ).length=(vars ++ frees).length
  simp[lcσ,fo.len]
end
def qv2 (X:Cx) (ifs:List Expr) (t:TT):Prop:=
 ∀ (pins:List (Addr×Obj)) (s:Shared) (σ:St) (H:Hp) (Q:Bool->Hp->Prop),Inv X pins σ H s->t σ H Q ->
  wpAny (model X.prog X.w) X.A (forIn ifs true λc r=>if r=true then do let ok <- isTrue c X.env (eval c X.env);pure (ForInStep.yield ok) else pure (ForInStep.yield r)) (TP X pins σ Q) X.xe s
def qy6:TT:=λ_ H Q=>Q true H
theorem qsl {σ:St} {H:Hp} {Q:Bool->Hp->Prop} (h:Q true H):qy6 σ H Q:=h
theorem qci {X:Cx}:qv2 X [] qy6:=λ_ _ _ H _ I h=>wpAny_tests_nil ⟨H,I,h⟩
theorem qux {X:Cx} {c:Expr} {t:TT} (h:PT X c t):qv2 X [c] t:=λpins s σ H Q I q=>wpAny_tests_one (h pins s σ H Q I q)
def qf2 (J:It) (Q:VK) (g:TG) (tc:TT) (te:TE) (σc:St) (H1:Hp):Prop:=∃ W:Nat->Nat->List V->Hp->Prop,(∃ m,W 0 m [] H1)/\∀ i m ys H2,W i m ys H2 ->
 (J.stop i H2/\ys.length<=sizeLine/\∀ p,H2 p=none->Q (.ref p) (upd H2 p (.lst ys))) \/
 (J.go i H2/\ys.length<sizeLine/\∃ N:List V->Hp->Prop,(∀ zs H',N zs H'->∃ m',m'<m/\W (i+1) m' zs H')/\∀ x H3,J.yld i H2 x H3->g x σc H3 λσ4 H4=>tc σ4 H4 λb H5=>if b=true then te σ4 H5 λv H6=>N (ys ++ [v]) H6 else N ys H5)
def tLC (nv:Nat) (fv:List Nat) (wi:TI) (g:TG) (tc:TT) (te:TE):TE:=λσ H Q=>wi σ H λJ H1=>qf2 J Q g tc te (lcσ nv fv σ) H1
theorem qn7 {prog:Program} {w:World} {A:Around} {R:Result->Shared->Prop} {s:Shared} {elt target iter:Expr} {ifs:List Expr} {scope:Scope} {pos:Pos} {it acc:Value} {env:Env} (I:Nat->Shared->Prop)
  (turn:∀ n s,I n s->wpAny (model prog w) A (pyNext it) (λr s₁=>match r with
   | none=>R (.ok .next) s₁
   | some v=>wpAny (model prog w) A (letOwnedTupleGo target it v) (λ_ s₁'=>wpAny (model prog w) A (assign target env v) (λ_ s₂ =>
     wpAny (model prog w) A (forIn ifs true λc r=>if r=true then do let ok <- isTrue c env (eval c env);pure (ForInStep.yield ok) else pure (ForInStep.yield r)) (λok s₃ =>
      if ok=true then wpAny (model prog w) A (eval elt env) (λx s₄ =>
       wpAny (model prog w) A (call (.builtin "list.append") [acc,x]) (λ_ s₅=>∃ m,m<n/\I m s₅) (notedBy (model prog w) A env λe s'=>R (.error e) s') s₄) (notedBy (model prog w) A env λe s'=>R (.error e) s') s₃
      else ∃ m,m<n/\I m s₃) (notedBy (model prog w) A env λe s'=>R (.error e) s') s₂) (notedBy (model prog w) A env λe s'=>R (.error e) s') s₁') (notedBy (model prog w) A env λe s'=>R (.error e) s') s₁) (notedBy (model prog w) A env λe s'=>R (.error e) s') s)
  (n:Nat) (h:I n s):codeAny (model prog w) A (.compLoop (.ListComp elt [⟨target,iter,ifs,0⟩] scope pos) 0 it acc env) R s:=by
 refine codeAny_loop rfl I (λn s hI=>?_) n h
 show wpAny _ A ((compTurn (.ListComp elt [⟨target,iter,ifs,0⟩] scope pos) 0 it acc env).onRaise (λx=>do noteFrame x env;theTreesLotGoes x)) _ _ s
 refine wpAny_noted ?_;rw[compTurn_list];refine wpAny_bind (wpAny_standAt (wpAny_bind (wpAny_mono (turn n s hI) (λr s₁ h₁=>?_) λ_ _ h'=>h')))
 cases r with
 | none=>exact wpAny_pure h₁
 | some v =>
  refine wpAny_bind (wpAny_mono h₁ (λ_ s₁' h₁'=>?_) λ_ _ h'=>h');refine wpAny_bind (wpAny_mono h₁' (λ_ s₂ h₂=>wpAny_bind (wpAny_mono h₂ (λok s₃ h₃=>?_) λ_ _ h'=>h')) λ_ _ h'=>h')
  cases ok with
  | false=>exact wpAny_pure ⟨rfl,h₃⟩
  | true =>
   exact wpAny_bind (wpAny_bind (wpAny_mono h₃ (λx s₄ h₄=>wpAny_bind (wpAny_mono h₄ (λ_ s₅ h₅=>wpAny_pure (wpAny_pure ⟨rfl,h₅⟩)) λ_ _ h'=>h')) λ_ _ h'=>h'))
def qn8 (nv:Nat) (g:TG):Prop:=∀ x σ H (K:St->Hp->Prop),g x σ H K->g x σ H λσ' H'=>K σ' H'/\σ'.length=σ.length/\∀ i,nv<=i->σ'[i]?=σ[i]?
theorem qgk {nv i:Nat} (h:i<nv):qn8 nv (qiu i):=λx σ H K q=>⟨q,by simp,λj hj=>by rw[List.getElem?_set_ne (by omega)]⟩
theorem qgl {F:Frag} {nv i j:Nat} (hi:i<nv) (hj:j<nv):qn8 nv (qyr F 2 (qo9 (qiu i) (qo9 (qiu j) qyq))):=λx σ H K ⟨a,xs,e,hq,hl,v,r,e1,v2,r2,e2,e3,q⟩ =>
 ⟨a,xs,e,hq,hl,v,r,e1,v2,r2,e2,e3,q,by simp,λk hk=>by rw[List.getElem?_set_ne (by omega),List.getElem?_set_ne (by omega)]⟩
abbrev lobj (us:List Value) (n:Nat):Obj:={ cls:=.type "list",data:=.seq us.toArray n }
theorem quy {Y:Cx} {D it:Addr} {J:It} {fp:List Addr} {tn:Nat->Heap->Prop} {g:TG} {tc:TT} {te:TE} {Q:VK} {W:Nat->Nat->List V->Hp->Prop} {nv n0 m0:Nat} {σc:St} {H:Hp} {s:Shared}
  {elt target iter:Expr} {ifs:List Expr} {scope:Scope} {pos:Pos} {R:Result->Shared->Prop} (hx:Y.xe=λ_ _=>False)
  (hc:Y.calm=true) (hg:PG Y target g) (hk:qn8 nv g) (hi:qv2 Y ifs tc) (he:PE Y elt te) (T:Turn Y.prog Y.w Y.K target J fp it tn)
  (hnv:∀ i,i<nv->∀ v,σc[i]?≠some (some v))
  (d1:D≠Y.env.locals) (d2:D∈Y.ex) (d3:D ∉ Y.fs) (d4:∀ x c,Y.env.cells.lookup x=some c->c≠D) (d5:D ∉ fp) (d6:Y.pn=[])
  (hf:∀ b∈fp,b≠Y.env.locals/\b ∉ Y.fs/\(b∈Y.ex\/Y.s₀.heap.objs.size<=b)/\(∀ x c,Y.env.cells.lookup x=some c->c≠b))
  (I0:Inv Y [(D,lobj [] n0)] σc H s) (st:tn 0 s.heap) (fr:∀ b∈fp,H b=none) (w0:W 0 m0 [] H)
  (turn:∀ i m ys H2,W i m ys H2->(J.stop i H2/\ys.length<=sizeLine/\∀ p,H2 p=none->Q (.ref p) (upd H2 p (.lst ys))) \/
   (J.go i H2/\ys.length<sizeLine/\∃ N:List V->Hp->Prop,(∀ zs H',N zs H'->∃ m',m'<m/\W (i+1) m' zs H')/\∀ x H3,J.yld i H2 x H3->g x σc H3 λσ4 H4=>tc σ4 H4 λb H5=>if b=true then te σ4 H5 λv H6=>N (ys ++ [v]) H6 else N ys H5))
  (hend:∀ ys us n H' s',Inv Y [(D,lobj us n)] σc H' s'->Vals ys us->ys.length<=sizeLine->(∀ p,H' p=none->Q (.ref p) (upd H' p (.lst ys)))->R (.ok .next) s') :
  codeAny (model Y.prog Y.w) Y.A (.compLoop (.ListComp elt [⟨target,iter,ifs,0⟩] scope pos) 0 (.ref it) (.ref D) Y.env) R s:=by
 have fpok:∀ {H':Hp} {o:Obj},(∀ b∈fp,H' b=none)->∀ b∈fp,qmv Y [(D,o)] H' b:=fun {H' o} hn b hb=>by
  obtain ⟨f1,f2,f3,f4⟩:=hf b hb;refine ⟨hn b hb,f1,f2,f3,f4,λp hp=>?_⟩;rw[d6] at hp;have e:p=(D,o):=by simpa using hp
  rw[e];exact λz=>d5 (by rw[show D=b from z];exact hb)
 refine qn7 (λn s'=>∃ i ys us k H',Inv Y [(D,lobj us k)] σc H' s'/\Vals ys us/\tn i s'.heap/\(∀ b∈fp,H' b=none)/\W i n ys H') ?_ m0 ⟨0,[],[],n0,H,I0,.nil,st,fr,w0⟩;rintro n s3 ⟨i,ys,us,k,H3,I3,rv,st3,fr3,w3⟩;have ex0:∀ {E':Value->Shared->Prop} {e:Value} {s':Shared},Y.xe e s'->E' e s':=fun {E' e s'} z=>by rw[hx] at z;exact z.elim
 rcases turn i n ys H3 w3 with ⟨stop,hz,q⟩|⟨go,hz,N,hN,step⟩
 ·refine thn (T.done Y rfl rfl rfl hc i _ s3 σc H3 _ I3 (fpok fr3) st3 stop) λr s4 hq__=>?_
  obtain ⟨hr,I4⟩:=hq__;subst hr;exact hend ys us k H3 s4 I4 rv hz q
 ·refine thn (T.item Y rfl rfl rfl hc i _ s3 σc H3 _ I3 (fpok fr3) st3 go) λr s4 hq__=>?_
  obtain ⟨u,hr,h4⟩:=hq__;subst hr;refine thn h4 λ_ s5 hq__=>?_
  obtain ⟨x,H5,I5,r5,y5,st5,fr5⟩:=hq__;have I5':=I5.pinned (fpok fr5) (T.obj _ _ st5);refine wpAny_mono (hg _ s5 σc H5 x u _ I5' r5 (hk x σc H5 _ (step x H5 y5))) (λ_ s6 hq__=>?_) λ_ _ z=>ex0 z
  obtain ⟨σ6,H6,I6,q6,l6,e6⟩:=hq__;have wk:∀ (i:Nat) v,σc[i]?=some (some v)->σ6[i]?=some (some v):=λi v e=>by
   by_cases h:nv<=i
   ·rw[e6 i h];exact e
   ·exact absurd e (hnv i (by omega) v)
  have back:∀ {o:Obj} {H':Hp} {s':Shared},Inv Y ([(D,o)] ++ qkl fp s5.heap) σ6 H' s'->Inv Y [(D,o)] σc H' s'/\tn (i+1) s'.heap/\∀ b∈fp,H' b=none:=fun {o H' s'} I'=>by
   refine ⟨(I'.unpinned).weak (by rw[<- l6]) wk,T.keep _ _ _ st5 λb hb o e=>(I'.pin (b,o) (List.mem_append_right _ (List.mem_append_right _ (qfj hb e)))).1,λb hb=>?_⟩;obtain ⟨o,e,_⟩:=T.obj _ _ st5 b hb;exact (I'.pin (b,o) (List.mem_append_right _ (List.mem_append_right _ (qfj hb e)))).2.1
  refine wpAny_mono (hi _ s6 σ6 H6 _ I6 q6) (λb s7 hq__=>?_) λ_ _ z=>ex0 z
  obtain ⟨H7,I7,q7⟩:=hq__
  cases b with
  | false =>
   obtain ⟨m',hm,w7⟩:=hN ys H7 q7;obtain ⟨I8,st8,fr8⟩:=back I7;exact ⟨m',hm,i+1,ys,us,k,H7,I8,rv,st8,fr8,w7⟩
  | true =>
   refine wpAny_mono (he _ s7 σ6 H7 _ I7 q7) (λu2 s8 hq__=>?_) λ_ _ z=>ex0 z
   obtain ⟨v,H8,I8,r8,n8⟩:=hq__;obtain ⟨m',hm,w8⟩:=hN _ H8 n8;obtain ⟨I9,st9,fr9⟩:=back I8;obtain ⟨eD,nD,_,_,_⟩:=I9.pin (D,lobj us k) (by simp);have hlen:=rv.length;refine call_meets F.slot_list_append ⟨_,eD,rfl⟩ F.entry_list_append (F.args_list_append_2 _ _) (PySem.list_append D us.toArray k u2 (by rw[List.size_toArray];omega)) ⟨eD,?_⟩;have q:=PySem.IsL.update eD (λx_1=>x_1.push u2);have eq:us.toArray.push u2=(us ++ [u2]).toArray:=by simp
   rw[eq] at q;obtain ⟨n',q⟩:∃ n',(s8.heap.update D (Obj.mapSeq λx_1=>x_1.push u2)).get? D=some (lobj (us ++ [u2]) n'):=⟨_,q⟩;have I10:Inv Y [] σc H8 s8:=I9.pins_of λp hp=>by cases hp
   have I11:Inv Y [] σc H8 { s8 with heap:=s8.heap.update D (Obj.mapSeq λx_1=>x_1.push u2),toks:=s8.toks }:=
    I10.turned (it:=D) (λb o hb e=>(Heap.get?_update_other s8.heap (Obj.mapSeq _) (Ne.symm hb)).trans e) nD d1 (.inl d2) d4 (λp hp=>by rw[d6] at hp;cases hp)
   refine ⟨m',hm,i+1,ys ++ [v],us ++ [u2],n',H8,I11.pins_of (λp hp=>?_),rv.append (.cons r8 .nil),?_,fr9,w8⟩
   ·have e:p=(D,lobj (us ++ [u2]) n'):=by simpa using hp
    subst e;exact ⟨q,nD,d1,d3,λv z=>by have z':Data.seq _ _=Data.cell v:=z;cases z'⟩
   ·refine T.keep _ _ _ st9 λb hb o e=>?_
    exact (Heap.get?_update_other s8.heap (Obj.mapSeq _) (λz=>d5 (by rw[z];exact hb))).trans e
section
variable {X:Cx} {pins:List (Addr×Obj)} {σ:St} {H:Hp} {s:Shared} {scope:Scope} {cl:List (Str×Addr)} {vars frees:List Str} {fv:List Nat} {elt target iter:Expr} {ifs:List Expr} {pos:Pos}
def qwx (X:Cx) (pins:List (Addr×Obj)) (σ:St) (Q:VK) (D C:Addr) (s':Shared):Prop:=
 ∃ (ys:List V) (H':Hp) (oC:Obj) (m:Str->Option Value),Inv X (pins ++ [(C,oC)]) σ (upd H' D (.lst ys)) s'/\s'.heap.Ns C m/\qmv X pins (upd H' D (.lst ys)) C/\Q (.ref D) (upd H' D (.lst ys))
theorem qp0 {J:It} {fp:List Addr} {it:Addr} {tn:Nat->Heap->Prop} {g:TG} {tc:TT} {te:TE} {Q:VK} {W:Nat->Nat->List V->Hp->Prop} {m0:Nat} {E:Value->Shared->Prop} {E2:Value->Addr->Value->Shared->Prop}
  (hc:X.calm=true) (L:qww X scope cl) (fo:FvOk X scope cl frees fv) (hk:qn8 vars.length g)
  (hg:∀ C s H ex,PG (blk X (vars ++ frees) scope cl C s H ex) target g) (hi:∀ C s H ex,qv2 (blk X (vars ++ frees) scope cl C s H ex) ifs tc) (he:∀ C s H ex,PE (blk X (vars ++ frees) scope cl C s H ex) elt te)
  (I:Inv X pins σ H s) (T:Turn X.prog X.w X.K target J fp it tn) (st:tn 0 s.heap) (hf:∀ b∈fp,qmv X pins H b) (w0:W 0 m0 [] H)
  (turn:∀ i m ys H2,W i m ys H2->(J.stop i H2/\ys.length<=sizeLine/\∀ p,H2 p=none->Q (.ref p) (upd H2 p (.lst ys))) \/
   (J.go i H2/\ys.length<sizeLine/\∃ N:List V->Hp->Prop,(∀ zs H',N zs H'->∃ m',m'<m/\W (i+1) m' zs H')/\∀ x H3,J.yld i H2 x H3->g x (lcσ vars.length fv σ) H3 λσ4 H4=>tc σ4 H4 λb H5=>if b=true then te σ4 H5 λv H6=>N (ys ++ [v]) H6 else N ys H5)) :
  wpAny (model X.prog X.w) X.A (newList []) (λacc s₃=>wpAny (model X.prog X.w) X.A (newFunctionEnv scope X.env.globals cl [] X.env.qual none .none (some X.env)) (λcenv s₄ =>
   codeAny (model X.prog X.w) X.A (.compStart (.ListComp elt [⟨target,iter,ifs,0⟩] scope pos) 0 (.ref it) acc { cenv with scope:=relabel scope X.env })
    (λr s'=>match r with|.ok _=>∃ D,acc=.ref D/\qwx X pins σ Q D cenv.locals s'|.error x=>E2 acc cenv.locals x s') s₄) E s₃) E s:=by
 have hoo:∀ b∈fp,∃ o,s.heap.get? b=some o:=λb hb=>let ⟨o,e,_⟩:=T.obj 0 _ st b hb;⟨o,e⟩
 refine wpAny_newObj_type (wpAny_newFunctionEnv L.nocell (by intro y hy;simp at hy) (λh₁ hns hsb=>?_) L.kind);dsimp only at hns hsb ⊢;have hC:(s.heap.push qaq).objs.size=s.heap.objs.size+1:=Heap.size_push ..;have keep1:∀ b o,b≠(s.heap.push qaq).objs.size->(s.heap.push qaq).get? b=some o->h₁.get? b=some o:=λb o hb e=>hsb.extBut b o hb (Heap.get?_push_of_some _ e)
 have I0:Inv (blk X (vars ++ frees) scope cl (s.heap.push qaq).objs.size { s with heap:=s.heap.push qaq } H (s.heap.objs.size :: fp)) [(s.heap.objs.size,qaq)] (lcσ vars.length fv σ) H { s with heap:=h₁,toks:=s.toks+([]:List (Str×Value)).length }:=
  quw I L fo hf hoo (by simpa using hns) keep1
 have st1:tn 0 h₁:=T.keep 0 _ _ st λb hb o e=>keep1 b o (ltS e) (Heap.get?_push_of_some _ e)
 have loop:codeAny (model X.prog X.w) X.A (.compLoop (.ListComp elt [⟨target,iter,ifs,0⟩] scope pos) 0 (.ref it) (.ref s.heap.objs.size) (compEnvC scope cl (s.heap.push qaq).objs.size X.env))
   (λr s'=>match r with|.ok _=>∃ D,Value.ref s.heap.objs.size=.ref D/\qwx X pins σ Q D (s.heap.push qaq).objs.size s'|.error x=>E2 (.ref s.heap.objs.size) (s.heap.push qaq).objs.size x s') { s with heap:=h₁,toks:=s.toks+([]:List (Str×Value)).length }:=by
  refine quy (Y:=blk X (vars ++ frees) scope cl (s.heap.push qaq).objs.size { s with heap:=s.heap.push qaq } H (s.heap.objs.size :: fp)) (nv:=vars.length) (n0:=0) rfl hc (hg _ _ _ _) hk (hi _ _ _ _) (he _ _ _ _) T (λi hi v e=>?_)
   neS (by show s.heap.objs.size∈s.heap.objs.size :: fp;simp) ?_ (λx c e=>?_) (λz=>?_) rfl (λb hb=>?_) I0 st1 (λb hb=>(hf b hb).1) w0 turn ?_
  ·rw[show lcσ vars.length fv σ=List.replicate vars.length none ++ fv.map λj=>(σ[j]?).join from rfl,List.getElem?_append_left (by simpa using hi),List.getElem?_replicate_of_lt (by simpa using hi)] at e
   cases e
  ·exact (I0.pin (s.heap.objs.size,qaq) (by simp)).2.2.2.1
  ·obtain ⟨v,q⟩:=I.cell x c (L.sub x c e)
   exact Nat.ne_of_lt q.lt
  ·obtain ⟨o,e⟩:=hoo _ z
   exact absurd (Heap.lt_size e) (Nat.lt_irrefl _)
  ·exact ⟨(I0.ok.exf b (List.mem_cons_of_mem _ hb)).1,I0.ok.exfs b (List.mem_cons_of_mem _ hb),.inl (List.mem_cons_of_mem _ hb),(I0.ok.exf b (List.mem_cons_of_mem _ hb)).2⟩
  ·intro ys us n H' s' I' rv hz q
   obtain ⟨eD,nD,_,fD,_⟩:=I'.pin (s.heap.objs.size,lobj us n) (by simp);obtain ⟨mC,hnC,_⟩:=I'.loc;obtain ⟨oC,es,ep,eC,dC,r1,r2⟩:=id hnC;have nC:H' (s.heap.push qaq).objs.size=none:=I'.free;have neDC:(s.heap.push qaq).objs.size≠s.heap.objs.size:=neS.symm;have lt:∀ {b:Addr} {o:Obj},s.heap.get? b=some o->b≠s.heap.objs.size/\b≠(s.heap.push qaq).objs.size:=λe=>⟨neZ e,ltS e⟩
   have nex:∀ {b:Addr} {o:Obj},s.heap.get? b=some o->b ∉ fp->b ∉ s.heap.objs.size :: fp:=λe hb z=>by
    rcases List.mem_cons.mp z with z|z
    ·exact (lt e).1 z
    ·exact hb z
   have upn:∀ {b:Addr} {u:HO},H' b=some u->upd H' s.heap.objs.size (.lst ys) b=some u:=λe=>by rw[qa8 (qah e nD)];exact e
   have un:Un (frs X.stack) fp H (upd H' s.heap.objs.size (.lst ys)) s.heap s'.heap:=
    {keep:=λb o e n hb hx=>I'.base.keep b o (Heap.get?_push_of_some _ e) n hb (nex e hx)
     slot:=λb o e n hb hx=>I'.base.slot b o (Heap.get?_push_of_some _ e) n hb (nex e hx)
     free:=λb o e n hx=>by rw[qa8 (lt e).1];exact I'.base.free b o (Heap.get?_push_of_some _ e) n (nex e hx)
     there:=λb o e hx=>I'.base.there b o (Heap.get?_push_of_some _ e) (nex e hx)
     tups:=λb xs e=>upn (I'.base.tups b xs e)
     frzs:=λb o u e=>upn (I'.base.frzs b o u e)
     tbls:=λb ps e=>let ⟨more,z⟩:=I'.base.tbls b ps e;⟨more,upn z⟩ }
   have hok:HOk X.prog X.w (upd H' s.heap.objs.size (.lst ys)) s'.heap:=λb u e=>by
    by_cases hb:b=s.heap.objs.size
    ·subst hb;rw[qbp] at e;cases e
     exact ⟨hz,us,n,rv,eD⟩
    ·rw[qa8 hb] at e
     exact (I'.hok b u e).stay (λc v _ z=>z) (λc z=>upn z) λc xs z=>upn z
   have J1:Inv X pins σ (upd H' s.heap.objs.size (.lst ys)) s':=I.call' (ch:=fp) I'.os un hok I'.bare λb hb=>⟨(hf b hb).2.2.2.1,(hf b hb).2.1,(hf b hb).2.2.2.2.1,(hf b hb).2.2.2.2.2⟩
   have fC:qmv X pins (upd H' s.heap.objs.size (.lst ys)) (s.heap.push qaq).objs.size:=I.fpOk leS (by rw[qa8 neDC];exact nC);refine ⟨_,rfl,ys,H',oC,mC,J1.pins_of (λp hp=>?_),hnC,fC,q _ nD⟩
   rcases List.mem_append.mp hp with z|z
   ·exact J1.pin p (List.mem_append_right _ z)
   ·have e:p=((s.heap.push qaq).objs.size,oC):=by simpa using z
    subst e;exact ⟨eC,fC.1,fC.2.1,fC.2.2.1,λv z=>by rw[dC] at z;cases z⟩
 exact codeAny_compStart_list loop (T.self _ 0 _ _ _ st1 loop)
theorem qky {wi:TI} {g:TG} {tc:TT} {te:TE} (hc:X.calm=true) (L:qww X scope cl) (fo:FvOk X scope cl frees fv) (hit:PI X target iter wi) (hk:qn8 vars.length g)
  (hg:∀ C s H ex,PG (blk X (vars ++ frees) scope cl C s H ex) target g) (hi:∀ C s H ex,qv2 (blk X (vars ++ frees) scope cl C s H ex) ifs tc) (he:∀ C s H ex,PE (blk X (vars ++ frees) scope cl C s H ex) elt te)
  (hs:∀ x,foldedSetIterable iter X.env x=pure x:=by intro _;rfl):PE X (.ListComp elt [⟨target,iter,ifs,0⟩] scope pos) (tLC vars.length fv wi g tc te):=by
 intro pins s σ H Q I h;rw[eval_ListComp];refine wpAny_comprehension_free (use:=none) rfl hs L.clos L.kind L.names (thn (hit pins s σ H _ I h) λv s1 h1=>thn h1 λitv s2 h2=>?_);obtain ⟨it,fp,tn,J,H2,e,I2,T,st2,f2,W,⟨m0,w0⟩,turn⟩:=h2;subst e;refine wpAny_mono (qp0 (E:=X.xe) (E2:=λacc C x s'=>compPost (model X.prog X.w) X.A X.xe none (EP X pins σ Q) acc C (.error x) s') hc L fo hk hg hi he I2 T st2 f2 w0 turn) (λacc s3 h3=>thn h3 λcenv s4 h4=>codeAny_mono h4 λr s' h5=>?_) λ_ _ z=>z
 cases r with
 | error x=>exact h5
 | ok f =>
  obtain ⟨D,rfl,ys,H',oC,m,J1,hn,fC,q⟩:=h5;refine ⟨m,hn,λh' sb=>⟨.ref D,_,?_,rfl,q⟩⟩;exact J1.unpinned.turned (t':=s'.toks) (it:=cenv.locals) (λb o hb e=>(sb.2 b hb).trans e) fC.1 fC.2.1 fC.2.2.2.1 fC.2.2.2.2.1 fC.2.2.2.2.2
theorem qhb {wi:TI} {g:TG} {tc:TT} {te:TE} {i:Nat} {x:Str} {spos pos':Pos} (hN:X.N.Nodup) (hix:X.N[i]?=some x) (hlx:Loc X.env.scope x) (hc:X.calm=true) (L:qww X scope cl) (fo:FvOk X scope cl frees fv) (hit:PI X target iter wi) (hk:qn8 vars.length g)
  (hg:∀ C s H ex,PG (blk X (vars ++ frees) scope cl C s H ex) target g) (hi:∀ C s H ex,qv2 (blk X (vars ++ frees) scope cl C s H ex) ifs tc) (he:∀ C s H ex,PE (blk X (vars ++ frees) scope cl C s H ex) elt te)
  (hsw:swapsWith (.ListComp elt [⟨target,iter,ifs,0⟩] scope pos) (some (.Name x pos')) spos.line X.env=pure true:=by rfl)
  (hs:∀ x,foldedSetIterable iter X.env x=pure x:=by intro _;rfl) (hf:X.fn x=true\/X.env.scope.names.lookup x=some .local:=by first|exact .inl rfl|exact .inr rfl|assumption) :
  PS X (.Assign [.Name x pos'] (.ListComp elt [⟨target,iter,ifs,0⟩] scope pos) spos) (qys (tLC vars.length fv wi g tc te) (qiu i)):=by
 intro pins s σ H Dn I h;rw[exec_Assign_Name_used _ _ _ _ hsw];refine wpAny_bind (wpAny_standAt (wpAny_bind ?_))
 show wpAny _ X.A (do let _ <- comprehension (.ListComp elt [⟨target,iter,ifs,0⟩] scope pos) scope X.env _ (newList []) false (eval iter X.env) (some (assign (.Name x pos') X.env))) _ _ s
 refine wpAny_bind (wpAny_mono (wpAny_comprehension_free (use:=some (assign (.Name x pos') X.env)) (Q:=λ_ s'=>SP X pins Dn .next s') rfl hs L.clos L.kind L.names (thn (hit pins s σ H _ I h) λv s1 h1=>thn h1 λitv s2 h2=>?_)) (λ_ s' hq=>wpAny_pure (wpAny_pure hq)) λ_ _ e=>e);obtain ⟨it,fp,tn,J,H2,e,I2,T,st2,f2,W,⟨m0,w0⟩,turn⟩:=h2;subst e;refine wpAny_mono (qp0 (Q:=λx H1=>qiu i x σ H1 Dn.nx) (E:=X.xe) (E2:=λacc C y s'=>compPost (model X.prog X.w) X.A X.xe (some (assign (.Name x pos') X.env)) (λ_ s'=>SP X pins Dn .next s') acc C (.error y) s') hc L fo hk hg hi he I2 T st2 f2 w0 turn) (λacc s3 h3=>thn h3 λcenv s4 h4=>codeAny_mono h4 λr s' h5=>?_) λ_ _ z=>z
 cases r with
 | error y=>exact h5
 | ok f =>
  obtain ⟨D,rfl,ys,H',oC,m,J1,hn,fC,q⟩:=h5
  show wpAny (model X.prog X.w) X.A (assign (.Name x pos') X.env (.ref D)) (λ_ s''=>∃ m,s''.heap.Ns cenv.locals m/\∀ h',Heap.SameBut cenv.locals s''.heap h'->SP X pins Dn .next { s'' with heap:=h' }) X.xe s'
  refine thn (qas (i:=i) hN hix hlx hf _ s' σ _ (.ref D) (.ref D) (λσ' H''=>Dn.nx σ' H''/\H''=upd H' D (.lst ys)) J1 rfl ⟨q,rfl⟩) λ_ s6 hq__=>?_
  obtain ⟨σ6,H6,I6,q6,e6⟩:=hq__;subst e6;have eC:=(I6.pin (cenv.locals,oC) (by simp)).1;have eC':=(J1.pin (cenv.locals,oC) (by simp)).1;obtain ⟨o,es,ep,ho,r1⟩:=hn;rw[eC'] at ho;cases ho;refine ⟨m,⟨oC,es,ep,eC,r1⟩,λh' sb=>⟨σ6,_,?_,q6⟩⟩;exact I6.unpinned.turned (t':=s6.toks) (it:=cenv.locals) (λb o hb e=>(sb.2 b hb).trans e) fC.1 fC.2.1 fC.2.2.2.1 fC.2.2.2.2.1 fC.2.2.2.2.2
end
open PySem PySem.Spec PyProof.Rows
theorem qp1 {K:Frag} {a:Addr} {xs:List V} {g:TG} {tc:TT} {te:TE} {Q:VK} {σ:St} {H:Hp} (Pv:Nat->List V->Hp->Prop) (hz:xs.length<=sizeLine) (h0:Pv 0 [] H) (hl:∀ i ys H,Pv i ys H->SqL K H a xs/\ys.length<=i)
  (hs:∀ i x ys H,xs[i]?=some x->Pv i ys H->g x σ H λσ4 H4=>tc σ4 H4 λb H5=>if b=true then te σ4 H5 λv H6=>Pv (i+1) (ys ++ [v]) H6 else Pv (i+1) ys H5)
  (hd:∀ ys H p,Pv xs.length ys H->H p=none->Q (.ref p) (upd H p (.lst ys))) :
  qf2 (Itl K a) Q g tc te σ H:=by
 refine ⟨λi m ys H=>m=xs.length-i/\i<=xs.length/\Pv i ys H,⟨xs.length,by simp,Nat.zero_le _,h0⟩,?_⟩;rintro i m ys H2 ⟨rfl,hi,p⟩;obtain ⟨q,hy⟩:=hl i ys H2 p
 by_cases hlt:i<xs.length
 ·refine .inr ⟨⟨xs,xs[i],q,by simp[hlt]⟩,by omega,Pv (i+1),λzs H' p'=>⟨xs.length-(i+1),by omega,rfl,hlt,p'⟩,λx H3 y=>?_⟩
  obtain ⟨e,y⟩:=y;subst e;exact hs i x ys _ (y xs q) p
 ·have e:i=xs.length:=by omega
  subst e;exact .inl ⟨⟨xs,q,Nat.le_refl _⟩,by omega,λp' hp'=>hd ys H2 p' p hp'⟩
theorem qsm {lo:Int} {n:Nat} {g:TG} {tc:TT} {te:TE} {Q:VK} {σ:St} {H:Hp} (Pv:Nat->List V->Hp->Prop) (hz:n<=sizeLine) (h0:Pv 0 [] H) (hl:∀ i ys H,Pv i ys H->ys.length<=i)
  (hs:∀ i ys H,i<n->Pv i ys H->g (.int (lo+i)) σ H λσ4 H4=>tc σ4 H4 λb H5=>if b=true then te σ4 H5 λv H6=>Pv (i+1) (ys ++ [v]) H6 else Pv (i+1) ys H5)
  (hd:∀ ys H p,Pv n ys H->H p=none->Q (.ref p) (upd H p (.lst ys))) :
  qf2 (Itr lo n) Q g tc te σ H:=by
 refine ⟨λi m ys H=>m=n-i/\i<=n/\Pv i ys H,⟨n,by simp,Nat.zero_le _,h0⟩,?_⟩;rintro i m ys H2 ⟨rfl,hi,p⟩;have hy:=hl i ys H2 p
 by_cases hlt:i<n
 ·refine .inr ⟨hlt,by omega,Pv (i+1),λzs H' p'=>⟨n-(i+1),by omega,rfl,hlt,p'⟩,λx H3 y=>?_⟩
  obtain ⟨e,y⟩:=y;subst e y;exact hs i ys _ hlt p
 ·have e:i=n:=by omega
  subst e;exact .inl ⟨Nat.le_refl _,by omega,λp' hp'=>hd ys H2 p' p hp'⟩
theorem qtn {K:Frag} {a b:Addr} {xs ys:List V} {g:TG} {tc:TT} {te:TE} {Q:VK} {σ:St} {H:Hp} (Pv:Nat->List V->Hp->Prop) (hz:xs.length<=sizeLine) (h0:Pv 0 [] H) (hl:∀ i zs H,Pv i zs H->SqL K H a xs/\SqL K H b ys/\zs.length<=i)
  (hs:∀ i x y zs H p,xs[i]?=some x->ys[i]?=some y->H p=none->Pv i zs H->g (.ref p) σ (upd H p (.tup [x,y])) λσ4 H4=>tc σ4 H4 λb H5=>if b=true then te σ4 H5 λv H6=>Pv (i+1) (zs ++ [v]) H6 else Pv (i+1) zs H5)
  (hd:∀ i zs H p,i=min xs.length ys.length->Pv i zs H->H p=none->Q (.ref p) (upd H p (.lst zs))) :
  qf2 (Itz K a b) Q g tc te σ H:=by
 refine ⟨λi m zs H=>m=min xs.length ys.length-i/\i<=min xs.length ys.length/\Pv i zs H,⟨min xs.length ys.length,by simp,Nat.zero_le _,h0⟩,?_⟩;rintro i m zs H2 ⟨rfl,hi,p⟩;obtain ⟨qa,qb,hy⟩:=hl i zs H2 p
 by_cases hlt:i<min xs.length ys.length
 ·have ha:i<xs.length:=by omega
  have hb:i<ys.length:=by omega
  refine .inr ⟨⟨xs,ys,xs[i],ys[i],qa,qb,by simp[ha],by simp[hb]⟩,by omega,Pv (i+1),λzs H' p'=>⟨min xs.length ys.length-(i+1),by omega,rfl,hlt,p'⟩,λx H3 y=>?_⟩;obtain ⟨t,rfl,ht,y⟩:=y;have ea:xs[i]?=some xs[i]:=by simp[ha]
  have eb:ys[i]?=some ys[i]:=by simp[hb]
  rw[y xs ys xs[i] ys[i] qa qb ea eb];exact hs i xs[i] ys[i] zs H2 t ea eb ht p
 ·exact .inl ⟨⟨xs,ys,qa,qb,by omega⟩,by omega,λp' hp'=>hd i zs H2 p' (by omega) p hp'⟩
open PySem PySem.Spec PyProof.Rows
structure New (H H':Hp) (p:Addr) (o:HO):Prop where
 same:Same H H'
 fresh:H p=none
 at_:H' p=some o
theorem qbj {H:Hp} {p:Addr} {o:HO} (h:H p=none):New H (upd H p o) p o:=⟨qjv h,h,qbp⟩
def But (l:Addr) (H H':Hp):Prop:=∀ b o,H b=some o->b≠l->H' b=some o
theorem qcm {H:Hp} {l:Addr} {o:HO}:But l H (upd H l o):=λb u e n=>by rw[qa8 n];exact e
theorem But.same {H0 H H':Hp} {l:Addr} (b:But l H H') (s:Same H0 H) (h:H0 l=none):Same H0 H':=λc o e=>b c o (s c o e) (qah e h)
theorem But.tup {H H':Hp} {l:Addr} {o:HO} (b:But l H H') (h:H l=some o) (n:∀ xs,o≠.tup xs):∀ c xs,H c=some (.tup xs)->H' c=some (.tup xs):=λc xs e=>b c _ e (qa1 e h (λz=>n xs z.symm))
section
variable {X:Cx} {e:Expr} {es:List Expr} {te:TE} {t:TA} {pos:Pos}
def qy7 (t:TA):TE:=λσ H Q=>t σ H λxs H1=>xs.length<=sizeLine/\∀ p H',New H1 H' p (.tup xs)->Q (.ref p) H'
def qwy (t:TA):TE:=λσ H Q=>t σ H λxs H1=>xs.length<=sizeLine/\∀ p H',New H1 H' p (.lst xs)->Q (.ref p) H'
theorem qb0 {x1} (h:PA X es t):PE X (.Tuple es x1 pos) (qy7 t):=by
 intro pins s σ H Q I hq;refine wpAny_Tuple_spliced (thn (h pos pins s σ H _ I hq) λus s1 ⟨xs,H1,I1,r,z,q⟩=>⟨by rw[<- r.length];exact z,?_⟩);have hf:H1 s1.heap.objs.size=none:=I1.hok.fresh (Nat.le_refl _);refine ⟨.ref s1.heap.objs.size,upd H1 s1.heap.objs.size (.tup xs),I1.laid (t':=s1.toks) (λb u e=>Heap.get?_push_of_some _ e) (Nat.le_refl _) ?_,rfl,q _ _ (qbj hf)⟩;exact ⟨z,us,r,⟨_,Heap.get?_push_size _ rfl,rfl,_,rfl⟩⟩
theorem qc9 (h:PA X es t):PE X (.List es pos) (qwy t):=by
 intro pins s σ H Q I hq;refine wpAny_List_spliced (thn (h pos pins s σ H _ I hq) λus s1 ⟨xs,H1,I1,r,z,q⟩=>⟨by rw[<- r.length];exact z,?_⟩);have hf:H1 s1.heap.objs.size=none:=I1.hok.fresh (Nat.le_refl _);refine ⟨.ref s1.heap.objs.size,upd H1 s1.heap.objs.size (.lst xs),I1.laid (t':=s1.toks) (λb u e=>Heap.get?_push_of_some _ e) (Nat.le_refl _) ?_,rfl,q _ _ (qbj hf)⟩;exact ⟨z,us,0,r,Heap.get?_push_size _ rfl⟩
theorem CallR.imp {f:Value} {r r':List V->Hp->VK->Prop} (h:CallR X f r) (i:∀ xs H Q,r' xs H Q->r xs H Q):CallR X f r':=λpins s σ H xs us Q I v q=>h pins s σ H xs us Q I v (i xs H Q q)
theorem OpR.imp {f:Value->Value->Sem Value} {r r':R2} (h:OpR X f r) (i:∀ x y H Q,r' x y H Q->r x y H Q):OpR X f r':=λpins s σ H x y v u Q I rx ry q=>h pins s σ H x y v u Q I rx ry (i x y H Q q)
theorem MtM.imp {id:String} {r r':V->List V->Hp->VK->Prop} (h:MtM X id r) (i:∀ x xs H Q,r' x xs H Q->r x xs H Q):MtM X id r':=λpins s σ H x xs v us Q I rx rv q=>h pins s σ H x xs v us Q I rx rv (i x xs H Q q)
theorem qea:CallR X (.type "list") (λxs H Q=>∃ p ys,xs=[.ref p]/\(SqL X.K H p ys\/SqT X.K H p ys)/\∀ l H',New H H' l (.lst ys)->Q (.ref l) H'):=
 call_list_of.imp λ_ _ _ ⟨p,ys,e,h,q⟩=>⟨p,ys,e,h,λl hl=>q l _ (qbj hl)⟩
inductive rSlLNS (K:Frag) (x:V) (lo hi:Option Int) (H:Hp) (Q:VK):Prop
 | mk:∀ a xs,x=.ref a->SqL K H a xs->(∀ p H',New H H' p (.lst (qmy xs lo hi))->Q (.ref p) H')->rSlLNS K x lo hi H Q
def qy8 (K:Frag):V->Option Int->Option Int->Hp->VK->Prop:=λx lo hi H Q=>rSlLNS K x lo hi H Q
theorem qm2:SlR X (qy8 X.K):=λpins s σ H x v vl vu lo hi sl Q I rx hs p1 p2 ⟨a,xs,e,h,q⟩=>qup pins s σ H x v vl vu lo hi sl Q I rx hs p1 p2 ⟨a,xs,e,h,λp hp=>q p _ (qbj hp)⟩
inductive qto  (x y:V) (H:Hp) (Q:VK):Prop
 | mk:∀ l b xs zs,x=.ref l->y=.ref b->H l=some (.lst xs)->H b=some (.lst zs)->xs.length+zs.length<=sizeLine->(∀ p H',New H H' p (.lst (xs ++ zs))->Q (.ref p) H')->qto x y H Q
def qy9:R2:=λx y H Q=>qto x y H Q
theorem quz:OpR X (binaryOp .Add) qy9:=op_cat.imp λ_ _ _ _ ⟨l,b,xs,zs,e1,e2,h1,h2,z,q⟩=>⟨l,b,xs,zs,e1,e2,h1,h2,z,λp hp=>q p _ (qbj hp)⟩
inductive rAppendNS  (x:V) (vs:List V) (H:Hp) (Q:VK):Prop
 | mk:∀ l xs y,x=.ref l->vs=[y]->H l=some (.lst xs)->xs.length<sizeLine->(∀ H',But l H H'->H' l=some (.lst (xs ++ [y]))->Q .non H')->rAppendNS x vs H Q
def qsn:V->List V->Hp->VK->Prop:=λx vs H Q=>rAppendNS x vs H Q
theorem qgm:MtM X "list.append" qsn:=mt_append.imp λ_ _ _ _ ⟨l,xs,y,e1,e2,h,z,q⟩=>⟨l,xs,y,e1,e2,h,z,q _ qcm qbp⟩
end
section
variable {X:Cx} {k:Nat} {C:Addr} {ps:List Str} {sp:Sp} {dvs:List V} {ds:List Value} {x f:Str} {p pos pos':Pos} {e o value:Expr} {es:List Expr} {ta tv:TE} {t:TA}
def qwz (C:Addr) (sp:Sp) (dvs:List V) (E:XK) (t:TA):TE:=λσ H Q=>t σ H λvs H1=>∀ x dx H',Same H1 H'->H1 x=none->H' x=some (.ins C dx [])->sp (.ref x :: (vs ++ dvs)) H' (λv H2=>v=.non/\Q (.ref x) H2) E
theorem qm3 (D:qyg X.prog X.w X.K X.mg X.base C k x ps ds sp) (hr:Room (k+1) X.A) (hg:Gl X x) (hd:Vals dvs ds) (ha:PA X (e :: es) t) (hdb:(x == ("__debug__" : Str))=false:=by decide)
  (he:starEach (e :: es) X.env=(false,eval e X.env) :: starEach es X.env:=by rfl) (hpl:(backTo pos (starEach es X.env)).any (·.1)=false:=by rfl):PE X (.Call (.Name x p) (e :: es) [] pos) (qwz C sp dvs E0 t):=by
 obtain ⟨f,fd,F,hm,M,hb⟩:=D;intro pins s σ H Q I h;refine wpAny_Call_Name_kw (qgd I hg hm ?_ hdb);refine PySem.W.callWith_K (h₀:=X.base) I.ok.mod.kin M.kp (thn (ha pos pins s σ H _ I h) λus s1 ⟨vs,H1,I1,r,q⟩=>⟨I1.kIn,?_⟩) he hpl;refine qr4 M F hr hb hd qsf I1 r λy dx h1 h2 h3=>q y dx _ ?_ h1 qbp
 exact (qjv h2).trans (qjv (by rw[qa8 h3.symm];exact h1))
def qza (K:Frag) (ta tv:TE) (f:Str):TS:=λD σ H=>tv σ H λy H1=>ta σ H1 λx H2=>∃ a C dx fs,x=.ref a/\H2 a=some (.ins C dx fs)/\Cls K C/\NoAttr K C f/\fs.length<1000 /\
 ∀ H',But a H2 H'->H' a=some (.ins C dx (qfz f y fs))->D.nx σ H'
theorem qcn (ha:PE X o ta) (hv:PE X value tv) (hs:swapsWith value (some (.Attribute o f pos')) pos.line X.env=pure false):PS X (.Assign [.Attribute o f pos'] value pos) (qza X.K ta tv f):=by
 intro pins s σ H D I h;refine plainObj_wpAny_Assign_Attribute (thn (hv pins s σ H _ I h) λu s1 ⟨y,H1,I1,ry,q⟩=>thn (ha pins s1 σ H1 _ I1 q) λov s2 hq__=>?_) hs;obtain ⟨x,H2,I2,rx,a,C,dx,fs,ex,ea,c,n,l,q2⟩:=hq__;subst ex;obtain rfl:ov=Value.ref a:=rx;exact qn2 I2 ea c n l ry λs3 I3=>⟨σ,_,I3,q2 _ qcm qbp⟩
end
theorem qso {K:Frag} {a b:Addr} {xs ys:List V} {g:TG} {tb:TS} {D:Ends} {σ:St} {H:Hp} (Pv:Nat->St->Hp->Prop) (h0:Pv 0 σ H) (hl:∀ i σ H,Pv i σ H->SqL K H a xs/\SqL K H b ys)
  (hs:∀ i x y σ H p H',xs[i]?=some x->ys[i]?=some y->New H H' p (.tup [x,y])->Pv i σ H->g (.ref p) σ H' λσ2 H2=>tb { D with nx:=Pv (i+1),ct:=Pv (i+1),bk:=D.nx } σ2 H2)
  (hd:∀ i σ H,i=min xs.length ys.length->Pv i σ H->D.nx σ H) :
  ∃ W:Nat->Nat->St->Hp->Prop,(∃ m,W 0 m σ H)/\∀ i m σ H,W i m σ H ->
   ((Itz K a b).stop i H/\D.nx σ H)\/((Itz K a b).go i H/\∃ N:St->Hp->Prop,(∀ σ' H',N σ' H'->∃ m',m'<m/\W (i+1) m' σ' H')/\∀ x H',(Itz K a b).yld i H x H'->g x σ H' λσ2 H2=>tb { D with nx:=N,ct:=N,bk:=D.nx } σ2 H2):=
 quv Pv h0 hl (λi x y σ H p e1 e2 hn p'=>hs i x y σ H p _ e1 e2 (qbj hn) p') hd
theorem qo2 {X:Cx} {scope:Scope} {cl:List (Str×Addr)} (clos:closureFor scope X.env=pure cl) (kind:scope.kind=.function) (nocell:∀ y∈scope.names,y.2≠.cell)
  (names:∀ y∈scope.names,y.2=.local->scope.names.lookup y.1=some .local) (sub:∀ p∈cl,X.env.cells.lookup p.1=some p.2)
  (has:((relabel scope X.env).names.all λy=>(y.2 != .cell && y.2 != .free) || (cl.lookup y.1).isSome)=true):qww X scope cl:=by
 refine ⟨clos,kind,nocell,names,λx c e=>?_,λx h=>?_⟩
 ·have:∀ l:List (Str×Addr),l.lookup x=some c->(x,c)∈l:=λl=>by
   induction l with
   | nil=>intro z;simp at z
   | cons p r ih =>
    intro z;obtain ⟨y,d⟩:=p;rw[List.lookup_cons] at z
    by_cases q:(x == y)=true
    ·rw[q] at z
     have e1:x=y:=by simpa using q
     have e2:d=c:=Option.some.inj z;subst e1 e2;exact List.mem_cons_self
    ·have q':(x == y)=false:=by simpa using q
     rw[q'] at z;exact List.mem_cons_of_mem _ (ih z)
  exact sub (x,c) (this cl e)
 ·have:∀ (l:List (Str×NameKind)) (k:NameKind),l.lookup x=some k->(x,k)∈l:=λl k=>by
   induction l with
   | nil=>intro z;simp at z
   | cons p r ih =>
    intro z;obtain ⟨y,d⟩:=p;rw[List.lookup_cons] at z
    by_cases q:(x == y)=true
    ·rw[q] at z
     have e1:x=y:=by simpa using q
     have e2:d=k:=Option.some.inj z;subst e1 e2;exact List.mem_cons_self
    ·have q':(x == y)=false:=by simpa using q
     rw[q'] at z;exact List.mem_cons_of_mem _ (ih z)
  rw[List.all_eq_true] at has
  cases e:cl.lookup x with
  | some c=>exact ⟨c,rfl⟩
  | none =>
   rcases h with h|h
   ·have:=has _ (this _ _ h)
    rw[e] at this
    simp at this
   ·have:=has _ (this _ _ h)
    rw[e] at this
    simp at this
open PySem PySem.Spec PyProof.Rows
section
variable {X:Cx}
theorem qm4 (hc:X.calm=true):CallR X (.builtin "sum") (λxs H Q=>∃ (p:Addr) (ns:List Int),xs=[.ref p]/\SqL X.K H p (ns.map V.int)/\Q (.int ns.sum) H):=by
 intro pins s σ H xs us Q I r h;obtain ⟨p,ns,rfl,hq,q⟩:=h;obtain ⟨u,rfl,ru⟩:=vals1 r
 cases (show u=Value.ref p from ru)
 obtain ⟨its,rv,pl,hz⟩:=I.list hq;have hi:IntsAre its ns:=L2.intsAre_of rv;have hn:=hi.numsOf;obtain ⟨ys,e⟩:=hi.allInts.items;have hl:=pl.isList;rw[e] at hl;refine sum_intListG (I.ok.hd hc) hl λh' tk t' hk=>⟨.int ns.sum,H,I.kept hk,⟨t',?_⟩,q⟩
 have e3:its=(intItems ys).toList:=by rw[<- e]
 rw[e3,nums_intItems] at hn;rw[preSum_eq,List.take_of_length_le (by simp),hn]
end
open PySem PySem.Spec PyProof.Rows
def FlT (h:Heap) (e T:Addr) (cls:Value) (dd:Option Addr) (fl:Value):Prop:=
 ∃ oe vs oT ts,h.get? e=some oe/\oe.cls=cls/\oe.dict=dd/\oe.data=.fields vs/\vs[1]?=some (.ref T)/\T≠e/\h.get? T=some oT/\oT.data=.fields ts/\ts[3]?=some fl
def Fl0 (h:Heap) (e:Addr) (cls:Value) (dd:Option Addr):Prop:=
 ∃ oe vs,h.get? e=some oe/\oe.cls=cls/\oe.dict=dd/\oe.data=.fields vs/\vs[1]?=some .none
def FpX (X:Cx) (H:Hp) (b:Addr):Prop:=
 H b=none/\b≠X.env.locals/\b ∉ X.fs/\X.s₀.heap.get? b=none/\(∀ x c,X.env.cells.lookup x=some c->c≠b)/\∀ p∈X.pn,p.1≠b
def Fly (X:Cx) (H:Hp) (h:Heap) (e:Addr) (cls:Value) (dd:Option Addr):Prop:=
 FpX X H e/\(Fl0 h e cls dd\/∃ T fl,FpX X H T/\FlT h e T cls dd fl)
abbrev XW:=Value->Option Addr->St->Hp->Prop
def XE (X:Cx) (W:XW) (ev:Value) (s:Shared):Prop:=
 ∃ e cls dd σ H,ev=.ref e/\Inv X [] σ H s/\Fly X H s.heap e cls dd/\W cls dd σ H
def qjw (X:Cx):Prop:=X.stack=X.env :: X.outer/\X.env.frame=some X.env.locals/\X.ex=[]
section
variable {X:Cx} {σ:St} {H:Hp} {s:Shared} {h':Heap} {M:Model} {A:Around} {E:Value->Shared->Prop} {e T:Addr} {cls fl:Value} {dd:Option Addr}
theorem ObjOk.there {P:Program} {w:World} {H:Hp} {h:Heap} {a:Addr} {o:HO} (x:ObjOk P w H h a o):∃ u,h.get? a=some u:=by
 induction o with
 | lst xs=>obtain ⟨_,_,_,_,e⟩:=x;exact ⟨_,e⟩
 | tup xs=>obtain ⟨_,_,_,u,e,_⟩:=x;exact ⟨u,e⟩
 | dK kvs=>obtain ⟨_,_,_,_,u,_,_,e,_⟩:=x;exact ⟨u,e⟩
 | dT kvs=>obtain ⟨_,_,_,_,u,_,_,e,_⟩:=x;exact ⟨u,e⟩
 | set S n=>obtain ⟨u,_,_,_,e,_⟩:=x;exact ⟨u,e⟩
 | ins C dx fs=>obtain ⟨_,_,_,e,_⟩:=x;exact ⟨_,e⟩
 | own y=>exact x
 | xd fs=>obtain ⟨_,⟨u,_,_,e,_⟩,_⟩:=x;exact ⟨u,e⟩
 | met f y=>exact ⟨_,x⟩
 | rng lo hi=>obtain ⟨_,_,_,e⟩:=x;exact ⟨_,e⟩
 | frz u v _=>obtain ⟨e,_⟩:=x;exact ⟨_,e⟩
 | tbl ps=>exact ⟨_,x⟩
 | ext φ=>exact x.2.1
theorem Inv.fpX {H':Hp} {pins:List (Addr×Obj)} (hs:qjw X) (I:Inv X pins σ H s) (hb:s.heap.get? e=none) (hn:H' e=none):FpX X H' e:=by
 refine ⟨hn,λz=>?_,λz=>?_,?_,λx c q z=>?_,λp hp z=>?_⟩
 ·obtain ⟨m,⟨o,_,_,ho,_⟩,_⟩:=I.loc
  rw[<- z,hb] at ho;cases ho
 ·obtain ⟨_,o,ho,_⟩:=I.funs.mem z
  rw[hb] at ho;cases ho
 ·cases q:X.s₀.heap.get? e with
  | none=>rfl
  | some o =>
   obtain ⟨o',ho'⟩:=I.base.there e o q (by rw[hs.2.2];simp);rw[hb] at ho';cases ho'
 ·obtain ⟨v,o,ho,_⟩:=I.cell x c q
  rw[z,hb] at ho;cases ho
 ·have:=(I.pin p (List.mem_append_left _ hp)).1
  rw[z,hb] at this;cases this
theorem Inv.noneOf {pins:List (Addr×Obj)} (I:Inv X pins σ H s) (hb:s.heap.get? e=none):H e=none:=by
 cases q:H e with
 | none=>rfl
 | some o =>
  obtain ⟨u,hu⟩:=(I.hok e o q).there;rw[hb] at hu;cases hu
theorem Inv.turnR {H':Hp} {t':Nat} {ch:List Addr} (I:Inv X [] σ H s) (hf:∀ b∈ch,FpX X H b) (k:∀ b u,b ∉ ch->b ∉ frs X.stack->s.heap.get? b=some u->h'.get? b=some u)
  (k2:∀ b u,b ∉ ch->s.heap.get? b=some u->∃ sl,h'.get? b=some { u with slots:=sl }) (hH:∀ b,b ∉ ch->H' b=H b) (hok:HOk X.prog X.w H' h'):Inv X [] σ H' { s with heap:=h',toks:=t' }:=by
 have sup:∀ b o,H b=some o->H' b=some o:=λb o q=>by rw[hH b (λz=>by rw[(hf b z).1] at q;cases q)];exact q
 have nosl:∀ b,b≠X.env.locals->b ∉ X.fs->b ∉ frs X.stack:=λb h1 h2 z=>(List.mem_cons.mp (I.stkSub b z)).elim h1 h2
 have neL:∀ b o,X.s₀.heap.get? b=some o->b≠X.env.locals:=λb o q=>Nat.ne_of_lt (Nat.lt_of_lt_of_le (Heap.lt_size q) I.ok.above)
 have neC:∀ b o,X.s₀.heap.get? b=some o->b ∉ ch:=λb o q hb=>by rw[(hf b hb).2.2.2.1] at q;cases q
 have cellK:∀ x c,X.env.cells.lookup x=some c->∀ v,s.heap.IsCell c v->h'.IsCell c v:=λx c q v ⟨o,ho,hd⟩=>by
  obtain ⟨sl,q'⟩:=k2 c o (λz=>(hf c z).2.2.2.2.1 x c q rfl) ho;exact ⟨_,q',hd⟩
 refine ⟨I.ok,I.os,I.bare,⟨λb o q n hb hx=>?_,λb o q n hb hx=>?_,λb o q n hx=>?_,λb o q hx=>?_,λb xs q=>sup _ _ (I.base.tups b xs q),λb o xs q=>sup _ _ (I.base.frzs b o xs q),λb ps q=>?_⟩,?_,λx c q=>?_,?_,λx c q=>?_,λp hp=>?_,hok,I.len⟩
 ·exact k b o (neC b o q) (nosl b (neL b o q) hb) (I.base.keep b o q n hb hx)
 ·obtain ⟨sl,e1⟩:=I.base.slot b o q n hb hx
  obtain ⟨sl',e2⟩:=k2 b _ (neC b o q) e1;exact ⟨sl',e2⟩
 ·rw[hH b (neC b o q)]
  exact I.base.free b o q n hx
 ·obtain ⟨o',e1⟩:=I.base.there b o q hx
  obtain ⟨sl',e2⟩:=k2 b _ (neC b o q) e1;exact ⟨_,e2⟩
 ·obtain ⟨m1,e1⟩:=I.base.tbls b ps q
  exact ⟨m1,sup _ _ e1⟩
 ·obtain ⟨m,hn,hl⟩:=I.loc
  refine ⟨m,?_,λi x v e1 e2 e3=>?_⟩
  ·obtain ⟨o,es,ep,ho,r⟩:=hn
   obtain ⟨sl,q⟩:=k2 _ o (λz=>(hf _ z).2.1 rfl) ho;exact ⟨_,es,ep,q,r⟩
  ·obtain ⟨u,r,l⟩:=hl i x v e1 e2 e3
   refine ⟨u,r,?_⟩
   rcases l with l|⟨kk,c,q,z⟩
   ·exact .inl l
   ·exact .inr ⟨kk,c,q,cellK x c q _ z⟩
 ·obtain ⟨v,z⟩:=I.cell x c q
  exact ⟨v,cellK x c q v z⟩
 ·rw[hH _ (λz=>(hf _ z).2.1 rfl)];exact I.free
 ·rw[hH _ (λz=>(hf _ z).2.2.2.2.1 x c q rfl)];exact I.freeC x c q
 ·obtain ⟨q,n,ne,nf,d⟩:=I.pin p hp
  have hp':p∈X.pn:=by
   have:p∈X.pn ++ ([]:List (Addr×Obj)):=hp
   simpa using this
  have nch:p.1 ∉ ch:=λz=>(hf p.1 z).2.2.2.2.2 p hp' rfl
  exact ⟨k p.1 p.2 nch (nosl p.1 ne nf) q,by rw[hH _ nch];exact n,ne,nf,d⟩
theorem Inv.turnS {t':Nat} {ch:List Addr} (I:Inv X [] σ H s) (hf:∀ b∈ch,FpX X H b) (k:∀ b u,b ∉ ch->b ∉ frs X.stack->s.heap.get? b=some u->h'.get? b=some u)
  (k2:∀ b u,b ∉ ch->s.heap.get? b=some u->∃ sl,h'.get? b=some { u with slots:=sl }):Inv X [] σ H { s with heap:=h',toks:=t' }:=by
 have nch:∀ b u,H b=some u->b ∉ ch:=λb u e z=>by rw[(hf b z).1] at e;cases e
 have nst:∀ b u,H b=some u->b ∉ frs X.stack:=λb u e z=>by rw[I.stkFree b z] at e;cases e
 refine I.turnR hf k k2 (λ_ _=>rfl) λb u e=>?_
 refine (I.hok b u e).stay (λc v hc q=>?_) (λ_ q=>q) λ_ _ q=>q
 rcases hc with z|z
 ·subst z;exact k _ v (nch _ u e) (nst _ u e) q
 ·exact k c v (nch c _ z) (nst c _ z) q
theorem Inv.track {o:HO} (I:Inv X [] σ H s) (hf:FpX X H e) (ok:ObjOk X.prog X.w (upd H e o) s.heap e o):Inv X [] σ (upd H e o) s:=by
 refine I.turnR (h':=s.heap) (t':=s.toks) (ch:=[e]) (λb hb=>by rw[List.mem_singleton.mp hb];exact hf) (λ_ _ _ _ q=>q) (λb u _ q=>⟨u.slots,q⟩) (λb hb=>qa8 (λz=>hb (by simp[z]))) λb u q=>?_
 by_cases hb:b=e
 ·subst hb;rw[qbp] at q;cases q;exact ok
 ·rw[qa8 hb] at q
  exact (I.hok b u q).stay (λ_ _ _ q=>q) (λc q=>by rw[qa8 (qah q hf.1)];exact q) λc xs q=>by rw[qa8 (qah q hf.1)];exact q
theorem qm5 {oe:Obj} {vs:Array Value} {head:Value} {hadNext:Bool} {Q:Unit->Shared->Prop} (hs:qjw X) (hA:A.frames=some X.stack) (I:Inv X [] σ H s) (hp:FpX X H e)
  (he:s.heap.get? e=some oe) (hc:oe.cls=cls) (hdd:oe.dict=dd) (hd:oe.data=.fields vs) (hsz:1<vs.size)
  (k:∀ h' T,Inv X [] σ H { s with heap:=h' }->FpX X H T->FlT h' e T cls dd (rawInt X.env.locals)->Q () { s with heap:=h' }) :
  wpAny M A (do let a <- frameOf X.env;let pl <- entryPlaceOf X.env.locals hadNext;let b <- EntryCells.newEntry head a .none (rawInt X.env.locals) .none pl;setField (.ref e) 1 b) Q E s:=by
 have hs0:=hs;obtain ⟨hst,hfr,_⟩:=hs;have hl:=I.stack;rw[hst] at hl hA;have hene:e ∉ frs X.stack:=λhm=>by
  rcases List.mem_cons.mp (I.stkSub e hm) with z|z
  ·exact hp.2.1 z
  ·exact hp.2.2.1 z
 refine wpAny_bind (wpAny_frameOf_fun hA hl hfr λh₁ hs₁=>?_);refine wpAny_bind (wpAny_entryPlaceOf λpl hpl=>?_);unfold EntryCells.newEntry newFields;refine wpAny_bind (wpAny_newObj_type ?_ (hpl.sizeOk5 _ _ _ _ _));have S:(X.env :: X.outer).filterMap (·.frame)=frs X.stack:=by rw[hst];rfl
 rw[S] at hs₁;have he₁:h₁.get? e=some oe:=(hs₁.2.1 e hene).trans he
 generalize hob:({ cls:=.type "traceback",dict:=none,data:=.fields ([head,.ref X.env.locals,.none,rawInt X.env.locals,.none] ++ (if pl.isEmpty then List.replicate 6 Value.none else pl)).toArray }:Obj)=ob
 have hobd:ob.data=.fields ([head,.ref X.env.locals,.none,rawInt X.env.locals,.none] ++ (if pl.isEmpty then List.replicate 6 Value.none else pl)).toArray:=by rw[<- hob]
 have he₂:=Heap.get?_push_of_some (h:=h₁) ob he₁;refine wpAny_setField he₂ hd hsz ?_;have hTe:h₁.objs.size≠e:=Nat.ne_of_gt (Heap.lt_size he₁);have hd₃:=Obj.data_mapFields hd (·.setIfInBounds 1 (Value.ref h₁.objs.size));have he₃:=Heap.get?_update_self (Obj.mapFields (·.setIfInBounds 1 (Value.ref h₁.objs.size))) he₂ (Obj.isFreed_of_fields hd₃);have hT₃:=(Heap.get?_update_other (h₁.push ob) (Obj.mapFields (·.setIfInBounds 1 (Value.ref h₁.objs.size))) (Ne.symm hTe)).trans (Heap.get?_push_size h₁ (by rw[<- hob];rfl));have kk:∀ b o,b≠e->h₁.get? b=some o->((h₁.push ob).update e (Obj.mapFields (·.setIfInBounds 1 (Value.ref h₁.objs.size)))).get? b=some o:=λb o hb q=>by
  rw[Heap.get?_update_other _ _ (Ne.symm hb)];exact Heap.get?_push_of_some _ q
 refine k _ h₁.objs.size (I.turnS (t':=s.toks) (ch:=[e]) (λb hb=>by rw[List.mem_singleton.mp hb];exact hp) (λb u hb hn q=>?_) λb u hb q=>?_) (I.fpX hs0 (by rw[hs₁.1];exact Heap.get?_none_of_le (Nat.le_refl _)) (I.hok.fresh (by rw[hs₁.1];exact Nat.le_refl _))) ?_
 ·exact kk b u (λz=>hb (by simp[z])) ((hs₁.2.1 b hn).trans q)
 ·obtain ⟨sl,q'⟩:=hs₁.2.2 b u q
  exact ⟨sl,kk b _ (λz=>hb (by simp[z])) q'⟩
 ·refine ⟨_,_,_,_,he₃,(Obj.cls_mapFields _ _).trans hc,?_,hd₃,by simp[hsz],hTe,hT₃,hobd,by simp⟩
  rw[<- hdd];obtain ⟨c9,d9,dt9,sl9⟩:=oe
  cases dt9<;>rfl
theorem qp2 {Q:Unit->Shared->Prop} (hs:qjw X) (hA:A.frames=some X.stack) (I:Inv X [] σ H s) (F:Fly X H s.heap e cls dd)
  (k:∀ h' T,Inv X [] σ H { s with heap:=h' }->FpX X H T->FlT h' e T cls dd (rawInt X.env.locals)->Q () { s with heap:=h' }):wpAny M A (noteFrame (.ref e) X.env) Q E s:=by
 obtain ⟨hp,F⟩:=F;unfold noteFrame;simp only[hs.2.1]
 rcases F with ⟨oe,vs,he,hc,hdd,hd,h1⟩|⟨T,fl,hT,oe,vs,oT,ts,he,hc,hdd,hd,h1,hTe,hoT,hdT,h3⟩
 ·refine wpAny_bind (wpAny_field he hd h1 ?_)
  rw[if_neg (by decide)];exact qm5 hs hA I hp he hc hdd hd (Array.getElem?_eq_some_iff.mp h1).1 k
 ·refine wpAny_bind (wpAny_field he hd h1 ?_)
  rw[if_pos (show (Value.ref T != Value.none)=true from by simp)];refine wpAny_bind (wpAny_field hoT hdT h3 ?_)
  by_cases hfl:(fl == rawInt X.env.locals)=true
  ·rw[if_pos hfl]
   have:=k s.heap T I hT ⟨oe,vs,oT,ts,he,hc,hdd,hd,h1,hTe,hoT,hdT,by rw[h3,beq_iff_eq.mp hfl]⟩;exact wpAny_pure this
  ·rw[if_neg hfl]
   refine wpAny_bind (wpAny_setField hoT hdT (Array.getElem?_eq_some_iff.mp h3).1 ?_);have other:∀ b,b≠T->(s.heap.update T (Obj.mapFields (·.setIfInBounds 3 Value.none))).get? b=s.heap.get? b:=λb hb=>Heap.get?_update_other _ _ (Ne.symm hb)
   have I2:Inv X [] σ H { s with heap:=s.heap.update T (Obj.mapFields (·.setIfInBounds 3 Value.none)) }:=
    I.turnS (t':=s.toks) (ch:=[T]) (λb hb=>by rw[List.mem_singleton.mp hb];exact hT) (λb u hb _ q=>(other b (λz=>hb (by simp[z]))).trans q) λb u hb q=>⟨u.slots,(other b (λz=>hb (by simp[z]))).trans q⟩
   exact qm5 hs hA I2 hp ((other e (Ne.symm hTe)).trans he) hc hdd hd (Array.getElem?_eq_some_iff.mp h1).1 k
theorem qht {Q:Unit->Shared->Prop} (fr:Option Addr) (I:Inv X [] σ H s) (hT:FpX X H T) (F:FlT s.heap e T cls dd fl)
  (k:∀ h',Inv X [] σ H { s with heap:=h' }->FlT h' e T cls dd (fr.elim .none λf=>rawInt f)->Q () { s with heap:=h' }):wpAny M A (setFlight (.ref e) fr) Q E s:=by
 obtain ⟨oe,vs,oT,ts,he,hc,hdd,hd,h1,hTe,hoT,hdT,h3⟩:=F;have hsz3:3<ts.size:=(Array.getElem?_eq_some_iff.mp h3).1;have other:∀ b,b≠T->(s.heap.update T (Obj.mapFields (·.setIfInBounds 3 (fr.elim .none λf=>rawInt f)))).get? b=s.heap.get? b:=λb hb=>Heap.get?_update_other _ _ (Ne.symm hb)
 unfold setFlight;refine wpAny_bind (wpAny_field he hd h1 ?_);rw[if_pos (show (Value.ref T != Value.none)=true from by simp)];refine wpAny_setField hoT hdT hsz3 (k _ ?_ ?_)
 ·exact I.turnS (t':=s.toks) (ch:=[T]) (λb hb=>by rw[List.mem_singleton.mp hb];exact hT) (λb u hb _ q=>(other b (λz=>hb (by simp[z]))).trans q) λb u hb q=>⟨u.slots,(other b (λz=>hb (by simp[z]))).trans q⟩
 ·exact ⟨oe,vs,_,_,(other e (Ne.symm hTe)).trans he,hc,hdd,hd,h1,hTe,Heap.get?_update_self _ hoT (Obj.isFreed_of_fields (Obj.data_mapFields hdT _)),Obj.data_mapFields hdT _,by simp[hsz3]⟩
end
def CX1 (P:Program) (w:World):CXT:=λouter H s E ev s'=>∃ e T cls dd H',ev=.ref e/\s'.os=s.os/\AllBare s'.gens/\Un (frs outer) [] H H' s.heap s'.heap/\HOk P w H' s'.heap/\FlT s'.heap e T cls dd .none/\H' e=none/\H' T=none /\
 s.heap.get? e=none/\s.heap.get? T=none/\E cls dd H'
theorem CX1.xe {X:Cx} {W:XW} {pins:List (Addr×Obj)} {σ:St} {H:Hp} {s s':Shared} {ev:Value} (hs:qjw X) (I:Inv X pins σ H s) (h:CX1 X.prog X.w X.stack H s (λc d H'=>W c d σ H') ev s'):XE X W ev s':=by
 obtain ⟨e,T,cls,dd,H',rfl,os,bare,un,hok,F,he,hT,le,lT,q⟩:=h;have J:Inv X [] σ H s:=I.pins_of (by simp);have J':Inv X [] σ H' s':=by
  obtain ⟨hh,g,d,t,os'⟩:=s';obtain rfl:os'=s.os:=os;exact J.call (h':=hh) (g':=g) (d':=d) (t':=t) (ch:=[]) un hok bare (λb z=>absurd z (by simp))
 exact ⟨e,cls,dd,σ,H',rfl,J',⟨J.fpX hs le he,.inr ⟨T,_,J.fpX hs lT hT,F⟩⟩,q⟩
theorem qtp {P:Program} {w:World} {K:Frag} {mg:Str->Option Value} {base:Heap} {N:List Str} {qual:Str} {scope:Scope} {f:Addr} {cd:Value} {A:Around} {outer:List Env} {s:Shared} {H:Hp} {E:XK} {ev:Value} {s':Shared}
  (h:XE (qo1 (CX1 P w) P w K mg base N qual scope f cd A outer s H E) (λc d _ H'=>E c d H') ev s'):(qo1 (CX1 P w) P w K mg base N qual scope f cd A outer s H E).xe ev s':=by
 obtain ⟨e,cls,dd,σ,H',rfl,I,F,q⟩:=h
 show wpAny _ _ (leaving _ _) _ _ _
 unfold leaving;refine wpAny_bind (qp2 (X:=qo1 (CX1 P w) P w K mg base N qual scope f cd A outer s H E) ⟨rfl,rfl,rfl⟩ I.ok.frames I F λh1 T I1 hT F1=>?_);refine qht none I1 hT F1 λh2 I2 F2=>?_
 exact ⟨e,T,cls,dd,H',rfl,I2.os,I2.bare,I2.base,I2.hok,F2,F.1.1,hT.1,F.1.2.2.2.1,hT.2.2.2.1,q⟩
def qn9 (X:Cx) (W:XW):Prop:=qjw X/\∀ ev s,XE X W ev s->X.xe ev s
theorem XE.unwish {X:Cx} {E:Value->Shared->Prop} {W:XW} {ev:Value} {s:Shared} (h:XE (X.wish E) W ev s):XE X W ev s:=
 let ⟨e,cls,dd,σ,H,q,I,F,w⟩:=h;⟨e,cls,dd,σ,H,q,I.unwish,F,w⟩
theorem qbi {X:Cx} {W:XW} (hs:qjw X):qn9 (X.wish (XE X W)) W:=⟨hs,λ_ _ h=>h.unwish⟩
theorem PSs.imp {X:Cx} {E:Value->Shared->Prop} {st:List Stmt} {t:TS} (hE:∀ ev s,E ev s->X.xe ev s) (h:PSs (X.wish E) st t):PSs X st t:=λpins s σ H D I hw =>
 wpAny_mono (h pins s σ H D (I.wish _) hw) (λ_ _ q=>q.unwish) λe s z=>hE e s z
section
variable {P:Program} {w:World} {K:Frag} {mg:Str->Option Value} {base:Heap}
abbrev bx (P:Program) (w:World) (K:Frag) (mg:Str->Option Value) (base:Heap) (N:List Str) (qual:Str) (scope:Scope) (f:Addr) (cd:Value) (A:Around) (outer:List Env) (s:Shared) (H:Hp) (E:XK):Cx:=
 (qo1 (CX1 P w) P w K mg base N qual scope f cd A outer s H E).wish (XE (qo1 (CX1 P w) P w K mg base N qual scope f cd A outer s H E) (λc d _ H'=>E c d H'))
theorem Fun.okX {x qual:Str} {st:Stmt} {f:Addr} {fd:FuncData} {N ps:List Str} {k:Nat} {sp:Sp} (F:Fun K x qual st f fd) (S:qaj N ps (qab st)) (len:∀ vs H Q E,sp vs H Q E->vs.length=ps.length)
  (hbody:∀ (cdv:Value) (A:Around) (outer:List Env) (s:Shared) (H:Hp) (vs:List V) (Q:VK) (E:XK),Room k (A.deeper (envOfC qual (qab st) s.heap.objs.size f cdv))->sp vs H Q E ->
   ∃ t,PSs (bx P w K mg base N qual (qab st) f cdv A outer s H E) (qai st) t/\t { nx:=λ_ H'=>Q .non H',rt:=Q } (start N vs) H):qg9 P w K mg base (CX1 P w) (k+1) f fd ps sp:=by
 obtain ⟨oc,od,kV,doc,pm,an,cdv,ct,osl,rfl,lk,hcd⟩:=F.ex;refine qr5 lk hcd S len λA outer s H vs Q E hr hsp=>?_
 obtain ⟨t,h,q⟩:=hbody cdv A outer s H vs Q E hr hsp;exact ⟨t,h.imp λ_ _ z=>qtp z,q⟩
theorem FunD.okX {x qual:Str} {st:Stmt} {dV:Value} {f:Addr} {fd:FuncData} {N ps:List Str} {k:Nat} {sp:Sp} (F:FunD K x qual st dV f fd) (S:qaj N ps (qab st)) (len:∀ vs H Q E,sp vs H Q E->vs.length=ps.length)
  (hbody:∀ (cdv:Value) (A:Around) (outer:List Env) (s:Shared) (H:Hp) (vs:List V) (Q:VK) (E:XK),Room k (A.deeper (envOfC qual (qab st) s.heap.objs.size f cdv))->sp vs H Q E ->
   ∃ t,PSs (bx P w K mg base N qual (qab st) f cdv A outer s H E) (qai st) t/\t { nx:=λ_ H'=>Q .non H',rt:=Q } (start N vs) H):qg9 P w K mg base (CX1 P w) (k+1) f fd ps sp:=by
 obtain ⟨oc,od,kV,doc,pm,an,cdv,ct,osl,rfl,lk,hcd⟩:=F.ex;refine qr5 lk hcd S len λA outer s H vs Q E hr hsp=>?_
 obtain ⟨t,h,q⟩:=hbody cdv A outer s H vs Q E hr hsp;exact ⟨t,h.imp λ_ _ z=>qtp z,q⟩
end
def qz1 (P:Program) (w:World) (K:Frag) (mg:Str->Option Value) (base:Heap) (k:Nat) (x:Str) (ps:List Str) (ds:List Value) (sp:Sp):Prop:=
 ∃ f fd,qg9 P w K mg base (CX1 P w) k f fd ps sp/\mg x=some (.ref f)/\keepIn K (.ref f)=true/\Binds K fd ps ds
def qsp (P:Program) (w:World) (K:Frag) (mg:Str->Option Value) (base:Heap) (C:Addr) (k:Nat) (m:Str) (ps:List Str) (ds:List Value) (sp:Sp):Prop:=
 ∃ f fd,qg9 P w K mg base (CX1 P w) k f fd ps sp/\qgc K C m f/\Binds K fd ps ds
def qw0 (sp:Sp) (dvs:List V) (W:XW) (t:TA):TE:=λσ H Q=>t σ H λvs H1=>sp (vs ++ dvs) H1 Q λc d H'=>W c d σ H'
def qw1 (C:Addr) (m:Str) (sp:Sp) (dvs:List V) (W:XW) (ta:TE) (t:TA):TE:=λσ H Q=>ta σ H λx H1=>qth C m x H1 (t σ H1 λvs H2=>sp (x :: (vs ++ dvs)) H2 Q λc d H'=>W c d σ H')
section
variable {X:Cx} {W:XW} {k:Nat} {f C:Addr} {fd:FuncData} {ps:List Str} {sp:Sp} {dvs:List V} {ds:List Value} {x m:Str} {p pos apos:Pos} {e o:Expr} {es:List Expr} {ta:TE} {t:TA}
theorem qp3 {pins:List (Addr×Obj)} {σ:St} {H:Hp} {s:Shared} {Q:VK} {us:List Value} {vs:List V} (hW:qn9 X W) (F:qg9 X.prog X.w X.K X.mg X.base (CX1 X.prog X.w) k f fd ps sp) (hr:Room k X.A) (hb:Binds X.K fd ps ds) (hd:Vals dvs ds)
  (I:Inv X pins σ H s) (r:Vals vs us) (h:sp (vs ++ dvs) H Q λc d H'=>W c d σ H'):wpAny (model X.prog X.w) X.A (call (.ref f) us) (EP X pins σ Q) X.xe s:=by
 have r2:Vals (vs ++ dvs) (us ++ ds):=r.append hd;have hl:(us ++ ds).length=ps.length:=by rw[<- r2.length];exact F.len _ _ _ _ h
 refine wpAny_call (codeAny_mono (F.run X.A X.stack s H ⟨us,[]⟩ (us ++ ds) (vs ++ dvs) Q _ hr I.env0 (hb s us I.kIn hl) r2 h) λr s' hq=>?_)
 cases r with
 | error e=>exact hW.2 _ _ (CX1.xe hW.1 I hq)
 | ok fl =>
  cases fl with
  | ret u=>exact I.after hq
  | next=>exact False.elim hq
  | brk=>exact False.elim hq
  | cont=>exact False.elim hq
theorem qw2 (hW:qn9 X W) (D:qz1 X.prog X.w X.K X.mg X.base k x ps ds sp) (hr:Room k X.A) (hg:Gl X x) (hd:Vals dvs ds) (ha:PA X (e :: es) t) (hdb:(x == ("__debug__" : Str))=false:=by decide)
  (he:starEach (e :: es) X.env=(false,eval e X.env) :: starEach es X.env:=by rfl) (hpl:(backTo pos (starEach es X.env)).any (·.1)=false:=by rfl):PE X (.Call (.Name x p) (e :: es) [] pos) (qw0 sp dvs W t):=by
 obtain ⟨f,fd,F,hm,hk,hb⟩:=D;intro pins s σ H Q I h;refine wpAny_Call_Name_kw (qgd I hg hm ?_ hdb);refine PySem.W.callWith_K (h₀:=X.base) I.ok.mod.kin hk (thn (ha pos pins s σ H _ I h) λus s1 ⟨vs,H1,I1,r,q⟩=>⟨I1.kIn,?_⟩) he hpl;exact qp3 hW F hr hb hd I1 r q
theorem qdz {pl:Sem Bool} (hW:qn9 X W) (he:PE X o ta) (c:Cls X.K C) (D:qsp X.prog X.w X.K X.mg X.base C k m ps ds sp) (hr:Room k X.A) (hd:Vals dvs ds) (ha:PA X (e :: es) t)
  (hst:starEach (e :: es) X.env=(false,eval e X.env) :: starEach es X.env:=by rfl) (hpl:(backTo pos (starEach es X.env)).any (·.1)=false:=by rfl)
  (ht:eval (.Call (.Attribute o m apos) (e :: es) [] pos) X.env=(do
   let ov <- eval o X.env
   standAt apos.atName
   let (f,first) <- holding [ov] (getMethod ov m pl)
   callWith pos f first (backTo pos (starEach (e :: es) X.env)) (backToKw pos (keywordEach [] X.env))):=by rfl) :
  PE X (.Call (.Attribute o m apos) (e :: es) [] pos) (qw1 C m sp dvs W ta t):=by
 obtain ⟨f,fd,F,hm,hb⟩:=D;intro pins s σ H Q I h;refine PySem.W.methodCall_KW (pl:=pl) (thn (he pins s σ H _ I h) λu s1 hq__=>?_) ht;obtain ⟨x,H1,I1,rx,a,dx,fs,ex,ea,l,q⟩:=hq__;subst ex;obtain rfl:u=Value.ref a:=rx;refine qge I1 ea c hm l ?_;refine PySem.W.callWith_K (first:=[.ref a]) (h₀:=X.base) I.ok.mod.kin hm.kp (thn (ha pos pins s1 σ H1 _ I1 q) λus s2 ⟨vs,H2,I2,r,q2⟩=>⟨I2.kIn,?_⟩) hst hpl;exact qp3 (us:=.ref a :: us) (vs:=.ref a :: vs) hW F hr hb hd I2 (.cons rfl r) q2
end
def qoa:List Value:=[.type "ValueError",.type "Exception",.type "BaseException",.type "object"]
def qv3 (K:Frag) (C:Addr):Prop:=PySem.W.excIn K C qoa "ValueError.__new__" = true
theorem qw3 {K:Frag} {h:Heap} {C:Addr} {bmB:List Value} {newId:String} (X:K.In h) (q:PySem.W.excIn K C bmB newId=true) :
  ∃ bm N nm qn bs hd sn sub ab col dd k0 k1 k2 k3 k5 mN,h.get? C=some (excClassObj nm qn C N bs bm hd sn sub ab col dd k0 k1 k2 k3 k5 newId)/\h.Ns N mN/\mN "__init__" = none/\OwnTail h bmB bm:=by
 unfold PySem.W.excIn at q
 split at q
 case h_2=>cases q
 case h_1 dd cd sl ho =>
  split at q
  case h_2=>cases q
  case h_1 C' bm k0 k1 k2 k3 n k5 hm hsl =>
   simp only[Bool.and_eq_true,beq_iff_eq,Bool.not_eq_true'] at q;obtain ⟨⟨⟨⟨⟨q1,q2⟩,q3⟩,q4⟩,q5⟩,q6⟩:=q;subst q1 q2
   cases cd with
   | mk nm bs mro ns qn hd sn sub ab col del =>
    cases sl with
    | mk l =>
     have hm':mro=_:=hm;have hl':l=_:=hsl;have q3':del=false:=q3;subst hm' hl' q3';exact ⟨bm,ns,nm,qn,bs,hd,sn,sub,ab,col,dd,k0,k1,k2,k3,k5,_,X _ _ ho,.of_isNs (PySem.W.isNs_of_in X q5),PySem.W.nsMap_none_of_in X q5 q6,PySem.W.tail_of_in X q4⟩
def qw4 (W:XW) (C:Addr) (t:TA):TS:=λ_ σ H=>t σ H λvs H1=>vs.length<=sizeLine/\W (.ref C) none σ H1
theorem qzb {h h':Heap} {N:Addr} {m:Str->Option Value} (k:∀ b o,h.get? b=some o->h'.get? b=some o) (n:h.Ns N m):h'.Ns N m:=
 let ⟨o,es,ep,e,r⟩:=n;⟨o,es,ep,k _ _ e,r⟩
theorem qfk {X:Cx} {W:XW} {C:Addr} {x:Str} {np cpos pos:Pos} {e:Expr} {es:List Expr} {t:TA} (hW:qn9 X W) (hc:X.calm=true) (hE:qv3 X.K C) (hg:Gl X x) (hm:X.mg x=some (.ref C)) (ha:PA X (e :: es) t)
  (hdb:(x == ("__debug__" : Str))=false:=by decide) (he:starEach (e :: es) X.env=(false,eval e X.env) :: starEach es X.env:=by rfl) (hpl:(backTo cpos (starEach es X.env)).any (·.1)=false:=by rfl) :
  PS X (.Raise (some (.Call (.Name x np) (e :: es) [] cpos)) none pos) (qw4 W C t):=by
 intro pins s σ H D I h;obtain ⟨bm,N,nm,qn,bs,hd,sn,sub,ab,col,dd,k0,k1,k2,k3,k5,mN,hC,hN,hni,hT⟩:=qw3 I.ok.mod.kin hE;refine wpAny_Raise_call_subU PySem.F.excBase_ValueError (by decide +kernel) PySem.F.excBase_ValueError (C:=C) (nm:=nm) (q:=qn) (N:=N) (bs:=bs) (hdct:=hd) (sn:=sn) (sub:=sub) (ab:=ab) (col:=col) (dd:=dd) (k0:=k0) (k1:=k1) (k2:=k2) (k3:=k3) (k5:=k5) (hT.hasType (by decide +kernel)) (I.ok.hd hc) (by rw[he];show (false || (backTo cpos (starEach es X.env)).any (·.1))=false;rw[hpl];rfl) hni (qgd I hg hm ⟨rfl,?_⟩ hdb);have h2:=ha cpos pins s σ H _ I h;rw[he] at h2 ⊢;refine Calls.evalArgs_plain (thn h2 λus s1 ⟨vs,H1,I1,r,q1,q2⟩=>⟨rfl,by rw[<- r.length];exact q1,I1.bk _ _ hC,qzb I1.bk hN,hT.keeps I1.bk,λh' ex hx=>hW.2 _ _ ?_⟩);obtain ⟨tt,hex,_,_⟩:=hx.there;have J:Inv X [] σ H1 s1:=I1.pins_of (by simp);exact ⟨ex,.ref C,none,σ,H1,rfl,J.kept (t':=s1.toks) hx.keeps,⟨J.fpX hW.1 hx.new (J.noneOf hx.new),.inl ⟨_,_,hex,rfl,rfl,rfl,rfl⟩⟩,q2⟩
open PySem PySem.Spec PyProof.Rows
def qyh (a:Addr) (cls:Value) (dd:Option Addr):HO:=.ext λh=>∃ oe vs,h.get? a=some oe/\oe.cls=cls/\oe.dict=dd/\oe.data=.fields vs
abbrev hnd (X:Cx) (e:Addr):Cx:={ X with A:=X.A.mark (some (.ref e)),calm:=false,xe:=λ_ _=>False }
abbrev pnd (X:Cx) (pn:List (Addr×Obj)):Cx:={ X with pn:=pn }
section
variable {X:Cx} {pins:List (Addr×Obj)} {σ:St} {H:Hp} {s:Shared} {e:Addr}
theorem Inv.hnd (I:Inv X pins σ H s) (e:Addr):Inv (hnd X e) pins σ H s:=
 ⟨⟨I.ok.mod,I.ok.kind,I.ok.glob,I.ok.blt,I.ok.above,I.ok.inj,I.ok.has,I.ok.cab,(λz=>nomatch z),I.ok.frames,I.ok.stk,I.ok.exf,I.ok.bs,I.ok.bsz,I.ok.noex,I.ok.exfs,I.ok.funs,I.ok.frf⟩,I.os,I.bare,I.base,I.loc,I.cell,I.free,I.freeC,I.pin,I.hok,I.len⟩
theorem Inv.unhnd (hd:X.calm=true->X.A.handled=none) (I:Inv (L2.hnd X e) pins σ H s):Inv X pins σ H s:=
 ⟨⟨I.ok.mod,I.ok.kind,I.ok.glob,I.ok.blt,I.ok.above,I.ok.inj,I.ok.has,I.ok.cab,hd,I.ok.frames,I.ok.stk,I.ok.exf,I.ok.bs,I.ok.bsz,I.ok.noex,I.ok.exfs,I.ok.funs,I.ok.frf⟩,I.os,I.bare,I.base,I.loc,I.cell,I.free,I.freeC,I.pin,I.hok,I.len⟩
theorem Inv.pnd (I:Inv X pins σ H s):Inv (pnd X (X.pn ++ pins)) [] σ H s:=
 ⟨⟨I.ok.mod,I.ok.kind,I.ok.glob,I.ok.blt,I.ok.above,I.ok.inj,I.ok.has,I.ok.cab,I.ok.hd,I.ok.frames,I.ok.stk,I.ok.exf,I.ok.bs,I.ok.bsz,I.ok.noex,I.ok.exfs,I.ok.funs,I.ok.frf⟩,I.os,I.bare,I.base,I.loc,I.cell,I.free,I.freeC,λp hp=>I.pin p (by
  have:p∈(X.pn ++ pins) ++ ([]:List (Addr×Obj)):=hp
  simpa using this),I.hok,I.len⟩
theorem Inv.unpnd (I:Inv (L2.pnd X (X.pn ++ pins)) [] σ H s):Inv X pins σ H s:=
 ⟨⟨I.ok.mod,I.ok.kind,I.ok.glob,I.ok.blt,I.ok.above,I.ok.inj,I.ok.has,I.ok.cab,I.ok.hd,I.ok.frames,I.ok.stk,I.ok.exf,I.ok.bs,I.ok.bsz,I.ok.noex,I.ok.exfs,I.ok.funs,I.ok.frf⟩,I.os,I.bare,I.base,I.loc,I.cell,I.free,I.freeC,λp hp=>I.pin p (by
  show p∈(X.pn ++ pins) ++ ([]:List (Addr×Obj))
  simpa using hp),I.hok,I.len⟩
theorem SP.unpnd {E:Value->Shared->Prop} {D:Ends} {f:Flow} {s':Shared} (h:SP ((L2.pnd X (X.pn ++ pins)).wish E) [] D f s'):SP X pins D f s':=by
 cases f with
 | next=>obtain ⟨σ',H',I,q⟩:=h;exact ⟨σ',H',I.unwish.unpnd,q⟩
 | brk=>obtain ⟨σ',H',I,q⟩:=h;exact ⟨σ',H',I.unwish.unpnd,q⟩
 | cont=>obtain ⟨σ',H',I,q⟩:=h;exact ⟨σ',H',I.unwish.unpnd,q⟩
 | ret u=>obtain ⟨v,σ',H',I,r,q⟩:=h;exact ⟨v,σ',H',I.unwish.unpnd,r,q⟩
theorem Inv.gone {h':Heap} {t':Nat} {n:Str} {j:Nat} {m:Str->Option Value} {v:Option Value} (I:Inv X pins σ H s) (hN:X.N.Nodup) (hj:X.N[j]?=some n) (hm:s.heap.Ns X.env.locals m)
  (hl:∀ (i:Nat) (x:Str) (v:V),X.N[i]?=some x->σ[i]?=some (some v)->Vis X.env.scope x->∃ u,RelV v u/\Look X.env s.heap m x u)
  (hn:h'.Ns X.env.locals (λx=>if x=n then v else m x)) (hs:Heap.SameBut X.env.locals s.heap h'):Inv X pins (σ.set j none) H { s with heap:=h',toks:=t' }:=by
 have ne0:∀ b o,X.s₀.heap.get? b=some o->b≠X.env.locals:=λb o q=>Nat.ne_of_lt (Nat.lt_of_lt_of_le (Heap.lt_size q) I.ok.above)
 refine ⟨I.ok,I.os,I.bare,⟨λb o q n hb hx=>?_,λb o q n hb hx=>?_,I.base.free,λb o q hx=>?_,I.base.tups,I.base.frzs,I.base.tbls⟩,⟨_,hn,λi y v' e1 e2 e3=>?_⟩,λy c q=>?_,I.free,I.freeC,λp hp=>?_,λb u q=>?_,by simpa using I.len⟩
 ·exact (hs.2 b (ne0 b o q)).trans (I.base.keep b o q n hb hx)
 ·obtain ⟨sl,e1⟩:=I.base.slot b o q n hb hx
  exact ⟨sl,(hs.2 b (ne0 b o q)).trans e1⟩
 ·obtain ⟨o',e1⟩:=I.base.there b o q hx
  exact ⟨o',(hs.2 b (ne0 b o q)).trans e1⟩
 ·by_cases hij:i=j
  ·subst hij
   have hi:i<σ.length:=by rw[I.len];exact (List.getElem?_eq_some_iff.mp hj).1
   rw[List.getElem?_set_self hi] at e2;cases e2
  ·rw[List.getElem?_set_ne (Ne.symm hij)] at e2
   obtain ⟨u',r',q⟩:=hl i y v' e1 e2 e3;refine ⟨u',r',?_⟩
   rcases q with ⟨k,q⟩|⟨k,c,q,z⟩
   ·have ny:y≠n:=λz=>hij (qjn hN e1 (z ▸ hj))
    exact .inl ⟨k,by simp[ny,q]⟩
   ·exact .inr ⟨k,c,q,z.sameBut hs (I.cne y c q)⟩
 ·obtain ⟨w',z⟩:=I.cell y c q
  exact ⟨w',z.sameBut hs (I.cne y c q)⟩
 ·obtain ⟨q,n,ne,nf,d⟩:=I.pin p hp
  exact ⟨(hs.2 p.1 ne).trans q,n,ne,nf,d⟩
 ·refine (I.hok b u q).stay (λc w' hc q'=>(hs.2 c ?_).trans q') (λ_ q=>q) λ_ _ q=>q
  rintro rfl
  rcases hc with z|z
  ·rw[<- z,I.free] at q;cases q
  ·rw[I.free] at z;cases z
theorem qu0 {M:Model} {A:Around} {E:Value->Shared->Prop} {n:Str} {j:Nat} {pos:Pos} {Q:Unit->Shared->Prop} (I:Inv X pins σ H s) (hN:X.N.Nodup) (hj:X.N[j]?=some n) (hl:X.env.kindOf n=some .local)
  (k:∀ s',Inv X pins (σ.set j none) H s'->Q () s'):wpAny M A (do bindName X.env n .none;unbindBehindTheSuite X.env n pos) Q E s:=by
 obtain ⟨m,hm,hl'⟩:=id I.loc;exact wpAny_nameGoes_keeps hl hm (by rw[I.ok.kind];rfl) λh' v hn hs=>k _ (I.gone hN hj hm hl' hn hs)
end
def qAr (K:Frag) (C:Addr) (cls:Value):Prop:=∃ D,cls=.ref D/\PySem.W.ktsIn K D "BaseException" = true/\PySem.W.mroIn K D (.ref C)=some true
theorem qw5 {K:Frag} {h:Heap} {C:Addr} {base:Value} {r:Bool} {nm q:Str} {N:Addr} {bs bm:List Value} {hdct:Bool} {sn:List Str} {sub:List Value} {ab:Bool} {col:Option Bool} {dd:Option Addr} {k0 k1 k2 k3 k5:Option Value} {newId:String}
  (X:K.In h) (e:PySem.W.mroIn K C base=some r) (hC:h.get? C=some (excClassObj nm q C N bs bm hdct sn sub ab col dd k0 k1 k2 k3 k5 newId)):(Value.ref C :: bm).contains base=r:=by
 unfold PySem.W.mroIn PySem.W.clsIn at e
 split at e
 case h_1 ho =>
  have:=X _ _ ho;rw[hC] at this;cases this
  simpa using e
 case h_2=>simp at e
theorem qiw {M:Model} {A:Around} {E:Value->Shared->Prop} {K:Frag} {s:Shared} {e C D:Addr} {oe:Obj} {Q:Bool->Shared->Prop} (X:K.In s.heap) (he:s.heap.get? e=some oe) (hcls:oe.cls=.ref D)
  (hC:PySem.W.ktsIn K C "BaseException" = true) (hD:PySem.W.ktsIn K D "BaseException" = true) (hs:PySem.W.mroIn K D (.ref C)=some true) (hq:Q true s):wpAny M A (excMatches (.ref e) (.ref C)) Q E s:=by
 obtain ⟨nm,qn,N,bs,bm,hdct,sn,sub,ab,col,dd,k0,k1,k2,k3,k5,newId,gC,hb,_⟩:=PySem.W.kts_cls X hC;obtain ⟨nm',qn',N',bs',bm',hdct',sn',sub',ab',col',dd',k0',k1',k2',k3',k5',newId',gD,hb',_⟩:=PySem.W.kts_cls X hD;have hcB:(Value.ref C :: bm).contains (.type "BaseException")=true:=by rw[List.contains_cons,hb,Bool.or_true]
 have hcC:=qw5 X hs gD;have f:=tc_notTuple;obtain ⟨hp,g,d,tk,os⟩:=s;unfold excMatches
 repeat (first|(with_reducible refine wpAny_loadPart_at he ?_;rw[hcls])|with_reducible refine wpAny_loadPart_at gC ?_|(with_reducible refine wpAny_isSubtype_exc gC ?_;rw[hcB])|(with_reducible refine wpAny_isSubtype_exc gD ?_;rw[hcC])|wp_step)
 exact hq
def qzc (D:Ends) (j:Nat):Ends:={ nx:=λσ H=>D.nx (σ.set j none) H,rt:=D.rt,bk:=λσ H=>D.bk (σ.set j none) H,ct:=λσ H=>D.ct (σ.set j none) H }
def hW (K:Frag) (C:Addr) (th:TS) (j:Nat) (D:Ends):XW:=λcls dd σ H=>qAr K C cls/\∀ e H',New H H' e (qyh e cls dd)->th (qzc D j) (σ.set j (some (.ref e))) H'
def qAs (K:Frag) (C:Addr) (tb:XW->TS) (th:TS) (j:Nat):TS:=λD σ H=>tb (hW K C th j D) D σ H
theorem qw6 {X:Cx} {C:Addr} {x n:Str} {j:Nat} {np hpos pos:Pos} {body suite:List Stmt} {b₀:Stmt} {tb:XW->TS} {th:TS} (hs:qjw X) (hN:X.N.Nodup) (hj:X.N[j]?=some n) (hl:X.env.kindOf n=some .local) (hx:X.env.scope.names.lookup n=some .local)
  (hg:Gl X x) (hm:X.mg x=some (.ref C)) (hC:PySem.W.ktsIn X.K C "BaseException" = true)
  (hb:∀ pn W,PSs ((pnd X pn).wish (XE (pnd X pn) W)) body (tb W)) (hh:∀ pn e,PSs (hnd (pnd X pn) e) (b₀ :: suite) th) (hdb:(x == ("__debug__" : Str))=false:=by decide) :
  PS X (.Try body [.ExceptHandler (some (.Name x np)) (some n) (b₀ :: suite) hpos] [] [] pos) (qAs X.K C tb th j):=by
 intro pins s σ H D I h;have I0:Inv (pnd X (X.pn ++ pins)) [] σ H s:=I.pnd;refine wpAny_Try_except (wpAny_mono (hb (X.pn ++ pins) _ [] s σ H D (I0.wish _) h) (λf s1 q=>?_) λev s1 q=>?_)
 ·cases f with
  | next=>exact wpAny_execs_nil q.unpnd
  | brk=>exact q.unpnd
  | cont=>exact q.unpnd
  | ret u=>exact q.unpnd
 ·obtain ⟨e,cls,dd,σ1,H1,rfl,I1,F1,⟨DC,rfl,hD,hDC⟩,w1⟩:=q
  have hs':qjw (pnd X (X.pn ++ pins)):=hs;refine qp2 (X:=pnd X (X.pn ++ pins)) hs' I1.ok.frames I1 F1 λh2 T I2 hT F2=>?_
  refine qht none I2 hT F2 λh3 I3 F3=>?_
  obtain ⟨oe,vs,oT,ts,he,hc,_⟩:=id F3;refine wpAny_handleBy_cons (codeAny_handlers_test (qgd (X:=hnd (pnd X (X.pn ++ pins)) e) (I3.hnd e) hg hm ?_ hdb)) (by intro q;cases q);refine qiw (s:={ s1 with heap:=h3 }) I3.kIn he hc hC hD hDC (codeAny_handlers_suite_as ?_);refine qht none I3 hT F3 λh4 I4 F4=>?_
  obtain ⟨oe,vs,oT,ts,he,hc,hdd,hd,_⟩:=id F4;have I5:Inv (pnd X (X.pn ++ pins)) [] σ1 (upd H1 e (qyh e (.ref DC) dd)) { s1 with heap:=h4 }:=I4.track F1.1 ⟨⟨oe,vs,he,hc,hdd,hd⟩,⟨oe,he⟩,λg1 g2 ⟨o',v',q1,q2,q3,q4⟩ k=>⟨o',v',k _ q1,q2,q3,q4⟩⟩;refine qjo (X:=pnd X (X.pn ++ pins)) (v:=.ref e) I5 hN hj (.inl hx) rfl (λs6 I6=>?_) (.inr hx);have w2:=w1 e _ (qbj F1.1.1);refine wpAny_mono (hh (X.pn ++ pins) e [] s6 _ _ _ (I6.hnd e) w2) (λf s7 q=>?_) λ_ _ z=>False.elim z
  have go:∀ {σ7 H7},Inv (hnd (pnd X (X.pn ++ pins)) e) [] σ7 H7 s7->∀ {Q:Unit->Shared->Prop},(∀ s',Inv X pins (σ7.set j none) H7 s'->Q () s')->wpAny (model X.prog X.w) X.A (do bindName X.env n .none;unbindBehindTheSuite X.env n hpos) Q X.xe s7:=fun {σ7 H7} J {Q} k =>
   qu0 (Inv.unpnd (Inv.unhnd I.ok.hd J)) hN hj hl k
  cases f with
  | next=>obtain ⟨σ7,H7,J,q7⟩:=q;exact go J λs' J'=>⟨_,_,J',q7⟩
  | brk=>obtain ⟨σ7,H7,J,q7⟩:=q;exact go J λs' J'=>⟨_,_,J',q7⟩
  | cont=>obtain ⟨σ7,H7,J,q7⟩:=q;exact go J λs' J'=>⟨_,_,J',q7⟩
  | ret u=>obtain ⟨v,σ7,H7,J,r,q7⟩:=q;exact go J λs' J'=>⟨v,_,_,J',r,q7⟩
open PySem PySem.Spec PyProof.Rows
structure qsq (K:Frag) (D:Addr):Prop where
 ga:PySem.W.findIn K (.ref D) "__getattribute__" = some (some (.builtin "BaseException.__getattribute__"))
 gt:PySem.W.findIn K (.ref D) "__getattr__" = some none
 cl:PySem.W.findIn K (.ref D) "__class__" = some (some (.builtin "object.__class__"))
 ob:PySem.W.mroIn K D (.type "object")=some true
 be:PySem.W.mroIn K D (.type "BaseException")=some true
 kt:PySem.W.ktsIn K D "BaseException" = true
section
variable {prog:Program} {w:World} {A:Around} {E:Value->Shared->Prop} {s:Shared} {K:Frag} {a D:Addr} {oe:Obj} {vs:Array Value}
theorem qp4 {Q:Option Value->Shared->Prop} (X:K.In s.heap) (F:qsq K D) (he:s.heap.get? a=some oe) (hc:oe.cls=.ref D) (hd:oe.data=.fields vs) (hdx:∀ dx,oe.dict=some dx->∃ o,s.heap.get? dx=some o) (h:Q (some (.ref D)) { s with toks:=s.toks+1 }) :
  wpAny (model prog w) A (getAttr? (.ref a) "__class__") Q E s:=by
 obtain ⟨hh,g,d,t,os⟩:=s;have L0:PySem.W.Looks (model prog w) hh (typeOf (.ref a)) (.ref D):=hc ▸ (PySem.W.Looks.ld he).andThen .now;have L1:=PySem.W.looks_findIn (M:=model prog w) X F.ga;have L2':=PySem.W.looks_findIn (M:=model prog w) X F.gt;have L3:=PySem.W.looks_findIn (M:=model prog w) X F.cl;have L4:=PySem.W.looks_mroIn (M:=model prog w) X F.be;have f3:=(PySem.F.attr_ValueError).ga.bind (.ref a);have hx2:(Value.builtin "BaseException.__getattribute__" == Value.builtin "object.__getattribute__")=false:=by decide +kernel
 unfold getAttr? getAttrBy? getAttrBy;refine wpAny_bind (wpAny_mkText (wpAny_bind (wpAny_attempt (wpAny_holding (wpAny_bind (L0.at (wpAny_bind (L1.at ?_))))))));have hsel:(onTheHeap (Value.ref D) && Value.builtin "BaseException.__getattribute__" == Value.builtin "object.__getattribute__")=false:=by rw[hx2];rfl
 dsimp only;rw[if_neg (by rw[hsel];decide)];unfold getAttrByItsOwn;have hx0:(false && onTheHeap (Value.builtin "BaseException.__getattribute__"))=false:=rfl;unfold hookBefore;refine wpAny_bind ?_;rw[if_pos (show onTheHeap (Value.ref D)=true from rfl)];refine L2'.at ?_;refine wpAny_bind (wpAny_attempt (wpAny_holding ?_));unfold callGetattribute;rw[if_neg (by decide)];unfold boundAndCalled;rw[f3];refine wpAny_bind (wpAny_pure ?_);refine wpAny_call (codeAny_call_builtin PySem.F.attr_ValueError.ga.plain PySem.F.entry_bexc_ga ?_);have hk:builtinKind "BaseException.__getattribute__" = some .slot:=by decide +kernel
 have hsplit:splitId "BaseException.__getattribute__" = some ("BaseException", "__getattribute__"):=by decide +kernel
 have ha:=PySem.F.args_bexc_ga (.ref a) (.str "__class__" t);have hT5:(⟨hh,g,d,t,os⟩:Shared).TypeIs (.builtin "object.__class__") "getset_descriptor" :=PySem.F.typeOf_object_class;have f5:=PySem.F.typeOf_object_class;have f6:=PySem.F.slot_gs_get.lookup;have f7:=PySem.F.slot_gs_set.lookup;simp only[checkBuiltinCall,hk,hsplit];refine wpAny_bind ?_;unfold isInstance
 repeat (first|with_reducible refine L0.at ?_|with_reducible refine L4.at ?_|wp_step)
 refine L3.at ?_
 repeat (any_goals (first|assumption|with_reducible refine L0.at ?_|wp_step))
 obtain ⟨od,I⟩:∃ od,PySem.W.InstAt hh a oe D od:=by
  cases q:oe.dict with
  | none=>exact ⟨none,he,hc,by unfold PySem.W.notCls;rw[hd],by rw[q];trivial⟩
  | some dx =>
   obtain ⟨o,ho⟩:=hdx dx q;exact ⟨some o,he,hc,by unfold PySem.W.notCls;rw[hd],by rw[q];exact ho⟩
 refine PySem.W.class_get (s:=⟨hh,g,d,t+1,os⟩) (od:=od) X I F.ob ?_;refine wpAny_pure ?_;exact PySem.W.handed_on rfl (wpAny_pure h)
def qAt (a D:Addr) (h:Heap):Prop:=∃ oe vs,h.get? a=some oe/\oe.cls=.ref D/\oe.data=.fields vs/\∀ dx,oe.dict=some dx->∃ o,h.get? dx=some o
theorem qsr (F:qsq K D):PySem.W.KitX K (.ref a) (.ref D) (qAt a D) where
 ty:=λM h _ ⟨oe,vs,he,hc,_⟩=>hc ▸ (PySem.W.Looks.ld he).andThen .now
 it:=λ_ _ X _=>by
  obtain ⟨nm,qn,N,bs,bm,hdct,sn,sub,ab,col,dd,k0,k1,k2,k3,k5,newId,gD,_⟩:=PySem.W.kts_cls X F.kt;intro A' Q' E' s' k q;unfold isType loadHead;exact wpAny_bind (wpAny_loadPart (k _ _ gD) (wpAny_pure q))
 ne:=λh tp dd its n sl X htp=>by
  obtain ⟨nm,qn,N,bs,bm,hdct,sn,sub,ab,col,dd,k0,k1,k2,k3,k5,newId,gD,_⟩:=PySem.W.kts_cls X F.kt;refine Bool.eq_false_iff.mpr λq=>?_
  have e:D=tp:=Value.ref.inj (beq_iff_eq.mp q);subst e;rw[gD] at htp;have h2:=congrArg (Option.map Obj.cls) htp
  simp at h2
 ca:=λX ⟨oe,vs,he,hc,hd,hdx⟩ k=>qp4 X F he hc hd hdx k
end
def qzd:V->Value
 | .ref C=>.ref C
 | .ty T=>.type T
 | _=>.none
theorem qf3 {X:Cx} {K:Frag} (hK:X.K=K):CallR X (.builtin "isinstance") (λxs H Q=>∃ a D dd c b,xs=[.ref a,c]/\H a=some (qyh a (.ref D) dd)/\qsq K D/\(∀ dx,dd=some dx->∃ fs,H dx=some (.xd fs))/\PySem.W.kitOne K (.ref D) (qzd c)=some b/\Q (.bl b) H):=by
 subst hK;intro pins s σ H xs us Q I r h;obtain ⟨a,D,dd,c,b,rfl,ha,F,hdd,e,q⟩:=h;obtain ⟨u,w',rfl,ru,rw'⟩:=vals2 r
 cases (show u=Value.ref a from ru)
 have hw:w'=qzd c:=by
  cases c<;>first|exact rw'|(exfalso;simp[PySem.W.kitOne,PySem.W.kitCls,qzd] at e)
 subst hw;obtain ⟨⟨oe,vs,he,hc,hdc,hd⟩,_⟩:=(show ObjOk X.prog X.w H s.heap a (qyh a (.ref D) dd) from I.hok a _ ha);refine PySem.W.kia_one (qsr F) I.kIn ⟨oe,vs,he,hc,hd,λdx z=>?_⟩ e (λz=>nomatch z) λtk=>⟨.bl b,H,I.tok tk,rfl,q⟩
 obtain ⟨fs,hx⟩:=hdd dx (hdc.symm.trans z);exact (I.hok dx _ hx).there
open PySem PySem.Spec PyProof.Rows
section
variable {X:Cx}
theorem qp5 (hc:X.calm=true):CallR X (.builtin "max") (λxs H Q=>∃ (p:Addr) (ns:List Int),xs=[.ref p]/\SqL X.K H p (ns.map V.int)/\0<ns.length/\∀ m,m∈ns->(∀ a∈ns,a<=m)->Q (.int m) H):=by
 intro pins s σ H xs us Q I r h;obtain ⟨p,ns,rfl,hq,hne,q⟩:=h;obtain ⟨u,rfl,ru⟩:=vals1 r
 cases (show u=Value.ref p from ru)
 obtain ⟨its,rv,pl,hz⟩:=I.list hq;have hi:IntsAre its ns:=L2.intsAre_of rv;obtain ⟨ys,e⟩:=hi.allInts.items;have hns:ns=ys.toList.map (·.1):=by rw[<- hi.numsOf,<- nums_intItems,<- e]
 have hl:=pl.isList;rw[e] at hl;have hsz:0<ys.size:=by have h3:=hne;rw[hns,List.length_map,Array.length_toList] at h3;exact h3
 refine max_intList (I.ok.hd hc) hl hsz λv h' tk hv hk=>?_
 obtain ⟨t,rfl⟩:=intItems_at hv;obtain ⟨h1,h2⟩:=argBest_gt (numAt ys) (ys.size-1);refine ⟨.int _,H,I.kept hk,⟨t,rfl⟩,q _ ?_ λa ha=>?_⟩
 ·rw[hns,numAt_eq];exact getD_mem (by rw[List.length_map,Array.length_toList];omega)
 ·rw[hns] at ha
  obtain ⟨j,hj,rfl⟩:=mem_getD ha;rw[List.length_map,Array.length_toList] at hj;rw[<- numAt_eq];exact h2 j (by omega)
theorem qp6 (hc:X.calm=true):CallR X (.builtin "min") (λxs H Q=>∃ (p:Addr) (ns:List Int),xs=[.ref p]/\SqL X.K H p (ns.map V.int)/\0<ns.length/\∀ m,m∈ns->(∀ a∈ns,m<=a)->Q (.int m) H):=by
 intro pins s σ H xs us Q I r h;obtain ⟨p,ns,rfl,hq,hne,q⟩:=h;obtain ⟨u,rfl,ru⟩:=vals1 r
 cases (show u=Value.ref p from ru)
 obtain ⟨its,rv,pl,hz⟩:=I.list hq;have hi:IntsAre its ns:=L2.intsAre_of rv;obtain ⟨ys,e⟩:=hi.allInts.items;have hns:ns=ys.toList.map (·.1):=by rw[<- hi.numsOf,<- nums_intItems,<- e]
 have hl:=pl.isList;rw[e] at hl;have hsz:0<ys.size:=by have h3:=hne;rw[hns,List.length_map,Array.length_toList] at h3;exact h3
 refine min_intList (I.ok.hd hc) hl hsz λv h' tk hv hk=>?_
 obtain ⟨t,rfl⟩:=intItems_at hv;obtain ⟨h1,h2⟩:=argBest_lt (numAt ys) (ys.size-1);refine ⟨.int _,H,I.kept hk,⟨t,rfl⟩,q _ ?_ λa ha=>?_⟩
 ·rw[hns,numAt_eq];exact getD_mem (by rw[List.length_map,Array.length_toList];omega)
 ·rw[hns] at ha
  obtain ⟨j,hj,rfl⟩:=mem_getD ha;rw[List.length_map,Array.length_toList] at hj;rw[<- numAt_eq];exact h2 j (by omega)
end
theorem qp7:bootBuiltins "max" = some (.builtin "max"):=by decide +kernel
theorem qtq:bootBuiltins "min" = some (.builtin "min"):=by decide +kernel
theorem qeb:bootBuiltins "sorted" = some (.builtin "sorted"):=by decide +kernel
theorem qcr {X:Cx} (hs:qjw X):qn9 X.nox (λ_ _ _ _=>False):=⟨hs,λ_ _ ⟨_,_,_,_,_,_,_,_,w⟩=>w⟩
open PySem PySem.Spec PyProof.Rows
theorem qu1 {H H':Hp} {a:Addr} {o:HO} (s:Same H H') (h:H a=some o):H' a=some o:=s _ _ h
theorem qw7 {H H':Hp} {p a:Addr} {u o:HO} (n:New H H' p u) (h:H a=some o):H' a=some o:=n.same _ _ h
theorem qu2 {H H1 H2:Hp} {p:Addr} {u:HO} (a:Same H H1) (n:New H1 H2 p u):Same H H2:=a.trans n.same
open PySem PySem.Spec PyProof.Rows
section
variable {X:Cx} {e e1:Expr} {te t1:TE} {pos p2:Pos}
end
open PySem PySem.Spec PyProof.Rows
section
variable {prog:Program} {w:World} {A:Around} {R:Result->Shared->Prop} {I:Addr} {fp wr:List Addr} {n:Nat} {P:Nat->Value->Prop} {St:Nat->Heap->Prop} {d:Value}
end
section
variable {X:Cx}
theorem qhu:∀ {bs:List Bool} {us:List Value},Vals (bs.map V.bl) us->us=bs.map Value.bool
 | [],_,.nil=>rfl
 | b :: r,_,.cons h t=>by cases (show _=Value.bool b from h);rw[qhu t];rfl
theorem qm6 (hc:X.calm=true):CallR X (.builtin "all") (λxs H Q=>∃ (p:Addr) (bs:List Bool),xs=[.ref p]/\SqL X.K H p (bs.map V.bl)/\Q (.bl (bs.all id)) H):=by
 intro pins s σ H xs us Q I r h;obtain ⟨p,bs,rfl,hq,q⟩:=h;obtain ⟨u,rfl,ru⟩:=vals1 r
 cases (show u=Value.ref p from ru)
 obtain ⟨its,rv,pl,hz⟩:=I.list hq;have hl:=pl.isList;have hlt:p<s.heap.objs.size:=by obtain ⟨_,e,_⟩:=hl;exact Heap.lt_size e
 have hb:=qhu rv;refine call_all_walk (wpAny_pyIter_list hl ?_);refine ⟨s.heap.objs.size,[s.heap.objs.size,p],[s.heap.objs.size],its.toArray.size,_,_,λi=>(bs[i]?).getD true,rfl,Walks.list (A:=X.A.in1) (I.ok.hd hc) _ p (Nat.ne_of_lt hlt) its.toArray,
  ⟨⟨_,Heap.get?_push_size _ rfl,rfl,rfl⟩,hl.push _⟩,λi v s' Q' E' hP hQ=>?_,λh' tk hk=>?_⟩
 ·rw[hb] at hP
  have hP':(bs.map Value.bool)[i]?=some v:=by simpa using hP
  rw[List.getElem?_map] at hP';obtain ⟨b,e1,e2⟩:=Option.map_eq_some_iff.mp hP';subst e2;simp only[e1,Option.getD_some] at hQ;exact wpAny_truthy_bool hQ
 ·have e:((List.range its.toArray.size).all λi=>(bs[i]?).getD true)=bs.all id:=by
   rw[List.size_toArray,hb,List.length_map];exact PyProof.Rows.LSm.range_all bs
  rw[e];refine ⟨.bl _,H,I.kept λb o q=>hk b o (λhm=>?_) (Heap.get?_push_of_some _ q),rfl,q⟩;rw[List.mem_singleton.mp hm] at q;exact absurd (Heap.lt_size q) (Nat.lt_irrefl _)
end
theorem qtr:bootBuiltins "all" = some (.builtin "all"):=by decide +kernel
open PySem PyProof PyProof.Rows
section
variable {X:Cx}
end
open PySem PySem.Spec PyProof.Rows
section
variable {prog:Program} {w:World} {A:Around} {E:Value->Shared->Prop} {s:Shared}
end
section
variable {X:Cx}
end
open PySem PySem.Spec PyProof.Rows
def RawD (h:Heap) (d:Addr) (es:Array DictEntry) (ep:Nat):Prop:=∃ o,h.get? d=some o/\o.ExactDict/\o.data=.dict es ep
theorem RawD.ty {s:Shared} {d:Addr} {es:Array DictEntry} {ep:Nat} (x:RawD s.heap d es ep):s.TypeIs (.ref d) "dict" :=let ⟨o,a,b,_⟩:=x;⟨o,a,b.1⟩
theorem RawD.up {h h':Heap} {d:Addr} {es:Array DictEntry} {ep:Nat} (x:RawD h d es ep) (e:∀ o,h.get? d=some o->h'.get? d=some o):RawD h' d es ep:=let ⟨o,a,b⟩:=x;⟨o,e o a,b⟩
theorem RawD.lt {h:Heap} {d:Addr} {es:Array DictEntry} {ep:Nat} (x:RawD h d es ep):d<h.objs.size:=let ⟨_,a,_⟩:=x;Heap.lt_size a
section
variable {prog:Program} {w:World} {A:Around} {E:Value->Shared->Prop} {s:Shared}
abbrev qze (d:Addr) (n ep:Nat):Obj:={ cls:=.type "dict_keyiterator",data:=.fields #[.ref d,.int 0 0,.int n 0,.int ep 0] }
theorem qu3 {d:Addr} {es:Array DictEntry} {ep:Nat} {Q:Value->Shared->Prop} (lo:(d == sysModules)=false) (hm:RawD s.heap d es ep) (hQ:Q (.ref s.heap.objs.size) { s with heap:=s.heap.push (qze d es.size ep) }) :
  wpAny (model prog w) A (pyIter (.ref d)) Q E s:=by
 have ty:=hm.ty;obtain ⟨o,h1,h2,h3⟩:=hm;refine wpAny_pyIter_slot ty F.slot_dict_iter (wpAny_call_entry F.slot_dict_iter ty F.entry_dict_iter ?_ (F.args_dict_iter_1 _));unfold Builtin.«dict.__iter__»;refine wpAny_bind ?_;unfold Builtin.Dict.dictSlotNone;refine wpAny_bind (wpAny_notOrdered_dict ty ?_)
 show wpAny _ _ (pure (Value.ref d)) _ _ s;refine wpAny_pure ?_
 show wpAny _ _ (Builtin.Dict.showsAll d >>= _) _ _ s;unfold Builtin.Dict.showsAll
 rw[if_neg (by rw[lo];exact Bool.false_ne_true)];refine wpAny_bind (wpAny_pure ?_);refine wpAny_bind (wpAny_dictEntries h1 h3 ?_);refine wpAny_bind (wpAny_dictEpoch h1 h3 ?_);refine wpAny_bind (wpAny_newObj_type (wpAny_pure ⟨_,rfl, "dict_keyiterator",_,⟨_,Heap.get?_push_size _ rfl,rfl⟩,F.slot_dict_keyiterator_next.lookup,?_⟩));simpa [rawInt] using hQ
theorem qu4 {it d:Addr} {i ep:Nat} {es:Array DictEntry} {Q:Option Value->Shared->Prop} (hJ:s.heap.IsKeyIter it d i es.size ep) (hm:RawD s.heap d es ep) (hx:i<es.size)
  (hQ:∀ h',h'.IsKeyIter it d (i+1) es.size ep->Heap.SameBut it s.heap h'->Q (some es[i].key) { s with heap:=h' }):wpAny (model prog w) A (pyNext (.ref it)) Q E s:=by
 obtain ⟨o,ho,hc,hd⟩:=id hJ;obtain ⟨od,h1,h2,h3⟩:=hm;have ty:=hJ.typeIs;unfold pyNext;refine wpAny_bind (wpAny_attempt (wpAny_callSpecial?_slot (name:=Str.ofString "__next__") ty F.slot_dict_keyiterator_next (wpAny_call_entry F.slot_dict_keyiterator_next ty F.entry_dict_keyiterator_next ?_ (F.args_dict_keyiterator_next_1 _))));refine wpAny_bind (wpAny_pure ?_);refine wpAny_bind ?_;refine wpAny_bind ?_
 first|refine wpAny_bind (wpAny_typeNameOfWhole_keyiter ty (wpAny_pure ?_))|refine wpAny_bind (wpAny_typeNameOf_keyiter ty (wpAny_pure ?_))
 refine wpAny_bind (wpAny_fieldsOf ho hd ?_);simp only[show Builtin.Dict_items.ownsTuple "dict_keyiterator" = false by decide,Bool.false_eq_true,if_false]
 show wpAny _ _ (if (Value.ref d == Value.none)=true then _ else _) _ _ s;rw[if_neg (show ¬ ((Value.ref d == Value.none)=true) from Bool.false_ne_true)]
 refine wpAny_bind (wpAny_pure ?_);refine wpAny_bind (wpAny_dictEntries h1 h3 ?_);rw[if_neg (by simp)];refine wpAny_bind (wpAny_pure ?_);refine wpAny_bind (wpAny_dictEpoch h1 h3 ?_);rw[if_neg (by simp)];refine wpAny_pure ?_;simp only[show ¬ ((i:Int)<0) from by omega,if_false,Int.toNat_natCast,Array.getElem?_eq_getElem hx];refine wpAny_bind ?_
 first|refine wpAny_bind (wpAny_typeNameOfWhole_keyiter ty (wpAny_pure ?_))|refine wpAny_bind (wpAny_typeNameOf_keyiter ty (wpAny_pure ?_))
 refine wpAny_bind (wpAny_isOneOf_keyiter ty ?_)
 show wpAny _ _ (setField (.ref it) 1 (rawInt ((i:Int)+1)) >>= _) _ _ s;refine wpAny_bind (wpAny_setField ho hd (by simp) ?_)
 have hJ':(s.heap.update it (Obj.mapFields (·.setIfInBounds 1 (rawInt ((i:Int)+1))))).IsKeyIter it d (i+1) es.size ep:=⟨_,Heap.get?_update_self _ ho (Obj.isFreed_of_fields (Obj.data_mapFields hd _)),(Obj.cls_mapFields ..).trans hc,by rw[Obj.data_mapFields hd];simp[rawInt]⟩;refine wpAny_bind (wpAny_holding ?_);refine wpAny_bind (wpAny_isOneOf_keyiter (s:={ s with heap:=s.heap.update it (Obj.mapFields (·.setIfInBounds 1 (rawInt ((i:Int)+1)))) }) hJ'.typeIs ?_)
 show wpAny _ _ (pure es[i].key) _ _ _
 exact wpAny_pure (wpAny_pure ⟨_,rfl,wpAny_pure (hQ _ hJ' (Heap.SameBut.update ..))⟩)
theorem qw8 {it d:Addr} {ep:Nat} {es:Array DictEntry} {Q:Option Value->Shared->Prop} (hh:A.handled=none) (hJ:s.heap.IsKeyIter it d es.size es.size ep) (hm:RawD s.heap d es ep)
  (hQ:∀ h',Heap.ExtBut it s.heap h'->Q none { s with heap:=h' }):wpAny (model prog w) A (pyNext (.ref it)) Q E s:=by
 obtain ⟨o,ho,hc,hd⟩:=id hJ;obtain ⟨od,h1,h2,h3⟩:=hm;have ty:=hJ.typeIs;unfold pyNext;refine wpAny_bind (wpAny_attempt (wpAny_callSpecial?_slot (name:=Str.ofString "__next__") ty F.slot_dict_keyiterator_next (wpAny_call_entry F.slot_dict_keyiterator_next ty F.entry_dict_keyiterator_next ?_ (F.args_dict_keyiterator_next_1 _))));refine wpAny_bind (wpAny_pure ?_);refine wpAny_bind ?_;refine wpAny_bind ?_
 first|refine wpAny_bind (wpAny_typeNameOfWhole_keyiter ty (wpAny_pure ?_))|refine wpAny_bind (wpAny_typeNameOf_keyiter ty (wpAny_pure ?_))
 refine wpAny_bind (wpAny_fieldsOf ho hd ?_);simp only[show Builtin.Dict_items.ownsTuple "dict_keyiterator" = false by decide,Bool.false_eq_true,if_false]
 show wpAny _ _ (if (Value.ref d == Value.none)=true then _ else _) _ _ s;rw[if_neg (show ¬ ((Value.ref d == Value.none)=true) from Bool.false_ne_true)]
 refine wpAny_bind (wpAny_pure ?_);refine wpAny_bind (wpAny_dictEntries h1 h3 ?_);rw[if_neg (by simp)];refine wpAny_bind (wpAny_pure ?_);refine wpAny_bind (wpAny_dictEpoch h1 h3 ?_);rw[if_neg (by simp)];refine wpAny_pure ?_;simp only[show ¬ ((es.size:Int)<0) from by omega,if_false,Int.toNat_natCast,Array.getElem?_eq_none (Nat.le_refl _)];refine wpAny_bind ?_
 first|refine wpAny_bind (wpAny_typeNameOfWhole_keyiter ty (wpAny_pure ?_))|refine wpAny_bind (wpAny_typeNameOf_keyiter ty (wpAny_pure ?_))
 show wpAny _ _ (setField (.ref it) 0 .none >>= _) _ _ s;refine wpAny_bind (wpAny_setField ho hd (by simp) ?_)
 show wpAny _ _ (newExc (.type "StopIteration") [] >>= _) _ _ _;refine wpAny_bind ?_
 simp only[newExc,newTuple];refine wpAny_bind (wpAny_newObj_type ?_ (by size_fits));refine wpAny_bind (m:=firstArgMember _ _) (wpAny_of_eq (a:=Value.none) (by first|rfl|(simp only[firstArgMember];rfl)) ?_);refine wpAny_newObj_type ?_ (by size_fits);simp only[raiseNew];refine wpAny_bind (wpAny_handled ?_);rw[show A.in1.handled=none from hh];refine wpAny_bind (wpAny_pure (wpAny_throw ?_));refine wpAny_bind (wpAny_isInstance (T:= "StopIteration") (b:=true) ⟨_,Heap.get?_push_size _ rfl,rfl⟩ isSubtype_stop ?_);exact wpAny_pure (hQ _ (((Heap.SameBut.update ..).extBut.push _).push _))
theorem qss (hh:A.handled=none) (J d:Addr) (hne:d≠J) (es:Array DictEntry) (ep:Nat) :
  Walks prog w A J [J,d] [J] es.size (λi v=>∃ e,es[i]?=some e/\v=e.key) (λi h=>h.IsKeyIter J d i es.size ep/\RawD h d es ep) where
 sub:=λb hb=>by simp at hb;simp[hb]
 frame:=λ_ _ _ st hk=>⟨st.1.at λo e=>hk J (by simp) o e,st.2.up λo e=>hk d (by simp) o e⟩
 item:=λi s Q E hi st hQ=>by
  refine qu4 st.1 st.2 hi λh' hJ' hs'=>?_
  exact hQ _ h' s.toks ⟨es[i],by simp[hi],rfl⟩ ⟨hJ',st.2.up λo e=>hs'.extBut d o hne e⟩ λb o hb e=>hs'.extBut b o (λh=>hb (by simp[h])) e
 done:=λs Q E st hQ=>qw8 hh st.1 st.2 λh' he'=>hQ h' s.toks λb o hb e=>he' b o (λh=>hb (by simp[h])) e
 self:=λ_ _ _ _ st hQ=>wpAny_pyIter_keyiter st.1 hQ
theorem qts {d:Addr} {es:Array DictEntry} {ep:Nat} (lo:(d == sysModules)=false):PySem.W.KdlSrc prog w "dict" d d es.size (λi v=>∃ e,es[i]?=some e/\v=e.key) (λh=>RawD h d es ep) where
 type:=λ_ hm=>hm.ty
 there:=λ_ hm=>⟨hm.lt,hm.lt⟩
 keep:=λ_ _ hm hk=>hm.up λo e=>hk d (.inl rfl) o e
 notList:=by decide
 notTuple:=by decide
 hint:=λ_ _ _ _ hm hq=>PySem.W.kdl_hint_dict hm.ty hq
 iter:=λ_ _ hh hm=>⟨_,_,(λ_ _ hq=>qu3 lo hm hq),qss hh _ d (Nat.ne_of_lt hm.lt) es ep,⟨⟨_,Heap.get?_push_size _ rfl,rfl,rfl⟩,hm.up λ_ e=>Heap.get?_push_of_some _ e⟩⟩
end
open PySem PySem.Spec PyProof.Rows
section
variable {prog:Program} {w:World} {A:Around} {E:Value->Shared->Prop} {s:Shared}
theorem qob {a:Addr} {vs:List Value} {n:Nat} {P:Fin->Shared->Prop} (ho:s.heap.get? a=some (seqObj "list" vs.toArray n)) (h2:vs.length<2)
  (h:P (.done (.ret .none)) { s with heap:=sortedHeap s.heap a vs ((vs.toArray.zip vs.toArray).map (·.2)) }):wpAny (model prog w) A (Builtin.«list.sort» ⟨[.ref a],[]⟩) P E s:=by
 rw[list_sort_plain];have la:a<s.heap.objs.size:=Heap.lt_size ho;refine wpAny_bind (listItems_at ho rfl ?_);refine wpAny_bind (listUpdate_at ho rfl ?_);obtain ⟨e1,h1⟩:∃ e1,(s.heap.update a (Obj.mapSeq λ_=>#[])).get? a=some (seqObj "list" #[] e1):=⟨_,get?_update_seq ho (λ_=>#[])⟩;refine wpAny_bind (seqEpoch_at h1 rfl ?_);refine wpAny_bind (wpAny_newTuple ?_);refine wpAny_bind (wpAny_newList ?_);refine wpAny_holding ?_;have h6:(((s.heap.update a (Obj.mapSeq λ_=>#[])).push (seqObj "tuple" vs.toArray 0)).push (seqObj "list" #[] 0)).get? a=some (seqObj "list" #[] e1):=by
  rw[Heap.get?_push_ne _ _ _ (by rw[size_push',Heap.size_update];exact Nat.ne_of_lt (Nat.lt_succ_of_lt la)),Heap.get?_push_ne _ _ _ (by rw[Heap.size_update];exact Nat.ne_of_lt la)];exact h1
 show wpAny (model prog w) A _ P E { s with heap:=((s.heap.update a (Obj.mapSeq λ_=>#[])).push (seqObj "tuple" vs.toArray 0)).push (seqObj "list" #[] 0) }
 dsimp only;have z2:vs.toArray.size<2:=by simpa using h2
 rw[if_pos z2,if_pos z2];refine wpAny_bind (wpAny_pure ?_);rw[StateT.run_pure];refine wpAny_bind (wpAny_pure ?_);dsimp only;refine wpAny_bind (seqEpoch_at h6 rfl ?_);refine wpAny_bind (listUpdate_at h6 rfl ?_ (hsz2:=by rw[Array.size_map];show (pairsOf vs).size<=_;rw[pairsOf_size,sizeLine_eq];omega));simp only[bne_self_eq_false,Bool.false_eq_true,if_false];exact wpAny_pure h
end
theorem qu5 (vs:List Value):(vs.toArray.zip vs.toArray).map (·.2)=vs.toArray:=by
 apply Array.ext'
 simpa using List.map_snd_zip (l₁:=vs) (l₂:=vs) (Nat.le_refl _)
section
variable {X:Cx}
end
open PySem PySem.Spec PyProof.Rows
section
variable {X:Cx} {tg:Expr}
end
section
variable {X:Cx}
inductive qp8 (K:Frag) (x y:V) (H:Hp) (Q:VK):Prop
 | mk:∀ a b xs ys,x=.ref a->y=.ref b->SqT K H a xs->SqT K H b ys->xs≠[]->ys≠[]->xs.length+ys.length<=sizeLine->(∀ p H',New H H' p (.tup (xs ++ ys))->Q (.ref p) H')->qp8 K x y H Q
def qp9 (K:Frag):R2:=λx y H Q=>qp8 K x y H Q
theorem qm7:OpR X (binaryOp .Add) (qp9 X.K):=op_catT.imp λ_ _ _ _ ⟨a,b,xs,ys,e1,e2,h1,h2,z,zy,hz,q⟩=>⟨a,b,xs,ys,e1,e2,h1,h2,z,hz,λe=>absurd e zy,λ_ p hp=>q p _ (qbj hp)⟩
def qw9:TE:=λ_ H Q=>∀ p H',New H H' p (.dT [])->Q (.ref p) H'
theorem qm8 {pos:Pos}:PE X (.Dict [] [] pos) qw9:=λpins s σ H Q I h=>qsb pins s σ H Q I λp hp=>h p _ (qbj hp)
end
open PySem PySem.Spec PyProof.Rows
end L2
namespace L2
theorem lq1 {α:Type} {us:List α} (h:us.length=1):∃ a,us=[a]:=by
 cases us with
 | nil=>cases h
 | cons a r=>exact ⟨a,by rw[List.length_eq_zero_iff.mp (Nat.succ.inj h)]⟩
theorem lq2 {α:Type} {us:List α} (h:us.length=2):∃ a0 a1,us=[a0,a1]:=by
 cases us with
 | nil=>cases h
 | cons a r=>obtain ⟨a1,e⟩:=lq1 (Nat.succ.inj h);exact ⟨a,a1,by rw[e]⟩
theorem lq3 {α:Type} {us:List α} (h:us.length=3):∃ a0 a1 a2,us=[a0,a1,a2]:=by
 cases us with
 | nil=>cases h
 | cons a r=>obtain ⟨a1,a2,e⟩:=lq2 (Nat.succ.inj h);exact ⟨a,a1,a2,by rw[e]⟩
theorem lq4 {α:Type} {us:List α} (h:us.length=4):∃ a0 a1 a2 a3,us=[a0,a1,a2,a3]:=by
 cases us with
 | nil=>cases h
 | cons a r=>obtain ⟨a1,a2,a3,e⟩:=lq3 (Nat.succ.inj h);exact ⟨a,a1,a2,a3,by rw[e]⟩
theorem lq5 {α:Type} {us:List α} (h:us.length=5):∃ a0 a1 a2 a3 a4,us=[a0,a1,a2,a3,a4]:=by
 cases us with
 | nil=>cases h
 | cons a r=>obtain ⟨a1,a2,a3,a4,e⟩:=lq4 (Nat.succ.inj h);exact ⟨a,a1,a2,a3,a4,by rw[e]⟩
theorem lq6 {α:Type} {us:List α} (h:us.length=6):∃ a0 a1 a2 a3 a4 a5,us=[a0,a1,a2,a3,a4,a5]:=by
 cases us with
 | nil=>cases h
 | cons a r=>obtain ⟨a1,a2,a3,a4,a5,e⟩:=lq5 (Nat.succ.inj h);exact ⟨a,a1,a2,a3,a4,a5,by rw[e]⟩
open PySem PySem.Spec PyProof.Rows PySem.W
def KW (lt:Nat->Nat->Bool) (n:Nat) {α:Type}:KasT α->(α->Prop)->Prop
 | .ret a,Q=>Q a
 | .ask i j k,Q=>i<n/\j<n/\KW lt n (k (lt i j)) Q
theorem KW.bind {lt:Nat->Nat->Bool} {n:Nat} {α β:Type} {f:α->KasT β} {Q:β->Prop}:∀ {t:KasT α},KW lt n t (λa=>KW lt n (f a) Q)->KW lt n (t.bind f) Q
 | .ret a,h=>by rw[KasT.bind.eq_1];exact h
 | .ask i j k,h=>by
  rw[KasT.bind.eq_2];exact ⟨h.1,h.2.1,KW.bind h.2.2⟩
theorem KW.mono {lt:Nat->Nat->Bool} {n:Nat} {α:Type} {Q Q':α->Prop} (hq:∀ a,Q a->Q' a):∀ {t:KasT α},KW lt n t Q->KW lt n t Q'
 | .ret a,h=>hq a h
 | .ask i j k,h=>⟨h.1,h.2.1,KW.mono hq h.2.2⟩
theorem KW.run {lt:Nat->Nat->Bool} {n:Nat} {α:Type} {Q:α->Prop} {cmp:Nat->Nat->(Bool->Shared->Prop)->Shared->Prop} {s:Shared} (hc:∀ i j (C:Bool->Shared->Prop),i<n->j<n->C (lt i j) s->cmp i j C s) :
  ∀ {t:KasT α},KW lt n t Q->KasT.kasWp cmp t (λa s'=>s'=s/\Q a) s
 | .ret a,h=>by rw[KasT.kasWp.eq_1];exact ⟨rfl,h⟩
 | .ask i j k,h=>by
  rw[KasT.kasWp.eq_2];exact hc i j _ h.1 h.2.1 (KW.run hc h.2.2)
structure qz2 (n:Nat) (lt:Nat->Nat->Bool):Prop where
 tot:∀ i j,i<n->j<n->i≠j->lt i j=false->lt j i=true
 tr:∀ i j k,i<n->j<n->k<n->lt i j=true->lt j k=true->lt i k=true
structure PermA (n:Nat) (p:Array Nat):Prop where
 sz:p.size=n
 perm:p.toList.Perm (List.range n)
theorem PermA.lt {n:Nat} {p:Array Nat} (h:PermA n p) {x:Nat} (hx:x<n):p.getD x 0<n:=by
 have hs:=h.sz;rw[Array.getD_eq_getD_getElem?,Array.getElem?_eq_getElem (by omega)];have:p[x]∈p.toList:=by simp
 exact List.mem_range.mp (h.perm.mem_iff.mp this)
theorem PermA.inj {n:Nat} {p:Array Nat} (h:PermA n p) {x y:Nat} (hx:x<n) (hy:y<n) (hne:x≠y):p.getD x 0≠p.getD y 0:=by
 have hs:=h.sz;have nd:p.toList.Nodup:=h.perm.nodup_iff.mpr List.nodup_range;rw[Array.getD_eq_getD_getElem?,Array.getElem?_eq_getElem (by omega),Array.getD_eq_getD_getElem?,Array.getElem?_eq_getElem (by omega)];intro e;have e':p.toList[x]'(by simpa using by omega)=p.toList[y]'(by simpa using by omega):=by simpa using e
 have pw:=List.pairwise_iff_getElem.mp nd
 rcases Nat.lt_or_gt_of_ne hne with h1|h1
 ·exact pw x y (by simpa using by omega) (by simpa using by omega) h1 e'
 ·exact pw y x (by simpa using by omega) (by simpa using by omega) h1 e'.symm
theorem PermA.of {n:Nat} {p q:Array Nat} (h:PermA n p) (hq:q.Perm p):PermA n q:=by
 have e:q.toList.Perm p.toList:=Array.perm_iff_toList_perm.mp hq;exact ⟨by have:=e.length_eq;simpa [h.sz] using this,e.trans h.perm⟩
def Asc (lt:Nat->Nat->Bool) (p:Array Nat) (b:Nat):Prop:=∀ x y,x<y->y<b->lt (p.getD x 0) (p.getD y 0)=true
structure OrdW (n:Nat) (lt:Nat->Nat->Bool):Prop where
 as_:∀ i j,i<n->j<n->lt i j=true->lt j i=false
 tr:∀ i j k,i<n->j<n->k<n->lt j i=false->lt k j=false->lt k i=false
theorem OrdW.irr {n:Nat} {lt:Nat->Nat->Bool} (O:OrdW n lt) {i:Nat} (h:i<n):lt i i=false:=by
 cases e:lt i i with
 | false=>rfl
 | true=>rw[<- e];exact O.as_ i i h h e
def qst (lt:Nat->Nat->Bool) (p:Array Nat) (b:Nat):Prop:=∀ x y,x<y->y<b->lt (p.getD y 0) (p.getD x 0)=false
def qrq (lt:Nat->Nat->Bool) (p:Array Nat) (b:Nat):Prop:=∀ x y,x<y->y<b->lt (p.getD x 0) (p.getD y 0)=false
def qjx (lt:Nat->Nat->Bool) (p:Array Nat) (i j:Nat):Prop:=∀ a b,i<=a->a<j->i<=b->b<j->lt (p.getD a 0) (p.getD b 0)=false
section
variable {lt:Nat->Nat->Bool} {n:Nat}
theorem qme (O:OrdW n lt) {p:Array Nat} (hp:PermA n p):∀ (f x:Nat),1<=x->x+f<=n->qst lt p x->KW lt n (kas_asc p f x) (λm=>x<=m/\m<=x+f/\qst lt p m/\(m=x+f\/lt (p.getD m 0) (p.getD (m-1) 0)=true))
 | 0,x,h1,hx,ha=>by rw[kas_asc.eq_1];exact ⟨Nat.le_refl _,Nat.le_refl _,ha,.inl rfl⟩
 | f+1,x,h1,hx,ha=>by
  rw[kas_asc.eq_2];refine ⟨hp.lt (by omega),hp.lt (by omega),?_⟩
  cases e:lt (p.getD x 0) (p.getD (x-1) 0) with
  | true=>dsimp only;rw[if_pos rfl];exact ⟨Nat.le_refl _,by omega,ha,.inr e⟩
  | false =>
   dsimp only;rw[if_neg Bool.false_ne_true];refine KW.mono (λm hm=>?_) (qme O hp f (x+1) (by omega) (by omega) ?_)
   ·obtain ⟨m1,m2,m3,m4⟩:=hm
    exact ⟨by omega,by omega,m3,m4.imp (λz=>by omega) id⟩
   ·intro a b hab hb
    by_cases hbx:b=x
    ·subst hbx
     by_cases hax:a=b-1
     ·subst hax;exact e
     ·exact O.tr _ _ _ (hp.lt (by omega)) (hp.lt (by omega)) (hp.lt (by omega)) (ha a (b-1) (by omega) (by omega)) e
    ·exact ha a b hab (by omega)
theorem qjy {p:Array Nat} (hp:PermA n p) {i m x:Nat} (hm:m<=n):(kas_rev p i m).getD x 0=if i<=x/\x<m then p.getD (i+m-1-x) 0 else p.getD x 0:=by
 have hs:=hp.sz;unfold kas_rev;rw[Array.getD_eq_getD_getElem?,getElem?_mirror_all (by omega)]
 split<;>rw[Array.getD_eq_getD_getElem?]
theorem qe1 {p:Array Nat} (hp:PermA n p) (i m:Nat):PermA n (kas_rev p i m):=hp.of (mirror_perm _ _ _ _)
theorem qm9 (O:OrdW n lt) {p:Array Nat} (hp:PermA n p) {i m:Nat} (hm:m<=n) (hs:qjx lt p i m) {a:Nat} (ha:a<n):lt ((kas_rev p i m).getD a 0) (p.getD a 0)=false/\lt (p.getD a 0) ((kas_rev p i m).getD a 0)=false:=by
 rw[qjy hp hm]
 split
 ·exact ⟨hs _ _ (by omega) (by omega) (by omega) (by omega),hs _ _ (by omega) (by omega) (by omega) (by omega)⟩
 ·exact ⟨O.irr (hp.lt ha),O.irr (hp.lt ha)⟩
theorem qqa (O:OrdW n lt) {p:Array Nat} (hp:PermA n p) {i m:Nat} (hm:m<=n) (hs:qjx lt p i m) {a b:Nat} (ha:a<n) (hb:b<n) (h:lt (p.getD a 0) (p.getD b 0)=false):lt ((kas_rev p i m).getD a 0) ((kas_rev p i m).getD b 0)=false:=by
 have hq:=qe1 hp i m;have h1:=qm9 O hp hm hs ha;have h2:=qm9 O hp hm hs hb;exact O.tr _ _ _ (hq.lt hb) (hp.lt ha) (hq.lt ha) (O.tr _ _ _ (hq.lt hb) (hp.lt hb) (hp.lt ha) h2.2 h) h1.1
theorem qqb (O:OrdW n lt) {p:Array Nat} (hp:PermA n p) {i m x:Nat} (hm:m<=n) (hx:x<=n) (hs:qjx lt p i m) (h:qrq lt p x):qrq lt (kas_rev p i m) x:=
 λa b hab hb=>qqa O hp hm hs (by omega) (by omega) (h a b hab hb)
theorem qhc (O:OrdW n lt):∀ (f:Nat) (p:Array Nat) (x q:Nat),PermA n p->2<=x->x+f<=n->q+1<=x->qrq lt p x->qjx lt p (x-(q+1)) x ->
  KW lt n (kas_desc f p x q) (λr=>PermA n r.1/\x<=r.2.1/\r.2.1<=x+f/\r.2.2+1<=r.2.1/\qrq lt r.1 r.2.1/\qjx lt r.1 (r.2.1-(r.2.2+1)) r.2.1)
 | 0,p,x,q,hp,h1,hx,hq,ha,hs=>by rw[kas_desc.eq_1];exact ⟨hp,Nat.le_refl _,Nat.le_refl _,hq,ha,hs⟩
 | f+1,p,x,q,hp,h1,hx,hq,ha,hs=>by
  rw[kas_desc.eq_2];refine ⟨hp.lt (by omega),hp.lt (by omega),?_⟩;have fin:∀ {t:KasT (Array Nat×Nat×Nat)},KW lt n t (λr=>PermA n r.1/\x+1<=r.2.1/\r.2.1<=x+1+f/\r.2.2+1<=r.2.1/\qrq lt r.1 r.2.1/\qjx lt r.1 (r.2.1-(r.2.2+1)) r.2.1)->KW lt n t (λr=>PermA n r.1/\x<=r.2.1/\r.2.1<=x+(f+1)/\r.2.2+1<=r.2.1/\qrq lt r.1 r.2.1/\qjx lt r.1 (r.2.1-(r.2.2+1)) r.2.1):=λh=>KW.mono (λr ⟨r1,r2,r3,r4,r5,r6⟩=>⟨r1,by omega,by omega,r4,r5,r6⟩) h
  have one:∀ (p':Array Nat),PermA n p'->qrq lt p' x->lt (p'.getD (x-1) 0) (p'.getD x 0)=false->qrq lt p' (x+1):=λp' hp' hd e a b hab hb=>by
   by_cases hbx:b=x
   ·subst hbx
    by_cases hax:a=b-1
    ·subst hax;exact e
    ·exact O.tr _ _ _ (hp'.lt (by omega)) (hp'.lt (by omega)) (hp'.lt (by omega)) e (hd a (b-1) (by omega) (by omega))
   ·exact hd a b hab (by omega)
  have seg1:∀ (p':Array Nat),PermA n p'->qjx lt p' (x+1-(0+1)) (x+1):=λp' hp' a b h1 h2 h3 h4=>by
   have ea:a=x:=by omega
   have eb:b=x:=by omega
   rw[ea,eb];exact O.irr (hp'.lt (by omega))
  cases e:lt (p.getD x 0) (p.getD (x-1) 0) with
  | true =>
   have e2:=O.as_ _ _ (hp.lt (by omega)) (hp.lt (by omega)) e;dsimp only;rw[if_pos rfl]
   by_cases hq0:q>0
   ·rw[if_pos hq0]
    have hp':=qe1 hp (x-(q+1)) x;refine fin (qhc O f _ (x+1) 0 hp' (by omega) (by omega) (by omega) (one _ hp' (qqb O hp (by omega) (by omega) hs ha) ?_) (seg1 _ hp'));exact qqa O hp (by omega) hs (by omega) (by omega) e2
   ·rw[if_neg hq0]
    exact fin (qhc O f _ (x+1) 0 hp (by omega) (by omega) (by omega) (one _ hp ha e2) (seg1 _ hp))
  | false =>
   dsimp only;rw[if_neg Bool.false_ne_true];refine ⟨hp.lt (by omega),hp.lt (by omega),?_⟩
   cases e2:lt (p.getD (x-1) 0) (p.getD x 0) with
   | true =>
    dsimp only;rw[if_pos rfl];exact ⟨hp,Nat.le_refl _,(show x<=x+(f+1) by omega),hq,ha,hs⟩
   | false =>
    dsimp only;rw[if_neg Bool.false_ne_true];refine fin (qhc O f _ (x+1) (q+1) hp (by omega) (by omega) (by omega) (one _ hp ha e2) ?_);have key:∀ a,x-(q+1)<=a->a<=x->lt (p.getD a 0) (p.getD x 0)=false/\lt (p.getD x 0) (p.getD a 0)=false:=λa h1 h2=>by
     by_cases hax:a=x
     ·rw[hax];exact ⟨O.irr (hp.lt (by omega)),O.irr (hp.lt (by omega))⟩
     ·have f1:=hs a (x-1) (by omega) (by omega) (by omega) (by omega)
      have f2:=hs (x-1) a (by omega) (by omega) (by omega) (by omega);exact ⟨O.tr _ _ _ (hp.lt (by omega)) (hp.lt (by omega)) (hp.lt (by omega)) e2 f1,O.tr _ _ _ (hp.lt (by omega)) (hp.lt (by omega)) (hp.lt (by omega)) f2 e⟩
    intro a b h1 h2 h3 h4;exact O.tr _ _ _ (hp.lt (by omega)) (hp.lt (show x<n by omega)) (hp.lt (by omega)) (key b (by omega) (by omega)).2 (key a (by omega) (by omega)).1
theorem qgx (O:OrdW n lt) {p:Array Nat} (hp:PermA n p) {m:Nat} (h1:1<=m) (hm:m<n) (hd:qrq lt p (m+1)):KW lt n (kas_descPart m n p) (λr=>PermA n r.2/\1<=r.1/\r.1<=n/\qst lt r.2 r.1):=by
 unfold kas_descPart;have tail:∀ {q:Array Nat} {x:Nat},PermA n q->1<=x->x<=n->qrq lt q x->KW lt n (kas_tail3 x n q) (λr=>PermA n r.2/\1<=r.1/\r.1<=n/\qst lt r.2 r.1):=fun {q x} hq hx1 hxn hdq=>by
  unfold kas_tail3;have hq':=qe1 hq 0 x;refine KW.bind (KW.mono (λm' hm'=>?_) (qme O hq' (n-x) x hx1 (by omega) ?_))
  ·obtain ⟨a1,a2,a3,_⟩:=hm'
   exact ⟨hq',by show 1<=m';omega,by show m'<=n;omega,a3⟩
  ·intro a b hab hb
   rw[qjy hq hxn,qjy hq hxn,if_pos ⟨Nat.zero_le _,hb⟩,if_pos ⟨Nat.zero_le _,by omega⟩];exact hdq _ _ (by omega) (by omega)
 refine KW.bind (KW.mono (λr hr=>?_) (qhc O (n-(m+1)) p (m+1) 0 hp (by omega) (by omega) (by omega) hd (λa b h1 h2 h3 h4=>?_)))
 ·obtain ⟨r1,r2,r3,r4,r5,r6⟩:=hr
  by_cases hq:r.2.2>0
  ·rw[if_pos hq]
   exact tail (qe1 r1 _ _) (by omega) (by omega) (qqb O r1 (by omega) (by omega) r6 r5)
  ·rw[if_neg hq]
   exact tail r1 (by omega) (by omega) r5
 ·have ea:a=m:=by omega
  have eb:b=m:=by omega
  rw[ea,eb];exact O.irr (hp.lt hm)
theorem qqc (O:OrdW n lt) {p:Array Nat} (hp:PermA n p) (hn:2<=n):KW lt n (kas_count n p) (λr=>PermA n r.2/\1<=r.1/\r.1<=n/\qst lt r.2 r.1):=by
 rw[kas_count.eq_1];refine KW.bind (KW.mono (λm hm=>?_) (qme O hp (n-1) 1 (Nat.le_refl _) (by omega) (λx y h1 h2=>by omega)));obtain ⟨m1,m2,m3,m4⟩:=hm
 by_cases hmn:m=n
 ·rw[if_pos (by simpa using hmn)]
  exact ⟨hp,by omega,by omega,m3⟩
 ·rw[if_neg (by simpa using hmn)]
  have d0:lt (p.getD m 0) (p.getD (m-1) 0)=true:=by
   rcases m4 with z|z
   ·omega
   ·exact z
  have d1:=O.as_ _ _ (hp.lt (by omega)) (hp.lt (by omega)) d0
  by_cases h1:m>1
  ·rw[if_pos h1]
   refine ⟨hp.lt (by omega),hp.lt (by omega),?_⟩
   cases e:lt (p.getD 0 0) (p.getD (m-1) 0) with
   | true =>
    dsimp only;rw[if_pos rfl];exact ⟨hp,by omega,by omega,m3⟩
   | false =>
    dsimp only;rw[if_neg Bool.false_ne_true];have le:∀ a b,a<=b->b<m->lt (p.getD b 0) (p.getD a 0)=false:=λa b hab hb=>by
     by_cases z:a=b
     ·rw[z];exact O.irr (hp.lt (by omega))
     ·exact m3 a b (by omega) hb
    have hs:qjx lt p 0 m:=λa b _ ha _ hb=>by
     exact O.tr _ _ _ (hp.lt (by omega)) (hp.lt (show 0<n by omega)) (hp.lt (by omega)) (O.tr _ _ _ (hp.lt (by omega)) (hp.lt (show m-1<n by omega)) (hp.lt (by omega)) (le b (m-1) (by omega) (by omega)) e) (le 0 a (by omega) ha)
    refine qgx O (qe1 hp 0 m) (by omega) (by omega) λa b hab hb=>qqa O hp (by omega) hs (by omega) (by omega) ?_
    by_cases hbm:b=m
    ·rw[hbm]
     exact O.tr _ _ _ (hp.lt (by omega)) (hp.lt (show m-1<n by omega)) (hp.lt (by omega)) d1 (hs a (m-1) (by omega) (by omega) (by omega) (by omega))
    ·exact hs a b (by omega) (by omega) (by omega) (by omega)
  ·rw[if_neg h1]
   have em:m=1:=by omega
   subst em;refine qgx O hp (Nat.le_refl _) (by omega) λa b hab hb=>?_
   have ea:a=0:=by omega
   have eb:b=1:=by omega
   rw[ea,eb];exact d1
theorem qhv (O:OrdW n lt) {p:Array Nat} (hp:PermA n p) {k:Nat} (hk:k<n) (ha:qst lt p k):∀ (f lo hi:Nat),lo<=hi->hi<=k->hi-lo<=f->(∀ j,j<lo->lt (p.getD k 0) (p.getD j 0)=false)->(∀ j,hi<=j->j<k->lt (p.getD j 0) (p.getD k 0)=false) ->
  KW lt n (kas_place p k f lo hi) (λl=>l<=k/\(∀ j,j<l->lt (p.getD k 0) (p.getD j 0)=false)/\∀ j,l<=j->j<k->lt (p.getD j 0) (p.getD k 0)=false)
 | 0,lo,hi,h1,h2,h3,h4,h5=>by
  rw[kas_place.eq_1];exact ⟨by omega,h4,λj hj=>h5 j (by omega)⟩
 | f+1,lo,hi,h1,h2,h3,h4,h5=>by
  rw[kas_place.eq_2]
  by_cases hlt:lo ≥ hi
  ·rw[if_pos hlt]
   exact ⟨by omega,h4,λj hj=>h5 j (by omega)⟩
  ·rw[if_neg hlt]
   refine ⟨hp.lt hk,hp.lt (by omega),?_⟩;have le:∀ a b,a<=b->b<k->lt (p.getD b 0) (p.getD a 0)=false:=λa b hab hb=>by
    by_cases z:a=b
    ·rw[z];exact O.irr (hp.lt (by omega))
    ·exact ha a b (by omega) hb
   cases e:lt (p.getD k 0) (p.getD ((lo+hi) / 2) 0) with
   | true =>
    dsimp only;rw[if_pos rfl];have e2:=O.as_ _ _ (hp.lt hk) (hp.lt (by omega)) e;refine qhv O hp hk ha f lo ((lo+hi) / 2) (by omega) (by omega) (by omega) h4 λj hj hjk=>?_
    exact O.tr _ _ _ (hp.lt hk) (hp.lt (by omega)) (hp.lt (by omega)) e2 (le _ j hj hjk)
   | false =>
    dsimp only;rw[if_neg Bool.false_ne_true];refine qhv O hp hk ha f ((lo+hi) / 2+1) hi (by omega) h2 (by omega) (λj hj=>?_) h5;exact O.tr _ _ _ (hp.lt (by omega)) (hp.lt (show (lo+hi) / 2<n by omega)) (hp.lt hk) (le j _ (by omega) (by omega)) e
theorem qqd (O:OrdW n lt):∀ (f:Nat) (p:Array Nat) (k:Nat),PermA n p->1<=k->k+f=n->qst lt p k->KW lt n (kas_bin f p k) (λq=>PermA n q/\qst lt q n)
 | 0,p,k,hp,h1,hk,ha=>by
  rw[kas_bin.eq_1];have:k=n:=by omega
  subst this;exact ⟨hp,ha⟩
 | f+1,p,k,hp,h1,hk,ha=>by
  rw[kas_bin.eq_2];have hkn:k<n:=by omega
  have hs:=hp.sz;refine KW.bind (KW.mono (λl hl=>?_) (qhv O hp hkn ha k 0 k (Nat.zero_le _) (Nat.le_refl _) (by omega) (λj hj=>by omega) (λj h1 h2=>by omega)));obtain ⟨l1,l2,l3⟩:=hl;have hq:PermA n (bubble p k (k-l)):=hp.of (bubble_perm _ _ _);refine qqd O f _ (k+1) hq (by omega) (by omega) ?_;have hg:∀ x,(bubble p k (k-l)).getD x 0=if x=l then p.getD k 0 else if l<x/\x<=k then p.getD (x-1) 0 else p.getD x 0:=λx=>by
   rw[Array.getD_eq_getD_getElem?,getElem?_bubble (by omega) (k-l) (by omega),show k-(k-l)=l by omega]
   split
   ·rw[Array.getD_eq_getD_getElem?]
   ·split<;>rw[Array.getD_eq_getD_getElem?]
  intro x y hxy hy;rw[hg x,hg y]
  by_cases hx:x=l
  ·rw[if_pos hx,if_neg (by omega),if_pos ⟨by omega,by omega⟩]
   exact l3 _ (by omega) (by omega)
  ·rw[if_neg hx]
   by_cases hy2:y=l
   ·rw[if_pos hy2,if_neg (by omega)]
    exact l2 _ (by omega)
   ·rw[if_neg hy2]
    by_cases hx3:l<x/\x<=k
    ·rw[if_pos hx3,if_pos ⟨by omega,by omega⟩]
     exact ha _ _ (by omega) (by omega)
    ·rw[if_neg hx3]
     by_cases hy3:l<y/\y<=k
     ·rw[if_pos hy3]
      exact ha _ _ (by omega) (by omega)
     ·rw[if_neg hy3]
      exact ha _ _ hxy (by omega)
theorem qsu (O:OrdW n lt) (hn:2<=n):KW lt n (kas_sort n) (λq=>PermA n q/\qst lt q n):=by
 unfold kas_sort;have hp:PermA n (List.range n).toArray:=⟨by simp,by simp⟩;refine KW.bind (KW.mono (λr hr=>?_) (qqc O hp hn));obtain ⟨r1,r2,r3,r4⟩:=hr
 by_cases h:r.1<n
 ·rw[if_pos h,Nat.max_eq_left r2]
  exact qqd O _ _ _ r1 r2 (by omega) r4
 ·rw[if_neg h]
  have e:r.1=n:=by omega
  rw[e] at r4;exact ⟨r1,r4⟩
end
theorem qu6 {lt:Nat->Nat->Bool} {n:Nat} (O:qz2 n lt) (W:OrdW n lt) (hn:2<=n):KW lt n (kas_sort n) (λq=>PermA n q/\Asc lt q n):=KW.mono (λ_ h=>⟨h.1,λx y hxy hy=>O.tot _ _ (h.1.lt hy) (h.1.lt (by omega)) (h.1.inj hy (by omega) (by omega)) (h.2 x y hxy hy)⟩) (qsu W hn)
open PySem PySem.Spec PyProof.Rows PySem.W
def blt:List Int->List Int->Bool
 | [],[]=>false
 | [],_ :: _=>true
 | _ :: _,[]=>false
 | a :: r,b :: t=>if a=b then blt r t else decide (a<b)
theorem qft:∀ (k l:List Int),k≠l->blt k l=false->blt l k=true
 | [],[],h,_=>absurd rfl h
 | [],_ :: _,_,h=>by simp[blt] at h
 | _ :: _,[],_,_=>rfl
 | a :: r,b :: t,h,e=>by
  unfold blt at e ⊢
  by_cases hab:a=b
  ·subst hab
   rw[if_pos rfl] at e ⊢;exact qft r t (λz=>h (by rw[z])) e
  ·rw[if_neg hab] at e
   rw[if_neg (λz=>hab z.symm)]
   simp at e ⊢
   omega
theorem qi7:∀ (k l m:List Int),blt k l=true->blt l m=true->blt k m=true
 | [],[],_,h,_=>by simp[blt] at h
 | _ :: _,[],_,h,_=>by simp[blt] at h
 | [],_ :: _,[],_,h=>by simp[blt] at h
 | _ :: _,_ :: _,[],_,h=>by simp[blt] at h
 | [],_ :: _,_ :: _,_,_=>rfl
 | a :: r,b :: t,c :: u,h1,h2=>by
  unfold blt at h1 h2 ⊢
  by_cases hab:a=b
  ·subst hab
   rw[if_pos rfl] at h1
   by_cases hbc:a=c
   ·subst hbc
    rw[if_pos rfl] at h2 ⊢;exact qi7 r t u h1 h2
   ·rw[if_neg hbc] at h2 ⊢
    exact h2
  ·rw[if_neg hab] at h1
   by_cases hbc:b=c
   ·subst hbc
    rw[if_neg hab];exact h1
   ·rw[if_neg hbc] at h2
    simp at h1 h2
    rw[if_neg (by omega)]
    simp;omega
theorem qhw:∀ k:List Int,blt k k=false
 | []=>rfl
 | a :: r=>by unfold blt;rw[if_pos rfl];exact qhw r
def ltK (ks:List (List Int)) (i j:Nat):Bool:=blt (ks.getD i []) (ks.getD j [])
theorem qAu (ks:List (List Int)) (nd:ks.Nodup):qz2 ks.length (ltK ks) where
 tot:=λi j hi hj hne e=>by
  refine qft _ _ (λz=>?_) e;rw[List.getD_eq_getElem?_getD,List.getD_eq_getElem?_getD,List.getElem?_eq_getElem hi,List.getElem?_eq_getElem hj] at z;have pw:=List.pairwise_iff_getElem.mp nd
  rcases Nat.lt_or_gt_of_ne hne with h|h
  ·exact pw i j hi hj h z
  ·exact pw j i hj hi h z.symm
 tr:=λi j k _ _ _ h1 h2=>qi7 _ _ _ h1 h2
theorem qtt {k l:List Int} (h:blt k l=true):blt l k=false:=by
 cases e:blt l k with
 | false=>rfl
 | true =>
  have:=qi7 k l k h e;rw[qhw] at this;cases this
theorem qxa {k l m:List Int} (h1:blt l k=false) (h2:blt m l=false):blt m k=false:=by
 by_cases e1:k=l
 ·rw[e1];exact h2
 ·by_cases e2:l=m
  ·rw[<- e2];exact h1
  ·exact qtt (qi7 _ _ _ (qft _ _ (λz=>e1 z.symm) h1) (qft _ _ (λz=>e2 z.symm) h2))
theorem qzf (ks:List (List Int)):OrdW ks.length (ltK ks):=⟨λ_ _ _ _ h=>qtt h,λ_ _ _ _ _ _ h1 h2=>qxa h1 h2⟩
def qu7 (h:Heap) (v:Value) (k:List Int):Prop:=∃ b o xs e,v=.ref b/\h.get? b=some o/\o.cls=.type "tuple" /\ o.data=.seq xs e/\Vals (k.map V.int) xs.toList
section
variable {prog:Program} {w:World} {A:Around} {E:Value->Shared->Prop} {s:Shared}
theorem qna {b fin:Bool} {Q:Bool->Shared->Prop}:∀ (k l:List Int) (us ws:List Value) (i:Nat),Vals (k.map V.int) us->Vals (l.map V.int) ws->fin=decide (k.length<l.length)->Q (blt k l) s->KatLex prog w A b fin Q (us.zip ws) i s
 | [],l,us,ws,i,hu,hw,hf,q=>by
  cases us with
  | cons _ _=>exact absurd hu.length (by simp)
  | nil =>
   rw[List.zip_nil_left];refine kat_nil ?_;rw[hf]
   cases l with
   | nil=>exact q
   | cons _ _=>exact q
 | x :: k,[],us,ws,i,hu,hw,hf,q=>by
  cases ws with
  | cons _ _=>exact absurd hw.length (by simp)
  | nil =>
   rw[List.zip_nil_right];refine kat_nil ?_;rw[hf];exact q
 | x :: k,y :: l,us,ws,i,hu,hw,hf,q=>by
  cases us with
  | nil=>exact absurd hu.length (by simp)
  | cons u us =>
   cases ws with
   | nil=>exact absurd hw.length (by simp)
   | cons v ws =>
    rw[List.map_cons] at hu hw
    cases hu with
    | cons hx hu =>
     cases hw with
     | cons hy hw =>
      obtain ⟨t,rfl⟩:=(show ∃ t,u=Value.int x t from hx);obtain ⟨t',rfl⟩:=(show ∃ t,v=Value.int y t from hy);rw[List.zip_cons_cons];refine kat_cons (wpAny_eqBool_int ?_)
      by_cases hxy:x=y
      ·subst hxy
       rw[show (x == x)=true by simp];refine kat_yes (qna k l us ws (i+1) hu hw (by rw[hf];simp) ?_);unfold blt at q
       rwa [if_pos rfl] at q
      ·rw[show (x == y)=false by simpa using hxy]
       unfold blt at q;rw[if_neg hxy] at q;refine kat_no ?_
       cases (b && i == 0) with
       | true=>exact oneLt_int q
       | false=>exact kat_one _ _ (lt_int q)
theorem qxb {b:Bool} {Q:Bool->Shared->Prop} {x y:Value} {k l:List Int} (hx:qu7 s.heap x k) (hy:qu7 s.heap y l) (q:Q (blt k l) s):wpAny (model prog w) A (keyLt' (tuples' b) x y) Q E s:=by
 obtain ⟨a,o,xs,e,rfl,h1,h2,h3,h4⟩:=hx;obtain ⟨a',o',xs',e',rfl,h1',h2',h3',h4'⟩:=hy;refine kat_lt h1 h3 h1' h3' (qna k l _ _ 0 h4 h4' ?_ q);have e1:k.length=xs.size:=by have:=h4.length;simpa using this
 have e2:l.length=xs'.size:=by have:=h4'.length;simpa using this
 rw[e1,e2]
theorem qtu {h:Heap}:∀ {vs:List Value} {ks:List (List Int)},vs.length=ks.length->(∀ (i:Nat) v k,vs[i]?=some v->ks[i]?=some k->qu7 h v k/\k≠[])->∃ fs,KatTups h vs fs/\fs.length=vs.length/\∀ v∈fs,∃ i t,v=Value.int i t
 | [],[],_,_=>⟨[],.nil,rfl,λv hv=>by cases hv⟩
 | v :: vs,k :: ks,hl,H=>by
  obtain ⟨fs,f1,f2,f3⟩:=qtu (vs:=vs) (ks:=ks) (by simpa using hl) (λi v k e1 e2=>H (i+1) v k (by simpa using e1) (by simpa using e2));obtain ⟨⟨b,o,xs,e,rfl,h1,h2,h3,h4⟩,hne⟩:=H 0 v k rfl rfl
  cases k with
  | nil=>exact absurd rfl hne
  | cons i r =>
   obtain ⟨u,us,eu,hu⟩:∃ u us,xs.toList=u :: us/\RelV (.int i) u:=by
    generalize xs.toList=ys at h4
    cases h4 with
    | cons hx _=>exact ⟨_,_,rfl,hx⟩
   obtain ⟨t,rfl⟩:=(show ∃ t,u=Value.int i t from hu);refine ⟨Value.int i t :: fs,?_,by simp[f2],λv hv=>?_⟩
   ·rw[KatTups.eq_2]
    refine ⟨⟨b,o,xs,e,rfl,h1,h2,h3,?_⟩,f1⟩;rw[<- Array.getElem?_toList,eu];rfl
   ·rcases List.mem_cons.mp hv with h|h
    ·exact ⟨i,t,h⟩
    ·exact f3 v h
theorem qqe {a:Addr} {vs:List Value} {n:Nat} {P:Fin->Shared->Prop} {ks:List (List Int)} (ho:s.heap.get? a=some (seqObj "list" vs.toArray n)) (h2:2<=vs.length) (h64:vs.length<64) (hl:vs.length=ks.length) (nd:ks.Nodup)
  (hT:∀ (i:Nat) v k,vs[i]?=some v->ks[i]?=some k->qu7 s.heap v k/\k≠[])
  (h:∀ p:Array Nat,PermA ks.length p->Asc (ltK ks) p ks.length->P (.done (.ret .none)) { s with heap:=sortedHeap s.heap a vs (p.map λi=>vs.getD i .none) }):wpAny (model prog w) A (Builtin.«list.sort» ⟨[.ref a],[]⟩) P E s:=by
 rw[list_sort_plain];have la:a<s.heap.objs.size:=Heap.lt_size ho;refine wpAny_bind (listItems_at ho rfl ?_);refine wpAny_bind (listUpdate_at ho rfl ?_);obtain ⟨e1,h1⟩:∃ e1,(s.heap.update a (Obj.mapSeq λ_=>#[])).get? a=some (seqObj "list" #[] e1):=⟨_,get?_update_seq ho (λ_=>#[])⟩;refine wpAny_bind (seqEpoch_at h1 rfl ?_);refine wpAny_bind (wpAny_newTuple ?_ (by simp only[List.toList_toArray];rw[sizeLine_eq];omega));refine wpAny_bind (wpAny_newList ?_);refine wpAny_holding ?_;have h6:(((s.heap.update a (Obj.mapSeq λ_=>#[])).push (seqObj "tuple" vs.toArray 0)).push (seqObj "list" #[] 0)).get? a=some (seqObj "list" #[] e1):=by
  rw[Heap.get?_push_ne _ _ _ (by rw[size_push',Heap.size_update];exact Nat.ne_of_lt (Nat.lt_succ_of_lt la)),Heap.get?_push_ne _ _ _ (by rw[Heap.size_update];exact Nat.ne_of_lt la)];exact h1
 show wpAny (model prog w) A _ P E { s with heap:=((s.heap.update a (Obj.mapSeq λ_=>#[])).push (seqObj "tuple" vs.toArray 0)).push (seqObj "list" #[] 0) }
 obtain ⟨s3,es3⟩:∃ s3:Shared,s3={ s with heap:=((s.heap.update a (Obj.mapSeq λ_=>#[])).push (seqObj "tuple" vs.toArray 0)).push (seqObj "list" #[] 0) }:=⟨_,rfl⟩;have hT3:∀ (i:Nat) v k,vs[i]?=some v->ks[i]?=some k->qu7 s3.heap v k/\k≠[]:=λi v k q1 q2=>by
  obtain ⟨⟨b,o,xs,e,rfl,g1,g2,g3,g4⟩,hne⟩:=hT i v k q1 q2;refine ⟨⟨b,o,xs,e,rfl,?_,g2,g3,g4⟩,hne⟩;have hba:b≠a:=λz=>by
   subst z;rw[ho] at g1;cases g1;have g2':(Value.type "list" : Value)=Value.type "tuple" :=g2;injection g2' with e'
   exact absurd e' (by decide)
  rw[es3];exact Heap.get?_push_of_some _ (Heap.get?_push_of_some _ ((Heap.SameBut.update s.heap a _).extBut b o hba g1))
 obtain ⟨fs,f1,f2,f3⟩:=qtu hl hT3;have z2:¬ vs.toArray.size<2:=by simpa using by omega
 dsimp only;rw[if_neg z2,if_neg z2,<- es3];refine wpAny_bind (kat_kind (T:=.type "int") f1 (by omega) (λv hv=>?_) (by decide) ?_)
 ·obtain ⟨i,t,rfl⟩:=f3 v hv
  exact Looks.of_pure rfl
 have hrun:=kas_runs (prog:=prog) (w:=w) (A:=A) (E:=E) (κ:=tuples' true) (it:=pairsOf vs) (n:=ks.length) (s:=s3) (G:=λp s'=>s'=s3/\PermA ks.length p/\Asc (ltK ks) p ks.length)
  (Q:=λ_ st' s'=>s'=s3/\failedOf st'=none/\∃ p,arrOf st'=p.map (kas_item (pairsOf vs))/\PermA ks.length p/\Asc (ltK ks) p ks.length) (by omega) (by omega)
  (λp st' s' hz ha hf hG=>⟨hG.1,hf,p,ha,hG.2⟩)
  (KW.run (λi j C hi hj hC=>by
   unfold kas_cmp;rw[kas_item_eq,kas_item_eq];have q1:vs[i]?=some (vs.getD i .none):=by rw[List.getD_eq_getElem?_getD,List.getElem?_eq_getElem (by omega)];rfl
   have q2:vs[j]?=some (vs.getD j .none):=by rw[List.getD_eq_getElem?_getD,List.getElem?_eq_getElem (by omega)];rfl
   have q3:ks[i]?=some (ks.getD i []):=by rw[List.getD_eq_getElem?_getD,List.getElem?_eq_getElem hi];rfl
   have q4:ks[j]?=some (ks.getD j []):=by rw[List.getD_eq_getElem?_getD,List.getElem?_eq_getElem hj];rfl
   exact qxb (hT3 i _ _ q1 q3).1 (hT3 j _ _ q2 q4).1 hC) (qu6 (qAu ks nd) (qzf ks) (by omega)))
 have est:kas_st (tuples' true) (pairsOf vs) (List.range ks.length).toArray=SortSt.mk' (tuples' true) (vs.toArray.zip vs.toArray) #[] 7 none:=by
  unfold kas_st;have:=kas_range (pairsOf vs);rw[pairsOf_size,hl] at this;rw[this];rfl
 rw[est] at hrun
 show wpAny (model prog w) A (sortRuns'.run (SortSt.mk' (tuples' true) (vs.toArray.zip vs.toArray) #[] 7 none) >>= _) P E s3
 refine wpAny_bind (wpAny_mono hrun (λr s' hq=>?_) λ_ _ z=>z);obtain ⟨rfl,hf,p,hp,hq⟩:=hq;have h6':s'.heap.get? a=some (seqObj "list" #[] e1):=by rw[es3];exact h6
 have hz:((arrOf r.2).map (·.2)).size<=sizeLine:=by rw[Array.size_map,hp,Array.size_map,hq.1.sz,sizeLine_eq];omega
 refine wpAny_bind (seqEpoch_at h6' rfl ?_);refine wpAny_bind (listUpdate_at h6' rfl ?_ (hsz2:=Nat.le_succ_of_le hz));rw[hf];simp only[bne_self_eq_false,Bool.false_eq_true,if_false];refine wpAny_pure ?_;have:=h p hq.1 hq.2;rw[es3];rw[hp,Array.map_map];have ef:((λx:Keyed=>x.2) ∘ kas_item (pairsOf vs))=λi=>vs.getD i .none:=by
  funext i
  show (kas_item (pairsOf vs) i).2=_
  rw[kas_item_eq]
 rw[ef];exact this
end
open PySem PySem.Spec PyProof.Rows PySem.W
def pick {α:Type} (idx:List Nat) (xs:List α) (d:α):List α:=idx.map λi=>xs.getD i d
theorem qgn {α:Type} (xs:List α) (d:α):pick (List.range xs.length) xs d=xs:=by
 unfold pick
 apply List.ext_getElem?
 intro i;rw[List.getElem?_map]
 by_cases h:i<xs.length
 ·rw[List.getElem?_range h,List.getElem?_eq_getElem h]
  simp[List.getD_eq_getElem?_getD,List.getElem?_eq_getElem h]
 ·rw[List.getElem?_eq_none (by simpa using by omega),List.getElem?_eq_none (by omega)];rfl
theorem qqf {α:Type} {idx:List Nat} {xs:List α} {d:α} (h:idx.Perm (List.range xs.length)):(pick idx xs d).Perm xs:=by
 have:=h.map (λi=>xs.getD i d);have e:=qgn xs d;unfold pick at e;rw[e] at this;exact this
def TupsH (H:Hp) (xs:List V) (ks:List (List Int)):Prop:=Paired (λv r=>∃ a,v=V.ref a/\H a=some (.tup (r.map V.int))) xs ks
theorem TupsH.len {H:Hp}:∀ {xs:List V} {ks:List (List Int)},TupsH H xs ks->xs.length=ks.length
 | _,_,.nil=>rfl
 | _,_,.cons _ t=>by simp[TupsH.len t]
theorem TupsH.get {H:Hp}:∀ {xs:List V} {ks:List (List Int)} {i:Nat} {x:V} {k:List Int},TupsH H xs ks->xs[i]?=some x->ks[i]?=some k->∃ a,x=.ref a/\H a=some (.tup (k.map V.int))
 | _,_,_,_,_,.nil,e,_=>by simp at e
 | _,_,0,_,_,.cons r _,e,f=>by simp at e f;subst e f;exact r
 | _,_,i+1,x,k,.cons _ t,e,f=>TupsH.get (i:=i) t (by simpa using e) (by simpa using f)
theorem TupsH.pick {H:Hp} {xs:List V} {ks:List (List Int)} (h:TupsH H xs ks):∀ {idx:List Nat},(∀ i∈idx,i<ks.length)->TupsH H (pick idx xs .non) (pick idx ks [])
 | [],_=>.nil
 | i :: r,hi=>by
  have h0:=hi i List.mem_cons_self;have hl:=h.len;refine .cons (h.get (i:=i) ?_ ?_) (TupsH.pick h λj hj=>hi j (List.mem_cons_of_mem _ hj))
  ·show xs[i]?=some (xs.getD i .non)
   rw[List.getD_eq_getElem?_getD,List.getElem?_eq_getElem (by omega)];rfl
  ·show ks[i]?=some (ks.getD i [])
   rw[List.getD_eq_getElem?_getD,List.getElem?_eq_getElem h0];rfl
theorem qkz {xs:List V} {vs:List Value} (h:Vals xs vs):∀ {idx:List Nat},(∀ i∈idx,i<xs.length)->Vals (pick idx xs .non) (pick idx vs .none)
 | [],_=>.nil
 | i :: r,hi=>by
  have h0:=hi i List.mem_cons_self;have hl:=h.length;refine .cons ?_ (qkz h λj hj=>hi j (List.mem_cons_of_mem _ hj))
  show RelV (xs.getD i .non) (vs.getD i .none)
  rw[List.getD_eq_getElem?_getD,List.getElem?_eq_getElem h0,List.getD_eq_getElem?_getD,List.getElem?_eq_getElem (by omega)];exact qhx h h0 (by omega)
where
 qhx:∀ {xs:List V} {vs:List Value} {i:Nat},Vals xs vs->(h1:i<xs.length)->(h2:i<vs.length)->RelV xs[i] vs[i]
  | _,_,0,.cons r _,_,_=>r
  | _,_,i+1,.cons _ t,h1,h2=>qhx (i:=i) t (by simpa using h1) (by simpa using h2)
section
variable {prog:Program} {w:World} {A:Around} {E:Value->Shared->Prop} {s:Shared}
theorem qsv {a:Addr} {vs:List Value} {n:Nat} {P:Fin->Shared->Prop} {ks:List (List Int)} (ho:s.heap.get? a=some (seqObj "list" vs.toArray n)) (h64:vs.length<64) (hl:vs.length=ks.length) (nd:ks.Nodup)
  (hT:∀ (i:Nat) v k,vs[i]?=some v->ks[i]?=some k->qu7 s.heap v k/\k≠[])
  (h:∀ idx:List Nat,idx.Perm (List.range ks.length)->(pick idx ks []).Pairwise (λk l=>blt k l=true)->P (.done (.ret .none)) { s with heap:=sortedHeap s.heap a vs (pick idx vs .none).toArray }):wpAny (model prog w) A (Builtin.«list.sort» ⟨[.ref a],[]⟩) P E s:=by
 by_cases h2:vs.length<2
 ·refine qob ho h2 ?_
  have:=h (List.range ks.length) (.refl _) (by
   rw[qgn]
   match ks,hl with
   | [],_=>exact .nil
   | [k],_=>exact List.pairwise_singleton _ _
   | _ :: _ :: _,hl=>simp at hl;omega)
  rw[<- hl,qgn] at this;rw[qu5];exact this
 ·refine qqe ho (by omega) h64 hl nd hT λp hp ha=>?_
  have e:(p.map λi=>vs.getD i .none)=(pick p.toList vs .none).toArray:=by
   apply Array.ext'
   simp[pick]
  rw[e];refine h p.toList hp.perm ?_;rw[List.pairwise_iff_getElem];intro i j hi hj hij;have hs:=hp.sz;have li:i<p.size:=by simpa [pick] using hi
  have lj:j<p.size:=by simpa [pick] using hj
  have:=ha i j hij (by omega);unfold ltK at this;rw[Array.getD_eq_getD_getElem?,Array.getElem?_eq_getElem li,Array.getD_eq_getD_getElem?,Array.getElem?_eq_getElem lj] at this
  simpa [pick] using this
end
section
variable {X:Cx}
theorem qu8 {pins:List (Addr×Obj)} {σ:St} {H:Hp} {s:Shared} {a:Addr} {k:List Int} (I:Inv X pins σ H s) (h:H a=some (.tup (k.map V.int))):qu7 s.heap (.ref a) k:=by
 obtain ⟨its,rv,p,_⟩:=I.tuple (SqT.of h);obtain ⟨o,h1,h2,n,h3⟩:=(show s.heap.IsTuple a its.toArray from p);exact ⟨a,o,its.toArray,n,rfl,h1,h2,h3,by simpa using rv⟩
def qxc:List V->Hp->VK->Prop:=λxs H Q=>∃ (a:Addr) (kvs:List (List Key×V)) (ks:List (List Int)),xs=[.ref a]/\H a=some (.dT kvs)/\kvs.map (·.1)=ks.map (λk=>k.map Sum.inl)/\ks.length<64/\ks.Nodup/\(∀ k∈ks,k≠[]) /\
 ∀ ms zs l H',ms.Perm ks->ms.Pairwise (λk l=>blt k l=true)->TupsH H zs ms->New H H' l (.lst zs)->Q (.ref l) H'
theorem qqg {H:Hp}:∀ {kvs:List (List Key×V)} {ys:List (List Key×Addr×Value)} {ks:List (List Int)},KT H kvs ys->kvs.map (·.1)=ks.map (λk=>k.map Sum.inl)->TupsH H (ys.map λy=>V.ref y.2.1) ks
 | [],_,ks,.nil,e=>by
  cases ks with
  | nil=>exact .nil
  | cons _ _=>cases e
 | p :: r,_,ks,.cons (b:=y) hy t,e=>by
  cases ks with
  | nil=>cases e
  | cons k ks =>
   rw[List.map_cons,List.map_cons] at e;injection e with e1 e2
   refine .cons ⟨y.2.1,rfl,?_⟩ (qqg t e2);have:=hy.2.1;rw[e1] at this;rw[this,List.map_map];rfl
theorem qk0:∀ ys:List (List Key×Addr×Value),Vals (ys.map λy=>V.ref y.2.1) (ys.map λy=>Value.ref y.2.1)
 | []=>.nil
 | _ :: r=>.cons rfl (qk0 r)
theorem qgy (hc:X.calm=true):CallR X (.builtin "sorted") qxc:=by
 intro pins s σ H xs us Q I r h;obtain ⟨a,kvs,ks,rfl,ha,ek,h64,nd,hne,q⟩:=h;obtain ⟨u,rfl,rx⟩:=vals1 r
 cases (show u=Value.ref a from rx)
 obtain ⟨hz,lo,ys,kt,o,es,ep,e1,e2,e3,e4,_⟩:=qwl I.hok ha;have hR:RawD s.heap a es ep:=⟨o,e1,e2,e3⟩;have hT:=qqg kt ek;have lk:kvs.length=ks.length:=by have:=congrArg List.length ek;simpa using this
 have ly:ys.length=ks.length:=by have:=hT.len;simpa using this
 have hl:es.size=ys.length:=by rw[<- Array.length_toList,e4,List.length_map]
 refine Calls.call_function_entry kind_sorted plain_sorted entry_sorted (args_sorted1 _) ?_;unfold Builtin.«sorted»;refine wpAny_bind (m:=checkCount "sorted" 1 1 _) (wpAny_pure ?_);refine wpAny_bind (PySem.W.kdu_collect (qts lo) (I.ok.hd hc) hR (by rw[sizeLine_eq];omega) λh' tk acc hk hacc=>?_);have hlen:acc.toList.length=ks.length:=by rw[Array.length_toList,hacc.1,hl,ly]
 have hacc':acc.toList=ys.map λy=>Value.ref y.2.1:=by
  apply List.ext_getElem?
  intro i
  by_cases hi:i<ys.length
  ·obtain ⟨v,hv⟩:∃ v,acc.toList[i]?=some v:=⟨_,List.getElem?_eq_getElem (by omega)⟩
   obtain ⟨e,he,hve⟩:=hacc.2 i v (by rw[<- Array.getElem?_toList];exact hv);rw[<- Array.getElem?_toList,e4,List.getElem?_map,List.getElem?_eq_getElem hi] at he;cases he;rw[hv,List.getElem?_map,List.getElem?_eq_getElem hi,hve];rfl
  ·rw[List.getElem?_eq_none (by omega),List.getElem?_eq_none (by simpa using by omega)]
 have I':Inv X pins σ H { s with heap:=h',toks:=tk }:=I.kept hk;have rv:Vals (ys.map λy=>V.ref y.2.1) acc.toList:=by
  rw[hacc'];exact qk0 ys
 refine wpAny_bind (wpAny_newList ?_ (by rw[hlen,sizeLine_eq];omega));have hS:(h'.push (seqObj "list" acc.toList.toArray 0)).get? h'.objs.size=some (seqObj "list" acc.toList.toArray 0):=Heap.get?_push_size _ rfl;refine wpAny_bind (wpAny_holding (wpAny_call_entry slot_list_sort ⟨_,hS,rfl⟩ entry_list_sort (qsv (s:={ s with heap:=h'.push (seqObj "list" acc.toList.toArray 0),toks:=tk }) (ks:=ks) hS (by omega) hlen nd (λi v k q1 q2=>?_) λidx i1 i2=>⟨_,rfl,?_⟩) (args_list_sort _)))
 ·obtain ⟨y,hy⟩:∃ y,ys[i]?=some y:=⟨_,List.getElem?_eq_getElem (by have:=(List.getElem?_eq_some_iff.mp q2).1;omega)⟩
  obtain ⟨b,eb,hb⟩:=hT.get (i:=i) (by rw[List.getElem?_map,hy];rfl) q2;cases eb;have hv:v=Value.ref y.2.1:=by
   rw[hacc',List.getElem?_map,hy] at q1;exact (Option.some.inj q1).symm
  subst hv;obtain ⟨b,o,xs,e,e1,g1,g2⟩:=qu8 I' hb;exact ⟨⟨b,o,xs,e,e1,Heap.get?_push_of_some _ g1,g2⟩,hne k (List.mem_of_getElem? q2)⟩
 ·refine wpAny_pure ⟨_,rfl,?_⟩
  have hi:∀ i∈idx,i<ks.length:=λi h=>List.mem_range.mp (i1.mem_iff.mp h)
  have hil:=i1.length_eq;rw[List.length_range] at hil;obtain ⟨c,hat⟩:∃ c,(sortedHeap (h'.push (seqObj "list" acc.toList.toArray 0)) h'.objs.size acc.toList (pick idx acc.toList .none).toArray).get? h'.objs.size=some (seqObj "list" (pick idx acc.toList .none).toArray c):=sortedHeap_at hS;have kp:∀ b ob,h'.get? b=some ob->(sortedHeap (h'.push (seqObj "list" acc.toList.toArray 0)) h'.objs.size acc.toList (pick idx acc.toList .none).toArray).get? b=some ob:=λb ob hb=>by
   have lb:=Heap.lt_size hb;rw[sortedHeap_old (Nat.ne_of_lt lb) (by rw[size_push'];exact Nat.lt_succ_of_lt lb)];exact Heap.get?_push_of_some _ hb
  have vp:Vals (pick idx (ys.map λy=>V.ref y.2.1) .non) (pick idx acc.toList .none):=qkz rv (λi h=>by have:=hi i h;simp;omega);refine ⟨.ref h'.objs.size,_,I'.laid (t':=tk) (o:=.lst (pick idx (ys.map λy=>V.ref y.2.1) .non)) kp (Nat.le_refl _) ⟨?_,pick idx acc.toList .none,c,vp,hat⟩,rfl,q (pick idx ks []) _ _ _ (qqf i1) i2 (hT.pick hi) (qbj (I'.hok.fresh (Nat.le_refl _)))⟩
  show (pick idx _ V.non).length<=_
  unfold pick;rw[List.length_map,sizeLine_eq];omega
end
open PySem PySem.Spec PyProof.Rows
section
variable {X:Cx} {k:Nat} {C:Addr} {ps:List Str} {sp:Sp} {dvs:List V} {ds:List Value} {m:Str} {pos apos:Pos} {e o:Expr} {es:List Expr} {ta:TE} {t:TA}
end
open PySem PySem.Spec PyProof.Rows PySem.W
section
variable {prog:Program} {w:World} {A:Around} {E:Value->Shared->Prop} {s:Shared}
end
section
variable {X:Cx} {pos:Pos}
end
open PySem PySem.Spec PyProof.Rows
section
variable {prog:Program} {w:World} {A:Around} {E:Value->Shared->Prop} {s:Shared}
end
open PySem PySem.Spec PyProof.Rows
section
variable {X:Cx} {pins:List (Addr×Obj)} {σ:St} {H:Hp} {s:Shared} {d:Addr}
end
section
variable {X:Cx}
end
open PySem PySem.Spec PyProof.Rows
section
variable {prog:Program} {w:World} {A:Around} {E:Value->Shared->Prop} {h:Heap} {g:Array GenState} {d:Drawn} {t:Nat} {os:OsState}
variable {nm q:Str} {C N x:Addr} {bs bm:List Value} {hdct:Bool} {sn:List Str} {sub:List Value} {ab:Bool} {col:Option Bool} {dd:Option Addr} {k0 k1 k2 k3 k5:Option Value}
end
section
variable {prog:Program} {w:World} {A:Around} {E:Value->Shared->Prop} {K:Frag} {h:Heap} {g:Array GenState} {d:Drawn} {t:Nat} {os:OsState} {C f x:Addr} {o:Obj} {vs:Array Value}
end
open PySem PySem.Spec PyProof.Rows
section
variable {prog:Program} {w:World} {A:Around} {E:Value->Shared->Prop} {s:Shared} {K:Frag} {a D:Addr} {oe:Obj} {od:Option Obj}
end
open PySem PySem.Spec PyProof.Rows
end L2
namespace L2
open PySem PySem.Spec PyProof.Rows PySem.Builtin PySem.Builtin.Str
def slS (x:Str) (lo hi:Option Int):Str:=
 if ((strSliceIndices lo hi 1 x.length).length == x.length)=true then x else ⟨((strSliceIndices lo hi 1 x.length).filterMap (x.cps[·]?)).toArray⟩
def qAv:V->Option Int->Option Int->Hp->VK->Prop:=λx lo hi H Q=>∃ z,x=.str z/\(slS z lo hi).length<=sizeLine/\Q (.str (slS z lo hi)) H
theorem qtv {X:Cx}:SlR X qAv:=by
 intro pins s σ H x v vl vu lo hi sl Q I rx hs pl pu h;obtain ⟨z,rfl,hz,q⟩:=h;obtain ⟨t,rfl⟩:=rx;obtain ⟨l,el,el2⟩:∃ l:Option (Int×Tok),vl=partValue l/\l.map (·.1)=lo:=by
  cases pl with
  | none=>exact ⟨none,rfl,rfl⟩
  | int i t=>exact ⟨some (i,t),rfl,rfl⟩
 obtain ⟨u,eu,eu2⟩:∃ u:Option (Int×Tok),vu=partValue u/\u.map (·.1)=hi:=by
  cases pu with
  | none=>exact ⟨none,rfl,rfl⟩
  | int i t=>exact ⟨some (i,t),rfl,rfl⟩
 subst el eu el2 eu2;have hs':s.heap.IsSlice sl l u none:=hs;refine ⟨"str",_,F.slot_str_getitem.lookup,typeIs_str _ _ _,wpAny_getItem_str_slice (l:=l) (u:=u) (st:=none) hs' rfl ?_⟩;unfold slS at q hz;unfold sliceMade slicePicked
 by_cases c:((strSliceIndices (l.map (·.1)) (u.map (·.1)) 1 z.length).length == z.length)=true
 ·rw[if_pos c] at q
  rw[if_pos (by simpa using c)];exact ⟨.str z,H,I,⟨_,rfl⟩,q⟩
 ·rw[if_neg c] at q hz
  rw[if_neg (by simpa using c)];exact ⟨hz,⟨.str _,H,I.tok _,⟨_,rfl⟩,q⟩⟩
open PySem PySem.Spec PyProof.Rows PySem.W
end L2
namespace L2
open PySem PySem.Spec PyProof.Rows PySem.W
section
variable {prog:Program} {w:World} {A:Around} {E:Value->Shared->Prop} {s:Shared}
end
section
variable {X:Cx}
end
open PySem PySem.Spec PyProof.Rows
section
variable {prog:Program} {w:World} {A:Around} {R:Result->Shared->Prop} {I:Addr} {fp wr:List Addr} {n:Nat} {P:Nat->Value->Prop} {St:Nat->Heap->Prop} {K:Type} [DecidableEq K] {knd:KeyKind prog w K}
end
open PySem PySem.Spec PyProof.Rows
section
variable {prog:Program} {w:World} {A:Around} {E:Value->Shared->Prop} {s:Shared} {K:Type} [DecidableEq K] {knd:KeyKind prog w K}
end
open PySem PySem.Spec PyProof.Rows
section
variable {X:Cx} {k:Nat} {ps:List Str} {sp:Sp} {dvs:List V} {ds:List Value} {x:Str} {p pos:Pos} {e:Expr} {es:List Expr} {t:TA}
end
open PySem
end L2
namespace L2
open PySem
def qu9:TE:=λ_ H Q=>∀ p H',New H H' p (.dK [])->Q (.ref p) H'
theorem qf4 {X:Cx} {pos:Pos}:PE X (.Dict [] [] pos) qu9:=λpins s σ H Q I h=>qsa pins s σ H Q I λp hp=>h p _ (qbj hp)
open PySem
section
variable {X:Cx}
end
open PySem PyProof PyProof.Rows
section
variable {X:Cx}
end
open PySem PySem.Calls PySem.NumText PyProof.Rows
section
variable {prog:Program} {w:World} {A:Around} {E:Value->Shared->Prop} {s:Shared} {Q:Value->Shared->Prop} {x:PySem.Str} {t:Tok} {n:Int}
end
open PySem PySem.Spec PyProof.Rows PySem.Builtin PySem.Builtin.Str
def S (l:List Nat):Str:=⟨l.toArray⟩
theorem qfn (l:List Nat):(S l).length=l.length:=by show l.toArray.size=_;simp
theorem qva {a b:List Nat} (h:S a=S b):a=b:=by
 have:=congrArg (λx:Str=>x.cps.toList) h
 simpa [S] using this
theorem qxd (a b:List Nat):S a ++ S b=S (a ++ b):=by
 show (⟨a.toArray ++ b.toArray⟩:Str)=⟨(a ++ b).toArray⟩
 simp
theorem qk1 {X:Cx}:CallR X (.builtin "len") (λxs H Q=>∃ z,xs=[.str (S z)]/\z.length<=sizeLine/\Q (.int z.length) H):=by
 intro pins s σ H xs us Q I r h;obtain ⟨z,rfl,hz,q⟩:=h;exact qrz pins s σ H _ us Q I r ⟨_,_,rfl,⟨by rw[qfn];exact hz,rfl⟩,by rw[qfn];exact q⟩
theorem qtw {X:Cx} {a b:Expr} {ta tb:TE} {pos:Pos} (ha:PE X a ta) (hb:PE X b tb) (hs:qry b) :
  PE X (.Subscript a b pos) (tOp (λx y H Q=>∃ z i c,x=.str (S z)/\y=.int i/\0<=i/\i<2 ^ 63/\z[i.toNat]?=some c/\Q (.str (S [c])) H) ta tb):=by
 intro pins s σ H Q I h;refine Subscript_ (qya ha hb I h λv u s2 x y H2 I2 rx ry q=>?_);obtain ⟨z,i,c,rfl,rfl,h0,h63,hc,q⟩:=q;obtain ⟨t,rfl⟩:=rx;obtain ⟨t',rfl⟩:=ry;have hl:=(List.getElem?_eq_some_iff.mp hc).1;have e:seqIndex? i (S z).length=some i.toNat:=PySem.StrLaws.seqIndex_nonneg h0 (by rw[qfn];omega);exact tail_any (typeIs_str s2 (S z) t) PySem.F.slot_str_getitem.lookup (getItem_str (c:=c) (by
  have e1:decide (i < -(2 ^ 63:Int))=false:=decide_eq_false (by omega);have e2:decide (i ≥ 2 ^ 63)=false:=decide_eq_false (by omega);rw[e1,e2]<;>rfl) (by rw[e];simpa [S] using hc) ⟨.str (S [c]),H2,I2.tok _,⟨_,rfl⟩,q⟩) (hs _ _)
def Its (x:List Nat):It:=⟨λi _=>i<x.length,λi H v H'=>H'=H/\∃ c,x[i]?=some c/\v=.str (S [c]),λi _=>i=x.length⟩
theorem qnb {P:Program} {w:World} {K:Frag} {tg:Expr} (it:Addr) (x:List Nat) (t:Tok) (ty:String) (hty:ty = "str_ascii_iterator" \/ ty = "str_iterator"):Turn P w K tg (Its x) [it] it (λi h=>h.IsStrIter it ty (S x) t i) where
 mem:=by simp
 obj:=λi h st b hb=>by
  have e:b=it:=by simpa using hb
  subst e;obtain ⟨o,e,c,d⟩:=st;exact ⟨o,e,λv z=>by rw[d] at z;cases z⟩
 keep:=λi h h' st k=>by
  obtain ⟨o,ho,r⟩:=st;exact ⟨o,k it (by simp) o ho,r⟩
 item:=by
  intro X hP hw hK hc i pins s σ H E I hf st hg;subst hP hw hK;obtain ⟨f0,f1,f2,f3,f4,f5⟩:=hf it (by simp);have W:Walks X.prog X.w X.A it [it] [it] (S x).cps.size (SignAt (S x)) (λi h=>h.IsStrIter it ty (S x) t i):=by
   rcases hty with rfl|rfl
   ·exact Walks.strAscii (I.ok.hd hc) it (S x) t
   ·exact Walks.strWide (I.ok.hd hc) it (S x) t
  refine W.item i s _ _ (by have hg':i<x.length:=hg;show i<x.toArray.size;simpa using hg') st λv h' tk hv st' kk=>?_
  obtain ⟨c,u,hx,rfl⟩:=hv;have I1:Inv X pins σ H { s with heap:=h',toks:=tk }:=I.turned (λb o hb e=>kk b o (by simpa using hb) e) f0 f1 f3 f4 f5;obtain ⟨o,e,hcl,d⟩:=id st';exact ⟨_,rfl,qug (s:={ s with heap:=h',toks:=tk }) e hcl d (by rcases hty with rfl|rfl<;>decide) ⟨.str (S [c]),H,I1,⟨u,rfl⟩,⟨rfl,c,by simpa [S] using hx,rfl⟩,st',λb hb=>(hf b hb).1⟩⟩
 done:=by
  intro X hP hw hK hc i pins s σ H E I hf st hg;subst hP hw hK;obtain ⟨f0,f1,f2,f3,f4,f5⟩:=hf it (by simp);have W:Walks X.prog X.w X.A it [it] [it] (S x).cps.size (SignAt (S x)) (λi h=>h.IsStrIter it ty (S x) t i):=by
   rcases hty with rfl|rfl
   ·exact Walks.strAscii (I.ok.hd hc) it (S x) t
   ·exact Walks.strWide (I.ok.hd hc) it (S x) t
  have e:i=(S x).cps.size:=by
   have h2:i=x.length:=hg;rw[h2];show x.length=x.toArray.size;simp
  subst e;exact W.done s _ _ st λh' tk kk=>⟨rfl,I.turned (λb o hb e=>kk b o (by simpa using hb) e) f0 f1 f3 f4 f5⟩
 self:=λA i s Q E st h=>by
  rcases hty with rfl|rfl
  ·exact wpAny_pyIter_striter_ascii st h
  ·exact wpAny_pyIter_striter_wide st h
def qAw (tl:TE):TI:=λσ H R=>tl σ H λx H1=>∃ z,x=.str (S z)/\R (Its z) H1
theorem qxe {X:Cx} {tg l:Expr} {tl:TE} (hl:PE X l tl):PI X tg l (qAw tl):=by
 intro pins s σ H R I h;refine thn (hl pins s σ H _ I h) λv s1 hq__=>?_
 obtain ⟨x,H1,I1,r1,q1⟩:=hq__;obtain ⟨z,e,q⟩:=q1;subst e;obtain ⟨t,rfl⟩:=r1;have fin:∀ b∈[s1.heap.objs.size],qmv X pins H1 b:=λb hb=>by
  have e:b=s1.heap.objs.size:=by simpa using hb
  subst e;exact I1.fpOk (Nat.le_refl _) (I1.hok.fresh (Nat.le_refl _))
 cases ha:(S z).cps.all (· < 128)
 ·exact wpAny_pyIter_wide ha ⟨s1.heap.objs.size,[s1.heap.objs.size],_,_,H1,rfl,I1.kept (t':=s1.toks) λb o e=>Heap.get?_push_of_some _ e,qnb _ z t "str_iterator" (.inr rfl),⟨_,Heap.get?_push_size _ rfl,rfl,rfl⟩,fin,q⟩
 ·exact wpAny_pyIter_ascii ha ⟨s1.heap.objs.size,[s1.heap.objs.size],_,_,H1,rfl,I1.kept (t':=s1.toks) λb o e=>Heap.get?_push_of_some _ e,qnb _ z t "str_ascii_iterator" (.inl rfl),⟨_,Heap.get?_push_size _ rfl,rfl,rfl⟩,fin,q⟩
theorem qxf {x:List Nat} {g:TG} {tc:TT} {te:TE} {Q:VK} {σ:St} {H:Hp} (Pv:Nat->List V->Hp->Prop) (hz:x.length<=sizeLine) (h0:Pv 0 [] H) (hl:∀ i ys H,Pv i ys H->ys.length<=i)
  (hs:∀ i c ys H,x[i]?=some c->Pv i ys H->g (.str (S [c])) σ H λσ4 H4=>tc σ4 H4 λb H5=>if b=true then te σ4 H5 λv H6=>Pv (i+1) (ys ++ [v]) H6 else Pv (i+1) ys H5)
  (hd:∀ ys H p H',Pv x.length ys H->New H H' p (.lst ys)->Q (.ref p) H'):qf2 (Its x) Q g tc te σ H:=by
 refine ⟨λi m ys H=>m=x.length-i/\i<=x.length/\Pv i ys H,⟨x.length,by simp,Nat.zero_le _,h0⟩,?_⟩;rintro i m ys H2 ⟨rfl,hi,p⟩;have hy:=hl i ys H2 p
 by_cases hlt:i<x.length
 ·refine .inr ⟨hlt,by omega,Pv (i+1),λzs H' p'=>⟨x.length-(i+1),by omega,rfl,hlt,p'⟩,λv H3 y=>?_⟩
  obtain ⟨e,c,y,z⟩:=y;subst e z;exact hs i c ys _ y p
 ·have e:i=x.length:=by omega
  subst e;exact .inl ⟨rfl,by omega,λp' hp'=>hd ys H2 p' _ p (qbj hp')⟩
theorem qjz (K:Frag):PySem.W.kitOne K (.type "str") (.type "str")=some true:=by rfl
theorem qxg {X:Cx}:OpR X (compareOp .In) (λx y H Q=>∃ c j,x=.str (S [c])/\y=.str j/\Q (.bl (decide (c∈j.cps.toList))) H):=by
 intro pins s σ H x y v u Q I rx ry h;obtain ⟨c,j,rfl,rfl,q⟩:=h;exact qpg pins s σ H _ _ v u Q I rx ry ⟨_,j,rfl,rfl,by rw[show S [c]=⟨#[c]⟩ from rfl,PySem.StrLaws.found_one];exact q⟩
theorem qtx (x:List Nat) {a b:Nat} (hab:a<=b) (hb:b<=x.length) {lo hi:Option Int} (h:strSliceIndices lo hi 1 (S x).length=strSliceIndices (some (a:Int)) (some (b:Int)) 1 (S x).length):slS (S x) lo hi=S ((x.drop a).take (b-a)):=by
 have hb':b<=(S x).length:=by rw[qfn];exact hb
 have e:=PySem.StrLaws.sliced_plain (S x) hab hb';unfold slS;rw[h]
 by_cases c:((strSliceIndices (some (a:Int)) (some (b:Int)) 1 (S x).length).length == (S x).length)=true
 ·rw[if_pos c]
  have hl:b-a=x.length:=by
   have:=eq_of_beq c;rw[PySem.StrLaws.strSliceIndices_plain hab hb',qfn] at this
   simpa using this
  have h1:a=0:=by omega
  rw[h1,List.drop_zero,Nat.sub_zero,List.take_of_length_le (by omega)]
 ·rw[if_neg c,e]
  show (⟨_⟩:Str)=⟨_⟩
  simp[S]
theorem qvb (x:List Nat) {k:Nat} (h:k<=x.length):slS (S x) none (some (k:Int))=S (x.take k):=by
 have e:=qtx x (Nat.zero_le k) h (lo:=none) (hi:=some (k:Int)) (by
  unfold strSliceIndices;have:max (0:Int) (min (0:Int) ((S x).length:Int))=0:=by omega
  simp[this])
 simpa using e
theorem qvc (x:List Nat) (k:Nat):slS (S x) (some (k:Int)) none=S (x.drop k):=by
 have key:∀ k:Nat,k<=x.length->slS (S x) (some (k:Int)) none=S (x.drop k):=λk hk=>by
  have e:=qtx x hk (Nat.le_refl _) (lo:=some (k:Int)) (hi:=none) (by
   rw[qfn];unfold strSliceIndices;have h1:max (0:Int) (min (x.length:Int) (x.length:Int))=x.length:=by omega
   have h2:¬ (x.length:Int)<0:=by omega
   simp[h1,h2])
  rw[e,List.take_of_length_le (by simp)]
 by_cases hk:k<=x.length
 ·exact key k hk
 ·have h1:=key x.length (Nat.le_refl _)
  rw[List.drop_eq_nil_of_le (by omega)];rw[List.drop_eq_nil_of_le (by omega)] at h1;rw[<- h1];unfold slS;rw[indices_beyond (n:=(S x).length) (i:=(k:Int)) (by rw[qfn];omega),qfn]
open PySem PySem.Spec PyProof.Rows PySem.Builtin PySem.Builtin.Str
def qix (sep:List Nat):List (List Nat)->List Nat
 | []=>[]
 | [p]=>p
 | p :: ps=>p ++ sep ++ qix sep ps
theorem qty (sep:List Nat):∀ (ps:List (List Nat)) (a:List Nat),(ps.map S).foldl (λacc p=>acc ++ (S sep).cps ++ p.cps) a.toArray=(match ps with|[]=>a|_=>a ++ sep ++ qix sep ps).toArray
 | [],a=>rfl
 | [p],a=>by
  show (a.toArray ++ sep.toArray ++ p.toArray)=_
  simp[qix]
 | p :: r :: ps,a=>by
  have ih:=qty sep (r :: ps) (a ++ sep ++ p);rw[List.map_cons,List.foldl_cons];have e:a.toArray ++ (S sep).cps ++ (S p).cps=(a ++ sep ++ p).toArray:=by show a.toArray ++ sep.toArray ++ p.toArray=_;simp
  rw[e,ih]
  simp[qix]
theorem qxh (sep:List Nat) (ps:List (List Nat)):PySem.Txt.join (S sep) (ps.map S)=S (qix sep ps):=by
 unfold PySem.Txt.join glued
 cases ps with
 | nil=>rfl
 | cons p ps =>
  show (⟨(ps.map S).foldl (λacc p=>acc ++ (S sep).cps ++ p.cps) p.toArray⟩:Str)=_
  rw[qty]
  cases ps with
  | nil=>rfl
  | cons r ps=>simp[qix,S]
def rJoin (K:Frag) (x:V) (vs:List V) (H:Hp) (Q:VK):Prop:=∃ sep ps p,x=.str (S sep)/\vs=[.ref p]/\SqL K H p (ps.map λq=>V.str (S q))/\(ps.map List.length).sum+ps.length*sep.length<=1000000/\Q (.str (S (qix sep ps))) H
theorem qnc:∀ {ps:List (List Nat)} {us:List Value},Vals (ps.map λq=>V.str (S q)) us->StrsAre us (ps.map S)
 | [],_,.nil=>.nil
 | p :: ps,_,.cons ⟨t,e⟩ r=>by subst e;exact .cons _ _ (qnc r)
theorem qvd {X:Cx}:MtR X "str.join" (rJoin X.K):=by
 intro pins s σ H x xs v us Q I rx r h;obtain ⟨sep,ps,p,rfl,rfl,hq,hz,q⟩:=h;obtain ⟨t,rfl⟩:=rx;obtain ⟨u,rfl,ru⟩:=vals1 r
 cases (show u=Value.ref p from ru)
 obtain ⟨its,rv,pl,_⟩:=I.list hq;refine join_list (ys:=ps.map S) pl.isList (by simpa using qnc rv) ?_ λt' k=>⟨.str (S (qix sep ps)),H,I.tok _,⟨t',by rw[qxh]⟩,q⟩
 have e:((ps.map S).map (·.length))=ps.map List.length:=by
  rw[List.map_map];exact List.map_congr_left λl _=>qfn l
 rw[e,List.length_map,qfn];omega
open PySem PySem.Spec PyProof.Rows
section
variable {X:Cx} {pins:List (Addr×Obj)} {σ:St} {H:Hp} {s:Shared} {scope:Scope} {cl:List (Str×Addr)} {vars frees:List Str} {fv:List Nat} {elt target iter:Expr} {ifs:List Expr} {pos:Pos}
end
section
variable {X:Cx} {σ:St} {EK:XK} {C:Addr} {k:Nat} {x:Str} {ps:List Str} {ds:List Value} {dvs:List V} {sp:Sp} {e:Expr} {es:List Expr} {t:TA} {p pos:Pos} {Nc:List Str} {scope:Scope} {cl:List (Str×Addr)} {s0:Shared} {H0:Hp} {ex:List Addr}
end
open PySem PySem.Spec PyProof.Rows
theorem qgo:∀ {ss:List Str} {us:List Value},Vals (ss.map V.str) us->StrsAre us ss
 | [],_,.nil=>.nil
 | s :: ss,_,.cons ⟨t,e⟩ r=>by subst e;exact .cons _ _ (qgo r)
theorem qhy:∀ {ss:List Str} {us:List Value},StrsAre us ss->Vals (ss.map V.str) us
 | _,_,.nil=>.nil
 | _,_,.cons y t r=>.cons ⟨t,rfl⟩ (qhy r)
theorem qk2 {X:Cx}:CallR X (.builtin "sorted") (λxs H Q=>∃ (p:Addr) (ss:List Str),xs=[.ref p]/\SqL X.K H p (ss.map V.str)/\ss.length<64/\∀ (ms:List Str) l H',ms.Perm ss->sortedS ms=true->New H H' l (.lst (ms.map V.str))->Q (.ref l) H'):=by
 intro pins s σ H xs us Q I r h;obtain ⟨p,ss,rfl,hq,h64,q⟩:=h;obtain ⟨u,rfl,ru⟩:=vals1 r
 cases (show u=Value.ref p from ru)
 obtain ⟨its,rv,pl,hz⟩:=I.list hq;have hi:StrsAre its ss:=qgo rv;have hln:its.length=ss.length:=by have:=rv.length;simpa using this.symm
 refine sorted_strs pl.isList hi (by omega) λout ms a1 a2 a3=>?_
 obtain ⟨e,he⟩:=sortedAll_at s.heap its out;have hl:ms.length<=sizeLine:=by rw[a2.length_eq];simpa using hz
 refine ⟨.ref (s.heap.objs.size+1),upd H (s.heap.objs.size+1) (.lst (ms.map V.str)),I.laid (t':=s.toks) (λ_ _=>sortedAll_old) (Nat.le_succ _) ⟨by simpa using hl,out.toList,e,qhy a1,?_⟩,rfl,q ms _ _ a2 a3 (qbj (I.hok.fresh (Nat.le_succ _)))⟩;rw[he]
open PySem PySem.Spec PyProof.Rows
theorem qj0:plainId "set.update.loop" = true:=by decide +kernel
theorem qnd:entryFor table "set.update.loop" = some Builtin.«set.update.loop» :=entryFor_of_fast (by kernel_rfl)
theorem qmf (a:Value):checkTypeCall "set" ⟨[a],[]⟩=pure ():=by kernel_rfl
theorem qoc (a:Value):checkBuiltinCall "set.__new__" ⟨[.type "set",a],[]⟩=pure ():=by kernel_rfl
section
variable {prog:Program} {w:World} {A:Around} {E:Value->Shared->Prop} {s:Shared}
theorem qsw {M:Model} {self a:Value} {Q:Unit->Shared->Prop} (hT:s.TypeIs self "set") (hQ:Q () s) :
  wpAny M A (checkBuiltinCall "set.__init__" ⟨[self,a],[]⟩) Q E s:=by
 simp only[checkBuiltinCall,kind_set_init,split_set_init,sig_set_init];refine wpAny_bind (wpAny_isInstance hT sub_set_self ?_);simp only[Bool.not_true,Bool.false_eq_true,if_false];unfold Bind.checkArgs;dsimp only;refine wpAny_bind (m:=Bind.printed "set" true _ _) (PyProof.Rows.printed_name (by decide) ?_);refine wpAny_bind (m:=Bind.printed "*" false _ _) (PyProof.Rows.printed_star (self:=self) rfl hT λshort=>?_);have hrn:(Manifest.Receiver.self == Manifest.Receiver.none)=false:=by decide
 have hn:(if (Manifest.Receiver.self == Manifest.Receiver.none)=true then [self,a].length else [self,a].length-1)=1:=by simp[hrn]
 rw[hn];simp only[List.map_nil];have hc:Bind.check ⟨.positional, "set", "*",.self,[⟨"iterable",.posOnly,false⟩]⟩ "set" short 1 []=pure ():=by
  simp[Bind.check,Bind.checkCount,Bind.isPositional]
  intro h;exact absurd h (by decide)
 rw[hc];exact wpAny_pure hQ
theorem qxi (a:Value) {Q₁:Value->Shared->Prop}
  (h:∀ led:Bool,Q₁ (.ref s.heap.objs.size) { s with heap:=s.heap.push { cls:=.type "set",dict:=none,data:=.set #[] 0 (.fresh 0 0 led) } }) :
  codeAny (model prog w) A (.call (.builtin "set.__new__") ⟨[.type "set",a],[]⟩) (wants Q₁ E) s:=by
 refine codeAny_of_tree ?_
 show wpAny _ A.in1 (do checkBuiltinCall "set.__new__" ⟨[.type "set",a],[]⟩;again (.builtin "set.__new__" ⟨[.type "set",a],[]⟩)) _ _ s
 refine wpAny_bind (wpAny_of_eq (qoc a) (wpAny_pure ⟨plainId_quiet F.plain_set_new _,codeAny_builtin F.entry_set_new ?_⟩));rw[Around.under_plainId F.plain_set_new _];unfold Builtin.«set.__new__» Builtin.Frozenset.newClass;have hsub:=sub_set_self;obtain ⟨hp,g,d,tk,os⟩:=s;dsimp only
 wp_walk
 refine wpAny_askSetting (wpAny_pure ?_);dsimp only;simp only[newObj];refine wpAny_bind (wpAny_alloc (wpAny_pure ?_));exact wpAny_pure (h _)
end
section
variable {prog:Program} {w:World} {A:Around} {R:Result->Shared->Prop} {I:Addr} {fp wr:List Addr} {n:Nat} {P:Nat->Value->Prop} {St:Nat->Heap->Prop} {K:Type} [DecidableEq K] {knd:KeyKind prog w K}
def qe2:List K->Nat
 | []=>0
 | k :: l=>if k∈l then qe2 l else qe2 l+1
theorem qj1 (l:List K):qe2 l<=l.length:=by
 induction l with
 | nil=>exact Nat.le_refl _
 | cons k l ih=>unfold qe2;split<;>simp<;>omega
theorem qve (W:Walks prog w A.in1 I fp wr n P St) (D:Addr) (hDf:D ∉ fp) (rs:List K) (hn:n<=1000)
  (hP:∀ i v,P i v->∃ k,knd.is k v=true/\v.scannable=true/\rs[i]?=some k) (hl:rs.length=n) :
  ∀ (k i:Nat) (s:Shared) (m:Nat),n-i=k->i<=n->St i s.heap->s.heap.SetOf knd D (λq=>decide (q∈(rs.take i).reverse)) m->m=qe2 (rs.take i).reverse ->
  (∀ h' tk,h'.SetOf knd D (λq=>decide (q∈rs.reverse)) (qe2 rs.reverse)->(∀ b o,b ∉ wr->b≠D->s.heap.get? b=some o->h'.get? b=some o)->R (.ok (.ret .none)) { s with heap:=h',toks:=tk }) ->
  codeAny (model prog w) A (.builtin "set.update.loop" ⟨[.ref D,.ref I],[]⟩) R s:=by
 have hDw:D ∉ wr:=λh=>hDf (W.sub _ h)
 intro k
 induction k with
 | zero =>
  intro i s m hk hi hst hd hm hR;have hin:i=n:=by omega
  subst hin;rw[<- hl,List.take_length] at hd hm;refine codeAny_builtin qnd ?_;rw[Around.under_plainId qj0 _]
  show wpAny _ A.in1 (pyNext (.ref I) >>= _) _ _ s
  refine wpAny_bind (W.done s _ _ hst λh' tk hm'=>?_);refine wpAny_pure (hR h' tk ?_ λb o hb _ e=>hm' b o hb e);obtain ⟨o,es,ep,t,ho,r⟩:=hd;exact ⟨o,es,ep,t,hm' D o hDw ho,hm ▸ r⟩
 | succ k ih =>
  intro i s m hk hi hst hd hm hR;have hlt:i<n:=by omega
  refine codeAny_builtin qnd ?_;rw[Around.under_plainId qj0 _]
  show wpAny _ A.in1 (pyNext (.ref I) >>= _) _ _ s
  refine wpAny_bind (W.item i s _ _ hlt hst λv h' tk hp hst' hmk=>?_);obtain ⟨kk,hkey,hsc,hrs⟩:=hP i v hp;obtain ⟨o1,es,ep,t,ho1,rr⟩:=hd;have hd':h'.SetOf knd D (λq=>decide (q∈(rs.take i).reverse)) m:=⟨o1,es,ep,t,hmk D o1 hDw ho1,rr⟩;have ml:m<=1000:=by
   have:=qj1 (rs.take i).reverse;rw[List.length_reverse,List.length_take] at this;omega
  show wpAny _ A.in1 (holding [v] _ >>= _) _ _ _
  refine wpAny_bind (wpAny_holding ?_);unfold setAdd;refine wpAny_holding (wpAny_bind (knd.pyHash hkey ?_));refine wpAny_setAddHashed_of (s:={ s with heap:=h',toks:=_ }) hkey hsc hd' (by unfold scanBound;omega) λh2 hs2 hd2=>?_
  have et:rs.take (i+1)=rs.take i ++ [kk]:=by rw[List.take_succ,hrs];rfl
  refine wpAny_pure ⟨plainId_quiet qj0 _,ih (i+1) _ _ (by omega) hlt (W.frame _ _ _ hst' λb hb o e=>?_) ?_ rfl λh3 tk3 hd3 hk3=>?_⟩
  ·exact (hs2.2 b (λh:b=D=>hDf (by rw[<- h];exact hb))).trans e
  ·rw[et]
   have e1:(λq=>decide (q∈(rs.take i ++ [kk]).reverse))=(λk'=>decide (k'∈(rs.take i).reverse) || decide (k'=kk)):=by
    funext q
    simp[Bool.or_comm]
   have e2:qe2 (rs.take i ++ [kk]).reverse=(if decide (kk∈(rs.take i).reverse)=true then m else m+1):=by
    rw[List.reverse_append,hm]
    show qe2 (kk :: (rs.take i).reverse)=_
    unfold qe2
    by_cases e:kk∈(rs.take i).reverse
    ·rw[if_pos e,if_pos (decide_eq_true e)]
     cases hq:(rs.take i).reverse<;>rfl
    ·rw[if_neg e,if_neg (by simpa using e)]
     cases hq:(rs.take i).reverse<;>rfl
   rw[e1,e2];exact hd2
  ·exact hR h3 tk3 hd3 λb o hb hbD e=>hk3 b o hb hbD ((hs2.2 b hbD).trans (hmk b o hb e))
end
section
variable {prog:Program} {w:World} {A:Around} {E:Value->Shared->Prop} {s:Shared} {K:Type} [DecidableEq K] {knd:KeyKind prog w K}
theorem qqh {p:Addr} {Q:Bool->Shared->Prop} (hT:s.TypeIs (.ref p) "list") (h:Q false s):wpAny (model prog w) A (Builtin.Frozenset.isAnySet (.ref p)) Q E s:=by
 have f1:=F.sub_list_set;have f2:=F.sub_list_frozenset;unfold Builtin.Frozenset.isAnySet
 wp_walk
 exact h
theorem qvf {id:String} {D p:Addr} {its:List Value} {rs:List K} {Q:Unit->Shared->Prop} (hl:PlainL s.heap p its.toArray) (hpD:p≠D) (hA:A.handled=none) (hn:its.length<=1000) (hlen:rs.length=its.length)
  (hP:∀ (i:Nat) v,its[i]?=some v->∃ k,knd.is k v=true/\v.scannable=true/\rs[i]?=some k) (hD:s.heap.SetOf knd D (λ_=>false) 0)
  (h:∀ h' tk,h'.SetOf knd D (λq=>decide (q∈rs.reverse)) (qe2 rs.reverse)->(∀ b o,b≠D->s.heap.get? b=some o->h'.get? b=some o)->Q () { s with heap:=h',toks:=tk }) :
  wpAny (model prog w) A (Builtin.Frozenset.updateFrom id D (.ref p)) Q E s:=by
 obtain ⟨ol,nl,e1,e2,e3,e4⟩:=hl;have hpl:p<s.heap.objs.size:=Heap.lt_size e1;have hT:s.TypeIs (.ref p) "list" :=⟨ol,e1,e2⟩;have hDl:D<s.heap.objs.size:=by obtain ⟨o,_,_,_,ho,_⟩:=hD;exact Heap.lt_size ho
 unfold Builtin.Frozenset.updateFrom;refine wpAny_bind (qqh hT ?_);rw[if_neg (by decide)];refine wpAny_bind (wpAny_typeOf hT ?_);rw[if_neg (by decide)];refine wpAny_bind (wpAny_pyIter_list (PlainL.isList ⟨ol,nl,e1,e2,e3,e4⟩) ?_);have W:=Walks.list (prog:=prog) (w:=w) (A:=A.in1) hA s.heap.objs.size p (Nat.ne_of_lt hpl) its.toArray;have keep:∀ b o,s.heap.get? b=some o->(s.heap.push { cls:=Value.type "list_iterator",data:=Data.fields #[Value.ref p,Value.int 0 0] }).get? b=some o:=λb o q=>Heap.get?_push_of_some _ q
 refine wpAny_bind (wpAny_runValue (qve (A:=A) (knd:=knd) W D ?_ rs (by simpa using hn) (λi v q=>?_) (by simpa using hlen) _ 0 _ 0 rfl (Nat.zero_le _) ⟨⟨_,Heap.get?_push_size _ rfl,rfl,rfl⟩,?_⟩ ?_ rfl λh' tk hd' hk=>wpAny_pure ?_))
 ·intro hm
  simp only[List.mem_cons,List.not_mem_nil,or_false] at hm
  rcases hm with e|e
  ·exact absurd e (Nat.ne_of_lt hDl)
  ·exact absurd e.symm hpD
 ·exact hP i v (by simpa using q)
 ·exact PlainL.isList ⟨ol,nl,keep _ _ e1,e2,e3,e4⟩
 ·obtain ⟨o,es,ep,t,ho,r⟩:=hD
  exact ⟨o,es,ep,t,keep _ _ ho,r⟩
 ·refine h h' tk hd' λb o hb q=>?_
  have lt:=Heap.lt_size q;exact hk b o (λhm=>absurd (List.mem_singleton.mp hm) (Nat.ne_of_lt lt)) hb (keep b o q)
theorem qvg {p:Addr} {its:List Value} {rs:List K} {Q:Value->Shared->Prop} (hl:PlainL s.heap p its.toArray) (hA:A.handled=none) (hn:its.length<=1000) (hlen:rs.length=its.length)
  (hP:∀ (i:Nat) v,its[i]?=some v->∃ k,knd.is k v=true/\v.scannable=true/\rs[i]?=some k)
  (h:∀ h' tk,h'.SetOf knd s.heap.objs.size (λq=>decide (q∈rs.reverse)) (qe2 rs.reverse)->(∀ b o,s.heap.get? b=some o->h'.get? b=some o)->Q (.ref s.heap.objs.size) { s with heap:=h',toks:=tk }) :
  wpAny (model prog w) A (call (.type "set") [.ref p]) Q E s:=by
 obtain ⟨c,tl,hmro⟩:=F.called_set.mro;have hmade:=F.called_set.made;have hsub:=F.called_set.sub;refine wpAny_call (codeAny_of_tree ?_)
 show wpAny _ _ (callAny (.type "set") _) _ _ _
 refine wpAny_pure ⟨Code.quiet_builtin _ (by decide +kernel),codeAny_builtin F.entry_type_call ?_⟩;rw[Around.under_plain (weight_type_call_type "set" [.ref p] []) rfl];have h1:=F.called_set.notType;have h2:=F.called_set.canCreate;have hct:=qmf (.ref p)
 repeat (any_goals (first|assumption|wp_step))
 refine codeAny_mono (qxi (E:=E) (.ref p) (Q₁:=λobj s₁=>∃ led:Bool,obj=.ref s.heap.objs.size/\s₁={ s with heap:=s.heap.push { cls:=.type "set",dict:=none,data:=.set #[] 0 (.fresh 0 0 led) } }) λled=>⟨led,rfl,rfl⟩) λr s₁ hr=>?_
 cases r with
 | error e=>exact hr
 | ok fl =>
  cases fl with
  | ret obj =>
   obtain ⟨led,rfl,rfl⟩:=hr;have hS:(s.heap.push { cls:=.type "set",dict:=none,data:=.set #[] 0 (.fresh 0 0 led) }).get? s.heap.objs.size=some { cls:=.type "set",dict:=none,data:=.set #[] 0 (.fresh 0 0 led) }:=Heap.get?_push_size _ rfl;have hT:Shared.TypeIs { s with heap:=s.heap.push { cls:=.type "set",dict:=none,data:=.set #[] 0 (.fresh 0 0 led) } } (.ref s.heap.objs.size) "set" :=⟨_,hS,rfl⟩;have hli:=F.called_set.init.lookup;have hbi:=F.called_set.init.bind (.ref s.heap.objs.size)
   repeat (any_goals (first|assumption|wp_step))
   refine codeAny_mono (codeAny_call_builtin (R:=wants (λr s₂=>r=.none/\Q (.ref s.heap.objs.size) s₂) E) F.called_set.init.plain F.entry_set_init (qsw hT ?_)) λr₂ s₂ hr₂=>?_
   ·unfold Builtin.«set.__init__» noKeywords
    have hl':PlainL (s.heap.push { cls:=.type "set",dict:=none,data:=.set #[] 0 (.fresh 0 0 led) }) p its.toArray:=by
     obtain ⟨ol,nl,e1,e2,e3,e4⟩:=hl;exact ⟨ol,nl,Heap.get?_push_of_some _ e1,e2,e3,e4⟩
    have hpD:p≠s.heap.objs.size:=by
     obtain ⟨ol,nl,e1,e2,e3,e4⟩:=hl;exact Nat.ne_of_lt (Heap.lt_size e1)
    have hnew:(s.heap.push { cls:=.type "set",dict:=none,data:=.set #[] 0 (.fresh 0 0 led) }).SetOf knd s.heap.objs.size (λ_=>false) 0:=(setObjOf_fresh (knd:=knd) led).setOf hS (by decide)
    repeat (any_goals (first|(refine qvf hl' hpD hA hn hlen hP hnew (λh' tk hd hk=>?_))|assumption|wp_step))
    exact ⟨rfl,h h' tk hd λb o q=>hk b o (Nat.ne_of_lt (Heap.lt_size q)) (Heap.get?_push_of_some _ q)⟩
   ·cases r₂ with
    | error e=>exact hr₂
    | ok fl₂ =>
     cases fl₂ with
     | ret r =>
      obtain ⟨rfl,hq⟩:=hr₂
      repeat (any_goals (first|assumption|wp_step))
     | _=>exact hr₂.elim
  | _=>exact hr.elim
end
def qzg (a:Addr) (n:Nat):HO:=.ext λh=>∃ o es ep t,h.get? a=some o/\o.ExactSet/\o.data=.set es ep t/\t.fits es.size=true/\es.size=n
theorem qqi:∀ {ss:List Str} {us:List Value},Vals (ss.map V.str) us->ss.length=us.length/\∀ (i:Nat) v,us[i]?=some v->∃ k t,v=.str k t/\ss[i]?=some k
 | [],_,.nil=>⟨rfl,λi v h=>by simp at h⟩
 | x :: ss,_,.cons ⟨t,e⟩ r=>by
  subst e;obtain ⟨h1,h2⟩:=qqi r;refine ⟨by simp[h1],λi v h=>?_⟩
  cases i with
  | zero=>cases h;exact ⟨x,t,rfl,rfl⟩
  | succ i=>exact h2 i v h
theorem qqj {X:Cx} (hc:X.calm=true):CallR X (.type "set") (λxs H Q=>∃ (p:Addr) (ss:List Str),xs=[.ref p]/\SqL X.K H p (ss.map V.str)/\ss.length<=1000/\∀ a H',New H H' a (qzg a (qe2 ss.reverse))->Q (.ref a) H'):=by
 intro pins s σ H xs us Q I r h;obtain ⟨p,ss,rfl,hq,hz,q⟩:=h;obtain ⟨u,rfl,ru⟩:=vals1 r
 cases (show u=Value.ref p from ru)
 obtain ⟨its,rv,pl,_⟩:=I.list hq;obtain ⟨hl,hP⟩:=qqi rv;refine qvg (knd:=PySem.strKind X.prog X.w) pl (I.ok.hd hc) (by omega) hl (λi v e=>?_) λh' tk hd hk'=>?_
 ·obtain ⟨k,t,rfl,e'⟩:=hP i v e
  exact ⟨k,by simp[PySem.strKind,Value.isStrOf],rfl,e'⟩
 ·obtain ⟨o,es,ep,t,ho,hex,hdt,_,_,_,hf,hn⟩:=hd
  refine ⟨.ref s.heap.objs.size,_,I.laid (a:=s.heap.objs.size) (o:=qzg s.heap.objs.size (qe2 ss.reverse)) (h':=h') (t':=tk) hk' (Nat.le_refl _) ?_,rfl,q _ _ (qbj (I.hok.fresh (Nat.le_refl _)))⟩;refine ⟨⟨o,es,ep,t,ho,hex,hdt,hf,hn⟩,⟨o,ho⟩,λh1 h2 x y=>?_⟩;obtain ⟨o,es,ep,t,ho,r⟩:=x;exact ⟨o,es,ep,t,y _ ho,r⟩
theorem qqk {X:Cx}:CallR X (.builtin "len") (λxs H Q=>∃ (a:Addr) (n:Nat),xs=[.ref a]/\H a=some (qzg a n)/\n<=1000/\Q (.int n) H):=by
 intro pins s σ H xs us Q I r h;obtain ⟨a,n,rfl,ha,hz,q⟩:=h;obtain ⟨u,rfl,ru⟩:=vals1 r
 cases (show u=Value.ref a from ru)
 obtain ⟨⟨o,es,ep,t,ho,hex,hdt,hf,hn⟩,_⟩:=I.hok a _ ha;refine call_len_set ho hex hdt hf (by omega) ?_;exact ⟨.int n,H,I.tok (s.toks+1+1),⟨_,by rw[hn]⟩,q⟩
theorem qxj:bootBuiltins "set" = some (.type "set"):=by decide +kernel
open PySem PySem.Spec PyProof.Rows
def leT (a b:List Nat):Bool:=decide (¬ b<a)
def qf5 (l:List (List Nat)):List (List Nat):=l.mergeSort leT
theorem qk3 (a b c:List Nat) (h1:leT a b=true) (h2:leT b c=true):leT a c=true:=by
 unfold leT at *
 have h1:=of_decide_eq_true h1;have h2:=of_decide_eq_true h2;exact decide_eq_true (List.le_trans h1 h2)
theorem qql (a b:List Nat):(leT a b || leT b a)=true:=by
 unfold leT
 rcases List.le_total a b with h|h
 ·rw[show decide (¬ b<a)=true from decide_eq_true h];rfl
 ·rw[show decide (¬ a<b)=true from decide_eq_true h,Bool.or_true]
theorem qsx {a b:List Nat} (h1:leT a b=true) (h2:leT b a=true):a=b:=List.le_antisymm (of_decide_eq_true h1) (of_decide_eq_true h2)
theorem qec (l:List (List Nat)):(qf5 l).Perm l:=List.mergeSort_perm l leT
theorem qsy (l:List (List Nat)):(qf5 l).Pairwise (λa b=>leT a b=true):=List.pairwise_mergeSort qk3 qql l
theorem qxk:∀ {a b:List (List Nat)},a.Perm b->a.Pairwise (λa b=>leT a b=true)->b.Pairwise (λa b=>leT a b=true)->a=b
 | [],b,p,_,_=>p.nil_eq
 | x :: a,[],p,_,_=>absurd p.symm.nil_eq (by simp)
 | x :: a,y :: b,p,h1,h2=>by
  have h1':=List.pairwise_cons.mp h1;have h2':=List.pairwise_cons.mp h2;have e:x=y:=by
   rcases List.mem_cons.mp (p.mem_iff.mp (List.mem_cons_self (a:=x) (l:=a))) with e|e
   ·exact e
   ·rcases List.mem_cons.mp (p.symm.mem_iff.mp (List.mem_cons_self (a:=y) (l:=b))) with e'|e'
    ·exact e'.symm
    ·exact qsx (h1'.1 y e') (h2'.1 x e)
  subst e;rw[qxk (List.Perm.cons_inv p) h1'.2 h2'.2]
theorem qsz {a b:List (List Nat)} (p:a.Perm b) (h:a.Pairwise (λa b=>leT a b=true)):a=qf5 b:=qxk (p.trans (qec b).symm) h (qsy b)
theorem qk4:∀ (x:List Nat) (l:List (List Nat)),risingS (S x) (l.map S)=true->(x :: l).Pairwise (λa b=>leT a b=true)
 | x,[],_=>List.pairwise_singleton ..
 | x,y :: l,h=>by
  have h:(!ltCps (S y).cps.toList (S x).cps.toList && risingS (S y) (l.map S))=true:=h;rw[Bool.and_eq_true] at h;have t:=qk4 y l h.2;have e:leT x y=true:=by
   have h1:=h.1;rw[ltCps_eq] at h1;unfold leT S at *
   simpa using h1
  refine List.pairwise_cons.mpr ⟨λz hz=>?_,t⟩
  rcases List.mem_cons.mp hz with rfl|hz
  ·exact e
  ·exact qk3 _ _ _ e ((List.pairwise_cons.mp t).1 z hz)
theorem qod:∀ {l:List (List Nat)},sortedS (l.map S)=true->l.Pairwise (λa b=>leT a b=true)
 | [],_=>.nil
 | x :: l,h=>qk4 x l h
theorem qz3 (x:Str):S x.cps.toList=x:=by unfold S;simp
theorem qne {ss:List (List Nat)} {ms:List Str} (p:ms.Perm (ss.map S)) (h:sortedS ms=true):ms=(qf5 ss).map S:=by
 have e:ms=(ms.map λx=>x.cps.toList).map S:=by
  rw[List.map_map]
  conv=>lhs;rw[<- List.map_id ms]
  exact List.map_congr_left λx _=>(qz3 x).symm
 have e2:(ss.map S).map (λx=>x.cps.toList)=ss:=by
  rw[List.map_map]
  conv=>rhs;rw[<- List.map_id ss]
  exact List.map_congr_left λx _=>by show (S x).cps.toList=x;unfold S;simp
 rw[e] at h;have p':=p.map (λx=>x.cps.toList);rw[e2] at p';rw[e,qsz p' (qod h)]
theorem qj2 {X:Cx}:CallR X (.builtin "sorted") (λxs H Q=>∃ (p:Addr) (ss:List (List Nat)),xs=[.ref p]/\SqL X.K H p (ss.map λq=>V.str (S q))/\ss.length<64/\∀ l H',New H H' l (.lst ((qf5 ss).map λq=>V.str (S q)))->Q (.ref l) H'):=by
 intro pins s σ H xs us Q I r h;obtain ⟨p,ss,rfl,hq,h64,q⟩:=h;refine qk2 pins s σ H _ us Q I r ⟨p,ss.map S,rfl,by rw[List.map_map];exact hq,by simpa using h64,λms l H' h1 h2 n=>q l H' ?_⟩;rw[qne h1 h2,List.map_map] at n;exact n
section
variable {X:Cx}
theorem qqm {P:Program} {w:World}:∀ {kvs:List (Key×V)} {vs:List (Key×Value)} {es:List DictEntry},KV kvs vs->PySem.Pairs (qbx P w) es vs->kvs.length=es.length/\∀ (i:Nat) k v,kvs[i]?=some (k,v)->∃ e,es[i]?=some e/\RelV (kV k) e.key/\RelV v e.val
 | _,_,_,.nil,.nil=>⟨rfl,λi k v h=>by simp at h⟩
 | _,_,_,.cons (a:=p) (b:=q) ⟨h1,h2⟩ t,.cons (e:=e) hk hv r=>by
  obtain ⟨hl,at_⟩:=qqm t r;refine ⟨by simp[hl],λi k v h=>?_⟩
  cases i with
  | zero =>
   cases h;refine ⟨e,rfl,?_,?_⟩
   ·subst h1
    rcases qbl hk with ⟨i,t,e1,e2⟩|⟨x,t,e1,e2⟩
    ·rw[e1,e2];exact ⟨t,rfl⟩
    ·rw[e1,e2];exact ⟨t,rfl⟩
   ·rw[hv];exact h2
  | succ i=>exact at_ i k v h
theorem qhx:∀ {xs:List V} {us:List Value},xs.length=us.length->(∀ (i:Nat) x v,xs[i]?=some x->us[i]?=some v->RelV x v)->Vals xs us
 | [],[],_,_=>.nil
 | [],_ :: _,h,_=>by simp at h
 | _ :: _,[],h,_=>by simp at h
 | x :: xs,u :: us,h,g=>.cons (g 0 x u rfl rfl) (qhx (by simpa using h) λi y v hy hv=>g (i+1) y v hy hv)
theorem qd3 (hc:X.calm=true):CallR X (.builtin "sorted") (λxs H Q=>∃ (a:Addr) (kvs:List (Key×V)) (ss:List (List Nat)),xs=[.ref a]/\Rd H a (.dK kvs)/\kvs.map (·.1)=ss.map (λq=>Sum.inr (S q))/\ss.length<64/\∀ l H',New H H' l (.lst ((qf5 ss).map λq=>V.str (S q)))->Q (.ref l) H'):=by
 intro pins s σ H xs us Q I r h;obtain ⟨a,kvs,ss,rfl,ha,ek,h64,q⟩:=h;obtain ⟨u,rfl,rx⟩:=vals1 r
 cases (show u=Value.ref a from rx)
 obtain ⟨hz,lo,vs,kt,o,es,ep,e1,e2,e3,ek',e4,_⟩:=qju I.hok ha;have hR:RawD s.heap a es ep:=⟨o,e1,e2,e3⟩;obtain ⟨hl,at_⟩:=qqm kt e4;have hl:kvs.length=es.size:=by simpa using hl
 have lk:kvs.length=ss.length:=by have:=congrArg List.length ek;simpa using this
 refine Calls.call_function_entry kind_sorted plain_sorted entry_sorted (args_sorted1 _) ?_;unfold Builtin.«sorted»;refine wpAny_bind (m:=checkCount "sorted" 1 1 _) (wpAny_pure ?_);refine wpAny_bind (PySem.W.kdu_collect (qts lo) (I.ok.hd hc) hR (by rw[sizeLine_eq];omega) λh' tk acc hk hacc=>?_);have hlen:acc.toList.length=ss.length:=by rw[Array.length_toList,hacc.1];omega
 have rv:Vals ((ss.map S).map V.str) acc.toList:=by
  refine qhx (by simpa using hlen.symm) λi x v hx hv=>?_
  obtain ⟨e,he,hve⟩:=hacc.2 i v (by rw[<- Array.getElem?_toList];exact hv);have hi:i<kvs.length:=by have:=(List.getElem?_eq_some_iff.mp hv).1;omega
  obtain ⟨e',he',hk',_⟩:=at_ i kvs[i].1 kvs[i].2 (by rw[List.getElem?_eq_getElem hi]);rw[Array.getElem?_toList,he] at he'
  cases he'
  have e5:(kvs.map (·.1))[i]?=some kvs[i].1:=by simp[hi]
  rw[ek,List.getElem?_map] at e5;rw[List.map_map,List.getElem?_map] at hx
  cases hq:ss[i]? with
  | none=>rw[hq] at hx;cases hx
  | some z =>
   rw[hq] at hx e5;cases hx;have e6:=Option.some.inj e5;rw[<- e6] at hk';rw[hve];exact hk'
 have hS:StrsAre acc.toList (ss.map S):=qgo rv;have I':Inv X pins σ H { s with heap:=h',toks:=tk }:=I.kept hk;refine wpAny_bind (wpAny_newList ?_ (by rw[hlen,sizeLine_eq];omega));have hoL:(h'.push (seqObj "list" acc.toList.toArray 0)).get? h'.objs.size=some (seqObj "list" acc.toList.toArray 0):=Heap.get?_push_size _ rfl;refine wpAny_bind (wpAny_holding (wpAny_call_entry slot_list_sort ⟨_,hoL,rfl⟩ entry_list_sort (list_sort_treeK (s:={ s with heap:=h'.push (seqObj "list" acc.toList.toArray 0),toks:=tk }) strKind_oneLt hoL hS.keysOf (λv₁ v₂ rest e=>keyKind_strs (by rw[<- e];exact hS)) (by omega) λst' a1 a2=>⟨_,rfl,?_⟩) (args_list_sort _)));refine wpAny_pure ⟨_,rfl,?_⟩;obtain ⟨ms,m1,m2,m3⟩:=sorted_out_str hS a1 a2;have em:=qne m2 m3;subst em;obtain ⟨c,hat⟩:∃ c,(sortedHeap (h'.push (seqObj "list" acc.toList.toArray 0)) h'.objs.size acc.toList ((arrOf st').map (·.2))).get? h'.objs.size=some (seqObj "list" ((arrOf st').map (·.2)) c):=sortedHeap_at hoL;have kp:∀ b ob,h'.get? b=some ob->(sortedHeap (h'.push (seqObj "list" acc.toList.toArray 0)) h'.objs.size acc.toList ((arrOf st').map (·.2))).get? b=some ob:=λb ob hb=>by
  have lb:=Heap.lt_size hb;rw[sortedHeap_old (Nat.ne_of_lt lb) (by rw[size_push'];exact Nat.lt_succ_of_lt lb)];exact Heap.get?_push_of_some _ hb
 have hl2:((qf5 ss).map S).length<=sizeLine:=by rw[List.length_map,(qec ss).length_eq,sizeLine_eq];omega
 have vv:=qhy m1;rw[List.map_map] at vv;exact ⟨.ref h'.objs.size,upd H h'.objs.size (.lst ((qf5 ss).map λq=>V.str (S q))),I'.laid (t':=tk) kp (Nat.le_refl _) ⟨by simpa using hl2,_,c,vv,by rw[hat]⟩,rfl,q _ _ (qbj (I'.hok.fresh (Nat.le_refl _)))⟩
end
open PySem PySem.Spec PyProof.Rows
end L2
namespace L2
open PySem PySem.Spec PyProof.Rows
theorem qoe {X:Cx}:CallR X (.builtin "isinstance") (λxs H Q=>∃ x p,xs=[x,.ref p]/\H p=some (.tup [.ty "str",.ty "bool"])/\((∃ b,x=.bl b)\/∃ s,x=.str s)/\Q (.bl true) H):=by
 intro pins s σ H xs us Q I r h;obtain ⟨x,p,rfl,hp,hx,q⟩:=h;obtain ⟨u,w',rfl,ru,rw'⟩:=vals2 r
 cases (show w'=Value.ref p from rw')
 obtain ⟨its,rv,⟨o,e,c,n,d⟩,hz⟩:=I.tuple (SqT.of hp);obtain ⟨a1,a2,rfl,r1,r2⟩:=vals2 rv
 cases (show a1=Value.type "str" from r1)
 cases (show a2=Value.type "bool" from r2)
 obtain ⟨cls,dd,data,sl⟩:=o;have c':cls=Value.type "tuple" :=c;have d':data=.seq [Value.type "str",Value.type "bool"].toArray n:=d;subst c';subst d'
 rcases hx with ⟨b,rfl⟩|⟨y,rfl⟩
 ·cases (show u=Value.bool b from ru)
  exact PySem.W.kia_tup PySem.W.kitx_bool I.kIn True.intro e rfl (λz=>nomatch z) λtk=>⟨.bl true,H,I.tok tk,rfl,q⟩
 ·obtain ⟨t,qq⟩:=(show ∃ t,u=Value.str y t from ru)
  cases qq;exact PySem.W.kia_tup PySem.W.kitx_str I.kIn True.intro e rfl (λz=>nomatch z) λtk=>⟨.bl true,H,I.tok tk,rfl,q⟩
end L2
namespace TB
structure Good (ps:List (Int×Int)):Prop where
 lo:1<=ps.length
 hi:ps.length<=5
 each:∀ (i:Nat) p,ps[i]?=some p->0<=p.1/\1<=p.2
 next:∀ (i:Nat) p q,ps[i]?=some p->ps[i+1]?=some q->p.1<=q.1/\q.2 % p.2=0
def qqn (g:Option Int) (last:Int):Prop:=∀ z,g=some z->last<=z
end TB
namespace TB
def cut (d a w:Int):Int:=(d-a) / w*w
def Bd (x:Int):Prop:=-(10 ^ 45)<x/\x<10 ^ 45
def qxl (ps:List (Int×Int)):Prop:=∀ (i:Nat) p,ps[i]?=some p->0<=p.1/\p.1<10 ^ 45/\1<=p.2/\p.2<10 ^ 45
theorem qzh {x w B:Int} (hw:1<=w) (hB:0<=B) (h1:-B<=x) (h2:x<B):-B<=x / w/\x / w<B:=by
 have hBw:B*1<=B*w:=Int.mul_le_mul_of_nonneg_left hw hB
 constructor
 ·refine Int.le_ediv_of_mul_le (by omega) ?_
  have:-B*w = -(B*w):=Int.neg_mul _ _;omega
 ·exact Int.ediv_lt_of_lt_mul (by omega) (by omega)
theorem qxm {d a w:Int} (hw:1<=w):cut d a w<=d-a:=by
 have h:=Int.emod_add_mul_ediv (d-a) w;have h1:=Int.emod_nonneg (d-a) (show w≠0 by omega);unfold cut;rw[Int.mul_comm] at h;omega
theorem qxn {d a w:Int} (hw:1<=w):d-a<cut d a w+w:=by
 have h:=Int.emod_add_mul_ediv (d-a) w;have h1:=Int.emod_lt_of_pos (d-a) (show 0<w by omega);unfold cut;rw[Int.mul_comm] at h;omega
theorem qtz {d a w:Int} (hd:Bd d) (ha:0<=a) (ha':a<10 ^ 45) (hw:1<=w) (hw':w<10 ^ 45):-(4*10 ^ 45)<cut d a w/\cut d a w<4*10 ^ 45:=by
 have h1:=qxm (d:=d) (a:=a) hw;have h2:=qxn (d:=d) (a:=a) hw;unfold Bd at hd;omega
theorem qs0 {ps:List (Int×Int)} {p:Int×Int} (h:ps[ps.length-1]?=some p):ps.getLast?.getD (0,1)=p:=by
 rw[List.getLast?_eq_getElem?,h];rfl
end TB
namespace TB
open PySem L2
def PairAt (H:Hp) (v:V) (p:Int×Int):Prop:=∃ a,v=.ref a/\H a=some (.tup [.int p.1,.int p.2])
def Pairs (H:Hp) (xs:List V) (ps:List (Int×Int)):Prop:=Paired (PairAt H) xs ps
theorem PairAt.same {H H':Hp} (s:Same H H') {v:V} {p:Int×Int}:PairAt H v p->PairAt H' v p:=fun ⟨a,e,h⟩=>⟨a,e,s _ _ h⟩
def qo3 (H H':Hp):Prop:=∀ b xs,H b=some (.tup xs)->H' b=some (.tup xs)
theorem Same.tup {H H':Hp} (s:Same H H'):qo3 H H':=λb xs h=>s b _ h
theorem PairAt.tupS {H H':Hp} (s:qo3 H H') {v:V} {p:Int×Int}:PairAt H v p->PairAt H' v p:=fun ⟨a,e,h⟩=>⟨a,e,s _ _ h⟩
theorem Pairs.tupS {H H':Hp} (s:qo3 H H'):∀ {xs:List V} {ps:List (Int×Int)},Pairs H xs ps->Pairs H' xs ps
 | _,_,.nil=>.nil
 | _,_,.cons r t=>.cons (r.tupS s) (Pairs.tupS s t)
theorem Pairs.same {H H':Hp} (s:Same H H') {xs:List V} {ps:List (Int×Int)} (h:Pairs H xs ps):Pairs H' xs ps:=Pairs.tupS (Same.tup s) h
theorem Pairs.length {H:Hp}:∀ {xs:List V} {ps:List (Int×Int)},Pairs H xs ps->xs.length=ps.length
 | _,_,.nil=>rfl
 | _,_,.cons _ t=>by simp[Pairs.length t]
theorem Pairs.get {H:Hp}:∀ {xs:List V} {ps:List (Int×Int)} {i:Nat} {x:V},Pairs H xs ps->xs[i]?=some x->∃ p,ps[i]?=some p/\PairAt H x p
 | _,_,_,_,.nil,e=>by simp at e
 | _,_,0,_,.cons r _,e=>by simp at e;subst e;exact ⟨_,rfl,r⟩
 | _,_,i+1,x,.cons _ t,e=>by
  obtain ⟨u,h1,h2⟩:=Pairs.get (i:=i) (x:=x) t (by simpa using e);exact ⟨u,by simpa using h1,h2⟩
theorem Pairs.get' {H:Hp}:∀ {xs:List V} {ps:List (Int×Int)} {i:Nat} {p:Int×Int},Pairs H xs ps->ps[i]?=some p->∃ x,xs[i]?=some x/\PairAt H x p
 | _,_,_,_,.nil,e=>by simp at e
 | _,_,0,_,.cons r _,e=>by simp at e;subst e;exact ⟨_,rfl,r⟩
 | _,_,i+1,x,.cons _ t,e=>by
  obtain ⟨u,h1,h2⟩:=Pairs.get' (i:=i) (p:=x) t (by simpa using e);exact ⟨u,by simpa using h1,h2⟩
theorem Pairs.snoc {H:Hp} {v:V} {p:Int×Int} (r:PairAt H v p):∀ {xs:List V} {ps:List (Int×Int)},Pairs H xs ps->Pairs H (xs ++ [v]) (ps ++ [p])
 | _,_,.nil=>.cons r .nil
 | _,_,.cons q t=>.cons q (Pairs.snoc r t)
def qof (p:Int×Int):PyData:=.tuple [.int p.1,.int p.2]
def qk5 (ps:List (Int×Int)):PyData:=.list (ps.map qof)
theorem qqo:∀ ps:List (Int×Int),PyData.canLayAll0 (ps.map qof)=true
 | []=>rfl
 | p :: r=>by simp[PyData.canLayAll0,qof,PyData.canLay0,qqo r]
theorem qhz (ps:List (Int×Int)):(qk5 ps).canLay0=true:=by simp[qk5,PyData.canLay0,qqo]
theorem qqp:∀ ps:List (Int×Int),PyData.depthAll (ps.map qof)<=1
 | []=>by simp[PyData.depthAll]
 | p :: r=>by
  have:=qqp r
  simp[PyData.depthAll,qof,PyData.depth]
  omega
theorem qqq (ps:List (Int×Int)):(qk5 ps).depth<=20:=by
 have:=qqp ps
 simp[qk5,PyData.depth];omega
theorem Pairs.reps {K:Frag} {H:Hp}:∀ {xs:List V} {ps:List (Int×Int)},Pairs H xs ps->qpw K H xs (ps.map qof)
 | _,_,.nil=>.nil
 | _,_,.cons ⟨a,e,h⟩ t=>by
  subst e;exact .cons (.tup (SqT.of h) (.cons (.int _) (.cons (.int _) .nil))) (Pairs.reps t)
theorem Pairs.rep {K:Frag} {H:Hp} {l:Addr} {xs:List V} {ps:List (Int×Int)} (h:H l=some (.lst xs)) (r:Pairs H xs ps):Rep K H (.ref l) (qk5 ps):=.lst (SqL.of h) r.reps
theorem qk6 {K:Frag} {H:Hp}:∀ ns:List Int,qpw K H (ns.map V.int) (ns.map PyData.int)
 | []=>.nil
 | n :: r=>.cons (.int n) (qk6 r)
theorem qk7:∀ ns:List Int,PyData.canLayAll0 (ns.map PyData.int)=true
 | []=>rfl
 | n :: r=>by simp[PyData.canLayAll0,PyData.canLay0,qk7 r]
theorem qk8:∀ ns:List Int,PyData.depthAll (ns.map PyData.int)=0
 | []=>rfl
 | n :: r=>by simp[PyData.depthAll,PyData.depth,qk8 r]
def gv:Option Int->V
 | none=>.non
 | some i=>.int i
theorem qzi:¬ (("kept_steps" : Str) = "gone_age"):=by decide +kernel
def rf (l:Addr) (g:V):List (Str×V):=qfz "gone_age" g (qfz "kept_steps" (.ref l) [])
theorem qs1 (l:Addr) (g:V):(rf l g).lookup ("kept_steps" : Str)=some (.ref l):=by
 unfold rf;rw[qag,if_neg qzi,qag,if_pos rfl]
theorem qzj (l:Addr) (g:V):(rf l g).lookup ("gone_age" : Str)=some g:=by
 unfold rf;rw[qag,if_pos rfl]
theorem qmg (l:Addr) (g:V) {m:Str} (h1:¬ m = "gone_age") (h2:¬ m = "kept_steps"):(rf l g).lookup m=none:=by
 unfold rf;rw[qag,if_neg h1,qag,if_neg h2]
 rfl
structure RuleAt (C:Addr) (H:Hp) (r l:Addr) (ps:List (Int×Int)) (g:Option Int):Prop where
 ob:∃ dx,H r=some (.ins C dx (rf l (gv g)))
 ls:∃ xs,H l=some (.lst xs)/\Pairs H xs ps
theorem RuleAt.same {C:Addr} {H H':Hp} {r l:Addr} {ps:List (Int×Int)} {g:Option Int} (s:Same H H') (h:RuleAt C H r l ps g):RuleAt C H' r l ps g:=
 ⟨let ⟨dx,e⟩:=h.ob;⟨dx,s _ _ e⟩,let ⟨xs,e,p⟩:=h.ls;⟨xs,s _ _ e,p.same s⟩⟩
theorem qnf {xs:List V} {v:V} (h:xs[xs.length-1]?=some v):atI xs (-1)=some v:=by
 have hl:xs.length-1<xs.length:=(List.getElem?_eq_some_iff.mp h).1;have e:ixN xs.length (-1)=some (xs.length-1):=by
  unfold ixN;rw[if_neg (by decide),if_pos (by omega)]
  congr 1;omega
 unfold atI;rw[e];exact h
theorem qAx (xs:List V):qmy xs (some 1) none=xs.drop 1:=by
 unfold qmy;rw[HT.sIx_none,show (some (1:Int))=some ((1:Nat):Int) from rfl,HT.sIx_nat]
 by_cases h:1<=xs.length
 ·rw[Nat.min_eq_left h]
  exact List.take_of_length_le (by simp)
 ·have e:xs=[]:=by cases xs with|nil=>rfl|cons _ _=>simp at h
  subst e;rfl
def qmh:Sp:=λvs H Q _=>∃ x,vs=[x]/\((∃ i,x=.int i/\Q (.bl true) H))
def qog:Sp:=λvs H Q _=>∃ x p,vs=[x]/\PairAt H x p/\Q (.bl true) H
def qgp:Sp:=λvs H Q _=>∃ x p,vs=[x]/\PairAt H x p/\0<=p.1/\1<=p.2/\Q .non H
inductive qd0 (vs:List V) (H:Hp) (Q:VK) (E_:XK):Prop
 | mk:∀ x y p q,vs=[x,y]->PairAt H x p->PairAt H y q->1<=p.2->p.1<=q.1->q.2 % p.2=0->Q .non H->qd0 vs H Q E_
inductive qfq (vs:List V) (H:Hp) (Q:VK) (E_:XK):Prop
 | mk:∀ l xs ps,vs=[.ref l]->H l=some (.lst xs)->Pairs H xs ps->Good ps->(∀ H',Same H H'->Q .non H')->qfq vs H Q E_
def qj3:Sp:=λvs H Q _=>∃ g last,vs=[gv g,.int last]/\qqn g last/\Q .non H
inductive qqr (C:Addr) (vs:List V) (H:Hp) (Q:VK) (E_:XK):Prop
 | mk:∀ r l ps g,vs=[.ref r]->RuleAt C H r l ps g->Q (gv g) H->qqr C vs H Q E_
def qt0 (K:Frag):Sp:=λvs H Q _=>∃ (a:Addr) (ns:List Int),vs=[.ref a]/\SqL K H a (ns.map V.int)/\ns.length<=63/\∀ H',Q (.bl true) H'
open PySem L2
theorem New.after {H H1 H2:Hp} {p:Addr} {o:HO} (s:Same H H1) (n:New H1 H2 p o):New H H2 p o:=⟨s.trans n.same,s.free n.fresh,n.at_⟩
def lw (ps:List (Int×Int)):Int:=(ps.getLast?.getD (0,1)).2
def eV (ps:List (Int×Int)) (g:Option Int) (d:Int):List V:=(ps.map λp=>V.int (cut d p.1 p.2)) ++ [gv (g.map λz=>cut d z (lw ps))]
def GBd (g:Option Int):Prop:=∀ z,g=some z->0<=z/\z<10 ^ 45
structure Pr (ps:List (Int×Int)) (g:Option Int):Prop where
 good:Good ps
 size:qxl ps
 gone:∀ p,ps[ps.length-1]?=some p->qqn g p.1
 gb:GBd g
theorem Pr.last {ps:List (Int×Int)} {g:Option Int} (P:Pr ps g):∃ p,ps[ps.length-1]?=some p/\lw ps=p.2:=by
 have hl:=P.good.lo;refine ⟨ps[ps.length-1]'(by omega),List.getElem?_eq_getElem _,?_⟩;unfold lw;rw[qs0 (List.getElem?_eq_getElem _)]
theorem Pairs.but {H H':Hp} {m:Addr} {o:HO} {xs:List V} {ps:List (Int×Int)} (h:Pairs H xs ps) (b:But m H H') (hm:H m=some o) (nt:∀ xs,o≠.tup xs):Pairs H' xs ps:=h.tupS (b.tup hm nt)
theorem qqs {xs:List V}:∀ ys,(HO.lst xs)≠.tup ys:=λ_ z=>by cases z
theorem qed {C dx:Addr} {fs:List (Str×V)}:∀ ys,(HO.ins C dx fs)≠.tup ys:=λ_ z=>by cases z
inductive qj4 (C:Addr) (vs:List V) (H:Hp) (Q:VK) (E_:XK):Prop
 | mk:∀ r dx l xs ps g,vs=[.ref r,.ref l,gv g]->H r=some (.ins C dx [])->H l=some (.lst xs)->Pairs H xs ps->Good ps->(∀ p,ps[ps.length-1]?=some p->qqn g p.1)->(∀ l' H',H l'=none->RuleAt C H' r l' ps g->But r H H'->Q .non H')->qj4 C vs H Q E_
inductive qk9 (C:Addr) (vs:List V) (H:Hp) (Q:VK) (E_:XK):Prop
 | mk:∀ r l ps g xs,vs=[.ref r]->RuleAt C H r l ps g->H l=some (.lst xs)->(∀ p H',New H H' p (.lst xs)->Q (.ref p) H')->qk9 C vs H Q E_
def qoh:Sp:=λvs H Q _=>∃ n w,vs=[.int n,.int w]/\1<=w/\w<10 ^ 45 /\ -(10 ^ 46)<=n/\n<10 ^ 46/\Q (.int (n / w*w)) H
inductive qh0 (C:Addr) (vs:List V) (H:Hp) (Q:VK) (E_:XK):Prop
 | mk:∀ r l ps g d,vs=[.ref r,.int d]->RuleAt C H r l ps g->Pr ps g->Bd d->(∀ H',Same H H'->Q (gv (g.map λz=>cut d z (lw ps))) H')->qh0 C vs H Q E_
inductive qh1 (C:Addr) (vs:List V) (H:Hp) (Q:VK) (E_:XK):Prop
 | mk:∀ r l ps g d,vs=[.ref r,.int d]->RuleAt C H r l ps g->Pr ps g->Bd d->(∀ p H',New H H' p (.lst (eV ps g d))->Q (.ref p) H')->qh1 C vs H Q E_
def dV:V->PyData
 | .int i=>.int i
 | _=>.none
def Ed (v:V):Prop:=v=.non\/∃ i,v=.int i
theorem qmi {K:Frag} {H:Hp}:∀ {vs:List V},(∀ v∈vs,Ed v)->qpw K H vs (vs.map dV)
 | [],_=>.nil
 | v :: r,h=>by
  refine .cons ?_ (qmi λu hu=>h u (List.mem_cons_of_mem _ hu))
  rcases h v List.mem_cons_self with e|⟨i,e⟩
  ·subst e;exact .non
  ·subst e;exact .int i
theorem qt1:∀ vs:List V,PyData.canLayAll0 (vs.map dV)=true
 | []=>rfl
 | v :: r=>by
  have:(dV v).canLay0=true:=by cases v<;>rfl
  simp[PyData.canLayAll0,this,qt1 r]
theorem ed_lay' (vs:List V):(PyData.list (vs.map dV)).canLay0=true:=by simp[PyData.canLay0,qt1]
theorem qzk {α β:Type} (f:α->β) (xs:List α) (i:Nat) (x:α) (h:xs[i]?=some x):(xs.take (i+1)).map f=(xs.take i).map f ++ [f x]:=by
 rw[List.take_succ,h]
 simp
open PySem L2
end TB
namespace TB
def mc (p e:Int×Int):Int:=(e.1-p.1+e.2-1) / p.2
open PySem L2
theorem qaw {i:Nat} {v:V} {σ:St} {H:Hp} {K:St->Hp->Prop} (h:K (σ.set i (some v)) H):qiu i v σ H K:=h
theorem qvh {K:Frag} {a b:Addr} {xs ys:List V} {g:TG} {tc:TT} {te:TE} {Q:VK} {σ:St} {H:Hp} (Pv:Nat->List V->Hp->Prop) (hz:xs.length<=sizeLine) (h0:Pv 0 [] H) (hl:∀ i zs H,Pv i zs H->SqL K H a xs/\SqL K H b ys/\zs.length<=i)
  (hs:∀ i x y zs H p H',xs[i]?=some x->ys[i]?=some y->New H H' p (.tup [x,y])->Pv i zs H->g (.ref p) σ H' λσ4 H4=>tc σ4 H4 λb H5=>if b=true then te σ4 H5 λv H6=>Pv (i+1) (zs ++ [v]) H6 else Pv (i+1) zs H5)
  (hd:∀ i zs H p H',i=min xs.length ys.length->Pv i zs H->New H H' p (.lst zs)->Q (.ref p) H'):qf2 (Itz K a b) Q g tc te σ H:=
 qtn Pv hz h0 hl (λi x y zs H p e1 e2 hn p'=>hs i x y zs H p _ e1 e2 (qbj hn) p') λi zs H p e p' hp=>hd i zs H p _ e p' (qbj hp)
theorem qla {lo:Int} {n:Nat} {g:TG} {tc:TT} {te:TE} {Q:VK} {σ:St} {H:Hp} (Pv:Nat->List V->Hp->Prop) (hz:n<=sizeLine) (h0:Pv 0 [] H) (hl:∀ i ys H,Pv i ys H->ys.length<=i)
  (hs:∀ i ys H,i<n->Pv i ys H->g (.int (lo+i)) σ H λσ4 H4=>tc σ4 H4 λb H5=>if b=true then te σ4 H5 λv H6=>Pv (i+1) (ys ++ [v]) H6 else Pv (i+1) ys H5)
  (hd:∀ ys H p H',Pv n ys H->New H H' p (.lst ys)->Q (.ref p) H'):qf2 (Itr lo n) Q g tc te σ H:=
 qsm Pv hz h0 hl hs λys H p p' hp=>hd ys H p _ p' (qbj hp)
open PySem L2
end TB
namespace TB
open PySem L2
def gE:V->V->V
 | .non,y=>y
 | .int i,.int j=>.int (if j>i then j else i)
 | x,_=>x
theorem zip_get {xs ys:List V} {i:Nat} {x y:V} (h1:xs[i]?=some x) (h2:ys[i]?=some y):(List.zipWith gE xs ys)[i]?=some (gE x y):=by
 rw[List.getElem?_zipWith,h1,h2]
theorem qlb {α:Type} (xs:List α) (i:Nat) (x:α) (h:xs[i]?=some x):xs.take (i+1)=xs.take i ++ [x]:=by
 rw[List.take_succ,h];rfl
def qh2:Sp:=λvs H Q _=>∃ x y,vs=[x,y]/\Ed x/\Ed y/\Q (gE x y) H
theorem qzl (g:Option Int):Ed (gv g):=by cases g with
 | none=>exact .inl rfl
 | some z=>exact .inr ⟨z,rfl⟩
def qzm (v:V):Bool:=!decide (v=V.non)
theorem ed2 {x y:V} (hx:Ed x) (hy:Ed y):∃ ns:List Int,[x,y].filter qzm=ns.map V.int/\((ns=[]/\gE x y=.non)\/(ns≠[]/\∃ m,gE x y=.int m/\m∈ns/\∀ a∈ns,a<=m)):=by
 rcases hx with rfl|⟨i,rfl⟩<;>rcases hy with rfl|⟨j,rfl⟩
 ·exact ⟨[],rfl,.inl ⟨rfl,rfl⟩⟩
 ·exact ⟨[j],rfl,.inr ⟨by simp,j,rfl,by simp,by simp⟩⟩
 ·exact ⟨[i],rfl,.inr ⟨by simp,i,rfl,by simp,by simp⟩⟩
 ·refine ⟨[i,j],rfl,.inr ⟨by simp,_,rfl,?_,?_⟩⟩
  ·split<;>simp
  ·intro a ha
   simp only[List.mem_cons,List.not_mem_nil,or_false] at ha
   rcases ha with rfl|rfl<;>split<;>omega
open PySem L2
def EB (x:Int):Prop:=-(4*10 ^ 45)<x/\x<4*10 ^ 45
structure EdS (EV:List V) (es:List Int) (ge:Option Int):Prop where
 eq:EV=es.map V.int ++ [gv ge]
 bd:∀ x∈es,EB x
 gb:∀ z,ge=some z->EB z
theorem EdS.ed {EV:List V} {es:List Int} {ge:Option Int} (h:EdS EV es ge):∀ v∈EV,Ed v:=by
 intro v hv;rw[h.eq] at hv
 rcases List.mem_append.mp hv with z|z
 ·obtain ⟨i,_,e⟩:=List.mem_map.mp z;exact .inr ⟨i,e.symm⟩
 ·rw[List.mem_singleton.mp z];exact qzl ge
theorem EdS.of {ps:List (Int×Int)} {g:Option Int} {d:Int} (P:Pr ps g) (hd:Bd d):EdS (eV ps g d) (ps.map λp=>cut d p.1 p.2) (g.map λz=>cut d z (lw ps)):=by
 refine ⟨by unfold eV;rw[List.map_map];rfl,λx hx=>?_,λz hz=>?_⟩
 ·obtain ⟨p,hp,rfl⟩:=List.mem_map.mp hx
  obtain ⟨i,hi,e⟩:=List.getElem_of_mem hp;have hs:=P.size i p (by rw[<- e];exact List.getElem?_eq_getElem hi);exact qtz hd hs.1 hs.2.1 hs.2.2.1 hs.2.2.2
 ·cases g with
  | none=>cases hz
  | some y =>
   cases hz;obtain ⟨p,hp,ep⟩:=P.last;have hs:=P.size _ p hp;have hg:=P.gb y rfl;rw[ep];exact qtz hd hg.1 hg.2 hs.2.2.1 hs.2.2.2
def qzn:Option Int->Option Int->Option Int
 | none,y=>y
 | some i,some j=>some (if j>i then j else i)
 | x,none=>x
theorem qzo (x y:Option Int):gE (gv x) (gv y)=gv (qzn x y):=by cases x<;>cases y<;>rfl
theorem EdS.max {E1 E2:List V} {a b:List Int} {g1 g2:Option Int} (h1:EdS E1 a g1) (h2:EdS E2 b g2) (hl:a.length=b.length):EdS (List.zipWith gE E1 E2) (List.zipWith (λi j=>if j>i then j else i) a b) (qzn g1 g2):=by
 refine ⟨?_,λx hx=>?_,λz hz=>?_⟩
 ·rw[h1.eq,h2.eq,List.zipWith_append (by simpa using hl)]
  congr 1
  ·rw[List.zipWith_map_left,List.zipWith_map_right,List.map_zipWith];rfl
  ·show [gE (gv g1) (gv g2)]=_
   rw[qzo]
 ·obtain ⟨i,hi,e⟩:=List.getElem_of_mem hx
  have hi':=hi;rw[List.length_zipWith] at hi';have hia:i<a.length:=by omega
  have hib:i<b.length:=by omega
  rw[List.getElem_zipWith] at e;have e1:=h1.bd a[i] (List.getElem_mem _);have e2:=h2.bd b[i] (List.getElem_mem _);rw[<- e]
  split
  ·exact e2
  ·exact e1
 ·cases g1 with
  | none=>exact h2.gb z hz
  | some i =>
   cases g2 with
   | none=>exact h1.gb z hz
   | some j =>
    have e1:=h1.gb i rfl;have e2:=h2.gb j rfl;simp only[qzn,Option.some.injEq] at hz;rw[<- hz]
    split
    ·exact e2
    ·exact e1
def wl (ws es:List Int) (t:Int):List Int:=((ws.zip es).filter λx=>decide (t<x.2)).map (·.1)
def qcs (ge:Option Int) (t:Int):Prop:=∃ z,ge=some z/\t<z
def CellOf (ws es:List Int) (ge:Option Int) (t:Int) (o:Option (Int×Int)):Prop:=
 (∀ e0,es[0]?=some e0->(e0<=t->o=some (t,0))/\(t<e0->(qcs ge t->o=none)/\(¬ qcs ge t->∃ w,(wl ws es t)[(wl ws es t).length-1]?=some w/\o=some (t / w*w,w))))
theorem qxo {ws es:List Int} {t w0 e0:Int} (h1:ws[0]?=some w0) (h2:es[0]?=some e0) (h:t<e0):1<=(wl ws es t).length:=by
 cases ws with
 | nil=>simp at h1
 | cons w r =>
  cases es with
  | nil=>simp at h2
  | cons e s =>
   simp at h2
   subst h2;unfold wl;rw[List.zip_cons_cons,List.filter_cons_of_pos (by simpa using h)]
   simp
theorem qqt {ws es:List Int} {t w:Int} (h:w∈wl ws es t):w∈ws:=by
 unfold wl at h;obtain ⟨x,hx,rfl⟩:=List.mem_map.mp h;exact (List.of_mem_zip (List.mem_filter.mp hx).1).1
theorem qAy {ws es:List Int} {t:Int} {i:Nat} {w e:Int} (h1:ws[i]?=some w) (h2:es[i]?=some e) (h:t<e):((((ws.zip es).take (i+1)).filter λx=>decide (t<x.2)).map (·.1))=((((ws.zip es).take i).filter λx=>decide (t<x.2)).map (·.1)) ++ [w]:=by
 have hz:(ws.zip es)[i]?=some (w,e):=by rw[List.getElem?_zip_eq_some];exact ⟨h1,h2⟩
 rw[qlb _ i _ hz,List.filter_append,List.map_append]
 simp[h]
theorem qAz {ws es:List Int} {t:Int} {i:Nat} {w e:Int} (h1:ws[i]?=some w) (h2:es[i]?=some e) (h:¬ t<e):((((ws.zip es).take (i+1)).filter λx=>decide (t<x.2)).map (·.1))=((((ws.zip es).take i).filter λx=>decide (t<x.2)).map (·.1)):=by
 have hz:(ws.zip es)[i]?=some (w,e):=by rw[List.getElem?_zip_eq_some];exact ⟨h1,h2⟩
 rw[qlb _ i _ hz,List.filter_append,List.map_append]
 simp[h]
theorem qxp {ws es:List Int} {t:Int} {i:Nat} (h:(ws.zip es).length<=i):((((ws.zip es).take i).filter λx=>decide (t<x.2)).map (·.1))=wl ws es t:=by
 rw[List.take_of_length_le h];rfl
theorem qxq (ws es:List Int) (t:Int) (i:Nat):((((ws.zip es).take i).filter λx=>decide (t<x.2)).map (·.1)).length<=i:=by
 rw[List.length_map];exact Nat.le_trans (List.length_filter_le _ _) (by rw[List.length_take];omega)
def qxr (H:Hp) (v:V) (o:Option (Int×Int)):Prop:=match o with
 | none=>v=.non
 | some p=>PairAt H v p
theorem CellOf.uniq {ws es:List Int} {ge:Option Int} {t:Int} {o o':Option (Int×Int)} {e0:Int} (h0:es[0]?=some e0) (h:CellOf ws es ge t o) (h':CellOf ws es ge t o'):o=o':=by
 obtain ⟨a1,a2⟩:=h e0 h0;obtain ⟨b1,b2⟩:=h' e0 h0
 by_cases hc:e0<=t
 ·rw[a1 hc,b1 hc]
 ·have hlt:t<e0:=by omega
  by_cases hg:qcs ge t
  ·rw[(a2 hlt).1 hg,(b2 hlt).1 hg]
  ·obtain ⟨w,hw,rfl⟩:=(a2 hlt).2 hg
   obtain ⟨w',hw',rfl⟩:=(b2 hlt).2 hg;rw[hw] at hw'
   cases hw'
   rfl
inductive qi8 (vs:List V) (H:Hp) (Q:VK) (E_:XK):Prop
 | mk:∀ (e:Addr) (es:List Int) (ge:Option Int) (t:Int),vs=[.ref e,.int t]->H e=some (.lst (es.map V.int ++ [gv ge]))->(qcs ge t->Q (.bl true) H)->(¬ qcs ge t->Q (.bl false) H)->qi8 vs H Q E_
inductive qh3 (C:Addr) (vs:List V) (H:Hp) (Q:VK) (E_:XK):Prop
 | mk:∀ (r l:Addr) (ps:List (Int×Int)) (g:Option Int) (e:Addr) (es:List Int) (ge:Option Int) (t e0:Int),vs=[.ref r,.ref e,.int t]->RuleAt C H r l ps g->H e=some (.lst (es.map V.int ++ [gv ge]))->es.length=ps.length->1<=ps.length->ps.length<=5->es[0]?=some e0->t<e0->(∀ w H',(wl (ps.map (·.2)) es t)[(wl (ps.map (·.2)) es t).length-1]?=some w->Same H H'->Q (.int w) H')->qh3 C vs H Q E_
def qki (t:Int):Prop:=-(10 ^ 46)<=t/\t<10 ^ 46
inductive qi9 (C:Addr) (vs:List V) (H:Hp) (Q:VK) (E_:XK):Prop
 | mk:∀ (r l:Addr) (ps:List (Int×Int)) (g:Option Int) (e:Addr) (es:List Int) (ge:Option Int) (t:Int),vs=[.ref r,.ref e,.int t]->RuleAt C H r l ps g->H e=some (.lst (es.map V.int ++ [gv ge]))->es.length=ps.length->1<=ps.length->ps.length<=5->qxl ps->qki t->(∀ v o H',CellOf (ps.map (·.2)) es ge t o->qxr H' v o->Same H H'->Q v H')->qi9 C vs H Q E_
inductive qh4 (vs:List V) (H:Hp) (Q:VK) (E_:XK):Prop
 | mk:∀ (a b:Addr) (xs ys:List V),vs=[.ref a,.ref b]->H a=some (.lst xs)->H b=some (.lst ys)->(∀ v∈xs,Ed v)->(∀ v∈ys,Ed v)->xs.length=ys.length->xs.length<=1000->(∀ p H',New H H' p (.lst (List.zipWith gE xs ys))->Q (.ref p) H')->qh4 vs H Q E_
theorem CellOf.a {ws es:List Int} {ge:Option Int} {t e0:Int} (h0:es[0]?=some e0) (h:e0<=t):CellOf ws es ge t (some (t,0)):=λx hx=>by
 rw[h0] at hx;cases hx;exact ⟨λ_=>rfl,λh'=>absurd h (by omega)⟩
theorem CellOf.b {ws es:List Int} {ge:Option Int} {t e0:Int} (h0:es[0]?=some e0) (h:t<e0) (hg:qcs ge t):CellOf ws es ge t none:=λx hx=>by
 rw[h0] at hx;cases hx;exact ⟨λh'=>absurd h (by omega),λ_=>⟨λ_=>rfl,λn=>absurd hg n⟩⟩
theorem CellOf.c {ws es:List Int} {ge:Option Int} {t e0 w:Int} (h0:es[0]?=some e0) (h:t<e0) (hg:¬ qcs ge t) (hw:(wl ws es t)[(wl ws es t).length-1]?=some w):CellOf ws es ge t (some (t / w*w,w)):=λx hx=>by
 rw[h0] at hx;cases hx;exact ⟨λh'=>absurd h (by omega),λ_=>⟨λn=>absurd n hg,λ_=>⟨w,hw,rfl⟩⟩⟩
theorem qh5 {K:Frag} {H H':Hp} {a:Addr} {xs:List V} (s:Same H H') (h:SqL K H a xs):SqL K H' a xs:=by
 rcases h with (h|⟨o,h⟩)|h
 ·exact .inl (.inl (s _ _ h))
 ·exact .inl (.inr ⟨o,s _ _ h⟩)
 ·exact .inr h
theorem qlc:∀ es:List Int,(es.map V.int).filter qzm=es.map V.int
 | []=>rfl
 | e :: r=>by rw[List.map_cons,List.filter_cons_of_pos (by rfl),qlc r]
theorem known (es:List Int) (ge:Option Int):(es.map V.int ++ [gv ge]).filter qzm=(es ++ ge.toList).map V.int:=by
 rw[List.filter_append,qlc,List.map_append]
 cases ge<;>rfl
theorem qhd {K:Frag} {a:Addr} {xs:List V} {g:TG} {tc:TT} {te:TE} {Q:VK} {σ:St} {H:Hp} (Pv:Nat->List V->Hp->Prop) (hz:xs.length<=sizeLine) (h0:Pv 0 [] H) (hl:∀ i ys H,Pv i ys H->SqL K H a xs/\ys.length<=i)
  (hs:∀ i x ys H,xs[i]?=some x->Pv i ys H->g x σ H λσ4 H4=>tc σ4 H4 λb H5=>if b=true then te σ4 H5 λv H6=>Pv (i+1) (ys ++ [v]) H6 else Pv (i+1) ys H5)
  (hd:∀ ys H p H',Pv xs.length ys H->New H H' p (.lst ys)->Q (.ref p) H'):qf2 (Itl K a) Q g tc te σ H:=
 qp1 Pv hz h0 hl hs λys H p p' hp=>hd ys H p _ p' (qbj hp)
open PySem L2
def qrp (rs:List (Int×Int)):List Int:=rs.map λp=>p.1
def qz4 (rs:List (Int×Int)):List Int:=rs.map λp=>p.2
def qz5 (rs:List (Int×Int)):List Int:=rs.map λp=>p.1*p.2
def rN (rs:List (Int×Int)):Int:=(qz4 rs).sum
def rT (rs:List (Int×Int)):Int:=(qz5 rs).sum
structure qng (rs:List (Int×Int)) (vm vt vl vg:Int):Prop where
 m:vm=rN rs
 t:vt=rT rs
 lo:vl∈qrp rs
 lo':∀ a∈qrp rs,vl<=a
 hi:vg∈qrp rs
 hi':∀ a∈qrp rs,a<=vg
def dTup (ns:List Int):PyData:=.tuple (ns.map PyData.int)
theorem qvi (ns:List Int):(dTup ns).canLay0=true:=by simp[dTup,PyData.canLay0,qk7]
theorem qvj {K:Frag} {H:Hp} {a:Addr} {ns:List Int} (h:H a=some (.tup (ns.map V.int))):Rep K H (.ref a) (dTup ns):=.tup (SqT.of h) (qk6 ns)
theorem mapN' (f:Int×Int->Int) (rs:List (Int×Int)) {i:Nat} {p:Int×Int} (h:rs[i]?=some p):((rs.take (i+1)).map f).map V.int=((rs.take i).map f).map V.int ++ [V.int (f p)]:=by
 rw[List.take_succ,h]
 simp
theorem qj5 {K:Frag} {l:Addr} {xs:List V} {rs:List (Int×Int)} {te:TE} {Q:VK} {σ:St} {H:Hp} (f:Int×Int->Int) (hl:H l=some (.lst xs)) (hp:Pairs H xs rs) (hz:rs.length<=200)
  (hs:∀ p∈rs,∀ Q':VK,Q' (.int (f p)) H->te ((σ.set 0 (some (.int p.1))).set 1 (some (.int p.2))) H Q')
  (hd:∀ a H',New H H' a (.lst ((rs.map f).map V.int))->Q (.ref a) H'):qf2 (Itl K l) Q (qyr K 2 (qo9 (qiu 0) (qo9 (qiu 1) qyq))) qy6 te σ H:=by
 have hlen:=hp.length;refine qhd (xs:=xs) (λi ys H2=>H2=H/\ys=((rs.take i).map f).map V.int) (Nat.le_of_lt (qa6 (by omega))) ⟨rfl,rfl⟩ (λi ys H2 h2=>⟨SqL.of (by rw[h2.1];exact hl),by rw[h2.2];simp;omega⟩) ?_ ?_
 ·rintro i x ys H2 hi ⟨rfl,rfl⟩
  obtain ⟨p,hpi,a,rfl,ha⟩:=hp.get hi;refine ⟨a,_,rfl,SqT.of ha,rfl,_,_,rfl,_,_,rfl,rfl,qsl (qd8 ?_)⟩;refine hs p (List.mem_of_getElem? hpi) _ ⟨rfl,?_⟩;rw[mapN' f rs hpi]
 ·rintro ys H2 a H' ⟨rfl,rfl⟩ n
  rw[hlen,List.take_length] at n;exact hd a H' n
inductive qld (vs:List V) (H:Hp) (Q:VK) (E_:XK):Prop
 | mk:∀ a b m t lo hi m' t' lo' hi',vs=[.ref a,.ref b]->H a=some (.tup [.int m,.int t,.int lo,.int hi])->H b=some (.tup [.int m',.int t',.int lo',.int hi'])->(∀ p H',New H H' p (.tup [.int (m+m'),.int (t+t'),.int (if lo'<lo then lo' else lo),.int (if hi'>hi then hi' else hi)])->Q (.ref p) H')->qld vs H Q E_
open PySem L2
def rof (ru:Addr) (day:Int) (le dy dh:Addr):List (Str×V):=qfz "cell_heaps" (.ref dh) (qfz "whole_ones" (.ref dy) (qfz "kept_edges" (.ref le) (qfz "kept_day" (.int day) (qfz "kept_rule" (.ref ru) []))))
section
variable (ru:Addr) (day:Int) (le dy dh:Addr)
theorem qqu:(rof ru day le dy dh).lookup ("kept_rule" : Str)=some (.ref ru):=by
 unfold rof;rw[qag,if_neg (by decide +kernel),qag,if_neg (by decide +kernel),qag,if_neg (by decide +kernel),qag,if_neg (by decide +kernel),qag,if_pos rfl]
theorem qxs:(rof ru day le dy dh).lookup ("kept_day" : Str)=some (.int day):=by
 unfold rof;rw[qag,if_neg (by decide +kernel),qag,if_neg (by decide +kernel),qag,if_neg (by decide +kernel),qag,if_pos rfl]
theorem qnh:(rof ru day le dy dh).lookup ("kept_edges" : Str)=some (.ref le):=by
 unfold rof;rw[qag,if_neg (by decide +kernel),qag,if_neg (by decide +kernel),qag,if_pos rfl]
theorem qni:(rof ru day le dy dh).lookup ("whole_ones" : Str)=some (.ref dy):=by
 unfold rof;rw[qag,if_neg (by decide +kernel),qag,if_pos rfl]
theorem qja:(rof ru day le dy dh).lookup ("cell_heaps" : Str)=some (.ref dh):=by
 unfold rof;rw[qag,if_pos rfl]
theorem qf6 {m:Str} (h1:¬ m = "cell_heaps") (h2:¬ m = "whole_ones") (h3:¬ m = "kept_edges") (h4:¬ m = "kept_day") (h5:¬ m = "kept_rule"):(rof ru day le dy dh).lookup m=none:=by
 unfold rof;rw[qag,if_neg h1,qag,if_neg h2,qag,if_neg h3,qag,if_neg h4,qag,if_neg h5];rfl
theorem qh6:(rof ru day le dy dh).lookup ("put" : Str)=none:=qf6 _ _ _ _ _ (by decide +kernel) (by decide +kernel) (by decide +kernel) (by decide +kernel) (by decide +kernel)
theorem qnj:(rof ru day le dy dh).lookup ("pour_into_cell" : Str)=none:=qf6 _ _ _ _ _ (by decide +kernel) (by decide +kernel) (by decide +kernel) (by decide +kernel) (by decide +kernel)
theorem qnk:(rof ru day le dy dh).lookup ("rule" : Str)=none:=qf6 _ _ _ _ _ (by decide +kernel) (by decide +kernel) (by decide +kernel) (by decide +kernel) (by decide +kernel)
theorem qqv:(rof ru day le dy dh).lookup ("day" : Str)=none:=qf6 _ _ _ _ _ (by decide +kernel) (by decide +kernel) (by decide +kernel) (by decide +kernel) (by decide +kernel)
theorem qle:(rof ru day le dy dh).lookup ("edges" : Str)=none:=qf6 _ _ _ _ _ (by decide +kernel) (by decide +kernel) (by decide +kernel) (by decide +kernel) (by decide +kernel)
theorem qdl:(rof ru day le dy dh).lookup ("young" : Str)=none:=qf6 _ _ _ _ _ (by decide +kernel) (by decide +kernel) (by decide +kernel) (by decide +kernel) (by decide +kernel)
theorem qct:(rof ru day le dy dh).lookup ("heaps" : Str)=none:=qf6 _ _ _ _ _ (by decide +kernel) (by decide +kernel) (by decide +kernel) (by decide +kernel) (by decide +kernel)
end
abbrev KV:=List (List Key×V)
structure qaz where
 ru:Addr
 rl:Addr
 le:Addr
 dy:Addr
 dh:Addr
 ps:List (Int×Int)
 g:Option Int
 day:Int
 es:List Int
 ge:Option Int
 Y:KV
 Z:KV
structure RollAt (C R:Addr) (H:Hp) (ro:Addr) (D:qaz):Prop where
 ob:∃ dx,H ro=some (.ins C dx (rof D.ru D.day D.le D.dy D.dh))
 rule:RuleAt R H D.ru D.rl D.ps D.g
 ed:H D.le=some (.lst (D.es.map V.int ++ [gv D.ge]))
 yo:H D.dy=some (.dT D.Y)
 he:H D.dh=some (.dT D.Z)
 ne:D.dy≠D.dh
theorem RollAt.same {C R:Addr} {H H':Hp} {ro:Addr} {D:qaz} (s:Same H H') (h:RollAt C R H ro D):RollAt C R H' ro D:=
 ⟨let ⟨dx,e⟩:=h.ob;⟨dx,s _ _ e⟩,h.rule.same s,s _ _ h.ed,s _ _ h.yo,s _ _ h.he,h.ne⟩
theorem qxt {kvs:KV}:∀ xs,HO.dT kvs≠.tup xs:=λ_ z=>by cases z
theorem RuleAt.but2 {C:Addr} {H H':Hp} {r l a:Addr} {ps:List (Int×Int)} {g:Option Int} {o:HO} (h:RuleAt C H r l ps g) (b:But a H H') (ha:H a=some o) (nt:∀ xs,o≠.tup xs) (nl:∀ xs,o≠.lst xs) (hr:r≠a):RuleAt C H' r l ps g:=by
 obtain ⟨dx,e⟩:=h.ob;obtain ⟨xs,e2,p⟩:=h.ls;exact ⟨⟨dx,b _ _ e hr⟩,xs,b _ _ e2 (qa1 e2 ha (λz=>nl xs z.symm)),p.but b ha nt⟩
theorem RollAt.putY {C R:Addr} {H H':Hp} {ro:Addr} {D:qaz} {Y':KV} (A:RollAt C R H ro D) (b:But D.dy H H') (h:H' D.dy=some (.dT Y')):RollAt C R H' ro { D with Y:=Y' }:=by
 obtain ⟨dx,e⟩:=A.ob;obtain ⟨dx2,e2⟩:=A.rule.ob;exact ⟨⟨dx,b _ _ e (qa1 e A.yo (by intro z;cases z))⟩,A.rule.but2 b A.yo qxt (by intro xs z;cases z) (qa1 e2 A.yo (by intro z;cases z)),b _ _ A.ed (qa1 A.ed A.yo (by intro z;cases z)),h,b _ _ A.he A.ne.symm,A.ne⟩
theorem RollAt.putZ {C R:Addr} {H H':Hp} {ro:Addr} {D:qaz} {Z':KV} (A:RollAt C R H ro D) (b:But D.dh H H') (h:H' D.dh=some (.dT Z')):RollAt C R H' ro { D with Z:=Z' }:=by
 obtain ⟨dx,e⟩:=A.ob;obtain ⟨dx2,e2⟩:=A.rule.ob;exact ⟨⟨dx,b _ _ e (qa1 e A.he (by intro z;cases z))⟩,A.rule.but2 b A.he qxt (by intro xs z;cases z) (qa1 e2 A.he (by intro z;cases z)),b _ _ A.ed (qa1 A.ed A.he (by intro z;cases z)),b _ _ A.yo A.ne,h,A.ne⟩
def But2 (a b:Addr) (H H':Hp):Prop:=∀ c o,H c=some o->c≠a->c≠b->H' c=some o
structure qd1 (D:qaz):Prop where
 pr:Pr D.ps D.g
 es:D.es.length=D.ps.length
def qz6 (ru rl le dy dh:Addr) (ps:List (Int×Int)) (g:Option Int) (day:Int):qaz:=⟨ru,rl,le,dy,dh,ps,g,day,ps.map (λp=>cut day p.1 p.2),g.map (λz=>cut day z (lw ps)),[],[]⟩
def YOk (Y:KV):Prop:=∀ k x,qc6 Y k=some x->∃ n,x=V.int n
def ZOk (H:Hp) (Z:KV):Prop:=∀ k x,qc6 Z k=some x->∃ (h:Addr) (m t lo hi:Int),x=.ref h/\H h=some (.tup [.int m,.int t,.int lo,.int hi])
theorem ZOk.same {H H':Hp} {Z:KV} (s:Same H H') (h:ZOk H Z):ZOk H' Z:=λk x e=>by
 obtain ⟨a,m,t,lo,hi,e1,e2⟩:=h k x e;exact ⟨a,m,t,lo,hi,e1,s _ _ e2⟩
def yv (Y:KV) (k:List Key):Int:=match qc6 Y k with
 | some (.int n)=>n
 | _=>0
def kk (a b:Int):List Key:=[.inl a,.inl b]
theorem qxu {Y:KV} (h:YOk Y) (k:List Key):(qc6 Y k).getD (V.int 0)=V.int (yv Y k):=by
 unfold yv
 cases e:qc6 Y k with
 | none=>rfl
 | some x =>
  obtain ⟨n,rfl⟩:=h k x e
  rfl
def qxv (H:Hp) (Z:KV) (k:List Key) (v m a b lo hi:Int):Prop:=
 (qc6 Z k=none/\qng [(v,m)] a b lo hi)\/∃ (h0:Addr) (m0 t0 lo0 hi0 a' b' lo' hi':Int),qc6 Z k=some (.ref h0)/\H h0=some (.tup [.int m0,.int t0,.int lo0,.int hi0])/\qng [(v,m)] a' b' lo' hi'/\a=m0+a'/\b=t0+b'/\lo=(if lo'<lo0 then lo' else lo0)/\hi=(if hi'>hi0 then hi' else hi0)
def Puts (H H':Hp) (D D':qaz) (o:Option (Int×Int)) (t v m:Int):Prop:=
 (o=none/\D'=D)\/(o=some (t,0)/\D'={ D with Y:=putK D.Y (kk t v) (.int (yv D.Y (kk t v)+m)) }) \/
 ∃ (s w:Int) (h:Addr) (a b lo hi:Int),o=some (s,w)/\1<=w/\D'={ D with Z:=putK D.Z (kk s w) (.ref h) }/\H' h=some (.tup [.int a,.int b,.int lo,.int hi])/\qxv H D.Z (kk s w) v m a b lo hi
theorem CellOf.some_ {ws es:List Int} {ge:Option Int} {t:Int} {p:Int×Int} (h:CellOf ws es ge t (some p)) (hl:1<=es.length) (hw:∀ w∈ws,1<=w):p=(t,0)\/1<=p.2:=by
 obtain ⟨h1,h2⟩:=h es[0] (List.getElem?_eq_getElem (by omega))
 by_cases c:es[0]<=t
 ·exact .inl (Option.some.inj (h1 c))
 ·obtain ⟨g1,g2⟩:=h2 (by omega)
  by_cases hg:qcs ge t
  ·cases g1 hg
  ·obtain ⟨w,e1,e2⟩:=g2 hg
   cases e2;exact .inr (hw w (qqt (List.mem_of_getElem? e1)))
theorem Pr.w1 {ps:List (Int×Int)} {g:Option Int} (P:Pr ps g) {w:Int} (h:w∈ps.map (·.2)):1<=w:=by
 obtain ⟨p,hp,rfl⟩:=List.mem_map.mp h;obtain ⟨i,hi,e⟩:=List.getElem_of_mem hp;exact (P.size i p (by rw[<- e];exact List.getElem?_eq_getElem hi)).2.2.1
def qrr (p:Int×Int):Prop:=(-(10 ^ 51)<p.1/\p.1<10 ^ 51)/\1<=p.2/\p.2<10 ^ 45
inductive qh7 (vs:List V) (H:Hp) (Q:VK) (E_:XK):Prop
 | mk:∀ l xs rs,vs=[.ref l]->H l=some (.lst xs)->Pairs H xs rs->(∀ p∈rs,qrr p)->rs.length<=200->(rs=[]->Q .non H)->(rs≠[]->∀ a m t lo hi H',qng rs m t lo hi->New H H' a (.tup [.int m,.int t,.int lo,.int hi])->Q (.ref a) H')->qh7 vs H Q E_
inductive qgz (C R:Addr) (vs:List V) (H:Hp) (Q:VK) (E_:XK):Prop
 | mk:∀ (ro dx ru rl:Addr) (ps:List (Int×Int)) (g:Option Int) (day:Int),vs=[.ref ro,.ref ru,.int day]->H ro=some (.ins C dx [])->RuleAt R H ru rl ps g->Pr ps g->Bd day->(∀ le dy dh H',H le=none->H dy=none->H dh=none->RollAt C R H' ro (qz6 ru rl le dy dh ps g day)->But ro H H'->Q .non H')->qgz C R vs H Q E_
inductive qe3 (C R N:Addr) (vs:List V) (H:Hp) (Q:VK) (E:XK):Prop
 | mk:∀ (ro:Addr) (D:qaz) (t v m:Int),vs=[.ref ro,.int t,.int v,.int m]->RollAt C R H ro D->qd1 D->qki t->(1<=m->qrr (v,m))->YOk D.Y->ZOk H D.Z->D.Y.length<=900->D.Z.length<=900->(m<1->E (.ref N) none H)->(1<=m->∀ o,CellOf (D.ps.map (·.2)) D.es D.ge t o->∀ D' H',Puts H H' D D' o t v m->RollAt C R H' ro D'->But2 D.dy D.dh H H'->Q (.bl o.isSome) H')->qe3 C R N vs H Q E
def qs2 (C R:Addr):Sp:=λvs H Q _=>∃ (ro:Addr) (D:qaz),vs=[.ref ro]/\RollAt C R H ro D/\Q (.ref D.ru) H
def qvk (C R:Addr):Sp:=λvs H Q _=>∃ (ro:Addr) (D:qaz),vs=[.ref ro]/\RollAt C R H ro D/\Q (.int D.day) H
def qqw (C R:Addr):Sp:=λvs H Q _=>∃ (ro:Addr) (D:qaz),vs=[.ref ro]/\RollAt C R H ro D/\∀ p H',New H H' p (.lst (D.es.map V.int ++ [gv D.ge]))->Q (.ref p) H'
def TupAt (H:Hp) (v:V) (r:List Int):Prop:=∃ a,v=.ref a/\H a=some (.tup (r.map V.int))
def Tups (H:Hp) (xs:List V) (rs:List (List Int)):Prop:=Paired (TupAt H) xs rs
theorem TupAt.same {H H':Hp} (s:Same H H') {v:V} {r:List Int}:TupAt H v r->TupAt H' v r:=fun ⟨a,e,h⟩=>⟨a,e,s _ _ h⟩
theorem Tups.same {H H':Hp} (s:Same H H'):∀ {xs:List V} {rs:List (List Int)},Tups H xs rs->Tups H' xs rs
 | _,_,.nil=>.nil
 | _,_,.cons r t=>.cons (r.same s) (Tups.same s t)
theorem Tups.length {H:Hp}:∀ {xs:List V} {rs:List (List Int)},Tups H xs rs->xs.length=rs.length
 | _,_,.nil=>rfl
 | _,_,.cons _ t=>by simp[Tups.length t]
theorem Tups.get {H:Hp}:∀ {xs:List V} {rs:List (List Int)} {i:Nat} {x:V},Tups H xs rs->xs[i]?=some x->∃ r,rs[i]?=some r/\TupAt H x r
 | _,_,_,_,.nil,e=>by simp at e
 | _,_,0,_,.cons r _,e=>by simp at e;subst e;exact ⟨_,rfl,r⟩
 | _,_,i+1,x,.cons _ t,e=>by
  obtain ⟨u,h1,h2⟩:=Tups.get (i:=i) (x:=x) t (by simpa using e);exact ⟨u,by simpa using h1,h2⟩
def qlf (rs:List (List Int)):PyData:=.list (rs.map dTup)
theorem qlg:∀ rs:List (List Int),PyData.canLayAll0 (rs.map dTup)=true
 | []=>rfl
 | r :: t=>by simp[PyData.canLayAll0,qvi,qlg t]
theorem qeq (rs:List (List Int)):(qlf rs).canLay0=true:=by simp[qlf,PyData.canLay0,qlg]
theorem qf7:∀ rs:List (List Int),PyData.depthAll (rs.map dTup)<=1
 | []=>by simp[PyData.depthAll]
 | r :: t=>by
  have:=qf7 t
  simp[PyData.depthAll,dTup,PyData.depth,qk8]
  omega
theorem qnl (rs:List (List Int)):(qlf rs).depth<=20:=by
 have:=qf7 rs
 simp[qlf,PyData.depth];omega
theorem Tups.reps {K:Frag} {H:Hp}:∀ {xs:List V} {rs:List (List Int)},Tups H xs rs->qpw K H xs (rs.map dTup)
 | _,_,.nil=>.nil
 | _,_,.cons ⟨a,e,h⟩ t=>by
  subst e;exact .cons (qvj h) (Tups.reps t)
theorem Tups.rep {K:Frag} {H:Hp} {l:Addr} {xs:List V} {rs:List (List Int)} (h:H l=some (.lst xs)) (r:Tups H xs rs):Rep K H (.ref l) (qlf rs):=.lst (SqL.of h) r.reps
open PySem L2
abbrev HP4:=Int×Int×Int×Int
structure Abs where
 y:List Int->Option Int
 z:List Int->Option HP4
def mg4 (a b:HP4):HP4:=(a.1+b.1,a.2.1+b.2.1,(if b.2.2.1<a.2.2.1 then b.2.2.1 else a.2.2.1),(if b.2.2.2>a.2.2.2 then b.2.2.2 else a.2.2.2))
def qg0 (v m:Int):HP4:=(m,v*m,v,v)
def qew {α:Type} (f:List Int->Option α) (k:List Int) (x:α):List Int->Option α:=λj=>if j=k then some x else f j
theorem qa2 {α:Type} (f:List Int->Option α) (k:List Int) (x:α):qew f k x k=some x:=if_pos rfl
theorem qbm {α:Type} (f:List Int->Option α) {k j:List Int} (x:α) (h:j≠k):qew f k x j=f j:=if_neg h
theorem qb1 {α:Type} (f:List Int->Option α) (k:List Int) (x y:α):qew (qew f k x) k y=qew f k y:=by
 funext j;unfold qew;split<;>rfl
theorem qf8 {α:Type} (f:List Int->Option α) {k l:List Int} (x y:α) (h:k≠l):qew (qew f k x) l y=qew (qew f l y) k x:=by
 funext j;unfold qew
 by_cases h1:j=k
 ·subst h1;rw[if_neg h,if_pos rfl]
  simp
 ·by_cases h2:j=l
  ·subst h2;simp[h1]
  ·simp[h1,h2]
def qcl (o:Option HP4) (b:HP4):HP4:=match o with
 | none=>b
 | some a=>mg4 a b
theorem qv4 {a b:HP4} (h1:a.1=b.1) (h2:a.2.1=b.2.1) (h3:a.2.2.1=b.2.2.1) (h4:a.2.2.2=b.2.2.2):a=b:=by
 obtain ⟨_,_,_,_⟩:=a;obtain ⟨_,_,_,_⟩:=b
 simp at h1 h2 h3 h4
 simp[h1,h2,h3,h4]
theorem qs3 (a b:HP4):mg4 a b=mg4 b a:=by
 unfold mg4;refine qv4 ?_ ?_ ?_ ?_<;>dsimp only
 ·omega
 ·omega
 ·split<;>split<;>omega
 ·split<;>split<;>omega
theorem qqx (h a b:HP4):mg4 (mg4 h a) b=mg4 (mg4 h b) a:=by
 unfold mg4;refine qv4 ?_ ?_ ?_ ?_<;>dsimp only
 ·omega
 ·omega
 ·repeat' split
  all_goals omega
 ·repeat' split
  all_goals omega
theorem qgq (o:Option HP4) (a b:HP4):qcl (some (qcl o a)) b=qcl (some (qcl o b)) a:=by
 cases o with
 | none=>exact qs3 a b
 | some h=>exact qqx h a b
theorem qoi (o:Option HP4) (v m n:Int):qcl (some (qcl o (qg0 v m))) (qg0 v n)=qcl o (qg0 v (m+n)):=by
 have e:v*m+v*n=v*(m+n):=(Int.mul_add v m n).symm
 cases o with
 | none =>
  show mg4 (qg0 v m) (qg0 v n)=qg0 v (m+n)
  unfold mg4 qg0;refine qv4 ?_ ?_ ?_ ?_<;>dsimp only
  ·exact e
  ·split<;>rfl
  ·split<;>rfl
 | some h =>
  show mg4 (mg4 h (qg0 v m)) (qg0 v n)=mg4 h (qg0 v (m+n))
  unfold mg4 qg0;refine qv4 ?_ ?_ ?_ ?_<;>dsimp only
  ·omega
  ·rw[Int.add_assoc,e]
  ·repeat' split
   all_goals omega
  ·repeat' split
   all_goals omega
abbrev Rd3:=Int×Int×Int
def qdb (cell:Int->Option (Int×Int)) (s:Abs) (r:Rd3):Abs:=match cell r.1 with
 | none=>s
 | some (a,w)=>if w=0 then { s with y:=qew s.y [r.1,r.2.1] ((s.y [r.1,r.2.1]).getD 0+r.2.2) } else { s with z:=qew s.z [a,w] (qcl (s.z [a,w]) (qg0 r.2.1 r.2.2)) }
theorem qqy (cell:Int->Option (Int×Int)) (s:Abs) (r q:Rd3):qdb cell (qdb cell s r) q=qdb cell (qdb cell s q) r:=by
 unfold qdb
 cases e1:cell r.1 with
 | none=>cases e2:cell q.1<;>rfl
 | some p =>
  obtain ⟨a,w⟩:=p
  cases e2:cell q.1 with
  | none=>rfl
  | some p2 =>
   obtain ⟨b,u⟩:=p2;dsimp only
   by_cases hw:w=0
   ·by_cases hu:u=0
    ·rw[if_pos hw,if_pos hu,if_pos hu,if_pos hw]
     dsimp only
     by_cases hk:[r.1,r.2.1]=[q.1,q.2.1]
     ·rw[hk,qa2,qb1,qa2,qb1]
      simp only[Option.getD_some]
      congr 2
      omega
     ·rw[qbm _ _ (λz=>hk z.symm),qbm _ _ hk,qf8 _ _ _ hk]
    ·rw[if_pos hw,if_neg hu,if_neg hu,if_pos hw]
   ·by_cases hu:u=0
    ·rw[if_neg hw,if_pos hu,if_pos hu,if_neg hw]
    ·rw[if_neg hw,if_neg hu,if_neg hu,if_neg hw]
     dsimp only
     by_cases hk:[a,w]=[b,u]
     ·rw[hk,qa2,qb1,qa2,qb1,qgq]
     ·rw[qbm _ _ (λz=>hk z.symm),qbm _ _ hk,qf8 _ _ _ hk]
theorem qoj (cell:Int->Option (Int×Int)) (s:Abs) (t v m n:Int):qdb cell (qdb cell s (t,v,m)) (t,v,n)=qdb cell s (t,v,m+n):=by
 unfold qdb;dsimp only
 cases e1:cell t with
 | none=>rfl
 | some p =>
  obtain ⟨a,w⟩:=p;dsimp only
  by_cases hw:w=0
  ·rw[if_pos hw,if_pos hw,if_pos hw]
   dsimp only;rw[qa2,qb1];simp only[Option.getD_some]
   congr 2
   omega
  ·rw[if_neg hw,if_neg hw,if_neg hw]
   dsimp only;rw[qa2,qb1,qoi]
def qok:Abs:=⟨λ_=>none,λ_=>none⟩
def qer (cell:Int->Option (Int×Int)) (rs:List Rd3):Abs:=rs.foldl (qdb cell) qok
theorem qjb (cell:Int->Option (Int×Int)) (rs:List Rd3) (r:Rd3):qer cell (rs ++ [r])=qdb cell (qer cell rs) r:=by
 unfold qer;rw[List.foldl_append];rfl
structure SKeys {α:Type} (f:List Int->Option α) (ms:List (List Int)):Prop where
 srt:ms.Pairwise (λk l=>blt k l=true)
 mem:∀ k,k∈ms↔f k≠none
theorem qj6 {k l:List Int} (h1:blt k l=true) (h2:blt l k=true):False:=by
 have:=qi7 k l k h1 h2;rw[qhw] at this;cases this
theorem SKeys.uniq {α:Type} {f:List Int->Option α} {ms ms':List (List Int)} (a:SKeys f ms) (b:SKeys f ms'):ms=ms':=by
 have nd:∀ {l:List (List Int)},l.Pairwise (λk l=>blt k l=true)->l.Nodup:=λh=>h.imp fun {k l} hb e=>by rw[e,qhw] at hb;cases hb
 refine List.Perm.eq_of_pairwise (le:=λk l=>blt k l=true) (λk l _ _ h1 h2=>(qj6 h1 h2).elim) a.srt b.srt ?_;rw[List.perm_ext_iff_of_nodup (nd a.srt) (nd b.srt)];intro k;rw[a.mem,b.mem]
def kI (k:List Int):List Key:=k.map Sum.inl
theorem qh8 {k l:List Int} (h:kI k=kI l):k=l:=by
 induction k generalizing l with
 | nil=>cases l with
  | nil=>rfl
  | cons _ _=>cases h
 | cons a r ih=>cases l with
  | nil=>cases h
  | cons b t =>
   unfold kI at h;rw[List.map_cons,List.map_cons] at h;injection h with h1 h2
   injection h1 with h1
   rw[h1,ih h2]
theorem qxw (k:List Int):(kI k).map kV=k.map V.int:=by
 unfold kI;rw[List.map_map];rfl
theorem qnm (kvs:KV) (k:List Key) (v:V):(k∈kvs.map (·.1)->(putK kvs k v).map (·.1)=kvs.map (·.1))/\(k ∉ kvs.map (·.1)->(putK kvs k v).map (·.1)=kvs.map (·.1) ++ [k]):=by
 unfold putK
 by_cases h:(kvs.any λkv=>decide (kv.1=k))=true
 ·have hm:k∈kvs.map (·.1):=by
   obtain ⟨x,hx,e⟩:=List.any_eq_true.mp h;exact List.mem_map.mpr ⟨x,hx,by simpa using e⟩
  refine ⟨λ_=>?_,λn=>absurd hm n⟩;rw[if_pos h,List.map_map]
  apply List.map_congr_left
  intro x hx
  show (if x.1=k then (x.1,v) else x).1=x.1
  split<;>rfl
 ·have hm:k ∉ kvs.map (·.1):=λhm=>h (by
   obtain ⟨x,hx,e⟩:=List.mem_map.mp hm;exact List.any_eq_true.mpr ⟨x,hx,by simpa using e⟩)
  refine ⟨λn=>absurd n hm,λ_=>?_⟩;rw[if_neg h,List.map_append];rfl
theorem valV_mem {kvs:KV} {k:List Key}:qc6 kvs k≠none↔k∈kvs.map (·.1):=by
 unfold qc6
 constructor
 ·intro h
  cases e:kvs.find? λkv=>decide (kv.1=k) with
  | none=>rw[e] at h;exact absurd rfl h
  | some x =>
   have:=List.find?_some e;exact List.mem_map.mpr ⟨x,List.mem_of_find?_eq_some e,by simpa using this⟩
 ·intro h z
  obtain ⟨x,hx,e⟩:=List.mem_map.mp h;rw[Option.map_eq_none_iff,List.find?_eq_none] at z;exact z x hx (by simpa using e)
structure DKeys (kvs:KV) (ks:List (List Int)):Prop where
 eq:kvs.map (·.1)=ks.map kI
 nd:ks.Nodup
 ne:∀ k∈ks,k.length=2
theorem DKeys.nil:DKeys [] []:=⟨rfl,.nil,λk h=>by cases h⟩
theorem DKeys.put {kvs:KV} {ks:List (List Int)} (h:DKeys kvs ks) (k:List Int) (hk:k.length=2) (v:V):∃ ks',DKeys (putK kvs (kI k) v) ks'/\∀ j,j∈ks'↔j∈ks\/j=k:=by
 have hm:kI k∈kvs.map (·.1)↔k∈ks:=by
  rw[h.eq]
  constructor
  ·intro z
   obtain ⟨j,hj,e⟩:=List.mem_map.mp z;rw[<- qh8 e];exact hj
  ·exact λz=>List.mem_map.mpr ⟨k,z,rfl⟩
 by_cases hin:k∈ks
 ·refine ⟨ks,⟨by rw[(qnm _ _ _).1 (hm.mpr hin)];exact h.eq,h.nd,h.ne⟩,λj=>⟨.inl,λz=>z.elim id λe=>by rw[e];exact hin⟩⟩
 ·refine ⟨ks ++ [k],⟨by rw[(qnm _ _ _).2 (λz=>hin (hm.mp z)),h.eq,List.map_append];rfl,?_,?_⟩,λj=>by simp⟩
  ·rw[List.nodup_append]
   exact ⟨h.nd,List.pairwise_singleton _ _,λa ha b hb e=>by
    rw[List.mem_singleton.mp hb] at e;exact hin (by rw[<- e];exact ha)⟩
  ·intro j hj
   rcases List.mem_append.mp hj with z|z
   ·exact h.ne j z
   ·rw[List.mem_singleton.mp z];exact hk
theorem DKeys.ne' {kvs:KV} {ks:List (List Int)} (h:DKeys kvs ks):∀ k∈ks,k≠[]:=λk hk z=>by
 have:=h.ne k hk;rw[z] at this;cases this
theorem DKeys.mem {kvs:KV} {ks:List (List Int)} (h:DKeys kvs ks) (k:List Int):k∈ks↔qc6 kvs (kI k)≠none:=by
 rw[valV_mem,h.eq]
 constructor
 ·exact λz=>List.mem_map.mpr ⟨k,z,rfl⟩
 ·intro z
  obtain ⟨j,hj,e⟩:=List.mem_map.mp z;rw[<- qh8 e];exact hj
def v4 (h:HP4):List V:=[.int h.1,.int h.2.1,.int h.2.2.1,.int h.2.2.2]
structure RAbs (H:Hp) (D:qaz) (s:Abs) (LY LZ:List (List Int)):Prop where
 yv:∀ k,qc6 D.Y (kI k)=(s.y k).map V.int
 yk:∃ ks,DKeys D.Y ks/\ks ⊆ LY
 zn:∀ k,s.z k=none->qc6 D.Z (kI k)=none
 zs:∀ k h,s.z k=some h->∃ a,qc6 D.Z (kI k)=some (.ref a)/\H a=some (.tup (v4 h))
 zk:∃ ks,DKeys D.Z ks/\ks ⊆ LZ
theorem RAbs.same {H H':Hp} {D:qaz} {s:Abs} {LY LZ:List (List Int)} (e:Same H H') (h:RAbs H D s LY LZ):RAbs H' D s LY LZ:=
 ⟨h.yv,h.yk,h.zn,λk x q=>(h.zs k x q).imp λ_ z=>⟨z.1,e _ _ z.2⟩,h.zk⟩
theorem RAbs.tups {H H':Hp} {D:qaz} {s:Abs} {LY LZ:List (List Int)} (e:qo3 H H') (h:RAbs H D s LY LZ):RAbs H' D s LY LZ:=
 ⟨h.yv,h.yk,h.zn,λk x q=>(h.zs k x q).imp λ_ z=>⟨z.1,e _ _ z.2⟩,h.zk⟩
theorem RAbs.mono {H:Hp} {D:qaz} {s:Abs} {LY LZ LY' LZ':List (List Int)} (h:RAbs H D s LY LZ) (a:LY ⊆ LY') (b:LZ ⊆ LZ'):RAbs H D s LY' LZ':=
 ⟨h.yv,h.yk.imp λ_ z=>⟨z.1,λ_ y=>a (z.2 y)⟩,h.zn,h.zs,h.zk.imp λ_ z=>⟨z.1,λ_ y=>b (z.2 y)⟩⟩
theorem RAbs.zero {H:Hp} {D:qaz} {LY LZ:List (List Int)} (eY:D.Y=[]) (eZ:D.Z=[]):RAbs H D qok LY LZ where
 yv:=λk=>by rw[eY];rfl
 yk:=⟨[],by rw[eY];exact DKeys.nil,λ_ z=>by cases z⟩
 zn:=λk _=>by rw[eZ];rfl
 zs:=λk x z=>by cases z
 zk:=⟨[],by rw[eZ];exact DKeys.nil,λ_ z=>by cases z⟩
theorem RAbs.yok {H:Hp} {D:qaz} {s:Abs} {LY LZ:List (List Int)} (h:RAbs H D s LY LZ):∀ k x,qc6 D.Y (kI k)=some x->∃ n,x=V.int n:=λk x e=>by
 rw[h.yv] at e
 cases e2:s.y k with
 | none=>rw[e2] at e;cases e
 | some n=>rw[e2] at e;exact ⟨n,(Option.some.inj e).symm⟩
theorem qt2 {kvs:KV} {ks L:List (List Int)} (h:DKeys kvs ks) (hs:ks ⊆ L):kvs.length<=L.length:=by
 have:=congrArg List.length h.eq;rw[List.length_map,List.length_map] at this;rw[this];exact List.Nodup.length_le_of_subset h.nd hs
open PySem L2
theorem qnn {v m a b lo hi:Int} (h:qng [(v,m)] a b lo hi):a=m/\b=v*m/\lo=v/\hi=v:=by
 refine ⟨by rw[h.m];simp[rN,qz4],by rw[h.t];simp[rT,qz5],?_,?_⟩
 ·have:=h.lo;simpa [qrp] using this
 ·have:=h.hi;simpa [qrp] using this
theorem qt3 {kvs:KV} {ks:List (List Int)} (h:DKeys kvs ks) {k:List Key} {x:V} (e:qc6 kvs k=some x):∃ j,k=kI j:=by
 have:k∈kvs.map (·.1):=valV_mem.mp (by rw[e];simp);rw[h.eq] at this;obtain ⟨j,_,e⟩:=List.mem_map.mp this;exact ⟨j,e.symm⟩
theorem RAbs.YOk {H:Hp} {D:qaz} {s:Abs} {LY LZ:List (List Int)} (h:RAbs H D s LY LZ):YOk D.Y:=λk x e=>by
 obtain ⟨ks,d,_⟩:=h.yk;obtain ⟨j,rfl⟩:=qt3 d e;exact h.yok j x e
theorem RAbs.ZOk {H:Hp} {D:qaz} {s:Abs} {LY LZ:List (List Int)} (h:RAbs H D s LY LZ):ZOk H D.Z:=λk x e=>by
 obtain ⟨ks,d,_⟩:=h.zk;obtain ⟨j,rfl⟩:=qt3 d e
 cases ez:s.z j with
 | none=>rw[h.zn j ez] at e;cases e
 | some p =>
  obtain ⟨a,e1,e2⟩:=h.zs j p ez;rw[e] at e1;cases e1;exact ⟨a,p.1,p.2.1,p.2.2.1,p.2.2.2,rfl,e2⟩
theorem RAbs.ylen {H:Hp} {D:qaz} {s:Abs} {LY LZ:List (List Int)} (h:RAbs H D s LY LZ):D.Y.length<=LY.length:=by
 obtain ⟨ks,d,e⟩:=h.yk;exact qt2 d e
theorem RAbs.zlen {H:Hp} {D:qaz} {s:Abs} {LY LZ:List (List Int)} (h:RAbs H D s LY LZ):D.Z.length<=LZ.length:=by
 obtain ⟨ks,d,e⟩:=h.zk;exact qt2 d e
def qz7 (r:Rd3):List Int:=[r.1,r.2.1]
def qt4 (cell:Int->Option (Int×Int)) (r:Rd3):List Int:=match cell r.1 with
 | none=>[]
 | some (a,w)=>[a,w]
theorem RAbs.put {H H':Hp} {D D':qaz} {o:Option (Int×Int)} {t v m:Int} {s:Abs} {LY LZ:List (List Int)} {cell:Int->Option (Int×Int)} (h:RAbs H D s LY LZ) (hp:Puts H H' D D' o t v m) (eo:cell t=o) (ts:qo3 H H')
  (hy:[t,v]∈LY) (hz:∀ a w,o=some (a,w)->[a,w]∈LZ):RAbs H' D' (qdb cell s (t,v,m)) LY LZ:=by
 have h2:=h.tups ts;unfold qdb;dsimp only
 rcases hp with ⟨rfl,rfl⟩|⟨rfl,rfl⟩|⟨a,w,b,m1,t1,lo1,hi1,rfl,hw,rfl,hb,po⟩
 ·rw[eo];exact h2
 ·rw[eo]
  dsimp only;rw[if_pos rfl];have ey:TB.yv D.Y (kk t v)=(s.y [t,v]).getD 0:=by
   unfold TB.yv;have:=h.yv [t,v];rw[show kk t v=kI [t,v] from rfl,this]
   cases s.y [t,v]<;>rfl
  refine ⟨λk=>?_,?_,h2.zn,h2.zs,h2.zk⟩
  ·show qc6 (putK D.Y (kI [t,v]) _) (kI k)=(qew s.y [t,v] ((s.y [t,v]).getD 0+m) k).map V.int
   rw[qf1,ey]
   by_cases hk:k=[t,v]
   ·subst hk;rw[if_pos rfl,qa2];rfl
   ·rw[if_neg (λz=>hk (qh8 z)),qbm _ _ hk];exact h.yv k
  ·obtain ⟨ks,d,e⟩:=h.yk
   obtain ⟨ks',d',e'⟩:=d.put [t,v] rfl (V.int (TB.yv D.Y (kk t v)+m));exact ⟨ks',d',λj hj=>(e' j).mp hj |>.elim (λz=>e z) λz=>by rw[z];exact hy⟩
 ·rw[eo]
  dsimp only;rw[if_neg (by omega)];have ev:(m1,t1,lo1,hi1)=qcl (s.z [a,w]) (qg0 v m):=by
   rcases po with ⟨p1,p2⟩|⟨h0,m0,t0,lo0,hi0,a',b',lo',hi',p1,p2,p3,rfl,rfl,rfl,rfl⟩
   ·obtain ⟨rfl,rfl,rfl,rfl⟩:=qnn p2
    cases ez:s.z [a,w] with
    | none=>rfl
    | some q =>
     obtain ⟨_,e1,_⟩:=h.zs _ q ez;rw[show kk a w=kI [a,w] from rfl,e1] at p1;cases p1
   ·obtain ⟨rfl,rfl,rfl,rfl⟩:=qnn p3
    cases ez:s.z [a,w] with
    | none =>
     have:=h.zn _ ez;rw[show kk a w=kI [a,w] from rfl,this] at p1;cases p1
    | some q =>
     obtain ⟨_,e1,e2⟩:=h.zs _ q ez;rw[show kk a w=kI [a,w] from rfl,e1] at p1;cases p1;rw[p2] at e2;have e3:[V.int m0,V.int t0,V.int lo0,V.int hi0]=v4 q:=by injection e2 with e2;injection e2
     unfold v4 at e3;injection e3 with c1 e3
     injection e3 with c2 e3
     injection e3 with c3 e3
     injection e3 with c4 e3
     injection c1 with c1
     injection c2 with c2
     injection c3 with c3
     injection c4 with c4
     subst c1 c2 c3 c4
     rfl
  have hb':H' b=some (.tup (v4 (qcl (s.z [a,w]) (qg0 v m)))):=by rw[<- ev];exact hb
  refine ⟨h2.yv,h2.yk,λk hk=>?_,λk q hk=>?_,?_⟩
  ·have hk:qew s.z [a,w] (qcl (s.z [a,w]) (qg0 v m)) k=none:=hk
   show qc6 (putK D.Z (kI [a,w]) _) (kI k)=_
   rw[qf1]
   by_cases hk2:k=[a,w]
   ·subst hk2;rw[qa2] at hk;cases hk
   ·rw[if_neg (λz=>hk2 (qh8 z))]
    rw[qbm _ _ hk2] at hk;exact h.zn k hk
  ·have hk:qew s.z [a,w] (qcl (s.z [a,w]) (qg0 v m)) k=some q:=hk
   show ∃ c,qc6 (putK D.Z (kI [a,w]) (.ref b)) (kI k)=some (.ref c)/\_
   rw[qf1]
   by_cases hk2:k=[a,w]
   ·subst hk2
    rw[qa2] at hk;cases hk;exact ⟨b,if_pos rfl,hb'⟩
   ·rw[qbm _ _ hk2] at hk
    rw[if_neg (λz=>hk2 (qh8 z))];exact h2.zs k q hk
  ·obtain ⟨ks,d,e⟩:=h.zk
   obtain ⟨ks',d',e'⟩:=d.put [a,w] rfl (V.ref b);exact ⟨ks',d',λj hj=>(e' j).mp hj |>.elim (λz=>e z) λz=>by rw[z];exact hz a w rfl⟩
inductive qno (C R:Addr) (vs:List V) (H:Hp) (Q:VK) (E_:XK):Prop
 | mk:∀ (ro:Addr) (D:qaz) (t v m:Int),vs=[.ref ro,.int t,.int v,.int m]->RollAt C R H ro D->qd1 D->qki t->1<=m->qrr (v,m)->TB.YOk D.Y->TB.ZOk H D.Z->D.Y.length<=900->D.Z.length<=900->(∀ o,CellOf (D.ps.map (·.2)) D.es D.ge t o->∀ D' H',Puts H H' D D' o t v m->RollAt C R H' ro D'->But2 D.dy D.dh H H'->Q (.bl o.isSome) H')->qno C R vs H Q E_
def qmj (s:Abs) (k:List Int):List Int:=k ++ [(s.y k).getD 0]
def i4 (h:HP4):List Int:=[h.1,h.2.1,h.2.2.1,h.2.2.2]
def qnp (s:Abs) (k:List Int):List Int:=k ++ i4 ((s.z k).getD (0,0,0,0))
inductive qh9 (C R:Addr) (vs:List V) (H:Hp) (Q:VK) (E_:XK):Prop
 | mk:∀ (ro:Addr) (D:qaz) (s:Abs) (LY LZ:List (List Int)),vs=[.ref ro]->RollAt C R H ro D->RAbs H D s LY LZ->LY.length<64->(∀ l xs ms H',Same H H'->H l=none->H' l=some (.lst xs)->SKeys s.y ms->ms.length<64->Tups H' xs (ms.map (qmj s))->Q (.ref l) H')->qh9 C R vs H Q E_
inductive qia (C R:Addr) (vs:List V) (H:Hp) (Q:VK) (E_:XK):Prop
 | mk:∀ (ro:Addr) (D:qaz) (s:Abs) (LY LZ:List (List Int)),vs=[.ref ro]->RollAt C R H ro D->RAbs H D s LY LZ->LZ.length<64->(∀ l xs ms H',Same H H'->H l=none->H' l=some (.lst xs)->SKeys s.z ms->ms.length<64->Tups H' xs (ms.map (qnp s))->Q (.ref l) H')->qia C R vs H Q E_
theorem Tups.snoc {H:Hp} {v:V} {r:List Int} (h:TupAt H v r):∀ {xs:List V} {rs:List (List Int)},Tups H xs rs->Tups H (xs ++ [v]) (rs ++ [r])
 | _,_,.nil=>.cons h .nil
 | _,_,.cons q t=>.cons q (Tups.snoc h t)
theorem SKeys.ofD {kvs:KV} {ks ms:List (List Int)} {α:Type} {f:List Int->Option α} (d:DKeys kvs ks) (hf:∀ k,qc6 kvs (kI k)≠none↔f k≠none) (p:ms.Perm ks) (hs:ms.Pairwise (λk l=>blt k l=true)):SKeys f ms:=
 ⟨hs,λk=>by rw[p.mem_iff,d.mem,hf]⟩
open PySem L2
def ROk (r:Rd3):Prop:=qki r.1/\qrr (r.2.1,r.2.2)
def l3 (r:Rd3):List Int:=[r.1,r.2.1,r.2.2]
open Classical in
noncomputable def qb8 (ws es:List Int) (ge:Option Int) (t:Int):Option (Int×Int):=if h:∃ o,CellOf ws es ge t o then h.choose else none
theorem qj7 {ws es:List Int} {ge:Option Int} {t:Int} {o:Option (Int×Int)} (hl:1<=es.length) (h:CellOf ws es ge t o):qb8 ws es ge t=o:=by
 have hx:∃ o,CellOf ws es ge t o:=⟨o,h⟩;unfold qb8;rw[dif_pos hx];exact CellOf.uniq (e0:=es[0]) (List.getElem?_eq_getElem (by omega)) hx.choose_spec h
def dd (Y Z:KV):qaz:=⟨0,0,0,0,0,[],none,0,[],none,Y,Z⟩
open PySem L2
def RR (C R:Addr) (H:Hp) (ro:Addr) (c:qaz) (s:Abs) (LY LZ:List (List Int)):Prop:=
 ∃ Y Z,RollAt C R H ro { c with Y:=Y,Z:=Z }/\RAbs H { c with Y:=Y,Z:=Z } s LY LZ
theorem RR.same {C R:Addr} {H H':Hp} {ro:Addr} {c:qaz} {s:Abs} {LY LZ:List (List Int)} (e:Same H H') (h:RR C R H ro c s LY LZ):RR C R H' ro c s LY LZ:=
 let ⟨Y,Z,a,b⟩:=h;⟨Y,Z,a.same e,b.same e⟩
theorem But2.tups {H H':Hp} {a b:Addr} {Y Z:KV} (h:But2 a b H H') (ha:H a=some (.dT Y)) (hb:H b=some (.dT Z)):qo3 H H':=λx xs e =>
 h x _ e (qa1 e ha (by intro z;cases z)) (qa1 e hb (by intro z;cases z))
theorem But2.keep {H H':Hp} {a b:Addr} {Y Z:KV} (h:But2 a b H H') (ha:H a=some (.dT Y)) (hb:H b=some (.dT Z)) {x:Addr} {o:HO} (e:H x=some o) (n:∀ K,o≠.dT K):H' x=some o:=
 h x _ e (qa1 e ha (n _)) (qa1 e hb (n _))
theorem But2.trans {H H1 H2:Hp} {a b:Addr} (h:But2 a b H H1) (h2:But2 a b H1 H2):But2 a b H H2:=λx o e n m=>h2 x o (h x o e n m) n m
theorem But2.refl (a b:Addr) (H:Hp):But2 a b H H:=λ_ _ e _ _=>e
theorem RuleAt.keep2 {C:Addr} {H H':Hp} {r l a b:Addr} {ps:List (Int×Int)} {g:Option Int} {Y Z:KV} (h:RuleAt C H r l ps g) (e:But2 a b H H') (ha:H a=some (.dT Y)) (hb:H b=some (.dT Z)):RuleAt C H' r l ps g:=by
 obtain ⟨dx,e1⟩:=h.ob;obtain ⟨xs,e2,p⟩:=h.ls;exact ⟨⟨dx,e.keep ha hb e1 (by intro K z;cases z)⟩,xs,e.keep ha hb e2 (by intro K z;cases z),p.tupS (e.tups ha hb)⟩
theorem RR.frame {C R:Addr} {H H':Hp} {ro:Addr} {c:qaz} {s:Abs} {LY LZ:List (List Int)} {a b:Addr} {Y Z:KV} (h:RR C R H ro c s LY LZ) (e:But2 a b H H') (ha:H a=some (.dT Y)) (hb:H b=some (.dT Z))
  (n1:c.dy≠a) (n2:c.dy≠b) (n3:c.dh≠a) (n4:c.dh≠b):RR C R H' ro c s LY LZ:=by
 obtain ⟨Y',Z',A,B⟩:=h;obtain ⟨dx,e1⟩:=A.ob;exact ⟨Y',Z',⟨⟨dx,e.keep ha hb e1 (by intro K z;cases z)⟩,A.rule.keep2 e ha hb,e.keep ha hb A.ed (by intro K z;cases z),e _ _ A.yo n1 n2,e _ _ A.he n3 n4,A.ne⟩,B.tups (e.tups ha hb)⟩
theorem RR.dicts {C R:Addr} {H:Hp} {ro:Addr} {c:qaz} {s:Abs} {LY LZ:List (List Int)} (h:RR C R H ro c s LY LZ):(∃ Y,H c.dy=some (.dT Y))/\∃ Z,H c.dh=some (.dT Z):=
 let ⟨_,_,A,_⟩:=h;⟨⟨_,A.yo⟩,⟨_,A.he⟩⟩
theorem RR.obj {C R:Addr} {H:Hp} {ro:Addr} {c:qaz} {s:Abs} {LY LZ:List (List Int)} (h:RR C R H ro c s LY LZ):∃ dx,H ro=some (.ins C dx (rof c.ru c.day c.le c.dy c.dh)):=
 let ⟨_,_,A,_⟩:=h;A.ob
noncomputable abbrev cellD (c:qaz):Int->Option (Int×Int):=qb8 (c.ps.map (·.2)) c.es c.ge
theorem RR.put {C R:Addr} {H:Hp} {ro:Addr} {c:qaz} {s:Abs} {LY LZ:List (List Int)} {t v m:Int} {Q:VK} {E:XK} (h:RR C R H ro c s LY LZ) (ok:qd1 c) (hr:qki t) (h1:1<=m) (hb:qrr (v,m)) (ly:LY.length<64) (lz:LZ.length<64)
  (hy:[t,v]∈LY) (hz:∀ a w,cellD c t=some (a,w)->[a,w]∈LZ)
  (q:∀ H',RR C R H' ro c (qdb (cellD c) s (t,v,m)) LY LZ->But2 c.dy c.dh H H'->Q (.bl (cellD c t).isSome) H'):qno C R [.ref ro,.int t,.int v,.int m] H Q E:=by
 obtain ⟨Y,Z,A,B⟩:=h;have hes:1<=c.es.length:=by rw[ok.es];exact ok.pr.good.lo
 refine ⟨ro,_,t,v,m,rfl,A,⟨ok.pr,ok.es⟩,hr,h1,hb,B.YOk,B.ZOk,Nat.le_trans B.ylen (by omega),Nat.le_trans B.zlen (by omega),λo hc D' H' pu A' b'=>?_⟩;have eo:cellD c t=o:=qj7 hes hc;rw[<- eo];have B':=B.put pu eo (b'.tups A.yo A.he) hy (λa w e=>hz a w (eo.trans e));refine q H' ?_ b'
 rcases pu with ⟨_,rfl⟩|⟨_,rfl⟩|⟨_,_,_,_,_,_,_,_,_,rfl,_,_⟩
 ·exact ⟨Y,Z,A',B'⟩
 ·exact ⟨_,Z,A',B'⟩
 ·exact ⟨Y,_,A',B'⟩
open Classical in
noncomputable def qcu (s:Abs):List (List Int):=if h:∃ ms,SKeys s.y ms then h.choose.map (qmj s) else []
open Classical in
noncomputable def qco (s:Abs):List (List Int):=if h:∃ ms,SKeys s.z ms then h.choose.map (qnp s) else []
theorem qd2 {s:Abs} {ms:List (List Int)} (h:SKeys s.y ms):ms.map (qmj s)=qcu s:=by
 have hx:∃ ms,SKeys s.y ms:=⟨ms,h⟩;unfold qcu;rw[dif_pos hx,SKeys.uniq h hx.choose_spec]
theorem qdf {s:Abs} {ms:List (List Int)} (h:SKeys s.z ms):ms.map (qnp s)=qco s:=by
 have hx:∃ ms,SKeys s.z ms:=⟨ms,h⟩;unfold qco;rw[dif_pos hx,SKeys.uniq h hx.choose_spec]
def qt5 (rs:List (List Int)):Prop:=rs.length<=900/\∀ r∈rs,r.length<=10
theorem RR.young {C R:Addr} {H:Hp} {ro:Addr} {c:qaz} {s:Abs} {LY LZ:List (List Int)} {Q:VK} {E:XK} (h:RR C R H ro c s LY LZ) (ly:LY.length<64)
  (q:∀ l xs H',Same H H'->H l=none->H' l=some (.lst xs)->Tups H' xs (qcu s)->qt5 (qcu s)->Q (.ref l) H'):qh9 C R [.ref ro] H Q E:=by
 obtain ⟨Y,Z,A,B⟩:=h;refine ⟨ro,_,s,LY,LZ,rfl,A,B,ly,λl xs ms H' e f hl sk hm tu=>?_⟩;rw[qd2 sk] at tu;refine q l xs H' e f hl tu ?_;rw[<- qd2 sk];obtain ⟨ks,dk,_⟩:=B.yk;refine ⟨by rw[List.length_map];omega,λr hr=>?_⟩;obtain ⟨k,hk,rfl⟩:=List.mem_map.mp hr;have:k∈ks:=(dk.mem k).mpr (by rw[B.yv];have:=(sk.mem k).mp hk;cases z:s.y k with|none=>exact absurd z this|some _=>simp);have:=dk.ne k this;unfold qmj;rw[List.length_append,this];simp
theorem RR.heaps {C R:Addr} {H:Hp} {ro:Addr} {c:qaz} {s:Abs} {LY LZ:List (List Int)} {Q:VK} {E:XK} (h:RR C R H ro c s LY LZ) (lz:LZ.length<64)
  (q:∀ l xs H',Same H H'->H l=none->H' l=some (.lst xs)->Tups H' xs (qco s)->qt5 (qco s)->Q (.ref l) H'):qia C R [.ref ro] H Q E:=by
 obtain ⟨Y,Z,A,B⟩:=h;refine ⟨ro,_,s,LY,LZ,rfl,A,B,lz,λl xs ms H' e f hl sk hm tu=>?_⟩;rw[qdf sk] at tu;refine q l xs H' e f hl tu ?_;rw[<- qdf sk];obtain ⟨ks,dk,_⟩:=B.zk;refine ⟨by rw[List.length_map];omega,λr hr=>?_⟩;obtain ⟨k,hk,rfl⟩:=List.mem_map.mp hr;have:k∈ks:=(dk.mem k).mpr (by
  have:=(sk.mem k).mp hk
  cases z:s.z k with
  | none=>exact absurd z this
  | some h4=>obtain ⟨a,e1,_⟩:=B.zs k h4 z;rw[e1];simp)
 have:=dk.ne k this;unfold qnp i4;rw[List.length_append,this];simp
def qxx (a b:List (List Int)):PyData:=.tuple [qlf a,qlf b]
theorem qmk (a b:List (List Int)):(qxx a b).canLay0=true:=by simp[qxx,PyData.canLay0,PyData.canLayAll0,qeq]
theorem qvl (a b:List (List Int)):(qxx a b).depth<=20:=by
 have:=qf7 a;have:=qf7 b
 simp[qxx,qlf,PyData.depth,PyData.depthAll];omega
theorem qqz {K:Frag} {H:Hp} {t l1 l2:Addr} {xs ys:List V} {a b:List (List Int)} (h:H t=some (.tup [.ref l1,.ref l2])) (h1:H l1=some (.lst xs)) (t1:Tups H xs a) (h2:H l2=some (.lst ys)) (t2:Tups H ys b):Rep K H (.ref t) (qxx a b):=
 .tup (SqT.of h) (.cons (t1.rep h1) (.cons (t2.rep h2) .nil))
theorem Tups.tupS {H H':Hp} (s:qo3 H H'):∀ {xs:List V} {rs:List (List Int)},Tups H xs rs->Tups H' xs rs
 | _,_,.nil=>.nil
 | _,_,.cons ⟨a,e,h⟩ t=>.cons ⟨a,e,s _ _ h⟩ (Tups.tupS s t)
open PySem L2
def qee (cell:Int->Option (Int×Int)) (s:Abs) (a:Int) (x:HP4):Abs:=match cell a with
 | none=>s
 | some (b,w)=>{ s with z:=qew s.z [b,w] (qcl (s.z [b,w]) x) }
def qq0 (H:Hp) (Z:KV) (k:List Key) (x y:HP4):Prop:=
 (qc6 Z k=none/\y=x)\/∃ (h0:Addr) (x0:HP4),qc6 Z k=some (.ref h0)/\H h0=some (.tup (v4 x0))/\y=mg4 x0 x
theorem qt6 {x y:HP4} (h:v4 x=v4 y):x=y:=by
 unfold v4 at h;injection h with h1 h
 injection h with h2 h
 injection h with h3 h
 injection h with h4 _
 injection h1 with h1
 injection h2 with h2
 injection h3 with h3
 injection h4 with h4
 exact qv4 h1 h2 h3 h4
theorem RAbs.pour {H H':Hp} {D:qaz} {a w:Int} {b:Addr} {x y:HP4} {s:Abs} {LY LZ:List (List Int)} (h:RAbs H D s LY LZ) (po:qq0 H D.Z (kk a w) x y) (hb:H' b=some (.tup (v4 y))) (ts:qo3 H H') (hz:[a,w]∈LZ) :
  RAbs H' { D with Z:=putK D.Z (kk a w) (.ref b) } { s with z:=qew s.z [a,w] (qcl (s.z [a,w]) x) } LY LZ:=by
 have h2:=h.tups ts;have ev:y=qcl (s.z [a,w]) x:=by
  rcases po with ⟨p1,p2⟩|⟨h0,x0,p1,p2,p3⟩
  ·cases ez:s.z [a,w] with
   | none=>exact p2
   | some q =>
    obtain ⟨_,e1,_⟩:=h.zs _ q ez;rw[show kk a w=kI [a,w] from rfl,e1] at p1;cases p1
  ·cases ez:s.z [a,w] with
   | none =>
    have:=h.zn _ ez;rw[show kk a w=kI [a,w] from rfl,this] at p1;cases p1
   | some q =>
    obtain ⟨_,e1,e2⟩:=h.zs _ q ez;rw[show kk a w=kI [a,w] from rfl,e1] at p1;cases p1;rw[p2] at e2;have e3:v4 x0=v4 q:=by injection e2 with e2;injection e2
    rw[p3,qt6 e3]
    rfl
 subst ev;refine ⟨h2.yv,h2.yk,λk hk=>?_,λk q hk=>?_,?_⟩
 ·have hk:qew s.z [a,w] (qcl (s.z [a,w]) x) k=none:=hk
  show qc6 (putK D.Z (kI [a,w]) _) (kI k)=_
  rw[qf1]
  by_cases hk2:k=[a,w]
  ·subst hk2;rw[qa2] at hk;cases hk
  ·rw[if_neg (λz=>hk2 (qh8 z))]
   rw[qbm _ _ hk2] at hk;exact h.zn k hk
 ·have hk:qew s.z [a,w] (qcl (s.z [a,w]) x) k=some q:=hk
  show ∃ c,qc6 (putK D.Z (kI [a,w]) (.ref b)) (kI k)=some (.ref c)/\_
  rw[qf1]
  by_cases hk2:k=[a,w]
  ·subst hk2
   rw[qa2] at hk;cases hk;exact ⟨b,if_pos rfl,hb⟩
  ·rw[qbm _ _ hk2] at hk
   rw[if_neg (λz=>hk2 (qh8 z))];exact h2.zs k q hk
 ·obtain ⟨ks,d,e⟩:=h.zk
  obtain ⟨ks',d',e'⟩:=d.put [a,w] rfl (V.ref b);exact ⟨ks',d',λj hj=>(e' j).mp hj |>.elim (λz=>e z) λz=>by rw[z];exact hz⟩
def qdc (cell:Int->Option (Int×Int)) (s:Abs):List Int->Abs
 | [t,v,m]=>qdb cell s (t,v,m)
 | _=>s
def qce (cell:Int->Option (Int×Int)) (s:Abs):List Int->Abs
 | [a,_,m,t,lo,hi]=>qee cell s a (m,t,lo,hi)
 | _=>s
def qf9 (cell:Int->Option (Int×Int)) (s:Abs) (Y Z:List (List Int)):Abs:=Z.foldl (qce cell) (Y.foldl (qdc cell) s)
inductive qlh (C R:Addr) (vs:List V) (H:Hp) (Q:VK) (E_:XK):Prop
 | mk:∀ (ro:Addr) (D:qaz) (c h:Addr) (s w:Int) (x:HP4),vs=[.ref ro,.ref c,.ref h]->RollAt C R H ro D->H c=some (.tup [.int s,.int w])->H h=some (.tup (v4 x))->ZOk H D.Z->D.Z.length<=900->(∀ h2 y H',H' h2=some (.tup (v4 y))->qq0 H D.Z (kk s w) x y->RollAt C R H' ro { D with Z:=putK D.Z (kk s w) (.ref h2) }->But D.dh H H'->Q .non H')->qlh C R vs H Q E_
inductive qnq (C R:Addr) (vs:List V) (H:Hp) (Q:VK) (E_:XK):Prop
 | mk:∀ (ro:Addr) (c:qaz) (s:Abs) (LY LZ:List (List Int)) (a:Int) (h:Addr) (x:HP4),vs=[.ref ro,.int a,.ref h]->RR C R H ro c s LY LZ->qd1 c->qki a->H h=some (.tup (v4 x))->LZ.length<64->(∀ b w,cellD c a=some (b,w)->[b,w]∈LZ)->(∀ H',RR C R H' ro c (qee (cellD c) s a x) LY LZ->But2 c.dy c.dh H H'->Q .non H')->qnq C R vs H Q E_
structure qnr (cell:Int->Option (Int×Int)) (LY LZ Y Z:List (List Int)):Prop where
 y:∀ r∈Y,∃ t v m,r=[t,v,m]/\ROk (t,v,m)/\[t,v]∈LY/\∀ a w,cell t=some (a,w)->[a,w]∈LZ
 z:∀ r∈Z,∃ a w m t lo hi,r=[a,w,m,t,lo,hi]/\qki a/\∀ b w,cell a=some (b,w)->[b,w]∈LZ
def ApartD (c d:qaz):Prop:=c.dy≠d.dy/\c.dy≠d.dh/\c.dh≠d.dy/\c.dh≠d.dh
inductive qib (C R:Addr) (vs:List V) (H:Hp) (Q:VK) (E_:XK):Prop
 | mk:∀ (ro r2:Addr) (c c2:qaz) (s s2:Abs) (LY LZ LY2 LZ2:List (List Int)),vs=[.ref ro,.ref r2]->RR C R H ro c s LY LZ->RR C R H r2 c2 s2 LY2 LZ2->qd1 c->ApartD c2 c->LY.length<64->LZ.length<64->LY2.length<64->LZ2.length<64->qnr (cellD c) LY LZ (qcu s2) (qco s2)->(∀ H',RR C R H' ro c (qf9 (cellD c) s (qcu s2) (qco s2)) LY LZ->But2 c.dy c.dh H H'->Q .non H')->qib C R vs H Q E_
open PySem L2
theorem SKeys.nd {α:Type} {f:List Int->Option α} {ms:List (List Int)} (h:SKeys f ms):ms.Nodup:=h.srt.imp fun {k l} hb e=>by rw[e,qhw] at hb;cases hb
open PySem L2
theorem qe4 {ws es:List Int} {ge:Option Int} (hw:1<=ws.length) (he:1<=es.length) (t:Int):CellOf ws es ge t (qb8 ws es ge t):=by
 obtain ⟨o,h⟩:∃ o,CellOf ws es ge t o:=by
  by_cases c:es[0]<=t
  ·exact ⟨some (t,0),λe0 h0=>⟨λ_=>rfl,λz=>by rw[List.getElem?_eq_getElem (by omega)] at h0;have:=Option.some.inj h0;omega⟩⟩
  ·by_cases hg:qcs ge t
   ·exact ⟨none,λe0 h0=>⟨λz=>by rw[List.getElem?_eq_getElem (by omega)] at h0;have:=Option.some.inj h0;omega,λ_=>⟨λ_=>rfl,λz=>absurd hg z⟩⟩⟩
   ·have hn:=qxo (ws:=ws) (es:=es) (t:=t) (w0:=ws[0]) (e0:=es[0]) (List.getElem?_eq_getElem (by omega)) (List.getElem?_eq_getElem (by omega)) (by omega)
    refine ⟨some (t / (wl ws es t)[(wl ws es t).length-1]*(wl ws es t)[(wl ws es t).length-1],(wl ws es t)[(wl ws es t).length-1]),λe0 h0=>⟨λz=>by rw[List.getElem?_eq_getElem (by omega)] at h0;have:=Option.some.inj h0;omega,λ_=>⟨λz=>absurd z hg,λ_=>⟨_,List.getElem?_eq_getElem (by omega),rfl⟩⟩⟩⟩
 rw[qj7 he h];exact h
theorem qns {e t w:Int} (hw:1<=w) (h:w ∣ e) (hl:e<=t):e<=t / w*w:=by
 obtain ⟨k,rfl⟩:=h;have:k<=t / w:=(Int.le_ediv_iff_mul_le (by omega)).mpr (by rw[Int.mul_comm];exact hl);rw[Int.mul_comm w k];exact Int.mul_le_mul_of_nonneg_right this (by omega)
def qyi (W:Int) (cell:Int->Option (Int×Int)):Prop:=∀ t a w,cell t=some (a,w)->a<=t/\t-W<=a
theorem qq1 {ws es:List Int} {ge:Option Int} {W:Int} (hw:1<=ws.length) (he:1<=es.length) (hW:0<=W) (hb:∀ w∈ws,1<=w/\w<=W):qyi W (qb8 ws es ge):=λt a w e=>by
 have h:=qe4 (ge:=ge) hw he t;rw[e] at h;obtain ⟨h1,h2⟩:=h es[0] (List.getElem?_eq_getElem (by omega))
 by_cases c:es[0]<=t
 ·have:=h1 c
  cases this;omega
 ·obtain ⟨g1,g2⟩:=h2 (by omega)
  by_cases hg:qcs ge t
  ·cases g1 hg
  ·obtain ⟨w',hl,e2⟩:=g2 hg
   cases e2;have:=hb w (qqt (List.mem_of_getElem? hl));have h1:=Int.ediv_mul_le t (b:=w) (by omega);have h2:=Int.lt_ediv_add_one_mul_self t (b:=w) (by omega);rw[Int.add_mul,Int.one_mul] at h2;omega
open PySem L2
def qvm (cell:Int->Option (Int×Int)) (r:Rd3):List Int:=match cell r.1 with
 | none=>[]
 | some (a,w)=>if w=0 then [0,r.1,r.2.1] else [1,a,w]
def Tags (cell:Int->Option (Int×Int)) (s:Abs) (L:List Rd3):Prop:=(∀ k,s.y k≠none->∃ r∈L,qvm cell r=0 :: k)/\∀ k,s.z k≠none->∃ r∈L,qvm cell r=1 :: k
theorem Tags.put {cell:Int->Option (Int×Int)} {s:Abs} {L:List Rd3} (h:Tags cell s L) (r:Rd3):Tags cell (qdb cell s r) (L ++ [r]):=by
 have up:∀ {x:List Int},(∃ r∈L,qvm cell r=x)->∃ q∈L ++ [r],qvm cell q=x:=fun ⟨q,hq,e⟩=>⟨q,List.mem_append_left _ hq,e⟩
 have me:r∈L ++ [r]:=List.mem_append_right _ List.mem_cons_self;unfold qdb
 rcases e:cell r.1 with _|⟨a,w⟩
 ·exact ⟨λk hk=>up (h.1 k hk),λk hk=>up (h.2 k hk)⟩
 ·dsimp only
  split
  ·rename_i hw
   refine ⟨λk hk=>?_,λk hk=>up (h.2 k hk)⟩
   by_cases ek:k=[r.1,r.2.1]
   ·exact ⟨r,me,by unfold qvm;rw[e];dsimp only;rw[if_pos hw,ek]⟩
   ·have hk:qew s.y [r.1,r.2.1] _ k≠none:=hk
    rw[qbm _ _ ek] at hk;exact up (h.1 k hk)
  ·rename_i hw
   refine ⟨λk hk=>up (h.1 k hk),λk hk=>?_⟩
   by_cases ek:k=[a,w]
   ·exact ⟨r,me,by unfold qvm;rw[e];dsimp only;rw[if_neg hw,ek]⟩
   ·have hk:qew s.z [a,w] _ k≠none:=hk
    rw[qbm _ _ ek] at hk;exact up (h.2 k hk)
theorem Tags.puts {cell:Int->Option (Int×Int)}:∀ (rs:List Rd3) {s:Abs} {L:List Rd3},Tags cell s L->Tags cell (rs.foldl (qdb cell) s) (L ++ rs)
 | [],_,L,h=>by rw[List.append_nil];exact h
 | r :: t,s,L,h=>by
  have:=Tags.puts t (h.put r);rw[List.append_assoc] at this;exact this
theorem qq2 (cell:Int->Option (Int×Int)) (rs:List Rd3):Tags cell (qer cell rs) rs:=Tags.puts rs (L:=[]) ⟨λ_ h=>absurd rfl h,λ_ h=>absurd rfl h⟩
structure AbsB (B N:Int) (s:Abs):Prop where
 y:∀ k n,s.y k=some n->∃ t v,k=[t,v]/\(-B<=t/\t<=B)/\(-(10 ^ 45)<v/\v<10 ^ 45)/\1<=n/\n<=N
 z:∀ k x,s.z k=some x->∃ a w,k=[a,w] /\ -B<=a/\a<=B
theorem qzp {B N:Int}:AbsB B N qok:=⟨(λ_ _ h=>by cases h),(λ_ _ h=>by cases h)⟩
theorem AbsB.put {B W N M:Int} {cell:Int->Option (Int×Int)} (cn:qyi W cell) {s:Abs} (h:AbsB B N s) (hN:0<=N) (hM:0<=M) {r:Rd3} (ht:-B<=r.1-W/\r.1<=B) (hW:0<=W) (hv:-(10 ^ 45)<r.2.1/\r.2.1<10 ^ 45) (hm:1<=r.2.2/\r.2.2<=M):AbsB B (N+M) (qdb cell s r):=by
 have h':AbsB B (N+M) s:=⟨λk n e=>by obtain ⟨t,v,e1,e2,e3,e4,e5⟩:=h.y k n e;exact ⟨t,v,e1,e2,e3,e4,by omega⟩,h.z⟩;unfold qdb
 rcases e:cell r.1 with _|⟨a,w⟩
 ·exact h'
 ·dsimp only
  split
  ·refine ⟨λk n hk=>?_,h'.z⟩
   have hk:qew s.y [r.1,r.2.1] _ k=some n:=hk
   by_cases ek:k=[r.1,r.2.1]
   ·rw[ek,qa2] at hk
    have hk:=Option.some.inj hk;refine ⟨r.1,r.2.1,ek,by omega,hv,?_⟩
    cases e2:s.y [r.1,r.2.1] with
    | none=>rw[e2] at hk;simp at hk;omega
    | some n0 =>
     obtain ⟨_,_,_,_,_,e4,e5⟩:=h.y _ _ e2;rw[e2] at hk
     simp at hk
     omega
   ·rw[qbm _ _ ek] at hk;exact h'.y k n hk
  ·refine ⟨h'.y,λk x hk=>?_⟩
   have hk:qew s.z [a,w] _ k=some x:=hk
   by_cases ek:k=[a,w]
   ·have:=cn _ _ _ e
    exact ⟨a,w,ek,by omega,by omega⟩
   ·rw[qbm _ _ ek] at hk;exact h'.z k x hk
def RLt (r:Rd3):Prop:=(-(5*10 ^ 45)<=r.1/\r.1<=5*10 ^ 45)/\(-(10 ^ 45)<r.2.1/\r.2.1<10 ^ 45)/\1<=r.2.2/\r.2.2<=10 ^ 31
theorem qq3 {cell:Int->Option (Int×Int)} (cn:qyi (10 ^ 36) cell):∀ (rs:List Rd3) {s:Abs} {N:Int},AbsB (5*10 ^ 45+10 ^ 36) N s->0<=N->(∀ r∈rs,RLt r)->AbsB (5*10 ^ 45+10 ^ 36) (N+10 ^ 31*rs.length) (rs.foldl (qdb cell) s)
 | [],s,N,h,_,_=>by simpa using h
 | r :: t,s,N,h,hN,hr=>by
  obtain ⟨h1,h2,h3,h4⟩:=hr r List.mem_cons_self;have a:=h.put cn hN (M:=10 ^ 31) (by omega) (r:=r) (by omega) (by omega) h2 ⟨h3,h4⟩;have:=qq3 cn t a (by omega) λq hq=>hr q (List.mem_cons_of_mem _ hq)
  rw[List.foldl_cons];have e:N+10 ^ 31+10 ^ 31*(t.length:Int)=N+10 ^ 31*((r :: t).length:Int):=by
   rw[List.length_cons];push_cast;omega
  rw[<- e];exact this
theorem qj8 {α:Type} {f:List Int->Option α} {ks:List (List Int)} (nd:ks.Nodup) (h:∀ k,k∈ks↔f k≠none):∃ ms,SKeys f ms/\ms.length=ks.length:=by
 have tot:∀ a b:List Int,(!blt b a || !blt a b)=true:=λa b=>by
  cases h1:blt b a<;>cases h2:blt a b<;>simp
  exact qj6 h1 h2
 have tr:∀ a b c:List Int,(!blt b a)=true->(!blt c b)=true->(!blt c a)=true:=λa b c h1 h2=>by
  simp at h1 h2 ⊢
  by_cases e1:a=b
  ·subst e1;exact h2
  ·by_cases e2:b=c
   ·subst e2;exact h1
   ·have a1:=qft b a (λz=>e1 z.symm) h1
    have a2:=qft c b (λz=>e2 z.symm) h2;have a3:=qi7 _ _ _ a1 a2
    cases h3:blt c a with
    | false=>rfl
    | true=>exact (qj6 a3 h3).elim
 have pm:=List.mergeSort_perm ks (λa b=>!blt b a);refine ⟨ks.mergeSort (λa b=>!blt b a),⟨?_,λk=>by rw[pm.mem_iff,h]⟩,pm.length_eq⟩;have srt:=List.pairwise_mergeSort tr tot ks;have nd':=pm.nodup_iff.mpr nd;rw[List.nodup_iff_pairwise_ne] at nd';refine (srt.and nd').imp fun {a b} hab=>?_
 obtain ⟨h1,h2⟩:=hab
 simp at h1
 exact qft b a (λz=>h2 z.symm) h1
open PySem L2
structure Fall (ws es:List Int) (ge:Option Int):Prop where
 len:ws.length=es.length
 pos:∀ (i:Nat) w,ws[i]?=some w->1<=w
 dv:∀ (i j:Nat) a b,i<=j->ws[i]?=some a->ws[j]?=some b->a ∣ b
 ml:∀ (i:Nat) w e,ws[i]?=some w->es[i]?=some e->w ∣ e
 gl:∀ (i:Nat) w z,ws[i]?=some w->ge=some z->w ∣ z
 dn:∀ (i j:Nat) a b,i<=j->es[i]?=some a->es[j]?=some b->b<=a
structure StepAt (ws es:List Int) (t:Int) (i:Nat) (w e:Int):Prop where
 gw:ws[i]?=some w
 ge:es[i]?=some e
 lt:t<e
 nx:∀ e',es[i+1]?=some e'->e'<=t
theorem qzq {ws es:List Int} {t:Int} (h:∀ x∈es,x<=t):wl ws es t=[]:=by
 unfold wl;rw[List.filter_eq_nil_iff.mpr,List.map_nil];intro x hx;have:=h x.2 (List.of_mem_zip hx).2
 simp;omega
theorem qli:∀ {i:Nat} {ws es:List Int} {t w e:Int},(∀ (i j:Nat) a b,i<=j->es[i]?=some a->es[j]?=some b->b<=a)->StepAt ws es t i w e->(wl ws es t).getLast?=some w
 | 0,ws,es,t,w,e,F,S=>by
  cases ws with
  | nil=>have:=S.gw;simp at this
  | cons w1 wr =>
   cases es with
   | nil=>have:=S.ge;simp at this
   | cons e1 er =>
    have ew:=S.gw;have ee:=S.ge
    simp at ew ee
    subst ew;subst ee;have hr:∀ x∈er,x<=t:=λx hx=>by
     obtain ⟨k,hk,rfl⟩:=List.getElem_of_mem hx;have h0:0<er.length:=by omega
     have a:=S.nx er[0] (by simp[h0]);have b:=F 1 (k+1) er[0] er[k] (by omega) (by simp[h0]) (by simp[hk]);omega
    have e1:wl (w1 :: wr) (e1 :: er) t=w1 :: wl wr er t:=by
     unfold wl;rw[List.zip_cons_cons,List.filter_cons_of_pos (by simpa using S.lt)];rfl
    rw[e1,qzq hr];rfl
 | i+1,ws,es,t,w,e,F,S=>by
  cases ws with
  | nil=>have:=S.gw;simp at this
  | cons w1 wr =>
   cases es with
   | nil=>have:=S.ge;simp at this
   | cons e1 er =>
    have S':StepAt wr er t i w e:=⟨by simpa using S.gw,by simpa using S.ge,S.lt,λe' h=>S.nx e' (by simpa using h)⟩;have ih:=qli (λa b x y h h1 h2=>F (a+1) (b+1) x y (by omega) (by simpa using h1) (by simpa using h2)) S';have hlt:t<e1:=by
     have:=F 0 (i+1) e1 e (by omega) (by simp) S.ge;have:=S.lt;omega
    have e2:wl (w1 :: wr) (e1 :: er) t=w1 :: wl wr er t:=by
     unfold wl;rw[List.zip_cons_cons,List.filter_cons_of_pos (by simpa using hlt)];rfl
    rw[e2,List.getLast?_cons,ih];rfl
theorem qic:∀ {es ws:List Int} {t e0:Int},ws.length=es.length->es[0]?=some e0->t<e0->∃ i w e,StepAt ws es t i w e
 | [],ws,t,e0,_,h,_=>by simp at h
 | e1 :: er,[],t,e0,hl,_,_=>by simp at hl
 | e1 :: er,w1 :: wr,t,e0,hl,h,hlt=>by
  simp at h
  subst h
  by_cases hc:∃ e2,er[0]?=some e2/\t<e2
  ·obtain ⟨e2,he2,h2⟩:=hc
   obtain ⟨i,w,e,S⟩:=qic (es:=er) (ws:=wr) (by simpa using hl) he2 h2;exact ⟨i+1,w,e,by simpa using S.gw,by simpa using S.ge,S.lt,λe' h=>S.nx e' (by simpa using h)⟩
  ·refine ⟨0,w1,e1,by simp,by simp,hlt,λe' h=>?_⟩
   have h':er[0]?=some e':=by simpa using h
   by_cases z:t<e'
   ·exact absurd ⟨e',h',z⟩ hc
   ·omega
theorem qjc {w t e:Int} (hw:1<=w) (hd:w ∣ e) (h:t<e):t / w*w+w<=e:=by
 obtain ⟨k,rfl⟩:=hd;have h1:t / w<k:=Int.ediv_lt_of_lt_mul (by omega) (by rwa [Int.mul_comm] at h);have h2:=Int.mul_le_mul_of_nonneg_left (show t / w+1<=k by omega) (show 0<=w by omega);rw[Int.mul_add,Int.mul_one,Int.mul_comm w (t / w)] at h2;exact h2
theorem qlj {w:Int} (t:Int) (hw:1<=w):t / w*w<=t/\t<t / w*w+w:=by
 have a:=Int.mul_ediv_add_emod t w;have b:=Int.emod_nonneg t (show w≠0 by omega);have c:=Int.emod_lt_of_pos t (show 0<w by omega);rw[Int.mul_comm] at a;omega
theorem qg1 (t w:Int):w ∣ t / w*w:=⟨t / w,Int.mul_comm _ _⟩
theorem qvn {w s x:Int} (hw:1<=w) (hd:w ∣ x) (h1:x<=s) (h2:s<x+w):s / w*w=x:=by
 have a:=qns hw hd h1;have b:=qlj s hw;obtain ⟨k,rfl⟩:=hd;have c:=qjc hw (show w ∣ w*(k+1) from ⟨k+1,rfl⟩) (show s<w*(k+1) by rw[Int.mul_add,Int.mul_one];exact h2);rw[Int.mul_add,Int.mul_one] at c;omega
theorem StepAt.cell {ws es:List Int} {ge:Option Int} {t s w e:Int} {i:Nat} (F:Fall ws es ge) (S:StepAt ws es t i w e) (h1:t / w*w<=s) (h2:s<t / w*w+w):StepAt ws es s i w e/\(qcs ge s↔qcs ge t)/\s / w*w=t / w*w:=by
 have hw:=F.pos i w S.gw;refine ⟨⟨S.gw,S.ge,?_,λe' he'=>?_⟩,?_,qvn hw (qg1 t w) h1 h2⟩
 ·have:=qjc hw (F.ml i w e S.gw S.ge) S.lt
  omega
 ·have hl:i+1<ws.length:=by rw[F.len];exact (List.getElem?_eq_some_iff.mp he').1
  have hd:w ∣ e':=Int.dvd_trans (F.dv i (i+1) w ws[i+1] (by omega) S.gw (List.getElem?_eq_getElem hl)) (F.ml (i+1) _ e' (List.getElem?_eq_getElem hl) he');have:=qns hw hd (S.nx e' he');omega
 ·constructor
  ·rintro ⟨z,hz,h⟩
   have hd:=F.gl i w z S.gw hz;refine ⟨z,hz,?_⟩
   by_cases c:t<z
   ·exact c
   ·have:=qns hw hd (show z<=t by omega);omega
  ·rintro ⟨z,hz,h⟩
   have hd:=F.gl i w z S.gw hz;exact ⟨z,hz,by have:=qjc hw hd h;omega⟩
theorem StepAt.idx {ws es:List Int} {ge:Option Int} {t:Int} {i j:Nat} {w e w' e':Int} (F:Fall ws es ge) (S:StepAt ws es t i w e) (h:es[j]?=some e') (hlt:t<e'):j<=i:=by
 by_cases c:j<=i
 ·exact c
 ·have hl:i+1<es.length:=by have:=(List.getElem?_eq_some_iff.mp h).1;omega
  have a:=S.nx es[i+1] (List.getElem?_eq_getElem hl);have b:=F.dn (i+1) j _ e' (by omega) (List.getElem?_eq_getElem hl) h;omega
open PySem L2
theorem qj9 {ws es:List Int} {ge:Option Int} {t w e e0:Int} {i:Nat} (F:Fall ws es ge) (h0:es[0]?=some e0) (S:StepAt ws es t i w e) (hg:¬ qcs ge t):CellOf ws es ge t (some (t / w*w,w)):=by
 have hlt:t<e0:=by have:=F.dn 0 i e0 e (by omega) h0 S.ge;have:=S.lt;omega
 exact CellOf.c h0 hlt hg (by rw[<- List.getLast?_eq_getElem?];exact qli F.dn S)
theorem qol {ws es:List Int} {ge:Option Int} {t e0:Int} {o:Option (Int×Int)} (F:Fall ws es ge) (h0:es[0]?=some e0) (C:CellOf ws es ge t o) :
  (e0<=t/\o=some (t,0))\/(t<e0/\qcs ge t/\o=none)\/(t<e0/\¬ qcs ge t/\∃ i w e,StepAt ws es t i w e/\o=some (t / w*w,w)):=by
 by_cases hc:e0<=t
 ·exact .inl ⟨hc,C.uniq h0 (CellOf.a h0 hc)⟩
 ·have hlt:t<e0:=by omega
  by_cases hg:qcs ge t
  ·exact .inr (.inl ⟨hlt,hg,C.uniq h0 (CellOf.b h0 hlt hg)⟩)
  ·obtain ⟨i,w,e,S⟩:=qic F.len h0 hlt
   exact .inr (.inr ⟨hlt,hg,i,w,e,S,C.uniq h0 (qj9 F h0 S hg)⟩)
theorem behind {ws es:List Int} {ge:Option Int} {t w e e0:Int} {i:Nat} {o:Option (Int×Int)} (F:Fall ws es ge) (h0:es[0]?=some e0) (S:StepAt ws es t i w e) (hg:¬ qcs ge t) (C:CellOf ws es ge (t / w*w+w) o):∃ p,o=some p/\p.1=t / w*w+w:=by
 have hw:=F.pos i w S.gw;have h1:=qlj t hw
 rcases qol F h0 C with ⟨_,rfl⟩|⟨_,⟨z,hz,h⟩,rfl⟩|⟨_,_,j,w',e',S',rfl⟩
 ·exact ⟨_,rfl,rfl⟩
 ·exact absurd ⟨z,hz,by omega⟩ hg
 ·refine ⟨_,rfl,?_⟩
  have hji:j<=i:=StepAt.idx (w':=w') (e':=e') F S S'.ge (by have:=S'.lt;omega);have hd:w' ∣ w:=F.dv j i w' w hji S'.gw S.gw;have hw':=F.pos j w' S'.gw;exact qvn hw' (Int.dvd_add (Int.dvd_trans hd (qg1 t w)) hd) (by omega) (by omega)
structure Later (es es':List Int) (ge ge':Option Int):Prop where
 len:es'.length=es.length
 up:∀ (i:Nat) a b,es[i]?=some a->es'[i]?=some b->a<=b
 gn:∀ z,ge=some z->∃ z',ge'=some z'/\z<=z'
theorem Later.gone {es es':List Int} {ge ge':Option Int} {t:Int} (L:Later es es' ge ge') (h:qcs ge t):qcs ge' t:=by
 obtain ⟨z,hz,h⟩:=h;obtain ⟨z',hz',h'⟩:=L.gn z hz;exact ⟨z',hz',by omega⟩
theorem qom {ws es es':List Int} {ge ge':Option Int} {t e0 e0':Int} {o:Option (Int×Int)} (L:Later es es' ge ge') (h0:es[0]?=some e0) (h0':es'[0]?=some e0') (hlt:t<e0) (hg:qcs ge t) (C:CellOf ws es' ge' t o):o=none:=
 C.uniq h0' (CellOf.b h0' (by have:=L.up 0 e0 e0' h0 h0';omega) (L.gone hg))
theorem qon {ws es es':List Int} {ge ge':Option Int} {t w e e0':Int} {i:Nat} (F:Fall ws es ge) (F':Fall ws es' ge') (L:Later es es' ge ge') (h0':es'[0]?=some e0') (S:StepAt ws es t i w e) :
  ∃ o,(∀ s,t / w*w<=s->s<t / w*w+w->∀ o',CellOf ws es' ge' s o'->o'=o)/\∀ p,o=some p->p.1<=t / w*w/\t / w*w+w<=p.1+p.2:=by
 have hw:=F.pos i w S.gw;have h1:=qlj t hw;have hle:i<es'.length:=by rw[L.len];exact (List.getElem?_eq_some_iff.mp S.ge).1
 have hu:=L.up i e es'[i] S.ge (List.getElem?_eq_getElem hle);have hend:=qjc hw (F.ml i w e S.gw S.ge) S.lt;have hlt0:t / w*w<e0':=by
  have:=F'.dn 0 i e0' es'[i] (by omega) h0' (List.getElem?_eq_getElem hle);omega
 obtain ⟨j,w',e',S'⟩:=qic F'.len h0' hlt0;have hij:i<=j:=StepAt.idx (w':=w') (e':=es'[i]) F' S' (List.getElem?_eq_getElem hle) (by omega);have hd:w ∣ w':=F.dv i j w w' hij S.gw S'.gw;have hw':=F'.pos j w' S'.gw;have h2:=qlj (t / w*w) hw';have h3:t / w*w+w<=t / w*w / w'*w'+w':=by
  have hdd:w ∣ t / w*w / w'*w'+w':=Int.dvd_add (Int.dvd_trans hd (qg1 _ w')) hd;have:=qjc hw hdd (show t / w*w<t / w*w / w'*w'+w' by omega);have e:t / w*w / w*w=t / w*w:=qvn hw (qg1 t w) (by omega) (by omega);omega
 have all:∀ s,t / w*w<=s->s<t / w*w+w->StepAt ws es' s j w' e'/\(qcs ge' s↔qcs ge' (t / w*w))/\s / w'*w'=t / w*w / w'*w':=
  λs a b=>StepAt.cell F' S' (by omega) (by omega)
 by_cases hg:qcs ge' (t / w*w)
 ·refine ⟨none,λs a b o' C=>?_,λp h=>by cases h⟩
  obtain ⟨S2,g2,_⟩:=all s a b;have:s<e0':=by have:=F'.dn 0 j e0' e' (by omega) h0' S2.ge;have:=S2.lt;omega
  exact C.uniq h0' (CellOf.b h0' this (g2.mpr hg))
 ·refine ⟨some (t / w*w / w'*w',w'),λs a b o' C=>?_,λp h=>?_⟩
  ·obtain ⟨S2,g2,e2⟩:=all s a b
   have:=C.uniq h0' (qj9 F' h0' S2 λg=>hg (g2.mp g));rw[this,e2]
  ·cases h
   exact ⟨h2.1,h3⟩
open PySem L2
theorem qid {ps:List (Int×Int)} (G:Good ps):∀ (k i:Nat) p q,ps[i]?=some p->ps[i+k]?=some q->p.1<=q.1/\p.2 ∣ q.2
 | 0,i,p,q,hp,hq=>by rw[Nat.add_zero,hp] at hq;cases hq;exact ⟨Int.le_refl _,Int.dvd_refl _⟩
 | k+1,i,p,q,hp,hq=>by
  have hl:i+k<ps.length:=by have:=(List.getElem?_eq_some_iff.mp hq).1;omega
  obtain ⟨a,b⟩:=qid G k i p ps[i+k] hp (List.getElem?_eq_getElem hl);obtain ⟨c,d⟩:=G.next (i+k) ps[i+k] q (List.getElem?_eq_getElem hl) (by rw[Nat.add_assoc];exact hq);exact ⟨by omega,Int.dvd_trans b (Int.dvd_of_emod_eq_zero d)⟩
theorem Fall.of {ps:List (Int×Int)} {g:Option Int} (P:Pr ps g) (d:Int):Fall (ps.map (·.2)) (ps.map λp=>cut d p.1 p.2) (g.map λz=>cut d z (lw ps)) where
 len:=by rw[List.length_map,List.length_map]
 pos:=λi w h=>by
  rw[List.getElem?_map] at h;obtain ⟨p,hp,rfl⟩:=Option.map_eq_some_iff.mp h;exact (P.good.each i p hp).2
 dv:=λi j a b hij ha hb=>by
  rw[List.getElem?_map] at ha hb;obtain ⟨p,hp,rfl⟩:=Option.map_eq_some_iff.mp ha;obtain ⟨q,hq,rfl⟩:=Option.map_eq_some_iff.mp hb;exact (qid P.good (j-i) i p q hp (by rw[show i+(j-i)=j by omega];exact hq)).2
 ml:=λi w e hw he=>by
  rw[List.getElem?_map] at hw he;obtain ⟨p,hp,rfl⟩:=Option.map_eq_some_iff.mp hw;rw[hp] at he;cases he;exact qg1 _ _
 gl:=λi w z hw hz=>by
  rw[List.getElem?_map] at hw;obtain ⟨p,hp,rfl⟩:=Option.map_eq_some_iff.mp hw;obtain ⟨y,rfl,rfl⟩:=Option.map_eq_some_iff.mp hz;obtain ⟨q,hq,eq⟩:=P.last;have hi:=(List.getElem?_eq_some_iff.mp hp).1;have:=(qid P.good (ps.length-1-i) i p q hp (by rw[show i+(ps.length-1-i)=ps.length-1 by omega];exact hq)).2;rw[eq];exact Int.dvd_trans this (qg1 _ _)
 dn:=λi j a b hij ha hb=>by
  rw[List.getElem?_map] at ha hb;obtain ⟨p,hp,rfl⟩:=Option.map_eq_some_iff.mp ha;obtain ⟨q,hq,rfl⟩:=Option.map_eq_some_iff.mp hb;obtain ⟨h1,h2⟩:=qid P.good (j-i) i p q hp (by rw[show i+(j-i)=j by omega];exact hq);have wp:=(P.good.each i p hp).2;have wq:=(P.good.each j q hq).2;have a:=(qlj (d-q.1) wq).1;exact qns wp (Int.dvd_trans h2 (qg1 _ _)) (show (d-q.1) / q.2*q.2<=d-p.1 by omega)
open PySem L2
theorem qka (cell:Int->Option (Int×Int)) (s:Abs) (r:Rd3) (b:Int) (x:HP4):qee cell (qdb cell s r) b x=qdb cell (qee cell s b x) r:=by
 unfold qdb qee
 rcases e1:cell r.1 with _|⟨a,w⟩
 ·rcases e2:cell b with _|⟨c,u⟩<;>rfl
 ·rcases e2:cell b with _|⟨c,u⟩
  ·rfl
  ·dsimp only
   by_cases hw:w=0
   ·rw[if_pos hw,if_pos hw]
   ·rw[if_neg hw,if_neg hw]
    dsimp only
    by_cases hk:[a,w]=[c,u]
    ·rw[hk,qa2,qb1,qa2,qb1,qgq]
    ·rw[qbm _ _ (λz=>hk z.symm),qbm _ _ hk,qf8 _ _ _ hk]
theorem qq4 (cell:Int->Option (Int×Int)) (s:Abs) (r z:List Int):qce cell (qdc cell s r) z=qdc cell (qce cell s z) r:=by
 unfold qce qdc
 split<;>split<;>first|rfl|exact qka _ _ _ _ _
theorem qlk (cell:Int->Option (Int×Int)):∀ (Z:List (List Int)) (s:Abs) (r:List Int),Z.foldl (qce cell) (qdc cell s r)=qdc cell (Z.foldl (qce cell) s) r
 | [],_,_=>rfl
 | z :: t,s,r=>by rw[List.foldl_cons,List.foldl_cons,qq4,qlk cell t]
open PySem L2
theorem qdm {S A:Type} {op:S->A->S} (comm:∀ s r q,op (op s r) q=op (op s q) r) {l l':List A} (p:l.Perm l'):∀ s,l.foldl op s=l'.foldl op s:=by
 induction p with
 | nil=>intro s;rfl
 | cons x _ ih=>intro s;exact ih _
 | swap x y l=>intro s;simp only[List.foldl_cons];rw[comm]
 | trans _ _ ih1 ih2=>intro s;rw[ih1,ih2]
theorem qes {S A:Type} {op:S->A->S} (comm:∀ s r q,op (op s r) q=op (op s q) r) (x:A) (l:List A) (s:S):(x :: l).foldl op s=op (l.foldl op s) x:=by
 have h:=qdm comm (List.perm_append_comm (l₁:=[x]) (l₂:=l)) s;have e:(l ++ [x]).foldl op s=op (l.foldl op s) x:=by rw[List.foldl_append];rfl
 rw[<- e,<- h];rfl
theorem qll {S:Type} {op:S->List Int->S} (comm:∀ s r q,op (op s r) q=op (op s q) r) {ms:List (List Int)} (nd:ms.Nodup) {f g:List Int->List Int} {k:List Int} (hk:k∈ms) (hfg:∀ j,j≠k->f j=g j) (s:S):∃ X,(ms.map f).foldl op s=op X (f k)/\(ms.map g).foldl op s=op X (g k):=by
 have p:=List.perm_cons_erase hk;have nd':=p.nodup_iff.mp nd;rw[List.nodup_cons] at nd';have e:(ms.erase k).map f=(ms.erase k).map g:=List.map_congr_left λj hj=>hfg j λz=>nd'.1 (z ▸ hj)
 refine ⟨((ms.erase k).map f).foldl op s,?_,?_⟩
 ·rw[qdm comm (p.map f) s,List.map_cons,qes comm]
 ·rw[qdm comm (p.map g) s,List.map_cons,qes comm,e]
theorem qfu (cell:Int->Option (Int×Int)) (s:Abs) (r q:List Int):qdc cell (qdc cell s r) q=qdc cell (qdc cell s q) r:=by
 unfold qdc
 split<;>split<;>first|rfl|exact qqy _ _ _ _
theorem qoo (cell:Int->Option (Int×Int)) (s:Abs) (a b:Int) (x y:HP4):qee cell (qee cell s a x) b y=qee cell (qee cell s b y) a x:=by
 unfold qee
 rcases e1:cell a with _|⟨c,u⟩
 ·rcases e2:cell b with _|⟨d,w⟩<;>rfl
 ·rcases e2:cell b with _|⟨d,w⟩
  ·rfl
  ·dsimp only
   by_cases hk:[c,u]=[d,w]
   ·rw[hk,qa2,qb1,qa2,qb1,qgq]
   ·rw[qbm _ _ (λz=>hk z.symm),qbm _ _ hk,qf8 _ _ _ hk]
theorem qe5 (cell:Int->Option (Int×Int)) (s:Abs) (r q:List Int):qce cell (qce cell s r) q=qce cell (qce cell s q) r:=by
 unfold qce
 split<;>split<;>first|rfl|exact qoo _ _ _ _ _ _
structure qlm (cell cell':Int->Option (Int×Int)):Prop where
 n:∀ t,cell t=none->cell' t=none
 h:∀ t a w,cell t=some (a,w)->w≠0->cell' t=cell' a/\∀ b u,cell' a=some (b,u)->u≠0
structure KF (s:Abs):Prop where
 y:∃ my,SKeys s.y my/\∀ k∈my,k.length=2
 z:∃ mz,SKeys s.z mz/\∀ k∈mz,k.length=2
theorem qga {α:Type} {f:List Int->Option α} {ms:List (List Int)} (h:SKeys f ms) (h2:∀ k∈ms,k.length=2) {k:List Int} (hk:k.length=2) (x:α):∃ ms',SKeys (qew f k x) ms'/\(∀ j∈ms',j.length=2)/\((k∈ms->ms'=ms)/\(k ∉ ms->ms'.Perm (k :: ms))):=by
 by_cases c:k∈ms
 ·refine ⟨ms,⟨h.srt,λj=>?_⟩,h2,λ_=>rfl,λz=>absurd c z⟩
  by_cases e:j=k
  ·subst e;rw[qa2];simp[c]
  ·rw[qbm _ _ e];exact h.mem j
 ·have nd:(k :: ms).Nodup:=List.nodup_cons.mpr ⟨c,h.nd⟩
  have mem:∀ j,j∈k :: ms↔qew f k x j≠none:=λj=>by
   by_cases e:j=k
   ·subst e;rw[qa2];simp
   ·rw[qbm _ _ e,List.mem_cons]
    exact ⟨λz=>(h.mem j).mp (z.resolve_left e),λz=>.inr ((h.mem j).mpr z)⟩
  obtain ⟨ms',s',_⟩:=qj8 nd mem;have pm:ms'.Perm (k :: ms):=by
   rw[List.perm_ext_iff_of_nodup s'.nd nd];intro j;rw[s'.mem,mem]
  refine ⟨ms',s',λj hj=>?_,λz=>absurd z c,λ_=>pm⟩
  rcases List.mem_cons.mp (pm.mem_iff.mp hj) with e|e
  ·rw[e];exact hk
  ·exact h2 j e
theorem qop {S0:Abs} {cell':Int->Option (Int×Int)} {s:Abs} {my mz:List (List Int)} (sy:SKeys s.y my) (h2:∀ k∈my,k.length=2) (sz:SKeys s.z mz) (t v m:Int) :
  qf9 cell' S0 (qcu { s with y:=qew s.y [t,v] ((s.y [t,v]).getD 0+m) }) (qco { s with y:=qew s.y [t,v] ((s.y [t,v]).getD 0+m) })=qdb cell' (qf9 cell' S0 (qcu s) (qco s)) (t,v,m):=by
 obtain ⟨my',sy',_,hin,hout⟩:=qga sy h2 (k:=[t,v]) rfl ((s.y [t,v]).getD 0+m)
 generalize es:({ s with y:=qew s.y [t,v] ((s.y [t,v]).getD 0+m) }:Abs)=s'
 have ey':s'.y=qew s.y [t,v] ((s.y [t,v]).getD 0+m):=by rw[<- es]
 have ez':s'.z=s.z:=by rw[<- es]
 have sy'':SKeys s'.y my':=by rw[ey'];exact sy'
 have ezr:qco s'=qco s:=by
  have:SKeys s'.z mz:=by rw[ez'];exact sz
  rw[<- qdf this,<- qdf sz];refine List.map_congr_left λk _=>?_
  unfold qnp;rw[ez']
 rw[ezr,<- qd2 sy'',<- qd2 sy];unfold qf9
 show _=qdc cell' ((qco s).foldl (qce cell') ((my.map (qmj s)).foldl (qdc cell') S0)) [t,v,m]
 rw[<- qlk]
 congr 1
 have ne:∀ j,j≠[t,v]->qmj s' j=qmj s j:=λj hj=>by unfold qmj;rw[ey',qbm _ _ hj]
 have at_:qmj s' [t,v]=[t,v,(s.y [t,v]).getD 0+m]:=by unfold qmj;rw[ey',qa2];rfl
 by_cases c:[t,v]∈my
 ·rw[hin c]
  obtain ⟨X,e1,e2⟩:=qll (qfu cell') sy.nd c ne S0;rw[e1,e2,at_]
  show qdb cell' X (t,v,_)=qdb cell' (qdb cell' X (t,v,(s.y [t,v]).getD 0)) (t,v,m)
  rw[qoj]
 ·rw[qdm (qfu cell') ((hout c).map _) S0,List.map_cons,qes (qfu cell'),at_]
  have e:my.map (qmj s')=my.map (qmj s):=List.map_congr_left λj hj=>ne j λz=>c (by rw[<- z];exact hj)
  have en:s.y [t,v]=none:=by
   cases q:s.y [t,v] with
   | none=>rfl
   | some n=>exact absurd ((sy.mem _).mpr (by rw[q];simp)) c
  rw[e,en]
  show qdb cell' _ (t,v,0+m)=qdb cell' _ (t,v,m)
  rw[Int.zero_add]
theorem qq5 (a b c:HP4):mg4 (mg4 a b) c=mg4 a (mg4 b c):=by
 unfold mg4;refine qv4 ?_ ?_ ?_ ?_<;>dsimp only
 ·omega
 ·omega
 ·repeat' split
  all_goals omega
 ·repeat' split
  all_goals omega
theorem qml (o:Option HP4) (b c:HP4):qcl (some (qcl o b)) c=qcl o (mg4 b c):=by
 cases o with
 | none=>rfl
 | some a=>exact qq5 a b c
theorem qs4 {cell':Int->Option (Int×Int)} {t a:Int} (hc:cell' t=cell' a) (hu:∀ b u,cell' a=some (b,u)->u≠0) (X:Abs) (v m:Int):qee cell' X a (qg0 v m)=qdb cell' X (t,v,m):=by
 unfold qee qdb;dsimp only;rw[hc]
 rcases e:cell' a with _|⟨b,u⟩
 ·rfl
 ·dsimp only
  rw[if_neg (hu b u e)]
theorem qvo (cell':Int->Option (Int×Int)) (X:Abs) (a:Int) (x y:HP4):qee cell' (qee cell' X a x) a y=qee cell' X a (mg4 x y):=by
 unfold qee
 rcases e:cell' a with _|⟨b,u⟩
 ·rfl
 ·dsimp only
  rw[qa2,qb1,qml]
theorem take_heap {S0:Abs} {cell':Int->Option (Int×Int)} {s:Abs} {my mz:List (List Int)} (sy:SKeys s.y my) (sz:SKeys s.z mz) (h2:∀ k∈mz,k.length=2) {t a:Int} (hc:cell' t=cell' a) (hu:∀ b u,cell' a=some (b,u)->u≠0) (w v m:Int) :
  qf9 cell' S0 (qcu { s with z:=qew s.z [a,w] (qcl (s.z [a,w]) (qg0 v m)) }) (qco { s with z:=qew s.z [a,w] (qcl (s.z [a,w]) (qg0 v m)) })=qdb cell' (qf9 cell' S0 (qcu s) (qco s)) (t,v,m):=by
 obtain ⟨mz',sz',_,hin,hout⟩:=qga sz h2 (k:=[a,w]) rfl (qcl (s.z [a,w]) (qg0 v m))
 generalize es:({ s with z:=qew s.z [a,w] (qcl (s.z [a,w]) (qg0 v m)) }:Abs)=s'
 have ez':s'.z=qew s.z [a,w] (qcl (s.z [a,w]) (qg0 v m)):=by rw[<- es]
 have ey':s'.y=s.y:=by rw[<- es]
 have sz'':SKeys s'.z mz':=by rw[ez'];exact sz'
 have eyr:qcu s'=qcu s:=by
  have:SKeys s'.y my:=by rw[ey'];exact sy
  rw[<- qd2 this,<- qd2 sy];refine List.map_congr_left λk _=>?_
  unfold qmj;rw[ey']
 rw[eyr,<- qdf sz'',<- qdf sz,<- qs4 hc hu];unfold qf9
 generalize (qcu s).foldl (qdc cell') S0=S1
 have ne:∀ j,j≠[a,w]->qnp s' j=qnp s j:=λj hj=>by unfold qnp;rw[ez',qbm _ _ hj]
 have at_:qnp s' [a,w]=[a,w] ++ i4 (qcl (s.z [a,w]) (qg0 v m)):=by unfold qnp;rw[ez',qa2];rfl
 have pr:∀ (X:Abs) (x:HP4),qce cell' X ([a,w] ++ i4 x)=qee cell' X a x:=λX x=>rfl
 by_cases c:[a,w]∈mz
 ·rw[hin c]
  obtain ⟨X,e1,e2⟩:=qll (qe5 cell') sz.nd c ne S1;rw[e1,e2,at_,pr]
  show _=qee cell' (qce cell' X ([a,w] ++ i4 ((s.z [a,w]).getD (0,0,0,0)))) a (qg0 v m)
  rw[pr]
  cases q:s.z [a,w] with
  | none=>exact absurd q ((sz.mem _).mp c)
  | some x=>rw[Option.getD_some,qvo];rfl
 ·rw[qdm (qe5 cell') ((hout c).map _) S1,List.map_cons,qes (qe5 cell'),at_,pr]
  have e:mz.map (qnp s')=mz.map (qnp s):=List.map_congr_left λj hj=>ne j λz=>c (by rw[<- z];exact hj)
  have en:s.z [a,w]=none:=by
   cases q:s.z [a,w] with
   | none=>rfl
   | some n=>exact absurd ((sz.mem _).mpr (by rw[q];simp)) c
  rw[e,en];rfl
theorem qs5 {S0:Abs} {cell cell':Int->Option (Int×Int)} (co:qlm cell cell') {s:Abs} (kf:KF s) (r:Rd3) :
  qf9 cell' S0 (qcu (qdb cell s r)) (qco (qdb cell s r))=qdb cell' (qf9 cell' S0 (qcu s) (qco s)) r/\KF (qdb cell s r):=by
 obtain ⟨my,sy,hy⟩:=kf.y;obtain ⟨mz,sz,hz⟩:=kf.z;obtain ⟨t,v,m⟩:=r
 rcases e:cell t with _|⟨a,w⟩
 ·have e1:qdb cell s (t,v,m)=s:=by unfold qdb;dsimp only;rw[e]
  have e2:∀ X,qdb cell' X (t,v,m)=X:=λX=>by unfold qdb;dsimp only;rw[co.n t e]
  rw[e1,e2];exact ⟨rfl,kf⟩
 ·by_cases hw:w=0
  ·have e1:qdb cell s (t,v,m)={ s with y:=qew s.y [t,v] ((s.y [t,v]).getD 0+m) }:=by unfold qdb;dsimp only;rw[e];dsimp only;rw[if_pos hw]
   rw[e1];refine ⟨qop sy hy sz t v m,?_,⟨mz,sz,hz⟩⟩;obtain ⟨my',sy',h',_⟩:=qga sy hy (k:=[t,v]) rfl ((s.y [t,v]).getD 0+m);exact ⟨my',sy',h'⟩
  ·have e1:qdb cell s (t,v,m)={ s with z:=qew s.z [a,w] (qcl (s.z [a,w]) (qg0 v m)) }:=by unfold qdb;dsimp only;rw[e];dsimp only;rw[if_neg hw]
   rw[e1];obtain ⟨c1,c2⟩:=co.h t a w e hw;refine ⟨take_heap sy sz hz c1 c2 w v m,⟨my,sy,hy⟩,?_⟩;obtain ⟨mz',sz',h',_⟩:=qga sz hz (k:=[a,w]) rfl (qcl (s.z [a,w]) (qg0 v m));exact ⟨mz',sz',h'⟩
theorem kf0:KF qok:=⟨⟨[],⟨.nil,λk=>⟨(λh=>by cases h),λh=>absurd rfl h⟩⟩,(λk h=>by cases h)⟩,⟨[],⟨.nil,λk=>⟨(λh=>by cases h),λh=>absurd rfl h⟩⟩,(λk h=>by cases h)⟩⟩
theorem qln {S0:Abs} {cell cell':Int->Option (Int×Int)} (co:qlm cell cell'):∀ (rs:List Rd3) {s s':Abs},KF s->qf9 cell' S0 (qcu s) (qco s)=s'->qf9 cell' S0 (qcu (rs.foldl (qdb cell) s)) (qco (rs.foldl (qdb cell) s))=rs.foldl (qdb cell') s'
 | [],_,_,_,e=>e
 | r :: t,s,s',kf,e=>by
  obtain ⟨h1,h2⟩:=qs5 co kf r;exact qln co t h2 (by rw[h1,e])
theorem qvp {cell cell':Int->Option (Int×Int)} (co:qlm cell cell') (rs:List Rd3) (S0:Abs):qf9 cell' S0 (qcu (qer cell rs)) (qco (qer cell rs))=rs.foldl (qdb cell') S0:=by
 refine qln co rs kf0 ?_;have hy:qcu qok=[]:=(qd2 (ms:=[]) ⟨.nil,λk=>⟨(λh=>by cases h),λh=>absurd rfl h⟩⟩).symm;have hz:qco qok=[]:=(qdf (ms:=[]) ⟨.nil,λk=>⟨(λh=>by cases h),λh=>absurd rfl h⟩⟩).symm;rw[hy,hz];rfl
theorem qvq {cell cell':Int->Option (Int×Int)} (co:qlm cell cell') (rs:List Rd3):qf9 cell' qok (qcu (qer cell rs)) (qco (qer cell rs))=qer cell' rs:=qvp co rs qok
theorem qq6 {ws es es':List Int} {ge ge':Option Int} (F:Fall ws es ge) (F':Fall ws es' ge') (L:Later es es' ge ge') (hl:1<=es.length):qlm (qb8 ws es ge) (qb8 ws es' ge'):=by
 have hl':1<=es'.length:=by rw[L.len];exact hl
 have hw:1<=ws.length:=by rw[F.len];exact hl
 have h0:es[0]?=some es[0]:=List.getElem?_eq_getElem (by omega);have h0':es'[0]?=some es'[0]:=List.getElem?_eq_getElem (by omega);have up:=L.up 0 _ _ h0 h0';refine ⟨λt e=>?_,λt a w e hw0=>?_⟩
 ·have C:=qe4 (ge:=ge) hw hl t
  have C':=qe4 (ge:=ge') hw hl' t;rw[e] at C
  by_cases c:es[0]<=t
  ·cases (C es[0] h0).1 c
  ·by_cases hg:qcs ge t
   ·exact qom L h0 h0' (by omega) hg C'
   ·obtain ⟨w,_,e2⟩:=((C es[0] h0).2 (by omega)).2 hg
    cases e2
 ·have C:=qe4 (ge:=ge) hw hl t
  rw[e] at C;have hlt:t<es[0]:=by
   by_cases c:es[0]<=t
   ·have:=(C es[0] h0).1 c
    cases this;exact absurd rfl hw0
   ·omega
  obtain ⟨i,w',e',S⟩:=qic F.len h0 hlt;have hg:¬ qcs ge t:=λg=>by cases ((C es[0] h0).2 hlt).1 g
  have:=C.uniq h0 (qj9 F h0 S hg);cases this;have hw1:=F.pos i w S.gw;have fl:=qlj t hw1;obtain ⟨o,ho,_⟩:=qon F F' L h0' S;have a1:=ho t fl.1 fl.2 _ (qe4 hw hl' t);have a2:=ho (t / w*w) (Int.le_refl _) (by omega) _ (qe4 hw hl' (t / w*w));refine ⟨a1.trans a2.symm,λb u eb hu=>?_⟩;have C2:=qe4 (ge:=ge') hw hl' (t / w*w);rw[eb] at C2;have lt2:t / w*w<es'[0]:=by omega
  obtain ⟨j,w2,e2,S2⟩:=qic F'.len h0' lt2;have hg2:¬ qcs ge' (t / w*w):=λg=>by cases ((C2 es'[0] h0').2 lt2).1 g
  have:=C2.uniq h0' (qj9 F' h0' S2 hg2);cases this;have:=F'.pos j _ S2.gw;omega
open PySem L2
theorem RR.putX {C R N:Addr} {H:Hp} {ro:Addr} {c:qaz} {s:Abs} {LY LZ:List (List Int)} {t v m:Int} {Q:VK} {E:XK} (h:RR C R H ro c s LY LZ) (ok:qd1 c) (hr:qki t) (h1:1<=m) (hb:qrr (v,m)) (ly:LY.length<64) (lz:LZ.length<64)
  (hy:[t,v]∈LY) (hz:∀ a w,cellD c t=some (a,w)->[a,w]∈LZ)
  (q:∀ H',RR C R H' ro c (qdb (cellD c) s (t,v,m)) LY LZ->But2 c.dy c.dh H H'->Q (.bl (cellD c t).isSome) H'):qe3 C R N [.ref ro,.int t,.int v,.int m] H Q E:=by
 obtain ⟨ro',D',t',v',m',e,A,ok',ht',h1',hb',y,z,l1,l2,k⟩:=RR.put (Q:=Q) (E:=E) h ok hr h1 hb ly lz hy hz q;exact ⟨ro',D',t',v',m',e,A,ok',ht',λ_=>hb',y,z,l1,l2,λz=>absurd z (by omega),λ_=>k⟩
theorem RR.putN {C R N:Addr} {H:Hp} {ro:Addr} {c:qaz} {s:Abs} {LY LZ:List (List Int)} {t v m:Int} {Q:VK} {E:XK} (h:RR C R H ro c s LY LZ) (ok:qd1 c) (hr:qki t) (h1:m<1) (ly:LY.length<64) (lz:LZ.length<64)
  (q:E (.ref N) none H):qe3 C R N [.ref ro,.int t,.int v,.int m] H Q E:=by
 obtain ⟨Y,Z,A,B⟩:=h;exact ⟨ro,_,t,v,m,rfl,A,⟨ok.pr,ok.es⟩,hr,λz=>absurd z (by omega),B.YOk,B.ZOk,Nat.le_trans B.ylen (by omega),Nat.le_trans B.zlen (by omega),λ_=>q,λz=>absurd z (by omega)⟩
end TB
namespace TX
def qyj (x:List Nat):List Nat:=if x.take 1=[45] then x.drop 1 else x
def qvr (c:Nat):Prop:=48<=c/\c<=57
instance (c:Nat):Decidable (qvr c):=inferInstanceAs (Decidable (_/\_))
def Good (x:List Nat):Prop:=qyj x≠[]/\(qyj x).length<=1000/\¬ ((qyj x).head?=some 48/\x≠[48])/\∀ c∈qyj x,qvr c
instance (x:List Nat):Decidable (Good x):=inferInstanceAs (Decidable (_/\_/\_/\_))
end TX
namespace TX
open L2
end TX
namespace TB
open PySem L2 TX
def OddV (H:Hp) (v:V):Prop:=v=.non\/(∃ i,v=.int i)\/(∃ b,v=.bl b)\/(∃ p xs,v=.ref p/\H p=some (.tup xs))\/∃ p xs,v=.ref p/\H p=some (.lst xs)
def TextV (H:Hp) (v:V):Prop:=(∃ x,v=.str (S x)/\x.length<=3000)\/OddV H v
theorem TextV.same {H H':Hp} {v:V} (h:TextV H v) (s:Same H H'):TextV H' v:=by
 rcases h with h|h|h|h|⟨p,xs,e,h⟩|⟨p,xs,e,h⟩
 ·exact .inl h
 ·exact .inr (.inl h)
 ·exact .inr (.inr (.inl h))
 ·exact .inr (.inr (.inr (.inl h)))
 ·exact .inr (.inr (.inr (.inr (.inl ⟨p,xs,e,s _ _ h⟩))))
 ·exact .inr (.inr (.inr (.inr (.inr ⟨p,xs,e,s _ _ h⟩))))
theorem OddV.ty {K:Frag} {H:Hp} {v:V} (h:OddV H v):∃ t,TyOf K H v t/\PySem.W.kitOne K t (.type "str")=some false:=by
 rcases h with rfl|⟨i,rfl⟩|⟨b,rfl⟩|⟨p,xs,rfl,h⟩|⟨p,xs,rfl,h⟩
 ·exact ⟨_,.non,rfl⟩
 ·exact ⟨_,.int _,rfl⟩
 ·exact ⟨_,.bl _,rfl⟩
 ·exact ⟨_,.tup h,rfl⟩
 ·exact ⟨_,.lst h,rfl⟩
open PySem L2 TX
def qA0 (x:List Nat):Prop:=1<=x.length/\x.length<=1000/\(x=[48]\/(x.head?≠some 48/\∀ c∈x,qvr c))
instance (x:List Nat):Decidable (qA0 x):=inferInstanceAs (Decidable (_/\_/\_))
open PySem L2
abbrev tS (w:List Nat):V:=V.str (S w)
def kS (x:List Nat):Key:=Sum.inr (S x)
theorem qq7 {a b:List Nat} (h:kS a=kS b):a=b:=qva (Sum.inr.inj h)
def Ents {α:Type} (R:V->α->Prop) (kvs:List (Key×V)) (E:List (List Nat×α)):Prop:=Paired (fun (p:Key×V) (e:List Nat×α)=>p.1=kS e.1/\R p.2 e.2) kvs E
section
variable {α:Type} {R R':V->α->Prop} {kvs:List (Key×V)} {E:List (List Nat×α)}
theorem Ents.keys (h:Ents R kvs E):kvs.map (·.1)=(E.map (·.1)).map (λq=>Sum.inr (S q)):=by
 unfold Ents at h
 induction h with
 | nil=>rfl
 | cons a t ih=>rw[List.map_cons,List.map_cons,List.map_cons,ih,a.1];rfl
theorem Ents.len (h:Ents R kvs E):kvs.length=E.length:=by have:=congrArg List.length h.keys;simpa using this
theorem Ents.imp (h:Ents R kvs E) (f:∀ v a,R v a->R' v a):Ents R' kvs E:=by
 unfold Ents at h ⊢
 induction h with
 | nil=>exact .nil
 | cons a t ih=>exact .cons ⟨a.1,f _ _ a.2⟩ ih
theorem qlo (p:Key×V) (l:List (Key×V)) (k:Key):qc6 (p :: l) k=if p.1=k then some p.2 else qc6 l k:=by
 unfold qc6;rw[List.find?_cons]
 by_cases e:p.1=k
 ·rw[if_pos e,decide_eq_true e];rfl
 ·rw[if_neg e,decide_eq_false e]
theorem Ents.hasn (h:Ents R kvs E) {x:List Nat} (hx:x ∉ E.map (·.1)):qc6 kvs (kS x)=none:=by
 unfold Ents at h
 induction h with
 | nil=>rfl
 | @cons p e ps es a t ih =>
  rw[List.map_cons,List.mem_cons,not_or] at hx;rw[qlo,if_neg (λz=>hx.1 (qq7 (z.symm.trans a.1))),ih hx.2]
theorem Ents.has (h:Ents R kvs E) {x:List Nat} (hx:x∈E.map (·.1)):∃ v a,qc6 kvs (kS x)=some v/\(x,a)∈E/\R v a:=by
 unfold Ents at h
 induction h with
 | nil=>cases hx
 | @cons p e ps es a t ih =>
  rw[qlo]
  by_cases z:p.1=kS x
  ·have ex:e.1=x:=qq7 (a.1.symm.trans z)
   rw[if_pos z];exact ⟨_,e.2,rfl,by rw[<- ex];exact List.mem_cons_self,a.2⟩
  ·rw[List.map_cons,List.mem_cons] at hx
   rcases hx with e'|hx
   ·exact absurd (by rw[a.1,e']) z
   ·rw[if_neg z]
    obtain ⟨v,b,h1,h2,h3⟩:=ih hx;exact ⟨v,b,h1,List.mem_cons_of_mem _ h2,h3⟩
theorem Ents.snoc {v:V} {a:α} {x:List Nat} (r:R v a):∀ {kvs:List (Key×V)} {E:List (List Nat×α)},Ents R kvs E->Ents R (kvs ++ [(kS x,v)]) (E ++ [(x,a)])
 | _,_,.nil=>.cons ⟨rfl,r⟩ .nil
 | _,_,.cons b t=>.cons b (Ents.snoc r t)
theorem Ents.put (h:Ents R kvs E) {x:List Nat} (hx:x ∉ E.map (·.1)) {v:V} {a:α} (r:R v a):Ents R (putK kvs (kS x) v) (E ++ [(x,a)]):=by
 have e:putK kvs (kS x) v=kvs ++ [(kS x,v)]:=by
  unfold putK;rw[if_neg];intro z;obtain ⟨p,hp,hk⟩:=List.any_eq_true.mp z;have:p.1∈kvs.map (·.1):=List.mem_map.mpr ⟨p,hp,rfl⟩;rw[h.keys,of_decide_eq_true hk] at this;obtain ⟨y,hy,ey⟩:=List.mem_map.mp this;exact hx ((qq7 (show kS y=kS x from ey)) ▸ hy)
 rw[e];exact h.snoc r
end
def bof (ru:Addr) (day:Int) (le dm dr:Addr):List (Str×V):=qfz "kept_rolls" (.ref dr) (qfz "kept_marks" (.ref dm) (qfz "kept_edges" (.ref le) (qfz "kept_day" (.int day) (qfz "kept_rule" (.ref ru) []))))
section
variable (ru:Addr) (day:Int) (le dm dr:Addr)
theorem qt7:(bof ru day le dm dr).lookup ("kept_rule" : Str)=some (.ref ru):=by
 unfold bof;rw[qag,if_neg (by decide +kernel),qag,if_neg (by decide +kernel),qag,if_neg (by decide +kernel),qag,if_neg (by decide +kernel),qag,if_pos rfl]
theorem qq8:(bof ru day le dm dr).lookup ("kept_day" : Str)=some (.int day):=by
 unfold bof;rw[qag,if_neg (by decide +kernel),qag,if_neg (by decide +kernel),qag,if_neg (by decide +kernel),qag,if_pos rfl]
theorem qt8:(bof ru day le dm dr).lookup ("kept_edges" : Str)=some (.ref le):=by
 unfold bof;rw[qag,if_neg (by decide +kernel),qag,if_neg (by decide +kernel),qag,if_pos rfl]
theorem qxy:(bof ru day le dm dr).lookup ("kept_marks" : Str)=some (.ref dm):=by
 unfold bof;rw[qag,if_neg (by decide +kernel),qag,if_pos rfl]
theorem qlp:(bof ru day le dm dr).lookup ("kept_rolls" : Str)=some (.ref dr):=by
 unfold bof;rw[qag,if_pos rfl]
theorem qg2 {m:Str} (h1:¬ m = "kept_rolls") (h2:¬ m = "kept_marks") (h3:¬ m = "kept_edges") (h4:¬ m = "kept_day") (h5:¬ m = "kept_rule"):(bof ru day le dm dr).lookup m=none:=by
 unfold bof;rw[qag,if_neg h1,qag,if_neg h2,qag,if_neg h3,qag,if_neg h4,qag,if_neg h5];rfl
end
structure BookD where
 ru:Addr
 rl:Addr
 le:Addr
 dm:Addr
 dr:Addr
 ps:List (Int×Int)
 g:Option Int
 day:Int
def TxtL (H:Hp) (v:V) (ms:List (List Nat)):Prop:=∃ a,v=.ref a/\H a=some (.lst (ms.map tS))
theorem TxtL.same {H H':Hp} {v:V} {ms:List (List Nat)} (h:TxtL H v ms) (s:Same H H'):TxtL H' v ms:=let ⟨a,e,q⟩:=h;⟨a,e,s _ _ q⟩
end TB
local macro_rules | `(tactic| walk_at "same") => `(tactic| first | exact L2.Same.refl _ | assumption | exact L2.New.same (by assumption) | (refine L2.qu2 ?_ (by assumption); walk_at "same") | (refine L2.Same.trans ?_ (by assumption); walk_at "same"))
local macro_rules | `(tactic| walk_at "fact") => `(tactic| first | assumption | exact L2.New.at_ (by assumption) | (refine L2.qw7 (by assumption) ?_; walk_at "fact") | (refine L2.qu1 (by assumption) ?_; walk_at "fact"))
local macro_rules | `(tactic| walk_at "sq") => `(tactic| first | assumption | exact L2.SqL.of (by walk_at "fact") | exact L2.SqT.of (by walk_at "fact") | exact Or.inl (L2.SqL.of (by walk_at "fact")) | exact Or.inr (L2.SqT.of (by walk_at "fact")) | exact Or.inl (by assumption) | walk_at "fact")
local macro_rules | `(tactic| walk_at "c") => `(tactic| first
 | ((with_reducible show _<=PySem.sizeLine);first|exact Nat.le_of_lt (L2.qa6 (Nat.le_of_ble_eq_true rfl))|exact Nat.le_of_lt (L2.qa6 (by omega))|exact Nat.le_of_lt (L2.qa6 (by simp only[List.length_map,List.length_append,List.length_cons,List.length_nil];omega)))
 | ((with_reducible show _<PySem.sizeLine);first|exact L2.qa6 (by omega)|exact L2.qa6 (by simp only[List.length_map,List.length_append,List.length_cons,List.length_nil];omega))
 | decide|omega|(dsimp only;first|decide|omega)|(simp only[List.length_map,List.length_append,List.length_cons,List.length_nil];omega)
 | ((with_reducible refine And.intro ?_ ?_)<;>walk_at "c")
 | (refine And.intro ?_ ?_<;>walk_at "c")|(refine Or.inl ?_;walk_at "c")|(refine Or.inr ?_;walk_at "c"))
local macro_rules | `(tactic| walk_at "at") => `(tactic| first | rfl | assumption | exact L2.qfs (by assumption) | exact TB.qnf (by assumption))
local macro_rules | `(tactic| walk_at "ty") => `(tactic| first | exact L2.TyOf.int _ | exact L2.TyOf.bl _ | exact L2.TyOf.non | exact L2.TyOf.str _ | exact L2.TyOf.lst (by walk_at "fact") | exact L2.TyOf.tup (by walk_at "fact"))
local macro_rules | `(tactic| walk_at "kit") => `(tactic| first | exact L2.qhs _ | exact L2.qgw _ | exact L2.qsk _ | exact L2.kit_tuple _ | rfl)
local macro_rules | `(tactic| walk_at "r1") => `(tactic| first
 | refine L2.tVarS.mk _ rfl ?_
 | refine L2.rI0S.mk _ _ rfl rfl ?_
 | refine L2.rIxLS.mk _ _ _ _ rfl rfl (by walk_at "sq") (by walk_at "at") ?_
 | refine L2.rIxTS.mk _ _ _ _ rfl rfl (by walk_at "sq") (by walk_at "at") ?_
 | refine L2.rIS.mk _ _ rfl rfl (by walk_at "c") ?_
 | refine L2.tBS.mk _ rfl ?_
 | refine L2.tAndVS.mk _ rfl ?_
 | refine L2.tOrVS.mk _ rfl ?_
 | refine L2.tNotVS.mk _ rfl ?_
 | refine L2.rUS.mk _ rfl ?_
 | refine L2.tPartS.mk _ rfl ?_
 | refine L2.rSlLNS.mk _ _ rfl (by walk_at "sq") ?_
 | refine L2.rAppendNS.mk _ _ _ rfl rfl (by walk_at "fact") (by walk_at "c") ?_
 | refine Exists.intro _ (And.intro rfl ?_)
 | refine Exists.intro _ (Exists.intro _ (And.intro rfl (And.intro rfl ?_)))
 | refine And.intro rfl ?_
 | refine Exists.intro _ (Exists.intro _ (And.intro rfl (And.intro (by walk_at "sq") ?_)))
 | refine Exists.intro _ (Exists.intro _ (Exists.intro _ (Exists.intro _ (And.intro rfl (And.intro rfl (And.intro (by walk_at "sq") (And.intro (by walk_at "at") ?_)))))))
 | refine And.intro (Or.inl ⟨rfl,_,L2.SqL.of (by walk_at "fact")⟩) ?_
 | refine Exists.intro _ (Exists.intro _ (Exists.intro _ (And.intro rfl (And.intro rfl (And.intro (by walk_at "fact") (And.intro (by walk_at "c") ?_))))))
 | refine Exists.intro _ (Exists.intro _ (Exists.intro _ (Exists.intro _ (And.intro rfl (And.intro (by walk_at "ty") (And.intro (by walk_at "kit") ?_))))))
 | refine Exists.intro _ (Exists.intro _ (And.intro rfl ?_))
 | refine And.intro (by walk_at "c") ?_
 | refine L2.qd8 ?_
 | refine L2.qd7 ?_)
local macro_rules | `(tactic| walk_at "n") => `(tactic| simp only [L2.tNil, List.cons_append, List.nil_append, List.append_nil])
local macro_rules | `(tactic| walk_at "r") => `(tactic| (walk_at "r1"; repeat walk_at "r1"))
namespace TB
open PySem L2
def top (i:Nat):Stmt:=PySem.Challenge.pw_thinbook_k63_readings_put.main.body.getD i (.Pass ⟨0,0,0,0⟩)
abbrev qef:Stmt:=(top 9)
abbrev qe6:Stmt:=(top 10)
abbrev qeg:Stmt:=(top 12)
abbrev qeh:Stmt:=(top 13)
abbrev qb9:Stmt:=(top 14)
abbrev qe7:Stmt:=(top 15)
abbrev qe8:Stmt:=(top 16)
abbrev qei:Stmt:=(top 17)
abbrev qe9:Stmt:=(top 18)
abbrev qfa:Stmt:=(top 20)
abbrev qgb:Stmt:=(top 21)
abbrev qdn:Stmt:=(inClass (top 23) 0)
abbrev qdg:Stmt:=(inClass (top 23) 1)
abbrev qba:Stmt:=(inClass (top 23) 2)
abbrev qbv:Stmt:=(inClass (top 23) 3)
abbrev qb2:Stmt:=(inClass (top 23) 4)
abbrev qdo:Stmt:=(inClass (top 23) 5)
abbrev qej:Stmt:=(inClass (top 23) 6)
abbrev qcv:Stmt:=(inClass (top 23) 7)
abbrev qcw:Stmt:=(inClass (top 23) 8)
abbrev qcx:Stmt:=(inClass (top 23) 9)
abbrev qie:Stmt:=(top 24)
abbrev qfb:Stmt:=(top 27)
abbrev qbw:Stmt:=(top 28)
abbrev qbq:Stmt:=(top 29)
abbrev qcj:Stmt:=(top 30)
abbrev qcy:Stmt:=(top 31)
abbrev qcp:Stmt:=(inClass (top 32) 0)
abbrev qcz:Stmt:=(inClass (top 32) 1)
abbrev qdp:Stmt:=(inClass (top 32) 2)
abbrev qlq:Stmt:=(top 34)
abbrev qfc:Stmt:=(top 35)
abbrev qb3:Stmt:=(top 40)
abbrev qfd:Stmt:=(top 41)
abbrev qfe:Stmt:=(top 42)
abbrev qck:Stmt:=(top 45)
abbrev qdq:Stmt:=(inClass (top 46) 0)
abbrev qcf:Stmt:=(inClass (top 46) 1)
abbrev qbb:Stmt:=(inClass (top 46) 2)
abbrev qb4:Stmt:=(inClass (top 46) 3)
abbrev qdh:Stmt:=(inClass (top 46) 4)
abbrev qdr:Stmt:=(inClass (top 46) 11)
abbrev qek:Stmt:=(inClass (top 46) 12)
abbrev qc0:Stmt:=(inClass (top 46) 13)
abbrev qc1:Stmt:=(inClass (top 46) 14)
abbrev qds:Stmt:=(inClass (top 46) 16)
abbrev qca:Stmt:=(top 48)
abbrev qc2:Stmt:=(top 49)
abbrev qdt:Stmt:=(top 50)
abbrev qdu:Stmt:=(top 52)
abbrev qdv:Stmt:=(top 53)
abbrev qc3:Stmt:=(top 54)
abbrev qdw:Stmt:=(top 55)
abbrev qb5:Stmt:=(top 56)
abbrev qcb:Stmt:=(top 57)
abbrev qc4:Stmt:=(top 58)
abbrev qbr:Stmt:=(top 59)
abbrev qel:Stmt:=(top 60)
abbrev qoq:Stmt:=(top 61)
theorem sc_is_whole:qaj ["thing"] ["thing"] (qab qef):=⟨rfl,rfl,rfl,by decide +kernel,rfl,by decide +kernel,by decide +kernel⟩
theorem sc_floored:qaj ["number", "width"] ["number", "width"] (qab qe6):=⟨rfl,rfl,rfl,by decide +kernel,rfl,by decide +kernel,by decide +kernel⟩
theorem sc_gone_cut:qaj ["rule", "day", "gone"] ["rule", "day"] (qab qeg):=⟨rfl,rfl,rfl,by decide +kernel,rfl,by decide +kernel,by decide +kernel⟩
theorem sc_edges_at:qaj ["rule", "day", "cuts"] ["rule", "day"] (qab qeh):=⟨rfl,rfl,rfl,by decide +kernel,rfl,by decide +kernel,by decide +kernel⟩
theorem sc_greater_edge:qaj ["one", "other"] ["one", "other"] (qab qb9):=⟨rfl,rfl,rfl,by decide +kernel,rfl,by decide +kernel,by decide +kernel⟩
theorem sc_greater:qaj ["one", "other"] ["one", "other"] (qab qe7):=⟨rfl,rfl,rfl,by decide +kernel,rfl,by decide +kernel,by decide +kernel⟩
theorem sc_is_gone:qaj ["edges", "time"] ["edges", "time"] (qab qe8):=⟨rfl,rfl,rfl,by decide +kernel,rfl,by decide +kernel,by decide +kernel⟩
theorem sc_width_at:qaj ["rule", "edges", "time", "widths"] ["rule", "edges", "time"] (qab qei):=⟨rfl,rfl,rfl,by decide +kernel,rfl,by decide +kernel,by decide +kernel⟩
theorem sc_cell_at:qaj ["rule", "edges", "time", "width"] ["rule", "edges", "time"] (qab qe9):=⟨rfl,rfl,rfl,by decide +kernel,rfl,by decide +kernel,by decide +kernel⟩
theorem sc_heap_of:qaj ["runs", "values", "how_many", "total"] ["runs"] (qab qfa):=⟨rfl,rfl,rfl,by decide +kernel,rfl,by decide +kernel,by decide +kernel⟩
theorem sc_poured:qaj ["one", "other"] ["one", "other"] (qab qgb):=⟨rfl,rfl,rfl,by decide +kernel,rfl,by decide +kernel,by decide +kernel⟩
theorem sc_Roll_init:qaj ["self", "rule", "day"] ["self", "rule", "day"] (qab qdn):=⟨rfl,rfl,rfl,by decide +kernel,rfl,by decide +kernel,by decide +kernel⟩
theorem sc_Roll_put:qaj ["self", "time", "value", "many", "cell"] ["self", "time", "value", "many"] (qab qdg):=⟨rfl,rfl,rfl,by decide +kernel,rfl,by decide +kernel,by decide +kernel⟩
theorem sc_Roll_pour_into_cell:qaj ["self", "cell", "heap"] ["self", "cell", "heap"] (qab qba):=⟨rfl,rfl,rfl,by decide +kernel,rfl,by decide +kernel,by decide +kernel⟩
theorem sc_Roll_take_heap:qaj ["self", "start", "heap", "cell"] ["self", "start", "heap"] (qab qbv):=⟨rfl,rfl,rfl,by decide +kernel,rfl,by decide +kernel,by decide +kernel⟩
theorem sc_Roll_take_all:qaj ["self", "roll", "time", "value", "many", "row"] ["self", "roll"] (qab qb2):=⟨rfl,rfl,rfl,by decide +kernel,rfl,by decide +kernel,by decide +kernel⟩
theorem sc_Roll_rule:qaj ["self"] ["self"] (qab qdo):=⟨rfl,rfl,rfl,by decide +kernel,rfl,by decide +kernel,by decide +kernel⟩
theorem sc_Roll_day:qaj ["self"] ["self"] (qab qej):=⟨rfl,rfl,rfl,by decide +kernel,rfl,by decide +kernel,by decide +kernel⟩
theorem sc_Roll_edges:qaj ["self"] ["self"] (qab qcv):=⟨rfl,rfl,rfl,by decide +kernel,rfl,by decide +kernel,by decide +kernel⟩
theorem sc_Roll_young:qaj ["self"] ["self"] (qab qcw):=⟨rfl,rfl,rfl,by decide +kernel,rfl,by decide +kernel,by decide +kernel⟩
theorem sc_Roll_heaps:qaj ["self"] ["self"] (qab qcx):=⟨rfl,rfl,rfl,by decide +kernel,rfl,by decide +kernel,by decide +kernel⟩
theorem sc_begun:qaj ["rule", "day", "edges", "roll"] ["rule", "day", "edges"] (qab qie):=⟨rfl,rfl,rfl,by decide +kernel,rfl,by decide +kernel,by decide +kernel⟩
theorem sc_is_step:qaj ["thing"] ["thing"] (qab qfb):=⟨rfl,rfl,rfl,by decide +kernel,rfl,by decide +kernel,by decide +kernel⟩
theorem sc_check_one_step:qaj ["step"] ["step"] (qab qbw):=⟨rfl,rfl,rfl,by decide +kernel,rfl,by decide +kernel,by decide +kernel⟩
theorem sc_check_next_step:qaj ["step", "behind"] ["step", "behind"] (qab qbq):=⟨rfl,rfl,rfl,by decide +kernel,rfl,by decide +kernel,by decide +kernel⟩
theorem sc_check_steps:qaj ["steps", "step", "behind"] ["steps"] (qab qcj):=⟨rfl,rfl,rfl,by decide +kernel,rfl,by decide +kernel,by decide +kernel⟩
theorem sc_check_gone:qaj ["gone", "last_age"] ["gone", "last_age"] (qab qcy):=⟨rfl,rfl,rfl,by decide +kernel,rfl,by decide +kernel,by decide +kernel⟩
theorem sc_Rule_init:qaj ["self", "steps", "gone", "kept"] ["self", "steps", "gone"] (qab qcp):=⟨rfl,rfl,rfl,by decide +kernel,rfl,by decide +kernel,by decide +kernel⟩
theorem sc_Rule_steps:qaj ["self"] ["self"] (qab qcz):=⟨rfl,rfl,rfl,by decide +kernel,rfl,by decide +kernel,by decide +kernel⟩
theorem sc_Rule_gone:qaj ["self"] ["self"] (qab qdp):=⟨rfl,rfl,rfl,by decide +kernel,rfl,by decide +kernel,by decide +kernel⟩
theorem sc_aged:qaj ["roll", "day", "new"] ["roll", "day"] (qab qlq):=⟨rfl,rfl,rfl,by decide +kernel,rfl,by decide +kernel,by decide +kernel⟩
theorem sc_roll_of:qaj ["rule", "day", "edges", "readings", "new", "time", "value", "many"] ["rule", "day", "edges", "readings"] (qab qfc):=⟨rfl,rfl,rfl,by decide +kernel,rfl,by decide +kernel,by decide +kernel⟩
theorem sc_is_small_word:qaj ["thing", "longest"] ["thing", "longest"] (qab qb3):=⟨rfl,rfl,rfl,by decide +kernel,rfl,by decide +kernel,by decide +kernel⟩
theorem sc_is_name:qaj ["thing"] ["thing"] (qab qfd):=⟨rfl,rfl,rfl,by decide +kernel,rfl,by decide +kernel,by decide +kernel⟩
theorem sc_is_mark:qaj ["thing"] ["thing"] (qab qfe):=⟨rfl,rfl,rfl,by decide +kernel,rfl,by decide +kernel,by decide +kernel⟩
theorem sc_check_marks:qaj ["marks"] ["marks"] (qab qck):=⟨rfl,rfl,rfl,by decide +kernel,rfl,by decide +kernel,by decide +kernel⟩
theorem sc_Book_init:qaj ["self", "rule", "day"] ["self", "rule", "day"] (qab qdq):=⟨rfl,rfl,rfl,by decide +kernel,rfl,by decide +kernel,by decide +kernel⟩
theorem sc_Book_enrol:qaj ["self", "name", "marks", "told"] ["self", "name", "marks"] (qab qcf):=⟨rfl,rfl,rfl,by decide +kernel,rfl,by decide +kernel,by decide +kernel⟩
theorem sc_Book_check_enrolled:qaj ["self", "name"] ["self", "name"] (qab qbb):=⟨rfl,rfl,rfl,by decide +kernel,rfl,by decide +kernel,by decide +kernel⟩
theorem sc_Book_own_roll:qaj ["self", "name"] ["self", "name"] (qab qb4):=⟨rfl,rfl,rfl,by decide +kernel,rfl,by decide +kernel,by decide +kernel⟩
theorem sc_Book_put:qaj ["self", "name", "time", "value", "many"] ["self", "name", "time", "value", "many"] (qab qdh):=⟨rfl,rfl,rfl,by decide +kernel,rfl,by decide +kernel,by decide +kernel⟩
theorem sc_Book_rule:qaj ["self"] ["self"] (qab qdr):=⟨rfl,rfl,rfl,by decide +kernel,rfl,by decide +kernel,by decide +kernel⟩
theorem sc_Book_day:qaj ["self"] ["self"] (qab qek):=⟨rfl,rfl,rfl,by decide +kernel,rfl,by decide +kernel,by decide +kernel⟩
theorem sc_Book_edges:qaj ["self"] ["self"] (qab qc0):=⟨rfl,rfl,rfl,by decide +kernel,rfl,by decide +kernel,by decide +kernel⟩
theorem sc_Book_names:qaj ["self"] ["self"] (qab qc1):=⟨rfl,rfl,rfl,by decide +kernel,rfl,by decide +kernel,by decide +kernel⟩
theorem sc_Book_roll:qaj ["self", "name"] ["self", "name"] (qab qds):=⟨rfl,rfl,rfl,by decide +kernel,rfl,by decide +kernel,by decide +kernel⟩
theorem sc__law_cell_at:qaj ["_law_script", "_law_k"] ["_law_script", "_law_k"] (qab qca):=⟨rfl,rfl,rfl,by decide +kernel,rfl,by decide +kernel,by decide +kernel⟩
theorem sc__law_mixed:qaj ["_law_draw", "_law_k", "_law_number"] ["_law_draw", "_law_k"] (qab qc2):=⟨rfl,rfl,rfl,by decide +kernel,rfl,by decide +kernel,by decide +kernel⟩
theorem sc__law_name:qaj ["_law_draw", "_law_k", "_law_some", "_law_length", "_law_body", "_law_at"] ["_law_draw", "_law_k"] (qab qdt):=⟨rfl,rfl,rfl,by decide +kernel,rfl,by decide +kernel,by decide +kernel⟩
theorem sc__law_rule:qaj ["_law_draw", "_law_wide", "_law_age", "_law_width", "_law_steps", "_law_k"] ["_law_draw"] (qab qdu):=⟨rfl,rfl,rfl,by decide +kernel,rfl,by decide +kernel,by decide +kernel⟩
theorem sc__law_time:qaj ["_law_steps", "_law_gone", "_law_day", "_law_draw", "_law_last", "_law_far", "_law_back"] ["_law_steps", "_law_gone", "_law_day", "_law_draw"] (qab qdv):=⟨rfl,rfl,rfl,by decide +kernel,rfl,by decide +kernel,by decide +kernel⟩
theorem sc__law_value:qaj ["_law_draw", "_law_number"] ["_law_draw"] (qab qc3):=⟨rfl,rfl,rfl,by decide +kernel,rfl,by decide +kernel,by decide +kernel⟩
theorem sc__law_many:qaj ["_law_draw", "_law_number"] ["_law_draw"] (qab qdw):=⟨rfl,rfl,rfl,by decide +kernel,rfl,by decide +kernel,by decide +kernel⟩
theorem sc__law_readings:qaj ["_law_cells", "_law_names", "_law_steps", "_law_gone", "_law_day", "_law_found", "_law_draw", "_law_name_here"] ["_law_cells", "_law_names", "_law_steps", "_law_gone", "_law_day"] (qab qb5):=⟨rfl,rfl,rfl,by decide +kernel,rfl,by decide +kernel,by decide +kernel⟩
theorem sc__law_refusal:qaj ["_law_book", "_law_name_here", "_law_time_here", "_law_value_here", "_law_many_here", "e"] ["_law_book", "_law_name_here", "_law_time_here", "_law_value_here", "_law_many_here"] (qab qcb):=⟨rfl,rfl,rfl,by decide +kernel,rfl,by decide +kernel,by decide +kernel⟩
theorem sc__law_right:qaj ["_law_book", "_law_made", "_law_day", "_law_name_here", "_law_kept", "_law_roll", "_law_due", "_law_heap"] ["_law_book", "_law_made", "_law_day", "_law_name_here", "_law_kept"] (qab qc4):=⟨rfl,rfl,rfl,by decide +kernel,rfl,by decide +kernel,by decide +kernel⟩
theorem sc__law_book_right:qaj ["_law_book", "_law_made", "_law_day", "_law_kept"] ["_law_book", "_law_made", "_law_day", "_law_kept"] (qab qbr):=⟨rfl,rfl,rfl,by decide +kernel,rfl,by decide +kernel,by decide +kernel⟩
theorem sc__law_one:qaj ["_law_books", "_law_kept", "_law_made", "_law_day", "_law_name_here", "_law_reading", "_law_which", "_law_time_here", "_law_value_here", "_law_many_here", "_law_due", "_law_edge", "_law_old", "_law_rows", "_law_said", "_law_k", "_law_mine"] ["_law_books", "_law_kept", "_law_made", "_law_day", "_law_name_here", "_law_reading"] (qab qel):=⟨rfl,rfl,rfl,by decide +kernel,rfl,by decide +kernel,by decide +kernel⟩
theorem sc_law:qaj ["_law_script", "_law_steps", "_law_gone", "_law_made", "_law_day", "_law_names", "_law_books", "_law_kept", "_law_k", "_law_name_here", "_law_one_here", "_law_row", "_law_time_here", "_law_value_here", "_law_many_here", "_law_reading"] ["_law_script"] (qab qoq):=⟨rfl,rfl,rfl,by decide +kernel,rfl,by decide +kernel,by decide +kernel⟩
structure Txt (K:Frag) (mg:Str->Option Value) (C_Roll:Addr) (C_Rule:Addr) (C_Book:Addr) (C_BookError:Addr) (C_NoNumber:Addr) (C_NoRule:Addr) (C_Backward:Addr) (C_NoName:Addr) (C_NoMark:Addr):Prop where
 f_is_whole:∃ f fd,Fun K "is_whole" "is_whole" qef f fd/\mg "is_whole" = some (.ref f)
 f_floored:∃ f fd,Fun K "floored" "floored" qe6 f fd/\mg "floored" = some (.ref f)
 f_gone_cut:∃ f fd,Fun K "gone_cut" "gone_cut" qeg f fd/\mg "gone_cut" = some (.ref f)
 f_edges_at:∃ f fd,Fun K "edges_at" "edges_at" qeh f fd/\mg "edges_at" = some (.ref f)
 f_greater_edge:∃ f fd,Fun K "greater_edge" "greater_edge" qb9 f fd/\mg "greater_edge" = some (.ref f)
 f_greater:∃ f fd,Fun K "greater" "greater" qe7 f fd/\mg "greater" = some (.ref f)
 f_is_gone:∃ f fd,Fun K "is_gone" "is_gone" qe8 f fd/\mg "is_gone" = some (.ref f)
 f_width_at:∃ f fd,Fun K "width_at" "width_at" qei f fd/\mg "width_at" = some (.ref f)
 f_cell_at:∃ f fd,Fun K "cell_at" "cell_at" qe9 f fd/\mg "cell_at" = some (.ref f)
 f_heap_of:∃ f fd,Fun K "heap_of" "heap_of" qfa f fd/\mg "heap_of" = some (.ref f)
 f_poured:∃ f fd,Fun K "poured" "poured" qgb f fd/\mg "poured" = some (.ref f)
 f_Roll_init:∃ f fd,Fun K "__init__" "Roll.__init__" qdn f fd/\Mk K C_Roll f
 f_Roll_put:∃ f fd dT o n t,FunD K "put" "Roll.put" qdg (.ref dT) f fd/\qgc K C_Roll "put" f/\fd.defaults=.ref dT/\K.lookup dT=some o/\o.data=.seq #[.int 1 t] n
 f_Roll_pour_into_cell:∃ f fd,Fun K "pour_into_cell" "Roll.pour_into_cell" qba f fd/\qgc K C_Roll "pour_into_cell" f
 f_Roll_take_heap:∃ f fd,Fun K "take_heap" "Roll.take_heap" qbv f fd/\qgc K C_Roll "take_heap" f
 f_Roll_take_all:∃ f fd,Fun K "take_all" "Roll.take_all" qb2 f fd/\qgc K C_Roll "take_all" f
 f_Roll_rule:∃ f fd,Fun K "rule" "Roll.rule" qdo f fd/\qgc K C_Roll "rule" f
 f_Roll_day:∃ f fd,Fun K "day" "Roll.day" qej f fd/\qgc K C_Roll "day" f
 f_Roll_edges:∃ f fd,Fun K "edges" "Roll.edges" qcv f fd/\qgc K C_Roll "edges" f
 f_Roll_young:∃ f fd,Fun K "young" "Roll.young" qcw f fd/\qgc K C_Roll "young" f
 f_Roll_heaps:∃ f fd,Fun K "heaps" "Roll.heaps" qcx f fd/\qgc K C_Roll "heaps" f
 f_begun:∃ f fd,Fun K "begun" "begun" qie f fd/\mg "begun" = some (.ref f)
 f_is_step:∃ f fd,Fun K "is_step" "is_step" qfb f fd/\mg "is_step" = some (.ref f)
 f_check_one_step:∃ f fd,Fun K "check_one_step" "check_one_step" qbw f fd/\mg "check_one_step" = some (.ref f)
 f_check_next_step:∃ f fd,Fun K "check_next_step" "check_next_step" qbq f fd/\mg "check_next_step" = some (.ref f)
 f_check_steps:∃ f fd,Fun K "check_steps" "check_steps" qcj f fd/\mg "check_steps" = some (.ref f)
 f_check_gone:∃ f fd,Fun K "check_gone" "check_gone" qcy f fd/\mg "check_gone" = some (.ref f)
 f_Rule_init:∃ f fd dT o n,FunD K "__init__" "Rule.__init__" qcp (.ref dT) f fd/\Mk K C_Rule f/\fd.defaults=.ref dT/\K.lookup dT=some o/\o.data=.seq #[.none] n
 f_Rule_steps:∃ f fd,Fun K "steps" "Rule.steps" qcz f fd/\qgc K C_Rule "steps" f
 f_Rule_gone:∃ f fd,Fun K "gone" "Rule.gone" qdp f fd/\qgc K C_Rule "gone" f
 f_aged:∃ f fd,Fun K "aged" "aged" qlq f fd/\mg "aged" = some (.ref f)
 f_roll_of:∃ f fd,Fun K "roll_of" "roll_of" qfc f fd/\mg "roll_of" = some (.ref f)
 f_is_small_word:∃ f fd,Fun K "is_small_word" "is_small_word" qb3 f fd/\mg "is_small_word" = some (.ref f)
 f_is_name:∃ f fd,Fun K "is_name" "is_name" qfd f fd/\mg "is_name" = some (.ref f)
 f_is_mark:∃ f fd,Fun K "is_mark" "is_mark" qfe f fd/\mg "is_mark" = some (.ref f)
 f_check_marks:∃ f fd,Fun K "check_marks" "check_marks" qck f fd/\mg "check_marks" = some (.ref f)
 f_Book_init:∃ f fd,Fun K "__init__" "Book.__init__" qdq f fd/\Mk K C_Book f
 f_Book_enrol:∃ f fd dT o n,FunD K "enrol" "Book.enrol" qcf (.ref dT) f fd/\qgc K C_Book "enrol" f/\fd.defaults=.ref dT/\K.lookup dT=some o/\o.data=.seq #[.none] n
 f_Book_check_enrolled:∃ f fd,Fun K "check_enrolled" "Book.check_enrolled" qbb f fd/\qgc K C_Book "check_enrolled" f
 f_Book_own_roll:∃ f fd,Fun K "own_roll" "Book.own_roll" qb4 f fd/\qgc K C_Book "own_roll" f
 f_Book_put:∃ f fd dT o n t,FunD K "put" "Book.put" qdh (.ref dT) f fd/\qgc K C_Book "put" f/\fd.defaults=.ref dT/\K.lookup dT=some o/\o.data=.seq #[.int 1 t] n
 f_Book_rule:∃ f fd,Fun K "rule" "Book.rule" qdr f fd/\qgc K C_Book "rule" f
 f_Book_day:∃ f fd,Fun K "day" "Book.day" qek f fd/\qgc K C_Book "day" f
 f_Book_edges:∃ f fd,Fun K "edges" "Book.edges" qc0 f fd/\qgc K C_Book "edges" f
 f_Book_names:∃ f fd,Fun K "names" "Book.names" qc1 f fd/\qgc K C_Book "names" f
 f_Book_roll:∃ f fd,Fun K "roll" "Book.roll" qds f fd/\qgc K C_Book "roll" f
 f__law_cell_at:∃ f fd,Fun K "_law_cell_at" "_law_cell_at" qca f fd/\mg "_law_cell_at" = some (.ref f)
 f__law_mixed:∃ f fd,Fun K "_law_mixed" "_law_mixed" qc2 f fd/\mg "_law_mixed" = some (.ref f)
 f__law_name:∃ f fd,Fun K "_law_name" "_law_name" qdt f fd/\mg "_law_name" = some (.ref f)
 f__law_rule:∃ f fd,Fun K "_law_rule" "_law_rule" qdu f fd/\mg "_law_rule" = some (.ref f)
 f__law_time:∃ f fd,Fun K "_law_time" "_law_time" qdv f fd/\mg "_law_time" = some (.ref f)
 f__law_value:∃ f fd,Fun K "_law_value" "_law_value" qc3 f fd/\mg "_law_value" = some (.ref f)
 f__law_many:∃ f fd,Fun K "_law_many" "_law_many" qdw f fd/\mg "_law_many" = some (.ref f)
 f__law_readings:∃ f fd,Fun K "_law_readings" "_law_readings" qb5 f fd/\mg "_law_readings" = some (.ref f)
 f__law_refusal:∃ f fd,Fun K "_law_refusal" "_law_refusal" qcb f fd/\mg "_law_refusal" = some (.ref f)
 f__law_right:∃ f fd,Fun K "_law_right" "_law_right" qc4 f fd/\mg "_law_right" = some (.ref f)
 f__law_book_right:∃ f fd,Fun K "_law_book_right" "_law_book_right" qbr f fd/\mg "_law_book_right" = some (.ref f)
 f__law_one:∃ f fd,Fun K "_law_one" "_law_one" qel f fd/\mg "_law_one" = some (.ref f)
 f_law:∃ f fd,Fun K "law" "law" qoq f fd/\mg "law" = some (.ref f)
 cl_Roll:Cls K C_Roll
 mg_Roll:mg "Roll" = some (.ref C_Roll)
 na_Roll_kept_rule:NoAttr K C_Roll "kept_rule"
 na_Roll_kept_day:NoAttr K C_Roll "kept_day"
 na_Roll_kept_edges:NoAttr K C_Roll "kept_edges"
 na_Roll_whole_ones:NoAttr K C_Roll "whole_ones"
 na_Roll_cell_heaps:NoAttr K C_Roll "cell_heaps"
 cl_Rule:Cls K C_Rule
 mg_Rule:mg "Rule" = some (.ref C_Rule)
 na_Rule_kept_steps:NoAttr K C_Rule "kept_steps"
 na_Rule_gone_age:NoAttr K C_Rule "gone_age"
 cl_Book:Cls K C_Book
 mg_Book:mg "Book" = some (.ref C_Book)
 na_Book_kept_rule:NoAttr K C_Book "kept_rule"
 na_Book_kept_day:NoAttr K C_Book "kept_day"
 na_Book_kept_edges:NoAttr K C_Book "kept_edges"
 na_Book_kept_marks:NoAttr K C_Book "kept_marks"
 na_Book_kept_rolls:NoAttr K C_Book "kept_rolls"
 mg_BookError:mg "BookError" = some (.ref C_BookError)
 mg_NoNumber:mg "NoNumber" = some (.ref C_NoNumber)
 mg_NoRule:mg "NoRule" = some (.ref C_NoRule)
 mg_Backward:mg "Backward" = some (.ref C_Backward)
 mg_NoName:mg "NoName" = some (.ref C_NoName)
 mg_NoMark:mg "NoMark" = some (.ref C_NoMark)
 ex_BookError:qv3 K C_BookError
 kx_BookError:qsq K C_BookError
 hit_BookError_BookError:PySem.W.mroIn K C_BookError (.ref C_BookError)=some true
 is_BookError_BookError:PySem.W.kitOne K (.ref C_BookError) (.ref C_BookError)=some true
 is_BookError_NoNumber:PySem.W.kitOne K (.ref C_BookError) (.ref C_NoNumber)=some false
 is_BookError_NoRule:PySem.W.kitOne K (.ref C_BookError) (.ref C_NoRule)=some false
 is_BookError_Backward:PySem.W.kitOne K (.ref C_BookError) (.ref C_Backward)=some false
 is_BookError_NoName:PySem.W.kitOne K (.ref C_BookError) (.ref C_NoName)=some false
 is_BookError_NoMark:PySem.W.kitOne K (.ref C_BookError) (.ref C_NoMark)=some false
 is_BookError_ValueError:PySem.W.kitOne K (.ref C_BookError) (.type "ValueError")=some true
 ex_NoNumber:qv3 K C_NoNumber
 kx_NoNumber:qsq K C_NoNumber
 hit_NoNumber_BookError:PySem.W.mroIn K C_NoNumber (.ref C_BookError)=some true
 is_NoNumber_BookError:PySem.W.kitOne K (.ref C_NoNumber) (.ref C_BookError)=some true
 hit_NoNumber_NoNumber:PySem.W.mroIn K C_NoNumber (.ref C_NoNumber)=some true
 is_NoNumber_NoNumber:PySem.W.kitOne K (.ref C_NoNumber) (.ref C_NoNumber)=some true
 is_NoNumber_NoRule:PySem.W.kitOne K (.ref C_NoNumber) (.ref C_NoRule)=some false
 is_NoNumber_Backward:PySem.W.kitOne K (.ref C_NoNumber) (.ref C_Backward)=some false
 is_NoNumber_NoName:PySem.W.kitOne K (.ref C_NoNumber) (.ref C_NoName)=some false
 is_NoNumber_NoMark:PySem.W.kitOne K (.ref C_NoNumber) (.ref C_NoMark)=some false
 is_NoNumber_ValueError:PySem.W.kitOne K (.ref C_NoNumber) (.type "ValueError")=some true
 ex_NoRule:qv3 K C_NoRule
 kx_NoRule:qsq K C_NoRule
 hit_NoRule_BookError:PySem.W.mroIn K C_NoRule (.ref C_BookError)=some true
 is_NoRule_BookError:PySem.W.kitOne K (.ref C_NoRule) (.ref C_BookError)=some true
 is_NoRule_NoNumber:PySem.W.kitOne K (.ref C_NoRule) (.ref C_NoNumber)=some false
 hit_NoRule_NoRule:PySem.W.mroIn K C_NoRule (.ref C_NoRule)=some true
 is_NoRule_NoRule:PySem.W.kitOne K (.ref C_NoRule) (.ref C_NoRule)=some true
 is_NoRule_Backward:PySem.W.kitOne K (.ref C_NoRule) (.ref C_Backward)=some false
 is_NoRule_NoName:PySem.W.kitOne K (.ref C_NoRule) (.ref C_NoName)=some false
 is_NoRule_NoMark:PySem.W.kitOne K (.ref C_NoRule) (.ref C_NoMark)=some false
 is_NoRule_ValueError:PySem.W.kitOne K (.ref C_NoRule) (.type "ValueError")=some true
 kx_Backward:qsq K C_Backward
 hit_Backward_BookError:PySem.W.mroIn K C_Backward (.ref C_BookError)=some true
 is_Backward_BookError:PySem.W.kitOne K (.ref C_Backward) (.ref C_BookError)=some true
 is_Backward_NoNumber:PySem.W.kitOne K (.ref C_Backward) (.ref C_NoNumber)=some false
 is_Backward_NoRule:PySem.W.kitOne K (.ref C_Backward) (.ref C_NoRule)=some false
 hit_Backward_Backward:PySem.W.mroIn K C_Backward (.ref C_Backward)=some true
 is_Backward_Backward:PySem.W.kitOne K (.ref C_Backward) (.ref C_Backward)=some true
 is_Backward_NoName:PySem.W.kitOne K (.ref C_Backward) (.ref C_NoName)=some false
 is_Backward_NoMark:PySem.W.kitOne K (.ref C_Backward) (.ref C_NoMark)=some false
 is_Backward_ValueError:PySem.W.kitOne K (.ref C_Backward) (.type "ValueError")=some true
 ex_NoName:qv3 K C_NoName
 kx_NoName:qsq K C_NoName
 hit_NoName_BookError:PySem.W.mroIn K C_NoName (.ref C_BookError)=some true
 is_NoName_BookError:PySem.W.kitOne K (.ref C_NoName) (.ref C_BookError)=some true
 is_NoName_NoNumber:PySem.W.kitOne K (.ref C_NoName) (.ref C_NoNumber)=some false
 is_NoName_NoRule:PySem.W.kitOne K (.ref C_NoName) (.ref C_NoRule)=some false
 is_NoName_Backward:PySem.W.kitOne K (.ref C_NoName) (.ref C_Backward)=some false
 hit_NoName_NoName:PySem.W.mroIn K C_NoName (.ref C_NoName)=some true
 is_NoName_NoName:PySem.W.kitOne K (.ref C_NoName) (.ref C_NoName)=some true
 is_NoName_NoMark:PySem.W.kitOne K (.ref C_NoName) (.ref C_NoMark)=some false
 is_NoName_ValueError:PySem.W.kitOne K (.ref C_NoName) (.type "ValueError")=some true
 ex_NoMark:qv3 K C_NoMark
 kx_NoMark:qsq K C_NoMark
 hit_NoMark_BookError:PySem.W.mroIn K C_NoMark (.ref C_BookError)=some true
 is_NoMark_BookError:PySem.W.kitOne K (.ref C_NoMark) (.ref C_BookError)=some true
 is_NoMark_NoNumber:PySem.W.kitOne K (.ref C_NoMark) (.ref C_NoNumber)=some false
 is_NoMark_NoRule:PySem.W.kitOne K (.ref C_NoMark) (.ref C_NoRule)=some false
 is_NoMark_Backward:PySem.W.kitOne K (.ref C_NoMark) (.ref C_Backward)=some false
 is_NoMark_NoName:PySem.W.kitOne K (.ref C_NoMark) (.ref C_NoName)=some false
 hit_NoMark_NoMark:PySem.W.mroIn K C_NoMark (.ref C_NoMark)=some true
 is_NoMark_NoMark:PySem.W.kitOne K (.ref C_NoMark) (.ref C_NoMark)=some true
 is_NoMark_ValueError:PySem.W.kitOne K (.ref C_NoMark) (.type "ValueError")=some true
 b_all:mg "all" = none
 b_bool:mg "bool" = none
 b_int:mg "int" = none
 b_isinstance:mg "isinstance" = none
 b_len:mg "len" = none
 b_list:mg "list" = none
 b_max:mg "max" = none
 b_min:mg "min" = none
 b_range:mg "range" = none
 b_set:mg "set" = none
 b_sorted:mg "sorted" = none
 b_str:mg "str" = none
 b_sum:mg "sum" = none
 b_tuple:mg "tuple" = none
 b_zip:mg "zip" = none
 c_MOST_STEPS:∃ t,mg "MOST_STEPS" = some (.int 5 t)
 c_LETTERS:∃ t,mg "LETTERS" = some (.str "abcdefghijklmnopqrstuvwxyz" t)
 c_LONGEST_NAME:∃ t,mg "LONGEST_NAME" = some (.int 12 t)
 c_LONGEST_MARK:∃ t,mg "LONGEST_MARK" = some (.int 8 t)
 c_MOST_MARKS:∃ t,mg "MOST_MARKS" = some (.int 8 t)
theorem qxz {K:Frag} {h:Heap} {mg:Str->Option Value} (X:K.In h) (G:h.Ns mainGlobals mg) {C_Roll C_Rule C_Book f0 f1 f2 f3 f4 f5 f6 f7 f8 f9 f10 f11 f12 dT12 f13 f14 f15 f16 f17 f18 f19 f20 f21 f22 f23 f24 f25 f26 f27 dT27 f28 f29 f30 f31 f32 f33 f34 f35 f36 f37 dT37 f38 f39 f40 dT40 f41 f42 f43 f44 f45 f46 f47 f48 f49 f50 f51 f52 f53 f54 f55 f56 f57 f58 C_BookError C_NoNumber C_NoRule C_Backward C_NoName C_NoMark:Addr} {od0 an0 od1 an1 od2 an2 od3 an3 od4 an4 od5 an5 od6 an6 od7 an7 od8 an8 od9 an9 od10 an10 od11 an11 od12 an12 dd12 od13 an13 od14 an14 od15 an15 od16 an16 od17 an17 od18 an18 od19 an19 od20 an20 od21 an21 od22 an22 od23 an23 od24 an24 od25 an25 od26 an26 od27 an27 dd27 od28 an28 od29 an29 od30 an30 od31 an31 od32 an32 od33 an33 od34 an34 od35 an35 od36 an36 od37 an37 dd37 od38 an38 od39 an39 od40 an40 dd40 od41 an41 od42 an42 od43 an43 od44 an44 od45 an45 od46 an46 od47 an47 od48 an48 od49 an49 od50 an50 od51 an51 od52 an52 od53 an53 od54 an54 od55 an55 od56 an56 od57 an57 od58 an58:Option Addr} {sl0 sl1 sl2 sl3 sl4 sl5 sl6 sl7 sl8 sl9 sl10 sl11 sl12 ds12 sl13 sl14 sl15 sl16 sl17 sl18 sl19 sl20 sl21 sl22 sl23 sl24 sl25 sl26 sl27 ds27 sl28 sl29 sl30 sl31 sl32 sl33 sl34 sl35 sl36 sl37 ds37 sl38 sl39 sl40 ds40 sl41 sl42 sl43 sl44 sl45 sl46 sl47 sl48 sl49 sl50 sl51 sl52 sl53 sl54 sl55 sl56 sl57 sl58:Array (Option Value)} {oc0 kV0 dc0 pm0 cd0 ct0 oc1 kV1 dc1 pm1 cd1 ct1 oc2 kV2 dc2 pm2 cd2 ct2 oc3 kV3 dc3 pm3 cd3 ct3 oc4 kV4 dc4 pm4 cd4 ct4 oc5 kV5 dc5 pm5 cd5 ct5 oc6 kV6 dc6 pm6 cd6 ct6 oc7 kV7 dc7 pm7 cd7 ct7 oc8 kV8 dc8 pm8 cd8 ct8 oc9 kV9 dc9 pm9 cd9 ct9 oc10 kV10 dc10 pm10 cd10 ct10 oc11 kV11 dc11 pm11 cd11 ct11 oc12 kV12 dc12 pm12 cd12 ct12 dk12 oc13 kV13 dc13 pm13 cd13 ct13 oc14 kV14 dc14 pm14 cd14 ct14 oc15 kV15 dc15 pm15 cd15 ct15 oc16 kV16 dc16 pm16 cd16 ct16 oc17 kV17 dc17 pm17 cd17 ct17 oc18 kV18 dc18 pm18 cd18 ct18 oc19 kV19 dc19 pm19 cd19 ct19 oc20 kV20 dc20 pm20 cd20 ct20 oc21 kV21 dc21 pm21 cd21 ct21 oc22 kV22 dc22 pm22 cd22 ct22 oc23 kV23 dc23 pm23 cd23 ct23 oc24 kV24 dc24 pm24 cd24 ct24 oc25 kV25 dc25 pm25 cd25 ct25 oc26 kV26 dc26 pm26 cd26 ct26 oc27 kV27 dc27 pm27 cd27 ct27 dk27 oc28 kV28 dc28 pm28 cd28 ct28 oc29 kV29 dc29 pm29 cd29 ct29 oc30 kV30 dc30 pm30 cd30 ct30 oc31 kV31 dc31 pm31 cd31 ct31 oc32 kV32 dc32 pm32 cd32 ct32 oc33 kV33 dc33 pm33 cd33 ct33 oc34 kV34 dc34 pm34 cd34 ct34 oc35 kV35 dc35 pm35 cd35 ct35 oc36 kV36 dc36 pm36 cd36 ct36 oc37 kV37 dc37 pm37 cd37 ct37 dk37 oc38 kV38 dc38 pm38 cd38 ct38 oc39 kV39 dc39 pm39 cd39 ct39 oc40 kV40 dc40 pm40 cd40 ct40 dk40 oc41 kV41 dc41 pm41 cd41 ct41 oc42 kV42 dc42 pm42 cd42 ct42 oc43 kV43 dc43 pm43 cd43 ct43 oc44 kV44 dc44 pm44 cd44 ct44 oc45 kV45 dc45 pm45 cd45 ct45 oc46 kV46 dc46 pm46 cd46 ct46 oc47 kV47 dc47 pm47 cd47 ct47 oc48 kV48 dc48 pm48 cd48 ct48 oc49 kV49 dc49 pm49 cd49 ct49 oc50 kV50 dc50 pm50 cd50 ct50 oc51 kV51 dc51 pm51 cd51 ct51 oc52 kV52 dc52 pm52 cd52 ct52 oc53 kV53 dc53 pm53 cd53 ct53 oc54 kV54 dc54 pm54 cd54 ct54 oc55 kV55 dc55 pm55 cd55 ct55 oc56 kV56 dc56 pm56 cd56 ct56 oc57 kV57 dc57 pm57 cd57 ct57 oc58 kV58 dc58 pm58 cd58 ct58:Value} {dn12 dn27 dn37 dn40:Nat} {dt12 dt40 t_MOST_STEPS t_LETTERS t_LONGEST_NAME t_LONGEST_MARK t_MOST_MARKS:Tok}
  (aCRoll:nsIn K mainGlobals "Roll" = some (some (.ref C_Roll)))
  (aCRule:nsIn K mainGlobals "Rule" = some (some (.ref C_Rule)))
  (aCBook:nsIn K mainGlobals "Book" = some (some (.ref C_Book)))
  (a0:nsIn K mainGlobals "is_whole" = some (some (.ref f0)))
  (l0:K.lookup f0=some ⟨oc0,od0,.func (fnOf "is_whole" "is_whole" (qak qef) (qai qef) (qab qef) .none kV0 dc0 pm0 an0 cd0 ct0),sl0⟩)
  (c0:codeIn K cd0 "is_whole" = true)
  (k0:keepIn K (.ref f0)=true)
  (a1:nsIn K mainGlobals "floored" = some (some (.ref f1)))
  (l1:K.lookup f1=some ⟨oc1,od1,.func (fnOf "floored" "floored" (qak qe6) (qai qe6) (qab qe6) .none kV1 dc1 pm1 an1 cd1 ct1),sl1⟩)
  (c1:codeIn K cd1 "floored" = true)
  (k1:keepIn K (.ref f1)=true)
  (a2:nsIn K mainGlobals "gone_cut" = some (some (.ref f2)))
  (l2:K.lookup f2=some ⟨oc2,od2,.func (fnOf "gone_cut" "gone_cut" (qak qeg) (qai qeg) (qab qeg) .none kV2 dc2 pm2 an2 cd2 ct2),sl2⟩)
  (c2:codeIn K cd2 "gone_cut" = true)
  (k2:keepIn K (.ref f2)=true)
  (a3:nsIn K mainGlobals "edges_at" = some (some (.ref f3)))
  (l3:K.lookup f3=some ⟨oc3,od3,.func (fnOf "edges_at" "edges_at" (qak qeh) (qai qeh) (qab qeh) .none kV3 dc3 pm3 an3 cd3 ct3),sl3⟩)
  (c3:codeIn K cd3 "edges_at" = true)
  (k3:keepIn K (.ref f3)=true)
  (a4:nsIn K mainGlobals "greater_edge" = some (some (.ref f4)))
  (l4:K.lookup f4=some ⟨oc4,od4,.func (fnOf "greater_edge" "greater_edge" (qak qb9) (qai qb9) (qab qb9) .none kV4 dc4 pm4 an4 cd4 ct4),sl4⟩)
  (c4:codeIn K cd4 "greater_edge" = true)
  (k4:keepIn K (.ref f4)=true)
  (a5:nsIn K mainGlobals "greater" = some (some (.ref f5)))
  (l5:K.lookup f5=some ⟨oc5,od5,.func (fnOf "greater" "greater" (qak qe7) (qai qe7) (qab qe7) .none kV5 dc5 pm5 an5 cd5 ct5),sl5⟩)
  (c5:codeIn K cd5 "greater" = true)
  (k5:keepIn K (.ref f5)=true)
  (a6:nsIn K mainGlobals "is_gone" = some (some (.ref f6)))
  (l6:K.lookup f6=some ⟨oc6,od6,.func (fnOf "is_gone" "is_gone" (qak qe8) (qai qe8) (qab qe8) .none kV6 dc6 pm6 an6 cd6 ct6),sl6⟩)
  (c6:codeIn K cd6 "is_gone" = true)
  (k6:keepIn K (.ref f6)=true)
  (a7:nsIn K mainGlobals "width_at" = some (some (.ref f7)))
  (l7:K.lookup f7=some ⟨oc7,od7,.func (fnOf "width_at" "width_at" (qak qei) (qai qei) (qab qei) .none kV7 dc7 pm7 an7 cd7 ct7),sl7⟩)
  (c7:codeIn K cd7 "width_at" = true)
  (k7:keepIn K (.ref f7)=true)
  (a8:nsIn K mainGlobals "cell_at" = some (some (.ref f8)))
  (l8:K.lookup f8=some ⟨oc8,od8,.func (fnOf "cell_at" "cell_at" (qak qe9) (qai qe9) (qab qe9) .none kV8 dc8 pm8 an8 cd8 ct8),sl8⟩)
  (c8:codeIn K cd8 "cell_at" = true)
  (k8:keepIn K (.ref f8)=true)
  (a9:nsIn K mainGlobals "heap_of" = some (some (.ref f9)))
  (l9:K.lookup f9=some ⟨oc9,od9,.func (fnOf "heap_of" "heap_of" (qak qfa) (qai qfa) (qab qfa) .none kV9 dc9 pm9 an9 cd9 ct9),sl9⟩)
  (c9:codeIn K cd9 "heap_of" = true)
  (k9:keepIn K (.ref f9)=true)
  (a10:nsIn K mainGlobals "poured" = some (some (.ref f10)))
  (l10:K.lookup f10=some ⟨oc10,od10,.func (fnOf "poured" "poured" (qak qgb) (qai qgb) (qab qgb) .none kV10 dc10 pm10 an10 cd10 ct10),sl10⟩)
  (c10:codeIn K cd10 "poured" = true)
  (k10:keepIn K (.ref f10)=true)
  (a11:PySem.W.findIn K (.ref C_Roll) "__init__" = some (some (.ref f11)))
  (i11:PySem.W.isFn K (.ref f11)=true)
  (l11:K.lookup f11=some ⟨oc11,od11,.func (fnOf "__init__" "Roll.__init__" (qak qdn) (qai qdn) (qab qdn) .none kV11 dc11 pm11 an11 cd11 ct11),sl11⟩)
  (c11:codeIn K cd11 "Roll.__init__" = true)
  (k11:keepIn K (.ref f11)=true)
  (a12:PySem.W.findIn K (.ref C_Roll) "put" = some (some (.ref f12)))
  (i12:PySem.W.isFn K (.ref f12)=true)
  (l12:K.lookup f12=some ⟨oc12,od12,.func (fnOf "put" "Roll.put" (qak qdg) (qai qdg) (qab qdg) (.ref dT12) kV12 dc12 pm12 an12 cd12 ct12),sl12⟩)
  (c12:codeIn K cd12 "Roll.put" = true)
  (k12:keepIn K (.ref f12)=true)
  (d12:K.lookup dT12=some ⟨dk12,dd12,.seq #[.int 1 dt12] dn12,ds12⟩)
  (a13:PySem.W.findIn K (.ref C_Roll) "pour_into_cell" = some (some (.ref f13)))
  (i13:PySem.W.isFn K (.ref f13)=true)
  (l13:K.lookup f13=some ⟨oc13,od13,.func (fnOf "pour_into_cell" "Roll.pour_into_cell" (qak qba) (qai qba) (qab qba) .none kV13 dc13 pm13 an13 cd13 ct13),sl13⟩)
  (c13:codeIn K cd13 "Roll.pour_into_cell" = true)
  (k13:keepIn K (.ref f13)=true)
  (a14:PySem.W.findIn K (.ref C_Roll) "take_heap" = some (some (.ref f14)))
  (i14:PySem.W.isFn K (.ref f14)=true)
  (l14:K.lookup f14=some ⟨oc14,od14,.func (fnOf "take_heap" "Roll.take_heap" (qak qbv) (qai qbv) (qab qbv) .none kV14 dc14 pm14 an14 cd14 ct14),sl14⟩)
  (c14:codeIn K cd14 "Roll.take_heap" = true)
  (k14:keepIn K (.ref f14)=true)
  (a15:PySem.W.findIn K (.ref C_Roll) "take_all" = some (some (.ref f15)))
  (i15:PySem.W.isFn K (.ref f15)=true)
  (l15:K.lookup f15=some ⟨oc15,od15,.func (fnOf "take_all" "Roll.take_all" (qak qb2) (qai qb2) (qab qb2) .none kV15 dc15 pm15 an15 cd15 ct15),sl15⟩)
  (c15:codeIn K cd15 "Roll.take_all" = true)
  (k15:keepIn K (.ref f15)=true)
  (a16:PySem.W.findIn K (.ref C_Roll) "rule" = some (some (.ref f16)))
  (i16:PySem.W.isFn K (.ref f16)=true)
  (l16:K.lookup f16=some ⟨oc16,od16,.func (fnOf "rule" "Roll.rule" (qak qdo) (qai qdo) (qab qdo) .none kV16 dc16 pm16 an16 cd16 ct16),sl16⟩)
  (c16:codeIn K cd16 "Roll.rule" = true)
  (k16:keepIn K (.ref f16)=true)
  (a17:PySem.W.findIn K (.ref C_Roll) "day" = some (some (.ref f17)))
  (i17:PySem.W.isFn K (.ref f17)=true)
  (l17:K.lookup f17=some ⟨oc17,od17,.func (fnOf "day" "Roll.day" (qak qej) (qai qej) (qab qej) .none kV17 dc17 pm17 an17 cd17 ct17),sl17⟩)
  (c17:codeIn K cd17 "Roll.day" = true)
  (k17:keepIn K (.ref f17)=true)
  (a18:PySem.W.findIn K (.ref C_Roll) "edges" = some (some (.ref f18)))
  (i18:PySem.W.isFn K (.ref f18)=true)
  (l18:K.lookup f18=some ⟨oc18,od18,.func (fnOf "edges" "Roll.edges" (qak qcv) (qai qcv) (qab qcv) .none kV18 dc18 pm18 an18 cd18 ct18),sl18⟩)
  (c18:codeIn K cd18 "Roll.edges" = true)
  (k18:keepIn K (.ref f18)=true)
  (a19:PySem.W.findIn K (.ref C_Roll) "young" = some (some (.ref f19)))
  (i19:PySem.W.isFn K (.ref f19)=true)
  (l19:K.lookup f19=some ⟨oc19,od19,.func (fnOf "young" "Roll.young" (qak qcw) (qai qcw) (qab qcw) .none kV19 dc19 pm19 an19 cd19 ct19),sl19⟩)
  (c19:codeIn K cd19 "Roll.young" = true)
  (k19:keepIn K (.ref f19)=true)
  (a20:PySem.W.findIn K (.ref C_Roll) "heaps" = some (some (.ref f20)))
  (i20:PySem.W.isFn K (.ref f20)=true)
  (l20:K.lookup f20=some ⟨oc20,od20,.func (fnOf "heaps" "Roll.heaps" (qak qcx) (qai qcx) (qab qcx) .none kV20 dc20 pm20 an20 cd20 ct20),sl20⟩)
  (c20:codeIn K cd20 "Roll.heaps" = true)
  (k20:keepIn K (.ref f20)=true)
  (a21:nsIn K mainGlobals "begun" = some (some (.ref f21)))
  (l21:K.lookup f21=some ⟨oc21,od21,.func (fnOf "begun" "begun" (qak qie) (qai qie) (qab qie) .none kV21 dc21 pm21 an21 cd21 ct21),sl21⟩)
  (c21:codeIn K cd21 "begun" = true)
  (k21:keepIn K (.ref f21)=true)
  (a22:nsIn K mainGlobals "is_step" = some (some (.ref f22)))
  (l22:K.lookup f22=some ⟨oc22,od22,.func (fnOf "is_step" "is_step" (qak qfb) (qai qfb) (qab qfb) .none kV22 dc22 pm22 an22 cd22 ct22),sl22⟩)
  (c22:codeIn K cd22 "is_step" = true)
  (k22:keepIn K (.ref f22)=true)
  (a23:nsIn K mainGlobals "check_one_step" = some (some (.ref f23)))
  (l23:K.lookup f23=some ⟨oc23,od23,.func (fnOf "check_one_step" "check_one_step" (qak qbw) (qai qbw) (qab qbw) .none kV23 dc23 pm23 an23 cd23 ct23),sl23⟩)
  (c23:codeIn K cd23 "check_one_step" = true)
  (k23:keepIn K (.ref f23)=true)
  (a24:nsIn K mainGlobals "check_next_step" = some (some (.ref f24)))
  (l24:K.lookup f24=some ⟨oc24,od24,.func (fnOf "check_next_step" "check_next_step" (qak qbq) (qai qbq) (qab qbq) .none kV24 dc24 pm24 an24 cd24 ct24),sl24⟩)
  (c24:codeIn K cd24 "check_next_step" = true)
  (k24:keepIn K (.ref f24)=true)
  (a25:nsIn K mainGlobals "check_steps" = some (some (.ref f25)))
  (l25:K.lookup f25=some ⟨oc25,od25,.func (fnOf "check_steps" "check_steps" (qak qcj) (qai qcj) (qab qcj) .none kV25 dc25 pm25 an25 cd25 ct25),sl25⟩)
  (c25:codeIn K cd25 "check_steps" = true)
  (k25:keepIn K (.ref f25)=true)
  (a26:nsIn K mainGlobals "check_gone" = some (some (.ref f26)))
  (l26:K.lookup f26=some ⟨oc26,od26,.func (fnOf "check_gone" "check_gone" (qak qcy) (qai qcy) (qab qcy) .none kV26 dc26 pm26 an26 cd26 ct26),sl26⟩)
  (c26:codeIn K cd26 "check_gone" = true)
  (k26:keepIn K (.ref f26)=true)
  (a27:PySem.W.findIn K (.ref C_Rule) "__init__" = some (some (.ref f27)))
  (i27:PySem.W.isFn K (.ref f27)=true)
  (l27:K.lookup f27=some ⟨oc27,od27,.func (fnOf "__init__" "Rule.__init__" (qak qcp) (qai qcp) (qab qcp) (.ref dT27) kV27 dc27 pm27 an27 cd27 ct27),sl27⟩)
  (c27:codeIn K cd27 "Rule.__init__" = true)
  (k27:keepIn K (.ref f27)=true)
  (d27:K.lookup dT27=some ⟨dk27,dd27,.seq #[.none] dn27,ds27⟩)
  (a28:PySem.W.findIn K (.ref C_Rule) "steps" = some (some (.ref f28)))
  (i28:PySem.W.isFn K (.ref f28)=true)
  (l28:K.lookup f28=some ⟨oc28,od28,.func (fnOf "steps" "Rule.steps" (qak qcz) (qai qcz) (qab qcz) .none kV28 dc28 pm28 an28 cd28 ct28),sl28⟩)
  (c28:codeIn K cd28 "Rule.steps" = true)
  (k28:keepIn K (.ref f28)=true)
  (a29:PySem.W.findIn K (.ref C_Rule) "gone" = some (some (.ref f29)))
  (i29:PySem.W.isFn K (.ref f29)=true)
  (l29:K.lookup f29=some ⟨oc29,od29,.func (fnOf "gone" "Rule.gone" (qak qdp) (qai qdp) (qab qdp) .none kV29 dc29 pm29 an29 cd29 ct29),sl29⟩)
  (c29:codeIn K cd29 "Rule.gone" = true)
  (k29:keepIn K (.ref f29)=true)
  (a30:nsIn K mainGlobals "aged" = some (some (.ref f30)))
  (l30:K.lookup f30=some ⟨oc30,od30,.func (fnOf "aged" "aged" (qak qlq) (qai qlq) (qab qlq) .none kV30 dc30 pm30 an30 cd30 ct30),sl30⟩)
  (c30:codeIn K cd30 "aged" = true)
  (k30:keepIn K (.ref f30)=true)
  (a31:nsIn K mainGlobals "roll_of" = some (some (.ref f31)))
  (l31:K.lookup f31=some ⟨oc31,od31,.func (fnOf "roll_of" "roll_of" (qak qfc) (qai qfc) (qab qfc) .none kV31 dc31 pm31 an31 cd31 ct31),sl31⟩)
  (c31:codeIn K cd31 "roll_of" = true)
  (k31:keepIn K (.ref f31)=true)
  (a32:nsIn K mainGlobals "is_small_word" = some (some (.ref f32)))
  (l32:K.lookup f32=some ⟨oc32,od32,.func (fnOf "is_small_word" "is_small_word" (qak qb3) (qai qb3) (qab qb3) .none kV32 dc32 pm32 an32 cd32 ct32),sl32⟩)
  (c32:codeIn K cd32 "is_small_word" = true)
  (k32:keepIn K (.ref f32)=true)
  (a33:nsIn K mainGlobals "is_name" = some (some (.ref f33)))
  (l33:K.lookup f33=some ⟨oc33,od33,.func (fnOf "is_name" "is_name" (qak qfd) (qai qfd) (qab qfd) .none kV33 dc33 pm33 an33 cd33 ct33),sl33⟩)
  (c33:codeIn K cd33 "is_name" = true)
  (k33:keepIn K (.ref f33)=true)
  (a34:nsIn K mainGlobals "is_mark" = some (some (.ref f34)))
  (l34:K.lookup f34=some ⟨oc34,od34,.func (fnOf "is_mark" "is_mark" (qak qfe) (qai qfe) (qab qfe) .none kV34 dc34 pm34 an34 cd34 ct34),sl34⟩)
  (c34:codeIn K cd34 "is_mark" = true)
  (k34:keepIn K (.ref f34)=true)
  (a35:nsIn K mainGlobals "check_marks" = some (some (.ref f35)))
  (l35:K.lookup f35=some ⟨oc35,od35,.func (fnOf "check_marks" "check_marks" (qak qck) (qai qck) (qab qck) .none kV35 dc35 pm35 an35 cd35 ct35),sl35⟩)
  (c35:codeIn K cd35 "check_marks" = true)
  (k35:keepIn K (.ref f35)=true)
  (a36:PySem.W.findIn K (.ref C_Book) "__init__" = some (some (.ref f36)))
  (i36:PySem.W.isFn K (.ref f36)=true)
  (l36:K.lookup f36=some ⟨oc36,od36,.func (fnOf "__init__" "Book.__init__" (qak qdq) (qai qdq) (qab qdq) .none kV36 dc36 pm36 an36 cd36 ct36),sl36⟩)
  (c36:codeIn K cd36 "Book.__init__" = true)
  (k36:keepIn K (.ref f36)=true)
  (a37:PySem.W.findIn K (.ref C_Book) "enrol" = some (some (.ref f37)))
  (i37:PySem.W.isFn K (.ref f37)=true)
  (l37:K.lookup f37=some ⟨oc37,od37,.func (fnOf "enrol" "Book.enrol" (qak qcf) (qai qcf) (qab qcf) (.ref dT37) kV37 dc37 pm37 an37 cd37 ct37),sl37⟩)
  (c37:codeIn K cd37 "Book.enrol" = true)
  (k37:keepIn K (.ref f37)=true)
  (d37:K.lookup dT37=some ⟨dk37,dd37,.seq #[.none] dn37,ds37⟩)
  (a38:PySem.W.findIn K (.ref C_Book) "check_enrolled" = some (some (.ref f38)))
  (i38:PySem.W.isFn K (.ref f38)=true)
  (l38:K.lookup f38=some ⟨oc38,od38,.func (fnOf "check_enrolled" "Book.check_enrolled" (qak qbb) (qai qbb) (qab qbb) .none kV38 dc38 pm38 an38 cd38 ct38),sl38⟩)
  (c38:codeIn K cd38 "Book.check_enrolled" = true)
  (k38:keepIn K (.ref f38)=true)
  (a39:PySem.W.findIn K (.ref C_Book) "own_roll" = some (some (.ref f39)))
  (i39:PySem.W.isFn K (.ref f39)=true)
  (l39:K.lookup f39=some ⟨oc39,od39,.func (fnOf "own_roll" "Book.own_roll" (qak qb4) (qai qb4) (qab qb4) .none kV39 dc39 pm39 an39 cd39 ct39),sl39⟩)
  (c39:codeIn K cd39 "Book.own_roll" = true)
  (k39:keepIn K (.ref f39)=true)
  (a40:PySem.W.findIn K (.ref C_Book) "put" = some (some (.ref f40)))
  (i40:PySem.W.isFn K (.ref f40)=true)
  (l40:K.lookup f40=some ⟨oc40,od40,.func (fnOf "put" "Book.put" (qak qdh) (qai qdh) (qab qdh) (.ref dT40) kV40 dc40 pm40 an40 cd40 ct40),sl40⟩)
  (c40:codeIn K cd40 "Book.put" = true)
  (k40:keepIn K (.ref f40)=true)
  (d40:K.lookup dT40=some ⟨dk40,dd40,.seq #[.int 1 dt40] dn40,ds40⟩)
  (a41:PySem.W.findIn K (.ref C_Book) "rule" = some (some (.ref f41)))
  (i41:PySem.W.isFn K (.ref f41)=true)
  (l41:K.lookup f41=some ⟨oc41,od41,.func (fnOf "rule" "Book.rule" (qak qdr) (qai qdr) (qab qdr) .none kV41 dc41 pm41 an41 cd41 ct41),sl41⟩)
  (c41:codeIn K cd41 "Book.rule" = true)
  (k41:keepIn K (.ref f41)=true)
  (a42:PySem.W.findIn K (.ref C_Book) "day" = some (some (.ref f42)))
  (i42:PySem.W.isFn K (.ref f42)=true)
  (l42:K.lookup f42=some ⟨oc42,od42,.func (fnOf "day" "Book.day" (qak qek) (qai qek) (qab qek) .none kV42 dc42 pm42 an42 cd42 ct42),sl42⟩)
  (c42:codeIn K cd42 "Book.day" = true)
  (k42:keepIn K (.ref f42)=true)
  (a43:PySem.W.findIn K (.ref C_Book) "edges" = some (some (.ref f43)))
  (i43:PySem.W.isFn K (.ref f43)=true)
  (l43:K.lookup f43=some ⟨oc43,od43,.func (fnOf "edges" "Book.edges" (qak qc0) (qai qc0) (qab qc0) .none kV43 dc43 pm43 an43 cd43 ct43),sl43⟩)
  (c43:codeIn K cd43 "Book.edges" = true)
  (k43:keepIn K (.ref f43)=true)
  (a44:PySem.W.findIn K (.ref C_Book) "names" = some (some (.ref f44)))
  (i44:PySem.W.isFn K (.ref f44)=true)
  (l44:K.lookup f44=some ⟨oc44,od44,.func (fnOf "names" "Book.names" (qak qc1) (qai qc1) (qab qc1) .none kV44 dc44 pm44 an44 cd44 ct44),sl44⟩)
  (c44:codeIn K cd44 "Book.names" = true)
  (k44:keepIn K (.ref f44)=true)
  (a45:PySem.W.findIn K (.ref C_Book) "roll" = some (some (.ref f45)))
  (i45:PySem.W.isFn K (.ref f45)=true)
  (l45:K.lookup f45=some ⟨oc45,od45,.func (fnOf "roll" "Book.roll" (qak qds) (qai qds) (qab qds) .none kV45 dc45 pm45 an45 cd45 ct45),sl45⟩)
  (c45:codeIn K cd45 "Book.roll" = true)
  (k45:keepIn K (.ref f45)=true)
  (a46:nsIn K mainGlobals "_law_cell_at" = some (some (.ref f46)))
  (l46:K.lookup f46=some ⟨oc46,od46,.func (fnOf "_law_cell_at" "_law_cell_at" (qak qca) (qai qca) (qab qca) .none kV46 dc46 pm46 an46 cd46 ct46),sl46⟩)
  (c46:codeIn K cd46 "_law_cell_at" = true)
  (k46:keepIn K (.ref f46)=true)
  (a47:nsIn K mainGlobals "_law_mixed" = some (some (.ref f47)))
  (l47:K.lookup f47=some ⟨oc47,od47,.func (fnOf "_law_mixed" "_law_mixed" (qak qc2) (qai qc2) (qab qc2) .none kV47 dc47 pm47 an47 cd47 ct47),sl47⟩)
  (c47:codeIn K cd47 "_law_mixed" = true)
  (k47:keepIn K (.ref f47)=true)
  (a48:nsIn K mainGlobals "_law_name" = some (some (.ref f48)))
  (l48:K.lookup f48=some ⟨oc48,od48,.func (fnOf "_law_name" "_law_name" (qak qdt) (qai qdt) (qab qdt) .none kV48 dc48 pm48 an48 cd48 ct48),sl48⟩)
  (c48:codeIn K cd48 "_law_name" = true)
  (k48:keepIn K (.ref f48)=true)
  (a49:nsIn K mainGlobals "_law_rule" = some (some (.ref f49)))
  (l49:K.lookup f49=some ⟨oc49,od49,.func (fnOf "_law_rule" "_law_rule" (qak qdu) (qai qdu) (qab qdu) .none kV49 dc49 pm49 an49 cd49 ct49),sl49⟩)
  (c49:codeIn K cd49 "_law_rule" = true)
  (k49:keepIn K (.ref f49)=true)
  (a50:nsIn K mainGlobals "_law_time" = some (some (.ref f50)))
  (l50:K.lookup f50=some ⟨oc50,od50,.func (fnOf "_law_time" "_law_time" (qak qdv) (qai qdv) (qab qdv) .none kV50 dc50 pm50 an50 cd50 ct50),sl50⟩)
  (c50:codeIn K cd50 "_law_time" = true)
  (k50:keepIn K (.ref f50)=true)
  (a51:nsIn K mainGlobals "_law_value" = some (some (.ref f51)))
  (l51:K.lookup f51=some ⟨oc51,od51,.func (fnOf "_law_value" "_law_value" (qak qc3) (qai qc3) (qab qc3) .none kV51 dc51 pm51 an51 cd51 ct51),sl51⟩)
  (c51:codeIn K cd51 "_law_value" = true)
  (k51:keepIn K (.ref f51)=true)
  (a52:nsIn K mainGlobals "_law_many" = some (some (.ref f52)))
  (l52:K.lookup f52=some ⟨oc52,od52,.func (fnOf "_law_many" "_law_many" (qak qdw) (qai qdw) (qab qdw) .none kV52 dc52 pm52 an52 cd52 ct52),sl52⟩)
  (c52:codeIn K cd52 "_law_many" = true)
  (k52:keepIn K (.ref f52)=true)
  (a53:nsIn K mainGlobals "_law_readings" = some (some (.ref f53)))
  (l53:K.lookup f53=some ⟨oc53,od53,.func (fnOf "_law_readings" "_law_readings" (qak qb5) (qai qb5) (qab qb5) .none kV53 dc53 pm53 an53 cd53 ct53),sl53⟩)
  (c53:codeIn K cd53 "_law_readings" = true)
  (k53:keepIn K (.ref f53)=true)
  (a54:nsIn K mainGlobals "_law_refusal" = some (some (.ref f54)))
  (l54:K.lookup f54=some ⟨oc54,od54,.func (fnOf "_law_refusal" "_law_refusal" (qak qcb) (qai qcb) (qab qcb) .none kV54 dc54 pm54 an54 cd54 ct54),sl54⟩)
  (c54:codeIn K cd54 "_law_refusal" = true)
  (k54:keepIn K (.ref f54)=true)
  (a55:nsIn K mainGlobals "_law_right" = some (some (.ref f55)))
  (l55:K.lookup f55=some ⟨oc55,od55,.func (fnOf "_law_right" "_law_right" (qak qc4) (qai qc4) (qab qc4) .none kV55 dc55 pm55 an55 cd55 ct55),sl55⟩)
  (c55:codeIn K cd55 "_law_right" = true)
  (k55:keepIn K (.ref f55)=true)
  (a56:nsIn K mainGlobals "_law_book_right" = some (some (.ref f56)))
  (l56:K.lookup f56=some ⟨oc56,od56,.func (fnOf "_law_book_right" "_law_book_right" (qak qbr) (qai qbr) (qab qbr) .none kV56 dc56 pm56 an56 cd56 ct56),sl56⟩)
  (c56:codeIn K cd56 "_law_book_right" = true)
  (k56:keepIn K (.ref f56)=true)
  (a57:nsIn K mainGlobals "_law_one" = some (some (.ref f57)))
  (l57:K.lookup f57=some ⟨oc57,od57,.func (fnOf "_law_one" "_law_one" (qak qel) (qai qel) (qab qel) .none kV57 dc57 pm57 an57 cd57 ct57),sl57⟩)
  (c57:codeIn K cd57 "_law_one" = true)
  (k57:keepIn K (.ref f57)=true)
  (a58:nsIn K mainGlobals "law" = some (some (.ref f58)))
  (l58:K.lookup f58=some ⟨oc58,od58,.func (fnOf "law" "law" (qak qoq) (qai qoq) (qab qoq) .none kV58 dc58 pm58 an58 cd58 ct58),sl58⟩)
  (c58:codeIn K cd58 "law" = true)
  (k58:keepIn K (.ref f58)=true)
  (pgRoll:PySem.W.plainGet K C_Roll Str.empty=true)
  (hdRoll:PySem.W.hasDictIn K C_Roll=true)
  (poRoll:PySem.W.plainOver K C_Roll=true)
  (saRoll:PySem.W.findIn K (.ref C_Roll) "__setattr__" = some (some (.builtin "object.__setattr__")))
  (mkRoll:PySem.W.makesIn K C_Roll=true)
  (kcRoll:keepIn K (.ref C_Roll)=true)
  (nRoll_kept_rule:PySem.W.findIn K (.ref C_Roll) "kept_rule" = some none)
  (nRoll_kept_day:PySem.W.findIn K (.ref C_Roll) "kept_day" = some none)
  (nRoll_kept_edges:PySem.W.findIn K (.ref C_Roll) "kept_edges" = some none)
  (nRoll_whole_ones:PySem.W.findIn K (.ref C_Roll) "whole_ones" = some none)
  (nRoll_cell_heaps:PySem.W.findIn K (.ref C_Roll) "cell_heaps" = some none)
  (pgRule:PySem.W.plainGet K C_Rule Str.empty=true)
  (hdRule:PySem.W.hasDictIn K C_Rule=true)
  (poRule:PySem.W.plainOver K C_Rule=true)
  (saRule:PySem.W.findIn K (.ref C_Rule) "__setattr__" = some (some (.builtin "object.__setattr__")))
  (mkRule:PySem.W.makesIn K C_Rule=true)
  (kcRule:keepIn K (.ref C_Rule)=true)
  (nRule_kept_steps:PySem.W.findIn K (.ref C_Rule) "kept_steps" = some none)
  (nRule_gone_age:PySem.W.findIn K (.ref C_Rule) "gone_age" = some none)
  (pgBook:PySem.W.plainGet K C_Book Str.empty=true)
  (hdBook:PySem.W.hasDictIn K C_Book=true)
  (poBook:PySem.W.plainOver K C_Book=true)
  (saBook:PySem.W.findIn K (.ref C_Book) "__setattr__" = some (some (.builtin "object.__setattr__")))
  (mkBook:PySem.W.makesIn K C_Book=true)
  (kcBook:keepIn K (.ref C_Book)=true)
  (nBook_kept_rule:PySem.W.findIn K (.ref C_Book) "kept_rule" = some none)
  (nBook_kept_day:PySem.W.findIn K (.ref C_Book) "kept_day" = some none)
  (nBook_kept_edges:PySem.W.findIn K (.ref C_Book) "kept_edges" = some none)
  (nBook_kept_marks:PySem.W.findIn K (.ref C_Book) "kept_marks" = some none)
  (nBook_kept_rolls:PySem.W.findIn K (.ref C_Book) "kept_rolls" = some none)
  (xCBookError:nsIn K mainGlobals "BookError" = some (some (.ref C_BookError)))
  (xCNoNumber:nsIn K mainGlobals "NoNumber" = some (some (.ref C_NoNumber)))
  (xCNoRule:nsIn K mainGlobals "NoRule" = some (some (.ref C_NoRule)))
  (xCBackward:nsIn K mainGlobals "Backward" = some (some (.ref C_Backward)))
  (xCNoName:nsIn K mainGlobals "NoName" = some (some (.ref C_NoName)))
  (xCNoMark:nsIn K mainGlobals "NoMark" = some (some (.ref C_NoMark)))
  (xEBookError:PySem.W.excIn K C_BookError qoa "ValueError.__new__" = true)
  (xKBookError0:PySem.W.findIn K (.ref C_BookError) "__getattribute__" = some (some (.builtin "BaseException.__getattribute__")))
  (xKBookError1:PySem.W.findIn K (.ref C_BookError) "__getattr__" = some none)
  (xKBookError2:PySem.W.findIn K (.ref C_BookError) "__class__" = some (some (.builtin "object.__class__")))
  (xKBookError3:PySem.W.mroIn K C_BookError (.type "object")=some true)
  (xKBookError4:PySem.W.mroIn K C_BookError (.type "BaseException")=some true)
  (xKBookError5:PySem.W.ktsIn K C_BookError "BaseException" = true)
  (xHBookError_BookError:PySem.W.mroIn K C_BookError (.ref C_BookError)=some true)
  (xIBookError_BookError:PySem.W.kitOne K (.ref C_BookError) (.ref C_BookError)=some true)
  (xIBookError_NoNumber:PySem.W.kitOne K (.ref C_BookError) (.ref C_NoNumber)=some false)
  (xIBookError_NoRule:PySem.W.kitOne K (.ref C_BookError) (.ref C_NoRule)=some false)
  (xIBookError_Backward:PySem.W.kitOne K (.ref C_BookError) (.ref C_Backward)=some false)
  (xIBookError_NoName:PySem.W.kitOne K (.ref C_BookError) (.ref C_NoName)=some false)
  (xIBookError_NoMark:PySem.W.kitOne K (.ref C_BookError) (.ref C_NoMark)=some false)
  (xVBookError:PySem.W.kitOne K (.ref C_BookError) (.type "ValueError")=some true)
  (xENoNumber:PySem.W.excIn K C_NoNumber qoa "ValueError.__new__" = true)
  (xKNoNumber0:PySem.W.findIn K (.ref C_NoNumber) "__getattribute__" = some (some (.builtin "BaseException.__getattribute__")))
  (xKNoNumber1:PySem.W.findIn K (.ref C_NoNumber) "__getattr__" = some none)
  (xKNoNumber2:PySem.W.findIn K (.ref C_NoNumber) "__class__" = some (some (.builtin "object.__class__")))
  (xKNoNumber3:PySem.W.mroIn K C_NoNumber (.type "object")=some true)
  (xKNoNumber4:PySem.W.mroIn K C_NoNumber (.type "BaseException")=some true)
  (xKNoNumber5:PySem.W.ktsIn K C_NoNumber "BaseException" = true)
  (xHNoNumber_BookError:PySem.W.mroIn K C_NoNumber (.ref C_BookError)=some true)
  (xINoNumber_BookError:PySem.W.kitOne K (.ref C_NoNumber) (.ref C_BookError)=some true)
  (xHNoNumber_NoNumber:PySem.W.mroIn K C_NoNumber (.ref C_NoNumber)=some true)
  (xINoNumber_NoNumber:PySem.W.kitOne K (.ref C_NoNumber) (.ref C_NoNumber)=some true)
  (xINoNumber_NoRule:PySem.W.kitOne K (.ref C_NoNumber) (.ref C_NoRule)=some false)
  (xINoNumber_Backward:PySem.W.kitOne K (.ref C_NoNumber) (.ref C_Backward)=some false)
  (xINoNumber_NoName:PySem.W.kitOne K (.ref C_NoNumber) (.ref C_NoName)=some false)
  (xINoNumber_NoMark:PySem.W.kitOne K (.ref C_NoNumber) (.ref C_NoMark)=some false)
  (xVNoNumber:PySem.W.kitOne K (.ref C_NoNumber) (.type "ValueError")=some true)
  (xENoRule:PySem.W.excIn K C_NoRule qoa "ValueError.__new__" = true)
  (xKNoRule0:PySem.W.findIn K (.ref C_NoRule) "__getattribute__" = some (some (.builtin "BaseException.__getattribute__")))
  (xKNoRule1:PySem.W.findIn K (.ref C_NoRule) "__getattr__" = some none)
  (xKNoRule2:PySem.W.findIn K (.ref C_NoRule) "__class__" = some (some (.builtin "object.__class__")))
  (xKNoRule3:PySem.W.mroIn K C_NoRule (.type "object")=some true)
  (xKNoRule4:PySem.W.mroIn K C_NoRule (.type "BaseException")=some true)
  (xKNoRule5:PySem.W.ktsIn K C_NoRule "BaseException" = true)
  (xHNoRule_BookError:PySem.W.mroIn K C_NoRule (.ref C_BookError)=some true)
  (xINoRule_BookError:PySem.W.kitOne K (.ref C_NoRule) (.ref C_BookError)=some true)
  (xINoRule_NoNumber:PySem.W.kitOne K (.ref C_NoRule) (.ref C_NoNumber)=some false)
  (xHNoRule_NoRule:PySem.W.mroIn K C_NoRule (.ref C_NoRule)=some true)
  (xINoRule_NoRule:PySem.W.kitOne K (.ref C_NoRule) (.ref C_NoRule)=some true)
  (xINoRule_Backward:PySem.W.kitOne K (.ref C_NoRule) (.ref C_Backward)=some false)
  (xINoRule_NoName:PySem.W.kitOne K (.ref C_NoRule) (.ref C_NoName)=some false)
  (xINoRule_NoMark:PySem.W.kitOne K (.ref C_NoRule) (.ref C_NoMark)=some false)
  (xVNoRule:PySem.W.kitOne K (.ref C_NoRule) (.type "ValueError")=some true)
  (xKBackward0:PySem.W.findIn K (.ref C_Backward) "__getattribute__" = some (some (.builtin "BaseException.__getattribute__")))
  (xKBackward1:PySem.W.findIn K (.ref C_Backward) "__getattr__" = some none)
  (xKBackward2:PySem.W.findIn K (.ref C_Backward) "__class__" = some (some (.builtin "object.__class__")))
  (xKBackward3:PySem.W.mroIn K C_Backward (.type "object")=some true)
  (xKBackward4:PySem.W.mroIn K C_Backward (.type "BaseException")=some true)
  (xKBackward5:PySem.W.ktsIn K C_Backward "BaseException" = true)
  (xHBackward_BookError:PySem.W.mroIn K C_Backward (.ref C_BookError)=some true)
  (xIBackward_BookError:PySem.W.kitOne K (.ref C_Backward) (.ref C_BookError)=some true)
  (xIBackward_NoNumber:PySem.W.kitOne K (.ref C_Backward) (.ref C_NoNumber)=some false)
  (xIBackward_NoRule:PySem.W.kitOne K (.ref C_Backward) (.ref C_NoRule)=some false)
  (xHBackward_Backward:PySem.W.mroIn K C_Backward (.ref C_Backward)=some true)
  (xIBackward_Backward:PySem.W.kitOne K (.ref C_Backward) (.ref C_Backward)=some true)
  (xIBackward_NoName:PySem.W.kitOne K (.ref C_Backward) (.ref C_NoName)=some false)
  (xIBackward_NoMark:PySem.W.kitOne K (.ref C_Backward) (.ref C_NoMark)=some false)
  (xVBackward:PySem.W.kitOne K (.ref C_Backward) (.type "ValueError")=some true)
  (xENoName:PySem.W.excIn K C_NoName qoa "ValueError.__new__" = true)
  (xKNoName0:PySem.W.findIn K (.ref C_NoName) "__getattribute__" = some (some (.builtin "BaseException.__getattribute__")))
  (xKNoName1:PySem.W.findIn K (.ref C_NoName) "__getattr__" = some none)
  (xKNoName2:PySem.W.findIn K (.ref C_NoName) "__class__" = some (some (.builtin "object.__class__")))
  (xKNoName3:PySem.W.mroIn K C_NoName (.type "object")=some true)
  (xKNoName4:PySem.W.mroIn K C_NoName (.type "BaseException")=some true)
  (xKNoName5:PySem.W.ktsIn K C_NoName "BaseException" = true)
  (xHNoName_BookError:PySem.W.mroIn K C_NoName (.ref C_BookError)=some true)
  (xINoName_BookError:PySem.W.kitOne K (.ref C_NoName) (.ref C_BookError)=some true)
  (xINoName_NoNumber:PySem.W.kitOne K (.ref C_NoName) (.ref C_NoNumber)=some false)
  (xINoName_NoRule:PySem.W.kitOne K (.ref C_NoName) (.ref C_NoRule)=some false)
  (xINoName_Backward:PySem.W.kitOne K (.ref C_NoName) (.ref C_Backward)=some false)
  (xHNoName_NoName:PySem.W.mroIn K C_NoName (.ref C_NoName)=some true)
  (xINoName_NoName:PySem.W.kitOne K (.ref C_NoName) (.ref C_NoName)=some true)
  (xINoName_NoMark:PySem.W.kitOne K (.ref C_NoName) (.ref C_NoMark)=some false)
  (xVNoName:PySem.W.kitOne K (.ref C_NoName) (.type "ValueError")=some true)
  (xENoMark:PySem.W.excIn K C_NoMark qoa "ValueError.__new__" = true)
  (xKNoMark0:PySem.W.findIn K (.ref C_NoMark) "__getattribute__" = some (some (.builtin "BaseException.__getattribute__")))
  (xKNoMark1:PySem.W.findIn K (.ref C_NoMark) "__getattr__" = some none)
  (xKNoMark2:PySem.W.findIn K (.ref C_NoMark) "__class__" = some (some (.builtin "object.__class__")))
  (xKNoMark3:PySem.W.mroIn K C_NoMark (.type "object")=some true)
  (xKNoMark4:PySem.W.mroIn K C_NoMark (.type "BaseException")=some true)
  (xKNoMark5:PySem.W.ktsIn K C_NoMark "BaseException" = true)
  (xHNoMark_BookError:PySem.W.mroIn K C_NoMark (.ref C_BookError)=some true)
  (xINoMark_BookError:PySem.W.kitOne K (.ref C_NoMark) (.ref C_BookError)=some true)
  (xINoMark_NoNumber:PySem.W.kitOne K (.ref C_NoMark) (.ref C_NoNumber)=some false)
  (xINoMark_NoRule:PySem.W.kitOne K (.ref C_NoMark) (.ref C_NoRule)=some false)
  (xINoMark_Backward:PySem.W.kitOne K (.ref C_NoMark) (.ref C_Backward)=some false)
  (xINoMark_NoName:PySem.W.kitOne K (.ref C_NoMark) (.ref C_NoName)=some false)
  (xHNoMark_NoMark:PySem.W.mroIn K C_NoMark (.ref C_NoMark)=some true)
  (xINoMark_NoMark:PySem.W.kitOne K (.ref C_NoMark) (.ref C_NoMark)=some true)
  (xVNoMark:PySem.W.kitOne K (.ref C_NoMark) (.type "ValueError")=some true)
  (z_all:nsIn K mainGlobals "all" = some none)
  (z_bool:nsIn K mainGlobals "bool" = some none)
  (z_int:nsIn K mainGlobals "int" = some none)
  (z_isinstance:nsIn K mainGlobals "isinstance" = some none)
  (z_len:nsIn K mainGlobals "len" = some none)
  (z_list:nsIn K mainGlobals "list" = some none)
  (z_max:nsIn K mainGlobals "max" = some none)
  (z_min:nsIn K mainGlobals "min" = some none)
  (z_range:nsIn K mainGlobals "range" = some none)
  (z_set:nsIn K mainGlobals "set" = some none)
  (z_sorted:nsIn K mainGlobals "sorted" = some none)
  (z_str:nsIn K mainGlobals "str" = some none)
  (z_sum:nsIn K mainGlobals "sum" = some none)
  (z_tuple:nsIn K mainGlobals "tuple" = some none)
  (z_zip:nsIn K mainGlobals "zip" = some none)
  (y_MOST_STEPS:nsIn K mainGlobals "MOST_STEPS" = some (some (.int 5 t_MOST_STEPS)))
  (y_LETTERS:nsIn K mainGlobals "LETTERS" = some (some (.str "abcdefghijklmnopqrstuvwxyz" t_LETTERS)))
  (y_LONGEST_NAME:nsIn K mainGlobals "LONGEST_NAME" = some (some (.int 12 t_LONGEST_NAME)))
  (y_LONGEST_MARK:nsIn K mainGlobals "LONGEST_MARK" = some (some (.int 8 t_LONGEST_MARK)))
  (y_MOST_MARKS:nsIn K mainGlobals "MOST_MARKS" = some (some (.int 8 t_MOST_MARKS))):∃ C_Roll C_Rule C_Book C_BookError C_NoNumber C_NoRule C_Backward C_NoName C_NoMark,Txt K mg C_Roll C_Rule C_Book C_BookError C_NoNumber C_NoRule C_Backward C_NoName C_NoMark:=by
 refine ⟨C_Roll,C_Rule,C_Book,C_BookError,C_NoNumber,C_NoRule,C_Backward,C_NoName,C_NoMark,?_⟩;exact ⟨⟨f0,_,qau l0 c0 k0,mg_of X G a0⟩,
  ⟨f1,_,qau l1 c1 k1,mg_of X G a1⟩,
  ⟨f2,_,qau l2 c2 k2,mg_of X G a2⟩,
  ⟨f3,_,qau l3 c3 k3,mg_of X G a3⟩,
  ⟨f4,_,qau l4 c4 k4,mg_of X G a4⟩,
  ⟨f5,_,qau l5 c5 k5,mg_of X G a5⟩,
  ⟨f6,_,qau l6 c6 k6,mg_of X G a6⟩,
  ⟨f7,_,qau l7 c7 k7,mg_of X G a7⟩,
  ⟨f8,_,qau l8 c8 k8,mg_of X G a8⟩,
  ⟨f9,_,qau l9 c9 k9,mg_of X G a9⟩,
  ⟨f10,_,qau l10 c10 k10,mg_of X G a10⟩,
  ⟨f11,_,qau l11 c11 k11,⟨mkRoll,a11,i11,kcRoll⟩⟩,
  ⟨f12,_,dT12,_,_,dt12,⟨⟨_,_,_,_,_,_,_,_,_,rfl,l12,c12⟩,k12⟩,⟨a12,i12,k12⟩,rfl,d12,rfl⟩,
  ⟨f13,_,qau l13 c13 k13,⟨a13,i13,k13⟩⟩,
  ⟨f14,_,qau l14 c14 k14,⟨a14,i14,k14⟩⟩,
  ⟨f15,_,qau l15 c15 k15,⟨a15,i15,k15⟩⟩,
  ⟨f16,_,qau l16 c16 k16,⟨a16,i16,k16⟩⟩,
  ⟨f17,_,qau l17 c17 k17,⟨a17,i17,k17⟩⟩,
  ⟨f18,_,qau l18 c18 k18,⟨a18,i18,k18⟩⟩,
  ⟨f19,_,qau l19 c19 k19,⟨a19,i19,k19⟩⟩,
  ⟨f20,_,qau l20 c20 k20,⟨a20,i20,k20⟩⟩,
  ⟨f21,_,qau l21 c21 k21,mg_of X G a21⟩,
  ⟨f22,_,qau l22 c22 k22,mg_of X G a22⟩,
  ⟨f23,_,qau l23 c23 k23,mg_of X G a23⟩,
  ⟨f24,_,qau l24 c24 k24,mg_of X G a24⟩,
  ⟨f25,_,qau l25 c25 k25,mg_of X G a25⟩,
  ⟨f26,_,qau l26 c26 k26,mg_of X G a26⟩,
  ⟨f27,_,dT27,_,_,⟨⟨_,_,_,_,_,_,_,_,_,rfl,l27,c27⟩,k27⟩,⟨mkRule,a27,i27,kcRule⟩,rfl,d27,rfl⟩,
  ⟨f28,_,qau l28 c28 k28,⟨a28,i28,k28⟩⟩,
  ⟨f29,_,qau l29 c29 k29,⟨a29,i29,k29⟩⟩,
  ⟨f30,_,qau l30 c30 k30,mg_of X G a30⟩,
  ⟨f31,_,qau l31 c31 k31,mg_of X G a31⟩,
  ⟨f32,_,qau l32 c32 k32,mg_of X G a32⟩,
  ⟨f33,_,qau l33 c33 k33,mg_of X G a33⟩,
  ⟨f34,_,qau l34 c34 k34,mg_of X G a34⟩,
  ⟨f35,_,qau l35 c35 k35,mg_of X G a35⟩,
  ⟨f36,_,qau l36 c36 k36,⟨mkBook,a36,i36,kcBook⟩⟩,
  ⟨f37,_,dT37,_,_,⟨⟨_,_,_,_,_,_,_,_,_,rfl,l37,c37⟩,k37⟩,⟨a37,i37,k37⟩,rfl,d37,rfl⟩,
  ⟨f38,_,qau l38 c38 k38,⟨a38,i38,k38⟩⟩,
  ⟨f39,_,qau l39 c39 k39,⟨a39,i39,k39⟩⟩,
  ⟨f40,_,dT40,_,_,dt40,⟨⟨_,_,_,_,_,_,_,_,_,rfl,l40,c40⟩,k40⟩,⟨a40,i40,k40⟩,rfl,d40,rfl⟩,
  ⟨f41,_,qau l41 c41 k41,⟨a41,i41,k41⟩⟩,
  ⟨f42,_,qau l42 c42 k42,⟨a42,i42,k42⟩⟩,
  ⟨f43,_,qau l43 c43 k43,⟨a43,i43,k43⟩⟩,
  ⟨f44,_,qau l44 c44 k44,⟨a44,i44,k44⟩⟩,
  ⟨f45,_,qau l45 c45 k45,⟨a45,i45,k45⟩⟩,
  ⟨f46,_,qau l46 c46 k46,mg_of X G a46⟩,
  ⟨f47,_,qau l47 c47 k47,mg_of X G a47⟩,
  ⟨f48,_,qau l48 c48 k48,mg_of X G a48⟩,
  ⟨f49,_,qau l49 c49 k49,mg_of X G a49⟩,
  ⟨f50,_,qau l50 c50 k50,mg_of X G a50⟩,
  ⟨f51,_,qau l51 c51 k51,mg_of X G a51⟩,
  ⟨f52,_,qau l52 c52 k52,mg_of X G a52⟩,
  ⟨f53,_,qau l53 c53 k53,mg_of X G a53⟩,
  ⟨f54,_,qau l54 c54 k54,mg_of X G a54⟩,
  ⟨f55,_,qau l55 c55 k55,mg_of X G a55⟩,
  ⟨f56,_,qau l56 c56 k56,mg_of X G a56⟩,
  ⟨f57,_,qau l57 c57 k57,mg_of X G a57⟩,
  ⟨f58,_,qau l58 c58 k58,mg_of X G a58⟩,
  ⟨pgRoll,hdRoll,poRoll,saRoll⟩,
  mg_of X G aCRoll,
  nRoll_kept_rule,
  nRoll_kept_day,
  nRoll_kept_edges,
  nRoll_whole_ones,
  nRoll_cell_heaps,
  ⟨pgRule,hdRule,poRule,saRule⟩,
  mg_of X G aCRule,
  nRule_kept_steps,
  nRule_gone_age,
  ⟨pgBook,hdBook,poBook,saBook⟩,
  mg_of X G aCBook,
  nBook_kept_rule,
  nBook_kept_day,
  nBook_kept_edges,
  nBook_kept_marks,
  nBook_kept_rolls,
  mg_of X G xCBookError,
  mg_of X G xCNoNumber,
  mg_of X G xCNoRule,
  mg_of X G xCBackward,
  mg_of X G xCNoName,
  mg_of X G xCNoMark,
  xEBookError,
  ⟨xKBookError0,xKBookError1,xKBookError2,xKBookError3,xKBookError4,xKBookError5⟩,
  xHBookError_BookError,
  xIBookError_BookError,
  xIBookError_NoNumber,
  xIBookError_NoRule,
  xIBookError_Backward,
  xIBookError_NoName,
  xIBookError_NoMark,
  xVBookError,
  xENoNumber,
  ⟨xKNoNumber0,xKNoNumber1,xKNoNumber2,xKNoNumber3,xKNoNumber4,xKNoNumber5⟩,
  xHNoNumber_BookError,
  xINoNumber_BookError,
  xHNoNumber_NoNumber,
  xINoNumber_NoNumber,
  xINoNumber_NoRule,
  xINoNumber_Backward,
  xINoNumber_NoName,
  xINoNumber_NoMark,
  xVNoNumber,
  xENoRule,
  ⟨xKNoRule0,xKNoRule1,xKNoRule2,xKNoRule3,xKNoRule4,xKNoRule5⟩,
  xHNoRule_BookError,
  xINoRule_BookError,
  xINoRule_NoNumber,
  xHNoRule_NoRule,
  xINoRule_NoRule,
  xINoRule_Backward,
  xINoRule_NoName,
  xINoRule_NoMark,
  xVNoRule,
  ⟨xKBackward0,xKBackward1,xKBackward2,xKBackward3,xKBackward4,xKBackward5⟩,
  xHBackward_BookError,
  xIBackward_BookError,
  xIBackward_NoNumber,
  xIBackward_NoRule,
  xHBackward_Backward,
  xIBackward_Backward,
  xIBackward_NoName,
  xIBackward_NoMark,
  xVBackward,
  xENoName,
  ⟨xKNoName0,xKNoName1,xKNoName2,xKNoName3,xKNoName4,xKNoName5⟩,
  xHNoName_BookError,
  xINoName_BookError,
  xINoName_NoNumber,
  xINoName_NoRule,
  xINoName_Backward,
  xHNoName_NoName,
  xINoName_NoName,
  xINoName_NoMark,
  xVNoName,
  xENoMark,
  ⟨xKNoMark0,xKNoMark1,xKNoMark2,xKNoMark3,xKNoMark4,xKNoMark5⟩,
  xHNoMark_BookError,
  xINoMark_BookError,
  xINoMark_NoNumber,
  xINoMark_NoRule,
  xINoMark_Backward,
  xINoMark_NoName,
  xHNoMark_NoMark,
  xINoMark_NoMark,
  xVNoMark,
  PySem.W.mg_none_of X G z_all,
  PySem.W.mg_none_of X G z_bool,
  PySem.W.mg_none_of X G z_int,
  PySem.W.mg_none_of X G z_isinstance,
  PySem.W.mg_none_of X G z_len,
  PySem.W.mg_none_of X G z_list,
  PySem.W.mg_none_of X G z_max,
  PySem.W.mg_none_of X G z_min,
  PySem.W.mg_none_of X G z_range,
  PySem.W.mg_none_of X G z_set,
  PySem.W.mg_none_of X G z_sorted,
  PySem.W.mg_none_of X G z_str,
  PySem.W.mg_none_of X G z_sum,
  PySem.W.mg_none_of X G z_tuple,
  PySem.W.mg_none_of X G z_zip,
  ⟨_,mg_of X G y_MOST_STEPS⟩,
  ⟨_,mg_of X G y_LETTERS⟩,
  ⟨_,mg_of X G y_LONGEST_NAME⟩,
  ⟨_,mg_of X G y_LONGEST_MARK⟩,
  ⟨_,mg_of X G y_MOST_MARKS⟩⟩
section
variable {P:Program} {w:World} {K:Frag} {mg:Str->Option Value} {base:Heap} {C_Roll C_Rule C_Book C_BookError C_NoNumber C_NoRule C_Backward C_NoName C_NoMark:Addr}
theorem qgr (T:Txt K mg C_Roll C_Rule C_Book C_BookError C_NoNumber C_NoRule C_Backward C_NoName C_NoMark):qbz P w K mg base 1 "is_whole" ["thing"] qmh:=by
 obtain ⟨f,fd,F,hm⟩:=T.f_is_whole;have nd:=sc_is_whole.nd;refine F.def_ hm (F.ok sc_is_whole (λvs H Q E h=>?_) (λcdv A outer s H vs Q E hr h=>?_)) (F.binds λ_ _ _ _ _ _ us hl=>by obtain ⟨_,rfl⟩:=L2.lq1 hl;rfl)
 ·obtain ⟨x,rfl,_⟩:=h;rfl
 ·obtain ⟨x,rfl,i,rfl,q⟩:=h
  refine ⟨_,(qaf (qam (qgu (qan qep rfl T.b_isinstance qa3 (qaa (pv 0) (qaa (qeo (v:=.ty "int") rfl T.b_int qwv rfl) qad))) (qi2 (qwb (qan qep rfl T.b_isinstance qa3 (qaa (pv 0) (qaa (qeo (v:=.ty "bool") rfl T.b_bool qpz rfl) qad)))))))),?_⟩;refine ⟨_,rfl,_,_,_,true,rfl,.int i,qhs _,_,rfl,qd8 ?_⟩;exact ⟨_,rfl,_,_,_,false,rfl,.int i,qgw _,_,rfl,q⟩
theorem qq9 (T:Txt K mg C_Roll C_Rule C_Book C_BookError C_NoNumber C_NoRule C_Backward C_NoName C_NoMark):qbz P w K mg base 2 "is_step" ["thing"] qog:=by
 obtain ⟨f,fd,F,hm⟩:=T.f_is_step;have nd:=sc_is_step.nd;refine F.def_ hm (F.ok sc_is_step (λvs H Q E h=>?_) (λcdv A outer s H vs Q E hr h=>?_)) (F.binds λ_ _ _ _ _ _ us hl=>by obtain ⟨_,rfl⟩:=L2.lq1 hl;rfl)
 ·obtain ⟨x,p,rfl,_⟩:=h;rfl
 ·obtain ⟨x,p,rfl,⟨a,rfl,ha⟩,q⟩:=h
  refine ⟨_,(qaf (qam (qgu (qan qep rfl T.b_isinstance qa3 (qaa (pv 0) (qaa (qeo (v:=.ty "tuple") rfl T.b_tuple qsj rfl) qad))) (qgu (qdk qhg (qan qbf rfl T.b_len qd9 (qaa (pv 0) qad)) qae (qat _)) (qgu (qax (qgr T) (hr.mono (by decide)) rfl (qaa (qa4 qbo (pv 0) qae (λ_ _=>rfl)) qad)) (qi2 (qax (qgr T) (hr.mono (by decide)) rfl (qaa (qa4 qbo (pv 0) qae (λ_ _=>rfl)) qad)))))))),?_⟩;refine ⟨_,rfl,_,_,_,true,rfl,.tup ha,kit_tuple _,_,rfl,qd8 ?_⟩;refine ⟨_,rfl,a,_,rfl,.inr (SqT.of ha),rfl,_,rfl,qd8 ?_⟩;refine ⟨_,rfl,a,_,0,_,rfl,rfl,SqT.of ha,rfl,_,rfl,_,rfl,_,rfl,qd8 ?_⟩;exact ⟨_,rfl,a,_,1,_,rfl,rfl,SqT.of ha,rfl,_,rfl,_,rfl,q⟩
theorem qg7 (T:Txt K mg C_Roll C_Rule C_Book C_BookError C_NoNumber C_NoRule C_Backward C_NoName C_NoMark):qbz P w K mg base 3 "check_one_step" ["step"] qgp:=by
 obtain ⟨f,fd,F,hm⟩:=T.f_check_one_step;have nd:=sc_check_one_step.nd;refine F.def_ hm (F.ok sc_check_one_step (λvs H Q E h=>?_) (λcdv A outer s H vs Q E hr h=>?_)) (F.binds λ_ _ _ _ _ _ us hl=>by obtain ⟨_,rfl⟩:=L2.lq1 hl;rfl)
 ·obtain ⟨x,p,rfl,_⟩:=h;rfl
 ·obtain ⟨x,p,rfl,hp,h1,h2,q⟩:=h
  obtain ⟨a,rfl,ha⟩:=id hp;refine ⟨_,(qac (qbc (qd5 (qda (qax (qq9 T) (hr.mono (by decide)) rfl (qaa (pv 0) qad))))
    (qaf qde)
    qao)
   (qac (qbc (qap qjp (qa4 qbo (pv 0) qae (λ_ _=>rfl)) qae (qat _))
    (qaf qde)
    qao)
   (qaf (qbc (qap qjp (qa4 qbo (pv 0) qae (λ_ _=>rfl)) qae (qat _))
    (qaf qde)
    qao)))),?_⟩
  refine ⟨_,rfl,_,p,rfl,hp,_,rfl,qd7 ?_⟩;refine ⟨_,rfl,a,_,0,_,rfl,rfl,SqT.of ha,rfl,_,_,rfl,rfl,_,rfl,qhp (λz=>?_) λ_=>?_⟩
  ·exact absurd (of_decide_eq_true z) (by omega)
  refine ⟨_,rfl,a,_,1,_,rfl,rfl,SqT.of ha,rfl,_,_,rfl,rfl,_,rfl,qhp (λz=>?_) λ_=>q⟩;exact absurd (of_decide_eq_true z) (by omega)
theorem qgs (T:Txt K mg C_Roll C_Rule C_Book C_BookError C_NoNumber C_NoRule C_Backward C_NoName C_NoMark):qbz P w K mg base 1 "check_next_step" ["step", "behind"] qd0:=by
 obtain ⟨f,fd,F,hm⟩:=T.f_check_next_step;have nd:=sc_check_next_step.nd;refine F.def_ hm (F.ok sc_check_next_step (λvs H Q E h=>?_) (λcdv A outer s H vs Q E hr h=>?_)) (F.binds λ_ _ _ _ _ _ us hl=>by obtain ⟨_,_,rfl⟩:=L2.lq2 hl;rfl)
 ·obtain ⟨x,y,p,p',rfl,_⟩:=h;rfl
 ·obtain ⟨x,y,p,p',rfl,⟨a,rfl,ha⟩,⟨b,rfl,hb⟩,h0,h1,h2,q⟩:=h
  refine ⟨_,(qac (qbc (qap qjp (qa4 qbo (pv 1) qae (λ_ _=>rfl)) (qa4 qbo (pv 0) qae (λ_ _=>rfl)) (qat _))
    (qaf qde)
    qao)
   (qaf (qbc (qap qkm (qal qa5 (qa4 qbo (pv 1) qae (λ_ _=>rfl)) (qa4 qbo (pv 0) qae (λ_ _=>rfl))) qae (qat _))
    (qaf qde)
    qao))),?_⟩
  refine ⟨_,rfl,b,_,0,_,rfl,rfl,SqT.of hb,rfl,_,rfl,a,_,0,_,rfl,rfl,SqT.of ha,rfl,_,_,rfl,rfl,_,rfl,qhp (λz=>?_) λ_=>?_⟩
  ·exact absurd (of_decide_eq_true z) (by omega)
  refine ⟨_,rfl,b,_,1,_,rfl,rfl,SqT.of hb,rfl,_,rfl,a,_,1,_,rfl,rfl,SqT.of ha,rfl,_,_,rfl,rfl,(by show 0<p.2;omega),rfl,_,rfl,?_⟩;refine qwt ?_ q;exact congrArg V.int h2
theorem qkb (T:Txt K mg C_Roll C_Rule C_Book C_BookError C_NoNumber C_NoRule C_Backward C_NoName C_NoMark):qbz P w K mg base 4 "check_steps" ["steps"] qfq:=by
 obtain ⟨f,fd,F,hm⟩:=T.f_check_steps;have nd:=sc_check_steps.nd;refine F.def_ hm (F.ok sc_check_steps (λvs H Q E h=>?_) (λcdv A outer s H vs Q E hr h=>?_)) (F.binds λ_ _ _ _ _ _ us hl=>by obtain ⟨_,rfl⟩:=L2.lq1 hl;rfl)
 ·obtain ⟨l,xs,ps,rfl,_⟩:=h;rfl
 ·obtain ⟨l,xs,ps,rfl,hl,hp,G,q⟩:=h
  have hlen:=hp.length;have g1:=G.lo;have g2:=G.hi;refine ⟨_,(qac (qbc (PW.pt (qit (qap qjp (qan qbf rfl T.b_len qd9 (qaa (pv 0) qad)) qae (qat _)) (qfy (qap qrx (qan qbf rfl T.b_len qd9 (qaa (pv 0) qad)) (qen (v:=.int 5) rfl T.c_MOST_STEPS.choose_spec ⟨_,rfl⟩) (qat _)))))
    (qaf qde)
    qao)
   (qac (qev PassesOwn.never rfl (qcd (pv 0)) (qas (i:=1) nd rfl (Or.inl rfl))
    (qaf (qby (qax (qg7 T) (hr.mono (by decide)) rfl (qaa (pv 1) qad)))))
   (qaf (qev PassesOwn.never rfl (qpy rfl T.b_zip (qaa (pv 0) (qaa (qf0 qm2 (pv 0) (qgg qae) qjs) qad))) (qeu rfl (qav (qas (i:=1) nd rfl (Or.inl rfl)) (qav (qas (i:=2) nd rfl (Or.inl rfl)) qc7)))
    (qaf (qby (qax (qgs T) (hr.mono (by decide)) rfl (qaa (pv 1) (qaa (pv 2) qad))))))))),?_⟩
  refine ⟨_,rfl,l,xs,rfl,.inl (SqL.of hl),_,_,rfl,rfl,_,rfl,qhp (λz=>?_) λ_=>?_⟩
  ·exact absurd (of_decide_eq_true z) (by omega)
  refine ⟨_,rfl,l,xs,rfl,.inl (SqL.of hl),_,_,rfl,rfl,_,rfl,qhp (λz=>?_) λ_=>?_⟩
  ·exact absurd (of_decide_eq_true z) (by omega)
  refine ⟨_,rfl,l,rfl,⟨_,SqL.of hl⟩,qdy (xs:=xs) (λi σ H2=>H2=H/\∃ v,σ=[some (.ref l),v,none]) ⟨rfl,none,rfl⟩ (λi σ H2 _ h2=>by rw[h2.1];exact SqL.of hl) ?_ ?_⟩
  ·rintro i x σ H2 hi ⟨rfl,v,rfl⟩
   obtain ⟨p,hpi,hx⟩:=hp.get hi;obtain ⟨e1,e2⟩:=G.each i p hpi;exact ⟨_,rfl,_,p,rfl,hx,e1,e2,rfl,_,rfl⟩
  ·rintro σ H2 ⟨rfl,v,rfl⟩
   refine ⟨_,rfl,_,rfl,_,rfl,_,xs,rfl,SqL.of hl,λl2 H3 n3=>?_⟩;refine ⟨l,l2,xs,_,rfl,SqL.of (n3.same _ _ hl),SqL.of n3.at_,qso (xs:=xs) (ys:=qmy xs (some 1) none) (λi σ H4=>Same H3 H4/\∃ u v,σ=[some (.ref l),u,v]) ⟨Same.refl _,_,_,rfl⟩
    (λi σ H4 h4=>⟨SqL.of (h4.1 _ _ (n3.same _ _ hl)),SqL.of (h4.1 _ _ n3.at_)⟩) ?_ ?_⟩
   ·rintro i x y σ H4 p H5 hx hy n5 ⟨s4,u,v',rfl⟩
    obtain ⟨p1,hp1,hx1⟩:=hp.get hx;have hy':xs[i+1]?=some y:=by
     have:qmy xs (some 1) none=xs.drop 1:=qAx xs;rw[this,List.getElem?_drop] at hy
     rwa [Nat.add_comm] at hy
    obtain ⟨p2,hp2,hx2⟩:=hp.get hy';obtain ⟨e1,e2⟩:=G.next i p1 p2 hp1 hp2;obtain ⟨_,e3⟩:=G.each i p1 hp1;have s5:Same H2 H5:=n3.same.trans (s4.trans n5.same);refine ⟨p,_,rfl,SqT.of n5.at_,rfl,_,_,rfl,_,_,rfl,rfl,?_⟩;exact ⟨_,rfl,_,rfl,x,y,p1,p2,rfl,hx1.same s5,hx2.same s5,e3,e1,e2,s4.trans n5.same,_,_,rfl⟩
   ·rintro i σ H4 _ ⟨s4,_,_,_⟩
    exact q H4 (n3.same.trans s4)
theorem qlr (T:Txt K mg C_Roll C_Rule C_Book C_BookError C_NoNumber C_NoRule C_Backward C_NoName C_NoMark):qbz P w K mg base 2 "check_gone" ["gone", "last_age"] qj3:=by
 obtain ⟨f,fd,F,hm⟩:=T.f_check_gone;have nd:=sc_check_gone.nd;refine F.def_ hm (F.ok sc_check_gone (λvs H Q E h=>?_) (λcdv A outer s H vs Q E hr h=>?_)) (F.binds λ_ _ _ _ _ _ us hl=>by obtain ⟨_,_,rfl⟩:=L2.lq2 hl;rfl)
 ·obtain ⟨g,last,rfl,_⟩:=h;rfl
 ·obtain ⟨g,last,rfl,hg,q⟩:=h
  refine ⟨_,(qac (qbc (qap qhh (pv 0) qdj (qat _))
    (qaf quf)
    qao)
   (qaf (qbc (PW.pt (qit (qd5 (qda (qax (qgr T) (hr.mono (by decide)) rfl (qaa (pv 0) qad)))) (qfy (qap qjp (pv 0) (pv 1) (qat _)))))
    (qaf qde)
    qao))),?_⟩
  cases g with
  | none=>exact ⟨_,rfl,rfl,_,rfl,qd8 q⟩
  | some z =>
   refine ⟨_,rfl,rfl,_,rfl,qd7 ?_⟩;refine ⟨_,rfl,_,rfl,z,rfl,_,rfl,qd7 ?_⟩;refine ⟨_,rfl,_,rfl,_,_,rfl,rfl,_,rfl,qhp (λy=>?_) λ_=>q⟩;exact absurd (of_decide_eq_true y) (by have:=hg z rfl;omega)
theorem qmm (T:Txt K mg C_Roll C_Rule C_Book C_BookError C_NoNumber C_NoRule C_Backward C_NoName C_NoMark):∃ f fd dT o n,qg9 P w K mg base CX0 5 f fd ["self", "steps", "gone"] (qj4 C_Rule)/\FunD K "__init__" "Rule.__init__" qcp (.ref dT) f fd/\Mk K C_Rule f/\fd.defaults=.ref dT/\K.lookup dT=some o/\o.data=.seq #[.none] n:=by
 obtain ⟨f,fd,dT,o,n,F,M,h1,h2,h3⟩:=T.f_Rule_init;have nd:=sc_Rule_init.nd;refine ⟨f,fd,dT,o,n,(F.ok sc_Rule_init (λvs H Q E h=>?_) (λcdv A outer s H vs Q E hr h=>?_)),F,M,h1,h2,h3⟩
 ·obtain ⟨r,dx,l,xs,ps,g,rfl,_⟩:=h;rfl
 ·obtain ⟨r,dx,l,xs,ps,g,rfl,hro,hl,hp,G,hg,k⟩:=h
  have g1:=G.lo;refine ⟨_,(qac (qay (i:=3) nd rfl (Or.inl rfl) (qd6 qea rfl T.b_list qhr (qaa (pv 1) qad)))
   (qac (qby (qax (qkb T) (hr.mono (by decide)) rfl (qaa (pv 3) qad)))
   (qac (qby (qax (qlr T) (hr.mono (by decide)) rfl (qaa (pv 2) (qaa (qa4 qbo (qa4 qa0 (pv 3) (qiv qfp qae) (λ_ _=>rfl)) qae (λ_ _=>rfl)) qad))))
   (qac (qcn (pv 0) (pv 3) rfl)
   (qaf (qcn (pv 0) (pv 2) rfl)))))),?_⟩
  refine ⟨_,rfl,l,xs,rfl,.inl (SqL.of hl),λl' H1 n1=>?_⟩;refine ⟨_,rfl,l',xs,ps,rfl,n1.at_,hp.same n1.same,G,λH2 s2=>?_⟩;have hl2:=s2 _ _ n1.at_;have hp2:=(hp.same n1.same).same s2;have hlen:=hp.length;obtain ⟨v,hv⟩:∃ v,xs[xs.length-1]?=some v:=⟨xs[xs.length-1]'(by omega),List.getElem?_eq_getElem _⟩;obtain ⟨p,hpv,a,rfl,ha⟩:=hp2.get hv;refine ⟨_,rfl,_,rfl,_,rfl,l',xs,-1,_,rfl,rfl,SqL.of hl2,qnf hv,a,_,0,_,rfl,rfl,SqT.of ha,rfl,g,p.1,rfl,hg p (by rw[<- hlen];exact hpv),?_⟩;have hr2:=s2 _ _ (n1.same _ _ hro);have nrl:r≠l':=qah hro n1.fresh;refine ⟨_,rfl,_,rfl,r,C_Rule,dx,[],rfl,hr2,T.cl_Rule,T.na_Rule_kept_steps,(by show 0<1000;decide),λH3 b3 h3=>?_⟩;refine ⟨_,rfl,_,rfl,r,C_Rule,dx,_,rfl,h3,T.cl_Rule,T.na_Rule_gone_age,(by show 1<1000;decide),λH4 b4 h4=>?_⟩;refine k l' _ n1.fresh ⟨⟨dx,h4⟩,xs,b4 _ _ (b3 _ _ hl2 nrl.symm) nrl.symm,(hp2.but b3 hr2 qed).but b4 h3 qed⟩ λb o e hb=>?_
  exact b4 _ _ (b3 _ _ (s2 _ _ (n1.same _ _ e)) hb) hb
theorem qs6 (T:Txt K mg C_Roll C_Rule C_Book C_BookError C_NoNumber C_NoRule C_Backward C_NoName C_NoMark):qyg P w K mg base C_Rule 5 "Rule" ["self", "steps", "gone"] [] (qj4 C_Rule):=by
 obtain ⟨f,fd,dT,o,n,hf,F,M,h1,h2,h3⟩:=qmm (P:=P) (w:=w) (base:=base) T;refine ⟨f,fd,hf,T.mg_Rule,M,qgj h1 h2 h3 λus hl=>?_⟩;obtain ⟨oc,od,kV,doc,pm,an,cdv,ct,osl,rfl,lk,hcd⟩:=F.ex;obtain ⟨_,_,_,rfl⟩:=L2.lq3 (us:=us) (by simpa using hl);exact ⟨_,rfl,rfl⟩
theorem qb6 (T:Txt K mg C_Roll C_Rule C_Book C_BookError C_NoNumber C_NoRule C_Backward C_NoName C_NoMark):qfm P w K mg base C_Rule 1 "steps" ["self"] (qk9 C_Rule):=by
 obtain ⟨f,fd,F,hm⟩:=T.f_Rule_steps;have nd:=sc_Rule_steps.nd;refine ⟨f,fd,(F.ok sc_Rule_steps (λvs H Q E h=>?_) (λcdv A outer s H vs Q E hr h=>?_)),hm,(F.binds λ_ _ _ _ _ _ us hl=>by obtain ⟨_,rfl⟩:=L2.lq1 hl;rfl)⟩
 ·obtain ⟨r,l,ps,g,xs,rfl,_⟩:=h;rfl
 ·obtain ⟨r,l,ps,g,xs,rfl,R,hl,k⟩:=h
  obtain ⟨dx,hob⟩:=R.ob;refine ⟨_,(qaf (qam (qd6 qea rfl T.b_list qhr (qaa (qbe (pv 0) rfl) qad)))),?_⟩;exact ⟨_,rfl,r,C_Rule,dx,_,_,rfl,hob,T.cl_Rule,T.na_Rule_kept_steps,qs1 _ _,l,xs,rfl,.inl (SqL.of hl),k⟩
end
section
variable {P:Program} {w:World} {K:Frag} {mg:Str->Option Value} {base:Heap} {C_Roll C_Rule C_Book C_BookError C_NoNumber C_NoRule C_Backward C_NoName C_NoMark:Addr}
theorem qfv (T:Txt K mg C_Roll C_Rule C_Book C_BookError C_NoNumber C_NoRule C_Backward C_NoName C_NoMark):qfm P w K mg base C_Rule 1 "gone" ["self"] (qqr C_Rule):=by
 obtain ⟨f,fd,F,hm⟩:=T.f_Rule_gone;have nd:=sc_Rule_gone.nd;refine ⟨f,fd,(F.ok sc_Rule_gone (λvs H Q E h=>?_) (λcdv A outer s H vs Q E hr h=>?_)),hm,(F.binds λ_ _ _ _ _ _ us hl=>by obtain ⟨_,rfl⟩:=L2.lq1 hl;rfl)⟩
 ·obtain ⟨r,l,ps,g,rfl,_⟩:=h;rfl
 ·obtain ⟨r,l,ps,g,rfl,R,q⟩:=h
  obtain ⟨dx,hob⟩:=R.ob;refine ⟨_,(qaf (qam (qbe (pv 0) rfl))),?_⟩;exact ⟨_,rfl,r,C_Rule,dx,_,_,rfl,hob,T.cl_Rule,T.na_Rule_gone_age,qzj _ _,q⟩
end
section
variable {P:Program} {w:World} {K:Frag} {mg:Str->Option Value} {base:Heap} {C_Roll C_Rule C_Book C_BookError C_NoNumber C_NoRule C_Backward C_NoName C_NoMark:Addr}
theorem qif (T:Txt K mg C_Roll C_Rule C_Book C_BookError C_NoNumber C_NoRule C_Backward C_NoName C_NoMark):qbz P w K mg base 1 "floored" ["number", "width"] qoh:=by
 obtain ⟨f,fd,F,hm⟩:=T.f_floored;have nd:=sc_floored.nd;refine F.def_ hm (F.ok sc_floored (λvs H Q E h=>?_) (λcdv A outer s H vs Q E hr h=>?_)) (F.binds λ_ _ _ _ _ _ us hl=>by obtain ⟨_,_,rfl⟩:=L2.lq2 hl;rfl)
 ·obtain ⟨n,w',rfl,_⟩:=h;rfl
 ·obtain ⟨n,w',rfl,h1,h2,h3,h4,q⟩:=h
  have hb:=qzh h1 (by decide:(0:Int)<=10 ^ 46) h3 h4;refine ⟨_,(qaf (qam (qal qc8 (qal qsg (pv 0) (pv 1)) (pv 1)))),?_⟩;exact ⟨_,rfl,_,rfl,_,_,rfl,rfl,⟨by omega,by omega⟩,_,rfl,_,_,rfl,rfl,⟨⟨by omega,by omega⟩,by omega,by omega⟩,q⟩
theorem qor (T:Txt K mg C_Roll C_Rule C_Book C_BookError C_NoNumber C_NoRule C_Backward C_NoName C_NoMark):qbz P w K mg base 2 "gone_cut" ["rule", "day"] (qh0 C_Rule):=by
 obtain ⟨f,fd,F,hm⟩:=T.f_gone_cut;have nd:=sc_gone_cut.nd;refine F.def_ hm (F.ok sc_gone_cut (λvs H Q E h=>?_) (λcdv A outer s H vs Q E hr h=>?_)) (F.binds λ_ _ _ _ _ _ us hl=>by obtain ⟨_,_,rfl⟩:=L2.lq2 hl;rfl)
 ·obtain ⟨r,l,ps,g,d,rfl,_⟩:=h;rfl
 ·obtain ⟨r,l,ps,g,d,rfl,R,Pg,hd,q⟩:=h
  obtain ⟨dx,hob⟩:=R.ob;obtain ⟨xs,hl,hx⟩:=R.ls;have n1:(rf l (gv g)).lookup ("gone" : Str)=none:=qmg _ _ (by decide +kernel) (by decide +kernel);have n2:(rf l (gv g)).lookup ("steps" : Str)=none:=qmg _ _ (by decide +kernel) (by decide +kernel);obtain ⟨p,hp,ep⟩:=Pg.last;have hlen:=hx.length;refine ⟨_,(qac (qay (i:=2) nd rfl (Or.inl rfl) (qa9 (pv 0) T.cl_Rule (qfv T) (hr.mono (by decide))))
   (qac (qbc (qap qhh (pv 2) qdj (qat _))
    (qaf (qam qdj))
    qao)
   (qaf (qam (qax (qif T) (hr.mono (by decide)) rfl (qaa (qal qfo (pv 1) (pv 2)) (qaa (qa4 qbo (qa4 qa0 (qa9 (pv 0) T.cl_Rule (qb6 T) (hr.mono (by decide))) (qiv qfp qae) (λ_ _=>rfl)) qae (λ_ _=>rfl)) qad))))))),?_⟩
  refine ⟨_,rfl,r,dx,_,rfl,hob,n1,r,l,ps,g,rfl,R,?_⟩
  cases g with
  | none=>exact ⟨_,rfl,rfl,_,rfl,qd8 (q H (Same.refl _))⟩
  | some z =>
   refine ⟨_,rfl,rfl,_,rfl,qd7 ?_⟩;refine ⟨_,rfl,_,rfl,_,_,rfl,rfl,?_⟩;refine ⟨_,rfl,r,dx,_,rfl,hob,n2,r,l,ps,_,xs,rfl,R,hl,λp1 H1 m1=>?_⟩;obtain ⟨v,hv,a,rfl,ha⟩:=hx.get' hp;have hz:=Pg.gb z rfl;have hs:=Pg.size _ p hp;unfold Bd at hd;refine ⟨_,rfl,p1,xs,-1,_,rfl,rfl,SqL.of m1.at_,qnf (by rw[hlen];exact hv),a,_,1,_,rfl,rfl,SqT.of (m1.same _ _ ha),rfl,d-z,p.2,rfl,hs.2.2.1,hs.2.2.2,by omega,by omega,?_⟩;have:=q H1 m1.same;rw[ep] at this;exact this
theorem qdi (T:Txt K mg C_Roll C_Rule C_Book C_BookError C_NoNumber C_NoRule C_Backward C_NoName C_NoMark):qbz P w K mg base 3 "edges_at" ["rule", "day"] (qh1 C_Rule):=by
 obtain ⟨f,fd,F,hm⟩:=T.f_edges_at;have nd:=sc_edges_at.nd;refine F.def_ hm (F.ok sc_edges_at (λvs H Q E h=>?_) (λcdv A outer s H vs Q E hr h=>?_)) (F.binds λ_ _ _ _ _ _ us hl=>by obtain ⟨_,_,rfl⟩:=L2.lq2 hl;rfl)
 ·obtain ⟨r,l,ps,g,d,rfl,_⟩:=h;rfl
 ·obtain ⟨r,l,ps,g,d,rfl,R,Pg,hd,q⟩:=h
  obtain ⟨dx,hob⟩:=R.ob;obtain ⟨xs,hl,hx⟩:=R.ls;have n2:(rf l (gv g)).lookup ("steps" : Str)=none:=qmg _ _ (by decide +kernel) (by decide +kernel);have hlen:=hx.length;have h5:=Pg.good.hi;refine ⟨_,(qac (qhb (i:=2) (vars:=["age", "width"]) (frees:=["day"]) (fv:=[1]) nd rfl (Or.inl rfl) rfl (qo2 rfl rfl (by decide +kernel) (by decide +kernel) (by intro p hp;simp only[List.mem_cons,List.not_mem_nil,or_false] at hp;rcases hp with rfl<;>rfl) rfl) ⟨⟨rfl,.inl rfl,rfl,.inl rfl⟩,trivial⟩ (qcd (qa9 (pv 0) T.cl_Rule (qb6 T) (hr.mono (by decide)))) (qgl (by decide) (by decide)) (λ_ _ _ _=>(qeu rfl (qav (qas (i:=0) (show (["age", "width", "day"]:List Str).Nodup by decide +kernel) rfl (Or.inl rfl)) (qav (qas (i:=1) (show (["age", "width", "day"]:List Str).Nodup by decide +kernel) rfl (Or.inl rfl)) qc7)))) (λ_ _ _ _=>qci) (λ_ _ _ _=>(qax (qif T) (hr.mono (by decide)) rfl (qaa (qal qfo (pv 2) (pv 0)) (qaa (pv 1) qad)))))
   (qaf (qam (qal quz (pv 2) (qc9 (qaa (qax (qor T) (hr.mono (by decide)) rfl (qaa (pv 0) (qaa (pv 1) qad))) qad)))))),?_⟩
  refine ⟨_,rfl,r,dx,_,rfl,hob,n2,r,l,ps,g,xs,rfl,R,hl,λp1 H1 m1=>?_⟩;refine ⟨p1,rfl,⟨_,SqL.of m1.at_⟩,qp1 (xs:=xs) (λi ys H2=>Same H1 H2/\ys=(ps.take i).map λp=>V.int (cut d p.1 p.2)) (Nat.le_of_lt (qa6 (by omega))) ⟨Same.refl _,rfl⟩ (λi ys H2 h2=>⟨SqL.of (h2.1 _ _ m1.at_),by rw[h2.2];simp;omega⟩) ?_ ?_⟩
  ·rintro i x ys H2 hi ⟨s2,rfl⟩
   obtain ⟨p,hpi,a,rfl,ha⟩:=hx.get hi;have hs:=Pg.size i p hpi;unfold Bd at hd;refine ⟨a,_,rfl,SqT.of (s2 _ _ (m1.same _ _ ha)),rfl,_,_,rfl,_,_,rfl,rfl,qsl (qd8 ?_)⟩;refine ⟨_,rfl,_,rfl,_,_,rfl,rfl,_,rfl,d-p.1,p.2,rfl,hs.2.2.1,hs.2.2.2,by omega,by omega,s2,?_⟩;exact (qzk _ ps i p hpi).symm
  ·rintro ys H2 c1 ⟨s2,rfl⟩ hc
   have nc:=qbj (o:=.lst ((ps.take xs.length).map λp=>V.int (cut d p.1 p.2))) hc
   generalize upd H2 c1 _=H3 at nc ⊢
   have s3:Same H H3:=m1.same.trans (s2.trans nc.same);rw[hlen,List.take_length] at nc;refine ⟨_,rfl,_,rfl,_,rfl,r,l,ps,g,d,rfl,R.same s3,Pg,hd,λH4 s4=>⟨by show 1<=sizeLine;decide,λc2 H5 n5=>?_⟩⟩;refine ⟨c1,c2,_,_,rfl,rfl,n5.same _ _ (s4 _ _ nc.at_),n5.at_,Nat.le_of_lt (qa6 (by simp;omega)),λz H6 n6=>?_⟩;exact q z H6 (New.after (s3.trans (s4.trans n5.same)) n6)
end
section
variable {P:Program} {w:World} {K:Frag} {mg:Str->Option Value} {base:Heap} {C_Roll C_Rule C_Book C_BookError C_NoNumber C_NoRule C_Backward C_NoName C_NoMark:Addr}
theorem qra (T:Txt K mg C_Roll C_Rule C_Book C_BookError C_NoNumber C_NoRule C_Backward C_NoName C_NoMark):qbz P w K mg base 1 "is_gone" ["edges", "time"] qi8:=by
 obtain ⟨f,fd,F,hm⟩:=T.f_is_gone;have nd:=sc_is_gone.nd;refine F.def_ hm (F.ok sc_is_gone (λvs H Q E h=>?_) (λcdv A outer s H vs Q E hr h=>?_)) (F.binds λ_ _ _ _ _ _ us hl=>by obtain ⟨_,_,rfl⟩:=L2.lq2 hl;rfl)
 ·obtain ⟨e,es,ge,t,rfl,_⟩:=h;rfl
 ·obtain ⟨e,es,ge,t,rfl,he,q1,q2⟩:=h
  have hlast:(es.map V.int ++ [gv ge])[(es.map V.int ++ [gv ge]).length-1]?=some (gv ge):=by simp
  refine ⟨_,(qaf (qam (qgu (qdk qjq (qa4 qa0 (pv 0) (qiv qfp qae) (λ_ _=>rfl)) qdj (qat _)) (qi2 (qdk qjp (pv 1) (qa4 qa0 (pv 0) (qiv qfp qae) (λ_ _=>rfl)) (qat _)))))),?_⟩
  cases ge with
  | none =>
   walk_at "r"
   exact q2 fun ⟨z,e,_⟩=>by cases e
  | some y =>
   walk_at "r"
   show Q (.bl (decide (t<y))) H
   by_cases h:t<y
   ·rw[decide_eq_true h];exact q1 ⟨y,rfl,h⟩
   ·rw[decide_eq_false h];exact q2 fun ⟨z,e,h'⟩=>by cases e;exact h h'
theorem qos (T:Txt K mg C_Roll C_Rule C_Book C_BookError C_NoNumber C_NoRule C_Backward C_NoName C_NoMark):qbz P w K mg base 2 "width_at" ["rule", "edges", "time"] (qh3 C_Rule):=by
 obtain ⟨f,fd,F,hm⟩:=T.f_width_at;have nd:=sc_width_at.nd;refine F.def_ hm (F.ok sc_width_at (λvs H Q E h=>?_) (λcdv A outer s H vs Q E hr h=>?_)) (F.binds λ_ _ _ _ _ _ us hl=>by obtain ⟨_,_,_,rfl⟩:=L2.lq3 hl;rfl)
 ·obtain ⟨r,l,ps,g,e,es,ge,t,e0,rfl,_⟩:=h;rfl
 ·obtain ⟨r,l,ps,g,e,es,ge,t,e0,rfl,R,he,hl,h1,h5,h0,hlt,q⟩:=h
  obtain ⟨dx,hob⟩:=R.ob;obtain ⟨xs,hxl,hx⟩:=R.ls;have n2:(rf l (gv g)).lookup ("steps" : Str)=none:=qmg _ _ (by decide +kernel) (by decide +kernel);have hlen:=hx.length;refine ⟨_,(qac (qhb (i:=3) (vars:=["step", "edge"]) (frees:=["time"]) (fv:=[2]) nd rfl (Or.inl rfl) rfl (qo2 rfl rfl (by decide +kernel) (by decide +kernel) (by intro p hp;simp only[List.mem_cons,List.not_mem_nil,or_false] at hp;rcases hp with rfl<;>rfl) rfl) ⟨⟨rfl,.inl rfl,rfl,.inl rfl⟩,trivial⟩ (qpy rfl T.b_zip (qaa (qa9 (pv 0) T.cl_Rule (qb6 T) (hr.mono (by decide))) (qaa (pv 1) qad))) (qgl (by decide) (by decide)) (λ_ _ _ _=>(qeu rfl (qav (qas (i:=0) (show (["step", "edge", "time"]:List Str).Nodup by decide +kernel) rfl (Or.inl rfl)) (qav (qas (i:=1) (show (["step", "edge", "time"]:List Str).Nodup by decide +kernel) rfl (Or.inl rfl)) qc7)))) (λ_ _ _ _=>(qux (qap qrx (pv 1) (pv 2) (qat _)))) (λ_ _ _ _=>(qa4 (show IxR _ (qzz K) from qbo) (pv 0) qae (λ_ _=>rfl))))
   (qaf (qam (qa4 qa0 (pv 3) (qiv qfp qae) (λ_ _=>rfl))))),?_⟩
  refine ⟨_,rfl,r,dx,_,rfl,hob,n2,r,l,ps,g,xs,rfl,R,hxl,λp1 H1 m1=>?_⟩;have he1:=m1.same _ _ he;refine ⟨_,rfl,p1,e,xs,_,rfl,SqL.of m1.at_,SqL.of he1,?_⟩;refine qvh (xs:=xs) (λi zs H2=>Same H1 H2/\zs=((((((ps.map (·.2)).zip es).take i).filter λx=>decide (t<x.2)).map (·.1)).map V.int)) (Nat.le_of_lt (qa6 (by omega))) ⟨Same.refl _,rfl⟩ (λi zs H2 h2=>⟨SqL.of (h2.1 _ _ m1.at_),SqL.of (h2.1 _ _ he1),by rw[h2.2,List.length_map];exact qxq _ _ _ _⟩) ?_ ?_
  ·rintro i x y zs H2 p H3 hxi hyi n3 ⟨s2,rfl⟩
   obtain ⟨pi,hpi,a,rfl,ha⟩:=hx.get hxi;have hi:i<es.length:=by have:=(List.getElem?_eq_some_iff.mp hpi).1;omega
   have hy:y=V.int es[i]:=by
    rw[List.getElem?_append_left (by simpa using hi),List.getElem?_map,List.getElem?_eq_getElem hi] at hyi;exact (Option.some.inj hyi).symm
   subst hy;have hw:(ps.map (·.2))[i]?=some pi.2:=by rw[List.getElem?_map,hpi];rfl
   have ha3:H3 a=some (.tup [.int pi.1,.int pi.2]):=n3.same _ _ (s2 _ _ (m1.same _ _ ha))
   walk_at "r"
   refine qhp (λz=>?_) λz=>?_
   ·walk_at "r"
    refine ⟨s2.trans n3.same,?_⟩;have:=qAy hw (List.getElem?_eq_getElem hi) (by simpa using z:t<es[i]);rw[this,List.map_append];rfl
   ·refine ⟨s2.trans n3.same,?_⟩
    rw[qAz hw (List.getElem?_eq_getElem hi) (by simpa using z)]
  ·rintro i zs H2 p H3 hi ⟨s2,rfl⟩ n3
   have ez:((((ps.map (·.2)).zip es).take i).filter λx=>decide (t<x.2)).map (·.1)=wl (ps.map (·.2)) es t:=qxp (by rw[hi];simp only[List.length_zip,List.length_map,List.length_append,List.length_singleton];omega);rw[ez] at n3;have hne:1<=(wl (ps.map (·.2)) es t).length:=qxo (w0:=(ps[0]'(by omega)).2) (by rw[List.getElem?_map,List.getElem?_eq_getElem (by omega:0<ps.length)];rfl) h0 hlt;obtain ⟨w',hw'⟩:∃ w',(wl (ps.map (·.2)) es t)[(wl (ps.map (·.2)) es t).length-1]?=some w':=⟨_,List.getElem?_eq_getElem (by omega)⟩;have hlast:((wl (ps.map (·.2)) es t).map V.int)[((wl (ps.map (·.2)) es t).map V.int).length-1]?=some (V.int w'):=by rw[List.length_map,List.getElem?_map,hw'];rfl
   walk_at "r"
   exact q w' H3 hw' (m1.same.trans (s2.trans n3.same))
theorem qls (T:Txt K mg C_Roll C_Rule C_Book C_BookError C_NoNumber C_NoRule C_Backward C_NoName C_NoMark):qbz P w K mg base 3 "cell_at" ["rule", "edges", "time"] (qi9 C_Rule):=by
 obtain ⟨f,fd,F,hm⟩:=T.f_cell_at;have nd:=sc_cell_at.nd;refine F.def_ hm (F.ok sc_cell_at (λvs H Q E h=>?_) (λcdv A outer s H vs Q E hr h=>?_)) (F.binds λ_ _ _ _ _ _ us hl=>by obtain ⟨_,_,_,rfl⟩:=L2.lq3 hl;rfl)
 ·obtain ⟨r,l,ps,g,e,es,ge,t,rfl,_⟩:=h;rfl
 ·obtain ⟨r,l,ps,g,e,es,ge,t,rfl,R,he,hl,h1,h5,hsz,ht,q⟩:=h
  obtain ⟨e0,h0⟩:∃ e0,es[0]?=some e0:=⟨_,List.getElem?_eq_getElem (by omega)⟩;have hi0:atI (es.map V.int ++ [gv ge]) 0=some (.int e0):=qfs (j:=0) (by rw[List.getElem?_append_left (by simp;omega),List.getElem?_map,h0];rfl);refine ⟨_,(qac (qbc (qap qwe (pv 2) (qa4 qa0 (pv 1) qae (λ_ _=>rfl)) (qat _))
    (qaf (qam (qb0 (qaa (pv 2) (qaa qae qad)))))
    qao)
   (qac (qbc (qda (qax (qra T) (hr.mono (by decide)) rfl (qaa (pv 1) (qaa (pv 2) qad))))
    (qaf (qam qdj))
    qao)
   (qac (qay (i:=3) nd rfl (Or.inl rfl) (qax (qos T) (hr.mono (by decide)) rfl (qaa (pv 0) (qaa (pv 1) (qaa (pv 2) qad)))))
   (qaf (qam (qb0 (qaa (qax (qif T) (hr.mono (by decide)) rfl (qaa (pv 2) (qaa (pv 3) qad))) (qaa (pv 3) qad)))))))),?_⟩
  walk_at "r"
  refine qhp (λz=>?_) λz=>?_
  ·simp at z
   walk_at "r";intro p H1 n1
   refine q (.ref p) (some (t,0)) H1 (λx hx=>?_) ⟨p,rfl,n1.at_⟩ n1.same;rw[h0] at hx;cases hx;exact ⟨λ_=>rfl,λh=>absurd z (by omega)⟩
  ·simp at z
   walk_at "r"
   refine ⟨e,es,ge,t,rfl,he,λhg=>?_,λhg=>?_⟩
   ·walk_at "r"
    refine q .non none H (λx hx=>?_) rfl (Same.refl _);rw[h0] at hx;cases hx;exact ⟨λh=>absurd z (by omega),λ_=>⟨λ_=>rfl,λn=>absurd hg n⟩⟩
   ·walk_at "r"
    refine ⟨r,l,ps,g,e,es,ge,t,e0,rfl,R,he,hl,h1,h5,h0,z,λw' H1 hw' s1=>?_⟩;have hwm:w'∈ps.map (·.2):=qqt (List.mem_of_getElem? hw');obtain ⟨pi,hpi,rfl⟩:=List.mem_map.mp hwm;obtain ⟨i,hi,ei⟩:=List.getElem_of_mem hpi;have hs:=hsz i pi (by rw[<- ei];exact List.getElem?_eq_getElem hi);refine ⟨_,rfl,_,rfl,t,pi.2,rfl,hs.2.2.1,hs.2.2.2,ht.1,ht.2,?_⟩
    walk_at "r";intro p H2 n2
    refine q (.ref p) (some (t / pi.2*pi.2,pi.2)) H2 (λx hx=>?_) ⟨p,rfl,n2.at_⟩ (s1.trans n2.same);rw[h0] at hx;cases hx;exact ⟨λh=>absurd z (by omega),λ_=>⟨λn=>absurd n hg,λ_=>⟨pi.2,hw',rfl⟩⟩⟩
end
section
variable {P:Program} {w:World} {K:Frag} {mg:Str->Option Value} {base:Heap} {C_Roll C_Rule C_Book C_BookError C_NoNumber C_NoRule C_Backward C_NoName C_NoMark:Addr}
theorem qrb (T:Txt K mg C_Roll C_Rule C_Book C_BookError C_NoNumber C_NoRule C_Backward C_NoName C_NoMark):qbz P w K mg base 1 "heap_of" ["runs"] qh7:=by
 obtain ⟨f,fd,F,hm⟩:=T.f_heap_of;have nd:=sc_heap_of.nd;refine F.def_ hm (F.ok sc_heap_of (λvs H Q E h=>?_) (λcdv A outer s H vs Q E hr h=>?_)) (F.binds λ_ _ _ _ _ _ us hl=>by obtain ⟨_,rfl⟩:=L2.lq1 hl;rfl)
 ·obtain ⟨l,xs,rs,rfl,_⟩:=h;rfl
 ·obtain ⟨l,xs,rs,rfl,hl,hp,ok,h2,q0,q⟩:=h
  have hlen:=hp.length;refine ⟨_,(qac (qbc (qap qhg (qan qbf rfl T.b_len qd9 (qaa (pv 0) qad)) qae (qat _))
    (qaf (qam qdj))
    qao)
   (qac (qhb (i:=1) (vars:=["value", "many"]) (frees:=[]) (fv:=[]) nd rfl (Or.inl rfl) rfl (qo2 rfl rfl (by decide +kernel) (by decide +kernel) (by intro p hp;cases hp) rfl) trivial (qcd (pv 0)) (qgl (by decide) (by decide)) (λ_ _ _ _=>(qeu rfl (qav (qas (i:=0) (show (["value", "many"]:List Str).Nodup by decide +kernel) rfl (Or.inl rfl)) (qav (qas (i:=1) (show (["value", "many"]:List Str).Nodup by decide +kernel) rfl (Or.inl rfl)) qc7)))) (λ_ _ _ _=>qci) (λ_ _ _ _=>(pv 0)))
   (qac (qay (i:=2) nd rfl (Or.inl rfl) (qan (qm4 rfl) rfl T.b_sum qtm (qaa (qky (vars:=["value", "many"]) (frees:=[]) (fv:=[]) rfl (qo2 rfl rfl (by decide +kernel) (by decide +kernel) (by intro p hp;cases hp) rfl) trivial (qcd (pv 0)) (qgl (by decide) (by decide)) (λ_ _ _ _=>(qeu rfl (qav (qas (i:=0) (show (["value", "many"]:List Str).Nodup by decide +kernel) rfl (Or.inl rfl)) (qav (qas (i:=1) (show (["value", "many"]:List Str).Nodup by decide +kernel) rfl (Or.inl rfl)) qc7)))) (λ_ _ _ _=>qci) (λ_ _ _ _=>(pv 1))) qad)))
   (qac (qay (i:=3) nd rfl (Or.inl rfl) (qan (qm4 rfl) rfl T.b_sum qtm (qaa (qky (vars:=["value", "many"]) (frees:=[]) (fv:=[]) rfl (qo2 rfl rfl (by decide +kernel) (by decide +kernel) (by intro p hp;cases hp) rfl) trivial (qcd (pv 0)) (qgl (by decide) (by decide)) (λ_ _ _ _=>(qeu rfl (qav (qas (i:=0) (show (["value", "many"]:List Str).Nodup by decide +kernel) rfl (Or.inl rfl)) (qav (qas (i:=1) (show (["value", "many"]:List Str).Nodup by decide +kernel) rfl (Or.inl rfl)) qc7)))) (λ_ _ _ _=>qci) (λ_ _ _ _=>(qal qc8 (pv 0) (pv 1)))) qad)))
   (qaf (qam (qb0 (qaa (pv 2) (qaa (pv 3) (qaa (qan (qp6 rfl) rfl T.b_min qtq (qaa (pv 1) qad)) (qaa (qan (qp5 rfl) rfl T.b_max qp7 (qaa (pv 1) qad)) qad))))))))))),?_⟩
  walk_at "r"
  refine qhp (λz=>?_) λz=>?_
  ·have z':xs.length=0:=by simpa using z
   exact q0 (List.length_eq_zero_iff.mp (by omega))
  ·have z':¬ xs.length=0:=by simpa using z
   have hne:rs≠[]:=λe=>z' (by rw[hlen,e];rfl)
   have h1:1<=rs.length:=by omega
   have mulB:∀ p∈rs,CMulB p.1 p.2:=λp hp=>by
    have:=ok p hp;unfold qrr at this;exact ⟨⟨by omega,by omega⟩,by omega,by omega⟩
   refine ⟨_,rfl,l,rfl,⟨_,SqL.of hl⟩,qj5 (λp=>p.1) hl hp h2 (λp hp Q' hq=>⟨_,rfl,hq⟩) λa1 H1 n1=>?_⟩;have hl1:=n1.same _ _ hl;have hp1:=hp.same n1.same;refine ⟨_,rfl,l,rfl,⟨_,SqL.of hl1⟩,qj5 (λp=>p.2) hl1 hp1 h2 (λp hp Q' hq=>⟨_,rfl,hq⟩) λa2 H2 n2=>⟨a2,_,rfl,SqL.of n2.at_,?_⟩⟩;have hl2:=n2.same _ _ hl1;have hp2:=hp1.same n2.same;refine ⟨_,rfl,l,rfl,⟨_,SqL.of hl2⟩,qj5 (λp=>p.1*p.2) hl2 hp2 h2 (λp hp Q' hq=>⟨_,rfl,_,rfl,_,_,rfl,rfl,mulB p hp,hq⟩) λa3 H3 n3=>⟨a3,_,rfl,SqL.of n3.at_,?_⟩⟩;have hv:=n3.same _ _ (n2.same _ _ n1.at_);refine ⟨_,rfl,_,rfl,_,rfl,a1,_,rfl,SqL.of hv,by simp;omega,λlo hlo hlo'=>?_⟩;refine ⟨_,rfl,a1,_,rfl,SqL.of hv,by simp;omega,λhi hhi hhi'=>?_⟩
   walk_at "r";intro a H5 n5
   exact q hne a _ _ lo hi H5 ⟨rfl,rfl,hlo,hlo',hhi,hhi'⟩ (New.after (n1.same.trans (n2.same.trans n3.same)) n5)
theorem qs7 (T:Txt K mg C_Roll C_Rule C_Book C_BookError C_NoNumber C_NoRule C_Backward C_NoName C_NoMark):qbz P w K mg base 1 "poured" ["one", "other"] qld:=by
 obtain ⟨f,fd,F,hm⟩:=T.f_poured;have nd:=sc_poured.nd;refine F.def_ hm (F.ok sc_poured (λvs H Q E h=>?_) (λcdv A outer s H vs Q E hr h=>?_)) (F.binds λ_ _ _ _ _ _ us hl=>by obtain ⟨_,_,rfl⟩:=L2.lq2 hl;rfl)
 ·obtain ⟨a,b,m,t,lo,hi,m',t',lo',hi',rfl,_⟩:=h;rfl
 ·obtain ⟨a,b,m,t,lo,hi,m',t',lo',hi',rfl,ha,hb,q⟩:=h
  refine ⟨_,(qaf (qam (qb0 (qaa (qal qbn (qa4 qbo (pv 0) qae (λ_ _=>rfl)) (qa4 qbo (pv 1) qae (λ_ _=>rfl))) (qaa (qal qbn (qa4 qbo (pv 0) qae (λ_ _=>rfl)) (qa4 qbo (pv 1) qae (λ_ _=>rfl))) (qaa (qan (qph rfl) rfl T.b_min qtq (qaa (qa4 qbo (pv 0) qae (λ_ _=>rfl)) (qaa (qa4 qbo (pv 1) qae (λ_ _=>rfl)) qad))) (qaa (qan (qkn rfl) rfl T.b_max qp7 (qaa (qa4 qbo (pv 0) qae (λ_ _=>rfl)) (qaa (qa4 qbo (pv 1) qae (λ_ _=>rfl)) qad))) qad))))))),?_⟩
  walk_at "r";intro p H1 n1
  exact q p H1 n1
end
section
variable {P:Program} {w:World} {K:Frag} {mg:Str->Option Value} {base:Heap} {C_Roll C_Rule C_Book C_BookError C_NoNumber C_NoRule C_Backward C_NoName C_NoMark:Addr}
theorem qiy (T:Txt K mg C_Roll C_Rule C_Book C_BookError C_NoNumber C_NoRule C_Backward C_NoName C_NoMark):qbz P w K mg base 1 "greater_edge" ["one", "other"] qh2:=by
 obtain ⟨f,fd,F,hm⟩:=T.f_greater_edge;have nd:=sc_greater_edge.nd;refine F.def_ hm (F.ok sc_greater_edge (λvs H Q E h=>?_) (λcdv A outer s H vs Q E hr h=>?_)) (F.binds λ_ _ _ _ _ _ us hl=>by obtain ⟨_,_,rfl⟩:=L2.lq2 hl;rfl)
 ·obtain ⟨x,y,rfl,_⟩:=h;rfl
 ·obtain ⟨x,y,rfl,hx,hy,q⟩:=h
  refine ⟨_,(qac (qbc (qap qhh (pv 0) qdj (qat _))
    (qaf (qam (pv 1)))
    qao)
   (qac (qbc (qap qhh (pv 1) qdj (qat _))
    (qaf (qam (pv 0)))
    qao)
   (qaf (qam (qan (qkn rfl) rfl T.b_max qp7 (qaa (pv 0) (qaa (pv 1) qad))))))),?_⟩
  rcases hx with rfl|⟨i,rfl⟩
  ·exact ⟨_,rfl,rfl,_,rfl,qd8 ⟨_,rfl,q⟩⟩
  ·refine ⟨_,rfl,rfl,_,rfl,qd7 ?_⟩
   rcases hy with rfl|⟨j,rfl⟩
   ·exact ⟨_,rfl,rfl,_,rfl,qd8 ⟨_,rfl,q⟩⟩
   ·exact ⟨_,rfl,rfl,_,rfl,qd7 ⟨_,rfl,_,rfl,_,_,rfl,q⟩⟩
theorem qrc (T:Txt K mg C_Roll C_Rule C_Book C_BookError C_NoNumber C_NoRule C_Backward C_NoName C_NoMark):qbz P w K mg base 2 "greater" ["one", "other"] qh4:=by
 obtain ⟨f,fd,F,hm⟩:=T.f_greater;have nd:=sc_greater.nd;refine F.def_ hm (F.ok sc_greater (λvs H Q E h=>?_) (λcdv A outer s H vs Q E hr h=>?_)) (F.binds λ_ _ _ _ _ _ us hl=>by obtain ⟨_,_,rfl⟩:=L2.lq2 hl;rfl)
 ·obtain ⟨a,b,xs,ys,rfl,_⟩:=h;rfl
 ·obtain ⟨a,b,xs,ys,rfl,ha,hb,hx,hy,he,hz,q⟩:=h
  refine ⟨_,(qac (qbc (qap qkm (qan qbf rfl T.b_len qd9 (qaa (pv 0) qad)) (qan qbf rfl T.b_len qd9 (qaa (pv 1) qad)) (qat _))
    (qaf qde)
    qao)
   (qaf (qam (qky (vars:=["left", "right"]) (frees:=[]) (fv:=[]) rfl (qo2 rfl rfl (by decide +kernel) (by decide +kernel) (by intro p hp;cases hp) rfl) trivial (qpy rfl T.b_zip (qaa (pv 0) (qaa (pv 1) qad))) (qgl (by decide) (by decide)) (λ_ _ _ _=>(qeu rfl (qav (qas (i:=0) (show (["left", "right"]:List Str).Nodup by decide +kernel) rfl (Or.inl rfl)) (qav (qas (i:=1) (show (["left", "right"]:List Str).Nodup by decide +kernel) rfl (Or.inl rfl)) qc7)))) (λ_ _ _ _=>qci) (λ_ _ _ _=>(qax (qiy T) (hr.mono (by decide)) rfl (qaa (pv 0) (qaa (pv 1) qad)))))))),?_⟩
  refine ⟨_,rfl,a,xs,rfl,.inl (SqL.of ha),_,rfl,b,ys,rfl,.inl (SqL.of hb),rfl,_,rfl,?_⟩;refine qwt (by rw[he]) ?_;refine ⟨_,rfl,_,rfl,a,b,xs,ys,rfl,SqL.of ha,SqL.of hb,?_⟩;refine qtn (xs:=xs) (λi zs H2=>Same H H2/\zs=(List.zipWith gE xs ys).take i) (Nat.le_of_lt (qa6 hz)) ⟨Same.refl _,rfl⟩ (λi zs H2 h2=>⟨SqL.of (h2.1 _ _ ha),SqL.of (h2.1 _ _ hb),by rw[h2.2];simp;omega⟩) ?_ ?_
  ·rintro i x y zs H2 p h1 h2 hn ⟨s2,rfl⟩
   have n:=qbj (o:=.tup [x,y]) hn
   generalize upd H2 p _=H3 at n ⊢
   refine ⟨p,_,rfl,SqT.of n.at_,rfl,_,_,rfl,_,_,rfl,rfl,qsl (qd8 ?_)⟩;exact ⟨_,rfl,_,rfl,x,y,rfl,hx x (List.mem_of_getElem? h1),hy y (List.mem_of_getElem? h2),s2.trans n.same,(qlb _ i _ (zip_get h1 h2)).symm⟩
  ·rintro i zs H2 p hi ⟨s2,rfl⟩ hn
   have n:=qbj (o:=.lst ((List.zipWith gE xs ys).take i)) hn;have e:(List.zipWith gE xs ys).take i=List.zipWith gE xs ys:=List.take_of_length_le (by rw[List.length_zipWith,hi];exact Nat.le_refl _);rw[e] at n ⊢;exact q p _ (New.after s2 n)
end
section
variable {P:Program} {w:World} {K:Frag} {mg:Str->Option Value} {base:Heap} {C_Roll C_Rule C_Book C_BookError C_NoNumber C_NoRule C_Backward C_NoName C_NoMark:Addr}
theorem qs8 (T:Txt K mg C_Roll C_Rule C_Book C_BookError C_NoNumber C_NoRule C_Backward C_NoName C_NoMark):qyg P w K mg base C_Roll 4 "Roll" ["self", "rule", "day"] [] (qgz C_Roll C_Rule):=by
 obtain ⟨f,fd,F,M⟩:=T.f_Roll_init;have nd:=sc_Roll_init.nd;refine ⟨f,fd,(F.ok sc_Roll_init (λvs H Q E h=>?_) (λcdv A outer s H vs Q E hr h=>?_)),T.mg_Roll,M,(F.binds λ_ _ _ _ _ _ us hl=>by obtain ⟨_,_,_,rfl⟩:=L2.lq3 hl;rfl)⟩
 ·obtain ⟨ro,dx,ru,rl,ps,g,day,rfl,_⟩:=h;rfl
 ·obtain ⟨ro,dx,ru,rl,ps,g,day,rfl,hro,R,Pg,hd,q⟩:=h
  obtain ⟨dx2,hru⟩:=R.ob;have nru:ru≠ro:=qa1 hru hro (by intro z;injection z with _ _ z;have:=qs1 rl (gv g);rw[z] at this;cases this);refine ⟨_,(qac (qcn (pv 0) (pv 1) rfl)
   (qac (qcn (pv 0) (pv 2) rfl)
   (qac (qcn (pv 0) (qax (qdi T) (hr.mono (by decide)) rfl (qaa (pv 1) (qaa (pv 2) qad))) rfl)
   (qac (qcn (pv 0) qm8 rfl)
   (qaf (qcn (pv 0) qm8 rfl)))))),?_⟩
  refine ⟨_,rfl,_,rfl,ro,C_Roll,dx,[],rfl,hro,T.cl_Roll,T.na_Roll_kept_rule,(by show 0<1000;decide),λH1 b1 h1=>?_⟩;refine ⟨_,rfl,_,rfl,ro,C_Roll,dx,_,rfl,h1,T.cl_Roll,T.na_Roll_kept_day,(by show 1<1000;decide),λH2 b2 h2=>?_⟩;have R2:=(R.but2 b1 hro qed (by intro xs z;cases z) nru).but2 b2 h1 qed (by intro xs z;cases z) nru;refine ⟨_,rfl,_,rfl,ru,rl,ps,g,day,rfl,R2,Pg,hd,λle H3 n3=>?_⟩;refine ⟨_,rfl,ro,C_Roll,dx,_,rfl,n3.same _ _ h2,T.cl_Roll,T.na_Roll_kept_edges,(by show 2<1000;decide),λH4 b4 h4=>?_⟩;intro dy H5 n5;refine ⟨_,rfl,ro,C_Roll,dx,_,rfl,n5.same _ _ h4,T.cl_Roll,T.na_Roll_whole_ones,(by show 3<1000;decide),λH6 b6 h6=>?_⟩;intro dh H7 n7;refine ⟨_,rfl,ro,C_Roll,dx,_,rfl,n7.same _ _ h6,T.cl_Roll,T.na_Roll_cell_heaps,(by show 4<1000;decide),λH8 b8 h8=>?_⟩;have R8:=((((R2.same n3.same).but2 b4 (n3.same _ _ h2) qed (by intro xs z;cases z) nru).same n5.same |>.but2 b6 (n5.same _ _ h4) qed (by intro xs z;cases z) nru).same n7.same).but2 b8 (n7.same _ _ h6) qed (by intro xs z;cases z) nru;have bb:But ro H H8:=λb o e hb=>b8 _ _ (n7.same _ _ (b6 _ _ (n5.same _ _ (b4 _ _ (n3.same _ _ (b2 _ _ (b1 _ _ e hb) hb)) hb)) hb)) hb
  have fr:∀ b,b≠ro->H8 b=none->H b=none:=λb hb h0=>by
   cases e:H b with
   | none=>rfl
   | some o=>rw[bb b o e hb] at h0;cases h0
  have e4:H4 le=some (.lst (eV ps g day)):=b4 _ _ n3.at_ (qa1 n3.at_ (n3.same _ _ h2) (by intro z;cases z));have e6:H6 dy=some (.dT []):=b6 _ _ n5.at_ (qa1 n5.at_ (n5.same _ _ h4) (by intro z;cases z));have up2:∀ b o,H b=some o->b≠ro->H2 b=some o:=λb o e hb=>b2 _ _ (b1 _ _ e hb) hb
  have fr2:∀ b,H2 b=none->H b=none:=λb h0=>by
   cases e:H b with
   | none=>rfl
   | some o =>
    by_cases hb:b=ro
    ·subst hb;rw[h2] at h0;cases h0
    ·rw[up2 b o e hb] at h0;cases h0
  have fr4:∀ b,H4 b=none->H2 b=none:=λb h0=>by
   cases e:H2 b with
   | none=>rfl
   | some o =>
    by_cases hb:b=ro
    ·subst hb;rw[h4] at h0;cases h0
    ·rw[b4 _ _ (n3.same _ _ e) hb] at h0;cases h0
  have fr6:∀ b,H6 b=none->H4 b=none:=λb h0=>by
   cases e:H4 b with
   | none=>rfl
   | some o =>
    by_cases hb:b=ro
    ·subst hb;rw[h6] at h0;cases h0
    ·rw[b6 _ _ (n5.same _ _ e) hb] at h0;cases h0
  refine q le dy dh H8 (fr2 _ n3.fresh) (fr2 _ (fr4 _ n5.fresh)) (fr2 _ (fr4 _ (fr6 _ n7.fresh))) ⟨⟨dx,h8⟩,R8,?_,?_,?_,qah e6 n7.fresh⟩ bb
  ·have e8:=b8 _ _ (n7.same _ _ (b6 _ _ (n5.same _ _ e4) (qa1 (n5.same _ _ e4) (n5.same _ _ h4) (by intro z;cases z)))) (qa1 (n7.same _ _ (b6 _ _ (n5.same _ _ e4) (qa1 (n5.same _ _ e4) (n5.same _ _ h4) (by intro z;cases z)))) (n7.same _ _ h6) (by intro z;cases z))
   show H8 le=some (.lst (((ps.map λp=>cut day p.1 p.2).map V.int) ++ [gv (g.map λz=>cut day z (lw ps))]))
   rw[<- (EdS.of Pg hd).eq];exact e8
  ·exact b8 _ _ (n7.same _ _ e6) (qa1 (n7.same _ _ e6) (n7.same _ _ h6) (by intro z;cases z))
  ·exact b8 _ _ n7.at_ (qa1 n7.at_ (n7.same _ _ h6) (by intro z;cases z))
theorem qc5 (T:Txt K mg C_Roll C_Rule C_Book C_BookError C_NoNumber C_NoRule C_Backward C_NoName C_NoMark):qfm P w K mg base C_Roll 2 "pour_into_cell" ["self", "cell", "heap"] (qlh C_Roll C_Rule):=by
 obtain ⟨f,fd,F,hm⟩:=T.f_Roll_pour_into_cell;have nd:=sc_Roll_pour_into_cell.nd;refine ⟨f,fd,(F.ok sc_Roll_pour_into_cell (λvs H Q E h=>?_) (λcdv A outer s H vs Q E hr h=>?_)),hm,(F.binds λ_ _ _ _ _ _ us hl=>by obtain ⟨_,_,_,rfl⟩:=L2.lq3 hl;rfl)⟩
 ·obtain ⟨ro,D,c,h,s,w',x,rfl,_⟩:=h;rfl
 ·obtain ⟨ro,D,c,h,s',w',x,rfl,A',hc,hh,hZ,hl,q⟩:=h
  obtain ⟨dx,hob⟩:=A'.ob;refine ⟨_,(qaf (qbc (qmu (qps (qez hr) (pv 1) (qbe (pv 0) rfl)))
    (qaf (qgh (qez hr) (qbe (pv 0) rfl) (pv 1) (qax (qs7 T) (hr.mono (by decide)) rfl (qaa (qhn (qez hr) (qbe (pv 0) rfl) (pv 1) (λ_ _=>rfl)) (qaa (pv 2) qad))) rfl))
    (qaf (qgh (qez hr) (qbe (pv 0) rfl) (pv 1) (pv 2) rfl)))),?_⟩
  refine ⟨_,rfl,_,rfl,ro,C_Roll,dx,_,_,rfl,hob,T.cl_Roll,T.na_Roll_cell_heaps,qja _ _ _ _ _,D.dh,_,rfl,DGet.t (k:=kk s' w') A'.he hc,_,rfl,?_⟩
  cases e:qc6 D.Z (kk s' w') with
  | none =>
   refine qd7 ?_;refine ⟨_,rfl,_,rfl,ro,C_Roll,dx,_,_,rfl,hob,T.cl_Roll,T.na_Roll_cell_heaps,qja _ _ _ _ _,_,rfl,D.dh,_,rfl,DPut.t (k:=kk s' w') A'.he hc (qa6 (by omega)),?_⟩;exact q h x _ (qcm _ _ hh (qa1 hh A'.he (by intro z;cases z))) (.inl ⟨e,rfl⟩) (A'.putZ qcm qbp) qcm
  | some xx =>
   obtain ⟨h0,m0,t0,lo0,hi0,rfl,hh0⟩:=hZ _ _ e;refine qd8 ?_;refine ⟨_,rfl,ro,C_Roll,dx,_,_,rfl,hob,T.cl_Roll,T.na_Roll_cell_heaps,qja _ _ _ _ _,_,rfl,D.dh,_,rfl,(by have:=DGet.t (k:=kk s' w') A'.he hc;rwa [e] at this),_,rfl,?_⟩;refine ⟨h0,h,m0,t0,lo0,hi0,x.1,x.2.1,x.2.2.1,x.2.2.2,rfl,hh0,hh,λp H1 n1=>?_⟩;have A1:=A'.same n1.same;refine ⟨_,rfl,ro,C_Roll,dx,_,_,rfl,n1.same _ _ hob,T.cl_Roll,T.na_Roll_cell_heaps,qja _ _ _ _ _,_,rfl,D.dh,_,rfl,DPut.t (k:=kk s' w') A1.he (n1.same _ _ hc) (qa6 (by omega)),?_⟩;refine q p (mg4 (m0,t0,lo0,hi0) x) _ (qcm _ _ n1.at_ (qa1 n1.at_ A1.he (by intro z;cases z))) (.inr ⟨h0,(m0,t0,lo0,hi0),e,hh0,rfl⟩) (A1.putZ qcm qbp) λb o eo hb=>qcm _ _ (n1.same _ _ eo) hb
theorem qjd (T:Txt K mg C_Roll C_Rule C_Book C_BookError C_NoNumber C_NoRule C_Backward C_NoName C_NoMark):∃ f fd dT o n t,qg9 P w K mg base (CX1 P w) 4 f fd ["self", "time", "value", "many"] (qe3 C_Roll C_Rule C_NoNumber)/\FunD K "put" "Roll.put" qdg (.ref dT) f fd/\qgc K C_Roll "put" f/\fd.defaults=.ref dT/\K.lookup dT=some o/\o.data=.seq #[.int 1 t] n:=by
 obtain ⟨f,fd,dT,o,n,t,F,M,h1,h2,h3⟩:=T.f_Roll_put;have nd:=sc_Roll_put.nd;refine ⟨f,fd,dT,o,n,t,(F.okX sc_Roll_put (λvs H Q E h=>?_) (λcdv A outer s H vs Q E hr h=>?_)),F,M,h1,h2,h3⟩
 ·obtain ⟨ro,D,t,v,m,rfl,_⟩:=h;rfl
 ·obtain ⟨ro,D,t,v,m,rfl,A',ok,ht,hm,hY,hZ,ly,lz,hE,q⟩:=h
  obtain ⟨dx,hob⟩:=A'.ob;refine ⟨_,(qac (qbc (qap qjp (pv 3) qae (qat _))
    (qaf (qfk (qbi ⟨rfl,rfl,rfl⟩) rfl T.ex_NoNumber rfl T.mg_NoNumber (qaa qd4 qad)))
    qao)
   (qac (qay (i:=4) nd rfl (Or.inl rfl) (qax (qls T) (hr.mono (by decide)) rfl (qaa (qbe (pv 0) rfl) (qaa (qbe (pv 0) rfl) (qaa (pv 1) qad)))))
   (qac (qbc (qap qhh (pv 4) qdj (qat _))
    (qaf (qam qfx))
    qao)
   (qac (qbc (qap qhg (qa4 qbo (pv 4) qae (λ_ _=>rfl)) qae (qat _))
    (qaf (qgh (qez hr) (qbe (pv 0) rfl) (qb0 (qaa (pv 1) (qaa (pv 2) qad))) (qal qbn (qsd (qez hr) (qbe (pv 0) rfl) (qb0 (qaa (pv 1) (qaa (pv 2) qad))) qae ⟨rfl,rfl,rfl,rfl⟩) (pv 3)) rfl))
    (qaf (qby (qsi (pv 0) T.cl_Roll (qc5 T) (hr.mono (by decide)) (qaa (pv 4) (qaa (qax (qrb T) (hr.mono (by decide)) rfl (qaa (qc9 (qaa (qb0 (qaa (pv 2) (qaa (pv 3) qad))) qad)) qad)) qad))))))
   (qaf (qam qfx)))))),?_⟩
  walk_at "r"
  refine qhp (λz=>?_) λz=>?_
  ·exact ⟨by walk_at "c",hE (by simpa using z)⟩
  have z1:1<=m:=by
   have:¬ m<1:=by simpa using z
   omega
  have rok:=hm z1;have lo:=ok.pr.good.lo;refine ⟨_,rfl,ro,C_Roll,dx,_,_,rfl,hob,T.cl_Roll,T.na_Roll_kept_rule,qqu _ _ _ _ _,_,rfl,ro,C_Roll,dx,_,_,rfl,hob,T.cl_Roll,T.na_Roll_kept_edges,qnh _ _ _ _ _,_,rfl,D.ru,D.rl,D.ps,D.g,D.le,D.es,D.ge,t,rfl,A'.rule,A'.ed,ok.es,lo,ok.pr.good.hi,ok.pr.size,ht,λcv o H1 hc cat s1=>?_⟩;have hob1:=s1 _ _ hob;have A1:=A'.same s1
  cases o with
  | none =>
   cases (show cv=.non from cat)
   walk_at "r"
   exact q z1 none hc D H1 (.inl ⟨rfl,rfl⟩) A1 λc o e _ _=>s1 _ _ e
  | some p =>
   obtain ⟨c,rfl,hcv⟩:=cat;have hp:=CellOf.some_ hc (by rw[ok.es];exact lo) λw' hw'=>ok.pr.w1 hw'
   rcases hp with rfl|hp
   ·walk_at "r"
    refine ⟨ro,C_Roll,dx,_,_,rfl,hob1,T.cl_Roll,T.na_Roll_whole_ones,qni _ _ _ _ _,D.dy,rfl,.inr ⟨_,.inl A1.yo⟩,?_⟩
    walk_at "r";intro p2 H2 n2
    have A2:=A1.same n2.same;refine ⟨_,DGet.t (k:=kk t v) A2.yo n2.at_,?_⟩;rw[qxu hY]
    walk_at "r"
    refine ⟨ro,C_Roll,dx,_,_,rfl,n2.same _ _ hob1,T.cl_Roll,T.na_Roll_whole_ones,qni _ _ _ _ _,?_⟩
    walk_at "r";intro p3 H3 n3
    have A3:=A2.same n3.same;refine ⟨D.dy,_,rfl,DPut.t (k:=kk t v) A3.yo n3.at_ (qa6 (by omega)),?_⟩
    show Q _ _
    exact q z1 (some (t,0)) hc _ _ (.inr (.inl ⟨rfl,rfl⟩)) (A3.putY qcm qbp) λc o e hc1 _=>qcm _ _ (n3.same _ _ (n2.same _ _ (s1 _ _ e))) hc1
   ·walk_at "r"
    refine qhp (λz=>?_) λz=>?_
    ·exact absurd z (by simp;omega)
    refine ⟨_,rfl,ro,dx,_,rfl,hob1,qnj _ _ _ _ _,_,rfl,?_⟩
    walk_at "r";intro p2 H2 n2
    walk_at "r";intro p3 H3 n3
    refine ⟨p3,_,[(v,m)],rfl,n3.at_,.cons ⟨p2,rfl,n3.same _ _ n2.at_⟩ .nil,(λq hq=>by rw[List.mem_singleton.mp hq];exact rok),by simp,(λe=>by cases e),λ_ h4 a' b' lo' hi' H4 hof n4=>?_⟩;have s4:Same H1 H4:=n2.same.trans (n3.same.trans n4.same);refine ⟨ro,D,c,h4,p.1,p.2,(a',b',lo',hi'),rfl,A1.same s4,s4 _ _ hcv,n4.at_,hZ.same (s1.trans s4),lz,λh5 y H5 e5 po A5 b5=>?_⟩
    show Q _ _
    refine q z1 (some p) hc _ H5 (.inr (.inr ⟨p.1,p.2,h5,y.1,y.2.1,y.2.2.1,y.2.2.2,rfl,hp,rfl,e5,?_⟩)) A5 λc o e _ hc2=>b5 _ _ (s4 _ _ (s1 _ _ e)) hc2
    rcases po with ⟨po1,rfl⟩|⟨h0,x0,e1,e2,rfl⟩
    ·exact .inl ⟨po1,hof⟩
    ·obtain ⟨h0',m0',t0',lo0',hi0',e4,e9⟩:=hZ _ _ e1
     cases e4;rw[s4 _ _ (s1 _ _ e9)] at e2;have e6:v4 (m0',t0',lo0',hi0')=v4 x0:=by injection e2 with e2;injection e2
     have e7:=qt6 e6;subst e7;exact .inr ⟨h0,m0',t0',lo0',hi0',a',b',lo',hi',e1,e9,hof,rfl,rfl,rfl,rfl⟩
theorem qff (T:Txt K mg C_Roll C_Rule C_Book C_BookError C_NoNumber C_NoRule C_Backward C_NoName C_NoMark):qsp P w K mg base C_Roll 4 "put" ["self", "time", "value", "many"] [] (qe3 C_Roll C_Rule C_NoNumber):=by
 obtain ⟨f,fd,dT,o,n,t,hf,F,M,h1,h2,h3⟩:=qjd (P:=P) (w:=w) (base:=base) T;refine ⟨f,fd,hf,M,qgj h1 h2 h3 λus hl=>?_⟩;obtain ⟨oc,od,kV,doc,pm,an,cdv,ct,osl,rfl,lk,hcd⟩:=F.ex;obtain ⟨_,_,_,_,rfl⟩:=L2.lq4 (us:=us) (by simpa using hl);exact ⟨_,rfl,rfl⟩
theorem qg3 (T:Txt K mg C_Roll C_Rule C_Book C_BookError C_NoNumber C_NoRule C_Backward C_NoName C_NoMark):∃ t,qsp P w K mg base C_Roll 4 "put" ["self", "time", "value", "many"] [.int 1 t] (qe3 C_Roll C_Rule C_NoNumber):=by
 obtain ⟨f,fd,dT,o,n,t,hf,F,M,h1,h2,h3⟩:=qjd (P:=P) (w:=w) (base:=base) T;refine ⟨t,f,fd,hf,M,qgj h1 h2 h3 λus hl=>?_⟩;obtain ⟨oc,od,kV,doc,pm,an,cdv,ct,osl,rfl,lk,hcd⟩:=F.ex;obtain ⟨a,b,c,rfl⟩:=L2.lq3 (us:=us) (by simpa using hl);exact ⟨_,rfl,rfl⟩
end
section
variable {P:Program} {w:World} {K:Frag} {mg:Str->Option Value} {base:Heap} {C_Roll C_Rule C_Book C_BookError C_NoNumber C_NoRule C_Backward C_NoName C_NoMark:Addr}
theorem qig (T:Txt K mg C_Roll C_Rule C_Book C_BookError C_NoNumber C_NoRule C_Backward C_NoName C_NoMark):qfm P w K mg base C_Roll 1 "rule" ["self"] (qs2 C_Roll C_Rule):=by
 obtain ⟨f,fd,F,hm⟩:=T.f_Roll_rule;have nd:=sc_Roll_rule.nd;refine ⟨f,fd,(F.ok sc_Roll_rule (λvs H Q E h=>?_) (λcdv A outer s H vs Q E hr h=>?_)),hm,(F.binds λ_ _ _ _ _ _ us hl=>by obtain ⟨_,rfl⟩:=L2.lq1 hl;rfl)⟩
 ·obtain ⟨ro,D,rfl,_⟩:=h;rfl
 ·obtain ⟨ro,D,rfl,A',q⟩:=h
  obtain ⟨dx,hob⟩:=A'.ob;refine ⟨_,(qaf (qam (qbe (pv 0) rfl))),?_⟩;exact ⟨_,rfl,ro,C_Roll,dx,_,_,rfl,hob,T.cl_Roll,T.na_Roll_kept_rule,qqu _ _ _ _ _,q⟩
theorem qje (T:Txt K mg C_Roll C_Rule C_Book C_BookError C_NoNumber C_NoRule C_Backward C_NoName C_NoMark):qfm P w K mg base C_Roll 1 "day" ["self"] (qvk C_Roll C_Rule):=by
 obtain ⟨f,fd,F,hm⟩:=T.f_Roll_day;have nd:=sc_Roll_day.nd;refine ⟨f,fd,(F.ok sc_Roll_day (λvs H Q E h=>?_) (λcdv A outer s H vs Q E hr h=>?_)),hm,(F.binds λ_ _ _ _ _ _ us hl=>by obtain ⟨_,rfl⟩:=L2.lq1 hl;rfl)⟩
 ·obtain ⟨ro,D,rfl,_⟩:=h;rfl
 ·obtain ⟨ro,D,rfl,A',q⟩:=h
  obtain ⟨dx,hob⟩:=A'.ob;refine ⟨_,(qaf (qam (qbe (pv 0) rfl))),?_⟩;exact ⟨_,rfl,ro,C_Roll,dx,_,_,rfl,hob,T.cl_Roll,T.na_Roll_kept_day,qxs _ _ _ _ _,q⟩
theorem qg4 (T:Txt K mg C_Roll C_Rule C_Book C_BookError C_NoNumber C_NoRule C_Backward C_NoName C_NoMark):qfm P w K mg base C_Roll 1 "edges" ["self"] (qqw C_Roll C_Rule):=by
 obtain ⟨f,fd,F,hm⟩:=T.f_Roll_edges;have nd:=sc_Roll_edges.nd;refine ⟨f,fd,(F.ok sc_Roll_edges (λvs H Q E h=>?_) (λcdv A outer s H vs Q E hr h=>?_)),hm,(F.binds λ_ _ _ _ _ _ us hl=>by obtain ⟨_,rfl⟩:=L2.lq1 hl;rfl)⟩
 ·obtain ⟨ro,D,rfl,_⟩:=h;rfl
 ·obtain ⟨ro,D,rfl,A',q⟩:=h
  obtain ⟨dx,hob⟩:=A'.ob;refine ⟨_,(qaf (qam (qd6 qea rfl T.b_list qhr (qaa (qbe (pv 0) rfl) qad)))),?_⟩;exact ⟨_,rfl,ro,C_Roll,dx,_,_,rfl,hob,T.cl_Roll,T.na_Roll_kept_edges,qnh _ _ _ _ _,D.le,_,rfl,.inl (SqL.of A'.ed),q⟩
end
section
variable {P:Program} {w:World} {K:Frag} {mg:Str->Option Value} {base:Heap} {C_Roll C_Rule C_Book C_BookError C_NoNumber C_NoRule C_Backward C_NoName C_NoMark:Addr}
theorem qt9 {H:Hp} {D:qaz} {s:Abs} {LY LZ:List (List Int)} (h:RAbs H D s LY LZ) (k:List Int):qc6 D.Z (kI k)≠none↔s.z k≠none:=by
 cases e:s.z k with
 | none=>simp[h.zn k e]
 | some p=>obtain ⟨a,e1,_⟩:=h.zs k p e;rw[e1];simp
theorem qb7 (T:Txt K mg C_Roll C_Rule C_Book C_BookError C_NoNumber C_NoRule C_Backward C_NoName C_NoMark):qfm P w K mg base C_Roll 1 "young" ["self"] (qh9 C_Roll C_Rule):=by
 obtain ⟨f,fd,F,hm⟩:=T.f_Roll_young;have nd:=sc_Roll_young.nd;refine ⟨f,fd,(F.ok sc_Roll_young (λvs H Q E h=>?_) (λcdv A outer s H vs Q E hr h=>?_)),hm,(F.binds λ_ _ _ _ _ _ us hl=>by obtain ⟨_,rfl⟩:=L2.lq1 hl;rfl)⟩
 ·obtain ⟨ro,D,ab,LY,LZ,rfl,_⟩:=h;rfl
 ·obtain ⟨ro,D,ab,LY,LZ,rfl,A',RA,hL,q⟩:=h
  obtain ⟨dx,hob⟩:=A'.ob;obtain ⟨ks,dk,hks⟩:=RA.yk;have hkl:ks.length<64:=Nat.lt_of_le_of_lt (List.Nodup.length_le_of_subset dk.nd hks) hL;refine ⟨_,(qaf (qam (qky (vars:=["key"]) (frees:=["self"]) (fv:=[0]) rfl (qo2 rfl rfl (by decide +kernel) (by decide +kernel) (by intro p hp;simp only[List.mem_cons,List.not_mem_nil,or_false] at hp;rcases hp with rfl<;>rfl) rfl) ⟨⟨rfl,.inl rfl,rfl,.inl rfl⟩,trivial⟩ (qcd (qan (qgy rfl) rfl T.b_sorted qeb (qaa (qbe (pv 0) rfl) qad))) (qgk (by decide)) (λ_ _ _ _=>(qas (i:=0) (show (["key", "self"]:List Str).Nodup by decide +kernel) rfl (Or.inl rfl))) (λ_ _ _ _=>qci) (λ_ _ _ _=>(qal (show OpR _ _ (qp9 K) from qm7) (pv 0) (qb0 (qaa (qhn (by exact qez hr) (show PE _ _ (qyx K _ _) from qbe (pv 1) rfl) (pv 0) (λ_ _=>rfl)) qad))))))),?_⟩;refine ⟨_,rfl,ro,C_Roll,dx,_,_,rfl,hob,T.cl_Roll,T.na_Roll_whole_ones,qni _ _ _ _ _,D.dy,D.Y,ks,rfl,A'.yo,dk.eq,hkl,dk.nd,dk.ne',λms zs l1 H1 pm sm tz n1=>?_⟩;have sk:SKeys ab.y ms:=SKeys.ofD dk (λk=>by rw[RA.yv];cases ab.y k<;>simp) pm sm;have hml:ms.length=ks.length:=pm.length_eq;have tz1:Tups H1 zs ms:=Tups.same n1.same (show Tups H zs ms from tz);have hzl:=tz1.length;refine ⟨l1,rfl,⟨_,SqL.of n1.at_⟩,qhd (xs:=zs) (λi ys H2=>Same H1 H2/\Tups H2 ys ((ms.take i).map (qmj ab))) (Nat.le_of_lt (qa6 (by omega))) ⟨Same.refl _,.nil⟩ (λi ys H2 h2=>⟨SqL.of (h2.1 _ _ n1.at_),by have:=h2.2.length;rw[this,List.length_map,List.length_take];omega⟩) ?_ ?_⟩
  ·rintro i x ys H2 hi ⟨s2,ty⟩
   obtain ⟨k,hki,b,rfl,hb⟩:=tz1.get hi;have hkm:k∈ms:=List.mem_of_getElem? hki;have hk2:=dk.ne k (pm.mem_iff.mp hkm);have s02:=n1.same.trans s2;have A2:=A'.same s02;have hb2:=s2 _ _ hb;obtain ⟨n,hn⟩:∃ n,ab.y k=some n:=by
    cases e:ab.y k with
    | none=>exact absurd e ((sk.mem k).mp hkm)
    | some n=>exact ⟨n,rfl⟩
   have hv:qc6 D.Y (kI k)=some (.int n):=by rw[RA.yv,hn];rfl
   refine qaw (qsl (qd8 ?_));refine ⟨_,rfl,_,rfl,ro,C_Roll,dx,_,_,rfl,s02 _ _ hob,T.cl_Roll,T.na_Roll_whole_ones,qni _ _ _ _ _,_,rfl,D.dy,.int n,rfl,?_,(by show 1<=sizeLine;decide),λp3 H3 n3=>?_⟩
   ·have:=DGet.t (k:=kI k) A2.yo (by rw[qxw];exact hb2)
    rw[hv] at this;exact this
   ·refine ⟨b,p3,_,_,rfl,rfl,SqT.of (n3.same _ _ hb2),SqT.of n3.at_,(by intro z;have:=congrArg List.length z;rw[List.length_map,hk2] at this;cases this),(by intro z;cases z),(by rw[List.length_map,hk2];show 2+1<=sizeLine;decide),λp4 H4 n4=>?_⟩
    have s4:=n3.same.trans n4.same;refine ⟨s2.trans s4,?_⟩;rw[qlb _ i _ hki,List.map_append];refine Tups.snoc ⟨p4,rfl,?_⟩ (ty.same s4);rw[n4.at_]
    show some (HO.tup (k.map V.int ++ [V.int n]))=some (.tup ((k ++ [(ab.y k).getD 0]).map V.int))
    rw[hn,List.map_append];rfl
  ·rintro ys H2 l3 H3 ⟨s2,ty⟩ n3
   rw[hzl,List.take_length] at ty;exact q l3 ys ms H3 (n1.same.trans (s2.trans n3.same)) ((n1.same.trans s2).free n3.fresh) n3.at_ sk (by omega) (ty.same n3.same)
theorem qbu (T:Txt K mg C_Roll C_Rule C_Book C_BookError C_NoNumber C_NoRule C_Backward C_NoName C_NoMark):qfm P w K mg base C_Roll 1 "heaps" ["self"] (qia C_Roll C_Rule):=by
 obtain ⟨f,fd,F,hm⟩:=T.f_Roll_heaps;have nd:=sc_Roll_heaps.nd;refine ⟨f,fd,(F.ok sc_Roll_heaps (λvs H Q E h=>?_) (λcdv A outer s H vs Q E hr h=>?_)),hm,(F.binds λ_ _ _ _ _ _ us hl=>by obtain ⟨_,rfl⟩:=L2.lq1 hl;rfl)⟩
 ·obtain ⟨ro,D,ab,LY,LZ,rfl,_⟩:=h;rfl
 ·obtain ⟨ro,D,ab,LY,LZ,rfl,A',RA,hL,q⟩:=h
  obtain ⟨dx,hob⟩:=A'.ob;obtain ⟨ks,dk,hks⟩:=RA.zk;have hkl:ks.length<64:=Nat.lt_of_le_of_lt (List.Nodup.length_le_of_subset dk.nd hks) hL;refine ⟨_,(qaf (qam (qky (vars:=["cell"]) (frees:=["self"]) (fv:=[0]) rfl (qo2 rfl rfl (by decide +kernel) (by decide +kernel) (by intro p hp;simp only[List.mem_cons,List.not_mem_nil,or_false] at hp;rcases hp with rfl<;>rfl) rfl) ⟨⟨rfl,.inl rfl,rfl,.inl rfl⟩,trivial⟩ (qcd (qan (qgy rfl) rfl T.b_sorted qeb (qaa (qbe (pv 0) rfl) qad))) (qgk (by decide)) (λ_ _ _ _=>(qas (i:=0) (show (["cell", "self"]:List Str).Nodup by decide +kernel) rfl (Or.inl rfl))) (λ_ _ _ _=>qci) (λ_ _ _ _=>(qal (show OpR _ _ (qp9 K) from qm7) (pv 0) (qhn (by exact qez hr) (show PE _ _ (qyx K _ _) from qbe (pv 1) rfl) (pv 0) (λ_ _=>rfl))))))),?_⟩;refine ⟨_,rfl,ro,C_Roll,dx,_,_,rfl,hob,T.cl_Roll,T.na_Roll_cell_heaps,qja _ _ _ _ _,D.dh,D.Z,ks,rfl,A'.he,dk.eq,hkl,dk.nd,dk.ne',λms zs l1 H1 pm sm tz n1=>?_⟩;have sk:SKeys ab.z ms:=SKeys.ofD dk (λk=>qt9 RA k) pm sm;have hml:ms.length=ks.length:=pm.length_eq;have tz1:Tups H1 zs ms:=Tups.same n1.same (show Tups H zs ms from tz);have hzl:=tz1.length;refine ⟨l1,rfl,⟨_,SqL.of n1.at_⟩,qhd (xs:=zs) (λi ys H2=>Same H1 H2/\Tups H2 ys ((ms.take i).map (qnp ab))) (Nat.le_of_lt (qa6 (by omega))) ⟨Same.refl _,.nil⟩ (λi ys H2 h2=>⟨SqL.of (h2.1 _ _ n1.at_),by have:=h2.2.length;rw[this,List.length_map,List.length_take];omega⟩) ?_ ?_⟩
  ·rintro i x ys H2 hi ⟨s2,ty⟩
   obtain ⟨k,hki,b,rfl,hb⟩:=tz1.get hi;have hkm:k∈ms:=List.mem_of_getElem? hki;have hk2:=dk.ne k (pm.mem_iff.mp hkm);have s02:=n1.same.trans s2;have A2:=A'.same s02;have hb2:=s2 _ _ hb;obtain ⟨n,hn⟩:∃ n,ab.z k=some n:=by
    cases e:ab.z k with
    | none=>exact absurd e ((sk.mem k).mp hkm)
    | some n=>exact ⟨n,rfl⟩
   obtain ⟨hh,hv,hht⟩:=RA.zs k n hn;refine qaw (qsl (qd8 ?_));refine ⟨_,rfl,_,rfl,ro,C_Roll,dx,_,_,rfl,s02 _ _ hob,T.cl_Roll,T.na_Roll_cell_heaps,qja _ _ _ _ _,?_⟩;refine ⟨_,rfl,D.dh,.ref hh,rfl,?_,?_⟩
   ·have:=DGet.t (k:=kI k) A2.he (by rw[qxw];exact hb2)
    rw[hv] at this;exact this
   ·refine ⟨b,hh,_,_,rfl,rfl,SqT.of hb2,SqT.of (s02 _ _ hht),(by intro z;have:=congrArg List.length z;rw[List.length_map,hk2] at this;cases this),(by intro z;cases z),(by rw[List.length_map,hk2];show 2+4<=sizeLine;decide),λp4 H4 n4=>?_⟩
    refine ⟨s2.trans n4.same,?_⟩;rw[qlb _ i _ hki,List.map_append];refine Tups.snoc ⟨p4,rfl,?_⟩ (ty.same n4.same);rw[n4.at_]
    show some (HO.tup (k.map V.int ++ v4 n))=some (.tup ((k ++ i4 ((ab.z k).getD (0,0,0,0))).map V.int))
    rw[hn,List.map_append];rfl
  ·rintro ys H2 l3 H3 ⟨s2,ty⟩ n3
   rw[hzl,List.take_length] at ty;exact q l3 ys ms H3 (n1.same.trans (s2.trans n3.same)) ((n1.same.trans s2).free n3.fresh) n3.at_ sk (by omega) (ty.same n3.same)
end
section
variable {P:Program} {w:World} {K:Frag} {mg:Str->Option Value} {base:Heap} {C_Roll C_Rule C_Book C_BookError C_NoNumber C_NoRule C_Backward C_NoName C_NoMark:Addr}
theorem qg8 (T:Txt K mg C_Roll C_Rule C_Book C_BookError C_NoNumber C_NoRule C_Backward C_NoName C_NoMark):qfm P w K mg base C_Roll 4 "take_heap" ["self", "start", "heap"] (qnq C_Roll C_Rule):=by
 obtain ⟨f,fd,F,hm⟩:=T.f_Roll_take_heap;have nd:=sc_Roll_take_heap.nd;refine ⟨f,fd,(F.ok sc_Roll_take_heap (λvs H Q E h=>?_) (λcdv A outer s H vs Q E hr h=>?_)),hm,(F.binds λ_ _ _ _ _ _ us hl=>by obtain ⟨_,_,_,rfl⟩:=L2.lq3 hl;rfl)⟩
 ·obtain ⟨ro,c,s,LY,LZ,a,h,x,rfl,_⟩:=h;rfl
 ·obtain ⟨ro,c,s',LY,LZ,a,h,x,rfl,⟨Y,Z,A',B'⟩,ok,ha,hh,lz,hz,q⟩:=h
  obtain ⟨dx,hob⟩:=A'.ob;refine ⟨_,(qac (qay (i:=3) nd rfl (Or.inl rfl) (qax (qls T) (hr.mono (by decide)) rfl (qaa (qbe (pv 0) rfl) (qaa (qbe (pv 0) rfl) (qaa (pv 1) qad)))))
   (qaf (qbc (qap qjq (pv 3) qdj (qat _))
    (qaf (qby (qsi (pv 0) T.cl_Roll (qc5 T) (hr.mono (by decide)) (qaa (pv 3) (qaa (pv 2) qad)))))
    qao))),?_⟩
  have lo:=ok.pr.good.lo;refine ⟨_,rfl,ro,C_Roll,dx,_,_,rfl,hob,T.cl_Roll,T.na_Roll_kept_rule,qqu _ _ _ _ _,_,rfl,ro,C_Roll,dx,_,_,rfl,hob,T.cl_Roll,T.na_Roll_kept_edges,qnh _ _ _ _ _,_,rfl,c.ru,c.rl,c.ps,c.g,c.le,c.es,c.ge,a,rfl,A'.rule,A'.ed,ok.es,lo,ok.pr.good.hi,ok.pr.size,ha,λcv o H1 hc cat s1=>?_⟩;have hob1:=s1 _ _ hob;have A1:=A'.same s1;have eo:cellD c a=o:=qj7 (by rw[ok.es];exact lo) hc
  cases o with
  | none =>
   cases (show cv=.non from cat)
   walk_at "r"
   refine q H1 ?_ λb o e _ _=>s1 _ _ e
   unfold qee;rw[eo];exact ⟨Y,Z,A1,B'.same s1⟩
  | some p =>
   obtain ⟨cc,rfl,hcv⟩:=cat;obtain ⟨b,w'⟩:=p;have B1:=B'.same s1
   walk_at "r"
   refine ⟨ro,dx,_,rfl,hob1,qnj _ _ _ _ _,_,rfl,_,rfl,?_⟩;simp only[qgf,List.cons_append,List.nil_append,List.append_nil];refine ⟨ro,_,cc,h,b,w',x,rfl,A1,hcv,s1 _ _ hh,B1.ZOk,Nat.le_trans B1.zlen (by omega),λh2 y H2 hh2 po A2 b2=>?_⟩
   show Q _ _
   have bb:But2 c.dy c.dh H H2:=λz o e _ n2=>b2 _ _ (s1 _ _ e) n2
   refine q H2 ?_ bb;unfold qee;rw[eo];exact ⟨Y,_,A2,B1.pour po hh2 (λz xs e=>b2 _ _ e (qa1 e A1.he (by intro z;cases z))) (hz b w' eo)⟩
abbrev IvT (C_Roll C_Rule:Addr) (H1:Hp) (ro r2:Addr) (c:qaz) (s2 s':Abs) (LY LZ:List (List Int)) (i:Nat) (σ:St) (H3:Hp):Prop:=But2 c.dy c.dh H1 H3/\RR C_Roll C_Rule H3 ro c (((qcu s2).take i).foldl (qdc (cellD c)) s') LY LZ/\∃ v3 v4 v5:Option V,σ=[some (.ref ro),some (.ref r2),v3,v4,v5,none]
abbrev IvU (C_Roll C_Rule:Addr) (H4:Hp) (ro r2:Addr) (c:qaz) (s2 s':Abs) (LY LZ:List (List Int)) (v3 v4 v5:Option V) (i:Nat) (σ:St) (H5:Hp):Prop:=But2 c.dy c.dh H4 H5/\RR C_Roll C_Rule H5 ro c (((qco s2).take i).foldl (qce (cellD c)) ((qcu s2).foldl (qdc (cellD c)) s')) LY LZ/\∃ v6:Option V,σ=[some (.ref ro),some (.ref r2),v3,v4,v5,v6]
theorem qih (T:Txt K mg C_Roll C_Rule C_Book C_BookError C_NoNumber C_NoRule C_Backward C_NoName C_NoMark):qfm P w K mg base C_Roll 5 "take_all" ["self", "roll"] (qib C_Roll C_Rule):=by
 obtain ⟨f,fd,F,hm⟩:=T.f_Roll_take_all;have nd:=sc_Roll_take_all.nd;refine ⟨f,fd,(F.ok sc_Roll_take_all (λvs H Q E h=>?_) (λcdv A outer s H vs Q E hr h=>?_)),hm,(F.binds λ_ _ _ _ _ _ us hl=>by obtain ⟨_,_,rfl⟩:=L2.lq2 hl;rfl)⟩
 ·obtain ⟨ro,r2,c,c2,s,s2,LY,LZ,LY2,LZ2,rfl,_⟩:=h;rfl
 ·obtain ⟨ro,r2,c,c2,s',s2,LY,LZ,LY2,LZ2,rfl,R1,R2,ok,ap,ly,lz,ly2,lz2,tk,q⟩:=h
  obtain ⟨dx,hob⟩:=R1.obj;obtain ⟨dx2,hob2⟩:=R2.obj;refine ⟨_,(qac (qev PassesOwn.never rfl (qcd (qa9 (pv 1) T.cl_Roll (qb7 T) (hr.mono (by decide)))) (qeu rfl (qav (qas (i:=2) nd rfl (Or.inl rfl)) (qav (qas (i:=3) nd rfl (Or.inl rfl)) (qav (qas (i:=4) nd rfl (Or.inl rfl)) qc7))))
    (qaf (qby (qdz (qcr ⟨rfl,rfl,rfl⟩) (pv 0) T.cl_Roll (qff T) (hr.mono (by decide)) .nil (qaa (pv 2) (qaa (pv 3) (qaa (pv 4) qad)))))))
   (qaf (qev PassesOwn.never rfl (qcd (qa9 (pv 1) T.cl_Roll (qbu T) (hr.mono (by decide)))) (qas (i:=5) nd rfl (Or.inl rfl))
    (qaf (qby (qsi (pv 0) T.cl_Roll (qg8 T) (hr.mono (by decide)) (qaa (qa4 qbo (pv 5) qae (λ_ _=>rfl)) (qaa (qf0 qwi (pv 5) (qgg qae) qjs) qad)))))))),?_⟩
  refine ⟨_,rfl,r2,dx2,_,rfl,hob2,qdl _ _ _ _ _,?_⟩;simp only[qgf,List.cons_append,List.nil_append,List.append_nil];refine R2.young ly2 λl xs H1 s1 f1 hl tl kl=>?_
  have R1a:=R1.same s1;obtain ⟨⟨Y1,hY1⟩,⟨Z1,hZ1⟩⟩:=R1a.dicts;refine ⟨l,rfl,⟨_,SqL.of hl⟩,qdy (D:={ nx:=_,rt:=Q }) (xs:=xs) (λi σ H3=>IvT C_Roll C_Rule H1 ro r2 c s2 s' LY LZ i σ H3) ⟨But2.refl _ _ _,R1a,none,none,none,rfl⟩ (λi σ H3 _ h3=>SqL.of (h3.1.keep hY1 hZ1 hl (by intro K z;cases z))) ?_ ?_⟩
  ·rintro i x σ H3 hxi ⟨b3,R3,v3,v4,v5,rfl⟩
   obtain ⟨r',hr',ta,rfl,hta⟩:=tl.get hxi;obtain ⟨t,v,m,rfl,rok,hy,hz⟩:=tk.y r' (List.mem_of_getElem? hr');have hta3:=b3.keep hY1 hZ1 hta (by intro K z;cases z);obtain ⟨dx3,hob3⟩:=R3.obj;refine ⟨ta,_,rfl,SqT.of hta3,rfl,_,_,rfl,_,_,rfl,_,_,rfl,rfl,?_⟩;refine ⟨_,rfl,ro,dx3,_,rfl,hob3,qh6 _ _ _ _ _,_,rfl,_,rfl,_,rfl,?_⟩;simp only[qgf,List.cons_append,List.nil_append,List.append_nil];refine R3.putX ok rok.1 rok.2.2.1 rok.2 ly lz hy hz λH4 R4 b4=>?_
   refine ⟨b3.trans b4,?_,_,_,_,rfl⟩;rw[qlb _ i _ hr',List.foldl_append];exact R4
  ·rintro σ H3 ⟨b3,R3,v3,v4,v5,rfl⟩
   rw[tl.length,List.take_length] at R3;have R2':=(R2.same s1).frame b3 hY1 hZ1 ap.1 ap.2.1 ap.2.2.1 ap.2.2.2;obtain ⟨dx4,hob4⟩:=R2'.obj;refine ⟨_,rfl,r2,dx4,_,rfl,hob4,qct _ _ _ _ _,?_⟩;simp only[qgf,List.cons_append,List.nil_append,List.append_nil];refine R2'.heaps lz2 λl4 xs4 H4 s4 f4 hl4 tl4 kl4=>?_
   have R4:=R3.same s4;obtain ⟨⟨Y4,hY4⟩,⟨Z4,hZ4⟩⟩:=R4.dicts;have b04:But2 c.dy c.dh H H4:=λz o e n1 n2=>s4 _ _ (b3 _ _ (s1 _ _ e) n1 n2)
   refine ⟨l4,rfl,⟨_,SqL.of hl4⟩,qdy (D:={ nx:=_,rt:=Q }) (xs:=xs4) (λi σ H5=>IvU C_Roll C_Rule H4 ro r2 c s2 s' LY LZ v3 v4 v5 i σ H5) ⟨But2.refl _ _ _,R4,none,rfl⟩ (λi σ H5 _ h5=>SqL.of (h5.1.keep hY4 hZ4 hl4 (by intro K z;cases z))) ?_ ?_⟩
   ·rintro i x σ H5 hxi ⟨b5,R5,v6,rfl⟩
    obtain ⟨r',hr',ta,rfl,hta⟩:=tl4.get hxi;obtain ⟨a,w',m,t,lo,hi,rfl,ha,hz⟩:=tk.z r' (List.mem_of_getElem? hr');have hta5:=b5.keep hY4 hZ4 hta (by intro K z;cases z);obtain ⟨dx5,hob5⟩:=R5.obj
    walk_at "r"
    refine ⟨ro,dx5,_,rfl,hob5,qf6 _ _ _ _ _ (by decide +kernel) (by decide +kernel) (by decide +kernel) (by decide +kernel) (by decide +kernel),?_⟩
    walk_at "r"
    refine ⟨λz=>by have z1:HT.sIx 6 0 (some 2)=0:=z.1;revert z1;decide,λp hp=>?_⟩;have n6:New H5 (upd H5 p (.tup (qmy (List.map V.int [a,w',m,t,lo,hi]) (some 2) none))) p (.tup (TB.v4 (m,t,lo,hi))):=qbj hp;simp only[qgf,List.cons_append,List.nil_append,List.append_nil];refine ⟨ro,c,_,LY,LZ,a,p,(m,t,lo,hi),rfl,R5.same n6.same,ok,ha,n6.at_,lz,hz,λH7 R7 b7=>?_⟩;refine ⟨λz o e n1 n2=>b7 _ _ (n6.same _ _ (b5 _ _ e n1 n2)) n1 n2,?_,_,rfl⟩;rw[qlb _ i _ hr',List.foldl_append];exact R7
   ·rintro σ H5 ⟨b5,R5,v6,rfl⟩
    rw[tl4.length,List.take_length] at R5;exact q H5 R5 (b04.trans b5)
end
section
variable {P:Program} {w:World} {K:Frag} {mg:Str->Option Value} {base:Heap} {C_Roll C_Rule C_Book C_BookError C_NoNumber C_NoRule C_Backward C_NoName C_NoMark:Addr}
theorem qvs (ru:Addr) (day:Int) (le dy dh p:Addr):qfz "kept_edges" (.ref p) (rof ru day le dy dh)=rof ru day p dy dh:=by rfl
inductive qlt (C R:Addr) (vs:List V) (H:Hp) (Q:VK) (E_:XK):Prop
 | mk:∀ (ru rl e:Addr) (ps:List (Int×Int)) (g:Option Int) (day:Int) (EV:List V) (es:List Int) (ge:Option Int),vs=[.ref ru,.int day,.ref e]->RuleAt R H ru rl ps g->Pr ps g->Bd day->H e=some (.lst EV)->(∀ v∈EV,Ed v)->EV.length<=10->EV.length=ps.length+1->EdS EV es ge->es.length=ps.length->(∀ ro c H',RollAt C R H' ro c->c.ps=ps->c.g=g->c.day=day->c.Y=[]->c.Z=[]->EdS (List.zipWith gE (eV ps g day) EV) c.es c.ge->c.es.length=ps.length->Same H H'->H c.dy=none->H c.dh=none->(c.ru=ru/\c.rl=rl/\H c.le=none)->Q (.ref ro) H')->qlt C R vs H Q E_
theorem qmn (T:Txt K mg C_Roll C_Rule C_Book C_BookError C_NoNumber C_NoRule C_Backward C_NoName C_NoMark):qbz P w K mg base 6 "begun" ["rule", "day", "edges"] (qlt C_Roll C_Rule):=by
 obtain ⟨f,fd,F,hm⟩:=T.f_begun;have nd:=sc_begun.nd;refine F.def_ hm (F.ok sc_begun (λvs H Q E h=>?_) (λcdv A outer s H vs Q E hr h=>?_)) (F.binds λ_ _ _ _ _ _ us hl=>by obtain ⟨_,_,_,rfl⟩:=L2.lq3 hl;rfl)
 ·obtain ⟨ru,rl,e,ps,g,day,EV,es,ge,rfl,_⟩:=h;rfl
 ·obtain ⟨ru,rl,e,ps,g,day,EV,es,ge,rfl,R,Pg,hd,he,hEd,h10,hEl,Ee,hln,q⟩:=h
  refine ⟨_,(qac (qay (i:=3) nd rfl (Or.inl rfl) (qm3 (qs8 T) (hr.mono (by decide)) rfl .nil (qaa (pv 0) (qaa (pv 1) qad))))
   (qac (qcn (pv 3) (qax (qrc T) (hr.mono (by decide)) rfl (qaa (qbe (pv 3) rfl) (qaa (pv 2) qad))) rfl)
   (qaf (qam (pv 3))))),?_⟩
  refine ⟨_,rfl,_,rfl,λro dx H1 s1 f1 d1=>?_⟩;refine ⟨ro,dx,ru,rl,ps,g,day,rfl,d1,R.same s1,Pg,hd,λle dy dh H2 z1 z2 z3 A2 b2=>⟨rfl,?_⟩⟩;have s2:Same H H2:=b2.same s1 f1;obtain ⟨dx2,hob⟩:=A2.ob;have E0':=EdS.of Pg hd;have hob':H2 ro=some (.ins C_Roll dx2 (rof ru day le dy dh)):=hob;have hed:H2 le=some (.lst (eV ps g day)):=by rw[E0'.eq];exact A2.ed
  have l0:(eV ps g day).length=ps.length+1:=by rw[E0'.eq];simp
  have g5:=Pg.good.hi;refine ⟨_,rfl,ro,C_Roll,dx2,_,_,rfl,hob',T.cl_Roll,T.na_Roll_kept_edges,qnh _ _ _ _ _,_,rfl,le,e,_,EV,rfl,hed,s2 _ _ he,E0'.ed,hEd,by rw[l0,hEl],by omega,λp H3 n3=>?_⟩;refine ⟨_,rfl,ro,C_Roll,dx2,_,rfl,n3.same _ _ hob',T.cl_Roll,T.na_Roll_kept_edges,(by show 5<1000;decide),λH4 b4 h4=>?_⟩;rw[qvs] at h4;have A3:=A2.same n3.same;have M:=E0'.max Ee (by rw[List.length_map];exact hln.symm);have hro3:=n3.same _ _ hob';have hp4:H4 p=some (.lst (List.zipWith gE (eV ps g day) EV)):=b4 _ _ n3.at_ (qa1 n3.at_ hro3 (by intro z;cases z));obtain ⟨dxr,hru⟩:=A3.rule.ob;have nru:ru≠ro:=qa1 hru hro3 (by intro z;injection z with _ _ z;have:=qs1 rl (gv g);have z':rf rl (gv g)=rof ru day le dy dh:=z;rw[z'] at this;cases this);have s04:Same H H4:=b4.same (s2.trans n3.same) f1;refine ⟨_,rfl,q ro { qz6 ru rl p dy dh ps g day with es:=_,ge:=_ } H4 ⟨⟨dx2,h4⟩,A3.rule.but2 b4 hro3 qed (by intro xs z;cases z) nru,?_,b4 _ _ A3.yo (qa1 A3.yo hro3 (by intro z;cases z)),b4 _ _ A3.he (qa1 A3.he hro3 (by intro z;cases z)),A3.ne⟩ rfl rfl rfl rfl rfl M ?_ s04 (s1.free z2) (s1.free z3) ⟨rfl,rfl,s2.free n3.fresh⟩⟩
  ·rw[M.eq] at hp4;exact hp4
  ·show (List.zipWith _ _ _).length=ps.length
   rw[List.length_zipWith,List.length_map];omega
end
section
variable {P:Program} {w:World} {K:Frag} {mg:Str->Option Value} {base:Heap} {C_Roll C_Rule C_Book C_BookError C_NoNumber C_NoRule C_Backward C_NoName C_NoMark:Addr}
theorem EdS.uniq {E:List V} {a b:List Int} {g h:Option Int} (x:EdS E a g) (y:EdS E b h):a=b/\g=h:=by
 have e:=x.eq.symm.trans y.eq;have hl:(a.map V.int).length=(b.map V.int).length:=by have:=congrArg List.length e;simp only[List.length_append,List.length_singleton] at this;omega
 obtain ⟨e1,e2⟩:=List.append_inj e hl;refine ⟨?_,?_⟩
 ·have:∀ {a b:List Int},a.map V.int=b.map V.int->a=b:=fun {a b} e=>by
   induction a generalizing b with
   | nil=>cases b with
    | nil=>rfl
    | cons _ _=>cases e
   | cons x t ih=>cases b with
    | nil=>cases e
    | cons y u=>injection e with h1 h2;injection h1 with h1;rw[h1,ih h2]
  exact this e1
 ·injection e2 with h1 _
  cases g<;>cases h<;>first|rfl|(injection h1 with h1;rw[h1])|cases h1
end
section
variable {P:Program} {w:World} {K:Frag} {mg:Str->Option Value} {base:Heap} {C_Roll C_Rule C_Book C_BookError C_NoNumber C_NoRule C_Backward C_NoName C_NoMark:Addr}
inductive qii (C R:Addr) (vs:List V) (H:Hp) (Q:VK) (E_:XK):Prop
 | mk:∀ (ro:Addr) (c:qaz) (s:Abs) (LY LZ LY' LZ':List (List Int)) (d:Int) (fs:List Int) (fg:Option Int),vs=[.ref ro,.int d]->RR C R H ro c s LY LZ->qd1 c->EdS (c.es.map V.int ++ [gv c.ge]) c.es c.ge->Bd c.day->Bd d->c.day<=d->LY.length<64->LZ.length<64->EdS (List.zipWith gE (eV c.ps c.g d) (c.es.map V.int ++ [gv c.ge])) fs fg->LY'.length<64->LZ'.length<64->qnr (qb8 (c.ps.map (·.2)) fs fg) LY' LZ' (qcu s) (qco s)->(∀ r' c' H',c'.ps=c.ps->c'.g=c.g->c'.day=d->c'.es=fs->c'.ge=fg->qd1 c'->RR C R H' r' c' (qf9 (qb8 (c.ps.map (·.2)) fs fg) qok (qcu s) (qco s)) LY' LZ'->Same H H'->(H c'.dy=none/\H c'.dh=none)->(c'.ru=c.ru/\c'.rl=c.rl/\H c'.le=none)->Q (.ref r') H')->qii C R vs H Q E_
theorem qx0 (T:Txt K mg C_Roll C_Rule C_Book C_BookError C_NoNumber C_NoRule C_Backward C_NoName C_NoMark):qbz P w K mg base 7 "aged" ["roll", "day"] (qii C_Roll C_Rule):=by
 obtain ⟨f,fd,F,hm⟩:=T.f_aged;have nd:=sc_aged.nd;refine F.def_ hm (F.ok sc_aged (λvs H Q E h=>?_) (λcdv A outer s H vs Q E hr h=>?_)) (F.binds λ_ _ _ _ _ _ us hl=>by obtain ⟨_,_,rfl⟩:=L2.lq2 hl;rfl)
 ·obtain ⟨ro,c,s',LY,LZ,LY',LZ',d,fs,fg,rfl,_⟩:=h;rfl
 ·obtain ⟨ro,c,s',LY,LZ,LY',LZ',d,fs,fg,rfl,R0,ok,E0',hd0,hd,hle,ly,lz,Ef,ly',lz',tk,q⟩:=h
  obtain ⟨dx,hob⟩:=R0.obj;obtain ⟨Y0,Z0,A0,B0⟩:=id R0;have hEl:(c.es.map V.int ++ [gv c.ge]).length=c.ps.length+1:=by simp[ok.es]
  have g5:=ok.pr.good.hi;refine ⟨_,(qac (qbc (qap qjp (pv 1) (qa9 (pv 0) T.cl_Roll (qje T) (hr.mono (by decide))) (qat _))
    (qaf qde)
    qao)
   (qac (qay (i:=2) nd rfl (Or.inl rfl) (qax (qmn T) (hr.mono (by decide)) rfl (qaa (qa9 (pv 0) T.cl_Roll (qig T) (hr.mono (by decide))) (qaa (pv 1) (qaa (qa9 (pv 0) T.cl_Roll (qg4 T) (hr.mono (by decide))) qad)))))
   (qac (qby (qsi (pv 2) T.cl_Roll (qih T) (hr.mono (by decide)) (qaa (pv 0) qad)))
   (qaf (qam (pv 2)))))),?_⟩
  walk_at "r"
  refine ⟨ro,dx,_,rfl,hob,qqv _ _ _ _ _,ro,_,rfl,A0,?_⟩
  walk_at "r"
  refine qhp (λz=>absurd (of_decide_eq_true z) (by show ¬ d<c.day;omega)) λ_=>?_
  walk_at "r"
  refine ⟨ro,dx,_,rfl,hob,qnk _ _ _ _ _,ro,_,rfl,A0,?_⟩
  walk_at "r"
  refine ⟨ro,dx,_,rfl,hob,qle _ _ _ _ _,ro,_,rfl,A0,λle H3 n3=>?_⟩;have s03:=n3.same;refine ⟨c.ru,c.rl,le,c.ps,c.g,d,_,c.es,c.ge,rfl,A0.rule.same s03,ok.pr,hd,n3.at_,E0'.ed,Nat.le_trans (Nat.le_of_eq hEl) (by omega),hEl,E0',ok.es,λr' c' H4 A4 e1 e2 e3 eY eZ Ec hcl s4 f1 f2 w1=>?_⟩;obtain ⟨z1,z2⟩:=EdS.uniq Ec Ef;have okc:qd1 c':=⟨by rw[e1,e2];exact ok.pr,by rw[hcl,e1]⟩;have ec:{ c' with Y:=[],Z:=[] }=c':=by
   cases c'
   simp only at eY eZ;rw[eY,eZ]
  have R4:RR C_Roll C_Rule H4 r' c' qok LY' LZ':=⟨[],[],by rw[ec];exact A4,RAbs.zero rfl rfl⟩;have s04:=s03.trans s4;have ecell:cellD c'=qb8 (c.ps.map (·.2)) fs fg:=by unfold cellD;rw[e1,z1,z2]
  obtain ⟨dx4,hob4⟩:=R4.obj;obtain ⟨⟨Yr,hYr⟩,⟨Zr,hZr⟩⟩:=(R0.same s03).dicts
  walk_at "r"
  refine ⟨r',dx4,_,rfl,hob4,qf6 _ _ _ _ _ (by decide +kernel) (by decide +kernel) (by decide +kernel) (by decide +kernel) (by decide +kernel),?_⟩
  walk_at "r"
  refine ⟨r',ro,c',c,qok,s',LY',LZ',LY,LZ,rfl,R4,R0.same s04,okc,⟨qah hYr f1,qah hYr f2,qah hZr f1,qah hZr f2⟩,ly',lz',ly,lz,by rw[ecell];exact tk,λH5 R5 b5=>?_⟩;rw[ecell] at R5
  walk_at "r"
  exact q r' c' H5 e1 e2 e3 z1 z2 okc R5 (λb o e=>b5 _ _ (s04 _ _ e) (qah (s03 _ _ e) f1) (qah (s03 _ _ e) f2)) ⟨s03.free f1,s03.free f2⟩ ⟨w1.1,w1.2.1,s03.free w1.2.2⟩
end
section
variable {P:Program} {w:World} {K:Frag} {mg:Str->Option Value} {base:Heap} {C_Roll C_Rule C_Book C_BookError C_NoNumber C_NoRule C_Backward C_NoName C_NoMark:Addr}
inductive qjf (C R:Addr) (vs:List V) (H:Hp) (Q:VK) (E_:XK):Prop
 | mk:∀ (ru rl e lr:Addr) (ps:List (Int×Int)) (g:Option Int) (day:Int) (EV:List V) (es:List Int) (ge:Option Int) (ys:List V) (rs:List Rd3),vs=[.ref ru,.int day,.ref e,.ref lr]->RuleAt R H ru rl ps g->Pr ps g->Bd day->H e=some (.lst EV)->(∀ v∈EV,Ed v)->EV.length<=10->EV.length=ps.length+1->EdS EV es ge->es.length=ps.length->H lr=some (.lst ys)->Tups H ys (rs.map l3)->(∀ r∈rs,ROk r)->rs.length<60->(∀ ro c LY LZ H',c.ps=ps->c.g=g->c.day=day->EdS (List.zipWith gE (eV ps g day) EV) c.es c.ge->qd1 c->RR C R H' ro c (qer (cellD c) rs) LY LZ->LY.length<=rs.length->LZ.length<=rs.length->Same H H'->H c.dy=none->H c.dh=none->(c.ru=ru/\c.rl=rl/\H c.le=none)->Q (.ref ro) H')->qjf C R vs H Q E_
theorem qrd (T:Txt K mg C_Roll C_Rule C_Book C_BookError C_NoNumber C_NoRule C_Backward C_NoName C_NoMark):qbz P w K mg base 7 "roll_of" ["rule", "day", "edges", "readings"] (qjf C_Roll C_Rule):=by
 obtain ⟨f,fd,F,hm⟩:=T.f_roll_of;have nd:=sc_roll_of.nd;refine F.def_ hm (F.ok sc_roll_of (λvs H Q E h=>?_) (λcdv A outer s H vs Q E hr h=>?_)) (F.binds λ_ _ _ _ _ _ us hl=>by obtain ⟨_,_,_,_,rfl⟩:=L2.lq4 hl;rfl)
 ·obtain ⟨ru,rl,e,lr,ps,g,day,EV,es,ge,ys,rs,rfl,_⟩:=h;rfl
 ·obtain ⟨ru,rl,e,lr,ps,g,day,EV,es,ge,ys,rs,rfl,R,Pg,hd,he,hEd,h10,hEl,Ee,hln,hlr,hT,hR,h60,q⟩:=h
  refine ⟨_,(qac (qay (i:=4) nd rfl (Or.inl rfl) (qax (qmn T) (hr.mono (by decide)) rfl (qaa (pv 0) (qaa (pv 1) (qaa (pv 2) qad)))))
   (qac (qev PassesOwn.never rfl (qcd (pv 3)) (qeu rfl (qav (qas (i:=5) nd rfl (Or.inl rfl)) (qav (qas (i:=6) nd rfl (Or.inl rfl)) (qav (qas (i:=7) nd rfl (Or.inl rfl)) qc7))))
    (qaf (qby (qdz (qcr ⟨rfl,rfl,rfl⟩) (pv 4) T.cl_Roll (qff T) (hr.mono (by decide)) .nil (qaa (pv 5) (qaa (pv 6) (qaa (pv 7) qad)))))))
   (qaf (qam (pv 4))))),?_⟩
  refine ⟨_,rfl,_,rfl,_,rfl,ru,rl,e,ps,g,day,EV,es,ge,rfl,R,Pg,hd,he,hEd,h10,hEl,Ee,hln,λro c H1 A1 e1 e2 e3 eY eZ Ec hcl s1 f1 f2 w1=>?_⟩;have okc:qd1 c:=⟨by rw[e1,e2];exact Pg,by rw[hcl,e1]⟩;have ec:{ c with Y:=[],Z:=[] }=c:=by
   cases c;simp only at eY eZ;rw[eY,eZ]
  have R1:RR C_Roll C_Rule H1 ro c qok (rs.map qz7) (rs.map (qt4 (cellD c))):=⟨[],[],by rw[ec];exact A1,RAbs.zero rfl rfl⟩;clear A1 ec eY eZ;have hyl:=hT.length;rw[List.length_map] at hyl;refine ⟨_,rfl,lr,rfl,⟨_,SqL.of (s1 _ _ hlr)⟩,qdy (xs:=ys) (λi σ H2=>Same H H2/\RR C_Roll C_Rule H2 ro c (qer (cellD c) (rs.take i)) (rs.map qz7) (rs.map (qt4 (cellD c)))/\∃ v5 v6 v7:Option V,σ=[some (.ref ru),some (.int day),some (.ref e),some (.ref lr),some (.ref ro),v5,v6,v7]) ⟨s1,R1,none,none,none,rfl⟩ (λi σ H2 _ h2=>SqL.of (h2.1 _ _ hlr)) ?_ ?_⟩
  ·rintro i x σ H2 hxi ⟨s2,R2,v5,v6,v7,rfl⟩
   obtain ⟨r',hr',a,rfl,ha⟩:=hT.get hxi;rw[List.getElem?_map] at hr';obtain ⟨r,hri,rfl⟩:=Option.map_eq_some_iff.mp hr';have hm:=List.mem_of_getElem? hri;have ok:=hR r hm;have htk:rs.take (i+1)=rs.take i ++ [r]:=qlb _ i _ hri;obtain ⟨dx,hob⟩:=R2.obj;refine ⟨a,_,rfl,SqT.of (s2 _ _ ha),rfl,_,_,rfl,_,_,rfl,_,_,rfl,rfl,?_⟩;refine ⟨_,rfl,ro,dx,_,rfl,hob,qh6 _ _ _ _ _,_,rfl,_,rfl,_,rfl,?_⟩;simp only[qgf,List.cons_append,List.nil_append,List.append_nil];refine R2.putX okc ok.1 ok.2.2.1 ok.2 (by rw[List.length_map];omega) (by rw[List.length_map];omega) (List.mem_map.mpr ⟨r,hm,rfl⟩) (λa w e=>List.mem_map.mpr ⟨r,hm,by unfold qt4;rw[e]⟩) λH3 R3 b3=>?_
   refine ⟨λb o eb=>b3 _ _ (s2 _ _ eb) (qah eb f1) (qah eb f2),?_,_,_,_,rfl⟩;rw[htk,qjb];exact R3
  ·rintro σ H2 ⟨s2,R2,v5,v6,v7,rfl⟩
   rw[hyl,List.take_length] at R2;exact ⟨_,rfl,q ro c _ _ H2 e1 e2 e3 Ec okc R2 (by rw[List.length_map];exact Nat.le_refl _) (by rw[List.length_map];exact Nat.le_refl _) s2 f1 f2 w1⟩
end
section
variable {P:Program} {w:World} {K:Frag} {mg:Str->Option Value} {base:Heap} {C_Roll C_Rule C_Book C_BookError C_NoNumber C_NoRule C_Backward C_NoName C_NoMark:Addr}
def qs9 (cell:Int->Option (Int×Int)) (r:List Int):List Int:=match cell (r.headD 0) with
 | none=>[]
 | some p=>[p.1,p.2]
theorem RR.skeys {C R:Addr} {H:Hp} {ro:Addr} {c:qaz} {s:Abs} {LY LZ:List (List Int)} (h:RR C R H ro c s LY LZ):∃ my mz,SKeys s.y my/\SKeys s.z mz/\(∀ k∈my,k.length=2)/\∀ k∈mz,k.length=2:=by
 obtain ⟨Y,Z,A,B⟩:=h;obtain ⟨ks,dk,_⟩:=B.yk;obtain ⟨js,dj,_⟩:=B.zk;have hy:∀ k,k∈ks↔s.y k≠none:=λk=>by rw[dk.mem,B.yv];cases s.y k<;>simp
 have hz:∀ k,k∈js↔s.z k≠none:=λk=>by rw[dj.mem];exact qt9 B k
 obtain ⟨my,sy,_⟩:=qj8 dk.nd hy;obtain ⟨mz,sz,_⟩:=qj8 dj.nd hz;exact ⟨my,mz,sy,sz,λk hk=>dk.ne k ((hy k).mpr ((sy.mem k).mp hk)),λk hk=>dj.ne k ((hz k).mpr ((sz.mem k).mp hk))⟩
def TagL (s:Abs) (T:List (List Int)):Prop:=(∀ k,s.y k≠none->(0 :: k)∈T)/\∀ k,s.z k≠none->(1 :: k)∈T
theorem TagL.of {cell:Int->Option (Int×Int)} {s:Abs} {rs:List Rd3} (h:Tags cell s rs):TagL s (rs.map (qvm cell)):=
 ⟨λk hk=>let ⟨r,hr,e⟩:=h.1 k hk;List.mem_map.mpr ⟨r,hr,e⟩,λk hk=>let ⟨r,hr,e⟩:=h.2 k hk;List.mem_map.mpr ⟨r,hr,e⟩⟩
theorem qnt {s:Abs} {T:List (List Int)} {my mz:List (List Int)} (tg:TagL s T) (hy:SKeys s.y my) (hz:SKeys s.z mz):my.length+mz.length<=T.length:=by
 have nd:(my.map (λk=>(0:Int) :: k) ++ mz.map (λk=>(1:Int) :: k)).Nodup:=by
  rw[List.nodup_append];refine ⟨?_,?_,λa ha b hb e=>?_⟩
  ·rw[List.nodup_iff_pairwise_ne,List.pairwise_map];exact hy.nd.imp λhne e=>hne (by injection e)
  ·rw[List.nodup_iff_pairwise_ne,List.pairwise_map];exact hz.nd.imp λhne e=>hne (by injection e)
  ·obtain ⟨k,_,rfl⟩:=List.mem_map.mp ha
   obtain ⟨l,_,rfl⟩:=List.mem_map.mp hb;injection e with e _
   omega
 have sub:(my.map (λk=>(0:Int) :: k) ++ mz.map (λk=>(1:Int) :: k)) ⊆ T:=λx hx=>by
  rcases List.mem_append.mp hx with h|h
  ·obtain ⟨k,hk,rfl⟩:=List.mem_map.mp h
   exact tg.1 k ((hy.mem k).mp hk)
  ·obtain ⟨k,hk,rfl⟩:=List.mem_map.mp h
   exact tg.2 k ((hz.mem k).mp hk)
 have:=List.Nodup.length_le_of_subset nd sub
 simpa using this
theorem qvt {cell:Int->Option (Int×Int)} {s:Abs} {my mz:List (List Int)} {B N:Int} (h:AbsB B N s) (hB:B<10 ^ 46) (hN:N<10 ^ 45) (sy:SKeys s.y my) (sz:SKeys s.z mz):qnr cell my (my.map (qs9 cell) ++ mz.map (qs9 cell)) (qcu s) (qco s):=by
 refine ⟨λr hr=>?_,λr hr=>?_⟩
 ·rw[<- qd2 sy] at hr
  obtain ⟨k,hk,rfl⟩:=List.mem_map.mp hr
  cases e:s.y k with
  | none=>exact absurd e ((sy.mem k).mp hk)
  | some n =>
   obtain ⟨t,v,rfl,h1,h2,h3,h4⟩:=h.y k n e;refine ⟨t,v,n,by unfold qmj;rw[e];rfl,⟨by unfold qki;dsimp only;omega,by unfold qrr;dsimp only;omega⟩,hk,λa w ec=>List.mem_append_left _ (List.mem_map.mpr ⟨_,hk,?_⟩)⟩;unfold qs9;dsimp only [List.headD];rw[ec]
 ·rw[<- qdf sz] at hr
  obtain ⟨k,hk,rfl⟩:=List.mem_map.mp hr
  cases e:s.z k with
  | none=>exact absurd e ((sz.mem k).mp hk)
  | some x =>
   obtain ⟨a,w,rfl,h1,h2⟩:=h.z k x e;refine ⟨a,w,x.1,x.2.1,x.2.2.1,x.2.2.2,by unfold qnp i4;rw[e];rfl,by unfold qki;omega,λb w' ec=>List.mem_append_right _ (List.mem_map.mpr ⟨_,hk,?_⟩)⟩;unfold qs9;dsimp only [List.headD];rw[ec]
end
section
variable {P:Program} {w:World} {K:Frag} {mg:Str->Option Value} {base:Heap} {C_Roll C_Rule C_Book C_BookError C_NoNumber C_NoRule C_Backward C_NoName C_NoMark:Addr}
theorem qvu {x:V} (hx:Ed x):gE x x=x:=by
 rcases hx with rfl|⟨i,rfl⟩
 ·rfl
 ·show V.int (if i>i then i else i)=V.int i
  split<;>rfl
theorem qnu:∀ {xs:List V},(∀ v∈xs,Ed v)->List.zipWith gE xs xs=xs
 | [],_=>rfl
 | x :: xs,h=>by
  rw[List.zipWith_cons_cons,qvu (h x List.mem_cons_self),qnu λv hv=>h v (List.mem_cons_of_mem _ hv)]
theorem RR.mono {C R:Addr} {H:Hp} {ro:Addr} {c:qaz} {s:Abs} {LY LZ LY' LZ':List (List Int)} (h:RR C R H ro c s LY LZ) (a:LY ⊆ LY') (b:LZ ⊆ LZ'):RR C R H ro c s LY' LZ':=
 let ⟨Y,Z,A,B⟩:=h;⟨Y,Z,A,B.mono a b⟩
structure R63 (C R:Addr) (H:Hp) (r:Addr) (q:qaz) (ps:List (Int×Int)) (g:Option Int) (d:Int) (es:List Int) (ge:Option Int) (rs:List Rd3) (LY LZ:List (List Int)):Prop where
 R:RR C R H r q (qer (qb8 (ps.map (·.2)) es ge) rs) LY LZ
 ok:qd1 q
 qp:q.ps=ps
 qg:q.g=g
 qd:q.day=d
 qe:q.es=es
 qh:q.ge=ge
 P:Pr ps g
 wb:∀ p∈ps,p.2<=10 ^ 35
 E:EdS (es.map V.int ++ [gv ge]) es ge
 F:Fall (ps.map (·.2)) es ge
 dom:List.zipWith gE (eV ps g d) (es.map V.int ++ [gv ge])=es.map V.int ++ [gv ge]
 hd:Bd d
 hr:∀ r∈rs,RLt r
 ly:LY.length<=rs.length
 lz:LZ.length<=rs.length
structure qz8 (ps:List (Int×Int)) (g:Option Int) (D:Int) (EV:List V) (es:List Int) (ge:Option Int) (fs:List Int) (fg:Option Int):Prop where
 Ef:EdS (List.zipWith gE (eV ps g D) EV) fs fg
 F:Fall (ps.map (·.2)) fs fg
 L:Later es fs ge fg
 eq:List.zipWith gE (eV ps g D) EV=fs.map V.int ++ [gv fg]
 dom:List.zipWith gE (eV ps g D) (fs.map V.int ++ [gv fg])=fs.map V.int ++ [gv fg]
 E:EdS (fs.map V.int ++ [gv fg]) fs fg
section
variable {C R N:Addr} {H H':Hp} {r ru rl:Addr} {q:qaz} {ps ps2:List (Int×Int)} {g g2:Option Int} {d D:Int} {es fs:List Int} {ge fg:Option Int} {rs:List Rd3} {LY LZ:List (List Int)} {Q:VK} {E:XK}
theorem R63.same (e:Same H H') (h:R63 C R H r q ps g d es ge rs LY LZ):R63 C R H' r q ps g d es ge rs LY LZ:={ h with R:=h.R.same e }
theorem R63.cellD (h:R63 C R H r q ps g d es ge rs LY LZ):TB.cellD q=qb8 (ps.map (·.2)) es ge:=by unfold TB.cellD;rw[h.qp,h.qe,h.qh]
theorem R63.eq (h:R63 C R H r q ps g d es ge rs LY LZ):q.es.map V.int ++ [gv q.ge]=es.map V.int ++ [gv ge]:=by rw[h.qe,h.qh]
theorem R63.len (h:R63 C R H r q ps g d es ge rs LY LZ):1<=es.length:=by have:=h.F.len;have:=h.P.good.lo;rw[List.length_map] at *;omega
theorem R63.take (h:R63 C R H r q ps g d es ge rs LY LZ) (h50:rs.length<=50) (cell':Int->Option (Int×Int)) :
  ∃ LY' LZ',LY'.length<=rs.length/\LZ'.length<=rs.length/\qnr cell' LY' LZ' (qcu (qer (qb8 (ps.map (·.2)) es ge) rs)) (qco (qer (qb8 (ps.map (·.2)) es ge) rs)):=by
 obtain ⟨my,mz,sy,sz,h2,hz2⟩:=h.R.skeys;have nr:qyi (10 ^ 36) (qb8 (ps.map (·.2)) es ge):=qq1 (by rw[List.length_map];exact h.P.good.lo) h.len (by decide) λw hw=>by
  obtain ⟨p,hp,rfl⟩:=List.mem_map.mp hw;obtain ⟨i,hi,e⟩:=List.getElem_of_mem hp;have:=h.wb p hp;exact ⟨(h.P.good.each i p (by rw[<- e];exact List.getElem?_eq_getElem hi)).2,by omega⟩
 have hab:=qq3 nr rs (s:=qok) (N:=0) qzp (by omega) λr hr=>h.hr r hr
 have hN:0+10 ^ 31*(rs.length:Int)<=10 ^ 33:=by omega
 have hab':AbsB (5*10 ^ 45+10 ^ 36) (10 ^ 33) (qer (qb8 (ps.map (·.2)) es ge) rs):=⟨λk n e=>by obtain ⟨t,v,e1,e2,e3,e4,e5⟩:=hab.y k n e;exact ⟨t,v,e1,e2,e3,e4,by omega⟩,hab.z⟩;have cnt:=qnt (TagL.of (qq2 (qb8 (ps.map (·.2)) es ge) rs)) sy sz;rw[List.length_map] at cnt;have tk:=qvt (cell:=cell') hab' (by omega) (by omega) sy sz;exact ⟨_,_,by omega,by rw[List.length_append,List.length_map,List.length_map];omega,tk⟩
theorem R63.put {t:Rd3} (h:R63 C R H r q ps g d es ge rs LY LZ) (h50:rs.length<50) (ht:RLt t) (k:∀ H',R63 C R H' r q ps g d es ge (rs ++ [t]) ([t.1,t.2.1] :: LY) (qt4 (qb8 (ps.map (·.2)) es ge) t :: LZ)->But2 q.dy q.dh H H'->Q (.bl (qb8 (ps.map (·.2)) es ge t.1).isSome) H'):qe3 C R N [.ref r,.int t.1,.int t.2.1,.int t.2.2] H Q E:=by
 have l1:=h.ly;have l2:=h.lz;have ht':=ht;obtain ⟨t1,t2⟩:=ht;have ec:=h.cellD;refine (h.R.mono (List.subset_cons_self [t.1,t.2.1] _) (List.subset_cons_self (qt4 (qb8 (ps.map (·.2)) es ge) t) _)).putX h.ok (by unfold qki;omega) t2.2.1 (by unfold qrr;dsimp only;omega) (by rw[List.length_cons];omega) (by rw[List.length_cons];omega) List.mem_cons_self (λa w e=>by rw[ec] at e;unfold qt4;rw[e];exact List.mem_cons_self) λH3 R3 b3=>?_
 rw[ec] at R3 ⊢;refine k H3 { h with R:=?_,hr:=λr hr=>(List.mem_append.mp hr).elim (h.hr r) λz=>by rw[List.mem_singleton.mp z];exact ht',ly:=by rw[List.length_cons,List.length_append,List.length_singleton];omega,lz:=by rw[List.length_cons,List.length_append,List.length_singleton];omega } b3;rw[qjb];exact R3
theorem R63.aged (h:R63 C R H r q ps g d es ge rs LY LZ) (h50:rs.length<=50) (hD:Bd D) (hdD:d<=D) (U:qz8 ps g D (es.map V.int ++ [gv ge]) es ge fs fg) (k:∀ r' q' LY' LZ' H',Same H H'->R63 C R H' r' q' ps g D fs fg rs LY' LZ'->(H q'.dy=none/\H q'.dh=none)->(q'.ru=q.ru/\q'.rl=q.rl/\H q'.le=none)->Q (.ref r') H'):qii C R [.ref r,.int D] H Q E:=by
 have l1:=h.ly;have l2:=h.lz;obtain ⟨LY',LZ',l3,l4,tk⟩:=h.take (by omega) (qb8 (ps.map (·.2)) fs fg);refine ⟨r,q,_,LY,LZ,LY',LZ',D,fs,fg,rfl,h.R,h.ok,by rw[h.eq,h.qe,h.qh];exact h.E,by rw[h.qd];exact h.hd,hD,by rw[h.qd];exact hdD,by omega,by omega,by rw[h.qp,h.qg,h.eq];exact U.Ef,by omega,by omega,by rw[h.qp];exact tk,λr' c' H' e1 e2 e3 e4 e5 ok' R' s f f2=>?_⟩;have hT:=qvq (qq6 h.F U.F U.L h.len) rs;rw[h.qp,hT] at R';exact k r' c' LY' LZ' H' s ⟨R',ok',by rw[e1,h.qp],by rw[e2,h.qg],e3,e4,e5,h.P,h.wb,U.E,U.F,U.dom,hD,h.hr,by omega,by omega⟩ f f2
end
end
section
variable {P:Program} {w:World} {K:Frag} {mg:Str->Option Value} {base:Heap} {C_Roll C_Rule C_Book C_BookError C_NoNumber C_NoRule C_Backward C_NoName C_NoMark:Addr}
theorem qis {n:Nat} (h:n<=20000):n<=sizeLine:=by rw[sizeLine_eq];omega
def qbs (n:Int) (x:List Nat):Prop:=1<=x.length/\(x.length:Int)<=n/\∀ c∈x,97<=c/\c<=122
instance (n:Int) (x:List Nat):Decidable (qbs n x):=inferInstanceAs (Decidable (_/\_/\_))
def qdd (n:Int):V->Bool
 | .str s=>decide (qbs n s.cps.toList)
 | _=>false
theorem qkc (n:Int) (x:List Nat):qdd n (.str (S x))=decide (qbs n x):=rfl
theorem qx1 (c:Nat):decide (c∈(Str.ofString "abcdefghijklmnopqrstuvwxyz").cps.toList)=decide (97<=c/\c<=122):=by
 have e:(Str.ofString "abcdefghijklmnopqrstuvwxyz").cps.toList=[97,98,99,100,101,102,103,104,105,106,107,108,109,110,111,112,113,114,115,116,117,118,119,120,121,122]:=by decide +kernel
 rw[e,decide_eq_decide]
 simp
 omega
def qta:Sp:=λvs H Q _=>∃ v n,vs=[v,.int n]/\TextV H v/\∀ H',Same H H'->Q (.bl (qdd n v)) H'
theorem qfg (T:Txt K mg C_Roll C_Rule C_Book C_BookError C_NoNumber C_NoRule C_Backward C_NoName C_NoMark):qbz P w K mg base 1 "is_small_word" ["thing", "longest"] qta:=by
 obtain ⟨f,fd,F,hm⟩:=T.f_is_small_word;have nd:=sc_is_small_word.nd;refine F.def_ hm (F.ok sc_is_small_word (λvs H Q E h=>?_) (λcdv A outer s H vs Q E hr h=>?_)) (F.binds λ_ _ _ _ _ _ us hl=>by obtain ⟨_,_,rfl⟩:=L2.lq2 hl;rfl)
 ·obtain ⟨v,n,rfl,_⟩:=h;rfl
 ·obtain ⟨v,n,rfl,hv,q⟩:=h
  refine ⟨_,(qac (qbc (qd5 (qda (qan qep rfl T.b_isinstance qa3 (qaa (pv 0) (qaa (qeo (v:=.ty "str") rfl T.b_str qkx rfl) qad)))))
    (qaf (qam qfx))
    qao)
   (qaf (qam (qgu (qdk qwd qae (qan qk1 rfl T.b_len qd9 (qaa (pv 0) qad)) (qat _)) (qgu (qdk qwd (qan qk1 rfl T.b_len qd9 (qaa (pv 0) qad)) (pv 1) (qat _)) (qi2 (qan (qm6 rfl) rfl T.b_all qtr (qaa (qky (vars:=["sign"]) (frees:=[]) (fv:=[]) rfl (qo2 rfl rfl (by decide +kernel) (by decide +kernel) (by intro p hp;cases hp) rfl) trivial (qxe (pv 0)) (qgk (by decide)) (λ_ _ _ _=>(qas (i:=0) (show (["sign"]:List Str).Nodup by decide +kernel) rfl (Or.inl rfl))) (λ_ _ _ _=>qci) (λ_ _ _ _=>(qdk qxg (pv 0) (qen (v:=.str "abcdefghijklmnopqrstuvwxyz") rfl T.c_LETTERS.choose_spec ⟨_,rfl⟩) rfl))) qad)))))))),?_⟩
  rcases hv with ⟨x,rfl,hx⟩|hv
  ·have no:¬ qbs n x->Q (V.bl false) H:=λz=>by
    have:=q H (Same.refl _);rw[qkc,decide_eq_false z] at this;exact this
   refine ⟨_,rfl,_,_,_,_,rfl,.str _,qjz K,_,rfl,qd7 ?_⟩
   walk_at "r"
   refine ⟨qis (by omega),?_⟩
   walk_at "r"
   by_cases l1:(1:Int)<=x.length
   ·rw[if_pos (decide_eq_true l1)]
    walk_at "r"
    refine ⟨qis (by omega),?_⟩
    walk_at "r"
    by_cases l2:(x.length:Int)<=n
    ·rw[if_pos (decide_eq_true l2)]
     refine ⟨_,rfl,_,rfl,qxf (x:=x) (λi ys H2=>Same H H2/\ys=(x.take i).map λd=>V.bl (decide (97<=d/\d<=122))) (qis (by omega)) ⟨Same.refl _,rfl⟩ (λi ys H2 h2=>by rw[h2.2,List.length_map,List.length_take];omega) ?_ ?_⟩
     ·rintro i d ys H2 hi ⟨s2,rfl⟩
      refine qaw (qsl (qd8 ?_));refine ⟨_,rfl,d,_,rfl,rfl,s2,?_⟩;rw[qx1];exact (qzk _ x i d hi).symm
     ·rintro ys H2 p H3 ⟨s2,rfl⟩ n3
      rw[List.take_length] at n3;refine ⟨p,x.map λd=>decide (97<=d/\d<=122),rfl,SqL.of (by rw[List.map_map];exact n3.at_),?_⟩;have:=q H3 (s2.trans n3.same);have ef:decide (qbs n x)=(x.map λd=>decide (97<=d/\d<=122)).all id:=by
       rw[Bool.eq_iff_iff,decide_eq_true_iff,List.all_eq_true]
       constructor
       ·intro h b hb
        obtain ⟨d,hd,rfl⟩:=List.mem_map.mp hb;exact decide_eq_true (h.2.2 d hd)
       ·intro h
        refine ⟨by omega,l2,λd hd=>?_⟩;exact of_decide_eq_true (h _ (List.mem_map.mpr ⟨d,hd,rfl⟩))
      rw[qkc,ef] at this;exact this
    ·rw[if_neg (λy=>l2 (of_decide_eq_true y))]
     exact no λh=>l2 h.2.1
   ·rw[if_neg (λy=>l1 (of_decide_eq_true y))]
    exact no λh=>l1 (by have:=h.1;omega)
  ·obtain ⟨t,ty,kt⟩:=OddV.ty (K:=K) hv
   refine ⟨_,rfl,_,_,_,_,rfl,ty,kt,_,rfl,qd8 ?_⟩;have:=q H (Same.refl _)
   rcases hv with rfl|⟨i,rfl⟩|⟨b,rfl⟩|⟨p,xs,rfl,h⟩|⟨p,xs,rfl,h⟩<;>exact this
def qlu (n:Int):Sp:=λvs H Q _=>∃ v,vs=[v]/\TextV H v/\∀ H',Same H H'->Q (.bl (qdd n v)) H'
theorem qlv (T:Txt K mg C_Roll C_Rule C_Book C_BookError C_NoNumber C_NoRule C_Backward C_NoName C_NoMark):qbz P w K mg base 2 "is_name" ["thing"] (qlu 12):=by
 obtain ⟨f,fd,F,hm⟩:=T.f_is_name;have nd:=sc_is_name.nd;refine F.def_ hm (F.ok sc_is_name (λvs H Q E h=>?_) (λcdv A outer s H vs Q E hr h=>?_)) (F.binds λ_ _ _ _ _ _ us hl=>by obtain ⟨_,rfl⟩:=L2.lq1 hl;rfl)
 ·obtain ⟨v,rfl,_⟩:=h;rfl
 ·obtain ⟨v,rfl,hv,q⟩:=h
  refine ⟨_,(qaf (qam (qax (qfg T) (hr.mono (by decide)) rfl (qaa (pv 0) (qaa (qen (v:=.int 12) rfl T.c_LONGEST_NAME.choose_spec ⟨_,rfl⟩) qad))))),?_⟩;exact ⟨_,rfl,v,12,rfl,hv,q⟩
theorem qre (T:Txt K mg C_Roll C_Rule C_Book C_BookError C_NoNumber C_NoRule C_Backward C_NoName C_NoMark):qbz P w K mg base 2 "is_mark" ["thing"] (qlu 8):=by
 obtain ⟨f,fd,F,hm⟩:=T.f_is_mark;have nd:=sc_is_mark.nd;refine F.def_ hm (F.ok sc_is_mark (λvs H Q E h=>?_) (λcdv A outer s H vs Q E hr h=>?_)) (F.binds λ_ _ _ _ _ _ us hl=>by obtain ⟨_,rfl⟩:=L2.lq1 hl;rfl)
 ·obtain ⟨v,rfl,_⟩:=h;rfl
 ·obtain ⟨v,rfl,hv,q⟩:=h
  refine ⟨_,(qaf (qam (qax (qfg T) (hr.mono (by decide)) rfl (qaa (pv 0) (qaa (qen (v:=.int 8) rfl T.c_LONGEST_MARK.choose_spec ⟨_,rfl⟩) qad))))),?_⟩;exact ⟨_,rfl,v,8,rfl,hv,q⟩
theorem qvv:(Str.ofString "")=S []:=by decide +kernel
theorem small_iff {n:Int} {v:V}:qdd n v=true↔∃ x,v=tS x/\qbs n x:=by
 constructor
 ·intro h
  obtain ⟨s,rfl⟩:∃ s,v=.str s:=by
   cases v<;>first|exact ⟨_,rfl⟩|exact Bool.noConfusion h
  exact ⟨s.cps.toList,by rw[show tS s.cps.toList=V.str (S s.cps.toList) from rfl,qz3],of_decide_eq_true h⟩
 ·rintro ⟨x,rfl,h⟩
  rw[qkc];exact decide_eq_true h
def qij (vs:List V):Prop:=(∀ v∈vs,qdd 8 v=true)/\vs.Nodup/\vs.length<=8
theorem qkd {n:Int}:∀ {vs:List V},(∀ v∈vs,qdd n v=true)->∃ ms:List (List Nat),vs=ms.map tS/\∀ m∈ms,qbs n m
 | [],_=>⟨[],rfl,by simp⟩
 | v :: vs,h=>by
  obtain ⟨x,rfl,hx⟩:=small_iff.mp (h v List.mem_cons_self);obtain ⟨ms,rfl,hm⟩:=qkd (vs:=vs) λv hv=>h v (List.mem_cons_of_mem _ hv)
  exact ⟨x :: ms,rfl,λm hm'=>by
   rcases List.mem_cons.mp hm' with rfl|z
   ·exact hx
   ·exact hm m z⟩
theorem qfr {a b:List Nat} (h:tS a=tS b):a=b:=qva (V.str.inj h)
theorem qik {α β:Type} {f:α->β} (inj:∀ a b,f a=f b->a=b):∀ {l:List α},(l.map f).Nodup↔l.Nodup
 | []=>by simp
 | x :: l=>by
  rw[List.map_cons,List.nodup_cons,List.nodup_cons,qik inj];refine and_congr ⟨λh z=>h (List.mem_map.mpr ⟨x,z,rfl⟩),λh z=>?_⟩ Iff.rfl;obtain ⟨y,hy,e⟩:=List.mem_map.mp z;exact h (inj _ _ e ▸ hy)
theorem qlw {α:Type} [DecidableEq α]:∀ l:List α,qe2 l=l.length↔l.Nodup
 | []=>by simp[qe2]
 | x :: l=>by
  have:=qj1 l;have ih:=qlw l;unfold qe2;rw[List.nodup_cons]
  by_cases e:x∈l
  ·rw[if_pos e,List.length_cons]
   exact ⟨λh=>by omega,λh=>absurd e h.1⟩
  ·rw[if_neg e,List.length_cons]
   exact ⟨λh=>⟨e,ih.mp (by omega)⟩,λh=>by have:=ih.mpr h.2;omega⟩
def qrf (N:Addr):Sp:=λvs H Q E=>∃ (l:Addr) (us:List V),vs=[.ref l]/\H l=some (.lst us)/\(∀ v∈us,TextV H v)/\us.length<=60/\(qij us->∀ H',Same H H'->Q .non H')/\(¬ qij us->∀ H',Same H H'->E (.ref N) none H')
theorem qke (T:Txt K mg C_Roll C_Rule C_Book C_BookError C_NoNumber C_NoRule C_Backward C_NoName C_NoMark):qz1 P w K mg base 3 "check_marks" ["marks"] [] (qrf C_NoMark):=by
 obtain ⟨f,fd,F,hm⟩:=T.f_check_marks;have nd:=sc_check_marks.nd;refine ⟨f,fd,(F.okX sc_check_marks (λvs H Q E h=>?_) (λcdv A outer s H vs Q E hr h=>?_)),hm,F.kp,(F.binds λ_ _ _ _ _ _ us hl=>by obtain ⟨_,rfl⟩:=L2.lq1 hl;rfl)⟩
 ·obtain ⟨l,us,rfl,_⟩:=h;rfl
 ·obtain ⟨l,us,rfl,hl,hv,hz,q1,q2⟩:=h
  refine ⟨_,(qac (qbc (qd5 (qda (qan (qm6 rfl) rfl T.b_all qtr (qaa (qky (vars:=["mark"]) (frees:=[]) (fv:=[]) rfl (qo2 rfl rfl (by decide +kernel) (by decide +kernel) (by intro p hp;cases hp) rfl) trivial (qcd (pv 0)) (qgk (by decide)) (λ_ _ _ _=>(qas (i:=0) (show (["mark"]:List Str).Nodup by decide +kernel) rfl (Or.inl rfl))) (λ_ _ _ _=>qci) (λ_ _ _ _=>(qax (qre T) (hr.mono (by decide)) rfl (qaa (pv 0) qad)))) qad))))
    (qaf (qfk (qbi ⟨rfl,rfl,rfl⟩) rfl T.ex_NoMark rfl T.mg_NoMark (qaa qd4 qad)))
    qao)
   (qac (qbc (qap qkm (qan qqk rfl T.b_len qd9 (qaa (qd6 (qqj rfl) rfl T.b_set qxj (qaa (pv 0) qad)) qad)) (qan qbf rfl T.b_len qd9 (qaa (pv 0) qad)) (qat _))
    (qaf (qfk (qbi ⟨rfl,rfl,rfl⟩) rfl T.ex_NoMark rfl T.mg_NoMark (qaa qd4 qad)))
    qao)
   (qaf (qbc (qap qrx (qan qbf rfl T.b_len qd9 (qaa (pv 0) qad)) (qen (v:=.int 8) rfl T.c_MOST_MARKS.choose_spec ⟨_,rfl⟩) (qat _))
    (qaf (qfk (qbi ⟨rfl,rfl,rfl⟩) rfl T.ex_NoMark rfl T.mg_NoMark (qaa qd4 qad)))
    qao)))),?_⟩
  refine ⟨_,rfl,l,rfl,⟨_,SqL.of hl⟩,qhd (xs:=us) (λi ys H2=>Same H H2/\ys=(us.take i).map λv=>V.bl (qdd 8 v)) (qis (by omega)) ⟨Same.refl _,rfl⟩ (λi ys H2 h2=>⟨SqL.of (h2.1 _ _ hl),by rw[h2.2,List.length_map,List.length_take];omega⟩) ?_ ?_⟩
  ·rintro i v ys H2 hi ⟨s2,rfl⟩
   refine qaw (qsl (qd8 ?_));refine ⟨_,rfl,v,rfl,(hv v (List.mem_of_getElem? hi)).same s2,λH3 s3=>⟨s2.trans s3,?_⟩⟩;exact (qzk _ us i v hi).symm
  ·rintro ys H2 p H3 ⟨s2,rfl⟩ n3
   rw[List.take_length] at n3;have s03:=s2.trans n3.same;refine ⟨p,us.map λv=>qdd 8 v,rfl,SqL.of (by rw[List.map_map];exact n3.at_),_,rfl,?_⟩
   by_cases a1:∀ v∈us,qdd 8 v=true
   ·have e1:(us.map λv=>qdd 8 v).all id=true:=by
     rw[List.all_eq_true];intro b hb;obtain ⟨v,hv,rfl⟩:=List.mem_map.mp hb;exact a1 v hv
    rw[e1];refine qd7 ?_;obtain ⟨ms,rfl,hm⟩:=qkd a1;have hl3:=s03 _ _ hl;rw[show (ms.map tS)=(ms.map S).map V.str by rw[List.map_map];rfl] at hl3;refine ⟨_,rfl,l,ms.map S,rfl,SqL.of hl3,by simp at hz ⊢;omega,λst H4 n4=>?_⟩;have hl4:=n4.same _ _ hl3;have su:=qj1 (ms.map S).reverse;rw[List.length_reverse,List.length_map] at su;rw[List.length_map] at hz;refine ⟨st,_,rfl,n4.at_,by omega,_,rfl,l,_,rfl,.inl (SqL.of hl4),rfl,_,rfl,?_⟩;have s04:=s03.trans n4.same;have ed:(!decide (V.int (qe2 (ms.map S).reverse:Nat)=V.int (((ms.map S).map V.str).length:Nat))) = !decide (ms.map tS).Nodup:=by
     congr 1
     rw[decide_eq_decide];rw[qik (λ_ _=>qfr),<- qik (f:=S) (λ_ _=>qva),<- (List.reverse_perm (ms.map S)).nodup_iff,<- qlw]
     simp
     omega
    rw[ed]
    by_cases a2:(ms.map tS).Nodup
    ·rw[decide_eq_true a2]
     refine qd7 ?_;refine ⟨_,rfl,l,_,rfl,.inl (SqL.of hl4),_,_,rfl,rfl,_,rfl,?_⟩;refine qhp (λz=>?_) λz=>?_
     ·walk_at "r"
      refine q2 (λh=>?_) H4 s04;have:=of_decide_eq_true z;have:=h.2.2
      simp at *
      omega
     ·refine q1 ⟨a1,a2,?_⟩ H4 s04
      have:=of_decide_eq_false (Bool.not_eq_true _ ▸ z)
      simp at *
      omega
    ·rw[decide_eq_false a2]
     refine qd8 ?_
     walk_at "r"
     exact q2 (λh=>a2 h.2.1) H4 s04
   ·have e1:(us.map λv=>qdd 8 v).all id=false:=by
     rw[Bool.eq_false_iff];intro h;rw[List.all_eq_true] at h;exact a1 λv hv=>h _ (List.mem_map.mpr ⟨v,hv,rfl⟩)
    rw[e1];refine qd8 ?_
    walk_at "r"
    exact q2 (λh=>a1 h.1) H3 s03
end
section
variable {P:Program} {w:World} {K:Frag} {mg:Str->Option Value} {base:Heap} {C_Roll C_Rule C_Book C_BookError C_NoNumber C_NoRule C_Backward C_NoName C_NoMark:Addr}
abbrev RC:=Addr×qaz×List Rd3×List (List Nat)
abbrev qbk:=List (List Nat×RC)
structure EdOk (B:BookD) (es:List Int) (ge:Option Int):Prop where
 P:Pr B.ps B.g
 wb:∀ p∈B.ps,p.2<=10 ^ 35
 E:EdS (es.map V.int ++ [gv ge]) es ge
 F:Fall (B.ps.map (·.2)) es ge
 dom:List.zipWith gE (eV B.ps B.g B.day) (es.map V.int ++ [gv ge])=es.map V.int ++ [gv ge]
 hd:Bd B.day
structure RB (CR R:Addr) (H:Hp) (B:BookD) (es:List Int) (ge:Option Int) (e:RC):Prop where
 ex:∃ LY LZ,R63 CR R H e.1 e.2.1 B.ps B.g B.day es ge e.2.2.1 LY LZ
 ru:e.2.1.ru=B.ru
 rl:e.2.1.rl=B.rl
 n50:e.2.2.1.length<=50
structure BkC (C CR R:Addr) (H:Hp) (b:Addr) (B:BookD) (es:List Int) (ge:Option Int) (X:qbk):Prop where
 ob:∃ dx,H b=some (.ins C dx (bof B.ru B.day B.le B.dm B.dr))
 rule:RuleAt R H B.ru B.rl B.ps B.g
 ed:H B.le=some (.lst (es.map V.int ++ [gv ge]))
 ms:∃ kvs,H B.dm=some (.dK kvs)/\Ents (λv (e:RC)=>TxtL H v (qf5 e.2.2.2)) kvs X
 rs:∃ kvs,H B.dr=some (.dK kvs)/\Ents (λv e=>v=.ref e.1/\RB CR R H B es ge e) kvs X
 ne:B.dm≠B.dr
 ok:EdOk B es ge
section
variable {C CR R b:Addr} {B:BookD} {es:List Int} {ge:Option Int} {X:qbk} {H H':Hp}
theorem RB.same {e:RC} (h:RB CR R H B es ge e) (s:Same H H'):RB CR R H' B es ge e:=⟨let ⟨a,b,r⟩:=h.ex;⟨a,b,r.same s⟩,h.ru,h.rl,h.n50⟩
theorem BkC.same (h:BkC C CR R H b B es ge X) (s:Same H H'):BkC C CR R H' b B es ge X:=
 ⟨let ⟨dx,e⟩:=h.ob;⟨dx,s _ _ e⟩,h.rule.same s,s _ _ h.ed,let ⟨k,e,r⟩:=h.ms;⟨k,s _ _ e,r.imp λ_ _ q=>q.same s⟩,let ⟨k,e,r⟩:=h.rs;⟨k,s _ _ e,r.imp λ_ _ ⟨e1,e2⟩=>⟨e1,e2.same s⟩⟩,h.ne,h.ok⟩
theorem RB.frame {e:RC} {q:qaz} {Y Z:KV} (h:RB CR R H B es ge e) (bu:But2 q.dy q.dh H H') (hy:H q.dy=some (.dT Y)) (hz:H q.dh=some (.dT Z)) (ap:ApartD e.2.1 q):RB CR R H' B es ge e:=
 ⟨let ⟨a,b,r⟩:=h.ex;⟨a,b,{ r with R:=r.R.frame bu hy hz ap.1 ap.2.1 ap.2.2.1 ap.2.2.2 }⟩,h.ru,h.rl,h.n50⟩
theorem TxtL.but2 {v:V} {ms:List (List Nat)} {a c:Addr} {Y Z:KV} (h:TxtL H v ms) (bu:But2 a c H H') (hy:H a=some (.dT Y)) (hz:H c=some (.dT Z)):TxtL H' v ms:=
 let ⟨x,e,q⟩:=h;⟨x,e,bu.keep hy hz q (by intro K z;cases z)⟩
theorem Ents.imp2 {α:Type} {R1 R2:V->α->Prop} {kvs:List (Key×V)} {E:List (List Nat×α)} (h:Ents R1 kvs E) (f:∀ x v a,(x,a)∈E->R1 v a->R2 v a):Ents R2 kvs E:=by
 unfold Ents at h ⊢
 induction h with
 | nil=>exact .nil
 | cons a t ih=>exact .cons ⟨a.1,f _ _ _ List.mem_cons_self a.2⟩ (ih λx v a m=>f x v a (List.mem_cons_of_mem _ m))
theorem BkC.frame {q:qaz} {Y Z:KV} (h:BkC C CR R H b B es ge X) (bu:But2 q.dy q.dh H H') (hy:H q.dy=some (.dT Y)) (hz:H q.dh=some (.dT Z)) (ap:∀ x e,(x,e)∈X->ApartD e.2.1 q):BkC C CR R H' b B es ge X:=
 ⟨let ⟨dx,e⟩:=h.ob;⟨dx,bu.keep hy hz e (by intro K z;cases z)⟩,h.rule.keep2 bu hy hz,bu.keep hy hz h.ed (by intro K z;cases z),
  let ⟨k,e,r⟩:=h.ms;⟨k,bu.keep hy hz e (by intro K z;cases z),r.imp λ_ _ z=>z.but2 bu hy hz⟩,let ⟨k,e,r⟩:=h.rs;⟨k,bu.keep hy hz e (by intro K z;cases z),r.imp2 λx v a m ⟨e1,e2⟩=>⟨e1,e2.frame bu hy hz (ap x a m)⟩⟩,h.ne,h.ok⟩
def XOk (X:qbk):Prop:=X.Pairwise λp p'=>p.1≠p'.1/\ApartD p.2.2.1 p'.2.2.1
theorem ApartD.symm {a b:qaz} (h:ApartD a b):ApartD b a:=⟨h.1.symm,h.2.2.1.symm,h.2.1.symm,h.2.2.2.symm⟩
theorem XOk.one (h:XOk X) {x:List Nat} {e e':RC} (h1:(x,e)∈X) (h2:(x,e')∈X):e=e':=by
 unfold XOk at h
 induction X with
 | nil=>cases h1
 | cons p X ih =>
  rw[List.pairwise_cons] at h
  rcases List.mem_cons.mp h1 with z1|z1<;>rcases List.mem_cons.mp h2 with z2|z2
  ·exact (Prod.mk.inj (z1.trans z2.symm)).2
  ·exact absurd (show p.1=x by rw[<- z1]) (h.1 _ z2).1
  ·exact absurd (show p.1=x by rw[<- z2]) (h.1 _ z1).1
  ·exact ih h.2 z1 z2
theorem XOk.apart (h:XOk X) {x y:List Nat} {e e':RC} (h1:(x,e)∈X) (h2:(y,e')∈X) (n:y≠x):ApartD e'.2.1 e.2.1:=by
 unfold XOk at h
 induction X with
 | nil=>cases h1
 | cons p X ih =>
  rw[List.pairwise_cons] at h
  rcases List.mem_cons.mp h1 with z1|z1<;>rcases List.mem_cons.mp h2 with z2|z2
  ·exact absurd (Prod.mk.inj (z1.trans z2.symm)).1.symm n
  ·have:=(h.1 _ z2).2;rw[<- z1] at this;exact this.symm
  ·have:=(h.1 _ z1).2;rw[<- z2] at this;exact this
  ·exact ih h.2 z1 z2
def qiz (x:List Nat) (r:Rd3) (p:List Nat×RC):List Nat×RC:=if p.1=x then (p.1,p.2.1,p.2.2.1,p.2.2.2.1 ++ [r],p.2.2.2.2) else p
theorem qjg (x:List Nat) (r:Rd3) (p:List Nat×RC):(qiz x r p).1=p.1:=by unfold qiz;split<;>rfl
theorem qrg (x:List Nat) (r:Rd3) (p:List Nat×RC):(qiz x r p).2.2.1=p.2.2.1:=by unfold qiz;split<;>rfl
theorem qx2 (x:List Nat) (r:Rd3) (p:List Nat×RC):(qiz x r p).2.1=p.2.1:=by unfold qiz;split<;>rfl
theorem qx3 (x:List Nat) (r:Rd3) (p:List Nat×RC):(qiz x r p).2.2.2.2=p.2.2.2.2:=by unfold qiz;split<;>rfl
theorem XOk.add (h:XOk X) (x:List Nat) (r:Rd3):XOk (X.map (qiz x r)):=by
 unfold XOk at h ⊢;rw[List.pairwise_map];exact h.imp fun {p p'} z=>by rw[qjg,qjg,qrg,qrg];exact z
theorem qrh (x:List Nat) (r:Rd3):(X.map (qiz x r)).map (·.1)=X.map (·.1):=by
 rw[List.map_map];exact List.map_congr_left λp _=>qjg x r p
theorem Ents.map2 {α β:Type} {R1:V->α->Prop} {R2:V->β->Prop} {kvs:List (Key×V)} {E:List (List Nat×α)} {f:List Nat×α->List Nat×β} (h:Ents R1 kvs E) (h1:∀ p,(f p).1=p.1) (g:∀ p∈E,∀ v,R1 v p.2->R2 v (f p).2):Ents R2 kvs (E.map f):=by
 unfold Ents at h ⊢
 induction h with
 | nil=>exact .nil
 | cons a t ih=>exact .cons ⟨by rw[h1];exact a.1,g _ List.mem_cons_self _ a.2⟩ (ih λp m=>g p (List.mem_cons_of_mem _ m))
theorem BkC.put {x:List Nat} {e:RC} {r:Rd3} {Y Z:KV} (h:BkC C CR R H b B es ge X) (ok:XOk X) (hx:(x,e)∈X) (bu:But2 e.2.1.dy e.2.1.dh H H') (hy:H e.2.1.dy=some (.dT Y)) (hz:H e.2.1.dh=some (.dT Z)) (R':RB CR R H' B es ge (e.1,e.2.1,e.2.2.1 ++ [r],e.2.2.2)):BkC C CR R H' b B es ge (X.map (qiz x r)):=by
 refine ⟨let ⟨dx,e⟩:=h.ob;⟨dx,bu.keep hy hz e (by intro K z;cases z)⟩,h.rule.keep2 bu hy hz,bu.keep hy hz h.ed (by intro K z;cases z),?_,?_,h.ne,h.ok⟩
 ·obtain ⟨k,e1,q⟩:=h.ms
  exact ⟨k,bu.keep hy hz e1 (by intro K z;cases z),q.map2 (qjg x r) λp _ v z=>by rw[qx3];exact z.but2 bu hy hz⟩
 ·obtain ⟨k,e1,q⟩:=h.rs
  refine ⟨k,bu.keep hy hz e1 (by intro K z;cases z),q.map2 (qjg x r) λp hp v z=>⟨by rw[qx2];exact z.1,?_⟩⟩
  by_cases n:p.1=x
  ·have ep:p.2=e:=ok.one (x:=x) (by rw[<- n];exact hp) hx
   unfold qiz;rw[if_pos n,ep];exact R'
  ·unfold qiz
   rw[if_neg n];exact z.2.frame bu hy hz (ok.apart hx (y:=p.1) hp n)
end
theorem qot (es:List Int) (ge:Option Int):Later es es ge ge where
 len:=rfl
 up:=λi x y hx hy=>by rw[hx] at hy;cases hy;exact Int.le_refl _
 gn:=λz hz=>⟨z,hz,Int.le_refl _⟩
theorem EdOk.up {B:BookD} {es:List Int} {ge:Option Int} (h:EdOk B es ge):qz8 B.ps B.g B.day (es.map V.int ++ [gv ge]) es ge es ge:=
 ⟨by rw[h.dom];exact h.E,h.F,qot _ _,h.dom,h.dom,h.E⟩
theorem EdOk.of {ru rl le dm dr:Addr} {ps:List (Int×Int)} {g:Option Int} {day:Int} (P:Pr ps g) (wb:∀ p∈ps,p.2<=10 ^ 35) (hd:Bd day):EdOk ⟨ru,rl,le,dm,dr,ps,g,day⟩ (ps.map λp=>cut day p.1 p.2) (g.map λz=>cut day z (lw ps)):=by
 have Ex:=EdS.of P hd;have Ex':=Ex;rw[Ex.eq] at Ex';refine ⟨P,wb,Ex',Fall.of P day,?_,hd⟩
 show List.zipWith gE (eV ps g day) _=_
 rw[<- Ex.eq];exact qnu Ex.ed
inductive qlx (C CR R:Addr) (vs:List V) (H:Hp) (Q:VK) (E_:XK):Prop
 | mk:∀ (b dx ru rl:Addr) (ps:List (Int×Int)) (g:Option Int) (day:Int),vs=[.ref b,.ref ru,.int day]->H b=some (.ins C dx [])->RuleAt R H ru rl ps g->Pr ps g->(∀ p∈ps,p.2<=10 ^ 35)->Bd day->(∀ le dm dr H',BkC C CR R H' b ⟨ru,rl,le,dm,dr,ps,g,day⟩ (ps.map λp=>cut day p.1 p.2) (g.map λz=>cut day z (lw ps)) []->H le=none->H dm=none->H dr=none->But b H H'->Q .non H')->qlx C CR R vs H Q E_
theorem qnv (T:Txt K mg C_Roll C_Rule C_Book C_BookError C_NoNumber C_NoRule C_Backward C_NoName C_NoMark):qyg P w K mg base C_Book 4 "Book" ["self", "rule", "day"] [] (qlx C_Book C_Roll C_Rule):=by
 obtain ⟨f,fd,F,M⟩:=T.f_Book_init;have nd:=sc_Book_init.nd;refine ⟨f,fd,(F.ok sc_Book_init (λvs H Q E h=>?_) (λcdv A outer s H vs Q E hr h=>?_)),T.mg_Book,M,(F.binds λ_ _ _ _ _ _ us hl=>by obtain ⟨_,_,_,rfl⟩:=L2.lq3 hl;rfl)⟩
 ·obtain ⟨ro,dx,ru,rl,ps,g,day,rfl,_⟩:=h;rfl
 ·obtain ⟨ro,dx,ru,rl,ps,g,day,rfl,hro,R,Pg,wb,hd,q⟩:=h
  obtain ⟨dx2,hru⟩:=R.ob;have nru:ru≠ro:=qa1 hru hro (by intro z;injection z with _ _ z;have:=qs1 rl (gv g);rw[z] at this;cases this);refine ⟨_,(qac (qcn (pv 0) (pv 1) rfl)
   (qac (qcn (pv 0) (pv 2) rfl)
   (qac (qcn (pv 0) (qax (qdi T) (hr.mono (by decide)) rfl (qaa (pv 1) (qaa (pv 2) qad))) rfl)
   (qac (qcn (pv 0) qf4 rfl)
   (qaf (qcn (pv 0) qf4 rfl)))))),?_⟩
  refine ⟨_,rfl,_,rfl,ro,C_Book,dx,[],rfl,hro,T.cl_Book,T.na_Book_kept_rule,(by show 0<1000;decide),λH1 b1 h1=>?_⟩;refine ⟨_,rfl,_,rfl,ro,C_Book,dx,_,rfl,h1,T.cl_Book,T.na_Book_kept_day,(by show 1<1000;decide),λH2 b2 h2=>?_⟩;have R2:=(R.but2 b1 hro qed (by intro xs z;cases z) nru).but2 b2 h1 qed (by intro xs z;cases z) nru;refine ⟨_,rfl,_,rfl,ru,rl,ps,g,day,rfl,R2,Pg,hd,λle H3 n3=>?_⟩;refine ⟨_,rfl,ro,C_Book,dx,_,rfl,n3.same _ _ h2,T.cl_Book,T.na_Book_kept_edges,(by show 2<1000;decide),λH4 b4 h4=>?_⟩;intro dy H5 n5;refine ⟨_,rfl,ro,C_Book,dx,_,rfl,n5.same _ _ h4,T.cl_Book,T.na_Book_kept_marks,(by show 3<1000;decide),λH6 b6 h6=>?_⟩;intro dh H7 n7;refine ⟨_,rfl,ro,C_Book,dx,_,rfl,n7.same _ _ h6,T.cl_Book,T.na_Book_kept_rolls,(by show 4<1000;decide),λH8 b8 h8=>?_⟩;have R8:=((((R2.same n3.same).but2 b4 (n3.same _ _ h2) qed (by intro xs z;cases z) nru).same n5.same |>.but2 b6 (n5.same _ _ h4) qed (by intro xs z;cases z) nru).same n7.same).but2 b8 (n7.same _ _ h6) qed (by intro xs z;cases z) nru;have bb:But ro H H8:=λb o e hb=>b8 _ _ (n7.same _ _ (b6 _ _ (n5.same _ _ (b4 _ _ (n3.same _ _ (b2 _ _ (b1 _ _ e hb) hb)) hb)) hb)) hb
  have e4:H4 le=some (.lst (eV ps g day)):=b4 _ _ n3.at_ (qa1 n3.at_ (n3.same _ _ h2) (by intro z;cases z));have e6:H6 dy=some (.dK []):=b6 _ _ n5.at_ (qa1 n5.at_ (n5.same _ _ h4) (by intro z;cases z));have fb:∀ {G G':Hp} {o:HO},(∀ b o,G b=some o->b≠ro->G' b=some o)->G' ro=some o->∀ b,G' b=none->G b=none:=fun {G G' o} k1 k2 b h0=>by
   cases e:G b with
   | none=>rfl
   | some u =>
    by_cases hb:b=ro
    ·subst hb;rw[k2] at h0;cases h0
    ·rw[k1 b u e hb] at h0;cases h0
  have fr2:=fb (G:=H) (G':=H2) (λb o e hb=>b2 _ _ (b1 _ _ e hb) hb) h2;have fr4:=fb (G:=H2) (G':=H4) (λb o e hb=>b4 _ _ (n3.same _ _ e) hb) h4;have fr6:=fb (G:=H4) (G':=H6) (λb o e hb=>b6 _ _ (n5.same _ _ e) hb) h6;refine q le dy dh H8 ⟨⟨dx,h8⟩,R8,?_,⟨[],?_,.nil⟩,⟨[],?_,.nil⟩,qah e6 n7.fresh,EdOk.of Pg wb hd⟩ (fr2 _ n3.fresh) (fr2 _ (fr4 _ n5.fresh)) (fr2 _ (fr4 _ (fr6 _ n7.fresh))) bb
  ·have e8:=b8 _ _ (n7.same _ _ (b6 _ _ (n5.same _ _ e4) (qa1 (n5.same _ _ e4) (n5.same _ _ h4) (by intro z;cases z)))) (qa1 (n7.same _ _ (b6 _ _ (n5.same _ _ e4) (qa1 (n5.same _ _ e4) (n5.same _ _ h4) (by intro z;cases z)))) (n7.same _ _ h6) (by intro z;cases z))
   show H8 le=some (.lst (((ps.map λp=>cut day p.1 p.2).map V.int) ++ [gv (g.map λz=>cut day z (lw ps))]))
   rw[<- (EdS.of Pg hd).eq];exact e8
  ·exact b8 _ _ (n7.same _ _ e6) (qa1 (n7.same _ _ e6) (n7.same _ _ h6) (by intro z;cases z))
  ·exact b8 _ _ n7.at_ (qa1 n7.at_ (n7.same _ _ h6) (by intro z;cases z))
inductive qjh (C CR R:Addr) (vs:List V) (H:Hp) (Q:VK) (E_:XK):Prop
 | mk:∀ (b:Addr) (B:BookD) (es:List Int) (ge:Option Int) (X:qbk),vs=[.ref b]->BkC C CR R H b B es ge X->X.length<64->(∀ l H',New H H' l (.lst ((qf5 (X.map (·.1))).map tS))->Q (.ref l) H')->qjh C CR R vs H Q E_
theorem qly (T:Txt K mg C_Roll C_Rule C_Book C_BookError C_NoNumber C_NoRule C_Backward C_NoName C_NoMark):qfm P w K mg base C_Book 1 "names" ["self"] (qjh C_Book C_Roll C_Rule):=by
 obtain ⟨f,fd,F,hm⟩:=T.f_Book_names;have nd:=sc_Book_names.nd;refine ⟨f,fd,(F.ok sc_Book_names (λvs H Q E h=>?_) (λcdv A outer s H vs Q E hr h=>?_)),hm,(F.binds λ_ _ _ _ _ _ us hl=>by obtain ⟨_,rfl⟩:=L2.lq1 hl;rfl)⟩
 ·obtain ⟨b,B,es,ge,X,rfl,_⟩:=h;rfl
 ·obtain ⟨b,B,es,ge,X,rfl,A',hz,q⟩:=h
  obtain ⟨dx,hob⟩:=A'.ob;obtain ⟨kvs,hk,en⟩:=A'.rs;refine ⟨_,(qaf (qam (qan (qd3 rfl) rfl T.b_sorted qeb (qaa (qbe (pv 0) rfl) qad)))),?_⟩;exact ⟨_,rfl,b,C_Book,dx,_,_,rfl,hob,T.cl_Book,T.na_Book_kept_rolls,qlp _ _ _ _ _,B.dr,kvs,X.map (·.1),rfl,.inl hk,en.keys,by simpa using hz,q⟩
inductive qlz (C CR R:Addr) (vs:List V) (H:Hp) (Q:VK) (E_:XK):Prop
 | mk:∀ (b:Addr) (B:BookD) (es:List Int) (ge:Option Int) (X:qbk),vs=[.ref b]->BkC C CR R H b B es ge X->Q (.ref B.ru) H->qlz C CR R vs H Q E_
inductive qnw (C CR R:Addr) (vs:List V) (H:Hp) (Q:VK) (E_:XK):Prop
 | mk:∀ (b:Addr) (B:BookD) (es:List Int) (ge:Option Int) (X:qbk),vs=[.ref b]->BkC C CR R H b B es ge X->Q (.int B.day) H->qnw C CR R vs H Q E_
inductive qji (C CR R:Addr) (vs:List V) (H:Hp) (Q:VK) (E_:XK):Prop
 | mk:∀ (b:Addr) (B:BookD) (es:List Int) (ge:Option Int) (X:qbk),vs=[.ref b]->BkC C CR R H b B es ge X->(∀ p H',New H H' p (.lst (es.map V.int ++ [gv ge]))->Q (.ref p) H')->qji C CR R vs H Q E_
theorem qil (T:Txt K mg C_Roll C_Rule C_Book C_BookError C_NoNumber C_NoRule C_Backward C_NoName C_NoMark):qfm P w K mg base C_Book 1 "rule" ["self"] (qlz C_Book C_Roll C_Rule):=by
 obtain ⟨f,fd,F,hm⟩:=T.f_Book_rule;have nd:=sc_Book_rule.nd;refine ⟨f,fd,(F.ok sc_Book_rule (λvs H Q E h=>?_) (λcdv A outer s H vs Q E hr h=>?_)),hm,(F.binds λ_ _ _ _ _ _ us hl=>by obtain ⟨_,rfl⟩:=L2.lq1 hl;rfl)⟩
 ·obtain ⟨b,B,es,ge,X,rfl,_⟩:=h;rfl
 ·obtain ⟨b,B,es,ge,X,rfl,A',q⟩:=h
  obtain ⟨dx,hob⟩:=A'.ob;refine ⟨_,(qaf (qam (qbe (pv 0) rfl))),?_⟩;exact ⟨_,rfl,b,C_Book,dx,_,_,rfl,hob,T.cl_Book,T.na_Book_kept_rule,qt7 _ _ _ _ _,q⟩
theorem qou (T:Txt K mg C_Roll C_Rule C_Book C_BookError C_NoNumber C_NoRule C_Backward C_NoName C_NoMark):qfm P w K mg base C_Book 1 "day" ["self"] (qnw C_Book C_Roll C_Rule):=by
 obtain ⟨f,fd,F,hm⟩:=T.f_Book_day;have nd:=sc_Book_day.nd;refine ⟨f,fd,(F.ok sc_Book_day (λvs H Q E h=>?_) (λcdv A outer s H vs Q E hr h=>?_)),hm,(F.binds λ_ _ _ _ _ _ us hl=>by obtain ⟨_,rfl⟩:=L2.lq1 hl;rfl)⟩
 ·obtain ⟨b,B,es,ge,X,rfl,_⟩:=h;rfl
 ·obtain ⟨b,B,es,ge,X,rfl,A',q⟩:=h
  obtain ⟨dx,hob⟩:=A'.ob;refine ⟨_,(qaf (qam (qbe (pv 0) rfl))),?_⟩;exact ⟨_,rfl,b,C_Book,dx,_,_,rfl,hob,T.cl_Book,T.na_Book_kept_day,qq8 _ _ _ _ _,q⟩
theorem ql0 (T:Txt K mg C_Roll C_Rule C_Book C_BookError C_NoNumber C_NoRule C_Backward C_NoName C_NoMark):qfm P w K mg base C_Book 1 "edges" ["self"] (qji C_Book C_Roll C_Rule):=by
 obtain ⟨f,fd,F,hm⟩:=T.f_Book_edges;have nd:=sc_Book_edges.nd;refine ⟨f,fd,(F.ok sc_Book_edges (λvs H Q E h=>?_) (λcdv A outer s H vs Q E hr h=>?_)),hm,(F.binds λ_ _ _ _ _ _ us hl=>by obtain ⟨_,rfl⟩:=L2.lq1 hl;rfl)⟩
 ·obtain ⟨b,B,es,ge,X,rfl,_⟩:=h;rfl
 ·obtain ⟨b,B,es,ge,X,rfl,A',q⟩:=h
  obtain ⟨dx,hob⟩:=A'.ob;refine ⟨_,(qaf (qam (qd6 qea rfl T.b_list qhr (qaa (qbe (pv 0) rfl) qad)))),?_⟩;exact ⟨_,rfl,b,C_Book,dx,_,_,rfl,hob,T.cl_Book,T.na_Book_kept_edges,qt8 _ _ _ _ _,B.le,_,rfl,.inl (SqL.of A'.ed),q⟩
def qgt (X:qbk) (v:V):Prop:=∃ x,v=tS x/\qbs 12 x/\x∈X.map (·.1)
inductive qjj (C CR R N:Addr) (vs:List V) (H:Hp) (Q:VK) (E:XK):Prop
 | mk:∀ (b:Addr) (B:BookD) (es:List Int) (ge:Option Int) (X:qbk) (v:V),vs=[.ref b,v]->BkC C CR R H b B es ge X->TextV H v->(qgt X v->∀ H',Same H H'->Q .non H')->(¬ qgt X v->∀ H',Same H H'->E (.ref N) none H')->qjj C CR R N vs H Q E
theorem qfh (T:Txt K mg C_Roll C_Rule C_Book C_BookError C_NoNumber C_NoRule C_Backward C_NoName C_NoMark):qsp P w K mg base C_Book 3 "check_enrolled" ["self", "name"] [] (qjj C_Book C_Roll C_Rule C_NoName):=by
 obtain ⟨f,fd,F,hm⟩:=T.f_Book_check_enrolled;have nd:=sc_Book_check_enrolled.nd;refine ⟨f,fd,(F.okX sc_Book_check_enrolled (λvs H Q E h=>?_) (λcdv A outer s H vs Q E hr h=>?_)),hm,(F.binds λ_ _ _ _ _ _ us hl=>by obtain ⟨_,_,rfl⟩:=L2.lq2 hl;rfl)⟩
 ·obtain ⟨b,B,es,ge,X,v,rfl,_⟩:=h;rfl
 ·obtain ⟨b,B,es,ge,X,v,rfl,A',hv,q1,q2⟩:=h
  obtain ⟨dx,hob⟩:=A'.ob;obtain ⟨kvs,hk,en⟩:=A'.rs;refine ⟨_,(qaf (qbc (PW.pt (qit (qd5 (qda (qax (qlv T) (hr.mono (by decide)) rfl (qaa (pv 1) qad)))) (qfy (qmu (qpt (qez hr) (pv 1) (qbe (pv 0) rfl))))))
    (qaf (qfk (qbi ⟨rfl,rfl,rfl⟩) rfl T.ex_NoName rfl T.mg_NoName (qaa qd4 qad)))
    qao)),?_⟩
  refine ⟨_,rfl,v,rfl,hv,λH1 s1=>⟨_,rfl,?_⟩⟩
  cases hs:qdd 12 v with
  | false =>
   refine qd8 ?_
   walk_at "r"
   refine q2 (fun ⟨x,e,hx,_⟩=>?_) H1 s1;rw[small_iff.mpr ⟨x,e,hx⟩] at hs;cases hs
  | true =>
   refine qd7 ?_;obtain ⟨x,rfl,hx⟩:=small_iff.mp hs;refine ⟨_,rfl,_,rfl,b,C_Book,dx,_,_,rfl,s1 _ _ hob,T.cl_Book,T.na_Book_kept_rolls,qlp _ _ _ _ _,B.dr,_,rfl,DGet.k (k:=kS x) (s1 _ _ hk),_,rfl,?_⟩
   by_cases hin:x∈X.map (·.1)
   ·obtain ⟨u,a,e1,_,_⟩:=en.has hin
    rw[e1];refine qd7 ?_;exact q1 ⟨x,rfl,hx,hin⟩ H1 s1
   ·rw[en.hasn hin]
    refine qd8 ?_
    walk_at "r"
    refine q2 (fun ⟨y,e,_,hy⟩=>hin ?_) H1 s1;rw[qfr e];exact hy
inductive qnx (C CR R N:Addr) (vs:List V) (H:Hp) (Q:VK) (E:XK):Prop
 | mk:∀ (b:Addr) (B:BookD) (es:List Int) (ge:Option Int) (X:qbk) (v:V),vs=[.ref b,v]->BkC C CR R H b B es ge X->TextV H v->(∀ x e,v=tS x->qbs 12 x->(x,e)∈X->RB CR R H B es ge e->∀ H',Same H H'->Q (.ref e.1) H')->(¬ qgt X v->∀ H',Same H H'->E (.ref N) none H')->qnx C CR R N vs H Q E
theorem qfi (T:Txt K mg C_Roll C_Rule C_Book C_BookError C_NoNumber C_NoRule C_Backward C_NoName C_NoMark):qsp P w K mg base C_Book 4 "own_roll" ["self", "name"] [] (qnx C_Book C_Roll C_Rule C_NoName):=by
 obtain ⟨f,fd,F,hm⟩:=T.f_Book_own_roll;have nd:=sc_Book_own_roll.nd;refine ⟨f,fd,(F.okX sc_Book_own_roll (λvs H Q E h=>?_) (λcdv A outer s H vs Q E hr h=>?_)),hm,(F.binds λ_ _ _ _ _ _ us hl=>by obtain ⟨_,_,rfl⟩:=L2.lq2 hl;rfl)⟩
 ·obtain ⟨b,B,es,ge,X,v,rfl,_⟩:=h;rfl
 ·obtain ⟨b,B,es,ge,X,v,rfl,A',hv,q1,q2⟩:=h
  obtain ⟨dx,hob⟩:=A'.ob;refine ⟨_,(qac (qby (qdz (qbi ⟨rfl,rfl,rfl⟩) (pv 0) T.cl_Book (qfh T) (hr.mono (by decide)) .nil (qaa (pv 1) qad)))
   (qaf (qam (qhn (qez hr) (qbe (pv 0) rfl) (pv 1) (λ_ _=>rfl))))),?_⟩
  refine ⟨_,rfl,b,dx,_,rfl,hob,qg2 _ _ _ _ _ (by decide +kernel) (by decide +kernel) (by decide +kernel) (by decide +kernel) (by decide +kernel),_,rfl,b,B,es,ge,X,v,rfl,A',hv,λhin H1 s1=>?_,λhn H1 s1=>q2 hn H1 s1⟩;obtain ⟨x,rfl,hx,hxE⟩:=hin;obtain ⟨kvs,hk,en⟩:=A'.rs;obtain ⟨u,a,e1,e2,rfl,re⟩:=en.has hxE;have g:=DGet.k (k:=kS x) (s1 _ _ hk);rw[e1] at g;exact ⟨_,rfl,b,C_Book,dx,_,_,rfl,s1 _ _ hob,T.cl_Book,T.na_Book_kept_rolls,qlp _ _ _ _ _,_,rfl,B.dr,_,rfl,g,q1 x a rfl hx e2 re H1 s1⟩
inductive ql1 (C CR R N:Addr) (vs:List V) (H:Hp) (Q:VK) (E:XK):Prop
 | mk:∀ (b:Addr) (B:BookD) (es:List Int) (ge:Option Int) (X:qbk) (v:V),vs=[.ref b,v]->BkC C CR R H b B es ge X->TextV H v->(∀ x e,v=tS x->qbs 12 x->(x,e)∈X->∀ r' q' LY' LZ' H',Same H H'->R63 CR R H' r' q' B.ps B.g B.day es ge e.2.2.1 LY' LZ'->(H q'.dy=none/\H q'.dh=none)->(q'.ru=B.ru/\q'.rl=B.rl/\H q'.le=none)->Q (.ref r') H')->(¬ qgt X v->∀ H',Same H H'->E (.ref N) none H')->ql1 C CR R N vs H Q E
theorem qfw (T:Txt K mg C_Roll C_Rule C_Book C_BookError C_NoNumber C_NoRule C_Backward C_NoName C_NoMark):qsp P w K mg base C_Book 8 "roll" ["self", "name"] [] (ql1 C_Book C_Roll C_Rule C_NoName):=by
 obtain ⟨f,fd,F,hm⟩:=T.f_Book_roll;have nd:=sc_Book_roll.nd;refine ⟨f,fd,(F.okX sc_Book_roll (λvs H Q E h=>?_) (λcdv A outer s H vs Q E hr h=>?_)),hm,(F.binds λ_ _ _ _ _ _ us hl=>by obtain ⟨_,_,rfl⟩:=L2.lq2 hl;rfl)⟩
 ·obtain ⟨b,B,es,ge,X,v,rfl,_⟩:=h;rfl
 ·obtain ⟨b,B,es,ge,X,v,rfl,A',hv,q1,q2⟩:=h
  obtain ⟨dx,hob⟩:=A'.ob;refine ⟨_,(qaf (qam (qax (qx0 T) (hr.mono (by decide)) rfl (qaa (qdz (qbi ⟨rfl,rfl,rfl⟩) (pv 0) T.cl_Book (qfi T) (hr.mono (by decide)) .nil (qaa (pv 1) qad)) (qaa (qbe (pv 0) rfl) qad))))),?_⟩;refine ⟨_,rfl,b,dx,_,rfl,hob,qg2 _ _ _ _ _ (by decide +kernel) (by decide +kernel) (by decide +kernel) (by decide +kernel) (by decide +kernel),_,rfl,b,B,es,ge,X,v,rfl,A',hv,λx e ev hx hm re H1 s1=>?_,λhn H1 s1=>q2 hn H1 s1⟩;obtain ⟨LY,LZ,r⟩:=re.ex;refine ⟨_,rfl,b,C_Book,dx,_,_,rfl,s1 _ _ hob,T.cl_Book,T.na_Book_kept_day,qq8 _ _ _ _ _,?_⟩;simp only[qgf,List.cons_append,List.nil_append,List.append_nil];refine (r.same s1).aged re.n50 A'.ok.hd (Int.le_refl _) A'.ok.up λr' q' LY' LZ' H2 s2 R2 f2 w2=>?_
  exact q1 x e ev hx hm r' q' LY' LZ' H2 (s1.trans s2) R2 ⟨s1.free f2.1,s1.free f2.2⟩ ⟨by rw[w2.1,re.ru],by rw[w2.2.1,re.rl],s1.free w2.2.2⟩
end
section
variable {P:Program} {w:World} {K:Frag} {mg:Str->Option Value} {base:Heap} {C_Roll C_Rule C_Book C_BookError C_NoNumber C_NoRule C_Backward C_NoName C_NoMark:Addr}
inductive qfl (C CR R N M:Addr) (vs:List V) (H:Hp) (Q:VK) (E:XK):Prop
 | mk:∀ (b:Addr) (B:BookD) (es:List Int) (ge:Option Int) (X:qbk) (v:V) (t va m:Int),vs=[.ref b,v,.int t,.int va,.int m]->BkC C CR R H b B es ge X->TextV H v->qki t->(1<=m->RLt (t,va,m))->(∀ x e,(x,e)∈X->e.2.2.1.length<50)->(¬ qgt X v->∀ H',Same H H'->E (.ref N) none H')->(∀ x e,v=tS x->qbs 12 x->(x,e)∈X->m<1->∀ H',Same H H'->E (.ref M) none H')->(∀ x e,v=tS x->qbs 12 x->(x,e)∈X->1<=m->∀ H',But2 e.2.1.dy e.2.1.dh H H'->RB CR R H' B es ge (e.1,e.2.1,e.2.2.1 ++ [(t,va,m)],e.2.2.2)->Q (.bl (qb8 (B.ps.map (·.2)) es ge t).isSome) H')->qfl C CR R N M vs H Q E
theorem qjk (T:Txt K mg C_Roll C_Rule C_Book C_BookError C_NoNumber C_NoRule C_Backward C_NoName C_NoMark):∃ f fd dT o n t,qg9 P w K mg base (CX1 P w) 5 f fd ["self", "name", "time", "value", "many"] (qfl C_Book C_Roll C_Rule C_NoName C_NoNumber)/\FunD K "put" "Book.put" qdh (.ref dT) f fd/\qgc K C_Book "put" f/\fd.defaults=.ref dT/\K.lookup dT=some o/\o.data=.seq #[.int 1 t] n:=by
 obtain ⟨f,fd,dT,o,n,t,F,M,h1,h2,h3⟩:=T.f_Book_put;have nd:=sc_Book_put.nd;refine ⟨f,fd,dT,o,n,t,(F.okX sc_Book_put (λvs H Q E h=>?_) (λcdv A outer s H vs Q E hr h=>?_)),F,M,h1,h2,h3⟩
 ·obtain ⟨b,B,es,ge,X,v,t,va,m,rfl,_⟩:=h;rfl
 ·obtain ⟨b,B,es,ge,X,v,t,va,m,rfl,A',hv,ht,hrl,h50,q1,q2,q3⟩:=h
  obtain ⟨dx,hob⟩:=A'.ob;refine ⟨_,(qaf (qam (qdz (qbi ⟨rfl,rfl,rfl⟩) (qdz (qbi ⟨rfl,rfl,rfl⟩) (pv 0) T.cl_Book (qfi T) (hr.mono (by decide)) .nil (qaa (pv 1) qad)) T.cl_Roll (qff T) (hr.mono (by decide)) .nil (qaa (pv 2) (qaa (pv 3) (qaa (pv 4) qad)))))),?_⟩;refine ⟨_,rfl,b,dx,_,rfl,hob,qg2 _ _ _ _ _ (by decide +kernel) (by decide +kernel) (by decide +kernel) (by decide +kernel) (by decide +kernel),_,rfl,b,B,es,ge,X,v,rfl,A',hv,λx e ev hx hm re H1 s1=>?_,λhn H1 s1=>q1 hn H1 s1⟩;obtain ⟨LY,LZ,r⟩:=re.ex;have r1:=r.same s1;obtain ⟨dx1,hob1⟩:=r1.R.obj;have l1:=r1.ly;have l2:=r1.lz;have l5:=h50 x e hm;refine ⟨e.1,dx1,_,rfl,hob1,qh6 _ _ _ _ _,_,rfl,_,rfl,_,rfl,?_⟩;simp only[qgf,List.cons_append,List.nil_append,List.append_nil]
  by_cases hm1:1<=m
  ·refine r1.put (t:=(t,va,m)) l5 (hrl hm1) λH2 R2 b2=>?_
   exact q3 x e ev hx hm hm1 H2 (λc o z n1 n2=>b2 _ _ (s1 _ _ z) n1 n2) ⟨⟨_,_,R2⟩,re.ru,re.rl,by show (e.2.2.1 ++ [_]).length<=50;rw[List.length_append,List.length_singleton];omega⟩
  ·exact r1.R.putN r1.ok ht (by omega) (by omega) (by omega) (q2 x e ev hx hm (by omega) H1 s1)
theorem ql2 (T:Txt K mg C_Roll C_Rule C_Book C_BookError C_NoNumber C_NoRule C_Backward C_NoName C_NoMark):qsp P w K mg base C_Book 5 "put" ["self", "name", "time", "value", "many"] [] (qfl C_Book C_Roll C_Rule C_NoName C_NoNumber):=by
 obtain ⟨f,fd,dT,o,n,t,hf,F,M,h1,h2,h3⟩:=qjk (P:=P) (w:=w) (base:=base) T;refine ⟨f,fd,hf,M,qgj h1 h2 h3 λus hl=>?_⟩;obtain ⟨oc,od,kV,doc,pm,an,cdv,ct,osl,rfl,lk,hcd⟩:=F.ex;obtain ⟨_,_,_,_,_,rfl⟩:=L2.lq5 (us:=us) (by simpa using hl);exact ⟨_,rfl,rfl⟩
theorem ql3 (T:Txt K mg C_Roll C_Rule C_Book C_BookError C_NoNumber C_NoRule C_Backward C_NoName C_NoMark):∃ t,qsp P w K mg base C_Book 5 "put" ["self", "name", "time", "value", "many"] [.int 1 t] (qfl C_Book C_Roll C_Rule C_NoName C_NoNumber):=by
 obtain ⟨f,fd,dT,o,n,t,hf,F,M,h1,h2,h3⟩:=qjk (P:=P) (w:=w) (base:=base) T;refine ⟨t,f,fd,hf,M,qgj h1 h2 h3 λus hl=>?_⟩;obtain ⟨oc,od,kV,doc,pm,an,cdv,ct,osl,rfl,lk,hcd⟩:=F.ex;obtain ⟨a,b,c,d,rfl⟩:=L2.lq4 (us:=us) (by simpa using hl);exact ⟨_,rfl,rfl⟩
def rmS (H:Hp) (L:List Addr):Hp:=λc=>if c∈L then none else H c
section
variable {H H':Hp} {L:List Addr}
theorem qbh {c:Addr} {o:HO} (h:H c=some o) (n:c ∉ L):rmS H L c=some o:=by unfold rmS;rw[if_neg n];exact h
theorem qa7 {c:Addr} {o:HO} (h:rmS H L c=some o):H c=some o/\c ∉ L:=by
 unfold rmS at h
 split at h
 ·cases h
 ·rename_i n;exact ⟨h,n⟩
theorem qbt:Same (rmS H L) H:=λc o e=>(qa7 e).1
theorem qcq (s:Same H H'):Same (rmS H L) (rmS H' L):=λc o e=>qbh (s _ _ (qa7 e).1) (qa7 e).2
theorem qmo {d:Addr} (b:But d H H'):But d (rmS H L) (rmS H' L):=λc o e n=>qbh (b _ _ (qa7 e).1 n) (qa7 e).2
theorem qkf {a d:Addr} (b:But2 a d H H'):But2 a d (rmS H L) (rmS H' L):=λc o e n m=>qbh (b _ _ (qa7 e).1 n m) (qa7 e).2
theorem qtb {l:Addr} (b:But l H H') (h:l∈L):Same (rmS H L) (rmS H' L):=λc o e=>qbh (b _ _ (qa7 e).1 λz=>(qa7 e).2 (z ▸ h)) (qa7 e).2
theorem qvw {l:Addr} (s:Same H H') (f:H l=none) {L':List Addr} (hL:∀ c∈L',c∈L\/c=l):Same (rmS H L) (rmS H' L'):=λc o e=>qbh (s _ _ (qa7 e).1) λz=>by
 rcases hL c z with z|z
 ·exact (qa7 e).2 z
 ·rw[z] at e;have:=(qa7 e).1;rw[f] at this;cases this
end
def LsL (H:Hp) (L:List Addr):Prop:=∀ l∈L,∃ zs,H l=some (.lst zs)
theorem LsL.no {H:Hp} {L:List Addr} (h:LsL H L) {c:Addr} {o:HO} (e:H c=some o) (n:∀ zs,o≠.lst zs):c ∉ L:=λz=>by
 obtain ⟨zs,q⟩:=h c z;rw[q] at e;exact n zs (Option.some.inj e).symm
theorem LsL.same {H H':Hp} {L:List Addr} (h:LsL H L) (s:Same H H'):LsL H' L:=λl hl=>let ⟨zs,e⟩:=h l hl;⟨zs,s _ _ e⟩
section
variable {H:Hp} {L:List Addr}
theorem Pairs.rmS (hL:LsL H L):∀ {xs:List V} {ps:List (Int×Int)},Pairs H xs ps->Pairs (TB.rmS H L) xs ps
 | _,_,.nil=>.nil
 | _,_,.cons ⟨a,e,q⟩ t=>.cons ⟨a,e,qbh q (hL.no q (by intro zs z;cases z))⟩ (Pairs.rmS hL t)
theorem RuleAt.rmS {R r l:Addr} {ps:List (Int×Int)} {g:Option Int} (hL:LsL H L) (h:RuleAt R H r l ps g) (n:l ∉ L):RuleAt R (TB.rmS H L) r l ps g:=
 ⟨let ⟨dx,e⟩:=h.ob;⟨dx,qbh e (hL.no e (by intro zs z;cases z))⟩,let ⟨xs,e,p⟩:=h.ls;⟨xs,qbh e n,Pairs.rmS hL p⟩⟩
theorem RR.rmS {C R ro:Addr} {c:qaz} {s:Abs} {LY LZ:List (List Int)} (hL:LsL H L) (h:RR C R H ro c s LY LZ) (n1:c.le ∉ L) (n2:c.rl ∉ L):RR C R (TB.rmS H L) ro c s LY LZ:=by
 obtain ⟨Y,Z,A,Bs⟩:=h;obtain ⟨dx,e⟩:=A.ob;refine ⟨Y,Z,⟨⟨dx,qbh e (hL.no e (by intro zs z;cases z))⟩,A.rule.rmS hL n2,qbh A.ed n1,qbh A.yo (hL.no A.yo (by intro zs z;cases z)),qbh A.he (hL.no A.he (by intro zs z;cases z)),A.ne⟩,⟨Bs.yv,Bs.yk,Bs.zn,λk x q=>(Bs.zs k x q).imp λ_ z=>⟨z.1,qbh z.2 (hL.no z.2 (by intro zs y;cases y))⟩,Bs.zk⟩⟩
theorem RR.lists {C R ro:Addr} {c:qaz} {s:Abs} {LY LZ:List (List Int)} (h:RR C R (TB.rmS H L) ro c s LY LZ):c.le ∉ L/\c.rl ∉ L:=by
 obtain ⟨Y,Z,A,Bs⟩:=h;obtain ⟨xs,e,_⟩:=A.rule.ls;exact ⟨(qa7 A.ed).2,(qa7 e).2⟩
theorem RB.rmS {CR R:Addr} {B:BookD} {es:List Int} {ge:Option Int} {e:RC} (hL:LsL H L) (h:RB CR R H B es ge e) (n1:e.2.1.le ∉ L) (n2:e.2.1.rl ∉ L):RB CR R (TB.rmS H L) B es ge e:=
 ⟨let ⟨a,b,r⟩:=h.ex;⟨a,b,{ r with R:=r.R.rmS hL n1 n2 }⟩,h.ru,h.rl,h.n50⟩
theorem RB.lists {CR R:Addr} {B:BookD} {es:List Int} {ge:Option Int} {e:RC} (h:RB CR R (TB.rmS H L) B es ge e):e.2.1.le ∉ L/\e.2.1.rl ∉ L:=let ⟨_,_,r⟩:=h.ex;r.R.lists
end
theorem Ents.mem {α:Type} {R1:V->α->Prop} {kvs:List (Key×V)} {E:List (List Nat×α)} {x:List Nat} {a:α} (h:Ents R1 kvs E) (hx:(x,a)∈E):∃ v,R1 v a:=by
 unfold Ents at h
 induction h with
 | nil=>cases hx
 | cons b t ih =>
  rcases List.mem_cons.mp hx with z|z
  ·rw[<- z] at b;exact ⟨_,b.2⟩
  ·exact ih z
theorem LsL.but2 {H H':Hp} {L:List Addr} {a c:Addr} {Y Z:KV} (h:LsL H L) (b:But2 a c H H') (hy:H a=some (.dT Y)) (hz:H c=some (.dT Z)):LsL H' L:=λl hl=>let ⟨zs,e⟩:=h l hl;⟨zs,b.keep hy hz e (by intro K z;cases z)⟩
section
variable {C CR R b:Addr} {B:BookD} {es:List Int} {ge:Option Int} {X:qbk} {H H':Hp} {L:List Addr}
theorem BkC.putR {x:List Nat} {e:RC} {r:Rd3} {Y Z:KV} (h:BkC C CR R (rmS H L) b B es ge X) (hL:LsL H L) (ok:XOk X) (hx:(x,e)∈X) (bu:But2 e.2.1.dy e.2.1.dh H H') (hy:H e.2.1.dy=some (.dT Y)) (hz:H e.2.1.dh=some (.dT Z)) (R':RB CR R H' B es ge (e.1,e.2.1,e.2.2.1 ++ [r],e.2.2.2)):BkC C CR R (rmS H' L) b B es ge (X.map (qiz x r)):=by
 obtain ⟨k,_,q⟩:=h.rs;obtain ⟨v,_,re⟩:=q.mem hx;have nl:=re.lists;exact h.put ok hx (qkf bu) (qbh hy (hL.no hy (by intro zs z;cases z))) (qbh hz (hL.no hz (by intro zs z;cases z))) (R'.rmS (hL.but2 bu hy hz) nl.1 nl.2)
theorem BkC.frameR {q:qaz} {Y Z:KV} (h:BkC C CR R (rmS H L) b B es ge X) (hL:LsL H L) (bu:But2 q.dy q.dh H H') (hy:H q.dy=some (.dT Y)) (hz:H q.dh=some (.dT Z)) (ap:∀ x e,(x,e)∈X->ApartD e.2.1 q):BkC C CR R (rmS H' L) b B es ge X:=
 h.frame (qkf bu) (qbh hy (hL.no hy (by intro zs z;cases z))) (qbh hz (hL.no hz (by intro zs z;cases z))) ap
theorem BkC.dicts (h:BkC C CR R H b B es ge X) {x:List Nat} {e:RC} (hx:(x,e)∈X):(∃ Y,H e.2.1.dy=some (.dT Y))/\∃ Z,H e.2.1.dh=some (.dT Z):=by
 obtain ⟨k,_,q⟩:=h.rs;obtain ⟨v,_,re⟩:=q.mem hx;obtain ⟨_,_,r⟩:=re.ex;exact r.R.dicts
theorem R63.begun {ro:Addr} {c:qaz} (A:RollAt CR R H ro c) (ok:EdOk B es ge) (e1:c.ps=B.ps) (e2:c.g=B.g) (e3:c.day=B.day) (eY:c.Y=[]) (eZ:c.Z=[]) (Ec:EdS (List.zipWith gE (eV B.ps B.g B.day) (es.map V.int ++ [gv ge])) c.es c.ge) (hcl:c.es.length=B.ps.length):R63 CR R H ro c B.ps B.g B.day es ge [] [] []:=by
 have ec:{ c with Y:=[],Z:=[] }=c:=by
  cases c;simp only at eY eZ;rw[eY,eZ]
 rw[ok.dom] at Ec;obtain ⟨z1,z2⟩:=EdS.uniq Ec ok.E;exact ⟨⟨[],[],by rw[ec];exact A,RAbs.zero rfl rfl⟩,⟨by rw[e1,e2];exact ok.P,by rw[hcl,e1]⟩,e1,e2,e3,z1,z2,ok.P,ok.wb,ok.E,ok.F,ok.dom,ok.hd,(by intro r h;cases h),Nat.le_refl _,Nat.le_refl _⟩
end
theorem RuleAt.butK {C:Addr} {H H':Hp} {r l a:Addr} {ps:List (Int×Int)} {g:Option Int} {kvs:List (Key×V)} (h:RuleAt C H r l ps g) (b:But a H H') (ha:H a=some (.dK kvs)):RuleAt C H' r l ps g:=
 h.but2 b ha (by intro xs z;cases z) (by intro xs z;cases z) (by obtain ⟨dx,e⟩:=h.ob;exact qa1 e ha (by intro z;cases z))
theorem TxtL.butK {H H':Hp} {a:Addr} {kvs:List (Key×V)} {v:V} {ms:List (List Nat)} (h:TxtL H v ms) (b:But a H H') (ha:H a=some (.dK kvs)):TxtL H' v ms:=
 let ⟨c,e,q⟩:=h;⟨c,e,b _ _ q (qa1 q ha (by intro z;cases z))⟩
theorem RR.butK {C R ro a:Addr} {H H':Hp} {c:qaz} {s:Abs} {LY LZ:List (List Int)} {kvs:List (Key×V)} (h:RR C R H ro c s LY LZ) (b:But a H H') (ha:H a=some (.dK kvs)):RR C R H' ro c s LY LZ:=by
 obtain ⟨Y,Z,A,Bs⟩:=h;obtain ⟨dx,e⟩:=A.ob;exact ⟨Y,Z,⟨⟨dx,b _ _ e (qa1 e ha (by intro z;cases z))⟩,A.rule.butK b ha,b _ _ A.ed (qa1 A.ed ha (by intro z;cases z)),b _ _ A.yo (qa1 A.yo ha (by intro z;cases z)),b _ _ A.he (qa1 A.he ha (by intro z;cases z)),A.ne⟩,Bs.tups λx xs e=>b _ _ e (qa1 e ha (by intro z;cases z))⟩
theorem RB.butK {CR R a:Addr} {H H':Hp} {B:BookD} {es:List Int} {ge:Option Int} {e:RC} {kvs:List (Key×V)} (h:RB CR R H B es ge e) (b:But a H H') (ha:H a=some (.dK kvs)):RB CR R H' B es ge e:=
 ⟨let ⟨x,y,r⟩:=h.ex;⟨x,y,{ r with R:=r.R.butK b ha }⟩,h.ru,h.rl,h.n50⟩
theorem ql4 {C CR R:Addr} {G4 G5 G6 G7:Hp} {b l2 ro:Addr} {B:BookD} {es:List Int} {ge:Option Int} {X:qbk} {c:qaz} {x:List Nat} {ms:List (List Nat)} {km kr:List (Key×V)} (A4:BkC C CR R G4 b B es ge X) (hin:x ∉ X.map (·.1)) (hkm:G4 B.dm=some (.dK km)) (hkr:G4 B.dr=some (.dK kr)) (b5:But B.dm G4 G5) (d5:G5 B.dm=some (.dK (putK km (kS x) (.ref l2)))) (s6:Same G5 G6)
  (b7:But B.dr G6 G7) (d7:G7 B.dr=some (.dK (putK kr (kS x) (.ref ro)))) (tl:TxtL G4 (.ref l2) (qf5 ms)) (re:RB CR R G6 B es ge (ro,c,[],ms)):BkC C CR R G7 b B es ge (X ++ [(x,(ro,c,[],ms))]):=by
 obtain ⟨dx,hob⟩:=A4.ob;obtain ⟨km',hkm',enm⟩:=A4.ms;obtain ⟨kr',hkr',enr⟩:=A4.rs;rw[hkm] at hkm'
 cases hkm'
 rw[hkr] at hkr'
 cases hkr'
 have hkr6:=s6 _ _ (b5 _ _ hkr (λz=>A4.ne z.symm));have hob6:=s6 _ _ (b5 _ _ hob (qa1 hob hkm (by intro z;cases z)));refine ⟨⟨dx,b7 _ _ hob6 (qa1 hob6 hkr6 (by intro z;cases z))⟩,((A4.rule.butK b5 hkm).same s6).butK b7 hkr6,?_,⟨_,b7 _ _ (s6 _ _ d5) A4.ne,(enm.put hin (a:=(ro,c,[],ms)) tl).imp λv e q=>((q.butK b5 hkm).same s6).butK b7 hkr6⟩,⟨_,d7,?_⟩,A4.ne,A4.ok⟩
 ·have e:=s6 _ _ (b5 _ _ A4.ed (qa1 A4.ed hkm (by intro z;cases z)))
  exact b7 _ _ e (qa1 e hkr6 (by intro z;cases z))
 ·have en6:Ents (λv (e:RC)=>v=.ref e.1/\RB CR R G6 B es ge e) kr X:=enr.imp λv _ ⟨e,q⟩=>⟨e,(q.butK b5 hkm).same s6⟩
  exact (en6.put hin (a:=(ro,c,[],ms)) ⟨rfl,re⟩).imp λv _ ⟨e,q⟩=>⟨e,q.butK b7 hkr6⟩
def MkV (H:Hp) (v:V) (us:List V):Prop:=(v=.non/\us=[])\/∃ l,v=.ref l/\H l=some (.lst us)
theorem qvx {us:List V} {m:V} {σ:St} {H:Hp} {Kt:VK} (hσ:σ[2]?=some (some m)) (hm:MkV H m us) (k:∀ l H2,Same H H2->H2 l=some (.lst us)->Kt (.ref l) H2) :
  tIf (qwf (tOp (λx y H Q=>y=V.non/\Q (V.bl (decide (x=V.non))) H) (qx9 2) (tC V.non))) (qwy qgf) (qx9 2) σ H Kt:=by
 rcases hm with ⟨rfl,rfl⟩|⟨l,rfl,hl⟩
 ·exact ⟨_,hσ,rfl,_,rfl,qd8 ⟨Nat.zero_le _,λl H2 n2=>k l H2 n2.same n2.at_⟩⟩
 ·exact ⟨_,hσ,rfl,_,rfl,qd7 ⟨_,hσ,k l H (Same.refl _) hl⟩⟩
inductive qim (C CR R N M:Addr) (vs:List V) (H:Hp) (Q:VK) (E:XK):Prop
 | mk:∀ (b:Addr) (B:BookD) (es:List Int) (ge:Option Int) (X:qbk) (v m:V) (us:List V),vs=[.ref b,v,m]->BkC C CR R H b B es ge X->TextV H v->MkV H m us->(∀ u∈us,TextV H u)->us.length<=60->X.length<=60->((qdd 12 v=false\/qgt X v)->∀ H',Same H H'->E (.ref N) none H')->(¬ (qdd 12 v=false\/qgt X v)->¬ qij us->∀ H',Same H H'->E (.ref M) none H')->(∀ x ms,v=tS x->qbs 12 x->x ∉ X.map (·.1)->us=ms.map tS->qij us->∀ ro c H',But2 B.dm B.dr H H'->H c.dy=none->H c.dh=none->BkC C CR R H' b B es ge (X ++ [(x,(ro,c,[],ms))])->(∀ L,LsL H L->BkC C CR R (rmS H L) b B es ge X->BkC C CR R (rmS H' L) b B es ge (X ++ [(x,(ro,c,[],ms))]))->Q .non H')->qim C CR R N M vs H Q E
theorem ql5 (T:Txt K mg C_Roll C_Rule C_Book C_BookError C_NoNumber C_NoRule C_Backward C_NoName C_NoMark):∃ f fd dT o n,qg9 P w K mg base (CX1 P w) 7 f fd ["self", "name", "marks"] (qim C_Book C_Roll C_Rule C_NoName C_NoMark)/\FunD K "enrol" "Book.enrol" qcf (.ref dT) f fd/\qgc K C_Book "enrol" f/\fd.defaults=.ref dT/\K.lookup dT=some o/\o.data=.seq #[.none] n:=by
 obtain ⟨f,fd,dT,o,n,F,M,h1,h2,h3⟩:=T.f_Book_enrol;have nd:=sc_Book_enrol.nd;refine ⟨f,fd,dT,o,n,(F.okX sc_Book_enrol (λvs H Q E h=>?_) (λcdv A outer s H vs Q E hr h=>?_)),F,M,h1,h2,h3⟩
 ·obtain ⟨b,B,es,ge,X,v,m,us,rfl,_⟩:=h;rfl
 ·obtain ⟨b,B,es,ge,X,v,m,us,rfl,A',hv,hm,hu,hz,hE,q1,q2,q3⟩:=h
  obtain ⟨dx,hob⟩:=A'.ob;obtain ⟨kr,hkr,enr⟩:=A'.rs;refine ⟨_,(qac (qbc (PW.pt (qit (qd5 (qda (qax (qlv T) (hr.mono (by decide)) rfl (qaa (pv 1) qad)))) (qfy (qmu (qps (qez hr) (pv 1) (qbe (pv 0) rfl))))))
    (qaf (qfk (qbi ⟨rfl,rfl,rfl⟩) rfl T.ex_NoName rfl T.mg_NoName (qaa qd4 qad)))
    qao)
   (qac (qay (i:=3) nd rfl (Or.inl rfl) (qrv (qap qhh (pv 2) qdj (qat _)) (qc9 qad) (pv 2)))
   (qac (qby (qw2 (qbi ⟨rfl,rfl,rfl⟩) (qke T) (hr.mono (by decide)) rfl .nil (qaa (pv 3) qad)))
   (qac (qgh (qez hr) (qbe (pv 0) rfl) (pv 1) (qan qj2 rfl T.b_sorted qeb (qaa (pv 3) qad)) rfl)
   (qaf (qgh (qez hr) (qbe (pv 0) rfl) (pv 1) (qax (qmn T) (hr.mono (by decide)) rfl (qaa (qbe (pv 0) rfl) (qaa (qbe (pv 0) rfl) (qaa (qbe (pv 0) rfl) qad)))) rfl)))))),?_⟩
  refine ⟨_,rfl,v,rfl,hv,λH1 s1=>⟨_,rfl,?_⟩⟩
  cases hs:qdd 12 v with
  | false =>
   refine qd8 ?_
   walk_at "r"
   exact q1 (.inl hs) H1 s1
  | true =>
   refine qd7 ?_;obtain ⟨x,rfl,hx⟩:=small_iff.mp hs;refine ⟨_,rfl,_,rfl,b,C_Book,dx,_,_,rfl,s1 _ _ hob,T.cl_Book,T.na_Book_kept_rolls,qlp _ _ _ _ _,B.dr,_,rfl,DGet.k (k:=kS x) (s1 _ _ hkr),_,rfl,?_⟩
   by_cases hin:x∈X.map (·.1)
   ·obtain ⟨u,a,e1,_,_⟩:=enr.has hin
    rw[e1];refine qd8 ?_
    walk_at "r"
    exact q1 (.inr ⟨x,rfl,hx,hin⟩) H1 s1
   ·rw[enr.hasn hin]
    refine qd7 ?_;have hm1:MkV H1 m us:=by
     rcases hm with h|⟨l,e,hl⟩
     ·exact .inl h
     ·exact .inr ⟨l,e,s1 _ _ hl⟩
    refine qvx rfl hm1 λl H2 s2 hl=>qaw ?_
    have s02:=s1.trans s2;refine ⟨_,rfl,l,us,rfl,hl,λu hu'=>(hu u hu').same s02,hz,λok H3 s3=>?_,λbad H3 s3=>q2 (λh=>?_) bad H3 (s02.trans s3)⟩
    case refine_2 =>
     rcases h with h|⟨y,e,_,hy⟩
     ·rw[hs] at h;cases h
     ·exact hin (qfr e ▸ hy)
    obtain ⟨ms,rfl,_⟩:=qkd ok.1;have s03:=s02.trans s3;rw[List.length_map] at hz;refine ⟨_,rfl,l,ms,rfl,SqL.of (s3 _ _ hl),by omega,λl2 H4 n4=>?_⟩;have s04:=s03.trans n4.same;have A4:=A'.same s04;obtain ⟨km,hkm,enm⟩:=A4.ms;obtain ⟨kr4,hkr4,enr4⟩:=A4.rs;have lm:=enm.len;have lr:=enr4.len;refine ⟨_,rfl,b,C_Book,dx,_,_,rfl,s04 _ _ hob,T.cl_Book,T.na_Book_kept_marks,qxy _ _ _ _ _,_,rfl,B.dm,_,rfl,DPut.k (k:=kS x) hkm (by rw[sizeLine_eq];omega),?_⟩
    generalize h5:upd H4 B.dm (.dK (putK km (kS x) (.ref l2)))=H5
    have b5:But B.dm H4 H5:=by rw[<- h5];exact qcm
    have d5:H5 B.dm=some (.dK (putK km (kS x) (.ref l2))):=by rw[<- h5];exact qbp
    have hob5:=b5 _ _ (s04 _ _ hob) (qa1 (s04 _ _ hob) hkm (by intro z;cases z));have E0':=A'.ok.E;have l0:(es.map V.int ++ [gv ge]).length=B.ps.length+1:=by have:=A'.ok.F.len;rw[List.length_map] at this;simp;omega
    have l9:es.length=B.ps.length:=by have:=A'.ok.F.len;rw[List.length_map] at this;omega
    have g5:=A'.ok.P.good.hi;refine ⟨_,rfl,b,C_Book,dx,_,_,rfl,hob5,T.cl_Book,T.na_Book_kept_rule,qt7 _ _ _ _ _,_,rfl,b,C_Book,dx,_,_,rfl,hob5,T.cl_Book,T.na_Book_kept_day,qq8 _ _ _ _ _,_,rfl,b,C_Book,dx,_,_,rfl,hob5,T.cl_Book,T.na_Book_kept_edges,qt8 _ _ _ _ _,B.ru,B.rl,B.le,B.ps,B.g,B.day,_,_,_,rfl,A4.rule.butK b5 hkm,A'.ok.P,A'.ok.hd,b5 _ _ A4.ed (qa1 A4.ed hkm (by intro z;cases z)),E0'.ed,by omega,l0,E0',l9,λro c H6 A6 e1 e2 e3 eY eZ Ec hcl s6 f1 f2 w1=>?_⟩;have hkr6:=s6 _ _ (b5 _ _ hkr4 (λz=>A'.ne z.symm));refine ⟨_,rfl,b,C_Book,dx,_,_,rfl,s6 _ _ hob5,T.cl_Book,T.na_Book_kept_rolls,qlp _ _ _ _ _,_,rfl,B.dr,_,rfl,DPut.k (k:=kS x) hkr6 (by rw[sizeLine_eq];omega),?_⟩
    generalize h7:upd H6 B.dr (.dK (putK kr4 (kS x) (.ref ro)))=H7
    have b7:But B.dr H6 H7:=by rw[<- h7];exact qcm
    have d7:H7 B.dr=some (.dK (putK kr4 (kS x) (.ref ro))):=by rw[<- h7];exact qbp
    have re:RB C_Roll C_Rule H6 B es ge (ro,c,[],ms):=⟨⟨[],[],R63.begun A6 A'.ok e1 e2 e3 eY eZ Ec hcl⟩,w1.1,w1.2.1,Nat.zero_le _⟩;have tl:TxtL H4 (.ref l2) (qf5 ms):=⟨l2,rfl,n4.at_⟩;have fr:∀ a,H5 a=none->H a=none:=λa z=>by
     cases e:H a with
     | none=>rfl
     | some o =>
      by_cases na:a=B.dm
      ·rw[na,d5] at z;cases z
      ·rw[b5 _ _ (s04 _ _ e) na] at z;cases z
    refine q3 x ms rfl hx hin rfl ok ro c H7 (λc' o e n1 n2=>b7 _ _ (s6 _ _ (b5 _ _ (s04 _ _ e) n1)) n2) (fr _ f1) (fr _ f2) (ql4 A4 hin hkm hkr4 b5 d5 s6 b7 d7 tl re) λL hL Ar=>?_
    have hL4:=hL.same s04;have nd1:B.dm ∉ L:=hL4.no hkm (by intro zs z;cases z);have nd2:B.dr ∉ L:=hL4.no hkr4 (by intro zs z;cases z);have hL5:LsL H5 L:=λl hl=>let ⟨zs,e⟩:=hL4 l hl;⟨zs,b5 _ _ e (λz=>nd1 (z ▸ hl))⟩
    have A4r:=Ar.same (qcq s04);have nl2:l2 ∉ L:=λz=>by obtain ⟨zs,e⟩:=hL.same s03 l2 z;rw[n4.fresh] at e;cases e
    have nle:c.le ∉ L:=λz=>by obtain ⟨zs,e⟩:=hL5 c.le z;rw[w1.2.2] at e;cases e
    have nrl:c.rl ∉ L:=by rw[w1.2.1];obtain ⟨xs,e,_⟩:=Ar.rule.ls;exact (qa7 e).2
    exact ql4 A4r hin (qbh hkm nd1) (qbh hkr4 nd2) (qmo b5) (qbh d5 nd1) (qcq s6) (qmo b7) (qbh d7 nd2) ⟨l2,rfl,qbh n4.at_ nl2⟩ (re.rmS (hL5.same s6) nle nrl)
theorem qi0 (T:Txt K mg C_Roll C_Rule C_Book C_BookError C_NoNumber C_NoRule C_Backward C_NoName C_NoMark):qsp P w K mg base C_Book 7 "enrol" ["self", "name", "marks"] [.none] (qim C_Book C_Roll C_Rule C_NoName C_NoMark):=by
 obtain ⟨f,fd,dT,o,n,hf,F,M,h1,h2,h3⟩:=ql5 (P:=P) (w:=w) (base:=base) T;refine ⟨f,fd,hf,M,qgj h1 h2 h3 λus hl=>?_⟩;obtain ⟨oc,od,kV,doc,pm,an,cdv,ct,osl,rfl,lk,hcd⟩:=F.ex;obtain ⟨_,_,rfl⟩:=L2.lq2 (us:=us) (by simpa using hl);exact ⟨_,rfl,rfl⟩
end
section
variable {P:Program} {w:World} {K:Frag} {mg:Str->Option Value} {base:Heap} {C_Roll C_Rule C_Book C_BookError C_NoNumber C_NoRule C_Backward C_NoName C_NoMark:Addr}
inductive ql6 (K:Frag) (vs:List V) (H:Hp) (Q:VK) (E_:XK):Prop
 | mk:∀ (a:Addr) (ns:List Int) (k:Int),vs=[.ref a,.int k]->SqL K H a (ns.map V.int)->0<=k->Q (.int (ns[k.toNat]?.getD 0)) H->ql6 K vs H Q E_
theorem qcc (T:Txt K mg C_Roll C_Rule C_Book C_BookError C_NoNumber C_NoRule C_Backward C_NoName C_NoMark):qbz P w K mg base 1 "_law_cell_at" ["_law_script", "_law_k"] (ql6 K):=by
 obtain ⟨f,fd,F,hm⟩:=T.f__law_cell_at;have nd:=sc__law_cell_at.nd;refine F.def_ hm (F.ok sc__law_cell_at (λvs H Q E h=>?_) (λcdv A outer s H vs Q E hr h=>?_)) (F.binds λ_ _ _ _ _ _ us hl=>by obtain ⟨_,_,rfl⟩:=L2.lq2 hl;rfl)
 ·obtain ⟨a,ns,k,rfl,_⟩:=h;rfl
 ·obtain ⟨a,ns,k,rfl,hS,h0,q⟩:=h
  refine ⟨_,(qac (qbc (qap qjp (pv 1) (qan qbf rfl T.b_len qd9 (qaa (pv 0) qad)) (qat _))
    (qaf (qam (qa4 qa0 (pv 0) (pv 1) (λ_ _=>rfl))))
    qao)
   (qaf (qam qae))),?_⟩
  walk_at "r"
  refine qhp (λz=>?_) λz=>?_
  ·have z':k<ns.length:=by simpa using z
   have hk:k.toNat<ns.length:=by omega
   have hi:atI (ns.map V.int) k=some (.int ns[k.toNat]):=by
    have:=qfs (xs:=ns.map V.int) (j:=k.toNat) (v:=V.int ns[k.toNat]) (by simp[hk])
    rwa [Int.toNat_of_nonneg h0] at this
   walk_at "r"
   rw[List.getElem?_eq_getElem hk] at q;exact q
  ·have z':¬ k<ns.length:=by simpa using z
   rw[List.getElem?_eq_none (by omega)] at q;exact q
def qv5 (d k:Int):Int:=(d % 2147483629+69621*k+1)*48271 % 2147483629*((d % 2147483629+69621*k+1)*48271 % 2147483629 / 1009+69621) % 2147483629
def qtc:Sp:=λvs H Q _=>∃ d k,vs=[.int d,.int k]/\0<=k/\k<=200/\∀ m,(0<=m/\m=qv5 d k)->m<2147483629->Q (.int m) H
theorem qar (T:Txt K mg C_Roll C_Rule C_Book C_BookError C_NoNumber C_NoRule C_Backward C_NoName C_NoMark):qbz P w K mg base 1 "_law_mixed" ["_law_draw", "_law_k"] qtc:=by
 obtain ⟨f,fd,F,hm⟩:=T.f__law_mixed;have nd:=sc__law_mixed.nd;refine F.def_ hm (F.ok sc__law_mixed (λvs H Q E h=>?_) (λcdv A outer s H vs Q E hr h=>?_)) (F.binds λ_ _ _ _ _ _ us hl=>by obtain ⟨_,_,rfl⟩:=L2.lq2 hl;rfl)
 ·obtain ⟨d,k,rfl,_⟩:=h;rfl
 ·obtain ⟨d,k,rfl,h1,h2,q⟩:=h
  refine ⟨_,(qac (qay (i:=2) nd rfl (Or.inl rfl) (qal qa5 (qal qi3 (qal qbn (qal qbn (qal qa5 (pv 0) qae) (qal qi3 qae (pv 1))) qae) qae) qae))
   (qaf (qam (qal qa5 (qal qi3 (pv 2) (qal qbn (qal qey (pv 2) qae) qae)) qae)))),?_⟩
  have m1:0<=d % 2147483629/\d % 2147483629<2147483629:=by omega
  walk_at "r"
  exact q _ ⟨by omega,rfl⟩ (by omega)
theorem qzr:(Str.ofString "abcdefghijklmnopqrstuvwxyz")=S [97,98,99,100,101,102,103,104,105,106,107,108,109,110,111,112,113,114,115,116,117,118,119,120,121,122]:=by decide +kernel
theorem qua {i:Int} (h0:0<=i) (h1:i<26):∃ c,[97,98,99,100,101,102,103,104,105,106,107,108,109,110,111,112,113,114,115,116,117,118,119,120,121,122][i.toNat]?=some c/\(97<=c/\c<=122)/\c=97+i.toNat:=by
 obtain ⟨j,rfl⟩:=Int.eq_ofNat_of_zero_le h0;have hj:j<26:=by omega
 have al:∀ j,j<26->[97,98,99,100,101,102,103,104,105,106,107,108,109,110,111,112,113,114,115,116,117,118,119,120,121,122][j]?=some (97+j):=by decide
 exact ⟨97+j,al j hj,by omega,rfl⟩
theorem join_one:∀ cs:List Nat,qix [] (cs.map λc=>[c])=cs
 | []=>rfl
 | [c]=>rfl
 | c :: d :: cs=>by
  have ih:=join_one (d :: cs)
  show [c] ++ [] ++ qix [] ((d :: cs).map λc=>[c])=_
  rw[ih];rfl
theorem qri:∀ cs:List Nat,((cs.map λc=>[c]).map List.length).sum=cs.length
 | []=>rfl
 | c :: cs=>by
  have ih:=qri cs;simp only[List.map_cons,List.sum_cons,List.length_cons,List.length_nil] at ih ⊢;omega
def ltr (z:Int):Nat:=97+(z % 26).toNat
def qtd (d:Int):List Nat:=(List.range (qv5 d 1 % 12).toNat).map λj=>ltr (qv5 d (3+(j:Nat)))
def atF (d:Int):Nat:=(qv5 d 2 % (qv5 d 1 % 12+1)).toNat
def nmF (d k:Int):List Nat:=(qtd d).take (atF d) ++ [ltr (d+5*k)] ++ (qtd d).drop (atF d)
theorem qzs {d k l:Int} (h:k≠l) (h1:k<l+26) (h2:l<k+26):nmF d k≠nmF d l:=λe=>by
 unfold nmF at e;rw[List.append_assoc,List.append_assoc] at e;have e2:=List.append_cancel_left e;have e3:ltr (d+5*k)=ltr (d+5*l):=by injection e2
 unfold ltr at e3;have n1:=Int.emod_nonneg (d+5*k) (show (26:Int)≠0 by decide);have n2:=Int.emod_nonneg (d+5*l) (show (26:Int)≠0 by decide);have e4:(d+5*k) % 26=(d+5*l) % 26:=by omega
 omega
def qov:Sp:=λvs H Q _=>∃ d k,vs=[.int d,.int k]/\∀ H',Same H H'->qbs 12 (nmF d k)->Q (.str (S (nmF d k))) H'
theorem qin (T:Txt K mg C_Roll C_Rule C_Book C_BookError C_NoNumber C_NoRule C_Backward C_NoName C_NoMark):qbz P w K mg base 2 "_law_name" ["_law_draw", "_law_k"] qov:=by
 obtain ⟨f,fd,F,hm⟩:=T.f__law_name;have nd:=sc__law_name.nd;refine F.def_ hm (F.ok sc__law_name (λvs H Q E h=>?_) (λcdv A outer s H vs Q E hr h=>?_)) (F.binds λ_ _ _ _ _ _ us hl=>by obtain ⟨_,_,rfl⟩:=L2.lq2 hl;rfl)
 ·obtain ⟨d,k,rfl,_⟩:=h;rfl
 ·obtain ⟨d,k,rfl,q⟩:=h
  refine ⟨_,(qac (qay (i:=2) nd rfl (Or.inr rfl) qd4)
   (qac (qay (i:=3) nd rfl (Or.inl rfl) (qal qa5 (qax (qar T) (hr.mono (by decide)) rfl (qaa (pv 0) (qaa qae qad))) qae))
   (qac (qay (i:=4) nd rfl (Or.inl rfl) (qr7 PySem.F.plainAttrs_str PySem.F.slot_str_join PySem.F.type_str_join qvd qd4 (qaa (qky (vars:=["_law_j"]) (frees:=["_law_some", "_law_draw"]) (fv:=[2,0]) rfl (qo2 rfl rfl (by decide +kernel) (by decide +kernel) (by intro p hp;simp only[List.mem_cons,List.not_mem_nil,or_false] at hp;rcases hp with rfl|rfl<;>rfl) rfl) ⟨⟨rfl,.inl rfl,rfl,.inl rfl⟩,⟨⟨rfl,.inl rfl,rfl,.inl rfl⟩,trivial⟩⟩ (qex rfl T.b_range (qaa (pv 3) qad)) (qgk (by decide)) (λ_ _ _ _=>(qas (i:=0) (show (["_law_j", "_law_some", "_law_draw"]:List Str).Nodup by decide +kernel) rfl (Or.inl rfl))) (λ_ _ _ _=>qci) (λ_ _ _ _=>(qtw (pv 1) (qal qa5 (qax (qar T) (hr.mono (by decide)) rfl (qaa (pv 2) (qaa (qal qbn qae (pv 0)) qad))) qae) (λ_ _=>rfl)))) qad)))
   (qac (qay (i:=5) nd rfl (Or.inl rfl) (qal qa5 (qax (qar T) (hr.mono (by decide)) rfl (qaa (pv 0) (qaa qae qad))) (qal qbn (pv 3) qae)))
   (qaf (qam (qal qi4 (qal qi4 (qf0 qtv (pv 4) qjs (qgg (pv 5))) (qtw (pv 2) (qal qa5 (qal qbn (pv 0) (qal qi3 qae (pv 1))) qae) (λ_ _=>rfl))) (qf0 qtv (pv 4) (qgg (pv 5)) qjs)))))))),?_⟩
  rw[qzr]
  walk_at "r"
  intro m m0 m1
  walk_at "r"
  have m12:0<=m % 12/\m % 12<12:=by omega
  refine qla (n:=(m % 12).toNat) (λi ys H2=>Same H H2/\∃ cs:List Nat,cs.length=i/\((∀ c∈cs,97<=c/\c<=122)/\cs=(List.range i).map λj=>ltr (qv5 d (3+(j:Nat))))/\ys=cs.map λc=>V.str (S [c])) (qis (by omega)) ⟨Same.refl _,[],rfl,⟨by simp,rfl⟩,rfl⟩ (λi ys H2 h2=>by obtain ⟨_,cs,h3,_,h4⟩:=h2;rw[h4,List.length_map,h3];exact Nat.le_refl _) ?_ ?_
  ·rintro i ys H2 hi ⟨s2,cs,hl,⟨hc,hcs⟩,rfl⟩
   refine qaw (qsl (qd8 ?_))
   walk_at "r"
   intro a a0 a1;have a26:0<=a % 26/\a % 26<26:=by omega
   obtain ⟨c,hca,hcb,hcc⟩:=qua a26.1 a26.2
   walk_at "r"
   refine ⟨_,_,c,rfl,rfl,a26.1,by omega,hca,?_⟩;refine ⟨s2,cs ++ [c],by simp[hl],⟨λx hx=>?_,?_⟩,by simp⟩
   case refine_2 =>
    rw[List.range_succ,List.map_append,<- hcs,hcc,a0.2,List.map_singleton,Int.zero_add];rfl
   rcases List.mem_append.mp hx with z|z
   ·exact hc x z
   ·rw[List.mem_singleton.mp z];exact hcb
  ·rintro ys H2 p H3 ⟨s2,cs,hl,⟨hc,hcs⟩,rfl⟩ n3
   rw[qvv];have e3:H3 p=some (.lst ((cs.map λc=>[c]).map λq=>V.str (S q))):=by rw[List.map_map];exact n3.at_
   refine ⟨[],cs.map λc=>[c],p,rfl,rfl,SqL.of e3,by rw[qri];simp;omega,?_⟩;rw[join_one];have s3:=s2.trans n3.same
   walk_at "r"
   intro b b0 b1;obtain ⟨j,hj⟩:=Int.eq_ofNat_of_zero_le (Int.emod_nonneg b (show (m % 12+1)≠0 by omega));have hj1:=Int.emod_lt_of_pos b (show (0:Int)<m % 12+1 by omega);rw[hj] at hj1;have lj:j<=cs.length:=by omega
   have lc8:cs.length<=11:=by omega
   have d26:0<=(d+5*k) % 26/\(d+5*k) % 26<26:=by omega
   obtain ⟨c,hca,hcb,hcc⟩:=qua d26.1 d26.2
   walk_at "r"
   rw[hj,qvb cs lj];refine ⟨qis (by rw[qfn,List.length_take];omega),?_⟩
   walk_at "r"
   refine ⟨_,_,c,rfl,rfl,d26.1,by omega,hca,?_⟩
   walk_at "r"
   refine ⟨qis (by rw[qfn,qfn,List.length_take];simp;omega),?_⟩;rw[qxd]
   walk_at "r"
   rw[qvc cs j];refine ⟨qis (by rw[qfn,List.length_drop];omega),?_⟩
   walk_at "r"
   refine ⟨qis (by rw[qfn,qfn];simp;omega),?_⟩;rw[qxd];have eb:cs=qtd d:=by rw[hcs];unfold qtd;rw[<- m0.2]
   have ej:j=atF d:=by unfold atF;rw[<- m0.2,<- b0.2,hj];rfl
   have ec:c=ltr (d+5*k):=hcc;have en:cs.take j ++ [c] ++ cs.drop j=nmF d k:=by unfold nmF;rw[<- eb,<- ej,<- ec]
   have sw:qbs 12 (cs.take j ++ [c] ++ cs.drop j):=⟨by simp;omega,by simp;omega,λx hx=>by
    rcases List.mem_append.mp hx with z|z
    ·rcases List.mem_append.mp z with z|z
     ·exact hc x (List.mem_of_mem_take z)
     ·rw[List.mem_singleton.mp z];exact hcb
    ·exact hc x (List.mem_of_mem_drop z)⟩
   rw[en] at sw ⊢;exact q _ s3 sw
end
section
variable {P:Program} {w:World} {K:Frag} {mg:Str->Option Value} {base:Heap} {C_Roll C_Rule C_Book C_BookError C_NoNumber C_NoRule C_Backward C_NoName C_NoMark:Addr}
theorem qub {s u:TS} {D:Ends} {σ:St} {H:Hp} (J:St->Hp->Prop) (h1:∀ N:St->Hp->Prop,(∀ σ' H',J σ' H'->N σ' H')->s { D with nx:=N } σ H) (h2:∀ σ' H',J σ' H'->u D σ' H'):qzx s u D σ H:=h1 (u D) h2
theorem qet {F:St->Hp->Prop} {σ σ':St} {H:Hp} (e:σ=σ') (h:F σ' H):F σ H:=e ▸ h
structure PrB (ps:List (Int×Int)) (g:Option Int):Prop where
 P:Pr ps g
 b:∀ p∈ps,p.1<10 ^ 23/\p.2<=3072
 gb:∀ z,g=some z->z<10 ^ 23
theorem PrB.wb {ps:List (Int×Int)} {g:Option Int} (h:PrB ps g):∀ p∈ps,p.2<=10 ^ 35:=λp hp=>Int.le_trans (h.b p hp).2 (by decide)
def wB:Nat->Int
 | 0=>3
 | n+1=>4*wB n
structure Chn (qs:List (Int×Int)) (age width:Int):Prop where
 each:∀ (i:Nat) p,qs[i]?=some p->(0<=p.1/\p.1<10 ^ 23)/\1<=p.2/\p.2<=3072
 next:∀ (i:Nat) p q,qs[i]?=some p->qs[i+1]?=some q->p.1<=q.1/\q.2 % p.2=0
 last:∀ p,qs[qs.length-1]?=some p->p.1<=age/\width % p.2=0
theorem Chn.nil (a w:Int):Chn [] a w:=⟨λi p h=>by simp at h,λi p q h=>by simp at h,λp h=>by simp at h⟩
theorem Chn.snoc {qs:List (Int×Int)} {a w a' k:Int} (h:Chn qs a w) (a0:0<=a) (a1:a<10 ^ 23) (w0:1<=w) (w1:w<=3072) (ha:a<=a'):Chn (qs ++ [(a,w)]) a' (w*k):=by
 refine ⟨λi p e=>?_,λi p q e e'=>?_,λp e=>?_⟩
 ·rw[List.getElem?_append] at e
  split at e
  ·exact h.each i p e
  ·have:p=(a,w):=by
    have:=List.mem_of_getElem? e
    simpa using this
   subst this;exact ⟨⟨a0,a1⟩,w0,w1⟩
 ·rw[List.getElem?_append] at e e'
  split at e'
  ·rw[if_pos (by omega)] at e
   exact h.next i p q e e'
  ·have hq:q=(a,w):=by
    have:=List.mem_of_getElem? e'
    simpa using this
   have h0:i+1-qs.length=0:=by
    have:=(List.getElem?_eq_some_iff.mp e').1
    simp at this
    omega
   rw[if_pos (by omega)] at e;rw[show i=qs.length-1 by omega] at e;subst hq;exact h.last p e
 ·rw[List.length_append,List.length_singleton,Nat.add_sub_cancel,List.getElem?_append_right (Nat.le_refl _),Nat.sub_self] at e
  cases e;exact ⟨ha,Int.mul_emod_right _ _⟩
theorem Chn.pr {qs:List (Int×Int)} {a w:Int} {g:Option Int} (h:Chn qs a w) (h1:1<=qs.length) (h5:qs.length<=5) (hg:∀ z,g=some z->a<=z/\z<10 ^ 23):PrB qs g:=by
 refine ⟨⟨⟨h1,h5,λi p e=>⟨(h.each i p e).1.1,(h.each i p e).2.1⟩,h.next⟩,λi p e=>?_,λp e z ez=>Int.le_trans (h.last p e).1 (hg z ez).1,λz ez=>?_⟩,λp hp=>?_,λz ez=>(hg z ez).2⟩
 ·have:=h.each i p e
  exact ⟨this.1.1,by omega,this.2.1,by omega⟩
 ·have:=hg z ez
  obtain ⟨p,e⟩:∃ p,qs[qs.length-1]?=some p:=⟨_,List.getElem?_eq_getElem (by omega)⟩;have l:=h.last p e;have q:=h.each _ p e;exact ⟨by omega,by omega⟩
 ·obtain ⟨i,hi,e⟩:=List.getElem_of_mem hp
  have:=h.each i p (by rw[<- e];exact List.getElem?_eq_getElem hi);exact ⟨this.1.2,this.2.2⟩
theorem qA1 (m w:Int) (h0:1<=w) (h1:w<=10 ^ 20):∃ z,atI [V.int 1,V.int 1,V.int 10,V.int w] (m % 4)=some (.int z)/\1<=z/\z<=10 ^ 20:=by
 rcases (show m % 4=0\/m % 4=1\/m % 4=2\/m % 4=3 by omega) with e|e|e|e<;>rw[e]
 ·exact ⟨_,rfl,by decide,by decide⟩
 ·exact ⟨_,rfl,by decide,by decide⟩
 ·exact ⟨_,rfl,by decide,by decide⟩
 ·exact ⟨_,rfl,h0,h1⟩
theorem qvy {x k w:Int} (h0:0<=x) (h1:x<=k) (w0:1<=w) (w1:w<=10 ^ 20):0<=x*w/\x*w<=k*10 ^ 20:=
 ⟨Int.mul_nonneg h0 (by omega),Int.mul_le_mul h1 w1 (by omega) (by omega)⟩
theorem qzt {i:Nat} (h:i<=5):wB i<=3072:=by
 rcases (show i=0\/i=1\/i=2\/i=3\/i=4\/i=5 by omega) with rfl|rfl|rfl|rfl|rfl|rfl<;>decide
def qow:Sp:=λvs H Q _=>∃ d,vs=[.int d]/\∀ t l xs ps g H',Same H H'->H l=none->H' t=some (.tup [.ref l,gv g])->H' l=some (.lst xs)->Pairs H' xs ps->PrB ps g->Q (.ref t) H'
theorem qmp (T:Txt K mg C_Roll C_Rule C_Book C_BookError C_NoNumber C_NoRule C_Backward C_NoName C_NoMark):qbz P w K mg base 2 "_law_rule" ["_law_draw"] qow:=by
 obtain ⟨f,fd,F,hm⟩:=T.f__law_rule;have nd:=sc__law_rule.nd;refine F.def_ hm (F.ok sc__law_rule (λvs H Q E h=>?_) (λcdv A outer s H vs Q E hr h=>?_)) (F.binds λ_ _ _ _ _ _ us hl=>by obtain ⟨_,rfl⟩:=L2.lq1 hl;rfl)
 ·obtain ⟨d,rfl,_⟩:=h;rfl
 ·obtain ⟨d,rfl,q⟩:=h
  refine ⟨_,(qac (qay (i:=1) nd rfl (Or.inl rfl) (qa4 qa0 (qc9 (qaa qae (qaa qae (qaa qae (qaa (qal qbn qae (qal qa5 (qal qey (pv 0) qae) (qal qgv qae qae))) qad))))) (qal qa5 (qax (qar T) (hr.mono (by decide)) rfl (qaa (pv 0) (qaa qae qad))) qae) (λ_ _=>rfl)))
   (qac (qay (i:=2) nd rfl (Or.inl rfl) (qal qc8 (qal qa5 (qax (qar T) (hr.mono (by decide)) rfl (qaa (pv 0) (qaa qae qad))) qae) (pv 1)))
   (qac (qay (i:=3) nd rfl (Or.inl rfl) (qal qbn qae (qal qa5 (qax (qar T) (hr.mono (by decide)) rfl (qaa (pv 0) (qaa qae qad))) qae)))
   (qac (qay (i:=4) nd rfl (Or.inl rfl) (qc9 qad))
   (qac (qev PassesOwn.never rfl (qex rfl T.b_range (qaa (qal qbn qae (qal qa5 (qax (qar T) (hr.mono (by decide)) rfl (qaa (pv 0) (qaa qae qad))) qae)) qad)) (qas (i:=5) nd rfl (Or.inl rfl))
    (qac (qby (qr7 PySem.F.plainAttrs_list PySem.F.slot_list_append PySem.F.type_list_append qgm (pv 4) (qaa (qb0 (qaa (pv 2) (qaa (pv 3) qad))) qad)))
   (qac (qay (i:=2) nd rfl (Or.inl rfl) (qal qbn (pv 2) (qal qc8 (qal qa5 (qax (qar T) (hr.mono (by decide)) rfl (qaa (pv 0) (qaa (qal qbn qae (qal qi3 qae (pv 5))) qad))) qae) (pv 1))))
   (qaf (qay (i:=3) nd rfl (Or.inl rfl) (qal qc8 (pv 3) (qal qbn qae (qal qa5 (qax (qar T) (hr.mono (by decide)) rfl (qaa (pv 0) (qaa (qal qbn qae (qal qi3 qae (pv 5))) qad))) qae))))))))
   (qac (qbc (qap qhg (qal qa5 (qax (qar T) (hr.mono (by decide)) rfl (qaa (pv 0) (qaa qae qad))) qae) qae (qat _))
    (qaf (qam (qb0 (qaa (pv 4) (qaa qdj qad)))))
    qao)
   (qaf (qam (qb0 (qaa (pv 4) (qaa (qal qbn (pv 2) (qal qc8 (qal qa5 (qax (qar T) (hr.mono (by decide)) rfl (qaa (pv 0) (qaa qae qad))) qae) (pv 1))) qad))))))))))),?_⟩
  have w20:0<=d / 7 % 10 ^ 20/\d / 7 % 10 ^ 20<10 ^ 20:=⟨Int.emod_nonneg _ (by decide),Int.emod_lt_of_pos _ (by decide)⟩
  walk_at "r";intro p0 H0 n0
  walk_at "r";intro m0 m00 m01
  obtain ⟨z,hz,z0,z1⟩:=qA1 m0 (1+d / 7 % 10 ^ 20) (by omega) (by omega);refine ⟨_,_,rfl,rfl,by decide,p0,_,_,_,rfl,rfl,SqL.of n0.at_,hz,qaw ?_⟩;refine qet (σ':=[some (.int d),some (.int z),none,none,none,none]) rfl ?_;refine ⟨_,rfl,d,41,rfl,by decide,by decide,λm1 m10 m11=>?_⟩;have ma:=qvy (x:=m1 % 4) (k:=3) (by omega) (by omega) z0 z1;refine ⟨_,_,rfl,rfl,by decide,_,rfl,_,_,rfl,rfl,⟨⟨by omega,by omega⟩,by omega,by omega⟩,qaw ?_⟩
  generalize m1 % 4*z=age0 at ma
  refine qet (σ':=[some (.int d),some (.int z),some (.int age0),none,none,none]) rfl ?_;refine ⟨_,rfl,d,42,rfl,by decide,by decide,λm2 m20 m21=>?_⟩;refine ⟨_,_,rfl,rfl,by decide,_,_,rfl,rfl,qaw ?_⟩;refine qet (σ':=[some (.int d),some (.int z),some (.int age0),some (.int (1+m2 % 3)),none,none]) rfl ?_;refine ⟨Nat.zero_le _,λl H1 n1=>qaw ?_⟩;refine qet (σ':=[some (.int d),some (.int z),some (.int age0),some (.int (1+m2 % 3)),some (.ref l),none]) rfl ?_;refine ⟨_,rfl,d,43,rfl,by decide,by decide,λm3 m30 m31=>?_⟩;have fl:H l=none:=n0.same.free n1.fresh;refine ⟨_,_,rfl,rfl,by decide,_,_,rfl,rfl,_,rfl,by omega,by omega,qhf (n:=(1+m3 % 5).toNat) (λi σ H2=>Same H H2/\∃ (qs:List (Int×Int)) (xs:List V) (a w':Int) (v5:Option V),H2 l=some (.lst xs)/\Pairs H2 xs qs/\qs.length=i/\Chn qs a w'/\(0<=a/\a<=(3+4*i)*10 ^ 20)/\(1<=w'/\w'<=wB i)/\σ=[some (.int d),some (.int z),some (.int a),some (.int w'),some (.ref l),v5]) ⟨n0.same.trans n1.same,[],[],age0,_,_,n1.at_,.nil,rfl,Chn.nil _ _,⟨ma.1,by have:=ma.2;simpa using this⟩,⟨by omega,by show 1+m2 % 3<=3;omega⟩,rfl⟩ ?_ ?_⟩
  ·rintro i σ H2 hi ⟨s2,qs,xs,a,w',v5,hl,hp,hq,ch,ab,wb,rfl⟩
   rw[Int.zero_add];have i5:i<5:=by omega
   have w5:=qzt (i:=i) (by omega);have xl:=hp.length;refine qaw (qet (σ':=[some (.int d),some (.int z),some (.int a),some (.int w'),some (.ref l),some (.int i)]) rfl ?_);refine ⟨_,rfl,.inl ⟨rfl,_,SqL.of hl⟩,_,rfl,_,rfl,qis (by simp),λt H3 n3=>?_⟩;refine ⟨l,_,_,rfl,rfl,n3.same _ _ hl,qa6 (by omega),λH4 b4 h4=>?_⟩;refine ⟨_,rfl,_,rfl,_,rfl,_,_,rfl,rfl,by walk_at "c",_,_,rfl,rfl,d,_,rfl,by omega,by omega,λm4 m40 m41=>?_⟩;have mb:=qvy (x:=m4 % 5) (k:=4) (by omega) (by omega) z0 z1;refine ⟨_,_,rfl,rfl,by decide,_,rfl,_,_,rfl,rfl,⟨⟨by omega,by omega⟩,by omega,by omega⟩,_,_,rfl,rfl,qaw ?_⟩
   generalize m4 % 5*z=ad at mb
   refine qet (σ':=[some (.int d),some (.int z),some (.int (a+ad)),some (.int w'),some (.ref l),some (.int i)]) rfl ?_;refine ⟨_,rfl,_,rfl,_,rfl,_,_,rfl,rfl,by walk_at "c",_,_,rfl,rfl,d,_,rfl,by omega,by omega,λm5 m50 m51=>?_⟩;refine ⟨_,_,rfl,rfl,by decide,_,_,rfl,rfl,_,_,rfl,rfl,⟨⟨by omega,by omega⟩,by omega,by omega⟩,qaw ?_⟩;have wn:w'*(1+m5 % 4)<=wB i*4:=Int.mul_le_mul wb.2 (by omega) (by omega) (by omega);have wp:1*1<=w'*(1+m5 % 4):=Int.mul_le_mul wb.1 (by omega) (by omega) (by omega);refine ⟨b4.same (s2.trans n3.same) fl,qs ++ [(a,w')],_,a+ad,w'*(1+m5 % 4),_,h4,?_,by simp[hq],ch.snoc ab.1 (by omega) wb.1 (by omega) (by omega),⟨by omega,by have:=mb.2;omega⟩,⟨by omega,by show _<=4*wB i;omega⟩,rfl⟩;exact ((hp.same n3.same).but b4 (n3.same _ _ hl) qqs).snoc ⟨t,rfl,b4 _ _ n3.at_ (qa1 n3.at_ (n3.same _ _ hl) (by intro z;cases z))⟩
  ·rintro σ H2 ⟨s2,qs,xs,a,w',v5,hl,hp,hq,ch,ab,wb,rfl⟩
   have n5:1<=qs.length/\qs.length<=5:=by omega
   refine ⟨_,rfl,d,60,rfl,by decide,by decide,λm6 m60 m61=>?_⟩;refine ⟨_,_,rfl,rfl,by decide,rfl,_,rfl,?_⟩;refine qhp (λz=>?_) λz'=>?_
   ·refine ⟨_,rfl,qis (by simp),λt H3 n3=>?_⟩
    exact q t l xs qs none H3 (s2.trans n3.same) fl n3.at_ (n3.same _ _ hl) (hp.same n3.same) (ch.pr n5.1 n5.2 λz e=>by cases e)
   ·refine ⟨_,rfl,_,rfl,_,rfl,d,61,rfl,by decide,by decide,λm7 m70 m71=>?_⟩
    have mb:=qvy (x:=m7 % 9) (k:=8) (by omega) (by omega) z0 z1;refine ⟨_,_,rfl,rfl,by decide,_,rfl,_,_,rfl,rfl,⟨⟨by omega,by omega⟩,by omega,by omega⟩,_,_,rfl,rfl,qis (by simp),λt H3 n3=>?_⟩;refine q t l xs qs (some (a+m7 % 9*z)) H3 (s2.trans n3.same) fl n3.at_ (n3.same _ _ hl) (hp.same n3.same) (ch.pr n5.1 n5.2 λy e=>?_);cases e;have:=ab.2;exact ⟨by omega,by omega⟩
end
section
variable {P:Program} {w:World} {K:Frag} {mg:Str->Option Value} {base:Heap} {C_Roll C_Rule C_Book C_BookError C_NoNumber C_NoRule C_Backward C_NoName C_NoMark:Addr}
def T42 (t:Int):Prop:=-(10 ^ 42)<t/\t<10 ^ 42
theorem qA2 (m a b c d:Int) {W:Int} (ha:1<=a/\a<W) (hb:1<=b/\b<W) (hc:1<=c/\c<W) (hd:1<=d/\d<W):∃ z,atI [V.int a,V.int b,V.int c,V.int d] (m % 4)=some (.int z)/\1<=z/\z<W:=by
 rcases (show m % 4=0\/m % 4=1\/m % 4=2\/m % 4=3 by omega) with e|e|e|e<;>rw[e]
 ·exact ⟨_,rfl,ha⟩
 ·exact ⟨_,rfl,hb⟩
 ·exact ⟨_,rfl,hc⟩
 ·exact ⟨_,rfl,hd⟩
theorem Pairs.at {H:Hp} {xs:List V} {ps:List (Int×Int)} (h:Pairs H xs ps) {i:Nat} (hi:i<ps.length):∃ a p,xs[i]?=some (.ref a)/\p∈ps/\ps[i]?=some p/\H a=some (.tup [.int p.1,.int p.2]):=by
 have hl:=h.length;have e:xs[i]?=some xs[i]:=List.getElem?_eq_getElem (by omega);obtain ⟨p,hp,a,ea,q⟩:=h.get e;rw[ea] at e;exact ⟨a,p,e,List.mem_of_getElem? hp,hp,q⟩
inductive qjl (vs:List V) (H:Hp) (Q:VK) (E_:XK):Prop
 | mk:∀ (l:Addr) (xs:List V) (ps:List (Int×Int)) (g:Option Int) (day d:Int),vs=[.ref l,gv g,.int day,.int d]->H l=some (.lst xs)->Pairs H xs ps->PrB ps g->(-(10 ^ 31)<=day/\day<=10 ^ 31)->(∀ t H',Same H H'->T42 t->Q (.int t) H')->qjl vs H Q E_
theorem qmq (T:Txt K mg C_Roll C_Rule C_Book C_BookError C_NoNumber C_NoRule C_Backward C_NoName C_NoMark):qbz P w K mg base 2 "_law_time" ["_law_steps", "_law_gone", "_law_day", "_law_draw"] qjl:=by
 obtain ⟨f,fd,F,hm⟩:=T.f__law_time;have nd:=sc__law_time.nd;refine F.def_ hm (F.ok sc__law_time (λvs H Q E h=>?_) (λcdv A outer s H vs Q E hr h=>?_)) (F.binds λ_ _ _ _ _ _ us hl=>by obtain ⟨_,_,_,_,rfl⟩:=L2.lq4 hl;rfl)
 ·obtain ⟨l,xs,ps,g,day,d,rfl,_⟩:=h;rfl
 ·obtain ⟨l,xs,ps,g,day,d,rfl,hl,hp,pb,hd,q⟩:=h
  have lo:=pb.P.good.lo;have xl:=hp.length;obtain ⟨aL,pL,eL,mL,_,hL⟩:=hp.at (i:=ps.length-1) (by omega);obtain ⟨a0,p0,e0,m0,_,h0⟩:=hp.at (i:=0) (by omega);rw[<- xl] at eL;have bL:=pb.b pL mL;have b0:=pb.b p0 m0;obtain ⟨iL,hiL,eiL⟩:=List.getElem_of_mem mL;have gL:=pb.P.good.each iL pL (by rw[<- eiL];exact List.getElem?_eq_getElem hiL);obtain ⟨i0,hi0,ei0⟩:=List.getElem_of_mem m0;have g0:=pb.P.good.each i0 p0 (by rw[<- ei0];exact List.getElem?_eq_getElem hi0);have i0':atI xs 0=some (.ref a0):=qfs (j:=0) e0;refine ⟨_,(qac (qay (i:=4) nd rfl (Or.inl rfl) (qal qbn (qa4 qbo (qa4 qa0 (pv 0) (qiv qfp qae) (λ_ _=>rfl)) qae (λ_ _=>rfl)) (qa4 qbo (qa4 qa0 (pv 0) (qiv qfp qae) (λ_ _=>rfl)) qae (λ_ _=>rfl))))
   (qac (qay (i:=5) nd rfl (Or.inl rfl) (qa4 qa0 (qc9 (qaa qae (qaa (qal qbn (qal qbn (qal qc8 qae (qa4 qbo (qa4 qa0 (pv 0) qae (λ_ _=>rfl)) qae (λ_ _=>rfl))) (qa4 qbo (qa4 qa0 (pv 0) qae (λ_ _=>rfl)) qae (λ_ _=>rfl))) qae) (qaa (qal qbn (qal qc8 qae (pv 4)) qae) (qaa (qal qbn (qal qc8 qae (pv 4)) qae) qad))))) (qal qa5 (qax (qar T) (hr.mono (by decide)) rfl (qaa (pv 3) (qaa qae qad))) qae) (λ_ _=>rfl)))
   (qac (qbc (qap qhg (qal qa5 (qax (qar T) (hr.mono (by decide)) rfl (qaa (pv 3) (qaa qae qad))) qae) qae (qat _))
    (qaf (qam (qal qfo (pv 2) (qal qa5 (qal qey (pv 3) qae) (qal qgv qae qae)))))
    qao)
   (qac (qay (i:=6) nd rfl (Or.inl rfl) (qal qey (pv 3) qae))
   (qac (qbc (PW.pt (qkk (qap qjq (pv 1) qdj (qat _)) (qhe (qap qhg (qal qa5 (qax (qar T) (hr.mono (by decide)) rfl (qaa (pv 3) (qaa qae qad))) qae) qae (qat _)))))
    (qaf (qam (qal qbn (qal qfo (qal qfo (pv 2) (pv 1)) (qal qa5 (pv 6) (qal qbn (qal qc8 qae (qa4 qbo (qa4 qa0 (pv 0) (qiv qfp qae) (λ_ _=>rfl)) qae (λ_ _=>rfl))) qae))) (qa4 qbo (qa4 qa0 (pv 0) (qiv qfp qae) (λ_ _=>rfl)) qae (λ_ _=>rfl)))))
    qao)
   (qaf (qam (qal qfo (qal qbn (pv 2) qae) (qal qa5 (pv 6) (pv 5)))))))))),?_⟩
  walk_at "r"
  intro p1 H1 n1
  walk_at "r"
  intro m1 m10 m11;obtain ⟨f,hf,f0,f1⟩:=qA2 m1 4 (2*p0.2+p0.1+2) (2*(pL.1+pL.2)+9) (3*(pL.1+pL.2)+9) (W:=10 ^ 25) (by decide) (by omega) (by omega) (by omega);refine ⟨_,_,rfl,rfl,by decide,p1,_,_,_,rfl,rfl,SqL.of n1.at_,hf,qaw ?_⟩;refine qet (σ':=[some (.ref l),some (gv g),some (.int day),some (.int d),some (.int (pL.1+pL.2)),some (.int f),none]) rfl ?_;have d40:0<=d / 5 % 10 ^ 40/\d / 5 % 10 ^ 40<10 ^ 40:=⟨Int.emod_nonneg _ (by decide),Int.emod_lt_of_pos _ (by decide)⟩;refine ⟨_,rfl,d,72,rfl,by decide,by decide,λm2 _ _=>⟨_,_,rfl,rfl,by decide,rfl,_,rfl,?_⟩⟩;refine qhp (λz=>?_) λz=>?_
  ·walk_at "r"
   exact q (day-d / 5 % 10 ^ 40) H1 n1.same ⟨by omega,by omega⟩
  refine ⟨_,rfl,_,_,rfl,rfl,by walk_at "c",qaw ?_⟩;refine qet (σ':=[some (.ref l),some (gv g),some (.int day),some (.int d),some (.int (pL.1+pL.2)),some (.int f),some (.int (d / 5))]) rfl ?_;have fin:T42 (day+3-d / 5 % f):=by
   have h1:=Int.emod_nonneg (d / 5) (show f≠0 by omega);have h2:=Int.emod_lt_of_pos (d / 5) (show 0<f by omega);exact ⟨by omega,by omega⟩
  refine ⟨_,rfl,rfl,_,rfl,?_⟩
  cases g with
  | none =>
   refine qd7 ?_;refine ⟨_,rfl,_,_,rfl,rfl,_,rfl,_,rfl,_,_,rfl,rfl,by walk_at "c",_,_,rfl,rfl,q _ H1 n1.same fin⟩
  | some gz =>
   refine qd8 ?_;refine ⟨_,rfl,d,73,rfl,by decide,by decide,λm3 _ _=>⟨_,_,rfl,rfl,by decide,rfl,_,rfl,?_⟩⟩;have gzb:=pb.gb gz rfl;have gz0:=(pb.P.gb gz rfl).1;refine qhp (λz=>?_) λz=>?_
   ·have hl1:=n1.same _ _ hl
    have hL1:=n1.same _ _ hL;have h1:=Int.emod_nonneg (d / 5) (show 2*pL.2+3≠0 by omega);have h2:=Int.emod_lt_of_pos (d / 5) (show 0<2*pL.2+3 by omega);have fin2:T42 (day-gz-d / 5 % (2*pL.2+3)+pL.2):=⟨by omega,by omega⟩;have e1:gv (some gz)=V.int gz:=rfl;refine qet (σ':=[some (.ref l),some (.int gz),some (.int day),some (.int d),some (.int (pL.1+pL.2)),some (.int f),some (.int (d / 5))]) rfl ?_
    walk_at "r"
    exact q _ H1 n1.same fin2
   ·refine ⟨_,rfl,_,_,rfl,rfl,_,rfl,_,rfl,_,_,rfl,rfl,by walk_at "c",_,_,rfl,rfl,q _ H1 n1.same fin⟩
def qmr:Sp:=λvs H Q _=>∃ d,vs=[.int d]/\∀ v,-(10 ^ 40)<=v->v<=10 ^ 40->Q (.int v) H
theorem ql7 (T:Txt K mg C_Roll C_Rule C_Book C_BookError C_NoNumber C_NoRule C_Backward C_NoName C_NoMark):qbz P w K mg base 2 "_law_value" ["_law_draw"] qmr:=by
 obtain ⟨f,fd,F,hm⟩:=T.f__law_value;have nd:=sc__law_value.nd;refine F.def_ hm (F.ok sc__law_value (λvs H Q E h=>?_) (λcdv A outer s H vs Q E hr h=>?_)) (F.binds λ_ _ _ _ _ _ us hl=>by obtain ⟨_,rfl⟩:=L2.lq1 hl;rfl)
 ·obtain ⟨d,rfl,_⟩:=h;rfl
 ·obtain ⟨d,rfl,q⟩:=h
  refine ⟨_,(qac (qay (i:=1) nd rfl (Or.inl rfl) (qax (qar T) (hr.mono (by decide)) rfl (qaa (pv 0) (qaa qae qad))))
   (qac (qbc (qap qhg (qal qa5 (pv 1) qae) qae (qat _))
    (qaf (qam (qal qfo (qal qa5 (qal qey (pv 0) qae) (qal qc8 qae (qal qgv qae qae))) (qal qgv qae qae))))
    qao)
   (qaf (qam (qal qfo (qal qa5 (qal qey (pv 1) qae) qae) qae))))),?_⟩
  refine ⟨_,rfl,d,74,rfl,by decide,by decide,λm m0 m1=>qaw ?_⟩;refine qet (σ':=[some (.int d),some (.int m)]) rfl ?_;have d40:0<=d / 3 % (2*10 ^ 40)/\d / 3 % (2*10 ^ 40)<2*10 ^ 40:=⟨Int.emod_nonneg _ (by decide),Int.emod_lt_of_pos _ (by decide)⟩
  walk_at "r"
  refine qhp (λz=>?_) λz=>?_
  ·walk_at "r"
   exact q (d / 3 % (2*10 ^ 40)-10 ^ 40) (by omega) (by omega)
  ·walk_at "r"
   exact q (m / 4 % 19-9) (by omega) (by omega)
theorem qA3 (m n a:Int) (hn:0<=n) (ha:0<=a/\a<10 ^ 30):∃ z,atI [V.int 1,V.int 1,V.int (1+n / 5 % 5),V.int (1+a),V.int 2] (m % 5)=some (.int z)/\1<=z/\z<=10 ^ 31:=by
 rcases (show m % 5=0\/m % 5=1\/m % 5=2\/m % 5=3\/m % 5=4 by omega) with e|e|e|e|e<;>rw[e]
 ·exact ⟨_,rfl,by decide,by decide⟩
 ·exact ⟨_,rfl,by decide,by decide⟩
 ·exact ⟨_,rfl,by omega,by omega⟩
 ·exact ⟨_,rfl,by omega,by omega⟩
 ·exact ⟨_,rfl,by decide,by decide⟩
def qox:Sp:=λvs H Q _=>∃ d,vs=[.int d]/\∀ m H',Same H H'->1<=m->m<=10 ^ 31->Q (.int m) H'
theorem qms (T:Txt K mg C_Roll C_Rule C_Book C_BookError C_NoNumber C_NoRule C_Backward C_NoName C_NoMark):qbz P w K mg base 2 "_law_many" ["_law_draw"] qox:=by
 obtain ⟨f,fd,F,hm⟩:=T.f__law_many;have nd:=sc__law_many.nd;refine F.def_ hm (F.ok sc__law_many (λvs H Q E h=>?_) (λcdv A outer s H vs Q E hr h=>?_)) (F.binds λ_ _ _ _ _ _ us hl=>by obtain ⟨_,rfl⟩:=L2.lq1 hl;rfl)
 ·obtain ⟨d,rfl,_⟩:=h;rfl
 ·obtain ⟨d,rfl,q⟩:=h
  refine ⟨_,(qac (qay (i:=1) nd rfl (Or.inl rfl) (qax (qar T) (hr.mono (by decide)) rfl (qaa (pv 0) (qaa qae qad))))
   (qaf (qam (qa4 qa0 (qc9 (qaa qae (qaa qae (qaa (qal qbn qae (qal qa5 (qal qey (pv 1) qae) qae)) (qaa (qal qbn qae (qal qa5 (qal qey (pv 0) qae) (qal qgv qae qae))) (qaa qae qad)))))) (qal qa5 (pv 1) qae) (λ_ _=>rfl))))),?_⟩
  refine ⟨_,rfl,d,75,rfl,by decide,by decide,λm m0 m1=>qaw ?_⟩;refine qet (σ':=[some (.int d),some (.int m)]) rfl ?_;have d30:0<=d / 3 % 10 ^ 30/\d / 3 % 10 ^ 30<10 ^ 30:=⟨Int.emod_nonneg _ (by decide),Int.emod_lt_of_pos _ (by decide)⟩
  walk_at "r"
  intro p1 H1 n1;obtain ⟨z,hz,z0,z1⟩:=qA3 m m (d / 3 % 10 ^ 30) m0.1 d30
  walk_at "r"
  exact q z H1 n1.same z0 z1
def RdN (H:Hp) (v:V) (r:List Nat×Rd3):Prop:=∃ a,v=.ref a/\H a=some (.tup [tS r.1,.int r.2.1,.int r.2.2.1,.int r.2.2.2])
def RdNs (H:Hp) (ys:List V) (rs:List (List Nat×Rd3)):Prop:=Paired (RdN H) ys rs
theorem RdNs.tupS {H H':Hp} (s:qo3 H H'):∀ {ys:List V} {rs:List (List Nat×Rd3)},RdNs H ys rs->RdNs H' ys rs
 | _,_,.nil=>.nil
 | _,_,.cons ⟨a,e,q⟩ t=>.cons ⟨a,e,s _ _ q⟩ (RdNs.tupS s t)
theorem RdNs.snoc {H:Hp} {v:V} {r:List Nat×Rd3} (h:RdN H v r):∀ {ys:List V} {rs:List (List Nat×Rd3)},RdNs H ys rs->RdNs H (ys ++ [v]) (rs ++ [r])
 | _,_,.nil=>.cons h .nil
 | _,_,.cons b t=>.cons b (RdNs.snoc h t)
theorem RdNs.length {H:Hp}:∀ {ys:List V} {rs:List (List Nat×Rd3)},RdNs H ys rs->ys.length=rs.length
 | _,_,.nil=>rfl
 | _,_,.cons _ t=>by rw[List.length_cons,List.length_cons,RdNs.length t]
def RL63 (r:Rd3):Prop:=T42 r.1/\(-(10 ^ 40)<=r.2.1/\r.2.1<=10 ^ 40)/\1<=r.2.2/\r.2.2<=10 ^ 31
inductive qio (vs:List V) (H:Hp) (Q:VK) (E_:XK):Prop
 | mk:∀ (lc ln ls:Addr) (cs:List Int) (nms:List (List Nat)) (xs:List V) (ps:List (Int×Int)) (g:Option Int) (day:Int),vs=[.ref lc,.ref ln,.ref ls,gv g,.int day]->H lc=some (.lst (cs.map V.int))->cs.length<=63->H ln=some (.lst (nms.map tS))->1<=nms.length->nms.length<=60->H ls=some (.lst xs)->Pairs H xs ps->PrB ps g->(-(10 ^ 31)<=day/\day<=10 ^ 31)->(∀ l ys rs H',Same H H'->H l=none->H' l=some (.lst ys)->RdNs H' ys rs->rs.length=cs.length->(∀ r∈rs,r.1∈nms/\RL63 r.2)->Q (.ref l) H')->qio vs H Q E_
theorem qip (T:Txt K mg C_Roll C_Rule C_Book C_BookError C_NoNumber C_NoRule C_Backward C_NoName C_NoMark):qbz P w K mg base 3 "_law_readings" ["_law_cells", "_law_names", "_law_steps", "_law_gone", "_law_day"] qio:=by
 obtain ⟨f,fd,F,hm⟩:=T.f__law_readings;have nd:=sc__law_readings.nd;refine F.def_ hm (F.ok sc__law_readings (λvs H Q E h=>?_) (λcdv A outer s H vs Q E hr h=>?_)) (F.binds λ_ _ _ _ _ _ us hl=>by obtain ⟨_,_,_,_,_,rfl⟩:=L2.lq5 hl;rfl)
 ·obtain ⟨lc,ln,ls,cs,nms,xs,ps,g,day,rfl,_⟩:=h;rfl
 ·obtain ⟨lc,ln,ls,cs,nms,xs,ps,g,day,rfl,hc,hcl,hn,n1',n60,hl,hp,pb,hd,q⟩:=h
  refine ⟨_,(qac (qay (i:=5) nd rfl (Or.inl rfl) (qc9 qad))
   (qac (qev PassesOwn.never rfl (qcd (pv 0)) (qas (i:=6) nd rfl (Or.inl rfl))
    (qac (qay (i:=7) nd rfl (Or.inl rfl) (qa4 qa0 (pv 1) (qal qa5 (qax (qar T) (hr.mono (by decide)) rfl (qaa (pv 6) (qaa qae qad))) (qan qbf rfl T.b_len qd9 (qaa (pv 1) qad))) (λ_ _=>rfl)))
   (qaf (qby (qr7 PySem.F.plainAttrs_list PySem.F.slot_list_append PySem.F.type_list_append qgm (pv 5) (qaa (qb0 (qaa (pv 7) (qaa (qax (qmq T) (hr.mono (by decide)) rfl (qaa (pv 2) (qaa (pv 3) (qaa (pv 4) (qaa (pv 6) qad))))) (qaa (qax (ql7 T) (hr.mono (by decide)) rfl (qaa (pv 6) qad)) (qaa (qax (qms T) (hr.mono (by decide)) rfl (qaa (pv 6) qad)) qad))))) qad))))))
   (qaf (qam (pv 5))))),?_⟩
  refine ⟨Nat.zero_le _,λlf H1 n1=>qaw ?_⟩;refine qet (σ':=[some (.ref lc),some (.ref ln),some (.ref ls),some (gv g),some (.int day),some (.ref lf),none,none]) rfl ?_;refine ⟨_,rfl,lc,rfl,⟨_,SqL.of (n1.same _ _ hc)⟩,qdy (xs:=cs.map V.int) (λi σ H2=>Same H H2/\∃ (ys:List V) (rs:List (List Nat×Rd3)) (v6 v7:Option V),H2 lf=some (.lst ys)/\RdNs H2 ys rs/\rs.length=i/\(∀ r∈rs,r.1∈nms/\RL63 r.2)/\σ=[some (.ref lc),some (.ref ln),some (.ref ls),some (gv g),some (.int day),some (.ref lf),v6,v7]) ⟨n1.same,[],[],_,_,n1.at_,.nil,rfl,by simp,rfl⟩ (λi σ H2 _ h2=>SqL.of (h2.1 _ _ hc)) ?_ ?_⟩
  ·rintro i x σ H2 hi ⟨s2,ys,rs,v6,v7,hf,hr,hrl,hrs,rfl⟩
   obtain ⟨d,rfl⟩:∃ d,x=V.int d:=by
    obtain ⟨d,_,e⟩:=List.mem_map.mp (List.mem_of_getElem? hi);exact ⟨d,e.symm⟩
   have ic:i<cs.length:=by have:=(List.getElem?_eq_some_iff.mp hi).1;rw[List.length_map] at this;exact this
   refine qaw (qet (σ':=[some (.ref lc),some (.ref ln),some (.ref ls),some (gv g),some (.int day),some (.ref lf),some (.int d),v7]) rfl ?_);refine ⟨_,rfl,_,rfl,d,76,rfl,by decide,by decide,λm m0 m1=>?_⟩;have hm1:=Int.emod_nonneg m (show (nms.length:Int)≠0 by omega);have hm2:=Int.emod_lt_of_pos m (show (0:Int)<nms.length by omega);obtain ⟨j,hj⟩:=Int.eq_ofNat_of_zero_le hm1;have jl:j<nms.length:=by omega
   have hnj:(nms.map tS)[j]?=some (tS nms[j]):=by simp[jl]
   have hnm:nms[j]∈nms:=List.getElem_mem jl
   generalize nms[j]=nm at hnj hnm
   refine ⟨_,rfl,ln,_,rfl,.inl (SqL.of (s2 _ _ hn)),?_⟩;rw[List.length_map];refine ⟨_,_,rfl,rfl,by omega,?_⟩;rw[hj];refine ⟨ln,_,_,_,rfl,rfl,SqL.of (s2 _ _ hn),qfs hnj,qaw ?_⟩;refine qet (σ':=[some (.ref lc),some (.ref ln),some (.ref ls),some (gv g),some (.int day),some (.ref lf),some (.int d),some (tS nm)]) rfl ?_;refine ⟨_,rfl,.inl ⟨rfl,_,SqL.of hf⟩,_,rfl,_,rfl,_,rfl,_,rfl,_,rfl,ls,xs,ps,g,day,d,rfl,s2 _ _ hl,hp.same s2,pb,hd,λt H3 s3 ht=>?_⟩;refine ⟨_,rfl,d,rfl,λva va0 va1=>⟨_,rfl,d,rfl,λmm H4 s4 mm0 mm1=>?_⟩⟩;refine ⟨qis (by simp),λta H5 n5=>?_⟩;have s25:=s3.trans (s4.trans n5.same);have hf5:=s25 _ _ hf;refine ⟨lf,_,_,rfl,rfl,hf5,qa6 (by have:=hr.length;omega),λH6 b6 h6=>?_⟩;refine ⟨b6.same (s2.trans s25) n1.fresh,_,rs ++ [(nm,t,va,mm)],_,_,h6,?_,by simp[hrl],λr hr'=>?_,rfl⟩
   ·exact ((RdNs.tupS (Same.tup s25) hr).tupS (b6.tup hf5 qqs)).snoc ⟨ta,rfl,b6 _ _ n5.at_ (qa1 n5.at_ hf5 (by intro z;cases z))⟩
   ·rcases List.mem_append.mp hr' with z|z
    ·exact hrs r z
    ·rw[List.mem_singleton.mp z];exact ⟨hnm,ht,⟨va0,va1⟩,mm0,mm1⟩
  ·rintro σ H2 ⟨s2,ys,rs,v6,v7,hf,hr,hrl,hrs,rfl⟩
   rw[List.length_map] at hrl;exact ⟨_,rfl,q lf ys rs H2 s2 n1.fresh hf hr hrl hrs⟩
end
section
variable {P:Program} {w:World} {K:Frag} {mg:Str->Option Value} {base:Heap} {C_Roll C_Rule C_Book C_BookError C_NoNumber C_NoRule C_Backward C_NoName C_NoMark:Addr}
theorem RLt.ok {r:Rd3} (h:RLt r):ROk r:=by
 obtain ⟨h1,h2,h3,h4⟩:=h;exact ⟨⟨by omega,by omega⟩,⟨by dsimp only;omega,by dsimp only;omega⟩,h3,by dsimp only;omega⟩
theorem RL63.lt {r:Rd3} (h:RL63 r):RLt r:=by
 obtain ⟨⟨h1,h2⟩,⟨h3,h4⟩,h5,h6⟩:=h;exact ⟨⟨by omega,by omega⟩,⟨by omega,by omega⟩,h5,h6⟩
inductive qg5 (C CR R:Addr) (vs:List V) (H:Hp) (Q:VK) (E_:XK):Prop
 | mk:∀ (b:Addr) (B:BookD) (es:List Int) (ge:Option Int) (X:qbk) (v:V) (t va m:Int),vs=[.ref b,v,.int t,.int va,.int m]->BkC C CR R H b B es ge X->TextV H v->qki t->(1<=m->RLt (t,va,m))->(∀ x e,(x,e)∈X->e.2.2.1.length<50)->(∀ x,v=tS x->qbs 12 x)->(¬ qgt X v->∀ H',Same H H'->Q (.str "name") H')->(∀ x e,v=tS x->(x,e)∈X->m<1->∀ H',Same H H'->Q (.str "number") H')->(∀ x e,v=tS x->(x,e)∈X->1<=m->∀ H',But2 e.2.1.dy e.2.1.dh H H'->RB CR R H' B es ge (e.1,e.2.1,e.2.2.1 ++ [(t,va,m)],e.2.2.2)->Q (.bl (qb8 (B.ps.map (·.2)) es ge t).isSome) H')->qg5 C CR R vs H Q E_
theorem qi1 (T:Txt K mg C_Roll C_Rule C_Book C_BookError C_NoNumber C_NoRule C_Backward C_NoName C_NoMark):qbz P w K mg base 6 "_law_refusal" ["_law_book", "_law_name_here", "_law_time_here", "_law_value_here", "_law_many_here"] (qg5 C_Book C_Roll C_Rule):=by
 obtain ⟨f,fd,F,hm⟩:=T.f__law_refusal;have nd:=sc__law_refusal.nd;refine F.def_ hm (F.ok sc__law_refusal (λvs H Q E h=>?_) (λcdv A outer s H vs Q E hr h=>?_)) (F.binds λ_ _ _ _ _ _ us hl=>by obtain ⟨_,_,_,_,_,rfl⟩:=L2.lq5 hl;rfl)
 ·obtain ⟨b,B,es,ge,X,v,t,va,m,rfl,_⟩:=h;rfl
 ·obtain ⟨b,B,es,ge,X,v,t,va,m,rfl,A',hv,ht,hrl,h50,hsm,q1,q2,q3⟩:=h
  obtain ⟨dx,hob⟩:=A'.ob;refine ⟨_,(qaf (qw6 (j:=5) ⟨rfl,rfl,rfl⟩ nd rfl rfl rfl rfl T.mg_BookError T.kx_BookError.kt (λ_ _=>(qac (qbc (PW.pt (qkk (qap qhg (pv 4) qae (qat _)) (qhe (qap qhg (qal qa5 (pv 3) qae) qae (qat _)))))
    (qaf (qam (qdz (dvs:=[.int 1]) (qbi ⟨rfl,rfl,rfl⟩) (pv 0) T.cl_Book (ql3 T).choose_spec (hr.mono (by decide)) (.cons ⟨_,rfl⟩ .nil) (qaa (pv 1) (qaa (pv 2) (qaa (pv 3) qad))))))
    qao)
   (qaf (qam (qdz (qbi ⟨rfl,rfl,rfl⟩) (pv 0) T.cl_Book (ql2 T) (hr.mono (by decide)) .nil (qaa (pv 1) (qaa (pv 2) (qaa (pv 3) (qaa (pv 4) qad)))))))))
    (λ_ _=>(qac (qbc (PW.pt (qkk (qda (qan (qf3 (K:=K) rfl) rfl T.b_isinstance qa3 (qaa (pv 5) (qaa (qen (v:=.ref C_NoName) rfl T.mg_NoName rfl) qad)))) (qhe (qd5 (qda (qan (qf3 (K:=K) rfl) rfl T.b_isinstance qa3 (qaa (pv 5) (qaa (qen (v:=.ref C_NoNumber) rfl T.mg_NoNumber rfl) qad))))))))
    (qaf (qam qd4))
    qao)
   (qac (qbc (PW.pt (qkk (qda (qan (qf3 (K:=K) rfl) rfl T.b_isinstance qa3 (qaa (pv 5) (qaa (qen (v:=.ref C_NoNumber) rfl T.mg_NoNumber rfl) qad)))) (qhe (qd5 (qda (qan (qf3 (K:=K) rfl) rfl T.b_isinstance qa3 (qaa (pv 5) (qaa (qen (v:=.ref C_NoName) rfl T.mg_NoName rfl) qad))))))))
    (qaf (qam qd4))
    qao)
   (qaf (qam qd4))))))),?_⟩
  have two:∀ m',m'=m->∀ (E:XK) ,(∀ H1,Same H H1->¬ qgt X v->E (.ref C_NoName) none H1)->(∀ H1,Same H H1->m<1->(∃ x e,v=tS x/\(x,e)∈X)->E (.ref C_NoNumber) none H1)->qfl C_Book C_Roll C_Rule C_NoName C_NoNumber [.ref b,v,.int t,.int va,.int m'] H Q E:=λm' em E e1 e2=>by
   subst em;exact ⟨b,B,es,ge,X,v,t,va,m',rfl,A',hv,ht,hrl,h50,λhn H1 s1=>e1 H1 s1 hn,λx e ev hx hm h1 H1 s1=>e2 H1 s1 h1 ⟨x,e,ev,hm⟩,λx e ev hx hm h1 H1 b1 r1=>q3 x e ev hm h1 H1 b1 r1⟩
  have no:=qg2 B.ru B.day B.le B.dm B.dr (m:= "put") (by decide +kernel) (by decide +kernel) (by decide +kernel) (by decide +kernel) (by decide +kernel);refine ⟨_,rfl,rfl,_,rfl,?_⟩;have rest:∀ m',m'=m->∀ (E:XK) (D:VK),D=Q->(∀ H1,Same H H1->¬ qgt X v->E (.ref C_NoName) none H1)->(∀ H1,Same H H1->m<1->(∃ x e,v=tS x/\(x,e)∈X)->E (.ref C_NoNumber) none H1)->qfl C_Book C_Roll C_Rule C_NoName C_NoNumber [.ref b,v,.int t,.int va,.int m'] H D E:=λm' em E D eD=>by subst eD;exact two m' em E
  refine qhp (λz=>?_) λz=>?_
  ·have em:m=1:=by have:=of_decide_eq_true z;injection this
   refine ⟨_,rfl,_,_,rfl,rfl,by decide,rfl,_,rfl,?_⟩;refine qhp (λz2=>?_) λz2=>?_
   ·refine ⟨_,rfl,b,dx,_,rfl,hob,no,_,rfl,_,rfl,_,rfl,?_⟩
    refine rest 1 em.symm _ _ rfl (λH1 s1 hn=>?_) (λH1 s1 h1 _=>absurd h1 (by omega));refine ⟨⟨C_NoName,rfl,T.kx_NoName.kt,T.hit_NoName_BookError⟩,λe H2 n2=>?_⟩;refine ⟨_,rfl,e,C_NoName,none,.ref C_NoName,true,rfl,n2.at_,T.kx_NoName,(λ_ z=>by cases z),T.is_NoName_NoName,_,rfl,qd8 ?_⟩;refine ⟨_,rfl,e,C_NoName,none,.ref C_NoNumber,false,rfl,n2.at_,T.kx_NoName,(λ_ z=>by cases z),T.is_NoName_NoNumber,_,rfl,qd8 ?_⟩;exact q1 hn H2 (s1.trans n2.same)
   ·refine ⟨_,rfl,b,dx,_,rfl,hob,no,_,rfl,_,rfl,_,rfl,_,rfl,?_⟩
    refine rest m rfl _ _ rfl (λH1 s1 hn=>?_) (λH1 s1 h1 _=>absurd h1 (by omega));refine ⟨⟨C_NoName,rfl,T.kx_NoName.kt,T.hit_NoName_BookError⟩,λe H2 n2=>?_⟩;refine ⟨_,rfl,e,C_NoName,none,.ref C_NoName,true,rfl,n2.at_,T.kx_NoName,(λ_ z=>by cases z),T.is_NoName_NoName,_,rfl,qd8 ?_⟩;refine ⟨_,rfl,e,C_NoName,none,.ref C_NoNumber,false,rfl,n2.at_,T.kx_NoName,(λ_ z=>by cases z),T.is_NoName_NoNumber,_,rfl,qd8 ?_⟩;exact q1 hn H2 (s1.trans n2.same)
  ·refine ⟨_,rfl,b,dx,_,rfl,hob,no,_,rfl,_,rfl,_,rfl,_,rfl,?_⟩
   refine rest m rfl _ _ rfl (λH1 s1 hn=>?_) (λH1 s1 h1 ⟨x,e,ev,hm⟩=>?_)
   ·refine ⟨⟨C_NoName,rfl,T.kx_NoName.kt,T.hit_NoName_BookError⟩,λe H2 n2=>?_⟩
    refine ⟨_,rfl,e,C_NoName,none,.ref C_NoName,true,rfl,n2.at_,T.kx_NoName,(λ_ z=>by cases z),T.is_NoName_NoName,_,rfl,qd8 ?_⟩;refine ⟨_,rfl,e,C_NoName,none,.ref C_NoNumber,false,rfl,n2.at_,T.kx_NoName,(λ_ z=>by cases z),T.is_NoName_NoNumber,_,rfl,qd8 ?_⟩;exact q1 hn H2 (s1.trans n2.same)
   ·refine ⟨⟨C_NoNumber,rfl,T.kx_NoNumber.kt,T.hit_NoNumber_BookError⟩,λe' H2 n2=>?_⟩
    refine ⟨_,rfl,e',C_NoNumber,none,.ref C_NoName,false,rfl,n2.at_,T.kx_NoNumber,(λ_ z=>by cases z),T.is_NoNumber_NoName,_,rfl,qd7 ?_⟩;refine ⟨_,rfl,e',C_NoNumber,none,.ref C_NoNumber,true,rfl,n2.at_,T.kx_NoNumber,(λ_ z=>by cases z),T.is_NoNumber_NoNumber,_,rfl,qd8 ?_⟩;refine ⟨_,rfl,e',C_NoNumber,none,.ref C_NoName,false,rfl,n2.at_,T.kx_NoNumber,(λ_ z=>by cases z),T.is_NoNumber_NoName,_,rfl,qd8 ?_⟩;exact q2 x e ev hm h1 H2 (s1.trans n2.same)
end
section
variable {P:Program} {w:World} {K:Frag} {mg:Str->Option Value} {base:Heap} {C_Roll C_Rule C_Book C_BookError C_NoNumber C_NoRule C_Backward C_NoName C_NoMark:Addr}
section
variable {K:Frag} {H:Hp} {p q:Addr} {xs ys:List V} {Q:VK}
theorem neT {rs:List (List Int)} (hp:H p=some (.lst xs)) (tp:Tups H xs rs) (hq:H q=some (.lst ys)) (tq:Tups H ys rs) (h:Q (.bl false) H):qtj K true (.ref p) (.ref q) H Q:=
 ⟨_,_,tp.rep hp,tq.rep hq,qeq _,qeq _,qnl _,by rw[if_pos rfl,PySem.SeqAt.eqv_refl _ (qeq _)];exact h⟩
theorem eqT {rs:List (List Int)} (hp:H p=some (.lst xs)) (tp:Tups H xs rs) (hq:H q=some (.lst ys)) (tq:Tups H ys rs) (h:Q (.bl true) H):qtj K false (.ref p) (.ref q) H Q:=
 ⟨_,_,tp.rep hp,tq.rep hq,qeq _,qeq _,qnl _,by rw[if_neg (by decide),PySem.SeqAt.eqv_refl _ (qeq _)];exact h⟩
theorem quc:∀ vs:List V,PyData.depthAll (vs.map dV)<=0
 | []=>Nat.le_refl _
 | v :: vs=>by
  show max (PyData.depth (dV v)) (PyData.depthAll (vs.map dV))<=0
  have:=quc vs;have:PyData.depth (dV v)=0:=by cases v<;>rfl
  omega
theorem neE (hp:H p=some (.lst xs)) (hq:H q=some (.lst xs)) (he:∀ v∈xs,Ed v) (h:Q (.bl false) H):qtj K true (.ref p) (.ref q) H Q:=
 ⟨_,_,.lst (SqL.of hp) (qmi he),.lst (SqL.of hq) (qmi he),ed_lay' _,ed_lay' _,by show PyData.depthAll _+1<=20;have:=quc xs;omega,by rw[if_pos rfl,PySem.SeqAt.eqv_refl _ (ed_lay' _)];exact h⟩
theorem neP {ps:List (Int×Int)} (hp:H p=some (.lst xs)) (tp:Pairs H xs ps) (hq:H q=some (.lst ys)) (tq:Pairs H ys ps) (h:Q (.bl false) H):qtj K true (.ref p) (.ref q) H Q:=
 ⟨_,_,tp.rep hp,tq.rep hq,qhz _,qhz _,qqq _,by rw[if_pos rfl,PySem.SeqAt.eqv_refl _ (qhz _)];exact h⟩
end
section
variable {C R:Addr} {H:Hp} {r:Addr} {q:qaz} {ps:List (Int×Int)} {g:Option Int} {d:Int} {es:List Int} {ge:Option Int} {rs:List Rd3} {LY LZ:List (List Int)}
theorem R63.rows (h:R63 C R H r q ps g d es ge rs LY LZ) (h50:rs.length<=50):(qco (qer (qb8 (ps.map (·.2)) es ge) rs)).length<=rs.length/\∀ z∈qco (qer (qb8 (ps.map (·.2)) es ge) rs),∃ a w m t lo hi,z=[a,w,m,t,lo,hi]/\qki a:=by
 obtain ⟨my,mz,sy,sz,h2,hz2⟩:=h.R.skeys;obtain ⟨LY',LZ',_,_,tk⟩:=h.take h50 (qb8 (ps.map (·.2)) es ge);have cnt:=qnt (TagL.of (qq2 (qb8 (ps.map (·.2)) es ge) rs)) sy sz;rw[List.length_map] at cnt;refine ⟨by rw[<- qdf sz,List.length_map];omega,λz hz=>?_⟩;obtain ⟨a,w,m,t,lo,hi,e,ha,_⟩:=tk.z z hz;exact ⟨a,w,m,t,lo,hi,e,ha⟩
end
theorem RR.junk {C R N:Addr} {H:Hp} {ro:Addr} {c:qaz} {s:Abs} {LY LZ:List (List Int)} {t v:Int} {Q:VK} {E:XK} (h:RR C R H ro c s LY LZ) (ok:qd1 c) (ht:qki t) (hv:qrr (v,1)) (ly:LY.length<63) (lz:LZ.length<63)
  (k:∀ b s' LY' LZ' H',RR C R H' ro c s' LY' LZ'->LY'.length<=LY.length+1->LZ'.length<=LZ.length+1->But2 c.dy c.dh H H'->Q (.bl b) H'):qe3 C R N [.ref ro,.int t,.int v,.int 1] H Q E:=by
 refine (h.mono (List.subset_cons_self [t,v] _) (List.subset_cons_self (qt4 (cellD c) (t,v,1)) _)).putX ok ht (by decide) hv (by rw[List.length_cons];omega) (by rw[List.length_cons];omega) List.mem_cons_self (λa w e=>by unfold qt4;rw[e];exact List.mem_cons_self) λH' R' b'=>?_
 exact k _ _ _ _ H' R' (by rw[List.length_cons];exact Nat.le_refl _) (by rw[List.length_cons];exact Nat.le_refl _) b'
def qte (B:BookD) (es:List Int) (ge:Option Int):Prop:=eV B.ps B.g B.day=es.map V.int ++ [gv ge]
inductive qjm (C CR R:Addr) (vs:List V) (H:Hp) (Q:VK) (E_:XK):Prop
 | mk:∀ (b:Addr) (B:BookD) (es:List Int) (ge:Option Int) (X:qbk) (x:List Nat) (e:RC) (lk:Addr) (ys:List V),vs=[.ref b,.ref B.ru,.int B.day,tS x,.ref lk]->BkC C CR R H b B es ge X->qte B es ge->qbs 12 x->XOk X->(x,e)∈X->e.2.2.1.length<=20->H lk=some (.lst ys)->Tups H ys (e.2.2.1.map l3)->(∀ H',Same H H'->Q (.bl true) H')->qjm C CR R vs H Q E_
theorem ql8 (T:Txt K mg C_Roll C_Rule C_Book C_BookError C_NoNumber C_NoRule C_Backward C_NoName C_NoMark):qbz P w K mg base 9 "_law_right" ["_law_book", "_law_made", "_law_day", "_law_name_here", "_law_kept"] (qjm C_Book C_Roll C_Rule):=by
 obtain ⟨f,fd,F,hm⟩:=T.f__law_right;have nd:=sc__law_right.nd;refine F.def_ hm (F.ok sc__law_right (λvs H Q E h=>?_) (λcdv A outer s H vs Q E hr h=>?_)) (F.binds λ_ _ _ _ _ _ us hl=>by obtain ⟨_,_,_,_,_,rfl⟩:=L2.lq5 hl;rfl)
 ·obtain ⟨b,B,es,ge,X,x,e,lk,ys,rfl,_⟩:=h;rfl
 ·obtain ⟨b,B,es,ge,X,x,e,lk,ys,rfl,A',dE,hx,xk,hm,h20,hlk,tk,q⟩:=h
  obtain ⟨dx,hob⟩:=A'.ob;have tx:∀ {H:Hp},TextV H (tS x):=.inl ⟨x,rfl,by have:=hx.2.1;omega⟩;have inx:qgt X (tS x):=⟨x,rfl,hx,List.mem_map.mpr ⟨_,hm,rfl⟩⟩;have no:(bof B.ru B.day B.le B.dm B.dr).lookup ("roll" : Str)=none:=qg2 _ _ _ _ _ (by decide +kernel) (by decide +kernel) (by decide +kernel) (by decide +kernel) (by decide +kernel);obtain ⟨xs0,hxs0,pxs0⟩:=A'.rule.ls;have P:=A'.ok.P;have g5:=P.good.hi;have hEl:(es.map V.int ++ [gv ge]).length=B.ps.length+1:=by have:=A'.ok.F.len;rw[List.length_map] at this;simp;omega
  have hln:es.length=B.ps.length:=by have:=A'.ok.F.len;rw[List.length_map] at this;omega
  refine ⟨_,(qac (qay (i:=5) nd rfl (Or.inl rfl) (qdz (qcr ⟨rfl,rfl,rfl⟩) (pv 0) T.cl_Book (qfw T) (hr.mono (by decide)) .nil (qaa (pv 3) qad)))
   (qac (qay (i:=6) nd rfl (Or.inl rfl) (qax (qrd T) (hr.mono (by decide)) rfl (qaa (pv 1) (qaa (pv 2) (qaa (qax (qdi T) (hr.mono (by decide)) rfl (qaa (pv 1) (qaa (pv 2) qad))) (qaa (pv 4) qad))))))
   (qac (qbc (PW.pt (qit (qap (qhq hr.units) (qa9 (pv 5) T.cl_Roll (qb7 T) (hr.mono (by decide))) (qa9 (pv 6) T.cl_Roll (qb7 T) (hr.mono (by decide))) (qat _)) (qfy (qap (qhq hr.units) (qa9 (pv 5) T.cl_Roll (qbu T) (hr.mono (by decide))) (qa9 (pv 6) T.cl_Roll (qbu T) (hr.mono (by decide))) (qat _)))))
    (qaf (qam qfx))
    qao)
   (qac (qbc (PW.pt (qit (qap (qhq hr.units) (qa9 (pv 5) T.cl_Roll (qg4 T) (hr.mono (by decide))) (qax (qdi T) (hr.mono (by decide)) rfl (qaa (pv 1) (qaa (pv 2) qad))) (qat _)) (qit (qap qkm (qa9 (pv 5) T.cl_Roll (qje T) (hr.mono (by decide))) (pv 2) (qat _)) (qfy (qap (qhq hr.units) (qa9 (qa9 (pv 5) T.cl_Roll (qig T) (hr.mono (by decide))) T.cl_Rule (qb6 T) (hr.mono (by decide))) (qa9 (pv 1) T.cl_Rule (qb6 T) (hr.mono (by decide))) (qat _))))))
    (qaf (qam qfx))
    qao)
   (qac (qby (qdz (dvs:=[.int 1]) (qcr ⟨rfl,rfl,rfl⟩) (pv 5) T.cl_Roll (qg3 T).choose_spec (hr.mono (by decide)) (.cons ⟨_,rfl⟩ .nil) (qaa (pv 2) (qaa qae qad))))
   (qac (qev PassesOwn.never rfl (qcd (qa9 (pv 6) T.cl_Roll (qbu T) (hr.mono (by decide)))) (qas (i:=7) nd rfl (Or.inl rfl))
    (qaf (qby (qdz (dvs:=[.int 1]) (qcr ⟨rfl,rfl,rfl⟩) (pv 5) T.cl_Roll (qg3 T).choose_spec (hr.mono (by decide)) (.cons ⟨_,rfl⟩ .nil) (qaa (qa4 qbo (pv 7) qae (λ_ _=>rfl)) (qaa (qal qgv qae qae) qad))))))
   (qac (qay (i:=5) nd rfl (Or.inl rfl) (qdz (qcr ⟨rfl,rfl,rfl⟩) (pv 0) T.cl_Book (qfw T) (hr.mono (by decide)) .nil (qaa (pv 3) qad)))
   (qaf (qam (qgu (qdk (qpx hr.units) (qa9 (pv 5) T.cl_Roll (qb7 T) (hr.mono (by decide))) (qa9 (pv 6) T.cl_Roll (qb7 T) (hr.mono (by decide))) (qat _)) (qi2 (qdk (qpx hr.units) (qa9 (pv 5) T.cl_Roll (qbu T) (hr.mono (by decide))) (qa9 (pv 6) T.cl_Roll (qbu T) (hr.mono (by decide))) (qat _))))))))))))),?_⟩
  refine ⟨_,rfl,b,dx,_,rfl,hob,no,_,rfl,b,B,es,ge,X,tS x,rfl,A',tx,λy e' ey hy hm' r q' LY LZ H1 s1 R1 f1 w1=>qaw ?_,λz=>absurd inx z⟩;have ey:=qfr ey;subst ey;have ee:=xk.one hm' hm;subst ee;refine qet (σ':=[some (.ref b),some (.ref B.ru),some (.int B.day),some (tS x),some (.ref lk),some (.ref r),none,none]) rfl ?_;refine ⟨_,rfl,_,rfl,_,rfl,_,rfl,B.ru,B.rl,B.ps,B.g,B.day,rfl,A'.rule.same s1,P,A'.ok.hd,λle H2 n2=>?_⟩;rw[dE] at n2;have s2:=s1.trans n2.same;refine ⟨_,rfl,B.ru,B.rl,le,lk,B.ps,B.g,B.day,_,es,ge,ys,e'.2.2.1,rfl,A'.rule.same s2,P,A'.ok.hd,n2.at_,A'.ok.E.ed,by omega,hEl,A'.ok.E,hln,s2 _ _ hlk,tk.same s2,λr hr=>(R1.hr r hr).ok,by omega,λdu c LY2 LZ2 H3 e1 e2 e3 Ec okc R3 ly2 lz2 s3 f3 f4 w3=>qaw ?_⟩;refine qet (σ':=[some (.ref b),some (.ref B.ru),some (.int B.day),some (tS x),some (.ref lk),some (.ref r),some (.ref du),none]) rfl ?_;rw[A'.ok.dom] at Ec;obtain ⟨z1,z2⟩:=EdS.uniq Ec A'.ok.E;have ecl:cellD c=qb8 (B.ps.map (·.2)) es ge:=by unfold cellD;rw[e1,z1,z2]
  rw[ecl] at R3;have l1:=R1.ly;have l2:=R1.lz;have s13:Same H1 H3:=n2.same.trans s3;have Rr:=R1.R.same s13;have R1':=R1.same s13;have s03:=s2.trans s3;clear Ec
  generalize hst:qer (qb8 (B.ps.map (·.2)) es ge) e'.2.2.1=st at Rr R3
  obtain ⟨dxr,hr⟩:=Rr.obj;obtain ⟨dxd,hd⟩:=R3.obj;refine ⟨_,rfl,r,dxr,_,rfl,hr,qdl _ _ _ _ _,?_⟩;simp only[qgf,List.cons_append,List.nil_append,List.append_nil];refine Rr.young (by omega) λa1 as1 H4 s4 _ ha1 ta1 _=>?_
  refine ⟨_,rfl,du,dxd,_,rfl,s4 _ _ hd,qdl _ _ _ _ _,?_⟩;simp only[qgf,List.cons_append,List.nil_append,List.append_nil];refine (R3.same s4).young (by omega) λa2 as2 H5 s5 _ ha2 ta2 _=>?_
  refine neT (s5 _ _ ha1) (ta1.same s5) ha2 ta2 ⟨_,rfl,qd7 ?_⟩;have s35:=s4.trans s5;refine ⟨_,rfl,r,dxr,_,rfl,s35 _ _ hr,qct _ _ _ _ _,?_⟩;simp only[qgf,List.cons_append,List.nil_append,List.append_nil];refine (Rr.same s35).heaps (by omega) λa3 as3 H6 s6 _ ha3 ta3 _=>?_
  refine ⟨_,rfl,du,dxd,_,rfl,s6 _ _ (s35 _ _ hd),qct _ _ _ _ _,?_⟩;simp only[qgf,List.cons_append,List.nil_append,List.append_nil];refine ((R3.same s35).same s6).heaps (by omega) λa4 as4 H7 s7 _ ha4 ta4 _=>?_
  refine neT (s7 _ _ ha3) (ta3.same s7) ha4 ta4 ⟨_,rfl,qd7 ?_⟩;have s37:=s35.trans (s6.trans s7);obtain ⟨Yr,Zr,Ar,Br⟩:=(Rr.same s37);have hr7:=s37 _ _ hr;refine ⟨_,rfl,r,dxr,_,rfl,hr7,qle _ _ _ _ _,r,_,rfl,Ar,λp8 H8 n8=>?_⟩;have n8at:=n8.at_;rw[show ({ q' with Y:=Yr,Z:=Zr }:qaz).es.map V.int ++ [gv ({ q' with Y:=Yr,Z:=Zr }:qaz).ge]=es.map V.int ++ [gv ge] from R1.eq] at n8at;have s38:=s37.trans n8.same;refine ⟨_,rfl,_,rfl,B.ru,B.rl,B.ps,B.g,B.day,rfl,(A'.rule.same s03).same s38,P,A'.ok.hd,λp9 H9 n9=>?_⟩;have n9at:=n9.at_;rw[dE] at n9at;refine neE (n9.same _ _ n8at) n9at A'.ok.E.ed ⟨_,rfl,qd7 ?_⟩;have s39:=s38.trans n9.same;refine ⟨_,rfl,r,dxr,_,rfl,s39 _ _ hr,qqv _ _ _ _ _,r,_,rfl,Ar.same (n8.same.trans n9.same),?_⟩;refine ⟨_,rfl,rfl,_,rfl,?_⟩;rw[show ({ q' with Y:=Yr,Z:=Zr }:qaz).day=B.day from R1.qd,decide_eq_true rfl];refine qd7 ?_;have A9:=Ar.same (n8.same.trans n9.same);have ru9:({ q' with Y:=Yr,Z:=Zr }:qaz).ru=B.ru:=w1.1;refine ⟨_,rfl,r,dxr,_,rfl,s39 _ _ hr,qnk _ _ _ _ _,r,_,rfl,A9,?_⟩;rw[ru9];have rule9:=(A'.rule.same s03).same s39;obtain ⟨dxu,hu9⟩:=rule9.ob;have hxs9:=s39 _ _ (s03 _ _ hxs0);refine ⟨B.ru,dxu,_,rfl,hu9,qmg _ _ (by decide +kernel) (by decide +kernel),B.ru,B.rl,B.ps,B.g,xs0,rfl,rule9,hxs9,λp10 H10 n10=>?_⟩;refine ⟨_,rfl,B.ru,dxu,_,rfl,n10.same _ _ hu9,qmg _ _ (by decide +kernel) (by decide +kernel),B.ru,B.rl,B.ps,B.g,xs0,rfl,rule9.same n10.same,n10.same _ _ hxs9,λp11 H11 n11=>?_⟩;have pxs11:=(((pxs0.same s03).same s39).same n10.same).same n11.same;refine neP (n11.same _ _ n10.at_) pxs11 n11.at_ pxs11 ⟨_,rfl,qd7 ?_⟩;have s311:=s39.trans (n10.same.trans n11.same);have R11:=Rr.same s311;have tbd:qki B.day:=by have:=A'.ok.hd;unfold Bd at this;exact ⟨by omega,by omega⟩
  refine ⟨_,rfl,r,dxr,_,rfl,s311 _ _ hr,qh6 _ _ _ _ _,_,rfl,?_⟩;simp only[qgf,List.cons_append,List.nil_append,List.append_nil];refine R11.junk R1.ok tbd ⟨by decide,by decide,by decide⟩ (by omega) (by omega) λb0 st2 LY3 LZ3 H12 R12 ly3 lz3 b12=>?_
  obtain ⟨⟨Y11,hY11⟩,⟨Z11,hZ11⟩⟩:=R11.dicts;obtain ⟨⟨Y1,hY1⟩,⟨Z1,hZ1⟩⟩:=R1.R.dicts;have n1:c.dy≠q'.dy:=(qah (n2.same _ _ hY1) f3).symm;have n2':c.dy≠q'.dh:=(qah (n2.same _ _ hZ1) f3).symm;have n3:c.dh≠q'.dy:=(qah (n2.same _ _ hY1) f4).symm;have n4:c.dh≠q'.dh:=(qah (n2.same _ _ hZ1) f4).symm;have D12:=(R3.same s311).frame b12 hY11 hZ11 n1 n2' n3 n4;obtain ⟨dx12,hd12⟩:=D12.obj;refine ⟨_,rfl,du,dx12,_,rfl,hd12,qct _ _ _ _ _,?_⟩;simp only[qgf,List.cons_append,List.nil_append,List.append_nil];refine D12.heaps (by omega) λa5 as5 H13 s13' _ ha5 ta5 _=>?_
  have R13:=R12.same s13';obtain ⟨⟨Y13,hY13⟩,⟨Z13,hZ13⟩⟩:=R13.dicts;have rows:=R1.rows (by omega);rw[hst] at rows;have len5:=ta5.length;have S13:Same H H13:=λc' o z=>s13' _ _ (b12 _ _ (s311 _ _ (s03 _ _ z)) (qah z f1.1) (qah z f1.2))
  refine ⟨a5,rfl,⟨_,SqL.of ha5⟩,qdy (D:={ nx:=_,rt:=Q }) (xs:=as5) (λi σ H14=>But2 q'.dy q'.dh H13 H14/\(∃ st3 LY4 LZ4,RR C_Roll C_Rule H14 r q' st3 LY4 LZ4/\LY4.length<=21+i/\LZ4.length<=21+i)/\∃ v7:Option V,σ=[some (.ref b),some (.ref B.ru),some (.int B.day),some (tS x),some (.ref lk),some (.ref r),some (.ref du),v7]) ⟨But2.refl _ _ _,⟨_,_,_,R13,by omega,by omega⟩,none,rfl⟩ (λi σ H14 _ h14=>SqL.of (h14.1.keep hY13 hZ13 ha5 (by intro K z;cases z))) ?_ ?_⟩
  ·rintro i x' σ H14 hxi ⟨b14,⟨st3,LY4,LZ4,R14,ly4,lz4⟩,v7,rfl⟩
   obtain ⟨row,hrow,ta,rfl,hta⟩:=ta5.get hxi;obtain ⟨a0,w0,m0,t0,lo0,hi0,rfl,hab⟩:=rows.2 row (List.mem_of_getElem? hrow);have ilt:i<e'.2.2.1.length:=by have:=(List.getElem?_eq_some_iff.mp hrow).1;omega
   have hta':=b14.keep hY13 hZ13 hta (by intro K z;cases z);obtain ⟨dx14,hr14⟩:=R14.obj;refine qaw (qet (σ':=[some (.ref b),some (.ref B.ru),some (.int B.day),some (tS x),some (.ref lk),some (.ref r),some (.ref du),some (.ref ta)]) rfl ?_);refine ⟨_,rfl,r,dx14,_,rfl,hr14,qh6 _ _ _ _ _,_,rfl,ta,_,_,_,rfl,rfl,SqT.of hta',rfl,?_⟩
   walk_at "r"
   simp only[qgf,List.cons_append,List.nil_append,List.append_nil];refine R14.junk (v:=10 ^ 50) R1.ok hab ⟨⟨by decide,by decide⟩,by decide,by decide⟩ (by omega) (by omega) λb0 st4 LY5 LZ5 H15 R15 ly5 lz5 b15=>?_
   exact ⟨b14.trans b15,⟨st4,LY5,LZ5,R15,by omega,by omega⟩,_,rfl⟩
  ·rintro σ H14 ⟨b14,⟨st3,LY4,LZ4,R14,ly4,lz4⟩,v7,rfl⟩
   have S14:Same H H14:=λc' o z=>b14 _ _ (S13 _ _ z) (qah z f1.1) (qah z f1.2)
   have A14:=A'.same S14;have D14:=(D12.same s13').frame b14 hY13 hZ13 n1 n2' n3 n4;refine ⟨_,rfl,b,dx,_,rfl,S14 _ _ hob,no,_,rfl,b,B,es,ge,X,tS x,rfl,A14,tx,λy e3 ey3 hy3 hm3 r2 q2 LY6 LZ6 H15 s15 R15 f15 w15=>qaw ?_,λz=>absurd inx z⟩;have ey3:=qfr ey3;subst ey3;have ee3:=xk.one hm3 hm;subst ee3;refine qet (σ':=[some (.ref b),some (.ref B.ru),some (.int B.day),some (tS x),some (.ref lk),some (.ref r2),some (.ref du),v7]) rfl ?_;have l15:=R15.ly;have l16:=R15.lz;have RR2:=R15.R;rw[hst] at RR2;have D15:=D14.same s15;obtain ⟨dxr2,hr2⟩:=RR2.obj;obtain ⟨dxd2,hd2⟩:=D15.obj;refine ⟨_,rfl,r2,dxr2,_,rfl,hr2,qdl _ _ _ _ _,?_⟩;simp only[qgf,List.cons_append,List.nil_append,List.append_nil];refine RR2.young (by omega) λc1 cs1 H16 s16 _ hc1 tc1 _=>?_
   refine ⟨_,rfl,du,dxd2,_,rfl,s16 _ _ hd2,qdl _ _ _ _ _,?_⟩;simp only[qgf,List.cons_append,List.nil_append,List.append_nil];refine (D15.same s16).young (by omega) λc2 cs2 H17 s17 _ hc2 tc2 _=>?_
   refine eqT (s17 _ _ hc1) (tc1.same s17) hc2 tc2 ⟨_,rfl,qd8 ?_⟩;have s1517:=s16.trans s17;refine ⟨_,rfl,r2,dxr2,_,rfl,s1517 _ _ hr2,qct _ _ _ _ _,?_⟩;simp only[qgf,List.cons_append,List.nil_append,List.append_nil];refine (RR2.same s1517).heaps (by omega) λc3 cs3 H18 s18 _ hc3 tc3 _=>?_
   refine ⟨_,rfl,du,dxd2,_,rfl,s18 _ _ (s1517 _ _ hd2),qct _ _ _ _ _,?_⟩;simp only[qgf,List.cons_append,List.nil_append,List.append_nil];refine ((D15.same s1517).same s18).heaps (by omega) λc4 cs4 H19 s19 _ hc4 tc4 _=>?_
   refine eqT (s19 _ _ hc3) (tc3.same s19) hc4 tc4 ?_;exact q H19 (S14.trans (s15.trans (s1517.trans (s18.trans s19))))
end
section
variable {P:Program} {w:World} {K:Frag} {mg:Str->Option Value} {base:Heap} {C_Roll C_Rule C_Book C_BookError C_NoNumber C_NoRule C_Backward C_NoName C_NoMark:Addr}
def GF (es:List Int) (ge:Option Int):Prop:=∀ z e0,ge=some z->es[0]?=some e0->z<=e0
theorem qoy {ps:List (Int×Int)} {g:Option Int} (P:Pr ps g) (d:Int) {z e0:Int} (hz:(g.map λz=>cut d z (lw ps))=some z) (h0:(ps.map λp=>cut d p.1 p.2)[0]?=some e0):z<=e0:=by
 obtain ⟨y,rfl,rfl⟩:=Option.map_eq_some_iff.mp hz;rw[List.getElem?_map] at h0;obtain ⟨p,hp,rfl⟩:=Option.map_eq_some_iff.mp h0;obtain ⟨q,hq,eq⟩:=P.last;have lo:=P.good.lo;have h1:=qid P.good (ps.length-1) 0 p q hp (by rw[Nat.zero_add];exact hq);have h2:=P.gone q hq y rfl;have hp1:=(P.good.each 0 p hp).2;have hq1:=(P.good.each _ q hq).2;rw[eq];unfold cut;have f1:=qlj (d-y) hq1;have f2:=qlj (d-p.1) hp1;have dv:p.2 ∣ (d-y) / q.2*q.2:=Int.dvd_trans h1.2 (qg1 _ _);exact Decidable.byContradiction λn=>by
  have:=qjc hp1 dv (show (d-p.1) / p.2*p.2<(d-y) / q.2*q.2 by omega);have e:(d-p.1) / p.2*p.2 / p.2*p.2=(d-p.1) / p.2*p.2:=by rw[Int.mul_ediv_cancel _ (by omega)]
  rw[e] at this;omega
end
section
variable {P:Program} {w:World} {K:Frag} {mg:Str->Option Value} {base:Heap} {C_Roll C_Rule C_Book C_BookError C_NoNumber C_NoRule C_Backward C_NoName C_NoMark:Addr}
theorem qrj {B:BookD} {es:List Int} {ge:Option Int} (ok:EdOk B es ge) (gf:GF es ge) (t:Int):(qb8 (B.ps.map (·.2)) es ge t).isSome=(match ge with|none=>true|some z=>decide (z<=t)):=by
 have lo:=ok.P.good.lo;have hl:es.length=B.ps.length:=by have:=ok.F.len;rw[List.length_map] at this;omega
 obtain ⟨e0,he0⟩:∃ e0,es[0]?=some e0:=⟨_,List.getElem?_eq_getElem (by omega)⟩;have c:=qe4 (ws:=B.ps.map (·.2)) (ge:=ge) (by rw[List.length_map];exact lo) (show 1<=es.length by omega) t e0 he0
 by_cases h:e0<=t
 ·rw[c.1 h]
  cases ge with
  | none=>rfl
  | some z =>
   have:=gf z e0 rfl he0
   show true=decide (z<=t)
   rw[decide_eq_true (by omega)]
 ·have c2:=c.2 (by omega)
  cases ge with
  | none =>
   obtain ⟨w,_,e⟩:=c2.2 (fun ⟨z,h1,_⟩=>by cases h1);rw[e];rfl
  | some z =>
   by_cases hz:t<z
   ·rw[c2.1 ⟨z,rfl,hz⟩]
    show false=decide (z<=t)
    rw[decide_eq_false (by omega)]
   ·obtain ⟨w,_,e⟩:=c2.2 (fun ⟨y,h1,h2⟩=>by cases h1;exact hz h2)
    rw[e]
    show true=decide (z<=t)
    rw[decide_eq_true (by omega)]
theorem qvz {x:List Nat} (h:qbs 12 x):(PyData.str (S x)).canLay0=true:=by
 show PyData.strOk (S x)=true
 unfold PyData.strOk;rw[Array.all_eq_true'];intro c hc;have:=h.2.2 c (by simpa [S] using hc)
 simp;omega
theorem qrk {K:Frag} {H:Hp}:∀ ms:List (List Nat),(∀ m∈ms,qbs 12 m)->∃ ds,qpw K H (ms.map tS) ds/\PyData.canLayAll0 ds=true/\PyData.depthAll ds=0
 | [],_=>⟨[],.nil,rfl,rfl⟩
 | m :: ms,h=>by
  obtain ⟨ds,r,c,d⟩:=qrk ms λx hx=>h x (.tail _ hx)
  refine ⟨_ :: ds,.cons (.str _) r,?_,?_⟩
  ·show (PyData.canLay0 _ && PyData.canLayAll0 ds)=true
   rw[qvz (h m (.head _)),c];rfl
  ·show max (PyData.depth _) (PyData.depthAll ds)=0
   rw[d];rfl
theorem eqX {K:Frag} {H:Hp} {p q:Addr} {ms:List (List Nat)} {Q:VK} (hs:∀ m∈ms,qbs 12 m) (hp:H p=some (.lst (ms.map tS))) (hq:H q=some (.lst (ms.map tS))) (h:Q (.bl true) H):qtj K false (.ref p) (.ref q) H Q:=by
 obtain ⟨ds,r,c,d⟩:=qrk (K:=K) (H:=H) ms hs;have c':(PyData.list ds).canLay0=true:=c;refine ⟨_,_,.lst (SqL.of hp) r,.lst (SqL.of hq) r,c',c',?_,?_⟩
 ·show PyData.depthAll ds+1<=20
  rw[d];decide
 ·rw[if_neg (by decide),PySem.SeqAt.eqv_refl _ c']
  exact h
inductive qiq (C CR R:Addr) (vs:List V) (H:Hp) (Q:VK) (E_:XK):Prop
 | mk:∀ (b:Addr) (B:BookD) (es:List Int) (ge:Option Int) (X:qbk) (dk:Addr) (kvs:List (Key×V)),vs=[.ref b,.ref B.ru,.int B.day,.ref dk]->BkC C CR R H b B es ge X->qte B es ge->X.length<64->(∀ p∈X,qbs 12 p.1)->H dk=some (.dK kvs)->(kvs.map (·.1)=(X.map (·.1)).map (λq=>Sum.inr (S q)))->(∀ H',Same H H'->Q (.bl true) H')->qiq C CR R vs H Q E_
theorem qem (T:Txt K mg C_Roll C_Rule C_Book C_BookError C_NoNumber C_NoRule C_Backward C_NoName C_NoMark):qbz P w K mg base 5 "_law_book_right" ["_law_book", "_law_made", "_law_day", "_law_kept"] (qiq C_Book C_Roll C_Rule):=by
 obtain ⟨f,fd,F,hm⟩:=T.f__law_book_right;have nd:=sc__law_book_right.nd;refine F.def_ hm (F.ok sc__law_book_right (λvs H Q E h=>?_) (λcdv A outer s H vs Q E hr h=>?_)) (F.binds λ_ _ _ _ _ _ us hl=>by obtain ⟨_,_,_,_,rfl⟩:=L2.lq4 hl;rfl)
 ·obtain ⟨b,B,es,ge,X,dk,kvs,rfl,_⟩:=h;rfl
 ·obtain ⟨b,B,es,ge,X,dk,kvs,rfl,A',dE,x64,hsm,hk,ek,q⟩:=h
  obtain ⟨dx,hob⟩:=A'.ob;obtain ⟨xs0,hxs0,pxs0⟩:=A'.rule.ls;obtain ⟨dxu,hu⟩:=A'.rule.ob;have no:∀ {m:Str},¬ m = "kept_rolls" -> ¬ m = "kept_marks" -> ¬ m = "kept_edges" -> ¬ m = "kept_day" -> ¬ m = "kept_rule" -> (bof B.ru B.day B.le B.dm B.dr).lookup m=none:=λa b c d e=>qg2 _ _ _ _ _ a b c d e
  refine ⟨_,(qac (qbc (PW.pt (qit (qap qkm (qa9 (pv 0) T.cl_Book (qou T) (hr.mono (by decide))) (pv 2) (qat _)) (qfy (qap (qhq hr.units) (qa9 (pv 0) T.cl_Book (ql0 T) (hr.mono (by decide))) (qax (qdi T) (hr.mono (by decide)) rfl (qaa (pv 1) (qaa (pv 2) qad))) (qat _)))))
    (qaf (qam qfx))
    qao)
   (qac (qbc (PW.pt (qit (qap (qhq hr.units) (qa9 (qa9 (pv 0) T.cl_Book (qil T) (hr.mono (by decide))) T.cl_Rule (qb6 T) (hr.mono (by decide))) (qa9 (pv 1) T.cl_Rule (qb6 T) (hr.mono (by decide))) (qat _)) (qfy (qap qkm (qa9 (qa9 (pv 0) T.cl_Book (qil T) (hr.mono (by decide))) T.cl_Rule (qfv T) (hr.mono (by decide))) (qa9 (pv 1) T.cl_Rule (qfv T) (hr.mono (by decide))) (qat _)))))
    (qaf (qam qfx))
    qao)
   (qaf (qam (qdk (qpx hr.units) (qa9 (pv 0) T.cl_Book (qly T) (hr.mono (by decide))) (qan (qd3 rfl) rfl T.b_sorted qeb (qaa (pv 3) qad)) (qat _)))))),?_⟩
  refine ⟨_,rfl,b,dx,_,rfl,hob,no (by decide +kernel) (by decide +kernel) (by decide +kernel) (by decide +kernel) (by decide +kernel),b,B,es,ge,X,rfl,A',_,rfl,rfl,_,rfl,?_⟩;rw[decide_eq_true rfl];refine qd7 ?_;refine ⟨_,rfl,b,dx,_,rfl,hob,no (by decide +kernel) (by decide +kernel) (by decide +kernel) (by decide +kernel) (by decide +kernel),b,B,es,ge,X,rfl,A',λp1 H1 n1=>?_⟩;refine ⟨_,rfl,_,rfl,B.ru,B.rl,B.ps,B.g,B.day,rfl,A'.rule.same n1.same,A'.ok.P,A'.ok.hd,λp2 H2 n2=>?_⟩;have n2at:=n2.at_;rw[dE] at n2at;refine neE (n2.same _ _ n1.at_) n2at A'.ok.E.ed ⟨_,rfl,qd7 ?_⟩;have s2:=n1.same.trans n2.same;have A2:=A'.same s2;have rno:∀ {m:Str},¬ m = "gone_age" -> ¬ m = "kept_steps" -> (rf B.rl (gv B.g)).lookup m=none:=λa b=>qmg _ _ a b
  refine ⟨_,rfl,b,dx,_,rfl,s2 _ _ hob,no (by decide +kernel) (by decide +kernel) (by decide +kernel) (by decide +kernel) (by decide +kernel),b,B,es,ge,X,rfl,A2,?_⟩;refine ⟨B.ru,dxu,_,rfl,s2 _ _ hu,rno (by decide +kernel) (by decide +kernel),B.ru,B.rl,B.ps,B.g,xs0,rfl,A2.rule,s2 _ _ hxs0,λp3 H3 n3=>?_⟩;refine ⟨_,rfl,B.ru,dxu,_,rfl,n3.same _ _ (s2 _ _ hu),rno (by decide +kernel) (by decide +kernel),B.ru,B.rl,B.ps,B.g,xs0,rfl,A2.rule.same n3.same,n3.same _ _ (s2 _ _ hxs0),λp4 H4 n4=>?_⟩;have px4:=((pxs0.same s2).same n3.same).same n4.same;refine neP (n4.same _ _ n3.at_) px4 n4.at_ px4 ⟨_,rfl,qd7 ?_⟩;have s4:=s2.trans (n3.same.trans n4.same);have A4:=A'.same s4;refine ⟨_,rfl,b,dx,_,rfl,s4 _ _ hob,no (by decide +kernel) (by decide +kernel) (by decide +kernel) (by decide +kernel) (by decide +kernel),b,B,es,ge,X,rfl,A4,?_⟩;refine ⟨B.ru,dxu,_,rfl,s4 _ _ hu,rno (by decide +kernel) (by decide +kernel),B.ru,B.rl,B.ps,B.g,rfl,A4.rule,?_⟩;refine ⟨_,rfl,B.ru,dxu,_,rfl,s4 _ _ hu,rno (by decide +kernel) (by decide +kernel),B.ru,B.rl,B.ps,B.g,rfl,A4.rule,?_⟩;have fl:qyv (gv B.g) (gv B.g)=true:=by cases B.g<;>rfl
  refine ⟨fl,_,rfl,?_⟩;rw[decide_eq_true rfl];refine qd7 ?_;refine ⟨_,rfl,b,dx,_,rfl,s4 _ _ hob,no (by decide +kernel) (by decide +kernel) (by decide +kernel) (by decide +kernel) (by decide +kernel),b,B,es,ge,X,rfl,A4,x64,λl5 H5 n5=>?_⟩;refine ⟨_,rfl,dk,kvs,X.map (·.1),rfl,.inl (n5.same _ _ (s4 _ _ hk)),ek,by rw[List.length_map];exact x64,λl6 H6 n6=>?_⟩;refine eqX (λm hm=>?_) (n6.same _ _ n5.at_) n6.at_ ?_
  ·obtain ⟨p,hp,rfl⟩:=List.mem_map.mp ((qec _).mem_iff.mp hm)
   exact hsm p hp
  ·exact q H6 (s4.trans (n5.same.trans n6.same))
end
section
variable {P:Program} {w:World} {K:Frag} {mg:Str->Option Value} {base:Heap} {C_Roll C_Rule C_Book C_BookError C_NoNumber C_NoRule C_Backward C_NoName C_NoMark:Addr}
abbrev qdx:=List (List Nat×Addr×List Rd3)
def adL (KX:Nat->qdx):List Addr:=(KX 0).map (·.2.1) ++ (KX 1).map (·.2.1)
def KpAt (H:Hp) (dk:Addr) (E:qdx):Prop:=∃ kvs,H dk=some (.dK kvs)/\Ents (λv (e:Addr×List Rd3)=>v=.ref e.1/\∃ ys,H e.1=some (.lst ys)/\Tups H ys (e.2.map l3)) kvs E
structure W63 (C CR R lb lk:Addr) (bs ks:Nat->Addr) (BB:Nat->BookD) (es:List Int) (ge:Option Int) (KX:Nat->qdx) (XX:Nat->qbk) (H:Hp):Prop where
 hb:rmS H (adL KX) lb=some (.lst [.ref (bs 0),.ref (bs 1)])
 hk:rmS H (adL KX) lk=some (.lst [.ref (ks 0),.ref (ks 1)])
 bk:∀ i,i<2->BkC C CR R (rmS H (adL KX)) (bs i) (BB i) es ge (XX i)
 kp:∀ i,i<2->KpAt H (ks i) (KX i)
 xo:∀ i,i<2->XOk (XX i)
 ap:∀ p∈XX 0,∀ p'∈XX 1,ApartD p.2.2.1 p'.2.2.1
 nl:(adL KX).Nodup
section
variable {C CR R lb lk:Addr} {bs ks:Nat->Addr} {BB:Nat->BookD} {es:List Int} {ge:Option Int} {KX:Nat->qdx} {XX:Nat->qbk} {H H':Hp}
theorem KpAt.same {dk:Addr} {E:qdx} (h:KpAt H dk E) (s:Same H H'):KpAt H' dk E:=let ⟨k,e,r⟩:=h;⟨k,s _ _ e,r.imp λ_ _ ⟨e1,ys,e2,e3⟩=>⟨e1,ys,s _ _ e2,e3.same s⟩⟩
theorem KpAt.lists {dk:Addr} {E:qdx} (h:KpAt H dk E):∀ l∈E.map (·.2.1),∃ zs,H l=some (.lst zs):=λl hl=>by
 obtain ⟨p,hp,rfl⟩:=List.mem_map.mp hl;obtain ⟨k,_,r⟩:=h;obtain ⟨v,_,ys,e,_⟩:=r.mem (x:=p.1) (a:=p.2) hp;exact ⟨ys,e⟩
theorem W63.ls (h:W63 C CR R lb lk bs ks BB es ge KX XX H):LsL H (adL KX):=λl hl=>by
 rcases List.mem_append.mp hl with z|z
 ·exact (h.kp 0 (by decide)).lists l z
 ·exact (h.kp 1 (by decide)).lists l z
theorem W63.same (h:W63 C CR R lb lk bs ks BB es ge KX XX H) (s:Same H H'):W63 C CR R lb lk bs ks BB es ge KX XX H':=
 ⟨qcq s _ _ h.hb,qcq s _ _ h.hk,λi hi=>(h.bk i hi).same (qcq s),λi hi=>(h.kp i hi).same s,h.xo,h.ap,h.nl⟩
theorem W63.bkH (h:W63 C CR R lb lk bs ks BB es ge KX XX H) {i:Nat} (hi:i<2):BkC C CR R H (bs i) (BB i) es ge (XX i):=(h.bk i hi).same qbt
def upX (w:Nat) (x:List Nat) (r:Rd3) (XX:Nat->qbk):Nat->qbk:=λi=>if i=w then (XX i).map (qiz x r) else XX i
theorem W63.apart (h:W63 C CR R lb lk bs ks BB es ge KX XX H) {i j:Nat} (hi:i<2) (hj:j<2) (n:i≠j) {p p':List Nat×RC} (hp:p∈XX i) (hp':p'∈XX j):ApartD p.2.2.1 p'.2.2.1:=by
 rcases (show (i=0/\j=1)\/(i=1/\j=0) by omega) with ⟨rfl,rfl⟩|⟨rfl,rfl⟩
 ·exact h.ap p hp p' hp'
 ·exact (h.ap p' hp' p hp).symm
theorem qmt {w i:Nat} {x:List Nat} {r:Rd3} {p:List Nat×RC} (h:p∈upX w x r XX i):∃ p0∈XX i,p.1=p0.1/\p.2.2.1=p0.2.2.1:=by
 unfold upX at h
 split at h
 ·obtain ⟨p0,h0,rfl⟩:=List.mem_map.mp h
  exact ⟨p0,h0,qjg x r p0,qrg x r p0⟩
 ·exact ⟨p,h,rfl,rfl⟩
theorem W63.put {w:Nat} {x:List Nat} {e:RC} {r:Rd3} (h:W63 C CR R lb lk bs ks BB es ge KX XX H) (hw:w<2) (hx:(x,e)∈XX w) (bu:But2 e.2.1.dy e.2.1.dh H H') (R':RB CR R H' (BB w) es ge (e.1,e.2.1,e.2.2.1 ++ [r],e.2.2.2)):W63 C CR R lb lk bs ks BB es ge KX (upX w x r XX) H':=by
 obtain ⟨⟨Y,hY⟩,⟨Z,hZ⟩⟩:=(h.bkH hw).dicts hx;have L:=h.ls;have kp:∀ {c:Addr} {o:HO},rmS H (adL KX) c=some o->(∀ Y,o≠.dT Y)->rmS H' (adL KX) c=some o:=fun {c o} q n=>qbh (bu.keep hY hZ (qa7 q).1 n) (qa7 q).2
 refine ⟨kp h.hb (by intro Y z;cases z),kp h.hk (by intro Y z;cases z),λi hi=>?_,λi hi=>?_,λi hi=>?_,λp hp p' hp'=>?_,h.nl⟩
 ·unfold upX
  by_cases ei:i=w
  ·subst ei
   rw[if_pos rfl];exact (h.bk i hi).putR L (h.xo i hi) hx bu hY hZ R'
  ·rw[if_neg ei]
   exact (h.bk i hi).frameR L bu hY hZ λy e' he=>h.apart hi hw ei (p:=(y,e')) (p':=(x,e)) he hx
 ·obtain ⟨k,e1,q⟩:=h.kp i hi
  exact ⟨k,bu.keep hY hZ e1 (by intro K z;cases z),q.imp λ_ _ ⟨z1,ys,z2,z3⟩=>⟨z1,ys,bu.keep hY hZ z2 (by intro K z;cases z),z3.tupS (bu.tups hY hZ)⟩⟩
 ·unfold upX
  split
  ·exact (h.xo i hi).add x r
  ·exact h.xo i hi
 ·obtain ⟨p0,m0,_,e0⟩:=qmt hp
  obtain ⟨p1,m1,_,e1⟩:=qmt hp';rw[e0,e1];exact h.ap p0 m0 p1 m1
def qo4 (x:List Nat) (r:Rd3) (p:List Nat×Addr×List Rd3):List Nat×Addr×List Rd3:=if p.1=x then (p.1,p.2.1,p.2.2 ++ [r]) else p
theorem qx4 (x:List Nat) (r:Rd3) (p:List Nat×Addr×List Rd3):(qo4 x r p).1=p.1:=by unfold qo4;split<;>rfl
theorem qx5 (x:List Nat) (r:Rd3) (p:List Nat×Addr×List Rd3):(qo4 x r p).2.1=p.2.1:=by unfold qo4;split<;>rfl
def upK (w:Nat) (x:List Nat) (r:Rd3) (KX:Nat->qdx):Nat->qdx:=λi=>if i=w then (KX i).map (qo4 x r) else KX i
theorem adK (w:Nat) (x:List Nat) (r:Rd3) (i:Nat):(upK w x r KX i).map (·.2.1)=(KX i).map (·.2.1):=by
 unfold upK
 split
 ·rw[List.map_map];exact List.map_congr_left λp _=>qx5 x r p
 ·rfl
theorem ql9 (w:Nat) (x:List Nat) (r:Rd3):adL (upK w x r KX)=adL KX:=by unfold adL;rw[adK,adK]
theorem qkg {α β:Type} {f:α->β}:∀ {l:List α} {a b:α},(l.map f).Nodup->a∈l->b∈l->f a=f b->a=b
 | [],_,_,_,h,_,_=>by cases h
 | c :: l,a,b,n,ha,hb,e=>by
  rw[List.map_cons,List.nodup_cons] at n
  rcases List.mem_cons.mp ha with z1|z1<;>rcases List.mem_cons.mp hb with z2|z2
  ·rw[z1,z2]
  ·exact absurd (List.mem_map.mpr ⟨b,z2,by rw[<- e,z1]⟩) n.1
  ·exact absurd (List.mem_map.mpr ⟨a,z1,by rw[e,z2]⟩) n.1
  ·exact qkg n.2 z1 z2 e
theorem W63.app {w:Nat} {x:List Nat} {l t:Addr} {rs:List Rd3} {r:Rd3} {ys:List V} (h:W63 C CR R lb lk bs ks BB es ge KX XX H) (hw:w<2) (hx:(x,l,rs)∈KX w) (un:∀ p∈KX w,p.1=x->p=(x,l,rs)) (hl:H l=some (.lst ys)) (ty:Tups H ys (rs.map l3)) (bu:But l H H') (hl':H' l=some (.lst (ys ++ [.ref t]))) (ht:H t=some (.tup [.int r.1,.int r.2.1,.int r.2.2])):W63 C CR R lb lk bs ks BB es ge (upK w x r KX) XX H':=by
 have hlm:l∈adL KX:=by
  unfold adL
  rcases (show w=0\/w=1 by omega) with rfl|rfl
  ·exact List.mem_append_left _ (List.mem_map.mpr ⟨_,hx,rfl⟩)
  ·exact List.mem_append_right _ (List.mem_map.mpr ⟨_,hx,rfl⟩)
 have sb:Same (rmS H (adL KX)) (rmS H' (adL KX)):=qtb bu hlm;refine ⟨by rw[ql9];exact sb _ _ h.hb,by rw[ql9];exact sb _ _ h.hk,λi hi=>by rw[ql9];exact (h.bk i hi).same sb,λi hi=>?_,h.xo,h.ap,by rw[ql9];exact h.nl⟩;obtain ⟨k,e1,q⟩:=h.kp i hi;have nt:qo3 H H':=bu.tup hl qqs;have other:∀ p∈KX i,p.2.1≠l->∀ v,(v=V.ref p.2.1/\∃ zs,H p.2.1=some (.lst zs)/\Tups H zs (p.2.2.map l3))->(v=V.ref p.2.1/\∃ zs,H' p.2.1=some (.lst zs)/\Tups H' zs (p.2.2.map l3)):=λp hp n v ⟨z1,zs,z2,z3⟩=>⟨z1,zs,bu _ _ z2 n,z3.tupS nt⟩
 have nd:=h.nl;unfold adL at nd;rw[List.nodup_append] at nd;refine ⟨k,bu _ _ e1 (qa1 e1 hl (by intro z;cases z)),?_⟩;unfold upK
 by_cases ei:i=w
 ·subst ei
  rw[if_pos rfl];refine q.map2 (qx4 x r) λp hp v z=>?_
  by_cases n:p.1=x
  ·have ep:=un p hp n
   subst ep;unfold qo4;rw[if_pos rfl];refine ⟨z.1,_,hl',?_⟩;rw[List.map_append];exact (ty.tupS nt).snoc ⟨t,rfl,nt _ _ (show H t=some (.tup ((l3 r).map V.int)) from ht)⟩
  ·unfold qo4
   rw[if_neg n];refine other p hp (λe=>n ?_) v z;have ndi:((KX i).map (·.2.1)).Nodup:=by
    rcases (show i=0\/i=1 by omega) with rfl|rfl
    ·exact nd.1
    ·exact nd.2.1
   have:=qkg ndi hp hx e;rw[this]
 ·rw[if_neg ei]
  refine q.imp2 λy v a m z=>other (y,a) m (λe=>?_) v z
  have ha:a.1∈(KX i).map (·.2.1):=List.mem_map.mpr ⟨_,m,rfl⟩;have hb:l∈(KX w).map (·.2.1):=List.mem_map.mpr ⟨_,hx,rfl⟩;have e':a.1=l:=e
  rcases (show (i=0/\w=1)\/(i=1/\w=0) by omega) with ⟨rfl,rfl⟩|⟨rfl,rfl⟩
  ·exact nd.2.2 _ ha _ hb e'
  ·exact nd.2.2 _ hb _ ha e'.symm
end
def Tie (KX:Nat->qdx) (XX:Nat->qbk):Prop:=∀ i,i<2->(KX i).map (λp=>(p.1,p.2.2))=(XX i).map (λp=>(p.1,p.2.2.2.1))
theorem Tie.up {KX:Nat->qdx} {XX:Nat->qbk} (h:Tie KX XX) (w:Nat) (x:List Nat) (r:Rd3):Tie (upK w x r KX) (upX w x r XX):=λi hi=>by
 have e:=h i hi;unfold upK upX
 split
 ·rw[List.map_map,List.map_map]
  have e1:(λp:List Nat×Addr×List Rd3=>((qo4 x r p).1,(qo4 x r p).2.2))=(λq:List Nat×List Rd3=>if q.1=x then (q.1,q.2 ++ [r]) else q) ∘ λp=>(p.1,p.2.2):=by
   funext p;unfold qo4;dsimp only [Function.comp];split<;>rfl
  have e2:(λp:List Nat×RC=>((qiz x r p).1,(qiz x r p).2.2.2.1))=(λq:List Nat×List Rd3=>if q.1=x then (q.1,q.2 ++ [r]) else q) ∘ λp=>(p.1,p.2.2.2.1):=by
   funext p;unfold qiz;dsimp only [Function.comp];split<;>rfl
  show (KX i).map (λp=>((qo4 x r p).1,(qo4 x r p).2.2))=(XX i).map (λp=>((qiz x r p).1,(qiz x r p).2.2.2.1))
  rw[e1,e2,<- List.map_map,<- List.map_map,e]
 ·exact e
theorem Tie.names {KX:Nat->qdx} {XX:Nat->qbk} (h:Tie KX XX) {i:Nat} (hi:i<2):(KX i).map (·.1)=(XX i).map (·.1):=by
 have e:=congrArg (List.map Prod.fst) (h i hi);rw[List.map_map,List.map_map] at e;exact e
end
section
variable {P:Program} {w:World} {K:Frag} {mg:Str->Option Value} {base:Heap} {C_Roll C_Rule C_Book C_BookError C_NoNumber C_NoRule C_Backward C_NoName C_NoMark:Addr}
theorem qoz (f:Nat->Addr) {w:Nat} (h:w<2):atI [V.ref (f 0),V.ref (f 1)] (w:Int)=some (.ref (f w)):=by
 rcases (show w=0\/w=1 by omega) with rfl|rfl<;>rfl
theorem qrl (K:Frag):PySem.W.kitOne K (.type "bool") (.type "str")=some false:=by rfl
theorem qv0 (es:List Int) (ge:Option Int):atI (es.map V.int ++ [gv ge]) (-1)=some (gv ge):=qnf (by simp)
def qA4 (X:qbk) (B:BookD) (es:List Int) (ge:Option Int) (x:List Nat) (t m:Int) (D:V):Prop:=
 (x ∉ X.map (·.1)/\D=.str "name")\/(x∈X.map (·.1)/\m<1/\D=.str "number")\/(x∈X.map (·.1)/\1<=m/\D=.bl (qb8 (B.ps.map (·.2)) es ge t).isSome)
structure qx6 (BB:Nat->BookD) (es:List Int) (ge:Option Int) (mk:Addr) (day:Int):Prop where
 ru:∀ i,i<2->(BB i).ru=mk
 dy:∀ i,i<2->(BB i).day=day
 de:∀ i,i<2->qte (BB i) es ge
 gf:GF es ge
structure Ln63 (XX:Nat->qbk) (n:Nat):Prop where
 rs:∀ i,i<2->∀ p∈XX i,p.2.2.2.1.length<=n
 lo:∀ i,i<2->1<=(XX i).length
 hi:∀ i,i<2->(XX i).length<60
 sm:∀ i,i<2->∀ p∈XX i,qbs 12 p.1
theorem Ln63.up {XX:Nat->qbk} {n:Nat} (h:Ln63 XX n) (w:Nat) (x:List Nat) (r:Rd3):Ln63 (upX w x r XX) (n+1):=by
 refine ⟨λi hi p hp=>?_,λi hi=>?_,λi hi=>?_,λi hi p hp=>?_⟩
 ·unfold upX at hp
  split at hp
  ·obtain ⟨p0,m0,rfl⟩:=List.mem_map.mp hp
   have:=h.rs i hi p0 m0;unfold qiz
   split
   ·show (p0.2.2.2.1 ++ [r]).length<=n+1
    rw[List.length_append,List.length_singleton];omega
   ·omega
  ·have:=h.rs i hi p hp;omega
 ·unfold upX;split
  ·rw[List.length_map];exact h.lo i hi
  ·exact h.lo i hi
 ·unfold upX;split
  ·rw[List.length_map];exact h.hi i hi
  ·exact h.hi i hi
 ·obtain ⟨p0,m0,e,_⟩:=qmt hp
  rw[e];exact h.sm i hi p0 m0
theorem Ln63.mono {XX:Nat->qbk} {n k:Nat} (h:Ln63 XX n) (hk:n<=k):Ln63 XX k:=⟨λi hi p hp=>Nat.le_trans (h.rs i hi p hp) hk,h.lo,h.hi,h.sm⟩
def qzu (L:List Addr) (H H':Hp):Prop:=∀ c o,H c=some o->c ∉ L->(∀ Y,o≠.dT Y)->H' c=some o
theorem qzv {K:Frag} {H:Hp} {Q:VK} {t1 t2 a1 a2 b1 b2:Addr} {xs ys zs us:List V} {A B:List (List Int)} (h1:H t1=some (.tup [.ref a1,.ref a2])) (ha1:H a1=some (.lst xs)) (ta1:Tups H xs A) (ha2:H a2=some (.lst ys)) (ta2:Tups H ys B)
  (h2:H t2=some (.tup [.ref b1,.ref b2])) (hb1:H b1=some (.lst zs)) (tb1:Tups H zs A) (hb2:H b2=some (.lst us)) (tb2:Tups H us B) (h:Q (.bl false) H):qtj K true (.ref t1) (.ref t2) H Q:=
 ⟨_,_,qqz h1 ha1 ta1 ha2 ta2,qqz h2 hb1 tb1 hb2 tb2,qmk _ _,qmk _ _,qvl _ _,by rw[if_pos rfl,PySem.SeqAt.eqv_refl _ (qmk _ _)];exact h⟩
theorem Tie.get2 {KX:Nat->qdx} {XX:Nat->qbk} (h:Tie KX XX) {i:Nat} (hi:i<2) {x:List Nat} {l:Addr} {rs:List Rd3} (hx:(x,l,rs)∈KX i):∃ e,(x,e)∈XX i/\e.2.2.1=rs:=by
 have:(x,rs)∈(XX i).map (λp=>(p.1,p.2.2.2.1)):=by rw[<- h i hi];exact List.mem_map.mpr ⟨_,hx,rfl⟩
 obtain ⟨p,hp,ep⟩:=List.mem_map.mp this;injection ep with a b
 exact ⟨p.2,by rw[<- a];exact hp,b⟩
theorem qtf {XX:Nat->qbk} (w:Nat) (x:List Nat) (r:Rd3) (i:Nat):(upX w x r XX i).map (·.1)=(XX i).map (·.1):=by
 unfold upX
 split
 ·exact qrh x r
 ·rfl
theorem XOk.nd {X:qbk} (h:XOk X):(X.map (·.1)).Nodup:=by
 unfold List.Nodup;rw[List.pairwise_map];exact h.imp λz=>z.1
inductive qny (C CR R:Addr) (vs:List V) (H:Hp) (Q:VK) (E_:XK):Prop
 | mk:∀ (lb lk:Addr) (bs ks:Nat->Addr) (BB:Nat->BookD) (es:List Int) (ge:Option Int) (KX:Nat->qdx) (XX:Nat->qbk) (x:List Nat) (tr mk:Addr) (w n:Nat) (t va m day:Int),vs=[.ref lb,.ref lk,.ref mk,.int day,tS x,.ref tr]->W63 C CR R lb lk bs ks BB es ge KX XX H->Tie KX XX->qx6 BB es ge mk day->Ln63 XX n->n<20->qbs 12 x->w<2->H tr=some (.tup [.int w,.int t,.int va,.int m])->T42 t->(1<=m->RL63 (t,va,m))->(∀ KX' XX' H',W63 C CR R lb lk bs ks BB es ge KX' XX' H'->Tie KX' XX'->Ln63 XX' (n+1)->adL KX'=adL KX->(∀ i,i<2->(XX' i).map (·.1)=(XX i).map (·.1))->qzu (adL KX) H H'->Q (.bl true) H')->qny C CR R vs H Q E_
theorem qo0 (T:Txt K mg C_Roll C_Rule C_Book C_BookError C_NoNumber C_NoRule C_Backward C_NoName C_NoMark):qbz P w K mg base 11 "_law_one" ["_law_books", "_law_kept", "_law_made", "_law_day", "_law_name_here", "_law_reading"] (qny C_Book C_Roll C_Rule):=by
 obtain ⟨f,fd,F,hm⟩:=T.f__law_one;have nd:=sc__law_one.nd;refine F.def_ hm (F.ok sc__law_one (λvs H Q E h=>?_) (λcdv A outer s H vs Q E hr h=>?_)) (F.binds λ_ _ _ _ _ _ us hl=>by obtain ⟨_,_,_,_,_,_,rfl⟩:=L2.lq6 hl;rfl)
 ·obtain ⟨lb,lk,bs,ks,BB,es,ge,KX,XX,x,tr,mk,w',n,t,va,m,day,rfl,_⟩:=h;rfl
 ·obtain ⟨lb,lk,bs,ks,BB,es,ge,KX,XX,x,tr,mk,wh,n,t,va,m,day,rfl,W,tie,fx,ln,n20,hx,hw,htr,ht,hrl,q⟩:=h
  have nmE:=tie.names hw;have no:∀ (B:BookD) {m:Str},¬ m = "kept_rolls" -> ¬ m = "kept_marks" -> ¬ m = "kept_edges" -> ¬ m = "kept_day" -> ¬ m = "kept_rule" -> (bof B.ru B.day B.le B.dm B.dr).lookup m=none:=λB _ a b c d e=>qg2 _ _ _ _ _ a b c d e
  have tx:∀ {H:Hp},TextV H (tS x):=.inl ⟨x,rfl,by have:=hx.2.1;omega⟩;refine ⟨_,(qac (qpa (pv 5) (qeu rfl (qav (qas (i:=6) nd rfl (Or.inl rfl)) (qav (qas (i:=7) nd rfl (Or.inl rfl)) (qav (qas (i:=8) nd rfl (Or.inl rfl)) (qav (qas (i:=9) nd rfl (Or.inl rfl)) qc7))))))
   (qac (qay (i:=10) nd rfl (Or.inl rfl) qd4)
   (qac (qbc (qmu (qps (qez hr) (pv 4) (qa4 qa0 (pv 1) (pv 6) (λ_ _=>rfl))))
    (qac (qay (i:=10) nd rfl (Or.inl rfl) qd4)
   (qaf (qbc (qap qrx (pv 9) qae (qat _))
    (qac (qay (i:=11) nd rfl (Or.inl rfl) (qa4 qa0 (qax (qdi T) (hr.mono (by decide)) rfl (qaa (pv 2) (qaa (pv 3) qad))) (qiv qfp qae) (λ_ _=>rfl)))
   (qaf (qay (i:=10) nd rfl (Or.inl rfl) (qym (qdk qhh (pv 11) qdj (qat _)) (qi2 (qdk qwe (pv 7) (pv 11) (qat _)))))))
    qao)))
    qao)
   (qac (qay (i:=12) nd rfl (Or.inl rfl) (qdz (qcr ⟨rfl,rfl,rfl⟩) (qa4 qa0 (pv 0) (pv 6) (λ_ _=>rfl)) T.cl_Book (qfw T) (hr.mono (by decide)) .nil (qaa (qa4 qa0 (qan (qd3 rfl) rfl T.b_sorted qeb (qaa (qa4 qa0 (pv 1) (pv 6) (λ_ _=>rfl)) qad)) qae (λ_ _=>rfl)) qad)))
   (qac (qay (i:=13) nd rfl (Or.inl rfl) (qb0 (qaa (qa9 (pv 12) T.cl_Roll (qb7 T) (hr.mono (by decide))) (qaa (qa9 (pv 12) T.cl_Roll (qbu T) (hr.mono (by decide))) qad))))
   (qac (qay (i:=14) nd rfl (Or.inl rfl) (qax (qi1 T) (hr.mono (by decide)) rfl (qaa (qa4 qa0 (pv 0) (pv 6) (λ_ _=>rfl)) (qaa (pv 4) (qaa (pv 7) (qaa (pv 8) (qaa (pv 9) qad)))))))
   (qac (qbc (qap (qhq hr.units) (qb0 (qaa (qa9 (pv 12) T.cl_Roll (qb7 T) (hr.mono (by decide))) (qaa (qa9 (pv 12) T.cl_Roll (qbu T) (hr.mono (by decide))) qad))) (pv 13) (qat _))
    (qaf (qam qfx))
    qao)
   (qac (qbc (PW.pt (qit (qap qkm (qan qep rfl T.b_isinstance qa3 (qaa (pv 14) (qaa (qeo (v:=.ty "str") rfl T.b_str qkx rfl) qad))) (qan qep rfl T.b_isinstance qa3 (qaa (pv 10) (qaa (qeo (v:=.ty "str") rfl T.b_str qkx rfl) qad))) (qat _)) (qfy (qap qkm (pv 14) (pv 10) (qat _)))))
    (qaf (qam qfx))
    qao)
   (qac (qbc (qd5 (qda (qan qoe rfl T.b_isinstance qa3 (qaa (pv 14) (qaa (qb0 (qaa (qeo (v:=.ty "str") rfl T.b_str qkx rfl) (qaa (qeo (v:=.ty "bool") rfl T.b_bool qpz rfl) qad))) qad)))))
    (qaf (qam qfx))
    qao)
   (qac (qbc (qd5 (qda (qan qep rfl T.b_isinstance qa3 (qaa (pv 10) (qaa (qeo (v:=.ty "str") rfl T.b_str qkx rfl) qad)))))
    (qaf (qby (qr7 PySem.F.plainAttrs_list PySem.F.slot_list_append PySem.F.type_list_append qgm (qhn (qez hr) (qa4 qa0 (pv 1) (pv 6) (λ_ _=>rfl)) (pv 4) (λ_ _=>rfl)) (qaa (qb0 (qaa (pv 7) (qaa (pv 8) (qaa (pv 9) qad)))) qad))))
    qao)
   (qac (qev PassesOwn.never rfl (qex rfl T.b_range (qaa qae qad)) (qas (i:=15) nd rfl (Or.inl rfl))
    (qac (qay (i:=16) nd rfl (Or.inl rfl) (qsc (qez hr) (qa4 qa0 (pv 1) (pv 15) (λ_ _=>rfl)) (pv 4) ⟨rfl,rfl,rfl,rfl⟩))
   (qaf (qbc (PW.pt (qkk (qap qjq (pv 16) qdj (qat _)) (qhe (qd5 (qda (qax (ql8 T) (hr.mono (by decide)) rfl (qaa (qa4 qa0 (pv 0) (pv 15) (λ_ _=>rfl)) (qaa (pv 2) (qaa (pv 3) (qaa (pv 4) (qaa (pv 16) qad)))))))))))
    (qaf (qam qfx))
    qao))))
   (qaf (qam qfx))))))))))))),?_⟩
  refine ⟨_,rfl,tr,_,rfl,SqT.of htr,rfl,_,_,rfl,_,_,rfl,_,_,rfl,_,_,rfl,rfl,?_⟩;refine qet (σ':=[some (.ref lb),some (.ref lk),some (.ref mk),some (.int day),some (tS x),some (.ref tr),some (.int wh),some (.int t),some (.int va),some (.int m),none,none,none,none,none,none,none]) rfl ?_;dsimp only;refine qaw ?_;refine qet (σ':=[some (.ref lb),some (.ref lk),some (.ref mk),some (.int day),some (tS x),some (.ref tr),some (.int wh),some (.int t),some (.int va),some (.int m),some (.str "name"),none,none,none,none,none,none]) rfl ?_
  try dsimp only
  refine qub (λσ H'=>∃ (D:V) (v11:Option V),Same H H'/\qA4 (XX wh) (BB wh) es ge x t m D/\σ=[some (.ref lb),some (.ref lk),some (.ref mk),some (.int day),some (tS x),some (.ref tr),some (.int wh),some (.int t),some (.int va),some (.int m),some D,v11,none,none,none,none,none]) (λN hN=>?_) ?_
  ·obtain ⟨kvs,hkd,en⟩:=W.kp wh hw
   have A':=W.bkH hw;refine ⟨_,rfl,_,rfl,_,rfl,lk,_,_,_,rfl,rfl,SqL.of (qbt _ _ W.hk),qoz ks hw,ks wh,_,rfl,DGet.k (k:=kS x) hkd,_,rfl,?_⟩
   by_cases hin:x∈(KX wh).map (·.1)
   ·obtain ⟨u,a,e1,_,_⟩:=en.has hin
    rw[e1];rw[nmE] at hin;refine qd8 (qaw ?_);refine qet (σ':=[some (.ref lb),some (.ref lk),some (.ref mk),some (.int day),some (tS x),some (.ref tr),some (.int wh),some (.int t),some (.int va),some (.int m),some (.str "number"),none,none,none,none,none,none]) rfl ?_;refine ⟨_,rfl,_,_,rfl,rfl,_,rfl,?_⟩;refine qhp (λz=>?_) λz=>?_
    ·have m1:1<=m:=by have:=of_decide_eq_true z;omega
     refine ⟨_,rfl,_,rfl,mk,(BB wh).rl,(BB wh).ps,(BB wh).g,day,rfl,by rw[<- fx.ru wh hw];exact A'.rule,A'.ok.P,by rw[<- fx.dy wh hw];exact A'.ok.hd,λp H2 n2=>?_⟩;have d2:=fx.de wh hw;unfold qte at d2;rw[fx.dy wh hw] at d2;rw[d2] at n2;refine ⟨_,rfl,p,_,_,_,rfl,rfl,SqL.of n2.at_,qv0 es ge,qaw ?_⟩;refine qet (σ':=[some (.ref lb),some (.ref lk),some (.ref mk),some (.int day),some (tS x),some (.ref tr),some (.int wh),some (.int t),some (.int va),some (.int m),some (.str "number"),some (gv ge),none,none,none,none,none]) rfl ?_;have cs:=qrj A'.ok fx.gf t;refine ⟨_,rfl,rfl,_,rfl,?_⟩
     cases ge with
     | none =>
      refine qd8 (qaw (hN _ _ ⟨_,_,n2.same,.inr (.inr ⟨hin,m1,?_⟩),rfl⟩));rw[cs]
     | some z =>
      refine qd7 ⟨_,rfl,_,rfl,_,_,rfl,rfl,qaw (hN _ _ ⟨_,_,n2.same,.inr (.inr ⟨hin,m1,?_⟩),rfl⟩)⟩;rw[cs]
    ·have m0:m<1:=by have:=of_decide_eq_false (Bool.not_eq_true _ ▸ z);omega
     exact hN _ _ ⟨_,_,Same.refl _,.inr (.inl ⟨hin,m0,rfl⟩),rfl⟩
   ·rw[en.hasn hin]
    rw[nmE] at hin;exact qd7 (hN _ _ ⟨_,_,Same.refl _,.inl ⟨hin,rfl⟩,rfl⟩)
  rintro σ H1 ⟨D,v11,s1,due,rfl⟩;have W1:=W.same s1;have A1:=W1.bkH hw;obtain ⟨dxb,hob⟩:=A1.ob;obtain ⟨kvs,hkd,en⟩:=W1.kp wh hw;have lnX:=ln.hi wh hw;have lnK:(KX wh).length=(XX wh).length:=by have:=congrArg List.length nmE;simpa using this
  obtain ⟨y,hy⟩:∃ y,(qf5 ((KX wh).map (·.1)))[0]?=some y:=by
   have:=(qec ((KX wh).map (·.1))).length_eq;rw[List.length_map] at this;exact ⟨_,List.getElem?_eq_getElem (by have:=ln.lo wh hw;omega)⟩
  have hyn:y∈(XX wh).map (·.1):=by rw[<- nmE];exact (qec _).mem_iff.mp (List.mem_of_getElem? hy)
  have hys:qbs 12 y:=by obtain ⟨p,hp,rfl⟩:=List.mem_map.mp hyn;exact ln.sm wh hw p hp
  have hyt:((qf5 ((KX wh).map (·.1))).map tS)[0]?=some (tS y):=by rw[List.getElem?_map,hy];rfl
  refine ⟨_,rfl,_,rfl,lb,_,_,_,rfl,rfl,SqL.of (qbt _ _ W1.hb),qoz bs hw,bs wh,dxb,_,rfl,hob,no _ (by decide +kernel) (by decide +kernel) (by decide +kernel) (by decide +kernel) (by decide +kernel),_,rfl,_,rfl,lk,_,_,_,rfl,rfl,SqL.of (qbt _ _ W1.hk),qoz ks hw,ks wh,kvs,(KX wh).map (·.1),rfl,.inl hkd,en.keys,by rw[List.length_map];omega,λls H2 n2=>?_⟩;have A2:=A1.same n2.same;refine ⟨ls,_,_,_,rfl,rfl,SqL.of n2.at_,qfs (j:=0) hyt,bs wh,BB wh,es,ge,XX wh,tS y,rfl,A2,.inl ⟨y,rfl,by have:=hys.2.1;omega⟩,λy' e0 ey' hy' hm0 ro q' LY LZ H3 s3 Ro fo wo=>qaw ?_,λz=>absurd ⟨y,rfl,hys,hyn⟩ z⟩;refine qet (σ':=[some (.ref lb),some (.ref lk),some (.ref mk),some (.int day),some (tS x),some (.ref tr),some (.int wh),some (.int t),some (.int va),some (.int m),some D,v11,some (.ref ro),none,none,none,none]) rfl ?_;have l1:=Ro.ly;have l2:=Ro.lz;have l3':e0.2.2.1.length<=n:=ln.rs wh hw (y',e0) hm0;obtain ⟨dxo,hro⟩:=Ro.R.obj;refine ⟨_,rfl,ro,dxo,_,rfl,hro,qdl _ _ _ _ _,?_⟩;simp only[qgf,List.cons_append,List.nil_append,List.append_nil];refine Ro.R.young (by omega) λa1 as1 H4 s4 _ ha1 ta1 _=>?_
  refine ⟨_,rfl,ro,dxo,_,rfl,s4 _ _ hro,qct _ _ _ _ _,?_⟩;simp only[qgf,List.cons_append,List.nil_append,List.append_nil];refine (Ro.R.same s4).heaps (by omega) λa2 as2 H5 s5 _ ha2 ta2 _=>?_
  refine ⟨qis (by simp),λtp H6 n6=>qaw ?_⟩;refine qet (σ':=[some (.ref lb),some (.ref lk),some (.ref mk),some (.int day),some (tS x),some (.ref tr),some (.int wh),some (.int t),some (.int va),some (.int m),some D,v11,some (.ref ro),some (.ref tp),none,none,none]) rfl ?_;have s36:=s4.trans (s5.trans n6.same);have s26:=n2.same.trans (s3.trans s36);have s06:=s1.trans s26;have W6:=W1.same s26;have R6:=Ro.R.same s36;have htp:=n6.at_;have ha1':=n6.same _ _ (s5 _ _ ha1);have ta1':=(ta1.same s5).same n6.same;have ha2':=n6.same _ _ ha2;have ta2':=ta2.same n6.same;have fo1:H1 q'.dy=none:=n2.same.free fo.1;have fo2:H1 q'.dh=none:=n2.same.free fo.2
  generalize qer (qb8 ((BB wh).ps.map (·.2)) es ge) e0.2.2.1=st at R6 ta1' ta2'
  clear hro ha1 ta1 ha2 ta2 n6 s4 s5 s36 s3 Ro fo wo hm0 ey' hy' hyt A2 n2
  try dsimp only
  refine qub (λσ H'=>(Same H6 H'/\((x ∉ (XX wh).map (·.1)/\D=.str "name")\/(x∈(XX wh).map (·.1)/\m<1/\D=.str "number"))\/∃ e,(x,e)∈XX wh/\1<=m/\But2 e.2.1.dy e.2.1.dh H6 H'/\RB C_Roll C_Rule H' (BB wh) es ge (e.1,e.2.1,e.2.2.1 ++ [(t,va,m)],e.2.2.2)/\∃ bb,D=.bl bb)/\σ=[some (.ref lb),some (.ref lk),some (.ref mk),some (.int day),some (tS x),some (.ref tr),some (.int wh),some (.int t),some (.int va),some (.int m),some D,v11,some (.ref ro),some (.ref tp),some D,none,none]) (λN hN=>?_) ?_
  ·have A6:=W6.bkH hw
   have tb:qki t:=⟨by have:=ht.1;omega,by have:=ht.2;omega⟩;have nin:¬ qgt (XX wh) (tS x)->x ∉ (XX wh).map (·.1):=λh1 h2=>h1 ⟨x,rfl,hx,h2⟩
   refine ⟨_,rfl,_,rfl,lb,_,_,_,rfl,rfl,SqL.of (qbt _ _ W6.hb),qoz bs hw,_,rfl,_,rfl,_,rfl,_,rfl,bs wh,BB wh,es,ge,XX wh,tS x,t,va,m,rfl,A6,tx,tb,λh1=>(hrl h1).lt,λy e he=>Nat.lt_of_le_of_lt (ln.rs wh hw (y,e) he) (by omega),λy ey=>by rw[<- qfr ey];exact hx,λhn H7 s7=>qaw (hN _ _ ?_),λy e ey he h1 H7 s7=>qaw (hN _ _ ?_),λy e ey he h1 H7 b7 R7=>qaw (hN _ _ ?_)⟩
   ·rcases due with ⟨d1,rfl⟩|⟨d1,_,_⟩|⟨d1,_,_⟩
    ·exact ⟨.inl ⟨s7,.inl ⟨d1,rfl⟩⟩,rfl⟩
    ·exact absurd d1 (nin hn)
    ·exact absurd d1 (nin hn)
   ·have ey:=qfr ey
    subst ey;have hin:x∈(XX wh).map (·.1):=List.mem_map.mpr ⟨_,he,rfl⟩
    rcases due with ⟨d1,_⟩|⟨d1,d2,rfl⟩|⟨_,d2,_⟩
    ·exact absurd hin d1
    ·exact ⟨.inl ⟨s7,.inr ⟨d1,d2,rfl⟩⟩,rfl⟩
    ·omega
   ·have ey:=qfr ey
    subst ey;have hin:x∈(XX wh).map (·.1):=List.mem_map.mpr ⟨_,he,rfl⟩
    rcases due with ⟨d1,_⟩|⟨_,d2,_⟩|⟨d1,d2,rfl⟩
    ·exact absurd hin d1
    ·omega
    ·exact ⟨.inr ⟨e,he,d2,b7,R7,_,rfl⟩,rfl⟩
  rintro σ H7 ⟨hc,rfl⟩;have fact:(∀ c o,H6 c=some o->(∀ Y,o≠.dT Y)->H7 c=some o)/\RR C_Roll C_Rule H7 ro q' st LY LZ/\∃ XX7,W63 C_Book C_Roll C_Rule lb lk bs ks BB es ge KX XX7 H7/\((∃ s,D=.str s/\XX7=XX)\/∃ bb,D=.bl bb/\XX7=upX wh x (t,va,m) XX/\x∈(XX wh).map (·.1)):=by
   rcases hc with ⟨s7,h7⟩|⟨e,he,m1,b7,R7,bb,rfl⟩
   ·refine ⟨λc o z _=>s7 _ _ z,R6.same s7,XX,W6.same s7,.inl ?_⟩
    rcases h7 with ⟨_,e⟩|⟨_,_,e⟩
    ·exact ⟨_,e,rfl⟩
    ·exact ⟨_,e,rfl⟩
   ·obtain ⟨⟨Y,hY⟩,⟨Z,hZ⟩⟩:=(W6.bkH hw).dicts he
    obtain ⟨⟨Y1,hY1⟩,⟨Z1,hZ1⟩⟩:=A1.dicts he;exact ⟨λc o z nz=>b7.keep hY hZ z nz,R6.frame b7 hY hZ (qah hY1 fo1).symm (qah hZ1 fo1).symm (qah hY1 fo2).symm (qah hZ1 fo2).symm,_,W6.put hw he b7 R7,.inr ⟨bb,rfl,rfl,List.mem_map.mpr ⟨_,he,rfl⟩⟩⟩
  obtain ⟨kp7,R7,XX7,W7,hD⟩:=fact;clear hc R6;have k07:qzu (adL KX) H H7:=λc o z _ nz=>kp7 _ _ (s06 _ _ z) nz
  have htp7:=kp7 _ _ htp (by intro Y z;cases z);have ha17:=kp7 _ _ ha1' (by intro Y z;cases z);have ha27:=kp7 _ _ ha2' (by intro Y z;cases z);have ts7:qo3 H6 H7:=λc xs z=>kp7 _ _ z (by intro Y y;cases y)
  have ta17:=ta1'.tupS ts7;have ta27:=ta2'.tupS ts7;obtain ⟨dxo7,hro7⟩:=R7.obj;refine qub (λσ H'=>Same H7 H'/\σ=[some (.ref lb),some (.ref lk),some (.ref mk),some (.int day),some (tS x),some (.ref tr),some (.int wh),some (.int t),some (.int va),some (.int m),some D,v11,some (.ref ro),some (.ref tp),some D,none,none]) (λN hN=>?_) ?_
  ·refine ⟨_,rfl,ro,dxo7,_,rfl,hro7,qdl _ _ _ _ _,?_⟩
   simp only[qgf,List.cons_append,List.nil_append,List.append_nil];refine R7.young (by omega) λb1 bs1 H8 s8 _ hb1 tb1 _=>?_
   refine ⟨_,rfl,ro,dxo7,_,rfl,s8 _ _ hro7,qct _ _ _ _ _,?_⟩;simp only[qgf,List.cons_append,List.nil_append,List.append_nil];refine (R7.same s8).heaps (by omega) λb2 bs2 H9 s9 _ hb2 tb2 _=>?_
   refine ⟨qis (by simp),λt2 H10 n10=>⟨_,rfl,?_⟩⟩;have s10:=s8.trans (s9.trans n10.same);refine qzv n10.at_ (n10.same _ _ (s9 _ _ hb1)) ((tb1.same s9).same n10.same) (n10.same _ _ hb2) (tb2.same n10.same) (s10 _ _ htp7) (s10 _ _ ha17) (ta17.same s10) (s10 _ _ ha27) (ta27.same s10) ⟨_,rfl,qd7 (hN _ _ ⟨s10,rfl⟩)⟩
  rintro σ H8 ⟨s8,rfl⟩;refine qub (λσ H'=>Same H7 H'/\σ=[some (.ref lb),some (.ref lk),some (.ref mk),some (.int day),some (tS x),some (.ref tr),some (.int wh),some (.int t),some (.int va),some (.int m),some D,v11,some (.ref ro),some (.ref tp),some D,none,none]) (λN hN=>?_) ?_
  ·rcases hD with ⟨s,rfl,_⟩|⟨bb,rfl,_,_⟩
   ·refine ⟨_,rfl,_,_,_,_,rfl,TyOf.str _,qjz K,_,rfl,_,_,_,_,rfl,TyOf.str _,qjz K,rfl,_,rfl,?_⟩
    rw[decide_eq_true rfl];refine qd7 ⟨_,rfl,_,rfl,rfl,_,rfl,?_⟩;rw[decide_eq_true rfl];exact qd7 (hN _ _ ⟨s8,rfl⟩)
   ·refine ⟨_,rfl,_,_,_,_,rfl,TyOf.bl _,qrl K,_,rfl,_,_,_,_,rfl,TyOf.bl _,qrl K,rfl,_,rfl,?_⟩
    rw[decide_eq_true rfl];refine qd7 ⟨_,rfl,_,rfl,rfl,_,rfl,?_⟩;rw[decide_eq_true rfl];exact qd7 (hN _ _ ⟨s8,rfl⟩)
  clear s8;rintro σ H9 ⟨s9,rfl⟩;refine qub (λσ H'=>Same H7 H'/\σ=[some (.ref lb),some (.ref lk),some (.ref mk),some (.int day),some (tS x),some (.ref tr),some (.int wh),some (.int t),some (.int va),some (.int m),some D,v11,some (.ref ro),some (.ref tp),some D,none,none]) (λN hN=>?_) ?_
  ·refine ⟨_,rfl,qis (by simp),λp H10 n10=>⟨_,p,rfl,n10.at_,?_,_,rfl,qd7 (hN _ _ ⟨s9.trans n10.same,rfl⟩)⟩⟩
   rcases hD with ⟨s,rfl,_⟩|⟨bb,rfl,_,_⟩
   ·exact .inr ⟨s,rfl⟩
   ·exact .inl ⟨bb,rfl⟩
  clear s9;rintro σ H10 ⟨s10,rfl⟩;have W10:=W7.same s10;refine qub (λσ H'=>∃ KX' XX',W63 C_Book C_Roll C_Rule lb lk bs ks BB es ge KX' XX' H'/\Tie KX' XX'/\Ln63 XX' (n+1)/\adL KX'=adL KX/\(∀ i,i<2->(XX' i).map (·.1)=(XX i).map (·.1))/\qzu (adL KX) H H'/\σ=[some (.ref lb),some (.ref lk),some (.ref mk),some (.int day),some (tS x),some (.ref tr),some (.int wh),some (.int t),some (.int va),some (.int m),some D,v11,some (.ref ro),some (.ref tp),some D,none,none]) (λN hN=>?_) ?_
  ·rcases hD with ⟨s,rfl,e7⟩|⟨bb,rfl,e7,hin⟩<;>rw[e7] at W10
   ·refine ⟨_,rfl,_,_,_,_,rfl,TyOf.str _,qjz K,_,rfl,qd7 (hN _ _ ⟨KX,XX,W10,tie,ln.mono (Nat.le_succ n),rfl,λ_ _=>rfl,λc o z nl nz=>s10 _ _ (k07 c o z nl nz),rfl⟩)⟩
   ·refine ⟨_,rfl,_,_,_,_,rfl,TyOf.bl _,qrl K,_,rfl,qd8 ?_⟩
    obtain ⟨kv2,hk2,en2⟩:=W10.kp wh hw;obtain ⟨u,⟨l,rs⟩,e1,hm2,rfl,ys,hl,ty⟩:=en2.has (x:=x) (by rw[nmE];exact hin);have g:=DGet.k (k:=kS x) hk2;rw[e1] at g;have un:∀ p∈KX wh,p.1=x->p=(x,l,rs):=λp hp e=>qkg (f:=(·.1)) (by rw[nmE];exact (W.xo wh hw).nd) hp hm2 e
    refine ⟨_,rfl,_,rfl,lk,_,_,_,rfl,rfl,SqL.of (qbt _ _ W10.hk),qoz ks hw,_,rfl,ks wh,_,rfl,g,.inl ⟨rfl,_,SqL.of hl⟩,_,rfl,_,rfl,_,rfl,qis (by simp),λta H11 n11=>?_⟩;have hl11:=n11.same _ _ hl;have yl:ys.length=rs.length:=by have:=ty.length;rw[List.length_map] at this;exact this
    obtain ⟨e9,he9,er9⟩:=tie.get2 hw hm2;have rl:=ln.rs wh hw (x,e9) he9;have rl:rs.length<=n:=by rw[<- er9];exact rl
    refine ⟨l,ys,_,rfl,rfl,hl11,qa6 (by omega),λH12 b12 h12=>hN _ _ ?_⟩;have hlm:l∈adL KX:=by
     unfold adL
     rcases (show wh=0\/wh=1 by omega) with rfl|rfl
     ·exact List.mem_append_left _ (List.mem_map.mpr ⟨_,hm2,rfl⟩)
     ·exact List.mem_append_right _ (List.mem_map.mpr ⟨_,hm2,rfl⟩)
    refine ⟨upK wh x (t,va,m) KX,upX wh x (t,va,m) XX,(W10.same n11.same).app hw hm2 un hl11 (ty.same n11.same) b12 h12 n11.at_,tie.up wh x _,ln.up wh x _,ql9 wh x _,λi _=>qtf wh x _ i,λc o z nl nz=>?_,rfl⟩;exact b12 _ _ (n11.same _ _ (s10 _ _ (k07 c o z nl nz))) (λe=>nl (e ▸ hlm))
  rintro σ H11 ⟨KX',XX',W11,tie',ln',ead,enm,k11,rfl⟩;refine ⟨2,rfl,by decide,by decide,qhf (n:=2) (λi σ H2=>Same H11 H2/\∃ v15 v16:Option V,σ=[some (.ref lb),some (.ref lk),some (.ref mk),some (.int day),some (tS x),some (.ref tr),some (.int wh),some (.int t),some (.int va),some (.int m),some D,v11,some (.ref ro),some (.ref tp),some D,v15,v16]) ⟨Same.refl _,_,_,rfl⟩ ?_ ?_⟩
  ·rintro i σ H12 hi ⟨s12,v15,v16,rfl⟩
   rw[Int.zero_add];have W12:=W11.same s12;refine qaw ?_;refine qet (σ':=[some (.ref lb),some (.ref lk),some (.ref mk),some (.int day),some (tS x),some (.ref tr),some (.int wh),some (.int t),some (.int va),some (.int m),some D,v11,some (.ref ro),some (.ref tp),some D,some (.int i),v16]) rfl ?_;obtain ⟨kv2,hk2,en2⟩:=W12.kp i hi;refine ⟨_,rfl,_,rfl,lk,_,_,_,rfl,rfl,SqL.of (qbt _ _ W12.hk),qoz ks hi,ks i,rfl,.inl ⟨_,.inl hk2⟩,_,rfl,_,DGet.k (k:=kS x) hk2,qaw ?_⟩
   by_cases hin:x∈(KX' i).map (·.1)
   ·obtain ⟨u,⟨l,rs⟩,e1,hm2,rfl,ys,hl,ty⟩:=en2.has hin
    rw[e1];obtain ⟨e,he,er⟩:=tie'.get2 hi hm2;have rl:=ln'.rs i hi (x,e) he;refine qet (σ':=[some (.ref lb),some (.ref lk),some (.ref mk),some (.int day),some (tS x),some (.ref tr),some (.int wh),some (.int t),some (.int va),some (.int m),some D,v11,some (.ref ro),some (.ref tp),some D,some (.int i),some (.ref l)]) rfl ?_;refine ⟨_,rfl,rfl,_,rfl,qd8 ?_⟩;refine ⟨_,rfl,_,rfl,lb,_,_,_,rfl,rfl,SqL.of (qbt _ _ W12.hb),qoz bs hi,_,rfl,_,rfl,_,rfl,_,rfl,bs i,BB i,es,ge,XX' i,x,e,l,ys,by rw[fx.ru i hi,fx.dy i hi];rfl,W12.bkH hi,fx.de i hi,hx,W12.xo i hi,he,by show e.2.2.1.length<=20;have:e.2.2.1.length<=n+1:=rl;omega,hl,by rw[er];exact ty,λH13 s13=>⟨_,rfl,qd7 ⟨s12.trans s13,_,_,rfl⟩⟩⟩
   ·rw[en2.hasn hin]
    refine qet (σ':=[some (.ref lb),some (.ref lk),some (.ref mk),some (.int day),some (tS x),some (.ref tr),some (.int wh),some (.int t),some (.int va),some (.int m),some D,v11,some (.ref ro),some (.ref tp),some D,some (.int i),some .non]) rfl ?_;exact ⟨_,rfl,rfl,_,rfl,qd7 ⟨s12,_,_,rfl⟩⟩
  ·rintro σ H12 ⟨s12,v15,v16,rfl⟩
   exact q KX' XX' H12 (W11.same s12) tie' ln' ead enm λc o z nl nz=>s12 _ _ (k11 c o z nl nz)
end
section
variable {P:Program} {w:World} {K:Frag} {mg:Str->Option Value} {base:Heap} {C_Roll C_Rule C_Book C_BookError C_NoNumber C_NoRule C_Backward C_NoName C_NoMark:Addr}
theorem BkC.butK {C CR R:Addr} {H H':Hp} {b a:Addr} {B:BookD} {es:List Int} {ge:Option Int} {X:qbk} {kvs:List (Key×V)} (h:BkC C CR R H b B es ge X) (bu:But a H H') (ha:H a=some (.dK kvs)) (n1:B.dm≠a) (n2:B.dr≠a):BkC C CR R H' b B es ge X:=
 ⟨let ⟨dx,e⟩:=h.ob;⟨dx,bu _ _ e (qa1 e ha (by intro z;cases z))⟩,h.rule.butK bu ha,bu _ _ h.ed (qa1 h.ed ha (by intro z;cases z)),
  let ⟨k,e,r⟩:=h.ms;⟨k,bu _ _ e n1,r.imp λ_ _ q=>q.butK bu ha⟩,let ⟨k,e,r⟩:=h.rs;⟨k,bu _ _ e n2,r.imp λ_ _ ⟨e1,e2⟩=>⟨e1,e2.butK bu ha⟩⟩,h.ne,h.ok⟩
theorem BkC.butKK {C CR R:Addr} {H H':Hp} {b a d:Addr} {B:BookD} {es:List Int} {ge:Option Int} {X:qbk} {k1 k2:List (Key×V)} (h:BkC C CR R H b B es ge X) (bu:But2 a d H H') (ha:H a=some (.dK k1)) (hd:H d=some (.dK k2)) (n1:B.dm≠a) (n2:B.dr≠a) (n3:B.dm≠d) (n4:B.dr≠d):BkC C CR R H' b B es ge X:=by
 have b1:But a H (λz=>if z=d then H d else H' z):=λz o e n=>by
  by_cases zd:z=d
  ·simp only[if_pos zd];rw[<- zd];exact e
  ·simp only[if_neg zd];exact bu _ _ e n zd
 have b2:But d (λz=>if z=d then H d else H' z) H':=λz o e n=>by simp only[if_neg n] at e;exact e
 exact (h.butK b1 ha n1 n2).butK b2 (by simp only[if_pos];exact hd) n3 n4
structure D63 (ks:Nat->Addr) (BB:Nat->BookD):Prop where
 a:∀ i j,i<2->j<2->i≠j->((BB i).dm≠(BB j).dm/\(BB i).dr≠(BB j).dm)/\(BB i).dm≠(BB j).dr/\(BB i).dr≠(BB j).dr
 b:∀ i j,i<2->j<2->(BB i).dm≠ks j/\(BB i).dr≠ks j
 c:∀ i j,i<2->j<2->i≠j->ks i≠ks j
def inK (c:Nat) (x:List Nat) (l:Addr) (KX:Nat->qdx):Nat->qdx:=λi=>if i=c then KX i ++ [(x,l,[])] else KX i
def inX (c:Nat) (x:List Nat) (ro:Addr) (q:qaz) (XX:Nat->qbk):Nat->qbk:=λi=>if i=c then XX i ++ [(x,(ro,q,[],[]))] else XX i
theorem qrm {c:Nat} {x:List Nat} {l:Addr} {KX:Nat->qdx}:∀ z∈adL (inK c x l KX),z∈adL KX\/z=l:=λz hz=>by
 have one:∀ i,z∈(inK c x l KX i).map (·.2.1)->z∈(KX i).map (·.2.1)\/z=l:=λi h=>by
  unfold inK at h
  split at h
  ·rw[List.map_append] at h
   rcases List.mem_append.mp h with h|h
   ·exact .inl h
   ·exact .inr (by simpa using h)
  ·exact .inl h
 unfold adL at hz ⊢
 rcases List.mem_append.mp hz with h|h
 ·exact (one 0 h).imp (List.mem_append_left _) id
 ·exact (one 1 h).imp (List.mem_append_right _) id
theorem qx7 {c:Nat} {x:List Nat} {l:Addr} {KX:Nat->qdx} (hc:c<2) (h:(adL KX).Nodup) (hl:l ∉ adL KX):(adL (inK c x l KX)).Nodup:=by
 have p:(adL (inK c x l KX)).Perm (l :: adL KX):=by
  unfold adL
  rcases (show c=0\/c=1 by omega) with rfl|rfl
  ·show ((KX 0 ++ [(x,l,[])]).map (λp:List Nat×Addr×List Rd3=>p.2.1) ++ (KX 1).map (λp:List Nat×Addr×List Rd3=>p.2.1)).Perm _
   rw[List.map_append,List.append_assoc];exact List.perm_middle
  ·show ((KX 0).map (λp:List Nat×Addr×List Rd3=>p.2.1) ++ (KX 1 ++ [(x,l,[])]).map (λp:List Nat×Addr×List Rd3=>p.2.1)).Perm _
   rw[List.map_append,<- List.append_assoc];exact List.perm_append_singleton _ _
 rw[p.nodup_iff,List.nodup_cons];exact ⟨hl,h⟩
section
variable {C CR R lb lk:Addr} {bs ks:Nat->Addr} {BB:Nat->BookD} {es:List Int} {ge:Option Int} {KX:Nat->qdx} {XX:Nat->qbk} {H H1 H2 H3:Hp}
theorem W63.enrol {c:Nat} {x:List Nat} {l ro:Addr} {q:qaz} {kvs:List (Key×V)} (h:W63 C CR R lb lk bs ks BB es ge KX XX H) (dd:D63 ks BB) (hc:c<2) (hn:x ∉ (XX c).map (·.1)) (hk:x ∉ (KX c).map (·.1)) (b1:But2 (BB c).dm (BB c).dr H H1) (f1:H q.dy=none) (f2:H q.dh=none)
  (B1:BkC C CR R (rmS H1 (adL KX)) (bs c) (BB c) es ge (XX c ++ [(x,(ro,q,[],[]))])) (n2:New H1 H2 l (.lst [])) (hkd:H2 (ks c)=some (.dK kvs)) (b3:But (ks c) H2 H3) (h3:H3 (ks c)=some (.dK (putK kvs (kS x) (.ref l)))) :
  W63 C CR R lb lk bs ks BB es ge (inK c x l KX) (inX c x ro q XX) H3:=by
 obtain ⟨km,hkm,_⟩:=(h.bkH hc).ms;obtain ⟨kr,hkr,_⟩:=(h.bkH hc).rs;have L:=h.ls;have k1:∀ {z:Addr} {o:HO},H z=some o->(∀ k,o≠.dK k)->H1 z=some o:=fun {z o} e n=>b1 _ _ e (qa1 e hkm (n _)) (qa1 e hkr (n _))
 have L1:LsL H1 (adL KX):=λz hz=>let ⟨zs,e⟩:=L z hz;⟨zs,k1 e (by intro k y;cases y)⟩
 have hl:l ∉ adL KX:=λz=>by obtain ⟨zs,e⟩:=L1 l z;rw[n2.fresh] at e;cases e
 have s2:Same (rmS H1 (adL KX)) (rmS H2 (adL (inK c x l KX))):=qvw n2.same n2.fresh qrm;have L2:LsL H2 (adL (inK c x l KX)):=λz hz=>by
  rcases qrm z hz with y|y
  ·obtain ⟨zs,e⟩:=L1 z y;exact ⟨zs,n2.same _ _ e⟩
  ·rw[y];exact ⟨_,n2.at_⟩
 have hkdr:rmS H2 (adL (inK c x l KX)) (ks c)=some (.dK kvs):=qbh hkd (L2.no hkd (by intro zs y;cases y));have b3r:But (ks c) (rmS H2 (adL (inK c x l KX))) (rmS H3 (adL (inK c x l KX))):=qmo b3;have up:∀ {z:Addr} {o:HO},rmS H (adL KX) z=some o->(∀ k,o≠.dK k)->rmS H3 (adL (inK c x l KX)) z=some o:=fun {z o} e n=>by
  have e1:=s2 _ _ (qbh (k1 (qa7 e).1 n) (qa7 e).2);exact b3r _ _ e1 (qa1 e1 hkdr (n _))
 have t3:qo3 H H3:=λz zs e=>by
  have e1:=n2.same _ _ (k1 e (by intro k y;cases y));exact b3 _ _ e1 (qa1 e1 hkd (by intro y;cases y))
 have l3':∀ {z:Addr} {zs:List V},H z=some (.lst zs)->H3 z=some (.lst zs):=fun {z zs} e=>by
  have e1:=n2.same _ _ (k1 e (by intro k y;cases y));exact b3 _ _ e1 (qa1 e1 hkd (by intro y;cases y))
 have fresh:∀ {e:RC} {i:Nat} {y:List Nat},i<2->(y,e)∈XX i->ApartD e.2.1 q:=fun {e i y} hi he=>by
  obtain ⟨⟨Y,hY⟩,⟨Z,hZ⟩⟩:=(h.bkH hi).dicts he;exact ⟨qah hY f1,qah hY f2,qah hZ f1,qah hZ f2⟩
 refine ⟨up h.hb (by intro k y;cases y),up h.hk (by intro k y;cases y),λi hi=>?_,λi hi=>?_,λi hi=>?_,λp hp p' hp'=>?_,qx7 hc h.nl hl⟩
 ·unfold inX
  by_cases ei:i=c
  ·subst ei
   rw[if_pos rfl];exact (B1.same s2).butK b3r hkdr (dd.b i i hi hi).1 (dd.b i i hi hi).2
  ·rw[if_neg ei]
   have da:=dd.a i c hi hc ei;have B0:=(h.bk i hi).butKK (qkf b1) (qbh hkm (L.no hkm (by intro zs y;cases y))) (qbh hkr (L.no hkr (by intro zs y;cases y))) da.1.1 da.1.2 da.2.1 da.2.2;exact (B0.same s2).butK b3r hkdr (dd.b i c hi hc).1 (dd.b i c hi hc).2
 ·obtain ⟨k,e1,r⟩:=h.kp i hi
  have e2:=n2.same _ _ (b1 _ _ e1 (dd.b c i hc hi).1.symm (dd.b c i hc hi).2.symm);have r3:Ents (λv (e:Addr×List Rd3)=>v=.ref e.1/\∃ ys,H3 e.1=some (.lst ys)/\Tups H3 ys (e.2.map l3)) k (KX i):=r.imp λv e ⟨z1,ys,z2,z3⟩=>⟨z1,ys,l3' z2,z3.tupS t3⟩
  unfold inK
  by_cases ei:i=c
  ·subst ei
   rw[if_pos rfl];rw[hkd] at e2;cases e2;refine ⟨_,h3,r3.put hk ⟨rfl,[],?_,.nil⟩⟩;exact b3 _ _ n2.at_ (qa1 n2.at_ hkd (by intro y;cases y))
  ·rw[if_neg ei]
   exact ⟨k,b3 _ _ e2 (dd.c i c hi hc ei),r3⟩
 ·unfold inX
  split
  ·rename_i ei
   subst ei;unfold XOk;rw[List.pairwise_append];refine ⟨h.xo i hi,by simp,λp hp p' hp'=>?_⟩;rw[List.mem_singleton.mp hp'];exact ⟨λe=>hn (List.mem_map.mpr ⟨p,hp,e⟩),fresh hi (y:=p.1) hp⟩
  ·exact h.xo i hi
 ·have m0:∀ {i:Nat} {p:List Nat×RC},p∈inX c x ro q XX i->p∈XX i\/(i=c/\p=(x,(ro,q,[],[]))):=fun {i p} hp=>by
   unfold inX at hp
   split at hp
   ·rename_i ei
    rcases List.mem_append.mp hp with z|z
    ·exact .inl z
    ·exact .inr ⟨ei,by simpa using z⟩
   ·exact .inl hp
  rcases m0 hp with z|⟨z,rfl⟩<;>rcases m0 hp' with z'|⟨z',rfl⟩
  ·exact h.ap p z p' z'
  ·exact fresh (by decide) (y:=p.1) z
  ·exact (fresh (i:=1) (by decide) (y:=p'.1) z').symm
  ·omega
end
end
section
variable {P:Program} {w:World} {K:Frag} {mg:Str->Option Value} {base:Heap} {C_Roll C_Rule C_Book C_BookError C_NoNumber C_NoRule C_Backward C_NoName C_NoMark:Addr}
structure Env6 (K:Frag) (a ln ls:Addr) (ns:List Int) (nms:List (List Nat)) (xs:List V) (ps:List (Int×Int)) (H:Hp):Prop where
 sc:SqL K H a (ns.map V.int)
 nm:H ln=some (.lst (nms.map tS))
 st:H ls=some (.lst xs)
 pr:Pairs H xs ps
section
variable {K:Frag} {a ln ls:Addr} {ns:List Int} {nms:List (List Nat)} {xs:List V} {ps:List (Int×Int)} {H H':Hp}
theorem Pairs.up:∀ {xs:List V} {ps:List (Int×Int)},(∀ z zs,H z=some (.tup zs)->H' z=some (.tup zs))->Pairs H xs ps->Pairs H' xs ps
 | _,_,_,.nil=>.nil
 | _,_,k,.cons ⟨a,e,q⟩ t=>.cons ⟨a,e,k _ _ q⟩ (Pairs.up k t)
theorem Env6.up (h:Env6 K a ln ls ns nms xs ps H) (k:∀ z o,H z=some o->(∀ k,o≠.dK k)->(∀ k,o≠.dT k)->H' z=some o):Env6 K a ln ls ns nms xs ps H':=by
 refine ⟨?_,k _ _ h.nm (by intro k y;cases y) (by intro k y;cases y),k _ _ h.st (by intro k y;cases y) (by intro k y;cases y),Pairs.up (λz zs e=>k _ _ e (by intro k y;cases y) (by intro k y;cases y)) h.pr⟩
 rcases h.sc with (e|⟨o,e⟩)|e
 ·exact .inl (.inl (k _ _ e (by intro k y;cases y) (by intro k y;cases y)))
 ·exact .inl (.inr ⟨o,k _ _ e (by intro k y;cases y) (by intro k y;cases y)⟩)
 ·exact .inr e
theorem Env6.same (h:Env6 K a ln ls ns nms xs ps H) (s:Same H H'):Env6 K a ln ls ns nms xs ps H':=h.up λz o e _ _=>s _ _ e
end
theorem W63.upE {C CR R lb lk:Addr} {bs ks:Nat->Addr} {BB:Nat->BookD} {es:List Int} {ge:Option Int} {KX:Nat->qdx} {XX:Nat->qbk} {H H1 H2 H3:Hp} {c:Nat} {x:List Nat} {l:Addr} {kvs:List (Key×V)} (h:W63 C CR R lb lk bs ks BB es ge KX XX H) (hc:c<2) (b1:But2 (BB c).dm (BB c).dr H H1) (n2:New H1 H2 l (.lst [])) (hkd:H2 (ks c)=some (.dK kvs)) (b3:But (ks c) H2 H3) :
  ∀ z o,rmS H (adL KX) z=some o->(∀ k,o≠.dK k)->(∀ k,o≠.dT k)->rmS H3 (adL (inK c x l KX)) z=some o:=λz o e n _=>by
 obtain ⟨km,hkm,_⟩:=(h.bkH hc).ms;obtain ⟨kr,hkr,_⟩:=(h.bkH hc).rs;obtain ⟨e0,nl⟩:=qa7 e;have e1:=b1 _ _ e0 (qa1 e0 hkm (n _)) (qa1 e0 hkr (n _));have e2:=n2.same _ _ e1;have e3:=b3 _ _ e2 (qa1 e2 hkd (n _));refine qbh e3 λy=>?_
 rcases qrm z y with y|y
 ·exact nl y
 ·rw[y,n2.fresh] at e1;cases e1
theorem Tie.inn {KX:Nat->qdx} {XX:Nat->qbk} (h:Tie KX XX) (c:Nat) (x:List Nat) (l ro:Addr) (q:qaz):Tie (inK c x l KX) (inX c x ro q XX):=λi hi=>by
 have e:=h i hi;unfold inK inX
 split
 ·rw[List.map_append,List.map_append,e];rfl
 ·exact e
def qrn (d:Int) (n:Nat):List (List Nat):=(List.range n).map λj=>nmF d (j:Nat)
theorem qv1 (d:Int) {n:Nat} (h:n<=20):(qrn d n).Nodup:=by
 unfold qrn List.Nodup;rw[List.pairwise_map];refine (List.pairwise_lt_range (n:=n)).imp_of_mem fun {i j} hi hj hij=>qzs (by omega) ?_ ?_
 ·have:=List.mem_range.mp hi;have:=List.mem_range.mp hj;omega
 ·have:=List.mem_range.mp hi;have:=List.mem_range.mp hj;omega
def cnt (N c j i:Nat):Nat:=if i<c then N else if i=c then j else 0
structure En63 (nms:List (List Nat)) (XX:Nat->qbk) (c j:Nat):Prop where
 nm:∀ i,i<2->(XX i).map (·.1)=nms.take (cnt nms.length c j i)
 rs:∀ i,i<2->∀ p∈XX i,p.2.2.2.1=[]
theorem En63.next {nms:List (List Nat)} {XX:Nat->qbk} {c j:Nat} {x:List Nat} (h:En63 nms XX c j) (hc:c<2) (hx:nms[j]?=some x) (ro:Addr) (q:qaz):En63 nms (inX c x ro q XX) c (j+1):=by
 refine ⟨λi hi=>?_,λi hi p hp=>?_⟩
 ·have e:=h.nm i hi
  unfold inX cnt at *
  by_cases ei:i=c
  ·subst ei
   rw[if_pos rfl,List.map_append,e,if_neg (Nat.lt_irrefl _),if_pos rfl,if_neg (Nat.lt_irrefl _),if_pos rfl,List.take_add_one,hx];rfl
  ·rw[if_neg ei,e]
   simp only[if_neg ei]
 ·unfold inX at hp
  split at hp
  ·rcases List.mem_append.mp hp with z|z
   ·exact h.rs i hi p z
   ·rw[List.mem_singleton.mp z]
  ·exact h.rs i hi p hp
theorem En63.turn {nms:List (List Nat)} {XX:Nat->qbk} {c:Nat} (h:En63 nms XX c nms.length):En63 nms XX (c+1) 0:=by
 refine ⟨λi hi=>?_,h.rs⟩;rw[h.nm i hi]
 congr 1
 unfold cnt
 by_cases h1:i<c
 ·rw[if_pos h1,if_pos (by omega)]
 ·by_cases h2:i=c
  ·rw[if_neg h1,if_pos h2,if_pos (by omega)]
  ·rw[if_neg h1,if_neg h2,if_neg (by omega)]
   split<;>rfl
theorem qro:qij []:=⟨by simp,.nil,by simp⟩
theorem qx8 (ns:List Int):∃ ms:List Int,qmy (ns.map V.int) (some 4) (some 20)=ms.map V.int/\ms.length<=16:=by
 unfold qmy;rw[show (some (4:Int))=some ((4:Nat):Int) from rfl,show (some (20:Int))=some ((20:Nat):Int) from rfl,HT.sIx_nat,HT.sIx_nat];simp only[<- List.map_take,<- List.map_drop];exact ⟨_,rfl,by simp only[List.length_take,List.length_drop];omega⟩
def qkh {α:Type} (a b:α):Nat->α
 | 0=>a
 | _=>b
theorem qir {H:Hp}:Same H (rmS H []):=λc o e=>qbh e (by simp)
theorem all2 {p:Nat->Prop} (h0:p 0) (h1:p 1):∀ i,i<2->p i:=λi hi=>by
 rcases (show i=0\/i=1 by omega) with rfl|rfl
 ·exact h0
 ·exact h1
theorem qzw (T:Txt K mg C_Roll C_Rule C_Book C_BookError C_NoNumber C_NoRule C_Backward C_NoName C_NoMark) {f:Addr} {fd:FuncData} (F:Fun K "law" "law" qoq f fd):qg9 P w K mg base CX0 12 f fd ["_law_script"] (qt0 K):=by
 have nd:=sc_law.nd;refine F.ok sc_law (λvs H Q E h=>?_) (λcdv A outer s H vs Q E hr h=>?_)
 ·obtain ⟨a,ns,rfl,_⟩:=h;rfl
 ·obtain ⟨a,ns,rfl,hS,hn,k⟩:=h
  refine ⟨_,(qac (qpa (qax (qmp T) (hr.mono (by decide)) rfl (qaa (qax (qcc T) (hr.mono (by decide)) rfl (qaa (pv 0) (qaa qae qad))) qad)) (qeu rfl (qav (qas (i:=1) nd rfl (Or.inl rfl)) (qav (qas (i:=2) nd rfl (Or.inl rfl)) qc7))))
   (qac (qay (i:=3) nd rfl (Or.inl rfl) (qm3 (qs6 T) (hr.mono (by decide)) rfl .nil (qaa (qd6 qea rfl T.b_list qhr (qaa (pv 1) qad)) (qaa (pv 2) qad))))
   (qac (qay (i:=4) nd rfl (Or.inl rfl) (qal qfo (qal qa5 (qax (qcc T) (hr.mono (by decide)) rfl (qaa (pv 0) (qaa qae qad))) (qal qc8 qae (qal qgv qae qae))) (qal qgv qae qae)))
   (qac (qhb (i:=5) (vars:=["_law_k"]) (frees:=["_law_script"]) (fv:=[0]) nd rfl (Or.inl rfl) rfl (qo2 rfl rfl (by decide +kernel) (by decide +kernel) (by intro p hp;simp only[List.mem_cons,List.not_mem_nil,or_false] at hp;rcases hp with rfl<;>rfl) rfl) ⟨⟨rfl,.inl rfl,rfl,.inl rfl⟩,trivial⟩ (qex rfl T.b_range (qaa (qal qbn qae (qal qa5 (qax (qcc T) (hr.mono (by decide)) rfl (qaa (pv 0) (qaa qae qad))) qae)) qad)) (qgk (by decide)) (λ_ _ _ _=>(qas (i:=0) (show (["_law_k", "_law_script"]:List Str).Nodup by decide +kernel) rfl (Or.inl rfl))) (λ_ _ _ _=>qci) (λ_ _ _ _=>(qax (qin T) (hr.mono (by decide)) rfl (qaa (qax (qcc T) (hr.mono (by decide)) rfl (qaa (pv 1) (qaa qae qad))) (qaa (pv 0) qad)))))
   (qac (qay (i:=6) nd rfl (Or.inl rfl) (qc9 (qaa (qm3 (qnv T) (hr.mono (by decide)) rfl .nil (qaa (pv 3) (qaa (pv 4) qad))) (qaa (qm3 (qnv T) (hr.mono (by decide)) rfl .nil (qaa (pv 3) (qaa (pv 4) qad))) qad))))
   (qac (qay (i:=7) nd rfl (Or.inl rfl) (qc9 (qaa qf4 (qaa qf4 qad))))
   (qac (qev PassesOwn.never rfl (qex rfl T.b_range (qaa qae qad)) (qas (i:=8) nd rfl (Or.inl rfl))
    (qaf (qev PassesOwn.never rfl (qcd (pv 5)) (qas (i:=9) nd rfl (Or.inl rfl))
    (qac (qby (qdz (dvs:=[.non]) (qcr ⟨rfl,rfl,rfl⟩) (qa4 qa0 (pv 6) (pv 8) (λ_ _=>rfl)) T.cl_Book (qi0 T) (hr.mono (by decide)) (.cons rfl .nil) (qaa (pv 9) qad)))
   (qaf (qgh (qez hr) (qa4 qa0 (pv 7) (pv 8) (λ_ _=>rfl)) (pv 9) (qc9 qad) rfl))))))
   (qac (qev PassesOwn.never rfl (qcd (qf0 qm2 (pv 0) (qgg qae) (qgg qae))) (qas (i:=10) nd rfl (Or.inl rfl))
    (qac (qay (i:=11) nd rfl (Or.inl rfl) (qa4 qa0 (qax (qip T) (hr.mono (by decide)) rfl (qaa (qc9 (qaa (pv 10) qad)) (qaa (pv 5) (qaa (pv 1) (qaa (pv 2) (qaa (pv 4) qad)))))) qae (λ_ _=>rfl)))
   (qac (qpa (pv 11) (qeu rfl (qav (qas (i:=9) nd rfl (Or.inl rfl)) (qav (qas (i:=12) nd rfl (Or.inl rfl)) (qav (qas (i:=13) nd rfl (Or.inl rfl)) (qav (qas (i:=14) nd rfl (Or.inl rfl)) qc7))))))
   (qac (qbc (qap qhg (qal qa5 (qax (qar T) (hr.mono (by decide)) rfl (qaa (pv 10) (qaa qae qad))) qae) qae (qat _))
    (qaf (qay (i:=14) nd rfl (Or.inl rfl) (qal qfo qae (qal qa5 (pv 10) qae))))
    qao)
   (qac (qbc (qap qhg (qal qa5 (qax (qar T) (hr.mono (by decide)) rfl (qaa (pv 10) (qaa qae qad))) qae) qae (qat _))
    (qaf (qay (i:=9) nd rfl (Or.inl rfl) (qax (qin T) (hr.mono (by decide)) rfl (qaa (qax (qcc T) (hr.mono (by decide)) rfl (qaa (pv 0) (qaa qae qad))) (qaa qae qad)))))
    qao)
   (qac (qay (i:=15) nd rfl (Or.inl rfl) (qb0 (qaa (qal qa5 (qax (qar T) (hr.mono (by decide)) rfl (qaa (pv 10) (qaa qae qad))) qae) (qaa (pv 12) (qaa (pv 13) (qaa (pv 14) qad))))))
   (qaf (qbc (qd5 (qda (qax (qo0 T) (hr.mono (by decide)) rfl (qaa (pv 6) (qaa (pv 7) (qaa (pv 3) (qaa (pv 4) (qaa (pv 9) (qaa (pv 15) qad)))))))))
    (qaf (qam qfx))
    qao))))))))
   (qac (qbc (qd5 (qda (qax (qem T) (hr.mono (by decide)) rfl (qaa (qa4 qa0 (pv 6) qae (λ_ _=>rfl)) (qaa (pv 3) (qaa (pv 4) (qaa (qa4 qa0 (pv 7) qae (λ_ _=>rfl)) qad)))))))
    (qaf (qam qfx))
    qao)
   (qaf (qam (qax (qem T) (hr.mono (by decide)) rfl (qaa (qa4 qa0 (pv 6) qae (λ_ _=>rfl)) (qaa (pv 3) (qaa (pv 4) (qaa (qa4 qa0 (pv 7) qae (λ_ _=>rfl)) qad)))))))))))))))),?_⟩
  refine ⟨_,rfl,a,ns,0,rfl,hS,by decide,_,rfl,λtt ls xs ps g H1 s1 fl htt hls hp pb=>?_⟩;refine ⟨tt,_,rfl,SqT.of htt,rfl,_,_,rfl,_,_,rfl,rfl,?_⟩;refine qet (σ':=[some (.ref a),some (.ref ls),some (gv g),none,none,none,none,none,none,none,none,none,none,none,none,none]) rfl ?_
  replace hS:=qh5 s1 hS
  clear s1 fl htt;dsimp only;refine ⟨_,rfl,ls,_,rfl,.inl (SqL.of hls),λl2 H2 n2=>⟨_,rfl,λru dx H3 s3 f3 d3=>?_⟩⟩;refine ⟨ru,dx,l2,xs,ps,g,rfl,d3,s3 _ _ n2.at_,(hp.same n2.same).same s3,pb.P.good,pb.P.gone,λrl H4 f4 R4 b4=>⟨rfl,qaw ?_⟩⟩;have s14:Same H1 H4:=b4.same (n2.same.trans s3) (n2.same.free f3)
  replace hS:=qh5 s14 hS
  replace hls:=s14 _ _ hls
  replace hp:=hp.same s14
  clear s14 b4 f4 d3 f3 s3 n2;refine qet (σ':=[some (.ref a),some (.ref ls),some (gv g),some (.ref ru),none,none,none,none,none,none,none,none,none,none,none,none]) rfl ?_;have d1:0<=(ns[(1:Int).toNat]?.getD 0) % (2*10 ^ 30)/\(ns[(1:Int).toNat]?.getD 0) % (2*10 ^ 30)<2*10 ^ 30:=⟨Int.emod_nonneg _ (by decide),Int.emod_lt_of_pos _ (by decide)⟩;refine ⟨_,rfl,a,ns,1,rfl,hS,by decide,?_⟩
  generalize ns[(1:Int).toNat]?.getD 0=c1 at d1
  refine ⟨_,_,rfl,rfl,by walk_at "c",_,_,rfl,rfl,by walk_at "c",_,_,rfl,rfl,by walk_at "c",_,_,rfl,rfl,by walk_at "c",_,_,rfl,rfl,qaw ?_⟩;obtain ⟨day,eday⟩:∃ day,day=c1 % (2*10 ^ 30)-10 ^ 30:=⟨_,rfl⟩;have dB:-(10 ^ 31)<=day/\day<=10 ^ 31:=by omega
  refine qet (σ':=[some (.ref a),some (.ref ls),some (gv g),some (.ref ru),some (.int day),none,none,none,none,none,none,none,none,none,none,none]) (by rw[eday];rfl) ?_;clear eday d1;have hd:Bd day:=⟨by omega,by omega⟩;refine ⟨_,rfl,a,ns,3,rfl,hS,by decide,_,_,rfl,rfl,by decide,_,_,rfl,rfl,_,rfl,?_⟩;obtain ⟨N,hN⟩:∃ N:Nat,2+(ns[(3:Int).toNat]?.getD 0) % 3=N:=⟨(2+(ns[(3:Int).toNat]?.getD 0) % 3).toNat,by omega⟩;have N4:2<=N/\N<=4:=by omega
  generalize ed2:ns[(2:Int).toNat]?.getD 0=dn
  rw[hN];refine ⟨by omega,by omega,qla (n:=N) (λi ys H5=>Same H4 H5/\ys=(qrn dn i).map tS/\∀ x∈qrn dn i,qbs 12 x) (qis (by omega)) ⟨Same.refl _,rfl,by simp[qrn]⟩ (λi ys H5 h5=>by rw[h5.2.1];simp[qrn]) ?_ ?_⟩
  ·rintro i ys H5 hi ⟨s5,rfl,sm⟩
   refine qaw (qsl (qd8 ?_));refine ⟨_,rfl,a,ns,2,rfl,qh5 s5 hS,by decide,_,rfl,_,_,rfl,λH6 s6 sw=>⟨s5.trans s6,?_,?_⟩⟩
   ·rw[ed2,Int.zero_add];unfold qrn;rw[List.range_succ,List.map_append,List.map_append];rfl
   ·intro x hx
    unfold qrn at hx;rw[List.range_succ,List.map_append] at hx
    rcases List.mem_append.mp hx with z|z
    ·exact sm x z
    ·have z:x=nmF dn i:=by simpa using z
     rw[ed2,Int.zero_add] at sw;rw[z];exact sw
  rintro ys H5 ln H6 ⟨s5,rfl,sm⟩ n6;refine qaw ?_;refine qet (σ':=[some (.ref a),some (.ref ls),some (gv g),some (.ref ru),some (.int day),some (.ref ln),none,none,none,none,none,none,none,none,none,none]) rfl ?_;have s46:=s5.trans n6.same;have hnd:=qv1 dn (n:=N) (by omega);have hnl:(qrn dn N).length=N:=by simp[qrn]
  generalize qrn dn N=nms at n6 sm hnd hnl
  replace hS:=qh5 s46 hS
  replace hls:=s46 _ _ hls
  replace hp:=hp.same s46
  replace R4:=R4.same s46
  have hln:=n6.at_;clear s46 s5 n6 ed2;refine ⟨_,rfl,_,rfl,λb0 dx0 H7 s7 f7 d7=>?_⟩;refine ⟨b0,dx0,ru,rl,ps,g,day,rfl,d7,R4.same s7,pb.P,pb.wb,hd,λle0 dm0 dr0 H8 B8 z1 z2 z3 b8=>⟨rfl,?_⟩⟩;have s68:Same H6 H8:=b8.same s7 f7;refine ⟨_,rfl,_,rfl,λb1 dx1 H9 s9 f9 d9=>?_⟩;refine ⟨b1,dx1,ru,rl,ps,g,day,rfl,d9,(R4.same s68).same s9,pb.P,pb.wb,hd,λle1 dm1 dr1 H10 B10 y1 y2 y3 b10=>⟨rfl,?_⟩⟩;have s810:Same H8 H10:=b10.same s9 f9;refine ⟨qis (by simp),λlb H11 n11=>qaw ?_⟩;refine qet (σ':=[some (.ref a),some (.ref ls),some (gv g),some (.ref ru),some (.int day),some (.ref ln),some (.ref lb),none,none,none,none,none,none,none,none,none]) rfl ?_;intro k0 H12 n12;intro k1 H13 n13;refine ⟨qis (by simp),λlk H14 n14=>qaw ?_⟩;refine qet (σ':=[some (.ref a),some (.ref ls),some (gv g),some (.ref ru),some (.int day),some (.ref ln),some (.ref lb),some (.ref lk),none,none,none,none,none,none,none,none]) rfl ?_;dsimp only;obtain ⟨km0,hm0,_⟩:=B8.ms;obtain ⟨kr0,hr0,_⟩:=B8.rs;obtain ⟨km1,hm1,_⟩:=B10.ms;obtain ⟨kr1,hr1,_⟩:=B10.rs;have s1014:Same H10 H14:=n11.same.trans (n12.same.trans (n13.same.trans n14.same));have s814:=s810.trans s1014;have s614:=s68.trans s814;have hm0':=s9 _ _ hm0;have hr0':=s9 _ _ hr0;have dd:D63 (qkh k0 k1) (qkh ⟨ru,rl,le0,dm0,dr0,ps,g,day⟩ ⟨ru,rl,le1,dm1,dr1,ps,g,day⟩):=by
   have q1:dm0≠dm1:=qah hm0' y2;have q2:dm0≠dr1:=qah hm0' y3;have q3:dr0≠dm1:=qah hr0' y2;have q4:dr0≠dr1:=qah hr0' y3;have u0:∀ {c:Addr} {o:HO},H8 c=some o->c≠k0/\c≠k1:=λe=>⟨qah (n11.same _ _ (s810 _ _ e)) n12.fresh,qah (n12.same _ _ (n11.same _ _ (s810 _ _ e))) n13.fresh⟩
   have u1:∀ {c:Addr} {o:HO},H10 c=some o->c≠k0/\c≠k1:=λe=>⟨qah (n11.same _ _ e) n12.fresh,qah (n12.same _ _ (n11.same _ _ e)) n13.fresh⟩
   have q5:k0≠k1:=qah n12.at_ n13.fresh;refine ⟨λi j hi hj n=>?_,λi j hi hj=>?_,λi j hi hj n=>?_⟩
   ·rcases (show (i=0/\j=1)\/(i=1/\j=0) by omega) with ⟨rfl,rfl⟩|⟨rfl,rfl⟩
    ·exact ⟨⟨q1,q3⟩,q2,q4⟩
    ·exact ⟨⟨q1.symm,q2.symm⟩,q3.symm,q4.symm⟩
   ·rcases (show i=0\/i=1 by omega) with rfl|rfl<;>rcases (show j=0\/j=1 by omega) with rfl|rfl
    ·exact ⟨(u0 hm0).1,(u0 hr0).1⟩
    ·exact ⟨(u0 hm0).2,(u0 hr0).2⟩
    ·exact ⟨(u1 hm1).1,(u1 hr1).1⟩
    ·exact ⟨(u1 hm1).2,(u1 hr1).2⟩
   ·rcases (show (i=0/\j=1)\/(i=1/\j=0) by omega) with ⟨rfl,rfl⟩|⟨rfl,rfl⟩
    ·exact q5
    ·exact q5.symm
  have fx:qx6 (qkh ⟨ru,rl,le0,dm0,dr0,ps,g,day⟩ ⟨ru,rl,le1,dm1,dr1,ps,g,day⟩) (ps.map λp=>cut day p.1 p.2) (g.map λz=>cut day z (lw ps)) ru day:=
   ⟨all2 rfl rfl,all2 rfl rfl,all2 (EdS.of pb.P hd).eq (EdS.of pb.P hd).eq,λz e0=>qoy pb.P day⟩
  have W0:W63 C_Book C_Roll C_Rule lb lk (qkh b0 b1) (qkh k0 k1) (qkh ⟨ru,rl,le0,dm0,dr0,ps,g,day⟩ ⟨ru,rl,le1,dm1,dr1,ps,g,day⟩) (ps.map λp=>cut day p.1 p.2) (g.map λz=>cut day z (lw ps)) (λ_=>[]) (λ_=>[]) H14:=
   ⟨qir _ _ (n14.same _ _ (n13.same _ _ (n12.same _ _ n11.at_))),qir _ _ n14.at_,all2 ((B8.same s814).same qir) ((B10.same s1014).same qir),all2 ⟨[],n14.same _ _ (n13.same _ _ n12.at_),.nil⟩ ⟨[],n14.same _ _ n13.at_,.nil⟩,λ_ _=>.nil,(by intro p hp;cases hp),.nil⟩
  have env0:Env6 K a ln ls ns nms xs ps H14:=⟨qh5 s614 hS,s614 _ _ hln,s614 _ _ hls,hp.same s614⟩;have en0:En63 nms (λ_=>[]) 0 0:=⟨λi hi=>by unfold cnt;rw[if_neg (Nat.not_lt_zero _)];split<;>rfl,λ_ _ p hp=>by cases hp⟩
  generalize qkh b0 b1=bs at W0
  generalize (qkh k0 k1)=ks at W0 dd
  generalize (qkh (BookD.mk ru rl le0 dm0 dr0 ps g day) ⟨ru,rl,le1,dm1,dr1,ps,g,day⟩)=BB at W0 dd fx
  generalize (ps.map λp=>cut day p.1 p.2)=es at W0 fx
  generalize (g.map λz=>cut day z (lw ps))=ge at W0 fx
  have tie0:Tie (λ_=>[]) (λ_=>[]):=λ_ _=>rfl
  clear B8 B10 hm0 hr0 hm1 hr1 hm0' hr0' s1014 s814 s614 n11 n12 n13 n14 s810 s68 b8 b10 s7 s9 f7 f9 d7 d9 z1 z2 z3 y1 y2 y3 hS hls hp hln R4;refine ⟨2,rfl,by decide,by decide,qhf (n:=2) (λc σ H'=>∃ (KX:Nat->qdx) (XX:Nat->qbk) (v8 v9:Option V),W63 C_Book C_Roll C_Rule lb lk bs ks BB es ge KX XX H'/\Tie KX XX/\Env6 K a ln ls ns nms xs ps (rmS H' (adL KX))/\En63 nms XX c 0/\σ=[some (.ref a),some (.ref ls),some (gv g),some (.ref ru),some (.int day),some (.ref ln),some (.ref lb),some (.ref lk),v8,v9,none,none,none,none,none,none]) ⟨_,_,_,_,W0,tie0,env0.same qir,en0,rfl⟩ ?_ ?_⟩
  ·clear W0 tie0 env0 en0
   rintro c σ H15 hc ⟨KX,XX,v8,v9,W,tie,env,en,rfl⟩;rw[Int.zero_add];refine qaw ?_;refine qet (σ':=[some (.ref a),some (.ref ls),some (gv g),some (.ref ru),some (.int day),some (.ref ln),some (.ref lb),some (.ref lk),some (.int c),v9,none,none,none,none,none,none]) rfl ?_;refine ⟨_,rfl,ln,rfl,⟨_,SqL.of (qbt _ _ env.nm)⟩,qdy (xs:=nms.map tS) (λj σ H'=>∃ (KX:Nat->qdx) (XX:Nat->qbk) (v9:Option V),W63 C_Book C_Roll C_Rule lb lk bs ks BB es ge KX XX H'/\Tie KX XX/\Env6 K a ln ls ns nms xs ps (rmS H' (adL KX))/\En63 nms XX c j/\σ=[some (.ref a),some (.ref ls),some (gv g),some (.ref ru),some (.int day),some (.ref ln),some (.ref lb),some (.ref lk),some (.int c),v9,none,none,none,none,none,none]) ⟨KX,XX,_,W,tie,env,en,rfl⟩ (λj σ H' _ ⟨_,_,_,_,_,z,_⟩=>SqL.of (qbt _ _ z.nm)) ?_ ?_⟩
   ·clear W tie env en
    rintro j x' σ H16 hxj ⟨KX,XX,v9,W,tie,env,en,rfl⟩;obtain ⟨x,hxn,rfl⟩:∃ x,nms[j]?=some x/\x'=tS x:=by
     rw[List.getElem?_map] at hxj;obtain ⟨x,e1,e2⟩:=Option.map_eq_some_iff.mp hxj;exact ⟨x,e1,e2.symm⟩
    have hsx:=sm x (List.mem_of_getElem? hxn);refine qaw ?_;refine qet (σ':=[some (.ref a),some (.ref ls),some (gv g),some (.ref ru),some (.int day),some (.ref ln),some (.ref lb),some (.ref lk),some (.int c),some (tS x),none,none,none,none,none,none]) rfl ?_;have A':=W.bkH hc;obtain ⟨dx,hob⟩:=A'.ob;have enm:=en.nm c hc;unfold cnt at enm;rw[if_neg (Nat.lt_irrefl _),if_pos rfl] at enm;have hni:x ∉ (XX c).map (·.1):=by
     rw[enm];intro z;obtain ⟨i,hi,ei⟩:=List.getElem_of_mem z;rw[List.length_take] at hi;rw[List.getElem_take] at ei;have jl:=(List.getElem?_eq_some_iff.mp hxn).1;have ej:=(List.getElem?_eq_some_iff.mp hxn).2;have:=(List.getElem_inj (xs:=nms) (i:=i) (j:=j) (h₀:=by omega) (h₁:=jl) hnd).mp (by rw[ei,ej]);omega
    have hnk:x ∉ (KX c).map (·.1):=by rw[tie.names hc];exact hni
    have lnX:(XX c).length<=4:=by
     have:=congrArg List.length enm;rw[List.length_map,List.length_take] at this;omega
    have bad:¬ (qdd 12 (tS x)=false\/qgt (XX c) (tS x)):=by
     rintro (z|⟨y,e,_,hy⟩)
     ·rw[qkc,decide_eq_true hsx] at z;cases z
     ·exact hni (qfr e ▸ hy)
    refine ⟨_,rfl,_,rfl,lb,_,_,_,rfl,rfl,SqL.of (qbt _ _ W.hb),qoz bs hc,bs c,dx,_,rfl,hob,qg2 _ _ _ _ _ (by decide +kernel) (by decide +kernel) (by decide +kernel) (by decide +kernel) (by decide +kernel),_,rfl,bs c,BB c,es,ge,XX c,tS x,.non,[],rfl,A',.inl ⟨x,rfl,by have:=hsx.2.1;omega⟩,.inl ⟨rfl,rfl⟩,(by simp),(by simp),by omega,λz=>absurd z bad,λ_ z=>absurd qro z,λy ms ey hy hn' eu ok ro q H17 b17 f1 f2 B17 r17=>?_⟩;have ey:=qfr ey;subst ey;have ems:ms=[]:=by cases ms with|nil=>rfl|cons _ _=>cases eu
    subst ems;obtain ⟨km,hkm,_⟩:=A'.ms;obtain ⟨kr,hkr,_⟩:=A'.rs;have hk17:H17 lk=some (.lst [.ref (ks 0),.ref (ks 1)]):=by
     have e0:=qbt _ _ W.hk;exact b17 _ _ e0 (qa1 e0 hkm (by intro z;cases z)) (qa1 e0 hkr (by intro z;cases z))
    obtain ⟨kv,hkv,enk⟩:=W.kp c hc;have lk4:=enk.len;have lnK:(KX c).length=(XX c).length:=by have:=congrArg List.length (tie.names hc);simpa using this
    refine ⟨Nat.zero_le _,λl H18 n18=>?_⟩;have hkv18:=n18.same _ _ (b17 _ _ hkv (dd.b c c hc hc).1.symm (dd.b c c hc hc).2.symm);refine ⟨_,rfl,_,rfl,lk,_,_,_,rfl,rfl,SqL.of (n18.same _ _ hk17),qoz ks hc,_,rfl,ks c,_,rfl,DPut.k (k:=kS x) hkv18 (by rw[sizeLine_eq];omega),?_⟩
    generalize h19:upd H18 (ks c) (.dK (putK kv (kS x) (.ref l)))=H19
    have b19:But (ks c) H18 H19:=by rw[<- h19];exact qcm
    have d19:H19 (ks c)=some (.dK (putK kv (kS x) (.ref l))):=by rw[<- h19];exact qbp
    exact ⟨inK c x l KX,inX c x ro q XX,_,W.enrol dd hc hni hnk b17 f1 f2 (r17 _ W.ls (W.bk c hc)) n18 hkv18 b19 d19,tie.inn c x l ro q,env.up (W.upE (x:=x) hc b17 n18 hkv18 b19),en.next hc hxn ro q,rfl⟩
   ·clear W tie env en
    rintro σ H16 ⟨KX,XX,v9,W,tie,env,en,rfl⟩;rw[List.length_map] at en;exact ⟨KX,XX,_,_,W,tie,env,en.turn,rfl⟩
  clear W0 tie0 env0 en0 dd;rintro σ H15 ⟨KX,XX,v8,v9,W,tie,env,en,rfl⟩;dsimp only;have enN:∀ i,i<2->(XX i).map (·.1)=nms:=λi hi=>by
   have:=en.nm i hi;unfold cnt at this;rw[if_pos hi,List.take_length] at this;exact this
  have ln0:Ln63 XX 0:=by
   have hl:∀ i,i<2->(XX i).length=N:=λi hi=>by have:=congrArg List.length (enN i hi);rw[List.length_map] at this;omega
   refine ⟨λi hi p hp=>by rw[en.rs i hi p hp];exact Nat.le_refl _,λi hi=>by rw[hl i hi];omega,λi hi=>by rw[hl i hi];omega,λi hi p hp=>sm p.1 (by rw[<- enN i hi];exact List.mem_map.mpr ⟨p,hp,rfl⟩)⟩
  clear en;obtain ⟨cs,ec,hcs⟩:=qx8 ns;refine ⟨_,rfl,_,rfl,_,rfl,a,_,rfl,(Env6.same env qbt).sc,λlc H16 n16=>?_⟩;rw[ec] at n16;have lcn:∀ z∈adL KX,z∈adL KX\/z=lc:=λz hz=>.inl hz
  have nlc:lc ∉ adL KX:=λz=>by obtain ⟨zs,e⟩:=W.ls lc z;rw[n16.fresh] at e;cases e
  refine ⟨lc,rfl,⟨_,SqL.of n16.at_⟩,qdy (xs:=cs.map V.int) (λi σ H'=>∃ (KX:Nat->qdx) (XX:Nat->qbk) (v8 v9 v10 v11 v12 v13 v14 v15:Option V),W63 C_Book C_Roll C_Rule lb lk bs ks BB es ge KX XX H'/\Tie KX XX/\Env6 K a ln ls ns nms xs ps (rmS H' (adL KX))/\rmS H' (adL KX) lc=some (.lst (cs.map V.int))/\(∀ i,i<2->(XX i).map (·.1)=nms)/\Ln63 XX i/\σ=[some (.ref a),some (.ref ls),some (gv g),some (.ref ru),some (.int day),some (.ref ln),some (.ref lb),some (.ref lk),v8,v9,v10,v11,v12,v13,v14,v15]) ⟨KX,XX,_,_,_,_,_,_,_,_,W.same n16.same,tie,env.same (qcq n16.same),qbh n16.at_ nlc,enN,ln0,rfl⟩ (λi σ H' _ ⟨_,_,_,_,_,_,_,_,_,_,_,_,_,z,_⟩=>SqL.of (qbt _ _ z)) ?_ ?_⟩
  ·clear W tie env enN ln0 n16 lcn nlc
   rintro i x' σ H17 hxi ⟨KX,XX,v8,v9,v10,v11,v12,v13,v14,v15,W,tie,env,hlc,enN,lnI,rfl⟩;obtain ⟨d,rfl⟩:∃ d,x'=V.int d:=by
    obtain ⟨d,_,e⟩:=List.mem_map.mp (List.mem_of_getElem? hxi);exact ⟨d,e.symm⟩
   have i16:i<16:=by have:=(List.getElem?_eq_some_iff.mp hxi).1;rw[List.length_map] at this;omega
   refine qaw ?_;refine qet (σ':=[some (.ref a),some (.ref ls),some (gv g),some (.ref ru),some (.int day),some (.ref ln),some (.ref lb),some (.ref lk),v8,v9,some (.int d),v11,v12,v13,v14,v15]) rfl ?_;refine ⟨_,rfl,qis (by simp),λlo H18 n18=>⟨_,rfl,_,rfl,_,rfl,_,rfl,?_⟩⟩;have e18:Env6 K a ln ls ns nms xs ps H18:=(env.same qbt).same n18.same;refine ⟨lo,ln,ls,[d],nms,xs,ps,g,day,rfl,n18.at_,by simp,e18.nm,by omega,by omega,e18.st,e18.pr,pb,dB,λl ys rs H19 s19 f19 hl19 hr19 len19 hrs=>?_⟩;obtain ⟨r,rfl⟩:∃ r,rs=[r]:=by
    cases rs with
    | nil=>simp at len19
    | cons r rs=>cases rs with|nil=>exact ⟨r,rfl⟩|cons _ _=>simp at len19
   obtain ⟨nm,t,va,m⟩:=r;obtain ⟨hnm,hrl⟩:=hrs _ List.mem_cons_self
   cases hr19 with
   | cons hr1 hr2 =>
   cases hr2;obtain ⟨ar,rfl,har⟩:=hr1;refine ⟨l,_,_,_,rfl,rfl,SqL.of hl19,qfs (j:=0) rfl,qaw ?_⟩;refine qet (σ':=[some (.ref a),some (.ref ls),some (gv g),some (.ref ru),some (.int day),some (.ref ln),some (.ref lb),some (.ref lk),v8,v9,some (.int d),some (.ref ar),v12,v13,v14,v15]) rfl ?_;refine ⟨_,rfl,ar,_,rfl,SqT.of har,rfl,_,_,rfl,_,_,rfl,_,_,rfl,_,_,rfl,rfl,?_⟩;refine qet (σ':=[some (.ref a),some (.ref ls),some (gv g),some (.ref ru),some (.int day),some (.ref ln),some (.ref lb),some (.ref lk),v8,some (tS nm),some (.int d),some (.ref ar),some (.int t),some (.int va),some (.int m),v15]) rfl ?_;have s1719:=n18.same.trans s19
   replace W:=W.same s1719
   replace env:=env.same (qcq (L:=adL KX) s1719)
   replace hlc:=qcq (L:=adL KX) s1719 _ _ hlc
   have hnS:qbs 12 nm:=sm nm hnm;clear e18 n18 s19 f19 hl19 har s1719 hnm hrs;dsimp only;refine qub (λσ H'=>H19=H'/\∃ m',(1<=m'->RL63 (t,va,m'))/\σ=[some (.ref a),some (.ref ls),some (gv g),some (.ref ru),some (.int day),some (.ref ln),some (.ref lb),some (.ref lk),v8,some (tS nm),some (.int d),some (.ref ar),some (.int t),some (.int va),some (.int m'),v15]) (λN' hN'=>?_) ?_
   ·refine ⟨_,rfl,d,90,rfl,by decide,by decide,λm1 _ _=>⟨_,_,rfl,rfl,by decide,rfl,_,rfl,?_⟩⟩
    refine qhp (λz=>?_) λz=>hN' _ _ ⟨rfl,m,λ_=>hrl,rfl⟩
    exact ⟨_,rfl,_,_,rfl,rfl,by decide,_,_,rfl,rfl,qaw (hN' _ _ ⟨rfl,0-d % 3,λh=>by omega,rfl⟩)⟩
   rintro σ _ ⟨rfl,m',hm',rfl⟩;refine qub (λσ H'=>Same H19 H'/\∃ x,qbs 12 x/\σ=[some (.ref a),some (.ref ls),some (gv g),some (.ref ru),some (.int day),some (.ref ln),some (.ref lb),some (.ref lk),v8,some (tS x),some (.int d),some (.ref ar),some (.int t),some (.int va),some (.int m'),v15]) (λN' hN'=>?_) ?_
   ·refine ⟨_,rfl,d,91,rfl,by decide,by decide,λm1 _ _=>⟨_,_,rfl,rfl,by decide,rfl,_,rfl,?_⟩⟩
    refine qhp (λz=>?_) λz=>hN' _ _ ⟨Same.refl _,nm,hnS,rfl⟩
    exact ⟨_,rfl,a,ns,2,rfl,(env.same qbt).sc,by decide,_,_,rfl,λH20 s20 sw=>qaw (hN' _ _ ⟨s20,_,sw,rfl⟩)⟩
   rintro σ H20 ⟨s20,x,hx,rfl⟩;refine ⟨_,rfl,d,92,rfl,by decide,by decide,λm2 _ _=>⟨_,_,rfl,rfl,by decide,_,rfl,_,rfl,_,rfl,?_⟩⟩;obtain ⟨wh,hwh⟩:=Int.eq_ofNat_of_zero_le (Int.emod_nonneg m2 (show (2:Int)≠0 by decide));have hw2:wh<2:=by have:=Int.emod_lt_of_pos m2 (show (0:Int)<2 by decide);omega
   rw[hwh];refine ⟨qis (by simp),λtr H21 n21=>qaw ?_⟩;refine qet (σ':=[some (.ref a),some (.ref ls),some (gv g),some (.ref ru),some (.int day),some (.ref ln),some (.ref lb),some (.ref lk),v8,some (tS x),some (.int d),some (.ref ar),some (.int t),some (.int va),some (.int m'),some (.ref tr)]) rfl ?_;have s1921:=s20.trans n21.same
   replace W:=W.same s1921
   replace env:=env.same (qcq (L:=adL KX) s1921)
   replace hlc:=qcq (L:=adL KX) s1921 _ _ hlc
   refine ⟨_,rfl,_,rfl,_,rfl,_,rfl,_,rfl,_,rfl,lb,lk,bs,ks,BB,es,ge,KX,XX,x,tr,ru,wh,i,t,va,m',day,rfl,W,tie,fx,lnI,by omega,hx,hw2,n21.at_,hrl.1,hm',λKX' XX' H22 W22 tie22 ln22 ead enm kp22=>⟨_,rfl,qd7 ⟨KX',XX',_,_,_,_,_,_,_,_,W22,tie22,?_,?_,λj hj=>by rw[enm j hj,enN j hj],ln22,rfl⟩⟩⟩
   ·rw[ead]
    exact env.up λz o e _ n2=>qbh (kp22 _ _ (qa7 e).1 (qa7 e).2 n2) (qa7 e).2
   ·rw[ead]
    exact qbh (kp22 _ _ (qa7 hlc).1 (qa7 hlc).2 (by intro Y z;cases z)) (qa7 hlc).2
  ·clear W tie env enN ln0 n16 lcn nlc
   rintro σ H17 ⟨KX,XX,v8,v9,v10,v11,v12,v13,v14,v15,W,tie,env,hlc,enN,lnI,rfl⟩;obtain ⟨kv0,hk0,en0⟩:=W.kp 0 (by decide);obtain ⟨kv1,hk1,en1⟩:=W.kp 1 (by decide);have ks0:kv0.map (·.1)=((XX 0).map (·.1)).map (λq=>Sum.inr (S q)):=by rw[<- tie.names (by decide)];exact en0.keys
   have ks1:kv1.map (·.1)=((XX 1).map (·.1)).map (λq=>Sum.inr (S q)):=by rw[<- tie.names (by decide)];exact en1.keys
   refine ⟨_,rfl,lb,_,_,_,rfl,rfl,SqL.of (qbt _ _ W.hb),qoz bs (w:=0) (by decide),_,rfl,_,rfl,_,rfl,lk,_,_,_,rfl,rfl,SqL.of (qbt _ _ W.hk),qoz ks (w:=0) (by decide),bs 0,BB 0,es,ge,XX 0,ks 0,kv0,by rw[fx.ru 0 (by decide),fx.dy 0 (by decide)];rfl,W.bkH (by decide),fx.de 0 (by decide),by have:=lnI.hi 0 (by decide);omega,lnI.sm 0 (by decide),hk0,ks0,λH18 s18=>⟨_,rfl,qd7 ?_⟩⟩;have W18:=W.same s18;refine ⟨_,rfl,lb,_,_,_,rfl,rfl,SqL.of (qbt _ _ W18.hb),qoz bs (w:=1) (by decide),_,rfl,_,rfl,_,rfl,lk,_,_,_,rfl,rfl,SqL.of (qbt _ _ W18.hk),qoz ks (w:=1) (by decide),bs 1,BB 1,es,ge,XX 1,ks 1,kv1,by rw[fx.ru 1 (by decide),fx.dy 1 (by decide)];rfl,W18.bkH (by decide),fx.de 1 (by decide),by have:=lnI.hi 1 (by decide);omega,lnI.sm 1 (by decide),s18 _ _ hk1,ks1,λH19 s19=>k H19⟩
end
theorem walk {l:PySem.W.OpenLaw} {q:Program} {loose:List Str} {XP:(Str->Option Value)->Heap->Prop} {YP:World->Heap->Prop} {d:DefRec} {K:Params->Frag} (hn:l.most=some 63) (hdf:d.params.defaults=[]) (hdn:d.name = "law")
  (hY:∀ (w:World) (h:Heap),YP w h->(K w.params).In h)
  (F:∀ (w:World) (mg:Str->Option Value) (h:Heap),(K w.params).In h->h.Ns mainGlobals mg->∃ C_Roll C_Rule C_Book C_BookError C_NoNumber C_NoRule C_Backward C_NoName C_NoMark,Txt (K w.params) mg C_Roll C_Rule C_Book C_BookError C_NoNumber C_NoRule C_Backward C_NoName C_NoMark) :
  PySem.W.WalkO q loose XP YP l.row.toRowW d [] (λf vs=>PySem.call f vs):=by
 refine L2.quu (n:=63) (k:=12) (x:= "_law_script") (CX:=λ_=>CX0) (sp:=λw=>qt0 (K w.params)) hn (by decide) hdf ⟨rfl,by decide,by decide⟩ hY (λw mg fa h kin ns hm=>?_) (λ_ _ a ns hl _ hS=>⟨a,ns,rfl,hS,hl,λ_=>rfl⟩) λ_ _ _ _ _ z=>z
 obtain ⟨C_Roll,C_Rule,C_Book,C_BookError,C_NoNumber,C_NoRule,C_Backward,C_NoName,C_NoMark,T⟩:=F w mg h kin ns;obtain ⟨f,fd,Fu,hm'⟩:=T.f_law;rw[hdn,hm'] at hm;cases hm;refine ⟨fd,?_,λbase kb nb=>qzw T Fu⟩;obtain ⟨oc,od,kV,doc,pm,an,cdv,ct,osl,rfl,lk,hcd⟩:=Fu.ex;exact λs u=>.of_eq rfl
end TB
namespace PySem.W.Fast
theorem tw14349430265100526120:True:=⟨⟩
theorem tw4562730258906045864:True:=⟨⟩
theorem tw16018242406805415661:True:=⟨⟩
theorem tw10870501331261798045:True:=⟨⟩
theorem tw4563693136384480574:True:=⟨⟩
theorem tw15485408872512042631:True:=⟨⟩
theorem tw128042684288889901:True:=⟨⟩
theorem tw5005455509192773697:True:=⟨⟩
theorem tw15501949053659661303:True:=⟨⟩
theorem tw5699526748260532861:True:=⟨⟩
theorem tw6300512186461386816:True:=⟨⟩
theorem tw15989602016695352429:True:=⟨⟩
theorem tw18245822757792254588:True:=⟨⟩
theorem tw11648284241543693160:True:=⟨⟩
theorem tw5024388211506207290:True:=⟨⟩
theorem tw1729792005669186340:True:=⟨⟩
theorem tw516592595557350608:True:=⟨⟩
theorem tw9567472396399132039:True:=⟨⟩
theorem tw13950575855819890282:True:=⟨⟩
theorem tw15661095234328231879:True:=⟨⟩
theorem tw17339090354418628693:True:=⟨⟩
theorem tw13079589288386412935:True:=⟨⟩
theorem tw16109675937482827324:True:=⟨⟩
theorem tw7418312556773721106:True:=⟨⟩
theorem tw16302414521024460322:True:=⟨⟩
theorem tw14933425882264296765:True:=⟨⟩
theorem tw13826568738145579938:True:=⟨⟩
theorem tw3114284307262443572:True:=⟨⟩
theorem tw13548005823292227528:True:=⟨⟩
theorem tw8366853832806109110:True:=⟨⟩
theorem tw10995722023297597387:True:=⟨⟩
theorem tw18299913466071976437:True:=⟨⟩
theorem tw406718698409323906:True:=⟨⟩
theorem tw3739464013463732164:True:=⟨⟩
theorem tw5158170088542025923:True:=⟨⟩
theorem tw16579273762898372620:True:=⟨⟩
theorem tw2464515705738104945:True:=⟨⟩
theorem tw5220384037811746908:True:=⟨⟩
theorem tw6958642479360076690:True:=⟨⟩
theorem tw9752692773233558:True:=⟨⟩
theorem tw12697602270577861734:True:=⟨⟩
theorem tw7193365014840571213:True:=⟨⟩
theorem tw12644536988319507810:True:=⟨⟩
theorem tw8656792449218628650:True:=⟨⟩
theorem tw7493194864508214490:True:=⟨⟩
theorem tw16410809228352587738:True:=⟨⟩
theorem tw16387578036870408531:True:=⟨⟩
theorem tw17333993913368535684:True:=⟨⟩
theorem tw17602897660244612568:True:=⟨⟩
theorem tw4709120252113933563:True:=⟨⟩
theorem tw10940783815190750708:True:=⟨⟩
theorem tw7308973185086524167:True:=⟨⟩
theorem tw1976215373187441396:True:=⟨⟩
theorem tw7082382477702804196:True:=⟨⟩
theorem tw15901232391149366388:True:=⟨⟩
theorem tw9272802735576163210:True:=⟨⟩
theorem tw11321052186663714610:True:=⟨⟩
theorem tw3346771988341313170:True:=⟨⟩
theorem tw6212542475508863849:True:=⟨⟩
theorem tw14741519605013200249:True:=⟨⟩
theorem tw2933105289777478553:True:=⟨⟩
theorem tw4229348816533378970:True:=⟨⟩
theorem tw9600010220494530059:True:=⟨⟩
theorem tw7150513776721002139:True:=⟨⟩
theorem tw8837145168070142409:True:=⟨⟩
theorem tw8328983590967767146:True:=⟨⟩
theorem tw16360780547694483924:True:=⟨⟩
theorem tw16649014588426961590:True:=⟨⟩
theorem tw11077529380540007654:True:=⟨⟩
theorem tw400825873701632977:True:=⟨⟩
theorem tw4951146098078757373:True:=⟨⟩
theorem tw9564977434017175683:True:=⟨⟩
theorem tw1568213329661583975:True:=⟨⟩
theorem tw352320095251223999:True:=⟨⟩
theorem tw15095506954393683012:True:=⟨⟩
theorem tw16580021628523757218:True:=⟨⟩
theorem tw16477490249204122853:True:=⟨⟩
theorem tw14919972840584363517:True:=⟨⟩
theorem tw4031326221008650651:True:=⟨⟩
theorem tw1250568793744488737:True:=⟨⟩
theorem tw6213926641071065677:True:=⟨⟩
theorem tw1647455758415697393:True:=⟨⟩
theorem tw15271794496115323582:True:=⟨⟩
theorem tw11714364025074691991:True:=⟨⟩
theorem tw3213320779217121672:True:=⟨⟩
theorem tw11651386713127413533:True:=⟨⟩
theorem tw7819929478328307722:True:=⟨⟩
theorem tw1086355767363586006:True:=⟨⟩
theorem tw13983004625595246410:True:=⟨⟩
theorem tw6792883742626097598:True:=⟨⟩
theorem tw6096493696632212552:True:=⟨⟩
theorem tw2326273639209630813:True:=⟨⟩
theorem tw4372482996795098926:True:=⟨⟩
theorem tw7701908897787925327:True:=⟨⟩
theorem tw136400916830452205:True:=⟨⟩
theorem tw554578837012160956:True:=⟨⟩
theorem tw17259007134607985889:True:=⟨⟩
theorem tw6729824483258711272:True:=⟨⟩
theorem tw8779033594329704589:True:=⟨⟩
theorem tw6241269599138532987:True:=⟨⟩
theorem tw4662165691981123918:True:=⟨⟩
theorem tw13975455106193722200:True:=⟨⟩
theorem tw11658218337264722380:True:=⟨⟩
theorem tw13880358835631267389:True:=⟨⟩
theorem tw12781492175664991626:True:=⟨⟩
theorem tw11727715453838925216:True:=⟨⟩
theorem tw5801861380322839603:True:=⟨⟩
theorem tw18341425548356139822:True:=⟨⟩
theorem tw13662628433875575327:True:=⟨⟩
theorem tw3113453892717944377:True:=⟨⟩
theorem tw6594274196303799838:True:=⟨⟩
theorem tw18319998425235731765:True:=⟨⟩
theorem tw13465675750550490397:True:=⟨⟩
theorem tw3397087554104626892:True:=⟨⟩
theorem tw2595200732894670106:True:=⟨⟩
theorem tw13572370175186840844:True:=⟨⟩
theorem tw14496861689789621356:True:=⟨⟩
theorem tw6952748680715128866:True:=⟨⟩
theorem tw8688876323746950604:True:=⟨⟩
theorem tw12849456575958618467:True:=⟨⟩
theorem tw11419759387646406987:True:=⟨⟩
theorem tw17787033353798937550:True:=⟨⟩
theorem tw953301595817718934:True:=⟨⟩
theorem tw1517358679384238342:True:=⟨⟩
theorem tw9680886705970771356:True:=⟨⟩
theorem tw17782615264920716070:True:=⟨⟩
theorem tw13151560703537760227:True:=⟨⟩
theorem tw5056518549792536590:True:=⟨⟩
theorem tw15704929144856534600:True:=⟨⟩
theorem tw7919157249719832705:True:=⟨⟩
theorem tw18193355506248993031:True:=⟨⟩
theorem tw15106916082531523974:True:=⟨⟩
theorem tw2291310252669618213:True:=⟨⟩
theorem tw13549045461943432216:True:=⟨⟩
theorem tw16178121783633492451:True:=⟨⟩
theorem tw6636118170542164410:True:=⟨⟩
theorem tw7412502690811691482:True:=⟨⟩
theorem tw9205397786343937868:True:=⟨⟩
theorem tw17285739761918194394:True:=⟨⟩
theorem tw11772288431745543759:True:=⟨⟩
theorem tw13409925131455760450:True:=⟨⟩
theorem tw6354844528590722567:True:=⟨⟩
theorem tw5194046479529625953:True:=⟨⟩
theorem tw14216990553492002251:True:=⟨⟩
theorem tw8811630618460409659:True:=⟨⟩
theorem tw12830907608245661662:True:=⟨⟩
theorem tw5221625920761520668:True:=⟨⟩
theorem tw9861698647561789744:True:=⟨⟩
theorem tw11824110399495427138:True:=⟨⟩
theorem tw2409955402307564699:True:=⟨⟩
theorem tw13618875663985638700:True:=⟨⟩
theorem tw7377086980072690747:True:=⟨⟩
theorem tw14033054146095692317:True:=⟨⟩
theorem tw1492412687824868900:True:=⟨⟩
theorem tw17637991951212909957:True:=⟨⟩
theorem tw11639333577286874797:True:=⟨⟩
theorem tw8359187278393578821:True:=⟨⟩
theorem tw18087484887658700181:True:=⟨⟩
theorem tw15539150782493981335:True:=⟨⟩
theorem tw8531260901259175236:True:=⟨⟩
theorem tw11703452681281182400:True:=⟨⟩
theorem tw6123371415597424068:True:=⟨⟩
theorem tw9205573911839506456:True:=⟨⟩
theorem tw9182060990217547190:True:=⟨⟩
theorem tw4192125506481912474:True:=⟨⟩
theorem tw9896821918505785112:True:=⟨⟩
theorem tw4196616732707470911:True:=⟨⟩
theorem tw18027054105507793561:True:=⟨⟩
theorem tw8275485538135125288:True:=⟨⟩
theorem tw12257579070884774197:True:=⟨⟩
theorem tw10313474777025007566:True:=⟨⟩
theorem tw5834131139768258100:True:=⟨⟩
theorem tw15666866934517441821:True:=⟨⟩
theorem tw12290316549983466473:True:=⟨⟩
theorem tw15292036963802072961:True:=⟨⟩
theorem tw17345248977613329416:True:=⟨⟩
theorem tw10947712924388076156:True:=⟨⟩
theorem tw10243856437426874671:True:=⟨⟩
theorem tw8580423525704591266:True:=⟨⟩
theorem tw3249205396853249636:True:=⟨⟩
theorem tw8876001384791646688:True:=⟨⟩
theorem tw9404235108617522386:True:=⟨⟩
theorem tw12650614245771430792:True:=⟨⟩
theorem tw11790404010399384696:True:=⟨⟩
theorem tw5331973401479084152:True:=⟨⟩
theorem tw15589077487716091941:True:=⟨⟩
theorem tw5146149401602758845:True:=⟨⟩
theorem tw2521010126744816365:True:=⟨⟩
theorem tw11190685553755640763:True:=⟨⟩
theorem tw17424143862572358801:True:=⟨⟩
theorem tw7547055076448388007:True:=⟨⟩
theorem tw8153340384269792849:True:=⟨⟩
theorem tw6032195531358580877:True:=⟨⟩
theorem tw13335644553524266268:True:=⟨⟩
theorem tw11238696657688890651:True:=⟨⟩
theorem tw16946536131409086240:True:=⟨⟩
theorem tw1270077434987161195:True:=⟨⟩
theorem tw2823449255654075252:True:=⟨⟩
theorem tw10714255585979721467:True:=⟨⟩
theorem tw3783434024171224117:True:=⟨⟩
theorem tw1480812048739547105:True:=⟨⟩
theorem tw14068864203424064445:True:=⟨⟩
theorem tw10617939866418931988:True:=⟨⟩
theorem tw10676502710423555607:True:=⟨⟩
theorem tw16121053775169843978:True:=⟨⟩
theorem tw15376924734919092049:True:=⟨⟩
theorem tw12220652397862676725:True:=⟨⟩
theorem tw3077714945174110222:True:=⟨⟩
theorem tw17046088451515212945:True:=⟨⟩
theorem tw740703705991922939:True:=⟨⟩
theorem tw8328814540761921220:True:=⟨⟩
theorem tw12585930524000438894:True:=⟨⟩
theorem tw5417112474316143731:True:=⟨⟩
theorem tw3796602727238208769:True:=⟨⟩
theorem tw6540227806138585040:True:=⟨⟩
theorem tw9112573489264496731:True:=⟨⟩
theorem tw3207512048618651669:True:=⟨⟩
theorem tw18020815750733124389:True:=⟨⟩
theorem tw187795888245855504:True:=⟨⟩
theorem tw6638715552224790727:True:=⟨⟩
theorem tw4156097555511025008:True:=⟨⟩
theorem tw16287050735062867701:True:=⟨⟩
theorem tw2545663117056119408:True:=⟨⟩
theorem tw2956300279476569955:True:=⟨⟩
theorem tw2102517032223093524:True:=⟨⟩
theorem tw12754242369982658518:True:=⟨⟩
theorem tw16522841732982690173:True:=⟨⟩
theorem tw7067949117632212188:True:=⟨⟩
theorem tw13889720163117540637:True:=⟨⟩
theorem tw13095688711840394346:True:=⟨⟩
theorem tw2036253390418117784:True:=⟨⟩
theorem tw8543878499742187868:True:=⟨⟩
theorem tw14900011368583701711:True:=⟨⟩
theorem tw13822684584075632297:True:=⟨⟩
theorem tw12561608372642398932:True:=⟨⟩
theorem tw9182583702009491748:True:=⟨⟩
theorem tw16203578802322410043:True:=⟨⟩
theorem tw1244421055225461172:True:=⟨⟩
theorem tw16308025275534910785:True:=⟨⟩
theorem tw2333193040807273826:True:=⟨⟩
theorem tw4375556949203174274:True:=⟨⟩
theorem tw12117269808011203254:True:=⟨⟩
theorem tw17721534599933443173:True:=⟨⟩
theorem tw5139515921931512741:True:=⟨⟩
theorem tw6544118580959059241:True:=⟨⟩
theorem tw11904459328169863963:True:=⟨⟩
theorem tw8232115193958782838:True:=⟨⟩
theorem tw4511952495288851336:True:=⟨⟩
theorem tw13989628609384514159:True:=⟨⟩
theorem tw2985534035913411814:True:=⟨⟩
theorem tw329365492721504855:True:=⟨⟩
theorem tw17588503178633616835:True:=⟨⟩
theorem tw14423550311789681680:True:=⟨⟩
theorem tw551596058360841820:True:=⟨⟩
theorem tw1286166083435774745:True:=⟨⟩
theorem tw11465986659765017018:True:=⟨⟩
theorem tw10864199778108789686:True:=⟨⟩
theorem tw3550699638069760745:True:=⟨⟩
theorem tw12202573987654060152:True:=⟨⟩
theorem tw9548112931435056226:True:=⟨⟩
theorem tw3005319058775909183:True:=⟨⟩
theorem tw12031244984986228326:True:=⟨⟩
theorem tw1142327789332717295:True:=⟨⟩
theorem tw570550525070671840:True:=⟨⟩
theorem tw4959251735911874556:True:=⟨⟩
theorem tw13382090410589092721:True:=⟨⟩
theorem tw12962296613220002584:True:=⟨⟩
theorem tw9351496353119456929:True:=⟨⟩
theorem tw5046771351772083983:True:=⟨⟩
theorem tw5040088041190081869:True:=⟨⟩
theorem tw6057675357153256025:True:=⟨⟩
theorem tw15987564627626939113:True:=⟨⟩
theorem tw5717495034035360589:True:=⟨⟩
theorem tw4339890072633885447:True:=⟨⟩
theorem tw17713852429383474877:True:=⟨⟩
theorem tw15452017821309743059:True:=⟨⟩
theorem tw9942890495786171:True:=⟨⟩
theorem tw7856800480551151625:True:=⟨⟩
theorem tw456444981689779645:True:=⟨⟩
theorem tw11082939755542297689:True:=⟨⟩
theorem tw1479085074110767055:True:=⟨⟩
theorem tw3820150219809161589:True:=⟨⟩
theorem tw3236017364394009980:True:=⟨⟩
theorem tw18005095234626573390:True:=⟨⟩
theorem tw11059786695760101288:True:=⟨⟩
theorem tw13003350792652910665:True:=⟨⟩
theorem tw11258759497335908746:True:=⟨⟩
theorem tw2127666479844062226:True:=⟨⟩
theorem tw8937651742371958876:True:=⟨⟩
theorem tw4724162211265613176:True:=⟨⟩
theorem tw16148198322558064441:True:=⟨⟩
theorem tw5430894596086061236:True:=⟨⟩
theorem tw2005705322005202260:True:=⟨⟩
theorem tw13788942553561419402:True:=⟨⟩
theorem tw7221632251719402427:True:=⟨⟩
theorem tw13806318298906258897:True:=⟨⟩
theorem tw9947809970192034949:True:=⟨⟩
theorem tw16720394976001208167:True:=⟨⟩
theorem tw15787376509341723047:True:=⟨⟩
theorem tw13151307605457310988:True:=⟨⟩
theorem tw9460339739993590289:True:=⟨⟩
theorem tw1169201891536707695:True:=⟨⟩
theorem tw4448953801555461412:True:=⟨⟩
theorem tw3098217487510696096:True:=⟨⟩
theorem tw6921610638029783395:True:=⟨⟩
theorem tw5330158051396133699:True:=⟨⟩
theorem tw17144237400358588406:True:=⟨⟩
theorem tw9981393433838415560:True:=⟨⟩
theorem tw6621418383488374268:True:=⟨⟩
theorem tw4645501662351527380:True:=⟨⟩
theorem tw6423150846942927230:True:=⟨⟩
theorem tw4535148346756582997:True:=⟨⟩
theorem tw4031794390730281834:True:=⟨⟩
theorem tw2819679215261891266:True:=⟨⟩
theorem tw8953812921699587327:True:=⟨⟩
theorem tw7265598415204243085:True:=⟨⟩
theorem tw14982150941827233253:True:=⟨⟩
theorem tw13723598656917941029:True:=⟨⟩
theorem tw8536344098648394510:True:=⟨⟩
theorem tw17274919904850702837:True:=⟨⟩
theorem tw16784145064712943228:True:=⟨⟩
theorem tw13120081786441168408:True:=⟨⟩
theorem tw6145738845079860474:True:=⟨⟩
theorem tw4686012296073029718:True:=⟨⟩
theorem tw14993527402723605113:True:=⟨⟩
theorem tw3823972915994982458:True:=⟨⟩
theorem tw8987035148830794013:True:=⟨⟩
theorem tw13568357185252193909:True:=⟨⟩
theorem tw10040376642569263974:True:=⟨⟩
theorem tw4391502881730015559:True:=⟨⟩
theorem tw15976350565345066822:True:=⟨⟩
theorem tw14614355306608840145:True:=⟨⟩
theorem tw12738469143860460770:True:=⟨⟩
theorem tw3179591672594736175:True:=⟨⟩
theorem tw1939006735457902562:True:=⟨⟩
theorem tw9038569095481337903:True:=⟨⟩
theorem tw79897390247170396:True:=⟨⟩
theorem tw7095333937785340235:True:=⟨⟩
theorem tw12747488969065957391:True:=⟨⟩
theorem tw10804446827516405041:True:=⟨⟩
theorem tw15858152854328639991:True:=⟨⟩
theorem tw7358706710460164000:True:=⟨⟩
theorem tw11794786665151332474:True:=⟨⟩
theorem tw13719648886200218645:True:=⟨⟩
theorem tw4527702136322081439:True:=⟨⟩
theorem tw7138652947597749886:True:=⟨⟩
theorem tw3508341511191340142:True:=⟨⟩
theorem tw5090828720968548957:True:=⟨⟩
theorem tw4792392787085588998:True:=⟨⟩
theorem tw13764612222808028777:True:=⟨⟩
theorem tw16940551905238223472:True:=⟨⟩
theorem tw18266350733030403178:True:=⟨⟩
theorem tw15365656580351262808:True:=⟨⟩
theorem tw2386630546191210816:True:=⟨⟩
theorem tw15029946229272581160:True:=⟨⟩
theorem tw1776660181834688399:True:=⟨⟩
theorem tw823683473488579351:True:=⟨⟩
theorem tw8014063291438210892:True:=⟨⟩
theorem tw17414846683495225737:True:=⟨⟩
theorem tw4934207946279615977:True:=⟨⟩
theorem tw17589756664278858094:True:=⟨⟩
theorem tw17987969260372016133:True:=⟨⟩
theorem tw17015118290480543496:True:=⟨⟩
theorem tw6031205907626818960:True:=⟨⟩
theorem tw13571717438017266348:True:=⟨⟩
theorem tw8174836337895012921:True:=⟨⟩
theorem tw7295152227237037815:True:=⟨⟩
theorem tw6093691159306027866:True:=⟨⟩
theorem tw190951551419946710:True:=⟨⟩
theorem tw6701373523410011621:True:=⟨⟩
theorem tw8376715968524316838:True:=⟨⟩
theorem tw876965271790459765:True:=⟨⟩
theorem tw16005967559025617929:True:=⟨⟩
theorem tw14333274762398448928:True:=⟨⟩
theorem tw10855768888395428561:True:=⟨⟩
theorem tw11794145862110940251:True:=⟨⟩
theorem tw17659040404961766926:True:=⟨⟩
theorem tw10208392191275951756:True:=⟨⟩
theorem tw12268823174515871935:True:=⟨⟩
theorem tw6883241625787165195:True:=⟨⟩
theorem tw2579572681588225016:True:=⟨⟩
theorem tw17762069199416646859:True:=⟨⟩
theorem tw15894885183062091492:True:=⟨⟩
theorem tw12363489130967466352:True:=⟨⟩
theorem tw12119504671290309652:True:=⟨⟩
theorem tw11386497715564147916:True:=⟨⟩
theorem tw6234715565808729047:True:=⟨⟩
theorem tw3013160532055583646:True:=⟨⟩
theorem tw16916194456944683262:True:=⟨⟩
theorem tw12805925225173401326:True:=⟨⟩
theorem tw11220064119880684674:True:=⟨⟩
theorem tw9891187369174350544:True:=⟨⟩
theorem tw9731369260403189742:True:=⟨⟩
theorem tw5473521220283848317:True:=⟨⟩
theorem tw4494219966344614931:True:=⟨⟩
theorem tw16973816962618414042:True:=⟨⟩
theorem tw1637305406869634168:True:=⟨⟩
theorem tw15171186262815180153:True:=⟨⟩
theorem tw12468146351336001010:True:=⟨⟩
theorem tw6610340278967567038:True:=⟨⟩
theorem tw2346888097634071036:True:=⟨⟩
theorem tw13201969908765775931:True:=⟨⟩
theorem tw7825968873753898522:True:=⟨⟩
theorem tw17404855651528028632:True:=⟨⟩
theorem tw17290510113992331016:True:=⟨⟩
theorem tw10358931936327638786:True:=⟨⟩
theorem tw2218089947759684520:True:=⟨⟩
theorem tw6521712919734808370:True:=⟨⟩
theorem tw17115872981133324660:True:=⟨⟩
theorem tw16017122077700543654:True:=⟨⟩
theorem tw14323655314193664046:True:=⟨⟩
theorem tw14197130952389824198:True:=⟨⟩
theorem tw839123136043667591:True:=⟨⟩
theorem tw4772973197011565895:True:=⟨⟩
theorem tw421482130579666563:True:=⟨⟩
theorem tw16241015767655206929:True:=⟨⟩
theorem tw15258542316524745095:True:=⟨⟩
theorem tw14225281629643471680:True:=⟨⟩
theorem tw13807793268541722259:True:=⟨⟩
theorem tw13445542166138672821:True:=⟨⟩
theorem tw11946206633503353835:True:=⟨⟩
theorem tw11897481310299443912:True:=⟨⟩
theorem tw10987780214717045871:True:=⟨⟩
theorem tw10217600105880008240:True:=⟨⟩
theorem tw8151536370558441340:True:=⟨⟩
theorem tw6171727652557697566:True:=⟨⟩
theorem tw9151806452157988565:True:=⟨⟩
theorem tw8038424338728360381:True:=⟨⟩
theorem tw5687181961022459275:True:=⟨⟩
theorem tw2694308790912322727:True:=⟨⟩
theorem tw2245909102777557845:True:=⟨⟩
theorem tw17013033508417477823:True:=⟨⟩
theorem tw16639337211602478667:True:=⟨⟩
theorem tw16377005345922515063:True:=⟨⟩
theorem tw12688204280821905364:True:=⟨⟩
theorem tw11937630362004334080:True:=⟨⟩
theorem tw7763480566799783237:True:=⟨⟩
theorem tw7002541420412924006:True:=⟨⟩
theorem tw6806579450958230753:True:=⟨⟩
theorem tw3581048615469734672:True:=⟨⟩
theorem tw18073334425670840913:True:=⟨⟩
theorem tw17404096922792244241:True:=⟨⟩
theorem tw16942999687492560420:True:=⟨⟩
theorem tw12270202201740289232:True:=⟨⟩
theorem tw10237723932547817713:True:=⟨⟩
theorem tw12163724997615677224:True:=⟨⟩
theorem tw7403368952688198426:True:=⟨⟩
theorem tw2358570186139657148:True:=⟨⟩
theorem tw12110869125339070765:True:=⟨⟩
theorem tw4659875742284329242:True:=⟨⟩
theorem tw404318783897470135:True:=⟨⟩
theorem tw17093309039161221259:True:=⟨⟩
theorem tw16831968638989816651:True:=⟨⟩
theorem tw11217668826899812037:True:=⟨⟩
theorem tw9976512172001859629:True:=⟨⟩
theorem tw8352094175719201821:True:=⟨⟩
theorem tw6870028599213723662:True:=⟨⟩
theorem tw5742602886629793514:True:=⟨⟩
theorem tw2266250819942000220:True:=⟨⟩
theorem tw2204729340301091638:True:=⟨⟩
theorem tw15953448372511093208:True:=⟨⟩
theorem tw14173049844379968477:True:=⟨⟩
theorem tw1038209329231848384:True:=⟨⟩
theorem tw2558549617783132448:True:=⟨⟩
theorem tw17020953248725299002:True:=⟨⟩
theorem tw16154828504829125191:True:=⟨⟩
theorem tw15621185628030736566:True:=⟨⟩
theorem tw7466972371116618272:True:=⟨⟩
theorem tw11947432273436831308:True:=⟨⟩
theorem tw10293152116296182742:True:=⟨⟩
theorem tw9604528854644153611:True:=⟨⟩
theorem tw9571855213070099439:True:=⟨⟩
theorem tw9267641351348876498:True:=⟨⟩
theorem tw916724459479148093:True:=⟨⟩
theorem tw8892135355559301629:True:=⟨⟩
theorem tw8874493677130771300:True:=⟨⟩
theorem tw8856161127958356991:True:=⟨⟩
theorem tw8776298031394219670:True:=⟨⟩
theorem tw8775774709745651871:True:=⟨⟩
theorem tw8760306092505809093:True:=⟨⟩
theorem tw8739257339729183432:True:=⟨⟩
theorem tw8587983297877687542:True:=⟨⟩
theorem tw8535345125564464544:True:=⟨⟩
theorem tw8374757768367558627:True:=⟨⟩
theorem tw8361491131784332207:True:=⟨⟩
theorem tw8320644425328839894:True:=⟨⟩
theorem tw8313688936383919819:True:=⟨⟩
theorem tw8250172073410530917:True:=⟨⟩
theorem tw8120288123574572472:True:=⟨⟩
theorem tw8119786430243066487:True:=⟨⟩
theorem tw8067325948776028915:True:=⟨⟩
theorem tw7920367661384523765:True:=⟨⟩
theorem tw7742969898819828682:True:=⟨⟩
theorem tw77351039257754692:True:=⟨⟩
theorem tw7673009893030726379:True:=⟨⟩
theorem tw7628710972938808693:True:=⟨⟩
theorem tw7514272608107305829:True:=⟨⟩
theorem tw7211984557446696428:True:=⟨⟩
theorem tw7118724613727164631:True:=⟨⟩
theorem tw7053576950591380455:True:=⟨⟩
theorem tw6870558922760524902:True:=⟨⟩
theorem tw6863863506707720153:True:=⟨⟩
theorem tw6857471767738154408:True:=⟨⟩
theorem tw6790559076683421877:True:=⟨⟩
theorem tw675139908452609528:True:=⟨⟩
theorem tw6575877618286246575:True:=⟨⟩
theorem tw6545927900012280092:True:=⟨⟩
theorem tw6541977770251863005:True:=⟨⟩
theorem tw6533444049675782329:True:=⟨⟩
theorem tw6529382841868248595:True:=⟨⟩
theorem tw6417767357922145610:True:=⟨⟩
theorem tw6332083959375213616:True:=⟨⟩
theorem tw6262677501224613472:True:=⟨⟩
theorem tw6197345516231484239:True:=⟨⟩
theorem tw6179031669566394607:True:=⟨⟩
theorem tw5989626069585480690:True:=⟨⟩
theorem tw5774956636690033411:True:=⟨⟩
theorem tw5768620027275109550:True:=⟨⟩
theorem tw5741119735316170310:True:=⟨⟩
theorem tw5711414926542394163:True:=⟨⟩
theorem tw5671093632573254249:True:=⟨⟩
theorem tw5409227690161909138:True:=⟨⟩
theorem tw5112589462958732851:True:=⟨⟩
theorem tw5091633759048222148:True:=⟨⟩
theorem tw5066722560206760504:True:=⟨⟩
theorem tw4564105969100365666:True:=⟨⟩
theorem tw4251233460521296503:True:=⟨⟩
theorem tw4223027210145281128:True:=⟨⟩
theorem tw4003806804708969152:True:=⟨⟩
theorem tw3926522608669530557:True:=⟨⟩
theorem tw3891149303934228496:True:=⟨⟩
theorem tw3792458072720879187:True:=⟨⟩
theorem tw3748222308082061218:True:=⟨⟩
theorem tw3688217373944404055:True:=⟨⟩
theorem tw341866017315322769:True:=⟨⟩
theorem tw3329616821548386244:True:=⟨⟩
theorem tw323199257506463854:True:=⟨⟩
theorem tw3109855138677989561:True:=⟨⟩
theorem tw2843769171387728930:True:=⟨⟩
theorem tw280417116104600653:True:=⟨⟩
theorem tw279101262350462143:True:=⟨⟩
theorem tw2786718367686458906:True:=⟨⟩
theorem tw2654367539461509693:True:=⟨⟩
theorem tw2106711696294695266:True:=⟨⟩
theorem tw2084436337197060653:True:=⟨⟩
theorem tw18439825051124049720:True:=⟨⟩
theorem tw1820066290520462378:True:=⟨⟩
theorem tw18134318543882688498:True:=⟨⟩
theorem tw18044060151775580009:True:=⟨⟩
theorem tw17939218111076878252:True:=⟨⟩
theorem tw17727006596826858052:True:=⟨⟩
theorem tw17614816099365285432:True:=⟨⟩
theorem tw17321940173431741574:True:=⟨⟩
theorem tw17315536396801253070:True:=⟨⟩
theorem tw17277305610955382316:True:=⟨⟩
theorem tw17167308221351612763:True:=⟨⟩
theorem tw17069357658957330498:True:=⟨⟩
theorem tw16957621055788521226:True:=⟨⟩
theorem tw16853720309842813297:True:=⟨⟩
theorem tw16759864480447812437:True:=⟨⟩
theorem tw16723703095595375401:True:=⟨⟩
theorem tw16722621454114102689:True:=⟨⟩
theorem tw16627662457110548963:True:=⟨⟩
theorem tw16581946307042731517:True:=⟨⟩
theorem tw16450460140646533283:True:=⟨⟩
theorem tw16436935283678871456:True:=⟨⟩
theorem tw16431951684227622550:True:=⟨⟩
theorem tw161512242914452049:True:=⟨⟩
theorem tw16145546713647836323:True:=⟨⟩
theorem tw16111475237698898237:True:=⟨⟩
theorem tw16077400461027945624:True:=⟨⟩
theorem tw16040148351549317617:True:=⟨⟩
theorem tw15978905853055555087:True:=⟨⟩
theorem tw15938010233311116129:True:=⟨⟩
theorem tw15794581300789953784:True:=⟨⟩
theorem tw15741721146562227994:True:=⟨⟩
theorem tw15662160206698403005:True:=⟨⟩
theorem tw15187177438986770388:True:=⟨⟩
theorem tw15148774842514415622:True:=⟨⟩
theorem tw15058114162518328049:True:=⟨⟩
theorem tw15047315438733981882:True:=⟨⟩
theorem tw1501338773464952250:True:=⟨⟩
theorem tw14920729013019370323:True:=⟨⟩
theorem tw14910597781379194635:True:=⟨⟩
theorem tw14896761456204867799:True:=⟨⟩
theorem tw14836408146979962673:True:=⟨⟩
theorem tw14632167494040140070:True:=⟨⟩
theorem tw14602092533035051193:True:=⟨⟩
theorem tw14574919174281790817:True:=⟨⟩
theorem tw14364827435150687737:True:=⟨⟩
theorem tw14165625056780668932:True:=⟨⟩
theorem tw14140915432108411154:True:=⟨⟩
theorem tw14060945403952107067:True:=⟨⟩
theorem tw14030566419076128290:True:=⟨⟩
theorem tw13955019790897000845:True:=⟨⟩
theorem tw13892768103070198158:True:=⟨⟩
theorem tw13460807041047122963:True:=⟨⟩
theorem tw13455375848409926966:True:=⟨⟩
theorem tw13437218530380672586:True:=⟨⟩
theorem tw13204958313492820008:True:=⟨⟩
theorem tw13019391321713100861:True:=⟨⟩
theorem tw12969567738194633156:True:=⟨⟩
theorem tw12957747374156631317:True:=⟨⟩
theorem tw12898747034961294206:True:=⟨⟩
theorem tw12872282058036765174:True:=⟨⟩
theorem tw12859033977712587336:True:=⟨⟩
theorem tw12692128274608946821:True:=⟨⟩
theorem tw12544032275083210319:True:=⟨⟩
theorem tw12535906240235740005:True:=⟨⟩
theorem tw12412315632564555603:True:=⟨⟩
theorem tw12247054270328179665:True:=⟨⟩
theorem tw12200050729485664684:True:=⟨⟩
theorem tw12193950451669999267:True:=⟨⟩
theorem tw12051707455325600845:True:=⟨⟩
theorem tw11999570941563993413:True:=⟨⟩
theorem tw11948199479475647176:True:=⟨⟩
theorem tw11925577462166451232:True:=⟨⟩
theorem tw11844367339188341206:True:=⟨⟩
theorem tw11773037278327074534:True:=⟨⟩
theorem tw11687083743411456715:True:=⟨⟩
theorem tw11677180803504527682:True:=⟨⟩
theorem tw11653619509174191632:True:=⟨⟩
theorem tw11632163909908551899:True:=⟨⟩
theorem tw11517221866030346541:True:=⟨⟩
theorem tw11458527552221133983:True:=⟨⟩
theorem tw11416790339021338612:True:=⟨⟩
theorem tw11232206907653730079:True:=⟨⟩
theorem tw11196016870253352935:True:=⟨⟩
theorem tw11170515594558154588:True:=⟨⟩
theorem tw11128673195279125386:True:=⟨⟩
theorem tw11085829762486360740:True:=⟨⟩
theorem tw10876161839042300641:True:=⟨⟩
theorem tw10855012952063388531:True:=⟨⟩
theorem tw1084712752057611385:True:=⟨⟩
theorem tw10664413711617887663:True:=⟨⟩
theorem tw1065617732301736556:True:=⟨⟩
theorem tw10599991549715852934:True:=⟨⟩
theorem tw10272256908850654729:True:=⟨⟩
theorem tw10227589726317159004:True:=⟨⟩
theorem tw10133182352241901277:True:=⟨⟩
end PySem.W.Fast
open PySem PySem.W PyProof.Rows
set_option maxRecDepth 100000 in
set_option maxHeartbeats 0 in
theorem PySem.Challenge.cw_thinbook_k63_readings_put_holds : PySem.Challenge.rw_thinbook_k63_readings_put.Holds := by
 w_on;o_law;k_head;(case hw=>w_witness2)
 k_fill
 refine TB.walk (l:=PySem.Challenge.rw_thinbook_k63_readings_put) rfl rfl rfl (λw h Y=>PySem.W.kIn_of Y) ?F
 case F =>
  intro w mg h KX G;refine' TB.qxz KX G ?aCRoll ?aCRule ?aCBook ?a0 ?l0 ?c0 ?k0 ?a1 ?l1 ?c1 ?k1 ?a2 ?l2 ?c2 ?k2 ?a3 ?l3 ?c3 ?k3 ?a4 ?l4 ?c4 ?k4 ?a5 ?l5 ?c5 ?k5 ?a6 ?l6 ?c6 ?k6 ?a7 ?l7 ?c7 ?k7 ?a8 ?l8 ?c8 ?k8 ?a9 ?l9 ?c9 ?k9 ?a10 ?l10 ?c10 ?k10 ?a11 ?i11 ?l11 ?c11 ?k11 ?a12 ?i12 ?l12 ?c12 ?k12 ?d12 ?a13 ?i13 ?l13 ?c13 ?k13 ?a14 ?i14 ?l14 ?c14 ?k14 ?a15 ?i15 ?l15 ?c15 ?k15 ?a16 ?i16 ?l16 ?c16 ?k16 ?a17 ?i17 ?l17 ?c17 ?k17 ?a18 ?i18 ?l18 ?c18 ?k18 ?a19 ?i19 ?l19 ?c19 ?k19 ?a20 ?i20 ?l20 ?c20 ?k20 ?a21 ?l21 ?c21 ?k21 ?a22 ?l22 ?c22 ?k22 ?a23 ?l23 ?c23 ?k23 ?a24 ?l24 ?c24 ?k24 ?a25 ?l25 ?c25 ?k25 ?a26 ?l26 ?c26 ?k26 ?a27 ?i27 ?l27 ?c27 ?k27 ?d27 ?a28 ?i28 ?l28 ?c28 ?k28 ?a29 ?i29 ?l29 ?c29 ?k29 ?a30 ?l30 ?c30 ?k30 ?a31 ?l31 ?c31 ?k31 ?a32 ?l32 ?c32 ?k32 ?a33 ?l33 ?c33 ?k33 ?a34 ?l34 ?c34 ?k34 ?a35 ?l35 ?c35 ?k35 ?a36 ?i36 ?l36 ?c36 ?k36 ?a37 ?i37 ?l37 ?c37 ?k37 ?d37 ?a38 ?i38 ?l38 ?c38 ?k38 ?a39 ?i39 ?l39 ?c39 ?k39 ?a40 ?i40 ?l40 ?c40 ?k40 ?d40 ?a41 ?i41 ?l41 ?c41 ?k41 ?a42 ?i42 ?l42 ?c42 ?k42 ?a43 ?i43 ?l43 ?c43 ?k43 ?a44 ?i44 ?l44 ?c44 ?k44 ?a45 ?i45 ?l45 ?c45 ?k45 ?a46 ?l46 ?c46 ?k46 ?a47 ?l47 ?c47 ?k47 ?a48 ?l48 ?c48 ?k48 ?a49 ?l49 ?c49 ?k49 ?a50 ?l50 ?c50 ?k50 ?a51 ?l51 ?c51 ?k51 ?a52 ?l52 ?c52 ?k52 ?a53 ?l53 ?c53 ?k53 ?a54 ?l54 ?c54 ?k54 ?a55 ?l55 ?c55 ?k55 ?a56 ?l56 ?c56 ?k56 ?a57 ?l57 ?c57 ?k57 ?a58 ?l58 ?c58 ?k58 ?pgRoll ?hdRoll ?poRoll ?saRoll ?mkRoll ?kcRoll ?nRoll_kept_rule ?nRoll_kept_day ?nRoll_kept_edges ?nRoll_whole_ones ?nRoll_cell_heaps ?pgRule ?hdRule ?poRule ?saRule ?mkRule ?kcRule ?nRule_kept_steps ?nRule_gone_age ?pgBook ?hdBook ?poBook ?saBook ?mkBook ?kcBook ?nBook_kept_rule ?nBook_kept_day ?nBook_kept_edges ?nBook_kept_marks ?nBook_kept_rolls ?xCBookError ?xCNoNumber ?xCNoRule ?xCBackward ?xCNoName ?xCNoMark ?xEBookError ?xKBookError0 ?xKBookError1 ?xKBookError2 ?xKBookError3 ?xKBookError4 ?xKBookError5 ?xHBookError_BookError ?xIBookError_BookError ?xIBookError_NoNumber ?xIBookError_NoRule ?xIBookError_Backward ?xIBookError_NoName ?xIBookError_NoMark ?xVBookError ?xENoNumber ?xKNoNumber0 ?xKNoNumber1 ?xKNoNumber2 ?xKNoNumber3 ?xKNoNumber4 ?xKNoNumber5 ?xHNoNumber_BookError ?xINoNumber_BookError ?xHNoNumber_NoNumber ?xINoNumber_NoNumber ?xINoNumber_NoRule ?xINoNumber_Backward ?xINoNumber_NoName ?xINoNumber_NoMark ?xVNoNumber ?xENoRule ?xKNoRule0 ?xKNoRule1 ?xKNoRule2 ?xKNoRule3 ?xKNoRule4 ?xKNoRule5 ?xHNoRule_BookError ?xINoRule_BookError ?xINoRule_NoNumber ?xHNoRule_NoRule ?xINoRule_NoRule ?xINoRule_Backward ?xINoRule_NoName ?xINoRule_NoMark ?xVNoRule ?xKBackward0 ?xKBackward1 ?xKBackward2 ?xKBackward3 ?xKBackward4 ?xKBackward5 ?xHBackward_BookError ?xIBackward_BookError ?xIBackward_NoNumber ?xIBackward_NoRule ?xHBackward_Backward ?xIBackward_Backward ?xIBackward_NoName ?xIBackward_NoMark ?xVBackward ?xENoName ?xKNoName0 ?xKNoName1 ?xKNoName2 ?xKNoName3 ?xKNoName4 ?xKNoName5 ?xHNoName_BookError ?xINoName_BookError ?xINoName_NoNumber ?xINoName_NoRule ?xINoName_Backward ?xHNoName_NoName ?xINoName_NoName ?xINoName_NoMark ?xVNoName ?xENoMark ?xKNoMark0 ?xKNoMark1 ?xKNoMark2 ?xKNoMark3 ?xKNoMark4 ?xKNoMark5 ?xHNoMark_BookError ?xINoMark_BookError ?xINoMark_NoNumber ?xINoMark_NoRule ?xINoMark_Backward ?xINoMark_NoName ?xHNoMark_NoMark ?xINoMark_NoMark ?xVNoMark ?z_all ?z_bool ?z_int ?z_isinstance ?z_len ?z_list ?z_max ?z_min ?z_range ?z_set ?z_sorted ?z_str ?z_sum ?z_tuple ?z_zip ?y_MOST_STEPS ?y_LETTERS ?y_LONGEST_NAME ?y_LONGEST_MARK ?y_MOST_MARKS
  (case aCRoll|aCRule|aCBook|a0|l0|c0|k0|a1|l1|c1|k1|a2|l2|c2|k2|a3|l3|c3|k3|a4|l4|c4|k4|a5|l5|c5|k5|a6|l6|c6|k6|a7|l7|c7|k7|a8|l8|c8|k8|a9|l9|c9|k9|a10|l10|c10|k10|a11|i11|l11|c11|k11|a12|i12|l12|c12|k12|d12|a13|i13|l13|c13|k13|a14|i14|l14|c14|k14|a15|i15|l15|c15|k15|a16|i16|l16|c16|k16|a17|i17|l17|c17|k17|a18|i18|l18|c18|k18|a19|i19|l19|c19|k19|a20|i20|l20|c20|k20|a21|l21|c21|k21|a22|l22|c22|k22|a23|l23|c23|k23|a24|l24|c24|k24|a25|l25|c25|k25|a26|l26|c26|k26|a27|i27|l27|c27|k27|d27|a28|i28|l28|c28|k28|a29|i29|l29|c29|k29|a30|l30|c30|k30|a31|l31|c31|k31|a32|l32|c32|k32|a33|l33|c33|k33|a34|l34|c34|k34|a35|l35|c35|k35|a36|i36|l36|c36|k36|a37|i37|l37|c37|k37|d37|a38|i38|l38|c38|k38|a39|i39|l39|c39|k39|a40|i40|l40|c40|k40|d40|a41|i41|l41|c41|k41|a42|i42|l42|c42|k42|a43|i43|l43|c43|k43|a44|i44|l44|c44|k44|a45|i45|l45|c45|k45|a46|l46|c46|k46|a47|l47|c47|k47|a48|l48|c48|k48|a49|l49|c49|k49|a50|l50|c50|k50|a51|l51|c51|k51|a52|l52|c52|k52|a53|l53|c53|k53|a54|l54|c54|k54|a55|l55|c55|k55|a56|l56|c56|k56|a57|l57|c57|k57|a58|l58|c58|k58|pgRoll|hdRoll|poRoll|saRoll|mkRoll|kcRoll|nRoll_kept_rule|nRoll_kept_day|nRoll_kept_edges|nRoll_whole_ones|nRoll_cell_heaps|pgRule|hdRule|poRule|saRule|mkRule|kcRule|nRule_kept_steps|nRule_gone_age|pgBook|hdBook|poBook|saBook|mkBook|kcBook|nBook_kept_rule|nBook_kept_day|nBook_kept_edges|nBook_kept_marks|nBook_kept_rolls|xCBookError|xCNoNumber|xCNoRule|xCBackward|xCNoName|xCNoMark|xKBookError0|xKBookError1|xKBookError2|xKBookError3|xKBookError4|xHBookError_BookError|xKNoNumber0|xKNoNumber1|xKNoNumber2|xKNoNumber3|xKNoNumber4|xHNoNumber_BookError|xHNoNumber_NoNumber|xKNoRule0|xKNoRule1|xKNoRule2|xKNoRule3|xKNoRule4|xHNoRule_BookError|xHNoRule_NoRule|xKBackward0|xKBackward1|xKBackward2|xKBackward3|xKBackward4|xHBackward_BookError|xHBackward_Backward|xKNoName0|xKNoName1|xKNoName2|xKNoName3|xKNoName4|xHNoName_BookError|xHNoName_NoName|xKNoMark0|xKNoMark1|xKNoMark2|xKNoMark3|xKNoMark4|xHNoMark_BookError|xHNoMark_NoMark|z_all|z_bool|z_int|z_isinstance|z_len|z_list|z_max|z_min|z_range|z_set|z_sorted|z_str|z_sum|z_tuple|z_zip|y_MOST_STEPS|y_LETTERS|y_LONGEST_NAME|y_LONGEST_MARK|y_MOST_MARKS=>k_is)
  (case xEBookError|xENoNumber|xENoRule|xENoName|xENoMark=>k_exc)
  (case xKBookError5|xKNoNumber5|xKNoRule5|xKBackward5|xKNoName5|xKNoMark5=>kts_isx)
  (case xIBookError_BookError|xIBookError_NoNumber|xIBookError_NoRule|xIBookError_Backward|xIBookError_NoName|xIBookError_NoMark|xVBookError|xINoNumber_BookError|xINoNumber_NoNumber|xINoNumber_NoRule|xINoNumber_Backward|xINoNumber_NoName|xINoNumber_NoMark|xVNoNumber|xINoRule_BookError|xINoRule_NoNumber|xINoRule_NoRule|xINoRule_Backward|xINoRule_NoName|xINoRule_NoMark|xVNoRule|xIBackward_BookError|xIBackward_NoNumber|xIBackward_NoRule|xIBackward_Backward|xIBackward_NoName|xIBackward_NoMark|xVBackward|xINoName_BookError|xINoName_NoNumber|xINoName_NoRule|xINoName_Backward|xINoName_NoName|xINoName_NoMark|xVNoName|xINoMark_BookError|xINoMark_NoNumber|xINoMark_NoRule|xINoMark_Backward|xINoMark_NoName|xINoMark_NoMark|xVNoMark=>kit_is)
