import PyProof.Rows.All
import Wide.All
import OpenK.AllK
import Wide.FinOn
import Lean
import PyProof.EqAt
import PyProof.EqKinds
import PyProof.TupleCall
import PySem.Challenge.RW_thinbook_k37_whole_any_deeds
set_option Elab.async false
set_option linter.all false
set_option maxRecDepth 100000
open PySem.W (Frag nsIn fnOf codeIn keepIn mg_of)
namespace L2
open PySem PySem.Spec PyProof.Rows
abbrev Key := Sum Int Str
def keyIs : Key -> Value -> Bool
 | .inl k, v => Value.isInt k v
 | .inr x, v => Value.isStrOf x v
def keyH (w : World) : Key -> Int
 | .inl k => hashInt k
 | .inr x => hashStr w x
theorem qbm : ∀ {k : Key} {v : Value}, keyIs k v = true -> (∃ i t, k = Sum.inl i /\ v = Value.int i t) \/ (∃ x t, k = Sum.inr x /\ v = Value.str x t)
 | .inl i, v, h => by
  obtain ⟨t, e⟩ := Value.isInt_shape (k := i) (v := v) h
  exact .inl ⟨i, t, rfl, e⟩
 | .inr x, v, h => by
  obtain ⟨t, e⟩ := Value.isStrOf_shape (x := x) (v := v) h
  exact .inr ⟨x, t, rfl, e⟩
theorem keyIs_int (i : Int) (t : Tok) : keyIs (.inl i) (.int i t) = true := by simp [keyIs, Value.isInt]
theorem keyIs_str (x : Str) (t : Tok) : keyIs (.inr x) (.str x t) = true := by simp [keyIs, Value.isStrOf]
theorem key_ll (a b : Int) : decide ((Sum.inl a : Key) = Sum.inl b) = (a == b) := by
 by_cases e : a = b
 ·subst e; simp
 ·have h : ¬ (Sum.inl a : Key) = Sum.inl b := fun q => e (Sum.inl.inj q)
  rw [decide_eq_false h]
  exact (beq_eq_false_iff_ne.mpr e).symm
theorem key_rr (a b : Str) : decide ((Sum.inr a : Key) = Sum.inr b) = decide (a = b) := by
 by_cases e : a = b
 ·subst e; simp
 ·have h : ¬ (Sum.inr a : Key) = Sum.inr b := fun q => e (Sum.inr.inj q)
  rw [decide_eq_false h, decide_eq_false e]
theorem key_lr (a : Int) (b : Str) : decide ((Sum.inl a : Key) = Sum.inr b) = false := decide_eq_false (fun q => nomatch q)
theorem key_rl (a : Str) (b : Int) : decide ((Sum.inr a : Key) = Sum.inl b) = false := decide_eq_false (fun q => nomatch q)
def qbq (prog : Program) (w : World) : PySem.KeyKind prog w Key where
 is := keyIs
 hash := keyH w
 inj := fun v a b ha hb => by
  rcases qbm ha with ⟨i, t, rfl, rfl⟩ | ⟨x, t, rfl, rfl⟩
  ·rcases qbm hb with ⟨j, u, rfl, e⟩ | ⟨y, u, rfl, e⟩
   ·injection e with e1 _; rw [e1]
   ·exact nomatch e
  ·rcases qbm hb with ⟨j, u, rfl, e⟩ | ⟨y, u, rfl, e⟩
   ·exact nomatch e
   ·injection e with e1 _; rw [e1]
 byValue := fun k v h => by
  rcases qbm h with ⟨i, t, rfl, rfl⟩ | ⟨x, t, rfl, rfl⟩ <;> rfl
 pyHash := fun hv h => by
  rcases qbm hv with ⟨i, t, rfl, rfl⟩ | ⟨x, t, rfl, rfl⟩
  ·exact wpAny_pyHash_int h
  ·exact wpAny_pyHash_str h
 eqBool := fun hu hv h => by
  rcases qbm hu with ⟨i, t, rfl, rfl⟩ | ⟨x, t, rfl, rfl⟩
  ·rcases qbm hv with ⟨j, u, rfl, rfl⟩ | ⟨y, u, rfl, rfl⟩
   ·rw [key_ll] at h; exact wpAny_eqBool_int h
   ·rw [key_lr] at h; exact SeqAt.EqAt.int_str i t y u _ _ _ _ h
  ·rcases qbm hv with ⟨j, u, rfl, rfl⟩ | ⟨y, u, rfl, rfl⟩
   ·rw [key_rl] at h; exact SeqAt.EqAt.str_int x t j u _ _ _ _ h
   ·rw [key_rr] at h; exact wpAny_eqBool_str h
 «strs» := fun k x t v h => by
  rcases qbm h with ⟨i, u, rfl, e⟩ | ⟨y, u, rfl, e⟩
  ·exact nomatch e
  ·injection e with e1 _
   subst e1
   cases v <;> rfl
theorem mixKind_int (prog : Program) (w : World) (i : Int) (t : Tok) : (qbq prog w).is (.inl i) (.int i t) = true := keyIs_int i t
theorem mixKind_str (prog : Program) (w : World) (x : Str) (t : Tok) : (qbq prog w).is (.inr x) (.str x t) = true := keyIs_str x t
end L2
namespace L2
open PySem PySem.Spec PyProof.Rows
inductive V where
 | non | bl (b : Bool) | int (i : Int) | str (x : Str) | byt (b : Array UInt8) | flt (b : UInt64) | ref (a : Addr) | ty (n : String)
 deriving DecidableEq
def RelV : V -> Value -> Prop
 | .non, u => u = Value.none
 | .bl b, u => u = Value.bool b
 | .int i, u => ∃ t, u = Value.int i t
 | .str x, u => ∃ t, u = Value.str x t
 | .byt b, u => ∃ t, u = Value.bytes b t
 | .flt b, u => ∃ t, u = Value.float b t
 | .ref a, u => u = Value.ref a
 | .ty n, u => u = Value.type n
abbrev Vals : List V -> List Value -> Prop := Paired RelV
theorem Vals.length {xs : List V} {us : List Value} (r : Vals xs us) : xs.length = us.length := Paired.length r
theorem Vals.get : ∀ {xs : List V} {us : List Value} {i : Nat} {x : V}, Vals xs us -> xs[i]? = some x -> ∃ u, us[i]? = some u /\ RelV x u
 | _, _, _, _, .nil, e => by simp at e
 | _, _, 0, _, .cons r _, e => by simp at e; subst e; exact ⟨_, rfl, r⟩
 | _, _, i + 1, x, .cons _ t, e => by
  obtain ⟨u, h1, h2⟩ := Vals.get (i := i) (x := x) t (by simpa using e)
  exact ⟨u, by simpa using h1, h2⟩
theorem Vals.set {x : V} {u : Value} (r : RelV x u) : ∀ {xs : List V} {us : List Value} (i : Nat), Vals xs us -> Vals (xs.set i x) (us.set i u)
 | _, _, _, .nil => .nil
 | _, _, 0, .cons _ t => .cons r t
 | _, _, i + 1, .cons q t => .cons q (Vals.set r i t)
theorem Vals.append : ∀ {xs ys : List V} {us ws : List Value}, Vals xs us -> Vals ys ws -> Vals (xs ++ ys) (us ++ ws)
 | _, _, _, _, .nil, s => s
 | _, _, _, _, .cons r t, s => .cons r (Vals.append t s)
theorem Vals.take : ∀ {xs : List V} {us : List Value} (n : Nat), Vals xs us -> Vals (xs.take n) (us.take n)
 | _, _, 0, _ => .nil
 | _, _, _ + 1, .nil => .nil
 | _, _, n + 1, .cons r t => .cons r (Vals.take n t)
theorem Vals.drop : ∀ {xs : List V} {us : List Value} (n : Nat), Vals xs us -> Vals (xs.drop n) (us.drop n)
 | _, _, 0, r => r
 | _, _, _ + 1, .nil => .nil
 | _, _, n + 1, .cons _ t => Vals.drop n t
def RelO : Option V -> Option Value -> Prop
 | some v, some u => RelV v u
 | none, none => True
 | _, _ => False
def KV {κ : Type} : List (κ × V) -> List (κ × Value) -> Prop := Paired fun (p : κ × V) (q : κ × Value) => p.1 = q.1 /\ RelV p.2 q.2
def kV : Key -> V
 | .inl i => .int i
 | .inr x => .str x
inductive HO where
 | lst (xs : List V)
 | tup (xs : List V)
 | dK (kvs : List (Key × V)) | dT (kvs : List (List Key × V))
 | set (S : Int -> Bool) (n : Nat)
 | ins (C dx : Addr) (fs : List (Str × V))
 | own (x : Addr)
 | xd (fs : List (Str × V))
 | met (f x : Addr)
 | rng (lo hi : Int)
 | frz (o : Obj) (u : HO)
 | tbl (ps : Array Value)
 | ext (φ : Heap -> Prop)
abbrev Hp := Addr -> Option HO
def upd (H : Hp) (a : Addr) (o : HO) : Hp := fun b => if b = a then some o else H b
theorem qa8 {H : Hp} {a : Addr} {o : HO} : upd H a o a = some o := by unfold upd; rw [if_pos rfl]
theorem qau {H : Hp} {a b : Addr} {o : HO} (h : b ≠ a) : upd H a o b = H b := by unfold upd; rw [if_neg h]
theorem qbk {H : Hp} {a b : Addr} {o u : HO} (h : H a = some o) (h' : H b = some u) (d : o ≠ u) : a ≠ b := by
 intro e; subst e; rw [h] at h'; exact d (Option.some.inj h')
theorem qag {H : Hp} {a b : Addr} {o : HO} (h : H a = some o) (h' : H b = none) : a ≠ b := by
 intro e; subst e; rw [h] at h'; cases h'
section
variable (P : Program) (w : World)
def ObjOk (H : Hp) (h : Heap) (a : Addr) : HO -> Prop
 | .lst xs => xs.length <= sizeLine /\ ∃ (its : List Value) (n : Nat), Vals xs its /\ h.get? a = some { cls := .type "list", data := .seq its.toArray n }
 | .tup xs => xs.length <= sizeLine /\ ∃ its : List Value, Vals xs its /\ IsTup h a its.toArray
 | .dK kvs => kvs.length <= sizeLine /\ (a == sysModules) = false /\ ∃ vs, KV kvs vs /\ h.DictOf (qbq P w) a vs
 | .dT kvs => kvs.length <= sizeLine /\ (a == sysModules) = false /\ ∃ xs : List (List Key × Addr × Value),
   Paired (fun (p : List Key × V) (q : List Key × Addr × Value) => p.1 = q.1 /\ H q.2.1 = some (.tup (p.1.map kV)) /\ RelV p.2 q.2.2) kvs xs /\
   ∃ o es ep, h.get? a = some o /\ o.ExactDict /\ o.data = .dict es ep /\ es.toList = xs.map (entryOfKey (tupleKind (qbq P w))) /\ (xs.map (·.1)).Nodup
 | .set S n => h.SetOf (intKind P w) a S n
 | .ins C dx fs => H dx = some (.own a) /\ fs.length <= 1000 /\ dx ≠ a /\ h.get? a = some (PySem.W.instObj C dx) /\
   ∃ mA, h.Ns1 dx mA /\ (∀ f, RelO (fs.lookup f) (mA f)) /\ PySem.Within mA (fs.map (·.1))
 | .own _ => ∃ o, h.get? a = some o
 | .xd fs => ∃ mA, h.Ns1 a mA /\ ∀ f, RelO (fs.lookup f) (mA f)
 | .rng lo hi => ∃ t u v, h.get? a = some { cls := .type "range", data := .fields #[.int lo t, .int hi u, .int 1 v] }
 | .frz o u => h.get? a = some o /\ ObjOk H h a u
 | .tbl ps => h.get? a = some { cls := .none, data := .fields ps }
 | .met f x => h.get? a = some (PySem.W.methodObj (.ref f) (.ref x))
 | .ext φ => φ h /\ (∃ o, h.get? a = some o) /\ ∀ h1 h2 : Heap, φ h1 -> (∀ o, h1.get? a = some o -> h2.get? a = some o) -> φ h2
def HOk (H : Hp) (h : Heap) : Prop := ∀ a o, H a = some o -> ObjOk P w H h a o
end
section
variable {P : Program} {w : World} {H H' : Hp} {h h' : Heap} {a : Addr} {o : HO}
theorem ObjOk.lt (x : ObjOk P w H h a o) : a < h.objs.size := by
 cases o with
 | lst xs => obtain ⟨_, _, _, _, e⟩ := x; exact Heap.lt_size e
 | tup xs => obtain ⟨_, _, _, p⟩ := x; exact p.lt
 | dK kvs => obtain ⟨_, _, _, _, o, _, _, e, _⟩ := x; exact Heap.lt_size e
 | dT kvs => obtain ⟨_, _, _, _, o, _, _, e, _⟩ := x; exact Heap.lt_size e
 | set S n => obtain ⟨o, _, _, _, e, _⟩ := x; exact Heap.lt_size e
 | ins C dx fs => obtain ⟨_, _, _, e, _⟩ := x; exact Heap.lt_size e
 | own y => obtain ⟨_, e⟩ := x; exact Heap.lt_size e
 | xd fs => obtain ⟨_, ⟨_, _, _, e, _⟩, _⟩ := x; exact Heap.lt_size e
 | rng lo hi => obtain ⟨_, _, _, e⟩ := x; exact Heap.lt_size e
 | frz ob u => obtain ⟨e, _⟩ := x; exact Heap.lt_size e
 | tbl ps => exact Heap.lt_size (show h.get? a = some _ from x)
 | met f y => exact Heap.lt_size (show h.get? a = some _ from x)
 | ext φ => obtain ⟨_, ⟨_, e⟩, _⟩ := x; exact Heap.lt_size e
theorem Paired.mapP {α β : Type} {F G : α -> β -> Prop} : ∀ {l₁ : List α} {l₂ : List β}, Paired F l₁ l₂ -> (∀ a b, F a b -> G a b) -> Paired G l₁ l₂
 | _, _, .nil, _ => .nil
 | _, _, .cons r t, f => .cons (f _ _ r) (Paired.mapP t f)
theorem ObjOk.stay (x : ObjOk P w H h a o) (k : ∀ b u, (b = a \/ H b = some (.own a)) -> h.get? b = some u -> h'.get? b = some u)
  (ho : ∀ b, H b = some (.own a) -> H' b = some (.own a)) (ht : ∀ b xs, H b = some (.tup xs) -> H' b = some (.tup xs)) : ObjOk P w H' h' a o := by
 induction o with
 | lst xs => obtain ⟨z, its, n, r, e⟩ := x; exact ⟨z, its, n, r, k _ _ (.inl rfl) e⟩
 | tup xs => obtain ⟨z, its, r, ob, e, c⟩ := x; exact ⟨z, its, r, ob, k _ _ (.inl rfl) e, c⟩
 | dK kvs => obtain ⟨z, y, vs, r, ob, es, ep, e, c⟩ := x; exact ⟨z, y, vs, r, ob, es, ep, k _ _ (.inl rfl) e, c⟩
 | dT kvs =>
  obtain ⟨z, y, xs, r, ob, es, ep, e, c⟩ := x
  exact ⟨z, y, xs, Paired.mapP r fun p q z => ⟨z.1, ht _ _ z.2.1, z.2.2⟩, ob, es, ep, k _ _ (.inl rfl) e, c⟩
 | set S n => obtain ⟨ob, es, ep, t, e, c⟩ := x; exact ⟨ob, es, ep, t, k _ _ (.inl rfl) e, c⟩
 | ins C dx fs =>
  obtain ⟨d, z, ne, e, mA, ⟨od, es, ep, e2, c⟩, r⟩ := x
  exact ⟨ho _ d, z, ne, k _ _ (.inl rfl) e, mA, ⟨od, es, ep, k _ _ (.inr d) e2, c⟩, r⟩
 | own y => obtain ⟨ob, e⟩ := x; exact ⟨ob, k _ _ (.inl rfl) e⟩
 | xd fs => obtain ⟨mA, ⟨od, es, ep, e, c⟩, r⟩ := x; exact ⟨mA, ⟨od, es, ep, k _ _ (.inl rfl) e, c⟩, r⟩
 | rng lo hi => obtain ⟨t, u, v, e⟩ := x; exact ⟨t, u, v, k _ _ (.inl rfl) e⟩
 | frz ob u ih => obtain ⟨e, q⟩ := x; exact ⟨k _ _ (.inl rfl) e, ih q⟩
 | tbl ps =>
  have e : h.get? a = some { cls := .none, data := .fields ps } := x
  show h'.get? a = some { cls := .none, data := .fields ps }
  exact k a _ (.inl rfl) e
 | met f y =>
  have e : h.get? a = some (PySem.W.methodObj (.ref f) (.ref y)) := x
  show h'.get? a = some (PySem.W.methodObj (.ref f) (.ref y))
  exact k a _ (.inl rfl) e
 | ext φ => obtain ⟨p, ⟨o, e⟩, st⟩ := x; exact ⟨st _ _ p fun o q => k _ _ (.inl rfl) q, ⟨o, k _ _ (.inl rfl) e⟩, st⟩
theorem HOk.lt (x : HOk P w H h) (e : H a = some o) : a < h.objs.size := (x a o e).lt
theorem HOk.fresh (x : HOk P w H h) (e : h.objs.size <= a) : H a = none := by
 cases q : H a with
 | none => rfl
 | some u => exact absurd (Nat.lt_of_lt_of_le (x.lt q) e) (Nat.lt_irrefl _)
theorem HOk.kept (x : HOk P w H h) (k : ∀ b u, h.get? b = some u -> h'.get? b = some u) : HOk P w H h' := fun a o e =>
 (x a o e).stay (fun b u _ q => k b u q) (fun _ q => q) fun _ _ q => q
theorem HOk.laid (x : HOk P w H h) (k : ∀ b u, h.get? b = some u -> h'.get? b = some u) (hp : h.objs.size <= a) (new : ObjOk P w (upd H a o) h' a o) : HOk P w (upd H a o) h' := fun b u e => by
 have hn := x.fresh hp
 by_cases hb : b = a
 ·subst hb; rw [qa8] at e; cases e; exact new
 ·rw [qau hb] at e
  exact (x b u e).stay (fun c v _ q => k c v q) (fun c q => by rw [qau (qag q hn)]; exact q) fun c xs q => by rw [qau (qag q hn)]; exact q
end
def Rd (H : Hp) (a : Addr) (u : HO) : Prop := H a = some u \/ ∃ o, H a = some (.frz o u)
theorem Rd.ok {P : Program} {w : World} {H : Hp} {h : Heap} {a : Addr} {u : HO} (r : Rd H a u) (x : HOk P w H h) : ObjOk P w H h a u := by
 rcases r with r | ⟨o, r⟩
 ·exact x a u r
 ·obtain ⟨_, q⟩ := x a _ r
  exact q
def Mut : Option HO -> Prop
 | some (.lst _) => True
 | some (.dK _) => True
 | some (.dT _) => True
 | some (.set _ _) => True
 | some (.ins _ _ _) => True
 | some (.ext _) => True
 | _ => False
section
variable {P : Program} {w : World} {H : Hp} {h h' : Heap} {x e : Addr} {o' : HO}
theorem HOk.write (ok : HOk P w H h) (mu : Mut (H x)) (he : e = x \/ H e = some (.own x)) (k : ∀ b u, b ≠ e -> h.get? b = some u -> h'.get? b = some u) (heo : ∃ u, h'.get? e = some u)
  (new : ObjOk P w (upd H x o') h' x o') : HOk P w (upd H x o') h' := fun b u q => by
 have nown : ∀ c y, H c = some (.own y) -> c ≠ x := fun c y r z => by subst z; rw [r] at mu; exact mu
 have ntup : ∀ c xs, H c = some (.tup xs) -> c ≠ x := fun c xs r z => by subst z; rw [r] at mu; exact mu
 by_cases hb : b = x
 ·subst hb; rw [qa8] at q; cases q; exact new
 ·rw [qau hb] at q
  by_cases hbe : b = e
  ·have q' : H b = some (.own x) := by
    rcases he with z | z
    ·exact absurd (hbe.trans z) hb
    ·rw [hbe]; exact z
   rw [q] at q'; cases q'
   obtain ⟨v, hv⟩ := heo
   exact ⟨v, by rw [hbe]; exact hv⟩
  ·refine (ok b u q).stay (fun c v hc r => k c v ?_ r) (fun c r => by rw [qau (nown c b r)]; exact r) fun c xs r => by rw [qau (ntup c xs r)]; exact r
   rcases hc with rfl | hc
   ·exact hbe
   ·rintro rfl
    rcases he with z | z
    ·exact nown c b hc z
    ·rw [hc] at z; cases z; exact hb rfl
end
structure Un (fs ex : List Addr) (H H' : Hp) (h h' : Heap) : Prop where
 keep : ∀ b o, h.get? b = some o -> H b = none -> b ∉ fs -> b ∉ ex -> h'.get? b = some o
 slot : ∀ b o, h.get? b = some o -> H b = none -> b ∈ fs -> b ∉ ex -> ∃ sl, h'.get? b = some { o with slots := sl }
 free : ∀ b o, h.get? b = some o -> H b = none -> b ∉ ex -> H' b = none
 there : ∀ b o, h.get? b = some o -> b ∉ ex -> ∃ o', h'.get? b = some o'
 tups : ∀ b xs, H b = some (.tup xs) -> H' b = some (.tup xs)
 frzs : ∀ b o u, H b = some (.frz o u) -> H' b = some (.frz o u)
 tbls : ∀ b ps, H b = some (.tbl ps) -> ∃ more, H' b = some (.tbl (ps ++ more))
section
variable {fs fs' ex ex' : List Addr} {H H1 H2 : Hp} {h h1 h2 h' : Heap} {a x e : Addr} {o : HO}
theorem Un.any (u : Un fs ex H H1 h h1) {b : Addr} {ob : Obj} (q : h.get? b = some ob) (n : H b = none) (hx : b ∉ ex) : ∃ sl, h1.get? b = some { ob with slots := sl } := by
 by_cases hb : b ∈ fs
 ·exact u.slot b ob q n hb hx
 ·exact ⟨ob.slots, u.keep b ob q n hb hx⟩
theorem Un.kept (k : ∀ b u, h.get? b = some u -> h'.get? b = some u) : Un fs ex H H h h' :=
 ⟨fun b ob q _ _ _ => k b ob q, fun b ob q _ _ _ => ⟨ob.slots, k b ob q⟩, fun _ _ _ n _ => n, fun b ob q _ => ⟨ob, k b ob q⟩, fun _ _ q => q, fun _ _ _ q => q, fun _ ps q => ⟨#[], by rw [q]; simp⟩⟩
theorem Un.refl : Un fs ex H H h h := Un.kept fun _ _ q => q
theorem Un.laid (k : ∀ b u, h.get? b = some u -> h'.get? b = some u) (hp : h.objs.size <= a) (hn : H a = none) : Un fs ex H (upd H a o) h h' where
 keep := fun b u q _ _ _ => k b u q
 slot := fun b u q _ _ _ => ⟨u.slots, k b u q⟩
 free := fun b u q n _ => by rw [qau (Nat.ne_of_lt (Nat.lt_of_lt_of_le (Heap.lt_size q) hp))]; exact n
 there := fun b u q _ => ⟨u, k b u q⟩
 tups := fun b xs q => by rw [qau (qag q hn)]; exact q
 frzs := fun b u xs q => by rw [qau (qag q hn)]; exact q
 tbls := fun b ps q => ⟨#[], by rw [qau (qag q hn), q]; simp⟩
theorem Un.write (mu : Mut (H x)) (he : e = x \/ H e = some (.own x)) (k : ∀ b u, b ≠ e -> h.get? b = some u -> h'.get? b = some u) (heo : ∃ u, h'.get? e = some u) : Un fs ex H (upd H x o) h h' := by
 have hx : ∀ b, H b = none -> b ≠ x := fun b n z => by subst z; rw [n] at mu; exact mu
 have hb : ∀ b, H b = none -> b ≠ e := fun b n z => by
  subst z
  rcases he with r | r
  ·exact hx b n r
  ·rw [n] at r; cases r
 have hm : ∀ b u, H b = some u -> ¬ Mut (some u) -> b ≠ x := fun b u q nm z => by subst z; rw [q] at mu; exact nm mu
 refine ⟨fun b u q n _ _ => k b u (hb b n) q, fun b u q n _ _ => ⟨u.slots, k b u (hb b n) q⟩, fun b u q n _ => by rw [qau (hx b n)]; exact n, fun b u q _ => ?_,
  fun b xs q => by rw [qau (hm b _ q fun z => z)]; exact q, fun b u xs q => by rw [qau (hm b _ q fun z => z)]; exact q, fun b ps q => ⟨#[], by rw [qau (hm b _ q fun z => z), q]; simp⟩⟩
 by_cases hbe : b = e
 ·subst hbe; exact heo
 ·exact ⟨u, k b u hbe q⟩
end
def trk (h : Heap) (H : Hp) : List Addr := (List.range h.objs.size).filter fun a => (H a).isSome
def hidT (h : Heap) (H : Hp) : Heap := PySem.W.hideAll h (trk h H)
theorem hidT_size (h : Heap) (H : Hp) : (hidT h H).objs.size = h.objs.size := PySem.W.hideAll_size _ _
theorem hidT_get {h : Heap} {H : Hp} {b : Addr} {o : Obj} (e : h.get? b = some o) (n : H b = none) : (hidT h H).get? b = some o :=
 PySem.W.hideAll_get _ e fun hm => by
  have q : (H b).isSome = true := (List.mem_filter.mp hm).2
  rw [n] at q; simp at q
theorem of_hidT {h : Heap} {H : Hp} {b : Addr} {o : Obj} (e : (hidT h H).get? b = some o) : h.get? b = some o /\ H b = none := by
 have e' : h.get? b = some o := PySem.W.of_hideAll (trk h H) e
 refine ⟨e', ?_⟩
 cases q : H b with
 | none => rfl
 | some x =>
  have hm : b ∈ trk h H := List.mem_filter.mpr ⟨List.mem_range.mpr (Heap.lt_size e'), by simp [q]⟩
  have z : (hidT h H).get? b = none := PySem.W.hideAll_none (trk h H) hm
  rw [z] at e; cases e
def allNews (g h : Heap) (L : Addr) : List (Addr × Obj) := (List.range h.objs.size).filterMap fun a => if a = L \/ (g.get? a).isSome = true then none else (h.get? a).map fun o => (a, o)
def rest (g h : Heap) (L d : Addr) : List (Addr × Obj) := (allNews g h L).filter fun p => decide (p.1 ≠ d)
end L2
namespace L2
open PySem PySem.Spec PyProof.Rows
structure Mod (K : Frag) (mg : Str -> Option Value) (base : Heap) : Prop where
 kin : K.In base
 glob : base.Ns mainGlobals mg
 blt : ∃ mb, base.Ns builtinsNs mb /\ ∀ x : Str, x ≠ "__name__" -> mb x = bootBuiltins x
 nolimit : base.NoLimit
structure Cx where
 prog : Program
 w : World
 K : Frag
 mg : Str -> Option Value
 base : Heap
 A : Around
 N : List Str
 s₀ : Shared
 H₀ : Hp
 env : Env
 outer : List Env
 stack : List Env
 ex : List Addr
 fn : Str -> Bool
 calm : Bool
 pn : List (Addr × Obj)
 xe : Value -> Shared -> Prop
def frs (l : List Env) : List Addr := l.filterMap (·.frame)
abbrev Cx.fs (X : Cx) : List Addr := frs X.outer
def Vis (sc : Scope) (x : Str) : Prop := sc.names.lookup x = some .local \/ sc.names.lookup x = some .cell \/ sc.names.lookup x = some .free
def Loc (sc : Scope) (x : Str) : Prop := sc.names.lookup x = some .local \/ sc.names.lookup x = some .cell
def Look (env : Env) (h : Heap) (m : Str -> Option Value) (x : Str) (u : Value) : Prop :=
 (env.kindOf x = some .local /\ m x = some u) \/ ((env.kindOf x = some .cell \/ env.kindOf x = some .free) /\ ∃ c, env.cells.lookup x = some c /\ h.IsCell c (some u))
structure Cx.Ok (X : Cx) : Prop where
 mod : Mod X.K X.mg X.base
 kind : X.env.scope.kind = .function
 glob : X.env.globals = mainGlobals
 blt : X.env.builtins = builtinsNs
 above : X.s₀.heap.objs.size <= X.env.locals
 inj : ∀ x y c, X.env.cells.lookup x = some c -> X.env.cells.lookup y = some c -> x = y
 has : ∀ x, (X.env.kindOf x = some .cell \/ X.env.kindOf x = some .free) -> ∃ c, X.env.cells.lookup x = some c
 cab : ∀ x c, X.fn x = true -> X.env.cells.lookup x = some c -> X.s₀.heap.objs.size <= c
 hd : X.calm = true -> X.A.handled = none
 frames : X.A.frames = some X.stack
 stk : X.stack = X.outer \/ (X.stack = X.env :: X.outer /\ X.env.frame = some X.env.locals)
 exf : ∀ b ∈ X.ex, b ≠ X.env.locals /\ ∀ x c, X.env.cells.lookup x = some c -> c ≠ b
 bs : ∀ b o, X.base.get? b = some o -> X.s₀.heap.get? b = some o /\ X.H₀ b = none
 bsz : X.base.objs.size <= X.s₀.heap.objs.size
 noex : ∀ b o, X.base.get? b = some o -> b ∉ X.ex
 exfs : ∀ b ∈ X.ex, b ∉ X.fs
 funs : X.s₀.heap.FunFrames X.base X.outer
 frf : ∀ b ∈ X.fs, X.H₀ b = none
structure Inv (X : Cx) (pins : List (Addr × Obj)) (σ : List (Option V)) (H : Hp) (s : Shared) : Prop where
 ok : X.Ok
 os : s.os = X.s₀.os
 bare : AllBare s.gens
 base : Un X.fs X.ex X.H₀ H X.s₀.heap s.heap
 loc : ∃ m, s.heap.Ns X.env.locals m /\ ∀ (i : Nat) (x : Str) (v : V), X.N[i]? = some x -> σ[i]? = some (some v) -> Vis X.env.scope x -> ∃ u, RelV v u /\ Look X.env s.heap m x u
 cell : ∀ x c, X.env.cells.lookup x = some c -> ∃ v, s.heap.IsCell c v
 free : H X.env.locals = none
 freeC : ∀ x c, X.env.cells.lookup x = some c -> H c = none
 pin : ∀ p ∈ X.pn ++ pins, s.heap.get? p.1 = some p.2 /\ H p.1 = none /\ p.1 ≠ X.env.locals /\ p.1 ∉ X.fs /\ ∀ v, p.2.data ≠ .cell v
 hok : HOk X.prog X.w H s.heap
 len : σ.length = X.N.length
section
variable {X : Cx} {pins : List (Addr × Obj)} {σ : List (Option V)} {H H' : Hp} {s : Shared} {h' : Heap}
theorem Cx.Ok.nofr (ok : X.Ok) {b : Addr} {o : Obj} (e : X.base.get? b = some o) : b ∉ X.fs := fun hb => by
 have := (ok.funs.mem hb).1
 rw [e] at this; cases this
theorem Inv.bs (I : Inv X pins σ H s) : ∀ b o, X.base.get? b = some o -> s.heap.get? b = some o /\ H b = none := fun b o e =>
 ⟨I.base.keep b o (I.ok.bs b o e).1 (I.ok.bs b o e).2 (I.ok.nofr e) (I.ok.noex b o e), I.base.free b o (I.ok.bs b o e).1 (I.ok.bs b o e).2 (I.ok.noex b o e)⟩
theorem Inv.bk (I : Inv X pins σ H s) : ∀ b o, X.base.get? b = some o -> s.heap.get? b = some o := fun b o e => (I.bs b o e).1
theorem Inv.mod (I : Inv X pins σ H s) : Mod X.K X.mg X.base := I.ok.mod
theorem Inv.kIn (I : Inv X pins σ H s) : X.K.In s.heap := I.ok.mod.kin.keeps I.bk
theorem Inv.lt (I : Inv X pins σ H s) : X.env.locals < s.heap.objs.size := let ⟨_, hn, _⟩ := I.loc; hn.lt
theorem Inv.sz (I : Inv X pins σ H s) : X.s₀.heap.objs.size <= s.heap.objs.size := Nat.le_trans I.ok.above (Nat.le_of_lt I.lt)
theorem Inv.nofs (I : Inv X pins σ H s) {a : Addr} (h : s.heap.objs.size <= a) : a ∉ X.fs := fun hb => by
 obtain ⟨_, o, ho, _⟩ := I.ok.funs.mem hb
 exact absurd (Nat.lt_of_lt_of_le (Heap.lt_size ho) (Nat.le_trans I.sz h)) (Nat.lt_irrefl _)
theorem Inv.cne (I : Inv X pins σ H s) : ∀ x c, X.env.cells.lookup x = some c -> c ≠ X.env.locals := fun x c e z => by
 obtain ⟨v, o, ho, hd⟩ := I.cell x c e
 obtain ⟨m, ⟨o', es, ep, ho', hd', _⟩, _⟩ := I.loc
 rw [z, ho'] at ho; cases ho; rw [hd'] at hd; cases hd
theorem Inv.funs (I : Inv X pins σ H s) : s.heap.FunFrames X.base X.outer := by
 have all : ∀ (l : List Env), (∀ b ∈ frs l, b ∈ X.fs) -> X.s₀.heap.FunFrames X.base l -> s.heap.FunFrames X.base l := by
  intro l
  induction l with
  | nil => intro _ _; trivial
  | cons env r ih =>
   intro hs hl
   obtain ⟨hk, ⟨L, o, hf, hn, ho, hd⟩, hr⟩ := hl
   have hL : L ∈ X.fs := hs L (by unfold frs; rw [List.filterMap_cons, hf]; exact List.mem_cons_self)
   obtain ⟨sl, e⟩ := I.base.slot L o ho (I.ok.frf L hL) hL fun z => I.ok.exfs L z hL
   exact ⟨hk, ⟨L, _, hf, hn, e, hd⟩, ih (fun b hb => hs b (by unfold frs; rw [List.filterMap_cons, hf]; exact List.mem_cons_of_mem _ hb)) hr⟩
 exact all X.outer (fun _ hb => hb) I.ok.funs
theorem Inv.stack (I : Inv X pins σ H s) : s.heap.FunFrames X.base X.stack := by
 rcases I.ok.stk with e | ⟨e, hf⟩
 ·rw [e]; exact I.funs
 ·rw [e]
  obtain ⟨m, hn, _⟩ := I.loc
  refine .cons (by rw [I.ok.kind]; decide) hf hn ?_ I.funs
  exact Heap.get?_none_of_le (Nat.le_trans I.ok.bsz I.ok.above)
theorem Inv.stkSub (I : Inv X pins σ H s) : ∀ b ∈ frs X.stack, b ∈ X.env.locals :: X.fs := fun b hb => by
 rcases I.ok.stk with e | ⟨e, hf⟩
 ·rw [e] at hb; exact List.mem_cons_of_mem _ hb
 ·rw [e] at hb
  unfold frs at hb
  rw [List.filterMap_cons, hf] at hb
  exact hb
theorem Inv.stkFree (I : Inv X pins σ H s) : ∀ b ∈ frs X.stack, H b = none := fun b hb => by
 rcases List.mem_cons.mp (I.stkSub b hb) with e | hb
 ·rw [e]; exact I.free
 ·obtain ⟨_, o, ho, _⟩ := I.ok.funs.mem hb
  exact I.base.free b o ho (I.ok.frf b hb) fun z => I.ok.exfs b z hb
theorem Inv.step {g' : Array GenState} {t' : Nat} {d' : Drawn} {ch : List Addr} (I : Inv X pins σ H s)
  (hch : ∀ b ∈ ch, (b ∈ X.ex \/ X.s₀.heap.objs.size <= b) /\ b ≠ X.env.locals /\ (∀ x c, X.env.cells.lookup x = some c -> c ≠ b) /\ ∀ p ∈ X.pn ++ pins, p.1 ≠ b)
  (keep : ∀ b o, b ≠ X.env.locals -> b ∉ X.fs -> b ∉ ch -> s.heap.get? b = some o -> H b = none -> h'.get? b = some o)
  (slot : ∀ b o, b ≠ X.env.locals -> b ∈ X.fs -> b ∉ ch -> s.heap.get? b = some o -> H b = none -> ∃ sl, h'.get? b = some { o with slots := sl }) (free : ∀ b o, b ∉ ch -> s.heap.get? b = some o -> H b = none -> H' b = none)
  (there : ∀ b o, b ∉ ch -> s.heap.get? b = some o -> ∃ o', h'.get? b = some o')
  (tups : ∀ b xs, H b = some (.tup xs) -> H' b = some (.tup xs)) (frzs : ∀ b o u, H b = some (.frz o u) -> H' b = some (.frz o u)) (tbls : ∀ b ps, H b = some (.tbl ps) -> ∃ more, H' b = some (.tbl (ps ++ more)))
  (ns : ∀ m, s.heap.Ns X.env.locals m -> h'.Ns X.env.locals m) (hok : HOk X.prog X.w H' h') (hg : AllBare g') :
  Inv X pins σ H' { s with heap := h', gens := g', drawn := d', toks := t' } := by
 have neL : ∀ b o, X.s₀.heap.get? b = some o -> b ≠ X.env.locals := fun b o e => Nat.ne_of_lt (Nat.lt_of_lt_of_le (Heap.lt_size e) I.ok.above)
 have neC : ∀ b o, X.s₀.heap.get? b = some o -> b ∉ X.ex -> b ∉ ch := fun b o e hx hb => by
  rcases (hch b hb).1 with z | z
  ·exact hx z
  ·exact absurd (Nat.lt_of_lt_of_le (Heap.lt_size e) z) (Nat.lt_irrefl _)
 have cellK : ∀ x c, X.env.cells.lookup x = some c -> ∀ v, s.heap.IsCell c v -> h'.IsCell c v := fun x c e v ⟨o, ho, hd⟩ => by
  have nch : c ∉ ch := fun z => (hch c z).2.2.1 x c e rfl
  by_cases hc : c ∈ X.fs
  ·obtain ⟨sl, q⟩ := slot c o (I.cne x c e) hc nch ho (I.freeC x c e)
   exact ⟨_, q, hd⟩
  ·exact ⟨o, keep c o (I.cne x c e) hc nch ho (I.freeC x c e), hd⟩
 refine ⟨I.ok, I.os, hg, ⟨fun b o e n hb hx => ?_, fun b o e n hb hx => ?_, fun b o e n hx => ?_, fun b o e hx => ?_, fun b xs e => tups b xs (I.base.tups b xs e), fun b o xs e => frzs b o xs (I.base.frzs b o xs e), fun b ps e => ?_⟩, ?_, fun x c e => ?_, ?_, fun x c e => ?_, fun p hp => ?_, hok, I.len⟩
 ·exact keep b o (neL b o e) hb (neC b o e hx) (I.base.keep b o e n hb hx) (I.base.free b o e n hx)
 ·obtain ⟨sl, e1⟩ := I.base.slot b o e n hb hx
  obtain ⟨sl', e2⟩ := slot b _ (neL b o e) hb (neC b o e hx) e1 (I.base.free b o e n hx)
  exact ⟨sl', e2⟩
 ·obtain ⟨o', e1⟩ := I.base.there b o e hx
  exact free b o' (neC b o e hx) e1 (I.base.free b o e n hx)
 ·obtain ⟨o', e1⟩ := I.base.there b o e hx
  exact there b o' (neC b o e hx) e1
 ·obtain ⟨m1, e1⟩ := I.base.tbls b ps e
  obtain ⟨m2, e2⟩ := tbls b _ e1
  exact ⟨m1 ++ m2, by rw [e2, Array.append_assoc]⟩
 ·obtain ⟨m, hn, hl⟩ := I.loc
  refine ⟨m, ns m hn, fun i x v e1 e2 e3 => ?_⟩
  obtain ⟨u, r, l⟩ := hl i x v e1 e2 e3
  refine ⟨u, r, ?_⟩
  rcases l with l | ⟨k, c, e, z⟩
  ·exact .inl l
  ·exact .inr ⟨k, c, e, cellK x c e _ z⟩
 ·obtain ⟨v, z⟩ := I.cell x c e
  exact ⟨v, cellK x c e v z⟩
 ·obtain ⟨m, ⟨o, _, _, ho, _⟩, _⟩ := I.loc
  exact free _ o (fun z => (hch _ z).2.1 rfl) ho I.free
 ·obtain ⟨v, o, ho, hd⟩ := I.cell x c e
  exact free c o (fun z => (hch c z).2.2.1 x c e rfl) ho (I.freeC x c e)
 ·obtain ⟨e, n, ne, nf, d⟩ := I.pin p hp
  have nch : p.1 ∉ ch := fun z => (hch p.1 z).2.2.2 p hp rfl
  exact ⟨keep p.1 p.2 ne nf nch e n, free p.1 p.2 nch e n, ne, nf, d⟩
theorem Inv.un {t' : Nat} (I : Inv X pins σ H s) (u : Un X.fs [] H H' s.heap h') (hok : HOk X.prog X.w H' h') : Inv X pins σ H' { s with heap := h', toks := t' } := by
 obtain ⟨m, ⟨o, es, ep, ho, r⟩, _⟩ := id I.loc
 obtain ⟨sl, hL⟩ := u.any ho I.free (by simp)
 exact I.step (g' := s.gens) (d' := s.drawn) (ch := []) (fun _ z => nomatch z) (fun b o _ hb _ e n => u.keep b o e n hb (by simp)) (fun b o _ hb _ e n => u.slot b o e n hb (by simp)) (fun b o _ e n => u.free b o e n (by simp)) (fun b o _ e => u.there b o e (by simp)) u.tups u.frzs u.tbls (fun m' hm => by
  obtain ⟨o', es', ep', ho', r'⟩ := hm
  rw [ho] at ho'; cases ho'
  exact ⟨_, es', ep', hL, r'⟩) hok I.bare
theorem Inv.call {g' : Array GenState} {t' : Nat} {d' : Drawn} {ch : List Addr} (I : Inv X pins σ H s) (u : Un (frs X.stack) ch H H' s.heap h') (hok : HOk X.prog X.w H' h') (hg : AllBare g')
  (hch : ∀ b ∈ ch, (b ∈ X.ex \/ X.s₀.heap.objs.size <= b) /\ b ≠ X.env.locals /\ (∀ x c, X.env.cells.lookup x = some c -> c ≠ b) /\ ∀ p ∈ X.pn ++ pins, p.1 ≠ b) :
  Inv X pins σ H' { s with heap := h', gens := g', drawn := d', toks := t' } := by
 obtain ⟨m, ⟨o, es, ep, ho, r⟩, _⟩ := id I.loc
 obtain ⟨sl, hL⟩ := u.any ho I.free fun z => (hch _ z).2.1 rfl
 exact I.step (ch := ch) hch (fun b o hL hb hc e n => u.keep b o e n (fun z => (List.mem_cons.mp (I.stkSub b z)).elim hL hb) hc) (fun b o _ _ hc e n => u.any e n hc) (fun b o hc e n => u.free b o e n hc) (fun b o hc e => u.there b o e hc) u.tups u.frzs u.tbls (fun m' hm => by
  obtain ⟨o', es', ep', ho', r'⟩ := hm
  rw [ho] at ho'; cases ho'
  exact ⟨_, es', ep', hL, r'⟩) hok hg
theorem Inv.turned {t' : Nat} {it : Addr} (I : Inv X pins σ H s) (k : ∀ b o, b ≠ it -> s.heap.get? b = some o -> h'.get? b = some o) (hn : H it = none) (hL : it ≠ X.env.locals)
  (h1 : it ∈ X.ex \/ X.s₀.heap.objs.size <= it) (h2 : ∀ x c, X.env.cells.lookup x = some c -> c ≠ it) (h3 : ∀ p ∈ X.pn ++ pins, p.1 ≠ it) : Inv X pins σ H { s with heap := h', toks := t' } := by
 have nit : ∀ b u, H b = some u -> b ≠ it := fun b u e z => by rw [z, hn] at e; cases e
 refine I.step (g' := s.gens) (d' := s.drawn) (ch := [it]) (fun b hb => ?_) (fun b o _ _ hc e _ => k b o (fun z => hc (by simp [z])) e) (fun b o _ _ hc e _ => ⟨o.slots, k b o (fun z => hc (by simp [z])) e⟩) (fun _ _ _ _ n => n)
  (fun b o hc e => ⟨o, k b o (fun z => hc (by simp [z])) e⟩) (fun _ _ e => e) (fun _ _ _ e => e) (fun b ps e => ⟨#[], by rw [e]; simp⟩) (fun m hm => ?_) (fun b u e => ?_) I.bare
 ·have e : b = it := by simpa using hb
  subst e
  exact ⟨h1, hL, h2, h3⟩
 ·obtain ⟨o, es, ep, ho, r⟩ := hm
  exact ⟨o, es, ep, k _ o (Ne.symm hL) ho, r⟩
 ·refine (I.hok b u e).stay (fun c v hc q => k c v ?_ q) (fun _ q => q) fun _ _ q => q
  rcases hc with z | z
  ·rw [z]; exact nit b u e
  ·exact nit c _ z
theorem Inv.tok (I : Inv X pins σ H s) (t : Nat) : Inv X pins σ H { s with toks := t } := I.un (h' := s.heap) (t' := t) Un.refl I.hok
theorem Inv.kept {t' : Nat} (I : Inv X pins σ H s) (k : ∀ b u, s.heap.get? b = some u -> h'.get? b = some u) : Inv X pins σ H { s with heap := h', toks := t' } := I.un (Un.kept k) (I.hok.kept k)
theorem Inv.laid {a : Addr} {o : HO} {t' : Nat} (I : Inv X pins σ H s) (k : ∀ b u, s.heap.get? b = some u -> h'.get? b = some u) (hp : s.heap.objs.size <= a) (new : ObjOk X.prog X.w (upd H a o) h' a o) :
  Inv X pins σ (upd H a o) { s with heap := h', toks := t' } := I.un (Un.laid k hp (I.hok.fresh hp)) (I.hok.laid k hp new)
theorem Inv.write {x e : Addr} {o : HO} {t' : Nat} (I : Inv X pins σ H s) (mu : Mut (H x)) (he : e = x \/ H e = some (.own x)) (k : ∀ b u, b ≠ e -> s.heap.get? b = some u -> h'.get? b = some u) (heo : ∃ u, h'.get? e = some u)
  (new : ObjOk X.prog X.w (upd H x o) h' x o) : Inv X pins σ (upd H x o) { s with heap := h', toks := t' } := I.un (Un.write mu he k heo) (I.hok.write mu he k heo new)
theorem Inv.weak {σ' : List (Option V)} (I : Inv X pins σ H s) (hl : σ'.length = σ.length) (w : ∀ (i : Nat) v, σ'[i]? = some (some v) -> σ[i]? = some (some v)) : Inv X pins σ' H s :=
 ⟨I.ok, I.os, I.bare, I.base, let ⟨m, hn, hl'⟩ := I.loc; ⟨m, hn, fun i x v e1 e2 e3 => hl' i x v e1 (w i v e2) e3⟩, I.cell, I.free, I.freeC, I.pin, I.hok, hl.trans I.len⟩
theorem Inv.pins_of {pins' : List (Addr × Obj)} (I : Inv X pins σ H s) (h : ∀ p ∈ pins', s.heap.get? p.1 = some p.2 /\ H p.1 = none /\ p.1 ≠ X.env.locals /\ p.1 ∉ X.fs /\ ∀ v, p.2.data ≠ .cell v) : Inv X pins' σ H s :=
 ⟨I.ok, I.os, I.bare, I.base, I.loc, I.cell, I.free, I.freeC, fun p hp => (List.mem_append.mp hp).elim (fun z => I.pin p (List.mem_append_left _ z)) (h p), I.hok, I.len⟩
theorem nodup_ix {N : List Str} (hN : N.Nodup) {i j : Nat} {x : Str} (a : N[i]? = some x) (b : N[j]? = some x) : i = j := by
 obtain ⟨h1, e1⟩ := List.getElem?_eq_some_iff.mp a
 obtain ⟨h2, e2⟩ := List.getElem?_eq_some_iff.mp b
 exact (List.getElem_inj hN).mp (e1.trans e2.symm)
theorem store_ok2 {M : Model} {A : Around} {E : Value -> Shared -> Prop} {i : Nat} {x : Str} {v : V} {u : Value} {Q : Unit -> Shared -> Prop} (I : Inv X pins σ H s) (hN : X.N.Nodup) (hi : X.N[i]? = some x) (hx : Loc X.env.scope x) (r : RelV v u)
  (h : ∀ s', Inv X pins (σ.set i (some v)) H s' -> (∃ a, Heap.SameBut a s.heap s'.heap /\ (a = X.env.locals \/ X.env.cells.lookup x = some a)) -> Q () s') (hf : X.fn x = true \/ X.env.scope.names.lookup x = some .local := by first | exact .inl rfl | exact .inr rfl | assumption) : wpAny M A (storeName X.env x u) Q E s := by
 obtain ⟨m, hn, hl⟩ := id I.loc
 have hcls : (X.env.scope.kind == .class || (X.env.scope.kind == .module && X.env.locals != X.env.globals)) = false := by rw [I.ok.kind]; rfl
 have hiσ : i < σ.length := by rw [I.len]; exact (List.getElem?_eq_some_iff.mp hi).1
 have cne := I.cne
 have tracked : ∀ {a : Addr} {h' : Heap}, (∃ o, s.heap.get? a = some o /\ H a = none) -> Heap.SameBut a s.heap h' -> HOk X.prog X.w H h' := fun {a h'} ha hs b ob e => by
  obtain ⟨_, _, hfree⟩ := ha
  refine (I.hok b ob e).stay (fun c w' hc q => (hs.2 c ?_).trans q) (fun _ q => q) fun _ _ q => q
  rintro rfl
  rcases hc with rfl | hc
  ·rw [hfree] at e; cases e
  ·rw [hfree] at hc; cases hc
 rcases hx with hk | hk
 ·refine wpAny_storeName_local hk hn (fun h' hn' hs => ?_) hcls
  obtain ⟨oL, _, _, hoL, _⟩ := id hn
  refine h _ ⟨I.ok, I.os, I.bare, ⟨fun b o e n hb hx => ?_, fun b o e n hb hx => ?_, I.base.free, fun b o e hx => ?_, I.base.tups, I.base.frzs, I.base.tbls⟩, ⟨_, hn', fun j y v' e1 e2 e3 => ?_⟩, fun y c e => ?_, I.free, I.freeC, fun p hp => ?_, tracked ⟨oL, hoL, I.free⟩ hs, by simpa using I.len⟩ ⟨_, hs, .inl rfl⟩
  ·exact (hs.2 b (Nat.ne_of_lt (Nat.lt_of_lt_of_le (Heap.lt_size e) I.ok.above))).trans (I.base.keep b o e n hb hx)
  ·obtain ⟨sl, e1⟩ := I.base.slot b o e n hb hx
   exact ⟨sl, (hs.2 b (Nat.ne_of_lt (Nat.lt_of_lt_of_le (Heap.lt_size e) I.ok.above))).trans e1⟩
  ·obtain ⟨o', e1⟩ := I.base.there b o e hx
   exact ⟨o', (hs.2 b (Nat.ne_of_lt (Nat.lt_of_lt_of_le (Heap.lt_size e) I.ok.above))).trans e1⟩
  ·by_cases hj : j = i
   ·subst hj
    rw [hi] at e1; cases e1
    rw [List.getElem?_set_self hiσ] at e2
    cases e2
    exact ⟨u, r, .inl ⟨hk, by simp⟩⟩
   ·rw [List.getElem?_set_ne (Ne.symm hj)] at e2
    obtain ⟨u', r', q⟩ := hl j y v' e1 e2 e3
    refine ⟨u', r', ?_⟩
    rcases q with ⟨k, e⟩ | ⟨k, c, e, z⟩
    ·refine .inl ⟨k, ?_⟩
     have : y ≠ x := fun e => hj (nodup_ix hN e1 (e ▸ hi))
     simp [this, e]
    ·exact .inr ⟨k, c, e, z.sameBut hs (cne y c e)⟩
  ·obtain ⟨w', z⟩ := I.cell y c e
   exact ⟨w', z.sameBut hs (cne y c e)⟩
  ·obtain ⟨e, n, ne, nf, d⟩ := I.pin p hp
   exact ⟨(hs.2 p.1 ne).trans e, n, ne, nf, d⟩
 ·have hfn : X.fn x = true := by
   rcases hf with z | z
   ·exact z
   ·rw [z] at hk; cases hk
  obtain ⟨c, hc⟩ := I.ok.has x (.inl hk)
  obtain ⟨w', z⟩ := I.cell x c hc
  refine wpAny_storeName_cell I.ok.kind hk hc z (fun h' hc' hs => ?_)
  obtain ⟨oc, hoc, hocd⟩ := id z
  refine h { s with heap := h' } ⟨I.ok, I.os, I.bare, ⟨fun b o e n hb hx => ?_, fun b o e n hb hx => ?_, I.base.free, fun b o e hx => ?_, I.base.tups, I.base.frzs, I.base.tbls⟩, ⟨m, hn.sameBut hs (Ne.symm (cne x c hc)), fun j y v' e1 e2 e3 => ?_⟩, fun y c' e => ?_, I.free, I.freeC, fun p hp => ?_, tracked ⟨oc, hoc, I.freeC x c hc⟩ hs, by simpa using I.len⟩ ⟨c, hs, .inr hc⟩
  ·exact (hs.2 b (Nat.ne_of_lt (Nat.lt_of_lt_of_le (Heap.lt_size e) (I.ok.cab x c hfn hc)))).trans (I.base.keep b o e n hb hx)
  ·obtain ⟨sl, e1⟩ := I.base.slot b o e n hb hx
   exact ⟨sl, (hs.2 b (Nat.ne_of_lt (Nat.lt_of_lt_of_le (Heap.lt_size e) (I.ok.cab x c hfn hc)))).trans e1⟩
  ·obtain ⟨o', e1⟩ := I.base.there b o e hx
   exact ⟨o', (hs.2 b (Nat.ne_of_lt (Nat.lt_of_lt_of_le (Heap.lt_size e) (I.ok.cab x c hfn hc)))).trans e1⟩
  ·by_cases hj : j = i
   ·subst hj
    rw [hi] at e1; cases e1
    rw [List.getElem?_set_self hiσ] at e2
    cases e2
    exact ⟨u, r, .inr ⟨.inl hk, c, hc, hc'⟩⟩
   ·rw [List.getElem?_set_ne (Ne.symm hj)] at e2
    obtain ⟨u', r', q⟩ := hl j y v' e1 e2 e3
    refine ⟨u', r', ?_⟩
    rcases q with q | ⟨k, c', e, z'⟩
    ·exact .inl q
    ·refine .inr ⟨k, c', e, z'.sameBut hs ?_⟩
     rintro rfl
     exact hj (nodup_ix hN e1 (I.ok.inj _ _ _ e hc ▸ hi))
  ·by_cases hcc : c' = c
   ·subst hcc; exact ⟨_, hc'⟩
   ·obtain ⟨w2, z2⟩ := I.cell y c' e
    exact ⟨w2, z2.sameBut hs hcc⟩
  ·obtain ⟨e, n, ne, nf, d⟩ := I.pin p hp
   refine ⟨(hs.2 p.1 ?_).trans e, n, ne, nf, d⟩
   intro q
   rw [q, hoc] at e
   have q' : oc = p.2 := Option.some.inj e
   exact d w' (by rw [<- q']; exact hocd)
theorem store_ok {M : Model} {A : Around} {E : Value -> Shared -> Prop} {i : Nat} {x : Str} {v : V} {u : Value} {Q : Unit -> Shared -> Prop} (I : Inv X pins σ H s) (hN : X.N.Nodup) (hi : X.N[i]? = some x) (hx : Loc X.env.scope x) (r : RelV v u)
  (h : ∀ s', Inv X pins (σ.set i (some v)) H s' -> Q () s') (hf : X.fn x = true \/ X.env.scope.names.lookup x = some .local := by first | exact .inl rfl | exact .inr rfl | assumption) : wpAny M A (storeName X.env x u) Q E s :=
 store_ok2 I hN hi hx r (fun s' I' _ => h s' I') hf
theorem Inv.call' {s' : Shared} {ch : List Addr} (I : Inv X pins σ H s) (ho : s'.os = s.os) (u : Un (frs X.stack) ch H H' s.heap s'.heap) (hok : HOk X.prog X.w H' s'.heap) (hg : AllBare s'.gens)
  (hch : ∀ b ∈ ch, (b ∈ X.ex \/ X.s₀.heap.objs.size <= b) /\ b ≠ X.env.locals /\ (∀ x c, X.env.cells.lookup x = some c -> c ≠ b) /\ ∀ p ∈ X.pn ++ pins, p.1 ≠ b) : Inv X pins σ H' s' := by
 obtain ⟨h', g', d', t', o'⟩ := s'
 have e : o' = s.os := ho
 subst e
 exact I.call (g' := g') (t' := t') (d' := d') u hok hg hch
end
abbrev XK := Value -> Option Addr -> Hp -> Prop
abbrev St := List (Option V)
abbrev VK := V -> Hp -> Prop
abbrev TE := St -> Hp -> VK -> Prop
abbrev TT := St -> Hp -> (Bool -> Hp -> Prop) -> Prop
abbrev TA := St -> Hp -> (List V -> Hp -> Prop) -> Prop
structure Ends where
 nx : St -> Hp -> Prop
 rt : VK
 bk : St -> Hp -> Prop := fun _ _ => False
 ct : St -> Hp -> Prop := fun _ _ => False
abbrev TS := Ends -> St -> Hp -> Prop
def EP (X : Cx) (pins : List (Addr × Obj)) (σ : St) (Q : VK) (u : Value) (s' : Shared) : Prop := ∃ v H', Inv X pins σ H' s' /\ RelV v u /\ Q v H'
def TP (X : Cx) (pins : List (Addr × Obj)) (σ : St) (Q : Bool -> Hp -> Prop) (b : Bool) (s' : Shared) : Prop := ∃ H', Inv X pins σ H' s' /\ Q b H'
def AP (X : Cx) (pins : List (Addr × Obj)) (σ : St) (Q : List V -> Hp -> Prop) (us : List Value) (s' : Shared) : Prop := ∃ vs H', Inv X pins σ H' s' /\ Vals vs us /\ Q vs H'
def SP (X : Cx) (pins : List (Addr × Obj)) (D : Ends) (f : Flow) (s' : Shared) : Prop :=
 match f with
 | .next => ∃ σ' H', Inv X pins σ' H' s' /\ D.nx σ' H'
 | .brk => ∃ σ' H', Inv X pins σ' H' s' /\ D.bk σ' H'
 | .cont => ∃ σ' H', Inv X pins σ' H' s' /\ D.ct σ' H'
 | .ret u => ∃ v σ' H', Inv X pins σ' H' s' /\ RelV v u /\ D.rt v H'
def PE (X : Cx) (e : Expr) (t : TE) : Prop :=
 ∀ (pins : List (Addr × Obj)) (s : Shared) (σ : St) (H : Hp) (Q : VK), Inv X pins σ H s -> t σ H Q -> wpAny (model X.prog X.w) X.A (eval e X.env) (EP X pins σ Q) X.xe s
def PT (X : Cx) (e : Expr) (t : TT) : Prop :=
 ∀ (pins : List (Addr × Obj)) (s : Shared) (σ : St) (H : Hp) (Q : Bool -> Hp -> Prop), Inv X pins σ H s -> t σ H Q -> wpAny (model X.prog X.w) X.A (isTrue e X.env (eval e X.env)) (TP X pins σ Q) X.xe s
def PW (X : Cx) (e : Expr) (t : TT) : Prop :=
 ∀ (whole : Sem Value) (pins : List (Addr × Obj)) (s : Shared) (σ : St) (H : Hp) (Q : Bool -> Hp -> Prop), Inv X pins σ H s -> t σ H Q -> wpAny (model X.prog X.w) X.A (isTrue e X.env whole) (TP X pins σ Q) X.xe s
theorem PW.pt {X : Cx} {e : Expr} {t : TT} (h : PW X e t) : PT X e t := h _
def PA (X : Cx) (es : List Expr) (t : TA) : Prop :=
 ∀ (pos : Pos) (pins : List (Addr × Obj)) (s : Shared) (σ : St) (H : Hp) (Q : List V -> Hp -> Prop), Inv X pins σ H s -> t σ H Q -> wpAny (model X.prog X.w) X.A (spliced (backTo pos (starEach es X.env))) (AP X pins σ Q) X.xe s
def PS (X : Cx) (st : Stmt) (t : TS) : Prop :=
 ∀ (pins : List (Addr × Obj)) (s : Shared) (σ : St) (H : Hp) (D : Ends), Inv X pins σ H s -> t D σ H -> wpAny (model X.prog X.w) X.A (exec st X.env) (SP X pins D) X.xe s
def PSs (X : Cx) (st : List Stmt) (t : TS) : Prop :=
 ∀ (pins : List (Addr × Obj)) (s : Shared) (σ : St) (H : Hp) (D : Ends), Inv X pins σ H s -> t D σ H -> wpAny (model X.prog X.w) X.A (execs st X.env) (SP X pins D) X.xe s
theorem thn {α : Type} {t : Sem α} {Q Q' : α -> Shared -> Prop} {M : Model} {A : Around} {E : Value -> Shared -> Prop} {s : Shared} (h : wpAny M A t Q E s) (hQ : ∀ a s, Q a s -> Q' a s) : wpAny M A t Q' E s := wpAny_mono h hQ fun _ _ x => x
end L2
namespace L2
open PySem PySem.Spec PyProof.Rows
section
variable {X : Cx}
def tVar (i : Nat) : TE := fun σ H Q => ∃ v, σ[i]? = some (some v) /\ Q v H
def tC (v : V) : TE := fun _ H Q => Q v H
theorem pe_var {i : Nat} {x : Str} {pos : Pos} (hN : X.N[i]? = some x) (hv : Vis X.env.scope x) (hd : (x == ("__debug__" : Str)) = false := by decide) (hcd : (x == ("__classdict__" : Str)) = false := by decide) : PE X (.Name x pos) (tVar i) := by
 intro pins s σ H Q I h
 obtain ⟨v, e, h⟩ := h
 obtain ⟨m, hn, hl⟩ := I.loc
 obtain ⟨u, r, l⟩ := hl i x v hN e hv
 have fin : EP X pins σ Q u s := ⟨v, H, I, r, h⟩
 rcases l with ⟨hk, hm⟩ | ⟨hk, c, hc, hcell⟩
 ·exact wpAny_Name (wpAny_loadName_local I.ok.kind hk hn hm fin) hd
 ·rcases hk with hk | hk
  ·exact wpAny_Name (wpAny_loadName_cell I.ok.kind hk hc hcell fin) hd
  ·exact wpAny_Name (wpAny_loadName_free I.ok.kind hk hc hcell fin hcd) hd
theorem qab {i j pos} : PE X (.Constant (.int i) j pos) (tC (.int i)) := fun _ _ _ H _ I h => wpAny_Constant_int ⟨.int i, H, I.tok _, ⟨_, rfl⟩, h⟩
theorem pe_bl {b j pos} : PE X (.Constant (.bool b) j pos) (tC (.bl b)) := fun _ _ _ H _ I h => Constant_bool ⟨.bl b, H, I, rfl, h⟩
theorem qb1 {j pos} : PE X (.Constant .none j pos) (tC .non) := fun _ _ _ H _ I h => Constant_none ⟨.non, H, I, rfl, h⟩
theorem pe_str {x j pos} : PE X (.Constant (.str x) j pos) (tC (.str x)) := fun _ _ _ H _ I h => Calls.Constant_str ⟨.str x, H, I.tok _, ⟨_, rfl⟩, h⟩
def Gl (X : Cx) (x : Str) : Prop := X.env.kindOf x = some .globalImplicit
theorem ld_glob {E : Value -> Shared -> Prop} {pins : List (Addr × Obj)} {s : Shared} {σ : St} {H : Hp} {x : Str} {u : Value} {pos : Pos} {Q : Value -> Shared -> Prop} (I : Inv X pins σ H s) (hg : Gl X x) (hm : X.mg x = some u) (h : Q u s)
  (hd : (x == ("__debug__" : Str)) = false := by decide) : wpAny (model X.prog X.w) X.A (eval (.Name x pos) X.env) Q E s :=
 Calls.Name_function_global I.ok.kind hg (Calls.loadGlobal_global (by rw [I.ok.glob]; exact I.mod.glob.keeps I.bk) hm h) hd
theorem ld_blt {E : Value -> Shared -> Prop} {pins : List (Addr × Obj)} {s : Shared} {σ : St} {H : Hp} {x : Str} {u : Value} {pos : Pos} {Q : Value -> Shared -> Prop} (I : Inv X pins σ H s) (hg : Gl X x) (hm : X.mg x = none) (hv : bootBuiltins x = some u) (h : Q u s)
  (hn : x ≠ "__name__" := by decide) (hd : (x == ("__debug__" : Str)) = false := by decide) : wpAny (model X.prog X.w) X.A (eval (.Name x pos) X.env) Q E s := by
 obtain ⟨mb, h1, h2⟩ := I.mod.blt
 exact Calls.Name_function_global I.ok.kind hg (Calls.loadGlobal_builtin (by rw [I.ok.glob]; exact I.mod.glob.keeps I.bk) hm (by rw [I.ok.blt]; exact h1.keeps I.bk) ((h2 x hn).trans hv) h) hd
theorem pe_glob {x : Str} {v : V} {u : Value} {pos : Pos} (hg : Gl X x) (hm : X.mg x = some u) (r : RelV v u) (hd : (x == ("__debug__" : Str)) = false := by decide) : PE X (.Name x pos) (tC v) :=
 fun _ _ _ H _ I h => ld_glob I hg hm ⟨v, H, I, r, h⟩ hd
theorem pe_bltn {x : Str} {v : V} {u : Value} {pos : Pos} (hg : Gl X x) (hm : X.mg x = none) (hv : bootBuiltins x = some u) (r : RelV v u) (hn : x ≠ "__name__" := by decide) (hd : (x == ("__debug__" : Str)) = false := by decide) : PE X (.Name x pos) (tC v) :=
 fun _ _ _ H _ I h => ld_blt I hg hm hv ⟨v, H, I, r, h⟩ hn hd
variable {a b : Expr} {ta tb : TE} {pos : Pos}
def PC (X : Cx) (op : CmpOp) (a b : Expr) (t : TE) : Prop :=
 ∀ (pins : List (Addr × Obj)) (s : Shared) (σ : St) (H : Hp) (Q : VK), Inv X pins σ H s -> t σ H Q ->
  wpAny (model X.prog X.w) X.A (eval a X.env) (fun v s₁ => wpAny (model X.prog X.w) X.A (eval b X.env) (fun u s₂ => wpAny (model X.prog X.w) X.A (compareOp op v u) (EP X pins σ Q) X.xe s₂) X.xe s₁) X.xe s
theorem nobehind (b : Expr) {op : CmpOp} (h : op ≠ .In) (h2 : op ≠ .NotIn) : behindInMarks op b = false := by
 have e1 : (op == CmpOp.In) = false := by cases op <;> first | rfl | exact absurd rfl h
 have e2 : (op == CmpOp.NotIn) = false := by cases op <;> first | rfl | exact absurd rfl h2
 cases b <;> simp [behindInMarks, e1, e2]
def tB (t : TE) : TT := fun σ H Q => t σ H fun x H1 => ∃ c, x = .bl c /\ Q c H1
theorem pt_cmp {op : CmpOp} {t : TE} (h : PC X op a b t) (h1 : behindInMarks op b = false := by first | exact nobehind _ (by decide) (by decide) | rfl) : PT X (.Compare a [op] [b] pos) (tB t) := by
 intro pins s σ H Q I hw
 refine wpAny_isTrue_Compare1 (thn (h pins s σ H _ I hw) fun v s1 h1 => thn h1 fun u s2 h2 => thn h2 fun c s3 hq__ => ?_) h1
 obtain ⟨x, H1, I1, r1, q1⟩ := hq__
 obtain ⟨d, rfl, q⟩ := q1
 cases r1
 exact wpAny_truthy_bool ⟨H1, I1, q⟩
theorem pt_val {e : Expr} {t : TE} (h : PE X e t) (he : ∀ whole, isTrue e X.env whole = (do let v <- whole; standAt e.pos; holding [v] (truthy v)) := by intro _; rfl) : PT X e (tB t) := by
 intro pins s σ H Q I hw
 refine isTrue_plain (thn (h pins s σ H _ I hw) fun v s1 hq__ => ?_) (he _)
 obtain ⟨x, H1, I1, r1, q1⟩ := hq__
 obtain ⟨d, rfl, q⟩ := q1
 cases r1
 exact wpAny_truthy_bool ⟨H1, I1, q⟩
variable {tA tB' : TT} {rest : List Expr}
def tAnd (t u : TT) : TT := fun σ H Q => t σ H fun c H1 => if c = true then u σ H1 Q else Q false H1
def tOr (t u : TT) : TT := fun σ H Q => t σ H fun c H1 => if c = true then Q true H1 else u σ H1 Q
def tNot (t : TT) : TT := fun σ H Q => t σ H fun c H1 => Q (!c) H1
theorem pw_and1 (ha : PT X a tA) : PW X (.BoolOp .And [a] pos) tA := by
 intro wh pins s σ H Q I h
 refine isTrue_and (thn (ha pins s σ H Q I h) fun c s1 e => ?_)
 cases c with
 | true => exact isTrue_and_nil e
 | false => exact e
theorem pw_or1 (ha : PT X a tA) : PW X (.BoolOp .Or [a] pos) tA := by
 intro wh pins s σ H Q I h
 refine isTrue_or (thn (ha pins s σ H Q I h) fun c s1 e => ?_)
 cases c with
 | false => exact isTrue_or_nil e
 | true => exact e
theorem pw_and (ha : PT X a tA) (hb : PW X (.BoolOp .And (b :: rest) pos) tB') : PW X (.BoolOp .And (a :: b :: rest) pos) (tAnd tA tB') := by
 intro wh pins s σ H Q I h
 refine isTrue_and (thn (ha pins s σ H _ I h) fun c s1 hq__ => ?_)
 obtain ⟨H1, I1, q1⟩ := hq__
 cases c with
 | true => exact hb wh pins s1 σ H1 Q I1 q1
 | false => exact ⟨H1, I1, q1⟩
theorem pw_or (ha : PT X a tA) (hb : PW X (.BoolOp .Or (b :: rest) pos) tB') : PW X (.BoolOp .Or (a :: b :: rest) pos) (tOr tA tB') := by
 intro wh pins s σ H Q I h
 refine isTrue_or (thn (ha pins s σ H _ I h) fun c s1 hq__ => ?_)
 obtain ⟨H1, I1, q1⟩ := hq__
 cases c with
 | true => exact ⟨H1, I1, q1⟩
 | false => exact hb wh pins s1 σ H1 Q I1 q1
theorem pt_not (ha : PT X a tA) : PT X (.UnaryOp .Not a pos) (tNot tA) := by
 intro pins s σ H Q I h
 exact isTrue_not (ha pins s σ H (fun c H1 => Q (!c) H1) I h)
def tAndV (ta tb : TE) : TE := fun σ H Q => ta σ H fun x H1 => ∃ c, x = .bl c /\ if c = true then tb σ H1 Q else Q (.bl false) H1
def tNotV (ta : TE) : TE := fun σ H Q => ta σ H fun x H1 => ∃ c, x = .bl c /\ Q (.bl (!c)) H1
theorem pe_one {op} {t : TE} (h : PE X a t) : PE X (.BoolOp op [a] pos) t := fun pins s σ H Q I hw => BoolOp_one (h pins s σ H Q I hw)
theorem pe_and (ha : PE X a ta) (hb : PE X (.BoolOp .And (b :: rest) pos) tb) : PE X (.BoolOp .And (a :: b :: rest) pos) (tAndV ta tb) := by
 intro pins s σ H Q I h
 refine BoolOp_and (thn (ha pins s σ H _ I h) fun v s1 hq__ => ?_)
 obtain ⟨x, H1, I1, r1, q1⟩ := hq__
 obtain ⟨c, rfl, q1⟩ := q1
 cases r1
 refine wpAny_truthy_bool ?_
 cases c with
 | true => exact hb pins s1 σ H1 Q I1 q1
 | false => exact ⟨.bl false, H1, I1, rfl, q1⟩
theorem pe_not (ha : PE X a ta) : PE X (.UnaryOp .Not a pos) (tNotV ta) := by
 intro pins s σ H Q I h
 refine UnaryOp_ (thn (ha pins s σ H _ I h) fun v s1 hq__ => ?_)
 obtain ⟨x, H1, I1, r1, q1⟩ := hq__
 obtain ⟨c, rfl, q1⟩ := q1
 cases r1
 exact not_of (wpAny_truthy_bool ⟨.bl (!c), H1, I1, rfl, q1⟩)
end
end L2
namespace L2
open PySem PySem.Spec PyProof.Rows
def SqL (K : Frag) (H : Hp) (a : Addr) (xs : List V) : Prop :=
 Rd H a (.lst xs) \/
  ∃ (o : Obj) (its : Array Value) (n : Nat), K.lookup a = some o /\ o.cls = .type "list" /\ o.dict = none /\ o.data = .seq its n /\ its.size <= sizeLine /\ Vals xs its.toList
def SqT (K : Frag) (H : Hp) (a : Addr) (xs : List V) : Prop :=
 Rd H a (.tup xs) \/
  ∃ (o : Obj) (its : Array Value) (n : Nat), K.lookup a = some o /\ o.cls = .type "tuple" /\ o.data = .seq its n /\ its.size <= sizeLine /\ Vals xs its.toList
def absV : Value -> Option V
 | .none => some .non
 | .bool b => some (.bl b)
 | .int i _ => some (.int i)
 | .str x _ => some (.str x)
 | .bytes b _ => some (.byt b)
 | .float b _ => some (.flt b)
 | .ref a => some (.ref a)
 | .type n => some (.ty n)
 | _ => none
theorem RelV.abs {x : V} {u : Value} (r : RelV x u) : absV u = some x := by
 cases x with
 | non => cases r; rfl
 | bl _ => cases r; rfl
 | int _ => obtain ⟨t, rfl⟩ := r; rfl
 | str _ => obtain ⟨t, rfl⟩ := r; rfl
 | byt _ => obtain ⟨t, rfl⟩ := r; rfl
 | flt _ => obtain ⟨t, rfl⟩ := r; rfl
 | ref _ => cases r; rfl
 | ty _ => cases r; rfl
theorem RelV.inj {x y : V} {u : Value} (r : RelV x u) (q : RelV y u) : x = y := Option.some.inj (r.abs.symm.trans q.abs)
theorem Vals.inj : ∀ {xs ys : List V} {us : List Value}, Vals xs us -> Vals ys us -> xs = ys
 | _, _, _, .nil, .nil => rfl
 | _, _, _, .cons r t, .cons r' t' => by rw [r.inj r', Vals.inj t t']
section
variable {X : Cx} {pins : List (Addr × Obj)} {σ : St} {H : Hp} {s : Shared} {a : Addr} {xs ys : List V}
theorem SqL.of {K : Frag} (h : H a = some (.lst xs)) : SqL K H a xs := .inl (.inl h)
theorem SqT.of {K : Frag} (h : H a = some (.tup xs)) : SqT K H a xs := .inl (.inl h)
theorem Inv.list (I : Inv X pins σ H s) (h : SqL X.K H a xs) : ∃ its : List Value, Vals xs its /\ PlainL s.heap a its.toArray /\ xs.length <= sizeLine := by
 rcases h with h | ⟨o, its, n, hk, hc, hd, hs, hz, r⟩
 ·obtain ⟨z, its, n, r, e⟩ := h.ok I.hok
  exact ⟨its, r, ⟨_, n, e, rfl, rfl, rfl⟩, z⟩
 ·refine ⟨its.toList, r, ⟨o, n, I.kIn a o hk, hc, hd, by simpa using hs⟩, ?_⟩
  have e := r.length
  simp only [Array.length_toList] at e
  omega
theorem Inv.tuple (I : Inv X pins σ H s) (h : SqT X.K H a xs) : ∃ its : List Value, Vals xs its /\ IsTup s.heap a its.toArray /\ xs.length <= sizeLine := by
 rcases h with h | ⟨o, its, n, hk, hc, hs, hz, r⟩
 ·obtain ⟨z, its, r, p⟩ := h.ok I.hok
  exact ⟨its, r, p, z⟩
 ·refine ⟨its.toList, r, ⟨o, I.kIn a o hk, hc, n, by simpa using hs⟩, ?_⟩
  have e := r.length
  simp only [Array.length_toList] at e
  omega
theorem Inv.list_inj (I : Inv X pins σ H s) (h : SqL X.K H a xs) (h' : SqL X.K H a ys) : xs = ys := by
 obtain ⟨its, r, ⟨o, n, e, _, _, d⟩, _⟩ := I.list h
 obtain ⟨its', r', ⟨o', n', e', _, _, d'⟩, _⟩ := I.list h'
 rw [e] at e'; cases e'
 rw [d] at d'
 injection d' with d1 _
 have : its = its' := by simpa using congrArg Array.toList d1
 subst this
 exact r.inj r'
theorem Inv.tuple_inj (I : Inv X pins σ H s) (h : SqT X.K H a xs) (h' : SqT X.K H a ys) : xs = ys := by
 obtain ⟨its, r, ⟨o, e, _, n, d⟩, _⟩ := I.tuple h
 obtain ⟨its', r', ⟨o', e', _, n', d'⟩, _⟩ := I.tuple h'
 rw [e] at e'; cases e'
 rw [d] at d'
 injection d' with d1 _
 have : its = its' := by simpa using congrArg Array.toList d1
 subst this
 exact r.inj r'
end
abbrev Cx.wish (X : Cx) (E : Value -> Shared -> Prop) : Cx := { X with xe := E }
abbrev Cx.nox (X : Cx) : Cx := X.wish fun _ _ => False
theorem Cx.Ok.wish {X : Cx} (ok : X.Ok) (E : Value -> Shared -> Prop) : (X.wish E).Ok :=
 ⟨ok.mod, ok.kind, ok.glob, ok.blt, ok.above, ok.inj, ok.has, ok.cab, ok.hd, ok.frames, ok.stk, ok.exf, ok.bs, ok.bsz, ok.noex, ok.exfs, ok.funs, ok.frf⟩
theorem Cx.Ok.unwish {X : Cx} {E : Value -> Shared -> Prop} (ok : (X.wish E).Ok) : X.Ok :=
 ⟨ok.mod, ok.kind, ok.glob, ok.blt, ok.above, ok.inj, ok.has, ok.cab, ok.hd, ok.frames, ok.stk, ok.exf, ok.bs, ok.bsz, ok.noex, ok.exfs, ok.funs, ok.frf⟩
section
variable {X : Cx} {pins : List (Addr × Obj)} {σ : St} {H : Hp} {s : Shared} {E : Value -> Shared -> Prop}
theorem Inv.wish (I : Inv X pins σ H s) (E : Value -> Shared -> Prop) : Inv (X.wish E) pins σ H s := ⟨I.ok.wish E, I.os, I.bare, I.base, I.loc, I.cell, I.free, I.freeC, I.pin, I.hok, I.len⟩
theorem Inv.unwish (I : Inv (X.wish E) pins σ H s) : Inv X pins σ H s := ⟨I.ok.unwish, I.os, I.bare, I.base, I.loc, I.cell, I.free, I.freeC, I.pin, I.hok, I.len⟩
theorem SP.unwish {D : Ends} {f : Flow} {s' : Shared} (h : SP (X.wish E) pins D f s') : SP X pins D f s' := by
 cases f with
 | next => obtain ⟨σ', H', I, q⟩ := h; exact ⟨σ', H', I.unwish, q⟩
 | brk => obtain ⟨σ', H', I, q⟩ := h; exact ⟨σ', H', I.unwish, q⟩
 | cont => obtain ⟨σ', H', I, q⟩ := h; exact ⟨σ', H', I.unwish, q⟩
 | ret u => obtain ⟨v, σ', H', I, r, q⟩ := h; exact ⟨v, σ', H', I.unwish, r, q⟩
theorem PSs.nox {st : List Stmt} {t : TS} (h : PSs X.nox st t) : PSs X st t := fun pins s σ H D I hw =>
 wpAny_mono (h pins s σ H D (I.wish _) hw) (fun _ _ q => q.unwish) fun _ _ z => False.elim z
end
section
variable {X : Cx} {st : Stmt} {rest : List Stmt} {t u : TS} {e : Expr} {te : TE} {pos : Pos}
def tNext : TS := fun D σ H => D.nx σ H
def tSeq (t u : TS) : TS := fun D σ H => t { D with nx := u D } σ H
theorem qa0 : PSs X [] tNext := fun _ _ σ H _ I h => wpAny_execs_nil ⟨σ, H, I, h⟩
theorem qac (h1 : PS X st t) (h2 : PSs X rest u) : PSs X (st :: rest) (tSeq t u) := by
 intro pins s σ H D I h
 refine wpAny_execs_cons (thn (h1 pins s σ H { D with nx := u D } I h) fun f s1 q => ?_)
 cases f with
 | next =>
  obtain ⟨σ', H', I', q⟩ := q
  exact h2 pins s1 σ' H' D I' q
 | ret v => exact q
 | brk => exact q
 | cont => exact q
theorem qaf (h1 : PS X st t) : PSs X [st] t := by
 intro pins s σ H D I h
 refine wpAny_execs_cons (thn (h1 pins s σ H D I h) fun f s1 q => ?_)
 cases f with
 | next => exact wpAny_execs_nil q
 | ret v => exact q
 | brk => exact q
 | cont => exact q
theorem Inv.quiet {pins : List (Addr × Obj)} {σ : St} {H : Hp} {s : Shared} (I : Inv X pins σ H s) : interactive X.env = false := by simp [interactive, I.ok.kind]
def tDrop (te : TE) : TS := fun D σ H => te σ H fun _ H1 => D.nx σ H1
theorem qbi (he : PE X e te) (hs : swapsWith e none pos.line X.env = pure false := by rfl) : PS X (.Expr e pos) (tDrop te) := by
 intro pins s σ H D I h
 exact wpAny_Expr_any (thn (he pins s σ H _ I h) fun v s1 ⟨x, H1, I1, r1, q1⟩ => ⟨σ, H1, I1, q1⟩) I.quiet hs
def tRet (te : TE) : TS := fun D σ H => te σ H D.rt
theorem qar (he : PE X e te) : PS X (.Return (some e) pos) (tRet te) := by
 intro pins s σ H D I h
 exact wpAny_Return_some (thn (he pins s σ H _ I h) fun v s1 ⟨x, H1, I1, r1, q1⟩ => ⟨x, σ, H1, I1, r1, q1⟩)
def tRetN : TS := fun D _ H => D.rt .non H
theorem ps_retN : PS X (.Return none pos) tRetN := fun _ _ σ H _ I h => wpAny_Return_none ⟨.non, σ, H, I, rfl, h⟩
def tIfS (c : TT) (t u : TS) : TS := fun D σ H => c σ H fun b H1 => if b = true then t D σ H1 else u D σ H1
theorem qbl {c : Expr} {a b : List Stmt} {tc : TT} (hc : PT X c tc) (ha : PSs X a t) (hb : PSs X b u) : PS X (.If c a b pos) (tIfS tc t u) := by
 intro pins s σ H D I h
 refine wpAny_If (thn (hc pins s σ H _ I h) fun d s1 hq__ => ?_)
 obtain ⟨H1, I1, q1⟩ := hq__
 cases d with
 | true => exact ha pins s1 σ H1 D I1 q1
 | false => exact hb pins s1 σ H1 D I1 q1
def tNever : TS := fun _ _ _ => False
theorem qc8 : PS X st tNever := fun _ _ _ _ _ _ h => h.elim
end
abbrev TG := V -> St -> Hp -> (St -> Hp -> Prop) -> Prop
abbrev TGs := List V -> St -> Hp -> (St -> Hp -> Prop) -> Prop
def PG (X : Cx) (target : Expr) (t : TG) : Prop :=
 ∀ (pins : List (Addr × Obj)) (s : Shared) (σ : St) (H : Hp) (v : V) (u : Value) (Q : St -> Hp -> Prop), Inv X pins σ H s -> RelV v u -> t v σ H Q ->
  wpAny (model X.prog X.w) X.A (assign target X.env u) (fun _ s' => ∃ σ' H', Inv X pins σ' H' s' /\ Q σ' H') X.xe s
def PGs (X : Cx) (ts : List Expr) (t : TGs) : Prop :=
 ∀ (pins : List (Addr × Obj)) (s : Shared) (σ : St) (H : Hp) (vs : List V) (us : List Value) (Q : St -> Hp -> Prop), Inv X pins σ H s -> Vals vs us -> t vs σ H Q ->
  wpAny (model X.prog X.w) X.A (assignInOrder ((assignEach ts X.env).map (·.2)) us) (fun _ s' => ∃ σ' H', Inv X pins σ' H' s' /\ Q σ' H') X.xe s
abbrev TSet := V -> V -> V -> Hp -> (Hp -> Prop) -> Prop
def PSet (X : Cx) (t : TSet) : Prop :=
 ∀ (pins : List (Addr × Obj)) (s : Shared) (σ : St) (H : Hp) (o i v : V) (ov iv u : Value) (Q : Hp -> Prop), Inv X pins σ H s -> RelV o ov -> RelV i iv -> RelV v u -> t o i v H Q ->
  wpAny (model X.prog X.w) X.A (setItem ov iv u) (fun _ s' => ∃ H', Inv X pins σ H' s' /\ Q H') X.xe s
section
variable {X : Cx} {pos : Pos}
def gName (i : Nat) : TG := fun v σ H Q => Q (σ.set i (some v)) H
theorem qaj {i : Nat} {x : Str} (hN : X.N.Nodup) (hi : X.N[i]? = some x) (hx : Loc X.env.scope x) (hf : X.fn x = true \/ X.env.scope.names.lookup x = some .local := by first | exact .inl rfl | exact .inr rfl | assumption) : PG X (.Name x pos) (gName i) := by
 intro pins s σ H v u Q I r h
 exact wpAny_assign_Name (store_ok I hN hi hx r (fun s' I' => ⟨_, H, I', h⟩) hf)
def gNil : TGs := fun vs σ H Q => vs = [] /\ Q σ H
def gCons (t : TG) (u : TGs) : TGs := fun vs σ H Q => ∃ v r, vs = v :: r /\ t v σ H fun σ' H' => u r σ' H' Q
theorem qbf : PGs X [] gNil := by
 intro pins s σ H vs us Q I r h
 obtain ⟨e, h⟩ := h
 subst e
 cases r
 exact assignInOrder_nil ⟨σ, H, I, h⟩
theorem qal {e : Expr} {es : List Expr} {t : TG} {u : TGs} (h1 : PG X e t) (h2 : PGs X es u)
  (hs : (assignEach (e :: es) X.env).map (·.2) = assign e X.env :: (assignEach es X.env).map (·.2) := by rfl) : PGs X (e :: es) (gCons t u) := by
 intro pins s σ H vs us Q I r h
 obtain ⟨v, vr, e1, h⟩ := h
 subst e1
 cases r with
 | cons r rr =>
  rw [hs]
  refine assignInOrder_cons (thn (h1 pins s σ H _ _ _ I r h) fun _ s1 hq__ => ?_)
  obtain ⟨σ1, H1, I1, q1⟩ := hq__
  exact h2 pins s1 σ1 H1 _ _ Q I1 rr q1
def gTup (K : Frag) (n : Nat) (t : TGs) : TG := fun v σ H Q => ∃ a xs, v = .ref a /\ SqT K H a xs /\ xs.length = n /\ t xs σ H Q
theorem qb2 {es : List Expr} {k : Nat} {t : TGs} {n : Nat} (hc : X.calm = true) (h : PGs X es t)
  (hn : (assignEach es X.env).length = n := by rfl) (hst : (assignEach es X.env).findIdx? (·.1) = none := by rfl) : PG X (.Tuple es k pos) (gTup X.K n t) := by
 intro pins s σ H v u Q I r hw
 obtain ⟨a, xs, e1, hq, hl, hw⟩ := hw
 subst e1
 cases r
 obtain ⟨its, rv, ht, hz⟩ := I.tuple hq
 refine assign_Tuple_tuple (I.ok.hd hc) ht (by simp [hn, <- hl, rv.length]) hst fun h' hx => ?_
 have I1 : Inv X pins σ H { s with heap := h' } := I.kept (t' := s.toks) fun b o e => hx b o (Nat.ne_of_lt (Heap.lt_size e)) e
 exact h pins _ σ H xs _ Q I1 (by simpa using rv) hw
def gSub (to ti : TE) (t : TSet) : TG := fun v σ H Q => to σ H fun o H1 => ti σ H1 fun i H2 => t o i v H2 fun H3 => Q σ H3
theorem pg_sub {o i : Expr} {to ti : TE} {t : TSet} (ho : PE X o to) (hi : PE X i ti) (hs : PSet X t)
  (ha : ∀ v, assign (.Subscript o i pos) X.env v = (do
   let ov <- holding [v] (eval o X.env)
   let iv <- holding [v, ov] (eval i X.env)
   standAt pos
   holding [v, ov, iv] (setItem ov iv v)
   release [v, ov, iv] []) := by intro _; rfl) : PG X (.Subscript o i pos) (gSub to ti t) := by
 intro pins s σ H v u Q I r h
 rw [ha]
 refine wpAny_bind (wpAny_holding (thn (ho pins s σ H _ I h) fun ov s1 hq__ => ?_))
 obtain ⟨x, H1, I1, r1, q1⟩ := hq__
 refine wpAny_bind (wpAny_holding (thn (hi pins s1 σ H1 _ I1 q1) fun iv s2 hq__ => ?_))
 obtain ⟨y, H2, I2, r2, q2⟩ := hq__
 refine wpAny_bind (wpAny_standAt (wpAny_bind (wpAny_holding (thn (hs pins s2 σ H2 x y v ov iv u _ I2 r1 r2 r q2) fun _ s3 hq__ => ?_))))
 obtain ⟨H3, I3, q3⟩ := hq__
 exact wpAny_release ⟨σ, H3, I3, q3⟩
def tAsg (te : TE) (g : TG) : TS := fun D σ H => te σ H fun x H1 => g x σ H1 D.nx
theorem qdc {tg e : Expr} {te : TE} {g : TG} (he : PE X e te) (hg : PG X tg g) (hs : swapsWithSole [tg] e pos.line X.env = pure false := by rfl) (hw : swappedStores [tg] e X.env = pure none := by rfl)
  (h1 : (assignEach [tg] X.env).map (·.2) = [assign tg X.env] := by rfl) : PS X (.Assign [tg] e pos) (tAsg te g) := by
 intro pins s σ H D I h
 refine wpAny_Assign_stores (thn (he pins s σ H _ I h) fun v s1 hq__ => ?_) hs hw
 obtain ⟨x, H1, I1, r1, q1⟩ := hq__
 rw [h1]
 exact thn (hg pins s1 σ H1 x v _ I1 r1 q1) fun _ s2 q => q
theorem qas {i : Nat} {x : Str} {e : Expr} {te : TE} {pos' : Pos} (hN : X.N.Nodup) (hi : X.N[i]? = some x) (hx : Loc X.env.scope x) (he : PE X e te) (hs : swapsWith e (some (.Name x pos')) pos.line X.env = pure false := by rfl) (hf : X.fn x = true \/ X.env.scope.names.lookup x = some .local := by first | exact .inl rfl | exact .inr rfl | assumption) :
  PS X (.Assign [.Name x pos'] e pos) (tAsg te (gName i)) := by
 intro pins s σ H D I h
 refine wpAny_Assign_Name (thn (he pins s σ H _ I h) fun v s1 hq__ => ?_) hs
 obtain ⟨y, H1, I1, r1, q1⟩ := hq__
 exact store_ok I1 hN hi hx r1 (fun s2 I2 => ⟨_, H1, I2, q1⟩) hf
end
section
variable {X : Cx} {pos : Pos}
end
structure It where
 go : Nat -> Hp -> Prop
 yld : Nat -> Hp -> V -> Hp -> Prop
 stop : Nat -> Hp -> Prop
def FpOk (X : Cx) (pins : List (Addr × Obj)) (H : Hp) (b : Addr) : Prop :=
 H b = none /\ b ≠ X.env.locals /\ b ∉ X.fs /\ (b ∈ X.ex \/ X.s₀.heap.objs.size <= b) /\ (∀ x c, X.env.cells.lookup x = some c -> c ≠ b) /\ ∀ p ∈ X.pn ++ pins, p.1 ≠ b
theorem Inv.fpOk {X : Cx} {pins : List (Addr × Obj)} {σ : St} {H H' : Hp} {s : Shared} {b : Addr} (I : Inv X pins σ H s) (hb : s.heap.objs.size <= b) (hn : H' b = none) : FpOk X pins H' b := by
 refine ⟨hn, Nat.ne_of_gt (Nat.lt_of_lt_of_le I.lt hb), I.nofs hb, .inr (Nat.le_trans I.sz hb), fun x c e z => ?_, fun p hp z => ?_⟩
 ·obtain ⟨v, q⟩ := I.cell x c e
  exact absurd (Nat.lt_of_lt_of_le q.lt (by rw [z]; exact hb)) (Nat.lt_irrefl _)
 ·exact absurd (Nat.lt_of_lt_of_le (Heap.lt_size (I.pin p hp).1) (by rw [z]; exact hb)) (Nat.lt_irrefl _)
structure Turn (P : Program) (w : World) (K : Frag) (tg : Expr) (J : It) (fp : List Addr) (it : Addr) (tn : Nat -> Heap -> Prop) : Prop where
 mem : it ∈ fp
 obj : ∀ i h, tn i h -> ∀ b ∈ fp, ∃ o, h.get? b = some o /\ ∀ v, o.data ≠ .cell v
 keep : ∀ i h h', tn i h -> (∀ b ∈ fp, ∀ o, h.get? b = some o -> h'.get? b = some o) -> tn i h'
 item : ∀ (X : Cx), X.prog = P -> X.w = w -> X.K = K -> X.calm = true -> ∀ (i : Nat) (pins : List (Addr × Obj)) (s : Shared) (σ : St) (H : Hp) (E : Value -> Shared -> Prop), Inv X pins σ H s -> (∀ b ∈ fp, FpOk X pins H b) -> tn i s.heap -> J.go i H ->
  wpAny (model P w) X.A (pyNext (.ref it)) (fun r s1 => ∃ u, r = some u /\
   wpAny (model P w) X.A (letOwnedTupleGo tg (.ref it) u) (fun _ s2 => ∃ x H', Inv X pins σ H' s2 /\ RelV x u /\ J.yld i H x H' /\ tn (i + 1) s2.heap /\ ∀ b ∈ fp, H' b = none) E s1) E s
 done : ∀ (X : Cx), X.prog = P -> X.w = w -> X.K = K -> X.calm = true -> ∀ (i : Nat) (pins : List (Addr × Obj)) (s : Shared) (σ : St) (H : Hp) (E : Value -> Shared -> Prop), Inv X pins σ H s -> (∀ b ∈ fp, FpOk X pins H b) -> tn i s.heap -> J.stop i H ->
  wpAny (model P w) X.A (pyNext (.ref it)) (fun r s1 => r = none /\ Inv X pins σ H s1) E s
 self : ∀ (A : Around) (i : Nat) (s : Shared) (Q : Value -> Shared -> Prop) (E : Value -> Shared -> Prop), tn i s.heap -> Q (.ref it) s -> wpAny (model P w) A (pyIter (.ref it)) Q E s
abbrev TI := St -> Hp -> (It -> Hp -> Prop) -> Prop
def PIE (X : Cx) (pins : List (Addr × Obj)) (σ : St) (tg : Expr) (R : It -> Hp -> Prop) (itv : Value) (s2 : Shared) : Prop :=
 ∃ (it : Addr) (fp : List Addr) (tn : Nat -> Heap -> Prop) (J : It) (H' : Hp), itv = .ref it /\ Inv X pins σ H' s2 /\ Turn X.prog X.w X.K tg J fp it tn /\ tn 0 s2.heap /\ (∀ b ∈ fp, FpOk X pins H' b) /\ R J H'
def PI (X : Cx) (tg iter : Expr) (wi : TI) : Prop :=
 ∀ (pins : List (Addr × Obj)) (s : Shared) (σ : St) (H : Hp) (R : It -> Hp -> Prop), Inv X pins σ H s -> wi σ H R ->
  wpAny (model X.prog X.w) X.A (eval iter X.env) (fun v s1 => wpAny (model X.prog X.w) X.A (pyIter v) (PIE X pins σ tg R) X.xe s1) X.xe s
theorem go_of {M : Model} {A : Around} {E : Value -> Shared -> Prop} {s : Shared} {tg : Expr} {it : Addr} {u : Value} {o : Obj} {n : String} {vs : Array Value} {Q : Unit -> Shared -> Prop} (ho : s.heap.get? it = some o) (hc : o.cls = .type n) (hd : o.data = .fields vs)
  (hn : ["enumerate", "zip", "dict_itemiterator", "dict_reverseitemiterator", "odict_iterator", "itertools.zip_longest", "itertools.pairwise"].contains n = false) (hQ : Q () s) : wpAny M A (letOwnedTupleGo tg (.ref it) u) Q E s := by
 unfold letOwnedTupleGo
 cases tg <;> first
  | exact wpAny_pure hQ
  | (cases u <;> first
    | exact wpAny_pure hQ
    | (refine wpAny_bind (wpAny_load ho ?_)
       rw [hc, hd]
       show wpAny M A (if (["enumerate", "zip", "dict_itemiterator", "dict_reverseitemiterator", "odict_iterator", "itertools.zip_longest", "itertools.pairwise"].contains n && vs[0]? == some (rawInt _)) = true then _ else _) Q E s
       rw [if_neg (by intro h; rw [hn, Bool.false_and] at h; cases h)]
       exact wpAny_pure hQ))
def Itl (K : Frag) (a : Addr) : It :=
 ⟨fun i H => ∃ xs x, SqL K H a xs /\ xs[i]? = some x, fun i H x H' => H' = H /\ ∀ xs, SqL K H a xs -> xs[i]? = some x, fun i H => ∃ xs, SqL K H a xs /\ xs.length <= i⟩
def Itt (K : Frag) (a : Addr) : It :=
 ⟨fun i H => ∃ xs x, SqT K H a xs /\ xs[i]? = some x, fun i H x H' => H' = H /\ ∀ xs, SqT K H a xs -> xs[i]? = some x, fun i H => ∃ xs, SqT K H a xs /\ xs.length <= i⟩
def Itr (lo : Int) (n : Nat) : It := ⟨fun i _ => i < n, fun i H x H' => H' = H /\ x = .int (lo + i), fun i _ => n <= i⟩
theorem turn_list {P : Program} {w : World} {K : Frag} {tg : Expr} (a it : Addr) : Turn P w K tg (Itl K a) [it] it (fun i h => h.IsListIter it a i) where
 mem := by simp
 obj := fun i h st b hb => by
  have e : b = it := by simpa using hb
  subst e
  obtain ⟨o, e, c, d⟩ := st
  exact ⟨o, e, fun v z => by rw [d] at z; cases z⟩
 keep := fun i h h' st k => st.at fun o e => k it (by simp) o e
 item := by
  intro X hP hw hK hc i pins s σ H E I hf st hg
  subst hP hw hK
  obtain ⟨xs, x, hq, hx⟩ := hg
  obtain ⟨its, rv, p, hz⟩ := I.list hq
  obtain ⟨u, hu, ru⟩ := rv.get hx
  obtain ⟨f0, f1, f2, f3, f4, f5⟩ := hf it (by simp)
  refine wpAny_pyNext_list_item st p.isList (x := u) (by simpa using hu) fun h' st' sb => ?_
  have I1 : Inv X pins σ H { s with heap := h' } := I.turned (t' := s.toks) (fun b o hb e => (sb.2 b hb).trans e) f0 f1 f3 f4 f5
  obtain ⟨o, e, c, d⟩ := id st'
  exact ⟨u, rfl, go_of (s := { s with heap := h' }) e c d (by decide) ⟨x, H, I1, ru, ⟨rfl, fun ys hy => by rw [I.list_inj hy hq]; exact hx⟩, st', fun b hb => (hf b hb).1⟩⟩
 done := by
  intro X hP hw hK hc i pins s σ H E I hf st hg
  subst hP hw hK
  obtain ⟨xs, hq, hx⟩ := hg
  obtain ⟨its, rv, p, hz⟩ := I.list hq
  obtain ⟨f0, f1, f2, f3, f4, f5⟩ := hf it (by simp)
  have hl := rv.length
  exact wpAny_pyNext_list_end (I.ok.hd hc) st p.isList (by simp; omega) fun h' eb => ⟨rfl, I.turned (t' := s.toks) (fun b o hb e => eb b o hb e) f0 f1 f3 f4 f5⟩
 self := fun _ _ _ _ _ st h => wpAny_pyIter_listiter st h
theorem turn_tuple {P : Program} {w : World} {K : Frag} {tg : Expr} (a it : Addr) : Turn P w K tg (Itt K a) [it] it (fun i h => h.IsTupleIter it a i) where
 mem := by simp
 obj := fun i h st b hb => by
  have e : b = it := by simpa using hb
  subst e
  obtain ⟨o, e, c, d⟩ := st
  exact ⟨o, e, fun v z => by rw [d] at z; cases z⟩
 keep := fun i h h' st k => st.at fun o e => k it (by simp) o e
 item := by
  intro X hP hw hK hc i pins s σ H E I hf st hg
  subst hP hw hK
  obtain ⟨xs, x, hq, hx⟩ := hg
  obtain ⟨its, rv, p, hz⟩ := I.tuple hq
  obtain ⟨u, hu, ru⟩ := rv.get hx
  obtain ⟨f0, f1, f2, f3, f4, f5⟩ := hf it (by simp)
  refine wpAny_pyNext_tuple_item st (show s.heap.IsTuple a its.toArray from p) (x := u) (by simpa using hu) fun h' st' sb => ?_
  have I1 : Inv X pins σ H { s with heap := h' } := I.turned (t' := s.toks) (fun b o hb e => (sb.2 b hb).trans e) f0 f1 f3 f4 f5
  obtain ⟨o, e, c, d⟩ := id st'
  exact ⟨u, rfl, go_of (s := { s with heap := h' }) e c d (by decide) ⟨x, H, I1, ru, ⟨rfl, fun ys hy => by rw [I.tuple_inj hy hq]; exact hx⟩, st', fun b hb => (hf b hb).1⟩⟩
 done := by
  intro X hP hw hK hc i pins s σ H E I hf st hg
  subst hP hw hK
  obtain ⟨xs, hq, hx⟩ := hg
  obtain ⟨its, rv, p, hz⟩ := I.tuple hq
  obtain ⟨f0, f1, f2, f3, f4, f5⟩ := hf it (by simp)
  have hl := rv.length
  exact wpAny_pyNext_tuple_end (I.ok.hd hc) st (show s.heap.IsTuple a its.toArray from p) (by simp; omega) fun h' eb => ⟨rfl, I.turned (t' := s.toks) (fun b o hb e => eb b o hb e) f0 f1 f3 f4 f5⟩
 self := fun _ _ _ _ _ st h => wpAny_pyIter_tupleiter st h
theorem turn_range {P : Program} {w : World} {K : Frag} {tg : Expr} (it : Addr) (lo : Int) (n : Nat) : Turn P w K tg (Itr lo n) [it] it (fun i h => IsRangeIter h it (lo + (i : Nat) * 1) ((n : Int) - (i : Nat)) 1) where
 mem := by simp
 obj := fun i h st b hb => by
  have e : b = it := by simpa using hb
  subst e
  exact ⟨_, st, fun v z => by
   have z' : Data.fields _ = Data.cell v := z
   cases z'⟩
 keep := fun i h h' st k => k it (by simp) _ st
 item := by
  intro X hP hw hK hc i pins s σ H E I hf st hg
  subst hP hw hK
  obtain ⟨f0, f1, f2, f3, f4, f5⟩ := hf it (by simp)
  have W := Walks.range (prog := X.prog) (w := X.w) (I.ok.hd hc) it lo 1 n
  refine W.item i s _ _ hg st fun v h' tk hv st' kk => ?_
  obtain ⟨t, rfl⟩ := hv
  have I1 : Inv X pins σ H { s with heap := h', toks := tk } := I.turned (fun b o hb e => kk b o (by simpa using hb) e) f0 f1 f3 f4 f5
  refine ⟨_, rfl, go_of (s := { s with heap := h', toks := tk }) (n := "range_iterator") st' rfl rfl (by decide) ⟨.int (lo + i), H, I1, ⟨t, ?_⟩, ⟨rfl, rfl⟩, st', fun b hb => (hf b hb).1⟩⟩
  rw [Int.mul_one]
 done := by
  intro X hP hw hK hc i pins s σ H E I hf st hg
  subst hP hw hK
  obtain ⟨f0, f1, f2, f3, f4, f5⟩ := hf it (by simp)
  exact wpAny_pyNext_range_end (I.ok.hd hc) st (by have : n <= i := hg; omega) fun h' eb => ⟨rfl, I.turned (t' := s.toks) (fun b o hb e => eb b o hb e) f0 f1 f3 f4 f5⟩
 self := fun _ _ _ _ _ st h => wpAny_pyIter_rangeiter st h
end L2
namespace L2
open PySem PySem.Spec PyProof.Rows
section
variable {X : Cx} {tg : Expr}
def iList (K : Frag) (tl : TE) : TI := fun σ H R => tl σ H fun x H1 => ∃ a, x = .ref a /\ (∃ xs, SqL K H1 a xs) /\ R (Itl K a) H1
def iTup (K : Frag) (tl : TE) : TI := fun σ H R => tl σ H fun x H1 => ∃ a, x = .ref a /\ (∃ xs, SqT K H1 a xs) /\ R (Itt K a) H1
theorem qbr {l : Expr} {tl : TE} (hl : PE X l tl) : PI X tg l (iList X.K tl) := by
 intro pins s σ H R I h
 refine thn (hl pins s σ H _ I h) fun v s1 hq__ => ?_
 obtain ⟨x, H1, I1, r1, q1⟩ := hq__
 obtain ⟨a, e, ⟨xs, hq⟩, q⟩ := q1
 subst e
 cases r1
 obtain ⟨its, rv, p, hz⟩ := I1.list hq
 refine wpAny_pyIter_list p.isList ?_
 refine ⟨s1.heap.objs.size, [s1.heap.objs.size], _, _, H1, rfl, I1.kept (t' := s1.toks) fun b o e => Heap.get?_push_of_some _ e, turn_list a _, ⟨_, Heap.get?_push_size _ rfl, rfl, rfl⟩, fun b hb => ?_, q⟩
 have e : b = s1.heap.objs.size := by simpa using hb
 subst e
 exact I1.fpOk (Nat.le_refl _) (I1.hok.fresh (Nat.le_refl _))
theorem pi_tup {l : Expr} {tl : TE} (hl : PE X l tl) : PI X tg l (iTup X.K tl) := by
 intro pins s σ H R I h
 refine thn (hl pins s σ H _ I h) fun v s1 hq__ => ?_
 obtain ⟨x, H1, I1, r1, q1⟩ := hq__
 obtain ⟨a, e, ⟨xs, hq⟩, q⟩ := q1
 subst e
 cases r1
 obtain ⟨its, rv, p, hz⟩ := I1.tuple hq
 refine wpAny_pyIter_tuple (show s1.heap.IsTuple a its.toArray from p) ?_
 refine ⟨s1.heap.objs.size, [s1.heap.objs.size], _, _, H1, rfl, I1.kept (t' := s1.toks) fun b o e => Heap.get?_push_of_some _ e, turn_tuple a _, ⟨_, Heap.get?_push_size _ rfl, rfl, rfl⟩, fun b hb => ?_, q⟩
 have e : b = s1.heap.objs.size := by simpa using hb
 subst e
 exact I1.fpOk (Nat.le_refl _) (I1.hok.fresh (Nat.le_refl _))
theorem range_it {pins : List (Addr × Obj)} {σ : St} {H : Hp} {s : Shared} {R : It -> Hp -> Prop} {E : Value -> Shared -> Prop} {lo hi : Int} {t u v : Tok} {tk : Nat} (I : Inv X pins σ H s) (h1 : -(2 ^ 62) <= lo) (h2 : lo < 2 ^ 62) (h3 : -(2 ^ 62) <= hi) (h4 : hi < 2 ^ 62)
  (q : R (Itr lo (hi - lo).toNat) H) : wpAny (model X.prog X.w) X.A (pyIter (.ref s.heap.objs.size)) (PIE X pins σ tg R) E { s with heap := s.heap.push { cls := .type "range", data := .fields #[.int lo t, .int hi u, .int 1 v] }, toks := tk } := by
 refine wpAny_pyIter_range (IsRange.new ..) (small_one h1 h2 h3 h4) ?_
 have I1 : Inv X pins σ H { s with heap := s.heap.push { cls := .type "range", data := .fields #[.int lo t, .int hi u, .int 1 v] }, toks := tk } := I.kept fun b o e => Heap.get?_push_of_some _ e
 refine ⟨(s.heap.push { cls := .type "range", data := .fields #[.int lo t, .int hi u, .int 1 v] }).objs.size, [(s.heap.push { cls := .type "range", data := .fields #[.int lo t, .int hi u, .int 1 v] }).objs.size], _, _, H, rfl,
  I1.kept (t' := tk) fun b o e => Heap.get?_push_of_some _ e, turn_range _ lo (hi - lo).toNat, ?_, fun b hb => ?_, q⟩
 ·have e1 : lo + ((0 : Nat) : Int) * 1 = lo := by simp
  have e2 : (((hi - lo).toNat : Nat) : Int) - ((0 : Nat) : Int) = Builtin.Range.rangeSize lo hi 1 := by rw [rangeSize_one]; split <;> omega
  show IsRangeIter _ _ (lo + ((0 : Nat) : Int) * 1) ((((hi - lo).toNat : Nat) : Int) - ((0 : Nat) : Int)) 1
  rw [e1, e2]
  exact Heap.get?_push_size _ rfl
 ·have e : b = (s.heap.push { cls := .type "range", data := .fields #[.int lo t, .int hi u, .int 1 v] }).objs.size := by simpa using hb
  subst e
  exact I1.fpOk (Nat.le_refl _) (I1.hok.fresh (Nat.le_refl _))
def iRng1 (ta : TA) : TI := fun σ H R => ta σ H fun vs H1 => ∃ j : Int, vs = [.int j] /\ -(2 ^ 62) <= j /\ j < 2 ^ 62 /\ R (Itr 0 j.toNat) H1
theorem pi_range1 {a : Expr} {ta : TA} {p pos : Pos} (hg : Gl X "range") (hm : X.mg "range" = none) (ha : PA X [a] ta) (hs : starEach [a] X.env = [(false, eval a X.env)] := by rfl) : PI X tg (.Call (.Name "range" p) [a] [] pos) (iRng1 ta) := by
 intro pins s σ H R I h
 refine Call_ (ld_blt I hg hm boot_range (PyProof.Rows.callWith_type1 (thn (ha pos pins s σ H _ I h) fun us s1 hq__ => ?_) hs rfl))
 obtain ⟨vs, H1, I1, r1, q1⟩ := hq__
 obtain ⟨j, e, q1, q2, q⟩ := q1
 subst e
 cases r1 with
 | cons r rr =>
  cases rr
  obtain ⟨t, rfl⟩ := r
  exact call_range_1 (range_it I1 (by omega) (by omega) q1 q2 (by simpa using q))
def tFor (wi : TI) (g : TG) (tb : TS) : TS := fun D σ H => wi σ H fun J H1 => ∃ W : Nat -> Nat -> St -> Hp -> Prop, (∃ m, W 0 m σ H1) /\ ∀ i m σ H, W i m σ H ->
 (J.stop i H /\ D.nx σ H) \/ (J.go i H /\ ∃ N : St -> Hp -> Prop, (∀ σ' H', N σ' H' -> ∃ m', m' < m /\ W (i + 1) m' σ' H') /\ ∀ x H', J.yld i H x H' -> g x σ H' fun σ2 H2 => tb { D with nx := N, ct := N, bk := D.nx } σ2 H2)
def pinsAt (fp : List Addr) (h : Heap) : List (Addr × Obj) := fp.filterMap fun b => (h.get? b).map fun o => (b, o)
theorem mem_pinsAt {fp : List Addr} {h : Heap} {b : Addr} {o : Obj} (hb : b ∈ fp) (e : h.get? b = some o) : (b, o) ∈ pinsAt fp h := List.mem_filterMap.mpr ⟨b, hb, by rw [e]; rfl⟩
theorem of_pinsAt {fp : List Addr} {h : Heap} {p : Addr × Obj} (hp : p ∈ pinsAt fp h) : p.1 ∈ fp /\ h.get? p.1 = some p.2 := by
 obtain ⟨b, hb, e⟩ := List.mem_filterMap.mp hp
 cases q : h.get? b with
 | none => rw [q] at e; cases e
 | some o =>
  rw [q] at e
  have e' : (b, o) = p := Option.some.inj e
  subst e'
  exact ⟨hb, q⟩
theorem Inv.pinned {pins : List (Addr × Obj)} {σ : St} {H : Hp} {s : Shared} {fp : List Addr} (I : Inv X pins σ H s) (hf : ∀ b ∈ fp, FpOk X pins H b) (ho : ∀ b ∈ fp, ∃ o, s.heap.get? b = some o /\ ∀ v, o.data ≠ .cell v) : Inv X (pins ++ pinsAt fp s.heap) σ H s :=
 I.pins_of fun p hp => (List.mem_append.mp hp).elim (fun z => I.pin p (List.mem_append_right _ z)) fun z => by
  obtain ⟨hb, e⟩ := of_pinsAt z
  obtain ⟨f0, f1, f2, _⟩ := hf p.1 hb
  obtain ⟨o, e', d⟩ := ho p.1 hb
  rw [e] at e'; cases e'
  exact ⟨e, f0, f1, f2, d⟩
theorem Inv.unpinned {pins pl : List (Addr × Obj)} {σ : St} {H : Hp} {s : Shared} (I : Inv X (pins ++ pl) σ H s) : Inv X pins σ H s := I.pins_of fun p hp => I.pin p (List.mem_append_right _ (List.mem_append_left _ hp))
theorem qdt {iter : Expr} {body : List Stmt} {wi : TI} {g : TG} {tb : TS} {pos : Pos} (hp : PassesOwn (model X.prog X.w) X.A X.env X.xe) (hc : X.calm = true) (hi : PI X tg iter wi) (hg : PG X tg g) (hb : PSs X body tb)
  (hs : ∀ x, foldedSetIterable iter X.env x = pure x := by intro _; rfl) : PS X (.For tg iter body [] pos) (tFor wi g tb) := by
 intro pins s σ H D I h
 refine wpAny_For (thn (hi pins s σ H _ I h) fun v s1 h1 => thn h1 fun itv s2 h2 => ?_) hs
 obtain ⟨it, fp, tn, J, H2, e, I2, T, st2, f2, W, ⟨m0, w0⟩, turn⟩ := h2
 subst e
 have stat : ∀ {H' : Hp}, (∀ b ∈ fp, H' b = none) -> ∀ b ∈ fp, FpOk X pins H' b := fun hn b hb => ⟨hn b hb, (f2 b hb).2⟩
 refine codeAny_forLoop_any (fun n s' => ∃ i σ' H', Inv X pins σ' H' s' /\ tn i s'.heap /\ (∀ b ∈ fp, H' b = none) /\ W i n σ' H') ?_ m0 ⟨0, σ, H2, I2, st2, fun b hb => (f2 b hb).1, w0⟩
 rintro n s3 ⟨i, σ3, H3, I3, st3, fr3, w3⟩
 rcases turn i n σ3 H3 w3 with ⟨stop, qn⟩ | ⟨go, N, hN, step⟩
 ·refine wpAny_passesOwn hp (thn (T.done X rfl rfl rfl hc i pins s3 σ3 H3 X.xe I3 (stat fr3) st3 stop) fun r s4 hq__ => ?_)
  obtain ⟨hr, I4⟩ := hq__
  subst hr
  exact wpAny_execs_nil ⟨σ3, H3, I4, qn⟩
 ·refine wpAny_passesOwn hp (thn (T.item X rfl rfl rfl hc i pins s3 σ3 H3 X.xe I3 (stat fr3) st3 go) fun r s4 hq__ => ?_)
  obtain ⟨u, hr, h4⟩ := hq__
  subst hr
  refine wpAny_passesOwn hp (thn h4 fun _ s5 hq__ => ?_)
  obtain ⟨x, H5, I5, r5, y5, st5, fr5⟩ := hq__
  have I5' := I5.pinned (stat fr5) (T.obj _ _ st5)
  refine wpAny_passesOwn hp (thn (hg _ s5 σ3 H5 x u _ I5' r5 (step x H5 y5)) fun _ s6 hq__ => ?_)
  obtain ⟨σ6, H6, I6, q6⟩ := hq__
  refine wpAny_passesOwn hp (thn (hb _ s6 σ6 H6 _ I6 q6) fun f s7 q7 => ?_)
  have again : ∀ {σ7 : St} {H7 : Hp}, Inv X (pins ++ pinsAt fp s5.heap) σ7 H7 s7 -> N σ7 H7 -> ∃ m, m < n /\ ∃ i σ' H', Inv X pins σ' H' s7 /\ tn i s7.heap /\ (∀ b ∈ fp, H' b = none) /\ W i m σ' H' := fun {σ7 H7} I7 n7 => by
   obtain ⟨m', hm, w7⟩ := hN σ7 H7 n7
   refine ⟨m', hm, i + 1, σ7, H7, I7.unpinned, T.keep _ _ _ st5 fun b hb o e => (I7.pin (b, o) (List.mem_append_right _ (List.mem_append_right _ (mem_pinsAt hb e)))).1, fun b hb => ?_, w7⟩
   obtain ⟨o, e, d⟩ := T.obj _ _ st5 b hb
   exact (I7.pin (b, o) (List.mem_append_right _ (List.mem_append_right _ (mem_pinsAt hb e)))).2.1
  cases f with
  | next => obtain ⟨σ7, H7, I7, n7⟩ := q7; exact again I7 n7
  | cont => obtain ⟨σ7, H7, I7, n7⟩ := q7; exact again I7 n7
  | brk => obtain ⟨σ7, H7, I7, q7⟩ := q7; exact ⟨σ7, H7, I7.unpinned, q7⟩
  | ret v => obtain ⟨x7, σ7, H7, I7, r7, q7⟩ := q7; exact ⟨x7, σ7, H7, I7.unpinned, r7, q7⟩
end
theorem for_list {K : Frag} {a : Addr} {xs : List V} {g : TG} {tb : TS} {D : Ends} {σ : St} {H : Hp} (Pv : Nat -> St -> Hp -> Prop) (h0 : Pv 0 σ H) (hl : ∀ i σ H, i <= xs.length -> Pv i σ H -> SqL K H a xs)
  (hs : ∀ i x σ H, xs[i]? = some x -> Pv i σ H -> g x σ H fun σ2 H2 => tb { D with nx := Pv (i + 1), ct := Pv (i + 1), bk := D.nx } σ2 H2) (hd : ∀ σ H, Pv xs.length σ H -> D.nx σ H) :
  ∃ W : Nat -> Nat -> St -> Hp -> Prop, (∃ m, W 0 m σ H) /\ ∀ i m σ H, W i m σ H ->
   ((Itl K a).stop i H /\ D.nx σ H) \/ ((Itl K a).go i H /\ ∃ N : St -> Hp -> Prop, (∀ σ' H', N σ' H' -> ∃ m', m' < m /\ W (i + 1) m' σ' H') /\ ∀ x H', (Itl K a).yld i H x H' -> g x σ H' fun σ2 H2 => tb { D with nx := N, ct := N, bk := D.nx } σ2 H2) := by
 refine ⟨fun i m σ H => m = xs.length - i /\ i <= xs.length /\ Pv i σ H, ⟨xs.length, by simp, Nat.zero_le _, h0⟩, ?_⟩
 rintro i m σ H ⟨rfl, hi, p⟩
 have q := hl i σ H hi p
 by_cases hlt : i < xs.length
 ·refine .inr ⟨⟨xs, xs[i], q, by simp [hlt]⟩, Pv (i + 1), fun σ' H' p' => ⟨xs.length - (i + 1), by omega, rfl, hlt, p'⟩, fun x H' y => ?_⟩
  obtain ⟨e, y⟩ := y
  subst e
  exact hs i x σ _ (y xs q) p
 ·have e : i = xs.length := by omega
  subst e
  exact .inl ⟨⟨xs, q, Nat.le_refl _⟩, hd σ H p⟩
theorem for_range {lo : Int} {n : Nat} {g : TG} {tb : TS} {D : Ends} {σ : St} {H : Hp} (Pv : Nat -> St -> Hp -> Prop) (h0 : Pv 0 σ H)
  (hs : ∀ i σ H, i < n -> Pv i σ H -> g (.int (lo + i)) σ H fun σ2 H2 => tb { D with nx := Pv (i + 1), ct := Pv (i + 1), bk := D.nx } σ2 H2) (hd : ∀ σ H, Pv n σ H -> D.nx σ H) :
  ∃ W : Nat -> Nat -> St -> Hp -> Prop, (∃ m, W 0 m σ H) /\ ∀ i m σ H, W i m σ H ->
   ((Itr lo n).stop i H /\ D.nx σ H) \/ ((Itr lo n).go i H /\ ∃ N : St -> Hp -> Prop, (∀ σ' H', N σ' H' -> ∃ m', m' < m /\ W (i + 1) m' σ' H') /\ ∀ x H', (Itr lo n).yld i H x H' -> g x σ H' fun σ2 H2 => tb { D with nx := N, ct := N, bk := D.nx } σ2 H2) := by
 refine ⟨fun i m σ H => m = n - i /\ i <= n /\ Pv i σ H, ⟨n, by simp, Nat.zero_le _, h0⟩, ?_⟩
 rintro i m σ H ⟨rfl, hi, p⟩
 by_cases hlt : i < n
 ·refine .inr ⟨hlt, Pv (i + 1), fun σ' H' p' => ⟨n - (i + 1), by omega, rfl, hlt, p'⟩, fun x H' y => ?_⟩
  obtain ⟨e, y⟩ := y
  subst e y
  exact hs i σ _ hlt p
 ·have e : i = n := by omega
  subst e
  exact .inl ⟨Nat.le_refl _, hd σ H p⟩
end L2
namespace L2
open PySem PySem.Spec PyProof.Rows
abbrev R2 := V -> V -> Hp -> VK -> Prop
def OpR (X : Cx) (f : Value -> Value -> Sem Value) (r : R2) : Prop :=
 ∀ (pins : List (Addr × Obj)) (s : Shared) (σ : St) (H : Hp) (x y : V) (v u : Value) (Q : VK), Inv X pins σ H s -> RelV x v -> RelV y u -> r x y H Q ->
  wpAny (model X.prog X.w) X.A (f v u) (EP X pins σ Q) X.xe s
def UnR (X : Cx) (f : Value -> Sem Value) (r : V -> Hp -> VK -> Prop) : Prop :=
 ∀ (pins : List (Addr × Obj)) (s : Shared) (σ : St) (H : Hp) (x : V) (v : Value) (Q : VK), Inv X pins σ H s -> RelV x v -> r x H Q ->
  wpAny (model X.prog X.w) X.A (f v) (EP X pins σ Q) X.xe s
def CallR (X : Cx) (f : Value) (r : List V -> Hp -> VK -> Prop) : Prop :=
 ∀ (pins : List (Addr × Obj)) (s : Shared) (σ : St) (H : Hp) (xs : List V) (us : List Value) (Q : VK), Inv X pins σ H s -> Vals xs us -> r xs H Q ->
  wpAny (model X.prog X.w) X.A (call f us) (EP X pins σ Q) X.xe s
def tOp (r : R2) (ta tb : TE) : TE := fun σ H Q => ta σ H fun x H1 => tb σ H1 fun y H2 => r x y H2 Q
def tUn (r : V -> Hp -> VK -> Prop) (ta : TE) : TE := fun σ H Q => ta σ H fun x H1 => r x H1 Q
def rI (C : Int -> Int -> Prop) (g : Int -> Int -> V) : R2 := fun x y H Q => ∃ i j, x = .int i /\ y = .int j /\ C i j /\ Q (g i j) H
def rI0 (g : Int -> Int -> V) : R2 := fun x y H Q => ∃ i j, x = .int i /\ y = .int j /\ Q (g i j) H
def rU (g : Int -> V) : V -> Hp -> VK -> Prop := fun x H Q => ∃ i, x = .int i /\ Q (g i) H
section
variable {X : Cx} {a b c : Expr} {ta tb tc : TE} {pos : Pos}
theorem binT (ha : PE X a ta) (hb : PE X b tb) {pins : List (Addr × Obj)} {s : Shared} {σ : St} {H : Hp} {R : V -> V -> Hp -> Prop} (I : Inv X pins σ H s)
  (h : ta σ H fun x H1 => tb σ H1 fun y H2 => R x y H2) {Q : Value -> Shared -> Prop} {f : Value -> Value -> Sem Value}
  (hf : ∀ v u s2 x y H2, Inv X pins σ H2 s2 -> RelV x v -> RelV y u -> R x y H2 -> wpAny (model X.prog X.w) X.A (f v u) Q X.xe s2) :
  wpAny (model X.prog X.w) X.A (eval a X.env) (fun v s₁ => wpAny (model X.prog X.w) X.A (eval b X.env) (fun u s₂ => wpAny (model X.prog X.w) X.A (f v u) Q X.xe s₂) X.xe s₁) X.xe s := by
 refine thn (ha pins s σ H _ I h) fun v s1 hq__ => ?_
 obtain ⟨x, H1, I1, r1, q1⟩ := hq__
 refine thn (hb pins s1 σ H1 _ I1 q1) fun u s2 hq__ => ?_
 obtain ⟨y, H2, I2, r2, q2⟩ := hq__
 exact hf v u s2 x y H2 I2 r1 r2 q2
theorem qak {op : Operator} {r : R2} (ho : OpR X (binaryOp op) r) (ha : PE X a ta) (hb : PE X b tb) : PE X (.BinOp a op b pos) (tOp r ta tb) := by
 intro pins s σ H Q I h
 exact wpAny_BinOp (binT ha hb I h fun v u s2 x y H2 I2 rx ry q => ho pins s2 σ H2 x y v u Q I2 rx ry q)
theorem pe_un {op : UnaryOp} {r : V -> Hp -> VK -> Prop} (ho : UnR X (unaryOp op) r) (ha : PE X a ta) : PE X (.UnaryOp op a pos) (tUn r ta) := by
 intro pins s σ H Q I h
 exact UnaryOp_ (thn (ha pins s σ H _ I h) fun v s1 ⟨x, H1, I1, r1, q1⟩ => ho pins s1 σ H1 x v Q I1 r1 q1)
theorem opI {f : Value -> Value -> Sem Value} {C : Int -> Int -> Prop} {g : Int -> Int -> Int}
  (rule : ∀ (i j : Int) (t u : Tok) (s : Shared) (Q : Value -> Shared -> Prop) (E : Value -> Shared -> Prop), C i j -> Q (.int (g i j) s.toks) { s with toks := s.toks + 1 } -> wpAny (model X.prog X.w) X.A (f (.int i t) (.int j u)) Q E s) :
  OpR X f (rI C fun i j => .int (g i j)) := by
 intro pins s σ H x y v u Q I rx ry h
 obtain ⟨i, j, rfl, rfl, hc, q⟩ := h
 obtain ⟨t, rfl⟩ := rx
 obtain ⟨t', rfl⟩ := ry
 exact rule i j t t' s _ _ hc ⟨.int (g i j), H, I.tok _, ⟨_, rfl⟩, q⟩
theorem opI0 {f : Value -> Value -> Sem Value} {g : Int -> Int -> Int}
  (rule : ∀ (i j : Int) (t u : Tok) (s : Shared) (Q : Value -> Shared -> Prop) (E : Value -> Shared -> Prop), Q (.int (g i j) s.toks) { s with toks := s.toks + 1 } -> wpAny (model X.prog X.w) X.A (f (.int i t) (.int j u)) Q E s) :
  OpR X f (rI0 fun i j => .int (g i j)) := by
 intro pins s σ H x y v u Q I rx ry h
 obtain ⟨i, j, rfl, rfl, q⟩ := h
 obtain ⟨t, rfl⟩ := rx
 obtain ⟨t', rfl⟩ := ry
 exact rule i j t t' s _ _ ⟨.int (g i j), H, I.tok _, ⟨_, rfl⟩, q⟩
theorem opB0 {f : Value -> Value -> Sem Value} {g : Int -> Int -> Bool}
  (rule : ∀ (i j : Int) (t u : Tok) (s : Shared) (Q : Value -> Shared -> Prop) (E : Value -> Shared -> Prop), Q (.bool (g i j)) s -> wpAny (model X.prog X.w) X.A (f (.int i t) (.int j u)) Q E s) :
  OpR X f (rI0 fun i j => .bl (g i j)) := by
 intro pins s σ H x y v u Q I rx ry h
 obtain ⟨i, j, rfl, rfl, q⟩ := h
 obtain ⟨t, rfl⟩ := rx
 obtain ⟨t', rfl⟩ := ry
 exact rule i j t t' s _ _ ⟨.bl (g i j), H, I, rfl, q⟩
def CDiv (i j : Int) : Prop := 0 < j /\ j < 1073741824
def CPow (i j : Int) : Prop := 0 <= j /\ j <= 1000000 /\ i.natAbs < 2 ^ 64
def CMul (i j : Int) : Prop := (-(2 ^ 64) < i /\ i < 2 ^ 64) \/ (-(2 ^ 64) < j /\ j < 2 ^ 64)
theorem CMul.ok {i j : Int} (h : CMul i j) : IntMulOk i j := by
 rcases h with ⟨h1, h2⟩ | ⟨h1, h2⟩
 ·exact .of_left (intBits_le_64 h1 h2)
 ·exact .of_right (intBits_le_64 h1 h2)
theorem qbc : OpR X (binaryOp .Add) (rI0 fun i j => .int (i + j)) := opI0 fun _ _ _ _ _ _ _ q => add_int q
theorem qcs : OpR X (binaryOp .Sub) (rI0 fun i j => .int (i - j)) := opI0 fun _ _ _ _ _ _ _ q => sub_int q
theorem qdd : OpR X (binaryOp .Mult) (rI CMul fun i j => .int (i * j)) := opI fun _ _ _ _ _ _ _ hc q => mul_int q hc.ok
theorem qdq : OpR X (binaryOp .FloorDiv) (rI CDiv fun i j => .int (i / j)) := opI fun i j _ _ _ _ _ hc q => by
 have h1 : (0 : Int) < j := hc.1
 have h2 : j < 1073741824 := hc.2
 exact floordiv_int (by omega) (by rw [Int.fdiv_eq_ediv_of_nonneg i (by omega)]; exact q) (.inl (PyProof.noPylong_small (by omega)))
theorem qbp : OpR X (binaryOp .Mod) (rI (fun _ j => 0 < j) fun i j => .int (i % j)) := opI fun i j _ _ _ _ _ hc q => by
 have h1 : (0 : Int) < j := hc
 exact mod_int' (by omega) (by rw [Int.fmod_eq_emod_of_nonneg i (by omega)]; exact q)
theorem qdo : OpR X (binaryOp .Pow) (rI CPow fun i j => .int (i ^ j.toNat)) := opI fun _ _ _ _ _ _ _ hc q => pow_int_small hc.1 hc.2.1 hc.2.2 q
theorem unI {f : Value -> Sem Value} {g : Int -> Int}
  (rule : ∀ (i : Int) (t : Tok) (s : Shared) (Q : Value -> Shared -> Prop) (E : Value -> Shared -> Prop), Q (.int (g i) s.toks) { s with toks := s.toks + 1 } -> wpAny (model X.prog X.w) X.A (f (.int i t)) Q E s) :
  UnR X f (rU fun i => .int (g i)) := by
 intro pins s σ H x v Q I rx h
 obtain ⟨i, rfl, q⟩ := h
 obtain ⟨t, rfl⟩ := rx
 exact rule i t s _ _ ⟨.int (g i), H, I.tok _, ⟨_, rfl⟩, q⟩
theorem un_neg : UnR X (unaryOp .USub) (rU fun i => .int (-i)) := unI fun _ _ _ _ _ q => neg_int q
end
def scal : V -> V -> Bool
 | .non, .non => true | .non, .int _ => true | .int _, .non => true | .non, .bl _ => true | .bl _, .non => true | .non, .str _ => true | .str _, .non => true
 | .int _, .int _ => true | .bl _, .bl _ => true | .str _, .str _ => true | .byt _, .byt _ => true
 | .int _, .str _ => true | .str _, .int _ => true | .bl _, .str _ => true | .str _, .bl _ => true
 | _, _ => false
def rEq : R2 := fun x y H Q => scal x y = true /\ Q (.bl (decide (x = y))) H
def rNe : R2 := fun x y H Q => scal x y = true /\ Q (.bl (!decide (x = y))) H
theorem dec_int {i j : Int} : decide (V.int i = V.int j) = (i == j) := by
 rw [Bool.eq_iff_iff]
 simp
theorem dec_bl {i j : Bool} : decide (V.bl i = V.bl j) = (i == j) := by
 rw [Bool.eq_iff_iff]
 simp
theorem dec_str {i j : Str} : decide (V.str i = V.str j) = (i == j) := by
 rw [Bool.eq_iff_iff]
 simp
theorem dec_byt {i j : Array UInt8} : decide (V.byt i = V.byt j) = (i.toList == j.toList) := by
 rw [Bool.eq_iff_iff]
 cases i
 cases j
 simp
section
variable {X : Cx} {a b c : Expr} {ta tb tc : TE} {pos : Pos}
theorem qba {pins : List (Addr × Obj)} {σ : St} {H : Hp} {s : Shared} {Q : VK} {k k' : Bool} (I : Inv X pins σ H s) (q : Q (.bl k) H) (e : k = k') : EP X pins σ Q (.bool k') s := by
 subst e
 exact ⟨.bl k, H, I, rfl, q⟩
theorem op_eq : OpR X (compareOp .Eq) rEq := by
 intro pins s σ H x y v u Q I rx ry h
 obtain ⟨hs, q⟩ := h
 cases x with
 | non =>
  cases rx
  cases y with
  | non => cases ry; exact PySem.EqNone.eq_none_none (qba I q (by simp))
  | bl j => cases ry; exact PySem.EqNone.eq_none_bool (qba I q (by simp))
  | int j => obtain ⟨t', rfl⟩ := ry; exact PySem.EqNone.eq_none_int (qba I q (by simp))
  | str j => obtain ⟨t', rfl⟩ := ry; exact PySem.EqNone.eq_none_str (qba I q (by simp))
  | _ => exact absurd (show false = true from hs) Bool.false_ne_true
 | bl i =>
  cases rx
  cases y with
  | non => cases ry; exact PySem.EqNone.eq_bool_none (qba I q (by simp))
  | bl j => cases ry; exact eq_bool (qba I q dec_bl)
  | str j => obtain ⟨t', rfl⟩ := ry; exact PySem.EqMixed.eq_bool_str (qba I q (by simp))
  | _ => exact absurd (show false = true from hs) Bool.false_ne_true
 | int i =>
  obtain ⟨t, rfl⟩ := rx
  cases y with
  | non => cases ry; exact PySem.EqNone.eq_int_none (qba I q (by simp))
  | int j => obtain ⟨t', rfl⟩ := ry; exact eq_int (qba I q dec_int)
  | str j => obtain ⟨t', rfl⟩ := ry; exact PySem.EqMixed.eq_int_str (qba I q (by simp))
  | _ => exact absurd (show false = true from hs) Bool.false_ne_true
 | str i =>
  obtain ⟨t, rfl⟩ := rx
  cases y with
  | non => cases ry; exact PySem.EqNone.eq_str_none (qba I q (by simp))
  | bl j => cases ry; exact PySem.EqMixed.eq_str_bool (qba I q (by simp))
  | int j => obtain ⟨t', rfl⟩ := ry; exact PySem.EqMixed.eq_str_int (qba I q (by simp))
  | str j => obtain ⟨t', rfl⟩ := ry; exact eq_str (qba I q dec_str)
  | _ => exact absurd (show false = true from hs) Bool.false_ne_true
 | byt i =>
  obtain ⟨t, rfl⟩ := rx
  cases y with
  | byt j => obtain ⟨t', rfl⟩ := ry; exact PySem.W.eq_bytes (qba I q dec_byt)
  | _ => exact absurd (show false = true from hs) Bool.false_ne_true
 | _ => cases y <;> exact absurd (show false = true from hs) Bool.false_ne_true
theorem op_ne : OpR X (compareOp .NotEq) rNe := by
 intro pins s σ H x y v u Q I rx ry h
 obtain ⟨hs, q⟩ := h
 cases x with
 | non =>
  cases rx
  cases y with
  | non => cases ry; exact PySem.EqNone.ne_none_none (qba I q (by simp))
  | bl j => cases ry; exact PySem.EqNone.ne_none_bool (qba I q (by simp))
  | int j => obtain ⟨t', rfl⟩ := ry; exact PySem.EqNone.ne_none_int (qba I q (by simp))
  | str j => obtain ⟨t', rfl⟩ := ry; exact PySem.EqNone.ne_none_str (qba I q (by simp))
  | _ => exact absurd (show false = true from hs) Bool.false_ne_true
 | bl i =>
  cases rx
  cases y with
  | non => cases ry; exact PySem.EqNone.ne_bool_none (qba I q (by simp))
  | bl j => cases ry; exact ne_bool (qba I q (congrArg not dec_bl))
  | str j => obtain ⟨t', rfl⟩ := ry; exact PySem.EqMixed.ne_bool_str (qba I q (by simp))
  | _ => exact absurd (show false = true from hs) Bool.false_ne_true
 | int i =>
  obtain ⟨t, rfl⟩ := rx
  cases y with
  | non => cases ry; exact PySem.EqNone.ne_int_none (qba I q (by simp))
  | int j => obtain ⟨t', rfl⟩ := ry; exact ne_int (qba I q (congrArg not dec_int))
  | str j => obtain ⟨t', rfl⟩ := ry; exact PySem.EqMixed.ne_int_str (qba I q (by simp))
  | _ => exact absurd (show false = true from hs) Bool.false_ne_true
 | str i =>
  obtain ⟨t, rfl⟩ := rx
  cases y with
  | non => cases ry; exact PySem.EqNone.ne_str_none (qba I q (by simp))
  | bl j => cases ry; exact PySem.EqMixed.ne_str_bool (qba I q (by simp))
  | int j => obtain ⟨t', rfl⟩ := ry; exact PySem.EqMixed.ne_str_int (qba I q (by simp))
  | str j => obtain ⟨t', rfl⟩ := ry; exact ne_str (qba I q (congrArg not dec_str))
  | _ => exact absurd (show false = true from hs) Bool.false_ne_true
 | byt i =>
  obtain ⟨t, rfl⟩ := rx
  cases y with
  | byt j => obtain ⟨t', rfl⟩ := ry; exact PySem.W.ne_bytes (qba I q (congrArg not dec_byt))
  | _ => exact absurd (show false = true from hs) Bool.false_ne_true
 | _ => cases y <;> exact absurd (show false = true from hs) Bool.false_ne_true
theorem op_lt : OpR X (compareOp .Lt) (rI0 fun i j => .bl (decide (i < j))) := opB0 fun _ _ _ _ _ _ _ q => lt_int q
theorem op_gt : OpR X (compareOp .Gt) (rI0 fun i j => .bl (decide (j < i))) := opB0 fun _ _ _ _ _ _ _ q => gt_int q
theorem op_ge : OpR X (compareOp .GtE) (rI0 fun i j => .bl (decide (j <= i))) := opB0 fun _ _ _ _ _ _ _ q => ge_int q
theorem op_isN : OpR X (compareOp .Is) (fun x y H Q => y = .non /\ Q (.bl (decide (x = .non))) H) := by
 intro pins s σ H x y v u Q I rx ry h
 obtain ⟨rfl, q⟩ := h
 cases ry
 refine is_none_gen (qba I q ?_)
 cases x <;> first
  | (cases rx; rfl)
  | (obtain ⟨t, rfl⟩ := rx; rfl)
theorem op_notN : OpR X (compareOp .IsNot) (fun x y H Q => y = .non /\ Q (.bl (!decide (x = .non))) H) := by
 intro pins s σ H x y v u Q I rx ry h
 obtain ⟨rfl, q⟩ := h
 cases ry
 refine isnot_none_gen (qba I q ?_)
 cases x <;> first
  | (cases rx; rfl)
  | (obtain ⟨t, rfl⟩ := rx; rfl)
theorem qax (b : Expr) {op : CmpOp} (h : op ≠ .In := by decide) (h2 : op ≠ .NotIn := by decide) : behindInMarks op b = false := by
 have e1 : (op == CmpOp.In) = false := by cases op <;> first | rfl | exact absurd rfl h
 have e2 : (op == CmpOp.NotIn) = false := by cases op <;> first | rfl | exact absurd rfl h2
 cases b <;> simp [behindInMarks, e1, e2]
theorem qd3 {op : CmpOp} {r : R2} (ho : OpR X (compareOp op) r) (ha : PE X a ta) (hb : PE X b tb) (hm : behindInMarks op b = false) : PE X (.Compare a [op] [b] pos) (tOp r ta tb) := by
 intro pins s σ H Q I h
 exact wpAny_Compare1 (binT ha hb I h fun v u s2 x y H2 I2 rx ry q => ho pins s2 σ H2 x y v u Q I2 rx ry q) hm
def tTest (t : TE) : TT := fun σ H Q => t σ H fun x H' => ∃ k, x = .bl k /\ Q k H'
theorem qat {op : CmpOp} {r : R2} (ho : OpR X (compareOp op) r) (ha : PE X a ta) (hb : PE X b tb) (hm : behindInMarks op b = false) : PT X (.Compare a [op] [b] pos) (tTest (tOp r ta tb)) := by
 intro pins s σ H Q I h
 refine wpAny_isTrue_Compare1 (thn (ha pins s σ H _ I h) fun v s1 ⟨x, H1, I1, r1, q1⟩ => thn (hb pins s1 σ H1 _ I1 q1) fun u s2 ⟨y, H2, I2, r2, q2⟩ =>
  thn (ho pins s2 σ H2 x y v u _ I2 r1 r2 q2) fun c s3 ⟨z, H3, I3, r3, k, e, q3⟩ => ?_) hm
 subst e
 cases r3
 exact wpAny_truthy_bool ⟨H3, I3, q3⟩
theorem line63 : (sizeLine : Nat) < 2 ^ 63 := by rw [sizeLine_eq]; decide
theorem vals1 {x : V} {us : List Value} (r : Vals [x] us) : ∃ u, us = [u] /\ RelV x u := by
 cases r with
 | cons r1 r2 => cases r2; exact ⟨_, rfl, r1⟩
theorem vals2 {x y : V} {us : List Value} (r : Vals [x, y] us) : ∃ u w', us = [u, w'] /\ RelV x u /\ RelV y w' := by
 cases r with
 | cons r1 r2 =>
  cases r2 with
  | cons r3 r4 => cases r4; exact ⟨_, _, rfl, r1, r3⟩
theorem call_max2 (hc : X.calm = true) : CallR X (.builtin "max") (fun xs H Q => ∃ i j, xs = [.int i, .int j] /\ Q (.int (if j > i then j else i)) H) := by
 intro pins s σ H xs us Q I r h
 obtain ⟨i, j, rfl, q⟩ := h
 obtain ⟨u, w', rfl, ⟨t, rfl⟩, ⟨t', rfl⟩⟩ := vals2 r
 refine max_two_ints (I.ok.hd hc) fun h' tk k => ⟨_, H, I.kept k, ?_, q⟩
 by_cases hj : j > i
 ·rw [if_pos hj, if_pos hj]; exact ⟨_, rfl⟩
 ·rw [if_neg hj, if_neg hj]; exact ⟨_, rfl⟩
theorem call_min2 (hc : X.calm = true) : CallR X (.builtin "min") (fun xs H Q => ∃ i j, xs = [.int i, .int j] /\ Q (.int (if j < i then j else i)) H) := by
 intro pins s σ H xs us Q I r h
 obtain ⟨i, j, rfl, q⟩ := h
 obtain ⟨u, w', rfl, ⟨t, rfl⟩, ⟨t', rfl⟩⟩ := vals2 r
 refine min_two_ints (I.ok.hd hc) fun h' tk k => ⟨_, H, I.kept k, ?_, q⟩
 by_cases hj : j < i
 ·rw [if_pos hj, if_pos hj]; exact ⟨_, rfl⟩
 ·rw [if_neg hj, if_neg hj]; exact ⟨_, rfl⟩
end
end L2
namespace L2
open PySem PySem.Spec PyProof.Rows
structure ObjM (h : Heap) (x dx C : Addr) (mA : Str -> Option Value) : Prop where
 obj : h.get? x = some (PySem.W.instObj C dx)
 ns : h.Ns1 dx mA
 ne : dx ≠ x
theorem lookIn_ns {h : Heap} {dx : Addr} {mA : Str -> Option Value} (n : h.Ns1 dx mA) : ∃ od, h.get? dx = some od /\ ∀ name, PySem.W.lookIn name od = some (mA name) := by
 obtain ⟨o, es, ep, ho, hd, hk, _, hm⟩ := n
 refine ⟨o, ho, fun name => ?_⟩
 have e := hm name
 unfold nsFind findBy at e
 rw [<- Array.find?_toList] at e
 unfold PySem.W.lookIn
 rw [hd]
 dsimp only
 split
 ·rename_i y q
  rw [q] at e
  exact congrArg some e
 ·rename_i q
  rw [q] at e
  have a : es.toList.any (·.refKey) = false := by
   rw [List.any_eq_false]
   intro y hy
   obtain ⟨z, t, hkey⟩ := hk y (Array.mem_toList_iff.mp hy)
   simp [DictEntry.refKey, hkey]
  have a' : ¬ es.toList.any (·.refKey) = true := by rw [a]; exact Bool.false_ne_true
  rw [if_neg a']
  exact congrArg some e
theorem ObjM.look {h : Heap} {x dx C : Addr} {mA : Str -> Option Value} (I : ObjM h x dx C mA) : ∃ od, PySem.W.InstAt h x (PySem.W.instObj C dx) C (some od) /\ ∀ name, PySem.W.lookIn name od = some (mA name) :=
 let ⟨od, ho, hl⟩ := lookIn_ns I.ns
 ⟨od, ⟨I.obj, rfl, rfl, ho⟩, hl⟩
section
variable {prog : Program} {w : World} {A : Around} {E : Value -> Shared -> Prop} {s : Shared} {K : Frag} {x dx C f : Addr} {mA : Str -> Option Value} {name : Str} {v : Value}
theorem get_map {expr : Bool} {Q : Value -> Shared -> Prop} (X : K.In s.heap) (I : ObjM s.heap x dx C mA) (hg : PySem.W.plainGet K C name = true) (hh : PySem.W.hasDictIn K C = true)
  (ha : PySem.W.findIn K (.ref C) name = some none) (hv : mA name = some v) (hv' : PySem.W.handedIn v = true) (h : Q v { s with toks := s.toks + 1 }) :
  wpAny (model prog w) A (getAttr (.ref x) name expr) Q E s := by
 obtain ⟨od, J, hl⟩ := I.look
 exact PySem.W.get_value X J (PySem.W.plainGet_of hg).1 (PySem.W.findObj_own hh ha rfl (by rw [hl, hv])) hv' h
theorem get_meth {pl : Sem Bool} {Q : Value × List Value -> Shared -> Prop} (X : K.In s.heap) (I : ObjM s.heap x dx C mA) (hg : PySem.W.plainGet K C name = true)
  (hf : PySem.W.findIn K (.ref C) name = some (some (.ref f))) (ht : PySem.W.isFn K (.ref f) = true) (hv : mA name = none) (h : Q (.ref f, [.ref x]) s) :
  wpAny (model prog w) A (getMethod (.ref x) name pl) Q E s := by
 obtain ⟨od, J, hl⟩ := I.look
 exact PySem.W.method_fn X J (PySem.W.plainGet_of hg).1 (PySem.W.plainGet_of hg).2 hf (beq_iff_eq.mp ht) (by show (PySem.W.lookIn name od).map (·.isSome) = some false; rw [hl, hv]; rfl) h
theorem set_map {ns : List Str} {Q : Unit -> Shared -> Prop} (X : K.In s.heap) (I : ObjM s.heap x dx C mA)
  (hs : PySem.W.findIn K (.ref C) "__setattr__" = some (some (.builtin "object.__setattr__"))) (hp : PySem.W.plainOver K C = true) (ht : PySem.W.takerIn K C name = some none) (hh : PySem.W.hasDictIn K C = true)
  (hw : PySem.Within mA ns) (hsz : ns.length <= sizeLine)
  (h : ∀ h', ObjM h' x dx C (fun y => if y = name then some v else mA y) -> Heap.SameBut dx s.heap h' -> Q () { s with heap := h', toks := s.toks + 2 }) :
  wpAny (model prog w) A (setAttr (.ref x) name v) Q E s := by
 obtain ⟨od, J, hl⟩ := I.look
 refine PySem.W.set_plain X J hs (PySem.W.osa_open (s := { s with toks := s.toks + 1 }) (r := none) X J hp ht fun b => ?_)
 obtain ⟨cd, hc, hd'⟩ := PySem.W.any_some hh
 have hx : s.heap.get? x = some ⟨.ref C, some dx, .plain, #[]⟩ := I.obj
 refine wpAny_bind (wpAny_pure (wpAny_bind (wpAny_bind (wpAny_loadPart hx (wpAny_bind (PySem.W.Looks.here (s := { s with toks := s.toks + 1 }) (PySem.W.looks_clsIn X hc) ?_))))))
 rw [hd']
 refine wpAny_pure (a := some dx) (wpAny_bind (wpAny_pure (wpAny_bind ?_)))
 refine wpAny_nsSet1 (s := { s with toks := s.toks + 1 }) I.ns fun h' hn2 hs2 => ?_
 obtain ⟨oD, esD, epD, hoD, hdD, hcD⟩ := hn2.count (PySem.Within.cons name v hw)
 refine wpAny_bind (wpAny_lookBehind hoD (by rw [hdD]; exact pastItsLine_dict (Nat.le_trans hcD (by rw [List.length_cons]; omega))) ?_)
 exact wpAny_pure (h _ ⟨(hs2.2 _ (Ne.symm I.ne)).trans I.obj, hn2, I.ne⟩ hs2)
theorem make_map {R : Result -> Shared -> Prop} {vs : List Value} {kw : List (Str × Value)} (X : K.In s.heap) (hm : PySem.W.makesIn K C = true)
  (hi : PySem.W.findIn K (.ref C) "__init__" = some (some (.ref f))) (hf : PySem.W.typeIn K (.ref f) = some (.type "function"))
  (h : codeAny (model prog w) (A.under (.builtin "type.__call__" ⟨.ref C :: vs, kw⟩)) (.call (.ref f) ⟨.ref (s.heap.objs.size + 1) :: vs, kw⟩) (PySem.W.InitBack (s.heap.objs.size + 1) R)
   {s with heap := (s.heap.push PySem.W.emptyDict).push (PySem.W.instObj C s.heap.objs.size) }) :
  codeAny (model prog w) A (.call (.ref C) ⟨vs, kw⟩) R s := by
 obtain ⟨hh, g, d, t, os⟩ := s
 exact PySem.W.make_core (PySem.W.makes_of X hm) (PySem.W.looks_findIn X hi) (fun self => PySem.W.bind_fn X self hf) (.inl rfl) h
end
def putF (f : Str) (v : V) : List (Str × V) -> List (Str × V)
 | [] => [(f, v)]
 | (g, x) :: r => if g = f then (g, v) :: r else (g, x) :: putF f v r
theorem qap (f g : Str) (v : V) : ∀ fs : List (Str × V), (putF f v fs).lookup g = if g = f then some v else fs.lookup g
 | [] => by
  show List.lookup g [(f, v)] = _
  by_cases h : g = f
  ·have hb : (g == f) = true := beq_iff_eq.mpr h
   simp only [List.lookup, hb, if_pos h]
  ·have hb : (g == f) = false := beq_eq_false_iff_ne.mpr h
   simp only [List.lookup, hb, if_neg h]
 | (k, x) :: r => by
  have ih := qap f g v r
  rw [show putF f v ((k, x) :: r) = (if k = f then (k, v) :: r else (k, x) :: putF f v r) from rfl]
  by_cases hk : k = f
  ·rw [if_pos hk]
   by_cases h : g = k
   ·have hb : (g == k) = true := beq_iff_eq.mpr h
    simp only [List.lookup, hb, if_pos (h.trans hk)]
   ·have hb : (g == k) = false := beq_eq_false_iff_ne.mpr h
    simp only [List.lookup, hb, if_neg (fun e : g = f => h (e.trans hk.symm))]
  ·rw [if_neg hk]
   by_cases h : g = k
   ·have hb : (g == k) = true := beq_iff_eq.mpr h
    simp only [List.lookup, hb, if_neg (fun e : g = f => hk (h.symm.trans e))]
   ·have hb : (g == k) = false := beq_eq_false_iff_ne.mpr h
    simp only [List.lookup, hb]
    exact ih
theorem keys_putF (f : Str) (v : V) : ∀ fs : List (Str × V), f ∈ (putF f v fs).map (·.1) /\ ∀ g, g ∈ fs.map (·.1) -> g ∈ (putF f v fs).map (·.1)
 | [] => ⟨by simp [putF], fun g h => by simp at h⟩
 | (k, x) :: r => by
  obtain ⟨i1, i2⟩ := keys_putF f v r
  rw [show putF f v ((k, x) :: r) = (if k = f then (k, v) :: r else (k, x) :: putF f v r) from rfl]
  by_cases hk : k = f
  ·rw [if_pos hk]
   subst hk
   exact ⟨by simp, fun g h => by simpa using h⟩
  ·rw [if_neg hk]
   refine ⟨?_, fun g h => ?_⟩
   ·rw [List.map_cons]
    exact List.mem_cons_of_mem _ i1
   ·rw [List.map_cons] at h ⊢
    rcases List.mem_cons.mp h with e | e
    ·exact List.mem_cons.mpr (.inl e)
    ·exact List.mem_cons_of_mem _ (i2 g e)
theorem length_putF (f : Str) (v : V) : ∀ fs : List (Str × V), (putF f v fs).length <= fs.length + 1
 | [] => by simp [putF]
 | (k, x) :: r => by
  have ih := length_putF f v r
  rw [show putF f v ((k, x) :: r) = (if k = f then (k, v) :: r else (k, x) :: putF f v r) from rfl]
  by_cases hk : k = f
  ·rw [if_pos hk, List.length_cons, List.length_cons]; omega
  ·rw [if_neg hk, List.length_cons, List.length_cons]; omega
theorem RelO.some_of {v : V} {o : Option Value} (r : RelO (some v) o) : ∃ u, o = some u /\ RelV v u := by
 cases o with
 | none => exact (show False from r).elim
 | some u => exact ⟨u, rfl, r⟩
theorem RelO.none_of {o : Option Value} (r : RelO none o) : o = none := by
 cases o with
 | none => rfl
 | some u => exact (show False from r).elim
theorem handed_of {v : V} {u : Value} (r : RelV v u) : PySem.W.handedIn u = true := by
 cases v with
 | non => cases (show u = Value.none from r); rfl
 | bl b => cases (show u = Value.bool b from r); rfl
 | int i => obtain ⟨t, e⟩ := (show ∃ t, u = Value.int i t from r); cases e; rfl
 | str x => obtain ⟨t, e⟩ := (show ∃ t, u = Value.str x t from r); cases e; rfl
 | byt b => obtain ⟨t, e⟩ := (show ∃ t, u = Value.bytes b t from r); cases e; rfl
 | flt b => obtain ⟨t, e⟩ := (show ∃ t, u = Value.float b t from r); cases e; rfl
 | ref a => cases (show u = Value.ref a from r); rfl
 | ty n => cases (show u = Value.type n from r); rfl
section
variable {P : Program} {w : World} {H H' : Hp} {h h' : Heap} {a C dx : Addr} {fs fs' : List (Str × V)}
theorem ins_get (hok : HOk P w H h) (e : H a = some (.ins C dx fs)) : ∃ mA, ObjM h a dx C mA /\ (∀ f, RelO (fs.lookup f) (mA f)) /\ PySem.Within mA (fs.map (·.1)) /\ fs.length <= 1000 /\ H dx = some (.own a) := by
 obtain ⟨d, z, ne, ob, mA, n, r, q⟩ := (show ObjOk P w H h a (.ins C dx fs) from hok a _ e)
 exact ⟨mA, ⟨ob, n, ne⟩, r, q, z, d⟩
end
structure Cls (K : Frag) (C : Addr) : Prop where
 pg : PySem.W.plainGet K C Str.empty = true
 hd : PySem.W.hasDictIn K C = true
 po : PySem.W.plainOver K C = true
 sa : PySem.W.findIn K (.ref C) "__setattr__" = some (some (.builtin "object.__setattr__"))
theorem Cls.get {K : Frag} {C : Addr} (c : Cls K C) (f : Str) : PySem.W.plainGet K C f = true := c.pg
def NoAttr (K : Frag) (C : Addr) (f : Str) : Prop := PySem.W.findIn K (.ref C) f = some none
theorem NoAttr.taker {K : Frag} {C : Addr} {f : Str} (n : NoAttr K C f) : PySem.W.takerIn K C f = some none := by
 unfold PySem.W.takerIn
 rw [show PySem.W.findIn K (.ref C) f = some none from n]
 rfl
structure Con (K : Frag) (C : Addr) (f : Str) (v : V) (u : Value) : Prop where
 at_ : PySem.W.findIn K (.ref C) f = some (some u)
 rel : RelV v u
 get : PySem.W.specialIn K u "__get__" = some none
 cp : PySem.W.copiedNames.contains f = false
structure Meth (K : Frag) (C : Addr) (m : Str) (f : Addr) : Prop where
 at_ : PySem.W.findIn K (.ref C) m = some (some (.ref f))
 fn : PySem.W.isFn K (.ref f) = true
 kp : keepIn K (.ref f) = true
section
variable {X : Cx} {pins : List (Addr × Obj)} {σ : St} {H : Hp} {s : Shared} {a C dx : Addr} {fs : List (Str × V)} {f : Str} {v : V} {A : Around} {E : Value -> Shared -> Prop}
theorem getattr_ok {b : Bool} {Q : Value -> Shared -> Prop} (I : Inv X pins σ H s) (e : H a = some (.ins C dx fs)) (c : Cls X.K C) (n : NoAttr X.K C f) (l : fs.lookup f = some v)
  (h : ∀ u s', Inv X pins σ H s' -> RelV v u -> Q u s') : wpAny (model X.prog X.w) A (getAttr (.ref a) f b) Q E s := by
 obtain ⟨mA, O, r, _, _, _⟩ := ins_get I.hok e
 obtain ⟨u, hu, ru⟩ := RelO.some_of (v := v) (o := mA f) (by rw [<- l]; exact r f)
 exact get_map I.kIn O (c.get f) c.hd n hu (handed_of ru) (h u _ (I.tok _) ru)
theorem getmeth_ok {m : Str} {g : Addr} {pl : Sem Bool} {Q : Value × List Value -> Shared -> Prop} (I : Inv X pins σ H s) (e : H a = some (.ins C dx fs)) (c : Cls X.K C) (k : Meth X.K C m g) (l : fs.lookup m = none)
  (h : Q (.ref g, [.ref a]) s) : wpAny (model X.prog X.w) A (getMethod (.ref a) m pl) Q E s := by
 obtain ⟨mA, O, r, _, _, _⟩ := ins_get I.hok e
 have hn : mA m = none := RelO.none_of (by rw [<- l]; exact r m)
 exact get_meth I.kIn O (c.get m) k.at_ k.fn hn h
theorem setattr_ok {y : V} {u : Value} {Q : Unit -> Shared -> Prop} (I : Inv X pins σ H s) (e : H a = some (.ins C dx fs)) (c : Cls X.K C) (n : NoAttr X.K C f) (hl : fs.length < 1000) (ry : RelV y u)
  (h : ∀ s', Inv X pins σ (upd H a (.ins C dx (putF f y fs))) s' -> Q () s') : wpAny (model X.prog X.w) A (setAttr (.ref a) f u) Q E s := by
 obtain ⟨mA, O, r, wi, _, ho⟩ := ins_get I.hok e
 have hz : (fs.map (·.1)).length <= sizeLine := by rw [List.length_map, sizeLine_eq]; omega
 refine set_map I.kIn O c.sa c.po n.taker c.hd wi hz fun h' O' sb => h _ ?_
 have hd : ∃ o, h'.get? dx = some o := let ⟨o, _, _, e', _⟩ := O'.ns; ⟨o, e'⟩
 refine I.write (x := a) (e := dx) (by rw [e]; exact True.intro) (.inr ho) (fun b q hb z => (sb.2 b hb).trans z) hd ?_
 refine ⟨by rw [qau O.ne]; exact ho, ?_, O.ne, O'.obj, _, O'.ns, fun g => ?_, fun g hg => ?_⟩
 ·have := length_putF f y fs; omega
 ·show RelO ((putF f y fs).lookup g) (if g = f then some u else mA g)
  rw [qap]
  by_cases q : g = f
  ·rw [if_pos q, if_pos q]; exact ry
  ·rw [if_neg q, if_neg q]; exact r g
 ·by_cases q : g = f
  ·rw [q]; exact (keys_putF f y fs).1
  ·refine (keys_putF f y fs).2 g (wi g fun z => hg ?_)
   show (if g = f then some u else mA g) = none
   rw [if_neg q]; exact z
theorem Inv.made (I : Inv X pins σ H s) : Inv X pins σ (upd (upd H s.heap.objs.size (.own (s.heap.objs.size + 1))) (s.heap.objs.size + 1) (.ins C s.heap.objs.size []))
  {s with heap := (s.heap.push PySem.W.emptyDict).push (PySem.W.instObj C s.heap.objs.size) } := by
 have e1 : (s.heap.push PySem.W.emptyDict).get? s.heap.objs.size = some PySem.W.emptyDict := Heap.get?_push_size s.heap rfl
 have e2 : ((s.heap.push PySem.W.emptyDict).push (PySem.W.instObj C s.heap.objs.size)).get? (s.heap.objs.size + 1) = some (PySem.W.instObj C s.heap.objs.size) := by
  have := Heap.get?_push_size (s.heap.push PySem.W.emptyDict) (o := PySem.W.instObj C s.heap.objs.size) rfl
  rwa [Heap.size_push] at this
 have e3 : (s.heap.push PySem.W.emptyDict).Ns s.heap.objs.size (fun _ => none) := ⟨PySem.W.emptyDict, #[], _, e1, rfl, (fun e he => absurd he (by simp)), fun _ => rfl⟩
 have I1 := I.laid (a := s.heap.objs.size) (o := .own (s.heap.objs.size + 1)) (h' := s.heap.push PySem.W.emptyDict) (t' := s.toks) (fun b u q => Heap.get?_push_of_some _ q) (Nat.le_refl _) ⟨_, e1⟩
 refine I1.laid (a := s.heap.objs.size + 1) (o := .ins C s.heap.objs.size []) (t' := s.toks) (fun b u q => Heap.get?_push_of_some _ q) (Nat.le_of_eq (Heap.size_push _ _)) ?_
 have ne : s.heap.objs.size ≠ s.heap.objs.size + 1 := Nat.ne_of_lt (Nat.lt_succ_self _)
 refine ⟨by rw [qau ne, qa8], Nat.zero_le _, ne, e2, fun _ => none, (Heap.Ns1.of_empty e3).at fun o q => Heap.get?_push_of_some _ q, fun _ => True.intro, fun y hy => absurd rfl hy⟩
theorem attr_of {prog : Program} {w : World} {env : Env} {e : Expr} {f : Str} {pos : Pos} {s : Shared} {Q : Value -> Shared -> Prop} (hb : attributeBase e f env (eval e env) = eval e env)
  (h : wpAny (model prog w) A (eval e env) (fun o s₁ => wpAny (model prog w) A (getAttr o f true) Q E s₁) E s) : wpAny (model prog w) A (eval (.Attribute e f pos) env) Q E s :=
 Attribute_any_ h (by rw [arm_eval_Attribute, hb])
end
def tFld (K : Frag) (ta : TE) (f : Str) : TE := fun σ H Q => ta σ H fun x H1 => ∃ a C dx fs v, x = .ref a /\ H1 a = some (.ins C dx fs) /\ Cls K C /\ NoAttr K C f /\ fs.lookup f = some v /\ Q v H1
section
variable {X : Cx} {o e value : Expr} {f : Str} {pos pos' tpos : Pos} {ta tv : TE}
theorem qcb (he : PE X e ta) (hb : attributeBase e f X.env (eval e X.env) = eval e X.env) : PE X (.Attribute e f pos) (tFld X.K ta f) := by
 intro pins s σ H Q I h
 refine attr_of hb (thn (he pins s σ H _ I h) fun u s1 hq__ => ?_)
 obtain ⟨x, H1, I1, rx, a, C, dx, fs, v, ex, ea, c, n, l, q⟩ := hq__
 subst ex
 obtain rfl : u = Value.ref a := rx
 exact getattr_ok I1 ea c n l fun u' s2 I2 ru => ⟨v, H1, I2, ru, q⟩
end
section
variable {X : Cx} {pins : List (Addr × Obj)} {σ : St} {H : Hp} {s : Shared} {A : Around} {E : Value -> Shared -> Prop} {Q : Value -> Shared -> Prop} {c : Value} {b : Bool}
inductive TyOf (K : Frag) (H : Hp) : V -> Value -> Prop where
 | non : TyOf K H .non (.type "NoneType")
 | bl (x : Bool) : TyOf K H (.bl x) (.type "bool")
 | int (i : Int) : TyOf K H (.int i) (.type "int")
 | str (x : Str) : TyOf K H (.str x) (.type "str")
 | flt (x : UInt64) : TyOf K H (.flt x) (.type "float")
 | lst {a : Addr} {xs : List V} (e : H a = some (.lst xs)) : TyOf K H (.ref a) (.type "list")
 | frz {a : Addr} {o : Obj} {xs : List V} (e : H a = some (.frz o (.lst xs))) : TyOf K H (.ref a) (.type "list")
 | tup {a : Addr} {xs : List V} (e : H a = some (.tup xs)) : TyOf K H (.ref a) (.type "tuple")
 | dK {a : Addr} {kvs : List (Key × V)} (e : H a = some (.dK kvs)) : TyOf K H (.ref a) (.type "dict")
 | dT {a : Addr} {kvs : List (List Key × V)} (e : H a = some (.dT kvs)) : TyOf K H (.ref a) (.type "dict")
 | ins {a C dx : Addr} {fs : List (Str × V)} (e : H a = some (.ins C dx fs)) (cl : Cls K C) (ha : PySem.W.findIn K (.ref C) "__class__" = some (some (.builtin "object.__class__")))
   (hn : PySem.W.specialIn K (.builtin "object.__class__") "__get__" = some (some (.builtin "getset_descriptor.__get__"))) (htk : PySem.W.takesIn K (.builtin "object.__class__") = some true)
   (hm : PySem.W.mroIn K C (.type "object") = some true) : TyOf K H (.ref a) (.ref C)
theorem isinst_ok {x : V} {u t : Value} (I : Inv X pins σ H s) (rx : RelV x u) (ty : TyOf X.K H x t) (e : PySem.W.kitOne X.K t c = some b) (h : ∀ tk, Q (.bool b) { s with toks := tk }) :
  wpAny (model X.prog X.w) A (call (.builtin "isinstance") [u, c]) Q E s := by
 cases ty with
 | non => cases (show u = Value.none from rx); exact PySem.W.kia_one PySem.W.kitx_none I.kIn True.intro e (fun z => nomatch z) h
 | bl y => cases (show u = Value.bool y from rx); exact PySem.W.kia_one PySem.W.kitx_bool I.kIn True.intro e (fun z => nomatch z) h
 | int i => obtain ⟨t, q⟩ := (show ∃ t, u = Value.int i t from rx); cases q; exact PySem.W.kia_one PySem.W.kitx_int I.kIn True.intro e (fun z => nomatch z) h
 | str y => obtain ⟨t, q⟩ := (show ∃ t, u = Value.str y t from rx); cases q; exact PySem.W.kia_one PySem.W.kitx_str I.kIn True.intro e (fun z => nomatch z) h
 | flt y => obtain ⟨t, q⟩ := (show ∃ t, u = Value.float y t from rx); cases q; exact PySem.W.kia_one PySem.W.kitx_float I.kIn True.intro e (fun z => nomatch z) h
 | @lst a xs ea =>
  cases (show u = Value.ref a from rx)
  obtain ⟨_, _, n, _, h1⟩ := (show ObjOk X.prog X.w H s.heap a (.lst xs) from I.hok a _ ea)
  exact PySem.W.kia_one PySem.W.kitx_list I.kIn ⟨_, h1, rfl⟩ e (fun z => nomatch z) h
 | @frz a ob xs ea =>
  cases (show u = Value.ref a from rx)
  obtain ⟨_, _, _, n, _, h1⟩ := (show ObjOk X.prog X.w H s.heap a (.frz ob (.lst xs)) from I.hok a _ ea)
  exact PySem.W.kia_one PySem.W.kitx_list I.kIn ⟨_, h1, rfl⟩ e (fun z => nomatch z) h
 | @tup a xs ea =>
  cases (show u = Value.ref a from rx)
  obtain ⟨_, _, _, p⟩ := (show ObjOk X.prog X.w H s.heap a (.tup xs) from I.hok a _ ea)
  obtain ⟨o, h1, h2, _⟩ := p
  exact PySem.W.kia_one PySem.W.kitx_tuple I.kIn ⟨o, h1, h2⟩ e (fun z => nomatch z) h
 | @dK a kvs ea =>
  cases (show u = Value.ref a from rx)
  obtain ⟨_, _, vs, _, p⟩ := (show ObjOk X.prog X.w H s.heap a (.dK kvs) from I.hok a _ ea)
  obtain ⟨o, es, ep, h1, h2, _⟩ := p
  exact PySem.W.kia_one PySem.W.kitx_dict I.kIn ⟨o, h1, h2.1⟩ e (fun z => nomatch z) h
 | @dT a kvs ea =>
  cases (show u = Value.ref a from rx)
  obtain ⟨_, _, xs, _, o, es, ep, h1, h2, _⟩ := (show ObjOk X.prog X.w H s.heap a (.dT kvs) from I.hok a _ ea)
  exact PySem.W.kia_one PySem.W.kitx_dict I.kIn ⟨o, h1, h2.1⟩ e (fun z => nomatch z) h
 | @ins a C dx fs ea cl ha hn htk hm =>
  cases (show u = Value.ref a from rx)
  obtain ⟨mA, O, _⟩ := ins_get I.hok ea
  obtain ⟨od, J, _⟩ := O.look
  exact PySem.W.kia_one (PySem.W.kitx_own (cl.get _) cl.hd ha hn htk hm) I.kIn J e (fun z => nomatch z) h
end
end L2
namespace L2
open PySem PySem.Spec PyProof.Rows
structure Room (k : Nat) (A : Around) : Prop where
 hd : A.handled = none
 dp : A.depth + 3 * k + 5 < recursionLimit
 un : A.units + 16 * k + 200 < cLine
theorem Room.mono {j k : Nat} {A : Around} (r : Room k A) (h : j <= k) : Room j A := ⟨r.hd, by have := r.dp; omega, by have := r.un; omega⟩
theorem Room.deeper {k : Nat} {A : Around} (r : Room (k + 1) A) (env : Env) : Room k (A.deeper env) :=
 ⟨r.hd, by have := r.dp; show A.depth + 1 + 3 * k + 5 < _; omega, by have := r.un; show A.units + 3 + 16 * k + 200 < _; omega⟩
theorem make_depth {A : Around} {C : Addr} {us : List Value} {kw : List (Str × Value)} : (A.under (.builtin "type.__call__" ⟨.ref C :: us, kw⟩)).depth = A.depth + 1 := by
 first | rfl | simp [Around.under, Code.weight, Code.isCreation, Code.isGuard, Code.isCaller, Code.frames, Code.isFrame, guardIds]
theorem make_units {A : Around} {C : Addr} {us : List Value} {kw : List (Str × Value)} : (A.under (.builtin "type.__call__" ⟨.ref C :: us, kw⟩)).units = A.units + 1 := by
 first | rfl | simp [Around.under, Code.cUnits, Code.frames, Code.isFrame]
theorem Room.make {k : Nat} {A : Around} (r : Room (k + 1) A) (C : Addr) (us : List Value) (kw : List (Str × Value)) : Room k (A.under (.builtin "type.__call__" ⟨.ref C :: us, kw⟩)) :=
 ⟨r.hd, by have := r.dp; rw [make_depth]; omega, by have := r.un; rw [make_units]; omega⟩
theorem Room.depth {k : Nat} {A : Around} (r : Room k A) : A.depth < recursionLimit := by have := r.dp; omega
theorem Room.units {k : Nat} {A : Around} (r : Room k A) : A.units + 64 < cLine := by have := r.un; omega
def tNil : TA := fun _ H Q => Q [] H
def tCons (ta : TE) (tr : TA) : TA := fun σ H Q => ta σ H fun x H1 => tr σ H1 fun xs H2 => Q (x :: xs) H2
section
variable {X : Cx} {e : Expr} {es : List Expr} {te : TE} {t : TA} {pos : Pos}
theorem qae : PA X [] tNil := fun _ _ _ _ H Q I h => Calls.spliced_nil ⟨[], H, I, .nil, h⟩
theorem qaa (ha : PE X e te) (hr : PA X es t) (hs : starEach (e :: es) X.env = (false, eval e X.env) :: starEach es X.env := by rfl) : PA X (e :: es) (tCons te t) := by
 intro pos pins s σ H Q I h
 rw [hs]
 show wpAny _ _ (spliced ((false, eval e X.env) :: backTo pos (starEach es X.env))) _ _ s
 refine Calls.spliced_cons (thn (ha pins s σ H _ I h) fun u s1 hq__ => ?_)
 obtain ⟨x, H1, I1, r1, q1⟩ := hq__
 exact thn (hr pos pins s1 σ H1 _ I1 q1) fun us s2 ⟨xs, H2, I2, r2, q2⟩ => ⟨x :: xs, H2, I2, .cons r1 r2, q2⟩
end
abbrev Sp := List V -> Hp -> VK -> XK -> Prop
abbrev CXT := List Env -> Hp -> Shared -> XK -> Value -> Shared -> Prop
structure Env0 (P : Program) (w : World) (K : Frag) (mg : Str -> Option Value) (base : Heap) (A : Around) (outer : List Env) (s : Shared) (H : Hp) : Prop where
 frames : A.frames = some outer
 mod : Mod K mg base
 bs : ∀ b o, base.get? b = some o -> s.heap.get? b = some o /\ H b = none
 bsz : base.objs.size <= s.heap.objs.size
 funs : s.heap.FunFrames base outer
 frf : ∀ b ∈ frs outer, H b = none
 hok : HOk P w H s.heap
 bare : AllBare s.gens
def CE (outer : List Env) (P : Program) (w : World) (H : Hp) (s : Shared) (Q : VK) (u : Value) (s' : Shared) : Prop :=
 ∃ v H', s'.os = s.os /\ AllBare s'.gens /\ Un (frs outer) [] H H' s.heap s'.heap /\ HOk P w H' s'.heap /\ RelV v u /\ Q v H'
def CR (CX : CXT) (outer : List Env) (P : Program) (w : World) (H : Hp) (s : Shared) (Q : VK) (E : XK) (r : Result) (s' : Shared) : Prop :=
 match r with
 | .ok (.ret u) => CE outer P w H s Q u s'
 | .ok _ => False
 | .error e => CX outer H s E e s'
structure FnOk (P : Program) (w : World) (K : Frag) (mg : Str -> Option Value) (base : Heap) (CX : CXT) (k : Nat) (f : Addr) (fd : FuncData) (ps : List Str) (sp : Sp) : Prop where
 len : ∀ vs H Q E, sp vs H Q E -> vs.length = ps.length
 run : ∀ (A : Around) (outer : List Env) (s : Shared) (H : Hp) (args : Args) (us : List Value) (vs : List V) (Q : VK) (E : XK), Room k A -> Env0 P w K mg base A outer s H -> BindsTo s fd args (ps.zip us) -> Vals vs us -> sp vs H Q E ->
  codeAny (model P w) A (.call (.ref f) args) (CR CX outer P w H s Q E) s
theorem Env0.make {P : Program} {w : World} {K : Frag} {mg : Str -> Option Value} {base : Heap} {A : Around} {outer : List Env} {s : Shared} {H : Hp} (e : Env0 P w K mg base A outer s H) (C : Addr) (us : List Value) (kw : List (Str × Value)) :
  Env0 P w K mg base (A.under (.builtin "type.__call__" ⟨.ref C :: us, kw⟩)) outer s H := ⟨by first | exact e.frames | (simpa [Around.under, Code.envs, Code.isFrame, pushEnvs] using e.frames), e.mod, e.bs, e.bsz, e.funs, e.frf, e.hok, e.bare⟩
section
variable {X : Cx} {pins : List (Addr × Obj)} {σ : St} {H : Hp} {s s' : Shared}
theorem Inv.env0 (I : Inv X pins σ H s) : Env0 X.prog X.w X.K X.mg X.base X.A X.stack s H :=
 ⟨I.ok.frames, I.ok.mod, I.bs, Nat.le_trans I.ok.bsz I.sz, I.stack, I.stkFree, I.hok, I.bare⟩
theorem Inv.after {Q : VK} {u : Value} (I : Inv X pins σ H s) (h : CE X.stack X.prog X.w H s Q u s') : EP X pins σ Q u s' := by
 obtain ⟨v, H', os, bare, un, hok, r, q⟩ := h
 obtain ⟨hh, g, d, t, os'⟩ := s'
 obtain rfl : os' = s.os := os
 exact ⟨v, H', I.call (h' := hh) (g' := g) (d' := d) (t' := t) (ch := []) un hok bare (fun b z => absurd z (by simp)), r, q⟩
end
def tCall (sp : Sp) (dvs : List V) (E : XK) (t : TA) : TE := fun σ H Q => t σ H fun vs H1 => sp (vs ++ dvs) H1 Q E
def tMeth (C : Addr) (m : Str) (sp : Sp) (dvs : List V) (E : XK) (ta : TE) (t : TA) : TE := fun σ H Q => ta σ H fun x H1 => ∃ a dx fs, x = .ref a /\ H1 a = some (.ins C dx fs) /\ fs.lookup m = none /\
 t σ H1 fun vs H2 => sp (x :: (vs ++ dvs)) H2 Q E
def Binds (K : Frag) (fd : FuncData) (ps : List Str) (ds : List Value) : Prop :=
 ∀ (s : Shared) (us : List Value), K.In s.heap -> (us ++ ds).length = ps.length -> BindsTo s fd ⟨us, []⟩ (ps.zip (us ++ ds))
theorem Binds.all {K : Frag} {fd : FuncData} {ps : List Str} (h : ∀ us : List Value, us.length = ps.length -> bindArgs fd ⟨us, []⟩ = pure (ps.zip us)) : Binds K fd ps [] := fun s us _ hl => by
 rw [List.append_nil] at hl ⊢
 exact .of_eq (h us hl)
def Passes (CX : CXT) (X : Cx) (E : XK) : Prop := ∀ (pins : List (Addr × Obj)) (σ : St) (H : Hp) (s : Shared) (e : Value) (s' : Shared), Inv X pins σ H s -> CX X.stack H s E e s' -> X.xe e s'
section
variable {X : Cx} {CX : CXT} {k : Nat} {f C : Addr} {fd : FuncData} {ps : List Str} {sp : Sp} {dvs : List V} {ds : List Value} {E : XK} {x m : Str} {p pos apos : Pos} {e o : Expr} {es : List Expr} {ta : TE} {t : TA}
theorem run_fn {pins : List (Addr × Obj)} {σ : St} {H : Hp} {s : Shared} {Q : VK} {us : List Value} {vs : List V} (F : FnOk X.prog X.w X.K X.mg X.base CX k f fd ps sp) (hr : Room k X.A) (hb : Binds X.K fd ps ds) (hd : Vals dvs ds) (hx : Passes CX X E)
  (I : Inv X pins σ H s) (r : Vals vs us) (h : sp (vs ++ dvs) H Q E) : wpAny (model X.prog X.w) X.A (call (.ref f) us) (EP X pins σ Q) X.xe s := by
 have r2 : Vals (vs ++ dvs) (us ++ ds) := r.append hd
 have hl : (us ++ ds).length = ps.length := by rw [<- r2.length]; exact F.len _ _ _ _ h
 refine wpAny_call (codeAny_mono (F.run X.A X.stack s H ⟨us, []⟩ (us ++ ds) (vs ++ dvs) Q E hr I.env0 (hb s us I.kIn hl) r2 h) fun r s' hq => ?_)
 cases r with
 | error e => exact hx pins σ H s e s' I hq
 | ok fl =>
  cases fl with
  | ret u => exact I.after hq
  | next => exact False.elim hq
  | brk => exact False.elim hq
  | cont => exact False.elim hq
theorem pe_call (F : FnOk X.prog X.w X.K X.mg X.base CX k f fd ps sp) (hr : Room k X.A) (hg : Gl X x) (hm : X.mg x = some (.ref f)) (hk : keepIn X.K (.ref f) = true) (hb : Binds X.K fd ps ds) (hd : Vals dvs ds) (hx : Passes CX X E)
  (ha : PA X (e :: es) t) (hdb : (x == ("__debug__" : Str)) = false := by decide) (he : starEach (e :: es) X.env = (false, eval e X.env) :: starEach es X.env := by rfl) (hpl : (backTo pos (starEach es X.env)).any (·.1) = false := by rfl) :
  PE X (.Call (.Name x p) (e :: es) [] pos) (tCall sp dvs E t) := by
 intro pins s σ H Q I h
 refine wpAny_Call_Name_kw (ld_glob I hg hm ?_ hdb)
 refine PySem.W.callWith_K (h₀ := X.base) I.ok.mod.kin hk (thn (ha pos pins s σ H _ I h) fun us s1 ⟨vs, H1, I1, r, q⟩ => ⟨I1.kIn, ?_⟩) he hpl
 exact run_fn F hr hb hd hx I1 r q
theorem pe_meth {pl : Sem Bool} (he : PE X o ta) (c : Cls X.K C) (hm : Meth X.K C m f) (F : FnOk X.prog X.w X.K X.mg X.base CX k f fd ps sp) (hr : Room k X.A) (hb : Binds X.K fd ps ds) (hd : Vals dvs ds) (hx : Passes CX X E) (ha : PA X (e :: es) t)
  (hst : starEach (e :: es) X.env = (false, eval e X.env) :: starEach es X.env := by rfl) (hpl : (backTo pos (starEach es X.env)).any (·.1) = false := by rfl)
  (ht : eval (.Call (.Attribute o m apos) (e :: es) [] pos) X.env = (do
   let ov <- eval o X.env
   standAt apos.atName
   let (f, first) <- holding [ov] (getMethod ov m pl)
   callWith pos f first (backTo pos (starEach (e :: es) X.env)) (backToKw pos (keywordEach [] X.env))) := by rfl) :
  PE X (.Call (.Attribute o m apos) (e :: es) [] pos) (tMeth C m sp dvs E ta t) := by
 intro pins s σ H Q I h
 refine PySem.W.methodCall_KW (pl := pl) (thn (he pins s σ H _ I h) fun u s1 hq__ => ?_) ht
 obtain ⟨x, H1, I1, rx, a, dx, fs, ex, ea, l, q⟩ := hq__
 subst ex
 obtain rfl : u = Value.ref a := rx
 refine getmeth_ok I1 ea c hm l ?_
 refine PySem.W.callWith_K (first := [.ref a]) (h₀ := X.base) I.ok.mod.kin hm.kp (thn (ha pos pins s1 σ H1 _ I1 q) fun us s2 ⟨vs, H2, I2, r, q2⟩ => ⟨I2.kIn, ?_⟩) hst hpl
 exact run_fn (us := .ref a :: us) (vs := .ref a :: vs) F hr hb hd hx I2 (.cons rfl r) q2
theorem pe_meth0 {pl : Sem Bool} (he : PE X o ta) (c : Cls X.K C) (hm : Meth X.K C m f) (F : FnOk X.prog X.w X.K X.mg X.base CX k f fd ps sp) (hr : Room k X.A) (hb : Binds X.K fd ps ds) (hd : Vals dvs ds) (hx : Passes CX X E)
  (ht : eval (.Call (.Attribute o m apos) [] [] pos) X.env = (do
   let ov <- eval o X.env
   standAt apos.atName
   let (f, first) <- holding [ov] (getMethod ov m pl)
   callWith pos f first (backTo pos (starEach [] X.env)) (backToKw pos (keywordEach [] X.env))) := by rfl) :
  PE X (.Call (.Attribute o m apos) [] [] pos) (tMeth C m sp dvs E ta tNil) := by
 intro pins s σ H Q I h
 refine PySem.W.methodCall_KW (pl := pl) (thn (he pins s σ H _ I h) fun u s1 hq__ => ?_) ht
 obtain ⟨x, H1, I1, rx, a, dx, fs, ex, ea, l, q⟩ := hq__
 subst ex
 obtain rfl : u = Value.ref a := rx
 refine getmeth_ok I1 ea c hm l ?_
 exact PySem.W.callWith_K0 (first := [.ref a]) I1.kIn hm.kp (run_fn (us := [.ref a]) (vs := [.ref a]) F hr hb hd hx I1 (.cons rfl .nil) q)
structure Mk (K : Frag) (C f : Addr) : Prop where
 makes : PySem.W.makesIn K C = true
 init : PySem.W.findIn K (.ref C) "__init__" = some (some (.ref f))
 fn : PySem.W.isFn K (.ref f) = true
 kp : keepIn K (.ref C) = true
theorem run_make {pins : List (Addr × Obj)} {σ : St} {H : Hp} {s : Shared} {Q : VK} {us : List Value} {vs : List V} (M : Mk X.K C f) (F : FnOk X.prog X.w X.K X.mg X.base CX k f fd ps sp) (hr : Room (k + 1) X.A) (hb : Binds X.K fd ps ds) (hd : Vals dvs ds)
  (hx : Passes CX X E) (I : Inv X pins σ H s) (r : Vals vs us)
  (h : ∀ x dx, H x = none -> H dx = none -> dx ≠ x -> sp (.ref x :: (vs ++ dvs)) (upd (upd H dx (.own x)) x (.ins C dx [])) (fun v H2 => v = .non /\ Q (.ref x) H2) E) :
  wpAny (model X.prog X.w) X.A (call (.ref C) us) (EP X pins σ Q) X.xe s := by
 have hq := h (s.heap.objs.size + 1) s.heap.objs.size (I.hok.fresh (Nat.le_succ _)) (I.hok.fresh (Nat.le_refl _)) (Nat.ne_of_lt (Nat.lt_succ_self _))
 have I2 := Inv.made (C := C) I
 have r2 : Vals (V.ref (s.heap.objs.size + 1) :: (vs ++ dvs)) (Value.ref (s.heap.objs.size + 1) :: (us ++ ds)) := .cons rfl (r.append hd)
 have hl : (Value.ref (s.heap.objs.size + 1) :: us ++ ds).length = ps.length := by
  have e := r2.length
  rw [F.len _ _ _ _ hq] at e
  exact e.symm
 refine wpAny_call (make_map (f := f) I.kIn M.makes M.init (beq_iff_eq.mp M.fn) (codeAny_mono (F.run _ X.stack _ _ ⟨Value.ref (s.heap.objs.size + 1) :: us, []⟩ (Value.ref (s.heap.objs.size + 1) :: (us ++ ds)) _ _ E (hr.make C us [])
  (I2.env0.make C us []) (hb _ (Value.ref (s.heap.objs.size + 1) :: us) I2.kIn hl) r2 hq) fun r s' hq' => ?_))
 cases r with
 | error e => exact hx pins σ _ _ e s' I2 hq'
 | ok fl =>
  cases fl with
  | ret u =>
   obtain ⟨v, H', I3, rv, ev, q3⟩ := I2.after hq'
   subst ev
   exact ⟨rv, ⟨V.ref (s.heap.objs.size + 1), H', I3, rfl, q3⟩⟩
  | next => exact False.elim hq'
  | brk => exact False.elim hq'
  | cont => exact False.elim hq'
end
def PK (X : Cx) (kws : List Keyword) (t : TA) : Prop :=
 ∀ (pos : Pos) (pins : List (Addr × Obj)) (s : Shared) (σ : St) (H : Hp) (Q : List V -> Hp -> Prop), Inv X pins σ H s -> t σ H Q -> wpAny (model X.prog X.w) X.A (evalAll ((backToKw pos (keywordEach kws X.env)).map (·.2))) (AP X pins σ Q) X.xe s
section
variable {X : Cx} {CX : CXT} {k : Nat} {f C : Addr} {fd : FuncData} {ps ks : List Str} {sp : Sp} {E : XK} {x m : Str} {p pos apos kpos : Pos} {e o : Expr} {es : List Expr} {kws : List Keyword} {te ta : TE} {t tk : TA} {nm : Option Str}
theorem pk_nil : PK X [] tNil := fun _ _ _ _ H Q I h => wpAny_evalAll_nil ⟨[], H, I, .nil, h⟩
theorem pk_cons (ha : PE X e te) (hr : PK X kws t) : PK X (⟨nm, e, kpos⟩ :: kws) (tCons te t) := by
 intro pos pins s σ H Q I h
 show wpAny _ _ (evalAll ((do let v <- eval e X.env; standAt pos; pure v) :: (backToKw pos (keywordEach kws X.env)).map (·.2))) _ _ s
 refine wpAny_evalAll_cons (wpAny_bind (thn (ha pins s σ H _ I h) fun u s1 ⟨x, H1, I1, r1, q1⟩ => wpAny_bind (wpAny_standAt (wpAny_pure ?_))))
 exact thn (hr pos pins s1 σ H1 _ I1 q1) fun us s2 ⟨xs, H2, I2, r2, q2⟩ => ⟨x :: xs, H2, I2, .cons r1 r2, q2⟩
structure KBinds (K : Frag) (fd : FuncData) (ps ks : List Str) (g : List Value -> List Value -> List Value) (gV : List V -> List V -> List V) : Prop where
 to : ∀ (s : Shared) (us ws : List Value), K.In s.heap -> (g us ws).length = ps.length -> BindsTo s fd ⟨us, ks.zip ws⟩ (ps.zip (g us ws))
 rel : ∀ {vs : List V} {us : List Value} {zs : List V} {ws : List Value}, Vals vs us -> Vals zs ws -> Vals (gV vs zs) (g us ws)
variable {g : List Value -> List Value -> List Value} {gV : List V -> List V -> List V}
end
structure qan (N P : List Str) (sc : Scope) : Prop where
 kind : sc.kind = .function
 co : sc.isCoroutine = false
 gen : sc.isGenerator = false
 nd : N.Nodup
 pre : N.take P.length = P
 par : ∀ x ∈ P, sc.names.lookup x = some .local \/ sc.names.lookup x = some .cell
 nofree : ∀ y ∈ sc.names, y.2 ≠ .free
theorem bindL_out {kindOf : Str -> Option NameKind} {x : Str} : ∀ {binds : List (Str × Value)} {m : Str -> Option Value}, (∀ v, (x, v) ∉ binds) -> bindL kindOf binds m x = m x
 | [], _, _ => rfl
 | (n, v) :: r, m, h => by
  unfold bindL
  rw [bindL_out fun w hw => h w (List.mem_cons_of_mem _ hw)]
  split
  ·have : x ≠ n := by rintro rfl; exact h v List.mem_cons_self
   simp [this]
  ·rfl
theorem bindC_out {kindOf : Str -> Option NameKind} {x : Str} : ∀ {binds : List (Str × Value)} {m : Str -> Option Value}, (∀ v, (x, v) ∉ binds) -> bindC kindOf binds m x = m x
 | [], _, _ => rfl
 | (n, v) :: r, m, h => by
  unfold bindC
  rw [bindC_out fun w hw => h w (List.mem_cons_of_mem _ hw)]
  split
  ·rfl
  ·have : x ≠ n := by rintro rfl; exact h v List.mem_cons_self
   simp [this]
theorem bindL_get {kindOf : Str -> Option NameKind} {x : Str} {v : Value} : ∀ {P : List Str} {vs : List Value} {i : Nat} {m : Str -> Option Value}, P.Nodup -> P[i]? = some x -> vs[i]? = some v -> kindOf x = some .local ->
  bindL kindOf (P.zip vs) m x = some v
 | [], _, _, _, _, h, _, _ => by simp at h
 | _ :: _, [], _, _, _, _, h, _ => by simp at h
 | p :: P, w :: vs, 0, m, nd, h1, h2, hk => by
  simp at h1 h2; subst h1; subst h2
  show bindL kindOf ((p, w) :: P.zip vs) m p = _
  unfold bindL
  rw [bindL_out fun v hv => (List.nodup_cons.mp nd).1 (List.of_mem_zip hv).1, if_pos hk]
  simp
 | p :: P, w :: vs, i + 1, m, nd, h1, h2, hk => by
  show bindL kindOf ((p, w) :: P.zip vs) m x = _
  unfold bindL
  exact bindL_get (i := i) (List.nodup_cons.mp nd).2 (by simpa using h1) (by simpa using h2) hk
theorem bindC_get {kindOf : Str -> Option NameKind} {x : Str} {v : Value} : ∀ {P : List Str} {vs : List Value} {i : Nat} {m : Str -> Option Value}, P.Nodup -> P[i]? = some x -> vs[i]? = some v -> kindOf x ≠ some .local ->
  bindC kindOf (P.zip vs) m x = some v
 | [], _, _, _, _, h, _, _ => by simp at h
 | _ :: _, [], _, _, _, _, h, _ => by simp at h
 | p :: P, w :: vs, 0, m, nd, h1, h2, hk => by
  simp at h1 h2; subst h1; subst h2
  show bindC kindOf ((p, w) :: P.zip vs) m p = _
  unfold bindC
  rw [bindC_out fun v hv => (List.nodup_cons.mp nd).1 (List.of_mem_zip hv).1, if_neg hk]
  simp
 | p :: P, w :: vs, i + 1, m, nd, h1, h2, hk => by
  show bindC kindOf ((p, w) :: P.zip vs) m x = _
  unfold bindC
  exact bindC_get (i := i) (List.nodup_cons.mp nd).2 (by simpa using h1) (by simpa using h2) hk
def start (N : List Str) (vs : List V) : St := vs.map some ++ List.replicate (N.length - vs.length) none
def cxOf (CX : CXT) (P : Program) (w : World) (K : Frag) (mg : Str -> Option Value) (base : Heap) (N : List Str) (qual : Str) (scope : Scope) (f : Addr) (cd : Value) (A : Around) (outer : List Env) (s : Shared) (H : Hp) (E : XK) : Cx where
 prog := P
 w := w
 K := K
 mg := mg
 base := base
 A := A.deeper (envOfC qual scope s.heap.objs.size f cd)
 N := N
 s₀ := s
 H₀ := H
 env := envOfC qual scope s.heap.objs.size f cd
 outer := outer
 stack := envOfC qual scope s.heap.objs.size f cd :: outer
 ex := []
 calm := true
 fn := fun _ => true
 pn := []
 xe := fun e s' => wpAny (model P w) (A.deeper (envOfC qual scope s.heap.objs.size f cd)) (leaving (envOfC qual scope s.heap.objs.size f cd) e) (fun _ s'' => CX outer H s E e s'') (fun e' s'' => CX outer H s E e' s'') s'
theorem cell_has {sc : Scope} {n : Nat} {x : Str} (h : sc.names.lookup x = some .cell) : ∃ c, (cellsFrom n sc.names []).lookup x = some c := by
 have q := PySem.W.cellsFrom_some sc.names n [] (.inl h)
 exact Option.isSome_iff_exists.mp q
theorem inv_start {CX : CXT} {P : Program} {w : World} {K : Frag} {mg : Str -> Option Value} {base : Heap} {N ps : List Str} {qual : Str} {scope : Scope} {f : Addr} {cd : Value} {A : Around} {outer : List Env} {s s1 : Shared} {H : Hp} {E : XK} {us : List Value} {vs : List V}
  (S : qan N ps scope) (hd : A.handled = none) (e0 : Env0 P w K mg base A outer s H) (hl : vs.length = ps.length) (r : Vals vs us)
  (x : InCallC s s.heap.objs.size (bindL (envOfC qual scope s.heap.objs.size f cd).kindOf (ps.zip us) fun _ => none) (cellsFrom (s.heap.objs.size + 1) scope.names []) (bindC (envOfC qual scope s.heap.objs.size f cd).kindOf (ps.zip us) fun _ => none) s1) :
  Inv (cxOf CX P w K mg base N qual scope f cd A outer s H E) [] (start N vs) H s1 := by
 have hpl : ps.length <= N.length := by have := congrArg List.length S.pre; rw [List.length_take] at this; omega
 obtain ⟨h1, tk, rfl, hk⟩ := x.done
 have noA : ∀ b : Addr, b ∉ (cxOf CX P w K mg base N qual scope f cd A outer s H E).ex := fun b z => absurd (show b ∈ ([] : List Addr) from z) (by simp)
 refine ⟨⟨e0.mod, S.kind, rfl, rfl, Nat.le_refl _, fun y z c h1 h2 => ?_, fun y hy => ?_, fun y c _ h => ?_, fun _ => hd, Around.frames_deeper e0.frames, .inr ⟨rfl, rfl⟩, fun b z => absurd z (noA b), e0.bs, e0.bsz, fun b _ _ => noA b, fun b z => absurd z (noA b), e0.funs, e0.frf⟩,
  rfl, e0.bare, Un.kept hk, ⟨_, x.toInCall.ns, fun i y v h1 h2 h3 => ?_⟩, fun y c h => ⟨_, x.cell y c h⟩, e0.hok.fresh (Nat.le_refl _), fun y c h => ?_, fun p hp => absurd (show p ∈ ([] : List (Addr × Obj)) from hp) (by simp), e0.hok.kept hk, ?_⟩
 ·exact name_of_addr x.apart (PySem.mem_of_lookup h1) (PySem.mem_of_lookup h2)
 ·have hy : scope.names.lookup y = some .cell \/ scope.names.lookup y = some .free := hy
  rcases hy with hy | hy
  ·exact cell_has hy
  ·exact absurd rfl (S.nofree _ (PySem.mem_of_lookup hy))
 ·exact Nat.le_of_lt (x.above y c (PySem.mem_of_lookup h))
 ·have hi : i < vs.length := by
   unfold start at h2
   by_cases hi : i < vs.length
   ·exact hi
   ·rw [List.getElem?_append_right (by simpa using hi)] at h2
    rw [List.getElem?_replicate] at h2
    split at h2 <;> cases h2
  have ha : vs[i]? = some v := by
   unfold start at h2
   rw [List.getElem?_append_left (by simpa using hi), List.getElem?_map] at h2
   cases e : vs[i]? with
   | none => rw [e] at h2; cases h2
   | some a => rw [e] at h2; cases h2; rfl
  obtain ⟨u, hu, rv⟩ := r.get ha
  have hp : ps[i]? = some y := by
   rw [<- S.pre, List.getElem?_take_of_lt (by omega)]; exact h1
  have ndP : ps.Nodup := by rw [<- S.pre]; exact S.nd.sublist (List.take_sublist _ _)
  refine ⟨u, rv, ?_⟩
  rcases S.par y (List.mem_of_getElem? hp) with k | k
  ·exact .inl ⟨k, bindL_get ndP hp hu k⟩
  ·obtain ⟨c, e⟩ := cell_has (n := s.heap.objs.size + 1) k
   refine .inr ⟨.inl k, c, e, ?_⟩
   have q := x.cell y c e
   rw [bindC_get ndP hp hu (by show scope.names.lookup y ≠ _; rw [k]; decide)] at q
   exact q
 ·exact e0.hok.fresh (Nat.le_of_lt (x.above y c (PySem.mem_of_lookup h)))
 ·unfold start
  show _ = N.length
  rw [List.length_append, List.length_map, List.length_replicate]
  omega
theorem fn_of {CX : CXT} {P : Program} {w : World} {K : Frag} {mg : Str -> Option Value} {base : Heap} {k : Nat} {f : Addr} {name qual : Str} {params : Arguments} {body : List Stmt} {scope : Scope} {dV kV doc pm cdv ct oc : Value} {an od : Option Addr}
  {osl : Array (Option Value)} {N ps : List Str} {sp : Sp} (lk : K.lookup f = some ⟨oc, od, .func (fnOf name qual params body scope dV kV doc pm an cdv ct), osl⟩) (hcd : codeIn K cdv qual = true) (S : qan N ps scope)
  (len : ∀ vs H Q E, sp vs H Q E -> vs.length = ps.length)
  (hbody : ∀ (A : Around) (outer : List Env) (s : Shared) (H : Hp) (vs : List V) (Q : VK) (E : XK), Room k (A.deeper (envOfC qual scope s.heap.objs.size f cdv)) -> sp vs H Q E ->
   ∃ t, PSs (cxOf CX P w K mg base N qual scope f cdv A outer s H E) body t /\ t { nx := fun _ H' => Q .non H', rt := Q } (start N vs) H) :
  FnOk P w K mg base CX (k + 1) f (fnOf name qual params body scope dV kV doc pm an cdv ct) ps sp := by
 refine ⟨len, fun A outer s H args us vs Q E hr e0 hb r hsp => ?_⟩
 have hl := len _ _ _ _ hsp
 have KX : K.In s.heap := e0.mod.kin.keeps fun b o e => (e0.bs b o e).1
 have lim : s.heap.NoLimit := e0.mod.nolimit.keeps fun b o e => (e0.bs b o e).1
 have hkind : ∀ y ∈ ps.zip us, scope.names.lookup y.1 = some .local \/ (scope.names.lookup y.1 = some .cell /\ ((cellsFrom (s.heap.objs.size + 1) scope.names []).lookup y.1).isSome = true) := fun ⟨n, v⟩ hy => by
  rcases S.par n (List.of_mem_zip hy).1 with q | q
  ·exact .inl q
  ·exact .inr ⟨q, PySem.W.cellsFrom_some _ _ _ (.inl q)⟩
 refine codeAny_call_function hr.depth (KX _ _ lk) rfl S.co S.gen rfl (PySem.W.codeRec_of KX hcd) (hb _ _ _ _ ?_)
 refine wpAny_newFunctionEnv_cells S.kind hkind fun env he s1 x => ?_
 subst he
 refine ⟨lim.keeps x.toInCall.keep, codeAny_func ?_⟩
 obtain ⟨t, ht, hq⟩ := hbody A outer s H vs Q E (hr.deeper _) hsp
 have I : Inv (cxOf CX P w K mg base N qual scope f cdv A outer s H E) [] (start N vs) H s1 := inv_start S hr.hd e0 hl r x
 refine wpAny_mono (ht [] s1 (start N vs) H _ I hq) (fun fl s' hs => ?_) fun e s' hs => hs
 have fin : ∀ {σ' : St} {H' : Hp} {v : V} {u : Value}, Inv (cxOf CX P w K mg base N qual scope f cdv A outer s H E) [] σ' H' s' -> RelV v u -> Q v H' -> CE outer P w H s Q u s' :=
  fun {σ' H' v u} J rv q => ⟨v, H', J.os, J.bare, J.base, J.hok, rv, q⟩
 cases fl with
 | ret u =>
  obtain ⟨v, σ', H', J, rv, q⟩ := hs
  exact fin J rv q
 | next =>
  obtain ⟨σ', H', J, q⟩ := hs
  exact fin (v := V.non) (u := Value.none) J rfl q
 | brk =>
  obtain ⟨_, _, _, q⟩ := hs
  exact False.elim q
 | cont =>
  obtain ⟨_, _, _, q⟩ := hs
  exact False.elim q
end L2
namespace L2
open PySem PySem.Spec PyProof.Rows
section
variable {X : Cx} {x : Str} {p pos : Pos} {e : Expr} {es : List Expr} {t : TA} {id T : String} {r : List V -> Hp -> VK -> Prop}
def tCB (r : List V -> Hp -> VK -> Prop) (t : TA) : TE := fun σ H Q => t σ H fun vs H1 => r vs H1 Q
theorem qay (hc : CallR X (.builtin id) r) (hg : Gl X x) (hm : X.mg x = none) (hv : bootBuiltins x = some (.builtin id)) (ha : PA X (e :: es) t) (hn : x ≠ "__name__" := by decide) (hdb : (x == ("__debug__" : Str)) = false := by decide)
  (he : starEach (e :: es) X.env = (false, eval e X.env) :: starEach es X.env := by rfl) (hpl : (backTo pos (starEach es X.env)).any (·.1) = false := by rfl) : PE X (.Call (.Name x p) (e :: es) [] pos) (tCB r t) := by
 intro pins s σ H Q I h
 refine wpAny_Call_Name_kw (ld_blt I hg hm hv ?_ hn hdb)
 exact PyProof.Rows.callWith_builtin1 (thn (ha pos pins s σ H _ I h) fun us s1 ⟨vs, H1, I1, r1, q1⟩ => hc pins s1 σ H1 vs us Q I1 r1 q1) he hpl
theorem qcc (hc : CallR X (.type T) r) (hg : Gl X x) (hm : X.mg x = none) (hv : bootBuiltins x = some (.type T)) (ha : PA X (e :: es) t) (hn : x ≠ "__name__" := by decide) (hdb : (x == ("__debug__" : Str)) = false := by decide)
  (he : starEach (e :: es) X.env = (false, eval e X.env) :: starEach es X.env := by rfl) (hpl : (backTo pos (starEach es X.env)).any (·.1) = false := by rfl) : PE X (.Call (.Name x p) (e :: es) [] pos) (tCB r t) := by
 intro pins s σ H Q I h
 refine wpAny_Call_Name_kw (ld_blt I hg hm hv ?_ hn hdb)
 exact PyProof.Rows.callWith_type1 (thn (ha pos pins s σ H _ I h) fun us s1 ⟨vs, H1, I1, r1, q1⟩ => hc pins s1 σ H1 vs us Q I1 r1 q1) he hpl
end
end L2
namespace HT
open PySem PyProof.Rows
section
open PySem.SeqAt
open PySem.AutoSeq1 (wpAny_loadPart')
open PySem.MeetsSeq PySem.MeetsSeq2 PySem.MeetsSeq3
end
section
variable {prog : Program} {w : World} {A : Around} {E : Value -> Shared -> Prop} {s : Shared}
theorem cat_tup {t b : Addr} {vs ws : List Value} {Q : Value -> Shared -> Prop} (ht : IsTup s.heap t vs.toArray) (hb : IsTup s.heap b ws.toArray) (hv : vs ≠ [])
  (h1 : ws = [] -> Q (.ref t) s) (h2 : ws ≠ [] -> Q (.ref s.heap.objs.size) { s with heap := s.heap.push { cls := .type "tuple", data := .seq (vs ++ ws).toArray } })
  (hsz : vs.length + ws.length <= sizeLine) : wpAny (model prog w) A (binaryOp .Add (.ref t) (.ref b)) Q E s := by
 obtain ⟨⟨cls, dd, data, sl⟩, ho, hc, n, hd⟩ := id ht
 obtain ⟨⟨cls2, dd2, data2, sl2⟩, ho2, hc2, n2, hd2⟩ := id hb
 simp only at hc hd hc2 hd2
 subst hc hd hc2 hd2
 have e : vs.toArray ++ ws.toArray = (vs ++ ws).toArray := by simp
 by_cases hw : ws = []
 ·exact concat_meets ⟨_, ho, rfl⟩ ⟨_, ho2, rfl⟩ noFill_tuple_add seq_tuple_add PySem.F.slot_tuple_add PySem.F.entry_tuple_add (PySem.F.args_tuple_add_2 _ _)
   (tuple_addW1 t b vs.toArray ws.toArray n n2 dd dd2 sl sl2 (by simpa using hv) (by simp [hw])) ⟨ho, ho2, h1 hw⟩
 ·refine concat_meets ⟨_, ho, rfl⟩ ⟨_, ho2, rfl⟩ noFill_tuple_add seq_tuple_add PySem.F.slot_tuple_add PySem.F.entry_tuple_add (PySem.F.args_tuple_add_2 _ _)
   (tuple_addW2 t b vs.toArray ws.toArray n n2 dd dd2 sl sl2 (by simpa using hv) (by simpa using hw) (by rw [List.size_toArray, List.size_toArray]; exact hsz)) ⟨ho, ho2, ?_⟩
  rw [e]
  exact h2 hw
def sIx (n d : Nat) : Option Int -> Nat
 | none => d
 | some v => if v < 0 then (v + (n : Int)).toNat else min v.toNat n
theorem sIx_none (n d : Nat) : sIx n d none = d := rfl
theorem sIx_nat (n d k : Nat) : sIx n d (some (k : Int)) = min k n := by
 show (if (k : Int) < 0 then ((k : Int) + (n : Int)).toNat else min (k : Int).toNat n) = min k n
 rw [if_neg (by omega), Int.toNat_natCast]
theorem sIx_le (n d : Nat) (hd : d <= n) (o : Option Int) : sIx n d o <= n := by
 cases o with
 | none => exact hd
 | some v =>
  show (if v < 0 then (v + (n : Int)).toNat else min v.toNat n) <= n
  by_cases hv : v < 0
  ·rw [if_pos hv]; omega
  ·rw [if_neg hv]; exact Nat.min_le_right _ _
theorem clip_eq (v : Int) (n d : Nat) : (if v < 0 then max (v + (n : Int)) 0 else min v (n : Int)) = ((sIx n d (some v) : Nat) : Int) := by
 show (if v < 0 then max (v + (n : Int)) 0 else min v (n : Int)) = (((if v < 0 then (v + (n : Int)).toNat else min v.toNat n) : Nat) : Int)
 by_cases hv : v < 0
 ·simp only [if_pos hv]; omega
 ·simp only [if_neg hv]; omega
theorem adjust_gen (lo hi : Option Int) (n : Nat) : Builtin.Slice.sliceAdjust lo hi 1 (n : Int) = (((sIx n 0 lo : Nat) : Int), ((sIx n n hi : Nat) : Int)) := by
 have h1 : ¬ ((1 : Int) < 0) := by omega
 unfold Builtin.Slice.sliceAdjust
 simp only [h1, if_false]
 refine Prod.ext ?_ ?_
 ·cases lo with
  | none => rfl
  | some v => exact clip_eq v n 0
 ·cases hi with
  | none => rfl
  | some v => exact clip_eq v n n
theorem places_gen (i j : Nat) : Builtin.Slice.slicePlaces (i : Int) (j : Int) 1 = j - i := by
 unfold Builtin.Slice.slicePlaces
 have h1 : (1 : Int) > 0 := by omega
 simp only [h1, if_true, Int.ediv_one]
 split <;> omega
theorem slicePart_ {v : Value} {o : Option Int} {Q : Option Int -> Shared -> Prop} (p : IsPart v o) (h : Q o s) : wpAny (model prog w) A (Builtin.Slice.slicePartIndex v) Q E s := by
 cases p with
 | none => exact slicePart_none h
 | int i t => exact slicePart_int h
theorem sliceApplied_gen {sl : Addr} {vl vu : Value} {lo hi : Option Int} {n : Nat} {Q : Int × Int × Nat -> Shared -> Prop} (hs : s.heap.IsSliceOf sl vl vu .none) (pl : IsPart vl lo) (pu : IsPart vu hi)
  (h : Q (((sIx n 0 lo : Nat) : Int), 1, sIx n n hi - sIx n 0 lo) s) : wpAny (model prog w) A (Builtin.Slice.sliceApplied (.ref sl) (pure (n : Int))) Q E s := by
 obtain ⟨os, hos, hcs, hds⟩ := id hs
 unfold Builtin.Slice.sliceApplied Builtin.Slice.sliceFields
 refine wpAny_bind (wpAny_bind (wpAny_field hos hds (x := vl) rfl (wpAny_bind (wpAny_field hos hds (x := vu) rfl (wpAny_bind (wpAny_field hos hds (x := .none) rfl (wpAny_pure ?_)))))))
 refine wpAny_bind (slicePart_none ?_)
 show wpAny _ _ (if ((1 : Int) == 0) = true then _ else _) _ _ s
 rw [if_neg (by decide)]
 refine wpAny_bind (slicePart_ pl (wpAny_bind (slicePart_ pu (wpAny_bind (wpAny_pure ?_)))))
 show wpAny _ _ (match Builtin.Slice.sliceAdjust lo hi 1 (n : Int) with | (lo, hi) => pure (lo, (1 : Int), Builtin.Slice.slicePlaces lo hi 1)) _ _ s
 rw [adjust_gen lo hi n]
 show wpAny _ _ (pure (((sIx n 0 lo : Nat) : Int), (1 : Int), Builtin.Slice.slicePlaces ((sIx n 0 lo : Nat) : Int) ((sIx n n hi : Nat) : Int) 1)) _ _ s
 rw [places_gen]
 exact wpAny_pure h
theorem pick_gen (xs : Array Value) (i k : Nat) : ((List.range k).filterMap fun (m : Nat) => xs[((i : Int) + (m : Int) * 1).toNat]?).toArray = ((xs.toList.drop i).take k).toArray := by
 have e : (fun (m : Nat) => xs[((i : Int) + (m : Int) * 1).toNat]?) = fun m => xs[i + m]? := by
  funext m
  have : ((i : Int) + (m : Int) * 1).toNat = i + m := by omega
  rw [this]
 rw [e]
 have := pick_run xs i k
 rw [List.filterMap_map] at this
 have e2 : ((fun x => xs[x]?) ∘ fun x => i + x) = fun m => xs[i + m]? := rfl
 rw [e2] at this
 rw [this]
theorem getItem_tuple_cut {t sl : Addr} {items : Array Value} {vl vu : Value} {lo hi : Option Int} {Q : Value -> Shared -> Prop} (ht : IsTup s.heap t items) (hs : s.heap.IsSliceOf sl vl vu .none) (pl : IsPart vl lo) (pu : IsPart vu hi)
  (hw : ¬ (sIx items.size 0 lo = 0 /\ sIx items.size items.size hi = items.size))
  (h : Q (.ref s.heap.objs.size) { s with heap := s.heap.push { cls := .type "tuple", data := .seq ((items.toList.drop (sIx items.size 0 lo)).take (sIx items.size items.size hi - sIx items.size 0 lo)).toArray } })
  (hsz : items.size <= sizeLine) : wpAny (model prog w) A (getItem (.ref t) (.ref sl)) Q E s := by
 have htake : sizeOk (.seq ((items.toList.drop (sIx items.size 0 lo)).take (sIx items.size items.size hi - sIx items.size 0 lo)).toArray) := by
  show ((items.toList.drop (sIx items.size 0 lo)).take (sIx items.size items.size hi - sIx items.size 0 lo)).toArray.size <= sizeLine
  rw [List.size_toArray, List.length_take, List.length_drop, Array.length_toList]
  omega
 have hj : sIx items.size items.size hi <= items.size := sIx_le _ _ (Nat.le_refl _) hi
 obtain ⟨os, hos, hcs, hds⟩ := id hs
 have hTs : s.TypeIs (.ref sl) "slice" := ⟨os, hos, hcs⟩
 unfold getItem
 try with_reducible refine wpAny_holding ?_
 first | refine wpAny_bind (wpAny_pure ?_) | skip
 refine wpAny_bind (wpAny_sequenceKey ht.typeIs (by decide) ?_)
 refine wpAny_bind (wpAny_callSpecial?_slot (name := Str.ofString "__getitem__") ht.typeIs PyProof.Rows.slot_tuple_getitem
  (wpAny_call_entry PyProof.Rows.slot_tuple_getitem ht.typeIs entry_tuple_getitem ?_ (args_tuple_getitem _ _)))
 show wpAny _ _ (Builtin.Tuple.tupleItemsOf (.ref t) >>= _) _ _ s
 refine wpAny_bind (tupleItemsOf_ ht ?_)
 refine wpAny_bind (wpAny_typeOf hTs ?_)
 rw [if_pos (by decide)]
 refine wpAny_bind (sliceApplied_gen hs pl pu ?_)
 have hno : ¬ ((((sIx items.size 0 lo : Nat) : Int) == 0 && (1 : Int) == 1 && (sIx items.size items.size hi - sIx items.size 0 lo) == items.size) = true) := by
  intro q
  rw [Bool.and_eq_true, Bool.and_eq_true] at q
  have q1 : ((sIx items.size 0 lo : Nat) : Int) = 0 := eq_of_beq q.1.1
  have q2 : sIx items.size items.size hi - sIx items.size 0 lo = items.size := eq_of_beq q.2
  exact hw ⟨by omega, by omega⟩
 show wpAny _ _ (if (((sIx items.size 0 lo : Nat) : Int) == 0 && (1 : Int) == 1 && (sIx items.size items.size hi - sIx items.size 0 lo) == items.size) = true then _ else _) _ _ s
 rw [if_neg hno, pick_gen]
 first
  | exact wpAny_bind (m := Builtin.Tuple.tupleExact _) (wpAny_newObj_type (wpAny_pure ⟨_, rfl, wpAny_pure h⟩) htake)
  | exact wpAny_bind (m := Builtin.Tuple.tupleExact _) (wpAny_newObj_type (wpAny_bind (wpAny_pure (wpAny_pure ⟨_, rfl, wpAny_pure h⟩))) htake)
  | exact wpAny_bind (wpAny_bind (m := Builtin.Tuple.tupleExact _) (wpAny_newObj_type (wpAny_pure (wpAny_pure ⟨_, rfl, wpAny_pure h⟩)) htake))
  | exact wpAny_bind (wpAny_bind (m := Builtin.Tuple.tupleExact _) (wpAny_newObj_type (wpAny_pure ⟨_, rfl, wpAny_pure h⟩) htake))
end
end HT
namespace L2
open PySem PySem.Spec PyProof.Rows
abbrev TO := St -> Hp -> (Option Int -> Hp -> Prop) -> Prop
def PO (X : Cx) (e : Option Expr) (t : TO) : Prop :=
 ∀ (pins : List (Addr × Obj)) (s : Shared) (σ : St) (H : Hp) (Q : Option Int -> Hp -> Prop), Inv X pins σ H s -> t σ H Q ->
  wpAny (model X.prog X.w) X.A (evalPart e X.env) (fun u s' => ∃ o H', Inv X pins σ H' s' /\ IsPart u o /\ Q o H') X.xe s
def tNoPart : TO := fun _ H Q => Q none H
def tPart (t : TE) : TO := fun σ H Q => t σ H fun x H1 => ∃ i, x = .int i /\ Q (some i) H1
theorem intsAre_of {ns : List Int} : ∀ {us : List Value}, Vals (ns.map V.int) us -> IntsAre us ns := by
 induction ns with
 | nil => intro us r; rw [List.map_nil] at r; cases r; exact .nil
 | cons n ns ih =>
  intro us r
  rw [List.map_cons] at r
  cases r with
  | cons r1 r2 =>
   obtain ⟨t, e⟩ := r1
   subst e
   exact .cons n t (ih r2)
section
variable {X : Cx} {e : Expr} {te : TE} {lo hi : Option Expr} {tl th : TO} {pos p2 : Pos}
theorem po_none : PO X none tNoPart := by
 intro pins s σ H Q I h
 rw [evalPart_none]
 exact wpAny_pure ⟨none, H, I, .none, h⟩
theorem po_some (h : PE X e te) : PO X (some e) (tPart te) := by
 intro pins s σ H Q I hw
 rw [evalPart_some]
 refine thn (h pins s σ H _ I hw) fun u s1 hq__ => ?_
 obtain ⟨x, H1, I1, r1, q1⟩ := hq__
 obtain ⟨i, rfl, q⟩ := q1
 obtain ⟨t, rfl⟩ := r1
 exact ⟨some i, H1, I1, .int i t, q⟩
def SlR (X : Cx) (r : V -> Option Int -> Option Int -> Hp -> VK -> Prop) : Prop :=
 ∀ (pins : List (Addr × Obj)) (s : Shared) (σ : St) (H : Hp) (x : V) (v vl vu : Value) (lo hi : Option Int) (sl : Addr) (Q : VK), Inv X pins σ H s -> RelV x v -> s.heap.IsSliceOf sl vl vu .none -> IsPart vl lo -> IsPart vu hi -> r x lo hi H Q ->
  ∃ T id, typeLookup (.type T) "__getitem__" = pure (some (.builtin id)) /\ s.TypeIs v T /\ wpAny (model X.prog X.w) X.A (getItem v (.ref sl)) (EP X pins σ Q) X.xe s
def tSl (r : V -> Option Int -> Option Int -> Hp -> VK -> Prop) (te : TE) (tl th : TO) : TE := fun σ H Q => te σ H fun x H1 => tl σ H1 fun l H2 => th σ H2 fun u H3 => r x l u H3 Q
theorem pe_slice {r : V -> Option Int -> Option Int -> Hp -> VK -> Prop} (hr : SlR X r) (he : PE X e te) (hl : PO X lo tl) (hu : PO X hi th) : PE X (.Subscript e (.Slice lo hi none p2) pos) (tSl r te tl th) := by
 intro pins s σ H Q I h
 refine Subscript_ (thn (he pins s σ H _ I h) fun v s1 hq__ => ?_)
 obtain ⟨x, H1, I1, r1, q1⟩ := hq__
 refine wpAny_Slice (thn (hl pins s1 σ H1 _ I1 q1) fun vl s2 ⟨l, H2, I2, pl, q2⟩ => thn (hu pins s2 σ H2 _ I2 q2) fun vu s3 hq__ => ?_)
 obtain ⟨u, H3, I3, pu, q3⟩ := hq__
 rw [evalPart_none]
 refine wpAny_pure ?_
 have I4 : Inv X pins σ H3 { s3 with heap := s3.heap.push { cls := .type "slice", data := .fields #[vl, vu, .none] } } := I3.kept (t' := s3.toks) fun b ob q => Heap.get?_push_of_some _ q
 obtain ⟨T, id, hT, ht, hg⟩ := hr pins { s3 with heap := s3.heap.push { cls := .type "slice", data := .fields #[vl, vu, .none] } } σ H3 x v vl vu l u s3.heap.objs.size Q I4 r1 (Heap.IsSliceOf.new ..) pl pu q3
 show wpAny (model X.prog X.w) X.A (subscriptTail e (.Slice lo hi none p2) v (.ref s3.heap.objs.size)) (EP X pins σ Q) X.xe { s3 with heap := s3.heap.push { cls := .type "slice", data := .fields #[vl, vu, .none] } }
 exact tail_any (ops := [.ref s3.heap.objs.size, v]) ht hT hg (by with_unfolding_all rfl)
def cutV (xs : List V) (lo hi : Option Int) : List V := (xs.drop (HT.sIx xs.length 0 lo)).take (HT.sIx xs.length xs.length hi - HT.sIx xs.length 0 lo)
theorem cutV_length (xs : List V) (lo hi : Option Int) : (cutV xs lo hi).length <= xs.length := by
 unfold cutV
 rw [List.length_take, List.length_drop]
 omega
def rSlT (K : Frag) : V -> Option Int -> Option Int -> Hp -> VK -> Prop := fun x lo hi H Q => ∃ a xs, x = .ref a /\ SqT K H a xs /\
 ¬ (HT.sIx xs.length 0 lo = 0 /\ HT.sIx xs.length xs.length hi = xs.length) /\ ∀ p, H p = none -> Q (.ref p) (upd H p (.tup (cutV xs lo hi)))
theorem sl_tup : SlR X (rSlT X.K) := by
 intro pins s σ H x v vl vu lo hi sl Q I rx hs pl pu h
 obtain ⟨a, xs, rfl, hx, hw, q⟩ := h
 cases rx
 obtain ⟨its, r, ht, hz⟩ := I.tuple hx
 have hlen : its.toArray.size = xs.length := by rw [List.size_toArray]; exact r.length.symm
 refine ⟨"tuple", _, PyProof.Rows.slot_tuple_getitem.lookup, ht.typeIs, ?_⟩
 refine HT.getItem_tuple_cut ht hs pl pu (by rw [hlen]; exact hw) ?_ (by rw [hlen]; exact hz)
 rw [hlen]
 refine ⟨.ref s.heap.objs.size, _, I.laid (t' := s.toks) (o := .tup (cutV xs lo hi)) (fun b ob q => Heap.get?_push_of_some _ q) (Nat.le_refl _) ?_, rfl, q _ (I.hok.fresh (Nat.le_refl _))⟩
 exact ⟨Nat.le_trans (cutV_length xs lo hi) hz, _, (r.drop (HT.sIx xs.length 0 lo)).take (HT.sIx xs.length xs.length hi - HT.sIx xs.length 0 lo), IsTup.new _ _⟩
def rCatT (K : Frag) : R2 := fun x y H Q => ∃ a b xs ys, x = .ref a /\ y = .ref b /\ SqT K H a xs /\ SqT K H b ys /\ xs ≠ [] /\ xs.length + ys.length <= sizeLine /\
 (ys = [] -> Q (.ref a) H) /\ (ys ≠ [] -> ∀ p, H p = none -> Q (.ref p) (upd H p (.tup (xs ++ ys))))
theorem Vals.nil_iff {xs : List V} {us : List Value} (r : Vals xs us) : us = [] ↔ xs = [] := by
 cases r with
 | nil => simp
 | cons _ _ => simp
theorem op_catT : OpR X (binaryOp .Add) (rCatT X.K) := by
 intro pins s σ H x y v u Q I rx ry h
 obtain ⟨a, b, xs, ys, rfl, rfl, ha, hb, hx, hz, q1, q2⟩ := h
 cases rx
 cases ry
 obtain ⟨its, r1, p1, _⟩ := I.tuple ha
 obtain ⟨its2, r2, p2, _⟩ := I.tuple hb
 refine HT.cat_tup p1 p2 (fun z => hx (r1.nil_iff.mp z)) (fun z => ⟨.ref a, H, I, rfl, q1 (r2.nil_iff.mp z)⟩) (fun z => ?_) (by rw [<- r1.length, <- r2.length]; exact hz)
 refine ⟨.ref s.heap.objs.size, _, I.laid (t' := s.toks) (o := .tup (xs ++ ys)) (fun b ob q => Heap.get?_push_of_some _ q) (Nat.le_refl _) ?_, rfl, q2 (fun w => z (r2.nil_iff.mpr w)) _ (I.hok.fresh (Nat.le_refl _))⟩
 exact ⟨by rw [List.length_append]; exact hz, _, r1.append r2, IsTup.new _ _⟩
end
end L2
namespace L2
open PySem PySem.Spec PyProof.Rows
def ixN (n : Nat) (i : Int) : Option Nat := if 0 <= i then (if i < n then some i.toNat else none) else if -(n : Int) <= i then some (i + n).toNat else none
def atI {α : Type} (xs : List α) (i : Int) : Option α := (ixN xs.length i).bind fun j => xs[j]?
theorem ixN_seq {n : Nat} {i : Int} {j : Nat} (h : ixN n i = some j) : seqIndex? i n = some j /\ j < n /\ -(n : Int) <= i /\ i < n := by
 unfold ixN at h
 by_cases h0 : 0 <= i
 ·rw [if_pos h0] at h
  by_cases h1 : i < n
  ·rw [if_pos h1] at h
   have e : i.toNat = j := Option.some.inj h
   exact ⟨by rw [seqIndex_of h0 h1, e], by omega, by omega, h1⟩
  ·rw [if_neg h1] at h; cases h
 ·rw [if_neg h0] at h
  by_cases h1 : -(n : Int) <= i
  ·rw [if_pos h1] at h
   have e : (i + n).toNat = j := Option.some.inj h
   exact ⟨by rw [seqIndex_neg (by omega) h1, e], by omega, h1, by omega⟩
  ·rw [if_neg h1] at h; cases h
theorem atI_get {α : Type} {xs : List α} {i : Int} {v : α} (h : atI xs i = some v) : ∃ j, seqIndex? i xs.length = some j /\ xs[j]? = some v /\ j < xs.length /\ -(xs.length : Int) <= i /\ i < xs.length := by
 unfold atI at h
 cases e : ixN xs.length i with
 | none => rw [e] at h; cases h
 | some j =>
  rw [e] at h
  obtain ⟨h1, h2, h3, h4⟩ := ixN_seq e
  exact ⟨j, h1, h, h2, h3, h4⟩
theorem atI_nat {α : Type} {xs : List α} {j : Nat} {v : α} (h : xs[j]? = some v) : atI xs (j : Int) = some v := by
 have hj : j < xs.length := (List.getElem?_eq_some_iff.mp h).1
 have e : ixN xs.length (j : Int) = some j := by
  unfold ixN
  rw [if_pos (by omega), if_pos (by omega)]; simp
 unfold atI; rw [e]; exact h
def PlainIx (b : Expr) : Prop := ∀ o i, subscripted b false o i = operate [o, i] (getItem o i)
def IxR (X : Cx) (r : R2) : Prop :=
 ∀ (value slice : Expr) (pins : List (Addr × Obj)) (s : Shared) (σ : St) (H : Hp) (x y : V) (v u : Value) (Q : VK), Inv X pins σ H s -> RelV x v -> RelV y u -> r x y H Q ->
  subscripted slice false v u = operate [v, u] (getItem v u) -> wpAny (model X.prog X.w) X.A (subscriptTail value slice v u) (EP X pins σ Q) X.xe s
def MtR (X : Cx) (id : String) (r : V -> List V -> Hp -> VK -> Prop) : Prop :=
 ∀ (pins : List (Addr × Obj)) (s : Shared) (σ : St) (H : Hp) (x : V) (xs : List V) (v : Value) (us : List Value) (Q : VK), Inv X pins σ H s -> RelV x v -> Vals xs us -> r x xs H Q ->
  wpAny (model X.prog X.w) X.A (call (.builtin id) (v :: us)) (EP X pins σ Q) X.xe s
section
variable {X : Cx} {a b : Expr} {ta tb : TE} {pos : Pos}
theorem qai {r : R2} (hr : IxR X r) (ha : PE X a ta) (hb : PE X b tb) (hs : PlainIx b) : PE X (.Subscript a b pos) (tOp r ta tb) := by
 intro pins s σ H Q I h
 exact Subscript_ (binT ha hb I h fun v u s2 x y H2 I2 rx ry q => hr a b pins s2 σ H2 x y v u Q I2 rx ry q (hs _ _))
def rIxL (K : Frag) : R2 := fun x y H Q => ∃ p xs i v, x = .ref p /\ y = .int i /\ SqL K H p xs /\ atI xs i = some v /\ Q v H
def rIxT (K : Frag) : R2 := fun x y H Q => ∃ p xs i v, x = .ref p /\ y = .int i /\ SqT K H p xs /\ atI xs i = some v /\ Q v H
theorem qah : IxR X (rIxL X.K) := by
 intro value slice pins s σ H x y v u Q I rx ry h hs
 obtain ⟨p, xs, i, z, rfl, rfl, hq, he, q⟩ := h
 cases rx
 obtain ⟨t, rfl⟩ := ry
 obtain ⟨its, r, pl, hz⟩ := I.list hq
 obtain ⟨j, h1, h2, h3, h4, h5⟩ := atI_get he
 obtain ⟨w, ew, rw'⟩ := r.get h2
 have hl := r.length
 have hn := line63
 have fin : EP X pins σ Q w s := ⟨z, H, I, rw', q⟩
 by_cases h0 : 0 <= i
 ·have hj : i.toNat = j := by
   rw [seqIndex_of h0 h5] at h1
   exact Option.some.inj h1
  exact item_listR pl.isList h0 (by omega) (by rw [hj]; simpa using ew) fin hs
 ·have hj : (i + (its.toArray.size : Int)).toNat = j := by
   rw [seqIndex_neg (by omega) h4] at h1
   rw [List.size_toArray, <- hl]
   exact Option.some.inj h1
  exact subscriptTail_builtinR (x := w) pl.isList.typeIs slot_list_getitem.lookup
   (wpAny_getItem_list_neg (Q := fun r s' => r = w /\ EP X pins σ Q r s') pl.isList (by omega) (by rw [List.size_toArray] <;> omega) (by omega) (by rw [hj]; simpa using ew) ⟨rfl, fin⟩) hs
theorem qav : IxR X (rIxT X.K) := by
 intro value slice pins s σ H x y v u Q I rx ry h hs
 obtain ⟨p, xs, i, z, rfl, rfl, hq, he, q⟩ := h
 cases rx
 obtain ⟨t, rfl⟩ := ry
 obtain ⟨its, r, pl, hz⟩ := I.tuple hq
 obtain ⟨j, h1, h2, h3, h4, h5⟩ := atI_get he
 obtain ⟨w, ew, rw'⟩ := r.get h2
 have hl := r.length
 have hn := line63
 have fin : EP X pins σ Q w s := ⟨z, H, I, rw', q⟩
 exact subscriptTail_builtinR (x := w) pl.typeIs slot_tuple_getitem.lookup
  (getItem_tuple (j := j) (Q := fun r s' => r = w /\ EP X pins σ Q r s') pl (by omega) (by omega) (by rw [List.size_toArray, <- hl]; exact h1) (by simpa using ew) ⟨rfl, fin⟩) hs
theorem mapSeq_set (its : List Value) (n j : Nat) (u : Value) : Obj.mapSeq (·.setIfInBounds j u) { cls := .type "list", data := .seq its.toArray n } = { cls := .type "list", data := .seq (its.set j u).toArray n } := by
 simp [Obj.mapSeq]
theorem Inv.lst {pins : List (Addr × Obj)} {σ : St} {H : Hp} {s : Shared} {p : Addr} {xs : List V} (I : Inv X pins σ H s) (h : H p = some (.lst xs)) :
  ∃ (its : List Value) (n : Nat), Vals xs its /\ s.heap.get? p = some { cls := .type "list", data := .seq its.toArray n } /\ xs.length <= sizeLine := by
 obtain ⟨z, its, n, r, e⟩ := I.hok p _ h
 exact ⟨its, n, r, e, z⟩
theorem Inv.lstUpd {pins : List (Addr × Obj)} {σ : St} {H : Hp} {s : Shared} {p : Addr} {xs ys : List V} {its its' : List Value} {n n' : Nat} {f : Obj -> Obj} (I : Inv X pins σ H s) (h : H p = some (.lst xs))
  (ho : s.heap.get? p = some { cls := .type "list", data := .seq its.toArray n }) (hf : f { cls := .type "list", data := .seq its.toArray n } = { cls := .type "list", data := .seq its'.toArray n' }) (r : Vals ys its') (hz : ys.length <= sizeLine) (t : Nat) :
  Inv X pins σ (upd H p (.lst ys)) { s with heap := s.heap.update p f, toks := t } := by
 have e : (s.heap.update p f).get? p = some { cls := .type "list", data := .seq its'.toArray n' } := by
  rw [Heap.get?_update_self f ho (by rw [hf] <;> rfl), hf]
 refine I.write (x := p) (e := p) (by rw [h]; trivial) (.inl rfl) (fun b u hb q => (Heap.get?_update_other _ _ (Ne.symm hb)).trans q) ⟨_, e⟩ ?_
 exact ⟨hz, its', n', r, e⟩
def rSetL : V -> V -> V -> Hp -> (Hp -> Prop) -> Prop := fun o i v H Q => ∃ p xs k j, o = .ref p /\ i = .int k /\ H p = some (.lst xs) /\ ixN xs.length k = some j /\ Q (upd H p (.lst (xs.set j v)))
theorem set_list : PSet X rSetL := by
 intro pins s σ H o i v ov iv u Q I ro ri rv h
 obtain ⟨p, xs, k, j, rfl, rfl, hp, hj, q⟩ := h
 cases ro
 obtain ⟨t, rfl⟩ := ri
 obtain ⟨its, n, r, ho, hz⟩ := I.lst hp
 obtain ⟨h1, h2, h3, h4⟩ := ixN_seq hj
 have hl := r.length
 have hn := line63
 have I' : Inv X pins σ (upd H p (.lst (xs.set j v))) { s with heap := s.heap.update p (Obj.mapSeq (·.setIfInBounds j u)) } :=
  I.lstUpd hp ho (mapSeq_set its n j u) (r.set rv j) (by rw [List.length_set]; exact hz) s.toks
 by_cases h0 : 0 <= k
 ·have hk : k.toNat = j := by
   rw [seqIndex_of h0 h4] at h1
   exact Option.some.inj h1
  exact PySem.W.ki_setAt ho h0 (by omega) (by rw [List.size_toArray, <- hl]; exact h4) (by rw [hk]; exact ⟨_, I', q⟩)
 ·have hk : (k + (its.toArray.size : Int)).toNat = j := by
   rw [seqIndex_neg (by omega) h3] at h1
   rw [List.size_toArray, <- hl]
   exact Option.some.inj h1
  exact PySem.W.ki_setBack ho (by omega) (by rw [List.size_toArray, <- hl]; exact h3) (by omega) (by rw [hk]; exact ⟨_, I', q⟩)
theorem slice_bounds (lo hi : Option Int) (n : Nat) : (sliceBounds lo hi none n).1 = ((HT.sIx n 0 lo : Nat) : Int) /\ (sliceBounds lo hi none n).2.1 = ((HT.sIx n n hi : Nat) : Int) /\ (sliceBounds lo hi none n).2.2 = 1 := by
 refine ⟨?_, ?_, rfl⟩
 ·cases lo with
  | none => simp [sliceBounds, HT.sIx]
  | some i =>
   simp only [sliceBounds, HT.sIx, Option.getD_none, show (1 : Int) > 0 by decide, if_true]
   by_cases h : i < 0
   ·simp only [h, if_true] <;> omega
   ·simp only [h, if_false] <;> omega
 ·cases hi with
  | none => simp [sliceBounds, HT.sIx]
  | some i =>
   simp only [sliceBounds, HT.sIx, Option.getD_none, show (1 : Int) > 0 by decide, if_true]
   by_cases h : i < 0
   ·simp only [h, if_true] <;> omega
   ·simp only [h, if_false] <;> omega
theorem slicePick_cut (its : List Value) (lo hi : Option Int) : slicePick its.toArray lo hi none = ((its.drop (HT.sIx its.length 0 lo)).take (HT.sIx its.length its.length hi - HT.sIx its.length 0 lo)).toArray := by
 obtain ⟨h1, h2, h3⟩ := slice_bounds lo hi its.toArray.size
 unfold slicePick
 rw [h1, h2, h3]
 simp only [sliceRange_one, pick_run, List.size_toArray] <;> rfl
def rSlL (K : Frag) : V -> Option Int -> Option Int -> Hp -> VK -> Prop := fun x lo hi H Q => ∃ a xs, x = .ref a /\ SqL K H a xs /\ ∀ p, H p = none -> Q (.ref p) (upd H p (.lst (cutV xs lo hi)))
theorem sl_list : SlR X (rSlL X.K) := by
 intro pins s σ H x v vl vu lo hi sl Q I rx hs pl pu h
 obtain ⟨a, xs, rfl, hx, q⟩ := h
 cases rx
 obtain ⟨its, r, ht, hz⟩ := I.list hx
 have hlen := r.length
 refine ⟨"list", _, slot_list_getitem.lookup, ht.isList.typeIs, ?_⟩
 refine wpAny_getItem_list_slice ht.isList hs pl pu .none (by simp) ?_ (by rw [List.size_toArray] <;> omega)
 rw [slicePick_cut, <- hlen]
 refine ⟨.ref s.heap.objs.size, _, I.laid (t' := s.toks) (o := .lst (cutV xs lo hi)) (fun b ob q => Heap.get?_push_of_some _ q) (Nat.le_refl _) ?_, rfl, q _ (I.hok.fresh (Nat.le_refl _))⟩
 exact ⟨Nat.le_trans (cutV_length xs lo hi) hz, _, 0, (r.drop (HT.sIx xs.length 0 lo)).take (HT.sIx xs.length xs.length hi - HT.sIx xs.length 0 lo), Heap.get?_push_size _ rfl⟩
def flatV : V -> Bool
 | .non => true
 | .bl _ => true
 | .int _ => true
 | .str _ => true
 | _ => false
def eqV : V -> V -> Bool
 | .non, .non => true
 | .bl a, .bl b => a == b
 | .bl a, .int b => (if a then 1 else 0) == b
 | .int a, .bl b => a == (if b then 1 else 0)
 | .int a, .int b => a == b
 | .str a, .str b => a == b
 | _, _ => false
theorem eqAt_V {A : Around} {s : Shared} {y x : V} {u v : Value} (ry : RelV y u) (rx : RelV x v) (fy : flatV y = true) (fx : flatV x = true) : SeqAt.EqAt A s u v (eqV y x) := by
 cases y with
 | non =>
  cases ry
  cases x with
  | non => cases rx; exact SeqAt.EqAt.same _
  | bl b => cases rx; exact SeqAt.EqAt.none_bool b
  | int b => obtain ⟨t, rfl⟩ := rx; exact SeqAt.EqAt.none_int b t
  | str b => obtain ⟨t, rfl⟩ := rx; exact SeqAt.EqAt.none_str b t
  | _ => exact absurd (show false = true from fx) Bool.false_ne_true
 | bl a =>
  cases ry
  cases x with
  | non => cases rx; exact SeqAt.EqAt.bool_none a
  | bl b => cases rx; exact SeqAt.EqAt.bool_bool a b
  | int b => obtain ⟨t, rfl⟩ := rx; exact SeqAt.EqAt.bool_int a b t
  | str b => obtain ⟨t, rfl⟩ := rx; exact SeqAt.EqAt.bool_str a b t
  | _ => exact absurd (show false = true from fx) Bool.false_ne_true
 | int a =>
  obtain ⟨t', rfl⟩ := ry
  cases x with
  | non => cases rx; exact SeqAt.EqAt.int_none a t'
  | bl b => cases rx; exact SeqAt.EqAt.int_bool a t' b
  | int b => obtain ⟨t, rfl⟩ := rx; exact SeqAt.EqAt.int_int a t' b t
  | str b => obtain ⟨t, rfl⟩ := rx; exact SeqAt.EqAt.int_str a t' b t
  | _ => exact absurd (show false = true from fx) Bool.false_ne_true
 | str a =>
  obtain ⟨t', rfl⟩ := ry
  cases x with
  | non => cases rx; exact SeqAt.EqAt.str_none a t'
  | bl b => cases rx; exact SeqAt.EqAt.str_bool a t' b
  | int b => obtain ⟨t, rfl⟩ := rx; exact SeqAt.EqAt.str_int a t' b t
  | str b => obtain ⟨t, rfl⟩ := rx; exact SeqAt.EqAt.str_str a t' b t
  | _ => exact absurd (show false = true from fx) Bool.false_ne_true
 | _ => exact absurd (show false = true from fy) Bool.false_ne_true
def eqU (x : V) (u : Value) : Bool := match u with
 | .none => eqV .non x
 | .bool b => eqV (.bl b) x
 | .int i _ => eqV (.int i) x
 | .str z _ => eqV (.str z) x
 | _ => false
theorem eqU_of {x y : V} {u : Value} (r : RelV y u) (f : flatV y = true) : eqU x u = eqV y x := by
 cases y with
 | non => cases r; rfl
 | bl b => cases r; rfl
 | int i => obtain ⟨t, rfl⟩ := r; rfl
 | str z => obtain ⟨t, rfl⟩ := r; rfl
 | _ => exact absurd (show false = true from f) Bool.false_ne_true
theorem any_eqU {x : V} : ∀ {xs : List V} {us : List Value}, Vals xs us -> xs.all flatV = true -> us.any (eqU x) = xs.any fun y => eqV y x
 | _, _, .nil, _ => rfl
 | y :: xs, u :: us, .cons r t, f => by
  rw [List.all_cons, Bool.and_eq_true] at f
  rw [List.any_cons, List.any_cons, eqU_of r f.1, any_eqU t f.2]
theorem mem_eqAt {A : Around} {s : Shared} {x : V} {v : Value} (rx : RelV x v) (fx : flatV x = true) : ∀ {xs : List V} {us : List Value}, Vals xs us -> xs.all flatV = true -> ∀ u ∈ us, SeqAt.EqAt A s u v (eqU x u)
 | _, _, .nil, _ => fun u hu => by cases hu
 | y :: xs, u :: us, .cons r t, f => fun u' hu => by
  rw [List.all_cons, Bool.and_eq_true] at f
  rcases List.mem_cons.mp hu with rfl | hu
  ·rw [eqU_of r f.1]; exact eqAt_V r rx f.1 fx
  ·exact mem_eqAt rx fx t f.2 u' hu
def inV (x : V) (xs : List V) : Bool := xs.any fun y => eqV y x
def rIn (K : Frag) (neg : Bool) : R2 := fun x y H Q => ∃ p xs, y = .ref p /\ (SqL K H p xs \/ SqT K H p xs) /\ flatV x = true /\ xs.all flatV = true /\ Q (.bl (if neg then !inV x xs else inV x xs)) H
theorem op_notIn_seq : OpR X (compareOp .NotIn) (rIn X.K true) := by
 intro pins s σ H x y v u Q I rx ry h
 obtain ⟨p, xs, rfl, hq, fx, fs, q⟩ := h
 cases ry
 rcases hq with hq | hq
 ·obtain ⟨its, r, pl, hz⟩ := I.list hq
  refine SeqAt.notIn_listAt (eqU x) pl.isList (fun w hw => mem_eqAt rx fx r fs w (by simpa using hw)) ⟨.bl _, H, I, rfl, ?_⟩
  rw [show its.toArray.any (eqU x) = its.any (eqU x) by simp, any_eqU r fs]
  exact q
 ·obtain ⟨its, r, pl, hz⟩ := I.tuple hq
  refine SeqAt.notIn_tupleAt (eqU x) pl (fun w hw => mem_eqAt rx fx r fs w (by simpa using hw)) ⟨.bl _, H, I, rfl, ?_⟩
  rw [show its.toArray.any (eqU x) = its.any (eqU x) by simp, any_eqU r fs]
  exact q
theorem qa3 : CallR X (.builtin "len") (fun xs H Q => ∃ p ys, xs = [.ref p] /\ (SqL X.K H p ys \/ SqT X.K H p ys) /\ Q (.int ys.length) H) := by
 intro pins s σ H xs us Q I r h
 obtain ⟨p, ys, rfl, hq, q⟩ := h
 obtain ⟨u, rfl, rx⟩ := vals1 r
 cases rx
 have hn := line63
 rcases hq with hq | hq
 ·obtain ⟨its, r', pl, hz⟩ := I.list hq
  have hlen := r'.length
  exact Calls.call_len_list pl.isList (by simp only [List.size_toArray] <;> omega) ⟨.int ys.length, H, I.tok _, ⟨s.toks + 1, by rw [List.size_toArray, hlen]⟩, q⟩
 ·obtain ⟨its, r', pl, hz⟩ := I.tuple hq
  have hlen := r'.length
  exact len_tuple pl (by simp only [List.size_toArray] <;> omega) ⟨.int ys.length, H, I.tok _, ⟨s.toks + 1, by rw [List.size_toArray, hlen]⟩, q⟩
theorem call_list_of : CallR X (.type "list") (fun xs H Q => ∃ p ys, xs = [.ref p] /\ (SqL X.K H p ys \/ SqT X.K H p ys) /\ ∀ l, H l = none -> Q (.ref l) (upd H l (.lst ys))) := by
 intro pins s σ H xs us Q I r h
 obtain ⟨p, ys, rfl, hq, q⟩ := h
 obtain ⟨u, rfl, rx⟩ := vals1 r
 cases rx
 have fin : ∀ (its : List Value), Vals ys its -> ys.length <= sizeLine -> ∀ (h' : Heap) (c' : Nat), (∀ b o', s.heap.get? b = some o' -> h'.get? b = some o') ->
   h'.get? s.heap.objs.size = some { cls := .type "list", dict := none, data := .seq its.toArray c', slots := #[] } -> EP X pins σ Q (.ref s.heap.objs.size) { s with heap := h' } := fun its r' hz h' c' kp e =>
  ⟨.ref s.heap.objs.size, _, I.laid (t' := s.toks) kp (Nat.le_refl _) (show ObjOk X.prog X.w _ h' _ (.lst ys) from ⟨hz, its, c', r', e⟩), rfl, q _ (I.hok.fresh (Nat.le_refl _))⟩
 rcases hq with hq | hq
 ·obtain ⟨its, r', pl, hz⟩ := I.list hq
  have hlen := r'.length
  obtain ⟨o, ho, hc, n, hd⟩ := pl.isList
  exact call_list_seq p (.inl rfl) ho hc hd (fun h' c' kp e => fin its r' hz h' c' kp e) (by simp only [List.size_toArray] <;> omega)
 ·obtain ⟨its, r', pl, hz⟩ := I.tuple hq
  have hlen := r'.length
  obtain ⟨o, ho, hc, n, hd⟩ := pl
  exact call_list_seq p (.inr rfl) ho hc hd (fun h' c' kp e => fin its r' hz h' c' kp e) (by simp only [List.size_toArray] <;> omega)
def tyV (K : Frag) (T : String) (x : V) (H : Hp) : Prop := match x with
 | .str _ => T = "str"
 | .int _ => T = "int"
 | .ref p => (T = "list" /\ ∃ xs, SqL K H p xs) \/ (T = "tuple" /\ ∃ o, K.lookup p = some o /\ o.cls = .type "tuple" /\ o.dict = none) \/
   (T = "dict" /\ ((∃ kvs, H p = some (.dK kvs)) \/ ∃ kvs, H p = some (.dT kvs))) \/ (T = "set" /\ ∃ S n, H p = some (.set S n))
 | _ => False
theorem tyV_is {pins : List (Addr × Obj)} {σ : St} {H : Hp} {s : Shared} {T : String} {x : V} {v : Value} (I : Inv X pins σ H s) (r : RelV x v) (ty : tyV X.K T x H) :
  s.TypeIs v T /\ ∀ a, v = .ref a -> ∃ ob, s.heap.get? a = some ob /\ ob.dict = none := by
 cases x with
 | str z =>
  obtain ⟨t, rfl⟩ := r
  cases (show T = "str" from ty)
  exact ⟨typeIs_str s z t, fun _ e => nomatch e⟩
 | int i =>
  obtain ⟨t, rfl⟩ := r
  cases (show T = "int" from ty)
  exact ⟨typeIs_int s i t, fun _ e => nomatch e⟩
 | ref p =>
  cases r
  rcases ty with ⟨rfl, xs, hq⟩ | ⟨rfl, o, hk, hc, hd⟩ | ⟨rfl, hk⟩ | ⟨rfl, S, n, hk⟩
  ·obtain ⟨its, _, pl, _⟩ := I.list hq
   refine ⟨pl.isList.typeIs, fun a e => ?_⟩
   cases e
   obtain ⟨o, n, e, c, hd, _⟩ := pl
   exact ⟨o, e, hd⟩
  ·refine ⟨⟨o, I.kIn p o hk, hc⟩, fun a e => ?_⟩
   cases e
   exact ⟨o, I.kIn _ o hk, hd⟩
  ·have z : ∃ o, s.heap.get? p = some o /\ o.ExactDict := by
    rcases hk with ⟨kvs, hk⟩ | ⟨kvs, hk⟩
    ·obtain ⟨_, _, _, _, o, _, _, e, ex, _⟩ := I.hok p _ hk
     exact ⟨o, e, ex⟩
    ·obtain ⟨_, _, _, _, o, _, _, e, ex, _⟩ := I.hok p _ hk
     exact ⟨o, e, ex⟩
   obtain ⟨o, e, ex⟩ := z
   refine ⟨⟨o, e, ex.1⟩, fun a e2 => ?_⟩
   cases e2
   exact ⟨o, e, ex.2.1⟩
  ·obtain ⟨o, _, _, _, e, ex, _⟩ := I.hok p _ hk
   refine ⟨⟨o, e, ex.1⟩, fun a e2 => ?_⟩
   cases e2
   exact ⟨o, e, ex.2.1⟩
 | _ => exact False.elim ty
def tBM (K : Frag) (T : String) (r : V -> List V -> Hp -> VK -> Prop) (to : TE) (t : TA) : TE := fun σ H Q => to σ H fun x H1 => tyV K T x H1 /\ t σ H1 fun xs H2 => r x xs H2 Q
variable {o e : Expr} {es : List Expr} {to : TE} {t : TA} {name : Str} {apos cpos : Pos} {T id : String} {r : V -> List V -> Hp -> VK -> Prop}
theorem pe_bm (pa : PlainAttrs T) (slot : Slot T name id) (hty : typeOf (.builtin id) = pure (.type "method_descriptor")) (hm : MtR X id r) (ho : PE X o to) (ha : PA X (e :: es) t)
  (hbase : attributeBase o name X.env (eval o X.env) = eval o X.env := by rfl)
  (hfew : ((backTo cpos (starEach (e :: es) X.env)).all (fun x => !x.1) && (backToKw cpos (keywordEach [] X.env)).all (fun x => x.1.isSome)
   && decide ((e :: es).length + ([] : List Keyword).length + (if ([] : List Keyword).isEmpty then 0 else 1) < 30)) = true := by rfl)
  (hline : (apos.endLine == cpos.line) = true := by rfl) (hs : starEach (e :: es) X.env = (false, eval e X.env) :: starEach es X.env := by rfl) (hplain : (backTo cpos (starEach es X.env)).any (·.1) = false := by rfl) :
  PE X (.Call (.Attribute o name apos) (e :: es) [] cpos) (tBM X.K T r to t) := by
 intro pins s σ H Q I h
 refine wpAny_Call_method_late hbase hfew hline rfl (thn (ho pins s σ H _ I h) fun v s1 hq__ => ?_)
 obtain ⟨x, H1, I1, r1, ty, q1⟩ := hq__
 obtain ⟨h1, h2⟩ := tyV_is I1 r1 ty
 refine ⟨T, id, pa, slot, hty, h1, h2, ?_⟩
 have hA := ha cpos pins s1 σ H1 _ I1 q1
 rw [hs] at hA ⊢
 refine Calls.callWith_builtin (by show (false || (backTo cpos (starEach es X.env)).any (·.1)) = false; rw [hplain] <;> rfl) (Calls.evalArgs_plain ?_)
 exact thn hA fun us s2 ⟨vs, H2, I2, r2, q2⟩ => hm pins s2 σ H2 x vs v us Q I2 r1 r2 q2
end
end L2
namespace L2
open PySem PySem.Spec PyProof.Rows
def MtM (X : Cx) (id : String) (r : V -> List V -> Hp -> VK -> Prop) : Prop :=
 ∀ (pins : List (Addr × Obj)) (s : Shared) (σ : St) (H : Hp) (x : V) (xs : List V) (v : Value) (us : List Value) (Q : VK), Inv X pins σ H s -> RelV x v -> Vals xs us -> r x xs H Q ->
  wpAny (model X.prog X.w) X.A (call (.builtin id) (v :: us)) (EP X pins σ Q) X.xe s
theorem Vals.one : ∀ {x : V} {us : List Value}, Vals [x] us -> ∃ u, us = [u] /\ RelV x u
 | _, _, .cons r .nil => ⟨_, rfl, r⟩
theorem Vals.rep {xs : List V} {us : List Value} (h : Vals xs us) : ∀ k : Nat, Vals (List.replicate k xs).flatten (List.replicate k us).flatten
 | 0 => .nil
 | k + 1 => by
  rw [List.replicate_succ, List.replicate_succ, List.flatten_cons, List.flatten_cons]
  exact Vals.append h (Vals.rep h k)
theorem foldl_rep (its : List Value) : ∀ (k : Nat) (acc : List Value),
  List.foldl (fun x1 x2 => x1 ++ x2) acc.toArray (List.replicate k its.toArray) = (acc ++ (List.replicate k its).flatten).toArray
 | 0, acc => by simp
 | k + 1, acc => by
  have e : acc.toArray ++ its.toArray = (acc ++ its).toArray := by simp
  have e2 : (acc ++ its) ++ (List.replicate k its).flatten = acc ++ (List.replicate (k + 1) its).flatten := by
   rw [List.replicate_succ, List.flatten_cons, List.append_assoc]
  rw [<- e2, <- foldl_rep its k (acc ++ its), <- e, List.replicate_succ, List.foldl_cons]
section
variable {X : Cx} {pins : List (Addr × Obj)} {σ : St} {H : Hp} {s : Shared} {l b : Addr} {xs ys zs : List V}
theorem Inv.lset {its its' : List Value} {n : Nat} {f : Array Value -> Array Value} {t' : Nat} (I : Inv X pins σ H s) (hH : H l = some (.lst xs))
  (e : s.heap.get? l = some { cls := .type "list", data := .seq its.toArray n }) (hf : f its.toArray = its'.toArray) (hv : Vals ys its') (hz : ys.length <= sizeLine) :
  Inv X pins σ (upd H l (.lst ys)) { s with heap := s.heap.update l (Obj.mapSeq f), toks := t' } := by
 have q := PySem.IsL.update e f
 rw [hf] at q
 refine I.write (x := l) (e := l) (by rw [hH]; exact trivial) (.inl rfl) (fun b' u hb hu => (Heap.get?_update_other s.heap (Obj.mapSeq f) (Ne.symm hb)).trans hu) ⟨_, q⟩ ?_
 exact ⟨hz, its', _, hv, q⟩
theorem Inv.lnew {its : List Value} {t' : Nat} (I : Inv X pins σ H s) (hv : Vals ys its) (hz : ys.length <= sizeLine) :
  Inv X pins σ (upd H s.heap.objs.size (.lst ys)) { s with heap := s.heap.push { cls := .type "list", data := .seq its.toArray }, toks := t' } :=
 I.laid (fun _ _ q => Heap.get?_push_of_some _ q) (Nat.le_refl _) ⟨hz, its, 0, hv, Heap.get?_push_size _ rfl⟩
theorem Inv.fresh (I : Inv X pins σ H s) : H s.heap.objs.size = none := I.hok.fresh (Nat.le_refl _)
theorem Inv.lstM (I : Inv X pins σ H s) (hH : H l = some (.lst xs)) : xs.length <= sizeLine /\ ∃ (its : List Value) (n : Nat), Vals xs its /\ xs.length = its.length /\ s.heap.get? l = some { cls := .type "list", data := .seq its.toArray n } := by
 obtain ⟨z, its, n, r, e⟩ := I.hok l _ hH
 exact ⟨z, its, n, r, r.length, e⟩
theorem notLongL {n : Nat} (h : n <= sizeLine) : Builtin.List.listTooLong n = false := by
 unfold Builtin.List.listTooLong
 exact decide_eq_false (by omega)
end
section
variable {X : Cx}
def rAppend : V -> List V -> Hp -> VK -> Prop := fun x vs H Q => ∃ l xs y, x = .ref l /\ vs = [y] /\ H l = some (.lst xs) /\ xs.length < sizeLine /\ Q .non (upd H l (.lst (xs ++ [y])))
theorem mt_append : MtM X "list.append" rAppend := by
 intro pins s σ H x vs v us Q I rx rv h
 obtain ⟨l, xs, y, rfl, rfl, hH, hz, q⟩ := h
 cases rx
 obtain ⟨u, rfl, ru⟩ := rv.one
 obtain ⟨z, its, n, r, hl, e⟩ := I.lstM hH
 refine call_meets F.slot_list_append ⟨_, e, rfl⟩ F.entry_list_append (F.args_list_append_2 _ _) (PySem.list_append l its.toArray n u (by rw [List.size_toArray]; omega)) ⟨e, ?_⟩
 refine ⟨.non, _, I.lset (its' := its ++ [u]) hH e (by simp) (r.append (.cons ru .nil)) ?_, rfl, q⟩
 rw [List.length_append, List.length_singleton]
 omega
def rCat : R2 := fun x y H Q => ∃ l b xs zs, x = .ref l /\ y = .ref b /\ H l = some (.lst xs) /\ H b = some (.lst zs) /\ xs.length + zs.length <= sizeLine /\ ∀ p, H p = none -> Q (.ref p) (upd H p (.lst (xs ++ zs)))
theorem op_cat : OpR X (binaryOp .Add) rCat := by
 intro pins s σ H x y v u Q I rx ry h
 obtain ⟨l, b, xs, zs, rfl, rfl, hH, hB, hz, q⟩ := h
 cases rx
 cases ry
 obtain ⟨z, its, n, r, hl, e⟩ := I.lstM hH
 obtain ⟨z2, its2, n2, r2, hl2, e2⟩ := I.lstM hB
 refine PySem.P.add_list e e2 ?_ (by rw [List.size_toArray, List.size_toArray]; omega)
 have ea : its.toArray ++ its2.toArray = (its ++ its2).toArray := by simp
 rw [ea]
 exact ⟨.ref _, _, I.lnew (t' := s.toks) (r.append r2) (by rw [List.length_append]; omega), rfl, q _ I.fresh⟩
def rRep : R2 := fun x y H Q => ∃ l k xs, x = .ref l /\ y = .int k /\ H l = some (.lst xs) /\ -(2 ^ 63) <= k /\ k < 2 ^ 63 /\ xs.length * k.toNat <= sizeLine /\
 ∀ p, H p = none -> Q (.ref p) (upd H p (.lst (List.replicate k.toNat xs).flatten))
theorem len_rep {α : Type} (xs : List α) (k : Nat) : (List.replicate k xs).flatten.length = k * xs.length := by
 induction k with
 | zero => simp
 | succ k ih => rw [List.replicate_succ, List.flatten_cons, List.length_append, ih, Nat.succ_mul, Nat.add_comm]
theorem op_rep : OpR X (binaryOp .Mult) rRep := by
 intro pins s σ H x y v u Q I rx ry h
 obtain ⟨l, k, xs, rfl, rfl, hH, h1, h2, hz, q⟩ := h
 cases rx
 obtain ⟨t, rfl⟩ := ry
 obtain ⟨z, its, n, r, hl, e⟩ := I.lstM hH
 have hlen : its.toArray.size * k.toNat <= sizeLine := by rw [List.size_toArray, <- hl]; exact hz
 have hcap : ¬ its.toArray.size * k.toNat > (2 ^ 63 - 1) / 8 := by
  have : (sizeLine : Nat) <= (2 ^ 63 - 1) / 8 := by decide
  omega
 have hfit : ¬ (!Builtin.List.listFitsIndex k) = true := by
  rw [fitsIndex_both h1 h2]
  exact Bool.false_ne_true
 have hlong : ¬ Builtin.List.listTooLong (its.toArray.size * k.toNat) = true := by
  rw [notLongL hlen]
  exact Bool.false_ne_true
 have hnew : List.foldl (fun x1 x2 => x1 ++ x2) #[] (List.replicate (if its.toArray.isEmpty = true then 0 else k.toNat) its.toArray) = (List.replicate k.toNat its).flatten.toArray := by
  have f0 : ∀ m : Nat, List.foldl (fun x1 x2 => x1 ++ x2) #[] (List.replicate m its.toArray) = (List.replicate m its).flatten.toArray := fun m => by
   have := foldl_rep its m []
   rw [List.nil_append] at this
   exact this
  rw [f0]
  cases its with
  | nil => simp
  | cons a r' => rw [if_neg (by simp)]
 refine wpAny_binaryOp_repeat_ref (T := "list") (U := "int") (by decide) ⟨_, e, rfl⟩ (fun s' => typeIs_int s' k t) noFill_list_mul F.fills_int_mul F.slot_int_rmul repeat_list F.slot_int_index.lookup
  (call_meets F.slot_int_rmul (typeIs_int s k t) F.entry_int_rmul (F.args_int_rmul_2 _ _) (int___rmul___int_list k t l its.toArray n)
   ⟨e, rfl, ⟨_, e, rfl⟩, call_meets F.slot_list_mul ⟨_, e, rfl⟩ F.entry_list_mul (F.args_list_mul_2 _ _) (AutoListH.list___mul___list_int_3 l its.toArray n k t hfit hcap hlong) ⟨e, ?_⟩⟩)
 rw [hnew]
 exact ⟨.ref _, _, I.lnew (t' := s.toks) (r.rep k.toNat) (by rw [len_rep, Nat.mul_comm]; exact hz), rfl, q _ I.fresh⟩
end
section
variable {prog : Program} {w : World} {A : Around} {E : Value -> Shared -> Prop} {s : Shared}
end
section
variable {X : Cx}
end
end L2
namespace L2
open PySem PySem.Spec PyProof.Rows
section
variable {κ : Type} [DecidableEq κ]
def valV (kvs : List (κ × V)) (k : κ) : Option V := (kvs.find? fun kv => decide (kv.1 = k)).map (·.2)
def putK (kvs : List (κ × V)) (k : κ) (v : V) : List (κ × V) :=
 if (kvs.any fun kv => decide (kv.1 = k)) = true then kvs.map (fun kv => if kv.1 = k then (kv.1, v) else kv) else kvs ++ [(k, v)]
theorem qcd {p : κ × V} {r : List (κ × V)} {k : κ} (e : p.1 = k) : valV (p :: r) k = some p.2 := by simp [valV, List.find?_cons, e]
theorem qce {p : κ × V} {r : List (κ × V)} {k : κ} (e : ¬ p.1 = k) : valV (p :: r) k = valV r k := by simp [valV, List.find?_cons, e]
theorem valV_any (k : κ) : ∀ kvs : List (κ × V), (kvs.any fun kv => decide (kv.1 = k)) = (valV kvs k).isSome
 | [] => rfl
 | p :: r => by
  rw [List.any_cons]
  by_cases e : p.1 = k
  ·simp only [qcd e, decide_eq_true e, Bool.true_or, Option.isSome_some]
  ·rw [qce e, decide_eq_false e, Bool.false_or]; exact valV_any k r
theorem valV_map (k j : κ) (y : V) : ∀ kvs : List (κ × V), valV (kvs.map fun kv => if kv.1 = k then (kv.1, y) else kv) j = (valV kvs j).map fun x => if j = k then y else x
 | [] => rfl
 | p :: r => by
  have ih := valV_map k j y r
  rw [List.map_cons]
  by_cases h : p.1 = k
  ·rw [if_pos h]
   by_cases e : p.1 = j
   ·rw [qcd (p := (p.1, y)) e, qcd e, Option.map_some, if_pos (e.symm.trans h)]
   ·rw [qce (p := (p.1, y)) e, qce e, ih]
  ·rw [if_neg h]
   by_cases e : p.1 = j
   ·rw [qcd (p := p) e, qcd e, Option.map_some, if_neg (fun z => h (e.trans z))]
   ·rw [qce (p := p) e, qce e, ih]
theorem valV_snoc (k j : κ) (y : V) : ∀ kvs : List (κ × V), valV kvs k = none -> valV (kvs ++ [(k, y)]) j = if j = k then some y else valV kvs j
 | [], _ => by
  by_cases e : k = j
  ·rw [if_pos e.symm]; exact qcd (p := (k, y)) e
  ·rw [if_neg (fun z => e z.symm)]; exact qce (p := (k, y)) e
 | p :: r, hn => by
  rw [List.cons_append]
  have hk : ¬ p.1 = k := fun z => by rw [qcd z] at hn; cases hn
  rw [qce hk] at hn
  have ih := valV_snoc k j y r hn
  by_cases e : p.1 = j
  ·rw [qcd e, qcd e, if_neg (fun z => hk (e.trans z))]
  ·rw [qce e, qce e, ih]
theorem valV_put (kvs : List (κ × V)) (k j : κ) (y : V) : valV (putK kvs k y) j = if j = k then some y else valV kvs j := by
 unfold putK
 by_cases a : (kvs.any fun kv => decide (kv.1 = k)) = true
 ·rw [if_pos a, valV_map]
  rw [valV_any] at a
  by_cases e : j = k
  ·obtain ⟨x, hx⟩ := Option.isSome_iff_exists.mp a
   rw [if_pos e, e, hx, Option.map_some, if_pos rfl]
  ·rw [if_neg e]
   cases valV kvs j with
   | none => rfl
   | some x => rw [Option.map_some, if_neg e]
 ·rw [if_neg a]
  refine valV_snoc k j y kvs ?_
  rw [valV_any] at a
  cases q : valV kvs k with
  | none => rfl
  | some x => rw [q] at a; exact (a rfl).elim
theorem length_putK (kvs : List (κ × V)) (k : κ) (v : V) : (putK kvs k v).length <= kvs.length + 1 := by
 unfold putK
 split
 ·rw [List.length_map]; omega
 ·rw [List.length_append, List.length_cons, List.length_nil]; omega
theorem RelO.isSome_eq {o : Option V} {u : Option Value} (r : RelO o u) : o.isSome = u.isSome := by
 cases o with
 | none => cases u with
  | none => rfl
  | some _ => exact (show False from r).elim
 | some _ => cases u with
  | none => exact (show False from r).elim
  | some _ => rfl
theorem RelO.getD {o : Option V} {u : Option Value} {d : V} {d' : Value} (r : RelO o u) (rd : RelV d d') : RelV (o.getD d) (u.getD d') := by
 cases o with
 | none => cases u with
  | none => exact rd
  | some _ => exact (show False from r).elim
 | some _ => cases u with
  | none => exact (show False from r).elim
  | some _ => exact r
theorem KV.val {kvs : List (κ × V)} {vs : List (κ × Value)} (r : KV kvs vs) (k : κ) : RelO (valV kvs k) (valueAt vs k) := by
 unfold KV at r
 induction r with
 | nil => exact True.intro
 | @cons p q ps qs h t ih =>
  obtain ⟨h1, h2⟩ := h
  by_cases e : p.1 = k
  ·have e' : q.1 = k := h1.symm.trans e
   have b : valueAt (q :: qs) k = some q.2 := by simp [valueAt, List.find?_cons, e']
   rw [qcd e, b]; exact h2
  ·have e' : ¬ q.1 = k := fun z => e (h1.trans z)
   have b : valueAt (q :: qs) k = valueAt qs k := by simp [valueAt, List.find?_cons, e']
   rw [qce e, b]; exact ih
theorem KV.any {kvs : List (κ × V)} {vs : List (κ × Value)} (r : KV kvs vs) (k : κ) : (kvs.any fun kv => decide (kv.1 = k)) = vs.any fun kv => decide (kv.1 = k) := by
 unfold KV at r
 induction r with
 | nil => rfl
 | cons h t ih => rw [List.any_cons, List.any_cons, ih, h.1]
theorem KV.repl {kvs : List (κ × V)} {vs : List (κ × Value)} (r : KV kvs vs) (k : κ) {y : V} {u : Value} (ry : RelV y u) :
  KV (kvs.map fun kv => if kv.1 = k then (kv.1, y) else kv) (vs.map fun kv => if kv.1 = k then (kv.1, u) else kv) := by
 unfold KV at r ⊢
 induction r with
 | nil => exact .nil
 | @cons p q ps qs h t ih =>
  rw [List.map_cons, List.map_cons]
  refine .cons ?_ ih
  obtain ⟨h1, h2⟩ := h
  by_cases e : p.1 = k
  ·rw [if_pos e, if_pos (h1.symm.trans e)]; exact ⟨h1, ry⟩
  ·rw [if_neg e, if_neg (fun z => e (h1.trans z))]; exact ⟨h1, h2⟩
theorem KV.put {kvs : List (κ × V)} {vs : List (κ × Value)} (r : KV kvs vs) (k : κ) {y : V} {u : Value} (ry : RelV y u) : KV (putK kvs k y) (stored vs k u) := by
 unfold putK stored
 rw [r.any k]
 by_cases e : (vs.any fun kv => decide (kv.1 = k)) = true
 ·rw [if_pos e, if_pos e]; exact r.repl k ry
 ·rw [if_neg e, if_neg e]; exact Paired.snoc r ⟨rfl, ry⟩
theorem KV.length {kvs : List (κ × V)} {vs : List (κ × Value)} (r : KV kvs vs) : kvs.length = vs.length := Paired.length r
end
theorem kV_is {P : Program} {w : World} {k : Key} {u : Value} (r : RelV (kV k) u) : (qbq P w).is k u = true := by
 cases k with
 | inl i => obtain ⟨t, e⟩ := (show ∃ t, u = Value.int i t from r); subst e; exact mixKind_int P w i t
 | inr x => obtain ⟨t, e⟩ := (show ∃ t, u = Value.str x t from r); subst e; exact mixKind_str P w x t
theorem items_are {P : Program} {w : World} : ∀ {ks : List Key} {us : List Value}, Vals (ks.map kV) us -> ItemsAre (qbq P w) ks us
 | [], _, r => by rw [List.map_nil] at r; cases r; exact .nil
 | k :: ks, _, r => by
  rw [List.map_cons] at r
  cases r with
  | cons h t => exact .cons (kV_is h) (items_are t)
abbrev KT (H : Hp) : List (List Key × V) -> List (List Key × Addr × Value) -> Prop := Paired fun p q => p.1 = q.1 /\ H q.2.1 = some (.tup (p.1.map kV)) /\ RelV p.2 q.2.2
theorem KT.val {H : Hp} {kvs : List (List Key × V)} {xs : List (List Key × Addr × Value)} (r : KT H kvs xs) (k : List Key) : RelO (valV kvs k) ((atKey xs k).map (·.2)) := by
 induction r with
 | nil => exact True.intro
 | @cons p q ps qs h t ih =>
  obtain ⟨h1, _, h2⟩ := h
  by_cases e : p.1 = k
  ·have e' : q.1 = k := h1.symm.trans e
   have b : atKey (q :: qs) k = some q.2 := by simp [atKey, List.find?_cons, e']
   rw [qcd e, b]; exact h2
  ·have e' : ¬ q.1 = k := fun z => e (h1.trans z)
   have b : atKey (q :: qs) k = atKey qs k := by simp [atKey, List.find?_cons, e']
   rw [qce e, b]; exact ih
theorem KT.repl {H : Hp} {kvs : List (List Key × V)} {xs : List (List Key × Addr × Value)} (r : KT H kvs xs) (k : List Key) {y : V} {u : Value} (ry : RelV y u) :
  KT H (kvs.map fun kv => if kv.1 = k then (kv.1, y) else kv) (xs.map (putAt k u)) := by
 induction r with
 | nil => exact .nil
 | @cons p q ps qs h t ih =>
  rw [List.map_cons, List.map_cons]
  refine .cons ?_ ih
  obtain ⟨h1, h2, h3⟩ := h
  unfold putAt
  by_cases e : p.1 = k
  ·rw [if_pos e, if_pos (h1.symm.trans e)]; exact ⟨h1, h2, ry⟩
  ·rw [if_neg e, if_neg (fun z => e (h1.trans z))]; exact ⟨h1, h2, h3⟩
theorem KT.put {H : Hp} {kvs : List (List Key × V)} {xs : List (List Key × Addr × Value)} (r : KT H kvs xs) (k : List Key) {b : Addr} {y : V} {u : Value} (hb : H b = some (.tup (k.map kV))) (ry : RelV y u) :
  KT H (putK kvs k y) (storedH xs k b u) := by
 have e : (kvs.any fun kv => decide (kv.1 = k)) = (atKey xs k).isSome := by
  rw [valV_any, (r.val k).isSome_eq, Option.isSome_map]
 unfold putK storedH
 rw [e]
 by_cases q : (atKey xs k).isSome = true
 ·rw [if_pos q, if_pos q]; exact r.repl k ry
 ·rw [if_neg q, if_neg q]; exact Paired.snoc r ⟨rfl, hb, ry⟩
theorem KT.keeps {H H' : Hp} {kvs : List (List Key × V)} {xs : List (List Key × Addr × Value)} (r : KT H kvs xs) (ht : ∀ b ys, H b = some (.tup ys) -> H' b = some (.tup ys)) : KT H' kvs xs :=
 Paired.mapP r fun _ _ z => ⟨z.1, ht _ _ z.2.1, z.2.2⟩
section
variable {P : Program} {w : World} {H : Hp} {h : Heap} {a : Addr}
theorem rd_of {u : HO} (ok : HOk P w H h) (e : Rd H a u) : ObjOk P w H h a u := e.ok ok
theorem dk_rd {kvs : List (Key × V)} (ok : HOk P w H h) (e : Rd H a (.dK kvs)) : kvs.length <= sizeLine /\ (a == sysModules) = false /\ ∃ vs, KV kvs vs /\ h.DictOf (qbq P w) a vs :=
 show ObjOk P w H h a (.dK kvs) from rd_of ok e
theorem dk_of {kvs : List (Key × V)} (ok : HOk P w H h) (e : H a = some (.dK kvs)) : kvs.length <= sizeLine /\ (a == sysModules) = false /\ ∃ vs, KV kvs vs /\ h.DictOf (qbq P w) a vs := dk_rd ok (.inl e)
theorem key_of {ks : List Key} (ok : HOk P w H h) (e : H a = some (.tup (ks.map kV))) : (tupleKind (qbq P w)).is h ks a := by
 obtain ⟨_, its, r, o, h1, h2, n, h3⟩ := (show ObjOk P w H h a (.tup (ks.map kV)) from ok a _ e)
 exact ⟨o, its.toArray, n, h1, h2, h3, by simpa using items_are r⟩
theorem dt_rd {kvs : List (List Key × V)} (ok : HOk P w H h) (e : Rd H a (.dT kvs)) : kvs.length <= sizeLine /\ (a == sysModules) = false /\
  ∃ xs, KT H kvs xs /\ h.DictOfH (tupleKind (qbq P w)) a xs := by
 obtain ⟨z, y, xs, r, o, es, ep, h1, h2, h3, h4, h5⟩ := (show ObjOk P w H h a (.dT kvs) from rd_of ok e)
 refine ⟨z, y, xs, r, o, es, ep, h1, h2, h3, h4, fun x hx => ?_, h5⟩
 have all : ∀ {l : List (List Key × V)} {m : List (List Key × Addr × Value)}, KT H l m -> ∀ x ∈ m, (tupleKind (qbq P w)).is h x.1 x.2.1 := by
  intro l m q
  induction q with
  | nil => intro x hx; exact nomatch hx
  | @cons p q ps qs hq t ih =>
   intro x hx
   rcases List.mem_cons.mp hx with e | hx
   ·subst e
    exact key_of ok (by rw [<- hq.1]; exact hq.2.1)
   ·exact ih x hx
 exact all r x hx
theorem dt_of {kvs : List (List Key × V)} (ok : HOk P w H h) (e : H a = some (.dT kvs)) : kvs.length <= sizeLine /\ (a == sysModules) = false /\
  ∃ xs, KT H kvs xs /\ h.DictOfH (tupleKind (qbq P w)) a xs := dt_rd ok (.inl e)
end
def DGet (H : Hp) (a : Addr) (y : V) (r : Option V) : Prop :=
 (∃ kvs k, Rd H a (.dK kvs) /\ y = kV k /\ r = valV kvs k) \/ ∃ kvs k b, Rd H a (.dT kvs) /\ y = .ref b /\ H b = some (.tup (k.map kV)) /\ r = valV kvs k
def DPut (H : Hp) (a : Addr) (y v : V) (H' : Hp) : Prop :=
 (∃ kvs k, H a = some (.dK kvs) /\ y = kV k /\ kvs.length < sizeLine /\ H' = upd H a (.dK (putK kvs k v))) \/
 ∃ kvs k b, H a = some (.dT kvs) /\ y = .ref b /\ H b = some (.tup (k.map kV)) /\ kvs.length < sizeLine /\ H' = upd H a (.dT (putK kvs k v))
theorem DGet.t {H : Hp} {a b : Addr} {kvs : List (List Key × V)} {k : List Key} (e : H a = some (.dT kvs)) (eb : H b = some (.tup (k.map kV))) : DGet H a (.ref b) (valV kvs k) := .inr ⟨kvs, k, b, .inl e, rfl, eb, rfl⟩
theorem DPut.t {H : Hp} {a b : Addr} {kvs : List (List Key × V)} {k : List Key} {v : V} (e : H a = some (.dT kvs)) (eb : H b = some (.tup (k.map kV))) (hl : kvs.length < sizeLine) :
  DPut H a (.ref b) v (upd H a (.dT (putK kvs k v))) := .inr ⟨kvs, k, b, e, rfl, eb, hl, rfl⟩
section
variable {X : Cx} {pins : List (Addr × Obj)} {σ : St} {H : Hp} {s : Shared} {a : Addr} {y v : V} {u r : Value} {o : Option V} {A : Around} {E : Value -> Shared -> Prop}
theorem Inv.big (I : Inv X pins σ H s) : sysModules < s.heap.objs.size := by
 have h : mainGlobals < s.heap.objs.size := (I.mod.glob.keeps I.bk).lt
 exact Nat.lt_trans (by decide) h
theorem d_getItem {Q : Value -> Shared -> Prop} (hu : A.units + 1 < cLine) (I : Inv X pins σ H s) (g : DGet H a y (some v)) (ry : RelV y u) (h : ∀ w' s', Inv X pins σ H s' -> RelV v w' -> Q w' s') :
  wpAny (model X.prog X.w) A (getItem (.ref a) u) Q E s := by
 rcases g with ⟨kvs, k, e, ey, l⟩ | ⟨kvs, k, b, e, ey, eb, l⟩
 ·subst ey
  obtain ⟨z, hd, vs, rel, dd⟩ := dk_rd I.hok e
  obtain ⟨w', hw, rw'⟩ := RelO.some_of (v := v) (o := valueAt vs k) (by rw [l]; exact rel.val k)
  exact wpAny_getItem_of (kV_is ry) dd.mapOf hw (h w' _ (I.tok _) rw')
 ·subst ey
  cases (show u = Value.ref b from ry)
  obtain ⟨z, hd, xs, rel, dd⟩ := dt_rd I.hok e
  obtain ⟨w', hw, rw'⟩ := RelO.some_of (v := v) (o := (atKey xs k).map (·.2)) (by rw [l]; exact rel.val k)
  obtain ⟨p, hp, hp2⟩ := Option.map_eq_some_iff.mp hw
  refine wpAny_getItem_heap (tupleKind_room_in1 hu) (key_of I.hok eb) dd hp ?_
  rw [hp2]
  exact h w' _ (I.tok _) rw'
theorem d_in {Q : Value -> Shared -> Prop} (hu : A.units + 1 < cLine) (I : Inv X pins σ H s) (g : DGet H a y o) (ry : RelV y u) (h : ∀ s', Inv X pins σ H s' -> Q (.bool o.isSome) s') :
  wpAny (model X.prog X.w) A (compareOp .In u (.ref a)) Q E s := by
 rcases g with ⟨kvs, k, e, ey, l⟩ | ⟨kvs, k, b, e, ey, eb, l⟩
 ·subst ey
  obtain ⟨z, hd, vs, rel, dd⟩ := dk_rd I.hok e
  refine wpAny_in_of (kV_is ry) hd dd.mapOf ?_
  rw [<- (rel.val k).isSome_eq, <- l]
  exact h _ (I.tok _)
 ·subst ey
  cases (show u = Value.ref b from ry)
  obtain ⟨z, hd, xs, rel, dd⟩ := dt_rd I.hok e
  refine wpAny_in_heap (tupleKind_room_in1 hu) (key_of I.hok eb) hd dd ?_
  have q := (rel.val k).isSome_eq
  rw [Option.isSome_map] at q
  rw [<- q, <- l]
  exact h _ (I.tok _)
theorem d_write {h' : Heap} {t' : Nat} {ob : HO} (I : Inv X pins σ H s) (mu : Mut (H a)) (hs : Heap.SameBut a s.heap h') (he : ∃ q, h'.get? a = some q) (new : ObjOk X.prog X.w (upd H a ob) h' a ob) :
  Inv X pins σ (upd H a ob) { s with heap := h', toks := t' } :=
 I.write (x := a) (e := a) mu (.inl rfl) (fun b q hb z => (hs.2 b hb).trans z) he new
theorem dk_new {P : Program} {w : World} {H' : Hp} {h' : Heap} {kvs : List (Key × V)} {vs : List (Key × Value)} (z : kvs.length <= sizeLine) (hd : (a == sysModules) = false) (rel : KV kvs vs) (dd : h'.DictOf (qbq P w) a vs) :
  ObjOk P w H' h' a (.dK kvs) := ⟨z, hd, vs, rel, dd⟩
theorem d_setItem {H' : Hp} {Q : Unit -> Shared -> Prop} (hu : A.units + 1 < cLine) (I : Inv X pins σ H s) (g : DPut H a y v H') (ry : RelV y u) (rv : RelV v r) (h : ∀ s', Inv X pins σ H' s' -> Q () s') :
  wpAny (model X.prog X.w) A (setItem (.ref a) u r) Q E s := by
 rcases g with ⟨kvs, k, e, ey, l, eH⟩ | ⟨kvs, k, b, e, ey, eb, l, eH⟩
 ·subst ey eH
  obtain ⟨z, hd, vs, rel, dd⟩ := dk_of I.hok e
  have hz : vs.length <= sizeLine := by rw [<- rel.length]; exact z
  have hl : (putK kvs k v).length <= sizeLine := by have := length_putK kvs k v; omega
  refine wpAny_setItem_pairs (hsz := hz) (kV_is ry) dd fun h' dd' hs => h _ ?_
  have he : ∃ q, h'.get? a = some q := let ⟨q, _, _, hq, _⟩ := dd'; ⟨q, hq⟩
  exact d_write I (by rw [e]; exact True.intro) hs he (dk_new hl hd (rel.put k rv) dd')
 ·subst ey eH
  cases (show u = Value.ref b from ry)
  obtain ⟨z, hd, xs, rel, dd⟩ := dt_of I.hok e
  have hz : xs.length <= sizeLine := by rw [<- Paired.length rel]; exact z
  have hl : (putK kvs k v).length <= sizeLine := by have := length_putK kvs k v; omega
  refine wpAny_setItem_heap (hsz := hz) (tupleKind_room_in1 hu) (key_of I.hok eb) dd fun h' dd' hs => h _ ?_
  obtain ⟨q, es, ep, hq, h2, h3, h4, _, h5⟩ := dd'
  refine d_write I (by rw [e]; exact True.intro) hs ⟨q, hq⟩ ⟨hl, hd, _, (rel.put k eb rv).keeps fun c ys ec => ?_, q, es, ep, hq, h2, h3, h4, h5⟩
  rw [qau (qbk ec e (fun z => nomatch z))]
  exact ec
end
section
variable {X : Cx} {pins : List (Addr × Obj)} {σ : St} {H : Hp} {s : Shared} {a : Addr} {kvs : List (Key × V)} {k : Key} {u : Value} {A : Around} {E : Value -> Shared -> Prop}
end
def NoSl (i : Expr) : Prop := ∀ ov iv, subscripted i false ov iv = operate [ov, iv] (getItem ov iv)
theorem subD_of {prog : Program} {w : World} {A : Around} {E : Value -> Shared -> Prop} {s : Shared} {env : Env} {value slice : Expr} {pos : Pos} {T id : String} {Q : Value -> Shared -> Prop}
  (hl : typeLookup (.type T) "__getitem__" = pure (some (.builtin id))) (hs : NoSl slice)
  (h : wpAny (model prog w) A (eval value env) (fun o s₁ => wpAny (model prog w) A (eval slice env) (fun i s₂ => s₂.TypeIs o T /\ wpAny (model prog w) A (getItem o i) Q E s₂) E s₁) E s) :
  wpAny (model prog w) A (eval (.Subscript value slice pos) env) Q E s := by
 refine Subscript_ (wpAny_mono h (fun o s₁ h₁ => wpAny_mono h₁ (fun i s₂ h₂ => ?_) fun _ _ x => x) fun _ _ x => x)
 obtain ⟨hT, h₂⟩ := h₂
 unfold subscriptTail
 refine wpAny_bind ?_
 rw [getitemInPython_of_ne hT.not_modules]
 refine wpAny_bind (wpAny_specialOf hT hl ?_)
 have fin : wpAny (model prog w) A (subscripted slice false o i) (fun r s₃ => wpAny (model prog w) A (letTemporaryGo value o r >>= fun _ => pure r) Q E s₃) E s₂ := by
  rw [hs o i]
  exact wpAny_operating (wpAny_mono h₂ (fun r s₃ h₃ => wpAny_bind (wpAny_letTemporaryGo (wpAny_pure h₃))) fun _ _ x => x)
 first
  | exact wpAny_pure (wpAny_bind fin)
  | exact wpAny_bind (wpAny_pure (wpAny_bind fin))
  | exact wpAny_bind fin
theorem dict_typeIs {X : Cx} {pins : List (Addr × Obj)} {σ : St} {H : Hp} {s : Shared} {a : Addr} {y : V} {o : Option V} (I : Inv X pins σ H s) (g : DGet H a y o) : s.TypeIs (.ref a) "dict" := by
 rcases g with ⟨kvs, k, e, _, _⟩ | ⟨kvs, k, b, e, _, _, _⟩
 ·obtain ⟨_, _, vs, _, dd⟩ := dk_rd I.hok e
  exact dd.typeIs
 ·obtain ⟨_, _, xs, _, dd⟩ := dt_rd I.hok e
  exact dd.typeIs
def tDGet (td ty : TE) : TE := fun σ H Q => td σ H fun x H1 => ty σ H1 fun y H2 => ∃ a v, x = .ref a /\ DGet H2 a y (some v) /\ Q v H2
def tDIn (ty td : TE) : TE := fun σ H Q => ty σ H fun y H1 => td σ H1 fun x H2 => ∃ a o, x = .ref a /\ DGet H2 a y o /\ Q (.bl o.isSome) H2
def sDPut (td ty tv : TE) : TS := fun D σ H => tv σ H fun v H1 => td σ H1 fun x H2 => ty σ H2 fun y H3 => ∃ a H4, x = .ref a /\ DPut H3 a y v H4 /\ D.nx σ H4
section
variable {X : Cx} {o i e value : Expr} {pos pos' tpos : Pos} {td ty tv : TE}
theorem pe_dget (hu : X.A.units + 1 < cLine) (ho : PE X o td) (hi : PE X i ty) (hs : NoSl i) : PE X (.Subscript o i pos) (tDGet td ty) := by
 intro pins s σ H Q I h
 refine subD_of PySem.F.slot_dict_getitem.lookup hs (thn (ho pins s σ H _ I h) fun u s1 ⟨x, H1, I1, rx, q1⟩ => thn (hi pins s1 σ H1 _ I1 q1) fun iv s2 hq__ => ?_)
 obtain ⟨y, H2, I2, ry, a, v, ex, g, q2⟩ := hq__
 subst ex
 obtain rfl : u = Value.ref a := rx
 exact ⟨dict_typeIs I2 g, d_getItem hu I2 g ry fun w' s3 I3 rw' => ⟨v, H2, I3, rw', q2⟩⟩
theorem pc_din (hu : X.A.units + 1 < cLine) (hi : PE X i ty) (ho : PE X o td) : PC X .In i o (tDIn ty td) := by
 intro pins s σ H Q I h
 refine thn (hi pins s σ H _ I h) fun iv s1 ⟨y, H1, I1, ry, q1⟩ => thn (ho pins s1 σ H1 _ I1 q1) fun u s2 hq__ => ?_
 obtain ⟨x, H2, I2, rx, a, ov, ex, g, q2⟩ := hq__
 subst ex
 obtain rfl : u = Value.ref a := rx
 exact d_in hu I2 g ry fun s3 I3 => ⟨.bl ov.isSome, H2, I3, rfl, q2⟩
theorem ps_dput (hu : X.A.units + 1 < cLine) (ho : PE X o td) (hi : PE X i ty) (hv : PE X value tv) (hs : swapsWith value (some (.Subscript o i pos')) pos.line X.env = pure false) :
  PS X (.Assign [.Subscript o i pos'] value pos) (sDPut td ty tv) := by
 intro pins s σ H D I h
 refine wpAny_Assign_Subscript (thn (hv pins s σ H _ I h) fun r s1 ⟨v, H1, I1, rv, q1⟩ => thn (ho pins s1 σ H1 _ I1 q1) fun u s2 ⟨x, H2, I2, rx, q2⟩ => thn (hi pins s2 σ H2 _ I2 q2) fun iv s3 hq__ => ?_) hs
 obtain ⟨y, H3, I3, ry, a, H4, ex, g, q3⟩ := hq__
 subst ex
 obtain rfl : u = Value.ref a := rx
 exact d_setItem hu I3 g ry rv fun s4 I4 => ⟨σ, H4, I4, q3⟩
end
theorem dt_empty {P : Program} {w : World} {H : Hp} (h : Heap) (hb : sysModules < h.objs.size) : ObjOk P w H (h.push { cls := .type "dict", data := .dict #[] }) h.objs.size (.dT []) :=
 ⟨Nat.zero_le _, beq_eq_false_iff_ne.mpr (Ne.symm (Nat.ne_of_lt hb)), [], .nil, _, #[], 0, Heap.get?_push_size _ rfl, ⟨rfl, rfl, rfl⟩, rfl, rfl, List.nodup_nil⟩
def tDNewT : TE := fun _ H Q => ∀ p, H p = none -> Q (.ref p) (upd H p (.dT []))
section
variable {X : Cx} {pos : Pos}
theorem pe_dnewT : PE X (.Dict [] [] pos) tDNewT := fun pins s σ H Q I h =>
 wpAny_Dict_empty ⟨.ref s.heap.objs.size, _, I.laid (a := s.heap.objs.size) (o := .dT []) (t' := s.toks) (fun _ _ q => Heap.get?_push_of_some _ q) (Nat.le_refl _) (dt_empty s.heap I.big), rfl, h _ (I.hok.fresh (Nat.le_refl _))⟩
end
structure M1 (X : Cx) (o : Expr) (m : Str) (apos : Pos) (e : Expr) (cpos : Pos) : Prop where
 base : attributeBase o m X.env (eval o X.env) = eval o X.env
 few : ((backTo cpos (starEach [e] X.env)).all (fun x => !x.1) && (backToKw cpos (keywordEach [] X.env)).all (fun x => x.1.isSome)
  && decide (([e] : List Expr).length + ([] : List Keyword).length + (if ([] : List Keyword).isEmpty then 0 else 1) < 30)) = true
 line : (apos.endLine == cpos.line) = true
 trees : backTo cpos (starEach [e] X.env) = [(false, eval e X.env)]
structure M2 (X : Cx) (o : Expr) (m : Str) (apos : Pos) (e f : Expr) (cpos : Pos) : Prop where
 base : attributeBase o m X.env (eval o X.env) = eval o X.env
 few : ((backTo cpos (starEach [e, f] X.env)).all (fun x => !x.1) && (backToKw cpos (keywordEach [] X.env)).all (fun x => x.1.isSome)
  && decide (([e, f] : List Expr).length + ([] : List Keyword).length + (if ([] : List Keyword).isEmpty then 0 else 1) < 30)) = true
 line : (apos.endLine == cpos.line) = true
 trees : backTo cpos (starEach [e, f] X.env) = [(false, eval e X.env), (false, eval f X.env)]
def IsD (H : Hp) (a : Addr) : Prop := (∃ kvs, Rd H a (.dK kvs)) \/ ∃ kvs, Rd H a (.dT kvs)
theorem isD_at {X : Cx} {pins : List (Addr × Obj)} {σ : St} {H : Hp} {s : Shared} {a : Addr} (I : Inv X pins σ H s) (d : IsD H a) :
  s.TypeIs (.ref a) "dict" /\ (∀ b, Value.ref a = .ref b -> ∃ ob, s.heap.get? b = some ob /\ ob.dict = none) /\ (a == sysModules) = false := by
 rcases d with ⟨kvs, e⟩ | ⟨kvs, e⟩
 ·obtain ⟨_, hd, vs, _, dd⟩ := dk_rd I.hok e
  refine ⟨dd.typeIs, fun b q => ?_, hd⟩
  cases q
  obtain ⟨ob, _, _, h1, h2, _⟩ := dd
  exact ⟨ob, h1, h2.2.1⟩
 ·obtain ⟨_, hd, xs, _, dd⟩ := dt_rd I.hok e
  refine ⟨dd.typeIs, fun b q => ?_, hd⟩
  cases q
  obtain ⟨ob, _, _, h1, h2, _⟩ := dd
  exact ⟨ob, h1, h2.2.1⟩
section
variable {X : Cx} {pins : List (Addr × Obj)} {σ : St} {H : Hp} {s : Shared} {a : Addr} {y d : V} {u r : Value} {o : Option V} {A : Around} {E : Value -> Shared -> Prop}
theorem d_get2 {Q : Value -> Shared -> Prop} (hu : A.units + 1 < cLine) (I : Inv X pins σ H s) (g : DGet H a y o) (ry : RelV y u) (rd : RelV d r) (h : ∀ w' s', Inv X pins σ H s' -> RelV (o.getD d) w' -> Q w' s') :
  wpAny (model X.prog X.w) A (call (.builtin "dict.get") [.ref a, u, r]) Q E s := by
 rcases g with ⟨kvs, k, e, ey, l⟩ | ⟨kvs, k, b, e, ey, eb, l⟩
 ·subst ey
  obtain ⟨z, hd, vs, rel, dd⟩ := dk_rd I.hok e
  refine call_meetsIn PySem.F.slot_dict_get dd.typeIs PySem.F.entry_dict_get (PySem.F.args_dict_get_3 _ _ _) (meets_dict_get_default (qbq X.prog X.w) a (kV_is ry) hd r) ⟨_, dd.mapOf, h _ _ (I.tok _) ?_⟩
  rw [l]
  exact (rel.val k).getD rd
 ·subst ey
  cases (show u = Value.ref b from ry)
  obtain ⟨z, hd, xs, rel, dd⟩ := dt_rd I.hok e
  refine call_meetsIn PySem.F.slot_dict_get dd.typeIs PySem.F.entry_dict_get (PySem.F.args_dict_get_3 _ _ _) (meetsH_dict_get_default (tupleKind (qbq X.prog X.w)) a b hd r) ⟨tupleKind_room_in1 hu, k, xs, key_of I.hok eb, dd, h _ _ (I.tok _) ?_⟩
  rw [l]
  exact (rel.val k).getD rd
end
def tDGet2 (td ty tx : TE) : TE := fun σ H Q => td σ H fun x H1 => ∃ a, x = .ref a /\ IsD H1 a /\ ty σ H1 fun y H2 => tx σ H2 fun z H3 => ∃ o, DGet H3 a y o /\ Q (o.getD z) H3
section
variable {X : Cx} {o e f : Expr} {apos cpos : Pos} {td ty tx : TE}
theorem pe_dget2 (hu : X.A.units + 1 < cLine) (ho : PE X o td) (he : PE X e ty) (hf : PE X f tx) (m : M2 X o "get" apos e f cpos) : PE X (.Call (.Attribute o "get" apos) [e, f] [] cpos) (tDGet2 td ty tx) := by
 intro pins s σ H Q I h
 refine wpAny_Call_method m.base m.few m.line PySem.F.plainAttrs_dict PySem.F.slot_dict_get PySem.F.type_dict_get (thn (ho pins s σ H _ I h) fun u s1 hq__ => ?_)
 obtain ⟨x, H1, I1, rx, a, ex, d, q1⟩ := hq__
 subst ex
 obtain rfl : u = Value.ref a := rx
 obtain ⟨t1, t2, _⟩ := isD_at I1 d
 refine ⟨t1, t2, ?_⟩
 rw [m.trees]
 refine Calls.callWith_builtin rfl (Calls.evalArgs_plain (Calls.spliced_cons (thn (he pins s1 σ H1 _ I1 q1) fun iv s2 ⟨y, H2, I2, ry, q2⟩ =>
  Calls.spliced_cons (thn (hf pins s2 σ H2 _ I2 q2) fun fv s3 ⟨z, H3, I3, rz, ov, g, q3⟩ => Calls.spliced_nil ?_))))
 exact d_get2 hu I3 g ry rz fun w' s4 I4 rw' => ⟨_, H3, I4, rw', q3⟩
end
section
variable {X : Cx} {pins : List (Addr × Obj)} {σ : St} {H : Hp} {s : Shared} {a : Addr} {kvs : List (Key × V)} {A : Around} {E : Value -> Shared -> Prop}
end
section
variable {X : Cx} {pins : List (Addr × Obj)} {σ : St} {H : Hp} {s : Shared} {a : Addr} {y : V} {u : Value} {A : Around} {E : Value -> Shared -> Prop}
end
end L2
namespace Att
open PySem PySem.W PySem.Calls PyProof.Rows
theorem ints_of_wellAll {P : Params} {h : Heap} : ∀ (ns : List Int) (vs : List Value), WellAll P h vs (ns.map WData.int) -> IntsAre vs ns := by
 intro ns
 induction ns with
 | nil =>
  intro vs w
  rw [List.map_nil] at w
  cases w
  exact .nil
 | cons n ns ih =>
  intro vs w
  rw [List.map_cons] at w
  cases w with
  | cons a b =>
   cases a
   exact .cons _ _ (ih _ b)
theorem script_of {l : OpenLaw} {n : Nat} (hn : l.most = some n) {P : Params} {h : Heap} {args : List WData} {vals : List Value}
  (hpre : l.row.toRowW.claim.pre args = true) (hwl : WellAll P h vals args) :
  ∃ a vs ns, vals = [Value.ref a] /\ args = [WData.list (ns.map WData.int)] /\ h.get? a = some { cls := .type "list", data := .seq vs.toArray } /\ IntsAre vs ns /\ ns.length <= n := by
 have hsh : WShape.hasAll [] args [.list .int] = true := (pre_splitW hpre).1
 have hc : l.pre.holds [] { args := args } = true := (pre_splitW hpre).2
 obtain ⟨d, r, rfl, h1, h2⟩ := hasAllW_cons hsh
 obtain rfl := hasAllW_nil h2
 obtain ⟨xs, rfl, h3⟩ := hasW_list h1
 obtain ⟨ns, rfl⟩ := items_int h3
 have hlen : ns.length <= n := by
  unfold OpenLaw.pre at hc
  have h4 : (WTm.not (.lt (.lit (.int (n : Int))) (.len (.arg 0)))).holds [] { args := [.list (ns.map .int)] } = true := by
   have h4 := (holds_andW hc).1
   rw [hn] at h4
   exact h4
  have h5 := condW_of h4 (w_not (w_lt w_lit (w_len_list (w_arg rfl))))
  rw [List.length_map] at h5
  refine Nat.le_of_not_lt fun q => ?_
  have q' : (n : Int) < ((ns.length : Nat) : Int) := by omega
  first
   | (rw [decide_eq_true q'] at h5; exact absurd h5 (by decide))
   | (simp at h5; omega)
 cases hwl with
 | cons w1 w2 =>
  cases w2
  cases w1 with
  | list ho hall => exact ⟨_, _, ns, rfl, rfl, ho, ints_of_wellAll ns _ hall, hlen⟩
theorem post_true (l : OpenLaw) (args : List WData) : l.row.toRowW.claim.post args (.bool true) args = true :=
 postW_of (r := l.row.toRowW) (X := (true == true))
  (show WShape.has [] (.bool true) .bool = true by first | rfl | decide | simp [WShape.has, WShape.arms, WShape.armsAll])
  (show (WTm.eq .res (.lit (.bool true))).value [] { args := args, res := some (.bool true), after := args } = some (.bool (true == true)) from w_eq_bool (w_res rfl) w_lit) rfl
theorem attach_call {l : OpenLaw} {n : Nat} {q : Program} {loose : List Str} {XP : (Str -> Option Value) -> Heap -> Prop} {YP : World -> Heap -> Prop} {d : DefRec}
  (hn : l.most = some n) (hdf : d.params.defaults = [])
  (call : ∀ (w : World) (s₀ s₁ : Shared) (mg mb : Str -> Option Value) (fa : Addr) (o : Obj) (pm cd doc : Value) (a : Addr) (vs : List Value) (ns : List Int),
   Ground q loose [] XP w s₀ mg mb s₁.heap -> YP w s₁.heap ->
   s₁.heap.get? fa = some o -> o.data = .func (docDef d.name d.params d.body d.scope pm cd doc) -> s₁.heap.CodeRec cd d.name -> mg d.name = some (.ref fa) ->
   s₁.heap.get? a = some { cls := .type "list", data := .seq vs.toArray } -> IntsAre vs ns -> ns.length <= n -> s₁.gens = #[] ->
   codeAny (model l.prog w) callerA (.call (.ref fa) ⟨[.ref a], []⟩) (fun r s' => r = .ok (.ret (.bool true)) /\ OldK s₁.heap s'.heap /\ s'.os = s₁.os /\ AllBare s'.gens) s₁) :
  WalkO q loose XP YP l.row.toRowW d [] (fun f vs => PySem.call f vs) := by
 intro w s₀ s₁ mg mb G Y fa o pm cd doc dV kV ho hd hcd hD hmg hg args vals as hpre hlay hrd hwl hlo
 obtain rfl : dV = .none := Dflts.none hD hdf
 obtain rfl : kV = .none := Dflts.noKw hD
 obtain ⟨a, vs, ns, rfl, rfl, hobj, hints, hlen⟩ := script_of hn hpre hwl
 refine enter_call (codeAny_mono (call w s₀ s₁ mg mb fa o pm cd doc a vs ns G Y ho (fd_plain hd) hcd hmg hobj hints hlen hg) fun r s' hq => ?_)
 obtain ⟨rfl, h2, h3, h4⟩ := hq
 exact ⟨.inl ⟨.bool true, .bool true, [], rfl, fun _ => rfl, .bool true, post_true l _, fun _ => ⟨List.Pairwise.nil, fun _ hm => (nomatch hm)⟩⟩, h2, h3, h4⟩
section
variable {prog : Program} {w : World} {A : Around} {E : Value -> Shared -> Prop} {s : Shared} {K : Frag}
def ledger (h : Heap) (L d : Addr) : List (Addr × Obj) := (List.range h.objs.size).filterMap fun a => if a = L \/ a = d then none else (h.get? a).map fun o => (a, o)
end
end Att
namespace L2
open PySem PySem.Spec PyProof.Rows
theorem vals_ints : ∀ {vs : List Value} {ns : List Int}, IntsAre vs ns -> Vals (ns.map V.int) vs
 | _, _, .nil => .nil
 | _, _, .cons n t h => .cons ⟨t, rfl⟩ (vals_ints h)
def Only (H : Hp) : Prop := ∀ b, H b = none \/ ∃ o xs, H b = some (.frz o (.lst xs))
theorem law_call {P : Program} {w : World} {K : Frag} {mg mb : Str -> Option Value} {CX : CXT} {k : Nat} {fa a : Addr} {fd : FuncData} {x : Str} {sp : Sp} {s₁ : Shared} {vs : List Value} {ns : List Int}
  (KX : K.In s₁.heap) (hns : s₁.heap.Ns mainGlobals mg) (hb : s₁.heap.Ns builtinsNs mb) (hbb : ∀ x : Str, x ≠ "__name__" -> mb x = bootBuiltins x) (hlim : s₁.heap.NoLimit) (hg : s₁.gens = #[])
  (ha : s₁.heap.get? a = some { cls := .type "list", data := .seq vs.toArray }) (hi : IntsAre vs ns) (hl : ns.length <= sizeLine) (hr : Room k callerA)
  (F : ∀ base : Heap, K.In base -> base.Ns mainGlobals mg -> FnOk P w K mg base CX k fa fd [x] sp) (hbind : ∀ (s : Shared) (u : Value), BindsTo s fd ⟨[u], []⟩ [(x, u)])
  (hsp : ∀ H : Hp, Only H -> SqL K H a (ns.map V.int) -> sp [.ref a] H (fun v _ => v = .bl true) fun _ _ _ => False)
  (hCX : ∀ H e s', CX [] H s₁ (fun _ _ _ => False) e s' -> False) :
  codeAny (model P w) callerA (.call (.ref fa) ⟨[.ref a], []⟩) (fun r s' => r = .ok (.ret (.bool true)) /\ OldK s₁.heap s'.heap /\ s'.os = s₁.os /\ AllBare s'.gens) s₁ := by
 have rv := vals_ints hi
 have lenV := hi.length
 have core : ∀ H : Hp, Only H -> SqL K H a (ns.map V.int) -> HOk P w H s₁.heap -> (∀ b, H b ≠ none -> b = a) -> (H a ≠ none -> K.lookup a = none) ->
   codeAny (model P w) callerA (.call (.ref fa) ⟨[.ref a], []⟩) (fun r s' => r = .ok (.ret (.bool true)) /\ OldK s₁.heap s'.heap /\ s'.os = s₁.os /\ AllBare s'.gens) s₁ := by
  intro H hO hS hok hA hK
  have base_of : ∀ {b : Addr} {o : Obj}, s₁.heap.get? b = some o -> H b = none -> (hidT s₁.heap H).get? b = some o := fun e n => hidT_get e n
  have noA : ∀ {b : Addr} {o : Obj} {es : Array DictEntry} {ep : Nat}, s₁.heap.get? b = some o -> o.data = .dict es ep -> H b = none := fun {b o es ep} e d => by
   cases q : H b with
   | none => rfl
   | some u =>
    have e' : b = a := hA b (by rw [q]; simp)
    subst e'
    rw [ha] at e; cases e
    have d' : Data.seq vs.toArray _ = Data.dict es ep := d
    cases d'
  have nsK : ∀ {b : Addr} {m : Str -> Option Value}, s₁.heap.Ns b m -> (hidT s₁.heap H).Ns b m := fun {b m} ⟨o, es, ep, e, d, r⟩ => ⟨o, es, ep, base_of e (noA e d), d, r⟩
  have hKb : K.In (hidT s₁.heap H) := fun b o e => base_of (KX b o e) (by
   cases q : H b with
   | none => rfl
   | some u =>
    have e' : b = a := hA b (by rw [q]; simp)
    subst e'
    rw [hK (by rw [q]; simp)] at e; cases e)
  have hM : Mod K mg (hidT s₁.heap H) := ⟨hKb, nsK hns, ⟨mb, nsK hb, hbb⟩, let ⟨mc, h1, h2⟩ := hlim; ⟨mc, nsK h1, h2⟩⟩
  have e0 : Env0 P w K mg (hidT s₁.heap H) callerA [] s₁ H := ⟨rfl, hM, fun b o e => of_hidT e, Nat.le_of_eq (hidT_size _ _), trivial, fun b hb => absurd (show b ∈ ([] : List Addr) from hb) (by simp), hok, .of_eq hg⟩
  refine codeAny_mono ((F _ hKb (nsK hns)).run callerA [] s₁ H ⟨[.ref a], []⟩ [.ref a] [.ref a] _ _ hr e0 (hbind s₁ (.ref a)) (.cons rfl .nil) (hsp H hO hS)) fun r s' h => ?_
  cases r with
  | error e => exact (hCX H e s' h).elim
  | ok fl =>
   cases fl with
   | next => exact False.elim h
   | brk => exact False.elim h
   | cont => exact False.elim h
   | ret u =>
    obtain ⟨v, H', os, bare, un, hok', r', q⟩ := h
    have q' : v = .bl true := q
    subst q'
    obtain rfl : u = Value.bool true := r'
    refine ⟨rfl, OldK.of_keep fun b o e => ?_, os, bare⟩
    cases q : H b with
    | none => exact un.keep b o e q (by intro z; exact absurd (show b ∈ ([] : List Addr) from z) (by simp)) (by simp)
    | some u =>
     rcases hO b with z | ⟨ob, xs, z⟩
     ·rw [q] at z; cases z
     ·have z2 := un.frzs b ob _ z
      obtain ⟨e1, _⟩ := hok b _ z
      obtain ⟨e2, _⟩ := hok' b _ z2
      rw [e] at e1; cases e1
      exact e2
 cases hk : K.lookup a with
 | some o =>
  have e := KX a o hk
  rw [ha] at e
  cases e
  refine core (fun _ => none) (fun _ => .inl rfl) (.inr ⟨_, vs.toArray, _, hk, rfl, rfl, rfl, by rw [List.size_toArray, lenV]; exact hl, by simpa using rv⟩) (fun b u z => by have z' : (none : Option HO) = some u := z; cases z') (fun b z => absurd rfl z) fun z => absurd rfl z
 | none =>
  refine core (fun b => if b = a then some (.frz { cls := .type "list", data := .seq vs.toArray } (.lst (ns.map V.int))) else none) (fun b => ?_) (.inl (.inr ⟨{ cls := .type "list", data := .seq vs.toArray }, if_pos rfl⟩)) (fun b u z => ?_) (fun b z => ?_) fun _ => hk
  ·by_cases hb : b = a
   ·exact .inr ⟨_, _, if_pos hb⟩
   ·exact .inl (if_neg hb)
  ·by_cases hb : b = a
   ·have z' := (if_pos hb).symm.trans z
    cases z'
    subst hb
    exact ⟨ha, by rw [List.length_map]; exact hl, vs, _, rv, ha⟩
   ·have z' := (if_neg hb).symm.trans z
    cases z'
  ·by_cases hb : b = a
   ·exact hb
   ·exact absurd (if_neg hb) z
end L2
namespace L2
open PySem PySem.Spec PyProof.Rows
abbrev KOf {K : Frag} {h : Heap} (_ : K.In h) : Frag := K
theorem walk_of {l : PySem.W.OpenLaw} {n k : Nat} {q : Program} {loose : List Str} {XP : (Str -> Option Value) -> Heap -> Prop} {YP : World -> Heap -> Prop} {d : DefRec} {K : Params -> Frag} {CX : World -> CXT} {sp : World -> Sp} {x : Str}
  (hn : l.most = some n) (hn2 : n <= sizeLine) (hdf : d.params.defaults = []) (hr : Room k callerA)
  (hY : ∀ (w : World) (h : Heap), YP w h -> (K w.params).In h)
  (F : ∀ (w : World) (mg : Str -> Option Value) (fa : Addr) (h : Heap), (K w.params).In h -> h.Ns mainGlobals mg -> mg d.name = some (.ref fa) ->
   ∃ fd : FuncData, (∀ (s : Shared) (u : Value), BindsTo s fd ⟨[u], []⟩ [(x, u)]) /\
    ∀ base : Heap, (K w.params).In base -> base.Ns mainGlobals mg -> FnOk l.prog w (K w.params) mg base (CX w) k fa fd [x] (sp w))
  (hsp : ∀ (w : World) (H : Hp) (a : Addr) (ns : List Int), ns.length <= n -> Only H -> SqL (K w.params) H a (ns.map V.int) -> sp w [.ref a] H (fun v _ => v = .bl true) fun _ _ _ => False)
  (hCX : ∀ (w : World) (H : Hp) (s : Shared) (e : Value) (s' : Shared), CX w [] H s (fun _ _ _ => False) e s' -> False) :
  PySem.W.WalkO q loose XP YP l.row.toRowW d [] (fun f vs => PySem.call f vs) := by
 refine Att.attach_call hn hdf fun w s₀ s₁ mg mb fa o pm cd doc a vs ns G Y ho hd hcd hmg hobj hints hlen hg => ?_
 have KX := hY w _ Y
 obtain ⟨fd, hb, hF⟩ := F w mg fa _ KX G.T.g hmg
 exact law_call KX G.T.g G.T.b G.T.builtins G.T.nolimit hg hobj hints (Nat.le_trans hlen hn2) hr hF hb (fun H hO hS => hsp w H a ns hlen hO hS) fun H e s' => hCX w H s₁ e s'
end L2
namespace L2
open PySem PySem.Spec PyProof.Rows
def inClass (s : Stmt) (j : Nat) : Stmt := match s with
 | .ClassDef _ _ _ body _ _ _ _ _ _ _ => body.getD j (.Pass ⟨0, 0, 0, 0⟩)
 | _ => .Pass ⟨0, 0, 0, 0⟩
def qao (s : Stmt) : Arguments := match s with
 | .FunctionDef _ a _ _ _ _ _ _ _ _ => a
 | _ => { posonlyargs := [], args := [], vararg := none, kwonlyargs := [], kw_defaults := [], kwarg := none, defaults := [] }
def qam (s : Stmt) : List Stmt := match s with
 | .FunctionDef _ _ b _ _ _ _ _ _ _ => b
 | _ => []
def qad (s : Stmt) : Scope := match s with
 | .FunctionDef _ _ _ _ _ _ sc _ _ _ => sc
 | _ => { kind := .function, names := [], isGenerator := false, isCoroutine := false }
abbrev CX0 : CXT := fun _ _ _ _ _ _ => False
abbrev E0 : XK := fun _ _ _ => False
theorem pass0 {X : Cx} : Passes CX0 X E0 := fun _ _ _ _ _ _ _ h => h.elim
structure Fun (K : Frag) (x qual : Str) (st : Stmt) (f : Addr) (fd : FuncData) : Prop where
 ex : ∃ (oc : Value) (od : Option Addr) (kV doc pm : Value) (an : Option Addr) (cdv ct : Value) (osl : Array (Option Value)),
  fd = fnOf x qual (qao st) (qam st) (qad st) .none kV doc pm an cdv ct /\ K.lookup f = some ⟨oc, od, .func fd, osl⟩ /\ codeIn K cdv qual = true
 kp : keepIn K (.ref f) = true
section
variable {P : Program} {w : World} {K : Frag} {mg : Str -> Option Value} {base : Heap}
theorem Fun.ok {x qual : Str} {st : Stmt} {f : Addr} {fd : FuncData} {N ps : List Str} {k : Nat} {sp : Sp} (F : Fun K x qual st f fd) (S : qan N ps (qad st)) (len : ∀ vs H Q E, sp vs H Q E -> vs.length = ps.length)
  (hbody : ∀ (cdv : Value) (A : Around) (outer : List Env) (s : Shared) (H : Hp) (vs : List V) (Q : VK) (E : XK), Room k (A.deeper (envOfC qual (qad st) s.heap.objs.size f cdv)) -> sp vs H Q E ->
   ∃ t, PSs (cxOf CX0 P w K mg base N qual (qad st) f cdv A outer s H E).nox (qam st) t /\ t { nx := fun _ H' => Q .non H', rt := Q } (start N vs) H) : FnOk P w K mg base CX0 (k + 1) f fd ps sp := by
 obtain ⟨oc, od, kV, doc, pm, an, cdv, ct, osl, rfl, lk, hcd⟩ := F.ex
 refine fn_of lk hcd S len fun A outer s H vs Q E hr hsp => ?_
 obtain ⟨t, h, q⟩ := hbody cdv A outer s H vs Q E hr hsp
 exact ⟨t, h.nox, q⟩
theorem Fun.binds {x qual : Str} {st : Stmt} {f : Addr} {fd : FuncData} {ps : List Str} (F : Fun K x qual st f fd)
  (h : ∀ (kV doc pm : Value) (an : Option Addr) (cdv ct : Value) (us : List Value), us.length = ps.length -> bindArgs (fnOf x qual (qao st) (qam st) (qad st) .none kV doc pm an cdv ct) ⟨us, []⟩ = pure (ps.zip us)) : Binds K fd ps [] := by
 obtain ⟨oc, od, kV, doc, pm, an, cdv, ct, osl, rfl, lk, hcd⟩ := F.ex
 exact .all (h kV doc pm an cdv ct)
theorem qaz {x qual : Str} {st : Stmt} {f : Addr} {oc : Value} {od an : Option Addr} {osl : Array (Option Value)} {kV doc pm cdv ct : Value} (l : K.lookup f = some ⟨oc, od, .func (fnOf x qual (qao st) (qam st) (qad st) .none kV doc pm an cdv ct), osl⟩)
  (c : codeIn K cdv qual = true) (k : keepIn K (.ref f) = true) : Fun K x qual st f (fnOf x qual (qao st) (qam st) (qad st) .none kV doc pm an cdv ct) := ⟨⟨oc, od, kV, doc, pm, an, cdv, ct, osl, rfl, l, c⟩, k⟩
end
theorem hu_of {A : Around} {k : Nat} (hr : Room k A) : A.units + 1 < cLine := Nat.lt_of_le_of_lt (Nat.add_le_add_left (by decide : 1 <= 64) _) hr.units
theorem qaw {n : Nat} (h : n <= 1000) : n < sizeLine := Nat.lt_of_le_of_lt h (by decide)
section
variable {X : Cx}
theorem pv (i : Nat) {x : Str} {pos : Pos} (hN : X.N[i]? = some x := by rfl) (hv : Vis X.env.scope x := by first | exact Or.inl rfl | exact Or.inr (Or.inl rfl) | exact Or.inr (Or.inr rfl)) (hd : (x == ("__debug__" : Str)) = false := by decide)
  (hcd : (x == ("__classdict__" : Str)) = false := by decide) : PE X (.Name x pos) (tVar i) := pe_var hN hv hd hcd
end
theorem iteF {A B : Prop} (h : B) : if false = true then A else B := by
 rw [if_neg Bool.false_ne_true]
 exact h
theorem iteT {A B : Prop} (h : A) : if true = true then A else B := by
 rw [if_pos rfl]
 exact h
theorem ite2 {c A B : Prop} [Decidable c] (h1 : c -> A) (h2 : ¬ c -> B) : if c then A else B := by
 by_cases h : c
 ·rw [if_pos h]
  exact h1 h
 ·rw [if_neg h]
  exact h2 h
theorem iteNS {c A B : Prop} [Decidable c] (hc : c) (h : B) : if (!decide c) = true then A else B := by
 rw [decide_eq_true hc]
 exact iteF h
def Same (H H' : Hp) : Prop := ∀ b o, H b = some o -> H' b = some o
theorem Same.refl (H : Hp) : Same H H := fun _ _ h => h
theorem Same.trans {H H1 H2 : Hp} (a : Same H H1) (b : Same H1 H2) : Same H H2 := fun c o h => b c o (a c o h)
theorem Same.free {H H' : Hp} (e : Same H H') {l : Addr} (h : H' l = Option.none) : H l = Option.none := by
 cases q : H l with
 | none => rfl
 | some o =>
  rw [e l o q] at h
  cases h
section
variable {κ : Type} [DecidableEq κ]
end
end L2
set_option maxHeartbeats 4000000
namespace L2
open PySem PySem.Spec PyProof.Rows
section
variable {X : Cx}
theorem big_lt : (10 : Nat) ^ 100 < 2 ^ 400 := by decide +kernel
theorem log2_big {j : Int} (h : j.natAbs < 10 ^ 100) : j.natAbs.log2 < 400 := by
 by_cases h0 : j.natAbs = 0
 ·rw [h0]; decide +kernel
 ·exact (Nat.log2_lt h0).mpr (Nat.lt_trans h big_lt)
def CDivB (_ j : Int) : Prop := 0 < j /\ j < 10 ^ 100
theorem op_fdivB : OpR X (binaryOp .FloorDiv) (rI CDivB fun i j => .int (i / j)) := opI fun i j _ _ _ _ _ hc q => by
 have h1 : (0 : Int) < j := hc.1
 have h2 : j < 10 ^ 100 := hc.2
 have h3 : j.natAbs < 10 ^ 100 := by omega
 exact floordiv_int (by omega) (by rw [Int.fdiv_eq_ediv_of_nonneg i (by omega)]; exact q) (.inl (PyProof.noPylong_of_log2 (Nat.lt_trans (log2_big h3) (by decide))))
def CMulB (i j : Int) : Prop := (-(10 ^ 100) < i /\ i < 10 ^ 100) /\ (-(10 ^ 100) < j /\ j < 10 ^ 100)
theorem bits_big {j : Int} (h : j.natAbs < 10 ^ 100) : Builtin.Int.intBits j <= 400 := by
 unfold Builtin.Int.intBits
 split
 ·exact Nat.zero_le _
 ·have := log2_big h
  omega
theorem CMulB.ok {i j : Int} (h : CMulB i j) : IntMulOk i j := by
 obtain ⟨⟨h1, h2⟩, h3, h4⟩ := h
 have e1 := bits_big (j := i) (by omega)
 have e2 := bits_big (j := j) (by omega)
 have e3 : Builtin.Int.intTooBig (Builtin.Int.intBits i + Builtin.Int.intBits j) = false := by
  unfold Builtin.Int.intTooBig
  rw [decide_eq_false]
  have : (bitsLine : Int) = 134217728 := by decide +kernel
  omega
 unfold IntMulOk
 rw [e3]
 simp
theorem op_mulB : OpR X (binaryOp .Mult) (rI CMulB fun i j => .int (i * j)) := opI fun _ _ _ _ _ _ _ hc q => mul_int q hc.ok
end
section
variable {X : Cx}
theorem call_isi : CallR X (.builtin "isinstance") (fun xs H Q => ∃ x T t b, xs = [x, .ty T] /\ TyOf X.K H x t /\ PySem.W.kitOne X.K t (.type T) = some b /\ Q (.bl b) H) := by
 intro pins s σ H xs us Q I r h
 obtain ⟨x, T, t, b, rfl, ty, e, q⟩ := h
 obtain ⟨u, w', rfl, ru, rw'⟩ := vals2 r
 cases (show w' = Value.type T from rw')
 exact isinst_ok I ru ty e fun tk => ⟨.bl b, H, I.tok tk, rfl, q⟩
end
mutual
inductive Rep (K : Frag) (H : Hp) : V -> PyData -> Prop where
 | non : Rep K H .non .none
 | bl (b : Bool) : Rep K H (.bl b) (.bool b)
 | int (i : Int) : Rep K H (.int i) (.int i)
 | str (x : Str) : Rep K H (.str x) (.str x)
 | lst {a : Addr} {xs : List V} {ds : List PyData} : SqL K H a xs -> Reps K H xs ds -> Rep K H (.ref a) (.list ds)
 | tup {a : Addr} {xs : List V} {ds : List PyData} : SqT K H a xs -> Reps K H xs ds -> Rep K H (.ref a) (.tuple ds)
inductive Reps (K : Frag) (H : Hp) : List V -> List PyData -> Prop where
 | nil : Reps K H [] []
 | cons {v : V} {vs : List V} {d : PyData} {ds : List PyData} : Rep K H v d -> Reps K H vs ds -> Reps K H (v :: vs) (d :: ds)
end
section
variable {X : Cx} {pins : List (Addr × Obj)} {σ : St} {H : Hp} {s : Shared}
mutual
theorem rep_reads (I : Inv X pins σ H s) : ∀ (d : PyData) (v : V) (u : Value), Rep X.K H v d -> RelV v u -> ∃ as, Reads s.heap u d as
 | .none, v, u, r, q => by cases r; cases (show u = Value.none from q); exact ⟨_, .none⟩
 | .bool b, v, u, r, q => by cases r; cases (show u = Value.bool b from q); exact ⟨_, .bool b⟩
 | .int i, v, u, r, q => by cases r; obtain ⟨t, e⟩ := (show ∃ t, u = Value.int i t from q); cases e; exact ⟨_, .int i t⟩
 | .str x, v, u, r, q => by cases r; obtain ⟨t, e⟩ := (show ∃ t, u = Value.str x t from q); cases e; exact ⟨_, .str x t⟩
 | .list ds, v, u, r, q => by
  cases r with
  | @lst a xs _ hq rs =>
   cases (show u = Value.ref a from q)
   obtain ⟨its, rv, ⟨o, n, e, c, _, d⟩, hz⟩ := I.list hq
   obtain ⟨as, ra⟩ := reps_reads I ds xs its rs rv
   exact ⟨_, .list e c d (by simpa using ra)⟩
 | .tuple ds, v, u, r, q => by
  cases r with
  | @tup a xs _ hq rs =>
   cases (show u = Value.ref a from q)
   obtain ⟨its, rv, ⟨o, e, c, n, d⟩, hz⟩ := I.tuple hq
   obtain ⟨as, ra⟩ := reps_reads I ds xs its rs rv
   exact ⟨_, .tuple e c d (by simpa using ra)⟩
 | .dict _, v, u, r, q => by cases r
theorem reps_reads (I : Inv X pins σ H s) : ∀ (ds : List PyData) (vs : List V) (us : List Value), Reps X.K H vs ds -> Vals vs us -> ∃ as, ReadsAll s.heap us ds as
 | [], vs, us, r, q => by cases r; cases q; exact ⟨_, .nil⟩
 | d :: ds, vs, us, r, q => by
  cases r with
  | cons r1 r2 =>
   cases q with
   | cons q1 q2 =>
    obtain ⟨as, a1⟩ := rep_reads I d _ _ r1 q1
    obtain ⟨bs, a2⟩ := reps_reads I ds _ _ r2 q2
    exact ⟨_, .cons a1 a2⟩
end
end
def rEqD (K : Frag) (neg : Bool) : R2 := fun x y H Q => ∃ d e, Rep K H x d /\ Rep K H y e /\ d.canLay0 = true /\ e.canLay0 = true /\ d.depth <= 20 /\ Q (.bl (if neg then !PyData.eqv d e else PyData.eqv d e)) H
section
variable {X : Cx}
theorem op_eqD (hu : X.A.units + 64 < cLine) : OpR X (compareOp .Eq) (rEqD X.K false) := by
 intro pins s σ H x y v u Q I rx ry h
 obtain ⟨d, e, rd, re, cd, ce, hd, q⟩ := h
 obtain ⟨as, ra⟩ := rep_reads I d x v rd rx
 obtain ⟨bs, rb⟩ := rep_reads I e y u re ry
 have hm : min d.depth e.depth <= d.depth := Nat.min_le_left _ _
 exact SeqAt.compareEq_reads ra rb cd ce (by omega) ⟨.bl _, H, I, rfl, q⟩
theorem op_neD (hu : X.A.units + 64 < cLine) : OpR X (compareOp .NotEq) (rEqD X.K true) := by
 intro pins s σ H x y v u Q I rx ry h
 obtain ⟨d, e, rd, re, cd, ce, hd, q⟩ := h
 obtain ⟨as, ra⟩ := rep_reads I d x v rd rx
 obtain ⟨bs, rb⟩ := rep_reads I e y u re ry
 have hm : min d.depth e.depth <= d.depth := Nat.min_le_left _ _
 exact SeqAt.rcNeAt_reads ra rb cd ce (by omega) X.prog X.w X.xe _ ⟨.bl _, H, I, rfl, q⟩
end
section
variable {X : Cx} {pins : List (Addr × Obj)} {σ : St} {H : Hp} {s : Shared} {h' : Heap}
theorem Inv.turnedLaid {t' : Nat} {ch : List Addr} {a : Addr} {o : HO} (I : Inv X pins σ H s) (hf : ∀ b ∈ ch, FpOk X pins H b) (k : ∀ b u, b ∉ ch -> s.heap.get? b = some u -> h'.get? b = some u)
  (hp : s.heap.objs.size <= a) (new : ObjOk X.prog X.w (upd H a o) h' a o) : Inv X pins σ (upd H a o) { s with heap := h', toks := t' } := by
 have hna : H a = none := I.hok.fresh hp
 have nch : ∀ b u, H b = some u -> b ∉ ch := fun b u e z => by rw [(hf b z).1] at e; cases e
 have nea : ∀ b u, s.heap.get? b = some u -> b ≠ a := fun b u e z => absurd (Nat.lt_of_lt_of_le (Heap.lt_size e) (by rw [z]; exact hp)) (Nat.lt_irrefl _)
 refine I.step (g' := s.gens) (d' := s.drawn) (ch := ch) (fun b hb => ⟨(hf b hb).2.2.2.1, (hf b hb).2.1, (hf b hb).2.2.2.2.1, (hf b hb).2.2.2.2.2⟩) (fun b o _ _ hc e _ => k b o hc e) (fun b o _ _ hc e _ => ⟨o.slots, k b o hc e⟩)
  (fun b o hc e n => by rw [qau (nea b o e)]; exact n) (fun b o hc e => ⟨o, k b o hc e⟩) (fun b xs e => by rw [qau (qag e hna)]; exact e) (fun b o u e => by rw [qau (qag e hna)]; exact e)
  (fun b ps e => ⟨#[], by rw [qau (qag e hna), e]; simp⟩) (fun m hm => ?_) (fun b u e => ?_) I.bare
 ·obtain ⟨o, es, ep, ho, r⟩ := hm
  exact ⟨o, es, ep, k _ o (fun z => (hf _ z).2.1 rfl) ho, r⟩
 ·by_cases hb : b = a
  ·subst hb; rw [qa8] at e; cases e; exact new
  ·rw [qau hb] at e
   refine (I.hok b u e).stay (fun c v hc q => k c v ?_ q) (fun c q => by rw [qau (qag q hna)]; exact q) fun c xs q => by rw [qau (qag q hna)]; exact q
   rcases hc with z | z
   ·rw [z]; exact nch b u e
   ·exact nch c _ z
theorem Inv.turnedL {t' : Nat} {ch : List Addr} (I : Inv X pins σ H s) (hf : ∀ b ∈ ch, FpOk X pins H b) (k : ∀ b u, b ∉ ch -> s.heap.get? b = some u -> h'.get? b = some u) : Inv X pins σ H { s with heap := h', toks := t' } := by
 have nch : ∀ b u, H b = some u -> b ∉ ch := fun b u e z => by rw [(hf b z).1] at e; cases e
 refine I.step (g' := s.gens) (d' := s.drawn) (ch := ch) (fun b hb => ⟨(hf b hb).2.2.2.1, (hf b hb).2.1, (hf b hb).2.2.2.2.1, (hf b hb).2.2.2.2.2⟩) (fun b o _ _ hc e _ => k b o hc e) (fun b o _ _ hc e _ => ⟨o.slots, k b o hc e⟩)
  (fun _ _ _ _ n => n) (fun b o hc e => ⟨o, k b o hc e⟩) (fun _ _ e => e) (fun _ _ _ e => e) (fun b ps e => ⟨#[], by rw [e]; simp⟩) (fun m hm => ?_) (fun b u e => ?_) I.bare
 ·obtain ⟨o, es, ep, ho, r⟩ := hm
  exact ⟨o, es, ep, k _ o (fun z => (hf _ z).2.1 rfl) ho, r⟩
 ·refine (I.hok b u e).stay (fun c v hc q => k c v ?_ q) (fun _ q => q) fun _ _ q => q
  rcases hc with z | z
  ·rw [z]; exact nch b u e
  ·exact nch c _ z
end
def Itz (K : Frag) (a b : Addr) : It :=
 ⟨fun i H => ∃ xs ys x y, SqL K H a xs /\ SqL K H b ys /\ xs[i]? = some x /\ ys[i]? = some y,
   fun i H v H' => ∃ p, v = .ref p /\ H p = none /\ ∀ xs ys x y, SqL K H a xs -> SqL K H b ys -> xs[i]? = some x -> ys[i]? = some y -> H' = upd H p (.tup [x, y]),
   fun i H => ∃ xs ys, SqL K H a xs /\ SqL K H b ys /\ (xs.length <= i \/ ys.length <= i)⟩
theorem qa9 {h : Heap} {a b : Addr} {o u : Obj} (e : h.get? a = some o) (e' : h.get? b = some u) (d : o.cls ≠ u.cls) : a ≠ b := fun z => by
 subst z; rw [e] at e'; exact d (congrArg Obj.cls (Option.some.inj e'))
theorem n_tz : Value.type "tuple" ≠ Value.type "zip" := by decide
theorem n_iz : Value.type "list_iterator" ≠ Value.type "zip" := by decide
theorem n_ti : Value.type "tuple" ≠ Value.type "list_iterator" := by decide
theorem n_lz : Value.type "list" ≠ Value.type "zip" := by decide
theorem n_lt : Value.type "list" ≠ Value.type "tuple" := by decide
theorem n_li : Value.type "list" ≠ Value.type "list_iterator" := by decide
theorem turn_zip {P : Program} {w : World} {K : Frag} {elts : List Expr} {ek : Nat} {epos : Pos} (a b z TI TO i1 i2 : Addr) (d1 : TI ≠ TO) (d2 : i1 ≠ i2) :
  Turn P w K (.Tuple elts ek epos) (Itz K a b) [z, TI, TO, i1, i2] z (fun i h => IsZip h z TI TO .none /\ IsPair h TI (.ref i1) (.ref i2) /\ (∃ x y, IsPair h TO x y) /\ h.IsListIter i1 a i /\ h.IsListIter i2 b i) where
 mem := by simp
 obj := fun i h st c hc => by
  obtain ⟨hz, hTI, ⟨x, y, hTO⟩, ⟨o1, e1, c1, f1⟩, ⟨o2, e2, c2, f2⟩⟩ := st
  simp only [List.mem_cons, List.not_mem_nil, or_false] at hc
  rcases hc with rfl | rfl | rfl | rfl | rfl
  ·exact ⟨_, hz, fun v q => by have q' : Data.fields _ = Data.cell v := q; cases q'⟩
  ·exact ⟨_, hTI, fun v q => by have q' : Data.seq _ _ = Data.cell v := q; cases q'⟩
  ·exact ⟨_, hTO, fun v q => by have q' : Data.seq _ _ = Data.cell v := q; cases q'⟩
  ·exact ⟨_, e1, fun v q => by rw [f1] at q; cases q⟩
  ·exact ⟨_, e2, fun v q => by rw [f2] at q; cases q⟩
 keep := fun i h h' st k => by
  obtain ⟨hz, hTI, ⟨x, y, hTO⟩, h1, h2⟩ := st
  exact ⟨k z (by simp) _ hz, k TI (by simp) _ hTI, ⟨x, y, k TO (by simp) _ hTO⟩, h1.at fun o e => k i1 (by simp) o e, h2.at fun o e => k i2 (by simp) o e⟩
 item := by
  intro X hP hw hK hc i pins s σ H E I hf st hg
  subst hP hw hK
  obtain ⟨xs, ys, x, y, qa, qb, hx, hy⟩ := hg
  obtain ⟨hz, hTI, ⟨x0, y0, hTO⟩, h1, h2⟩ := st
  obtain ⟨itsA, rA, pA, zA⟩ := I.list qa
  obtain ⟨itsB, rB, pB, zB⟩ := I.list qb
  obtain ⟨u, hu, ru⟩ := rA.get hx
  obtain ⟨u', hu', ru'⟩ := rB.get hy
  have D : ZipApart z TI TO i1 i2 a b := by
   obtain ⟨o1, e1, c1, f1⟩ := id h1
   obtain ⟨o2, e2, c2, f2⟩ := id h2
   obtain ⟨oa, na, ea, ca, _, fa⟩ := id pA
   obtain ⟨ob, nb, eb, cb, _, fb⟩ := id pB
   exact ⟨qa9 hTI hz n_tz, qa9 hTO hz n_tz, qa9 e1 hz (by rw [c1]; exact n_iz), qa9 e2 hz (by rw [c2]; exact n_iz), d1, qa9 hTI e1 (by rw [c1]; exact n_ti), qa9 hTI e2 (by rw [c2]; exact n_ti),
    qa9 hTO e1 (by rw [c1]; exact n_ti), qa9 hTO e2 (by rw [c2]; exact n_ti), d2, qa9 ea hz (by rw [ca]; exact n_lz), qa9 ea hTO (by rw [ca]; exact n_lt), qa9 ea e1 (by rw [ca, c1]; exact n_li), qa9 ea e2 (by rw [ca, c2]; exact n_li),
    qa9 eb hz (by rw [cb]; exact n_lz), qa9 eb hTO (by rw [cb]; exact n_lt), qa9 eb e1 (by rw [cb, c1]; exact n_li), qa9 eb e2 (by rw [cb, c2]; exact n_li)⟩
  refine wpAny_pyNext_zip_item D hz hTI hTO h1 h2 pA.isList pB.isList (x := u) (y := u') (by simpa using hu) (by simpa using hu') fun h' a1 a2 a3 a4 a5 a6 hk => ?_
  refine ⟨.ref s.heap.objs.size, rfl, wpAny_letOwnedTupleGo_zip a1 fun h'' hz'' sb => ?_⟩
  have lz : z < s.heap.objs.size := Heap.lt_size hz
  have nz : s.heap.objs.size ≠ z := Nat.ne_of_gt lz
  have k2 : ∀ c o, c ∉ [z, TI, TO, i1, i2] -> s.heap.get? c = some o -> h''.get? c = some o := fun c o hc e => by
   simp only [List.mem_cons, List.not_mem_nil, or_false, not_or] at hc
   exact sb.extBut _ _ hc.1 (hk c o hc.1 hc.2.2.1 hc.2.2.2.1 hc.2.2.2.2 e)
  have T2 : IsPair h'' s.heap.objs.size u u' := sb.extBut _ _ nz a5
  refine ⟨.ref s.heap.objs.size, upd H s.heap.objs.size (.tup [x, y]), I.turnedLaid (t' := s.toks) (ch := [z, TI, TO, i1, i2]) hf k2 (Nat.le_refl _) ⟨by show 2 <= sizeLine; decide, [u, u'], .cons ru (.cons ru' .nil), _, T2, rfl, _, rfl⟩, rfl, ⟨_, rfl, I.hok.fresh (Nat.le_refl _), fun xs' ys' x' y' qa' qb' hx' hy' => ?_⟩, ⟨hz'', sb.extBut _ _ D.TIz (hk _ _ D.TIz D.TITO D.TIi1 D.TIi2 hTI), ⟨_, _, sb.extBut _ _ D.TOz a2⟩, a3.extBut sb.extBut D.i1z, a4.extBut sb.extBut D.i2z⟩, fun b hb => ?_⟩
  ·rw [I.list_inj qa' qa, hx] at hx'
   rw [I.list_inj qb' qb, hy] at hy'
   cases hx'; cases hy'; rfl
  ·have e : b ≠ s.heap.objs.size := fun q => by
    have : ∃ o, s.heap.get? b = some o := by
     simp only [List.mem_cons, List.not_mem_nil, or_false] at hb
     obtain ⟨o1, e1, _⟩ := id h1
     obtain ⟨o2, e2, _⟩ := id h2
     rcases hb with rfl | rfl | rfl | rfl | rfl
     ·exact ⟨_, hz⟩
     ·exact ⟨_, hTI⟩
     ·exact ⟨_, hTO⟩
     ·exact ⟨_, e1⟩
     ·exact ⟨_, e2⟩
    obtain ⟨o, e⟩ := this
    exact absurd (Heap.lt_size e) (by rw [q]; exact Nat.lt_irrefl _)
   rw [qau e]
   exact (hf b hb).1
 done := by
  intro X hP hw hK hc i pins s σ H E I hf st hg
  subst hP hw hK
  obtain ⟨xs, ys, qa, qb, hx⟩ := hg
  obtain ⟨hz, hTI, ⟨x0, y0, hTO⟩, h1, h2⟩ := st
  obtain ⟨itsA, rA, pA, zA⟩ := I.list qa
  obtain ⟨itsB, rB, pB, zB⟩ := I.list qb
  have D : ZipApart z TI TO i1 i2 a b := by
   obtain ⟨o1, e1, c1, f1⟩ := id h1
   obtain ⟨o2, e2, c2, f2⟩ := id h2
   obtain ⟨oa, na, ea, ca, _, fa⟩ := id pA
   obtain ⟨ob, nb, eb, cb, _, fb⟩ := id pB
   exact ⟨qa9 hTI hz n_tz, qa9 hTO hz n_tz, qa9 e1 hz (by rw [c1]; exact n_iz), qa9 e2 hz (by rw [c2]; exact n_iz), d1, qa9 hTI e1 (by rw [c1]; exact n_ti), qa9 hTI e2 (by rw [c2]; exact n_ti),
    qa9 hTO e1 (by rw [c1]; exact n_ti), qa9 hTO e2 (by rw [c2]; exact n_ti), d2, qa9 ea hz (by rw [ca]; exact n_lz), qa9 ea hTO (by rw [ca]; exact n_lt), qa9 ea e1 (by rw [ca, c1]; exact n_li), qa9 ea e2 (by rw [ca, c2]; exact n_li),
    qa9 eb hz (by rw [cb]; exact n_lz), qa9 eb hTO (by rw [cb]; exact n_lt), qa9 eb e1 (by rw [cb, c1]; exact n_li), qa9 eb e2 (by rw [cb, c2]; exact n_li)⟩
  have lA := rA.length
  have lB := rB.length
  refine wpAny_pyNext_zip_end (I.ok.hd hc) D hz hTI hTO h1 h2 pA.isList pB.isList (hx.imp (fun q => by simp; omega) fun q => by simp; omega) fun h' hk => ⟨rfl, I.turnedL (t' := s.toks) (ch := [z, TI, TO, i1, i2]) hf fun c o hc e => ?_⟩
  simp only [List.mem_cons, List.not_mem_nil, or_false, not_or] at hc
  exact hk c o hc.1 hc.2.2.1 hc.2.2.2.1 hc.2.2.2.2 e
 self := fun _ _ _ _ _ st h => wpAny_pyIter_zip st.1 h
section
variable {X : Cx}
def iZip (K : Frag) (ta : TA) : TI := fun σ H R => ta σ H fun vs H1 => ∃ a b xs ys, vs = [.ref a, .ref b] /\ SqL K H1 a xs /\ SqL K H1 b ys /\ R (Itz K a b) H1
theorem pi_zip {elts : List Expr} {ek : Nat} {epos : Pos} {e1 e2 : Expr} {ta : TA} {p pos : Pos} (hg : Gl X "zip") (hm : X.mg "zip" = none) (ha : PA X [e1, e2] ta)
  (hs : starEach [e1, e2] X.env = [(false, eval e1 X.env), (false, eval e2 X.env)] := by rfl) (hs2 : starEach [e2] X.env = [(false, eval e2 X.env)] := by rfl) :
  PI X (.Tuple elts ek epos) (.Call (.Name "zip" p) [e1, e2] [] pos) (iZip X.K ta) := by
 intro pins s σ H R I h
 refine Call_ (ld_blt I hg hm (show bootBuiltins "zip" = some (.type "zip") by decide +kernel) (PyProof.Rows.callWith_type1 (thn (ha pos pins s σ H _ I h) fun us s1 ⟨vs, H1, I1, r1, q1⟩ => ?_) (by rw [hs, hs2]) (by rw [hs2]; rfl)))
 obtain ⟨a, b, xs, ys, rfl, qa, qb, q⟩ := q1
 obtain ⟨u, u', rfl, ru, ru'⟩ := vals2 r1
 cases (show u = Value.ref a from ru)
 cases (show u' = Value.ref b from ru')
 obtain ⟨itsA, rA, pA, zA⟩ := I1.list qa
 obtain ⟨itsB, rB, pB, zB⟩ := I1.list qb
 refine call_zip_2 pA.isList pB.isList fun h' hz hTI hTO h1 h2 hsz hk => wpAny_pyIter_zip hz ?_
 refine ⟨s1.heap.objs.size + 4, _, _, _, H1, rfl, I1.kept (t' := s1.toks) hk, turn_zip a b _ (s1.heap.objs.size + 2) (s1.heap.objs.size + 3) s1.heap.objs.size (s1.heap.objs.size + 1) (Nat.ne_of_lt (Nat.lt_succ_self _)) (Nat.ne_of_lt (Nat.lt_succ_self _)), ⟨hz, hTI, ⟨_, _, hTO⟩, h1, h2⟩, fun c hc => ?_, q⟩
 have e : s1.heap.objs.size <= c := by
  simp only [List.mem_cons, List.not_mem_nil, or_false] at hc
  rcases hc with rfl | rfl | rfl | rfl | rfl
  ·exact Nat.le_add_right _ _
  ·exact Nat.le_add_right _ _
  ·exact Nat.le_add_right _ _
  ·exact Nat.le_refl _
  ·exact Nat.le_add_right _ _
 exact I1.fpOk e (I1.hok.fresh e)
end
theorem for_zip {K : Frag} {a b : Addr} {xs ys : List V} {g : TG} {tb : TS} {D : Ends} {σ : St} {H : Hp} (Pv : Nat -> St -> Hp -> Prop) (h0 : Pv 0 σ H) (hl : ∀ i σ H, Pv i σ H -> SqL K H a xs /\ SqL K H b ys)
  (hs : ∀ i x y σ H p, xs[i]? = some x -> ys[i]? = some y -> H p = none -> Pv i σ H -> g (.ref p) σ (upd H p (.tup [x, y])) fun σ2 H2 => tb { D with nx := Pv (i + 1), ct := Pv (i + 1), bk := D.nx } σ2 H2)
  (hd : ∀ i σ H, i = min xs.length ys.length -> Pv i σ H -> D.nx σ H) :
  ∃ W : Nat -> Nat -> St -> Hp -> Prop, (∃ m, W 0 m σ H) /\ ∀ i m σ H, W i m σ H ->
   ((Itz K a b).stop i H /\ D.nx σ H) \/ ((Itz K a b).go i H /\ ∃ N : St -> Hp -> Prop, (∀ σ' H', N σ' H' -> ∃ m', m' < m /\ W (i + 1) m' σ' H') /\ ∀ x H', (Itz K a b).yld i H x H' -> g x σ H' fun σ2 H2 => tb { D with nx := N, ct := N, bk := D.nx } σ2 H2) := by
 refine ⟨fun i m σ H => m = min xs.length ys.length - i /\ i <= min xs.length ys.length /\ Pv i σ H, ⟨min xs.length ys.length, by simp, Nat.zero_le _, h0⟩, ?_⟩
 rintro i m σ H ⟨rfl, hi, p⟩
 obtain ⟨qa, qb⟩ := hl i σ H p
 by_cases hlt : i < min xs.length ys.length
 ·have ha : i < xs.length := by omega
  have hb : i < ys.length := by omega
  refine .inr ⟨⟨xs, ys, xs[i], ys[i], qa, qb, by simp [ha], by simp [hb]⟩, Pv (i + 1), fun σ' H' p' => ⟨min xs.length ys.length - (i + 1), by omega, rfl, hlt, p'⟩, fun x H' y => ?_⟩
  obtain ⟨t, rfl, ht, y⟩ := y
  have ea : xs[i]? = some xs[i] := by simp [ha]
  have eb : ys[i]? = some ys[i] := by simp [hb]
  rw [y xs ys xs[i] ys[i] qa qb ea eb]
  exact hs i xs[i] ys[i] σ H t ea eb ht p
 ·exact .inl ⟨⟨xs, ys, qa, qb, by omega⟩, hd i σ H (by omega) p⟩
structure FunD (K : Frag) (x qual : Str) (st : Stmt) (dV : Value) (f : Addr) (fd : FuncData) : Prop where
 ex : ∃ (oc : Value) (od : Option Addr) (kV doc pm : Value) (an : Option Addr) (cdv ct : Value) (osl : Array (Option Value)),
  fd = fnOf x qual (qao st) (qam st) (qad st) dV kV doc pm an cdv ct /\ K.lookup f = some ⟨oc, od, .func fd, osl⟩ /\ codeIn K cdv qual = true
 kp : keepIn K (.ref f) = true
section
variable {P : Program} {w : World} {K : Frag} {mg : Str -> Option Value} {base : Heap}
theorem FunD.ok {x qual : Str} {st : Stmt} {dV : Value} {f : Addr} {fd : FuncData} {N ps : List Str} {k : Nat} {sp : Sp} (F : FunD K x qual st dV f fd) (S : qan N ps (qad st)) (len : ∀ vs H Q E, sp vs H Q E -> vs.length = ps.length)
  (hbody : ∀ (cdv : Value) (A : Around) (outer : List Env) (s : Shared) (H : Hp) (vs : List V) (Q : VK) (E : XK), Room k (A.deeper (envOfC qual (qad st) s.heap.objs.size f cdv)) -> sp vs H Q E ->
   ∃ t, PSs (cxOf CX0 P w K mg base N qual (qad st) f cdv A outer s H E).nox (qam st) t /\ t { nx := fun _ H' => Q .non H', rt := Q } (start N vs) H) : FnOk P w K mg base CX0 (k + 1) f fd ps sp := by
 obtain ⟨oc, od, kV, doc, pm, an, cdv, ct, osl, rfl, lk, hcd⟩ := F.ex
 refine fn_of lk hcd S len fun A outer s H vs Q E hr hsp => ?_
 obtain ⟨t, h, q⟩ := hbody cdv A outer s H vs Q E hr hsp
 exact ⟨t, h.nox, q⟩
theorem binds_d {fd : FuncData} {ps : List Str} {ds : List Value} {T : Addr} {o : Obj} {items : Array Value} {n : Nat} (hd : fd.defaults = .ref T) (lk : K.lookup T = some o) (hs : o.data = .seq items n)
  (h : ∀ us : List Value, (us ++ ds).length = ps.length -> ∃ k, bindArgs fd ⟨us, []⟩ = seqItems? fd.defaults >>= k /\ k (some items) = pure (ps.zip (us ++ ds))) : Binds K fd ps ds := fun s us kin hl => by
 obtain ⟨k, h1, h2⟩ := h us hl
 exact .of_defaults hd (kin _ _ lk) hs h1 h2
end
def qbs (P : Program) (w : World) (K : Frag) (mg : Str -> Option Value) (base : Heap) (k : Nat) (x : Str) (ps : List Str) (sp : Sp) : Prop :=
 ∃ f fd, FnOk P w K mg base CX0 k f fd ps sp /\ mg x = some (.ref f) /\ keepIn K (.ref f) = true /\ Binds K fd ps []
def MetOk (P : Program) (w : World) (K : Frag) (mg : Str -> Option Value) (base : Heap) (C : Addr) (k : Nat) (m : Str) (ps : List Str) (sp : Sp) : Prop :=
 ∃ f fd, FnOk P w K mg base CX0 k f fd ps sp /\ Meth K C m f /\ Binds K fd ps []
def MkOk (P : Program) (w : World) (K : Frag) (mg : Str -> Option Value) (base : Heap) (C : Addr) (k : Nat) (x : Str) (ps : List Str) (ds : List Value) (sp : Sp) : Prop :=
 ∃ f fd, FnOk P w K mg base CX0 k f fd ps sp /\ mg x = some (.ref C) /\ Mk K C f /\ Binds K fd ps ds
section
variable {X : Cx} {k : Nat} {C : Addr} {ps : List Str} {sp : Sp} {dvs : List V} {ds : List Value} {x m : Str} {p pos apos : Pos} {e o : Expr} {es : List Expr} {ta : TE} {t : TA}
theorem qa4 (D : qbs X.prog X.w X.K X.mg X.base k x ps sp) (hr : Room k X.A) (hg : Gl X x) (ha : PA X (e :: es) t) (hdb : (x == ("__debug__" : Str)) = false := by decide)
  (he : starEach (e :: es) X.env = (false, eval e X.env) :: starEach es X.env := by rfl) (hpl : (backTo pos (starEach es X.env)).any (·.1) = false := by rfl) : PE X (.Call (.Name x p) (e :: es) [] pos) (tCall sp [] E0 t) := by
 obtain ⟨f, fd, F, hm, hk, hb⟩ := D
 exact pe_call F hr hg hm hk hb .nil pass0 ha hdb he hpl
end
end L2
namespace L2
open PySem PySem.Spec PyProof.Rows
section
variable {X : Cx} {k : Nat} {C : Addr} {ps : List Str} {sp : Sp} {x m : Str} {p pos apos : Pos} {e o : Expr} {es : List Expr} {ta : TE} {t : TA}
theorem pe_mt {pl : Sem Bool} (he : PE X o ta) (c : Cls X.K C) (D : MetOk X.prog X.w X.K X.mg X.base C k m ps sp) (hr : Room k X.A) (ha : PA X (e :: es) t)
  (hst : starEach (e :: es) X.env = (false, eval e X.env) :: starEach es X.env := by rfl) (hpl : (backTo pos (starEach es X.env)).any (·.1) = false := by rfl)
  (ht : eval (.Call (.Attribute o m apos) (e :: es) [] pos) X.env = (do
   let ov <- eval o X.env
   standAt apos.atName
   let (f, first) <- holding [ov] (getMethod ov m pl)
   callWith pos f first (backTo pos (starEach (e :: es) X.env)) (backToKw pos (keywordEach [] X.env))) := by rfl) :
  PE X (.Call (.Attribute o m apos) (e :: es) [] pos) (tMeth C m sp [] E0 ta t) := by
 obtain ⟨f, fd, F, hm, hb⟩ := D
 exact pe_meth (pl := pl) he c hm F hr hb .nil pass0 ha hst hpl ht
theorem qbb {pl : Sem Bool} (he : PE X o ta) (c : Cls X.K C) (D : MetOk X.prog X.w X.K X.mg X.base C k m ps sp) (hr : Room k X.A)
  (ht : eval (.Call (.Attribute o m apos) [] [] pos) X.env = (do
   let ov <- eval o X.env
   standAt apos.atName
   let (f, first) <- holding [ov] (getMethod ov m pl)
   callWith pos f first (backTo pos (starEach [] X.env)) (backToKw pos (keywordEach [] X.env))) := by rfl) :
  PE X (.Call (.Attribute o m apos) [] [] pos) (tMeth C m sp [] E0 ta tNil) := by
 obtain ⟨f, fd, F, hm, hb⟩ := D
 exact pe_meth0 (pl := pl) he c hm F hr hb .nil pass0 ht
end
section
variable {P : Program} {w : World} {K : Frag} {mg : Str -> Option Value} {base : Heap}
theorem Fun.def_ {x : Str} {st : Stmt} {f : Addr} {fd : FuncData} {ps : List Str} {k : Nat} {sp : Sp} (F : Fun K x x st f fd) (hm : mg x = some (.ref f)) (hf : FnOk P w K mg base CX0 k f fd ps sp) (hb : Binds K fd ps []) : qbs P w K mg base k x ps sp :=
 ⟨f, fd, hf, hm, F.kp, hb⟩
end
theorem bt_len : bootBuiltins "len" = some (.builtin "len") := by decide +kernel
theorem qd4 : bootBuiltins "isinstance" = some (.builtin "isinstance") := by decide +kernel
theorem bt_sum : bootBuiltins "sum" = some (.builtin "sum") := by decide +kernel
theorem qd5 : bootBuiltins "list" = some (.type "list") := by decide +kernel
theorem bt_tuple : bootBuiltins "tuple" = some (.type "tuple") := by decide +kernel
theorem bt_int : bootBuiltins "int" = some (.type "int") := by decide +kernel
theorem bt_bool : bootBuiltins "bool" = some (.type "bool") := by decide +kernel
theorem kit_int_int (K : Frag) : PySem.W.kitOne K (.type "int") (.type "int") = some true := by rfl
theorem kit_int_bool (K : Frag) : PySem.W.kitOne K (.type "int") (.type "bool") = some false := by rfl
theorem kit_list (K : Frag) : PySem.W.kitOne K (.type "list") (.type "list") = some true := by rfl
theorem kit_tuple (K : Frag) : PySem.W.kitOne K (.type "tuple") (.type "tuple") = some true := by rfl
theorem same_upd {H : Hp} {p : Addr} {o : HO} (h : H p = none) : Same H (upd H p o) := fun b u e => by rw [qau (qag e h)]; exact e
end L2
namespace L2
open PySem PySem.Spec PyProof.Rows
def blk (X : Cx) (Nc : List Str) (scope : Scope) (cl : List (Str × Addr)) (C : Addr) (s : Shared) (H : Hp) (ex : List Addr) : Cx where
 prog := X.prog
 w := X.w
 K := X.K
 mg := X.mg
 base := X.base
 A := X.A
 N := Nc
 s₀ := s
 H₀ := H
 env := compEnvC scope cl C X.env
 outer := X.stack
 stack := X.stack
 ex := ex
 fn := fun _ => false
 calm := X.calm
 pn := []
 xe := fun _ _ => False
structure LcOk (X : Cx) (scope : Scope) (cl : List (Str × Addr)) : Prop where
 clos : closureFor scope X.env = pure cl
 kind : scope.kind = .function
 nocell : ∀ y ∈ scope.names, y.2 ≠ .cell
 names : ∀ y ∈ scope.names, y.2 = .local -> scope.names.lookup y.1 = some .local
 sub : ∀ x c, cl.lookup x = some c -> X.env.cells.lookup x = some c
 has : ∀ x, ((relabel scope X.env).names.lookup x = some .cell \/ (relabel scope X.env).names.lookup x = some .free) -> ∃ c, cl.lookup x = some c
def FvOk (X : Cx) (scope : Scope) (cl : List (Str × Addr)) : List Str -> List Nat -> Prop
 | [], [] => True
 | x :: xs, j :: js => (X.N[j]? = some x /\ (X.env.kindOf x = some .cell \/ X.env.kindOf x = some .free) /\ cl.lookup x = X.env.cells.lookup x /\
   ((relabel scope X.env).names.lookup x = some .cell \/ (relabel scope X.env).names.lookup x = some .free)) /\ FvOk X scope cl xs js
 | _, _ => False
def lcσ (nv : Nat) (fv : List Nat) (σ : St) : St := List.replicate nv none ++ fv.map fun j => (σ[j]?).join
theorem FvOk.len {X : Cx} {scope : Scope} {cl : List (Str × Addr)} : ∀ {xs : List Str} {js : List Nat}, FvOk X scope cl xs js -> xs.length = js.length
 | [], [], _ => rfl
 | _ :: _, _ :: _, h => by simp [FvOk.len h.2]
 | [], _ :: _, h => h.elim
 | _ :: _, [], h => h.elim
theorem FvOk.get {X : Cx} {scope : Scope} {cl : List (Str × Addr)} : ∀ {xs : List Str} {js : List Nat} {k : Nat} {x : Str} {j : Nat}, FvOk X scope cl xs js -> xs[k]? = some x -> js[k]? = some j ->
  X.N[j]? = some x /\ (X.env.kindOf x = some .cell \/ X.env.kindOf x = some .free) /\ cl.lookup x = X.env.cells.lookup x /\ ((relabel scope X.env).names.lookup x = some .cell \/ (relabel scope X.env).names.lookup x = some .free)
 | [], [], _, _, _, _, e, _ => by simp at e
 | _ :: _, _ :: _, 0, _, _, h, e, e' => by simp at e e'; subst e; subst e'; exact h.1
 | _ :: _, _ :: _, k + 1, x, j, h, e, e' => FvOk.get (k := k) h.2 (by simpa using e) (by simpa using e')
 | [], _ :: _, _, _, _, h, _, _ => h.elim
 | _ :: _, [], _, _, _, h, _, _ => h.elim
abbrev qaq : Obj := { cls := .type "list", dict := none, data := .seq ([] : List Value).toArray }
theorem ltS {h : Heap} {b : Addr} {o : Obj} (e : h.get? b = some o) : b ≠ (h.push qaq).objs.size := Nat.ne_of_lt (by rw [Heap.size_push]; exact Nat.lt_succ_of_lt (Heap.lt_size e))
theorem neS {h : Heap} : h.objs.size ≠ (h.push qaq).objs.size := Nat.ne_of_lt (by rw [Heap.size_push]; exact Nat.lt_succ_self _)
theorem leS {h : Heap} : h.objs.size <= (h.push qaq).objs.size := by rw [Heap.size_push]; exact Nat.le_succ _
theorem neZ {h : Heap} {b : Addr} {o : Obj} (e : h.get? b = some o) : b ≠ h.objs.size := Nat.ne_of_lt (Heap.lt_size e)
section
variable {X : Cx} {pins : List (Addr × Obj)} {σ : St} {H : Hp} {s : Shared} {scope : Scope} {cl : List (Str × Addr)} {vars frees : List Str} {fv : List Nat} {fp : List Addr}
theorem inv_blk {h' : Heap} {t' : Nat} (I : Inv X pins σ H s) (L : LcOk X scope cl) (fo : FvOk X scope cl frees fv) (hf : ∀ b ∈ fp, FpOk X pins H b) (ho : ∀ b ∈ fp, ∃ o, s.heap.get? b = some o)
  (hns : h'.Ns (s.heap.push qaq).objs.size (fun _ => none)) (hsb : ∀ b o, b ≠ (s.heap.push qaq).objs.size -> (s.heap.push qaq).get? b = some o -> h'.get? b = some o) :
  Inv (blk X (vars ++ frees) scope cl (s.heap.push qaq).objs.size { s with heap := s.heap.push qaq } H (s.heap.objs.size :: fp)) [(s.heap.objs.size, qaq)] (lcσ vars.length fv σ) H { s with heap := h', toks := t' } := by
 have hC : (s.heap.push qaq).objs.size = s.heap.objs.size + 1 := Heap.size_push ..
 have hlt : ∀ {b : Addr} {o : Obj}, s.heap.get? b = some o -> b < s.heap.objs.size := fun e => Heap.lt_size e
 have old : ∀ b o, s.heap.get? b = some o -> h'.get? b = some o := fun b o e => hsb b o (ltS e) (Heap.get?_push_of_some _ e)
 have hD : h'.get? s.heap.objs.size = some qaq := hsb _ _ neS (Heap.get?_push_size _ rfl)
 have stk : ∀ b ∈ frs X.stack, b < s.heap.objs.size /\ b ∉ fp := fun b hb => by
  rcases List.mem_cons.mp (I.stkSub b hb) with z | z
  ·exact ⟨by rw [z]; exact I.lt, fun q => (hf b q).2.1 z⟩
  ·refine ⟨?_, fun q => (hf b q).2.2.1 z⟩
   apply Nat.lt_of_not_le
   intro q
   exact I.nofs q z
 have cellL : ∀ x c, cl.lookup x = some c -> c < s.heap.objs.size := fun x c e => by
  obtain ⟨v, q⟩ := I.cell x c (L.sub x c e)
  exact q.lt
 refine ⟨⟨I.ok.mod, L.kind, I.ok.glob, I.ok.blt, Nat.le_refl _, fun x y c e1 e2 => I.ok.inj x y c (L.sub x c e1) (L.sub y c e2), fun x h => L.has x h, (fun x c z => nomatch z), I.ok.hd, I.ok.frames, .inl rfl, fun b hb => ?_, fun b o e => ?_, ?_, fun b o e hb => ?_, fun b hb hq => ?_, ?_, fun b hb => I.stkFree b hb⟩,
  rfl, I.bare, Un.kept fun b u e => ?_, ⟨_, hns, fun i x v e1 e2 e3 => ?_⟩, fun x c e => ?_, ?_, fun x c e => I.freeC x c (L.sub x c e), fun p hp => ?_, I.hok.kept old, ?_⟩
 ·
  refine ⟨?_, fun x c e z => ?_⟩
  ·show b ≠ (s.heap.push qaq).objs.size
   rcases List.mem_cons.mp hb with z | z
   ·rw [z]; exact neS
   ·obtain ⟨o, e⟩ := ho b z
    exact ltS e
  ·rcases List.mem_cons.mp hb with q | q
   ·exact Nat.ne_of_lt (cellL x c e) (z.trans q)
   ·exact (hf b q).2.2.2.2.1 x c (L.sub x c e) z
 ·exact ⟨Heap.get?_push_of_some _ (I.bs b o e).1, (I.bs b o e).2⟩
 ·exact Nat.le_trans (Nat.le_trans I.ok.bsz I.sz) leS
 ·
  rcases List.mem_cons.mp hb with q | q
  ·exact neZ (I.bs b o e).1 q
  ·rcases (hf b q).2.2.2.1 with z | z
   ·exact I.ok.noex b o e z
   ·exact absurd (Nat.lt_of_lt_of_le (Heap.lt_size (I.ok.bs b o e).1) z) (Nat.lt_irrefl _)
 ·
  obtain ⟨h1, h2⟩ := stk b hq
  rcases List.mem_cons.mp hb with q | q
  ·exact Nat.ne_of_lt h1 q
  ·exact h2 q
 ·exact Heap.FunFrames.of_keeps (fun b o e _ => ⟨o, Heap.get?_push_of_some _ e, rfl⟩) I.stack
 ·exact hsb b u (Nat.ne_of_lt (Heap.lt_size e)) e
 ·
  obtain ⟨m, hn, hl⟩ := I.loc
  have hi : vars.length <= i := by
   apply Nat.le_of_not_lt
   intro z
   rw [show lcσ vars.length fv σ = List.replicate vars.length none ++ fv.map fun j => (σ[j]?).join from rfl, List.getElem?_append_left (by simpa using z), List.getElem?_replicate_of_lt (by simpa using z)] at e2
   cases e2
  obtain ⟨k, rfl⟩ : ∃ k, i = vars.length + k := ⟨i - vars.length, by omega⟩
  have e1' : frees[k]? = some x := by
   have e1'' : (vars ++ frees)[vars.length + k]? = some x := e1
   rw [List.getElem?_append_right (by omega)] at e1''
   simpa using e1''
  have e2' : (fv.map fun j => (σ[j]?).join)[k]? = some (some v) := by
   rw [show lcσ vars.length fv σ = List.replicate vars.length none ++ fv.map fun j => (σ[j]?).join from rfl, List.getElem?_append_right (by simp)] at e2
   simpa using e2
  rw [List.getElem?_map] at e2'
  obtain ⟨j, hj, ej⟩ := Option.map_eq_some_iff.mp e2'
  have ej' : σ[j]? = some (some v) := by
   cases q : σ[j]? with
   | none => rw [q] at ej; cases ej
   | some y => rw [q] at ej; exact congrArg some ej
  obtain ⟨f1, f2, f3, f4⟩ := fo.get e1' hj
  obtain ⟨u, ru, lk⟩ := hl j x v f1 ej' (f2.elim (fun z => .inr (.inl z)) fun z => .inr (.inr z))
  refine ⟨u, ru, .inr ⟨f4, ?_⟩⟩
  rcases lk with ⟨z, _⟩ | ⟨_, c, hc, o, q, d⟩
  ·rcases f2 with y | y <;> rw [y] at z <;> cases z
  ·exact ⟨c, f3.trans hc, o, old c o q, d⟩
 ·obtain ⟨v, o, q, d⟩ := I.cell x c (L.sub x c e)
  exact ⟨v, o, old c o q, d⟩
 ·exact I.hok.fresh leS
 ·have e : p = (s.heap.objs.size, qaq) := by
   have hp' : p ∈ ([] : List (Addr × Obj)) ++ [(s.heap.objs.size, qaq)] := hp
   simpa using hp'
  subst e
  refine ⟨hD, I.hok.fresh (Nat.le_refl _), neS, fun q => ?_, fun v q => by have q' : Data.seq _ _ = Data.cell v := q; cases q'⟩
  exact Nat.lt_irrefl _ (stk _ q).1
 ·show (lcσ vars.length fv σ).length = (vars ++ frees).length
  simp [lcσ, fo.len]
end
def PIfs (X : Cx) (ifs : List Expr) (t : TT) : Prop :=
 ∀ (pins : List (Addr × Obj)) (s : Shared) (σ : St) (H : Hp) (Q : Bool -> Hp -> Prop), Inv X pins σ H s -> t σ H Q ->
  wpAny (model X.prog X.w) X.A (forIn ifs true fun c r => if r = true then do let ok <- isTrue c X.env (eval c X.env); pure (ForInStep.yield ok) else pure (ForInStep.yield r)) (TP X pins σ Q) X.xe s
def tYes : TT := fun _ H Q => Q true H
theorem yes_ {σ : St} {H : Hp} {Q : Bool -> Hp -> Prop} (h : Q true H) : tYes σ H Q := h
theorem qby {X : Cx} : PIfs X [] tYes := fun _ _ _ H _ I h => wpAny_tests_nil ⟨H, I, h⟩
theorem pif_one {X : Cx} {c : Expr} {t : TT} (h : PT X c t) : PIfs X [c] t := fun pins s σ H Q I q => wpAny_tests_one (h pins s σ H Q I q)
def lcGoal (J : It) (Q : VK) (g : TG) (tc : TT) (te : TE) (σc : St) (H1 : Hp) : Prop := ∃ W : Nat -> Nat -> List V -> Hp -> Prop, (∃ m, W 0 m [] H1) /\ ∀ i m ys H2, W i m ys H2 ->
 (J.stop i H2 /\ ys.length <= sizeLine /\ ∀ p, H2 p = none -> Q (.ref p) (upd H2 p (.lst ys))) \/
 (J.go i H2 /\ ys.length < sizeLine /\ ∃ N : List V -> Hp -> Prop, (∀ zs H', N zs H' -> ∃ m', m' < m /\ W (i + 1) m' zs H') /\ ∀ x H3, J.yld i H2 x H3 -> g x σc H3 fun σ4 H4 => tc σ4 H4 fun b H5 => if b = true then te σ4 H5 fun v H6 => N (ys ++ [v]) H6 else N ys H5)
def tLC (nv : Nat) (fv : List Nat) (wi : TI) (g : TG) (tc : TT) (te : TE) : TE := fun σ H Q => wi σ H fun J H1 => lcGoal J Q g tc te (lcσ nv fv σ) H1
theorem codeAny_lc {prog : Program} {w : World} {A : Around} {R : Result -> Shared -> Prop} {s : Shared} {elt target iter : Expr} {ifs : List Expr} {scope : Scope} {pos : Pos} {it acc : Value} {env : Env} (I : Nat -> Shared -> Prop)
  (turn : ∀ n s, I n s -> wpAny (model prog w) A (pyNext it) (fun r s₁ => match r with
   | none => R (.ok .next) s₁
   | some v => wpAny (model prog w) A (letOwnedTupleGo target it v) (fun _ s₁' => wpAny (model prog w) A (assign target env v) (fun _ s₂ =>
     wpAny (model prog w) A (forIn ifs true fun c r => if r = true then do let ok <- isTrue c env (eval c env); pure (ForInStep.yield ok) else pure (ForInStep.yield r)) (fun ok s₃ =>
      if ok = true then wpAny (model prog w) A (eval elt env) (fun x s₄ =>
       wpAny (model prog w) A (call (.builtin "list.append") [acc, x]) (fun _ s₅ => ∃ m, m < n /\ I m s₅) (notedBy (model prog w) A env fun e s' => R (.error e) s') s₄) (notedBy (model prog w) A env fun e s' => R (.error e) s') s₃
      else ∃ m, m < n /\ I m s₃) (notedBy (model prog w) A env fun e s' => R (.error e) s') s₂) (notedBy (model prog w) A env fun e s' => R (.error e) s') s₁') (notedBy (model prog w) A env fun e s' => R (.error e) s') s₁) (notedBy (model prog w) A env fun e s' => R (.error e) s') s)
  (n : Nat) (h : I n s) : codeAny (model prog w) A (.compLoop (.ListComp elt [⟨target, iter, ifs, 0⟩] scope pos) 0 it acc env) R s := by
 refine codeAny_loop rfl I (fun n s hI => ?_) n h
 show wpAny _ A ((compTurn (.ListComp elt [⟨target, iter, ifs, 0⟩] scope pos) 0 it acc env).onRaise (fun x => do noteFrame x env; theTreesLotGoes x)) _ _ s
 refine wpAny_noted ?_
 rw [compTurn_list]
 refine wpAny_bind (wpAny_standAt (wpAny_bind (wpAny_mono (turn n s hI) (fun r s₁ h₁ => ?_) fun _ _ h' => h')))
 cases r with
 | none => exact wpAny_pure h₁
 | some v =>
  refine wpAny_bind (wpAny_mono h₁ (fun _ s₁' h₁' => ?_) fun _ _ h' => h')
  refine wpAny_bind (wpAny_mono h₁' (fun _ s₂ h₂ => wpAny_bind (wpAny_mono h₂ (fun ok s₃ h₃ => ?_) fun _ _ h' => h')) fun _ _ h' => h')
  cases ok with
  | false => exact wpAny_pure ⟨rfl, h₃⟩
  | true =>
   exact wpAny_bind (wpAny_bind (wpAny_mono h₃ (fun x s₄ h₄ => wpAny_bind (wpAny_mono h₄ (fun _ s₅ h₅ => wpAny_pure (wpAny_pure ⟨rfl, h₅⟩)) fun _ _ h' => h')) fun _ _ h' => h'))
def GKeep (nv : Nat) (g : TG) : Prop := ∀ x σ H (K : St -> Hp -> Prop), g x σ H K -> g x σ H fun σ' H' => K σ' H' /\ σ'.length = σ.length /\ ∀ i, nv <= i -> σ'[i]? = σ[i]?
theorem gk_name {nv i : Nat} (h : i < nv) : GKeep nv (gName i) := fun x σ H K q => ⟨q, by simp, fun j hj => by rw [List.getElem?_set_ne (by omega)]⟩
theorem qdr {F : Frag} {nv i j : Nat} (hi : i < nv) (hj : j < nv) : GKeep nv (gTup F 2 (gCons (gName i) (gCons (gName j) gNil))) := fun x σ H K ⟨a, xs, e, hq, hl, v, r, e1, v2, r2, e2, e3, q⟩ =>
 ⟨a, xs, e, hq, hl, v, r, e1, v2, r2, e2, e3, q, by simp, fun k hk => by rw [List.getElem?_set_ne (by omega), List.getElem?_set_ne (by omega)]⟩
abbrev lobj (us : List Value) (n : Nat) : Obj := { cls := .type "list", data := .seq us.toArray n }
theorem lc_loop {Y : Cx} {D it : Addr} {J : It} {fp : List Addr} {tn : Nat -> Heap -> Prop} {g : TG} {tc : TT} {te : TE} {Q : VK} {W : Nat -> Nat -> List V -> Hp -> Prop} {nv n0 m0 : Nat} {σc : St} {H : Hp} {s : Shared}
  {elt target iter : Expr} {ifs : List Expr} {scope : Scope} {pos : Pos} {R : Result -> Shared -> Prop} (hx : Y.xe = fun _ _ => False)
  (hc : Y.calm = true) (hg : PG Y target g) (hk : GKeep nv g) (hi : PIfs Y ifs tc) (he : PE Y elt te) (T : Turn Y.prog Y.w Y.K target J fp it tn)
  (hnv : ∀ i, i < nv -> ∀ v, σc[i]? ≠ some (some v))
  (d1 : D ≠ Y.env.locals) (d2 : D ∈ Y.ex) (d3 : D ∉ Y.fs) (d4 : ∀ x c, Y.env.cells.lookup x = some c -> c ≠ D) (d5 : D ∉ fp) (d6 : Y.pn = [])
  (hf : ∀ b ∈ fp, b ≠ Y.env.locals /\ b ∉ Y.fs /\ (b ∈ Y.ex \/ Y.s₀.heap.objs.size <= b) /\ (∀ x c, Y.env.cells.lookup x = some c -> c ≠ b))
  (I0 : Inv Y [(D, lobj [] n0)] σc H s) (st : tn 0 s.heap) (fr : ∀ b ∈ fp, H b = none) (w0 : W 0 m0 [] H)
  (turn : ∀ i m ys H2, W i m ys H2 -> (J.stop i H2 /\ ys.length <= sizeLine /\ ∀ p, H2 p = none -> Q (.ref p) (upd H2 p (.lst ys))) \/
   (J.go i H2 /\ ys.length < sizeLine /\ ∃ N : List V -> Hp -> Prop, (∀ zs H', N zs H' -> ∃ m', m' < m /\ W (i + 1) m' zs H') /\ ∀ x H3, J.yld i H2 x H3 -> g x σc H3 fun σ4 H4 => tc σ4 H4 fun b H5 => if b = true then te σ4 H5 fun v H6 => N (ys ++ [v]) H6 else N ys H5))
  (hend : ∀ ys us n H' s', Inv Y [(D, lobj us n)] σc H' s' -> Vals ys us -> ys.length <= sizeLine -> (∀ p, H' p = none -> Q (.ref p) (upd H' p (.lst ys))) -> R (.ok .next) s') :
  codeAny (model Y.prog Y.w) Y.A (.compLoop (.ListComp elt [⟨target, iter, ifs, 0⟩] scope pos) 0 (.ref it) (.ref D) Y.env) R s := by
 have fpok : ∀ {H' : Hp} {o : Obj}, (∀ b ∈ fp, H' b = none) -> ∀ b ∈ fp, FpOk Y [(D, o)] H' b := fun {H' o} hn b hb => by
  obtain ⟨f1, f2, f3, f4⟩ := hf b hb
  refine ⟨hn b hb, f1, f2, f3, f4, fun p hp => ?_⟩
  rw [d6] at hp
  have e : p = (D, o) := by simpa using hp
  rw [e]
  exact fun z => d5 (by rw [show D = b from z]; exact hb)
 refine codeAny_lc (fun n s' => ∃ i ys us k H', Inv Y [(D, lobj us k)] σc H' s' /\ Vals ys us /\ tn i s'.heap /\ (∀ b ∈ fp, H' b = none) /\ W i n ys H') ?_ m0 ⟨0, [], [], n0, H, I0, .nil, st, fr, w0⟩
 rintro n s3 ⟨i, ys, us, k, H3, I3, rv, st3, fr3, w3⟩
 have ex0 : ∀ {E' : Value -> Shared -> Prop} {e : Value} {s' : Shared}, Y.xe e s' -> E' e s' := fun {E' e s'} z => by rw [hx] at z; exact z.elim
 rcases turn i n ys H3 w3 with ⟨stop, hz, q⟩ | ⟨go, hz, N, hN, step⟩
 ·refine thn (T.done Y rfl rfl rfl hc i _ s3 σc H3 _ I3 (fpok fr3) st3 stop) fun r s4 hq__ => ?_
  obtain ⟨hr, I4⟩ := hq__
  subst hr
  exact hend ys us k H3 s4 I4 rv hz q
 ·refine thn (T.item Y rfl rfl rfl hc i _ s3 σc H3 _ I3 (fpok fr3) st3 go) fun r s4 hq__ => ?_
  obtain ⟨u, hr, h4⟩ := hq__
  subst hr
  refine thn h4 fun _ s5 hq__ => ?_
  obtain ⟨x, H5, I5, r5, y5, st5, fr5⟩ := hq__
  have I5' := I5.pinned (fpok fr5) (T.obj _ _ st5)
  refine wpAny_mono (hg _ s5 σc H5 x u _ I5' r5 (hk x σc H5 _ (step x H5 y5))) (fun _ s6 hq__ => ?_) fun _ _ z => ex0 z
  obtain ⟨σ6, H6, I6, q6, l6, e6⟩ := hq__
  have wk : ∀ (i : Nat) v, σc[i]? = some (some v) -> σ6[i]? = some (some v) := fun i v e => by
   by_cases h : nv <= i
   ·rw [e6 i h]; exact e
   ·exact absurd e (hnv i (by omega) v)
  have back : ∀ {o : Obj} {H' : Hp} {s' : Shared}, Inv Y ([(D, o)] ++ pinsAt fp s5.heap) σ6 H' s' -> Inv Y [(D, o)] σc H' s' /\ tn (i + 1) s'.heap /\ ∀ b ∈ fp, H' b = none := fun {o H' s'} I' => by
   refine ⟨(I'.unpinned).weak (by rw [<- l6]) wk, T.keep _ _ _ st5 fun b hb o e => (I'.pin (b, o) (List.mem_append_right _ (List.mem_append_right _ (mem_pinsAt hb e)))).1, fun b hb => ?_⟩
   obtain ⟨o, e, _⟩ := T.obj _ _ st5 b hb
   exact (I'.pin (b, o) (List.mem_append_right _ (List.mem_append_right _ (mem_pinsAt hb e)))).2.1
  refine wpAny_mono (hi _ s6 σ6 H6 _ I6 q6) (fun b s7 hq__ => ?_) fun _ _ z => ex0 z
  obtain ⟨H7, I7, q7⟩ := hq__
  cases b with
  | false =>
   obtain ⟨m', hm, w7⟩ := hN ys H7 q7
   obtain ⟨I8, st8, fr8⟩ := back I7
   exact ⟨m', hm, i + 1, ys, us, k, H7, I8, rv, st8, fr8, w7⟩
  | true =>
   refine wpAny_mono (he _ s7 σ6 H7 _ I7 q7) (fun u2 s8 hq__ => ?_) fun _ _ z => ex0 z
   obtain ⟨v, H8, I8, r8, n8⟩ := hq__
   obtain ⟨m', hm, w8⟩ := hN _ H8 n8
   obtain ⟨I9, st9, fr9⟩ := back I8
   obtain ⟨eD, nD, _, _, _⟩ := I9.pin (D, lobj us k) (by simp)
   have hlen := rv.length
   refine call_meets F.slot_list_append ⟨_, eD, rfl⟩ F.entry_list_append (F.args_list_append_2 _ _) (PySem.list_append D us.toArray k u2 (by rw [List.size_toArray]; omega)) ⟨eD, ?_⟩
   have q := PySem.IsL.update eD (fun x_1 => x_1.push u2)
   have eq : us.toArray.push u2 = (us ++ [u2]).toArray := by simp
   rw [eq] at q
   obtain ⟨n', q⟩ : ∃ n', (s8.heap.update D (Obj.mapSeq fun x_1 => x_1.push u2)).get? D = some (lobj (us ++ [u2]) n') := ⟨_, q⟩
   have I10 : Inv Y [] σc H8 s8 := I9.pins_of fun p hp => by cases hp
   have I11 : Inv Y [] σc H8 { s8 with heap := s8.heap.update D (Obj.mapSeq fun x_1 => x_1.push u2), toks := s8.toks } :=
    I10.turned (it := D) (fun b o hb e => (Heap.get?_update_other s8.heap (Obj.mapSeq _) (Ne.symm hb)).trans e) nD d1 (.inl d2) d4 (fun p hp => by rw [d6] at hp; cases hp)
   refine ⟨m', hm, i + 1, ys ++ [v], us ++ [u2], n', H8, I11.pins_of (fun p hp => ?_), rv.append (.cons r8 .nil), ?_, fr9, w8⟩
   ·have e : p = (D, lobj (us ++ [u2]) n') := by simpa using hp
    subst e
    exact ⟨q, nD, d1, d3, fun v z => by have z' : Data.seq _ _ = Data.cell v := z; cases z'⟩
   ·refine T.keep _ _ _ st9 fun b hb o e => ?_
    exact (Heap.get?_update_other s8.heap (Obj.mapSeq _) (fun z => d5 (by rw [z]; exact hb))).trans e
section
variable {X : Cx} {pins : List (Addr × Obj)} {σ : St} {H : Hp} {s : Shared} {scope : Scope} {cl : List (Str × Addr)} {vars frees : List Str} {fv : List Nat} {elt target iter : Expr} {ifs : List Expr} {pos : Pos}
def LcEnd (X : Cx) (pins : List (Addr × Obj)) (σ : St) (Q : VK) (D C : Addr) (s' : Shared) : Prop :=
 ∃ (ys : List V) (H' : Hp) (oC : Obj) (m : Str -> Option Value), Inv X (pins ++ [(C, oC)]) σ (upd H' D (.lst ys)) s' /\ s'.heap.Ns C m /\ FpOk X pins (upd H' D (.lst ys)) C /\ Q (.ref D) (upd H' D (.lst ys))
theorem lc_core {J : It} {fp : List Addr} {it : Addr} {tn : Nat -> Heap -> Prop} {g : TG} {tc : TT} {te : TE} {Q : VK} {W : Nat -> Nat -> List V -> Hp -> Prop} {m0 : Nat} {E : Value -> Shared -> Prop} {E2 : Value -> Addr -> Value -> Shared -> Prop}
  (hc : X.calm = true) (L : LcOk X scope cl) (fo : FvOk X scope cl frees fv) (hk : GKeep vars.length g)
  (hg : ∀ C s H ex, PG (blk X (vars ++ frees) scope cl C s H ex) target g) (hi : ∀ C s H ex, PIfs (blk X (vars ++ frees) scope cl C s H ex) ifs tc) (he : ∀ C s H ex, PE (blk X (vars ++ frees) scope cl C s H ex) elt te)
  (I : Inv X pins σ H s) (T : Turn X.prog X.w X.K target J fp it tn) (st : tn 0 s.heap) (hf : ∀ b ∈ fp, FpOk X pins H b) (w0 : W 0 m0 [] H)
  (turn : ∀ i m ys H2, W i m ys H2 -> (J.stop i H2 /\ ys.length <= sizeLine /\ ∀ p, H2 p = none -> Q (.ref p) (upd H2 p (.lst ys))) \/
   (J.go i H2 /\ ys.length < sizeLine /\ ∃ N : List V -> Hp -> Prop, (∀ zs H', N zs H' -> ∃ m', m' < m /\ W (i + 1) m' zs H') /\ ∀ x H3, J.yld i H2 x H3 -> g x (lcσ vars.length fv σ) H3 fun σ4 H4 => tc σ4 H4 fun b H5 => if b = true then te σ4 H5 fun v H6 => N (ys ++ [v]) H6 else N ys H5)) :
  wpAny (model X.prog X.w) X.A (newList []) (fun acc s₃ => wpAny (model X.prog X.w) X.A (newFunctionEnv scope X.env.globals cl [] X.env.qual none .none (some X.env)) (fun cenv s₄ =>
   codeAny (model X.prog X.w) X.A (.compStart (.ListComp elt [⟨target, iter, ifs, 0⟩] scope pos) 0 (.ref it) acc { cenv with scope := relabel scope X.env })
    (fun r s' => match r with | .ok _ => ∃ D, acc = .ref D /\ LcEnd X pins σ Q D cenv.locals s' | .error x => E2 acc cenv.locals x s') s₄) E s₃) E s := by
 have hoo : ∀ b ∈ fp, ∃ o, s.heap.get? b = some o := fun b hb => let ⟨o, e, _⟩ := T.obj 0 _ st b hb; ⟨o, e⟩
 refine wpAny_newObj_type (wpAny_newFunctionEnv L.nocell (by intro y hy; simp at hy) (fun h₁ hns hsb => ?_) L.kind)
 dsimp only at hns hsb ⊢
 have hC : (s.heap.push qaq).objs.size = s.heap.objs.size + 1 := Heap.size_push ..
 have keep1 : ∀ b o, b ≠ (s.heap.push qaq).objs.size -> (s.heap.push qaq).get? b = some o -> h₁.get? b = some o := fun b o hb e => hsb.extBut b o hb (Heap.get?_push_of_some _ e)
 have I0 : Inv (blk X (vars ++ frees) scope cl (s.heap.push qaq).objs.size { s with heap := s.heap.push qaq } H (s.heap.objs.size :: fp)) [(s.heap.objs.size, qaq)] (lcσ vars.length fv σ) H { s with heap := h₁, toks := s.toks + ([] : List (Str × Value)).length } :=
  inv_blk I L fo hf hoo (by simpa using hns) keep1
 have st1 : tn 0 h₁ := T.keep 0 _ _ st fun b hb o e => keep1 b o (ltS e) (Heap.get?_push_of_some _ e)
 have loop : codeAny (model X.prog X.w) X.A (.compLoop (.ListComp elt [⟨target, iter, ifs, 0⟩] scope pos) 0 (.ref it) (.ref s.heap.objs.size) (compEnvC scope cl (s.heap.push qaq).objs.size X.env))
   (fun r s' => match r with | .ok _ => ∃ D, Value.ref s.heap.objs.size = .ref D /\ LcEnd X pins σ Q D (s.heap.push qaq).objs.size s' | .error x => E2 (.ref s.heap.objs.size) (s.heap.push qaq).objs.size x s') { s with heap := h₁, toks := s.toks + ([] : List (Str × Value)).length } := by
  refine lc_loop (Y := blk X (vars ++ frees) scope cl (s.heap.push qaq).objs.size { s with heap := s.heap.push qaq } H (s.heap.objs.size :: fp)) (nv := vars.length) (n0 := 0) rfl hc (hg _ _ _ _) hk (hi _ _ _ _) (he _ _ _ _) T (fun i hi v e => ?_)
   neS (by show s.heap.objs.size ∈ s.heap.objs.size :: fp; simp) ?_ (fun x c e => ?_) (fun z => ?_) rfl (fun b hb => ?_) I0 st1 (fun b hb => (hf b hb).1) w0 turn ?_
  ·rw [show lcσ vars.length fv σ = List.replicate vars.length none ++ fv.map fun j => (σ[j]?).join from rfl, List.getElem?_append_left (by simpa using hi), List.getElem?_replicate_of_lt (by simpa using hi)] at e
   cases e
  ·exact (I0.pin (s.heap.objs.size, qaq) (by simp)).2.2.2.1
  ·obtain ⟨v, q⟩ := I.cell x c (L.sub x c e)
   exact Nat.ne_of_lt q.lt
  ·obtain ⟨o, e⟩ := hoo _ z
   exact absurd (Heap.lt_size e) (Nat.lt_irrefl _)
  ·exact ⟨(I0.ok.exf b (List.mem_cons_of_mem _ hb)).1, I0.ok.exfs b (List.mem_cons_of_mem _ hb), .inl (List.mem_cons_of_mem _ hb), (I0.ok.exf b (List.mem_cons_of_mem _ hb)).2⟩
  ·intro ys us n H' s' I' rv hz q
   obtain ⟨eD, nD, _, fD, _⟩ := I'.pin (s.heap.objs.size, lobj us n) (by simp)
   obtain ⟨mC, hnC, _⟩ := I'.loc
   obtain ⟨oC, es, ep, eC, dC, r1, r2⟩ := id hnC
   have nC : H' (s.heap.push qaq).objs.size = none := I'.free
   have neDC : (s.heap.push qaq).objs.size ≠ s.heap.objs.size := neS.symm
   have lt : ∀ {b : Addr} {o : Obj}, s.heap.get? b = some o -> b ≠ s.heap.objs.size /\ b ≠ (s.heap.push qaq).objs.size := fun e => ⟨neZ e, ltS e⟩
   have nex : ∀ {b : Addr} {o : Obj}, s.heap.get? b = some o -> b ∉ fp -> b ∉ s.heap.objs.size :: fp := fun e hb z => by
    rcases List.mem_cons.mp z with z | z
    ·exact (lt e).1 z
    ·exact hb z
   have upn : ∀ {b : Addr} {u : HO}, H' b = some u -> upd H' s.heap.objs.size (.lst ys) b = some u := fun e => by rw [qau (qag e nD)]; exact e
   have un : Un (frs X.stack) fp H (upd H' s.heap.objs.size (.lst ys)) s.heap s'.heap :=
    {keep := fun b o e n hb hx => I'.base.keep b o (Heap.get?_push_of_some _ e) n hb (nex e hx)
     slot := fun b o e n hb hx => I'.base.slot b o (Heap.get?_push_of_some _ e) n hb (nex e hx)
     free := fun b o e n hx => by rw [qau (lt e).1]; exact I'.base.free b o (Heap.get?_push_of_some _ e) n (nex e hx)
     there := fun b o e hx => I'.base.there b o (Heap.get?_push_of_some _ e) (nex e hx)
     tups := fun b xs e => upn (I'.base.tups b xs e)
     frzs := fun b o u e => upn (I'.base.frzs b o u e)
     tbls := fun b ps e => let ⟨more, z⟩ := I'.base.tbls b ps e; ⟨more, upn z⟩ }
   have hok : HOk X.prog X.w (upd H' s.heap.objs.size (.lst ys)) s'.heap := fun b u e => by
    by_cases hb : b = s.heap.objs.size
    ·subst hb; rw [qa8] at e; cases e
     exact ⟨hz, us, n, rv, eD⟩
    ·rw [qau hb] at e
     exact (I'.hok b u e).stay (fun c v _ z => z) (fun c z => upn z) fun c xs z => upn z
   have J1 : Inv X pins σ (upd H' s.heap.objs.size (.lst ys)) s' := I.call' (ch := fp) I'.os un hok I'.bare fun b hb => ⟨(hf b hb).2.2.2.1, (hf b hb).2.1, (hf b hb).2.2.2.2.1, (hf b hb).2.2.2.2.2⟩
   have fC : FpOk X pins (upd H' s.heap.objs.size (.lst ys)) (s.heap.push qaq).objs.size := I.fpOk leS (by rw [qau neDC]; exact nC)
   refine ⟨_, rfl, ys, H', oC, mC, J1.pins_of (fun p hp => ?_), hnC, fC, q _ nD⟩
   rcases List.mem_append.mp hp with z | z
   ·exact J1.pin p (List.mem_append_right _ z)
   ·have e : p = ((s.heap.push qaq).objs.size, oC) := by simpa using z
    subst e
    exact ⟨eC, fC.1, fC.2.1, fC.2.2.1, fun v z => by rw [dC] at z; cases z⟩
 exact codeAny_compStart_list loop (T.self _ 0 _ _ _ st1 loop)
theorem pe_lc {wi : TI} {g : TG} {tc : TT} {te : TE} (hc : X.calm = true) (L : LcOk X scope cl) (fo : FvOk X scope cl frees fv) (hit : PI X target iter wi) (hk : GKeep vars.length g)
  (hg : ∀ C s H ex, PG (blk X (vars ++ frees) scope cl C s H ex) target g) (hi : ∀ C s H ex, PIfs (blk X (vars ++ frees) scope cl C s H ex) ifs tc) (he : ∀ C s H ex, PE (blk X (vars ++ frees) scope cl C s H ex) elt te)
  (hs : ∀ x, foldedSetIterable iter X.env x = pure x := by intro _; rfl) : PE X (.ListComp elt [⟨target, iter, ifs, 0⟩] scope pos) (tLC vars.length fv wi g tc te) := by
 intro pins s σ H Q I h
 rw [eval_ListComp]
 refine wpAny_comprehension_free (use := none) rfl hs L.clos L.kind L.names (thn (hit pins s σ H _ I h) fun v s1 h1 => thn h1 fun itv s2 h2 => ?_)
 obtain ⟨it, fp, tn, J, H2, e, I2, T, st2, f2, W, ⟨m0, w0⟩, turn⟩ := h2
 subst e
 refine wpAny_mono (lc_core (E := X.xe) (E2 := fun acc C x s' => compPost (model X.prog X.w) X.A X.xe none (EP X pins σ Q) acc C (.error x) s') hc L fo hk hg hi he I2 T st2 f2 w0 turn) (fun acc s3 h3 => thn h3 fun cenv s4 h4 => codeAny_mono h4 fun r s' h5 => ?_) fun _ _ z => z
 cases r with
 | error x => exact h5
 | ok f =>
  obtain ⟨D, rfl, ys, H', oC, m, J1, hn, fC, q⟩ := h5
  refine ⟨m, hn, fun h' sb => ⟨.ref D, _, ?_, rfl, q⟩⟩
  exact J1.unpinned.turned (t' := s'.toks) (it := cenv.locals) (fun b o hb e => (sb.2 b hb).trans e) fC.1 fC.2.1 fC.2.2.2.1 fC.2.2.2.2.1 fC.2.2.2.2.2
theorem qd6 {wi : TI} {g : TG} {tc : TT} {te : TE} {i : Nat} {x : Str} {spos pos' : Pos} (hN : X.N.Nodup) (hix : X.N[i]? = some x) (hlx : Loc X.env.scope x) (hc : X.calm = true) (L : LcOk X scope cl) (fo : FvOk X scope cl frees fv) (hit : PI X target iter wi) (hk : GKeep vars.length g)
  (hg : ∀ C s H ex, PG (blk X (vars ++ frees) scope cl C s H ex) target g) (hi : ∀ C s H ex, PIfs (blk X (vars ++ frees) scope cl C s H ex) ifs tc) (he : ∀ C s H ex, PE (blk X (vars ++ frees) scope cl C s H ex) elt te)
  (hsw : swapsWith (.ListComp elt [⟨target, iter, ifs, 0⟩] scope pos) (some (.Name x pos')) spos.line X.env = pure true := by rfl)
  (hs : ∀ x, foldedSetIterable iter X.env x = pure x := by intro _; rfl) (hf : X.fn x = true \/ X.env.scope.names.lookup x = some .local := by first | exact .inl rfl | exact .inr rfl | assumption) :
  PS X (.Assign [.Name x pos'] (.ListComp elt [⟨target, iter, ifs, 0⟩] scope pos) spos) (tAsg (tLC vars.length fv wi g tc te) (gName i)) := by
 intro pins s σ H Dn I h
 rw [exec_Assign_Name_used _ _ _ _ hsw]
 refine wpAny_bind (wpAny_standAt (wpAny_bind ?_))
 show wpAny _ X.A (do let _ <- comprehension (.ListComp elt [⟨target, iter, ifs, 0⟩] scope pos) scope X.env _ (newList []) false (eval iter X.env) (some (assign (.Name x pos') X.env))) _ _ s
 refine wpAny_bind (wpAny_mono (wpAny_comprehension_free (use := some (assign (.Name x pos') X.env)) (Q := fun _ s' => SP X pins Dn .next s') rfl hs L.clos L.kind L.names (thn (hit pins s σ H _ I h) fun v s1 h1 => thn h1 fun itv s2 h2 => ?_)) (fun _ s' hq => wpAny_pure (wpAny_pure hq)) fun _ _ e => e)
 obtain ⟨it, fp, tn, J, H2, e, I2, T, st2, f2, W, ⟨m0, w0⟩, turn⟩ := h2
 subst e
 refine wpAny_mono (lc_core (Q := fun x H1 => gName i x σ H1 Dn.nx) (E := X.xe) (E2 := fun acc C y s' => compPost (model X.prog X.w) X.A X.xe (some (assign (.Name x pos') X.env)) (fun _ s' => SP X pins Dn .next s') acc C (.error y) s') hc L fo hk hg hi he I2 T st2 f2 w0 turn) (fun acc s3 h3 => thn h3 fun cenv s4 h4 => codeAny_mono h4 fun r s' h5 => ?_) fun _ _ z => z
 cases r with
 | error y => exact h5
 | ok f =>
  obtain ⟨D, rfl, ys, H', oC, m, J1, hn, fC, q⟩ := h5
  show wpAny (model X.prog X.w) X.A (assign (.Name x pos') X.env (.ref D)) (fun _ s'' => ∃ m, s''.heap.Ns cenv.locals m /\ ∀ h', Heap.SameBut cenv.locals s''.heap h' -> SP X pins Dn .next { s'' with heap := h' }) X.xe s'
  refine thn (qaj (i := i) hN hix hlx hf _ s' σ _ (.ref D) (.ref D) (fun σ' H'' => Dn.nx σ' H'' /\ H'' = upd H' D (.lst ys)) J1 rfl ⟨q, rfl⟩) fun _ s6 hq__ => ?_
  obtain ⟨σ6, H6, I6, q6, e6⟩ := hq__
  subst e6
  have eC := (I6.pin (cenv.locals, oC) (by simp)).1
  have eC' := (J1.pin (cenv.locals, oC) (by simp)).1
  obtain ⟨o, es, ep, ho, r1⟩ := hn
  rw [eC'] at ho
  cases ho
  refine ⟨m, ⟨oC, es, ep, eC, r1⟩, fun h' sb => ⟨σ6, _, ?_, q6⟩⟩
  exact I6.unpinned.turned (t' := s6.toks) (it := cenv.locals) (fun b o hb e => (sb.2 b hb).trans e) fC.1 fC.2.1 fC.2.2.2.1 fC.2.2.2.2.1 fC.2.2.2.2.2
end
end L2
namespace L2
open PySem PySem.Spec PyProof.Rows
theorem lc_list {K : Frag} {a : Addr} {xs : List V} {g : TG} {tc : TT} {te : TE} {Q : VK} {σ : St} {H : Hp} (Pv : Nat -> List V -> Hp -> Prop) (hz : xs.length <= sizeLine) (h0 : Pv 0 [] H) (hl : ∀ i ys H, Pv i ys H -> SqL K H a xs /\ ys.length <= i)
  (hs : ∀ i x ys H, xs[i]? = some x -> Pv i ys H -> g x σ H fun σ4 H4 => tc σ4 H4 fun b H5 => if b = true then te σ4 H5 fun v H6 => Pv (i + 1) (ys ++ [v]) H6 else Pv (i + 1) ys H5)
  (hd : ∀ ys H p, Pv xs.length ys H -> H p = none -> Q (.ref p) (upd H p (.lst ys))) :
  lcGoal (Itl K a) Q g tc te σ H := by
 refine ⟨fun i m ys H => m = xs.length - i /\ i <= xs.length /\ Pv i ys H, ⟨xs.length, by simp, Nat.zero_le _, h0⟩, ?_⟩
 rintro i m ys H2 ⟨rfl, hi, p⟩
 obtain ⟨q, hy⟩ := hl i ys H2 p
 by_cases hlt : i < xs.length
 ·refine .inr ⟨⟨xs, xs[i], q, by simp [hlt]⟩, by omega, Pv (i + 1), fun zs H' p' => ⟨xs.length - (i + 1), by omega, rfl, hlt, p'⟩, fun x H3 y => ?_⟩
  obtain ⟨e, y⟩ := y
  subst e
  exact hs i x ys _ (y xs q) p
 ·have e : i = xs.length := by omega
  subst e
  exact .inl ⟨⟨xs, q, Nat.le_refl _⟩, by omega, fun p' hp' => hd ys H2 p' p hp'⟩
theorem lc_tup {K : Frag} {a : Addr} {xs : List V} {g : TG} {tc : TT} {te : TE} {Q : VK} {σ : St} {H : Hp} (Pv : Nat -> List V -> Hp -> Prop) (hz : xs.length <= sizeLine) (h0 : Pv 0 [] H) (hl : ∀ i ys H, Pv i ys H -> SqT K H a xs /\ ys.length <= i)
  (hs : ∀ i x ys H, xs[i]? = some x -> Pv i ys H -> g x σ H fun σ4 H4 => tc σ4 H4 fun b H5 => if b = true then te σ4 H5 fun v H6 => Pv (i + 1) (ys ++ [v]) H6 else Pv (i + 1) ys H5)
  (hd : ∀ ys H p, Pv xs.length ys H -> H p = none -> Q (.ref p) (upd H p (.lst ys))) :
  lcGoal (Itt K a) Q g tc te σ H := by
 refine ⟨fun i m ys H => m = xs.length - i /\ i <= xs.length /\ Pv i ys H, ⟨xs.length, by simp, Nat.zero_le _, h0⟩, ?_⟩
 rintro i m ys H2 ⟨rfl, hi, p⟩
 obtain ⟨q, hy⟩ := hl i ys H2 p
 by_cases hlt : i < xs.length
 ·refine .inr ⟨⟨xs, xs[i], q, by simp [hlt]⟩, by omega, Pv (i + 1), fun zs H' p' => ⟨xs.length - (i + 1), by omega, rfl, hlt, p'⟩, fun x H3 y => ?_⟩
  obtain ⟨e, y⟩ := y
  subst e
  exact hs i x ys _ (y xs q) p
 ·have e : i = xs.length := by omega
  subst e
  exact .inl ⟨⟨xs, q, Nat.le_refl _⟩, by omega, fun p' hp' => hd ys H2 p' p hp'⟩
theorem lc_range {lo : Int} {n : Nat} {g : TG} {tc : TT} {te : TE} {Q : VK} {σ : St} {H : Hp} (Pv : Nat -> List V -> Hp -> Prop) (hz : n <= sizeLine) (h0 : Pv 0 [] H) (hl : ∀ i ys H, Pv i ys H -> ys.length <= i)
  (hs : ∀ i ys H, i < n -> Pv i ys H -> g (.int (lo + i)) σ H fun σ4 H4 => tc σ4 H4 fun b H5 => if b = true then te σ4 H5 fun v H6 => Pv (i + 1) (ys ++ [v]) H6 else Pv (i + 1) ys H5)
  (hd : ∀ ys H p, Pv n ys H -> H p = none -> Q (.ref p) (upd H p (.lst ys))) :
  lcGoal (Itr lo n) Q g tc te σ H := by
 refine ⟨fun i m ys H => m = n - i /\ i <= n /\ Pv i ys H, ⟨n, by simp, Nat.zero_le _, h0⟩, ?_⟩
 rintro i m ys H2 ⟨rfl, hi, p⟩
 have hy := hl i ys H2 p
 by_cases hlt : i < n
 ·refine .inr ⟨hlt, by omega, Pv (i + 1), fun zs H' p' => ⟨n - (i + 1), by omega, rfl, hlt, p'⟩, fun x H3 y => ?_⟩
  obtain ⟨e, y⟩ := y
  subst e y
  exact hs i ys _ hlt p
 ·have e : i = n := by omega
  subst e
  exact .inl ⟨Nat.le_refl _, by omega, fun p' hp' => hd ys H2 p' p hp'⟩
theorem lc_zip {K : Frag} {a b : Addr} {xs ys : List V} {g : TG} {tc : TT} {te : TE} {Q : VK} {σ : St} {H : Hp} (Pv : Nat -> List V -> Hp -> Prop) (hz : xs.length <= sizeLine) (h0 : Pv 0 [] H) (hl : ∀ i zs H, Pv i zs H -> SqL K H a xs /\ SqL K H b ys /\ zs.length <= i)
  (hs : ∀ i x y zs H p, xs[i]? = some x -> ys[i]? = some y -> H p = none -> Pv i zs H -> g (.ref p) σ (upd H p (.tup [x, y])) fun σ4 H4 => tc σ4 H4 fun b H5 => if b = true then te σ4 H5 fun v H6 => Pv (i + 1) (zs ++ [v]) H6 else Pv (i + 1) zs H5)
  (hd : ∀ i zs H p, i = min xs.length ys.length -> Pv i zs H -> H p = none -> Q (.ref p) (upd H p (.lst zs))) :
  lcGoal (Itz K a b) Q g tc te σ H := by
 refine ⟨fun i m zs H => m = min xs.length ys.length - i /\ i <= min xs.length ys.length /\ Pv i zs H, ⟨min xs.length ys.length, by simp, Nat.zero_le _, h0⟩, ?_⟩
 rintro i m zs H2 ⟨rfl, hi, p⟩
 obtain ⟨qa, qb, hy⟩ := hl i zs H2 p
 by_cases hlt : i < min xs.length ys.length
 ·have ha : i < xs.length := by omega
  have hb : i < ys.length := by omega
  refine .inr ⟨⟨xs, ys, xs[i], ys[i], qa, qb, by simp [ha], by simp [hb]⟩, by omega, Pv (i + 1), fun zs H' p' => ⟨min xs.length ys.length - (i + 1), by omega, rfl, hlt, p'⟩, fun x H3 y => ?_⟩
  obtain ⟨t, rfl, ht, y⟩ := y
  have ea : xs[i]? = some xs[i] := by simp [ha]
  have eb : ys[i]? = some ys[i] := by simp [hb]
  rw [y xs ys xs[i] ys[i] qa qb ea eb]
  exact hs i xs[i] ys[i] zs H2 t ea eb ht p
 ·exact .inl ⟨⟨xs, ys, qa, qb, by omega⟩, by omega, fun p' hp' => hd i zs H2 p' (by omega) p hp'⟩
end L2
namespace L2
open PySem PySem.Spec PyProof.Rows
structure New (H H' : Hp) (p : Addr) (o : HO) : Prop where
 same : Same H H'
 fresh : H p = none
 at_ : H' p = some o
theorem qbd {H : Hp} {p : Addr} {o : HO} (h : H p = none) : New H (upd H p o) p o := ⟨same_upd h, h, qa8⟩
def But (l : Addr) (H H' : Hp) : Prop := ∀ b o, H b = some o -> b ≠ l -> H' b = some o
theorem qb3 {H : Hp} {l : Addr} {o : HO} : But l H (upd H l o) := fun b u e n => by rw [qau n]; exact e
theorem But.same {H0 H H' : Hp} {l : Addr} (b : But l H H') (s : Same H0 H) (h : H0 l = none) : Same H0 H' := fun c o e => b c o (s c o e) (qag e h)
theorem But.tup {H H' : Hp} {l : Addr} {o : HO} (b : But l H H') (h : H l = some o) (n : ∀ xs, o ≠ .tup xs) : ∀ c xs, H c = some (.tup xs) -> H' c = some (.tup xs) := fun c xs e => b c _ e (qbk e h (fun z => n xs z.symm))
section
variable {X : Cx} {e : Expr} {es : List Expr} {te : TE} {t : TA} {pos : Pos}
def tTupN (t : TA) : TE := fun σ H Q => t σ H fun xs H1 => xs.length <= sizeLine /\ ∀ p H', New H1 H' p (.tup xs) -> Q (.ref p) H'
def tLstN (t : TA) : TE := fun σ H Q => t σ H fun xs H1 => xs.length <= sizeLine /\ ∀ p H', New H1 H' p (.lst xs) -> Q (.ref p) H'
theorem qa5 {x1} (h : PA X es t) : PE X (.Tuple es x1 pos) (tTupN t) := by
 intro pins s σ H Q I hq
 refine wpAny_Tuple_spliced (thn (h pos pins s σ H _ I hq) fun us s1 ⟨xs, H1, I1, r, z, q⟩ => ⟨by rw [<- r.length]; exact z, ?_⟩)
 have hf : H1 s1.heap.objs.size = none := I1.hok.fresh (Nat.le_refl _)
 refine ⟨.ref s1.heap.objs.size, upd H1 s1.heap.objs.size (.tup xs), I1.laid (t' := s1.toks) (fun b u e => Heap.get?_push_of_some _ e) (Nat.le_refl _) ?_, rfl, q _ _ (qbd hf)⟩
 exact ⟨z, us, r, ⟨_, Heap.get?_push_size _ rfl, rfl, _, rfl⟩⟩
theorem qa6 (h : PA X es t) : PE X (.List es pos) (tLstN t) := by
 intro pins s σ H Q I hq
 refine wpAny_List_spliced (thn (h pos pins s σ H _ I hq) fun us s1 ⟨xs, H1, I1, r, z, q⟩ => ⟨by rw [<- r.length]; exact z, ?_⟩)
 have hf : H1 s1.heap.objs.size = none := I1.hok.fresh (Nat.le_refl _)
 refine ⟨.ref s1.heap.objs.size, upd H1 s1.heap.objs.size (.lst xs), I1.laid (t' := s1.toks) (fun b u e => Heap.get?_push_of_some _ e) (Nat.le_refl _) ?_, rfl, q _ _ (qbd hf)⟩
 exact ⟨z, us, 0, r, Heap.get?_push_size _ rfl⟩
theorem CallR.imp {f : Value} {r r' : List V -> Hp -> VK -> Prop} (h : CallR X f r) (i : ∀ xs H Q, r' xs H Q -> r xs H Q) : CallR X f r' := fun pins s σ H xs us Q I v q => h pins s σ H xs us Q I v (i xs H Q q)
theorem OpR.imp {f : Value -> Value -> Sem Value} {r r' : R2} (h : OpR X f r) (i : ∀ x y H Q, r' x y H Q -> r x y H Q) : OpR X f r' := fun pins s σ H x y v u Q I rx ry q => h pins s σ H x y v u Q I rx ry (i x y H Q q)
theorem MtM.imp {id : String} {r r' : V -> List V -> Hp -> VK -> Prop} (h : MtM X id r) (i : ∀ x xs H Q, r' x xs H Q -> r x xs H Q) : MtM X id r' := fun pins s σ H x xs v us Q I rx rv q => h pins s σ H x xs v us Q I rx rv (i x xs H Q q)
theorem qbz : CallR X (.type "list") (fun xs H Q => ∃ p ys, xs = [.ref p] /\ (SqL X.K H p ys \/ SqT X.K H p ys) /\ ∀ l H', New H H' l (.lst ys) -> Q (.ref l) H') :=
 call_list_of.imp fun _ _ _ ⟨p, ys, e, h, q⟩ => ⟨p, ys, e, h, fun l hl => q l _ (qbd hl)⟩
def rSlLN (K : Frag) : V -> Option Int -> Option Int -> Hp -> VK -> Prop := fun x lo hi H Q => ∃ a xs, x = .ref a /\ SqL K H a xs /\ ∀ p H', New H H' p (.lst (cutV xs lo hi)) -> Q (.ref p) H'
theorem sl_listN : SlR X (rSlLN X.K) := fun pins s σ H x v vl vu lo hi sl Q I rx hs p1 p2 ⟨a, xs, e, h, q⟩ => sl_list pins s σ H x v vl vu lo hi sl Q I rx hs p1 p2 ⟨a, xs, e, h, fun p hp => q p _ (qbd hp)⟩
def rCatN : R2 := fun x y H Q => ∃ l b xs zs, x = .ref l /\ y = .ref b /\ H l = some (.lst xs) /\ H b = some (.lst zs) /\ xs.length + zs.length <= sizeLine /\ ∀ p H', New H H' p (.lst (xs ++ zs)) -> Q (.ref p) H'
theorem op_catN : OpR X (binaryOp .Add) rCatN := op_cat.imp fun _ _ _ _ ⟨l, b, xs, zs, e1, e2, h1, h2, z, q⟩ => ⟨l, b, xs, zs, e1, e2, h1, h2, z, fun p hp => q p _ (qbd hp)⟩
def rRepN : R2 := fun x y H Q => ∃ l k xs, x = .ref l /\ y = .int k /\ H l = some (.lst xs) /\ -(2 ^ 63) <= k /\ k < 2 ^ 63 /\ xs.length * k.toNat <= sizeLine /\ ∀ p H', New H H' p (.lst (List.replicate k.toNat xs).flatten) -> Q (.ref p) H'
theorem op_repN : OpR X (binaryOp .Mult) rRepN := op_rep.imp fun _ _ _ _ ⟨l, k, xs, e1, e2, h1, a, b, z, q⟩ => ⟨l, k, xs, e1, e2, h1, a, b, z, fun p hp => q p _ (qbd hp)⟩
def rAppendN : V -> List V -> Hp -> VK -> Prop := fun x vs H Q => ∃ l xs y, x = .ref l /\ vs = [y] /\ H l = some (.lst xs) /\ xs.length < sizeLine /\ ∀ H', But l H H' -> H' l = some (.lst (xs ++ [y])) -> Q .non H'
theorem qco : MtM X "list.append" rAppendN := mt_append.imp fun _ _ _ _ ⟨l, xs, y, e1, e2, h, z, q⟩ => ⟨l, xs, y, e1, e2, h, z, q _ qb3 qa8⟩
def rSetLN : V -> V -> V -> Hp -> (Hp -> Prop) -> Prop := fun o i v H Q => ∃ p xs k j, o = .ref p /\ i = .int k /\ H p = some (.lst xs) /\ ixN xs.length k = some j /\ ∀ H', But p H H' -> H' p = some (.lst (xs.set j v)) -> Q H'
theorem qcf : PSet X rSetLN := fun pins s σ H o i v ov iv u Q I r1 r2 r3 ⟨p, xs, k, j, e1, e2, h, z, q⟩ => set_list pins s σ H o i v ov iv u Q I r1 r2 r3 ⟨p, xs, k, j, e1, e2, h, z, q _ qb3 qa8⟩
end
section
variable {X : Cx} {k : Nat} {C : Addr} {ps : List Str} {sp : Sp} {dvs : List V} {ds : List Value} {x f : Str} {p pos pos' : Pos} {e o value : Expr} {es : List Expr} {ta tv : TE} {t : TA}
def tMakeN (C : Addr) (sp : Sp) (dvs : List V) (E : XK) (t : TA) : TE := fun σ H Q => t σ H fun vs H1 => ∀ x dx H', Same H1 H' -> H1 x = none -> H' x = some (.ins C dx []) -> sp (.ref x :: (vs ++ dvs)) H' (fun v H2 => v = .non /\ Q (.ref x) H2) E
theorem pe_mkN (D : MkOk X.prog X.w X.K X.mg X.base C k x ps ds sp) (hr : Room (k + 1) X.A) (hg : Gl X x) (hd : Vals dvs ds) (ha : PA X (e :: es) t) (hdb : (x == ("__debug__" : Str)) = false := by decide)
  (he : starEach (e :: es) X.env = (false, eval e X.env) :: starEach es X.env := by rfl) (hpl : (backTo pos (starEach es X.env)).any (·.1) = false := by rfl) : PE X (.Call (.Name x p) (e :: es) [] pos) (tMakeN C sp dvs E0 t) := by
 obtain ⟨f, fd, F, hm, M, hb⟩ := D
 intro pins s σ H Q I h
 refine wpAny_Call_Name_kw (ld_glob I hg hm ?_ hdb)
 refine PySem.W.callWith_K (h₀ := X.base) I.ok.mod.kin M.kp (thn (ha pos pins s σ H _ I h) fun us s1 ⟨vs, H1, I1, r, q⟩ => ⟨I1.kIn, ?_⟩) he hpl
 refine run_make M F hr hb hd pass0 I1 r fun y dx h1 h2 h3 => q y dx _ ?_ h1 qa8
 exact (same_upd h2).trans (same_upd (by rw [qau h3.symm]; exact h1))
def sFldN (K : Frag) (ta tv : TE) (f : Str) : TS := fun D σ H => tv σ H fun y H1 => ta σ H1 fun x H2 => ∃ a C dx fs, x = .ref a /\ H2 a = some (.ins C dx fs) /\ Cls K C /\ NoAttr K C f /\ fs.length < 1000 /\
 ∀ H', But a H2 H' -> H' a = some (.ins C dx (putF f y fs)) -> D.nx σ H'
theorem ps_fldN (ha : PE X o ta) (hv : PE X value tv) (hs : swapsWith value (some (.Attribute o f pos')) pos.line X.env = pure false) : PS X (.Assign [.Attribute o f pos'] value pos) (sFldN X.K ta tv f) := by
 intro pins s σ H D I h
 refine plainObj_wpAny_Assign_Attribute (thn (hv pins s σ H _ I h) fun u s1 ⟨y, H1, I1, ry, q⟩ => thn (ha pins s1 σ H1 _ I1 q) fun ov s2 hq__ => ?_) hs
 obtain ⟨x, H2, I2, rx, a, C, dx, fs, ex, ea, c, n, l, q2⟩ := hq__
 subst ex
 obtain rfl : ov = Value.ref a := rx
 exact setattr_ok I2 ea c n l ry fun s3 I3 => ⟨σ, _, I3, q2 _ qb3 qa8⟩
end
theorem for_zipN {K : Frag} {a b : Addr} {xs ys : List V} {g : TG} {tb : TS} {D : Ends} {σ : St} {H : Hp} (Pv : Nat -> St -> Hp -> Prop) (h0 : Pv 0 σ H) (hl : ∀ i σ H, Pv i σ H -> SqL K H a xs /\ SqL K H b ys)
  (hs : ∀ i x y σ H p H', xs[i]? = some x -> ys[i]? = some y -> New H H' p (.tup [x, y]) -> Pv i σ H -> g (.ref p) σ H' fun σ2 H2 => tb { D with nx := Pv (i + 1), ct := Pv (i + 1), bk := D.nx } σ2 H2)
  (hd : ∀ i σ H, i = min xs.length ys.length -> Pv i σ H -> D.nx σ H) :
  ∃ W : Nat -> Nat -> St -> Hp -> Prop, (∃ m, W 0 m σ H) /\ ∀ i m σ H, W i m σ H ->
   ((Itz K a b).stop i H /\ D.nx σ H) \/ ((Itz K a b).go i H /\ ∃ N : St -> Hp -> Prop, (∀ σ' H', N σ' H' -> ∃ m', m' < m /\ W (i + 1) m' σ' H') /\ ∀ x H', (Itz K a b).yld i H x H' -> g x σ H' fun σ2 H2 => tb { D with nx := N, ct := N, bk := D.nx } σ2 H2) :=
 for_zip Pv h0 hl (fun i x y σ H p e1 e2 hn p' => hs i x y σ H p _ e1 e2 (qbd hn) p') hd
theorem lcOk {X : Cx} {scope : Scope} {cl : List (Str × Addr)} (clos : closureFor scope X.env = pure cl) (kind : scope.kind = .function) (nocell : ∀ y ∈ scope.names, y.2 ≠ .cell)
  (names : ∀ y ∈ scope.names, y.2 = .local -> scope.names.lookup y.1 = some .local) (sub : ∀ p ∈ cl, X.env.cells.lookup p.1 = some p.2)
  (has : ((relabel scope X.env).names.all fun y => (y.2 != .cell && y.2 != .free) || (cl.lookup y.1).isSome) = true) : LcOk X scope cl := by
 refine ⟨clos, kind, nocell, names, fun x c e => ?_, fun x h => ?_⟩
 ·have : ∀ l : List (Str × Addr), l.lookup x = some c -> (x, c) ∈ l := fun l => by
   induction l with
   | nil => intro z; simp at z
   | cons p r ih =>
    intro z
    obtain ⟨y, d⟩ := p
    rw [List.lookup_cons] at z
    by_cases q : (x == y) = true
    ·rw [q] at z
     have e1 : x = y := by simpa using q
     have e2 : d = c := Option.some.inj z
     subst e1 e2
     exact List.mem_cons_self
    ·have q' : (x == y) = false := by simpa using q
     rw [q'] at z
     exact List.mem_cons_of_mem _ (ih z)
  exact sub (x, c) (this cl e)
 ·have : ∀ (l : List (Str × NameKind)) (k : NameKind), l.lookup x = some k -> (x, k) ∈ l := fun l k => by
   induction l with
   | nil => intro z; simp at z
   | cons p r ih =>
    intro z
    obtain ⟨y, d⟩ := p
    rw [List.lookup_cons] at z
    by_cases q : (x == y) = true
    ·rw [q] at z
     have e1 : x = y := by simpa using q
     have e2 : d = k := Option.some.inj z
     subst e1 e2
     exact List.mem_cons_self
    ·have q' : (x == y) = false := by simpa using q
     rw [q'] at z
     exact List.mem_cons_of_mem _ (ih z)
  rw [List.all_eq_true] at has
  cases e : cl.lookup x with
  | some c => exact ⟨c, rfl⟩
  | none =>
   rcases h with h | h
   ·have := has _ (this _ _ h)
    rw [e] at this
    simp at this
   ·have := has _ (this _ _ h)
    rw [e] at this
    simp at this
end L2
namespace L2
open PySem PySem.Spec PyProof.Rows
section
variable {X : Cx}
theorem call_sum (hc : X.calm = true) : CallR X (.builtin "sum") (fun xs H Q => ∃ (p : Addr) (ns : List Int), xs = [.ref p] /\ SqL X.K H p (ns.map V.int) /\ Q (.int ns.sum) H) := by
 intro pins s σ H xs us Q I r h
 obtain ⟨p, ns, rfl, hq, q⟩ := h
 obtain ⟨u, rfl, ru⟩ := vals1 r
 cases (show u = Value.ref p from ru)
 obtain ⟨its, rv, pl, hz⟩ := I.list hq
 have hi : IntsAre its ns := L2.intsAre_of rv
 have hn := hi.numsOf
 obtain ⟨ys, e⟩ := hi.allInts.items
 have hl := pl.isList
 rw [e] at hl
 refine sum_intListG (I.ok.hd hc) hl fun h' tk t' hk => ⟨.int ns.sum, H, I.kept hk, ⟨t', ?_⟩, q⟩
 have e3 : its = (intItems ys).toList := by rw [<- e]
 rw [e3, nums_intItems] at hn
 rw [preSum_eq, List.take_of_length_le (by simp), hn]
end
end L2
namespace L2
open PySem PySem.Spec PyProof.Rows
def FlT (h : Heap) (e T : Addr) (cls : Value) (dd : Option Addr) (fl : Value) : Prop :=
 ∃ oe vs oT ts, h.get? e = some oe /\ oe.cls = cls /\ oe.dict = dd /\ oe.data = .fields vs /\ vs[1]? = some (.ref T) /\ T ≠ e /\ h.get? T = some oT /\ oT.data = .fields ts /\ ts[3]? = some fl
def Fl0 (h : Heap) (e : Addr) (cls : Value) (dd : Option Addr) : Prop :=
 ∃ oe vs, h.get? e = some oe /\ oe.cls = cls /\ oe.dict = dd /\ oe.data = .fields vs /\ vs[1]? = some .none
def FpX (X : Cx) (H : Hp) (b : Addr) : Prop :=
 H b = none /\ b ≠ X.env.locals /\ b ∉ X.fs /\ X.s₀.heap.get? b = none /\ (∀ x c, X.env.cells.lookup x = some c -> c ≠ b) /\ ∀ p ∈ X.pn, p.1 ≠ b
def Fly (X : Cx) (H : Hp) (h : Heap) (e : Addr) (cls : Value) (dd : Option Addr) : Prop :=
 FpX X H e /\ (Fl0 h e cls dd \/ ∃ T fl, FpX X H T /\ FlT h e T cls dd fl)
abbrev XW := Value -> Option Addr -> St -> Hp -> Prop
def XE (X : Cx) (W : XW) (ev : Value) (s : Shared) : Prop :=
 ∃ e cls dd σ H, ev = .ref e /\ Inv X [] σ H s /\ Fly X H s.heap e cls dd /\ W cls dd σ H
def OnStk (X : Cx) : Prop := X.stack = X.env :: X.outer /\ X.env.frame = some X.env.locals /\ X.ex = []
section
variable {X : Cx} {σ : St} {H : Hp} {s : Shared} {h' : Heap} {M : Model} {A : Around} {E : Value -> Shared -> Prop} {e T : Addr} {cls fl : Value} {dd : Option Addr}
theorem ObjOk.there {P : Program} {w : World} {H : Hp} {h : Heap} {a : Addr} {o : HO} (x : ObjOk P w H h a o) : ∃ u, h.get? a = some u := by
 induction o with
 | lst xs => obtain ⟨_, _, _, _, e⟩ := x; exact ⟨_, e⟩
 | tup xs => obtain ⟨_, _, _, u, e, _⟩ := x; exact ⟨u, e⟩
 | dK kvs => obtain ⟨_, _, _, _, u, _, _, e, _⟩ := x; exact ⟨u, e⟩
 | dT kvs => obtain ⟨_, _, _, _, u, _, _, e, _⟩ := x; exact ⟨u, e⟩
 | set S n => obtain ⟨u, _, _, _, e, _⟩ := x; exact ⟨u, e⟩
 | ins C dx fs => obtain ⟨_, _, _, e, _⟩ := x; exact ⟨_, e⟩
 | own y => exact x
 | xd fs => obtain ⟨_, ⟨u, _, _, e, _⟩, _⟩ := x; exact ⟨u, e⟩
 | met f y => exact ⟨_, x⟩
 | rng lo hi => obtain ⟨_, _, _, e⟩ := x; exact ⟨_, e⟩
 | frz u v _ => obtain ⟨e, _⟩ := x; exact ⟨_, e⟩
 | tbl ps => exact ⟨_, x⟩
 | ext φ => exact x.2.1
theorem Inv.fpX {H' : Hp} {pins : List (Addr × Obj)} (hs : OnStk X) (I : Inv X pins σ H s) (hb : s.heap.get? e = none) (hn : H' e = none) : FpX X H' e := by
 refine ⟨hn, fun z => ?_, fun z => ?_, ?_, fun x c q z => ?_, fun p hp z => ?_⟩
 ·obtain ⟨m, ⟨o, _, _, ho, _⟩, _⟩ := I.loc
  rw [<- z, hb] at ho; cases ho
 ·obtain ⟨_, o, ho, _⟩ := I.funs.mem z
  rw [hb] at ho; cases ho
 ·cases q : X.s₀.heap.get? e with
  | none => rfl
  | some o =>
   obtain ⟨o', ho'⟩ := I.base.there e o q (by rw [hs.2.2]; simp)
   rw [hb] at ho'; cases ho'
 ·obtain ⟨v, o, ho, _⟩ := I.cell x c q
  rw [z, hb] at ho; cases ho
 ·have := (I.pin p (List.mem_append_left _ hp)).1
  rw [z, hb] at this; cases this
theorem Inv.noneOf {pins : List (Addr × Obj)} (I : Inv X pins σ H s) (hb : s.heap.get? e = none) : H e = none := by
 cases q : H e with
 | none => rfl
 | some o =>
  obtain ⟨u, hu⟩ := (I.hok e o q).there
  rw [hb] at hu; cases hu
theorem Inv.turnR {H' : Hp} {t' : Nat} {ch : List Addr} (I : Inv X [] σ H s) (hf : ∀ b ∈ ch, FpX X H b) (k : ∀ b u, b ∉ ch -> b ∉ frs X.stack -> s.heap.get? b = some u -> h'.get? b = some u)
  (k2 : ∀ b u, b ∉ ch -> s.heap.get? b = some u -> ∃ sl, h'.get? b = some { u with slots := sl }) (hH : ∀ b, b ∉ ch -> H' b = H b) (hok : HOk X.prog X.w H' h') : Inv X [] σ H' { s with heap := h', toks := t' } := by
 have sup : ∀ b o, H b = some o -> H' b = some o := fun b o q => by rw [hH b (fun z => by rw [(hf b z).1] at q; cases q)]; exact q
 have nosl : ∀ b, b ≠ X.env.locals -> b ∉ X.fs -> b ∉ frs X.stack := fun b h1 h2 z => (List.mem_cons.mp (I.stkSub b z)).elim h1 h2
 have neL : ∀ b o, X.s₀.heap.get? b = some o -> b ≠ X.env.locals := fun b o q => Nat.ne_of_lt (Nat.lt_of_lt_of_le (Heap.lt_size q) I.ok.above)
 have neC : ∀ b o, X.s₀.heap.get? b = some o -> b ∉ ch := fun b o q hb => by rw [(hf b hb).2.2.2.1] at q; cases q
 have cellK : ∀ x c, X.env.cells.lookup x = some c -> ∀ v, s.heap.IsCell c v -> h'.IsCell c v := fun x c q v ⟨o, ho, hd⟩ => by
  obtain ⟨sl, q'⟩ := k2 c o (fun z => (hf c z).2.2.2.2.1 x c q rfl) ho
  exact ⟨_, q', hd⟩
 refine ⟨I.ok, I.os, I.bare, ⟨fun b o q n hb hx => ?_, fun b o q n hb hx => ?_, fun b o q n hx => ?_, fun b o q hx => ?_, fun b xs q => sup _ _ (I.base.tups b xs q), fun b o xs q => sup _ _ (I.base.frzs b o xs q), fun b ps q => ?_⟩, ?_, fun x c q => ?_, ?_, fun x c q => ?_, fun p hp => ?_, hok, I.len⟩
 ·exact k b o (neC b o q) (nosl b (neL b o q) hb) (I.base.keep b o q n hb hx)
 ·obtain ⟨sl, e1⟩ := I.base.slot b o q n hb hx
  obtain ⟨sl', e2⟩ := k2 b _ (neC b o q) e1
  exact ⟨sl', e2⟩
 ·rw [hH b (neC b o q)]
  exact I.base.free b o q n hx
 ·obtain ⟨o', e1⟩ := I.base.there b o q hx
  obtain ⟨sl', e2⟩ := k2 b _ (neC b o q) e1
  exact ⟨_, e2⟩
 ·obtain ⟨m1, e1⟩ := I.base.tbls b ps q
  exact ⟨m1, sup _ _ e1⟩
 ·obtain ⟨m, hn, hl⟩ := I.loc
  refine ⟨m, ?_, fun i x v e1 e2 e3 => ?_⟩
  ·obtain ⟨o, es, ep, ho, r⟩ := hn
   obtain ⟨sl, q⟩ := k2 _ o (fun z => (hf _ z).2.1 rfl) ho
   exact ⟨_, es, ep, q, r⟩
  ·obtain ⟨u, r, l⟩ := hl i x v e1 e2 e3
   refine ⟨u, r, ?_⟩
   rcases l with l | ⟨kk, c, q, z⟩
   ·exact .inl l
   ·exact .inr ⟨kk, c, q, cellK x c q _ z⟩
 ·obtain ⟨v, z⟩ := I.cell x c q
  exact ⟨v, cellK x c q v z⟩
 ·rw [hH _ (fun z => (hf _ z).2.1 rfl)]; exact I.free
 ·rw [hH _ (fun z => (hf _ z).2.2.2.2.1 x c q rfl)]; exact I.freeC x c q
 ·obtain ⟨q, n, ne, nf, d⟩ := I.pin p hp
  have hp' : p ∈ X.pn := by
   have : p ∈ X.pn ++ ([] : List (Addr × Obj)) := hp
   simpa using this
  have nch : p.1 ∉ ch := fun z => (hf p.1 z).2.2.2.2.2 p hp' rfl
  exact ⟨k p.1 p.2 nch (nosl p.1 ne nf) q, by rw [hH _ nch]; exact n, ne, nf, d⟩
theorem Inv.turnS {t' : Nat} {ch : List Addr} (I : Inv X [] σ H s) (hf : ∀ b ∈ ch, FpX X H b) (k : ∀ b u, b ∉ ch -> b ∉ frs X.stack -> s.heap.get? b = some u -> h'.get? b = some u)
  (k2 : ∀ b u, b ∉ ch -> s.heap.get? b = some u -> ∃ sl, h'.get? b = some { u with slots := sl }) : Inv X [] σ H { s with heap := h', toks := t' } := by
 have nch : ∀ b u, H b = some u -> b ∉ ch := fun b u e z => by rw [(hf b z).1] at e; cases e
 have nst : ∀ b u, H b = some u -> b ∉ frs X.stack := fun b u e z => by rw [I.stkFree b z] at e; cases e
 refine I.turnR hf k k2 (fun _ _ => rfl) fun b u e => ?_
 refine (I.hok b u e).stay (fun c v hc q => ?_) (fun _ q => q) fun _ _ q => q
 rcases hc with z | z
 ·subst z; exact k _ v (nch _ u e) (nst _ u e) q
 ·exact k c v (nch c _ z) (nst c _ z) q
theorem entry_ok {oe : Obj} {vs : Array Value} {head : Value} {hadNext : Bool} {Q : Unit -> Shared -> Prop} (hs : OnStk X) (hA : A.frames = some X.stack) (I : Inv X [] σ H s) (hp : FpX X H e)
  (he : s.heap.get? e = some oe) (hc : oe.cls = cls) (hdd : oe.dict = dd) (hd : oe.data = .fields vs) (hsz : 1 < vs.size)
  (k : ∀ h' T, Inv X [] σ H { s with heap := h' } -> FpX X H T -> FlT h' e T cls dd (rawInt X.env.locals) -> Q () { s with heap := h' }) :
  wpAny M A (do let a <- frameOf X.env; let pl <- entryPlaceOf X.env.locals hadNext; let b <- EntryCells.newEntry head a .none (rawInt X.env.locals) .none pl; setField (.ref e) 1 b) Q E s := by
 have hs0 := hs
 obtain ⟨hst, hfr, _⟩ := hs
 have hl := I.stack
 rw [hst] at hl hA
 have hene : e ∉ frs X.stack := fun hm => by
  rcases List.mem_cons.mp (I.stkSub e hm) with z | z
  ·exact hp.2.1 z
  ·exact hp.2.2.1 z
 refine wpAny_bind (wpAny_frameOf_fun hA hl hfr fun h₁ hs₁ => ?_)
 refine wpAny_bind (wpAny_entryPlaceOf fun pl hpl => ?_)
 unfold EntryCells.newEntry newFields
 refine wpAny_bind (wpAny_newObj_type ?_ (hpl.sizeOk5 _ _ _ _ _))
 have S : (X.env :: X.outer).filterMap (·.frame) = frs X.stack := by rw [hst]; rfl
 rw [S] at hs₁
 have he₁ : h₁.get? e = some oe := (hs₁.2.1 e hene).trans he
 generalize hob : ({ cls := .type "traceback", dict := none, data := .fields ([head, .ref X.env.locals, .none, rawInt X.env.locals, .none] ++ (if pl.isEmpty then List.replicate 6 Value.none else pl)).toArray } : Obj) = ob
 have hobd : ob.data = .fields ([head, .ref X.env.locals, .none, rawInt X.env.locals, .none] ++ (if pl.isEmpty then List.replicate 6 Value.none else pl)).toArray := by rw [<- hob]
 have he₂ := Heap.get?_push_of_some (h := h₁) ob he₁
 refine wpAny_setField he₂ hd hsz ?_
 have hTe : h₁.objs.size ≠ e := Nat.ne_of_gt (Heap.lt_size he₁)
 have hd₃ := Obj.data_mapFields hd (·.setIfInBounds 1 (Value.ref h₁.objs.size))
 have he₃ := Heap.get?_update_self (Obj.mapFields (·.setIfInBounds 1 (Value.ref h₁.objs.size))) he₂ (Obj.isFreed_of_fields hd₃)
 have hT₃ := (Heap.get?_update_other (h₁.push ob) (Obj.mapFields (·.setIfInBounds 1 (Value.ref h₁.objs.size))) (Ne.symm hTe)).trans (Heap.get?_push_size h₁ (by rw [<- hob]; rfl))
 have kk : ∀ b o, b ≠ e -> h₁.get? b = some o -> ((h₁.push ob).update e (Obj.mapFields (·.setIfInBounds 1 (Value.ref h₁.objs.size)))).get? b = some o := fun b o hb q => by
  rw [Heap.get?_update_other _ _ (Ne.symm hb)]
  exact Heap.get?_push_of_some _ q
 refine k _ h₁.objs.size (I.turnS (t' := s.toks) (ch := [e]) (fun b hb => by rw [List.mem_singleton.mp hb]; exact hp) (fun b u hb hn q => ?_) fun b u hb q => ?_) (I.fpX hs0 (by rw [hs₁.1]; exact Heap.get?_none_of_le (Nat.le_refl _)) (I.hok.fresh (by rw [hs₁.1]; exact Nat.le_refl _))) ?_
 ·exact kk b u (fun z => hb (by simp [z])) ((hs₁.2.1 b hn).trans q)
 ·obtain ⟨sl, q'⟩ := hs₁.2.2 b u q
  exact ⟨sl, kk b _ (fun z => hb (by simp [z])) q'⟩
 ·refine ⟨_, _, _, _, he₃, (Obj.cls_mapFields _ _).trans hc, ?_, hd₃, by simp [hsz], hTe, hT₃, hobd, by simp⟩
  rw [<- hdd]
  obtain ⟨c9, d9, dt9, sl9⟩ := oe
  cases dt9 <;> rfl
theorem note_ok {Q : Unit -> Shared -> Prop} (hs : OnStk X) (hA : A.frames = some X.stack) (I : Inv X [] σ H s) (F : Fly X H s.heap e cls dd)
  (k : ∀ h' T, Inv X [] σ H { s with heap := h' } -> FpX X H T -> FlT h' e T cls dd (rawInt X.env.locals) -> Q () { s with heap := h' }) : wpAny M A (noteFrame (.ref e) X.env) Q E s := by
 obtain ⟨hp, F⟩ := F
 unfold noteFrame
 simp only [hs.2.1]
 rcases F with ⟨oe, vs, he, hc, hdd, hd, h1⟩ | ⟨T, fl, hT, oe, vs, oT, ts, he, hc, hdd, hd, h1, hTe, hoT, hdT, h3⟩
 ·refine wpAny_bind (wpAny_field he hd h1 ?_)
  rw [if_neg (by decide)]
  exact entry_ok hs hA I hp he hc hdd hd (Array.getElem?_eq_some_iff.mp h1).1 k
 ·refine wpAny_bind (wpAny_field he hd h1 ?_)
  rw [if_pos (show (Value.ref T != Value.none) = true from by simp)]
  refine wpAny_bind (wpAny_field hoT hdT h3 ?_)
  by_cases hfl : (fl == rawInt X.env.locals) = true
  ·rw [if_pos hfl]
   have := k s.heap T I hT ⟨oe, vs, oT, ts, he, hc, hdd, hd, h1, hTe, hoT, hdT, by rw [h3, beq_iff_eq.mp hfl]⟩
   exact wpAny_pure this
  ·rw [if_neg hfl]
   refine wpAny_bind (wpAny_setField hoT hdT (Array.getElem?_eq_some_iff.mp h3).1 ?_)
   have other : ∀ b, b ≠ T -> (s.heap.update T (Obj.mapFields (·.setIfInBounds 3 Value.none))).get? b = s.heap.get? b := fun b hb => Heap.get?_update_other _ _ (Ne.symm hb)
   have I2 : Inv X [] σ H { s with heap := s.heap.update T (Obj.mapFields (·.setIfInBounds 3 Value.none)) } :=
    I.turnS (t' := s.toks) (ch := [T]) (fun b hb => by rw [List.mem_singleton.mp hb]; exact hT) (fun b u hb _ q => (other b (fun z => hb (by simp [z]))).trans q) fun b u hb q => ⟨u.slots, (other b (fun z => hb (by simp [z]))).trans q⟩
   exact entry_ok hs hA I2 hp ((other e (Ne.symm hTe)).trans he) hc hdd hd (Array.getElem?_eq_some_iff.mp h1).1 k
theorem flight_ok {Q : Unit -> Shared -> Prop} (fr : Option Addr) (I : Inv X [] σ H s) (hT : FpX X H T) (F : FlT s.heap e T cls dd fl)
  (k : ∀ h', Inv X [] σ H { s with heap := h' } -> FlT h' e T cls dd (fr.elim .none fun f => rawInt f) -> Q () { s with heap := h' }) : wpAny M A (setFlight (.ref e) fr) Q E s := by
 obtain ⟨oe, vs, oT, ts, he, hc, hdd, hd, h1, hTe, hoT, hdT, h3⟩ := F
 have hsz3 : 3 < ts.size := (Array.getElem?_eq_some_iff.mp h3).1
 have other : ∀ b, b ≠ T -> (s.heap.update T (Obj.mapFields (·.setIfInBounds 3 (fr.elim .none fun f => rawInt f)))).get? b = s.heap.get? b := fun b hb => Heap.get?_update_other _ _ (Ne.symm hb)
 unfold setFlight
 refine wpAny_bind (wpAny_field he hd h1 ?_)
 rw [if_pos (show (Value.ref T != Value.none) = true from by simp)]
 refine wpAny_setField hoT hdT hsz3 (k _ ?_ ?_)
 ·exact I.turnS (t' := s.toks) (ch := [T]) (fun b hb => by rw [List.mem_singleton.mp hb]; exact hT) (fun b u hb _ q => (other b (fun z => hb (by simp [z]))).trans q) fun b u hb q => ⟨u.slots, (other b (fun z => hb (by simp [z]))).trans q⟩
 ·exact ⟨oe, vs, _, _, (other e (Ne.symm hTe)).trans he, hc, hdd, hd, h1, hTe, Heap.get?_update_self _ hoT (Obj.isFreed_of_fields (Obj.data_mapFields hdT _)), Obj.data_mapFields hdT _, by simp [hsz3]⟩
theorem passes_own {W : XW} (hs : OnStk X) : PassesOwn (model X.prog X.w) X.A X.env (XE X W) := by
 rintro ev s ⟨e, cls, dd, σ, H, rfl, I, F, hw⟩
 refine note_ok hs I.ok.frames I F fun h1 T I1 hT F1 => ?_
 unfold cameBackBy
 obtain ⟨oe, vs, oT, ts, he, hc, hdd, hd, h1', hTe, hoT, hdT, h3⟩ := id F1
 refine wpAny_bind (wpAny_field he hd h1' ?_)
 rw [if_neg (show ¬ (Value.ref T == Value.none) = true from by simp)]
 exact flight_ok _ I1 hT F1 fun h2 I2 F2 => ⟨e, cls, dd, σ, H, rfl, I2, ⟨F.1, .inr ⟨T, _, hT, F2⟩⟩, hw⟩
end
def CX1 (P : Program) (w : World) : CXT := fun outer H s E ev s' => ∃ e T cls dd H', ev = .ref e /\ s'.os = s.os /\ AllBare s'.gens /\ Un (frs outer) [] H H' s.heap s'.heap /\ HOk P w H' s'.heap /\ FlT s'.heap e T cls dd .none /\ H' e = none /\ H' T = none /\
 s.heap.get? e = none /\ s.heap.get? T = none /\ E cls dd H'
theorem CX1.xe {X : Cx} {W : XW} {pins : List (Addr × Obj)} {σ : St} {H : Hp} {s s' : Shared} {ev : Value} (hs : OnStk X) (I : Inv X pins σ H s) (h : CX1 X.prog X.w X.stack H s (fun c d H' => W c d σ H') ev s') : XE X W ev s' := by
 obtain ⟨e, T, cls, dd, H', rfl, os, bare, un, hok, F, he, hT, le, lT, q⟩ := h
 have J : Inv X [] σ H s := I.pins_of (by simp)
 have J' : Inv X [] σ H' s' := by
  obtain ⟨hh, g, d, t, os'⟩ := s'
  obtain rfl : os' = s.os := os
  exact J.call (h' := hh) (g' := g) (d' := d) (t' := t) (ch := []) un hok bare (fun b z => absurd z (by simp))
 exact ⟨e, cls, dd, σ, H', rfl, J', ⟨J.fpX hs le he, .inr ⟨T, _, J.fpX hs lT hT, F⟩⟩, q⟩
theorem xe_out {P : Program} {w : World} {K : Frag} {mg : Str -> Option Value} {base : Heap} {N : List Str} {qual : Str} {scope : Scope} {f : Addr} {cd : Value} {A : Around} {outer : List Env} {s : Shared} {H : Hp} {E : XK} {ev : Value} {s' : Shared}
  (h : XE (cxOf (CX1 P w) P w K mg base N qual scope f cd A outer s H E) (fun c d _ H' => E c d H') ev s') : (cxOf (CX1 P w) P w K mg base N qual scope f cd A outer s H E).xe ev s' := by
 obtain ⟨e, cls, dd, σ, H', rfl, I, F, q⟩ := h
 show wpAny _ _ (leaving _ _) _ _ _
 unfold leaving
 refine wpAny_bind (note_ok (X := cxOf (CX1 P w) P w K mg base N qual scope f cd A outer s H E) ⟨rfl, rfl, rfl⟩ I.ok.frames I F fun h1 T I1 hT F1 => ?_)
 refine flight_ok none I1 hT F1 fun h2 I2 F2 => ?_
 exact ⟨e, T, cls, dd, H', rfl, I2.os, I2.bare, I2.base, I2.hok, F2, F.1.1, hT.1, F.1.2.2.2.1, hT.2.2.2.1, q⟩
def Wants (X : Cx) (W : XW) : Prop := OnStk X /\ ∀ ev s, XE X W ev s -> X.xe ev s
theorem XE.unwish {X : Cx} {E : Value -> Shared -> Prop} {W : XW} {ev : Value} {s : Shared} (h : XE (X.wish E) W ev s) : XE X W ev s :=
 let ⟨e, cls, dd, σ, H, q, I, F, w⟩ := h; ⟨e, cls, dd, σ, H, q, I.unwish, F, w⟩
theorem qb0 {X : Cx} {W : XW} (hs : OnStk X) : Wants (X.wish (XE X W)) W := ⟨hs, fun _ _ h => h.unwish⟩
theorem own_wish {X : Cx} {W : XW} (hs : OnStk X) : PassesOwn (model X.prog X.w) X.A X.env (X.wish (XE X W)).xe := passes_own hs
theorem PSs.imp {X : Cx} {E : Value -> Shared -> Prop} {st : List Stmt} {t : TS} (hE : ∀ ev s, E ev s -> X.xe ev s) (h : PSs (X.wish E) st t) : PSs X st t := fun pins s σ H D I hw =>
 wpAny_mono (h pins s σ H D (I.wish _) hw) (fun _ _ q => q.unwish) fun e s z => hE e s z
section
variable {P : Program} {w : World} {K : Frag} {mg : Str -> Option Value} {base : Heap}
abbrev bx (P : Program) (w : World) (K : Frag) (mg : Str -> Option Value) (base : Heap) (N : List Str) (qual : Str) (scope : Scope) (f : Addr) (cd : Value) (A : Around) (outer : List Env) (s : Shared) (H : Hp) (E : XK) : Cx :=
 (cxOf (CX1 P w) P w K mg base N qual scope f cd A outer s H E).wish (XE (cxOf (CX1 P w) P w K mg base N qual scope f cd A outer s H E) (fun c d _ H' => E c d H'))
theorem Fun.okX {x qual : Str} {st : Stmt} {f : Addr} {fd : FuncData} {N ps : List Str} {k : Nat} {sp : Sp} (F : Fun K x qual st f fd) (S : qan N ps (qad st)) (len : ∀ vs H Q E, sp vs H Q E -> vs.length = ps.length)
  (hbody : ∀ (cdv : Value) (A : Around) (outer : List Env) (s : Shared) (H : Hp) (vs : List V) (Q : VK) (E : XK), Room k (A.deeper (envOfC qual (qad st) s.heap.objs.size f cdv)) -> sp vs H Q E ->
   ∃ t, PSs (bx P w K mg base N qual (qad st) f cdv A outer s H E) (qam st) t /\ t { nx := fun _ H' => Q .non H', rt := Q } (start N vs) H) : FnOk P w K mg base (CX1 P w) (k + 1) f fd ps sp := by
 obtain ⟨oc, od, kV, doc, pm, an, cdv, ct, osl, rfl, lk, hcd⟩ := F.ex
 refine fn_of lk hcd S len fun A outer s H vs Q E hr hsp => ?_
 obtain ⟨t, h, q⟩ := hbody cdv A outer s H vs Q E hr hsp
 exact ⟨t, h.imp fun _ _ z => xe_out z, q⟩
end
def DefX (P : Program) (w : World) (K : Frag) (mg : Str -> Option Value) (base : Heap) (k : Nat) (x : Str) (ps : List Str) (ds : List Value) (sp : Sp) : Prop :=
 ∃ f fd, FnOk P w K mg base (CX1 P w) k f fd ps sp /\ mg x = some (.ref f) /\ keepIn K (.ref f) = true /\ Binds K fd ps ds
def tCallX (sp : Sp) (dvs : List V) (W : XW) (t : TA) : TE := fun σ H Q => t σ H fun vs H1 => sp (vs ++ dvs) H1 Q fun c d H' => W c d σ H'
section
variable {X : Cx} {W : XW} {k : Nat} {f C : Addr} {fd : FuncData} {ps : List Str} {sp : Sp} {dvs : List V} {ds : List Value} {x m : Str} {p pos apos : Pos} {e o : Expr} {es : List Expr} {ta : TE} {t : TA}
theorem run_fnX {pins : List (Addr × Obj)} {σ : St} {H : Hp} {s : Shared} {Q : VK} {us : List Value} {vs : List V} (hW : Wants X W) (F : FnOk X.prog X.w X.K X.mg X.base (CX1 X.prog X.w) k f fd ps sp) (hr : Room k X.A) (hb : Binds X.K fd ps ds) (hd : Vals dvs ds)
  (I : Inv X pins σ H s) (r : Vals vs us) (h : sp (vs ++ dvs) H Q fun c d H' => W c d σ H') : wpAny (model X.prog X.w) X.A (call (.ref f) us) (EP X pins σ Q) X.xe s := by
 have r2 : Vals (vs ++ dvs) (us ++ ds) := r.append hd
 have hl : (us ++ ds).length = ps.length := by rw [<- r2.length]; exact F.len _ _ _ _ h
 refine wpAny_call (codeAny_mono (F.run X.A X.stack s H ⟨us, []⟩ (us ++ ds) (vs ++ dvs) Q _ hr I.env0 (hb s us I.kIn hl) r2 h) fun r s' hq => ?_)
 cases r with
 | error e => exact hW.2 _ _ (CX1.xe hW.1 I hq)
 | ok fl =>
  cases fl with
  | ret u => exact I.after hq
  | next => exact False.elim hq
  | brk => exact False.elim hq
  | cont => exact False.elim hq
theorem pe_fnX (hW : Wants X W) (D : DefX X.prog X.w X.K X.mg X.base k x ps ds sp) (hr : Room k X.A) (hg : Gl X x) (hd : Vals dvs ds) (ha : PA X (e :: es) t) (hdb : (x == ("__debug__" : Str)) = false := by decide)
  (he : starEach (e :: es) X.env = (false, eval e X.env) :: starEach es X.env := by rfl) (hpl : (backTo pos (starEach es X.env)).any (·.1) = false := by rfl) : PE X (.Call (.Name x p) (e :: es) [] pos) (tCallX sp dvs W t) := by
 obtain ⟨f, fd, F, hm, hk, hb⟩ := D
 intro pins s σ H Q I h
 refine wpAny_Call_Name_kw (ld_glob I hg hm ?_ hdb)
 refine PySem.W.callWith_K (h₀ := X.base) I.ok.mod.kin hk (thn (ha pos pins s σ H _ I h) fun us s1 ⟨vs, H1, I1, r, q⟩ => ⟨I1.kIn, ?_⟩) he hpl
 exact run_fnX hW F hr hb hd I1 r q
end
def veMro : List Value := [.type "ValueError", .type "Exception", .type "BaseException", .type "object"]
def ExcC (K : Frag) (C : Addr) : Prop := PySem.W.excIn K C veMro "ValueError.__new__" = true
theorem exc_at {K : Frag} {h : Heap} {C : Addr} {bmB : List Value} {newId : String} (X : K.In h) (q : PySem.W.excIn K C bmB newId = true) :
  ∃ bm N nm qn bs hd sn sub ab col dd k0 k1 k2 k3 k5 mN, h.get? C = some (excClassObj nm qn C N bs bm hd sn sub ab col dd k0 k1 k2 k3 k5 newId) /\ h.Ns N mN /\ mN "__init__" = none /\ OwnTail h bmB bm := by
 unfold PySem.W.excIn at q
 split at q
 case h_2 => cases q
 case h_1 dd cd sl ho =>
  split at q
  case h_2 => cases q
  case h_1 C' bm k0 k1 k2 k3 n k5 hm hsl =>
   simp only [Bool.and_eq_true, beq_iff_eq, Bool.not_eq_true'] at q
   obtain ⟨⟨⟨⟨⟨q1, q2⟩, q3⟩, q4⟩, q5⟩, q6⟩ := q
   subst q1 q2
   cases cd with
   | mk nm bs mro ns qn hd sn sub ab col del =>
    cases sl with
    | mk l =>
     have hm' : mro = _ := hm
     have hl' : l = _ := hsl
     have q3' : del = false := q3
     subst hm' hl' q3'
     exact ⟨bm, ns, nm, qn, bs, hd, sn, sub, ab, col, dd, k0, k1, k2, k3, k5, _, X _ _ ho, .of_isNs (PySem.W.isNs_of_in X q5), PySem.W.nsMap_none_of_in X q5 q6, PySem.W.tail_of_in X q4⟩
def tRaise (W : XW) (C : Addr) (t : TA) : TS := fun _ σ H => t σ H fun vs H1 => vs.length <= sizeLine /\ W (.ref C) none σ H1
theorem ns_bk {h h' : Heap} {N : Addr} {m : Str -> Option Value} (k : ∀ b o, h.get? b = some o -> h'.get? b = some o) (n : h.Ns N m) : h'.Ns N m :=
 let ⟨o, es, ep, e, r⟩ := n; ⟨o, es, ep, k _ _ e, r⟩
theorem ps_raise {X : Cx} {W : XW} {C : Addr} {x : Str} {np cpos pos : Pos} {e : Expr} {es : List Expr} {t : TA} (hW : Wants X W) (hc : X.calm = true) (hE : ExcC X.K C) (hg : Gl X x) (hm : X.mg x = some (.ref C)) (ha : PA X (e :: es) t)
  (hdb : (x == ("__debug__" : Str)) = false := by decide) (he : starEach (e :: es) X.env = (false, eval e X.env) :: starEach es X.env := by rfl) (hpl : (backTo cpos (starEach es X.env)).any (·.1) = false := by rfl) :
  PS X (.Raise (some (.Call (.Name x np) (e :: es) [] cpos)) none pos) (tRaise W C t) := by
 intro pins s σ H D I h
 obtain ⟨bm, N, nm, qn, bs, hd, sn, sub, ab, col, dd, k0, k1, k2, k3, k5, mN, hC, hN, hni, hT⟩ := exc_at I.ok.mod.kin hE
 refine wpAny_Raise_call_subU PySem.F.excBase_ValueError (by decide +kernel) PySem.F.excBase_ValueError (C := C) (nm := nm) (q := qn) (N := N) (bs := bs) (hdct := hd) (sn := sn) (sub := sub) (ab := ab) (col := col) (dd := dd) (k0 := k0) (k1 := k1) (k2 := k2) (k3 := k3) (k5 := k5) (hT.hasType (by decide +kernel)) (I.ok.hd hc) (by rw [he]; show (false || (backTo cpos (starEach es X.env)).any (·.1)) = false; rw [hpl]; rfl) hni (ld_glob I hg hm ⟨rfl, ?_⟩ hdb)
 have h2 := ha cpos pins s σ H _ I h
 rw [he] at h2 ⊢
 refine Calls.evalArgs_plain (thn h2 fun us s1 ⟨vs, H1, I1, r, q1, q2⟩ => ⟨rfl, by rw [<- r.length]; exact q1, I1.bk _ _ hC, ns_bk I1.bk hN, hT.keeps I1.bk, fun h' ex hx => hW.2 _ _ ?_⟩)
 obtain ⟨tt, hex, _, _⟩ := hx.there
 have J : Inv X [] σ H1 s1 := I1.pins_of (by simp)
 exact ⟨ex, .ref C, none, σ, H1, rfl, J.kept (t' := s1.toks) hx.keeps, ⟨J.fpX hW.1 hx.new (J.noneOf hx.new), .inl ⟨_, _, hex, rfl, rfl, rfl, rfl⟩⟩, q2⟩
end L2
namespace L2
open PySem PySem.Spec PyProof.Rows
def excO (a : Addr) (cls : Value) (dd : Option Addr) : HO := .ext fun h => ∃ oe vs, h.get? a = some oe /\ oe.cls = cls /\ oe.dict = dd /\ oe.data = .fields vs
abbrev hnd (X : Cx) (e : Addr) : Cx := { X with A := X.A.mark (some (.ref e)), calm := false, xe := fun _ _ => False }
abbrev pnd (X : Cx) (pn : List (Addr × Obj)) : Cx := { X with pn := pn }
section
variable {X : Cx} {pins : List (Addr × Obj)} {σ : St} {H : Hp} {s : Shared} {e : Addr}
theorem Inv.hnd (I : Inv X pins σ H s) (e : Addr) : Inv (hnd X e) pins σ H s :=
 ⟨⟨I.ok.mod, I.ok.kind, I.ok.glob, I.ok.blt, I.ok.above, I.ok.inj, I.ok.has, I.ok.cab, (fun z => nomatch z), I.ok.frames, I.ok.stk, I.ok.exf, I.ok.bs, I.ok.bsz, I.ok.noex, I.ok.exfs, I.ok.funs, I.ok.frf⟩, I.os, I.bare, I.base, I.loc, I.cell, I.free, I.freeC, I.pin, I.hok, I.len⟩
theorem Inv.unhnd (hd : X.calm = true -> X.A.handled = none) (I : Inv (L2.hnd X e) pins σ H s) : Inv X pins σ H s :=
 ⟨⟨I.ok.mod, I.ok.kind, I.ok.glob, I.ok.blt, I.ok.above, I.ok.inj, I.ok.has, I.ok.cab, hd, I.ok.frames, I.ok.stk, I.ok.exf, I.ok.bs, I.ok.bsz, I.ok.noex, I.ok.exfs, I.ok.funs, I.ok.frf⟩, I.os, I.bare, I.base, I.loc, I.cell, I.free, I.freeC, I.pin, I.hok, I.len⟩
theorem Inv.pnd (I : Inv X pins σ H s) : Inv (pnd X (X.pn ++ pins)) [] σ H s :=
 ⟨⟨I.ok.mod, I.ok.kind, I.ok.glob, I.ok.blt, I.ok.above, I.ok.inj, I.ok.has, I.ok.cab, I.ok.hd, I.ok.frames, I.ok.stk, I.ok.exf, I.ok.bs, I.ok.bsz, I.ok.noex, I.ok.exfs, I.ok.funs, I.ok.frf⟩, I.os, I.bare, I.base, I.loc, I.cell, I.free, I.freeC, fun p hp => I.pin p (by
  have : p ∈ (X.pn ++ pins) ++ ([] : List (Addr × Obj)) := hp
  simpa using this), I.hok, I.len⟩
theorem Inv.unpnd (I : Inv (L2.pnd X (X.pn ++ pins)) [] σ H s) : Inv X pins σ H s :=
 ⟨⟨I.ok.mod, I.ok.kind, I.ok.glob, I.ok.blt, I.ok.above, I.ok.inj, I.ok.has, I.ok.cab, I.ok.hd, I.ok.frames, I.ok.stk, I.ok.exf, I.ok.bs, I.ok.bsz, I.ok.noex, I.ok.exfs, I.ok.funs, I.ok.frf⟩, I.os, I.bare, I.base, I.loc, I.cell, I.free, I.freeC, fun p hp => I.pin p (by
  show p ∈ (X.pn ++ pins) ++ ([] : List (Addr × Obj))
  simpa using hp), I.hok, I.len⟩
theorem SP.unpnd {E : Value -> Shared -> Prop} {D : Ends} {f : Flow} {s' : Shared} (h : SP ((L2.pnd X (X.pn ++ pins)).wish E) [] D f s') : SP X pins D f s' := by
 cases f with
 | next => obtain ⟨σ', H', I, q⟩ := h; exact ⟨σ', H', I.unwish.unpnd, q⟩
 | brk => obtain ⟨σ', H', I, q⟩ := h; exact ⟨σ', H', I.unwish.unpnd, q⟩
 | cont => obtain ⟨σ', H', I, q⟩ := h; exact ⟨σ', H', I.unwish.unpnd, q⟩
 | ret u => obtain ⟨v, σ', H', I, r, q⟩ := h; exact ⟨v, σ', H', I.unwish.unpnd, r, q⟩
end
def Hits (K : Frag) (C : Addr) (cls : Value) : Prop := ∃ D, cls = .ref D /\ PySem.W.ktsIn K D "BaseException" = true /\ PySem.W.mroIn K D (.ref C) = some true
theorem mro_of {K : Frag} {h : Heap} {C : Addr} {base : Value} {r : Bool} {nm q : Str} {N : Addr} {bs bm : List Value} {hdct : Bool} {sn : List Str} {sub : List Value} {ab : Bool} {col : Option Bool} {dd : Option Addr} {k0 k1 k2 k3 k5 : Option Value} {newId : String}
  (X : K.In h) (e : PySem.W.mroIn K C base = some r) (hC : h.get? C = some (excClassObj nm q C N bs bm hdct sn sub ab col dd k0 k1 k2 k3 k5 newId)) : (Value.ref C :: bm).contains base = r := by
 unfold PySem.W.mroIn PySem.W.clsIn at e
 split at e
 case h_1 ho =>
  have := X _ _ ho
  rw [hC] at this
  cases this
  simpa using e
 case h_2 => simp at e
theorem excMatches_own {M : Model} {A : Around} {E : Value -> Shared -> Prop} {K : Frag} {s : Shared} {e C D : Addr} {oe : Obj} {Q : Bool -> Shared -> Prop} (X : K.In s.heap) (he : s.heap.get? e = some oe) (hcls : oe.cls = .ref D)
  (hC : PySem.W.ktsIn K C "BaseException" = true) (hD : PySem.W.ktsIn K D "BaseException" = true) (hs : PySem.W.mroIn K D (.ref C) = some true) (hq : Q true s) : wpAny M A (excMatches (.ref e) (.ref C)) Q E s := by
 obtain ⟨nm, qn, N, bs, bm, hdct, sn, sub, ab, col, dd, k0, k1, k2, k3, k5, newId, gC, hb, _⟩ := PySem.W.kts_cls X hC
 obtain ⟨nm', qn', N', bs', bm', hdct', sn', sub', ab', col', dd', k0', k1', k2', k3', k5', newId', gD, hb', _⟩ := PySem.W.kts_cls X hD
 have hcB : (Value.ref C :: bm).contains (.type "BaseException") = true := by rw [List.contains_cons, hb, Bool.or_true]
 have hcC := mro_of X hs gD
 have f := tc_notTuple
 obtain ⟨hp, g, d, tk, os⟩ := s
 unfold excMatches
 repeat (first | (with_reducible refine wpAny_loadPart_at he ?_; rw [hcls]) | with_reducible refine wpAny_loadPart_at gC ?_ | (with_reducible refine wpAny_isSubtype_exc gC ?_; rw [hcB]) | (with_reducible refine wpAny_isSubtype_exc gD ?_; rw [hcC]) | wp_step)
 exact hq
def hEnds (D : Ends) (j : Nat) : Ends := { nx := fun σ H => D.nx (σ.set j none) H, rt := D.rt, bk := fun σ H => D.bk (σ.set j none) H, ct := fun σ H => D.ct (σ.set j none) H }
def hW (K : Frag) (C : Addr) (th : TS) (j : Nat) (D : Ends) : XW := fun cls dd σ H => Hits K C cls /\ ∀ e H', New H H' e (excO e cls dd) -> th (hEnds D j) (σ.set j (some (.ref e))) H'
end L2
namespace L2
open PySem PySem.Spec PyProof.Rows
structure ExcK (K : Frag) (D : Addr) : Prop where
 ga : PySem.W.findIn K (.ref D) "__getattribute__" = some (some (.builtin "BaseException.__getattribute__"))
 gt : PySem.W.findIn K (.ref D) "__getattr__" = some none
 cl : PySem.W.findIn K (.ref D) "__class__" = some (some (.builtin "object.__class__"))
 ob : PySem.W.mroIn K D (.type "object") = some true
 be : PySem.W.mroIn K D (.type "BaseException") = some true
 kt : PySem.W.ktsIn K D "BaseException" = true
section
variable {prog : Program} {w : World} {A : Around} {E : Value -> Shared -> Prop} {s : Shared} {K : Frag} {a D : Addr} {oe : Obj} {vs : Array Value}
end
end L2
namespace L2
open PySem PySem.Spec PyProof.Rows
section
variable {X : Cx}
theorem call_maxL (hc : X.calm = true) : CallR X (.builtin "max") (fun xs H Q => ∃ (p : Addr) (ns : List Int), xs = [.ref p] /\ SqL X.K H p (ns.map V.int) /\ 0 < ns.length /\ ∀ m, m ∈ ns -> (∀ a ∈ ns, a <= m) -> Q (.int m) H) := by
 intro pins s σ H xs us Q I r h
 obtain ⟨p, ns, rfl, hq, hne, q⟩ := h
 obtain ⟨u, rfl, ru⟩ := vals1 r
 cases (show u = Value.ref p from ru)
 obtain ⟨its, rv, pl, hz⟩ := I.list hq
 have hi : IntsAre its ns := L2.intsAre_of rv
 obtain ⟨ys, e⟩ := hi.allInts.items
 have hns : ns = ys.toList.map (·.1) := by rw [<- hi.numsOf, <- nums_intItems, <- e]
 have hl := pl.isList
 rw [e] at hl
 have hsz : 0 < ys.size := by have h3 := hne; rw [hns, List.length_map, Array.length_toList] at h3; exact h3
 refine max_intList (I.ok.hd hc) hl hsz fun v h' tk hv hk => ?_
 obtain ⟨t, rfl⟩ := intItems_at hv
 obtain ⟨h1, h2⟩ := argBest_gt (numAt ys) (ys.size - 1)
 refine ⟨.int _, H, I.kept hk, ⟨t, rfl⟩, q _ ?_ fun a ha => ?_⟩
 ·rw [hns, numAt_eq]; exact getD_mem (by rw [List.length_map, Array.length_toList]; omega)
 ·rw [hns] at ha
  obtain ⟨j, hj, rfl⟩ := mem_getD ha
  rw [List.length_map, Array.length_toList] at hj
  rw [<- numAt_eq]; exact h2 j (by omega)
theorem call_minL (hc : X.calm = true) : CallR X (.builtin "min") (fun xs H Q => ∃ (p : Addr) (ns : List Int), xs = [.ref p] /\ SqL X.K H p (ns.map V.int) /\ 0 < ns.length /\ ∀ m, m ∈ ns -> (∀ a ∈ ns, m <= a) -> Q (.int m) H) := by
 intro pins s σ H xs us Q I r h
 obtain ⟨p, ns, rfl, hq, hne, q⟩ := h
 obtain ⟨u, rfl, ru⟩ := vals1 r
 cases (show u = Value.ref p from ru)
 obtain ⟨its, rv, pl, hz⟩ := I.list hq
 have hi : IntsAre its ns := L2.intsAre_of rv
 obtain ⟨ys, e⟩ := hi.allInts.items
 have hns : ns = ys.toList.map (·.1) := by rw [<- hi.numsOf, <- nums_intItems, <- e]
 have hl := pl.isList
 rw [e] at hl
 have hsz : 0 < ys.size := by have h3 := hne; rw [hns, List.length_map, Array.length_toList] at h3; exact h3
 refine min_intList (I.ok.hd hc) hl hsz fun v h' tk hv hk => ?_
 obtain ⟨t, rfl⟩ := intItems_at hv
 obtain ⟨h1, h2⟩ := argBest_lt (numAt ys) (ys.size - 1)
 refine ⟨.int _, H, I.kept hk, ⟨t, rfl⟩, q _ ?_ fun a ha => ?_⟩
 ·rw [hns, numAt_eq]; exact getD_mem (by rw [List.length_map, Array.length_toList]; omega)
 ·rw [hns] at ha
  obtain ⟨j, hj, rfl⟩ := mem_getD ha
  rw [List.length_map, Array.length_toList] at hj
  rw [<- numAt_eq]; exact h2 j (by omega)
def CallK (X : Cx) (id : String) (ks : List Str) (r : List V -> List V -> Hp -> VK -> Prop) : Prop :=
 ∀ (pins : List (Addr × Obj)) (s : Shared) (σ : St) (H : Hp) (xs zs : List V) (us ws : List Value) (Q : VK), Inv X pins σ H s -> Vals xs us -> Vals zs ws -> r xs zs H Q ->
  wpAny (model X.prog X.w) X.A (call (.builtin id) us (ks.zip ws)) (EP X pins σ Q) X.xe s
def tCBK (r : List V -> List V -> Hp -> VK -> Prop) (t tk : TA) : TE := fun σ H Q => t σ H fun vs H1 => tk σ H1 fun zs H2 => r vs zs H2 Q
theorem pe_callBK {id : String} {ks : List Str} {r : List V -> List V -> Hp -> VK -> Prop} {x : Str} {p pos : Pos} {e : Expr} {es : List Expr} {kws : List Keyword} {t tk : TA} (hc : CallK X id ks r) (hg : Gl X x) (hm : X.mg x = none) (hv : bootBuiltins x = some (.builtin id))
  (ha : PA X (e :: es) t) (hkw : PK X kws tk) (hks : (backToKw pos (keywordEach kws X.env)).filterMap (·.1) = ks := by rfl) (hn : x ≠ "__name__" := by decide) (hdb : (x == ("__debug__" : Str)) = false := by decide)
  (he : backTo pos (starEach (e :: es) X.env) = (false, eval e X.env) :: backTo pos (starEach es X.env) := by rfl) (hpl : (backTo pos (starEach (e :: es) X.env)).any (·.1) = false := by rfl)
  (hall : (backToKw pos (keywordEach kws X.env)).all (·.1.isSome) = true := by rfl) (hkn : (backToKw pos (keywordEach kws X.env)).any (·.1.isNone) = false := by rfl) : PE X (.Call (.Name x p) (e :: es) kws pos) (tCBK r t tk) := by
 intro pins s σ H Q I h
 refine wpAny_Call_Name_kw (ld_blt I hg hm hv ?_ hn hdb)
 refine callWith_kw (thn (ha pos pins s σ H _ I h) fun us s1 ⟨vs, H1, I1, r1, q1⟩ => thn (hkw pos pins s1 σ H1 _ I1 q1) fun ws s2 hq__ => ?_) he hpl hall hkn
 obtain ⟨zs, H2, I2, r2, q2⟩ := hq__
 rw [hks]
 exact hc pins s2 σ H2 vs zs us ws Q I2 r1 r2 q2
end
theorem bt_max : bootBuiltins "max" = some (.builtin "max") := by decide +kernel
theorem bt_min : bootBuiltins "min" = some (.builtin "min") := by decide +kernel
theorem bt_sorted : bootBuiltins "sorted" = some (.builtin "sorted") := by decide +kernel
theorem wants_nox {X : Cx} (hs : OnStk X) : Wants X.nox (fun _ _ _ _ => False) := ⟨hs, fun _ _ ⟨_, _, _, _, _, _, _, _, w⟩ => w⟩
end L2
namespace L2
open PySem PySem.Spec PyProof.Rows
theorem up_same {H H' : Hp} {a : Addr} {o : HO} (s : Same H H') (h : H a = some o) : H' a = some o := s _ _ h
theorem up_new {H H' : Hp} {p a : Addr} {u o : HO} (n : New H H' p u) (h : H a = some o) : H' a = some o := n.same _ _ h
theorem same_by {H H1 H2 : Hp} {p : Addr} {u : HO} (a : Same H H1) (n : New H1 H2 p u) : Same H H2 := a.trans n.same
end L2
namespace L2
open PySem PySem.Spec PyProof.Rows
section
variable {X : Cx} {e e1 : Expr} {te t1 : TE} {pos p2 : Pos}
end
def tCut (J : St -> Hp -> Prop) (t u : TS) : TS := fun D σ H => t { D with nx := J } σ H /\ ∀ σ' H', J σ' H' -> u D σ' H'
theorem pss_cut {X : Cx} {st : Stmt} {rest : List Stmt} {t u : TS} (J : St -> Hp -> Prop) (h1 : PS X st t) (h2 : PSs X rest u) : PSs X (st :: rest) (tCut J t u) := by
 intro pins s σ H D I h
 refine wpAny_execs_cons (thn (h1 pins s σ H { D with nx := J } I h.1) fun f s1 q => ?_)
 cases f with
 | next =>
  obtain ⟨σ', H', I', q⟩ := q
  exact h2 pins s1 σ' H' D I' (h.2 σ' H' q)
 | ret v => exact q
 | brk => exact q
 | cont => exact q
end L2
namespace L2
open PySem PySem.Spec PyProof.Rows
section
variable {prog : Program} {w : World} {A : Around} {R : Result -> Shared -> Prop} {I : Addr} {fp wr : List Addr} {n : Nat} {P : Nat -> Value -> Prop} {St : Nat -> Heap -> Prop} {d : Value}
abbrev dkw (d : Value) : List (Str × Value) := [(Str.ofString "default", d)]
theorem maxD_go (W : Walks prog w A.in1 I fp wr n P St) (bt : Nat -> Nat -> Bool) (hcmp : CmpOf prog w A.in1 .Gt P bt) (S : Addr) (hSf : S ∉ fp) (d : Value) :
  ∀ (k j : Nat) (s : Shared) (vb : Value) (c : Nat), n - (j + 1) = k -> j + 1 <= n -> St (j + 1) s.heap -> P (argBest bt j) vb ->
  s.heap.get? S = some { cls := .type "list", dict := none, data := .seq #[vb, vb] c, slots := #[] } ->
  (∀ v h' tk, P (argBest bt (n - 1)) v -> (∀ b o, b ∉ wr -> b ≠ S -> s.heap.get? b = some o -> h'.get? b = some o) -> R (.ok (.ret v)) { s with heap := h', toks := tk }) ->
  codeAny (model prog w) A (.builtin "max.loop" ⟨[.ref I, .none, .ref S], dkw d⟩) R s
 | k, j, s, vb, c, hk, hj, hst, hPb, hS, hR => by
  have hSw : S ∉ wr := fun h => hSf (W.sub _ h)
  have hname : (toString "max" ++ toString ".loop" : String) = "max.loop" := by decide
  refine codeAny_builtin PySem.F.entry_max_loop ?_
  rw [Around.under_plainId PySem.F.plain_max_loop _]
  show wpAny _ A.in1 (seqItems? (.ref S) >>= _) _ _ s
  refine wpAny_bind (wpAny_seqItems hS rfl ?_)
  show wpAny _ A.in1 (tryCatch (pyNext (.ref I)) _ >>= _) _ _ s
  by_cases hin : j + 1 = n
  ·refine wpAny_bind (wpAny_tryCatch (W.done s _ _ (hin ▸ hst) fun h' tk hk' => ?_))
   have hS' := hk' S _ hSw hS
   show wpAny _ A.in1 (updateSeq S (fun _ => #[]) >>= _) _ _ _
   refine wpAny_bind (wpAny_updateSeq hS' rfl (wpAny_bind (wpAny_letGo (wpAny_pure ?_))))
   exact hR vb _ tk (by rw [<- hin]; exact hPb) fun b o hbw hbS e => (Heap.get?_update_other _ _ (Ne.symm hbS)).trans (hk' b o hbw e)
  ·refine wpAny_bind (wpAny_tryCatch (W.item (j + 1) s _ _ (by omega) hst fun v h' tk hP hst' hk' => ?_))
   have hS' := hk' S _ hSw hS
   show wpAny _ A.in1 (tryCatch (holding [v, v] (richCompare .Gt v vb >>= _)) _ >>= _) _ _ _
   refine wpAny_bind (wpAny_tryCatch (wpAny_holding (wpAny_bind (hcmp (j + 1) (argBest bt j) v vb _ _ _ hP hPb (wpAny_bind (wpAny_holding (wpAny_truthy_bool (wpAny_bind (wpAny_letGo (wpAny_pure ?_))))))))))
   by_cases hb : bt (j + 1) (argBest bt j) = true
   ·rw [hb, if_pos rfl]
    refine wpAny_bind (wpAny_updateSeq hS' rfl (wpAny_bind (wpAny_letGo ?_)))
    rw [hname]
    refine wpAny_pure ⟨plainId_quiet PySem.F.plain_max_loop _, maxD_go W bt hcmp S hSf d (k - 1) (j + 1) _ v _ (by omega) (by omega) (W.frame _ _ _ hst' fun b hbf o e => ?_) (by simp only [argBest, hb, if_true]; exact hP) (Heap.get?_update_self _ hS' rfl) fun v' h'' tk'' hP' hk'' => ?_⟩
    ·exact (Heap.get?_update_other _ _ (fun h : S = b => hSf (by rw [h]; exact hbf))).trans e
    ·exact hR v' h'' tk'' hP' fun b o hbw hbS e => hk'' b o hbw hbS ((Heap.get?_update_other _ _ (Ne.symm hbS)).trans (hk' b o hbw e))
   ·have hb' : bt (j + 1) (argBest bt j) = false := by simpa using hb
    rw [hb', if_neg (by decide)]
    refine wpAny_bind (wpAny_letGo ?_)
    rw [hname]
    exact wpAny_pure ⟨plainId_quiet PySem.F.plain_max_loop _, maxD_go W bt hcmp S hSf d (k - 1) (j + 1) _ vb c (by omega) (by omega) hst' (by simp only [argBest, hb', Bool.false_eq_true, if_false]; exact hPb) hS' fun v' h'' tk'' hP' hk'' =>
     hR v' h'' tk'' hP' fun b o hbw hbS e => hk'' b o hbw hbS (hk' b o hbw e)⟩
 termination_by k => k
 decreasing_by all_goals omega
theorem maxD_first (W : Walks prog w A.in1 I fp wr n P St) (bt : Nat -> Nat -> Bool) (hcmp : CmpOf prog w A.in1 .Gt P bt) (S : Addr) (hSf : S ∉ fp) {s : Shared} {c : Nat} (hst : St 0 s.heap)
  (hS : s.heap.get? S = some { cls := .type "list", dict := none, data := .seq #[] c, slots := #[] })
  (h0 : n = 0 -> ∀ h' tk, (∀ b o, b ∉ wr -> b ≠ S -> s.heap.get? b = some o -> h'.get? b = some o) -> R (.ok (.ret d)) { s with heap := h', toks := tk })
  (hR : 0 < n -> ∀ v h' tk, P (argBest bt (n - 1)) v -> (∀ b o, b ∉ wr -> b ≠ S -> s.heap.get? b = some o -> h'.get? b = some o) -> R (.ok (.ret v)) { s with heap := h', toks := tk }) :
  codeAny (model prog w) A (.builtin "max.loop" ⟨[.ref I, .none, .ref S], dkw d⟩) R s := by
 have hSw : S ∉ wr := fun h => hSf (W.sub _ h)
 have hname : (toString "max" ++ toString ".loop" : String) = "max.loop" := by decide
 refine codeAny_builtin PySem.F.entry_max_loop ?_
 rw [Around.under_plainId PySem.F.plain_max_loop _]
 show wpAny _ A.in1 (seqItems? (.ref S) >>= _) _ _ s
 refine wpAny_bind (wpAny_seqItems hS rfl ?_)
 show wpAny _ A.in1 (tryCatch (pyNext (.ref I)) _ >>= _) _ _ s
 by_cases hn : n = 0
 ·refine wpAny_bind (wpAny_tryCatch (W.done s _ _ (hn ▸ hst) fun h' tk hk' => ?_))
  refine wpAny_bind (wpAny_rule (wpAny_pure ?_))
  exact h0 hn h' tk fun b o hbw _ e => hk' b o hbw e
 ·refine wpAny_bind (wpAny_tryCatch (W.item 0 s _ _ (by omega) hst fun v h' tk hP hst' hk' => ?_))
  have hS' := hk' S _ hSw hS
  show wpAny _ A.in1 (updateSeq S (fun _ => #[v, v]) >>= _) _ _ _
  refine wpAny_bind (wpAny_updateSeq hS' rfl ?_)
  rw [hname]
  refine wpAny_pure ⟨plainId_quiet PySem.F.plain_max_loop _, maxD_go W bt hcmp S hSf d _ 0 _ v _ rfl (by omega) (W.frame _ _ _ hst' fun b hbf o e => ?_) hP (Heap.get?_update_self _ hS' rfl) fun v' h'' tk'' hP' hk'' => ?_⟩
  ·exact (Heap.get?_update_other _ _ (fun h : S = b => hSf (by rw [h]; exact hbf))).trans e
  ·exact hR (by omega) v' h'' tk'' hP' fun b o hbw hbS e => hk'' b o hbw hbS ((Heap.get?_update_other _ _ (Ne.symm hbS)).trans (hk' b o hbw e))
end
theorem args_maxD (a d : Value) : argsOk "max" ⟨[a], dkw d⟩ := by unfold argsOk; kernel_rfl
section
variable {X : Cx}
theorem call_maxD (hc : X.calm = true) : CallK X "max" ["default"] (fun xs zs H Q => ∃ (p : Addr) (ns : List Int) (d : V), xs = [.ref p] /\ zs = [d] /\ SqL X.K H p (ns.map V.int) /\ (ns = [] -> Q d H) /\ ∀ m, m ∈ ns -> (∀ a ∈ ns, a <= m) -> Q (.int m) H) := by
 intro pins s σ H xs zs us ws Q I r rz h
 obtain ⟨p, ns, d, rfl, rfl, hq, q0, q⟩ := h
 obtain ⟨u, rfl, ru⟩ := vals1 r
 obtain ⟨dv, rfl, rd⟩ := vals1 rz
 cases (show u = Value.ref p from ru)
 obtain ⟨its, rv, pl, hz⟩ := I.list hq
 have hi : IntsAre its ns := L2.intsAre_of rv
 obtain ⟨ys, e⟩ := hi.allInts.items
 have hns : ns = ys.toList.map (·.1) := by rw [<- hi.numsOf, <- nums_intItems, <- e]
 have hl := pl.isList
 rw [e] at hl
 have hsz : (intItems ys).size = ys.size := by simp [intItems]
 have hname : (toString "max" ++ toString ".loop" : String) = "max.loop" := by decide
 show wpAny _ _ (call (.builtin "max") [.ref p] (dkw dv)) _ _ _
 refine PyProof.Rows.kmk_tree PySem.F.kind_max PySem.F.plain_max PySem.F.entry_max (args_maxD _ _) ?_
 show wpAny _ X.A.in1 (Builtin.Builtins.bindParams "max" ["key", "default"] 0 ⟨[], dkw dv⟩ >>= _) _ _ s
 refine wpAny_bind (wpAny_of_eq (show Builtin.Builtins.bindParams "max" ["key", "default"] 0 ⟨[], dkw dv⟩ = pure [none, some dv] from rfl) ?_)
 refine wpAny_bind (wpAny_pure ?_)
 refine wpAny_bind (iter_intList hl fun s₂ e2 st hfp hlI => ?_)
 subst e2
 refine wpAny_bind (wpAny_newObj_type ?_)
 rw [hname]
 generalize hg : s.heap.push { cls := Value.type "list_iterator", data := Data.fields #[Value.ref p, Value.int 0 0] } = g at st hfp
 have hfp' : ∀ b ∈ [s.heap.objs.size, p], b < g.objs.size := hfp
 have W := Walks.list (prog := X.prog) (w := X.w) (A := X.A.in1) (I.ok.hd hc) s.heap.objs.size p hlI (intItems ys)
 have kept : ∀ {h' : Heap}, (∀ b o, b ∉ [s.heap.objs.size] -> b ≠ g.objs.size -> (g.push { cls := Value.type "list", dict := none, data := Data.seq #[] 0, slots := #[] }).get? b = some o -> h'.get? b = some o) -> ∀ b o, s.heap.get? b = some o -> h'.get? b = some o := fun hk b o q => by
  have hb : b < s.heap.objs.size := Heap.lt_size q
  have hgs : g.objs.size = s.heap.objs.size + 1 := by rw [<- hg]; exact Heap.size_push ..
  refine hk b o (fun hm => absurd hb (by rw [List.mem_singleton.mp hm]; exact Nat.lt_irrefl _)) (Nat.ne_of_lt (by rw [hgs]; exact Nat.lt_succ_of_lt hb)) (Heap.get?_push_of_some _ ?_)
  rw [<- hg]; exact Heap.get?_push_of_some _ q
 refine wpAny_pure ⟨plainId_quiet PySem.F.plain_max_loop _, ?_⟩
 refine maxD_first (d := dv) W _ (CmpOf.ints_gt (numAt ys) (fun _ _ => intItems_at)) g.objs.size (fun hm => Nat.lt_irrefl _ (hfp' _ hm)) (W.frame _ _ _ st fun b _ o q => Heap.get?_push_of_some _ q) (Heap.get?_push_size _ rfl) (fun hn h' tk hk => ?_) fun hn v h' tk hv hk => ?_
 ·refine ⟨d, H, I.kept (kept hk), rd, q0 ?_⟩
  rw [hsz] at hn
  rw [hns]
  have : ys.toList = [] := List.eq_nil_of_length_eq_zero (by rw [Array.length_toList]; exact hn)
  rw [this]; rfl
 ·rw [hsz] at hn
  have hv' : (intItems ys)[argBest (fun i j => decide (numAt ys i > numAt ys j)) (ys.size - 1)]? = some v := by rw [<- hsz]; exact hv
  obtain ⟨t, rfl⟩ := intItems_at hv'
  obtain ⟨h1, h2⟩ := argBest_gt (numAt ys) (ys.size - 1)
  refine ⟨.int _, H, I.kept (kept hk), ⟨t, rfl⟩, q _ ?_ fun a ha => ?_⟩
  ·rw [hns, numAt_eq]; exact getD_mem (by rw [List.length_map, Array.length_toList]; omega)
  ·rw [hns] at ha
   obtain ⟨j, hj, rfl⟩ := mem_getD ha
   rw [List.length_map, Array.length_toList] at hj
   rw [<- numAt_eq]; exact h2 j (by omega)
end
end L2
namespace L2
open PySem PyProof PyProof.Rows
def Ite (K : Frag) (a : Addr) : It :=
 ⟨fun i H => ∃ xs x, SqL K H a xs /\ xs[i]? = some x,
   fun i H v H' => ∃ p, v = .ref p /\ H p = none /\ ∀ xs x, SqL K H a xs -> xs[i]? = some x -> H' = upd H p (.tup [.int i, x]),
   fun i H => ∃ xs, SqL K H a xs /\ xs.length <= i⟩
theorem n_ie : Value.type "list_iterator" ≠ Value.type "enumerate" := by decide
theorem turn_enum {P : Program} {w : World} {K : Frag} {elts : List Expr} {ek : Nat} {epos : Pos} (a z it : Addr) :
  Turn P w K (.Tuple elts ek epos) (Ite K a) [z, it] z (fun i h => (∃ old, IsEnum h z it i old) /\ h.IsListIter it a i) where
 mem := by simp
 obj := fun i h st c hc => by
  obtain ⟨⟨old, hz⟩, ⟨o1, e1, c1, f1⟩⟩ := st
  simp only [List.mem_cons, List.not_mem_nil, or_false] at hc
  rcases hc with rfl | rfl
  ·exact ⟨_, hz, fun v q => by have q' : Data.fields _ = Data.cell v := q; cases q'⟩
  ·exact ⟨_, e1, fun v q => by rw [f1] at q; cases q⟩
 keep := fun i h h' st k => by
  obtain ⟨⟨old, hz⟩, h1⟩ := st
  exact ⟨⟨old, k z (by simp) _ hz⟩, h1.at fun o e => k it (by simp) o e⟩
 item := by
  intro X hP hw hK hc i pins s σ H E I hf st hg
  subst hP hw hK
  obtain ⟨xs, x, qa, hx⟩ := hg
  obtain ⟨⟨old, hz⟩, h1⟩ := st
  obtain ⟨itsA, rA, pA, zA⟩ := I.list qa
  obtain ⟨u, hu, ru⟩ := rA.get hx
  have dzi : z ≠ it := by
   obtain ⟨o1, e1, c1, f1⟩ := id h1
   exact (qa9 e1 hz (by rw [c1]; exact n_ie)).symm
  refine wpAny_pyNext_enum_item hz h1 pA.isList (x := u) (by simpa using hu) dzi fun h' a1 a2 a3 a4 hk => ?_
  refine ⟨.ref s.heap.objs.size, rfl, wpAny_letOwnedTupleGo_enum a1 fun h'' hz'' sb => ?_⟩
  have lz : z < s.heap.objs.size := Heap.lt_size hz
  have nz : s.heap.objs.size ≠ z := Nat.ne_of_gt lz
  have k2 : ∀ c o, c ∉ [z, it] -> s.heap.get? c = some o -> h''.get? c = some o := fun c o hc e => by
   simp only [List.mem_cons, List.not_mem_nil, or_false, not_or] at hc
   exact sb.extBut _ _ hc.1 (hk c o hc.1 hc.2 e)
  have T2 := sb.extBut _ _ nz a3
  refine ⟨.ref s.heap.objs.size, upd H s.heap.objs.size (.tup [.int i, x]), I.turnedLaid (t' := s.toks + 1) (ch := [z, it]) hf k2 (Nat.le_refl _) ⟨by show 2 <= sizeLine; decide, [.int i s.toks, u], .cons ⟨_, rfl⟩ (.cons ru .nil), _, T2, rfl, _, rfl⟩, rfl, ⟨_, rfl, I.hok.fresh (Nat.le_refl _), fun xs' x' qa' hx' => ?_⟩, ⟨⟨u, by simpa using hz''⟩, a2.extBut sb.extBut dzi.symm⟩, fun b hb => ?_⟩
  ·rw [I.list_inj qa' qa, hx] at hx'
   cases hx'; rfl
  ·have e : b ≠ s.heap.objs.size := fun q => by
    have : ∃ o, s.heap.get? b = some o := by
     simp only [List.mem_cons, List.not_mem_nil, or_false] at hb
     obtain ⟨o1, e1, _⟩ := id h1
     rcases hb with rfl | rfl
     ·exact ⟨_, hz⟩
     ·exact ⟨_, e1⟩
    obtain ⟨o, e⟩ := this
    exact absurd (Heap.lt_size e) (by rw [q]; exact Nat.lt_irrefl _)
   rw [qau e]
   exact (hf b hb).1
 done := by
  intro X hP hw hK hc i pins s σ H E I hf st hg
  subst hP hw hK
  obtain ⟨xs, qa, hx⟩ := hg
  obtain ⟨⟨old, hz⟩, h1⟩ := st
  obtain ⟨itsA, rA, pA, zA⟩ := I.list qa
  have lA := rA.length
  refine wpAny_pyNext_enum_end (I.ok.hd hc) hz h1 pA.isList (by simp; omega) fun h' hk => ⟨rfl, I.turnedL (t' := s.toks) (ch := [z, it]) hf fun c o hc e => ?_⟩
  simp only [List.mem_cons, List.not_mem_nil, or_false, not_or] at hc
  exact hk c o hc.2 e
 self := fun _ _ _ _ _ st h => wpAny_pyIter_enum st.1.choose_spec h
section
variable {X : Cx}
def iEnum (K : Frag) (ta : TA) : TI := fun σ H R => ta σ H fun vs H1 => ∃ a xs, vs = [.ref a] /\ SqL K H1 a xs /\ R (Ite K a) H1
theorem pi_enum {elts : List Expr} {ek : Nat} {epos : Pos} {e1 : Expr} {ta : TA} {p pos : Pos} (hg : Gl X "enumerate") (hm : X.mg "enumerate" = none) (ha : PA X [e1] ta)
  (hs : starEach [e1] X.env = [(false, eval e1 X.env)] := by rfl) :
  PI X (.Tuple elts ek epos) (.Call (.Name "enumerate" p) [e1] [] pos) (iEnum X.K ta) := by
 intro pins s σ H R I h
 refine Call_ (ld_blt I hg hm (show bootBuiltins "enumerate" = some (.type "enumerate") by decide +kernel) (PyProof.Rows.callWith_type1 (thn (ha pos pins s σ H _ I h) fun us s1 hq__ => ?_) hs rfl))
 obtain ⟨vs, H1, I1, r1, q1⟩ := hq__
 obtain ⟨a, xs, rfl, qa, q⟩ := q1
 obtain ⟨u, rfl, ru⟩ := vals1 r1
 cases (show u = Value.ref a from ru)
 obtain ⟨itsA, rA, pA, zA⟩ := I1.list qa
 refine call_enumerate_list pA.isList fun h' hz h1 hsz hk => wpAny_pyIter_enum hz ?_
 refine ⟨s1.heap.objs.size + 1, _, _, _, H1, rfl, I1.kept (t' := s1.toks) hk, turn_enum a _ s1.heap.objs.size, ⟨⟨_, hz⟩, h1⟩, fun c hc => ?_, q⟩
 have e : s1.heap.objs.size <= c := by
  simp only [List.mem_cons, List.not_mem_nil, or_false] at hc
  rcases hc with rfl | rfl
  ·exact Nat.le_add_right _ _
  ·exact Nat.le_refl _
 exact I1.fpOk e (I1.hok.fresh e)
end
theorem for_enumN {K : Frag} {a : Addr} {xs : List V} {g : TG} {tb : TS} {D : Ends} {σ : St} {H : Hp} (Pv : Nat -> St -> Hp -> Prop) (h0 : Pv 0 σ H) (hl : ∀ i σ H, Pv i σ H -> SqL K H a xs)
  (hs : ∀ (i : Nat) x σ H p H', xs[i]? = some x -> New H H' p (.tup [.int i, x]) -> Pv i σ H -> g (.ref p) σ H' fun σ2 H2 => tb { D with nx := Pv (i + 1), ct := Pv (i + 1), bk := D.nx } σ2 H2)
  (hd : ∀ σ H, Pv xs.length σ H -> D.nx σ H) :
  ∃ W : Nat -> Nat -> St -> Hp -> Prop, (∃ m, W 0 m σ H) /\ ∀ i m σ H, W i m σ H ->
   ((Ite K a).stop i H /\ D.nx σ H) \/ ((Ite K a).go i H /\ ∃ N : St -> Hp -> Prop, (∀ σ' H', N σ' H' -> ∃ m', m' < m /\ W (i + 1) m' σ' H') /\ ∀ x H', (Ite K a).yld i H x H' -> g x σ H' fun σ2 H2 => tb { D with nx := N, ct := N, bk := D.nx } σ2 H2) := by
 refine ⟨fun i m σ H => m = xs.length - i /\ i <= xs.length /\ Pv i σ H, ⟨xs.length, by simp, Nat.zero_le _, h0⟩, ?_⟩
 rintro i m σ H ⟨rfl, hi, p⟩
 have qa := hl i σ H p
 by_cases hlt : i < xs.length
 ·refine .inr ⟨⟨xs, xs[i], qa, by simp [hlt]⟩, Pv (i + 1), fun σ' H' p' => ⟨xs.length - (i + 1), by omega, rfl, hlt, p'⟩, fun x H' y => ?_⟩
  obtain ⟨t, rfl, ht, y⟩ := y
  have ea : xs[i]? = some xs[i] := by simp [hlt]
  rw [y xs xs[i] qa ea]
  exact hs i xs[i] σ H t _ ea (qbd ht) p
 ·have e : i = xs.length := by omega
  subst e
  exact .inl ⟨⟨xs, qa, Nat.le_refl _⟩, hd σ H p⟩
end L2
namespace L2
open PySem PySem.Spec PyProof.Rows
section
variable {prog : Program} {w : World} {A : Around} {E : Value -> Shared -> Prop} {s : Shared}
end
section
variable {X : Cx}
end
end L2
namespace L2
open PySem PySem.Spec PyProof.Rows
def RawD (h : Heap) (d : Addr) (es : Array DictEntry) (ep : Nat) : Prop := ∃ o, h.get? d = some o /\ o.ExactDict /\ o.data = .dict es ep
theorem RawD.ty {s : Shared} {d : Addr} {es : Array DictEntry} {ep : Nat} (x : RawD s.heap d es ep) : s.TypeIs (.ref d) "dict" := let ⟨o, a, b, _⟩ := x; ⟨o, a, b.1⟩
theorem RawD.up {h h' : Heap} {d : Addr} {es : Array DictEntry} {ep : Nat} (x : RawD h d es ep) (e : ∀ o, h.get? d = some o -> h'.get? d = some o) : RawD h' d es ep := let ⟨o, a, b⟩ := x; ⟨o, e o a, b⟩
theorem RawD.lt {h : Heap} {d : Addr} {es : Array DictEntry} {ep : Nat} (x : RawD h d es ep) : d < h.objs.size := let ⟨_, a, _⟩ := x; Heap.lt_size a
section
variable {prog : Program} {w : World} {A : Around} {E : Value -> Shared -> Prop} {s : Shared}
abbrev keyIt (d : Addr) (n ep : Nat) : Obj := { cls := .type "dict_keyiterator", data := .fields #[.ref d, .int 0 0, .int n 0, .int ep 0] }
theorem rd_iter {d : Addr} {es : Array DictEntry} {ep : Nat} {Q : Value -> Shared -> Prop} (lo : (d == sysModules) = false) (hm : RawD s.heap d es ep) (hQ : Q (.ref s.heap.objs.size) { s with heap := s.heap.push (keyIt d es.size ep) }) :
  wpAny (model prog w) A (pyIter (.ref d)) Q E s := by
 have ty := hm.ty
 obtain ⟨o, h1, h2, h3⟩ := hm
 refine wpAny_pyIter_slot ty F.slot_dict_iter (wpAny_call_entry F.slot_dict_iter ty F.entry_dict_iter ?_ (F.args_dict_iter_1 _))
 unfold Builtin.«dict.__iter__»; refine wpAny_bind ?_
 unfold Builtin.Dict.dictSlotNone; refine wpAny_bind (wpAny_notOrdered_dict ty ?_)
 show wpAny _ _ (pure (Value.ref d)) _ _ s; refine wpAny_pure ?_
 show wpAny _ _ (Builtin.Dict.showsAll d >>= _) _ _ s; unfold Builtin.Dict.showsAll
 rw [if_neg (by rw [lo]; exact Bool.false_ne_true)]; refine wpAny_bind (wpAny_pure ?_)
 refine wpAny_bind (wpAny_dictEntries h1 h3 ?_); refine wpAny_bind (wpAny_dictEpoch h1 h3 ?_)
 refine wpAny_bind (wpAny_newObj_type (wpAny_pure ⟨_, rfl, "dict_keyiterator", _, ⟨_, Heap.get?_push_size _ rfl, rfl⟩, F.slot_dict_keyiterator_next.lookup, ?_⟩)); simpa [rawInt] using hQ
theorem rd_item {it d : Addr} {i ep : Nat} {es : Array DictEntry} {Q : Option Value -> Shared -> Prop} (hJ : s.heap.IsKeyIter it d i es.size ep) (hm : RawD s.heap d es ep) (hx : i < es.size)
  (hQ : ∀ h', h'.IsKeyIter it d (i + 1) es.size ep -> Heap.SameBut it s.heap h' -> Q (some es[i].key) { s with heap := h' }) : wpAny (model prog w) A (pyNext (.ref it)) Q E s := by
 obtain ⟨o, ho, hc, hd⟩ := id hJ
 obtain ⟨od, h1, h2, h3⟩ := hm
 have ty := hJ.typeIs
 unfold pyNext
 refine wpAny_bind (wpAny_attempt (wpAny_callSpecial?_slot (name := Str.ofString "__next__") ty F.slot_dict_keyiterator_next (wpAny_call_entry F.slot_dict_keyiterator_next ty F.entry_dict_keyiterator_next ?_ (F.args_dict_keyiterator_next_1 _))))
 refine wpAny_bind (wpAny_pure ?_); refine wpAny_bind ?_; refine wpAny_bind ?_
 first | refine wpAny_bind (wpAny_typeNameOfWhole_keyiter ty (wpAny_pure ?_)) | refine wpAny_bind (wpAny_typeNameOf_keyiter ty (wpAny_pure ?_))
 refine wpAny_bind (wpAny_fieldsOf ho hd ?_)
 simp only [show Builtin.Dict_items.ownsTuple "dict_keyiterator" = false by decide, Bool.false_eq_true, if_false]
 show wpAny _ _ (if (Value.ref d == Value.none) = true then _ else _) _ _ s; rw [if_neg (show ¬ ((Value.ref d == Value.none) = true) from Bool.false_ne_true)]
 refine wpAny_bind (wpAny_pure ?_); refine wpAny_bind (wpAny_dictEntries h1 h3 ?_)
 rw [if_neg (by simp)]; refine wpAny_bind (wpAny_pure ?_); refine wpAny_bind (wpAny_dictEpoch h1 h3 ?_); rw [if_neg (by simp)]; refine wpAny_pure ?_
 simp only [show ¬ ((i : Int) < 0) from by omega, if_false, Int.toNat_natCast, Array.getElem?_eq_getElem hx]
 refine wpAny_bind ?_
 first | refine wpAny_bind (wpAny_typeNameOfWhole_keyiter ty (wpAny_pure ?_)) | refine wpAny_bind (wpAny_typeNameOf_keyiter ty (wpAny_pure ?_))
 refine wpAny_bind (wpAny_isOneOf_keyiter ty ?_)
 show wpAny _ _ (setField (.ref it) 1 (rawInt ((i : Int) + 1)) >>= _) _ _ s; refine wpAny_bind (wpAny_setField ho hd (by simp) ?_)
 have hJ' : (s.heap.update it (Obj.mapFields (·.setIfInBounds 1 (rawInt ((i : Int) + 1))))).IsKeyIter it d (i + 1) es.size ep := ⟨_, Heap.get?_update_self _ ho (Obj.isFreed_of_fields (Obj.data_mapFields hd _)), (Obj.cls_mapFields ..).trans hc, by rw [Obj.data_mapFields hd]; simp [rawInt]⟩
 refine wpAny_bind (wpAny_holding ?_); refine wpAny_bind (wpAny_isOneOf_keyiter (s := { s with heap := s.heap.update it (Obj.mapFields (·.setIfInBounds 1 (rawInt ((i : Int) + 1)))) }) hJ'.typeIs ?_)
 show wpAny _ _ (pure es[i].key) _ _ _
 exact wpAny_pure (wpAny_pure ⟨_, rfl, wpAny_pure (hQ _ hJ' (Heap.SameBut.update ..))⟩)
theorem rd_end {it d : Addr} {ep : Nat} {es : Array DictEntry} {Q : Option Value -> Shared -> Prop} (hh : A.handled = none) (hJ : s.heap.IsKeyIter it d es.size es.size ep) (hm : RawD s.heap d es ep)
  (hQ : ∀ h', Heap.ExtBut it s.heap h' -> Q none { s with heap := h' }) : wpAny (model prog w) A (pyNext (.ref it)) Q E s := by
 obtain ⟨o, ho, hc, hd⟩ := id hJ
 obtain ⟨od, h1, h2, h3⟩ := hm
 have ty := hJ.typeIs
 unfold pyNext
 refine wpAny_bind (wpAny_attempt (wpAny_callSpecial?_slot (name := Str.ofString "__next__") ty F.slot_dict_keyiterator_next (wpAny_call_entry F.slot_dict_keyiterator_next ty F.entry_dict_keyiterator_next ?_ (F.args_dict_keyiterator_next_1 _))))
 refine wpAny_bind (wpAny_pure ?_); refine wpAny_bind ?_; refine wpAny_bind ?_
 first | refine wpAny_bind (wpAny_typeNameOfWhole_keyiter ty (wpAny_pure ?_)) | refine wpAny_bind (wpAny_typeNameOf_keyiter ty (wpAny_pure ?_))
 refine wpAny_bind (wpAny_fieldsOf ho hd ?_)
 simp only [show Builtin.Dict_items.ownsTuple "dict_keyiterator" = false by decide, Bool.false_eq_true, if_false]
 show wpAny _ _ (if (Value.ref d == Value.none) = true then _ else _) _ _ s; rw [if_neg (show ¬ ((Value.ref d == Value.none) = true) from Bool.false_ne_true)]
 refine wpAny_bind (wpAny_pure ?_); refine wpAny_bind (wpAny_dictEntries h1 h3 ?_)
 rw [if_neg (by simp)]; refine wpAny_bind (wpAny_pure ?_); refine wpAny_bind (wpAny_dictEpoch h1 h3 ?_); rw [if_neg (by simp)]; refine wpAny_pure ?_
 simp only [show ¬ ((es.size : Int) < 0) from by omega, if_false, Int.toNat_natCast, Array.getElem?_eq_none (Nat.le_refl _)]
 refine wpAny_bind ?_
 first | refine wpAny_bind (wpAny_typeNameOfWhole_keyiter ty (wpAny_pure ?_)) | refine wpAny_bind (wpAny_typeNameOf_keyiter ty (wpAny_pure ?_))
 show wpAny _ _ (setField (.ref it) 0 .none >>= _) _ _ s; refine wpAny_bind (wpAny_setField ho hd (by simp) ?_)
 show wpAny _ _ (newExc (.type "StopIteration") [] >>= _) _ _ _; refine wpAny_bind ?_
 simp only [newExc, newTuple]; refine wpAny_bind (wpAny_newObj_type ?_ (by size_fits))
 refine wpAny_bind (m := firstArgMember _ _) (wpAny_of_eq (a := Value.none) (by first | rfl | (simp only [firstArgMember]; rfl)) ?_); refine wpAny_newObj_type ?_ (by size_fits)
 simp only [raiseNew]; refine wpAny_bind (wpAny_handled ?_); rw [show A.in1.handled = none from hh]; refine wpAny_bind (wpAny_pure (wpAny_throw ?_))
 refine wpAny_bind (wpAny_isInstance (T := "StopIteration") (b := true) ⟨_, Heap.get?_push_size _ rfl, rfl⟩ isSubtype_stop ?_); exact wpAny_pure (hQ _ (((Heap.SameBut.update ..).extBut.push _).push _))
theorem rd_walks (hh : A.handled = none) (J d : Addr) (hne : d ≠ J) (es : Array DictEntry) (ep : Nat) :
  Walks prog w A J [J, d] [J] es.size (fun i v => ∃ e, es[i]? = some e /\ v = e.key) (fun i h => h.IsKeyIter J d i es.size ep /\ RawD h d es ep) where
 sub := fun b hb => by simp at hb; simp [hb]
 frame := fun _ _ _ st hk => ⟨st.1.at fun o e => hk J (by simp) o e, st.2.up fun o e => hk d (by simp) o e⟩
 item := fun i s Q E hi st hQ => by
  refine rd_item st.1 st.2 hi fun h' hJ' hs' => ?_
  exact hQ _ h' s.toks ⟨es[i], by simp [hi], rfl⟩ ⟨hJ', st.2.up fun o e => hs'.extBut d o hne e⟩ fun b o hb e => hs'.extBut b o (fun h => hb (by simp [h])) e
 done := fun s Q E st hQ => rd_end hh st.1 st.2 fun h' he' => hQ h' s.toks fun b o hb e => he' b o (fun h => hb (by simp [h])) e
 self := fun _ _ _ _ st hQ => wpAny_pyIter_keyiter st.1 hQ
theorem rd_src {d : Addr} {es : Array DictEntry} {ep : Nat} (lo : (d == sysModules) = false) : PySem.W.KdlSrc prog w "dict" d d es.size (fun i v => ∃ e, es[i]? = some e /\ v = e.key) (fun h => RawD h d es ep) where
 type := fun _ hm => hm.ty
 there := fun _ hm => ⟨hm.lt, hm.lt⟩
 keep := fun _ _ hm hk => hm.up fun o e => hk d (.inl rfl) o e
 notList := by decide
 notTuple := by decide
 hint := fun _ _ _ _ hm hq => PySem.W.kdl_hint_dict hm.ty hq
 iter := fun _ _ hh hm => ⟨_, _, (fun _ _ hq => rd_iter lo hm hq), rd_walks hh _ d (Nat.ne_of_lt hm.lt) es ep, ⟨⟨_, Heap.get?_push_size _ rfl, rfl, rfl⟩, hm.up fun _ e => Heap.get?_push_of_some _ e⟩⟩
end
end L2
namespace L2
open PySem PySem.Spec PyProof.Rows
section
variable {prog : Program} {w : World} {A : Around} {E : Value -> Shared -> Prop} {s : Shared}
theorem sort_short {a : Addr} {vs : List Value} {n : Nat} {P : Fin -> Shared -> Prop} (ho : s.heap.get? a = some (seqObj "list" vs.toArray n)) (h2 : vs.length < 2)
  (h : P (.done (.ret .none)) { s with heap := sortedHeap s.heap a vs ((vs.toArray.zip vs.toArray).map (·.2)) }) : wpAny (model prog w) A (Builtin.«list.sort» ⟨[.ref a], []⟩) P E s := by
 rw [list_sort_plain]
 have la : a < s.heap.objs.size := Heap.lt_size ho
 refine wpAny_bind (listItems_at ho rfl ?_); refine wpAny_bind (listUpdate_at ho rfl ?_)
 obtain ⟨e1, h1⟩ : ∃ e1, (s.heap.update a (Obj.mapSeq fun _ => #[])).get? a = some (seqObj "list" #[] e1) := ⟨_, get?_update_seq ho (fun _ => #[])⟩
 refine wpAny_bind (seqEpoch_at h1 rfl ?_); refine wpAny_bind (wpAny_newTuple ?_); refine wpAny_bind (wpAny_newList ?_); refine wpAny_holding ?_
 have h6 : (((s.heap.update a (Obj.mapSeq fun _ => #[])).push (seqObj "tuple" vs.toArray 0)).push (seqObj "list" #[] 0)).get? a = some (seqObj "list" #[] e1) := by
  rw [Heap.get?_push_ne _ _ _ (by rw [size_push', Heap.size_update]; exact Nat.ne_of_lt (Nat.lt_succ_of_lt la)), Heap.get?_push_ne _ _ _ (by rw [Heap.size_update]; exact Nat.ne_of_lt la)]; exact h1
 show wpAny (model prog w) A _ P E { s with heap := ((s.heap.update a (Obj.mapSeq fun _ => #[])).push (seqObj "tuple" vs.toArray 0)).push (seqObj "list" #[] 0) }
 dsimp only
 have z2 : vs.toArray.size < 2 := by simpa using h2
 rw [if_pos z2, if_pos z2]; refine wpAny_bind (wpAny_pure ?_)
 rw [StateT.run_pure]; refine wpAny_bind (wpAny_pure ?_); dsimp only
 refine wpAny_bind (seqEpoch_at h6 rfl ?_); refine wpAny_bind (listUpdate_at h6 rfl ?_ (hsz2 := by rw [Array.size_map]; show (pairsOf vs).size <= _; rw [pairsOf_size, sizeLine_eq]; omega))
 simp only [bne_self_eq_false, Bool.false_eq_true, if_false]; exact wpAny_pure h
end
theorem zip_snd (vs : List Value) : (vs.toArray.zip vs.toArray).map (·.2) = vs.toArray := by
 apply Array.ext'
 simpa using List.map_snd_zip (l₁ := vs) (l₂ := vs) (Nat.le_refl _)
section
variable {X : Cx}
end
end L2
namespace L2
open PySem PySem.Spec PyProof.Rows
section
variable {X : Cx} {tg : Expr}
end
section
variable {X : Cx}
def rCatTN (K : Frag) : R2 := fun x y H Q => ∃ a b xs ys, x = .ref a /\ y = .ref b /\ SqT K H a xs /\ SqT K H b ys /\ xs ≠ [] /\ ys ≠ [] /\ xs.length + ys.length <= sizeLine /\ ∀ p H', New H H' p (.tup (xs ++ ys)) -> Q (.ref p) H'
theorem op_catTN : OpR X (binaryOp .Add) (rCatTN X.K) := op_catT.imp fun _ _ _ _ ⟨a, b, xs, ys, e1, e2, h1, h2, z, zy, hz, q⟩ => ⟨a, b, xs, ys, e1, e2, h1, h2, z, hz, fun e => absurd e zy, fun _ p hp => q p _ (qbd hp)⟩
def tDNewN : TE := fun _ H Q => ∀ p H', New H H' p (.dT []) -> Q (.ref p) H'
theorem pe_dnewN {pos : Pos} : PE X (.Dict [] [] pos) tDNewN := fun pins s σ H Q I h => pe_dnewT pins s σ H Q I fun p hp => h p _ (qbd hp)
end
end L2
namespace L2
open PySem PySem.Spec PyProof.Rows
end L2
namespace L2
theorem lq1 {α : Type} {us : List α} (h : us.length = 1) : ∃ a, us = [a] := by
 cases us with
 | nil => cases h
 | cons a r => exact ⟨a, by rw [List.length_eq_zero_iff.mp (Nat.succ.inj h)]⟩
theorem lq2 {α : Type} {us : List α} (h : us.length = 2) : ∃ a0 a1, us = [a0, a1] := by
 cases us with
 | nil => cases h
 | cons a r => obtain ⟨a1, e⟩ := lq1 (Nat.succ.inj h); exact ⟨a, a1, by rw [e]⟩
theorem lq3 {α : Type} {us : List α} (h : us.length = 3) : ∃ a0 a1 a2, us = [a0, a1, a2] := by
 cases us with
 | nil => cases h
 | cons a r => obtain ⟨a1, a2, e⟩ := lq2 (Nat.succ.inj h); exact ⟨a, a1, a2, by rw [e]⟩
theorem lq4 {α : Type} {us : List α} (h : us.length = 4) : ∃ a0 a1 a2 a3, us = [a0, a1, a2, a3] := by
 cases us with
 | nil => cases h
 | cons a r => obtain ⟨a1, a2, a3, e⟩ := lq3 (Nat.succ.inj h); exact ⟨a, a1, a2, a3, by rw [e]⟩
theorem lq5 {α : Type} {us : List α} (h : us.length = 5) : ∃ a0 a1 a2 a3 a4, us = [a0, a1, a2, a3, a4] := by
 cases us with
 | nil => cases h
 | cons a r => obtain ⟨a1, a2, a3, a4, e⟩ := lq4 (Nat.succ.inj h); exact ⟨a, a1, a2, a3, a4, by rw [e]⟩
end L2
namespace L2
open PySem PySem.Spec PyProof.Rows PySem.W
def KW (lt : Nat -> Nat -> Bool) (n : Nat) {α : Type} : KasT α -> (α -> Prop) -> Prop
 | .ret a, Q => Q a
 | .ask i j k, Q => i < n /\ j < n /\ KW lt n (k (lt i j)) Q
theorem KW.bind {lt : Nat -> Nat -> Bool} {n : Nat} {α β : Type} {f : α -> KasT β} {Q : β -> Prop} : ∀ {t : KasT α}, KW lt n t (fun a => KW lt n (f a) Q) -> KW lt n (t.bind f) Q
 | .ret a, h => by rw [KasT.bind.eq_1]; exact h
 | .ask i j k, h => by
  rw [KasT.bind.eq_2]
  exact ⟨h.1, h.2.1, KW.bind h.2.2⟩
theorem KW.mono {lt : Nat -> Nat -> Bool} {n : Nat} {α : Type} {Q Q' : α -> Prop} (hq : ∀ a, Q a -> Q' a) : ∀ {t : KasT α}, KW lt n t Q -> KW lt n t Q'
 | .ret a, h => hq a h
 | .ask i j k, h => ⟨h.1, h.2.1, KW.mono hq h.2.2⟩
theorem KW.run {lt : Nat -> Nat -> Bool} {n : Nat} {α : Type} {Q : α -> Prop} {cmp : Nat -> Nat -> (Bool -> Shared -> Prop) -> Shared -> Prop} {s : Shared} (hc : ∀ i j (C : Bool -> Shared -> Prop), i < n -> j < n -> C (lt i j) s -> cmp i j C s) :
  ∀ {t : KasT α}, KW lt n t Q -> KasT.kasWp cmp t (fun a s' => s' = s /\ Q a) s
 | .ret a, h => by rw [KasT.kasWp.eq_1]; exact ⟨rfl, h⟩
 | .ask i j k, h => by
  rw [KasT.kasWp.eq_2]
  exact hc i j _ h.1 h.2.1 (KW.run hc h.2.2)
structure OrdN (n : Nat) (lt : Nat -> Nat -> Bool) : Prop where
 tot : ∀ i j, i < n -> j < n -> i ≠ j -> lt i j = false -> lt j i = true
 tr : ∀ i j k, i < n -> j < n -> k < n -> lt i j = true -> lt j k = true -> lt i k = true
structure PermA (n : Nat) (p : Array Nat) : Prop where
 sz : p.size = n
 perm : p.toList.Perm (List.range n)
theorem PermA.lt {n : Nat} {p : Array Nat} (h : PermA n p) {x : Nat} (hx : x < n) : p.getD x 0 < n := by
 have hs := h.sz
 rw [Array.getD_eq_getD_getElem?, Array.getElem?_eq_getElem (by omega)]
 have : p[x] ∈ p.toList := by simp
 exact List.mem_range.mp (h.perm.mem_iff.mp this)
theorem PermA.inj {n : Nat} {p : Array Nat} (h : PermA n p) {x y : Nat} (hx : x < n) (hy : y < n) (hne : x ≠ y) : p.getD x 0 ≠ p.getD y 0 := by
 have hs := h.sz
 have nd : p.toList.Nodup := h.perm.nodup_iff.mpr List.nodup_range
 rw [Array.getD_eq_getD_getElem?, Array.getElem?_eq_getElem (by omega), Array.getD_eq_getD_getElem?, Array.getElem?_eq_getElem (by omega)]
 intro e
 have e' : p.toList[x]'(by simpa using by omega) = p.toList[y]'(by simpa using by omega) := by simpa using e
 have pw := List.pairwise_iff_getElem.mp nd
 rcases Nat.lt_or_gt_of_ne hne with h1 | h1
 ·exact pw x y (by simpa using by omega) (by simpa using by omega) h1 e'
 ·exact pw y x (by simpa using by omega) (by simpa using by omega) h1 e'.symm
theorem PermA.of {n : Nat} {p q : Array Nat} (h : PermA n p) (hq : q.Perm p) : PermA n q := by
 have e : q.toList.Perm p.toList := Array.perm_iff_toList_perm.mp hq
 exact ⟨by have := e.length_eq; simpa [h.sz] using this, e.trans h.perm⟩
def Asc (lt : Nat -> Nat -> Bool) (p : Array Nat) (b : Nat) : Prop := ∀ x y, x < y -> y < b -> lt (p.getD x 0) (p.getD y 0) = true
def Dsc (lt : Nat -> Nat -> Bool) (p : Array Nat) (b : Nat) : Prop := ∀ x y, x < y -> y < b -> lt (p.getD y 0) (p.getD x 0) = true
section
variable {lt : Nat -> Nat -> Bool} {n : Nat}
theorem asc_kw (O : OrdN n lt) {p : Array Nat} (hp : PermA n p) : ∀ (f x : Nat), 1 <= x -> x + f <= n -> Asc lt p x -> KW lt n (kas_asc p f x) (fun m => x <= m /\ m <= x + f /\ Asc lt p m /\ (m = x + f \/ lt (p.getD m 0) (p.getD (m - 1) 0) = true))
 | 0, x, h1, hx, ha => by rw [kas_asc.eq_1]; exact ⟨Nat.le_refl _, Nat.le_refl _, ha, .inl rfl⟩
 | f + 1, x, h1, hx, ha => by
  rw [kas_asc.eq_2]
  refine ⟨hp.lt (by omega), hp.lt (by omega), ?_⟩
  cases e : lt (p.getD x 0) (p.getD (x - 1) 0) with
  | true => dsimp only; rw [if_pos rfl]; exact ⟨Nat.le_refl _, by omega, ha, .inr e⟩
  | false =>
   dsimp only
   rw [if_neg Bool.false_ne_true]
   have e2 := O.tot _ _ (hp.lt (by omega)) (hp.lt (by omega)) (hp.inj (by omega) (by omega) (by omega)) e
   refine KW.mono (fun m hm => ?_) (asc_kw O hp f (x + 1) (by omega) (by omega) ?_)
   ·obtain ⟨m1, m2, m3, m4⟩ := hm
    exact ⟨by omega, by omega, m3, m4.imp (fun z => by omega) id⟩
   ·intro a b hab hb
    by_cases hbx : b = x
    ·subst hbx
     by_cases hax : a = b - 1
     ·subst hax; exact e2
     ·exact O.tr _ _ _ (hp.lt (by omega)) (hp.lt (by omega)) (hp.lt (by omega)) (ha a (b - 1) (by omega) (by omega)) e2
    ·exact ha a b hab (by omega)
theorem desc_kw (O : OrdN n lt) {p : Array Nat} (hp : PermA n p) : ∀ (f x : Nat), 2 <= x -> x + f <= n -> Dsc lt p x -> KW lt n (kas_desc f p x 0) (fun r => r.1 = p /\ r.2.2 = 0 /\ x <= r.2.1 /\ r.2.1 <= x + f /\ Dsc lt p r.2.1)
 | 0, x, h1, hx, ha => by rw [kas_desc.eq_1]; exact ⟨rfl, rfl, Nat.le_refl _, Nat.le_refl _, ha⟩
 | f + 1, x, h1, hx, ha => by
  rw [kas_desc.eq_2]
  refine ⟨hp.lt (by omega), hp.lt (by omega), ?_⟩
  cases e : lt (p.getD x 0) (p.getD (x - 1) 0) with
  | true =>
   dsimp only
   rw [if_pos rfl, if_neg (by omega)]
   refine KW.mono (fun m hm => ?_) (desc_kw O hp f (x + 1) (by omega) (by omega) ?_)
   ·obtain ⟨m1, m2, m3, m4, m5⟩ := hm
    exact ⟨m1, m2, by omega, by omega, m5⟩
   ·intro a b hab hb
    by_cases hbx : b = x
    ·subst hbx
     by_cases hax : a = b - 1
     ·subst hax; exact e
     ·exact O.tr _ _ _ (hp.lt (by omega)) (hp.lt (by omega)) (hp.lt (by omega)) e (ha a (b - 1) (by omega) (by omega))
    ·exact ha a b hab (by omega)
  | false =>
   dsimp only
   rw [if_neg Bool.false_ne_true]
   have e2 := O.tot _ _ (hp.lt (by omega)) (hp.lt (by omega)) (hp.inj (by omega) (by omega) (by omega)) e
   refine ⟨hp.lt (by omega), hp.lt (by omega), ?_⟩
   rw [e2]
   dsimp only
   rw [if_pos rfl]
   exact ⟨rfl, rfl, Nat.le_refl _, (show x <= x + (f + 1) by omega), ha⟩
theorem rev_perm {p : Array Nat} (hp : PermA n p) (m : Nat) : PermA n (kas_rev p 0 m) := hp.of (mirror_perm _ _ _ _)
theorem rev_get {p : Array Nat} (hp : PermA n p) {m x : Nat} (hm : m <= n) (hx : x < m) : (kas_rev p 0 m).getD x 0 = p.getD (m - 1 - x) 0 := by
 have hs := hp.sz
 unfold kas_rev
 rw [Array.getD_eq_getD_getElem?, Array.getD_eq_getD_getElem?, getElem?_mirror_all (by omega), if_pos ⟨Nat.zero_le _, hx⟩, Nat.zero_add]
theorem count_kw (O : OrdN n lt) {p : Array Nat} (hp : PermA n p) (hn : 2 <= n) : KW lt n (kas_count n p) (fun r => PermA n r.2 /\ 1 <= r.1 /\ r.1 <= n /\ Asc lt r.2 r.1) := by
 rw [kas_count.eq_1]
 refine KW.bind (KW.mono (fun m hm => ?_) (asc_kw O hp (n - 1) 1 (Nat.le_refl _) (by omega) (fun x y h1 h2 => by omega)))
 obtain ⟨m1, m2, m3, m4⟩ := hm
 by_cases hmn : m = n
 ·rw [if_pos (by simpa using hmn)]
  exact ⟨hp, by omega, by omega, m3⟩
 ·rw [if_neg (by simpa using hmn)]
  by_cases h1 : m > 1
  ·rw [if_pos h1]
   refine ⟨hp.lt (by omega), hp.lt (by omega), ?_⟩
   rw [m3 0 (m - 1) (by omega) (by omega)]
   dsimp only
   rw [if_pos rfl]
   exact ⟨hp, by omega, by omega, m3⟩
  ·rw [if_neg h1]
   have em : m = 1 := by omega
   subst em
   have d0 : lt (p.getD 1 0) (p.getD 0 0) = true := by
    rcases m4 with z | z
    ·omega
    ·exact z
   unfold kas_descPart
   refine KW.bind (KW.mono (fun r hr => ?_) (desc_kw O hp (n - (1 + 1)) (1 + 1) (by omega) (by omega) (fun x y h1 h2 => ?_)))
   ·obtain ⟨r1, r2, r3, r4, r5⟩ := hr
    rw [if_neg (by omega), r1]
    unfold kas_tail3
    have hq := rev_perm hp r.2.1
    refine KW.bind (KW.mono (fun m' hm' => ?_) (asc_kw O hq (n - r.2.1) r.2.1 (by omega) (by omega) ?_))
    ·obtain ⟨a1, a2, a3, _⟩ := hm'
     exact ⟨hq, by show 1 <= m'; omega, by show m' <= n; omega, a3⟩
    ·intro x y hxy hy
     rw [rev_get hp (by omega) (by omega), rev_get hp (by omega) hy]
     exact r5 _ _ (by omega) (by omega)
   ·have : x = 0 := by omega
    have : y = 1 := by omega
    subst_vars
    exact d0
theorem place_kw (O : OrdN n lt) {p : Array Nat} (hp : PermA n p) {k : Nat} (hk : k < n) (ha : Asc lt p k) : ∀ (f lo hi : Nat), lo <= hi -> hi <= k -> hi - lo <= f -> (∀ j, j < lo -> lt (p.getD j 0) (p.getD k 0) = true) -> (∀ j, hi <= j -> j < k -> lt (p.getD k 0) (p.getD j 0) = true) ->
  KW lt n (kas_place p k f lo hi) (fun l => l <= k /\ (∀ j, j < l -> lt (p.getD j 0) (p.getD k 0) = true) /\ ∀ j, l <= j -> j < k -> lt (p.getD k 0) (p.getD j 0) = true)
 | 0, lo, hi, h1, h2, h3, h4, h5 => by
  rw [kas_place.eq_1]
  exact ⟨by omega, h4, fun j hj => h5 j (by omega)⟩
 | f + 1, lo, hi, h1, h2, h3, h4, h5 => by
  rw [kas_place.eq_2]
  by_cases hlt : lo ≥ hi
  ·rw [if_pos hlt]
   exact ⟨by omega, h4, fun j hj => h5 j (by omega)⟩
  ·rw [if_neg hlt]
   refine ⟨hp.lt hk, hp.lt (by omega), ?_⟩
   cases e : lt (p.getD k 0) (p.getD ((lo + hi) / 2) 0) with
   | true =>
    dsimp only
    rw [if_pos rfl]
    refine place_kw O hp hk ha f lo ((lo + hi) / 2) (by omega) (by omega) (by omega) h4 fun j hj hjk => ?_
    by_cases hj2 : j = (lo + hi) / 2
    ·rw [hj2]; exact e
    ·exact O.tr _ _ _ (hp.lt hk) (hp.lt (by omega)) (hp.lt (by omega)) e (ha _ j (by omega) hjk)
   | false =>
    dsimp only
    rw [if_neg Bool.false_ne_true]
    have e2 := O.tot _ _ (hp.lt hk) (hp.lt (by omega)) (hp.inj hk (by omega) (by omega)) e
    refine place_kw O hp hk ha f ((lo + hi) / 2 + 1) hi (by omega) h2 (by omega) (fun j hj => ?_) h5
    by_cases hj2 : j = (lo + hi) / 2
    ·rw [hj2]; exact e2
    ·exact O.tr _ _ _ (hp.lt (by omega)) (hp.lt (by omega)) (hp.lt hk) (ha j _ (by omega) (by omega)) e2
theorem bin_kw (O : OrdN n lt) : ∀ (f : Nat) (p : Array Nat) (k : Nat), PermA n p -> 1 <= k -> k + f = n -> Asc lt p k -> KW lt n (kas_bin f p k) (fun q => PermA n q /\ Asc lt q n)
 | 0, p, k, hp, h1, hk, ha => by
  rw [kas_bin.eq_1]
  have : k = n := by omega
  subst this
  exact ⟨hp, ha⟩
 | f + 1, p, k, hp, h1, hk, ha => by
  rw [kas_bin.eq_2]
  have hkn : k < n := by omega
  have hs := hp.sz
  refine KW.bind (KW.mono (fun l hl => ?_) (place_kw O hp hkn ha k 0 k (Nat.zero_le _) (Nat.le_refl _) (by omega) (fun j hj => by omega) (fun j h1 h2 => by omega)))
  obtain ⟨l1, l2, l3⟩ := hl
  have hq : PermA n (bubble p k (k - l)) := hp.of (bubble_perm _ _ _)
  refine bin_kw O f _ (k + 1) hq (by omega) (by omega) ?_
  have hg : ∀ x, (bubble p k (k - l)).getD x 0 = if x = l then p.getD k 0 else if l < x /\ x <= k then p.getD (x - 1) 0 else p.getD x 0 := fun x => by
   rw [Array.getD_eq_getD_getElem?, getElem?_bubble (by omega) (k - l) (by omega), show k - (k - l) = l by omega]
   split
   ·rw [Array.getD_eq_getD_getElem?]
   ·split <;> rw [Array.getD_eq_getD_getElem?]
  intro x y hxy hy
  rw [hg, hg]
  by_cases hx : x = l
  ·rw [if_pos hx, if_neg (by omega), if_pos ⟨by omega, by omega⟩]
   exact l3 _ (by omega) (by omega)
  ·rw [if_neg hx]
   by_cases hy2 : y = l
   ·rw [if_pos hy2, if_neg (by omega)]
    exact l2 _ (by omega)
   ·rw [if_neg hy2]
    split
    ·rw [if_pos ⟨by omega, by omega⟩]
     exact ha _ _ (by omega) (by omega)
    ·split
     ·exact ha _ _ (by omega) (by omega)
     ·exact ha _ _ hxy (by omega)
theorem sort_kw (O : OrdN n lt) (hn : 2 <= n) : KW lt n (kas_sort n) (fun q => PermA n q /\ Asc lt q n) := by
 unfold kas_sort
 have hp : PermA n (List.range n).toArray := ⟨by simp, by simp⟩
 refine KW.bind (KW.mono (fun r hr => ?_) (count_kw O hp hn))
 obtain ⟨r1, r2, r3, r4⟩ := hr
 by_cases h : r.1 < n
 ·rw [if_pos h, Nat.max_eq_left r2]
  exact bin_kw O _ _ _ r1 r2 (by omega) r4
 ·rw [if_neg h]
  have e : r.1 = n := by omega
  rw [e] at r4
  exact ⟨r1, r4⟩
end
end L2
namespace L2
open PySem PySem.Spec PyProof.Rows PySem.W
def blt : List Int -> List Int -> Bool
 | [], [] => false
 | [], _ :: _ => true
 | _ :: _, [] => false
 | a :: r, b :: t => if a = b then blt r t else decide (a < b)
theorem blt_tot : ∀ (k l : List Int), k ≠ l -> blt k l = false -> blt l k = true
 | [], [], h, _ => absurd rfl h
 | [], _ :: _, _, h => by simp [blt] at h
 | _ :: _, [], _, _ => rfl
 | a :: r, b :: t, h, e => by
  unfold blt at e ⊢
  by_cases hab : a = b
  ·subst hab
   rw [if_pos rfl] at e ⊢
   exact blt_tot r t (fun z => h (by rw [z])) e
  ·rw [if_neg hab] at e
   rw [if_neg (fun z => hab z.symm)]
   simp at e ⊢
   omega
theorem blt_tr : ∀ (k l m : List Int), blt k l = true -> blt l m = true -> blt k m = true
 | [], [], _, h, _ => by simp [blt] at h
 | _ :: _, [], _, h, _ => by simp [blt] at h
 | [], _ :: _, [], _, h => by simp [blt] at h
 | _ :: _, _ :: _, [], _, h => by simp [blt] at h
 | [], _ :: _, _ :: _, _, _ => rfl
 | a :: r, b :: t, c :: u, h1, h2 => by
  unfold blt at h1 h2 ⊢
  by_cases hab : a = b
  ·subst hab
   rw [if_pos rfl] at h1
   by_cases hbc : a = c
   ·subst hbc
    rw [if_pos rfl] at h2 ⊢
    exact blt_tr r t u h1 h2
   ·rw [if_neg hbc] at h2 ⊢
    exact h2
  ·rw [if_neg hab] at h1
   by_cases hbc : b = c
   ·subst hbc
    rw [if_neg hab]
    exact h1
   ·rw [if_neg hbc] at h2
    simp at h1 h2
    rw [if_neg (by omega)]
    simp; omega
theorem blt_irr : ∀ k : List Int, blt k k = false
 | [] => rfl
 | a :: r => by unfold blt; rw [if_pos rfl]; exact blt_irr r
def ltK (ks : List (List Int)) (i j : Nat) : Bool := blt (ks.getD i []) (ks.getD j [])
theorem ordK (ks : List (List Int)) (nd : ks.Nodup) : OrdN ks.length (ltK ks) where
 tot := fun i j hi hj hne e => by
  refine blt_tot _ _ (fun z => ?_) e
  rw [List.getD_eq_getElem?_getD, List.getD_eq_getElem?_getD, List.getElem?_eq_getElem hi, List.getElem?_eq_getElem hj] at z
  have pw := List.pairwise_iff_getElem.mp nd
  rcases Nat.lt_or_gt_of_ne hne with h | h
  ·exact pw i j hi hj h z
  ·exact pw j i hj hi h z.symm
 tr := fun i j k _ _ _ h1 h2 => blt_tr _ _ _ h1 h2
def TupV (h : Heap) (v : Value) (k : List Int) : Prop := ∃ b o xs e, v = .ref b /\ h.get? b = some o /\ o.cls = .type "tuple" /\ o.data = .seq xs e /\ Vals (k.map V.int) xs.toList
section
variable {prog : Program} {w : World} {A : Around} {E : Value -> Shared -> Prop} {s : Shared}
theorem lex_ints {b fin : Bool} {Q : Bool -> Shared -> Prop} : ∀ (k l : List Int) (us ws : List Value) (i : Nat), Vals (k.map V.int) us -> Vals (l.map V.int) ws -> fin = decide (k.length < l.length) -> Q (blt k l) s -> KatLex prog w A b fin Q (us.zip ws) i s
 | [], l, us, ws, i, hu, hw, hf, q => by
  cases us with
  | cons _ _ => exact absurd hu.length (by simp)
  | nil =>
   rw [List.zip_nil_left]
   refine kat_nil ?_
   rw [hf]
   cases l with
   | nil => exact q
   | cons _ _ => exact q
 | x :: k, [], us, ws, i, hu, hw, hf, q => by
  cases ws with
  | cons _ _ => exact absurd hw.length (by simp)
  | nil =>
   rw [List.zip_nil_right]
   refine kat_nil ?_
   rw [hf]
   exact q
 | x :: k, y :: l, us, ws, i, hu, hw, hf, q => by
  cases us with
  | nil => exact absurd hu.length (by simp)
  | cons u us =>
   cases ws with
   | nil => exact absurd hw.length (by simp)
   | cons v ws =>
    rw [List.map_cons] at hu hw
    cases hu with
    | cons hx hu =>
     cases hw with
     | cons hy hw =>
      obtain ⟨t, rfl⟩ := (show ∃ t, u = Value.int x t from hx)
      obtain ⟨t', rfl⟩ := (show ∃ t, v = Value.int y t from hy)
      rw [List.zip_cons_cons]
      refine kat_cons (wpAny_eqBool_int ?_)
      by_cases hxy : x = y
      ·subst hxy
       rw [show (x == x) = true by simp]
       refine kat_yes (lex_ints k l us ws (i + 1) hu hw (by rw [hf]; simp) ?_)
       unfold blt at q
       rwa [if_pos rfl] at q
      ·rw [show (x == y) = false by simpa using hxy]
       unfold blt at q
       rw [if_neg hxy] at q
       refine kat_no ?_
       cases (b && i == 0) with
       | true => exact oneLt_int q
       | false => exact kat_one _ _ (lt_int q)
theorem tup_lt {b : Bool} {Q : Bool -> Shared -> Prop} {x y : Value} {k l : List Int} (hx : TupV s.heap x k) (hy : TupV s.heap y l) (q : Q (blt k l) s) : wpAny (model prog w) A (keyLt' (tuples' b) x y) Q E s := by
 obtain ⟨a, o, xs, e, rfl, h1, h2, h3, h4⟩ := hx
 obtain ⟨a', o', xs', e', rfl, h1', h2', h3', h4'⟩ := hy
 refine kat_lt h1 h3 h1' h3' (lex_ints k l _ _ 0 h4 h4' ?_ q)
 have e1 : k.length = xs.size := by have := h4.length; simpa using this
 have e2 : l.length = xs'.size := by have := h4'.length; simpa using this
 rw [e1, e2]
theorem kat_of {h : Heap} : ∀ {vs : List Value} {ks : List (List Int)}, vs.length = ks.length -> (∀ (i : Nat) v k, vs[i]? = some v -> ks[i]? = some k -> TupV h v k /\ k ≠ []) -> ∃ fs, KatTups h vs fs /\ fs.length = vs.length /\ ∀ v ∈ fs, ∃ i t, v = Value.int i t
 | [], [], _, _ => ⟨[], .nil, rfl, fun v hv => by cases hv⟩
 | v :: vs, k :: ks, hl, H => by
  obtain ⟨fs, f1, f2, f3⟩ := kat_of (vs := vs) (ks := ks) (by simpa using hl) (fun i v k e1 e2 => H (i + 1) v k (by simpa using e1) (by simpa using e2))
  obtain ⟨⟨b, o, xs, e, rfl, h1, h2, h3, h4⟩, hne⟩ := H 0 v k rfl rfl
  cases k with
  | nil => exact absurd rfl hne
  | cons i r =>
   obtain ⟨u, us, eu, hu⟩ : ∃ u us, xs.toList = u :: us /\ RelV (.int i) u := by
    generalize xs.toList = ys at h4
    cases h4 with
    | cons hx _ => exact ⟨_, _, rfl, hx⟩
   obtain ⟨t, rfl⟩ := (show ∃ t, u = Value.int i t from hu)
   refine ⟨Value.int i t :: fs, ?_, by simp [f2], fun v hv => ?_⟩
   ·rw [KatTups.eq_2]
    refine ⟨⟨b, o, xs, e, rfl, h1, h2, h3, ?_⟩, f1⟩
    rw [<- Array.getElem?_toList, eu]; rfl
   ·rcases List.mem_cons.mp hv with h | h
    ·exact ⟨i, t, h⟩
    ·exact f3 v h
theorem sort_tups {a : Addr} {vs : List Value} {n : Nat} {P : Fin -> Shared -> Prop} {ks : List (List Int)} (ho : s.heap.get? a = some (seqObj "list" vs.toArray n)) (h2 : 2 <= vs.length) (h64 : vs.length < 64) (hl : vs.length = ks.length) (nd : ks.Nodup)
  (hT : ∀ (i : Nat) v k, vs[i]? = some v -> ks[i]? = some k -> TupV s.heap v k /\ k ≠ [])
  (h : ∀ p : Array Nat, PermA ks.length p -> Asc (ltK ks) p ks.length -> P (.done (.ret .none)) { s with heap := sortedHeap s.heap a vs (p.map fun i => vs.getD i .none) }) : wpAny (model prog w) A (Builtin.«list.sort» ⟨[.ref a], []⟩) P E s := by
 rw [list_sort_plain]
 have la : a < s.heap.objs.size := Heap.lt_size ho
 refine wpAny_bind (listItems_at ho rfl ?_); refine wpAny_bind (listUpdate_at ho rfl ?_)
 obtain ⟨e1, h1⟩ : ∃ e1, (s.heap.update a (Obj.mapSeq fun _ => #[])).get? a = some (seqObj "list" #[] e1) := ⟨_, get?_update_seq ho (fun _ => #[])⟩
 refine wpAny_bind (seqEpoch_at h1 rfl ?_); refine wpAny_bind (wpAny_newTuple ?_ (by simp only [List.toList_toArray]; rw [sizeLine_eq]; omega)); refine wpAny_bind (wpAny_newList ?_); refine wpAny_holding ?_
 have h6 : (((s.heap.update a (Obj.mapSeq fun _ => #[])).push (seqObj "tuple" vs.toArray 0)).push (seqObj "list" #[] 0)).get? a = some (seqObj "list" #[] e1) := by
  rw [Heap.get?_push_ne _ _ _ (by rw [size_push', Heap.size_update]; exact Nat.ne_of_lt (Nat.lt_succ_of_lt la)), Heap.get?_push_ne _ _ _ (by rw [Heap.size_update]; exact Nat.ne_of_lt la)]; exact h1
 show wpAny (model prog w) A _ P E { s with heap := ((s.heap.update a (Obj.mapSeq fun _ => #[])).push (seqObj "tuple" vs.toArray 0)).push (seqObj "list" #[] 0) }
 obtain ⟨s3, es3⟩ : ∃ s3 : Shared, s3 = { s with heap := ((s.heap.update a (Obj.mapSeq fun _ => #[])).push (seqObj "tuple" vs.toArray 0)).push (seqObj "list" #[] 0) } := ⟨_, rfl⟩
 have hT3 : ∀ (i : Nat) v k, vs[i]? = some v -> ks[i]? = some k -> TupV s3.heap v k /\ k ≠ [] := fun i v k q1 q2 => by
  obtain ⟨⟨b, o, xs, e, rfl, g1, g2, g3, g4⟩, hne⟩ := hT i v k q1 q2
  refine ⟨⟨b, o, xs, e, rfl, ?_, g2, g3, g4⟩, hne⟩
  have hba : b ≠ a := fun z => by
   subst z
   rw [ho] at g1
   cases g1
   have g2' : (Value.type "list" : Value) = Value.type "tuple" := g2
   injection g2' with e'
   exact absurd e' (by decide)
  rw [es3]
  exact Heap.get?_push_of_some _ (Heap.get?_push_of_some _ ((Heap.SameBut.update s.heap a _).extBut b o hba g1))
 obtain ⟨fs, f1, f2, f3⟩ := kat_of hl hT3
 have z2 : ¬ vs.toArray.size < 2 := by simpa using by omega
 dsimp only
 rw [if_neg z2, if_neg z2, <- es3]
 refine wpAny_bind (kat_kind (T := .type "int") f1 (by omega) (fun v hv => ?_) (by decide) ?_)
 ·obtain ⟨i, t, rfl⟩ := f3 v hv
  exact Looks.of_pure rfl
 have hrun := kas_runs (prog := prog) (w := w) (A := A) (E := E) (κ := tuples' true) (it := pairsOf vs) (n := ks.length) (s := s3) (G := fun p s' => s' = s3 /\ PermA ks.length p /\ Asc (ltK ks) p ks.length)
  (Q := fun _ st' s' => s' = s3 /\ failedOf st' = none /\ ∃ p, arrOf st' = p.map (kas_item (pairsOf vs)) /\ PermA ks.length p /\ Asc (ltK ks) p ks.length) (by omega) (by omega)
  (fun p st' s' hz ha hf hG => ⟨hG.1, hf, p, ha, hG.2⟩)
  (KW.run (fun i j C hi hj hC => by
   unfold kas_cmp
   rw [kas_item_eq, kas_item_eq]
   have q1 : vs[i]? = some (vs.getD i .none) := by rw [List.getD_eq_getElem?_getD, List.getElem?_eq_getElem (by omega)]; rfl
   have q2 : vs[j]? = some (vs.getD j .none) := by rw [List.getD_eq_getElem?_getD, List.getElem?_eq_getElem (by omega)]; rfl
   have q3 : ks[i]? = some (ks.getD i []) := by rw [List.getD_eq_getElem?_getD, List.getElem?_eq_getElem hi]; rfl
   have q4 : ks[j]? = some (ks.getD j []) := by rw [List.getD_eq_getElem?_getD, List.getElem?_eq_getElem hj]; rfl
   exact tup_lt (hT3 i _ _ q1 q3).1 (hT3 j _ _ q2 q4).1 hC) (sort_kw (ordK ks nd) (by omega)))
 have est : kas_st (tuples' true) (pairsOf vs) (List.range ks.length).toArray = SortSt.mk' (tuples' true) (vs.toArray.zip vs.toArray) #[] 7 none := by
  unfold kas_st
  have := kas_range (pairsOf vs)
  rw [pairsOf_size, hl] at this
  rw [this]; rfl
 rw [est] at hrun
 show wpAny (model prog w) A (sortRuns'.run (SortSt.mk' (tuples' true) (vs.toArray.zip vs.toArray) #[] 7 none) >>= _) P E s3
 refine wpAny_bind (wpAny_mono hrun (fun r s' hq => ?_) fun _ _ z => z)
 obtain ⟨rfl, hf, p, hp, hq⟩ := hq
 have h6' : s'.heap.get? a = some (seqObj "list" #[] e1) := by rw [es3]; exact h6
 have hz : ((arrOf r.2).map (·.2)).size <= sizeLine := by rw [Array.size_map, hp, Array.size_map, hq.1.sz, sizeLine_eq]; omega
 refine wpAny_bind (seqEpoch_at h6' rfl ?_); refine wpAny_bind (listUpdate_at h6' rfl ?_ (hsz2 := Nat.le_succ_of_le hz))
 rw [hf]
 simp only [bne_self_eq_false, Bool.false_eq_true, if_false]
 refine wpAny_pure ?_
 have := h p hq.1 hq.2
 rw [es3]
 rw [hp, Array.map_map]
 have ef : ((fun x : Keyed => x.2) ∘ kas_item (pairsOf vs)) = fun i => vs.getD i .none := by
  funext i
  show (kas_item (pairsOf vs) i).2 = _
  rw [kas_item_eq]
 rw [ef]
 exact this
end
end L2
namespace L2
open PySem PySem.Spec PyProof.Rows PySem.W
def pick {α : Type} (idx : List Nat) (xs : List α) (d : α) : List α := idx.map fun i => xs.getD i d
theorem pick_range {α : Type} (xs : List α) (d : α) : pick (List.range xs.length) xs d = xs := by
 unfold pick
 apply List.ext_getElem?
 intro i
 rw [List.getElem?_map]
 by_cases h : i < xs.length
 ·rw [List.getElem?_range h, List.getElem?_eq_getElem h]
  simp [List.getD_eq_getElem?_getD, List.getElem?_eq_getElem h]
 ·rw [List.getElem?_eq_none (by simpa using by omega), List.getElem?_eq_none (by omega)]; rfl
theorem pick_perm {α : Type} {idx : List Nat} {xs : List α} {d : α} (h : idx.Perm (List.range xs.length)) : (pick idx xs d).Perm xs := by
 have := h.map (fun i => xs.getD i d)
 have e := pick_range xs d
 unfold pick at e
 rw [e] at this
 exact this
def TupsH (H : Hp) (xs : List V) (ks : List (List Int)) : Prop := Paired (fun v r => ∃ a, v = V.ref a /\ H a = some (.tup (r.map V.int))) xs ks
theorem TupsH.len {H : Hp} : ∀ {xs : List V} {ks : List (List Int)}, TupsH H xs ks -> xs.length = ks.length
 | _, _, .nil => rfl
 | _, _, .cons _ t => by simp [TupsH.len t]
theorem TupsH.get {H : Hp} : ∀ {xs : List V} {ks : List (List Int)} {i : Nat} {x : V} {k : List Int}, TupsH H xs ks -> xs[i]? = some x -> ks[i]? = some k -> ∃ a, x = .ref a /\ H a = some (.tup (k.map V.int))
 | _, _, _, _, _, .nil, e, _ => by simp at e
 | _, _, 0, _, _, .cons r _, e, f => by simp at e f; subst e f; exact r
 | _, _, i + 1, x, k, .cons _ t, e, f => TupsH.get (i := i) t (by simpa using e) (by simpa using f)
theorem TupsH.pick {H : Hp} {xs : List V} {ks : List (List Int)} (h : TupsH H xs ks) : ∀ {idx : List Nat}, (∀ i ∈ idx, i < ks.length) -> TupsH H (pick idx xs .non) (pick idx ks [])
 | [], _ => .nil
 | i :: r, hi => by
  have h0 := hi i List.mem_cons_self
  have hl := h.len
  refine .cons (h.get (i := i) ?_ ?_) (TupsH.pick h fun j hj => hi j (List.mem_cons_of_mem _ hj))
  ·show xs[i]? = some (xs.getD i .non)
   rw [List.getD_eq_getElem?_getD, List.getElem?_eq_getElem (by omega)]; rfl
  ·show ks[i]? = some (ks.getD i [])
   rw [List.getD_eq_getElem?_getD, List.getElem?_eq_getElem h0]; rfl
theorem vals_pick {xs : List V} {vs : List Value} (h : Vals xs vs) : ∀ {idx : List Nat}, (∀ i ∈ idx, i < xs.length) -> Vals (pick idx xs .non) (pick idx vs .none)
 | [], _ => .nil
 | i :: r, hi => by
  have h0 := hi i List.mem_cons_self
  have hl := h.length
  refine .cons ?_ (vals_pick h fun j hj => hi j (List.mem_cons_of_mem _ hj))
  show RelV (xs.getD i .non) (vs.getD i .none)
  rw [List.getD_eq_getElem?_getD, List.getElem?_eq_getElem h0, List.getD_eq_getElem?_getD, List.getElem?_eq_getElem (by omega)]
  exact vals_ix h h0 (by omega)
where
 vals_ix : ∀ {xs : List V} {vs : List Value} {i : Nat}, Vals xs vs -> (h1 : i < xs.length) -> (h2 : i < vs.length) -> RelV xs[i] vs[i]
  | _, _, 0, .cons r _, _, _ => r
  | _, _, i + 1, .cons _ t, h1, h2 => vals_ix (i := i) t (by simpa using h1) (by simpa using h2)
section
variable {prog : Program} {w : World} {A : Around} {E : Value -> Shared -> Prop} {s : Shared}
theorem sort_any {a : Addr} {vs : List Value} {n : Nat} {P : Fin -> Shared -> Prop} {ks : List (List Int)} (ho : s.heap.get? a = some (seqObj "list" vs.toArray n)) (h64 : vs.length < 64) (hl : vs.length = ks.length) (nd : ks.Nodup)
  (hT : ∀ (i : Nat) v k, vs[i]? = some v -> ks[i]? = some k -> TupV s.heap v k /\ k ≠ [])
  (h : ∀ idx : List Nat, idx.Perm (List.range ks.length) -> (pick idx ks []).Pairwise (fun k l => blt k l = true) -> P (.done (.ret .none)) { s with heap := sortedHeap s.heap a vs (pick idx vs .none).toArray }) : wpAny (model prog w) A (Builtin.«list.sort» ⟨[.ref a], []⟩) P E s := by
 by_cases h2 : vs.length < 2
 ·refine sort_short ho h2 ?_
  have := h (List.range ks.length) (.refl _) (by
   rw [pick_range]
   match ks, hl with
   | [], _ => exact .nil
   | [k], _ => exact List.pairwise_singleton _ _
   | _ :: _ :: _, hl => simp at hl; omega)
  rw [<- hl, pick_range] at this
  rw [zip_snd]
  exact this
 ·refine sort_tups ho (by omega) h64 hl nd hT fun p hp ha => ?_
  have e : (p.map fun i => vs.getD i .none) = (pick p.toList vs .none).toArray := by
   apply Array.ext'
   simp [pick]
  rw [e]
  refine h p.toList hp.perm ?_
  rw [List.pairwise_iff_getElem]
  intro i j hi hj hij
  have hs := hp.sz
  have li : i < p.size := by simpa [pick] using hi
  have lj : j < p.size := by simpa [pick] using hj
  have := ha i j hij (by omega)
  unfold ltK at this
  rw [Array.getD_eq_getD_getElem?, Array.getElem?_eq_getElem li, Array.getD_eq_getD_getElem?, Array.getElem?_eq_getElem lj] at this
  simpa [pick] using this
theorem sorted_list {l : Addr} {vs : List Value} {ks : List (List Int)} {Q : Value -> Shared -> Prop} (hL : s.heap.IsList l vs.toArray) (h64 : vs.length < 64) (hl : vs.length = ks.length) (nd : ks.Nodup)
  (hT : ∀ (i : Nat) v k, vs[i]? = some v -> ks[i]? = some k -> TupV s.heap v k /\ k ≠ [])
  (h : ∀ idx : List Nat, idx.Perm (List.range ks.length) -> (pick idx ks []).Pairwise (fun k l => blt k l = true) -> Q (.ref (s.heap.objs.size + 1)) { s with heap := sortedAll s.heap vs (pick idx vs .none).toArray }) : wpAny (model prog w) A (call (.builtin "sorted") [.ref l]) Q E s := by
 refine Calls.call_function_entry kind_sorted plain_sorted entry_sorted (args_sorted1 _) ?_
 unfold Builtin.«sorted»; refine wpAny_bind (m := checkCount "sorted" 1 1 _) (wpAny_pure ?_)
 refine wpAny_bind (collect_list hL ?_ (by rw [sizeLine_eq]; omega))
 refine wpAny_bind (wpAny_newList ?_ (by rw [sizeLine_eq]; omega))
 have hsz : ((s.heap.push (seqObj "list" #[] 0)).update s.heap.objs.size (Obj.mapSeq fun x => x ++ vs.toArray)).objs.size = s.heap.objs.size + 1 := by rw [Heap.size_update, size_push']
 have hS : (((s.heap.push (seqObj "list" #[] 0)).update s.heap.objs.size (Obj.mapSeq fun x => x ++ vs.toArray)).push (seqObj "list" vs.toArray 0)).get? (s.heap.objs.size + 1) = some (seqObj "list" vs.toArray 0) := by
  rw [<- hsz]; exact Heap.get?_push_size _ rfl
 dsimp only
 rw [hsz]
 have kp : ∀ b ob, s.heap.get? b = some ob -> (((s.heap.push (seqObj "list" #[] 0)).update s.heap.objs.size (Obj.mapSeq fun x => x ++ vs.toArray)).push (seqObj "list" vs.toArray 0)).get? b = some ob := fun b ob hb => by
  refine Heap.get?_push_of_some _ ((Heap.SameBut.update _ s.heap.objs.size _).extBut b ob (Nat.ne_of_lt (Heap.lt_size hb)) (Heap.get?_push_of_some _ hb))
 refine wpAny_bind (wpAny_holding (wpAny_call_entry slot_list_sort ⟨_, hS, rfl⟩ entry_list_sort (sort_any (s := { s with heap := ((s.heap.push (seqObj "list" #[] 0)).update s.heap.objs.size (Obj.mapSeq fun x => x ++ vs.toArray)).push (seqObj "list" vs.toArray 0) }) hS h64 hl nd (fun i v k q1 q2 => ?_) fun idx i1 i2 => ⟨_, rfl, ?_⟩) (args_list_sort _)))
 ·obtain ⟨⟨b, o, xs, e, e1, g1, g2⟩, hne⟩ := hT i v k q1 q2
  exact ⟨⟨b, o, xs, e, e1, kp _ _ g1, g2⟩, hne⟩
 ·exact wpAny_pure ⟨_, rfl, h idx i1 i2⟩
end
section
variable {X : Cx}
theorem tupV_of {pins : List (Addr × Obj)} {σ : St} {H : Hp} {s : Shared} {a : Addr} {k : List Int} (I : Inv X pins σ H s) (h : H a = some (.tup (k.map V.int))) : TupV s.heap (.ref a) k := by
 obtain ⟨its, rv, p, _⟩ := I.tuple (SqT.of h)
 obtain ⟨o, h1, h2, n, h3⟩ := (show s.heap.IsTuple a its.toArray from p)
 exact ⟨a, o, its.toArray, n, rfl, h1, h2, h3, by simpa using rv⟩
def rSortL (K : Frag) : List V -> Hp -> VK -> Prop := fun xs H Q => ∃ (p : Addr) (ys : List V) (ks : List (List Int)), xs = [.ref p] /\ SqL K H p ys /\ TupsH H ys ks /\ ks.length < 64 /\ ks.Nodup /\ (∀ k ∈ ks, k ≠ []) /\
 ∀ ms zs l H', ms.Perm ks -> ms.Pairwise (fun k l => blt k l = true) -> TupsH H zs ms -> New H H' l (.lst zs) -> Q (.ref l) H'
theorem call_sortedL : CallR X (.builtin "sorted") (rSortL X.K) := by
 intro pins s σ H xs us Q I r h
 obtain ⟨p, ys, ks, rfl, hq, hT, h64, nd, hne, q⟩ := h
 obtain ⟨u, rfl, ru⟩ := vals1 r
 cases (show u = Value.ref p from ru)
 obtain ⟨its, rv, pl, hz⟩ := I.list hq
 have l1 := hT.len
 have l2 := rv.length
 refine sorted_list pl.isList (by omega) (ks := ks) (by omega) nd (fun i v k q1 q2 => ?_) fun idx i1 i2 => ?_
 ·obtain ⟨x, qx⟩ : ∃ x, ys[i]? = some x := ⟨_, List.getElem?_eq_getElem (by have := (List.getElem?_eq_some_iff.mp q2).1; omega)⟩
  obtain ⟨a, rfl, ha⟩ := hT.get qx q2
  have hv : v = Value.ref a := by
   have hx := (List.getElem?_eq_some_iff.mp qx)
   have hvv := (List.getElem?_eq_some_iff.mp q1)
   have := vals_pick.vals_ix rv hx.1 hvv.1
   rw [hx.2, hvv.2] at this
   exact this
  subst hv
  exact ⟨tupV_of I ha, hne k (List.mem_of_getElem? q2)⟩
 ·have hi : ∀ i ∈ idx, i < ks.length := fun i h => List.mem_range.mp (i1.mem_iff.mp h)
  obtain ⟨e, he⟩ := sortedAll_at s.heap its (pick idx its .none).toArray
  have vp : Vals (pick idx ys .non) (pick idx its .none) := vals_pick rv (fun i h => by have := hi i h; omega)
  refine ⟨.ref _, _, I.laid (t' := s.toks) (o := .lst (pick idx ys .non)) (fun _ _ => sortedAll_old) (Nat.le_succ _) ⟨?_, pick idx its .none, e, vp, he⟩, rfl, q (pick idx ks []) (pick idx ys .non) _ _ (pick_perm i1) i2 (hT.pick hi) (qbd (I.hok.fresh (Nat.le_succ _)))⟩
  have := i1.length_eq
  rw [List.length_range] at this
  show (pick idx ys .non).length <= _
  unfold pick
  rw [List.length_map, sizeLine_eq]; omega
def rSortD : List V -> Hp -> VK -> Prop := fun xs H Q => ∃ (a : Addr) (kvs : List (List Key × V)) (ks : List (List Int)), xs = [.ref a] /\ H a = some (.dT kvs) /\ kvs.map (·.1) = ks.map (fun k => k.map Sum.inl) /\ ks.length < 64 /\ ks.Nodup /\ (∀ k ∈ ks, k ≠ []) /\
 ∀ ms zs l H', ms.Perm ks -> ms.Pairwise (fun k l => blt k l = true) -> TupsH H zs ms -> New H H' l (.lst zs) -> Q (.ref l) H'
theorem kt_tups {H : Hp} : ∀ {kvs : List (List Key × V)} {ys : List (List Key × Addr × Value)} {ks : List (List Int)}, KT H kvs ys -> kvs.map (·.1) = ks.map (fun k => k.map Sum.inl) -> TupsH H (ys.map fun y => V.ref y.2.1) ks
 | [], _, ks, .nil, e => by
  cases ks with
  | nil => exact .nil
  | cons _ _ => cases e
 | p :: r, _, ks, .cons (b := y) hy t, e => by
  cases ks with
  | nil => cases e
  | cons k ks =>
   rw [List.map_cons, List.map_cons] at e
   injection e with e1 e2
   refine .cons ⟨y.2.1, rfl, ?_⟩ (kt_tups t e2)
   have := hy.2.1
   rw [e1] at this
   rw [this, List.map_map]; rfl
theorem refs_vals : ∀ ys : List (List Key × Addr × Value), Vals (ys.map fun y => V.ref y.2.1) (ys.map fun y => Value.ref y.2.1)
 | [] => .nil
 | _ :: r => .cons rfl (refs_vals r)
theorem call_sortedD (hc : X.calm = true) : CallR X (.builtin "sorted") rSortD := by
 intro pins s σ H xs us Q I r h
 obtain ⟨a, kvs, ks, rfl, ha, ek, h64, nd, hne, q⟩ := h
 obtain ⟨u, rfl, rx⟩ := vals1 r
 cases (show u = Value.ref a from rx)
 obtain ⟨hz, lo, ys, kt, o, es, ep, e1, e2, e3, e4, _⟩ := dt_of I.hok ha
 have hR : RawD s.heap a es ep := ⟨o, e1, e2, e3⟩
 have hT := kt_tups kt ek
 have lk : kvs.length = ks.length := by have := congrArg List.length ek; simpa using this
 have ly : ys.length = ks.length := by have := hT.len; simpa using this
 have hl : es.size = ys.length := by rw [<- Array.length_toList, e4, List.length_map]
 refine Calls.call_function_entry kind_sorted plain_sorted entry_sorted (args_sorted1 _) ?_
 unfold Builtin.«sorted»; refine wpAny_bind (m := checkCount "sorted" 1 1 _) (wpAny_pure ?_)
 refine wpAny_bind (PySem.W.kdu_collect (rd_src lo) (I.ok.hd hc) hR (by rw [sizeLine_eq]; omega) fun h' tk acc hk hacc => ?_)
 have hlen : acc.toList.length = ks.length := by rw [Array.length_toList, hacc.1, hl, ly]
 have hacc' : acc.toList = ys.map fun y => Value.ref y.2.1 := by
  apply List.ext_getElem?
  intro i
  by_cases hi : i < ys.length
  ·obtain ⟨v, hv⟩ : ∃ v, acc.toList[i]? = some v := ⟨_, List.getElem?_eq_getElem (by omega)⟩
   obtain ⟨e, he, hve⟩ := hacc.2 i v (by rw [<- Array.getElem?_toList]; exact hv)
   rw [<- Array.getElem?_toList, e4, List.getElem?_map, List.getElem?_eq_getElem hi] at he
   cases he
   rw [hv, List.getElem?_map, List.getElem?_eq_getElem hi, hve]; rfl
  ·rw [List.getElem?_eq_none (by omega), List.getElem?_eq_none (by simpa using by omega)]
 have I' : Inv X pins σ H { s with heap := h', toks := tk } := I.kept hk
 have rv : Vals (ys.map fun y => V.ref y.2.1) acc.toList := by
  rw [hacc']
  exact refs_vals ys
 refine wpAny_bind (wpAny_newList ?_ (by rw [hlen, sizeLine_eq]; omega))
 have hS : (h'.push (seqObj "list" acc.toList.toArray 0)).get? h'.objs.size = some (seqObj "list" acc.toList.toArray 0) := Heap.get?_push_size _ rfl
 refine wpAny_bind (wpAny_holding (wpAny_call_entry slot_list_sort ⟨_, hS, rfl⟩ entry_list_sort (sort_any (s := { s with heap := h'.push (seqObj "list" acc.toList.toArray 0), toks := tk }) (ks := ks) hS (by omega) hlen nd (fun i v k q1 q2 => ?_) fun idx i1 i2 => ⟨_, rfl, ?_⟩) (args_list_sort _)))
 ·obtain ⟨y, hy⟩ : ∃ y, ys[i]? = some y := ⟨_, List.getElem?_eq_getElem (by have := (List.getElem?_eq_some_iff.mp q2).1; omega)⟩
  obtain ⟨b, eb, hb⟩ := hT.get (i := i) (by rw [List.getElem?_map, hy]; rfl) q2
  cases eb
  have hv : v = Value.ref y.2.1 := by
   rw [hacc', List.getElem?_map, hy] at q1
   exact (Option.some.inj q1).symm
  subst hv
  obtain ⟨b, o, xs, e, e1, g1, g2⟩ := tupV_of I' hb
  exact ⟨⟨b, o, xs, e, e1, Heap.get?_push_of_some _ g1, g2⟩, hne k (List.mem_of_getElem? q2)⟩
 ·refine wpAny_pure ⟨_, rfl, ?_⟩
  have hi : ∀ i ∈ idx, i < ks.length := fun i h => List.mem_range.mp (i1.mem_iff.mp h)
  have hil := i1.length_eq
  rw [List.length_range] at hil
  obtain ⟨c, hat⟩ : ∃ c, (sortedHeap (h'.push (seqObj "list" acc.toList.toArray 0)) h'.objs.size acc.toList (pick idx acc.toList .none).toArray).get? h'.objs.size = some (seqObj "list" (pick idx acc.toList .none).toArray c) := sortedHeap_at hS
  have kp : ∀ b ob, h'.get? b = some ob -> (sortedHeap (h'.push (seqObj "list" acc.toList.toArray 0)) h'.objs.size acc.toList (pick idx acc.toList .none).toArray).get? b = some ob := fun b ob hb => by
   have lb := Heap.lt_size hb
   rw [sortedHeap_old (Nat.ne_of_lt lb) (by rw [size_push']; exact Nat.lt_succ_of_lt lb)]
   exact Heap.get?_push_of_some _ hb
  have vp : Vals (pick idx (ys.map fun y => V.ref y.2.1) .non) (pick idx acc.toList .none) := vals_pick rv (fun i h => by have := hi i h; simp; omega)
  refine ⟨.ref h'.objs.size, _, I'.laid (t' := tk) (o := .lst (pick idx (ys.map fun y => V.ref y.2.1) .non)) kp (Nat.le_refl _) ⟨?_, pick idx acc.toList .none, c, vp, hat⟩, rfl, q (pick idx ks []) _ _ _ (pick_perm i1) i2 (hT.pick hi) (qbd (I'.hok.fresh (Nat.le_refl _)))⟩
  show (pick idx _ V.non).length <= _
  unfold pick
  rw [List.length_map, sizeLine_eq]; omega
end
end L2
namespace L2
open PySem PySem.Spec PyProof.Rows
def MetD (P : Program) (w : World) (K : Frag) (mg : Str -> Option Value) (base : Heap) (C : Addr) (k : Nat) (m : Str) (ps : List Str) (ds : List Value) (sp : Sp) : Prop :=
 ∃ f fd, FnOk P w K mg base CX0 k f fd ps sp /\ Meth K C m f /\ Binds K fd ps ds
section
variable {X : Cx} {k : Nat} {C : Addr} {ps : List Str} {sp : Sp} {dvs : List V} {ds : List Value} {m : Str} {pos apos : Pos} {e o : Expr} {es : List Expr} {ta : TE} {t : TA}
theorem pe_mtD {pl : Sem Bool} (he : PE X o ta) (c : Cls X.K C) (D : MetD X.prog X.w X.K X.mg X.base C k m ps ds sp) (hr : Room k X.A) (hd : Vals dvs ds) (ha : PA X (e :: es) t)
  (hst : starEach (e :: es) X.env = (false, eval e X.env) :: starEach es X.env := by rfl) (hpl : (backTo pos (starEach es X.env)).any (·.1) = false := by rfl)
  (ht : eval (.Call (.Attribute o m apos) (e :: es) [] pos) X.env = (do
   let ov <- eval o X.env
   standAt apos.atName
   let (f, first) <- holding [ov] (getMethod ov m pl)
   callWith pos f first (backTo pos (starEach (e :: es) X.env)) (backToKw pos (keywordEach [] X.env))) := by rfl) :
  PE X (.Call (.Attribute o m apos) (e :: es) [] pos) (tMeth C m sp dvs E0 ta t) := by
 obtain ⟨f, fd, F, hm, hb⟩ := D
 exact pe_meth (pl := pl) he c hm F hr hb hd pass0 ha hst hpl ht
end
end L2
namespace L2
open PySem PySem.Spec PyProof.Rows PySem.W
section
variable {prog : Program} {w : World} {A : Around} {E : Value -> Shared -> Prop} {s : Shared}
end
section
variable {X : Cx} {pos : Pos}
end
end L2
namespace L2
open PySem PySem.Spec PyProof.Rows
section
variable {prog : Program} {w : World} {A : Around} {E : Value -> Shared -> Prop} {s : Shared}
abbrev itemIt (d : Addr) (n ep : Nat) : Obj := { cls := .type "dict_itemiterator", data := .fields #[.none, .bool false, .ref d, .int 0 0, .int n 0, .int ep 0, .none, .none] }
theorem ri_view {d : Addr} {es : Array DictEntry} {ep : Nat} {Q : Value -> Shared -> Prop} (lo : (d == sysModules) = false) (hm : RawD s.heap d es ep)
  (hQ : Q (.ref s.heap.objs.size) { s with heap := s.heap.push { cls := .type "dict_items", data := .fields #[.ref d] } }) : wpAny (model prog w) A (call (.builtin "dict.items") [.ref d]) Q E s := by
 have ty := hm.ty
 refine wpAny_call_entry F.slot_dict_items ty F.entry_dict_items ?_ (F.args_dict_items_1 _)
 unfold Builtin.«dict.items»; refine wpAny_bind ?_; unfold Builtin.Dict.noArgs
 refine wpAny_bind (wpAny_notOrdered_dict ty ?_); show wpAny _ _ (pure d) _ _ s; refine wpAny_pure ?_
 show wpAny _ _ (Builtin.Dict.showsAll d >>= _) _ _ s; unfold Builtin.Dict.showsAll; rw [if_neg (by rw [lo]; exact Bool.false_ne_true)]
 refine wpAny_bind (wpAny_pure ?_); exact wpAny_bind (wpAny_newObj_type (wpAny_pure ⟨_, rfl, hQ⟩))
theorem ri_iter {v d : Addr} {es : Array DictEntry} {ep : Nat} {Q : Value -> Shared -> Prop} (hv : s.heap.IsItemsView v d) (hm : RawD s.heap d es ep)
  (hQ : Q (.ref s.heap.objs.size) { s with heap := s.heap.push (itemIt d es.size ep) }) : wpAny (model prog w) A (pyIter (.ref v)) Q E s := by
 have ty := hv.typeIs
 obtain ⟨u, e1, e2, e3⟩ := hv
 obtain ⟨o, h1, h2, h3⟩ := hm
 refine wpAny_pyIter_slot ty F.slot_dict_items_iter (wpAny_call_entry F.slot_dict_items_iter ty F.entry_dict_items_iter ?_ (F.args_dict_items_iter_1 _))
 unfold Builtin.«dict_items.__iter__»; refine wpAny_bind (wpAny_pure ?_); refine wpAny_bind ?_
 unfold Builtin.Dict_items.dictOf; refine wpAny_bind (wpAny_field e1 e3 (x := .ref d) rfl (wpAny_pure ?_)); refine wpAny_bind ?_
 unfold Builtin.Dict_items.newIterator; refine wpAny_bind (wpAny_dictEntries h1 h3 ?_); refine wpAny_bind (wpAny_dictEpoch h1 h3 ?_)
 simp only [show Builtin.Dict_items.ownsTuple "dict_itemiterator" = true by decide, if_true]
 refine wpAny_newObj_type (wpAny_pure ⟨_, rfl, "dict_itemiterator", _, ⟨_, Heap.get?_push_size _ rfl, rfl⟩, F.slot_dict_itemiterator_next.lookup, ?_⟩) (by simp only [sizeOk, Builtin.Dict_items.ownedTupleFields, List.size_toArray, List.length_append, List.length_cons, List.length_nil, sizeLine_eq]; omega)
 simpa [rawInt, Builtin.Dict_items.ownedTupleFields] using hQ
theorem ri_item {it d : Addr} {i ep : Nat} {es : Array DictEntry} {ok ov : Value} {Q : Option Value -> Shared -> Prop} (hJ : IsItemIter s.heap it d i es.size ep ok ov) (hm : RawD s.heap d es ep) (hx : i < es.size)
  (hQ : ∀ h', IsItemIterOut h' it d (i + 1) es.size ep es[i].key es[i].val s.heap.objs.size -> h'.get? s.heap.objs.size = some { cls := .type "tuple", data := .seq #[es[i].key, es[i].val] } ->
   (∀ b o, b ≠ it -> s.heap.get? b = some o -> h'.get? b = some o) -> Q (some (.ref s.heap.objs.size)) { s with heap := h' }) : wpAny (model prog w) A (pyNext (.ref it)) Q E s := by
 obtain ⟨hp, g, dr, tk, os⟩ := s
 obtain ⟨od, h1, h2, h3⟩ := hm
 have ty : Shared.TypeIs ⟨hp, g, dr, tk, os⟩ (.ref it) "dict_itemiterator" := ⟨_, hJ, rfl⟩
 unfold pyNext
 refine wpAny_bind (wpAny_attempt (wpAny_callSpecial?_slot (name := Str.ofString "__next__") ty F.slot_dict_itemiterator_next (wpAny_call_entry F.slot_dict_itemiterator_next ty F.entry_dict_itemiterator_next ?_ (F.args_dict_itemiterator_next_1 _))))
 refine wpAny_bind (wpAny_pure ?_); refine wpAny_bind ?_; refine wpAny_bind ?_
 first | refine wpAny_bind (wpAny_typeNameOfWhole_itemiter ty (wpAny_pure ?_)) | refine wpAny_bind (wpAny_typeNameOf_itemiter ty (wpAny_pure ?_))
 refine wpAny_bind (wpAny_fieldsOf hJ rfl ?_); simp only [show Builtin.Dict_items.ownsTuple "dict_itemiterator" = true by decide, if_true]
 show wpAny _ _ (if (Value.ref d == Value.none) = true then _ else _) _ _ _; rw [if_neg (show ¬ ((Value.ref d == Value.none) = true) from Bool.false_ne_true)]
 refine wpAny_bind (wpAny_pure ?_); refine wpAny_bind (wpAny_dictEntries h1 h3 ?_)
 rw [if_neg (by simp)]; refine wpAny_bind (wpAny_pure ?_); refine wpAny_bind (wpAny_dictEpoch h1 h3 ?_); rw [if_neg (by simp)]; refine wpAny_pure ?_
 simp only [show ¬ ((i : Int) < 0) from by omega, if_false, Int.toNat_natCast, Array.getElem?_eq_getElem hx]; refine wpAny_bind ?_
 first | refine wpAny_bind (wpAny_typeNameOfWhole_itemiter ty (wpAny_pure ?_)) | refine wpAny_bind (wpAny_typeNameOf_itemiter ty (wpAny_pure ?_))
 refine wpAny_bind (wpAny_isOneOf_itemiter ty ?_)
 show wpAny _ _ (setField (.ref it) 3 (rawInt ((i : Int) + 1)) >>= _) _ _ ⟨hp, g, dr, tk, os⟩; refine wpAny_bind (wpAny_setField_rec hJ (by simp) fun g1 j1 b1 => ?_)
 replace b1 : Heap.SameBut it hp g1 := b1
 replace j1 : IsItemIter g1 it d (i + 1) es.size ep ok ov := by
  unfold IsItemIter; rw [show ((i + 1 : Nat) : Int) = (i : Int) + 1 by omega]; simpa [rawInt] using j1
 have ty1 : Shared.TypeIs ⟨g1, g, dr, tk, os⟩ (.ref it) "dict_itemiterator" := ⟨_, j1, rfl⟩
 refine wpAny_bind (wpAny_holding ?_); refine wpAny_bind (wpAny_isOneOf_itemiter ty1 ?_); refine wpAny_bind (wpAny_isOneOf_itemiter ty1 ?_)
 show wpAny _ _ (Builtin.Dict_items.pairFromOwner (.ref it) 6 es[i].key es[i].val) _ _ ⟨g1, g, dr, tk, os⟩; unfold Builtin.Dict_items.pairFromOwner; refine wpAny_bind (wpAny_newTuple ?_)
 have j2 : IsItemIter (g1.push { cls := .type "tuple", data := .seq #[es[i].key, es[i].val] }) it d (i + 1) es.size ep ok ov := Heap.get?_push_of_some _ j1
 have z1 : g1.objs.size = hp.objs.size := b1.1
 have il : it ≠ hp.objs.size := Nat.ne_of_lt (Heap.lt_size hJ)
 have t2 : (g1.push { cls := .type "tuple", data := .seq #[es[i].key, es[i].val] }).get? hp.objs.size = some { cls := .type "tuple", data := .seq #[es[i].key, es[i].val] } := by rw [<- z1]; exact Heap.get?_push_size _ rfl
 have k2 : ∀ b o, b ≠ it -> hp.get? b = some o -> (g1.push { cls := .type "tuple", data := .seq #[es[i].key, es[i].val] }).get? b = some o := fun b o hb e => Heap.get?_push_of_some _ (b1.extBut b o hb e)
 generalize (g1.push { cls := .type "tuple", data := .seq #[es[i].key, es[i].val] }) = g2 at j2 t2 k2 ⊢
 show wpAny _ _ (Builtin.Dict_items.ownedTupleIsFree (.ref it) >>= _) _ _ ⟨g2, g, dr, tk, os⟩; rw [z1]; refine wpAny_bind ?_
 unfold Builtin.Dict_items.ownedTupleIsFree; refine wpAny_bind (wpAny_field j2 rfl (x := .none) rfl (wpAny_pure ?_)); simp only [if_true]
 refine wpAny_bind (wpAny_field j2 rfl (x := ok) rfl ?_); refine wpAny_bind (wpAny_field j2 rfl (x := ov) rfl ?_)
 refine wpAny_bind (wpAny_setField_rec j2 (by simp) fun g3 j3 b3 => ?_); replace b3 : Heap.SameBut it g2 g3 := b3; replace j3 : IsItemIter g3 it d (i + 1) es.size ep es[i].key ov := j3
 refine wpAny_bind (wpAny_setField_rec j3 (by simp) fun g4 j4 b4 => ?_); replace b4 : Heap.SameBut it g3 g4 := b4; replace j4 : IsItemIter g4 it d (i + 1) es.size ep es[i].key es[i].val := j4
 refine wpAny_bind (wpAny_setField_rec j4 (by simp) fun g5 j5 b5 => ?_); replace b5 : Heap.SameBut it g4 g5 := b5; replace j5 : IsItemIterOut g5 it d (i + 1) es.size ep es[i].key es[i].val hp.objs.size := j5
 refine wpAny_bind (wpAny_setField_rec j5 (by simp) fun g6 j6 b6 => ?_); replace b6 : Heap.SameBut it g5 g6 := b6; replace j6 : IsItemIterOut g6 it d (i + 1) es.size ep es[i].key es[i].val hp.objs.size := j6
 have k6 : ∀ b o, b ≠ it -> g2.get? b = some o -> g6.get? b = some o := fun b o hb e => b6.extBut b o hb (b5.extBut b o hb (b4.extBut b o hb (b3.extBut b o hb e)))
 exact wpAny_bind (wpAny_letGo (wpAny_pure (wpAny_pure ⟨_, rfl, wpAny_pure (hQ g6 j6 (k6 _ _ il.symm t2) fun b o hb e => k6 b o hb (k2 b o hb e))⟩)))
theorem ri_end {it d : Addr} {i ep : Nat} {es : Array DictEntry} {ok ov : Value} {Q : Option Value -> Shared -> Prop} (hh : A.handled = none) (hJ : IsItemIter s.heap it d i es.size ep ok ov) (hm : RawD s.heap d es ep) (hx : es.size <= i)
  (hQ : ∀ h', Heap.ExtBut it s.heap h' -> Q none { s with heap := h' }) : wpAny (model prog w) A (pyNext (.ref it)) Q E s := by
 obtain ⟨od, h1, h2, h3⟩ := hm
 have ty : s.TypeIs (.ref it) "dict_itemiterator" := ⟨_, hJ, rfl⟩
 unfold pyNext
 refine wpAny_bind (wpAny_attempt (wpAny_callSpecial?_slot (name := Str.ofString "__next__") ty F.slot_dict_itemiterator_next (wpAny_call_entry F.slot_dict_itemiterator_next ty F.entry_dict_itemiterator_next ?_ (F.args_dict_itemiterator_next_1 _))))
 refine wpAny_bind (wpAny_pure ?_); refine wpAny_bind ?_; refine wpAny_bind ?_
 first | refine wpAny_bind (wpAny_typeNameOfWhole_itemiter ty (wpAny_pure ?_)) | refine wpAny_bind (wpAny_typeNameOf_itemiter ty (wpAny_pure ?_))
 refine wpAny_bind (wpAny_fieldsOf hJ rfl ?_); simp only [show Builtin.Dict_items.ownsTuple "dict_itemiterator" = true by decide, if_true]
 show wpAny _ _ (if (Value.ref d == Value.none) = true then _ else _) _ _ s; rw [if_neg (show ¬ ((Value.ref d == Value.none) = true) from Bool.false_ne_true)]
 refine wpAny_bind (wpAny_pure ?_); refine wpAny_bind (wpAny_dictEntries h1 h3 ?_)
 rw [if_neg (by simp)]; refine wpAny_bind (wpAny_pure ?_); refine wpAny_bind (wpAny_dictEpoch h1 h3 ?_); rw [if_neg (by simp)]; refine wpAny_pure ?_
 simp only [show ¬ ((i : Int) < 0) from by omega, if_false, Int.toNat_natCast, Array.getElem?_eq_none hx]; refine wpAny_bind ?_
 first | refine wpAny_bind (wpAny_typeNameOfWhole_itemiter ty (wpAny_pure ?_)) | refine wpAny_bind (wpAny_typeNameOf_itemiter ty (wpAny_pure ?_))
 show wpAny _ _ (setField (.ref it) 2 .none >>= _) _ _ s; refine wpAny_bind (wpAny_setField hJ rfl (by simp) ?_)
 show wpAny _ _ (newExc (.type "StopIteration") [] >>= _) _ _ _; refine wpAny_bind ?_
 simp only [newExc, newTuple]; refine wpAny_bind (wpAny_newObj_type ?_ (by size_fits))
 refine wpAny_bind (m := firstArgMember _ _) (wpAny_of_eq (a := Value.none) (by first | rfl | (simp only [firstArgMember]; rfl)) ?_); refine wpAny_newObj_type ?_ (by size_fits)
 simp only [raiseNew]; refine wpAny_bind (wpAny_handled ?_); rw [show A.in1.handled = none from hh]; refine wpAny_bind (wpAny_pure (wpAny_throw ?_))
 refine wpAny_bind (wpAny_isInstance (T := "StopIteration") (b := true) ⟨_, Heap.get?_push_size _ rfl, rfl⟩ isSubtype_stop ?_); exact wpAny_pure (hQ _ (((Heap.SameBut.update ..).extBut.push _).push _))
theorem ri_entry : entryFor table "dict_itemiterator.__iter__" = some Builtin.«dict_keyiterator.__iter__» :=
 entryFor_alias (id' := "dict_keyiterator.__iter__") (by rw [fastTable_eq_tree]; kernel_rfl) (by first | rfl | decide +kernel) (by decide +kernel) (by rw [fastTable_eq_tree]; kernel_rfl)
theorem ri_self {it d : Addr} {i n ep : Nat} {ok ov : Value} {Q : Value -> Shared -> Prop} (hJ : IsItemIter s.heap it d i n ep ok ov) (h : Q (.ref it) s) : wpAny (model prog w) A (pyIter (.ref it)) Q E s := by
 have ty : s.TypeIs (.ref it) "dict_itemiterator" := ⟨_, hJ, rfl⟩
 refine wpAny_pyIter_slot ty F.slot_dict_itemiterator_iter (wpAny_call_entry F.slot_dict_itemiterator_iter ty ri_entry ?_ (F.args_dict_itemiterator_iter_1 _)); show wpAny _ _ (ret (.ref it)) _ _ s
 exact wpAny_pure ⟨_, rfl, "dict_itemiterator", _, ty, F.slot_dict_itemiterator_next.lookup, h⟩
end
end L2
namespace L2
open PySem PySem.Spec PyProof.Rows
def NoF (X : Cx) (d : Addr) : Prop := (∀ xs, X.H₀ d ≠ some (.tup xs)) /\ (∀ o u, X.H₀ d ≠ some (.frz o u)) /\ ∀ ps, X.H₀ d ≠ some (.tbl ps)
section
variable {X : Cx} {pins : List (Addr × Obj)} {σ : St} {H : Hp} {s : Shared} {d : Addr}
theorem Inv.noF {kvs : List (List Key × V)} (I : Inv X pins σ H s) (hd : H d = some (.dT kvs)) : NoF X d := by
 refine ⟨fun xs q => ?_, fun o u q => ?_, fun ps q => ?_⟩
 ·have := I.base.tups d xs q; rw [hd] at this; cases this
 ·have := I.base.frzs d o u q; rw [hd] at this; cases this
 ·obtain ⟨m, e⟩ := I.base.tbls d ps q; rw [hd] at e; cases e
theorem Inv.swap {o1 o2 : HO} (I : Inv X pins σ H s) (hd : H d = some o1) (n1 : ∀ xs, o1 ≠ .tup xs) (n2 : ∀ b, o1 ≠ .own b) (nf : NoF X d) (ok : ObjOk X.prog X.w (upd H d o2) s.heap d o2) : Inv X pins σ (upd H d o2) s := by
 have ne : ∀ {b}, H b = none -> b ≠ d := fun h z => by rw [z, hd] at h; cases h
 refine ⟨I.ok, I.os, I.bare, ⟨I.base.keep, I.base.slot, fun b o q n hx => ?_, I.base.there, fun b xs q => ?_, fun b o u q => ?_, fun b ps q => ?_⟩, I.loc, I.cell, ?_, fun x c q => ?_, fun p hp => ?_, fun b u q => ?_, I.len⟩
 ·have h0 := I.base.free b o q n hx
  rw [qau (ne h0)]; exact h0
 ·have hb : b ≠ d := fun z => nf.1 xs (by rw [<- z]; exact q)
  rw [qau hb]; exact I.base.tups b xs q
 ·have hb : b ≠ d := fun z => nf.2.1 o u (by rw [<- z]; exact q)
  rw [qau hb]; exact I.base.frzs b o u q
 ·have hb : b ≠ d := fun z => nf.2.2 ps (by rw [<- z]; exact q)
  rw [qau hb]; exact I.base.tbls b ps q
 ·rw [qau (ne I.free)]; exact I.free
 ·rw [qau (ne (I.freeC x c q))]; exact I.freeC x c q
 ·obtain ⟨e, n, r⟩ := I.pin p hp
  exact ⟨e, by rw [qau (ne n)]; exact n, r⟩
 ·by_cases hb : b = d
  ·subst hb; rw [qa8] at q; cases q; exact ok
  ·rw [qau hb] at q
   refine (I.hok b u q).stay (fun _ _ _ q => q) (fun c q => ?_) fun c xs q => ?_
   ·rw [qau (fun z => by rw [z, hd] at q; exact n2 _ (Option.some.inj q))]; exact q
   ·rw [qau (fun z => by rw [z, hd] at q; exact n1 _ (Option.some.inj q))]; exact q
theorem dT_stay {P : Program} {w : World} {h : Heap} {o1 o2 : HO} {kvs : List (List Key × V)} (hd : H d = some o1) (n1 : ∀ xs, o1 ≠ .tup xs) (n2 : ∀ b, o1 ≠ .own b) (x : ObjOk P w H h d (.dT kvs)) : ObjOk P w (upd H d o2) h d (.dT kvs) :=
 x.stay (fun _ _ _ q => q) (fun c q => by rw [qau (fun z => by rw [z, hd] at q; exact n2 _ (Option.some.inj q))]; exact q) fun c xs q => by rw [qau (fun z => by rw [z, hd] at q; exact n1 _ (Option.some.inj q))]; exact q
theorem Inv.freeze {kvs : List (List Key × V)} {ob : Obj} (I : Inv X pins σ H s) (hd : H d = some (.dT kvs)) (e : s.heap.get? d = some ob) : Inv X pins σ (upd H d (.frz ob (.dT kvs))) s :=
 I.swap hd (fun _ z => nomatch z) (fun _ z => nomatch z) (I.noF hd) ⟨e, dT_stay hd (fun _ z => nomatch z) (fun _ z => nomatch z) (I.hok d _ hd)⟩
theorem Inv.thaw {kvs : List (List Key × V)} {ob : Obj} (I : Inv X pins σ H s) (hd : H d = some (.frz ob (.dT kvs))) (nf : NoF X d) : Inv X pins σ (upd H d (.dT kvs)) s :=
 I.swap hd (fun _ z => nomatch z) (fun _ z => nomatch z) nf (dT_stay hd (fun _ z => nomatch z) (fun _ z => nomatch z) (I.hok d _ hd).2)
end
def Iti (d : Addr) (ob : Obj) (kvs : List (List Key × V)) : It :=
 ⟨fun i H => H d = some (.frz ob (.dT kvs)) /\ i < kvs.length,
   fun i H x H' => ∃ p b k v, kvs[i]? = some (k, v) /\ x = .ref p /\ H p = none /\ H b = some (.tup (k.map kV)) /\ H' = upd H p (.tup [.ref b, v]),
   fun i H => H d = some (.frz ob (.dT kvs)) /\ kvs.length <= i⟩
theorem paired_at {α β : Type} {R : α -> β -> Prop} : ∀ {xs : List α} {ys : List β} {i : Nat} {x : α}, Paired R xs ys -> xs[i]? = some x -> ∃ y, ys[i]? = some y /\ R x y
 | _, _, _, _, .nil, e => by simp at e
 | _, _, 0, _, .cons r _, e => by simp at e; subst e; exact ⟨_, rfl, r⟩
 | _, _, i + 1, x, .cons _ t, e => by
  obtain ⟨u, h1, h2⟩ := paired_at (i := i) (x := x) t (by simpa using e)
  exact ⟨u, by simpa using h1, h2⟩
theorem frz_raw {P : Program} {w : World} {H : Hp} {h : Heap} {d : Addr} {ob : Obj} {kvs : List (List Key × V)} {es : Array DictEntry} {ep : Nat} (x : ObjOk P w H h d (.frz ob (.dT kvs))) (he : ob.data = .dict es ep) :
  RawD h d es ep /\ es.size = kvs.length /\ ∀ (i : Nat) k v, kvs[i]? = some (k, v) -> ∃ (hi : i < es.size) (b : Addr), es[i].key = .ref b /\ H b = some (.tup (k.map kV)) /\ RelV v es[i].val := by
 obtain ⟨e0, hz, lo, xs, pr, o, es', ep', e1, e2, e3, e4, nd⟩ := x
 rw [e0] at e1
 cases e1
 rw [he] at e3
 cases e3
 have hl : es.size = kvs.length := by rw [<- Array.length_toList, e4, List.length_map]; exact pr.length.symm
 refine ⟨⟨ob, e0, e2, he⟩, hl, fun i k v hk => ?_⟩
 obtain ⟨⟨k', b, u⟩, hq, hk', hb, hv⟩ := paired_at pr hk
 have hi : i < es.size := by rw [hl]; exact (List.getElem?_eq_some_iff.mp hk).1
 have ei : es.toList[i]? = some (entryOfKey (tupleKind (qbq P w)) (k', b, u)) := by rw [e4, List.getElem?_map, hq]; rfl
 have ei' : es[i] = entryOfKey (tupleKind (qbq P w)) (k', b, u) := by
  rw [Array.getElem?_toList, Array.getElem?_eq_getElem hi] at ei
  exact Option.some.inj ei
 refine ⟨hi, b, by rw [ei']; rfl, hb, by rw [ei']; exact hv⟩
theorem turn_items {P : Program} {w : World} {K : Frag} {elts : List Expr} {ek : Nat} {epos : Pos} (d it : Addr) (ob : Obj) (kvs : List (List Key × V)) (es : Array DictEntry) (ep : Nat) (he : ob.data = .dict es ep) :
  Turn P w K (.Tuple elts ek epos) (Iti d ob kvs) [it] it (fun i h => ∃ ok ov, IsItemIter h it d i es.size ep ok ov) where
 mem := by simp
 obj := fun i h st b hb => by
  have e : b = it := by simpa using hb
  subst e
  obtain ⟨ok, ov, st⟩ := st
  exact ⟨_, st, fun v z => by
   have z' : Data.fields _ = Data.cell v := z
   cases z'⟩
 keep := fun i h h' st k => let ⟨ok, ov, st⟩ := st; ⟨ok, ov, k it (by simp) _ st⟩
 item := by
  intro X hP hw hK hc i pins s σ H E I hf st hg
  subst hP hw hK
  obtain ⟨hd, hi⟩ := hg
  obtain ⟨ok, ov, st⟩ := st
  obtain ⟨hR, hl, at_⟩ := frz_raw (I.hok d _ hd) he
  have hkv : kvs[i]? = some (kvs[i].1, kvs[i].2) := by rw [List.getElem?_eq_getElem hi]
  obtain ⟨hi', b, ek', hb, hv⟩ := at_ i _ _ hkv
  refine ri_item st hR hi' fun h' a1 a2 a3 => ?_
  refine ⟨.ref s.heap.objs.size, rfl, wpAny_letOwnedTupleGo_items a1 fun h'' j'' sb => ?_⟩
  have nz : s.heap.objs.size ≠ it := Nat.ne_of_gt (Heap.lt_size st)
  have T2 := sb.extBut _ _ nz a2
  rw [ek'] at T2
  refine ⟨.ref s.heap.objs.size, upd H s.heap.objs.size (.tup [.ref b, kvs[i].2]), I.turnedLaid (t' := s.toks) (ch := [it]) hf (fun c o hc e => ?_) (Nat.le_refl _) ⟨by show 2 <= sizeLine; decide, [.ref b, es[i].val], .cons rfl (.cons hv .nil), _, T2, rfl, _, rfl⟩, rfl, ⟨_, b, _, _, hkv, rfl, I.hok.fresh (Nat.le_refl _), hb, rfl⟩, ⟨_, _, j''⟩, fun c hc => ?_⟩
  ·have hne : c ≠ it := fun z => hc (by simp [z])
   exact sb.extBut _ _ hne (a3 c o hne e)
  ·have e : c = it := by simpa using hc
   subst e
   rw [qau (Ne.symm nz)]; exact (hf c (by simp)).1
 done := by
  intro X hP hw hK hc i pins s σ H E I hf st hg
  subst hP hw hK
  obtain ⟨hd, hi⟩ := hg
  obtain ⟨ok, ov, st⟩ := st
  obtain ⟨hR, hl, at_⟩ := frz_raw (I.hok d _ hd) he
  obtain ⟨f0, f1, f2, f3, f4, f5⟩ := hf it (by simp)
  exact ri_end (I.ok.hd hc) st hR (by omega) fun h' eb => ⟨rfl, I.turned (t' := s.toks) (fun b o hb e => eb b o hb e) f0 f1 f3 f4 f5⟩
 self := fun _ _ _ _ _ st h => let ⟨_, _, st⟩ := st; ri_self st h
section
variable {X : Cx}
def iItems (X : Cx) (to : TE) : TI := fun σ H R => to σ H fun x H1 => ∃ d kvs, x = .ref d /\ H1 d = some (.dT kvs) /\ ∀ ob, NoF X d -> R (Iti d ob kvs) (upd H1 d (.frz ob (.dT kvs)))
theorem pi_items {elts : List Expr} {ek : Nat} {epos : Pos} {o : Expr} {to : TE} {apos cpos : Pos} (ho : PE X o to)
  (hbase : attributeBase o (Str.ofString "items") X.env (eval o X.env) = eval o X.env := by rfl) (hline : (apos.endLine == cpos.line) = true := by rfl) :
  PI X (.Tuple elts ek epos) (.Call (.Attribute o (Str.ofString "items") apos) [] [] cpos) (iItems X to) := by
 intro pins s σ H R I h
 refine wpAny_Call_method0_late hbase hline (thn (ho pins s σ H _ I h) fun v s1 hq__ => ?_)
 obtain ⟨x, H1, I1, r1, d, kvs, ex, hd, q⟩ := hq__
 subst ex
 cases (show v = Value.ref d from r1)
 obtain ⟨hz, lo, xs, pr, ob, es, ep, e1, e2, e3, e4, nd⟩ := I1.hok d _ hd
 have hR : RawD s1.heap d es ep := ⟨ob, e1, e2, e3⟩
 refine ⟨"dict", "dict.items", F.plainAttrs_dict, F.slot_dict_items, F.type_dict_items, hR.ty, (fun a ea => by cases ea; exact ⟨ob, e1, e2.2.1⟩), Calls.callWith_builtin rfl (PySem.evalArgs_none (ri_view lo hR ?_))⟩
 refine ri_iter (s := { s1 with heap := s1.heap.push { cls := .type "dict_items", data := .fields #[.ref d] } }) ⟨_, Heap.get?_push_size _ rfl, rfl, rfl⟩ (hR.up fun _ e => Heap.get?_push_of_some _ e) ?_
 have k2 : ∀ b o, s1.heap.get? b = some o -> ((s1.heap.push { cls := .type "dict_items", data := .fields #[.ref d] }).push (itemIt d es.size ep)).get? b = some o := fun b o e => Heap.get?_push_of_some _ (Heap.get?_push_of_some _ e)
 have I2 := (I1.kept (t' := s1.toks) k2).freeze hd (k2 _ _ e1)
 have hsz : s1.heap.objs.size <= (s1.heap.push { cls := .type "dict_items", data := .fields #[.ref d] }).objs.size := by rw [Heap.size_push]; exact Nat.le_succ _
 refine ⟨_, [_], _, _, _, rfl, I2, turn_items d _ ob kvs es ep e3, ⟨_, _, Heap.get?_push_size _ rfl⟩, fun b hb => ?_, q ob (I1.noF hd)⟩
 have e : b = (s1.heap.push { cls := .type "dict_items", data := .fields #[.ref d] }).objs.size := by simpa using hb
 subst e
 refine I1.fpOk hsz ?_
 have hne : (s1.heap.push { cls := .type "dict_items", data := .fields #[.ref d] }).objs.size ≠ d := Nat.ne_of_gt (Nat.lt_of_lt_of_le (Heap.lt_size e1) hsz)
 rw [qau hne]; exact I1.hok.fresh hsz
def thawQ (X : Cx) (Q : VK) : VK := fun v H2 => ∃ d kvs ob, H2 d = some (.frz ob (.dT kvs)) /\ NoF X d /\ Q v (upd H2 d (.dT kvs))
def tLCI (X : Cx) (nv : Nat) (fv : List Nat) (to : TE) (g : TG) (tc : TT) (te : TE) : TE := fun σ H Q => tLC nv fv (iItems X to) g tc te σ H (thawQ X Q)
theorem pe_thaw {e : Expr} {nv : Nat} {fv : List Nat} {to : TE} {g : TG} {tc : TT} {te : TE} (h : PE X e (tLC nv fv (iItems X to) g tc te)) : PE X e (tLCI X nv fv to g tc te) := by
 intro pins s σ H Q I q
 exact thn (h pins s σ H _ I q) fun u s' ⟨v, H2, I2, r, d, kvs, ob, hd, nf, q⟩ => ⟨v, _, I2.thaw hd nf, r, q⟩
end
theorem lc_items {X : Cx} {d : Addr} {ob : Obj} {kvs : List (List Key × V)} {g : TG} {tc : TT} {te : TE} {Q : VK} {σ : St} {H : Hp} (Pv : Nat -> List V -> Hp -> Prop) (hz : kvs.length <= sizeLine) (nf : NoF X d) (h0 : Pv 0 [] (upd H d (.frz ob (.dT kvs))))
  (hl : ∀ i ys H2, Pv i ys H2 -> H2 d = some (.frz ob (.dT kvs)) /\ ys.length <= i)
  (hs : ∀ i k v b p ys H2 H3, kvs[i]? = some (k, v) -> H2 b = some (.tup (k.map kV)) -> New H2 H3 p (.tup [.ref b, v]) -> Pv i ys H2 -> g (.ref p) σ H3 fun σ4 H4 => tc σ4 H4 fun bb H5 => if bb = true then te σ4 H5 fun v H6 => Pv (i + 1) (ys ++ [v]) H6 else Pv (i + 1) ys H5)
  (hd : ∀ ys H2 p H3, Pv kvs.length ys H2 -> New H2 H3 p (.lst ys) -> H3 d = some (.frz ob (.dT kvs)) -> Q (.ref p) (upd H3 d (.dT kvs))) : lcGoal (Iti d ob kvs) (thawQ X Q) g tc te σ (upd H d (.frz ob (.dT kvs))) := by
 refine ⟨fun i m ys H2 => m = kvs.length - i /\ i <= kvs.length /\ Pv i ys H2, ⟨kvs.length, by simp, Nat.zero_le _, h0⟩, ?_⟩
 rintro i m ys H2 ⟨rfl, hi, p⟩
 obtain ⟨hd2, hy⟩ := hl i ys H2 p
 by_cases hlt : i < kvs.length
 ·refine .inr ⟨⟨hd2, hlt⟩, by omega, Pv (i + 1), fun zs H' p' => ⟨kvs.length - (i + 1), by omega, rfl, hlt, p'⟩, fun x H3 y => ?_⟩
  obtain ⟨q, b, k, v, e1, rfl, e3, e4, rfl⟩ := y
  exact hs i k v b q ys H2 _ e1 e4 (qbd e3) p
 ·have e : i = kvs.length := by omega
  subst e
  refine .inl ⟨⟨hd2, Nat.le_refl _⟩, by omega, fun p' hp' => ?_⟩
  have hne : d ≠ p' := fun z => by rw [<- z, hd2] at hp'; cases hp'
  have h3 : upd H2 p' (.lst ys) d = some (.frz ob (.dT kvs)) := by rw [qau hne]; exact hd2
  exact ⟨d, kvs, ob, h3, nf, hd ys H2 p' _ p (qbd hp') h3⟩
end L2
namespace L2
open PySem PySem.Spec PyProof.Rows
section
variable {prog : Program} {w : World} {A : Around} {E : Value -> Shared -> Prop} {h : Heap} {g : Array GenState} {d : Drawn} {t : Nat} {os : OsState}
variable {nm q : Str} {C N x : Addr} {bs bm : List Value} {hdct : Bool} {sn : List Str} {sub : List Value} {ab : Bool} {col : Option Bool} {dd : Option Addr} {k0 k1 k2 k3 k5 : Option Value}
end
def excN (a : Addr) (cls : Value) (dd : Option Addr) : HO := .ext fun h => ∃ oe vs, h.get? a = some oe /\ oe.cls = cls /\ oe.dict = dd /\ oe.data = .fields vs /\ vs.size = 6 /\ vs[1]? = some .none
def excInI (K : Frag) (C f : Addr) : Bool := match K.lookup C with
 | some ⟨.type "type", _, .cls cd, sl⟩ => (match cd.mro, sl.toList with
  | .ref C' :: bm, [_, _, _, _, some (.builtin n), _] => C' == C && n == "ValueError.__new__" && !cd.hasDel && PySem.W.tailIn K veMro bm && PySem.W.nsOkIn K cd.ns && nsIn K cd.ns "__init__" == some (some (.ref f)) && cd.hasDict
  | _, _ => false)
 | _ => false
structure ExcI (K : Frag) (C f : Addr) (fld : Str) : Prop where
 e : excInI K C f = true
 fn : PySem.W.isFn K (.ref f) = true
 x : ExcK K C
 hd : PySem.W.hasDictIn K C = true
 sa : PySem.W.findIn K (.ref C) "__setattr__" = some (some (.builtin "object.__setattr__"))
 na : PySem.W.findIn K (.ref C) fld = some none
structure ExcAtI (h : Heap) (C f : Addr) : Prop where
 e : ∃ bm N nm qn bs sn sub ab col dd k0 k1 k2 k3 k5 mN, h.get? C = some (excClassObj nm qn C N bs bm true sn sub ab col dd k0 k1 k2 k3 k5 "ValueError.__new__") /\ h.Ns N mN /\ mN "__init__" = some (.ref f) /\ OwnTail h veMro bm
section
variable {prog : Program} {w : World} {A : Around} {E : Value -> Shared -> Prop} {K : Frag} {h : Heap} {g : Array GenState} {d : Drawn} {t : Nat} {os : OsState} {C f x : Addr} {o : Obj} {vs : Array Value}
end
end L2
namespace L2
open PySem PySem.Spec PyProof.Rows
section
variable {prog : Program} {w : World} {A : Around} {E : Value -> Shared -> Prop} {s : Shared} {K : Frag} {a D : Addr} {oe : Obj} {od : Option Obj}
end
structure BaseI (K : Frag) (B : Addr) : Prop where
 sp : PySem.W.specialIn K (.ref B) "__getattribute__" = some (some (.builtin "type.__getattribute__"))
 rd : PySem.W.readsIn K B (.type "type") = true
 fi : PySem.W.findCls K (.ref B) (.type "type") "__init__" = some (.val (.builtin "ValueError.__init__"))
def sp_xinit (C : Addr) (fld : Str) : Sp := fun vs H Q _ => ∃ ex v, vs = [.ref ex, v] /\ H ex = some (excN ex (.ref C) none) /\ ∀ dx H', H dx = none -> dx ≠ ex -> H' ex = some (excN ex (.ref C) (some dx)) -> H' dx = some (.xd [(fld, v)]) -> (∀ b o, H b = some o -> b ≠ ex -> H' b = some o) -> Q .non H'
structure XcOk (P : Program) (w : World) (K : Frag) (mg : Str -> Option Value) (base : Heap) (C : Addr) (k : Nat) (x : Str) (ps : List Str) (fld : Str) : Prop where
 ex : ∃ f fd, FnOk P w K mg base CX0 k f fd ps (sp_xinit C fld) /\ mg x = some (.ref C) /\ ExcI K C f fld /\ Binds K fd ps []
def hW0 (K : Frag) (C : Addr) (th : TS) (D : Ends) : XW := fun cls _ σ H => Hits K C cls /\ th D σ H
def sTry0 (K : Frag) (C : Addr) (tb : XW -> TS) (th : TS) : TS := fun D σ H => tb (hW0 K C th D) D σ H
theorem ps_try0 {X : Cx} {C : Addr} {x : Str} {np hpos pos : Pos} {body suite : List Stmt} {b₀ : Stmt} {rest : List ExceptHandler} {tb : XW -> TS} {th : TS} (hs : OnStk X)
  (hg : Gl X x) (hm : X.mg x = some (.ref C)) (hC : PySem.W.ktsIn X.K C "BaseException" = true)
  (hb : ∀ pn W, PSs ((pnd X pn).wish (XE (pnd X pn) W)) body (tb W)) (hh : ∀ pn e, PSs (hnd (pnd X pn) e) (b₀ :: suite) th) (hdb : (x == ("__debug__" : Str)) = false := by decide) :
  PS X (.Try body (.ExceptHandler (some (.Name x np)) none (b₀ :: suite) hpos :: rest) [] [] pos) (sTry0 X.K C tb th) := by
 intro pins s σ H D I h
 have I0 : Inv (pnd X (X.pn ++ pins)) [] σ H s := I.pnd
 refine wpAny_Try_except (wpAny_mono (hb (X.pn ++ pins) _ [] s σ H D (I0.wish _) h) (fun f s1 q => ?_) fun ev s1 q => ?_)
 ·cases f with
  | next => exact wpAny_execs_nil q.unpnd
  | brk => exact q.unpnd
  | cont => exact q.unpnd
  | ret u => exact q.unpnd
 ·obtain ⟨e, cls, dd, σ1, H1, rfl, I1, F1, ⟨DC, rfl, hD, hDC⟩, w1⟩ := q
  have hs' : OnStk (pnd X (X.pn ++ pins)) := hs
  refine note_ok (X := pnd X (X.pn ++ pins)) hs' I1.ok.frames I1 F1 fun h2 T I2 hT F2 => ?_
  refine flight_ok none I2 hT F2 fun h3 I3 F3 => ?_
  obtain ⟨oe, vs, oT, ts, he, hc, _⟩ := id F3
  refine wpAny_handleBy_cons (codeAny_handlers_test (ld_glob (X := hnd (pnd X (X.pn ++ pins)) e) (I3.hnd e) hg hm ?_ hdb)) (by intro q; cases q)
  refine excMatches_own (s := { s1 with heap := h3 }) I3.kIn he hc hC hD hDC (codeAny_handlers_suite ?_)
  refine flight_ok none I3 hT F3 fun h4 I4 F4 => ?_
  refine wpAny_mono (hh (X.pn ++ pins) e [] _ _ _ D (I4.hnd e) w1) (fun f s7 q => ?_) fun _ _ z => False.elim z
  have go : ∀ {σ7 H7}, Inv (hnd (pnd X (X.pn ++ pins)) e) [] σ7 H7 s7 -> Inv X pins σ7 H7 s7 := fun {σ7 H7} J => Inv.unpnd (Inv.unhnd I.ok.hd J)
  cases f with
  | next => obtain ⟨σ7, H7, J, q7⟩ := q; exact ⟨_, _, go J, q7⟩
  | brk => obtain ⟨σ7, H7, J, q7⟩ := q; exact ⟨_, _, go J, q7⟩
  | cont => obtain ⟨σ7, H7, J, q7⟩ := q; exact ⟨_, _, go J, q7⟩
  | ret u => obtain ⟨v, σ7, H7, J, r, q7⟩ := q; exact ⟨v, _, _, go J, r, q7⟩
end L2
namespace TB
structure Good (ps : List (Int × Int)) : Prop where
 lo : 1 <= ps.length
 hi : ps.length <= 5
 each : ∀ (i : Nat) p, ps[i]? = some p -> 0 <= p.1 /\ 1 <= p.2
 next : ∀ (i : Nat) p q, ps[i]? = some p -> ps[i + 1]? = some q -> p.1 <= q.1 /\ q.2 % p.2 = 0
def GoneOk (g : Option Int) (last : Int) : Prop := ∀ z, g = some z -> last <= z
end TB
namespace TB
def cut (d a w : Int) : Int := (d - a) / w * w
def Bd (x : Int) : Prop := -(10 ^ 45) < x /\ x < 10 ^ 45
def Sized (ps : List (Int × Int)) : Prop := ∀ (i : Nat) p, ps[i]? = some p -> 0 <= p.1 /\ p.1 < 10 ^ 45 /\ 1 <= p.2 /\ p.2 < 10 ^ 45
theorem div_b {x w B : Int} (hw : 1 <= w) (hB : 0 <= B) (h1 : -B <= x) (h2 : x < B) : -B <= x / w /\ x / w < B := by
 have hBw : B * 1 <= B * w := Int.mul_le_mul_of_nonneg_left hw hB
 constructor
 ·refine Int.le_ediv_of_mul_le (by omega) ?_
  have : -B * w = -(B * w) := Int.neg_mul _ _
  omega
 ·exact Int.ediv_lt_of_lt_mul (by omega) (by omega)
theorem cut_le {d a w : Int} (hw : 1 <= w) : cut d a w <= d - a := by
 have h := Int.emod_add_mul_ediv (d - a) w
 have h1 := Int.emod_nonneg (d - a) (show w ≠ 0 by omega)
 unfold cut
 rw [Int.mul_comm] at h
 omega
theorem cut_gt {d a w : Int} (hw : 1 <= w) : d - a < cut d a w + w := by
 have h := Int.emod_add_mul_ediv (d - a) w
 have h1 := Int.emod_lt_of_pos (d - a) (show 0 < w by omega)
 unfold cut
 rw [Int.mul_comm] at h
 omega
theorem cut_bd {d a w : Int} (hd : Bd d) (ha : 0 <= a) (ha' : a < 10 ^ 45) (hw : 1 <= w) (hw' : w < 10 ^ 45) : -(4 * 10 ^ 45) < cut d a w /\ cut d a w < 4 * 10 ^ 45 := by
 have h1 := cut_le (d := d) (a := a) hw
 have h2 := cut_gt (d := d) (a := a) hw
 unfold Bd at hd
 omega
theorem last_get {ps : List (Int × Int)} {p : Int × Int} (h : ps[ps.length - 1]? = some p) : ps.getLast?.getD (0, 1) = p := by
 rw [List.getLast?_eq_getElem?, h]; rfl
end TB
namespace TB
end TB
namespace TB
open PySem L2
def PairAt (H : Hp) (v : V) (p : Int × Int) : Prop := ∃ a, v = .ref a /\ H a = some (.tup [.int p.1, .int p.2])
def Pairs (H : Hp) (xs : List V) (ps : List (Int × Int)) : Prop := Paired (PairAt H) xs ps
theorem PairAt.same {H H' : Hp} (s : Same H H') {v : V} {p : Int × Int} : PairAt H v p -> PairAt H' v p := fun ⟨a, e, h⟩ => ⟨a, e, s _ _ h⟩
def TupS (H H' : Hp) : Prop := ∀ b xs, H b = some (.tup xs) -> H' b = some (.tup xs)
theorem Same.tup {H H' : Hp} (s : Same H H') : TupS H H' := fun b xs h => s b _ h
theorem PairAt.tupS {H H' : Hp} (s : TupS H H') {v : V} {p : Int × Int} : PairAt H v p -> PairAt H' v p := fun ⟨a, e, h⟩ => ⟨a, e, s _ _ h⟩
theorem Pairs.tupS {H H' : Hp} (s : TupS H H') : ∀ {xs : List V} {ps : List (Int × Int)}, Pairs H xs ps -> Pairs H' xs ps
 | _, _, .nil => .nil
 | _, _, .cons r t => .cons (r.tupS s) (Pairs.tupS s t)
theorem Pairs.same {H H' : Hp} (s : Same H H') {xs : List V} {ps : List (Int × Int)} (h : Pairs H xs ps) : Pairs H' xs ps := Pairs.tupS (Same.tup s) h
theorem Pairs.length {H : Hp} : ∀ {xs : List V} {ps : List (Int × Int)}, Pairs H xs ps -> xs.length = ps.length
 | _, _, .nil => rfl
 | _, _, .cons _ t => by simp [Pairs.length t]
theorem Pairs.get {H : Hp} : ∀ {xs : List V} {ps : List (Int × Int)} {i : Nat} {x : V}, Pairs H xs ps -> xs[i]? = some x -> ∃ p, ps[i]? = some p /\ PairAt H x p
 | _, _, _, _, .nil, e => by simp at e
 | _, _, 0, _, .cons r _, e => by simp at e; subst e; exact ⟨_, rfl, r⟩
 | _, _, i + 1, x, .cons _ t, e => by
  obtain ⟨u, h1, h2⟩ := Pairs.get (i := i) (x := x) t (by simpa using e)
  exact ⟨u, by simpa using h1, h2⟩
theorem Pairs.get' {H : Hp} : ∀ {xs : List V} {ps : List (Int × Int)} {i : Nat} {p : Int × Int}, Pairs H xs ps -> ps[i]? = some p -> ∃ x, xs[i]? = some x /\ PairAt H x p
 | _, _, _, _, .nil, e => by simp at e
 | _, _, 0, _, .cons r _, e => by simp at e; subst e; exact ⟨_, rfl, r⟩
 | _, _, i + 1, x, .cons _ t, e => by
  obtain ⟨u, h1, h2⟩ := Pairs.get' (i := i) (p := x) t (by simpa using e)
  exact ⟨u, by simpa using h1, h2⟩
theorem Pairs.snoc {H : Hp} {v : V} {p : Int × Int} (r : PairAt H v p) : ∀ {xs : List V} {ps : List (Int × Int)}, Pairs H xs ps -> Pairs H (xs ++ [v]) (ps ++ [p])
 | _, _, .nil => .cons r .nil
 | _, _, .cons q t => .cons q (Pairs.snoc r t)
def dPair (p : Int × Int) : PyData := .tuple [.int p.1, .int p.2]
def qdp (ps : List (Int × Int)) : PyData := .list (ps.map dPair)
theorem lay_map : ∀ ps : List (Int × Int), PyData.canLayAll0 (ps.map dPair) = true
 | [] => rfl
 | p :: r => by simp [PyData.canLayAll0, dPair, PyData.canLay0, lay_map r]
theorem qdu (ps : List (Int × Int)) : (qdp ps).canLay0 = true := by simp [qdp, PyData.canLay0, lay_map]
theorem dep_map : ∀ ps : List (Int × Int), PyData.depthAll (ps.map dPair) <= 1
 | [] => by simp [PyData.depthAll]
 | p :: r => by
  have := dep_map r
  simp [PyData.depthAll, dPair, PyData.depth]
  omega
theorem dep_pairs (ps : List (Int × Int)) : (qdp ps).depth <= 20 := by
 have := dep_map ps
 simp [qdp, PyData.depth]; omega
theorem Pairs.reps {K : Frag} {H : Hp} : ∀ {xs : List V} {ps : List (Int × Int)}, Pairs H xs ps -> Reps K H xs (ps.map dPair)
 | _, _, .nil => .nil
 | _, _, .cons ⟨a, e, h⟩ t => by
  subst e
  exact .cons (.tup (SqT.of h) (.cons (.int _) (.cons (.int _) .nil))) (Pairs.reps t)
theorem Pairs.rep {K : Frag} {H : Hp} {l : Addr} {xs : List V} {ps : List (Int × Int)} (h : H l = some (.lst xs)) (r : Pairs H xs ps) : Rep K H (.ref l) (qdp ps) := .lst (SqL.of h) r.reps
theorem reps_ints {K : Frag} {H : Hp} : ∀ ns : List Int, Reps K H (ns.map V.int) (ns.map PyData.int)
 | [] => .nil
 | n :: r => .cons (.int n) (reps_ints r)
theorem lay_intsA : ∀ ns : List Int, PyData.canLayAll0 (ns.map PyData.int) = true
 | [] => rfl
 | n :: r => by simp [PyData.canLayAll0, PyData.canLay0, lay_intsA r]
theorem dep_intsA : ∀ ns : List Int, PyData.depthAll (ns.map PyData.int) = 0
 | [] => rfl
 | n :: r => by simp [PyData.depthAll, PyData.depth, dep_intsA r]
def gv : Option Int -> V
 | none => .non
 | some i => .int i
theorem ks_ga : ¬ (("kept_steps" : Str) = "gone_age") := by decide +kernel
def rf (l : Addr) (g : V) : List (Str × V) := putF "gone_age" g (putF "kept_steps" (.ref l) [])
theorem rf_ks (l : Addr) (g : V) : (rf l g).lookup ("kept_steps" : Str) = some (.ref l) := by
 unfold rf
 rw [qap, if_neg ks_ga, qap, if_pos rfl]
theorem rf_ga (l : Addr) (g : V) : (rf l g).lookup ("gone_age" : Str) = some g := by
 unfold rf
 rw [qap, if_pos rfl]
theorem rf_no (l : Addr) (g : V) {m : Str} (h1 : ¬ m = "gone_age") (h2 : ¬ m = "kept_steps") : (rf l g).lookup m = none := by
 unfold rf
 rw [qap, if_neg h1, qap, if_neg h2]
 rfl
structure RuleAt (C : Addr) (H : Hp) (r l : Addr) (ps : List (Int × Int)) (g : Option Int) : Prop where
 ob : ∃ dx, H r = some (.ins C dx (rf l (gv g)))
 ls : ∃ xs, H l = some (.lst xs) /\ Pairs H xs ps
theorem RuleAt.same {C : Addr} {H H' : Hp} {r l : Addr} {ps : List (Int × Int)} {g : Option Int} (s : Same H H') (h : RuleAt C H r l ps g) : RuleAt C H' r l ps g :=
 ⟨let ⟨dx, e⟩ := h.ob; ⟨dx, s _ _ e⟩, let ⟨xs, e, p⟩ := h.ls; ⟨xs, s _ _ e, p.same s⟩⟩
theorem atI_m1 {xs : List V} {v : V} (h : xs[xs.length - 1]? = some v) : atI xs (-1) = some v := by
 have hl : xs.length - 1 < xs.length := (List.getElem?_eq_some_iff.mp h).1
 have e : ixN xs.length (-1) = some (xs.length - 1) := by
  unfold ixN
  rw [if_neg (by decide), if_pos (by omega)]
  congr 1; omega
 unfold atI
 rw [e]; exact h
theorem at4 (x a b c d : Int) : atI [V.int a, V.int b, V.int c, V.int d] (x % 4) = some (.int (if x % 4 = 0 then a else if x % 4 = 1 then b else if x % 4 = 2 then c else d)) := by
 have h : x % 4 = 0 \/ x % 4 = 1 \/ x % 4 = 2 \/ x % 4 = 3 := by omega
 rcases h with h | h | h | h <;> rw [h] <;> rfl
theorem at3 (x a b c : Int) : atI [V.int a, V.int b, V.int c] (x % 3) = some (.int (if x % 3 = 0 then a else if x % 3 = 1 then b else c)) := by
 have h : x % 3 = 0 \/ x % 3 = 1 \/ x % 3 = 2 := by omega
 rcases h with h | h | h <;> rw [h] <;> rfl
theorem cut1 (xs : List V) : cutV xs (some 1) none = xs.drop 1 := by
 unfold cutV
 rw [HT.sIx_none, show (some (1 : Int)) = some ((1 : Nat) : Int) from rfl, HT.sIx_nat]
 by_cases h : 1 <= xs.length
 ·rw [Nat.min_eq_left h]
  exact List.take_of_length_le (by simp)
 ·have e : xs = [] := by cases xs with | nil => rfl | cons _ _ => simp at h
  subst e; rfl
def sp_is_whole : Sp := fun vs H Q _ => ∃ x, vs = [x] /\ ((∃ i, x = .int i /\ Q (.bl true) H))
def sp_is_step : Sp := fun vs H Q _ => ∃ x p, vs = [x] /\ PairAt H x p /\ Q (.bl true) H
def sp_check_one_step : Sp := fun vs H Q _ => ∃ x p, vs = [x] /\ PairAt H x p /\ 0 <= p.1 /\ 1 <= p.2 /\ Q .non H
def sp_check_next_step : Sp := fun vs H Q _ => ∃ x y p q, vs = [x, y] /\ PairAt H x p /\ PairAt H y q /\ 1 <= p.2 /\ p.1 <= q.1 /\ q.2 % p.2 = 0 /\ Q .non H
def sp_check_steps : Sp := fun vs H Q _ => ∃ l xs ps, vs = [.ref l] /\ H l = some (.lst xs) /\ Pairs H xs ps /\ Good ps /\ ∀ H', Same H H' -> Q .non H'
def sp_check_gone : Sp := fun vs H Q _ => ∃ g last, vs = [gv g, .int last] /\ GoneOk g last /\ Q .non H
def sp_gone (C : Addr) : Sp := fun vs H Q _ => ∃ r l ps g, vs = [.ref r] /\ RuleAt C H r l ps g /\ Q (gv g) H
def sp_law (K : Frag) : Sp := fun vs H Q _ => ∃ (a : Addr) (ns : List Int), vs = [.ref a] /\ SqL K H a (ns.map V.int) /\ ns.length <= 63 /\ ∀ H', Q (.bl true) H'
end TB
namespace TB
open PySem L2
theorem New.after {H H1 H2 : Hp} {p : Addr} {o : HO} (s : Same H H1) (n : New H1 H2 p o) : New H H2 p o := ⟨s.trans n.same, s.free n.fresh, n.at_⟩
def lw (ps : List (Int × Int)) : Int := (ps.getLast?.getD (0, 1)).2
def eV (ps : List (Int × Int)) (g : Option Int) (d : Int) : List V := (ps.map fun p => V.int (cut d p.1 p.2)) ++ [gv (g.map fun z => cut d z (lw ps))]
def GBd (g : Option Int) : Prop := ∀ z, g = some z -> 0 <= z /\ z < 10 ^ 45
structure Pr (ps : List (Int × Int)) (g : Option Int) : Prop where
 good : Good ps
 size : Sized ps
 gone : ∀ p, ps[ps.length - 1]? = some p -> GoneOk g p.1
 gb : GBd g
theorem Pr.last {ps : List (Int × Int)} {g : Option Int} (P : Pr ps g) : ∃ p, ps[ps.length - 1]? = some p /\ lw ps = p.2 := by
 have hl := P.good.lo
 refine ⟨ps[ps.length - 1]'(by omega), List.getElem?_eq_getElem _, ?_⟩
 unfold lw
 rw [last_get (List.getElem?_eq_getElem _)]
theorem Pairs.but {H H' : Hp} {m : Addr} {o : HO} {xs : List V} {ps : List (Int × Int)} (h : Pairs H xs ps) (b : But m H H') (hm : H m = some o) (nt : ∀ xs, o ≠ .tup xs) : Pairs H' xs ps := h.tupS (b.tup hm nt)
theorem lst_nt {xs : List V} : ∀ ys, (HO.lst xs) ≠ .tup ys := fun _ z => by cases z
theorem ins_nt {C dx : Addr} {fs : List (Str × V)} : ∀ ys, (HO.ins C dx fs) ≠ .tup ys := fun _ z => by cases z
def sp2_init (C : Addr) : Sp := fun vs H Q _ => ∃ r dx l xs ps g, vs = [.ref r, .ref l, gv g] /\ H r = some (.ins C dx []) /\ H l = some (.lst xs) /\ Pairs H xs ps /\ Good ps /\ (∀ p, ps[ps.length - 1]? = some p -> GoneOk g p.1) /\
 ∀ l' H', H l' = none -> RuleAt C H' r l' ps g -> But r H H' -> Q .non H'
def sp2_steps (C : Addr) : Sp := fun vs H Q _ => ∃ r l ps g xs, vs = [.ref r] /\ RuleAt C H r l ps g /\ H l = some (.lst xs) /\ ∀ p H', New H H' p (.lst xs) -> Q (.ref p) H'
def sp_floored : Sp := fun vs H Q _ => ∃ n w, vs = [.int n, .int w] /\ 1 <= w /\ w < 10 ^ 45 /\ -(10 ^ 46) <= n /\ n < 10 ^ 46 /\ Q (.int (n / w * w)) H
def sp_gone_cut (C : Addr) : Sp := fun vs H Q _ => ∃ r l ps g d, vs = [.ref r, .int d] /\ RuleAt C H r l ps g /\ Pr ps g /\ Bd d /\ ∀ H', Same H H' -> Q (gv (g.map fun z => cut d z (lw ps))) H'
def sp_edges_at (C : Addr) : Sp := fun vs H Q _ => ∃ r l ps g d, vs = [.ref r, .int d] /\ RuleAt C H r l ps g /\ Pr ps g /\ Bd d /\ ∀ p H', New H H' p (.lst (eV ps g d)) -> Q (.ref p) H'
def dV : V -> PyData
 | .int i => .int i
 | _ => .none
def Ed (v : V) : Prop := v = .non \/ ∃ i, v = .int i
theorem ed_reps {K : Frag} {H : Hp} : ∀ {vs : List V}, (∀ v ∈ vs, Ed v) -> Reps K H vs (vs.map dV)
 | [], _ => .nil
 | v :: r, h => by
  refine .cons ?_ (ed_reps fun u hu => h u (List.mem_cons_of_mem _ hu))
  rcases h v List.mem_cons_self with e | ⟨i, e⟩
  ·subst e; exact .non
  ·subst e; exact .int i
theorem ed_lay : ∀ vs : List V, PyData.canLayAll0 (vs.map dV) = true
 | [] => rfl
 | v :: r => by
  have : (dV v).canLay0 = true := by cases v <;> rfl
  simp [PyData.canLayAll0, this, ed_lay r]
theorem ed_lay' (vs : List V) : (PyData.list (vs.map dV)).canLay0 = true := by simp [PyData.canLay0, ed_lay]
theorem ed_depA : ∀ vs : List V, PyData.depthAll (vs.map dV) = 0
 | [] => rfl
 | v :: r => by
  have : (dV v).depth = 0 := by cases v <;> rfl
  simp [PyData.depthAll, this, ed_depA r]
theorem ed_dep (vs : List V) : (PyData.list (vs.map dV)).depth <= 20 := by simp [PyData.depth, ed_depA]
theorem mapN {α β : Type} (f : α -> β) (xs : List α) (i : Nat) (x : α) (h : xs[i]? = some x) : (xs.take (i + 1)).map f = (xs.take i).map f ++ [f x] := by
 rw [List.take_succ, h]
 simp
end TB
namespace TB
open PySem L2
theorem atI_mod {xs : List V} (h : 1 <= xs.length) (x : Int) : ∃ (j : Nat) (v : V), atI xs (x % (xs.length : Int)) = some v /\ xs[j]? = some v := by
 have h1 := Int.emod_nonneg x (show (xs.length : Int) ≠ 0 by omega)
 have h2 := Int.emod_lt_of_pos x (show (0 : Int) < xs.length by omega)
 refine ⟨(x % (xs.length : Int)).toNat, xs[(x % (xs.length : Int)).toNat]'(by omega), ?_, List.getElem?_eq_getElem _⟩
 have := atI_nat (xs := xs) (j := (x % (xs.length : Int)).toNat) (List.getElem?_eq_getElem (by omega))
 rwa [Int.toNat_of_nonneg h1] at this
end TB
namespace TB
def mc (p e : Int × Int) : Int := (e.1 - p.1 + e.2 - 1) / p.2
end TB
namespace TB
open PySem L2
theorem gname_ {i : Nat} {v : V} {σ : St} {H : Hp} {K : St -> Hp -> Prop} (h : K (σ.set i (some v)) H) : gName i v σ H K := h
theorem lc_zipN {K : Frag} {a b : Addr} {xs ys : List V} {g : TG} {tc : TT} {te : TE} {Q : VK} {σ : St} {H : Hp} (Pv : Nat -> List V -> Hp -> Prop) (hz : xs.length <= sizeLine) (h0 : Pv 0 [] H) (hl : ∀ i zs H, Pv i zs H -> SqL K H a xs /\ SqL K H b ys /\ zs.length <= i)
  (hs : ∀ i x y zs H p H', xs[i]? = some x -> ys[i]? = some y -> New H H' p (.tup [x, y]) -> Pv i zs H -> g (.ref p) σ H' fun σ4 H4 => tc σ4 H4 fun b H5 => if b = true then te σ4 H5 fun v H6 => Pv (i + 1) (zs ++ [v]) H6 else Pv (i + 1) zs H5)
  (hd : ∀ i zs H p H', i = min xs.length ys.length -> Pv i zs H -> New H H' p (.lst zs) -> Q (.ref p) H') : lcGoal (Itz K a b) Q g tc te σ H :=
 lc_zip Pv hz h0 hl (fun i x y zs H p e1 e2 hn p' => hs i x y zs H p _ e1 e2 (qbd hn) p') fun i zs H p e p' hp => hd i zs H p _ e p' (qbd hp)
theorem lc_rangeN {lo : Int} {n : Nat} {g : TG} {tc : TT} {te : TE} {Q : VK} {σ : St} {H : Hp} (Pv : Nat -> List V -> Hp -> Prop) (hz : n <= sizeLine) (h0 : Pv 0 [] H) (hl : ∀ i ys H, Pv i ys H -> ys.length <= i)
  (hs : ∀ i ys H, i < n -> Pv i ys H -> g (.int (lo + i)) σ H fun σ4 H4 => tc σ4 H4 fun b H5 => if b = true then te σ4 H5 fun v H6 => Pv (i + 1) (ys ++ [v]) H6 else Pv (i + 1) ys H5)
  (hd : ∀ ys H p H', Pv n ys H -> New H H' p (.lst ys) -> Q (.ref p) H') : lcGoal (Itr lo n) Q g tc te σ H :=
 lc_range Pv hz h0 hl hs fun ys H p p' hp => hd ys H p _ p' (qbd hp)
end TB
namespace TB
open PySem L2
end TB
namespace TB
open PySem L2
theorem iteN {c A B : Prop} [Decidable c] (hc : ¬ c) (h : A) : if (!decide c) = true then A else B := by rw [decide_eq_false hc]; exact iteT h
def gE : V -> V -> V
 | .non, y => y
 | .int i, .int j => .int (if j > i then j else i)
 | x, _ => x
theorem gE_comm {x y : V} (hx : Ed x) (hy : Ed y) : gE x y = gE y x := by
 rcases hx with rfl | ⟨i, rfl⟩ <;> rcases hy with rfl | ⟨j, rfl⟩ <;> try rfl
 simp only [gE]
 congr 1
 split <;> split <;> omega
theorem gEs_comm : ∀ {xs ys : List V}, (∀ v ∈ xs, Ed v) -> (∀ v ∈ ys, Ed v) -> List.zipWith gE xs ys = List.zipWith gE ys xs
 | [], ys, _, _ => by simp
 | x :: xs, [], _, _ => rfl
 | x :: xs, y :: ys, h1, h2 => by
  simp only [List.zipWith_cons_cons]
  rw [gE_comm (h1 x List.mem_cons_self) (h2 y List.mem_cons_self), gEs_comm (fun v hv => h1 v (List.mem_cons_of_mem _ hv)) fun v hv => h2 v (List.mem_cons_of_mem _ hv)]
theorem zip_get {xs ys : List V} {i : Nat} {x y : V} (h1 : xs[i]? = some x) (h2 : ys[i]? = some y) : (List.zipWith gE xs ys)[i]? = some (gE x y) := by
 rw [List.getElem?_zipWith, h1, h2]
theorem takeN {α : Type} (xs : List α) (i : Nat) (x : α) (h : xs[i]? = some x) : xs.take (i + 1) = xs.take i ++ [x] := by
 rw [List.take_succ, h]; rfl
def sp_greater_edge : Sp := fun vs H Q _ => ∃ x y, vs = [x, y] /\ Ed x /\ Ed y /\ Q (gE x y) H
def sp_greater (C : Addr) : Sp := fun vs H Q E => ∃ a b xs ys, vs = [.ref a, .ref b] /\ H a = some (.lst xs) /\ H b = some (.lst ys) /\ (∀ v ∈ xs, Ed v) /\ (∀ v ∈ ys, Ed v) /\ xs.length <= 1000 /\
 (xs.length = ys.length -> ∀ p H', New H H' p (.lst (List.zipWith gE xs ys)) -> Q (.ref p) H') /\ (xs.length ≠ ys.length -> E (.ref C) none H)
theorem gv_ed (g : Option Int) : Ed (gv g) := by cases g with
 | none => exact .inl rfl
 | some z => exact .inr ⟨z, rfl⟩
def notN (v : V) : Bool := !decide (v = V.non)
theorem ed2 {x y : V} (hx : Ed x) (hy : Ed y) : ∃ ns : List Int, [x, y].filter notN = ns.map V.int /\ ((ns = [] /\ gE x y = .non) \/ (ns ≠ [] /\ ∃ m, gE x y = .int m /\ m ∈ ns /\ ∀ a ∈ ns, a <= m)) := by
 rcases hx with rfl | ⟨i, rfl⟩ <;> rcases hy with rfl | ⟨j, rfl⟩
 ·exact ⟨[], rfl, .inl ⟨rfl, rfl⟩⟩
 ·exact ⟨[j], rfl, .inr ⟨by simp, j, rfl, by simp, by simp⟩⟩
 ·exact ⟨[i], rfl, .inr ⟨by simp, i, rfl, by simp, by simp⟩⟩
 ·refine ⟨[i, j], rfl, .inr ⟨by simp, _, rfl, ?_, ?_⟩⟩
  ·split <;> simp
  ·intro a ha
   simp only [List.mem_cons, List.not_mem_nil, or_false] at ha
   rcases ha with rfl | rfl <;> split <;> omega
theorem filt_t {xs : List V} {i : Nat} {x : V} (h : xs[i]? = some x) (hn : notN x = true) : (xs.take (i + 1)).filter notN = (xs.take i).filter notN ++ [x] := by
 rw [takeN xs i x h, List.filter_append]; simp [hn]
theorem filt_f {xs : List V} {i : Nat} {x : V} (h : xs[i]? = some x) (hn : ¬ notN x = true) : (xs.take (i + 1)).filter notN = (xs.take i).filter notN := by
 rw [takeN xs i x h, List.filter_append]; simp [hn]
theorem filt_len (xs : List V) (i : Nat) : ((xs.take i).filter notN).length <= i := Nat.le_trans (List.length_filter_le _ _) (by rw [List.length_take]; omega)
theorem lc_tupN {K : Frag} {a : Addr} {xs : List V} {g : TG} {tc : TT} {te : TE} {Q : VK} {σ : St} {H : Hp} (Pv : Nat -> List V -> Hp -> Prop) (hz : xs.length <= sizeLine) (h0 : Pv 0 [] H) (hl : ∀ i ys H, Pv i ys H -> SqT K H a xs /\ ys.length <= i)
  (hs : ∀ i x ys H, xs[i]? = some x -> Pv i ys H -> g x σ H fun σ4 H4 => tc σ4 H4 fun b H5 => if b = true then te σ4 H5 fun v H6 => Pv (i + 1) (ys ++ [v]) H6 else Pv (i + 1) ys H5)
  (hd : ∀ ys H p H', Pv xs.length ys H -> New H H' p (.lst ys) -> Q (.ref p) H') : lcGoal (Itt K a) Q g tc te σ H :=
 lc_tup Pv hz h0 hl hs fun ys H p p' hp => hd ys H p _ p' (qbd hp)
end TB
namespace TB
open PySem L2
def EB (x : Int) : Prop := -(4 * 10 ^ 45) < x /\ x < 4 * 10 ^ 45
structure EdS (EV : List V) (es : List Int) (ge : Option Int) : Prop where
 eq : EV = es.map V.int ++ [gv ge]
 bd : ∀ x ∈ es, EB x
 gb : ∀ z, ge = some z -> EB z
theorem EdS.ed {EV : List V} {es : List Int} {ge : Option Int} (h : EdS EV es ge) : ∀ v ∈ EV, Ed v := by
 intro v hv
 rw [h.eq] at hv
 rcases List.mem_append.mp hv with z | z
 ·obtain ⟨i, _, e⟩ := List.mem_map.mp z; exact .inr ⟨i, e.symm⟩
 ·rw [List.mem_singleton.mp z]; exact gv_ed ge
theorem EdS.of {ps : List (Int × Int)} {g : Option Int} {d : Int} (P : Pr ps g) (hd : Bd d) : EdS (eV ps g d) (ps.map fun p => cut d p.1 p.2) (g.map fun z => cut d z (lw ps)) := by
 refine ⟨by unfold eV; rw [List.map_map]; rfl, fun x hx => ?_, fun z hz => ?_⟩
 ·obtain ⟨p, hp, rfl⟩ := List.mem_map.mp hx
  obtain ⟨i, hi, e⟩ := List.getElem_of_mem hp
  have hs := P.size i p (by rw [<- e]; exact List.getElem?_eq_getElem hi)
  exact cut_bd hd hs.1 hs.2.1 hs.2.2.1 hs.2.2.2
 ·cases g with
  | none => cases hz
  | some y =>
   cases hz
   obtain ⟨p, hp, ep⟩ := P.last
   have hs := P.size _ p hp
   have hg := P.gb y rfl
   rw [ep]
   exact cut_bd hd hg.1 hg.2 hs.2.2.1 hs.2.2.2
def gmax : Option Int -> Option Int -> Option Int
 | none, y => y
 | some i, some j => some (if j > i then j else i)
 | x, none => x
theorem gE_gv (x y : Option Int) : gE (gv x) (gv y) = gv (gmax x y) := by cases x <;> cases y <;> rfl
theorem EdS.max {E1 E2 : List V} {a b : List Int} {g1 g2 : Option Int} (h1 : EdS E1 a g1) (h2 : EdS E2 b g2) (hl : a.length = b.length) : EdS (List.zipWith gE E1 E2) (List.zipWith (fun i j => if j > i then j else i) a b) (gmax g1 g2) := by
 refine ⟨?_, fun x hx => ?_, fun z hz => ?_⟩
 ·rw [h1.eq, h2.eq, List.zipWith_append (by simpa using hl)]
  congr 1
  ·rw [List.zipWith_map_left, List.zipWith_map_right, List.map_zipWith]; rfl
  ·show [gE (gv g1) (gv g2)] = _
   rw [gE_gv]
 ·obtain ⟨i, hi, e⟩ := List.getElem_of_mem hx
  have hi' := hi
  rw [List.length_zipWith] at hi'
  have hia : i < a.length := by omega
  have hib : i < b.length := by omega
  rw [List.getElem_zipWith] at e
  have e1 := h1.bd a[i] (List.getElem_mem _)
  have e2 := h2.bd b[i] (List.getElem_mem _)
  rw [<- e]
  split
  ·exact e2
  ·exact e1
 ·cases g1 with
  | none => exact h2.gb z hz
  | some i =>
   cases g2 with
   | none => exact h1.gb z hz
   | some j =>
    have e1 := h1.gb i rfl
    have e2 := h2.gb j rfl
    simp only [gmax, Option.some.injEq] at hz
    rw [<- hz]
    split
    ·exact e2
    ·exact e1
def wl (ws es : List Int) (t : Int) : List Int := ((ws.zip es).filter fun x => decide (t < x.2)).map (·.1)
def qcp (ge : Option Int) (t : Int) : Prop := ∃ z, ge = some z /\ t < z
def CellOf (ws es : List Int) (ge : Option Int) (t : Int) (o : Option (Int × Int)) : Prop :=
 (∀ e0, es[0]? = some e0 -> (e0 <= t -> o = some (t, 0)) /\ (t < e0 -> (qcp ge t -> o = none) /\ (¬ qcp ge t -> ∃ w, (wl ws es t)[(wl ws es t).length - 1]? = some w /\ o = some (t / w * w, w))))
theorem wl_ne {ws es : List Int} {t w0 e0 : Int} (h1 : ws[0]? = some w0) (h2 : es[0]? = some e0) (h : t < e0) : 1 <= (wl ws es t).length := by
 cases ws with
 | nil => simp at h1
 | cons w r =>
  cases es with
  | nil => simp at h2
  | cons e s =>
   simp at h2
   subst h2
   unfold wl
   rw [List.zip_cons_cons, List.filter_cons_of_pos (by simpa using h)]
   simp
theorem wl_mem {ws es : List Int} {t w : Int} (h : w ∈ wl ws es t) : w ∈ ws := by
 unfold wl at h
 obtain ⟨x, hx, rfl⟩ := List.mem_map.mp h
 exact (List.of_mem_zip (List.mem_filter.mp hx).1).1
theorem wl_t {ws es : List Int} {t : Int} {i : Nat} {w e : Int} (h1 : ws[i]? = some w) (h2 : es[i]? = some e) (h : t < e) : ((((ws.zip es).take (i + 1)).filter fun x => decide (t < x.2)).map (·.1)) = ((((ws.zip es).take i).filter fun x => decide (t < x.2)).map (·.1)) ++ [w] := by
 have hz : (ws.zip es)[i]? = some (w, e) := by rw [List.getElem?_zip_eq_some]; exact ⟨h1, h2⟩
 rw [takeN _ i _ hz, List.filter_append, List.map_append]
 simp [h]
theorem wl_f {ws es : List Int} {t : Int} {i : Nat} {w e : Int} (h1 : ws[i]? = some w) (h2 : es[i]? = some e) (h : ¬ t < e) : ((((ws.zip es).take (i + 1)).filter fun x => decide (t < x.2)).map (·.1)) = ((((ws.zip es).take i).filter fun x => decide (t < x.2)).map (·.1)) := by
 have hz : (ws.zip es)[i]? = some (w, e) := by rw [List.getElem?_zip_eq_some]; exact ⟨h1, h2⟩
 rw [takeN _ i _ hz, List.filter_append, List.map_append]
 simp [h]
theorem wl_all {ws es : List Int} {t : Int} {i : Nat} (h : (ws.zip es).length <= i) : ((((ws.zip es).take i).filter fun x => decide (t < x.2)).map (·.1)) = wl ws es t := by
 rw [List.take_of_length_le h]; rfl
theorem wl_len (ws es : List Int) (t : Int) (i : Nat) : ((((ws.zip es).take i).filter fun x => decide (t < x.2)).map (·.1)).length <= i := by
 rw [List.length_map]
 exact Nat.le_trans (List.length_filter_le _ _) (by rw [List.length_take]; omega)
def CellAt (H : Hp) (v : V) (o : Option (Int × Int)) : Prop := match o with
 | none => v = .non
 | some p => PairAt H v p
theorem CellOf.uniq {ws es : List Int} {ge : Option Int} {t : Int} {o o' : Option (Int × Int)} {e0 : Int} (h0 : es[0]? = some e0) (h : CellOf ws es ge t o) (h' : CellOf ws es ge t o') : o = o' := by
 obtain ⟨a1, a2⟩ := h e0 h0
 obtain ⟨b1, b2⟩ := h' e0 h0
 by_cases hc : e0 <= t
 ·rw [a1 hc, b1 hc]
 ·have hlt : t < e0 := by omega
  by_cases hg : qcp ge t
  ·rw [(a2 hlt).1 hg, (b2 hlt).1 hg]
  ·obtain ⟨w, hw, rfl⟩ := (a2 hlt).2 hg
   obtain ⟨w', hw', rfl⟩ := (b2 hlt).2 hg
   rw [hw] at hw'
   cases hw'
   rfl
def sp_is_gone : Sp := fun vs H Q _ => ∃ (e : Addr) (es : List Int) (ge : Option Int) (t : Int), vs = [.ref e, .int t] /\ H e = some (.lst (es.map V.int ++ [gv ge])) /\ (qcp ge t -> Q (.bl true) H) /\ (¬ qcp ge t -> Q (.bl false) H)
def sp_width_at (C : Addr) : Sp := fun vs H Q _ => ∃ (r l : Addr) (ps : List (Int × Int)) (g : Option Int) (e : Addr) (es : List Int) (ge : Option Int) (t e0 : Int), vs = [.ref r, .ref e, .int t] /\ RuleAt C H r l ps g /\ H e = some (.lst (es.map V.int ++ [gv ge])) /\ es.length = ps.length /\ 1 <= ps.length /\ ps.length <= 5 /\ es[0]? = some e0 /\ t < e0 /\
 ∀ w H', (wl (ps.map (·.2)) es t)[(wl (ps.map (·.2)) es t).length - 1]? = some w -> Same H H' -> Q (.int w) H'
def TB46 (t : Int) : Prop := -(10 ^ 46) <= t /\ t < 10 ^ 46
def sp_cell_at (C : Addr) : Sp := fun vs H Q _ => ∃ (r l : Addr) (ps : List (Int × Int)) (g : Option Int) (e : Addr) (es : List Int) (ge : Option Int) (t : Int), vs = [.ref r, .ref e, .int t] /\ RuleAt C H r l ps g /\ H e = some (.lst (es.map V.int ++ [gv ge])) /\ es.length = ps.length /\ 1 <= ps.length /\ ps.length <= 5 /\ Sized ps /\ TB46 t /\
 ∀ v o H', CellOf (ps.map (·.2)) es ge t o -> CellAt H' v o -> Same H H' -> Q v H'
def sp_lcell (K : Frag) : Sp := fun vs H Q _ => ∃ (a : Addr) (ns : List Int) (k : Int), vs = [.ref a, .int k] /\ SqL K H a (List.map V.int ns) /\ 0 <= k /\ ∀ i, Q (.int i) H
def sp_ledg : Sp := fun vs H Q _ => ∃ (l : Addr) (xs : List V) (ps : List (Int × Int)) (g : Option Int) (d : Int), vs = [.ref l, gv g, .int d] /\ H l = some (.lst xs) /\ Pairs H xs ps /\ Pr ps g /\ Bd d /\ ∀ p H', New H H' p (.lst (eV ps g d)) -> Q (.ref p) H'
def sp_lgreater : Sp := fun vs H Q _ => ∃ (a b : Addr) (xs ys : List V), vs = [.ref a, .ref b] /\ H a = some (.lst xs) /\ H b = some (.lst ys) /\ (∀ v ∈ xs, Ed v) /\ (∀ v ∈ ys, Ed v) /\ xs.length = ys.length /\ xs.length <= 1000 /\ ∀ p H', New H H' p (.lst (List.zipWith gE xs ys)) -> Q (.ref p) H'
theorem CellOf.a {ws es : List Int} {ge : Option Int} {t e0 : Int} (h0 : es[0]? = some e0) (h : e0 <= t) : CellOf ws es ge t (some (t, 0)) := fun x hx => by
 rw [h0] at hx; cases hx
 exact ⟨fun _ => rfl, fun h' => absurd h (by omega)⟩
theorem CellOf.b {ws es : List Int} {ge : Option Int} {t e0 : Int} (h0 : es[0]? = some e0) (h : t < e0) (hg : qcp ge t) : CellOf ws es ge t none := fun x hx => by
 rw [h0] at hx; cases hx
 exact ⟨fun h' => absurd h (by omega), fun _ => ⟨fun _ => rfl, fun n => absurd hg n⟩⟩
theorem CellOf.c {ws es : List Int} {ge : Option Int} {t e0 w : Int} (h0 : es[0]? = some e0) (h : t < e0) (hg : ¬ qcp ge t) (hw : (wl ws es t)[(wl ws es t).length - 1]? = some w) : CellOf ws es ge t (some (t / w * w, w)) := fun x hx => by
 rw [h0] at hx; cases hx
 exact ⟨fun h' => absurd h (by omega), fun _ => ⟨fun n => absurd n hg, fun _ => ⟨w, hw, rfl⟩⟩⟩
theorem fl_eq (t w : Int) : t - t % w = t / w * w := by
 have := Int.mul_ediv_add_emod t w
 rw [Int.mul_comm] at this
 omega
theorem qd7 {K : Frag} {H H' : Hp} {a : Addr} {xs : List V} (s : Same H H') (h : SqL K H a xs) : SqL K H' a xs := by
 rcases h with (h | ⟨o, h⟩) | h
 ·exact .inl (.inl (s _ _ h))
 ·exact .inl (.inr ⟨o, s _ _ h⟩)
 ·exact .inr h
theorem at_in (ns : List Int) (h : 0 < ns.length) (x : Int) : ∃ m, m ∈ ns /\ atI (ns.map V.int) (x % ((ns.map V.int).length : Int)) = some (V.int m) := by
 rw [List.length_map]
 have h1 := Int.emod_nonneg x (show (ns.length : Int) ≠ 0 by omega)
 have h2 := Int.emod_lt_of_pos x (show (0 : Int) < ns.length by omega)
 have hl : (x % (ns.length : Int)).toNat < ns.length := by omega
 refine ⟨ns[(x % (ns.length : Int)).toNat], List.getElem_mem _, ?_⟩
 have := atI_nat (xs := ns.map V.int) (j := (x % (ns.length : Int)).toNat) (v := V.int ns[(x % (ns.length : Int)).toNat]) (by simp [hl])
 rwa [Int.toNat_of_nonneg h1] at this
theorem notN_ints : ∀ es : List Int, (es.map V.int).filter notN = es.map V.int
 | [] => rfl
 | e :: r => by rw [List.map_cons, List.filter_cons_of_pos (by rfl), notN_ints r]
theorem known (es : List Int) (ge : Option Int) : (es.map V.int ++ [gv ge]).filter notN = (es ++ ge.toList).map V.int := by
 rw [List.filter_append, notN_ints, List.map_append]
 cases ge <;> rfl
theorem known_b {EV : List V} {es : List Int} {ge : Option Int} (E : EdS EV es ge) : ∀ x ∈ es ++ ge.toList, EB x := by
 intro x hx
 rcases List.mem_append.mp hx with h | h
 ·exact E.bd x h
 ·cases ge with
  | none => cases h
  | some y => simp at h; subst h; exact E.gb _ rfl
theorem qd8 {K : Frag} {a : Addr} {xs : List V} {g : TG} {tc : TT} {te : TE} {Q : VK} {σ : St} {H : Hp} (Pv : Nat -> List V -> Hp -> Prop) (hz : xs.length <= sizeLine) (h0 : Pv 0 [] H) (hl : ∀ i ys H, Pv i ys H -> SqL K H a xs /\ ys.length <= i)
  (hs : ∀ i x ys H, xs[i]? = some x -> Pv i ys H -> g x σ H fun σ4 H4 => tc σ4 H4 fun b H5 => if b = true then te σ4 H5 fun v H6 => Pv (i + 1) (ys ++ [v]) H6 else Pv (i + 1) ys H5)
  (hd : ∀ ys H p H', Pv xs.length ys H -> New H H' p (.lst ys) -> Q (.ref p) H') : lcGoal (Itl K a) Q g tc te σ H :=
 lc_list Pv hz h0 hl hs fun ys H p p' hp => hd ys H p _ p' (qbd hp)
theorem mul20 {w k : Int} (h1 : 1 <= w) (h2 : w <= 10 ^ 35) (h3 : -20 <= k) (h4 : k <= 20) : -(20 * 10 ^ 35) <= w * k /\ w * k <= 20 * 10 ^ 35 := by
 have a := Int.mul_le_mul_of_nonneg_left h4 (show 0 <= w by omega)
 have b := Int.mul_le_mul_of_nonneg_left h3 (show 0 <= w by omega)
 omega
end TB
namespace TB
open PySem L2
def vals (rs : List (Int × Int)) : List Int := rs.map fun p => p.1
def cnts (rs : List (Int × Int)) : List Int := rs.map fun p => p.2
def prds (rs : List (Int × Int)) : List Int := rs.map fun p => p.1 * p.2
def rN (rs : List (Int × Int)) : Int := (cnts rs).sum
def rT (rs : List (Int × Int)) : Int := (prds rs).sum
structure HeapOf (rs : List (Int × Int)) (vm vt vl vg : Int) : Prop where
 m : vm = rN rs
 t : vt = rT rs
 lo : vl ∈ vals rs
 lo' : ∀ a ∈ vals rs, vl <= a
 hi : vg ∈ vals rs
 hi' : ∀ a ∈ vals rs, a <= vg
def dTup (ns : List Int) : PyData := .tuple (ns.map PyData.int)
theorem lay_tup (ns : List Int) : (dTup ns).canLay0 = true := by simp [dTup, PyData.canLay0, lay_intsA]
theorem rep_tup {K : Frag} {H : Hp} {a : Addr} {ns : List Int} (h : H a = some (.tup (ns.map V.int))) : Rep K H (.ref a) (dTup ns) := .tup (SqT.of h) (reps_ints ns)
theorem mapN' (f : Int × Int -> Int) (rs : List (Int × Int)) {i : Nat} {p : Int × Int} (h : rs[i]? = some p) : ((rs.take (i + 1)).map f).map V.int = ((rs.take i).map f).map V.int ++ [V.int (f p)] := by
 rw [List.take_succ, h]
 simp
theorem lc_pairs {K : Frag} {l : Addr} {xs : List V} {rs : List (Int × Int)} {te : TE} {Q : VK} {σ : St} {H : Hp} (f : Int × Int -> Int) (hl : H l = some (.lst xs)) (hp : Pairs H xs rs) (hz : rs.length <= 200)
  (hs : ∀ p ∈ rs, ∀ Q' : VK, Q' (.int (f p)) H -> te ((σ.set 0 (some (.int p.1))).set 1 (some (.int p.2))) H Q')
  (hd : ∀ a H', New H H' a (.lst ((rs.map f).map V.int)) -> Q (.ref a) H') : lcGoal (Itl K l) Q (gTup K 2 (gCons (gName 0) (gCons (gName 1) gNil))) tYes te σ H := by
 have hlen := hp.length
 refine qd8 (xs := xs) (fun i ys H2 => H2 = H /\ ys = ((rs.take i).map f).map V.int) (Nat.le_of_lt (qaw (by omega))) ⟨rfl, rfl⟩ (fun i ys H2 h2 => ⟨SqL.of (by rw [h2.1]; exact hl), by rw [h2.2]; simp; omega⟩) ?_ ?_
 ·rintro i x ys H2 hi ⟨rfl, rfl⟩
  obtain ⟨p, hpi, a, rfl, ha⟩ := hp.get hi
  refine ⟨a, _, rfl, SqT.of ha, rfl, _, _, rfl, _, _, rfl, rfl, yes_ (iteT ?_)⟩
  refine hs p (List.mem_of_getElem? hpi) _ ⟨rfl, ?_⟩
  rw [mapN' f rs hpi]
 ·rintro ys H2 a H' ⟨rfl, rfl⟩ n
  rw [hlen, List.take_length] at n
  exact hd a H' n
def sp_poured : Sp := fun vs H Q _ => ∃ a b m t lo hi m' t' lo' hi', vs = [.ref a, .ref b] /\ H a = some (.tup [.int m, .int t, .int lo, .int hi]) /\ H b = some (.tup [.int m', .int t', .int lo', .int hi']) /\
 ∀ p H', New H H' p (.tup [.int (m + m'), .int (t + t'), .int (if lo' < lo then lo' else lo), .int (if hi' > hi then hi' else hi)]) -> Q (.ref p) H'
end TB
namespace TB
open PySem L2
structure Under (xs bs : List Int) : Prop where
 len : xs.length = bs.length
 bd : ∀ (i : Nat) x b, xs[i]? = some x -> bs[i]? = some b -> 0 <= x /\ x < b
theorem Under.get {xs bs : List Int} (h : Under xs bs) {i : Nat} {b : Int} (hb : bs[i]? = some b) : ∃ x, xs[i]? = some x /\ 0 <= x /\ x < b := by
 have hi : i < xs.length := by rw [h.len]; exact (List.getElem?_eq_some_iff.mp hb).1
 exact ⟨xs[i], List.getElem?_eq_getElem hi, h.bd i _ b (List.getElem?_eq_getElem hi) hb⟩
theorem qbe {xs : List Int} {i : Nat} {x : Int} (h : xs[i]? = some x) : atI (xs.map V.int) (i : Int) = some (.int x) := atI_nat (by rw [List.getElem?_map, h]; rfl)
theorem get_nat {xs : List Int} {i : Nat} {x : Int} (h : xs[i]? = some x) : (xs.map V.int)[i]? = some (.int x) := by rw [List.getElem?_map, h]; rfl
def ageB : List Int := [3, 4, 10 ^ 21, 4, 10 ^ 21, 4, 10 ^ 21, 4, 10 ^ 21, 4, 10 ^ 21, 4, 10 ^ 21]
def widB : List Int := [5, 3, 10 ^ 7, 3, 10 ^ 7, 3, 10 ^ 7, 3, 10 ^ 7, 3, 10 ^ 7]
theorem ageB_at {k : Nat} (h : k < 6) : ageB[1 + 2 * k]? = some 4 /\ ageB[2 + 2 * k]? = some (10 ^ 21) := by
 match k, h with
 | 0, _ => exact ⟨rfl, rfl⟩
 | 1, _ => exact ⟨rfl, rfl⟩
 | 2, _ => exact ⟨rfl, rfl⟩
 | 3, _ => exact ⟨rfl, rfl⟩
 | 4, _ => exact ⟨rfl, rfl⟩
 | 5, _ => exact ⟨rfl, rfl⟩
theorem widB_at {k : Nat} (h : k < 5) (r : List Int) : (widB ++ r)[1 + 2 * k]? = some 3 /\ (widB ++ r)[2 + 2 * k]? = some (10 ^ 7) := by
 match k, h with
 | 0, _ => exact ⟨rfl, rfl⟩
 | 1, _ => exact ⟨rfl, rfl⟩
 | 2, _ => exact ⟨rfl, rfl⟩
 | 3, _ => exact ⟨rfl, rfl⟩
 | 4, _ => exact ⟨rfl, rfl⟩
structure WsOk (ws : List Int) : Prop where
 lo : 1 <= ws.length
 hi : ws.length <= 5
 each : ∀ (i : Nat) w, ws[i]? = some w -> 1 <= w /\ w <= 10 ^ 35
 next : ∀ (i : Nat) v w, ws[i]? = some v -> ws[i + 1]? = some w -> w % v = 0
structure Grow (fs : List Int) (n : Nat) : Prop where
 len : fs.length = n + 1
 each : ∀ (i : Nat) w, fs[i]? = some w -> 1 <= w /\ w <= 10 ^ (7 * i)
 next : ∀ (i : Nat) v w, fs[i]? = some v -> fs[i + 1]? = some w -> w % v = 0
theorem Grow.one : Grow [1] 0 := ⟨rfl, fun i w h => by
 match i, h with
 | 0, h => cases h; exact ⟨by decide, by decide⟩
 | i + 1, h => simp at h, fun i v w _ h => by simp at h⟩
theorem qcg {α : Type} {fs : List α} {x y : α} {i : Nat} (h : (fs ++ [x])[i]? = some y) : fs[i]? = some y \/ (i = fs.length /\ y = x) := by
 by_cases z : i < fs.length
 ·rw [List.getElem?_append_left z] at h; exact .inl h
 ·rw [List.getElem?_append_right (by omega)] at h
  have hi : i - fs.length = 0 := by
   by_cases y : i - fs.length = 0
   ·exact y
   ·rw [List.getElem?_eq_none (by simp; omega)] at h; cases h
  rw [hi] at h
  exact .inr ⟨by omega, (Option.some.inj h).symm⟩
theorem Grow.step {fs : List Int} {n : Nat} {f c : Int} (h : Grow fs n) (hf : fs[n]? = some f) (c1 : 1 <= c) (c2 : c <= 10 ^ 7) : Grow (fs ++ [f * c]) (n + 1) where
 len := by rw [List.length_append, h.len]; rfl
 each := fun i w hw => by
  rcases qcg hw with hw | ⟨e, rfl⟩
  ·exact h.each i w hw
  ·obtain ⟨f1, f2⟩ := h.each n f hf
   rw [h.len] at e
   subst e
   refine ⟨?_, ?_⟩
   ·have := Int.mul_le_mul (a := 1) (b := 1) f1 c1 (by decide) (by omega)
    omega
   ·have := Int.mul_le_mul f2 c2 (by omega) (Int.pow_nonneg (by decide))
    rw [<- Int.pow_add] at this
    exact this
 next := fun i v w hv hw => by
  rcases qcg hw with hw | ⟨e, rfl⟩
  ·rcases qcg hv with hv | ⟨e, _⟩
   ·exact h.next i v w hv hw
   ·have := (List.getElem?_eq_some_iff.mp hw).1
    omega
  ·have e' : i = n := by have := h.len; omega
   subst e'
   rcases qcg hv with hv | ⟨e2, _⟩
   ·rw [hf] at hv; cases hv
    exact Int.mul_emod_right _ _
   ·omega
theorem pow_le_35 {k : Nat} (h : k <= 5) : (10 : Int) ^ (7 * k) <= 10 ^ 35 := by
 match k, h with
 | 0, _ => decide
 | 1, _ => decide
 | 2, _ => decide
 | 3, _ => decide
 | 4, _ => decide
 | 5, _ => decide
theorem Grow.ws {fs : List Int} {n : Nat} (h : Grow fs n) (h1 : 1 <= n) (h5 : n <= 5) : WsOk (fs.drop 1) where
 lo := by rw [List.length_drop, h.len]; omega
 hi := by rw [List.length_drop, h.len]; omega
 each := fun i w hw => by
  rw [List.getElem?_drop] at hw
  have hi := (List.getElem?_eq_some_iff.mp hw).1
  rw [h.len] at hi
  obtain ⟨a, b⟩ := h.each _ w hw
  exact ⟨a, Int.le_trans b (pow_le_35 (by omega))⟩
 next := fun i v w hv hw => by
  rw [List.getElem?_drop] at hv hw
  exact h.next _ v w hv hw
structure Ag (ws : List Int) (i : Nat) (age : Int) (ps : List (Int × Int)) : Prop where
 len : ps.length = i
 wid : ps.map (·.2) = ws.take i
 each : ∀ (j : Nat) p, ps[j]? = some p -> 0 <= p.1 /\ p.1 <= age
 next : ∀ (j : Nat) p q, ps[j]? = some p -> ps[j + 1]? = some q -> p.1 <= q.1
 a0 : 0 <= age
 a1 : age <= 10 ^ 21 * (i : Int)
theorem Ag.zero (ws : List Int) : Ag ws 0 0 [] := ⟨rfl, rfl, fun j p h => by simp at h, fun j p q h => by simp at h, by omega, by omega⟩
theorem Ag.step {ws : List Int} {i : Nat} {age y w : Int} {ps : List (Int × Int)} (h : Ag ws i age ps) (hw : ws[i]? = some w) (y0 : 0 <= y) (y1 : y <= 10 ^ 21) : Ag ws (i + 1) (age + y) (ps ++ [(age + y, w)]) where
 len := by rw [List.length_append, h.len]; rfl
 wid := by rw [List.map_append, h.wid, List.take_add_one, hw]; rfl
 each := fun j p hp => by
  have a0 := h.a0
  rcases qcg hp with hp | ⟨_, rfl⟩
  ·have := h.each j p hp; omega
  ·dsimp only; omega
 next := fun j p q hp hq => by
  rcases qcg hq with hq | ⟨e, rfl⟩
  ·rcases qcg hp with hp | ⟨e, _⟩
   ·exact h.next j p q hp hq
   ·have := (List.getElem?_eq_some_iff.mp hq).1
    omega
  ·rcases qcg hp with hp | ⟨e2, _⟩
   ·have := h.each j p hp
    dsimp only; omega
   ·omega
 a0 := by have := h.a0; omega
 a1 := by have := h.a1; omega
theorem Ag.pr {ws : List Int} {age : Int} {ps : List (Int × Int)} {g : Option Int} (h : Ag ws ws.length age ps) (W : WsOk ws) (hg : ∀ z, g = some z -> age <= z /\ z <= age + 10 ^ 21) : Pr ps g /\ ps.map (·.2) = ws := by
 have hw : ps.map (·.2) = ws := by rw [h.wid, List.take_length]
 have hl := W.lo
 have hh := W.hi
 have a0 := h.a0
 have a1 := h.a1
 have gw : ∀ {j : Nat} {p : Int × Int}, ps[j]? = some p -> ws[j]? = some p.2 := fun {j p} hp => by rw [<- hw, List.getElem?_map, hp]; rfl
 refine ⟨⟨⟨by rw [h.len]; exact hl, by rw [h.len]; exact hh, fun i p hp => ⟨(h.each i p hp).1, (W.each i _ (gw hp)).1⟩, fun i p q hp hq => ⟨h.next i p q hp hq, W.next i _ _ (gw hp) (gw hq)⟩⟩, fun i p hp => ?_, fun p hp z hz => ?_, fun z hz => ?_⟩, hw⟩
 ·have b := h.each i p hp
  have c := W.each i _ (gw hp)
  omega
 ·have b := h.each _ p hp
  have c := hg z hz
  omega
 ·have c := hg z hz
  omega
def sp_parts : Sp := fun vs H Q _ => ∃ (c : Int) (l : Addr) (bs : List Int), vs = [.int c, .ref l] /\ H l = some (.lst (bs.map V.int)) /\ (∀ b ∈ bs, 1 <= b /\ b < 10 ^ 50) /\ bs.length <= 100 /\ ∀ l' (xs : List Int) H', New H H' l' (.lst (xs.map V.int)) -> Under xs bs -> Q (.ref l') H'
def sp_wid6 : Sp := fun vs H Q _ => ∃ (l : Addr) (xs r : List Int), vs = [.ref l] /\ H l = some (.lst (xs.map V.int)) /\ Under xs (widB ++ r) /\ ∀ l' (ws : List Int) H', New H H' l' (.lst (ws.map V.int)) -> WsOk ws -> Q (.ref l') H'
def sp_ages6 : Sp := fun vs H Q _ => ∃ (l : Addr) (xs : List Int) (lw : Addr) (ws : List Int), vs = [.ref l, .ref lw] /\ H l = some (.lst (xs.map V.int)) /\ Under xs ageB /\ H lw = some (.lst (ws.map V.int)) /\ WsOk ws /\ ∀ t l2 ys ps g H', Same H H' -> H' t = some (.tup [.ref l2, gv g]) -> H' l2 = some (.lst ys) -> Pairs H' ys ps -> Pr ps g -> ps.map (·.2) = ws -> Q (.ref t) H'
end TB
namespace TB
open PySem L2
def sp_mix6 : Sp := fun vs H Q _ => ∃ (c k : Int), vs = [.int c, .int k] /\ ∀ x, 0 <= x -> x < 2147483629 -> Q (.int x) H
def sp_amt6 : Sp := fun vs H Q _ => ∃ (k x : Int), vs = [.int k, .int x] /\ 0 <= k /\ k < 4 /\ 0 <= x /\ ∀ y H', 0 <= y -> y <= x -> Same H H' -> Q (.int y) H'
end TB
namespace TB
open PySem L2
def rof (ru : Addr) (day : Int) (le dy dh : Addr) : List (Str × V) := putF "cell_heaps" (.ref dh) (putF "whole_ones" (.ref dy) (putF "kept_edges" (.ref le) (putF "kept_day" (.int day) (putF "kept_rule" (.ref ru) []))))
section
variable (ru : Addr) (day : Int) (le dy dh : Addr)
theorem rof_kr : (rof ru day le dy dh).lookup ("kept_rule" : Str) = some (.ref ru) := by
 unfold rof; rw [qap, if_neg (by decide +kernel), qap, if_neg (by decide +kernel), qap, if_neg (by decide +kernel), qap, if_neg (by decide +kernel), qap, if_pos rfl]
theorem rof_kd : (rof ru day le dy dh).lookup ("kept_day" : Str) = some (.int day) := by
 unfold rof; rw [qap, if_neg (by decide +kernel), qap, if_neg (by decide +kernel), qap, if_neg (by decide +kernel), qap, if_pos rfl]
theorem rof_ke : (rof ru day le dy dh).lookup ("kept_edges" : Str) = some (.ref le) := by
 unfold rof; rw [qap, if_neg (by decide +kernel), qap, if_neg (by decide +kernel), qap, if_pos rfl]
theorem rof_wo : (rof ru day le dy dh).lookup ("whole_ones" : Str) = some (.ref dy) := by
 unfold rof; rw [qap, if_neg (by decide +kernel), qap, if_pos rfl]
theorem rof_ch : (rof ru day le dy dh).lookup ("cell_heaps" : Str) = some (.ref dh) := by
 unfold rof; rw [qap, if_pos rfl]
theorem rof_no {m : Str} (h1 : ¬ m = "cell_heaps") (h2 : ¬ m = "whole_ones") (h3 : ¬ m = "kept_edges") (h4 : ¬ m = "kept_day") (h5 : ¬ m = "kept_rule") : (rof ru day le dy dh).lookup m = none := by
 unfold rof; rw [qap, if_neg h1, qap, if_neg h2, qap, if_neg h3, qap, if_neg h4, qap, if_neg h5]; rfl
theorem rof_put : (rof ru day le dy dh).lookup ("put" : Str) = none := rof_no _ _ _ _ _ (by decide +kernel) (by decide +kernel) (by decide +kernel) (by decide +kernel) (by decide +kernel)
theorem rof_pour : (rof ru day le dy dh).lookup ("pour_into_cell" : Str) = none := rof_no _ _ _ _ _ (by decide +kernel) (by decide +kernel) (by decide +kernel) (by decide +kernel) (by decide +kernel)
theorem qd9 : (rof ru day le dy dh).lookup ("rule" : Str) = none := rof_no _ _ _ _ _ (by decide +kernel) (by decide +kernel) (by decide +kernel) (by decide +kernel) (by decide +kernel)
theorem rof_day : (rof ru day le dy dh).lookup ("day" : Str) = none := rof_no _ _ _ _ _ (by decide +kernel) (by decide +kernel) (by decide +kernel) (by decide +kernel) (by decide +kernel)
theorem rof_edges : (rof ru day le dy dh).lookup ("edges" : Str) = none := rof_no _ _ _ _ _ (by decide +kernel) (by decide +kernel) (by decide +kernel) (by decide +kernel) (by decide +kernel)
theorem rof_young : (rof ru day le dy dh).lookup ("young" : Str) = none := rof_no _ _ _ _ _ (by decide +kernel) (by decide +kernel) (by decide +kernel) (by decide +kernel) (by decide +kernel)
theorem rof_heaps : (rof ru day le dy dh).lookup ("heaps" : Str) = none := rof_no _ _ _ _ _ (by decide +kernel) (by decide +kernel) (by decide +kernel) (by decide +kernel) (by decide +kernel)
end
abbrev KV := List (List Key × V)
structure qa1 where
 ru : Addr
 rl : Addr
 le : Addr
 dy : Addr
 dh : Addr
 ps : List (Int × Int)
 g : Option Int
 day : Int
 es : List Int
 ge : Option Int
 Y : KV
 Z : KV
structure RollAt (C R : Addr) (H : Hp) (ro : Addr) (D : qa1) : Prop where
 ob : ∃ dx, H ro = some (.ins C dx (rof D.ru D.day D.le D.dy D.dh))
 rule : RuleAt R H D.ru D.rl D.ps D.g
 ed : H D.le = some (.lst (D.es.map V.int ++ [gv D.ge]))
 yo : H D.dy = some (.dT D.Y)
 he : H D.dh = some (.dT D.Z)
 ne : D.dy ≠ D.dh
theorem RollAt.same {C R : Addr} {H H' : Hp} {ro : Addr} {D : qa1} (s : Same H H') (h : RollAt C R H ro D) : RollAt C R H' ro D :=
 ⟨let ⟨dx, e⟩ := h.ob; ⟨dx, s _ _ e⟩, h.rule.same s, s _ _ h.ed, s _ _ h.yo, s _ _ h.he, h.ne⟩
theorem dT_nt {kvs : KV} : ∀ xs, HO.dT kvs ≠ .tup xs := fun _ z => by cases z
theorem RuleAt.but2 {C : Addr} {H H' : Hp} {r l a : Addr} {ps : List (Int × Int)} {g : Option Int} {o : HO} (h : RuleAt C H r l ps g) (b : But a H H') (ha : H a = some o) (nt : ∀ xs, o ≠ .tup xs) (nl : ∀ xs, o ≠ .lst xs) (hr : r ≠ a) : RuleAt C H' r l ps g := by
 obtain ⟨dx, e⟩ := h.ob
 obtain ⟨xs, e2, p⟩ := h.ls
 exact ⟨⟨dx, b _ _ e hr⟩, xs, b _ _ e2 (qbk e2 ha (fun z => nl xs z.symm)), p.but b ha nt⟩
theorem RollAt.putY {C R : Addr} {H H' : Hp} {ro : Addr} {D : qa1} {Y' : KV} (A : RollAt C R H ro D) (b : But D.dy H H') (h : H' D.dy = some (.dT Y')) : RollAt C R H' ro { D with Y := Y' } := by
 obtain ⟨dx, e⟩ := A.ob
 obtain ⟨dx2, e2⟩ := A.rule.ob
 exact ⟨⟨dx, b _ _ e (qbk e A.yo (by intro z; cases z))⟩, A.rule.but2 b A.yo dT_nt (by intro xs z; cases z) (qbk e2 A.yo (by intro z; cases z)), b _ _ A.ed (qbk A.ed A.yo (by intro z; cases z)), h, b _ _ A.he A.ne.symm, A.ne⟩
theorem RollAt.putZ {C R : Addr} {H H' : Hp} {ro : Addr} {D : qa1} {Z' : KV} (A : RollAt C R H ro D) (b : But D.dh H H') (h : H' D.dh = some (.dT Z')) : RollAt C R H' ro { D with Z := Z' } := by
 obtain ⟨dx, e⟩ := A.ob
 obtain ⟨dx2, e2⟩ := A.rule.ob
 exact ⟨⟨dx, b _ _ e (qbk e A.he (by intro z; cases z))⟩, A.rule.but2 b A.he dT_nt (by intro xs z; cases z) (qbk e2 A.he (by intro z; cases z)), b _ _ A.ed (qbk A.ed A.he (by intro z; cases z)), b _ _ A.yo A.ne, h, A.ne⟩
def But2 (a b : Addr) (H H' : Hp) : Prop := ∀ c o, H c = some o -> c ≠ a -> c ≠ b -> H' c = some o
structure qct (D : qa1) : Prop where
 pr : Pr D.ps D.g
 es : D.es.length = D.ps.length
def newD (ru rl le dy dh : Addr) (ps : List (Int × Int)) (g : Option Int) (day : Int) : qa1 := ⟨ru, rl, le, dy, dh, ps, g, day, ps.map (fun p => cut day p.1 p.2), g.map (fun z => cut day z (lw ps)), [], []⟩
def YOk (Y : KV) : Prop := ∀ k x, valV Y k = some x -> ∃ n, x = V.int n
def ZOk (H : Hp) (Z : KV) : Prop := ∀ k x, valV Z k = some x -> ∃ (h : Addr) (m t lo hi : Int), x = .ref h /\ H h = some (.tup [.int m, .int t, .int lo, .int hi])
theorem ZOk.same {H H' : Hp} {Z : KV} (s : Same H H') (h : ZOk H Z) : ZOk H' Z := fun k x e => by
 obtain ⟨a, m, t, lo, hi, e1, e2⟩ := h k x e
 exact ⟨a, m, t, lo, hi, e1, s _ _ e2⟩
def yv (Y : KV) (k : List Key) : Int := match valV Y k with
 | some (.int n) => n
 | _ => 0
def kk (a b : Int) : List Key := [.inl a, .inl b]
theorem yv_get {Y : KV} (h : YOk Y) (k : List Key) : (valV Y k).getD (V.int 0) = V.int (yv Y k) := by
 unfold yv
 cases e : valV Y k with
 | none => rfl
 | some x =>
  obtain ⟨n, rfl⟩ := h k x e
  rfl
def Poured (H : Hp) (Z : KV) (k : List Key) (v m a b lo hi : Int) : Prop :=
 (valV Z k = none /\ HeapOf [(v, m)] a b lo hi) \/ ∃ (h0 : Addr) (m0 t0 lo0 hi0 a' b' lo' hi' : Int), valV Z k = some (.ref h0) /\ H h0 = some (.tup [.int m0, .int t0, .int lo0, .int hi0]) /\ HeapOf [(v, m)] a' b' lo' hi' /\ a = m0 + a' /\ b = t0 + b' /\ lo = (if lo' < lo0 then lo' else lo0) /\ hi = (if hi' > hi0 then hi' else hi0)
def Puts (H H' : Hp) (D D' : qa1) (o : Option (Int × Int)) (t v m : Int) : Prop :=
 (o = none /\ D' = D) \/ (o = some (t, 0) /\ D' = { D with Y := putK D.Y (kk t v) (.int (yv D.Y (kk t v) + m)) }) \/
 ∃ (s w : Int) (h : Addr) (a b lo hi : Int), o = some (s, w) /\ 1 <= w /\ D' = { D with Z := putK D.Z (kk s w) (.ref h) } /\ H' h = some (.tup [.int a, .int b, .int lo, .int hi]) /\ Poured H D.Z (kk s w) v m a b lo hi
theorem CellOf.some_ {ws es : List Int} {ge : Option Int} {t : Int} {p : Int × Int} (h : CellOf ws es ge t (some p)) (hl : 1 <= es.length) (hw : ∀ w ∈ ws, 1 <= w) : p = (t, 0) \/ 1 <= p.2 := by
 obtain ⟨h1, h2⟩ := h es[0] (List.getElem?_eq_getElem (by omega))
 by_cases c : es[0] <= t
 ·exact .inl (Option.some.inj (h1 c))
 ·obtain ⟨g1, g2⟩ := h2 (by omega)
  by_cases hg : qcp ge t
  ·cases g1 hg
  ·obtain ⟨w, e1, e2⟩ := g2 hg
   cases e2
   exact .inr (hw w (wl_mem (List.mem_of_getElem? e1)))
theorem Pr.w1 {ps : List (Int × Int)} {g : Option Int} (P : Pr ps g) {w : Int} (h : w ∈ ps.map (·.2)) : 1 <= w := by
 obtain ⟨p, hp, rfl⟩ := List.mem_map.mp h
 obtain ⟨i, hi, e⟩ := List.getElem_of_mem hp
 exact (P.size i p (by rw [<- e]; exact List.getElem?_eq_getElem hi)).2.2.1
def RunB (p : Int × Int) : Prop := (-(10 ^ 45) < p.1 /\ p.1 < 10 ^ 45) /\ 1 <= p.2 /\ p.2 < 10 ^ 45
def sp_heap_ofB : Sp := fun vs H Q _ => ∃ l xs rs, vs = [.ref l] /\ H l = some (.lst xs) /\ Pairs H xs rs /\ (∀ p ∈ rs, RunB p) /\ rs.length <= 200 /\ (rs = [] -> Q .non H) /\ (rs ≠ [] -> ∀ a m t lo hi H', HeapOf rs m t lo hi -> New H H' a (.tup [.int m, .int t, .int lo, .int hi]) -> Q (.ref a) H')
def sp_roll_init (C R : Addr) : Sp := fun vs H Q _ => ∃ (ro dx ru rl : Addr) (ps : List (Int × Int)) (g : Option Int) (day : Int), vs = [.ref ro, .ref ru, .int day] /\ H ro = some (.ins C dx []) /\ RuleAt R H ru rl ps g /\ Pr ps g /\ Bd day /\
 ∀ le dy dh H', H le = none -> H dy = none -> H dh = none -> RollAt C R H' ro (newD ru rl le dy dh ps g day) -> But ro H H' -> Q .non H'
def sp_rrule (C R : Addr) : Sp := fun vs H Q _ => ∃ (ro : Addr) (D : qa1), vs = [.ref ro] /\ RollAt C R H ro D /\ Q (.ref D.ru) H
def sp_rday (C R : Addr) : Sp := fun vs H Q _ => ∃ (ro : Addr) (D : qa1), vs = [.ref ro] /\ RollAt C R H ro D /\ Q (.int D.day) H
def sp_redges (C R : Addr) : Sp := fun vs H Q _ => ∃ (ro : Addr) (D : qa1), vs = [.ref ro] /\ RollAt C R H ro D /\ ∀ p H', New H H' p (.lst (D.es.map V.int ++ [gv D.ge])) -> Q (.ref p) H'
def TupAt (H : Hp) (v : V) (r : List Int) : Prop := ∃ a, v = .ref a /\ H a = some (.tup (r.map V.int))
def Tups (H : Hp) (xs : List V) (rs : List (List Int)) : Prop := Paired (TupAt H) xs rs
theorem TupAt.same {H H' : Hp} (s : Same H H') {v : V} {r : List Int} : TupAt H v r -> TupAt H' v r := fun ⟨a, e, h⟩ => ⟨a, e, s _ _ h⟩
theorem Tups.same {H H' : Hp} (s : Same H H') : ∀ {xs : List V} {rs : List (List Int)}, Tups H xs rs -> Tups H' xs rs
 | _, _, .nil => .nil
 | _, _, .cons r t => .cons (r.same s) (Tups.same s t)
theorem Tups.length {H : Hp} : ∀ {xs : List V} {rs : List (List Int)}, Tups H xs rs -> xs.length = rs.length
 | _, _, .nil => rfl
 | _, _, .cons _ t => by simp [Tups.length t]
theorem Tups.get {H : Hp} : ∀ {xs : List V} {rs : List (List Int)} {i : Nat} {x : V}, Tups H xs rs -> xs[i]? = some x -> ∃ r, rs[i]? = some r /\ TupAt H x r
 | _, _, _, _, .nil, e => by simp at e
 | _, _, 0, _, .cons r _, e => by simp at e; subst e; exact ⟨_, rfl, r⟩
 | _, _, i + 1, x, .cons _ t, e => by
  obtain ⟨u, h1, h2⟩ := Tups.get (i := i) (x := x) t (by simpa using e)
  exact ⟨u, by simpa using h1, h2⟩
def dTups (rs : List (List Int)) : PyData := .list (rs.map dTup)
theorem lay_tupsA : ∀ rs : List (List Int), PyData.canLayAll0 (rs.map dTup) = true
 | [] => rfl
 | r :: t => by simp [PyData.canLayAll0, lay_tup, lay_tupsA t]
theorem lay_tups (rs : List (List Int)) : (dTups rs).canLay0 = true := by simp [dTups, PyData.canLay0, lay_tupsA]
theorem dep_tupsA : ∀ rs : List (List Int), PyData.depthAll (rs.map dTup) <= 1
 | [] => by simp [PyData.depthAll]
 | r :: t => by
  have := dep_tupsA t
  simp [PyData.depthAll, dTup, PyData.depth, dep_intsA]
  omega
theorem Tups.reps {K : Frag} {H : Hp} : ∀ {xs : List V} {rs : List (List Int)}, Tups H xs rs -> Reps K H xs (rs.map dTup)
 | _, _, .nil => .nil
 | _, _, .cons ⟨a, e, h⟩ t => by
  subst e
  exact .cons (rep_tup h) (Tups.reps t)
theorem Tups.rep {K : Frag} {H : Hp} {l : Addr} {xs : List V} {rs : List (List Int)} (h : H l = some (.lst xs)) (r : Tups H xs rs) : Rep K H (.ref l) (dTups rs) := .lst (SqL.of h) r.reps
end TB
namespace TB
open PySem L2
abbrev HP4 := Int × Int × Int × Int
structure Abs where
 y : List Int -> Option Int
 z : List Int -> Option HP4
def mg4 (a b : HP4) : HP4 := (a.1 + b.1, a.2.1 + b.2.1, (if b.2.2.1 < a.2.2.1 then b.2.2.1 else a.2.2.1), (if b.2.2.2 > a.2.2.2 then b.2.2.2 else a.2.2.2))
def one4 (v m : Int) : HP4 := (m, v * m, v, v)
def updA {α : Type} (f : List Int -> Option α) (k : List Int) (x : α) : List Int -> Option α := fun j => if j = k then some x else f j
theorem qa2 {α : Type} (f : List Int -> Option α) (k : List Int) (x : α) : updA f k x k = some x := if_pos rfl
theorem qbg {α : Type} (f : List Int -> Option α) {k j : List Int} (x : α) (h : j ≠ k) : updA f k x j = f j := if_neg h
theorem qbt {α : Type} (f : List Int -> Option α) (k : List Int) (x y : α) : updA (updA f k x) k y = updA f k y := by
 funext j; unfold updA; split <;> rfl
theorem updA_comm {α : Type} (f : List Int -> Option α) {k l : List Int} (x y : α) (h : k ≠ l) : updA (updA f k x) l y = updA (updA f l y) k x := by
 funext j; unfold updA
 by_cases h1 : j = k
 ·subst h1; rw [if_neg h, if_pos rfl]
  simp
 ·by_cases h2 : j = l
  ·subst h2; simp [h1]
  ·simp [h1, h2]
def qcm (o : Option HP4) (b : HP4) : HP4 := match o with
 | none => b
 | some a => mg4 a b
theorem ext4 {a b : HP4} (h1 : a.1 = b.1) (h2 : a.2.1 = b.2.1) (h3 : a.2.2.1 = b.2.2.1) (h4 : a.2.2.2 = b.2.2.2) : a = b := by
 obtain ⟨_, _, _, _⟩ := a
 obtain ⟨_, _, _, _⟩ := b
 simp at h1 h2 h3 h4
 simp [h1, h2, h3, h4]
theorem mg4_comm (a b : HP4) : mg4 a b = mg4 b a := by
 unfold mg4
 refine ext4 ?_ ?_ ?_ ?_ <;> dsimp only
 ·omega
 ·omega
 ·split <;> split <;> omega
 ·split <;> split <;> omega
theorem mg4_right (h a b : HP4) : mg4 (mg4 h a) b = mg4 (mg4 h b) a := by
 unfold mg4
 refine ext4 ?_ ?_ ?_ ?_ <;> dsimp only
 ·omega
 ·omega
 ·repeat' split
  all_goals omega
 ·repeat' split
  all_goals omega
theorem pour4_comm (o : Option HP4) (a b : HP4) : qcm (some (qcm o a)) b = qcm (some (qcm o b)) a := by
 cases o with
 | none => exact mg4_comm a b
 | some h => exact mg4_right h a b
theorem one4_split (o : Option HP4) (v m n : Int) : qcm (some (qcm o (one4 v m))) (one4 v n) = qcm o (one4 v (m + n)) := by
 have e : v * m + v * n = v * (m + n) := (Int.mul_add v m n).symm
 cases o with
 | none =>
  show mg4 (one4 v m) (one4 v n) = one4 v (m + n)
  unfold mg4 one4
  refine ext4 ?_ ?_ ?_ ?_ <;> dsimp only
  ·exact e
  ·split <;> rfl
  ·split <;> rfl
 | some h =>
  show mg4 (mg4 h (one4 v m)) (one4 v n) = mg4 h (one4 v (m + n))
  unfold mg4 one4
  refine ext4 ?_ ?_ ?_ ?_ <;> dsimp only
  ·omega
  ·rw [Int.add_assoc, e]
  ·repeat' split
   all_goals omega
  ·repeat' split
   all_goals omega
abbrev Rd3 := Int × Int × Int
def putA (cell : Int -> Option (Int × Int)) (s : Abs) (r : Rd3) : Abs := match cell r.1 with
 | none => s
 | some (a, w) => if w = 0 then { s with y := updA s.y [r.1, r.2.1] ((s.y [r.1, r.2.1]).getD 0 + r.2.2) } else { s with z := updA s.z [a, w] (qcm (s.z [a, w]) (one4 r.2.1 r.2.2)) }
theorem putA_comm (cell : Int -> Option (Int × Int)) (s : Abs) (r q : Rd3) : putA cell (putA cell s r) q = putA cell (putA cell s q) r := by
 unfold putA
 cases e1 : cell r.1 with
 | none => cases e2 : cell q.1 <;> rfl
 | some p =>
  obtain ⟨a, w⟩ := p
  cases e2 : cell q.1 with
  | none => rfl
  | some p2 =>
   obtain ⟨b, u⟩ := p2
   dsimp only
   by_cases hw : w = 0
   ·by_cases hu : u = 0
    ·rw [if_pos hw, if_pos hu, if_pos hu, if_pos hw]
     dsimp only
     by_cases hk : [r.1, r.2.1] = [q.1, q.2.1]
     ·rw [hk, qa2, qbt, qa2, qbt]
      simp only [Option.getD_some]
      congr 2
      omega
     ·rw [qbg _ _ (fun z => hk z.symm), qbg _ _ hk, updA_comm _ _ _ hk]
    ·rw [if_pos hw, if_neg hu, if_neg hu, if_pos hw]
   ·by_cases hu : u = 0
    ·rw [if_neg hw, if_pos hu, if_pos hu, if_neg hw]
    ·rw [if_neg hw, if_neg hu, if_neg hu, if_neg hw]
     dsimp only
     by_cases hk : [a, w] = [b, u]
     ·rw [hk, qa2, qbt, qa2, qbt, pour4_comm]
     ·rw [qbg _ _ (fun z => hk z.symm), qbg _ _ hk, updA_comm _ _ _ hk]
theorem putA_split (cell : Int -> Option (Int × Int)) (s : Abs) (t v m n : Int) : putA cell (putA cell s (t, v, m)) (t, v, n) = putA cell s (t, v, m + n) := by
 unfold putA
 dsimp only
 cases e1 : cell t with
 | none => rfl
 | some p =>
  obtain ⟨a, w⟩ := p
  dsimp only
  by_cases hw : w = 0
  ·rw [if_pos hw, if_pos hw, if_pos hw]
   dsimp only
   rw [qa2, qbt]
   simp only [Option.getD_some]
   congr 2
   omega
  ·rw [if_neg hw, if_neg hw, if_neg hw]
   dsimp only
   rw [qa2, qbt, one4_split]
def abs0 : Abs := ⟨fun _ => none, fun _ => none⟩
def qde (cell : Int -> Option (Int × Int)) (rs : List Rd3) : Abs := rs.foldl (putA cell) abs0
theorem absOf_snoc (cell : Int -> Option (Int × Int)) (rs : List Rd3) (r : Rd3) : qde cell (rs ++ [r]) = putA cell (qde cell rs) r := by
 unfold qde; rw [List.foldl_append]; rfl
structure SKeys {α : Type} (f : List Int -> Option α) (ms : List (List Int)) : Prop where
 srt : ms.Pairwise (fun k l => blt k l = true)
 mem : ∀ k, k ∈ ms ↔ f k ≠ none
theorem blt_asym {k l : List Int} (h1 : blt k l = true) (h2 : blt l k = true) : False := by
 have := blt_tr k l k h1 h2
 rw [blt_irr] at this; cases this
theorem SKeys.uniq {α : Type} {f : List Int -> Option α} {ms ms' : List (List Int)} (a : SKeys f ms) (b : SKeys f ms') : ms = ms' := by
 have nd : ∀ {l : List (List Int)}, l.Pairwise (fun k l => blt k l = true) -> l.Nodup := fun h => h.imp fun {k l} hb e => by rw [e, blt_irr] at hb; cases hb
 refine List.Perm.eq_of_pairwise (le := fun k l => blt k l = true) (fun k l _ _ h1 h2 => (blt_asym h1 h2).elim) a.srt b.srt ?_
 rw [List.perm_ext_iff_of_nodup (nd a.srt) (nd b.srt)]
 intro k
 rw [a.mem, b.mem]
def kI (k : List Int) : List Key := k.map Sum.inl
theorem kI_inj {k l : List Int} (h : kI k = kI l) : k = l := by
 induction k generalizing l with
 | nil => cases l with
  | nil => rfl
  | cons _ _ => cases h
 | cons a r ih => cases l with
  | nil => cases h
  | cons b t =>
   unfold kI at h
   rw [List.map_cons, List.map_cons] at h
   injection h with h1 h2
   injection h1 with h1
   rw [h1, ih h2]
theorem kI_kV (k : List Int) : (kI k).map kV = k.map V.int := by
 unfold kI; rw [List.map_map]; rfl
theorem keys_put (kvs : KV) (k : List Key) (v : V) : (k ∈ kvs.map (·.1) -> (putK kvs k v).map (·.1) = kvs.map (·.1)) /\ (k ∉ kvs.map (·.1) -> (putK kvs k v).map (·.1) = kvs.map (·.1) ++ [k]) := by
 unfold putK
 by_cases h : (kvs.any fun kv => decide (kv.1 = k)) = true
 ·have hm : k ∈ kvs.map (·.1) := by
   obtain ⟨x, hx, e⟩ := List.any_eq_true.mp h
   exact List.mem_map.mpr ⟨x, hx, by simpa using e⟩
  refine ⟨fun _ => ?_, fun n => absurd hm n⟩
  rw [if_pos h, List.map_map]
  apply List.map_congr_left
  intro x hx
  show (if x.1 = k then (x.1, v) else x).1 = x.1
  split <;> rfl
 ·have hm : k ∉ kvs.map (·.1) := fun hm => h (by
   obtain ⟨x, hx, e⟩ := List.mem_map.mp hm
   exact List.any_eq_true.mpr ⟨x, hx, by simpa using e⟩)
  refine ⟨fun n => absurd n hm, fun _ => ?_⟩
  rw [if_neg h, List.map_append]; rfl
theorem valV_mem {kvs : KV} {k : List Key} : valV kvs k ≠ none ↔ k ∈ kvs.map (·.1) := by
 unfold valV
 constructor
 ·intro h
  cases e : kvs.find? fun kv => decide (kv.1 = k) with
  | none => rw [e] at h; exact absurd rfl h
  | some x =>
   have := List.find?_some e
   exact List.mem_map.mpr ⟨x, List.mem_of_find?_eq_some e, by simpa using this⟩
 ·intro h z
  obtain ⟨x, hx, e⟩ := List.mem_map.mp h
  rw [Option.map_eq_none_iff, List.find?_eq_none] at z
  exact z x hx (by simpa using e)
structure DKeys (kvs : KV) (ks : List (List Int)) : Prop where
 eq : kvs.map (·.1) = ks.map kI
 nd : ks.Nodup
 ne : ∀ k ∈ ks, k.length = 2
theorem DKeys.nil : DKeys [] [] := ⟨rfl, .nil, fun k h => by cases h⟩
theorem DKeys.put {kvs : KV} {ks : List (List Int)} (h : DKeys kvs ks) (k : List Int) (hk : k.length = 2) (v : V) : ∃ ks', DKeys (putK kvs (kI k) v) ks' /\ ∀ j, j ∈ ks' ↔ j ∈ ks \/ j = k := by
 have hm : kI k ∈ kvs.map (·.1) ↔ k ∈ ks := by
  rw [h.eq]
  constructor
  ·intro z
   obtain ⟨j, hj, e⟩ := List.mem_map.mp z
   rw [<- kI_inj e]; exact hj
  ·exact fun z => List.mem_map.mpr ⟨k, z, rfl⟩
 by_cases hin : k ∈ ks
 ·refine ⟨ks, ⟨by rw [(keys_put _ _ _).1 (hm.mpr hin)]; exact h.eq, h.nd, h.ne⟩, fun j => ⟨.inl, fun z => z.elim id fun e => by rw [e]; exact hin⟩⟩
 ·refine ⟨ks ++ [k], ⟨by rw [(keys_put _ _ _).2 (fun z => hin (hm.mp z)), h.eq, List.map_append]; rfl, ?_, ?_⟩, fun j => by simp⟩
  ·rw [List.nodup_append]
   exact ⟨h.nd, List.pairwise_singleton _ _, fun a ha b hb e => by
    rw [List.mem_singleton.mp hb] at e
    exact hin (by rw [<- e]; exact ha)⟩
  ·intro j hj
   rcases List.mem_append.mp hj with z | z
   ·exact h.ne j z
   ·rw [List.mem_singleton.mp z]; exact hk
theorem DKeys.ne' {kvs : KV} {ks : List (List Int)} (h : DKeys kvs ks) : ∀ k ∈ ks, k ≠ [] := fun k hk z => by
 have := h.ne k hk
 rw [z] at this; cases this
theorem DKeys.mem {kvs : KV} {ks : List (List Int)} (h : DKeys kvs ks) (k : List Int) : k ∈ ks ↔ valV kvs (kI k) ≠ none := by
 rw [valV_mem, h.eq]
 constructor
 ·exact fun z => List.mem_map.mpr ⟨k, z, rfl⟩
 ·intro z
  obtain ⟨j, hj, e⟩ := List.mem_map.mp z
  rw [<- kI_inj e]; exact hj
def v4 (h : HP4) : List V := [.int h.1, .int h.2.1, .int h.2.2.1, .int h.2.2.2]
structure RAbs (H : Hp) (D : qa1) (s : Abs) (LY LZ : List (List Int)) : Prop where
 yv : ∀ k, valV D.Y (kI k) = (s.y k).map V.int
 yk : ∃ ks, DKeys D.Y ks /\ ks ⊆ LY
 zn : ∀ k, s.z k = none -> valV D.Z (kI k) = none
 zs : ∀ k h, s.z k = some h -> ∃ a, valV D.Z (kI k) = some (.ref a) /\ H a = some (.tup (v4 h))
 zk : ∃ ks, DKeys D.Z ks /\ ks ⊆ LZ
theorem RAbs.same {H H' : Hp} {D : qa1} {s : Abs} {LY LZ : List (List Int)} (e : Same H H') (h : RAbs H D s LY LZ) : RAbs H' D s LY LZ :=
 ⟨h.yv, h.yk, h.zn, fun k x q => (h.zs k x q).imp fun _ z => ⟨z.1, e _ _ z.2⟩, h.zk⟩
theorem RAbs.tups {H H' : Hp} {D : qa1} {s : Abs} {LY LZ : List (List Int)} (e : TupS H H') (h : RAbs H D s LY LZ) : RAbs H' D s LY LZ :=
 ⟨h.yv, h.yk, h.zn, fun k x q => (h.zs k x q).imp fun _ z => ⟨z.1, e _ _ z.2⟩, h.zk⟩
theorem RAbs.mono {H : Hp} {D : qa1} {s : Abs} {LY LZ LY' LZ' : List (List Int)} (h : RAbs H D s LY LZ) (a : LY ⊆ LY') (b : LZ ⊆ LZ') : RAbs H D s LY' LZ' :=
 ⟨h.yv, h.yk.imp fun _ z => ⟨z.1, fun _ y => a (z.2 y)⟩, h.zn, h.zs, h.zk.imp fun _ z => ⟨z.1, fun _ y => b (z.2 y)⟩⟩
theorem RAbs.zero {H : Hp} {D : qa1} {LY LZ : List (List Int)} (eY : D.Y = []) (eZ : D.Z = []) : RAbs H D abs0 LY LZ where
 yv := fun k => by rw [eY]; rfl
 yk := ⟨[], by rw [eY]; exact DKeys.nil, fun _ z => by cases z⟩
 zn := fun k _ => by rw [eZ]; rfl
 zs := fun k x z => by cases z
 zk := ⟨[], by rw [eZ]; exact DKeys.nil, fun _ z => by cases z⟩
theorem RAbs.yok {H : Hp} {D : qa1} {s : Abs} {LY LZ : List (List Int)} (h : RAbs H D s LY LZ) : ∀ k x, valV D.Y (kI k) = some x -> ∃ n, x = V.int n := fun k x e => by
 rw [h.yv] at e
 cases e2 : s.y k with
 | none => rw [e2] at e; cases e
 | some n => rw [e2] at e; exact ⟨n, (Option.some.inj e).symm⟩
theorem dk_len {kvs : KV} {ks L : List (List Int)} (h : DKeys kvs ks) (hs : ks ⊆ L) : kvs.length <= L.length := by
 have := congrArg List.length h.eq
 rw [List.length_map, List.length_map] at this
 rw [this]
 exact List.Nodup.length_le_of_subset h.nd hs
end TB
namespace TB
open PySem L2
theorem heap_one {v m a b lo hi : Int} (h : HeapOf [(v, m)] a b lo hi) : a = m /\ b = v * m /\ lo = v /\ hi = v := by
 refine ⟨by rw [h.m]; simp [rN, cnts], by rw [h.t]; simp [rT, prds], ?_, ?_⟩
 ·have := h.lo; simpa [vals] using this
 ·have := h.hi; simpa [vals] using this
theorem dk_key {kvs : KV} {ks : List (List Int)} (h : DKeys kvs ks) {k : List Key} {x : V} (e : valV kvs k = some x) : ∃ j, k = kI j := by
 have : k ∈ kvs.map (·.1) := valV_mem.mp (by rw [e]; simp)
 rw [h.eq] at this
 obtain ⟨j, _, e⟩ := List.mem_map.mp this
 exact ⟨j, e.symm⟩
theorem RAbs.YOk {H : Hp} {D : qa1} {s : Abs} {LY LZ : List (List Int)} (h : RAbs H D s LY LZ) : YOk D.Y := fun k x e => by
 obtain ⟨ks, d, _⟩ := h.yk
 obtain ⟨j, rfl⟩ := dk_key d e
 exact h.yok j x e
theorem RAbs.ZOk {H : Hp} {D : qa1} {s : Abs} {LY LZ : List (List Int)} (h : RAbs H D s LY LZ) : ZOk H D.Z := fun k x e => by
 obtain ⟨ks, d, _⟩ := h.zk
 obtain ⟨j, rfl⟩ := dk_key d e
 cases ez : s.z j with
 | none => rw [h.zn j ez] at e; cases e
 | some p =>
  obtain ⟨a, e1, e2⟩ := h.zs j p ez
  rw [e] at e1
  cases e1
  exact ⟨a, p.1, p.2.1, p.2.2.1, p.2.2.2, rfl, e2⟩
theorem RAbs.ylen {H : Hp} {D : qa1} {s : Abs} {LY LZ : List (List Int)} (h : RAbs H D s LY LZ) : D.Y.length <= LY.length := by
 obtain ⟨ks, d, e⟩ := h.yk; exact dk_len d e
theorem RAbs.zlen {H : Hp} {D : qa1} {s : Abs} {LY LZ : List (List Int)} (h : RAbs H D s LY LZ) : D.Z.length <= LZ.length := by
 obtain ⟨ks, d, e⟩ := h.zk; exact dk_len d e
def yKey (r : Rd3) : List Int := [r.1, r.2.1]
def zKey (cell : Int -> Option (Int × Int)) (r : Rd3) : List Int := match cell r.1 with
 | none => []
 | some (a, w) => [a, w]
theorem RAbs.put {H H' : Hp} {D D' : qa1} {o : Option (Int × Int)} {t v m : Int} {s : Abs} {LY LZ : List (List Int)} {cell : Int -> Option (Int × Int)} (h : RAbs H D s LY LZ) (hp : Puts H H' D D' o t v m) (eo : cell t = o) (ts : TupS H H')
  (hy : [t, v] ∈ LY) (hz : ∀ a w, o = some (a, w) -> [a, w] ∈ LZ) : RAbs H' D' (putA cell s (t, v, m)) LY LZ := by
 have h2 := h.tups ts
 unfold putA
 dsimp only
 rcases hp with ⟨rfl, rfl⟩ | ⟨rfl, rfl⟩ | ⟨a, w, b, m1, t1, lo1, hi1, rfl, hw, rfl, hb, po⟩
 ·rw [eo]; exact h2
 ·rw [eo]
  dsimp only
  rw [if_pos rfl]
  have ey : TB.yv D.Y (kk t v) = (s.y [t, v]).getD 0 := by
   unfold TB.yv
   have := h.yv [t, v]
   rw [show kk t v = kI [t, v] from rfl, this]
   cases s.y [t, v] <;> rfl
  refine ⟨fun k => ?_, ?_, h2.zn, h2.zs, h2.zk⟩
  ·show valV (putK D.Y (kI [t, v]) _) (kI k) = (updA s.y [t, v] ((s.y [t, v]).getD 0 + m) k).map V.int
   rw [valV_put, ey]
   by_cases hk : k = [t, v]
   ·subst hk; rw [if_pos rfl, qa2]; rfl
   ·rw [if_neg (fun z => hk (kI_inj z)), qbg _ _ hk]; exact h.yv k
  ·obtain ⟨ks, d, e⟩ := h.yk
   obtain ⟨ks', d', e'⟩ := d.put [t, v] rfl (V.int (TB.yv D.Y (kk t v) + m))
   exact ⟨ks', d', fun j hj => (e' j).mp hj |>.elim (fun z => e z) fun z => by rw [z]; exact hy⟩
 ·rw [eo]
  dsimp only
  rw [if_neg (by omega)]
  have ev : (m1, t1, lo1, hi1) = qcm (s.z [a, w]) (one4 v m) := by
   rcases po with ⟨p1, p2⟩ | ⟨h0, m0, t0, lo0, hi0, a', b', lo', hi', p1, p2, p3, rfl, rfl, rfl, rfl⟩
   ·obtain ⟨rfl, rfl, rfl, rfl⟩ := heap_one p2
    cases ez : s.z [a, w] with
    | none => rfl
    | some q =>
     obtain ⟨_, e1, _⟩ := h.zs _ q ez
     rw [show kk a w = kI [a, w] from rfl, e1] at p1; cases p1
   ·obtain ⟨rfl, rfl, rfl, rfl⟩ := heap_one p3
    cases ez : s.z [a, w] with
    | none =>
     have := h.zn _ ez
     rw [show kk a w = kI [a, w] from rfl, this] at p1; cases p1
    | some q =>
     obtain ⟨_, e1, e2⟩ := h.zs _ q ez
     rw [show kk a w = kI [a, w] from rfl, e1] at p1
     cases p1
     rw [p2] at e2
     have e3 : [V.int m0, V.int t0, V.int lo0, V.int hi0] = v4 q := by injection e2 with e2; injection e2
     unfold v4 at e3
     injection e3 with c1 e3
     injection e3 with c2 e3
     injection e3 with c3 e3
     injection e3 with c4 e3
     injection c1 with c1
     injection c2 with c2
     injection c3 with c3
     injection c4 with c4
     subst c1 c2 c3 c4
     rfl
  have hb' : H' b = some (.tup (v4 (qcm (s.z [a, w]) (one4 v m)))) := by rw [<- ev]; exact hb
  refine ⟨h2.yv, h2.yk, fun k hk => ?_, fun k q hk => ?_, ?_⟩
  ·have hk : updA s.z [a, w] (qcm (s.z [a, w]) (one4 v m)) k = none := hk
   show valV (putK D.Z (kI [a, w]) _) (kI k) = _
   rw [valV_put]
   by_cases hk2 : k = [a, w]
   ·subst hk2; rw [qa2] at hk; cases hk
   ·rw [if_neg (fun z => hk2 (kI_inj z))]
    rw [qbg _ _ hk2] at hk
    exact h.zn k hk
  ·have hk : updA s.z [a, w] (qcm (s.z [a, w]) (one4 v m)) k = some q := hk
   show ∃ c, valV (putK D.Z (kI [a, w]) (.ref b)) (kI k) = some (.ref c) /\ _
   rw [valV_put]
   by_cases hk2 : k = [a, w]
   ·subst hk2
    rw [qa2] at hk
    cases hk
    exact ⟨b, if_pos rfl, hb'⟩
   ·rw [qbg _ _ hk2] at hk
    rw [if_neg (fun z => hk2 (kI_inj z))]
    exact h2.zs k q hk
  ·obtain ⟨ks, d, e⟩ := h.zk
   obtain ⟨ks', d', e'⟩ := d.put [a, w] rfl (V.ref b)
   exact ⟨ks', d', fun j hj => (e' j).mp hj |>.elim (fun z => e z) fun z => by rw [z]; exact hz a w rfl⟩
def sp_rput2 (C R : Addr) : Sp := fun vs H Q _ => ∃ (ro : Addr) (D : qa1) (t v m : Int), vs = [.ref ro, .int t, .int v, .int m] /\ RollAt C R H ro D /\ qct D /\ TB46 t /\ 1 <= m /\ RunB (v, m) /\ TB.YOk D.Y /\ TB.ZOk H D.Z /\ D.Y.length <= 900 /\ D.Z.length <= 900 /\
 ∀ o, CellOf (D.ps.map (·.2)) D.es D.ge t o -> ∀ D' H', Puts H H' D D' o t v m -> RollAt C R H' ro D' -> But2 D.dy D.dh H H' -> Q (.bl o.isSome) H'
def yRow (s : Abs) (k : List Int) : List Int := k ++ [(s.y k).getD 0]
def i4 (h : HP4) : List Int := [h.1, h.2.1, h.2.2.1, h.2.2.2]
def zRow (s : Abs) (k : List Int) : List Int := k ++ i4 ((s.z k).getD (0, 0, 0, 0))
def sp_ryoung (C R : Addr) : Sp := fun vs H Q _ => ∃ (ro : Addr) (D : qa1) (s : Abs) (LY LZ : List (List Int)), vs = [.ref ro] /\ RollAt C R H ro D /\ RAbs H D s LY LZ /\ LY.length < 64 /\ ∀ l xs ms H', Same H H' -> H l = none -> H' l = some (.lst xs) -> SKeys s.y ms -> ms.length < 64 -> Tups H' xs (ms.map (yRow s)) -> Q (.ref l) H'
def sp_rheaps (C R : Addr) : Sp := fun vs H Q _ => ∃ (ro : Addr) (D : qa1) (s : Abs) (LY LZ : List (List Int)), vs = [.ref ro] /\ RollAt C R H ro D /\ RAbs H D s LY LZ /\ LZ.length < 64 /\ ∀ l xs ms H', Same H H' -> H l = none -> H' l = some (.lst xs) -> SKeys s.z ms -> ms.length < 64 -> Tups H' xs (ms.map (zRow s)) -> Q (.ref l) H'
theorem Tups.snoc {H : Hp} {v : V} {r : List Int} (h : TupAt H v r) : ∀ {xs : List V} {rs : List (List Int)}, Tups H xs rs -> Tups H (xs ++ [v]) (rs ++ [r])
 | _, _, .nil => .cons h .nil
 | _, _, .cons q t => .cons q (Tups.snoc h t)
theorem SKeys.ofD {kvs : KV} {ks ms : List (List Int)} {α : Type} {f : List Int -> Option α} (d : DKeys kvs ks) (hf : ∀ k, valV kvs (kI k) ≠ none ↔ f k ≠ none) (p : ms.Perm ks) (hs : ms.Pairwise (fun k l => blt k l = true)) : SKeys f ms :=
 ⟨hs, fun k => by rw [p.mem_iff, d.mem, hf]⟩
end TB
namespace TB
open PySem L2
def F40 (d : Int) : Prop := -(10 ^ 40) <= d /\ d <= 10 ^ 40
def sp_lhome : Sp := fun vs H Q _ => ∃ (e : Addr) (EV : List V) (es : List Int) (ge : Option Int) (l : Addr) (xs : List V) (ps : List (Int × Int)) (t : Int), vs = [.ref e, .ref l, .int t] /\ H e = some (.lst EV) /\ EdS EV es ge /\ es.length = ps.length /\ H l = some (.lst xs) /\ Pairs H xs ps /\ Sized ps /\ 1 <= ps.length /\ ps.length <= 5 /\ ∀ v o H', CellOf (ps.map (·.2)) es ge t o -> CellAt H' v o -> Same H H' -> Q v H'
theorem gv_rep {K : Frag} {H : Hp} (g : Option Int) : Rep K H (gv g) (dV (gv g)) := by
 cases g with
 | none => exact .non
 | some z => exact .int z
theorem gv_lay (g : Option Int) : (dV (gv g)).canLay0 = true := by cases g <;> rfl
theorem gv_dep (g : Option Int) : (dV (gv g)).depth <= 20 := by cases g <;> simp [dV, gv, PyData.depth]
def ROk (r : Rd3) : Prop := TB46 r.1 /\ RunB (r.2.1, r.2.2)
def l3 (r : Rd3) : List Int := [r.1, r.2.1, r.2.2]
open Classical in
noncomputable def qbh (ws es : List Int) (ge : Option Int) (t : Int) : Option (Int × Int) := if h : ∃ o, CellOf ws es ge t o then h.choose else none
theorem cellF_eq {ws es : List Int} {ge : Option Int} {t : Int} {o : Option (Int × Int)} (hl : 1 <= es.length) (h : CellOf ws es ge t o) : qbh ws es ge t = o := by
 have hx : ∃ o, CellOf ws es ge t o := ⟨o, h⟩
 unfold qbh
 rw [dif_pos hx]
 exact CellOf.uniq (e0 := es[0]) (List.getElem?_eq_getElem (by omega)) hx.choose_spec h
def dd (Y Z : KV) : qa1 := ⟨0, 0, 0, 0, 0, [], none, 0, [], none, Y, Z⟩
end TB
namespace TB
open PySem L2
def RR (C R : Addr) (H : Hp) (ro : Addr) (c : qa1) (s : Abs) (LY LZ : List (List Int)) : Prop :=
 ∃ Y Z, RollAt C R H ro { c with Y := Y, Z := Z } /\ RAbs H { c with Y := Y, Z := Z } s LY LZ
theorem RR.same {C R : Addr} {H H' : Hp} {ro : Addr} {c : qa1} {s : Abs} {LY LZ : List (List Int)} (e : Same H H') (h : RR C R H ro c s LY LZ) : RR C R H' ro c s LY LZ :=
 let ⟨Y, Z, a, b⟩ := h; ⟨Y, Z, a.same e, b.same e⟩
theorem But2.tups {H H' : Hp} {a b : Addr} {Y Z : KV} (h : But2 a b H H') (ha : H a = some (.dT Y)) (hb : H b = some (.dT Z)) : TupS H H' := fun x xs e =>
 h x _ e (qbk e ha (by intro z; cases z)) (qbk e hb (by intro z; cases z))
theorem But2.keep {H H' : Hp} {a b : Addr} {Y Z : KV} (h : But2 a b H H') (ha : H a = some (.dT Y)) (hb : H b = some (.dT Z)) {x : Addr} {o : HO} (e : H x = some o) (n : ∀ K, o ≠ .dT K) : H' x = some o :=
 h x _ e (qbk e ha (n _)) (qbk e hb (n _))
theorem But2.trans {H H1 H2 : Hp} {a b : Addr} (h : But2 a b H H1) (h2 : But2 a b H1 H2) : But2 a b H H2 := fun x o e n m => h2 x o (h x o e n m) n m
theorem But2.refl (a b : Addr) (H : Hp) : But2 a b H H := fun _ _ e _ _ => e
theorem RuleAt.keep2 {C : Addr} {H H' : Hp} {r l a b : Addr} {ps : List (Int × Int)} {g : Option Int} {Y Z : KV} (h : RuleAt C H r l ps g) (e : But2 a b H H') (ha : H a = some (.dT Y)) (hb : H b = some (.dT Z)) : RuleAt C H' r l ps g := by
 obtain ⟨dx, e1⟩ := h.ob
 obtain ⟨xs, e2, p⟩ := h.ls
 exact ⟨⟨dx, e.keep ha hb e1 (by intro K z; cases z)⟩, xs, e.keep ha hb e2 (by intro K z; cases z), p.tupS (e.tups ha hb)⟩
theorem RR.frame {C R : Addr} {H H' : Hp} {ro : Addr} {c : qa1} {s : Abs} {LY LZ : List (List Int)} {a b : Addr} {Y Z : KV} (h : RR C R H ro c s LY LZ) (e : But2 a b H H') (ha : H a = some (.dT Y)) (hb : H b = some (.dT Z))
  (n1 : c.dy ≠ a) (n2 : c.dy ≠ b) (n3 : c.dh ≠ a) (n4 : c.dh ≠ b) : RR C R H' ro c s LY LZ := by
 obtain ⟨Y', Z', A, B⟩ := h
 obtain ⟨dx, e1⟩ := A.ob
 exact ⟨Y', Z', ⟨⟨dx, e.keep ha hb e1 (by intro K z; cases z)⟩, A.rule.keep2 e ha hb, e.keep ha hb A.ed (by intro K z; cases z), e _ _ A.yo n1 n2, e _ _ A.he n3 n4, A.ne⟩, B.tups (e.tups ha hb)⟩
theorem RR.dicts {C R : Addr} {H : Hp} {ro : Addr} {c : qa1} {s : Abs} {LY LZ : List (List Int)} (h : RR C R H ro c s LY LZ) : (∃ Y, H c.dy = some (.dT Y)) /\ ∃ Z, H c.dh = some (.dT Z) :=
 let ⟨_, _, A, _⟩ := h; ⟨⟨_, A.yo⟩, ⟨_, A.he⟩⟩
theorem RR.obj {C R : Addr} {H : Hp} {ro : Addr} {c : qa1} {s : Abs} {LY LZ : List (List Int)} (h : RR C R H ro c s LY LZ) : ∃ dx, H ro = some (.ins C dx (rof c.ru c.day c.le c.dy c.dh)) :=
 let ⟨_, _, A, _⟩ := h; A.ob
noncomputable abbrev cellD (c : qa1) : Int -> Option (Int × Int) := qbh (c.ps.map (·.2)) c.es c.ge
theorem RR.put {C R : Addr} {H : Hp} {ro : Addr} {c : qa1} {s : Abs} {LY LZ : List (List Int)} {t v m : Int} {Q : VK} {E : XK} (h : RR C R H ro c s LY LZ) (ok : qct c) (hr : TB46 t) (h1 : 1 <= m) (hb : RunB (v, m)) (ly : LY.length < 64) (lz : LZ.length < 64)
  (hy : [t, v] ∈ LY) (hz : ∀ a w, cellD c t = some (a, w) -> [a, w] ∈ LZ)
  (q : ∀ H', RR C R H' ro c (putA (cellD c) s (t, v, m)) LY LZ -> But2 c.dy c.dh H H' -> Q (.bl (cellD c t).isSome) H') : sp_rput2 C R [.ref ro, .int t, .int v, .int m] H Q E := by
 obtain ⟨Y, Z, A, B⟩ := h
 have hes : 1 <= c.es.length := by rw [ok.es]; exact ok.pr.good.lo
 refine ⟨ro, _, t, v, m, rfl, A, ⟨ok.pr, ok.es⟩, hr, h1, hb, B.YOk, B.ZOk, Nat.le_trans B.ylen (by omega), Nat.le_trans B.zlen (by omega), fun o hc D' H' pu A' b' => ?_⟩
 have eo : cellD c t = o := cellF_eq hes hc
 rw [<- eo]
 have B' := B.put pu eo (b'.tups A.yo A.he) hy (fun a w e => hz a w (eo.trans e))
 refine q H' ?_ b'
 rcases pu with ⟨_, rfl⟩ | ⟨_, rfl⟩ | ⟨_, _, _, _, _, _, _, _, _, rfl, _, _⟩
 ·exact ⟨Y, Z, A', B'⟩
 ·exact ⟨_, Z, A', B'⟩
 ·exact ⟨Y, _, A', B'⟩
open Classical in
noncomputable def qbu (s : Abs) : List (List Int) := if h : ∃ ms, SKeys s.y ms then h.choose.map (yRow s) else []
open Classical in
noncomputable def qb4 (s : Abs) : List (List Int) := if h : ∃ ms, SKeys s.z ms then h.choose.map (zRow s) else []
theorem qc9 {s : Abs} {ms : List (List Int)} (h : SKeys s.y ms) : ms.map (yRow s) = qbu s := by
 have hx : ∃ ms, SKeys s.y ms := ⟨ms, h⟩
 unfold qbu
 rw [dif_pos hx, SKeys.uniq h hx.choose_spec]
theorem qda {s : Abs} {ms : List (List Int)} (h : SKeys s.z ms) : ms.map (zRow s) = qb4 s := by
 have hx : ∃ ms, SKeys s.z ms := ⟨ms, h⟩
 unfold qb4
 rw [dif_pos hx, SKeys.uniq h hx.choose_spec]
def RowsOk (rs : List (List Int)) : Prop := rs.length <= 900 /\ ∀ r ∈ rs, r.length <= 10
theorem RR.young {C R : Addr} {H : Hp} {ro : Addr} {c : qa1} {s : Abs} {LY LZ : List (List Int)} {Q : VK} {E : XK} (h : RR C R H ro c s LY LZ) (ly : LY.length < 64)
  (q : ∀ l xs H', Same H H' -> H l = none -> H' l = some (.lst xs) -> Tups H' xs (qbu s) -> RowsOk (qbu s) -> Q (.ref l) H') : sp_ryoung C R [.ref ro] H Q E := by
 obtain ⟨Y, Z, A, B⟩ := h
 refine ⟨ro, _, s, LY, LZ, rfl, A, B, ly, fun l xs ms H' e f hl sk hm tu => ?_⟩
 rw [qc9 sk] at tu
 refine q l xs H' e f hl tu ?_
 rw [<- qc9 sk]
 obtain ⟨ks, dk, _⟩ := B.yk
 refine ⟨by rw [List.length_map]; omega, fun r hr => ?_⟩
 obtain ⟨k, hk, rfl⟩ := List.mem_map.mp hr
 have : k ∈ ks := (dk.mem k).mpr (by rw [B.yv]; have := (sk.mem k).mp hk; cases z : s.y k with | none => exact absurd z this | some _ => simp)
 have := dk.ne k this
 unfold yRow
 rw [List.length_append, this]; simp
theorem RR.heaps {C R : Addr} {H : Hp} {ro : Addr} {c : qa1} {s : Abs} {LY LZ : List (List Int)} {Q : VK} {E : XK} (h : RR C R H ro c s LY LZ) (lz : LZ.length < 64)
  (q : ∀ l xs H', Same H H' -> H l = none -> H' l = some (.lst xs) -> Tups H' xs (qb4 s) -> RowsOk (qb4 s) -> Q (.ref l) H') : sp_rheaps C R [.ref ro] H Q E := by
 obtain ⟨Y, Z, A, B⟩ := h
 refine ⟨ro, _, s, LY, LZ, rfl, A, B, lz, fun l xs ms H' e f hl sk hm tu => ?_⟩
 rw [qda sk] at tu
 refine q l xs H' e f hl tu ?_
 rw [<- qda sk]
 obtain ⟨ks, dk, _⟩ := B.zk
 refine ⟨by rw [List.length_map]; omega, fun r hr => ?_⟩
 obtain ⟨k, hk, rfl⟩ := List.mem_map.mp hr
 have : k ∈ ks := (dk.mem k).mpr (by
  have := (sk.mem k).mp hk
  cases z : s.z k with
  | none => exact absurd z this
  | some h4 => obtain ⟨a, e1, _⟩ := B.zs k h4 z; rw [e1]; simp)
 have := dk.ne k this
 unfold zRow i4
 rw [List.length_append, this]; simp
def dTwo (a b : List (List Int)) : PyData := .tuple [dTups a, dTups b]
theorem lay_two (a b : List (List Int)) : (dTwo a b).canLay0 = true := by simp [dTwo, PyData.canLay0, PyData.canLayAll0, lay_tups]
theorem dep_two (a b : List (List Int)) : (dTwo a b).depth <= 20 := by
 have := dep_tupsA a
 have := dep_tupsA b
 simp [dTwo, dTups, PyData.depth, PyData.depthAll]; omega
theorem rep_two {K : Frag} {H : Hp} {t l1 l2 : Addr} {xs ys : List V} {a b : List (List Int)} (h : H t = some (.tup [.ref l1, .ref l2])) (h1 : H l1 = some (.lst xs)) (t1 : Tups H xs a) (h2 : H l2 = some (.lst ys)) (t2 : Tups H ys b) : Rep K H (.ref t) (dTwo a b) :=
 .tup (SqT.of h) (.cons (t1.rep h1) (.cons (t2.rep h2) .nil))
theorem Tups.tupS {H H' : Hp} (s : TupS H H') : ∀ {xs : List V} {rs : List (List Int)}, Tups H xs rs -> Tups H' xs rs
 | _, _, .nil => .nil
 | _, _, .cons ⟨a, e, h⟩ t => .cons ⟨a, e, s _ _ h⟩ (Tups.tupS s t)
end TB
namespace TB
open PySem L2
def qdv (cell : Int -> Option (Int × Int)) (s : Abs) (a : Int) (x : HP4) : Abs := match cell a with
 | none => s
 | some (b, w) => { s with z := updA s.z [b, w] (qcm (s.z [b, w]) x) }
def PouredG (H : Hp) (Z : KV) (k : List Key) (x y : HP4) : Prop :=
 (valV Z k = none /\ y = x) \/ ∃ (h0 : Addr) (x0 : HP4), valV Z k = some (.ref h0) /\ H h0 = some (.tup (v4 x0)) /\ y = mg4 x0 x
theorem v4_inj {x y : HP4} (h : v4 x = v4 y) : x = y := by
 unfold v4 at h
 injection h with h1 h
 injection h with h2 h
 injection h with h3 h
 injection h with h4 _
 injection h1 with h1
 injection h2 with h2
 injection h3 with h3
 injection h4 with h4
 exact ext4 h1 h2 h3 h4
theorem RAbs.pour {H H' : Hp} {D : qa1} {a w : Int} {b : Addr} {x y : HP4} {s : Abs} {LY LZ : List (List Int)} (h : RAbs H D s LY LZ) (po : PouredG H D.Z (kk a w) x y) (hb : H' b = some (.tup (v4 y))) (ts : TupS H H') (hz : [a, w] ∈ LZ) :
  RAbs H' { D with Z := putK D.Z (kk a w) (.ref b) } { s with z := updA s.z [a, w] (qcm (s.z [a, w]) x) } LY LZ := by
 have h2 := h.tups ts
 have ev : y = qcm (s.z [a, w]) x := by
  rcases po with ⟨p1, p2⟩ | ⟨h0, x0, p1, p2, p3⟩
  ·cases ez : s.z [a, w] with
   | none => exact p2
   | some q =>
    obtain ⟨_, e1, _⟩ := h.zs _ q ez
    rw [show kk a w = kI [a, w] from rfl, e1] at p1; cases p1
  ·cases ez : s.z [a, w] with
   | none =>
    have := h.zn _ ez
    rw [show kk a w = kI [a, w] from rfl, this] at p1; cases p1
   | some q =>
    obtain ⟨_, e1, e2⟩ := h.zs _ q ez
    rw [show kk a w = kI [a, w] from rfl, e1] at p1
    cases p1
    rw [p2] at e2
    have e3 : v4 x0 = v4 q := by injection e2 with e2; injection e2
    rw [p3, v4_inj e3]
    rfl
 subst ev
 refine ⟨h2.yv, h2.yk, fun k hk => ?_, fun k q hk => ?_, ?_⟩
 ·have hk : updA s.z [a, w] (qcm (s.z [a, w]) x) k = none := hk
  show valV (putK D.Z (kI [a, w]) _) (kI k) = _
  rw [valV_put]
  by_cases hk2 : k = [a, w]
  ·subst hk2; rw [qa2] at hk; cases hk
  ·rw [if_neg (fun z => hk2 (kI_inj z))]
   rw [qbg _ _ hk2] at hk
   exact h.zn k hk
 ·have hk : updA s.z [a, w] (qcm (s.z [a, w]) x) k = some q := hk
  show ∃ c, valV (putK D.Z (kI [a, w]) (.ref b)) (kI k) = some (.ref c) /\ _
  rw [valV_put]
  by_cases hk2 : k = [a, w]
  ·subst hk2
   rw [qa2] at hk
   cases hk
   exact ⟨b, if_pos rfl, hb⟩
  ·rw [qbg _ _ hk2] at hk
   rw [if_neg (fun z => hk2 (kI_inj z))]
   exact h2.zs k q hk
 ·obtain ⟨ks, d, e⟩ := h.zk
  obtain ⟨ks', d', e'⟩ := d.put [a, w] rfl (V.ref b)
  exact ⟨ks', d', fun j hj => (e' j).mp hj |>.elim (fun z => e z) fun z => by rw [z]; exact hz⟩
def qcn (cell : Int -> Option (Int × Int)) (s : Abs) : List Int -> Abs
 | [t, v, m] => putA cell s (t, v, m)
 | _ => s
def qbv (cell : Int -> Option (Int × Int)) (s : Abs) : List Int -> Abs
 | [a, _, m, t, lo, hi] => qdv cell s a (m, t, lo, hi)
 | _ => s
def qdw (cell : Int -> Option (Int × Int)) (s : Abs) (Y Z : List (List Int)) : Abs := Z.foldl (qbv cell) (Y.foldl (qcn cell) s)
def sp_rpourG (C R : Addr) : Sp := fun vs H Q _ => ∃ (ro : Addr) (D : qa1) (c h : Addr) (s w : Int) (x : HP4), vs = [.ref ro, .ref c, .ref h] /\ RollAt C R H ro D /\ H c = some (.tup [.int s, .int w]) /\ H h = some (.tup (v4 x)) /\ ZOk H D.Z /\ D.Z.length <= 900 /\
 ∀ h2 y H', H' h2 = some (.tup (v4 y)) -> PouredG H D.Z (kk s w) x y -> RollAt C R H' ro { D with Z := putK D.Z (kk s w) (.ref h2) } -> But D.dh H H' -> Q .non H'
def sp_rtake (C R : Addr) : Sp := fun vs H Q _ => ∃ (ro : Addr) (c : qa1) (s : Abs) (LY LZ : List (List Int)) (a : Int) (h : Addr) (x : HP4), vs = [.ref ro, .int a, .ref h] /\ RR C R H ro c s LY LZ /\ qct c /\ TB46 a /\ H h = some (.tup (v4 x)) /\ LZ.length < 64 /\ (∀ b w, cellD c a = some (b, w) -> [b, w] ∈ LZ) /\
 ∀ H', RR C R H' ro c (qdv (cellD c) s a x) LY LZ -> But2 c.dy c.dh H H' -> Q .non H'
structure TakeOk (cell : Int -> Option (Int × Int)) (LY LZ Y Z : List (List Int)) : Prop where
 y : ∀ r ∈ Y, ∃ t v m, r = [t, v, m] /\ ROk (t, v, m) /\ [t, v] ∈ LY /\ ∀ a w, cell t = some (a, w) -> [a, w] ∈ LZ
 z : ∀ r ∈ Z, ∃ a w m t lo hi, r = [a, w, m, t, lo, hi] /\ TB46 a /\ ∀ b w, cell a = some (b, w) -> [b, w] ∈ LZ
def ApartD (c d : qa1) : Prop := c.dy ≠ d.dy /\ c.dy ≠ d.dh /\ c.dh ≠ d.dy /\ c.dh ≠ d.dh
def sp_rtakeall (C R : Addr) : Sp := fun vs H Q _ => ∃ (ro r2 : Addr) (c c2 : qa1) (s s2 : Abs) (LY LZ LY2 LZ2 : List (List Int)), vs = [.ref ro, .ref r2] /\ RR C R H ro c s LY LZ /\ RR C R H r2 c2 s2 LY2 LZ2 /\ qct c /\ ApartD c2 c /\ LY.length < 64 /\ LZ.length < 64 /\ LY2.length < 64 /\ LZ2.length < 64 /\ TakeOk (cellD c) LY LZ (qbu s2) (qb4 s2) /\
 ∀ H', RR C R H' ro c (qdw (cellD c) s (qbu s2) (qb4 s2)) LY LZ -> But2 c.dy c.dh H H' -> Q .non H'
end TB
namespace TB
open PySem L2
theorem SKeys.nd {α : Type} {f : List Int -> Option α} {ms : List (List Int)} (h : SKeys f ms) : ms.Nodup := h.srt.imp fun {k l} hb e => by rw [e, blt_irr] at hb; cases hb
end TB
namespace TB
open PySem L2
structure Grid (ws es : List Int) (ge : Option Int) : Prop where
 gz : ∀ l1 w e l2, ws.zip es = l1 ++ (w, e) :: l2 -> 1 <= w /\ (∀ y ∈ l2, w ∣ y.2) /\ ∀ z, ge = some z -> w ∣ z
theorem cell_ex {ws es : List Int} {ge : Option Int} (hw : 1 <= ws.length) (he : 1 <= es.length) (t : Int) : CellOf ws es ge t (qbh ws es ge t) := by
 obtain ⟨o, h⟩ : ∃ o, CellOf ws es ge t o := by
  by_cases c : es[0] <= t
  ·exact ⟨some (t, 0), fun e0 h0 => ⟨fun _ => rfl, fun z => by rw [List.getElem?_eq_getElem (by omega)] at h0; have := Option.some.inj h0; omega⟩⟩
  ·by_cases hg : qcp ge t
   ·exact ⟨none, fun e0 h0 => ⟨fun z => by rw [List.getElem?_eq_getElem (by omega)] at h0; have := Option.some.inj h0; omega, fun _ => ⟨fun _ => rfl, fun z => absurd hg z⟩⟩⟩
   ·have hn := wl_ne (ws := ws) (es := es) (t := t) (w0 := ws[0]) (e0 := es[0]) (List.getElem?_eq_getElem (by omega)) (List.getElem?_eq_getElem (by omega)) (by omega)
    refine ⟨some (t / (wl ws es t)[(wl ws es t).length - 1] * (wl ws es t)[(wl ws es t).length - 1], (wl ws es t)[(wl ws es t).length - 1]), fun e0 h0 => ⟨fun z => by rw [List.getElem?_eq_getElem (by omega)] at h0; have := Option.some.inj h0; omega, fun _ => ⟨fun z => absurd z hg, fun _ => ⟨_, List.getElem?_eq_getElem (by omega), rfl⟩⟩⟩⟩
 rw [cellF_eq he h]; exact h
theorem dvd_le {e t w : Int} (hw : 1 <= w) (h : w ∣ e) (hl : e <= t) : e <= t / w * w := by
 obtain ⟨k, rfl⟩ := h
 have : k <= t / w := (Int.le_ediv_iff_mul_le (by omega)).mpr (by rw [Int.mul_comm]; exact hl)
 rw [Int.mul_comm w k]
 exact Int.mul_le_mul_of_nonneg_right this (by omega)
def Near (W : Int) (cell : Int -> Option (Int × Int)) : Prop := ∀ t a w, cell t = some (a, w) -> a <= t /\ t - W <= a
theorem cell_near {ws es : List Int} {ge : Option Int} {W : Int} (hw : 1 <= ws.length) (he : 1 <= es.length) (hW : 0 <= W) (hb : ∀ w ∈ ws, 1 <= w /\ w <= W) : Near W (qbh ws es ge) := fun t a w e => by
 have h := cell_ex (ge := ge) hw he t
 rw [e] at h
 obtain ⟨h1, h2⟩ := h es[0] (List.getElem?_eq_getElem (by omega))
 by_cases c : es[0] <= t
 ·have := h1 c
  cases this
  omega
 ·obtain ⟨g1, g2⟩ := h2 (by omega)
  by_cases hg : qcp ge t
  ·cases g1 hg
  ·obtain ⟨w', hl, e2⟩ := g2 hg
   cases e2
   have := hb w (wl_mem (List.mem_of_getElem? hl))
   have h1 := Int.ediv_mul_le t (b := w) (by omega)
   have h2 := Int.lt_ediv_add_one_mul_self t (b := w) (by omega)
   rw [Int.add_mul, Int.one_mul] at h2
   omega
structure Mul (ws es : List Int) (ge : Option Int) : Prop where
 m : ∀ (i : Nat) w e, ws[i]? = some w -> es[i]? = some e -> w ∣ e
 g : ∀ z w, ge = some z -> ws[ws.length - 1]? = some w -> w ∣ z
end TB
namespace TB
open PySem L2
def tagK (cell : Int -> Option (Int × Int)) (r : Rd3) : List Int := match cell r.1 with
 | none => []
 | some (a, w) => if w = 0 then [0, r.1, r.2.1] else [1, a, w]
def Tags (cell : Int -> Option (Int × Int)) (s : Abs) (L : List Rd3) : Prop := (∀ k, s.y k ≠ none -> ∃ r ∈ L, tagK cell r = 0 :: k) /\ ∀ k, s.z k ≠ none -> ∃ r ∈ L, tagK cell r = 1 :: k
theorem Tags.put {cell : Int -> Option (Int × Int)} {s : Abs} {L : List Rd3} (h : Tags cell s L) (r : Rd3) : Tags cell (putA cell s r) (L ++ [r]) := by
 have up : ∀ {x : List Int}, (∃ r ∈ L, tagK cell r = x) -> ∃ q ∈ L ++ [r], tagK cell q = x := fun ⟨q, hq, e⟩ => ⟨q, List.mem_append_left _ hq, e⟩
 have me : r ∈ L ++ [r] := List.mem_append_right _ List.mem_cons_self
 unfold putA
 rcases e : cell r.1 with _ | ⟨a, w⟩
 ·exact ⟨fun k hk => up (h.1 k hk), fun k hk => up (h.2 k hk)⟩
 ·dsimp only
  split
  ·rename_i hw
   refine ⟨fun k hk => ?_, fun k hk => up (h.2 k hk)⟩
   by_cases ek : k = [r.1, r.2.1]
   ·exact ⟨r, me, by unfold tagK; rw [e]; dsimp only; rw [if_pos hw, ek]⟩
   ·have hk : updA s.y [r.1, r.2.1] _ k ≠ none := hk
    rw [qbg _ _ ek] at hk; exact up (h.1 k hk)
  ·rename_i hw
   refine ⟨fun k hk => up (h.1 k hk), fun k hk => ?_⟩
   by_cases ek : k = [a, w]
   ·exact ⟨r, me, by unfold tagK; rw [e]; dsimp only; rw [if_neg hw, ek]⟩
   ·have hk : updA s.z [a, w] _ k ≠ none := hk
    rw [qbg _ _ ek] at hk; exact up (h.2 k hk)
theorem Tags.puts {cell : Int -> Option (Int × Int)} : ∀ (rs : List Rd3) {s : Abs} {L : List Rd3}, Tags cell s L -> Tags cell (rs.foldl (putA cell) s) (L ++ rs)
 | [], _, L, h => by rw [List.append_nil]; exact h
 | r :: t, s, L, h => by
  have := Tags.puts t (h.put r)
  rw [List.append_assoc] at this
  exact this
theorem tags_of (cell : Int -> Option (Int × Int)) (rs : List Rd3) : Tags cell (qde cell rs) rs := Tags.puts rs (L := []) ⟨fun _ h => absurd rfl h, fun _ h => absurd rfl h⟩
structure AbsB (B N : Int) (s : Abs) : Prop where
 y : ∀ k n, s.y k = some n -> ∃ t v, k = [t, v] /\ (-B <= t /\ t <= B) /\ (-(10 ^ 45) < v /\ v < 10 ^ 45) /\ 1 <= n /\ n <= N
 z : ∀ k x, s.z k = some x -> ∃ a w, k = [a, w] /\ -B <= a /\ a <= B
theorem absB0 {B N : Int} : AbsB B N abs0 := ⟨(fun _ _ h => by cases h), (fun _ _ h => by cases h)⟩
theorem AbsB.put {B W N M : Int} {cell : Int -> Option (Int × Int)} (cn : Near W cell) {s : Abs} (h : AbsB B N s) (hN : 0 <= N) (hM : 0 <= M) {r : Rd3} (ht : -B <= r.1 - W /\ r.1 <= B) (hW : 0 <= W) (hv : -(10 ^ 45) < r.2.1 /\ r.2.1 < 10 ^ 45) (hm : 1 <= r.2.2 /\ r.2.2 <= M) : AbsB B (N + M) (putA cell s r) := by
 have h' : AbsB B (N + M) s := ⟨fun k n e => by obtain ⟨t, v, e1, e2, e3, e4, e5⟩ := h.y k n e; exact ⟨t, v, e1, e2, e3, e4, by omega⟩, h.z⟩
 unfold putA
 rcases e : cell r.1 with _ | ⟨a, w⟩
 ·exact h'
 ·dsimp only
  split
  ·refine ⟨fun k n hk => ?_, h'.z⟩
   have hk : updA s.y [r.1, r.2.1] _ k = some n := hk
   by_cases ek : k = [r.1, r.2.1]
   ·rw [ek, qa2] at hk
    have hk := Option.some.inj hk
    refine ⟨r.1, r.2.1, ek, by omega, hv, ?_⟩
    cases e2 : s.y [r.1, r.2.1] with
    | none => rw [e2] at hk; simp at hk; omega
    | some n0 =>
     obtain ⟨_, _, _, _, _, e4, e5⟩ := h.y _ _ e2
     rw [e2] at hk
     simp at hk
     omega
   ·rw [qbg _ _ ek] at hk; exact h'.y k n hk
  ·refine ⟨h'.y, fun k x hk => ?_⟩
   have hk : updA s.z [a, w] _ k = some x := hk
   by_cases ek : k = [a, w]
   ·have := cn _ _ _ e
    exact ⟨a, w, ek, by omega, by omega⟩
   ·rw [qbg _ _ ek] at hk; exact h'.z k x hk
def RLt (r : Rd3) : Prop := (-(5 * 10 ^ 45) <= r.1 /\ r.1 <= 5 * 10 ^ 45) /\ (-(10 ^ 45) < r.2.1 /\ r.2.1 < 10 ^ 45) /\ 1 <= r.2.2 /\ r.2.2 <= 10 ^ 31
theorem absB_of {cell : Int -> Option (Int × Int)} (cn : Near (10 ^ 36) cell) : ∀ (rs : List Rd3) {s : Abs} {N : Int}, AbsB (5 * 10 ^ 45 + 10 ^ 36) N s -> 0 <= N -> (∀ r ∈ rs, RLt r) -> AbsB (5 * 10 ^ 45 + 10 ^ 36) (N + 10 ^ 31 * rs.length) (rs.foldl (putA cell) s)
 | [], s, N, h, _, _ => by simpa using h
 | r :: t, s, N, h, hN, hr => by
  obtain ⟨h1, h2, h3, h4⟩ := hr r List.mem_cons_self
  have a := h.put cn hN (M := 10 ^ 31) (by omega) (r := r) (by omega) (by omega) h2 ⟨h3, h4⟩
  have := absB_of cn t a (by omega) fun q hq => hr q (List.mem_cons_of_mem _ hq)
  rw [List.foldl_cons]
  have e : N + 10 ^ 31 + 10 ^ 31 * (t.length : Int) = N + 10 ^ 31 * ((r :: t).length : Int) := by
   rw [List.length_cons]; push_cast; omega
  rw [<- e]; exact this
theorem skeys_ex {α : Type} {f : List Int -> Option α} {ks : List (List Int)} (nd : ks.Nodup) (h : ∀ k, k ∈ ks ↔ f k ≠ none) : ∃ ms, SKeys f ms /\ ms.length = ks.length := by
 have tot : ∀ a b : List Int, (!blt b a || !blt a b) = true := fun a b => by
  cases h1 : blt b a <;> cases h2 : blt a b <;> simp
  exact blt_asym h1 h2
 have tr : ∀ a b c : List Int, (!blt b a) = true -> (!blt c b) = true -> (!blt c a) = true := fun a b c h1 h2 => by
  simp at h1 h2 ⊢
  by_cases e1 : a = b
  ·subst e1; exact h2
  ·by_cases e2 : b = c
   ·subst e2; exact h1
   ·have a1 := blt_tot b a (fun z => e1 z.symm) h1
    have a2 := blt_tot c b (fun z => e2 z.symm) h2
    have a3 := blt_tr _ _ _ a1 a2
    cases h3 : blt c a with
    | false => rfl
    | true => exact (blt_asym a3 h3).elim
 have pm := List.mergeSort_perm ks (fun a b => !blt b a)
 refine ⟨ks.mergeSort (fun a b => !blt b a), ⟨?_, fun k => by rw [pm.mem_iff, h]⟩, pm.length_eq⟩
 have srt := List.pairwise_mergeSort tr tot ks
 have nd' := pm.nodup_iff.mpr nd
 rw [List.nodup_iff_pairwise_ne] at nd'
 refine (srt.and nd').imp fun {a b} hab => ?_
 obtain ⟨h1, h2⟩ := hab
 simp at h1
 exact blt_tot b a (fun z => h2 z.symm) h1
end TB
namespace TB
open PySem L2
theorem put_pour_comm (cell : Int -> Option (Int × Int)) (s : Abs) (r : Rd3) (b : Int) (x : HP4) : qdv cell (putA cell s r) b x = putA cell (qdv cell s b x) r := by
 unfold putA qdv
 rcases e1 : cell r.1 with _ | ⟨a, w⟩
 ·rcases e2 : cell b with _ | ⟨c, u⟩ <;> rfl
 ·rcases e2 : cell b with _ | ⟨c, u⟩
  ·rfl
  ·dsimp only
   by_cases hw : w = 0
   ·rw [if_pos hw, if_pos hw]
   ·rw [if_neg hw, if_neg hw]
    dsimp only
    by_cases hk : [a, w] = [c, u]
    ·rw [hk, qa2, qbt, qa2, qbt, pour4_comm]
    ·rw [qbg _ _ (fun z => hk z.symm), qbg _ _ hk, updA_comm _ _ _ hk]
theorem rows_comm (cell : Int -> Option (Int × Int)) (s : Abs) (r z : List Int) : qbv cell (qcn cell s r) z = qcn cell (qbv cell s z) r := by
 unfold qbv qcn
 split <;> split <;> first | rfl | exact put_pour_comm _ _ _ _ _
theorem pours_put (cell : Int -> Option (Int × Int)) : ∀ (Z : List (List Int)) (s : Abs) (r : List Int), Z.foldl (qbv cell) (qcn cell s r) = qcn cell (Z.foldl (qbv cell) s) r
 | [], _, _ => rfl
 | z :: t, s, r => by rw [List.foldl_cons, List.foldl_cons, rows_comm, pours_put cell t]
theorem pours_puts (cell : Int -> Option (Int × Int)) (Z : List (List Int)) : ∀ (Y : List (List Int)) (s : Abs), Z.foldl (qbv cell) (Y.foldl (qcn cell) s) = Y.foldl (qcn cell) (Z.foldl (qbv cell) s)
 | [], _ => rfl
 | r :: t, s => by rw [List.foldl_cons, List.foldl_cons, pours_puts cell Z t, pours_put]
theorem take_two (cell : Int -> Option (Int × Int)) (s : Abs) (Y0 Z0 Y1 Z1 : List (List Int)) : qdw cell (qdw cell s Y0 Z0) Y1 Z1 = qdw cell s (Y0 ++ Y1) (Z0 ++ Z1) := by
 unfold qdw
 rw [List.foldl_append, List.foldl_append, pours_puts cell Z0 Y1]
theorem TakeOk.mono {cell : Int -> Option (Int × Int)} {LY LZ LY' LZ' Y Z : List (List Int)} (h : TakeOk cell LY LZ Y Z) (a : LY ⊆ LY') (b : LZ ⊆ LZ') : TakeOk cell LY' LZ' Y Z :=
 ⟨fun r hr => let ⟨t, v, m, e, ok, h1, h2⟩ := h.y r hr; ⟨t, v, m, e, ok, a h1, fun x w z => b (h2 x w z)⟩, fun r hr => let ⟨x, w, m, t, lo, hi, e, ok, h2⟩ := h.z r hr; ⟨x, w, m, t, lo, hi, e, ok, fun y w z => b (h2 y w z)⟩⟩
theorem pairs_all : ∀ ps qs : List (Int × Int), PyData.eqvAll (ps.map dPair) (qs.map dPair) = decide (ps = qs)
 | [], [] => by simp [PyData.eqvAll]
 | [], _ :: _ => by simp [PyData.eqvAll]
 | _ :: _, [] => by simp [PyData.eqvAll]
 | (a, b) :: ps, (c, d) :: qs => by
  rw [List.map_cons, List.map_cons, PyData.eqvAll, pairs_all ps qs]
  by_cases h1 : a = c <;> by_cases h2 : b = d <;> by_cases h3 : ps = qs <;> simp [h1, h2, h3, dPair, PyData.eqv, PyData.eqvAll]
theorem pairs_eqv (ps qs : List (Int × Int)) : PyData.eqv (qdp ps) (qdp qs) = decide (ps = qs) := by
 unfold qdp
 rw [PyData.eqv, pairs_all]
theorem gv_eqv (g h : Option Int) : PyData.eqv (dV (gv g)) (dV (gv h)) = decide (g = h) := by
 cases g with
 | none => cases h <;> simp [dV, gv, PyData.eqv]
 | some a =>
  cases h with
  | none => simp [dV, gv, PyData.eqv]
  | some b =>
   show (a == b) = _
   by_cases e : a = b <;> simp [e]
end TB
namespace TB
open PySem L2
structure Fall (ws es : List Int) (ge : Option Int) : Prop where
 len : ws.length = es.length
 pos : ∀ (i : Nat) w, ws[i]? = some w -> 1 <= w
 dv : ∀ (i j : Nat) a b, i <= j -> ws[i]? = some a -> ws[j]? = some b -> a ∣ b
 ml : ∀ (i : Nat) w e, ws[i]? = some w -> es[i]? = some e -> w ∣ e
 gl : ∀ (i : Nat) w z, ws[i]? = some w -> ge = some z -> w ∣ z
 dn : ∀ (i j : Nat) a b, i <= j -> es[i]? = some a -> es[j]? = some b -> b <= a
structure StepAt (ws es : List Int) (t : Int) (i : Nat) (w e : Int) : Prop where
 gw : ws[i]? = some w
 ge : es[i]? = some e
 lt : t < e
 nx : ∀ e', es[i + 1]? = some e' -> e' <= t
theorem wl_no {ws es : List Int} {t : Int} (h : ∀ x ∈ es, x <= t) : wl ws es t = [] := by
 unfold wl
 rw [List.filter_eq_nil_iff.mpr, List.map_nil]
 intro x hx
 have := h x.2 (List.of_mem_zip hx).2
 simp; omega
theorem step_last : ∀ {i : Nat} {ws es : List Int} {t w e : Int}, (∀ (i j : Nat) a b, i <= j -> es[i]? = some a -> es[j]? = some b -> b <= a) -> StepAt ws es t i w e -> (wl ws es t).getLast? = some w
 | 0, ws, es, t, w, e, F, S => by
  cases ws with
  | nil => have := S.gw; simp at this
  | cons w1 wr =>
   cases es with
   | nil => have := S.ge; simp at this
   | cons e1 er =>
    have ew := S.gw; have ee := S.ge
    simp at ew ee
    subst ew; subst ee
    have hr : ∀ x ∈ er, x <= t := fun x hx => by
     obtain ⟨k, hk, rfl⟩ := List.getElem_of_mem hx
     have h0 : 0 < er.length := by omega
     have a := S.nx er[0] (by simp [h0])
     have b := F 1 (k + 1) er[0] er[k] (by omega) (by simp [h0]) (by simp [hk])
     omega
    have e1 : wl (w1 :: wr) (e1 :: er) t = w1 :: wl wr er t := by
     unfold wl
     rw [List.zip_cons_cons, List.filter_cons_of_pos (by simpa using S.lt)]; rfl
    rw [e1, wl_no hr]; rfl
 | i + 1, ws, es, t, w, e, F, S => by
  cases ws with
  | nil => have := S.gw; simp at this
  | cons w1 wr =>
   cases es with
   | nil => have := S.ge; simp at this
   | cons e1 er =>
    have S' : StepAt wr er t i w e := ⟨by simpa using S.gw, by simpa using S.ge, S.lt, fun e' h => S.nx e' (by simpa using h)⟩
    have ih := step_last (fun a b x y h h1 h2 => F (a + 1) (b + 1) x y (by omega) (by simpa using h1) (by simpa using h2)) S'
    have hlt : t < e1 := by
     have := F 0 (i + 1) e1 e (by omega) (by simp) S.ge
     have := S.lt
     omega
    have e2 : wl (w1 :: wr) (e1 :: er) t = w1 :: wl wr er t := by
     unfold wl
     rw [List.zip_cons_cons, List.filter_cons_of_pos (by simpa using hlt)]; rfl
    rw [e2, List.getLast?_cons, ih]; rfl
theorem step_ex : ∀ {es ws : List Int} {t e0 : Int}, ws.length = es.length -> es[0]? = some e0 -> t < e0 -> ∃ i w e, StepAt ws es t i w e
 | [], ws, t, e0, _, h, _ => by simp at h
 | e1 :: er, [], t, e0, hl, _, _ => by simp at hl
 | e1 :: er, w1 :: wr, t, e0, hl, h, hlt => by
  simp at h
  subst h
  by_cases hc : ∃ e2, er[0]? = some e2 /\ t < e2
  ·obtain ⟨e2, he2, h2⟩ := hc
   obtain ⟨i, w, e, S⟩ := step_ex (es := er) (ws := wr) (by simpa using hl) he2 h2
   exact ⟨i + 1, w, e, by simpa using S.gw, by simpa using S.ge, S.lt, fun e' h => S.nx e' (by simpa using h)⟩
  ·refine ⟨0, w1, e1, by simp, by simp, hlt, fun e' h => ?_⟩
   have h' : er[0]? = some e' := by simpa using h
   by_cases z : t < e'
   ·exact absurd ⟨e', h', z⟩ hc
   ·omega
theorem dvd_lt {w t e : Int} (hw : 1 <= w) (hd : w ∣ e) (h : t < e) : t / w * w + w <= e := by
 obtain ⟨k, rfl⟩ := hd
 have h1 : t / w < k := Int.ediv_lt_of_lt_mul (by omega) (by rwa [Int.mul_comm] at h)
 have h2 := Int.mul_le_mul_of_nonneg_left (show t / w + 1 <= k by omega) (show 0 <= w by omega)
 rw [Int.mul_add, Int.mul_one, Int.mul_comm w (t / w)] at h2
 exact h2
theorem fl_le {w : Int} (t : Int) (hw : 1 <= w) : t / w * w <= t /\ t < t / w * w + w := by
 have a := Int.mul_ediv_add_emod t w
 have b := Int.emod_nonneg t (show w ≠ 0 by omega)
 have c := Int.emod_lt_of_pos t (show 0 < w by omega)
 rw [Int.mul_comm] at a
 omega
theorem fl_dvd (t w : Int) : w ∣ t / w * w := ⟨t / w, Int.mul_comm _ _⟩
theorem fl_of {w s x : Int} (hw : 1 <= w) (hd : w ∣ x) (h1 : x <= s) (h2 : s < x + w) : s / w * w = x := by
 have a := dvd_le hw hd h1
 have b := fl_le s hw
 obtain ⟨k, rfl⟩ := hd
 have c := dvd_lt hw (show w ∣ w * (k + 1) from ⟨k + 1, rfl⟩) (show s < w * (k + 1) by rw [Int.mul_add, Int.mul_one]; exact h2)
 rw [Int.mul_add, Int.mul_one] at c
 omega
theorem StepAt.cell {ws es : List Int} {ge : Option Int} {t s w e : Int} {i : Nat} (F : Fall ws es ge) (S : StepAt ws es t i w e) (h1 : t / w * w <= s) (h2 : s < t / w * w + w) : StepAt ws es s i w e /\ (qcp ge s ↔ qcp ge t) /\ s / w * w = t / w * w := by
 have hw := F.pos i w S.gw
 refine ⟨⟨S.gw, S.ge, ?_, fun e' he' => ?_⟩, ?_, fl_of hw (fl_dvd t w) h1 h2⟩
 ·have := dvd_lt hw (F.ml i w e S.gw S.ge) S.lt
  omega
 ·have hl : i + 1 < ws.length := by rw [F.len]; exact (List.getElem?_eq_some_iff.mp he').1
  have hd : w ∣ e' := Int.dvd_trans (F.dv i (i + 1) w ws[i + 1] (by omega) S.gw (List.getElem?_eq_getElem hl)) (F.ml (i + 1) _ e' (List.getElem?_eq_getElem hl) he')
  have := dvd_le hw hd (S.nx e' he')
  omega
 ·constructor
  ·rintro ⟨z, hz, h⟩
   have hd := F.gl i w z S.gw hz
   refine ⟨z, hz, ?_⟩
   by_cases c : t < z
   ·exact c
   ·have := dvd_le hw hd (show z <= t by omega); omega
  ·rintro ⟨z, hz, h⟩
   have hd := F.gl i w z S.gw hz
   exact ⟨z, hz, by have := dvd_lt hw hd h; omega⟩
theorem StepAt.idx {ws es : List Int} {ge : Option Int} {t : Int} {i j : Nat} {w e w' e' : Int} (F : Fall ws es ge) (S : StepAt ws es t i w e) (h : es[j]? = some e') (hlt : t < e') : j <= i := by
 by_cases c : j <= i
 ·exact c
 ·have hl : i + 1 < es.length := by have := (List.getElem?_eq_some_iff.mp h).1; omega
  have a := S.nx es[i + 1] (List.getElem?_eq_getElem hl)
  have b := F.dn (i + 1) j _ e' (by omega) (List.getElem?_eq_getElem hl) h
  omega
end TB
namespace TB
open PySem L2
theorem cell_mk {ws es : List Int} {ge : Option Int} {t w e e0 : Int} {i : Nat} (F : Fall ws es ge) (h0 : es[0]? = some e0) (S : StepAt ws es t i w e) (hg : ¬ qcp ge t) : CellOf ws es ge t (some (t / w * w, w)) := by
 have hlt : t < e0 := by have := F.dn 0 i e0 e (by omega) h0 S.ge; have := S.lt; omega
 exact CellOf.c h0 hlt hg (by rw [<- List.getLast?_eq_getElem?]; exact step_last F.dn S)
theorem cell_cases {ws es : List Int} {ge : Option Int} {t e0 : Int} {o : Option (Int × Int)} (F : Fall ws es ge) (h0 : es[0]? = some e0) (C : CellOf ws es ge t o) :
  (e0 <= t /\ o = some (t, 0)) \/ (t < e0 /\ qcp ge t /\ o = none) \/ (t < e0 /\ ¬ qcp ge t /\ ∃ i w e, StepAt ws es t i w e /\ o = some (t / w * w, w)) := by
 by_cases hc : e0 <= t
 ·exact .inl ⟨hc, C.uniq h0 (CellOf.a h0 hc)⟩
 ·have hlt : t < e0 := by omega
  by_cases hg : qcp ge t
  ·exact .inr (.inl ⟨hlt, hg, C.uniq h0 (CellOf.b h0 hlt hg)⟩)
  ·obtain ⟨i, w, e, S⟩ := step_ex F.len h0 hlt
   exact .inr (.inr ⟨hlt, hg, i, w, e, S, C.uniq h0 (cell_mk F h0 S hg)⟩)
theorem behind {ws es : List Int} {ge : Option Int} {t w e e0 : Int} {i : Nat} {o : Option (Int × Int)} (F : Fall ws es ge) (h0 : es[0]? = some e0) (S : StepAt ws es t i w e) (hg : ¬ qcp ge t) (C : CellOf ws es ge (t / w * w + w) o) : ∃ p, o = some p /\ p.1 = t / w * w + w := by
 have hw := F.pos i w S.gw
 have h1 := fl_le t hw
 rcases cell_cases F h0 C with ⟨_, rfl⟩ | ⟨_, ⟨z, hz, h⟩, rfl⟩ | ⟨_, _, j, w', e', S', rfl⟩
 ·exact ⟨_, rfl, rfl⟩
 ·exact absurd ⟨z, hz, by omega⟩ hg
 ·refine ⟨_, rfl, ?_⟩
  have hji : j <= i := StepAt.idx (w' := w') (e' := e') F S S'.ge (by have := S'.lt; omega)
  have hd : w' ∣ w := F.dv j i w' w hji S'.gw S.gw
  have hw' := F.pos j w' S'.gw
  exact fl_of hw' (Int.dvd_add (Int.dvd_trans hd (fl_dvd t w)) hd) (by omega) (by omega)
structure Later (es es' : List Int) (ge ge' : Option Int) : Prop where
 len : es'.length = es.length
 up : ∀ (i : Nat) a b, es[i]? = some a -> es'[i]? = some b -> a <= b
 gn : ∀ z, ge = some z -> ∃ z', ge' = some z' /\ z <= z'
theorem Later.gone {es es' : List Int} {ge ge' : Option Int} {t : Int} (L : Later es es' ge ge') (h : qcp ge t) : qcp ge' t := by
 obtain ⟨z, hz, h⟩ := h
 obtain ⟨z', hz', h'⟩ := L.gn z hz
 exact ⟨z', hz', by omega⟩
theorem later_none {ws es es' : List Int} {ge ge' : Option Int} {t e0 e0' : Int} {o : Option (Int × Int)} (L : Later es es' ge ge') (h0 : es[0]? = some e0) (h0' : es'[0]? = some e0') (hlt : t < e0) (hg : qcp ge t) (C : CellOf ws es' ge' t o) : o = none :=
 C.uniq h0' (CellOf.b h0' (by have := L.up 0 e0 e0' h0 h0'; omega) (L.gone hg))
theorem later_cell {ws es es' : List Int} {ge ge' : Option Int} {t w e e0' : Int} {i : Nat} (F : Fall ws es ge) (F' : Fall ws es' ge') (L : Later es es' ge ge') (h0' : es'[0]? = some e0') (S : StepAt ws es t i w e) :
  ∃ o, (∀ s, t / w * w <= s -> s < t / w * w + w -> ∀ o', CellOf ws es' ge' s o' -> o' = o) /\ ∀ p, o = some p -> p.1 <= t / w * w /\ t / w * w + w <= p.1 + p.2 := by
 have hw := F.pos i w S.gw
 have h1 := fl_le t hw
 have hle : i < es'.length := by rw [L.len]; exact (List.getElem?_eq_some_iff.mp S.ge).1
 have hu := L.up i e es'[i] S.ge (List.getElem?_eq_getElem hle)
 have hend := dvd_lt hw (F.ml i w e S.gw S.ge) S.lt
 have hlt0 : t / w * w < e0' := by
  have := F'.dn 0 i e0' es'[i] (by omega) h0' (List.getElem?_eq_getElem hle)
  omega
 obtain ⟨j, w', e', S'⟩ := step_ex F'.len h0' hlt0
 have hij : i <= j := StepAt.idx (w' := w') (e' := es'[i]) F' S' (List.getElem?_eq_getElem hle) (by omega)
 have hd : w ∣ w' := F.dv i j w w' hij S.gw S'.gw
 have hw' := F'.pos j w' S'.gw
 have h2 := fl_le (t / w * w) hw'
 have h3 : t / w * w + w <= t / w * w / w' * w' + w' := by
  have hdd : w ∣ t / w * w / w' * w' + w' := Int.dvd_add (Int.dvd_trans hd (fl_dvd _ w')) hd
  have := dvd_lt hw hdd (show t / w * w < t / w * w / w' * w' + w' by omega)
  have e : t / w * w / w * w = t / w * w := fl_of hw (fl_dvd t w) (by omega) (by omega)
  omega
 have all : ∀ s, t / w * w <= s -> s < t / w * w + w -> StepAt ws es' s j w' e' /\ (qcp ge' s ↔ qcp ge' (t / w * w)) /\ s / w' * w' = t / w * w / w' * w' :=
  fun s a b => StepAt.cell F' S' (by omega) (by omega)
 by_cases hg : qcp ge' (t / w * w)
 ·refine ⟨none, fun s a b o' C => ?_, fun p h => by cases h⟩
  obtain ⟨S2, g2, _⟩ := all s a b
  have : s < e0' := by have := F'.dn 0 j e0' e' (by omega) h0' S2.ge; have := S2.lt; omega
  exact C.uniq h0' (CellOf.b h0' this (g2.mpr hg))
 ·refine ⟨some (t / w * w / w' * w', w'), fun s a b o' C => ?_, fun p h => ?_⟩
  ·obtain ⟨S2, g2, e2⟩ := all s a b
   have := C.uniq h0' (cell_mk F' h0' S2 fun g => hg (g2.mp g))
   rw [this, e2]
  ·cases h
   exact ⟨h2.1, h3⟩
end TB
namespace TB
open PySem L2
theorem good_le {ps : List (Int × Int)} (G : Good ps) : ∀ (k i : Nat) p q, ps[i]? = some p -> ps[i + k]? = some q -> p.1 <= q.1 /\ p.2 ∣ q.2
 | 0, i, p, q, hp, hq => by rw [Nat.add_zero, hp] at hq; cases hq; exact ⟨Int.le_refl _, Int.dvd_refl _⟩
 | k + 1, i, p, q, hp, hq => by
  have hl : i + k < ps.length := by have := (List.getElem?_eq_some_iff.mp hq).1; omega
  obtain ⟨a, b⟩ := good_le G k i p ps[i + k] hp (List.getElem?_eq_getElem hl)
  obtain ⟨c, d⟩ := G.next (i + k) ps[i + k] q (List.getElem?_eq_getElem hl) (by rw [Nat.add_assoc]; exact hq)
  exact ⟨by omega, Int.dvd_trans b (Int.dvd_of_emod_eq_zero d)⟩
theorem Fall.of {ps : List (Int × Int)} {g : Option Int} (P : Pr ps g) (d : Int) : Fall (ps.map (·.2)) (ps.map fun p => cut d p.1 p.2) (g.map fun z => cut d z (lw ps)) where
 len := by rw [List.length_map, List.length_map]
 pos := fun i w h => by
  rw [List.getElem?_map] at h
  obtain ⟨p, hp, rfl⟩ := Option.map_eq_some_iff.mp h
  exact (P.good.each i p hp).2
 dv := fun i j a b hij ha hb => by
  rw [List.getElem?_map] at ha hb
  obtain ⟨p, hp, rfl⟩ := Option.map_eq_some_iff.mp ha
  obtain ⟨q, hq, rfl⟩ := Option.map_eq_some_iff.mp hb
  exact (good_le P.good (j - i) i p q hp (by rw [show i + (j - i) = j by omega]; exact hq)).2
 ml := fun i w e hw he => by
  rw [List.getElem?_map] at hw he
  obtain ⟨p, hp, rfl⟩ := Option.map_eq_some_iff.mp hw
  rw [hp] at he
  cases he
  exact fl_dvd _ _
 gl := fun i w z hw hz => by
  rw [List.getElem?_map] at hw
  obtain ⟨p, hp, rfl⟩ := Option.map_eq_some_iff.mp hw
  obtain ⟨y, rfl, rfl⟩ := Option.map_eq_some_iff.mp hz
  obtain ⟨q, hq, eq⟩ := P.last
  have hi := (List.getElem?_eq_some_iff.mp hp).1
  have := (good_le P.good (ps.length - 1 - i) i p q hp (by rw [show i + (ps.length - 1 - i) = ps.length - 1 by omega]; exact hq)).2
  rw [eq]
  exact Int.dvd_trans this (fl_dvd _ _)
 dn := fun i j a b hij ha hb => by
  rw [List.getElem?_map] at ha hb
  obtain ⟨p, hp, rfl⟩ := Option.map_eq_some_iff.mp ha
  obtain ⟨q, hq, rfl⟩ := Option.map_eq_some_iff.mp hb
  obtain ⟨h1, h2⟩ := good_le P.good (j - i) i p q hp (by rw [show i + (j - i) = j by omega]; exact hq)
  have wp := (P.good.each i p hp).2
  have wq := (P.good.each j q hq).2
  have a := (fl_le (d - q.1) wq).1
  exact dvd_le wp (Int.dvd_trans h2 (fl_dvd _ _)) (show (d - q.1) / q.2 * q.2 <= d - p.1 by omega)
def mx (i j : Int) : Int := if j > i then j else i
theorem mx_b (i j : Int) : i <= mx i j /\ j <= mx i j /\ (mx i j = i \/ mx i j = j) := by unfold mx; split <;> omega
theorem zw_of {a b : List Int} {i : Nat} {x : Int} (h : (List.zipWith mx a b)[i]? = some x) : ∃ u v, a[i]? = some u /\ b[i]? = some v /\ x = mx u v := by
 rw [List.getElem?_zipWith] at h
 split at h
 ·rename_i u v hu hv; exact ⟨u, v, hu, hv, (Option.some.inj h).symm⟩
 ·cases h
theorem gmax_of {g1 g2 : Option Int} {z : Int} (h : gmax g1 g2 = some z) : g1 = some z \/ g2 = some z := by
 cases g1 with
 | none => exact .inr h
 | some i =>
  cases g2 with
  | none => exact .inl h
  | some j =>
   simp only [gmax, Option.some.injEq] at h
   rw [<- h]
   split
   ·exact .inr rfl
   ·exact .inl rfl
theorem Fall.max {ws a b : List Int} {g1 g2 : Option Int} (F : Fall ws a g1) (G : Fall ws b g2) : Fall ws (List.zipWith mx a b) (gmax g1 g2) where
 len := by rw [List.length_zipWith, <- F.len, <- G.len]; omega
 pos := F.pos
 dv := F.dv
 ml := fun i w e hw he => by
  obtain ⟨u, v, hu, hv, rfl⟩ := zw_of he
  rcases (mx_b u v).2.2 with h | h
  ·rw [h]; exact F.ml i w u hw hu
  ·rw [h]; exact G.ml i w v hw hv
 gl := fun i w z hw hz => by
  rcases gmax_of hz with h | h
  ·exact F.gl i w z hw h
  ·exact G.gl i w z hw h
 dn := fun i j x y hij hx hy => by
  obtain ⟨u, v, hu, hv, rfl⟩ := zw_of hx
  obtain ⟨u', v', hu', hv', rfl⟩ := zw_of hy
  have c := F.dn i j u u' hij hu hu'
  have d := G.dn i j v v' hij hv hv'
  have e := mx_b u v
  rcases (mx_b u' v').2.2 with h | h <;> omega
theorem Later.max {a b : List Int} (g1 g2 : Option Int) (h : a.length = b.length) : Later a (List.zipWith mx a b) g1 (gmax g1 g2) where
 len := by rw [List.length_zipWith]; omega
 up := fun i x y hx hy => by
  obtain ⟨u, v, hu, hv, rfl⟩ := zw_of hy
  rw [hx] at hu; cases hu
  exact (mx_b x v).1
 gn := fun z hz => by
  subst hz
  cases g2 with
  | none => exact ⟨z, rfl, Int.le_refl _⟩
  | some j => exact ⟨mx z j, rfl, (mx_b z j).1⟩
theorem Later.trans {a b c : List Int} {g1 g2 g3 : Option Int} (h : Later a b g1 g2) (h' : Later b c g2 g3) : Later a c g1 g3 where
 len := by rw [h'.len, h.len]
 up := fun i x y hx hy => by
  have hi : i < b.length := by rw [h.len]; exact (List.getElem?_eq_some_iff.mp hx).1
  have a1 := h.up i x b[i] hx (List.getElem?_eq_getElem hi)
  have a2 := h'.up i b[i] y (List.getElem?_eq_getElem hi) hy
  omega
 gn := fun z hz => by
  obtain ⟨z1, e1, l1⟩ := h.gn z hz
  obtain ⟨z2, e2, l2⟩ := h'.gn z1 e1
  exact ⟨z2, e2, by omega⟩
end TB
namespace TB
open PySem L2
theorem qdf {S A : Type} {op : S -> A -> S} (comm : ∀ s r q, op (op s r) q = op (op s q) r) {l l' : List A} (p : l.Perm l') : ∀ s, l.foldl op s = l'.foldl op s := by
 induction p with
 | nil => intro s; rfl
 | cons x _ ih => intro s; exact ih _
 | swap x y l => intro s; simp only [List.foldl_cons]; rw [comm]
 | trans _ _ ih1 ih2 => intro s; rw [ih1, ih2]
theorem qea {S A : Type} {op : S -> A -> S} (comm : ∀ s r q, op (op s r) q = op (op s q) r) (x : A) (l : List A) (s : S) : (x :: l).foldl op s = op (l.foldl op s) x := by
 have h := qdf comm (List.perm_append_comm (l₁ := [x]) (l₂ := l)) s
 have e : (l ++ [x]).foldl op s = op (l.foldl op s) x := by rw [List.foldl_append]; rfl
 rw [<- e, <- h]; rfl
theorem opfold_at {S : Type} {op : S -> List Int -> S} (comm : ∀ s r q, op (op s r) q = op (op s q) r) {ms : List (List Int)} (nd : ms.Nodup) {f g : List Int -> List Int} {k : List Int} (hk : k ∈ ms) (hfg : ∀ j, j ≠ k -> f j = g j) (s : S) : ∃ X, (ms.map f).foldl op s = op X (f k) /\ (ms.map g).foldl op s = op X (g k) := by
 have p := List.perm_cons_erase hk
 have nd' := p.nodup_iff.mp nd
 rw [List.nodup_cons] at nd'
 have e : (ms.erase k).map f = (ms.erase k).map g := List.map_congr_left fun j hj => hfg j fun z => nd'.1 (z ▸ hj)
 refine ⟨((ms.erase k).map f).foldl op s, ?_, ?_⟩
 ·rw [qdf comm (p.map f) s, List.map_cons, qea comm]
 ·rw [qdf comm (p.map g) s, List.map_cons, qea comm, e]
theorem putRow_comm (cell : Int -> Option (Int × Int)) (s : Abs) (r q : List Int) : qcn cell (qcn cell s r) q = qcn cell (qcn cell s q) r := by
 unfold qcn
 split <;> split <;> first | rfl | exact putA_comm _ _ _ _
theorem pourA_comm (cell : Int -> Option (Int × Int)) (s : Abs) (a b : Int) (x y : HP4) : qdv cell (qdv cell s a x) b y = qdv cell (qdv cell s b y) a x := by
 unfold qdv
 rcases e1 : cell a with _ | ⟨c, u⟩
 ·rcases e2 : cell b with _ | ⟨d, w⟩ <;> rfl
 ·rcases e2 : cell b with _ | ⟨d, w⟩
  ·rfl
  ·dsimp only
   by_cases hk : [c, u] = [d, w]
   ·rw [hk, qa2, qbt, qa2, qbt, pour4_comm]
   ·rw [qbg _ _ (fun z => hk z.symm), qbg _ _ hk, updA_comm _ _ _ hk]
theorem pourRow_comm (cell : Int -> Option (Int × Int)) (s : Abs) (r q : List Int) : qbv cell (qbv cell s r) q = qbv cell (qbv cell s q) r := by
 unfold qbv
 split <;> split <;> first | rfl | exact pourA_comm _ _ _ _ _ _
structure Coarse (cell cell' : Int -> Option (Int × Int)) : Prop where
 n : ∀ t, cell t = none -> cell' t = none
 h : ∀ t a w, cell t = some (a, w) -> w ≠ 0 -> cell' t = cell' a /\ ∀ b u, cell' a = some (b, u) -> u ≠ 0
structure KF (s : Abs) : Prop where
 y : ∃ my, SKeys s.y my /\ ∀ k ∈ my, k.length = 2
 z : ∃ mz, SKeys s.z mz /\ ∀ k ∈ mz, k.length = 2
theorem skeys_upd {α : Type} {f : List Int -> Option α} {ms : List (List Int)} (h : SKeys f ms) (h2 : ∀ k ∈ ms, k.length = 2) {k : List Int} (hk : k.length = 2) (x : α) : ∃ ms', SKeys (updA f k x) ms' /\ (∀ j ∈ ms', j.length = 2) /\ ((k ∈ ms -> ms' = ms) /\ (k ∉ ms -> ms'.Perm (k :: ms))) := by
 by_cases c : k ∈ ms
 ·refine ⟨ms, ⟨h.srt, fun j => ?_⟩, h2, fun _ => rfl, fun z => absurd c z⟩
  by_cases e : j = k
  ·subst e; rw [qa2]; simp [c]
  ·rw [qbg _ _ e]; exact h.mem j
 ·have nd : (k :: ms).Nodup := List.nodup_cons.mpr ⟨c, h.nd⟩
  have mem : ∀ j, j ∈ k :: ms ↔ updA f k x j ≠ none := fun j => by
   by_cases e : j = k
   ·subst e; rw [qa2]; simp
   ·rw [qbg _ _ e, List.mem_cons]
    exact ⟨fun z => (h.mem j).mp (z.resolve_left e), fun z => .inr ((h.mem j).mpr z)⟩
  obtain ⟨ms', s', _⟩ := skeys_ex nd mem
  have pm : ms'.Perm (k :: ms) := by
   rw [List.perm_ext_iff_of_nodup s'.nd nd]
   intro j
   rw [s'.mem, mem]
  refine ⟨ms', s', fun j hj => ?_, fun z => absurd z c, fun _ => pm⟩
  rcases List.mem_cons.mp (pm.mem_iff.mp hj) with e | e
  ·rw [e]; exact hk
  ·exact h2 j e
theorem take_young {S0 : Abs} {cell' : Int -> Option (Int × Int)} {s : Abs} {my mz : List (List Int)} (sy : SKeys s.y my) (h2 : ∀ k ∈ my, k.length = 2) (sz : SKeys s.z mz) (t v m : Int) :
  qdw cell' S0 (qbu { s with y := updA s.y [t, v] ((s.y [t, v]).getD 0 + m) }) (qb4 { s with y := updA s.y [t, v] ((s.y [t, v]).getD 0 + m) }) = putA cell' (qdw cell' S0 (qbu s) (qb4 s)) (t, v, m) := by
 obtain ⟨my', sy', _, hin, hout⟩ := skeys_upd sy h2 (k := [t, v]) rfl ((s.y [t, v]).getD 0 + m)
 generalize es : ({ s with y := updA s.y [t, v] ((s.y [t, v]).getD 0 + m) } : Abs) = s'
 have ey' : s'.y = updA s.y [t, v] ((s.y [t, v]).getD 0 + m) := by rw [<- es]
 have ez' : s'.z = s.z := by rw [<- es]
 have sy'' : SKeys s'.y my' := by rw [ey']; exact sy'
 have ezr : qb4 s' = qb4 s := by
  have : SKeys s'.z mz := by rw [ez']; exact sz
  rw [<- qda this, <- qda sz]
  refine List.map_congr_left fun k _ => ?_
  unfold zRow; rw [ez']
 rw [ezr, <- qc9 sy'', <- qc9 sy]
 unfold qdw
 show _ = qcn cell' ((qb4 s).foldl (qbv cell') ((my.map (yRow s)).foldl (qcn cell') S0)) [t, v, m]
 rw [<- pours_put]
 congr 1
 have ne : ∀ j, j ≠ [t, v] -> yRow s' j = yRow s j := fun j hj => by unfold yRow; rw [ey', qbg _ _ hj]
 have at_ : yRow s' [t, v] = [t, v, (s.y [t, v]).getD 0 + m] := by unfold yRow; rw [ey', qa2]; rfl
 by_cases c : [t, v] ∈ my
 ·rw [hin c]
  obtain ⟨X, e1, e2⟩ := opfold_at (putRow_comm cell') sy.nd c ne S0
  rw [e1, e2, at_]
  show putA cell' X (t, v, _) = putA cell' (putA cell' X (t, v, (s.y [t, v]).getD 0)) (t, v, m)
  rw [putA_split]
 ·rw [qdf (putRow_comm cell') ((hout c).map _) S0, List.map_cons, qea (putRow_comm cell'), at_]
  have e : my.map (yRow s') = my.map (yRow s) := List.map_congr_left fun j hj => ne j fun z => c (by rw [<- z]; exact hj)
  have en : s.y [t, v] = none := by
   cases q : s.y [t, v] with
   | none => rfl
   | some n => exact absurd ((sy.mem _).mpr (by rw [q]; simp)) c
  rw [e, en]
  show putA cell' _ (t, v, 0 + m) = putA cell' _ (t, v, m)
  rw [Int.zero_add]
theorem mg4_assoc (a b c : HP4) : mg4 (mg4 a b) c = mg4 a (mg4 b c) := by
 unfold mg4
 refine ext4 ?_ ?_ ?_ ?_ <;> dsimp only
 ·omega
 ·omega
 ·repeat' split
  all_goals omega
 ·repeat' split
  all_goals omega
theorem pour4_assoc (o : Option HP4) (b c : HP4) : qcm (some (qcm o b)) c = qcm o (mg4 b c) := by
 cases o with
 | none => rfl
 | some a => exact mg4_assoc a b c
theorem pour_put {cell' : Int -> Option (Int × Int)} {t a : Int} (hc : cell' t = cell' a) (hu : ∀ b u, cell' a = some (b, u) -> u ≠ 0) (X : Abs) (v m : Int) : qdv cell' X a (one4 v m) = putA cell' X (t, v, m) := by
 unfold qdv putA
 dsimp only
 rw [hc]
 rcases e : cell' a with _ | ⟨b, u⟩
 ·rfl
 ·dsimp only
  rw [if_neg (hu b u e)]
theorem pour_mg (cell' : Int -> Option (Int × Int)) (X : Abs) (a : Int) (x y : HP4) : qdv cell' (qdv cell' X a x) a y = qdv cell' X a (mg4 x y) := by
 unfold qdv
 rcases e : cell' a with _ | ⟨b, u⟩
 ·rfl
 ·dsimp only
  rw [qa2, qbt, pour4_assoc]
theorem take_heap {S0 : Abs} {cell' : Int -> Option (Int × Int)} {s : Abs} {my mz : List (List Int)} (sy : SKeys s.y my) (sz : SKeys s.z mz) (h2 : ∀ k ∈ mz, k.length = 2) {t a : Int} (hc : cell' t = cell' a) (hu : ∀ b u, cell' a = some (b, u) -> u ≠ 0) (w v m : Int) :
  qdw cell' S0 (qbu { s with z := updA s.z [a, w] (qcm (s.z [a, w]) (one4 v m)) }) (qb4 { s with z := updA s.z [a, w] (qcm (s.z [a, w]) (one4 v m)) }) = putA cell' (qdw cell' S0 (qbu s) (qb4 s)) (t, v, m) := by
 obtain ⟨mz', sz', _, hin, hout⟩ := skeys_upd sz h2 (k := [a, w]) rfl (qcm (s.z [a, w]) (one4 v m))
 generalize es : ({ s with z := updA s.z [a, w] (qcm (s.z [a, w]) (one4 v m)) } : Abs) = s'
 have ez' : s'.z = updA s.z [a, w] (qcm (s.z [a, w]) (one4 v m)) := by rw [<- es]
 have ey' : s'.y = s.y := by rw [<- es]
 have sz'' : SKeys s'.z mz' := by rw [ez']; exact sz'
 have eyr : qbu s' = qbu s := by
  have : SKeys s'.y my := by rw [ey']; exact sy
  rw [<- qc9 this, <- qc9 sy]
  refine List.map_congr_left fun k _ => ?_
  unfold yRow; rw [ey']
 rw [eyr, <- qda sz'', <- qda sz, <- pour_put hc hu]
 unfold qdw
 generalize (qbu s).foldl (qcn cell') S0 = S1
 have ne : ∀ j, j ≠ [a, w] -> zRow s' j = zRow s j := fun j hj => by unfold zRow; rw [ez', qbg _ _ hj]
 have at_ : zRow s' [a, w] = [a, w] ++ i4 (qcm (s.z [a, w]) (one4 v m)) := by unfold zRow; rw [ez', qa2]; rfl
 have pr : ∀ (X : Abs) (x : HP4), qbv cell' X ([a, w] ++ i4 x) = qdv cell' X a x := fun X x => rfl
 by_cases c : [a, w] ∈ mz
 ·rw [hin c]
  obtain ⟨X, e1, e2⟩ := opfold_at (pourRow_comm cell') sz.nd c ne S1
  rw [e1, e2, at_, pr]
  show _ = qdv cell' (qbv cell' X ([a, w] ++ i4 ((s.z [a, w]).getD (0, 0, 0, 0)))) a (one4 v m)
  rw [pr]
  cases q : s.z [a, w] with
  | none => exact absurd q ((sz.mem _).mp c)
  | some x => rw [Option.getD_some, pour_mg]; rfl
 ·rw [qdf (pourRow_comm cell') ((hout c).map _) S1, List.map_cons, qea (pourRow_comm cell'), at_, pr]
  have e : mz.map (zRow s') = mz.map (zRow s) := List.map_congr_left fun j hj => ne j fun z => c (by rw [<- z]; exact hj)
  have en : s.z [a, w] = none := by
   cases q : s.z [a, w] with
   | none => rfl
   | some n => exact absurd ((sz.mem _).mpr (by rw [q]; simp)) c
  rw [e, en]; rfl
theorem take_put {S0 : Abs} {cell cell' : Int -> Option (Int × Int)} (co : Coarse cell cell') {s : Abs} (kf : KF s) (r : Rd3) :
  qdw cell' S0 (qbu (putA cell s r)) (qb4 (putA cell s r)) = putA cell' (qdw cell' S0 (qbu s) (qb4 s)) r /\ KF (putA cell s r) := by
 obtain ⟨my, sy, hy⟩ := kf.y
 obtain ⟨mz, sz, hz⟩ := kf.z
 obtain ⟨t, v, m⟩ := r
 rcases e : cell t with _ | ⟨a, w⟩
 ·have e1 : putA cell s (t, v, m) = s := by unfold putA; dsimp only; rw [e]
  have e2 : ∀ X, putA cell' X (t, v, m) = X := fun X => by unfold putA; dsimp only; rw [co.n t e]
  rw [e1, e2]
  exact ⟨rfl, kf⟩
 ·by_cases hw : w = 0
  ·have e1 : putA cell s (t, v, m) = { s with y := updA s.y [t, v] ((s.y [t, v]).getD 0 + m) } := by unfold putA; dsimp only; rw [e]; dsimp only; rw [if_pos hw]
   rw [e1]
   refine ⟨take_young sy hy sz t v m, ?_, ⟨mz, sz, hz⟩⟩
   obtain ⟨my', sy', h', _⟩ := skeys_upd sy hy (k := [t, v]) rfl ((s.y [t, v]).getD 0 + m)
   exact ⟨my', sy', h'⟩
  ·have e1 : putA cell s (t, v, m) = { s with z := updA s.z [a, w] (qcm (s.z [a, w]) (one4 v m)) } := by unfold putA; dsimp only; rw [e]; dsimp only; rw [if_neg hw]
   rw [e1]
   obtain ⟨c1, c2⟩ := co.h t a w e hw
   refine ⟨take_heap sy sz hz c1 c2 w v m, ⟨my, sy, hy⟩, ?_⟩
   obtain ⟨mz', sz', h', _⟩ := skeys_upd sz hz (k := [a, w]) rfl (qcm (s.z [a, w]) (one4 v m))
   exact ⟨mz', sz', h'⟩
theorem kf0 : KF abs0 := ⟨⟨[], ⟨.nil, fun k => ⟨(fun h => by cases h), fun h => absurd rfl h⟩⟩, (fun k h => by cases h)⟩, ⟨[], ⟨.nil, fun k => ⟨(fun h => by cases h), fun h => absurd rfl h⟩⟩, (fun k h => by cases h)⟩⟩
theorem take_puts {S0 : Abs} {cell cell' : Int -> Option (Int × Int)} (co : Coarse cell cell') : ∀ (rs : List Rd3) {s s' : Abs}, KF s -> qdw cell' S0 (qbu s) (qb4 s) = s' -> qdw cell' S0 (qbu (rs.foldl (putA cell) s)) (qb4 (rs.foldl (putA cell) s)) = rs.foldl (putA cell') s'
 | [], _, _, _, e => e
 | r :: t, s, s', kf, e => by
  obtain ⟨h1, h2⟩ := take_put co kf r
  exact take_puts co t h2 (by rw [h1, e])
theorem take_on {cell cell' : Int -> Option (Int × Int)} (co : Coarse cell cell') (rs : List Rd3) (S0 : Abs) : qdw cell' S0 (qbu (qde cell rs)) (qb4 (qde cell rs)) = rs.foldl (putA cell') S0 := by
 refine take_puts co rs kf0 ?_
 have hy : qbu abs0 = [] := (qc9 (ms := []) ⟨.nil, fun k => ⟨(fun h => by cases h), fun h => absurd rfl h⟩⟩).symm
 have hz : qb4 abs0 = [] := (qda (ms := []) ⟨.nil, fun k => ⟨(fun h => by cases h), fun h => absurd rfl h⟩⟩).symm
 rw [hy, hz]; rfl
theorem take_of {cell cell' : Int -> Option (Int × Int)} (co : Coarse cell cell') (rs : List Rd3) : qdw cell' abs0 (qbu (qde cell rs)) (qb4 (qde cell rs)) = qde cell' rs := take_on co rs abs0
theorem coarse_of {ws es es' : List Int} {ge ge' : Option Int} (F : Fall ws es ge) (F' : Fall ws es' ge') (L : Later es es' ge ge') (hl : 1 <= es.length) : Coarse (qbh ws es ge) (qbh ws es' ge') := by
 have hl' : 1 <= es'.length := by rw [L.len]; exact hl
 have hw : 1 <= ws.length := by rw [F.len]; exact hl
 have h0 : es[0]? = some es[0] := List.getElem?_eq_getElem (by omega)
 have h0' : es'[0]? = some es'[0] := List.getElem?_eq_getElem (by omega)
 have up := L.up 0 _ _ h0 h0'
 refine ⟨fun t e => ?_, fun t a w e hw0 => ?_⟩
 ·have C := cell_ex (ge := ge) hw hl t
  have C' := cell_ex (ge := ge') hw hl' t
  rw [e] at C
  by_cases c : es[0] <= t
  ·cases (C es[0] h0).1 c
  ·by_cases hg : qcp ge t
   ·exact later_none L h0 h0' (by omega) hg C'
   ·obtain ⟨w, _, e2⟩ := ((C es[0] h0).2 (by omega)).2 hg
    cases e2
 ·have C := cell_ex (ge := ge) hw hl t
  rw [e] at C
  have hlt : t < es[0] := by
   by_cases c : es[0] <= t
   ·have := (C es[0] h0).1 c
    cases this
    exact absurd rfl hw0
   ·omega
  obtain ⟨i, w', e', S⟩ := step_ex F.len h0 hlt
  have hg : ¬ qcp ge t := fun g => by cases ((C es[0] h0).2 hlt).1 g
  have := C.uniq h0 (cell_mk F h0 S hg)
  cases this
  have hw1 := F.pos i w S.gw
  have fl := fl_le t hw1
  obtain ⟨o, ho, _⟩ := later_cell F F' L h0' S
  have a1 := ho t fl.1 fl.2 _ (cell_ex hw hl' t)
  have a2 := ho (t / w * w) (Int.le_refl _) (by omega) _ (cell_ex hw hl' (t / w * w))
  refine ⟨a1.trans a2.symm, fun b u eb hu => ?_⟩
  have C2 := cell_ex (ge := ge') hw hl' (t / w * w)
  rw [eb] at C2
  have lt2 : t / w * w < es'[0] := by omega
  obtain ⟨j, w2, e2, S2⟩ := step_ex F'.len h0' lt2
  have hg2 : ¬ qcp ge' (t / w * w) := fun g => by cases ((C2 es'[0] h0').2 lt2).1 g
  have := C2.uniq h0' (cell_mk F' h0' S2 hg2)
  cases this
  have := F'.pos j _ S2.gw
  omega
end TB
local macro_rules | `(tactic| walk_at "same") => `(tactic| first | exact L2.Same.refl _ | assumption | exact L2.New.same (by assumption) | (refine L2.same_by ?_ (by assumption); walk_at "same") | (refine L2.Same.trans ?_ (by assumption); walk_at "same"))
local macro_rules | `(tactic| walk_at "fact") => `(tactic| first | assumption | exact L2.New.at_ (by assumption) | (refine L2.up_new (by assumption) ?_; walk_at "fact") | (refine L2.up_same (by assumption) ?_; walk_at "fact"))
local macro_rules | `(tactic| walk_at "sq") => `(tactic| first | assumption | exact L2.SqL.of (by walk_at "fact") | exact L2.SqT.of (by walk_at "fact") | exact Or.inl (L2.SqL.of (by walk_at "fact")) | exact Or.inr (L2.SqT.of (by walk_at "fact")) | exact Or.inl (by assumption) | walk_at "fact")
local macro_rules | `(tactic| walk_at "c") => `(tactic| first
 | ((with_reducible show _ <= PySem.sizeLine); first | exact Nat.le_of_lt (L2.qaw (Nat.le_of_ble_eq_true rfl)) | exact Nat.le_of_lt (L2.qaw (by omega)) | exact Nat.le_of_lt (L2.qaw (by simp only [List.length_map, List.length_append, List.length_cons, List.length_nil]; omega)))
 | ((with_reducible show _ < PySem.sizeLine); first | exact L2.qaw (by omega) | exact L2.qaw (by simp only [List.length_map, List.length_append, List.length_cons, List.length_nil]; omega))
 | decide | omega | (dsimp only; first | decide | omega) | (simp only [List.length_map, List.length_append, List.length_cons, List.length_nil]; omega)
 | ((with_reducible refine And.intro ?_ ?_) <;> walk_at "c")
 | (refine And.intro ?_ ?_ <;> walk_at "c") | (refine Or.inl ?_; walk_at "c") | (refine Or.inr ?_; walk_at "c"))
local macro_rules | `(tactic| walk_at "at") => `(tactic| first | rfl | assumption | exact L2.atI_nat (by assumption) | exact TB.atI_m1 (by assumption))
local macro_rules | `(tactic| walk_at "ty") => `(tactic| first | exact L2.TyOf.int _ | exact L2.TyOf.bl _ | exact L2.TyOf.non | exact L2.TyOf.str _ | exact L2.TyOf.lst (by walk_at "fact") | exact L2.TyOf.tup (by walk_at "fact"))
local macro_rules | `(tactic| walk_at "kit") => `(tactic| first | exact L2.kit_int_int _ | exact L2.kit_int_bool _ | exact L2.kit_list _ | exact L2.kit_tuple _ | rfl)
local macro_rules | `(tactic| walk_at "r1") => `(tactic| first
 | refine Exists.intro _ (And.intro rfl ?_)
 | refine Exists.intro _ (Exists.intro _ (And.intro rfl (And.intro rfl ?_)))
 | refine And.intro rfl ?_
 | refine Exists.intro _ (Exists.intro _ (And.intro rfl (And.intro (by walk_at "sq") ?_)))
 | refine Exists.intro _ (Exists.intro _ (Exists.intro _ (Exists.intro _ (And.intro rfl (And.intro rfl (And.intro (by walk_at "sq") (And.intro (by walk_at "at") ?_)))))))
 | refine And.intro (Or.inl ⟨rfl, _, L2.SqL.of (by walk_at "fact")⟩) ?_
 | refine Exists.intro _ (Exists.intro _ (Exists.intro _ (And.intro rfl (And.intro rfl (And.intro (by walk_at "fact") (And.intro (by walk_at "c") ?_))))))
 | refine Exists.intro _ (Exists.intro _ (Exists.intro _ (Exists.intro _ (And.intro rfl (And.intro (by walk_at "ty") (And.intro (by walk_at "kit") ?_))))))
 | refine Exists.intro _ (Exists.intro _ (And.intro rfl ?_))
 | refine And.intro (by walk_at "c") ?_
 | refine L2.iteT ?_
 | refine L2.iteF ?_)
local macro_rules | `(tactic| walk_at "n") => `(tactic| simp only [L2.tNil, List.cons_append, List.nil_append, List.append_nil])
local macro_rules | `(tactic| walk_at "r") => `(tactic| (walk_at "r1"; repeat walk_at "r1"))
namespace TB
open PySem L2
def top (i : Nat) : Stmt := PySem.Challenge.pw_thinbook_k37_whole_any_deeds.main.body.getD i (.Pass ⟨0, 0, 0, 0⟩)
abbrev qdx : Stmt := (top 7)
abbrev s_floored : Stmt := (top 8)
abbrev qdy : Stmt := (top 10)
abbrev qdz : Stmt := (top 11)
abbrev qb5 : Stmt := (top 12)
abbrev s_greater : Stmt := (top 13)
abbrev s_is_gone : Stmt := (top 14)
abbrev qd0 : Stmt := (top 15)
abbrev s_cell_at : Stmt := (top 16)
abbrev s_heap_of : Stmt := (top 18)
abbrev s_poured : Stmt := (top 19)
abbrev qdg : Stmt := (inClass (top 21) 0)
abbrev qdb : Stmt := (inClass (top 21) 1)
abbrev qa7 : Stmt := (inClass (top 21) 2)
abbrev qbn : Stmt := (inClass (top 21) 3)
abbrev qbw : Stmt := (inClass (top 21) 4)
abbrev qdh : Stmt := (inClass (top 21) 5)
abbrev qd1 : Stmt := (inClass (top 21) 6)
abbrev qcu : Stmt := (inClass (top 21) 7)
abbrev qcv : Stmt := (inClass (top 21) 8)
abbrev qcw : Stmt := (inClass (top 21) 9)
abbrev s_begun : Stmt := (top 22)
abbrev s_is_step : Stmt := (top 25)
abbrev qbo : Stmt := (top 26)
abbrev qbj : Stmt := (top 27)
abbrev qch : Stmt := (top 28)
abbrev qcx : Stmt := (top 29)
abbrev qcq : Stmt := (inClass (top 30) 0)
abbrev qcy : Stmt := (inClass (top 30) 1)
abbrev qdi : Stmt := (inClass (top 30) 2)
abbrev qdj : Stmt := (top 31)
abbrev qcz : Stmt := (top 32)
abbrev s_aged : Stmt := (top 34)
abbrev s_under : Stmt := (top 35)
abbrev s_both : Stmt := (top 36)
abbrev s_roll_of : Stmt := (top 37)
abbrev qb6 : Stmt := (top 39)
abbrev qc0 : Stmt := (top 40)
abbrev qc1 : Stmt := (top 41)
abbrev qci : Stmt := (top 42)
abbrev qcj : Stmt := (top 43)
abbrev qdk : Stmt := (top 44)
abbrev qc2 : Stmt := (top 45)
abbrev qb7 : Stmt := (top 46)
abbrev qb8 : Stmt := (top 47)
abbrev qdl : Stmt := (top 48)
abbrev qdm : Stmt := (top 49)
abbrev qb9 : Stmt := (top 50)
abbrev qc3 : Stmt := (top 51)
abbrev qck : Stmt := (top 52)
abbrev qdn : Stmt := (top 53)
abbrev s_law : Stmt := (top 54)
theorem sc_is_whole : qan ["thing"] ["thing"] (qad qdx) := ⟨rfl, rfl, rfl, by decide +kernel, rfl, by decide +kernel, by decide +kernel⟩
theorem sc_floored : qan ["number", "width"] ["number", "width"] (qad s_floored) := ⟨rfl, rfl, rfl, by decide +kernel, rfl, by decide +kernel, by decide +kernel⟩
theorem sc_gone_cut : qan ["rule", "day", "gone"] ["rule", "day"] (qad qdy) := ⟨rfl, rfl, rfl, by decide +kernel, rfl, by decide +kernel, by decide +kernel⟩
theorem sc_edges_at : qan ["rule", "day", "cuts"] ["rule", "day"] (qad qdz) := ⟨rfl, rfl, rfl, by decide +kernel, rfl, by decide +kernel, by decide +kernel⟩
theorem sc_greater_edge : qan ["one", "other"] ["one", "other"] (qad qb5) := ⟨rfl, rfl, rfl, by decide +kernel, rfl, by decide +kernel, by decide +kernel⟩
theorem sc_greater : qan ["one", "other"] ["one", "other"] (qad s_greater) := ⟨rfl, rfl, rfl, by decide +kernel, rfl, by decide +kernel, by decide +kernel⟩
theorem sc_is_gone : qan ["edges", "time"] ["edges", "time"] (qad s_is_gone) := ⟨rfl, rfl, rfl, by decide +kernel, rfl, by decide +kernel, by decide +kernel⟩
theorem sc_width_at : qan ["rule", "edges", "time", "widths"] ["rule", "edges", "time"] (qad qd0) := ⟨rfl, rfl, rfl, by decide +kernel, rfl, by decide +kernel, by decide +kernel⟩
theorem sc_cell_at : qan ["rule", "edges", "time", "width"] ["rule", "edges", "time"] (qad s_cell_at) := ⟨rfl, rfl, rfl, by decide +kernel, rfl, by decide +kernel, by decide +kernel⟩
theorem sc_heap_of : qan ["runs", "values", "how_many", "total"] ["runs"] (qad s_heap_of) := ⟨rfl, rfl, rfl, by decide +kernel, rfl, by decide +kernel, by decide +kernel⟩
theorem sc_poured : qan ["one", "other"] ["one", "other"] (qad s_poured) := ⟨rfl, rfl, rfl, by decide +kernel, rfl, by decide +kernel, by decide +kernel⟩
theorem sc_Roll_init : qan ["self", "rule", "day"] ["self", "rule", "day"] (qad qdg) := ⟨rfl, rfl, rfl, by decide +kernel, rfl, by decide +kernel, by decide +kernel⟩
theorem sc_Roll_put : qan ["self", "time", "value", "many", "cell"] ["self", "time", "value", "many"] (qad qdb) := ⟨rfl, rfl, rfl, by decide +kernel, rfl, by decide +kernel, by decide +kernel⟩
theorem sc_Roll_pour_into_cell : qan ["self", "cell", "heap"] ["self", "cell", "heap"] (qad qa7) := ⟨rfl, rfl, rfl, by decide +kernel, rfl, by decide +kernel, by decide +kernel⟩
theorem sc_Roll_take_heap : qan ["self", "start", "heap", "cell"] ["self", "start", "heap"] (qad qbn) := ⟨rfl, rfl, rfl, by decide +kernel, rfl, by decide +kernel, by decide +kernel⟩
theorem sc_Roll_take_all : qan ["self", "roll", "time", "value", "many", "row"] ["self", "roll"] (qad qbw) := ⟨rfl, rfl, rfl, by decide +kernel, rfl, by decide +kernel, by decide +kernel⟩
theorem sc_Roll_rule : qan ["self"] ["self"] (qad qdh) := ⟨rfl, rfl, rfl, by decide +kernel, rfl, by decide +kernel, by decide +kernel⟩
theorem sc_Roll_day : qan ["self"] ["self"] (qad qd1) := ⟨rfl, rfl, rfl, by decide +kernel, rfl, by decide +kernel, by decide +kernel⟩
theorem sc_Roll_edges : qan ["self"] ["self"] (qad qcu) := ⟨rfl, rfl, rfl, by decide +kernel, rfl, by decide +kernel, by decide +kernel⟩
theorem sc_Roll_young : qan ["self"] ["self"] (qad qcv) := ⟨rfl, rfl, rfl, by decide +kernel, rfl, by decide +kernel, by decide +kernel⟩
theorem sc_Roll_heaps : qan ["self"] ["self"] (qad qcw) := ⟨rfl, rfl, rfl, by decide +kernel, rfl, by decide +kernel, by decide +kernel⟩
theorem sc_begun : qan ["rule", "day", "edges", "roll"] ["rule", "day", "edges"] (qad s_begun) := ⟨rfl, rfl, rfl, by decide +kernel, rfl, by decide +kernel, by decide +kernel⟩
theorem sc_is_step : qan ["thing"] ["thing"] (qad s_is_step) := ⟨rfl, rfl, rfl, by decide +kernel, rfl, by decide +kernel, by decide +kernel⟩
theorem sc_check_one_step : qan ["step"] ["step"] (qad qbo) := ⟨rfl, rfl, rfl, by decide +kernel, rfl, by decide +kernel, by decide +kernel⟩
theorem sc_check_next_step : qan ["step", "behind"] ["step", "behind"] (qad qbj) := ⟨rfl, rfl, rfl, by decide +kernel, rfl, by decide +kernel, by decide +kernel⟩
theorem sc_check_steps : qan ["steps", "step", "behind"] ["steps"] (qad qch) := ⟨rfl, rfl, rfl, by decide +kernel, rfl, by decide +kernel, by decide +kernel⟩
theorem sc_check_gone : qan ["gone", "last_age"] ["gone", "last_age"] (qad qcx) := ⟨rfl, rfl, rfl, by decide +kernel, rfl, by decide +kernel, by decide +kernel⟩
theorem sc_Rule_init : qan ["self", "steps", "gone", "kept"] ["self", "steps", "gone"] (qad qcq) := ⟨rfl, rfl, rfl, by decide +kernel, rfl, by decide +kernel, by decide +kernel⟩
theorem sc_Rule_steps : qan ["self"] ["self"] (qad qcy) := ⟨rfl, rfl, rfl, by decide +kernel, rfl, by decide +kernel, by decide +kernel⟩
theorem sc_Rule_gone : qan ["self"] ["self"] (qad qdi) := ⟨rfl, rfl, rfl, by decide +kernel, rfl, by decide +kernel, by decide +kernel⟩
theorem sc_widths_of : qan ["rule"] ["rule"] (qad qdj) := ⟨rfl, rfl, rfl, by decide +kernel, rfl, by decide +kernel, by decide +kernel⟩
theorem sc_same_rules : qan ["one", "other"] ["one", "other"] (qad qcz) := ⟨rfl, rfl, rfl, by decide +kernel, rfl, by decide +kernel, by decide +kernel⟩
theorem sc_aged : qan ["roll", "day", "new"] ["roll", "day"] (qad s_aged) := ⟨rfl, rfl, rfl, by decide +kernel, rfl, by decide +kernel, by decide +kernel⟩
theorem sc_under : qan ["roll", "rule", "new"] ["roll", "rule"] (qad s_under) := ⟨rfl, rfl, rfl, by decide +kernel, rfl, by decide +kernel, by decide +kernel⟩
theorem sc_both : qan ["one", "other", "new"] ["one", "other"] (qad s_both) := ⟨rfl, rfl, rfl, by decide +kernel, rfl, by decide +kernel, by decide +kernel⟩
theorem sc_roll_of : qan ["rule", "day", "edges", "readings", "new", "time", "value", "many"] ["rule", "day", "edges", "readings"] (qad s_roll_of) := ⟨rfl, rfl, rfl, by decide +kernel, rfl, by decide +kernel, by decide +kernel⟩
theorem sc__law_cell_at : qan ["_law_script", "_law_k"] ["_law_script", "_law_k"] (qad qb6) := ⟨rfl, rfl, rfl, by decide +kernel, rfl, by decide +kernel, by decide +kernel⟩
theorem sc__law_mixed : qan ["_law_cell", "_law_k", "_law_number"] ["_law_cell", "_law_k"] (qad qc0) := ⟨rfl, rfl, rfl, by decide +kernel, rfl, by decide +kernel, by decide +kernel⟩
theorem sc__law_parts : qan ["_law_cell", "_law_bases", "_law_found", "_law_rest", "_law_k", "_law_base"] ["_law_cell", "_law_bases"] (qad qc1) := ⟨rfl, rfl, rfl, by decide +kernel, rfl, by decide +kernel, by decide +kernel⟩
theorem sc__law_amount : qan ["_law_kind", "_law_value"] ["_law_kind", "_law_value"] (qad qci) := ⟨rfl, rfl, rfl, by decide +kernel, rfl, by decide +kernel, by decide +kernel⟩
theorem sc__law_widths : qan ["_law_parts_here", "_law_found", "_law_k", "_law_factor"] ["_law_parts_here"] (qad qcj) := ⟨rfl, rfl, rfl, by decide +kernel, rfl, by decide +kernel, by decide +kernel⟩
theorem sc__law_ages : qan ["_law_parts_here", "_law_broad", "_law_rows", "_law_age", "_law_k", "_law_end"] ["_law_parts_here", "_law_broad"] (qad qdk) := ⟨rfl, rfl, rfl, by decide +kernel, rfl, by decide +kernel, by decide +kernel⟩
theorem sc__law_edges : qan ["_law_rows", "_law_end", "_law_today", "_law_found"] ["_law_rows", "_law_end", "_law_today"] (qad qc2) := ⟨rfl, rfl, rfl, by decide +kernel, rfl, by decide +kernel, by decide +kernel⟩
theorem sc__law_greater : qan ["_law_one", "_law_other", "_law_found", "_law_here", "_law_there", "_law_some"] ["_law_one", "_law_other"] (qad qb7) := ⟨rfl, rfl, rfl, by decide +kernel, rfl, by decide +kernel, by decide +kernel⟩
theorem sc__law_reading : qan ["_law_edges_here", "_law_rows", "_law_cell", "_law_far", "_law_parts_here", "_law_known", "_law_edge", "_law_width", "_law_time", "_law_value"] ["_law_edges_here", "_law_rows", "_law_cell"] (qad qb8) := ⟨rfl, rfl, rfl, by decide +kernel, rfl, by decide +kernel, by decide +kernel⟩
theorem sc__law_more : qan ["_law_broad", "_law_cell", "_law_parts_here", "_law_width"] ["_law_broad", "_law_cell"] (qad qdl) := ⟨rfl, rfl, rfl, by decide +kernel, rfl, by decide +kernel, by decide +kernel⟩
theorem sc__law_home : qan ["_law_edges_here", "_law_rows", "_law_time", "_law_width"] ["_law_edges_here", "_law_rows", "_law_time"] (qad qdm) := ⟨rfl, rfl, rfl, by decide +kernel, rfl, by decide +kernel, by decide +kernel⟩
theorem sc__law_grouped : qan ["_law_readings", "_law_edges_here", "_law_rows", "_law_whole", "_law_found", "_law_time", "_law_value", "_law_many", "_law_home_here", "_law_old", "_law_plain"] ["_law_readings", "_law_edges_here", "_law_rows"] (qad qb9) := ⟨rfl, rfl, rfl, by decide +kernel, rfl, by decide +kernel, by decide +kernel⟩
theorem sc__law_right : qan ["_law_roll", "_law_state", "_law_rules", "_law_at", "_law_today", "_law_edges_here", "_law_readings", "_law_rows", "_law_end"] ["_law_roll", "_law_state", "_law_rules"] (qad qc3) := ⟨rfl, rfl, rfl, by decide +kernel, rfl, by decide +kernel, by decide +kernel⟩
theorem sc__law_poured : qan ["_law_rolls", "_law_states", "_law_rules", "_law_one", "_law_other", "_law_word", "_law_found", "_law_at", "_law_later", "_law_edges_here"] ["_law_rolls", "_law_states", "_law_rules", "_law_one", "_law_other"] (qad qck) := ⟨rfl, rfl, rfl, by decide +kernel, rfl, by decide +kernel, by decide +kernel⟩
theorem sc__law_deed : qan ["_law_rolls", "_law_states", "_law_rules", "_law_one", "_law_cell", "_law_at", "_law_today", "_law_edges_here", "_law_readings", "_law_kind", "_law_reading_here", "_law_home_here", "_law_later", "_law_limits", "_law_rows", "_law_end"] ["_law_rolls", "_law_states", "_law_rules", "_law_one", "_law_cell"] (qad qdn) := ⟨rfl, rfl, rfl, by decide +kernel, rfl, by decide +kernel, by decide +kernel⟩
theorem sc_law : qan ["_law_script", "_law_ages_here", "_law_broad", "_law_rules", "_law_days", "_law_rolls", "_law_states", "_law_rows", "_law_end", "_law_k", "_law_today", "_law_cell", "_law_one", "_law_at", "_law_edges_here", "_law_readings", "_law_made"] ["_law_script"] (qad s_law) := ⟨rfl, rfl, rfl, by decide +kernel, rfl, by decide +kernel, by decide +kernel⟩
structure Txt (K : Frag) (mg : Str -> Option Value) (C_Roll : Addr) (C_Rule : Addr) (C_BookError : Addr) (C_NoNumber : Addr) (C_NoRule : Addr) (C_Backward : Addr) : Prop where
 f_is_whole : ∃ f fd, Fun K "is_whole" "is_whole" qdx f fd /\ mg "is_whole" = some (.ref f)
 f_floored : ∃ f fd, Fun K "floored" "floored" s_floored f fd /\ mg "floored" = some (.ref f)
 f_gone_cut : ∃ f fd, Fun K "gone_cut" "gone_cut" qdy f fd /\ mg "gone_cut" = some (.ref f)
 f_edges_at : ∃ f fd, Fun K "edges_at" "edges_at" qdz f fd /\ mg "edges_at" = some (.ref f)
 f_greater_edge : ∃ f fd, Fun K "greater_edge" "greater_edge" qb5 f fd /\ mg "greater_edge" = some (.ref f)
 f_greater : ∃ f fd, Fun K "greater" "greater" s_greater f fd /\ mg "greater" = some (.ref f)
 f_is_gone : ∃ f fd, Fun K "is_gone" "is_gone" s_is_gone f fd /\ mg "is_gone" = some (.ref f)
 f_width_at : ∃ f fd, Fun K "width_at" "width_at" qd0 f fd /\ mg "width_at" = some (.ref f)
 f_cell_at : ∃ f fd, Fun K "cell_at" "cell_at" s_cell_at f fd /\ mg "cell_at" = some (.ref f)
 f_heap_of : ∃ f fd, Fun K "heap_of" "heap_of" s_heap_of f fd /\ mg "heap_of" = some (.ref f)
 f_poured : ∃ f fd, Fun K "poured" "poured" s_poured f fd /\ mg "poured" = some (.ref f)
 f_Roll_init : ∃ f fd, Fun K "__init__" "Roll.__init__" qdg f fd /\ Mk K C_Roll f
 f_Roll_put : ∃ f fd dT o n t, FunD K "put" "Roll.put" qdb (.ref dT) f fd /\ Meth K C_Roll "put" f /\ fd.defaults = .ref dT /\ K.lookup dT = some o /\ o.data = .seq #[.int 1 t] n
 f_Roll_pour_into_cell : ∃ f fd, Fun K "pour_into_cell" "Roll.pour_into_cell" qa7 f fd /\ Meth K C_Roll "pour_into_cell" f
 f_Roll_take_heap : ∃ f fd, Fun K "take_heap" "Roll.take_heap" qbn f fd /\ Meth K C_Roll "take_heap" f
 f_Roll_take_all : ∃ f fd, Fun K "take_all" "Roll.take_all" qbw f fd /\ Meth K C_Roll "take_all" f
 f_Roll_rule : ∃ f fd, Fun K "rule" "Roll.rule" qdh f fd /\ Meth K C_Roll "rule" f
 f_Roll_day : ∃ f fd, Fun K "day" "Roll.day" qd1 f fd /\ Meth K C_Roll "day" f
 f_Roll_edges : ∃ f fd, Fun K "edges" "Roll.edges" qcu f fd /\ Meth K C_Roll "edges" f
 f_Roll_young : ∃ f fd, Fun K "young" "Roll.young" qcv f fd /\ Meth K C_Roll "young" f
 f_Roll_heaps : ∃ f fd, Fun K "heaps" "Roll.heaps" qcw f fd /\ Meth K C_Roll "heaps" f
 f_begun : ∃ f fd, Fun K "begun" "begun" s_begun f fd /\ mg "begun" = some (.ref f)
 f_is_step : ∃ f fd, Fun K "is_step" "is_step" s_is_step f fd /\ mg "is_step" = some (.ref f)
 f_check_one_step : ∃ f fd, Fun K "check_one_step" "check_one_step" qbo f fd /\ mg "check_one_step" = some (.ref f)
 f_check_next_step : ∃ f fd, Fun K "check_next_step" "check_next_step" qbj f fd /\ mg "check_next_step" = some (.ref f)
 f_check_steps : ∃ f fd, Fun K "check_steps" "check_steps" qch f fd /\ mg "check_steps" = some (.ref f)
 f_check_gone : ∃ f fd, Fun K "check_gone" "check_gone" qcx f fd /\ mg "check_gone" = some (.ref f)
 f_Rule_init : ∃ f fd dT o n, FunD K "__init__" "Rule.__init__" qcq (.ref dT) f fd /\ Mk K C_Rule f /\ fd.defaults = .ref dT /\ K.lookup dT = some o /\ o.data = .seq #[.none] n
 f_Rule_steps : ∃ f fd, Fun K "steps" "Rule.steps" qcy f fd /\ Meth K C_Rule "steps" f
 f_Rule_gone : ∃ f fd, Fun K "gone" "Rule.gone" qdi f fd /\ Meth K C_Rule "gone" f
 f_widths_of : ∃ f fd, Fun K "widths_of" "widths_of" qdj f fd /\ mg "widths_of" = some (.ref f)
 f_same_rules : ∃ f fd, Fun K "same_rules" "same_rules" qcz f fd /\ mg "same_rules" = some (.ref f)
 f_aged : ∃ f fd, Fun K "aged" "aged" s_aged f fd /\ mg "aged" = some (.ref f)
 f_under : ∃ f fd, Fun K "under" "under" s_under f fd /\ mg "under" = some (.ref f)
 f_both : ∃ f fd, Fun K "both" "both" s_both f fd /\ mg "both" = some (.ref f)
 f_roll_of : ∃ f fd, Fun K "roll_of" "roll_of" s_roll_of f fd /\ mg "roll_of" = some (.ref f)
 f__law_cell_at : ∃ f fd, Fun K "_law_cell_at" "_law_cell_at" qb6 f fd /\ mg "_law_cell_at" = some (.ref f)
 f__law_mixed : ∃ f fd, Fun K "_law_mixed" "_law_mixed" qc0 f fd /\ mg "_law_mixed" = some (.ref f)
 f__law_parts : ∃ f fd, Fun K "_law_parts" "_law_parts" qc1 f fd /\ mg "_law_parts" = some (.ref f)
 f__law_amount : ∃ f fd, Fun K "_law_amount" "_law_amount" qci f fd /\ mg "_law_amount" = some (.ref f)
 f__law_widths : ∃ f fd, Fun K "_law_widths" "_law_widths" qcj f fd /\ mg "_law_widths" = some (.ref f)
 f__law_ages : ∃ f fd, Fun K "_law_ages" "_law_ages" qdk f fd /\ mg "_law_ages" = some (.ref f)
 f__law_edges : ∃ f fd, Fun K "_law_edges" "_law_edges" qc2 f fd /\ mg "_law_edges" = some (.ref f)
 f__law_greater : ∃ f fd, Fun K "_law_greater" "_law_greater" qb7 f fd /\ mg "_law_greater" = some (.ref f)
 f__law_reading : ∃ f fd, Fun K "_law_reading" "_law_reading" qb8 f fd /\ mg "_law_reading" = some (.ref f)
 f__law_more : ∃ f fd, Fun K "_law_more" "_law_more" qdl f fd /\ mg "_law_more" = some (.ref f)
 f__law_home : ∃ f fd, Fun K "_law_home" "_law_home" qdm f fd /\ mg "_law_home" = some (.ref f)
 f__law_grouped : ∃ f fd, Fun K "_law_grouped" "_law_grouped" qb9 f fd /\ mg "_law_grouped" = some (.ref f)
 f__law_right : ∃ f fd, Fun K "_law_right" "_law_right" qc3 f fd /\ mg "_law_right" = some (.ref f)
 f__law_poured : ∃ f fd, Fun K "_law_poured" "_law_poured" qck f fd /\ mg "_law_poured" = some (.ref f)
 f__law_deed : ∃ f fd, Fun K "_law_deed" "_law_deed" qdn f fd /\ mg "_law_deed" = some (.ref f)
 f_law : ∃ f fd, Fun K "law" "law" s_law f fd /\ mg "law" = some (.ref f)
 cl_Roll : Cls K C_Roll
 mg_Roll : mg "Roll" = some (.ref C_Roll)
 na_Roll_kept_rule : NoAttr K C_Roll "kept_rule"
 na_Roll_kept_day : NoAttr K C_Roll "kept_day"
 na_Roll_kept_edges : NoAttr K C_Roll "kept_edges"
 na_Roll_whole_ones : NoAttr K C_Roll "whole_ones"
 na_Roll_cell_heaps : NoAttr K C_Roll "cell_heaps"
 cl_Rule : Cls K C_Rule
 mg_Rule : mg "Rule" = some (.ref C_Rule)
 na_Rule_kept_steps : NoAttr K C_Rule "kept_steps"
 na_Rule_gone_age : NoAttr K C_Rule "gone_age"
 mg_BookError : mg "BookError" = some (.ref C_BookError)
 mg_NoNumber : mg "NoNumber" = some (.ref C_NoNumber)
 mg_NoRule : mg "NoRule" = some (.ref C_NoRule)
 mg_Backward : mg "Backward" = some (.ref C_Backward)
 ex_NoRule : ExcC K C_NoRule
 kx_NoRule : ExcK K C_NoRule
 hit_NoRule_NoRule : PySem.W.mroIn K C_NoRule (.ref C_NoRule) = some true
 b_bool : mg "bool" = none
 b_enumerate : mg "enumerate" = none
 b_int : mg "int" = none
 b_isinstance : mg "isinstance" = none
 b_len : mg "len" = none
 b_list : mg "list" = none
 b_max : mg "max" = none
 b_min : mg "min" = none
 b_range : mg "range" = none
 b_sorted : mg "sorted" = none
 b_sum : mg "sum" = none
 b_tuple : mg "tuple" = none
 b_zip : mg "zip" = none
 c_MOST_STEPS : ∃ t, mg "MOST_STEPS" = some (.int 5 t)
theorem txt_mk {K : Frag} {h : Heap} {mg : Str -> Option Value} (X : K.In h) (G : h.Ns mainGlobals mg) {C_Roll C_Rule f0 f1 f2 f3 f4 f5 f6 f7 f8 f9 f10 f11 f12 dT12 f13 f14 f15 f16 f17 f18 f19 f20 f21 f22 f23 f24 f25 f26 f27 dT27 f28 f29 f30 f31 f32 f33 f34 f35 f36 f37 f38 f39 f40 f41 f42 f43 f44 f45 f46 f47 f48 f49 f50 f51 C_BookError C_NoNumber C_NoRule C_Backward : Addr} {od0 an0 od1 an1 od2 an2 od3 an3 od4 an4 od5 an5 od6 an6 od7 an7 od8 an8 od9 an9 od10 an10 od11 an11 od12 an12 dd12 od13 an13 od14 an14 od15 an15 od16 an16 od17 an17 od18 an18 od19 an19 od20 an20 od21 an21 od22 an22 od23 an23 od24 an24 od25 an25 od26 an26 od27 an27 dd27 od28 an28 od29 an29 od30 an30 od31 an31 od32 an32 od33 an33 od34 an34 od35 an35 od36 an36 od37 an37 od38 an38 od39 an39 od40 an40 od41 an41 od42 an42 od43 an43 od44 an44 od45 an45 od46 an46 od47 an47 od48 an48 od49 an49 od50 an50 od51 an51 : Option Addr} {sl0 sl1 sl2 sl3 sl4 sl5 sl6 sl7 sl8 sl9 sl10 sl11 sl12 ds12 sl13 sl14 sl15 sl16 sl17 sl18 sl19 sl20 sl21 sl22 sl23 sl24 sl25 sl26 sl27 ds27 sl28 sl29 sl30 sl31 sl32 sl33 sl34 sl35 sl36 sl37 sl38 sl39 sl40 sl41 sl42 sl43 sl44 sl45 sl46 sl47 sl48 sl49 sl50 sl51 : Array (Option Value)} {oc0 kV0 dc0 pm0 cd0 ct0 oc1 kV1 dc1 pm1 cd1 ct1 oc2 kV2 dc2 pm2 cd2 ct2 oc3 kV3 dc3 pm3 cd3 ct3 oc4 kV4 dc4 pm4 cd4 ct4 oc5 kV5 dc5 pm5 cd5 ct5 oc6 kV6 dc6 pm6 cd6 ct6 oc7 kV7 dc7 pm7 cd7 ct7 oc8 kV8 dc8 pm8 cd8 ct8 oc9 kV9 dc9 pm9 cd9 ct9 oc10 kV10 dc10 pm10 cd10 ct10 oc11 kV11 dc11 pm11 cd11 ct11 oc12 kV12 dc12 pm12 cd12 ct12 dk12 oc13 kV13 dc13 pm13 cd13 ct13 oc14 kV14 dc14 pm14 cd14 ct14 oc15 kV15 dc15 pm15 cd15 ct15 oc16 kV16 dc16 pm16 cd16 ct16 oc17 kV17 dc17 pm17 cd17 ct17 oc18 kV18 dc18 pm18 cd18 ct18 oc19 kV19 dc19 pm19 cd19 ct19 oc20 kV20 dc20 pm20 cd20 ct20 oc21 kV21 dc21 pm21 cd21 ct21 oc22 kV22 dc22 pm22 cd22 ct22 oc23 kV23 dc23 pm23 cd23 ct23 oc24 kV24 dc24 pm24 cd24 ct24 oc25 kV25 dc25 pm25 cd25 ct25 oc26 kV26 dc26 pm26 cd26 ct26 oc27 kV27 dc27 pm27 cd27 ct27 dk27 oc28 kV28 dc28 pm28 cd28 ct28 oc29 kV29 dc29 pm29 cd29 ct29 oc30 kV30 dc30 pm30 cd30 ct30 oc31 kV31 dc31 pm31 cd31 ct31 oc32 kV32 dc32 pm32 cd32 ct32 oc33 kV33 dc33 pm33 cd33 ct33 oc34 kV34 dc34 pm34 cd34 ct34 oc35 kV35 dc35 pm35 cd35 ct35 oc36 kV36 dc36 pm36 cd36 ct36 oc37 kV37 dc37 pm37 cd37 ct37 oc38 kV38 dc38 pm38 cd38 ct38 oc39 kV39 dc39 pm39 cd39 ct39 oc40 kV40 dc40 pm40 cd40 ct40 oc41 kV41 dc41 pm41 cd41 ct41 oc42 kV42 dc42 pm42 cd42 ct42 oc43 kV43 dc43 pm43 cd43 ct43 oc44 kV44 dc44 pm44 cd44 ct44 oc45 kV45 dc45 pm45 cd45 ct45 oc46 kV46 dc46 pm46 cd46 ct46 oc47 kV47 dc47 pm47 cd47 ct47 oc48 kV48 dc48 pm48 cd48 ct48 oc49 kV49 dc49 pm49 cd49 ct49 oc50 kV50 dc50 pm50 cd50 ct50 oc51 kV51 dc51 pm51 cd51 ct51 : Value} {dn12 dn27 : Nat} {dt12 t_MOST_STEPS : Tok}
  (aCRoll : nsIn K mainGlobals "Roll" = some (some (.ref C_Roll)))
  (aCRule : nsIn K mainGlobals "Rule" = some (some (.ref C_Rule)))
  (a0 : nsIn K mainGlobals "is_whole" = some (some (.ref f0)))
  (l0 : K.lookup f0 = some ⟨oc0, od0, .func (fnOf "is_whole" "is_whole" (qao qdx) (qam qdx) (qad qdx) .none kV0 dc0 pm0 an0 cd0 ct0), sl0⟩)
  (c0 : codeIn K cd0 "is_whole" = true)
  (k0 : keepIn K (.ref f0) = true)
  (a1 : nsIn K mainGlobals "floored" = some (some (.ref f1)))
  (l1 : K.lookup f1 = some ⟨oc1, od1, .func (fnOf "floored" "floored" (qao s_floored) (qam s_floored) (qad s_floored) .none kV1 dc1 pm1 an1 cd1 ct1), sl1⟩)
  (c1 : codeIn K cd1 "floored" = true)
  (k1 : keepIn K (.ref f1) = true)
  (a2 : nsIn K mainGlobals "gone_cut" = some (some (.ref f2)))
  (l2 : K.lookup f2 = some ⟨oc2, od2, .func (fnOf "gone_cut" "gone_cut" (qao qdy) (qam qdy) (qad qdy) .none kV2 dc2 pm2 an2 cd2 ct2), sl2⟩)
  (c2 : codeIn K cd2 "gone_cut" = true)
  (k2 : keepIn K (.ref f2) = true)
  (a3 : nsIn K mainGlobals "edges_at" = some (some (.ref f3)))
  (l3 : K.lookup f3 = some ⟨oc3, od3, .func (fnOf "edges_at" "edges_at" (qao qdz) (qam qdz) (qad qdz) .none kV3 dc3 pm3 an3 cd3 ct3), sl3⟩)
  (c3 : codeIn K cd3 "edges_at" = true)
  (k3 : keepIn K (.ref f3) = true)
  (a4 : nsIn K mainGlobals "greater_edge" = some (some (.ref f4)))
  (l4 : K.lookup f4 = some ⟨oc4, od4, .func (fnOf "greater_edge" "greater_edge" (qao qb5) (qam qb5) (qad qb5) .none kV4 dc4 pm4 an4 cd4 ct4), sl4⟩)
  (c4 : codeIn K cd4 "greater_edge" = true)
  (k4 : keepIn K (.ref f4) = true)
  (a5 : nsIn K mainGlobals "greater" = some (some (.ref f5)))
  (l5 : K.lookup f5 = some ⟨oc5, od5, .func (fnOf "greater" "greater" (qao s_greater) (qam s_greater) (qad s_greater) .none kV5 dc5 pm5 an5 cd5 ct5), sl5⟩)
  (c5 : codeIn K cd5 "greater" = true)
  (k5 : keepIn K (.ref f5) = true)
  (a6 : nsIn K mainGlobals "is_gone" = some (some (.ref f6)))
  (l6 : K.lookup f6 = some ⟨oc6, od6, .func (fnOf "is_gone" "is_gone" (qao s_is_gone) (qam s_is_gone) (qad s_is_gone) .none kV6 dc6 pm6 an6 cd6 ct6), sl6⟩)
  (c6 : codeIn K cd6 "is_gone" = true)
  (k6 : keepIn K (.ref f6) = true)
  (a7 : nsIn K mainGlobals "width_at" = some (some (.ref f7)))
  (l7 : K.lookup f7 = some ⟨oc7, od7, .func (fnOf "width_at" "width_at" (qao qd0) (qam qd0) (qad qd0) .none kV7 dc7 pm7 an7 cd7 ct7), sl7⟩)
  (c7 : codeIn K cd7 "width_at" = true)
  (k7 : keepIn K (.ref f7) = true)
  (a8 : nsIn K mainGlobals "cell_at" = some (some (.ref f8)))
  (l8 : K.lookup f8 = some ⟨oc8, od8, .func (fnOf "cell_at" "cell_at" (qao s_cell_at) (qam s_cell_at) (qad s_cell_at) .none kV8 dc8 pm8 an8 cd8 ct8), sl8⟩)
  (c8 : codeIn K cd8 "cell_at" = true)
  (k8 : keepIn K (.ref f8) = true)
  (a9 : nsIn K mainGlobals "heap_of" = some (some (.ref f9)))
  (l9 : K.lookup f9 = some ⟨oc9, od9, .func (fnOf "heap_of" "heap_of" (qao s_heap_of) (qam s_heap_of) (qad s_heap_of) .none kV9 dc9 pm9 an9 cd9 ct9), sl9⟩)
  (c9 : codeIn K cd9 "heap_of" = true)
  (k9 : keepIn K (.ref f9) = true)
  (a10 : nsIn K mainGlobals "poured" = some (some (.ref f10)))
  (l10 : K.lookup f10 = some ⟨oc10, od10, .func (fnOf "poured" "poured" (qao s_poured) (qam s_poured) (qad s_poured) .none kV10 dc10 pm10 an10 cd10 ct10), sl10⟩)
  (c10 : codeIn K cd10 "poured" = true)
  (k10 : keepIn K (.ref f10) = true)
  (a11 : PySem.W.findIn K (.ref C_Roll) "__init__" = some (some (.ref f11)))
  (i11 : PySem.W.isFn K (.ref f11) = true)
  (l11 : K.lookup f11 = some ⟨oc11, od11, .func (fnOf "__init__" "Roll.__init__" (qao qdg) (qam qdg) (qad qdg) .none kV11 dc11 pm11 an11 cd11 ct11), sl11⟩)
  (c11 : codeIn K cd11 "Roll.__init__" = true)
  (k11 : keepIn K (.ref f11) = true)
  (a12 : PySem.W.findIn K (.ref C_Roll) "put" = some (some (.ref f12)))
  (i12 : PySem.W.isFn K (.ref f12) = true)
  (l12 : K.lookup f12 = some ⟨oc12, od12, .func (fnOf "put" "Roll.put" (qao qdb) (qam qdb) (qad qdb) (.ref dT12) kV12 dc12 pm12 an12 cd12 ct12), sl12⟩)
  (c12 : codeIn K cd12 "Roll.put" = true)
  (k12 : keepIn K (.ref f12) = true)
  (d12 : K.lookup dT12 = some ⟨dk12, dd12, .seq #[.int 1 dt12] dn12, ds12⟩)
  (a13 : PySem.W.findIn K (.ref C_Roll) "pour_into_cell" = some (some (.ref f13)))
  (i13 : PySem.W.isFn K (.ref f13) = true)
  (l13 : K.lookup f13 = some ⟨oc13, od13, .func (fnOf "pour_into_cell" "Roll.pour_into_cell" (qao qa7) (qam qa7) (qad qa7) .none kV13 dc13 pm13 an13 cd13 ct13), sl13⟩)
  (c13 : codeIn K cd13 "Roll.pour_into_cell" = true)
  (k13 : keepIn K (.ref f13) = true)
  (a14 : PySem.W.findIn K (.ref C_Roll) "take_heap" = some (some (.ref f14)))
  (i14 : PySem.W.isFn K (.ref f14) = true)
  (l14 : K.lookup f14 = some ⟨oc14, od14, .func (fnOf "take_heap" "Roll.take_heap" (qao qbn) (qam qbn) (qad qbn) .none kV14 dc14 pm14 an14 cd14 ct14), sl14⟩)
  (c14 : codeIn K cd14 "Roll.take_heap" = true)
  (k14 : keepIn K (.ref f14) = true)
  (a15 : PySem.W.findIn K (.ref C_Roll) "take_all" = some (some (.ref f15)))
  (i15 : PySem.W.isFn K (.ref f15) = true)
  (l15 : K.lookup f15 = some ⟨oc15, od15, .func (fnOf "take_all" "Roll.take_all" (qao qbw) (qam qbw) (qad qbw) .none kV15 dc15 pm15 an15 cd15 ct15), sl15⟩)
  (c15 : codeIn K cd15 "Roll.take_all" = true)
  (k15 : keepIn K (.ref f15) = true)
  (a16 : PySem.W.findIn K (.ref C_Roll) "rule" = some (some (.ref f16)))
  (i16 : PySem.W.isFn K (.ref f16) = true)
  (l16 : K.lookup f16 = some ⟨oc16, od16, .func (fnOf "rule" "Roll.rule" (qao qdh) (qam qdh) (qad qdh) .none kV16 dc16 pm16 an16 cd16 ct16), sl16⟩)
  (c16 : codeIn K cd16 "Roll.rule" = true)
  (k16 : keepIn K (.ref f16) = true)
  (a17 : PySem.W.findIn K (.ref C_Roll) "day" = some (some (.ref f17)))
  (i17 : PySem.W.isFn K (.ref f17) = true)
  (l17 : K.lookup f17 = some ⟨oc17, od17, .func (fnOf "day" "Roll.day" (qao qd1) (qam qd1) (qad qd1) .none kV17 dc17 pm17 an17 cd17 ct17), sl17⟩)
  (c17 : codeIn K cd17 "Roll.day" = true)
  (k17 : keepIn K (.ref f17) = true)
  (a18 : PySem.W.findIn K (.ref C_Roll) "edges" = some (some (.ref f18)))
  (i18 : PySem.W.isFn K (.ref f18) = true)
  (l18 : K.lookup f18 = some ⟨oc18, od18, .func (fnOf "edges" "Roll.edges" (qao qcu) (qam qcu) (qad qcu) .none kV18 dc18 pm18 an18 cd18 ct18), sl18⟩)
  (c18 : codeIn K cd18 "Roll.edges" = true)
  (k18 : keepIn K (.ref f18) = true)
  (a19 : PySem.W.findIn K (.ref C_Roll) "young" = some (some (.ref f19)))
  (i19 : PySem.W.isFn K (.ref f19) = true)
  (l19 : K.lookup f19 = some ⟨oc19, od19, .func (fnOf "young" "Roll.young" (qao qcv) (qam qcv) (qad qcv) .none kV19 dc19 pm19 an19 cd19 ct19), sl19⟩)
  (c19 : codeIn K cd19 "Roll.young" = true)
  (k19 : keepIn K (.ref f19) = true)
  (a20 : PySem.W.findIn K (.ref C_Roll) "heaps" = some (some (.ref f20)))
  (i20 : PySem.W.isFn K (.ref f20) = true)
  (l20 : K.lookup f20 = some ⟨oc20, od20, .func (fnOf "heaps" "Roll.heaps" (qao qcw) (qam qcw) (qad qcw) .none kV20 dc20 pm20 an20 cd20 ct20), sl20⟩)
  (c20 : codeIn K cd20 "Roll.heaps" = true)
  (k20 : keepIn K (.ref f20) = true)
  (a21 : nsIn K mainGlobals "begun" = some (some (.ref f21)))
  (l21 : K.lookup f21 = some ⟨oc21, od21, .func (fnOf "begun" "begun" (qao s_begun) (qam s_begun) (qad s_begun) .none kV21 dc21 pm21 an21 cd21 ct21), sl21⟩)
  (c21 : codeIn K cd21 "begun" = true)
  (k21 : keepIn K (.ref f21) = true)
  (a22 : nsIn K mainGlobals "is_step" = some (some (.ref f22)))
  (l22 : K.lookup f22 = some ⟨oc22, od22, .func (fnOf "is_step" "is_step" (qao s_is_step) (qam s_is_step) (qad s_is_step) .none kV22 dc22 pm22 an22 cd22 ct22), sl22⟩)
  (c22 : codeIn K cd22 "is_step" = true)
  (k22 : keepIn K (.ref f22) = true)
  (a23 : nsIn K mainGlobals "check_one_step" = some (some (.ref f23)))
  (l23 : K.lookup f23 = some ⟨oc23, od23, .func (fnOf "check_one_step" "check_one_step" (qao qbo) (qam qbo) (qad qbo) .none kV23 dc23 pm23 an23 cd23 ct23), sl23⟩)
  (c23 : codeIn K cd23 "check_one_step" = true)
  (k23 : keepIn K (.ref f23) = true)
  (a24 : nsIn K mainGlobals "check_next_step" = some (some (.ref f24)))
  (l24 : K.lookup f24 = some ⟨oc24, od24, .func (fnOf "check_next_step" "check_next_step" (qao qbj) (qam qbj) (qad qbj) .none kV24 dc24 pm24 an24 cd24 ct24), sl24⟩)
  (c24 : codeIn K cd24 "check_next_step" = true)
  (k24 : keepIn K (.ref f24) = true)
  (a25 : nsIn K mainGlobals "check_steps" = some (some (.ref f25)))
  (l25 : K.lookup f25 = some ⟨oc25, od25, .func (fnOf "check_steps" "check_steps" (qao qch) (qam qch) (qad qch) .none kV25 dc25 pm25 an25 cd25 ct25), sl25⟩)
  (c25 : codeIn K cd25 "check_steps" = true)
  (k25 : keepIn K (.ref f25) = true)
  (a26 : nsIn K mainGlobals "check_gone" = some (some (.ref f26)))
  (l26 : K.lookup f26 = some ⟨oc26, od26, .func (fnOf "check_gone" "check_gone" (qao qcx) (qam qcx) (qad qcx) .none kV26 dc26 pm26 an26 cd26 ct26), sl26⟩)
  (c26 : codeIn K cd26 "check_gone" = true)
  (k26 : keepIn K (.ref f26) = true)
  (a27 : PySem.W.findIn K (.ref C_Rule) "__init__" = some (some (.ref f27)))
  (i27 : PySem.W.isFn K (.ref f27) = true)
  (l27 : K.lookup f27 = some ⟨oc27, od27, .func (fnOf "__init__" "Rule.__init__" (qao qcq) (qam qcq) (qad qcq) (.ref dT27) kV27 dc27 pm27 an27 cd27 ct27), sl27⟩)
  (c27 : codeIn K cd27 "Rule.__init__" = true)
  (k27 : keepIn K (.ref f27) = true)
  (d27 : K.lookup dT27 = some ⟨dk27, dd27, .seq #[.none] dn27, ds27⟩)
  (a28 : PySem.W.findIn K (.ref C_Rule) "steps" = some (some (.ref f28)))
  (i28 : PySem.W.isFn K (.ref f28) = true)
  (l28 : K.lookup f28 = some ⟨oc28, od28, .func (fnOf "steps" "Rule.steps" (qao qcy) (qam qcy) (qad qcy) .none kV28 dc28 pm28 an28 cd28 ct28), sl28⟩)
  (c28 : codeIn K cd28 "Rule.steps" = true)
  (k28 : keepIn K (.ref f28) = true)
  (a29 : PySem.W.findIn K (.ref C_Rule) "gone" = some (some (.ref f29)))
  (i29 : PySem.W.isFn K (.ref f29) = true)
  (l29 : K.lookup f29 = some ⟨oc29, od29, .func (fnOf "gone" "Rule.gone" (qao qdi) (qam qdi) (qad qdi) .none kV29 dc29 pm29 an29 cd29 ct29), sl29⟩)
  (c29 : codeIn K cd29 "Rule.gone" = true)
  (k29 : keepIn K (.ref f29) = true)
  (a30 : nsIn K mainGlobals "widths_of" = some (some (.ref f30)))
  (l30 : K.lookup f30 = some ⟨oc30, od30, .func (fnOf "widths_of" "widths_of" (qao qdj) (qam qdj) (qad qdj) .none kV30 dc30 pm30 an30 cd30 ct30), sl30⟩)
  (c30 : codeIn K cd30 "widths_of" = true)
  (k30 : keepIn K (.ref f30) = true)
  (a31 : nsIn K mainGlobals "same_rules" = some (some (.ref f31)))
  (l31 : K.lookup f31 = some ⟨oc31, od31, .func (fnOf "same_rules" "same_rules" (qao qcz) (qam qcz) (qad qcz) .none kV31 dc31 pm31 an31 cd31 ct31), sl31⟩)
  (c31 : codeIn K cd31 "same_rules" = true)
  (k31 : keepIn K (.ref f31) = true)
  (a32 : nsIn K mainGlobals "aged" = some (some (.ref f32)))
  (l32 : K.lookup f32 = some ⟨oc32, od32, .func (fnOf "aged" "aged" (qao s_aged) (qam s_aged) (qad s_aged) .none kV32 dc32 pm32 an32 cd32 ct32), sl32⟩)
  (c32 : codeIn K cd32 "aged" = true)
  (k32 : keepIn K (.ref f32) = true)
  (a33 : nsIn K mainGlobals "under" = some (some (.ref f33)))
  (l33 : K.lookup f33 = some ⟨oc33, od33, .func (fnOf "under" "under" (qao s_under) (qam s_under) (qad s_under) .none kV33 dc33 pm33 an33 cd33 ct33), sl33⟩)
  (c33 : codeIn K cd33 "under" = true)
  (k33 : keepIn K (.ref f33) = true)
  (a34 : nsIn K mainGlobals "both" = some (some (.ref f34)))
  (l34 : K.lookup f34 = some ⟨oc34, od34, .func (fnOf "both" "both" (qao s_both) (qam s_both) (qad s_both) .none kV34 dc34 pm34 an34 cd34 ct34), sl34⟩)
  (c34 : codeIn K cd34 "both" = true)
  (k34 : keepIn K (.ref f34) = true)
  (a35 : nsIn K mainGlobals "roll_of" = some (some (.ref f35)))
  (l35 : K.lookup f35 = some ⟨oc35, od35, .func (fnOf "roll_of" "roll_of" (qao s_roll_of) (qam s_roll_of) (qad s_roll_of) .none kV35 dc35 pm35 an35 cd35 ct35), sl35⟩)
  (c35 : codeIn K cd35 "roll_of" = true)
  (k35 : keepIn K (.ref f35) = true)
  (a36 : nsIn K mainGlobals "_law_cell_at" = some (some (.ref f36)))
  (l36 : K.lookup f36 = some ⟨oc36, od36, .func (fnOf "_law_cell_at" "_law_cell_at" (qao qb6) (qam qb6) (qad qb6) .none kV36 dc36 pm36 an36 cd36 ct36), sl36⟩)
  (c36 : codeIn K cd36 "_law_cell_at" = true)
  (k36 : keepIn K (.ref f36) = true)
  (a37 : nsIn K mainGlobals "_law_mixed" = some (some (.ref f37)))
  (l37 : K.lookup f37 = some ⟨oc37, od37, .func (fnOf "_law_mixed" "_law_mixed" (qao qc0) (qam qc0) (qad qc0) .none kV37 dc37 pm37 an37 cd37 ct37), sl37⟩)
  (c37 : codeIn K cd37 "_law_mixed" = true)
  (k37 : keepIn K (.ref f37) = true)
  (a38 : nsIn K mainGlobals "_law_parts" = some (some (.ref f38)))
  (l38 : K.lookup f38 = some ⟨oc38, od38, .func (fnOf "_law_parts" "_law_parts" (qao qc1) (qam qc1) (qad qc1) .none kV38 dc38 pm38 an38 cd38 ct38), sl38⟩)
  (c38 : codeIn K cd38 "_law_parts" = true)
  (k38 : keepIn K (.ref f38) = true)
  (a39 : nsIn K mainGlobals "_law_amount" = some (some (.ref f39)))
  (l39 : K.lookup f39 = some ⟨oc39, od39, .func (fnOf "_law_amount" "_law_amount" (qao qci) (qam qci) (qad qci) .none kV39 dc39 pm39 an39 cd39 ct39), sl39⟩)
  (c39 : codeIn K cd39 "_law_amount" = true)
  (k39 : keepIn K (.ref f39) = true)
  (a40 : nsIn K mainGlobals "_law_widths" = some (some (.ref f40)))
  (l40 : K.lookup f40 = some ⟨oc40, od40, .func (fnOf "_law_widths" "_law_widths" (qao qcj) (qam qcj) (qad qcj) .none kV40 dc40 pm40 an40 cd40 ct40), sl40⟩)
  (c40 : codeIn K cd40 "_law_widths" = true)
  (k40 : keepIn K (.ref f40) = true)
  (a41 : nsIn K mainGlobals "_law_ages" = some (some (.ref f41)))
  (l41 : K.lookup f41 = some ⟨oc41, od41, .func (fnOf "_law_ages" "_law_ages" (qao qdk) (qam qdk) (qad qdk) .none kV41 dc41 pm41 an41 cd41 ct41), sl41⟩)
  (c41 : codeIn K cd41 "_law_ages" = true)
  (k41 : keepIn K (.ref f41) = true)
  (a42 : nsIn K mainGlobals "_law_edges" = some (some (.ref f42)))
  (l42 : K.lookup f42 = some ⟨oc42, od42, .func (fnOf "_law_edges" "_law_edges" (qao qc2) (qam qc2) (qad qc2) .none kV42 dc42 pm42 an42 cd42 ct42), sl42⟩)
  (c42 : codeIn K cd42 "_law_edges" = true)
  (k42 : keepIn K (.ref f42) = true)
  (a43 : nsIn K mainGlobals "_law_greater" = some (some (.ref f43)))
  (l43 : K.lookup f43 = some ⟨oc43, od43, .func (fnOf "_law_greater" "_law_greater" (qao qb7) (qam qb7) (qad qb7) .none kV43 dc43 pm43 an43 cd43 ct43), sl43⟩)
  (c43 : codeIn K cd43 "_law_greater" = true)
  (k43 : keepIn K (.ref f43) = true)
  (a44 : nsIn K mainGlobals "_law_reading" = some (some (.ref f44)))
  (l44 : K.lookup f44 = some ⟨oc44, od44, .func (fnOf "_law_reading" "_law_reading" (qao qb8) (qam qb8) (qad qb8) .none kV44 dc44 pm44 an44 cd44 ct44), sl44⟩)
  (c44 : codeIn K cd44 "_law_reading" = true)
  (k44 : keepIn K (.ref f44) = true)
  (a45 : nsIn K mainGlobals "_law_more" = some (some (.ref f45)))
  (l45 : K.lookup f45 = some ⟨oc45, od45, .func (fnOf "_law_more" "_law_more" (qao qdl) (qam qdl) (qad qdl) .none kV45 dc45 pm45 an45 cd45 ct45), sl45⟩)
  (c45 : codeIn K cd45 "_law_more" = true)
  (k45 : keepIn K (.ref f45) = true)
  (a46 : nsIn K mainGlobals "_law_home" = some (some (.ref f46)))
  (l46 : K.lookup f46 = some ⟨oc46, od46, .func (fnOf "_law_home" "_law_home" (qao qdm) (qam qdm) (qad qdm) .none kV46 dc46 pm46 an46 cd46 ct46), sl46⟩)
  (c46 : codeIn K cd46 "_law_home" = true)
  (k46 : keepIn K (.ref f46) = true)
  (a47 : nsIn K mainGlobals "_law_grouped" = some (some (.ref f47)))
  (l47 : K.lookup f47 = some ⟨oc47, od47, .func (fnOf "_law_grouped" "_law_grouped" (qao qb9) (qam qb9) (qad qb9) .none kV47 dc47 pm47 an47 cd47 ct47), sl47⟩)
  (c47 : codeIn K cd47 "_law_grouped" = true)
  (k47 : keepIn K (.ref f47) = true)
  (a48 : nsIn K mainGlobals "_law_right" = some (some (.ref f48)))
  (l48 : K.lookup f48 = some ⟨oc48, od48, .func (fnOf "_law_right" "_law_right" (qao qc3) (qam qc3) (qad qc3) .none kV48 dc48 pm48 an48 cd48 ct48), sl48⟩)
  (c48 : codeIn K cd48 "_law_right" = true)
  (k48 : keepIn K (.ref f48) = true)
  (a49 : nsIn K mainGlobals "_law_poured" = some (some (.ref f49)))
  (l49 : K.lookup f49 = some ⟨oc49, od49, .func (fnOf "_law_poured" "_law_poured" (qao qck) (qam qck) (qad qck) .none kV49 dc49 pm49 an49 cd49 ct49), sl49⟩)
  (c49 : codeIn K cd49 "_law_poured" = true)
  (k49 : keepIn K (.ref f49) = true)
  (a50 : nsIn K mainGlobals "_law_deed" = some (some (.ref f50)))
  (l50 : K.lookup f50 = some ⟨oc50, od50, .func (fnOf "_law_deed" "_law_deed" (qao qdn) (qam qdn) (qad qdn) .none kV50 dc50 pm50 an50 cd50 ct50), sl50⟩)
  (c50 : codeIn K cd50 "_law_deed" = true)
  (k50 : keepIn K (.ref f50) = true)
  (a51 : nsIn K mainGlobals "law" = some (some (.ref f51)))
  (l51 : K.lookup f51 = some ⟨oc51, od51, .func (fnOf "law" "law" (qao s_law) (qam s_law) (qad s_law) .none kV51 dc51 pm51 an51 cd51 ct51), sl51⟩)
  (c51 : codeIn K cd51 "law" = true)
  (k51 : keepIn K (.ref f51) = true)
  (pgRoll : PySem.W.plainGet K C_Roll Str.empty = true)
  (hdRoll : PySem.W.hasDictIn K C_Roll = true)
  (poRoll : PySem.W.plainOver K C_Roll = true)
  (saRoll : PySem.W.findIn K (.ref C_Roll) "__setattr__" = some (some (.builtin "object.__setattr__")))
  (mkRoll : PySem.W.makesIn K C_Roll = true)
  (kcRoll : keepIn K (.ref C_Roll) = true)
  (nRoll_kept_rule : PySem.W.findIn K (.ref C_Roll) "kept_rule" = some none)
  (nRoll_kept_day : PySem.W.findIn K (.ref C_Roll) "kept_day" = some none)
  (nRoll_kept_edges : PySem.W.findIn K (.ref C_Roll) "kept_edges" = some none)
  (nRoll_whole_ones : PySem.W.findIn K (.ref C_Roll) "whole_ones" = some none)
  (nRoll_cell_heaps : PySem.W.findIn K (.ref C_Roll) "cell_heaps" = some none)
  (pgRule : PySem.W.plainGet K C_Rule Str.empty = true)
  (hdRule : PySem.W.hasDictIn K C_Rule = true)
  (poRule : PySem.W.plainOver K C_Rule = true)
  (saRule : PySem.W.findIn K (.ref C_Rule) "__setattr__" = some (some (.builtin "object.__setattr__")))
  (mkRule : PySem.W.makesIn K C_Rule = true)
  (kcRule : keepIn K (.ref C_Rule) = true)
  (nRule_kept_steps : PySem.W.findIn K (.ref C_Rule) "kept_steps" = some none)
  (nRule_gone_age : PySem.W.findIn K (.ref C_Rule) "gone_age" = some none)
  (xCBookError : nsIn K mainGlobals "BookError" = some (some (.ref C_BookError)))
  (xCNoNumber : nsIn K mainGlobals "NoNumber" = some (some (.ref C_NoNumber)))
  (xCNoRule : nsIn K mainGlobals "NoRule" = some (some (.ref C_NoRule)))
  (xCBackward : nsIn K mainGlobals "Backward" = some (some (.ref C_Backward)))
  (xENoRule : PySem.W.excIn K C_NoRule veMro "ValueError.__new__" = true)
  (xKNoRule0 : PySem.W.findIn K (.ref C_NoRule) "__getattribute__" = some (some (.builtin "BaseException.__getattribute__")))
  (xKNoRule1 : PySem.W.findIn K (.ref C_NoRule) "__getattr__" = some none)
  (xKNoRule2 : PySem.W.findIn K (.ref C_NoRule) "__class__" = some (some (.builtin "object.__class__")))
  (xKNoRule3 : PySem.W.mroIn K C_NoRule (.type "object") = some true)
  (xKNoRule4 : PySem.W.mroIn K C_NoRule (.type "BaseException") = some true)
  (xKNoRule5 : PySem.W.ktsIn K C_NoRule "BaseException" = true)
  (xHNoRule_NoRule : PySem.W.mroIn K C_NoRule (.ref C_NoRule) = some true)
  (z_bool : nsIn K mainGlobals "bool" = some none)
  (z_enumerate : nsIn K mainGlobals "enumerate" = some none)
  (z_int : nsIn K mainGlobals "int" = some none)
  (z_isinstance : nsIn K mainGlobals "isinstance" = some none)
  (z_len : nsIn K mainGlobals "len" = some none)
  (z_list : nsIn K mainGlobals "list" = some none)
  (z_max : nsIn K mainGlobals "max" = some none)
  (z_min : nsIn K mainGlobals "min" = some none)
  (z_range : nsIn K mainGlobals "range" = some none)
  (z_sorted : nsIn K mainGlobals "sorted" = some none)
  (z_sum : nsIn K mainGlobals "sum" = some none)
  (z_tuple : nsIn K mainGlobals "tuple" = some none)
  (z_zip : nsIn K mainGlobals "zip" = some none)
  (y_MOST_STEPS : nsIn K mainGlobals "MOST_STEPS" = some (some (.int 5 t_MOST_STEPS))) : ∃ C_Roll C_Rule C_BookError C_NoNumber C_NoRule C_Backward, Txt K mg C_Roll C_Rule C_BookError C_NoNumber C_NoRule C_Backward := by
 refine ⟨C_Roll, C_Rule, C_BookError, C_NoNumber, C_NoRule, C_Backward, ?_⟩
 exact ⟨⟨f0, _, qaz l0 c0 k0, mg_of X G a0⟩,
  ⟨f1, _, qaz l1 c1 k1, mg_of X G a1⟩,
  ⟨f2, _, qaz l2 c2 k2, mg_of X G a2⟩,
  ⟨f3, _, qaz l3 c3 k3, mg_of X G a3⟩,
  ⟨f4, _, qaz l4 c4 k4, mg_of X G a4⟩,
  ⟨f5, _, qaz l5 c5 k5, mg_of X G a5⟩,
  ⟨f6, _, qaz l6 c6 k6, mg_of X G a6⟩,
  ⟨f7, _, qaz l7 c7 k7, mg_of X G a7⟩,
  ⟨f8, _, qaz l8 c8 k8, mg_of X G a8⟩,
  ⟨f9, _, qaz l9 c9 k9, mg_of X G a9⟩,
  ⟨f10, _, qaz l10 c10 k10, mg_of X G a10⟩,
  ⟨f11, _, qaz l11 c11 k11, ⟨mkRoll, a11, i11, kcRoll⟩⟩,
  ⟨f12, _, dT12, _, _, dt12, ⟨⟨_, _, _, _, _, _, _, _, _, rfl, l12, c12⟩, k12⟩, ⟨a12, i12, k12⟩, rfl, d12, rfl⟩,
  ⟨f13, _, qaz l13 c13 k13, ⟨a13, i13, k13⟩⟩,
  ⟨f14, _, qaz l14 c14 k14, ⟨a14, i14, k14⟩⟩,
  ⟨f15, _, qaz l15 c15 k15, ⟨a15, i15, k15⟩⟩,
  ⟨f16, _, qaz l16 c16 k16, ⟨a16, i16, k16⟩⟩,
  ⟨f17, _, qaz l17 c17 k17, ⟨a17, i17, k17⟩⟩,
  ⟨f18, _, qaz l18 c18 k18, ⟨a18, i18, k18⟩⟩,
  ⟨f19, _, qaz l19 c19 k19, ⟨a19, i19, k19⟩⟩,
  ⟨f20, _, qaz l20 c20 k20, ⟨a20, i20, k20⟩⟩,
  ⟨f21, _, qaz l21 c21 k21, mg_of X G a21⟩,
  ⟨f22, _, qaz l22 c22 k22, mg_of X G a22⟩,
  ⟨f23, _, qaz l23 c23 k23, mg_of X G a23⟩,
  ⟨f24, _, qaz l24 c24 k24, mg_of X G a24⟩,
  ⟨f25, _, qaz l25 c25 k25, mg_of X G a25⟩,
  ⟨f26, _, qaz l26 c26 k26, mg_of X G a26⟩,
  ⟨f27, _, dT27, _, _, ⟨⟨_, _, _, _, _, _, _, _, _, rfl, l27, c27⟩, k27⟩, ⟨mkRule, a27, i27, kcRule⟩, rfl, d27, rfl⟩,
  ⟨f28, _, qaz l28 c28 k28, ⟨a28, i28, k28⟩⟩,
  ⟨f29, _, qaz l29 c29 k29, ⟨a29, i29, k29⟩⟩,
  ⟨f30, _, qaz l30 c30 k30, mg_of X G a30⟩,
  ⟨f31, _, qaz l31 c31 k31, mg_of X G a31⟩,
  ⟨f32, _, qaz l32 c32 k32, mg_of X G a32⟩,
  ⟨f33, _, qaz l33 c33 k33, mg_of X G a33⟩,
  ⟨f34, _, qaz l34 c34 k34, mg_of X G a34⟩,
  ⟨f35, _, qaz l35 c35 k35, mg_of X G a35⟩,
  ⟨f36, _, qaz l36 c36 k36, mg_of X G a36⟩,
  ⟨f37, _, qaz l37 c37 k37, mg_of X G a37⟩,
  ⟨f38, _, qaz l38 c38 k38, mg_of X G a38⟩,
  ⟨f39, _, qaz l39 c39 k39, mg_of X G a39⟩,
  ⟨f40, _, qaz l40 c40 k40, mg_of X G a40⟩,
  ⟨f41, _, qaz l41 c41 k41, mg_of X G a41⟩,
  ⟨f42, _, qaz l42 c42 k42, mg_of X G a42⟩,
  ⟨f43, _, qaz l43 c43 k43, mg_of X G a43⟩,
  ⟨f44, _, qaz l44 c44 k44, mg_of X G a44⟩,
  ⟨f45, _, qaz l45 c45 k45, mg_of X G a45⟩,
  ⟨f46, _, qaz l46 c46 k46, mg_of X G a46⟩,
  ⟨f47, _, qaz l47 c47 k47, mg_of X G a47⟩,
  ⟨f48, _, qaz l48 c48 k48, mg_of X G a48⟩,
  ⟨f49, _, qaz l49 c49 k49, mg_of X G a49⟩,
  ⟨f50, _, qaz l50 c50 k50, mg_of X G a50⟩,
  ⟨f51, _, qaz l51 c51 k51, mg_of X G a51⟩,
  ⟨pgRoll, hdRoll, poRoll, saRoll⟩,
  mg_of X G aCRoll,
  nRoll_kept_rule,
  nRoll_kept_day,
  nRoll_kept_edges,
  nRoll_whole_ones,
  nRoll_cell_heaps,
  ⟨pgRule, hdRule, poRule, saRule⟩,
  mg_of X G aCRule,
  nRule_kept_steps,
  nRule_gone_age,
  mg_of X G xCBookError,
  mg_of X G xCNoNumber,
  mg_of X G xCNoRule,
  mg_of X G xCBackward,
  xENoRule,
  ⟨xKNoRule0, xKNoRule1, xKNoRule2, xKNoRule3, xKNoRule4, xKNoRule5⟩,
  xHNoRule_NoRule,
  PySem.W.mg_none_of X G z_bool,
  PySem.W.mg_none_of X G z_enumerate,
  PySem.W.mg_none_of X G z_int,
  PySem.W.mg_none_of X G z_isinstance,
  PySem.W.mg_none_of X G z_len,
  PySem.W.mg_none_of X G z_list,
  PySem.W.mg_none_of X G z_max,
  PySem.W.mg_none_of X G z_min,
  PySem.W.mg_none_of X G z_range,
  PySem.W.mg_none_of X G z_sorted,
  PySem.W.mg_none_of X G z_sum,
  PySem.W.mg_none_of X G z_tuple,
  PySem.W.mg_none_of X G z_zip,
  ⟨_, mg_of X G y_MOST_STEPS⟩⟩
section
variable {P : Program} {w : World} {K : Frag} {mg : Str -> Option Value} {base : Heap} {C_Roll C_Rule C_BookError C_NoNumber C_NoRule C_Backward : Addr}
theorem D_is_whole (T : Txt K mg C_Roll C_Rule C_BookError C_NoNumber C_NoRule C_Backward) : qbs P w K mg base 1 "is_whole" ["thing"] sp_is_whole := by
 obtain ⟨f, fd, F, hm⟩ := T.f_is_whole
 have nd := sc_is_whole.nd
 refine F.def_ hm (F.ok sc_is_whole (fun vs H Q E h => ?_) (fun cdv A outer s H vs Q E hr h => ?_)) (F.binds fun _ _ _ _ _ _ us hl => by obtain ⟨_, rfl⟩ := L2.lq1 hl; rfl)
 ·obtain ⟨x, rfl, _⟩ := h; rfl
 ·obtain ⟨x, rfl, i, rfl, q⟩ := h
  refine ⟨_, (qaf (qar (pe_and (qay call_isi rfl T.b_isinstance qd4 (qaa (pv 0) (qaa (pe_bltn (v := .ty "int") rfl T.b_int bt_int rfl) qae))) (pe_one (pe_not (qay call_isi rfl T.b_isinstance qd4 (qaa (pv 0) (qaa (pe_bltn (v := .ty "bool") rfl T.b_bool bt_bool rfl) qae)))))))), ?_⟩
  refine ⟨_, rfl, _, _, _, true, rfl, .int i, kit_int_int _, _, rfl, iteT ?_⟩
  exact ⟨_, rfl, _, _, _, false, rfl, .int i, kit_int_bool _, _, rfl, q⟩
theorem D_is_step (T : Txt K mg C_Roll C_Rule C_BookError C_NoNumber C_NoRule C_Backward) : qbs P w K mg base 2 "is_step" ["thing"] sp_is_step := by
 obtain ⟨f, fd, F, hm⟩ := T.f_is_step
 have nd := sc_is_step.nd
 refine F.def_ hm (F.ok sc_is_step (fun vs H Q E h => ?_) (fun cdv A outer s H vs Q E hr h => ?_)) (F.binds fun _ _ _ _ _ _ us hl => by obtain ⟨_, rfl⟩ := L2.lq1 hl; rfl)
 ·obtain ⟨x, p, rfl, _⟩ := h; rfl
 ·obtain ⟨x, p, rfl, ⟨a, rfl, ha⟩, q⟩ := h
  refine ⟨_, (qaf (qar (pe_and (qay call_isi rfl T.b_isinstance qd4 (qaa (pv 0) (qaa (pe_bltn (v := .ty "tuple") rfl T.b_tuple bt_tuple rfl) qae))) (pe_and (qd3 op_eq (qay qa3 rfl T.b_len bt_len (qaa (pv 0) qae)) qab (qax _)) (pe_and (qa4 (D_is_whole T) (hr.mono (by decide)) rfl (qaa (qai qav (pv 0) qab (fun _ _ => rfl)) qae)) (pe_one (qa4 (D_is_whole T) (hr.mono (by decide)) rfl (qaa (qai qav (pv 0) qab (fun _ _ => rfl)) qae)))))))), ?_⟩
  refine ⟨_, rfl, _, _, _, true, rfl, .tup ha, kit_tuple _, _, rfl, iteT ?_⟩
  refine ⟨_, rfl, a, _, rfl, .inr (SqT.of ha), rfl, _, rfl, iteT ?_⟩
  refine ⟨_, rfl, a, _, 0, _, rfl, rfl, SqT.of ha, rfl, _, rfl, _, rfl, _, rfl, iteT ?_⟩
  exact ⟨_, rfl, a, _, 1, _, rfl, rfl, SqT.of ha, rfl, _, rfl, _, rfl, q⟩
theorem D_check_one_step (T : Txt K mg C_Roll C_Rule C_BookError C_NoNumber C_NoRule C_Backward) : qbs P w K mg base 3 "check_one_step" ["step"] sp_check_one_step := by
 obtain ⟨f, fd, F, hm⟩ := T.f_check_one_step
 have nd := sc_check_one_step.nd
 refine F.def_ hm (F.ok sc_check_one_step (fun vs H Q E h => ?_) (fun cdv A outer s H vs Q E hr h => ?_)) (F.binds fun _ _ _ _ _ _ us hl => by obtain ⟨_, rfl⟩ := L2.lq1 hl; rfl)
 ·obtain ⟨x, p, rfl, _⟩ := h; rfl
 ·obtain ⟨x, p, rfl, hp, h1, h2, q⟩ := h
  obtain ⟨a, rfl, ha⟩ := id hp
  refine ⟨_, (qac (qbl (pt_not (pt_val (qa4 (D_is_step T) (hr.mono (by decide)) rfl (qaa (pv 0) qae)))) (qaf qc8)
    qa0) (qac (qbl (qat op_lt (qai qav (pv 0) qab (fun _ _ => rfl)) qab (qax _)) (qaf qc8)
    qa0) (qaf (qbl (qat op_lt (qai qav (pv 0) qab (fun _ _ => rfl)) qab (qax _)) (qaf qc8)
    qa0)))), ?_⟩
  refine ⟨_, rfl, _, p, rfl, hp, _, rfl, iteF ?_⟩
  refine ⟨_, rfl, a, _, 0, _, rfl, rfl, SqT.of ha, rfl, _, _, rfl, rfl, _, rfl, ite2 (fun z => ?_) fun _ => ?_⟩
  ·exact absurd (of_decide_eq_true z) (by omega)
  refine ⟨_, rfl, a, _, 1, _, rfl, rfl, SqT.of ha, rfl, _, _, rfl, rfl, _, rfl, ite2 (fun z => ?_) fun _ => q⟩
  exact absurd (of_decide_eq_true z) (by omega)
theorem D_check_next_step (T : Txt K mg C_Roll C_Rule C_BookError C_NoNumber C_NoRule C_Backward) : qbs P w K mg base 1 "check_next_step" ["step", "behind"] sp_check_next_step := by
 obtain ⟨f, fd, F, hm⟩ := T.f_check_next_step
 have nd := sc_check_next_step.nd
 refine F.def_ hm (F.ok sc_check_next_step (fun vs H Q E h => ?_) (fun cdv A outer s H vs Q E hr h => ?_)) (F.binds fun _ _ _ _ _ _ us hl => by obtain ⟨_, _, rfl⟩ := L2.lq2 hl; rfl)
 ·obtain ⟨x, y, p, p', rfl, _⟩ := h; rfl
 ·obtain ⟨x, y, p, p', rfl, ⟨a, rfl, ha⟩, ⟨b, rfl, hb⟩, h0, h1, h2, q⟩ := h
  refine ⟨_, (qac (qbl (qat op_lt (qai qav (pv 1) qab (fun _ _ => rfl)) (qai qav (pv 0) qab (fun _ _ => rfl)) (qax _)) (qaf qc8)
    qa0) (qaf (qbl (qat op_ne (qak qbp (qai qav (pv 1) qab (fun _ _ => rfl)) (qai qav (pv 0) qab (fun _ _ => rfl))) qab (qax _)) (qaf qc8)
    qa0))), ?_⟩
  refine ⟨_, rfl, b, _, 0, _, rfl, rfl, SqT.of hb, rfl, _, rfl, a, _, 0, _, rfl, rfl, SqT.of ha, rfl, _, _, rfl, rfl, _, rfl, ite2 (fun z => ?_) fun _ => ?_⟩
  ·exact absurd (of_decide_eq_true z) (by omega)
  refine ⟨_, rfl, b, _, 1, _, rfl, rfl, SqT.of hb, rfl, _, rfl, a, _, 1, _, rfl, rfl, SqT.of ha, rfl, _, _, rfl, rfl, (by show 0 < p.2; omega), rfl, _, rfl, ?_⟩
  refine iteNS ?_ q
  exact congrArg V.int h2
theorem D_check_steps (T : Txt K mg C_Roll C_Rule C_BookError C_NoNumber C_NoRule C_Backward) : qbs P w K mg base 4 "check_steps" ["steps"] sp_check_steps := by
 obtain ⟨f, fd, F, hm⟩ := T.f_check_steps
 have nd := sc_check_steps.nd
 refine F.def_ hm (F.ok sc_check_steps (fun vs H Q E h => ?_) (fun cdv A outer s H vs Q E hr h => ?_)) (F.binds fun _ _ _ _ _ _ us hl => by obtain ⟨_, rfl⟩ := L2.lq1 hl; rfl)
 ·obtain ⟨l, xs, ps, rfl, _⟩ := h; rfl
 ·obtain ⟨l, xs, ps, rfl, hl, hp, G, q⟩ := h
  have hlen := hp.length
  have g1 := G.lo
  have g2 := G.hi
  refine ⟨_, (qac (qbl (PW.pt (pw_or (qat op_lt (qay qa3 rfl T.b_len bt_len (qaa (pv 0) qae)) qab (qax _)) (pw_or1 (qat op_gt (qay qa3 rfl T.b_len bt_len (qaa (pv 0) qae)) (pe_glob (v := .int 5) rfl T.c_MOST_STEPS.choose_spec ⟨_, rfl⟩) (qax _))))) (qaf qc8)
    qa0) (qac (qdt PassesOwn.never rfl (qbr (pv 0)) (qaj (i := 1) nd rfl (Or.inl rfl)) (qaf (qbi (qa4 (D_check_one_step T) (hr.mono (by decide)) rfl (qaa (pv 1) qae))))) (qaf (qdt PassesOwn.never rfl (pi_zip rfl T.b_zip (qaa (pv 0) (qaa (pe_slice sl_listN (pv 0) (po_some qab) po_none) qae))) (qb2 rfl (qal (qaj (i := 1) nd rfl (Or.inl rfl)) (qal (qaj (i := 2) nd rfl (Or.inl rfl)) qbf))) (qaf (qbi (qa4 (D_check_next_step T) (hr.mono (by decide)) rfl (qaa (pv 1) (qaa (pv 2) qae))))))))), ?_⟩
  refine ⟨_, rfl, l, xs, rfl, .inl (SqL.of hl), _, _, rfl, rfl, _, rfl, ite2 (fun z => ?_) fun _ => ?_⟩
  ·exact absurd (of_decide_eq_true z) (by omega)
  refine ⟨_, rfl, l, xs, rfl, .inl (SqL.of hl), _, _, rfl, rfl, _, rfl, ite2 (fun z => ?_) fun _ => ?_⟩
  ·exact absurd (of_decide_eq_true z) (by omega)
  refine ⟨_, rfl, l, rfl, ⟨_, SqL.of hl⟩, for_list (xs := xs) (fun i σ H2 => H2 = H /\ ∃ v, σ = [some (.ref l), v, none]) ⟨rfl, none, rfl⟩ (fun i σ H2 _ h2 => by rw [h2.1]; exact SqL.of hl) ?_ ?_⟩
  ·rintro i x σ H2 hi ⟨rfl, v, rfl⟩
   obtain ⟨p, hpi, hx⟩ := hp.get hi
   obtain ⟨e1, e2⟩ := G.each i p hpi
   exact ⟨_, rfl, _, p, rfl, hx, e1, e2, rfl, _, rfl⟩
  ·rintro σ H2 ⟨rfl, v, rfl⟩
   refine ⟨_, rfl, _, rfl, _, rfl, _, xs, rfl, SqL.of hl, fun l2 H3 n3 => ?_⟩
   refine ⟨l, l2, xs, _, rfl, SqL.of (n3.same _ _ hl), SqL.of n3.at_, for_zipN (xs := xs) (ys := cutV xs (some 1) none) (fun i σ H4 => Same H3 H4 /\ ∃ u v, σ = [some (.ref l), u, v]) ⟨Same.refl _, _, _, rfl⟩
    (fun i σ H4 h4 => ⟨SqL.of (h4.1 _ _ (n3.same _ _ hl)), SqL.of (h4.1 _ _ n3.at_)⟩) ?_ ?_⟩
   ·rintro i x y σ H4 p H5 hx hy n5 ⟨s4, u, v', rfl⟩
    obtain ⟨p1, hp1, hx1⟩ := hp.get hx
    have hy' : xs[i + 1]? = some y := by
     have : cutV xs (some 1) none = xs.drop 1 := cut1 xs
     rw [this, List.getElem?_drop] at hy
     rwa [Nat.add_comm] at hy
    obtain ⟨p2, hp2, hx2⟩ := hp.get hy'
    obtain ⟨e1, e2⟩ := G.next i p1 p2 hp1 hp2
    obtain ⟨_, e3⟩ := G.each i p1 hp1
    have s5 : Same H2 H5 := n3.same.trans (s4.trans n5.same)
    refine ⟨p, _, rfl, SqT.of n5.at_, rfl, _, _, rfl, _, _, rfl, rfl, ?_⟩
    exact ⟨_, rfl, _, rfl, x, y, p1, p2, rfl, hx1.same s5, hx2.same s5, e3, e1, e2, s4.trans n5.same, _, _, rfl⟩
   ·rintro i σ H4 _ ⟨s4, _, _, _⟩
    exact q H4 (n3.same.trans s4)
theorem D_check_gone (T : Txt K mg C_Roll C_Rule C_BookError C_NoNumber C_NoRule C_Backward) : qbs P w K mg base 2 "check_gone" ["gone", "last_age"] sp_check_gone := by
 obtain ⟨f, fd, F, hm⟩ := T.f_check_gone
 have nd := sc_check_gone.nd
 refine F.def_ hm (F.ok sc_check_gone (fun vs H Q E h => ?_) (fun cdv A outer s H vs Q E hr h => ?_)) (F.binds fun _ _ _ _ _ _ us hl => by obtain ⟨_, _, rfl⟩ := L2.lq2 hl; rfl)
 ·obtain ⟨g, last, rfl, _⟩ := h; rfl
 ·obtain ⟨g, last, rfl, hg, q⟩ := h
  refine ⟨_, (qac (qbl (qat op_isN (pv 0) qb1 (qax _)) (qaf ps_retN)
    qa0) (qaf (qbl (PW.pt (pw_or (pt_not (pt_val (qa4 (D_is_whole T) (hr.mono (by decide)) rfl (qaa (pv 0) qae)))) (pw_or1 (qat op_lt (pv 0) (pv 1) (qax _))))) (qaf qc8)
    qa0))), ?_⟩
  cases g with
  | none => exact ⟨_, rfl, rfl, _, rfl, iteT q⟩
  | some z =>
   refine ⟨_, rfl, rfl, _, rfl, iteF ?_⟩
   refine ⟨_, rfl, _, rfl, z, rfl, _, rfl, iteF ?_⟩
   refine ⟨_, rfl, _, rfl, _, _, rfl, rfl, _, rfl, ite2 (fun y => ?_) fun _ => q⟩
   exact absurd (of_decide_eq_true y) (by have := hg z rfl; omega)
theorem G_Rule_init (T : Txt K mg C_Roll C_Rule C_BookError C_NoNumber C_NoRule C_Backward) : ∃ f fd dT o n, FnOk P w K mg base CX0 5 f fd ["self", "steps", "gone"] (sp2_init C_Rule) /\ FunD K "__init__" "Rule.__init__" qcq (.ref dT) f fd /\ Mk K C_Rule f /\ fd.defaults = .ref dT /\ K.lookup dT = some o /\ o.data = .seq #[.none] n := by
 obtain ⟨f, fd, dT, o, n, F, M, h1, h2, h3⟩ := T.f_Rule_init
 have nd := sc_Rule_init.nd
 refine ⟨f, fd, dT, o, n, (F.ok sc_Rule_init (fun vs H Q E h => ?_) (fun cdv A outer s H vs Q E hr h => ?_)), F, M, h1, h2, h3⟩
 ·obtain ⟨r, dx, l, xs, ps, g, rfl, _⟩ := h; rfl
 ·obtain ⟨r, dx, l, xs, ps, g, rfl, hro, hl, hp, G, hg, k⟩ := h
  have g1 := G.lo
  refine ⟨_, (qac (qas (i := 3) nd rfl (Or.inl rfl) (qcc qbz rfl T.b_list qd5 (qaa (pv 1) qae))) (qac (qbi (qa4 (D_check_steps T) (hr.mono (by decide)) rfl (qaa (pv 3) qae))) (qac (qbi (qa4 (D_check_gone T) (hr.mono (by decide)) rfl (qaa (pv 2) (qaa (qai qav (qai qah (pv 3) (pe_un un_neg qab) (fun _ _ => rfl)) qab (fun _ _ => rfl)) qae)))) (qac (ps_fldN (pv 0) (pv 3) rfl) (qaf (ps_fldN (pv 0) (pv 2) rfl)))))), ?_⟩
  refine ⟨_, rfl, l, xs, rfl, .inl (SqL.of hl), fun l' H1 n1 => ?_⟩
  refine ⟨_, rfl, l', xs, ps, rfl, n1.at_, hp.same n1.same, G, fun H2 s2 => ?_⟩
  have hl2 := s2 _ _ n1.at_
  have hp2 := (hp.same n1.same).same s2
  have hlen := hp.length
  obtain ⟨v, hv⟩ : ∃ v, xs[xs.length - 1]? = some v := ⟨xs[xs.length - 1]'(by omega), List.getElem?_eq_getElem _⟩
  obtain ⟨p, hpv, a, rfl, ha⟩ := hp2.get hv
  refine ⟨_, rfl, _, rfl, _, rfl, l', xs, -1, _, rfl, rfl, SqL.of hl2, atI_m1 hv, a, _, 0, _, rfl, rfl, SqT.of ha, rfl, g, p.1, rfl, hg p (by rw [<- hlen]; exact hpv), ?_⟩
  have hr2 := s2 _ _ (n1.same _ _ hro)
  have nrl : r ≠ l' := qag hro n1.fresh
  refine ⟨_, rfl, _, rfl, r, C_Rule, dx, [], rfl, hr2, T.cl_Rule, T.na_Rule_kept_steps, (by show 0 < 1000; decide), fun H3 b3 h3 => ?_⟩
  refine ⟨_, rfl, _, rfl, r, C_Rule, dx, _, rfl, h3, T.cl_Rule, T.na_Rule_gone_age, (by show 1 < 1000; decide), fun H4 b4 h4 => ?_⟩
  refine k l' _ n1.fresh ⟨⟨dx, h4⟩, xs, b4 _ _ (b3 _ _ hl2 nrl.symm) nrl.symm, (hp2.but b3 hr2 ins_nt).but b4 h3 ins_nt⟩ fun b o e hb => ?_
  exact b4 _ _ (b3 _ _ (s2 _ _ (n1.same _ _ e)) hb) hb
theorem D_Rule_2 (T : Txt K mg C_Roll C_Rule C_BookError C_NoNumber C_NoRule C_Backward) : MkOk P w K mg base C_Rule 5 "Rule" ["self", "steps", "gone"] [] (sp2_init C_Rule) := by
 obtain ⟨f, fd, dT, o, n, hf, F, M, h1, h2, h3⟩ := G_Rule_init (P := P) (w := w) (base := base) T
 refine ⟨f, fd, hf, T.mg_Rule, M, binds_d h1 h2 h3 fun us hl => ?_⟩
 obtain ⟨oc, od, kV, doc, pm, an, cdv, ct, osl, rfl, lk, hcd⟩ := F.ex
 obtain ⟨_, _, _, rfl⟩ := L2.lq3 (us := us) (by simpa using hl)
 exact ⟨_, rfl, rfl⟩
theorem qbx (T : Txt K mg C_Roll C_Rule C_BookError C_NoNumber C_NoRule C_Backward) : MetOk P w K mg base C_Rule 1 "steps" ["self"] (sp2_steps C_Rule) := by
 obtain ⟨f, fd, F, hm⟩ := T.f_Rule_steps
 have nd := sc_Rule_steps.nd
 refine ⟨f, fd, (F.ok sc_Rule_steps (fun vs H Q E h => ?_) (fun cdv A outer s H vs Q E hr h => ?_)), hm, (F.binds fun _ _ _ _ _ _ us hl => by obtain ⟨_, rfl⟩ := L2.lq1 hl; rfl)⟩
 ·obtain ⟨r, l, ps, g, xs, rfl, _⟩ := h; rfl
 ·obtain ⟨r, l, ps, g, xs, rfl, R, hl, k⟩ := h
  obtain ⟨dx, hob⟩ := R.ob
  refine ⟨_, (qaf (qar (qcc qbz rfl T.b_list qd5 (qaa (qcb (pv 0) rfl) qae)))), ?_⟩
  exact ⟨_, rfl, r, C_Rule, dx, _, _, rfl, hob, T.cl_Rule, T.na_Rule_kept_steps, rf_ks _ _, l, xs, rfl, .inl (SqL.of hl), k⟩
end
section
variable {P : Program} {w : World} {K : Frag} {mg : Str -> Option Value} {base : Heap} {C_Roll C_Rule C_BookError C_NoNumber C_NoRule C_Backward : Addr}
theorem qeb (T : Txt K mg C_Roll C_Rule C_BookError C_NoNumber C_NoRule C_Backward) : MetOk P w K mg base C_Rule 1 "gone" ["self"] (sp_gone C_Rule) := by
 obtain ⟨f, fd, F, hm⟩ := T.f_Rule_gone
 have nd := sc_Rule_gone.nd
 refine ⟨f, fd, (F.ok sc_Rule_gone (fun vs H Q E h => ?_) (fun cdv A outer s H vs Q E hr h => ?_)), hm, (F.binds fun _ _ _ _ _ _ us hl => by obtain ⟨_, rfl⟩ := L2.lq1 hl; rfl)⟩
 ·obtain ⟨r, l, ps, g, rfl, _⟩ := h; rfl
 ·obtain ⟨r, l, ps, g, rfl, R, q⟩ := h
  obtain ⟨dx, hob⟩ := R.ob
  refine ⟨_, (qaf (qar (qcb (pv 0) rfl))), ?_⟩
  exact ⟨_, rfl, r, C_Rule, dx, _, _, rfl, hob, T.cl_Rule, T.na_Rule_gone_age, rf_ga _ _, q⟩
end
section
variable {P : Program} {w : World} {K : Frag} {mg : Str -> Option Value} {base : Heap} {C_Roll C_Rule C_BookError C_NoNumber C_NoRule C_Backward : Addr}
theorem D_floored (T : Txt K mg C_Roll C_Rule C_BookError C_NoNumber C_NoRule C_Backward) : qbs P w K mg base 1 "floored" ["number", "width"] sp_floored := by
 obtain ⟨f, fd, F, hm⟩ := T.f_floored
 have nd := sc_floored.nd
 refine F.def_ hm (F.ok sc_floored (fun vs H Q E h => ?_) (fun cdv A outer s H vs Q E hr h => ?_)) (F.binds fun _ _ _ _ _ _ us hl => by obtain ⟨_, _, rfl⟩ := L2.lq2 hl; rfl)
 ·obtain ⟨n, w', rfl, _⟩ := h; rfl
 ·obtain ⟨n, w', rfl, h1, h2, h3, h4, q⟩ := h
  have hb := div_b h1 (by decide : (0 : Int) <= 10 ^ 46) h3 h4
  refine ⟨_, (qaf (qar (qak op_mulB (qak op_fdivB (pv 0) (pv 1)) (pv 1)))), ?_⟩
  exact ⟨_, rfl, _, rfl, _, _, rfl, rfl, ⟨by omega, by omega⟩, _, rfl, _, _, rfl, rfl, ⟨⟨by omega, by omega⟩, by omega, by omega⟩, q⟩
theorem D_gone_cut (T : Txt K mg C_Roll C_Rule C_BookError C_NoNumber C_NoRule C_Backward) : qbs P w K mg base 2 "gone_cut" ["rule", "day"] (sp_gone_cut C_Rule) := by
 obtain ⟨f, fd, F, hm⟩ := T.f_gone_cut
 have nd := sc_gone_cut.nd
 refine F.def_ hm (F.ok sc_gone_cut (fun vs H Q E h => ?_) (fun cdv A outer s H vs Q E hr h => ?_)) (F.binds fun _ _ _ _ _ _ us hl => by obtain ⟨_, _, rfl⟩ := L2.lq2 hl; rfl)
 ·obtain ⟨r, l, ps, g, d, rfl, _⟩ := h; rfl
 ·obtain ⟨r, l, ps, g, d, rfl, R, Pg, hd, q⟩ := h
  obtain ⟨dx, hob⟩ := R.ob
  obtain ⟨xs, hl, hx⟩ := R.ls
  have n1 : (rf l (gv g)).lookup ("gone" : Str) = none := rf_no _ _ (by decide +kernel) (by decide +kernel)
  have n2 : (rf l (gv g)).lookup ("steps" : Str) = none := rf_no _ _ (by decide +kernel) (by decide +kernel)
  obtain ⟨p, hp, ep⟩ := Pg.last
  have hlen := hx.length
  refine ⟨_, (qac (qas (i := 2) nd rfl (Or.inl rfl) (qbb (pv 0) T.cl_Rule (qeb T) (hr.mono (by decide)))) (qac (qbl (qat op_isN (pv 2) qb1 (qax _)) (qaf (qar qb1))
    qa0) (qaf (qar (qa4 (D_floored T) (hr.mono (by decide)) rfl (qaa (qak qcs (pv 1) (pv 2)) (qaa (qai qav (qai qah (qbb (pv 0) T.cl_Rule (qbx T) (hr.mono (by decide))) (pe_un un_neg qab) (fun _ _ => rfl)) qab (fun _ _ => rfl)) qae))))))), ?_⟩
  refine ⟨_, rfl, r, dx, _, rfl, hob, n1, r, l, ps, g, rfl, R, ?_⟩
  cases g with
  | none => exact ⟨_, rfl, rfl, _, rfl, iteT (q H (Same.refl _))⟩
  | some z =>
   refine ⟨_, rfl, rfl, _, rfl, iteF ?_⟩
   refine ⟨_, rfl, _, rfl, _, _, rfl, rfl, ?_⟩
   refine ⟨_, rfl, r, dx, _, rfl, hob, n2, r, l, ps, _, xs, rfl, R, hl, fun p1 H1 m1 => ?_⟩
   obtain ⟨v, hv, a, rfl, ha⟩ := hx.get' hp
   have hz := Pg.gb z rfl
   have hs := Pg.size _ p hp
   unfold Bd at hd
   refine ⟨_, rfl, p1, xs, -1, _, rfl, rfl, SqL.of m1.at_, atI_m1 (by rw [hlen]; exact hv), a, _, 1, _, rfl, rfl, SqT.of (m1.same _ _ ha), rfl, d - z, p.2, rfl, hs.2.2.1, hs.2.2.2, by omega, by omega, ?_⟩
   have := q H1 m1.same
   rw [ep] at this
   exact this
theorem D_edges_at (T : Txt K mg C_Roll C_Rule C_BookError C_NoNumber C_NoRule C_Backward) : qbs P w K mg base 3 "edges_at" ["rule", "day"] (sp_edges_at C_Rule) := by
 obtain ⟨f, fd, F, hm⟩ := T.f_edges_at
 have nd := sc_edges_at.nd
 refine F.def_ hm (F.ok sc_edges_at (fun vs H Q E h => ?_) (fun cdv A outer s H vs Q E hr h => ?_)) (F.binds fun _ _ _ _ _ _ us hl => by obtain ⟨_, _, rfl⟩ := L2.lq2 hl; rfl)
 ·obtain ⟨r, l, ps, g, d, rfl, _⟩ := h; rfl
 ·obtain ⟨r, l, ps, g, d, rfl, R, Pg, hd, q⟩ := h
  obtain ⟨dx, hob⟩ := R.ob
  obtain ⟨xs, hl, hx⟩ := R.ls
  have n2 : (rf l (gv g)).lookup ("steps" : Str) = none := rf_no _ _ (by decide +kernel) (by decide +kernel)
  have hlen := hx.length
  have h5 := Pg.good.hi
  refine ⟨_, (qac (qd6 (i := 2) (vars := ["age", "width"]) (frees := ["day"]) (fv := [1]) nd rfl (Or.inl rfl) rfl (lcOk rfl rfl (by decide +kernel) (by decide +kernel) (by intro p hp; simp only [List.mem_cons, List.not_mem_nil, or_false] at hp; rcases hp with rfl <;> rfl) rfl) ⟨⟨rfl, .inl rfl, rfl, .inl rfl⟩, trivial⟩ (qbr (qbb (pv 0) T.cl_Rule (qbx T) (hr.mono (by decide)))) (qdr (by decide) (by decide)) (fun _ _ _ _ => (qb2 rfl (qal (qaj (i := 0) (show (["age", "width", "day"] : List Str).Nodup by decide +kernel) rfl (Or.inl rfl)) (qal (qaj (i := 1) (show (["age", "width", "day"] : List Str).Nodup by decide +kernel) rfl (Or.inl rfl)) qbf)))) (fun _ _ _ _ => qby) (fun _ _ _ _ => (qa4 (D_floored T) (hr.mono (by decide)) rfl (qaa (qak qcs (pv 2) (pv 0)) (qaa (pv 1) qae))))) (qaf (qar (qak op_catN (pv 2) (qa6 (qaa (qa4 (D_gone_cut T) (hr.mono (by decide)) rfl (qaa (pv 0) (qaa (pv 1) qae))) qae)))))), ?_⟩
  refine ⟨_, rfl, r, dx, _, rfl, hob, n2, r, l, ps, g, xs, rfl, R, hl, fun p1 H1 m1 => ?_⟩
  refine ⟨p1, rfl, ⟨_, SqL.of m1.at_⟩, lc_list (xs := xs) (fun i ys H2 => Same H1 H2 /\ ys = (ps.take i).map fun p => V.int (cut d p.1 p.2)) (Nat.le_of_lt (qaw (by omega))) ⟨Same.refl _, rfl⟩ (fun i ys H2 h2 => ⟨SqL.of (h2.1 _ _ m1.at_), by rw [h2.2]; simp; omega⟩) ?_ ?_⟩
  ·rintro i x ys H2 hi ⟨s2, rfl⟩
   obtain ⟨p, hpi, a, rfl, ha⟩ := hx.get hi
   have hs := Pg.size i p hpi
   unfold Bd at hd
   refine ⟨a, _, rfl, SqT.of (s2 _ _ (m1.same _ _ ha)), rfl, _, _, rfl, _, _, rfl, rfl, yes_ (iteT ?_)⟩
   refine ⟨_, rfl, _, rfl, _, _, rfl, rfl, _, rfl, d - p.1, p.2, rfl, hs.2.2.1, hs.2.2.2, by omega, by omega, s2, ?_⟩
   exact (mapN _ ps i p hpi).symm
  ·rintro ys H2 c1 ⟨s2, rfl⟩ hc
   have nc := qbd (o := .lst ((ps.take xs.length).map fun p => V.int (cut d p.1 p.2))) hc
   generalize upd H2 c1 _ = H3 at nc ⊢
   have s3 : Same H H3 := m1.same.trans (s2.trans nc.same)
   rw [hlen, List.take_length] at nc
   refine ⟨_, rfl, _, rfl, _, rfl, r, l, ps, g, d, rfl, R.same s3, Pg, hd, fun H4 s4 => ⟨by show 1 <= sizeLine; decide, fun c2 H5 n5 => ?_⟩⟩
   refine ⟨c1, c2, _, _, rfl, rfl, n5.same _ _ (s4 _ _ nc.at_), n5.at_, Nat.le_of_lt (qaw (by simp; omega)), fun z H6 n6 => ?_⟩
   exact q z H6 (New.after (s3.trans (s4.trans n5.same)) n6)
end
section
variable {P : Program} {w : World} {K : Frag} {mg : Str -> Option Value} {base : Heap} {C_Roll C_Rule C_BookError C_NoNumber C_NoRule C_Backward : Addr}
theorem D_is_gone (T : Txt K mg C_Roll C_Rule C_BookError C_NoNumber C_NoRule C_Backward) : qbs P w K mg base 1 "is_gone" ["edges", "time"] sp_is_gone := by
 obtain ⟨f, fd, F, hm⟩ := T.f_is_gone
 have nd := sc_is_gone.nd
 refine F.def_ hm (F.ok sc_is_gone (fun vs H Q E h => ?_) (fun cdv A outer s H vs Q E hr h => ?_)) (F.binds fun _ _ _ _ _ _ us hl => by obtain ⟨_, _, rfl⟩ := L2.lq2 hl; rfl)
 ·obtain ⟨e, es, ge, t, rfl, _⟩ := h; rfl
 ·obtain ⟨e, es, ge, t, rfl, he, q1, q2⟩ := h
  have hlast : (es.map V.int ++ [gv ge])[(es.map V.int ++ [gv ge]).length - 1]? = some (gv ge) := by simp
  refine ⟨_, (qaf (qar (pe_and (qd3 op_notN (qai qah (pv 0) (pe_un un_neg qab) (fun _ _ => rfl)) qb1 (qax _)) (pe_one (qd3 op_lt (pv 1) (qai qah (pv 0) (pe_un un_neg qab) (fun _ _ => rfl)) (qax _)))))), ?_⟩
  cases ge with
  | none =>
   walk_at "r"
   exact q2 fun ⟨z, e, _⟩ => by cases e
  | some y =>
   walk_at "r"
   show Q (.bl (decide (t < y))) H
   by_cases h : t < y
   ·rw [decide_eq_true h]; exact q1 ⟨y, rfl, h⟩
   ·rw [decide_eq_false h]; exact q2 fun ⟨z, e, h'⟩ => by cases e; exact h h'
theorem D_width_at (T : Txt K mg C_Roll C_Rule C_BookError C_NoNumber C_NoRule C_Backward) : qbs P w K mg base 2 "width_at" ["rule", "edges", "time"] (sp_width_at C_Rule) := by
 obtain ⟨f, fd, F, hm⟩ := T.f_width_at
 have nd := sc_width_at.nd
 refine F.def_ hm (F.ok sc_width_at (fun vs H Q E h => ?_) (fun cdv A outer s H vs Q E hr h => ?_)) (F.binds fun _ _ _ _ _ _ us hl => by obtain ⟨_, _, _, rfl⟩ := L2.lq3 hl; rfl)
 ·obtain ⟨r, l, ps, g, e, es, ge, t, e0, rfl, _⟩ := h; rfl
 ·obtain ⟨r, l, ps, g, e, es, ge, t, e0, rfl, R, he, hl, h1, h5, h0, hlt, q⟩ := h
  obtain ⟨dx, hob⟩ := R.ob
  obtain ⟨xs, hxl, hx⟩ := R.ls
  have n2 : (rf l (gv g)).lookup ("steps" : Str) = none := rf_no _ _ (by decide +kernel) (by decide +kernel)
  have hlen := hx.length
  refine ⟨_, (qac (qd6 (i := 3) (vars := ["step", "edge"]) (frees := ["time"]) (fv := [2]) nd rfl (Or.inl rfl) rfl (lcOk rfl rfl (by decide +kernel) (by decide +kernel) (by intro p hp; simp only [List.mem_cons, List.not_mem_nil, or_false] at hp; rcases hp with rfl <;> rfl) rfl) ⟨⟨rfl, .inl rfl, rfl, .inl rfl⟩, trivial⟩ (pi_zip rfl T.b_zip (qaa (qbb (pv 0) T.cl_Rule (qbx T) (hr.mono (by decide))) (qaa (pv 1) qae))) (qdr (by decide) (by decide)) (fun _ _ _ _ => (qb2 rfl (qal (qaj (i := 0) (show (["step", "edge", "time"] : List Str).Nodup by decide +kernel) rfl (Or.inl rfl)) (qal (qaj (i := 1) (show (["step", "edge", "time"] : List Str).Nodup by decide +kernel) rfl (Or.inl rfl)) qbf)))) (fun _ _ _ _ => (pif_one (qat op_gt (pv 1) (pv 2) (qax _)))) (fun _ _ _ _ => (qai (show IxR _ (rIxT K) from qav) (pv 0) qab (fun _ _ => rfl)))) (qaf (qar (qai qah (pv 3) (pe_un un_neg qab) (fun _ _ => rfl))))), ?_⟩
  refine ⟨_, rfl, r, dx, _, rfl, hob, n2, r, l, ps, g, xs, rfl, R, hxl, fun p1 H1 m1 => ?_⟩
  have he1 := m1.same _ _ he
  refine ⟨_, rfl, p1, e, xs, _, rfl, SqL.of m1.at_, SqL.of he1, ?_⟩
  refine lc_zipN (xs := xs) (fun i zs H2 => Same H1 H2 /\ zs = ((((((ps.map (·.2)).zip es).take i).filter fun x => decide (t < x.2)).map (·.1)).map V.int)) (Nat.le_of_lt (qaw (by omega))) ⟨Same.refl _, rfl⟩ (fun i zs H2 h2 => ⟨SqL.of (h2.1 _ _ m1.at_), SqL.of (h2.1 _ _ he1), by rw [h2.2, List.length_map]; exact wl_len _ _ _ _⟩) ?_ ?_
  ·rintro i x y zs H2 p H3 hxi hyi n3 ⟨s2, rfl⟩
   obtain ⟨pi, hpi, a, rfl, ha⟩ := hx.get hxi
   have hi : i < es.length := by have := (List.getElem?_eq_some_iff.mp hpi).1; omega
   have hy : y = V.int es[i] := by
    rw [List.getElem?_append_left (by simpa using hi), List.getElem?_map, List.getElem?_eq_getElem hi] at hyi
    exact (Option.some.inj hyi).symm
   subst hy
   have hw : (ps.map (·.2))[i]? = some pi.2 := by rw [List.getElem?_map, hpi]; rfl
   have ha3 : H3 a = some (.tup [.int pi.1, .int pi.2]) := n3.same _ _ (s2 _ _ (m1.same _ _ ha))
   walk_at "r"
   refine ite2 (fun z => ?_) fun z => ?_
   ·walk_at "r"
    refine ⟨s2.trans n3.same, ?_⟩
    have := wl_t hw (List.getElem?_eq_getElem hi) (by simpa using z : t < es[i])
    rw [this, List.map_append]; rfl
   ·refine ⟨s2.trans n3.same, ?_⟩
    rw [wl_f hw (List.getElem?_eq_getElem hi) (by simpa using z)]
  ·rintro i zs H2 p H3 hi ⟨s2, rfl⟩ n3
   have ez : ((((ps.map (·.2)).zip es).take i).filter fun x => decide (t < x.2)).map (·.1) = wl (ps.map (·.2)) es t := wl_all (by rw [hi]; simp only [List.length_zip, List.length_map, List.length_append, List.length_singleton]; omega)
   rw [ez] at n3
   have hne : 1 <= (wl (ps.map (·.2)) es t).length := wl_ne (w0 := (ps[0]'(by omega)).2) (by rw [List.getElem?_map, List.getElem?_eq_getElem (by omega : 0 < ps.length)]; rfl) h0 hlt
   obtain ⟨w', hw'⟩ : ∃ w', (wl (ps.map (·.2)) es t)[(wl (ps.map (·.2)) es t).length - 1]? = some w' := ⟨_, List.getElem?_eq_getElem (by omega)⟩
   have hlast : ((wl (ps.map (·.2)) es t).map V.int)[((wl (ps.map (·.2)) es t).map V.int).length - 1]? = some (V.int w') := by rw [List.length_map, List.getElem?_map, hw']; rfl
   walk_at "r"
   exact q w' H3 hw' (m1.same.trans (s2.trans n3.same))
theorem D_cell_at (T : Txt K mg C_Roll C_Rule C_BookError C_NoNumber C_NoRule C_Backward) : qbs P w K mg base 3 "cell_at" ["rule", "edges", "time"] (sp_cell_at C_Rule) := by
 obtain ⟨f, fd, F, hm⟩ := T.f_cell_at
 have nd := sc_cell_at.nd
 refine F.def_ hm (F.ok sc_cell_at (fun vs H Q E h => ?_) (fun cdv A outer s H vs Q E hr h => ?_)) (F.binds fun _ _ _ _ _ _ us hl => by obtain ⟨_, _, _, rfl⟩ := L2.lq3 hl; rfl)
 ·obtain ⟨r, l, ps, g, e, es, ge, t, rfl, _⟩ := h; rfl
 ·obtain ⟨r, l, ps, g, e, es, ge, t, rfl, R, he, hl, h1, h5, hsz, ht, q⟩ := h
  obtain ⟨e0, h0⟩ : ∃ e0, es[0]? = some e0 := ⟨_, List.getElem?_eq_getElem (by omega)⟩
  have hi0 : atI (es.map V.int ++ [gv ge]) 0 = some (.int e0) := atI_nat (j := 0) (by rw [List.getElem?_append_left (by simp; omega), List.getElem?_map, h0]; rfl)
  refine ⟨_, (qac (qbl (qat op_ge (pv 2) (qai qah (pv 1) qab (fun _ _ => rfl)) (qax _)) (qaf (qar (qa5 (qaa (pv 2) (qaa qab qae)))))
    qa0) (qac (qbl (pt_val (qa4 (D_is_gone T) (hr.mono (by decide)) rfl (qaa (pv 1) (qaa (pv 2) qae)))) (qaf (qar qb1))
    qa0) (qac (qas (i := 3) nd rfl (Or.inl rfl) (qa4 (D_width_at T) (hr.mono (by decide)) rfl (qaa (pv 0) (qaa (pv 1) (qaa (pv 2) qae))))) (qaf (qar (qa5 (qaa (qa4 (D_floored T) (hr.mono (by decide)) rfl (qaa (pv 2) (qaa (pv 3) qae))) (qaa (pv 3) qae)))))))), ?_⟩
  walk_at "r"
  refine ite2 (fun z => ?_) fun z => ?_
  ·simp at z
   walk_at "r"; intro p H1 n1
   refine q (.ref p) (some (t, 0)) H1 (fun x hx => ?_) ⟨p, rfl, n1.at_⟩ n1.same
   rw [h0] at hx; cases hx
   exact ⟨fun _ => rfl, fun h => absurd z (by omega)⟩
  ·simp at z
   walk_at "r"
   refine ⟨e, es, ge, t, rfl, he, fun hg => ?_, fun hg => ?_⟩
   ·walk_at "r"
    refine q .non none H (fun x hx => ?_) rfl (Same.refl _)
    rw [h0] at hx; cases hx
    exact ⟨fun h => absurd z (by omega), fun _ => ⟨fun _ => rfl, fun n => absurd hg n⟩⟩
   ·walk_at "r"
    refine ⟨r, l, ps, g, e, es, ge, t, e0, rfl, R, he, hl, h1, h5, h0, z, fun w' H1 hw' s1 => ?_⟩
    have hwm : w' ∈ ps.map (·.2) := wl_mem (List.mem_of_getElem? hw')
    obtain ⟨pi, hpi, rfl⟩ := List.mem_map.mp hwm
    obtain ⟨i, hi, ei⟩ := List.getElem_of_mem hpi
    have hs := hsz i pi (by rw [<- ei]; exact List.getElem?_eq_getElem hi)
    refine ⟨_, rfl, _, rfl, t, pi.2, rfl, hs.2.2.1, hs.2.2.2, ht.1, ht.2, ?_⟩
    walk_at "r"; intro p H2 n2
    refine q (.ref p) (some (t / pi.2 * pi.2, pi.2)) H2 (fun x hx => ?_) ⟨p, rfl, n2.at_⟩ (s1.trans n2.same)
    rw [h0] at hx; cases hx
    exact ⟨fun h => absurd z (by omega), fun _ => ⟨fun n => absurd n hg, fun _ => ⟨pi.2, hw', rfl⟩⟩⟩
end
section
variable {P : Program} {w : World} {K : Frag} {mg : Str -> Option Value} {base : Heap} {C_Roll C_Rule C_BookError C_NoNumber C_NoRule C_Backward : Addr}
theorem D_heap_of (T : Txt K mg C_Roll C_Rule C_BookError C_NoNumber C_NoRule C_Backward) : qbs P w K mg base 1 "heap_of" ["runs"] sp_heap_ofB := by
 obtain ⟨f, fd, F, hm⟩ := T.f_heap_of
 have nd := sc_heap_of.nd
 refine F.def_ hm (F.ok sc_heap_of (fun vs H Q E h => ?_) (fun cdv A outer s H vs Q E hr h => ?_)) (F.binds fun _ _ _ _ _ _ us hl => by obtain ⟨_, rfl⟩ := L2.lq1 hl; rfl)
 ·obtain ⟨l, xs, rs, rfl, _⟩ := h; rfl
 ·obtain ⟨l, xs, rs, rfl, hl, hp, ok, h2, q0, q⟩ := h
  have hlen := hp.length
  refine ⟨_, (qac (qbl (qat op_eq (qay qa3 rfl T.b_len bt_len (qaa (pv 0) qae)) qab (qax _)) (qaf (qar qb1))
    qa0) (qac (qd6 (i := 1) (vars := ["value", "many"]) (frees := []) (fv := []) nd rfl (Or.inl rfl) rfl (lcOk rfl rfl (by decide +kernel) (by decide +kernel) (by intro p hp; cases hp) rfl) trivial (qbr (pv 0)) (qdr (by decide) (by decide)) (fun _ _ _ _ => (qb2 rfl (qal (qaj (i := 0) (show (["value", "many"] : List Str).Nodup by decide +kernel) rfl (Or.inl rfl)) (qal (qaj (i := 1) (show (["value", "many"] : List Str).Nodup by decide +kernel) rfl (Or.inl rfl)) qbf)))) (fun _ _ _ _ => qby) (fun _ _ _ _ => (pv 0))) (qac (qas (i := 2) nd rfl (Or.inl rfl) (qay (call_sum rfl) rfl T.b_sum bt_sum (qaa (pe_lc (vars := ["value", "many"]) (frees := []) (fv := []) rfl (lcOk rfl rfl (by decide +kernel) (by decide +kernel) (by intro p hp; cases hp) rfl) trivial (qbr (pv 0)) (qdr (by decide) (by decide)) (fun _ _ _ _ => (qb2 rfl (qal (qaj (i := 0) (show (["value", "many"] : List Str).Nodup by decide +kernel) rfl (Or.inl rfl)) (qal (qaj (i := 1) (show (["value", "many"] : List Str).Nodup by decide +kernel) rfl (Or.inl rfl)) qbf)))) (fun _ _ _ _ => qby) (fun _ _ _ _ => (pv 1))) qae))) (qac (qas (i := 3) nd rfl (Or.inl rfl) (qay (call_sum rfl) rfl T.b_sum bt_sum (qaa (pe_lc (vars := ["value", "many"]) (frees := []) (fv := []) rfl (lcOk rfl rfl (by decide +kernel) (by decide +kernel) (by intro p hp; cases hp) rfl) trivial (qbr (pv 0)) (qdr (by decide) (by decide)) (fun _ _ _ _ => (qb2 rfl (qal (qaj (i := 0) (show (["value", "many"] : List Str).Nodup by decide +kernel) rfl (Or.inl rfl)) (qal (qaj (i := 1) (show (["value", "many"] : List Str).Nodup by decide +kernel) rfl (Or.inl rfl)) qbf)))) (fun _ _ _ _ => qby) (fun _ _ _ _ => (qak op_mulB (pv 0) (pv 1)))) qae))) (qaf (qar (qa5 (qaa (pv 2) (qaa (pv 3) (qaa (qay (call_minL rfl) rfl T.b_min bt_min (qaa (pv 1) qae)) (qaa (qay (call_maxL rfl) rfl T.b_max bt_max (qaa (pv 1) qae)) qae))))))))))), ?_⟩
  walk_at "r"
  refine ite2 (fun z => ?_) fun z => ?_
  ·have z' : xs.length = 0 := by simpa using z
   exact q0 (List.length_eq_zero_iff.mp (by omega))
  ·have z' : ¬ xs.length = 0 := by simpa using z
   have hne : rs ≠ [] := fun e => z' (by rw [hlen, e]; rfl)
   have h1 : 1 <= rs.length := by omega
   have mulB : ∀ p ∈ rs, CMulB p.1 p.2 := fun p hp => by
    have := ok p hp
    unfold RunB at this
    exact ⟨⟨by omega, by omega⟩, by omega, by omega⟩
   refine ⟨_, rfl, l, rfl, ⟨_, SqL.of hl⟩, lc_pairs (fun p => p.1) hl hp h2 (fun p hp Q' hq => ⟨_, rfl, hq⟩) fun a1 H1 n1 => ?_⟩
   have hl1 := n1.same _ _ hl
   have hp1 := hp.same n1.same
   refine ⟨_, rfl, l, rfl, ⟨_, SqL.of hl1⟩, lc_pairs (fun p => p.2) hl1 hp1 h2 (fun p hp Q' hq => ⟨_, rfl, hq⟩) fun a2 H2 n2 => ⟨a2, _, rfl, SqL.of n2.at_, ?_⟩⟩
   have hl2 := n2.same _ _ hl1
   have hp2 := hp1.same n2.same
   refine ⟨_, rfl, l, rfl, ⟨_, SqL.of hl2⟩, lc_pairs (fun p => p.1 * p.2) hl2 hp2 h2 (fun p hp Q' hq => ⟨_, rfl, _, rfl, _, _, rfl, rfl, mulB p hp, hq⟩) fun a3 H3 n3 => ⟨a3, _, rfl, SqL.of n3.at_, ?_⟩⟩
   have hv := n3.same _ _ (n2.same _ _ n1.at_)
   refine ⟨_, rfl, _, rfl, _, rfl, a1, _, rfl, SqL.of hv, by simp; omega, fun lo hlo hlo' => ?_⟩
   refine ⟨_, rfl, a1, _, rfl, SqL.of hv, by simp; omega, fun hi hhi hhi' => ?_⟩
   walk_at "r"; intro a H5 n5
   exact q hne a _ _ lo hi H5 ⟨rfl, rfl, hlo, hlo', hhi, hhi'⟩ (New.after (n1.same.trans (n2.same.trans n3.same)) n5)
theorem D_poured (T : Txt K mg C_Roll C_Rule C_BookError C_NoNumber C_NoRule C_Backward) : qbs P w K mg base 1 "poured" ["one", "other"] sp_poured := by
 obtain ⟨f, fd, F, hm⟩ := T.f_poured
 have nd := sc_poured.nd
 refine F.def_ hm (F.ok sc_poured (fun vs H Q E h => ?_) (fun cdv A outer s H vs Q E hr h => ?_)) (F.binds fun _ _ _ _ _ _ us hl => by obtain ⟨_, _, rfl⟩ := L2.lq2 hl; rfl)
 ·obtain ⟨a, b, m, t, lo, hi, m', t', lo', hi', rfl, _⟩ := h; rfl
 ·obtain ⟨a, b, m, t, lo, hi, m', t', lo', hi', rfl, ha, hb, q⟩ := h
  refine ⟨_, (qaf (qar (qa5 (qaa (qak qbc (qai qav (pv 0) qab (fun _ _ => rfl)) (qai qav (pv 1) qab (fun _ _ => rfl))) (qaa (qak qbc (qai qav (pv 0) qab (fun _ _ => rfl)) (qai qav (pv 1) qab (fun _ _ => rfl))) (qaa (qay (call_min2 rfl) rfl T.b_min bt_min (qaa (qai qav (pv 0) qab (fun _ _ => rfl)) (qaa (qai qav (pv 1) qab (fun _ _ => rfl)) qae))) (qaa (qay (call_max2 rfl) rfl T.b_max bt_max (qaa (qai qav (pv 0) qab (fun _ _ => rfl)) (qaa (qai qav (pv 1) qab (fun _ _ => rfl)) qae))) qae))))))), ?_⟩
  walk_at "r"; intro p H1 n1
  exact q p H1 n1
end
section
variable {P : Program} {w : World} {K : Frag} {mg : Str -> Option Value} {base : Heap} {C_Roll C_Rule C_BookError C_NoNumber C_NoRule C_Backward : Addr}
theorem D_greater_edge (T : Txt K mg C_Roll C_Rule C_BookError C_NoNumber C_NoRule C_Backward) : qbs P w K mg base 1 "greater_edge" ["one", "other"] sp_greater_edge := by
 obtain ⟨f, fd, F, hm⟩ := T.f_greater_edge
 have nd := sc_greater_edge.nd
 refine F.def_ hm (F.ok sc_greater_edge (fun vs H Q E h => ?_) (fun cdv A outer s H vs Q E hr h => ?_)) (F.binds fun _ _ _ _ _ _ us hl => by obtain ⟨_, _, rfl⟩ := L2.lq2 hl; rfl)
 ·obtain ⟨x, y, rfl, _⟩ := h; rfl
 ·obtain ⟨x, y, rfl, hx, hy, q⟩ := h
  refine ⟨_, (qac (qbl (qat op_isN (pv 0) qb1 (qax _)) (qaf (qar (pv 1)))
    qa0) (qac (qbl (qat op_isN (pv 1) qb1 (qax _)) (qaf (qar (pv 0)))
    qa0) (qaf (qar (qay (call_max2 rfl) rfl T.b_max bt_max (qaa (pv 0) (qaa (pv 1) qae))))))), ?_⟩
  rcases hx with rfl | ⟨i, rfl⟩
  ·exact ⟨_, rfl, rfl, _, rfl, iteT ⟨_, rfl, q⟩⟩
  ·refine ⟨_, rfl, rfl, _, rfl, iteF ?_⟩
   rcases hy with rfl | ⟨j, rfl⟩
   ·exact ⟨_, rfl, rfl, _, rfl, iteT ⟨_, rfl, q⟩⟩
   ·exact ⟨_, rfl, rfl, _, rfl, iteF ⟨_, rfl, _, rfl, _, _, rfl, q⟩⟩
theorem D_greater (T : Txt K mg C_Roll C_Rule C_BookError C_NoNumber C_NoRule C_Backward) : DefX P w K mg base 2 "greater" ["one", "other"] [] (sp_greater C_NoRule) := by
 obtain ⟨f, fd, F, hm⟩ := T.f_greater
 have nd := sc_greater.nd
 refine ⟨f, fd, (F.okX sc_greater (fun vs H Q E h => ?_) (fun cdv A outer s H vs Q E hr h => ?_)), hm, F.kp, (F.binds fun _ _ _ _ _ _ us hl => by obtain ⟨_, _, rfl⟩ := L2.lq2 hl; rfl)⟩
 ·obtain ⟨a, b, xs, ys, rfl, _⟩ := h; rfl
 ·obtain ⟨a, b, xs, ys, rfl, ha, hb, hx, hy, hz, q, hE⟩ := h
  refine ⟨_, (qac (qbl (qat op_ne (qay qa3 rfl T.b_len bt_len (qaa (pv 0) qae)) (qay qa3 rfl T.b_len bt_len (qaa (pv 1) qae)) (qax _)) (qaf (ps_raise (qb0 ⟨rfl, rfl, rfl⟩) rfl T.ex_NoRule rfl T.mg_NoRule (qaa pe_str qae)))
    qa0) (qaf (qar (pe_lc (vars := ["left", "right"]) (frees := []) (fv := []) rfl (lcOk rfl rfl (by decide +kernel) (by decide +kernel) (by intro p hp; cases hp) rfl) trivial (pi_zip rfl T.b_zip (qaa (pv 0) (qaa (pv 1) qae))) (qdr (by decide) (by decide)) (fun _ _ _ _ => (qb2 rfl (qal (qaj (i := 0) (show (["left", "right"] : List Str).Nodup by decide +kernel) rfl (Or.inl rfl)) (qal (qaj (i := 1) (show (["left", "right"] : List Str).Nodup by decide +kernel) rfl (Or.inl rfl)) qbf)))) (fun _ _ _ _ => qby) (fun _ _ _ _ => (qa4 (D_greater_edge T) (hr.mono (by decide)) rfl (qaa (pv 0) (qaa (pv 1) qae)))))))), ?_⟩
  refine ⟨_, rfl, a, xs, rfl, .inl (SqL.of ha), _, rfl, b, ys, rfl, .inl (SqL.of hb), rfl, _, rfl, ?_⟩
  by_cases he : xs.length = ys.length
  ·refine iteNS (by rw [he]) ?_
   refine ⟨_, rfl, _, rfl, a, b, xs, ys, rfl, SqL.of ha, SqL.of hb, ?_⟩
   refine lc_zip (xs := xs) (fun i zs H2 => Same H H2 /\ zs = (List.zipWith gE xs ys).take i) (Nat.le_of_lt (qaw hz)) ⟨Same.refl _, rfl⟩ (fun i zs H2 h2 => ⟨SqL.of (h2.1 _ _ ha), SqL.of (h2.1 _ _ hb), by rw [h2.2]; simp; omega⟩) ?_ ?_
   ·rintro i x y zs H2 p h1 h2 hn ⟨s2, rfl⟩
    have n := qbd (o := .tup [x, y]) hn
    generalize upd H2 p _ = H3 at n ⊢
    refine ⟨p, _, rfl, SqT.of n.at_, rfl, _, _, rfl, _, _, rfl, rfl, yes_ (iteT ?_)⟩
    exact ⟨_, rfl, _, rfl, x, y, rfl, hx x (List.mem_of_getElem? h1), hy y (List.mem_of_getElem? h2), s2.trans n.same, (takeN _ i _ (zip_get h1 h2)).symm⟩
   ·rintro i zs H2 p hi ⟨s2, rfl⟩ hn
    have n := qbd (o := .lst ((List.zipWith gE xs ys).take i)) hn
    have e : (List.zipWith gE xs ys).take i = List.zipWith gE xs ys := List.take_of_length_le (by rw [List.length_zipWith, hi]; exact Nat.le_refl _)
    rw [e] at n ⊢
    exact q he p _ (New.after s2 n)
  ·refine iteN (fun z => he (by injection z with z; exact Int.ofNat.inj z)) ?_
   exact ⟨by show 1 <= sizeLine; decide, hE he⟩
end
section
variable {P : Program} {w : World} {K : Frag} {mg : Str -> Option Value} {base : Heap} {C_Roll C_Rule C_BookError C_NoNumber C_NoRule C_Backward : Addr}
theorem D_Roll_2 (T : Txt K mg C_Roll C_Rule C_BookError C_NoNumber C_NoRule C_Backward) : MkOk P w K mg base C_Roll 4 "Roll" ["self", "rule", "day"] [] (sp_roll_init C_Roll C_Rule) := by
 obtain ⟨f, fd, F, M⟩ := T.f_Roll_init
 have nd := sc_Roll_init.nd
 refine ⟨f, fd, (F.ok sc_Roll_init (fun vs H Q E h => ?_) (fun cdv A outer s H vs Q E hr h => ?_)), T.mg_Roll, M, (F.binds fun _ _ _ _ _ _ us hl => by obtain ⟨_, _, _, rfl⟩ := L2.lq3 hl; rfl)⟩
 ·obtain ⟨ro, dx, ru, rl, ps, g, day, rfl, _⟩ := h; rfl
 ·obtain ⟨ro, dx, ru, rl, ps, g, day, rfl, hro, R, Pg, hd, q⟩ := h
  obtain ⟨dx2, hru⟩ := R.ob
  have nru : ru ≠ ro := qbk hru hro (by intro z; injection z with _ _ z; have := rf_ks rl (gv g); rw [z] at this; cases this)
  refine ⟨_, (qac (ps_fldN (pv 0) (pv 1) rfl) (qac (ps_fldN (pv 0) (pv 2) rfl) (qac (ps_fldN (pv 0) (qa4 (D_edges_at T) (hr.mono (by decide)) rfl (qaa (pv 1) (qaa (pv 2) qae))) rfl) (qac (ps_fldN (pv 0) pe_dnewN rfl) (qaf (ps_fldN (pv 0) pe_dnewN rfl)))))), ?_⟩
  refine ⟨_, rfl, _, rfl, ro, C_Roll, dx, [], rfl, hro, T.cl_Roll, T.na_Roll_kept_rule, (by show 0 < 1000; decide), fun H1 b1 h1 => ?_⟩
  refine ⟨_, rfl, _, rfl, ro, C_Roll, dx, _, rfl, h1, T.cl_Roll, T.na_Roll_kept_day, (by show 1 < 1000; decide), fun H2 b2 h2 => ?_⟩
  have R2 := (R.but2 b1 hro ins_nt (by intro xs z; cases z) nru).but2 b2 h1 ins_nt (by intro xs z; cases z) nru
  refine ⟨_, rfl, _, rfl, ru, rl, ps, g, day, rfl, R2, Pg, hd, fun le H3 n3 => ?_⟩
  refine ⟨_, rfl, ro, C_Roll, dx, _, rfl, n3.same _ _ h2, T.cl_Roll, T.na_Roll_kept_edges, (by show 2 < 1000; decide), fun H4 b4 h4 => ?_⟩
  intro dy H5 n5
  refine ⟨_, rfl, ro, C_Roll, dx, _, rfl, n5.same _ _ h4, T.cl_Roll, T.na_Roll_whole_ones, (by show 3 < 1000; decide), fun H6 b6 h6 => ?_⟩
  intro dh H7 n7
  refine ⟨_, rfl, ro, C_Roll, dx, _, rfl, n7.same _ _ h6, T.cl_Roll, T.na_Roll_cell_heaps, (by show 4 < 1000; decide), fun H8 b8 h8 => ?_⟩
  have R8 := ((((R2.same n3.same).but2 b4 (n3.same _ _ h2) ins_nt (by intro xs z; cases z) nru).same n5.same |>.but2 b6 (n5.same _ _ h4) ins_nt (by intro xs z; cases z) nru).same n7.same).but2 b8 (n7.same _ _ h6) ins_nt (by intro xs z; cases z) nru
  have bb : But ro H H8 := fun b o e hb => b8 _ _ (n7.same _ _ (b6 _ _ (n5.same _ _ (b4 _ _ (n3.same _ _ (b2 _ _ (b1 _ _ e hb) hb)) hb)) hb)) hb
  have fr : ∀ b, b ≠ ro -> H8 b = none -> H b = none := fun b hb h0 => by
   cases e : H b with
   | none => rfl
   | some o => rw [bb b o e hb] at h0; cases h0
  have e4 : H4 le = some (.lst (eV ps g day)) := b4 _ _ n3.at_ (qbk n3.at_ (n3.same _ _ h2) (by intro z; cases z))
  have e6 : H6 dy = some (.dT []) := b6 _ _ n5.at_ (qbk n5.at_ (n5.same _ _ h4) (by intro z; cases z))
  have up2 : ∀ b o, H b = some o -> b ≠ ro -> H2 b = some o := fun b o e hb => b2 _ _ (b1 _ _ e hb) hb
  have fr2 : ∀ b, H2 b = none -> H b = none := fun b h0 => by
   cases e : H b with
   | none => rfl
   | some o =>
    by_cases hb : b = ro
    ·subst hb; rw [h2] at h0; cases h0
    ·rw [up2 b o e hb] at h0; cases h0
  have fr4 : ∀ b, H4 b = none -> H2 b = none := fun b h0 => by
   cases e : H2 b with
   | none => rfl
   | some o =>
    by_cases hb : b = ro
    ·subst hb; rw [h4] at h0; cases h0
    ·rw [b4 _ _ (n3.same _ _ e) hb] at h0; cases h0
  have fr6 : ∀ b, H6 b = none -> H4 b = none := fun b h0 => by
   cases e : H4 b with
   | none => rfl
   | some o =>
    by_cases hb : b = ro
    ·subst hb; rw [h6] at h0; cases h0
    ·rw [b6 _ _ (n5.same _ _ e) hb] at h0; cases h0
  refine q le dy dh H8 (fr2 _ n3.fresh) (fr2 _ (fr4 _ n5.fresh)) (fr2 _ (fr4 _ (fr6 _ n7.fresh))) ⟨⟨dx, h8⟩, R8, ?_, ?_, ?_, qag e6 n7.fresh⟩ bb
  ·have e8 := b8 _ _ (n7.same _ _ (b6 _ _ (n5.same _ _ e4) (qbk (n5.same _ _ e4) (n5.same _ _ h4) (by intro z; cases z)))) (qbk (n7.same _ _ (b6 _ _ (n5.same _ _ e4) (qbk (n5.same _ _ e4) (n5.same _ _ h4) (by intro z; cases z)))) (n7.same _ _ h6) (by intro z; cases z))
   show H8 le = some (.lst (((ps.map fun p => cut day p.1 p.2).map V.int) ++ [gv (g.map fun z => cut day z (lw ps))]))
   rw [<- (EdS.of Pg hd).eq]
   exact e8
  ·exact b8 _ _ (n7.same _ _ e6) (qbk (n7.same _ _ e6) (n7.same _ _ h6) (by intro z; cases z))
  ·exact b8 _ _ n7.at_ (qbk n7.at_ (n7.same _ _ h6) (by intro z; cases z))
theorem qc4 (T : Txt K mg C_Roll C_Rule C_BookError C_NoNumber C_NoRule C_Backward) : MetOk P w K mg base C_Roll 2 "pour_into_cell" ["self", "cell", "heap"] (sp_rpourG C_Roll C_Rule) := by
 obtain ⟨f, fd, F, hm⟩ := T.f_Roll_pour_into_cell
 have nd := sc_Roll_pour_into_cell.nd
 refine ⟨f, fd, (F.ok sc_Roll_pour_into_cell (fun vs H Q E h => ?_) (fun cdv A outer s H vs Q E hr h => ?_)), hm, (F.binds fun _ _ _ _ _ _ us hl => by obtain ⟨_, _, _, rfl⟩ := L2.lq3 hl; rfl)⟩
 ·obtain ⟨ro, D, c, h, s, w', x, rfl, _⟩ := h; rfl
 ·obtain ⟨ro, D, c, h, s', w', x, rfl, A', hc, hh, hZ, hl, q⟩ := h
  obtain ⟨dx, hob⟩ := A'.ob
  refine ⟨_, (qaf (qbl (pt_cmp (pc_din (hu_of hr) (pv 1) (qcb (pv 0) rfl))) (qaf (ps_dput (hu_of hr) (qcb (pv 0) rfl) (pv 1) (qa4 (D_poured T) (hr.mono (by decide)) rfl (qaa (pe_dget (hu_of hr) (qcb (pv 0) rfl) (pv 1) (fun _ _ => rfl)) (qaa (pv 2) qae))) rfl)) (qaf (ps_dput (hu_of hr) (qcb (pv 0) rfl) (pv 1) (pv 2) rfl)))), ?_⟩
  refine ⟨_, rfl, _, rfl, ro, C_Roll, dx, _, _, rfl, hob, T.cl_Roll, T.na_Roll_cell_heaps, rof_ch _ _ _ _ _, D.dh, _, rfl, DGet.t (k := kk s' w') A'.he hc, _, rfl, ?_⟩
  cases e : valV D.Z (kk s' w') with
  | none =>
   refine iteF ?_
   refine ⟨_, rfl, _, rfl, ro, C_Roll, dx, _, _, rfl, hob, T.cl_Roll, T.na_Roll_cell_heaps, rof_ch _ _ _ _ _, _, rfl, D.dh, _, rfl, DPut.t (k := kk s' w') A'.he hc (qaw (by omega)), ?_⟩
   exact q h x _ (qb3 _ _ hh (qbk hh A'.he (by intro z; cases z))) (.inl ⟨e, rfl⟩) (A'.putZ qb3 qa8) qb3
  | some xx =>
   obtain ⟨h0, m0, t0, lo0, hi0, rfl, hh0⟩ := hZ _ _ e
   refine iteT ?_
   refine ⟨_, rfl, ro, C_Roll, dx, _, _, rfl, hob, T.cl_Roll, T.na_Roll_cell_heaps, rof_ch _ _ _ _ _, _, rfl, D.dh, _, rfl, (by have := DGet.t (k := kk s' w') A'.he hc; rwa [e] at this), _, rfl, ?_⟩
   refine ⟨h0, h, m0, t0, lo0, hi0, x.1, x.2.1, x.2.2.1, x.2.2.2, rfl, hh0, hh, fun p H1 n1 => ?_⟩
   have A1 := A'.same n1.same
   refine ⟨_, rfl, ro, C_Roll, dx, _, _, rfl, n1.same _ _ hob, T.cl_Roll, T.na_Roll_cell_heaps, rof_ch _ _ _ _ _, _, rfl, D.dh, _, rfl, DPut.t (k := kk s' w') A1.he (n1.same _ _ hc) (qaw (by omega)), ?_⟩
   refine q p (mg4 (m0, t0, lo0, hi0) x) _ (qb3 _ _ n1.at_ (qbk n1.at_ A1.he (by intro z; cases z))) (.inr ⟨h0, (m0, t0, lo0, hi0), e, hh0, rfl⟩) (A1.putZ qb3 qa8) fun b o eo hb => qb3 _ _ (n1.same _ _ eo) hb
theorem G_Roll_put (T : Txt K mg C_Roll C_Rule C_BookError C_NoNumber C_NoRule C_Backward) : ∃ f fd dT o n t, FnOk P w K mg base CX0 4 f fd ["self", "time", "value", "many"] (sp_rput2 C_Roll C_Rule) /\ FunD K "put" "Roll.put" qdb (.ref dT) f fd /\ Meth K C_Roll "put" f /\ fd.defaults = .ref dT /\ K.lookup dT = some o /\ o.data = .seq #[.int 1 t] n := by
 obtain ⟨f, fd, dT, o, n, t, F, M, h1, h2, h3⟩ := T.f_Roll_put
 have nd := sc_Roll_put.nd
 refine ⟨f, fd, dT, o, n, t, (F.ok sc_Roll_put (fun vs H Q E h => ?_) (fun cdv A outer s H vs Q E hr h => ?_)), F, M, h1, h2, h3⟩
 ·obtain ⟨ro, D, t, v, m, rfl, _⟩ := h; rfl
 ·obtain ⟨ro, D, t, v, m, rfl, A', ok, ht, z1, rok, hY, hZ, ly, lz, q⟩ := h
  obtain ⟨dx, hob⟩ := A'.ob
  refine ⟨_, (qac (qbl (qat op_lt (pv 3) qab (qax _)) (qaf qc8)
    qa0) (qac (qas (i := 4) nd rfl (Or.inl rfl) (qa4 (D_cell_at T) (hr.mono (by decide)) rfl (qaa (qcb (pv 0) rfl) (qaa (qcb (pv 0) rfl) (qaa (pv 1) qae))))) (qac (qbl (qat op_isN (pv 4) qb1 (qax _)) (qaf (qar pe_bl))
    qa0) (qac (qbl (qat op_eq (qai qav (pv 4) qab (fun _ _ => rfl)) qab (qax _)) (qaf (ps_dput (hu_of hr) (qcb (pv 0) rfl) (qa5 (qaa (pv 1) (qaa (pv 2) qae))) (qak qbc (pe_dget2 (hu_of hr) (qcb (pv 0) rfl) (qa5 (qaa (pv 1) (qaa (pv 2) qae))) qab ⟨rfl, rfl, rfl, rfl⟩) (pv 3)) rfl)) (qaf (qbi (pe_mt (pv 0) T.cl_Roll (qc4 T) (hr.mono (by decide)) (qaa (pv 4) (qaa (qa4 (D_heap_of T) (hr.mono (by decide)) rfl (qaa (qa6 (qaa (qa5 (qaa (pv 2) (qaa (pv 3) qae))) qae)) qae)) qae)))))) (qaf (qar pe_bl)))))), ?_⟩
  walk_at "r"
  refine ite2 (fun z => ?_) fun z => ?_
  ·exact absurd (of_decide_eq_true z) (by omega)
  have lo := ok.pr.good.lo
  refine ⟨_, rfl, ro, C_Roll, dx, _, _, rfl, hob, T.cl_Roll, T.na_Roll_kept_rule, rof_kr _ _ _ _ _, _, rfl, ro, C_Roll, dx, _, _, rfl, hob, T.cl_Roll, T.na_Roll_kept_edges, rof_ke _ _ _ _ _, _, rfl, D.ru, D.rl, D.ps, D.g, D.le, D.es, D.ge, t, rfl, A'.rule, A'.ed, ok.es, lo, ok.pr.good.hi, ok.pr.size, ht, fun cv o H1 hc cat s1 => ?_⟩
  have hob1 := s1 _ _ hob
  have A1 := A'.same s1
  cases o with
  | none =>
   cases (show cv = .non from cat)
   walk_at "r"
   exact q none hc D H1 (.inl ⟨rfl, rfl⟩) A1 fun c o e _ _ => s1 _ _ e
  | some p =>
   obtain ⟨c, rfl, hcv⟩ := cat
   have hp := CellOf.some_ hc (by rw [ok.es]; exact lo) fun w' hw' => ok.pr.w1 hw'
   rcases hp with rfl | hp
   ·walk_at "r"
    refine ⟨ro, C_Roll, dx, _, _, rfl, hob1, T.cl_Roll, T.na_Roll_whole_ones, rof_wo _ _ _ _ _, D.dy, rfl, .inr ⟨_, .inl A1.yo⟩, ?_⟩
    walk_at "r"; intro p2 H2 n2
    have A2 := A1.same n2.same
    refine ⟨_, DGet.t (k := kk t v) A2.yo n2.at_, ?_⟩
    rw [yv_get hY]
    walk_at "r"
    refine ⟨ro, C_Roll, dx, _, _, rfl, n2.same _ _ hob1, T.cl_Roll, T.na_Roll_whole_ones, rof_wo _ _ _ _ _, ?_⟩
    walk_at "r"; intro p3 H3 n3
    have A3 := A2.same n3.same
    refine ⟨D.dy, _, rfl, DPut.t (k := kk t v) A3.yo n3.at_ (qaw (by omega)), ?_⟩
    show Q _ _
    exact q (some (t, 0)) hc _ _ (.inr (.inl ⟨rfl, rfl⟩)) (A3.putY qb3 qa8) fun c o e hc1 _ => qb3 _ _ (n3.same _ _ (n2.same _ _ (s1 _ _ e))) hc1
   ·walk_at "r"
    refine ite2 (fun z => ?_) fun z => ?_
    ·exact absurd z (by simp; omega)
    refine ⟨_, rfl, ro, dx, _, rfl, hob1, rof_pour _ _ _ _ _, _, rfl, ?_⟩
    walk_at "r"; intro p2 H2 n2
    walk_at "r"; intro p3 H3 n3
    refine ⟨p3, _, [(v, m)], rfl, n3.at_, .cons ⟨p2, rfl, n3.same _ _ n2.at_⟩ .nil, (fun q hq => by rw [List.mem_singleton.mp hq]; exact rok), by simp, (fun e => by cases e), fun _ h4 a' b' lo' hi' H4 hof n4 => ?_⟩
    have s4 : Same H1 H4 := n2.same.trans (n3.same.trans n4.same)
    refine ⟨ro, D, c, h4, p.1, p.2, (a', b', lo', hi'), rfl, A1.same s4, s4 _ _ hcv, n4.at_, hZ.same (s1.trans s4), lz, fun h5 y H5 e5 po A5 b5 => ?_⟩
    show Q _ _
    refine q (some p) hc _ H5 (.inr (.inr ⟨p.1, p.2, h5, y.1, y.2.1, y.2.2.1, y.2.2.2, rfl, hp, rfl, e5, ?_⟩)) A5 fun c o e _ hc2 => b5 _ _ (s4 _ _ (s1 _ _ e)) hc2
    rcases po with ⟨po1, rfl⟩ | ⟨h0, x0, e1, e2, rfl⟩
    ·exact .inl ⟨po1, hof⟩
    ·obtain ⟨h0', m0', t0', lo0', hi0', e4, e9⟩ := hZ _ _ e1
     cases e4
     rw [s4 _ _ (s1 _ _ e9)] at e2
     have e6 : v4 (m0', t0', lo0', hi0') = v4 x0 := by injection e2 with e2; injection e2
     have e7 := v4_inj e6
     subst e7
     exact .inr ⟨h0, m0', t0', lo0', hi0', a', b', lo', hi', e1, e9, hof, rfl, rfl, rfl, rfl⟩
theorem D_Roll_put_3 (T : Txt K mg C_Roll C_Rule C_BookError C_NoNumber C_NoRule C_Backward) : MetD P w K mg base C_Roll 4 "put" ["self", "time", "value", "many"] [] (sp_rput2 C_Roll C_Rule) := by
 obtain ⟨f, fd, dT, o, n, t, hf, F, M, h1, h2, h3⟩ := G_Roll_put (P := P) (w := w) (base := base) T
 refine ⟨f, fd, hf, M, binds_d h1 h2 h3 fun us hl => ?_⟩
 obtain ⟨oc, od, kV, doc, pm, an, cdv, ct, osl, rfl, lk, hcd⟩ := F.ex
 obtain ⟨_, _, _, _, rfl⟩ := L2.lq4 (us := us) (by simpa using hl)
 exact ⟨_, rfl, rfl⟩
end
section
variable {P : Program} {w : World} {K : Frag} {mg : Str -> Option Value} {base : Heap} {C_Roll C_Rule C_BookError C_NoNumber C_NoRule C_Backward : Addr}
theorem qca (T : Txt K mg C_Roll C_Rule C_BookError C_NoNumber C_NoRule C_Backward) : MetOk P w K mg base C_Roll 1 "rule" ["self"] (sp_rrule C_Roll C_Rule) := by
 obtain ⟨f, fd, F, hm⟩ := T.f_Roll_rule
 have nd := sc_Roll_rule.nd
 refine ⟨f, fd, (F.ok sc_Roll_rule (fun vs H Q E h => ?_) (fun cdv A outer s H vs Q E hr h => ?_)), hm, (F.binds fun _ _ _ _ _ _ us hl => by obtain ⟨_, rfl⟩ := L2.lq1 hl; rfl)⟩
 ·obtain ⟨ro, D, rfl, _⟩ := h; rfl
 ·obtain ⟨ro, D, rfl, A', q⟩ := h
  obtain ⟨dx, hob⟩ := A'.ob
  refine ⟨_, (qaf (qar (qcb (pv 0) rfl))), ?_⟩
  exact ⟨_, rfl, ro, C_Roll, dx, _, _, rfl, hob, T.cl_Roll, T.na_Roll_kept_rule, rof_kr _ _ _ _ _, q⟩
theorem qd2 (T : Txt K mg C_Roll C_Rule C_BookError C_NoNumber C_NoRule C_Backward) : MetOk P w K mg base C_Roll 1 "day" ["self"] (sp_rday C_Roll C_Rule) := by
 obtain ⟨f, fd, F, hm⟩ := T.f_Roll_day
 have nd := sc_Roll_day.nd
 refine ⟨f, fd, (F.ok sc_Roll_day (fun vs H Q E h => ?_) (fun cdv A outer s H vs Q E hr h => ?_)), hm, (F.binds fun _ _ _ _ _ _ us hl => by obtain ⟨_, rfl⟩ := L2.lq1 hl; rfl)⟩
 ·obtain ⟨ro, D, rfl, _⟩ := h; rfl
 ·obtain ⟨ro, D, rfl, A', q⟩ := h
  obtain ⟨dx, hob⟩ := A'.ob
  refine ⟨_, (qaf (qar (qcb (pv 0) rfl))), ?_⟩
  exact ⟨_, rfl, ro, C_Roll, dx, _, _, rfl, hob, T.cl_Roll, T.na_Roll_kept_day, rof_kd _ _ _ _ _, q⟩
theorem qc5 (T : Txt K mg C_Roll C_Rule C_BookError C_NoNumber C_NoRule C_Backward) : MetOk P w K mg base C_Roll 1 "edges" ["self"] (sp_redges C_Roll C_Rule) := by
 obtain ⟨f, fd, F, hm⟩ := T.f_Roll_edges
 have nd := sc_Roll_edges.nd
 refine ⟨f, fd, (F.ok sc_Roll_edges (fun vs H Q E h => ?_) (fun cdv A outer s H vs Q E hr h => ?_)), hm, (F.binds fun _ _ _ _ _ _ us hl => by obtain ⟨_, rfl⟩ := L2.lq1 hl; rfl)⟩
 ·obtain ⟨ro, D, rfl, _⟩ := h; rfl
 ·obtain ⟨ro, D, rfl, A', q⟩ := h
  obtain ⟨dx, hob⟩ := A'.ob
  refine ⟨_, (qaf (qar (qcc qbz rfl T.b_list qd5 (qaa (qcb (pv 0) rfl) qae)))), ?_⟩
  exact ⟨_, rfl, ro, C_Roll, dx, _, _, rfl, hob, T.cl_Roll, T.na_Roll_kept_edges, rof_ke _ _ _ _ _, D.le, _, rfl, .inl (SqL.of A'.ed), q⟩
end
section
variable {P : Program} {w : World} {K : Frag} {mg : Str -> Option Value} {base : Heap} {C_Roll C_Rule C_BookError C_NoNumber C_NoRule C_Backward : Addr}
theorem zv_iff {H : Hp} {D : qa1} {s : Abs} {LY LZ : List (List Int)} (h : RAbs H D s LY LZ) (k : List Int) : valV D.Z (kI k) ≠ none ↔ s.z k ≠ none := by
 cases e : s.z k with
 | none => simp [h.zn k e]
 | some p => obtain ⟨a, e1, _⟩ := h.zs k p e; rw [e1]; simp
theorem D_Roll_young (T : Txt K mg C_Roll C_Rule C_BookError C_NoNumber C_NoRule C_Backward) : MetOk P w K mg base C_Roll 1 "young" ["self"] (sp_ryoung C_Roll C_Rule) := by
 obtain ⟨f, fd, F, hm⟩ := T.f_Roll_young
 have nd := sc_Roll_young.nd
 refine ⟨f, fd, (F.ok sc_Roll_young (fun vs H Q E h => ?_) (fun cdv A outer s H vs Q E hr h => ?_)), hm, (F.binds fun _ _ _ _ _ _ us hl => by obtain ⟨_, rfl⟩ := L2.lq1 hl; rfl)⟩
 ·obtain ⟨ro, D, ab, LY, LZ, rfl, _⟩ := h; rfl
 ·obtain ⟨ro, D, ab, LY, LZ, rfl, A', RA, hL, q⟩ := h
  obtain ⟨dx, hob⟩ := A'.ob
  obtain ⟨ks, dk, hks⟩ := RA.yk
  have hkl : ks.length < 64 := Nat.lt_of_le_of_lt (List.Nodup.length_le_of_subset dk.nd hks) hL
  refine ⟨_, (qaf (qar (pe_lc (vars := ["key"]) (frees := ["self"]) (fv := [0]) rfl (lcOk rfl rfl (by decide +kernel) (by decide +kernel) (by intro p hp; simp only [List.mem_cons, List.not_mem_nil, or_false] at hp; rcases hp with rfl <;> rfl) rfl) ⟨⟨rfl, .inl rfl, rfl, .inl rfl⟩, trivial⟩ (qbr (qay (call_sortedD rfl) rfl T.b_sorted bt_sorted (qaa (qcb (pv 0) rfl) qae))) (gk_name (by decide)) (fun _ _ _ _ => (qaj (i := 0) (show (["key", "self"] : List Str).Nodup by decide +kernel) rfl (Or.inl rfl))) (fun _ _ _ _ => qby) (fun _ _ _ _ => (qak (show OpR _ _ (rCatTN K) from op_catTN) (pv 0) (qa5 (qaa (pe_dget (by exact hu_of hr) (show PE _ _ (tFld K _ _) from qcb (pv 1) rfl) (pv 0) (fun _ _ => rfl)) qae))))))), ?_⟩
  refine ⟨_, rfl, ro, C_Roll, dx, _, _, rfl, hob, T.cl_Roll, T.na_Roll_whole_ones, rof_wo _ _ _ _ _, D.dy, D.Y, ks, rfl, A'.yo, dk.eq, hkl, dk.nd, dk.ne', fun ms zs l1 H1 pm sm tz n1 => ?_⟩
  have sk : SKeys ab.y ms := SKeys.ofD dk (fun k => by rw [RA.yv]; cases ab.y k <;> simp) pm sm
  have hml : ms.length = ks.length := pm.length_eq
  have tz1 : Tups H1 zs ms := Tups.same n1.same (show Tups H zs ms from tz)
  have hzl := tz1.length
  refine ⟨l1, rfl, ⟨_, SqL.of n1.at_⟩, qd8 (xs := zs) (fun i ys H2 => Same H1 H2 /\ Tups H2 ys ((ms.take i).map (yRow ab))) (Nat.le_of_lt (qaw (by omega))) ⟨Same.refl _, .nil⟩ (fun i ys H2 h2 => ⟨SqL.of (h2.1 _ _ n1.at_), by have := h2.2.length; rw [this, List.length_map, List.length_take]; omega⟩) ?_ ?_⟩
  ·rintro i x ys H2 hi ⟨s2, ty⟩
   obtain ⟨k, hki, b, rfl, hb⟩ := tz1.get hi
   have hkm : k ∈ ms := List.mem_of_getElem? hki
   have hk2 := dk.ne k (pm.mem_iff.mp hkm)
   have s02 := n1.same.trans s2
   have A2 := A'.same s02
   have hb2 := s2 _ _ hb
   obtain ⟨n, hn⟩ : ∃ n, ab.y k = some n := by
    cases e : ab.y k with
    | none => exact absurd e ((sk.mem k).mp hkm)
    | some n => exact ⟨n, rfl⟩
   have hv : valV D.Y (kI k) = some (.int n) := by rw [RA.yv, hn]; rfl
   refine gname_ (yes_ (iteT ?_))
   refine ⟨_, rfl, _, rfl, ro, C_Roll, dx, _, _, rfl, s02 _ _ hob, T.cl_Roll, T.na_Roll_whole_ones, rof_wo _ _ _ _ _, _, rfl, D.dy, .int n, rfl, ?_, (by show 1 <= sizeLine; decide), fun p3 H3 n3 => ?_⟩
   ·have := DGet.t (k := kI k) A2.yo (by rw [kI_kV]; exact hb2)
    rw [hv] at this
    exact this
   ·refine ⟨b, p3, _, _, rfl, rfl, SqT.of (n3.same _ _ hb2), SqT.of n3.at_, (by intro z; have := congrArg List.length z; rw [List.length_map, hk2] at this; cases this), (by intro z; cases z), (by rw [List.length_map, hk2]; show 2 + 1 <= sizeLine; decide), fun p4 H4 n4 => ?_⟩
    have s4 := n3.same.trans n4.same
    refine ⟨s2.trans s4, ?_⟩
    rw [takeN _ i _ hki, List.map_append]
    refine Tups.snoc ⟨p4, rfl, ?_⟩ (ty.same s4)
    rw [n4.at_]
    show some (HO.tup (k.map V.int ++ [V.int n])) = some (.tup ((k ++ [(ab.y k).getD 0]).map V.int))
    rw [hn, List.map_append]; rfl
  ·rintro ys H2 l3 H3 ⟨s2, ty⟩ n3
   rw [hzl, List.take_length] at ty
   exact q l3 ys ms H3 (n1.same.trans (s2.trans n3.same)) ((n1.same.trans s2).free n3.fresh) n3.at_ sk (by omega) (ty.same n3.same)
theorem D_Roll_heaps (T : Txt K mg C_Roll C_Rule C_BookError C_NoNumber C_NoRule C_Backward) : MetOk P w K mg base C_Roll 1 "heaps" ["self"] (sp_rheaps C_Roll C_Rule) := by
 obtain ⟨f, fd, F, hm⟩ := T.f_Roll_heaps
 have nd := sc_Roll_heaps.nd
 refine ⟨f, fd, (F.ok sc_Roll_heaps (fun vs H Q E h => ?_) (fun cdv A outer s H vs Q E hr h => ?_)), hm, (F.binds fun _ _ _ _ _ _ us hl => by obtain ⟨_, rfl⟩ := L2.lq1 hl; rfl)⟩
 ·obtain ⟨ro, D, ab, LY, LZ, rfl, _⟩ := h; rfl
 ·obtain ⟨ro, D, ab, LY, LZ, rfl, A', RA, hL, q⟩ := h
  obtain ⟨dx, hob⟩ := A'.ob
  obtain ⟨ks, dk, hks⟩ := RA.zk
  have hkl : ks.length < 64 := Nat.lt_of_le_of_lt (List.Nodup.length_le_of_subset dk.nd hks) hL
  refine ⟨_, (qaf (qar (pe_lc (vars := ["cell"]) (frees := ["self"]) (fv := [0]) rfl (lcOk rfl rfl (by decide +kernel) (by decide +kernel) (by intro p hp; simp only [List.mem_cons, List.not_mem_nil, or_false] at hp; rcases hp with rfl <;> rfl) rfl) ⟨⟨rfl, .inl rfl, rfl, .inl rfl⟩, trivial⟩ (qbr (qay (call_sortedD rfl) rfl T.b_sorted bt_sorted (qaa (qcb (pv 0) rfl) qae))) (gk_name (by decide)) (fun _ _ _ _ => (qaj (i := 0) (show (["cell", "self"] : List Str).Nodup by decide +kernel) rfl (Or.inl rfl))) (fun _ _ _ _ => qby) (fun _ _ _ _ => (qak (show OpR _ _ (rCatTN K) from op_catTN) (pv 0) (pe_dget (by exact hu_of hr) (show PE _ _ (tFld K _ _) from qcb (pv 1) rfl) (pv 0) (fun _ _ => rfl))))))), ?_⟩
  refine ⟨_, rfl, ro, C_Roll, dx, _, _, rfl, hob, T.cl_Roll, T.na_Roll_cell_heaps, rof_ch _ _ _ _ _, D.dh, D.Z, ks, rfl, A'.he, dk.eq, hkl, dk.nd, dk.ne', fun ms zs l1 H1 pm sm tz n1 => ?_⟩
  have sk : SKeys ab.z ms := SKeys.ofD dk (fun k => zv_iff RA k) pm sm
  have hml : ms.length = ks.length := pm.length_eq
  have tz1 : Tups H1 zs ms := Tups.same n1.same (show Tups H zs ms from tz)
  have hzl := tz1.length
  refine ⟨l1, rfl, ⟨_, SqL.of n1.at_⟩, qd8 (xs := zs) (fun i ys H2 => Same H1 H2 /\ Tups H2 ys ((ms.take i).map (zRow ab))) (Nat.le_of_lt (qaw (by omega))) ⟨Same.refl _, .nil⟩ (fun i ys H2 h2 => ⟨SqL.of (h2.1 _ _ n1.at_), by have := h2.2.length; rw [this, List.length_map, List.length_take]; omega⟩) ?_ ?_⟩
  ·rintro i x ys H2 hi ⟨s2, ty⟩
   obtain ⟨k, hki, b, rfl, hb⟩ := tz1.get hi
   have hkm : k ∈ ms := List.mem_of_getElem? hki
   have hk2 := dk.ne k (pm.mem_iff.mp hkm)
   have s02 := n1.same.trans s2
   have A2 := A'.same s02
   have hb2 := s2 _ _ hb
   obtain ⟨n, hn⟩ : ∃ n, ab.z k = some n := by
    cases e : ab.z k with
    | none => exact absurd e ((sk.mem k).mp hkm)
    | some n => exact ⟨n, rfl⟩
   obtain ⟨hh, hv, hht⟩ := RA.zs k n hn
   refine gname_ (yes_ (iteT ?_))
   refine ⟨_, rfl, _, rfl, ro, C_Roll, dx, _, _, rfl, s02 _ _ hob, T.cl_Roll, T.na_Roll_cell_heaps, rof_ch _ _ _ _ _, ?_⟩
   refine ⟨_, rfl, D.dh, .ref hh, rfl, ?_, ?_⟩
   ·have := DGet.t (k := kI k) A2.he (by rw [kI_kV]; exact hb2)
    rw [hv] at this
    exact this
   ·refine ⟨b, hh, _, _, rfl, rfl, SqT.of hb2, SqT.of (s02 _ _ hht), (by intro z; have := congrArg List.length z; rw [List.length_map, hk2] at this; cases this), (by intro z; cases z), (by rw [List.length_map, hk2]; show 2 + 4 <= sizeLine; decide), fun p4 H4 n4 => ?_⟩
    refine ⟨s2.trans n4.same, ?_⟩
    rw [takeN _ i _ hki, List.map_append]
    refine Tups.snoc ⟨p4, rfl, ?_⟩ (ty.same n4.same)
    rw [n4.at_]
    show some (HO.tup (k.map V.int ++ v4 n)) = some (.tup ((k ++ i4 ((ab.z k).getD (0, 0, 0, 0))).map V.int))
    rw [hn, List.map_append]; rfl
  ·rintro ys H2 l3 H3 ⟨s2, ty⟩ n3
   rw [hzl, List.take_length] at ty
   exact q l3 ys ms H3 (n1.same.trans (s2.trans n3.same)) ((n1.same.trans s2).free n3.fresh) n3.at_ sk (by omega) (ty.same n3.same)
end
section
variable {P : Program} {w : World} {K : Frag} {mg : Str -> Option Value} {base : Heap} {C_Roll C_Rule C_BookError C_NoNumber C_NoRule C_Backward : Addr}
theorem D_Roll_take_heap (T : Txt K mg C_Roll C_Rule C_BookError C_NoNumber C_NoRule C_Backward) : MetOk P w K mg base C_Roll 4 "take_heap" ["self", "start", "heap"] (sp_rtake C_Roll C_Rule) := by
 obtain ⟨f, fd, F, hm⟩ := T.f_Roll_take_heap
 have nd := sc_Roll_take_heap.nd
 refine ⟨f, fd, (F.ok sc_Roll_take_heap (fun vs H Q E h => ?_) (fun cdv A outer s H vs Q E hr h => ?_)), hm, (F.binds fun _ _ _ _ _ _ us hl => by obtain ⟨_, _, _, rfl⟩ := L2.lq3 hl; rfl)⟩
 ·obtain ⟨ro, c, s, LY, LZ, a, h, x, rfl, _⟩ := h; rfl
 ·obtain ⟨ro, c, s', LY, LZ, a, h, x, rfl, ⟨Y, Z, A', B'⟩, ok, ha, hh, lz, hz, q⟩ := h
  obtain ⟨dx, hob⟩ := A'.ob
  refine ⟨_, (qac (qas (i := 3) nd rfl (Or.inl rfl) (qa4 (D_cell_at T) (hr.mono (by decide)) rfl (qaa (qcb (pv 0) rfl) (qaa (qcb (pv 0) rfl) (qaa (pv 1) qae))))) (qaf (qbl (qat op_notN (pv 3) qb1 (qax _)) (qaf (qbi (pe_mt (pv 0) T.cl_Roll (qc4 T) (hr.mono (by decide)) (qaa (pv 3) (qaa (pv 2) qae)))))
    qa0))), ?_⟩
  have lo := ok.pr.good.lo
  refine ⟨_, rfl, ro, C_Roll, dx, _, _, rfl, hob, T.cl_Roll, T.na_Roll_kept_rule, rof_kr _ _ _ _ _, _, rfl, ro, C_Roll, dx, _, _, rfl, hob, T.cl_Roll, T.na_Roll_kept_edges, rof_ke _ _ _ _ _, _, rfl, c.ru, c.rl, c.ps, c.g, c.le, c.es, c.ge, a, rfl, A'.rule, A'.ed, ok.es, lo, ok.pr.good.hi, ok.pr.size, ha, fun cv o H1 hc cat s1 => ?_⟩
  have hob1 := s1 _ _ hob
  have A1 := A'.same s1
  have eo : cellD c a = o := cellF_eq (by rw [ok.es]; exact lo) hc
  cases o with
  | none =>
   cases (show cv = .non from cat)
   walk_at "r"
   refine q H1 ?_ fun b o e _ _ => s1 _ _ e
   unfold qdv
   rw [eo]
   exact ⟨Y, Z, A1, B'.same s1⟩
  | some p =>
   obtain ⟨cc, rfl, hcv⟩ := cat
   obtain ⟨b, w'⟩ := p
   have B1 := B'.same s1
   walk_at "r"
   refine ⟨ro, dx, _, rfl, hob1, rof_pour _ _ _ _ _, _, rfl, _, rfl, ?_⟩
   walk_at "n"
   refine ⟨ro, _, cc, h, b, w', x, rfl, A1, hcv, s1 _ _ hh, B1.ZOk, Nat.le_trans B1.zlen (by omega), fun h2 y H2 hh2 po A2 b2 => ?_⟩
   show Q _ _
   have bb : But2 c.dy c.dh H H2 := fun z o e _ n2 => b2 _ _ (s1 _ _ e) n2
   refine q H2 ?_ bb
   unfold qdv
   rw [eo]
   exact ⟨Y, _, A2, B1.pour po hh2 (fun z xs e => b2 _ _ e (qbk e A1.he (by intro z; cases z))) (hz b w' eo)⟩
theorem qcl (T : Txt K mg C_Roll C_Rule C_BookError C_NoNumber C_NoRule C_Backward) : MetOk P w K mg base C_Roll 5 "take_all" ["self", "roll"] (sp_rtakeall C_Roll C_Rule) := by
 obtain ⟨f, fd, F, hm⟩ := T.f_Roll_take_all
 have nd := sc_Roll_take_all.nd
 refine ⟨f, fd, (F.ok sc_Roll_take_all (fun vs H Q E h => ?_) (fun cdv A outer s H vs Q E hr h => ?_)), hm, (F.binds fun _ _ _ _ _ _ us hl => by obtain ⟨_, _, rfl⟩ := L2.lq2 hl; rfl)⟩
 ·obtain ⟨ro, r2, c, c2, s, s2, LY, LZ, LY2, LZ2, rfl, _⟩ := h; rfl
 ·obtain ⟨ro, r2, c, c2, s', s2, LY, LZ, LY2, LZ2, rfl, R1, R2, ok, ap, ly, lz, ly2, lz2, tk, q⟩ := h
  obtain ⟨dx, hob⟩ := R1.obj
  obtain ⟨dx2, hob2⟩ := R2.obj
  refine ⟨_, (qac (qdt PassesOwn.never rfl (qbr (qbb (pv 1) T.cl_Roll (D_Roll_young T) (hr.mono (by decide)))) (qb2 rfl (qal (qaj (i := 2) nd rfl (Or.inl rfl)) (qal (qaj (i := 3) nd rfl (Or.inl rfl)) (qal (qaj (i := 4) nd rfl (Or.inl rfl)) qbf)))) (qaf (qbi (pe_mtD (pv 0) T.cl_Roll (D_Roll_put_3 T) (hr.mono (by decide)) .nil (qaa (pv 2) (qaa (pv 3) (qaa (pv 4) qae))))))) (qaf (qdt PassesOwn.never rfl (qbr (qbb (pv 1) T.cl_Roll (D_Roll_heaps T) (hr.mono (by decide)))) (qaj (i := 5) nd rfl (Or.inl rfl)) (qaf (qbi (pe_mt (pv 0) T.cl_Roll (D_Roll_take_heap T) (hr.mono (by decide)) (qaa (qai qav (pv 5) qab (fun _ _ => rfl)) (qaa (pe_slice sl_tup (pv 5) (po_some qab) po_none) qae)))))))), ?_⟩
  refine ⟨_, rfl, r2, dx2, _, rfl, hob2, rof_young _ _ _ _ _, ?_⟩
  walk_at "n"
  refine R2.young ly2 fun l xs H1 s1 f1 hl tl kl => ?_
  have R1a := R1.same s1
  obtain ⟨⟨Y1, hY1⟩, ⟨Z1, hZ1⟩⟩ := R1a.dicts
  refine ⟨l, rfl, ⟨_, SqL.of hl⟩, for_list (D := { nx := _, rt := Q }) (xs := xs) (fun i σ H3 => But2 c.dy c.dh H1 H3 /\ RR C_Roll C_Rule H3 ro c (((qbu s2).take i).foldl (qcn (cellD c)) s') LY LZ /\ ∃ v3 v4 v5 : Option V, σ = [some (.ref ro), some (.ref r2), v3, v4, v5, none]) ⟨But2.refl _ _ _, R1a, none, none, none, rfl⟩ (fun i σ H3 _ h3 => SqL.of (h3.1.keep hY1 hZ1 hl (by intro K z; cases z))) ?_ ?_⟩
  ·rintro i x σ H3 hxi ⟨b3, R3, v3, v4, v5, rfl⟩
   obtain ⟨r', hr', ta, rfl, hta⟩ := tl.get hxi
   obtain ⟨t, v, m, rfl, rok, hy, hz⟩ := tk.y r' (List.mem_of_getElem? hr')
   have hta3 := b3.keep hY1 hZ1 hta (by intro K z; cases z)
   obtain ⟨dx3, hob3⟩ := R3.obj
   refine ⟨ta, _, rfl, SqT.of hta3, rfl, _, _, rfl, _, _, rfl, _, _, rfl, rfl, ?_⟩
   refine ⟨_, rfl, ro, dx3, _, rfl, hob3, rof_put _ _ _ _ _, _, rfl, _, rfl, _, rfl, ?_⟩
   walk_at "n"
   refine R3.put ok rok.1 rok.2.2.1 rok.2 ly lz hy hz fun H4 R4 b4 => ?_
   refine ⟨b3.trans b4, ?_, _, _, _, rfl⟩
   rw [takeN _ i _ hr', List.foldl_append]
   exact R4
  ·rintro σ H3 ⟨b3, R3, v3, v4, v5, rfl⟩
   rw [tl.length, List.take_length] at R3
   have R2' := (R2.same s1).frame b3 hY1 hZ1 ap.1 ap.2.1 ap.2.2.1 ap.2.2.2
   obtain ⟨dx4, hob4⟩ := R2'.obj
   refine ⟨_, rfl, r2, dx4, _, rfl, hob4, rof_heaps _ _ _ _ _, ?_⟩
   walk_at "n"
   refine R2'.heaps lz2 fun l4 xs4 H4 s4 f4 hl4 tl4 kl4 => ?_
   have R4 := R3.same s4
   obtain ⟨⟨Y4, hY4⟩, ⟨Z4, hZ4⟩⟩ := R4.dicts
   have b04 : But2 c.dy c.dh H H4 := fun z o e n1 n2 => s4 _ _ (b3 _ _ (s1 _ _ e) n1 n2)
   refine ⟨l4, rfl, ⟨_, SqL.of hl4⟩, for_list (D := { nx := _, rt := Q }) (xs := xs4) (fun i σ H5 => But2 c.dy c.dh H4 H5 /\ RR C_Roll C_Rule H5 ro c (((qb4 s2).take i).foldl (qbv (cellD c)) ((qbu s2).foldl (qcn (cellD c)) s')) LY LZ /\ ∃ v6 : Option V, σ = [some (.ref ro), some (.ref r2), v3, v4, v5, v6]) ⟨But2.refl _ _ _, R4, none, rfl⟩ (fun i σ H5 _ h5 => SqL.of (h5.1.keep hY4 hZ4 hl4 (by intro K z; cases z))) ?_ ?_⟩
   ·rintro i x σ H5 hxi ⟨b5, R5, v6, rfl⟩
    obtain ⟨r', hr', ta, rfl, hta⟩ := tl4.get hxi
    obtain ⟨a, w', m, t, lo, hi, rfl, ha, hz⟩ := tk.z r' (List.mem_of_getElem? hr')
    have hta5 := b5.keep hY4 hZ4 hta (by intro K z; cases z)
    obtain ⟨dx5, hob5⟩ := R5.obj
    walk_at "r"
    refine ⟨ro, dx5, _, rfl, hob5, rof_no _ _ _ _ _ (by decide +kernel) (by decide +kernel) (by decide +kernel) (by decide +kernel) (by decide +kernel), ?_⟩
    walk_at "r"
    refine ⟨fun z => by have z1 : HT.sIx 6 0 (some 2) = 0 := z.1; revert z1; decide, fun p hp => ?_⟩
    have n6 : New H5 (upd H5 p (.tup (cutV (List.map V.int [a, w', m, t, lo, hi]) (some 2) none))) p (.tup (TB.v4 (m, t, lo, hi))) := qbd hp
    walk_at "n"
    refine ⟨ro, c, _, LY, LZ, a, p, (m, t, lo, hi), rfl, R5.same n6.same, ok, ha, n6.at_, lz, hz, fun H7 R7 b7 => ?_⟩
    refine ⟨fun z o e n1 n2 => b7 _ _ (n6.same _ _ (b5 _ _ e n1 n2)) n1 n2, ?_, _, rfl⟩
    rw [takeN _ i _ hr', List.foldl_append]
    exact R7
   ·rintro σ H5 ⟨b5, R5, v6, rfl⟩
    rw [tl4.length, List.take_length] at R5
    exact q H5 R5 (b04.trans b5)
end
section
variable {P : Program} {w : World} {K : Frag} {mg : Str -> Option Value} {base : Heap} {C_Roll C_Rule C_BookError C_NoNumber C_NoRule C_Backward : Addr}
theorem qc6 (T : Txt K mg C_Roll C_Rule C_BookError C_NoNumber C_NoRule C_Backward) : qbs P w K mg base 1 "_law_edges" ["_law_rows", "_law_end", "_law_today"] sp_ledg := by
 obtain ⟨f, fd, F, hm⟩ := T.f__law_edges
 have nd := sc__law_edges.nd
 refine F.def_ hm (F.ok sc__law_edges (fun vs H Q E h => ?_) (fun cdv A outer s H vs Q E hr h => ?_)) (F.binds fun _ _ _ _ _ _ us hl => by obtain ⟨_, _, _, rfl⟩ := L2.lq3 hl; rfl)
 ·obtain ⟨l, xs, ps, g, d, rfl, _⟩ := h; rfl
 ·obtain ⟨l, xs, ps, g, d, rfl, hl, hx, Pg, hd, q⟩ := h
  have hlen := hx.length
  have h5 := Pg.good.hi
  obtain ⟨p, hp, ep⟩ := Pg.last
  refine ⟨_, (qac (qd6 (i := 3) (vars := ["_law_age", "_law_width"]) (frees := ["_law_today"]) (fv := [2]) nd rfl (Or.inl rfl) rfl (lcOk rfl rfl (by decide +kernel) (by decide +kernel) (by intro p hp; simp only [List.mem_cons, List.not_mem_nil, or_false] at hp; rcases hp with rfl <;> rfl) rfl) ⟨⟨rfl, .inl rfl, rfl, .inl rfl⟩, trivial⟩ (qbr (pv 0)) (qdr (by decide) (by decide)) (fun _ _ _ _ => (qb2 rfl (qal (qaj (i := 0) (show (["_law_age", "_law_width", "_law_today"] : List Str).Nodup by decide +kernel) rfl (Or.inl rfl)) (qal (qaj (i := 1) (show (["_law_age", "_law_width", "_law_today"] : List Str).Nodup by decide +kernel) rfl (Or.inl rfl)) qbf)))) (fun _ _ _ _ => qby) (fun _ _ _ _ => (qak op_mulB (qak op_fdivB (qak qcs (pv 2) (pv 0)) (pv 1)) (pv 1)))) (qac (qbl (qat op_isN (pv 1) qb1 (qax _)) (qaf (qar (qak op_catN (pv 3) (qa6 (qaa qb1 qae)))))
    qa0) (qaf (qar (qak op_catN (pv 3) (qa6 (qaa (qak op_mulB (qak op_fdivB (qak qcs (pv 2) (pv 1)) (qai qav (qai qah (pv 0) (pe_un un_neg qab) (fun _ _ => rfl)) qab (fun _ _ => rfl))) (qai qav (qai qah (pv 0) (pe_un un_neg qab) (fun _ _ => rfl)) qab (fun _ _ => rfl))) qae))))))), ?_⟩
  refine ⟨_, rfl, l, rfl, ⟨_, SqL.of hl⟩, qd8 (xs := xs) (fun i ys H2 => Same H H2 /\ ys = (ps.take i).map fun p => V.int (cut d p.1 p.2)) (Nat.le_of_lt (qaw (by omega))) ⟨Same.refl _, rfl⟩ (fun i ys H2 h2 => ⟨SqL.of (h2.1 _ _ hl), by rw [h2.2]; simp; omega⟩) ?_ ?_⟩
  ·rintro i x ys H2 hi ⟨s2, rfl⟩
   obtain ⟨p, hpi, a, rfl, ha⟩ := hx.get hi
   have hs := Pg.size i p hpi
   unfold Bd at hd
   have hb := div_b (x := d - p.1) (B := 10 ^ 46) hs.2.2.1 (by decide) (by omega) (by omega)
   refine ⟨a, _, rfl, SqT.of (s2 _ _ ha), rfl, _, _, rfl, _, _, rfl, rfl, yes_ (iteT ?_)⟩
   refine ⟨_, rfl, _, rfl, _, _, rfl, rfl, _, rfl, _, _, rfl, rfl, ⟨by show 0 < p.2; omega, by show p.2 < _; omega⟩, _, rfl, _, _, rfl, rfl, ⟨⟨by omega, by omega⟩, by omega, by omega⟩, s2, ?_⟩
   exact (mapN _ ps i p hpi).symm
  ·rintro ys H2 c1 H3 ⟨s2, rfl⟩ n3
   rw [hlen, List.take_length] at n3
   have s3 : Same H H3 := s2.trans n3.same
   cases g with
   | none =>
    refine ⟨_, rfl, rfl, _, rfl, iteT ?_⟩
    walk_at "r"; intro c2 H4 n4
    refine ⟨c1, c2, _, _, rfl, rfl, n4.same _ _ n3.at_, n4.at_, Nat.le_of_lt (qaw (by simp; omega)), fun z H6 n6 => ?_⟩
    exact q z H6 (New.after (s3.trans n4.same) n6)
   | some z =>
    refine ⟨_, rfl, rfl, _, rfl, iteF ?_⟩
    obtain ⟨v, hv, a, rfl, ha⟩ := hx.get' hp
    have hz := Pg.gb z rfl
    have hs := Pg.size _ p hp
    unfold Bd at hd
    have hb := div_b (x := d - z) (B := 10 ^ 46) hs.2.2.1 (by decide) (by omega) (by omega)
    have hat : atI xs (-1) = some (.ref a) := atI_m1 (by rw [hlen]; exact hv)
    walk_at "r"; intro c2 H4 n4
    refine ⟨c1, c2, _, _, rfl, rfl, n4.same _ _ n3.at_, n4.at_, Nat.le_of_lt (qaw (by simp; omega)), fun y H6 n6 => ?_⟩
    have e : eV ps (some z) d = (ps.map fun p => V.int (cut d p.1 p.2)) ++ [V.int ((d - z) / p.2 * p.2)] := by
     show (ps.map fun p => V.int (cut d p.1 p.2)) ++ [V.int (cut d z (lw ps))] = _
     rw [ep]; rfl
    refine q y H6 ?_
    rw [e]
    exact New.after (s3.trans n4.same) n6
end
section
variable {P : Program} {w : World} {K : Frag} {mg : Str -> Option Value} {base : Heap} {C_Roll C_Rule C_BookError C_NoNumber C_NoRule C_Backward : Addr}
theorem qds (T : Txt K mg C_Roll C_Rule C_BookError C_NoNumber C_NoRule C_Backward) : qbs P w K mg base 1 "_law_cell_at" ["_law_script", "_law_k"] (sp_lcell K) := by
 obtain ⟨f, fd, F, hm⟩ := T.f__law_cell_at
 have nd := sc__law_cell_at.nd
 refine F.def_ hm (F.ok sc__law_cell_at (fun vs H Q E h => ?_) (fun cdv A outer s H vs Q E hr h => ?_)) (F.binds fun _ _ _ _ _ _ us hl => by obtain ⟨_, _, rfl⟩ := L2.lq2 hl; rfl)
 ·obtain ⟨a, ns, k, rfl, _⟩ := h; rfl
 ·obtain ⟨a, ns, k, rfl, hS, h0, q⟩ := h
  refine ⟨_, (qac (qbl (qat op_lt (pv 1) (qay qa3 rfl T.b_len bt_len (qaa (pv 0) qae)) (qax _)) (qaf (qar (qai qah (pv 0) (pv 1) (fun _ _ => rfl))))
    qa0) (qaf (qar qab))), ?_⟩
  walk_at "r"
  refine ite2 (fun z => ?_) fun z => ?_
  ·have z' : k < ns.length := by simpa using z
   have hk : k.toNat < ns.length := by omega
   have hi : atI (ns.map V.int) k = some (.int ns[k.toNat]) := by
    have := atI_nat (xs := ns.map V.int) (j := k.toNat) (v := V.int ns[k.toNat]) (by simp [hk])
    rwa [Int.toNat_of_nonneg h0] at this
   walk_at "r"; exact q _
  ·exact q 0
end
section
variable {P : Program} {w : World} {K : Frag} {mg : Str -> Option Value} {base : Heap} {C_Roll C_Rule C_BookError C_NoNumber C_NoRule C_Backward : Addr}
theorem D__law_mixed (T : Txt K mg C_Roll C_Rule C_BookError C_NoNumber C_NoRule C_Backward) : qbs P w K mg base 1 "_law_mixed" ["_law_cell", "_law_k"] sp_mix6 := by
 obtain ⟨f, fd, F, hm⟩ := T.f__law_mixed
 have nd := sc__law_mixed.nd
 refine F.def_ hm (F.ok sc__law_mixed (fun vs H Q E h => ?_) (fun cdv A outer s H vs Q E hr h => ?_)) (F.binds fun _ _ _ _ _ _ us hl => by obtain ⟨_, _, rfl⟩ := L2.lq2 hl; rfl)
 ·obtain ⟨c, k, rfl, _⟩ := h; rfl
 ·obtain ⟨c, k, rfl, q⟩ := h
  refine ⟨_, (qac (qas (i := 2) nd rfl (Or.inl rfl) (qak qbp (qak qdd (qak qbc (qak qbc (qak qbp (pv 0) qab) (qak qdd qab (pv 1))) qab) qab) qab)) (qac (qas (i := 2) nd rfl (Or.inl rfl) (qak qbp (qak qdd (pv 2) (qak qbc (qak qdq (pv 2) qab) qab)) qab)) (qaf (qar (qak qbp (qak qdd (qak qbc (pv 2) (qak qdd qab (pv 1))) (qak qbc (qak qdq (pv 2) qab) qab)) qab))))), ?_⟩
  walk_at "r"
  exact q _ (by omega) (by omega)
theorem D__law_amount (T : Txt K mg C_Roll C_Rule C_BookError C_NoNumber C_NoRule C_Backward) : qbs P w K mg base 1 "_law_amount" ["_law_kind", "_law_value"] sp_amt6 := by
 obtain ⟨f, fd, F, hm⟩ := T.f__law_amount
 have nd := sc__law_amount.nd
 refine F.def_ hm (F.ok sc__law_amount (fun vs H Q E h => ?_) (fun cdv A outer s H vs Q E hr h => ?_)) (F.binds fun _ _ _ _ _ _ us hl => by obtain ⟨_, _, rfl⟩ := L2.lq2 hl; rfl)
 ·obtain ⟨k, x, rfl, _⟩ := h; rfl
 ·obtain ⟨k, x, rfl, h0, h4, hx, q⟩ := h
  refine ⟨_, (qaf (qar (qai qah (qa6 (qaa qab (qaa (qak qbp (pv 1) qab) (qaa (qak qbp (pv 1) qab) (qaa (pv 1) qae))))) (pv 0) (fun _ _ => rfl)))), ?_⟩
  walk_at "r"; intro p H1 n1
  have hk : k = 0 \/ k = 1 \/ k = 2 \/ k = 3 := by omega
  rcases hk with rfl | rfl | rfl | rfl
  ·walk_at "r"; exact q _ _ (by omega) (by omega) n1.same
  ·walk_at "r"; exact q _ _ (by omega) (by omega) n1.same
  ·walk_at "r"; exact q _ _ (by omega) (by omega) n1.same
  ·walk_at "r"; exact q _ _ (by omega) (by omega) n1.same
theorem qc7 (T : Txt K mg C_Roll C_Rule C_BookError C_NoNumber C_NoRule C_Backward) : qbs P w K mg base 2 "_law_parts" ["_law_cell", "_law_bases"] sp_parts := by
 obtain ⟨f, fd, F, hm⟩ := T.f__law_parts
 have nd := sc__law_parts.nd
 refine F.def_ hm (F.ok sc__law_parts (fun vs H Q E h => ?_) (fun cdv A outer s H vs Q E hr h => ?_)) (F.binds fun _ _ _ _ _ _ us hl => by obtain ⟨_, _, rfl⟩ := L2.lq2 hl; rfl)
 ·obtain ⟨c, l, bs, rfl, _⟩ := h; rfl
 ·obtain ⟨c, l, bs, rfl, hl, hb, hz, q⟩ := h
  refine ⟨_, (qac (qas (i := 2) nd rfl (Or.inl rfl) (qa6 qae)) (qac (qas (i := 3) nd rfl (Or.inl rfl) (qak qdq (pv 0) qab)) (qac (qdt PassesOwn.never rfl (pi_enum rfl T.b_enumerate (qaa (pv 1) qae)) (qb2 rfl (qal (qaj (i := 4) nd rfl (Or.inl rfl)) (qal (qaj (i := 5) nd rfl (Or.inl rfl)) qbf))) (qaf (qbl (PW.pt (pw_and (qat op_eq (qak qbp (pv 0) qab) qab (qax _)) (pw_and1 (qat op_notIn_seq (pv 3) (qa5 (qaa qab (qaa (pe_un un_neg qab) qae))) rfl)))) (qac (qbi (pe_bm PySem.F.plainAttrs_list PySem.F.slot_list_append PySem.F.type_list_append qco (pv 2) (qaa (qak qbp (pv 3) (pv 5)) qae))) (qaf (qas (i := 3) nd rfl (Or.inl rfl) (qak op_fdivB (pv 3) (pv 5))))) (qaf (qbi (pe_bm PySem.F.plainAttrs_list PySem.F.slot_list_append PySem.F.type_list_append qco (pv 2) (qaa (qak qbp (qak qbc (qa4 (D__law_mixed T) (hr.mono (by decide)) rfl (qaa (qak qdq (pv 0) qab) (qaa (pv 4) qae))) (qak qdo (qa4 (D__law_mixed T) (hr.mono (by decide)) rfl (qaa (qak qdq (pv 0) qab) (qaa (qak qbc (pv 4) qab) qae))) qab)) (pv 5)) qae))))))) (qaf (qar (pv 2)))))), ?_⟩
  walk_at "r"; intro lf H1 n1
  have hl1 := n1.same _ _ hl
  walk_at "r"
  refine for_enumN (xs := bs.map V.int) (fun i σ H2 => Same H H2 /\ ∃ (ys : List Int) (r : Int) (v4 v5 : Option V), H2 lf = some (.lst (ys.map V.int)) /\ ys.length = i /\ (∀ (j : Nat) y b, ys[j]? = some y -> bs[j]? = some b -> 0 <= y /\ y < b) /\ σ = [some (.int c), some (.ref l), some (.ref lf), some (.int r), v4, v5]) ⟨n1.same, [], _, none, none, n1.at_, rfl, (fun j y b h => by simp at h), rfl⟩ (fun i σ H2 h2 => SqL.of (h2.1 _ _ hl)) ?_ ?_
  ·rintro i x σ H2 p H3 hxi n3 ⟨s2, ys, r, v4, v5, hlf, hy, hu, rfl⟩
   have hi : i < bs.length := by have := (List.getElem?_eq_some_iff.mp hxi).1; simpa using this
   rw [List.getElem?_map] at hxi
   obtain ⟨b, hbi, rfl⟩ := Option.map_eq_some_iff.mp hxi
   have bb := hb b (List.mem_of_getElem? hbi)
   have hlf3 := n3.same _ _ hlf
   have s3 : Same H H3 := s2.trans n3.same
   refine ⟨p, _, rfl, SqT.of n3.at_, rfl, _, _, rfl, _, _, rfl, rfl, ?_⟩
   clear n3 hlf
   walk_at "r"
   refine ite2 (fun z => ?_) fun z => ?_
   ·walk_at "r"; intro t H4 n4
    refine ⟨t, _, rfl, .inr (SqT.of n4.at_), rfl, rfl, ?_⟩
    have hlf4 := n4.same _ _ hlf3
    have s4 : Same H H4 := s3.trans n4.same
    walk_at "r"
    refine ite2 (fun z2 => ?_) fun z2 => ?_
    ·walk_at "r"; intro H6 b6 h6
     walk_at "r"
     refine ⟨b6.same s4 n1.fresh, ys ++ [r % b], r / b, _, _, by rw [List.map_append]; exact h6, by simp [hy], fun j y b' hyj hbj => ?_, rfl⟩
     rcases qcg hyj with hyj | ⟨e, rfl⟩
     ·exact hu j y b' hyj hbj
     ·rw [e, hy, hbi] at hbj
      cases hbj
      exact ⟨Int.emod_nonneg _ (by omega), Int.emod_lt_of_pos _ (by omega)⟩
    walk_at "r"; intro y1 y1a y1b
    walk_at "r"; intro y2 y2a y2b
    walk_at "r"
    intro H6 b6 h6
    refine ⟨b6.same s4 n1.fresh, ys ++ [(y1 + y2 ^ 7) % b], r, _, _, by rw [List.map_append]; exact h6, by simp [hy], fun j y b' hyj hbj => ?_, rfl⟩
    rcases qcg hyj with hyj | ⟨e, rfl⟩
    ·exact hu j y b' hyj hbj
    ·rw [e, hy, hbi] at hbj
     cases hbj
     exact ⟨Int.emod_nonneg _ (by omega), Int.emod_lt_of_pos _ (by omega)⟩
   ·refine iteF ?_
    walk_at "r"; intro y1 y1a y1b
    walk_at "r"; intro y2 y2a y2b
    walk_at "r"
    intro H6 b6 h6
    refine ⟨b6.same s3 n1.fresh, ys ++ [(y1 + y2 ^ 7) % b], r, _, _, by rw [List.map_append]; exact h6, by simp [hy], fun j y b' hyj hbj => ?_, rfl⟩
    rcases qcg hyj with hyj | ⟨e, rfl⟩
    ·exact hu j y b' hyj hbj
    ·rw [e, hy, hbi] at hbj
     cases hbj
     exact ⟨Int.emod_nonneg _ (by omega), Int.emod_lt_of_pos _ (by omega)⟩
  ·rintro σ H2 ⟨s2, ys, r, v4, v5, hlf, hy, hu, rfl⟩
   rw [List.length_map] at hy
   refine ⟨_, rfl, ?_⟩
   exact q lf ys H2 ⟨s2, n1.fresh, hlf⟩ ⟨hy, hu⟩
end
section
variable {P : Program} {w : World} {K : Frag} {mg : Str -> Option Value} {base : Heap} {C_Roll C_Rule C_BookError C_NoNumber C_NoRule C_Backward : Addr}
theorem D__law_ages (T : Txt K mg C_Roll C_Rule C_BookError C_NoNumber C_NoRule C_Backward) : qbs P w K mg base 2 "_law_ages" ["_law_parts_here", "_law_broad"] sp_ages6 := by
 obtain ⟨f, fd, F, hm⟩ := T.f__law_ages
 have nd := sc__law_ages.nd
 refine F.def_ hm (F.ok sc__law_ages (fun vs H Q E h => ?_) (fun cdv A outer s H vs Q E hr h => ?_)) (F.binds fun _ _ _ _ _ _ us hl => by obtain ⟨_, _, rfl⟩ := L2.lq2 hl; rfl)
 ·obtain ⟨l, xs, lw, ws, rfl, _⟩ := h; rfl
 ·obtain ⟨l, xs, lw, ws, rfl, hl, U, hlw, W, q⟩ := h
  have hwl := W.hi
  obtain ⟨x0, hx0, x0a, x0b⟩ := U.get (i := 0) (b := 3) rfl
  obtain ⟨x11, hx11, x11a, x11b⟩ := U.get (i := 11) (b := 4) rfl
  obtain ⟨x12, hx12, x12a, x12b⟩ := U.get (i := 12) (b := 10 ^ 21) rfl
  have at0 : atI (xs.map V.int) 0 = some (.int x0) := qbe hx0
  have at11 : atI (xs.map V.int) 11 = some (.int x11) := qbe hx11
  have at12 : atI (xs.map V.int) 12 = some (.int x12) := qbe hx12
  refine ⟨_, (qac (qas (i := 2) nd rfl (Or.inl rfl) (qa6 qae)) (qac (qas (i := 3) nd rfl (Or.inl rfl) qab) (qac (qdt PassesOwn.never rfl (pi_range1 rfl T.b_range (qaa (qay qa3 rfl T.b_len bt_len (qaa (pv 1) qae)) qae)) (qaj (i := 4) nd rfl (Or.inl rfl)) (qac (qas (i := 3) nd rfl (Or.inl rfl) (qak qbc (pv 3) (qa4 (D__law_amount T) (hr.mono (by decide)) rfl (qaa (qai qah (pv 0) (qak qbc qab (qak qdd qab (pv 4))) (fun _ _ => rfl)) (qaa (qai qah (pv 0) (qak qbc qab (qak qdd qab (pv 4))) (fun _ _ => rfl)) qae))))) (qaf (qbi (pe_bm PySem.F.plainAttrs_list PySem.F.slot_list_append PySem.F.type_list_append qco (pv 2) (qaa (qa5 (qaa (pv 3) (qaa (qai qah (pv 1) (pv 4) (fun _ _ => rfl)) qae))) qae)))))) (qac (qas (i := 5) nd rfl (Or.inl rfl) qb1) (qac (qbl (qat op_gt (qai qah (pv 0) qab (fun _ _ => rfl)) qab (qax _)) (qaf (qas (i := 5) nd rfl (Or.inl rfl) (qak qbc (pv 3) (qa4 (D__law_amount T) (hr.mono (by decide)) rfl (qaa (qai qah (pv 0) qab (fun _ _ => rfl)) (qaa (qai qah (pv 0) qab (fun _ _ => rfl)) qae))))))
    qa0) (qaf (qar (qa5 (qaa (pv 2) (qaa (pv 5) qae)))))))))), ?_⟩
  walk_at "r"; intro lf H1 n1
  have hlw1 := n1.same _ _ hlw
  walk_at "r"
  refine for_range (n := (ws.map V.int).length) (fun i σ H2 => Same H H2 /\ ∃ (age : Int) (ys : List V) (ps : List (Int × Int)) (v4 : Option V), H2 lf = some (.lst ys) /\ Pairs H2 ys ps /\ Ag ws i age ps /\ σ = [some (.ref l), some (.ref lw), some (.ref lf), some (.int age), v4, none]) ⟨n1.same, 0, [], [], none, n1.at_, .nil, Ag.zero ws, rfl⟩ ?_ ?_
  ·rintro i σ H2 hi ⟨s2, age, ys, ps, v4, hlf, hp, A, rfl⟩
   rw [List.length_map] at hi
   rw [Int.zero_add]
   have hl2 := s2 _ _ hl
   have hlw2 := s2 _ _ hlw
   obtain ⟨wa, wb⟩ := ageB_at (k := i) (by omega)
   obtain ⟨xa, hxa, a0, a4⟩ := U.get wa
   obtain ⟨xb, hxb, b0, b21⟩ := U.get wb
   have ata : atI (xs.map V.int) (1 + 2 * (i : Int)) = some (.int xa) := by have := qbe hxa; rw [show ((1 + 2 * i : Nat) : Int) = 1 + 2 * (i : Int) by omega] at this; exact this
   have atb : atI (xs.map V.int) (2 + 2 * (i : Int)) = some (.int xb) := by have := qbe hxb; rw [show ((2 + 2 * i : Nat) : Int) = 2 + 2 * (i : Int) by omega] at this; exact this
   obtain ⟨w', hw'⟩ : ∃ w', ws[i]? = some w' := ⟨_, List.getElem?_eq_getElem hi⟩
   have hwi := get_nat hw'
   have hlen := hp.length
   have hAl := A.len
   walk_at "r"
   intro y H3 y0 y1 s3
   have hlf3 := s3 _ _ hlf
   have hlw3 := s3 _ _ hlw2
   walk_at "r"; intro t H4 n4
   walk_at "r"; intro H5 b5 h5
   exact ⟨b5.same (s2.trans (s3.trans n4.same)) n1.fresh, age + y, ys ++ [.ref t], ps ++ [(age + y, w')], _, h5, Pairs.but (Pairs.snoc ⟨t, rfl, n4.at_⟩ ((hp.same s3).same n4.same)) b5 (n4.same _ _ hlf3) lst_nt, A.step hw' y0 (by omega), rfl⟩
  ·rw [List.length_map]
   rintro σ H2 ⟨s2, age, ys, ps, v4, hlf, hp, A, rfl⟩
   have hl2 := s2 _ _ hl
   walk_at "r"
   refine ite2 (fun z => ?_) fun z => ?_
   ·walk_at "r"
    intro y H3 y0 y1 s3
    walk_at "r"; intro t H4 n4
    obtain ⟨P1, P2⟩ := A.pr (g := some (age + y)) W (fun z hz => by cases hz; omega)
    exact q t lf ys ps (some (age + y)) H4 (s2.trans (s3.trans n4.same)) n4.at_ (n4.same _ _ (s3 _ _ hlf)) ((hp.same s3).same n4.same) P1 P2
   ·walk_at "r"; intro t H4 n4
    obtain ⟨P1, P2⟩ := A.pr (g := none) W (fun z hz => by cases hz)
    exact q t lf ys ps none H4 (s2.trans n4.same) n4.at_ (n4.same _ _ hlf) (hp.same n4.same) P1 P2
theorem D__law_widths (T : Txt K mg C_Roll C_Rule C_BookError C_NoNumber C_NoRule C_Backward) : qbs P w K mg base 1 "_law_widths" ["_law_parts_here"] sp_wid6 := by
 obtain ⟨f, fd, F, hm⟩ := T.f__law_widths
 have nd := sc__law_widths.nd
 refine F.def_ hm (F.ok sc__law_widths (fun vs H Q E h => ?_) (fun cdv A outer s H vs Q E hr h => ?_)) (F.binds fun _ _ _ _ _ _ us hl => by obtain ⟨_, rfl⟩ := L2.lq1 hl; rfl)
 ·obtain ⟨l, xs, r, rfl, _⟩ := h; rfl
 ·obtain ⟨l, xs, r, rfl, hl, U, q⟩ := h
  obtain ⟨x0, hx0, x0a, x0b⟩ := U.get (i := 0) (b := 5) rfl
  have at0 := qbe hx0
  refine ⟨_, (qac (qas (i := 1) nd rfl (Or.inl rfl) (qa6 (qaa qab qae))) (qac (qdt PassesOwn.never rfl (pi_range1 rfl T.b_range (qaa (qak qbc qab (qai qah (pv 0) qab (fun _ _ => rfl))) qae)) (qaj (i := 2) nd rfl (Or.inl rfl)) (qac (qas (i := 3) nd rfl (Or.inl rfl) (qai qah (pv 0) (qak qbc qab (qak qdd qab (pv 2))) (fun _ _ => rfl))) (qaf (qbi (pe_bm PySem.F.plainAttrs_list PySem.F.slot_list_append PySem.F.type_list_append qco (pv 1) (qaa (qak qdd (qai qah (pv 1) (pe_un un_neg qab) (fun _ _ => rfl)) (qak qbc qab (qai qah (qa6 (qaa qab (qaa (qak qbp (pv 3) qab) (qaa (pv 3) qae)))) (qai qah (pv 0) (qak qbc qab (qak qdd qab (pv 2))) (fun _ _ => rfl)) (fun _ _ => rfl)))) qae)))))) (qaf (qar (pe_slice sl_listN (pv 1) (po_some qab) po_none))))), ?_⟩
  walk_at "r"; intro lf H1 n1
  have hl1 := n1.same _ _ hl
  have at0' : atI (xs.map V.int) 0 = some (.int x0) := at0
  walk_at "r"
  refine for_range (n := (1 + x0).toNat) (fun i σ H2 => Same H H2 /\ ∃ (fs : List Int) (v3 v4 : Option V), H2 lf = some (.lst (fs.map V.int)) /\ Grow fs i /\ σ = [some (.ref l), some (.ref lf), v3, v4]) ⟨n1.same, [1], none, none, n1.at_, Grow.one, rfl⟩ ?_ ?_
  ·rintro i σ H2 hi ⟨s2, fs, v3, v4, hlf, G, rfl⟩
   rw [Int.zero_add]
   have hl2 := s2 _ _ hl
   obtain ⟨wa, wb⟩ := widB_at (k := i) (by omega) r
   obtain ⟨xa, hxa, a0, a3⟩ := U.get wa
   obtain ⟨xb, hxb, b0, b7⟩ := U.get wb
   have ata : atI (xs.map V.int) (1 + 2 * (i : Int)) = some (.int xa) := by have := qbe hxa; rw [show ((1 + 2 * i : Nat) : Int) = 1 + 2 * (i : Int) by omega] at this; exact this
   have atb : atI (xs.map V.int) (2 + 2 * (i : Int)) = some (.int xb) := by have := qbe hxb; rw [show ((2 + 2 * i : Nat) : Int) = 2 + 2 * (i : Int) by omega] at this; exact this
   obtain ⟨f, hf⟩ : ∃ f, fs[i]? = some f := ⟨_, List.getElem?_eq_getElem (by rw [G.len]; omega)⟩
   have hlast : (fs.map V.int)[(fs.map V.int).length - 1]? = some (.int f) := by rw [List.length_map, G.len]; exact get_nat hf
   have hGl := G.len
   walk_at "r"; intro l3 H3 n3
   have hl3 := n3.same _ _ hl2
   obtain ⟨c, hc, c0, c1⟩ : ∃ c, atI [V.int 0, V.int (xb % 12), V.int xb] xa = some (V.int c) /\ 0 <= c /\ c < 10 ^ 7 := by
    have hk : xa = 0 \/ xa = 1 \/ xa = 2 := by omega
    rcases hk with e | e | e <;> rw [e]
    ·exact ⟨_, rfl, by omega, by omega⟩
    ·exact ⟨_, rfl, by omega, by omega⟩
    ·exact ⟨_, rfl, by omega, by omega⟩
   walk_at "r"
   intro H4 b4 h4
   exact ⟨b4.same (s2.trans n3.same) n1.fresh, fs ++ [f * (1 + c)], _, _, by rw [List.map_append]; exact h4, G.step hf (by omega) (by omega), rfl⟩
  ·rintro σ H2 ⟨s2, fs, v3, v4, hlf, G, rfl⟩
   walk_at "r"; intro l3 H3 n3
   rw [cut1, <- List.map_drop] at n3
   exact q l3 _ H3 (New.after s2 n3) (G.ws (by omega) (by omega))
end
section
variable {P : Program} {w : World} {K : Frag} {mg : Str -> Option Value} {base : Heap} {C_Roll C_Rule C_BookError C_NoNumber C_NoRule C_Backward : Addr}
def sp_read37 : Sp := fun vs H Q _ => ∃ (e : Addr) (EV : List V) (es : List Int) (ge : Option Int) (l : Addr) (xs : List V) (ps : List (Int × Int)) (m : Int), vs = [.ref e, .ref l, .int m] /\ H e = some (.lst EV) /\ EdS EV es ge /\ 1 <= es.length /\ es.length <= 5 /\ H l = some (.lst xs) /\ Pairs H xs ps /\ (∀ p ∈ ps, 1 <= p.2 /\ p.2 <= 10 ^ 35) /\ 1 <= ps.length /\ ps.length <= 5 /\ ∀ t r H', RLt r -> Same H H' -> H' t = some (.tup [.int r.1, .int r.2.1, .int r.2.2]) -> Q (.ref t) H'
def T5 (t : Int) : Prop := -(5 * 10 ^ 45) <= t /\ t <= 5 * 10 ^ 45
theorem RLt.ok {r : Rd3} (h : RLt r) : ROk r := by
 obtain ⟨h1, h2, h3, h4⟩ := h
 refine ⟨by unfold TB46; omega, by unfold RunB; dsimp only; omega⟩
theorem D__law_reading (T : Txt K mg C_Roll C_Rule C_BookError C_NoNumber C_NoRule C_Backward) : qbs P w K mg base 3 "_law_reading" ["_law_edges_here", "_law_rows", "_law_cell"] sp_read37 := by
 obtain ⟨f, fd, F, hm⟩ := T.f__law_reading
 have nd := sc__law_reading.nd
 refine F.def_ hm (F.ok sc__law_reading (fun vs H Q E h => ?_) (fun cdv A outer s H vs Q E hr h => ?_)) (F.binds fun _ _ _ _ _ _ us hl => by obtain ⟨_, _, _, rfl⟩ := L2.lq3 hl; rfl)
 ·obtain ⟨e, EV, es, ge, l, xs, ps, m, rfl, _⟩ := h; rfl
 ·obtain ⟨e, EV, es, ge, l, xs, ps, m, rfl, he, E, h1, h5, hl, hp, S2, n1', n5', q⟩ := h
  have hEl : EV.length = es.length + 1 := by rw [E.eq]; simp
  have hlen := hp.length
  refine ⟨_, (qac (qas (i := 3) nd rfl (Or.inl rfl) (qak qbc (qak qdd qab (qak qdo qab qab)) qab)) (qac (qas (i := 4) nd rfl (Or.inl rfl) (qa4 (qc7 T) (hr.mono (by decide)) rfl (qaa (pv 2) (qaa (qa6 (qaa qab (qaa qab (qaa qab (qaa qab (qaa qab (qaa qab (qaa (pv 3) (qaa qab (qaa (pv 3) (qaa qab (qaa (qak qdo qab qab) qae)))))))))))) qae)))) (qac (qd6 (i := 5) (vars := ["_law_edge"]) (frees := []) (fv := []) nd rfl (Or.inl rfl) rfl (lcOk rfl rfl (by decide +kernel) (by decide +kernel) (by intro p hp; cases hp) rfl) trivial (qbr (pv 0)) (gk_name (by decide)) (fun _ _ _ _ => (qaj (i := 0) (show (["_law_edge"] : List Str).Nodup by decide +kernel) rfl (Or.inl rfl))) (fun _ _ _ _ => (pif_one (qat op_notN (pv 0) qb1 (qax _)))) (fun _ _ _ _ => (pv 0))) (qac (qas (i := 6) nd rfl (Or.inl rfl) (qai qah (pv 5) (qak qbp (qai qah (pv 4) qab (fun _ _ => rfl)) (qay qa3 rfl T.b_len bt_len (qaa (pv 5) qae))) (fun _ _ => rfl))) (qac (qas (i := 7) nd rfl (Or.inl rfl) (qai qav (qai qah (pv 1) (qak qbp (qai qah (pv 4) qab (fun _ _ => rfl)) (qay qa3 rfl T.b_len bt_len (qaa (pv 1) qae))) (fun _ _ => rfl)) qab (fun _ _ => rfl))) (qac (qas (i := 8) nd rfl (Or.inl rfl) (qai qah (qa6 (qaa (qak qcs (qak qbc (pv 6) (qai qah (pv 4) qab (fun _ _ => rfl))) qab) (qaa (qak qcs (qak qbc (qak qbc (pv 6) (qak op_mulB (pv 7) (qak qcs (qai qah (pv 4) qab (fun _ _ => rfl)) qab))) (qai qah (pv 4) qab (fun _ _ => rfl))) qab) (qaa (qak qcs (qai qah (pv 4) qab (fun _ _ => rfl)) (qak qdo qab qab)) qae)))) (qak qdq (qai qah (pv 4) qab (fun _ _ => rfl)) qab) (fun _ _ => rfl))) (qac (qas (i := 9) nd rfl (Or.inl rfl) (qai qah (qa6 (qaa (qak qcs (qak qbp (qai qah (pv 4) qab (fun _ _ => rfl)) qab) qab) (qaa (qak qcs (qak qbp (qai qah (pv 4) qab (fun _ _ => rfl)) qab) qab) (qaa (qak qcs (qai qah (pv 4) qab (fun _ _ => rfl)) (qak qdo qab qab)) qae)))) (qai qah (pv 4) qab (fun _ _ => rfl)) (fun _ _ => rfl))) (qaf (qar (qa5 (qaa (pv 8) (qaa (pv 9) (qaa (qak qbc qab (qai qah (qa6 (qaa qab (qaa (qak qbp (qai qah (pv 4) qab (fun _ _ => rfl)) qab) (qaa (qak qbp (qai qah (pv 4) qab (fun _ _ => rfl)) qab) (qaa (qai qah (pv 4) qab (fun _ _ => rfl)) qae))))) (qai qah (pv 4) qab (fun _ _ => rfl)) (fun _ _ => rfl))) qae))))))))))))), ?_⟩
  walk_at "r"; intro p1 H1 n1
  refine ⟨m, p1, [6, 5, 3, 5, 9, 41, 2 * 10 ^ 40 + 1, 3, 2 * 10 ^ 40 + 1, 4, 10 ^ 30], rfl, n1.at_, (by intro b hb; simp at hb; omega), by decide, fun lp ks H2 n2 U => ?_⟩
  obtain ⟨x0, hx0, x0a, x0b⟩ := U.get (i := 0) (b := 6) rfl
  obtain ⟨x1, hx1, x1a, x1b⟩ := U.get (i := 1) (b := 5) rfl
  obtain ⟨x2, hx2, x2a, x2b⟩ := U.get (i := 2) (b := 3) rfl
  obtain ⟨x3, hx3, x3a, x3b⟩ := U.get (i := 3) (b := 5) rfl
  obtain ⟨x4, hx4, x4a, x4b⟩ := U.get (i := 4) (b := 9) rfl
  obtain ⟨x5, hx5, x5a, x5b⟩ := U.get (i := 5) (b := 41) rfl
  obtain ⟨x6, hx6, x6a, x6b⟩ := U.get (i := 6) (b := 2 * 10 ^ 40 + 1) rfl
  obtain ⟨x7, hx7, x7a, x7b⟩ := U.get (i := 7) (b := 3) rfl
  obtain ⟨x8, hx8, x8a, x8b⟩ := U.get (i := 8) (b := 2 * 10 ^ 40 + 1) rfl
  obtain ⟨x9, hx9, x9a, x9b⟩ := U.get (i := 9) (b := 4) rfl
  obtain ⟨x10, hx10, x10a, x10b⟩ := U.get (i := 10) (b := 10 ^ 30) rfl
  have at0 : atI (ks.map V.int) 0 = some (.int x0) := qbe hx0
  have at1 : atI (ks.map V.int) 1 = some (.int x1) := qbe hx1
  have at2 : atI (ks.map V.int) 2 = some (.int x2) := qbe hx2
  have at3 : atI (ks.map V.int) 3 = some (.int x3) := qbe hx3
  have at4 : atI (ks.map V.int) 4 = some (.int x4) := qbe hx4
  have at5 : atI (ks.map V.int) 5 = some (.int x5) := qbe hx5
  have at6 : atI (ks.map V.int) 6 = some (.int x6) := qbe hx6
  have at7 : atI (ks.map V.int) 7 = some (.int x7) := qbe hx7
  have at8 : atI (ks.map V.int) 8 = some (.int x8) := qbe hx8
  have at9 : atI (ks.map V.int) 9 = some (.int x9) := qbe hx9
  have at10 : atI (ks.map V.int) 10 = some (.int x10) := qbe hx10
  obtain ⟨ed, hed, hat⟩ := at_in (es ++ ge.toList) (by rw [List.length_append]; omega) x0
  have hb := known_b E ed hed
  obtain ⟨j, x, hwt, hj⟩ := atI_mod (xs := xs) (by omega) x3
  obtain ⟨pr, hpj, a, rfl, ha⟩ := hp.get hj
  have hwb : 0 <= (0 : Int) /\ (0 : Int) <= 0 /\ 1 <= pr.2 /\ pr.2 <= 10 ^ 35 := ⟨by omega, by omega, S2 pr (List.mem_of_getElem? hpj)⟩
  have hwl : 0 < xs.length := by omega
  have hkl : 0 < ((es ++ ge.toList).map V.int).length := by rw [List.length_map, List.length_append]; omega
  unfold EB at hb
  have s2 : Same H H2 := n1.same.trans n2.same
  have hlp := n2.at_
  have he2 := s2 _ _ he
  refine ⟨_, rfl, e, rfl, ⟨_, SqL.of he2⟩, qd8 (xs := EV) (fun i ys H3 => Same H2 H3 /\ ys = (EV.take i).filter notN) (Nat.le_of_lt (qaw (by omega))) ⟨Same.refl _, rfl⟩ (fun i ys H3 h3 => ⟨SqL.of (h3.1 _ _ he2), by rw [h3.2]; exact filt_len _ _⟩) ?_ ?_⟩
  ·rintro i x ys H3 hi ⟨s3, rfl⟩
   refine ⟨_, rfl, rfl, _, rfl, ite2 (fun z => ?_) fun z => ?_⟩
   ·exact ⟨_, rfl, s3, (filt_t hi z).symm⟩
   ·exact ⟨s3, (filt_f hi z).symm⟩
  ·rintro ys H3 kl H4 ⟨s3, rfl⟩ n4
   rw [List.take_length, E.eq, known] at n4
   have s24 : Same H2 H4 := s3.trans n4.same
   have hl4 := s24 _ _ (s2 _ _ hl)
   have ha4 := s24 _ _ (s2 _ _ ha)
   have hlp4 := s24 _ _ hlp
   clear n1 n2 s3
   walk_at "r"; intro p5 H5 n5
   have hlp5 := n5.same _ _ hlp4
   obtain ⟨tm, htm, tb⟩ : ∃ tm, atI [V.int (ed + x2 - 1), V.int (ed + pr.2 * (x4 - 4) + x5 - 20), V.int (x6 - 10 ^ 40)] (x1 / 2) = some (V.int tm) /\ T5 tm := by
    have hm20 := mul20 (k := x4 - 4) hwb.2.2.1 hwb.2.2.2 (by omega) (by omega)
    have hk : x1 / 2 = 0 \/ x1 / 2 = 1 \/ x1 / 2 = 2 := by omega
    unfold T5
    rcases hk with e | e | e <;> rw [e]
    ·exact ⟨_, rfl, by omega, by omega⟩
    ·exact ⟨_, rfl, by omega, by omega⟩
    ·exact ⟨_, rfl, by omega, by omega⟩
   have n5' : H5 p5 = some (.lst [V.int (ed + x2 - 1), V.int (ed + pr.2 * (x4 - 4) + x5 - 20), V.int (x6 - 10 ^ 40)]) := n5.at_
   have s25 : Same H2 H5 := s24.trans n5.same
   clear n5 n4 s24 hl4 ha4 hlp4
   walk_at "r"; intro p6 H6 n6
   have hlp6 := n6.same _ _ hlp5
   obtain ⟨vv, hvv, vb⟩ : ∃ vv, atI [V.int (x8 % 19 - 9), V.int (x8 % 19 - 9), V.int (x8 - 10 ^ 40)] x7 = some (V.int vv) /\ F40 vv := by
    have hk : x7 = 0 \/ x7 = 1 \/ x7 = 2 := by omega
    unfold F40
    rcases hk with e | e | e <;> rw [e]
    ·exact ⟨_, rfl, by omega, by omega⟩
    ·exact ⟨_, rfl, by omega, by omega⟩
    ·exact ⟨_, rfl, by omega, by omega⟩
   have n6' : H6 p6 = some (.lst [V.int (x8 % 19 - 9), V.int (x8 % 19 - 9), V.int (x8 - 10 ^ 40)]) := n6.at_
   have s26 : Same H2 H6 := s25.trans n6.same
   clear n6 n5' s25 hlp5
   walk_at "r"; intro p7 H7 n7
   have hlp7 := n7.same _ _ hlp6
   obtain ⟨mm, hmm, mb⟩ : ∃ mm, atI [V.int 0, V.int (x10 % 3), V.int (x10 % 1000), V.int x10] x9 = some (V.int mm) /\ 0 <= mm /\ mm < 10 ^ 30 := by
    have hk : x9 = 0 \/ x9 = 1 \/ x9 = 2 \/ x9 = 3 := by omega
    rcases hk with e | e | e | e <;> rw [e]
    ·exact ⟨_, rfl, by omega, by omega⟩
    ·exact ⟨_, rfl, by omega, by omega⟩
    ·exact ⟨_, rfl, by omega, by omega⟩
    ·exact ⟨_, rfl, by omega, by omega⟩
   walk_at "r"; intro t8 H8 n8
   exact q t8 (tm, vv, 1 + mm) H8 ⟨tb, by unfold F40 at vb; dsimp only; omega⟩ (s2.trans (s26.trans (n7.same.trans n8.same))) n8.at_
def sp_more37 : Sp := fun vs H Q _ => ∃ (l : Addr) (ws : List Int) (m : Int), vs = [.ref l, .int m] /\ H l = some (.lst (ws.map V.int)) /\ (∀ w ∈ ws, 1 <= w /\ w <= 10 ^ 35) /\ 1 <= ws.length /\ ws.length <= 5 /\ ∀ n H', 0 <= n -> n <= 10 ^ 37 -> Same H H' -> Q (.int n) H'
theorem at5' {x : Int} (h0 : 0 <= x) (h5 : x < 5) (a b c d e : Int) : ∃ y, atI [V.int a, V.int b, V.int c, V.int d, V.int e] x = some (.int y) /\ (y = a \/ y = b \/ y = c \/ y = d \/ y = e) := by
 have h : x = 0 \/ x = 1 \/ x = 2 \/ x = 3 \/ x = 4 := by omega
 rcases h with h | h | h | h | h <;> rw [h]
 ·exact ⟨a, rfl, .inl rfl⟩
 ·exact ⟨b, rfl, .inr (.inl rfl)⟩
 ·exact ⟨c, rfl, .inr (.inr (.inl rfl))⟩
 ·exact ⟨d, rfl, .inr (.inr (.inr (.inl rfl)))⟩
 ·exact ⟨e, rfl, .inr (.inr (.inr (.inr rfl)))⟩
theorem D__law_more (T : Txt K mg C_Roll C_Rule C_BookError C_NoNumber C_NoRule C_Backward) : qbs P w K mg base 3 "_law_more" ["_law_broad", "_law_cell"] sp_more37 := by
 obtain ⟨f, fd, F, hm⟩ := T.f__law_more
 have nd := sc__law_more.nd
 refine F.def_ hm (F.ok sc__law_more (fun vs H Q E h => ?_) (fun cdv A outer s H vs Q E hr h => ?_)) (F.binds fun _ _ _ _ _ _ us hl => by obtain ⟨_, _, rfl⟩ := L2.lq2 hl; rfl)
 ·obtain ⟨l, ws, m, rfl, _⟩ := h; rfl
 ·obtain ⟨l, ws, m, rfl, hl, hw, n1', n5', q⟩ := h
  refine ⟨_, (qac (qas (i := 2) nd rfl (Or.inl rfl) (qa4 (qc7 T) (hr.mono (by decide)) rfl (qaa (pv 1) (qaa (qa6 (qaa qab (qaa qab (qaa qab (qaa (qak qdo qab qab) qae))))) qae)))) (qac (qas (i := 3) nd rfl (Or.inl rfl) (qai qah (pv 0) (qak qbp (qai qah (pv 2) qab (fun _ _ => rfl)) (qay qa3 rfl T.b_len bt_len (qaa (pv 0) qae))) (fun _ _ => rfl))) (qaf (qar (qai qah (qa6 (qaa qab (qaa qab (qaa (qak qbp (qai qah (pv 2) qab (fun _ _ => rfl)) qab) (qaa (qak op_mulB (pv 3) (qai qah (pv 2) qab (fun _ _ => rfl))) (qaa (qak qbc (pv 3) (qai qah (pv 2) qab (fun _ _ => rfl))) qae)))))) (qai qah (pv 2) qab (fun _ _ => rfl)) (fun _ _ => rfl)))))), ?_⟩
  walk_at "r"; intro p1 H1 n1
  refine ⟨m, p1, [5, 5, 7, 10 ^ 12], rfl, n1.at_, (by intro b hb; simp at hb; omega), by decide, fun lp ks H2 n2 U => ?_⟩
  obtain ⟨x0, hx0, x0a, x0b⟩ := U.get (i := 0) (b := 5) rfl
  obtain ⟨x1, hx1, x1a, x1b⟩ := U.get (i := 1) (b := 5) rfl
  obtain ⟨x2, hx2, x2a, x2b⟩ := U.get (i := 2) (b := 7) rfl
  obtain ⟨x3, hx3, x3a, x3b⟩ := U.get (i := 3) (b := 10 ^ 12) rfl
  have at0 : atI (ks.map V.int) 0 = some (.int x0) := qbe hx0
  have at1 : atI (ks.map V.int) 1 = some (.int x1) := qbe hx1
  have at2 : atI (ks.map V.int) 2 = some (.int x2) := qbe hx2
  have at3 : atI (ks.map V.int) 3 = some (.int x3) := qbe hx3
  obtain ⟨w, hwm, hwt⟩ := at_in ws (by omega) x1
  have hwb := hw w hwm
  have hwl : 0 < (ws.map V.int).length := by rw [List.length_map]; omega
  have hm6 := mul20 (k := x2) hwb.1 hwb.2 (by omega) (by omega)
  have hm0 : 0 <= w * x2 := Int.mul_nonneg (by omega) (by omega)
  obtain ⟨y, hy, hyc⟩ := at5' x0a x0b 0 1 (x3 % 100) (w * x2) (w + x3)
  have s2 : Same H H2 := n1.same.trans n2.same
  have hlp := n2.at_
  have hl2 := s2 _ _ hl
  clear n1 n2
  walk_at "r"; intro p3 H3 n3
  have n3' : H3 p3 = some (.lst [V.int 0, V.int 1, V.int (x3 % 100), V.int (w * x2), V.int (w + x3)]) := n3.at_
  have hlp3 := n3.same _ _ hlp
  walk_at "r"
  refine q y H3 ?_ ?_ (s2.trans n3.same)
  ·rcases hyc with h | h | h | h | h <;> rw [h] <;> omega
  ·rcases hyc with h | h | h | h | h <;> rw [h] <;> omega
end
section
variable {P : Program} {w : World} {K : Frag} {mg : Str -> Option Value} {base : Heap} {C_Roll C_Rule C_BookError C_NoNumber C_NoRule C_Backward : Addr}
theorem D__law_home (T : Txt K mg C_Roll C_Rule C_BookError C_NoNumber C_NoRule C_Backward) : qbs P w K mg base 1 "_law_home" ["_law_edges_here", "_law_rows", "_law_time"] sp_lhome := by
 obtain ⟨f, fd, F, hm⟩ := T.f__law_home
 have nd := sc__law_home.nd
 refine F.def_ hm (F.ok sc__law_home (fun vs H Q E h => ?_) (fun cdv A outer s H vs Q E hr h => ?_)) (F.binds fun _ _ _ _ _ _ us hl => by obtain ⟨_, _, _, rfl⟩ := L2.lq3 hl; rfl)
 ·obtain ⟨e, EV, es, ge, l, xs, ps, t, rfl, _⟩ := h; rfl
 ·obtain ⟨e, EV, es, ge, l, xs, ps, t, rfl, he, E, hn, hl, hp, S, h1, h5, q⟩ := h
  rw [E.eq] at he
  have hlen := hp.length
  obtain ⟨e0, h0⟩ : ∃ e0, es[0]? = some e0 := ⟨_, List.getElem?_eq_getElem (by omega)⟩
  have hi0 : atI (es.map V.int ++ [gv ge]) 0 = some (.int e0) := atI_nat (j := 0) (by rw [List.getElem?_append_left (by simp; omega), List.getElem?_map, h0]; rfl)
  have hlast : (es.map V.int ++ [gv ge])[(es.map V.int ++ [gv ge]).length - 1]? = some (gv ge) := by simp
  obtain ⟨J, eJ⟩ : ∃ J : St -> Hp -> Prop, J = fun σ H' => H' = H /\ ¬ qcp ge t /\ σ = [some (.ref e), some (.ref l), some (.int t), none] := ⟨_, rfl⟩
  refine ⟨_, (qac (qbl (qat op_ge (pv 2) (qai qah (pv 0) qab (fun _ _ => rfl)) (qax _)) (qaf (qar (qa5 (qaa (pv 2) (qaa qab qae)))))
    qa0) (pss_cut J (qbl (PW.pt (pw_and (qat op_notN (qai qah (pv 0) (pe_un un_neg qab) (fun _ _ => rfl)) qb1 (qax _)) (pw_and1 (qat op_lt (pv 2) (qai qah (pv 0) (pe_un un_neg qab) (fun _ _ => rfl)) (qax _))))) (qaf (qar qb1))
    qa0) (qac (qas (i := 3) nd rfl (Or.inl rfl) (qai qah (pe_lc (vars := ["_law_k"]) (frees := ["_law_time", "_law_edges_here", "_law_rows"]) (fv := [2, 0, 1]) rfl (lcOk rfl rfl (by decide +kernel) (by decide +kernel) (by intro p hp; simp only [List.mem_cons, List.not_mem_nil, or_false] at hp; rcases hp with rfl | rfl | rfl <;> rfl) rfl) ⟨⟨rfl, .inl rfl, rfl, .inl rfl⟩, ⟨⟨rfl, .inl rfl, rfl, .inl rfl⟩, ⟨⟨rfl, .inl rfl, rfl, .inl rfl⟩, trivial⟩⟩⟩ (pi_range1 rfl T.b_range (qaa (qay qa3 rfl T.b_len bt_len (qaa (pv 1) qae)) qae)) (gk_name (by decide)) (fun _ _ _ _ => (qaj (i := 0) (show (["_law_k", "_law_time", "_law_edges_here", "_law_rows"] : List Str).Nodup by decide +kernel) rfl (Or.inl rfl))) (fun _ _ _ _ => (pif_one (qat op_gt (qai (show IxR _ (rIxL K) from qah) (pv 2) (pv 0) (fun _ _ => rfl)) (pv 1) (qax _)))) (fun _ _ _ _ => (qai (show IxR _ (rIxT K) from qav) (qai (show IxR _ (rIxL K) from qah) (pv 3) (pv 0) (fun _ _ => rfl)) qab (fun _ _ => rfl)))) (pe_un un_neg qab) (fun _ _ => rfl))) (qaf (qar (qa5 (qaa (qak qcs (pv 2) (qak qbp (pv 2) (pv 3))) (qaa (pv 3) qae)))))))), ?_⟩
  walk_at "r"
  refine ite2 (fun z => ?_) fun z => ?_
  ·have z' : e0 <= t := by simpa using z
   walk_at "r"; intro p H1 n1
   exact q (.ref p) _ H1 (CellOf.a h0 z') ⟨p, rfl, n1.at_⟩ n1.same
  have z' : t < e0 := by simpa using z
  refine And.intro ?_ ?_
  ·cases ge with
   | none =>
    walk_at "r"
    show J _ _
    rw [eJ]; exact ⟨rfl, fun ⟨z, e, _⟩ => (by cases e), rfl⟩
   | some y =>
    walk_at "r"
    refine ite2 (fun z => ?_) fun z => ?_
    ·have z2 : t < y := by simpa using z
     exact q .non none H (CellOf.b h0 z' ⟨y, rfl, z2⟩) rfl (Same.refl _)
    ·have z2 : ¬ t < y := by simpa using z
     show J _ _
     rw [eJ]; exact ⟨rfl, fun ⟨z, e, h'⟩ => (by cases e; exact z2 h'), rfl⟩
  intro σ' H' j
  rw [eJ] at j
  obtain ⟨rfl, hg, rfl⟩ := j
  walk_at "r"
  refine lc_rangeN (n := xs.length) (fun i zs H2 => H2 = H' /\ zs = ((((((ps.map (·.2)).zip es).take i).filter fun x => decide (t < x.2)).map (·.1)).map V.int)) (Nat.le_of_lt (qaw (by omega))) ⟨rfl, rfl⟩ (fun i zs H2 h2 => by rw [h2.2, List.length_map]; exact wl_len _ _ _ _) ?_ ?_
  ·rintro i zs H2 hi ⟨rfl, rfl⟩
   rw [Int.zero_add]
   have hei : es[i]? = some es[i] := List.getElem?_eq_getElem (by omega)
   obtain ⟨pi, hpi⟩ : ∃ pi, ps[i]? = some pi := ⟨_, List.getElem?_eq_getElem (by omega)⟩
   obtain ⟨x, hxi, a, rfl, ha⟩ := hp.get' hpi
   have hwi : (ps.map (·.2))[i]? = some pi.2 := by rw [List.getElem?_map, hpi]; rfl
   have hx1 : (es.map V.int ++ [gv ge])[i]? = some (V.int es[i]) := by rw [List.getElem?_append_left (by simp; omega), List.getElem?_map, hei]; rfl
   walk_at "r"
   refine ite2 (fun z => ?_) fun z => ?_
   ·have z2 : t < es[i] := by simpa using z
    walk_at "r"
    rw [wl_t hwi hei z2, List.map_append]; rfl
   ·have z2 : ¬ t < es[i] := by simpa using z
    exact ⟨rfl, by rw [wl_f hwi hei z2]⟩
  ·rintro zs H2 p H3 ⟨rfl, rfl⟩ n3
   rw [wl_all (by rw [List.length_zip, List.length_map]; omega)] at n3
   have hne : 1 <= (wl (ps.map (·.2)) es t).length := wl_ne (w0 := (ps[0]'(by omega)).2) (by rw [List.getElem?_map, List.getElem?_eq_getElem (by omega : 0 < ps.length)]; rfl) h0 z'
   obtain ⟨w', hw'⟩ : ∃ w', (wl (ps.map (·.2)) es t)[(wl (ps.map (·.2)) es t).length - 1]? = some w' := ⟨_, List.getElem?_eq_getElem (by omega)⟩
   have hla : ((wl (ps.map (·.2)) es t).map V.int)[((wl (ps.map (·.2)) es t).map V.int).length - 1]? = some (V.int w') := by rw [List.length_map, List.getElem?_map, hw']; rfl
   have hwb : 1 <= w' := by
    obtain ⟨pp, hpp, rfl⟩ := List.mem_map.mp (wl_mem (List.mem_of_getElem? hw'))
    obtain ⟨i, hi, ei⟩ := List.getElem_of_mem hpp
    exact (S i pp (by rw [<- ei]; exact List.getElem?_eq_getElem hi)).2.2.1
   walk_at "r"; intro p4 H4 n4
   refine q (.ref p4) _ H4 (CellOf.c h0 z' hg hw') ⟨p4, rfl, ?_⟩ (n3.same.trans n4.same)
   rw [<- fl_eq]
   exact n4.at_
end
section
variable {P : Program} {w : World} {K : Frag} {mg : Str -> Option Value} {base : Heap} {C_Roll C_Rule C_BookError C_NoNumber C_NoRule C_Backward : Addr}
theorem qcr (T : Txt K mg C_Roll C_Rule C_BookError C_NoNumber C_NoRule C_Backward) : qbs P w K mg base 1 "_law_greater" ["_law_one", "_law_other"] sp_lgreater := by
 obtain ⟨f, fd, F, hm⟩ := T.f__law_greater
 have nd := sc__law_greater.nd
 refine F.def_ hm (F.ok sc__law_greater (fun vs H Q E h => ?_) (fun cdv A outer s H vs Q E hr h => ?_)) (F.binds fun _ _ _ _ _ _ us hl => by obtain ⟨_, _, rfl⟩ := L2.lq2 hl; rfl)
 ·obtain ⟨a, b, xs, ys, rfl, _⟩ := h; rfl
 ·obtain ⟨a, b, xs, ys, rfl, ha, hb, hx, hy, hxy, hz, q⟩ := h
  have hzl : (List.zipWith gE xs ys).length = xs.length := by rw [List.length_zipWith]; omega
  refine ⟨_, (qac (qas (i := 2) nd rfl (Or.inl rfl) (qa6 qae)) (qac (qdt PassesOwn.never rfl (pi_zip rfl T.b_zip (qaa (pv 0) (qaa (pv 1) qae))) (qb2 rfl (qal (qaj (i := 3) nd rfl (Or.inl rfl)) (qal (qaj (i := 4) nd rfl (Or.inl rfl)) qbf))) (qac (qd6 (i := 5) (vars := ["_law_x"]) (frees := []) (fv := []) nd rfl (Or.inl rfl) rfl (lcOk rfl rfl (by decide +kernel) (by decide +kernel) (by intro p hp; cases hp) rfl) trivial (pi_tup (qa5 (qaa (pv 3) (qaa (pv 4) qae)))) (gk_name (by decide)) (fun _ _ _ _ => (qaj (i := 0) (show (["_law_x"] : List Str).Nodup by decide +kernel) rfl (Or.inl rfl))) (fun _ _ _ _ => (pif_one (qat op_notN (pv 0) qb1 (qax _)))) (fun _ _ _ _ => (pv 0))) (qaf (qbi (pe_bm PySem.F.plainAttrs_list PySem.F.slot_list_append PySem.F.type_list_append qco (pv 2) (qaa (pe_callBK (call_maxD rfl) rfl T.b_max bt_max (qaa (pv 5) qae) (pk_cons qb1 pk_nil)) qae)))))) (qaf (qar (pv 2))))), ?_⟩
  walk_at "r"; intro l H1 n1; walk_at "r"
  refine ⟨a, b, xs, ys, rfl, SqL.of (n1.same _ _ ha), SqL.of (n1.same _ _ hb), for_zipN (xs := xs) (fun i σ H2 => Same H H2 /\ ∃ v3 v4 v5, H2 l = some (.lst ((List.zipWith gE xs ys).take i)) /\ σ = [some (.ref a), some (.ref b), some (.ref l), v3, v4, v5]) ⟨n1.same, none, none, none, n1.at_, rfl⟩ (fun i σ H2 h2 => ⟨SqL.of (h2.1 _ _ ha), SqL.of (h2.1 _ _ hb)⟩) ?_ ?_⟩
  ·rintro i x y σ H2 p H3 hxi hyi n3 ⟨s2, v3, v4, v5, hl, rfl⟩
   obtain ⟨ns, ens, hns⟩ := ed2 (hx x (List.mem_of_getElem? hxi)) (hy y (List.mem_of_getElem? hyi))
   have hzi := zip_get hxi hyi
   refine ⟨p, _, rfl, SqT.of n3.at_, rfl, _, _, rfl, _, _, rfl, rfl, ?_⟩
   walk_at "r"; intro t H4 n4
   refine ⟨_, rfl, ⟨_, SqT.of n4.at_⟩, lc_tupN (xs := [x, y]) (fun j zs H5 => Same H4 H5 /\ zs = ([x, y].take j).filter notN) (by walk_at "c") ⟨Same.refl _, rfl⟩ (fun j zs H5 h5 => ⟨SqT.of (h5.1 _ _ n4.at_), by rw [h5.2]; exact filt_len _ _⟩) ?_ ?_⟩
   ·rintro j u zs H5 hj ⟨s5, rfl⟩
    refine ⟨_, rfl, rfl, _, rfl, ite2 (fun z => ?_) fun z => ?_⟩
    ·exact ⟨_, rfl, s5, (filt_t hj z).symm⟩
    ·exact ⟨s5, (filt_f hj z).symm⟩
   ·rintro zs H5 l6 H6 ⟨s5, rfl⟩ n6
    have ez : ([x, y].take [x, y].length).filter notN = ns.map V.int := ens
    rw [ez] at n6
    have hl6 : H6 l = some (.lst ((List.zipWith gE xs ys).take i)) := n6.same _ _ (s5 _ _ (n4.same _ _ (n3.same _ _ hl)))
    have s6 : Same H H6 := s2.trans (n3.same.trans (n4.same.trans (s5.trans n6.same)))
    have fin : ∀ H7, But l H6 H7 -> H7 l = some (.lst ((List.zipWith gE xs ys).take i ++ [gE x y])) -> Same H H7 /\ ∃ v3 v4 v5, H7 l = some (.lst ((List.zipWith gE xs ys).take (i + 1))) /\ [some (V.ref a), some (V.ref b), some (V.ref l), some x, some y, some (V.ref l6)] = [some (V.ref a), some (V.ref b), some (V.ref l), v3, v4, v5] := fun H7 b7 h7 => ⟨b7.same s6 n1.fresh, _, _, _, by rw [takeN _ i _ hzi]; exact h7, rfl⟩
    have hsm : ((List.zipWith gE xs ys).take i).length < sizeLine := qaw (by rw [List.length_take]; omega)
    walk_at "r"
    refine ⟨l6, ns, .non, rfl, rfl, SqL.of n6.at_, fun e => ?_, fun m hm hle => ?_⟩
    ·rcases hns with ⟨rfl, eg⟩ | ⟨hne, m, eg, hm, hle⟩
     ·refine ⟨l, _, _, rfl, rfl, hl6, hsm, fun H7 b7 h7 => ?_⟩
      exact fin H7 b7 (by rw [eg]; exact h7)
     ·exact absurd e hne
    ·rcases hns with ⟨rfl, eg⟩ | ⟨hne, m', eg, hm', hle'⟩
     ·cases hm
     ·have em : m' = m := by
       have h1 := hle _ hm'
       have h2 := hle' _ hm
       omega
      subst em
      refine ⟨l, _, _, rfl, rfl, hl6, hsm, fun H7 b7 h7 => ?_⟩
      exact fin H7 b7 (by rw [eg]; exact h7)
  ·rintro i σ H2 hi ⟨s2, v3, v4, v5, hl, rfl⟩
   have e : (List.zipWith gE xs ys).take i = List.zipWith gE xs ys := List.take_of_length_le (by rw [List.length_zipWith, hi]; exact Nat.le_refl _)
   rw [e] at hl
   exact ⟨_, rfl, q l H2 ⟨s2, n1.fresh, hl⟩⟩
end
section
variable {P : Program} {w : World} {K : Frag} {mg : Str -> Option Value} {base : Heap} {C_Roll C_Rule C_BookError C_NoNumber C_NoRule C_Backward : Addr}
theorem rof_set (ru : Addr) (day : Int) (le dy dh p : Addr) : putF "kept_edges" (.ref p) (rof ru day le dy dh) = rof ru day p dy dh := by rfl
def sp_begun (C R N : Addr) : Sp := fun vs H Q E => ∃ (ru rl e : Addr) (ps : List (Int × Int)) (g : Option Int) (day : Int) (EV : List V), vs = [.ref ru, .int day, .ref e] /\ RuleAt R H ru rl ps g /\ Pr ps g /\ Bd day /\ H e = some (.lst EV) /\ (∀ v ∈ EV, Ed v) /\ EV.length <= 10 /\
 (EV.length ≠ ps.length + 1 -> ∀ H', Same H H' -> E (.ref N) none H') /\
 (EV.length = ps.length + 1 -> ∃ (es : List Int) (ge : Option Int), EdS EV es ge /\ es.length = ps.length /\ ∀ ro c H', RollAt C R H' ro c -> c.ps = ps -> c.g = g -> c.day = day -> c.Y = [] -> c.Z = [] -> EdS (List.zipWith gE (eV ps g day) EV) c.es c.ge -> c.es.length = ps.length -> Same H H' -> H c.dy = none -> H c.dh = none -> (c.ru = ru /\ c.rl = rl /\ H c.le = none) -> Q (.ref ro) H')
theorem D_begun (T : Txt K mg C_Roll C_Rule C_BookError C_NoNumber C_NoRule C_Backward) : DefX P w K mg base 6 "begun" ["rule", "day", "edges"] [] (sp_begun C_Roll C_Rule C_NoRule) := by
 obtain ⟨f, fd, F, hm⟩ := T.f_begun
 have nd := sc_begun.nd
 refine ⟨f, fd, (F.okX sc_begun (fun vs H Q E h => ?_) (fun cdv A outer s H vs Q E hr h => ?_)), hm, F.kp, (F.binds fun _ _ _ _ _ _ us hl => by obtain ⟨_, _, _, rfl⟩ := L2.lq3 hl; rfl)⟩
 ·obtain ⟨ru, rl, e, ps, g, day, EV, rfl, _⟩ := h; rfl
 ·obtain ⟨ru, rl, e, ps, g, day, EV, rfl, R, Pg, hd, he, hEd, h10, qE, q⟩ := h
  refine ⟨_, (qac (qas (i := 3) nd rfl (Or.inl rfl) (pe_mkN (D_Roll_2 T) (hr.mono (by decide)) rfl .nil (qaa (pv 0) (qaa (pv 1) qae)))) (qac (ps_fldN (pv 3) (pe_fnX (qb0 ⟨rfl, rfl, rfl⟩) (D_greater T) (hr.mono (by decide)) rfl .nil (qaa (qcb (pv 3) rfl) (qaa (pv 2) qae))) rfl) (qaf (qar (pv 3))))), ?_⟩
  refine ⟨_, rfl, _, rfl, fun ro dx H1 s1 f1 d1 => ?_⟩
  refine ⟨ro, dx, ru, rl, ps, g, day, rfl, d1, R.same s1, Pg, hd, fun le dy dh H2 z1 z2 z3 A2 b2 => ⟨rfl, ?_⟩⟩
  have s2 : Same H H2 := b2.same s1 f1
  obtain ⟨dx2, hob⟩ := A2.ob
  have E0' := EdS.of Pg hd
  have hob' : H2 ro = some (.ins C_Roll dx2 (rof ru day le dy dh)) := hob
  have hed : H2 le = some (.lst (eV ps g day)) := by rw [E0'.eq]; exact A2.ed
  have l0 : (eV ps g day).length = ps.length + 1 := by rw [E0'.eq]; simp
  have g5 := Pg.good.hi
  refine ⟨_, rfl, ro, C_Roll, dx2, _, _, rfl, hob', T.cl_Roll, T.na_Roll_kept_edges, rof_ke _ _ _ _ _, _, rfl, le, e, _, EV, rfl, hed, s2 _ _ he, E0'.ed, hEd, by omega, fun hl p H3 n3 => ?_, fun hne => ?_⟩
  ·obtain ⟨es, ge, Ee, hln, q⟩ := q (by omega)
   refine ⟨_, rfl, ro, C_Roll, dx2, _, rfl, n3.same _ _ hob', T.cl_Roll, T.na_Roll_kept_edges, (by show 5 < 1000; decide), fun H4 b4 h4 => ?_⟩
   rw [rof_set] at h4
   have A3 := A2.same n3.same
   have M := E0'.max Ee (by rw [List.length_map]; exact hln.symm)
   have hro3 := n3.same _ _ hob'
   have hp4 : H4 p = some (.lst (List.zipWith gE (eV ps g day) EV)) := b4 _ _ n3.at_ (qbk n3.at_ hro3 (by intro z; cases z))
   obtain ⟨dxr, hru⟩ := A3.rule.ob
   have nru : ru ≠ ro := qbk hru hro3 (by intro z; injection z with _ _ z; have := rf_ks rl (gv g); have z' : rf rl (gv g) = rof ru day le dy dh := z; rw [z'] at this; cases this)
   have s04 : Same H H4 := b4.same (s2.trans n3.same) f1
   refine ⟨_, rfl, q ro { newD ru rl p dy dh ps g day with es := _, ge := _ } H4 ⟨⟨dx2, h4⟩, A3.rule.but2 b4 hro3 ins_nt (by intro xs z; cases z) nru, ?_, b4 _ _ A3.yo (qbk A3.yo hro3 (by intro z; cases z)), b4 _ _ A3.he (qbk A3.he hro3 (by intro z; cases z)), A3.ne⟩ rfl rfl rfl rfl rfl M ?_ s04 (s1.free z2) (s1.free z3) ⟨rfl, rfl, s2.free n3.fresh⟩⟩
   ·rw [M.eq] at hp4; exact hp4
   ·show (List.zipWith _ _ _).length = ps.length
    rw [List.length_zipWith, List.length_map]; omega
  ·exact qE (fun z => hne (by omega)) H2 s2
def sp_rollof (C R N : Addr) : Sp := fun vs H Q E => ∃ (ru rl e lr : Addr) (ps : List (Int × Int)) (g : Option Int) (day : Int) (EV ys : List V) (rs : List Rd3), vs = [.ref ru, .int day, .ref e, .ref lr] /\ RuleAt R H ru rl ps g /\ Pr ps g /\ Bd day /\ H e = some (.lst EV) /\ (∀ v ∈ EV, Ed v) /\ EV.length <= 10 /\ H lr = some (.lst ys) /\ Tups H ys (rs.map l3) /\ (∀ r ∈ rs, ROk r) /\ rs.length < 60 /\
 (EV.length ≠ ps.length + 1 -> ∀ H', Same H H' -> E (.ref N) none H') /\
 (EV.length = ps.length + 1 -> ∃ (es : List Int) (ge : Option Int), EdS EV es ge /\ es.length = ps.length /\ ∀ ro c LY LZ H', c.ps = ps -> c.g = g -> c.day = day -> EdS (List.zipWith gE (eV ps g day) EV) c.es c.ge -> qct c -> RR C R H' ro c (qde (cellD c) rs) LY LZ -> LY.length <= rs.length -> LZ.length <= rs.length -> Same H H' -> H c.dy = none -> H c.dh = none -> (c.ru = ru /\ c.rl = rl /\ H c.le = none) -> Q (.ref ro) H')
theorem D_roll_of (T : Txt K mg C_Roll C_Rule C_BookError C_NoNumber C_NoRule C_Backward) : DefX P w K mg base 7 "roll_of" ["rule", "day", "edges", "readings"] [] (sp_rollof C_Roll C_Rule C_NoRule) := by
 obtain ⟨f, fd, F, hm⟩ := T.f_roll_of
 have nd := sc_roll_of.nd
 refine ⟨f, fd, (F.okX sc_roll_of (fun vs H Q E h => ?_) (fun cdv A outer s H vs Q E hr h => ?_)), hm, F.kp, (F.binds fun _ _ _ _ _ _ us hl => by obtain ⟨_, _, _, _, rfl⟩ := L2.lq4 hl; rfl)⟩
 ·obtain ⟨ru, rl, e, lr, ps, g, day, EV, ys, rs, rfl, _⟩ := h; rfl
 ·obtain ⟨ru, rl, e, lr, ps, g, day, EV, ys, rs, rfl, R, Pg, hd, he, hEd, h10, hlr, hT, hR, h60, qE, q⟩ := h
  refine ⟨_, (qac (qas (i := 4) nd rfl (Or.inl rfl) (pe_fnX (qb0 ⟨rfl, rfl, rfl⟩) (D_begun T) (hr.mono (by decide)) rfl .nil (qaa (pv 0) (qaa (pv 1) (qaa (pv 2) qae))))) (qac (qdt (own_wish ⟨rfl, rfl, rfl⟩) rfl (qbr (pv 3)) (qb2 rfl (qal (qaj (i := 5) nd rfl (Or.inl rfl)) (qal (qaj (i := 6) nd rfl (Or.inl rfl)) (qal (qaj (i := 7) nd rfl (Or.inl rfl)) qbf)))) (qaf (qbi (pe_mtD (pv 4) T.cl_Roll (D_Roll_put_3 T) (hr.mono (by decide)) .nil (qaa (pv 5) (qaa (pv 6) (qaa (pv 7) qae))))))) (qaf (qar (pv 4))))), ?_⟩
  by_cases hL : EV.length = ps.length + 1
  case neg => exact ⟨_, rfl, _, rfl, _, rfl, ru, rl, e, ps, g, day, EV, rfl, R, Pg, hd, he, hEd, h10, qE, fun z => absurd z hL⟩
  obtain ⟨es, ge, Ee, hln, q⟩ := q hL
  refine ⟨_, rfl, _, rfl, _, rfl, ru, rl, e, ps, g, day, EV, rfl, R, Pg, hd, he, hEd, h10, qE, fun _ => ⟨es, ge, Ee, hln, fun ro c H1 A1 e1 e2 e3 eY eZ Ec hcl s1 f1 f2 w1 => ?_⟩⟩
  have okc : qct c := ⟨by rw [e1, e2]; exact Pg, by rw [hcl, e1]⟩
  have ec : { c with Y := [], Z := [] } = c := by
   cases c
   simp only at eY eZ
   rw [eY, eZ]
  have R1 : RR C_Roll C_Rule H1 ro c abs0 (rs.map yKey) (rs.map (zKey (cellD c))) := ⟨[], [], by rw [ec]; exact A1, RAbs.zero rfl rfl⟩
  clear A1 ec eY eZ
  have hyl := hT.length
  rw [List.length_map] at hyl
  refine ⟨_, rfl, lr, rfl, ⟨_, SqL.of (s1 _ _ hlr)⟩, for_list (xs := ys) (fun i σ H2 => Same H H2 /\ RR C_Roll C_Rule H2 ro c (qde (cellD c) (rs.take i)) (rs.map yKey) (rs.map (zKey (cellD c))) /\ ∃ v5 v6 v7 : Option V, σ = [some (.ref ru), some (.int day), some (.ref e), some (.ref lr), some (.ref ro), v5, v6, v7]) ⟨s1, R1, none, none, none, rfl⟩ (fun i σ H2 _ h2 => SqL.of (h2.1 _ _ hlr)) ?_ ?_⟩
  ·rintro i x σ H2 hxi ⟨s2, R2, v5, v6, v7, rfl⟩
   obtain ⟨r', hr', a, rfl, ha⟩ := hT.get hxi
   rw [List.getElem?_map] at hr'
   obtain ⟨r, hri, rfl⟩ := Option.map_eq_some_iff.mp hr'
   have hm := List.mem_of_getElem? hri
   have ok := hR r hm
   have htk : rs.take (i + 1) = rs.take i ++ [r] := takeN _ i _ hri
   obtain ⟨dx, hob⟩ := R2.obj
   refine ⟨a, _, rfl, SqT.of (s2 _ _ ha), rfl, _, _, rfl, _, _, rfl, _, _, rfl, rfl, ?_⟩
   refine ⟨_, rfl, ro, dx, _, rfl, hob, rof_put _ _ _ _ _, _, rfl, _, rfl, _, rfl, ?_⟩
   walk_at "n"
   refine R2.put okc ok.1 ok.2.2.1 ok.2 (by rw [List.length_map]; omega) (by rw [List.length_map]; omega) (List.mem_map.mpr ⟨r, hm, rfl⟩) (fun a w e => List.mem_map.mpr ⟨r, hm, by unfold zKey; rw [e]⟩) fun H3 R3 b3 => ?_
   refine ⟨fun b o eb => b3 _ _ (s2 _ _ eb) (qag eb f1) (qag eb f2), ?_, _, _, _, rfl⟩
   rw [htk, absOf_snoc]; exact R3
  ·rintro σ H2 ⟨s2, R2, v5, v6, v7, rfl⟩
   rw [hyl, List.take_length] at R2
   exact ⟨_, rfl, q ro c _ _ H2 e1 e2 e3 Ec okc R2 (by rw [List.length_map]; exact Nat.le_refl _) (by rw [List.length_map]; exact Nat.le_refl _) s2 f1 f2 w1⟩
end
section
variable {P : Program} {w : World} {K : Frag} {mg : Str -> Option Value} {base : Heap} {C_Roll C_Rule C_BookError C_NoNumber C_NoRule C_Backward : Addr}
theorem ints_rep {F : Frag} {H : Hp} {l : Addr} {ns : List Int} (h : H l = some (.lst (ns.map V.int))) : Rep F H (.ref l) (.list (ns.map PyData.int)) := .lst (SqL.of h) (reps_ints ns)
theorem ints_lay (ns : List Int) : (PyData.list (ns.map PyData.int)).canLay0 = true := by simp only [PyData.canLay0, lay_intsA]
theorem ints_dep (ns : List Int) : (PyData.list (ns.map PyData.int)).depth <= 20 := by simp [PyData.depth, dep_intsA]
theorem ints_all : ∀ ns ms : List Int, PyData.eqvAll (ns.map PyData.int) (ms.map PyData.int) = decide (ns = ms)
 | [], [] => by simp [PyData.eqvAll]
 | [], _ :: _ => by simp [PyData.eqvAll]
 | _ :: _, [] => by simp [PyData.eqvAll]
 | n :: ns, m :: ms => by
  rw [List.map_cons, List.map_cons, PyData.eqvAll, ints_all ns ms]
  by_cases h1 : n = m <;> by_cases h2 : ns = ms <;> simp [h1, h2, PyData.eqv]
theorem ints_eqv (ns ms : List Int) : PyData.eqv (.list (ns.map PyData.int)) (.list (ms.map PyData.int)) = decide (ns = ms) := by
 rw [PyData.eqv, ints_all]
theorem EdS.uniq {E : List V} {a b : List Int} {g h : Option Int} (x : EdS E a g) (y : EdS E b h) : a = b /\ g = h := by
 have e := x.eq.symm.trans y.eq
 have hl : (a.map V.int).length = (b.map V.int).length := by have := congrArg List.length e; simp only [List.length_append, List.length_singleton] at this; omega
 obtain ⟨e1, e2⟩ := List.append_inj e hl
 refine ⟨?_, ?_⟩
 ·have : ∀ {a b : List Int}, a.map V.int = b.map V.int -> a = b := fun {a b} e => by
   induction a generalizing b with
   | nil => cases b with
    | nil => rfl
    | cons _ _ => cases e
   | cons x t ih => cases b with
    | nil => cases e
    | cons y u => injection e with h1 h2; injection h1 with h1; rw [h1, ih h2]
  exact this e1
 ·injection e2 with h1 _
  cases g <;> cases h <;> first | rfl | (injection h1 with h1; rw [h1]) | cases h1
def sp_widths33 (R : Addr) : Sp := fun vs H Q _ => ∃ (ru rl : Addr) (ps : List (Int × Int)) (g : Option Int), vs = [.ref ru] /\ RuleAt R H ru rl ps g /\ ps.length <= 5 /\ ∀ p H', Same H H' -> H' p = some (.lst ((ps.map (·.2)).map V.int)) -> Q (.ref p) H'
theorem D_widths_of (T : Txt K mg C_Roll C_Rule C_BookError C_NoNumber C_NoRule C_Backward) : qbs P w K mg base 3 "widths_of" ["rule"] (sp_widths33 C_Rule) := by
 obtain ⟨f, fd, F, hm⟩ := T.f_widths_of
 have nd := sc_widths_of.nd
 refine F.def_ hm (F.ok sc_widths_of (fun vs H Q E h => ?_) (fun cdv A outer s H vs Q E hr h => ?_)) (F.binds fun _ _ _ _ _ _ us hl => by obtain ⟨_, rfl⟩ := L2.lq1 hl; rfl)
 ·obtain ⟨ru, rl, ps, g, rfl, _⟩ := h; rfl
 ·obtain ⟨ru, rl, ps, g, rfl, R, h5, q⟩ := h
  obtain ⟨dxr, hru⟩ := R.ob
  obtain ⟨xr, hxl, hxr⟩ := R.ls
  have nst : (rf rl (gv g)).lookup ("steps" : Str) = none := TB.rf_no _ _ (by decide +kernel) (by decide +kernel)
  refine ⟨_, (qaf (qar (pe_lc (vars := ["age", "width"]) (frees := []) (fv := []) rfl (lcOk rfl rfl (by decide +kernel) (by decide +kernel) (by intro p hp; cases hp) rfl) trivial (qbr (qbb (pv 0) T.cl_Rule (qbx T) (hr.mono (by decide)))) (qdr (by decide) (by decide)) (fun _ _ _ _ => (qb2 rfl (qal (qaj (i := 0) (show (["age", "width"] : List Str).Nodup by decide +kernel) rfl (Or.inl rfl)) (qal (qaj (i := 1) (show (["age", "width"] : List Str).Nodup by decide +kernel) rfl (Or.inl rfl)) qbf)))) (fun _ _ _ _ => qby) (fun _ _ _ _ => (pv 1))))), ?_⟩
  refine ⟨_, rfl, ru, dxr, _, rfl, hru, nst, ru, rl, ps, g, xr, rfl, R, hxl, fun l1 H1 n1 => ?_⟩
  refine ⟨l1, rfl, ⟨_, SqL.of n1.at_⟩, lc_pairs (fun p => p.2) n1.at_ (hxr.same n1.same) (by omega) (fun p _ Q' q' => ⟨_, rfl, q'⟩) fun a H2 n2 => ?_⟩
  exact q a H2 (n1.same.trans n2.same) (by rw [n2.at_])
def sp_under33 (C R N : Addr) : Sp := fun vs H Q E => ∃ (ro ru rl : Addr) (c : qa1) (s : Abs) (LY LZ : List (List Int)) (ps : List (Int × Int)) (g : Option Int), vs = [.ref ro, .ref ru] /\ RR C R H ro c s LY LZ /\ qct c /\ EdS (c.es.map V.int ++ [gv c.ge]) c.es c.ge /\ RuleAt R H ru rl ps g /\ Pr ps g /\ Bd c.day /\ LY.length < 64 /\ LZ.length < 64 /\
 (c.ps.map (·.2) ≠ ps.map (·.2) -> ∀ H', Same H H' -> E (.ref N) none H') /\
 (c.ps.map (·.2) = ps.map (·.2) -> ∃ (fs : List Int) (fg : Option Int) (LY' LZ' : List (List Int)), EdS (List.zipWith gE (eV ps g c.day) (c.es.map V.int ++ [gv c.ge])) fs fg /\ LY'.length < 64 /\ LZ'.length < 64 /\ TakeOk (qbh (ps.map (·.2)) fs fg) LY' LZ' (qbu s) (qb4 s) /\
  ∀ r' c' H', c'.ps = ps -> c'.g = g -> c'.day = c.day -> c'.es = fs -> c'.ge = fg -> qct c' -> RR C R H' r' c' (qdw (qbh (ps.map (·.2)) fs fg) abs0 (qbu s) (qb4 s)) LY' LZ' -> Same H H' -> (H c'.dy = none /\ H c'.dh = none) -> Q (.ref r') H')
theorem D_under (T : Txt K mg C_Roll C_Rule C_BookError C_NoNumber C_NoRule C_Backward) : DefX P w K mg base 7 "under" ["roll", "rule"] [] (sp_under33 C_Roll C_Rule C_NoRule) := by
 obtain ⟨f, fd, F, hm⟩ := T.f_under
 have nd := sc_under.nd
 refine ⟨f, fd, (F.okX sc_under (fun vs H Q E h => ?_) (fun cdv A outer s H vs Q E hr h => ?_)), hm, F.kp, (F.binds fun _ _ _ _ _ _ us hl => by obtain ⟨_, _, rfl⟩ := L2.lq2 hl; rfl)⟩
 ·obtain ⟨ro, ru, rl, c, s', LY, LZ, ps, g, rfl, _⟩ := h; rfl
 ·obtain ⟨ro, ru, rl, c, s', LY, LZ, ps, g, rfl, R0, ok, E0', Ru, Pg, hd, ly, lz, qE, q⟩ := h
  obtain ⟨dx, hob⟩ := R0.obj
  obtain ⟨Y0, Z0, A0, B0⟩ := id R0
  refine ⟨_, (qac (qbl (qat (op_neD hr.units) (qa4 (D_widths_of T) (hr.mono (by decide)) rfl (qaa (qbb (pv 0) T.cl_Roll (qca T) (hr.mono (by decide))) qae)) (qa4 (D_widths_of T) (hr.mono (by decide)) rfl (qaa (pv 1) qae)) (qax _)) (qaf (ps_raise (qb0 ⟨rfl, rfl, rfl⟩) rfl T.ex_NoRule rfl T.mg_NoRule (qaa pe_str qae)))
    qa0) (qac (qas (i := 2) nd rfl (Or.inl rfl) (pe_fnX (qb0 ⟨rfl, rfl, rfl⟩) (D_begun T) (hr.mono (by decide)) rfl .nil (qaa (pv 1) (qaa (qbb (pv 0) T.cl_Roll (qd2 T) (hr.mono (by decide))) (qaa (qbb (pv 0) T.cl_Roll (qc5 T) (hr.mono (by decide))) qae))))) (qac (qbi (pe_mt (pv 2) T.cl_Roll (qcl T) (hr.mono (by decide)) (qaa (pv 0) qae))) (qaf (qar (pv 2)))))), ?_⟩
  refine ⟨_, rfl, ro, dx, _, rfl, hob, qd9 _ _ _ _ _, ro, _, rfl, A0, ?_⟩
  refine ⟨c.ru, c.rl, c.ps, c.g, rfl, A0.rule, ok.pr.good.hi, fun p1 H1 s1 hp1 => ?_⟩
  refine ⟨_, rfl, ru, rl, ps, g, rfl, Ru.same s1, Pg.good.hi, fun p2 H2 s2 hp2 => ?_⟩
  refine ⟨_, _, ints_rep (s2 _ _ hp1), ints_rep hp2, ints_lay _, ints_lay _, ints_dep _, _, rfl, ?_⟩
  show if (!PyData.eqv _ _) = true then _ else _
  rw [ints_eqv]
  have s02 := s1.trans s2
  by_cases hw : c.ps.map (·.2) = ps.map (·.2)
  ·rw [decide_eq_true hw]
   refine iteF ?_
   obtain ⟨fs, fg, LY', LZ', Ef, ly', lz', tk, q⟩ := q hw
   have A2 := A0.same s02
   have hlp : c.ps.length = ps.length := by have := congrArg List.length hw; simpa using this
   have hEl : (c.es.map V.int ++ [gv c.ge]).length = ps.length + 1 := by simp [ok.es, hlp]
   have g5 := Pg.good.hi
   walk_at "r"
   refine ⟨ro, dx, _, rfl, s02 _ _ hob, rof_day _ _ _ _ _, ro, _, rfl, A2, ?_⟩
   refine ⟨_, rfl, ro, dx, _, rfl, s02 _ _ hob, rof_edges _ _ _ _ _, ro, _, rfl, A2, fun le H3 n3 => ?_⟩
   have s03 := s02.trans n3.same
   refine ⟨ru, rl, le, ps, g, c.day, _, rfl, Ru.same s03, Pg, hd, n3.at_, E0'.ed, Nat.le_trans (Nat.le_of_eq hEl) (by omega), fun z => absurd hEl z, fun _ => ⟨c.es, c.ge, E0', by rw [ok.es, hlp], fun r' c' H4 A4 e1 e2 e3 eY eZ Ec hcl s4 f1 f2 w1 => ?_⟩⟩
   obtain ⟨z1, z2⟩ := EdS.uniq Ec Ef
   have okc : qct c' := ⟨by rw [e1, e2]; exact Pg, by rw [hcl, e1]⟩
   have ec : { c' with Y := [], Z := [] } = c' := by
    cases c'
    simp only at eY eZ
    rw [eY, eZ]
   have R4 : RR C_Roll C_Rule H4 r' c' abs0 LY' LZ' := ⟨[], [], by rw [ec]; exact A4, RAbs.zero rfl rfl⟩
   have s04 := s03.trans s4
   have ecell : cellD c' = qbh (ps.map (·.2)) fs fg := by unfold cellD; rw [e1, z1, z2]
   obtain ⟨dx4, hob4⟩ := R4.obj
   obtain ⟨⟨Yr, hYr⟩, ⟨Zr, hZr⟩⟩ := (R0.same s03).dicts
   walk_at "r"
   refine ⟨r', dx4, _, rfl, hob4, rof_no _ _ _ _ _ (by decide +kernel) (by decide +kernel) (by decide +kernel) (by decide +kernel) (by decide +kernel), ?_⟩
   walk_at "r"
   refine ⟨r', ro, c', c, abs0, s', LY', LZ', LY, LZ, rfl, R4, R0.same s04, okc, ⟨qag hYr f1, qag hYr f2, qag hZr f1, qag hZr f2⟩, ly', lz', ly, lz, by rw [ecell]; exact tk, fun H5 R5 b5 => ?_⟩
   rw [ecell] at R5
   walk_at "r"
   exact q r' c' H5 e1 e2 e3 z1 z2 okc R5 (fun b o e => b5 _ _ (s04 _ _ e) (qag (s03 _ _ e) f1) (qag (s03 _ _ e) f2)) ⟨s03.free f1, s03.free f2⟩
  ·rw [decide_eq_false hw]
   refine iteT ?_
   walk_at "r"
   exact qE hw H2 s02
end
section
variable {P : Program} {w : World} {K : Frag} {mg : Str -> Option Value} {base : Heap} {C_Roll C_Rule C_BookError C_NoNumber C_NoRule C_Backward : Addr}
def sp_same34 (R : Addr) : Sp := fun vs H Q _ => ∃ (ru rl ru2 rl2 : Addr) (ps ps2 : List (Int × Int)) (g g2 : Option Int), vs = [.ref ru, .ref ru2] /\ RuleAt R H ru rl ps g /\ RuleAt R H ru2 rl2 ps2 g2 /\ ∀ H', Same H H' -> Q (.bl (decide (ps = ps2 /\ g = g2))) H'
theorem D_same_rules (T : Txt K mg C_Roll C_Rule C_BookError C_NoNumber C_NoRule C_Backward) : qbs P w K mg base 3 "same_rules" ["one", "other"] (sp_same34 C_Rule) := by
 obtain ⟨f, fd, F, hm⟩ := T.f_same_rules
 have nd := sc_same_rules.nd
 refine F.def_ hm (F.ok sc_same_rules (fun vs H Q E h => ?_) (fun cdv A outer s H vs Q E hr h => ?_)) (F.binds fun _ _ _ _ _ _ us hl => by obtain ⟨_, _, rfl⟩ := L2.lq2 hl; rfl)
 ·obtain ⟨ru, rl, ru2, rl2, ps, ps2, g, g2, rfl, _⟩ := h; rfl
 ·obtain ⟨ru, rl, ru2, rl2, ps, ps2, g, g2, rfl, R1, R2, q⟩ := h
  obtain ⟨dx1, hru1⟩ := R1.ob
  obtain ⟨xr1, hxl1, hxr1⟩ := R1.ls
  obtain ⟨dx2, hru2⟩ := R2.ob
  obtain ⟨xr2, hxl2, hxr2⟩ := R2.ls
  have nst : ∀ l g, (rf l (gv g)).lookup ("steps" : Str) = none := fun _ _ => TB.rf_no _ _ (by decide +kernel) (by decide +kernel)
  have ngo : ∀ l g, (rf l (gv g)).lookup ("gone" : Str) = none := fun _ _ => TB.rf_no _ _ (by decide +kernel) (by decide +kernel)
  refine ⟨_, (qaf (qar (pe_and (qd3 (op_eqD hr.units) (qbb (pv 0) T.cl_Rule (qbx T) (hr.mono (by decide))) (qbb (pv 1) T.cl_Rule (qbx T) (hr.mono (by decide))) (qax _)) (pe_one (qd3 (op_eqD hr.units) (qbb (pv 0) T.cl_Rule (qeb T) (hr.mono (by decide))) (qbb (pv 1) T.cl_Rule (qeb T) (hr.mono (by decide))) (qax _)))))), ?_⟩
  refine ⟨_, rfl, ru, dx1, _, rfl, hru1, nst _ _, ru, rl, ps, g, xr1, rfl, R1, hxl1, fun l1 H1 n1 => ?_⟩
  refine ⟨_, rfl, ru2, dx2, _, rfl, n1.same _ _ hru2, nst _ _, ru2, rl2, ps2, g2, xr2, rfl, R2.same n1.same, n1.same _ _ hxl2, fun l2 H2 n2 => ?_⟩
  have s02 := n1.same.trans n2.same
  refine ⟨qdp ps, qdp ps2, Pairs.rep (n2.same _ _ n1.at_) (hxr1.same s02), Pairs.rep n2.at_ (hxr2.same s02), qdu _, qdu _, dep_pairs _, _, rfl, ?_⟩
  show if (PyData.eqv _ _) = true then _ else _
  rw [pairs_eqv]
  have q2 := q H2 s02
  by_cases h1 : ps = ps2
  ·rw [decide_eq_true h1]
   refine iteT ?_
   refine ⟨_, rfl, ru, dx1, _, rfl, s02 _ _ hru1, ngo _ _, ru, rl, ps, g, rfl, R1.same s02, ?_⟩
   refine ⟨_, rfl, ru2, dx2, _, rfl, s02 _ _ hru2, ngo _ _, ru2, rl2, ps2, g2, rfl, R2.same s02, ?_⟩
   refine ⟨dV (gv g), dV (gv g2), gv_rep g, gv_rep g2, gv_lay g, gv_lay g2, gv_dep g, ?_⟩
   show Q (V.bl (PyData.eqv _ _)) H2
   rw [gv_eqv]
   have e : decide (ps = ps2 /\ g = g2) = decide (g = g2) := by simp [h1]
   rw [e] at q2
   exact q2
  ·rw [decide_eq_false h1]
   refine iteF ?_
   have e : decide (ps = ps2 /\ g = g2) = false := by simp [h1]
   rw [e] at q2
   exact q2
def sp_both34 (C R N : Addr) : Sp := fun vs H Q E => ∃ (r1 r2 : Addr) (c1 c2 : qa1) (s1 s2 : Abs) (LY1 LZ1 LY2 LZ2 : List (List Int)), vs = [.ref r1, .ref r2] /\ RR C R H r1 c1 s1 LY1 LZ1 /\ RR C R H r2 c2 s2 LY2 LZ2 /\ qct c1 /\ qct c2 /\ EdS (c1.es.map V.int ++ [gv c1.ge]) c1.es c1.ge /\ EdS (c2.es.map V.int ++ [gv c2.ge]) c2.es c2.ge /\ Bd c1.day /\ Bd c2.day /\ LY1.length < 64 /\ LZ1.length < 64 /\ LY2.length < 64 /\ LZ2.length < 64 /\
 (¬ (c1.ps = c2.ps /\ c1.g = c2.g) -> ∀ H', Same H H' -> E (.ref N) none H') /\
 (c1.ps = c2.ps /\ c1.g = c2.g -> ∃ (fs : List Int) (fg : Option Int) (LY' LZ' : List (List Int)), EdS (List.zipWith gE (eV c1.ps c1.g (if c2.day > c1.day then c2.day else c1.day)) (List.zipWith gE (c1.es.map V.int ++ [gv c1.ge]) (c2.es.map V.int ++ [gv c2.ge]))) fs fg /\ LY'.length < 64 /\ LZ'.length < 64 /\ TakeOk (qbh (c1.ps.map (·.2)) fs fg) LY' LZ' (qbu s1) (qb4 s1) /\ TakeOk (qbh (c1.ps.map (·.2)) fs fg) LY' LZ' (qbu s2) (qb4 s2) /\
  ∀ r' c' H', c'.ps = c1.ps -> c'.g = c1.g -> c'.day = (if c2.day > c1.day then c2.day else c1.day) -> c'.es = fs -> c'.ge = fg -> qct c' -> RR C R H' r' c' (qdw (qbh (c1.ps.map (·.2)) fs fg) abs0 (qbu s1 ++ qbu s2) (qb4 s1 ++ qb4 s2)) LY' LZ' -> Same H H' -> (H c'.dy = none /\ H c'.dh = none) -> Q (.ref r') H')
theorem D_both (T : Txt K mg C_Roll C_Rule C_BookError C_NoNumber C_NoRule C_Backward) : DefX P w K mg base 7 "both" ["one", "other"] [] (sp_both34 C_Roll C_Rule C_NoRule) := by
 obtain ⟨f, fd, F, hm⟩ := T.f_both
 have nd := sc_both.nd
 refine ⟨f, fd, (F.okX sc_both (fun vs H Q E h => ?_) (fun cdv A outer s H vs Q E hr h => ?_)), hm, F.kp, (F.binds fun _ _ _ _ _ _ us hl => by obtain ⟨_, _, rfl⟩ := L2.lq2 hl; rfl)⟩
 ·obtain ⟨r1, r2, c1, c2, s1, s2, LY1, LZ1, LY2, LZ2, rfl, _⟩ := h; rfl
 ·obtain ⟨r1, r2, c1, c2, s1', s2', LY1, LZ1, LY2, LZ2, rfl, R1, R2, ok1, ok2, E1, E2, d1, d2, ly1, lz1, ly2, lz2, qE, q⟩ := h
  obtain ⟨dx1, hob1⟩ := R1.obj
  obtain ⟨dx2, hob2⟩ := R2.obj
  obtain ⟨Y1, Z1, A1, B1⟩ := id R1
  obtain ⟨Y2, Z2, A2, B2⟩ := id R2
  refine ⟨_, (qac (qbl (pt_not (pt_val (qa4 (D_same_rules T) (hr.mono (by decide)) rfl (qaa (qbb (pv 0) T.cl_Roll (qca T) (hr.mono (by decide))) (qaa (qbb (pv 1) T.cl_Roll (qca T) (hr.mono (by decide))) qae))))) (qaf (ps_raise (qb0 ⟨rfl, rfl, rfl⟩) rfl T.ex_NoRule rfl T.mg_NoRule (qaa pe_str qae)))
    qa0) (qac (qas (i := 2) nd rfl (Or.inl rfl) (pe_fnX (qb0 ⟨rfl, rfl, rfl⟩) (D_begun T) (hr.mono (by decide)) rfl .nil (qaa (qbb (pv 0) T.cl_Roll (qca T) (hr.mono (by decide))) (qaa (qay (call_max2 rfl) rfl T.b_max bt_max (qaa (qbb (pv 0) T.cl_Roll (qd2 T) (hr.mono (by decide))) (qaa (qbb (pv 1) T.cl_Roll (qd2 T) (hr.mono (by decide))) qae))) (qaa (pe_fnX (qb0 ⟨rfl, rfl, rfl⟩) (D_greater T) (hr.mono (by decide)) rfl .nil (qaa (qbb (pv 0) T.cl_Roll (qc5 T) (hr.mono (by decide))) (qaa (qbb (pv 1) T.cl_Roll (qc5 T) (hr.mono (by decide))) qae))) qae))))) (qac (qbi (pe_mt (pv 2) T.cl_Roll (qcl T) (hr.mono (by decide)) (qaa (pv 0) qae))) (qac (qbi (pe_mt (pv 2) T.cl_Roll (qcl T) (hr.mono (by decide)) (qaa (pv 1) qae))) (qaf (qar (pv 2))))))), ?_⟩
  refine ⟨_, rfl, r1, dx1, _, rfl, hob1, qd9 _ _ _ _ _, r1, _, rfl, A1, ?_⟩
  refine ⟨_, rfl, r2, dx2, _, rfl, hob2, qd9 _ _ _ _ _, r2, _, rfl, A2, ?_⟩
  refine ⟨c1.ru, c1.rl, c2.ru, c2.rl, c1.ps, c2.ps, c1.g, c2.g, rfl, A1.rule, A2.rule, fun H1 s1 => ?_⟩
  by_cases hw : c1.ps = c2.ps /\ c1.g = c2.g
  ·rw [decide_eq_true hw]
   obtain ⟨fs, fg, LY', LZ', Ef, ly', lz', tk1, tk2, q⟩ := q hw
   have A1a := A1.same s1
   have A2a := A2.same s1
   have hlp : c2.es.length = c1.ps.length := by rw [ok2.es, hw.1]
   have l1v : (c1.es.map V.int ++ [gv c1.ge]).length = c1.ps.length + 1 := by simp [ok1.es]
   have l2v : (c2.es.map V.int ++ [gv c2.ge]).length = c1.ps.length + 1 := by simp [hlp]
   have g5 := ok1.pr.good.hi
   have E12 := E1.max E2 (by rw [ok1.es, hlp])
   have hday : Bd (if c2.day > c1.day then c2.day else c1.day) := by split; exact d2; exact d1
   walk_at "r"
   refine ⟨r1, dx1, _, rfl, s1 _ _ hob1, qd9 _ _ _ _ _, r1, _, rfl, A1a, ?_⟩
   walk_at "r"
   refine ⟨r1, dx1, _, rfl, s1 _ _ hob1, rof_day _ _ _ _ _, r1, _, rfl, A1a, ?_⟩
   walk_at "r"
   refine ⟨r2, dx2, _, rfl, s1 _ _ hob2, rof_day _ _ _ _ _, r2, _, rfl, A2a, ?_⟩
   walk_at "r"
   refine ⟨r1, dx1, _, rfl, s1 _ _ hob1, rof_edges _ _ _ _ _, r1, _, rfl, A1a, fun l1 H2 n2 => ?_⟩
   walk_at "r"
   refine ⟨r2, dx2, _, rfl, n2.same _ _ (s1 _ _ hob2), rof_edges _ _ _ _ _, r2, _, rfl, A2a.same n2.same, fun l2 H3 n3 => ?_⟩
   refine ⟨l1, l2, _, _, rfl, n3.same _ _ n2.at_, n3.at_, E1.ed, E2.ed, Nat.le_trans (Nat.le_of_eq l1v) (by omega), fun hl p H4 n4 => ?_, fun hne => absurd (l1v.trans l2v.symm) hne⟩
   have s04 : Same H H4 := s1.trans (n2.same.trans (n3.same.trans n4.same))
   have lzw : (List.zipWith gE (c1.es.map V.int ++ [gv c1.ge]) (c2.es.map V.int ++ [gv c2.ge])).length = c1.ps.length + 1 := by rw [List.length_zipWith, l1v, l2v]; omega
   have lze : (List.zipWith (fun i j => if j > i then j else i) c1.es c2.es).length = c1.ps.length := by rw [List.length_zipWith, ok1.es, hlp]; omega
   refine ⟨c1.ru, c1.rl, p, c1.ps, c1.g, _, _, rfl, A1.rule.same s04, ok1.pr, hday, n4.at_, E12.ed, Nat.le_trans (Nat.le_of_eq lzw) (by omega), fun z => absurd lzw z, fun _ => ⟨_, _, E12, lze, fun r' c' H5 A5 e1 e2 e3 eY eZ Ec hcl s5 f1 f2 w1 => ?_⟩⟩
   obtain ⟨z1, z2⟩ := EdS.uniq Ec Ef
   have okc : qct c' := ⟨by rw [e1, e2]; exact ok1.pr, by rw [hcl, e1]⟩
   have ec : { c' with Y := [], Z := [] } = c' := by
    cases c'
    simp only at eY eZ
    rw [eY, eZ]
   have R5 : RR C_Roll C_Rule H5 r' c' abs0 LY' LZ' := ⟨[], [], by rw [ec]; exact A5, RAbs.zero rfl rfl⟩
   have s05 := s04.trans s5
   have ecell : cellD c' = qbh (c1.ps.map (·.2)) fs fg := by unfold cellD; rw [e1, z1, z2]
   obtain ⟨⟨Ya, hYa⟩, ⟨Za, hZa⟩⟩ := (R1.same s04).dicts
   obtain ⟨⟨Yb, hYb⟩, ⟨Zb, hZb⟩⟩ := (R2.same s04).dicts
   obtain ⟨dx5, hob5⟩ := R5.obj
   walk_at "r"
   refine ⟨r', dx5, _, rfl, hob5, rof_no _ _ _ _ _ (by decide +kernel) (by decide +kernel) (by decide +kernel) (by decide +kernel) (by decide +kernel), ?_⟩
   walk_at "r"
   refine ⟨r', r1, c', c1, abs0, s1', LY', LZ', LY1, LZ1, rfl, R5, R1.same s05, okc, ⟨qag hYa f1, qag hYa f2, qag hZa f1, qag hZa f2⟩, ly', lz', ly1, lz1, by rw [ecell]; exact tk1, fun H6 R6 b6 => ?_⟩
   have s06 : Same H H6 := fun b o e => b6 _ _ (s05 _ _ e) (qag (s04 _ _ e) f1) (qag (s04 _ _ e) f2)
   obtain ⟨dx6, hob6⟩ := R6.obj
   walk_at "r"
   refine ⟨r', dx6, _, rfl, hob6, rof_no _ _ _ _ _ (by decide +kernel) (by decide +kernel) (by decide +kernel) (by decide +kernel) (by decide +kernel), ?_⟩
   walk_at "r"
   refine ⟨r', r2, c', c2, _, s2', LY', LZ', LY2, LZ2, rfl, R6, R2.same s06, okc, ⟨qag hYb f1, qag hYb f2, qag hZb f1, qag hZb f2⟩, ly', lz', ly2, lz2, by rw [ecell]; exact tk2, fun H7 R7 b7 => ?_⟩
   rw [ecell, take_two] at R7
   walk_at "r"
   exact q r' c' H7 e1 e2 e3 z1 z2 okc R7 (fun b o e => b7 _ _ (s06 _ _ e) (qag (s04 _ _ e) f1) (qag (s04 _ _ e) f2)) ⟨s04.free f1, s04.free f2⟩
  ·rw [decide_eq_false hw]
   walk_at "r"
   exact qE hw H1 s1
end
section
variable {P : Program} {w : World} {K : Frag} {mg : Str -> Option Value} {base : Heap} {C_Roll C_Rule C_BookError C_NoNumber C_NoRule C_Backward : Addr}
def sp_aged36 (C R : Addr) : Sp := fun vs H Q _ => ∃ (ro : Addr) (c : qa1) (s : Abs) (LY LZ LY' LZ' : List (List Int)) (d : Int) (fs : List Int) (fg : Option Int), vs = [.ref ro, .int d] /\ RR C R H ro c s LY LZ /\ qct c /\ EdS (c.es.map V.int ++ [gv c.ge]) c.es c.ge /\ Bd c.day /\ Bd d /\ c.day <= d /\ LY.length < 64 /\ LZ.length < 64 /\ EdS (List.zipWith gE (eV c.ps c.g d) (c.es.map V.int ++ [gv c.ge])) fs fg /\ LY'.length < 64 /\ LZ'.length < 64 /\ TakeOk (qbh (c.ps.map (·.2)) fs fg) LY' LZ' (qbu s) (qb4 s) /\
  ∀ r' c' H', c'.ps = c.ps -> c'.g = c.g -> c'.day = d -> c'.es = fs -> c'.ge = fg -> qct c' -> RR C R H' r' c' (qdw (qbh (c.ps.map (·.2)) fs fg) abs0 (qbu s) (qb4 s)) LY' LZ' -> Same H H' -> (H c'.dy = none /\ H c'.dh = none) -> Q (.ref r') H'
theorem D_aged (T : Txt K mg C_Roll C_Rule C_BookError C_NoNumber C_NoRule C_Backward) : qbs P w K mg base 7 "aged" ["roll", "day"] (sp_aged36 C_Roll C_Rule) := by
 obtain ⟨f, fd, F, hm⟩ := T.f_aged
 have nd := sc_aged.nd
 refine F.def_ hm (F.ok sc_aged (fun vs H Q E h => ?_) (fun cdv A outer s H vs Q E hr h => ?_)) (F.binds fun _ _ _ _ _ _ us hl => by obtain ⟨_, _, rfl⟩ := L2.lq2 hl; rfl)
 ·obtain ⟨ro, c, s', LY, LZ, LY', LZ', d, fs, fg, rfl, _⟩ := h; rfl
 ·obtain ⟨ro, c, s', LY, LZ, LY', LZ', d, fs, fg, rfl, R0, ok, E0', hd0, hd, hle, ly, lz, Ef, ly', lz', tk, q⟩ := h
  obtain ⟨dx, hob⟩ := R0.obj
  obtain ⟨Y0, Z0, A0, B0⟩ := id R0
  have hEl : (c.es.map V.int ++ [gv c.ge]).length = c.ps.length + 1 := by simp [ok.es]
  have g5 := ok.pr.good.hi
  refine ⟨_, (qac (qbl (qat op_lt (pv 1) (qbb (pv 0) T.cl_Roll (qd2 T) (hr.mono (by decide))) (qax _)) (qaf qc8)
    qa0) (qac (qas (i := 2) nd rfl (Or.inl rfl) (pe_fnX (wants_nox ⟨rfl, rfl, rfl⟩) (D_begun T) (hr.mono (by decide)) rfl .nil (qaa (qbb (pv 0) T.cl_Roll (qca T) (hr.mono (by decide))) (qaa (pv 1) (qaa (qbb (pv 0) T.cl_Roll (qc5 T) (hr.mono (by decide))) qae))))) (qac (qbi (pe_mt (pv 2) T.cl_Roll (qcl T) (hr.mono (by decide)) (qaa (pv 0) qae))) (qaf (qar (pv 2)))))), ?_⟩
  walk_at "r"
  refine ⟨ro, dx, _, rfl, hob, rof_day _ _ _ _ _, ro, _, rfl, A0, ?_⟩
  walk_at "r"
  refine ite2 (fun z => absurd (of_decide_eq_true z) (by show ¬ d < c.day; omega)) fun _ => ?_
  walk_at "r"
  refine ⟨ro, dx, _, rfl, hob, qd9 _ _ _ _ _, ro, _, rfl, A0, ?_⟩
  walk_at "r"
  refine ⟨ro, dx, _, rfl, hob, rof_edges _ _ _ _ _, ro, _, rfl, A0, fun le H3 n3 => ?_⟩
  have s03 := n3.same
  refine ⟨c.ru, c.rl, le, c.ps, c.g, d, _, rfl, A0.rule.same s03, ok.pr, hd, n3.at_, E0'.ed, Nat.le_trans (Nat.le_of_eq hEl) (by omega), fun z => absurd hEl z, fun _ => ⟨c.es, c.ge, E0', ok.es, fun r' c' H4 A4 e1 e2 e3 eY eZ Ec hcl s4 f1 f2 w1 => ?_⟩⟩
  obtain ⟨z1, z2⟩ := EdS.uniq Ec Ef
  have okc : qct c' := ⟨by rw [e1, e2]; exact ok.pr, by rw [hcl, e1]⟩
  have ec : { c' with Y := [], Z := [] } = c' := by
   cases c'
   simp only at eY eZ
   rw [eY, eZ]
  have R4 : RR C_Roll C_Rule H4 r' c' abs0 LY' LZ' := ⟨[], [], by rw [ec]; exact A4, RAbs.zero rfl rfl⟩
  have s04 := s03.trans s4
  have ecell : cellD c' = qbh (c.ps.map (·.2)) fs fg := by unfold cellD; rw [e1, z1, z2]
  obtain ⟨dx4, hob4⟩ := R4.obj
  obtain ⟨⟨Yr, hYr⟩, ⟨Zr, hZr⟩⟩ := (R0.same s03).dicts
  walk_at "r"
  refine ⟨r', dx4, _, rfl, hob4, rof_no _ _ _ _ _ (by decide +kernel) (by decide +kernel) (by decide +kernel) (by decide +kernel) (by decide +kernel), ?_⟩
  walk_at "r"
  refine ⟨r', ro, c', c, abs0, s', LY', LZ', LY, LZ, rfl, R4, R0.same s04, okc, ⟨qag hYr f1, qag hYr f2, qag hZr f1, qag hZr f2⟩, ly', lz', ly, lz, by rw [ecell]; exact tk, fun H5 R5 b5 => ?_⟩
  rw [ecell] at R5
  walk_at "r"
  exact q r' c' H5 e1 e2 e3 z1 z2 okc R5 (fun b o e => b5 _ _ (s04 _ _ e) (qag (s03 _ _ e) f1) (qag (s03 _ _ e) f2)) ⟨s03.free f1, s03.free f2⟩
end
section
variable {P : Program} {w : World} {K : Frag} {mg : Str -> Option Value} {base : Heap} {C_Roll C_Rule C_BookError C_NoNumber C_NoRule C_Backward : Addr}
theorem valV_at : ∀ {kvs : KV} {i : Nat} {k : List Key} {v : V}, (kvs.map (·.1)).Nodup -> kvs[i]? = some (k, v) -> valV kvs k = some v
 | [], _, _, _, _, h => by simp at h
 | (k', v') :: t, 0, k, v, _, h => by
  simp at h
  obtain ⟨rfl, rfl⟩ := h
  simp [valV]
 | (k', v') :: t, i + 1, k, v, nd, h => by
  have h' : t[i]? = some (k, v) := by simpa using h
  rw [List.map_cons, List.nodup_cons] at nd
  have hk : k' ≠ k := fun z => nd.1 (by rw [z]; exact List.mem_map.mpr ⟨(k, v), List.mem_of_getElem? h', rfl⟩)
  have := valV_at nd.2 h'
  unfold valV at this ⊢
  rw [List.find?_cons_of_neg (by simpa using hk)]
  exact this
theorem kI_nodup {ks : List (List Int)} (h : ks.Nodup) : (ks.map kI).Nodup := by
 rw [List.nodup_iff_pairwise_ne, List.pairwise_map]
 exact h.imp fun hne e => hne (kI_inj e)
theorem rows_nodup {ks : List (List Int)} {f : List Int -> List Int} (hf : ∀ k, ∃ t, f k = k ++ t) (h2 : ∀ k ∈ ks, k.length = 2) (nd : ks.Nodup) : (ks.map f).Nodup := by
 rw [List.nodup_iff_pairwise_ne, List.pairwise_map]
 refine List.Pairwise.imp_of_mem (fun {k l} hk hl hne e => ?_) nd
 obtain ⟨t, e1⟩ := hf k
 obtain ⟨u, e2⟩ := hf l
 rw [e1, e2] at e
 exact hne (List.append_inj_left e ((h2 k hk).trans (h2 l hl).symm))
theorem same_thaw {H H3 : Hp} {d : Addr} {kvs : KV} (b : But d H H3) (h : H d = some (.dT kvs)) : Same H (upd H3 d (.dT kvs)) := fun x o e => by
 by_cases hx : x = d
 ·subst hx; rw [qa8, <- h]; exact e
 ·rw [qau hx]; exact b x o e hx
theorem yRow_app (s : Abs) (k : List Int) : ∃ t, yRow s k = k ++ t := ⟨_, rfl⟩
theorem zRow_app (s : Abs) (k : List Int) : ∃ t, zRow s k = k ++ t := ⟨_, rfl⟩
theorem TupS.frz {H : Hp} {d : Addr} {o : HO} {u : Obj} {v : HO} (h : H d = some (.frz u v)) : TupS H (upd H d o) := fun b xs e => by
 rw [qau (qbk e h (by intro z; cases z))]; exact e
theorem blt_pre : ∀ {k l : List Int} (a b : List Int), k.length = l.length -> k ≠ l -> blt (k ++ a) (l ++ b) = blt k l
 | [], [], _, _, _, h => absurd rfl h
 | [], _ :: _, _, _, e, _ => by simp at e
 | _ :: _, [], _, _, e, _ => by simp at e
 | x :: k, y :: l, a, b, e, h => by
  have e' : k.length = l.length := by simpa using e
  rw [List.cons_append, List.cons_append]
  unfold blt
  by_cases h1 : x = y
  ·subst h1
   rw [if_pos rfl, if_pos rfl]
   exact blt_pre a b e' (fun z => h (by rw [z]))
  ·rw [if_neg h1, if_neg h1]
theorem rows_sk {ks R : List (List Int)} {f : List Int -> List Int} (hf : ∀ k, ∃ t, f k = k ++ t) (h2 : ∀ k ∈ ks, k.length = 2) (nd : ks.Nodup) (pR : R.Perm (ks.map f)) (sR : R.Pairwise fun k l => blt k l = true) : ∃ ms : List (List Int), ms.Perm ks /\ (ms.Pairwise fun k l => blt k l = true) /\ R = ms.map f := by
 have hr : ∀ r ∈ R, ∃ k, k ∈ ks /\ r = f k := fun r hr => by
  obtain ⟨k, hk, e⟩ := List.mem_map.mp (pR.mem_iff.mp hr)
  exact ⟨k, hk, e.symm⟩
 have ht : ∀ k ∈ ks, (f k).take 2 = k := fun k hk => by
  obtain ⟨t, e⟩ := hf k
  rw [e, List.take_append_of_le_length (by rw [h2 k hk]; exact Nat.le_refl _), List.take_of_length_le (by rw [h2 k hk]; exact Nat.le_refl _)]
 have eR : R = (R.map fun r => r.take 2).map f := by
  rw [List.map_map]
  conv => lhs; rw [<- List.map_id R]
  refine List.map_congr_left fun r h => ?_
  obtain ⟨k, hk, rfl⟩ := hr r h
  show f k = f ((f k).take 2)
  rw [ht k hk]
 have pm : (R.map fun r => r.take 2).Perm ks := by
  have := pR.map fun r => r.take 2
  rw [List.map_map] at this
  have e : ks.map ((fun r => r.take 2) ∘ f) = ks := by
   conv => rhs; rw [<- List.map_id ks]
   exact List.map_congr_left fun k hk => ht k hk
  rw [e] at this
  exact this
 refine ⟨_, pm, ?_, eR⟩
 have ndR : (R.map fun r => r.take 2).Nodup := pm.nodup_iff.mpr nd
 rw [List.pairwise_map]
 rw [List.nodup_iff_pairwise_ne, List.pairwise_map] at ndR
 refine (sR.and ndR).imp_of_mem fun {a b} ha hb hab => ?_
 obtain ⟨k, hk, rfl⟩ := hr a ha
 obtain ⟨l, hl, rfl⟩ := hr b hb
 rw [ht k hk, ht l hl] at hab ⊢
 obtain ⟨t, e1⟩ := hf k
 obtain ⟨u, e2⟩ := hf l
 rw [e1, e2, blt_pre _ _ ((h2 k hk).trans (h2 l hl).symm) hab.2] at hab
 exact hab.1
def sp_group35 : Sp := fun vs H Q _ => ∃ (lr e l : Addr) (ys EV xs : List V) (rs : List Rd3) (es : List Int) (ge : Option Int) (ps : List (Int × Int)) (g : Option Int), vs = [.ref lr, .ref e, .ref l] /\ H lr = some (.lst ys) /\ Tups H ys (rs.map l3) /\ (∀ r ∈ rs, ROk r) /\ rs.length < 60 /\ H e = some (.lst EV) /\ EdS EV es ge /\ es.length = ps.length /\ H l = some (.lst xs) /\ Pairs H xs ps /\ Pr ps g /\
 ∀ t l1 l2 xs1 xs2 H', Same H H' -> H' t = some (.tup [.ref l1, .ref l2]) -> H' l1 = some (.lst xs1) -> Tups H' xs1 (qbu (qde (qbh (ps.map (·.2)) es ge) rs)) -> H' l2 = some (.lst xs2) -> Tups H' xs2 (qb4 (qde (qbh (ps.map (·.2)) es ge) rs)) -> Q (.ref t) H'
theorem D__law_grouped (T : Txt K mg C_Roll C_Rule C_BookError C_NoNumber C_NoRule C_Backward) : qbs P w K mg base 2 "_law_grouped" ["_law_readings", "_law_edges_here", "_law_rows"] sp_group35 := by
 obtain ⟨f, fd, F, hm⟩ := T.f__law_grouped
 have nd := sc__law_grouped.nd
 refine F.def_ hm (F.ok sc__law_grouped (fun vs H Q E h => ?_) (fun cdv A outer s H vs Q E hr h => ?_)) (F.binds fun _ _ _ _ _ _ us hl => by obtain ⟨_, _, _, rfl⟩ := L2.lq3 hl; rfl)
 ·obtain ⟨lr, e, l, ys, EV, xs, rs, es, ge, ps, g, rfl, _⟩ := h; rfl
 ·obtain ⟨lr, e, l, ys, EV, xs, rs, es, ge, ps, g, rfl, hlr, hT, hR, h60, he, Ee, hel, hl, hp, Pg, q⟩ := h
  have g1 := Pg.good.lo
  have g5 := Pg.good.hi
  have hyl := hT.length
  rw [List.length_map] at hyl
  refine ⟨_, (qac (qas (i := 3) nd rfl (Or.inl rfl) pe_dnewN) (qac (qas (i := 4) nd rfl (Or.inl rfl) pe_dnewN) (qac (qdt PassesOwn.never rfl (qbr (pv 0)) (qb2 rfl (qal (qaj (i := 5) nd rfl (Or.inl rfl)) (qal (qaj (i := 6) nd rfl (Or.inl rfl)) (qal (qaj (i := 7) nd rfl (Or.inl rfl)) qbf)))) (qac (qas (i := 8) nd rfl (Or.inl rfl) (qa4 (D__law_home T) (hr.mono (by decide)) rfl (qaa (pv 1) (qaa (pv 2) (qaa (pv 5) qae))))) (qaf (qbl (PW.pt (pw_and (qat op_notN (pv 8) qb1 (qax _)) (pw_and1 (qat op_eq (qai qav (pv 8) qab (fun _ _ => rfl)) qab (qax _))))) (qaf (ps_dput (hu_of hr) (pv 3) (qa5 (qaa (pv 5) (qaa (pv 6) qae))) (qak qbc (pe_dget2 (hu_of hr) (pv 3) (qa5 (qaa (pv 5) (qaa (pv 6) qae))) qab ⟨rfl, rfl, rfl, rfl⟩) (pv 7)) rfl)) (qaf (qbl (qat op_notN (pv 8) qb1 (qax _)) (qac (qas (i := 9) nd rfl (Or.inl rfl) (pe_dget2 (hu_of hr) (pv 4) (pv 8) (qa5 (qaa qab (qaa qab (qaa (pv 6) (qaa (pv 6) qae))))) ⟨rfl, rfl, rfl, rfl⟩)) (qaf (ps_dput (hu_of hr) (pv 4) (pv 8) (qa5 (qaa (qak qbc (qai qav (pv 9) qab (fun _ _ => rfl)) (pv 7)) (qaa (qak qbc (qai qav (pv 9) qab (fun _ _ => rfl)) (qak op_mulB (pv 6) (pv 7))) (qaa (qay (call_min2 rfl) rfl T.b_min bt_min (qaa (qai qav (pv 9) qab (fun _ _ => rfl)) (qaa (pv 6) qae))) (qaa (qay (call_max2 rfl) rfl T.b_max bt_max (qaa (qai qav (pv 9) qab (fun _ _ => rfl)) (qaa (pv 6) qae))) qae))))) rfl)))
    qa0)))))) (qac (qas (i := 10) nd rfl (Or.inl rfl) (qay call_sortedL rfl T.b_sorted bt_sorted (qaa (pe_thaw (pe_lc (vars := ["_law_key", "_law_many"]) (frees := []) (fv := []) rfl (lcOk rfl rfl (by decide +kernel) (by decide +kernel) (by intro p hp; cases hp) rfl) trivial (pi_items (pv 3)) (qdr (by decide) (by decide)) (fun _ _ _ _ => (qb2 rfl (qal (qaj (i := 0) (show (["_law_key", "_law_many"] : List Str).Nodup by decide +kernel) rfl (Or.inl rfl)) (qal (qaj (i := 1) (show (["_law_key", "_law_many"] : List Str).Nodup by decide +kernel) rfl (Or.inl rfl)) qbf)))) (fun _ _ _ _ => qby) (fun _ _ _ _ => (qak (show OpR _ _ (rCatTN K) from op_catTN) (pv 0) (qa5 (qaa (pv 1) qae)))))) qae))) (qaf (qar (qa5 (qaa (pv 10) (qaa (qay call_sortedL rfl T.b_sorted bt_sorted (qaa (pe_thaw (pe_lc (vars := ["_law_home_here", "_law_heap"]) (frees := []) (fv := []) rfl (lcOk rfl rfl (by decide +kernel) (by decide +kernel) (by intro p hp; cases hp) rfl) trivial (pi_items (pv 4)) (qdr (by decide) (by decide)) (fun _ _ _ _ => (qb2 rfl (qal (qaj (i := 0) (show (["_law_home_here", "_law_heap"] : List Str).Nodup by decide +kernel) rfl (Or.inl rfl)) (qal (qaj (i := 1) (show (["_law_home_here", "_law_heap"] : List Str).Nodup by decide +kernel) rfl (Or.inl rfl)) qbf)))) (fun _ _ _ _ => qby) (fun _ _ _ _ => (qak (show OpR _ _ (rCatTN K) from op_catTN) (pv 0) (pv 1))))) qae)) qae))))))))), ?_⟩
  intro wY H1 n1
  intro wZ H2 n2
  generalize hcell : qbh (ps.map (·.2)) es ge = cell at q
  refine ⟨_, rfl, lr, rfl, ⟨_, SqL.of (n2.same _ _ (n1.same _ _ hlr))⟩, for_list (xs := ys) (fun i σ H3 => Same H H3 /\ (∃ Y Z, H3 wY = some (.dT Y) /\ H3 wZ = some (.dT Z) /\ RAbs H3 (dd Y Z) (qde cell (rs.take i)) (rs.map yKey) (rs.map (zKey cell))) /\ ∃ v5 v6 v7 v8 v9 : Option V, σ = [some (.ref lr), some (.ref e), some (.ref l), some (.ref wY), some (.ref wZ), v5, v6, v7, v8, v9, none]) ⟨n1.same.trans n2.same, ⟨[], [], n2.same _ _ n1.at_, n2.at_, RAbs.zero rfl rfl⟩, none, none, none, none, none, rfl⟩ (fun i σ H3 _ h3 => SqL.of (h3.1 _ _ hlr)) ?_ ?_⟩
  ·rintro i x σ H3 hxi ⟨s3, ⟨Y, Z, hY, hZ, RA⟩, v5, v6, v7, v8, v9, rfl⟩
   obtain ⟨r', hr', ta, rfl, hta⟩ := hT.get hxi
   rw [List.getElem?_map] at hr'
   obtain ⟨⟨t, v, m⟩, hri, rfl⟩ := Option.map_eq_some_iff.mp hr'
   have hm := List.mem_of_getElem? hri
   have ok := hR _ hm
   have htk : rs.take (i + 1) = rs.take i ++ [(t, v, m)] := takeN _ i _ hri
   have hyk : [t, v] ∈ rs.map yKey := List.mem_map.mpr ⟨(t, v, m), hm, rfl⟩
   have hzk : ∀ a w, cell t = some (a, w) -> [a, w] ∈ rs.map (zKey cell) := fun a w e => List.mem_map.mpr ⟨(t, v, m), hm, by unfold zKey; rw [e]⟩
   replace hta : H ta = some (.tup [.int t, .int v, .int m]) := hta
   have nYZ : wY ≠ wZ := qag n1.at_ n2.fresh
   refine ⟨ta, _, rfl, SqT.of (s3 _ _ hta), rfl, _, _, rfl, _, _, rfl, _, _, rfl, rfl, ?_⟩
   refine ⟨_, rfl, _, rfl, _, rfl, e, EV, es, ge, l, xs, ps, t, rfl, s3 _ _ he, Ee, hel, s3 _ _ hl, hp.same s3, Pg.size, g1, g5, fun hv o H4 hc cat s4 => ?_⟩
   have eo : cell t = o := by rw [<- hcell]; exact cellF_eq (by omega) hc
   have hw := fun (p : Int × Int) (e : o = some p) => CellOf.some_ (p := p) (by rw [<- e]; exact hc) (by omega) fun w' hw' => Pg.w1 hw'
   have hY4 := s4 _ _ hY
   have hZ4 := s4 _ _ hZ
   have RA4 := RA.same s4
   have s04 := s3.trans s4
   have yok : TB.YOk Y := RA4.YOk
   have zok : TB.ZOk H4 Z := RA4.ZOk
   have ly := RA4.ylen
   have lz := RA4.zlen
   rw [List.length_map] at ly lz
   have ly' : Y.length <= rs.length := ly
   have lz' : Z.length <= rs.length := lz
   have hb : RunB (v, m) := ok.2
   have hv1 := hb.1
   have hm1 : 1 <= m := hb.2.1
   have hm2 : m < 10 ^ 45 := hb.2.2
   dsimp only at hv1
   have cm : CMulB v m := by unfold CMulB; omega
   have fin : ∀ Y' Z' H5, Puts H4 H5 (dd Y Z) (dd Y' Z') o t v m -> H5 wY = some (.dT Y') -> H5 wZ = some (.dT Z') -> But2 wY wZ H4 H5 -> ∀ v5 v6 v7 v8 v9 : Option V, Same H H5 /\ (∃ Y Z, H5 wY = some (.dT Y) /\ H5 wZ = some (.dT Z) /\ RAbs H5 (dd Y Z) (qde cell (rs.take (i + 1))) (rs.map yKey) (rs.map (zKey cell))) /\ ∃ a5 a6 a7 a8 a9 : Option V, [some (V.ref lr), some (.ref e), some (.ref l), some (.ref wY), some (.ref wZ), v5, v6, v7, v8, v9, none] = [some (V.ref lr), some (.ref e), some (.ref l), some (.ref wY), some (.ref wZ), a5, a6, a7, a8, a9, none] := by
    intro Y' Z' H5 pu hY5 hZ5 b5 v5 v6 v7 v8 v9
    refine ⟨fun b ob eb => b5 _ _ (s04 _ _ eb) (qag eb n1.fresh) (qag eb (n1.same.free n2.fresh)), ⟨Y', Z', hY5, hZ5, ?_⟩, _, _, _, _, _, rfl⟩
    rw [htk, absOf_snoc]
    exact RA4.put pu eo (b5.tups hY4 hZ4) hyk (fun a w e => hzk a w (eo.trans e))
   cases o with
   | none =>
    cases (show hv = .non from cat)
    walk_at "r"
    exact (fin Y Z H4 (.inl ⟨rfl, rfl⟩) hY4 hZ4 (But2.refl _ _ _) _ _ _ _ _).2
   | some p =>
    obtain ⟨c, rfl, hcv⟩ := cat
    obtain ⟨a, w'⟩ := p
    rcases hw (a, w') rfl with e1 | hw1
    ·cases e1
     walk_at "r"
     refine ⟨.inr ⟨_, .inl hY4⟩, ?_⟩
     walk_at "r"; intro p5 H5 n5
     have hY5 := n5.same _ _ hY4
     refine ⟨_, DGet.t (k := kk t v) hY5 n5.at_, ?_⟩
     rw [yv_get yok]
     walk_at "r"; intro p6 H6 n6
     have s46 : Same H4 H6 := n5.same.trans n6.same
     refine ⟨wY, _, rfl, DPut.t (k := kk t v) (n6.same _ _ hY5) n6.at_ (qaw (by omega)), ?_⟩
     exact fin _ Z _ (.inr (.inl ⟨rfl, rfl⟩)) qa8 (by rw [qau nYZ.symm]; exact s46 _ _ hZ4) (fun b o e h1 _ => qb3 _ _ (s46 _ _ e) h1) _ _ _ _ _
    ·walk_at "r"
     refine ite2 (fun z => ?_) fun z => ?_
     ·exact absurd z (by simp; omega)
     have hcv' : H4 c = some (.tup ((kk a w').map kV)) := hcv
     walk_at "r"
     refine ⟨.inr ⟨_, .inl hZ4⟩, ?_⟩
     walk_at "r"; intro p5 H5 n5
     refine ⟨_, DGet.t (k := kk a w') (n5.same _ _ hZ4) (n5.same _ _ hcv'), ?_⟩
     have hne5 : p5 ≠ wZ := (qag hZ4 n5.fresh).symm
     have hp5 := n5.at_
     cases ez : valV Z (kk a w') with
     | none =>
      have one : HeapOf [(v, m)] (0 + m) (0 + v * m) (if v < v then v else v) (if v > v then v else v) := ⟨by simp [rN, cnts], by simp [rT, prds], by simp [vals], by simp [vals], by simp [vals], by simp [vals]⟩
      show gName 9 (.ref p5) _ H5 _
      walk_at "r"; intro p6 H6 n6
      have s46 : Same H4 H6 := n5.same.trans n6.same
      have hne6 : p6 ≠ wZ := (qag (n5.same _ _ hZ4) n6.fresh).symm
      refine ⟨_, rfl, _, rfl, wZ, _, rfl, DPut.t (k := kk a w') (s46 _ _ hZ4) (s46 _ _ hcv') (qaw (by omega)), ?_⟩
      exact fin Y _ _ (.inr (.inr ⟨a, w', p6, _, _, _, _, rfl, hw1, rfl, by rw [qau hne6]; exact n6.at_, .inl ⟨ez, one⟩⟩)) (by rw [qau nYZ]; exact s46 _ _ hY4) qa8 (fun b o eb _ h2 => qb3 _ _ (s46 _ _ eb) h2) _ _ _ _ _
     | some x =>
      obtain ⟨h0, m0, t0, lo0, hi0, rfl, hh0⟩ := zok _ _ ez
      have hh5 := n5.same _ _ hh0
      show gName 9 (.ref h0) _ H5 _
      walk_at "r"; intro p6 H6 n6
      have s46 : Same H4 H6 := n5.same.trans n6.same
      have hne6 : p6 ≠ wZ := (qag (n5.same _ _ hZ4) n6.fresh).symm
      have one : HeapOf [(v, m)] m (v * m) v v := ⟨by simp [rN, cnts], by simp [rT, prds], by simp [vals], by simp [vals], by simp [vals], by simp [vals]⟩
      refine ⟨_, rfl, _, rfl, wZ, _, rfl, DPut.t (k := kk a w') (s46 _ _ hZ4) (s46 _ _ hcv') (qaw (by omega)), ?_⟩
      exact fin Y _ _ (.inr (.inr ⟨a, w', p6, _, _, _, _, rfl, hw1, rfl, by rw [qau hne6]; exact n6.at_, .inr ⟨h0, m0, t0, lo0, hi0, m, v * m, v, v, ez, hh0, one, rfl, rfl, rfl, rfl⟩⟩)) (by rw [qau nYZ]; exact s46 _ _ hY4) qa8 (fun b o eb _ h2 => qb3 _ _ (s46 _ _ eb) h2) _ _ _ _ _
  ·rintro σ H3 ⟨s3, ⟨Y, Z, hY, hZ, RA⟩, v5, v6, v7, v8, v9, rfl⟩
   rw [hyl, List.take_length] at RA
   generalize qde cell rs = ab at RA q
   obtain ⟨ks, dk, hks⟩ := RA.yk
   obtain ⟨js, dj, hjs⟩ := RA.zk
   have hkl : ks.length < 64 := Nat.lt_of_le_of_lt (List.Nodup.length_le_of_subset dk.nd hks) (by rw [List.length_map]; omega)
   have hjl : js.length < 64 := Nat.lt_of_le_of_lt (List.Nodup.length_le_of_subset dj.nd hjs) (by rw [List.length_map]; omega)
   have yl : Y.length = ks.length := by have := congrArg List.length dk.eq; rw [List.length_map, List.length_map] at this; exact this
   have zl : Z.length = js.length := by have := congrArg List.length dj.eq; rw [List.length_map, List.length_map] at this; exact this
   clear hcell
   refine ⟨_, rfl, wY, Y, rfl, hY, fun ob nf => lc_items (H := H3) (fun i ys H2 => But wY H3 H2 /\ H2 wY = some (.frz ob (.dT Y)) /\ Tups H2 ys ((ks.take i).map (yRow ab))) (Nat.le_of_lt (qaw (by omega))) nf ⟨qb3, qa8, .nil⟩ (fun i ys H2 h2 => ⟨h2.2.1, by rw [h2.2.2.length, List.length_map, List.length_take]; omega⟩) ?_ ?_⟩
   ·rintro i k v b p yy H4 H5 hkv hb n3 ⟨b2, f2, ty⟩
    obtain ⟨key, hki, rfl⟩ : ∃ key, ks[i]? = some key /\ k = kI key := by
     have this : (Y.map (·.1))[i]? = (ks.map kI)[i]? := congrArg (fun z => z[i]?) dk.eq
     have e1 : (Y.map (·.1))[i]? = some k := by rw [List.getElem?_map, hkv]; rfl
     rw [e1, List.getElem?_map] at this
     obtain ⟨key, h1, h2⟩ := Option.map_eq_some_iff.mp this.symm
     exact ⟨key, h1, h2.symm⟩
    have hk2 := dk.ne key (List.mem_of_getElem? hki)
    have ndY : (Y.map (·.1)).Nodup := by have := dk.eq; rw [show (dd Y Z).Y = Y from rfl] at this; rw [this]; exact kI_nodup dk.nd
    have hval := valV_at ndY hkv
    obtain ⟨n, hn⟩ : ∃ n, ab.y key = some n := by
     have := RA.yv key
     rw [show (dd Y Z).Y = Y from rfl, hval] at this
     cases e : ab.y key with
     | none => rw [e] at this; cases this
     | some n => exact ⟨n, rfl⟩
    have ev : v = .int n := by
     have := RA.yv key
     rw [show (dd Y Z).Y = Y from rfl, hval, hn] at this
     exact Option.some.inj this
    subst ev
    rw [kI_kV] at hb
    have hb3 := n3.same _ _ hb
    refine ⟨p, _, rfl, SqT.of n3.at_, rfl, _, _, rfl, _, _, rfl, rfl, ?_⟩
    refine yes_ (iteT ?_)
    refine ⟨_, rfl, _, rfl, by show 1 <= sizeLine; decide, fun p6 H6 n6 => ?_⟩
    refine ⟨b, p6, _, _, rfl, rfl, SqT.of (n6.same _ _ hb3), SqT.of n6.at_, (by intro z; have := congrArg List.length z; rw [List.length_map, hk2] at this; cases this), (by intro z; cases z), (by rw [List.length_map, hk2]; show 2 + 1 <= sizeLine; decide), fun p7 H7 n7 => ?_⟩
    have s27 : Same H4 H7 := n3.same.trans (n6.same.trans n7.same)
    refine ⟨fun x o e hx => s27 _ _ (b2 x o e hx), s27 _ _ f2, ?_⟩
    rw [takeN _ i _ hki, List.map_append]
    refine Tups.snoc ⟨p7, rfl, ?_⟩ (ty.same s27)
    rw [n7.at_]
    show some (HO.tup (key.map V.int ++ [V.int n])) = some (.tup ((key ++ [(ab.y key).getD 0]).map V.int))
    rw [hn, List.map_append]; rfl
   rintro yy H4 p H5 ⟨b2, f2, ty⟩ n3 f3
   rw [yl, List.take_length] at ty
   have sT : Same H3 (upd H5 wY (.dT Y)) := same_thaw (fun x o e hx => n3.same _ _ (b2 x o e hx)) hY
   have tT : Tups (upd H5 wY (.dT Y)) yy (ks.map (yRow ab)) := (ty.same n3.same).tupS (TupS.frz f3)
   have hpT : upd H5 wY (.dT Y) p = some (.lst yy) := by rw [qau (qbk n3.at_ f3 (by intro z; cases z))]; exact n3.at_
   generalize upd H5 wY (.dT Y) = H6 at sT tT hpT ⊢
   clear b2 f2 ty n3 f3
   refine ⟨p, yy, ks.map (yRow ab), rfl, SqL.of hpT, tT, by rw [List.length_map]; exact hkl, rows_nodup (yRow_app ab) dk.ne dk.nd, (fun k hk => by obtain ⟨j, hj, rfl⟩ := List.mem_map.mp hk; unfold yRow; simp), fun Rw zs l7 H7 pR sR tz n7 => ?_⟩
   have eR : Rw = qbu ab := by
    obtain ⟨ms, pm, sm, e⟩ := rows_sk (yRow_app ab) dk.ne dk.nd pR sR
    rw [e]
    exact qc9 (SKeys.ofD dk (fun k => by rw [RA.yv]; cases ab.y k <;> simp) pm sm)
   subst eR
   have s37 : Same H3 H7 := sT.trans n7.same
   have tz7 : Tups H7 zs (qbu ab) := Tups.same n7.same tz
   have hl7 := n7.at_
   clear tz tT hpT sT n7 pR sR
   have RA7 := RA.same s37
   have hZ7 := s37 _ _ hZ
   have s07 := s3.trans s37
   walk_at "n"
   refine ⟨_, rfl, _, rfl, wZ, Z, rfl, hZ7, fun ob nf => lc_items (H := H7) (fun i ys H2 => But wZ H7 H2 /\ H2 wZ = some (.frz ob (.dT Z)) /\ Tups H2 ys ((js.take i).map (zRow ab))) (Nat.le_of_lt (qaw (by omega))) nf ⟨qb3, qa8, .nil⟩ (fun i ys H2 h2 => ⟨h2.2.1, by rw [h2.2.2.length, List.length_map, List.length_take]; omega⟩) ?_ ?_⟩
   ·rintro i k v b p yy H4 H5 hkv hb n3 ⟨b2, f2, ty⟩
    obtain ⟨key, hki, rfl⟩ : ∃ key, js[i]? = some key /\ k = kI key := by
     have this : (Z.map (·.1))[i]? = (js.map kI)[i]? := congrArg (fun z => z[i]?) dj.eq
     have e1 : (Z.map (·.1))[i]? = some k := by rw [List.getElem?_map, hkv]; rfl
     rw [e1, List.getElem?_map] at this
     obtain ⟨key, h1, h2⟩ := Option.map_eq_some_iff.mp this.symm
     exact ⟨key, h1, h2.symm⟩
    have hk2 := dj.ne key (List.mem_of_getElem? hki)
    have ndZ : (Z.map (·.1)).Nodup := by have := dj.eq; rw [show (dd Y Z).Z = Z from rfl] at this; rw [this]; exact kI_nodup dj.nd
    have hval := valV_at ndZ hkv
    obtain ⟨q4, hn⟩ : ∃ q4, ab.z key = some q4 := by
     cases e : ab.z key with
     | none => have := RA.zn key e; rw [show (dd Y Z).Z = Z from rfl, hval] at this; cases this
     | some n => exact ⟨n, rfl⟩
    obtain ⟨ha, ev, hh⟩ : ∃ ha, v = .ref ha /\ H7 ha = some (.tup (v4 q4)) := by
     obtain ⟨a, e1, e2⟩ := RA7.zs key q4 hn
     rw [show (dd Y Z).Z = Z from rfl, hval] at e1
     exact ⟨a, Option.some.inj e1, e2⟩
    subst ev
    rw [kI_kV] at hb
    have hb3 := n3.same _ _ hb
    have hh3 := n3.same _ _ (b2 _ _ hh (qbk hh hZ7 (by intro z; cases z)))
    refine ⟨p, _, rfl, SqT.of n3.at_, rfl, _, _, rfl, _, _, rfl, rfl, ?_⟩
    refine yes_ (iteT ?_)
    refine ⟨_, rfl, _, rfl, b, ha, _, _, rfl, rfl, SqT.of hb3, SqT.of hh3, (by intro z; have := congrArg List.length z; rw [List.length_map, hk2] at this; cases this), (by intro z; cases z), (by rw [List.length_map, hk2]; show 2 + 4 <= sizeLine; decide), fun p9 H9 n9 => ?_⟩
    have s29 : Same H4 H9 := n3.same.trans n9.same
    refine ⟨fun x o e hx => s29 _ _ (b2 x o e hx), s29 _ _ f2, ?_⟩
    rw [takeN _ i _ hki, List.map_append]
    refine Tups.snoc ⟨p9, rfl, ?_⟩ (ty.same s29)
    rw [n9.at_]
    show some (HO.tup (key.map V.int ++ v4 q4)) = some (.tup ((key ++ i4 ((ab.z key).getD (0, 0, 0, 0))).map V.int))
    rw [hn, List.map_append]; rfl
   rintro yz H4 p2 H5 ⟨b2, f2, ty⟩ n3 f3
   rw [zl, List.take_length] at ty
   have sT : Same H7 (upd H5 wZ (.dT Z)) := same_thaw (fun x o e hx => n3.same _ _ (b2 x o e hx)) hZ7
   have tT : Tups (upd H5 wZ (.dT Z)) yz (js.map (zRow ab)) := (ty.same n3.same).tupS (TupS.frz f3)
   have hpT : upd H5 wZ (.dT Z) p2 = some (.lst yz) := by rw [qau (qbk n3.at_ f3 (by intro z; cases z))]; exact n3.at_
   generalize upd H5 wZ (.dT Z) = H8 at sT tT hpT ⊢
   clear b2 f2 ty n3 f3
   refine ⟨p2, yz, js.map (zRow ab), rfl, SqL.of hpT, tT, by rw [List.length_map]; exact hjl, rows_nodup (zRow_app ab) dj.ne dj.nd, (fun k hk => by obtain ⟨j, hj, rfl⟩ := List.mem_map.mp hk; unfold zRow i4; simp), fun Rz zz l9 H9 pR sR tz n9 => ?_⟩
   have eR : Rz = qb4 ab := by
    obtain ⟨ms, pm, sm, e⟩ := rows_sk (zRow_app ab) dj.ne dj.nd pR sR
    rw [e]
    exact qda (SKeys.ofD dj (fun k => zv_iff RA k) pm sm)
   subst eR
   have s79 : Same H7 H9 := sT.trans n9.same
   walk_at "n"
   refine ⟨by show 2 <= sizeLine; decide, fun pt H10 n10 => ?_⟩
   exact q pt l7 l9 zs zz H10 (s07.trans (s79.trans n10.same)) n10.at_ (n10.same _ _ (s79 _ _ hl7)) (tz7.same (s79.trans n10.same)) (n10.same _ _ n9.at_) (Tups.same (n9.same.trans n10.same) tz)
end
section
variable {P : Program} {w : World} {K : Frag} {mg : Str -> Option Value} {base : Heap} {C_Roll C_Rule C_BookError C_NoNumber C_NoRule C_Backward : Addr}
def ckRow (cell : Int -> Option (Int × Int)) (r : List Int) : List Int := match cell (r.headD 0) with
 | none => []
 | some p => [p.1, p.2]
theorem gE_idem {x y : V} (hx : Ed x) (hy : Ed y) : gE x (gE x y) = gE x y := by
 rcases hx with rfl | ⟨i, rfl⟩ <;> rcases hy with rfl | ⟨j, rfl⟩ <;> try rfl
 ·show V.int (if i > i then i else i) = V.int i
  split <;> rfl
 ·show V.int (if (if j > i then j else i) > i then (if j > i then j else i) else i) = V.int (if j > i then j else i)
  congr 1
  repeat' split
  all_goals omega
theorem gEs_idem : ∀ {xs ys : List V}, (∀ v ∈ xs, Ed v) -> (∀ v ∈ ys, Ed v) -> List.zipWith gE xs (List.zipWith gE xs ys) = List.zipWith gE xs ys
 | [], ys, _, _ => by simp
 | x :: xs, [], _, _ => rfl
 | x :: xs, y :: ys, h1, h2 => by
  simp only [List.zipWith_cons_cons]
  rw [gE_idem (h1 x List.mem_cons_self) (h2 y List.mem_cons_self), gEs_idem (fun v hv => h1 v (List.mem_cons_of_mem _ hv)) fun v hv => h2 v (List.mem_cons_of_mem _ hv)]
theorem RR.skeys {C R : Addr} {H : Hp} {ro : Addr} {c : qa1} {s : Abs} {LY LZ : List (List Int)} (h : RR C R H ro c s LY LZ) : ∃ my mz, SKeys s.y my /\ SKeys s.z mz /\ (∀ k ∈ my, k.length = 2) /\ ∀ k ∈ mz, k.length = 2 := by
 obtain ⟨Y, Z, A, B⟩ := h
 obtain ⟨ks, dk, _⟩ := B.yk
 obtain ⟨js, dj, _⟩ := B.zk
 have hy : ∀ k, k ∈ ks ↔ s.y k ≠ none := fun k => by rw [dk.mem, B.yv]; cases s.y k <;> simp
 have hz : ∀ k, k ∈ js ↔ s.z k ≠ none := fun k => by rw [dj.mem]; exact zv_iff B k
 obtain ⟨my, sy, _⟩ := skeys_ex dk.nd hy
 obtain ⟨mz, sz, _⟩ := skeys_ex dj.nd hz
 exact ⟨my, mz, sy, sz, fun k hk => dk.ne k ((hy k).mpr ((sy.mem k).mp hk)), fun k hk => dj.ne k ((hz k).mpr ((sz.mem k).mp hk))⟩
def TagL (s : Abs) (T : List (List Int)) : Prop := (∀ k, s.y k ≠ none -> (0 :: k) ∈ T) /\ ∀ k, s.z k ≠ none -> (1 :: k) ∈ T
theorem TagL.of {cell : Int -> Option (Int × Int)} {s : Abs} {rs : List Rd3} (h : Tags cell s rs) : TagL s (rs.map (tagK cell)) :=
 ⟨fun k hk => let ⟨r, hr, e⟩ := h.1 k hk; List.mem_map.mpr ⟨r, hr, e⟩, fun k hk => let ⟨r, hr, e⟩ := h.2 k hk; List.mem_map.mpr ⟨r, hr, e⟩⟩
theorem keys_leT {s : Abs} {T : List (List Int)} {my mz : List (List Int)} (tg : TagL s T) (hy : SKeys s.y my) (hz : SKeys s.z mz) : my.length + mz.length <= T.length := by
 have nd : (my.map (fun k => (0 : Int) :: k) ++ mz.map (fun k => (1 : Int) :: k)).Nodup := by
  rw [List.nodup_append]
  refine ⟨?_, ?_, fun a ha b hb e => ?_⟩
  ·rw [List.nodup_iff_pairwise_ne, List.pairwise_map]; exact hy.nd.imp fun hne e => hne (by injection e)
  ·rw [List.nodup_iff_pairwise_ne, List.pairwise_map]; exact hz.nd.imp fun hne e => hne (by injection e)
  ·obtain ⟨k, _, rfl⟩ := List.mem_map.mp ha
   obtain ⟨l, _, rfl⟩ := List.mem_map.mp hb
   injection e with e _
   omega
 have sub : (my.map (fun k => (0 : Int) :: k) ++ mz.map (fun k => (1 : Int) :: k)) ⊆ T := fun x hx => by
  rcases List.mem_append.mp hx with h | h
  ·obtain ⟨k, hk, rfl⟩ := List.mem_map.mp h
   exact tg.1 k ((hy.mem k).mp hk)
  ·obtain ⟨k, hk, rfl⟩ := List.mem_map.mp h
   exact tg.2 k ((hz.mem k).mp hk)
 have := List.Nodup.length_le_of_subset nd sub
 simpa using this
theorem take_ok {cell : Int -> Option (Int × Int)} {s : Abs} {my mz : List (List Int)} {B N : Int} (h : AbsB B N s) (hB : B < 10 ^ 46) (hN : N < 10 ^ 45) (sy : SKeys s.y my) (sz : SKeys s.z mz) : TakeOk cell my (my.map (ckRow cell) ++ mz.map (ckRow cell)) (qbu s) (qb4 s) := by
 refine ⟨fun r hr => ?_, fun r hr => ?_⟩
 ·rw [<- qc9 sy] at hr
  obtain ⟨k, hk, rfl⟩ := List.mem_map.mp hr
  cases e : s.y k with
  | none => exact absurd e ((sy.mem k).mp hk)
  | some n =>
   obtain ⟨t, v, rfl, h1, h2, h3, h4⟩ := h.y k n e
   refine ⟨t, v, n, by unfold yRow; rw [e]; rfl, ⟨by unfold TB46; dsimp only; omega, by unfold RunB; dsimp only; omega⟩, hk, fun a w ec => List.mem_append_left _ (List.mem_map.mpr ⟨_, hk, ?_⟩)⟩
   unfold ckRow
   dsimp only [List.headD]
   rw [ec]
 ·rw [<- qda sz] at hr
  obtain ⟨k, hk, rfl⟩ := List.mem_map.mp hr
  cases e : s.z k with
  | none => exact absurd e ((sz.mem k).mp hk)
  | some x =>
   obtain ⟨a, w, rfl, h1, h2⟩ := h.z k x e
   refine ⟨a, w, x.1, x.2.1, x.2.2.1, x.2.2.2, by unfold zRow i4; rw [e]; rfl, by unfold TB46; omega, fun b w' ec => List.mem_append_right _ (List.mem_map.mpr ⟨_, hk, ?_⟩)⟩
   unfold ckRow
   dsimp only [List.headD]
   rw [ec]
end
section
variable {P : Program} {w : World} {K : Frag} {mg : Str -> Option Value} {base : Heap} {C_Roll C_Rule C_BookError C_NoNumber C_NoRule C_Backward : Addr}
def bI : Bool -> Int
 | false => 0
 | true => 1
structure U37 where
 ps : Bool -> List (Int × Int)
 g : Bool -> Option Int
 t : Bool -> Addr
 l : Bool -> Addr
 xs : Bool -> List V
 ws : List Int
structure Ru37 (H : Hp) (lR : Addr) (u : U37) : Prop where
 hR : H lR = some (.lst [.ref (u.t false), .ref (u.t true)])
 ht : ∀ b, H (u.t b) = some (.tup [.ref (u.l b), gv (u.g b)])
 hl : ∀ b, H (u.l b) = some (.lst (u.xs b))
 hp : ∀ b, Pairs H (u.xs b) (u.ps b)
 pr : ∀ b, Pr (u.ps b) (u.g b)
 w : ∀ b, (u.ps b).map (·.2) = u.ws
 W : WsOk u.ws
theorem Ru37.same {H H' : Hp} {lR : Addr} {u : U37} (e : Same H H') (h : Ru37 H lR u) : Ru37 H' lR u := ⟨e _ _ h.hR, fun b => e _ _ (h.ht b), fun b => e _ _ (h.hl b), fun b => (h.hp b).same e, h.pr, h.w, h.W⟩
theorem Ru37.at_ {H : Hp} {lR : Addr} {u : U37} (h : Ru37 H lR u) (b : Bool) : atI [V.ref (u.t false), .ref (u.t true)] (bI b) = some (.ref (u.t b)) := by cases b <;> rfl
theorem Ru37.wb {H : Hp} {lR : Addr} {u : U37} (h : Ru37 H lR u) (b : Bool) : ∀ p ∈ u.ps b, 1 <= p.2 /\ p.2 <= 10 ^ 35 := fun p hp => by
 have hm : p.2 ∈ u.ws := by rw [<- h.w b]; exact List.mem_map.mpr ⟨p, hp, rfl⟩
 obtain ⟨i, hi, e⟩ := List.getElem_of_mem hm
 exact h.W.each i _ (by rw [<- e]; exact List.getElem?_eq_getElem hi)
theorem Ru37.len {H : Hp} {lR : Addr} {u : U37} (h : Ru37 H lR u) (b : Bool) : (u.ps b).length = u.ws.length := by rw [<- h.w b, List.length_map]
structure S37 where
 r : Addr
 s : Addr
 le : Addr
 lx : Addr
 q : qa1
 b : Bool
 d : Int
 es : List Int
 ge : Option Int
 rs : List Rd3
 LY : List (List Int)
 LZ : List (List Int)
structure R37 (C R : Addr) (H : Hp) (u : U37) (r : Addr) (q : qa1) (b : Bool) (d : Int) (es : List Int) (ge : Option Int) (rs : List Rd3) (LY LZ : List (List Int)) : Prop where
 R : RR C R H r q (qde (qbh u.ws es ge) rs) LY LZ
 ok : qct q
 qp : q.ps = u.ps b
 qg : q.g = u.g b
 qd : q.day = d
 qe : q.es = es
 qh : q.ge = ge
 E : EdS (es.map V.int ++ [gv ge]) es ge
 F : Fall u.ws es ge
 dom : List.zipWith gE (eV (u.ps b) (u.g b) d) (es.map V.int ++ [gv ge]) = es.map V.int ++ [gv ge]
 hd : Bd d
 hr : ∀ r ∈ rs, RLt r
 ly : LY.length <= rs.length
 lz : LZ.length <= rs.length
structure T37 (H : Hp) (s le lx : Addr) (b : Bool) (d : Int) (es : List Int) (ge : Option Int) (rs : List Rd3) : Prop where
 hs : H s = some (.tup [.int (bI b), .int d, .ref le, .ref lx])
 he : H le = some (.lst (es.map V.int ++ [gv ge]))
 hx : ∃ ys, H lx = some (.lst ys) /\ Tups H ys (rs.map l3)
structure F37 (C R : Addr) (H : Hp) (u : U37) (x : S37) : Prop where
 o : R37 C R H u x.r x.q x.b x.d x.es x.ge x.rs x.LY x.LZ
 t : T37 H x.s x.le x.lx x.b x.d x.es x.ge x.rs
theorem T37.same {H H' : Hp} {s le lx : Addr} {b : Bool} {d : Int} {es : List Int} {ge : Option Int} {rs : List Rd3} (e : Same H H') (h : T37 H s le lx b d es ge rs) : T37 H' s le lx b d es ge rs := ⟨e _ _ h.hs, e _ _ h.he, let ⟨ys, a, b⟩ := h.hx; ⟨ys, e _ _ a, b.same e⟩⟩
theorem R37.same {C R : Addr} {H H' : Hp} {u : U37} {r : Addr} {q : qa1} {b : Bool} {d : Int} {es : List Int} {ge : Option Int} {rs : List Rd3} {LY LZ : List (List Int)} (e : Same H H') (h : R37 C R H u r q b d es ge rs LY LZ) : R37 C R H' u r q b d es ge rs LY LZ := { h with R := h.R.same e }
theorem F37.same {C R : Addr} {H H' : Hp} {u : U37} {x : S37} (e : Same H H') (h : F37 C R H u x) : F37 C R H' u x := ⟨h.o.same e, h.t.same e⟩
theorem R37.cellD {C R : Addr} {H : Hp} {lR : Addr} {u : U37} {r : Addr} {q : qa1} {b : Bool} {d : Int} {es : List Int} {ge : Option Int} {rs : List Rd3} {LY LZ : List (List Int)} (h : R37 C R H u r q b d es ge rs LY LZ) (hu : Ru37 H lR u) : TB.cellD q = qbh u.ws es ge := by unfold TB.cellD; rw [h.qp, hu.w, h.qe, h.qh]
theorem R37.eq {C R : Addr} {H : Hp} {u : U37} {r : Addr} {q : qa1} {b : Bool} {d : Int} {es : List Int} {ge : Option Int} {rs : List Rd3} {LY LZ : List (List Int)} (h : R37 C R H u r q b d es ge rs LY LZ) : q.es.map V.int ++ [gv q.ge] = es.map V.int ++ [gv ge] := by rw [h.qe, h.qh]
theorem R37.len {C R : Addr} {H : Hp} {lR : Addr} {u : U37} {r : Addr} {q : qa1} {b : Bool} {d : Int} {es : List Int} {ge : Option Int} {rs : List Rd3} {LY LZ : List (List Int)} (h : R37 C R H u r q b d es ge rs LY LZ) (hu : Ru37 H lR u) : es.length = u.ws.length := h.F.len.symm
theorem R37.take {C R : Addr} {H : Hp} {lR : Addr} {u : U37} {r : Addr} {q : qa1} {b : Bool} {d : Int} {es : List Int} {ge : Option Int} {rs : List Rd3} {LY LZ : List (List Int)} (h : R37 C R H u r q b d es ge rs LY LZ) (hu : Ru37 H lR u) (h50 : rs.length <= 50) (cell' : Int -> Option (Int × Int)) :
  ∃ LY' LZ', LY'.length <= rs.length /\ LZ'.length <= rs.length /\ TakeOk cell' LY' LZ' (qbu (qde (qbh u.ws es ge) rs)) (qb4 (qde (qbh u.ws es ge) rs)) := by
 obtain ⟨my, mz, sy, sz, h2, hz2⟩ := h.R.skeys
 have l1 := hu.W.lo
 have nr : Near (10 ^ 36) (qbh u.ws es ge) := cell_near l1 (by rw [h.len hu]; exact l1) (by decide) fun w hw => by
  obtain ⟨i, hi, e⟩ := List.getElem_of_mem hw
  have := hu.W.each i w (by rw [<- e]; exact List.getElem?_eq_getElem hi)
  exact ⟨this.1, by omega⟩
 have hab := absB_of nr rs (s := abs0) (N := 0) absB0 (by omega) h.hr
 have hN : 0 + 10 ^ 31 * (rs.length : Int) <= 10 ^ 33 := by omega
 have hab' : AbsB (5 * 10 ^ 45 + 10 ^ 36) (10 ^ 33) (qde (qbh u.ws es ge) rs) := ⟨fun k n e => by obtain ⟨t, v, e1, e2, e3, e4, e5⟩ := hab.y k n e; exact ⟨t, v, e1, e2, e3, e4, by omega⟩, hab.z⟩
 have cnt := keys_leT (TagL.of (tags_of (qbh u.ws es ge) rs)) sy sz
 rw [List.length_map] at cnt
 have tk := take_ok (cell := cell') hab' (by omega) (by omega) sy sz
 exact ⟨_, _, by omega, by rw [List.length_append, List.length_map, List.length_map]; omega, tk⟩
theorem later_r {a b : List Int} (g1 g2 : Option Int) (h : a.length = b.length) : Later b (List.zipWith mx a b) g2 (gmax g1 g2) where
 len := by rw [List.length_zipWith]; omega
 up := fun i x y hx hy => by
  obtain ⟨u, v, hu, hv, rfl⟩ := zw_of hy
  rw [hx] at hv; cases hv
  exact (mx_b u x).2.1
 gn := fun z hz => by
  subst hz
  cases g1 with
  | none => exact ⟨z, rfl, Int.le_refl _⟩
  | some j => exact ⟨mx j z, rfl, (mx_b j z).2.1⟩
theorem up37 {H : Hp} {lR : Addr} {u : U37} (hu : Ru37 H lR u) (b : Bool) {D : Int} (hD : Bd D) {es : List Int} {ge : Option Int} {EV : List V} (E : EdS EV es ge) (F : Fall u.ws es ge) :
  ∃ fs fg, EdS (List.zipWith gE (eV (u.ps b) (u.g b) D) EV) fs fg /\ Fall u.ws fs fg /\ Later es fs ge fg /\ List.zipWith gE (eV (u.ps b) (u.g b) D) EV = fs.map V.int ++ [gv fg] /\ List.zipWith gE (eV (u.ps b) (u.g b) D) (fs.map V.int ++ [gv fg]) = fs.map V.int ++ [gv fg] /\ EdS (fs.map V.int ++ [gv fg]) fs fg := by
 have P := hu.pr b
 have l1 : ((u.ps b).map fun p => cut D p.1 p.2).length = es.length := by rw [List.length_map, hu.len b, F.len]
 have M := (EdS.of P hD).max E l1
 have F0 := Fall.of P D
 rw [hu.w b] at F0
 have M' := M
 rw [M.eq] at M'
 refine ⟨_, _, M, F0.max F, later_r _ _ l1, M.eq, ?_, M'⟩
 rw [<- M.eq]
 exact gEs_idem (EdS.of P hD).ed E.ed
theorem coarse37 {u : U37} {es fs : List Int} {ge fg : Option Int} (W : WsOk u.ws) (F : Fall u.ws es ge) (F' : Fall u.ws fs fg) (L : Later es fs ge fg) : Coarse (qbh u.ws es ge) (qbh u.ws fs fg) := coarse_of F F' L (by rw [<- F.len]; exact W.lo)
end
section
variable {P : Program} {w : World} {K : Frag} {mg : Str -> Option Value} {base : Heap} {C_Roll C_Rule C_BookError C_NoNumber C_NoRule C_Backward : Addr}
theorem gE_self {x : V} (hx : Ed x) : gE x x = x := by
 rcases hx with rfl | ⟨i, rfl⟩
 ·rfl
 ·show V.int (if i > i then i else i) = V.int i
  split <;> rfl
theorem gEs_self : ∀ {xs : List V}, (∀ v ∈ xs, Ed v) -> List.zipWith gE xs xs = xs
 | [], _ => rfl
 | x :: xs, h => by
  rw [List.zipWith_cons_cons, gE_self (h x List.mem_cons_self), gEs_self fun v hv => h v (List.mem_cons_of_mem _ hv)]
structure Up37 (u : U37) (b : Bool) (D : Int) (EV : List V) (es : List Int) (ge : Option Int) (fs : List Int) (fg : Option Int) : Prop where
 Ef : EdS (List.zipWith gE (eV (u.ps b) (u.g b) D) EV) fs fg
 F : Fall u.ws fs fg
 L : Later es fs ge fg
 eq : List.zipWith gE (eV (u.ps b) (u.g b) D) EV = fs.map V.int ++ [gv fg]
 dom : List.zipWith gE (eV (u.ps b) (u.g b) D) (fs.map V.int ++ [gv fg]) = fs.map V.int ++ [gv fg]
 E : EdS (fs.map V.int ++ [gv fg]) fs fg
section
variable {C R N : Addr} {H H' : Hp} {lR : Addr} {u : U37} {r r2 ru rl : Addr} {q q2 : qa1} {b b2 : Bool} {d d2 D : Int} {es es2 fs : List Int} {ge ge2 fg : Option Int} {rs rs2 : List Rd3} {LY LZ LY2 LZ2 : List (List Int)} {Q : VK} {E : XK}
theorem R37.aged (h : R37 C R H u r q b d es ge rs LY LZ) (hu : Ru37 H lR u) (h50 : rs.length <= 50) (hD : Bd D) (le : d <= D) (U : Up37 u b D (es.map V.int ++ [gv ge]) es ge fs fg) (k : ∀ r' q' LY' LZ' H', Same H H' -> R37 C R H' u r' q' b D fs fg rs LY' LZ' -> (H q'.dy = none /\ H q'.dh = none) -> Q (.ref r') H') : sp_aged36 C R [.ref r, .int D] H Q E := by
 have l1 := h.ly
 have l2 := h.lz
 obtain ⟨LY', LZ', l3, l4, tk⟩ := h.take hu h50 (qbh u.ws fs fg)
 refine ⟨r, q, _, LY, LZ, LY', LZ', D, fs, fg, rfl, h.R, h.ok, by rw [h.eq, h.qe, h.qh]; exact h.E, by rw [h.qd]; exact h.hd, hD, by rw [h.qd]; exact le, by omega, by omega, by rw [h.qp, h.qg, h.eq]; exact U.Ef, by omega, by omega, by rw [h.qp, hu.w]; exact tk, fun r' c' H' e1 e2 e3 e4 e5 ok' R' s f => ?_⟩
 rw [h.qp, hu.w, take_of (coarse37 hu.W h.F U.F U.L) rs] at R'
 exact k r' c' LY' LZ' H' s ⟨R', ok', by rw [e1, h.qp], by rw [e2, h.qg], e3, e4, e5, U.E, U.F, U.dom, hD, h.hr, l3, l4⟩ f
theorem R37.under (h : R37 C R H u r q b d es ge rs LY LZ) (hu : Ru37 H lR u) (h50 : rs.length <= 50) (Ru : RuleAt R H ru rl (u.ps b2) (u.g b2)) (U : Up37 u b2 d (es.map V.int ++ [gv ge]) es ge fs fg) (k : ∀ r' q' LY' LZ' H', Same H H' -> R37 C R H' u r' q' b2 d fs fg rs LY' LZ' -> (H q'.dy = none /\ H q'.dh = none) -> Q (.ref r') H') : sp_under33 C R N [.ref r, .ref ru] H Q E := by
 have l1 := h.ly
 have l2 := h.lz
 obtain ⟨LY', LZ', l3, l4, tk⟩ := h.take hu h50 (qbh u.ws fs fg)
 have ew : q.ps.map (·.2) = (u.ps b2).map (·.2) := by rw [h.qp, hu.w, hu.w]
 refine ⟨r, ru, rl, q, _, LY, LZ, u.ps b2, u.g b2, rfl, h.R, h.ok, by rw [h.eq, h.qe, h.qh]; exact h.E, Ru, hu.pr b2, by rw [h.qd]; exact h.hd, by omega, by omega, fun z => absurd ew z, fun _ => ⟨fs, fg, LY', LZ', by rw [h.qd, h.eq]; exact U.Ef, by omega, by omega, by rw [hu.w]; exact tk, fun r' c' H' e1 e2 e3 e4 e5 ok' R' s f => ?_⟩⟩
 rw [hu.w, take_of (coarse37 hu.W h.F U.F U.L) rs] at R'
 exact k r' c' LY' LZ' H' s ⟨R', ok', e1, e2, by rw [e3, h.qd], e4, e5, U.E, U.F, U.dom, h.hd, h.hr, l3, l4⟩ f
theorem R37.both (h : R37 C R H u r q b d es ge rs LY LZ) (h2 : R37 C R H u r2 q2 b2 d2 es2 ge2 rs2 LY2 LZ2) (hu : Ru37 H lR u) (h50 : rs.length + rs2.length <= 50)
  (kE : ¬ (u.ps b = u.ps b2 /\ u.g b = u.g b2) -> ∀ H', Same H H' -> E (.ref N) none H')
  (kQ : u.ps b = u.ps b2 /\ u.g b = u.g b2 -> ∃ fs fg, Up37 u b (if d2 > d then d2 else d) (List.zipWith gE (es.map V.int ++ [gv ge]) (es2.map V.int ++ [gv ge2])) (List.zipWith mx es es2) (gmax ge ge2) fs fg /\ ∀ r' q' LY' LZ' H', Same H H' -> R37 C R H' u r' q' b (if d2 > d then d2 else d) fs fg (rs ++ rs2) LY' LZ' -> (H q'.dy = none /\ H q'.dh = none) -> Q (.ref r') H') : sp_both34 C R N [.ref r, .ref r2] H Q E := by
 have l1 := h.ly
 have l2 := h.lz
 have l3 := h2.ly
 have l4 := h2.lz
 have esame : (q.ps = q2.ps /\ q.g = q2.g) ↔ (u.ps b = u.ps b2 /\ u.g b = u.g b2) := by rw [h.qp, h2.qp, h.qg, h2.qg]
 refine ⟨r, r2, q, q2, _, _, LY, LZ, LY2, LZ2, rfl, h.R, h2.R, h.ok, h2.ok, by rw [h.eq, h.qe, h.qh]; exact h.E, by rw [h2.eq, h2.qe, h2.qh]; exact h2.E, by rw [h.qd]; exact h.hd, by rw [h2.qd]; exact h2.hd, by omega, by omega, by omega, by omega, fun z => kE fun y => z (esame.mpr y), fun y => ?_⟩
 obtain ⟨fs, fg, U, k⟩ := kQ (esame.mp y)
 obtain ⟨LYa, LZa, m1, m2, tk1⟩ := h.take hu (by omega) (qbh u.ws fs fg)
 obtain ⟨LYb, LZb, m3, m4, tk2⟩ := h2.take hu (by omega) (qbh u.ws fs fg)
 refine ⟨fs, fg, LYa ++ LYb, LZa ++ LZb, by rw [h.qp, h.qg, h.eq, h2.eq, h.qd, h2.qd]; exact U.Ef, by rw [List.length_append]; omega, by rw [List.length_append]; omega, by rw [h.qp, hu.w]; exact tk1.mono (List.subset_append_left _ _) (List.subset_append_left _ _), by rw [h.qp, hu.w]; exact tk2.mono (List.subset_append_right _ _) (List.subset_append_right _ _), fun r' c' H' e1 e2 e3 e4 e5 ok' R' s f => ?_⟩
 have le : es.length = es2.length := by rw [h.len hu, h2.len hu]
 have c1 := coarse37 hu.W h.F U.F ((Later.max ge ge2 le).trans U.L)
 have c2 := coarse37 hu.W h2.F U.F ((later_r ge ge2 le).trans U.L)
 rw [h.qp, hu.w, <- take_two, take_of c1 rs, take_on c2 rs2, show rs2.foldl (putA (qbh u.ws fs fg)) (qde (qbh u.ws fs fg) rs) = qde (qbh u.ws fs fg) (rs ++ rs2) by unfold qde; rw [List.foldl_append]] at R'
 rw [h.qd, h2.qd] at e3
 have hd : Bd (if d2 > d then d2 else d) := by split; exact h2.hd; exact h.hd
 exact k r' c' _ _ H' s ⟨R', ok', by rw [e1, h.qp], by rw [e2, h.qg], e3, e4, e5, U.E, U.F, U.dom, hd, fun r hr => (List.mem_append.mp hr).elim (h.hr r) (h2.hr r), by rw [List.length_append, List.length_append]; omega, by rw [List.length_append, List.length_append]; omega⟩ f
theorem R37.new {ro le dy dh : Addr} (hu : Ru37 H lR u) (b : Bool) (hd : Bd d) (A : RollAt C R H' ro (newD ru rl le dy dh (u.ps b) (u.g b) d)) : R37 C R H' u ro (newD ru rl le dy dh (u.ps b) (u.g b) d) b d ((u.ps b).map fun p => cut d p.1 p.2) ((u.g b).map fun z => cut d z (TB.lw (u.ps b))) [] [] [] := by
 have P := hu.pr b
 have Ex := EdS.of P hd
 have Ex' := Ex
 rw [Ex.eq] at Ex'
 have F0 := Fall.of P d
 rw [hu.w b] at F0
 refine ⟨⟨[], [], A, RAbs.zero rfl rfl⟩, ⟨P, by show ((u.ps b).map _).length = (u.ps b).length; rw [List.length_map]⟩, rfl, rfl, rfl, rfl, rfl, Ex', F0, ?_, hd, (by intro r h; cases h), Nat.le_refl _, Nat.le_refl _⟩
 rw [<- Ex.eq]
 exact gEs_self Ex.ed
theorem RR.mono {c : qa1} {s : Abs} {LY LZ LY' LZ' : List (List Int)} (h : RR C R H r c s LY LZ) (a : LY ⊆ LY') (b : LZ ⊆ LZ') : RR C R H r c s LY' LZ' :=
 let ⟨Y, Z, A, B⟩ := h; ⟨Y, Z, A, B.mono a b⟩
theorem R37.put {t : Rd3} (h : R37 C R H u r q b d es ge rs LY LZ) (hu : Ru37 H lR u) (h50 : rs.length < 50) (ht : RLt t) (k : ∀ H', R37 C R H' u r q b d es ge (rs ++ [t]) ([t.1, t.2.1] :: LY) (zKey (qbh u.ws es ge) t :: LZ) -> But2 q.dy q.dh H H' -> Q (.bl (qbh u.ws es ge t.1).isSome) H') : sp_rput2 C R [.ref r, .int t.1, .int t.2.1, .int t.2.2] H Q E := by
 have l1 := h.ly
 have l2 := h.lz
 have ok := ht.ok
 have ec := h.cellD hu
 refine (h.R.mono (List.subset_cons_self [t.1, t.2.1] _) (List.subset_cons_self (zKey (qbh u.ws es ge) t) _)).put h.ok ok.1 ok.2.2.1 ok.2 (by rw [List.length_cons]; omega) (by rw [List.length_cons]; omega) List.mem_cons_self (fun a w e => by rw [ec] at e; unfold zKey; rw [e]; exact List.mem_cons_self) fun H3 R3 b3 => ?_
 rw [ec] at R3 ⊢
 refine k H3 { h with R := ?_, hr := fun r hr => (List.mem_append.mp hr).elim (h.hr r) fun z => by rw [List.mem_singleton.mp z]; exact ht, ly := by rw [List.length_cons, List.length_append, List.length_singleton]; omega, lz := by rw [List.length_cons, List.length_append, List.length_singleton]; omega } b3
 rw [absOf_snoc]; exact R3
end
def sp_right37 (C R : Addr) : Sp := fun vs H Q _ => ∃ (ro st lR le lx : Addr) (u : U37) (q : qa1) (b : Bool) (d : Int) (es : List Int) (ge : Option Int) (rs : List Rd3) (LY LZ : List (List Int)) (ys : List V), vs = [.ref ro, .ref st, .ref lR] /\ R37 C R H u ro q b d es ge rs LY LZ /\ Ru37 H lR u /\ rs.length <= 50 /\ H st = some (.tup [.int (bI b), .int d, .ref le, .ref lx]) /\ H le = some (.lst (es.map V.int ++ [gv ge])) /\ H lx = some (.lst ys) /\ Tups H ys (rs.map l3) /\ ∀ H', Same H H' -> Q (.bl true) H'
theorem D__law_right (T : Txt K mg C_Roll C_Rule C_BookError C_NoNumber C_NoRule C_Backward) : qbs P w K mg base 3 "_law_right" ["_law_roll", "_law_state", "_law_rules"] (sp_right37 C_Roll C_Rule) := by
 obtain ⟨f, fd, F, hm⟩ := T.f__law_right
 have nd := sc__law_right.nd
 refine F.def_ hm (F.ok sc__law_right (fun vs H Q E h => ?_) (fun cdv A outer s H vs Q E hr h => ?_)) (F.binds fun _ _ _ _ _ _ us hl => by obtain ⟨_, _, _, rfl⟩ := L2.lq3 hl; rfl)
 ·obtain ⟨ro, st, lR, le, lx, u, q, b, d, es, ge, rs, LY, LZ, ys, rfl, _⟩ := h; rfl
 ·obtain ⟨ro, st, lR, le, lx, u, c, b, d, es, ge, rs, LY, LZ, ys, rfl, o, hu, h50, hst, hle, hlx, tx, q⟩ := h
  have P := hu.pr b
  have hd := o.hd
  have l1 := o.ly
  have l2 := o.lz
  have hl := hu.hl b
  have hp := hu.hp b
  obtain ⟨dx, hob⟩ := o.R.obj
  obtain ⟨Y0, Z0, A0, B0⟩ := id o.R
  have hEd := o.E.ed
  have hat := hu.at_ b
  have hR := hu.hR
  have ht := hu.ht b
  refine ⟨_, (qac (qdc (pv 1) (qb2 rfl (qal (qaj (i := 3) nd rfl (Or.inl rfl)) (qal (qaj (i := 4) nd rfl (Or.inl rfl)) (qal (qaj (i := 5) nd rfl (Or.inl rfl)) (qal (qaj (i := 6) nd rfl (Or.inl rfl)) qbf)))))) (qac (qdc (qai qah (pv 2) (pv 3) (fun _ _ => rfl)) (qb2 rfl (qal (qaj (i := 7) nd rfl (Or.inl rfl)) (qal (qaj (i := 8) nd rfl (Or.inl rfl)) qbf)))) (qac (qbl (PW.pt (pw_or (qat (op_neD hr.units) (qbb (qbb (pv 0) T.cl_Roll (qca T) (hr.mono (by decide))) T.cl_Rule (qbx T) (hr.mono (by decide))) (pv 7) (qax _)) (pw_or (qat (op_neD hr.units) (qbb (qbb (pv 0) T.cl_Roll (qca T) (hr.mono (by decide))) T.cl_Rule (qeb T) (hr.mono (by decide))) (pv 8) (qax _)) (pw_or (qat op_ne (qbb (pv 0) T.cl_Roll (qd2 T) (hr.mono (by decide))) (pv 4) (qax _)) (pw_or1 (qat (op_neD hr.units) (qbb (pv 0) T.cl_Roll (qc5 T) (hr.mono (by decide))) (pv 5) (qax _))))))) (qaf (qar pe_bl))
    qa0) (qaf (qar (qd3 (op_eqD hr.units) (qa5 (qaa (qbb (pv 0) T.cl_Roll (D_Roll_young T) (hr.mono (by decide))) (qaa (qbb (pv 0) T.cl_Roll (D_Roll_heaps T) (hr.mono (by decide))) qae))) (qa4 (D__law_grouped T) (hr.mono (by decide)) rfl (qaa (pv 6) (qaa (pv 5) (qaa (pv 7) qae)))) (qax _))))))), ?_⟩
  refine ⟨_, rfl, st, _, rfl, SqT.of hst, rfl, _, _, rfl, _, _, rfl, _, _, rfl, _, _, rfl, rfl, ?_⟩
  refine ⟨_, rfl, _, rfl, lR, _, _, _, rfl, rfl, SqL.of hR, hat, u.t b, _, rfl, SqT.of ht, rfl, _, _, rfl, _, _, rfl, rfl, ?_⟩
  have ep : ({ c with Y := Y0, Z := Z0 } : qa1).ps = u.ps b := o.qp
  have eg : ({ c with Y := Y0, Z := Z0 } : qa1).g = u.g b := o.qg
  have Rb := A0.rule
  rw [ep, eg] at Rb
  obtain ⟨dxr, hru⟩ := Rb.ob
  obtain ⟨xr, hxl, hxr⟩ := Rb.ls
  have nst : (rf c.rl (gv (u.g b))).lookup ("steps" : Str) = none := TB.rf_no _ _ (by decide +kernel) (by decide +kernel)
  have ngo : (rf c.rl (gv (u.g b))).lookup ("gone" : Str) = none := TB.rf_no _ _ (by decide +kernel) (by decide +kernel)
  refine ⟨_, rfl, ro, dx, _, rfl, hob, qd9 _ _ _ _ _, ro, _, rfl, A0, c.ru, dxr, _, rfl, hru, nst, c.ru, c.rl, u.ps b, u.g b, xr, rfl, Rb, hxl, fun l2 H2 n2 => ⟨_, rfl, ?_⟩⟩
  have s02 := n2.same
  refine ⟨qdp (u.ps b), qdp (u.ps b), Pairs.rep n2.at_ (hxr.same n2.same), Pairs.rep (s02 _ _ hl) (hp.same s02), qdu _, qdu _, dep_pairs _, _, rfl, ?_⟩
  show if (!PyData.eqv _ _) = true then _ else _
  rw [SeqAt.eqv_refl _ (qdu _)]
  refine iteF ?_
  have A2 := A0.same s02
  have ob2 := s02 _ _ hob
  refine ⟨_, rfl, ro, dx, _, rfl, ob2, qd9 _ _ _ _ _, ro, _, rfl, A2, c.ru, dxr, _, rfl, n2.same _ _ hru, ngo, c.ru, c.rl, u.ps b, u.g b, rfl, Rb.same n2.same, _, rfl, ?_⟩
  refine ⟨dV (gv (u.g b)), dV (gv (u.g b)), gv_rep _, gv_rep _, gv_lay _, gv_lay _, gv_dep _, _, rfl, ?_⟩
  show if (!PyData.eqv _ _) = true then _ else _
  rw [SeqAt.eqv_refl _ (gv_lay _)]
  refine iteF ?_
  have eday : ({ c with Y := Y0, Z := Z0 } : qa1).day = d := o.qd
  refine ⟨_, rfl, ro, dx, _, rfl, ob2, rof_day _ _ _ _ _, ro, _, rfl, A2, _, rfl, rfl, ?_⟩
  rw [eday]
  refine ⟨_, rfl, ?_⟩
  rw [show (!decide (V.int d = V.int d)) = false by simp]
  refine iteF ?_
  refine ⟨_, rfl, ro, dx, _, rfl, ob2, rof_edges _ _ _ _ _, ro, _, rfl, A2, fun le3 H3 n3 => ?_⟩
  have n3' : New H2 H3 le3 (.lst (c.es.map V.int ++ [gv c.ge])) := n3
  rw [o.eq] at n3'
  have s03 := s02.trans n3'.same
  refine ⟨_, rfl, .list ((es.map V.int ++ [gv ge]).map dV), .list ((es.map V.int ++ [gv ge]).map dV), .lst (SqL.of n3'.at_) (ed_reps hEd), .lst (SqL.of (s03 _ _ hle)) (ed_reps hEd), ed_lay' _, ed_lay' _, ed_dep _, _, rfl, ?_⟩
  show if (!PyData.eqv _ _) = true then _ else _
  rw [SeqAt.eqv_refl _ (ed_lay' _)]
  refine iteF ?_
  have R3 := o.R.same s03
  clear n3 n3' A2 ob2 Rb hru hxl hxr n2 s02
  refine ⟨_, rfl, ro, dx, _, rfl, s03 _ _ hob, rof_young _ _ _ _ _, ?_⟩
  walk_at "n"
  refine R3.young (by omega) fun l5 x5 H5 s5 f5 h5 t5 k5 => ?_
  refine ⟨_, rfl, ro, dx, _, rfl, s5 _ _ (s03 _ _ hob), rof_heaps _ _ _ _ _, ?_⟩
  walk_at "n"
  refine (R3.same s5).heaps (by omega) fun l6 x6 H6 s6 f6 h6 t6 k6 => ?_
  refine ⟨by show 2 <= sizeLine; decide, fun t H7 n7 => ?_⟩
  have s67 := s6.trans n7.same
  have s37 := s5.trans s67
  have s07 := s03.trans s37
  walk_at "r"
  refine ⟨lx, le, u.l b, ys, _, u.xs b, rs, es, ge, u.ps b, u.g b, rfl, s07 _ _ hlx, tx.same s07, fun r hr => (o.hr r hr).ok, by omega, s07 _ _ hle, o.E, by rw [hu.len b, o.len hu], s07 _ _ hl, hp.same s07, P, fun tg g1 g2 y1 y2 H9 s9 hg e1 w1 e2 w2 => ?_⟩
  rw [hu.w b] at w1 w2
  refine ⟨dTwo _ _, dTwo _ _, rep_two (s9 _ _ n7.at_) (s9 _ _ (s67 _ _ h5)) ((t5.same s67).same s9) (s9 _ _ (n7.same _ _ h6)) ((t6.same n7.same).same s9), rep_two hg e1 w1 e2 w2, lay_two _ _, lay_two _ _, dep_two _ _, ?_⟩
  show Q (V.bl (PyData.eqv _ _)) H9
  rw [SeqAt.eqv_refl _ (lay_two _ _)]
  exact q H9 (s07.trans s9)
end
section
variable {P : Program} {w : World} {K : Frag} {mg : Str -> Option Value} {base : Heap} {C_Roll C_Rule C_BookError C_NoNumber C_NoRule C_Backward : Addr}
def Odd (H : Hp) (a : Addr) : Prop := ∃ x0 vs, H a = some (.lst (.ref x0 :: vs)) /\ ((∃ C dx fs, H x0 = some (.ins C dx fs)) \/ ∃ p q r s, H x0 = some (.tup [p, q, r, s]))
theorem Odd.two {H : Hp} {x0 : Addr} {u v : V} (o : (∃ C dx fs, H x0 = some (.ins C dx fs)) \/ ∃ p q r s, H x0 = some (.tup [p, q, r, s])) : H x0 ≠ some (.tup [u, v]) := fun e => by
 rcases o with ⟨C, dx, fs, h⟩ | ⟨p, q, r, s, h⟩ <;> rw [h] at e <;> cases e
theorem Odd.three {H : Hp} {x0 : Addr} {u v w : V} (o : (∃ C dx fs, H x0 = some (.ins C dx fs)) \/ ∃ p q r s, H x0 = some (.tup [p, q, r, s])) : H x0 ≠ some (.tup [u, v, w]) := fun e => by
 rcases o with ⟨C, dx, fs, h⟩ | ⟨p, q, r, s, h⟩ <;> rw [h] at e <;> cases e
section
variable {C R : Addr} {H H' : Hp} {a : Addr}
theorem Odd.tupS (o : Odd H a) (b : But a H H') : TupS H H' := fun x ys e => by
 obtain ⟨x0, vs, ha, _⟩ := o
 exact b x _ e (qbk e ha (by intro z; cases z))
theorem Odd.pairs {l : Addr} {xs : List V} {ps : List (Int × Int)} (o : Odd H a) (b : But a H H') (hl : H l = some (.lst xs)) (hp : Pairs H xs ps) : H' l = some (.lst xs) /\ Pairs H' xs ps := by
 refine ⟨?_, hp.tupS (o.tupS b)⟩
 obtain ⟨x0, vs, ha, ho⟩ := o
 refine b _ _ hl fun e => ?_
 subst e
 rw [ha] at hl
 cases hl
 obtain ⟨p, _, c, e2, hc⟩ := hp.get (i := 0) (x := .ref x0) rfl
 cases e2
 exact Odd.two ho hc
theorem Odd.tups {l : Addr} {xs : List V} {rs : List Rd3} (o : Odd H a) (b : But a H H') (hl : H l = some (.lst xs)) (hp : Tups H xs (rs.map l3)) : H' l = some (.lst xs) /\ Tups H' xs (rs.map l3) := by
 refine ⟨?_, hp.tupS (o.tupS b)⟩
 obtain ⟨x0, vs, ha, ho⟩ := o
 refine b _ _ hl fun e => ?_
 subst e
 rw [ha] at hl
 cases hl
 obtain ⟨p, hr, c, e2, hc⟩ := hp.get (i := 0) (x := .ref x0) rfl
 cases e2
 rw [List.getElem?_map] at hr
 obtain ⟨t, _, rfl⟩ := Option.map_eq_some_iff.mp hr
 exact Odd.three ho hc
theorem Odd.edges {l : Addr} {es : List Int} {ge : Option Int} (o : Odd H a) (b : But a H H') (h1 : 1 <= es.length) (hl : H l = some (.lst (es.map V.int ++ [gv ge]))) : H' l = some (.lst (es.map V.int ++ [gv ge])) := by
 obtain ⟨x0, vs, ha, ho⟩ := o
 refine b _ _ hl fun e => ?_
 subst e
 rw [ha] at hl
 cases es with
 | nil => simp at h1
 | cons y t => cases hl
theorem Odd.oth {l : Addr} {o' : HO} (o : Odd H a) (b : But a H H') (hl : H l = some o') (n : ∀ xs, o' ≠ .lst xs) : H' l = some o' := by
 obtain ⟨x0, vs, ha, ho⟩ := o
 exact b _ _ hl (qbk hl ha (n _))
theorem Odd.sq {K : Frag} {l : Addr} {ns : List Int} (o : Odd H a) (b : But a H H') (h : SqL K H l (ns.map V.int)) : SqL K H' l (ns.map V.int) := by
 rcases h with (h | ⟨o2, h⟩) | h
 ·refine .inl (.inl ?_)
  obtain ⟨x0, vs, ha, ho⟩ := o
  refine b _ _ h fun e => ?_
  subst e
  rw [ha] at h
  cases ns with
  | nil => cases h
  | cons y t => cases h
 ·exact .inl (.inr ⟨o2, o.oth b h (by intro xs z; cases z)⟩)
 ·exact .inr h
theorem Odd.rr {r : Addr} {c : qa1} {s : Abs} {LY LZ : List (List Int)} (o : Odd H a) (b : But a H H') (h1 : 1 <= c.es.length) (h : RR C R H r c s LY LZ) : RR C R H' r c s LY LZ := by
 obtain ⟨Y, Z, A, B⟩ := h
 obtain ⟨dx, e1⟩ := A.ob
 obtain ⟨dx2, e2⟩ := A.rule.ob
 obtain ⟨ys, e3, p⟩ := A.rule.ls
 obtain ⟨e3', p'⟩ := o.pairs b e3 p
 exact ⟨Y, Z, ⟨⟨dx, o.oth b e1 (by intro xs z; cases z)⟩, ⟨⟨dx2, o.oth b e2 (by intro xs z; cases z)⟩, ys, e3', p'⟩, o.edges b h1 A.ed, o.oth b A.yo (by intro xs z; cases z), o.oth b A.he (by intro xs z; cases z), A.ne⟩, B.tups (o.tupS b)⟩
theorem Odd.ru {lR : Addr} {u : U37} (o : Odd H a) (b : But a H H') (h : Ru37 H lR u) : Ru37 H' lR u := by
 refine ⟨?_, fun c => o.tupS b _ _ (h.ht c), fun c => (o.pairs b (h.hl c) (h.hp c)).1, fun c => (o.pairs b (h.hl c) (h.hp c)).2, h.pr, h.w, h.W⟩
 obtain ⟨x0, vs, ha, ho⟩ := o
 refine b _ _ h.hR fun e => ?_
 have hR := h.hR
 rw [e, ha] at hR
 injection hR with hR
 injection hR with hR
 injection hR with h1 h2
 injection h1 with h1
 rw [h1] at ho
 exact Odd.two ho (h.ht false)
theorem Odd.r37 {u : U37} {lR : Addr} {r : Addr} {q : qa1} {c : Bool} {d : Int} {es : List Int} {ge : Option Int} {rs : List Rd3} {LY LZ : List (List Int)} (o : Odd H a) (b : But a H H') (hu : Ru37 H lR u) (h : R37 C R H u r q c d es ge rs LY LZ) : R37 C R H' u r q c d es ge rs LY LZ :=
 {h with R := o.rr b (by rw [h.qe, h.len hu]; exact hu.W.lo) h.R }
theorem Odd.t37 {s le lx : Addr} {c : Bool} {d : Int} {es : List Int} {ge : Option Int} {rs : List Rd3} (o : Odd H a) (b : But a H H') (h1 : 1 <= es.length) (h : T37 H s le lx c d es ge rs) : T37 H' s le lx c d es ge rs := by
 obtain ⟨ys, e1, e2⟩ := h.hx
 exact ⟨o.tupS b _ _ h.hs, o.edges b h1 h.he, ys, (o.tups b e1 e2).1, (o.tups b e1 e2).2⟩
theorem Odd.f37 {u : U37} {lR : Addr} {x : S37} (o : Odd H a) (b : But a H H') (hu : Ru37 H lR u) (h : F37 C R H u x) : F37 C R H' u x :=
 ⟨o.r37 b hu h.o, o.t37 b (by rw [h.o.len hu]; exact hu.W.lo) h.t⟩
theorem Odd.same (s : Same H H') (o : Odd H a) : Odd H' a := by
 obtain ⟨x0, vs, ha, ho⟩ := o
 refine ⟨x0, vs, s _ _ ha, ?_⟩
 rcases ho with ⟨C, dx, fs, h⟩ | ⟨p, q, r, t, h⟩
 ·exact .inl ⟨C, dx, fs, s _ _ h⟩
 ·exact .inr ⟨p, q, r, t, s _ _ h⟩
theorem RR.kd {r : Addr} {c : qa1} {s : Abs} {LY LZ : List (List Int)} (h : RR C R H r c s LY LZ) (b : But2 c.dy c.dh H H') : ∀ x o, H x = some o -> (∀ K, o ≠ .dT K) -> H' x = some o := by
 obtain ⟨⟨Y, hY⟩, ⟨Z, hZ⟩⟩ := h.dicts
 exact fun x o e n => b.keep hY hZ e n
theorem T37.kd {s le lx : Addr} {c : Bool} {d : Int} {es : List Int} {ge : Option Int} {rs : List Rd3} (kd : ∀ x o, H x = some o -> (∀ K, o ≠ .dT K) -> H' x = some o) (h : T37 H s le lx c d es ge rs) : T37 H' s le lx c d es ge rs := by
 obtain ⟨ys, e1, e2⟩ := h.hx
 exact ⟨kd _ _ h.hs (by intro K z; cases z), kd _ _ h.he (by intro K z; cases z), ys, kd _ _ e1 (by intro K z; cases z), e2.tupS fun b xs e => kd _ _ e (by intro K z; cases z)⟩
theorem F37.frame {u : U37} {x : S37} {r : Addr} {q : qa1} {s : Abs} {LY LZ : List (List Int)} (h : F37 C R H u x) (h1 : RR C R H r q s LY LZ) (b : But2 q.dy q.dh H H') (n : ApartD x.q q) : F37 C R H' u x := by
 obtain ⟨⟨Y, hY⟩, ⟨Z, hZ⟩⟩ := h1.dicts
 have kd := h1.kd b
 exact ⟨{ h.o with R := h.o.R.frame b hY hZ n.1 n.2.1 n.2.2.1 n.2.2.2 }, h.t.kd kd⟩
theorem Ru37.kd {u : U37} {lR : Addr} {r : Addr} {q : qa1} {s : Abs} {LY LZ : List (List Int)} (h : Ru37 H lR u) (h1 : RR C R H r q s LY LZ) (b : But2 q.dy q.dh H H') : Ru37 H' lR u := by
 obtain ⟨⟨Y, hY⟩, ⟨Z, hZ⟩⟩ := h1.dicts
 have kd := h1.kd b
 exact ⟨kd _ _ h.hR (by intro K z; cases z), fun c => kd _ _ (h.ht c) (by intro K z; cases z), fun c => kd _ _ (h.hl c) (by intro K z; cases z), fun c => (h.hp c).tupS (b.tups hY hZ), h.pr, h.w, h.W⟩
theorem sq_kd {K : Frag} {l : Addr} {xs : List V} (kd : ∀ x o, H x = some o -> (∀ K, o ≠ .dT K) -> H' x = some o) (h : SqL K H l xs) : SqL K H' l xs := by
 rcases h with (h | ⟨o, h⟩) | h
 ·exact .inl (.inl (kd _ _ h (by intro K z; cases z)))
 ·exact .inl (.inr ⟨o, kd _ _ h (by intro K z; cases z)⟩)
 ·exact .inr h
end
theorem sum_set {f : S37 -> Nat} (X : List S37) : ∀ {i : Nat} {x : S37} (y : S37), X[i]? = some x -> ((X.set i y).map f).sum + f x = (X.map f).sum + f y := by
 induction X with
 | nil => intro i x y h; rw [List.getElem?_nil] at h; cases h
 | cons z t ih =>
  intro i x y h
  cases i with
  | zero =>
   rw [List.getElem?_cons_zero] at h
   cases h
   rw [List.set_cons_zero, List.map_cons, List.map_cons, List.sum_cons, List.sum_cons]
   omega
  | succ i =>
   rw [List.getElem?_cons_succ] at h
   have := ih y h
   rw [List.set_cons_succ, List.map_cons, List.map_cons, List.sum_cons, List.sum_cons]
   omega
theorem le_sum {f : S37 -> Nat} (X : List S37) : ∀ {i : Nat} {x : S37}, X[i]? = some x -> f x <= (X.map f).sum := by
 induction X with
 | nil => intro i x h; rw [List.getElem?_nil] at h; cases h
 | cons z t ih =>
  intro i x h
  rw [List.map_cons, List.sum_cons]
  cases i with
  | zero => rw [List.getElem?_cons_zero] at h; cases h; omega
  | succ i =>
   rw [List.getElem?_cons_succ] at h
   have := ih h
   omega
theorem le_sum2 {f : S37 -> Nat} (X : List S37) : ∀ {i j : Nat} {x y : S37}, X[i]? = some x -> X[j]? = some y -> i ≠ j -> f x + f y <= (X.map f).sum := by
 induction X with
 | nil => intro i j x y h; rw [List.getElem?_nil] at h; cases h
 | cons z t ih =>
  intro i j x y h1 h2 n
  rw [List.map_cons, List.sum_cons]
  cases i with
  | zero =>
   rw [List.getElem?_cons_zero] at h1
   cases h1
   cases j with
   | zero => exact absurd rfl n
   | succ j =>
    rw [List.getElem?_cons_succ] at h2
    have := le_sum (f := f) t h2
    omega
  | succ i =>
   rw [List.getElem?_cons_succ] at h1
   cases j with
   | zero =>
    rw [List.getElem?_cons_zero] at h2
    cases h2
    have := le_sum (f := f) t h1
    omega
   | succ j =>
    rw [List.getElem?_cons_succ] at h2
    have := ih h1 h2 (fun e => n (by rw [e]))
    omega
theorem mem_set_i {α : Type} {xs : List α} {k : Nat} {z y : α} (h : y ∈ xs.set k z) : y = z \/ ∃ i, i ≠ k /\ xs[i]? = some y := by
 obtain ⟨i, hi, e⟩ := List.getElem_of_mem h
 have h' : (xs.set k z)[i]? = some y := by rw [<- e]; exact List.getElem?_eq_getElem hi
 by_cases c : k = i
 ·subst c
  rw [List.getElem?_set_self (by simpa using hi)] at h'
  exact .inl (Option.some.inj h').symm
 ·rw [List.getElem?_set_ne c] at h'
  exact .inr ⟨i, fun z => c z.symm, h'⟩
theorem map_set_same {α β : Type} (f : α -> β) {xs : List α} {k : Nat} {x z : α} (h : xs[k]? = some x) (e : f z = f x) : (xs.set k z).map f = xs.map f := by
 rw [List.map_set, e]
 apply List.ext_getElem?
 intro i
 by_cases c : k = i
 ·subst c
  have hk := (List.getElem?_eq_some_iff.mp h).1
  rw [List.getElem?_set_self (by simpa using hk), List.getElem?_map, h]; rfl
 ·rw [List.getElem?_set_ne c]
theorem ApartD.sym {c q : qa1} (h : ApartD c q) : ApartD q c := ⟨h.1.symm, h.2.2.1.symm, h.2.1.symm, h.2.2.2.symm⟩
theorem ap_set {X : List S37} {k : Nat} {z : S37} (ap : ∀ (i j : Nat) x y, X[i]? = some x -> X[j]? = some y -> i ≠ j -> ApartD x.q y.q) (hk : k < X.length) (hz : ∀ (i : Nat) x, i ≠ k -> X[i]? = some x -> ApartD x.q z.q) : ∀ (i j : Nat) x y, (X.set k z)[i]? = some x -> (X.set k z)[j]? = some y -> i ≠ j -> ApartD x.q y.q := fun i j x y hi hj hij => by
 by_cases c1 : k = i
 ·subst c1
  rw [List.getElem?_set_self hk] at hi
  rw [List.getElem?_set_ne hij] at hj
  cases hi
  exact (hz j y (fun z => hij z.symm) hj).sym
 ·rw [List.getElem?_set_ne c1] at hi
  by_cases c2 : k = j
  ·subst c2
   rw [List.getElem?_set_self hk] at hj
   cases hj
   exact hz i x hij hi
  ·rw [List.getElem?_set_ne c2] at hj
   exact ap i j x y hi hj hij
def N37 (n : Nat) (d : Int) : Prop := -(3 * 10 ^ 40) <= d /\ d <= 3 * 10 ^ 40 + 10 ^ 38 * (n : Int)
theorem N37.bd {n : Nat} {d : Int} (h : N37 n d) (hn : n <= 60) : Bd d := by unfold N37 at h; unfold Bd; omega
structure J37 (K : Frag) (C R : Addr) (H : Hp) (a lr lS lR : Addr) (ns : List Int) (u : U37) (X : List S37) (n : Nat) : Prop where
 S : SqL K H a (ns.map V.int)
 hl : H lr = some (.lst (X.map fun x => V.ref x.r))
 hs : H lS = some (.lst (X.map fun x => V.ref x.s))
 h3 : X.length = 3
 ru : Ru37 H lR u
 F : ∀ x ∈ X, F37 C R H u x
 ap : ∀ (i j : Nat) x y, X[i]? = some x -> X[j]? = some y -> i ≠ j -> ApartD x.q y.q
 cnt : (X.map fun x => x.rs.length).sum <= n
 dn : ∀ x ∈ X, N37 n x.d
theorem J37.same {K : Frag} {C R : Addr} {H H' : Hp} {a lr lS lR : Addr} {ns : List Int} {u : U37} {X : List S37} {n : Nat} (e : Same H H') (h : J37 K C R H a lr lS lR ns u X n) : J37 K C R H' a lr lS lR ns u X n :=
 ⟨qd7 e h.S, e _ _ h.hl, e _ _ h.hs, h.h3, h.ru.same e, fun x hx => (h.F x hx).same e, h.ap, h.cnt, h.dn⟩
theorem J37.oddl {K : Frag} {C R : Addr} {H : Hp} {a lr lS lR : Addr} {ns : List Int} {u : U37} {X : List S37} {n : Nat} (h : J37 K C R H a lr lS lR ns u X n) : Odd H lr := by
 cases hX : X with
 | nil => have := h.h3; rw [hX] at this; cases this
 | cons x t =>
  have hl := h.hl
  rw [hX] at hl
  obtain ⟨dx, hob⟩ := (h.F x (by rw [hX]; exact List.mem_cons_self)).o.R.obj
  exact ⟨x.r, _, hl, .inl ⟨_, _, _, hob⟩⟩
theorem J37.odds {K : Frag} {C R : Addr} {H : Hp} {a lr lS lR : Addr} {ns : List Int} {u : U37} {X : List S37} {n : Nat} (h : J37 K C R H a lr lS lR ns u X n) : Odd H lS := by
 cases hX : X with
 | nil => have := h.h3; rw [hX] at this; cases this
 | cons x t =>
  have hl := h.hs
  rw [hX] at hl
  exact ⟨x.s, _, hl, .inr ⟨_, _, _, _, (h.F x (by rw [hX]; exact List.mem_cons_self)).t.hs⟩⟩
theorem J37.ne {K : Frag} {C R : Addr} {H : Hp} {a lr lS lR : Addr} {ns : List Int} {u : U37} {X : List S37} {n : Nat} (h : J37 K C R H a lr lS lR ns u X n) : lr ≠ lS := fun e => by
 have h1 := h.hl
 have h2 := h.hs
 rw [e, h2] at h1
 cases hX : X with
 | nil => have := h.h3; rw [hX] at this; cases this
 | cons x t =>
  rw [hX] at h1
  injection h1 with h1
  injection h1 with h1
  injection h1 with h1 _
  injection h1 with h1
  have F := h.F x (by rw [hX]; exact List.mem_cons_self)
  obtain ⟨dx, hob⟩ := F.o.R.obj
  have h2 := F.t.hs
  rw [h1, hob] at h2
  cases h2
structure G37 (K : Frag) (H : Hp) (a lr lS lR : Addr) (ns : List Int) (u : U37) (LR LS : List V) : Prop where
 S : SqL K H a (ns.map V.int)
 hl : H lr = some (.lst LR)
 hs : H lS = some (.lst LS)
 ru : Ru37 H lR u
 ol : Odd H lr
 os : Odd H lS
 ne : lr ≠ lS
section
variable {K : Frag} {C R : Addr} {H H' : Hp} {a lr lS lR : Addr} {ns : List Int} {u : U37} {X : List S37} {n m : Nat} {LR LS : List V}
theorem J37.g (h : J37 K C R H a lr lS lR ns u X n) : G37 K H a lr lS lR ns u (X.map fun x => V.ref x.r) (X.map fun x => V.ref x.s) := ⟨h.S, h.hl, h.hs, h.ru, h.oddl, h.odds, h.ne⟩
theorem G37.same (e : Same H H') (h : G37 K H a lr lS lR ns u LR LS) : G37 K H' a lr lS lR ns u LR LS := ⟨qd7 e h.S, e _ _ h.hl, e _ _ h.hs, h.ru.same e, h.ol.same e, h.os.same e, h.ne⟩
theorem Odd.but {c d : Addr} (o : Odd H d) (o2 : Odd H c) (b : But c H H') (n : d ≠ c) : Odd H' d := by
 obtain ⟨x0, vs, ha, ho⟩ := o
 refine ⟨x0, vs, b _ _ ha n, ?_⟩
 rcases ho with ⟨C, dx, fs, h⟩ | ⟨p, q, r, t, h⟩
 ·exact .inl ⟨C, dx, fs, o2.oth b h (by intro xs z; cases z)⟩
 ·exact .inr ⟨p, q, r, t, o2.tupS b _ _ h⟩
theorem Odd.set {c y : Addr} {L : List V} {i : Nat} (o : Odd H c) (hc : H c = some (.lst L)) (b : But c H H') (h : H' c = some (.lst (L.set i (.ref y)))) (hy : (∃ C dx fs, H y = some (.ins C dx fs)) \/ ∃ p q r s, H y = some (.tup [p, q, r, s])) : Odd H' c := by
 have up : ∀ z, ((∃ C dx fs, H z = some (.ins C dx fs)) \/ ∃ p q r s, H z = some (.tup [p, q, r, s])) -> ((∃ C dx fs, H' z = some (.ins C dx fs)) \/ ∃ p q r s, H' z = some (.tup [p, q, r, s])) := fun z hz => by
  rcases hz with ⟨C, dx, fs, h⟩ | ⟨p, q, r, t, h⟩
  ·exact .inl ⟨C, dx, fs, o.oth b h (by intro xs z; cases z)⟩
  ·exact .inr ⟨p, q, r, t, o.tupS b _ _ h⟩
 obtain ⟨x0, vs, ha, ho⟩ := id o
 rw [hc] at ha
 have eL : L = .ref x0 :: vs := by injection ha with ha; injection ha
 rw [eL] at h
 cases i with
 | zero => exact ⟨y, vs, h, up y hy⟩
 | succ i => exact ⟨x0, _, h, up x0 ho⟩
theorem G37.setl {i : Nat} {r : Addr} (g : G37 K H a lr lS lR ns u LR LS) (b : But lr H H') (h : H' lr = some (.lst (LR.set i (.ref r)))) (hr : ∃ C dx fs, H r = some (.ins C dx fs)) : G37 K H' a lr lS lR ns u (LR.set i (.ref r)) LS :=
 ⟨g.ol.sq b g.S, h, b _ _ g.hs g.ne.symm, g.ol.ru b g.ru, g.ol.set g.hl b h (.inl hr), g.os.but g.ol b g.ne.symm, g.ne⟩
theorem G37.sets {i : Nat} {s : Addr} (g : G37 K H a lr lS lR ns u LR LS) (b : But lS H H') (h : H' lS = some (.lst (LS.set i (.ref s)))) (hr : ∃ p q r t, H s = some (.tup [p, q, r, t])) : G37 K H' a lr lS lR ns u LR (LS.set i (.ref s)) :=
 ⟨g.os.sq b g.S, b _ _ g.hl g.ne, h, g.os.ru b g.ru, g.ol.but g.os b g.ne, g.os.set g.hs b h (.inr hr), g.ne⟩
theorem G37.j (g : G37 K H a lr lS lR ns u LR LS) (e1 : LR = X.map fun x => V.ref x.r) (e2 : LS = X.map fun x => V.ref x.s) (h3 : X.length = 3) (F : ∀ x ∈ X, F37 C R H u x) (ap : ∀ (i j : Nat) x y, X[i]? = some x -> X[j]? = some y -> i ≠ j -> ApartD x.q y.q) (cnt : (X.map fun x => x.rs.length).sum <= n) (dn : ∀ x ∈ X, N37 n x.d) : J37 K C R H a lr lS lR ns u X n :=
 ⟨g.S, by rw [<- e1]; exact g.hl, by rw [<- e2]; exact g.hs, h3, g.ru, F, ap, cnt, dn⟩
theorem J37.mono (h : J37 K C R H a lr lS lR ns u X n) (e : n <= m) : J37 K C R H a lr lS lR ns u X m :=
 {h with cnt := Nat.le_trans h.cnt e, dn := fun x hx => by have := h.dn x hx; unfold N37 at this ⊢; omega }
theorem R37.apart {r : Addr} {q q2 : qa1} {b : Bool} {d : Int} {es : List Int} {ge : Option Int} {rs : List Rd3} {LY LZ : List (List Int)} (h : R37 C R H u r q b d es ge rs LY LZ) (f : H q2.dy = none /\ H q2.dh = none) : ApartD q q2 := by
 obtain ⟨⟨Y, hY⟩, ⟨Z, hZ⟩⟩ := h.R.dicts
 exact ⟨qag hY f.1, qag hY f.2, qag hZ f.1, qag hZ f.2⟩
end
end
section
variable {P : Program} {w : World} {K : Frag} {mg : Str -> Option Value} {base : Heap} {C_Roll C_Rule C_BookError C_NoNumber C_NoRule C_Backward : Addr}
theorem qec {n i : Nat} (h : i < n) : ixN n (i : Int) = some i := by
 unfold ixN
 rw [if_pos (by omega), if_pos (by omega), Int.toNat_natCast]
theorem at_m {X : List S37} {i : Nat} {x : S37} (f : S37 -> V) (h : X[i]? = some x) : atI (X.map f) (i : Int) = some (f x) := atI_nat (by rw [List.getElem?_map, h]; rfl)
def dRule (ps : List (Int × Int)) (g : Option Int) : PyData := .tuple [qdp ps, dV (gv g)]
theorem rule_eqv (ps qs : List (Int × Int)) (g h : Option Int) : PyData.eqv (dRule ps g) (dRule qs h) = decide (ps = qs /\ g = h) := by
 unfold dRule
 rw [PyData.eqv, PyData.eqvAll, PyData.eqvAll, PyData.eqvAll, pairs_eqv, gv_eqv]
 by_cases h1 : ps = qs <;> by_cases h2 : g = h <;> simp [h1, h2]
theorem rule_lay (ps : List (Int × Int)) (g : Option Int) : (dRule ps g).canLay0 = true := by
 have h1 := qdu ps
 have h2 := gv_lay g
 simp [dRule, PyData.canLay0, PyData.canLayAll0, h1, h2]
theorem rule_dep (ps : List (Int × Int)) (g : Option Int) : (dRule ps g).depth <= 20 := by
 have h1 := dep_map ps
 have h4 : (dV (gv g)).depth = 0 := by cases g <;> rfl
 simp [dRule, qdp, PyData.depth, PyData.depthAll, h4]; omega
theorem Ru37.rep {F : Frag} {H : Hp} {lR : Addr} {u : U37} (h : Ru37 H lR u) (b : Bool) : Rep F H (.ref (u.t b)) (dRule (u.ps b) (u.g b)) := .tup (SqT.of (h.ht b)) (.cons (Pairs.rep (h.hl b) (h.hp b)) (.cons (gv_rep _) .nil))
theorem tups_app {H : Hp} : ∀ {xs us : List V} {rs qs : List (List Int)}, Tups H xs rs -> Tups H us qs -> Tups H (xs ++ us) (rs ++ qs)
 | _, _, _, _, .nil, h => h
 | _, _, _, _, .cons r t, h => .cons r (tups_app t h)
structure W37 (K : Frag) (C R : Addr) (H : Hp) (a lr lS lR : Addr) (ns : List Int) (u : U37) (X : List S37) (LR LS : List V) : Prop where
 g : G37 K H a lr lS lR ns u LR LS
 F : ∀ x ∈ X, F37 C R H u x
section
variable {K : Frag} {C R : Addr} {H H' : Hp} {a lr lS lR : Addr} {ns : List Int} {u : U37} {X : List S37} {n : Nat} {LR LS : List V}
theorem J37.wd (h : J37 K C R H a lr lS lR ns u X n) : W37 K C R H a lr lS lR ns u X (X.map fun x => V.ref x.r) (X.map fun x => V.ref x.s) := ⟨h.g, h.F⟩
theorem W37.same (e : Same H H') (h : W37 K C R H a lr lS lR ns u X LR LS) : W37 K C R H' a lr lS lR ns u X LR LS := ⟨h.g.same e, fun x hx => (h.F x hx).same e⟩
theorem W37.setl {i : Nat} {r : Addr} (w : W37 K C R H a lr lS lR ns u X LR LS) (b : But lr H H') (h : H' lr = some (.lst (LR.set i (.ref r)))) (hr : ∃ C dx fs, H r = some (.ins C dx fs)) : W37 K C R H' a lr lS lR ns u X (LR.set i (.ref r)) LS := ⟨w.g.setl b h hr, fun x hx => w.g.ol.f37 b w.g.ru (w.F x hx)⟩
theorem W37.sets {i : Nat} {s : Addr} (w : W37 K C R H a lr lS lR ns u X LR LS) (b : But lS H H') (h : H' lS = some (.lst (LS.set i (.ref s)))) (hr : ∃ p q r t, H s = some (.tup [p, q, r, t])) : W37 K C R H' a lr lS lR ns u X LR (LS.set i (.ref s)) := ⟨w.g.sets b h hr, fun x hx => w.g.os.f37 b w.g.ru (w.F x hx)⟩
end
theorem R37.ins {C R : Addr} {H : Hp} {u : U37} {r : Addr} {q : qa1} {b : Bool} {d : Int} {es : List Int} {ge : Option Int} {rs : List Rd3} {LY LZ : List (List Int)} (h : R37 C R H u r q b d es ge rs LY LZ) : ∃ C dx fs, H r = some (.ins C dx fs) := by
 obtain ⟨dx, e⟩ := h.R.obj
 exact ⟨_, _, _, e⟩
def sp_poured37 (K : Frag) (C R : Addr) : Sp := fun vs H Q _ => ∃ (a lr lS lR : Addr) (ns : List Int) (u : U37) (X : List S37) (n i j : Nat) (x y : S37), vs = [.ref lr, .ref lS, .ref lR, .int i, .int j] /\ J37 K C R H a lr lS lR ns u X n /\ X[i]? = some x /\ X[j]? = some y /\ i ≠ j /\ n <= 50 /\ ∀ X' H', J37 K C R H' a lr lS lR ns u X' n -> Q (.bl true) H'
theorem D__law_poured (T : Txt K mg C_Roll C_Rule C_BookError C_NoNumber C_NoRule C_Backward) : qbs P w K mg base 8 "_law_poured" ["_law_rolls", "_law_states", "_law_rules", "_law_one", "_law_other"] (sp_poured37 K C_Roll C_Rule) := by
 obtain ⟨f, fd, F, hm⟩ := T.f__law_poured
 have nd := sc__law_poured.nd
 refine F.def_ hm (F.ok sc__law_poured (fun vs H Q E h => ?_) (fun cdv A outer s H vs Q E hr h => ?_)) (F.binds fun _ _ _ _ _ _ us hl => by obtain ⟨_, _, _, _, _, rfl⟩ := L2.lq5 hl; rfl)
 ·obtain ⟨a, lr, lS, lR, ns, u, X, n, i, j, x, y, rfl, _⟩ := h; rfl
 ·obtain ⟨a, lr, lS, lR, ns, u, X, n, i, j, x, y, rfl, J, hi, hj, hij, hn, q⟩ := h
  have Fx := J.F x (List.mem_of_getElem? hi)
  have Fy := J.F y (List.mem_of_getElem? hj)
  have hu := J.ru
  have h50 : x.rs.length + y.rs.length <= 50 := by
   have h1 := le_sum2 (f := fun x => x.rs.length) X hi hj hij
   have h2 := J.cnt
   omega
  have gri := at_m (fun x => V.ref x.r) hi
  have grj := at_m (fun x => V.ref x.r) hj
  have gsi := at_m (fun x => V.ref x.s) hi
  have gsj := at_m (fun x => V.ref x.s) hj
  have hlr := J.hl
  have hlS := J.hs
  have hR := hu.hR
  have hxs := Fx.t.hs
  have hys := Fy.t.hs
  have hax := hu.at_ x.b
  have hay := hu.at_ y.b
  have htx := hu.ht x.b
  have il : i < X.length := (List.getElem?_eq_some_iff.mp hi).1
  have jl : j < X.length := (List.getElem?_eq_some_iff.mp hj).1
  refine ⟨_, (qac (qas (i := 5) nd rfl (Or.inl rfl) pe_str) (qac (qas (i := 6) nd rfl (Or.inl rfl) qb1) (qac (ps_try0 ⟨rfl, rfl, rfl⟩ rfl T.mg_NoRule T.kx_NoRule.kt (fun _ _ => (qaf (qas (i := 6) nd rfl (Or.inl rfl) (pe_fnX (qb0 ⟨rfl, rfl, rfl⟩) (D_both T) (hr.mono (by decide)) rfl .nil (qaa (qai (show IxR _ (rIxL K) from qah) (pv 0) (pv 3) (fun _ _ => rfl)) (qaa (qai (show IxR _ (rIxL K) from qah) (pv 0) (pv 4) (fun _ _ => rfl)) qae))))))
    (fun _ _ => (qaf (qas (i := 5) nd rfl (Or.inl rfl) pe_str)))) (qac (qbl (qat (op_neD hr.units) (qai qah (pv 2) (qai qav (qai qah (pv 1) (pv 3) (fun _ _ => rfl)) qab (fun _ _ => rfl)) (fun _ _ => rfl)) (qai qah (pv 2) (qai qav (qai qah (pv 1) (pv 4) (fun _ _ => rfl)) qab (fun _ _ => rfl)) (fun _ _ => rfl)) (qax _)) (qaf (qar (qd3 op_eq (pv 5) pe_str (qax _))))
    qa0) (qac (qbl (qat op_eq (pv 5) pe_str (qax _)) (qaf (qar pe_bl))
    qa0) (qac (qas (i := 7) nd rfl (Or.inl rfl) (qai qav (qai qah (pv 1) (pv 3) (fun _ _ => rfl)) qab (fun _ _ => rfl))) (qac (qas (i := 8) nd rfl (Or.inl rfl) (qay (call_max2 rfl) rfl T.b_max bt_max (qaa (qai qav (qai qah (pv 1) (pv 3) (fun _ _ => rfl)) qab (fun _ _ => rfl)) (qaa (qai qav (qai qah (pv 1) (pv 4) (fun _ _ => rfl)) qab (fun _ _ => rfl)) qae)))) (qac (qas (i := 9) nd rfl (Or.inl rfl) (qa4 (qcr T) (hr.mono (by decide)) rfl (qaa (qai qav (qai qah (pv 1) (pv 3) (fun _ _ => rfl)) qab (fun _ _ => rfl)) (qaa (qai qav (qai qah (pv 1) (pv 4) (fun _ _ => rfl)) qab (fun _ _ => rfl)) qae)))) (qac (qas (i := 9) nd rfl (Or.inl rfl) (qa4 (qcr T) (hr.mono (by decide)) rfl (qaa (pv 9) (qaa (qa4 (qc6 T) (hr.mono (by decide)) rfl (qaa (qai qav (qai qah (pv 2) (pv 7) (fun _ _ => rfl)) qab (fun _ _ => rfl)) (qaa (qai qav (qai qah (pv 2) (pv 7) (fun _ _ => rfl)) qab (fun _ _ => rfl)) (qaa (pv 8) qae)))) qae)))) (qac (qdc (pv 6) (pg_sub (pv 0) (pv 3) qcf)) (qac (qdc (qa5 (qaa (pv 7) (qaa (pv 8) (qaa (pv 9) (qaa (qak op_catN (qai qav (qai qah (pv 1) (pv 3) (fun _ _ => rfl)) qab (fun _ _ => rfl)) (qai qav (qai qah (pv 1) (pv 4) (fun _ _ => rfl)) qab (fun _ _ => rfl))) qae))))) (pg_sub (pv 1) (pv 3) qcf)) (qac (qdc (pe_mkN (D_Roll_2 T) (hr.mono (by decide)) rfl .nil (qaa (pe_mkN (D_Rule_2 T) (hr.mono (by decide)) rfl .nil (qaa (qcc qbz rfl T.b_list qd5 (qaa (qai qav (qai qah (pv 2) (pv 7) (fun _ _ => rfl)) qab (fun _ _ => rfl)) qae)) (qaa (qai qav (qai qah (pv 2) (pv 7) (fun _ _ => rfl)) qab (fun _ _ => rfl)) qae))) (qaa (pv 8) qae))) (pg_sub (pv 0) (pv 4) qcf)) (qac (qdc (qa5 (qaa (pv 7) (qaa (pv 8) (qaa (qa4 (qc6 T) (hr.mono (by decide)) rfl (qaa (qai qav (qai qah (pv 2) (pv 7) (fun _ _ => rfl)) qab (fun _ _ => rfl)) (qaa (qai qav (qai qah (pv 2) (pv 7) (fun _ _ => rfl)) qab (fun _ _ => rfl)) (qaa (pv 8) qae)))) (qaa (qa6 qae) qae))))) (pg_sub (pv 1) (pv 4) qcf)) (qaf (qar pe_bl))))))))))))))), ?_⟩
  by_cases hne : u.ps x.b = u.ps y.b /\ u.g x.b = u.g y.b
  case neg =>
   walk_at "r"
   walk_at "n"
   refine R37.both (N := C_NoRule) Fx.o Fy.o hu h50 (fun _ H1 s1 => ⟨⟨C_NoRule, rfl, T.kx_NoRule.kt, T.hit_NoRule_NoRule⟩, ?_⟩) (fun z => absurd z hne)
   walk_at "r"
   refine ⟨dRule _ _, dRule _ _, (hu.same s1).rep x.b, (hu.same s1).rep y.b, rule_lay _ _, rule_lay _ _, rule_dep _ _, _, rfl, ?_⟩
   show if (!PyData.eqv _ _) = true then _ else _
   rw [rule_eqv, decide_eq_false hne]
   refine iteT ?_
   walk_at "r"
   exact q X H1 (J.same s1)
  case pos =>
   have lxy : x.es.length = y.es.length := by rw [Fx.o.len hu, Fy.o.len hu]
   have E12 := Fx.o.E.max Fy.o.E lxy
   have hD : Bd (if y.d > x.d then y.d else x.d) := by split; exact Fy.o.hd; exact Fx.o.hd
   have nD : N37 n (if y.d > x.d then y.d else x.d) := by split; exact J.dn y (List.mem_of_getElem? hj); exact J.dn x (List.mem_of_getElem? hi)
   obtain ⟨fs, fg, U1, U2, U3, U4, U5, U6⟩ := up37 hu x.b hD E12 (Fx.o.F.max Fy.o.F)
   have E3 := EdS.of (hu.pr x.b) hD
   have lo := hu.W.lo
   have hi5 := hu.W.hi
   have l12 : (List.zipWith gE (x.es.map V.int ++ [gv x.ge]) (y.es.map V.int ++ [gv y.ge])).length = u.ws.length + 1 := by
    have := Fx.o.len hu
    have := Fy.o.len hu
    simp only [List.length_zipWith, List.length_append, List.length_map, List.length_singleton]; omega
   have l3 : (eV (u.ps x.b) (u.g x.b) (if y.d > x.d then y.d else x.d)).length = u.ws.length + 1 := by
    rw [E3.eq]
    simp only [List.length_append, List.length_map, List.length_singleton, hu.len]
   walk_at "r"
   walk_at "n"
   refine R37.both (N := C_NoRule) Fx.o Fy.o hu h50 (fun z => absurd hne z) (fun _ => ⟨fs, fg, ⟨U1, U2, U3, U4, U5, U6⟩, fun r' q' LY' LZ' H1 s1 o1 f1 => ?_⟩)
   have w1 := J.wd.same s1
   have hne' := hne
   walk_at "r"
   refine ⟨dRule _ _, dRule _ _, w1.g.ru.rep x.b, w1.g.ru.rep y.b, rule_lay _ _, rule_lay _ _, rule_dep _ _, _, rfl, ?_⟩
   show if (!PyData.eqv _ _) = true then _ else _
   rw [rule_eqv, decide_eq_true hne]
   refine iteF ?_
   walk_at "r"
   refine ⟨x.le, y.le, _, _, rfl, s1 _ _ Fx.t.he, s1 _ _ Fy.t.he, Fx.o.E.ed, Fy.o.E.ed, by simp only [List.length_append, List.length_map, List.length_singleton]; omega, by have := Fx.o.len hu; simp only [List.length_append, List.length_map, List.length_singleton]; omega, fun m1 H2 n2 => ?_⟩
   have s2 := s1.trans n2.same
   have hR2 := s2 _ _ hR
   have htx2 := s2 _ _ htx
   walk_at "r"
   refine ⟨u.l x.b, u.xs x.b, u.ps x.b, u.g x.b, _, rfl, s2 _ _ (hu.hl x.b), (hu.hp x.b).same s2, hu.pr x.b, hD, fun m2 H3 n3 => ?_⟩
   refine ⟨m1, m2, _, _, rfl, n3.same _ _ n2.at_, n3.at_, E12.ed, E3.ed, by rw [l12, l3], by rw [l12]; omega, fun m3 H4 n4 => ?_⟩
   rw [gEs_comm E12.ed E3.ed, U4] at n4
   have s14 := n2.same.trans (n3.same.trans n4.same)
   have hm4 := n4.at_
   have w4 := w1.same s14
   have o4 := o1.same s14
   clear n2 n3 n4 w1 o1 hR2 htx2
   refine ⟨_, rfl, _, rfl, _, rfl, lr, _, _, i, rfl, rfl, w4.g.hl, qec (by rw [List.length_map]; exact il), fun H5 b5 h5 => ?_⟩
   have w5 := w4.setl b5 h5 o4.ins
   have o5 := w4.g.ol.r37 b5 w4.g.ru o4
   have hm5 := w4.g.ol.edges b5 (by rw [o4.len w4.g.ru]; exact lo) hm4
   have Fx5 := w5.F x (List.mem_of_getElem? hi)
   have Fy5 := w5.F y (List.mem_of_getElem? hj)
   obtain ⟨ax, hax5, tax⟩ := Fx5.t.hx
   obtain ⟨ay, hay5, tay⟩ := Fy5.t.hx
   have lax := tax.length
   have lay := tay.length
   rw [List.length_map] at lax lay
   have hlS5 := w5.g.hs
   have hxs5 := Fx5.t.hs
   have hys5 := Fy5.t.hs
   clear w4 o4 hm4 b5 h5
   walk_at "r"; intro p6 H6 n6
   walk_at "r"; intro t7 H7 n7
   have s57 := n6.same.trans n7.same
   have w7 := w5.same s57
   have t7' : T37 H7 t7 m3 p6 x.b (if y.d > x.d then y.d else x.d) fs fg (x.rs ++ y.rs) := ⟨n7.at_, s57 _ _ hm5, _, n7.same _ _ n6.at_, by rw [List.map_append]; exact (tups_app (tax.same s57) (tay.same s57))⟩
   have o7 := o5.same s57
   clear n6 hlS5 hxs5 hys5 w5 o5 hm5 Fx5 Fy5 tax tay
   refine ⟨_, rfl, _, rfl, lS, _, _, i, rfl, rfl, w7.g.hs, qec (by rw [List.length_map]; exact il), fun H8 b8 h8 => ?_⟩
   have w8 := w7.sets b8 h8 ⟨_, _, _, _, n7.at_⟩
   have o8 := w7.g.os.r37 b8 w7.g.ru o7
   have t8 := w7.g.os.t37 b8 (by rw [o7.len w7.g.ru]; exact lo) t7'
   have hR8 := w8.g.ru.hR
   have htx8 := w8.g.ru.ht x.b
   clear w7 o7 t7' n7 b8 h8
   have hl8 := w8.g.ru.hl x.b
   have hp8 := w8.g.ru.hp x.b
   have P8 := w8.g.ru.pr x.b
   walk_at "r"; intro l9 H9 n9
   have hR9 := n9.same _ _ hR8
   have htx9 := n9.same _ _ htx8
   walk_at "r"
   walk_at "n"
   intro ru dxr H10 s10 fr10 d10
   refine ⟨ru, dxr, l9, _, u.ps x.b, u.g x.b, rfl, d10, s10 _ _ n9.at_, (hp8.same n9.same).same s10, P8.good, P8.gone, fun rl H11 hrl R11 b11 => ⟨rfl, ?_⟩⟩
   have s8b : Same H8 H11 := n9.same.trans (b11.same s10 fr10)
   refine ⟨_, rfl, fun ro dx2 H12 s12 fr12 d12 => ?_⟩
   refine ⟨ro, dx2, ru, rl, _, _, _, rfl, d12, R11.same s12, P8, hD, fun e0 dy dh H13 z1 z2 z3 A13 b13 => ⟨rfl, ?_⟩⟩
   have s8d : Same H8 H13 := s8b.trans (b13.same s12 fr12)
   have fdy : H8 dy = none := (s8b.trans s12).free z2
   have fdh : H8 dh = none := (s8b.trans s12).free z3
   have w13 := w8.same s8d
   have o13 := o8.same s8d
   have t13 := t8.same s8d
   have v13 := R37.new (hu := w13.g.ru) x.b hD A13
   clear hR8 htx8 hl8 hp8 P8 hR9 htx9 n9 d10 hrl R11 b11 d12 z1 z2 z3 A13 b13 s8b t8
   refine ⟨_, rfl, _, rfl, lr, _, _, j, rfl, rfl, w13.g.hl, qec (by rw [List.length_set, List.length_map]; exact jl), fun H14 b14 h14 => ?_⟩
   have w14 := w13.setl b14 h14 v13.ins
   have o14 := w13.g.ol.r37 b14 w13.g.ru o13
   have v14 := w13.g.ol.r37 b14 w13.g.ru v13
   have t14 := w13.g.ol.t37 b14 (by rw [o13.len w13.g.ru]; exact lo) t13
   clear w13 o13 v13 t13 b14 h14
   have hR14 := w14.g.ru.hR
   have htx14 := w14.g.ru.ht x.b
   walk_at "r"
   refine ⟨u.l x.b, u.xs x.b, u.ps x.b, u.g x.b, _, rfl, w14.g.ru.hl x.b, w14.g.ru.hp x.b, w14.g.ru.pr x.b, hD, fun m15 H15 n15 => ?_⟩
   walk_at "r"; intro p16 H16 n16
   walk_at "r"; intro t17 H17 n17
   have s17 := n15.same.trans (n16.same.trans n17.same)
   have w17 := w14.same s17
   have o17 := o14.same s17
   have v17 := v14.same s17
   have t17' := t14.same s17
   have h15 := n15.at_
   rw [E3.eq] at h15
   have y17 : T37 H17 t17 m15 p16 x.b (if y.d > x.d then y.d else x.d) _ _ [] := ⟨n17.at_, n17.same _ _ (n16.same _ _ h15), [], n17.same _ _ n16.at_, .nil⟩
   refine ⟨_, rfl, _, rfl, lS, _, _, j, rfl, rfl, w17.g.hs, qec (by rw [List.length_set, List.length_map]; exact jl), fun H18 b18 h18 => ?_⟩
   have w18 := w17.sets b18 h18 ⟨_, _, _, _, n17.at_⟩
   have o18 := w17.g.os.r37 b18 w17.g.ru o17
   have v18 := w17.g.os.r37 b18 w17.g.ru v17
   have t18 := w17.g.os.t37 b18 (by rw [o17.len w17.g.ru]; exact lo) t17'
   have y18 := w17.g.os.t37 b18 (by rw [v17.len w17.g.ru]; exact lo) y17
   obtain ⟨z, hz⟩ : ∃ z : S37, z = ⟨r', t7, m3, p6, q', x.b, (if y.d > x.d then y.d else x.d), fs, fg, x.rs ++ y.rs, LY', LZ'⟩ := ⟨_, rfl⟩
   obtain ⟨z2, hz2⟩ : ∃ z2 : S37, z2 = ⟨ro, t17, m15, p16, newD ru rl e0 dy dh (u.ps x.b) (u.g x.b) (if y.d > x.d then y.d else x.d), x.b, (if y.d > x.d then y.d else x.d), (u.ps x.b).map fun p => cut (if y.d > x.d then y.d else x.d) p.1 p.2, (u.g x.b).map fun z => cut (if y.d > x.d then y.d else x.d) z (TB.lw (u.ps x.b)), [], [], []⟩ := ⟨_, rfl⟩
   have Fz : F37 C_Roll C_Rule H18 u z := by rw [hz]; exact ⟨o18, t18⟩
   have Fz2 : F37 C_Roll C_Rule H18 u z2 := by rw [hz2]; exact ⟨v18, y18⟩
   have hj' : (X.set i z)[j]? = some y := by rw [List.getElem?_set_ne hij]; exact hj
   have c1 := sum_set (f := fun x => x.rs.length) X z hi
   have c2 := sum_set (f := fun x => x.rs.length) (X.set i z) z2 hj'
   have e1 : z.rs.length = x.rs.length + y.rs.length := by rw [hz]; exact List.length_append
   have e2 : z2.rs.length = 0 := by rw [hz2]; rfl
   have c3 := J.cnt
   refine q ((X.set i z).set j z2) H18 (w18.g.j ?_ ?_ ?_ ?_ ?_ ?_ ?_)
   ·rw [List.map_set, List.map_set, hz, hz2]
   ·rw [List.map_set, List.map_set, hz, hz2]
   ·rw [List.length_set, List.length_set]; exact J.h3
   ·intro w hw
    rcases List.mem_or_eq_of_mem_set hw with h | rfl
    ·rcases List.mem_or_eq_of_mem_set h with h | rfl
     ·exact w18.F w h
     ·exact Fz
    ·exact Fz2
   ·refine ap_set (ap_set J.ap il fun k w _ hk => ?_) (by rw [List.length_set]; exact jl) fun k w _ hk => ?_
    ·rw [hz]; exact (J.F w (List.mem_of_getElem? hk)).o.apart f1
    ·rw [hz2]
     rcases List.mem_or_eq_of_mem_set (List.mem_of_getElem? hk) with h | rfl
     ·exact (w8.F w h).o.apart ⟨fdy, fdh⟩
     ·rw [hz]; exact o8.apart ⟨fdy, fdh⟩
   ·omega
   ·intro w hw
    rcases List.mem_or_eq_of_mem_set hw with h | rfl
    ·rcases List.mem_or_eq_of_mem_set h with h | rfl
     ·exact J.dn w h
     ·rw [hz]; exact nD
    ·rw [hz2]; exact nD
end
section
variable {P : Program} {w : World} {K : Frag} {mg : Str -> Option Value} {base : Heap} {C_Roll C_Rule C_BookError C_NoNumber C_NoRule C_Backward : Addr}
theorem oth_ {H : Hp} {lR : Addr} {u : U37} (h : Ru37 H lR u) (b : Bool) : atI [V.ref (u.t false), .ref (u.t true)] (1 - bI b) = some (.ref (u.t (!b))) := by cases b <;> rfl
theorem oth_b (b : Bool) : 1 - bI b = bI (!b) := by cases b <;> rfl
theorem cat_non {H : Hp} {hv : V} {o : Option (Int × Int)} (h : CellAt H hv o) : (!decide (hv = V.non)) = o.isSome := by
 cases o with
 | none => cases (show hv = .non from h); rfl
 | some p => obtain ⟨a, rfl, _⟩ := h; rfl
theorem W37.fin {K : Frag} {C R : Addr} {H H' : Hp} {a lr lS lR : Addr} {ns : List Int} {u : U37} {X : List S37} {n i : Nat} {x : S37} {r s : Addr} (w : W37 K C R H' a lr lS lR ns u X ((X.map fun x => V.ref x.r).set i (.ref r)) ((X.map fun x => V.ref x.s).set i (.ref s))) (J : J37 K C R H a lr lS lR ns u X n) (hi : X[i]? = some x) (z : S37) (e1 : z.r = r) (e2 : z.s = s) (Fz : F37 C R H' u z) (ap : ∀ w ∈ X, ApartD w.q z.q) (e3 : z.rs = x.rs) (nz : N37 (n + 1) z.d) : J37 K C R H' a lr lS lR ns u (X.set i z) (n + 1) := by
 have il : i < X.length := (List.getElem?_eq_some_iff.mp hi).1
 have c1 := sum_set (f := fun x => x.rs.length) X z hi
 have c3 := J.cnt
 refine w.g.j ?_ ?_ (by rw [List.length_set]; exact J.h3) (fun w' hw => ?_) (ap_set J.ap il fun k w' _ hk => ap w' (List.mem_of_getElem? hk)) ?_ (fun w' hw => ?_)
 ·rw [List.map_set, e1]
 ·rw [List.map_set, e2]
 ·rcases List.mem_or_eq_of_mem_set hw with h | rfl
  ·exact w.F w' h
  ·exact Fz
 ·rw [e3] at c1
  omega
 ·rcases List.mem_or_eq_of_mem_set hw with h | rfl
  ·have := J.dn w' h
   unfold N37 at this ⊢; omega
  ·exact nz
def sp_deed37 (K : Frag) (C R : Addr) : Sp := fun vs H Q _ => ∃ (a lr lS lR : Addr) (ns : List Int) (u : U37) (X : List S37) (n i : Nat) (c : Int) (x : S37), vs = [.ref lr, .ref lS, .ref lR, .int i, .int c] /\ J37 K C R H a lr lS lR ns u X n /\ X[i]? = some x /\ n < 50 /\ ∀ X' H', J37 K C R H' a lr lS lR ns u X' (n + 1) -> Q (.bl true) H'
theorem D__law_deed (T : Txt K mg C_Roll C_Rule C_BookError C_NoNumber C_NoRule C_Backward) : qbs P w K mg base 9 "_law_deed" ["_law_rolls", "_law_states", "_law_rules", "_law_one", "_law_cell"] (sp_deed37 K C_Roll C_Rule) := by
 obtain ⟨f, fd, F, hm⟩ := T.f__law_deed
 have nd := sc__law_deed.nd
 refine F.def_ hm (F.ok sc__law_deed (fun vs H Q E h => ?_) (fun cdv A outer s H vs Q E hr h => ?_)) (F.binds fun _ _ _ _ _ _ us hl => by obtain ⟨_, _, _, _, _, rfl⟩ := L2.lq5 hl; rfl)
 ·obtain ⟨a, lr, lS, lR, ns, u, X, n, i, c, x, rfl, _⟩ := h; rfl
 ·obtain ⟨a, lr, lS, lR, ns, u, X, n, i, c, x, rfl, J, hi, hn, q⟩ := h
  have mx' := List.mem_of_getElem? hi
  have Fx := J.F x mx'
  have hu := J.ru
  have h50 : x.rs.length < 50 := by
   have h1 := le_sum (f := fun x => x.rs.length) X hi
   have h2 := J.cnt
   omega
  have gri := at_m (fun x => V.ref x.r) hi
  have gsi := at_m (fun x => V.ref x.s) hi
  have hlr := J.hl
  have hlS := J.hs
  have hR := hu.hR
  have hxs := Fx.t.hs
  have hax := hu.at_ x.b
  have hao := oth_ hu x.b
  have htx := hu.ht x.b
  have hto := hu.ht (!x.b)
  have il : i < X.length := (List.getElem?_eq_some_iff.mp hi).1
  have lo := hu.W.lo
  have hi5 := hu.W.hi
  have lx := Fx.o.len hu
  have lps := hu.len x.b
  obtain ⟨ys, hlx, tys⟩ := Fx.t.hx
  have lys := tys.length
  rw [List.length_map] at lys
  have P := hu.pr x.b
  have hdx := Fx.o.hd
  have hdn := J.dn x mx'
  have leV : (x.es.map V.int ++ [gv x.ge]).length = u.ws.length + 1 := by simp only [List.length_append, List.length_map, List.length_singleton, lx]
  refine ⟨_, (qac (qdc (qai qah (pv 1) (pv 3) (fun _ _ => rfl)) (qb2 rfl (qal (qaj (i := 5) nd rfl (Or.inl rfl)) (qal (qaj (i := 6) nd rfl (Or.inl rfl)) (qal (qaj (i := 7) nd rfl (Or.inl rfl)) (qal (qaj (i := 8) nd rfl (Or.inl rfl)) qbf)))))) (qac (qas (i := 9) nd rfl (Or.inl rfl) (qak qbp (pv 4) qab)) (qac (qbl (qat op_lt (pv 9) qab (qax _)) (qac (qas (i := 10) nd rfl (Or.inl rfl) (qa4 (D__law_reading T) (hr.mono (by decide)) rfl (qaa (pv 7) (qaa (qai qav (qai qah (pv 2) (pv 5) (fun _ _ => rfl)) qab (fun _ _ => rfl)) (qaa (qak qdq (pv 4) qab) qae))))) (qac (qas (i := 11) nd rfl (Or.inl rfl) (qa4 (D__law_home T) (hr.mono (by decide)) rfl (qaa (pv 7) (qaa (qai qav (qai qah (pv 2) (pv 5) (fun _ _ => rfl)) qab (fun _ _ => rfl)) (qaa (qai qav (pv 10) qab (fun _ _ => rfl)) qae))))) (qac (qdc (qa5 (qaa (pv 5) (qaa (pv 6) (qaa (pv 7) (qaa (qak op_catN (pv 8) (qa6 (qaa (pv 10) qae))) qae))))) (pg_sub (pv 1) (pv 3) qcf)) (qaf (qar (qd3 op_eq (pe_mtD (qai qah (pv 0) (pv 3) (fun _ _ => rfl)) T.cl_Roll (D_Roll_put_3 T) (hr.mono (by decide)) .nil (qaa (qai qav (pv 10) qab (fun _ _ => rfl)) (qaa (qai qav (pv 10) qab (fun _ _ => rfl)) (qaa (qai qav (pv 10) qab (fun _ _ => rfl)) qae)))) (qd3 op_notN (pv 11) qb1 (qax _)) (qax _)))))))
    qa0) (qac (qbl (qat op_lt (pv 9) qab (qax _)) (qac (qas (i := 12) nd rfl (Or.inl rfl) (qak qbc (pv 6) (qa4 (D__law_more T) (hr.mono (by decide)) rfl (qaa (pe_lc (vars := ["_law_row"]) (frees := []) (fv := []) rfl (lcOk rfl rfl (by decide +kernel) (by decide +kernel) (by intro p hp; cases hp) rfl) trivial (qbr (qai qav (qai qah (pv 2) (pv 5) (fun _ _ => rfl)) qab (fun _ _ => rfl))) (gk_name (by decide)) (fun _ _ _ _ => (qaj (i := 0) (show (["_law_row"] : List Str).Nodup by decide +kernel) rfl (Or.inl rfl))) (fun _ _ _ _ => qby) (fun _ _ _ _ => (qai (show IxR _ (rIxT K) from qav) (pv 0) qab (fun _ _ => rfl)))) (qaa (qak qdq (pv 4) qab) qae))))) (qac (qas (i := 13) nd rfl (Or.inl rfl) (qa4 (qcr T) (hr.mono (by decide)) rfl (qaa (pv 7) (qaa (qa4 (qc6 T) (hr.mono (by decide)) rfl (qaa (qai qav (qai qah (pv 2) (pv 5) (fun _ _ => rfl)) qab (fun _ _ => rfl)) (qaa (qai qav (qai qah (pv 2) (pv 5) (fun _ _ => rfl)) qab (fun _ _ => rfl)) (qaa (pv 12) qae)))) qae)))) (qac (qdc (qa5 (qaa (pv 5) (qaa (pv 12) (qaa (pv 13) (qaa (pv 8) qae))))) (pg_sub (pv 1) (pv 3) qcf)) (qac (qdc (qa4 (D_aged T) (hr.mono (by decide)) rfl (qaa (qai qah (pv 0) (pv 3) (fun _ _ => rfl)) (qaa (pv 12) qae))) (pg_sub (pv 0) (pv 3) qcf)) (qaf (qar pe_bl))))))
    qa0) (qac (qbl (qat op_eq (pv 9) qab (qax _)) (qac (qdc (qai qah (pv 2) (qak qcs qab (pv 5)) (fun _ _ => rfl)) (qb2 rfl (qal (qaj (i := 14) nd rfl (Or.inl rfl)) (qal (qaj (i := 15) nd rfl (Or.inl rfl)) qbf)))) (qac (qdc (qa5 (qaa (qak qcs qab (pv 5)) (qaa (pv 6) (qaa (qa4 (qcr T) (hr.mono (by decide)) rfl (qaa (pv 7) (qaa (qa4 (qc6 T) (hr.mono (by decide)) rfl (qaa (pv 14) (qaa (pv 15) (qaa (pv 6) qae)))) qae))) (qaa (pv 8) qae))))) (pg_sub (pv 1) (pv 3) qcf)) (qac (qdc (pe_fnX (wants_nox ⟨rfl, rfl, rfl⟩) (D_under T) (hr.mono (by decide)) rfl .nil (qaa (qai qah (pv 0) (pv 3) (fun _ _ => rfl)) (qaa (pe_mkN (D_Rule_2 T) (hr.mono (by decide)) rfl .nil (qaa (qcc qbz rfl T.b_list qd5 (qaa (pv 14) qae)) (qaa (pv 15) qae))) qae))) (pg_sub (pv 0) (pv 3) qcf)) (qaf (qar pe_bl)))))
    qa0) (qaf (qar (qa4 (D__law_poured T) (hr.mono (by decide)) rfl (qaa (pv 0) (qaa (pv 1) (qaa (pv 2) (qaa (pv 3) (qaa (qak qbp (qak qbc (qak qbc (pv 3) qab) (qak qbp (qak qdq (pv 4) qab) qab)) qab) qae))))))))))))), ?_⟩
  refine ⟨_, rfl, _, rfl, lS, _, _, _, rfl, rfl, SqL.of hlS, gsi, x.s, _, rfl, SqT.of hxs, rfl, _, _, rfl, _, _, rfl, _, _, rfl, _, _, rfl, rfl, ?_⟩
  walk_at "r"
  refine ite2 (fun z => ?_) fun z => ?_
  ·walk_at "r"
   refine ⟨x.le, _, x.es, x.ge, u.l x.b, u.xs x.b, u.ps x.b, _, rfl, Fx.t.he, Fx.o.E, by omega, by omega, hu.hl x.b, hu.hp x.b, hu.wb x.b, by omega, by omega, fun tt t H1 ht s1 htt => ?_⟩
   have hR1 := s1 _ _ hR
   have htx1 := s1 _ _ htx
   walk_at "r"
   refine ⟨x.le, _, x.es, x.ge, u.l x.b, u.xs x.b, u.ps x.b, t.1, rfl, s1 _ _ Fx.t.he, Fx.o.E, by omega, s1 _ _ (hu.hl x.b), (hu.hp x.b).same s1, P.size, by omega, by omega, fun hv o H2 co cat s2 => ?_⟩
   have s02 := s1.trans s2
   have hlx2 := s02 _ _ hlx
   have htt2 := s2 _ _ htt
   have eo : qbh u.ws x.es x.ge t.1 = o := by rw [hu.w x.b] at co; exact cellF_eq (by omega) co
   walk_at "r"; intro p3 H3 n3
   have hlx3 := n3.same _ _ hlx2
   have hp3 : H3 p3 = some (.lst [.ref tt]) := n3.at_
   walk_at "r"; intro p4 H4 n4
   walk_at "r"; intro t5 H5 n5
   have s25 := n3.same.trans (n4.same.trans n5.same)
   have s05 := s02.trans s25
   have w5 := J.wd.same s05
   have T5' : T37 H5 t5 x.le p4 x.b x.d x.es x.ge (x.rs ++ [t]) := ⟨n5.at_, s05 _ _ Fx.t.he, _, n5.same _ _ n4.at_, by rw [List.map_append]; exact Tups.snoc (show TupAt H5 (.ref tt) (l3 t) from ⟨tt, rfl, s25 _ _ htt2⟩) (tys.same s05)⟩
   refine ⟨_, rfl, _, rfl, lS, _, _, i, rfl, rfl, w5.g.hs, qec (by rw [List.length_map]; exact il), fun H6 b6 h6 => ?_⟩
   have w6 := w5.sets b6 h6 ⟨_, _, _, _, n5.at_⟩
   have T6 := w5.g.os.t37 b6 (by omega) T5'
   have htt6 := w5.g.os.tupS b6 _ _ (s25 _ _ htt2)
   have Fx6 := w6.F x mx'
   clear hR1 htx1 hlx2 hlx3 hp3 n3 n4 n5 w5 b6 h6 T5'
   have hlr6 := w6.g.hl
   obtain ⟨dxr, hob⟩ := Fx6.o.R.obj
   refine ⟨_, rfl, _, rfl, lr, _, _, _, rfl, rfl, SqL.of hlr6, gri, x.r, dxr, _, rfl, hob, rof_put _ _ _ _ _, _, rfl, tt, _, _, _, rfl, rfl, SqT.of htt6, rfl, _, rfl, tt, _, _, _, rfl, rfl, SqT.of htt6, rfl, _, rfl, tt, _, _, _, rfl, rfl, SqT.of htt6, rfl, ?_⟩
   walk_at "n"
   refine Fx6.o.put w6.g.ru h50 ht fun H7 o7 b7 => ?_
   have kd := Fx6.o.R.kd b7
   refine ⟨_, rfl, rfl, rfl, ?_⟩
   have en : decide (V.bl (qbh u.ws x.es x.ge t.1).isSome = V.bl (!decide (hv = V.non))) = true := by rw [cat_non cat, eo]; simp
   rw [en]
   obtain ⟨z, hz⟩ : ∃ z : S37, z = ⟨x.r, t5, x.le, p4, x.q, x.b, x.d, x.es, x.ge, x.rs ++ [t], [t.1, t.2.1] :: x.LY, zKey (qbh u.ws x.es x.ge) t :: x.LZ⟩ := ⟨_, rfl⟩
   have c1 := sum_set (f := fun x => x.rs.length) X z hi
   have e1 : z.rs.length = x.rs.length + 1 := by rw [hz]; exact List.length_append
   have c3 := J.cnt
   refine q (X.set i z) H7 ⟨sq_kd kd w6.g.S, ?_, ?_, by rw [List.length_set]; exact J.h3, w6.g.ru.kd Fx6.o.R b7, ?_, ?_, ?_, ?_⟩
   ·rw [kd _ _ w6.g.hl (by intro K z; cases z)]
    rw [map_set_same (fun x => V.ref x.r) hi (by rw [hz])]
   ·rw [kd _ _ w6.g.hs (by intro K z; cases z), List.map_set, hz]
   ·intro w hw
    rcases mem_set_i hw with rfl | ⟨k, hk, hkw⟩
    ·rw [hz]; exact ⟨o7, T6.kd kd⟩
    ·exact (w6.F w (List.mem_of_getElem? hkw)).frame Fx6.o.R b7 (J.ap k i w x hkw hi hk)
   ·refine ap_set J.ap il fun k w hk hkw => ?_
    rw [hz]; exact J.ap k i w x hkw hi hk
   ·omega
   ·intro w hw
    have up : ∀ d, N37 n d -> N37 (n + 1) d := fun d h => by unfold N37 at h ⊢; omega
    rcases List.mem_or_eq_of_mem_set hw with h | rfl
    ·exact up _ (J.dn w h)
    ·rw [hz]; exact up _ hdn
  walk_at "r"
  refine ite2 (fun z => ?_) fun z => ?_
  ·walk_at "r"
   refine ⟨⟨_, SqL.of (hu.hl x.b)⟩, qd8 (xs := u.xs x.b) (fun k zs H2 => H2 = H /\ zs = (u.ws.map V.int).take k) (Nat.le_of_lt (qaw (by have := (hu.hp x.b).length; omega))) ⟨rfl, rfl⟩ (fun k zs H2 h2 => ⟨SqL.of (by rw [h2.1]; exact hu.hl x.b), by rw [h2.2, List.length_take]; omega⟩) ?_ ?_⟩
   ·rintro k v zs H2 hk ⟨rfl, rfl⟩
    obtain ⟨pr, hpk, ad, rfl, had⟩ := (hu.hp x.b).get hk
    refine gname_ (yes_ (iteT ?_))
    walk_at "r"
    have hwk : (u.ws.map V.int)[k]? = some (.int pr.2) := by rw [<- hu.w x.b, List.getElem?_map, List.getElem?_map, hpk]; rfl
    rw [takeN _ k _ hwk]
   rintro zs H2 lw H3 ⟨rfl, rfl⟩ n3
   rw [List.take_of_length_le (by rw [List.length_map, (hu.hp x.b).length]; omega)] at n3
   walk_at "r"
   refine ⟨lw, u.ws, _, rfl, n3.at_, (fun w hw => by obtain ⟨k, hk, e⟩ := List.getElem_of_mem hw; exact hu.W.each k w (by rw [<- e]; exact List.getElem?_eq_getElem hk)), lo, by omega, fun m H4 m0 m37 s4 => ?_⟩
   have s04 := n3.same.trans s4
   obtain ⟨D, eD⟩ : ∃ D, D = x.d + m := ⟨_, rfl⟩
   have nD : N37 (n + 1) D := by unfold N37 at hdn ⊢; omega
   have hD : Bd D := nD.bd (by omega)
   have leD : x.d <= D := by omega
   walk_at "r"
   simp only [<- eD]
   obtain ⟨fs, fg, U1, U2, U3, U4, U5, U6⟩ := up37 hu x.b hD Fx.o.E Fx.o.F
   have E3 := EdS.of P hD
   have l3 : (eV (u.ps x.b) (u.g x.b) D).length = u.ws.length + 1 := by rw [E3.eq]; simp only [List.length_append, List.length_map, List.length_singleton, hu.len]
   have hR4 := s04 _ _ hR
   have htx4 := s04 _ _ htx
   refine ⟨u.l x.b, u.xs x.b, u.ps x.b, u.g x.b, _, rfl, s04 _ _ (hu.hl x.b), (hu.hp x.b).same s04, P, hD, fun m5 H5 n5 => ?_⟩
   refine ⟨x.le, m5, _, _, rfl, n5.same _ _ (s04 _ _ Fx.t.he), n5.at_, Fx.o.E.ed, E3.ed, by rw [leV, l3], by rw [leV]; omega, fun m6 H6 n6 => ?_⟩
   rw [gEs_comm Fx.o.E.ed E3.ed, U4] at n6
   walk_at "r"; intro t7 H7 n7
   have s47 := n5.same.trans (n6.same.trans n7.same)
   have s07 := s04.trans s47
   have w7 := J.wd.same s07
   have T7 : T37 H7 t7 m6 x.lx x.b D fs fg x.rs := ⟨n7.at_, n7.same _ _ n6.at_, _, s07 _ _ hlx, tys.same s07⟩
   refine ⟨_, rfl, _, rfl, lS, _, _, i, rfl, rfl, w7.g.hs, qec (by rw [List.length_map]; exact il), fun H8 b8 h8 => ?_⟩
   have w8 := w7.sets b8 h8 ⟨_, _, _, _, n7.at_⟩
   have lf : 1 <= fs.length := by rw [<- U2.len]; exact lo
   have T8 := w7.g.os.t37 b8 lf T7
   have Fx8 := w8.F x mx'
   clear hR4 htx4 n3 s4 s04 n5 n6 n7 s47 w7 T7 b8 h8
   have hlr8 := w8.g.hl
   walk_at "r"
   walk_at "n"
   refine Fx8.o.aged w8.g.ru (by omega) hD leD ⟨U1, U2, U3, U4, U5, U6⟩ fun r' q' LY' LZ' H9 s9 o9 f9 => ?_
   have w9 := w8.same s9
   refine ⟨_, rfl, _, rfl, lr, _, _, i, rfl, rfl, w9.g.hl, qec (by rw [List.length_map]; exact il), fun H10 b10 h10 => ?_⟩
   have w10 := w9.setl b10 h10 o9.ins
   have o10 := w9.g.ol.r37 b10 w9.g.ru o9
   have T10 := w9.g.ol.t37 b10 lf (T8.same s9)
   exact q _ H10 (w10.fin J hi ⟨r', t7, m6, x.lx, q', x.b, D, fs, fg, x.rs, LY', LZ'⟩ rfl rfl ⟨o10, T10⟩ (fun w hw => (w8.F w hw).o.apart f9) rfl nD)
  walk_at "r"
  refine ite2 (fun z => ?_) fun z => ?_
  ·have P' := hu.pr (!x.b)
   obtain ⟨fs, fg, U1, U2, U3, U4, U5, U6⟩ := up37 hu (!x.b) hdx Fx.o.E Fx.o.F
   have E3 := EdS.of P' hdx
   have l3 : (eV (u.ps (!x.b)) (u.g (!x.b)) x.d).length = u.ws.length + 1 := by rw [E3.eq]; simp only [List.length_append, List.length_map, List.length_singleton, hu.len]
   walk_at "r"
   refine ⟨u.l (!x.b), u.xs (!x.b), u.ps (!x.b), u.g (!x.b), _, rfl, hu.hl (!x.b), hu.hp (!x.b), P', hdx, fun m5 H5 n5 => ?_⟩
   refine ⟨x.le, m5, _, _, rfl, n5.same _ _ Fx.t.he, n5.at_, Fx.o.E.ed, E3.ed, by rw [leV, l3], by rw [leV]; omega, fun m6 H6 n6 => ?_⟩
   rw [gEs_comm Fx.o.E.ed E3.ed, U4] at n6
   walk_at "r"; intro t7 H7 n7
   have s07 := n5.same.trans (n6.same.trans n7.same)
   have w7 := J.wd.same s07
   have h7 : H7 t7 = some (.tup [.int (1 - bI x.b), .int x.d, .ref m6, .ref x.lx]) := n7.at_
   rw [oth_b] at h7
   have T7 : T37 H7 t7 m6 x.lx (!x.b) x.d fs fg x.rs := ⟨h7, n7.same _ _ n6.at_, _, s07 _ _ hlx, tys.same s07⟩
   refine ⟨_, rfl, _, rfl, lS, _, _, i, rfl, rfl, w7.g.hs, qec (by rw [List.length_map]; exact il), fun H8 b8 h8 => ?_⟩
   have w8 := w7.sets b8 h8 ⟨_, _, _, _, n7.at_⟩
   have lf : 1 <= fs.length := by rw [<- U2.len]; exact lo
   have T8 := w7.g.os.t37 b8 lf T7
   have Fx8 := w8.F x mx'
   clear h7 n5 n6 n7 w7 T7 b8 h8
   have hlr8 := w8.g.hl
   have hl8 := w8.g.ru.hl (!x.b)
   have hp8 := w8.g.ru.hp (!x.b)
   walk_at "r"; intro l9 H9 n9
   walk_at "r"
   walk_at "n"
   intro ru dxr H10 s10 fr10 d10
   refine ⟨ru, dxr, l9, _, u.ps (!x.b), u.g (!x.b), rfl, d10, s10 _ _ n9.at_, (hp8.same n9.same).same s10, P'.good, P'.gone, fun rl H11 hrl R11 b11 => ⟨rfl, ?_⟩⟩
   have s8b : Same H8 H11 := n9.same.trans (b11.same s10 fr10)
   have w11 := w8.same s8b
   refine (Fx8.o.same s8b).under (N := C_NoRule) w11.g.ru (by omega) R11 ⟨U1, U2, U3, U4, U5, U6⟩ fun r' q' LY' LZ' H12 s12 o12 f12 => ?_
   have w12 := w11.same s12
   refine ⟨_, rfl, _, rfl, lr, _, _, i, rfl, rfl, w12.g.hl, qec (by rw [List.length_map]; exact il), fun H13 b13 h13 => ?_⟩
   have w13 := w12.setl b13 h13 o12.ins
   have o13 := w12.g.ol.r37 b13 w12.g.ru o12
   have T13 := w12.g.ol.t37 b13 lf ((T8.same s8b).same s12)
   exact q _ H13 (w13.fin J hi ⟨r', t7, m6, x.lx, q', !x.b, x.d, fs, fg, x.rs, LY', LZ'⟩ rfl rfl ⟨o13, T13⟩ (fun w hw => (w11.F w hw).o.apart f12) rfl (by show N37 (n + 1) x.d; unfold N37 at hdn ⊢; omega))
  ·obtain ⟨j, ej, hj, hij⟩ : ∃ j : Nat, ((i : Int) + 1 + c / 24 % 2) % 3 = (j : Int) /\ j < 3 /\ i ≠ j := by
    have h3 := J.h3
    exact ⟨(((i : Int) + 1 + c / 24 % 2) % 3).toNat, by omega, by omega, by omega⟩
   obtain ⟨y, hy⟩ : ∃ y, X[j]? = some y := ⟨_, List.getElem?_eq_getElem (by rw [J.h3]; exact hj)⟩
   walk_at "r"
   simp only [ej]
   exact ⟨a, lr, lS, lR, ns, u, X, n, i, j, x, y, rfl, J, hi, hy, hij, by omega, fun X' H' J' => q X' H' (J'.mono (Nat.le_succ n))⟩
end
section
variable {P : Program} {w : World} {K : Frag} {mg : Str -> Option Value} {base : Heap} {C_Roll C_Rule C_BookError C_NoNumber C_NoRule C_Backward : Addr}
theorem RR.butl {C R : Addr} {H H' : Hp} {ro : Addr} {c : qa1} {s : Abs} {LY LZ : List (List Int)} {a : Addr} {xs : List V} (h : RR C R H ro c s LY LZ) (b : But a H H') (ha : H a = some (.lst xs)) (n1 : c.le ≠ a) (n2 : c.rl ≠ a) : RR C R H' ro c s LY LZ := by
 obtain ⟨Y, Z, A, B⟩ := h
 obtain ⟨dx, e1⟩ := A.ob
 obtain ⟨dx2, e2⟩ := A.rule.ob
 obtain ⟨ys, e3, p⟩ := A.rule.ls
 have ts : TupS H H' := fun x ys e => b x _ e (qbk e ha (by intro z; cases z))
 exact ⟨Y, Z, ⟨⟨dx, b _ _ e1 (qbk e1 ha (by intro z; cases z))⟩, ⟨⟨dx2, b _ _ e2 (qbk e2 ha (by intro z; cases z))⟩, ys, b _ _ e3 n2, p.tupS ts⟩, b _ _ A.ed n1, b _ _ A.yo (qbk A.yo ha (by intro z; cases z)), b _ _ A.he (qbk A.he ha (by intro z; cases z)), A.ne⟩, B.tups ts⟩
structure Off37 (c : Addr) (x : S37) : Prop where
 rl : c ≠ x.q.rl
 qe : c ≠ x.q.le
 ed : c ≠ x.le
 rd : c ≠ x.lx
section
variable {C R : Addr} {H H' : Hp} {u : U37} {r c : Addr} {q : qa1} {b : Bool} {d : Int} {es : List Int} {ge : Option Int} {rs : List Rd3} {LY LZ : List (List Int)} {L : List V} {s le lx : Addr} {x : S37}
theorem R37.but (h : R37 C R H u r q b d es ge rs LY LZ) (hc : H c = some (.lst L)) (bt : But c H H') (n1 : c ≠ q.rl) (n2 : c ≠ q.le) : R37 C R H' u r q b d es ge rs LY LZ := { h with R := h.R.butl bt hc n2.symm n1.symm }
theorem T37.but (h : T37 H s le lx b d es ge rs) (hc : H c = some (.lst L)) (bt : But c H H') (n1 : c ≠ le) (n2 : c ≠ lx) : T37 H' s le lx b d es ge rs := by
 obtain ⟨ys, e1, e2⟩ := h.hx
 have ts : TupS H H' := fun x ys e => bt x _ e (qbk e hc (by intro z; cases z))
 exact ⟨ts _ _ h.hs, bt _ _ h.he n1.symm, ys, bt _ _ e1 n2.symm, e2.tupS ts⟩
theorem F37.but (h : F37 C R H u x) (hc : H c = some (.lst L)) (bt : But c H H') (n : Off37 c x) : F37 C R H' u x := ⟨h.o.but hc bt n.rl n.qe, h.t.but hc bt n.ed n.rd⟩
end
def dayB : List Int := [2 * 10 ^ 40, 3, 10 ^ 3, 10 ^ 21, 3, 10 ^ 3, 10 ^ 21]
structure M37 (K : Frag) (C R : Addr) (Hb H : Hp) (a lR lD lr lS : Addr) (ns : List Int) (u : U37) (ds : List Int) (X : List S37) : Prop where
 s : Same Hb H
 S : SqL K Hb a (ns.map V.int)
 ru0 : Ru37 Hb lR u
 hd0 : Hb lD = some (.lst (ds.map V.int))
 U : Under ds dayB
 fr : Hb lr = none
 fs : Hb lS = none
 ne : lr ≠ lS
 hl : H lr = some (.lst (X.map fun x => V.ref x.r))
 hs : H lS = some (.lst (X.map fun x => V.ref x.s))
 F : ∀ x ∈ X, F37 C R H u x
 ol : ∀ x ∈ X, Off37 lr x
 os : ∀ x ∈ X, Off37 lS x
 ap : ∀ (i j : Nat) x y, X[i]? = some x -> X[j]? = some y -> i ≠ j -> ApartD x.q y.q
 cnt : ∀ x ∈ X, x.rs = []
 dn : ∀ x ∈ X, N37 0 x.d
section
variable {K : Frag} {C R : Addr} {Hb H H' : Hp} {a lR lD lr lS : Addr} {ns : List Int} {u : U37} {ds : List Int} {X : List S37}
theorem M37.same (e : Same H H') (h : M37 K C R Hb H a lR lD lr lS ns u ds X) : M37 K C R Hb H' a lR lD lr lS ns u ds X :=
 {h with s := h.s.trans e, hl := e _ _ h.hl, hs := e _ _ h.hs, F := fun x hx => (h.F x hx).same e }
theorem M37.ru (h : M37 K C R Hb H a lR lD lr lS ns u ds X) : Ru37 H lR u := h.ru0.same h.s
theorem sum0 : ∀ (X : List S37), (∀ x ∈ X, x.rs = []) -> (X.map fun x => x.rs.length).sum = 0
 | [], _ => rfl
 | x :: t, h => by
  rw [List.map_cons, List.sum_cons, sum0 t fun y hy => h y (List.mem_cons_of_mem _ hy), h x List.mem_cons_self]; rfl
theorem M37.j (h : M37 K C R Hb H a lR lD lr lS ns u ds X) (h3 : X.length = 3) : J37 K C R H a lr lS lR ns u X 0 :=
 ⟨qd7 h.s h.S, h.hl, h.hs, h3, h.ru, h.F, h.ap, Nat.le_of_eq (sum0 X h.cnt), h.dn⟩
end
theorem ap_snoc {X : List S37} {z : S37} (ap : ∀ (i j : Nat) x y, X[i]? = some x -> X[j]? = some y -> i ≠ j -> ApartD x.q y.q) (hz : ∀ x ∈ X, ApartD x.q z.q) : ∀ (i j : Nat) x y, (X ++ [z])[i]? = some x -> (X ++ [z])[j]? = some y -> i ≠ j -> ApartD x.q y.q := fun i j x y hi hj hij => by
 have key : ∀ (k : Nat) w, (X ++ [z])[k]? = some w -> (k < X.length /\ X[k]? = some w) \/ (k = X.length /\ w = z) := fun k w hk => by
  by_cases c : k < X.length
  ·rw [List.getElem?_append_left c] at hk; exact .inl ⟨c, hk⟩
  ·have := (List.getElem?_eq_some_iff.mp hk).1
   rw [List.length_append, List.length_singleton] at this
   have e : k = X.length := by omega
   rw [e, List.getElem?_append_right (Nat.le_refl _), Nat.sub_self] at hk
   cases hk
   exact .inr ⟨e, rfl⟩
 rcases key i x hi with ⟨c1, h1⟩ | ⟨c1, rfl⟩
 ·rcases key j y hj with ⟨c2, h2⟩ | ⟨c2, rfl⟩
  ·exact ap i j x y h1 h2 hij
  ·exact hz x (List.mem_of_getElem? h1)
 ·rcases key j y hj with ⟨c2, h2⟩ | ⟨c2, rfl⟩
  ·exact (hz y (List.mem_of_getElem? h2)).sym
  ·exact absurd (c1.trans c2.symm) hij
theorem cut54 (ns : List Int) : ∃ ms : List Int, cutV (ns.map V.int) (some 4) (some 54) = ms.map V.int /\ ms.length <= 50 := by
 unfold cutV
 rw [show (some (4 : Int)) = some ((4 : Nat) : Int) from rfl, show (some (54 : Int)) = some ((54 : Nat) : Int) from rfl, HT.sIx_nat, HT.sIx_nat]
 simp only [<- List.map_take, <- List.map_drop]
 exact ⟨_, rfl, by simp only [List.length_take, List.length_drop]; omega⟩
theorem F37.right {C R : Addr} {H : Hp} {lR : Addr} {u : U37} {x : S37} {Q : VK} {E : XK} (h : F37 C R H u x) (hu : Ru37 H lR u) (h50 : x.rs.length <= 50) (q : ∀ H', Same H H' -> Q (.bl true) H') : sp_right37 C R [.ref x.r, .ref x.s, .ref lR] H Q E := by
 obtain ⟨ys, e1, e2⟩ := h.t.hx
 exact ⟨x.r, x.s, lR, x.le, x.lx, u, x.q, x.b, x.d, x.es, x.ge, x.rs, x.LY, x.LZ, ys, rfl, h.o, hu, h50, h.t.hs, h.t.he, e1, e2, q⟩
def JB37 (K : Frag) (C R : Addr) : St -> Hp -> Prop := fun σ H => ∃ (Hb : Hp) (a lR lD lr lS : Addr) (ns : List Int) (u : U37) (ds : List Int) (v1 v2 : Option V), σ = [some (.ref a), v1, v2, some (.ref lR), some (.ref lD), some (.ref lr), some (.ref lS), some (.ref (u.l false)), some (gv (u.g false)), none, none, none, none, none, none, none, none] /\ M37 K C R Hb H a lR lD lr lS ns u ds []
def JD37 (K : Frag) (C R : Addr) : St -> Hp -> Prop := fun σ H => ∃ (a0 a lR lr lS : Addr) (ns : List Int) (u : U37) (X : List S37) (n : Nat) (v1 v2 v4 v7 v8 v9 v10 v11 v12 : Option V), σ = [some (.ref a0), v1, v2, some (.ref lR), v4, some (.ref lr), some (.ref lS), v7, v8, v9, v10, v11, v12, none, none, none, none] /\ J37 K C R H a lr lS lR ns u X n /\ n <= 50
theorem law_d (T : Txt K mg C_Roll C_Rule C_BookError C_NoNumber C_NoRule C_Backward) {f : Addr} {cdv : Value} {A : Around} {outer : List Env} {s : Shared} {H0 : Hp} {E : XK} (hr : Room 9 (A.deeper (PyProof.Rows.envOfC "law" (qad s_law) s.heap.objs.size f cdv))) (Q : VK) (k : ∀ H', Q (.bl true) H') :
  ∃ t, PSs (cxOf CX0 P w K mg base ["_law_script", "_law_ages_here", "_law_broad", "_law_rules", "_law_days", "_law_rolls", "_law_states", "_law_rows", "_law_end", "_law_k", "_law_today", "_law_cell", "_law_one", "_law_at", "_law_edges_here", "_law_readings", "_law_made"] "law" (qad s_law) f cdv A outer s H0 E).nox ((qam s_law).drop 9) t /\ ∀ σ H, JD37 K C_Roll C_Rule σ H -> t { nx := fun _ H' => Q .non H', rt := Q } σ H := by
 have nd := sc_law.nd
 refine ⟨_, (qac (qdt PassesOwn.never rfl (pi_range1 rfl T.b_range (qaa qab qae)) (qaj (i := 9) nd rfl (Or.inl rfl)) (qac (qdc (qai qah (pv 6) (pv 9) (fun _ _ => rfl)) (qb2 rfl (qal (qaj (i := 13) nd rfl (Or.inl rfl)) (qal (qaj (i := 10) nd rfl (Or.inl rfl)) (qal (qaj (i := 14) nd rfl (Or.inl rfl)) (qal (qaj (i := 15) nd rfl (Or.inl rfl)) qbf)))))) (qac (qas (i := 16) nd rfl (Or.inl rfl) (pe_fnX (wants_nox ⟨rfl, rfl, rfl⟩) (D_roll_of T) (hr.mono (by decide)) rfl .nil (qaa (pe_mkN (D_Rule_2 T) (hr.mono (by decide)) rfl .nil (qaa (qcc qbz rfl T.b_list qd5 (qaa (qai qav (qai qah (pv 3) (pv 13) (fun _ _ => rfl)) qab (fun _ _ => rfl)) qae)) (qaa (qai qav (qai qah (pv 3) (pv 13) (fun _ _ => rfl)) qab (fun _ _ => rfl)) qae))) (qaa (pv 10) (qaa (qcc qbz rfl T.b_list qd5 (qaa (pv 14) qae)) (qaa (qcc qbz rfl T.b_list qd5 (qaa (pv 15) qae)) qae)))))) (qaf (qbl (PW.pt (pw_or (pt_not (pt_val (qa4 (D__law_right T) (hr.mono (by decide)) rfl (qaa (qai qah (pv 5) (pv 9) (fun _ _ => rfl)) (qaa (qai qah (pv 6) (pv 9) (fun _ _ => rfl)) (qaa (pv 3) qae)))))) (pw_or1 (pt_not (pt_val (qa4 (D__law_right T) (hr.mono (by decide)) rfl (qaa (pv 16) (qaa (qai qah (pv 6) (pv 9) (fun _ _ => rfl)) (qaa (pv 3) qae))))))))) (qaf (qar pe_bl))
    qa0))))) (qaf (qar pe_bl))), fun σ H j => ?_⟩
 obtain ⟨a0, a, lR, lr, lS, ns, u, X, n, v1, v2, v4, v7, v8, v9, v10, v11, v12, rfl, J, hn⟩ := j
 walk_at "r"
 refine for_range (n := 3) (fun i σ H2 => Same H H2 /\ ∃ v9 v10 v13 v14 v15 v16 : Option V, σ = [some (.ref a0), v1, v2, some (.ref lR), v4, some (.ref lr), some (.ref lS), v7, v8, v9, v10, v11, v12, v13, v14, v15, v16]) ⟨Same.refl _, _, _, _, _, _, _, rfl⟩ ?_ ?_
 ·rintro i σ H2 hi ⟨s2, v9, v10, v13, v14, v15, v16, rfl⟩
  rw [Int.zero_add]
  have J2 := J.same s2
  obtain ⟨x, hx⟩ : ∃ x, X[i]? = some x := ⟨_, List.getElem?_eq_getElem (by rw [J.h3]; exact hi)⟩
  have mx' := List.mem_of_getElem? hx
  have Fx := J2.F x mx'
  have hu := J2.ru
  have h50 : x.rs.length <= 50 := by
   have h1 := le_sum (f := fun x => x.rs.length) X hx
   have h2 := J.cnt
   omega
  have gri := at_m (fun x => V.ref x.r) hx
  have gsi := at_m (fun x => V.ref x.s) hx
  have hlr := J2.hl
  have hlS := J2.hs
  have hR := hu.hR
  have hxs := Fx.t.hs
  have hax := hu.at_ x.b
  have htx := hu.ht x.b
  have hlx := hu.hl x.b
  have hpx := hu.hp x.b
  have P := hu.pr x.b
  have hd := Fx.o.hd
  have lx := Fx.o.len hu
  have lps := hu.len x.b
  have lo := hu.W.lo
  have hi5 := hu.W.hi
  obtain ⟨ys, hly, tys⟩ := Fx.t.hx
  have hle := Fx.t.he
  refine ⟨_, rfl, _, rfl, lS, _, _, _, rfl, rfl, SqL.of hlS, gsi, x.s, _, rfl, SqT.of hxs, rfl, _, _, rfl, _, _, rfl, _, _, rfl, _, _, rfl, rfl, ?_⟩
  walk_at "r"; intro l3 H3 n3
  have hR3 := n3.same _ _ hR
  have htx3 := n3.same _ _ htx
  walk_at "r"
  walk_at "n"
  intro ru dxr H4 s4 fr4 d4
  refine ⟨ru, dxr, l3, _, u.ps x.b, u.g x.b, rfl, d4, s4 _ _ n3.at_, (hpx.same n3.same).same s4, P.good, P.gone, fun rl H5 hrl R5 b5 => ⟨rfl, ?_⟩⟩
  have s25 : Same H2 H5 := n3.same.trans (b5.same s4 fr4)
  have hle5 := s25 _ _ hle
  have hly5 := s25 _ _ hly
  clear n3 hR3 htx3 s4 fr4 d4 hrl b5
  walk_at "r"; intro l6 H6 n6
  have hly6 := n6.same _ _ hly5
  walk_at "r"; intro l7 H7 n7
  have s57 := n6.same.trans n7.same
  have s27 := s25.trans s57
  try walk_at "n"
  have le10 : (x.es.map V.int ++ [gv x.ge]).length = (u.ps x.b).length + 1 := by simp only [List.length_append, List.length_map, List.length_singleton]; omega
  refine ⟨ru, rl, l6, l7, u.ps x.b, u.g x.b, x.d, _, ys, x.rs, rfl, R5.same s57, P, hd, n7.same _ _ n6.at_, Fx.o.E.ed, by rw [le10]; omega, n7.at_, tys.same s27, fun r hr => (Fx.o.hr r hr).ok, by omega, fun z => absurd le10 z, fun _ => ⟨x.es, x.ge, Fx.o.E, by omega, fun ro c LY LZ H8 e1 e2 e3 Ec okc R8 ly lz s8 f1 f2 w8 => ?_⟩⟩
  rw [Fx.o.dom] at Ec
  obtain ⟨e4, e5⟩ := Ec.uniq Fx.o.E
  have s28 := s27.trans s8
  have ecell : TB.cellD c = qbh u.ws x.es x.ge := by unfold TB.cellD; rw [e1, hu.w, e4, e5]
  rw [ecell] at R8
  have o8 : R37 C_Roll C_Rule H8 u ro c x.b x.d x.es x.ge x.rs LY LZ := ⟨R8, okc, e1, e2, e3, e4, e5, Fx.o.E, Fx.o.F, Fx.o.dom, hd, Fx.o.hr, ly, lz⟩
  have J8 := J2.same s28
  have Fx8 := J8.F x mx'
  have hlr8 := J8.hl
  have hlS8 := J8.hs
  clear n6 n7 hle5 hly5 hly6 R5 R8 s57 s27 s25
  walk_at "r"
  walk_at "n"
  refine Fx8.right J8.ru h50 fun H9 s9 => ?_
  have J9 := J8.same s9
  have hlr9 := J9.hl
  have hlS9 := J9.hs
  walk_at "r"
  walk_at "n"
  refine ⟨ro, x.s, lR, x.le, x.lx, u, c, x.b, x.d, x.es, x.ge, x.rs, LY, LZ, ys, rfl, o8.same s9, J9.ru, h50, s9 _ _ Fx8.t.hs, s9 _ _ Fx8.t.he, s9 _ _ (s28 _ _ hly), (tys.same s28).same s9, fun H10 s10 => ?_⟩
  refine ⟨_, rfl, iteF ?_⟩
  exact ⟨s2.trans (s28.trans (s9.trans s10)), _, _, _, _, _, _, rfl⟩
 ·rintro σ H2 ⟨s2, v9, v10, v13, v14, v15, v16, rfl⟩
  exact k H2
theorem law_b (T : Txt K mg C_Roll C_Rule C_BookError C_NoNumber C_NoRule C_Backward) {f : Addr} {cdv : Value} {A : Around} {outer : List Env} {s : Shared} {H0 : Hp} {E : XK} (hr : Room 9 (A.deeper (PyProof.Rows.envOfC "law" (qad s_law) s.heap.objs.size f cdv))) (Q : VK) (k : ∀ H', Q (.bl true) H') :
  ∃ t, PSs (cxOf CX0 P w K mg base ["_law_script", "_law_ages_here", "_law_broad", "_law_rules", "_law_days", "_law_rolls", "_law_states", "_law_rows", "_law_end", "_law_k", "_law_today", "_law_cell", "_law_one", "_law_at", "_law_edges_here", "_law_readings", "_law_made"] "law" (qad s_law) f cdv A outer s H0 E).nox ((qam s_law).drop 7) t /\ ∀ σ H, JB37 K C_Roll C_Rule σ H -> t { nx := fun _ H' => Q .non H', rt := Q } σ H := by
 have nd := sc_law.nd
 obtain ⟨J2, eJ2⟩ : ∃ J : St -> Hp -> Prop, J = JD37 K C_Roll C_Rule := ⟨_, rfl⟩
 obtain ⟨u2, hu2, qU⟩ := law_d (P := P) (w := w) (base := base) (outer := outer) (H0 := H0) (E := E) T hr Q k
 refine ⟨_, (qac (qdt PassesOwn.never rfl (pi_range1 rfl T.b_range (qaa qab qae)) (qaj (i := 9) nd rfl (Or.inl rfl)) (qac (qas (i := 10) nd rfl (Or.inl rfl) (qak qcs (qai qah (pv 4) qab (fun _ _ => rfl)) (qak qdo qab qab))) (qac (qbl (qat op_gt (pv 9) qab (qax _)) (qaf (qas (i := 10) nd rfl (Or.inl rfl) (qak qbc (pv 10) (qai qah (qa6 (qaa qab (qaa (qai qah (pv 4) (qak qcs (qak qdd qab (pv 9)) qab) (fun _ _ => rfl)) (qaa (qai qah (pv 4) (qak qdd qab (pv 9)) (fun _ _ => rfl)) qae)))) (qai qah (pv 4) (qak qcs (qak qdd qab (pv 9)) qab) (fun _ _ => rfl)) (fun _ _ => rfl)))))
    qa0) (qac (qbi (pe_bm PySem.F.plainAttrs_list PySem.F.slot_list_append PySem.F.type_list_append qco (pv 5) (qaa (pe_mkN (D_Roll_2 T) (hr.mono (by decide)) rfl .nil (qaa (pe_mkN (D_Rule_2 T) (hr.mono (by decide)) rfl .nil (qaa (qcc qbz rfl T.b_list qd5 (qaa (pv 7) qae)) (qaa (pv 8) qae))) (qaa (pv 10) qae))) qae))) (qaf (qbi (pe_bm PySem.F.plainAttrs_list PySem.F.slot_list_append PySem.F.type_list_append qco (pv 6) (qaa (qa5 (qaa qab (qaa (pv 10) (qaa (qa4 (qc6 T) (hr.mono (by decide)) rfl (qaa (pv 7) (qaa (pv 8) (qaa (pv 10) qae)))) (qaa (qa6 qae) qae))))) qae)))))))) (pss_cut J2 (qdt PassesOwn.never rfl (qbr (pe_slice sl_listN (pv 0) (po_some qab) (po_some qab))) (qaj (i := 11) nd rfl (Or.inl rfl)) (qac (qas (i := 12) nd rfl (Or.inl rfl) (qak qbp (qak qdq (pv 11) qab) qab)) (qaf (qbl (PW.pt (pw_or (pt_not (pt_val (qa4 (D__law_deed T) (hr.mono (by decide)) rfl (qaa (pv 5) (qaa (pv 6) (qaa (pv 3) (qaa (pv 12) (qaa (pv 11) qae)))))))) (pw_or1 (pt_not (pt_val (qa4 (D__law_right T) (hr.mono (by decide)) rfl (qaa (qai qah (pv 5) (pv 12) (fun _ _ => rfl)) (qaa (qai qah (pv 6) (pv 12) (fun _ _ => rfl)) (qaa (pv 3) qae))))))))) (qaf (qar pe_bl))
    qa0))))
   hu2)), fun σ H j => ?_⟩
 obtain ⟨Hb, a, lR, lD, lr, lS, ns, u, ds, v1, v2, rfl, M0⟩ := j
 walk_at "r"
 refine for_range (n := 3) (fun i σ H2 => ∃ (X : List S37) (v9 v10 : Option V), M37 K C_Roll C_Rule Hb H2 a lR lD lr lS ns u ds X /\ X.length = i /\ σ = [some (.ref a), v1, v2, some (.ref lR), some (.ref lD), some (.ref lr), some (.ref lS), some (.ref (u.l false)), some (gv (u.g false)), v9, v10, none, none, none, none, none, none]) ⟨[], none, none, M0, rfl, rfl⟩ ?_ ?_
 ·rintro i σ H2 hi ⟨X, v9, v10, M, hX, rfl⟩
  rw [Int.zero_add]
  obtain ⟨x0, hx0, x0a, x0b⟩ := M.U.get (i := 0) (b := 2 * 10 ^ 40) rfl
  have at0 : atI (ds.map V.int) 0 = some (.int x0) := qbe hx0
  have hD2 := M.s _ _ M.hd0
  have P := M.ru.pr false
  have hl2 := M.ru.hl false
  have hlr2 := M.hl
  walk_at "r"
  refine ite2 (fun z => ?g1) fun z => ?g2
  case' g1 =>
   have z' : (0 : Int) < i := by simpa using z
   obtain ⟨xa, xb, xc, ha, hb, hc, a0, a3, b0, b3, c0, c3⟩ : ∃ xa xb xc, atI (ds.map V.int) (3 * (i : Int) - 2) = some (.int xa) /\ atI (ds.map V.int) (3 * (i : Int) - 1) = some (.int xb) /\ atI (ds.map V.int) (3 * (i : Int)) = some (.int xc) /\ 0 <= xa /\ xa < 3 /\ 0 <= xb /\ xb < 10 ^ 3 /\ 0 <= xc /\ xc < 10 ^ 21 := by
    have hc : i = 1 \/ i = 2 := by omega
    rcases hc with rfl | rfl
    ·obtain ⟨x1, h1, p1, q1⟩ := M.U.get (i := 1) (b := 3) rfl
     obtain ⟨x2, h2, p2, q2⟩ := M.U.get (i := 2) (b := 10 ^ 3) rfl
     obtain ⟨x3, h3, p3, q3⟩ := M.U.get (i := 3) (b := 10 ^ 21) rfl
     exact ⟨x1, x2, x3, qbe h1, qbe h2, qbe h3, p1, q1, p2, q2, p3, q3⟩
    ·obtain ⟨x1, h1, p1, q1⟩ := M.U.get (i := 4) (b := 3) rfl
     obtain ⟨x2, h2, p2, q2⟩ := M.U.get (i := 5) (b := 10 ^ 3) rfl
     obtain ⟨x3, h3, p3, q3⟩ := M.U.get (i := 6) (b := 10 ^ 21) rfl
     exact ⟨x1, x2, x3, qbe h1, qbe h2, qbe h3, p1, q1, p2, q2, p3, q3⟩
   walk_at "r"; intro l3 H3 n3
   have h3' : H3 l3 = some (.lst [.int 0, .int xb, .int xc]) := n3.at_
   have hD3 := n3.same _ _ hD2
   obtain ⟨y, hy, y0, y1⟩ : ∃ y, atI [V.int 0, V.int xb, V.int xc] xa = some (V.int y) /\ 0 <= y /\ y < 10 ^ 21 := by
    have hk : xa = 0 \/ xa = 1 \/ xa = 2 := by omega
    rcases hk with e | e | e <;> rw [e]
    ·exact ⟨_, rfl, by omega, by omega⟩
    ·exact ⟨_, rfl, by omega, by omega⟩
    ·exact ⟨_, rfl, by omega, by omega⟩
   have hl3 := n3.same _ _ hl2
   have M3 := M.same n3.same
   walk_at "r"
   obtain ⟨d, ed⟩ : ∃ d, d = x0 - 10 ^ Int.toNat 40 + y := ⟨_, rfl⟩
   have nd' : N37 0 d := by rw [ed]; show N37 0 (x0 - 10 ^ 40 + y); unfold N37; omega
   simp only [<- ed]
   clear hl2 hl3 hlr2 hD2 hD3 n3 h3' hy at0 hx0 ha hb hc ed
  case' g2 =>
   have M3 := M
   obtain ⟨d, ed⟩ : ∃ d, d = x0 - 10 ^ Int.toNat 40 := ⟨_, rfl⟩
   have nd' : N37 0 d := by rw [ed]; show N37 0 (x0 - 10 ^ 40); unfold N37; omega
   walk_at "r"
   simp only [<- ed]
   clear hl2 hlr2 hD2 at0 hx0 ed
  all_goals
   intro l4 H4 n4
   have hd' := nd'.bd (by omega)
   walk_at "r"
   walk_at "n"
   intro ru dxr H5 s5 fr5 d5
   refine ⟨ru, dxr, l4, _, u.ps false, u.g false, rfl, d5, s5 _ _ n4.at_, ((M3.ru.hp false).same n4.same).same s5, P.good, P.gone, fun rl H6 hrl R6 b6 => ⟨rfl, ?_⟩⟩
   refine ⟨_, rfl, fun ro dx2 H7 s7 fr7 d7 => ?_⟩
   refine ⟨ro, dx2, ru, rl, _, _, d, rfl, d7, R6.same s7, P, hd', fun e0 dy dh H8 z1 z2 z3 A8 b8 => ⟨rfl, ?_⟩⟩
   have s45 := n4.same.trans s5
   have s46 := n4.same.trans (b6.same s5 fr5)
   have s47 := s46.trans s7
   have M8 := M3.same (s46.trans (b8.same s7 fr7))
   have o8 := R37.new (hu := M8.ru) false hd' A8
   have f1 : lr ≠ rl := qag (s45 _ _ M3.hl) hrl
   have f2 : lS ≠ rl := qag (s45 _ _ M3.hs) hrl
   have f3 : lr ≠ e0 := qag (s47 _ _ M3.hl) z1
   have f4 : lS ≠ e0 := qag (s47 _ _ M3.hs) z1
   have fz := And.intro (s47.free z2) (s47.free z3)
   have ap3 : ∀ x ∈ X, ApartD x.q (newD ru rl e0 dy dh (u.ps false) (u.g false) d) := fun x hx => (M3.F x hx).o.apart fz
   clear s45 s46 s47 n4 s5 fr5 d5 hrl R6 b6 s7 fr7 d7 z1 z2 z3 A8 b8 fz
   have hl8 := M8.hl
   walk_at "r"; intro H9 b9 h9
   have s9 : Same Hb H9 := b9.same M8.s M8.fr
   have hs9 : H9 lS = _ := b9 _ _ M8.hs M8.ne.symm
   have F9 : ∀ x ∈ X, F37 C_Roll C_Rule H9 u x := fun x hx => (M8.F x hx).but M8.hl b9 (M8.ol x hx)
   have o9 := o8.but M8.hl b9 f1 f3
   have ru9 := M8.ru0.same s9
   clear hl8 b9 o8
   walk_at "r"
   refine ⟨u.l false, u.xs false, u.ps false, u.g false, d, rfl, ru9.hl false, ru9.hp false, P, hd', fun m10 H10 n10 => ?_⟩
   walk_at "r"; intro p11 H11 n11
   walk_at "r"; intro t12 H12 n12
   have s12 := n10.same.trans (n11.same.trans n12.same)
   have h10 := n10.at_
   rw [(EdS.of P hd').eq] at h10
   have T12 : T37 H12 t12 m10 p11 false d ((u.ps false).map fun p => cut d p.1 p.2) ((u.g false).map fun z => cut d z (TB.lw (u.ps false))) [] := ⟨n12.at_, n12.same _ _ (n11.same _ _ h10), [], n12.same _ _ n11.at_, .nil⟩
   have hs12 := s12 _ _ hs9
   have hl12 := s12 _ _ h9
   have g1 : lr ≠ m10 := qag h9 n10.fresh
   have g2 : lS ≠ m10 := qag hs9 n10.fresh
   have g3 : lr ≠ p11 := qag (n10.same _ _ h9) n11.fresh
   have g4 : lS ≠ p11 := qag (n10.same _ _ hs9) n11.fresh
   have o12 := o9.same s12
   walk_at "r"; intro H13 b13 h13
   have o13 := o12.but hs12 b13 f2 f4
   have T13 := T12.but hs12 b13 g2 g4
   obtain ⟨z, hz⟩ : ∃ z : S37, z = ⟨ro, t12, m10, p11, newD ru rl e0 dy dh (u.ps false) (u.g false) d, false, d, (u.ps false).map fun p => cut d p.1 p.2, (u.g false).map fun z => cut d z (TB.lw (u.ps false)), [], [], []⟩ := ⟨_, rfl⟩
   have mem : ∀ {p : S37 -> Prop}, (∀ x ∈ X, p x) -> p z -> ∀ x ∈ X ++ [z], p x := fun h1 h2 x hx => (List.mem_append.mp hx).elim (h1 x) fun e => by rw [List.mem_singleton.mp e]; exact h2
   refine ⟨X ++ [z], _, _, { M8 with s := b13.same (s9.trans s12) M8.fs, hl := ?_, hs := ?_, F := mem (fun x hx => ((F9 x hx).same s12).but hs12 b13 (M8.os x hx)) ?_, ol := mem M8.ol ?_, os := mem M8.os ?_, ap := ap_snoc M8.ap ?_, cnt := mem M8.cnt ?_, dn := mem M8.dn ?_ }, by rw [List.length_append, hX]; rfl, rfl⟩
   ·rw [b13 _ _ hl12 M8.ne, List.map_append, hz]; rfl
   ·rw [h13, List.map_append, hz]; rfl
   ·rw [hz]; exact ⟨o13, T13⟩
   ·rw [hz]; exact ⟨f1, f3, g1, g3⟩
   ·rw [hz]; exact ⟨f2, f4, g2, g4⟩
   ·rw [hz]; exact ap3
   ·rw [hz]
   ·rw [hz]; exact nd'
 ·rintro σ H2 ⟨X, v9, v10, M, hX, rfl⟩
  have J := M.j hX
  refine And.intro ?_ (fun σ' H' j => qU σ' H' (by rw [eJ2] at j; exact j))
  have hS := J.S
  walk_at "r"; intro l9 H9 n9
  obtain ⟨ms, ec, hm⟩ := cut54 ns
  rw [ec] at n9
  have J9 : J37 K C_Roll C_Rule H9 l9 lr lS lR ms u X 0 := { J.same n9.same with S := SqL.of n9.at_ }
  refine ⟨l9, rfl, ⟨_, SqL.of n9.at_⟩, for_list (xs := ms.map V.int) (fun i σ H' => ∃ (X : List S37) (v11 v12 : Option V), J37 K C_Roll C_Rule H' l9 lr lS lR ms u X i /\ σ = [some (.ref a), v1, v2, some (.ref lR), some (.ref lD), some (.ref lr), some (.ref lS), some (.ref (u.l false)), some (gv (u.g false)), v9, v10, v11, v12, none, none, none, none]) ⟨X, none, none, J9, rfl⟩ (fun i σ H' _ h => by obtain ⟨X, v11, v12, j, _⟩ := h; exact j.S) ?_ ?_⟩
  ·rintro i v σ H' hxi ⟨X, v11, v12, j, rfl⟩
   rw [List.getElem?_map] at hxi
   obtain ⟨m, hmi, rfl⟩ := Option.map_eq_some_iff.mp hxi
   have hi50 : i < 50 := by have := (List.getElem?_eq_some_iff.mp hmi).1; omega
   obtain ⟨o, eo, ho⟩ : ∃ o : Nat, m / 8 % 3 = (o : Int) /\ o < 3 := ⟨(m / 8 % 3).toNat, by omega, by omega⟩
   obtain ⟨x, hx⟩ : ∃ x, X[o]? = some x := ⟨_, List.getElem?_eq_getElem (by rw [j.h3]; exact ho)⟩
   walk_at "r"
   simp only [eo, tNil, List.cons_append, List.nil_append, List.append_nil]
   refine ⟨l9, lr, lS, lR, ms, u, X, i, o, m, x, rfl, j, hx, hi50, fun X' H3 j3 => ?_⟩
   obtain ⟨y, hy⟩ : ∃ y, X'[o]? = some y := ⟨_, List.getElem?_eq_getElem (by rw [j3.h3]; exact ho)⟩
   have gri := at_m (fun x => V.ref x.r) hy
   have gsi := at_m (fun x => V.ref x.s) hy
   have hlr := j3.hl
   have hlS := j3.hs
   walk_at "r"
   walk_at "n"
   refine (j3.F y (List.mem_of_getElem? hy)).right j3.ru (by have h1 := le_sum (f := fun x => x.rs.length) X' hy; have h2 := j3.cnt; omega) fun H4 s4 => ?_
   refine ⟨_, rfl, iteF ?_⟩
   exact ⟨X', _, _, j3.same s4, rfl⟩
  ·rintro σ H' ⟨X, v11, v12, j, rfl⟩
   show J2 _ _
   rw [eJ2]
   rw [List.length_map] at j
   exact ⟨a, l9, lR, lr, lS, ms, u, X, ms.length, _, _, _, _, _, _, _, _, _, rfl, j, hm⟩
end
section
variable {P : Program} {w : World} {K : Frag} {mg : Str -> Option Value} {base : Heap} {C_Roll C_Rule C_BookError C_NoNumber C_NoRule C_Backward : Addr}
def Rl37 (ws : List Int) (H : Hp) (t : Addr) : Prop := ∃ (l : Addr) (ys : List V) (ps : List (Int × Int)) (g : Option Int), H t = some (.tup [.ref l, gv g]) /\ H l = some (.lst ys) /\ Pairs H ys ps /\ Pr ps g /\ ps.map (·.2) = ws
theorem Rl37.same {ws : List Int} {H H' : Hp} {t : Addr} (s : Same H H') : Rl37 ws H t -> Rl37 ws H' t := fun ⟨l, ys, ps, g, a, b, c, d, e⟩ => ⟨l, ys, ps, g, s _ _ a, s _ _ b, c.same s, d, e⟩
theorem Ru37.of {H : Hp} {lR t0 t1 : Addr} {ws : List Int} (W : WsOk ws) (hR : H lR = some (.lst [.ref t0, .ref t1])) (h0 : Rl37 ws H t0) (h1 : Rl37 ws H t1) : ∃ u : U37, u.t false = t0 /\ Ru37 H lR u := by
 obtain ⟨l0, y0, p0, g0, a0, b0, c0, d0, e0⟩ := h0
 obtain ⟨l1, y1, p1, g1, a1, b1, c1, d1, e1⟩ := h1
 refine ⟨⟨fun b => cond b p1 p0, fun b => cond b g1 g0, fun b => cond b t1 t0, fun b => cond b l1 l0, fun b => cond b y1 y0, ws⟩, rfl, ⟨hR, ?_, ?_, ?_, ?_, ?_, W⟩⟩
 ·intro b; cases b; exact a0; exact a1
 ·intro b; cases b; exact b0; exact b1
 ·intro b; cases b; exact c0; exact c1
 ·intro b; cases b; exact d0; exact d1
 ·intro b; cases b; exact e0; exact e1
theorem lc_two37 {K : Frag} {l : Addr} {v0 v1 : V} {te : TE} {Q : VK} {σ : St} {H : Hp} (P : Hp -> Addr -> Prop) (mo : ∀ {H H' : Hp} {t : Addr}, Same H H' -> P H t -> P H' t) (hl : H l = some (.lst [v0, v1]))
  (h0 : ∀ v, v = v0 \/ v = v1 -> ∀ H2, Same H H2 -> ∀ Q' : VK, (∀ t H3, Same H2 H3 -> P H3 t -> Q' (.ref t) H3) -> te (σ.set 0 (some v)) H2 Q')
  (hd : ∀ p t0 t1 H', Same H H' -> H' p = some (.lst [.ref t0, .ref t1]) -> P H' t0 -> P H' t1 -> Q (.ref p) H') : lcGoal (Itl K l) Q (gName 0) tYes te σ H := by
 refine qd8 (xs := [v0, v1]) (fun i ys H2 => Same H H2 /\ ((i = 0 /\ ys = []) \/ (i = 1 /\ ∃ t0, ys = [.ref t0] /\ P H2 t0) \/ (i = 2 /\ ∃ t0 t1, ys = [.ref t0, .ref t1] /\ P H2 t0 /\ P H2 t1))) (by show 2 <= sizeLine; decide) ⟨Same.refl _, .inl ⟨rfl, rfl⟩⟩ (fun i ys H2 h2 => ⟨SqL.of (h2.1 _ _ hl), ?_⟩) ?_ ?_
 ·rcases h2.2 with ⟨rfl, rfl⟩ | ⟨rfl, t0, rfl, _⟩ | ⟨rfl, t0, t1, rfl, _, _⟩
  ·exact Nat.le_refl _
  ·exact Nat.le_refl _
  ·exact Nat.le_refl _
 ·rintro i x ys H2 hxi ⟨s2, h2⟩
  rcases h2 with ⟨rfl, rfl⟩ | ⟨rfl, t0, rfl, p0⟩ | ⟨rfl, t0, t1, rfl, _, _⟩
  ·cases hxi
   refine gname_ (yes_ (iteT ?_))
   exact h0 v0 (.inl rfl) H2 s2 _ fun t H3 s3 p3 => ⟨s2.trans s3, .inr (.inl ⟨rfl, t, rfl, p3⟩)⟩
  ·cases hxi
   refine gname_ (yes_ (iteT ?_))
   exact h0 v1 (.inr rfl) H2 s2 _ fun t H3 s3 p3 => ⟨s2.trans s3, .inr (.inr ⟨rfl, t0, t, rfl, mo s3 p0, p3⟩)⟩
  ·simp at hxi
 ·rintro ys H2 p H3 ⟨s2, h2⟩ n3
  rcases h2 with ⟨e, _⟩ | ⟨e, _⟩ | ⟨_, t0, t1, rfl, p0, p1⟩
  ·cases e
  ·cases e
  ·exact hd p t0 t1 H3 (s2.trans n3.same) n3.at_ (mo n3.same p0) (mo n3.same p1)
theorem G_law (T : Txt K mg C_Roll C_Rule C_BookError C_NoNumber C_NoRule C_Backward) {f : Addr} {fd : FuncData} (F : Fun K "law" "law" s_law f fd) : FnOk P w K mg base CX0 10 f fd ["_law_script"] (sp_law K) := by
 have nd := sc_law.nd
 refine F.ok sc_law (fun vs H Q E h => ?_) (fun cdv A outer s H vs Q E hr h => ?_)
 ·obtain ⟨a, ns, rfl, _⟩ := h; rfl
 ·obtain ⟨a, ns, rfl, hS, hn, k⟩ := h
  obtain ⟨J1, eJ1⟩ : ∃ J : St -> Hp -> Prop, J = JB37 K C_Roll C_Rule := ⟨_, rfl⟩
  obtain ⟨u1, hu1, qV⟩ := law_b (P := P) (w := w) (base := base) (outer := outer) (H0 := H) (E := E) T hr Q k
  have bw : ∀ b ∈ widB ++ [], 1 <= b /\ b < 10 ^ 50 := by intro b hb; simp [widB] at hb; omega
  have ba : ∀ b ∈ ageB, 1 <= b /\ b < 10 ^ 50 := by intro b hb; simp [ageB] at hb; omega
  have bd : ∀ b ∈ dayB, 1 <= b /\ b < 10 ^ 50 := by intro b hb; simp [dayB] at hb; omega
  refine ⟨_, (qac (qas (i := 1) nd rfl (Or.inr rfl) (qak op_catN (qa6 (qaa qab qae)) (qak op_repN (qa6 (qaa qab (qaa (qak qdo qab qab) qae))) qab))) (qac (qas (i := 2) nd rfl (Or.inr rfl) (qa4 (D__law_widths T) (hr.mono (by decide)) rfl (qaa (qa4 (qc7 T) (hr.mono (by decide)) rfl (qaa (qa4 (qds T) (hr.mono (by decide)) rfl (qaa (pv 0) (qaa qab qae))) (qaa (qak op_catN (qa6 (qaa qab qae)) (qak op_repN (qa6 (qaa qab (qaa (qak qdo qab qab) qae))) qab)) qae))) qae))) (qac (qd6 (i := 3) (vars := ["_law_k"]) (frees := ["_law_broad", "_law_ages_here", "_law_script"]) (fv := [2, 1, 0]) nd rfl (Or.inl rfl) rfl (lcOk rfl rfl (by decide +kernel) (by decide +kernel) (by intro p hp; simp only [List.mem_cons, List.not_mem_nil, or_false] at hp; rcases hp with rfl | rfl | rfl <;> rfl) rfl) ⟨⟨rfl, .inl rfl, rfl, .inl rfl⟩, ⟨⟨rfl, .inl rfl, rfl, .inl rfl⟩, ⟨⟨rfl, .inl rfl, rfl, .inl rfl⟩, trivial⟩⟩⟩ (qbr (qa6 (qaa qab (qaa qab qae)))) (gk_name (by decide)) (fun _ _ _ _ => (qaj (i := 0) (show (["_law_k", "_law_broad", "_law_ages_here", "_law_script"] : List Str).Nodup by decide +kernel) rfl (Or.inl rfl))) (fun _ _ _ _ => qby) (fun _ _ _ _ => (qa4 (D__law_ages T) (hr.mono (by decide)) rfl (qaa (qa4 (qc7 T) (hr.mono (by decide)) rfl (qaa (qa4 (qds T) (hr.mono (by decide)) rfl (qaa (pv 3) (qaa (pv 0) qae))) (qaa (pv 2) qae))) (qaa (pv 1) qae))))) (qac (qas (i := 4) nd rfl (Or.inl rfl) (qa4 (qc7 T) (hr.mono (by decide)) rfl (qaa (qa4 (qds T) (hr.mono (by decide)) rfl (qaa (pv 0) (qaa qab qae))) (qaa (qa6 (qaa (qak qdd qab (qak qdo qab qab)) (qaa qab (qaa (qak qdo qab qab) (qaa (qak qdo qab qab) (qaa qab (qaa (qak qdo qab qab) (qaa (qak qdo qab qab) qae)))))))) qae)))) (qac (qas (i := 5) nd rfl (Or.inl rfl) (qa6 qae)) (qac (qas (i := 6) nd rfl (Or.inl rfl) (qa6 qae)) (pss_cut J1 (qdc (qai qah (pv 3) qab (fun _ _ => rfl)) (qb2 rfl (qal (qaj (i := 7) nd rfl (Or.inl rfl)) (qal (qaj (i := 8) nd rfl (Or.inl rfl)) qbf))))
   hu1))))))), ?_⟩
  walk_at "r"; intro l1 H1 n1
  walk_at "r"; intro l2 H2 n2
  refine ⟨l2, 6, _, rfl, rfl, n2.at_, by decide, by decide, by decide, fun l3 H3 n3 => ?_⟩
  refine ⟨l1, l3, _, _, rfl, rfl, n3.same _ _ (n2.same _ _ n1.at_), n3.at_, by decide, fun l4 H4 n4 => ?_⟩
  have h4 : H4 l4 = some (.lst (ageB.map V.int)) := n4.at_
  have hS4 := qd7 (n1.same.trans (n2.same.trans (n3.same.trans n4.same))) hS
  clear n1 n2 n3 n4 hS
  walk_at "r"
  refine ⟨a, ns, 0, rfl, hS4, by decide, fun c0 => ?_⟩
  walk_at "r"; intro l5 H5 n5
  walk_at "r"; intro l6 H6 n6
  refine ⟨l6, 5, _, rfl, rfl, n6.at_, by decide, by decide, by decide, fun l7 H7 n7 => ?_⟩
  refine ⟨l5, l7, _, _, rfl, rfl, n7.same _ _ (n6.same _ _ n5.at_), n7.at_, by decide, fun l8 H8 n8 => ?_⟩
  have s48 : Same H4 H8 := n5.same.trans (n6.same.trans (n7.same.trans n8.same))
  have h8 : H8 l8 = some (.lst ((widB ++ []).map V.int)) := n8.at_
  have h48 := s48 _ _ h4
  have hS8 := qd7 s48 hS4
  clear n5 n6 n7 n8 s48 h4 hS4
  refine ⟨c0, l8, widB ++ [], rfl, h8, bw, by decide, fun lf xf H9 n9 Uf => ?_⟩
  refine ⟨lf, xf, [], rfl, n9.at_, Uf, fun lw ws H10 n10 W => ?_⟩
  have hw := n10.at_
  have s8a := n9.same.trans n10.same
  have h4a := s8a _ _ h48
  have hSa := qd7 s8a hS8
  clear n9 n10 h8 h48 hS8 s8a
  walk_at "r"; intro lk H11 n11
  have hk : H11 lk = some (.lst [.int 1, .int 2]) := n11.at_
  refine ⟨lk, rfl, ⟨_, SqL.of hk⟩, lc_two37 (Rl37 ws) (fun s h => h.same s) hk (fun v hv H12 s12 Q' q' => ?_) fun lR t0 t1 H13 s13 hR r0 r1 => ?_⟩
  ·obtain ⟨kk, rfl, hk0⟩ : ∃ kk : Int, v = .int kk /\ 0 <= kk := by
    rcases hv with rfl | rfl
    ·exact ⟨1, rfl, by decide⟩
    ·exact ⟨2, rfl, by decide⟩
   have sb := n11.same.trans s12
   walk_at "r"
   refine ⟨a, ns, kk, rfl, qd7 sb hSa, hk0, fun c1 => ?_⟩
   walk_at "r"
   refine ⟨c1, l4, ageB, rfl, sb _ _ h4a, ba, by decide, fun lf2 xf2 H14 n14 U2 => ?_⟩
   walk_at "r"
   refine ⟨lf2, xf2, lw, ws, rfl, n14.at_, U2, n14.same _ _ (sb _ _ hw), W, fun t l ys ps g H15 s15 ht hls hp P hpw => ?_⟩
   exact q' t H15 (n14.same.trans s15) ⟨l, ys, ps, g, ht, hls, hp, P, hpw⟩
  obtain ⟨u, hu0, Ru⟩ := Ru37.of W hR r0 r1
  have hS13 := qd7 (n11.same.trans s13) hSa
  clear hk n11 s13 h4a hSa hw hR r0 r1
  walk_at "r"
  refine ⟨a, ns, 3, rfl, hS13, by decide, fun c3 => ?_⟩
  walk_at "r"; intro lb H14 n14
  refine ⟨c3, lb, dayB, rfl, n14.at_, bd, by decide, fun lD ds H15 n15 Ud => ?_⟩
  have sf := n14.same.trans n15.same
  have RuF := Ru.same sf
  have hSF := qd7 sf hS13
  have hD := n15.at_
  clear n14 n15 Ru hS13 sf
  walk_at "r"; intro lr H16 n16
  walk_at "r"; intro lS H17 n17
  have sg := n16.same.trans n17.same
  have hR := sg _ _ RuF.hR
  have ht := sg _ _ (RuF.ht false)
  have at0 : atI [V.ref (u.t false), V.ref (u.t true)] 0 = some (.ref (u.t false)) := rfl
  refine And.intro ?_ (fun σ' H' j => qV σ' H' (by rw [eJ1] at j; exact j))
  walk_at "r"
  show J1 _ _
  rw [eJ1]
  exact ⟨H15, a, lR, lD, lr, lS, ns, u, ds, _, _, rfl, { s := sg, S := hSF, ru0 := RuF, hd0 := hD, U := Ud, fr := n16.fresh, fs := n16.same.free n17.fresh, ne := qag n16.at_ n17.fresh, hl := n17.same _ _ n16.at_, hs := n17.at_, F := (by intro x h; cases h), ol := (by intro x h; cases h), os := (by intro x h; cases h), ap := (by intro i j x y h; rw [List.getElem?_nil] at h; cases h), cnt := (by intro x h; cases h), dn := (by intro x h; cases h) }⟩
end
theorem walk {l : PySem.W.OpenLaw} {q : Program} {loose : List Str} {XP : (Str -> Option Value) -> Heap -> Prop} {YP : World -> Heap -> Prop} {d : DefRec} {K : Params -> Frag} (hn : l.most = some 63) (hdf : d.params.defaults = []) (hdn : d.name = "law")
  (hY : ∀ (w : World) (h : Heap), YP w h -> (K w.params).In h)
  (F : ∀ (w : World) (mg : Str -> Option Value) (h : Heap), (K w.params).In h -> h.Ns mainGlobals mg -> ∃ C_Roll C_Rule C_BookError C_NoNumber C_NoRule C_Backward, Txt (K w.params) mg C_Roll C_Rule C_BookError C_NoNumber C_NoRule C_Backward) :
  PySem.W.WalkO q loose XP YP l.row.toRowW d [] (fun f vs => PySem.call f vs) := by
 refine L2.walk_of (n := 63) (k := 10) (x := "_law_script") (CX := fun _ => CX0) (sp := fun w => sp_law (K w.params)) hn (by decide) hdf ⟨rfl, by decide, by decide⟩ hY (fun w mg fa h kin ns hm => ?_) (fun _ _ a ns hl _ hS => ⟨a, ns, rfl, hS, hl, fun _ => rfl⟩) fun _ _ _ _ _ z => z
 obtain ⟨C_Roll, C_Rule, C_BookError, C_NoNumber, C_NoRule, C_Backward, T⟩ := F w mg h kin ns
 obtain ⟨f, fd, Fu, hm'⟩ := T.f_law
 rw [hdn, hm'] at hm
 cases hm
 refine ⟨fd, ?_, fun base kb nb => G_law T Fu⟩
 obtain ⟨oc, od, kV, doc, pm, an, cdv, ct, osl, rfl, lk, hcd⟩ := Fu.ex
 exact fun s u => .of_eq rfl
end TB
namespace PySem.W.Fast
def tw2363848253326949029:=0
def tw3332053850607992707:=0
def tw15979486387779103953:=0
def tw13880076923658854871:=0
def tw5191715102833749238:=0
def tw5741120532366889841:=0
def tw11158280703250687215:=0
def tw6799414072219204382:=0
def tw14175067650726152145:=0
def tw17022771067258835935:=0
def tw3325166641144868734:=0
def tw2543296906219360407:=0
def tw505084770300480694:=0
def tw11205329290352037820:=0
def tw8499068200299193542:=0
def tw7494839927800845557:=0
def tw16747825070229803990:=0
def tw17948506466178879714:=0
def tw15442699739602435520:=0
def tw12337755386140834342:=0
def tw10220136933066803910:=0
def tw14546542651772201348:=0
def tw8612737493367914303:=0
def tw10053952202769341751:=0
def tw2676335691154806391:=0
def tw10911059167808103692:=0
def tw13938757939245545538:=0
def tw800190225065063474:=0
def tw1582474490278707616:=0
def tw4353415077622416300:=0
def tw16717860227854988325:=0
def tw8161298167592619055:=0
def tw16728475458837370298:=0
def tw8048521517702601866:=0
def tw13880401225171061731:=0
def tw12904525738562385927:=0
def tw6040185626957265067:=0
def tw9801876161387358850:=0
def tw704536169391873532:=0
def tw2743029994205471732:=0
def tw8187453517233682174:=0
def tw14998596218306094433:=0
def tw9906974292434595030:=0
def tw6243744533857475689:=0
def tw5265704588359799076:=0
def tw369264633886312270:=0
def tw18061230385986682849:=0
def tw17606008704039891314:=0
def tw3848462240105504381:=0
def tw6461526298079596485:=0
def tw15905461748405405870:=0
def tw13050858693923351560:=0
def tw10063330596998106937:=0
def tw15203452114121614162:=0
def tw14906061927339277100:=0
def tw3140858192101972880:=0
def tw6273242651780617372:=0
def tw3926672564564251598:=0
def tw6295455460479654453:=0
def tw1195829065578859107:=0
def tw545559674433290418:=0
def tw4934065795513374045:=0
def tw12806011279090705637:=0
def tw8969332621848641137:=0
def tw10846518892549787341:=0
def tw9504748563872401181:=0
def tw6583311576372916504:=0
def tw4152133070200411757:=0
def tw9060377126304802991:=0
def tw6979450516290650420:=0
def tw10234725822347890476:=0
def tw15037698754897977650:=0
def tw588917951577664111:=0
def tw13833201184364820270:=0
def tw11089692364038014642:=0
def tw5290496497057630375:=0
def tw12394792581284507759:=0
def tw1142069290018728516:=0
def tw13309876735723080063:=0
def tw6084431195633874465:=0
def tw10675468849392021950:=0
def tw11628962227585464368:=0
def tw1053383043707057894:=0
def tw8944305512476268274:=0
def tw4104902252414394807:=0
def tw13326394447437642581:=0
def tw15585181377909307242:=0
def tw11935463122571527813:=0
def tw6023603215426388549:=0
def tw150260402815249930:=0
def tw9747924695849361566:=0
def tw5554613503943480801:=0
def tw4736830063884669772:=0
def tw10533713735027971403:=0
def tw4420396486299828871:=0
def tw15254347517197541128:=0
def tw5391402633180067301:=0
def tw16747342596730510488:=0
def tw16729020640560449015:=0
def tw1575159915010164594:=0
def tw14122432985510732375:=0
def tw5089854212470679968:=0
def tw8357161260647712573:=0
def tw9573236299412998465:=0
def tw11241216571450130285:=0
def tw961002388449934242:=0
def tw9745784430748131847:=0
def tw3592248651320562763:=0
def tw17096326873725378944:=0
def tw4723955366938845048:=0
def tw2333816770340719958:=0
def tw8656559486194107861:=0
def tw469907240034106153:=0
def tw7591432368430578804:=0
def tw12170028942668464828:=0
def tw12819891520034000425:=0
def tw418437414332170757:=0
def tw3424839977903062845:=0
def tw13775928618902328201:=0
def tw16510690641481711850:=0
def tw16588653419331365026:=0
def tw6288756257270797930:=0
def tw5200412100690127472:=0
def tw13896147612046422827:=0
def tw5851528273446654232:=0
def tw15522653753446968471:=0
def tw11725266064791428687:=0
def tw6571159145030508631:=0
def tw2537675643167513643:=0
def tw8200163627683265933:=0
def tw16297353270120546686:=0
def tw5497655584006132701:=0
def tw18284484197232474575:=0
def tw4206794093760683893:=0
def tw11768718395820114327:=0
def tw12947201525191124316:=0
def tw473646181168608121:=0
def tw9607013108539946311:=0
def tw180915769560795419:=0
def tw15525968659406324410:=0
def tw16285175224943058130:=0
def tw2555783153913264262:=0
def tw16843621040008548510:=0
def tw7230708170990507413:=0
def tw6497042031063022546:=0
def tw16008065213152318847:=0
def tw7972702621002782389:=0
def tw3896482839816382563:=0
def tw7071493155822779067:=0
def tw13856116863389417100:=0
def tw15649829007507931727:=0
def tw4170448513719140967:=0
def tw15063339530605793242:=0
def tw17078559494330766993:=0
def tw6387270871517112222:=0
def tw6523618663338190524:=0
def tw3522497055725404282:=0
def tw1577121895736491716:=0
def tw17147806407922304606:=0
def tw15200131239984891148:=0
def tw328223496977246823:=0
def tw12307212449271558099:=0
def tw17025678865137441368:=0
def tw4255383865156411347:=0
def tw15656620101821003330:=0
def tw16585588866231540152:=0
def tw8838664648339287276:=0
def tw16679272707618297443:=0
def tw15513967733723795413:=0
def tw4929615864374962936:=0
def tw14850659389694699770:=0
def tw4733538203519544521:=0
def tw5710688740540097153:=0
def tw1279817069115775317:=0
def tw3436645002258378924:=0
def tw7121369512711498501:=0
def tw10949523447433726341:=0
def tw8472870066084837388:=0
def tw8991459102401852157:=0
def tw3615576096470197678:=0
def tw235310457650119116:=0
def tw12074326544134699100:=0
def tw11839460090723056569:=0
def tw4075914837442573991:=0
def tw14062929645543735448:=0
def tw17430071384252186767:=0
def tw17736437380446144830:=0
def tw3333799370840601907:=0
def tw8598185037031576178:=0
def tw6400696276554842042:=0
def tw15309854414613818866:=0
def tw9714048238443084680:=0
def tw9762374303703296469:=0
def tw496293352486270707:=0
def tw17312692239462208994:=0
def tw990597727147077773:=0
def tw759403771547266412:=0
def tw1659457136310757977:=0
def tw9170421663127587146:=0
def tw12656862805697501779:=0
def tw9533582764056691742:=0
def tw1936563289140176816:=0
def tw6806159897212223412:=0
def tw15878752694916388635:=0
def tw4615969038808402934:=0
def tw5523378169803629019:=0
def tw11027502075087401907:=0
def tw6717176830587256894:=0
def tw17660662429055153889:=0
def tw17540384218559893322:=0
def tw6033360168376132862:=0
def tw9427197693061581321:=0
def tw14856600932653423384:=0
def tw7065437689100409892:=0
def tw8394025965822370508:=0
def tw11626961107915790264:=0
def tw663431226484347168:=0
def tw12191391665097567505:=0
def tw8458126471704594267:=0
def tw12516389969196092316:=0
def tw14774279557666000497:=0
def tw5866553939408472311:=0
def tw10046639609741838879:=0
def tw7791145614236428236:=0
def tw15475002249461392601:=0
def tw14783180172219958460:=0
def tw14357176885526284402:=0
def tw14518954592029330161:=0
def tw17311079510679415309:=0
def tw12441012602443698061:=0
def tw4907864619891808855:=0
def tw10061859496810635032:=0
def tw6392583142118329741:=0
def tw4410255871606687701:=0
def tw14406147703217263313:=0
def tw8061093281449437188:=0
def tw7560697615680739522:=0
def tw11425989858638451193:=0
def tw15463367732744784667:=0
def tw7860948465983090433:=0
def tw1451346209651994546:=0
def tw18121899271809919415:=0
def tw3408729735659918698:=0
def tw3873071604031151089:=0
def tw8611784885263399566:=0
def tw10453027143896471223:=0
def tw14804917267734372708:=0
def tw17914483131184675654:=0
def tw12888928770263724581:=0
def tw13442337588630436:=0
def tw9576824803572558365:=0
def tw12537239256711881432:=0
def tw4435455138559325192:=0
def tw15762817901820787124:=0
def tw5864946661234241162:=0
def tw6755716324273796600:=0
def tw6896270642433388563:=0
def tw8929130945751532844:=0
def tw16335869406032924899:=0
def tw4166560314117418209:=0
def tw1929291396568349662:=0
def tw320625620636597811:=0
def tw19381731999948793:=0
def tw377886970629362042:=0
def tw17349887943087912971:=0
def tw2501736107199776797:=0
def tw16944078945483710168:=0
def tw1132447826702397749:=0
def tw13684503056199066075:=0
def tw12633471428623376281:=0
def tw4924226168727286945:=0
def tw3841397800309094589:=0
def tw2678624681490261692:=0
def tw8988106212999789124:=0
def tw16736126373844921433:=0
def tw3651255549181939553:=0
def tw9057443864482807936:=0
def tw2203532302615428360:=0
def tw8709921236010985262:=0
def tw1563054199970599635:=0
def tw9684969637896221104:=0
def tw13512476392049106516:=0
def tw9300122583439144660:=0
def tw141342177154477415:=0
def tw11813786412580983134:=0
def tw12424621693500827732:=0
def tw6236034592489223409:=0
def tw14270498212627178125:=0
def tw2477681146420141149:=0
def tw4765475748728102367:=0
def tw7224949397128010053:=0
def tw4300908989514042815:=0
def tw11614275728132068578:=0
def tw6578887577829270336:=0
def tw13315963007488937772:=0
def tw17034962942068007385:=0
def tw3521731212245776049:=0
def tw122315137742599489:=0
def tw5840534219591281322:=0
def tw2367377254908692783:=0
def tw14036570233930786999:=0
def tw10422206241249356801:=0
def tw8980409121054074317:=0
def tw11070979970218629292:=0
def tw9497774989529322269:=0
def tw11289885546060686206:=0
def tw15217656087399748594:=0
def tw17340384847756361644:=0
def tw7176619792309359635:=0
def tw13140302563309107988:=0
def tw3515027830723720727:=0
def tw10898197633656486927:=0
def tw3946631105126204987:=0
def tw13471730717033558377:=0
def tw2591809493830365823:=0
def tw6024993140922952513:=0
def tw4896799337604233568:=0
def tw8317100522942366971:=0
def tw47705684260619187:=0
def tw286285541301081339:=0
def tw8960940185080449847:=0
def tw9739546626705694929:=0
def tw70916023125062282:=0
def tw8758846783198372240:=0
def tw4412484469413694166:=0
def tw2131496931081031844:=0
def tw3735000645144880244:=0
def tw12183560322854395836:=0
def tw5750187708075958566:=0
def tw1130286329095728877:=0
def tw14898752167267222551:=0
def tw17965665319868283965:=0
def tw15507935325398214105:=0
def tw5559925161591293156:=0
def tw8059798030588274845:=0
def tw10356796974183031933:=0
def tw195063465188368036:=0
def tw9424840247956051297:=0
def tw16367589751952406011:=0
def tw15523253182298938280:=0
def tw8695833931149899104:=0
def tw11139651668247042460:=0
def tw7724107870431507224:=0
def tw10165004551514733978:=0
def tw11690453149001009172:=0
def tw4647386430027923764:=0
def tw16484036103724095915:=0
def tw6313457558354875928:=0
def tw11601781358529187977:=0
def tw16813396793099726161:=0
def tw16519044309249238977:=0
def tw18082557262422201977:=0
def tw315345895875441261:=0
def tw1546097893404572490:=0
def tw14289450554747492835:=0
def tw784721828074059106:=0
def tw11762909569617343273:=0
def tw14580438270459637915:=0
def tw16660210969112717362:=0
def tw749366851938826420:=0
def tw14700868727641465249:=0
def tw10848863927714906737:=0
def tw17422148072679321445:=0
def tw14129205099260145324:=0
def tw5288020735962698573:=0
def tw17298724796794650861:=0
def tw13647608785678259079:=0
def tw14126630352174488795:=0
def tw14889820662697328684:=0
def tw17799198059613540946:=0
def tw1231240481003268416:=0
def tw14436922785633136068:=0
def tw7569625997099854971:=0
def tw16653166489903139227:=0
def tw13140097690999723213:=0
def tw15853649765282008504:=0
def tw16693659851619580769:=0
def tw4237608361181178269:=0
def tw11072713154367167315:=0
def tw15811553607446041552:=0
def tw16821935641990954447:=0
def tw15783279768017773602:=0
def tw7592284481168337283:=0
def tw17710164209980640172:=0
def tw1719629446312465083:=0
def tw6149206895954122185:=0
def tw13148501785570985406:=0
def tw5861209120041532289:=0
def tw6486918201170015459:=0
def tw5815500351840843697:=0
def tw15097201636076440116:=0
def tw8192320661336595466:=0
def tw3969163078697443661:=0
def tw5887526729846207157:=0
def tw15330013548997001859:=0
def tw16592989912002709042:=0
def tw9294933266340151534:=0
def tw13210547972116232407:=0
def tw10233467824584720777:=0
def tw14924493983548335410:=0
def tw10011150955169968487:=0
def tw16484027533788623124:=0
def tw4800501008022686858:=0
def tw7842383581613972127:=0
def tw4051985413034794650:=0
def tw158256252447373905:=0
def tw17792023932403882427:=0
def tw2235782692771014533:=0
def tw8459921280160236164:=0
def tw18083148003169531607:=0
def tw3828713650462422268:=0
def tw17111720370311285333:=0
def tw7676944342024254339:=0
def tw151179104138641197:=0
def tw7901144673324192901:=0
def tw12092165073531217284:=0
def tw14627490070485805769:=0
def tw2387226098976837581:=0
def tw12703810695593065663:=0
end PySem.W.Fast
open PySem PySem.W PyProof.Rows
set_option maxRecDepth 100000 in
set_option maxHeartbeats 0 in
theorem PySem.Challenge.cw_thinbook_k37_whole_any_deeds_holds : PySem.Challenge.rw_thinbook_k37_whole_any_deeds.Holds := by
 w_on; o_law; k_head; (case hw => w_witness2)
 k_fill
 refine TB.walk (l := PySem.Challenge.rw_thinbook_k37_whole_any_deeds) rfl rfl rfl (fun w h Y => PySem.W.kIn_of Y) ?F
 case F =>
  intro w mg h KX G
  refine' TB.txt_mk KX G ?aCRoll ?aCRule ?a0 ?l0 ?c0 ?k0 ?a1 ?l1 ?c1 ?k1 ?a2 ?l2 ?c2 ?k2 ?a3 ?l3 ?c3 ?k3 ?a4 ?l4 ?c4 ?k4 ?a5 ?l5 ?c5 ?k5 ?a6 ?l6 ?c6 ?k6 ?a7 ?l7 ?c7 ?k7 ?a8 ?l8 ?c8 ?k8 ?a9 ?l9 ?c9 ?k9 ?a10 ?l10 ?c10 ?k10 ?a11 ?i11 ?l11 ?c11 ?k11 ?a12 ?i12 ?l12 ?c12 ?k12 ?d12 ?a13 ?i13 ?l13 ?c13 ?k13 ?a14 ?i14 ?l14 ?c14 ?k14 ?a15 ?i15 ?l15 ?c15 ?k15 ?a16 ?i16 ?l16 ?c16 ?k16 ?a17 ?i17 ?l17 ?c17 ?k17 ?a18 ?i18 ?l18 ?c18 ?k18 ?a19 ?i19 ?l19 ?c19 ?k19 ?a20 ?i20 ?l20 ?c20 ?k20 ?a21 ?l21 ?c21 ?k21 ?a22 ?l22 ?c22 ?k22 ?a23 ?l23 ?c23 ?k23 ?a24 ?l24 ?c24 ?k24 ?a25 ?l25 ?c25 ?k25 ?a26 ?l26 ?c26 ?k26 ?a27 ?i27 ?l27 ?c27 ?k27 ?d27 ?a28 ?i28 ?l28 ?c28 ?k28 ?a29 ?i29 ?l29 ?c29 ?k29 ?a30 ?l30 ?c30 ?k30 ?a31 ?l31 ?c31 ?k31 ?a32 ?l32 ?c32 ?k32 ?a33 ?l33 ?c33 ?k33 ?a34 ?l34 ?c34 ?k34 ?a35 ?l35 ?c35 ?k35 ?a36 ?l36 ?c36 ?k36 ?a37 ?l37 ?c37 ?k37 ?a38 ?l38 ?c38 ?k38 ?a39 ?l39 ?c39 ?k39 ?a40 ?l40 ?c40 ?k40 ?a41 ?l41 ?c41 ?k41 ?a42 ?l42 ?c42 ?k42 ?a43 ?l43 ?c43 ?k43 ?a44 ?l44 ?c44 ?k44 ?a45 ?l45 ?c45 ?k45 ?a46 ?l46 ?c46 ?k46 ?a47 ?l47 ?c47 ?k47 ?a48 ?l48 ?c48 ?k48 ?a49 ?l49 ?c49 ?k49 ?a50 ?l50 ?c50 ?k50 ?a51 ?l51 ?c51 ?k51 ?pgRoll ?hdRoll ?poRoll ?saRoll ?mkRoll ?kcRoll ?nRoll_kept_rule ?nRoll_kept_day ?nRoll_kept_edges ?nRoll_whole_ones ?nRoll_cell_heaps ?pgRule ?hdRule ?poRule ?saRule ?mkRule ?kcRule ?nRule_kept_steps ?nRule_gone_age ?xCBookError ?xCNoNumber ?xCNoRule ?xCBackward ?xENoRule ?xKNoRule0 ?xKNoRule1 ?xKNoRule2 ?xKNoRule3 ?xKNoRule4 ?xKNoRule5 ?xHNoRule_NoRule ?z_bool ?z_enumerate ?z_int ?z_isinstance ?z_len ?z_list ?z_max ?z_min ?z_range ?z_sorted ?z_sum ?z_tuple ?z_zip ?y_MOST_STEPS
  (case aCRoll | aCRule | a0 | l0 | c0 | k0 | a1 | l1 | c1 | k1 | a2 | l2 | c2 | k2 | a3 | l3 | c3 | k3 | a4 | l4 | c4 | k4 | a5 | l5 | c5 | k5 | a6 | l6 | c6 | k6 | a7 | l7 | c7 | k7 | a8 | l8 | c8 | k8 | a9 | l9 | c9 | k9 | a10 | l10 | c10 | k10 | a11 | i11 | l11 | c11 | k11 | a12 | i12 | l12 | c12 | k12 | d12 | a13 | i13 | l13 | c13 | k13 | a14 | i14 | l14 | c14 | k14 | a15 | i15 | l15 | c15 | k15 | a16 | i16 | l16 | c16 | k16 | a17 | i17 | l17 | c17 | k17 | a18 | i18 | l18 | c18 | k18 | a19 | i19 | l19 | c19 | k19 | a20 | i20 | l20 | c20 | k20 | a21 | l21 | c21 | k21 | a22 | l22 | c22 | k22 | a23 | l23 | c23 | k23 | a24 | l24 | c24 | k24 | a25 | l25 | c25 | k25 | a26 | l26 | c26 | k26 | a27 | i27 | l27 | c27 | k27 | d27 | a28 | i28 | l28 | c28 | k28 | a29 | i29 | l29 | c29 | k29 | a30 | l30 | c30 | k30 | a31 | l31 | c31 | k31 | a32 | l32 | c32 | k32 | a33 | l33 | c33 | k33 | a34 | l34 | c34 | k34 | a35 | l35 | c35 | k35 | a36 | l36 | c36 | k36 | a37 | l37 | c37 | k37 | a38 | l38 | c38 | k38 | a39 | l39 | c39 | k39 | a40 | l40 | c40 | k40 | a41 | l41 | c41 | k41 | a42 | l42 | c42 | k42 | a43 | l43 | c43 | k43 | a44 | l44 | c44 | k44 | a45 | l45 | c45 | k45 | a46 | l46 | c46 | k46 | a47 | l47 | c47 | k47 | a48 | l48 | c48 | k48 | a49 | l49 | c49 | k49 | a50 | l50 | c50 | k50 | a51 | l51 | c51 | k51 | pgRoll | hdRoll | poRoll | saRoll | mkRoll | kcRoll | nRoll_kept_rule | nRoll_kept_day | nRoll_kept_edges | nRoll_whole_ones | nRoll_cell_heaps | pgRule | hdRule | poRule | saRule | mkRule | kcRule | nRule_kept_steps | nRule_gone_age | xCBookError | xCNoNumber | xCNoRule | xCBackward | xKNoRule0 | xKNoRule1 | xKNoRule2 | xKNoRule3 | xKNoRule4 | xHNoRule_NoRule | z_bool | z_enumerate | z_int | z_isinstance | z_len | z_list | z_max | z_min | z_range | z_sorted | z_sum | z_tuple | z_zip | y_MOST_STEPS => k_is)
  (case xENoRule => k_exc)
  (case xKNoRule5 => kts_isx)
