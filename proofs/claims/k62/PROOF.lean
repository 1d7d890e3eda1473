import PyProof.Rows.All
import Wide.All
import OpenK.AllK
import Wide.FinOn
import Lean
import PyProof.EqAt
import PyProof.EqKinds
import PyProof.TupleCall
import PySem.Challenge.RW_thinbook_k62_sieves
set_option Elab.async false
set_option linter.all false
set_option maxRecDepth 100000
namespace L2
open PySem PySem.Spec PyProof.Rows
abbrev Key := Sum Int Str
def keyIs : Key → Value → Bool
  | .inl k, v => Value.isInt k v
  | .inr x, v => Value.isStrOf x v
def keyH (w : World) : Key → Int
  | .inl k => hashInt k
  | .inr x => hashStr w x
theorem keyIs_shape : ∀ {k : Key} {v : Value}, keyIs k v = true → (∃ i t, k = Sum.inl i ∧ v = Value.int i t) ∨ (∃ x t, k = Sum.inr x ∧ v = Value.str x t)
  | .inl i, v, h => by
    obtain ⟨t, e⟩ := Value.isInt_shape (k := i) (v := v) h
    exact .inl ⟨i, t, rfl, e⟩
  | .inr x, v, h => by
    obtain ⟨t, e⟩ := Value.isStrOf_shape (x := x) (v := v) h
    exact .inr ⟨x, t, rfl, e⟩
theorem key_ll (a b : Int) : decide ((Sum.inl a : Key) = Sum.inl b) = (a == b) := by
  by_cases e : a = b
  · subst e; simp
  · have h : ¬ (Sum.inl a : Key) = Sum.inl b := fun q => e (Sum.inl.inj q)
    rw [decide_eq_false h]
    exact (beq_eq_false_iff_ne.mpr e).symm
theorem key_rr (a b : Str) : decide ((Sum.inr a : Key) = Sum.inr b) = decide (a = b) := by
  by_cases e : a = b
  · subst e; simp
  · have h : ¬ (Sum.inr a : Key) = Sum.inr b := fun q => e (Sum.inr.inj q)
    rw [decide_eq_false h, decide_eq_false e]
theorem key_lr (a : Int) (b : Str) : decide ((Sum.inl a : Key) = Sum.inr b) = false := decide_eq_false (fun q => nomatch q)
theorem key_rl (a : Str) (b : Int) : decide ((Sum.inr a : Key) = Sum.inl b) = false := decide_eq_false (fun q => nomatch q)
def mixKind (prog : Program) (w : World) : PySem.KeyKind prog w Key where
  is := keyIs
  hash := keyH w
  inj := fun v a b ha hb => by
    rcases keyIs_shape ha with ⟨i, t, rfl, rfl⟩ | ⟨x, t, rfl, rfl⟩
    · rcases keyIs_shape hb with ⟨j, u, rfl, e⟩ | ⟨y, u, rfl, e⟩
      · injection e with e1 _; rw [e1]
      · exact nomatch e
    · rcases keyIs_shape hb with ⟨j, u, rfl, e⟩ | ⟨y, u, rfl, e⟩
      · exact nomatch e
      · injection e with e1 _; rw [e1]
  byValue := fun k v h => by
    rcases keyIs_shape h with ⟨i, t, rfl, rfl⟩ | ⟨x, t, rfl, rfl⟩ <;> rfl
  pyHash := fun hv h => by
    rcases keyIs_shape hv with ⟨i, t, rfl, rfl⟩ | ⟨x, t, rfl, rfl⟩
    · exact wpAny_pyHash_int h
    · exact wpAny_pyHash_str h
  eqBool := fun hu hv h => by
    rcases keyIs_shape hu with ⟨i, t, rfl, rfl⟩ | ⟨x, t, rfl, rfl⟩
    · rcases keyIs_shape hv with ⟨j, u, rfl, rfl⟩ | ⟨y, u, rfl, rfl⟩
      · rw [key_ll] at h; exact wpAny_eqBool_int h
      · rw [key_lr] at h; exact SeqAt.EqAt.int_str i t y u _ _ _ _ h
    · rcases keyIs_shape hv with ⟨j, u, rfl, rfl⟩ | ⟨y, u, rfl, rfl⟩
      · rw [key_rl] at h; exact SeqAt.EqAt.str_int x t j u _ _ _ _ h
      · rw [key_rr] at h; exact wpAny_eqBool_str h
  «strs» := fun k x t v h => by
    rcases keyIs_shape h with ⟨i, u, rfl, e⟩ | ⟨y, u, rfl, e⟩
    · exact nomatch e
    · injection e with e1 _
      subst e1
      cases v <;> rfl
end L2
namespace L2
open PySem PySem.Spec PyProof.Rows
inductive V where
  | non | bl (b : Bool) | int (i : Int) | str (x : Str) | byt (b : Array UInt8) | flt (b : UInt64) | ref (a : Addr) | ty (n : String)
  deriving DecidableEq
def RelV : V → Value → Prop
  | .non, u => u = Value.none
  | .bl b, u => u = Value.bool b
  | .int i, u => ∃ t, u = Value.int i t
  | .str x, u => ∃ t, u = Value.str x t
  | .byt b, u => ∃ t, u = Value.bytes b t
  | .flt b, u => ∃ t, u = Value.float b t
  | .ref a, u => u = Value.ref a
  | .ty n, u => u = Value.type n
abbrev Vals : List V → List Value → Prop := Paired RelV
theorem Vals.length {xs : List V} {us : List Value} (r : Vals xs us) : xs.length = us.length := Paired.length r
theorem Vals.get : ∀ {xs : List V} {us : List Value} {i : Nat} {x : V}, Vals xs us → xs[i]? = some x → ∃ u, us[i]? = some u ∧ RelV x u
  | _, _, _, _, .nil, e => by simp at e
  | _, _, 0, _, .cons r _, e => by simp at e; subst e; exact ⟨_, rfl, r⟩
  | _, _, i + 1, x, .cons _ t, e => by
    obtain ⟨u, h1, h2⟩ := Vals.get (i := i) (x := x) t (by simpa using e)
    exact ⟨u, by simpa using h1, h2⟩
theorem Vals.set {x : V} {u : Value} (r : RelV x u) : ∀ {xs : List V} {us : List Value} (i : Nat), Vals xs us → Vals (xs.set i x) (us.set i u)
  | _, _, _, .nil => .nil
  | _, _, 0, .cons _ t => .cons r t
  | _, _, i + 1, .cons q t => .cons q (Vals.set r i t)
theorem Vals.append : ∀ {xs ys : List V} {us ws : List Value}, Vals xs us → Vals ys ws → Vals (xs ++ ys) (us ++ ws)
  | _, _, _, _, .nil, s => s
  | _, _, _, _, .cons r t, s => .cons r (Vals.append t s)
theorem Vals.take : ∀ {xs : List V} {us : List Value} (n : Nat), Vals xs us → Vals (xs.take n) (us.take n)
  | _, _, 0, _ => .nil
  | _, _, _ + 1, .nil => .nil
  | _, _, n + 1, .cons r t => .cons r (Vals.take n t)
theorem Vals.drop : ∀ {xs : List V} {us : List Value} (n : Nat), Vals xs us → Vals (xs.drop n) (us.drop n)
  | _, _, 0, r => r
  | _, _, _ + 1, .nil => .nil
  | _, _, n + 1, .cons _ t => Vals.drop n t
def RelO : Option V → Option Value → Prop
  | some v, some u => RelV v u
  | none, none => True
  | _, _ => False
def KV {κ : Type} : List (κ × V) → List (κ × Value) → Prop := Paired fun (p : κ × V) (q : κ × Value) => p.1 = q.1 ∧ RelV p.2 q.2
def kV : Key → V
  | .inl i => .int i
  | .inr x => .str x
inductive HO where
  | lst (xs : List V)
  | tup (xs : List V)
  | dK (kvs : List (Key × V)) | dT (kvs : List (List Key × V))
  | set (S : Int → Bool) (n : Nat)
  | ins (C dx : Addr) (fs : List (Str × V))
  | own (x : Addr)
  | xd (fs : List (Str × V))
  | met (f x : Addr)
  | rng (lo hi : Int)
  | frz (o : Obj) (u : HO)
  | tbl (ps : Array Value)
  | ext (φ : Heap → Prop)
abbrev Hp := Addr → Option HO
def upd (H : Hp) (a : Addr) (o : HO) : Hp := fun b => if b = a then some o else H b
theorem upd_same {H : Hp} {a : Addr} {o : HO} : upd H a o a = some o := by unfold upd; rw [if_pos rfl]
theorem upd_ne {H : Hp} {a b : Addr} {o : HO} (h : b ≠ a) : upd H a o b = H b := by unfold upd; rw [if_neg h]
theorem ne_of {H : Hp} {a b : Addr} {o u : HO} (h : H a = some o) (h' : H b = some u) (d : o ≠ u) : a ≠ b := by
  intro e; subst e; rw [h] at h'; exact d (Option.some.inj h')
theorem ne_of_none {H : Hp} {a b : Addr} {o : HO} (h : H a = some o) (h' : H b = none) : a ≠ b := by
  intro e; subst e; rw [h] at h'; cases h'
section
variable (P : Program) (w : World)
def ObjOk (H : Hp) (h : Heap) (a : Addr) : HO → Prop
  | .lst xs => xs.length ≤ sizeLine ∧ ∃ (its : List Value) (n : Nat), Vals xs its ∧ h.get? a = some { cls := .type "list", data := .seq its.toArray n }
  | .tup xs => xs.length ≤ sizeLine ∧ ∃ its : List Value, Vals xs its ∧ IsTup h a its.toArray
  | .dK kvs => kvs.length ≤ sizeLine ∧ (a == sysModules) = false ∧ ∃ vs, KV kvs vs ∧ h.DictOf (mixKind P w) a vs
  | .dT kvs => kvs.length ≤ sizeLine ∧ (a == sysModules) = false ∧ ∃ xs : List (List Key × Addr × Value),
      Paired (fun (p : List Key × V) (q : List Key × Addr × Value) => p.1 = q.1 ∧ H q.2.1 = some (.tup (p.1.map kV)) ∧ RelV p.2 q.2.2) kvs xs ∧
      ∃ o es ep, h.get? a = some o ∧ o.ExactDict ∧ o.data = .dict es ep ∧ es.toList = xs.map (entryOfKey (tupleKind (mixKind P w))) ∧ (xs.map (·.1)).Nodup
  | .set S n => h.SetOf (intKind P w) a S n
  | .ins C dx fs => H dx = some (.own a) ∧ fs.length ≤ 1000 ∧ dx ≠ a ∧ h.get? a = some (PySem.W.instObj C dx) ∧
      ∃ mA, h.Ns1 dx mA ∧ (∀ f, RelO (fs.lookup f) (mA f)) ∧ PySem.Within mA (fs.map (·.1))
  | .own _ => ∃ o, h.get? a = some o
  | .xd fs => ∃ mA, h.Ns1 a mA ∧ ∀ f, RelO (fs.lookup f) (mA f)
  | .rng lo hi => ∃ t u v, h.get? a = some { cls := .type "range", data := .fields #[.int lo t, .int hi u, .int 1 v] }
  | .frz o u => h.get? a = some o ∧ ObjOk H h a u
  | .tbl ps => h.get? a = some { cls := .none, data := .fields ps }
  | .met f x => h.get? a = some (PySem.W.methodObj (.ref f) (.ref x))
  | .ext φ => φ h ∧ (∃ o, h.get? a = some o) ∧ ∀ h1 h2 : Heap, φ h1 → (∀ o, h1.get? a = some o → h2.get? a = some o) → φ h2
def HOk (H : Hp) (h : Heap) : Prop := ∀ a o, H a = some o → ObjOk P w H h a o
end
section
variable {P : Program} {w : World} {H H' : Hp} {h h' : Heap} {a : Addr} {o : HO}
theorem ObjOk.lt (x : ObjOk P w H h a o) : a < h.objs.size := by
  cases o with
  | lst xs => obtain ⟨_, _, _, _, e⟩ := x; exact Heap.lt_size e
  | tup xs => obtain ⟨_, _, _, p⟩ := x; exact p.lt
  | dK kvs => obtain ⟨_, _, _, _, o, _, _, e, _⟩ := x; exact Heap.lt_size e
  | dT kvs => obtain ⟨_, _, _, _, o, _, _, e, _⟩ := x; exact Heap.lt_size e
  | set S n => obtain ⟨o, _, _, _, e, _⟩ := x; exact Heap.lt_size e
  | ins C dx fs => obtain ⟨_, _, _, e, _⟩ := x; exact Heap.lt_size e
  | own y => obtain ⟨_, e⟩ := x; exact Heap.lt_size e
  | xd fs => obtain ⟨_, ⟨_, _, _, e, _⟩, _⟩ := x; exact Heap.lt_size e
  | rng lo hi => obtain ⟨_, _, _, e⟩ := x; exact Heap.lt_size e
  | frz ob u => obtain ⟨e, _⟩ := x; exact Heap.lt_size e
  | tbl ps => exact Heap.lt_size (show h.get? a = some _ from x)
  | met f y => exact Heap.lt_size (show h.get? a = some _ from x)
  | ext φ => obtain ⟨_, ⟨_, e⟩, _⟩ := x; exact Heap.lt_size e
theorem Paired.mapP {α β : Type} {F G : α → β → Prop} : ∀ {l₁ : List α} {l₂ : List β}, Paired F l₁ l₂ → (∀ a b, F a b → G a b) → Paired G l₁ l₂
  | _, _, .nil, _ => .nil
  | _, _, .cons r t, f => .cons (f _ _ r) (Paired.mapP t f)
theorem ObjOk.stay (x : ObjOk P w H h a o) (k : ∀ b u, (b = a ∨ H b = some (.own a)) → h.get? b = some u → h'.get? b = some u)
    (ho : ∀ b, H b = some (.own a) → H' b = some (.own a)) (ht : ∀ b xs, H b = some (.tup xs) → H' b = some (.tup xs)) : ObjOk P w H' h' a o := by
  induction o with
  | lst xs => obtain ⟨z, its, n, r, e⟩ := x; exact ⟨z, its, n, r, k _ _ (.inl rfl) e⟩
  | tup xs => obtain ⟨z, its, r, ob, e, c⟩ := x; exact ⟨z, its, r, ob, k _ _ (.inl rfl) e, c⟩
  | dK kvs => obtain ⟨z, y, vs, r, ob, es, ep, e, c⟩ := x; exact ⟨z, y, vs, r, ob, es, ep, k _ _ (.inl rfl) e, c⟩
  | dT kvs =>
    obtain ⟨z, y, xs, r, ob, es, ep, e, c⟩ := x
    exact ⟨z, y, xs, Paired.mapP r fun p q z => ⟨z.1, ht _ _ z.2.1, z.2.2⟩, ob, es, ep, k _ _ (.inl rfl) e, c⟩
  | set S n => obtain ⟨ob, es, ep, t, e, c⟩ := x; exact ⟨ob, es, ep, t, k _ _ (.inl rfl) e, c⟩
  | ins C dx fs =>
    obtain ⟨d, z, ne, e, mA, ⟨od, es, ep, e2, c⟩, r⟩ := x
    exact ⟨ho _ d, z, ne, k _ _ (.inl rfl) e, mA, ⟨od, es, ep, k _ _ (.inr d) e2, c⟩, r⟩
  | own y => obtain ⟨ob, e⟩ := x; exact ⟨ob, k _ _ (.inl rfl) e⟩
  | xd fs => obtain ⟨mA, ⟨od, es, ep, e, c⟩, r⟩ := x; exact ⟨mA, ⟨od, es, ep, k _ _ (.inl rfl) e, c⟩, r⟩
  | rng lo hi => obtain ⟨t, u, v, e⟩ := x; exact ⟨t, u, v, k _ _ (.inl rfl) e⟩
  | frz ob u ih => obtain ⟨e, q⟩ := x; exact ⟨k _ _ (.inl rfl) e, ih q⟩
  | tbl ps =>
    have e : h.get? a = some { cls := .none, data := .fields ps } := x
    show h'.get? a = some { cls := .none, data := .fields ps }
    exact k a _ (.inl rfl) e
  | met f y =>
    have e : h.get? a = some (PySem.W.methodObj (.ref f) (.ref y)) := x
    show h'.get? a = some (PySem.W.methodObj (.ref f) (.ref y))
    exact k a _ (.inl rfl) e
  | ext φ => obtain ⟨p, ⟨o, e⟩, st⟩ := x; exact ⟨st _ _ p fun o q => k _ _ (.inl rfl) q, ⟨o, k _ _ (.inl rfl) e⟩, st⟩
theorem HOk.lt (x : HOk P w H h) (e : H a = some o) : a < h.objs.size := (x a o e).lt
theorem HOk.fresh (x : HOk P w H h) (e : h.objs.size ≤ a) : H a = none := by
  cases q : H a with
  | none => rfl
  | some u => exact absurd (Nat.lt_of_lt_of_le (x.lt q) e) (Nat.lt_irrefl _)
theorem HOk.kept (x : HOk P w H h) (k : ∀ b u, h.get? b = some u → h'.get? b = some u) : HOk P w H h' := fun a o e =>
  (x a o e).stay (fun b u _ q => k b u q) (fun _ q => q) fun _ _ q => q
theorem HOk.laid (x : HOk P w H h) (k : ∀ b u, h.get? b = some u → h'.get? b = some u) (hp : h.objs.size ≤ a) (new : ObjOk P w (upd H a o) h' a o) : HOk P w (upd H a o) h' := fun b u e => by
  have hn := x.fresh hp
  by_cases hb : b = a
  · subst hb; rw [upd_same] at e; cases e; exact new
  · rw [upd_ne hb] at e
    exact (x b u e).stay (fun c v _ q => k c v q) (fun c q => by rw [upd_ne (ne_of_none q hn)]; exact q) fun c xs q => by rw [upd_ne (ne_of_none q hn)]; exact q
end
def Rd (H : Hp) (a : Addr) (u : HO) : Prop := H a = some u ∨ ∃ o, H a = some (.frz o u)
theorem Rd.of {H : Hp} {a : Addr} {u : HO} (h : H a = some u) : Rd H a u := .inl h
theorem Rd.ok {P : Program} {w : World} {H : Hp} {h : Heap} {a : Addr} {u : HO} (r : Rd H a u) (x : HOk P w H h) : ObjOk P w H h a u := by
  rcases r with r | ⟨o, r⟩
  · exact x a u r
  · obtain ⟨_, q⟩ := x a _ r
    exact q
def Mut : Option HO → Prop
  | some (.lst _) => True
  | some (.dK _) => True
  | some (.dT _) => True
  | some (.set _ _) => True
  | some (.ins _ _ _) => True
  | some (.ext _) => True
  | _ => False
section
variable {P : Program} {w : World} {H : Hp} {h h' : Heap} {x e : Addr} {o' : HO}
theorem HOk.write (ok : HOk P w H h) (mu : Mut (H x)) (he : e = x ∨ H e = some (.own x)) (k : ∀ b u, b ≠ e → h.get? b = some u → h'.get? b = some u) (heo : ∃ u, h'.get? e = some u)
    (new : ObjOk P w (upd H x o') h' x o') : HOk P w (upd H x o') h' := fun b u q => by
  have nown : ∀ c y, H c = some (.own y) → c ≠ x := fun c y r z => by subst z; rw [r] at mu; exact mu
  have ntup : ∀ c xs, H c = some (.tup xs) → c ≠ x := fun c xs r z => by subst z; rw [r] at mu; exact mu
  by_cases hb : b = x
  · subst hb; rw [upd_same] at q; cases q; exact new
  · rw [upd_ne hb] at q
    by_cases hbe : b = e
    · have q' : H b = some (.own x) := by
        rcases he with z | z
        · exact absurd (hbe.trans z) hb
        · rw [hbe]; exact z
      rw [q] at q'; cases q'
      obtain ⟨v, hv⟩ := heo
      exact ⟨v, by rw [hbe]; exact hv⟩
    · refine (ok b u q).stay (fun c v hc r => k c v ?_ r) (fun c r => by rw [upd_ne (nown c b r)]; exact r) fun c xs r => by rw [upd_ne (ntup c xs r)]; exact r
      rcases hc with rfl | hc
      · exact hbe
      · rintro rfl
        rcases he with z | z
        · exact nown c b hc z
        · rw [hc] at z; cases z; exact hb rfl
end
structure Un (fs ex : List Addr) (H H' : Hp) (h h' : Heap) : Prop where
  keep : ∀ b o, h.get? b = some o → H b = none → b ∉ fs → b ∉ ex → h'.get? b = some o
  slot : ∀ b o, h.get? b = some o → H b = none → b ∈ fs → b ∉ ex → ∃ sl, h'.get? b = some { o with slots := sl }
  free : ∀ b o, h.get? b = some o → H b = none → b ∉ ex → H' b = none
  there : ∀ b o, h.get? b = some o → b ∉ ex → ∃ o', h'.get? b = some o'
  tups : ∀ b xs, H b = some (.tup xs) → H' b = some (.tup xs)
  frzs : ∀ b o u, H b = some (.frz o u) → H' b = some (.frz o u)
  tbls : ∀ b ps, H b = some (.tbl ps) → ∃ more, H' b = some (.tbl (ps ++ more))
section
variable {fs fs' ex ex' : List Addr} {H H1 H2 : Hp} {h h1 h2 h' : Heap} {a x e : Addr} {o : HO}
theorem Un.any (u : Un fs ex H H1 h h1) {b : Addr} {ob : Obj} (q : h.get? b = some ob) (n : H b = none) (hx : b ∉ ex) : ∃ sl, h1.get? b = some { ob with slots := sl } := by
  by_cases hb : b ∈ fs
  · exact u.slot b ob q n hb hx
  · exact ⟨ob.slots, u.keep b ob q n hb hx⟩
theorem Un.trans (a : Un fs ex H H1 h h1) (b : Un fs ex H1 H2 h1 h2) : Un fs ex H H2 h h2 where
  keep := fun c ob q n hc hx => b.keep c ob (a.keep c ob q n hc hx) (a.free c ob q n hx) hc hx
  slot := fun c ob q n hc hx => by
    obtain ⟨sl, e1⟩ := a.slot c ob q n hc hx
    obtain ⟨sl', e2⟩ := b.slot c _ e1 (a.free c ob q n hx) hc hx
    exact ⟨sl', e2⟩
  free := fun c ob q n hx => by
    obtain ⟨o', e1⟩ := a.there c ob q hx
    exact b.free c o' e1 (a.free c ob q n hx) hx
  there := fun c ob q hx => by
    obtain ⟨o', e1⟩ := a.there c ob q hx
    exact b.there c o' e1 hx
  tups := fun c xs q => b.tups c xs (a.tups c xs q)
  frzs := fun c ob xs q => b.frzs c ob xs (a.frzs c ob xs q)
  tbls := fun c ps q => by
    obtain ⟨m1, e1⟩ := a.tbls c ps q
    obtain ⟨m2, e2⟩ := b.tbls c _ e1
    exact ⟨m1 ++ m2, by rw [e2, Array.append_assoc]⟩
theorem Un.kept (k : ∀ b u, h.get? b = some u → h'.get? b = some u) : Un fs ex H H h h' :=
  ⟨fun b ob q _ _ _ => k b ob q, fun b ob q _ _ _ => ⟨ob.slots, k b ob q⟩, fun _ _ _ n _ => n, fun b ob q _ => ⟨ob, k b ob q⟩, fun _ _ q => q, fun _ _ _ q => q, fun _ ps q => ⟨#[], by rw [q]; simp⟩⟩
theorem Un.refl : Un fs ex H H h h := Un.kept fun _ _ q => q
theorem Un.laid (k : ∀ b u, h.get? b = some u → h'.get? b = some u) (hp : h.objs.size ≤ a) (hn : H a = none) : Un fs ex H (upd H a o) h h' where
  keep := fun b u q _ _ _ => k b u q
  slot := fun b u q _ _ _ => ⟨u.slots, k b u q⟩
  free := fun b u q n _ => by rw [upd_ne (Nat.ne_of_lt (Nat.lt_of_lt_of_le (Heap.lt_size q) hp))]; exact n
  there := fun b u q _ => ⟨u, k b u q⟩
  tups := fun b xs q => by rw [upd_ne (ne_of_none q hn)]; exact q
  frzs := fun b u xs q => by rw [upd_ne (ne_of_none q hn)]; exact q
  tbls := fun b ps q => ⟨#[], by rw [upd_ne (ne_of_none q hn), q]; simp⟩
theorem Un.write (mu : Mut (H x)) (he : e = x ∨ H e = some (.own x)) (k : ∀ b u, b ≠ e → h.get? b = some u → h'.get? b = some u) (heo : ∃ u, h'.get? e = some u) : Un fs ex H (upd H x o) h h' := by
  have hx : ∀ b, H b = none → b ≠ x := fun b n z => by subst z; rw [n] at mu; exact mu
  have hb : ∀ b, H b = none → b ≠ e := fun b n z => by
    subst z
    rcases he with r | r
    · exact hx b n r
    · rw [n] at r; cases r
  have hm : ∀ b u, H b = some u → ¬ Mut (some u) → b ≠ x := fun b u q nm z => by subst z; rw [q] at mu; exact nm mu
  refine ⟨fun b u q n _ _ => k b u (hb b n) q, fun b u q n _ _ => ⟨u.slots, k b u (hb b n) q⟩, fun b u q n _ => by rw [upd_ne (hx b n)]; exact n, fun b u q _ => ?_,
    fun b xs q => by rw [upd_ne (hm b _ q fun z => z)]; exact q, fun b u xs q => by rw [upd_ne (hm b _ q fun z => z)]; exact q, fun b ps q => ⟨#[], by rw [upd_ne (hm b _ q fun z => z), q]; simp⟩⟩
  by_cases hbe : b = e
  · subst hbe; exact heo
  · exact ⟨u, k b u hbe q⟩
theorem Un.mono (u : Un fs ex H H1 h h1) (hs : ∀ b ∈ fs, b ∈ fs') (hx : ∀ b ∈ ex, b ∈ ex') : Un fs' ex' H H1 h h1 :=
  ⟨fun b ob q n hb he => u.keep b ob q n (fun z => hb (hs b z)) fun z => he (hx b z), fun _ _ q n _ he => u.any q n fun z => he (hx _ z), fun b ob q n he => u.free b ob q n fun z => he (hx b z), fun b ob q he => u.there b ob q fun z => he (hx b z), u.tups, u.frzs, u.tbls⟩
end
def trk (h : Heap) (H : Hp) : List Addr := (List.range h.objs.size).filter fun a => (H a).isSome
def hidT (h : Heap) (H : Hp) : Heap := PySem.W.hideAll h (trk h H)
theorem hidT_size (h : Heap) (H : Hp) : (hidT h H).objs.size = h.objs.size := PySem.W.hideAll_size _ _
theorem hidT_get {h : Heap} {H : Hp} {b : Addr} {o : Obj} (e : h.get? b = some o) (n : H b = none) : (hidT h H).get? b = some o :=
  PySem.W.hideAll_get _ e fun hm => by
    have q : (H b).isSome = true := (List.mem_filter.mp hm).2
    rw [n] at q; simp at q
theorem of_hidT {h : Heap} {H : Hp} {b : Addr} {o : Obj} (e : (hidT h H).get? b = some o) : h.get? b = some o ∧ H b = none := by
  have e' : h.get? b = some o := PySem.W.of_hideAll (trk h H) e
  refine ⟨e', ?_⟩
  cases q : H b with
  | none => rfl
  | some x =>
    have hm : b ∈ trk h H := List.mem_filter.mpr ⟨List.mem_range.mpr (Heap.lt_size e'), by simp [q]⟩
    have z : (hidT h H).get? b = none := PySem.W.hideAll_none (trk h H) hm
    rw [z] at e; cases e
def allNews (g h : Heap) (L : Addr) : List (Addr × Obj) := (List.range h.objs.size).filterMap fun a => if a = L ∨ (g.get? a).isSome = true then none else (h.get? a).map fun o => (a, o)
def rest (g h : Heap) (L d : Addr) : List (Addr × Obj) := (allNews g h L).filter fun p => decide (p.1 ≠ d)
end L2
namespace L2
open PySem PySem.Spec PyProof.Rows
structure Mod (K : PySem.W.Frag) (mg : Str → Option Value) (base : Heap) : Prop where
  kin : K.In base
  glob : base.Ns mainGlobals mg
  blt : ∃ mb, base.Ns builtinsNs mb ∧ ∀ x : Str, x ≠ "__name__" → mb x = bootBuiltins x
  nolimit : base.NoLimit
  nodig : base.NoDigits
  bm : ∃ bm ob, mg "__builtins__" = some (.ref bm) ∧ bm ≠ builtinsNs ∧ base.get? bm = some ob ∧ ob.cls = .type "module" ∧ ob.dict = some builtinsNs ∧ ob.data = .plain
structure Cx where
  prog : Program
  w : World
  K : PySem.W.Frag
  mg : Str → Option Value
  base : Heap
  A : Around
  N : List Str
  s₀ : Shared
  H₀ : Hp
  env : Env
  outer : List Env
  stack : List Env
  ex : List Addr
  fn : Str → Bool
  calm : Bool
  pn : List (Addr × Obj)
  xe : Value → Shared → Prop
def frs (l : List Env) : List Addr := l.filterMap (·.frame)
abbrev Cx.fs (X : Cx) : List Addr := frs X.outer
def Vis (sc : Scope) (x : Str) : Prop := sc.names.lookup x = some .local ∨ sc.names.lookup x = some .cell ∨ sc.names.lookup x = some .free
def Loc (sc : Scope) (x : Str) : Prop := sc.names.lookup x = some .local ∨ sc.names.lookup x = some .cell
def Look (env : Env) (h : Heap) (m : Str → Option Value) (x : Str) (u : Value) : Prop :=
  (env.kindOf x = some .local ∧ m x = some u) ∨ ((env.kindOf x = some .cell ∨ env.kindOf x = some .free) ∧ ∃ c, env.cells.lookup x = some c ∧ h.IsCell c (some u))
structure Cx.Ok (X : Cx) : Prop where
  mod : Mod X.K X.mg X.base
  kind : X.env.scope.kind = .function
  glob : X.env.globals = mainGlobals
  blt : X.env.builtins = builtinsNs
  above : X.s₀.heap.objs.size ≤ X.env.locals
  inj : ∀ x y c, X.env.cells.lookup x = some c → X.env.cells.lookup y = some c → x = y
  has : ∀ x, (X.env.kindOf x = some .cell ∨ X.env.kindOf x = some .free) → ∃ c, X.env.cells.lookup x = some c
  cab : ∀ x c, X.fn x = true → X.env.cells.lookup x = some c → X.s₀.heap.objs.size ≤ c
  hd : X.calm = true → X.A.handled = none
  frames : X.A.frames = some X.stack
  stk : X.stack = X.outer ∨ (X.stack = X.env :: X.outer ∧ X.env.frame = some X.env.locals)
  exf : ∀ b ∈ X.ex, b ≠ X.env.locals ∧ ∀ x c, X.env.cells.lookup x = some c → c ≠ b
  bs : ∀ b o, X.base.get? b = some o → X.s₀.heap.get? b = some o ∧ X.H₀ b = none
  bsz : X.base.objs.size ≤ X.s₀.heap.objs.size
  noex : ∀ b o, X.base.get? b = some o → b ∉ X.ex
  exfs : ∀ b ∈ X.ex, b ∉ X.fs
  funs : X.s₀.heap.FunFrames X.base X.outer
  frf : ∀ b ∈ X.fs, X.H₀ b = none
structure Inv (X : Cx) (pins : List (Addr × Obj)) (σ : List (Option V)) (H : Hp) (s : Shared) : Prop where
  ok : X.Ok
  os : s.os = X.s₀.os
  bare : AllBare s.gens
  base : Un X.fs X.ex X.H₀ H X.s₀.heap s.heap
  loc : ∃ m, s.heap.Ns X.env.locals m ∧ ∀ (i : Nat) (x : Str) (v : V), X.N[i]? = some x → σ[i]? = some (some v) → Vis X.env.scope x → ∃ u, RelV v u ∧ Look X.env s.heap m x u
  cell : ∀ x c, X.env.cells.lookup x = some c → ∃ v, s.heap.IsCell c v
  free : H X.env.locals = none
  freeC : ∀ x c, X.env.cells.lookup x = some c → H c = none
  pin : ∀ p ∈ X.pn ++ pins, s.heap.get? p.1 = some p.2 ∧ H p.1 = none ∧ p.1 ≠ X.env.locals ∧ p.1 ∉ X.fs ∧ ∀ v, p.2.data ≠ .cell v
  hok : HOk X.prog X.w H s.heap
  len : σ.length = X.N.length
section
variable {X : Cx} {pins : List (Addr × Obj)} {σ : List (Option V)} {H H' : Hp} {s : Shared} {h' : Heap}
theorem Cx.Ok.nofr (ok : X.Ok) {b : Addr} {o : Obj} (e : X.base.get? b = some o) : b ∉ X.fs := fun hb => by
  have := (ok.funs.mem hb).1
  rw [e] at this; cases this
theorem Inv.bs (I : Inv X pins σ H s) : ∀ b o, X.base.get? b = some o → s.heap.get? b = some o ∧ H b = none := fun b o e =>
  ⟨I.base.keep b o (I.ok.bs b o e).1 (I.ok.bs b o e).2 (I.ok.nofr e) (I.ok.noex b o e), I.base.free b o (I.ok.bs b o e).1 (I.ok.bs b o e).2 (I.ok.noex b o e)⟩
theorem Inv.bk (I : Inv X pins σ H s) : ∀ b o, X.base.get? b = some o → s.heap.get? b = some o := fun b o e => (I.bs b o e).1
theorem Inv.mod (I : Inv X pins σ H s) : Mod X.K X.mg X.base := I.ok.mod
theorem Inv.kIn (I : Inv X pins σ H s) : X.K.In s.heap := I.ok.mod.kin.keeps I.bk
theorem Inv.nolimit (I : Inv X pins σ H s) : s.heap.NoLimit := I.ok.mod.nolimit.keeps I.bk
theorem Inv.fr (I : Inv X pins σ H s) : ∃ m, Fr X.base X.env.locals s.heap m :=
  let ⟨m, hn, _⟩ := I.loc
  ⟨m, hn, I.bk, Nat.le_trans I.ok.bsz I.ok.above⟩
theorem Inv.lt (I : Inv X pins σ H s) : X.env.locals < s.heap.objs.size := let ⟨_, hn, _⟩ := I.loc; hn.lt
theorem Inv.sz (I : Inv X pins σ H s) : X.s₀.heap.objs.size ≤ s.heap.objs.size := Nat.le_trans I.ok.above (Nat.le_of_lt I.lt)
theorem Inv.nofs (I : Inv X pins σ H s) {a : Addr} (h : s.heap.objs.size ≤ a) : a ∉ X.fs := fun hb => by
  obtain ⟨_, o, ho, _⟩ := I.ok.funs.mem hb
  exact absurd (Nat.lt_of_lt_of_le (Heap.lt_size ho) (Nat.le_trans I.sz h)) (Nat.lt_irrefl _)
theorem Inv.cne (I : Inv X pins σ H s) : ∀ x c, X.env.cells.lookup x = some c → c ≠ X.env.locals := fun x c e z => by
  obtain ⟨v, o, ho, hd⟩ := I.cell x c e
  obtain ⟨m, ⟨o', es, ep, ho', hd', _⟩, _⟩ := I.loc
  rw [z, ho'] at ho; cases ho; rw [hd'] at hd; cases hd
theorem Inv.funs (I : Inv X pins σ H s) : s.heap.FunFrames X.base X.outer := by
  have all : ∀ (l : List Env), (∀ b ∈ frs l, b ∈ X.fs) → X.s₀.heap.FunFrames X.base l → s.heap.FunFrames X.base l := by
    intro l
    induction l with
    | nil => intro _ _; trivial
    | cons env r ih =>
      intro hs hl
      obtain ⟨hk, ⟨L, o, hf, hn, ho, hd⟩, hr⟩ := hl
      have hL : L ∈ X.fs := hs L (by unfold frs; rw [List.filterMap_cons, hf]; exact List.mem_cons_self)
      obtain ⟨sl, e⟩ := I.base.slot L o ho (I.ok.frf L hL) hL fun z => I.ok.exfs L z hL
      exact ⟨hk, ⟨L, _, hf, hn, e, hd⟩, ih (fun b hb => hs b (by unfold frs; rw [List.filterMap_cons, hf]; exact List.mem_cons_of_mem _ hb)) hr⟩
  exact all X.outer (fun _ hb => hb) I.ok.funs
theorem Inv.stack (I : Inv X pins σ H s) : s.heap.FunFrames X.base X.stack := by
  rcases I.ok.stk with e | ⟨e, hf⟩
  · rw [e]; exact I.funs
  · rw [e]
    obtain ⟨m, hn, _⟩ := I.loc
    refine .cons (by rw [I.ok.kind]; decide) hf hn ?_ I.funs
    exact Heap.get?_none_of_le (Nat.le_trans I.ok.bsz I.ok.above)
theorem Inv.stkSub (I : Inv X pins σ H s) : ∀ b ∈ frs X.stack, b ∈ X.env.locals :: X.fs := fun b hb => by
  rcases I.ok.stk with e | ⟨e, hf⟩
  · rw [e] at hb; exact List.mem_cons_of_mem _ hb
  · rw [e] at hb
    unfold frs at hb
    rw [List.filterMap_cons, hf] at hb
    exact hb
theorem Inv.stkFree (I : Inv X pins σ H s) : ∀ b ∈ frs X.stack, H b = none := fun b hb => by
  rcases List.mem_cons.mp (I.stkSub b hb) with e | hb
  · rw [e]; exact I.free
  · obtain ⟨_, o, ho, _⟩ := I.ok.funs.mem hb
    exact I.base.free b o ho (I.ok.frf b hb) fun z => I.ok.exfs b z hb
theorem Inv.step {g' : Array GenState} {t' : Nat} {d' : Drawn} {ch : List Addr} (I : Inv X pins σ H s)
    (hch : ∀ b ∈ ch, (b ∈ X.ex ∨ X.s₀.heap.objs.size ≤ b) ∧ b ≠ X.env.locals ∧ (∀ x c, X.env.cells.lookup x = some c → c ≠ b) ∧ ∀ p ∈ X.pn ++ pins, p.1 ≠ b)
    (keep : ∀ b o, b ≠ X.env.locals → b ∉ X.fs → b ∉ ch → s.heap.get? b = some o → H b = none → h'.get? b = some o)
    (slot : ∀ b o, b ≠ X.env.locals → b ∈ X.fs → b ∉ ch → s.heap.get? b = some o → H b = none → ∃ sl, h'.get? b = some { o with slots := sl }) (free : ∀ b o, b ∉ ch → s.heap.get? b = some o → H b = none → H' b = none)
    (there : ∀ b o, b ∉ ch → s.heap.get? b = some o → ∃ o', h'.get? b = some o')
    (tups : ∀ b xs, H b = some (.tup xs) → H' b = some (.tup xs)) (frzs : ∀ b o u, H b = some (.frz o u) → H' b = some (.frz o u)) (tbls : ∀ b ps, H b = some (.tbl ps) → ∃ more, H' b = some (.tbl (ps ++ more)))
    (ns : ∀ m, s.heap.Ns X.env.locals m → h'.Ns X.env.locals m) (hok : HOk X.prog X.w H' h') (hg : AllBare g') :
    Inv X pins σ H' { s with heap := h', gens := g', drawn := d', toks := t' } := by
  have neL : ∀ b o, X.s₀.heap.get? b = some o → b ≠ X.env.locals := fun b o e => Nat.ne_of_lt (Nat.lt_of_lt_of_le (Heap.lt_size e) I.ok.above)
  have neC : ∀ b o, X.s₀.heap.get? b = some o → b ∉ X.ex → b ∉ ch := fun b o e hx hb => by
    rcases (hch b hb).1 with z | z
    · exact hx z
    · exact absurd (Nat.lt_of_lt_of_le (Heap.lt_size e) z) (Nat.lt_irrefl _)
  have cellK : ∀ x c, X.env.cells.lookup x = some c → ∀ v, s.heap.IsCell c v → h'.IsCell c v := fun x c e v ⟨o, ho, hd⟩ => by
    have nch : c ∉ ch := fun z => (hch c z).2.2.1 x c e rfl
    by_cases hc : c ∈ X.fs
    · obtain ⟨sl, q⟩ := slot c o (I.cne x c e) hc nch ho (I.freeC x c e)
      exact ⟨_, q, hd⟩
    · exact ⟨o, keep c o (I.cne x c e) hc nch ho (I.freeC x c e), hd⟩
  refine ⟨I.ok, I.os, hg, ⟨fun b o e n hb hx => ?_, fun b o e n hb hx => ?_, fun b o e n hx => ?_, fun b o e hx => ?_, fun b xs e => tups b xs (I.base.tups b xs e), fun b o xs e => frzs b o xs (I.base.frzs b o xs e), fun b ps e => ?_⟩, ?_, fun x c e => ?_, ?_, fun x c e => ?_, fun p hp => ?_, hok, I.len⟩
  · exact keep b o (neL b o e) hb (neC b o e hx) (I.base.keep b o e n hb hx) (I.base.free b o e n hx)
  · obtain ⟨sl, e1⟩ := I.base.slot b o e n hb hx
    obtain ⟨sl', e2⟩ := slot b _ (neL b o e) hb (neC b o e hx) e1 (I.base.free b o e n hx)
    exact ⟨sl', e2⟩
  · obtain ⟨o', e1⟩ := I.base.there b o e hx
    exact free b o' (neC b o e hx) e1 (I.base.free b o e n hx)
  · obtain ⟨o', e1⟩ := I.base.there b o e hx
    exact there b o' (neC b o e hx) e1
  · obtain ⟨m1, e1⟩ := I.base.tbls b ps e
    obtain ⟨m2, e2⟩ := tbls b _ e1
    exact ⟨m1 ++ m2, by rw [e2, Array.append_assoc]⟩
  · obtain ⟨m, hn, hl⟩ := I.loc
    refine ⟨m, ns m hn, fun i x v e1 e2 e3 => ?_⟩
    obtain ⟨u, r, l⟩ := hl i x v e1 e2 e3
    refine ⟨u, r, ?_⟩
    rcases l with l | ⟨k, c, e, z⟩
    · exact .inl l
    · exact .inr ⟨k, c, e, cellK x c e _ z⟩
  · obtain ⟨v, z⟩ := I.cell x c e
    exact ⟨v, cellK x c e v z⟩
  · obtain ⟨m, ⟨o, _, _, ho, _⟩, _⟩ := I.loc
    exact free _ o (fun z => (hch _ z).2.1 rfl) ho I.free
  · obtain ⟨v, o, ho, hd⟩ := I.cell x c e
    exact free c o (fun z => (hch c z).2.2.1 x c e rfl) ho (I.freeC x c e)
  · obtain ⟨e, n, ne, nf, d⟩ := I.pin p hp
    have nch : p.1 ∉ ch := fun z => (hch p.1 z).2.2.2 p hp rfl
    exact ⟨keep p.1 p.2 ne nf nch e n, free p.1 p.2 nch e n, ne, nf, d⟩
theorem Inv.un {t' : Nat} (I : Inv X pins σ H s) (u : Un X.fs [] H H' s.heap h') (hok : HOk X.prog X.w H' h') : Inv X pins σ H' { s with heap := h', toks := t' } := by
  obtain ⟨m, ⟨o, es, ep, ho, r⟩, _⟩ := id I.loc
  obtain ⟨sl, hL⟩ := u.any ho I.free (by simp)
  exact I.step (g' := s.gens) (d' := s.drawn) (ch := []) (fun _ z => nomatch z) (fun b o _ hb _ e n => u.keep b o e n hb (by simp)) (fun b o _ hb _ e n => u.slot b o e n hb (by simp)) (fun b o _ e n => u.free b o e n (by simp)) (fun b o _ e => u.there b o e (by simp)) u.tups u.frzs u.tbls (fun m' hm => by
    obtain ⟨o', es', ep', ho', r'⟩ := hm
    rw [ho] at ho'; cases ho'
    exact ⟨_, es', ep', hL, r'⟩) hok I.bare
theorem Inv.call {g' : Array GenState} {t' : Nat} {d' : Drawn} {ch : List Addr} (I : Inv X pins σ H s) (u : Un (frs X.stack) ch H H' s.heap h') (hok : HOk X.prog X.w H' h') (hg : AllBare g')
    (hch : ∀ b ∈ ch, (b ∈ X.ex ∨ X.s₀.heap.objs.size ≤ b) ∧ b ≠ X.env.locals ∧ (∀ x c, X.env.cells.lookup x = some c → c ≠ b) ∧ ∀ p ∈ X.pn ++ pins, p.1 ≠ b) :
    Inv X pins σ H' { s with heap := h', gens := g', drawn := d', toks := t' } := by
  obtain ⟨m, ⟨o, es, ep, ho, r⟩, _⟩ := id I.loc
  obtain ⟨sl, hL⟩ := u.any ho I.free fun z => (hch _ z).2.1 rfl
  exact I.step (ch := ch) hch (fun b o hL hb hc e n => u.keep b o e n (fun z => (List.mem_cons.mp (I.stkSub b z)).elim hL hb) hc) (fun b o _ _ hc e n => u.any e n hc) (fun b o hc e n => u.free b o e n hc) (fun b o hc e => u.there b o e hc) u.tups u.frzs u.tbls (fun m' hm => by
    obtain ⟨o', es', ep', ho', r'⟩ := hm
    rw [ho] at ho'; cases ho'
    exact ⟨_, es', ep', hL, r'⟩) hok hg
theorem Inv.turned {t' : Nat} {it : Addr} (I : Inv X pins σ H s) (k : ∀ b o, b ≠ it → s.heap.get? b = some o → h'.get? b = some o) (hn : H it = none) (hL : it ≠ X.env.locals)
    (h1 : it ∈ X.ex ∨ X.s₀.heap.objs.size ≤ it) (h2 : ∀ x c, X.env.cells.lookup x = some c → c ≠ it) (h3 : ∀ p ∈ X.pn ++ pins, p.1 ≠ it) : Inv X pins σ H { s with heap := h', toks := t' } := by
  have nit : ∀ b u, H b = some u → b ≠ it := fun b u e z => by rw [z, hn] at e; cases e
  refine I.step (g' := s.gens) (d' := s.drawn) (ch := [it]) (fun b hb => ?_) (fun b o _ _ hc e _ => k b o (fun z => hc (by simp [z])) e) (fun b o _ _ hc e _ => ⟨o.slots, k b o (fun z => hc (by simp [z])) e⟩) (fun _ _ _ _ n => n)
    (fun b o hc e => ⟨o, k b o (fun z => hc (by simp [z])) e⟩) (fun _ _ e => e) (fun _ _ _ e => e) (fun b ps e => ⟨#[], by rw [e]; simp⟩) (fun m hm => ?_) (fun b u e => ?_) I.bare
  · have e : b = it := by simpa using hb
    subst e
    exact ⟨h1, hL, h2, h3⟩
  · obtain ⟨o, es, ep, ho, r⟩ := hm
    exact ⟨o, es, ep, k _ o (Ne.symm hL) ho, r⟩
  · refine (I.hok b u e).stay (fun c v hc q => k c v ?_ q) (fun _ q => q) fun _ _ q => q
    rcases hc with z | z
    · rw [z]; exact nit b u e
    · exact nit c _ z
theorem Inv.tok (I : Inv X pins σ H s) (t : Nat) : Inv X pins σ H { s with toks := t } := I.un (h' := s.heap) (t' := t) Un.refl I.hok
theorem Inv.kept {t' : Nat} (I : Inv X pins σ H s) (k : ∀ b u, s.heap.get? b = some u → h'.get? b = some u) : Inv X pins σ H { s with heap := h', toks := t' } := I.un (Un.kept k) (I.hok.kept k)
theorem Inv.laid {a : Addr} {o : HO} {t' : Nat} (I : Inv X pins σ H s) (k : ∀ b u, s.heap.get? b = some u → h'.get? b = some u) (hp : s.heap.objs.size ≤ a) (new : ObjOk X.prog X.w (upd H a o) h' a o) :
    Inv X pins σ (upd H a o) { s with heap := h', toks := t' } := I.un (Un.laid k hp (I.hok.fresh hp)) (I.hok.laid k hp new)
theorem Inv.write {x e : Addr} {o : HO} {t' : Nat} (I : Inv X pins σ H s) (mu : Mut (H x)) (he : e = x ∨ H e = some (.own x)) (k : ∀ b u, b ≠ e → s.heap.get? b = some u → h'.get? b = some u) (heo : ∃ u, h'.get? e = some u)
    (new : ObjOk X.prog X.w (upd H x o) h' x o) : Inv X pins σ (upd H x o) { s with heap := h', toks := t' } := I.un (Un.write mu he k heo) (I.hok.write mu he k heo new)
theorem Inv.weak {σ' : List (Option V)} (I : Inv X pins σ H s) (hl : σ'.length = σ.length) (w : ∀ (i : Nat) v, σ'[i]? = some (some v) → σ[i]? = some (some v)) : Inv X pins σ' H s :=
  ⟨I.ok, I.os, I.bare, I.base, let ⟨m, hn, hl'⟩ := I.loc; ⟨m, hn, fun i x v e1 e2 e3 => hl' i x v e1 (w i v e2) e3⟩, I.cell, I.free, I.freeC, I.pin, I.hok, hl.trans I.len⟩
theorem Inv.pins_of {pins' : List (Addr × Obj)} (I : Inv X pins σ H s) (h : ∀ p ∈ pins', s.heap.get? p.1 = some p.2 ∧ H p.1 = none ∧ p.1 ≠ X.env.locals ∧ p.1 ∉ X.fs ∧ ∀ v, p.2.data ≠ .cell v) : Inv X pins' σ H s :=
  ⟨I.ok, I.os, I.bare, I.base, I.loc, I.cell, I.free, I.freeC, fun p hp => (List.mem_append.mp hp).elim (fun z => I.pin p (List.mem_append_left _ z)) (h p), I.hok, I.len⟩
theorem nodup_ix {N : List Str} (hN : N.Nodup) {i j : Nat} {x : Str} (a : N[i]? = some x) (b : N[j]? = some x) : i = j := by
  obtain ⟨h1, e1⟩ := List.getElem?_eq_some_iff.mp a
  obtain ⟨h2, e2⟩ := List.getElem?_eq_some_iff.mp b
  exact (List.getElem_inj hN).mp (e1.trans e2.symm)
theorem store_ok2 {M : Model} {A : Around} {E : Value → Shared → Prop} {i : Nat} {x : Str} {v : V} {u : Value} {Q : Unit → Shared → Prop} (I : Inv X pins σ H s) (hN : X.N.Nodup) (hi : X.N[i]? = some x) (hx : Loc X.env.scope x) (r : RelV v u)
    (h : ∀ s', Inv X pins (σ.set i (some v)) H s' → (∃ a, Heap.SameBut a s.heap s'.heap ∧ (a = X.env.locals ∨ X.env.cells.lookup x = some a)) → Q () s') (hf : X.fn x = true ∨ X.env.scope.names.lookup x = some .local := by first | exact .inl rfl | exact .inr rfl | assumption) : wpAny M A (storeName X.env x u) Q E s := by
  obtain ⟨m, hn, hl⟩ := id I.loc
  have hcls : (X.env.scope.kind == .class || (X.env.scope.kind == .module && X.env.locals != X.env.globals)) = false := by rw [I.ok.kind]; rfl
  have hiσ : i < σ.length := by rw [I.len]; exact (List.getElem?_eq_some_iff.mp hi).1
  have cne := I.cne
  have tracked : ∀ {a : Addr} {h' : Heap}, (∃ o, s.heap.get? a = some o ∧ H a = none) → Heap.SameBut a s.heap h' → HOk X.prog X.w H h' := fun {a h'} ha hs b ob e => by
    obtain ⟨_, _, hfree⟩ := ha
    refine (I.hok b ob e).stay (fun c w' hc q => (hs.2 c ?_).trans q) (fun _ q => q) fun _ _ q => q
    rintro rfl
    rcases hc with rfl | hc
    · rw [hfree] at e; cases e
    · rw [hfree] at hc; cases hc
  rcases hx with hk | hk
  · refine wpAny_storeName_local hk hn (fun h' hn' hs => ?_) hcls
    obtain ⟨oL, _, _, hoL, _⟩ := id hn
    refine h _ ⟨I.ok, I.os, I.bare, ⟨fun b o e n hb hx => ?_, fun b o e n hb hx => ?_, I.base.free, fun b o e hx => ?_, I.base.tups, I.base.frzs, I.base.tbls⟩, ⟨_, hn', fun j y v' e1 e2 e3 => ?_⟩, fun y c e => ?_, I.free, I.freeC, fun p hp => ?_, tracked ⟨oL, hoL, I.free⟩ hs, by simpa using I.len⟩ ⟨_, hs, .inl rfl⟩
    · exact (hs.2 b (Nat.ne_of_lt (Nat.lt_of_lt_of_le (Heap.lt_size e) I.ok.above))).trans (I.base.keep b o e n hb hx)
    · obtain ⟨sl, e1⟩ := I.base.slot b o e n hb hx
      exact ⟨sl, (hs.2 b (Nat.ne_of_lt (Nat.lt_of_lt_of_le (Heap.lt_size e) I.ok.above))).trans e1⟩
    · obtain ⟨o', e1⟩ := I.base.there b o e hx
      exact ⟨o', (hs.2 b (Nat.ne_of_lt (Nat.lt_of_lt_of_le (Heap.lt_size e) I.ok.above))).trans e1⟩
    · by_cases hj : j = i
      · subst hj
        rw [hi] at e1; cases e1
        rw [List.getElem?_set_self hiσ] at e2
        cases e2
        exact ⟨u, r, .inl ⟨hk, by simp⟩⟩
      · rw [List.getElem?_set_ne (Ne.symm hj)] at e2
        obtain ⟨u', r', q⟩ := hl j y v' e1 e2 e3
        refine ⟨u', r', ?_⟩
        rcases q with ⟨k, e⟩ | ⟨k, c, e, z⟩
        · refine .inl ⟨k, ?_⟩
          have : y ≠ x := fun e => hj (nodup_ix hN e1 (e ▸ hi))
          simp [this, e]
        · exact .inr ⟨k, c, e, z.sameBut hs (cne y c e)⟩
    · obtain ⟨w', z⟩ := I.cell y c e
      exact ⟨w', z.sameBut hs (cne y c e)⟩
    · obtain ⟨e, n, ne, nf, d⟩ := I.pin p hp
      exact ⟨(hs.2 p.1 ne).trans e, n, ne, nf, d⟩
  · have hfn : X.fn x = true := by
      rcases hf with z | z
      · exact z
      · rw [z] at hk; cases hk
    obtain ⟨c, hc⟩ := I.ok.has x (.inl hk)
    obtain ⟨w', z⟩ := I.cell x c hc
    refine wpAny_storeName_cell I.ok.kind hk hc z (fun h' hc' hs => ?_)
    obtain ⟨oc, hoc, hocd⟩ := id z
    refine h { s with heap := h' } ⟨I.ok, I.os, I.bare, ⟨fun b o e n hb hx => ?_, fun b o e n hb hx => ?_, I.base.free, fun b o e hx => ?_, I.base.tups, I.base.frzs, I.base.tbls⟩, ⟨m, hn.sameBut hs (Ne.symm (cne x c hc)), fun j y v' e1 e2 e3 => ?_⟩, fun y c' e => ?_, I.free, I.freeC, fun p hp => ?_, tracked ⟨oc, hoc, I.freeC x c hc⟩ hs, by simpa using I.len⟩ ⟨c, hs, .inr hc⟩
    · exact (hs.2 b (Nat.ne_of_lt (Nat.lt_of_lt_of_le (Heap.lt_size e) (I.ok.cab x c hfn hc)))).trans (I.base.keep b o e n hb hx)
    · obtain ⟨sl, e1⟩ := I.base.slot b o e n hb hx
      exact ⟨sl, (hs.2 b (Nat.ne_of_lt (Nat.lt_of_lt_of_le (Heap.lt_size e) (I.ok.cab x c hfn hc)))).trans e1⟩
    · obtain ⟨o', e1⟩ := I.base.there b o e hx
      exact ⟨o', (hs.2 b (Nat.ne_of_lt (Nat.lt_of_lt_of_le (Heap.lt_size e) (I.ok.cab x c hfn hc)))).trans e1⟩
    · by_cases hj : j = i
      · subst hj
        rw [hi] at e1; cases e1
        rw [List.getElem?_set_self hiσ] at e2
        cases e2
        exact ⟨u, r, .inr ⟨.inl hk, c, hc, hc'⟩⟩
      · rw [List.getElem?_set_ne (Ne.symm hj)] at e2
        obtain ⟨u', r', q⟩ := hl j y v' e1 e2 e3
        refine ⟨u', r', ?_⟩
        rcases q with q | ⟨k, c', e, z'⟩
        · exact .inl q
        · refine .inr ⟨k, c', e, z'.sameBut hs ?_⟩
          rintro rfl
          exact hj (nodup_ix hN e1 (I.ok.inj _ _ _ e hc ▸ hi))
    · by_cases hcc : c' = c
      · subst hcc; exact ⟨_, hc'⟩
      · obtain ⟨w2, z2⟩ := I.cell y c' e
        exact ⟨w2, z2.sameBut hs hcc⟩
    · obtain ⟨e, n, ne, nf, d⟩ := I.pin p hp
      refine ⟨(hs.2 p.1 ?_).trans e, n, ne, nf, d⟩
      intro q
      rw [q, hoc] at e
      have q' : oc = p.2 := Option.some.inj e
      exact d w' (by rw [← q']; exact hocd)
theorem store_ok {M : Model} {A : Around} {E : Value → Shared → Prop} {i : Nat} {x : Str} {v : V} {u : Value} {Q : Unit → Shared → Prop} (I : Inv X pins σ H s) (hN : X.N.Nodup) (hi : X.N[i]? = some x) (hx : Loc X.env.scope x) (r : RelV v u)
    (h : ∀ s', Inv X pins (σ.set i (some v)) H s' → Q () s') (hf : X.fn x = true ∨ X.env.scope.names.lookup x = some .local := by first | exact .inl rfl | exact .inr rfl | assumption) : wpAny M A (storeName X.env x u) Q E s :=
  store_ok2 I hN hi hx r (fun s' I' _ => h s' I') hf
theorem Inv.call' {s' : Shared} {ch : List Addr} (I : Inv X pins σ H s) (ho : s'.os = s.os) (u : Un (frs X.stack) ch H H' s.heap s'.heap) (hok : HOk X.prog X.w H' s'.heap) (hg : AllBare s'.gens)
    (hch : ∀ b ∈ ch, (b ∈ X.ex ∨ X.s₀.heap.objs.size ≤ b) ∧ b ≠ X.env.locals ∧ (∀ x c, X.env.cells.lookup x = some c → c ≠ b) ∧ ∀ p ∈ X.pn ++ pins, p.1 ≠ b) : Inv X pins σ H' s' := by
  obtain ⟨h', g', d', t', o'⟩ := s'
  have e : o' = s.os := ho
  subst e
  exact I.call (g' := g') (t' := t') (d' := d') u hok hg hch
end
abbrev XK := Value → Option Addr → Hp → Prop
abbrev St := List (Option V)
abbrev VK := V → Hp → Prop
abbrev TE := St → Hp → VK → Prop
abbrev TT := St → Hp → (Bool → Hp → Prop) → Prop
abbrev TA := St → Hp → (List V → Hp → Prop) → Prop
structure Ends where
  nx : St → Hp → Prop
  rt : VK
  bk : St → Hp → Prop := fun _ _ => False
  ct : St → Hp → Prop := fun _ _ => False
abbrev TS := Ends → St → Hp → Prop
def EP (X : Cx) (pins : List (Addr × Obj)) (σ : St) (Q : VK) (u : Value) (s' : Shared) : Prop := ∃ v H', Inv X pins σ H' s' ∧ RelV v u ∧ Q v H'
def TP (X : Cx) (pins : List (Addr × Obj)) (σ : St) (Q : Bool → Hp → Prop) (b : Bool) (s' : Shared) : Prop := ∃ H', Inv X pins σ H' s' ∧ Q b H'
def AP (X : Cx) (pins : List (Addr × Obj)) (σ : St) (Q : List V → Hp → Prop) (us : List Value) (s' : Shared) : Prop := ∃ vs H', Inv X pins σ H' s' ∧ Vals vs us ∧ Q vs H'
def SP (X : Cx) (pins : List (Addr × Obj)) (D : Ends) (f : Flow) (s' : Shared) : Prop :=
  match f with
  | .next => ∃ σ' H', Inv X pins σ' H' s' ∧ D.nx σ' H'
  | .brk => ∃ σ' H', Inv X pins σ' H' s' ∧ D.bk σ' H'
  | .cont => ∃ σ' H', Inv X pins σ' H' s' ∧ D.ct σ' H'
  | .ret u => ∃ v σ' H', Inv X pins σ' H' s' ∧ RelV v u ∧ D.rt v H'
def PE (X : Cx) (e : Expr) (t : TE) : Prop :=
  ∀ (pins : List (Addr × Obj)) (s : Shared) (σ : St) (H : Hp) (Q : VK), Inv X pins σ H s → t σ H Q → wpAny (model X.prog X.w) X.A (eval e X.env) (EP X pins σ Q) X.xe s
def PT (X : Cx) (e : Expr) (t : TT) : Prop :=
  ∀ (pins : List (Addr × Obj)) (s : Shared) (σ : St) (H : Hp) (Q : Bool → Hp → Prop), Inv X pins σ H s → t σ H Q → wpAny (model X.prog X.w) X.A (isTrue e X.env (eval e X.env)) (TP X pins σ Q) X.xe s
def PW (X : Cx) (e : Expr) (t : TT) : Prop :=
  ∀ (whole : Sem Value) (pins : List (Addr × Obj)) (s : Shared) (σ : St) (H : Hp) (Q : Bool → Hp → Prop), Inv X pins σ H s → t σ H Q → wpAny (model X.prog X.w) X.A (isTrue e X.env whole) (TP X pins σ Q) X.xe s
theorem PW.pt {X : Cx} {e : Expr} {t : TT} (h : PW X e t) : PT X e t := h _
def PA (X : Cx) (es : List Expr) (t : TA) : Prop :=
  ∀ (pos : Pos) (pins : List (Addr × Obj)) (s : Shared) (σ : St) (H : Hp) (Q : List V → Hp → Prop), Inv X pins σ H s → t σ H Q → wpAny (model X.prog X.w) X.A (spliced (backTo pos (starEach es X.env))) (AP X pins σ Q) X.xe s
def PS (X : Cx) (st : Stmt) (t : TS) : Prop :=
  ∀ (pins : List (Addr × Obj)) (s : Shared) (σ : St) (H : Hp) (D : Ends), Inv X pins σ H s → t D σ H → wpAny (model X.prog X.w) X.A (exec st X.env) (SP X pins D) X.xe s
def PSs (X : Cx) (st : List Stmt) (t : TS) : Prop :=
  ∀ (pins : List (Addr × Obj)) (s : Shared) (σ : St) (H : Hp) (D : Ends), Inv X pins σ H s → t D σ H → wpAny (model X.prog X.w) X.A (execs st X.env) (SP X pins D) X.xe s
theorem thn {α : Type} {t : Sem α} {Q Q' : α → Shared → Prop} {M : Model} {A : Around} {E : Value → Shared → Prop} {s : Shared} (h : wpAny M A t Q E s) (hQ : ∀ a s, Q a s → Q' a s) : wpAny M A t Q' E s := wpAny_mono h hQ fun _ _ x => x
end L2
namespace L2
open PySem PySem.Spec PyProof.Rows
section
variable {X : Cx}
inductive tVarS (i : Nat) (σ : St) (H : Hp) (Q : VK) : Prop
  | mk (v : V) (h : σ[i]? = some (some v)) (k : Q v H)
def tVar (i : Nat) : TE := fun σ H Q => tVarS i σ H Q
def tC (v : V) : TE := fun _ H Q => Q v H
theorem pe_var {i : Nat} {x : Str} {pos : Pos} (hN : X.N[i]? = some x) (hv : Vis X.env.scope x) (hd : (x == ("__debug__" : Str)) = false := by decide) (hcd : (x == ("__classdict__" : Str)) = false := by decide) : PE X (.Name x pos) (tVar i) := by
  intro pins s σ H Q I h
  obtain ⟨v, e, h⟩ := h
  obtain ⟨m, hn, hl⟩ := I.loc
  obtain ⟨u, r, l⟩ := hl i x v hN e hv
  have fin : EP X pins σ Q u s := ⟨v, H, I, r, h⟩
  rcases l with ⟨hk, hm⟩ | ⟨hk, c, hc, hcell⟩
  · exact wpAny_Name (wpAny_loadName_local I.ok.kind hk hn hm fin) hd
  · rcases hk with hk | hk
    · exact wpAny_Name (wpAny_loadName_cell I.ok.kind hk hc hcell fin) hd
    · exact wpAny_Name (wpAny_loadName_free I.ok.kind hk hc hcell fin hcd) hd
theorem pe_int {i j pos} : PE X (.Constant (.int i) j pos) (tC (.int i)) := fun _ _ _ H _ I h => wpAny_Constant_int ⟨.int i, H, I.tok _, ⟨_, rfl⟩, h⟩
theorem pe_bl {b j pos} : PE X (.Constant (.bool b) j pos) (tC (.bl b)) := fun _ _ _ H _ I h => Constant_bool ⟨.bl b, H, I, rfl, h⟩
theorem pe_non {j pos} : PE X (.Constant .none j pos) (tC .non) := fun _ _ _ H _ I h => Constant_none ⟨.non, H, I, rfl, h⟩
theorem pe_str {x j pos} : PE X (.Constant (.str x) j pos) (tC (.str x)) := fun _ _ _ H _ I h => Calls.Constant_str ⟨.str x, H, I.tok _, ⟨_, rfl⟩, h⟩
def Gl (X : Cx) (x : Str) : Prop := X.env.kindOf x = some .globalImplicit
theorem ld_glob {E : Value → Shared → Prop} {pins : List (Addr × Obj)} {s : Shared} {σ : St} {H : Hp} {x : Str} {u : Value} {pos : Pos} {Q : Value → Shared → Prop} (I : Inv X pins σ H s) (hg : Gl X x) (hm : X.mg x = some u) (h : Q u s)
    (hd : (x == ("__debug__" : Str)) = false := by decide) : wpAny (model X.prog X.w) X.A (eval (.Name x pos) X.env) Q E s :=
  Calls.Name_function_global I.ok.kind hg (Calls.loadGlobal_global (by rw [I.ok.glob]; exact I.mod.glob.keeps I.bk) hm h) hd
theorem ld_blt {E : Value → Shared → Prop} {pins : List (Addr × Obj)} {s : Shared} {σ : St} {H : Hp} {x : Str} {u : Value} {pos : Pos} {Q : Value → Shared → Prop} (I : Inv X pins σ H s) (hg : Gl X x) (hm : X.mg x = none) (hv : bootBuiltins x = some u) (h : Q u s)
    (hn : x ≠ "__name__" := by decide) (hd : (x == ("__debug__" : Str)) = false := by decide) : wpAny (model X.prog X.w) X.A (eval (.Name x pos) X.env) Q E s := by
  obtain ⟨mb, h1, h2⟩ := I.mod.blt
  exact Calls.Name_function_global I.ok.kind hg (Calls.loadGlobal_builtin (by rw [I.ok.glob]; exact I.mod.glob.keeps I.bk) hm (by rw [I.ok.blt]; exact h1.keeps I.bk) ((h2 x hn).trans hv) h) hd
theorem pe_glob {x : Str} {v : V} {u : Value} {pos : Pos} (hg : Gl X x) (hm : X.mg x = some u) (r : RelV v u) (hd : (x == ("__debug__" : Str)) = false := by decide) : PE X (.Name x pos) (tC v) :=
  fun _ _ _ H _ I h => ld_glob I hg hm ⟨v, H, I, r, h⟩ hd
theorem pe_bltn {x : Str} {v : V} {u : Value} {pos : Pos} (hg : Gl X x) (hm : X.mg x = none) (hv : bootBuiltins x = some u) (r : RelV v u) (hn : x ≠ "__name__" := by decide) (hd : (x == ("__debug__" : Str)) = false := by decide) : PE X (.Name x pos) (tC v) :=
  fun _ _ _ H _ I h => ld_blt I hg hm hv ⟨v, H, I, r, h⟩ hn hd
variable {a b : Expr} {ta tb : TE} {pos : Pos}
inductive tBS (x : V) (H : Hp) (Q : Bool → Hp → Prop) : Prop
  | mk (c : Bool) (h : x = .bl c) (k : Q c H)
def tB (t : TE) : TT := fun σ H Q => t σ H fun x H1 => tBS x H1 Q
theorem pt_val {e : Expr} {t : TE} (h : PE X e t) (he : ∀ whole, isTrue e X.env whole = (do let v ← whole; standAt e.pos; holding [v] (truthy v)) := by intro _; rfl) : PT X e (tB t) := by
  intro pins s σ H Q I hw
  refine isTrue_plain (thn (h pins s σ H _ I hw) fun v s1 hq__ => ?_) (he _)
  obtain ⟨x, H1, I1, r1, q1⟩ := hq__
  obtain ⟨d, rfl, q⟩ := q1
  cases r1
  exact wpAny_truthy_bool ⟨H1, I1, q⟩
variable {tA tB' : TT} {rest : List Expr}
def tOr (t u : TT) : TT := fun σ H Q => t σ H fun c H1 => if c = true then Q true H1 else u σ H1 Q
def tNot (t : TT) : TT := fun σ H Q => t σ H fun c H1 => Q (!c) H1
theorem pw_or1 (ha : PT X a tA) : PW X (.BoolOp .Or [a] pos) tA := by
  intro wh pins s σ H Q I h
  refine isTrue_or (thn (ha pins s σ H Q I h) fun c s1 e => ?_)
  cases c with
  | false => exact isTrue_or_nil e
  | true => exact e
theorem pw_or (ha : PT X a tA) (hb : PW X (.BoolOp .Or (b :: rest) pos) tB') : PW X (.BoolOp .Or (a :: b :: rest) pos) (tOr tA tB') := by
  intro wh pins s σ H Q I h
  refine isTrue_or (thn (ha pins s σ H _ I h) fun c s1 hq__ => ?_)
  obtain ⟨H1, I1, q1⟩ := hq__
  cases c with
  | true => exact ⟨H1, I1, q1⟩
  | false => exact hb wh pins s1 σ H1 Q I1 q1
theorem pt_not (ha : PT X a tA) : PT X (.UnaryOp .Not a pos) (tNot tA) := by
  intro pins s σ H Q I h
  exact isTrue_not (ha pins s σ H (fun c H1 => Q (!c) H1) I h)
inductive tAndVS (tb : TE) (σ : St) (x : V) (H : Hp) (Q : VK) : Prop
  | mk (c : Bool) (h : x = .bl c) (k : if c = true then tb σ H Q else Q (.bl false) H)
def tAndV (ta tb : TE) : TE := fun σ H Q => ta σ H fun x H1 => tAndVS tb σ x H1 Q
inductive tOrVS (tb : TE) (σ : St) (x : V) (H : Hp) (Q : VK) : Prop
  | mk (c : Bool) (h : x = .bl c) (k : if c = true then Q (.bl true) H else tb σ H Q)
def tOrV (ta tb : TE) : TE := fun σ H Q => ta σ H fun x H1 => tOrVS tb σ x H1 Q
inductive tNotVS (x : V) (H : Hp) (Q : VK) : Prop
  | mk (c : Bool) (h : x = .bl c) (k : Q (.bl (!c)) H)
def tNotV (ta : TE) : TE := fun σ H Q => ta σ H fun x H1 => tNotVS x H1 Q
theorem pe_one {op} {t : TE} (h : PE X a t) : PE X (.BoolOp op [a] pos) t := fun pins s σ H Q I hw => BoolOp_one (h pins s σ H Q I hw)
theorem pe_and (ha : PE X a ta) (hb : PE X (.BoolOp .And (b :: rest) pos) tb) : PE X (.BoolOp .And (a :: b :: rest) pos) (tAndV ta tb) := by
  intro pins s σ H Q I h
  refine BoolOp_and (thn (ha pins s σ H _ I h) fun v s1 hq__ => ?_)
  obtain ⟨x, H1, I1, r1, q1⟩ := hq__
  obtain ⟨c, rfl, q1⟩ := q1
  cases r1
  refine wpAny_truthy_bool ?_
  cases c with
  | true => exact hb pins s1 σ H1 Q I1 q1
  | false => exact ⟨.bl false, H1, I1, rfl, q1⟩
theorem pe_or (ha : PE X a ta) (hb : PE X (.BoolOp .Or (b :: rest) pos) tb) : PE X (.BoolOp .Or (a :: b :: rest) pos) (tOrV ta tb) := by
  intro pins s σ H Q I h
  refine BoolOp_or (thn (ha pins s σ H _ I h) fun v s1 hq__ => ?_)
  obtain ⟨x, H1, I1, r1, q1⟩ := hq__
  obtain ⟨c, rfl, q1⟩ := q1
  cases r1
  refine wpAny_truthy_bool ?_
  cases c with
  | false => exact hb pins s1 σ H1 Q I1 q1
  | true => exact ⟨.bl true, H1, I1, rfl, q1⟩
theorem pe_not (ha : PE X a ta) : PE X (.UnaryOp .Not a pos) (tNotV ta) := by
  intro pins s σ H Q I h
  refine UnaryOp_ (thn (ha pins s σ H _ I h) fun v s1 hq__ => ?_)
  obtain ⟨x, H1, I1, r1, q1⟩ := hq__
  obtain ⟨c, rfl, q1⟩ := q1
  cases r1
  exact not_of (wpAny_truthy_bool ⟨.bl (!c), H1, I1, rfl, q1⟩)
def tIf (t : TT) (ta tb : TE) : TE := fun σ H Q => t σ H fun c H1 => if c = true then ta σ H1 Q else tb σ H1 Q
theorem pe_ifExp {c : Expr} (hc : PT X c tA) (ha : PE X a ta) (hb : PE X b tb) : PE X (.IfExp c a b pos) (tIf tA ta tb) := by
  intro pins s σ H Q I h
  refine wpAny_IfExp (thn (hc pins s σ H _ I h) fun d s1 hq__ => ?_)
  obtain ⟨H1, I1, q1⟩ := hq__
  cases d with
  | true => exact ha pins s1 σ H1 Q I1 q1
  | false => exact hb pins s1 σ H1 Q I1 q1
end
end L2
namespace L2
open PySem PySem.Spec PyProof.Rows
def SqL (K : PySem.W.Frag) (H : Hp) (a : Addr) (xs : List V) : Prop :=
  Rd H a (.lst xs) ∨
    ∃ (o : Obj) (its : Array Value) (n : Nat), K.lookup a = some o ∧ o.cls = .type "list" ∧ o.dict = none ∧ o.data = .seq its n ∧ its.size ≤ sizeLine ∧ Vals xs its.toList
def SqT (K : PySem.W.Frag) (H : Hp) (a : Addr) (xs : List V) : Prop :=
  Rd H a (.tup xs) ∨
    ∃ (o : Obj) (its : Array Value) (n : Nat), K.lookup a = some o ∧ o.cls = .type "tuple" ∧ o.data = .seq its n ∧ its.size ≤ sizeLine ∧ Vals xs its.toList
def absV : Value → Option V
  | .none => some .non
  | .bool b => some (.bl b)
  | .int i _ => some (.int i)
  | .str x _ => some (.str x)
  | .bytes b _ => some (.byt b)
  | .float b _ => some (.flt b)
  | .ref a => some (.ref a)
  | .type n => some (.ty n)
  | _ => none
theorem RelV.abs {x : V} {u : Value} (r : RelV x u) : absV u = some x := by
  cases x with
  | non => cases r; rfl
  | bl _ => cases r; rfl
  | int _ => obtain ⟨t, rfl⟩ := r; rfl
  | str _ => obtain ⟨t, rfl⟩ := r; rfl
  | byt _ => obtain ⟨t, rfl⟩ := r; rfl
  | flt _ => obtain ⟨t, rfl⟩ := r; rfl
  | ref _ => cases r; rfl
  | ty _ => cases r; rfl
theorem RelV.inj {x y : V} {u : Value} (r : RelV x u) (q : RelV y u) : x = y := Option.some.inj (r.abs.symm.trans q.abs)
theorem Vals.inj : ∀ {xs ys : List V} {us : List Value}, Vals xs us → Vals ys us → xs = ys
  | _, _, _, .nil, .nil => rfl
  | _, _, _, .cons r t, .cons r' t' => by rw [r.inj r', Vals.inj t t']
section
variable {X : Cx} {pins : List (Addr × Obj)} {σ : St} {H : Hp} {s : Shared} {a : Addr} {xs ys : List V}
theorem SqL.of {K : PySem.W.Frag} (h : H a = some (.lst xs)) : SqL K H a xs := .inl (.inl h)
theorem SqT.of {K : PySem.W.Frag} (h : H a = some (.tup xs)) : SqT K H a xs := .inl (.inl h)
theorem Inv.list (I : Inv X pins σ H s) (h : SqL X.K H a xs) : ∃ its : List Value, Vals xs its ∧ PlainL s.heap a its.toArray ∧ xs.length ≤ sizeLine := by
  rcases h with h | ⟨o, its, n, hk, hc, hd, hs, hz, r⟩
  · obtain ⟨z, its, n, r, e⟩ := h.ok I.hok
    exact ⟨its, r, ⟨_, n, e, rfl, rfl, rfl⟩, z⟩
  · refine ⟨its.toList, r, ⟨o, n, I.kIn a o hk, hc, hd, by simpa using hs⟩, ?_⟩
    have e := r.length
    simp only [Array.length_toList] at e
    omega
theorem Inv.tuple (I : Inv X pins σ H s) (h : SqT X.K H a xs) : ∃ its : List Value, Vals xs its ∧ IsTup s.heap a its.toArray ∧ xs.length ≤ sizeLine := by
  rcases h with h | ⟨o, its, n, hk, hc, hs, hz, r⟩
  · obtain ⟨z, its, r, p⟩ := h.ok I.hok
    exact ⟨its, r, p, z⟩
  · refine ⟨its.toList, r, ⟨o, I.kIn a o hk, hc, n, by simpa using hs⟩, ?_⟩
    have e := r.length
    simp only [Array.length_toList] at e
    omega
theorem Inv.list_inj (I : Inv X pins σ H s) (h : SqL X.K H a xs) (h' : SqL X.K H a ys) : xs = ys := by
  obtain ⟨its, r, ⟨o, n, e, _, _, d⟩, _⟩ := I.list h
  obtain ⟨its', r', ⟨o', n', e', _, _, d'⟩, _⟩ := I.list h'
  rw [e] at e'; cases e'
  rw [d] at d'
  injection d' with d1 _
  have : its = its' := by simpa using congrArg Array.toList d1
  subst this
  exact r.inj r'
end
abbrev Cx.wish (X : Cx) (E : Value → Shared → Prop) : Cx := { X with xe := E }
abbrev Cx.nox (X : Cx) : Cx := X.wish fun _ _ => False
theorem Cx.Ok.wish {X : Cx} (ok : X.Ok) (E : Value → Shared → Prop) : (X.wish E).Ok :=
  ⟨ok.mod, ok.kind, ok.glob, ok.blt, ok.above, ok.inj, ok.has, ok.cab, ok.hd, ok.frames, ok.stk, ok.exf, ok.bs, ok.bsz, ok.noex, ok.exfs, ok.funs, ok.frf⟩
theorem Cx.Ok.unwish {X : Cx} {E : Value → Shared → Prop} (ok : (X.wish E).Ok) : X.Ok :=
  ⟨ok.mod, ok.kind, ok.glob, ok.blt, ok.above, ok.inj, ok.has, ok.cab, ok.hd, ok.frames, ok.stk, ok.exf, ok.bs, ok.bsz, ok.noex, ok.exfs, ok.funs, ok.frf⟩
section
variable {X : Cx} {pins : List (Addr × Obj)} {σ : St} {H : Hp} {s : Shared} {E : Value → Shared → Prop}
theorem Inv.wish (I : Inv X pins σ H s) (E : Value → Shared → Prop) : Inv (X.wish E) pins σ H s := ⟨I.ok.wish E, I.os, I.bare, I.base, I.loc, I.cell, I.free, I.freeC, I.pin, I.hok, I.len⟩
theorem Inv.unwish (I : Inv (X.wish E) pins σ H s) : Inv X pins σ H s := ⟨I.ok.unwish, I.os, I.bare, I.base, I.loc, I.cell, I.free, I.freeC, I.pin, I.hok, I.len⟩
theorem SP.unwish {D : Ends} {f : Flow} {s' : Shared} (h : SP (X.wish E) pins D f s') : SP X pins D f s' := by
  cases f with
  | next => obtain ⟨σ', H', I, q⟩ := h; exact ⟨σ', H', I.unwish, q⟩
  | brk => obtain ⟨σ', H', I, q⟩ := h; exact ⟨σ', H', I.unwish, q⟩
  | cont => obtain ⟨σ', H', I, q⟩ := h; exact ⟨σ', H', I.unwish, q⟩
  | ret u => obtain ⟨v, σ', H', I, r, q⟩ := h; exact ⟨v, σ', H', I.unwish, r, q⟩
theorem PE.nox {e : Expr} {t : TE} (h : PE X.nox e t) : PE X e t := fun pins s σ H Q I hw =>
  wpAny_mono (h pins s σ H Q (I.wish _) hw) (fun _ _ ⟨v, H', I', r, q⟩ => ⟨v, H', I'.unwish, r, q⟩) fun _ _ z => False.elim z
theorem PT.nox {e : Expr} {t : TT} (h : PT X.nox e t) : PT X e t := fun pins s σ H Q I hw =>
  wpAny_mono (h pins s σ H Q (I.wish _) hw) (fun _ _ ⟨H', I', q⟩ => ⟨H', I'.unwish, q⟩) fun _ _ z => False.elim z
theorem PSs.nox {st : List Stmt} {t : TS} (h : PSs X.nox st t) : PSs X st t := fun pins s σ H D I hw =>
  wpAny_mono (h pins s σ H D (I.wish _) hw) (fun _ _ q => q.unwish) fun _ _ z => False.elim z
end
section
variable {X : Cx} {st : Stmt} {rest : List Stmt} {t u : TS} {e : Expr} {te : TE} {pos : Pos}
def tNext : TS := fun D σ H => D.nx σ H
def tSeq (t u : TS) : TS := fun D σ H => t { D with nx := u D } σ H
theorem pss_nil : PSs X [] tNext := fun _ _ σ H _ I h => wpAny_execs_nil ⟨σ, H, I, h⟩
theorem pss_cons (h1 : PS X st t) (h2 : PSs X rest u) : PSs X (st :: rest) (tSeq t u) := by
  intro pins s σ H D I h
  refine wpAny_execs_cons (thn (h1 pins s σ H { D with nx := u D } I h) fun f s1 q => ?_)
  cases f with
  | next =>
    obtain ⟨σ', H', I', q⟩ := q
    exact h2 pins s1 σ' H' D I' q
  | ret v => exact q
  | brk => exact q
  | cont => exact q
theorem pss_one (h1 : PS X st t) : PSs X [st] t := by
  intro pins s σ H D I h
  refine wpAny_execs_cons (thn (h1 pins s σ H D I h) fun f s1 q => ?_)
  cases f with
  | next => exact wpAny_execs_nil q
  | ret v => exact q
  | brk => exact q
  | cont => exact q
theorem Inv.quiet {pins : List (Addr × Obj)} {σ : St} {H : Hp} {s : Shared} (I : Inv X pins σ H s) : interactive X.env = false := by simp [interactive, I.ok.kind]
def tDrop (te : TE) : TS := fun D σ H => te σ H fun _ H1 => D.nx σ H1
theorem ps_expr (he : PE X e te) (hs : swapsWith e none pos.line X.env = pure false := by rfl) : PS X (.Expr e pos) (tDrop te) := by
  intro pins s σ H D I h
  exact wpAny_Expr_any (thn (he pins s σ H _ I h) fun v s1 ⟨x, H1, I1, r1, q1⟩ => ⟨σ, H1, I1, q1⟩) I.quiet hs
def tRet (te : TE) : TS := fun D σ H => te σ H D.rt
theorem ps_ret (he : PE X e te) : PS X (.Return (some e) pos) (tRet te) := by
  intro pins s σ H D I h
  exact wpAny_Return_some (thn (he pins s σ H _ I h) fun v s1 ⟨x, H1, I1, r1, q1⟩ => ⟨x, σ, H1, I1, r1, q1⟩)
def tIfS (c : TT) (t u : TS) : TS := fun D σ H => c σ H fun b H1 => if b = true then t D σ H1 else u D σ H1
theorem ps_if {c : Expr} {a b : List Stmt} {tc : TT} (hc : PT X c tc) (ha : PSs X a t) (hb : PSs X b u) : PS X (.If c a b pos) (tIfS tc t u) := by
  intro pins s σ H D I h
  refine wpAny_If (thn (hc pins s σ H _ I h) fun d s1 hq__ => ?_)
  obtain ⟨H1, I1, q1⟩ := hq__
  cases d with
  | true => exact ha pins s1 σ H1 D I1 q1
  | false => exact hb pins s1 σ H1 D I1 q1
end
abbrev TG := V → St → Hp → (St → Hp → Prop) → Prop
abbrev TGs := List V → St → Hp → (St → Hp → Prop) → Prop
def PG (X : Cx) (target : Expr) (t : TG) : Prop :=
  ∀ (pins : List (Addr × Obj)) (s : Shared) (σ : St) (H : Hp) (v : V) (u : Value) (Q : St → Hp → Prop), Inv X pins σ H s → RelV v u → t v σ H Q →
    wpAny (model X.prog X.w) X.A (assign target X.env u) (fun _ s' => ∃ σ' H', Inv X pins σ' H' s' ∧ Q σ' H') X.xe s
def PGs (X : Cx) (ts : List Expr) (t : TGs) : Prop :=
  ∀ (pins : List (Addr × Obj)) (s : Shared) (σ : St) (H : Hp) (vs : List V) (us : List Value) (Q : St → Hp → Prop), Inv X pins σ H s → Vals vs us → t vs σ H Q →
    wpAny (model X.prog X.w) X.A (assignInOrder ((assignEach ts X.env).map (·.2)) us) (fun _ s' => ∃ σ' H', Inv X pins σ' H' s' ∧ Q σ' H') X.xe s
section
variable {X : Cx} {pos : Pos}
def gName (i : Nat) : TG := fun v σ H Q => Q (σ.set i (some v)) H
theorem pg_name {i : Nat} {x : Str} (hN : X.N.Nodup) (hi : X.N[i]? = some x) (hx : Loc X.env.scope x) (hf : X.fn x = true ∨ X.env.scope.names.lookup x = some .local := by first | exact .inl rfl | exact .inr rfl | assumption) : PG X (.Name x pos) (gName i) := by
  intro pins s σ H v u Q I r h
  exact wpAny_assign_Name (store_ok I hN hi hx r (fun s' I' => ⟨_, H, I', h⟩) hf)
def gNil : TGs := fun vs σ H Q => vs = [] ∧ Q σ H
def gCons (t : TG) (u : TGs) : TGs := fun vs σ H Q => ∃ v r, vs = v :: r ∧ t v σ H fun σ' H' => u r σ' H' Q
theorem pgs_nil : PGs X [] gNil := by
  intro pins s σ H vs us Q I r h
  obtain ⟨e, h⟩ := h
  subst e
  cases r
  exact assignInOrder_nil ⟨σ, H, I, h⟩
theorem pgs_cons {e : Expr} {es : List Expr} {t : TG} {u : TGs} (h1 : PG X e t) (h2 : PGs X es u)
    (hs : (assignEach (e :: es) X.env).map (·.2) = assign e X.env :: (assignEach es X.env).map (·.2) := by rfl) : PGs X (e :: es) (gCons t u) := by
  intro pins s σ H vs us Q I r h
  obtain ⟨v, vr, e1, h⟩ := h
  subst e1
  cases r with
  | cons r rr =>
    rw [hs]
    refine assignInOrder_cons (thn (h1 pins s σ H _ _ _ I r h) fun _ s1 hq__ => ?_)
    obtain ⟨σ1, H1, I1, q1⟩ := hq__
    exact h2 pins s1 σ1 H1 _ _ Q I1 rr q1
def gTup (K : PySem.W.Frag) (n : Nat) (t : TGs) : TG := fun v σ H Q => ∃ a xs, v = .ref a ∧ SqT K H a xs ∧ xs.length = n ∧ t xs σ H Q
theorem pg_tup {es : List Expr} {k : Nat} {t : TGs} {n : Nat} (hc : X.calm = true) (h : PGs X es t)
    (hn : (assignEach es X.env).length = n := by rfl) (hst : (assignEach es X.env).findIdx? (·.1) = none := by rfl) : PG X (.Tuple es k pos) (gTup X.K n t) := by
  intro pins s σ H v u Q I r hw
  obtain ⟨a, xs, e1, hq, hl, hw⟩ := hw
  subst e1
  cases r
  obtain ⟨its, rv, ht, hz⟩ := I.tuple hq
  refine assign_Tuple_tuple (I.ok.hd hc) ht (by simp [hn, ← hl, rv.length]) hst fun h' hx => ?_
  have I1 : Inv X pins σ H { s with heap := h' } := I.kept (t' := s.toks) fun b o e => hx b o (Nat.ne_of_lt (Heap.lt_size e)) e
  exact h pins _ σ H xs _ Q I1 (by simpa using rv) hw
def tAsg (te : TE) (g : TG) : TS := fun D σ H => te σ H fun x H1 => g x σ H1 D.nx
theorem ps_set {i : Nat} {x : Str} {e : Expr} {te : TE} {pos' : Pos} (hN : X.N.Nodup) (hi : X.N[i]? = some x) (hx : Loc X.env.scope x) (he : PE X e te) (hs : swapsWith e (some (.Name x pos')) pos.line X.env = pure false := by rfl) (hf : X.fn x = true ∨ X.env.scope.names.lookup x = some .local := by first | exact .inl rfl | exact .inr rfl | assumption) :
    PS X (.Assign [.Name x pos'] e pos) (tAsg te (gName i)) := by
  intro pins s σ H D I h
  refine wpAny_Assign_Name (thn (he pins s σ H _ I h) fun v s1 hq__ => ?_) hs
  obtain ⟨y, H1, I1, r1, q1⟩ := hq__
  exact store_ok I1 hN hi hx r1 (fun s2 I2 => ⟨_, H1, I2, q1⟩) hf
end
section
variable {X : Cx} {pos : Pos}
end
structure It where
  go : Nat → Hp → Prop
  yld : Nat → Hp → V → Hp → Prop
  stop : Nat → Hp → Prop
def FpOk (X : Cx) (pins : List (Addr × Obj)) (H : Hp) (b : Addr) : Prop :=
  H b = none ∧ b ≠ X.env.locals ∧ b ∉ X.fs ∧ (b ∈ X.ex ∨ X.s₀.heap.objs.size ≤ b) ∧ (∀ x c, X.env.cells.lookup x = some c → c ≠ b) ∧ ∀ p ∈ X.pn ++ pins, p.1 ≠ b
theorem Inv.fpOk {X : Cx} {pins : List (Addr × Obj)} {σ : St} {H H' : Hp} {s : Shared} {b : Addr} (I : Inv X pins σ H s) (hb : s.heap.objs.size ≤ b) (hn : H' b = none) : FpOk X pins H' b := by
  refine ⟨hn, Nat.ne_of_gt (Nat.lt_of_lt_of_le I.lt hb), I.nofs hb, .inr (Nat.le_trans I.sz hb), fun x c e z => ?_, fun p hp z => ?_⟩
  · obtain ⟨v, q⟩ := I.cell x c e
    exact absurd (Nat.lt_of_lt_of_le q.lt (by rw [z]; exact hb)) (Nat.lt_irrefl _)
  · exact absurd (Nat.lt_of_lt_of_le (Heap.lt_size (I.pin p hp).1) (by rw [z]; exact hb)) (Nat.lt_irrefl _)
structure Turn (P : Program) (w : World) (K : PySem.W.Frag) (tg : Expr) (J : It) (fp : List Addr) (it : Addr) (tn : Nat → Heap → Prop) : Prop where
  mem : it ∈ fp
  obj : ∀ i h, tn i h → ∀ b ∈ fp, ∃ o, h.get? b = some o ∧ ∀ v, o.data ≠ .cell v
  keep : ∀ i h h', tn i h → (∀ b ∈ fp, ∀ o, h.get? b = some o → h'.get? b = some o) → tn i h'
  item : ∀ (X : Cx), X.prog = P → X.w = w → X.K = K → X.calm = true → ∀ (i : Nat) (pins : List (Addr × Obj)) (s : Shared) (σ : St) (H : Hp) (E : Value → Shared → Prop), Inv X pins σ H s → (∀ b ∈ fp, FpOk X pins H b) → tn i s.heap → J.go i H →
    wpAny (model P w) X.A (pyNext (.ref it)) (fun r s1 => ∃ u, r = some u ∧
      wpAny (model P w) X.A (letOwnedTupleGo tg (.ref it) u) (fun _ s2 => ∃ x H', Inv X pins σ H' s2 ∧ RelV x u ∧ J.yld i H x H' ∧ tn (i + 1) s2.heap ∧ ∀ b ∈ fp, H' b = none) E s1) E s
  done : ∀ (X : Cx), X.prog = P → X.w = w → X.K = K → X.calm = true → ∀ (i : Nat) (pins : List (Addr × Obj)) (s : Shared) (σ : St) (H : Hp) (E : Value → Shared → Prop), Inv X pins σ H s → (∀ b ∈ fp, FpOk X pins H b) → tn i s.heap → J.stop i H →
    wpAny (model P w) X.A (pyNext (.ref it)) (fun r s1 => r = none ∧ Inv X pins σ H s1) E s
  self : ∀ (A : Around) (i : Nat) (s : Shared) (Q : Value → Shared → Prop) (E : Value → Shared → Prop), tn i s.heap → Q (.ref it) s → wpAny (model P w) A (pyIter (.ref it)) Q E s
abbrev TI := St → Hp → (It → Hp → Prop) → Prop
def PIE (X : Cx) (pins : List (Addr × Obj)) (σ : St) (tg : Expr) (R : It → Hp → Prop) (itv : Value) (s2 : Shared) : Prop :=
  ∃ (it : Addr) (fp : List Addr) (tn : Nat → Heap → Prop) (J : It) (H' : Hp), itv = .ref it ∧ Inv X pins σ H' s2 ∧ Turn X.prog X.w X.K tg J fp it tn ∧ tn 0 s2.heap ∧ (∀ b ∈ fp, FpOk X pins H' b) ∧ R J H'
def PI (X : Cx) (tg iter : Expr) (wi : TI) : Prop :=
  ∀ (pins : List (Addr × Obj)) (s : Shared) (σ : St) (H : Hp) (R : It → Hp → Prop), Inv X pins σ H s → wi σ H R →
    wpAny (model X.prog X.w) X.A (eval iter X.env) (fun v s1 => wpAny (model X.prog X.w) X.A (pyIter v) (PIE X pins σ tg R) X.xe s1) X.xe s
theorem go_of {M : Model} {A : Around} {E : Value → Shared → Prop} {s : Shared} {tg : Expr} {it : Addr} {u : Value} {o : Obj} {n : String} {vs : Array Value} {Q : Unit → Shared → Prop} (ho : s.heap.get? it = some o) (hc : o.cls = .type n) (hd : o.data = .fields vs)
    (hn : ["enumerate", "zip", "dict_itemiterator", "dict_reverseitemiterator", "odict_iterator", "itertools.zip_longest", "itertools.pairwise"].contains n = false) (hQ : Q () s) : wpAny M A (letOwnedTupleGo tg (.ref it) u) Q E s := by
  unfold letOwnedTupleGo
  cases tg <;> first
    | exact wpAny_pure hQ
    | (cases u <;> first
        | exact wpAny_pure hQ
        | (refine wpAny_bind (wpAny_load ho ?_)
           rw [hc, hd]
           show wpAny M A (if (["enumerate", "zip", "dict_itemiterator", "dict_reverseitemiterator", "odict_iterator", "itertools.zip_longest", "itertools.pairwise"].contains n && vs[0]? == some (rawInt _)) = true then _ else _) Q E s
           rw [if_neg (by intro h; rw [hn, Bool.false_and] at h; cases h)]
           exact wpAny_pure hQ))
def Itl (K : PySem.W.Frag) (a : Addr) : It :=
  ⟨fun i H => ∃ xs x, SqL K H a xs ∧ xs[i]? = some x, fun i H x H' => H' = H ∧ ∀ xs, SqL K H a xs → xs[i]? = some x, fun i H => ∃ xs, SqL K H a xs ∧ xs.length ≤ i⟩
def Itr (lo : Int) (n : Nat) : It := ⟨fun i _ => i < n, fun i H x H' => H' = H ∧ x = .int (lo + i), fun i _ => n ≤ i⟩
theorem turn_list {P : Program} {w : World} {K : PySem.W.Frag} {tg : Expr} (a it : Addr) : Turn P w K tg (Itl K a) [it] it (fun i h => h.IsListIter it a i) where
  mem := by simp
  obj := fun i h st b hb => by
    have e : b = it := by simpa using hb
    subst e
    obtain ⟨o, e, c, d⟩ := st
    exact ⟨o, e, fun v z => by rw [d] at z; cases z⟩
  keep := fun i h h' st k => st.at fun o e => k it (by simp) o e
  item := by
    intro X hP hw hK hc i pins s σ H E I hf st hg
    subst hP hw hK
    obtain ⟨xs, x, hq, hx⟩ := hg
    obtain ⟨its, rv, p, hz⟩ := I.list hq
    obtain ⟨u, hu, ru⟩ := rv.get hx
    obtain ⟨f0, f1, f2, f3, f4, f5⟩ := hf it (by simp)
    refine wpAny_pyNext_list_item st p.isList (x := u) (by simpa using hu) fun h' st' sb => ?_
    have I1 : Inv X pins σ H { s with heap := h' } := I.turned (t' := s.toks) (fun b o hb e => (sb.2 b hb).trans e) f0 f1 f3 f4 f5
    obtain ⟨o, e, c, d⟩ := id st'
    exact ⟨u, rfl, go_of (s := { s with heap := h' }) e c d (by decide) ⟨x, H, I1, ru, ⟨rfl, fun ys hy => by rw [I.list_inj hy hq]; exact hx⟩, st', fun b hb => (hf b hb).1⟩⟩
  done := by
    intro X hP hw hK hc i pins s σ H E I hf st hg
    subst hP hw hK
    obtain ⟨xs, hq, hx⟩ := hg
    obtain ⟨its, rv, p, hz⟩ := I.list hq
    obtain ⟨f0, f1, f2, f3, f4, f5⟩ := hf it (by simp)
    have hl := rv.length
    exact wpAny_pyNext_list_end (I.ok.hd hc) st p.isList (by simp; omega) fun h' eb => ⟨rfl, I.turned (t' := s.toks) (fun b o hb e => eb b o hb e) f0 f1 f3 f4 f5⟩
  self := fun _ _ _ _ _ st h => wpAny_pyIter_listiter st h
theorem turn_range {P : Program} {w : World} {K : PySem.W.Frag} {tg : Expr} (it : Addr) (lo : Int) (n : Nat) : Turn P w K tg (Itr lo n) [it] it (fun i h => IsRangeIter h it (lo + (i : Nat) * 1) ((n : Int) - (i : Nat)) 1) where
  mem := by simp
  obj := fun i h st b hb => by
    have e : b = it := by simpa using hb
    subst e
    exact ⟨_, st, fun v z => by
      have z' : Data.fields _ = Data.cell v := z
      cases z'⟩
  keep := fun i h h' st k => k it (by simp) _ st
  item := by
    intro X hP hw hK hc i pins s σ H E I hf st hg
    subst hP hw hK
    obtain ⟨f0, f1, f2, f3, f4, f5⟩ := hf it (by simp)
    have W := Walks.range (prog := X.prog) (w := X.w) (I.ok.hd hc) it lo 1 n
    refine W.item i s _ _ hg st fun v h' tk hv st' kk => ?_
    obtain ⟨t, rfl⟩ := hv
    have I1 : Inv X pins σ H { s with heap := h', toks := tk } := I.turned (fun b o hb e => kk b o (by simpa using hb) e) f0 f1 f3 f4 f5
    refine ⟨_, rfl, go_of (s := { s with heap := h', toks := tk }) (n := "range_iterator") st' rfl rfl (by decide) ⟨.int (lo + i), H, I1, ⟨t, ?_⟩, ⟨rfl, rfl⟩, st', fun b hb => (hf b hb).1⟩⟩
    rw [Int.mul_one]
  done := by
    intro X hP hw hK hc i pins s σ H E I hf st hg
    subst hP hw hK
    obtain ⟨f0, f1, f2, f3, f4, f5⟩ := hf it (by simp)
    exact wpAny_pyNext_range_end (I.ok.hd hc) st (by have : n ≤ i := hg; omega) fun h' eb => ⟨rfl, I.turned (t' := s.toks) (fun b o hb e => eb b o hb e) f0 f1 f3 f4 f5⟩
  self := fun _ _ _ _ _ st h => wpAny_pyIter_rangeiter st h
end L2
namespace L2
open PySem PySem.Spec PyProof.Rows
section
variable {X : Cx} {tg : Expr}
def iList (K : PySem.W.Frag) (tl : TE) : TI := fun σ H R => tl σ H fun x H1 => ∃ a, x = .ref a ∧ (∃ xs, SqL K H1 a xs) ∧ R (Itl K a) H1
theorem pi_list {l : Expr} {tl : TE} (hl : PE X l tl) : PI X tg l (iList X.K tl) := by
  intro pins s σ H R I h
  refine thn (hl pins s σ H _ I h) fun v s1 hq__ => ?_
  obtain ⟨x, H1, I1, r1, q1⟩ := hq__
  obtain ⟨a, e, ⟨xs, hq⟩, q⟩ := q1
  subst e
  cases r1
  obtain ⟨its, rv, p, hz⟩ := I1.list hq
  refine wpAny_pyIter_list p.isList ?_
  refine ⟨s1.heap.objs.size, [s1.heap.objs.size], _, _, H1, rfl, I1.kept (t' := s1.toks) fun b o e => Heap.get?_push_of_some _ e, turn_list a _, ⟨_, Heap.get?_push_size _ rfl, rfl, rfl⟩, fun b hb => ?_, q⟩
  have e : b = s1.heap.objs.size := by simpa using hb
  subst e
  exact I1.fpOk (Nat.le_refl _) (I1.hok.fresh (Nat.le_refl _))
theorem range_it {pins : List (Addr × Obj)} {σ : St} {H : Hp} {s : Shared} {R : It → Hp → Prop} {E : Value → Shared → Prop} {lo hi : Int} {t u v : Tok} {tk : Nat} (I : Inv X pins σ H s) (h1 : -(2 ^ 62) ≤ lo) (h2 : lo < 2 ^ 62) (h3 : -(2 ^ 62) ≤ hi) (h4 : hi < 2 ^ 62)
    (q : R (Itr lo (hi - lo).toNat) H) : wpAny (model X.prog X.w) X.A (pyIter (.ref s.heap.objs.size)) (PIE X pins σ tg R) E { s with heap := s.heap.push { cls := .type "range", data := .fields #[.int lo t, .int hi u, .int 1 v] }, toks := tk } := by
  refine wpAny_pyIter_range (IsRange.new ..) (small_one h1 h2 h3 h4) ?_
  have I1 : Inv X pins σ H { s with heap := s.heap.push { cls := .type "range", data := .fields #[.int lo t, .int hi u, .int 1 v] }, toks := tk } := I.kept fun b o e => Heap.get?_push_of_some _ e
  refine ⟨(s.heap.push { cls := .type "range", data := .fields #[.int lo t, .int hi u, .int 1 v] }).objs.size, [(s.heap.push { cls := .type "range", data := .fields #[.int lo t, .int hi u, .int 1 v] }).objs.size], _, _, H, rfl,
    I1.kept (t' := tk) fun b o e => Heap.get?_push_of_some _ e, turn_range _ lo (hi - lo).toNat, ?_, fun b hb => ?_, q⟩
  · have e1 : lo + ((0 : Nat) : Int) * 1 = lo := by simp
    have e2 : (((hi - lo).toNat : Nat) : Int) - ((0 : Nat) : Int) = Builtin.Range.rangeSize lo hi 1 := by rw [rangeSize_one]; split <;> omega
    show IsRangeIter _ _ (lo + ((0 : Nat) : Int) * 1) ((((hi - lo).toNat : Nat) : Int) - ((0 : Nat) : Int)) 1
    rw [e1, e2]
    exact Heap.get?_push_size _ rfl
  · have e : b = (s.heap.push { cls := .type "range", data := .fields #[.int lo t, .int hi u, .int 1 v] }).objs.size := by simpa using hb
    subst e
    exact I1.fpOk (Nat.le_refl _) (I1.hok.fresh (Nat.le_refl _))
def iRng1 (ta : TA) : TI := fun σ H R => ta σ H fun vs H1 => ∃ j : Int, vs = [.int j] ∧ -(2 ^ 62) ≤ j ∧ j < 2 ^ 62 ∧ R (Itr 0 j.toNat) H1
theorem pi_range1 {a : Expr} {ta : TA} {p pos : Pos} (hg : Gl X "range") (hm : X.mg "range" = none) (ha : PA X [a] ta) (hs : starEach [a] X.env = [(false, eval a X.env)] := by rfl) : PI X tg (.Call (.Name "range" p) [a] [] pos) (iRng1 ta) := by
  intro pins s σ H R I h
  refine Call_ (ld_blt I hg hm boot_range (PyProof.Rows.callWith_type1 (thn (ha pos pins s σ H _ I h) fun us s1 hq__ => ?_) hs rfl))
  obtain ⟨vs, H1, I1, r1, q1⟩ := hq__
  obtain ⟨j, e, q1, q2, q⟩ := q1
  subst e
  cases r1 with
  | cons r rr =>
    cases rr
    obtain ⟨t, rfl⟩ := r
    exact call_range_1 (range_it I1 (by omega) (by omega) q1 q2 (by simpa using q))
def tFor (wi : TI) (g : TG) (tb : TS) : TS := fun D σ H => wi σ H fun J H1 => ∃ W : Nat → Nat → St → Hp → Prop, (∃ m, W 0 m σ H1) ∧ ∀ i m σ H, W i m σ H →
  (J.stop i H ∧ D.nx σ H) ∨ (J.go i H ∧ ∃ N : St → Hp → Prop, (∀ σ' H', N σ' H' → ∃ m', m' < m ∧ W (i + 1) m' σ' H') ∧ ∀ x H', J.yld i H x H' → g x σ H' fun σ2 H2 => tb { D with nx := N, ct := N, bk := D.nx } σ2 H2)
def pinsAt (fp : List Addr) (h : Heap) : List (Addr × Obj) := fp.filterMap fun b => (h.get? b).map fun o => (b, o)
theorem mem_pinsAt {fp : List Addr} {h : Heap} {b : Addr} {o : Obj} (hb : b ∈ fp) (e : h.get? b = some o) : (b, o) ∈ pinsAt fp h := List.mem_filterMap.mpr ⟨b, hb, by rw [e]; rfl⟩
theorem of_pinsAt {fp : List Addr} {h : Heap} {p : Addr × Obj} (hp : p ∈ pinsAt fp h) : p.1 ∈ fp ∧ h.get? p.1 = some p.2 := by
  obtain ⟨b, hb, e⟩ := List.mem_filterMap.mp hp
  cases q : h.get? b with
  | none => rw [q] at e; cases e
  | some o =>
    rw [q] at e
    have e' : (b, o) = p := Option.some.inj e
    subst e'
    exact ⟨hb, q⟩
theorem Inv.pinned {pins : List (Addr × Obj)} {σ : St} {H : Hp} {s : Shared} {fp : List Addr} (I : Inv X pins σ H s) (hf : ∀ b ∈ fp, FpOk X pins H b) (ho : ∀ b ∈ fp, ∃ o, s.heap.get? b = some o ∧ ∀ v, o.data ≠ .cell v) : Inv X (pins ++ pinsAt fp s.heap) σ H s :=
  I.pins_of fun p hp => (List.mem_append.mp hp).elim (fun z => I.pin p (List.mem_append_right _ z)) fun z => by
    obtain ⟨hb, e⟩ := of_pinsAt z
    obtain ⟨f0, f1, f2, _⟩ := hf p.1 hb
    obtain ⟨o, e', d⟩ := ho p.1 hb
    rw [e] at e'; cases e'
    exact ⟨e, f0, f1, f2, d⟩
theorem Inv.unpinned {pins pl : List (Addr × Obj)} {σ : St} {H : Hp} {s : Shared} (I : Inv X (pins ++ pl) σ H s) : Inv X pins σ H s := I.pins_of fun p hp => I.pin p (List.mem_append_right _ (List.mem_append_left _ hp))
theorem ps_for {iter : Expr} {body : List Stmt} {wi : TI} {g : TG} {tb : TS} {pos : Pos} (hp : PassesOwn (model X.prog X.w) X.A X.env X.xe) (hc : X.calm = true) (hi : PI X tg iter wi) (hg : PG X tg g) (hb : PSs X body tb)
    (hs : ∀ x, foldedSetIterable iter X.env x = pure x := by intro _; rfl) : PS X (.For tg iter body [] pos) (tFor wi g tb) := by
  intro pins s σ H D I h
  refine wpAny_For (thn (hi pins s σ H _ I h) fun v s1 h1 => thn h1 fun itv s2 h2 => ?_) hs
  obtain ⟨it, fp, tn, J, H2, e, I2, T, st2, f2, W, ⟨m0, w0⟩, turn⟩ := h2
  subst e
  have stat : ∀ {H' : Hp}, (∀ b ∈ fp, H' b = none) → ∀ b ∈ fp, FpOk X pins H' b := fun hn b hb => ⟨hn b hb, (f2 b hb).2⟩
  refine codeAny_forLoop_any (fun n s' => ∃ i σ' H', Inv X pins σ' H' s' ∧ tn i s'.heap ∧ (∀ b ∈ fp, H' b = none) ∧ W i n σ' H') ?_ m0 ⟨0, σ, H2, I2, st2, fun b hb => (f2 b hb).1, w0⟩
  rintro n s3 ⟨i, σ3, H3, I3, st3, fr3, w3⟩
  rcases turn i n σ3 H3 w3 with ⟨stop, qn⟩ | ⟨go, N, hN, step⟩
  · refine wpAny_passesOwn hp (thn (T.done X rfl rfl rfl hc i pins s3 σ3 H3 X.xe I3 (stat fr3) st3 stop) fun r s4 hq__ => ?_)
    obtain ⟨hr, I4⟩ := hq__
    subst hr
    exact wpAny_execs_nil ⟨σ3, H3, I4, qn⟩
  · refine wpAny_passesOwn hp (thn (T.item X rfl rfl rfl hc i pins s3 σ3 H3 X.xe I3 (stat fr3) st3 go) fun r s4 hq__ => ?_)
    obtain ⟨u, hr, h4⟩ := hq__
    subst hr
    refine wpAny_passesOwn hp (thn h4 fun _ s5 hq__ => ?_)
    obtain ⟨x, H5, I5, r5, y5, st5, fr5⟩ := hq__
    have I5' := I5.pinned (stat fr5) (T.obj _ _ st5)
    refine wpAny_passesOwn hp (thn (hg _ s5 σ3 H5 x u _ I5' r5 (step x H5 y5)) fun _ s6 hq__ => ?_)
    obtain ⟨σ6, H6, I6, q6⟩ := hq__
    refine wpAny_passesOwn hp (thn (hb _ s6 σ6 H6 _ I6 q6) fun f s7 q7 => ?_)
    have again : ∀ {σ7 : St} {H7 : Hp}, Inv X (pins ++ pinsAt fp s5.heap) σ7 H7 s7 → N σ7 H7 → ∃ m, m < n ∧ ∃ i σ' H', Inv X pins σ' H' s7 ∧ tn i s7.heap ∧ (∀ b ∈ fp, H' b = none) ∧ W i m σ' H' := fun {σ7 H7} I7 n7 => by
      obtain ⟨m', hm, w7⟩ := hN σ7 H7 n7
      refine ⟨m', hm, i + 1, σ7, H7, I7.unpinned, T.keep _ _ _ st5 fun b hb o e => (I7.pin (b, o) (List.mem_append_right _ (List.mem_append_right _ (mem_pinsAt hb e)))).1, fun b hb => ?_, w7⟩
      obtain ⟨o, e, d⟩ := T.obj _ _ st5 b hb
      exact (I7.pin (b, o) (List.mem_append_right _ (List.mem_append_right _ (mem_pinsAt hb e)))).2.1
    cases f with
    | next => obtain ⟨σ7, H7, I7, n7⟩ := q7; exact again I7 n7
    | cont => obtain ⟨σ7, H7, I7, n7⟩ := q7; exact again I7 n7
    | brk => obtain ⟨σ7, H7, I7, q7⟩ := q7; exact ⟨σ7, H7, I7.unpinned, q7⟩
    | ret v => obtain ⟨x7, σ7, H7, I7, r7, q7⟩ := q7; exact ⟨x7, σ7, H7, I7.unpinned, r7, q7⟩
end
theorem for_list {K : PySem.W.Frag} {a : Addr} {xs : List V} {g : TG} {tb : TS} {D : Ends} {σ : St} {H : Hp} (Pv : Nat → St → Hp → Prop) (h0 : Pv 0 σ H) (hl : ∀ i σ H, i ≤ xs.length → Pv i σ H → SqL K H a xs)
    (hs : ∀ i x σ H, xs[i]? = some x → Pv i σ H → g x σ H fun σ2 H2 => tb { D with nx := Pv (i + 1), ct := Pv (i + 1), bk := D.nx } σ2 H2) (hd : ∀ σ H, Pv xs.length σ H → D.nx σ H) :
    ∃ W : Nat → Nat → St → Hp → Prop, (∃ m, W 0 m σ H) ∧ ∀ i m σ H, W i m σ H →
      ((Itl K a).stop i H ∧ D.nx σ H) ∨ ((Itl K a).go i H ∧ ∃ N : St → Hp → Prop, (∀ σ' H', N σ' H' → ∃ m', m' < m ∧ W (i + 1) m' σ' H') ∧ ∀ x H', (Itl K a).yld i H x H' → g x σ H' fun σ2 H2 => tb { D with nx := N, ct := N, bk := D.nx } σ2 H2) := by
  refine ⟨fun i m σ H => m = xs.length - i ∧ i ≤ xs.length ∧ Pv i σ H, ⟨xs.length, by simp, Nat.zero_le _, h0⟩, ?_⟩
  rintro i m σ H ⟨rfl, hi, p⟩
  have q := hl i σ H hi p
  by_cases hlt : i < xs.length
  · refine .inr ⟨⟨xs, xs[i], q, by simp [hlt]⟩, Pv (i + 1), fun σ' H' p' => ⟨xs.length - (i + 1), by omega, rfl, hlt, p'⟩, fun x H' y => ?_⟩
    obtain ⟨e, y⟩ := y
    subst e
    exact hs i x σ _ (y xs q) p
  · have e : i = xs.length := by omega
    subst e
    exact .inl ⟨⟨xs, q, Nat.le_refl _⟩, hd σ H p⟩
theorem for_range {lo : Int} {n : Nat} {g : TG} {tb : TS} {D : Ends} {σ : St} {H : Hp} (Pv : Nat → St → Hp → Prop) (h0 : Pv 0 σ H)
    (hs : ∀ i σ H, i < n → Pv i σ H → g (.int (lo + i)) σ H fun σ2 H2 => tb { D with nx := Pv (i + 1), ct := Pv (i + 1), bk := D.nx } σ2 H2) (hd : ∀ σ H, Pv n σ H → D.nx σ H) :
    ∃ W : Nat → Nat → St → Hp → Prop, (∃ m, W 0 m σ H) ∧ ∀ i m σ H, W i m σ H →
      ((Itr lo n).stop i H ∧ D.nx σ H) ∨ ((Itr lo n).go i H ∧ ∃ N : St → Hp → Prop, (∀ σ' H', N σ' H' → ∃ m', m' < m ∧ W (i + 1) m' σ' H') ∧ ∀ x H', (Itr lo n).yld i H x H' → g x σ H' fun σ2 H2 => tb { D with nx := N, ct := N, bk := D.nx } σ2 H2) := by
  refine ⟨fun i m σ H => m = n - i ∧ i ≤ n ∧ Pv i σ H, ⟨n, by simp, Nat.zero_le _, h0⟩, ?_⟩
  rintro i m σ H ⟨rfl, hi, p⟩
  by_cases hlt : i < n
  · refine .inr ⟨hlt, Pv (i + 1), fun σ' H' p' => ⟨n - (i + 1), by omega, rfl, hlt, p'⟩, fun x H' y => ?_⟩
    obtain ⟨e, y⟩ := y
    subst e y
    exact hs i σ _ hlt p
  · have e : i = n := by omega
    subst e
    exact .inl ⟨Nat.le_refl _, hd σ H p⟩
end L2
namespace L2
open PySem PySem.Spec PyProof.Rows
abbrev R2 := V → V → Hp → VK → Prop
def OpR (X : Cx) (f : Value → Value → Sem Value) (r : R2) : Prop :=
  ∀ (pins : List (Addr × Obj)) (s : Shared) (σ : St) (H : Hp) (x y : V) (v u : Value) (Q : VK), Inv X pins σ H s → RelV x v → RelV y u → r x y H Q →
    wpAny (model X.prog X.w) X.A (f v u) (EP X pins σ Q) X.xe s
def CallR (X : Cx) (f : Value) (r : List V → Hp → VK → Prop) : Prop :=
  ∀ (pins : List (Addr × Obj)) (s : Shared) (σ : St) (H : Hp) (xs : List V) (us : List Value) (Q : VK), Inv X pins σ H s → Vals xs us → r xs H Q →
    wpAny (model X.prog X.w) X.A (call f us) (EP X pins σ Q) X.xe s
def tOp (r : R2) (ta tb : TE) : TE := fun σ H Q => ta σ H fun x H1 => tb σ H1 fun y H2 => r x y H2 Q
inductive rIS (C : Int → Int → Prop) (g : Int → Int → V) (x y : V) (H : Hp) (Q : VK) : Prop
  | mk (i j : Int) (hx : x = .int i) (hy : y = .int j) (hc : C i j) (k : Q (g i j) H)
def rI (C : Int → Int → Prop) (g : Int → Int → V) : R2 := fun x y H Q => rIS C g x y H Q
inductive rI0S (g : Int → Int → V) (x y : V) (H : Hp) (Q : VK) : Prop
  | mk (i j : Int) (hx : x = .int i) (hy : y = .int j) (k : Q (g i j) H)
def rI0 (g : Int → Int → V) : R2 := fun x y H Q => rI0S g x y H Q
inductive rUS (g : Int → V) (x : V) (H : Hp) (Q : VK) : Prop
  | mk (i : Int) (h : x = .int i) (k : Q (g i) H)
section
variable {X : Cx} {a b c : Expr} {ta tb tc : TE} {pos : Pos}
theorem binT (ha : PE X a ta) (hb : PE X b tb) {pins : List (Addr × Obj)} {s : Shared} {σ : St} {H : Hp} {R : V → V → Hp → Prop} (I : Inv X pins σ H s)
    (h : ta σ H fun x H1 => tb σ H1 fun y H2 => R x y H2) {Q : Value → Shared → Prop} {f : Value → Value → Sem Value}
    (hf : ∀ v u s2 x y H2, Inv X pins σ H2 s2 → RelV x v → RelV y u → R x y H2 → wpAny (model X.prog X.w) X.A (f v u) Q X.xe s2) :
    wpAny (model X.prog X.w) X.A (eval a X.env) (fun v s₁ => wpAny (model X.prog X.w) X.A (eval b X.env) (fun u s₂ => wpAny (model X.prog X.w) X.A (f v u) Q X.xe s₂) X.xe s₁) X.xe s := by
  refine thn (ha pins s σ H _ I h) fun v s1 hq__ => ?_
  obtain ⟨x, H1, I1, r1, q1⟩ := hq__
  refine thn (hb pins s1 σ H1 _ I1 q1) fun u s2 hq__ => ?_
  obtain ⟨y, H2, I2, r2, q2⟩ := hq__
  exact hf v u s2 x y H2 I2 r1 r2 q2
theorem pe_op {op : Operator} {r : R2} (ho : OpR X (binaryOp op) r) (ha : PE X a ta) (hb : PE X b tb) : PE X (.BinOp a op b pos) (tOp r ta tb) := by
  intro pins s σ H Q I h
  exact wpAny_BinOp (binT ha hb I h fun v u s2 x y H2 I2 rx ry q => ho pins s2 σ H2 x y v u Q I2 rx ry q)
theorem opI {f : Value → Value → Sem Value} {C : Int → Int → Prop} {g : Int → Int → Int}
    (rule : ∀ (i j : Int) (t u : Tok) (s : Shared) (Q : Value → Shared → Prop) (E : Value → Shared → Prop), C i j → Q (.int (g i j) s.toks) { s with toks := s.toks + 1 } → wpAny (model X.prog X.w) X.A (f (.int i t) (.int j u)) Q E s) :
    OpR X f (rI C fun i j => .int (g i j)) := by
  intro pins s σ H x y v u Q I rx ry h
  obtain ⟨i, j, rfl, rfl, hc, q⟩ := h
  obtain ⟨t, rfl⟩ := rx
  obtain ⟨t', rfl⟩ := ry
  exact rule i j t t' s _ _ hc ⟨.int (g i j), H, I.tok _, ⟨_, rfl⟩, q⟩
theorem opI0 {f : Value → Value → Sem Value} {g : Int → Int → Int}
    (rule : ∀ (i j : Int) (t u : Tok) (s : Shared) (Q : Value → Shared → Prop) (E : Value → Shared → Prop), Q (.int (g i j) s.toks) { s with toks := s.toks + 1 } → wpAny (model X.prog X.w) X.A (f (.int i t) (.int j u)) Q E s) :
    OpR X f (rI0 fun i j => .int (g i j)) := by
  intro pins s σ H x y v u Q I rx ry h
  obtain ⟨i, j, rfl, rfl, q⟩ := h
  obtain ⟨t, rfl⟩ := rx
  obtain ⟨t', rfl⟩ := ry
  exact rule i j t t' s _ _ ⟨.int (g i j), H, I.tok _, ⟨_, rfl⟩, q⟩
theorem opB0 {f : Value → Value → Sem Value} {g : Int → Int → Bool}
    (rule : ∀ (i j : Int) (t u : Tok) (s : Shared) (Q : Value → Shared → Prop) (E : Value → Shared → Prop), Q (.bool (g i j)) s → wpAny (model X.prog X.w) X.A (f (.int i t) (.int j u)) Q E s) :
    OpR X f (rI0 fun i j => .bl (g i j)) := by
  intro pins s σ H x y v u Q I rx ry h
  obtain ⟨i, j, rfl, rfl, q⟩ := h
  obtain ⟨t, rfl⟩ := rx
  obtain ⟨t', rfl⟩ := ry
  exact rule i j t t' s _ _ ⟨.bl (g i j), H, I, rfl, q⟩
def CDiv (i j : Int) : Prop := 0 < j ∧ j < 1073741824
def CMul (i j : Int) : Prop := (-(2 ^ 64) < i ∧ i < 2 ^ 64) ∨ (-(2 ^ 64) < j ∧ j < 2 ^ 64)
theorem CMul.ok {i j : Int} (h : CMul i j) : IntMulOk i j := by
  rcases h with ⟨h1, h2⟩ | ⟨h1, h2⟩
  · exact .of_left (intBits_le_64 h1 h2)
  · exact .of_right (intBits_le_64 h1 h2)
theorem op_add : OpR X (binaryOp .Add) (rI0 fun i j => .int (i + j)) := opI0 fun _ _ _ _ _ _ _ q => add_int q
theorem op_mul : OpR X (binaryOp .Mult) (rI CMul fun i j => .int (i * j)) := opI fun _ _ _ _ _ _ _ hc q => mul_int q hc.ok
theorem op_fdiv : OpR X (binaryOp .FloorDiv) (rI CDiv fun i j => .int (i / j)) := opI fun i j _ _ _ _ _ hc q => by
  have h1 : (0 : Int) < j := hc.1
  have h2 : j < 1073741824 := hc.2
  exact floordiv_int (by omega) (by rw [Int.fdiv_eq_ediv_of_nonneg i (by omega)]; exact q) (.inl (PyProof.noPylong_small (by omega)))
theorem op_mod : OpR X (binaryOp .Mod) (rI (fun _ j => 0 < j) fun i j => .int (i % j)) := opI fun i j _ _ _ _ _ hc q => by
  have h1 : (0 : Int) < j := hc
  exact mod_int' (by omega) (by rw [Int.fmod_eq_emod_of_nonneg i (by omega)]; exact q)
end
def scal : V → V → Bool
  | .non, .non => true | .non, .int _ => true | .int _, .non => true | .non, .bl _ => true | .bl _, .non => true | .non, .str _ => true | .str _, .non => true
  | .int _, .int _ => true | .bl _, .bl _ => true | .str _, .str _ => true | .byt _, .byt _ => true
  | .int _, .str _ => true | .str _, .int _ => true | .bl _, .str _ => true | .str _, .bl _ => true
  | _, _ => false
def rEq : R2 := fun x y H Q => scal x y = true ∧ Q (.bl (decide (x = y))) H
theorem dec_int {i j : Int} : decide (V.int i = V.int j) = (i == j) := by
  rw [Bool.eq_iff_iff]
  simp
theorem dec_bl {i j : Bool} : decide (V.bl i = V.bl j) = (i == j) := by
  rw [Bool.eq_iff_iff]
  simp
theorem dec_str {i j : Str} : decide (V.str i = V.str j) = (i == j) := by
  rw [Bool.eq_iff_iff]
  simp
theorem dec_byt {i j : Array UInt8} : decide (V.byt i = V.byt j) = (i.toList == j.toList) := by
  rw [Bool.eq_iff_iff]
  cases i
  cases j
  simp
section
variable {X : Cx} {a b c : Expr} {ta tb tc : TE} {pos : Pos}
theorem fin_bl {pins : List (Addr × Obj)} {σ : St} {H : Hp} {s : Shared} {Q : VK} {k k' : Bool} (I : Inv X pins σ H s) (q : Q (.bl k) H) (e : k = k') : EP X pins σ Q (.bool k') s := by
  subst e
  exact ⟨.bl k, H, I, rfl, q⟩
theorem op_eq : OpR X (compareOp .Eq) rEq := by
  intro pins s σ H x y v u Q I rx ry h
  obtain ⟨hs, q⟩ := h
  cases x with
  | non =>
    cases rx
    cases y with
    | non => cases ry; exact PySem.EqNone.eq_none_none (fin_bl I q (by simp))
    | bl j => cases ry; exact PySem.EqNone.eq_none_bool (fin_bl I q (by simp))
    | int j => obtain ⟨t', rfl⟩ := ry; exact PySem.EqNone.eq_none_int (fin_bl I q (by simp))
    | str j => obtain ⟨t', rfl⟩ := ry; exact PySem.EqNone.eq_none_str (fin_bl I q (by simp))
    | _ => exact absurd (show false = true from hs) Bool.false_ne_true
  | bl i =>
    cases rx
    cases y with
    | non => cases ry; exact PySem.EqNone.eq_bool_none (fin_bl I q (by simp))
    | bl j => cases ry; exact eq_bool (fin_bl I q dec_bl)
    | str j => obtain ⟨t', rfl⟩ := ry; exact PySem.EqMixed.eq_bool_str (fin_bl I q (by simp))
    | _ => exact absurd (show false = true from hs) Bool.false_ne_true
  | int i =>
    obtain ⟨t, rfl⟩ := rx
    cases y with
    | non => cases ry; exact PySem.EqNone.eq_int_none (fin_bl I q (by simp))
    | int j => obtain ⟨t', rfl⟩ := ry; exact eq_int (fin_bl I q dec_int)
    | str j => obtain ⟨t', rfl⟩ := ry; exact PySem.EqMixed.eq_int_str (fin_bl I q (by simp))
    | _ => exact absurd (show false = true from hs) Bool.false_ne_true
  | str i =>
    obtain ⟨t, rfl⟩ := rx
    cases y with
    | non => cases ry; exact PySem.EqNone.eq_str_none (fin_bl I q (by simp))
    | bl j => cases ry; exact PySem.EqMixed.eq_str_bool (fin_bl I q (by simp))
    | int j => obtain ⟨t', rfl⟩ := ry; exact PySem.EqMixed.eq_str_int (fin_bl I q (by simp))
    | str j => obtain ⟨t', rfl⟩ := ry; exact eq_str (fin_bl I q dec_str)
    | _ => exact absurd (show false = true from hs) Bool.false_ne_true
  | byt i =>
    obtain ⟨t, rfl⟩ := rx
    cases y with
    | byt j => obtain ⟨t', rfl⟩ := ry; exact PySem.W.eq_bytes (fin_bl I q dec_byt)
    | _ => exact absurd (show false = true from hs) Bool.false_ne_true
  | _ => cases y <;> exact absurd (show false = true from hs) Bool.false_ne_true
theorem op_lt : OpR X (compareOp .Lt) (rI0 fun i j => .bl (decide (i < j))) := opB0 fun _ _ _ _ _ _ _ q => lt_int q
theorem op_le : OpR X (compareOp .LtE) (rI0 fun i j => .bl (decide (i ≤ j))) := opB0 fun _ _ _ _ _ _ _ q => le_int q
theorem op_gt : OpR X (compareOp .Gt) (rI0 fun i j => .bl (decide (j < i))) := opB0 fun _ _ _ _ _ _ _ q => gt_int q
theorem op_in_str : OpR X (compareOp .In) (fun x y H Q => ∃ i j, x = .str i ∧ y = .str j ∧ Q (.bl (!(Builtin.Str.occurrences j i 0 j.length 1).isEmpty)) H) := by
  intro pins s σ H x y v u Q I rx ry h
  obtain ⟨i, j, rfl, rfl, q⟩ := h
  obtain ⟨t, rfl⟩ := rx
  obtain ⟨t', rfl⟩ := ry
  exact in_str (fin_bl I q rfl)
theorem op_isN : OpR X (compareOp .Is) (fun x y H Q => y = .non ∧ Q (.bl (decide (x = .non))) H) := by
  intro pins s σ H x y v u Q I rx ry h
  obtain ⟨rfl, q⟩ := h
  cases ry
  refine is_none_gen (fin_bl I q ?_)
  cases x <;> first
    | (cases rx; rfl)
    | (obtain ⟨t, rfl⟩ := rx; rfl)
theorem op_notin_str : OpR X (compareOp .NotIn) (fun x y H Q => ∃ i j, x = .str i ∧ y = .str j ∧ Q (.bl (!(!(Builtin.Str.occurrences j i 0 j.length 1).isEmpty))) H) := by
  intro pins s σ H x y v u Q I rx ry h
  obtain ⟨i, j, rfl, rfl, q⟩ := h
  obtain ⟨t, rfl⟩ := rx
  obtain ⟨t', rfl⟩ := ry
  exact notIn_str (fin_bl I q rfl)
theorem OpR.or {f : Value → Value → Sem Value} {r r' : R2} (h : OpR X f r) (h' : OpR X f r') : OpR X f (fun x y H Q => r x y H Q ∨ r' x y H Q) := by
  intro pins s σ H x y v u Q I rx ry q
  rcases q with q | q
  · exact h pins s σ H x y v u Q I rx ry q
  · exact h' pins s σ H x y v u Q I rx ry q
theorem nomark (b : Expr) {op : CmpOp} (h : op ≠ .In := by decide) (h2 : op ≠ .NotIn := by decide) : behindInMarks op b = false := by
  have e1 : (op == CmpOp.In) = false := by cases op <;> first | rfl | exact absurd rfl h
  have e2 : (op == CmpOp.NotIn) = false := by cases op <;> first | rfl | exact absurd rfl h2
  cases b <;> simp [behindInMarks, e1, e2]
theorem pe_cmpR {op : CmpOp} {r : R2} (ho : OpR X (compareOp op) r) (ha : PE X a ta) (hb : PE X b tb) (hm : behindInMarks op b = false) : PE X (.Compare a [op] [b] pos) (tOp r ta tb) := by
  intro pins s σ H Q I h
  exact wpAny_Compare1 (binT ha hb I h fun v u s2 x y H2 I2 rx ry q => ho pins s2 σ H2 x y v u Q I2 rx ry q) hm
def tTest (t : TE) : TT := fun σ H Q => t σ H fun x H' => ∃ k, x = .bl k ∧ Q k H'
theorem pt_cmpR {op : CmpOp} {r : R2} (ho : OpR X (compareOp op) r) (ha : PE X a ta) (hb : PE X b tb) (hm : behindInMarks op b = false) : PT X (.Compare a [op] [b] pos) (tTest (tOp r ta tb)) := by
  intro pins s σ H Q I h
  refine wpAny_isTrue_Compare1 (thn (ha pins s σ H _ I h) fun v s1 ⟨x, H1, I1, r1, q1⟩ => thn (hb pins s1 σ H1 _ I1 q1) fun u s2 ⟨y, H2, I2, r2, q2⟩ =>
    thn (ho pins s2 σ H2 x y v u _ I2 r1 r2 q2) fun c s3 ⟨z, H3, I3, r3, k, e, q3⟩ => ?_) hm
  subst e
  cases r3
  exact wpAny_truthy_bool ⟨H3, I3, q3⟩
theorem line63 : (sizeLine : Nat) < 2 ^ 63 := by rw [sizeLine_eq]; decide
theorem op_add_str : OpR X (binaryOp .Add) (fun x y H Q => ∃ i j, x = .str i ∧ y = .str j ∧ i.length + j.length ≤ sizeLine ∧ Q (.str (i ++ j)) H) := by
  intro pins s σ H x y v u Q I rx ry h
  obtain ⟨i, j, rfl, rfl, hz, q⟩ := h
  obtain ⟨t, rfl⟩ := rx
  obtain ⟨t', rfl⟩ := ry
  exact add_str (fun t' tk => ⟨.str (i ++ j), H, I.tok _, ⟨_, rfl⟩, q⟩) hz
def PlainIxT (b : Expr) : Prop := ∀ o i, subscripted b false o i = operate [o, i] (getItem o i)
theorem vals1 {x : V} {us : List Value} (r : Vals [x] us) : ∃ u, us = [u] ∧ RelV x u := by
  cases r with
  | cons r1 r2 => cases r2; exact ⟨_, rfl, r1⟩
theorem vals2 {x y : V} {us : List Value} (r : Vals [x, y] us) : ∃ u w', us = [u, w'] ∧ RelV x u ∧ RelV y w' := by
  cases r with
  | cons r1 r2 =>
    cases r2 with
    | cons r3 r4 => cases r4; exact ⟨_, _, rfl, r1, r3⟩
def LenV (K : PySem.W.Frag) (x : V) (H : Hp) (n : Nat) : Prop :=
  match x with
  | .str y => y.length ≤ sizeLine ∧ n = y.length
  | .byt y => y.size ≤ sizeLine ∧ n = y.size
  | .ref p => (∃ xs, SqL K H p xs ∧ n = xs.length) ∨ ∃ xs, SqT K H p xs ∧ n = xs.length
  | _ => False
theorem call_len : CallR X (.builtin "len") (fun xs H Q => ∃ x n, xs = [x] ∧ LenV X.K x H n ∧ Q (.int n) H) := by
  intro pins s σ H xs us Q I r h
  obtain ⟨x, n, rfl, e, q⟩ := h
  obtain ⟨u, rfl, rx⟩ := vals1 r
  have hl := line63
  have hs : sizeLine = 16777216 := sizeLine_eq
  cases x with
  | str y =>
    obtain ⟨t, rfl⟩ := rx
    obtain ⟨hy, e'⟩ : y.length ≤ sizeLine ∧ n = y.length := e
    subst e'
    exact len_str (by omega) ⟨.int _, H, I.tok _, ⟨_, rfl⟩, q⟩
  | byt y =>
    obtain ⟨t, rfl⟩ := rx
    obtain ⟨hy, e'⟩ : y.size ≤ sizeLine ∧ n = y.size := e
    subst e'
    exact PySem.W.len_bytes (by omega) ⟨.int _, H, I.tok _, ⟨_, rfl⟩, q⟩
  | ref p =>
    cases rx
    have e' : (∃ xs, SqL X.K H p xs ∧ n = xs.length) ∨ ∃ xs, SqT X.K H p xs ∧ n = xs.length := e
    rcases e' with ⟨xs, hx, e'⟩ | ⟨xs, hx, e'⟩
    · subst e'
      obtain ⟨its, r', pl, hz⟩ := I.list hx
      have hlen := r'.length
      exact Calls.call_len_list pl.isList (by simp only [List.size_toArray]; omega) ⟨.int xs.length, H, I.tok _, ⟨_, by simp only [List.size_toArray]; rw [hlen]⟩, q⟩
    · subst e'
      obtain ⟨its, r', pl, hz⟩ := I.tuple hx
      have hlen := r'.length
      exact len_tuple pl (by simp only [List.size_toArray]; omega) ⟨.int xs.length, H, I.tok _, ⟨_, by simp only [List.size_toArray]; rw [hlen]⟩, q⟩
  | _ => exact (show False from e).elim
end
end L2
namespace L2
open PySem PySem.Spec PyProof.Rows
structure ObjM (h : Heap) (x dx C : Addr) (mA : Str → Option Value) : Prop where
  obj : h.get? x = some (PySem.W.instObj C dx)
  ns : h.Ns1 dx mA
  ne : dx ≠ x
theorem lookIn_ns {h : Heap} {dx : Addr} {mA : Str → Option Value} (n : h.Ns1 dx mA) : ∃ od, h.get? dx = some od ∧ ∀ name, PySem.W.lookIn name od = some (mA name) := by
  obtain ⟨o, es, ep, ho, hd, hk, _, hm⟩ := n
  refine ⟨o, ho, fun name => ?_⟩
  have e := hm name
  unfold nsFind findBy at e
  rw [← Array.find?_toList] at e
  unfold PySem.W.lookIn
  rw [hd]
  dsimp only
  split
  · rename_i y q
    rw [q] at e
    exact congrArg some e
  · rename_i q
    rw [q] at e
    have a : es.toList.any (·.refKey) = false := by
      rw [List.any_eq_false]
      intro y hy
      obtain ⟨z, t, hkey⟩ := hk y (Array.mem_toList_iff.mp hy)
      simp [DictEntry.refKey, hkey]
    have a' : ¬ es.toList.any (·.refKey) = true := by rw [a]; exact Bool.false_ne_true
    rw [if_neg a']
    exact congrArg some e
theorem ObjM.look {h : Heap} {x dx C : Addr} {mA : Str → Option Value} (I : ObjM h x dx C mA) : ∃ od, PySem.W.InstAt h x (PySem.W.instObj C dx) C (some od) ∧ ∀ name, PySem.W.lookIn name od = some (mA name) :=
  let ⟨od, ho, hl⟩ := lookIn_ns I.ns
  ⟨od, ⟨I.obj, rfl, rfl, ho⟩, hl⟩
section
variable {prog : Program} {w : World} {A : Around} {E : Value → Shared → Prop} {s : Shared} {K : PySem.W.Frag} {x dx C f : Addr} {mA : Str → Option Value} {name : Str} {v : Value}
end
def putF (f : Str) (v : V) : List (Str × V) → List (Str × V)
  | [] => [(f, v)]
  | (g, x) :: r => if g = f then (g, v) :: r else (g, x) :: putF f v r
section
variable {P : Program} {w : World} {H H' : Hp} {h h' : Heap} {a C dx : Addr} {fs fs' : List (Str × V)}
theorem ins_get (hok : HOk P w H h) (e : H a = some (.ins C dx fs)) : ∃ mA, ObjM h a dx C mA ∧ (∀ f, RelO (fs.lookup f) (mA f)) ∧ PySem.Within mA (fs.map (·.1)) ∧ fs.length ≤ 1000 ∧ H dx = some (.own a) := by
  obtain ⟨d, z, ne, ob, mA, n, r, q⟩ := (show ObjOk P w H h a (.ins C dx fs) from hok a _ e)
  exact ⟨mA, ⟨ob, n, ne⟩, r, q, z, d⟩
end
structure Cls (K : PySem.W.Frag) (C : Addr) : Prop where
  pg : PySem.W.plainGet K C Str.empty = true
  hd : PySem.W.hasDictIn K C = true
  po : PySem.W.plainOver K C = true
  sa : PySem.W.findIn K (.ref C) "__setattr__" = some (some (.builtin "object.__setattr__"))
theorem Cls.get {K : PySem.W.Frag} {C : Addr} (c : Cls K C) (f : Str) : PySem.W.plainGet K C f = true := c.pg
structure Con (K : PySem.W.Frag) (C : Addr) (f : Str) (v : V) (u : Value) : Prop where
  at_ : PySem.W.findIn K (.ref C) f = some (some u)
  rel : RelV v u
  get : PySem.W.specialIn K u "__get__" = some none
  cp : PySem.W.copiedNames.contains f = false
structure Meth (K : PySem.W.Frag) (C : Addr) (m : Str) (f : Addr) : Prop where
  at_ : PySem.W.findIn K (.ref C) m = some (some (.ref f))
  fn : PySem.W.isFn K (.ref f) = true
  kp : PySem.W.keepIn K (.ref f) = true
section
variable {X : Cx} {pins : List (Addr × Obj)} {σ : St} {H : Hp} {s : Shared} {a C dx : Addr} {fs : List (Str × V)} {f : Str} {v : V} {A : Around} {E : Value → Shared → Prop}
theorem Inv.made (I : Inv X pins σ H s) : Inv X pins σ (upd (upd H s.heap.objs.size (.own (s.heap.objs.size + 1))) (s.heap.objs.size + 1) (.ins C s.heap.objs.size []))
    { s with heap := (s.heap.push PySem.W.emptyDict).push (PySem.W.instObj C s.heap.objs.size) } := by
  have e1 : (s.heap.push PySem.W.emptyDict).get? s.heap.objs.size = some PySem.W.emptyDict := Heap.get?_push_size s.heap rfl
  have e2 : ((s.heap.push PySem.W.emptyDict).push (PySem.W.instObj C s.heap.objs.size)).get? (s.heap.objs.size + 1) = some (PySem.W.instObj C s.heap.objs.size) := by
    have := Heap.get?_push_size (s.heap.push PySem.W.emptyDict) (o := PySem.W.instObj C s.heap.objs.size) rfl
    rwa [Heap.size_push] at this
  have e3 : (s.heap.push PySem.W.emptyDict).Ns s.heap.objs.size (fun _ => none) := ⟨PySem.W.emptyDict, #[], _, e1, rfl, (fun e he => absurd he (by simp)), fun _ => rfl⟩
  have I1 := I.laid (a := s.heap.objs.size) (o := .own (s.heap.objs.size + 1)) (h' := s.heap.push PySem.W.emptyDict) (t' := s.toks) (fun b u q => Heap.get?_push_of_some _ q) (Nat.le_refl _) ⟨_, e1⟩
  refine I1.laid (a := s.heap.objs.size + 1) (o := .ins C s.heap.objs.size []) (t' := s.toks) (fun b u q => Heap.get?_push_of_some _ q) (Nat.le_of_eq (Heap.size_push _ _)) ?_
  have ne : s.heap.objs.size ≠ s.heap.objs.size + 1 := Nat.ne_of_lt (Nat.lt_succ_self _)
  refine ⟨by rw [upd_ne ne, upd_same], Nat.zero_le _, ne, e2, fun _ => none, (Heap.Ns1.of_empty e3).at fun o q => Heap.get?_push_of_some _ q, fun _ => True.intro, fun y hy => absurd rfl hy⟩
end
section
variable {X : Cx} {o e value : Expr} {f : Str} {pos pos' tpos : Pos} {ta tv : TE}
end
section
variable {X : Cx} {pins : List (Addr × Obj)} {σ : St} {H : Hp} {s : Shared} {A : Around} {E : Value → Shared → Prop} {Q : Value → Shared → Prop} {c : Value} {b : Bool}
inductive TyOf (K : PySem.W.Frag) (H : Hp) : V → Value → Prop where
  | non : TyOf K H .non (.type "NoneType")
  | bl (x : Bool) : TyOf K H (.bl x) (.type "bool")
  | int (i : Int) : TyOf K H (.int i) (.type "int")
  | str (x : Str) : TyOf K H (.str x) (.type "str")
  | flt (x : UInt64) : TyOf K H (.flt x) (.type "float")
  | lst {a : Addr} {xs : List V} (e : H a = some (.lst xs)) : TyOf K H (.ref a) (.type "list")
  | frz {a : Addr} {o : Obj} {xs : List V} (e : H a = some (.frz o (.lst xs))) : TyOf K H (.ref a) (.type "list")
  | tup {a : Addr} {xs : List V} (e : H a = some (.tup xs)) : TyOf K H (.ref a) (.type "tuple")
  | dK {a : Addr} {kvs : List (Key × V)} (e : H a = some (.dK kvs)) : TyOf K H (.ref a) (.type "dict")
  | dT {a : Addr} {kvs : List (List Key × V)} (e : H a = some (.dT kvs)) : TyOf K H (.ref a) (.type "dict")
  | ins {a C dx : Addr} {fs : List (Str × V)} (e : H a = some (.ins C dx fs)) (cl : Cls K C) (ha : PySem.W.findIn K (.ref C) "__class__" = some (some (.builtin "object.__class__")))
      (hn : PySem.W.specialIn K (.builtin "object.__class__") "__get__" = some (some (.builtin "getset_descriptor.__get__"))) (htk : PySem.W.takesIn K (.builtin "object.__class__") = some true)
      (hm : PySem.W.mroIn K C (.type "object") = some true) : TyOf K H (.ref a) (.ref C)
theorem isinst_ok {x : V} {u t : Value} (I : Inv X pins σ H s) (rx : RelV x u) (ty : TyOf X.K H x t) (e : PySem.W.kitOne X.K t c = some b) (h : ∀ tk, Q (.bool b) { s with toks := tk }) :
    wpAny (model X.prog X.w) A (call (.builtin "isinstance") [u, c]) Q E s := by
  cases ty with
  | non => cases (show u = Value.none from rx); exact PySem.W.kia_one PySem.W.kitx_none I.kIn True.intro e (fun z => nomatch z) h
  | bl y => cases (show u = Value.bool y from rx); exact PySem.W.kia_one PySem.W.kitx_bool I.kIn True.intro e (fun z => nomatch z) h
  | int i => obtain ⟨t, q⟩ := (show ∃ t, u = Value.int i t from rx); cases q; exact PySem.W.kia_one PySem.W.kitx_int I.kIn True.intro e (fun z => nomatch z) h
  | str y => obtain ⟨t, q⟩ := (show ∃ t, u = Value.str y t from rx); cases q; exact PySem.W.kia_one PySem.W.kitx_str I.kIn True.intro e (fun z => nomatch z) h
  | flt y => obtain ⟨t, q⟩ := (show ∃ t, u = Value.float y t from rx); cases q; exact PySem.W.kia_one PySem.W.kitx_float I.kIn True.intro e (fun z => nomatch z) h
  | @lst a xs ea =>
    cases (show u = Value.ref a from rx)
    obtain ⟨_, _, n, _, h1⟩ := (show ObjOk X.prog X.w H s.heap a (.lst xs) from I.hok a _ ea)
    exact PySem.W.kia_one PySem.W.kitx_list I.kIn ⟨_, h1, rfl⟩ e (fun z => nomatch z) h
  | @frz a ob xs ea =>
    cases (show u = Value.ref a from rx)
    obtain ⟨_, _, _, n, _, h1⟩ := (show ObjOk X.prog X.w H s.heap a (.frz ob (.lst xs)) from I.hok a _ ea)
    exact PySem.W.kia_one PySem.W.kitx_list I.kIn ⟨_, h1, rfl⟩ e (fun z => nomatch z) h
  | @tup a xs ea =>
    cases (show u = Value.ref a from rx)
    obtain ⟨_, _, _, p⟩ := (show ObjOk X.prog X.w H s.heap a (.tup xs) from I.hok a _ ea)
    obtain ⟨o, h1, h2, _⟩ := p
    exact PySem.W.kia_one PySem.W.kitx_tuple I.kIn ⟨o, h1, h2⟩ e (fun z => nomatch z) h
  | @dK a kvs ea =>
    cases (show u = Value.ref a from rx)
    obtain ⟨_, _, vs, _, p⟩ := (show ObjOk X.prog X.w H s.heap a (.dK kvs) from I.hok a _ ea)
    obtain ⟨o, es, ep, h1, h2, _⟩ := p
    exact PySem.W.kia_one PySem.W.kitx_dict I.kIn ⟨o, h1, h2.1⟩ e (fun z => nomatch z) h
  | @dT a kvs ea =>
    cases (show u = Value.ref a from rx)
    obtain ⟨_, _, xs, _, o, es, ep, h1, h2, _⟩ := (show ObjOk X.prog X.w H s.heap a (.dT kvs) from I.hok a _ ea)
    exact PySem.W.kia_one PySem.W.kitx_dict I.kIn ⟨o, h1, h2.1⟩ e (fun z => nomatch z) h
  | @ins a C dx fs ea cl ha hn htk hm =>
    cases (show u = Value.ref a from rx)
    obtain ⟨mA, O, _⟩ := ins_get I.hok ea
    obtain ⟨od, J, _⟩ := O.look
    exact PySem.W.kia_one (PySem.W.kitx_own (cl.get _) cl.hd ha hn htk hm) I.kIn J e (fun z => nomatch z) h
end
end L2
namespace L2
open PySem PySem.Spec PyProof.Rows
structure Room (k : Nat) (A : Around) : Prop where
  hd : A.handled = none
  dp : A.depth + 3 * k + 5 < recursionLimit
  un : A.units + 16 * k + 200 < cLine
theorem Room.mono {j k : Nat} {A : Around} (r : Room k A) (h : j ≤ k) : Room j A := ⟨r.hd, by have := r.dp; omega, by have := r.un; omega⟩
theorem Room.deeper {k : Nat} {A : Around} (r : Room (k + 1) A) (env : Env) : Room k (A.deeper env) :=
  ⟨r.hd, by have := r.dp; show A.depth + 1 + 3 * k + 5 < _; omega, by have := r.un; show A.units + 3 + 16 * k + 200 < _; omega⟩
theorem Room.in1 {k : Nat} {A : Around} (r : Room (k + 1) A) : Room k A.in1 :=
  ⟨r.hd, by have := r.dp; show A.depth + 3 * k + 5 < _; omega, by have := r.un; show A.units + 1 + 16 * k + 200 < _; omega⟩
theorem make_depth {A : Around} {C : Addr} {us : List Value} {kw : List (Str × Value)} : (A.under (.builtin "type.__call__" ⟨.ref C :: us, kw⟩)).depth = A.depth + 1 := by
  first | rfl | simp [Around.under, Code.weight, Code.isCreation, Code.isGuard, Code.isCaller, Code.frames, Code.isFrame, guardIds]
theorem make_units {A : Around} {C : Addr} {us : List Value} {kw : List (Str × Value)} : (A.under (.builtin "type.__call__" ⟨.ref C :: us, kw⟩)).units = A.units + 1 := by
  first | rfl | simp [Around.under, Code.cUnits, Code.frames, Code.isFrame]
theorem Room.make {k : Nat} {A : Around} (r : Room (k + 1) A) (C : Addr) (us : List Value) (kw : List (Str × Value)) : Room k (A.under (.builtin "type.__call__" ⟨.ref C :: us, kw⟩)) :=
  ⟨r.hd, by have := r.dp; rw [make_depth]; omega, by have := r.un; rw [make_units]; omega⟩
theorem Room.depth {k : Nat} {A : Around} (r : Room k A) : A.depth < recursionLimit := by have := r.dp; omega
theorem Room.units {k : Nat} {A : Around} (r : Room k A) : A.units + 64 < cLine := by have := r.un; omega
def tNil : TA := fun _ H Q => Q [] H
def tCons (ta : TE) (tr : TA) : TA := fun σ H Q => ta σ H fun x H1 => tr σ H1 fun xs H2 => Q (x :: xs) H2
section
variable {X : Cx} {e : Expr} {es : List Expr} {te : TE} {t : TA} {pos : Pos}
theorem pa_nil : PA X [] tNil := fun _ _ _ _ H Q I h => Calls.spliced_nil ⟨[], H, I, .nil, h⟩
theorem pa_cons (ha : PE X e te) (hr : PA X es t) (hs : starEach (e :: es) X.env = (false, eval e X.env) :: starEach es X.env := by rfl) : PA X (e :: es) (tCons te t) := by
  intro pos pins s σ H Q I h
  rw [hs]
  show wpAny _ _ (spliced ((false, eval e X.env) :: backTo pos (starEach es X.env))) _ _ s
  refine Calls.spliced_cons (thn (ha pins s σ H _ I h) fun u s1 hq__ => ?_)
  obtain ⟨x, H1, I1, r1, q1⟩ := hq__
  exact thn (hr pos pins s1 σ H1 _ I1 q1) fun us s2 ⟨xs, H2, I2, r2, q2⟩ => ⟨x :: xs, H2, I2, .cons r1 r2, q2⟩
end
abbrev Sp := List V → Hp → VK → XK → Prop
abbrev CXT := List Env → Hp → Shared → XK → Value → Shared → Prop
structure Env0 (P : Program) (w : World) (K : PySem.W.Frag) (mg : Str → Option Value) (base : Heap) (A : Around) (outer : List Env) (s : Shared) (H : Hp) : Prop where
  frames : A.frames = some outer
  mod : Mod K mg base
  bs : ∀ b o, base.get? b = some o → s.heap.get? b = some o ∧ H b = none
  bsz : base.objs.size ≤ s.heap.objs.size
  funs : s.heap.FunFrames base outer
  frf : ∀ b ∈ frs outer, H b = none
  hok : HOk P w H s.heap
  bare : AllBare s.gens
def CE (outer : List Env) (P : Program) (w : World) (H : Hp) (s : Shared) (Q : VK) (u : Value) (s' : Shared) : Prop :=
  ∃ v H', s'.os = s.os ∧ AllBare s'.gens ∧ Un (frs outer) [] H H' s.heap s'.heap ∧ HOk P w H' s'.heap ∧ RelV v u ∧ Q v H'
def CR (CX : CXT) (outer : List Env) (P : Program) (w : World) (H : Hp) (s : Shared) (Q : VK) (E : XK) (r : Result) (s' : Shared) : Prop :=
  match r with
  | .ok (.ret u) => CE outer P w H s Q u s'
  | .ok _ => False
  | .error e => CX outer H s E e s'
structure FnOk (P : Program) (w : World) (K : PySem.W.Frag) (mg : Str → Option Value) (base : Heap) (CX : CXT) (k : Nat) (f : Addr) (fd : FuncData) (ps : List Str) (sp : Sp) : Prop where
  len : ∀ vs H Q E, sp vs H Q E → vs.length = ps.length
  run : ∀ (A : Around) (outer : List Env) (s : Shared) (H : Hp) (args : Args) (us : List Value) (vs : List V) (Q : VK) (E : XK), Room k A → Env0 P w K mg base A outer s H → BindsTo s fd args (ps.zip us) → Vals vs us → sp vs H Q E →
    codeAny (model P w) A (.call (.ref f) args) (CR CX outer P w H s Q E) s
theorem FnOk.mono {P : Program} {w : World} {K : PySem.W.Frag} {mg : Str → Option Value} {base : Heap} {CX : CXT} {j k : Nat} {f : Addr} {fd : FuncData} {ps : List Str} {sp : Sp} (F : FnOk P w K mg base CX j f fd ps sp) (h : j ≤ k) :
    FnOk P w K mg base CX k f fd ps sp := ⟨F.len, fun A outer s H args us vs Q E hr => F.run A outer s H args us vs Q E (hr.mono h)⟩
theorem FnOk.imp {P : Program} {w : World} {K : PySem.W.Frag} {mg : Str → Option Value} {base : Heap} {CX : CXT} {k : Nat} {f : Addr} {fd : FuncData} {ps : List Str} {sp sp' : Sp} (F : FnOk P w K mg base CX k f fd ps sp)
    (h : ∀ vs H Q E, sp' vs H Q E → sp vs H Q E) : FnOk P w K mg base CX k f fd ps sp' :=
  ⟨fun vs H Q E q => F.len vs H Q E (h _ _ _ _ q), fun A outer s H args us vs Q E hr he hb hv hs => F.run A outer s H args us vs Q E hr he hb hv (h _ _ _ _ hs)⟩
theorem Env0.make {P : Program} {w : World} {K : PySem.W.Frag} {mg : Str → Option Value} {base : Heap} {A : Around} {outer : List Env} {s : Shared} {H : Hp} (e : Env0 P w K mg base A outer s H) (C : Addr) (us : List Value) (kw : List (Str × Value)) :
    Env0 P w K mg base (A.under (.builtin "type.__call__" ⟨.ref C :: us, kw⟩)) outer s H := ⟨by first | exact e.frames | (simpa [Around.under, Code.envs, Code.isFrame, pushEnvs] using e.frames), e.mod, e.bs, e.bsz, e.funs, e.frf, e.hok, e.bare⟩
theorem Env0.in1 {P : Program} {w : World} {K : PySem.W.Frag} {mg : Str → Option Value} {base : Heap} {A : Around} {outer : List Env} {s : Shared} {H : Hp} (e : Env0 P w K mg base A outer s H) :
    Env0 P w K mg base A.in1 outer s H := ⟨e.frames, e.mod, e.bs, e.bsz, e.funs, e.frf, e.hok, e.bare⟩
section
variable {X : Cx} {pins : List (Addr × Obj)} {σ : St} {H : Hp} {s s' : Shared}
theorem Inv.env0 (I : Inv X pins σ H s) : Env0 X.prog X.w X.K X.mg X.base X.A X.stack s H :=
  ⟨I.ok.frames, I.ok.mod, I.bs, Nat.le_trans I.ok.bsz I.sz, I.stack, I.stkFree, I.hok, I.bare⟩
theorem Inv.after {Q : VK} {u : Value} (I : Inv X pins σ H s) (h : CE X.stack X.prog X.w H s Q u s') : EP X pins σ Q u s' := by
  obtain ⟨v, H', os, bare, un, hok, r, q⟩ := h
  obtain ⟨hh, g, d, t, os'⟩ := s'
  obtain rfl : os' = s.os := os
  exact ⟨v, H', I.call (h' := hh) (g' := g) (d' := d) (t' := t) (ch := []) un hok bare (fun b z => absurd z (by simp)), r, q⟩
end
def tCall (sp : Sp) (dvs : List V) (E : XK) (t : TA) : TE := fun σ H Q => t σ H fun vs H1 => sp (vs ++ dvs) H1 Q E
def Binds (K : PySem.W.Frag) (fd : FuncData) (ps : List Str) (ds : List Value) : Prop :=
  ∀ (s : Shared) (us : List Value), K.In s.heap → (us ++ ds).length = ps.length → BindsTo s fd ⟨us, []⟩ (ps.zip (us ++ ds))
theorem Binds.all {K : PySem.W.Frag} {fd : FuncData} {ps : List Str} (h : ∀ us : List Value, us.length = ps.length → bindArgs fd ⟨us, []⟩ = pure (ps.zip us)) : Binds K fd ps [] := fun s us _ hl => by
  rw [List.append_nil] at hl ⊢
  exact .of_eq (h us hl)
def Passes (CX : CXT) (X : Cx) (E : XK) : Prop := ∀ (pins : List (Addr × Obj)) (σ : St) (H : Hp) (s : Shared) (e : Value) (s' : Shared), Inv X pins σ H s → CX X.stack H s E e s' → X.xe e s'
section
variable {X : Cx} {CX : CXT} {k : Nat} {f C : Addr} {fd : FuncData} {ps : List Str} {sp : Sp} {dvs : List V} {ds : List Value} {E : XK} {x m : Str} {p pos apos : Pos} {e o : Expr} {es : List Expr} {ta : TE} {t : TA}
theorem run_fn {pins : List (Addr × Obj)} {σ : St} {H : Hp} {s : Shared} {Q : VK} {us : List Value} {vs : List V} (F : FnOk X.prog X.w X.K X.mg X.base CX k f fd ps sp) (hr : Room k X.A) (hb : Binds X.K fd ps ds) (hd : Vals dvs ds) (hx : Passes CX X E)
    (I : Inv X pins σ H s) (r : Vals vs us) (h : sp (vs ++ dvs) H Q E) : wpAny (model X.prog X.w) X.A (call (.ref f) us) (EP X pins σ Q) X.xe s := by
  have r2 : Vals (vs ++ dvs) (us ++ ds) := r.append hd
  have hl : (us ++ ds).length = ps.length := by rw [← r2.length]; exact F.len _ _ _ _ h
  refine wpAny_call (codeAny_mono (F.run X.A X.stack s H ⟨us, []⟩ (us ++ ds) (vs ++ dvs) Q E hr I.env0 (hb s us I.kIn hl) r2 h) fun r s' hq => ?_)
  cases r with
  | error e => exact hx pins σ H s e s' I hq
  | ok fl =>
    cases fl with
    | ret u => exact I.after hq
    | next => exact False.elim hq
    | brk => exact False.elim hq
    | cont => exact False.elim hq
theorem pe_call (F : FnOk X.prog X.w X.K X.mg X.base CX k f fd ps sp) (hr : Room k X.A) (hg : Gl X x) (hm : X.mg x = some (.ref f)) (hk : PySem.W.keepIn X.K (.ref f) = true) (hb : Binds X.K fd ps ds) (hd : Vals dvs ds) (hx : Passes CX X E)
    (ha : PA X (e :: es) t) (hdb : (x == ("__debug__" : Str)) = false := by decide) (he : starEach (e :: es) X.env = (false, eval e X.env) :: starEach es X.env := by rfl) (hpl : (backTo pos (starEach es X.env)).any (·.1) = false := by rfl) :
    PE X (.Call (.Name x p) (e :: es) [] pos) (tCall sp dvs E t) := by
  intro pins s σ H Q I h
  refine wpAny_Call_Name_kw (ld_glob I hg hm ?_ hdb)
  refine PySem.W.callWith_K (h₀ := X.base) I.ok.mod.kin hk (thn (ha pos pins s σ H _ I h) fun us s1 ⟨vs, H1, I1, r, q⟩ => ⟨I1.kIn, ?_⟩) he hpl
  exact run_fn F hr hb hd hx I1 r q
structure Mk (K : PySem.W.Frag) (C f : Addr) : Prop where
  makes : PySem.W.makesIn K C = true
  init : PySem.W.findIn K (.ref C) "__init__" = some (some (.ref f))
  fn : PySem.W.isFn K (.ref f) = true
  kp : PySem.W.keepIn K (.ref C) = true
end
section
variable {X : Cx} {CX : CXT} {k : Nat} {f C : Addr} {fd : FuncData} {ps ks : List Str} {sp : Sp} {E : XK} {x m : Str} {p pos apos kpos : Pos} {e o : Expr} {es : List Expr} {kws : List Keyword} {te ta : TE} {t tk : TA} {nm : Option Str}
structure KBinds (K : PySem.W.Frag) (fd : FuncData) (ps ks : List Str) (g : List Value → List Value → List Value) (gV : List V → List V → List V) : Prop where
  to : ∀ (s : Shared) (us ws : List Value), K.In s.heap → (g us ws).length = ps.length → BindsTo s fd ⟨us, ks.zip ws⟩ (ps.zip (g us ws))
  rel : ∀ {vs : List V} {us : List Value} {zs : List V} {ws : List Value}, Vals vs us → Vals zs ws → Vals (gV vs zs) (g us ws)
variable {g : List Value → List Value → List Value} {gV : List V → List V → List V}
end
structure FnScope (N P : List Str) (sc : Scope) : Prop where
  kind : sc.kind = .function
  co : sc.isCoroutine = false
  gen : sc.isGenerator = false
  nd : N.Nodup
  pre : N.take P.length = P
  par : ∀ x ∈ P, sc.names.lookup x = some .local ∨ sc.names.lookup x = some .cell
  nofree : ∀ y ∈ sc.names, y.2 ≠ .free
theorem bindL_out {kindOf : Str → Option NameKind} {x : Str} : ∀ {binds : List (Str × Value)} {m : Str → Option Value}, (∀ v, (x, v) ∉ binds) → bindL kindOf binds m x = m x
  | [], _, _ => rfl
  | (n, v) :: r, m, h => by
    unfold bindL
    rw [bindL_out fun w hw => h w (List.mem_cons_of_mem _ hw)]
    split
    · have : x ≠ n := by rintro rfl; exact h v List.mem_cons_self
      simp [this]
    · rfl
theorem bindC_out {kindOf : Str → Option NameKind} {x : Str} : ∀ {binds : List (Str × Value)} {m : Str → Option Value}, (∀ v, (x, v) ∉ binds) → bindC kindOf binds m x = m x
  | [], _, _ => rfl
  | (n, v) :: r, m, h => by
    unfold bindC
    rw [bindC_out fun w hw => h w (List.mem_cons_of_mem _ hw)]
    split
    · rfl
    · have : x ≠ n := by rintro rfl; exact h v List.mem_cons_self
      simp [this]
theorem bindL_get {kindOf : Str → Option NameKind} {x : Str} {v : Value} : ∀ {P : List Str} {vs : List Value} {i : Nat} {m : Str → Option Value}, P.Nodup → P[i]? = some x → vs[i]? = some v → kindOf x = some .local →
    bindL kindOf (P.zip vs) m x = some v
  | [], _, _, _, _, h, _, _ => by simp at h
  | _ :: _, [], _, _, _, _, h, _ => by simp at h
  | p :: P, w :: vs, 0, m, nd, h1, h2, hk => by
    simp at h1 h2; subst h1; subst h2
    show bindL kindOf ((p, w) :: P.zip vs) m p = _
    unfold bindL
    rw [bindL_out fun v hv => (List.nodup_cons.mp nd).1 (List.of_mem_zip hv).1, if_pos hk]
    simp
  | p :: P, w :: vs, i + 1, m, nd, h1, h2, hk => by
    show bindL kindOf ((p, w) :: P.zip vs) m x = _
    unfold bindL
    exact bindL_get (i := i) (List.nodup_cons.mp nd).2 (by simpa using h1) (by simpa using h2) hk
theorem bindC_get {kindOf : Str → Option NameKind} {x : Str} {v : Value} : ∀ {P : List Str} {vs : List Value} {i : Nat} {m : Str → Option Value}, P.Nodup → P[i]? = some x → vs[i]? = some v → kindOf x ≠ some .local →
    bindC kindOf (P.zip vs) m x = some v
  | [], _, _, _, _, h, _, _ => by simp at h
  | _ :: _, [], _, _, _, _, h, _ => by simp at h
  | p :: P, w :: vs, 0, m, nd, h1, h2, hk => by
    simp at h1 h2; subst h1; subst h2
    show bindC kindOf ((p, w) :: P.zip vs) m p = _
    unfold bindC
    rw [bindC_out fun v hv => (List.nodup_cons.mp nd).1 (List.of_mem_zip hv).1, if_neg hk]
    simp
  | p :: P, w :: vs, i + 1, m, nd, h1, h2, hk => by
    show bindC kindOf ((p, w) :: P.zip vs) m x = _
    unfold bindC
    exact bindC_get (i := i) (List.nodup_cons.mp nd).2 (by simpa using h1) (by simpa using h2) hk
def start (N : List Str) (vs : List V) : St := vs.map some ++ List.replicate (N.length - vs.length) none
def cxOf (CX : CXT) (P : Program) (w : World) (K : PySem.W.Frag) (mg : Str → Option Value) (base : Heap) (N : List Str) (qual : Str) (scope : Scope) (f : Addr) (cd : Value) (A : Around) (outer : List Env) (s : Shared) (H : Hp) (E : XK) : Cx where
  prog := P
  w := w
  K := K
  mg := mg
  base := base
  A := A.deeper (envOfC qual scope s.heap.objs.size f cd)
  N := N
  s₀ := s
  H₀ := H
  env := envOfC qual scope s.heap.objs.size f cd
  outer := outer
  stack := envOfC qual scope s.heap.objs.size f cd :: outer
  ex := []
  calm := true
  fn := fun _ => true
  pn := []
  xe := fun e s' => wpAny (model P w) (A.deeper (envOfC qual scope s.heap.objs.size f cd)) (leaving (envOfC qual scope s.heap.objs.size f cd) e) (fun _ s'' => CX outer H s E e s'') (fun e' s'' => CX outer H s E e' s'') s'
theorem cell_has {sc : Scope} {n : Nat} {x : Str} (h : sc.names.lookup x = some .cell) : ∃ c, (cellsFrom n sc.names []).lookup x = some c := by
  have q := PySem.W.cellsFrom_some sc.names n [] (.inl h)
  exact Option.isSome_iff_exists.mp q
theorem inv_start {CX : CXT} {P : Program} {w : World} {K : PySem.W.Frag} {mg : Str → Option Value} {base : Heap} {N ps : List Str} {qual : Str} {scope : Scope} {f : Addr} {cd : Value} {A : Around} {outer : List Env} {s s1 : Shared} {H : Hp} {E : XK} {us : List Value} {vs : List V}
    (S : FnScope N ps scope) (hd : A.handled = none) (e0 : Env0 P w K mg base A outer s H) (hl : vs.length = ps.length) (r : Vals vs us)
    (x : InCallC s s.heap.objs.size (bindL (envOfC qual scope s.heap.objs.size f cd).kindOf (ps.zip us) fun _ => none) (cellsFrom (s.heap.objs.size + 1) scope.names []) (bindC (envOfC qual scope s.heap.objs.size f cd).kindOf (ps.zip us) fun _ => none) s1) :
    Inv (cxOf CX P w K mg base N qual scope f cd A outer s H E) [] (start N vs) H s1 := by
  have hpl : ps.length ≤ N.length := by have := congrArg List.length S.pre; rw [List.length_take] at this; omega
  obtain ⟨h1, tk, rfl, hk⟩ := x.done
  have noA : ∀ b : Addr, b ∉ (cxOf CX P w K mg base N qual scope f cd A outer s H E).ex := fun b z => absurd (show b ∈ ([] : List Addr) from z) (by simp)
  refine ⟨⟨e0.mod, S.kind, rfl, rfl, Nat.le_refl _, fun y z c h1 h2 => ?_, fun y hy => ?_, fun y c _ h => ?_, fun _ => hd, Around.frames_deeper e0.frames, .inr ⟨rfl, rfl⟩, fun b z => absurd z (noA b), e0.bs, e0.bsz, fun b _ _ => noA b, fun b z => absurd z (noA b), e0.funs, e0.frf⟩,
    rfl, e0.bare, Un.kept hk, ⟨_, x.toInCall.ns, fun i y v h1 h2 h3 => ?_⟩, fun y c h => ⟨_, x.cell y c h⟩, e0.hok.fresh (Nat.le_refl _), fun y c h => ?_, fun p hp => absurd (show p ∈ ([] : List (Addr × Obj)) from hp) (by simp), e0.hok.kept hk, ?_⟩
  · exact name_of_addr x.apart (PySem.mem_of_lookup h1) (PySem.mem_of_lookup h2)
  · have hy : scope.names.lookup y = some .cell ∨ scope.names.lookup y = some .free := hy
    rcases hy with hy | hy
    · exact cell_has hy
    · exact absurd rfl (S.nofree _ (PySem.mem_of_lookup hy))
  · exact Nat.le_of_lt (x.above y c (PySem.mem_of_lookup h))
  · have hi : i < vs.length := by
      unfold start at h2
      by_cases hi : i < vs.length
      · exact hi
      · rw [List.getElem?_append_right (by simpa using hi)] at h2
        rw [List.getElem?_replicate] at h2
        split at h2 <;> cases h2
    have ha : vs[i]? = some v := by
      unfold start at h2
      rw [List.getElem?_append_left (by simpa using hi), List.getElem?_map] at h2
      cases e : vs[i]? with
      | none => rw [e] at h2; cases h2
      | some a => rw [e] at h2; cases h2; rfl
    obtain ⟨u, hu, rv⟩ := r.get ha
    have hp : ps[i]? = some y := by
      rw [← S.pre, List.getElem?_take_of_lt (by omega)]; exact h1
    have ndP : ps.Nodup := by rw [← S.pre]; exact S.nd.sublist (List.take_sublist _ _)
    refine ⟨u, rv, ?_⟩
    rcases S.par y (List.mem_of_getElem? hp) with k | k
    · exact .inl ⟨k, bindL_get ndP hp hu k⟩
    · obtain ⟨c, e⟩ := cell_has (n := s.heap.objs.size + 1) k
      refine .inr ⟨.inl k, c, e, ?_⟩
      have q := x.cell y c e
      rw [bindC_get ndP hp hu (by show scope.names.lookup y ≠ _; rw [k]; decide)] at q
      exact q
  · exact e0.hok.fresh (Nat.le_of_lt (x.above y c (PySem.mem_of_lookup h)))
  · unfold start
    show _ = N.length
    rw [List.length_append, List.length_map, List.length_replicate]
    omega
theorem fn_of {CX : CXT} {P : Program} {w : World} {K : PySem.W.Frag} {mg : Str → Option Value} {base : Heap} {k : Nat} {f : Addr} {name qual : Str} {params : Arguments} {body : List Stmt} {scope : Scope} {dV kV doc pm cdv ct oc : Value} {an od : Option Addr}
    {osl : Array (Option Value)} {N ps : List Str} {sp : Sp} (lk : K.lookup f = some ⟨oc, od, .func (PySem.W.fnOf name qual params body scope dV kV doc pm an cdv ct), osl⟩) (hcd : PySem.W.codeIn K cdv qual = true) (S : FnScope N ps scope)
    (len : ∀ vs H Q E, sp vs H Q E → vs.length = ps.length)
    (hbody : ∀ (A : Around) (outer : List Env) (s : Shared) (H : Hp) (vs : List V) (Q : VK) (E : XK), Room k (A.deeper (envOfC qual scope s.heap.objs.size f cdv)) → sp vs H Q E →
      ∃ t, PSs (cxOf CX P w K mg base N qual scope f cdv A outer s H E) body t ∧ t { nx := fun _ H' => Q .non H', rt := Q } (start N vs) H) :
    FnOk P w K mg base CX (k + 1) f (PySem.W.fnOf name qual params body scope dV kV doc pm an cdv ct) ps sp := by
  refine ⟨len, fun A outer s H args us vs Q E hr e0 hb r hsp => ?_⟩
  have hl := len _ _ _ _ hsp
  have KX : K.In s.heap := e0.mod.kin.keeps fun b o e => (e0.bs b o e).1
  have lim : s.heap.NoLimit := e0.mod.nolimit.keeps fun b o e => (e0.bs b o e).1
  have hkind : ∀ y ∈ ps.zip us, scope.names.lookup y.1 = some .local ∨ (scope.names.lookup y.1 = some .cell ∧ ((cellsFrom (s.heap.objs.size + 1) scope.names []).lookup y.1).isSome = true) := fun ⟨n, v⟩ hy => by
    rcases S.par n (List.of_mem_zip hy).1 with q | q
    · exact .inl q
    · exact .inr ⟨q, PySem.W.cellsFrom_some _ _ _ (.inl q)⟩
  refine codeAny_call_function hr.depth (KX _ _ lk) rfl S.co S.gen rfl (PySem.W.codeRec_of KX hcd) (hb _ _ _ _ ?_)
  refine wpAny_newFunctionEnv_cells S.kind hkind fun env he s1 x => ?_
  subst he
  refine ⟨lim.keeps x.toInCall.keep, codeAny_func ?_⟩
  obtain ⟨t, ht, hq⟩ := hbody A outer s H vs Q E (hr.deeper _) hsp
  have I : Inv (cxOf CX P w K mg base N qual scope f cdv A outer s H E) [] (start N vs) H s1 := inv_start S hr.hd e0 hl r x
  refine wpAny_mono (ht [] s1 (start N vs) H _ I hq) (fun fl s' hs => ?_) fun e s' hs => hs
  have fin : ∀ {σ' : St} {H' : Hp} {v : V} {u : Value}, Inv (cxOf CX P w K mg base N qual scope f cdv A outer s H E) [] σ' H' s' → RelV v u → Q v H' → CE outer P w H s Q u s' :=
    fun {σ' H' v u} J rv q => ⟨v, H', J.os, J.bare, J.base, J.hok, rv, q⟩
  cases fl with
  | ret u =>
    obtain ⟨v, σ', H', J, rv, q⟩ := hs
    exact fin J rv q
  | next =>
    obtain ⟨σ', H', J, q⟩ := hs
    exact fin (v := V.non) (u := Value.none) J rfl q
  | brk =>
    obtain ⟨_, _, _, q⟩ := hs
    exact False.elim q
  | cont =>
    obtain ⟨_, _, _, q⟩ := hs
    exact False.elim q
end L2
namespace L2
open PySem PySem.Spec PyProof.Rows
section
variable {X : Cx} {x : Str} {p pos : Pos} {e : Expr} {es : List Expr} {t : TA} {id T : String} {r : List V → Hp → VK → Prop}
def tCB (r : List V → Hp → VK → Prop) (t : TA) : TE := fun σ H Q => t σ H fun vs H1 => r vs H1 Q
theorem pe_callB (hc : CallR X (.builtin id) r) (hg : Gl X x) (hm : X.mg x = none) (hv : bootBuiltins x = some (.builtin id)) (ha : PA X (e :: es) t) (hn : x ≠ "__name__" := by decide) (hdb : (x == ("__debug__" : Str)) = false := by decide)
    (he : starEach (e :: es) X.env = (false, eval e X.env) :: starEach es X.env := by rfl) (hpl : (backTo pos (starEach es X.env)).any (·.1) = false := by rfl) : PE X (.Call (.Name x p) (e :: es) [] pos) (tCB r t) := by
  intro pins s σ H Q I h
  refine wpAny_Call_Name_kw (ld_blt I hg hm hv ?_ hn hdb)
  exact PyProof.Rows.callWith_builtin1 (thn (ha pos pins s σ H _ I h) fun us s1 ⟨vs, H1, I1, r1, q1⟩ => hc pins s1 σ H1 vs us Q I1 r1 q1) he hpl
theorem pe_callTy (hc : CallR X (.type T) r) (hg : Gl X x) (hm : X.mg x = none) (hv : bootBuiltins x = some (.type T)) (ha : PA X (e :: es) t) (hn : x ≠ "__name__" := by decide) (hdb : (x == ("__debug__" : Str)) = false := by decide)
    (he : starEach (e :: es) X.env = (false, eval e X.env) :: starEach es X.env := by rfl) (hpl : (backTo pos (starEach es X.env)).any (·.1) = false := by rfl) : PE X (.Call (.Name x p) (e :: es) [] pos) (tCB r t) := by
  intro pins s σ H Q I h
  refine wpAny_Call_Name_kw (ld_blt I hg hm hv ?_ hn hdb)
  exact PyProof.Rows.callWith_type1 (thn (ha pos pins s σ H _ I h) fun us s1 ⟨vs, H1, I1, r1, q1⟩ => hc pins s1 σ H1 vs us Q I1 r1 q1) he hpl
end
end L2
namespace HT
open PySem PyProof.Rows
section
open PySem.SeqAt
open PySem.AutoSeq1 (wpAny_loadPart')
open PySem.MeetsSeq PySem.MeetsSeq2 PySem.MeetsSeq3
end
section
variable {prog : Program} {w : World} {A : Around} {E : Value → Shared → Prop} {s : Shared}
def sIx (n d : Nat) : Option Int → Nat
  | none => d
  | some v => if v < 0 then (v + (n : Int)).toNat else min v.toNat n
end
end HT
namespace L2
open PySem PySem.Spec PyProof.Rows
abbrev TO := St → Hp → (Option Int → Hp → Prop) → Prop
def PO (X : Cx) (e : Option Expr) (t : TO) : Prop :=
  ∀ (pins : List (Addr × Obj)) (s : Shared) (σ : St) (H : Hp) (Q : Option Int → Hp → Prop), Inv X pins σ H s → t σ H Q →
    wpAny (model X.prog X.w) X.A (evalPart e X.env) (fun u s' => ∃ o H', Inv X pins σ H' s' ∧ IsPart u o ∧ Q o H') X.xe s
def tNoPart : TO := fun _ H Q => Q none H
inductive tPartS (x : V) (H : Hp) (Q : Option Int → Hp → Prop) : Prop
  | mk (i : Int) (h : x = .int i) (k : Q (some i) H)
def tPart (t : TE) : TO := fun σ H Q => t σ H fun x H1 => tPartS x H1 Q
section
variable {X : Cx} {e : Expr} {te : TE} {lo hi : Option Expr} {tl th : TO} {pos p2 : Pos}
theorem po_none : PO X none tNoPart := by
  intro pins s σ H Q I h
  rw [evalPart_none]
  exact wpAny_pure ⟨none, H, I, .none, h⟩
theorem po_some (h : PE X e te) : PO X (some e) (tPart te) := by
  intro pins s σ H Q I hw
  rw [evalPart_some]
  refine thn (h pins s σ H _ I hw) fun u s1 hq__ => ?_
  obtain ⟨x, H1, I1, r1, q1⟩ := hq__
  obtain ⟨i, rfl, q⟩ := q1
  obtain ⟨t, rfl⟩ := r1
  exact ⟨some i, H1, I1, .int i t, q⟩
def SlR (X : Cx) (r : V → Option Int → Option Int → Hp → VK → Prop) : Prop :=
  ∀ (pins : List (Addr × Obj)) (s : Shared) (σ : St) (H : Hp) (x : V) (v vl vu : Value) (lo hi : Option Int) (sl : Addr) (Q : VK), Inv X pins σ H s → RelV x v → s.heap.IsSliceOf sl vl vu .none → IsPart vl lo → IsPart vu hi → r x lo hi H Q →
    ∃ T id, typeLookup (.type T) "__getitem__" = pure (some (.builtin id)) ∧ s.TypeIs v T ∧ wpAny (model X.prog X.w) X.A (getItem v (.ref sl)) (EP X pins σ Q) X.xe s
theorem SlR.or {r r' : V → Option Int → Option Int → Hp → VK → Prop} (h : SlR X r) (h' : SlR X r') : SlR X (fun x lo hi H Q => r x lo hi H Q ∨ r' x lo hi H Q) := by
  intro pins s σ H x v vl vu lo hi sl Q I rx hs pl pu q
  rcases q with q | q
  · exact h pins s σ H x v vl vu lo hi sl Q I rx hs pl pu q
  · exact h' pins s σ H x v vl vu lo hi sl Q I rx hs pl pu q
def tSl (r : V → Option Int → Option Int → Hp → VK → Prop) (te : TE) (tl th : TO) : TE := fun σ H Q => te σ H fun x H1 => tl σ H1 fun l H2 => th σ H2 fun u H3 => r x l u H3 Q
theorem pe_slice {r : V → Option Int → Option Int → Hp → VK → Prop} (hr : SlR X r) (he : PE X e te) (hl : PO X lo tl) (hu : PO X hi th) : PE X (.Subscript e (.Slice lo hi none p2) pos) (tSl r te tl th) := by
  intro pins s σ H Q I h
  refine Subscript_ (thn (he pins s σ H _ I h) fun v s1 hq__ => ?_)
  obtain ⟨x, H1, I1, r1, q1⟩ := hq__
  refine wpAny_Slice (thn (hl pins s1 σ H1 _ I1 q1) fun vl s2 ⟨l, H2, I2, pl, q2⟩ => thn (hu pins s2 σ H2 _ I2 q2) fun vu s3 hq__ => ?_)
  obtain ⟨u, H3, I3, pu, q3⟩ := hq__
  rw [evalPart_none]
  refine wpAny_pure ?_
  have I4 : Inv X pins σ H3 { s3 with heap := s3.heap.push { cls := .type "slice", data := .fields #[vl, vu, .none] } } := I3.kept (t' := s3.toks) fun b ob q => Heap.get?_push_of_some _ q
  obtain ⟨T, id, hT, ht, hg⟩ := hr pins { s3 with heap := s3.heap.push { cls := .type "slice", data := .fields #[vl, vu, .none] } } σ H3 x v vl vu l u s3.heap.objs.size Q I4 r1 (Heap.IsSliceOf.new ..) pl pu q3
  show wpAny (model X.prog X.w) X.A (subscriptTail e (.Slice lo hi none p2) v (.ref s3.heap.objs.size)) (EP X pins σ Q) X.xe { s3 with heap := s3.heap.push { cls := .type "slice", data := .fields #[vl, vu, .none] } }
  exact tail_any (ops := [.ref s3.heap.objs.size, v]) ht hT hg (by with_unfolding_all rfl)
def cutV (xs : List V) (lo hi : Option Int) : List V := (xs.drop (HT.sIx xs.length 0 lo)).take (HT.sIx xs.length xs.length hi - HT.sIx xs.length 0 lo)
theorem cutV_length (xs : List V) (lo hi : Option Int) : (cutV xs lo hi).length ≤ xs.length := by
  unfold cutV
  rw [List.length_take, List.length_drop]
  omega
end
end L2
namespace L2
open PySem PySem.Spec PyProof.Rows
def ixN (n : Nat) (i : Int) : Option Nat := if 0 ≤ i then (if i < n then some i.toNat else none) else if -(n : Int) ≤ i then some (i + n).toNat else none
def atI {α : Type} (xs : List α) (i : Int) : Option α := (ixN xs.length i).bind fun j => xs[j]?
theorem ixN_seq {n : Nat} {i : Int} {j : Nat} (h : ixN n i = some j) : seqIndex? i n = some j ∧ j < n ∧ -(n : Int) ≤ i ∧ i < n := by
  unfold ixN at h
  by_cases h0 : 0 ≤ i
  · rw [if_pos h0] at h
    by_cases h1 : i < n
    · rw [if_pos h1] at h
      have e : i.toNat = j := Option.some.inj h
      exact ⟨by rw [seqIndex_of h0 h1, e], by omega, by omega, h1⟩
    · rw [if_neg h1] at h; cases h
  · rw [if_neg h0] at h
    by_cases h1 : -(n : Int) ≤ i
    · rw [if_pos h1] at h
      have e : (i + n).toNat = j := Option.some.inj h
      exact ⟨by rw [seqIndex_neg (by omega) h1, e], by omega, h1, by omega⟩
    · rw [if_neg h1] at h; cases h
theorem atI_get {α : Type} {xs : List α} {i : Int} {v : α} (h : atI xs i = some v) : ∃ j, seqIndex? i xs.length = some j ∧ xs[j]? = some v ∧ j < xs.length ∧ -(xs.length : Int) ≤ i ∧ i < xs.length := by
  unfold atI at h
  cases e : ixN xs.length i with
  | none => rw [e] at h; cases h
  | some j =>
    rw [e] at h
    obtain ⟨h1, h2, h3, h4⟩ := ixN_seq e
    exact ⟨j, h1, h, h2, h3, h4⟩
theorem atI_nat {α : Type} {xs : List α} {j : Nat} {v : α} (h : xs[j]? = some v) : atI xs (j : Int) = some v := by
  have hj : j < xs.length := (List.getElem?_eq_some_iff.mp h).1
  have e : ixN xs.length (j : Int) = some j := by
    unfold ixN
    rw [if_pos (by omega), if_pos (by omega)]; simp
  unfold atI; rw [e]; exact h
def PlainIx (b : Expr) : Prop := ∀ o i, subscripted b false o i = operate [o, i] (getItem o i)
def IxR (X : Cx) (r : R2) : Prop :=
  ∀ (value slice : Expr) (pins : List (Addr × Obj)) (s : Shared) (σ : St) (H : Hp) (x y : V) (v u : Value) (Q : VK), Inv X pins σ H s → RelV x v → RelV y u → r x y H Q →
    subscripted slice false v u = operate [v, u] (getItem v u) → wpAny (model X.prog X.w) X.A (subscriptTail value slice v u) (EP X pins σ Q) X.xe s
def MtR (X : Cx) (id : String) (r : V → List V → Hp → VK → Prop) : Prop :=
  ∀ (pins : List (Addr × Obj)) (s : Shared) (σ : St) (H : Hp) (x : V) (xs : List V) (v : Value) (us : List Value) (Q : VK), Inv X pins σ H s → RelV x v → Vals xs us → r x xs H Q →
    wpAny (model X.prog X.w) X.A (call (.builtin id) (v :: us)) (EP X pins σ Q) X.xe s
section
variable {X : Cx} {a b : Expr} {ta tb : TE} {pos : Pos}
theorem IxR.or {r r' : R2} (h : IxR X r) (h' : IxR X r') : IxR X (fun x y H Q => r x y H Q ∨ r' x y H Q) := by
  intro value slice pins s σ H x y v u Q I rx ry q hs
  rcases q with q | q
  · exact h value slice pins s σ H x y v u Q I rx ry q hs
  · exact h' value slice pins s σ H x y v u Q I rx ry q hs
theorem MtR.or {id : String} {r r' : V → List V → Hp → VK → Prop} (h : MtR X id r) (h' : MtR X id r') : MtR X id (fun x xs H Q => r x xs H Q ∨ r' x xs H Q) := by
  intro pins s σ H x xs v us Q I rx rs q
  rcases q with q | q
  · exact h pins s σ H x xs v us Q I rx rs q
  · exact h' pins s σ H x xs v us Q I rx rs q
theorem pe_ix {r : R2} (hr : IxR X r) (ha : PE X a ta) (hb : PE X b tb) (hs : PlainIx b) : PE X (.Subscript a b pos) (tOp r ta tb) := by
  intro pins s σ H Q I h
  exact Subscript_ (binT ha hb I h fun v u s2 x y H2 I2 rx ry q => hr a b pins s2 σ H2 x y v u Q I2 rx ry q (hs _ _))
inductive rIxLS (K : PySem.W.Frag) (x y : V) (H : Hp) (Q : VK) : Prop
  | mk (p : Addr) (xs : List V) (i : Int) (v : V) (hx : x = .ref p) (hy : y = .int i) (hs : SqL K H p xs) (ha : atI xs i = some v) (k : Q v H)
def rIxL (K : PySem.W.Frag) : R2 := fun x y H Q => rIxLS K x y H Q
inductive rIxTS (K : PySem.W.Frag) (x y : V) (H : Hp) (Q : VK) : Prop
  | mk (p : Addr) (xs : List V) (i : Int) (v : V) (hx : x = .ref p) (hy : y = .int i) (hs : SqT K H p xs) (ha : atI xs i = some v) (k : Q v H)
theorem ix_list : IxR X (rIxL X.K) := by
  intro value slice pins s σ H x y v u Q I rx ry h hs
  obtain ⟨p, xs, i, z, rfl, rfl, hq, he, q⟩ := h
  cases rx
  obtain ⟨t, rfl⟩ := ry
  obtain ⟨its, r, pl, hz⟩ := I.list hq
  obtain ⟨j, h1, h2, h3, h4, h5⟩ := atI_get he
  obtain ⟨w, ew, rw'⟩ := r.get h2
  have hl := r.length
  have hn := line63
  have fin : EP X pins σ Q w s := ⟨z, H, I, rw', q⟩
  by_cases h0 : 0 ≤ i
  · have hj : i.toNat = j := by
      rw [seqIndex_of h0 h5] at h1
      exact Option.some.inj h1
    exact item_listR pl.isList h0 (by omega) (by rw [hj]; simpa using ew) fin hs
  · have hj : (i + (its.toArray.size : Int)).toNat = j := by
      rw [seqIndex_neg (by omega) h4] at h1
      rw [List.size_toArray, ← hl]
      exact Option.some.inj h1
    exact subscriptTail_builtinR (x := w) pl.isList.typeIs slot_list_getitem.lookup
      (wpAny_getItem_list_neg (Q := fun r s' => r = w ∧ EP X pins σ Q r s') pl.isList (by omega) (by rw [List.size_toArray] <;> omega) (by omega) (by rw [hj]; simpa using ew) ⟨rfl, fin⟩) hs
theorem Inv.lst {pins : List (Addr × Obj)} {σ : St} {H : Hp} {s : Shared} {p : Addr} {xs : List V} (I : Inv X pins σ H s) (h : H p = some (.lst xs)) :
    ∃ (its : List Value) (n : Nat), Vals xs its ∧ s.heap.get? p = some { cls := .type "list", data := .seq its.toArray n } ∧ xs.length ≤ sizeLine := by
  obtain ⟨z, its, n, r, e⟩ := I.hok p _ h
  exact ⟨its, n, r, e, z⟩
theorem slice_bounds (lo hi : Option Int) (n : Nat) : (sliceBounds lo hi none n).1 = ((HT.sIx n 0 lo : Nat) : Int) ∧ (sliceBounds lo hi none n).2.1 = ((HT.sIx n n hi : Nat) : Int) ∧ (sliceBounds lo hi none n).2.2 = 1 := by
  refine ⟨?_, ?_, rfl⟩
  · cases lo with
    | none => simp [sliceBounds, HT.sIx]
    | some i =>
      simp only [sliceBounds, HT.sIx, Option.getD_none, show (1 : Int) > 0 by decide, if_true]
      by_cases h : i < 0
      · simp only [h, if_true] <;> omega
      · simp only [h, if_false] <;> omega
  · cases hi with
    | none => simp [sliceBounds, HT.sIx]
    | some i =>
      simp only [sliceBounds, HT.sIx, Option.getD_none, show (1 : Int) > 0 by decide, if_true]
      by_cases h : i < 0
      · simp only [h, if_true] <;> omega
      · simp only [h, if_false] <;> omega
theorem slicePick_cut (its : List Value) (lo hi : Option Int) : slicePick its.toArray lo hi none = ((its.drop (HT.sIx its.length 0 lo)).take (HT.sIx its.length its.length hi - HT.sIx its.length 0 lo)).toArray := by
  obtain ⟨h1, h2, h3⟩ := slice_bounds lo hi its.toArray.size
  unfold slicePick
  rw [h1, h2, h3]
  simp only [sliceRange_one, pick_run, List.size_toArray] <;> rfl
def rSlL (K : PySem.W.Frag) : V → Option Int → Option Int → Hp → VK → Prop := fun x lo hi H Q => ∃ a xs, x = .ref a ∧ SqL K H a xs ∧ ∀ p, H p = none → Q (.ref p) (upd H p (.lst (cutV xs lo hi)))
theorem sl_list : SlR X (rSlL X.K) := by
  intro pins s σ H x v vl vu lo hi sl Q I rx hs pl pu h
  obtain ⟨a, xs, rfl, hx, q⟩ := h
  cases rx
  obtain ⟨its, r, ht, hz⟩ := I.list hx
  have hlen := r.length
  refine ⟨"list", _, slot_list_getitem.lookup, ht.isList.typeIs, ?_⟩
  refine wpAny_getItem_list_slice ht.isList hs pl pu .none (by simp) ?_ (by rw [List.size_toArray] <;> omega)
  rw [slicePick_cut, ← hlen]
  refine ⟨.ref s.heap.objs.size, _, I.laid (t' := s.toks) (o := .lst (cutV xs lo hi)) (fun b ob q => Heap.get?_push_of_some _ q) (Nat.le_refl _) ?_, rfl, q _ (I.hok.fresh (Nat.le_refl _))⟩
  exact ⟨Nat.le_trans (cutV_length xs lo hi) hz, _, 0, (r.drop (HT.sIx xs.length 0 lo)).take (HT.sIx xs.length xs.length hi - HT.sIx xs.length 0 lo), Heap.get?_push_size _ rfl⟩
def flatV : V → Bool
  | .non => true
  | .bl _ => true
  | .int _ => true
  | .str _ => true
  | _ => false
def eqV : V → V → Bool
  | .non, .non => true
  | .bl a, .bl b => a == b
  | .bl a, .int b => (if a then 1 else 0) == b
  | .int a, .bl b => a == (if b then 1 else 0)
  | .int a, .int b => a == b
  | .str a, .str b => a == b
  | _, _ => false
theorem eqAt_V {A : Around} {s : Shared} {y x : V} {u v : Value} (ry : RelV y u) (rx : RelV x v) (fy : flatV y = true) (fx : flatV x = true) : SeqAt.EqAt A s u v (eqV y x) := by
  cases y with
  | non =>
    cases ry
    cases x with
    | non => cases rx; exact SeqAt.EqAt.same _
    | bl b => cases rx; exact SeqAt.EqAt.none_bool b
    | int b => obtain ⟨t, rfl⟩ := rx; exact SeqAt.EqAt.none_int b t
    | str b => obtain ⟨t, rfl⟩ := rx; exact SeqAt.EqAt.none_str b t
    | _ => exact absurd (show false = true from fx) Bool.false_ne_true
  | bl a =>
    cases ry
    cases x with
    | non => cases rx; exact SeqAt.EqAt.bool_none a
    | bl b => cases rx; exact SeqAt.EqAt.bool_bool a b
    | int b => obtain ⟨t, rfl⟩ := rx; exact SeqAt.EqAt.bool_int a b t
    | str b => obtain ⟨t, rfl⟩ := rx; exact SeqAt.EqAt.bool_str a b t
    | _ => exact absurd (show false = true from fx) Bool.false_ne_true
  | int a =>
    obtain ⟨t', rfl⟩ := ry
    cases x with
    | non => cases rx; exact SeqAt.EqAt.int_none a t'
    | bl b => cases rx; exact SeqAt.EqAt.int_bool a t' b
    | int b => obtain ⟨t, rfl⟩ := rx; exact SeqAt.EqAt.int_int a t' b t
    | str b => obtain ⟨t, rfl⟩ := rx; exact SeqAt.EqAt.int_str a t' b t
    | _ => exact absurd (show false = true from fx) Bool.false_ne_true
  | str a =>
    obtain ⟨t', rfl⟩ := ry
    cases x with
    | non => cases rx; exact SeqAt.EqAt.str_none a t'
    | bl b => cases rx; exact SeqAt.EqAt.str_bool a t' b
    | int b => obtain ⟨t, rfl⟩ := rx; exact SeqAt.EqAt.str_int a t' b t
    | str b => obtain ⟨t, rfl⟩ := rx; exact SeqAt.EqAt.str_str a t' b t
    | _ => exact absurd (show false = true from fx) Bool.false_ne_true
  | _ => exact absurd (show false = true from fy) Bool.false_ne_true
def eqU (x : V) (u : Value) : Bool := match u with
  | .none => eqV .non x
  | .bool b => eqV (.bl b) x
  | .int i _ => eqV (.int i) x
  | .str z _ => eqV (.str z) x
  | _ => false
theorem eqU_of {x y : V} {u : Value} (r : RelV y u) (f : flatV y = true) : eqU x u = eqV y x := by
  cases y with
  | non => cases r; rfl
  | bl b => cases r; rfl
  | int i => obtain ⟨t, rfl⟩ := r; rfl
  | str z => obtain ⟨t, rfl⟩ := r; rfl
  | _ => exact absurd (show false = true from f) Bool.false_ne_true
theorem any_eqU {x : V} : ∀ {xs : List V} {us : List Value}, Vals xs us → xs.all flatV = true → us.any (eqU x) = xs.any fun y => eqV y x
  | _, _, .nil, _ => rfl
  | y :: xs, u :: us, .cons r t, f => by
    rw [List.all_cons, Bool.and_eq_true] at f
    rw [List.any_cons, List.any_cons, eqU_of r f.1, any_eqU t f.2]
theorem mem_eqAt {A : Around} {s : Shared} {x : V} {v : Value} (rx : RelV x v) (fx : flatV x = true) : ∀ {xs : List V} {us : List Value}, Vals xs us → xs.all flatV = true → ∀ u ∈ us, SeqAt.EqAt A s u v (eqU x u)
  | _, _, .nil, _ => fun u hu => by cases hu
  | y :: xs, u :: us, .cons r t, f => fun u' hu => by
    rw [List.all_cons, Bool.and_eq_true] at f
    rcases List.mem_cons.mp hu with rfl | hu
    · rw [eqU_of r f.1]; exact eqAt_V r rx f.1 fx
    · exact mem_eqAt rx fx t f.2 u' hu
def inV (x : V) (xs : List V) : Bool := xs.any fun y => eqV y x
def rIn (K : PySem.W.Frag) (neg : Bool) : R2 := fun x y H Q => ∃ p xs, y = .ref p ∧ (SqL K H p xs ∨ SqT K H p xs) ∧ flatV x = true ∧ xs.all flatV = true ∧ Q (.bl (if neg then !inV x xs else inV x xs)) H
theorem op_in_seq : OpR X (compareOp .In) (rIn X.K false) := by
  intro pins s σ H x y v u Q I rx ry h
  obtain ⟨p, xs, rfl, hq, fx, fs, q⟩ := h
  cases ry
  rcases hq with hq | hq
  · obtain ⟨its, r, pl, hz⟩ := I.list hq
    refine SeqAt.in_listAt (eqU x) pl.isList (fun w hw => mem_eqAt rx fx r fs w (by simpa using hw)) ⟨.bl _, H, I, rfl, ?_⟩
    rw [show its.toArray.any (eqU x) = its.any (eqU x) by simp, any_eqU r fs]
    exact q
  · obtain ⟨its, r, pl, hz⟩ := I.tuple hq
    refine SeqAt.in_tupleAt (eqU x) pl (fun w hw => mem_eqAt rx fx r fs w (by simpa using hw)) ⟨.bl _, H, I, rfl, ?_⟩
    rw [show its.toArray.any (eqU x) = its.any (eqU x) by simp, any_eqU r fs]
    exact q
theorem op_notIn_seq : OpR X (compareOp .NotIn) (rIn X.K true) := by
  intro pins s σ H x y v u Q I rx ry h
  obtain ⟨p, xs, rfl, hq, fx, fs, q⟩ := h
  cases ry
  rcases hq with hq | hq
  · obtain ⟨its, r, pl, hz⟩ := I.list hq
    refine SeqAt.notIn_listAt (eqU x) pl.isList (fun w hw => mem_eqAt rx fx r fs w (by simpa using hw)) ⟨.bl _, H, I, rfl, ?_⟩
    rw [show its.toArray.any (eqU x) = its.any (eqU x) by simp, any_eqU r fs]
    exact q
  · obtain ⟨its, r, pl, hz⟩ := I.tuple hq
    refine SeqAt.notIn_tupleAt (eqU x) pl (fun w hw => mem_eqAt rx fx r fs w (by simpa using hw)) ⟨.bl _, H, I, rfl, ?_⟩
    rw [show its.toArray.any (eqU x) = its.any (eqU x) by simp, any_eqU r fs]
    exact q
theorem call_len_seq : CallR X (.builtin "len") (fun xs H Q => ∃ p ys, xs = [.ref p] ∧ (SqL X.K H p ys ∨ SqT X.K H p ys) ∧ Q (.int ys.length) H) := by
  intro pins s σ H xs us Q I r h
  obtain ⟨p, ys, rfl, hq, q⟩ := h
  obtain ⟨u, rfl, rx⟩ := vals1 r
  cases rx
  have hn := line63
  rcases hq with hq | hq
  · obtain ⟨its, r', pl, hz⟩ := I.list hq
    have hlen := r'.length
    exact Calls.call_len_list pl.isList (by simp only [List.size_toArray] <;> omega) ⟨.int ys.length, H, I.tok _, ⟨s.toks + 1, by rw [List.size_toArray, hlen]⟩, q⟩
  · obtain ⟨its, r', pl, hz⟩ := I.tuple hq
    have hlen := r'.length
    exact len_tuple pl (by simp only [List.size_toArray] <;> omega) ⟨.int ys.length, H, I.tok _, ⟨s.toks + 1, by rw [List.size_toArray, hlen]⟩, q⟩
theorem CallR.or {f : Value} {r r' : List V → Hp → VK → Prop} (h : CallR X f r) (h' : CallR X f r') : CallR X f (fun xs H Q => r xs H Q ∨ r' xs H Q) := by
  intro pins s σ H xs us Q I rs q
  rcases q with q | q
  · exact h pins s σ H xs us Q I rs q
  · exact h' pins s σ H xs us Q I rs q
theorem call_list_of : CallR X (.type "list") (fun xs H Q => ∃ p ys, xs = [.ref p] ∧ (SqL X.K H p ys ∨ SqT X.K H p ys) ∧ ∀ l, H l = none → Q (.ref l) (upd H l (.lst ys))) := by
  intro pins s σ H xs us Q I r h
  obtain ⟨p, ys, rfl, hq, q⟩ := h
  obtain ⟨u, rfl, rx⟩ := vals1 r
  cases rx
  have fin : ∀ (its : List Value), Vals ys its → ys.length ≤ sizeLine → ∀ (h' : Heap) (c' : Nat), (∀ b o', s.heap.get? b = some o' → h'.get? b = some o') →
      h'.get? s.heap.objs.size = some { cls := .type "list", dict := none, data := .seq its.toArray c', slots := #[] } → EP X pins σ Q (.ref s.heap.objs.size) { s with heap := h' } := fun its r' hz h' c' kp e =>
    ⟨.ref s.heap.objs.size, _, I.laid (t' := s.toks) kp (Nat.le_refl _) (show ObjOk X.prog X.w _ h' _ (.lst ys) from ⟨hz, its, c', r', e⟩), rfl, q _ (I.hok.fresh (Nat.le_refl _))⟩
  rcases hq with hq | hq
  · obtain ⟨its, r', pl, hz⟩ := I.list hq
    have hlen := r'.length
    obtain ⟨o, ho, hc, n, hd⟩ := pl.isList
    exact call_list_seq p (.inl rfl) ho hc hd (fun h' c' kp e => fin its r' hz h' c' kp e) (by simp only [List.size_toArray] <;> omega)
  · obtain ⟨its, r', pl, hz⟩ := I.tuple hq
    have hlen := r'.length
    obtain ⟨o, ho, hc, n, hd⟩ := pl
    exact call_list_seq p (.inr rfl) ho hc hd (fun h' c' kp e => fin its r' hz h' c' kp e) (by simp only [List.size_toArray] <;> omega)
def tyV (K : PySem.W.Frag) (T : String) (x : V) (H : Hp) : Prop := match x with
  | .str _ => T = "str"
  | .int _ => T = "int"
  | .ref p => (T = "list" ∧ ∃ xs, SqL K H p xs) ∨ (T = "tuple" ∧ ∃ o, K.lookup p = some o ∧ o.cls = .type "tuple" ∧ o.dict = none) ∨
      (T = "dict" ∧ ((∃ kvs, H p = some (.dK kvs)) ∨ ∃ kvs, H p = some (.dT kvs))) ∨ (T = "set" ∧ ∃ S n, H p = some (.set S n))
  | _ => False
theorem tyV_is {pins : List (Addr × Obj)} {σ : St} {H : Hp} {s : Shared} {T : String} {x : V} {v : Value} (I : Inv X pins σ H s) (r : RelV x v) (ty : tyV X.K T x H) :
    s.TypeIs v T ∧ ∀ a, v = .ref a → ∃ ob, s.heap.get? a = some ob ∧ ob.dict = none := by
  cases x with
  | str z =>
    obtain ⟨t, rfl⟩ := r
    cases (show T = "str" from ty)
    exact ⟨typeIs_str s z t, fun _ e => nomatch e⟩
  | int i =>
    obtain ⟨t, rfl⟩ := r
    cases (show T = "int" from ty)
    exact ⟨typeIs_int s i t, fun _ e => nomatch e⟩
  | ref p =>
    cases r
    rcases ty with ⟨rfl, xs, hq⟩ | ⟨rfl, o, hk, hc, hd⟩ | ⟨rfl, hk⟩ | ⟨rfl, S, n, hk⟩
    · obtain ⟨its, _, pl, _⟩ := I.list hq
      refine ⟨pl.isList.typeIs, fun a e => ?_⟩
      cases e
      obtain ⟨o, n, e, c, hd, _⟩ := pl
      exact ⟨o, e, hd⟩
    · refine ⟨⟨o, I.kIn p o hk, hc⟩, fun a e => ?_⟩
      cases e
      exact ⟨o, I.kIn _ o hk, hd⟩
    · have z : ∃ o, s.heap.get? p = some o ∧ o.ExactDict := by
        rcases hk with ⟨kvs, hk⟩ | ⟨kvs, hk⟩
        · obtain ⟨_, _, _, _, o, _, _, e, ex, _⟩ := I.hok p _ hk
          exact ⟨o, e, ex⟩
        · obtain ⟨_, _, _, _, o, _, _, e, ex, _⟩ := I.hok p _ hk
          exact ⟨o, e, ex⟩
      obtain ⟨o, e, ex⟩ := z
      refine ⟨⟨o, e, ex.1⟩, fun a e2 => ?_⟩
      cases e2
      exact ⟨o, e, ex.2.1⟩
    · obtain ⟨o, _, _, _, e, ex, _⟩ := I.hok p _ hk
      refine ⟨⟨o, e, ex.1⟩, fun a e2 => ?_⟩
      cases e2
      exact ⟨o, e, ex.2.1⟩
  | _ => exact False.elim ty
def tBM (K : PySem.W.Frag) (T : String) (r : V → List V → Hp → VK → Prop) (to : TE) (t : TA) : TE := fun σ H Q => to σ H fun x H1 => tyV K T x H1 ∧ t σ H1 fun xs H2 => r x xs H2 Q
variable {o e : Expr} {es : List Expr} {to : TE} {t : TA} {name : Str} {apos cpos : Pos} {T id : String} {r : V → List V → Hp → VK → Prop}
theorem pe_bm (pa : PlainAttrs T) (slot : Slot T name id) (hty : typeOf (.builtin id) = pure (.type "method_descriptor")) (hm : MtR X id r) (ho : PE X o to) (ha : PA X (e :: es) t)
    (hbase : attributeBase o name X.env (eval o X.env) = eval o X.env := by rfl)
    (hfew : ((backTo cpos (starEach (e :: es) X.env)).all (fun x => !x.1) && (backToKw cpos (keywordEach [] X.env)).all (fun x => x.1.isSome)
      && decide ((e :: es).length + ([] : List Keyword).length + (if ([] : List Keyword).isEmpty then 0 else 1) < 30)) = true := by rfl)
    (hline : (apos.endLine == cpos.line) = true := by rfl) (hs : starEach (e :: es) X.env = (false, eval e X.env) :: starEach es X.env := by rfl) (hplain : (backTo cpos (starEach es X.env)).any (·.1) = false := by rfl) :
    PE X (.Call (.Attribute o name apos) (e :: es) [] cpos) (tBM X.K T r to t) := by
  intro pins s σ H Q I h
  refine wpAny_Call_method_late hbase hfew hline rfl (thn (ho pins s σ H _ I h) fun v s1 hq__ => ?_)
  obtain ⟨x, H1, I1, r1, ty, q1⟩ := hq__
  obtain ⟨h1, h2⟩ := tyV_is I1 r1 ty
  refine ⟨T, id, pa, slot, hty, h1, h2, ?_⟩
  have hA := ha cpos pins s1 σ H1 _ I1 q1
  rw [hs] at hA ⊢
  refine Calls.callWith_builtin (by show (false || (backTo cpos (starEach es X.env)).any (·.1)) = false; rw [hplain] <;> rfl) (Calls.evalArgs_plain ?_)
  exact thn hA fun us s2 ⟨vs, H2, I2, r2, q2⟩ => hm pins s2 σ H2 x vs v us Q I2 r1 r2 q2
end
end L2
namespace L2
open PySem PySem.Spec PyProof.Rows
def MtM (X : Cx) (id : String) (r : V → List V → Hp → VK → Prop) : Prop :=
  ∀ (pins : List (Addr × Obj)) (s : Shared) (σ : St) (H : Hp) (x : V) (xs : List V) (v : Value) (us : List Value) (Q : VK), Inv X pins σ H s → RelV x v → Vals xs us → r x xs H Q →
    wpAny (model X.prog X.w) X.A (call (.builtin id) (v :: us)) (EP X pins σ Q) X.xe s
theorem Vals.one : ∀ {x : V} {us : List Value}, Vals [x] us → ∃ u, us = [u] ∧ RelV x u
  | _, _, .cons r .nil => ⟨_, rfl, r⟩
theorem Vals.two : ∀ {x y : V} {us : List Value}, Vals [x, y] us → ∃ u v, us = [u, v] ∧ RelV x u ∧ RelV y v
  | _, _, _, .cons r (.cons q .nil) => ⟨_, _, rfl, r, q⟩
theorem Vals.zero : ∀ {us : List Value}, Vals [] us → us = []
  | _, .nil => rfl
section
variable {X : Cx} {pins : List (Addr × Obj)} {σ : St} {H : Hp} {s : Shared} {l b : Addr} {xs ys zs : List V}
theorem Inv.lset {its its' : List Value} {n : Nat} {f : Array Value → Array Value} {t' : Nat} (I : Inv X pins σ H s) (hH : H l = some (.lst xs))
    (e : s.heap.get? l = some { cls := .type "list", data := .seq its.toArray n }) (hf : f its.toArray = its'.toArray) (hv : Vals ys its') (hz : ys.length ≤ sizeLine) :
    Inv X pins σ (upd H l (.lst ys)) { s with heap := s.heap.update l (Obj.mapSeq f), toks := t' } := by
  have q := PySem.IsL.update e f
  rw [hf] at q
  refine I.write (x := l) (e := l) (by rw [hH]; exact trivial) (.inl rfl) (fun b' u hb hu => (Heap.get?_update_other s.heap (Obj.mapSeq f) (Ne.symm hb)).trans hu) ⟨_, q⟩ ?_
  exact ⟨hz, its', _, hv, q⟩
theorem Inv.lnew {its : List Value} {t' : Nat} (I : Inv X pins σ H s) (hv : Vals ys its) (hz : ys.length ≤ sizeLine) :
    Inv X pins σ (upd H s.heap.objs.size (.lst ys)) { s with heap := s.heap.push { cls := .type "list", data := .seq its.toArray }, toks := t' } :=
  I.laid (fun _ _ q => Heap.get?_push_of_some _ q) (Nat.le_refl _) ⟨hz, its, 0, hv, Heap.get?_push_size _ rfl⟩
theorem Inv.fresh (I : Inv X pins σ H s) : H s.heap.objs.size = none := I.hok.fresh (Nat.le_refl _)
theorem Inv.lstM (I : Inv X pins σ H s) (hH : H l = some (.lst xs)) : xs.length ≤ sizeLine ∧ ∃ (its : List Value) (n : Nat), Vals xs its ∧ xs.length = its.length ∧ s.heap.get? l = some { cls := .type "list", data := .seq its.toArray n } := by
  obtain ⟨z, its, n, r, e⟩ := I.hok l _ hH
  exact ⟨z, its, n, r, r.length, e⟩
end
section
variable {X : Cx}
def rAppend : V → List V → Hp → VK → Prop := fun x vs H Q => ∃ l xs y, x = .ref l ∧ vs = [y] ∧ H l = some (.lst xs) ∧ xs.length < sizeLine ∧ Q .non (upd H l (.lst (xs ++ [y])))
theorem mt_append : MtM X "list.append" rAppend := by
  intro pins s σ H x vs v us Q I rx rv h
  obtain ⟨l, xs, y, rfl, rfl, hH, hz, q⟩ := h
  cases rx
  obtain ⟨u, rfl, ru⟩ := rv.one
  obtain ⟨z, its, n, r, hl, e⟩ := I.lstM hH
  refine call_meets F.slot_list_append ⟨_, e, rfl⟩ F.entry_list_append (F.args_list_append_2 _ _) (PySem.list_append l its.toArray n u (by rw [List.size_toArray]; omega)) ⟨e, ?_⟩
  refine ⟨.non, _, I.lset (its' := its ++ [u]) hH e (by simp) (r.append (.cons ru .nil)) ?_, rfl, q⟩
  rw [List.length_append, List.length_singleton]
  omega
def rCat : R2 := fun x y H Q => ∃ l b xs zs, x = .ref l ∧ y = .ref b ∧ H l = some (.lst xs) ∧ H b = some (.lst zs) ∧ xs.length + zs.length ≤ sizeLine ∧ ∀ p, H p = none → Q (.ref p) (upd H p (.lst (xs ++ zs)))
theorem op_cat : OpR X (binaryOp .Add) rCat := by
  intro pins s σ H x y v u Q I rx ry h
  obtain ⟨l, b, xs, zs, rfl, rfl, hH, hB, hz, q⟩ := h
  cases rx
  cases ry
  obtain ⟨z, its, n, r, hl, e⟩ := I.lstM hH
  obtain ⟨z2, its2, n2, r2, hl2, e2⟩ := I.lstM hB
  refine PySem.P.add_list e e2 ?_ (by rw [List.size_toArray, List.size_toArray]; omega)
  have ea : its.toArray ++ its2.toArray = (its ++ its2).toArray := by simp
  rw [ea]
  exact ⟨.ref _, _, I.lnew (t' := s.toks) (r.append r2) (by rw [List.length_append]; omega), rfl, q _ I.fresh⟩
end
section
variable {prog : Program} {w : World} {A : Around} {E : Value → Shared → Prop} {s : Shared}
end
section
variable {X : Cx}
end
end L2
namespace L2
open PySem PySem.Spec PyProof.Rows
section
variable {κ : Type} [DecidableEq κ]
def valV (kvs : List (κ × V)) (k : κ) : Option V := (kvs.find? fun kv => decide (kv.1 = k)).map (·.2)
def putK (kvs : List (κ × V)) (k : κ) (v : V) : List (κ × V) :=
  if (kvs.any fun kv => decide (kv.1 = k)) = true then kvs.map (fun kv => if kv.1 = k then (kv.1, v) else kv) else kvs ++ [(k, v)]
def dropK (kvs : List (κ × V)) (k : κ) : List (κ × V) := kvs.filter fun kv => decide (kv.1 ≠ k)
theorem valV_pos {p : κ × V} {r : List (κ × V)} {k : κ} (e : p.1 = k) : valV (p :: r) k = some p.2 := by simp [valV, List.find?_cons, e]
theorem valV_neg {p : κ × V} {r : List (κ × V)} {k : κ} (e : ¬ p.1 = k) : valV (p :: r) k = valV r k := by simp [valV, List.find?_cons, e]
theorem valV_any (k : κ) : ∀ kvs : List (κ × V), (kvs.any fun kv => decide (kv.1 = k)) = (valV kvs k).isSome
  | [] => rfl
  | p :: r => by
    rw [List.any_cons]
    by_cases e : p.1 = k
    · simp only [valV_pos e, decide_eq_true e, Bool.true_or, Option.isSome_some]
    · rw [valV_neg e, decide_eq_false e, Bool.false_or]; exact valV_any k r
theorem RelO.isSome_eq {o : Option V} {u : Option Value} (r : RelO o u) : o.isSome = u.isSome := by
  cases o with
  | none => cases u with
    | none => rfl
    | some _ => exact (show False from r).elim
  | some _ => cases u with
    | none => exact (show False from r).elim
    | some _ => rfl
theorem RelO.getD {o : Option V} {u : Option Value} {d : V} {d' : Value} (r : RelO o u) (rd : RelV d d') : RelV (o.getD d) (u.getD d') := by
  cases o with
  | none => cases u with
    | none => exact rd
    | some _ => exact (show False from r).elim
  | some _ => cases u with
    | none => exact (show False from r).elim
    | some _ => exact r
theorem KV.val {kvs : List (κ × V)} {vs : List (κ × Value)} (r : KV kvs vs) (k : κ) : RelO (valV kvs k) (valueAt vs k) := by
  unfold KV at r
  induction r with
  | nil => exact True.intro
  | @cons p q ps qs h t ih =>
    obtain ⟨h1, h2⟩ := h
    by_cases e : p.1 = k
    · have e' : q.1 = k := h1.symm.trans e
      have b : valueAt (q :: qs) k = some q.2 := by simp [valueAt, List.find?_cons, e']
      rw [valV_pos e, b]; exact h2
    · have e' : ¬ q.1 = k := fun z => e (h1.trans z)
      have b : valueAt (q :: qs) k = valueAt qs k := by simp [valueAt, List.find?_cons, e']
      rw [valV_neg e, b]; exact ih
theorem KV.any {kvs : List (κ × V)} {vs : List (κ × Value)} (r : KV kvs vs) (k : κ) : (kvs.any fun kv => decide (kv.1 = k)) = vs.any fun kv => decide (kv.1 = k) := by
  unfold KV at r
  induction r with
  | nil => rfl
  | cons h t ih => rw [List.any_cons, List.any_cons, ih, h.1]
theorem KV.repl {kvs : List (κ × V)} {vs : List (κ × Value)} (r : KV kvs vs) (k : κ) {y : V} {u : Value} (ry : RelV y u) :
    KV (kvs.map fun kv => if kv.1 = k then (kv.1, y) else kv) (vs.map fun kv => if kv.1 = k then (kv.1, u) else kv) := by
  unfold KV at r ⊢
  induction r with
  | nil => exact .nil
  | @cons p q ps qs h t ih =>
    rw [List.map_cons, List.map_cons]
    refine .cons ?_ ih
    obtain ⟨h1, h2⟩ := h
    by_cases e : p.1 = k
    · rw [if_pos e, if_pos (h1.symm.trans e)]; exact ⟨h1, ry⟩
    · rw [if_neg e, if_neg (fun z => e (h1.trans z))]; exact ⟨h1, h2⟩
theorem KV.put {kvs : List (κ × V)} {vs : List (κ × Value)} (r : KV kvs vs) (k : κ) {y : V} {u : Value} (ry : RelV y u) : KV (putK kvs k y) (stored vs k u) := by
  unfold putK stored
  rw [r.any k]
  by_cases e : (vs.any fun kv => decide (kv.1 = k)) = true
  · rw [if_pos e, if_pos e]; exact r.repl k ry
  · rw [if_neg e, if_neg e]; exact Paired.snoc r ⟨rfl, ry⟩
theorem KV.drop {kvs : List (κ × V)} {vs : List (κ × Value)} (r : KV kvs vs) (k : κ) : KV (dropK kvs k) (without vs k) := by
  unfold KV at r ⊢
  unfold dropK without
  induction r with
  | nil => exact .nil
  | @cons p q ps qs h t ih =>
    obtain ⟨h1, h2⟩ := h
    rw [List.filter_cons, List.filter_cons]
    by_cases e : p.1 = k
    · have a : ¬ decide (p.1 ≠ k) = true := by simp [e]
      have b : ¬ decide (q.1 ≠ k) = true := by simp [h1.symm.trans e]
      rw [if_neg a, if_neg b]; exact ih
    · have e' : ¬ q.1 = k := fun z => e (h1.trans z)
      have a : decide (p.1 ≠ k) = true := by simp [e]
      have b : decide (q.1 ≠ k) = true := by simp [e']
      rw [if_pos a, if_pos b]; exact .cons ⟨h1, h2⟩ ih
theorem KV.keys {kvs : List (κ × V)} {vs : List (κ × Value)} (r : KV kvs vs) : kvs.map (·.1) = vs.map (·.1) := by
  unfold KV at r
  induction r with
  | nil => rfl
  | cons h t ih => rw [List.map_cons, List.map_cons, ih, h.1]
theorem KV.length {kvs : List (κ × V)} {vs : List (κ × Value)} (r : KV kvs vs) : kvs.length = vs.length := Paired.length r
end
abbrev KT (H : Hp) : List (List Key × V) → List (List Key × Addr × Value) → Prop := Paired fun p q => p.1 = q.1 ∧ H q.2.1 = some (.tup (p.1.map kV)) ∧ RelV p.2 q.2.2
theorem KT.val {H : Hp} {kvs : List (List Key × V)} {xs : List (List Key × Addr × Value)} (r : KT H kvs xs) (k : List Key) : RelO (valV kvs k) ((atKey xs k).map (·.2)) := by
  induction r with
  | nil => exact True.intro
  | @cons p q ps qs h t ih =>
    obtain ⟨h1, _, h2⟩ := h
    by_cases e : p.1 = k
    · have e' : q.1 = k := h1.symm.trans e
      have b : atKey (q :: qs) k = some q.2 := by simp [atKey, List.find?_cons, e']
      rw [valV_pos e, b]; exact h2
    · have e' : ¬ q.1 = k := fun z => e (h1.trans z)
      have b : atKey (q :: qs) k = atKey qs k := by simp [atKey, List.find?_cons, e']
      rw [valV_neg e, b]; exact ih
theorem KT.repl {H : Hp} {kvs : List (List Key × V)} {xs : List (List Key × Addr × Value)} (r : KT H kvs xs) (k : List Key) {y : V} {u : Value} (ry : RelV y u) :
    KT H (kvs.map fun kv => if kv.1 = k then (kv.1, y) else kv) (xs.map (putAt k u)) := by
  induction r with
  | nil => exact .nil
  | @cons p q ps qs h t ih =>
    rw [List.map_cons, List.map_cons]
    refine .cons ?_ ih
    obtain ⟨h1, h2, h3⟩ := h
    unfold putAt
    by_cases e : p.1 = k
    · rw [if_pos e, if_pos (h1.symm.trans e)]; exact ⟨h1, h2, ry⟩
    · rw [if_neg e, if_neg (fun z => e (h1.trans z))]; exact ⟨h1, h2, h3⟩
theorem KT.put {H : Hp} {kvs : List (List Key × V)} {xs : List (List Key × Addr × Value)} (r : KT H kvs xs) (k : List Key) {b : Addr} {y : V} {u : Value} (hb : H b = some (.tup (k.map kV))) (ry : RelV y u) :
    KT H (putK kvs k y) (storedH xs k b u) := by
  have e : (kvs.any fun kv => decide (kv.1 = k)) = (atKey xs k).isSome := by
    rw [valV_any, (r.val k).isSome_eq, Option.isSome_map]
  unfold putK storedH
  rw [e]
  by_cases q : (atKey xs k).isSome = true
  · rw [if_pos q, if_pos q]; exact r.repl k ry
  · rw [if_neg q, if_neg q]; exact Paired.snoc r ⟨rfl, hb, ry⟩
theorem KT.keeps {H H' : Hp} {kvs : List (List Key × V)} {xs : List (List Key × Addr × Value)} (r : KT H kvs xs) (ht : ∀ b ys, H b = some (.tup ys) → H' b = some (.tup ys)) : KT H' kvs xs :=
  Paired.mapP r fun _ _ z => ⟨z.1, ht _ _ z.2.1, z.2.2⟩
section
variable {P : Program} {w : World} {H : Hp} {h : Heap} {a : Addr}
end
def DGet (H : Hp) (a : Addr) (y : V) (r : Option V) : Prop :=
  (∃ kvs k, Rd H a (.dK kvs) ∧ y = kV k ∧ r = valV kvs k) ∨ ∃ kvs k b, Rd H a (.dT kvs) ∧ y = .ref b ∧ H b = some (.tup (k.map kV)) ∧ r = valV kvs k
def DPut (H : Hp) (a : Addr) (y v : V) (H' : Hp) : Prop :=
  (∃ kvs k, H a = some (.dK kvs) ∧ y = kV k ∧ kvs.length < sizeLine ∧ H' = upd H a (.dK (putK kvs k v))) ∨
  ∃ kvs k b, H a = some (.dT kvs) ∧ y = .ref b ∧ H b = some (.tup (k.map kV)) ∧ kvs.length < sizeLine ∧ H' = upd H a (.dT (putK kvs k v))
theorem DGet.k {H : Hp} {a : Addr} {kvs : List (Key × V)} {k : Key} (e : H a = some (.dK kvs)) : DGet H a (kV k) (valV kvs k) := .inl ⟨kvs, k, .inl e, rfl, rfl⟩
theorem DGet.t {H : Hp} {a b : Addr} {kvs : List (List Key × V)} {k : List Key} (e : H a = some (.dT kvs)) (eb : H b = some (.tup (k.map kV))) : DGet H a (.ref b) (valV kvs k) := .inr ⟨kvs, k, b, .inl e, rfl, eb, rfl⟩
theorem DPut.k {H : Hp} {a : Addr} {kvs : List (Key × V)} {k : Key} {v : V} (e : H a = some (.dK kvs)) (hl : kvs.length < sizeLine) : DPut H a (kV k) v (upd H a (.dK (putK kvs k v))) := .inl ⟨kvs, k, e, rfl, hl, rfl⟩
theorem DPut.t {H : Hp} {a b : Addr} {kvs : List (List Key × V)} {k : List Key} {v : V} (e : H a = some (.dT kvs)) (eb : H b = some (.tup (k.map kV))) (hl : kvs.length < sizeLine) :
    DPut H a (.ref b) v (upd H a (.dT (putK kvs k v))) := .inr ⟨kvs, k, b, e, rfl, eb, hl, rfl⟩
section
variable {X : Cx} {pins : List (Addr × Obj)} {σ : St} {H : Hp} {s : Shared} {a : Addr} {y v : V} {u r : Value} {o : Option V} {A : Around} {E : Value → Shared → Prop}
end
section
variable {X : Cx} {pins : List (Addr × Obj)} {σ : St} {H : Hp} {s : Shared} {a : Addr} {kvs : List (Key × V)} {k : Key} {u : Value} {A : Around} {E : Value → Shared → Prop}
end
section
variable {X : Cx} {o i e value : Expr} {pos pos' tpos : Pos} {td ty tv : TE}
end
section
variable {X : Cx} {pos : Pos}
end
structure M1 (X : Cx) (o : Expr) (m : Str) (apos : Pos) (e : Expr) (cpos : Pos) : Prop where
  base : attributeBase o m X.env (eval o X.env) = eval o X.env
  few : ((backTo cpos (starEach [e] X.env)).all (fun x => !x.1) && (backToKw cpos (keywordEach [] X.env)).all (fun x => x.1.isSome)
    && decide (([e] : List Expr).length + ([] : List Keyword).length + (if ([] : List Keyword).isEmpty then 0 else 1) < 30)) = true
  line : (apos.endLine == cpos.line) = true
  trees : backTo cpos (starEach [e] X.env) = [(false, eval e X.env)]
structure M2 (X : Cx) (o : Expr) (m : Str) (apos : Pos) (e f : Expr) (cpos : Pos) : Prop where
  base : attributeBase o m X.env (eval o X.env) = eval o X.env
  few : ((backTo cpos (starEach [e, f] X.env)).all (fun x => !x.1) && (backToKw cpos (keywordEach [] X.env)).all (fun x => x.1.isSome)
    && decide (([e, f] : List Expr).length + ([] : List Keyword).length + (if ([] : List Keyword).isEmpty then 0 else 1) < 30)) = true
  line : (apos.endLine == cpos.line) = true
  trees : backTo cpos (starEach [e, f] X.env) = [(false, eval e X.env), (false, eval f X.env)]
section
variable {X : Cx} {pins : List (Addr × Obj)} {σ : St} {H : Hp} {s : Shared} {a : Addr} {y d : V} {u r : Value} {o : Option V} {A : Around} {E : Value → Shared → Prop}
end
section
variable {X : Cx} {o e f : Expr} {apos cpos : Pos} {td ty tx : TE}
end
section
variable {X : Cx} {pins : List (Addr × Obj)} {σ : St} {H : Hp} {s : Shared} {a : Addr} {kvs : List (Key × V)} {A : Around} {E : Value → Shared → Prop}
end
section
variable {X : Cx} {pins : List (Addr × Obj)} {σ : St} {H : Hp} {s : Shared} {a : Addr} {y : V} {u : Value} {A : Around} {E : Value → Shared → Prop}
end
end L2
namespace Att
open PySem PySem.W PySem.Calls PyProof.Rows
theorem ints_of_wellAll {P : Params} {h : Heap} : ∀ (ns : List Int) (vs : List Value), WellAll P h vs (ns.map WData.int) → IntsAre vs ns := by
  intro ns
  induction ns with
  | nil =>
    intro vs w
    rw [List.map_nil] at w
    cases w
    exact .nil
  | cons n ns ih =>
    intro vs w
    rw [List.map_cons] at w
    cases w with
    | cons a b =>
      cases a
      exact .cons _ _ (ih _ b)
theorem script_of {l : OpenLaw} {n : Nat} (hn : l.most = some n) {P : Params} {h : Heap} {args : List WData} {vals : List Value}
    (hpre : l.row.toRowW.claim.pre args = true) (hwl : WellAll P h vals args) :
    ∃ a vs ns, vals = [Value.ref a] ∧ args = [WData.list (ns.map WData.int)] ∧ h.get? a = some { cls := .type "list", data := .seq vs.toArray } ∧ IntsAre vs ns ∧ ns.length ≤ n := by
  have hsh : WShape.hasAll [] args [.list .int] = true := (pre_splitW hpre).1
  have hc : l.pre.holds [] { args := args } = true := (pre_splitW hpre).2
  obtain ⟨d, r, rfl, h1, h2⟩ := hasAllW_cons hsh
  obtain rfl := hasAllW_nil h2
  obtain ⟨xs, rfl, h3⟩ := hasW_list h1
  obtain ⟨ns, rfl⟩ := items_int h3
  have hlen : ns.length ≤ n := by
    unfold OpenLaw.pre at hc
    have h4 : (WTm.not (.lt (.lit (.int (n : Int))) (.len (.arg 0)))).holds [] { args := [.list (ns.map .int)] } = true := by
      have h4 := (holds_andW hc).1
      rw [hn] at h4
      exact h4
    have h5 := condW_of h4 (w_not (w_lt w_lit (w_len_list (w_arg rfl))))
    rw [List.length_map] at h5
    refine Nat.le_of_not_lt fun q => ?_
    have q' : (n : Int) < ((ns.length : Nat) : Int) := by omega
    first
      | (rw [decide_eq_true q'] at h5; exact absurd h5 (by decide))
      | (simp at h5; omega)
  cases hwl with
  | cons w1 w2 =>
    cases w2
    cases w1 with
    | list ho hall => exact ⟨_, _, ns, rfl, rfl, ho, ints_of_wellAll ns _ hall, hlen⟩
theorem post_true (l : OpenLaw) (args : List WData) : l.row.toRowW.claim.post args (.bool true) args = true :=
  postW_of (r := l.row.toRowW) (X := (true == true))
    (show WShape.has [] (.bool true) .bool = true by first | rfl | decide | simp [WShape.has, WShape.arms, WShape.armsAll])
    (show (WTm.eq .res (.lit (.bool true))).value [] { args := args, res := some (.bool true), after := args } = some (.bool (true == true)) from w_eq_bool (w_res rfl) w_lit) rfl
theorem attach_call {l : OpenLaw} {n : Nat} {q : Program} {loose : List Str} {XP : (Str → Option Value) → Heap → Prop} {YP : World → Heap → Prop} {d : DefRec}
    (hn : l.most = some n) (hdf : d.params.defaults = [])
    (call : ∀ (w : World) (s₀ s₁ : Shared) (mg mb : Str → Option Value) (fa : Addr) (o : Obj) (pm cd doc : Value) (a : Addr) (vs : List Value) (ns : List Int),
      Ground q loose [] XP w s₀ mg mb s₁.heap → YP w s₁.heap →
      s₁.heap.get? fa = some o → o.data = .func (docDef d.name d.params d.body d.scope pm cd doc) → s₁.heap.CodeRec cd d.name → mg d.name = some (.ref fa) →
      s₁.heap.get? a = some { cls := .type "list", data := .seq vs.toArray } → IntsAre vs ns → ns.length ≤ n → s₁.gens = #[] →
      codeAny (model l.prog w) callerA (.call (.ref fa) ⟨[.ref a], []⟩) (fun r s' => r = .ok (.ret (.bool true)) ∧ OldK s₁.heap s'.heap ∧ s'.os = s₁.os ∧ AllBare s'.gens) s₁) :
    WalkO q loose XP YP l.row.toRowW d [] (fun f vs => PySem.call f vs) := by
  intro w s₀ s₁ mg mb G Y fa o pm cd doc dV kV ho hd hcd hD hmg hg args vals as hpre hlay hrd hwl hlo
  obtain rfl : dV = .none := Dflts.none hD hdf
  obtain rfl : kV = .none := Dflts.noKw hD
  obtain ⟨a, vs, ns, rfl, rfl, hobj, hints, hlen⟩ := script_of hn hpre hwl
  refine enter_call (codeAny_mono (call w s₀ s₁ mg mb fa o pm cd doc a vs ns G Y ho (fd_plain hd) hcd hmg hobj hints hlen hg) fun r s' hq => ?_)
  obtain ⟨rfl, h2, h3, h4⟩ := hq
  exact ⟨.inl ⟨.bool true, .bool true, [], rfl, fun _ => rfl, .bool true, post_true l _, fun _ => ⟨List.Pairwise.nil, fun _ hm => (nomatch hm)⟩⟩, h2, h3, h4⟩
section
variable {prog : Program} {w : World} {A : Around} {E : Value → Shared → Prop} {s : Shared} {K : Frag}
def ledger (h : Heap) (L d : Addr) : List (Addr × Obj) := (List.range h.objs.size).filterMap fun a => if a = L ∨ a = d then none else (h.get? a).map fun o => (a, o)
end
end Att
namespace L2
open PySem PySem.Spec PyProof.Rows
theorem vals_ints : ∀ {vs : List Value} {ns : List Int}, IntsAre vs ns → Vals (ns.map V.int) vs
  | _, _, .nil => .nil
  | _, _, .cons n t h => .cons ⟨t, rfl⟩ (vals_ints h)
def Only (H : Hp) : Prop := ∀ b, H b = none ∨ ∃ o xs, H b = some (.frz o (.lst xs))
theorem law_call {P : Program} {w : World} {K : PySem.W.Frag} {mg mb : Str → Option Value} {CX : CXT} {k : Nat} {fa a : Addr} {fd : FuncData} {x : Str} {sp : Sp} {s₁ : Shared} {vs : List Value} {ns : List Int}
    (KX : K.In s₁.heap) (hns : s₁.heap.Ns mainGlobals mg) (hb : s₁.heap.Ns builtinsNs mb) (hbb : ∀ x : Str, x ≠ "__name__" → mb x = bootBuiltins x) (hlim : s₁.heap.NoLimit) (hnd : s₁.heap.NoDigits) (hbm : ∃ bm ob, mg "__builtins__" = some (.ref bm) ∧ bm ≠ builtinsNs ∧ s₁.heap.get? bm = some ob ∧ ob.cls = .type "module" ∧ ob.dict = some builtinsNs ∧ ob.data = .plain) (hg : s₁.gens = #[])
    (ha : s₁.heap.get? a = some { cls := .type "list", data := .seq vs.toArray }) (hi : IntsAre vs ns) (hl : ns.length ≤ sizeLine) (hr : Room k callerA)
    (F : ∀ base : Heap, K.In base → base.Ns mainGlobals mg → FnOk P w K mg base CX k fa fd [x] sp) (hbind : ∀ (s : Shared) (u : Value), BindsTo s fd ⟨[u], []⟩ [(x, u)])
    (hsp : ∀ H : Hp, Only H → SqL K H a (ns.map V.int) → sp [.ref a] H (fun v _ => v = .bl true) fun _ _ _ => False)
    (hCX : ∀ H e s', CX [] H s₁ (fun _ _ _ => False) e s' → False) :
    codeAny (model P w) callerA (.call (.ref fa) ⟨[.ref a], []⟩) (fun r s' => r = .ok (.ret (.bool true)) ∧ OldK s₁.heap s'.heap ∧ s'.os = s₁.os ∧ AllBare s'.gens) s₁ := by
  have rv := vals_ints hi
  have lenV := hi.length
  have core : ∀ H : Hp, Only H → SqL K H a (ns.map V.int) → HOk P w H s₁.heap → (∀ b, H b ≠ none → b = a) → (H a ≠ none → K.lookup a = none) →
      codeAny (model P w) callerA (.call (.ref fa) ⟨[.ref a], []⟩) (fun r s' => r = .ok (.ret (.bool true)) ∧ OldK s₁.heap s'.heap ∧ s'.os = s₁.os ∧ AllBare s'.gens) s₁ := by
    intro H hO hS hok hA hK
    have base_of : ∀ {b : Addr} {o : Obj}, s₁.heap.get? b = some o → H b = none → (hidT s₁.heap H).get? b = some o := fun e n => hidT_get e n
    have noA : ∀ {b : Addr} {o : Obj} {es : Array DictEntry} {ep : Nat}, s₁.heap.get? b = some o → o.data = .dict es ep → H b = none := fun {b o es ep} e d => by
      cases q : H b with
      | none => rfl
      | some u =>
        have e' : b = a := hA b (by rw [q]; simp)
        subst e'
        rw [ha] at e; cases e
        have d' : Data.seq vs.toArray _ = Data.dict es ep := d
        cases d'
    have nsK : ∀ {b : Addr} {m : Str → Option Value}, s₁.heap.Ns b m → (hidT s₁.heap H).Ns b m := fun {b m} ⟨o, es, ep, e, d, r⟩ => ⟨o, es, ep, base_of e (noA e d), d, r⟩
    have hKb : K.In (hidT s₁.heap H) := fun b o e => base_of (KX b o e) (by
      cases q : H b with
      | none => rfl
      | some u =>
        have e' : b = a := hA b (by rw [q]; simp)
        subst e'
        rw [hK (by rw [q]; simp)] at e; cases e)
    have hM : Mod K mg (hidT s₁.heap H) := ⟨hKb, nsK hns, ⟨mb, nsK hb, hbb⟩, let ⟨mc, h1, h2⟩ := hlim; ⟨mc, nsK h1, h2⟩, let ⟨mc, h1, h2⟩ := hnd; ⟨mc, nsK h1, h2⟩, let ⟨bm, ob, h1, h2, h3, h4, h5⟩ := hbm; ⟨bm, ob, h1, h2, base_of h3 (by cases q : H bm with | none => rfl | some u => (have e2 := hA bm (by rw [q]; simp); subst e2; rw [ha] at h3; cases h3; exact absurd (Value.type.inj (show Value.type "list" = Value.type "module" from h4)) (by decide))), h4, h5⟩⟩
    have e0 : Env0 P w K mg (hidT s₁.heap H) callerA [] s₁ H := ⟨rfl, hM, fun b o e => of_hidT e, Nat.le_of_eq (hidT_size _ _), trivial, fun b hb => absurd (show b ∈ ([] : List Addr) from hb) (by simp), hok, .of_eq hg⟩
    refine codeAny_mono ((F _ hKb (nsK hns)).run callerA [] s₁ H ⟨[.ref a], []⟩ [.ref a] [.ref a] _ _ hr e0 (hbind s₁ (.ref a)) (.cons rfl .nil) (hsp H hO hS)) fun r s' h => ?_
    cases r with
    | error e => exact (hCX H e s' h).elim
    | ok fl =>
      cases fl with
      | next => exact False.elim h
      | brk => exact False.elim h
      | cont => exact False.elim h
      | ret u =>
        obtain ⟨v, H', os, bare, un, hok', r', q⟩ := h
        have q' : v = .bl true := q
        subst q'
        obtain rfl : u = Value.bool true := r'
        refine ⟨rfl, OldK.of_keep fun b o e => ?_, os, bare⟩
        cases q : H b with
        | none => exact un.keep b o e q (by intro z; exact absurd (show b ∈ ([] : List Addr) from z) (by simp)) (by simp)
        | some u =>
          rcases hO b with z | ⟨ob, xs, z⟩
          · rw [q] at z; cases z
          · have z2 := un.frzs b ob _ z
            obtain ⟨e1, _⟩ := hok b _ z
            obtain ⟨e2, _⟩ := hok' b _ z2
            rw [e] at e1; cases e1
            exact e2
  cases hk : K.lookup a with
  | some o =>
    have e := KX a o hk
    rw [ha] at e
    cases e
    refine core (fun _ => none) (fun _ => .inl rfl) (.inr ⟨_, vs.toArray, _, hk, rfl, rfl, rfl, by rw [List.size_toArray, lenV]; exact hl, by simpa using rv⟩) (fun b u z => by have z' : (none : Option HO) = some u := z; cases z') (fun b z => absurd rfl z) fun z => absurd rfl z
  | none =>
    refine core (fun b => if b = a then some (.frz { cls := .type "list", data := .seq vs.toArray } (.lst (ns.map V.int))) else none) (fun b => ?_) (.inl (.inr ⟨{ cls := .type "list", data := .seq vs.toArray }, if_pos rfl⟩)) (fun b u z => ?_) (fun b z => ?_) fun _ => hk
    · by_cases hb : b = a
      · exact .inr ⟨_, _, if_pos hb⟩
      · exact .inl (if_neg hb)
    · by_cases hb : b = a
      · have z' := (if_pos hb).symm.trans z
        cases z'
        subst hb
        exact ⟨ha, by rw [List.length_map]; exact hl, vs, _, rv, ha⟩
      · have z' := (if_neg hb).symm.trans z
        cases z'
    · by_cases hb : b = a
      · exact hb
      · exact absurd (if_neg hb) z
end L2
namespace L2
open PySem PySem.Spec PyProof.Rows
abbrev KOf {K : PySem.W.Frag} {h : Heap} (_ : K.In h) : PySem.W.Frag := K
theorem walk_of {l : PySem.W.OpenLaw} {n k : Nat} {q : Program} {loose : List Str} {XP : (Str → Option Value) → Heap → Prop} {YP : World → Heap → Prop} {d : DefRec} {K : Params → PySem.W.Frag} {CX : World → CXT} {sp : World → Sp} {x : Str}
    (hn : l.most = some n) (hn2 : n ≤ sizeLine) (hdf : d.params.defaults = []) (hr : Room k callerA)
    (hY : ∀ (w : World) (h : Heap), YP w h → (K w.params).In h)
    (F : ∀ (w : World) (mg : Str → Option Value) (fa : Addr) (h : Heap), (K w.params).In h → h.Ns mainGlobals mg → mg d.name = some (.ref fa) →
      ∃ fd : FuncData, (∀ (s : Shared) (u : Value), BindsTo s fd ⟨[u], []⟩ [(x, u)]) ∧
        ∀ base : Heap, (K w.params).In base → base.Ns mainGlobals mg → FnOk l.prog w (K w.params) mg base (CX w) k fa fd [x] (sp w))
    (hsp : ∀ (w : World) (H : Hp) (a : Addr) (ns : List Int), ns.length ≤ n → Only H → SqL (K w.params) H a (ns.map V.int) → sp w [.ref a] H (fun v _ => v = .bl true) fun _ _ _ => False)
    (hCX : ∀ (w : World) (H : Hp) (s : Shared) (e : Value) (s' : Shared), CX w [] H s (fun _ _ _ => False) e s' → False) :
    PySem.W.WalkO q loose XP YP l.row.toRowW d [] (fun f vs => PySem.call f vs) := by
  refine Att.attach_call hn hdf fun w s₀ s₁ mg mb fa o pm cd doc a vs ns G Y ho hd hcd hmg hobj hints hlen hg => ?_
  have KX := hY w _ Y
  obtain ⟨fd, hb, hF⟩ := F w mg fa _ KX G.T.g hmg
  exact law_call KX G.T.g G.T.b G.T.builtins G.T.nolimit G.T.nodigits G.T.bmain hg hobj hints (Nat.le_trans hlen hn2) hr hF hb (fun H hO hS => hsp w H a ns hlen hO hS) fun H e s' => hCX w H s₁ e s'
end L2
namespace L2
open PySem PySem.Spec PyProof.Rows
def defArgs (s : Stmt) : Arguments := match s with
  | .FunctionDef _ a _ _ _ _ _ _ _ _ => a
  | _ => { posonlyargs := [], args := [], vararg := none, kwonlyargs := [], kw_defaults := [], kwarg := none, defaults := [] }
def defBody (s : Stmt) : List Stmt := match s with
  | .FunctionDef _ _ b _ _ _ _ _ _ _ => b
  | _ => []
def defScope (s : Stmt) : Scope := match s with
  | .FunctionDef _ _ _ _ _ _ sc _ _ _ => sc
  | _ => { kind := .function, names := [], isGenerator := false, isCoroutine := false }
abbrev CX0 : CXT := fun _ _ _ _ _ _ => False
abbrev E0 : XK := fun _ _ _ => False
theorem pass0 {X : Cx} : Passes CX0 X E0 := fun _ _ _ _ _ _ _ h => h.elim
structure Fun (K : PySem.W.Frag) (x qual : Str) (st : Stmt) (f : Addr) (fd : FuncData) : Prop where
  ex : ∃ (oc : Value) (od : Option Addr) (kV doc pm : Value) (an : Option Addr) (cdv ct : Value) (osl : Array (Option Value)),
    fd = PySem.W.fnOf x qual (defArgs st) (defBody st) (defScope st) .none kV doc pm an cdv ct ∧ K.lookup f = some ⟨oc, od, .func fd, osl⟩ ∧ PySem.W.codeIn K cdv qual = true
  kp : PySem.W.keepIn K (.ref f) = true
section
variable {P : Program} {w : World} {K : PySem.W.Frag} {mg : Str → Option Value} {base : Heap}
theorem Fun.ok {x qual : Str} {st : Stmt} {f : Addr} {fd : FuncData} {N ps : List Str} {k : Nat} {sp : Sp} (F : Fun K x qual st f fd) (S : FnScope N ps (defScope st)) (len : ∀ vs H Q E, sp vs H Q E → vs.length = ps.length)
    (hbody : ∀ (cdv : Value) (A : Around) (outer : List Env) (s : Shared) (H : Hp) (vs : List V) (Q : VK) (E : XK), Room k (A.deeper (envOfC qual (defScope st) s.heap.objs.size f cdv)) → sp vs H Q E →
      ∃ t, PSs (cxOf CX0 P w K mg base N qual (defScope st) f cdv A outer s H E).nox (defBody st) t ∧ t { nx := fun _ H' => Q .non H', rt := Q } (start N vs) H) : FnOk P w K mg base CX0 (k + 1) f fd ps sp := by
  obtain ⟨oc, od, kV, doc, pm, an, cdv, ct, osl, rfl, lk, hcd⟩ := F.ex
  refine fn_of lk hcd S len fun A outer s H vs Q E hr hsp => ?_
  obtain ⟨t, h, q⟩ := hbody cdv A outer s H vs Q E hr hsp
  exact ⟨t, h.nox, q⟩
theorem Fun.binds {x qual : Str} {st : Stmt} {f : Addr} {fd : FuncData} {ps : List Str} (F : Fun K x qual st f fd)
    (h : ∀ (kV doc pm : Value) (an : Option Addr) (cdv ct : Value) (us : List Value), us.length = ps.length → bindArgs (PySem.W.fnOf x qual (defArgs st) (defBody st) (defScope st) .none kV doc pm an cdv ct) ⟨us, []⟩ = pure (ps.zip us)) : Binds K fd ps [] := by
  obtain ⟨oc, od, kV, doc, pm, an, cdv, ct, osl, rfl, lk, hcd⟩ := F.ex
  exact .all (h kV doc pm an cdv ct)
theorem fun_mk {x qual : Str} {st : Stmt} {f : Addr} {oc : Value} {od an : Option Addr} {osl : Array (Option Value)} {kV doc pm cdv ct : Value} (l : K.lookup f = some ⟨oc, od, .func (PySem.W.fnOf x qual (defArgs st) (defBody st) (defScope st) .none kV doc pm an cdv ct), osl⟩)
    (c : PySem.W.codeIn K cdv qual = true) (k : PySem.W.keepIn K (.ref f) = true) : Fun K x qual st f (PySem.W.fnOf x qual (defArgs st) (defBody st) (defScope st) .none kV doc pm an cdv ct) := ⟨⟨oc, od, kV, doc, pm, an, cdv, ct, osl, rfl, l, c⟩, k⟩
end
theorem small1000 {n : Nat} (h : n ≤ 1000) : n < sizeLine := Nat.lt_of_le_of_lt h (by decide)
section
variable {X : Cx}
theorem pv (i : Nat) {x : Str} {pos : Pos} (hN : X.N[i]? = some x := by rfl) (hv : Vis X.env.scope x := by first | exact Or.inl rfl | exact Or.inr (Or.inl rfl) | exact Or.inr (Or.inr rfl)) (hd : (x == ("__debug__" : Str)) = false := by decide)
    (hcd : (x == ("__classdict__" : Str)) = false := by decide) : PE X (.Name x pos) (tVar i) := pe_var hN hv hd hcd
end
theorem iteF {A B : Prop} (h : B) : if false = true then A else B := by
  rw [if_neg Bool.false_ne_true]
  exact h
theorem iteT {A B : Prop} (h : A) : if true = true then A else B := by
  rw [if_pos rfl]
  exact h
theorem ite2 {c A B : Prop} [Decidable c] (h1 : c → A) (h2 : ¬ c → B) : if c then A else B := by
  by_cases h : c
  · rw [if_pos h]
    exact h1 h
  · rw [if_neg h]
    exact h2 h
def Same (H H' : Hp) : Prop := ∀ b o, H b = some o → H' b = some o
theorem Same.refl (H : Hp) : Same H H := fun _ _ h => h
theorem Same.trans {H H1 H2 : Hp} (a : Same H H1) (b : Same H1 H2) : Same H H2 := fun c o h => b c o (a c o h)
theorem Same.free {H H' : Hp} (e : Same H H') {l : Addr} (h : H' l = Option.none) : H l = Option.none := by
  cases q : H l with
  | none => rfl
  | some o =>
    rw [e l o q] at h
    cases h
theorem Same.seq {K : PySem.W.Frag} {H H' : Hp} {a : Addr} {xs : List V} (e : Same H H') (h : SqL K H a xs) : SqL K H' a xs := by
  rcases h with (h | ⟨o, h⟩) | h
  · exact .inl (.inl (e _ _ h))
  · exact .inl (.inr ⟨o, e _ _ h⟩)
  · exact .inr h
section
variable {κ : Type} [DecidableEq κ]
end
end L2
set_option maxHeartbeats 4000000
namespace L2
open PySem PySem.Spec PyProof.Rows
section
variable {X : Cx}
theorem big_lt : (10 : Nat) ^ 100 < 2 ^ 400 := by decide +kernel
theorem log2_big {j : Int} (h : j.natAbs < 10 ^ 100) : j.natAbs.log2 < 400 := by
  by_cases h0 : j.natAbs = 0
  · rw [h0]; decide +kernel
  · exact (Nat.log2_lt h0).mpr (Nat.lt_trans h big_lt)
def CMulB (i j : Int) : Prop := (-(10 ^ 100) < i ∧ i < 10 ^ 100) ∧ (-(10 ^ 100) < j ∧ j < 10 ^ 100)
theorem bits_big {j : Int} (h : j.natAbs < 10 ^ 100) : Builtin.Int.intBits j ≤ 400 := by
  unfold Builtin.Int.intBits
  split
  · exact Nat.zero_le _
  · have := log2_big h
    omega
theorem CMulB.ok {i j : Int} (h : CMulB i j) : IntMulOk i j := by
  obtain ⟨⟨h1, h2⟩, h3, h4⟩ := h
  have e1 := bits_big (j := i) (by omega)
  have e2 := bits_big (j := j) (by omega)
  have e3 : Builtin.Int.intTooBig (Builtin.Int.intBits i + Builtin.Int.intBits j) = false := by
    unfold Builtin.Int.intTooBig
    rw [decide_eq_false]
    have : (bitsLine : Int) = 134217728 := by decide +kernel
    omega
  unfold IntMulOk
  rw [e3]
  simp
end
section
variable {X : Cx}
theorem call_isi : CallR X (.builtin "isinstance") (fun xs H Q => ∃ x T t b, xs = [x, .ty T] ∧ TyOf X.K H x t ∧ PySem.W.kitOne X.K t (.type T) = some b ∧ Q (.bl b) H) := by
  intro pins s σ H xs us Q I r h
  obtain ⟨x, T, t, b, rfl, ty, e, q⟩ := h
  obtain ⟨u, w', rfl, ru, rw'⟩ := vals2 r
  cases (show w' = Value.type T from rw')
  exact isinst_ok I ru ty e fun tk => ⟨.bl b, H, I.tok tk, rfl, q⟩
end
mutual
inductive Rep (K : PySem.W.Frag) (H : Hp) : V → PyData → Prop where
  | non : Rep K H .non .none
  | bl (b : Bool) : Rep K H (.bl b) (.bool b)
  | int (i : Int) : Rep K H (.int i) (.int i)
  | str (x : Str) : Rep K H (.str x) (.str x)
  | lst {a : Addr} {xs : List V} {ds : List PyData} : SqL K H a xs → Reps K H xs ds → Rep K H (.ref a) (.list ds)
  | tup {a : Addr} {xs : List V} {ds : List PyData} : SqT K H a xs → Reps K H xs ds → Rep K H (.ref a) (.tuple ds)
inductive Reps (K : PySem.W.Frag) (H : Hp) : List V → List PyData → Prop where
  | nil : Reps K H [] []
  | cons {v : V} {vs : List V} {d : PyData} {ds : List PyData} : Rep K H v d → Reps K H vs ds → Reps K H (v :: vs) (d :: ds)
end
section
variable {X : Cx} {pins : List (Addr × Obj)} {σ : St} {H : Hp} {s : Shared}
mutual
theorem rep_reads (I : Inv X pins σ H s) : ∀ (d : PyData) (v : V) (u : Value), Rep X.K H v d → RelV v u → ∃ as, Reads s.heap u d as
  | .none, v, u, r, q => by cases r; cases (show u = Value.none from q); exact ⟨_, .none⟩
  | .bool b, v, u, r, q => by cases r; cases (show u = Value.bool b from q); exact ⟨_, .bool b⟩
  | .int i, v, u, r, q => by cases r; obtain ⟨t, e⟩ := (show ∃ t, u = Value.int i t from q); cases e; exact ⟨_, .int i t⟩
  | .str x, v, u, r, q => by cases r; obtain ⟨t, e⟩ := (show ∃ t, u = Value.str x t from q); cases e; exact ⟨_, .str x t⟩
  | .list ds, v, u, r, q => by
    cases r with
    | @lst a xs _ hq rs =>
      cases (show u = Value.ref a from q)
      obtain ⟨its, rv, ⟨o, n, e, c, _, d⟩, hz⟩ := I.list hq
      obtain ⟨as, ra⟩ := reps_reads I ds xs its rs rv
      exact ⟨_, .list e c d (by simpa using ra)⟩
  | .tuple ds, v, u, r, q => by
    cases r with
    | @tup a xs _ hq rs =>
      cases (show u = Value.ref a from q)
      obtain ⟨its, rv, ⟨o, e, c, n, d⟩, hz⟩ := I.tuple hq
      obtain ⟨as, ra⟩ := reps_reads I ds xs its rs rv
      exact ⟨_, .tuple e c d (by simpa using ra)⟩
  | .dict _, v, u, r, q => by cases r
theorem reps_reads (I : Inv X pins σ H s) : ∀ (ds : List PyData) (vs : List V) (us : List Value), Reps X.K H vs ds → Vals vs us → ∃ as, ReadsAll s.heap us ds as
  | [], vs, us, r, q => by cases r; cases q; exact ⟨_, .nil⟩
  | d :: ds, vs, us, r, q => by
    cases r with
    | cons r1 r2 =>
      cases q with
      | cons q1 q2 =>
        obtain ⟨as, a1⟩ := rep_reads I d _ _ r1 q1
        obtain ⟨bs, a2⟩ := reps_reads I ds _ _ r2 q2
        exact ⟨_, .cons a1 a2⟩
end
end
def rEqD (K : PySem.W.Frag) (neg : Bool) : R2 := fun x y H Q => ∃ d e, Rep K H x d ∧ Rep K H y e ∧ d.canLay0 = true ∧ e.canLay0 = true ∧ d.depth ≤ 20 ∧ Q (.bl (if neg then !PyData.eqv d e else PyData.eqv d e)) H
section
variable {X : Cx}
theorem op_neD (hu : X.A.units + 64 < cLine) : OpR X (compareOp .NotEq) (rEqD X.K true) := by
  intro pins s σ H x y v u Q I rx ry h
  obtain ⟨d, e, rd, re, cd, ce, hd, q⟩ := h
  obtain ⟨as, ra⟩ := rep_reads I d x v rd rx
  obtain ⟨bs, rb⟩ := rep_reads I e y u re ry
  have hm : min d.depth e.depth ≤ d.depth := Nat.min_le_left _ _
  exact SeqAt.rcNeAt_reads ra rb cd ce (by omega) X.prog X.w X.xe _ ⟨.bl _, H, I, rfl, q⟩
end
section
variable {X : Cx} {pins : List (Addr × Obj)} {σ : St} {H : Hp} {s : Shared} {h' : Heap}
end
section
variable {X : Cx}
end
structure FunD (K : PySem.W.Frag) (x qual : Str) (st : Stmt) (dV : Value) (f : Addr) (fd : FuncData) : Prop where
  ex : ∃ (oc : Value) (od : Option Addr) (kV doc pm : Value) (an : Option Addr) (cdv ct : Value) (osl : Array (Option Value)),
    fd = PySem.W.fnOf x qual (defArgs st) (defBody st) (defScope st) dV kV doc pm an cdv ct ∧ K.lookup f = some ⟨oc, od, .func fd, osl⟩ ∧ PySem.W.codeIn K cdv qual = true
  kp : PySem.W.keepIn K (.ref f) = true
section
variable {P : Program} {w : World} {K : PySem.W.Frag} {mg : Str → Option Value} {base : Heap}
theorem FunD.ok {x qual : Str} {st : Stmt} {dV : Value} {f : Addr} {fd : FuncData} {N ps : List Str} {k : Nat} {sp : Sp} (F : FunD K x qual st dV f fd) (S : FnScope N ps (defScope st)) (len : ∀ vs H Q E, sp vs H Q E → vs.length = ps.length)
    (hbody : ∀ (cdv : Value) (A : Around) (outer : List Env) (s : Shared) (H : Hp) (vs : List V) (Q : VK) (E : XK), Room k (A.deeper (envOfC qual (defScope st) s.heap.objs.size f cdv)) → sp vs H Q E →
      ∃ t, PSs (cxOf CX0 P w K mg base N qual (defScope st) f cdv A outer s H E).nox (defBody st) t ∧ t { nx := fun _ H' => Q .non H', rt := Q } (start N vs) H) : FnOk P w K mg base CX0 (k + 1) f fd ps sp := by
  obtain ⟨oc, od, kV, doc, pm, an, cdv, ct, osl, rfl, lk, hcd⟩ := F.ex
  refine fn_of lk hcd S len fun A outer s H vs Q E hr hsp => ?_
  obtain ⟨t, h, q⟩ := hbody cdv A outer s H vs Q E hr hsp
  exact ⟨t, h.nox, q⟩
end
def DefOk (P : Program) (w : World) (K : PySem.W.Frag) (mg : Str → Option Value) (base : Heap) (k : Nat) (x : Str) (ps : List Str) (sp : Sp) : Prop :=
  ∃ f fd, FnOk P w K mg base CX0 k f fd ps sp ∧ mg x = some (.ref f) ∧ PySem.W.keepIn K (.ref f) = true ∧ Binds K fd ps []
section
variable {X : Cx} {k : Nat} {C : Addr} {ps : List Str} {sp : Sp} {dvs : List V} {ds : List Value} {x m : Str} {p pos apos : Pos} {e o : Expr} {es : List Expr} {ta : TE} {t : TA}
theorem pe_fn (D : DefOk X.prog X.w X.K X.mg X.base k x ps sp) (hr : Room k X.A) (hg : Gl X x) (ha : PA X (e :: es) t) (hdb : (x == ("__debug__" : Str)) = false := by decide)
    (he : starEach (e :: es) X.env = (false, eval e X.env) :: starEach es X.env := by rfl) (hpl : (backTo pos (starEach es X.env)).any (·.1) = false := by rfl) : PE X (.Call (.Name x p) (e :: es) [] pos) (tCall sp [] E0 t) := by
  obtain ⟨f, fd, F, hm, hk, hb⟩ := D
  exact pe_call F hr hg hm hk hb .nil pass0 ha hdb he hpl
end
end L2
namespace L2
open PySem PySem.Spec PyProof.Rows
section
variable {X : Cx} {k : Nat} {C : Addr} {ps : List Str} {sp : Sp} {x m : Str} {p pos apos : Pos} {e o : Expr} {es : List Expr} {ta : TE} {t : TA}
end
section
variable {P : Program} {w : World} {K : PySem.W.Frag} {mg : Str → Option Value} {base : Heap}
theorem Fun.def_ {x : Str} {st : Stmt} {f : Addr} {fd : FuncData} {ps : List Str} {k : Nat} {sp : Sp} (F : Fun K x x st f fd) (hm : mg x = some (.ref f)) (hf : FnOk P w K mg base CX0 k f fd ps sp) (hb : Binds K fd ps []) : DefOk P w K mg base k x ps sp :=
  ⟨f, fd, hf, hm, F.kp, hb⟩
end
theorem bt_len : bootBuiltins "len" = some (.builtin "len") := by decide +kernel
theorem bt_isinstance : bootBuiltins "isinstance" = some (.builtin "isinstance") := by decide +kernel
theorem bt_list : bootBuiltins "list" = some (.type "list") := by decide +kernel
theorem bt_bool : bootBuiltins "bool" = some (.type "bool") := by decide +kernel
theorem bt_str : bootBuiltins "str" = some (.type "str") := by decide +kernel
theorem kit_int_int (K : PySem.W.Frag) : PySem.W.kitOne K (.type "int") (.type "int") = some true := by rfl
theorem kit_int_bool (K : PySem.W.Frag) : PySem.W.kitOne K (.type "int") (.type "bool") = some false := by rfl
theorem kit_list (K : PySem.W.Frag) : PySem.W.kitOne K (.type "list") (.type "list") = some true := by rfl
theorem kit_tuple (K : PySem.W.Frag) : PySem.W.kitOne K (.type "tuple") (.type "tuple") = some true := by rfl
theorem Same.get {H H' : Hp} (s : Same H H') {b : Addr} {o : HO} (h : H b = some o) : H' b = some o := s b o h
theorem same_upd {H : Hp} {p : Addr} {o : HO} (h : H p = none) : Same H (upd H p o) := fun b u e => by rw [upd_ne (ne_of_none e h)]; exact e
end L2
namespace L2
open PySem PySem.Spec PyProof.Rows
def blk (X : Cx) (Nc : List Str) (scope : Scope) (cl : List (Str × Addr)) (C : Addr) (s : Shared) (H : Hp) (ex : List Addr) : Cx where
  prog := X.prog
  w := X.w
  K := X.K
  mg := X.mg
  base := X.base
  A := X.A
  N := Nc
  s₀ := s
  H₀ := H
  env := compEnvC scope cl C X.env
  outer := X.stack
  stack := X.stack
  ex := ex
  fn := fun _ => false
  calm := X.calm
  pn := []
  xe := fun _ _ => False
structure LcOk (X : Cx) (scope : Scope) (cl : List (Str × Addr)) : Prop where
  clos : closureFor scope X.env = pure cl
  kind : scope.kind = .function
  nocell : ∀ y ∈ scope.names, y.2 ≠ .cell
  names : ∀ y ∈ scope.names, y.2 = .local → scope.names.lookup y.1 = some .local
  sub : ∀ x c, cl.lookup x = some c → X.env.cells.lookup x = some c
  has : ∀ x, ((relabel scope X.env).names.lookup x = some .cell ∨ (relabel scope X.env).names.lookup x = some .free) → ∃ c, cl.lookup x = some c
def FvOk (X : Cx) (scope : Scope) (cl : List (Str × Addr)) : List Str → List Nat → Prop
  | [], [] => True
  | x :: xs, j :: js => (X.N[j]? = some x ∧ (X.env.kindOf x = some .cell ∨ X.env.kindOf x = some .free) ∧ cl.lookup x = X.env.cells.lookup x ∧
      ((relabel scope X.env).names.lookup x = some .cell ∨ (relabel scope X.env).names.lookup x = some .free)) ∧ FvOk X scope cl xs js
  | _, _ => False
def lcσ (nv : Nat) (fv : List Nat) (σ : St) : St := List.replicate nv none ++ fv.map fun j => (σ[j]?).join
theorem FvOk.len {X : Cx} {scope : Scope} {cl : List (Str × Addr)} : ∀ {xs : List Str} {js : List Nat}, FvOk X scope cl xs js → xs.length = js.length
  | [], [], _ => rfl
  | _ :: _, _ :: _, h => by simp [FvOk.len h.2]
  | [], _ :: _, h => h.elim
  | _ :: _, [], h => h.elim
theorem FvOk.get {X : Cx} {scope : Scope} {cl : List (Str × Addr)} : ∀ {xs : List Str} {js : List Nat} {k : Nat} {x : Str} {j : Nat}, FvOk X scope cl xs js → xs[k]? = some x → js[k]? = some j →
    X.N[j]? = some x ∧ (X.env.kindOf x = some .cell ∨ X.env.kindOf x = some .free) ∧ cl.lookup x = X.env.cells.lookup x ∧ ((relabel scope X.env).names.lookup x = some .cell ∨ (relabel scope X.env).names.lookup x = some .free)
  | [], [], _, _, _, _, e, _ => by simp at e
  | _ :: _, _ :: _, 0, _, _, h, e, e' => by simp at e e'; subst e; subst e'; exact h.1
  | _ :: _, _ :: _, k + 1, x, j, h, e, e' => FvOk.get (k := k) h.2 (by simpa using e) (by simpa using e')
  | [], _ :: _, _, _, _, h, _, _ => h.elim
  | _ :: _, [], _, _, _, h, _, _ => h.elim
abbrev emptyList : Obj := { cls := .type "list", dict := none, data := .seq ([] : List Value).toArray }
theorem ltS {h : Heap} {b : Addr} {o : Obj} (e : h.get? b = some o) : b ≠ (h.push emptyList).objs.size := Nat.ne_of_lt (by rw [Heap.size_push]; exact Nat.lt_succ_of_lt (Heap.lt_size e))
theorem neS {h : Heap} : h.objs.size ≠ (h.push emptyList).objs.size := Nat.ne_of_lt (by rw [Heap.size_push]; exact Nat.lt_succ_self _)
theorem leS {h : Heap} : h.objs.size ≤ (h.push emptyList).objs.size := by rw [Heap.size_push]; exact Nat.le_succ _
theorem neZ {h : Heap} {b : Addr} {o : Obj} (e : h.get? b = some o) : b ≠ h.objs.size := Nat.ne_of_lt (Heap.lt_size e)
section
variable {X : Cx} {pins : List (Addr × Obj)} {σ : St} {H : Hp} {s : Shared} {scope : Scope} {cl : List (Str × Addr)} {vars frees : List Str} {fv : List Nat} {fp : List Addr}
theorem inv_blk {h' : Heap} {t' : Nat} (I : Inv X pins σ H s) (L : LcOk X scope cl) (fo : FvOk X scope cl frees fv) (hf : ∀ b ∈ fp, FpOk X pins H b) (ho : ∀ b ∈ fp, ∃ o, s.heap.get? b = some o)
    (hns : h'.Ns (s.heap.push emptyList).objs.size (fun _ => none)) (hsb : ∀ b o, b ≠ (s.heap.push emptyList).objs.size → (s.heap.push emptyList).get? b = some o → h'.get? b = some o) :
    Inv (blk X (vars ++ frees) scope cl (s.heap.push emptyList).objs.size { s with heap := s.heap.push emptyList } H (s.heap.objs.size :: fp)) [(s.heap.objs.size, emptyList)] (lcσ vars.length fv σ) H { s with heap := h', toks := t' } := by
  have hC : (s.heap.push emptyList).objs.size = s.heap.objs.size + 1 := Heap.size_push ..
  have hlt : ∀ {b : Addr} {o : Obj}, s.heap.get? b = some o → b < s.heap.objs.size := fun e => Heap.lt_size e
  have old : ∀ b o, s.heap.get? b = some o → h'.get? b = some o := fun b o e => hsb b o (ltS e) (Heap.get?_push_of_some _ e)
  have hD : h'.get? s.heap.objs.size = some emptyList := hsb _ _ neS (Heap.get?_push_size _ rfl)
  have stk : ∀ b ∈ frs X.stack, b < s.heap.objs.size ∧ b ∉ fp := fun b hb => by
    rcases List.mem_cons.mp (I.stkSub b hb) with z | z
    · exact ⟨by rw [z]; exact I.lt, fun q => (hf b q).2.1 z⟩
    · refine ⟨?_, fun q => (hf b q).2.2.1 z⟩
      apply Nat.lt_of_not_le
      intro q
      exact I.nofs q z
  have cellL : ∀ x c, cl.lookup x = some c → c < s.heap.objs.size := fun x c e => by
    obtain ⟨v, q⟩ := I.cell x c (L.sub x c e)
    exact q.lt
  refine ⟨⟨I.ok.mod, L.kind, I.ok.glob, I.ok.blt, Nat.le_refl _, fun x y c e1 e2 => I.ok.inj x y c (L.sub x c e1) (L.sub y c e2), fun x h => L.has x h, (fun x c z => nomatch z), I.ok.hd, I.ok.frames, .inl rfl, fun b hb => ?_, fun b o e => ?_, ?_, fun b o e hb => ?_, fun b hb hq => ?_, ?_, fun b hb => I.stkFree b hb⟩,
    rfl, I.bare, Un.kept fun b u e => ?_, ⟨_, hns, fun i x v e1 e2 e3 => ?_⟩, fun x c e => ?_, ?_, fun x c e => I.freeC x c (L.sub x c e), fun p hp => ?_, I.hok.kept old, ?_⟩
  ·
    refine ⟨?_, fun x c e z => ?_⟩
    · show b ≠ (s.heap.push emptyList).objs.size
      rcases List.mem_cons.mp hb with z | z
      · rw [z]; exact neS
      · obtain ⟨o, e⟩ := ho b z
        exact ltS e
    · rcases List.mem_cons.mp hb with q | q
      · exact Nat.ne_of_lt (cellL x c e) (z.trans q)
      · exact (hf b q).2.2.2.2.1 x c (L.sub x c e) z
  · exact ⟨Heap.get?_push_of_some _ (I.bs b o e).1, (I.bs b o e).2⟩
  · exact Nat.le_trans (Nat.le_trans I.ok.bsz I.sz) leS
  ·
    rcases List.mem_cons.mp hb with q | q
    · exact neZ (I.bs b o e).1 q
    · rcases (hf b q).2.2.2.1 with z | z
      · exact I.ok.noex b o e z
      · exact absurd (Nat.lt_of_lt_of_le (Heap.lt_size (I.ok.bs b o e).1) z) (Nat.lt_irrefl _)
  ·
    obtain ⟨h1, h2⟩ := stk b hq
    rcases List.mem_cons.mp hb with q | q
    · exact Nat.ne_of_lt h1 q
    · exact h2 q
  · exact Heap.FunFrames.of_keeps (fun b o e _ => ⟨o, Heap.get?_push_of_some _ e, rfl⟩) I.stack
  · exact hsb b u (Nat.ne_of_lt (Heap.lt_size e)) e
  ·
    obtain ⟨m, hn, hl⟩ := I.loc
    have hi : vars.length ≤ i := by
      apply Nat.le_of_not_lt
      intro z
      rw [show lcσ vars.length fv σ = List.replicate vars.length none ++ fv.map fun j => (σ[j]?).join from rfl, List.getElem?_append_left (by simpa using z), List.getElem?_replicate_of_lt (by simpa using z)] at e2
      cases e2
    obtain ⟨k, rfl⟩ : ∃ k, i = vars.length + k := ⟨i - vars.length, by omega⟩
    have e1' : frees[k]? = some x := by
      have e1'' : (vars ++ frees)[vars.length + k]? = some x := e1
      rw [List.getElem?_append_right (by omega)] at e1''
      simpa using e1''
    have e2' : (fv.map fun j => (σ[j]?).join)[k]? = some (some v) := by
      rw [show lcσ vars.length fv σ = List.replicate vars.length none ++ fv.map fun j => (σ[j]?).join from rfl, List.getElem?_append_right (by simp)] at e2
      simpa using e2
    rw [List.getElem?_map] at e2'
    obtain ⟨j, hj, ej⟩ := Option.map_eq_some_iff.mp e2'
    have ej' : σ[j]? = some (some v) := by
      cases q : σ[j]? with
      | none => rw [q] at ej; cases ej
      | some y => rw [q] at ej; exact congrArg some ej
    obtain ⟨f1, f2, f3, f4⟩ := fo.get e1' hj
    obtain ⟨u, ru, lk⟩ := hl j x v f1 ej' (f2.elim (fun z => .inr (.inl z)) fun z => .inr (.inr z))
    refine ⟨u, ru, .inr ⟨f4, ?_⟩⟩
    rcases lk with ⟨z, _⟩ | ⟨_, c, hc, o, q, d⟩
    · rcases f2 with y | y <;> rw [y] at z <;> cases z
    · exact ⟨c, f3.trans hc, o, old c o q, d⟩
  · obtain ⟨v, o, q, d⟩ := I.cell x c (L.sub x c e)
    exact ⟨v, o, old c o q, d⟩
  · exact I.hok.fresh leS
  · have e : p = (s.heap.objs.size, emptyList) := by
      have hp' : p ∈ ([] : List (Addr × Obj)) ++ [(s.heap.objs.size, emptyList)] := hp
      simpa using hp'
    subst e
    refine ⟨hD, I.hok.fresh (Nat.le_refl _), neS, fun q => ?_, fun v q => by have q' : Data.seq _ _ = Data.cell v := q; cases q'⟩
    exact Nat.lt_irrefl _ (stk _ q).1
  · show (lcσ vars.length fv σ).length = (vars ++ frees).length
    simp [lcσ, fo.len]
end
def PIfs (X : Cx) (ifs : List Expr) (t : TT) : Prop :=
  ∀ (pins : List (Addr × Obj)) (s : Shared) (σ : St) (H : Hp) (Q : Bool → Hp → Prop), Inv X pins σ H s → t σ H Q →
    wpAny (model X.prog X.w) X.A (forIn ifs true fun c r => if r = true then do let ok ← isTrue c X.env (eval c X.env); pure (ForInStep.yield ok) else pure (ForInStep.yield r)) (TP X pins σ Q) X.xe s
def tYes : TT := fun _ H Q => Q true H
theorem yes_ {σ : St} {H : Hp} {Q : Bool → Hp → Prop} (h : Q true H) : tYes σ H Q := h
theorem pif_none {X : Cx} : PIfs X [] tYes := fun _ _ _ H _ I h => wpAny_tests_nil ⟨H, I, h⟩
theorem pif_one {X : Cx} {c : Expr} {t : TT} (h : PT X c t) : PIfs X [c] t := fun pins s σ H Q I q => wpAny_tests_one (h pins s σ H Q I q)
def lcGoal (J : It) (Q : VK) (g : TG) (tc : TT) (te : TE) (σc : St) (H1 : Hp) : Prop := ∃ W : Nat → Nat → List V → Hp → Prop, (∃ m, W 0 m [] H1) ∧ ∀ i m ys H2, W i m ys H2 →
  (J.stop i H2 ∧ ys.length ≤ sizeLine ∧ ∀ p, H2 p = none → Q (.ref p) (upd H2 p (.lst ys))) ∨
  (J.go i H2 ∧ ys.length < sizeLine ∧ ∃ N : List V → Hp → Prop, (∀ zs H', N zs H' → ∃ m', m' < m ∧ W (i + 1) m' zs H') ∧ ∀ x H3, J.yld i H2 x H3 → g x σc H3 fun σ4 H4 => tc σ4 H4 fun b H5 => if b = true then te σ4 H5 fun v H6 => N (ys ++ [v]) H6 else N ys H5)
def tLC (nv : Nat) (fv : List Nat) (wi : TI) (g : TG) (tc : TT) (te : TE) : TE := fun σ H Q => wi σ H fun J H1 => lcGoal J Q g tc te (lcσ nv fv σ) H1
theorem codeAny_lc {prog : Program} {w : World} {A : Around} {R : Result → Shared → Prop} {s : Shared} {elt target iter : Expr} {ifs : List Expr} {scope : Scope} {pos : Pos} {it acc : Value} {env : Env} (I : Nat → Shared → Prop)
    (turn : ∀ n s, I n s → wpAny (model prog w) A (pyNext it) (fun r s₁ => match r with
      | none => R (.ok .next) s₁
      | some v => wpAny (model prog w) A (letOwnedTupleGo target it v) (fun _ s₁' => wpAny (model prog w) A (assign target env v) (fun _ s₂ =>
          wpAny (model prog w) A (forIn ifs true fun c r => if r = true then do let ok ← isTrue c env (eval c env); pure (ForInStep.yield ok) else pure (ForInStep.yield r)) (fun ok s₃ =>
            if ok = true then wpAny (model prog w) A (eval elt env) (fun x s₄ =>
              wpAny (model prog w) A (call (.builtin "list.append") [acc, x]) (fun _ s₅ => ∃ m, m < n ∧ I m s₅) (notedBy (model prog w) A env fun e s' => R (.error e) s') s₄) (notedBy (model prog w) A env fun e s' => R (.error e) s') s₃
            else ∃ m, m < n ∧ I m s₃) (notedBy (model prog w) A env fun e s' => R (.error e) s') s₂) (notedBy (model prog w) A env fun e s' => R (.error e) s') s₁') (notedBy (model prog w) A env fun e s' => R (.error e) s') s₁) (notedBy (model prog w) A env fun e s' => R (.error e) s') s)
    (n : Nat) (h : I n s) : codeAny (model prog w) A (.compLoop (.ListComp elt [⟨target, iter, ifs, 0⟩] scope pos) 0 it acc env) R s := by
  refine codeAny_loop rfl I (fun n s hI => ?_) n h
  show wpAny _ A ((compTurn (.ListComp elt [⟨target, iter, ifs, 0⟩] scope pos) 0 it acc env).onRaise (fun x => do noteFrame x env; theTreesLotGoes x)) _ _ s
  refine wpAny_noted ?_
  rw [compTurn_list]
  refine wpAny_bind (wpAny_standAt (wpAny_bind (wpAny_mono (turn n s hI) (fun r s₁ h₁ => ?_) fun _ _ h' => h')))
  cases r with
  | none => exact wpAny_pure h₁
  | some v =>
    refine wpAny_bind (wpAny_mono h₁ (fun _ s₁' h₁' => ?_) fun _ _ h' => h')
    refine wpAny_bind (wpAny_mono h₁' (fun _ s₂ h₂ => wpAny_bind (wpAny_mono h₂ (fun ok s₃ h₃ => ?_) fun _ _ h' => h')) fun _ _ h' => h')
    cases ok with
    | false => exact wpAny_pure ⟨rfl, h₃⟩
    | true =>
      exact wpAny_bind (wpAny_bind (wpAny_mono h₃ (fun x s₄ h₄ => wpAny_bind (wpAny_mono h₄ (fun _ s₅ h₅ => wpAny_pure (wpAny_pure ⟨rfl, h₅⟩)) fun _ _ h' => h')) fun _ _ h' => h'))
def GKeep (nv : Nat) (g : TG) : Prop := ∀ x σ H (K : St → Hp → Prop), g x σ H K → g x σ H fun σ' H' => K σ' H' ∧ σ'.length = σ.length ∧ ∀ i, nv ≤ i → σ'[i]? = σ[i]?
theorem gk_name {nv i : Nat} (h : i < nv) : GKeep nv (gName i) := fun x σ H K q => ⟨q, by simp, fun j hj => by rw [List.getElem?_set_ne (by omega)]⟩
theorem gk_pair {F : PySem.W.Frag} {nv i j : Nat} (hi : i < nv) (hj : j < nv) : GKeep nv (gTup F 2 (gCons (gName i) (gCons (gName j) gNil))) := fun x σ H K ⟨a, xs, e, hq, hl, v, r, e1, v2, r2, e2, e3, q⟩ =>
  ⟨a, xs, e, hq, hl, v, r, e1, v2, r2, e2, e3, q, by simp, fun k hk => by rw [List.getElem?_set_ne (by omega), List.getElem?_set_ne (by omega)]⟩
abbrev lobj (us : List Value) (n : Nat) : Obj := { cls := .type "list", data := .seq us.toArray n }
theorem lc_loop {Y : Cx} {D it : Addr} {J : It} {fp : List Addr} {tn : Nat → Heap → Prop} {g : TG} {tc : TT} {te : TE} {Q : VK} {W : Nat → Nat → List V → Hp → Prop} {nv n0 m0 : Nat} {σc : St} {H : Hp} {s : Shared}
    {elt target iter : Expr} {ifs : List Expr} {scope : Scope} {pos : Pos} {R : Result → Shared → Prop} (hx : Y.xe = fun _ _ => False)
    (hc : Y.calm = true) (hg : PG Y target g) (hk : GKeep nv g) (hi : PIfs Y ifs tc) (he : PE Y elt te) (T : Turn Y.prog Y.w Y.K target J fp it tn)
    (hnv : ∀ i, i < nv → ∀ v, σc[i]? ≠ some (some v))
    (d1 : D ≠ Y.env.locals) (d2 : D ∈ Y.ex) (d3 : D ∉ Y.fs) (d4 : ∀ x c, Y.env.cells.lookup x = some c → c ≠ D) (d5 : D ∉ fp) (d6 : Y.pn = [])
    (hf : ∀ b ∈ fp, b ≠ Y.env.locals ∧ b ∉ Y.fs ∧ (b ∈ Y.ex ∨ Y.s₀.heap.objs.size ≤ b) ∧ (∀ x c, Y.env.cells.lookup x = some c → c ≠ b))
    (I0 : Inv Y [(D, lobj [] n0)] σc H s) (st : tn 0 s.heap) (fr : ∀ b ∈ fp, H b = none) (w0 : W 0 m0 [] H)
    (turn : ∀ i m ys H2, W i m ys H2 → (J.stop i H2 ∧ ys.length ≤ sizeLine ∧ ∀ p, H2 p = none → Q (.ref p) (upd H2 p (.lst ys))) ∨
      (J.go i H2 ∧ ys.length < sizeLine ∧ ∃ N : List V → Hp → Prop, (∀ zs H', N zs H' → ∃ m', m' < m ∧ W (i + 1) m' zs H') ∧ ∀ x H3, J.yld i H2 x H3 → g x σc H3 fun σ4 H4 => tc σ4 H4 fun b H5 => if b = true then te σ4 H5 fun v H6 => N (ys ++ [v]) H6 else N ys H5))
    (hend : ∀ ys us n H' s', Inv Y [(D, lobj us n)] σc H' s' → Vals ys us → ys.length ≤ sizeLine → (∀ p, H' p = none → Q (.ref p) (upd H' p (.lst ys))) → R (.ok .next) s') :
    codeAny (model Y.prog Y.w) Y.A (.compLoop (.ListComp elt [⟨target, iter, ifs, 0⟩] scope pos) 0 (.ref it) (.ref D) Y.env) R s := by
  have fpok : ∀ {H' : Hp} {o : Obj}, (∀ b ∈ fp, H' b = none) → ∀ b ∈ fp, FpOk Y [(D, o)] H' b := fun {H' o} hn b hb => by
    obtain ⟨f1, f2, f3, f4⟩ := hf b hb
    refine ⟨hn b hb, f1, f2, f3, f4, fun p hp => ?_⟩
    rw [d6] at hp
    have e : p = (D, o) := by simpa using hp
    rw [e]
    exact fun z => d5 (by rw [show D = b from z]; exact hb)
  refine codeAny_lc (fun n s' => ∃ i ys us k H', Inv Y [(D, lobj us k)] σc H' s' ∧ Vals ys us ∧ tn i s'.heap ∧ (∀ b ∈ fp, H' b = none) ∧ W i n ys H') ?_ m0 ⟨0, [], [], n0, H, I0, .nil, st, fr, w0⟩
  rintro n s3 ⟨i, ys, us, k, H3, I3, rv, st3, fr3, w3⟩
  have ex0 : ∀ {E' : Value → Shared → Prop} {e : Value} {s' : Shared}, Y.xe e s' → E' e s' := fun {E' e s'} z => by rw [hx] at z; exact z.elim
  rcases turn i n ys H3 w3 with ⟨stop, hz, q⟩ | ⟨go, hz, N, hN, step⟩
  · refine thn (T.done Y rfl rfl rfl hc i _ s3 σc H3 _ I3 (fpok fr3) st3 stop) fun r s4 hq__ => ?_
    obtain ⟨hr, I4⟩ := hq__
    subst hr
    exact hend ys us k H3 s4 I4 rv hz q
  · refine thn (T.item Y rfl rfl rfl hc i _ s3 σc H3 _ I3 (fpok fr3) st3 go) fun r s4 hq__ => ?_
    obtain ⟨u, hr, h4⟩ := hq__
    subst hr
    refine thn h4 fun _ s5 hq__ => ?_
    obtain ⟨x, H5, I5, r5, y5, st5, fr5⟩ := hq__
    have I5' := I5.pinned (fpok fr5) (T.obj _ _ st5)
    refine wpAny_mono (hg _ s5 σc H5 x u _ I5' r5 (hk x σc H5 _ (step x H5 y5))) (fun _ s6 hq__ => ?_) fun _ _ z => ex0 z
    obtain ⟨σ6, H6, I6, q6, l6, e6⟩ := hq__
    have wk : ∀ (i : Nat) v, σc[i]? = some (some v) → σ6[i]? = some (some v) := fun i v e => by
      by_cases h : nv ≤ i
      · rw [e6 i h]; exact e
      · exact absurd e (hnv i (by omega) v)
    have back : ∀ {o : Obj} {H' : Hp} {s' : Shared}, Inv Y ([(D, o)] ++ pinsAt fp s5.heap) σ6 H' s' → Inv Y [(D, o)] σc H' s' ∧ tn (i + 1) s'.heap ∧ ∀ b ∈ fp, H' b = none := fun {o H' s'} I' => by
      refine ⟨(I'.unpinned).weak (by rw [← l6]) wk, T.keep _ _ _ st5 fun b hb o e => (I'.pin (b, o) (List.mem_append_right _ (List.mem_append_right _ (mem_pinsAt hb e)))).1, fun b hb => ?_⟩
      obtain ⟨o, e, _⟩ := T.obj _ _ st5 b hb
      exact (I'.pin (b, o) (List.mem_append_right _ (List.mem_append_right _ (mem_pinsAt hb e)))).2.1
    refine wpAny_mono (hi _ s6 σ6 H6 _ I6 q6) (fun b s7 hq__ => ?_) fun _ _ z => ex0 z
    obtain ⟨H7, I7, q7⟩ := hq__
    cases b with
    | false =>
      obtain ⟨m', hm, w7⟩ := hN ys H7 q7
      obtain ⟨I8, st8, fr8⟩ := back I7
      exact ⟨m', hm, i + 1, ys, us, k, H7, I8, rv, st8, fr8, w7⟩
    | true =>
      refine wpAny_mono (he _ s7 σ6 H7 _ I7 q7) (fun u2 s8 hq__ => ?_) fun _ _ z => ex0 z
      obtain ⟨v, H8, I8, r8, n8⟩ := hq__
      obtain ⟨m', hm, w8⟩ := hN _ H8 n8
      obtain ⟨I9, st9, fr9⟩ := back I8
      obtain ⟨eD, nD, _, _, _⟩ := I9.pin (D, lobj us k) (by simp)
      have hlen := rv.length
      refine call_meets F.slot_list_append ⟨_, eD, rfl⟩ F.entry_list_append (F.args_list_append_2 _ _) (PySem.list_append D us.toArray k u2 (by rw [List.size_toArray]; omega)) ⟨eD, ?_⟩
      have q := PySem.IsL.update eD (fun x_1 => x_1.push u2)
      have eq : us.toArray.push u2 = (us ++ [u2]).toArray := by simp
      rw [eq] at q
      obtain ⟨n', q⟩ : ∃ n', (s8.heap.update D (Obj.mapSeq fun x_1 => x_1.push u2)).get? D = some (lobj (us ++ [u2]) n') := ⟨_, q⟩
      have I10 : Inv Y [] σc H8 s8 := I9.pins_of fun p hp => by cases hp
      have I11 : Inv Y [] σc H8 { s8 with heap := s8.heap.update D (Obj.mapSeq fun x_1 => x_1.push u2), toks := s8.toks } :=
        I10.turned (it := D) (fun b o hb e => (Heap.get?_update_other s8.heap (Obj.mapSeq _) (Ne.symm hb)).trans e) nD d1 (.inl d2) d4 (fun p hp => by rw [d6] at hp; cases hp)
      refine ⟨m', hm, i + 1, ys ++ [v], us ++ [u2], n', H8, I11.pins_of (fun p hp => ?_), rv.append (.cons r8 .nil), ?_, fr9, w8⟩
      · have e : p = (D, lobj (us ++ [u2]) n') := by simpa using hp
        subst e
        exact ⟨q, nD, d1, d3, fun v z => by have z' : Data.seq _ _ = Data.cell v := z; cases z'⟩
      · refine T.keep _ _ _ st9 fun b hb o e => ?_
        exact (Heap.get?_update_other s8.heap (Obj.mapSeq _) (fun z => d5 (by rw [z]; exact hb))).trans e
section
variable {X : Cx} {pins : List (Addr × Obj)} {σ : St} {H : Hp} {s : Shared} {scope : Scope} {cl : List (Str × Addr)} {vars frees : List Str} {fv : List Nat} {elt target iter : Expr} {ifs : List Expr} {pos : Pos}
def LcEnd (X : Cx) (pins : List (Addr × Obj)) (σ : St) (Q : VK) (D C : Addr) (s' : Shared) : Prop :=
  ∃ (ys : List V) (H' : Hp) (oC : Obj) (m : Str → Option Value), Inv X (pins ++ [(C, oC)]) σ (upd H' D (.lst ys)) s' ∧ s'.heap.Ns C m ∧ FpOk X pins (upd H' D (.lst ys)) C ∧ Q (.ref D) (upd H' D (.lst ys))
theorem lc_core {J : It} {fp : List Addr} {it : Addr} {tn : Nat → Heap → Prop} {g : TG} {tc : TT} {te : TE} {Q : VK} {W : Nat → Nat → List V → Hp → Prop} {m0 : Nat} {E : Value → Shared → Prop} {E2 : Value → Addr → Value → Shared → Prop}
    (hc : X.calm = true) (L : LcOk X scope cl) (fo : FvOk X scope cl frees fv) (hk : GKeep vars.length g)
    (hg : ∀ C s H ex, PG (blk X (vars ++ frees) scope cl C s H ex) target g) (hi : ∀ C s H ex, PIfs (blk X (vars ++ frees) scope cl C s H ex) ifs tc) (he : ∀ C s H ex, PE (blk X (vars ++ frees) scope cl C s H ex) elt te)
    (I : Inv X pins σ H s) (T : Turn X.prog X.w X.K target J fp it tn) (st : tn 0 s.heap) (hf : ∀ b ∈ fp, FpOk X pins H b) (w0 : W 0 m0 [] H)
    (turn : ∀ i m ys H2, W i m ys H2 → (J.stop i H2 ∧ ys.length ≤ sizeLine ∧ ∀ p, H2 p = none → Q (.ref p) (upd H2 p (.lst ys))) ∨
      (J.go i H2 ∧ ys.length < sizeLine ∧ ∃ N : List V → Hp → Prop, (∀ zs H', N zs H' → ∃ m', m' < m ∧ W (i + 1) m' zs H') ∧ ∀ x H3, J.yld i H2 x H3 → g x (lcσ vars.length fv σ) H3 fun σ4 H4 => tc σ4 H4 fun b H5 => if b = true then te σ4 H5 fun v H6 => N (ys ++ [v]) H6 else N ys H5)) :
    wpAny (model X.prog X.w) X.A (newList []) (fun acc s₃ => wpAny (model X.prog X.w) X.A (newFunctionEnv scope X.env.globals cl [] X.env.qual none .none (some X.env)) (fun cenv s₄ =>
      codeAny (model X.prog X.w) X.A (.compStart (.ListComp elt [⟨target, iter, ifs, 0⟩] scope pos) 0 (.ref it) acc { cenv with scope := relabel scope X.env })
        (fun r s' => match r with | .ok _ => ∃ D, acc = .ref D ∧ LcEnd X pins σ Q D cenv.locals s' | .error x => E2 acc cenv.locals x s') s₄) E s₃) E s := by
  have hoo : ∀ b ∈ fp, ∃ o, s.heap.get? b = some o := fun b hb => let ⟨o, e, _⟩ := T.obj 0 _ st b hb; ⟨o, e⟩
  refine wpAny_newObj_type (wpAny_newFunctionEnv L.nocell (by intro y hy; simp at hy) (fun h₁ hns hsb => ?_) L.kind)
  dsimp only at hns hsb ⊢
  have hC : (s.heap.push emptyList).objs.size = s.heap.objs.size + 1 := Heap.size_push ..
  have keep1 : ∀ b o, b ≠ (s.heap.push emptyList).objs.size → (s.heap.push emptyList).get? b = some o → h₁.get? b = some o := fun b o hb e => hsb.extBut b o hb (Heap.get?_push_of_some _ e)
  have I0 : Inv (blk X (vars ++ frees) scope cl (s.heap.push emptyList).objs.size { s with heap := s.heap.push emptyList } H (s.heap.objs.size :: fp)) [(s.heap.objs.size, emptyList)] (lcσ vars.length fv σ) H { s with heap := h₁, toks := s.toks + ([] : List (Str × Value)).length } :=
    inv_blk I L fo hf hoo (by simpa using hns) keep1
  have st1 : tn 0 h₁ := T.keep 0 _ _ st fun b hb o e => keep1 b o (ltS e) (Heap.get?_push_of_some _ e)
  have loop : codeAny (model X.prog X.w) X.A (.compLoop (.ListComp elt [⟨target, iter, ifs, 0⟩] scope pos) 0 (.ref it) (.ref s.heap.objs.size) (compEnvC scope cl (s.heap.push emptyList).objs.size X.env))
      (fun r s' => match r with | .ok _ => ∃ D, Value.ref s.heap.objs.size = .ref D ∧ LcEnd X pins σ Q D (s.heap.push emptyList).objs.size s' | .error x => E2 (.ref s.heap.objs.size) (s.heap.push emptyList).objs.size x s') { s with heap := h₁, toks := s.toks + ([] : List (Str × Value)).length } := by
    refine lc_loop (Y := blk X (vars ++ frees) scope cl (s.heap.push emptyList).objs.size { s with heap := s.heap.push emptyList } H (s.heap.objs.size :: fp)) (nv := vars.length) (n0 := 0) rfl hc (hg _ _ _ _) hk (hi _ _ _ _) (he _ _ _ _) T (fun i hi v e => ?_)
      neS (by show s.heap.objs.size ∈ s.heap.objs.size :: fp; simp) ?_ (fun x c e => ?_) (fun z => ?_) rfl (fun b hb => ?_) I0 st1 (fun b hb => (hf b hb).1) w0 turn ?_
    · rw [show lcσ vars.length fv σ = List.replicate vars.length none ++ fv.map fun j => (σ[j]?).join from rfl, List.getElem?_append_left (by simpa using hi), List.getElem?_replicate_of_lt (by simpa using hi)] at e
      cases e
    · exact (I0.pin (s.heap.objs.size, emptyList) (by simp)).2.2.2.1
    · obtain ⟨v, q⟩ := I.cell x c (L.sub x c e)
      exact Nat.ne_of_lt q.lt
    · obtain ⟨o, e⟩ := hoo _ z
      exact absurd (Heap.lt_size e) (Nat.lt_irrefl _)
    · exact ⟨(I0.ok.exf b (List.mem_cons_of_mem _ hb)).1, I0.ok.exfs b (List.mem_cons_of_mem _ hb), .inl (List.mem_cons_of_mem _ hb), (I0.ok.exf b (List.mem_cons_of_mem _ hb)).2⟩
    · intro ys us n H' s' I' rv hz q
      obtain ⟨eD, nD, _, fD, _⟩ := I'.pin (s.heap.objs.size, lobj us n) (by simp)
      obtain ⟨mC, hnC, _⟩ := I'.loc
      obtain ⟨oC, es, ep, eC, dC, r1, r2⟩ := id hnC
      have nC : H' (s.heap.push emptyList).objs.size = none := I'.free
      have neDC : (s.heap.push emptyList).objs.size ≠ s.heap.objs.size := neS.symm
      have lt : ∀ {b : Addr} {o : Obj}, s.heap.get? b = some o → b ≠ s.heap.objs.size ∧ b ≠ (s.heap.push emptyList).objs.size := fun e => ⟨neZ e, ltS e⟩
      have nex : ∀ {b : Addr} {o : Obj}, s.heap.get? b = some o → b ∉ fp → b ∉ s.heap.objs.size :: fp := fun e hb z => by
        rcases List.mem_cons.mp z with z | z
        · exact (lt e).1 z
        · exact hb z
      have upn : ∀ {b : Addr} {u : HO}, H' b = some u → upd H' s.heap.objs.size (.lst ys) b = some u := fun e => by rw [upd_ne (ne_of_none e nD)]; exact e
      have un : Un (frs X.stack) fp H (upd H' s.heap.objs.size (.lst ys)) s.heap s'.heap :=
        { keep := fun b o e n hb hx => I'.base.keep b o (Heap.get?_push_of_some _ e) n hb (nex e hx)
          slot := fun b o e n hb hx => I'.base.slot b o (Heap.get?_push_of_some _ e) n hb (nex e hx)
          free := fun b o e n hx => by rw [upd_ne (lt e).1]; exact I'.base.free b o (Heap.get?_push_of_some _ e) n (nex e hx)
          there := fun b o e hx => I'.base.there b o (Heap.get?_push_of_some _ e) (nex e hx)
          tups := fun b xs e => upn (I'.base.tups b xs e)
          frzs := fun b o u e => upn (I'.base.frzs b o u e)
          tbls := fun b ps e => let ⟨more, z⟩ := I'.base.tbls b ps e; ⟨more, upn z⟩ }
      have hok : HOk X.prog X.w (upd H' s.heap.objs.size (.lst ys)) s'.heap := fun b u e => by
        by_cases hb : b = s.heap.objs.size
        · subst hb; rw [upd_same] at e; cases e
          exact ⟨hz, us, n, rv, eD⟩
        · rw [upd_ne hb] at e
          exact (I'.hok b u e).stay (fun c v _ z => z) (fun c z => upn z) fun c xs z => upn z
      have J1 : Inv X pins σ (upd H' s.heap.objs.size (.lst ys)) s' := I.call' (ch := fp) I'.os un hok I'.bare fun b hb => ⟨(hf b hb).2.2.2.1, (hf b hb).2.1, (hf b hb).2.2.2.2.1, (hf b hb).2.2.2.2.2⟩
      have fC : FpOk X pins (upd H' s.heap.objs.size (.lst ys)) (s.heap.push emptyList).objs.size := I.fpOk leS (by rw [upd_ne neDC]; exact nC)
      refine ⟨_, rfl, ys, H', oC, mC, J1.pins_of (fun p hp => ?_), hnC, fC, q _ nD⟩
      rcases List.mem_append.mp hp with z | z
      · exact J1.pin p (List.mem_append_right _ z)
      · have e : p = ((s.heap.push emptyList).objs.size, oC) := by simpa using z
        subst e
        exact ⟨eC, fC.1, fC.2.1, fC.2.2.1, fun v z => by rw [dC] at z; cases z⟩
  exact codeAny_compStart_list loop (T.self _ 0 _ _ _ st1 loop)
theorem pe_lc {wi : TI} {g : TG} {tc : TT} {te : TE} (hc : X.calm = true) (L : LcOk X scope cl) (fo : FvOk X scope cl frees fv) (hit : PI X target iter wi) (hk : GKeep vars.length g)
    (hg : ∀ C s H ex, PG (blk X (vars ++ frees) scope cl C s H ex) target g) (hi : ∀ C s H ex, PIfs (blk X (vars ++ frees) scope cl C s H ex) ifs tc) (he : ∀ C s H ex, PE (blk X (vars ++ frees) scope cl C s H ex) elt te)
    (hs : ∀ x, foldedSetIterable iter X.env x = pure x := by intro _; rfl) : PE X (.ListComp elt [⟨target, iter, ifs, 0⟩] scope pos) (tLC vars.length fv wi g tc te) := by
  intro pins s σ H Q I h
  rw [eval_ListComp]
  refine wpAny_comprehension_free (use := none) rfl hs L.clos L.kind L.names (thn (hit pins s σ H _ I h) fun v s1 h1 => thn h1 fun itv s2 h2 => ?_)
  obtain ⟨it, fp, tn, J, H2, e, I2, T, st2, f2, W, ⟨m0, w0⟩, turn⟩ := h2
  subst e
  refine wpAny_mono (lc_core (E := X.xe) (E2 := fun acc C x s' => compPost (model X.prog X.w) X.A X.xe none (EP X pins σ Q) acc C (.error x) s') hc L fo hk hg hi he I2 T st2 f2 w0 turn) (fun acc s3 h3 => thn h3 fun cenv s4 h4 => codeAny_mono h4 fun r s' h5 => ?_) fun _ _ z => z
  cases r with
  | error x => exact h5
  | ok f =>
    obtain ⟨D, rfl, ys, H', oC, m, J1, hn, fC, q⟩ := h5
    refine ⟨m, hn, fun h' sb => ⟨.ref D, _, ?_, rfl, q⟩⟩
    exact J1.unpinned.turned (t' := s'.toks) (it := cenv.locals) (fun b o hb e => (sb.2 b hb).trans e) fC.1 fC.2.1 fC.2.2.2.1 fC.2.2.2.2.1 fC.2.2.2.2.2
end
end L2
namespace L2
open PySem PySem.Spec PyProof.Rows
theorem lc_list {K : PySem.W.Frag} {a : Addr} {xs : List V} {g : TG} {tc : TT} {te : TE} {Q : VK} {σ : St} {H : Hp} (Pv : Nat → List V → Hp → Prop) (hz : xs.length ≤ sizeLine) (h0 : Pv 0 [] H) (hl : ∀ i ys H, Pv i ys H → SqL K H a xs ∧ ys.length ≤ i)
    (hs : ∀ i x ys H, xs[i]? = some x → Pv i ys H → g x σ H fun σ4 H4 => tc σ4 H4 fun b H5 => if b = true then te σ4 H5 fun v H6 => Pv (i + 1) (ys ++ [v]) H6 else Pv (i + 1) ys H5)
    (hd : ∀ ys H p, Pv xs.length ys H → H p = none → Q (.ref p) (upd H p (.lst ys))) :
    lcGoal (Itl K a) Q g tc te σ H := by
  refine ⟨fun i m ys H => m = xs.length - i ∧ i ≤ xs.length ∧ Pv i ys H, ⟨xs.length, by simp, Nat.zero_le _, h0⟩, ?_⟩
  rintro i m ys H2 ⟨rfl, hi, p⟩
  obtain ⟨q, hy⟩ := hl i ys H2 p
  by_cases hlt : i < xs.length
  · refine .inr ⟨⟨xs, xs[i], q, by simp [hlt]⟩, by omega, Pv (i + 1), fun zs H' p' => ⟨xs.length - (i + 1), by omega, rfl, hlt, p'⟩, fun x H3 y => ?_⟩
    obtain ⟨e, y⟩ := y
    subst e
    exact hs i x ys _ (y xs q) p
  · have e : i = xs.length := by omega
    subst e
    exact .inl ⟨⟨xs, q, Nat.le_refl _⟩, by omega, fun p' hp' => hd ys H2 p' p hp'⟩
theorem lc_range {lo : Int} {n : Nat} {g : TG} {tc : TT} {te : TE} {Q : VK} {σ : St} {H : Hp} (Pv : Nat → List V → Hp → Prop) (hz : n ≤ sizeLine) (h0 : Pv 0 [] H) (hl : ∀ i ys H, Pv i ys H → ys.length ≤ i)
    (hs : ∀ i ys H, i < n → Pv i ys H → g (.int (lo + i)) σ H fun σ4 H4 => tc σ4 H4 fun b H5 => if b = true then te σ4 H5 fun v H6 => Pv (i + 1) (ys ++ [v]) H6 else Pv (i + 1) ys H5)
    (hd : ∀ ys H p, Pv n ys H → H p = none → Q (.ref p) (upd H p (.lst ys))) :
    lcGoal (Itr lo n) Q g tc te σ H := by
  refine ⟨fun i m ys H => m = n - i ∧ i ≤ n ∧ Pv i ys H, ⟨n, by simp, Nat.zero_le _, h0⟩, ?_⟩
  rintro i m ys H2 ⟨rfl, hi, p⟩
  have hy := hl i ys H2 p
  by_cases hlt : i < n
  · refine .inr ⟨hlt, by omega, Pv (i + 1), fun zs H' p' => ⟨n - (i + 1), by omega, rfl, hlt, p'⟩, fun x H3 y => ?_⟩
    obtain ⟨e, y⟩ := y
    subst e y
    exact hs i ys _ hlt p
  · have e : i = n := by omega
    subst e
    exact .inl ⟨Nat.le_refl _, by omega, fun p' hp' => hd ys H2 p' p hp'⟩
end L2
namespace L2
open PySem PySem.Spec PyProof.Rows
structure New (H H' : Hp) (p : Addr) (o : HO) : Prop where
  same : Same H H'
  fresh : H p = none
  at_ : H' p = some o
theorem new_upd {H : Hp} {p : Addr} {o : HO} (h : H p = none) : New H (upd H p o) p o := ⟨same_upd h, h, upd_same⟩
def But (l : Addr) (H H' : Hp) : Prop := ∀ b o, H b = some o → b ≠ l → H' b = some o
theorem but_upd {H : Hp} {l : Addr} {o : HO} : But l H (upd H l o) := fun b u e n => by rw [upd_ne n]; exact e
theorem But.same {H0 H H' : Hp} {l : Addr} (b : But l H H') (s : Same H0 H) (h : H0 l = none) : Same H0 H' := fun c o e => b c o (s c o e) (ne_of_none e h)
theorem But.tup {H H' : Hp} {l : Addr} {o : HO} (b : But l H H') (h : H l = some o) (n : ∀ xs, o ≠ .tup xs) : ∀ c xs, H c = some (.tup xs) → H' c = some (.tup xs) := fun c xs e => b c _ e (ne_of e h (fun z => n xs z.symm))
section
variable {X : Cx} {e : Expr} {es : List Expr} {te : TE} {t : TA} {pos : Pos}
def tTupN (t : TA) : TE := fun σ H Q => t σ H fun xs H1 => xs.length ≤ sizeLine ∧ ∀ p H', New H1 H' p (.tup xs) → Q (.ref p) H'
def tLstN (t : TA) : TE := fun σ H Q => t σ H fun xs H1 => xs.length ≤ sizeLine ∧ ∀ p H', New H1 H' p (.lst xs) → Q (.ref p) H'
theorem pe_tupN {x1} (h : PA X es t) : PE X (.Tuple es x1 pos) (tTupN t) := by
  intro pins s σ H Q I hq
  refine wpAny_Tuple_spliced (thn (h pos pins s σ H _ I hq) fun us s1 ⟨xs, H1, I1, r, z, q⟩ => ⟨by rw [← r.length]; exact z, ?_⟩)
  have hf : H1 s1.heap.objs.size = none := I1.hok.fresh (Nat.le_refl _)
  refine ⟨.ref s1.heap.objs.size, upd H1 s1.heap.objs.size (.tup xs), I1.laid (t' := s1.toks) (fun b u e => Heap.get?_push_of_some _ e) (Nat.le_refl _) ?_, rfl, q _ _ (new_upd hf)⟩
  exact ⟨z, us, r, ⟨_, Heap.get?_push_size _ rfl, rfl, _, rfl⟩⟩
theorem pe_lstN (h : PA X es t) : PE X (.List es pos) (tLstN t) := by
  intro pins s σ H Q I hq
  refine wpAny_List_spliced (thn (h pos pins s σ H _ I hq) fun us s1 ⟨xs, H1, I1, r, z, q⟩ => ⟨by rw [← r.length]; exact z, ?_⟩)
  have hf : H1 s1.heap.objs.size = none := I1.hok.fresh (Nat.le_refl _)
  refine ⟨.ref s1.heap.objs.size, upd H1 s1.heap.objs.size (.lst xs), I1.laid (t' := s1.toks) (fun b u e => Heap.get?_push_of_some _ e) (Nat.le_refl _) ?_, rfl, q _ _ (new_upd hf)⟩
  exact ⟨z, us, 0, r, Heap.get?_push_size _ rfl⟩
theorem CallR.imp {f : Value} {r r' : List V → Hp → VK → Prop} (h : CallR X f r) (i : ∀ xs H Q, r' xs H Q → r xs H Q) : CallR X f r' := fun pins s σ H xs us Q I v q => h pins s σ H xs us Q I v (i xs H Q q)
theorem OpR.imp {f : Value → Value → Sem Value} {r r' : R2} (h : OpR X f r) (i : ∀ x y H Q, r' x y H Q → r x y H Q) : OpR X f r' := fun pins s σ H x y v u Q I rx ry q => h pins s σ H x y v u Q I rx ry (i x y H Q q)
theorem MtM.imp {id : String} {r r' : V → List V → Hp → VK → Prop} (h : MtM X id r) (i : ∀ x xs H Q, r' x xs H Q → r x xs H Q) : MtM X id r' := fun pins s σ H x xs v us Q I rx rv q => h pins s σ H x xs v us Q I rx rv (i x xs H Q q)
theorem call_listN : CallR X (.type "list") (fun xs H Q => ∃ p ys, xs = [.ref p] ∧ (SqL X.K H p ys ∨ SqT X.K H p ys) ∧ ∀ l H', New H H' l (.lst ys) → Q (.ref l) H') :=
  call_list_of.imp fun _ _ _ ⟨p, ys, e, h, q⟩ => ⟨p, ys, e, h, fun l hl => q l _ (new_upd hl)⟩
inductive rSlLNS (K : PySem.W.Frag) (x : V) (lo hi : Option Int) (H : Hp) (Q : VK) : Prop
  | mk : ∀ a xs, x = .ref a → SqL K H a xs → (∀ p H', New H H' p (.lst (cutV xs lo hi)) → Q (.ref p) H') → rSlLNS K x lo hi H Q
def rSlLN (K : PySem.W.Frag) : V → Option Int → Option Int → Hp → VK → Prop := fun x lo hi H Q => rSlLNS K x lo hi H Q
theorem sl_listN : SlR X (rSlLN X.K) := fun pins s σ H x v vl vu lo hi sl Q I rx hs p1 p2 ⟨a, xs, e, h, q⟩ => sl_list pins s σ H x v vl vu lo hi sl Q I rx hs p1 p2 ⟨a, xs, e, h, fun p hp => q p _ (new_upd hp)⟩
inductive rCatNS  (x y : V) (H : Hp) (Q : VK) : Prop
  | mk : ∀ l b xs zs, x = .ref l → y = .ref b → H l = some (.lst xs) → H b = some (.lst zs) → xs.length + zs.length ≤ sizeLine → (∀ p H', New H H' p (.lst (xs ++ zs)) → Q (.ref p) H') → rCatNS x y H Q
def rCatN : R2 := fun x y H Q => rCatNS x y H Q
theorem op_catN : OpR X (binaryOp .Add) rCatN := op_cat.imp fun _ _ _ _ ⟨l, b, xs, zs, e1, e2, h1, h2, z, q⟩ => ⟨l, b, xs, zs, e1, e2, h1, h2, z, fun p hp => q p _ (new_upd hp)⟩
inductive rAppendNS  (x : V) (vs : List V) (H : Hp) (Q : VK) : Prop
  | mk : ∀ l xs y, x = .ref l → vs = [y] → H l = some (.lst xs) → xs.length < sizeLine → (∀ H', But l H H' → H' l = some (.lst (xs ++ [y])) → Q .non H') → rAppendNS x vs H Q
def rAppendN : V → List V → Hp → VK → Prop := fun x vs H Q => rAppendNS x vs H Q
theorem mt_appendN : MtM X "list.append" rAppendN := mt_append.imp fun _ _ _ _ ⟨l, xs, y, e1, e2, h, z, q⟩ => ⟨l, xs, y, e1, e2, h, z, q _ but_upd upd_same⟩
end
section
variable {X : Cx} {k : Nat} {C : Addr} {ps : List Str} {sp : Sp} {dvs : List V} {ds : List Value} {x f : Str} {p pos pos' : Pos} {e o value : Expr} {es : List Expr} {ta tv : TE} {t : TA}
end
theorem lcOk {X : Cx} {scope : Scope} {cl : List (Str × Addr)} (clos : closureFor scope X.env = pure cl) (kind : scope.kind = .function) (nocell : ∀ y ∈ scope.names, y.2 ≠ .cell)
    (names : ∀ y ∈ scope.names, y.2 = .local → scope.names.lookup y.1 = some .local) (sub : ∀ p ∈ cl, X.env.cells.lookup p.1 = some p.2)
    (has : ((relabel scope X.env).names.all fun y => (y.2 != .cell && y.2 != .free) || (cl.lookup y.1).isSome) = true) : LcOk X scope cl := by
  refine ⟨clos, kind, nocell, names, fun x c e => ?_, fun x h => ?_⟩
  · have : ∀ l : List (Str × Addr), l.lookup x = some c → (x, c) ∈ l := fun l => by
      induction l with
      | nil => intro z; simp at z
      | cons p r ih =>
        intro z
        obtain ⟨y, d⟩ := p
        rw [List.lookup_cons] at z
        by_cases q : (x == y) = true
        · rw [q] at z
          have e1 : x = y := by simpa using q
          have e2 : d = c := Option.some.inj z
          subst e1 e2
          exact List.mem_cons_self
        · have q' : (x == y) = false := by simpa using q
          rw [q'] at z
          exact List.mem_cons_of_mem _ (ih z)
    exact sub (x, c) (this cl e)
  · have : ∀ (l : List (Str × NameKind)) (k : NameKind), l.lookup x = some k → (x, k) ∈ l := fun l k => by
      induction l with
      | nil => intro z; simp at z
      | cons p r ih =>
        intro z
        obtain ⟨y, d⟩ := p
        rw [List.lookup_cons] at z
        by_cases q : (x == y) = true
        · rw [q] at z
          have e1 : x = y := by simpa using q
          have e2 : d = k := Option.some.inj z
          subst e1 e2
          exact List.mem_cons_self
        · have q' : (x == y) = false := by simpa using q
          rw [q'] at z
          exact List.mem_cons_of_mem _ (ih z)
    rw [List.all_eq_true] at has
    cases e : cl.lookup x with
    | some c => exact ⟨c, rfl⟩
    | none =>
      rcases h with h | h
      · have := has _ (this _ _ h)
        rw [e] at this
        simp at this
      · have := has _ (this _ _ h)
        rw [e] at this
        simp at this
end L2
namespace L2
open PySem PySem.Spec PyProof.Rows
section
variable {X : Cx}
end
end L2
namespace L2
open PySem PySem.Spec PyProof.Rows
def FlT (h : Heap) (e T : Addr) (cls : Value) (dd : Option Addr) (fl : Value) : Prop :=
  ∃ oe vs oT ts, h.get? e = some oe ∧ oe.cls = cls ∧ oe.dict = dd ∧ oe.data = .fields vs ∧ vs[1]? = some (.ref T) ∧ T ≠ e ∧ h.get? T = some oT ∧ oT.data = .fields ts ∧ ts[3]? = some fl
def Fl0 (h : Heap) (e : Addr) (cls : Value) (dd : Option Addr) : Prop :=
  ∃ oe vs, h.get? e = some oe ∧ oe.cls = cls ∧ oe.dict = dd ∧ oe.data = .fields vs ∧ vs[1]? = some .none
def FpX (X : Cx) (H : Hp) (b : Addr) : Prop :=
  H b = none ∧ b ≠ X.env.locals ∧ b ∉ X.fs ∧ X.s₀.heap.get? b = none ∧ (∀ x c, X.env.cells.lookup x = some c → c ≠ b) ∧ ∀ p ∈ X.pn, p.1 ≠ b
def Fly (X : Cx) (H : Hp) (h : Heap) (e : Addr) (cls : Value) (dd : Option Addr) : Prop :=
  FpX X H e ∧ (Fl0 h e cls dd ∨ ∃ T fl, FpX X H T ∧ FlT h e T cls dd fl)
abbrev XW := Value → Option Addr → St → Hp → Prop
def XE (X : Cx) (W : XW) (ev : Value) (s : Shared) : Prop :=
  ∃ e cls dd σ H, ev = .ref e ∧ Inv X [] σ H s ∧ Fly X H s.heap e cls dd ∧ W cls dd σ H
def OnStk (X : Cx) : Prop := X.stack = X.env :: X.outer ∧ X.env.frame = some X.env.locals ∧ X.ex = []
section
variable {X : Cx} {σ : St} {H : Hp} {s : Shared} {h' : Heap} {M : Model} {A : Around} {E : Value → Shared → Prop} {e T : Addr} {cls fl : Value} {dd : Option Addr}
theorem ObjOk.there {P : Program} {w : World} {H : Hp} {h : Heap} {a : Addr} {o : HO} (x : ObjOk P w H h a o) : ∃ u, h.get? a = some u := by
  induction o with
  | lst xs => obtain ⟨_, _, _, _, e⟩ := x; exact ⟨_, e⟩
  | tup xs => obtain ⟨_, _, _, u, e, _⟩ := x; exact ⟨u, e⟩
  | dK kvs => obtain ⟨_, _, _, _, u, _, _, e, _⟩ := x; exact ⟨u, e⟩
  | dT kvs => obtain ⟨_, _, _, _, u, _, _, e, _⟩ := x; exact ⟨u, e⟩
  | set S n => obtain ⟨u, _, _, _, e, _⟩ := x; exact ⟨u, e⟩
  | ins C dx fs => obtain ⟨_, _, _, e, _⟩ := x; exact ⟨_, e⟩
  | own y => exact x
  | xd fs => obtain ⟨_, ⟨u, _, _, e, _⟩, _⟩ := x; exact ⟨u, e⟩
  | met f y => exact ⟨_, x⟩
  | rng lo hi => obtain ⟨_, _, _, e⟩ := x; exact ⟨_, e⟩
  | frz u v _ => obtain ⟨e, _⟩ := x; exact ⟨_, e⟩
  | tbl ps => exact ⟨_, x⟩
  | ext φ => exact x.2.1
theorem Inv.fpX {H' : Hp} {pins : List (Addr × Obj)} (hs : OnStk X) (I : Inv X pins σ H s) (hb : s.heap.get? e = none) (hn : H' e = none) : FpX X H' e := by
  refine ⟨hn, fun z => ?_, fun z => ?_, ?_, fun x c q z => ?_, fun p hp z => ?_⟩
  · obtain ⟨m, ⟨o, _, _, ho, _⟩, _⟩ := I.loc
    rw [← z, hb] at ho; cases ho
  · obtain ⟨_, o, ho, _⟩ := I.funs.mem z
    rw [hb] at ho; cases ho
  · cases q : X.s₀.heap.get? e with
    | none => rfl
    | some o =>
      obtain ⟨o', ho'⟩ := I.base.there e o q (by rw [hs.2.2]; simp)
      rw [hb] at ho'; cases ho'
  · obtain ⟨v, o, ho, _⟩ := I.cell x c q
    rw [z, hb] at ho; cases ho
  · have := (I.pin p (List.mem_append_left _ hp)).1
    rw [z, hb] at this; cases this
theorem Inv.noneOf {pins : List (Addr × Obj)} (I : Inv X pins σ H s) (hb : s.heap.get? e = none) : H e = none := by
  cases q : H e with
  | none => rfl
  | some o =>
    obtain ⟨u, hu⟩ := (I.hok e o q).there
    rw [hb] at hu; cases hu
theorem Inv.turnR {H' : Hp} {t' : Nat} {ch : List Addr} (I : Inv X [] σ H s) (hf : ∀ b ∈ ch, FpX X H b) (k : ∀ b u, b ∉ ch → b ∉ frs X.stack → s.heap.get? b = some u → h'.get? b = some u)
    (k2 : ∀ b u, b ∉ ch → s.heap.get? b = some u → ∃ sl, h'.get? b = some { u with slots := sl }) (hH : ∀ b, b ∉ ch → H' b = H b) (hok : HOk X.prog X.w H' h') : Inv X [] σ H' { s with heap := h', toks := t' } := by
  have sup : ∀ b o, H b = some o → H' b = some o := fun b o q => by rw [hH b (fun z => by rw [(hf b z).1] at q; cases q)]; exact q
  have nosl : ∀ b, b ≠ X.env.locals → b ∉ X.fs → b ∉ frs X.stack := fun b h1 h2 z => (List.mem_cons.mp (I.stkSub b z)).elim h1 h2
  have neL : ∀ b o, X.s₀.heap.get? b = some o → b ≠ X.env.locals := fun b o q => Nat.ne_of_lt (Nat.lt_of_lt_of_le (Heap.lt_size q) I.ok.above)
  have neC : ∀ b o, X.s₀.heap.get? b = some o → b ∉ ch := fun b o q hb => by rw [(hf b hb).2.2.2.1] at q; cases q
  have cellK : ∀ x c, X.env.cells.lookup x = some c → ∀ v, s.heap.IsCell c v → h'.IsCell c v := fun x c q v ⟨o, ho, hd⟩ => by
    obtain ⟨sl, q'⟩ := k2 c o (fun z => (hf c z).2.2.2.2.1 x c q rfl) ho
    exact ⟨_, q', hd⟩
  refine ⟨I.ok, I.os, I.bare, ⟨fun b o q n hb hx => ?_, fun b o q n hb hx => ?_, fun b o q n hx => ?_, fun b o q hx => ?_, fun b xs q => sup _ _ (I.base.tups b xs q), fun b o xs q => sup _ _ (I.base.frzs b o xs q), fun b ps q => ?_⟩, ?_, fun x c q => ?_, ?_, fun x c q => ?_, fun p hp => ?_, hok, I.len⟩
  · exact k b o (neC b o q) (nosl b (neL b o q) hb) (I.base.keep b o q n hb hx)
  · obtain ⟨sl, e1⟩ := I.base.slot b o q n hb hx
    obtain ⟨sl', e2⟩ := k2 b _ (neC b o q) e1
    exact ⟨sl', e2⟩
  · rw [hH b (neC b o q)]
    exact I.base.free b o q n hx
  · obtain ⟨o', e1⟩ := I.base.there b o q hx
    obtain ⟨sl', e2⟩ := k2 b _ (neC b o q) e1
    exact ⟨_, e2⟩
  · obtain ⟨m1, e1⟩ := I.base.tbls b ps q
    exact ⟨m1, sup _ _ e1⟩
  · obtain ⟨m, hn, hl⟩ := I.loc
    refine ⟨m, ?_, fun i x v e1 e2 e3 => ?_⟩
    · obtain ⟨o, es, ep, ho, r⟩ := hn
      obtain ⟨sl, q⟩ := k2 _ o (fun z => (hf _ z).2.1 rfl) ho
      exact ⟨_, es, ep, q, r⟩
    · obtain ⟨u, r, l⟩ := hl i x v e1 e2 e3
      refine ⟨u, r, ?_⟩
      rcases l with l | ⟨kk, c, q, z⟩
      · exact .inl l
      · exact .inr ⟨kk, c, q, cellK x c q _ z⟩
  · obtain ⟨v, z⟩ := I.cell x c q
    exact ⟨v, cellK x c q v z⟩
  · rw [hH _ (fun z => (hf _ z).2.1 rfl)]; exact I.free
  · rw [hH _ (fun z => (hf _ z).2.2.2.2.1 x c q rfl)]; exact I.freeC x c q
  · obtain ⟨q, n, ne, nf, d⟩ := I.pin p hp
    have hp' : p ∈ X.pn := by
      have : p ∈ X.pn ++ ([] : List (Addr × Obj)) := hp
      simpa using this
    have nch : p.1 ∉ ch := fun z => (hf p.1 z).2.2.2.2.2 p hp' rfl
    exact ⟨k p.1 p.2 nch (nosl p.1 ne nf) q, by rw [hH _ nch]; exact n, ne, nf, d⟩
theorem Inv.turnS {t' : Nat} {ch : List Addr} (I : Inv X [] σ H s) (hf : ∀ b ∈ ch, FpX X H b) (k : ∀ b u, b ∉ ch → b ∉ frs X.stack → s.heap.get? b = some u → h'.get? b = some u)
    (k2 : ∀ b u, b ∉ ch → s.heap.get? b = some u → ∃ sl, h'.get? b = some { u with slots := sl }) : Inv X [] σ H { s with heap := h', toks := t' } := by
  have nch : ∀ b u, H b = some u → b ∉ ch := fun b u e z => by rw [(hf b z).1] at e; cases e
  have nst : ∀ b u, H b = some u → b ∉ frs X.stack := fun b u e z => by rw [I.stkFree b z] at e; cases e
  refine I.turnR hf k k2 (fun _ _ => rfl) fun b u e => ?_
  refine (I.hok b u e).stay (fun c v hc q => ?_) (fun _ q => q) fun _ _ q => q
  rcases hc with z | z
  · subst z; exact k _ v (nch _ u e) (nst _ u e) q
  · exact k c v (nch c _ z) (nst c _ z) q
theorem Inv.track {o : HO} (I : Inv X [] σ H s) (hf : FpX X H e) (ok : ObjOk X.prog X.w (upd H e o) s.heap e o) : Inv X [] σ (upd H e o) s := by
  refine I.turnR (h' := s.heap) (t' := s.toks) (ch := [e]) (fun b hb => by rw [List.mem_singleton.mp hb]; exact hf) (fun _ _ _ _ q => q) (fun b u _ q => ⟨u.slots, q⟩) (fun b hb => upd_ne (fun z => hb (by simp [z]))) fun b u q => ?_
  by_cases hb : b = e
  · subst hb; rw [upd_same] at q; cases q; exact ok
  · rw [upd_ne hb] at q
    exact (I.hok b u q).stay (fun _ _ _ q => q) (fun c q => by rw [upd_ne (ne_of_none q hf.1)]; exact q) fun c xs q => by rw [upd_ne (ne_of_none q hf.1)]; exact q
theorem entry_ok {oe : Obj} {vs : Array Value} {head : Value} {hadNext : Bool} {Q : Unit → Shared → Prop} (hs : OnStk X) (hA : A.frames = some X.stack) (I : Inv X [] σ H s) (hp : FpX X H e)
    (he : s.heap.get? e = some oe) (hc : oe.cls = cls) (hdd : oe.dict = dd) (hd : oe.data = .fields vs) (hsz : 1 < vs.size)
    (k : ∀ h' T, Inv X [] σ H { s with heap := h' } → FpX X H T → FlT h' e T cls dd (rawInt X.env.locals) → Q () { s with heap := h' }) :
    wpAny M A (do let a ← frameOf X.env; let pl ← entryPlaceOf X.env.locals hadNext; let b ← EntryCells.newEntry head a .none (rawInt X.env.locals) .none pl; setField (.ref e) 1 b) Q E s := by
  have hs0 := hs
  obtain ⟨hst, hfr, _⟩ := hs
  have hl := I.stack
  rw [hst] at hl hA
  have hene : e ∉ frs X.stack := fun hm => by
    rcases List.mem_cons.mp (I.stkSub e hm) with z | z
    · exact hp.2.1 z
    · exact hp.2.2.1 z
  refine wpAny_bind (wpAny_frameOf_fun hA hl hfr fun h₁ hs₁ => ?_)
  refine wpAny_bind (wpAny_entryPlaceOf fun pl hpl => ?_)
  unfold EntryCells.newEntry newFields
  refine wpAny_bind (wpAny_newObj_type ?_ (hpl.sizeOk5 _ _ _ _ _))
  have S : (X.env :: X.outer).filterMap (·.frame) = frs X.stack := by rw [hst]; rfl
  rw [S] at hs₁
  have he₁ : h₁.get? e = some oe := (hs₁.2.1 e hene).trans he
  generalize hob : ({ cls := .type "traceback", dict := none, data := .fields ([head, .ref X.env.locals, .none, rawInt X.env.locals, .none] ++ (if pl.isEmpty then List.replicate 6 Value.none else pl)).toArray } : Obj) = ob
  have hobd : ob.data = .fields ([head, .ref X.env.locals, .none, rawInt X.env.locals, .none] ++ (if pl.isEmpty then List.replicate 6 Value.none else pl)).toArray := by rw [← hob]
  have he₂ := Heap.get?_push_of_some (h := h₁) ob he₁
  refine wpAny_setField he₂ hd hsz ?_
  have hTe : h₁.objs.size ≠ e := Nat.ne_of_gt (Heap.lt_size he₁)
  have hd₃ := Obj.data_mapFields hd (·.setIfInBounds 1 (Value.ref h₁.objs.size))
  have he₃ := Heap.get?_update_self (Obj.mapFields (·.setIfInBounds 1 (Value.ref h₁.objs.size))) he₂ (Obj.isFreed_of_fields hd₃)
  have hT₃ := (Heap.get?_update_other (h₁.push ob) (Obj.mapFields (·.setIfInBounds 1 (Value.ref h₁.objs.size))) (Ne.symm hTe)).trans (Heap.get?_push_size h₁ (by rw [← hob]; rfl))
  have kk : ∀ b o, b ≠ e → h₁.get? b = some o → ((h₁.push ob).update e (Obj.mapFields (·.setIfInBounds 1 (Value.ref h₁.objs.size)))).get? b = some o := fun b o hb q => by
    rw [Heap.get?_update_other _ _ (Ne.symm hb)]
    exact Heap.get?_push_of_some _ q
  refine k _ h₁.objs.size (I.turnS (t' := s.toks) (ch := [e]) (fun b hb => by rw [List.mem_singleton.mp hb]; exact hp) (fun b u hb hn q => ?_) fun b u hb q => ?_) (I.fpX hs0 (by rw [hs₁.1]; exact Heap.get?_none_of_le (Nat.le_refl _)) (I.hok.fresh (by rw [hs₁.1]; exact Nat.le_refl _))) ?_
  · exact kk b u (fun z => hb (by simp [z])) ((hs₁.2.1 b hn).trans q)
  · obtain ⟨sl, q'⟩ := hs₁.2.2 b u q
    exact ⟨sl, kk b _ (fun z => hb (by simp [z])) q'⟩
  · refine ⟨_, _, _, _, he₃, (Obj.cls_mapFields _ _).trans hc, ?_, hd₃, by simp [hsz], hTe, hT₃, hobd, by simp⟩
    rw [← hdd]
    obtain ⟨c9, d9, dt9, sl9⟩ := oe
    cases dt9 <;> rfl
theorem note_ok {Q : Unit → Shared → Prop} (hs : OnStk X) (hA : A.frames = some X.stack) (I : Inv X [] σ H s) (F : Fly X H s.heap e cls dd)
    (k : ∀ h' T, Inv X [] σ H { s with heap := h' } → FpX X H T → FlT h' e T cls dd (rawInt X.env.locals) → Q () { s with heap := h' }) : wpAny M A (noteFrame (.ref e) X.env) Q E s := by
  obtain ⟨hp, F⟩ := F
  unfold noteFrame
  simp only [hs.2.1]
  rcases F with ⟨oe, vs, he, hc, hdd, hd, h1⟩ | ⟨T, fl, hT, oe, vs, oT, ts, he, hc, hdd, hd, h1, hTe, hoT, hdT, h3⟩
  · refine wpAny_bind (wpAny_field he hd h1 ?_)
    rw [if_neg (by decide)]
    exact entry_ok hs hA I hp he hc hdd hd (Array.getElem?_eq_some_iff.mp h1).1 k
  · refine wpAny_bind (wpAny_field he hd h1 ?_)
    rw [if_pos (show (Value.ref T != Value.none) = true from by simp)]
    refine wpAny_bind (wpAny_field hoT hdT h3 ?_)
    by_cases hfl : (fl == rawInt X.env.locals) = true
    · rw [if_pos hfl]
      have := k s.heap T I hT ⟨oe, vs, oT, ts, he, hc, hdd, hd, h1, hTe, hoT, hdT, by rw [h3, beq_iff_eq.mp hfl]⟩
      exact wpAny_pure this
    · rw [if_neg hfl]
      refine wpAny_bind (wpAny_setField hoT hdT (Array.getElem?_eq_some_iff.mp h3).1 ?_)
      have other : ∀ b, b ≠ T → (s.heap.update T (Obj.mapFields (·.setIfInBounds 3 Value.none))).get? b = s.heap.get? b := fun b hb => Heap.get?_update_other _ _ (Ne.symm hb)
      have I2 : Inv X [] σ H { s with heap := s.heap.update T (Obj.mapFields (·.setIfInBounds 3 Value.none)) } :=
        I.turnS (t' := s.toks) (ch := [T]) (fun b hb => by rw [List.mem_singleton.mp hb]; exact hT) (fun b u hb _ q => (other b (fun z => hb (by simp [z]))).trans q) fun b u hb q => ⟨u.slots, (other b (fun z => hb (by simp [z]))).trans q⟩
      exact entry_ok hs hA I2 hp ((other e (Ne.symm hTe)).trans he) hc hdd hd (Array.getElem?_eq_some_iff.mp h1).1 k
theorem flight_ok {Q : Unit → Shared → Prop} (fr : Option Addr) (I : Inv X [] σ H s) (hT : FpX X H T) (F : FlT s.heap e T cls dd fl)
    (k : ∀ h', Inv X [] σ H { s with heap := h' } → FlT h' e T cls dd (fr.elim .none fun f => rawInt f) → Q () { s with heap := h' }) : wpAny M A (setFlight (.ref e) fr) Q E s := by
  obtain ⟨oe, vs, oT, ts, he, hc, hdd, hd, h1, hTe, hoT, hdT, h3⟩ := F
  have hsz3 : 3 < ts.size := (Array.getElem?_eq_some_iff.mp h3).1
  have other : ∀ b, b ≠ T → (s.heap.update T (Obj.mapFields (·.setIfInBounds 3 (fr.elim .none fun f => rawInt f)))).get? b = s.heap.get? b := fun b hb => Heap.get?_update_other _ _ (Ne.symm hb)
  unfold setFlight
  refine wpAny_bind (wpAny_field he hd h1 ?_)
  rw [if_pos (show (Value.ref T != Value.none) = true from by simp)]
  refine wpAny_setField hoT hdT hsz3 (k _ ?_ ?_)
  · exact I.turnS (t' := s.toks) (ch := [T]) (fun b hb => by rw [List.mem_singleton.mp hb]; exact hT) (fun b u hb _ q => (other b (fun z => hb (by simp [z]))).trans q) fun b u hb q => ⟨u.slots, (other b (fun z => hb (by simp [z]))).trans q⟩
  · exact ⟨oe, vs, _, _, (other e (Ne.symm hTe)).trans he, hc, hdd, hd, h1, hTe, Heap.get?_update_self _ hoT (Obj.isFreed_of_fields (Obj.data_mapFields hdT _)), Obj.data_mapFields hdT _, by simp [hsz3]⟩
end
def CX1 (P : Program) (w : World) : CXT := fun outer H s E ev s' => ∃ e T cls dd H', ev = .ref e ∧ s'.os = s.os ∧ AllBare s'.gens ∧ Un (frs outer) [] H H' s.heap s'.heap ∧ HOk P w H' s'.heap ∧ FlT s'.heap e T cls dd .none ∧ H' e = none ∧ H' T = none ∧
  s.heap.get? e = none ∧ s.heap.get? T = none ∧ E cls dd H'
theorem CX1.xe {X : Cx} {W : XW} {pins : List (Addr × Obj)} {σ : St} {H : Hp} {s s' : Shared} {ev : Value} (hs : OnStk X) (I : Inv X pins σ H s) (h : CX1 X.prog X.w X.stack H s (fun c d H' => W c d σ H') ev s') : XE X W ev s' := by
  obtain ⟨e, T, cls, dd, H', rfl, os, bare, un, hok, F, he, hT, le, lT, q⟩ := h
  have J : Inv X [] σ H s := I.pins_of (by simp)
  have J' : Inv X [] σ H' s' := by
    obtain ⟨hh, g, d, t, os'⟩ := s'
    obtain rfl : os' = s.os := os
    exact J.call (h' := hh) (g' := g) (d' := d) (t' := t) (ch := []) un hok bare (fun b z => absurd z (by simp))
  exact ⟨e, cls, dd, σ, H', rfl, J', ⟨J.fpX hs le he, .inr ⟨T, _, J.fpX hs lT hT, F⟩⟩, q⟩
theorem xe_out {P : Program} {w : World} {K : PySem.W.Frag} {mg : Str → Option Value} {base : Heap} {N : List Str} {qual : Str} {scope : Scope} {f : Addr} {cd : Value} {A : Around} {outer : List Env} {s : Shared} {H : Hp} {E : XK} {ev : Value} {s' : Shared}
    (h : XE (cxOf (CX1 P w) P w K mg base N qual scope f cd A outer s H E) (fun c d _ H' => E c d H') ev s') : (cxOf (CX1 P w) P w K mg base N qual scope f cd A outer s H E).xe ev s' := by
  obtain ⟨e, cls, dd, σ, H', rfl, I, F, q⟩ := h
  show wpAny _ _ (leaving _ _) _ _ _
  unfold leaving
  refine wpAny_bind (note_ok (X := cxOf (CX1 P w) P w K mg base N qual scope f cd A outer s H E) ⟨rfl, rfl, rfl⟩ I.ok.frames I F fun h1 T I1 hT F1 => ?_)
  refine flight_ok none I1 hT F1 fun h2 I2 F2 => ?_
  exact ⟨e, T, cls, dd, H', rfl, I2.os, I2.bare, I2.base, I2.hok, F2, F.1.1, hT.1, F.1.2.2.2.1, hT.2.2.2.1, q⟩
def Wants (X : Cx) (W : XW) : Prop := OnStk X ∧ ∀ ev s, XE X W ev s → X.xe ev s
theorem XE.unwish {X : Cx} {E : Value → Shared → Prop} {W : XW} {ev : Value} {s : Shared} (h : XE (X.wish E) W ev s) : XE X W ev s :=
  let ⟨e, cls, dd, σ, H, q, I, F, w⟩ := h; ⟨e, cls, dd, σ, H, q, I.unwish, F, w⟩
theorem XE.wish {X : Cx} {E : Value → Shared → Prop} {W : XW} {ev : Value} {s : Shared} (h : XE X W ev s) : XE (X.wish E) W ev s :=
  let ⟨e, cls, dd, σ, H, q, I, F, w⟩ := h; ⟨e, cls, dd, σ, H, q, I.wish _, F, w⟩
theorem wants_wish {X : Cx} {W : XW} (hs : OnStk X) : Wants (X.wish (XE X W)) W := ⟨hs, fun _ _ h => h.unwish⟩
theorem PSs.imp {X : Cx} {E : Value → Shared → Prop} {st : List Stmt} {t : TS} (hE : ∀ ev s, E ev s → X.xe ev s) (h : PSs (X.wish E) st t) : PSs X st t := fun pins s σ H D I hw =>
  wpAny_mono (h pins s σ H D (I.wish _) hw) (fun _ _ q => q.unwish) fun e s z => hE e s z
section
variable {P : Program} {w : World} {K : PySem.W.Frag} {mg : Str → Option Value} {base : Heap}
abbrev bx (P : Program) (w : World) (K : PySem.W.Frag) (mg : Str → Option Value) (base : Heap) (N : List Str) (qual : Str) (scope : Scope) (f : Addr) (cd : Value) (A : Around) (outer : List Env) (s : Shared) (H : Hp) (E : XK) : Cx :=
  (cxOf (CX1 P w) P w K mg base N qual scope f cd A outer s H E).wish (XE (cxOf (CX1 P w) P w K mg base N qual scope f cd A outer s H E) (fun c d _ H' => E c d H'))
theorem Fun.okX {x qual : Str} {st : Stmt} {f : Addr} {fd : FuncData} {N ps : List Str} {k : Nat} {sp : Sp} (F : Fun K x qual st f fd) (S : FnScope N ps (defScope st)) (len : ∀ vs H Q E, sp vs H Q E → vs.length = ps.length)
    (hbody : ∀ (cdv : Value) (A : Around) (outer : List Env) (s : Shared) (H : Hp) (vs : List V) (Q : VK) (E : XK), Room k (A.deeper (envOfC qual (defScope st) s.heap.objs.size f cdv)) → sp vs H Q E →
      ∃ t, PSs (bx P w K mg base N qual (defScope st) f cdv A outer s H E) (defBody st) t ∧ t { nx := fun _ H' => Q .non H', rt := Q } (start N vs) H) : FnOk P w K mg base (CX1 P w) (k + 1) f fd ps sp := by
  obtain ⟨oc, od, kV, doc, pm, an, cdv, ct, osl, rfl, lk, hcd⟩ := F.ex
  refine fn_of lk hcd S len fun A outer s H vs Q E hr hsp => ?_
  obtain ⟨t, h, q⟩ := hbody cdv A outer s H vs Q E hr hsp
  exact ⟨t, h.imp fun _ _ z => xe_out z, q⟩
theorem FunD.okX {x qual : Str} {st : Stmt} {dV : Value} {f : Addr} {fd : FuncData} {N ps : List Str} {k : Nat} {sp : Sp} (F : FunD K x qual st dV f fd) (S : FnScope N ps (defScope st)) (len : ∀ vs H Q E, sp vs H Q E → vs.length = ps.length)
    (hbody : ∀ (cdv : Value) (A : Around) (outer : List Env) (s : Shared) (H : Hp) (vs : List V) (Q : VK) (E : XK), Room k (A.deeper (envOfC qual (defScope st) s.heap.objs.size f cdv)) → sp vs H Q E →
      ∃ t, PSs (bx P w K mg base N qual (defScope st) f cdv A outer s H E) (defBody st) t ∧ t { nx := fun _ H' => Q .non H', rt := Q } (start N vs) H) : FnOk P w K mg base (CX1 P w) (k + 1) f fd ps sp := by
  obtain ⟨oc, od, kV, doc, pm, an, cdv, ct, osl, rfl, lk, hcd⟩ := F.ex
  refine fn_of lk hcd S len fun A outer s H vs Q E hr hsp => ?_
  obtain ⟨t, h, q⟩ := hbody cdv A outer s H vs Q E hr hsp
  exact ⟨t, h.imp fun _ _ z => xe_out z, q⟩
end
def DefX (P : Program) (w : World) (K : PySem.W.Frag) (mg : Str → Option Value) (base : Heap) (k : Nat) (x : Str) (ps : List Str) (ds : List Value) (sp : Sp) : Prop :=
  ∃ f fd, FnOk P w K mg base (CX1 P w) k f fd ps sp ∧ mg x = some (.ref f) ∧ PySem.W.keepIn K (.ref f) = true ∧ Binds K fd ps ds
def tCallX (sp : Sp) (dvs : List V) (W : XW) (t : TA) : TE := fun σ H Q => t σ H fun vs H1 => sp (vs ++ dvs) H1 Q fun c d H' => W c d σ H'
section
variable {X : Cx} {W : XW} {k : Nat} {f C : Addr} {fd : FuncData} {ps : List Str} {sp : Sp} {dvs : List V} {ds : List Value} {x m : Str} {p pos apos : Pos} {e o : Expr} {es : List Expr} {ta : TE} {t : TA}
theorem run_fnX {pins : List (Addr × Obj)} {σ : St} {H : Hp} {s : Shared} {Q : VK} {us : List Value} {vs : List V} (hW : Wants X W) (F : FnOk X.prog X.w X.K X.mg X.base (CX1 X.prog X.w) k f fd ps sp) (hr : Room k X.A) (hb : Binds X.K fd ps ds) (hd : Vals dvs ds)
    (I : Inv X pins σ H s) (r : Vals vs us) (h : sp (vs ++ dvs) H Q fun c d H' => W c d σ H') : wpAny (model X.prog X.w) X.A (call (.ref f) us) (EP X pins σ Q) X.xe s := by
  have r2 : Vals (vs ++ dvs) (us ++ ds) := r.append hd
  have hl : (us ++ ds).length = ps.length := by rw [← r2.length]; exact F.len _ _ _ _ h
  refine wpAny_call (codeAny_mono (F.run X.A X.stack s H ⟨us, []⟩ (us ++ ds) (vs ++ dvs) Q _ hr I.env0 (hb s us I.kIn hl) r2 h) fun r s' hq => ?_)
  cases r with
  | error e => exact hW.2 _ _ (CX1.xe hW.1 I hq)
  | ok fl =>
    cases fl with
    | ret u => exact I.after hq
    | next => exact False.elim hq
    | brk => exact False.elim hq
    | cont => exact False.elim hq
theorem pe_fnX (hW : Wants X W) (D : DefX X.prog X.w X.K X.mg X.base k x ps ds sp) (hr : Room k X.A) (hg : Gl X x) (hd : Vals dvs ds) (ha : PA X (e :: es) t) (hdb : (x == ("__debug__" : Str)) = false := by decide)
    (he : starEach (e :: es) X.env = (false, eval e X.env) :: starEach es X.env := by rfl) (hpl : (backTo pos (starEach es X.env)).any (·.1) = false := by rfl) : PE X (.Call (.Name x p) (e :: es) [] pos) (tCallX sp dvs W t) := by
  obtain ⟨f, fd, F, hm, hk, hb⟩ := D
  intro pins s σ H Q I h
  refine wpAny_Call_Name_kw (ld_glob I hg hm ?_ hdb)
  refine PySem.W.callWith_K (h₀ := X.base) I.ok.mod.kin hk (thn (ha pos pins s σ H _ I h) fun us s1 ⟨vs, H1, I1, r, q⟩ => ⟨I1.kIn, ?_⟩) he hpl
  exact run_fnX hW F hr hb hd I1 r q
end
def veMro : List Value := [.type "ValueError", .type "Exception", .type "BaseException", .type "object"]
def ExcC (K : PySem.W.Frag) (C : Addr) : Prop := PySem.W.excIn K C veMro "ValueError.__new__" = true
theorem exc_at {K : PySem.W.Frag} {h : Heap} {C : Addr} {bmB : List Value} {newId : String} (X : K.In h) (q : PySem.W.excIn K C bmB newId = true) :
    ∃ bm N nm qn bs hd sn sub ab col dd k0 k1 k2 k3 k5 mN, h.get? C = some (excClassObj nm qn C N bs bm hd sn sub ab col dd k0 k1 k2 k3 k5 newId) ∧ h.Ns N mN ∧ mN "__init__" = none ∧ OwnTail h bmB bm := by
  unfold PySem.W.excIn at q
  split at q
  case h_2 => cases q
  case h_1 dd cd sl ho =>
    split at q
    case h_2 => cases q
    case h_1 C' bm k0 k1 k2 k3 n k5 hm hsl =>
      simp only [Bool.and_eq_true, beq_iff_eq, Bool.not_eq_true'] at q
      obtain ⟨⟨⟨⟨⟨q1, q2⟩, q3⟩, q4⟩, q5⟩, q6⟩ := q
      subst q1 q2
      cases cd with
      | mk nm bs mro ns qn hd sn sub ab col del =>
        cases sl with
        | mk l =>
          have hm' : mro = _ := hm
          have hl' : l = _ := hsl
          have q3' : del = false := q3
          subst hm' hl' q3'
          exact ⟨bm, ns, nm, qn, bs, hd, sn, sub, ab, col, dd, k0, k1, k2, k3, k5, _, X _ _ ho, .of_isNs (PySem.W.isNs_of_in X q5), PySem.W.nsMap_none_of_in X q5 q6, PySem.W.tail_of_in X q4⟩
def tRaise (W : XW) (C : Addr) (t : TA) : TS := fun _ σ H => t σ H fun vs H1 => vs.length ≤ sizeLine ∧ W (.ref C) none σ H1
theorem ns_bk {h h' : Heap} {N : Addr} {m : Str → Option Value} (k : ∀ b o, h.get? b = some o → h'.get? b = some o) (n : h.Ns N m) : h'.Ns N m :=
  let ⟨o, es, ep, e, r⟩ := n; ⟨o, es, ep, k _ _ e, r⟩
theorem ps_raise {X : Cx} {W : XW} {C : Addr} {x : Str} {np cpos pos : Pos} {e : Expr} {es : List Expr} {t : TA} (hW : Wants X W) (hc : X.calm = true) (hE : ExcC X.K C) (hg : Gl X x) (hm : X.mg x = some (.ref C)) (ha : PA X (e :: es) t)
    (hdb : (x == ("__debug__" : Str)) = false := by decide) (he : starEach (e :: es) X.env = (false, eval e X.env) :: starEach es X.env := by rfl) (hpl : (backTo cpos (starEach es X.env)).any (·.1) = false := by rfl) :
    PS X (.Raise (some (.Call (.Name x np) (e :: es) [] cpos)) none pos) (tRaise W C t) := by
  intro pins s σ H D I h
  obtain ⟨bm, N, nm, qn, bs, hd, sn, sub, ab, col, dd, k0, k1, k2, k3, k5, mN, hC, hN, hni, hT⟩ := exc_at I.ok.mod.kin hE
  refine wpAny_Raise_call_subU PySem.F.excBase_ValueError (by decide +kernel) PySem.F.excBase_ValueError (C := C) (nm := nm) (q := qn) (N := N) (bs := bs) (hdct := hd) (sn := sn) (sub := sub) (ab := ab) (col := col) (dd := dd) (k0 := k0) (k1 := k1) (k2 := k2) (k3 := k3) (k5 := k5) (hT.hasType (by decide +kernel)) (I.ok.hd hc) (by rw [he]; show (false || (backTo cpos (starEach es X.env)).any (·.1)) = false; rw [hpl]; rfl) hni (ld_glob I hg hm ⟨rfl, ?_⟩ hdb)
  have h2 := ha cpos pins s σ H _ I h
  rw [he] at h2 ⊢
  refine Calls.evalArgs_plain (thn h2 fun us s1 ⟨vs, H1, I1, r, q1, q2⟩ => ⟨rfl, by rw [← r.length]; exact q1, I1.bk _ _ hC, ns_bk I1.bk hN, hT.keeps I1.bk, fun h' ex hx => hW.2 _ _ ?_⟩)
  obtain ⟨tt, hex, _, _⟩ := hx.there
  have J : Inv X [] σ H1 s1 := I1.pins_of (by simp)
  exact ⟨ex, .ref C, none, σ, H1, rfl, J.kept (t' := s1.toks) hx.keeps, ⟨J.fpX hW.1 hx.new (J.noneOf hx.new), .inl ⟨_, _, hex, rfl, rfl, rfl, rfl⟩⟩, q2⟩
end L2
namespace L2
open PySem PySem.Spec PyProof.Rows
def excO (a : Addr) (cls : Value) (dd : Option Addr) : HO := .ext fun h => ∃ oe vs, h.get? a = some oe ∧ oe.cls = cls ∧ oe.dict = dd ∧ oe.data = .fields vs
abbrev hnd (X : Cx) (e : Addr) : Cx := { X with A := X.A.mark (some (.ref e)), calm := false, xe := fun _ _ => False }
abbrev pnd (X : Cx) (pn : List (Addr × Obj)) : Cx := { X with pn := pn }
section
variable {X : Cx} {pins : List (Addr × Obj)} {σ : St} {H : Hp} {s : Shared} {e : Addr}
theorem Inv.hnd (I : Inv X pins σ H s) (e : Addr) : Inv (hnd X e) pins σ H s :=
  ⟨⟨I.ok.mod, I.ok.kind, I.ok.glob, I.ok.blt, I.ok.above, I.ok.inj, I.ok.has, I.ok.cab, (fun z => nomatch z), I.ok.frames, I.ok.stk, I.ok.exf, I.ok.bs, I.ok.bsz, I.ok.noex, I.ok.exfs, I.ok.funs, I.ok.frf⟩, I.os, I.bare, I.base, I.loc, I.cell, I.free, I.freeC, I.pin, I.hok, I.len⟩
theorem Inv.unhnd (hd : X.calm = true → X.A.handled = none) (I : Inv (L2.hnd X e) pins σ H s) : Inv X pins σ H s :=
  ⟨⟨I.ok.mod, I.ok.kind, I.ok.glob, I.ok.blt, I.ok.above, I.ok.inj, I.ok.has, I.ok.cab, hd, I.ok.frames, I.ok.stk, I.ok.exf, I.ok.bs, I.ok.bsz, I.ok.noex, I.ok.exfs, I.ok.funs, I.ok.frf⟩, I.os, I.bare, I.base, I.loc, I.cell, I.free, I.freeC, I.pin, I.hok, I.len⟩
theorem Inv.pnd (I : Inv X pins σ H s) : Inv (pnd X (X.pn ++ pins)) [] σ H s :=
  ⟨⟨I.ok.mod, I.ok.kind, I.ok.glob, I.ok.blt, I.ok.above, I.ok.inj, I.ok.has, I.ok.cab, I.ok.hd, I.ok.frames, I.ok.stk, I.ok.exf, I.ok.bs, I.ok.bsz, I.ok.noex, I.ok.exfs, I.ok.funs, I.ok.frf⟩, I.os, I.bare, I.base, I.loc, I.cell, I.free, I.freeC, fun p hp => I.pin p (by
    have : p ∈ (X.pn ++ pins) ++ ([] : List (Addr × Obj)) := hp
    simpa using this), I.hok, I.len⟩
theorem Inv.unpnd (I : Inv (L2.pnd X (X.pn ++ pins)) [] σ H s) : Inv X pins σ H s :=
  ⟨⟨I.ok.mod, I.ok.kind, I.ok.glob, I.ok.blt, I.ok.above, I.ok.inj, I.ok.has, I.ok.cab, I.ok.hd, I.ok.frames, I.ok.stk, I.ok.exf, I.ok.bs, I.ok.bsz, I.ok.noex, I.ok.exfs, I.ok.funs, I.ok.frf⟩, I.os, I.bare, I.base, I.loc, I.cell, I.free, I.freeC, fun p hp => I.pin p (by
    show p ∈ (X.pn ++ pins) ++ ([] : List (Addr × Obj))
    simpa using hp), I.hok, I.len⟩
theorem SP.unpnd {E : Value → Shared → Prop} {D : Ends} {f : Flow} {s' : Shared} (h : SP ((L2.pnd X (X.pn ++ pins)).wish E) [] D f s') : SP X pins D f s' := by
  cases f with
  | next => obtain ⟨σ', H', I, q⟩ := h; exact ⟨σ', H', I.unwish.unpnd, q⟩
  | brk => obtain ⟨σ', H', I, q⟩ := h; exact ⟨σ', H', I.unwish.unpnd, q⟩
  | cont => obtain ⟨σ', H', I, q⟩ := h; exact ⟨σ', H', I.unwish.unpnd, q⟩
  | ret u => obtain ⟨v, σ', H', I, r, q⟩ := h; exact ⟨v, σ', H', I.unwish.unpnd, r, q⟩
theorem Inv.gone {h' : Heap} {t' : Nat} {n : Str} {j : Nat} {m : Str → Option Value} {v : Option Value} (I : Inv X pins σ H s) (hN : X.N.Nodup) (hj : X.N[j]? = some n) (hm : s.heap.Ns X.env.locals m)
    (hl : ∀ (i : Nat) (x : Str) (v : V), X.N[i]? = some x → σ[i]? = some (some v) → Vis X.env.scope x → ∃ u, RelV v u ∧ Look X.env s.heap m x u)
    (hn : h'.Ns X.env.locals (fun x => if x = n then v else m x)) (hs : Heap.SameBut X.env.locals s.heap h') : Inv X pins (σ.set j none) H { s with heap := h', toks := t' } := by
  have ne0 : ∀ b o, X.s₀.heap.get? b = some o → b ≠ X.env.locals := fun b o q => Nat.ne_of_lt (Nat.lt_of_lt_of_le (Heap.lt_size q) I.ok.above)
  refine ⟨I.ok, I.os, I.bare, ⟨fun b o q n hb hx => ?_, fun b o q n hb hx => ?_, I.base.free, fun b o q hx => ?_, I.base.tups, I.base.frzs, I.base.tbls⟩, ⟨_, hn, fun i y v' e1 e2 e3 => ?_⟩, fun y c q => ?_, I.free, I.freeC, fun p hp => ?_, fun b u q => ?_, by simpa using I.len⟩
  · exact (hs.2 b (ne0 b o q)).trans (I.base.keep b o q n hb hx)
  · obtain ⟨sl, e1⟩ := I.base.slot b o q n hb hx
    exact ⟨sl, (hs.2 b (ne0 b o q)).trans e1⟩
  · obtain ⟨o', e1⟩ := I.base.there b o q hx
    exact ⟨o', (hs.2 b (ne0 b o q)).trans e1⟩
  · by_cases hij : i = j
    · subst hij
      have hi : i < σ.length := by rw [I.len]; exact (List.getElem?_eq_some_iff.mp hj).1
      rw [List.getElem?_set_self hi] at e2
      cases e2
    · rw [List.getElem?_set_ne (Ne.symm hij)] at e2
      obtain ⟨u', r', q⟩ := hl i y v' e1 e2 e3
      refine ⟨u', r', ?_⟩
      rcases q with ⟨k, q⟩ | ⟨k, c, q, z⟩
      · have ny : y ≠ n := fun z => hij (nodup_ix hN e1 (z ▸ hj))
        exact .inl ⟨k, by simp [ny, q]⟩
      · exact .inr ⟨k, c, q, z.sameBut hs (I.cne y c q)⟩
  · obtain ⟨w', z⟩ := I.cell y c q
    exact ⟨w', z.sameBut hs (I.cne y c q)⟩
  · obtain ⟨q, n, ne, nf, d⟩ := I.pin p hp
    exact ⟨(hs.2 p.1 ne).trans q, n, ne, nf, d⟩
  · refine (I.hok b u q).stay (fun c w' hc q' => (hs.2 c ?_).trans q') (fun _ q => q) fun _ _ q => q
    rintro rfl
    rcases hc with z | z
    · rw [← z, I.free] at q; cases q
    · rw [I.free] at z; cases z
theorem goes_ok {M : Model} {A : Around} {E : Value → Shared → Prop} {n : Str} {j : Nat} {pos : Pos} {Q : Unit → Shared → Prop} (I : Inv X pins σ H s) (hN : X.N.Nodup) (hj : X.N[j]? = some n) (hl : X.env.kindOf n = some .local)
    (k : ∀ s', Inv X pins (σ.set j none) H s' → Q () s') : wpAny M A (do bindName X.env n .none; unbindBehindTheSuite X.env n pos) Q E s := by
  obtain ⟨m, hm, hl'⟩ := id I.loc
  exact wpAny_nameGoes_keeps hl hm (by rw [I.ok.kind]; rfl) fun h' v hn hs => k _ (I.gone hN hj hm hl' hn hs)
end
def Hits (K : PySem.W.Frag) (C : Addr) (cls : Value) : Prop := ∃ D, cls = .ref D ∧ PySem.W.ktsIn K D "BaseException" = true ∧ PySem.W.mroIn K D (.ref C) = some true
theorem mro_of {K : PySem.W.Frag} {h : Heap} {C : Addr} {base : Value} {r : Bool} {nm q : Str} {N : Addr} {bs bm : List Value} {hdct : Bool} {sn : List Str} {sub : List Value} {ab : Bool} {col : Option Bool} {dd : Option Addr} {k0 k1 k2 k3 k5 : Option Value} {newId : String}
    (X : K.In h) (e : PySem.W.mroIn K C base = some r) (hC : h.get? C = some (excClassObj nm q C N bs bm hdct sn sub ab col dd k0 k1 k2 k3 k5 newId)) : (Value.ref C :: bm).contains base = r := by
  unfold PySem.W.mroIn PySem.W.clsIn at e
  split at e
  case h_1 ho =>
    have := X _ _ ho
    rw [hC] at this
    cases this
    simpa using e
  case h_2 => simp at e
theorem excMatches_own {M : Model} {A : Around} {E : Value → Shared → Prop} {K : PySem.W.Frag} {s : Shared} {e C D : Addr} {oe : Obj} {Q : Bool → Shared → Prop} (X : K.In s.heap) (he : s.heap.get? e = some oe) (hcls : oe.cls = .ref D)
    (hC : PySem.W.ktsIn K C "BaseException" = true) (hD : PySem.W.ktsIn K D "BaseException" = true) (hs : PySem.W.mroIn K D (.ref C) = some true) (hq : Q true s) : wpAny M A (excMatches (.ref e) (.ref C)) Q E s := by
  obtain ⟨nm, qn, N, bs, bm, hdct, sn, sub, ab, col, dd, k0, k1, k2, k3, k5, newId, gC, hb, _⟩ := PySem.W.kts_cls X hC
  obtain ⟨nm', qn', N', bs', bm', hdct', sn', sub', ab', col', dd', k0', k1', k2', k3', k5', newId', gD, hb', _⟩ := PySem.W.kts_cls X hD
  have hcB : (Value.ref C :: bm).contains (.type "BaseException") = true := by rw [List.contains_cons, hb, Bool.or_true]
  have hcC := mro_of X hs gD
  have f := tc_notTuple
  obtain ⟨hp, g, d, tk, os⟩ := s
  unfold excMatches
  repeat (first | (with_reducible refine wpAny_loadPart_at he ?_; rw [hcls]) | with_reducible refine wpAny_loadPart_at gC ?_ | (with_reducible refine wpAny_isSubtype_exc gC ?_; rw [hcB]) | (with_reducible refine wpAny_isSubtype_exc gD ?_; rw [hcC]) | wp_step)
  exact hq
def hEnds (D : Ends) (j : Nat) : Ends := { nx := fun σ H => D.nx (σ.set j none) H, rt := D.rt, bk := fun σ H => D.bk (σ.set j none) H, ct := fun σ H => D.ct (σ.set j none) H }
def hW (K : PySem.W.Frag) (C : Addr) (th : TS) (j : Nat) (D : Ends) : XW := fun cls dd σ H => Hits K C cls ∧ ∀ e H', New H H' e (excO e cls dd) → th (hEnds D j) (σ.set j (some (.ref e))) H'
def sTry (K : PySem.W.Frag) (C : Addr) (tb : XW → TS) (th : TS) (j : Nat) : TS := fun D σ H => tb (hW K C th j D) D σ H
theorem ps_try {X : Cx} {C : Addr} {x n : Str} {j : Nat} {np hpos pos : Pos} {body suite : List Stmt} {b₀ : Stmt} {tb : XW → TS} {th : TS} (hs : OnStk X) (hN : X.N.Nodup) (hj : X.N[j]? = some n) (hl : X.env.kindOf n = some .local) (hx : X.env.scope.names.lookup n = some .local)
    (hg : Gl X x) (hm : X.mg x = some (.ref C)) (hC : PySem.W.ktsIn X.K C "BaseException" = true)
    (hb : ∀ pn W, PSs ((pnd X pn).wish (XE (pnd X pn) W)) body (tb W)) (hh : ∀ pn e, PSs (hnd (pnd X pn) e) (b₀ :: suite) th) (hdb : (x == ("__debug__" : Str)) = false := by decide) :
    PS X (.Try body [.ExceptHandler (some (.Name x np)) (some n) (b₀ :: suite) hpos] [] [] pos) (sTry X.K C tb th j) := by
  intro pins s σ H D I h
  have I0 : Inv (pnd X (X.pn ++ pins)) [] σ H s := I.pnd
  refine wpAny_Try_except (wpAny_mono (hb (X.pn ++ pins) _ [] s σ H D (I0.wish _) h) (fun f s1 q => ?_) fun ev s1 q => ?_)
  · cases f with
    | next => exact wpAny_execs_nil q.unpnd
    | brk => exact q.unpnd
    | cont => exact q.unpnd
    | ret u => exact q.unpnd
  · obtain ⟨e, cls, dd, σ1, H1, rfl, I1, F1, ⟨DC, rfl, hD, hDC⟩, w1⟩ := q
    have hs' : OnStk (pnd X (X.pn ++ pins)) := hs
    refine note_ok (X := pnd X (X.pn ++ pins)) hs' I1.ok.frames I1 F1 fun h2 T I2 hT F2 => ?_
    refine flight_ok none I2 hT F2 fun h3 I3 F3 => ?_
    obtain ⟨oe, vs, oT, ts, he, hc, _⟩ := id F3
    refine wpAny_handleBy_cons (codeAny_handlers_test (ld_glob (X := hnd (pnd X (X.pn ++ pins)) e) (I3.hnd e) hg hm ?_ hdb)) (by intro q; cases q)
    refine excMatches_own (s := { s1 with heap := h3 }) I3.kIn he hc hC hD hDC (codeAny_handlers_suite_as ?_)
    refine flight_ok none I3 hT F3 fun h4 I4 F4 => ?_
    obtain ⟨oe, vs, oT, ts, he, hc, hdd, hd, _⟩ := id F4
    have I5 : Inv (pnd X (X.pn ++ pins)) [] σ1 (upd H1 e (excO e (.ref DC) dd)) { s1 with heap := h4 } := I4.track F1.1 ⟨⟨oe, vs, he, hc, hdd, hd⟩, ⟨oe, he⟩, fun g1 g2 ⟨o', v', q1, q2, q3, q4⟩ k => ⟨o', v', k _ q1, q2, q3, q4⟩⟩
    refine store_ok (X := pnd X (X.pn ++ pins)) (v := .ref e) I5 hN hj (.inl hx) rfl (fun s6 I6 => ?_) (.inr hx)
    have w2 := w1 e _ (new_upd F1.1.1)
    refine wpAny_mono (hh (X.pn ++ pins) e [] s6 _ _ _ (I6.hnd e) w2) (fun f s7 q => ?_) fun _ _ z => False.elim z
    have go : ∀ {σ7 H7}, Inv (hnd (pnd X (X.pn ++ pins)) e) [] σ7 H7 s7 → ∀ {Q : Unit → Shared → Prop}, (∀ s', Inv X pins (σ7.set j none) H7 s' → Q () s') → wpAny (model X.prog X.w) X.A (do bindName X.env n .none; unbindBehindTheSuite X.env n hpos) Q X.xe s7 := fun {σ7 H7} J {Q} k =>
      goes_ok (Inv.unpnd (Inv.unhnd I.ok.hd J)) hN hj hl k
    cases f with
    | next => obtain ⟨σ7, H7, J, q7⟩ := q; exact go J fun s' J' => ⟨_, _, J', q7⟩
    | brk => obtain ⟨σ7, H7, J, q7⟩ := q; exact go J fun s' J' => ⟨_, _, J', q7⟩
    | cont => obtain ⟨σ7, H7, J, q7⟩ := q; exact go J fun s' J' => ⟨_, _, J', q7⟩
    | ret u => obtain ⟨v, σ7, H7, J, r, q7⟩ := q; exact go J fun s' J' => ⟨v, _, _, J', r, q7⟩
end L2
namespace L2
open PySem PySem.Spec PyProof.Rows
structure ExcK (K : PySem.W.Frag) (D : Addr) : Prop where
  ga : PySem.W.findIn K (.ref D) "__getattribute__" = some (some (.builtin "BaseException.__getattribute__"))
  gt : PySem.W.findIn K (.ref D) "__getattr__" = some none
  cl : PySem.W.findIn K (.ref D) "__class__" = some (some (.builtin "object.__class__"))
  ob : PySem.W.mroIn K D (.type "object") = some true
  be : PySem.W.mroIn K D (.type "BaseException") = some true
  kt : PySem.W.ktsIn K D "BaseException" = true
section
variable {prog : Program} {w : World} {A : Around} {E : Value → Shared → Prop} {s : Shared} {K : PySem.W.Frag} {a D : Addr} {oe : Obj} {vs : Array Value}
theorem exc_class {Q : Option Value → Shared → Prop} (X : K.In s.heap) (F : ExcK K D) (he : s.heap.get? a = some oe) (hc : oe.cls = .ref D) (hd : oe.data = .fields vs) (hdx : ∀ dx, oe.dict = some dx → ∃ o, s.heap.get? dx = some o) (h : Q (some (.ref D)) { s with toks := s.toks + 1 }) :
    wpAny (model prog w) A (getAttr? (.ref a) "__class__") Q E s := by
  obtain ⟨hh, g, d, t, os⟩ := s
  have L0 : PySem.W.Looks (model prog w) hh (typeOf (.ref a)) (.ref D) := hc ▸ (PySem.W.Looks.ld he).andThen .now
  have L1 := PySem.W.looks_findIn (M := model prog w) X F.ga
  have L2' := PySem.W.looks_findIn (M := model prog w) X F.gt
  have L3 := PySem.W.looks_findIn (M := model prog w) X F.cl
  have L4 := PySem.W.looks_mroIn (M := model prog w) X F.be
  have f3 := (PySem.F.attr_ValueError).ga.bind (.ref a)
  have hx2 : (Value.builtin "BaseException.__getattribute__" == Value.builtin "object.__getattribute__") = false := by decide +kernel
  unfold getAttr? getAttrBy? getAttrBy
  refine wpAny_bind (wpAny_mkText (wpAny_bind (wpAny_attempt (wpAny_holding (wpAny_bind (L0.at (wpAny_bind (L1.at ?_))))))))
  have hsel : (onTheHeap (Value.ref D) && Value.builtin "BaseException.__getattribute__" == Value.builtin "object.__getattribute__") = false := by rw [hx2]; rfl
  dsimp only
  rw [if_neg (by rw [hsel]; decide)]
  unfold getAttrByItsOwn
  have hx0 : (false && onTheHeap (Value.builtin "BaseException.__getattribute__")) = false := rfl
  unfold hookBefore
  refine wpAny_bind ?_
  rw [if_pos (show onTheHeap (Value.ref D) = true from rfl)]
  refine L2'.at ?_
  refine wpAny_bind (wpAny_attempt (wpAny_holding ?_))
  unfold callGetattribute
  rw [if_neg (by decide)]
  unfold boundAndCalled
  rw [f3]
  refine wpAny_bind (wpAny_pure ?_)
  refine wpAny_call (codeAny_call_builtin PySem.F.attr_ValueError.ga.plain PySem.F.entry_bexc_ga ?_)
  have hk : builtinKind "BaseException.__getattribute__" = some .slot := by decide +kernel
  have hsplit : splitId "BaseException.__getattribute__" = some ("BaseException", "__getattribute__") := by decide +kernel
  have ha := PySem.F.args_bexc_ga (.ref a) (.str "__class__" t)
  have hT5 : (⟨hh, g, d, t, os⟩ : Shared).TypeIs (.builtin "object.__class__") "getset_descriptor" := PySem.F.typeOf_object_class
  have f5 := PySem.F.typeOf_object_class
  have f6 := PySem.F.slot_gs_get.lookup
  have f7 := PySem.F.slot_gs_set.lookup
  simp only [checkBuiltinCall, hk, hsplit]
  refine wpAny_bind ?_
  unfold isInstance
  repeat (first | with_reducible refine L0.at ?_ | with_reducible refine L4.at ?_ | wp_step)
  refine L3.at ?_
  repeat (any_goals (first | assumption | with_reducible refine L0.at ?_ | wp_step))
  obtain ⟨od, I⟩ : ∃ od, PySem.W.InstAt hh a oe D od := by
    cases q : oe.dict with
    | none => exact ⟨none, he, hc, by unfold PySem.W.notCls; rw [hd], by rw [q]; trivial⟩
    | some dx =>
      obtain ⟨o, ho⟩ := hdx dx q
      exact ⟨some o, he, hc, by unfold PySem.W.notCls; rw [hd], by rw [q]; exact ho⟩
  refine PySem.W.class_get (s := ⟨hh, g, d, t + 1, os⟩) (od := od) X I F.ob ?_
  refine wpAny_pure ?_
  exact PySem.W.handed_on rfl (wpAny_pure h)
def ExAt (a D : Addr) (h : Heap) : Prop := ∃ oe vs, h.get? a = some oe ∧ oe.cls = .ref D ∧ oe.data = .fields vs ∧ ∀ dx, oe.dict = some dx → ∃ o, h.get? dx = some o
theorem kitx_exc (F : ExcK K D) : PySem.W.KitX K (.ref a) (.ref D) (ExAt a D) where
  ty := fun M h _ ⟨oe, vs, he, hc, _⟩ => hc ▸ (PySem.W.Looks.ld he).andThen .now
  it := fun _ _ X _ => by
    obtain ⟨nm, qn, N, bs, bm, hdct, sn, sub, ab, col, dd, k0, k1, k2, k3, k5, newId, gD, _⟩ := PySem.W.kts_cls X F.kt
    intro A' Q' E' s' k q
    unfold isType loadHead
    exact wpAny_bind (wpAny_loadPart (k _ _ gD) (wpAny_pure q))
  ne := fun h tp dd its n sl X htp => by
    obtain ⟨nm, qn, N, bs, bm, hdct, sn, sub, ab, col, dd, k0, k1, k2, k3, k5, newId, gD, _⟩ := PySem.W.kts_cls X F.kt
    refine Bool.eq_false_iff.mpr fun q => ?_
    have e : D = tp := Value.ref.inj (beq_iff_eq.mp q)
    subst e
    rw [gD] at htp
    have h2 := congrArg (Option.map Obj.cls) htp
    simp at h2
  ca := fun X ⟨oe, vs, he, hc, hd, hdx⟩ k => exc_class X F he hc hd hdx k
end
def clsV : V → Value
  | .ref C => .ref C
  | .ty T => .type T
  | _ => .none
theorem call_isiX {X : Cx} {K : PySem.W.Frag} (hK : X.K = K) : CallR X (.builtin "isinstance") (fun xs H Q => ∃ a D dd c b, xs = [.ref a, c] ∧ H a = some (excO a (.ref D) dd) ∧ ExcK K D ∧ (∀ dx, dd = some dx → ∃ fs, H dx = some (.xd fs)) ∧ PySem.W.kitOne K (.ref D) (clsV c) = some b ∧ Q (.bl b) H) := by
  subst hK
  intro pins s σ H xs us Q I r h
  obtain ⟨a, D, dd, c, b, rfl, ha, F, hdd, e, q⟩ := h
  obtain ⟨u, w', rfl, ru, rw'⟩ := vals2 r
  cases (show u = Value.ref a from ru)
  have hw : w' = clsV c := by
    cases c <;> first | exact rw' | (exfalso; simp [PySem.W.kitOne, PySem.W.kitCls, clsV] at e)
  subst hw
  obtain ⟨⟨oe, vs, he, hc, hdc, hd⟩, _⟩ := (show ObjOk X.prog X.w H s.heap a (excO a (.ref D) dd) from I.hok a _ ha)
  refine PySem.W.kia_one (kitx_exc F) I.kIn ⟨oe, vs, he, hc, hd, fun dx z => ?_⟩ e (fun z => nomatch z) fun tk => ⟨.bl b, H, I.tok tk, rfl, q⟩
  obtain ⟨fs, hx⟩ := hdd dx (hdc.symm.trans z)
  exact (I.hok dx _ hx).there
end L2
namespace L2
open PySem PySem.Spec PyProof.Rows
section
variable {X : Cx}
end
theorem wants_nox {X : Cx} (hs : OnStk X) : Wants X.nox (fun _ _ _ _ => False) := ⟨hs, fun _ _ ⟨_, _, _, _, _, _, _, _, w⟩ => w⟩
end L2
namespace L2
open PySem PySem.Spec PyProof.Rows
theorem up_same {H H' : Hp} {a : Addr} {o : HO} (s : Same H H') (h : H a = some o) : H' a = some o := s _ _ h
theorem up_new {H H' : Hp} {p a : Addr} {u o : HO} (n : New H H' p u) (h : H a = some o) : H' a = some o := n.same _ _ h
theorem same_by {H H1 H2 : Hp} {p : Addr} {u : HO} (a : Same H H1) (n : New H1 H2 p u) : Same H H2 := a.trans n.same
end L2
namespace L2
open PySem PySem.Spec PyProof.Rows
section
variable {X : Cx} {e e1 : Expr} {te t1 : TE} {pos p2 : Pos}
end
end L2
namespace L2
open PySem PySem.Spec PyProof.Rows
section
variable {prog : Program} {w : World} {A : Around} {R : Result → Shared → Prop} {I : Addr} {fp wr : List Addr} {n : Nat} {P : Nat → Value → Prop} {St : Nat → Heap → Prop} {d : Value}
end
section
variable {X : Cx}
theorem boolsAre_of : ∀ {bs : List Bool} {us : List Value}, Vals (bs.map V.bl) us → us = bs.map Value.bool
  | [], _, .nil => rfl
  | b :: r, _, .cons h t => by cases (show _ = Value.bool b from h); rw [boolsAre_of t]; rfl
theorem call_all (hc : X.calm = true) : CallR X (.builtin "all") (fun xs H Q => ∃ (p : Addr) (bs : List Bool), xs = [.ref p] ∧ SqL X.K H p (bs.map V.bl) ∧ Q (.bl (bs.all id)) H) := by
  intro pins s σ H xs us Q I r h
  obtain ⟨p, bs, rfl, hq, q⟩ := h
  obtain ⟨u, rfl, ru⟩ := vals1 r
  cases (show u = Value.ref p from ru)
  obtain ⟨its, rv, pl, hz⟩ := I.list hq
  have hl := pl.isList
  have hlt : p < s.heap.objs.size := by obtain ⟨_, e, _⟩ := hl; exact Heap.lt_size e
  have hb := boolsAre_of rv
  refine call_all_walk (wpAny_pyIter_list hl ?_)
  refine ⟨s.heap.objs.size, [s.heap.objs.size, p], [s.heap.objs.size], its.toArray.size, _, _, fun i => (bs[i]?).getD true, rfl, Walks.list (A := X.A.in1) (I.ok.hd hc) _ p (Nat.ne_of_lt hlt) its.toArray,
    ⟨⟨_, Heap.get?_push_size _ rfl, rfl, rfl⟩, hl.push _⟩, fun i v s' Q' E' hP hQ => ?_, fun h' tk hk => ?_⟩
  · rw [hb] at hP
    have hP' : (bs.map Value.bool)[i]? = some v := by simpa using hP
    rw [List.getElem?_map] at hP'
    obtain ⟨b, e1, e2⟩ := Option.map_eq_some_iff.mp hP'
    subst e2
    simp only [e1, Option.getD_some] at hQ
    exact wpAny_truthy_bool hQ
  · have e : ((List.range its.toArray.size).all fun i => (bs[i]?).getD true) = bs.all id := by
      rw [List.size_toArray, hb, List.length_map]; exact PyProof.Rows.LSm.range_all bs
    rw [e]
    refine ⟨.bl _, H, I.kept fun b o q => hk b o (fun hm => ?_) (Heap.get?_push_of_some _ q), rfl, q⟩
    rw [List.mem_singleton.mp hm] at q
    exact absurd (Heap.lt_size q) (Nat.lt_irrefl _)
end
theorem bt_all : bootBuiltins "all" = some (.builtin "all") := by decide +kernel
end L2
namespace L2
open PySem PyProof PyProof.Rows
section
variable {X : Cx}
end
end L2
namespace L2
open PySem PySem.Spec PyProof.Rows
section
variable {prog : Program} {w : World} {A : Around} {E : Value → Shared → Prop} {s : Shared}
end
section
variable {X : Cx}
end
end L2
namespace L2
open PySem PySem.Spec PyProof.Rows
def RawD (h : Heap) (d : Addr) (es : Array DictEntry) (ep : Nat) : Prop := ∃ o, h.get? d = some o ∧ o.ExactDict ∧ o.data = .dict es ep
theorem RawD.ty {s : Shared} {d : Addr} {es : Array DictEntry} {ep : Nat} (x : RawD s.heap d es ep) : s.TypeIs (.ref d) "dict" := let ⟨o, a, b, _⟩ := x; ⟨o, a, b.1⟩
theorem RawD.up {h h' : Heap} {d : Addr} {es : Array DictEntry} {ep : Nat} (x : RawD h d es ep) (e : ∀ o, h.get? d = some o → h'.get? d = some o) : RawD h' d es ep := let ⟨o, a, b⟩ := x; ⟨o, e o a, b⟩
theorem RawD.lt {h : Heap} {d : Addr} {es : Array DictEntry} {ep : Nat} (x : RawD h d es ep) : d < h.objs.size := let ⟨_, a, _⟩ := x; Heap.lt_size a
section
variable {prog : Program} {w : World} {A : Around} {E : Value → Shared → Prop} {s : Shared}
end
end L2
namespace L2
open PySem PySem.Spec PyProof.Rows
section
variable {prog : Program} {w : World} {A : Around} {E : Value → Shared → Prop} {s : Shared}
end
section
variable {X : Cx}
end
end L2
namespace L2
open PySem PySem.Spec PyProof.Rows
section
variable {X : Cx} {tg : Expr}
end
section
variable {X : Cx}
end
end L2
namespace L2
open PySem PySem.Spec PyProof.Rows
end L2
namespace L2
theorem lq1 {α : Type} {us : List α} (h : us.length = 1) : ∃ a, us = [a] := by
  cases us with
  | nil => cases h
  | cons a r => exact ⟨a, by rw [List.length_eq_zero_iff.mp (Nat.succ.inj h)]⟩
theorem lq2 {α : Type} {us : List α} (h : us.length = 2) : ∃ a0 a1, us = [a0, a1] := by
  cases us with
  | nil => cases h
  | cons a r => obtain ⟨a1, e⟩ := lq1 (Nat.succ.inj h); exact ⟨a, a1, by rw [e]⟩
end L2
namespace L2
open PySem PySem.Spec PyProof.Rows PySem.W
def KW (lt : Nat → Nat → Bool) (n : Nat) {α : Type} : KasT α → (α → Prop) → Prop
  | .ret a, Q => Q a
  | .ask i j k, Q => i < n ∧ j < n ∧ KW lt n (k (lt i j)) Q
theorem KW.bind {lt : Nat → Nat → Bool} {n : Nat} {α β : Type} {f : α → KasT β} {Q : β → Prop} : ∀ {t : KasT α}, KW lt n t (fun a => KW lt n (f a) Q) → KW lt n (t.bind f) Q
  | .ret a, h => by rw [KasT.bind.eq_1]; exact h
  | .ask i j k, h => by
    rw [KasT.bind.eq_2]
    exact ⟨h.1, h.2.1, KW.bind h.2.2⟩
theorem KW.mono {lt : Nat → Nat → Bool} {n : Nat} {α : Type} {Q Q' : α → Prop} (hq : ∀ a, Q a → Q' a) : ∀ {t : KasT α}, KW lt n t Q → KW lt n t Q'
  | .ret a, h => hq a h
  | .ask i j k, h => ⟨h.1, h.2.1, KW.mono hq h.2.2⟩
theorem KW.run {lt : Nat → Nat → Bool} {n : Nat} {α : Type} {Q : α → Prop} {cmp : Nat → Nat → (Bool → Shared → Prop) → Shared → Prop} {s : Shared} (hc : ∀ i j (C : Bool → Shared → Prop), i < n → j < n → C (lt i j) s → cmp i j C s) :
    ∀ {t : KasT α}, KW lt n t Q → KasT.kasWp cmp t (fun a s' => s' = s ∧ Q a) s
  | .ret a, h => by rw [KasT.kasWp.eq_1]; exact ⟨rfl, h⟩
  | .ask i j k, h => by
    rw [KasT.kasWp.eq_2]
    exact hc i j _ h.1 h.2.1 (KW.run hc h.2.2)
structure OrdN (n : Nat) (lt : Nat → Nat → Bool) : Prop where
  tot : ∀ i j, i < n → j < n → i ≠ j → lt i j = false → lt j i = true
  tr : ∀ i j k, i < n → j < n → k < n → lt i j = true → lt j k = true → lt i k = true
structure PermA (n : Nat) (p : Array Nat) : Prop where
  sz : p.size = n
  perm : p.toList.Perm (List.range n)
theorem PermA.lt {n : Nat} {p : Array Nat} (h : PermA n p) {x : Nat} (hx : x < n) : p.getD x 0 < n := by
  have hs := h.sz
  rw [Array.getD_eq_getD_getElem?, Array.getElem?_eq_getElem (by omega)]
  have : p[x] ∈ p.toList := by simp
  exact List.mem_range.mp (h.perm.mem_iff.mp this)
theorem PermA.inj {n : Nat} {p : Array Nat} (h : PermA n p) {x y : Nat} (hx : x < n) (hy : y < n) (hne : x ≠ y) : p.getD x 0 ≠ p.getD y 0 := by
  have hs := h.sz
  have nd : p.toList.Nodup := h.perm.nodup_iff.mpr List.nodup_range
  rw [Array.getD_eq_getD_getElem?, Array.getElem?_eq_getElem (by omega), Array.getD_eq_getD_getElem?, Array.getElem?_eq_getElem (by omega)]
  intro e
  have e' : p.toList[x]'(by simpa using by omega) = p.toList[y]'(by simpa using by omega) := by simpa using e
  have pw := List.pairwise_iff_getElem.mp nd
  rcases Nat.lt_or_gt_of_ne hne with h1 | h1
  · exact pw x y (by simpa using by omega) (by simpa using by omega) h1 e'
  · exact pw y x (by simpa using by omega) (by simpa using by omega) h1 e'.symm
theorem PermA.of {n : Nat} {p q : Array Nat} (h : PermA n p) (hq : q.Perm p) : PermA n q := by
  have e : q.toList.Perm p.toList := Array.perm_iff_toList_perm.mp hq
  exact ⟨by have := e.length_eq; simpa [h.sz] using this, e.trans h.perm⟩
structure OrdW (n : Nat) (lt : Nat → Nat → Bool) : Prop where
  as_ : ∀ i j, i < n → j < n → lt i j = true → lt j i = false
  tr : ∀ i j k, i < n → j < n → k < n → lt j i = false → lt k j = false → lt k i = false
section
variable {lt : Nat → Nat → Bool} {n : Nat}
end
end L2
namespace L2
open PySem PySem.Spec PyProof.Rows PySem.W
def blt : List Int → List Int → Bool
  | [], [] => false
  | [], _ :: _ => true
  | _ :: _, [] => false
  | a :: r, b :: t => if a = b then blt r t else decide (a < b)
section
variable {prog : Program} {w : World} {A : Around} {E : Value → Shared → Prop} {s : Shared}
end
end L2
namespace L2
open PySem PySem.Spec PyProof.Rows PySem.W
def TupsH (H : Hp) (xs : List V) (ks : List (List Int)) : Prop := Paired (fun v r => ∃ a, v = V.ref a ∧ H a = some (.tup (r.map V.int))) xs ks
theorem TupsH.len {H : Hp} : ∀ {xs : List V} {ks : List (List Int)}, TupsH H xs ks → xs.length = ks.length
  | _, _, .nil => rfl
  | _, _, .cons _ t => by simp [TupsH.len t]
theorem TupsH.get {H : Hp} : ∀ {xs : List V} {ks : List (List Int)} {i : Nat} {x : V} {k : List Int}, TupsH H xs ks → xs[i]? = some x → ks[i]? = some k → ∃ a, x = .ref a ∧ H a = some (.tup (k.map V.int))
  | _, _, _, _, _, .nil, e, _ => by simp at e
  | _, _, 0, _, _, .cons r _, e, f => by simp at e f; subst e f; exact r
  | _, _, i + 1, x, k, .cons _ t, e, f => TupsH.get (i := i) t (by simpa using e) (by simpa using f)
section
variable {prog : Program} {w : World} {A : Around} {E : Value → Shared → Prop} {s : Shared}
end
section
variable {X : Cx}
end
end L2
namespace L2
open PySem PySem.Spec PyProof.Rows
section
variable {X : Cx} {k : Nat} {C : Addr} {ps : List Str} {sp : Sp} {dvs : List V} {ds : List Value} {m : Str} {pos apos : Pos} {e o : Expr} {es : List Expr} {ta : TE} {t : TA}
end
end L2
namespace L2
open PySem PySem.Spec PyProof.Rows PySem.W
section
variable {prog : Program} {w : World} {A : Around} {E : Value → Shared → Prop} {s : Shared}
end
section
variable {X : Cx} {pos : Pos}
end
end L2
namespace L2
open PySem PySem.Spec PyProof.Rows
section
variable {prog : Program} {w : World} {A : Around} {E : Value → Shared → Prop} {s : Shared}
end
end L2
namespace L2
open PySem PySem.Spec PyProof.Rows
section
variable {X : Cx} {pins : List (Addr × Obj)} {σ : St} {H : Hp} {s : Shared} {d : Addr}
end
section
variable {X : Cx}
end
end L2
namespace L2
open PySem PySem.Spec PyProof.Rows
section
variable {prog : Program} {w : World} {A : Around} {E : Value → Shared → Prop} {h : Heap} {g : Array GenState} {d : Drawn} {t : Nat} {os : OsState}
variable {nm q : Str} {C N x : Addr} {bs bm : List Value} {hdct : Bool} {sn : List Str} {sub : List Value} {ab : Bool} {col : Option Bool} {dd : Option Addr} {k0 k1 k2 k3 k5 : Option Value}
end
def excN (a : Addr) (cls : Value) (dd : Option Addr) : HO := .ext fun h => ∃ oe vs, h.get? a = some oe ∧ oe.cls = cls ∧ oe.dict = dd ∧ oe.data = .fields vs ∧ vs.size = 6 ∧ vs[1]? = some .none
def excInI (K : PySem.W.Frag) (C f : Addr) : Bool := match K.lookup C with
  | some ⟨.type "type", _, .cls cd, sl⟩ => (match cd.mro, sl.toList with
    | .ref C' :: bm, [_, _, _, _, some (.builtin n), _] => C' == C && n == "ValueError.__new__" && !cd.hasDel && PySem.W.tailIn K veMro bm && PySem.W.nsOkIn K cd.ns && PySem.W.nsIn K cd.ns "__init__" == some (some (.ref f)) && cd.hasDict
    | _, _ => false)
  | _ => false
structure ExcI (K : PySem.W.Frag) (C f : Addr) (fld : Str) : Prop where
  e : excInI K C f = true
  fn : PySem.W.isFn K (.ref f) = true
  x : ExcK K C
  hd : PySem.W.hasDictIn K C = true
  sa : PySem.W.findIn K (.ref C) "__setattr__" = some (some (.builtin "object.__setattr__"))
  na : PySem.W.findIn K (.ref C) fld = some none
structure ExcAtI (h : Heap) (C f : Addr) : Prop where
  e : ∃ bm N nm qn bs sn sub ab col dd k0 k1 k2 k3 k5 mN, h.get? C = some (excClassObj nm qn C N bs bm true sn sub ab col dd k0 k1 k2 k3 k5 "ValueError.__new__") ∧ h.Ns N mN ∧ mN "__init__" = some (.ref f) ∧ OwnTail h veMro bm
section
variable {prog : Program} {w : World} {A : Around} {E : Value → Shared → Prop} {K : PySem.W.Frag} {h : Heap} {g : Array GenState} {d : Drawn} {t : Nat} {os : OsState} {C f x : Addr} {o : Obj} {vs : Array Value}
end
end L2
namespace L2
open PySem PySem.Spec PyProof.Rows
section
variable {prog : Program} {w : World} {A : Around} {E : Value → Shared → Prop} {s : Shared} {K : PySem.W.Frag} {a D : Addr} {oe : Obj} {od : Option Obj}
end
structure BaseI (K : PySem.W.Frag) (B : Addr) : Prop where
  sp : PySem.W.specialIn K (.ref B) "__getattribute__" = some (some (.builtin "type.__getattribute__"))
  rd : PySem.W.readsIn K B (.type "type") = true
  fi : PySem.W.findCls K (.ref B) (.type "type") "__init__" = some (.val (.builtin "ValueError.__init__"))
def dropH (H : Hp) (e : Addr) : Hp := fun b => if b = e then none else H b
theorem drop_ne {H : Hp} {e b : Addr} (h : b ≠ e) : dropH H e b = H b := if_neg h
theorem drop_at {H : Hp} {e : Addr} : dropH H e e = none := if_pos rfl
theorem Inv.drop {X : Cx} {σ : St} {H : Hp} {s : Shared} {e : Addr} {φ : Heap → Prop} (I : Inv X [] σ H s) (he : H e = some (.ext φ)) : Inv X [] σ (dropH H e) s := by
  have key : ∀ b o, H b = some o → (∀ ψ, o ≠ .ext ψ) → dropH H e b = some o := fun b o q n => by
    rw [drop_ne (fun z => by rw [z, he] at q; cases q; exact n _ rfl)]; exact q
  have no : ∀ b, H b = none → dropH H e b = none := fun b q => by
    by_cases z : b = e
    · rw [z]; exact drop_at
    · rw [drop_ne z]; exact q
  refine ⟨I.ok, I.os, I.bare, ⟨I.base.keep, I.base.slot, fun b o q n hx => no b (I.base.free b o q n hx), I.base.there, fun b xs q => key _ _ (I.base.tups b xs q) (by intro ψ z; cases z), fun b o xs q => key _ _ (I.base.frzs b o xs q) (by intro ψ z; cases z), fun b ps q => ?_⟩, I.loc, I.cell, no _ I.free, fun x c q => no _ (I.freeC x c q), fun p hp => ?_, fun b u q => ?_, I.len⟩
  · obtain ⟨m1, e1⟩ := I.base.tbls b ps q
    exact ⟨m1, key _ _ e1 (by intro ψ z; cases z)⟩
  · obtain ⟨q, n, ne, nf, d⟩ := I.pin p hp
    exact ⟨q, no _ n, ne, nf, d⟩
  · by_cases z : b = e
    · rw [z, drop_at] at q; cases q
    · rw [drop_ne z] at q
      exact (I.hok b u q).stay (fun _ _ _ q => q) (fun c q => key _ _ q (by intro ψ z; cases z)) fun c xs q => key _ _ q (by intro ψ z; cases z)
def sp_xinit (C : Addr) (fld : Str) : Sp := fun vs H Q _ => ∃ ex v, vs = [.ref ex, v] ∧ H ex = some (excN ex (.ref C) none) ∧ ∀ dx H', H dx = none → dx ≠ ex → H' ex = some (excN ex (.ref C) (some dx)) → H' dx = some (.xd [(fld, v)]) → (∀ b o, H b = some o → b ≠ ex → H' b = some o) → Q .non H'
structure XcOk (P : Program) (w : World) (K : PySem.W.Frag) (mg : Str → Option Value) (base : Heap) (C : Addr) (k : Nat) (x : Str) (ps : List Str) (fld : Str) : Prop where
  ex : ∃ f fd, FnOk P w K mg base CX0 k f fd ps (sp_xinit C fld) ∧ mg x = some (.ref C) ∧ ExcI K C f fld ∧ Binds K fd ps []
end L2
namespace L2
open PySem PySem.Spec PyProof.Rows
structure Mk0 (K : PySem.W.Frag) (C : Addr) : Prop where
  makes : PySem.W.makesIn K C = true
  init : PySem.W.findIn K (.ref C) "__init__" = some (some (.builtin "object.__init__"))
  kp : PySem.W.keepIn K (.ref C) = true
end L2
namespace L2
open PySem PySem.Spec PyProof.Rows PySem.Builtin PySem.Builtin.Str
structure InsK (K : PySem.W.Frag) (C : Addr) : Prop where
  cl : Cls K C
  ha : PySem.W.findIn K (.ref C) "__class__" = some (some (.builtin "object.__class__"))
  hn : PySem.W.specialIn K (.builtin "object.__class__") "__get__" = some (some (.builtin "getset_descriptor.__get__"))
  htk : PySem.W.takesIn K (.builtin "object.__class__") = some true
  hm : PySem.W.mroIn K C (.type "object") = some true
theorem InsK.ty {K : PySem.W.Frag} {H : Hp} {a C dx : Addr} {fs : List (Str × V)} (h : InsK K C) (e : H a = some (.ins C dx fs)) : TyOf K H (.ref a) (.ref C) := .ins e h.cl h.ha h.hn h.htk h.hm
def slS (x : Str) (lo hi : Option Int) : Str :=
  if ((strSliceIndices lo hi 1 x.length).length == x.length) = true then x else ⟨((strSliceIndices lo hi 1 x.length).filterMap (x.cps[·]?)).toArray⟩
def rSlS : V → Option Int → Option Int → Hp → VK → Prop := fun x lo hi H Q => ∃ z, x = .str z ∧ (slS z lo hi).length ≤ sizeLine ∧ Q (.str (slS z lo hi)) H
theorem sl_str {X : Cx} : SlR X rSlS := by
  intro pins s σ H x v vl vu lo hi sl Q I rx hs pl pu h
  obtain ⟨z, rfl, hz, q⟩ := h
  obtain ⟨t, rfl⟩ := rx
  obtain ⟨l, el, el2⟩ : ∃ l : Option (Int × Tok), vl = partValue l ∧ l.map (·.1) = lo := by
    cases pl with
    | none => exact ⟨none, rfl, rfl⟩
    | int i t => exact ⟨some (i, t), rfl, rfl⟩
  obtain ⟨u, eu, eu2⟩ : ∃ u : Option (Int × Tok), vu = partValue u ∧ u.map (·.1) = hi := by
    cases pu with
    | none => exact ⟨none, rfl, rfl⟩
    | int i t => exact ⟨some (i, t), rfl, rfl⟩
  subst el eu el2 eu2
  have hs' : s.heap.IsSlice sl l u none := hs
  refine ⟨"str", _, F.slot_str_getitem.lookup, typeIs_str _ _ _, wpAny_getItem_str_slice (l := l) (u := u) (st := none) hs' rfl ?_⟩
  unfold slS at q hz
  unfold sliceMade slicePicked
  by_cases c : ((strSliceIndices (l.map (·.1)) (u.map (·.1)) 1 z.length).length == z.length) = true
  · rw [if_pos c] at q
    rw [if_pos (by simpa using c)]
    exact ⟨.str z, H, I, ⟨_, rfl⟩, q⟩
  · rw [if_neg c] at q hz
    rw [if_neg (by simpa using c)]
    exact ⟨hz, ⟨.str _, H, I.tok _, ⟨_, rfl⟩, q⟩⟩
theorem call_any {X : Cx} (hc : X.calm = true) : CallR X (.builtin "any") (fun xs H Q => ∃ (p : Addr) (bs : List Bool), xs = [.ref p] ∧ SqL X.K H p (bs.map V.bl) ∧ Q (.bl (bs.any id)) H) := by
  intro pins s σ H xs us Q I r h
  obtain ⟨p, bs, rfl, hq, q⟩ := h
  obtain ⟨u, rfl, ru⟩ := vals1 r
  cases (show u = Value.ref p from ru)
  obtain ⟨its, rv, pl, hz⟩ := I.list hq
  have hl := pl.isList
  have hlt : p < s.heap.objs.size := by obtain ⟨_, e, _⟩ := hl; exact Heap.lt_size e
  have hb := boolsAre_of rv
  refine call_any_walk (wpAny_pyIter_list hl ?_)
  refine ⟨s.heap.objs.size, [s.heap.objs.size, p], [s.heap.objs.size], its.toArray.size, _, _, fun i => (bs[i]?).getD false, rfl, Walks.list (A := X.A.in1) (I.ok.hd hc) _ p (Nat.ne_of_lt hlt) its.toArray,
    ⟨⟨_, Heap.get?_push_size _ rfl, rfl, rfl⟩, hl.push _⟩, fun i v s' Q' E' hP hQ => ?_, fun h' tk hk => ?_⟩
  · rw [hb] at hP
    have hP' : (bs.map Value.bool)[i]? = some v := by simpa using hP
    rw [List.getElem?_map] at hP'
    obtain ⟨b, e1, e2⟩ := Option.map_eq_some_iff.mp hP'
    subst e2
    simp only [e1, Option.getD_some] at hQ
    exact wpAny_truthy_bool hQ
  · have e : ((List.range its.toArray.size).any fun i => (bs[i]?).getD false) = bs.any id := by
      rw [List.size_toArray, hb, List.length_map]; exact PyProof.Rows.LSm.range_any bs
    rw [e]
    refine ⟨.bl _, H, I.kept fun b o q => hk b o (fun hm => ?_) (Heap.get?_push_of_some _ q), rfl, q⟩
    rw [List.mem_singleton.mp hm] at q
    exact absurd (Heap.lt_size q) (Nat.lt_irrefl _)
theorem bt_any : bootBuiltins "any" = some (.builtin "any") := by decide +kernel
end L2
namespace L2
open PySem PySem.Spec PyProof.Rows PySem.W
end L2
namespace L2
open PySem PySem.Spec PyProof.Rows PySem.W
section
variable {prog : Program} {w : World} {A : Around} {E : Value → Shared → Prop} {s : Shared}
end
section
variable {X : Cx}
end
end L2
namespace L2
open PySem PySem.Spec PyProof.Rows
section
variable {prog : Program} {w : World} {A : Around} {R : Result → Shared → Prop} {I : Addr} {fp wr : List Addr} {n : Nat} {P : Nat → Value → Prop} {St : Nat → Heap → Prop} {K : Type} [DecidableEq K] {knd : KeyKind prog w K}
end
end L2
namespace L2
open PySem PySem.Spec PyProof.Rows
section
variable {prog : Program} {w : World} {A : Around} {E : Value → Shared → Prop} {s : Shared} {K : Type} [DecidableEq K] {knd : KeyKind prog w K}
end
end L2
namespace L2
open PySem PySem.Spec PyProof.Rows
section
variable {X : Cx} {k : Nat} {ps : List Str} {sp : Sp} {dvs : List V} {ds : List Value} {x : Str} {p pos : Pos} {e : Expr} {es : List Expr} {t : TA}
end
end L2
namespace L2
open PySem
end L2
namespace L2
open PySem
end L2
namespace L2
open PySem
section
variable {X : Cx}
end
end L2
namespace L2
open PySem PyProof PyProof.Rows
section
variable {X : Cx}
theorem big_ltH : (10 : Nat) ^ 250 < 2 ^ 1000 := by decide +kernel
theorem log2_bigH {j : Int} (h : j.natAbs < 10 ^ 250) : j.natAbs.log2 < 1000 := by
  by_cases h0 : j.natAbs = 0
  · rw [h0]; decide +kernel
  · exact (Nat.log2_lt h0).mpr (Nat.lt_trans h big_ltH)
def CMulH (i j : Int) : Prop := (-(10 ^ 250) < i ∧ i < 10 ^ 250) ∧ (-(10 ^ 250) < j ∧ j < 10 ^ 250)
theorem bits_bigH {j : Int} (h : j.natAbs < 10 ^ 250) : Builtin.Int.intBits j ≤ 1000 := by
  unfold Builtin.Int.intBits
  split
  · exact Nat.zero_le _
  · have := log2_bigH h
    omega
theorem CMulH.ok {i j : Int} (h : CMulH i j) : IntMulOk i j := by
  obtain ⟨⟨h1, h2⟩, h3, h4⟩ := h
  have e1 := bits_bigH (j := i) (by omega)
  have e2 := bits_bigH (j := j) (by omega)
  have e3 : Builtin.Int.intTooBig (Builtin.Int.intBits i + Builtin.Int.intBits j) = false := by
    unfold Builtin.Int.intTooBig
    rw [decide_eq_false]
    have : (bitsLine : Int) = 134217728 := by decide +kernel
    omega
  unfold IntMulOk
  rw [e3]
  simp
end
end L2
namespace L2
open PySem PySem.Calls PySem.NumText PyProof.Rows
section
variable {prog : Program} {w : World} {A : Around} {E : Value → Shared → Prop} {s : Shared} {Q : Value → Shared → Prop} {x : PySem.Str} {t : Tok} {n : Int}
end
end L2
namespace L2
open PySem PySem.Spec PyProof.Rows PySem.Builtin PySem.Builtin.Str
theorem Inv.nodig {X : Cx} {pins : List (Addr × Obj)} {σ : List (Option V)} {H : Hp} {s : Shared} (I : Inv X pins σ H s) : s.heap.NoDigits := I.ok.mod.nodig.keeps I.bk
def S (l : List Nat) : Str := ⟨l.toArray⟩
theorem S_len (l : List Nat) : (S l).length = l.length := by show l.toArray.size = _; simp
theorem S_inj {a b : List Nat} (h : S a = S b) : a = b := by
  have := congrArg (fun x : Str => x.cps.toList) h
  simpa [S] using this
theorem S_cat (a b : List Nat) : S a ++ S b = S (a ++ b) := by
  show (⟨a.toArray ++ b.toArray⟩ : Str) = ⟨(a ++ b).toArray⟩
  simp
theorem S_dec (a b : List Nat) : decide (V.str (S a) = V.str (S b)) = decide (a = b) := by
  by_cases h : a = b
  · subst h; simp
  · rw [decide_eq_false h, decide_eq_false fun z => h (S_inj (by injection z))]
theorem call_lenS {X : Cx} : CallR X (.builtin "len") (fun xs H Q => ∃ z, xs = [.str (S z)] ∧ z.length ≤ sizeLine ∧ Q (.int z.length) H) := by
  intro pins s σ H xs us Q I r h
  obtain ⟨z, rfl, hz, q⟩ := h
  exact call_len pins s σ H _ us Q I r ⟨_, _, rfl, ⟨by rw [S_len]; exact hz, rfl⟩, by rw [S_len]; exact q⟩
theorem pe_ixS {X : Cx} {a b : Expr} {ta tb : TE} {pos : Pos} (ha : PE X a ta) (hb : PE X b tb) (hs : PlainIxT b) :
    PE X (.Subscript a b pos) (tOp (fun x y H Q => ∃ z i c, x = .str (S z) ∧ y = .int i ∧ 0 ≤ i ∧ i < 2 ^ 63 ∧ z[i.toNat]? = some c ∧ Q (.str (S [c])) H) ta tb) := by
  intro pins s σ H Q I h
  refine Subscript_ (binT ha hb I h fun v u s2 x y H2 I2 rx ry q => ?_)
  obtain ⟨z, i, c, rfl, rfl, h0, h63, hc, q⟩ := q
  obtain ⟨t, rfl⟩ := rx
  obtain ⟨t', rfl⟩ := ry
  have hl := (List.getElem?_eq_some_iff.mp hc).1
  have e : seqIndex? i (S z).length = some i.toNat := PySem.StrLaws.seqIndex_nonneg h0 (by rw [S_len]; omega)
  exact tail_any (typeIs_str s2 (S z) t) PySem.F.slot_str_getitem.lookup (getItem_str (c := c) (by
    have e1 : decide (i < -(2 ^ 63 : Int)) = false := decide_eq_false (by omega)
    have e2 : decide (i ≥ 2 ^ 63) = false := decide_eq_false (by omega)
    rw [e1, e2] <;> rfl) (by rw [e]; simpa [S] using hc) ⟨.str (S [c]), H2, I2.tok _, ⟨_, rfl⟩, q⟩) (hs _ _)
theorem mt_starts {X : Cx} : MtR X "str.startswith" (fun x vs H Q => ∃ z y, x = .str z ∧ vs = [.str y] ∧ Q (.bl (PySem.Txt.startswith z y)) H) := by
  intro pins s σ H x xs v us Q I rx r h
  obtain ⟨z, y, rfl, rfl, q⟩ := h
  obtain ⟨t, rfl⟩ := rx
  obtain ⟨u, rfl, t', rfl⟩ := vals1 r
  exact SC.startswith ⟨.bl _, H, I, rfl, q⟩
def Its (x : List Nat) : It := ⟨fun i _ => i < x.length, fun i H v H' => H' = H ∧ ∃ c, x[i]? = some c ∧ v = .str (S [c]), fun i _ => i = x.length⟩
theorem turn_str {P : Program} {w : World} {K : PySem.W.Frag} {tg : Expr} (it : Addr) (x : List Nat) (t : Tok) (ty : String) (hty : ty = "str_ascii_iterator" ∨ ty = "str_iterator") : Turn P w K tg (Its x) [it] it (fun i h => h.IsStrIter it ty (S x) t i) where
  mem := by simp
  obj := fun i h st b hb => by
    have e : b = it := by simpa using hb
    subst e
    obtain ⟨o, e, c, d⟩ := st
    exact ⟨o, e, fun v z => by rw [d] at z; cases z⟩
  keep := fun i h h' st k => by
    obtain ⟨o, ho, r⟩ := st
    exact ⟨o, k it (by simp) o ho, r⟩
  item := by
    intro X hP hw hK hc i pins s σ H E I hf st hg
    subst hP hw hK
    obtain ⟨f0, f1, f2, f3, f4, f5⟩ := hf it (by simp)
    have W : Walks X.prog X.w X.A it [it] [it] (S x).cps.size (SignAt (S x)) (fun i h => h.IsStrIter it ty (S x) t i) := by
      rcases hty with rfl | rfl
      · exact Walks.strAscii (I.ok.hd hc) it (S x) t
      · exact Walks.strWide (I.ok.hd hc) it (S x) t
    refine W.item i s _ _ (by have hg' : i < x.length := hg; show i < x.toArray.size; simpa using hg') st fun v h' tk hv st' kk => ?_
    obtain ⟨c, u, hx, rfl⟩ := hv
    have I1 : Inv X pins σ H { s with heap := h', toks := tk } := I.turned (fun b o hb e => kk b o (by simpa using hb) e) f0 f1 f3 f4 f5
    obtain ⟨o, e, hcl, d⟩ := id st'
    exact ⟨_, rfl, go_of (s := { s with heap := h', toks := tk }) e hcl d (by rcases hty with rfl | rfl <;> decide) ⟨.str (S [c]), H, I1, ⟨u, rfl⟩, ⟨rfl, c, by simpa [S] using hx, rfl⟩, st', fun b hb => (hf b hb).1⟩⟩
  done := by
    intro X hP hw hK hc i pins s σ H E I hf st hg
    subst hP hw hK
    obtain ⟨f0, f1, f2, f3, f4, f5⟩ := hf it (by simp)
    have W : Walks X.prog X.w X.A it [it] [it] (S x).cps.size (SignAt (S x)) (fun i h => h.IsStrIter it ty (S x) t i) := by
      rcases hty with rfl | rfl
      · exact Walks.strAscii (I.ok.hd hc) it (S x) t
      · exact Walks.strWide (I.ok.hd hc) it (S x) t
    have e : i = (S x).cps.size := by
      have h2 : i = x.length := hg
      rw [h2]; show x.length = x.toArray.size; simp
    subst e
    exact W.done s _ _ st fun h' tk kk => ⟨rfl, I.turned (fun b o hb e => kk b o (by simpa using hb) e) f0 f1 f3 f4 f5⟩
  self := fun A i s Q E st h => by
    rcases hty with rfl | rfl
    · exact wpAny_pyIter_striter_ascii st h
    · exact wpAny_pyIter_striter_wide st h
def iStr (tl : TE) : TI := fun σ H R => tl σ H fun x H1 => ∃ z, x = .str (S z) ∧ R (Its z) H1
theorem pi_str {X : Cx} {tg l : Expr} {tl : TE} (hl : PE X l tl) : PI X tg l (iStr tl) := by
  intro pins s σ H R I h
  refine thn (hl pins s σ H _ I h) fun v s1 hq__ => ?_
  obtain ⟨x, H1, I1, r1, q1⟩ := hq__
  obtain ⟨z, e, q⟩ := q1
  subst e
  obtain ⟨t, rfl⟩ := r1
  have fin : ∀ b ∈ [s1.heap.objs.size], FpOk X pins H1 b := fun b hb => by
    have e : b = s1.heap.objs.size := by simpa using hb
    subst e
    exact I1.fpOk (Nat.le_refl _) (I1.hok.fresh (Nat.le_refl _))
  cases ha : (S z).cps.all (· < 128)
  · exact wpAny_pyIter_wide ha ⟨s1.heap.objs.size, [s1.heap.objs.size], _, _, H1, rfl, I1.kept (t' := s1.toks) fun b o e => Heap.get?_push_of_some _ e, turn_str _ z t "str_iterator" (.inr rfl), ⟨_, Heap.get?_push_size _ rfl, rfl, rfl⟩, fin, q⟩
  · exact wpAny_pyIter_ascii ha ⟨s1.heap.objs.size, [s1.heap.objs.size], _, _, H1, rfl, I1.kept (t' := s1.toks) fun b o e => Heap.get?_push_of_some _ e, turn_str _ z t "str_ascii_iterator" (.inl rfl), ⟨_, Heap.get?_push_size _ rfl, rfl, rfl⟩, fin, q⟩
theorem for_str {x : List Nat} {g : TG} {tb : TS} {D : Ends} {σ : St} {H : Hp} (Pv : Nat → St → Hp → Prop) (h0 : Pv 0 σ H)
    (hs : ∀ i c σ H, x[i]? = some c → Pv i σ H → g (.str (S [c])) σ H fun σ2 H2 => tb { D with nx := Pv (i + 1), ct := Pv (i + 1), bk := D.nx } σ2 H2) (hd : ∀ σ H, Pv x.length σ H → D.nx σ H) :
    ∃ W : Nat → Nat → St → Hp → Prop, (∃ m, W 0 m σ H) ∧ ∀ i m σ H, W i m σ H →
      ((Its x).stop i H ∧ D.nx σ H) ∨ ((Its x).go i H ∧ ∃ N : St → Hp → Prop, (∀ σ' H', N σ' H' → ∃ m', m' < m ∧ W (i + 1) m' σ' H') ∧ ∀ v H', (Its x).yld i H v H' → g v σ H' fun σ2 H2 => tb { D with nx := N, ct := N, bk := D.nx } σ2 H2) := by
  refine ⟨fun i m σ H => m = x.length - i ∧ i ≤ x.length ∧ Pv i σ H, ⟨x.length, by simp, Nat.zero_le _, h0⟩, ?_⟩
  rintro i m σ H ⟨rfl, hi, p⟩
  by_cases hlt : i < x.length
  · refine .inr ⟨hlt, Pv (i + 1), fun σ' H' p' => ⟨x.length - (i + 1), by omega, rfl, hlt, p'⟩, fun v H' y => ?_⟩
    obtain ⟨e, c, y, z⟩ := y
    subst e z
    exact hs i c σ _ y p
  · have e : i = x.length := by omega
    subst e
    exact .inl ⟨rfl, hd σ H p⟩
theorem lc_str {x : List Nat} {g : TG} {tc : TT} {te : TE} {Q : VK} {σ : St} {H : Hp} (Pv : Nat → List V → Hp → Prop) (hz : x.length ≤ sizeLine) (h0 : Pv 0 [] H) (hl : ∀ i ys H, Pv i ys H → ys.length ≤ i)
    (hs : ∀ i c ys H, x[i]? = some c → Pv i ys H → g (.str (S [c])) σ H fun σ4 H4 => tc σ4 H4 fun b H5 => if b = true then te σ4 H5 fun v H6 => Pv (i + 1) (ys ++ [v]) H6 else Pv (i + 1) ys H5)
    (hd : ∀ ys H p H', Pv x.length ys H → New H H' p (.lst ys) → Q (.ref p) H') : lcGoal (Its x) Q g tc te σ H := by
  refine ⟨fun i m ys H => m = x.length - i ∧ i ≤ x.length ∧ Pv i ys H, ⟨x.length, by simp, Nat.zero_le _, h0⟩, ?_⟩
  rintro i m ys H2 ⟨rfl, hi, p⟩
  have hy := hl i ys H2 p
  by_cases hlt : i < x.length
  · refine .inr ⟨hlt, by omega, Pv (i + 1), fun zs H' p' => ⟨x.length - (i + 1), by omega, rfl, hlt, p'⟩, fun v H3 y => ?_⟩
    obtain ⟨e, c, y, z⟩ := y
    subst e z
    exact hs i c ys _ y p
  · have e : i = x.length := by omega
    subst e
    exact .inl ⟨rfl, by omega, fun p' hp' => hd ys H2 p' _ p (new_upd hp')⟩
theorem kit_str (K : PySem.W.Frag) : PySem.W.kitOne K (.type "str") (.type "str") = some true := by rfl
theorem starts1 (x : List Nat) (c : Nat) : PySem.Txt.startswith (S x) (S [c]) = decide (x.take 1 = [c]) := by
  cases x with
  | nil => rfl
  | cons a l =>
    unfold PySem.Txt.startswith
    rw [PySem.StrLaws.subAt_eq]
    have e : (S [c]).length = 1 := rfl
    rw [e]
    show (decide (0 + 1 ≤ (S (a :: l)).length) && ((((a :: l).toArray.toList).drop 0).take 1 == [c])) = decide ([a] = [c])
    rw [S_len, decide_eq_true (show 0 + 1 ≤ (a :: l).length by simp), Bool.true_and]
    show ([a] == [c]) = decide ([a] = [c])
    rw [Bool.eq_iff_iff]
    simp
theorem op_inS {X : Cx} : OpR X (compareOp .In) (fun x y H Q => ∃ c j, x = .str (S [c]) ∧ y = .str j ∧ Q (.bl (decide (c ∈ j.cps.toList))) H) := by
  intro pins s σ H x y v u Q I rx ry h
  obtain ⟨c, j, rfl, rfl, q⟩ := h
  exact op_in_str pins s σ H _ _ v u Q I rx ry ⟨_, j, rfl, rfl, by rw [show S [c] = ⟨#[c]⟩ from rfl, PySem.StrLaws.found_one]; exact q⟩
theorem op_notinS {X : Cx} : OpR X (compareOp .NotIn) (fun x y H Q => ∃ c j, x = .str (S [c]) ∧ y = .str j ∧ Q (.bl (!decide (c ∈ j.cps.toList))) H) := by
  intro pins s σ H x y v u Q I rx ry h
  obtain ⟨c, j, rfl, rfl, q⟩ := h
  exact op_notin_str pins s σ H _ _ v u Q I rx ry ⟨_, j, rfl, rfl, by rw [show S [c] = ⟨#[c]⟩ from rfl, PySem.StrLaws.found_one]; exact q⟩
theorem sl_mid (x : List Nat) {a b : Nat} (hab : a ≤ b) (hb : b ≤ x.length) {lo hi : Option Int} (h : strSliceIndices lo hi 1 (S x).length = strSliceIndices (some (a : Int)) (some (b : Int)) 1 (S x).length) : slS (S x) lo hi = S ((x.drop a).take (b - a)) := by
  have hb' : b ≤ (S x).length := by rw [S_len]; exact hb
  have e := PySem.StrLaws.sliced_plain (S x) hab hb'
  unfold slS
  rw [h]
  by_cases c : ((strSliceIndices (some (a : Int)) (some (b : Int)) 1 (S x).length).length == (S x).length) = true
  · rw [if_pos c]
    have hl : b - a = x.length := by
      have := eq_of_beq c
      rw [PySem.StrLaws.strSliceIndices_plain hab hb', S_len] at this
      simpa using this
    have h1 : a = 0 := by omega
    rw [h1, List.drop_zero, Nat.sub_zero, List.take_of_length_le (by omega)]
  · rw [if_neg c, e]
    show (⟨_⟩ : Str) = ⟨_⟩
    simp [S]
theorem sl_take (x : List Nat) {k : Nat} (h : k ≤ x.length) : slS (S x) none (some (k : Int)) = S (x.take k) := by
  have e := sl_mid x (Nat.zero_le k) h (lo := none) (hi := some (k : Int)) (by
    unfold strSliceIndices
    have : max (0 : Int) (min (0 : Int) ((S x).length : Int)) = 0 := by omega
    simp [this])
  simpa using e
theorem sl_drop (x : List Nat) (k : Nat) : slS (S x) (some (k : Int)) none = S (x.drop k) := by
  have key : ∀ k : Nat, k ≤ x.length → slS (S x) (some (k : Int)) none = S (x.drop k) := fun k hk => by
    have e := sl_mid x hk (Nat.le_refl _) (lo := some (k : Int)) (hi := none) (by
      rw [S_len]
      unfold strSliceIndices
      have h1 : max (0 : Int) (min (x.length : Int) (x.length : Int)) = x.length := by omega
      have h2 : ¬ (x.length : Int) < 0 := by omega
      simp [h1, h2])
    rw [e, List.take_of_length_le (by simp)]
  by_cases hk : k ≤ x.length
  · exact key k hk
  · have h1 := key x.length (Nat.le_refl _)
    rw [List.drop_eq_nil_of_le (by omega)]
    rw [List.drop_eq_nil_of_le (by omega)] at h1
    rw [← h1]
    unfold slS
    rw [indices_beyond (n := (S x).length) (i := (k : Int)) (by rw [S_len]; omega), S_len]
end L2
namespace L2
open PySem PySem.Spec PyProof.Rows PySem.Builtin PySem.Builtin.Str
def splitL (c : Nat) : List Nat → List (List Nat)
  | [] => [[]]
  | a :: l => if a = c then [] :: splitL c l else match splitL c l with
    | [] => [[a]]
    | p :: ps => (a :: p) :: ps
theorem splitL_ne (c : Nat) : ∀ x, splitL c x ≠ []
  | [] => by simp [splitL]
  | a :: l => by
    unfold splitL
    split
    · simp
    · split <;> simp
def posL (c : Nat) : List Nat → List Nat
  | [] => []
  | a :: l => if a = c then 0 :: (posL c l).map (· + 1) else (posL c l).map (· + 1)
theorem posL_filter (c : Nat) (x : List Nat) : (List.range' 0 (x.length + 1)).filter (fun i => x[i]? == some c) = posL c x := by
  induction x with
  | nil => simp [posL]
  | cons a l ih =>
    have e : List.range' 0 ((a :: l).length + 1) = 0 :: (List.range' 0 (l.length + 1)).map (· + 1) := by
      rw [List.length_cons, List.range'_succ]
      congr 1
      rw [show (fun x : Nat => x + 1) = (fun x => 1 + x) from funext fun x => Nat.add_comm x 1, List.map_add_range']
    rw [e, List.filter_cons, List.filter_map]
    have e2 : ((fun i => (a :: l)[i]? == some c) ∘ (· + 1)) = fun i => l[i]? == some c := by
      funext i; simp
    rw [e2, ih, show posL c (a :: l) = (if a = c then 0 :: (posL c l).map (· + 1) else (posL c l).map (· + 1)) from rfl]
    by_cases h : a = c
    · rw [if_pos h, if_pos (by rw [h]; simp)]
    · rw [if_neg h, if_neg (by simpa using h)]
theorem occ1 (x : List Nat) (c : Nat) : occurrences (S x) (S [c]) 0 (S x).length ((S x).length + 1) = posL c x := by
  rw [PySem.StrLaws.occ_eq, ← posL_filter]
  have key : ∀ (l : List Nat) (a m : Nat) (acc : Array Nat) (free : Nat), l = List.range' a m → free ≤ a → acc.size + m ≤ x.length + 1 →
      (forIn l (acc, free) (PySem.StrLaws.occBody (S x) (S [c]) (S x).length ((S x).length + 1))).run.fst.toList = acc.toList ++ l.filter (fun i => x[i]? == some c) := by
    intro l
    induction l with
    | nil => intro a m acc free _ _ _; simp
    | cons b l ih =>
      intro a m acc free hl hf hs
      cases m with
      | zero => simp at hl
      | succ m =>
        rw [List.range'_succ] at hl
        obtain ⟨rfl, hl⟩ := List.cons.inj hl
        rw [List.forIn_cons]
        unfold PySem.StrLaws.occBody
        have so := PySem.StrLaws.subAt_one (S x) c b
        have eS : (S x).cps.toList = x := by simp [S]
        rw [eS] at so
        by_cases hc : x[b]? = some c
        · have hc2 := so.mpr hc
          have cond : (((acc, free).fst.size < (S x).length + 1 ∧ (acc, free).snd ≤ b) ∧ b + (S [c]).length ≤ (S x).length) ∧ subAt (S x) (S [c]) b = true := ⟨⟨⟨by rw [S_len]; show acc.size < _; omega, hf⟩, hc2.1⟩, hc2.2⟩
          rw [if_pos cond]
          have := ih (b + 1) m (acc.push b) (b + (S [c]).length) (by simpa using hl) (by show b + 1 ≤ b + 1; omega) (by rw [Array.size_push]; omega)
          rw [List.filter_cons, if_pos (by rw [hc]; simp)]
          refine Eq.trans this ?_
          simp
        · have cond : ¬ ((((acc, free).fst.size < (S x).length + 1 ∧ (acc, free).snd ≤ b) ∧ b + (S [c]).length ≤ (S x).length) ∧ subAt (S x) (S [c]) b = true) := fun h => hc (so.mp ⟨h.1.2, h.2⟩)
          rw [if_neg cond]
          have := ih (b + 1) m acc free (by simpa using hl) (by omega) (by omega)
          rw [List.filter_cons, if_neg (by simpa using hc)]
          exact this
  have := key (List.range' 0 ((S x).length + 1 - 0)) 0 ((S x).length + 1 - 0) #[] 0 rfl (Nat.le_refl _) (by rw [S_len]; simp)
  rw [this, S_len]
  simp
def cutsL (x : List Nat) (cuts : List Nat) : List (List Nat) := ((0 :: cuts.map (· + 1)).zip (cuts ++ [x.length])).map fun p => (x.drop p.1).take (p.2 - p.1)
theorem cuts_split (c : Nat) : ∀ x, cutsL x (posL c x) = splitL c x
  | [] => by simp [cutsL, posL, splitL]
  | a :: l => by
    have ih := cuts_split c l
    have sh : ∀ (P Q : List Nat), ((P.map (· + 1)).zip (Q.map (· + 1))).map (fun p => ((a :: l).drop p.1).take (p.2 - p.1)) = (P.zip Q).map fun p => (l.drop p.1).take (p.2 - p.1) := by
      intro P
      induction P with
      | nil => intro Q; simp
      | cons p P ihP =>
        intro Q
        cases Q with
        | nil => simp
        | cons q Q =>
          have := ihP Q
          simp only [List.map_cons, List.zip_cons_cons] at this ⊢
          rw [this]
          simp
    rw [show posL c (a :: l) = (if a = c then 0 :: (posL c l).map (· + 1) else (posL c l).map (· + 1)) from rfl]
    rw [show splitL c (a :: l) = (if a = c then [] :: splitL c l else match splitL c l with | [] => [[a]] | p :: ps => (a :: p) :: ps) from rfl]
    by_cases h : a = c
    · rw [if_pos h, if_pos h, ← ih]
      unfold cutsL
      have e1 : ((posL c l).map (· + 1) ++ [(a :: l).length]) = (posL c l ++ [l.length]).map (· + 1) := by simp
      have e2 : (0 :: (posL c l).map (· + 1)).map (· + 1) = (0 :: (posL c l).map (· + 1)).map (· + 1) := rfl
      rw [List.map_cons, List.cons_append, List.zip_cons_cons, List.map_cons, e1, show ((0 + 1) :: ((posL c l).map (· + 1)).map (· + 1)) = (0 :: (posL c l).map (· + 1)).map (· + 1) from rfl, sh]
      simp
    · rw [if_neg h, if_neg h, ← ih]
      unfold cutsL
      have e1 : ((posL c l).map (· + 1) ++ [(a :: l).length]) = (posL c l ++ [l.length]).map (· + 1) := by simp
      rw [e1]
      cases hq : posL c l ++ [l.length] with
      | nil => simp at hq
      | cons q Q =>
        rw [List.map_cons, List.zip_cons_cons, List.map_cons, List.zip_cons_cons, List.map_cons, sh]
        simp
theorem split_S (x : List Nat) {c : Nat} (hc : c < 256) : PySem.Txt.split (S x) (S [c]) = (splitL c x).map S := by
  unfold PySem.Txt.split
  have k1 : PySem.Builtin.Str.strKind (S [c]) = 1 := by
    unfold PySem.Builtin.Str.strKind
    rw [if_pos (by show (#[c].all (· < 256)) = true; simp [hc])]
  have k2 : 1 ≤ PySem.Builtin.Str.strKind (S x) := by
    unfold PySem.Builtin.Str.strKind
    split
    · omega
    · split <;> omega
  have e1 : (S [c]).length = 1 := rfl
  rw [occ1, k1, e1, S_len]
  have kk : decide (PySem.Builtin.Str.strKind (S x) < 1) = false := decide_eq_false (by omega)
  rw [kk, Bool.or_false]
  by_cases hx : x.length < 1
  · rw [if_pos (decide_eq_true hx)]
    cases x with
    | nil => rfl
    | cons a l => simp at hx
  rw [if_neg (by simpa using hx)]
  have cs := cuts_split c x
  have parts : partsBetween (S x) (posL c x) 1 = (splitL c x).map S := by
    rw [← cs]
    unfold partsBetween cutsL
    rw [S_len, List.map_map]
    refine List.map_congr_left fun p _ => ?_
    show strSub (S x) p.1 p.2 = S ((x.drop p.1).take (p.2 - p.1))
    unfold strSub
    show (⟨x.toArray.extract p.1 p.2⟩ : Str) = ⟨_⟩
    congr 1
    apply Array.ext'
    simp [List.extract_eq_drop_take]
  by_cases he : (posL c x).isEmpty = true
  · rw [if_pos he]
    have e0 : posL c x = [] := by simpa using he
    rw [← cs, e0]
    simp [cutsL]
  · rw [if_neg he]
    exact parts
theorem splitL_len (c : Nat) : ∀ x, (splitL c x).length ≤ x.length + 1
  | [] => by simp [splitL]
  | a :: l => by
    have ih := splitL_len c l
    rw [show splitL c (a :: l) = (if a = c then [] :: splitL c l else match splitL c l with | [] => [[a]] | p :: ps => (a :: p) :: ps) from rfl]
    split
    · simp; omega
    · cases h : splitL c l with
      | nil => simp
      | cons p ps => rw [h] at ih; simp at ih ⊢; omega
theorem strs_vals : ∀ (l : List (Str × Tok)) (ps : List (List Nat)), l.map (·.1) = ps.map S → Vals (ps.map fun p => V.str (S p)) (strValues l)
  | [], [], _ => .nil
  | [], _ :: _, h => by simp at h
  | _ :: _, [], h => by simp at h
  | q :: l, p :: ps, h => by
    rw [List.map_cons, List.map_cons] at h
    obtain ⟨h1, h2⟩ := List.cons.inj h
    exact .cons ⟨q.2, by rw [← h1]⟩ (strs_vals l ps h2)
def rSplit (x : V) (vs : List V) (H : Hp) (Q : VK) : Prop := ∃ z c, x = .str (S z) ∧ vs = [.str (S [c])] ∧ c < 256 ∧ z.length ≤ 100000 ∧ ∀ l H', New H H' l (.lst ((splitL c z).map fun p => V.str (S p))) → Q (.ref l) H'
theorem mt_split {X : Cx} : MtR X "str.split" rSplit := by
  intro pins s σ H x xs v us Q I rx r h
  obtain ⟨z, c, rfl, rfl, hc, hz, q⟩ := h
  obtain ⟨t, rfl⟩ := rx
  obtain ⟨u, rfl, t', rfl⟩ := vals1 r
  have hs : sizeLine = 16777216 := sizeLine_eq
  have hf : H s.heap.objs.size = none := I.hok.fresh (Nat.le_refl _)
  have ln := splitL_len c z
  have fin : ∀ (l : List (Str × Tok)) (k : Nat), l.map (·.1) = PySem.Txt.split (S z) (S [c]) → EP X pins σ Q (.ref s.heap.objs.size) { s with heap := s.heap.push { cls := .type "list", data := .seq (strValues l).toArray }, toks := k } := fun l k e => by
    rw [split_S z hc] at e
    refine ⟨.ref s.heap.objs.size, upd H s.heap.objs.size (.lst ((splitL c z).map fun p => V.str (S p))), I.laid (t' := k) (fun b w e => Heap.get?_push_of_some _ e) (Nat.le_refl _) ?_, rfl, q _ _ (new_upd hf)⟩
    exact ⟨by rw [List.length_map, hs]; omega, strValues l, 0, strs_vals l _ e, Heap.get?_push_size _ rfl⟩
  have hy : ((S [c]).length == 0) = false := rfl
  have hb : (partsBetween (S z) (occurrences (S z) (S [c]) 0 (S z).length ((S z).length + 1)) (S [c]).length).length ≤ sizeLine := by
    have e1 := PySem.StrLaws.occ_length_le (S z) (S [c]) 0 (S z).length ((S z).length + 1)
    rw [length_partsBetween]
    rw [S_len] at e1 ⊢
    omega
  cases k1 : (decide ((S z).length < (S [c]).length) || decide (PySem.Builtin.Str.strKind (S z) < PySem.Builtin.Str.strKind (S [c]))) with
  | true => exact call_meets PySem.F.slot_str_split (typeIs_str _ _ _) PySem.F.entry_str_split (PySem.F.args_str_split_2 _ _) (meets_str_split_cannot_occur _ _ t t' k1) (fin [(S z, t)] s.toks (if_pos k1).symm)
  | false =>
    cases k2 : (occurrences (S z) (S [c]) 0 (S z).length ((S z).length + 1)).isEmpty with
    | true => exact call_meets PySem.F.slot_str_split (typeIs_str _ _ _) PySem.F.entry_str_split (PySem.F.args_str_split_2 _ _) (meets_str_split_not_found _ _ t t' k1 hy k2) (fin [(S z, t)] s.toks ((if_neg (ne_true_of_eq_false k1)).trans (if_pos k2)).symm)
    | false =>
      refine call_meets PySem.F.slot_str_split (typeIs_str _ _ _) PySem.F.entry_str_split (PySem.F.args_str_split_2 _ _) (meets_str_split_sep _ _ t t' k1 hy k2 (by rw [S_len]; omega) hb) ?_
      show EP X pins σ Q _ { s with toks := _, heap := s.heap.push { cls := .type "list", data := .seq (strsFrom s.toks (partsBetween (S z) (occurrences (S z) (S [c]) 0 (S z).length ((S z).length + 1)) (S [c]).length)).toArray } }
      rw [strsFrom_eq]
      exact fin (numbered s.toks _) _ ((numbered_texts _ _).trans ((if_neg (ne_true_of_eq_false k1)).trans (if_neg (ne_true_of_eq_false k2))).symm)
def joinL (sep : List Nat) : List (List Nat) → List Nat
  | [] => []
  | [p] => p
  | p :: ps => p ++ sep ++ joinL sep ps
theorem glue_S (sep : List Nat) : ∀ (ps : List (List Nat)) (a : List Nat), (ps.map S).foldl (fun acc p => acc ++ (S sep).cps ++ p.cps) a.toArray = (match ps with | [] => a | _ => a ++ sep ++ joinL sep ps).toArray
  | [], a => rfl
  | [p], a => by
    show (a.toArray ++ sep.toArray ++ p.toArray) = _
    simp [joinL]
  | p :: r :: ps, a => by
    have ih := glue_S sep (r :: ps) (a ++ sep ++ p)
    rw [List.map_cons, List.foldl_cons]
    have e : a.toArray ++ (S sep).cps ++ (S p).cps = (a ++ sep ++ p).toArray := by show a.toArray ++ sep.toArray ++ p.toArray = _; simp
    rw [e, ih]
    simp [joinL]
theorem join_S (sep : List Nat) (ps : List (List Nat)) : PySem.Txt.join (S sep) (ps.map S) = S (joinL sep ps) := by
  unfold PySem.Txt.join glued
  cases ps with
  | nil => rfl
  | cons p ps =>
    show (⟨(ps.map S).foldl (fun acc p => acc ++ (S sep).cps ++ p.cps) p.toArray⟩ : Str) = _
    rw [glue_S]
    cases ps with
    | nil => rfl
    | cons r ps => simp [joinL, S]
def rJoin (K : PySem.W.Frag) (x : V) (vs : List V) (H : Hp) (Q : VK) : Prop := ∃ sep ps p, x = .str (S sep) ∧ vs = [.ref p] ∧ SqL K H p (ps.map fun q => V.str (S q)) ∧ (ps.map List.length).sum + ps.length * sep.length ≤ 1000000 ∧ Q (.str (S (joinL sep ps))) H
theorem strs_are : ∀ {ps : List (List Nat)} {us : List Value}, Vals (ps.map fun q => V.str (S q)) us → StrsAre us (ps.map S)
  | [], _, .nil => .nil
  | p :: ps, _, .cons ⟨t, e⟩ r => by subst e; exact .cons _ _ (strs_are r)
theorem mt_join {X : Cx} : MtR X "str.join" (rJoin X.K) := by
  intro pins s σ H x xs v us Q I rx r h
  obtain ⟨sep, ps, p, rfl, rfl, hq, hz, q⟩ := h
  obtain ⟨t, rfl⟩ := rx
  obtain ⟨u, rfl, ru⟩ := vals1 r
  cases (show u = Value.ref p from ru)
  obtain ⟨its, rv, pl, _⟩ := I.list hq
  refine join_list (ys := ps.map S) pl.isList (by simpa using strs_are rv) ?_ fun t' k => ⟨.str (S (joinL sep ps)), H, I.tok _, ⟨t', by rw [join_S]⟩, q⟩
  have e : ((ps.map S).map (·.length)) = ps.map List.length := by
    rw [List.map_map]
    exact List.map_congr_left fun l _ => S_len l
  rw [e, List.length_map, S_len]
  omega
end L2
namespace L2
open PySem PySem.Spec PyProof.Rows
section
variable {X : Cx} {pins : List (Addr × Obj)} {σ : St} {H : Hp} {s : Shared} {scope : Scope} {cl : List (Str × Addr)} {vars frees : List Str} {fv : List Nat} {elt target iter : Expr} {ifs : List Expr} {pos : Pos}
end
section
variable {X : Cx} {σ : St} {EK : XK} {C : Addr} {k : Nat} {x : Str} {ps : List Str} {ds : List Value} {dvs : List V} {sp : Sp} {e : Expr} {es : List Expr} {t : TA} {p pos : Pos} {Nc : List Str} {scope : Scope} {cl : List (Str × Addr)} {s0 : Shared} {H0 : Hp} {ex : List Addr}
end
end L2
namespace L2
open PySem PySem.Spec PyProof.Rows
end L2
namespace L2
open PySem PySem.Spec PyProof.Rows
def CellO (c : Addr) (v : V) : HO := .ext fun h => ∃ u, RelV v u ∧ h.IsCell c (some u)
def CodeO (c : Addr) (q : Str) : HO := .ext fun h => h.CodeRec (.ref c) q
def FnO (name qual : Str) (st : Stmt) (cl : List (Str × Addr)) (c f : Addr) : HO := .ext fun h => ∃ doc pm ctv, h.get? f = some (PySem.W.fnMade name qual (defArgs st) (defBody st) (defScope st) cl doc pm c ctv)
section
variable {P : Program} {w : World} {H : Hp} {h : Heap}
theorem cell_ok {c : Addr} {v : V} {u : Value} (r : RelV v u) (x : h.IsCell c (some u)) : ObjOk P w H h c (CellO c v) :=
  ⟨⟨u, r, x⟩, let ⟨o, e, _⟩ := x; ⟨o, e⟩, fun _ _ ⟨u, r, o, e, d⟩ k => ⟨u, r, o, k o e, d⟩⟩
theorem code_ok {c : Addr} {q : Str} (x : h.CodeRec (.ref c) q) : ObjOk P w H h c (CodeO c q) :=
  ⟨x, (by obtain ⟨c', o, vs, t, e, r⟩ := x; cases e; exact ⟨o, r.1⟩), fun _ _ ⟨c', o, vs, t, e, r⟩ k => by cases e; exact ⟨c, o, vs, t, rfl, k o r.1, r.2⟩⟩
theorem fn_ok {name qual : Str} {st : Stmt} {cl : List (Str × Addr)} {c f : Addr} {doc pm ctv : Value} (x : h.get? f = some (PySem.W.fnMade name qual (defArgs st) (defBody st) (defScope st) cl doc pm c ctv)) : ObjOk P w H h f (FnO name qual st cl c f) :=
  ⟨⟨doc, pm, ctv, x⟩, ⟨_, x⟩, fun _ _ ⟨doc, pm, ctv, e⟩ k => ⟨doc, pm, ctv, k _ e⟩⟩
end
structure TabK (K : PySem.W.Frag) (f c T : Addr) : Prop where
  code : ∀ oc od fd osl, K.lookup f = some ⟨oc, od, .func fd, osl⟩ → fd.code = .ref c
  hd : ∀ h : Heap, K.In h → PySem.W.CodeHd h c T
def SameX (T : Addr) (H H' : Hp) : Prop := ∀ b o, b ≠ T → H b = some o → H' b = some o
theorem SameX.of {T : Addr} {H H' : Hp} (s : Same H H') : SameX T H H' := fun b o _ e => s b o e
theorem SameX.trans {T : Addr} {H H' H2 : Hp} (s : SameX T H H') (z : SameX T H' H2) : SameX T H H2 := fun b o n e => z b o n (s b o n e)
def Tb1 (T : Addr) (pos : Pos) (q : Str) (c : Addr) (H : Hp) : Prop := H T = some (.tbl #[rawInt pos.line, rawInt pos.col, .ref c]) ∧ H c = some (CodeO c q)
def Tb (T : Addr) (pos : Pos) (q : Str) (H : Hp) : Prop := H T = some (.tbl #[]) ∨ ∃ c, Tb1 T pos q c H
theorem Tb1.same {T : Addr} {pos : Pos} {q : Str} {c : Addr} {H H' : Hp} (x : Tb1 T pos q c H) (s : Same H H') : Tb1 T pos q c H' := ⟨s _ _ x.1, s _ _ x.2⟩
theorem Tb.same {T : Addr} {pos : Pos} {q : Str} {H H' : Hp} (x : Tb T pos q H) (s : Same H H') : Tb T pos q H' := x.elim (fun z => .inl (s _ _ z)) fun ⟨c, z⟩ => .inr ⟨c, z.same s⟩
section
variable {X : Cx}
theorem Inv.bat {pins : List (Addr × Obj)} {σ : St} {H : Hp} {s : Shared} {T : Addr} {ps : Array Value} (I : Inv X pins σ H s) (e : s.heap.get? T = some (PySem.W.tabObj ps)) : s.heap.BuiltinsAt X.mg T ∧ mainGlobals ≠ T := by
  obtain ⟨bm, ob, b1, b2, b3, b4, b5, b6⟩ := I.mod.bm
  obtain ⟨o, es, ep, g1, g2, _⟩ := I.mod.glob.keeps I.bk
  refine ⟨⟨bm, ob, b1, b2, fun q => ?_, fun q => ?_, I.bk _ _ b3, b4, b5, b6⟩, fun q => ?_⟩
  · have z := I.bk _ _ b3
    rw [q, g1] at z
    cases z
    rw [g2] at b6; cases b6
  · have z := I.bk _ _ b3
    rw [q, e] at z
    cases z
    cases b4
  · rw [q, e] at g1
    cases g1
    cases g2
def tNest (T : Addr) (name qual : Str) (st : Stmt) (cl : List (Str × Addr)) (pos : Pos) (i : Nat) : TS := fun D σ H => Tb T pos qual H ∧ ∀ f c H', SameX T H H' → Tb1 T pos qual c H' → H f = none → f ≠ T → H' f = some (FnO name qual st cl c f) → D.nx (σ.set i (some (.ref f))) H'
theorem ps_nest {T c0 f0 : Addr} {name qual : Str} {st : Stmt} {cl : List (Str × Addr)} {pos : Pos} {i : Nat} (Z : TabK X.K f0 c0 T) (hc0 : X.env.code = .ref c0) (hN : X.N.Nodup) (hi : X.N[i]? = some name) (hx : X.env.scope.names.lookup name = some .local)
    (hs : st = .FunctionDef name (defArgs st) (defBody st) [] none [] (defScope st) none name pos) (hd0 : (defArgs st).defaults = []) (hk0 : (defArgs st).kw_defaults = []) (ha : annTrees (defArgs st) none X.env = [])
    (hcl : closureFor (defScope st) X.env = pure cl) (hq : qualnameIn X.env name name = qual) : PS X st (tNest T name qual st cl pos i) := by
  intro pins s σ H D I ⟨hT, h⟩
  rw [hs]
  refine PySem.W.nestDef_K hd0 hk0 ha ?_
  rw [hq]
  have fin : ∀ (H' : Hp) (s' : Shared) (f c : Addr), Inv X pins σ H' s' → SameX T H H' → Tb1 T pos qual c H' → H f = none → f ≠ T → H' f = some (FnO name qual st cl c f) →
      wpAny (model X.prog X.w) X.A (storeName X.env name (.ref f)) (fun _ s'' => SP X pins D .next s'') X.xe s' := fun H' s' f c I' e1 e2 e3 e4 e5 =>
    store_ok I' hN hi (.inl hx) (v := .ref f) rfl (fun s2 I2 => ⟨_, _, I2, h f c H' e1 e2 e3 e4 e5⟩) (.inr hx)
  rcases hT with h0 | ⟨c, h1, h2⟩
  · have eT : s.heap.get? T = some (PySem.W.tabObj #[]) := I.hok _ _ h0
    obtain ⟨bt, gT⟩ := I.bat eT
    refine PySem.W.makeFunction_K (mg := X.mg) hcl I.ok.glob (I.mod.glob.keeps I.bk) hc0 (Z.hd _ I.kIn) eT trivial rfl gT bt fun c ctv doc h' tk hx hge hlt hrec htb => ?_
    have ltT : T < s.heap.objs.size := Heap.lt_size eT
    have hgf : s.heap.objs.size ≤ h'.objs.size := Nat.le_trans hge (Nat.le_of_lt hlt)
    have ltc : ∀ b u, H b = some u → b ≠ c := fun b u e => Nat.ne_of_lt (Nat.lt_of_lt_of_le (I.hok.lt e) hge)
    have ltf : ∀ b u, H b = some u → b ≠ h'.objs.size := fun b u e => Nat.ne_of_lt (Nat.lt_of_lt_of_le (I.hok.lt e) hgf)
    have nT : ∀ b, H b = none → b ≠ T := fun b n z => by rw [z, h0] at n; cases n
    have keep : ∀ b o, b ≠ T → s.heap.get? b = some o → (h'.push (PySem.W.fnMade name qual (defArgs st) (defBody st) (defScope st) cl doc ((X.mg "__name__").getD .none) c ctv)).get? b = some o := fun b o n e => Heap.get?_push_of_some _ (hx b o n e)
    have cT : c ≠ T := Ne.symm (Nat.ne_of_lt (Nat.lt_of_lt_of_le ltT hge))
    have fT : h'.objs.size ≠ T := Ne.symm (Nat.ne_of_lt (Nat.lt_of_lt_of_le ltT hgf))
    have fc : h'.objs.size ≠ c := Ne.symm (Nat.ne_of_lt hlt)
    have eb : ∀ b, b ≠ T → b ≠ c → b ≠ h'.objs.size → upd (upd (upd H T (.tbl #[rawInt pos.line, rawInt pos.col, .ref c])) c (CodeO c qual)) h'.objs.size (FnO name qual st cl c h'.objs.size) b = H b := fun b n1 n2 n3 => by
      rw [upd_ne n3, upd_ne n2, upd_ne n1]
    have eTn : upd (upd (upd H T (.tbl #[rawInt pos.line, rawInt pos.col, .ref c])) c (CodeO c qual)) h'.objs.size (FnO name qual st cl c h'.objs.size) T = some (.tbl #[rawInt pos.line, rawInt pos.col, .ref c]) := by
      rw [upd_ne (Ne.symm fT), upd_ne (Ne.symm cT), upd_same]
    have ecn : upd (upd (upd H T (.tbl #[rawInt pos.line, rawInt pos.col, .ref c])) c (CodeO c qual)) h'.objs.size (FnO name qual st cl c h'.objs.size) c = some (CodeO c qual) := by
      rw [upd_ne (Ne.symm fc), upd_same]
    have efn : upd (upd (upd H T (.tbl #[rawInt pos.line, rawInt pos.col, .ref c])) c (CodeO c qual)) h'.objs.size (FnO name qual st cl c h'.objs.size) h'.objs.size = some (FnO name qual st cl c h'.objs.size) := upd_same
    generalize hH : upd (upd (upd H T (.tbl #[rawInt pos.line, rawInt pos.col, .ref c])) c (CodeO c qual)) h'.objs.size (FnO name qual st cl c h'.objs.size) = H2 at eb eTn ecn efn
    have I2 : Inv X pins σ H2 { s with heap := h'.push (PySem.W.fnMade name qual (defArgs st) (defBody st) (defScope st) cl doc ((X.mg "__name__").getD .none) c ctv), toks := tk } := by
      refine I.un (t' := tk) ⟨fun b o e n _ _ => keep b o (nT b n) e, fun b o e n _ _ => ⟨o.slots, keep b o (nT b n) e⟩, fun b o e n _ => ?_, fun b o e _ => ?_, fun b xs e => ?_, fun b o u e => ?_, fun b ps e => ?_⟩ ?_
      · have lt := Heap.lt_size e
        rw [eb b (nT b n) (Nat.ne_of_lt (Nat.lt_of_lt_of_le lt hge)) (Nat.ne_of_lt (Nat.lt_of_lt_of_le lt hgf))]; exact n
      · by_cases z : b = T
        · subst z; exact ⟨_, Heap.get?_push_of_some _ htb⟩
        · exact ⟨o, keep b o z e⟩
      · rw [eb b (fun z => by rw [z, h0] at e; cases e) (ltc b _ e) (ltf b _ e)]; exact e
      · rw [eb b (fun z => by rw [z, h0] at e; cases e) (ltc b _ e) (ltf b _ e)]; exact e
      · by_cases z : b = T
        · subst z
          rw [h0] at e
          cases e
          exact ⟨#[rawInt pos.line, rawInt pos.col, .ref c], by rw [eTn, Array.empty_append]⟩
        · exact ⟨#[], by rw [eb b z (ltc b _ e) (ltf b _ e), e]; simp⟩
      · intro b u e
        by_cases zf : b = h'.objs.size
        · subst zf
          rw [efn] at e
          cases e
          exact fn_ok (Heap.get?_push_size _ rfl)
        · by_cases zc : b = c
          · subst zc
            rw [ecn] at e
            cases e
            exact code_ok (hrec.push _)
          · by_cases zT : b = T
            · subst zT
              rw [eTn] at e
              cases e
              exact Heap.get?_push_of_some _ htb
            · rw [eb b zT zc zf] at e
              refine (I.hok b u e).stay (fun d v hd q => keep d v (fun z => ?_) q) (fun d q => ?_) fun d xs q => ?_
              · subst z
                rcases hd with z | z
                · exact zT z.symm
                · rw [h0] at z; cases z
              · rw [eb d (fun z => by rw [z, h0] at q; cases q) (ltc d _ q) (ltf d _ q)]; exact q
              · rw [eb d (fun z => by rw [z, h0] at q; cases q) (ltc d _ q) (ltf d _ q)]; exact q
    exact fin H2 _ h'.objs.size c I2 (fun b o n e => by rw [eb b n (ltc b o e) (ltf b o e)]; exact e) ⟨eTn, ecn⟩ (I.hok.fresh hgf) fT efn
  · have eT : s.heap.get? T = some (PySem.W.tabObj #[rawInt pos.line, rawInt pos.col, .ref c]) := I.hok _ _ h1
    obtain ⟨bt, gT⟩ := I.bat eT
    refine PySem.W.makeFunction_hit (mg := X.mg) hcl I.ok.glob (I.mod.glob.keeps I.bk) hc0 (Z.hd _ I.kIn) eT trivial (cv := .ref c) (by simp [codeAmong, rawInt]) bt fun ctv doc h' tk hk hsz => ?_
    have fr : H h'.objs.size = none := I.hok.fresh hsz
    have I2 := I.laid (a := h'.objs.size) (o := FnO name qual st cl c h'.objs.size) (t' := tk) (h' := h'.push (PySem.W.fnMade name qual (defArgs st) (defBody st) (defScope st) cl doc ((X.mg "__name__").getD .none) c ctv)) (fun b u e => Heap.get?_push_of_some _ (hk b u e)) hsz (fn_ok (Heap.get?_push_size _ rfl))
    have sm : Same H (upd H h'.objs.size (FnO name qual st cl c h'.objs.size)) := same_upd fr
    have fT : h'.objs.size ≠ T := Ne.symm (Nat.ne_of_lt (Nat.lt_of_lt_of_le (Heap.lt_size eT) hsz))
    exact fin _ _ _ c I2 (.of sm) ⟨sm _ _ h1, sm _ _ h2⟩ fr fT upd_same
abbrev TZ := (V → St → Hp → Prop) → St → Hp → Prop
def PZ (X : Cx) (st : List Stmt) (t : TZ) : Prop := ∀ (pins : List (Addr × Obj)) (s : Shared) (σ : St) (H : Hp) (R : V → St → Hp → Prop), Inv X pins σ H s → t R σ H →
  wpAny (model X.prog X.w) X.A (execs st X.env) (fun fl s' => ∃ u v σ' H', fl = .ret u ∧ Inv X pins σ' H' s' ∧ RelV v u ∧ R v σ' H') X.xe s
theorem pz_ret {e : Expr} {te : TE} {pos : Pos} (he : PE X e te) : PZ X [.Return (some e) pos] (fun R σ H => te σ H fun v H' => R v σ H') := fun pins s σ H R I h =>
  wpAny_execs_cons (wpAny_Return_some (thn (he pins s σ H _ I h) fun u s1 ⟨x, H1, I1, r1, q1⟩ => ⟨u, x, σ, H1, rfl, I1, r1, q1⟩))
theorem pz_cons {st : Stmt} {rest : List Stmt} {t : TS} {u : TZ} (h1 : PS X st t) (h2 : PZ X rest u) : PZ X (st :: rest) (fun R σ H => t { nx := u R, rt := fun _ _ => False } σ H) := fun pins s σ H R I h => by
  refine wpAny_execs_cons (thn (h1 pins s σ H _ I h) fun f s1 q => ?_)
  cases f with
  | next =>
    obtain ⟨σ', H', I', q⟩ := q
    exact h2 pins s1 σ' H' R I' q
  | ret v => obtain ⟨_, _, _, _, _, q⟩ := q; exact False.elim q
  | brk => obtain ⟨_, _, _, q⟩ := q; exact False.elim q
  | cont => obtain ⟨_, _, _, q⟩ := q; exact False.elim q
theorem PZ.imp {E : Value → Shared → Prop} {st : List Stmt} {t : TZ} (hE : ∀ ev s, E ev s → X.xe ev s) (h : PZ (X.wish E) st t) : PZ X st t := fun pins s σ H R I hw =>
  wpAny_mono (h pins s σ H R (I.wish _) hw) (fun _ _ ⟨u, v, σ', H', a, I', b⟩ => ⟨u, v, σ', H', a, I'.unwish, b⟩) fun e s z => hE e s z
end
section
variable {P : Program} {w : World} {K : PySem.W.Frag} {mg : Str → Option Value} {base : Heap}
theorem Fun.okC {x qual : Str} {st : Stmt} {f : Addr} {fd : FuncData} {N ps : List Str} {k : Nat} {sp : Sp} {x1 x2 : Str} {i1 i2 : Nat} {a1 a2 : Nat} (F : Fun K x qual st f fd) (S : FnScope N ps (defScope st)) (len : ∀ vs H Q E, sp vs H Q E → vs.length = ps.length)
    (hx1 : (defScope st).names.lookup x1 = some .cell) (hx2 : (defScope st).names.lookup x2 = some .cell) (hi1 : N[i1]? = some x1) (hi2 : N[i2]? = some x2) (ha1 : ∀ n, (cellsFrom n (defScope st).names []).lookup x1 = some (n + a1)) (ha2 : ∀ n, (cellsFrom n (defScope st).names []).lookup x2 = some (n + a2)) (ha : a1 ≠ a2)
    (hbody : ∀ (cdv : Value) (A : Around) (outer : List Env) (s : Shared) (H : Hp) (vs : List V) (Q : VK) (E : XK), (∃ oc od osl fd, K.lookup f = some ⟨oc, od, .func fd, osl⟩ ∧ fd.code = cdv) → Room k (A.deeper (envOfC qual (defScope st) s.heap.objs.size f cdv)) → sp vs H Q E →
      ∃ t, PZ (bx P w K mg base N qual (defScope st) f cdv A outer s H E) (defBody st) t ∧ t (fun v σ H1 => ∃ v1 v2, σ[i1]? = some (some v1) ∧ σ[i2]? = some (some v2) ∧
        ∀ c1 c2, c1 = s.heap.objs.size + 1 + a1 → c2 = s.heap.objs.size + 1 + a2 → c1 ≠ c2 → H1 c1 = none → H1 c2 = none → Q v (upd (upd H1 c1 (CellO c1 v1)) c2 (CellO c2 v2))) (start N vs) H) : FnOk P w K mg base (CX1 P w) (k + 1) f fd ps sp := by
  obtain ⟨oc, od, kV, doc, pm, an, cdv, ct, osl, rfl, lk, hcd⟩ := F.ex
  refine ⟨len, fun A outer s H args us vs Q E hr e0 hb r hsp => ?_⟩
  have hl := len _ _ _ _ hsp
  have KX : K.In s.heap := e0.mod.kin.keeps fun b o e => (e0.bs b o e).1
  have lim : s.heap.NoLimit := e0.mod.nolimit.keeps fun b o e => (e0.bs b o e).1
  have hkind : ∀ y ∈ ps.zip us, (defScope st).names.lookup y.1 = some .local ∨ ((defScope st).names.lookup y.1 = some .cell ∧ ((cellsFrom (s.heap.objs.size + 1) (defScope st).names []).lookup y.1).isSome = true) := fun ⟨n, v⟩ hy => by
    rcases S.par n (List.of_mem_zip hy).1 with q | q
    · exact .inl q
    · exact .inr ⟨q, PySem.W.cellsFrom_some _ _ _ (.inl q)⟩
  refine codeAny_call_function hr.depth (KX _ _ lk) rfl S.co S.gen rfl (PySem.W.codeRec_of KX hcd) (hb _ _ _ _ ?_)
  refine wpAny_newFunctionEnv_cells S.kind hkind fun env he s1 x => ?_
  subst he
  refine ⟨lim.keeps x.toInCall.keep, codeAny_func ?_⟩
  obtain ⟨t, ht, hq⟩ := hbody cdv A outer s H vs Q E ⟨oc, od, osl, _, lk, rfl⟩ (hr.deeper _) hsp
  have I : Inv (cxOf (CX1 P w) P w K mg base N qual (defScope st) f cdv A outer s H E) [] (start N vs) H s1 := inv_start S hr.hd e0 hl r x
  refine wpAny_mono ((ht.imp fun _ _ z => xe_out z) [] s1 (start N vs) H _ I hq) (fun fl s' hs => ?_) fun e s' hs => hs
  obtain ⟨u, v, σ', H1, rfl, J, rv, v1, v2, e1, e2, q⟩ := hs
  obtain ⟨m, hn, hl'⟩ := J.loc
  have look : ∀ {i : Nat} {y : Str} {c : Addr} {v : V}, N[i]? = some y → (defScope st).names.lookup y = some .cell → (cellsFrom (s.heap.objs.size + 1) (defScope st).names []).lookup y = some c → σ'[i]? = some (some v) → ∃ u, RelV v u ∧ s'.heap.IsCell c (some u) := fun {i y c v} hi hk hc e => by
    obtain ⟨u, ru, lu⟩ := hl' i y v hi e (.inr (.inl hk))
    rcases lu with ⟨z, _⟩ | ⟨_, c', hc', z⟩
    · have z' : (defScope st).names.lookup y = some .local := z
      rw [hk] at z'; cases z'
    · have hc2 : (cellsFrom (s.heap.objs.size + 1) (defScope st).names []).lookup y = some c' := hc'
      rw [hc] at hc2; cases hc2
      exact ⟨u, ru, z⟩
  obtain ⟨u1, r1, z1⟩ := look hi1 hx1 (ha1 _) e1
  obtain ⟨u2, r2, z2⟩ := look hi2 hx2 (ha2 _) e2
  have n1 : H1 (s.heap.objs.size + 1 + a1) = none := J.freeC x1 _ (ha1 _)
  have n2 : H1 (s.heap.objs.size + 1 + a2) = none := J.freeC x2 _ (ha2 _)
  have ne : s.heap.objs.size + 1 + a1 ≠ s.heap.objs.size + 1 + a2 := by omega
  have Q2 := q _ _ rfl rfl ne n1 n2
  have eb : ∀ b, b ≠ s.heap.objs.size + 1 + a1 → b ≠ s.heap.objs.size + 1 + a2 → upd (upd H1 (s.heap.objs.size + 1 + a1) (CellO (s.heap.objs.size + 1 + a1) v1)) (s.heap.objs.size + 1 + a2) (CellO (s.heap.objs.size + 1 + a2) v2) b = H1 b := fun b h1 h2 => by rw [upd_ne h2, upd_ne h1]
  have ec1 : upd (upd H1 (s.heap.objs.size + 1 + a1) (CellO (s.heap.objs.size + 1 + a1) v1)) (s.heap.objs.size + 1 + a2) (CellO (s.heap.objs.size + 1 + a2) v2) (s.heap.objs.size + 1 + a1) = some (CellO (s.heap.objs.size + 1 + a1) v1) := by rw [upd_ne ne, upd_same]
  have ec2 : upd (upd H1 (s.heap.objs.size + 1 + a1) (CellO (s.heap.objs.size + 1 + a1) v1)) (s.heap.objs.size + 1 + a2) (CellO (s.heap.objs.size + 1 + a2) v2) (s.heap.objs.size + 1 + a2) = some (CellO (s.heap.objs.size + 1 + a2) v2) := upd_same
  generalize upd (upd H1 (s.heap.objs.size + 1 + a1) (CellO (s.heap.objs.size + 1 + a1) v1)) (s.heap.objs.size + 1 + a2) (CellO (s.heap.objs.size + 1 + a2) v2) = H2 at Q2 eb ec1 ec2
  have sm : ∀ b o, H1 b = some o → H2 b = some o := fun b o e => by
    rw [eb b (fun z => by rw [z, n1] at e; cases e) fun z => by rw [z, n2] at e; cases e]; exact e
  refine ⟨v, H2, J.os, J.bare, ⟨J.base.keep, J.base.slot, fun b o e n hx => ?_, J.base.there, fun b xs e => sm _ _ (J.base.tups b xs e), fun b o u e => sm _ _ (J.base.frzs b o u e), fun b ps e => ?_⟩, fun b o e => ?_, rv, Q2⟩
  · have lt := Heap.lt_size e
    rw [eb b (Nat.ne_of_lt (Nat.lt_of_lt_of_le lt (by omega))) (Nat.ne_of_lt (Nat.lt_of_lt_of_le lt (by omega)))]
    exact J.base.free b o e n hx
  · obtain ⟨m, e⟩ := J.base.tbls b ps e
    exact ⟨m, sm _ _ e⟩
  · by_cases b1 : b = s.heap.objs.size + 1 + a1
    · subst b1; rw [ec1] at e; cases e; exact cell_ok r1 z1
    · by_cases b2 : b = s.heap.objs.size + 1 + a2
      · subst b2; rw [ec2] at e; cases e; exact cell_ok r2 z2
      · rw [eb b b1 b2] at e
        exact (J.hok b o e).stay (fun _ _ _ q => q) (fun d q => sm _ _ q) fun d xs q => sm _ _ q
end
end L2
namespace L2
open PySem PySem.Spec PyProof.Rows
theorem env_clo {M : Model} {A : Around} {E : Value → Shared → Prop} {s : Shared} {scope : Scope} {cl : List (Str × Addr)} {x : Str} {u : Value} {qual : Str} {f : Addr} {cd : Value} {Q : Env → Shared → Prop} (hk : scope.kind = .function) (hx : scope.names.lookup x = some .cell)
    (hp : ∀ h : Heap, pushCells h scope.names = h.push { cls := .type "cell", data := .cell none }) (hc : ∀ n, cellsFrom n scope.names cl = (x, n) :: cl)
    (hQ : ∀ h', (∀ b o, s.heap.get? b = some o → h'.get? b = some o) → h'.Ns s.heap.objs.size (fun _ => none) → h'.IsCell (s.heap.objs.size + 1) (some u) → Q (PySem.W.envX qual scope s.heap.objs.size f cd ((x, s.heap.objs.size + 1) :: cl)) { s with heap := h' }) :
    wpAny M A (newFunctionEnv scope mainGlobals cl [(x, u)] (qual ++ ".<locals>.") (some f) cd none builtinsNs) Q E s := by
  simp only [newFunctionEnv, Option.isSome_none, Bool.false_eq_true, if_false]
  refine wpAny_bind (wpAny_alloc ?_)
  refine wpAny_bind (wpAny_layCells _ (fun name kind cells => by cases hkc : kind == NameKind.cell <;> simp [hkc]) _ _ _ _ ?_)
  rw [hp, hc, show ({ s with heap := s.heap.push { cls := .type "frame", data := .dict #[] } } : Shared).heap.objs.size = s.heap.objs.size + 1 from Heap.size_push ..]
  rw [List.forIn_cons]
  have c0 : ((s.heap.push { cls := .type "frame", data := .dict #[] }).push { cls := .type "cell", data := .cell none }).IsCell (s.heap.objs.size + 1) none := by
    have z : ((s.heap.push { cls := .type "frame", data := .dict #[] }).push { cls := .type "cell", data := .cell none }).get? (s.heap.push { cls := .type "frame", data := .dict #[] }).objs.size = some { cls := .type "cell", data := .cell none } := Heap.get?_push_size _ rfl
    rw [Heap.size_push] at z
    exact ⟨_, z, rfl⟩
  have lk : List.lookup x ((x, s.heap.objs.size + 1) :: cl) = some (s.heap.objs.size + 1) := by rw [List.lookup_cons, beq_self_eq_true]
  refine wpAny_bind (wpAny_bind (wpAny_bind (wpAny_storeName_cell (env := PySem.W.envX qual scope s.heap.objs.size f cd ((x, s.heap.objs.size + 1) :: cl)) hk hx lk c0 fun h' hc' hs => ?_)))
  refine wpAny_pure ?_
  dsimp only
  rw [List.forIn_nil]
  refine wpAny_pure (wpAny_pure ?_)
  have kp : ∀ b o, b ≠ s.heap.objs.size + 1 → ((s.heap.push { cls := .type "frame", data := .dict #[] }).push { cls := .type "cell", data := .cell none }).get? b = some o → h'.get? b = some o := fun b o n e => (hs.2 b n).trans e
  refine hQ h' (fun b o e => kp b o (fun z => ?_) (Heap.get?_push_of_some _ (Heap.get?_push_of_some _ e))) ?_ hc'
  · exact absurd z (Nat.ne_of_lt (Nat.lt_of_lt_of_le (Heap.lt_size e) (Nat.le_succ _)))
  · obtain ⟨o, es, ep, e, r⟩ := Heap.Ns.new s.heap (.type "frame")
    exact ⟨o, es, ep, kp _ _ (by omega) (Heap.get?_push_of_some _ e), r⟩
def cxC (P : Program) (w : World) (K : PySem.W.Frag) (mg : Str → Option Value) (base : Heap) (N : List Str) (qual : Str) (scope : Scope) (f : Addr) (cd : Value) (x : Str) (cl : List (Str × Addr)) (A : Around) (outer : List Env) (s : Shared) (H : Hp) : Cx where
  prog := P
  w := w
  K := K
  mg := mg
  base := base
  A := A.deeper (PySem.W.envX qual scope s.heap.objs.size f cd ((x, s.heap.objs.size + 1) :: cl))
  N := N
  s₀ := s
  H₀ := H
  env := PySem.W.envX qual scope s.heap.objs.size f cd ((x, s.heap.objs.size + 1) :: cl)
  outer := outer
  stack := PySem.W.envX qual scope s.heap.objs.size f cd ((x, s.heap.objs.size + 1) :: cl) :: outer
  ex := []
  calm := true
  fn := fun _ => false
  pn := []
  xe := fun _ _ => False
structure CloS (x x1 x2 : Str) (sc : Scope) : Prop where
  kind : sc.kind = .function
  co : sc.isCoroutine = false
  gen : sc.isGenerator = false
  hx : sc.names.lookup x = some .cell
  h1 : sc.names.lookup x1 = some .free
  h2 : sc.names.lookup x2 = some .free
  n1 : x1 ≠ x
  n2 : x2 ≠ x
  n12 : x2 ≠ x1
  only : ∀ y ∈ sc.names, y.2 = .cell ∨ y.2 = .free → y.1 = x ∨ y.1 = x1 ∨ y.1 = x2
  push : ∀ h : Heap, pushCells h sc.names = h.push { cls := .type "cell", data := .cell none }
  cells : ∀ n cl, cellsFrom n sc.names cl = (x, n) :: cl
section
variable {P : Program} {w : World} {K : PySem.W.Frag} {mg : Str → Option Value} {base : Heap}
theorem lk3 {x x1 x2 y : Str} {a c1 c2 c : Addr} (h : List.lookup y [(x, a), (x1, c1), (x2, c2)] = some c) : (y = x ∧ c = a) ∨ (y = x1 ∧ c = c1) ∨ (y = x2 ∧ c = c2) := by
  have m := PySem.mem_of_lookup h
  simp only [List.mem_cons, Prod.mk.injEq, List.not_mem_nil, or_false] at m
  exact m
theorem inv_clo {qual : Str} {scope : Scope} {f c1 c2 : Addr} {cd : Value} {x x1 x2 : Str} {A : Around} {outer : List Env} {s : Shared} {H : Hp} {h' : Heap} {u u1 u2 : Value} {v v1 v2 : V} (S : CloS x x1 x2 scope) (hd : A.handled = none) (e0 : Env0 P w K mg base A outer s H)
    (r : RelV v u) (r1 : RelV v1 u1) (r2 : RelV v2 u2) (z1 : s.heap.IsCell c1 (some u1)) (z2 : s.heap.IsCell c2 (some u2)) (m1 : H c1 = none) (m2 : H c2 = none) (ne : c1 ≠ c2)
    (hk : ∀ b o, s.heap.get? b = some o → h'.get? b = some o) (hn : h'.Ns s.heap.objs.size (fun _ => none)) (hc : h'.IsCell (s.heap.objs.size + 1) (some u)) :
    Inv (cxC P w K mg base [x, x1, x2] qual scope f cd x [(x1, c1), (x2, c2)] A outer s H) [] [some v, some v1, some v2] H { s with heap := h' } := by
  have lt1 : c1 < s.heap.objs.size := by obtain ⟨o, e, _⟩ := z1; exact Heap.lt_size e
  have lt2 : c2 < s.heap.objs.size := by obtain ⟨o, e, _⟩ := z2; exact Heap.lt_size e
  have q1 : c1 ≠ s.heap.objs.size + 1 := Nat.ne_of_lt (Nat.lt_of_lt_of_le lt1 (Nat.le_succ _))
  have q2 : c2 ≠ s.heap.objs.size + 1 := Nat.ne_of_lt (Nat.lt_of_lt_of_le lt2 (Nat.le_succ _))
  have noA : ∀ b : Addr, b ∉ (cxC P w K mg base [x, x1, x2] qual scope f cd x [(x1, c1), (x2, c2)] A outer s H).ex := fun b z => absurd (show b ∈ ([] : List Addr) from z) (by simp)
  have k1 : h'.IsCell c1 (some u1) := let ⟨o, e, d⟩ := z1; ⟨o, hk _ _ e, d⟩
  have k2 : h'.IsCell c2 (some u2) := let ⟨o, e, d⟩ := z2; ⟨o, hk _ _ e, d⟩
  have b1 : (x1 == x) = false := beq_eq_false_iff_ne.mpr S.n1
  have b2 : (x2 == x) = false := beq_eq_false_iff_ne.mpr S.n2
  have b12 : (x2 == x1) = false := beq_eq_false_iff_ne.mpr S.n12
  have l0 : List.lookup x [(x, s.heap.objs.size + 1), (x1, c1), (x2, c2)] = some (s.heap.objs.size + 1) := by rw [List.lookup_cons, beq_self_eq_true]
  have l1 : List.lookup x1 [(x, s.heap.objs.size + 1), (x1, c1), (x2, c2)] = some c1 := by rw [List.lookup_cons, b1]; simp
  have l2 : List.lookup x2 [(x, s.heap.objs.size + 1), (x1, c1), (x2, c2)] = some c2 := by rw [List.lookup_cons, b2]; simp [List.lookup_cons, b12]
  refine ⟨⟨e0.mod, S.kind, rfl, rfl, Nat.le_refl _, fun y z c h1 h2 => ?_, fun y hy => ?_, fun y c h => ?_, fun _ => hd, Around.frames_deeper e0.frames, .inr ⟨rfl, rfl⟩, fun b z => absurd z (noA b), e0.bs, e0.bsz, fun b _ _ => noA b, fun b z => absurd z (noA b), e0.funs, e0.frf⟩,
    rfl, e0.bare, Un.kept hk, ⟨_, hn, fun i y v' h1 h2 h3 => ?_⟩, fun y c h => ?_, e0.hok.fresh (Nat.le_refl _), fun y c h => ?_, fun p hp => absurd (show p ∈ ([] : List (Addr × Obj)) from hp) (by simp), e0.hok.kept hk, rfl⟩
  · rcases lk3 h1 with ⟨ey, ec⟩ | ⟨ey, ec⟩ | ⟨ey, ec⟩ <;> rcases lk3 h2 with ⟨ez, ed⟩ | ⟨ez, ed⟩ | ⟨ez, ed⟩ <;> first | (rw [ey, ez]; done) | exact absurd (ec.symm.trans ed) ne | exact absurd (ed.symm.trans ec) ne | exact absurd (ec.symm.trans ed) q1 | exact absurd (ed.symm.trans ec) q1 | exact absurd (ec.symm.trans ed) q2 | exact absurd (ed.symm.trans ec) q2
  · have hy : scope.names.lookup y = some .cell ∨ scope.names.lookup y = some .free := hy
    have hm : ∃ kd, (y, kd) ∈ scope.names ∧ (kd = .cell ∨ kd = .free) := hy.elim (fun z => ⟨_, PySem.mem_of_lookup z, .inl rfl⟩) fun z => ⟨_, PySem.mem_of_lookup z, .inr rfl⟩
    obtain ⟨kd, hm, hkd⟩ := hm
    rcases S.only _ hm hkd with z | z | z
    · have z' : y = x := z
      rw [z']; exact ⟨_, l0⟩
    · have z' : y = x1 := z
      rw [z']; exact ⟨_, l1⟩
    · have z' : y = x2 := z
      rw [z']; exact ⟨_, l2⟩
  · cases h
  · match i with
    | 0 =>
      have e1 : x = y := by simpa [cxC] using h1
      have e2 : v = v' := by simpa using h2
      subst e1; subst e2
      exact ⟨u, r, .inr ⟨.inl S.hx, _, l0, hc⟩⟩
    | 1 =>
      have e1 : x1 = y := by simpa [cxC] using h1
      have e2 : v1 = v' := by simpa using h2
      subst e1; subst e2
      exact ⟨u1, r1, .inr ⟨.inr S.h1, _, l1, k1⟩⟩
    | 2 =>
      have e1 : x2 = y := by simpa [cxC] using h1
      have e2 : v2 = v' := by simpa using h2
      subst e1; subst e2
      exact ⟨u2, r2, .inr ⟨.inr S.h2, _, l2, k2⟩⟩
    | i + 3 => simp at h2
  · rcases lk3 h with ⟨_, ec⟩ | ⟨_, ec⟩ | ⟨_, ec⟩ <;> subst ec
    · exact ⟨_, hc⟩
    · exact ⟨_, k1⟩
    · exact ⟨_, k2⟩
  · rcases lk3 h with ⟨_, ec⟩ | ⟨_, ec⟩ | ⟨_, ec⟩ <;> subst ec
    · exact e0.hok.fresh (by omega)
    · exact m1
    · exact m2
end
def drop2 (H : Hp) (c1 c2 : Addr) : Hp := fun b => if b = c1 ∨ b = c2 then none else H b
def put2 (H H2 : Hp) (c1 c2 : Addr) : Hp := fun b => if b = c1 ∨ b = c2 then H b else H2 b
def CloAt (name qual : Str) (st : Stmt) (x1 x2 : Str) (H : Hp) (f : Addr) (v1 v2 : V) : Prop := ∃ c c1 c2, H f = some (FnO name qual st [(x1, c1), (x2, c2)] c f) ∧ H c = some (CodeO c qual) ∧ H c1 = some (CellO c1 v1) ∧ H c2 = some (CellO c2 v2) ∧ c1 ≠ c2
theorem CloAt.same {name qual : Str} {st : Stmt} {x1 x2 : Str} {H H' : Hp} {f : Addr} {v1 v2 : V} (x : CloAt name qual st x1 x2 H f v1 v2) (s : Same H H') : CloAt name qual st x1 x2 H' f v1 v2 :=
  let ⟨c, c1, c2, h1, h2, h3, h4, h5⟩ := x; ⟨c, c1, c2, s _ _ h1, s _ _ h2, s _ _ h3, s _ _ h4, h5⟩
theorem CloAt.sameX {name qual : Str} {st : Stmt} {x1 x2 : Str} {H H' : Hp} {f T : Addr} {v1 v2 : V} {ps : Array Value} (x : CloAt name qual st x1 x2 H f v1 v2) (hT : H T = some (.tbl ps)) (s : SameX T H H') : CloAt name qual st x1 x2 H' f v1 v2 := by
  obtain ⟨c, c1, c2, h1, h2, h3, h4, h5⟩ := x
  have nT : ∀ b φ, H b = some (.ext φ) → b ≠ T := fun b φ e z => by rw [z, hT] at e; cases e
  exact ⟨c, c1, c2, s _ _ (nT _ _ h1) h1, s _ _ (nT _ _ h2) h2, s _ _ (nT _ _ h3) h3, s _ _ (nT _ _ h4) h4, h5⟩
section
variable {X : Cx}
theorem run_clo {k : Nat} {name qual : Str} {st : Stmt} {x x1 x2 : Str} {pins : List (Addr × Obj)} {σ : St} {H : Hp} {s : Shared} {f : Addr} {m v1 v2 : V} {um : Value} {Q : VK} (S : CloS x x1 x2 (defScope st)) (hr : Room (k + 1) X.A) (I : Inv X pins σ H s)
    (hC : CloAt name qual st x1 x2 H f v1 v2) (rm : RelV m um) (hb : ∀ (cl : List (Str × Addr)) (doc pm : Value) (c : Addr) (ctv u : Value), bindArgs (PySem.W.fnX name qual (defArgs st) (defBody st) (defScope st) cl .none .none doc pm none (.ref c) ctv) ⟨[u], []⟩ = pure [(x, u)])
    (hbody : ∀ (c c1 c2 : Addr) (A : Around) (outer : List Env) (s : Shared), Room k (A.deeper (PySem.W.envX qual (defScope st) s.heap.objs.size f (.ref c) ((x, s.heap.objs.size + 1) :: [(x1, c1), (x2, c2)]))) → H c1 = some (CellO c1 v1) → H c2 = some (CellO c2 v2) →
      ∃ t, PSs (cxC X.prog X.w X.K X.mg X.base [x, x1, x2] qual (defScope st) f (.ref c) x [(x1, c1), (x2, c2)] A outer s (drop2 H c1 c2)) (defBody st) t ∧
        t { nx := fun _ H' => Q .non (put2 H H' c1 c2), rt := fun v H' => Q v (put2 H H' c1 c2) } [some m, some v1, some v2] (drop2 H c1 c2)) :
    wpAny (model X.prog X.w) X.A (call (.ref f) [um]) (EP X pins σ Q) X.xe s := by
  obtain ⟨c, c1, c2, h1, h2, h3, h4, ne⟩ := hC
  obtain ⟨⟨doc, pm, ctv, ef⟩, _, _⟩ := I.hok f _ h1
  obtain ⟨ec, _, _⟩ := I.hok c _ h2
  obtain ⟨⟨u1, r1, z1⟩, ⟨o1, g1⟩, k1⟩ := I.hok c1 _ h3
  obtain ⟨⟨u2, r2, z2⟩, ⟨o2, g2⟩, k2⟩ := I.hok c2 _ h4
  have dne : ∀ b, b ≠ c1 → b ≠ c2 → drop2 H c1 c2 b = H b := fun b e1 e2 => if_neg fun z => z.elim e1 e2
  have d1 : drop2 H c1 c2 c1 = none := if_pos (.inl rfl)
  have d2 : drop2 H c1 c2 c2 = none := if_pos (.inr rfl)
  have dn : ∀ b, H b = none → drop2 H c1 c2 b = none := fun b e => by
    unfold drop2; split
    · rfl
    · exact e
  have dsub : ∀ b o, drop2 H c1 c2 b = some o → H b = some o ∧ b ≠ c1 ∧ b ≠ c2 := fun b o e => by
    unfold drop2 at e; split at e
    · cases e
    · rename_i z; exact ⟨e, fun y => z (.inl y), fun y => z (.inr y)⟩
  have nx : ∀ b o, H b = some o → (∀ φ, o ≠ .ext φ) → drop2 H c1 c2 b = some o := fun b o e n => by
    rw [dne b (fun z => by rw [z, h3] at e; exact n _ (Option.some.inj e).symm) fun z => by rw [z, h4] at e; exact n _ (Option.some.inj e).symm]; exact e
  have e0 := I.env0
  have e1 : Env0 X.prog X.w X.K X.mg X.base X.A X.stack s (drop2 H c1 c2) := ⟨e0.frames, e0.mod, fun b o e => ⟨(e0.bs b o e).1, dn b (e0.bs b o e).2⟩, e0.bsz, e0.funs, fun b hb => dn b (e0.frf b hb), fun b o e => by
    obtain ⟨e', _⟩ := dsub b o e
    exact (I.hok b o e').stay (fun _ _ _ q => q) (fun d q => nx d _ q (by intro φ z; cases z)) fun d xs q => nx d _ q (by intro φ z; cases z), e0.bare⟩
  refine wpAny_call ?_
  refine codeAny_call_function hr.depth ef rfl S.co S.gen rfl ec ?_
  rw [hb]
  refine wpAny_pure (env_clo S.kind S.hx S.push (fun n => S.cells n _) fun h' hk hn hc => ?_)
  refine ⟨I.nolimit.keeps hk, codeAny_func ?_⟩
  obtain ⟨t, ht, hq⟩ := hbody c c1 c2 X.A X.stack s (hr.deeper _) h3 h4
  have J := inv_clo (f := f) (cd := .ref c) (qual := qual) S hr.hd e1 rm r1 r2 z1 z2 d1 d2 ne hk hn hc
  refine wpAny_mono (ht [] _ _ _ _ J hq) (fun fl s' hs => ?_) fun e s' hs => False.elim hs
  have fs1 : c1 ∉ frs X.stack := fun z => by have := I.stkFree c1 z; rw [h3] at this; cases this
  have fs2 : c2 ∉ frs X.stack := fun z => by have := I.stkFree c2 z; rw [h4] at this; cases this
  have fin : ∀ {σ' : St} {H' : Hp} {v : V} {u : Value}, Inv (cxC X.prog X.w X.K X.mg X.base [x, x1, x2] qual (defScope st) f (.ref c) x [(x1, c1), (x2, c2)] X.A X.stack s (drop2 H c1 c2)) [] σ' H' s' → RelV v u → Q v (put2 H H' c1 c2) → EP X pins σ Q u s' := fun {σ' H' v u} J' rv q => by
    have un : Un (frs X.stack) [] (drop2 H c1 c2) H' s.heap s'.heap := J'.base
    have p1 : H' c1 = none := un.free c1 o1 g1 d1 (by simp)
    have p2 : H' c2 = none := un.free c2 o2 g2 d2 (by simp)
    have pne : ∀ b, b ≠ c1 → b ≠ c2 → put2 H H' c1 c2 b = H' b := fun b e1 e2 => if_neg fun z => z.elim e1 e2
    have pc1 : put2 H H' c1 c2 c1 = H c1 := if_pos (.inl rfl)
    have pc2 : put2 H H' c1 c2 c2 = H c2 := if_pos (.inr rfl)
    have psm : ∀ b o, H' b = some o → put2 H H' c1 c2 b = some o := fun b o e => by
      rw [pne b (fun z => by rw [z, p1] at e; cases e) fun z => by rw [z, p2] at e; cases e]; exact e
    have hne : ∀ b, H b = none → b ≠ c1 ∧ b ≠ c2 := fun b e => ⟨fun z => (by rw [z, h3] at e; cases e), fun z => (by rw [z, h4] at e; cases e)⟩
    refine I.after ⟨v, put2 H H' c1 c2, J'.os, J'.bare, ⟨fun b o e n hf hx => un.keep b o e (dn b n) hf hx, fun b o e n hf hx => un.slot b o e (dn b n) hf hx, fun b o e n hx => ?_, un.there, fun b xs e => psm _ _ (un.tups b xs (nx b _ e (by intro φ z; cases z))),
      fun b o u e => psm _ _ (un.frzs b o u (nx b _ e (by intro φ z; cases z))), fun b ps e => ?_⟩, fun b o e => ?_, rv, q⟩
    · rw [pne b (hne b n).1 (hne b n).2]; exact un.free b o e (dn b n) hx
    · obtain ⟨mo, e2⟩ := un.tbls b ps (nx b _ e (by intro φ z; cases z))
      exact ⟨mo, psm _ _ e2⟩
    · by_cases b1 : b = c1
      · subst b1
        rw [pc1, h3] at e; cases e
        have kp := un.keep b o1 g1 d1 fs1 (by simp)
        exact ⟨k1 _ _ ⟨u1, r1, z1⟩ fun o q => by rw [g1] at q; cases q; exact kp, ⟨o1, kp⟩, k1⟩
      · by_cases b2 : b = c2
        · subst b2
          rw [pc2, h4] at e; cases e
          have kp := un.keep b o2 g2 d2 fs2 (by simp)
          exact ⟨k2 _ _ ⟨u2, r2, z2⟩ fun o q => by rw [g2] at q; cases q; exact kp, ⟨o2, kp⟩, k2⟩
        · rw [pne b b1 b2] at e
          exact (J'.hok b o e).stay (fun _ _ _ q => q) (fun d q => psm _ _ q) fun d xs q => psm _ _ q
  cases fl with
  | ret u =>
    obtain ⟨v, σ', H', J', rv, q⟩ := hs
    exact fin J' rv q
  | next =>
    obtain ⟨σ', H', J', q⟩ := hs
    exact fin (v := V.non) (u := Value.none) J' rfl q
  | brk => obtain ⟨_, _, _, q⟩ := hs; exact False.elim q
  | cont => obtain ⟨_, _, _, q⟩ := hs; exact False.elim q
def CloR (X : Cx) (name qual : Str) (st : Stmt) (x1 x2 : Str) (spl : V → V → V → Hp → VK → Prop) : Prop := ∀ (pins : List (Addr × Obj)) (σ : St) (H : Hp) (s : Shared) (f : Addr) (m v1 v2 : V) (um : Value) (Q : VK), Inv X pins σ H s → CloAt name qual st x1 x2 H f v1 v2 → RelV m um → spl m v1 v2 H Q →
  wpAny (model X.prog X.w) X.A (call (.ref f) [um]) (EP X pins σ Q) X.xe s
def tClo (name qual : Str) (st : Stmt) (x1 x2 : Str) (spl : V → V → V → Hp → VK → Prop) (i : Nat) (t : TA) : TE := fun σ H Q => ∃ f v1 v2, σ[i]? = some (some (.ref f)) ∧ CloAt name qual st x1 x2 H f v1 v2 ∧ t σ H fun vs H1 => ∃ m, vs = [m] ∧ CloAt name qual st x1 x2 H1 f v1 v2 ∧ spl m v1 v2 H1 Q
theorem pe_clo {name qual : Str} {st : Stmt} {x1 x2 : Str} {spl : V → V → V → Hp → VK → Prop} {i : Nat} {y : Str} {p pos : Pos} {e : Expr} {es : List Expr} {t : TA} (D : CloR X name qual st x1 x2 spl) (hN : X.N[i]? = some y) (hv : Vis X.env.scope y) (ha : PA X (e :: es) t) (hd : (y == ("__debug__" : Str)) = false := by decide) (hcd : (y == ("__classdict__" : Str)) = false := by decide)
    (he : starEach (e :: es) X.env = (false, eval e X.env) :: starEach es X.env := by rfl) (hpl : (backTo pos (starEach es X.env)).any (·.1) = false := by rfl) : PE X (.Call (.Name y p) (e :: es) [] pos) (tClo name qual st x1 x2 spl i t) := by
  intro pins s σ H Q I ⟨f, v1, v2, hf, hC, h⟩
  refine wpAny_Call_Name_kw (thn (pe_var (pos := p) hN hv hd hcd pins s σ H (fun v H' => v = .ref f ∧ H' = H) I ⟨_, hf, rfl, rfl⟩) fun u s1 hq__ => ?_)
  obtain ⟨v, H1, I1, rv, e1, e2⟩ := hq__
  subst e1 e2
  obtain rfl : u = Value.ref f := rv
  have at_ : ∀ {H : Hp} {s : Shared}, Inv X pins σ H s → CloAt name qual st x1 x2 H f v1 v2 → PySem.W.FnAt f s.heap := fun {H s} I ⟨c, c1, c2, h1, _⟩ => by
    obtain ⟨⟨doc, pm, ctv, ef⟩, _, _⟩ := I.hok f _ h1
    exact ⟨_, _, _, _, ef⟩
  refine PySem.W.callWith_F (at_ I1 hC) (thn (ha pos pins s1 σ H1 _ I1 h) fun us s2 ⟨vs, H2, I2, r, m, em, hC2, q⟩ => ⟨at_ I2 hC2, ?_⟩) he hpl
  subst em
  cases r with
  | cons rm r' =>
    cases r'
    exact D pins σ H2 s2 f m v1 v2 _ Q I2 hC2 rm q
end
end L2
namespace L2
open PySem PySem.Spec PyProof.Rows
def OnlyT (T : Addr) (H : Hp) : Prop := H T = some (.tbl #[])
theorem law_callT {P : Program} {w : World} {K : PySem.W.Frag} {mg mb : Str → Option Value} {CX : CXT} {k : Nat} {fa a c T : Addr} {fd : FuncData} {x : Str} {sp : Sp} {s₁ : Shared} {vs : List Value} {ns : List Int}
    (KX : K.In s₁.heap) (hns : s₁.heap.Ns mainGlobals mg) (hb : s₁.heap.Ns builtinsNs mb) (hbb : ∀ x : Str, x ≠ "__name__" → mb x = bootBuiltins x) (hlim : s₁.heap.NoLimit) (hnd : s₁.heap.NoDigits)
    (hbm : ∃ bm ob, mg "__builtins__" = some (.ref bm) ∧ bm ≠ builtinsNs ∧ s₁.heap.get? bm = some ob ∧ ob.cls = .type "module" ∧ ob.dict = some builtinsNs ∧ ob.data = .plain) (hg : s₁.gens = #[])
    (hT : PySem.W.CodeHd s₁.heap c T) (eT : s₁.heap.get? T = some (PySem.W.tabObj #[])) (KT : K.lookup T = none)
    (ha : s₁.heap.get? a = some { cls := .type "list", data := .seq vs.toArray }) (hi : IntsAre vs ns) (hl : ns.length ≤ sizeLine) (hr : Room k callerA)
    (F : ∀ base : Heap, K.In base → base.Ns mainGlobals mg → FnOk P w K mg base CX k fa fd [x] sp) (hbind : ∀ (s : Shared) (u : Value), BindsTo s fd ⟨[u], []⟩ [(x, u)])
    (hsp : ∀ H : Hp, OnlyT T H → SqL K H a (ns.map V.int) → sp [.ref a] H (fun v _ => v = .bl true) fun _ _ _ => False)
    (hCX : ∀ H e s', CX [] H s₁ (fun _ _ _ => False) e s' → False) :
    codeAny (model P w) callerA (.call (.ref fa) ⟨[.ref a], []⟩) (fun r s' => r = .ok (.ret (.bool true)) ∧ OldK s₁.heap s'.heap ∧ s'.os = s₁.os ∧ AllBare s'.gens) s₁ := by
  have rv := vals_ints hi
  have lenV := hi.length
  have aT : a ≠ T := fun z => by rw [z, eT] at ha; cases ha
  have core : ∀ H : Hp, H T = some (.tbl #[]) → (∀ b, b ≠ T → H b = none ∨ ∃ o xs, H b = some (.frz o (.lst xs))) → SqL K H a (ns.map V.int) → HOk P w H s₁.heap → (∀ b, H b ≠ none → b = a ∨ b = T) → (H a ≠ none → K.lookup a = none) →
      codeAny (model P w) callerA (.call (.ref fa) ⟨[.ref a], []⟩) (fun r s' => r = .ok (.ret (.bool true)) ∧ OldK s₁.heap s'.heap ∧ s'.os = s₁.os ∧ AllBare s'.gens) s₁ := by
    intro H hTt hO hS hok hA hK
    have base_of : ∀ {b : Addr} {o : Obj}, s₁.heap.get? b = some o → H b = none → (hidT s₁.heap H).get? b = some o := fun e n => hidT_get e n
    have noT : ∀ {b : Addr} {o : Obj}, s₁.heap.get? b = some o → o ≠ { cls := .type "list", data := .seq vs.toArray } → o ≠ PySem.W.tabObj #[] → H b = none := fun {b o} e n1 n2 => by
      cases q : H b with
      | none => rfl
      | some u =>
        rcases hA b (by rw [q]; simp) with z | z
        · subst z; rw [ha] at e; cases e; exact absurd rfl n1
        · subst z; rw [eT] at e; cases e; exact absurd rfl n2
    have nsK : ∀ {b : Addr} {m : Str → Option Value}, s₁.heap.Ns b m → (hidT s₁.heap H).Ns b m := fun {b m} ⟨o, es, ep, e, d, r⟩ => ⟨o, es, ep, base_of e (noT e (fun z => by rw [z] at d; cases d) fun z => by rw [z] at d; cases d), d, r⟩
    have hKb : K.In (hidT s₁.heap H) := fun b o e => base_of (KX b o e) (by
      cases q : H b with
      | none => rfl
      | some u =>
        rcases hA b (by rw [q]; simp) with z | z
        · subst z; rw [hK (by rw [q]; simp)] at e; cases e
        · subst z; rw [KT] at e; cases e)
    have hM : Mod K mg (hidT s₁.heap H) := ⟨hKb, nsK hns, ⟨mb, nsK hb, hbb⟩, let ⟨mc, h1, h2⟩ := hlim; ⟨mc, nsK h1, h2⟩, let ⟨mc, h1, h2⟩ := hnd; ⟨mc, nsK h1, h2⟩,
      let ⟨bm, ob, h1, h2, h3, h4, h5⟩ := hbm; ⟨bm, ob, h1, h2, base_of h3 (noT h3 (fun z => by rw [z] at h5; cases h5.2) fun z => by rw [z] at h5; cases h5.2), h4, h5⟩⟩
    have e0 : Env0 P w K mg (hidT s₁.heap H) callerA [] s₁ H := ⟨rfl, hM, fun b o e => of_hidT e, Nat.le_of_eq (hidT_size _ _), trivial, fun b hb => absurd (show b ∈ ([] : List Addr) from hb) (by simp), hok, .of_eq hg⟩
    refine codeAny_mono ((F _ hKb (nsK hns)).run callerA [] s₁ H ⟨[.ref a], []⟩ [.ref a] [.ref a] _ _ hr e0 (hbind s₁ (.ref a)) (.cons rfl .nil) (hsp H hTt hS)) fun r s' h => ?_
    cases r with
    | error e => exact (hCX H e s' h).elim
    | ok fl =>
      cases fl with
      | next => exact False.elim h
      | brk => exact False.elim h
      | cont => exact False.elim h
      | ret u =>
        obtain ⟨v, H', os, bare, un, hok', r', q⟩ := h
        have q' : v = .bl true := q
        subst q'
        obtain rfl : u = Value.bool true := r'
        have kp : ∀ b o, b ≠ T → s₁.heap.get? b = some o → s'.heap.get? b = some o := fun b o nb e => by
          rcases hO b nb with z | ⟨ob, xs, z⟩
          · exact un.keep b o e z (by intro y; exact absurd (show b ∈ ([] : List Addr) from y) (by simp)) (by simp)
          · have z2 := un.frzs b ob _ z
            obtain ⟨e1, _⟩ := hok b _ z
            obtain ⟨e2, _⟩ := hok' b _ z2
            rw [e] at e1; cases e1
            exact e2
        obtain ⟨more, z⟩ := un.tbls T _ hTt
        have zT : s'.heap.get? T = some (PySem.W.tabObj (#[] ++ more)) := hok' T _ z
        refine ⟨rfl, ⟨fun b o e => ?_, fun b o e => ?_⟩, os, bare⟩
        · by_cases nb : b = T
          · subst nb
            rw [eT] at e; cases e
            exact .inr (.inl ⟨(hT.tab eT).isCodeTable, rfl, #[], more, rfl, zT⟩)
          · exact .inl (kp b o nb e)
        · by_cases nb : b = T
          · subst nb; exact ⟨_, zT⟩
          · exact ⟨o, kp b o nb e⟩
  cases hk : K.lookup a with
  | some o =>
    have e := KX a o hk
    rw [ha] at e
    cases e
    refine core (fun b => if b = T then some (.tbl #[]) else none) (if_pos rfl) (fun b nb => .inl (if_neg nb)) (.inr ⟨_, vs.toArray, _, hk, rfl, rfl, rfl, by rw [List.size_toArray, lenV]; exact hl, by simpa using rv⟩) (fun b u z => ?_) (fun b z => .inr ?_) fun z => absurd (if_neg aT) z
    · dsimp only at z
      by_cases nb : b = T
      · subst nb; rw [if_pos rfl] at z; cases z; exact eT
      · rw [if_neg nb] at z; cases z
    · by_cases nb : b = T
      · exact nb
      · exact absurd (if_neg nb) z
  | none =>
    refine core (fun b => if b = T then some (.tbl #[]) else if b = a then some (.frz { cls := .type "list", data := .seq vs.toArray } (.lst (ns.map V.int))) else none) (if_pos rfl) (fun b nb => ?_) (.inl (.inr ⟨{ cls := .type "list", data := .seq vs.toArray }, by dsimp only; rw [if_neg aT, if_pos rfl]⟩)) (fun b u z => ?_) (fun b z => ?_) fun _ => hk
    · rw [if_neg nb]
      by_cases hb : b = a
      · exact .inr ⟨_, _, if_pos hb⟩
      · exact .inl (if_neg hb)
    · dsimp only at z
      by_cases nb : b = T
      · subst nb; rw [if_pos rfl] at z; cases z; exact eT
      · rw [if_neg nb] at z
        by_cases hb : b = a
        · have z' := (if_pos hb).symm.trans z
          cases z'
          subst hb
          exact ⟨ha, by rw [List.length_map]; exact hl, vs, _, rv, ha⟩
        · have z' := (if_neg hb).symm.trans z
          cases z'
    · by_cases nb : b = T
      · exact .inr nb
      · by_cases hb : b = a
        · exact .inl hb
        · exact absurd (by rw [if_neg nb, if_neg hb]) z
theorem tabIn_at {K : PySem.W.Frag} {x : Str} {c T : Addr} (h : PySem.W.tabIn K x = some (c, T)) : ∃ f oc od fd sl o, PySem.W.nsIn K mainGlobals x = some (some (.ref f)) ∧ K.lookup f = some ⟨oc, od, .func fd, sl⟩ ∧ fd.code = .ref c ∧ K.lookup c = some o := by
  unfold PySem.W.tabIn at h
  split at h
  · rename_i f hf
    split at h
    · rename_i hfo
      split at h
      · rename_i c₂ hc
        split at h
        · rename_i hco
          split at h
          · cases h
            exact ⟨f, _, _, _, _, _, hf, hfo, hc, hco⟩
          · cases h
        · cases h
      · cases h
    · cases h
  · cases h
theorem noTabs_at {K : PySem.W.Frag} {T : Addr} {h : Heap} (hK : PySem.W.noTabs K = true) (KX : K.In h) (eT : h.get? T = some (PySem.W.tabObj #[])) : K.lookup T = none := by
  cases q : K.lookup T with
  | none => rfl
  | some o =>
    have e := KX T o q
    rw [eT] at e
    cases e
    have h2 := List.all_eq_true.mp hK _ (PySem.W.mem_of_lookupK q)
    exact absurd (show false = true from h2) Bool.false_ne_true
theorem walk_ofT {l : PySem.W.OpenLaw} {n k : Nat} {q : Program} {loose : List Str} {XP : (Str → Option Value) → Heap → Prop} {YP : World → Heap → Prop} {d d9 : DefRec} {K : Params → PySem.W.Frag} {sp : World → Addr → Sp} {x x9 : Str}
    (hn : l.most = some n) (hn2 : n ≤ sizeLine) (hdf : d.params.defaults = []) (hr : Room k callerA) (h9 : (recsOf q).find? (fun e => e.name == x9) = some d9)
    (hY : ∀ (w : World) (h : Heap), YP w h → (K w.params).In h)
    (F : ∀ (w : World) (mg : Str → Option Value) (fa : Addr) (h : Heap), (K w.params).In h → h.Ns mainGlobals mg → mg d.name = some (.ref fa) →
      ∃ c T, PySem.W.tabIn (K w.params) x9 = some (c, T) ∧ PySem.W.noTabs (K w.params) = true ∧ ∃ fd : FuncData, (∀ (s : Shared) (u : Value), BindsTo s fd ⟨[u], []⟩ [(x, u)]) ∧
        ∀ base : Heap, (K w.params).In base → base.Ns mainGlobals mg → (∀ f, mg x9 = some (.ref f) → TabK (K w.params) f c T) → FnOk l.prog w (K w.params) mg base CX0 k fa fd [x] (sp w T))
    (hsp : ∀ (w : World) (T : Addr) (H : Hp) (a : Addr) (ns : List Int), ns.length ≤ n → OnlyT T H → SqL (K w.params) H a (ns.map V.int) → sp w T [.ref a] H (fun v _ => v = .bl true) fun _ _ _ => False) :
    PySem.W.WalkO q loose XP YP l.row.toRowW d [] (fun f vs => PySem.call f vs) := by
  refine Att.attach_call hn hdf fun w s₀ s₁ mg mb fa o pm cd doc a vs ns G Y ho hd hcd hmg hobj hints hlen hg => ?_
  have KX := hY w _ Y
  obtain ⟨c, T, ht, hno, fd, hb, hF⟩ := F w mg fa _ KX G.T.g hmg
  obtain ⟨hC, eT⟩ := PySem.W.tab_of G.T KX h9 ht
  obtain ⟨f9, oc, od, fd9, sl, ob, t1, t2, t3, t4⟩ := tabIn_at ht
  have m9 := PySem.W.mg_of KX G.T.g t1
  have Z : ∀ f, mg x9 = some (.ref f) → TabK (K w.params) f c T := fun f hf => by
    rw [m9] at hf
    cases hf
    refine ⟨fun oc' od' fd' osl' e => by rw [t2] at e; cases e; exact t3, fun h kh => ?_⟩
    obtain ⟨o', vs', file, tf, flags, tg, inF, text, tt, e1, r⟩ := hC
    have e2 := KX _ _ t4
    rw [e1] at e2
    cases e2
    exact ⟨_, vs', file, tf, flags, tg, inF, text, tt, kh _ _ t4, r⟩
  exact law_callT KX G.T.g G.T.b G.T.builtins G.T.nolimit G.T.nodigits G.T.bmain hg hC eT (noTabs_at hno KX eT) hobj hints (Nat.le_trans hlen hn2) hr (fun base kb nb => hF base kb nb Z) hb (fun H hO hS => hsp w T H a ns hlen hO hS) fun H e s' z => z
end L2
namespace TB
structure Good (ps : List (Int × Int)) : Prop where
  lo : 1 ≤ ps.length
  hi : ps.length ≤ 5
  each : ∀ (i : Nat) p, ps[i]? = some p → 0 ≤ p.1 ∧ 1 ≤ p.2
  next : ∀ (i : Nat) p q, ps[i]? = some p → ps[i + 1]? = some q → p.1 ≤ q.1 ∧ q.2 % p.2 = 0
def GoneOk (g : Option Int) (last : Int) : Prop := ∀ z, g = some z → last ≤ z
end TB
namespace TB
def cut (d a w : Int) : Int := (d - a) / w * w
def Sized (ps : List (Int × Int)) : Prop := ∀ (i : Nat) p, ps[i]? = some p → 0 ≤ p.1 ∧ p.1 < 10 ^ 45 ∧ 1 ≤ p.2 ∧ p.2 < 10 ^ 45
def rowsOf (ps : List (Int × Int)) (g : Option Int) : List (Int × Int) :=
  ps ++ (match g with
    | none => []
    | some z => [(z, (ps.getLast?.getD (0, 1)).2)])
theorem last_get {ps : List (Int × Int)} {p : Int × Int} (h : ps[ps.length - 1]? = some p) : ps.getLast?.getD (0, 1) = p := by
  rw [List.getLast?_eq_getElem?, h]; rfl
theorem rows_good {ps : List (Int × Int)} {g : Option Int} (G : Good ps) (hg : ∀ p, ps[ps.length - 1]? = some p → GoneOk g p.1) :
    (∀ (i : Nat) p, (rowsOf ps g)[i]? = some p → 0 ≤ p.1 ∧ 1 ≤ p.2) ∧ ∀ (i : Nat) p q, (rowsOf ps g)[i]? = some p → (rowsOf ps g)[i + 1]? = some q → p.1 ≤ q.1 ∧ q.2 % p.2 = 0 := by
  have hl := G.lo
  obtain ⟨p0, hp0⟩ : ∃ p, ps[ps.length - 1]? = some p := ⟨ps[ps.length - 1]'(by omega), List.getElem?_eq_getElem _⟩
  have e0 := last_get hp0
  cases g with
  | none =>
    have e : rowsOf ps none = ps := by simp [rowsOf]
    rw [e]
    exact ⟨G.each, G.next⟩
  | some z =>
    have e : rowsOf ps (some z) = ps ++ [(z, p0.2)] := by simp only [rowsOf]; rw [e0]
    have hz := hg p0 hp0 z rfl
    have h0 := G.each _ _ hp0
    rw [e]
    refine ⟨fun i p h => ?_, fun i p q h h' => ?_⟩
    · by_cases hi : i < ps.length
      · rw [List.getElem?_append_left hi] at h
        exact G.each i p h
      · rw [List.getElem?_append_right (by omega)] at h
        have : i - ps.length = 0 := by
          have := (List.getElem?_eq_some_iff.mp h).1
          simp at this; omega
        rw [this] at h
        simp at h
        subst h
        exact ⟨by show 0 ≤ z; omega, h0.2⟩
    · by_cases hi : i + 1 < ps.length
      · rw [List.getElem?_append_left hi] at h'
        rw [List.getElem?_append_left (by omega)] at h
        exact G.next i p q h h'
      · have h1 := (List.getElem?_eq_some_iff.mp h').1
        simp at h1
        have hi' : i = ps.length - 1 := by omega
        rw [List.getElem?_append_right (by omega)] at h'
        rw [List.getElem?_append_left (by omega), hi', hp0] at h
        rw [show i + 1 - ps.length = 0 by omega] at h'
        simp at h'
        cases h
        subst h'
        exact ⟨hz, Int.emod_self⟩
end TB
namespace TB
end TB
namespace TB
open PySem L2
def PairAt (H : Hp) (v : V) (p : Int × Int) : Prop := ∃ a, v = .ref a ∧ H a = some (.tup [.int p.1, .int p.2])
def Pairs (H : Hp) (xs : List V) (ps : List (Int × Int)) : Prop := Paired (PairAt H) xs ps
theorem PairAt.same {H H' : Hp} (s : Same H H') {v : V} {p : Int × Int} : PairAt H v p → PairAt H' v p := fun ⟨a, e, h⟩ => ⟨a, e, s _ _ h⟩
def TupS (H H' : Hp) : Prop := ∀ b xs, H b = some (.tup xs) → H' b = some (.tup xs)
theorem Same.tup {H H' : Hp} (s : Same H H') : TupS H H' := fun b xs h => s b _ h
theorem TupS.refl (H : Hp) : TupS H H := fun _ _ h => h
theorem TupS.trans {H H1 H2 : Hp} (a : TupS H H1) (b : TupS H1 H2) : TupS H H2 := fun c o h => b c o (a c o h)
theorem PairAt.tupS {H H' : Hp} (s : TupS H H') {v : V} {p : Int × Int} : PairAt H v p → PairAt H' v p := fun ⟨a, e, h⟩ => ⟨a, e, s _ _ h⟩
theorem Pairs.tupS {H H' : Hp} (s : TupS H H') : ∀ {xs : List V} {ps : List (Int × Int)}, Pairs H xs ps → Pairs H' xs ps
  | _, _, .nil => .nil
  | _, _, .cons r t => .cons (r.tupS s) (Pairs.tupS s t)
theorem Pairs.same {H H' : Hp} (s : Same H H') {xs : List V} {ps : List (Int × Int)} (h : Pairs H xs ps) : Pairs H' xs ps := Pairs.tupS (Same.tup s) h
theorem Pairs.length {H : Hp} : ∀ {xs : List V} {ps : List (Int × Int)}, Pairs H xs ps → xs.length = ps.length
  | _, _, .nil => rfl
  | _, _, .cons _ t => by simp [Pairs.length t]
theorem Pairs.get {H : Hp} : ∀ {xs : List V} {ps : List (Int × Int)} {i : Nat} {x : V}, Pairs H xs ps → xs[i]? = some x → ∃ p, ps[i]? = some p ∧ PairAt H x p
  | _, _, _, _, .nil, e => by simp at e
  | _, _, 0, _, .cons r _, e => by simp at e; subst e; exact ⟨_, rfl, r⟩
  | _, _, i + 1, x, .cons _ t, e => by
    obtain ⟨u, h1, h2⟩ := Pairs.get (i := i) (x := x) t (by simpa using e)
    exact ⟨u, by simpa using h1, h2⟩
theorem Pairs.snoc {H : Hp} {v : V} {p : Int × Int} (r : PairAt H v p) : ∀ {xs : List V} {ps : List (Int × Int)}, Pairs H xs ps → Pairs H (xs ++ [v]) (ps ++ [p])
  | _, _, .nil => .cons r .nil
  | _, _, .cons q t => .cons q (Pairs.snoc r t)
def gv : Option Int → V
  | none => .non
  | some i => .int i
def rf (l : Addr) (g : V) : List (Str × V) := putF "gone_age" g (putF "kept_steps" (.ref l) [])
structure RuleAt (C : Addr) (H : Hp) (r l : Addr) (ps : List (Int × Int)) (g : Option Int) : Prop where
  ob : ∃ dx, H r = some (.ins C dx (rf l (gv g)))
  ls : ∃ xs, H l = some (.lst xs) ∧ Pairs H xs ps
theorem RuleAt.same {C : Addr} {H H' : Hp} {r l : Addr} {ps : List (Int × Int)} {g : Option Int} (s : Same H H') (h : RuleAt C H r l ps g) : RuleAt C H' r l ps g :=
  ⟨let ⟨dx, e⟩ := h.ob; ⟨dx, s _ _ e⟩, let ⟨xs, e, p⟩ := h.ls; ⟨xs, s _ _ e, p.same s⟩⟩
theorem atI_m1 {xs : List V} {v : V} (h : xs[xs.length - 1]? = some v) : atI xs (-1) = some v := by
  have hl : xs.length - 1 < xs.length := (List.getElem?_eq_some_iff.mp h).1
  have e : ixN xs.length (-1) = some (xs.length - 1) := by
    unfold ixN
    rw [if_neg (by decide), if_pos (by omega)]
    congr 1; omega
  unfold atI
  rw [e]; exact h
def sp_law (K : PySem.W.Frag) : Sp := fun vs H Q _ => ∃ (a : Addr) (ns : List Int), vs = [.ref a] ∧ SqL K H a (ns.map V.int) ∧ ns.length ≤ 63 ∧ ∀ H', Q (.bl true) H'
end TB
namespace TB
open PySem L2
theorem New.after {H H1 H2 : Hp} {p : Addr} {o : HO} (s : Same H H1) (n : New H1 H2 p o) : New H H2 p o := ⟨s.trans n.same, s.free n.fresh, n.at_⟩
def lw (ps : List (Int × Int)) : Int := (ps.getLast?.getD (0, 1)).2
def GBd (g : Option Int) : Prop := ∀ z, g = some z → 0 ≤ z ∧ z < 10 ^ 45
structure Pr (ps : List (Int × Int)) (g : Option Int) : Prop where
  good : Good ps
  size : Sized ps
  gone : ∀ p, ps[ps.length - 1]? = some p → GoneOk g p.1
  gb : GBd g
theorem Pr.last {ps : List (Int × Int)} {g : Option Int} (P : Pr ps g) : ∃ p, ps[ps.length - 1]? = some p ∧ lw ps = p.2 := by
  have hl := P.good.lo
  refine ⟨ps[ps.length - 1]'(by omega), List.getElem?_eq_getElem _, ?_⟩
  unfold lw
  rw [last_get (List.getElem?_eq_getElem _)]
theorem RuleAt.but {C : Addr} {H H' : Hp} {r l m : Addr} {o : HO} {ps : List (Int × Int)} {g : Option Int} (h : RuleAt C H r l ps g) (b : But m H H') (hm : H m = some o) (nt : ∀ xs, o ≠ .tup xs) (n1 : r ≠ m) (n2 : l ≠ m) : RuleAt C H' r l ps g :=
  ⟨let ⟨dx, e⟩ := h.ob; ⟨dx, b _ _ e n1⟩, let ⟨xs, e, p⟩ := h.ls; ⟨xs, b _ _ e n2, p.tupS (b.tup hm nt)⟩⟩
theorem Pairs.but {H H' : Hp} {m : Addr} {o : HO} {xs : List V} {ps : List (Int × Int)} (h : Pairs H xs ps) (b : But m H H') (hm : H m = some o) (nt : ∀ xs, o ≠ .tup xs) : Pairs H' xs ps := h.tupS (b.tup hm nt)
def dV : V → PyData
  | .int i => .int i
  | _ => .none
def Ed (v : V) : Prop := v = .non ∨ ∃ i, v = .int i
theorem mapN {α β : Type} (f : α → β) (xs : List α) (i : Nat) (x : α) (h : xs[i]? = some x) : (xs.take (i + 1)).map f = (xs.take i).map f ++ [f x] := by
  rw [List.take_succ, h]
  simp
end TB
namespace TB
open PySem L2
end TB
namespace TB
def mc (p e : Int × Int) : Int := (e.1 - p.1 + e.2 - 1) / p.2
def endsOf (ps : List (Int × Int)) (z : Int) : List (Int × Int) := ps.drop 1 ++ [(z, (ps.getLast?.getD (0, 1)).2)]
theorem ends_len {ps : List (Int × Int)} {z : Int} (h : 1 ≤ ps.length) : (endsOf ps z).length = ps.length := by unfold endsOf; simp; omega
theorem ends_get {ps : List (Int × Int)} {z : Int} {k : Nat} (h : k < ps.length) : (endsOf ps z)[k]? = (rowsOf ps (some z))[k + 1]? := by
  unfold endsOf rowsOf
  by_cases hk : k + 1 < ps.length
  · rw [List.getElem?_append_left (by simp; omega), List.getElem?_append_left hk, List.getElem?_drop, Nat.add_comm]
  · rw [List.getElem?_append_right (by simp; omega), List.getElem?_append_right (by omega)]
    have e1 : k - (ps.drop 1).length = 0 := by simp; omega
    have e2 : k + 1 - ps.length = 0 := by omega
    rw [e1, e2]
end TB
namespace TB
open PySem L2
theorem gname_ {i : Nat} {v : V} {σ : St} {H : Hp} {K : St → Hp → Prop} (h : K (σ.set i (some v)) H) : gName i v σ H K := h
theorem Pairs.drop {H : Hp} {xs : List V} {ps : List (Int × Int)} (h : Pairs H xs ps) (n : Nat) : Pairs H (xs.drop n) (ps.drop n) := by
  induction n generalizing xs ps with
  | zero => exact h
  | succ n ih =>
    cases h with
    | nil => exact .nil
    | cons r t => exact ih t
theorem lc_rangeN {lo : Int} {n : Nat} {g : TG} {tc : TT} {te : TE} {Q : VK} {σ : St} {H : Hp} (Pv : Nat → List V → Hp → Prop) (hz : n ≤ sizeLine) (h0 : Pv 0 [] H) (hl : ∀ i ys H, Pv i ys H → ys.length ≤ i)
    (hs : ∀ i ys H, i < n → Pv i ys H → g (.int (lo + i)) σ H fun σ4 H4 => tc σ4 H4 fun b H5 => if b = true then te σ4 H5 fun v H6 => Pv (i + 1) (ys ++ [v]) H6 else Pv (i + 1) ys H5)
    (hd : ∀ ys H p H', Pv n ys H → New H H' p (.lst ys) → Q (.ref p) H') : lcGoal (Itr lo n) Q g tc te σ H :=
  lc_range Pv hz h0 hl hs fun ys H p p' hp => hd ys H p _ p' (new_upd hp)
end TB
namespace TB
open PySem L2
theorem Pr.pair {ps : List (Int × Int)} {z : Int} (P : Pr ps (some z)) {k : Nat} (hk : k < ps.length) : ∃ p e, ps[k]? = some p ∧ (endsOf ps z)[k]? = some e ∧ (rowsOf ps (some z))[k]? = some p ∧ (rowsOf ps (some z))[k + 1]? = some e ∧ 1 ≤ p.2 ∧ p.2 < 10 ^ 45 ∧ 1 ≤ e.2 ∧ e.2 % p.2 = 0 := by
  have hl := P.good.lo
  obtain ⟨r1, r2⟩ := rows_good P.good P.gone
  have h1 : ps[k]? = some ps[k] := List.getElem?_eq_getElem hk
  have h2 : (rowsOf ps (some z))[k]? = some ps[k] := by
    unfold rowsOf
    rw [List.getElem?_append_left hk]; exact h1
  have hlen : k < (endsOf ps z).length := by rw [ends_len hl]; exact hk
  have h3 : (endsOf ps z)[k]? = some (endsOf ps z)[k] := List.getElem?_eq_getElem hlen
  have h4 := (ends_get (z := z) hk).symm.trans h3
  have h5 := P.size k _ h1
  obtain ⟨h6, h7⟩ := r2 k _ _ h2 h4
  exact ⟨_, _, h1, h3, h2, h4, h5.2.2.1, h5.2.2.2, (r1 _ _ h4).2, h7⟩
end TB
namespace TB
open PySem L2
def EdL (xs : List V) : Prop := ∃ (ns : List Int) (g : Option Int), xs = ns.map V.int ++ [gv g] ∧ 1 ≤ ns.length ∧ ns.length ≤ 5
theorem gv_ed (g : Option Int) : Ed (gv g) := by cases g with
  | none => exact .inl rfl
  | some z => exact .inr ⟨z, rfl⟩
theorem EdL.ed {xs : List V} (h : EdL xs) : ∀ v ∈ xs, Ed v := by
  obtain ⟨ns, g, rfl, _, _⟩ := h
  intro v hv
  rcases List.mem_append.mp hv with z | z
  · obtain ⟨i, _, e⟩ := List.mem_map.mp z; exact .inr ⟨i, e.symm⟩
  · rw [List.mem_singleton.mp z]; exact gv_ed g
theorem EdL.len {xs : List V} (h : EdL xs) : 2 ≤ xs.length ∧ xs.length ≤ 6 := by
  obtain ⟨ns, g, rfl, h1, h2⟩ := h
  simp only [List.length_append, List.length_map, List.length_singleton]; omega
end TB
namespace TX
def dg (m : Nat) : List Nat := (Nat.toDigits 10 m).map Char.toNat
def sg (n : Int) : List Nat := (toString n).toList.map Char.toNat
def valD (l : List Nat) : Nat := l.foldl (fun a c => a * 10 + (c - 48)) 0
theorem digit_back : ∀ d : Nat, d < 10 → (Nat.digitChar d).toNat - 48 = d := by decide
theorem digit_in : ∀ d : Nat, d < 10 → 48 ≤ (Nat.digitChar d).toNat ∧ (Nat.digitChar d).toNat ≤ 57 := by decide
theorem dg_small {m : Nat} (h : m < 10) : dg m = [(Nat.digitChar m).toNat] := by
  unfold dg; rw [Nat.toDigits_of_lt_base h]; rfl
theorem dg_big {m : Nat} (h : ¬ m < 10) : dg m = dg (m / 10) ++ [(Nat.digitChar (m % 10)).toNat] := by
  have hm : m % 10 < 10 := Nat.mod_lt m (by decide)
  have t : Nat.toDigits 10 (m / 10) ++ Nat.toDigits 10 (m % 10) = Nat.toDigits 10 (10 * (m / 10) + m % 10) := Nat.toDigits_append_toDigits (by decide) (by omega) hm
  rw [Nat.div_add_mod] at t
  unfold dg
  rw [← t, List.map_append, Nat.toDigits_of_lt_base hm]
  rfl
theorem valD_snoc (l : List Nat) (c : Nat) : valD (l ++ [c]) = valD l * 10 + (c - 48) := by
  unfold valD; rw [List.foldl_append]; rfl
theorem val_dg (m : Nat) : valD (dg m) = m := by
  induction m using Nat.strongRecOn with
  | _ m ih =>
    by_cases h : m < 10
    · rw [dg_small h]
      have := digit_back m h
      show 0 * 10 + ((Nat.digitChar m).toNat - 48) = m
      omega
    · rw [dg_big h, valD_snoc, ih (m / 10) (by omega), digit_back (m % 10) (by omega)]
      omega
theorem dg_inj {a b : Nat} (h : dg a = dg b) : a = b := by rw [← val_dg a, h, val_dg]
theorem dg_in {m c : Nat} (h : c ∈ dg m) : 48 ≤ c ∧ c ≤ 57 := by
  induction m using Nat.strongRecOn with
  | _ m ih =>
    by_cases hm : m < 10
    · rw [dg_small hm] at h
      rw [List.mem_singleton.mp h]
      exact digit_in m hm
    · rw [dg_big hm] at h
      rcases List.mem_append.mp h with h | h
      · exact ih (m / 10) (by omega) h
      · rw [List.mem_singleton.mp h]
        exact digit_in _ (by omega)
theorem dg_len {k : Nat} : ∀ {m : Nat}, 1 ≤ k → m < 10 ^ k → (dg m).length ≤ k := by
  induction k with
  | zero => intro m h; omega
  | succ k ih =>
    intro m _ hm
    by_cases h : m < 10
    · rw [dg_small h]; simp
    · rw [dg_big h]
      have hk : 1 ≤ k := by
        rcases Nat.eq_zero_or_pos k with z | z
        · subst z; simp at hm; omega
        · exact z
      have := ih hk (m := m / 10) (by rw [Nat.pow_succ] at hm; omega)
      simp
      exact this
theorem sg_nat (m : Nat) : sg (m : Int) = dg m := by
  show (Nat.repr m).toList.map Char.toNat = _
  rw [Nat.toList_repr]
  rfl
theorem sg_neg (m : Nat) : sg (Int.negSucc m) = 45 :: dg (m + 1) := by
  show (("-" : String) ++ Nat.repr (m + 1)).toList.map Char.toNat = _
  rw [String.toList_append, List.map_append, Nat.toList_repr]
  rfl
theorem sg_inj {a b : Int} (h : sg a = sg b) : a = b := by
  have n45 : ∀ m t, dg m ≠ 45 :: t := fun m t e => by
    have := dg_in (m := m) (c := 45) (by rw [e]; simp)
    omega
  cases a with
  | ofNat a =>
    cases b with
    | ofNat b => exact congrArg Int.ofNat (dg_inj ((sg_nat a).symm.trans (h.trans (sg_nat b))))
    | negSucc b => exact absurd ((sg_nat a).symm.trans (h.trans (sg_neg b))) (n45 _ _)
  | negSucc a =>
    cases b with
    | ofNat b => exact absurd ((sg_nat b).symm.trans (h.symm.trans (sg_neg a))) (n45 _ _)
    | negSucc b =>
      have e := (sg_neg a).symm.trans (h.trans (sg_neg b))
      have := dg_inj (List.cons.inj e).2
      rw [Nat.succ.inj this]
theorem sg_in {n : Int} {c : Nat} (h : c ∈ sg n) : c = 45 ∨ (48 ≤ c ∧ c ≤ 57) := by
  cases n with
  | ofNat m => exact .inr (dg_in (m := m) (by rw [← sg_nat]; exact h))
  | negSucc m =>
    rw [sg_neg] at h
    rcases List.mem_cons.mp h with z | z
    · exact .inl z
    · exact .inr (dg_in z)
theorem sg_len {n : Int} {k : Nat} (hk : 1 ≤ k) (h : n.natAbs < 10 ^ k) : (sg n).length ≤ k + 1 := by
  cases n with
  | ofNat m =>
    have := dg_len (m := m) hk h
    rw [show sg (Int.ofNat m) = dg m from sg_nat m]
    omega
  | negSucc m =>
    have := dg_len (m := m + 1) hk h
    rw [sg_neg]
    simp
    exact this
theorem mark_inj {a b c d : List Nat} {x : Nat} (ha : x ∉ a) (hc : x ∉ c) (h : a ++ x :: b = c ++ x :: d) : a = c ∧ b = d := by
  induction a generalizing c with
  | nil =>
    cases c with
    | nil => exact ⟨rfl, (List.cons.inj h).2⟩
    | cons y c =>
      have := (List.cons.inj h).1
      exact absurd (by rw [this]; simp) hc
  | cons y a ih =>
    cases c with
    | nil =>
      have := (List.cons.inj h).1
      exact absurd (by rw [← this]; simp) ha
    | cons z c =>
      obtain ⟨e1, e2⟩ := List.cons.inj h
      obtain ⟨e3, e4⟩ := ih (fun q => ha (List.mem_cons_of_mem _ q)) (fun q => hc (List.mem_cons_of_mem _ q)) e2
      exact ⟨by rw [e1, e3], e4⟩
def figs (x : List Nat) : List Nat := if x.take 1 = [45] then x.drop 1 else x
def IsDig (c : Nat) : Prop := 48 ≤ c ∧ c ≤ 57
instance (c : Nat) : Decidable (IsDig c) := inferInstanceAs (Decidable (_ ∧ _))
def Good (x : List Nat) : Prop := figs x ≠ [] ∧ (figs x).length ≤ 1000 ∧ ¬ ((figs x).head? = some 48 ∧ x ≠ [48]) ∧ ∀ c ∈ figs x, IsDig c
instance (x : List Nat) : Decidable (Good x) := inferInstanceAs (Decidable (_ ∧ _ ∧ _ ∧ _))
end TX
namespace TX
open L2
theorem split_no {c : Nat} : ∀ {x : List Nat}, c ∉ x → splitL c x = [x]
  | [], _ => rfl
  | a :: l, h => by
    have ha : a ≠ c := fun z => h (by rw [z]; simp)
    have ih := split_no (c := c) (x := l) fun z => h (List.mem_cons_of_mem _ z)
    rw [show splitL c (a :: l) = (if a = c then [] :: splitL c l else match splitL c l with | [] => [[a]] | p :: ps => (a :: p) :: ps) from rfl, if_neg ha, ih]
theorem split_cat (c : Nat) (y : List Nat) : ∀ x : List Nat, splitL c (x ++ c :: y) = splitL c x ++ splitL c y
  | [] => by
    rw [List.nil_append, show splitL c (c :: y) = (if c = c then [] :: splitL c y else match splitL c y with | [] => [[c]] | p :: ps => (c :: p) :: ps) from rfl, if_pos rfl]
    rfl
  | a :: l => by
    have ih := split_cat c y l
    rw [List.cons_append, show splitL c (a :: (l ++ c :: y)) = (if a = c then [] :: splitL c (l ++ c :: y) else match splitL c (l ++ c :: y) with | [] => [[a]] | p :: ps => (a :: p) :: ps) from rfl, ih]
    rw [show splitL c (a :: l) = (if a = c then [] :: splitL c l else match splitL c l with | [] => [[a]] | p :: ps => (a :: p) :: ps) from rfl]
    by_cases h : a = c
    · rw [if_pos h, if_pos h]; rfl
    · rw [if_neg h, if_neg h]
      cases hs : splitL c l with
      | nil => exact absurd hs (splitL_ne c l)
      | cons p ps => rfl
theorem split_join {c : Nat} : ∀ {ws : List (List Nat)}, ws ≠ [] → (∀ w ∈ ws, c ∉ w) → splitL c (joinL [c] ws) = ws
  | [], h, _ => absurd rfl h
  | [w], _, h => split_no (h w (by simp))
  | w :: v :: ws, _, h => by
    have ih := split_join (c := c) (ws := v :: ws) (by simp) fun u hu => h u (List.mem_cons_of_mem _ hu)
    have e : joinL [c] (w :: v :: ws) = w ++ c :: joinL [c] (v :: ws) := by
      show w ++ [c] ++ joinL [c] (v :: ws) = _
      simp
    rw [e, split_cat, ih, split_no (h w (by simp))]
    rfl
end TX
namespace TB
open PySem L2 TX
def BN (n : Int) : Prop := n.natAbs < 10 ^ 2000
theorem BN.all {n : Int} (h : BN n) : n.natAbs < 10 ^ 4300 := Nat.lt_of_lt_of_le h (Nat.pow_le_pow_right (by decide) (by decide))
theorem BN.of {n : Int} (h1 : -(10 ^ 200) < n) (h2 : n < 10 ^ 200) : BN n := Nat.lt_of_lt_of_le (show n.natAbs < 10 ^ 200 by omega) (Nat.pow_le_pow_right (by decide) (by decide))
theorem sg_len0 {n : Int} (h : BN n) : (sg n).length ≤ 2001 := sg_len (by decide) h
def OddV (H : Hp) (v : V) : Prop := v = .non ∨ (∃ i, v = .int i) ∨ (∃ b, v = .bl b) ∨ (∃ p xs, v = .ref p ∧ H p = some (.tup xs)) ∨ ∃ p xs, v = .ref p ∧ H p = some (.lst xs)
def TextV (H : Hp) (v : V) : Prop := (∃ x, v = .str (S x) ∧ x.length ≤ 3000) ∨ OddV H v
theorem TextV.same {H H' : Hp} {v : V} (h : TextV H v) (s : Same H H') : TextV H' v := by
  rcases h with h | h | h | h | ⟨p, xs, e, h⟩ | ⟨p, xs, e, h⟩
  · exact .inl h
  · exact .inr (.inl h)
  · exact .inr (.inr (.inl h))
  · exact .inr (.inr (.inr (.inl h)))
  · exact .inr (.inr (.inr (.inr (.inl ⟨p, xs, e, s _ _ h⟩))))
  · exact .inr (.inr (.inr (.inr (.inr ⟨p, xs, e, s _ _ h⟩))))
theorem OddV.ty {K : PySem.W.Frag} {H : Hp} {v : V} (h : OddV H v) : ∃ t, TyOf K H v t ∧ PySem.W.kitOne K t (.type "str") = some false := by
  rcases h with rfl | ⟨i, rfl⟩ | ⟨b, rfl⟩ | ⟨p, xs, rfl, h⟩ | ⟨p, xs, rfl, h⟩
  · exact ⟨_, .non, rfl⟩
  · exact ⟨_, .int _, rfl⟩
  · exact ⟨_, .bl _, rfl⟩
  · exact ⟨_, .tup h, rfl⟩
  · exact ⟨_, .lst h, rfl⟩
def frT (a b : Int) : List Nat := if b = 1 then sg a else sg a ++ 47 :: sg b
theorem no47 (a : Int) : 47 ∉ sg a := fun h => by have := sg_in h; omega
theorem frT_inj {a b c d : Int} (h : frT a b = frT c d) : a = c ∧ b = d := by
  unfold frT at h
  by_cases hb : b = 1
  · rw [if_pos hb] at h
    by_cases hd : d = 1
    · rw [if_pos hd] at h
      exact ⟨sg_inj h, by rw [hb, hd]⟩
    · rw [if_neg hd] at h
      exact absurd (by rw [h]; simp) (no47 a)
  · rw [if_neg hb] at h
    by_cases hd : d = 1
    · rw [if_pos hd] at h
      exact absurd (by rw [← h]; simp) (no47 c)
    · rw [if_neg hd] at h
      obtain ⟨e1, e2⟩ := mark_inj (no47 a) (no47 c) h
      exact ⟨sg_inj e1, sg_inj e2⟩
theorem frT_len {a b : Int} (ha : BN a) (hb : BN b) : (frT a b).length ≤ 5000 := by
  have h1 := sg_len0 ha
  have h2 := sg_len0 hb
  unfold frT
  split
  · omega
  · rw [List.length_append, List.length_cons]; omega
def EndT (H : Hp) (w : Str) (v : V) (t : List Nat) : Prop :=
  (w = "mean" ∧ ∃ p a b, v = .ref p ∧ H p = some (.tup [.int a, .int b]) ∧ BN a ∧ BN b ∧ t = frT a b) ∨ (w ≠ "mean" ∧ ∃ n, v = .int n ∧ BN n ∧ t = sg n)
theorem EndT.len {H : Hp} {w : Str} {v : V} {t : List Nat} (h : EndT H w v t) : t.length ≤ 5000 := by
  rcases h with ⟨_, p, a, b, _, _, h1, h2, rfl⟩ | ⟨_, n, _, h1, rfl⟩
  · exact frT_len h1 h2
  · have := sg_len0 h1; omega
theorem EndT.eq {K : PySem.W.Frag} {H : Hp} {w : Str} {v u : V} {s t : List Nat} (h : EndT H w v s) (k : EndT H w u t) :
    ∃ d e, Rep K H v d ∧ Rep K H u e ∧ d.canLay0 = true ∧ e.canLay0 = true ∧ d.depth ≤ 20 ∧ PyData.eqv d e = decide (s = t) := by
  rcases h with ⟨hw, p, a, b, rfl, h0, h1, h2, rfl⟩ | ⟨hw, n, rfl, h1, rfl⟩
  · rcases k with ⟨_, q, c, d, rfl, k0, k1, k2, rfl⟩ | ⟨kw, _⟩
    · refine ⟨_, _, .tup (SqT.of h0) (.cons (.int a) (.cons (.int b) .nil)), .tup (SqT.of k0) (.cons (.int c) (.cons (.int d) .nil)), by simp [PyData.canLay0, PyData.canLayAll0], by simp [PyData.canLay0, PyData.canLayAll0], by simp [PyData.depth, PyData.depthAll], ?_⟩
      have e : (frT a b = frT c d) ↔ (a = c ∧ b = d) := ⟨frT_inj, fun ⟨x, y⟩ => by rw [x, y]⟩
      rw [Bool.eq_iff_iff, decide_eq_true_iff, e]
      simp [PyData.eqv, PyData.eqvAll]
    · exact absurd hw kw
  · rcases k with ⟨kw, _⟩ | ⟨_, m, rfl, k1, rfl⟩
    · exact absurd kw hw
    · refine ⟨_, _, .int n, .int m, rfl, rfl, by simp [PyData.depth], ?_⟩
      have e : (sg n = sg m) ↔ n = m := ⟨sg_inj, fun x => by rw [x]⟩
      rw [Bool.eq_iff_iff, decide_eq_true_iff, e]
      simp [PyData.eqv]
end TB
namespace TB
open PySem L2 TX
def Figs (x : List Nat) : Prop := 1 ≤ x.length ∧ x.length ≤ 1000 ∧ (x = [48] ∨ (x.head? ≠ some 48 ∧ ∀ c ∈ x, IsDig c))
instance (x : List Nat) : Decidable (Figs x) := inferInstanceAs (Decidable (_ ∧ _ ∧ _))
end TB
local macro_rules | `(tactic| walk_at "same") => `(tactic| first | exact L2.Same.refl _ | assumption | exact L2.New.same (by assumption) | (refine L2.same_by ?_ (by assumption); walk_at "same") | (refine L2.Same.trans ?_ (by assumption); walk_at "same"))
local macro_rules | `(tactic| walk_at "fact") => `(tactic| first | assumption | exact L2.New.at_ (by assumption) | (refine L2.up_new (by assumption) ?_; walk_at "fact") | (refine L2.up_same (by assumption) ?_; walk_at "fact"))
local macro_rules | `(tactic| walk_at "sq") => `(tactic| first | assumption | exact L2.SqL.of (by walk_at "fact") | exact L2.SqT.of (by walk_at "fact") | exact Or.inl (L2.SqL.of (by walk_at "fact")) | exact Or.inr (L2.SqT.of (by walk_at "fact")) | exact Or.inl (by assumption) | walk_at "fact")
local macro_rules | `(tactic| walk_at "c") => `(tactic| first
  | ((with_reducible show _ ≤ PySem.sizeLine); first | exact Nat.le_of_lt (L2.small1000 (Nat.le_of_ble_eq_true rfl)) | exact Nat.le_of_lt (L2.small1000 (by omega)) | exact Nat.le_of_lt (L2.small1000 (by simp only [List.length_map, List.length_append, List.length_cons, List.length_nil]; omega)))
  | ((with_reducible show _ < PySem.sizeLine); first | exact L2.small1000 (by omega) | exact L2.small1000 (by simp only [List.length_map, List.length_append, List.length_cons, List.length_nil]; omega))
  | decide | omega | (dsimp only; first | decide | omega) | (simp only [List.length_map, List.length_append, List.length_cons, List.length_nil]; omega)
  | ((with_reducible refine And.intro ?_ ?_) <;> walk_at "c")
  | (refine And.intro ?_ ?_ <;> walk_at "c") | (refine Or.inl ?_; walk_at "c") | (refine Or.inr ?_; walk_at "c"))
local macro_rules | `(tactic| walk_at "at") => `(tactic| first | rfl | assumption | exact L2.atI_nat (by assumption) | exact TB.atI_m1 (by assumption))
local macro_rules | `(tactic| walk_at "ty") => `(tactic| first | exact L2.TyOf.int _ | exact L2.TyOf.bl _ | exact L2.TyOf.non | exact L2.TyOf.str _ | exact L2.TyOf.lst (by walk_at "fact") | exact L2.TyOf.tup (by walk_at "fact"))
local macro_rules | `(tactic| walk_at "kit") => `(tactic| first | exact L2.kit_int_int _ | exact L2.kit_int_bool _ | exact L2.kit_list _ | exact L2.kit_tuple _ | rfl)
local macro_rules | `(tactic| walk_at "r1") => `(tactic| first
  | refine L2.tVarS.mk _ rfl ?_
  | refine L2.rI0S.mk _ _ rfl rfl ?_
  | refine L2.rIxLS.mk _ _ _ _ rfl rfl (by walk_at "sq") (by walk_at "at") ?_
  | refine L2.rIxTS.mk _ _ _ _ rfl rfl (by walk_at "sq") (by walk_at "at") ?_
  | refine L2.rIS.mk _ _ rfl rfl (by walk_at "c") ?_
  | refine L2.tBS.mk _ rfl ?_
  | refine L2.tAndVS.mk _ rfl ?_
  | refine L2.tOrVS.mk _ rfl ?_
  | refine L2.tNotVS.mk _ rfl ?_
  | refine L2.rUS.mk _ rfl ?_
  | refine L2.tPartS.mk _ rfl ?_
  | refine L2.rSlLNS.mk _ _ rfl (by walk_at "sq") ?_
  | refine L2.rAppendNS.mk _ _ _ rfl rfl (by walk_at "fact") (by walk_at "c") ?_
  | refine Exists.intro _ (And.intro rfl ?_)
  | refine Exists.intro _ (Exists.intro _ (And.intro rfl (And.intro rfl ?_)))
  | refine And.intro rfl ?_
  | refine Exists.intro _ (Exists.intro _ (And.intro rfl (And.intro (by walk_at "sq") ?_)))
  | refine Exists.intro _ (Exists.intro _ (Exists.intro _ (Exists.intro _ (And.intro rfl (And.intro rfl (And.intro (by walk_at "sq") (And.intro (by walk_at "at") ?_)))))))
  | refine And.intro (Or.inl ⟨rfl, _, L2.SqL.of (by walk_at "fact")⟩) ?_
  | refine Exists.intro _ (Exists.intro _ (Exists.intro _ (And.intro rfl (And.intro rfl (And.intro (by walk_at "fact") (And.intro (by walk_at "c") ?_))))))
  | refine Exists.intro _ (Exists.intro _ (Exists.intro _ (Exists.intro _ (And.intro rfl (And.intro (by walk_at "ty") (And.intro (by walk_at "kit") ?_))))))
  | refine Exists.intro _ (Exists.intro _ (And.intro rfl ?_))
  | refine And.intro (by walk_at "c") ?_
  | refine L2.iteT ?_
  | refine L2.iteF ?_)
local macro_rules | `(tactic| walk_at "r") => `(tactic| (walk_at "r1"; repeat walk_at "r1"))
namespace TB
open PySem L2
def top (i : Nat) : Stmt := PySem.Challenge.pw_thinbook_k62_sieves.main.body.getD i (.Pass ⟨0, 0, 0, 0⟩)
abbrev s_is_small_word : Stmt := (top 7)
abbrev s_is_mark : Stmt := (top 8)
abbrev s_words_of : Stmt := (top 9)
abbrev s_is_barring : Stmt := (top 10)
abbrev s_sieve : Stmt := (top 11)
abbrev s__law_cell_at : Stmt := (top 13)
abbrev s__law_mixed : Stmt := (top 14)
abbrev s__law_mark : Stmt := (top 16)
abbrev s__law_words : Stmt := (top 17)
abbrev s__law_spoilt : Stmt := (top 18)
abbrev s__law_parted : Stmt := (top 19)
abbrev s__law_refused : Stmt := (top 20)
abbrev s__law_marks : Stmt := (top 21)
abbrev s__law_same : Stmt := (top 22)
abbrev s__law_due : Stmt := (top 23)
abbrev s_law : Stmt := (top 24)
theorem sc_is_small_word : FnScope ["thing", "longest"] ["thing", "longest"] (defScope s_is_small_word) := ⟨rfl, rfl, rfl, by decide +kernel, rfl, by decide +kernel, by decide +kernel⟩
theorem sc_is_mark : FnScope ["thing"] ["thing"] (defScope s_is_mark) := ⟨rfl, rfl, rfl, by decide +kernel, rfl, by decide +kernel, by decide +kernel⟩
theorem sc_words_of : FnScope ["text"] ["text"] (defScope s_words_of) := ⟨rfl, rfl, rfl, by decide +kernel, rfl, by decide +kernel, by decide +kernel⟩
theorem sc_is_barring : FnScope ["word"] ["word"] (defScope s_is_barring) := ⟨rfl, rfl, rfl, by decide +kernel, rfl, by decide +kernel, by decide +kernel⟩
theorem sc_sieve : FnScope ["text", "words", "wanted", "barred", "lets"] ["text"] (defScope s_sieve) := ⟨rfl, rfl, rfl, by decide +kernel, rfl, by decide +kernel, by decide +kernel⟩
theorem sc__law_cell_at : FnScope ["_law_script", "_law_k"] ["_law_script", "_law_k"] (defScope s__law_cell_at) := ⟨rfl, rfl, rfl, by decide +kernel, rfl, by decide +kernel, by decide +kernel⟩
theorem sc__law_mixed : FnScope ["_law_draw", "_law_k", "_law_number"] ["_law_draw", "_law_k"] (defScope s__law_mixed) := ⟨rfl, rfl, rfl, by decide +kernel, rfl, by decide +kernel, by decide +kernel⟩
theorem sc__law_mark : FnScope ["_law_draw", "_law_k", "_law_some", "_law_length", "_law_body", "_law_at"] ["_law_draw", "_law_k"] (defScope s__law_mark) := ⟨rfl, rfl, rfl, by decide +kernel, rfl, by decide +kernel, by decide +kernel⟩
theorem sc__law_words : FnScope ["_law_draw", "_law_found", "_law_k", "_law_mark_here"] ["_law_draw"] (defScope s__law_words) := ⟨rfl, rfl, rfl, by decide +kernel, rfl, by decide +kernel, by decide +kernel⟩
theorem sc__law_spoilt : FnScope ["_law_text", "_law_draw", "_law_at", "_law_way"] ["_law_text", "_law_draw"] (defScope s__law_spoilt) := ⟨rfl, rfl, rfl, by decide +kernel, rfl, by decide +kernel, by decide +kernel⟩
theorem sc__law_parted : FnScope ["_law_text", "_law_found", "_law_word", "_law_mark_here", "_law_sign"] ["_law_text"] (defScope s__law_parted) := ⟨rfl, rfl, rfl, by decide +kernel, rfl, by decide +kernel, by decide +kernel⟩
theorem sc__law_refused : FnScope ["_law_text", "e"] ["_law_text"] (defScope s__law_refused) := ⟨rfl, rfl, rfl, by decide +kernel, rfl, by decide +kernel, by decide +kernel⟩
theorem sc__law_marks : FnScope ["_law_draw", "_law_one", "_law_found", "_law_k", "_law_mark_here"] ["_law_draw", "_law_one"] (defScope s__law_marks) := ⟨rfl, rfl, rfl, by decide +kernel, rfl, by decide +kernel, by decide +kernel⟩
theorem sc__law_same : FnScope ["_law_found", "_law_due_here"] ["_law_found", "_law_due_here"] (defScope s__law_same) := ⟨rfl, rfl, rfl, by decide +kernel, rfl, by decide +kernel, by decide +kernel⟩
theorem sc__law_due : FnScope ["_law_words_here", "_law_marks_here"] ["_law_words_here", "_law_marks_here"] (defScope s__law_due) := ⟨rfl, rfl, rfl, by decide +kernel, rfl, by decide +kernel, by decide +kernel⟩
theorem sc_law : FnScope ["_law_script", "_law_one", "_law_text", "_law_words_here", "_law_other", "_law_lets", "_law_beside", "_law_draw", "_law_marks_here", "_law_handed"] ["_law_script"] (defScope s_law) := ⟨rfl, rfl, rfl, by decide +kernel, rfl, by decide +kernel, by decide +kernel⟩
structure Txt (K : PySem.W.Frag) (mg : Str → Option Value) (C_BookError : Addr) (C_NoName : Addr) (C_NoMark : Addr) : Prop where
  f_is_small_word : ∃ f fd, Fun K "is_small_word" "is_small_word" s_is_small_word f fd ∧ mg "is_small_word" = some (.ref f)
  f_is_mark : ∃ f fd, Fun K "is_mark" "is_mark" s_is_mark f fd ∧ mg "is_mark" = some (.ref f)
  f_words_of : ∃ f fd, Fun K "words_of" "words_of" s_words_of f fd ∧ mg "words_of" = some (.ref f)
  f_is_barring : ∃ f fd, Fun K "is_barring" "is_barring" s_is_barring f fd ∧ mg "is_barring" = some (.ref f)
  f_sieve : ∃ f fd, Fun K "sieve" "sieve" s_sieve f fd ∧ mg "sieve" = some (.ref f)
  f__law_cell_at : ∃ f fd, Fun K "_law_cell_at" "_law_cell_at" s__law_cell_at f fd ∧ mg "_law_cell_at" = some (.ref f)
  f__law_mixed : ∃ f fd, Fun K "_law_mixed" "_law_mixed" s__law_mixed f fd ∧ mg "_law_mixed" = some (.ref f)
  f__law_mark : ∃ f fd, Fun K "_law_mark" "_law_mark" s__law_mark f fd ∧ mg "_law_mark" = some (.ref f)
  f__law_words : ∃ f fd, Fun K "_law_words" "_law_words" s__law_words f fd ∧ mg "_law_words" = some (.ref f)
  f__law_spoilt : ∃ f fd, Fun K "_law_spoilt" "_law_spoilt" s__law_spoilt f fd ∧ mg "_law_spoilt" = some (.ref f)
  f__law_parted : ∃ f fd, Fun K "_law_parted" "_law_parted" s__law_parted f fd ∧ mg "_law_parted" = some (.ref f)
  f__law_refused : ∃ f fd, Fun K "_law_refused" "_law_refused" s__law_refused f fd ∧ mg "_law_refused" = some (.ref f)
  f__law_marks : ∃ f fd, Fun K "_law_marks" "_law_marks" s__law_marks f fd ∧ mg "_law_marks" = some (.ref f)
  f__law_same : ∃ f fd, Fun K "_law_same" "_law_same" s__law_same f fd ∧ mg "_law_same" = some (.ref f)
  f__law_due : ∃ f fd, Fun K "_law_due" "_law_due" s__law_due f fd ∧ mg "_law_due" = some (.ref f)
  f_law : ∃ f fd, Fun K "law" "law" s_law f fd ∧ mg "law" = some (.ref f)
  mg_BookError : mg "BookError" = some (.ref C_BookError)
  mg_NoName : mg "NoName" = some (.ref C_NoName)
  mg_NoMark : mg "NoMark" = some (.ref C_NoMark)
  ex_BookError : ExcC K C_BookError
  kx_BookError : ExcK K C_BookError
  hit_BookError_BookError : PySem.W.mroIn K C_BookError (.ref C_BookError) = some true
  is_BookError_BookError : PySem.W.kitOne K (.ref C_BookError) (.ref C_BookError) = some true
  is_BookError_NoName : PySem.W.kitOne K (.ref C_BookError) (.ref C_NoName) = some false
  is_BookError_NoMark : PySem.W.kitOne K (.ref C_BookError) (.ref C_NoMark) = some false
  is_BookError_ValueError : PySem.W.kitOne K (.ref C_BookError) (.type "ValueError") = some true
  ex_NoName : ExcC K C_NoName
  kx_NoName : ExcK K C_NoName
  hit_NoName_BookError : PySem.W.mroIn K C_NoName (.ref C_BookError) = some true
  is_NoName_BookError : PySem.W.kitOne K (.ref C_NoName) (.ref C_BookError) = some true
  hit_NoName_NoName : PySem.W.mroIn K C_NoName (.ref C_NoName) = some true
  is_NoName_NoName : PySem.W.kitOne K (.ref C_NoName) (.ref C_NoName) = some true
  is_NoName_NoMark : PySem.W.kitOne K (.ref C_NoName) (.ref C_NoMark) = some false
  is_NoName_ValueError : PySem.W.kitOne K (.ref C_NoName) (.type "ValueError") = some true
  ex_NoMark : ExcC K C_NoMark
  kx_NoMark : ExcK K C_NoMark
  hit_NoMark_BookError : PySem.W.mroIn K C_NoMark (.ref C_BookError) = some true
  is_NoMark_BookError : PySem.W.kitOne K (.ref C_NoMark) (.ref C_BookError) = some true
  is_NoMark_NoName : PySem.W.kitOne K (.ref C_NoMark) (.ref C_NoName) = some false
  hit_NoMark_NoMark : PySem.W.mroIn K C_NoMark (.ref C_NoMark) = some true
  is_NoMark_NoMark : PySem.W.kitOne K (.ref C_NoMark) (.ref C_NoMark) = some true
  is_NoMark_ValueError : PySem.W.kitOne K (.ref C_NoMark) (.type "ValueError") = some true
  b_all : mg "all" = none
  b_any : mg "any" = none
  b_bool : mg "bool" = none
  b_isinstance : mg "isinstance" = none
  b_len : mg "len" = none
  b_list : mg "list" = none
  b_range : mg "range" = none
  b_str : mg "str" = none
  c_LETTERS : ∃ t, mg "LETTERS" = some (.str "abcdefghijklmnopqrstuvwxyz" t)
  c_LONGEST_MARK : ∃ t, mg "LONGEST_MARK" = some (.int 8 t)
theorem txt_mk {K : PySem.W.Frag} {h : Heap} {mg : Str → Option Value} (X : K.In h) (G : h.Ns mainGlobals mg) {f0 f1 f2 f3 f4 f5 f6 f7 f8 f9 f10 f11 f12 f13 f14 f15 C_BookError C_NoName C_NoMark : Addr} {od0 an0 od1 an1 od2 an2 od3 an3 od4 an4 od5 an5 od6 an6 od7 an7 od8 an8 od9 an9 od10 an10 od11 an11 od12 an12 od13 an13 od14 an14 od15 an15 : Option Addr} {sl0 sl1 sl2 sl3 sl4 sl5 sl6 sl7 sl8 sl9 sl10 sl11 sl12 sl13 sl14 sl15 : Array (Option Value)} {oc0 kV0 dc0 pm0 cd0 ct0 oc1 kV1 dc1 pm1 cd1 ct1 oc2 kV2 dc2 pm2 cd2 ct2 oc3 kV3 dc3 pm3 cd3 ct3 oc4 kV4 dc4 pm4 cd4 ct4 oc5 kV5 dc5 pm5 cd5 ct5 oc6 kV6 dc6 pm6 cd6 ct6 oc7 kV7 dc7 pm7 cd7 ct7 oc8 kV8 dc8 pm8 cd8 ct8 oc9 kV9 dc9 pm9 cd9 ct9 oc10 kV10 dc10 pm10 cd10 ct10 oc11 kV11 dc11 pm11 cd11 ct11 oc12 kV12 dc12 pm12 cd12 ct12 oc13 kV13 dc13 pm13 cd13 ct13 oc14 kV14 dc14 pm14 cd14 ct14 oc15 kV15 dc15 pm15 cd15 ct15 : Value} {t_LETTERS t_LONGEST_MARK : Tok}
    (a0 : PySem.W.nsIn K mainGlobals "is_small_word" = some (some (.ref f0)))
    (l0 : K.lookup f0 = some ⟨oc0, od0, .func (PySem.W.fnOf "is_small_word" "is_small_word" (defArgs s_is_small_word) (defBody s_is_small_word) (defScope s_is_small_word) .none kV0 dc0 pm0 an0 cd0 ct0), sl0⟩)
    (c0 : PySem.W.codeIn K cd0 "is_small_word" = true)
    (k0 : PySem.W.keepIn K (.ref f0) = true)
    (a1 : PySem.W.nsIn K mainGlobals "is_mark" = some (some (.ref f1)))
    (l1 : K.lookup f1 = some ⟨oc1, od1, .func (PySem.W.fnOf "is_mark" "is_mark" (defArgs s_is_mark) (defBody s_is_mark) (defScope s_is_mark) .none kV1 dc1 pm1 an1 cd1 ct1), sl1⟩)
    (c1 : PySem.W.codeIn K cd1 "is_mark" = true)
    (k1 : PySem.W.keepIn K (.ref f1) = true)
    (a2 : PySem.W.nsIn K mainGlobals "words_of" = some (some (.ref f2)))
    (l2 : K.lookup f2 = some ⟨oc2, od2, .func (PySem.W.fnOf "words_of" "words_of" (defArgs s_words_of) (defBody s_words_of) (defScope s_words_of) .none kV2 dc2 pm2 an2 cd2 ct2), sl2⟩)
    (c2 : PySem.W.codeIn K cd2 "words_of" = true)
    (k2 : PySem.W.keepIn K (.ref f2) = true)
    (a3 : PySem.W.nsIn K mainGlobals "is_barring" = some (some (.ref f3)))
    (l3 : K.lookup f3 = some ⟨oc3, od3, .func (PySem.W.fnOf "is_barring" "is_barring" (defArgs s_is_barring) (defBody s_is_barring) (defScope s_is_barring) .none kV3 dc3 pm3 an3 cd3 ct3), sl3⟩)
    (c3 : PySem.W.codeIn K cd3 "is_barring" = true)
    (k3 : PySem.W.keepIn K (.ref f3) = true)
    (a4 : PySem.W.nsIn K mainGlobals "sieve" = some (some (.ref f4)))
    (l4 : K.lookup f4 = some ⟨oc4, od4, .func (PySem.W.fnOf "sieve" "sieve" (defArgs s_sieve) (defBody s_sieve) (defScope s_sieve) .none kV4 dc4 pm4 an4 cd4 ct4), sl4⟩)
    (c4 : PySem.W.codeIn K cd4 "sieve" = true)
    (k4 : PySem.W.keepIn K (.ref f4) = true)
    (a5 : PySem.W.nsIn K mainGlobals "_law_cell_at" = some (some (.ref f5)))
    (l5 : K.lookup f5 = some ⟨oc5, od5, .func (PySem.W.fnOf "_law_cell_at" "_law_cell_at" (defArgs s__law_cell_at) (defBody s__law_cell_at) (defScope s__law_cell_at) .none kV5 dc5 pm5 an5 cd5 ct5), sl5⟩)
    (c5 : PySem.W.codeIn K cd5 "_law_cell_at" = true)
    (k5 : PySem.W.keepIn K (.ref f5) = true)
    (a6 : PySem.W.nsIn K mainGlobals "_law_mixed" = some (some (.ref f6)))
    (l6 : K.lookup f6 = some ⟨oc6, od6, .func (PySem.W.fnOf "_law_mixed" "_law_mixed" (defArgs s__law_mixed) (defBody s__law_mixed) (defScope s__law_mixed) .none kV6 dc6 pm6 an6 cd6 ct6), sl6⟩)
    (c6 : PySem.W.codeIn K cd6 "_law_mixed" = true)
    (k6 : PySem.W.keepIn K (.ref f6) = true)
    (a7 : PySem.W.nsIn K mainGlobals "_law_mark" = some (some (.ref f7)))
    (l7 : K.lookup f7 = some ⟨oc7, od7, .func (PySem.W.fnOf "_law_mark" "_law_mark" (defArgs s__law_mark) (defBody s__law_mark) (defScope s__law_mark) .none kV7 dc7 pm7 an7 cd7 ct7), sl7⟩)
    (c7 : PySem.W.codeIn K cd7 "_law_mark" = true)
    (k7 : PySem.W.keepIn K (.ref f7) = true)
    (a8 : PySem.W.nsIn K mainGlobals "_law_words" = some (some (.ref f8)))
    (l8 : K.lookup f8 = some ⟨oc8, od8, .func (PySem.W.fnOf "_law_words" "_law_words" (defArgs s__law_words) (defBody s__law_words) (defScope s__law_words) .none kV8 dc8 pm8 an8 cd8 ct8), sl8⟩)
    (c8 : PySem.W.codeIn K cd8 "_law_words" = true)
    (k8 : PySem.W.keepIn K (.ref f8) = true)
    (a9 : PySem.W.nsIn K mainGlobals "_law_spoilt" = some (some (.ref f9)))
    (l9 : K.lookup f9 = some ⟨oc9, od9, .func (PySem.W.fnOf "_law_spoilt" "_law_spoilt" (defArgs s__law_spoilt) (defBody s__law_spoilt) (defScope s__law_spoilt) .none kV9 dc9 pm9 an9 cd9 ct9), sl9⟩)
    (c9 : PySem.W.codeIn K cd9 "_law_spoilt" = true)
    (k9 : PySem.W.keepIn K (.ref f9) = true)
    (a10 : PySem.W.nsIn K mainGlobals "_law_parted" = some (some (.ref f10)))
    (l10 : K.lookup f10 = some ⟨oc10, od10, .func (PySem.W.fnOf "_law_parted" "_law_parted" (defArgs s__law_parted) (defBody s__law_parted) (defScope s__law_parted) .none kV10 dc10 pm10 an10 cd10 ct10), sl10⟩)
    (c10 : PySem.W.codeIn K cd10 "_law_parted" = true)
    (k10 : PySem.W.keepIn K (.ref f10) = true)
    (a11 : PySem.W.nsIn K mainGlobals "_law_refused" = some (some (.ref f11)))
    (l11 : K.lookup f11 = some ⟨oc11, od11, .func (PySem.W.fnOf "_law_refused" "_law_refused" (defArgs s__law_refused) (defBody s__law_refused) (defScope s__law_refused) .none kV11 dc11 pm11 an11 cd11 ct11), sl11⟩)
    (c11 : PySem.W.codeIn K cd11 "_law_refused" = true)
    (k11 : PySem.W.keepIn K (.ref f11) = true)
    (a12 : PySem.W.nsIn K mainGlobals "_law_marks" = some (some (.ref f12)))
    (l12 : K.lookup f12 = some ⟨oc12, od12, .func (PySem.W.fnOf "_law_marks" "_law_marks" (defArgs s__law_marks) (defBody s__law_marks) (defScope s__law_marks) .none kV12 dc12 pm12 an12 cd12 ct12), sl12⟩)
    (c12 : PySem.W.codeIn K cd12 "_law_marks" = true)
    (k12 : PySem.W.keepIn K (.ref f12) = true)
    (a13 : PySem.W.nsIn K mainGlobals "_law_same" = some (some (.ref f13)))
    (l13 : K.lookup f13 = some ⟨oc13, od13, .func (PySem.W.fnOf "_law_same" "_law_same" (defArgs s__law_same) (defBody s__law_same) (defScope s__law_same) .none kV13 dc13 pm13 an13 cd13 ct13), sl13⟩)
    (c13 : PySem.W.codeIn K cd13 "_law_same" = true)
    (k13 : PySem.W.keepIn K (.ref f13) = true)
    (a14 : PySem.W.nsIn K mainGlobals "_law_due" = some (some (.ref f14)))
    (l14 : K.lookup f14 = some ⟨oc14, od14, .func (PySem.W.fnOf "_law_due" "_law_due" (defArgs s__law_due) (defBody s__law_due) (defScope s__law_due) .none kV14 dc14 pm14 an14 cd14 ct14), sl14⟩)
    (c14 : PySem.W.codeIn K cd14 "_law_due" = true)
    (k14 : PySem.W.keepIn K (.ref f14) = true)
    (a15 : PySem.W.nsIn K mainGlobals "law" = some (some (.ref f15)))
    (l15 : K.lookup f15 = some ⟨oc15, od15, .func (PySem.W.fnOf "law" "law" (defArgs s_law) (defBody s_law) (defScope s_law) .none kV15 dc15 pm15 an15 cd15 ct15), sl15⟩)
    (c15 : PySem.W.codeIn K cd15 "law" = true)
    (k15 : PySem.W.keepIn K (.ref f15) = true)
    (xCBookError : PySem.W.nsIn K mainGlobals "BookError" = some (some (.ref C_BookError)))
    (xCNoName : PySem.W.nsIn K mainGlobals "NoName" = some (some (.ref C_NoName)))
    (xCNoMark : PySem.W.nsIn K mainGlobals "NoMark" = some (some (.ref C_NoMark)))
    (xEBookError : PySem.W.excIn K C_BookError veMro "ValueError.__new__" = true)
    (xKBookError0 : PySem.W.findIn K (.ref C_BookError) "__getattribute__" = some (some (.builtin "BaseException.__getattribute__")))
    (xKBookError1 : PySem.W.findIn K (.ref C_BookError) "__getattr__" = some none)
    (xKBookError2 : PySem.W.findIn K (.ref C_BookError) "__class__" = some (some (.builtin "object.__class__")))
    (xKBookError3 : PySem.W.mroIn K C_BookError (.type "object") = some true)
    (xKBookError4 : PySem.W.mroIn K C_BookError (.type "BaseException") = some true)
    (xKBookError5 : PySem.W.ktsIn K C_BookError "BaseException" = true)
    (xHBookError_BookError : PySem.W.mroIn K C_BookError (.ref C_BookError) = some true)
    (xIBookError_BookError : PySem.W.kitOne K (.ref C_BookError) (.ref C_BookError) = some true)
    (xIBookError_NoName : PySem.W.kitOne K (.ref C_BookError) (.ref C_NoName) = some false)
    (xIBookError_NoMark : PySem.W.kitOne K (.ref C_BookError) (.ref C_NoMark) = some false)
    (xVBookError : PySem.W.kitOne K (.ref C_BookError) (.type "ValueError") = some true)
    (xENoName : PySem.W.excIn K C_NoName veMro "ValueError.__new__" = true)
    (xKNoName0 : PySem.W.findIn K (.ref C_NoName) "__getattribute__" = some (some (.builtin "BaseException.__getattribute__")))
    (xKNoName1 : PySem.W.findIn K (.ref C_NoName) "__getattr__" = some none)
    (xKNoName2 : PySem.W.findIn K (.ref C_NoName) "__class__" = some (some (.builtin "object.__class__")))
    (xKNoName3 : PySem.W.mroIn K C_NoName (.type "object") = some true)
    (xKNoName4 : PySem.W.mroIn K C_NoName (.type "BaseException") = some true)
    (xKNoName5 : PySem.W.ktsIn K C_NoName "BaseException" = true)
    (xHNoName_BookError : PySem.W.mroIn K C_NoName (.ref C_BookError) = some true)
    (xINoName_BookError : PySem.W.kitOne K (.ref C_NoName) (.ref C_BookError) = some true)
    (xHNoName_NoName : PySem.W.mroIn K C_NoName (.ref C_NoName) = some true)
    (xINoName_NoName : PySem.W.kitOne K (.ref C_NoName) (.ref C_NoName) = some true)
    (xINoName_NoMark : PySem.W.kitOne K (.ref C_NoName) (.ref C_NoMark) = some false)
    (xVNoName : PySem.W.kitOne K (.ref C_NoName) (.type "ValueError") = some true)
    (xENoMark : PySem.W.excIn K C_NoMark veMro "ValueError.__new__" = true)
    (xKNoMark0 : PySem.W.findIn K (.ref C_NoMark) "__getattribute__" = some (some (.builtin "BaseException.__getattribute__")))
    (xKNoMark1 : PySem.W.findIn K (.ref C_NoMark) "__getattr__" = some none)
    (xKNoMark2 : PySem.W.findIn K (.ref C_NoMark) "__class__" = some (some (.builtin "object.__class__")))
    (xKNoMark3 : PySem.W.mroIn K C_NoMark (.type "object") = some true)
    (xKNoMark4 : PySem.W.mroIn K C_NoMark (.type "BaseException") = some true)
    (xKNoMark5 : PySem.W.ktsIn K C_NoMark "BaseException" = true)
    (xHNoMark_BookError : PySem.W.mroIn K C_NoMark (.ref C_BookError) = some true)
    (xINoMark_BookError : PySem.W.kitOne K (.ref C_NoMark) (.ref C_BookError) = some true)
    (xINoMark_NoName : PySem.W.kitOne K (.ref C_NoMark) (.ref C_NoName) = some false)
    (xHNoMark_NoMark : PySem.W.mroIn K C_NoMark (.ref C_NoMark) = some true)
    (xINoMark_NoMark : PySem.W.kitOne K (.ref C_NoMark) (.ref C_NoMark) = some true)
    (xVNoMark : PySem.W.kitOne K (.ref C_NoMark) (.type "ValueError") = some true)
    (z_all : PySem.W.nsIn K mainGlobals "all" = some none)
    (z_any : PySem.W.nsIn K mainGlobals "any" = some none)
    (z_bool : PySem.W.nsIn K mainGlobals "bool" = some none)
    (z_isinstance : PySem.W.nsIn K mainGlobals "isinstance" = some none)
    (z_len : PySem.W.nsIn K mainGlobals "len" = some none)
    (z_list : PySem.W.nsIn K mainGlobals "list" = some none)
    (z_range : PySem.W.nsIn K mainGlobals "range" = some none)
    (z_str : PySem.W.nsIn K mainGlobals "str" = some none)
    (y_LETTERS : PySem.W.nsIn K mainGlobals "LETTERS" = some (some (.str "abcdefghijklmnopqrstuvwxyz" t_LETTERS)))
    (y_LONGEST_MARK : PySem.W.nsIn K mainGlobals "LONGEST_MARK" = some (some (.int 8 t_LONGEST_MARK))) : ∃ C_BookError C_NoName C_NoMark, Txt K mg C_BookError C_NoName C_NoMark := by
  refine ⟨C_BookError, C_NoName, C_NoMark, ?_⟩
  exact ⟨⟨f0, _, fun_mk l0 c0 k0, PySem.W.mg_of X G a0⟩,
    ⟨f1, _, fun_mk l1 c1 k1, PySem.W.mg_of X G a1⟩,
    ⟨f2, _, fun_mk l2 c2 k2, PySem.W.mg_of X G a2⟩,
    ⟨f3, _, fun_mk l3 c3 k3, PySem.W.mg_of X G a3⟩,
    ⟨f4, _, fun_mk l4 c4 k4, PySem.W.mg_of X G a4⟩,
    ⟨f5, _, fun_mk l5 c5 k5, PySem.W.mg_of X G a5⟩,
    ⟨f6, _, fun_mk l6 c6 k6, PySem.W.mg_of X G a6⟩,
    ⟨f7, _, fun_mk l7 c7 k7, PySem.W.mg_of X G a7⟩,
    ⟨f8, _, fun_mk l8 c8 k8, PySem.W.mg_of X G a8⟩,
    ⟨f9, _, fun_mk l9 c9 k9, PySem.W.mg_of X G a9⟩,
    ⟨f10, _, fun_mk l10 c10 k10, PySem.W.mg_of X G a10⟩,
    ⟨f11, _, fun_mk l11 c11 k11, PySem.W.mg_of X G a11⟩,
    ⟨f12, _, fun_mk l12 c12 k12, PySem.W.mg_of X G a12⟩,
    ⟨f13, _, fun_mk l13 c13 k13, PySem.W.mg_of X G a13⟩,
    ⟨f14, _, fun_mk l14 c14 k14, PySem.W.mg_of X G a14⟩,
    ⟨f15, _, fun_mk l15 c15 k15, PySem.W.mg_of X G a15⟩,
    PySem.W.mg_of X G xCBookError,
    PySem.W.mg_of X G xCNoName,
    PySem.W.mg_of X G xCNoMark,
    xEBookError,
    ⟨xKBookError0, xKBookError1, xKBookError2, xKBookError3, xKBookError4, xKBookError5⟩,
    xHBookError_BookError,
    xIBookError_BookError,
    xIBookError_NoName,
    xIBookError_NoMark,
    xVBookError,
    xENoName,
    ⟨xKNoName0, xKNoName1, xKNoName2, xKNoName3, xKNoName4, xKNoName5⟩,
    xHNoName_BookError,
    xINoName_BookError,
    xHNoName_NoName,
    xINoName_NoName,
    xINoName_NoMark,
    xVNoName,
    xENoMark,
    ⟨xKNoMark0, xKNoMark1, xKNoMark2, xKNoMark3, xKNoMark4, xKNoMark5⟩,
    xHNoMark_BookError,
    xINoMark_BookError,
    xINoMark_NoName,
    xHNoMark_NoMark,
    xINoMark_NoMark,
    xVNoMark,
    PySem.W.mg_none_of X G z_all,
    PySem.W.mg_none_of X G z_any,
    PySem.W.mg_none_of X G z_bool,
    PySem.W.mg_none_of X G z_isinstance,
    PySem.W.mg_none_of X G z_len,
    PySem.W.mg_none_of X G z_list,
    PySem.W.mg_none_of X G z_range,
    PySem.W.mg_none_of X G z_str,
    ⟨_, PySem.W.mg_of X G y_LETTERS⟩,
    ⟨_, PySem.W.mg_of X G y_LONGEST_MARK⟩⟩
section
variable {P : Program} {w : World} {K : PySem.W.Frag} {mg : Str → Option Value} {base : Heap} {C_BookError C_NoName C_NoMark : Addr}
theorem sz20 {n : Nat} (h : n ≤ 20000) : n ≤ sizeLine := by rw [sizeLine_eq]; omega
def SmallW (n : Int) (x : List Nat) : Prop := 1 ≤ x.length ∧ (x.length : Int) ≤ n ∧ ∀ c ∈ x, 97 ≤ c ∧ c ≤ 122
instance (n : Int) (x : List Nat) : Decidable (SmallW n x) := inferInstanceAs (Decidable (_ ∧ _ ∧ _))
def smallB (n : Int) : V → Bool
  | .str s => decide (SmallW n s.cps.toList)
  | _ => false
theorem small_S (n : Int) (x : List Nat) : smallB n (.str (S x)) = decide (SmallW n x) := rfl
theorem let_in (c : Nat) : decide (c ∈ (Str.ofString "abcdefghijklmnopqrstuvwxyz").cps.toList) = decide (97 ≤ c ∧ c ≤ 122) := by
  have e : (Str.ofString "abcdefghijklmnopqrstuvwxyz").cps.toList = [97, 98, 99, 100, 101, 102, 103, 104, 105, 106, 107, 108, 109, 110, 111, 112, 113, 114, 115, 116, 117, 118, 119, 120, 121, 122] := by decide +kernel
  rw [e, decide_eq_decide]
  simp
  omega
def sp_small : Sp := fun vs H Q _ => ∃ v n, vs = [v, .int n] ∧ TextV H v ∧ ∀ H', Same H H' → Q (.bl (smallB n v)) H'
theorem D_is_small_word (T : Txt K mg C_BookError C_NoName C_NoMark) : DefOk P w K mg base 1 "is_small_word" ["thing", "longest"] sp_small := by
  obtain ⟨f, fd, F, hm⟩ := T.f_is_small_word
  have nd := sc_is_small_word.nd
  refine F.def_ hm (F.ok sc_is_small_word (fun vs H Q E h => ?_) (fun cdv A outer s H vs Q E hr h => ?_)) (F.binds fun _ _ _ _ _ _ us hl => by obtain ⟨_, _, rfl⟩ := L2.lq2 hl; rfl)
  · obtain ⟨v, n, rfl, _⟩ := h; rfl
  · obtain ⟨v, n, rfl, hv, q⟩ := h
    refine ⟨_, (pss_cons (ps_if (pt_not (pt_val (pe_callB call_isi rfl T.b_isinstance bt_isinstance (pa_cons (pv 0) (pa_cons (pe_bltn (v := .ty "str") rfl T.b_str bt_str rfl) pa_nil)))))
        (pss_one (ps_ret pe_bl))
        pss_nil)
      (pss_one (ps_ret (pe_and (pe_cmpR op_le pe_int (pe_callB call_lenS rfl T.b_len bt_len (pa_cons (pv 0) pa_nil)) (nomark _)) (pe_and (pe_cmpR op_le (pe_callB call_lenS rfl T.b_len bt_len (pa_cons (pv 0) pa_nil)) (pv 1) (nomark _)) (pe_one (pe_callB (call_all rfl) rfl T.b_all bt_all (pa_cons (pe_lc (vars := ["sign"]) (frees := []) (fv := []) rfl (lcOk rfl rfl (by decide +kernel) (by decide +kernel) (by intro p hp; cases hp) rfl) trivial (pi_str (pv 0)) (gk_name (by decide)) (fun _ _ _ _ => (pg_name (i := 0) (show (["sign"] : List Str).Nodup by decide +kernel) rfl (Or.inl rfl))) (fun _ _ _ _ => pif_none) (fun _ _ _ _ => (pe_cmpR op_inS (pv 0) (pe_glob (v := .str "abcdefghijklmnopqrstuvwxyz") rfl T.c_LETTERS.choose_spec ⟨_, rfl⟩) rfl))) pa_nil)))))))), ?_⟩
    rcases hv with ⟨x, rfl, hx⟩ | hv
    · have no : ¬ SmallW n x → Q (V.bl false) H := fun z => by
        have := q H (Same.refl _)
        rw [small_S, decide_eq_false z] at this
        exact this
      refine ⟨_, rfl, _, _, _, _, rfl, .str _, kit_str K, _, rfl, iteF ?_⟩
      walk_at "r"
      refine ⟨sz20 (by omega), ?_⟩
      walk_at "r"
      by_cases l1 : (1 : Int) ≤ x.length
      · rw [if_pos (decide_eq_true l1)]
        walk_at "r"
        refine ⟨sz20 (by omega), ?_⟩
        walk_at "r"
        by_cases l2 : (x.length : Int) ≤ n
        · rw [if_pos (decide_eq_true l2)]
          refine ⟨_, rfl, _, rfl, lc_str (x := x) (fun i ys H2 => Same H H2 ∧ ys = (x.take i).map fun d => V.bl (decide (97 ≤ d ∧ d ≤ 122))) (sz20 (by omega)) ⟨Same.refl _, rfl⟩ (fun i ys H2 h2 => by rw [h2.2, List.length_map, List.length_take]; omega) ?_ ?_⟩
          · rintro i d ys H2 hi ⟨s2, rfl⟩
            refine gname_ (yes_ (iteT ?_))
            refine ⟨_, rfl, d, _, rfl, rfl, s2, ?_⟩
            rw [let_in]
            exact (mapN _ x i d hi).symm
          · rintro ys H2 p H3 ⟨s2, rfl⟩ n3
            rw [List.take_length] at n3
            refine ⟨p, x.map fun d => decide (97 ≤ d ∧ d ≤ 122), rfl, SqL.of (by rw [List.map_map]; exact n3.at_), ?_⟩
            have := q H3 (s2.trans n3.same)
            have ef : decide (SmallW n x) = (x.map fun d => decide (97 ≤ d ∧ d ≤ 122)).all id := by
              rw [Bool.eq_iff_iff, decide_eq_true_iff, List.all_eq_true]
              constructor
              · intro h b hb
                obtain ⟨d, hd, rfl⟩ := List.mem_map.mp hb
                exact decide_eq_true (h.2.2 d hd)
              · intro h
                refine ⟨by omega, l2, fun d hd => ?_⟩
                exact of_decide_eq_true (h _ (List.mem_map.mpr ⟨d, hd, rfl⟩))
            rw [small_S, ef] at this
            exact this
        · rw [if_neg (fun y => l2 (of_decide_eq_true y))]
          exact no fun h => l2 h.2.1
      · rw [if_neg (fun y => l1 (of_decide_eq_true y))]
        exact no fun h => l1 (by have := h.1; omega)
    · obtain ⟨t, ty, kt⟩ := OddV.ty (K := K) hv
      refine ⟨_, rfl, _, _, _, _, rfl, ty, kt, _, rfl, iteT ?_⟩
      have := q H (Same.refl _)
      rcases hv with rfl | ⟨i, rfl⟩ | ⟨b, rfl⟩ | ⟨p, xs, rfl, h⟩ | ⟨p, xs, rfl, h⟩ <;> exact this
def sp_mark62 (n : Int) : Sp := fun vs H Q _ => ∃ v, vs = [v] ∧ TextV H v ∧ ∀ H', Same H H' → Q (.bl (smallB n v)) H'
theorem D_is_mark (T : Txt K mg C_BookError C_NoName C_NoMark) : DefOk P w K mg base 2 "is_mark" ["thing"] (sp_mark62 8) := by
  obtain ⟨f, fd, F, hm⟩ := T.f_is_mark
  have nd := sc_is_mark.nd
  refine F.def_ hm (F.ok sc_is_mark (fun vs H Q E h => ?_) (fun cdv A outer s H vs Q E hr h => ?_)) (F.binds fun _ _ _ _ _ _ us hl => by obtain ⟨_, rfl⟩ := L2.lq1 hl; rfl)
  · obtain ⟨v, rfl, _⟩ := h; rfl
  · obtain ⟨v, rfl, hv, q⟩ := h
    refine ⟨_, (pss_one (ps_ret (pe_fn (D_is_small_word T) (hr.mono (by decide)) rfl (pa_cons (pv 0) (pa_cons (pe_glob (v := .int 8) rfl T.c_LONGEST_MARK.choose_spec ⟨_, rfl⟩) pa_nil))))), ?_⟩
    exact ⟨_, rfl, v, 8, rfl, hv, q⟩
theorem w_minus : (Str.ofString "-") = S [45] := by decide +kernel
theorem w_blank : (Str.ofString " ") = S [32] := by decide +kernel
theorem w_empty : (Str.ofString "") = S [] := by decide +kernel
theorem sl_drop1 (x : List Nat) : slS (S x) (some 1) none = S (x.drop 1) := sl_drop x 1
def sp_barring : Sp := fun vs H Q _ => ∃ x : List Nat, vs = [.str (S x)] ∧ x.length ≤ 3000 ∧ ∀ H', Same H H' → Q (.bl (decide (x.take 1 = [45] ∧ SmallW 8 (x.drop 1)))) H'
theorem D_is_barring (T : Txt K mg C_BookError C_NoName C_NoMark) : DefOk P w K mg base 3 "is_barring" ["word"] sp_barring := by
  obtain ⟨f, fd, F, hm⟩ := T.f_is_barring
  have nd := sc_is_barring.nd
  refine F.def_ hm (F.ok sc_is_barring (fun vs H Q E h => ?_) (fun cdv A outer s H vs Q E hr h => ?_)) (F.binds fun _ _ _ _ _ _ us hl => by obtain ⟨_, rfl⟩ := L2.lq1 hl; rfl)
  · obtain ⟨x, rfl, _⟩ := h; rfl
  · obtain ⟨x, rfl, hx, q⟩ := h
    refine ⟨_, (pss_one (ps_ret (pe_and (pe_bm PySem.F.plainAttrs_str PySem.F.slot_str_startswith PySem.F.type_str_startswith mt_starts (pv 0) (pa_cons pe_str pa_nil)) (pe_one (pe_fn (D_is_mark T) (hr.mono (by decide)) rfl (pa_cons (pe_slice sl_str (pv 0) (po_some pe_int) po_none) pa_nil)))))), ?_⟩
    walk_at "r"
    rw [w_minus, starts1]
    by_cases t : x.take 1 = [45]
    · rw [if_pos (decide_eq_true t)]
      refine ⟨_, rfl, _, rfl, _, rfl, by rw [sl_drop1, S_len]; exact sz20 (by simp; omega), ?_⟩
      rw [sl_drop1]
      refine ⟨_, rfl, .inl ⟨_, rfl, by simp; omega⟩, fun H2 s2 => ?_⟩
      have := q H2 s2
      rw [show decide (x.take 1 = [45] ∧ SmallW 8 (x.drop 1)) = decide (SmallW 8 (x.drop 1)) by rw [decide_eq_decide]; exact ⟨fun h => h.2, fun h => ⟨t, h⟩⟩] at this
      exact this
    · rw [if_neg (by simpa using t)]
      have := q H (Same.refl _)
      rw [decide_eq_false (fun h => t h.1)] at this
      exact this
def wordsL (x : List Nat) : List (List Nat) := if x = [] then [] else splitL 32 x
def sp_words (C : Addr) : Sp := fun vs H Q E => ∃ v, vs = [v] ∧ TextV H v ∧ (∀ x, v = .str (S x) → ∀ l H', New H H' l (.lst ((wordsL x).map fun p => V.str (S p))) → Q (.ref l) H') ∧ (OddV H v → E (.ref C) none H)
theorem D_words_of (T : Txt K mg C_BookError C_NoName C_NoMark) : DefX P w K mg base 1 "words_of" ["text"] [] (sp_words C_NoMark) := by
  obtain ⟨f, fd, F, hm⟩ := T.f_words_of
  have nd := sc_words_of.nd
  refine ⟨f, fd, (F.okX sc_words_of (fun vs H Q E h => ?_) (fun cdv A outer s H vs Q E hr h => ?_)), hm, F.kp, (F.binds fun _ _ _ _ _ _ us hl => by obtain ⟨_, rfl⟩ := L2.lq1 hl; rfl)⟩
  · obtain ⟨v, rfl, _⟩ := h; rfl
  · obtain ⟨v, rfl, hv, q1, q2⟩ := h
    refine ⟨_, (pss_cons (ps_if (pt_not (pt_val (pe_callB call_isi rfl T.b_isinstance bt_isinstance (pa_cons (pv 0) (pa_cons (pe_bltn (v := .ty "str") rfl T.b_str bt_str rfl) pa_nil)))))
        (pss_one (ps_raise (wants_wish ⟨rfl, rfl, rfl⟩) rfl T.ex_NoMark rfl T.mg_NoMark (pa_cons pe_str pa_nil)))
        pss_nil)
      (pss_one (ps_ret (pe_ifExp (pt_cmpR op_eq (pv 0) pe_str (nomark _)) (pe_lstN pa_nil) (pe_bm PySem.F.plainAttrs_str PySem.F.slot_str_split PySem.F.type_str_split mt_split (pv 0) (pa_cons pe_str pa_nil)))))), ?_⟩
    rcases hv with ⟨x, rfl, hx⟩ | hv
    · refine ⟨_, rfl, _, _, _, _, rfl, .str _, kit_str K, _, rfl, iteF ?_⟩
      walk_at "r"
      rw [w_empty, S_dec]
      refine ite2 (fun z => ?_) fun z => ?_
      · have e : x = [] := of_decide_eq_true z
        refine ⟨sz20 (Nat.le_of_ble_eq_true rfl), fun l H2 n2 => q1 x rfl l H2 ?_⟩
        unfold wordsL
        rw [if_pos e]
        exact n2
      · have e : ¬ x = [] := fun y => z (decide_eq_true y)
        rw [w_blank]
        walk_at "r"
        intro l H2 n2
        refine q1 x rfl l H2 ?_
        unfold wordsL
        rw [if_neg e]
        exact n2
    · obtain ⟨t, ty, kt⟩ := OddV.ty (K := K) hv
      refine ⟨_, rfl, _, _, _, _, rfl, ty, kt, _, rfl, iteT ?_⟩
      walk_at "r"
      exact q2 hv
end
section
variable {P : Program} {w : World} {K : PySem.W.Frag} {mg : Str → Option Value} {base : Heap} {C_BookError C_NoName C_NoMark : Addr}
def sp_mix62 : Sp := fun vs H Q _ => ∃ d k, vs = [.int d, .int k] ∧ 0 ≤ k ∧ k ≤ 200 ∧ ∀ m, 0 ≤ m → m < 2147483629 → Q (.int m) H
theorem D__law_mixed (T : Txt K mg C_BookError C_NoName C_NoMark) : DefOk P w K mg base 1 "_law_mixed" ["_law_draw", "_law_k"] sp_mix62 := by
  obtain ⟨f, fd, F, hm⟩ := T.f__law_mixed
  have nd := sc__law_mixed.nd
  refine F.def_ hm (F.ok sc__law_mixed (fun vs H Q E h => ?_) (fun cdv A outer s H vs Q E hr h => ?_)) (F.binds fun _ _ _ _ _ _ us hl => by obtain ⟨_, _, rfl⟩ := L2.lq2 hl; rfl)
  · obtain ⟨d, k, rfl, _⟩ := h; rfl
  · obtain ⟨d, k, rfl, h1, h2, q⟩ := h
    refine ⟨_, (pss_cons (ps_set (i := 2) nd rfl (Or.inl rfl) (pe_op op_mod (pe_op op_mul (pe_op op_add (pe_op op_add (pe_op op_mod (pv 0) pe_int) (pe_op op_mul pe_int (pv 1))) pe_int) pe_int) pe_int))
      (pss_one (ps_ret (pe_op op_mod (pe_op op_mul (pv 2) (pe_op op_add (pe_op op_fdiv (pv 2) pe_int) pe_int)) pe_int)))), ?_⟩
    have m1 : 0 ≤ d % 2147483629 ∧ d % 2147483629 < 2147483629 := by omega
    walk_at "r"
    exact q _ (by omega) (by omega)
def sp_lmark : Sp := fun vs H Q _ => ∃ d k, vs = [.int d, .int k] ∧ ∀ (x : List Nat) H', Same H H' → SmallW 8 x → Q (.str (S x)) H'
theorem w_abc : (Str.ofString "abcdefghijklmnopqrstuvwxyz") = S [97, 98, 99, 100, 101, 102, 103, 104, 105, 106, 107, 108, 109, 110, 111, 112, 113, 114, 115, 116, 117, 118, 119, 120, 121, 122] := by decide +kernel
theorem abc_at {i : Int} (h0 : 0 ≤ i) (h1 : i < 26) : ∃ c, [97, 98, 99, 100, 101, 102, 103, 104, 105, 106, 107, 108, 109, 110, 111, 112, 113, 114, 115, 116, 117, 118, 119, 120, 121, 122][i.toNat]? = some c ∧ 97 ≤ c ∧ c ≤ 122 :=
  ⟨_, List.getElem?_eq_getElem (by simp; omega), (by decide : ∀ c ∈ [97, 98, 99, 100, 101, 102, 103, 104, 105, 106, 107, 108, 109, 110, 111, 112, 113, 114, 115, 116, 117, 118, 119, 120, 121, 122], 97 ≤ c ∧ c ≤ 122) _ (List.getElem_mem _)⟩
theorem join_one : ∀ cs : List Nat, joinL [] (cs.map fun c => [c]) = cs
  | [] => rfl
  | [c] => rfl
  | c :: d :: cs => by
    have ih := join_one (d :: cs)
    show [c] ++ [] ++ joinL [] ((d :: cs).map fun c => [c]) = _
    rw [ih]; rfl
theorem sum_one : ∀ cs : List Nat, ((cs.map fun c => [c]).map List.length).sum = cs.length
  | [] => rfl
  | c :: cs => by
    have ih := sum_one cs
    simp only [List.map_cons, List.sum_cons, List.length_cons, List.length_nil] at ih ⊢
    omega
theorem D__law_mark (T : Txt K mg C_BookError C_NoName C_NoMark) : DefOk P w K mg base 2 "_law_mark" ["_law_draw", "_law_k"] sp_lmark := by
  obtain ⟨f, fd, F, hm⟩ := T.f__law_mark
  have nd := sc__law_mark.nd
  refine F.def_ hm (F.ok sc__law_mark (fun vs H Q E h => ?_) (fun cdv A outer s H vs Q E hr h => ?_)) (F.binds fun _ _ _ _ _ _ us hl => by obtain ⟨_, _, rfl⟩ := L2.lq2 hl; rfl)
  · obtain ⟨d, k, rfl, _⟩ := h; rfl
  · obtain ⟨d, k, rfl, q⟩ := h
    refine ⟨_, (pss_cons (ps_set (i := 2) nd rfl (Or.inr rfl) pe_str)
      (pss_cons (ps_set (i := 3) nd rfl (Or.inl rfl) (pe_op op_mod (pe_fn (D__law_mixed T) (hr.mono (by decide)) rfl (pa_cons (pv 0) (pa_cons pe_int pa_nil))) pe_int))
      (pss_cons (ps_set (i := 4) nd rfl (Or.inl rfl) (pe_bm PySem.F.plainAttrs_str PySem.F.slot_str_join PySem.F.type_str_join mt_join pe_str (pa_cons (pe_lc (vars := ["_law_j"]) (frees := ["_law_some", "_law_draw"]) (fv := [2, 0]) rfl (lcOk rfl rfl (by decide +kernel) (by decide +kernel) (by intro p hp; simp only [List.mem_cons, List.not_mem_nil, or_false] at hp; rcases hp with rfl | rfl <;> rfl) rfl) ⟨⟨rfl, .inl rfl, rfl, .inl rfl⟩, ⟨⟨rfl, .inl rfl, rfl, .inl rfl⟩, trivial⟩⟩ (pi_range1 rfl T.b_range (pa_cons (pv 3) pa_nil)) (gk_name (by decide)) (fun _ _ _ _ => (pg_name (i := 0) (show (["_law_j", "_law_some", "_law_draw"] : List Str).Nodup by decide +kernel) rfl (Or.inl rfl))) (fun _ _ _ _ => pif_none) (fun _ _ _ _ => (pe_ixS (pv 1) (pe_op op_mod (pe_fn (D__law_mixed T) (hr.mono (by decide)) rfl (pa_cons (pv 2) (pa_cons (pe_op op_add pe_int (pv 0)) pa_nil))) pe_int) (fun _ _ => rfl)))) pa_nil)))
      (pss_cons (ps_set (i := 5) nd rfl (Or.inl rfl) (pe_op op_mod (pe_fn (D__law_mixed T) (hr.mono (by decide)) rfl (pa_cons (pv 0) (pa_cons pe_int pa_nil))) (pe_op op_add (pv 3) pe_int)))
      (pss_one (ps_ret (pe_op op_add_str (pe_op op_add_str (pe_slice sl_str (pv 4) po_none (po_some (pv 5))) (pe_ixS (pv 2) (pe_op op_mod (pe_op op_add (pe_op op_fdiv (pv 0) pe_int) (pe_op op_mul pe_int (pv 1))) pe_int) (fun _ _ => rfl))) (pe_slice sl_str (pv 4) (po_some (pv 5)) po_none)))))))), ?_⟩
    rw [w_abc]
    walk_at "r"
    intro m m0 m1
    walk_at "r"
    have m8 : 0 ≤ m % 8 ∧ m % 8 < 8 := by omega
    refine lc_rangeN (n := (m % 8).toNat) (fun i ys H2 => Same H H2 ∧ ∃ cs : List Nat, cs.length = i ∧ (∀ c ∈ cs, 97 ≤ c ∧ c ≤ 122) ∧ ys = cs.map fun c => V.str (S [c])) (sz20 (by omega)) ⟨Same.refl _, [], rfl, by simp, rfl⟩ (fun i ys H2 h2 => by obtain ⟨_, cs, h3, _, h4⟩ := h2; rw [h4, List.length_map, h3]; exact Nat.le_refl _) ?_ ?_
    · rintro i ys H2 hi ⟨s2, cs, hl, hc, rfl⟩
      refine gname_ (yes_ (iteT ?_))
      walk_at "r"
      intro a a0 a1
      have a26 : 0 ≤ a % 26 ∧ a % 26 < 26 := by omega
      obtain ⟨c, hca, hcb⟩ := abc_at a26.1 a26.2
      walk_at "r"
      refine ⟨_, _, c, rfl, rfl, a26.1, by omega, hca, ?_⟩
      refine ⟨s2, cs ++ [c], by simp [hl], fun x hx => ?_, by simp⟩
      rcases List.mem_append.mp hx with z | z
      · exact hc x z
      · rw [List.mem_singleton.mp z]; exact hcb
    · rintro ys H2 p H3 ⟨s2, cs, hl, hc, rfl⟩ n3
      rw [w_empty]
      have e3 : H3 p = some (.lst ((cs.map fun c => [c]).map fun q => V.str (S q))) := by rw [List.map_map]; exact n3.at_
      refine ⟨[], cs.map fun c => [c], p, rfl, rfl, SqL.of e3, by rw [sum_one]; simp; omega, ?_⟩
      rw [join_one]
      have s3 := s2.trans n3.same
      walk_at "r"
      intro b b0 b1
      obtain ⟨j, hj⟩ := Int.eq_ofNat_of_zero_le (Int.emod_nonneg b (show (m % 8 + 1) ≠ 0 by omega))
      have hj1 := Int.emod_lt_of_pos b (show (0 : Int) < m % 8 + 1 by omega)
      rw [hj] at hj1
      have lj : j ≤ cs.length := by omega
      have lc8 : cs.length ≤ 7 := by omega
      have d26 : 0 ≤ (d / 3 + 7 * k) % 26 ∧ (d / 3 + 7 * k) % 26 < 26 := by omega
      obtain ⟨c, hca, hcb⟩ := abc_at d26.1 d26.2
      walk_at "r"
      rw [hj, sl_take cs lj]
      refine ⟨sz20 (by rw [S_len, List.length_take]; omega), ?_⟩
      walk_at "r"
      refine ⟨_, _, c, rfl, rfl, d26.1, by omega, hca, ?_⟩
      walk_at "r"
      refine ⟨sz20 (by rw [S_len, S_len, List.length_take]; simp; omega), ?_⟩
      rw [S_cat]
      walk_at "r"
      rw [sl_drop cs j]
      refine ⟨sz20 (by rw [S_len, List.length_drop]; omega), ?_⟩
      walk_at "r"
      refine ⟨sz20 (by rw [S_len, S_len]; simp; omega), ?_⟩
      rw [S_cat]
      refine q _ _ s3 ⟨by simp; omega, by simp; omega, fun x hx => ?_⟩
      rcases List.mem_append.mp hx with z | z
      · rcases List.mem_append.mp z with z | z
        · exact hc x (List.mem_of_mem_take z)
        · rw [List.mem_singleton.mp z]; exact hcb
      · exact hc x (List.mem_of_mem_drop z)
end
section
variable {P : Program} {w : World} {K : PySem.W.Frag} {mg : Str → Option Value} {base : Heap} {C_BookError C_NoName C_NoMark : Addr}
abbrev tS (w : List Nat) : V := V.str (S w)
theorem lc_listN {K : PySem.W.Frag} {a : Addr} {xs : List V} {g : TG} {tc : TT} {te : TE} {Q : VK} {σ : St} {H : Hp} (Pv : Nat → List V → Hp → Prop) (hz : xs.length ≤ sizeLine) (h0 : Pv 0 [] H) (hl : ∀ i ys H, Pv i ys H → SqL K H a xs ∧ ys.length ≤ i)
    (hs : ∀ i x ys H, xs[i]? = some x → Pv i ys H → g x σ H fun σ4 H4 => tc σ4 H4 fun b H5 => if b = true then te σ4 H5 fun v H6 => Pv (i + 1) (ys ++ [v]) H6 else Pv (i + 1) ys H5)
    (hd : ∀ ys H p H', Pv xs.length ys H → New H H' p (.lst ys) → Q (.ref p) H') : lcGoal (Itl K a) Q g tc te σ H :=
  lc_list Pv hz h0 hl hs fun ys H p p' hp => hd ys H p _ p' (new_upd hp)
theorem lc_tx {K : PySem.W.Frag} {a : Addr} {ws : List (List Nat)} {g : TG} {tc : TT} {te : TE} {Q : VK} {σ : St} {H : Hp} (f : List Nat → V) (b : List Nat → Bool) (ha : SqL K H a (ws.map tS)) (hz : ws.length ≤ 20000)
    (hs : ∀ w ∈ ws, ∀ (H2 : Hp) (R : Option V → Hp → Prop), Same H H2 → (∀ H3, Same H2 H3 → R (if b w = true then some (f w) else none) H3) → g (tS w) σ H2 fun σ4 H4 => tc σ4 H4 fun c H5 => if c = true then te σ4 H5 fun v H6 => R (some v) H6 else R none H5)
    (hd : ∀ p H', Same H H' → H p = none → H' p = some (.lst ((ws.filter b).map f)) → Q (.ref p) H') : lcGoal (Itl K a) Q g tc te σ H := by
  refine lc_listN (xs := ws.map tS) (fun i ys H2 => Same H H2 ∧ ys = ((ws.take i).filter b).map f) (sz20 (by rw [List.length_map]; exact hz)) ⟨Same.refl _, rfl⟩ (fun i ys H2 h2 => ⟨Same.seq h2.1 ha, by rw [h2.2, List.length_map]; exact Nat.le_trans (List.length_filter_le _ _) (by rw [List.length_take]; omega)⟩) ?_ ?_
  · rintro i x ys H2 hi ⟨s2, rfl⟩
    obtain ⟨w, hwi, rfl⟩ : ∃ w, ws[i]? = some w ∧ x = tS w := by
      rw [List.getElem?_map] at hi
      obtain ⟨w, a, b⟩ := Option.map_eq_some_iff.mp hi
      exact ⟨w, a, b.symm⟩
    have et : ws.take (i + 1) = ws.take i ++ [w] := by rw [List.take_add_one, hwi]; rfl
    refine hs w (List.mem_of_getElem? hwi) H2 (fun o H6 => Same H H6 ∧ (match o with | some v => ((ws.take i).filter b).map f ++ [v] | none => ((ws.take i).filter b).map f) = ((ws.take (i + 1)).filter b).map f) s2 fun H3 s3 => ⟨s2.trans s3, ?_⟩
    rw [et, List.filter_append, List.map_append]
    by_cases hb : b w = true
    · rw [if_pos hb]; simp [hb]
    · rw [if_neg hb]; simp [hb]
  · rintro ys H2 p H3 ⟨s2, rfl⟩ n3
    rw [List.length_map, List.take_length] at n3
    refine hd p H3 (s2.trans n3.same) ?_ n3.at_
    cases q : H p with
    | none => rfl
    | some o => have := s2 p o q; rw [n3.fresh] at this; cases this
theorem split_lens (c : Nat) : ∀ x : List Nat, (∀ p ∈ splitL c x, p.length ≤ x.length) ∧ (splitL c x).length ≤ x.length + 1
  | [] => by simp [splitL]
  | a :: l => by
    obtain ⟨h1, h2⟩ := split_lens c l
    unfold splitL
    split
    · refine ⟨fun p hp => ?_, by simp; omega⟩
      rcases List.mem_cons.mp hp with rfl | hp
      · simp
      · have := h1 p hp; simp; omega
    · split
      · simp
      · rename_i p ps e
        rw [e] at h1 h2
        refine ⟨fun q hq => ?_, by simp at h2 ⊢; omega⟩
        rcases List.mem_cons.mp hq with rfl | hq
        · have := h1 p (.head _); simp; omega
        · have := h1 q (.tail _ hq); simp; omega
theorem words_lens (x : List Nat) : (∀ p ∈ wordsL x, p.length ≤ x.length) ∧ (wordsL x).length ≤ x.length + 1 := by
  unfold wordsL
  split
  · simp
  · exact split_lens 32 x
abbrev Bar (p : List Nat) : Prop := p.take 1 = [45] ∧ SmallW 8 (p.drop 1)
def GoodW (p : List Nat) : Prop := SmallW 8 p ∨ Bar p
instance (p : List Nat) : Decidable (GoodW p) := inferInstanceAs (Decidable (_ ∨ _))
def wantedL (ws : List (List Nat)) : List (List Nat) := ws.filter fun p => decide (SmallW 8 p)
def barredL (ws : List (List Nat)) : List (List Nat) := (ws.filter fun p => decide (Bar p)).map fun p => p.drop 1
abbrev s_lets : Stmt := (defBody s_sieve).getD 4 (.Pass ⟨0, 0, 0, 0⟩)
abbrev posL : Pos := ⟨30, 4, 31, 104⟩
abbrev qualL : Str := "sieve.<locals>.lets"
abbrev CloL (H : Hp) (f : Addr) (v1 v2 : V) : Prop := CloAt "lets" qualL s_lets "wanted" "barred" H f v1 v2
def sp_sieve (C T : Addr) : Sp := fun vs H Q E => ∃ v, vs = [v] ∧ TextV H v ∧
  (∀ x, v = .str (S x) → (∀ p ∈ wordsL x, GoodW p) → Tb T posL qualL H ∧ ∀ f H' lw lb c, SameX T H H' → Tb1 T posL qualL c H' → CloL H' f (.ref lw) (.ref lb) → H' lw = some (.lst ((wantedL (wordsL x)).map tS)) → H' lb = some (.lst ((barredL (wordsL x)).map tS)) → Q (.ref f) H') ∧
  ((OddV H v ∨ ∃ x, v = .str (S x) ∧ ¬ ∀ p ∈ wordsL x, GoodW p) → ∀ H', Same H H' → E (.ref C) none H')
theorem D_sieve (T : Txt K mg C_BookError C_NoName C_NoMark) {c9 T9 : Addr} (Z9 : ∀ f, mg "sieve" = some (.ref f) → TabK K f c9 T9) : DefX P w K mg base 4 "sieve" ["text"] [] (sp_sieve C_NoMark T9) := by
  obtain ⟨f, fd, F, hm⟩ := T.f_sieve
  have nd := sc_sieve.nd
  have Z := Z9 f hm
  refine ⟨f, fd, (F.okC (x1 := "wanted") (x2 := "barred") (i1 := 2) (i2 := 3) (a1 := 1) (a2 := 0) sc_sieve (fun vs H Q E h => ?_) rfl rfl rfl rfl (fun n => rfl) (fun n => rfl) (by decide) (fun cdv A outer s H vs Q E hcd hr h => ?_)), hm, F.kp, (F.binds fun _ _ _ _ _ _ us hl => by obtain ⟨_, rfl⟩ := L2.lq1 hl; rfl)⟩
  · obtain ⟨v, rfl, _⟩ := h; rfl
  · obtain ⟨v, rfl, hv, q1, q2⟩ := h
    have hc : cdv = .ref c9 := by obtain ⟨oc, od, osl, fd', lk, e⟩ := hcd; rw [← e]; exact Z.code _ _ _ _ lk
    have NEST_lets : PS (bx P w K mg base ["text", "words", "wanted", "barred", "lets"] "sieve" (defScope s_sieve) f cdv A outer s H E) s_lets (tNest T9 "lets" qualL s_lets [("wanted", s.heap.objs.size + 1 + 1), ("barred", s.heap.objs.size + 1)] posL 4) :=
      ps_nest Z hc nd rfl rfl rfl rfl rfl rfl rfl (show (Str.ofString "sieve" ++ Str.ofString ".<locals>.") ++ Str.ofString "lets" = qualL by decide +kernel)
    refine ⟨_, (pz_cons (ps_set (i := 1) nd rfl (Or.inl rfl) (pe_fnX (wants_wish ⟨rfl, rfl, rfl⟩) (D_words_of T) (hr.mono (by decide)) rfl .nil (pa_cons (pv 0) pa_nil)))
      (pz_cons (ps_if (pt_not (pt_val (pe_callB (call_all rfl) rfl T.b_all bt_all (pa_cons (pe_lc (vars := ["word"]) (frees := []) (fv := []) rfl (lcOk rfl rfl (by decide +kernel) (by decide +kernel) (by intro p hp; cases hp) rfl) trivial (pi_list (pv 1)) (gk_name (by decide)) (fun _ _ _ _ => (pg_name (i := 0) (show (["word"] : List Str).Nodup by decide +kernel) rfl (Or.inl rfl))) (fun _ _ _ _ => pif_none) (fun _ _ _ _ => (pe_or (pe_fn (D_is_mark T) (hr.mono (by decide)) rfl (pa_cons (pv 0) pa_nil)) (pe_one (pe_fn (D_is_barring T) (hr.mono (by decide)) rfl (pa_cons (pv 0) pa_nil)))))) pa_nil))))
        (pss_one (ps_raise (wants_wish ⟨rfl, rfl, rfl⟩) rfl T.ex_NoMark rfl T.mg_NoMark (pa_cons pe_str pa_nil)))
        pss_nil)
      (pz_cons (ps_set (i := 2) nd rfl (Or.inr rfl) (pe_lc (vars := ["word"]) (frees := []) (fv := []) rfl (lcOk rfl rfl (by decide +kernel) (by decide +kernel) (by intro p hp; cases hp) rfl) trivial (pi_list (pv 1)) (gk_name (by decide)) (fun _ _ _ _ => (pg_name (i := 0) (show (["word"] : List Str).Nodup by decide +kernel) rfl (Or.inl rfl))) (fun _ _ _ _ => (pif_one (pt_val (pe_fn (D_is_mark T) (hr.mono (by decide)) rfl (pa_cons (pv 0) pa_nil))))) (fun _ _ _ _ => (pv 0))))
      (pz_cons (ps_set (i := 3) nd rfl (Or.inr rfl) (pe_lc (vars := ["word"]) (frees := []) (fv := []) rfl (lcOk rfl rfl (by decide +kernel) (by decide +kernel) (by intro p hp; cases hp) rfl) trivial (pi_list (pv 1)) (gk_name (by decide)) (fun _ _ _ _ => (pg_name (i := 0) (show (["word"] : List Str).Nodup by decide +kernel) rfl (Or.inl rfl))) (fun _ _ _ _ => (pif_one (pt_val (pe_fn (D_is_barring T) (hr.mono (by decide)) rfl (pa_cons (pv 0) pa_nil))))) (fun _ _ _ _ => (pe_slice sl_str (pv 0) (po_some pe_int) po_none))))
      (pz_cons NEST_lets
      (pz_ret (pv 4))))))), ?_⟩
    walk_at "r"
    refine ⟨fun x ex l H1 n1 => ?_, fun ho => q2 (.inl ho) H (Same.refl _)⟩
    subst ex
    have hx : x.length ≤ 3000 := by
      rcases hv with ⟨y, e, hy⟩ | hv
      · have e2 : x = y := S_inj (V.str.inj e)
        rw [e2]; exact hy
      · rcases hv with e | ⟨_, e⟩ | ⟨_, e⟩ | ⟨_, _, e, _⟩ | ⟨_, _, e, _⟩ <;> cases e
    obtain ⟨w1, w2⟩ := words_lens x
    have wl : ∀ p ∈ wordsL x, p.length ≤ 3000 := fun p hp => Nat.le_trans (w1 p hp) hx
    refine ⟨_, rfl, l, rfl, ⟨_, SqL.of n1.at_⟩, lc_tx (ws := wordsL x) (fun p => .bl (decide (GoodW p))) (fun _ => true) (SqL.of n1.at_) (by omega) (fun p hp H2 R s2 hR => ?_) fun pl H2 s2 _ e2 => ?_⟩
    · refine gname_ (yes_ (iteT ?_))
      refine ⟨_, rfl, _, rfl, .inl ⟨p, rfl, wl p hp⟩, fun H3 s3 => ⟨_, rfl, ?_⟩⟩
      rw [small_S]
      by_cases sm : SmallW 8 p
      · rw [if_pos (decide_eq_true sm)]
        have := hR H3 s3
        rw [if_pos rfl, decide_eq_true (show GoodW p from .inl sm)] at this
        exact this
      · rw [if_neg (fun z => sm (of_decide_eq_true z))]
        refine ⟨_, rfl, p, rfl, wl p hp, fun H4 s4 => ?_⟩
        have := hR H4 (s3.trans s4)
        rw [if_pos rfl, show decide (GoodW p) = decide (p.take 1 = [45] ∧ SmallW 8 (p.drop 1)) by rw [decide_eq_decide]; exact ⟨fun h => h.elim (fun z => absurd z sm) id, .inr⟩] at this
        exact this
    · have ft : (wordsL x).filter (fun _ => true) = wordsL x := List.filter_eq_self.mpr (by simp)
      rw [ft] at e2
      have sl : H2 l = some (.lst ((wordsL x).map tS)) := s2 _ _ n1.at_
      refine ⟨pl, (wordsL x).map (fun p => decide (GoodW p)), rfl, SqL.of (by rw [List.map_map]; exact e2), ⟨_, rfl, ?_⟩⟩
      by_cases gd : ∀ p ∈ wordsL x, GoodW p
      · have ea : ((wordsL x).map (fun p => decide (GoodW p))).all id = true := List.all_eq_true.mpr fun b hb => by
          obtain ⟨p, hp, rfl⟩ := List.mem_map.mp hb
          exact decide_eq_true (gd p hp)
        rw [ea]
        refine iteF ?_
        obtain ⟨tb, q1⟩ := q1 x rfl gd
        refine ⟨_, rfl, l, rfl, ⟨_, SqL.of sl⟩, lc_tx (ws := wordsL x) tS (fun p => decide (SmallW 8 p)) (SqL.of sl) (by omega) (fun p hp H3 R s3 hR => ?_) fun lw H3 s3 _ e3 => ?_⟩
        · refine gname_ ?_
          refine ⟨_, rfl, _, rfl, .inl ⟨p, rfl, wl p hp⟩, fun H4 s4 => ⟨_, rfl, ?_⟩⟩
          rw [small_S]
          by_cases sm : SmallW 8 p
          · rw [if_pos (decide_eq_true sm)]
            have := hR H4 s4
            rw [if_pos (decide_eq_true sm)] at this
            exact ⟨_, rfl, this⟩
          · rw [if_neg (fun z => sm (of_decide_eq_true z))]
            have := hR H4 s4
            rw [if_neg (fun z => sm (of_decide_eq_true z))] at this
            exact this
        · refine gname_ ?_
          have sl3 := s3 _ _ sl
          refine ⟨_, rfl, l, rfl, ⟨_, SqL.of sl3⟩, lc_tx (ws := wordsL x) (fun p => tS (p.drop 1)) (fun p => decide (Bar p)) (SqL.of sl3) (by omega) (fun p hp H4 R s4 hR => ?_) fun lb H4 s4 _ e4 => ?_⟩
          · refine gname_ ?_
            refine ⟨_, rfl, p, rfl, wl p hp, fun H5 s5 => ⟨_, rfl, ?_⟩⟩
            by_cases sm : Bar p
            · rw [if_pos (decide_eq_true sm)]
              have := hR H5 s5
              rw [if_pos (decide_eq_true sm)] at this
              refine ⟨_, rfl, _, rfl, _, rfl, by rw [sl_drop1, S_len]; exact sz20 (by have := wl p hp; simp; omega), ?_⟩
              rw [sl_drop1]
              exact this
            · rw [if_neg (fun z => sm (of_decide_eq_true z))]
              have := hR H5 s5
              rw [if_neg (fun z => sm (of_decide_eq_true z))] at this
              exact this
          · have s04 : Same H H4 := ((n1.same.trans s2).trans s3).trans s4
            have tb4 := tb.same s04
            obtain ⟨ps, hT4⟩ : ∃ ps, H4 T9 = some (.tbl ps) := tb4.elim (fun z => ⟨_, z⟩) fun ⟨_, z⟩ => ⟨_, z.1⟩
            have nT : ∀ b xs, H4 b = some (.lst xs) → b ≠ T9 := fun b xs e z => by rw [z, hT4] at e; cases e
            refine gname_ ⟨tb4, fun fl c H5 sx tb1 hf hfT ho => ⟨_, rfl, _, _, rfl, rfl, fun c1 c2 e1 e2 ne h1 h2 => ?_⟩⟩
            have sm : Same H5 (upd (upd H5 c1 (CellO c1 (.ref lw))) c2 (CellO c2 (.ref lb))) := (same_upd h1).trans (same_upd (by rw [upd_ne (Ne.symm ne)]; exact h2))
            refine q1 fl _ lw lb c (SameX.trans (SameX.trans (.of s04) sx) (.of sm)) (tb1.same sm) ⟨c, c1, c2, ?_, sm _ _ tb1.2, ?_, upd_same, ne⟩ (sm _ _ (sx _ _ (nT _ _ (s4 _ _ e3)) (s4 _ _ e3))) (sm _ _ (sx _ _ (nT _ _ e4) ?_))
            · rw [e1, e2] at sm ⊢
              exact sm _ _ ho
            · rw [upd_ne ne, upd_same]
            · rw [e4]; unfold barredL; rw [List.map_map]; rfl
      · have ea : ((wordsL x).map (fun p => decide (GoodW p))).all id = false := by
          rw [← Bool.not_eq_true]
          intro z
          refine gd fun p hp => of_decide_eq_true (List.all_eq_true.mp z _ (List.mem_map.mpr ⟨p, hp, rfl⟩))
        rw [ea]
        refine iteT ?_
        exact ⟨sz20 (Nat.le_of_ble_eq_true rfl), q2 (.inr ⟨x, rfl, gd⟩) H2 (n1.same.trans s2)⟩
end
section
variable {P : Program} {w : World} {K : PySem.W.Frag} {mg : Str → Option Value} {base : Heap} {C_BookError C_NoName C_NoMark : Addr}
theorem cs_lets : CloS "marks" "wanted" "barred" (defScope s_lets) := ⟨rfl, rfl, rfl, rfl, rfl, rfl, by decide, by decide, by decide, by decide +kernel, fun h => rfl, fun n cl => rfl⟩
def letsB (ws bs ms : List (List Nat)) : Bool := (ws.all fun w => decide (w ∈ ms)) && !(bs.any fun w => decide (w ∈ ms))
theorem in_tx (w : List Nat) (ms : List (List Nat)) : inV (tS w) (ms.map tS) = decide (w ∈ ms) := by
  unfold inV
  rw [Bool.eq_iff_iff, List.any_eq_true, decide_eq_true_iff]
  constructor
  · rintro ⟨v, hv, e⟩
    obtain ⟨m, hm, rfl⟩ := List.mem_map.mp hv
    have e2 : S m = S w := beq_iff_eq.mp e
    rw [← S_inj e2]; exact hm
  · intro h
    exact ⟨_, List.mem_map.mpr ⟨w, h, rfl⟩, beq_self_eq_true (S w)⟩
theorem flat_tx (ms : List (List Nat)) : (ms.map tS).all flatV = true := List.all_eq_true.mpr fun v hv => by
  obtain ⟨m, _, rfl⟩ := List.mem_map.mp hv
  rfl
def spl (m v1 v2 : V) (H : Hp) (Q : VK) : Prop := ∃ (pm p1 p2 : Addr) (ms ws bs : List (List Nat)), m = .ref pm ∧ v1 = .ref p1 ∧ v2 = .ref p2 ∧ H pm = some (.lst (ms.map tS)) ∧ H p1 = some (.lst (ws.map tS)) ∧ H p2 = some (.lst (bs.map tS)) ∧ ms.length ≤ 20000 ∧ ws.length ≤ 20000 ∧ bs.length ≤ 20000 ∧ ∀ H', Same H H' → Q (.bl (letsB ws bs ms)) H'
theorem D_lets {X : Cx} (T : Txt X.K X.mg C_BookError C_NoName C_NoMark) (hr : Room 2 X.A) : CloR X "lets" qualL s_lets "wanted" "barred" spl := by
  intro pins σ H s f m v1 v2 um Q I hC rm ⟨pm, p1, p2, ms, ws, bs, em, e1, e2, hm, hw, hb, lm, lw, lb, q⟩
  refine run_clo (x := "marks") (k := 1) cs_lets hr I hC rm (fun _ _ _ _ _ _ => rfl) fun c c1 c2 A outer s hr h1 h2 => ⟨_,
    (pss_one (ps_ret (pe_and (pe_callB (call_all rfl) rfl T.b_all bt_all (pa_cons (pe_lc (vars := ["mark"]) (frees := ["marks"]) (fv := [0]) rfl (lcOk rfl rfl (by decide +kernel) (by decide +kernel) (by intro p hp; simp only [List.mem_cons, List.not_mem_nil, or_false] at hp; rcases hp with rfl <;> rfl) rfl) ⟨⟨rfl, .inl rfl, rfl, .inl rfl⟩, trivial⟩ (pi_list (pe_var (i := 1) rfl (.inr (.inr rfl)))) (gk_name (by decide)) (fun _ _ _ _ => (pg_name (i := 0) (show (["mark", "marks"] : List Str).Nodup by decide +kernel) rfl (Or.inl rfl))) (fun _ _ _ _ => pif_none) (fun _ _ _ _ => (pe_cmpR (show OpR _ _ (rIn X.K false) from op_in_seq) (pv 0) (pv 1) rfl))) pa_nil))
      (pe_one (pe_not (pe_callB (call_any rfl) rfl T.b_any bt_any (pa_cons (pe_lc (vars := ["mark"]) (frees := ["marks"]) (fv := [0]) rfl (lcOk rfl rfl (by decide +kernel) (by decide +kernel) (by intro p hp; simp only [List.mem_cons, List.not_mem_nil, or_false] at hp; rcases hp with rfl <;> rfl) rfl) ⟨⟨rfl, .inl rfl, rfl, .inl rfl⟩, trivial⟩ (pi_list (pe_var (i := 2) rfl (.inr (.inr rfl)))) (gk_name (by decide)) (fun _ _ _ _ => (pg_name (i := 0) (show (["mark", "marks"] : List Str).Nodup by decide +kernel) rfl (Or.inl rfl))) (fun _ _ _ _ => pif_none) (fun _ _ _ _ => (pe_cmpR (show OpR _ _ (rIn X.K false) from op_in_seq) (pv 0) (pv 1) rfl))) pa_nil))))))), ?_⟩
  subst em e1 e2
  have dl : ∀ b xs, H b = some (.lst xs) → drop2 H c1 c2 b = some (.lst xs) := fun b xs e => by
    unfold drop2
    rw [if_neg fun z => ?_]
    · exact e
    · rcases z with z | z
      · rw [z, h1] at e; cases e
      · rw [z, h2] at e; cases e
  have ps : ∀ H', Same (drop2 H c1 c2) H' → Same H (put2 H H' c1 c2) := fun H' s' b o e => by
    unfold put2
    by_cases z : b = c1 ∨ b = c2
    · rw [if_pos z]; exact e
    · rw [if_neg z]; exact s' b o (by unfold drop2; rw [if_neg z]; exact e)
  have hm' := dl _ _ hm
  have hw' := dl _ _ hw
  have hb' := dl _ _ hb
  refine ⟨_, rfl, p1, rfl, ⟨_, SqL.of hw'⟩, lc_tx (ws := ws) (fun w => .bl (decide (w ∈ ms))) (fun _ => true) (SqL.of hw') lw (fun p hp H2 R s2 hR => ?_) fun pl H2 s2 _ e2 => ?_⟩
  · refine gname_ (yes_ (iteT ?_))
    refine ⟨_, rfl, _, rfl, pm, ms.map tS, rfl, .inl (SqL.of (s2 _ _ hm')), rfl, flat_tx ms, ?_⟩
    have := hR H2 (Same.refl _)
    rw [if_pos rfl] at this
    rw [in_tx]
    exact this
  · rw [List.filter_eq_self.mpr (by simp)] at e2
    have ea : ws.all (fun w => decide (w ∈ ms)) = (ws.map fun w => decide (w ∈ ms)).all id := by rw [List.all_map]; rfl
    refine ⟨pl, ws.map fun w => decide (w ∈ ms), rfl, SqL.of (by rw [List.map_map]; exact e2), ⟨_, rfl, ?_⟩⟩
    rw [← ea]
    by_cases al : ws.all (fun w => decide (w ∈ ms)) = true
    · rw [if_pos al]
      have hb2 := s2 _ _ hb'
      refine ⟨_, rfl, p2, rfl, ⟨_, SqL.of hb2⟩, lc_tx (ws := bs) (fun w => .bl (decide (w ∈ ms))) (fun _ => true) (SqL.of hb2) lb (fun p hp H3 R s3 hR => ?_) fun pl2 H3 s3 _ e3 => ?_⟩
      · refine gname_ (yes_ (iteT ?_))
        refine ⟨_, rfl, _, rfl, pm, ms.map tS, rfl, .inl (SqL.of (s3 _ _ (s2 _ _ hm'))), rfl, flat_tx ms, ?_⟩
        have := hR H3 (Same.refl _)
        rw [if_pos rfl] at this
        rw [in_tx]
        exact this
      · rw [List.filter_eq_self.mpr (by simp)] at e3
        refine ⟨pl2, bs.map fun w => decide (w ∈ ms), rfl, SqL.of (by rw [List.map_map]; exact e3), ⟨_, rfl, ?_⟩⟩
        have eb : (bs.map fun w => decide (w ∈ ms)).any id = bs.any fun w => decide (w ∈ ms) := by rw [List.any_map]; rfl
        have := q _ (ps H3 (s2.trans s3))
        unfold letsB at this
        rw [al, Bool.true_and] at this
        rw [eb]
        exact this
    · rw [if_neg al]
      have := q _ (ps H2 s2)
      unfold letsB at this
      rw [Bool.eq_false_iff.mpr al, Bool.false_and] at this
      exact this
end
section
variable {P : Program} {w : World} {K : PySem.W.Frag} {mg : Str → Option Value} {base : Heap} {C_BookError C_NoName C_NoMark : Addr}
inductive sp_lcell (K : PySem.W.Frag) (vs : List V) (H : Hp) (Q : VK) (E_ : XK) : Prop
  | mk : ∀ (a : Addr) (ns : List Int) (k : Int), vs = [.ref a, .int k] → SqL K H a (List.map V.int ns) → 0 ≤ k → (∀ i, Q (.int i) H) → sp_lcell K vs H Q E_
theorem D__law_cell_at (T : Txt K mg C_BookError C_NoName C_NoMark) : DefOk P w K mg base 1 "_law_cell_at" ["_law_script", "_law_k"] (sp_lcell K) := by
  obtain ⟨f, fd, F, hm⟩ := T.f__law_cell_at
  have nd := sc__law_cell_at.nd
  refine F.def_ hm (F.ok sc__law_cell_at (fun vs H Q E h => ?_) (fun cdv A outer s H vs Q E hr h => ?_)) (F.binds fun _ _ _ _ _ _ us hl => by obtain ⟨_, _, rfl⟩ := L2.lq2 hl; rfl)
  · obtain ⟨a, ns, k, rfl, _⟩ := h; rfl
  · obtain ⟨a, ns, k, rfl, hS, h0, q⟩ := h
    refine ⟨_, (pss_cons (ps_if (pt_cmpR op_lt (pv 1) (pe_callB call_len_seq rfl T.b_len bt_len (pa_cons (pv 0) pa_nil)) (nomark _))
        (pss_one (ps_ret (pe_ix ix_list (pv 0) (pv 1) (fun _ _ => rfl))))
        pss_nil)
      (pss_one (ps_ret pe_int))), ?_⟩
    walk_at "r"
    refine ite2 (fun z => ?_) fun z => ?_
    · have z' : k < ns.length := by simpa using z
      have hk : k.toNat < ns.length := by omega
      have hi : atI (ns.map V.int) k = some (.int ns[k.toNat]) := by
        have := atI_nat (xs := ns.map V.int) (j := k.toNat) (v := V.int ns[k.toNat]) (by simp [hk])
        rwa [Int.toNat_of_nonneg h0] at this
      walk_at "r"; exact q _
    · exact q 0
theorem GoodW.len {p : List Nat} (h : GoodW p) : 1 ≤ p.length ∧ p.length ≤ 9 := by
  rcases h with h | h
  · have a := h.1; have b := h.2.1; omega
  · have a := h.2.1; have b := h.2.2.1; simp at a b; omega
theorem GoodW.no {p : List Nat} (h : GoodW p) : 32 ∉ p := by
  intro z
  rcases h with h | h
  · have := h.2.2 _ z; omega
  · cases p with
    | nil => cases z
    | cons a l =>
      have h1 := h.1
      simp at h1
      rcases List.mem_cons.mp z with e | e
      · omega
      · have := h.2.2.2 _ (show 32 ∈ (a :: l).drop 1 from e); omega
def sp_lwords : Sp := fun vs H Q _ => ∃ d, vs = [.int d] ∧ ∀ (l : Addr) (ws : List (List Nat)) (H' : Hp), New H H' l (.lst (ws.map tS)) → ws.length ≤ 6 → (∀ w ∈ ws, GoodW w) → Q (.ref l) H'
theorem at3w {i : Int} (h0 : 0 ≤ i) (h1 : i < 3) : ∃ c, atI [tS [], tS [], tS [45]] i = some (tS c) ∧ (c = [] ∨ c = [45]) := by
  rcases (show i = 0 ∨ i = 1 ∨ i = 2 by omega) with rfl | rfl | rfl
  · exact ⟨_, rfl, .inl rfl⟩
  · exact ⟨_, rfl, .inl rfl⟩
  · exact ⟨_, rfl, .inr rfl⟩
theorem D__law_words (T : Txt K mg C_BookError C_NoName C_NoMark) : DefOk P w K mg base 3 "_law_words" ["_law_draw"] sp_lwords := by
  obtain ⟨f, fd, F, hm⟩ := T.f__law_words
  have nd := sc__law_words.nd
  refine F.def_ hm (F.ok sc__law_words (fun vs H Q E h => ?_) (fun cdv A outer s H vs Q E hr h => ?_)) (F.binds fun _ _ _ _ _ _ us hl => by obtain ⟨_, rfl⟩ := L2.lq1 hl; rfl)
  · obtain ⟨d, rfl, _⟩ := h; rfl
  · obtain ⟨d, rfl, q⟩ := h
    refine ⟨_, (pss_cons (ps_set (i := 1) nd rfl (Or.inl rfl) (pe_lstN pa_nil))
      (pss_cons (ps_for PassesOwn.never rfl (pi_range1 rfl T.b_range (pa_cons (pe_op op_mod (pe_fn (D__law_mixed T) (hr.mono (by decide)) rfl (pa_cons (pv 0) (pa_cons pe_int pa_nil))) pe_int) pa_nil)) (pg_name (i := 2) nd rfl (Or.inl rfl))
        (pss_cons (ps_set (i := 3) nd rfl (Or.inl rfl) (pe_fn (D__law_mark T) (hr.mono (by decide)) rfl (pa_cons (pv 0) (pa_cons (pe_op op_mod (pe_fn (D__law_mixed T) (hr.mono (by decide)) rfl (pa_cons (pv 0) (pa_cons (pe_op op_add pe_int (pv 2)) pa_nil))) pe_int) pa_nil))))
      (pss_one (ps_expr (pe_bm PySem.F.plainAttrs_list PySem.F.slot_list_append PySem.F.type_list_append mt_appendN (pv 1) (pa_cons (pe_op op_add_str (pe_ix ix_list (pe_lstN (pa_cons pe_str (pa_cons pe_str (pa_cons pe_str pa_nil)))) (pe_op op_mod (pe_fn (D__law_mixed T) (hr.mono (by decide)) rfl (pa_cons (pv 0) (pa_cons (pe_op op_add pe_int (pv 2)) pa_nil))) pe_int) (fun _ _ => rfl)) (pv 3)) pa_nil))))))
      (pss_one (ps_ret (pv 1))))), ?_⟩
    rw [w_minus, w_empty]
    walk_at "r"; intro l H1 n1
    walk_at "r"
    intro m m0 m1
    walk_at "r"
    have m7 : 0 ≤ m % 7 ∧ m % 7 < 7 := by omega
    refine for_range (n := (m % 7).toNat) (fun i σ H2 => Same H H2 ∧ ∃ (ws : List (List Nat)) (v2 v3 : Option V), H2 l = some (.lst (ws.map tS)) ∧ ws.length = i ∧ (∀ w ∈ ws, GoodW w) ∧ σ = [some (.int d), some (.ref l), v2, v3]) ⟨n1.same, [], none, none, n1.at_, rfl, (fun x hx => by cases hx), rfl⟩ ?_ ?_
    · rintro i σ H2 hi ⟨s2, ws, v2, v3, hl, hn, hg, rfl⟩
      rw [Int.zero_add]
      walk_at "r"
      intro a a0 a1
      walk_at "r"
      intro x H3 s3 hx
      walk_at "r"
      intro p H4 n4
      walk_at "r"
      intro b b0 b1
      obtain ⟨c, hc, hc2⟩ := at3w (i := b % 3) (by omega) (by omega)
      walk_at "r"
      have lc : c.length ≤ 1 := by rcases hc2 with rfl | rfl <;> simp
      have lx := hx.2.1
      have l4 := n4.same _ _ (s3 _ _ hl)
      refine ⟨sz20 (by rw [S_len, S_len]; omega), ?_⟩
      rw [S_cat]
      refine ⟨l, _, _, rfl, rfl, l4, by rw [List.length_map, sizeLine_eq]; omega, fun H5 b5 h5 => ?_⟩
      refine ⟨b5.same ((s2.trans s3).trans n4.same) n1.fresh, ws ++ [c ++ x], _, _, by rw [List.map_append]; exact h5, by simp [hn], fun w hw => ?_, rfl⟩
      rcases List.mem_append.mp hw with z | z
      · exact hg w z
      · rw [List.mem_singleton.mp z]
        rcases hc2 with rfl | rfl
        · exact .inl hx
        · exact .inr ⟨rfl, hx⟩
    · rintro σ H2 ⟨s2, ws, v2, v3, hl, hn, hg, rfl⟩
      refine ⟨_, rfl, ?_⟩
      exact q l ws H2 ⟨s2, n1.fresh, hl⟩ (by omega) hg
end
section
variable {P : Program} {w : World} {K : PySem.W.Frag} {mg : Str → Option Value} {base : Heap} {C_BookError C_NoName C_NoMark : Addr}
theorem tv_S {H : Hp} (x : List Nat) (h : x.length ≤ 3000) : TextV H (.str (S x)) := .inl ⟨x, rfl, h⟩
def sp_spoilt62 : Sp := fun vs H Q _ => ∃ (x : List Nat) (d : Int), vs = [.str (S x), .int d] ∧ x.length ≤ 100 ∧ ∀ v H', Same H H' → TextV H' v → Q v H'
theorem w_sig8 : (Str.ofString " -_A1x.\n") = S [32, 45, 95, 65, 49, 120, 46, 10] := by decide +kernel
theorem w_bmin : (Str.ofString " -") = S [32, 45] := by decide +kernel
theorem w_babc : (Str.ofString " abcdefghi") = S [32, 97, 98, 99, 100, 101, 102, 103, 104, 105] := by decide +kernel
theorem sig8_at {i : Int} (h0 : 0 ≤ i) (h9 : i < 8) : ∃ d, [32, 45, 95, 65, 49, 120, 46, 10][i.toNat]? = some d :=
  ⟨_, List.getElem?_eq_getElem (by simp; omega)⟩
theorem at4w {i : Int} (h0 : 0 ≤ i) (h1 : i < 4) : ∃ c : List Nat, atI [tS [32], tS [45], tS [32, 45], tS [32, 97, 98, 99, 100, 101, 102, 103, 104, 105]] i = some (tS c) ∧ c.length ≤ 10 := by
  rcases (show i = 0 ∨ i = 1 ∨ i = 2 ∨ i = 3 by omega) with rfl | rfl | rfl | rfl
  · exact ⟨_, rfl, by decide⟩
  · exact ⟨_, rfl, by decide⟩
  · exact ⟨_, rfl, by decide⟩
  · exact ⟨_, rfl, by decide⟩
theorem at4o {i : Int} {p : Addr} {xs : List V} {H : Hp} (hp : H p = some (.lst xs)) (h0 : 0 ≤ i) (h1 : i < 4) : ∃ v, atI [V.non, V.int 5, V.ref p, V.bl true] i = some v ∧ OddV H v := by
  rcases (show i = 0 ∨ i = 1 ∨ i = 2 ∨ i = 3 by omega) with rfl | rfl | rfl | rfl
  · exact ⟨_, rfl, .inl rfl⟩
  · exact ⟨_, rfl, .inr (.inl ⟨_, rfl⟩)⟩
  · exact ⟨_, rfl, .inr (.inr (.inr (.inr ⟨_, _, rfl, hp⟩)))⟩
  · exact ⟨_, rfl, .inr (.inr (.inl ⟨_, rfl⟩))⟩
theorem D__law_spoilt (T : Txt K mg C_BookError C_NoName C_NoMark) : DefOk P w K mg base 3 "_law_spoilt" ["_law_text", "_law_draw"] sp_spoilt62 := by
  obtain ⟨f, fd, F, hm⟩ := T.f__law_spoilt
  have nd := sc__law_spoilt.nd
  refine F.def_ hm (F.ok sc__law_spoilt (fun vs H Q E h => ?_) (fun cdv A outer s H vs Q E hr h => ?_)) (F.binds fun _ _ _ _ _ _ us hl => by obtain ⟨_, _, rfl⟩ := L2.lq2 hl; rfl)
  · obtain ⟨x, d, rfl, _⟩ := h; rfl
  · obtain ⟨x, d, rfl, hx, q⟩ := h
    refine ⟨_, (pss_cons (ps_set (i := 2) nd rfl (Or.inl rfl) (pe_op op_mod (pe_fn (D__law_mixed T) (hr.mono (by decide)) rfl (pa_cons (pv 1) (pa_cons pe_int pa_nil))) (pe_op op_add (pe_callB call_lenS rfl T.b_len bt_len (pa_cons (pv 0) pa_nil)) pe_int)))
      (pss_cons (ps_set (i := 3) nd rfl (Or.inl rfl) (pe_op op_mod (pe_fn (D__law_mixed T) (hr.mono (by decide)) rfl (pa_cons (pv 1) (pa_cons pe_int pa_nil))) pe_int))
      (pss_cons (ps_if (pt_cmpR op_eq (pv 3) pe_int (nomark _))
        (pss_one (ps_ret (pe_op op_add_str (pe_op op_add_str (pe_slice sl_str (pv 0) po_none (po_some (pv 2))) (pe_ixS pe_str (pe_op op_mod (pe_fn (D__law_mixed T) (hr.mono (by decide)) rfl (pa_cons (pv 1) (pa_cons pe_int pa_nil))) pe_int) (fun _ _ => rfl))) (pe_slice sl_str (pv 0) (po_some (pv 2)) po_none))))
        pss_nil)
      (pss_cons (ps_if (pt_cmpR op_eq (pv 3) pe_int (nomark _))
        (pss_one (ps_ret (pe_op op_add_str (pe_slice sl_str (pv 0) po_none (po_some (pv 2))) (pe_slice sl_str (pv 0) (po_some (pe_op op_add (pv 2) pe_int)) po_none))))
        pss_nil)
      (pss_cons (ps_if (pt_cmpR op_eq (pv 3) pe_int (nomark _))
        (pss_one (ps_ret (pe_op op_add_str (pv 0) (pe_ix ix_list (pe_lstN (pa_cons pe_str (pa_cons pe_str (pa_cons pe_str (pa_cons pe_str pa_nil))))) (pe_op op_mod (pe_fn (D__law_mixed T) (hr.mono (by decide)) rfl (pa_cons (pv 1) (pa_cons pe_int pa_nil))) pe_int) (fun _ _ => rfl)))))
        pss_nil)
      (pss_cons (ps_if (pt_cmpR op_eq (pv 3) pe_int (nomark _))
        (pss_one (ps_ret (pe_ix ix_list (pe_lstN (pa_cons pe_non (pa_cons pe_int (pa_cons (pe_lstN (pa_cons pe_str pa_nil)) (pa_cons pe_bl pa_nil))))) (pe_op op_mod (pe_fn (D__law_mixed T) (hr.mono (by decide)) rfl (pa_cons (pv 1) (pa_cons pe_int pa_nil))) pe_int) (fun _ _ => rfl))))
        pss_nil)
      (pss_one (ps_ret (pv 0))))))))), ?_⟩
    have r := Same.refl H
    walk_at "r"
    intro m m0 m1
    have hz := sz20 (show x.length ≤ 20000 by omega)
    obtain ⟨k, hk⟩ := Int.eq_ofNat_of_zero_le (Int.emod_nonneg m (show ((x.length : Int) + 1) ≠ 0 by omega))
    have hk1 := Int.emod_lt_of_pos m (show (0 : Int) < (x.length : Int) + 1 by omega)
    rw [hk] at hk1
    have lk : k ≤ x.length := by omega
    walk_at "r"
    rw [hk]
    intro m2 m20 m21
    walk_at "r"
    refine ite2 (fun z => ?_) fun z => ?_
    · walk_at "r"
      rw [sl_take x lk, w_sig8]
      refine ⟨sz20 (by rw [S_len, List.length_take]; omega), ?_⟩
      walk_at "r"
      intro m3 m30 m31
      obtain ⟨c, hc⟩ := sig8_at (i := m3 % 8) (by omega) (by omega)
      walk_at "r"
      refine ⟨_, _, c, rfl, rfl, (by omega), by omega, hc, ?_⟩
      walk_at "r"
      refine ⟨sz20 (by rw [S_len, S_len, List.length_take]; simp; omega), ?_⟩
      rw [S_cat]
      walk_at "r"
      rw [sl_drop x k]
      refine ⟨sz20 (by rw [S_len, List.length_drop]; omega), ?_⟩
      walk_at "r"
      refine ⟨sz20 (by rw [S_len, S_len]; simp; omega), ?_⟩
      rw [S_cat]
      exact q _ H r (tv_S _ (by simp; omega))
    walk_at "r"
    refine ite2 (fun z => ?_) fun z => ?_
    · walk_at "r"
      rw [sl_take x lk]
      refine ⟨sz20 (by rw [S_len, List.length_take]; omega), ?_⟩
      walk_at "r"
      rw [show ((k : Int) + 1) = ((k + 1 : Nat) : Int) by omega, sl_drop x (k + 1)]
      refine ⟨sz20 (by rw [S_len, List.length_drop]; omega), ?_⟩
      walk_at "r"
      refine ⟨sz20 (by rw [S_len, S_len]; simp; omega), ?_⟩
      rw [S_cat]
      exact q _ H r (tv_S _ (by simp; omega))
    walk_at "r"
    refine ite2 (fun z => ?_) fun z => ?_
    · rw [w_blank, w_minus, w_bmin, w_babc]
      walk_at "r"
      intro p H2 n2
      walk_at "r"
      intro m3 m30 m31
      obtain ⟨c, hc, lc⟩ := at4w (i := m3 % 4) (by omega) (by omega)
      walk_at "r"
      refine ⟨sz20 (by rw [S_len, S_len]; omega), ?_⟩
      rw [S_cat]
      exact q _ H2 n2.same (tv_S _ (by simp; omega))
    walk_at "r"
    refine ite2 (fun z => ?_) fun z => ?_
    · walk_at "r"
      intro p H2 n2
      walk_at "r"
      intro p2 H3 n3
      walk_at "r"
      intro m3 m30 m31
      obtain ⟨v, hv, ov⟩ := at4o (H := H3) (p := p) (i := m3 % 4) (n3.same _ _ n2.at_) (by omega) (by omega)
      walk_at "r"
      exact q _ H3 (n2.same.trans n3.same) (.inr ov)
    exact ⟨_, rfl, q _ H r (tv_S _ (by omega))⟩
def sp_lmarks : Sp := fun vs H Q _ => ∃ d e, vs = [.int d, .int e] ∧ ∀ (l : Addr) (ms : List (List Nat)) (H' : Hp), New H H' l (.lst (ms.map tS)) → ms.length ≤ 6 → (∀ m ∈ ms, SmallW 8 m) → Q (.ref l) H'
theorem D__law_marks (T : Txt K mg C_BookError C_NoName C_NoMark) : DefOk P w K mg base 3 "_law_marks" ["_law_draw", "_law_one"] sp_lmarks := by
  obtain ⟨f, fd, F, hm⟩ := T.f__law_marks
  have nd := sc__law_marks.nd
  refine F.def_ hm (F.ok sc__law_marks (fun vs H Q E h => ?_) (fun cdv A outer s H vs Q E hr h => ?_)) (F.binds fun _ _ _ _ _ _ us hl => by obtain ⟨_, _, rfl⟩ := L2.lq2 hl; rfl)
  · obtain ⟨d, e, rfl, _⟩ := h; rfl
  · obtain ⟨d, e, rfl, q⟩ := h
    refine ⟨_, (pss_cons (ps_set (i := 2) nd rfl (Or.inl rfl) (pe_lstN pa_nil))
      (pss_cons (ps_for PassesOwn.never rfl (pi_range1 rfl T.b_range (pa_cons (pe_op op_mod (pe_fn (D__law_mixed T) (hr.mono (by decide)) rfl (pa_cons (pv 0) (pa_cons pe_int pa_nil))) pe_int) pa_nil)) (pg_name (i := 3) nd rfl (Or.inl rfl))
        (pss_cons (ps_set (i := 4) nd rfl (Or.inl rfl) (pe_fn (D__law_mark T) (hr.mono (by decide)) rfl (pa_cons (pv 1) (pa_cons (pe_op op_mod (pe_fn (D__law_mixed T) (hr.mono (by decide)) rfl (pa_cons (pv 0) (pa_cons (pe_op op_add pe_int (pv 3)) pa_nil))) pe_int) pa_nil))))
      (pss_one (ps_if (pt_cmpR op_notIn_seq (pv 4) (pv 2) rfl)
        (pss_one (ps_expr (pe_bm PySem.F.plainAttrs_list PySem.F.slot_list_append PySem.F.type_list_append mt_appendN (pv 2) (pa_cons (pv 4) pa_nil))))
        pss_nil))))
      (pss_one (ps_ret (pv 2))))), ?_⟩
    walk_at "r"; intro l H1 n1
    walk_at "r"
    intro m m0 m1
    walk_at "r"
    have m7 : 0 ≤ m % 7 ∧ m % 7 < 7 := by omega
    refine for_range (n := (m % 7).toNat) (fun i σ H2 => Same H H2 ∧ ∃ (ms : List (List Nat)) (v2 v3 : Option V), H2 l = some (.lst (ms.map tS)) ∧ ms.length ≤ i ∧ (∀ m ∈ ms, SmallW 8 m) ∧ σ = [some (.int d), some (.int e), some (.ref l), v2, v3]) ⟨n1.same, [], none, none, n1.at_, Nat.le_refl _, by simp, rfl⟩ ?_ ?_
    · rintro i σ H2 hi ⟨s2, ms, v2, v3, hl, hn, hg, rfl⟩
      rw [Int.zero_add]
      walk_at "r"
      intro a a0 a1
      walk_at "r"
      intro x H3 s3 hx
      have l3 := s3 _ _ hl
      walk_at "r"
      refine ⟨flat_tx ms, _, rfl, ?_⟩
      refine ite2 (fun z => ?_) fun z => ?_
      · have hz : (ms.map tS).length < sizeLine := by rw [List.length_map, sizeLine_eq]; omega
        walk_at "r"
        intro H5 b5 h5
        exact ⟨b5.same (s2.trans s3) n1.fresh, ms ++ [x], _, _, by rw [List.map_append]; exact h5, by simp; omega, fun y hy => (List.mem_append.mp hy).elim (hg y) fun z => by rw [List.mem_singleton.mp z]; exact hx, rfl⟩
      · exact ⟨s2.trans s3, ms, _, _, l3, by omega, hg, rfl⟩
    · rintro σ H2 ⟨s2, ms, v2, v3, hl, hn, hg, rfl⟩
      refine ⟨_, rfl, ?_⟩
      exact q l ms H2 ⟨s2, n1.fresh, hl⟩ (by omega) hg
def sp_lsame : Sp := fun vs H Q _ => ∃ a b : Bool, vs = [.bl a, .bl b] ∧ Q (.bl (a == b)) H
theorem D__law_same (T : Txt K mg C_BookError C_NoName C_NoMark) : DefOk P w K mg base 1 "_law_same" ["_law_found", "_law_due_here"] sp_lsame := by
  obtain ⟨f, fd, F, hm⟩ := T.f__law_same
  have nd := sc__law_same.nd
  refine F.def_ hm (F.ok sc__law_same (fun vs H Q E h => ?_) (fun cdv A outer s H vs Q E hr h => ?_)) (F.binds fun _ _ _ _ _ _ us hl => by obtain ⟨_, _, rfl⟩ := L2.lq2 hl; rfl)
  · obtain ⟨a, b, rfl, _⟩ := h; rfl
  · obtain ⟨a, b, rfl, q⟩ := h
    refine ⟨_, (pss_one (ps_ret (pe_and (pe_callB call_isi rfl T.b_isinstance bt_isinstance (pa_cons (pv 0) (pa_cons (pe_bltn (v := .ty "bool") rfl T.b_bool bt_bool rfl) pa_nil))) (pe_one (pe_cmpR op_eq (pv 0) (pv 1) (nomark _)))))), ?_⟩
    walk_at "r"
    rw [dec_bl]
    exact q
end
section
variable {P : Program} {w : World} {K : PySem.W.Frag} {mg : Str → Option Value} {base : Heap} {C_BookError C_NoName C_NoMark : Addr}
def markOf (w : List Nat) : List Nat := if w.take 1 = [45] then w.drop 1 else w
theorem good_mark (w : List Nat) : GoodW w ↔ SmallW 8 (markOf w) := by
  unfold markOf
  by_cases t : w.take 1 = [45]
  · rw [if_pos t]
    refine ⟨fun h => h.elim (fun z => ?_) fun z => z.2, fun h => .inr ⟨t, h⟩⟩
    cases w with
    | nil => cases t
    | cons a l =>
      simp at t
      have := z.2.2 a (.head _)
      omega
  · rw [if_neg t]
    exact ⟨fun h => h.elim id fun z => absurd z.1 t, .inl⟩
theorem mark_len (w : List Nat) : (markOf w).length ≤ w.length := by
  unfold markOf
  split
  · rw [List.length_drop]; omega
  · exact Nat.le_refl _
theorem sl_take1 (x : List Nat) : slS (S x) none (some 1) = S (x.take 1) := by
  cases x with
  | nil => decide +kernel
  | cons a l => exact sl_take (a :: l) (k := 1) (by simp)
theorem nrm62 {F : St → Hp → Prop} {σ σ' : St} {H : Hp} (e : σ = σ') (h : F σ' H) : F σ H := e ▸ h
def PartAt (H : Hp) (l : Addr) (ws : List (List Nat)) : Prop := ∃ rs : List V, H l = some (.lst rs) ∧ rs.length = ws.length ∧ ∀ (i : Nat) w, ws[i]? = some w → ∃ t, rs[i]? = some (.ref t) ∧ H t = some (.tup [tS (markOf w), .bl (decide (markOf w = w))])
theorem PartAt.same {H H' : Hp} {l : Addr} {ws : List (List Nat)} (h : PartAt H l ws) (s : Same H H') : PartAt H' l ws :=
  let ⟨rs, a, b, c⟩ := h; ⟨rs, s _ _ a, b, fun i w e => let ⟨t, x, y⟩ := c i w e; ⟨t, x, s _ _ y⟩⟩
theorem PartAt.sameX {H H' : Hp} {l T : Addr} {ws : List (List Nat)} {ps : Array Value} (h : PartAt H l ws) (hT : H T = some (.tbl ps)) (s : SameX T H H') : PartAt H' l ws := by
  obtain ⟨rs, a, b, c⟩ := h
  refine ⟨rs, s _ _ (fun z => by rw [z, hT] at a; cases a) a, b, fun i w e => ?_⟩
  obtain ⟨t, x, y⟩ := c i w e
  exact ⟨t, x, s _ _ (fun z => by rw [z, hT] at y; cases y) y⟩
def sp_parted : Sp := fun vs H Q _ => ∃ v, vs = [v] ∧ TextV H v ∧ (∀ x, v = .str (S x) → (∀ p ∈ wordsL x, GoodW p) → ∀ l H', Same H H' → H l = none → PartAt H' l (wordsL x) → Q (.ref l) H') ∧ ((OddV H v ∨ ∃ x, v = .str (S x) ∧ ¬ ∀ p ∈ wordsL x, GoodW p) → ∀ H', Same H H' → Q .non H')
theorem D__law_parted (T : Txt K mg C_BookError C_NoName C_NoMark) : DefOk P w K mg base 1 "_law_parted" ["_law_text"] sp_parted := by
  obtain ⟨f, fd, F, hm⟩ := T.f__law_parted
  have nd := sc__law_parted.nd
  refine F.def_ hm (F.ok sc__law_parted (fun vs H Q E h => ?_) (fun cdv A outer s H vs Q E hr h => ?_)) (F.binds fun _ _ _ _ _ _ us hl => by obtain ⟨_, rfl⟩ := L2.lq1 hl; rfl)
  · obtain ⟨v, rfl, _⟩ := h; rfl
  · obtain ⟨v, rfl, hv, q1, q2⟩ := h
    refine ⟨_, (pss_cons (ps_if (pt_not (pt_val (pe_callB call_isi rfl T.b_isinstance bt_isinstance (pa_cons (pv 0) (pa_cons (pe_bltn (v := .ty "str") rfl T.b_str bt_str rfl) pa_nil)))))
        (pss_one (ps_ret pe_non))
        pss_nil)
      (pss_cons (ps_if (pt_cmpR op_eq (pv 0) pe_str (nomark _))
        (pss_one (ps_ret (pe_lstN pa_nil)))
        pss_nil)
      (pss_cons (ps_set (i := 1) nd rfl (Or.inl rfl) (pe_lstN pa_nil))
      (pss_cons (ps_for PassesOwn.never rfl (pi_list (pe_bm PySem.F.plainAttrs_str PySem.F.slot_str_split PySem.F.type_str_split mt_split (pv 0) (pa_cons pe_str pa_nil))) (pg_name (i := 2) nd rfl (Or.inl rfl))
        (pss_cons (ps_set (i := 3) nd rfl (Or.inl rfl) (pv 2))
      (pss_cons (ps_if (pt_cmpR op_eq (pe_slice sl_str (pv 2) po_none (po_some pe_int)) pe_str (nomark _))
        (pss_one (ps_set (i := 3) nd rfl (Or.inl rfl) (pe_slice sl_str (pv 2) (po_some pe_int) po_none)))
        pss_nil)
      (pss_cons (ps_if (PW.pt (pw_or (pt_cmpR op_eq (pv 3) pe_str (nomark _)) (pw_or1 (pt_cmpR op_gt (pe_callB call_lenS rfl T.b_len bt_len (pa_cons (pv 3) pa_nil)) pe_int (nomark _)))))
        (pss_one (ps_ret pe_non))
        pss_nil)
      (pss_cons (ps_for PassesOwn.never rfl (pi_str (pv 3)) (pg_name (i := 4) nd rfl (Or.inl rfl))
        (pss_one (ps_if (pt_cmpR op_notinS (pv 4) pe_str rfl)
        (pss_one (ps_ret pe_non))
        pss_nil)))
      (pss_one (ps_expr (pe_bm PySem.F.plainAttrs_list PySem.F.slot_list_append PySem.F.type_list_append mt_appendN (pv 1) (pa_cons (pe_tupN (pa_cons (pv 3) (pa_cons (pe_cmpR op_eq (pv 3) (pv 2) (nomark _)) pa_nil))) pa_nil)))))))))
      (pss_one (ps_ret (pv 1))))))), ?_⟩
    rcases hv with ⟨x, rfl, hx⟩ | hv
    · refine ⟨_, rfl, _, _, _, _, rfl, .str _, kit_str K, _, rfl, iteF ?_⟩
      have hz := sz20 (show x.length ≤ 20000 by omega)
      walk_at "r"
      rw [w_empty, S_dec]
      refine ite2 (fun z => ?_) fun z => ?_
      · have e : x = [] := of_decide_eq_true z
        walk_at "r"
        intro l H2 n2
        have ew : wordsL x = [] := by unfold wordsL; rw [if_pos e]
        exact q1 x rfl (by rw [ew]; simp) l H2 n2.same n2.fresh ⟨[], n2.at_, by rw [ew]; rfl, fun i w e => by rw [ew] at e; simp at e⟩
      · have e : ¬ x = [] := fun y => z (decide_eq_true y)
        have ew : wordsL x = splitL 32 x := by unfold wordsL; rw [if_neg e]
        have wl := split_lens 32 x
        have q3 := q1 x rfl
        have q4 : (¬ ∀ p ∈ wordsL x, GoodW p) → ∀ H', Same H H' → Q .non H' := fun z => q2 (.inr ⟨x, rfl, z⟩)
        rw [ew] at q3 q4
        rw [w_blank, w_minus]
        walk_at "r"
        intro l H1 n1
        walk_at "r"
        intro sp H2 n2
        have nl : sp ≠ l := fun z => by have := n2.fresh; rw [z, n1.at_] at this; cases this
        have frs : H sp = none := by
          cases q : H sp with
          | none => rfl
          | some o => have := n1.same _ _ q; rw [n2.fresh] at this; cases this
        refine ⟨_, rfl, ⟨_, SqL.of n2.at_⟩, for_list (xs := (splitL 32 x).map tS) (fun i σ H3 => Same H H3 ∧ H3 sp = some (.lst ((splitL 32 x).map tS)) ∧ (∀ p ∈ (splitL 32 x).take i, GoodW p) ∧ ∃ (rs : List V) (v2 v3 v4 : Option V), H3 l = some (.lst rs) ∧ rs.length = i ∧
          (∀ (j : Nat) w, (splitL 32 x)[j]? = some w → j < i → ∃ t, rs[j]? = some (.ref t) ∧ H3 t = some (.tup [tS (markOf w), .bl (decide (markOf w = w))])) ∧ σ = [some (.str (S x)), some (.ref l), v2, v3, v4])
          ⟨n1.same.trans n2.same, n2.at_, by simp, [], none, none, none, n2.same _ _ n1.at_, rfl, (fun j w _ h => by omega), rfl⟩ (fun i σ H3 _ h => SqL.of h.2.1) ?_ ?_⟩
        · rintro i xv σ H3 hi ⟨s3, hsp, gd, rs, v2, v3, v4, hl, hn, hr, rfl⟩
          obtain ⟨w, hwi, rfl⟩ : ∃ w, (splitL 32 x)[i]? = some w ∧ xv = tS w := by
            rw [List.getElem?_map] at hi
            obtain ⟨w, a, b⟩ := Option.map_eq_some_iff.mp hi
            exact ⟨w, a, b.symm⟩
          have hwm := List.mem_of_getElem? hwi
          have lw : w.length ≤ 3000 := Nat.le_trans (wl.1 w hwm) hx
          have lm : (markOf w).length ≤ 3000 := Nat.le_trans (mark_len w) lw
          have no : ¬ GoodW w → Q .non H3 := fun z => q4 (fun g => z (g w hwm)) H3 s3
          walk_at "r"
          rw [sl_take1]
          refine ⟨sz20 (by rw [S_len, List.length_take]; omega), ?_⟩
          walk_at "r"
          rw [S_dec]
          refine ite2 (fun z => ?w1) fun z => ?w2
          case' w1 =>
            have t1 : w.take 1 = [45] := of_decide_eq_true z
            have em : w.drop 1 = markOf w := by unfold markOf; rw [if_pos t1]
            walk_at "r"
            rw [sl_drop1]
            refine ⟨sz20 (by rw [S_len, List.length_drop]; omega), ?_⟩
            rw [em]
            refine gname_ (nrm62 (σ' := [some (.str (S x)), some (.ref l), some (tS w), some (tS (markOf w)), v4]) rfl ?_)
          case' w2 =>
            have t1 : ¬ w.take 1 = [45] := fun y => z (decide_eq_true y)
            have em : w = markOf w := by unfold markOf; rw [if_neg t1]
            refine nrm62 (σ' := [some (.str (S x)), some (.ref l), some (tS w), some (tS (markOf w)), v4]) (by rw [← em]; rfl) ?_
          · walk_at "r"
            rw [S_dec]
            refine ite2 (fun z => ?_) fun z => ?_
            · exact iteT (no fun g => by have e0 : markOf w = [] := of_decide_eq_true z; have := ((good_mark w).mp g).1; rw [e0] at this; simp at this)
            walk_at "r"
            refine ⟨sz20 (by omega), ?_⟩
            walk_at "r"
            refine ite2 (fun z2 => ?_) fun z2 => ?_
            · exact no fun g => by have := ((good_mark w).mp g).2.1; have := of_decide_eq_true z2; omega
            have l1 : 1 ≤ (markOf w).length := by
              rcases h : markOf w with _ | ⟨a, b⟩
              · exact absurd (decide_eq_true h) z
              · simp
            have l8 : ((markOf w).length : Int) ≤ 8 := by
              have : ¬ ((8 : Int) < ((markOf w).length : Nat)) := fun y => z2 (decide_eq_true y)
              omega
            refine ⟨_, rfl, _, rfl, for_str (x := markOf w) (fun j σ H4 => H4 = H3 ∧ (∀ c ∈ (markOf w).take j, 97 ≤ c ∧ c ≤ 122) ∧ ∃ v4 : Option V, σ = [some (.str (S x)), some (.ref l), some (tS w), some (tS (markOf w)), v4]) ⟨rfl, by simp, _, rfl⟩ ?_ ?_⟩
            · rintro j c σ H4 hc ⟨rfl, hcs, v5, rfl⟩
              refine gname_ ?_
              refine ⟨_, rfl, c, _, rfl, rfl, _, rfl, ?_⟩
              rw [let_in]
              by_cases hlt : 97 ≤ c ∧ c ≤ 122
              · rw [decide_eq_true hlt]
                refine iteF ⟨rfl, fun d hd => ?_, _, rfl⟩
                rw [List.take_add_one, hc] at hd
                rcases List.mem_append.mp hd with y | y
                · exact hcs d y
                · rw [List.mem_singleton.mp y]; exact hlt
              · rw [decide_eq_false hlt]
                exact iteT (no fun g => hlt (((good_mark w).mp g).2.2 c (List.mem_of_getElem? hc)))
            · rintro σ H4 ⟨rfl, hcs, v5, rfl⟩
              rw [List.take_length] at hcs
              have gw : GoodW w := (good_mark w).mpr ⟨l1, l8, hcs⟩
              walk_at "r"
              intro t H5 n5
              have lrs : rs.length < sizeLine := by rw [sizeLine_eq, hn]; have := (List.getElem?_eq_some_iff.mp hwi).1; have := wl.2; omega
              have hl5 := n5.same _ _ hl
              walk_at "r"
              intro H6 b6 h6
              have tl : t ≠ l := fun z => by have := n5.at_; rw [z, hl5] at this; cases this
              refine ⟨b6.same (s3.trans n5.same) n1.fresh, b6 _ _ (n5.same _ _ hsp) nl, fun p hp => ?_, _, _, _, _, h6, by simp [hn], fun j u hj hji => ?_, rfl⟩
              · rw [List.take_add_one, hwi] at hp
                rcases List.mem_append.mp hp with y | y
                · exact gd p y
                · rw [List.mem_singleton.mp y]; exact gw
              · by_cases ej : j = i
                · subst ej
                  rw [hwi] at hj
                  cases hj
                  refine ⟨t, by rw [List.getElem?_append_right (by omega), hn]; simp, ?_⟩
                  have := b6 _ _ n5.at_ tl
                  rw [S_dec] at this
                  exact this
                · obtain ⟨t', ht', hv'⟩ := hr j u hj (by omega)
                  refine ⟨t', by rw [List.getElem?_append_left (by omega)]; exact ht', b6 _ _ (n5.same _ _ hv') fun z => ?_⟩
                  rw [z, hl] at hv'; cases hv'
          · walk_at "r"
            rw [S_dec]
            refine ite2 (fun z => ?_) fun z => ?_
            · exact iteT (no fun g => by have e0 : markOf w = [] := of_decide_eq_true z; have := ((good_mark w).mp g).1; rw [e0] at this; simp at this)
            walk_at "r"
            refine ⟨sz20 (by omega), ?_⟩
            walk_at "r"
            refine ite2 (fun z2 => ?_) fun z2 => ?_
            · exact no fun g => by have := ((good_mark w).mp g).2.1; have := of_decide_eq_true z2; omega
            have l1 : 1 ≤ (markOf w).length := by
              rcases h : markOf w with _ | ⟨a, b⟩
              · exact absurd (decide_eq_true h) z
              · simp
            have l8 : ((markOf w).length : Int) ≤ 8 := by
              have : ¬ ((8 : Int) < ((markOf w).length : Nat)) := fun y => z2 (decide_eq_true y)
              omega
            refine ⟨_, rfl, _, rfl, for_str (x := markOf w) (fun j σ H4 => H4 = H3 ∧ (∀ c ∈ (markOf w).take j, 97 ≤ c ∧ c ≤ 122) ∧ ∃ v4 : Option V, σ = [some (.str (S x)), some (.ref l), some (tS w), some (tS (markOf w)), v4]) ⟨rfl, by simp, _, rfl⟩ ?_ ?_⟩
            · rintro j c σ H4 hc ⟨rfl, hcs, v5, rfl⟩
              refine gname_ ?_
              refine ⟨_, rfl, c, _, rfl, rfl, _, rfl, ?_⟩
              rw [let_in]
              by_cases hlt : 97 ≤ c ∧ c ≤ 122
              · rw [decide_eq_true hlt]
                refine iteF ⟨rfl, fun d hd => ?_, _, rfl⟩
                rw [List.take_add_one, hc] at hd
                rcases List.mem_append.mp hd with y | y
                · exact hcs d y
                · rw [List.mem_singleton.mp y]; exact hlt
              · rw [decide_eq_false hlt]
                exact iteT (no fun g => hlt (((good_mark w).mp g).2.2 c (List.mem_of_getElem? hc)))
            · rintro σ H4 ⟨rfl, hcs, v5, rfl⟩
              rw [List.take_length] at hcs
              have gw : GoodW w := (good_mark w).mpr ⟨l1, l8, hcs⟩
              walk_at "r"
              intro t H5 n5
              have lrs : rs.length < sizeLine := by rw [sizeLine_eq, hn]; have := (List.getElem?_eq_some_iff.mp hwi).1; have := wl.2; omega
              have hl5 := n5.same _ _ hl
              walk_at "r"
              intro H6 b6 h6
              have tl : t ≠ l := fun z => by have := n5.at_; rw [z, hl5] at this; cases this
              refine ⟨b6.same (s3.trans n5.same) n1.fresh, b6 _ _ (n5.same _ _ hsp) nl, fun p hp => ?_, _, _, _, _, h6, by simp [hn], fun j u hj hji => ?_, rfl⟩
              · rw [List.take_add_one, hwi] at hp
                rcases List.mem_append.mp hp with y | y
                · exact gd p y
                · rw [List.mem_singleton.mp y]; exact gw
              · by_cases ej : j = i
                · subst ej
                  rw [hwi] at hj
                  cases hj
                  refine ⟨t, by rw [List.getElem?_append_right (by omega), hn]; simp, ?_⟩
                  have := b6 _ _ n5.at_ tl
                  rw [S_dec] at this
                  exact this
                · obtain ⟨t', ht', hv'⟩ := hr j u hj (by omega)
                  refine ⟨t', by rw [List.getElem?_append_left (by omega)]; exact ht', b6 _ _ (n5.same _ _ hv') fun z => ?_⟩
                  rw [z, hl] at hv'; cases hv'
        · rintro σ H3 ⟨s3, hsp, gd, rs, v2, v3, v4, hl, hn, hr, rfl⟩
          rw [List.length_map] at gd hn hr
          rw [List.take_length] at gd
          refine ⟨_, rfl, q3 gd l H3 s3 n1.fresh ⟨rs, hl, hn, fun j w e => hr j w e (List.getElem?_eq_some_iff.mp e).1⟩⟩
    · obtain ⟨t, ty, kt⟩ := OddV.ty (K := K) hv
      refine ⟨_, rfl, _, _, _, _, rfl, ty, kt, _, rfl, iteT ?_⟩
      exact q2 (.inl hv) H (Same.refl _)
end
section
variable {P : Program} {w : World} {K : PySem.W.Frag} {mg : Str → Option Value} {base : Heap} {C_BookError C_NoName C_NoMark : Addr}
def dueB (ws ms : List (List Nat)) : Bool := ws.all fun w => decide (markOf w ∈ ms) == decide (markOf w = w)
theorem lets_due (ws ms : List (List Nat)) (h : ∀ w ∈ ws, GoodW w) : letsB (wantedL ws) (barredL ws) ms = dueB ws ms := by
  have sm : ∀ w, SmallW 8 w → markOf w = w := fun w s => by
    unfold markOf
    by_cases t : w.take 1 = [45]
    · cases w with
      | nil => cases t
      | cons a l =>
        simp at t
        have := s.2.2 a (.head _)
        omega
    · rw [if_neg t]
  have br : ∀ w, Bar w → markOf w = w.drop 1 ∧ w.drop 1 ≠ w := fun w b => by
    refine ⟨by unfold markOf; rw [if_pos b.1], fun e => ?_⟩
    have e2 := congrArg List.length e
    cases w with
    | nil => have := b.1; cases this
    | cons a l => simp at e2
  rw [Bool.eq_iff_iff]
  unfold letsB dueB wantedL barredL
  rw [Bool.and_eq_true, List.all_eq_true, List.all_eq_true, Bool.not_eq_true', List.any_eq_false]
  constructor
  · rintro ⟨h1, h2⟩ w hw
    rcases h w hw with s | b
    · have := h1 w (List.mem_filter.mpr ⟨hw, decide_eq_true s⟩)
      rw [sm w s, this]; simp
    · have := h2 (w.drop 1) (List.mem_map.mpr ⟨w, List.mem_filter.mpr ⟨hw, decide_eq_true b⟩, rfl⟩)
      rw [(br w b).1, decide_eq_false (br w b).2, Bool.eq_false_iff.mpr this]; rfl
  · intro hd
    refine ⟨fun w hw => ?_, fun y hy => ?_⟩
    · obtain ⟨hw, s⟩ := List.mem_filter.mp hw
      have := hd w hw
      rw [sm w (of_decide_eq_true s), decide_eq_true (show w = w from rfl), beq_iff_eq] at this
      exact this
    · obtain ⟨w, hw, rfl⟩ := List.mem_map.mp hy
      obtain ⟨hw, b⟩ := List.mem_filter.mp hw
      have b := of_decide_eq_true b
      have := hd w hw
      rw [(br w b).1, decide_eq_false (br w b).2, beq_iff_eq] at this
      rw [this]; decide
inductive sp_ldue (vs : List V) (H : Hp) (Q : VK) (E_ : XK) : Prop
  | mk : ∀ (l lm : Addr) (ws ms : List (List Nat)), vs = [.ref l, .ref lm] → PartAt H l ws → H lm = some (.lst (ms.map tS)) → ws.length ≤ 20000 → (∀ H', Same H H' → Q (.bl (dueB ws ms)) H') → sp_ldue vs H Q E_
theorem D__law_due (T : Txt K mg C_BookError C_NoName C_NoMark) : DefOk P w K mg base 1 "_law_due" ["_law_words_here", "_law_marks_here"] sp_ldue := by
  obtain ⟨f, fd, F, hm⟩ := T.f__law_due
  have nd := sc__law_due.nd
  refine F.def_ hm (F.ok sc__law_due (fun vs H Q E h => ?_) (fun cdv A outer s H vs Q E hr h => ?_)) (F.binds fun _ _ _ _ _ _ us hl => by obtain ⟨_, _, rfl⟩ := L2.lq2 hl; rfl)
  · obtain ⟨l, lm, ws, ms, rfl, _⟩ := h; rfl
  · obtain ⟨l, lm, ws, ms, rfl, ⟨rs, hl, hn, hr⟩, hm, lw, q⟩ := h
    refine ⟨_, (pss_one (ps_ret (pe_callB (call_all rfl) rfl T.b_all bt_all (pa_cons (pe_lc (vars := ["_law_mark_here", "_law_way"]) (frees := ["_law_marks_here"]) (fv := [1]) rfl (lcOk rfl rfl (by decide +kernel) (by decide +kernel) (by intro p hp; simp only [List.mem_cons, List.not_mem_nil, or_false] at hp; rcases hp with rfl <;> rfl) rfl) ⟨⟨rfl, .inl rfl, rfl, .inl rfl⟩, trivial⟩ (pi_list (pv 0)) (gk_pair (by decide) (by decide)) (fun _ _ _ _ => (pg_tup rfl (pgs_cons (pg_name (i := 0) (show (["_law_mark_here", "_law_way", "_law_marks_here"] : List Str).Nodup by decide +kernel) rfl (Or.inl rfl)) (pgs_cons (pg_name (i := 1) (show (["_law_mark_here", "_law_way", "_law_marks_here"] : List Str).Nodup by decide +kernel) rfl (Or.inl rfl)) pgs_nil)))) (fun _ _ _ _ => pif_none) (fun _ _ _ _ => (pe_cmpR op_eq (pe_cmpR (show OpR _ _ (rIn K false) from op_in_seq) (pv 0) (pv 2) rfl) (pv 1) (nomark _)))) pa_nil)))), ?_⟩
    refine ⟨_, rfl, l, rfl, ⟨_, SqL.of hl⟩, lc_listN (xs := rs) (fun i ys H2 => Same H H2 ∧ ys = (ws.take i).map fun w => V.bl (decide (markOf w ∈ ms) == decide (markOf w = w))) (sz20 (by omega)) ⟨Same.refl _, rfl⟩ (fun i ys H2 h2 => ⟨Same.seq h2.1 (SqL.of hl), by rw [h2.2, List.length_map, List.length_take]; omega⟩) ?_ ?_⟩
    · rintro i x ys H2 hi ⟨s2, rfl⟩
      have hiw : i < ws.length := by rw [← hn]; exact (List.getElem?_eq_some_iff.mp hi).1
      have hw : ws[i]? = some ws[i] := by simp [hiw]
      generalize ws[i] = w at hw
      obtain ⟨t, ht, hv⟩ := hr i w hw
      rw [hi] at ht
      cases ht
      refine ⟨t, _, rfl, SqT.of (s2 _ _ hv), rfl, _, _, rfl, _, _, rfl, rfl, yes_ (iteT ?_)⟩
      refine ⟨_, rfl, _, rfl, lm, ms.map tS, rfl, .inl (SqL.of (s2 _ _ hm)), rfl, flat_tx ms, ?_⟩
      rw [if_neg (by decide), in_tx]
      refine ⟨_, rfl, rfl, s2, ?_⟩
      rw [dec_bl, List.take_add_one, hw, List.map_append]; rfl
    · rintro ys H2 p H3 ⟨s2, rfl⟩ n3
      rw [hn, List.take_length] at n3
      refine ⟨p, ws.map fun w => (decide (markOf w ∈ ms) == decide (markOf w = w)), rfl, SqL.of (by rw [List.map_map]; exact n3.at_), ?_⟩
      have := q H3 (s2.trans n3.same)
      unfold dueB at this
      rw [show (ws.all fun w => decide (markOf w ∈ ms) == decide (markOf w = w)) = (ws.map fun w => (decide (markOf w ∈ ms) == decide (markOf w = w))).all id by rw [List.all_map]; rfl] at this
      exact this
def sp_lrefused : Sp := fun vs H Q _ => ∃ v, vs = [v] ∧ TextV H v ∧ (OddV H v ∨ ∃ x, v = .str (S x) ∧ ¬ ∀ p ∈ wordsL x, GoodW p) ∧ ∀ H', Q (.bl true) H'
theorem D__law_refused (T : Txt K mg C_BookError C_NoName C_NoMark) {c9 T9 : Addr} (Z9 : ∀ f, mg "sieve" = some (.ref f) → TabK K f c9 T9) : DefOk P w K mg base 5 "_law_refused" ["_law_text"] sp_lrefused := by
  obtain ⟨f, fd, F, hm⟩ := T.f__law_refused
  have nd := sc__law_refused.nd
  refine F.def_ hm (F.ok sc__law_refused (fun vs H Q E h => ?_) (fun cdv A outer s H vs Q E hr h => ?_)) (F.binds fun _ _ _ _ _ _ us hl => by obtain ⟨_, rfl⟩ := L2.lq1 hl; rfl)
  · obtain ⟨v, rfl, _⟩ := h; rfl
  · obtain ⟨v, rfl, hv, bad, q⟩ := h
    refine ⟨_, (pss_cons (ps_try (j := 1) ⟨rfl, rfl, rfl⟩ nd rfl rfl rfl rfl T.mg_BookError T.kx_BookError.kt (fun _ _ => (pss_one (ps_expr (pe_fnX (wants_wish ⟨rfl, rfl, rfl⟩) (D_sieve T Z9) (hr.mono (by decide)) rfl .nil (pa_cons (pv 0) pa_nil)))))
        (fun _ _ => (pss_one (ps_ret (pe_and (pe_callB (call_isiX (K := K) rfl) rfl T.b_isinstance bt_isinstance (pa_cons (pv 1) (pa_cons (pe_glob (v := .ref C_NoMark) rfl T.mg_NoMark rfl) pa_nil))) (pe_one (pe_not (pe_callB (call_isiX (K := K) rfl) rfl T.b_isinstance bt_isinstance (pa_cons (pv 1) (pa_cons (pe_glob (v := .ref C_NoName) rfl T.mg_NoName rfl) pa_nil))))))))))
      (pss_one (ps_ret pe_bl))), ?_⟩
    walk_at "r"
    refine ⟨fun x ex gd => ?_, fun _ H1 s1 => ?_⟩
    · exfalso
      subst ex
      rcases bad with b | ⟨y, ey, ny⟩
      · rcases b with e | ⟨_, e⟩ | ⟨_, e⟩ | ⟨_, _, e, _⟩ | ⟨_, _, e, _⟩ <;> cases e
      · have e2 : x = y := S_inj (V.str.inj ey)
        subst e2
        exact ny gd
    · refine ⟨⟨C_NoMark, rfl, T.kx_NoMark.kt, T.hit_NoMark_BookError⟩, fun ex H3 n3 => ?_⟩
      have kk : ∀ dx', (none : Option Addr) = some dx' → ∃ fs, H3 dx' = some (.xd fs) := fun dx' z => by cases z
      refine ⟨_, rfl, ex, C_NoMark, none, .ref C_NoMark, true, rfl, n3.at_, T.kx_NoMark, kk, T.is_NoMark_NoMark, _, rfl, iteT ?_⟩
      refine ⟨_, rfl, ex, C_NoMark, none, .ref C_NoName, false, rfl, n3.at_, T.kx_NoMark, kk, T.is_NoMark_NoName, _, rfl, ?_⟩
      exact q H3
end
section
variable {P : Program} {w : World} {K : PySem.W.Frag} {mg : Str → Option Value} {base : Heap} {C_BookError C_NoName C_NoMark : Addr}
def sp_lawT (K : PySem.W.Frag) (T9 : Addr) : Sp := fun vs H Q _ => ∃ (a : Addr) (ns : List Int), vs = [.ref a] ∧ OnlyT T9 H ∧ SqL K H a (ns.map V.int) ∧ ns.length ≤ 63 ∧ ∀ H', Q (.bl true) H'
theorem cut_ij (ns : List Int) (i j : Int) (h : ns.length ≤ 63) : ∃ ms : List Int, cutV (ns.map V.int) (some i) (some j) = ms.map V.int ∧ ms.length ≤ 63 := by
  unfold cutV
  simp only [← List.map_take, ← List.map_drop]
  exact ⟨_, rfl, by simp only [List.length_take, List.length_drop]; omega⟩
theorem sX_seq {K : PySem.W.Frag} {H H' : Hp} {a T : Addr} {xs : List V} {ps : Array Value} (hT : H T = some (.tbl ps)) (s : SameX T H H') (h : SqL K H a xs) : SqL K H' a xs := by
  rcases h with (h | ⟨o, h⟩) | h
  · exact .inl (.inl (s _ _ (fun z => by rw [z, hT] at h; cases h) h))
  · exact .inl (.inr ⟨o, s _ _ (fun z => by rw [z, hT] at h; cases h) h⟩)
  · exact .inr h
theorem sX_lst {H H' : Hp} {a T : Addr} {xs : List V} {ps : Array Value} (hT : H T = some (.tbl ps)) (s : SameX T H H') (h : H a = some (.lst xs)) : H' a = some (.lst xs) := s _ _ (fun z => by rw [z, hT] at h; cases h) h
theorem join_len : ∀ ws : List (List Nat), (∀ w ∈ ws, w.length ≤ 9) → (joinL [32] ws).length ≤ 10 * ws.length ∧ (ws.map List.length).sum ≤ 9 * ws.length
  | [], _ => by simp [joinL]
  | [w], h => by have := h w (.head _); simp [joinL]; omega
  | w :: v :: ws, h => by
    obtain ⟨i1, i2⟩ := join_len (v :: ws) fun u hu => h u (.tail _ hu)
    have := h w (.head _)
    constructor
    · show (w ++ [32] ++ joinL [32] (v :: ws)).length ≤ _
      simp at i1 ⊢; omega
    · simp at i2 ⊢; omega
theorem words_join {ws : List (List Nat)} (h : ∀ w ∈ ws, GoodW w) : wordsL (joinL [32] ws) = ws := by
  cases ws with
  | nil => rfl
  | cons w l =>
    have e : joinL [32] (w :: l) ≠ [] := fun z => by
      have := (h w (.head _)).len.1
      cases l with
      | nil => have z' : w = [] := z; rw [z'] at this; simp at this
      | cons v l =>
        have z' : w ++ [32] ++ joinL [32] (v :: l) = [] := z
        simp at z'
    unfold wordsL
    rw [if_neg e]
    exact TX.split_join (by simp) fun w hw => (h w hw).no
theorem ok_tx {x : List Nat} (h : SmallW 8 x) : (PyData.str (S x)).canLay0 = true := by
  show PyData.strOk (S x) = true
  unfold PyData.strOk
  rw [Array.all_eq_true']
  intro c hc
  have := h.2.2 c (by simpa [S] using hc)
  simp; omega
theorem rep_tx {K : PySem.W.Frag} {H : Hp} : ∀ ms : List (List Nat), (∀ m ∈ ms, SmallW 8 m) → ∃ ds, Reps K H (ms.map tS) ds ∧ PyData.canLayAll0 ds = true ∧ PyData.depthAll ds = 0 ∧ ds = ms.map fun m => PyData.str (S m)
  | [], _ => ⟨[], .nil, rfl, rfl, rfl⟩
  | m :: ms, h => by
    obtain ⟨ds, r, c, d, e⟩ := rep_tx ms fun x hx => h x (.tail _ hx)
    refine ⟨_ :: ds, .cons (.str _) r, ?_, ?_, by rw [e]; rfl⟩
    · show (PyData.canLay0 _ && PyData.canLayAll0 ds) = true
      rw [ok_tx (h m (.head _)), c]; rfl
    · show max (PyData.depth _) (PyData.depthAll ds) = 0
      rw [d]; rfl
theorem ne_tx {K : PySem.W.Frag} {H : Hp} {p q : Addr} {ms : List (List Nat)} {Q : VK} (hs : ∀ m ∈ ms, SmallW 8 m) (hp : H p = some (.lst (ms.map tS))) (hq : H q = some (.lst (ms.map tS))) (h : Q (.bl false) H) : rEqD K true (.ref p) (.ref q) H Q := by
  obtain ⟨ds, r, c, d, e⟩ := rep_tx (K := K) (H := H) ms hs
  have c' : (PyData.list ds).canLay0 = true := c
  refine ⟨_, _, .lst (SqL.of hp) r, .lst (SqL.of hq) r, c', c', ?_, ?_⟩
  · show PyData.depthAll ds + 1 ≤ 20
    rw [d]; decide
  · rw [if_pos rfl, PySem.SeqAt.eqv_refl _ c']
    exact h
theorem wb_len (ws : List (List Nat)) : (wantedL ws).length ≤ ws.length ∧ (barredL ws).length ≤ ws.length := by
  unfold wantedL barredL
  rw [List.length_map]
  exact ⟨List.length_filter_le _ _, List.length_filter_le _ _⟩
theorem at2i (x y d : Int) : ∃ e, atI [V.int x, V.int y] (d % 2) = some (.int e) := by
  rcases (show d % 2 = 0 ∨ d % 2 = 1 by omega) with e | e <;> rw [e]
  · exact ⟨_, rfl⟩
  · exact ⟨_, rfl⟩
theorem G_law (T : Txt K mg C_BookError C_NoName C_NoMark) {c9 T9 : Addr} (Z9 : ∀ f, mg "sieve" = some (.ref f) → TabK K f c9 T9) {f : Addr} {fd : FuncData} (F : Fun K "law" "law" s_law f fd) : FnOk P w K mg base CX0 9 f fd ["_law_script"] (sp_lawT K T9) := by
  have nd := sc_law.nd
  refine F.ok sc_law (fun vs H Q E h => ?_) (fun cdv A outer s H vs Q E hr h => ?_)
  · obtain ⟨a, ns, rfl, _⟩ := h; rfl
  · obtain ⟨a, ns, rfl, oT, hS, hn, k⟩ := h
    refine ⟨_, (pss_cons (ps_set (i := 1) nd rfl (Or.inl rfl) (pe_fn (D__law_cell_at T) (hr.mono (by decide)) rfl (pa_cons (pv 0) (pa_cons pe_int pa_nil))))
      (pss_cons (ps_set (i := 2) nd rfl (Or.inl rfl) (pe_fn (D__law_spoilt T) (hr.mono (by decide)) rfl (pa_cons (pe_bm PySem.F.plainAttrs_str PySem.F.slot_str_join PySem.F.type_str_join mt_join pe_str (pa_cons (pe_fn (D__law_words T) (hr.mono (by decide)) rfl (pa_cons (pv 1) pa_nil)) pa_nil)) (pa_cons (pe_fn (D__law_cell_at T) (hr.mono (by decide)) rfl (pa_cons (pv 0) (pa_cons pe_int pa_nil))) pa_nil))))
      (pss_cons (ps_set (i := 3) nd rfl (Or.inl rfl) (pe_fn (D__law_parted T) (hr.mono (by decide)) rfl (pa_cons (pv 2) pa_nil)))
      (pss_cons (ps_if (pt_cmpR op_isN (pv 3) pe_non (nomark _))
        (pss_one (ps_ret (pe_fn (D__law_refused T Z9) (hr.mono (by decide)) rfl (pa_cons (pv 2) pa_nil))))
        pss_nil)
      (pss_cons (ps_set (i := 4) nd rfl (Or.inl rfl) (pe_fn (D__law_words T) (hr.mono (by decide)) rfl (pa_cons (pe_fn (D__law_cell_at T) (hr.mono (by decide)) rfl (pa_cons (pv 0) (pa_cons pe_int pa_nil))) pa_nil)))
      (pss_cons (ps_set (i := 5) nd rfl (Or.inl rfl) (pe_fnX (wants_nox ⟨rfl, rfl, rfl⟩) (D_sieve T Z9) (hr.mono (by decide)) rfl .nil (pa_cons (pv 2) pa_nil)))
      (pss_cons (ps_set (i := 6) nd rfl (Or.inl rfl) (pe_fnX (wants_nox ⟨rfl, rfl, rfl⟩) (D_sieve T Z9) (hr.mono (by decide)) rfl .nil (pa_cons (pe_bm PySem.F.plainAttrs_str PySem.F.slot_str_join PySem.F.type_str_join mt_join pe_str (pa_cons (pv 4) pa_nil)) pa_nil)))
      (pss_cons (ps_for PassesOwn.never rfl (pi_list (pe_op op_catN (pe_slice sl_listN (pv 0) (po_some pe_int) (po_some pe_int)) (pe_slice sl_listN (pv 0) (po_some pe_int) (po_some pe_int)))) (pg_name (i := 7) nd rfl (Or.inl rfl))
        (pss_cons (ps_set (i := 8) nd rfl (Or.inl rfl) (pe_fn (D__law_marks T) (hr.mono (by decide)) rfl (pa_cons (pv 7) (pa_cons (pe_ix ix_list (pe_lstN (pa_cons (pv 1) (pa_cons (pe_fn (D__law_cell_at T) (hr.mono (by decide)) rfl (pa_cons (pv 0) (pa_cons pe_int pa_nil))) pa_nil))) (pe_op op_mod (pv 7) pe_int) (fun _ _ => rfl)) pa_nil))))
      (pss_cons (ps_set (i := 9) nd rfl (Or.inl rfl) (pe_callTy call_listN rfl T.b_list bt_list (pa_cons (pv 8) pa_nil)))
      (pss_cons (ps_if (PW.pt (pw_or (pt_not (pt_val (pe_fn (D__law_same T) (hr.mono (by decide)) rfl (pa_cons (pe_clo (i := 5) (D_lets T (hr.mono (by decide))) rfl (Or.inl rfl) (pa_cons (pv 9) pa_nil)) (pa_cons (pe_fn (D__law_due T) (hr.mono (by decide)) rfl (pa_cons (pv 3) (pa_cons (pv 8) pa_nil))) pa_nil))))) (pw_or1 (pt_cmpR (show OpR _ _ (rEqD K true) from op_neD hr.units) (pv 9) (pv 8) (nomark _)))))
        (pss_one (ps_ret pe_bl))
        pss_nil)
      (pss_one (ps_if (pt_not (pt_val (pe_fn (D__law_same T) (hr.mono (by decide)) rfl (pa_cons (pe_clo (i := 6) (D_lets T (hr.mono (by decide))) rfl (Or.inl rfl) (pa_cons (pv 9) pa_nil)) (pa_cons (pe_fn (D__law_due T) (hr.mono (by decide)) rfl (pa_cons (pe_fn (D__law_parted T) (hr.mono (by decide)) rfl (pa_cons (pe_bm PySem.F.plainAttrs_str PySem.F.slot_str_join PySem.F.type_str_join mt_join pe_str (pa_cons (pv 4) pa_nil)) pa_nil)) (pa_cons (pv 8) pa_nil))) pa_nil)))))
        (pss_one (ps_ret pe_bl))
        pss_nil))))))
      (pss_one (ps_ret (pe_fn (D__law_same T) (hr.mono (by decide)) rfl (pa_cons (pe_clo (i := 5) (D_lets T (hr.mono (by decide))) rfl (Or.inl rfl) (pa_cons (pe_lstN pa_nil) pa_nil)) (pa_cons (pe_fn (D__law_due T) (hr.mono (by decide)) rfl (pa_cons (pv 3) (pa_cons (pe_lstN pa_nil) pa_nil))) pa_nil))))))))))))), ?_⟩
    rw [w_blank]
    walk_at "r"
    refine ⟨a, ns, 0, rfl, hS, by decide, fun one => ?_⟩
    walk_at "r"
    intro l0 ws0 H1 n1 le0 g0
    have j0 := join_len ws0 fun w hw => (g0 w hw).len.2
    refine ⟨[32], ws0, l0, rfl, rfl, SqL.of n1.at_, by simp; omega, ?_⟩
    have hS1 := Same.seq n1.same hS
    walk_at "r"
    refine ⟨a, ns, 1, rfl, hS1, by decide, fun c1 => ?_⟩
    refine ⟨_, c1, rfl, by omega, fun v H2 s2 tv => ?_⟩
    refine gname_ ?_
    refine ⟨_, rfl, v, rfl, tv, fun x ex gd l3 H3 s3 f3 p3 => ?_, fun bad H3 s3 => ?_⟩
    · subst ex
      have s03 : Same H H3 := (n1.same.trans s2).trans s3
      have hS3 := Same.seq s03 hS
      refine gname_ (nrm62 (σ' := [some (.ref a), some (.int one), some (.str (S x)), some (.ref l3), none, none, none, none, none, none]) rfl ?_)
      walk_at "r"
      refine ⟨a, ns, 2, rfl, hS3, by decide, fun c2 => ?_⟩
      walk_at "r"
      intro l4 ws4 H4 n4 le4 g4
      have s04 := s03.trans n4.same
      have tb4 : Tb T9 posL qualL H4 := Tb.same (.inl oT) s04
      have hT4 : H4 T9 = some (.tbl #[]) := s04 _ _ oT
      have hS4 := Same.seq s04 hS
      have tv4 := (tv.same s3).same n4.same
      have p4 := p3.same n4.same
      have hx : x.length ≤ 3000 := by
        rcases tv with ⟨y, e, hy⟩ | hv
        · have e2 : x = y := S_inj (V.str.inj e)
          rw [e2]; exact hy
        · rcases hv with e | ⟨_, e⟩ | ⟨_, e⟩ | ⟨_, _, e, _⟩ | ⟨_, _, e, _⟩ <;> cases e
      have wl := words_lens x
      refine gname_ (nrm62 (σ' := [some (.ref a), some (.int one), some (.str (S x)), some (.ref l3), some (.ref l4), none, none, none, none, none]) rfl ?_)
      refine ⟨_, rfl, .str (S x), rfl, tv4, fun x' ex' _ => ⟨tb4, fun f1 H5 lw lb c sx5 tb5 cl5 hw5 hb5 => ?_⟩, fun bad => ?_⟩
      · have e2 : x = x' := S_inj (V.str.inj ex')
        subst e2
        have hS5 := sX_seq hT4 sx5 hS4
        have p5 := p4.sameX hT4 sx5
        have l45 := sX_lst hT4 sx5 n4.at_
        have j4 := join_len ws4 fun w hw => (g4 w hw).len.2
        have wj := words_join g4
        refine gname_ (nrm62 (σ' := [some (.ref a), some (.int one), some (.str (S x)), some (.ref l3), some (.ref l4), some (.ref f1), none, none, none, none]) rfl ?_)
        walk_at "r"
        refine ⟨[32], ws4, l4, rfl, rfl, SqL.of l45, by simp; omega, ?_⟩
        refine ⟨.str (S (joinL [32] ws4)), rfl, tv_S _ (by omega), fun x' ex' _ => ⟨.inr ⟨c, tb5⟩, fun f2 H6 lw2 lb2 c' sx6 tb6 cl6 hw6 hb6 => ?_⟩, fun bad => ?_⟩
        · have e2 : joinL [32] ws4 = x' := S_inj (V.str.inj ex')
          subst e2
          rw [wj] at hw6 hb6
          have hT5 := tb5.1
          have hS6 := sX_seq hT5 sx6 hS5
          have p6 := p5.sameX hT5 sx6
          have l46 := sX_lst hT5 sx6 l45
          have cl56 := cl5.sameX hT5 sx6
          have hw56 := sX_lst hT5 sx6 hw5
          have hb56 := sX_lst hT5 sx6 hb5
          clear hT5 hT4 hS5 p5 l45 cl5 hw5 hb5 sx6 sx5 tb6 tb5 tb4 hS4 hS3 p4 n4 s04 s03 tv4 s3 s2 n1 hS1
          refine gname_ (nrm62 (σ' := [some (.ref a), some (.int one), some (.str (S x)), some (.ref l3), some (.ref l4), some (.ref f1), some (.ref f2), none, none, none]) rfl ?_)
          walk_at "r"
          intro pa Ha na
          obtain ⟨m1, e1, h1⟩ := cut_ij ns 3 13 hn
          rw [e1] at na
          have hSa := Same.seq na.same hS6
          walk_at "r"
          intro pb Hb nb
          obtain ⟨m2, e2, h2⟩ := cut_ij ns 3 4 hn
          rw [e2] at nb
          refine ⟨pa, pb, m1.map V.int, m2.map V.int, rfl, rfl, nb.same _ _ na.at_, nb.at_, by rw [List.length_map, List.length_map, sizeLine_eq]; omega, fun pc Hc nc => ?_⟩
          have s6c : Same H6 Hc := na.same.trans (nb.same.trans nc.same)
          obtain ⟨wn, bn⟩ := wb_len (wordsL x)
          obtain ⟨wn4, bn4⟩ := wb_len ws4
          refine ⟨pc, rfl, ⟨_, SqL.of nc.at_⟩, for_list (xs := m1.map V.int ++ m2.map V.int) (fun i σ H7 => Same Hc H7 ∧ ∃ v7 v8 v9 : Option V, σ = [some (.ref a), some (.int one), some (.str (S x)), some (.ref l3), some (.ref l4), some (.ref f1), some (.ref f2), v7, v8, v9]) ⟨Same.refl _, none, none, none, rfl⟩ (fun i σ H7 _ h => SqL.of (h.1 _ _ nc.at_)) ?_ ?_⟩
          · rintro i xv σ H7 hi ⟨s7, v7, v8, v9, rfl⟩
            obtain ⟨d, rfl⟩ : ∃ d, xv = V.int d := by
              rcases List.mem_append.mp (List.mem_of_getElem? hi) with z | z <;> obtain ⟨d, _, rfl⟩ := List.mem_map.mp z <;> exact ⟨d, rfl⟩
            have s67 := s6c.trans s7
            refine gname_ (nrm62 (σ' := [some (.ref a), some (.int one), some (.str (S x)), some (.ref l3), some (.ref l4), some (.ref f1), some (.ref f2), some (.int d), v8, v9]) rfl ?_)
            walk_at "r"
            refine ⟨a, ns, 2, rfl, Same.seq s67 hS6, by decide, fun c3 => ?_⟩
            walk_at "r"
            intro p8 H8 n8
            obtain ⟨e, he⟩ := at2i one c3 d
            walk_at "r"
            intro lm ms H9 n9 le9 sm9
            refine gname_ (nrm62 (σ' := [some (.ref a), some (.int one), some (.str (S x)), some (.ref l3), some (.ref l4), some (.ref f1), some (.ref f2), some (.int d), some (.ref lm), v9]) rfl ?_)
            refine ⟨_, rfl, lm, _, rfl, .inl (SqL.of n9.at_), fun lh H10 n10 => ?_⟩
            refine gname_ (nrm62 (σ' := [some (.ref a), some (.int one), some (.str (S x)), some (.ref l3), some (.ref l4), some (.ref f1), some (.ref f2), some (.int d), some (.ref lm), some (.ref lh)]) rfl ?_)
            have s610 : Same H6 H10 := s67.trans (n8.same.trans (n9.same.trans n10.same))
            have hlm := n10.same _ _ n9.at_
            refine ⟨f1, .ref lw, .ref lb, rfl, cl56.same s610, _, rfl, .ref lh, rfl, cl56.same s610, lh, lw, lb, ms, _, _, rfl, rfl, rfl, n10.at_, s610 _ _ hw56, s610 _ _ hb56, by omega, by omega, by omega, fun H11 s11 => ?_⟩
            refine ⟨_, rfl, _, rfl, l3, lm, wordsL x, ms, rfl, (p6.same s610).same s11, s11 _ _ hlm, by omega, fun H12 s12 => ?_⟩
            refine ⟨_, _, rfl, _, rfl, ?_⟩
            rw [lets_due (wordsL x) ms gd, beq_self_eq_true]
            have s1012 := s11.trans s12
            have hlm12 := s1012 _ _ hlm
            have hlh12 := s1012 _ _ n10.at_
            have s612 := s610.trans s1012
            refine iteF ⟨_, rfl, _, rfl, ne_tx sm9 hlh12 hlm12 ⟨false, rfl, iteF ?_⟩⟩
            refine ⟨f2, .ref lw2, .ref lb2, rfl, cl6.same s612, _, rfl, .ref lh, rfl, cl6.same s612, lh, lw2, lb2, ms, _, _, rfl, rfl, rfl, hlh12, s612 _ _ hw6, s612 _ _ hb6, by omega, by omega, by omega, fun H13 s13 => ?_⟩
            have hl4 := s13 _ _ (s612 _ _ l46)
            walk_at "r"
            refine ⟨[32], ws4, l4, rfl, rfl, SqL.of hl4, by simp; omega, ?_⟩
            refine ⟨_, rfl, tv_S _ (by omega), fun x' ex' _ lp H14 s14 f14 p14 => ?_, fun bad => ?_⟩
            · have e2 : joinL [32] ws4 = x' := S_inj (V.str.inj ex')
              subst e2
              rw [wj] at p14
              refine ⟨_, rfl, lp, lm, ws4, ms, rfl, p14, s14 _ _ (s13 _ _ hlm12), by omega, fun H15 s15 => ?_⟩
              refine ⟨_, _, rfl, _, rfl, ?_⟩
              rw [lets_due ws4 ms g4, beq_self_eq_true]
              refine iteF ⟨s7.trans (n8.same.trans (n9.same.trans (n10.same.trans (s1012.trans (s13.trans (s14.trans s15)))))), _, _, _, rfl⟩
            · exfalso
              rcases bad with b | ⟨y, ey, ny⟩
              · rcases b with e | ⟨_, e⟩ | ⟨_, e⟩ | ⟨_, _, e, _⟩ | ⟨_, _, e, _⟩ <;> cases e
              · have e2 : joinL [32] ws4 = y := S_inj (V.str.inj ey)
                subst e2
                rw [wj] at ny
                exact ny g4
          · rintro σ H7 ⟨s7, v7, v8, v9, rfl⟩
            have s67 := s6c.trans s7
            refine ⟨f1, .ref lw, .ref lb, rfl, cl56.same s67, sz20 (Nat.le_of_ble_eq_true rfl), fun le H8 n8 => ?_⟩
            have s68 := s67.trans n8.same
            refine ⟨.ref le, rfl, cl56.same s68, le, lw, lb, [], _, _, rfl, rfl, rfl, n8.at_, s68 _ _ hw56, s68 _ _ hb56, Nat.zero_le _, by omega, by omega, fun H9 s9 => ?_⟩
            refine ⟨_, rfl, sz20 (Nat.le_of_ble_eq_true rfl), fun le2 H10 n10 => ?_⟩
            refine ⟨l3, le2, wordsL x, [], rfl, p6.same (s68.trans (s9.trans n10.same)), n10.at_, by omega, fun H11 s11 => ?_⟩
            refine ⟨_, _, rfl, ?_⟩
            rw [lets_due (wordsL x) [] gd, beq_self_eq_true]
            exact k H11
        · exfalso
          rcases bad with b | ⟨y, ey, ny⟩
          · rcases b with e | ⟨_, e⟩ | ⟨_, e⟩ | ⟨_, _, e, _⟩ | ⟨_, _, e, _⟩ <;> cases e
          · have e2 : joinL [32] ws4 = y := S_inj (V.str.inj ey)
            subst e2
            rw [wj] at ny
            exact ny g4
      · exfalso
        rcases bad with b | ⟨y, ey, ny⟩
        · rcases b with e | ⟨_, e⟩ | ⟨_, e⟩ | ⟨_, _, e, _⟩ | ⟨_, _, e, _⟩ <;> cases e
        · have e2 : x = y := S_inj (V.str.inj ey)
          subst e2
          exact ny gd
    · have bad3 : OddV H3 v ∨ ∃ x, v = .str (S x) ∧ ¬ ∀ p ∈ wordsL x, GoodW p := bad.imp (fun o => by
        rcases o with e | e | e | ⟨p, xs, e, h⟩ | ⟨p, xs, e, h⟩
        · exact .inl e
        · exact .inr (.inl e)
        · exact .inr (.inr (.inl e))
        · exact .inr (.inr (.inr (.inl ⟨p, xs, e, s3 _ _ h⟩)))
        · exact .inr (.inr (.inr (.inr ⟨p, xs, e, s3 _ _ h⟩)))) id
      refine gname_ ?_
      refine ⟨_, rfl, rfl, _, rfl, iteT ?_⟩
      exact ⟨_, rfl, v, rfl, tv.same s3, bad3, k⟩
end
theorem walk {l : PySem.W.OpenLaw} {q : Program} {loose : List Str} {XP : (Str → Option Value) → Heap → Prop} {YP : World → Heap → Prop} {d d9 : DefRec} {K : Params → PySem.W.Frag} (hn : l.most = some 63) (hdf : d.params.defaults = []) (hdn : d.name = "law") (h9 : (PyProof.Rows.recsOf q).find? (fun e => e.name == ("sieve" : Str)) = some d9)
    (hY : ∀ (w : World) (h : Heap), YP w h → (K w.params).In h)
    (F : ∀ (w : World) (mg : Str → Option Value) (h : Heap), (K w.params).In h → h.Ns mainGlobals mg → (∃ c T, PySem.W.tabIn (K w.params) "sieve" = some (c, T) ∧ PySem.W.noTabs (K w.params) = true) ∧ ∃ C_BookError C_NoName C_NoMark, Txt (K w.params) mg C_BookError C_NoName C_NoMark) :
    PySem.W.WalkO q loose XP YP l.row.toRowW d [] (fun f vs => PySem.call f vs) := by
  refine L2.walk_ofT (n := 63) (k := 9) (x := "_law_script") (x9 := "sieve") (sp := fun w T => sp_lawT (K w.params) T) hn (by decide) hdf ⟨rfl, by decide, by decide⟩ h9 hY (fun w mg fa h kin ns hm => ?_) (fun _ _ _ a ns hl hO hS => ⟨a, ns, rfl, hO, hS, hl, fun _ => rfl⟩)
  obtain ⟨⟨c9, T9, ht, hno⟩, F⟩ := F w mg h kin ns
  obtain ⟨C_BookError, C_NoName, C_NoMark, T⟩ := F
  obtain ⟨f, fd, Fu, hm'⟩ := T.f_law
  rw [hdn, hm'] at hm
  cases hm
  refine ⟨c9, T9, ht, hno, fd, ?_, fun base kb nb Z9 => G_law T Z9 Fu⟩
  obtain ⟨oc, od, kV, doc, pm, an, cdv, ct, osl, rfl, lk, hcd⟩ := Fu.ex
  exact fun s u => .of_eq rfl
end TB
open PySem PySem.W PyProof.Rows
set_option maxRecDepth 100000 in
set_option maxHeartbeats 0 in
theorem PySem.Challenge.cw_thinbook_k62_sieves_holds : PySem.Challenge.rw_thinbook_k62_sieves.Holds := by
  w_on; o_law; k_head; (case hw => w_witness2)
  k_fill
  refine TB.walk (l := PySem.Challenge.rw_thinbook_k62_sieves) rfl rfl rfl rfl (fun w h Y => PySem.W.km_in_of Y) ?F
  case F =>
    intro w mg h KX G
    refine' ⟨⟨81, 79, ?t9, ?n9⟩, ?tx⟩
    (case t9 => kernel_rfl)
    (case n9 => kernel_rfl)
    refine' TB.txt_mk KX G ?a0 ?l0 ?c0 ?k0 ?a1 ?l1 ?c1 ?k1 ?a2 ?l2 ?c2 ?k2 ?a3 ?l3 ?c3 ?k3 ?a4 ?l4 ?c4 ?k4 ?a5 ?l5 ?c5 ?k5 ?a6 ?l6 ?c6 ?k6 ?a7 ?l7 ?c7 ?k7 ?a8 ?l8 ?c8 ?k8 ?a9 ?l9 ?c9 ?k9 ?a10 ?l10 ?c10 ?k10 ?a11 ?l11 ?c11 ?k11 ?a12 ?l12 ?c12 ?k12 ?a13 ?l13 ?c13 ?k13 ?a14 ?l14 ?c14 ?k14 ?a15 ?l15 ?c15 ?k15 ?xCBookError ?xCNoName ?xCNoMark ?xEBookError ?xKBookError0 ?xKBookError1 ?xKBookError2 ?xKBookError3 ?xKBookError4 ?xKBookError5 ?xHBookError_BookError ?xIBookError_BookError ?xIBookError_NoName ?xIBookError_NoMark ?xVBookError ?xENoName ?xKNoName0 ?xKNoName1 ?xKNoName2 ?xKNoName3 ?xKNoName4 ?xKNoName5 ?xHNoName_BookError ?xINoName_BookError ?xHNoName_NoName ?xINoName_NoName ?xINoName_NoMark ?xVNoName ?xENoMark ?xKNoMark0 ?xKNoMark1 ?xKNoMark2 ?xKNoMark3 ?xKNoMark4 ?xKNoMark5 ?xHNoMark_BookError ?xINoMark_BookError ?xINoMark_NoName ?xHNoMark_NoMark ?xINoMark_NoMark ?xVNoMark ?z_all ?z_any ?z_bool ?z_isinstance ?z_len ?z_list ?z_range ?z_str ?y_LETTERS ?y_LONGEST_MARK
    (case a0 | l0 | c0 | k0 | a1 | l1 | c1 | k1 | a2 | l2 | c2 | k2 | a3 | l3 | c3 | k3 | a4 | l4 | c4 | k4 | a5 | l5 | c5 | k5 | a6 | l6 | c6 | k6 | a7 | l7 | c7 | k7 | a8 | l8 | c8 | k8 | a9 | l9 | c9 | k9 | a10 | l10 | c10 | k10 | a11 | l11 | c11 | k11 | a12 | l12 | c12 | k12 | a13 | l13 | c13 | k13 | a14 | l14 | c14 | k14 | a15 | l15 | c15 | k15 | xCBookError | xCNoName | xCNoMark | xKBookError0 | xKBookError1 | xKBookError2 | xKBookError3 | xKBookError4 | xHBookError_BookError | xKNoName0 | xKNoName1 | xKNoName2 | xKNoName3 | xKNoName4 | xHNoName_BookError | xHNoName_NoName | xKNoMark0 | xKNoMark1 | xKNoMark2 | xKNoMark3 | xKNoMark4 | xHNoMark_BookError | xHNoMark_NoMark | z_all | z_any | z_bool | z_isinstance | z_len | z_list | z_range | z_str | y_LETTERS | y_LONGEST_MARK => k_is)
    (case xEBookError | xENoName | xENoMark => k_exc)
    (case xKBookError5 | xKNoName5 | xKNoMark5 => kts_isx)
    (case xIBookError_BookError | xIBookError_NoName | xIBookError_NoMark | xVBookError | xINoName_BookError | xINoName_NoName | xINoName_NoMark | xVNoName | xINoMark_BookError | xINoMark_NoName | xINoMark_NoMark | xVNoMark => kit_is)
