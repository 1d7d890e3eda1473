import PyProof.Rows.All
import Wide.All
import OpenK.AllK
import Wide.FinOn
import Lean
import PyProof.EqAt
import PyProof.EqKinds
import PyProof.TupleCall
import PySem.Challenge.RW_thinbook_k82_rules_written
set_option Elab.async false
set_option linter.all false
set_option maxRecDepth 100000
namespace L2
open PySem PySem.Spec PyProof.Rows
abbrev Key := Sum Int Str
def keyIs : Key → Value → Bool
  | .inl k, v => Value.isInt k v
  | .inr x, v => Value.isStrOf x v
def keyH (w : World) : Key → Int
  | .inl k => hashInt k
  | .inr x => hashStr w x
theorem keyIs_shape : ∀ {k : Key} {v : Value}, keyIs k v = true → (∃ i t, k = Sum.inl i ∧ v = Value.int i t) ∨ (∃ x t, k = Sum.inr x ∧ v = Value.str x t)
  | .inl i, v, h => by
    obtain ⟨t, e⟩ := Value.isInt_shape (k := i) (v := v) h
    exact .inl ⟨i, t, rfl, e⟩
  | .inr x, v, h => by
    obtain ⟨t, e⟩ := Value.isStrOf_shape (x := x) (v := v) h
    exact .inr ⟨x, t, rfl, e⟩
theorem key_ll (a b : Int) : decide ((Sum.inl a : Key) = Sum.inl b) = (a == b) := by
  by_cases e : a = b
  · subst e; simp
  · have h : ¬ (Sum.inl a : Key) = Sum.inl b := fun q => e (Sum.inl.inj q)
    rw [decide_eq_false h]
    exact (beq_eq_false_iff_ne.mpr e).symm
theorem key_rr (a b : Str) : decide ((Sum.inr a : Key) = Sum.inr b) = decide (a = b) := by
  by_cases e : a = b
  · subst e; simp
  · have h : ¬ (Sum.inr a : Key) = Sum.inr b := fun q => e (Sum.inr.inj q)
    rw [decide_eq_false h, decide_eq_false e]
theorem key_lr (a : Int) (b : Str) : decide ((Sum.inl a : Key) = Sum.inr b) = false := decide_eq_false (fun q => nomatch q)
theorem key_rl (a : Str) (b : Int) : decide ((Sum.inr a : Key) = Sum.inl b) = false := decide_eq_false (fun q => nomatch q)
def mixKind (prog : Program) (w : World) : PySem.KeyKind prog w Key where
  is := keyIs
  hash := keyH w
  inj := fun v a b ha hb => by
    rcases keyIs_shape ha with ⟨i, t, rfl, rfl⟩ | ⟨x, t, rfl, rfl⟩
    · rcases keyIs_shape hb with ⟨j, u, rfl, e⟩ | ⟨y, u, rfl, e⟩
      · injection e with e1 _; rw [e1]
      · exact nomatch e
    · rcases keyIs_shape hb with ⟨j, u, rfl, e⟩ | ⟨y, u, rfl, e⟩
      · exact nomatch e
      · injection e with e1 _; rw [e1]
  byValue := fun k v h => by
    rcases keyIs_shape h with ⟨i, t, rfl, rfl⟩ | ⟨x, t, rfl, rfl⟩ <;> rfl
  pyHash := fun hv h => by
    rcases keyIs_shape hv with ⟨i, t, rfl, rfl⟩ | ⟨x, t, rfl, rfl⟩
    · exact wpAny_pyHash_int h
    · exact wpAny_pyHash_str h
  eqBool := fun hu hv h => by
    rcases keyIs_shape hu with ⟨i, t, rfl, rfl⟩ | ⟨x, t, rfl, rfl⟩
    · rcases keyIs_shape hv with ⟨j, u, rfl, rfl⟩ | ⟨y, u, rfl, rfl⟩
      · rw [key_ll] at h; exact wpAny_eqBool_int h
      · rw [key_lr] at h; exact SeqAt.EqAt.int_str i t y u _ _ _ _ h
    · rcases keyIs_shape hv with ⟨j, u, rfl, rfl⟩ | ⟨y, u, rfl, rfl⟩
      · rw [key_rl] at h; exact SeqAt.EqAt.str_int x t j u _ _ _ _ h
      · rw [key_rr] at h; exact wpAny_eqBool_str h
  «strs» := fun k x t v h => by
    rcases keyIs_shape h with ⟨i, u, rfl, e⟩ | ⟨y, u, rfl, e⟩
    · exact nomatch e
    · injection e with e1 _
      subst e1
      cases v <;> rfl
end L2
namespace L2
open PySem PySem.Spec PyProof.Rows
inductive V where
  | non | bl (b : Bool) | int (i : Int) | str (x : Str) | byt (b : Array UInt8) | flt (b : UInt64) | ref (a : Addr) | ty (n : String)
  deriving DecidableEq
def RelV : V → Value → Prop
  | .non, u => u = Value.none
  | .bl b, u => u = Value.bool b
  | .int i, u => ∃ t, u = Value.int i t
  | .str x, u => ∃ t, u = Value.str x t
  | .byt b, u => ∃ t, u = Value.bytes b t
  | .flt b, u => ∃ t, u = Value.float b t
  | .ref a, u => u = Value.ref a
  | .ty n, u => u = Value.type n
abbrev Vals : List V → List Value → Prop := Paired RelV
theorem Vals.length {xs : List V} {us : List Value} (r : Vals xs us) : xs.length = us.length := Paired.length r
theorem Vals.get : ∀ {xs : List V} {us : List Value} {i : Nat} {x : V}, Vals xs us → xs[i]? = some x → ∃ u, us[i]? = some u ∧ RelV x u
  | _, _, _, _, .nil, e => by simp at e
  | _, _, 0, _, .cons r _, e => by simp at e; subst e; exact ⟨_, rfl, r⟩
  | _, _, i + 1, x, .cons _ t, e => by
    obtain ⟨u, h1, h2⟩ := Vals.get (i := i) (x := x) t (by simpa using e)
    exact ⟨u, by simpa using h1, h2⟩
theorem Vals.set {x : V} {u : Value} (r : RelV x u) : ∀ {xs : List V} {us : List Value} (i : Nat), Vals xs us → Vals (xs.set i x) (us.set i u)
  | _, _, _, .nil => .nil
  | _, _, 0, .cons _ t => .cons r t
  | _, _, i + 1, .cons q t => .cons q (Vals.set r i t)
theorem Vals.append : ∀ {xs ys : List V} {us ws : List Value}, Vals xs us → Vals ys ws → Vals (xs ++ ys) (us ++ ws)
  | _, _, _, _, .nil, s => s
  | _, _, _, _, .cons r t, s => .cons r (Vals.append t s)
theorem Vals.take : ∀ {xs : List V} {us : List Value} (n : Nat), Vals xs us → Vals (xs.take n) (us.take n)
  | _, _, 0, _ => .nil
  | _, _, _ + 1, .nil => .nil
  | _, _, n + 1, .cons r t => .cons r (Vals.take n t)
theorem Vals.drop : ∀ {xs : List V} {us : List Value} (n : Nat), Vals xs us → Vals (xs.drop n) (us.drop n)
  | _, _, 0, r => r
  | _, _, _ + 1, .nil => .nil
  | _, _, n + 1, .cons _ t => Vals.drop n t
theorem Vals.none_of : ∀ {xs : List V} {us : List Value} {i : Nat}, Vals xs us → xs[i]? = none → us[i]? = none := fun {xs us i} r e => by
  have h1 := r.length
  have h2 : xs.length ≤ i := List.getElem?_eq_none_iff.mp e
  exact List.getElem?_eq_none_iff.mpr (by omega)
def RelO : Option V → Option Value → Prop
  | some v, some u => RelV v u
  | none, none => True
  | _, _ => False
def KV {κ : Type} : List (κ × V) → List (κ × Value) → Prop := Paired fun (p : κ × V) (q : κ × Value) => p.1 = q.1 ∧ RelV p.2 q.2
def kV : Key → V
  | .inl i => .int i
  | .inr x => .str x
inductive HO where
  | lst (xs : List V)
  | tup (xs : List V)
  | dK (kvs : List (Key × V)) | dT (kvs : List (List Key × V))
  | set (S : Int → Bool) (n : Nat)
  | ins (C dx : Addr) (fs : List (Str × V))
  | own (x : Addr)
  | xd (fs : List (Str × V))
  | met (f x : Addr)
  | rng (lo hi : Int)
  | frz (o : Obj) (u : HO)
  | tbl (ps : Array Value)
  | ext (φ : Heap → Prop)
abbrev Hp := Addr → Option HO
def upd (H : Hp) (a : Addr) (o : HO) : Hp := fun b => if b = a then some o else H b
theorem upd_same {H : Hp} {a : Addr} {o : HO} : upd H a o a = some o := by unfold upd; rw [if_pos rfl]
theorem upd_ne {H : Hp} {a b : Addr} {o : HO} (h : b ≠ a) : upd H a o b = H b := by unfold upd; rw [if_neg h]
theorem ne_of {H : Hp} {a b : Addr} {o u : HO} (h : H a = some o) (h' : H b = some u) (d : o ≠ u) : a ≠ b := by
  intro e; subst e; rw [h] at h'; exact d (Option.some.inj h')
theorem ne_of_none {H : Hp} {a b : Addr} {o : HO} (h : H a = some o) (h' : H b = none) : a ≠ b := by
  intro e; subst e; rw [h] at h'; cases h'
section
variable (P : Program) (w : World)
def ObjOk (H : Hp) (h : Heap) (a : Addr) : HO → Prop
  | .lst xs => xs.length ≤ sizeLine ∧ ∃ (its : List Value) (n : Nat), Vals xs its ∧ h.get? a = some { cls := .type "list", data := .seq its.toArray n }
  | .tup xs => xs.length ≤ sizeLine ∧ ∃ its : List Value, Vals xs its ∧ IsTup h a its.toArray
  | .dK kvs => kvs.length ≤ sizeLine ∧ (a == sysModules) = false ∧ ∃ vs, KV kvs vs ∧ h.DictOf (mixKind P w) a vs
  | .dT kvs => kvs.length ≤ sizeLine ∧ (a == sysModules) = false ∧ ∃ xs : List (List Key × Addr × Value),
      Paired (fun (p : List Key × V) (q : List Key × Addr × Value) => p.1 = q.1 ∧ H q.2.1 = some (.tup (p.1.map kV)) ∧ RelV p.2 q.2.2) kvs xs ∧
      ∃ o es ep, h.get? a = some o ∧ o.ExactDict ∧ o.data = .dict es ep ∧ es.toList = xs.map (entryOfKey (tupleKind (mixKind P w))) ∧ (xs.map (·.1)).Nodup
  | .set S n => h.SetOf (intKind P w) a S n
  | .ins C dx fs => H dx = some (.own a) ∧ fs.length ≤ 1000 ∧ dx ≠ a ∧ h.get? a = some (PySem.W.instObj C dx) ∧
      ∃ mA, h.Ns1 dx mA ∧ (∀ f, RelO (fs.lookup f) (mA f)) ∧ PySem.Within mA (fs.map (·.1))
  | .own _ => ∃ o, h.get? a = some o
  | .xd fs => ∃ mA, h.Ns1 a mA ∧ ∀ f, RelO (fs.lookup f) (mA f)
  | .rng lo hi => ∃ t u v, h.get? a = some { cls := .type "range", data := .fields #[.int lo t, .int hi u, .int 1 v] }
  | .frz o u => h.get? a = some o ∧ ObjOk H h a u
  | .tbl ps => h.get? a = some { cls := .none, data := .fields ps }
  | .met f x => h.get? a = some (PySem.W.methodObj (.ref f) (.ref x))
  | .ext φ => φ h ∧ (∃ o, h.get? a = some o) ∧ ∀ h1 h2 : Heap, φ h1 → (∀ o, h1.get? a = some o → h2.get? a = some o) → φ h2
def HOk (H : Hp) (h : Heap) : Prop := ∀ a o, H a = some o → ObjOk P w H h a o
end
section
variable {P : Program} {w : World} {H H' : Hp} {h h' : Heap} {a : Addr} {o : HO}
theorem ObjOk.lt (x : ObjOk P w H h a o) : a < h.objs.size := by
  cases o with
  | lst xs => obtain ⟨_, _, _, _, e⟩ := x; exact Heap.lt_size e
  | tup xs => obtain ⟨_, _, _, p⟩ := x; exact p.lt
  | dK kvs => obtain ⟨_, _, _, _, o, _, _, e, _⟩ := x; exact Heap.lt_size e
  | dT kvs => obtain ⟨_, _, _, _, o, _, _, e, _⟩ := x; exact Heap.lt_size e
  | set S n => obtain ⟨o, _, _, _, e, _⟩ := x; exact Heap.lt_size e
  | ins C dx fs => obtain ⟨_, _, _, e, _⟩ := x; exact Heap.lt_size e
  | own y => obtain ⟨_, e⟩ := x; exact Heap.lt_size e
  | xd fs => obtain ⟨_, ⟨_, _, _, e, _⟩, _⟩ := x; exact Heap.lt_size e
  | rng lo hi => obtain ⟨_, _, _, e⟩ := x; exact Heap.lt_size e
  | frz ob u => obtain ⟨e, _⟩ := x; exact Heap.lt_size e
  | tbl ps => exact Heap.lt_size (show h.get? a = some _ from x)
  | met f y => exact Heap.lt_size (show h.get? a = some _ from x)
  | ext φ => obtain ⟨_, ⟨_, e⟩, _⟩ := x; exact Heap.lt_size e
theorem Paired.mapP {α β : Type} {F G : α → β → Prop} : ∀ {l₁ : List α} {l₂ : List β}, Paired F l₁ l₂ → (∀ a b, F a b → G a b) → Paired G l₁ l₂
  | _, _, .nil, _ => .nil
  | _, _, .cons r t, f => .cons (f _ _ r) (Paired.mapP t f)
theorem ObjOk.stay (x : ObjOk P w H h a o) (k : ∀ b u, (b = a ∨ H b = some (.own a)) → h.get? b = some u → h'.get? b = some u)
    (ho : ∀ b, H b = some (.own a) → H' b = some (.own a)) (ht : ∀ b xs, H b = some (.tup xs) → H' b = some (.tup xs)) : ObjOk P w H' h' a o := by
  induction o with
  | lst xs => obtain ⟨z, its, n, r, e⟩ := x; exact ⟨z, its, n, r, k _ _ (.inl rfl) e⟩
  | tup xs => obtain ⟨z, its, r, ob, e, c⟩ := x; exact ⟨z, its, r, ob, k _ _ (.inl rfl) e, c⟩
  | dK kvs => obtain ⟨z, y, vs, r, ob, es, ep, e, c⟩ := x; exact ⟨z, y, vs, r, ob, es, ep, k _ _ (.inl rfl) e, c⟩
  | dT kvs =>
    obtain ⟨z, y, xs, r, ob, es, ep, e, c⟩ := x
    exact ⟨z, y, xs, Paired.mapP r fun p q z => ⟨z.1, ht _ _ z.2.1, z.2.2⟩, ob, es, ep, k _ _ (.inl rfl) e, c⟩
  | set S n => obtain ⟨ob, es, ep, t, e, c⟩ := x; exact ⟨ob, es, ep, t, k _ _ (.inl rfl) e, c⟩
  | ins C dx fs =>
    obtain ⟨d, z, ne, e, mA, ⟨od, es, ep, e2, c⟩, r⟩ := x
    exact ⟨ho _ d, z, ne, k _ _ (.inl rfl) e, mA, ⟨od, es, ep, k _ _ (.inr d) e2, c⟩, r⟩
  | own y => obtain ⟨ob, e⟩ := x; exact ⟨ob, k _ _ (.inl rfl) e⟩
  | xd fs => obtain ⟨mA, ⟨od, es, ep, e, c⟩, r⟩ := x; exact ⟨mA, ⟨od, es, ep, k _ _ (.inl rfl) e, c⟩, r⟩
  | rng lo hi => obtain ⟨t, u, v, e⟩ := x; exact ⟨t, u, v, k _ _ (.inl rfl) e⟩
  | frz ob u ih => obtain ⟨e, q⟩ := x; exact ⟨k _ _ (.inl rfl) e, ih q⟩
  | tbl ps =>
    have e : h.get? a = some { cls := .none, data := .fields ps } := x
    show h'.get? a = some { cls := .none, data := .fields ps }
    exact k a _ (.inl rfl) e
  | met f y =>
    have e : h.get? a = some (PySem.W.methodObj (.ref f) (.ref y)) := x
    show h'.get? a = some (PySem.W.methodObj (.ref f) (.ref y))
    exact k a _ (.inl rfl) e
  | ext φ => obtain ⟨p, ⟨o, e⟩, st⟩ := x; exact ⟨st _ _ p fun o q => k _ _ (.inl rfl) q, ⟨o, k _ _ (.inl rfl) e⟩, st⟩
theorem HOk.lt (x : HOk P w H h) (e : H a = some o) : a < h.objs.size := (x a o e).lt
theorem HOk.fresh (x : HOk P w H h) (e : h.objs.size ≤ a) : H a = none := by
  cases q : H a with
  | none => rfl
  | some u => exact absurd (Nat.lt_of_lt_of_le (x.lt q) e) (Nat.lt_irrefl _)
theorem HOk.kept (x : HOk P w H h) (k : ∀ b u, h.get? b = some u → h'.get? b = some u) : HOk P w H h' := fun a o e =>
  (x a o e).stay (fun b u _ q => k b u q) (fun _ q => q) fun _ _ q => q
theorem HOk.laid (x : HOk P w H h) (k : ∀ b u, h.get? b = some u → h'.get? b = some u) (hp : h.objs.size ≤ a) (new : ObjOk P w (upd H a o) h' a o) : HOk P w (upd H a o) h' := fun b u e => by
  have hn := x.fresh hp
  by_cases hb : b = a
  · subst hb; rw [upd_same] at e; cases e; exact new
  · rw [upd_ne hb] at e
    exact (x b u e).stay (fun c v _ q => k c v q) (fun c q => by rw [upd_ne (ne_of_none q hn)]; exact q) fun c xs q => by rw [upd_ne (ne_of_none q hn)]; exact q
end
def Rd (H : Hp) (a : Addr) (u : HO) : Prop := H a = some u ∨ ∃ o, H a = some (.frz o u)
theorem Rd.of {H : Hp} {a : Addr} {u : HO} (h : H a = some u) : Rd H a u := .inl h
theorem Rd.ok {P : Program} {w : World} {H : Hp} {h : Heap} {a : Addr} {u : HO} (r : Rd H a u) (x : HOk P w H h) : ObjOk P w H h a u := by
  rcases r with r | ⟨o, r⟩
  · exact x a u r
  · obtain ⟨_, q⟩ := x a _ r
    exact q
def Mut : Option HO → Prop
  | some (.lst _) => True
  | some (.dK _) => True
  | some (.dT _) => True
  | some (.set _ _) => True
  | some (.ins _ _ _) => True
  | some (.ext _) => True
  | _ => False
section
variable {P : Program} {w : World} {H : Hp} {h h' : Heap} {x e : Addr} {o' : HO}
theorem HOk.write (ok : HOk P w H h) (mu : Mut (H x)) (he : e = x ∨ H e = some (.own x)) (k : ∀ b u, b ≠ e → h.get? b = some u → h'.get? b = some u) (heo : ∃ u, h'.get? e = some u)
    (new : ObjOk P w (upd H x o') h' x o') : HOk P w (upd H x o') h' := fun b u q => by
  have nown : ∀ c y, H c = some (.own y) → c ≠ x := fun c y r z => by subst z; rw [r] at mu; exact mu
  have ntup : ∀ c xs, H c = some (.tup xs) → c ≠ x := fun c xs r z => by subst z; rw [r] at mu; exact mu
  by_cases hb : b = x
  · subst hb; rw [upd_same] at q; cases q; exact new
  · rw [upd_ne hb] at q
    by_cases hbe : b = e
    · have q' : H b = some (.own x) := by
        rcases he with z | z
        · exact absurd (hbe.trans z) hb
        · rw [hbe]; exact z
      rw [q] at q'; cases q'
      obtain ⟨v, hv⟩ := heo
      exact ⟨v, by rw [hbe]; exact hv⟩
    · refine (ok b u q).stay (fun c v hc r => k c v ?_ r) (fun c r => by rw [upd_ne (nown c b r)]; exact r) fun c xs r => by rw [upd_ne (ntup c xs r)]; exact r
      rcases hc with rfl | hc
      · exact hbe
      · rintro rfl
        rcases he with z | z
        · exact nown c b hc z
        · rw [hc] at z; cases z; exact hb rfl
end
structure Un (fs ex : List Addr) (H H' : Hp) (h h' : Heap) : Prop where
  keep : ∀ b o, h.get? b = some o → H b = none → b ∉ fs → b ∉ ex → h'.get? b = some o
  slot : ∀ b o, h.get? b = some o → H b = none → b ∈ fs → b ∉ ex → ∃ sl, h'.get? b = some { o with slots := sl }
  free : ∀ b o, h.get? b = some o → H b = none → b ∉ ex → H' b = none
  there : ∀ b o, h.get? b = some o → b ∉ ex → ∃ o', h'.get? b = some o'
  tups : ∀ b xs, H b = some (.tup xs) → H' b = some (.tup xs)
  frzs : ∀ b o u, H b = some (.frz o u) → H' b = some (.frz o u)
  tbls : ∀ b ps, H b = some (.tbl ps) → ∃ more, H' b = some (.tbl (ps ++ more))
section
variable {fs fs' ex ex' : List Addr} {H H1 H2 : Hp} {h h1 h2 h' : Heap} {a x e : Addr} {o : HO}
theorem Un.any (u : Un fs ex H H1 h h1) {b : Addr} {ob : Obj} (q : h.get? b = some ob) (n : H b = none) (hx : b ∉ ex) : ∃ sl, h1.get? b = some { ob with slots := sl } := by
  by_cases hb : b ∈ fs
  · exact u.slot b ob q n hb hx
  · exact ⟨ob.slots, u.keep b ob q n hb hx⟩
theorem Un.trans (a : Un fs ex H H1 h h1) (b : Un fs ex H1 H2 h1 h2) : Un fs ex H H2 h h2 where
  keep := fun c ob q n hc hx => b.keep c ob (a.keep c ob q n hc hx) (a.free c ob q n hx) hc hx
  slot := fun c ob q n hc hx => by
    obtain ⟨sl, e1⟩ := a.slot c ob q n hc hx
    obtain ⟨sl', e2⟩ := b.slot c _ e1 (a.free c ob q n hx) hc hx
    exact ⟨sl', e2⟩
  free := fun c ob q n hx => by
    obtain ⟨o', e1⟩ := a.there c ob q hx
    exact b.free c o' e1 (a.free c ob q n hx) hx
  there := fun c ob q hx => by
    obtain ⟨o', e1⟩ := a.there c ob q hx
    exact b.there c o' e1 hx
  tups := fun c xs q => b.tups c xs (a.tups c xs q)
  frzs := fun c ob xs q => b.frzs c ob xs (a.frzs c ob xs q)
  tbls := fun c ps q => by
    obtain ⟨m1, e1⟩ := a.tbls c ps q
    obtain ⟨m2, e2⟩ := b.tbls c _ e1
    exact ⟨m1 ++ m2, by rw [e2, Array.append_assoc]⟩
theorem Un.kept (k : ∀ b u, h.get? b = some u → h'.get? b = some u) : Un fs ex H H h h' :=
  ⟨fun b ob q _ _ _ => k b ob q, fun b ob q _ _ _ => ⟨ob.slots, k b ob q⟩, fun _ _ _ n _ => n, fun b ob q _ => ⟨ob, k b ob q⟩, fun _ _ q => q, fun _ _ _ q => q, fun _ ps q => ⟨#[], by rw [q]; simp⟩⟩
theorem Un.refl : Un fs ex H H h h := Un.kept fun _ _ q => q
theorem Un.laid (k : ∀ b u, h.get? b = some u → h'.get? b = some u) (hp : h.objs.size ≤ a) (hn : H a = none) : Un fs ex H (upd H a o) h h' where
  keep := fun b u q _ _ _ => k b u q
  slot := fun b u q _ _ _ => ⟨u.slots, k b u q⟩
  free := fun b u q n _ => by rw [upd_ne (Nat.ne_of_lt (Nat.lt_of_lt_of_le (Heap.lt_size q) hp))]; exact n
  there := fun b u q _ => ⟨u, k b u q⟩
  tups := fun b xs q => by rw [upd_ne (ne_of_none q hn)]; exact q
  frzs := fun b u xs q => by rw [upd_ne (ne_of_none q hn)]; exact q
  tbls := fun b ps q => ⟨#[], by rw [upd_ne (ne_of_none q hn), q]; simp⟩
theorem Un.write (mu : Mut (H x)) (he : e = x ∨ H e = some (.own x)) (k : ∀ b u, b ≠ e → h.get? b = some u → h'.get? b = some u) (heo : ∃ u, h'.get? e = some u) : Un fs ex H (upd H x o) h h' := by
  have hx : ∀ b, H b = none → b ≠ x := fun b n z => by subst z; rw [n] at mu; exact mu
  have hb : ∀ b, H b = none → b ≠ e := fun b n z => by
    subst z
    rcases he with r | r
    · exact hx b n r
    · rw [n] at r; cases r
  have hm : ∀ b u, H b = some u → ¬ Mut (some u) → b ≠ x := fun b u q nm z => by subst z; rw [q] at mu; exact nm mu
  refine ⟨fun b u q n _ _ => k b u (hb b n) q, fun b u q n _ _ => ⟨u.slots, k b u (hb b n) q⟩, fun b u q n _ => by rw [upd_ne (hx b n)]; exact n, fun b u q _ => ?_,
    fun b xs q => by rw [upd_ne (hm b _ q fun z => z)]; exact q, fun b u xs q => by rw [upd_ne (hm b _ q fun z => z)]; exact q, fun b ps q => ⟨#[], by rw [upd_ne (hm b _ q fun z => z), q]; simp⟩⟩
  by_cases hbe : b = e
  · subst hbe; exact heo
  · exact ⟨u, k b u hbe q⟩
theorem Un.mono (u : Un fs ex H H1 h h1) (hs : ∀ b ∈ fs, b ∈ fs') (hx : ∀ b ∈ ex, b ∈ ex') : Un fs' ex' H H1 h h1 :=
  ⟨fun b ob q n hb he => u.keep b ob q n (fun z => hb (hs b z)) fun z => he (hx b z), fun _ _ q n _ he => u.any q n fun z => he (hx _ z), fun b ob q n he => u.free b ob q n fun z => he (hx b z), fun b ob q he => u.there b ob q fun z => he (hx b z), u.tups, u.frzs, u.tbls⟩
end
def trk (h : Heap) (H : Hp) : List Addr := (List.range h.objs.size).filter fun a => (H a).isSome
def hidT (h : Heap) (H : Hp) : Heap := PySem.W.hideAll h (trk h H)
theorem hidT_size (h : Heap) (H : Hp) : (hidT h H).objs.size = h.objs.size := PySem.W.hideAll_size _ _
theorem hidT_get {h : Heap} {H : Hp} {b : Addr} {o : Obj} (e : h.get? b = some o) (n : H b = none) : (hidT h H).get? b = some o :=
  PySem.W.hideAll_get _ e fun hm => by
    have q : (H b).isSome = true := (List.mem_filter.mp hm).2
    rw [n] at q; simp at q
theorem of_hidT {h : Heap} {H : Hp} {b : Addr} {o : Obj} (e : (hidT h H).get? b = some o) : h.get? b = some o ∧ H b = none := by
  have e' : h.get? b = some o := PySem.W.of_hideAll (trk h H) e
  refine ⟨e', ?_⟩
  cases q : H b with
  | none => rfl
  | some x =>
    have hm : b ∈ trk h H := List.mem_filter.mpr ⟨List.mem_range.mpr (Heap.lt_size e'), by simp [q]⟩
    have z : (hidT h H).get? b = none := PySem.W.hideAll_none (trk h H) hm
    rw [z] at e; cases e
def allNews (g h : Heap) (L : Addr) : List (Addr × Obj) := (List.range h.objs.size).filterMap fun a => if a = L ∨ (g.get? a).isSome = true then none else (h.get? a).map fun o => (a, o)
def rest (g h : Heap) (L d : Addr) : List (Addr × Obj) := (allNews g h L).filter fun p => decide (p.1 ≠ d)
end L2
namespace L2
open PySem PySem.Spec PyProof.Rows
structure Mod (K : PySem.W.Frag) (mg : Str → Option Value) (base : Heap) : Prop where
  kin : K.In base
  glob : base.Ns mainGlobals mg
  blt : ∃ mb, base.Ns builtinsNs mb ∧ ∀ x : Str, x ≠ "__name__" → mb x = bootBuiltins x
  nolimit : base.NoLimit
  nodig : base.NoDigits
structure Cx where
  prog : Program
  w : World
  K : PySem.W.Frag
  mg : Str → Option Value
  base : Heap
  A : Around
  N : List Str
  s₀ : Shared
  H₀ : Hp
  env : Env
  outer : List Env
  stack : List Env
  ex : List Addr
  fn : Str → Bool
  calm : Bool
  pn : List (Addr × Obj)
  xe : Value → Shared → Prop
def frs (l : List Env) : List Addr := l.filterMap (·.frame)
abbrev Cx.fs (X : Cx) : List Addr := frs X.outer
def Vis (sc : Scope) (x : Str) : Prop := sc.names.lookup x = some .local ∨ sc.names.lookup x = some .cell ∨ sc.names.lookup x = some .free
def Loc (sc : Scope) (x : Str) : Prop := sc.names.lookup x = some .local ∨ sc.names.lookup x = some .cell
def Look (env : Env) (h : Heap) (m : Str → Option Value) (x : Str) (u : Value) : Prop :=
  (env.kindOf x = some .local ∧ m x = some u) ∨ ((env.kindOf x = some .cell ∨ env.kindOf x = some .free) ∧ ∃ c, env.cells.lookup x = some c ∧ h.IsCell c (some u))
structure Cx.Ok (X : Cx) : Prop where
  mod : Mod X.K X.mg X.base
  kind : X.env.scope.kind = .function
  glob : X.env.globals = mainGlobals
  blt : X.env.builtins = builtinsNs
  above : X.s₀.heap.objs.size ≤ X.env.locals
  inj : ∀ x y c, X.env.cells.lookup x = some c → X.env.cells.lookup y = some c → x = y
  has : ∀ x, (X.env.kindOf x = some .cell ∨ X.env.kindOf x = some .free) → ∃ c, X.env.cells.lookup x = some c
  cab : ∀ x c, X.fn x = true → X.env.cells.lookup x = some c → X.s₀.heap.objs.size ≤ c
  hd : X.calm = true → X.A.handled = none
  frames : X.A.frames = some X.stack
  stk : X.stack = X.outer ∨ (X.stack = X.env :: X.outer ∧ X.env.frame = some X.env.locals)
  exf : ∀ b ∈ X.ex, b ≠ X.env.locals ∧ ∀ x c, X.env.cells.lookup x = some c → c ≠ b
  bs : ∀ b o, X.base.get? b = some o → X.s₀.heap.get? b = some o ∧ X.H₀ b = none
  bsz : X.base.objs.size ≤ X.s₀.heap.objs.size
  noex : ∀ b o, X.base.get? b = some o → b ∉ X.ex
  exfs : ∀ b ∈ X.ex, b ∉ X.fs
  funs : X.s₀.heap.FunFrames X.base X.outer
  frf : ∀ b ∈ X.fs, X.H₀ b = none
structure Inv (X : Cx) (pins : List (Addr × Obj)) (σ : List (Option V)) (H : Hp) (s : Shared) : Prop where
  ok : X.Ok
  os : s.os = X.s₀.os
  bare : AllBare s.gens
  base : Un X.fs X.ex X.H₀ H X.s₀.heap s.heap
  loc : ∃ m, s.heap.Ns X.env.locals m ∧ ∀ (i : Nat) (x : Str) (v : V), X.N[i]? = some x → σ[i]? = some (some v) → Vis X.env.scope x → ∃ u, RelV v u ∧ Look X.env s.heap m x u
  cell : ∀ x c, X.env.cells.lookup x = some c → ∃ v, s.heap.IsCell c v
  free : H X.env.locals = none
  freeC : ∀ x c, X.env.cells.lookup x = some c → H c = none
  pin : ∀ p ∈ X.pn ++ pins, s.heap.get? p.1 = some p.2 ∧ H p.1 = none ∧ p.1 ≠ X.env.locals ∧ p.1 ∉ X.fs ∧ ∀ v, p.2.data ≠ .cell v
  hok : HOk X.prog X.w H s.heap
  len : σ.length = X.N.length
section
variable {X : Cx} {pins : List (Addr × Obj)} {σ : List (Option V)} {H H' : Hp} {s : Shared} {h' : Heap}
theorem Cx.Ok.nofr (ok : X.Ok) {b : Addr} {o : Obj} (e : X.base.get? b = some o) : b ∉ X.fs := fun hb => by
  have := (ok.funs.mem hb).1
  rw [e] at this; cases this
theorem Inv.bs (I : Inv X pins σ H s) : ∀ b o, X.base.get? b = some o → s.heap.get? b = some o ∧ H b = none := fun b o e =>
  ⟨I.base.keep b o (I.ok.bs b o e).1 (I.ok.bs b o e).2 (I.ok.nofr e) (I.ok.noex b o e), I.base.free b o (I.ok.bs b o e).1 (I.ok.bs b o e).2 (I.ok.noex b o e)⟩
theorem Inv.bk (I : Inv X pins σ H s) : ∀ b o, X.base.get? b = some o → s.heap.get? b = some o := fun b o e => (I.bs b o e).1
theorem Inv.mod (I : Inv X pins σ H s) : Mod X.K X.mg X.base := I.ok.mod
theorem Inv.kIn (I : Inv X pins σ H s) : X.K.In s.heap := I.ok.mod.kin.keeps I.bk
theorem Inv.nolimit (I : Inv X pins σ H s) : s.heap.NoLimit := I.ok.mod.nolimit.keeps I.bk
theorem Inv.fr (I : Inv X pins σ H s) : ∃ m, Fr X.base X.env.locals s.heap m :=
  let ⟨m, hn, _⟩ := I.loc
  ⟨m, hn, I.bk, Nat.le_trans I.ok.bsz I.ok.above⟩
theorem Inv.lt (I : Inv X pins σ H s) : X.env.locals < s.heap.objs.size := let ⟨_, hn, _⟩ := I.loc; hn.lt
theorem Inv.sz (I : Inv X pins σ H s) : X.s₀.heap.objs.size ≤ s.heap.objs.size := Nat.le_trans I.ok.above (Nat.le_of_lt I.lt)
theorem Inv.nofs (I : Inv X pins σ H s) {a : Addr} (h : s.heap.objs.size ≤ a) : a ∉ X.fs := fun hb => by
  obtain ⟨_, o, ho, _⟩ := I.ok.funs.mem hb
  exact absurd (Nat.lt_of_lt_of_le (Heap.lt_size ho) (Nat.le_trans I.sz h)) (Nat.lt_irrefl _)
theorem Inv.cne (I : Inv X pins σ H s) : ∀ x c, X.env.cells.lookup x = some c → c ≠ X.env.locals := fun x c e z => by
  obtain ⟨v, o, ho, hd⟩ := I.cell x c e
  obtain ⟨m, ⟨o', es, ep, ho', hd', _⟩, _⟩ := I.loc
  rw [z, ho'] at ho; cases ho; rw [hd'] at hd; cases hd
theorem Inv.funs (I : Inv X pins σ H s) : s.heap.FunFrames X.base X.outer := by
  have all : ∀ (l : List Env), (∀ b ∈ frs l, b ∈ X.fs) → X.s₀.heap.FunFrames X.base l → s.heap.FunFrames X.base l := by
    intro l
    induction l with
    | nil => intro _ _; trivial
    | cons env r ih =>
      intro hs hl
      obtain ⟨hk, ⟨L, o, hf, hn, ho, hd⟩, hr⟩ := hl
      have hL : L ∈ X.fs := hs L (by unfold frs; rw [List.filterMap_cons, hf]; exact List.mem_cons_self)
      obtain ⟨sl, e⟩ := I.base.slot L o ho (I.ok.frf L hL) hL fun z => I.ok.exfs L z hL
      exact ⟨hk, ⟨L, _, hf, hn, e, hd⟩, ih (fun b hb => hs b (by unfold frs; rw [List.filterMap_cons, hf]; exact List.mem_cons_of_mem _ hb)) hr⟩
  exact all X.outer (fun _ hb => hb) I.ok.funs
theorem Inv.stack (I : Inv X pins σ H s) : s.heap.FunFrames X.base X.stack := by
  rcases I.ok.stk with e | ⟨e, hf⟩
  · rw [e]; exact I.funs
  · rw [e]
    obtain ⟨m, hn, _⟩ := I.loc
    refine .cons (by rw [I.ok.kind]; decide) hf hn ?_ I.funs
    exact Heap.get?_none_of_le (Nat.le_trans I.ok.bsz I.ok.above)
theorem Inv.stkSub (I : Inv X pins σ H s) : ∀ b ∈ frs X.stack, b ∈ X.env.locals :: X.fs := fun b hb => by
  rcases I.ok.stk with e | ⟨e, hf⟩
  · rw [e] at hb; exact List.mem_cons_of_mem _ hb
  · rw [e] at hb
    unfold frs at hb
    rw [List.filterMap_cons, hf] at hb
    exact hb
theorem Inv.stkFree (I : Inv X pins σ H s) : ∀ b ∈ frs X.stack, H b = none := fun b hb => by
  rcases List.mem_cons.mp (I.stkSub b hb) with e | hb
  · rw [e]; exact I.free
  · obtain ⟨_, o, ho, _⟩ := I.ok.funs.mem hb
    exact I.base.free b o ho (I.ok.frf b hb) fun z => I.ok.exfs b z hb
theorem Inv.step {g' : Array GenState} {t' : Nat} {d' : Drawn} {ch : List Addr} (I : Inv X pins σ H s)
    (hch : ∀ b ∈ ch, (b ∈ X.ex ∨ X.s₀.heap.objs.size ≤ b) ∧ b ≠ X.env.locals ∧ (∀ x c, X.env.cells.lookup x = some c → c ≠ b) ∧ ∀ p ∈ X.pn ++ pins, p.1 ≠ b)
    (keep : ∀ b o, b ≠ X.env.locals → b ∉ X.fs → b ∉ ch → s.heap.get? b = some o → H b = none → h'.get? b = some o)
    (slot : ∀ b o, b ≠ X.env.locals → b ∈ X.fs → b ∉ ch → s.heap.get? b = some o → H b = none → ∃ sl, h'.get? b = some { o with slots := sl }) (free : ∀ b o, b ∉ ch → s.heap.get? b = some o → H b = none → H' b = none)
    (there : ∀ b o, b ∉ ch → s.heap.get? b = some o → ∃ o', h'.get? b = some o')
    (tups : ∀ b xs, H b = some (.tup xs) → H' b = some (.tup xs)) (frzs : ∀ b o u, H b = some (.frz o u) → H' b = some (.frz o u)) (tbls : ∀ b ps, H b = some (.tbl ps) → ∃ more, H' b = some (.tbl (ps ++ more)))
    (ns : ∀ m, s.heap.Ns X.env.locals m → h'.Ns X.env.locals m) (hok : HOk X.prog X.w H' h') (hg : AllBare g') :
    Inv X pins σ H' { s with heap := h', gens := g', drawn := d', toks := t' } := by
  have neL : ∀ b o, X.s₀.heap.get? b = some o → b ≠ X.env.locals := fun b o e => Nat.ne_of_lt (Nat.lt_of_lt_of_le (Heap.lt_size e) I.ok.above)
  have neC : ∀ b o, X.s₀.heap.get? b = some o → b ∉ X.ex → b ∉ ch := fun b o e hx hb => by
    rcases (hch b hb).1 with z | z
    · exact hx z
    · exact absurd (Nat.lt_of_lt_of_le (Heap.lt_size e) z) (Nat.lt_irrefl _)
  have cellK : ∀ x c, X.env.cells.lookup x = some c → ∀ v, s.heap.IsCell c v → h'.IsCell c v := fun x c e v ⟨o, ho, hd⟩ => by
    have nch : c ∉ ch := fun z => (hch c z).2.2.1 x c e rfl
    by_cases hc : c ∈ X.fs
    · obtain ⟨sl, q⟩ := slot c o (I.cne x c e) hc nch ho (I.freeC x c e)
      exact ⟨_, q, hd⟩
    · exact ⟨o, keep c o (I.cne x c e) hc nch ho (I.freeC x c e), hd⟩
  refine ⟨I.ok, I.os, hg, ⟨fun b o e n hb hx => ?_, fun b o e n hb hx => ?_, fun b o e n hx => ?_, fun b o e hx => ?_, fun b xs e => tups b xs (I.base.tups b xs e), fun b o xs e => frzs b o xs (I.base.frzs b o xs e), fun b ps e => ?_⟩, ?_, fun x c e => ?_, ?_, fun x c e => ?_, fun p hp => ?_, hok, I.len⟩
  · exact keep b o (neL b o e) hb (neC b o e hx) (I.base.keep b o e n hb hx) (I.base.free b o e n hx)
  · obtain ⟨sl, e1⟩ := I.base.slot b o e n hb hx
    obtain ⟨sl', e2⟩ := slot b _ (neL b o e) hb (neC b o e hx) e1 (I.base.free b o e n hx)
    exact ⟨sl', e2⟩
  · obtain ⟨o', e1⟩ := I.base.there b o e hx
    exact free b o' (neC b o e hx) e1 (I.base.free b o e n hx)
  · obtain ⟨o', e1⟩ := I.base.there b o e hx
    exact there b o' (neC b o e hx) e1
  · obtain ⟨m1, e1⟩ := I.base.tbls b ps e
    obtain ⟨m2, e2⟩ := tbls b _ e1
    exact ⟨m1 ++ m2, by rw [e2, Array.append_assoc]⟩
  · obtain ⟨m, hn, hl⟩ := I.loc
    refine ⟨m, ns m hn, fun i x v e1 e2 e3 => ?_⟩
    obtain ⟨u, r, l⟩ := hl i x v e1 e2 e3
    refine ⟨u, r, ?_⟩
    rcases l with l | ⟨k, c, e, z⟩
    · exact .inl l
    · exact .inr ⟨k, c, e, cellK x c e _ z⟩
  · obtain ⟨v, z⟩ := I.cell x c e
    exact ⟨v, cellK x c e v z⟩
  · obtain ⟨m, ⟨o, _, _, ho, _⟩, _⟩ := I.loc
    exact free _ o (fun z => (hch _ z).2.1 rfl) ho I.free
  · obtain ⟨v, o, ho, hd⟩ := I.cell x c e
    exact free c o (fun z => (hch c z).2.2.1 x c e rfl) ho (I.freeC x c e)
  · obtain ⟨e, n, ne, nf, d⟩ := I.pin p hp
    have nch : p.1 ∉ ch := fun z => (hch p.1 z).2.2.2 p hp rfl
    exact ⟨keep p.1 p.2 ne nf nch e n, free p.1 p.2 nch e n, ne, nf, d⟩
theorem Inv.un {t' : Nat} (I : Inv X pins σ H s) (u : Un X.fs [] H H' s.heap h') (hok : HOk X.prog X.w H' h') : Inv X pins σ H' { s with heap := h', toks := t' } := by
  obtain ⟨m, ⟨o, es, ep, ho, r⟩, _⟩ := id I.loc
  obtain ⟨sl, hL⟩ := u.any ho I.free (by simp)
  exact I.step (g' := s.gens) (d' := s.drawn) (ch := []) (fun _ z => nomatch z) (fun b o _ hb _ e n => u.keep b o e n hb (by simp)) (fun b o _ hb _ e n => u.slot b o e n hb (by simp)) (fun b o _ e n => u.free b o e n (by simp)) (fun b o _ e => u.there b o e (by simp)) u.tups u.frzs u.tbls (fun m' hm => by
    obtain ⟨o', es', ep', ho', r'⟩ := hm
    rw [ho] at ho'; cases ho'
    exact ⟨_, es', ep', hL, r'⟩) hok I.bare
theorem Inv.call {g' : Array GenState} {t' : Nat} {d' : Drawn} {ch : List Addr} (I : Inv X pins σ H s) (u : Un (frs X.stack) ch H H' s.heap h') (hok : HOk X.prog X.w H' h') (hg : AllBare g')
    (hch : ∀ b ∈ ch, (b ∈ X.ex ∨ X.s₀.heap.objs.size ≤ b) ∧ b ≠ X.env.locals ∧ (∀ x c, X.env.cells.lookup x = some c → c ≠ b) ∧ ∀ p ∈ X.pn ++ pins, p.1 ≠ b) :
    Inv X pins σ H' { s with heap := h', gens := g', drawn := d', toks := t' } := by
  obtain ⟨m, ⟨o, es, ep, ho, r⟩, _⟩ := id I.loc
  obtain ⟨sl, hL⟩ := u.any ho I.free fun z => (hch _ z).2.1 rfl
  exact I.step (ch := ch) hch (fun b o hL hb hc e n => u.keep b o e n (fun z => (List.mem_cons.mp (I.stkSub b z)).elim hL hb) hc) (fun b o _ _ hc e n => u.any e n hc) (fun b o hc e n => u.free b o e n hc) (fun b o hc e => u.there b o e hc) u.tups u.frzs u.tbls (fun m' hm => by
    obtain ⟨o', es', ep', ho', r'⟩ := hm
    rw [ho] at ho'; cases ho'
    exact ⟨_, es', ep', hL, r'⟩) hok hg
theorem Inv.turned {t' : Nat} {it : Addr} (I : Inv X pins σ H s) (k : ∀ b o, b ≠ it → s.heap.get? b = some o → h'.get? b = some o) (hn : H it = none) (hL : it ≠ X.env.locals)
    (h1 : it ∈ X.ex ∨ X.s₀.heap.objs.size ≤ it) (h2 : ∀ x c, X.env.cells.lookup x = some c → c ≠ it) (h3 : ∀ p ∈ X.pn ++ pins, p.1 ≠ it) : Inv X pins σ H { s with heap := h', toks := t' } := by
  have nit : ∀ b u, H b = some u → b ≠ it := fun b u e z => by rw [z, hn] at e; cases e
  refine I.step (g' := s.gens) (d' := s.drawn) (ch := [it]) (fun b hb => ?_) (fun b o _ _ hc e _ => k b o (fun z => hc (by simp [z])) e) (fun b o _ _ hc e _ => ⟨o.slots, k b o (fun z => hc (by simp [z])) e⟩) (fun _ _ _ _ n => n)
    (fun b o hc e => ⟨o, k b o (fun z => hc (by simp [z])) e⟩) (fun _ _ e => e) (fun _ _ _ e => e) (fun b ps e => ⟨#[], by rw [e]; simp⟩) (fun m hm => ?_) (fun b u e => ?_) I.bare
  · have e : b = it := by simpa using hb
    subst e
    exact ⟨h1, hL, h2, h3⟩
  · obtain ⟨o, es, ep, ho, r⟩ := hm
    exact ⟨o, es, ep, k _ o (Ne.symm hL) ho, r⟩
  · refine (I.hok b u e).stay (fun c v hc q => k c v ?_ q) (fun _ q => q) fun _ _ q => q
    rcases hc with z | z
    · rw [z]; exact nit b u e
    · exact nit c _ z
theorem Inv.tok (I : Inv X pins σ H s) (t : Nat) : Inv X pins σ H { s with toks := t } := I.un (h' := s.heap) (t' := t) Un.refl I.hok
theorem Inv.kept {t' : Nat} (I : Inv X pins σ H s) (k : ∀ b u, s.heap.get? b = some u → h'.get? b = some u) : Inv X pins σ H { s with heap := h', toks := t' } := I.un (Un.kept k) (I.hok.kept k)
theorem Inv.laid {a : Addr} {o : HO} {t' : Nat} (I : Inv X pins σ H s) (k : ∀ b u, s.heap.get? b = some u → h'.get? b = some u) (hp : s.heap.objs.size ≤ a) (new : ObjOk X.prog X.w (upd H a o) h' a o) :
    Inv X pins σ (upd H a o) { s with heap := h', toks := t' } := I.un (Un.laid k hp (I.hok.fresh hp)) (I.hok.laid k hp new)
theorem Inv.write {x e : Addr} {o : HO} {t' : Nat} (I : Inv X pins σ H s) (mu : Mut (H x)) (he : e = x ∨ H e = some (.own x)) (k : ∀ b u, b ≠ e → s.heap.get? b = some u → h'.get? b = some u) (heo : ∃ u, h'.get? e = some u)
    (new : ObjOk X.prog X.w (upd H x o) h' x o) : Inv X pins σ (upd H x o) { s with heap := h', toks := t' } := I.un (Un.write mu he k heo) (I.hok.write mu he k heo new)
theorem Inv.weak {σ' : List (Option V)} (I : Inv X pins σ H s) (hl : σ'.length = σ.length) (w : ∀ (i : Nat) v, σ'[i]? = some (some v) → σ[i]? = some (some v)) : Inv X pins σ' H s :=
  ⟨I.ok, I.os, I.bare, I.base, let ⟨m, hn, hl'⟩ := I.loc; ⟨m, hn, fun i x v e1 e2 e3 => hl' i x v e1 (w i v e2) e3⟩, I.cell, I.free, I.freeC, I.pin, I.hok, hl.trans I.len⟩
theorem Inv.pins_of {pins' : List (Addr × Obj)} (I : Inv X pins σ H s) (h : ∀ p ∈ pins', s.heap.get? p.1 = some p.2 ∧ H p.1 = none ∧ p.1 ≠ X.env.locals ∧ p.1 ∉ X.fs ∧ ∀ v, p.2.data ≠ .cell v) : Inv X pins' σ H s :=
  ⟨I.ok, I.os, I.bare, I.base, I.loc, I.cell, I.free, I.freeC, fun p hp => (List.mem_append.mp hp).elim (fun z => I.pin p (List.mem_append_left _ z)) (h p), I.hok, I.len⟩
theorem nodup_ix {N : List Str} (hN : N.Nodup) {i j : Nat} {x : Str} (a : N[i]? = some x) (b : N[j]? = some x) : i = j := by
  obtain ⟨h1, e1⟩ := List.getElem?_eq_some_iff.mp a
  obtain ⟨h2, e2⟩ := List.getElem?_eq_some_iff.mp b
  exact (List.getElem_inj hN).mp (e1.trans e2.symm)
theorem store_ok2 {M : Model} {A : Around} {E : Value → Shared → Prop} {i : Nat} {x : Str} {v : V} {u : Value} {Q : Unit → Shared → Prop} (I : Inv X pins σ H s) (hN : X.N.Nodup) (hi : X.N[i]? = some x) (hx : Loc X.env.scope x) (r : RelV v u)
    (h : ∀ s', Inv X pins (σ.set i (some v)) H s' → (∃ a, Heap.SameBut a s.heap s'.heap ∧ (a = X.env.locals ∨ X.env.cells.lookup x = some a)) → Q () s') (hf : X.fn x = true ∨ X.env.scope.names.lookup x = some .local := by first | exact .inl rfl | exact .inr rfl | assumption) : wpAny M A (storeName X.env x u) Q E s := by
  obtain ⟨m, hn, hl⟩ := id I.loc
  have hcls : (X.env.scope.kind == .class || (X.env.scope.kind == .module && X.env.locals != X.env.globals)) = false := by rw [I.ok.kind]; rfl
  have hiσ : i < σ.length := by rw [I.len]; exact (List.getElem?_eq_some_iff.mp hi).1
  have cne := I.cne
  have tracked : ∀ {a : Addr} {h' : Heap}, (∃ o, s.heap.get? a = some o ∧ H a = none) → Heap.SameBut a s.heap h' → HOk X.prog X.w H h' := fun {a h'} ha hs b ob e => by
    obtain ⟨_, _, hfree⟩ := ha
    refine (I.hok b ob e).stay (fun c w' hc q => (hs.2 c ?_).trans q) (fun _ q => q) fun _ _ q => q
    rintro rfl
    rcases hc with rfl | hc
    · rw [hfree] at e; cases e
    · rw [hfree] at hc; cases hc
  rcases hx with hk | hk
  · refine wpAny_storeName_local hk hn (fun h' hn' hs => ?_) hcls
    obtain ⟨oL, _, _, hoL, _⟩ := id hn
    refine h _ ⟨I.ok, I.os, I.bare, ⟨fun b o e n hb hx => ?_, fun b o e n hb hx => ?_, I.base.free, fun b o e hx => ?_, I.base.tups, I.base.frzs, I.base.tbls⟩, ⟨_, hn', fun j y v' e1 e2 e3 => ?_⟩, fun y c e => ?_, I.free, I.freeC, fun p hp => ?_, tracked ⟨oL, hoL, I.free⟩ hs, by simpa using I.len⟩ ⟨_, hs, .inl rfl⟩
    · exact (hs.2 b (Nat.ne_of_lt (Nat.lt_of_lt_of_le (Heap.lt_size e) I.ok.above))).trans (I.base.keep b o e n hb hx)
    · obtain ⟨sl, e1⟩ := I.base.slot b o e n hb hx
      exact ⟨sl, (hs.2 b (Nat.ne_of_lt (Nat.lt_of_lt_of_le (Heap.lt_size e) I.ok.above))).trans e1⟩
    · obtain ⟨o', e1⟩ := I.base.there b o e hx
      exact ⟨o', (hs.2 b (Nat.ne_of_lt (Nat.lt_of_lt_of_le (Heap.lt_size e) I.ok.above))).trans e1⟩
    · by_cases hj : j = i
      · subst hj
        rw [hi] at e1; cases e1
        rw [List.getElem?_set_self hiσ] at e2
        cases e2
        exact ⟨u, r, .inl ⟨hk, by simp⟩⟩
      · rw [List.getElem?_set_ne (Ne.symm hj)] at e2
        obtain ⟨u', r', q⟩ := hl j y v' e1 e2 e3
        refine ⟨u', r', ?_⟩
        rcases q with ⟨k, e⟩ | ⟨k, c, e, z⟩
        · refine .inl ⟨k, ?_⟩
          have : y ≠ x := fun e => hj (nodup_ix hN e1 (e ▸ hi))
          simp [this, e]
        · exact .inr ⟨k, c, e, z.sameBut hs (cne y c e)⟩
    · obtain ⟨w', z⟩ := I.cell y c e
      exact ⟨w', z.sameBut hs (cne y c e)⟩
    · obtain ⟨e, n, ne, nf, d⟩ := I.pin p hp
      exact ⟨(hs.2 p.1 ne).trans e, n, ne, nf, d⟩
  · have hfn : X.fn x = true := by
      rcases hf with z | z
      · exact z
      · rw [z] at hk; cases hk
    obtain ⟨c, hc⟩ := I.ok.has x (.inl hk)
    obtain ⟨w', z⟩ := I.cell x c hc
    refine wpAny_storeName_cell I.ok.kind hk hc z (fun h' hc' hs => ?_)
    obtain ⟨oc, hoc, hocd⟩ := id z
    refine h { s with heap := h' } ⟨I.ok, I.os, I.bare, ⟨fun b o e n hb hx => ?_, fun b o e n hb hx => ?_, I.base.free, fun b o e hx => ?_, I.base.tups, I.base.frzs, I.base.tbls⟩, ⟨m, hn.sameBut hs (Ne.symm (cne x c hc)), fun j y v' e1 e2 e3 => ?_⟩, fun y c' e => ?_, I.free, I.freeC, fun p hp => ?_, tracked ⟨oc, hoc, I.freeC x c hc⟩ hs, by simpa using I.len⟩ ⟨c, hs, .inr hc⟩
    · exact (hs.2 b (Nat.ne_of_lt (Nat.lt_of_lt_of_le (Heap.lt_size e) (I.ok.cab x c hfn hc)))).trans (I.base.keep b o e n hb hx)
    · obtain ⟨sl, e1⟩ := I.base.slot b o e n hb hx
      exact ⟨sl, (hs.2 b (Nat.ne_of_lt (Nat.lt_of_lt_of_le (Heap.lt_size e) (I.ok.cab x c hfn hc)))).trans e1⟩
    · obtain ⟨o', e1⟩ := I.base.there b o e hx
      exact ⟨o', (hs.2 b (Nat.ne_of_lt (Nat.lt_of_lt_of_le (Heap.lt_size e) (I.ok.cab x c hfn hc)))).trans e1⟩
    · by_cases hj : j = i
      · subst hj
        rw [hi] at e1; cases e1
        rw [List.getElem?_set_self hiσ] at e2
        cases e2
        exact ⟨u, r, .inr ⟨.inl hk, c, hc, hc'⟩⟩
      · rw [List.getElem?_set_ne (Ne.symm hj)] at e2
        obtain ⟨u', r', q⟩ := hl j y v' e1 e2 e3
        refine ⟨u', r', ?_⟩
        rcases q with q | ⟨k, c', e, z'⟩
        · exact .inl q
        · refine .inr ⟨k, c', e, z'.sameBut hs ?_⟩
          rintro rfl
          exact hj (nodup_ix hN e1 (I.ok.inj _ _ _ e hc ▸ hi))
    · by_cases hcc : c' = c
      · subst hcc; exact ⟨_, hc'⟩
      · obtain ⟨w2, z2⟩ := I.cell y c' e
        exact ⟨w2, z2.sameBut hs hcc⟩
    · obtain ⟨e, n, ne, nf, d⟩ := I.pin p hp
      refine ⟨(hs.2 p.1 ?_).trans e, n, ne, nf, d⟩
      intro q
      rw [q, hoc] at e
      have q' : oc = p.2 := Option.some.inj e
      exact d w' (by rw [← q']; exact hocd)
theorem store_ok {M : Model} {A : Around} {E : Value → Shared → Prop} {i : Nat} {x : Str} {v : V} {u : Value} {Q : Unit → Shared → Prop} (I : Inv X pins σ H s) (hN : X.N.Nodup) (hi : X.N[i]? = some x) (hx : Loc X.env.scope x) (r : RelV v u)
    (h : ∀ s', Inv X pins (σ.set i (some v)) H s' → Q () s') (hf : X.fn x = true ∨ X.env.scope.names.lookup x = some .local := by first | exact .inl rfl | exact .inr rfl | assumption) : wpAny M A (storeName X.env x u) Q E s :=
  store_ok2 I hN hi hx r (fun s' I' _ => h s' I') hf
theorem Inv.call' {s' : Shared} {ch : List Addr} (I : Inv X pins σ H s) (ho : s'.os = s.os) (u : Un (frs X.stack) ch H H' s.heap s'.heap) (hok : HOk X.prog X.w H' s'.heap) (hg : AllBare s'.gens)
    (hch : ∀ b ∈ ch, (b ∈ X.ex ∨ X.s₀.heap.objs.size ≤ b) ∧ b ≠ X.env.locals ∧ (∀ x c, X.env.cells.lookup x = some c → c ≠ b) ∧ ∀ p ∈ X.pn ++ pins, p.1 ≠ b) : Inv X pins σ H' s' := by
  obtain ⟨h', g', d', t', o'⟩ := s'
  have e : o' = s.os := ho
  subst e
  exact I.call (g' := g') (t' := t') (d' := d') u hok hg hch
end
abbrev XK := Value → Option Addr → Hp → Prop
abbrev St := List (Option V)
abbrev VK := V → Hp → Prop
abbrev TE := St → Hp → VK → Prop
abbrev TT := St → Hp → (Bool → Hp → Prop) → Prop
abbrev TA := St → Hp → (List V → Hp → Prop) → Prop
structure Ends where
  nx : St → Hp → Prop
  rt : VK
  bk : St → Hp → Prop := fun _ _ => False
  ct : St → Hp → Prop := fun _ _ => False
abbrev TS := Ends → St → Hp → Prop
def EP (X : Cx) (pins : List (Addr × Obj)) (σ : St) (Q : VK) (u : Value) (s' : Shared) : Prop := ∃ v H', Inv X pins σ H' s' ∧ RelV v u ∧ Q v H'
def TP (X : Cx) (pins : List (Addr × Obj)) (σ : St) (Q : Bool → Hp → Prop) (b : Bool) (s' : Shared) : Prop := ∃ H', Inv X pins σ H' s' ∧ Q b H'
def AP (X : Cx) (pins : List (Addr × Obj)) (σ : St) (Q : List V → Hp → Prop) (us : List Value) (s' : Shared) : Prop := ∃ vs H', Inv X pins σ H' s' ∧ Vals vs us ∧ Q vs H'
def SP (X : Cx) (pins : List (Addr × Obj)) (D : Ends) (f : Flow) (s' : Shared) : Prop :=
  match f with
  | .next => ∃ σ' H', Inv X pins σ' H' s' ∧ D.nx σ' H'
  | .brk => ∃ σ' H', Inv X pins σ' H' s' ∧ D.bk σ' H'
  | .cont => ∃ σ' H', Inv X pins σ' H' s' ∧ D.ct σ' H'
  | .ret u => ∃ v σ' H', Inv X pins σ' H' s' ∧ RelV v u ∧ D.rt v H'
def PE (X : Cx) (e : Expr) (t : TE) : Prop :=
  ∀ (pins : List (Addr × Obj)) (s : Shared) (σ : St) (H : Hp) (Q : VK), Inv X pins σ H s → t σ H Q → wpAny (model X.prog X.w) X.A (eval e X.env) (EP X pins σ Q) X.xe s
def PT (X : Cx) (e : Expr) (t : TT) : Prop :=
  ∀ (pins : List (Addr × Obj)) (s : Shared) (σ : St) (H : Hp) (Q : Bool → Hp → Prop), Inv X pins σ H s → t σ H Q → wpAny (model X.prog X.w) X.A (isTrue e X.env (eval e X.env)) (TP X pins σ Q) X.xe s
def PW (X : Cx) (e : Expr) (t : TT) : Prop :=
  ∀ (whole : Sem Value) (pins : List (Addr × Obj)) (s : Shared) (σ : St) (H : Hp) (Q : Bool → Hp → Prop), Inv X pins σ H s → t σ H Q → wpAny (model X.prog X.w) X.A (isTrue e X.env whole) (TP X pins σ Q) X.xe s
theorem PW.pt {X : Cx} {e : Expr} {t : TT} (h : PW X e t) : PT X e t := h _
def PA (X : Cx) (es : List Expr) (t : TA) : Prop :=
  ∀ (pos : Pos) (pins : List (Addr × Obj)) (s : Shared) (σ : St) (H : Hp) (Q : List V → Hp → Prop), Inv X pins σ H s → t σ H Q → wpAny (model X.prog X.w) X.A (spliced (backTo pos (starEach es X.env))) (AP X pins σ Q) X.xe s
def PS (X : Cx) (st : Stmt) (t : TS) : Prop :=
  ∀ (pins : List (Addr × Obj)) (s : Shared) (σ : St) (H : Hp) (D : Ends), Inv X pins σ H s → t D σ H → wpAny (model X.prog X.w) X.A (exec st X.env) (SP X pins D) X.xe s
def PSs (X : Cx) (st : List Stmt) (t : TS) : Prop :=
  ∀ (pins : List (Addr × Obj)) (s : Shared) (σ : St) (H : Hp) (D : Ends), Inv X pins σ H s → t D σ H → wpAny (model X.prog X.w) X.A (execs st X.env) (SP X pins D) X.xe s
theorem thn {α : Type} {t : Sem α} {Q Q' : α → Shared → Prop} {M : Model} {A : Around} {E : Value → Shared → Prop} {s : Shared} (h : wpAny M A t Q E s) (hQ : ∀ a s, Q a s → Q' a s) : wpAny M A t Q' E s := wpAny_mono h hQ fun _ _ x => x
end L2
namespace L2
open PySem PySem.Spec PyProof.Rows
section
variable {X : Cx}
inductive tVarS (i : Nat) (σ : St) (H : Hp) (Q : VK) : Prop
  | mk (v : V) (h : σ[i]? = some (some v)) (k : Q v H)
def tVar (i : Nat) : TE := fun σ H Q => tVarS i σ H Q
def tC (v : V) : TE := fun _ H Q => Q v H
theorem pe_var {i : Nat} {x : Str} {pos : Pos} (hN : X.N[i]? = some x) (hv : Vis X.env.scope x) (hd : (x == ("__debug__" : Str)) = false := by decide) (hcd : (x == ("__classdict__" : Str)) = false := by decide) : PE X (.Name x pos) (tVar i) := by
  intro pins s σ H Q I h
  obtain ⟨v, e, h⟩ := h
  obtain ⟨m, hn, hl⟩ := I.loc
  obtain ⟨u, r, l⟩ := hl i x v hN e hv
  have fin : EP X pins σ Q u s := ⟨v, H, I, r, h⟩
  rcases l with ⟨hk, hm⟩ | ⟨hk, c, hc, hcell⟩
  · exact wpAny_Name (wpAny_loadName_local I.ok.kind hk hn hm fin) hd
  · rcases hk with hk | hk
    · exact wpAny_Name (wpAny_loadName_cell I.ok.kind hk hc hcell fin) hd
    · exact wpAny_Name (wpAny_loadName_free I.ok.kind hk hc hcell fin hcd) hd
theorem pe_int {i j pos} : PE X (.Constant (.int i) j pos) (tC (.int i)) := fun _ _ _ H _ I h => wpAny_Constant_int ⟨.int i, H, I.tok _, ⟨_, rfl⟩, h⟩
theorem pe_bl {b j pos} : PE X (.Constant (.bool b) j pos) (tC (.bl b)) := fun _ _ _ H _ I h => Constant_bool ⟨.bl b, H, I, rfl, h⟩
theorem pe_non {j pos} : PE X (.Constant .none j pos) (tC .non) := fun _ _ _ H _ I h => Constant_none ⟨.non, H, I, rfl, h⟩
theorem pe_str {x j pos} : PE X (.Constant (.str x) j pos) (tC (.str x)) := fun _ _ _ H _ I h => Calls.Constant_str ⟨.str x, H, I.tok _, ⟨_, rfl⟩, h⟩
def Gl (X : Cx) (x : Str) : Prop := X.env.kindOf x = some .globalImplicit
theorem ld_glob {E : Value → Shared → Prop} {pins : List (Addr × Obj)} {s : Shared} {σ : St} {H : Hp} {x : Str} {u : Value} {pos : Pos} {Q : Value → Shared → Prop} (I : Inv X pins σ H s) (hg : Gl X x) (hm : X.mg x = some u) (h : Q u s)
    (hd : (x == ("__debug__" : Str)) = false := by decide) : wpAny (model X.prog X.w) X.A (eval (.Name x pos) X.env) Q E s :=
  Calls.Name_function_global I.ok.kind hg (Calls.loadGlobal_global (by rw [I.ok.glob]; exact I.mod.glob.keeps I.bk) hm h) hd
theorem ld_blt {E : Value → Shared → Prop} {pins : List (Addr × Obj)} {s : Shared} {σ : St} {H : Hp} {x : Str} {u : Value} {pos : Pos} {Q : Value → Shared → Prop} (I : Inv X pins σ H s) (hg : Gl X x) (hm : X.mg x = none) (hv : bootBuiltins x = some u) (h : Q u s)
    (hn : x ≠ "__name__" := by decide) (hd : (x == ("__debug__" : Str)) = false := by decide) : wpAny (model X.prog X.w) X.A (eval (.Name x pos) X.env) Q E s := by
  obtain ⟨mb, h1, h2⟩ := I.mod.blt
  exact Calls.Name_function_global I.ok.kind hg (Calls.loadGlobal_builtin (by rw [I.ok.glob]; exact I.mod.glob.keeps I.bk) hm (by rw [I.ok.blt]; exact h1.keeps I.bk) ((h2 x hn).trans hv) h) hd
theorem pe_glob {x : Str} {v : V} {u : Value} {pos : Pos} (hg : Gl X x) (hm : X.mg x = some u) (r : RelV v u) (hd : (x == ("__debug__" : Str)) = false := by decide) : PE X (.Name x pos) (tC v) :=
  fun _ _ _ H _ I h => ld_glob I hg hm ⟨v, H, I, r, h⟩ hd
theorem pe_bltn {x : Str} {v : V} {u : Value} {pos : Pos} (hg : Gl X x) (hm : X.mg x = none) (hv : bootBuiltins x = some u) (r : RelV v u) (hn : x ≠ "__name__" := by decide) (hd : (x == ("__debug__" : Str)) = false := by decide) : PE X (.Name x pos) (tC v) :=
  fun _ _ _ H _ I h => ld_blt I hg hm hv ⟨v, H, I, r, h⟩ hn hd
variable {a b : Expr} {ta tb : TE} {pos : Pos}
inductive tBS (x : V) (H : Hp) (Q : Bool → Hp → Prop) : Prop
  | mk (c : Bool) (h : x = .bl c) (k : Q c H)
def tB (t : TE) : TT := fun σ H Q => t σ H fun x H1 => tBS x H1 Q
theorem pt_val {e : Expr} {t : TE} (h : PE X e t) (he : ∀ whole, isTrue e X.env whole = (do let v ← whole; standAt e.pos; holding [v] (truthy v)) := by intro _; rfl) : PT X e (tB t) := by
  intro pins s σ H Q I hw
  refine isTrue_plain (thn (h pins s σ H _ I hw) fun v s1 hq__ => ?_) (he _)
  obtain ⟨x, H1, I1, r1, q1⟩ := hq__
  obtain ⟨d, rfl, q⟩ := q1
  cases r1
  exact wpAny_truthy_bool ⟨H1, I1, q⟩
variable {tA tB' : TT} {rest : List Expr}
def tAnd (t u : TT) : TT := fun σ H Q => t σ H fun c H1 => if c = true then u σ H1 Q else Q false H1
def tOr (t u : TT) : TT := fun σ H Q => t σ H fun c H1 => if c = true then Q true H1 else u σ H1 Q
def tNot (t : TT) : TT := fun σ H Q => t σ H fun c H1 => Q (!c) H1
theorem pw_and1 (ha : PT X a tA) : PW X (.BoolOp .And [a] pos) tA := by
  intro wh pins s σ H Q I h
  refine isTrue_and (thn (ha pins s σ H Q I h) fun c s1 e => ?_)
  cases c with
  | true => exact isTrue_and_nil e
  | false => exact e
theorem pw_or1 (ha : PT X a tA) : PW X (.BoolOp .Or [a] pos) tA := by
  intro wh pins s σ H Q I h
  refine isTrue_or (thn (ha pins s σ H Q I h) fun c s1 e => ?_)
  cases c with
  | false => exact isTrue_or_nil e
  | true => exact e
theorem pw_and (ha : PT X a tA) (hb : PW X (.BoolOp .And (b :: rest) pos) tB') : PW X (.BoolOp .And (a :: b :: rest) pos) (tAnd tA tB') := by
  intro wh pins s σ H Q I h
  refine isTrue_and (thn (ha pins s σ H _ I h) fun c s1 hq__ => ?_)
  obtain ⟨H1, I1, q1⟩ := hq__
  cases c with
  | true => exact hb wh pins s1 σ H1 Q I1 q1
  | false => exact ⟨H1, I1, q1⟩
theorem pw_or (ha : PT X a tA) (hb : PW X (.BoolOp .Or (b :: rest) pos) tB') : PW X (.BoolOp .Or (a :: b :: rest) pos) (tOr tA tB') := by
  intro wh pins s σ H Q I h
  refine isTrue_or (thn (ha pins s σ H _ I h) fun c s1 hq__ => ?_)
  obtain ⟨H1, I1, q1⟩ := hq__
  cases c with
  | true => exact ⟨H1, I1, q1⟩
  | false => exact hb wh pins s1 σ H1 Q I1 q1
theorem pt_not (ha : PT X a tA) : PT X (.UnaryOp .Not a pos) (tNot tA) := by
  intro pins s σ H Q I h
  exact isTrue_not (ha pins s σ H (fun c H1 => Q (!c) H1) I h)
inductive tAndVS (tb : TE) (σ : St) (x : V) (H : Hp) (Q : VK) : Prop
  | mk (c : Bool) (h : x = .bl c) (k : if c = true then tb σ H Q else Q (.bl false) H)
def tAndV (ta tb : TE) : TE := fun σ H Q => ta σ H fun x H1 => tAndVS tb σ x H1 Q
inductive tOrVS (tb : TE) (σ : St) (x : V) (H : Hp) (Q : VK) : Prop
  | mk (c : Bool) (h : x = .bl c) (k : if c = true then Q (.bl true) H else tb σ H Q)
def tOrV (ta tb : TE) : TE := fun σ H Q => ta σ H fun x H1 => tOrVS tb σ x H1 Q
inductive tNotVS (x : V) (H : Hp) (Q : VK) : Prop
  | mk (c : Bool) (h : x = .bl c) (k : Q (.bl (!c)) H)
def tNotV (ta : TE) : TE := fun σ H Q => ta σ H fun x H1 => tNotVS x H1 Q
theorem pe_one {op} {t : TE} (h : PE X a t) : PE X (.BoolOp op [a] pos) t := fun pins s σ H Q I hw => BoolOp_one (h pins s σ H Q I hw)
theorem pe_and (ha : PE X a ta) (hb : PE X (.BoolOp .And (b :: rest) pos) tb) : PE X (.BoolOp .And (a :: b :: rest) pos) (tAndV ta tb) := by
  intro pins s σ H Q I h
  refine BoolOp_and (thn (ha pins s σ H _ I h) fun v s1 hq__ => ?_)
  obtain ⟨x, H1, I1, r1, q1⟩ := hq__
  obtain ⟨c, rfl, q1⟩ := q1
  cases r1
  refine wpAny_truthy_bool ?_
  cases c with
  | true => exact hb pins s1 σ H1 Q I1 q1
  | false => exact ⟨.bl false, H1, I1, rfl, q1⟩
theorem pe_or (ha : PE X a ta) (hb : PE X (.BoolOp .Or (b :: rest) pos) tb) : PE X (.BoolOp .Or (a :: b :: rest) pos) (tOrV ta tb) := by
  intro pins s σ H Q I h
  refine BoolOp_or (thn (ha pins s σ H _ I h) fun v s1 hq__ => ?_)
  obtain ⟨x, H1, I1, r1, q1⟩ := hq__
  obtain ⟨c, rfl, q1⟩ := q1
  cases r1
  refine wpAny_truthy_bool ?_
  cases c with
  | false => exact hb pins s1 σ H1 Q I1 q1
  | true => exact ⟨.bl true, H1, I1, rfl, q1⟩
theorem pe_not (ha : PE X a ta) : PE X (.UnaryOp .Not a pos) (tNotV ta) := by
  intro pins s σ H Q I h
  refine UnaryOp_ (thn (ha pins s σ H _ I h) fun v s1 hq__ => ?_)
  obtain ⟨x, H1, I1, r1, q1⟩ := hq__
  obtain ⟨c, rfl, q1⟩ := q1
  cases r1
  exact not_of (wpAny_truthy_bool ⟨.bl (!c), H1, I1, rfl, q1⟩)
def tIf (t : TT) (ta tb : TE) : TE := fun σ H Q => t σ H fun c H1 => if c = true then ta σ H1 Q else tb σ H1 Q
theorem pe_ifExp {c : Expr} (hc : PT X c tA) (ha : PE X a ta) (hb : PE X b tb) : PE X (.IfExp c a b pos) (tIf tA ta tb) := by
  intro pins s σ H Q I h
  refine wpAny_IfExp (thn (hc pins s σ H _ I h) fun d s1 hq__ => ?_)
  obtain ⟨H1, I1, q1⟩ := hq__
  cases d with
  | true => exact ha pins s1 σ H1 Q I1 q1
  | false => exact hb pins s1 σ H1 Q I1 q1
end
end L2
namespace L2
open PySem PySem.Spec PyProof.Rows
def SqL (K : PySem.W.Frag) (H : Hp) (a : Addr) (xs : List V) : Prop :=
  Rd H a (.lst xs) ∨
    ∃ (o : Obj) (its : Array Value) (n : Nat), K.lookup a = some o ∧ o.cls = .type "list" ∧ o.dict = none ∧ o.data = .seq its n ∧ its.size ≤ sizeLine ∧ Vals xs its.toList
def SqT (K : PySem.W.Frag) (H : Hp) (a : Addr) (xs : List V) : Prop :=
  Rd H a (.tup xs) ∨
    ∃ (o : Obj) (its : Array Value) (n : Nat), K.lookup a = some o ∧ o.cls = .type "tuple" ∧ o.data = .seq its n ∧ its.size ≤ sizeLine ∧ Vals xs its.toList
def absV : Value → Option V
  | .none => some .non
  | .bool b => some (.bl b)
  | .int i _ => some (.int i)
  | .str x _ => some (.str x)
  | .bytes b _ => some (.byt b)
  | .float b _ => some (.flt b)
  | .ref a => some (.ref a)
  | .type n => some (.ty n)
  | _ => none
theorem RelV.abs {x : V} {u : Value} (r : RelV x u) : absV u = some x := by
  cases x with
  | non => cases r; rfl
  | bl _ => cases r; rfl
  | int _ => obtain ⟨t, rfl⟩ := r; rfl
  | str _ => obtain ⟨t, rfl⟩ := r; rfl
  | byt _ => obtain ⟨t, rfl⟩ := r; rfl
  | flt _ => obtain ⟨t, rfl⟩ := r; rfl
  | ref _ => cases r; rfl
  | ty _ => cases r; rfl
theorem RelV.inj {x y : V} {u : Value} (r : RelV x u) (q : RelV y u) : x = y := Option.some.inj (r.abs.symm.trans q.abs)
theorem Vals.inj : ∀ {xs ys : List V} {us : List Value}, Vals xs us → Vals ys us → xs = ys
  | _, _, _, .nil, .nil => rfl
  | _, _, _, .cons r t, .cons r' t' => by rw [r.inj r', Vals.inj t t']
section
variable {X : Cx} {pins : List (Addr × Obj)} {σ : St} {H : Hp} {s : Shared} {a : Addr} {xs ys : List V}
theorem SqL.of {K : PySem.W.Frag} (h : H a = some (.lst xs)) : SqL K H a xs := .inl (.inl h)
theorem SqT.of {K : PySem.W.Frag} (h : H a = some (.tup xs)) : SqT K H a xs := .inl (.inl h)
theorem Inv.list (I : Inv X pins σ H s) (h : SqL X.K H a xs) : ∃ its : List Value, Vals xs its ∧ PlainL s.heap a its.toArray ∧ xs.length ≤ sizeLine := by
  rcases h with h | ⟨o, its, n, hk, hc, hd, hs, hz, r⟩
  · obtain ⟨z, its, n, r, e⟩ := h.ok I.hok
    exact ⟨its, r, ⟨_, n, e, rfl, rfl, rfl⟩, z⟩
  · refine ⟨its.toList, r, ⟨o, n, I.kIn a o hk, hc, hd, by simpa using hs⟩, ?_⟩
    have e := r.length
    simp only [Array.length_toList] at e
    omega
theorem Inv.tuple (I : Inv X pins σ H s) (h : SqT X.K H a xs) : ∃ its : List Value, Vals xs its ∧ IsTup s.heap a its.toArray ∧ xs.length ≤ sizeLine := by
  rcases h with h | ⟨o, its, n, hk, hc, hs, hz, r⟩
  · obtain ⟨z, its, r, p⟩ := h.ok I.hok
    exact ⟨its, r, p, z⟩
  · refine ⟨its.toList, r, ⟨o, I.kIn a o hk, hc, n, by simpa using hs⟩, ?_⟩
    have e := r.length
    simp only [Array.length_toList] at e
    omega
theorem Inv.list_inj (I : Inv X pins σ H s) (h : SqL X.K H a xs) (h' : SqL X.K H a ys) : xs = ys := by
  obtain ⟨its, r, ⟨o, n, e, _, _, d⟩, _⟩ := I.list h
  obtain ⟨its', r', ⟨o', n', e', _, _, d'⟩, _⟩ := I.list h'
  rw [e] at e'; cases e'
  rw [d] at d'
  injection d' with d1 _
  have : its = its' := by simpa using congrArg Array.toList d1
  subst this
  exact r.inj r'
end
abbrev Cx.wish (X : Cx) (E : Value → Shared → Prop) : Cx := { X with xe := E }
abbrev Cx.nox (X : Cx) : Cx := X.wish fun _ _ => False
theorem Cx.Ok.wish {X : Cx} (ok : X.Ok) (E : Value → Shared → Prop) : (X.wish E).Ok :=
  ⟨ok.mod, ok.kind, ok.glob, ok.blt, ok.above, ok.inj, ok.has, ok.cab, ok.hd, ok.frames, ok.stk, ok.exf, ok.bs, ok.bsz, ok.noex, ok.exfs, ok.funs, ok.frf⟩
theorem Cx.Ok.unwish {X : Cx} {E : Value → Shared → Prop} (ok : (X.wish E).Ok) : X.Ok :=
  ⟨ok.mod, ok.kind, ok.glob, ok.blt, ok.above, ok.inj, ok.has, ok.cab, ok.hd, ok.frames, ok.stk, ok.exf, ok.bs, ok.bsz, ok.noex, ok.exfs, ok.funs, ok.frf⟩
section
variable {X : Cx} {pins : List (Addr × Obj)} {σ : St} {H : Hp} {s : Shared} {E : Value → Shared → Prop}
theorem Inv.wish (I : Inv X pins σ H s) (E : Value → Shared → Prop) : Inv (X.wish E) pins σ H s := ⟨I.ok.wish E, I.os, I.bare, I.base, I.loc, I.cell, I.free, I.freeC, I.pin, I.hok, I.len⟩
theorem Inv.unwish (I : Inv (X.wish E) pins σ H s) : Inv X pins σ H s := ⟨I.ok.unwish, I.os, I.bare, I.base, I.loc, I.cell, I.free, I.freeC, I.pin, I.hok, I.len⟩
theorem SP.unwish {D : Ends} {f : Flow} {s' : Shared} (h : SP (X.wish E) pins D f s') : SP X pins D f s' := by
  cases f with
  | next => obtain ⟨σ', H', I, q⟩ := h; exact ⟨σ', H', I.unwish, q⟩
  | brk => obtain ⟨σ', H', I, q⟩ := h; exact ⟨σ', H', I.unwish, q⟩
  | cont => obtain ⟨σ', H', I, q⟩ := h; exact ⟨σ', H', I.unwish, q⟩
  | ret u => obtain ⟨v, σ', H', I, r, q⟩ := h; exact ⟨v, σ', H', I.unwish, r, q⟩
theorem PE.nox {e : Expr} {t : TE} (h : PE X.nox e t) : PE X e t := fun pins s σ H Q I hw =>
  wpAny_mono (h pins s σ H Q (I.wish _) hw) (fun _ _ ⟨v, H', I', r, q⟩ => ⟨v, H', I'.unwish, r, q⟩) fun _ _ z => False.elim z
theorem PT.nox {e : Expr} {t : TT} (h : PT X.nox e t) : PT X e t := fun pins s σ H Q I hw =>
  wpAny_mono (h pins s σ H Q (I.wish _) hw) (fun _ _ ⟨H', I', q⟩ => ⟨H', I'.unwish, q⟩) fun _ _ z => False.elim z
theorem PSs.nox {st : List Stmt} {t : TS} (h : PSs X.nox st t) : PSs X st t := fun pins s σ H D I hw =>
  wpAny_mono (h pins s σ H D (I.wish _) hw) (fun _ _ q => q.unwish) fun _ _ z => False.elim z
end
section
variable {X : Cx} {st : Stmt} {rest : List Stmt} {t u : TS} {e : Expr} {te : TE} {pos : Pos}
def tNext : TS := fun D σ H => D.nx σ H
def tSeq (t u : TS) : TS := fun D σ H => t { D with nx := u D } σ H
theorem pss_nil : PSs X [] tNext := fun _ _ σ H _ I h => wpAny_execs_nil ⟨σ, H, I, h⟩
theorem pss_cons (h1 : PS X st t) (h2 : PSs X rest u) : PSs X (st :: rest) (tSeq t u) := by
  intro pins s σ H D I h
  refine wpAny_execs_cons (thn (h1 pins s σ H { D with nx := u D } I h) fun f s1 q => ?_)
  cases f with
  | next =>
    obtain ⟨σ', H', I', q⟩ := q
    exact h2 pins s1 σ' H' D I' q
  | ret v => exact q
  | brk => exact q
  | cont => exact q
theorem pss_one (h1 : PS X st t) : PSs X [st] t := by
  intro pins s σ H D I h
  refine wpAny_execs_cons (thn (h1 pins s σ H D I h) fun f s1 q => ?_)
  cases f with
  | next => exact wpAny_execs_nil q
  | ret v => exact q
  | brk => exact q
  | cont => exact q
theorem Inv.quiet {pins : List (Addr × Obj)} {σ : St} {H : Hp} {s : Shared} (I : Inv X pins σ H s) : interactive X.env = false := by simp [interactive, I.ok.kind]
def tDrop (te : TE) : TS := fun D σ H => te σ H fun _ H1 => D.nx σ H1
theorem ps_expr (he : PE X e te) (hs : swapsWith e none pos.line X.env = pure false := by rfl) : PS X (.Expr e pos) (tDrop te) := by
  intro pins s σ H D I h
  exact wpAny_Expr_any (thn (he pins s σ H _ I h) fun v s1 ⟨x, H1, I1, r1, q1⟩ => ⟨σ, H1, I1, q1⟩) I.quiet hs
def tRet (te : TE) : TS := fun D σ H => te σ H D.rt
theorem ps_ret (he : PE X e te) : PS X (.Return (some e) pos) (tRet te) := by
  intro pins s σ H D I h
  exact wpAny_Return_some (thn (he pins s σ H _ I h) fun v s1 ⟨x, H1, I1, r1, q1⟩ => ⟨x, σ, H1, I1, r1, q1⟩)
def tRetN : TS := fun D _ H => D.rt .non H
theorem ps_retN : PS X (.Return none pos) tRetN := fun _ _ σ H _ I h => wpAny_Return_none ⟨.non, σ, H, I, rfl, h⟩
def tIfS (c : TT) (t u : TS) : TS := fun D σ H => c σ H fun b H1 => if b = true then t D σ H1 else u D σ H1
theorem ps_if {c : Expr} {a b : List Stmt} {tc : TT} (hc : PT X c tc) (ha : PSs X a t) (hb : PSs X b u) : PS X (.If c a b pos) (tIfS tc t u) := by
  intro pins s σ H D I h
  refine wpAny_If (thn (hc pins s σ H _ I h) fun d s1 hq__ => ?_)
  obtain ⟨H1, I1, q1⟩ := hq__
  cases d with
  | true => exact ha pins s1 σ H1 D I1 q1
  | false => exact hb pins s1 σ H1 D I1 q1
end
abbrev TG := V → St → Hp → (St → Hp → Prop) → Prop
abbrev TGs := List V → St → Hp → (St → Hp → Prop) → Prop
def PG (X : Cx) (target : Expr) (t : TG) : Prop :=
  ∀ (pins : List (Addr × Obj)) (s : Shared) (σ : St) (H : Hp) (v : V) (u : Value) (Q : St → Hp → Prop), Inv X pins σ H s → RelV v u → t v σ H Q →
    wpAny (model X.prog X.w) X.A (assign target X.env u) (fun _ s' => ∃ σ' H', Inv X pins σ' H' s' ∧ Q σ' H') X.xe s
def PGs (X : Cx) (ts : List Expr) (t : TGs) : Prop :=
  ∀ (pins : List (Addr × Obj)) (s : Shared) (σ : St) (H : Hp) (vs : List V) (us : List Value) (Q : St → Hp → Prop), Inv X pins σ H s → Vals vs us → t vs σ H Q →
    wpAny (model X.prog X.w) X.A (assignInOrder ((assignEach ts X.env).map (·.2)) us) (fun _ s' => ∃ σ' H', Inv X pins σ' H' s' ∧ Q σ' H') X.xe s
abbrev TSet := V → V → V → Hp → (Hp → Prop) → Prop
def PSet (X : Cx) (t : TSet) : Prop :=
  ∀ (pins : List (Addr × Obj)) (s : Shared) (σ : St) (H : Hp) (o i v : V) (ov iv u : Value) (Q : Hp → Prop), Inv X pins σ H s → RelV o ov → RelV i iv → RelV v u → t o i v H Q →
    wpAny (model X.prog X.w) X.A (setItem ov iv u) (fun _ s' => ∃ H', Inv X pins σ H' s' ∧ Q H') X.xe s
section
variable {X : Cx} {pos : Pos}
def gName (i : Nat) : TG := fun v σ H Q => Q (σ.set i (some v)) H
theorem pg_name {i : Nat} {x : Str} (hN : X.N.Nodup) (hi : X.N[i]? = some x) (hx : Loc X.env.scope x) (hf : X.fn x = true ∨ X.env.scope.names.lookup x = some .local := by first | exact .inl rfl | exact .inr rfl | assumption) : PG X (.Name x pos) (gName i) := by
  intro pins s σ H v u Q I r h
  exact wpAny_assign_Name (store_ok I hN hi hx r (fun s' I' => ⟨_, H, I', h⟩) hf)
def gNil : TGs := fun vs σ H Q => vs = [] ∧ Q σ H
def gCons (t : TG) (u : TGs) : TGs := fun vs σ H Q => ∃ v r, vs = v :: r ∧ t v σ H fun σ' H' => u r σ' H' Q
theorem pgs_nil : PGs X [] gNil := by
  intro pins s σ H vs us Q I r h
  obtain ⟨e, h⟩ := h
  subst e
  cases r
  exact assignInOrder_nil ⟨σ, H, I, h⟩
theorem pgs_cons {e : Expr} {es : List Expr} {t : TG} {u : TGs} (h1 : PG X e t) (h2 : PGs X es u)
    (hs : (assignEach (e :: es) X.env).map (·.2) = assign e X.env :: (assignEach es X.env).map (·.2) := by rfl) : PGs X (e :: es) (gCons t u) := by
  intro pins s σ H vs us Q I r h
  obtain ⟨v, vr, e1, h⟩ := h
  subst e1
  cases r with
  | cons r rr =>
    rw [hs]
    refine assignInOrder_cons (thn (h1 pins s σ H _ _ _ I r h) fun _ s1 hq__ => ?_)
    obtain ⟨σ1, H1, I1, q1⟩ := hq__
    exact h2 pins s1 σ1 H1 _ _ Q I1 rr q1
def gTup (K : PySem.W.Frag) (n : Nat) (t : TGs) : TG := fun v σ H Q => ∃ a xs, v = .ref a ∧ SqT K H a xs ∧ xs.length = n ∧ t xs σ H Q
theorem pg_tup {es : List Expr} {k : Nat} {t : TGs} {n : Nat} (hc : X.calm = true) (h : PGs X es t)
    (hn : (assignEach es X.env).length = n := by rfl) (hst : (assignEach es X.env).findIdx? (·.1) = none := by rfl) : PG X (.Tuple es k pos) (gTup X.K n t) := by
  intro pins s σ H v u Q I r hw
  obtain ⟨a, xs, e1, hq, hl, hw⟩ := hw
  subst e1
  cases r
  obtain ⟨its, rv, ht, hz⟩ := I.tuple hq
  refine assign_Tuple_tuple (I.ok.hd hc) ht (by simp [hn, ← hl, rv.length]) hst fun h' hx => ?_
  have I1 : Inv X pins σ H { s with heap := h' } := I.kept (t' := s.toks) fun b o e => hx b o (Nat.ne_of_lt (Heap.lt_size e)) e
  exact h pins _ σ H xs _ Q I1 (by simpa using rv) hw
def gSub (to ti : TE) (t : TSet) : TG := fun v σ H Q => to σ H fun o H1 => ti σ H1 fun i H2 => t o i v H2 fun H3 => Q σ H3
theorem pg_sub {o i : Expr} {to ti : TE} {t : TSet} (ho : PE X o to) (hi : PE X i ti) (hs : PSet X t)
    (ha : ∀ v, assign (.Subscript o i pos) X.env v = (do
      let ov ← holding [v] (eval o X.env)
      let iv ← holding [v, ov] (eval i X.env)
      standAt pos
      holding [v, ov, iv] (setItem ov iv v)
      release [v, ov, iv] []) := by intro _; rfl) : PG X (.Subscript o i pos) (gSub to ti t) := by
  intro pins s σ H v u Q I r h
  rw [ha]
  refine wpAny_bind (wpAny_holding (thn (ho pins s σ H _ I h) fun ov s1 hq__ => ?_))
  obtain ⟨x, H1, I1, r1, q1⟩ := hq__
  refine wpAny_bind (wpAny_holding (thn (hi pins s1 σ H1 _ I1 q1) fun iv s2 hq__ => ?_))
  obtain ⟨y, H2, I2, r2, q2⟩ := hq__
  refine wpAny_bind (wpAny_standAt (wpAny_bind (wpAny_holding (thn (hs pins s2 σ H2 x y v ov iv u _ I2 r1 r2 r q2) fun _ s3 hq__ => ?_))))
  obtain ⟨H3, I3, q3⟩ := hq__
  exact wpAny_release ⟨σ, H3, I3, q3⟩
def tAsg (te : TE) (g : TG) : TS := fun D σ H => te σ H fun x H1 => g x σ H1 D.nx
theorem ps_asg {tg e : Expr} {te : TE} {g : TG} (he : PE X e te) (hg : PG X tg g) (hs : swapsWithSole [tg] e pos.line X.env = pure false := by rfl) (hw : swappedStores [tg] e X.env = pure none := by rfl)
    (h1 : (assignEach [tg] X.env).map (·.2) = [assign tg X.env] := by rfl) : PS X (.Assign [tg] e pos) (tAsg te g) := by
  intro pins s σ H D I h
  refine wpAny_Assign_stores (thn (he pins s σ H _ I h) fun v s1 hq__ => ?_) hs hw
  obtain ⟨x, H1, I1, r1, q1⟩ := hq__
  rw [h1]
  exact thn (hg pins s1 σ H1 x v _ I1 r1 q1) fun _ s2 q => q
theorem ps_set {i : Nat} {x : Str} {e : Expr} {te : TE} {pos' : Pos} (hN : X.N.Nodup) (hi : X.N[i]? = some x) (hx : Loc X.env.scope x) (he : PE X e te) (hs : swapsWith e (some (.Name x pos')) pos.line X.env = pure false := by rfl) (hf : X.fn x = true ∨ X.env.scope.names.lookup x = some .local := by first | exact .inl rfl | exact .inr rfl | assumption) :
    PS X (.Assign [.Name x pos'] e pos) (tAsg te (gName i)) := by
  intro pins s σ H D I h
  refine wpAny_Assign_Name (thn (he pins s σ H _ I h) fun v s1 hq__ => ?_) hs
  obtain ⟨y, H1, I1, r1, q1⟩ := hq__
  exact store_ok I1 hN hi hx r1 (fun s2 I2 => ⟨_, H1, I2, q1⟩) hf
end
section
variable {X : Cx} {pos : Pos}
end
structure It where
  go : Nat → Hp → Prop
  yld : Nat → Hp → V → Hp → Prop
  stop : Nat → Hp → Prop
def FpOk (X : Cx) (pins : List (Addr × Obj)) (H : Hp) (b : Addr) : Prop :=
  H b = none ∧ b ≠ X.env.locals ∧ b ∉ X.fs ∧ (b ∈ X.ex ∨ X.s₀.heap.objs.size ≤ b) ∧ (∀ x c, X.env.cells.lookup x = some c → c ≠ b) ∧ ∀ p ∈ X.pn ++ pins, p.1 ≠ b
theorem Inv.fpOk {X : Cx} {pins : List (Addr × Obj)} {σ : St} {H H' : Hp} {s : Shared} {b : Addr} (I : Inv X pins σ H s) (hb : s.heap.objs.size ≤ b) (hn : H' b = none) : FpOk X pins H' b := by
  refine ⟨hn, Nat.ne_of_gt (Nat.lt_of_lt_of_le I.lt hb), I.nofs hb, .inr (Nat.le_trans I.sz hb), fun x c e z => ?_, fun p hp z => ?_⟩
  · obtain ⟨v, q⟩ := I.cell x c e
    exact absurd (Nat.lt_of_lt_of_le q.lt (by rw [z]; exact hb)) (Nat.lt_irrefl _)
  · exact absurd (Nat.lt_of_lt_of_le (Heap.lt_size (I.pin p hp).1) (by rw [z]; exact hb)) (Nat.lt_irrefl _)
structure Turn (P : Program) (w : World) (K : PySem.W.Frag) (tg : Expr) (J : It) (fp : List Addr) (it : Addr) (tn : Nat → Heap → Prop) : Prop where
  mem : it ∈ fp
  obj : ∀ i h, tn i h → ∀ b ∈ fp, ∃ o, h.get? b = some o ∧ ∀ v, o.data ≠ .cell v
  keep : ∀ i h h', tn i h → (∀ b ∈ fp, ∀ o, h.get? b = some o → h'.get? b = some o) → tn i h'
  item : ∀ (X : Cx), X.prog = P → X.w = w → X.K = K → X.calm = true → ∀ (i : Nat) (pins : List (Addr × Obj)) (s : Shared) (σ : St) (H : Hp) (E : Value → Shared → Prop), Inv X pins σ H s → (∀ b ∈ fp, FpOk X pins H b) → tn i s.heap → J.go i H →
    wpAny (model P w) X.A (pyNext (.ref it)) (fun r s1 => ∃ u, r = some u ∧
      wpAny (model P w) X.A (letOwnedTupleGo tg (.ref it) u) (fun _ s2 => ∃ x H', Inv X pins σ H' s2 ∧ RelV x u ∧ J.yld i H x H' ∧ tn (i + 1) s2.heap ∧ ∀ b ∈ fp, H' b = none) E s1) E s
  done : ∀ (X : Cx), X.prog = P → X.w = w → X.K = K → X.calm = true → ∀ (i : Nat) (pins : List (Addr × Obj)) (s : Shared) (σ : St) (H : Hp) (E : Value → Shared → Prop), Inv X pins σ H s → (∀ b ∈ fp, FpOk X pins H b) → tn i s.heap → J.stop i H →
    wpAny (model P w) X.A (pyNext (.ref it)) (fun r s1 => r = none ∧ Inv X pins σ H s1) E s
  self : ∀ (A : Around) (i : Nat) (s : Shared) (Q : Value → Shared → Prop) (E : Value → Shared → Prop), tn i s.heap → Q (.ref it) s → wpAny (model P w) A (pyIter (.ref it)) Q E s
abbrev TI := St → Hp → (It → Hp → Prop) → Prop
def PIE (X : Cx) (pins : List (Addr × Obj)) (σ : St) (tg : Expr) (R : It → Hp → Prop) (itv : Value) (s2 : Shared) : Prop :=
  ∃ (it : Addr) (fp : List Addr) (tn : Nat → Heap → Prop) (J : It) (H' : Hp), itv = .ref it ∧ Inv X pins σ H' s2 ∧ Turn X.prog X.w X.K tg J fp it tn ∧ tn 0 s2.heap ∧ (∀ b ∈ fp, FpOk X pins H' b) ∧ R J H'
def PI (X : Cx) (tg iter : Expr) (wi : TI) : Prop :=
  ∀ (pins : List (Addr × Obj)) (s : Shared) (σ : St) (H : Hp) (R : It → Hp → Prop), Inv X pins σ H s → wi σ H R →
    wpAny (model X.prog X.w) X.A (eval iter X.env) (fun v s1 => wpAny (model X.prog X.w) X.A (pyIter v) (PIE X pins σ tg R) X.xe s1) X.xe s
theorem go_of {M : Model} {A : Around} {E : Value → Shared → Prop} {s : Shared} {tg : Expr} {it : Addr} {u : Value} {o : Obj} {n : String} {vs : Array Value} {Q : Unit → Shared → Prop} (ho : s.heap.get? it = some o) (hc : o.cls = .type n) (hd : o.data = .fields vs)
    (hn : ["enumerate", "zip", "dict_itemiterator", "dict_reverseitemiterator", "odict_iterator", "itertools.zip_longest", "itertools.pairwise"].contains n = false) (hQ : Q () s) : wpAny M A (letOwnedTupleGo tg (.ref it) u) Q E s := by
  unfold letOwnedTupleGo
  cases tg <;> first
    | exact wpAny_pure hQ
    | (cases u <;> first
        | exact wpAny_pure hQ
        | (refine wpAny_bind (wpAny_load ho ?_)
           rw [hc, hd]
           show wpAny M A (if (["enumerate", "zip", "dict_itemiterator", "dict_reverseitemiterator", "odict_iterator", "itertools.zip_longest", "itertools.pairwise"].contains n && vs[0]? == some (rawInt _)) = true then _ else _) Q E s
           rw [if_neg (by intro h; rw [hn, Bool.false_and] at h; cases h)]
           exact wpAny_pure hQ))
def Itl (K : PySem.W.Frag) (a : Addr) : It :=
  ⟨fun i H => ∃ xs x, SqL K H a xs ∧ xs[i]? = some x, fun i H x H' => H' = H ∧ ∀ xs, SqL K H a xs → xs[i]? = some x, fun i H => ∃ xs, SqL K H a xs ∧ xs.length ≤ i⟩
def Itr (lo : Int) (n : Nat) : It := ⟨fun i _ => i < n, fun i H x H' => H' = H ∧ x = .int (lo + i), fun i _ => n ≤ i⟩
theorem turn_list {P : Program} {w : World} {K : PySem.W.Frag} {tg : Expr} (a it : Addr) : Turn P w K tg (Itl K a) [it] it (fun i h => h.IsListIter it a i) where
  mem := by simp
  obj := fun i h st b hb => by
    have e : b = it := by simpa using hb
    subst e
    obtain ⟨o, e, c, d⟩ := st
    exact ⟨o, e, fun v z => by rw [d] at z; cases z⟩
  keep := fun i h h' st k => st.at fun o e => k it (by simp) o e
  item := by
    intro X hP hw hK hc i pins s σ H E I hf st hg
    subst hP hw hK
    obtain ⟨xs, x, hq, hx⟩ := hg
    obtain ⟨its, rv, p, hz⟩ := I.list hq
    obtain ⟨u, hu, ru⟩ := rv.get hx
    obtain ⟨f0, f1, f2, f3, f4, f5⟩ := hf it (by simp)
    refine wpAny_pyNext_list_item st p.isList (x := u) (by simpa using hu) fun h' st' sb => ?_
    have I1 : Inv X pins σ H { s with heap := h' } := I.turned (t' := s.toks) (fun b o hb e => (sb.2 b hb).trans e) f0 f1 f3 f4 f5
    obtain ⟨o, e, c, d⟩ := id st'
    exact ⟨u, rfl, go_of (s := { s with heap := h' }) e c d (by decide) ⟨x, H, I1, ru, ⟨rfl, fun ys hy => by rw [I.list_inj hy hq]; exact hx⟩, st', fun b hb => (hf b hb).1⟩⟩
  done := by
    intro X hP hw hK hc i pins s σ H E I hf st hg
    subst hP hw hK
    obtain ⟨xs, hq, hx⟩ := hg
    obtain ⟨its, rv, p, hz⟩ := I.list hq
    obtain ⟨f0, f1, f2, f3, f4, f5⟩ := hf it (by simp)
    have hl := rv.length
    exact wpAny_pyNext_list_end (I.ok.hd hc) st p.isList (by simp; omega) fun h' eb => ⟨rfl, I.turned (t' := s.toks) (fun b o hb e => eb b o hb e) f0 f1 f3 f4 f5⟩
  self := fun _ _ _ _ _ st h => wpAny_pyIter_listiter st h
theorem turn_range {P : Program} {w : World} {K : PySem.W.Frag} {tg : Expr} (it : Addr) (lo : Int) (n : Nat) : Turn P w K tg (Itr lo n) [it] it (fun i h => IsRangeIter h it (lo + (i : Nat) * 1) ((n : Int) - (i : Nat)) 1) where
  mem := by simp
  obj := fun i h st b hb => by
    have e : b = it := by simpa using hb
    subst e
    exact ⟨_, st, fun v z => by
      have z' : Data.fields _ = Data.cell v := z
      cases z'⟩
  keep := fun i h h' st k => k it (by simp) _ st
  item := by
    intro X hP hw hK hc i pins s σ H E I hf st hg
    subst hP hw hK
    obtain ⟨f0, f1, f2, f3, f4, f5⟩ := hf it (by simp)
    have W := Walks.range (prog := X.prog) (w := X.w) (I.ok.hd hc) it lo 1 n
    refine W.item i s _ _ hg st fun v h' tk hv st' kk => ?_
    obtain ⟨t, rfl⟩ := hv
    have I1 : Inv X pins σ H { s with heap := h', toks := tk } := I.turned (fun b o hb e => kk b o (by simpa using hb) e) f0 f1 f3 f4 f5
    refine ⟨_, rfl, go_of (s := { s with heap := h', toks := tk }) (n := "range_iterator") st' rfl rfl (by decide) ⟨.int (lo + i), H, I1, ⟨t, ?_⟩, ⟨rfl, rfl⟩, st', fun b hb => (hf b hb).1⟩⟩
    rw [Int.mul_one]
  done := by
    intro X hP hw hK hc i pins s σ H E I hf st hg
    subst hP hw hK
    obtain ⟨f0, f1, f2, f3, f4, f5⟩ := hf it (by simp)
    exact wpAny_pyNext_range_end (I.ok.hd hc) st (by have : n ≤ i := hg; omega) fun h' eb => ⟨rfl, I.turned (t' := s.toks) (fun b o hb e => eb b o hb e) f0 f1 f3 f4 f5⟩
  self := fun _ _ _ _ _ st h => wpAny_pyIter_rangeiter st h
end L2
namespace L2
open PySem PySem.Spec PyProof.Rows
section
variable {X : Cx} {tg : Expr}
def iList (K : PySem.W.Frag) (tl : TE) : TI := fun σ H R => tl σ H fun x H1 => ∃ a, x = .ref a ∧ (∃ xs, SqL K H1 a xs) ∧ R (Itl K a) H1
theorem pi_list {l : Expr} {tl : TE} (hl : PE X l tl) : PI X tg l (iList X.K tl) := by
  intro pins s σ H R I h
  refine thn (hl pins s σ H _ I h) fun v s1 hq__ => ?_
  obtain ⟨x, H1, I1, r1, q1⟩ := hq__
  obtain ⟨a, e, ⟨xs, hq⟩, q⟩ := q1
  subst e
  cases r1
  obtain ⟨its, rv, p, hz⟩ := I1.list hq
  refine wpAny_pyIter_list p.isList ?_
  refine ⟨s1.heap.objs.size, [s1.heap.objs.size], _, _, H1, rfl, I1.kept (t' := s1.toks) fun b o e => Heap.get?_push_of_some _ e, turn_list a _, ⟨_, Heap.get?_push_size _ rfl, rfl, rfl⟩, fun b hb => ?_, q⟩
  have e : b = s1.heap.objs.size := by simpa using hb
  subst e
  exact I1.fpOk (Nat.le_refl _) (I1.hok.fresh (Nat.le_refl _))
theorem range_it {pins : List (Addr × Obj)} {σ : St} {H : Hp} {s : Shared} {R : It → Hp → Prop} {E : Value → Shared → Prop} {lo hi : Int} {t u v : Tok} {tk : Nat} (I : Inv X pins σ H s) (h1 : -(2 ^ 62) ≤ lo) (h2 : lo < 2 ^ 62) (h3 : -(2 ^ 62) ≤ hi) (h4 : hi < 2 ^ 62)
    (q : R (Itr lo (hi - lo).toNat) H) : wpAny (model X.prog X.w) X.A (pyIter (.ref s.heap.objs.size)) (PIE X pins σ tg R) E { s with heap := s.heap.push { cls := .type "range", data := .fields #[.int lo t, .int hi u, .int 1 v] }, toks := tk } := by
  refine wpAny_pyIter_range (IsRange.new ..) (small_one h1 h2 h3 h4) ?_
  have I1 : Inv X pins σ H { s with heap := s.heap.push { cls := .type "range", data := .fields #[.int lo t, .int hi u, .int 1 v] }, toks := tk } := I.kept fun b o e => Heap.get?_push_of_some _ e
  refine ⟨(s.heap.push { cls := .type "range", data := .fields #[.int lo t, .int hi u, .int 1 v] }).objs.size, [(s.heap.push { cls := .type "range", data := .fields #[.int lo t, .int hi u, .int 1 v] }).objs.size], _, _, H, rfl,
    I1.kept (t' := tk) fun b o e => Heap.get?_push_of_some _ e, turn_range _ lo (hi - lo).toNat, ?_, fun b hb => ?_, q⟩
  · have e1 : lo + ((0 : Nat) : Int) * 1 = lo := by simp
    have e2 : (((hi - lo).toNat : Nat) : Int) - ((0 : Nat) : Int) = Builtin.Range.rangeSize lo hi 1 := by rw [rangeSize_one]; split <;> omega
    show IsRangeIter _ _ (lo + ((0 : Nat) : Int) * 1) ((((hi - lo).toNat : Nat) : Int) - ((0 : Nat) : Int)) 1
    rw [e1, e2]
    exact Heap.get?_push_size _ rfl
  · have e : b = (s.heap.push { cls := .type "range", data := .fields #[.int lo t, .int hi u, .int 1 v] }).objs.size := by simpa using hb
    subst e
    exact I1.fpOk (Nat.le_refl _) (I1.hok.fresh (Nat.le_refl _))
def iRng1 (ta : TA) : TI := fun σ H R => ta σ H fun vs H1 => ∃ j : Int, vs = [.int j] ∧ -(2 ^ 62) ≤ j ∧ j < 2 ^ 62 ∧ R (Itr 0 j.toNat) H1
theorem pi_range1 {a : Expr} {ta : TA} {p pos : Pos} (hg : Gl X "range") (hm : X.mg "range" = none) (ha : PA X [a] ta) (hs : starEach [a] X.env = [(false, eval a X.env)] := by rfl) : PI X tg (.Call (.Name "range" p) [a] [] pos) (iRng1 ta) := by
  intro pins s σ H R I h
  refine Call_ (ld_blt I hg hm boot_range (PyProof.Rows.callWith_type1 (thn (ha pos pins s σ H _ I h) fun us s1 hq__ => ?_) hs rfl))
  obtain ⟨vs, H1, I1, r1, q1⟩ := hq__
  obtain ⟨j, e, q1, q2, q⟩ := q1
  subst e
  cases r1 with
  | cons r rr =>
    cases rr
    obtain ⟨t, rfl⟩ := r
    exact call_range_1 (range_it I1 (by omega) (by omega) q1 q2 (by simpa using q))
def tFor (wi : TI) (g : TG) (tb : TS) : TS := fun D σ H => wi σ H fun J H1 => ∃ W : Nat → Nat → St → Hp → Prop, (∃ m, W 0 m σ H1) ∧ ∀ i m σ H, W i m σ H →
  (J.stop i H ∧ D.nx σ H) ∨ (J.go i H ∧ ∃ N : St → Hp → Prop, (∀ σ' H', N σ' H' → ∃ m', m' < m ∧ W (i + 1) m' σ' H') ∧ ∀ x H', J.yld i H x H' → g x σ H' fun σ2 H2 => tb { D with nx := N, ct := N, bk := D.nx } σ2 H2)
def pinsAt (fp : List Addr) (h : Heap) : List (Addr × Obj) := fp.filterMap fun b => (h.get? b).map fun o => (b, o)
theorem mem_pinsAt {fp : List Addr} {h : Heap} {b : Addr} {o : Obj} (hb : b ∈ fp) (e : h.get? b = some o) : (b, o) ∈ pinsAt fp h := List.mem_filterMap.mpr ⟨b, hb, by rw [e]; rfl⟩
theorem of_pinsAt {fp : List Addr} {h : Heap} {p : Addr × Obj} (hp : p ∈ pinsAt fp h) : p.1 ∈ fp ∧ h.get? p.1 = some p.2 := by
  obtain ⟨b, hb, e⟩ := List.mem_filterMap.mp hp
  cases q : h.get? b with
  | none => rw [q] at e; cases e
  | some o =>
    rw [q] at e
    have e' : (b, o) = p := Option.some.inj e
    subst e'
    exact ⟨hb, q⟩
theorem Inv.pinned {pins : List (Addr × Obj)} {σ : St} {H : Hp} {s : Shared} {fp : List Addr} (I : Inv X pins σ H s) (hf : ∀ b ∈ fp, FpOk X pins H b) (ho : ∀ b ∈ fp, ∃ o, s.heap.get? b = some o ∧ ∀ v, o.data ≠ .cell v) : Inv X (pins ++ pinsAt fp s.heap) σ H s :=
  I.pins_of fun p hp => (List.mem_append.mp hp).elim (fun z => I.pin p (List.mem_append_right _ z)) fun z => by
    obtain ⟨hb, e⟩ := of_pinsAt z
    obtain ⟨f0, f1, f2, _⟩ := hf p.1 hb
    obtain ⟨o, e', d⟩ := ho p.1 hb
    rw [e] at e'; cases e'
    exact ⟨e, f0, f1, f2, d⟩
theorem Inv.unpinned {pins pl : List (Addr × Obj)} {σ : St} {H : Hp} {s : Shared} (I : Inv X (pins ++ pl) σ H s) : Inv X pins σ H s := I.pins_of fun p hp => I.pin p (List.mem_append_right _ (List.mem_append_left _ hp))
theorem ps_for {iter : Expr} {body : List Stmt} {wi : TI} {g : TG} {tb : TS} {pos : Pos} (hp : PassesOwn (model X.prog X.w) X.A X.env X.xe) (hc : X.calm = true) (hi : PI X tg iter wi) (hg : PG X tg g) (hb : PSs X body tb)
    (hs : ∀ x, foldedSetIterable iter X.env x = pure x := by intro _; rfl) : PS X (.For tg iter body [] pos) (tFor wi g tb) := by
  intro pins s σ H D I h
  refine wpAny_For (thn (hi pins s σ H _ I h) fun v s1 h1 => thn h1 fun itv s2 h2 => ?_) hs
  obtain ⟨it, fp, tn, J, H2, e, I2, T, st2, f2, W, ⟨m0, w0⟩, turn⟩ := h2
  subst e
  have stat : ∀ {H' : Hp}, (∀ b ∈ fp, H' b = none) → ∀ b ∈ fp, FpOk X pins H' b := fun hn b hb => ⟨hn b hb, (f2 b hb).2⟩
  refine codeAny_forLoop_any (fun n s' => ∃ i σ' H', Inv X pins σ' H' s' ∧ tn i s'.heap ∧ (∀ b ∈ fp, H' b = none) ∧ W i n σ' H') ?_ m0 ⟨0, σ, H2, I2, st2, fun b hb => (f2 b hb).1, w0⟩
  rintro n s3 ⟨i, σ3, H3, I3, st3, fr3, w3⟩
  rcases turn i n σ3 H3 w3 with ⟨stop, qn⟩ | ⟨go, N, hN, step⟩
  · refine wpAny_passesOwn hp (thn (T.done X rfl rfl rfl hc i pins s3 σ3 H3 X.xe I3 (stat fr3) st3 stop) fun r s4 hq__ => ?_)
    obtain ⟨hr, I4⟩ := hq__
    subst hr
    exact wpAny_execs_nil ⟨σ3, H3, I4, qn⟩
  · refine wpAny_passesOwn hp (thn (T.item X rfl rfl rfl hc i pins s3 σ3 H3 X.xe I3 (stat fr3) st3 go) fun r s4 hq__ => ?_)
    obtain ⟨u, hr, h4⟩ := hq__
    subst hr
    refine wpAny_passesOwn hp (thn h4 fun _ s5 hq__ => ?_)
    obtain ⟨x, H5, I5, r5, y5, st5, fr5⟩ := hq__
    have I5' := I5.pinned (stat fr5) (T.obj _ _ st5)
    refine wpAny_passesOwn hp (thn (hg _ s5 σ3 H5 x u _ I5' r5 (step x H5 y5)) fun _ s6 hq__ => ?_)
    obtain ⟨σ6, H6, I6, q6⟩ := hq__
    refine wpAny_passesOwn hp (thn (hb _ s6 σ6 H6 _ I6 q6) fun f s7 q7 => ?_)
    have again : ∀ {σ7 : St} {H7 : Hp}, Inv X (pins ++ pinsAt fp s5.heap) σ7 H7 s7 → N σ7 H7 → ∃ m, m < n ∧ ∃ i σ' H', Inv X pins σ' H' s7 ∧ tn i s7.heap ∧ (∀ b ∈ fp, H' b = none) ∧ W i m σ' H' := fun {σ7 H7} I7 n7 => by
      obtain ⟨m', hm, w7⟩ := hN σ7 H7 n7
      refine ⟨m', hm, i + 1, σ7, H7, I7.unpinned, T.keep _ _ _ st5 fun b hb o e => (I7.pin (b, o) (List.mem_append_right _ (List.mem_append_right _ (mem_pinsAt hb e)))).1, fun b hb => ?_, w7⟩
      obtain ⟨o, e, d⟩ := T.obj _ _ st5 b hb
      exact (I7.pin (b, o) (List.mem_append_right _ (List.mem_append_right _ (mem_pinsAt hb e)))).2.1
    cases f with
    | next => obtain ⟨σ7, H7, I7, n7⟩ := q7; exact again I7 n7
    | cont => obtain ⟨σ7, H7, I7, n7⟩ := q7; exact again I7 n7
    | brk => obtain ⟨σ7, H7, I7, q7⟩ := q7; exact ⟨σ7, H7, I7.unpinned, q7⟩
    | ret v => obtain ⟨x7, σ7, H7, I7, r7, q7⟩ := q7; exact ⟨x7, σ7, H7, I7.unpinned, r7, q7⟩
end
theorem for_list {K : PySem.W.Frag} {a : Addr} {xs : List V} {g : TG} {tb : TS} {D : Ends} {σ : St} {H : Hp} (Pv : Nat → St → Hp → Prop) (h0 : Pv 0 σ H) (hl : ∀ i σ H, i ≤ xs.length → Pv i σ H → SqL K H a xs)
    (hs : ∀ i x σ H, xs[i]? = some x → Pv i σ H → g x σ H fun σ2 H2 => tb { D with nx := Pv (i + 1), ct := Pv (i + 1), bk := D.nx } σ2 H2) (hd : ∀ σ H, Pv xs.length σ H → D.nx σ H) :
    ∃ W : Nat → Nat → St → Hp → Prop, (∃ m, W 0 m σ H) ∧ ∀ i m σ H, W i m σ H →
      ((Itl K a).stop i H ∧ D.nx σ H) ∨ ((Itl K a).go i H ∧ ∃ N : St → Hp → Prop, (∀ σ' H', N σ' H' → ∃ m', m' < m ∧ W (i + 1) m' σ' H') ∧ ∀ x H', (Itl K a).yld i H x H' → g x σ H' fun σ2 H2 => tb { D with nx := N, ct := N, bk := D.nx } σ2 H2) := by
  refine ⟨fun i m σ H => m = xs.length - i ∧ i ≤ xs.length ∧ Pv i σ H, ⟨xs.length, by simp, Nat.zero_le _, h0⟩, ?_⟩
  rintro i m σ H ⟨rfl, hi, p⟩
  have q := hl i σ H hi p
  by_cases hlt : i < xs.length
  · refine .inr ⟨⟨xs, xs[i], q, by simp [hlt]⟩, Pv (i + 1), fun σ' H' p' => ⟨xs.length - (i + 1), by omega, rfl, hlt, p'⟩, fun x H' y => ?_⟩
    obtain ⟨e, y⟩ := y
    subst e
    exact hs i x σ _ (y xs q) p
  · have e : i = xs.length := by omega
    subst e
    exact .inl ⟨⟨xs, q, Nat.le_refl _⟩, hd σ H p⟩
theorem for_range {lo : Int} {n : Nat} {g : TG} {tb : TS} {D : Ends} {σ : St} {H : Hp} (Pv : Nat → St → Hp → Prop) (h0 : Pv 0 σ H)
    (hs : ∀ i σ H, i < n → Pv i σ H → g (.int (lo + i)) σ H fun σ2 H2 => tb { D with nx := Pv (i + 1), ct := Pv (i + 1), bk := D.nx } σ2 H2) (hd : ∀ σ H, Pv n σ H → D.nx σ H) :
    ∃ W : Nat → Nat → St → Hp → Prop, (∃ m, W 0 m σ H) ∧ ∀ i m σ H, W i m σ H →
      ((Itr lo n).stop i H ∧ D.nx σ H) ∨ ((Itr lo n).go i H ∧ ∃ N : St → Hp → Prop, (∀ σ' H', N σ' H' → ∃ m', m' < m ∧ W (i + 1) m' σ' H') ∧ ∀ x H', (Itr lo n).yld i H x H' → g x σ H' fun σ2 H2 => tb { D with nx := N, ct := N, bk := D.nx } σ2 H2) := by
  refine ⟨fun i m σ H => m = n - i ∧ i ≤ n ∧ Pv i σ H, ⟨n, by simp, Nat.zero_le _, h0⟩, ?_⟩
  rintro i m σ H ⟨rfl, hi, p⟩
  by_cases hlt : i < n
  · refine .inr ⟨hlt, Pv (i + 1), fun σ' H' p' => ⟨n - (i + 1), by omega, rfl, hlt, p'⟩, fun x H' y => ?_⟩
    obtain ⟨e, y⟩ := y
    subst e y
    exact hs i σ _ hlt p
  · have e : i = n := by omega
    subst e
    exact .inl ⟨Nat.le_refl _, hd σ H p⟩
end L2
namespace L2
open PySem PySem.Spec PyProof.Rows
abbrev R2 := V → V → Hp → VK → Prop
def OpR (X : Cx) (f : Value → Value → Sem Value) (r : R2) : Prop :=
  ∀ (pins : List (Addr × Obj)) (s : Shared) (σ : St) (H : Hp) (x y : V) (v u : Value) (Q : VK), Inv X pins σ H s → RelV x v → RelV y u → r x y H Q →
    wpAny (model X.prog X.w) X.A (f v u) (EP X pins σ Q) X.xe s
def UnR (X : Cx) (f : Value → Sem Value) (r : V → Hp → VK → Prop) : Prop :=
  ∀ (pins : List (Addr × Obj)) (s : Shared) (σ : St) (H : Hp) (x : V) (v : Value) (Q : VK), Inv X pins σ H s → RelV x v → r x H Q →
    wpAny (model X.prog X.w) X.A (f v) (EP X pins σ Q) X.xe s
def CallR (X : Cx) (f : Value) (r : List V → Hp → VK → Prop) : Prop :=
  ∀ (pins : List (Addr × Obj)) (s : Shared) (σ : St) (H : Hp) (xs : List V) (us : List Value) (Q : VK), Inv X pins σ H s → Vals xs us → r xs H Q →
    wpAny (model X.prog X.w) X.A (call f us) (EP X pins σ Q) X.xe s
def tOp (r : R2) (ta tb : TE) : TE := fun σ H Q => ta σ H fun x H1 => tb σ H1 fun y H2 => r x y H2 Q
def tUn (r : V → Hp → VK → Prop) (ta : TE) : TE := fun σ H Q => ta σ H fun x H1 => r x H1 Q
inductive rIS (C : Int → Int → Prop) (g : Int → Int → V) (x y : V) (H : Hp) (Q : VK) : Prop
  | mk (i j : Int) (hx : x = .int i) (hy : y = .int j) (hc : C i j) (k : Q (g i j) H)
def rI (C : Int → Int → Prop) (g : Int → Int → V) : R2 := fun x y H Q => rIS C g x y H Q
inductive rI0S (g : Int → Int → V) (x y : V) (H : Hp) (Q : VK) : Prop
  | mk (i j : Int) (hx : x = .int i) (hy : y = .int j) (k : Q (g i j) H)
def rI0 (g : Int → Int → V) : R2 := fun x y H Q => rI0S g x y H Q
inductive rUS (g : Int → V) (x : V) (H : Hp) (Q : VK) : Prop
  | mk (i : Int) (h : x = .int i) (k : Q (g i) H)
def rU (g : Int → V) : V → Hp → VK → Prop := fun x H Q => rUS g x H Q
section
variable {X : Cx} {a b c : Expr} {ta tb tc : TE} {pos : Pos}
theorem binT (ha : PE X a ta) (hb : PE X b tb) {pins : List (Addr × Obj)} {s : Shared} {σ : St} {H : Hp} {R : V → V → Hp → Prop} (I : Inv X pins σ H s)
    (h : ta σ H fun x H1 => tb σ H1 fun y H2 => R x y H2) {Q : Value → Shared → Prop} {f : Value → Value → Sem Value}
    (hf : ∀ v u s2 x y H2, Inv X pins σ H2 s2 → RelV x v → RelV y u → R x y H2 → wpAny (model X.prog X.w) X.A (f v u) Q X.xe s2) :
    wpAny (model X.prog X.w) X.A (eval a X.env) (fun v s₁ => wpAny (model X.prog X.w) X.A (eval b X.env) (fun u s₂ => wpAny (model X.prog X.w) X.A (f v u) Q X.xe s₂) X.xe s₁) X.xe s := by
  refine thn (ha pins s σ H _ I h) fun v s1 hq__ => ?_
  obtain ⟨x, H1, I1, r1, q1⟩ := hq__
  refine thn (hb pins s1 σ H1 _ I1 q1) fun u s2 hq__ => ?_
  obtain ⟨y, H2, I2, r2, q2⟩ := hq__
  exact hf v u s2 x y H2 I2 r1 r2 q2
theorem pe_op {op : Operator} {r : R2} (ho : OpR X (binaryOp op) r) (ha : PE X a ta) (hb : PE X b tb) : PE X (.BinOp a op b pos) (tOp r ta tb) := by
  intro pins s σ H Q I h
  exact wpAny_BinOp (binT ha hb I h fun v u s2 x y H2 I2 rx ry q => ho pins s2 σ H2 x y v u Q I2 rx ry q)
theorem pe_un {op : UnaryOp} {r : V → Hp → VK → Prop} (ho : UnR X (unaryOp op) r) (ha : PE X a ta) : PE X (.UnaryOp op a pos) (tUn r ta) := by
  intro pins s σ H Q I h
  exact UnaryOp_ (thn (ha pins s σ H _ I h) fun v s1 ⟨x, H1, I1, r1, q1⟩ => ho pins s1 σ H1 x v Q I1 r1 q1)
theorem opI {f : Value → Value → Sem Value} {C : Int → Int → Prop} {g : Int → Int → Int}
    (rule : ∀ (i j : Int) (t u : Tok) (s : Shared) (Q : Value → Shared → Prop) (E : Value → Shared → Prop), C i j → Q (.int (g i j) s.toks) { s with toks := s.toks + 1 } → wpAny (model X.prog X.w) X.A (f (.int i t) (.int j u)) Q E s) :
    OpR X f (rI C fun i j => .int (g i j)) := by
  intro pins s σ H x y v u Q I rx ry h
  obtain ⟨i, j, rfl, rfl, hc, q⟩ := h
  obtain ⟨t, rfl⟩ := rx
  obtain ⟨t', rfl⟩ := ry
  exact rule i j t t' s _ _ hc ⟨.int (g i j), H, I.tok _, ⟨_, rfl⟩, q⟩
theorem opI0 {f : Value → Value → Sem Value} {g : Int → Int → Int}
    (rule : ∀ (i j : Int) (t u : Tok) (s : Shared) (Q : Value → Shared → Prop) (E : Value → Shared → Prop), Q (.int (g i j) s.toks) { s with toks := s.toks + 1 } → wpAny (model X.prog X.w) X.A (f (.int i t) (.int j u)) Q E s) :
    OpR X f (rI0 fun i j => .int (g i j)) := by
  intro pins s σ H x y v u Q I rx ry h
  obtain ⟨i, j, rfl, rfl, q⟩ := h
  obtain ⟨t, rfl⟩ := rx
  obtain ⟨t', rfl⟩ := ry
  exact rule i j t t' s _ _ ⟨.int (g i j), H, I.tok _, ⟨_, rfl⟩, q⟩
theorem opB0 {f : Value → Value → Sem Value} {g : Int → Int → Bool}
    (rule : ∀ (i j : Int) (t u : Tok) (s : Shared) (Q : Value → Shared → Prop) (E : Value → Shared → Prop), Q (.bool (g i j)) s → wpAny (model X.prog X.w) X.A (f (.int i t) (.int j u)) Q E s) :
    OpR X f (rI0 fun i j => .bl (g i j)) := by
  intro pins s σ H x y v u Q I rx ry h
  obtain ⟨i, j, rfl, rfl, q⟩ := h
  obtain ⟨t, rfl⟩ := rx
  obtain ⟨t', rfl⟩ := ry
  exact rule i j t t' s _ _ ⟨.bl (g i j), H, I, rfl, q⟩
def CDiv (i j : Int) : Prop := 0 < j ∧ j < 1073741824
def CPow (i j : Int) : Prop := 0 ≤ j ∧ j ≤ 1000000 ∧ i.natAbs < 2 ^ 64
def CMul (i j : Int) : Prop := (-(2 ^ 64) < i ∧ i < 2 ^ 64) ∨ (-(2 ^ 64) < j ∧ j < 2 ^ 64)
theorem CMul.ok {i j : Int} (h : CMul i j) : IntMulOk i j := by
  rcases h with ⟨h1, h2⟩ | ⟨h1, h2⟩
  · exact .of_left (intBits_le_64 h1 h2)
  · exact .of_right (intBits_le_64 h1 h2)
theorem op_add : OpR X (binaryOp .Add) (rI0 fun i j => .int (i + j)) := opI0 fun _ _ _ _ _ _ _ q => add_int q
theorem op_sub : OpR X (binaryOp .Sub) (rI0 fun i j => .int (i - j)) := opI0 fun _ _ _ _ _ _ _ q => sub_int q
theorem op_mul : OpR X (binaryOp .Mult) (rI CMul fun i j => .int (i * j)) := opI fun _ _ _ _ _ _ _ hc q => mul_int q hc.ok
theorem op_fdiv : OpR X (binaryOp .FloorDiv) (rI CDiv fun i j => .int (i / j)) := opI fun i j _ _ _ _ _ hc q => by
  have h1 : (0 : Int) < j := hc.1
  have h2 : j < 1073741824 := hc.2
  exact floordiv_int (by omega) (by rw [Int.fdiv_eq_ediv_of_nonneg i (by omega)]; exact q) (.inl (PyProof.noPylong_small (by omega)))
theorem op_mod : OpR X (binaryOp .Mod) (rI (fun _ j => 0 < j) fun i j => .int (i % j)) := opI fun i j _ _ _ _ _ hc q => by
  have h1 : (0 : Int) < j := hc
  exact mod_int' (by omega) (by rw [Int.fmod_eq_emod_of_nonneg i (by omega)]; exact q)
theorem op_pow : OpR X (binaryOp .Pow) (rI CPow fun i j => .int (i ^ j.toNat)) := opI fun _ _ _ _ _ _ _ hc q => pow_int_small hc.1 hc.2.1 hc.2.2 q
theorem unI {f : Value → Sem Value} {g : Int → Int}
    (rule : ∀ (i : Int) (t : Tok) (s : Shared) (Q : Value → Shared → Prop) (E : Value → Shared → Prop), Q (.int (g i) s.toks) { s with toks := s.toks + 1 } → wpAny (model X.prog X.w) X.A (f (.int i t)) Q E s) :
    UnR X f (rU fun i => .int (g i)) := by
  intro pins s σ H x v Q I rx h
  obtain ⟨i, rfl, q⟩ := h
  obtain ⟨t, rfl⟩ := rx
  exact rule i t s _ _ ⟨.int (g i), H, I.tok _, ⟨_, rfl⟩, q⟩
theorem un_neg : UnR X (unaryOp .USub) (rU fun i => .int (-i)) := unI fun _ _ _ _ _ q => neg_int q
end
def scal : V → V → Bool
  | .non, .non => true | .non, .int _ => true | .int _, .non => true | .non, .bl _ => true | .bl _, .non => true | .non, .str _ => true | .str _, .non => true
  | .int _, .int _ => true | .bl _, .bl _ => true | .str _, .str _ => true | .byt _, .byt _ => true
  | .int _, .str _ => true | .str _, .int _ => true | .bl _, .str _ => true | .str _, .bl _ => true
  | _, _ => false
def rEq : R2 := fun x y H Q => scal x y = true ∧ Q (.bl (decide (x = y))) H
def rNe : R2 := fun x y H Q => scal x y = true ∧ Q (.bl (!decide (x = y))) H
theorem dec_int {i j : Int} : decide (V.int i = V.int j) = (i == j) := by
  rw [Bool.eq_iff_iff]
  simp
theorem dec_bl {i j : Bool} : decide (V.bl i = V.bl j) = (i == j) := by
  rw [Bool.eq_iff_iff]
  simp
theorem dec_str {i j : Str} : decide (V.str i = V.str j) = (i == j) := by
  rw [Bool.eq_iff_iff]
  simp
theorem dec_byt {i j : Array UInt8} : decide (V.byt i = V.byt j) = (i.toList == j.toList) := by
  rw [Bool.eq_iff_iff]
  cases i
  cases j
  simp
section
variable {X : Cx} {a b c : Expr} {ta tb tc : TE} {pos : Pos}
theorem fin_bl {pins : List (Addr × Obj)} {σ : St} {H : Hp} {s : Shared} {Q : VK} {k k' : Bool} (I : Inv X pins σ H s) (q : Q (.bl k) H) (e : k = k') : EP X pins σ Q (.bool k') s := by
  subst e
  exact ⟨.bl k, H, I, rfl, q⟩
theorem op_eq : OpR X (compareOp .Eq) rEq := by
  intro pins s σ H x y v u Q I rx ry h
  obtain ⟨hs, q⟩ := h
  cases x with
  | non =>
    cases rx
    cases y with
    | non => cases ry; exact PySem.EqNone.eq_none_none (fin_bl I q (by simp))
    | bl j => cases ry; exact PySem.EqNone.eq_none_bool (fin_bl I q (by simp))
    | int j => obtain ⟨t', rfl⟩ := ry; exact PySem.EqNone.eq_none_int (fin_bl I q (by simp))
    | str j => obtain ⟨t', rfl⟩ := ry; exact PySem.EqNone.eq_none_str (fin_bl I q (by simp))
    | _ => exact absurd (show false = true from hs) Bool.false_ne_true
  | bl i =>
    cases rx
    cases y with
    | non => cases ry; exact PySem.EqNone.eq_bool_none (fin_bl I q (by simp))
    | bl j => cases ry; exact eq_bool (fin_bl I q dec_bl)
    | str j => obtain ⟨t', rfl⟩ := ry; exact PySem.EqMixed.eq_bool_str (fin_bl I q (by simp))
    | _ => exact absurd (show false = true from hs) Bool.false_ne_true
  | int i =>
    obtain ⟨t, rfl⟩ := rx
    cases y with
    | non => cases ry; exact PySem.EqNone.eq_int_none (fin_bl I q (by simp))
    | int j => obtain ⟨t', rfl⟩ := ry; exact eq_int (fin_bl I q dec_int)
    | str j => obtain ⟨t', rfl⟩ := ry; exact PySem.EqMixed.eq_int_str (fin_bl I q (by simp))
    | _ => exact absurd (show false = true from hs) Bool.false_ne_true
  | str i =>
    obtain ⟨t, rfl⟩ := rx
    cases y with
    | non => cases ry; exact PySem.EqNone.eq_str_none (fin_bl I q (by simp))
    | bl j => cases ry; exact PySem.EqMixed.eq_str_bool (fin_bl I q (by simp))
    | int j => obtain ⟨t', rfl⟩ := ry; exact PySem.EqMixed.eq_str_int (fin_bl I q (by simp))
    | str j => obtain ⟨t', rfl⟩ := ry; exact eq_str (fin_bl I q dec_str)
    | _ => exact absurd (show false = true from hs) Bool.false_ne_true
  | byt i =>
    obtain ⟨t, rfl⟩ := rx
    cases y with
    | byt j => obtain ⟨t', rfl⟩ := ry; exact PySem.W.eq_bytes (fin_bl I q dec_byt)
    | _ => exact absurd (show false = true from hs) Bool.false_ne_true
  | _ => cases y <;> exact absurd (show false = true from hs) Bool.false_ne_true
theorem op_ne : OpR X (compareOp .NotEq) rNe := by
  intro pins s σ H x y v u Q I rx ry h
  obtain ⟨hs, q⟩ := h
  cases x with
  | non =>
    cases rx
    cases y with
    | non => cases ry; exact PySem.EqNone.ne_none_none (fin_bl I q (by simp))
    | bl j => cases ry; exact PySem.EqNone.ne_none_bool (fin_bl I q (by simp))
    | int j => obtain ⟨t', rfl⟩ := ry; exact PySem.EqNone.ne_none_int (fin_bl I q (by simp))
    | str j => obtain ⟨t', rfl⟩ := ry; exact PySem.EqNone.ne_none_str (fin_bl I q (by simp))
    | _ => exact absurd (show false = true from hs) Bool.false_ne_true
  | bl i =>
    cases rx
    cases y with
    | non => cases ry; exact PySem.EqNone.ne_bool_none (fin_bl I q (by simp))
    | bl j => cases ry; exact ne_bool (fin_bl I q (congrArg not dec_bl))
    | str j => obtain ⟨t', rfl⟩ := ry; exact PySem.EqMixed.ne_bool_str (fin_bl I q (by simp))
    | _ => exact absurd (show false = true from hs) Bool.false_ne_true
  | int i =>
    obtain ⟨t, rfl⟩ := rx
    cases y with
    | non => cases ry; exact PySem.EqNone.ne_int_none (fin_bl I q (by simp))
    | int j => obtain ⟨t', rfl⟩ := ry; exact ne_int (fin_bl I q (congrArg not dec_int))
    | str j => obtain ⟨t', rfl⟩ := ry; exact PySem.EqMixed.ne_int_str (fin_bl I q (by simp))
    | _ => exact absurd (show false = true from hs) Bool.false_ne_true
  | str i =>
    obtain ⟨t, rfl⟩ := rx
    cases y with
    | non => cases ry; exact PySem.EqNone.ne_str_none (fin_bl I q (by simp))
    | bl j => cases ry; exact PySem.EqMixed.ne_str_bool (fin_bl I q (by simp))
    | int j => obtain ⟨t', rfl⟩ := ry; exact PySem.EqMixed.ne_str_int (fin_bl I q (by simp))
    | str j => obtain ⟨t', rfl⟩ := ry; exact ne_str (fin_bl I q (congrArg not dec_str))
    | _ => exact absurd (show false = true from hs) Bool.false_ne_true
  | byt i =>
    obtain ⟨t, rfl⟩ := rx
    cases y with
    | byt j => obtain ⟨t', rfl⟩ := ry; exact PySem.W.ne_bytes (fin_bl I q (congrArg not dec_byt))
    | _ => exact absurd (show false = true from hs) Bool.false_ne_true
  | _ => cases y <;> exact absurd (show false = true from hs) Bool.false_ne_true
theorem op_lt : OpR X (compareOp .Lt) (rI0 fun i j => .bl (decide (i < j))) := opB0 fun _ _ _ _ _ _ _ q => lt_int q
theorem op_gt : OpR X (compareOp .Gt) (rI0 fun i j => .bl (decide (j < i))) := opB0 fun _ _ _ _ _ _ _ q => gt_int q
theorem op_ge : OpR X (compareOp .GtE) (rI0 fun i j => .bl (decide (j ≤ i))) := opB0 fun _ _ _ _ _ _ _ q => ge_int q
theorem op_in_str : OpR X (compareOp .In) (fun x y H Q => ∃ i j, x = .str i ∧ y = .str j ∧ Q (.bl (!(Builtin.Str.occurrences j i 0 j.length 1).isEmpty)) H) := by
  intro pins s σ H x y v u Q I rx ry h
  obtain ⟨i, j, rfl, rfl, q⟩ := h
  obtain ⟨t, rfl⟩ := rx
  obtain ⟨t', rfl⟩ := ry
  exact in_str (fin_bl I q rfl)
theorem op_isN : OpR X (compareOp .Is) (fun x y H Q => y = .non ∧ Q (.bl (decide (x = .non))) H) := by
  intro pins s σ H x y v u Q I rx ry h
  obtain ⟨rfl, q⟩ := h
  cases ry
  refine is_none_gen (fin_bl I q ?_)
  cases x <;> first
    | (cases rx; rfl)
    | (obtain ⟨t, rfl⟩ := rx; rfl)
theorem op_notN : OpR X (compareOp .IsNot) (fun x y H Q => y = .non ∧ Q (.bl (!decide (x = .non))) H) := by
  intro pins s σ H x y v u Q I rx ry h
  obtain ⟨rfl, q⟩ := h
  cases ry
  refine isnot_none_gen (fin_bl I q ?_)
  cases x <;> first
    | (cases rx; rfl)
    | (obtain ⟨t, rfl⟩ := rx; rfl)
theorem OpR.or {f : Value → Value → Sem Value} {r r' : R2} (h : OpR X f r) (h' : OpR X f r') : OpR X f (fun x y H Q => r x y H Q ∨ r' x y H Q) := by
  intro pins s σ H x y v u Q I rx ry q
  rcases q with q | q
  · exact h pins s σ H x y v u Q I rx ry q
  · exact h' pins s σ H x y v u Q I rx ry q
theorem nomark (b : Expr) {op : CmpOp} (h : op ≠ .In := by decide) (h2 : op ≠ .NotIn := by decide) : behindInMarks op b = false := by
  have e1 : (op == CmpOp.In) = false := by cases op <;> first | rfl | exact absurd rfl h
  have e2 : (op == CmpOp.NotIn) = false := by cases op <;> first | rfl | exact absurd rfl h2
  cases b <;> simp [behindInMarks, e1, e2]
theorem pe_cmpR {op : CmpOp} {r : R2} (ho : OpR X (compareOp op) r) (ha : PE X a ta) (hb : PE X b tb) (hm : behindInMarks op b = false) : PE X (.Compare a [op] [b] pos) (tOp r ta tb) := by
  intro pins s σ H Q I h
  exact wpAny_Compare1 (binT ha hb I h fun v u s2 x y H2 I2 rx ry q => ho pins s2 σ H2 x y v u Q I2 rx ry q) hm
def tTest (t : TE) : TT := fun σ H Q => t σ H fun x H' => ∃ k, x = .bl k ∧ Q k H'
theorem pt_cmpR {op : CmpOp} {r : R2} (ho : OpR X (compareOp op) r) (ha : PE X a ta) (hb : PE X b tb) (hm : behindInMarks op b = false) : PT X (.Compare a [op] [b] pos) (tTest (tOp r ta tb)) := by
  intro pins s σ H Q I h
  refine wpAny_isTrue_Compare1 (thn (ha pins s σ H _ I h) fun v s1 ⟨x, H1, I1, r1, q1⟩ => thn (hb pins s1 σ H1 _ I1 q1) fun u s2 ⟨y, H2, I2, r2, q2⟩ =>
    thn (ho pins s2 σ H2 x y v u _ I2 r1 r2 q2) fun c s3 ⟨z, H3, I3, r3, k, e, q3⟩ => ?_) hm
  subst e
  cases r3
  exact wpAny_truthy_bool ⟨H3, I3, q3⟩
theorem line63 : (sizeLine : Nat) < 2 ^ 63 := by rw [sizeLine_eq]; decide
theorem op_add_str : OpR X (binaryOp .Add) (fun x y H Q => ∃ i j, x = .str i ∧ y = .str j ∧ i.length + j.length ≤ sizeLine ∧ Q (.str (i ++ j)) H) := by
  intro pins s σ H x y v u Q I rx ry h
  obtain ⟨i, j, rfl, rfl, hz, q⟩ := h
  obtain ⟨t, rfl⟩ := rx
  obtain ⟨t', rfl⟩ := ry
  exact add_str (fun t' tk => ⟨.str (i ++ j), H, I.tok _, ⟨_, rfl⟩, q⟩) hz
def PlainIxT (b : Expr) : Prop := ∀ o i, subscripted b false o i = operate [o, i] (getItem o i)
theorem vals1 {x : V} {us : List Value} (r : Vals [x] us) : ∃ u, us = [u] ∧ RelV x u := by
  cases r with
  | cons r1 r2 => cases r2; exact ⟨_, rfl, r1⟩
theorem vals2 {x y : V} {us : List Value} (r : Vals [x, y] us) : ∃ u w', us = [u, w'] ∧ RelV x u ∧ RelV y w' := by
  cases r with
  | cons r1 r2 =>
    cases r2 with
    | cons r3 r4 => cases r4; exact ⟨_, _, rfl, r1, r3⟩
theorem call_int1 : CallR X (.type "int") (fun xs H Q => (∃ i, xs = [.int i] ∧ Q (.int i) H) ∨ ∃ k, xs = [.bl k] ∧ Q (.int (if k then 1 else 0)) H) := by
  intro pins s σ H xs us Q I r h
  rcases h with ⟨i, rfl, q⟩ | ⟨k, rfl, q⟩
  · obtain ⟨u, rfl, t, rfl⟩ := vals1 r
    exact call_int_int ⟨.int i, H, I, ⟨_, rfl⟩, q⟩
  · obtain ⟨u, rfl, r1⟩ := vals1 r
    cases r1
    exact call_int_bool ⟨.int (if k then 1 else 0), H, I.tok _, ⟨_, rfl⟩, q⟩
def LenV (K : PySem.W.Frag) (x : V) (H : Hp) (n : Nat) : Prop :=
  match x with
  | .str y => y.length ≤ sizeLine ∧ n = y.length
  | .byt y => y.size ≤ sizeLine ∧ n = y.size
  | .ref p => (∃ xs, SqL K H p xs ∧ n = xs.length) ∨ ∃ xs, SqT K H p xs ∧ n = xs.length
  | _ => False
theorem call_len : CallR X (.builtin "len") (fun xs H Q => ∃ x n, xs = [x] ∧ LenV X.K x H n ∧ Q (.int n) H) := by
  intro pins s σ H xs us Q I r h
  obtain ⟨x, n, rfl, e, q⟩ := h
  obtain ⟨u, rfl, rx⟩ := vals1 r
  have hl := line63
  have hs : sizeLine = 16777216 := sizeLine_eq
  cases x with
  | str y =>
    obtain ⟨t, rfl⟩ := rx
    obtain ⟨hy, e'⟩ : y.length ≤ sizeLine ∧ n = y.length := e
    subst e'
    exact len_str (by omega) ⟨.int _, H, I.tok _, ⟨_, rfl⟩, q⟩
  | byt y =>
    obtain ⟨t, rfl⟩ := rx
    obtain ⟨hy, e'⟩ : y.size ≤ sizeLine ∧ n = y.size := e
    subst e'
    exact PySem.W.len_bytes (by omega) ⟨.int _, H, I.tok _, ⟨_, rfl⟩, q⟩
  | ref p =>
    cases rx
    have e' : (∃ xs, SqL X.K H p xs ∧ n = xs.length) ∨ ∃ xs, SqT X.K H p xs ∧ n = xs.length := e
    rcases e' with ⟨xs, hx, e'⟩ | ⟨xs, hx, e'⟩
    · subst e'
      obtain ⟨its, r', pl, hz⟩ := I.list hx
      have hlen := r'.length
      exact Calls.call_len_list pl.isList (by simp only [List.size_toArray]; omega) ⟨.int xs.length, H, I.tok _, ⟨_, by simp only [List.size_toArray]; rw [hlen]⟩, q⟩
    · subst e'
      obtain ⟨its, r', pl, hz⟩ := I.tuple hx
      have hlen := r'.length
      exact len_tuple pl (by simp only [List.size_toArray]; omega) ⟨.int xs.length, H, I.tok _, ⟨_, by simp only [List.size_toArray]; rw [hlen]⟩, q⟩
  | _ => exact (show False from e).elim
end
end L2
namespace L2
open PySem PySem.Spec PyProof.Rows
structure ObjM (h : Heap) (x dx C : Addr) (mA : Str → Option Value) : Prop where
  obj : h.get? x = some (PySem.W.instObj C dx)
  ns : h.Ns1 dx mA
  ne : dx ≠ x
theorem lookIn_ns {h : Heap} {dx : Addr} {mA : Str → Option Value} (n : h.Ns1 dx mA) : ∃ od, h.get? dx = some od ∧ ∀ name, PySem.W.lookIn name od = some (mA name) := by
  obtain ⟨o, es, ep, ho, hd, hk, _, hm⟩ := n
  refine ⟨o, ho, fun name => ?_⟩
  have e := hm name
  unfold nsFind findBy at e
  rw [← Array.find?_toList] at e
  unfold PySem.W.lookIn
  rw [hd]
  dsimp only
  split
  · rename_i y q
    rw [q] at e
    exact congrArg some e
  · rename_i q
    rw [q] at e
    have a : es.toList.any (·.refKey) = false := by
      rw [List.any_eq_false]
      intro y hy
      obtain ⟨z, t, hkey⟩ := hk y (Array.mem_toList_iff.mp hy)
      simp [DictEntry.refKey, hkey]
    have a' : ¬ es.toList.any (·.refKey) = true := by rw [a]; exact Bool.false_ne_true
    rw [if_neg a']
    exact congrArg some e
theorem ObjM.look {h : Heap} {x dx C : Addr} {mA : Str → Option Value} (I : ObjM h x dx C mA) : ∃ od, PySem.W.InstAt h x (PySem.W.instObj C dx) C (some od) ∧ ∀ name, PySem.W.lookIn name od = some (mA name) :=
  let ⟨od, ho, hl⟩ := lookIn_ns I.ns
  ⟨od, ⟨I.obj, rfl, rfl, ho⟩, hl⟩
section
variable {prog : Program} {w : World} {A : Around} {E : Value → Shared → Prop} {s : Shared} {K : PySem.W.Frag} {x dx C f : Addr} {mA : Str → Option Value} {name : Str} {v : Value}
theorem get_map {expr : Bool} {Q : Value → Shared → Prop} (X : K.In s.heap) (I : ObjM s.heap x dx C mA) (hg : PySem.W.plainGet K C name = true) (hh : PySem.W.hasDictIn K C = true)
    (ha : PySem.W.findIn K (.ref C) name = some none) (hv : mA name = some v) (hv' : PySem.W.handedIn v = true) (h : Q v { s with toks := s.toks + 1 }) :
    wpAny (model prog w) A (getAttr (.ref x) name expr) Q E s := by
  obtain ⟨od, J, hl⟩ := I.look
  exact PySem.W.get_value X J (PySem.W.plainGet_of hg).1 (PySem.W.findObj_own hh ha rfl (by rw [hl, hv])) hv' h
theorem get_meth {pl : Sem Bool} {Q : Value × List Value → Shared → Prop} (X : K.In s.heap) (I : ObjM s.heap x dx C mA) (hg : PySem.W.plainGet K C name = true)
    (hf : PySem.W.findIn K (.ref C) name = some (some (.ref f))) (ht : PySem.W.isFn K (.ref f) = true) (hv : mA name = none) (h : Q (.ref f, [.ref x]) s) :
    wpAny (model prog w) A (getMethod (.ref x) name pl) Q E s := by
  obtain ⟨od, J, hl⟩ := I.look
  exact PySem.W.method_fn X J (PySem.W.plainGet_of hg).1 (PySem.W.plainGet_of hg).2 hf (beq_iff_eq.mp ht) (by show (PySem.W.lookIn name od).map (·.isSome) = some false; rw [hl, hv]; rfl) h
theorem set_map {ns : List Str} {Q : Unit → Shared → Prop} (X : K.In s.heap) (I : ObjM s.heap x dx C mA)
    (hs : PySem.W.findIn K (.ref C) "__setattr__" = some (some (.builtin "object.__setattr__"))) (hp : PySem.W.plainOver K C = true) (ht : PySem.W.takerIn K C name = some none) (hh : PySem.W.hasDictIn K C = true)
    (hw : PySem.Within mA ns) (hsz : ns.length ≤ sizeLine)
    (h : ∀ h', ObjM h' x dx C (fun y => if y = name then some v else mA y) → Heap.SameBut dx s.heap h' → Q () { s with heap := h', toks := s.toks + 2 }) :
    wpAny (model prog w) A (setAttr (.ref x) name v) Q E s := by
  obtain ⟨od, J, hl⟩ := I.look
  refine PySem.W.set_plain X J hs (PySem.W.osa_open (s := { s with toks := s.toks + 1 }) (r := none) X J hp ht fun b => ?_)
  obtain ⟨cd, hc, hd'⟩ := PySem.W.any_some hh
  have hx : s.heap.get? x = some ⟨.ref C, some dx, .plain, #[]⟩ := I.obj
  refine wpAny_bind (wpAny_pure (wpAny_bind (wpAny_bind (wpAny_loadPart hx (wpAny_bind (PySem.W.Looks.here (s := { s with toks := s.toks + 1 }) (PySem.W.looks_clsIn X hc) ?_))))))
  rw [hd']
  refine wpAny_pure (a := some dx) (wpAny_bind (wpAny_pure (wpAny_bind ?_)))
  refine wpAny_nsSet1 (s := { s with toks := s.toks + 1 }) I.ns fun h' hn2 hs2 => ?_
  obtain ⟨oD, esD, epD, hoD, hdD, hcD⟩ := hn2.count (PySem.Within.cons name v hw)
  refine wpAny_bind (wpAny_lookBehind hoD (by rw [hdD]; exact pastItsLine_dict (Nat.le_trans hcD (by rw [List.length_cons]; omega))) ?_)
  exact wpAny_pure (h _ ⟨(hs2.2 _ (Ne.symm I.ne)).trans I.obj, hn2, I.ne⟩ hs2)
theorem make_map {R : Result → Shared → Prop} {vs : List Value} {kw : List (Str × Value)} (X : K.In s.heap) (hm : PySem.W.makesIn K C = true)
    (hi : PySem.W.findIn K (.ref C) "__init__" = some (some (.ref f))) (hf : PySem.W.typeIn K (.ref f) = some (.type "function"))
    (h : codeAny (model prog w) (A.under (.builtin "type.__call__" ⟨.ref C :: vs, kw⟩)) (.call (.ref f) ⟨.ref (s.heap.objs.size + 1) :: vs, kw⟩) (PySem.W.InitBack (s.heap.objs.size + 1) R)
      { s with heap := (s.heap.push PySem.W.emptyDict).push (PySem.W.instObj C s.heap.objs.size) }) :
    codeAny (model prog w) A (.call (.ref C) ⟨vs, kw⟩) R s := by
  obtain ⟨hh, g, d, t, os⟩ := s
  exact PySem.W.make_core (PySem.W.makes_of X hm) (PySem.W.looks_findIn X hi) (fun self => PySem.W.bind_fn X self hf) (.inl rfl) h
end
def putF (f : Str) (v : V) : List (Str × V) → List (Str × V)
  | [] => [(f, v)]
  | (g, x) :: r => if g = f then (g, v) :: r else (g, x) :: putF f v r
theorem lookup_putF (f g : Str) (v : V) : ∀ fs : List (Str × V), (putF f v fs).lookup g = if g = f then some v else fs.lookup g
  | [] => by
    show List.lookup g [(f, v)] = _
    by_cases h : g = f
    · have hb : (g == f) = true := beq_iff_eq.mpr h
      simp only [List.lookup, hb, if_pos h]
    · have hb : (g == f) = false := beq_eq_false_iff_ne.mpr h
      simp only [List.lookup, hb, if_neg h]
  | (k, x) :: r => by
    have ih := lookup_putF f g v r
    rw [show putF f v ((k, x) :: r) = (if k = f then (k, v) :: r else (k, x) :: putF f v r) from rfl]
    by_cases hk : k = f
    · rw [if_pos hk]
      by_cases h : g = k
      · have hb : (g == k) = true := beq_iff_eq.mpr h
        simp only [List.lookup, hb, if_pos (h.trans hk)]
      · have hb : (g == k) = false := beq_eq_false_iff_ne.mpr h
        simp only [List.lookup, hb, if_neg (fun e : g = f => h (e.trans hk.symm))]
    · rw [if_neg hk]
      by_cases h : g = k
      · have hb : (g == k) = true := beq_iff_eq.mpr h
        simp only [List.lookup, hb, if_neg (fun e : g = f => hk (h.symm.trans e))]
      · have hb : (g == k) = false := beq_eq_false_iff_ne.mpr h
        simp only [List.lookup, hb]
        exact ih
theorem keys_putF (f : Str) (v : V) : ∀ fs : List (Str × V), f ∈ (putF f v fs).map (·.1) ∧ ∀ g, g ∈ fs.map (·.1) → g ∈ (putF f v fs).map (·.1)
  | [] => ⟨by simp [putF], fun g h => by simp at h⟩
  | (k, x) :: r => by
    obtain ⟨i1, i2⟩ := keys_putF f v r
    rw [show putF f v ((k, x) :: r) = (if k = f then (k, v) :: r else (k, x) :: putF f v r) from rfl]
    by_cases hk : k = f
    · rw [if_pos hk]
      subst hk
      exact ⟨by simp, fun g h => by simpa using h⟩
    · rw [if_neg hk]
      refine ⟨?_, fun g h => ?_⟩
      · rw [List.map_cons]
        exact List.mem_cons_of_mem _ i1
      · rw [List.map_cons] at h ⊢
        rcases List.mem_cons.mp h with e | e
        · exact List.mem_cons.mpr (.inl e)
        · exact List.mem_cons_of_mem _ (i2 g e)
theorem length_putF (f : Str) (v : V) : ∀ fs : List (Str × V), (putF f v fs).length ≤ fs.length + 1
  | [] => by simp [putF]
  | (k, x) :: r => by
    have ih := length_putF f v r
    rw [show putF f v ((k, x) :: r) = (if k = f then (k, v) :: r else (k, x) :: putF f v r) from rfl]
    by_cases hk : k = f
    · rw [if_pos hk, List.length_cons, List.length_cons]; omega
    · rw [if_neg hk, List.length_cons, List.length_cons]; omega
theorem RelO.some_of {v : V} {o : Option Value} (r : RelO (some v) o) : ∃ u, o = some u ∧ RelV v u := by
  cases o with
  | none => exact (show False from r).elim
  | some u => exact ⟨u, rfl, r⟩
theorem RelO.none_of {o : Option Value} (r : RelO none o) : o = none := by
  cases o with
  | none => rfl
  | some u => exact (show False from r).elim
theorem handed_of {v : V} {u : Value} (r : RelV v u) : PySem.W.handedIn u = true := by
  cases v with
  | non => cases (show u = Value.none from r); rfl
  | bl b => cases (show u = Value.bool b from r); rfl
  | int i => obtain ⟨t, e⟩ := (show ∃ t, u = Value.int i t from r); cases e; rfl
  | str x => obtain ⟨t, e⟩ := (show ∃ t, u = Value.str x t from r); cases e; rfl
  | byt b => obtain ⟨t, e⟩ := (show ∃ t, u = Value.bytes b t from r); cases e; rfl
  | flt b => obtain ⟨t, e⟩ := (show ∃ t, u = Value.float b t from r); cases e; rfl
  | ref a => cases (show u = Value.ref a from r); rfl
  | ty n => cases (show u = Value.type n from r); rfl
section
variable {P : Program} {w : World} {H H' : Hp} {h h' : Heap} {a C dx : Addr} {fs fs' : List (Str × V)}
theorem ins_get (hok : HOk P w H h) (e : H a = some (.ins C dx fs)) : ∃ mA, ObjM h a dx C mA ∧ (∀ f, RelO (fs.lookup f) (mA f)) ∧ PySem.Within mA (fs.map (·.1)) ∧ fs.length ≤ 1000 ∧ H dx = some (.own a) := by
  obtain ⟨d, z, ne, ob, mA, n, r, q⟩ := (show ObjOk P w H h a (.ins C dx fs) from hok a _ e)
  exact ⟨mA, ⟨ob, n, ne⟩, r, q, z, d⟩
end
structure Cls (K : PySem.W.Frag) (C : Addr) : Prop where
  pg : PySem.W.plainGet K C Str.empty = true
  hd : PySem.W.hasDictIn K C = true
  po : PySem.W.plainOver K C = true
  sa : PySem.W.findIn K (.ref C) "__setattr__" = some (some (.builtin "object.__setattr__"))
theorem Cls.get {K : PySem.W.Frag} {C : Addr} (c : Cls K C) (f : Str) : PySem.W.plainGet K C f = true := c.pg
def NoAttr (K : PySem.W.Frag) (C : Addr) (f : Str) : Prop := PySem.W.findIn K (.ref C) f = some none
theorem NoAttr.taker {K : PySem.W.Frag} {C : Addr} {f : Str} (n : NoAttr K C f) : PySem.W.takerIn K C f = some none := by
  unfold PySem.W.takerIn
  rw [show PySem.W.findIn K (.ref C) f = some none from n]
  rfl
structure Con (K : PySem.W.Frag) (C : Addr) (f : Str) (v : V) (u : Value) : Prop where
  at_ : PySem.W.findIn K (.ref C) f = some (some u)
  rel : RelV v u
  get : PySem.W.specialIn K u "__get__" = some none
  cp : PySem.W.copiedNames.contains f = false
structure Meth (K : PySem.W.Frag) (C : Addr) (m : Str) (f : Addr) : Prop where
  at_ : PySem.W.findIn K (.ref C) m = some (some (.ref f))
  fn : PySem.W.isFn K (.ref f) = true
  kp : PySem.W.keepIn K (.ref f) = true
section
variable {X : Cx} {pins : List (Addr × Obj)} {σ : St} {H : Hp} {s : Shared} {a C dx : Addr} {fs : List (Str × V)} {f : Str} {v : V} {A : Around} {E : Value → Shared → Prop}
theorem getattr_ok {b : Bool} {Q : Value → Shared → Prop} (I : Inv X pins σ H s) (e : H a = some (.ins C dx fs)) (c : Cls X.K C) (n : NoAttr X.K C f) (l : fs.lookup f = some v)
    (h : ∀ u s', Inv X pins σ H s' → RelV v u → Q u s') : wpAny (model X.prog X.w) A (getAttr (.ref a) f b) Q E s := by
  obtain ⟨mA, O, r, _, _, _⟩ := ins_get I.hok e
  obtain ⟨u, hu, ru⟩ := RelO.some_of (v := v) (o := mA f) (by rw [← l]; exact r f)
  exact get_map I.kIn O (c.get f) c.hd n hu (handed_of ru) (h u _ (I.tok _) ru)
theorem getmeth_ok {m : Str} {g : Addr} {pl : Sem Bool} {Q : Value × List Value → Shared → Prop} (I : Inv X pins σ H s) (e : H a = some (.ins C dx fs)) (c : Cls X.K C) (k : Meth X.K C m g) (l : fs.lookup m = none)
    (h : Q (.ref g, [.ref a]) s) : wpAny (model X.prog X.w) A (getMethod (.ref a) m pl) Q E s := by
  obtain ⟨mA, O, r, _, _, _⟩ := ins_get I.hok e
  have hn : mA m = none := RelO.none_of (by rw [← l]; exact r m)
  exact get_meth I.kIn O (c.get m) k.at_ k.fn hn h
theorem setattr_ok {y : V} {u : Value} {Q : Unit → Shared → Prop} (I : Inv X pins σ H s) (e : H a = some (.ins C dx fs)) (c : Cls X.K C) (n : NoAttr X.K C f) (hl : fs.length < 1000) (ry : RelV y u)
    (h : ∀ s', Inv X pins σ (upd H a (.ins C dx (putF f y fs))) s' → Q () s') : wpAny (model X.prog X.w) A (setAttr (.ref a) f u) Q E s := by
  obtain ⟨mA, O, r, wi, _, ho⟩ := ins_get I.hok e
  have hz : (fs.map (·.1)).length ≤ sizeLine := by rw [List.length_map, sizeLine_eq]; omega
  refine set_map I.kIn O c.sa c.po n.taker c.hd wi hz fun h' O' sb => h _ ?_
  have hd : ∃ o, h'.get? dx = some o := let ⟨o, _, _, e', _⟩ := O'.ns; ⟨o, e'⟩
  refine I.write (x := a) (e := dx) (by rw [e]; exact True.intro) (.inr ho) (fun b q hb z => (sb.2 b hb).trans z) hd ?_
  refine ⟨by rw [upd_ne O.ne]; exact ho, ?_, O.ne, O'.obj, _, O'.ns, fun g => ?_, fun g hg => ?_⟩
  · have := length_putF f y fs; omega
  · show RelO ((putF f y fs).lookup g) (if g = f then some u else mA g)
    rw [lookup_putF]
    by_cases q : g = f
    · rw [if_pos q, if_pos q]; exact ry
    · rw [if_neg q, if_neg q]; exact r g
  · by_cases q : g = f
    · rw [q]; exact (keys_putF f y fs).1
    · refine (keys_putF f y fs).2 g (wi g fun z => hg ?_)
      show (if g = f then some u else mA g) = none
      rw [if_neg q]; exact z
theorem Inv.made (I : Inv X pins σ H s) : Inv X pins σ (upd (upd H s.heap.objs.size (.own (s.heap.objs.size + 1))) (s.heap.objs.size + 1) (.ins C s.heap.objs.size []))
    { s with heap := (s.heap.push PySem.W.emptyDict).push (PySem.W.instObj C s.heap.objs.size) } := by
  have e1 : (s.heap.push PySem.W.emptyDict).get? s.heap.objs.size = some PySem.W.emptyDict := Heap.get?_push_size s.heap rfl
  have e2 : ((s.heap.push PySem.W.emptyDict).push (PySem.W.instObj C s.heap.objs.size)).get? (s.heap.objs.size + 1) = some (PySem.W.instObj C s.heap.objs.size) := by
    have := Heap.get?_push_size (s.heap.push PySem.W.emptyDict) (o := PySem.W.instObj C s.heap.objs.size) rfl
    rwa [Heap.size_push] at this
  have e3 : (s.heap.push PySem.W.emptyDict).Ns s.heap.objs.size (fun _ => none) := ⟨PySem.W.emptyDict, #[], _, e1, rfl, (fun e he => absurd he (by simp)), fun _ => rfl⟩
  have I1 := I.laid (a := s.heap.objs.size) (o := .own (s.heap.objs.size + 1)) (h' := s.heap.push PySem.W.emptyDict) (t' := s.toks) (fun b u q => Heap.get?_push_of_some _ q) (Nat.le_refl _) ⟨_, e1⟩
  refine I1.laid (a := s.heap.objs.size + 1) (o := .ins C s.heap.objs.size []) (t' := s.toks) (fun b u q => Heap.get?_push_of_some _ q) (Nat.le_of_eq (Heap.size_push _ _)) ?_
  have ne : s.heap.objs.size ≠ s.heap.objs.size + 1 := Nat.ne_of_lt (Nat.lt_succ_self _)
  refine ⟨by rw [upd_ne ne, upd_same], Nat.zero_le _, ne, e2, fun _ => none, (Heap.Ns1.of_empty e3).at fun o q => Heap.get?_push_of_some _ q, fun _ => True.intro, fun y hy => absurd rfl hy⟩
theorem attr_of {prog : Program} {w : World} {env : Env} {e : Expr} {f : Str} {pos : Pos} {s : Shared} {Q : Value → Shared → Prop} (hb : attributeBase e f env (eval e env) = eval e env)
    (h : wpAny (model prog w) A (eval e env) (fun o s₁ => wpAny (model prog w) A (getAttr o f true) Q E s₁) E s) : wpAny (model prog w) A (eval (.Attribute e f pos) env) Q E s :=
  Attribute_any_ h (by rw [arm_eval_Attribute, hb])
end
inductive tFldS (K : PySem.W.Frag) (f : Str) (x : V) (H1 : Hp) (Q : VK) : Prop
  | mk (a C dx : Addr) (fs : List (Str × V)) (v : V) (hx : x = .ref a) (ho : H1 a = some (.ins C dx fs)) (hc : Cls K C) (hn : NoAttr K C f) (hl : fs.lookup f = some v) (k : Q v H1)
def tFld (K : PySem.W.Frag) (ta : TE) (f : Str) : TE := fun σ H Q => ta σ H fun x H1 => tFldS K f x H1 Q
section
variable {X : Cx} {o e value : Expr} {f : Str} {pos pos' tpos : Pos} {ta tv : TE}
theorem pe_fld (he : PE X e ta) (hb : attributeBase e f X.env (eval e X.env) = eval e X.env) : PE X (.Attribute e f pos) (tFld X.K ta f) := by
  intro pins s σ H Q I h
  refine attr_of hb (thn (he pins s σ H _ I h) fun u s1 hq__ => ?_)
  obtain ⟨x, H1, I1, rx, a, C, dx, fs, v, ex, ea, c, n, l, q⟩ := hq__
  subst ex
  obtain rfl : u = Value.ref a := rx
  exact getattr_ok I1 ea c n l fun u' s2 I2 ru => ⟨v, H1, I2, ru, q⟩
end
section
variable {X : Cx} {pins : List (Addr × Obj)} {σ : St} {H : Hp} {s : Shared} {A : Around} {E : Value → Shared → Prop} {Q : Value → Shared → Prop} {c : Value} {b : Bool}
inductive TyOf (K : PySem.W.Frag) (H : Hp) : V → Value → Prop where
  | non : TyOf K H .non (.type "NoneType")
  | bl (x : Bool) : TyOf K H (.bl x) (.type "bool")
  | int (i : Int) : TyOf K H (.int i) (.type "int")
  | str (x : Str) : TyOf K H (.str x) (.type "str")
  | flt (x : UInt64) : TyOf K H (.flt x) (.type "float")
  | lst {a : Addr} {xs : List V} (e : H a = some (.lst xs)) : TyOf K H (.ref a) (.type "list")
  | frz {a : Addr} {o : Obj} {xs : List V} (e : H a = some (.frz o (.lst xs))) : TyOf K H (.ref a) (.type "list")
  | tup {a : Addr} {xs : List V} (e : H a = some (.tup xs)) : TyOf K H (.ref a) (.type "tuple")
  | dK {a : Addr} {kvs : List (Key × V)} (e : H a = some (.dK kvs)) : TyOf K H (.ref a) (.type "dict")
  | dT {a : Addr} {kvs : List (List Key × V)} (e : H a = some (.dT kvs)) : TyOf K H (.ref a) (.type "dict")
  | ins {a C dx : Addr} {fs : List (Str × V)} (e : H a = some (.ins C dx fs)) (cl : Cls K C) (ha : PySem.W.findIn K (.ref C) "__class__" = some (some (.builtin "object.__class__")))
      (hn : PySem.W.specialIn K (.builtin "object.__class__") "__get__" = some (some (.builtin "getset_descriptor.__get__"))) (htk : PySem.W.takesIn K (.builtin "object.__class__") = some true)
      (hm : PySem.W.mroIn K C (.type "object") = some true) : TyOf K H (.ref a) (.ref C)
theorem isinst_ok {x : V} {u t : Value} (I : Inv X pins σ H s) (rx : RelV x u) (ty : TyOf X.K H x t) (e : PySem.W.kitOne X.K t c = some b) (h : ∀ tk, Q (.bool b) { s with toks := tk }) :
    wpAny (model X.prog X.w) A (call (.builtin "isinstance") [u, c]) Q E s := by
  cases ty with
  | non => cases (show u = Value.none from rx); exact PySem.W.kia_one PySem.W.kitx_none I.kIn True.intro e (fun z => nomatch z) h
  | bl y => cases (show u = Value.bool y from rx); exact PySem.W.kia_one PySem.W.kitx_bool I.kIn True.intro e (fun z => nomatch z) h
  | int i => obtain ⟨t, q⟩ := (show ∃ t, u = Value.int i t from rx); cases q; exact PySem.W.kia_one PySem.W.kitx_int I.kIn True.intro e (fun z => nomatch z) h
  | str y => obtain ⟨t, q⟩ := (show ∃ t, u = Value.str y t from rx); cases q; exact PySem.W.kia_one PySem.W.kitx_str I.kIn True.intro e (fun z => nomatch z) h
  | flt y => obtain ⟨t, q⟩ := (show ∃ t, u = Value.float y t from rx); cases q; exact PySem.W.kia_one PySem.W.kitx_float I.kIn True.intro e (fun z => nomatch z) h
  | @lst a xs ea =>
    cases (show u = Value.ref a from rx)
    obtain ⟨_, _, n, _, h1⟩ := (show ObjOk X.prog X.w H s.heap a (.lst xs) from I.hok a _ ea)
    exact PySem.W.kia_one PySem.W.kitx_list I.kIn ⟨_, h1, rfl⟩ e (fun z => nomatch z) h
  | @frz a ob xs ea =>
    cases (show u = Value.ref a from rx)
    obtain ⟨_, _, _, n, _, h1⟩ := (show ObjOk X.prog X.w H s.heap a (.frz ob (.lst xs)) from I.hok a _ ea)
    exact PySem.W.kia_one PySem.W.kitx_list I.kIn ⟨_, h1, rfl⟩ e (fun z => nomatch z) h
  | @tup a xs ea =>
    cases (show u = Value.ref a from rx)
    obtain ⟨_, _, _, p⟩ := (show ObjOk X.prog X.w H s.heap a (.tup xs) from I.hok a _ ea)
    obtain ⟨o, h1, h2, _⟩ := p
    exact PySem.W.kia_one PySem.W.kitx_tuple I.kIn ⟨o, h1, h2⟩ e (fun z => nomatch z) h
  | @dK a kvs ea =>
    cases (show u = Value.ref a from rx)
    obtain ⟨_, _, vs, _, p⟩ := (show ObjOk X.prog X.w H s.heap a (.dK kvs) from I.hok a _ ea)
    obtain ⟨o, es, ep, h1, h2, _⟩ := p
    exact PySem.W.kia_one PySem.W.kitx_dict I.kIn ⟨o, h1, h2.1⟩ e (fun z => nomatch z) h
  | @dT a kvs ea =>
    cases (show u = Value.ref a from rx)
    obtain ⟨_, _, xs, _, o, es, ep, h1, h2, _⟩ := (show ObjOk X.prog X.w H s.heap a (.dT kvs) from I.hok a _ ea)
    exact PySem.W.kia_one PySem.W.kitx_dict I.kIn ⟨o, h1, h2.1⟩ e (fun z => nomatch z) h
  | @ins a C dx fs ea cl ha hn htk hm =>
    cases (show u = Value.ref a from rx)
    obtain ⟨mA, O, _⟩ := ins_get I.hok ea
    obtain ⟨od, J, _⟩ := O.look
    exact PySem.W.kia_one (PySem.W.kitx_own (cl.get _) cl.hd ha hn htk hm) I.kIn J e (fun z => nomatch z) h
end
end L2
namespace L2
open PySem PySem.Spec PyProof.Rows
structure Room (k : Nat) (A : Around) : Prop where
  hd : A.handled = none
  dp : A.depth + 3 * k + 5 < recursionLimit
  un : A.units + 16 * k + 200 < cLine
theorem Room.mono {j k : Nat} {A : Around} (r : Room k A) (h : j ≤ k) : Room j A := ⟨r.hd, by have := r.dp; omega, by have := r.un; omega⟩
theorem Room.deeper {k : Nat} {A : Around} (r : Room (k + 1) A) (env : Env) : Room k (A.deeper env) :=
  ⟨r.hd, by have := r.dp; show A.depth + 1 + 3 * k + 5 < _; omega, by have := r.un; show A.units + 3 + 16 * k + 200 < _; omega⟩
theorem Room.in1 {k : Nat} {A : Around} (r : Room (k + 1) A) : Room k A.in1 :=
  ⟨r.hd, by have := r.dp; show A.depth + 3 * k + 5 < _; omega, by have := r.un; show A.units + 1 + 16 * k + 200 < _; omega⟩
theorem make_depth {A : Around} {C : Addr} {us : List Value} {kw : List (Str × Value)} : (A.under (.builtin "type.__call__" ⟨.ref C :: us, kw⟩)).depth = A.depth + 1 := by
  first | rfl | simp [Around.under, Code.weight, Code.isCreation, Code.isGuard, Code.isCaller, Code.frames, Code.isFrame, guardIds]
theorem make_units {A : Around} {C : Addr} {us : List Value} {kw : List (Str × Value)} : (A.under (.builtin "type.__call__" ⟨.ref C :: us, kw⟩)).units = A.units + 1 := by
  first | rfl | simp [Around.under, Code.cUnits, Code.frames, Code.isFrame]
theorem Room.make {k : Nat} {A : Around} (r : Room (k + 1) A) (C : Addr) (us : List Value) (kw : List (Str × Value)) : Room k (A.under (.builtin "type.__call__" ⟨.ref C :: us, kw⟩)) :=
  ⟨r.hd, by have := r.dp; rw [make_depth]; omega, by have := r.un; rw [make_units]; omega⟩
theorem Room.depth {k : Nat} {A : Around} (r : Room k A) : A.depth < recursionLimit := by have := r.dp; omega
theorem Room.units {k : Nat} {A : Around} (r : Room k A) : A.units + 64 < cLine := by have := r.un; omega
def tNil : TA := fun _ H Q => Q [] H
def tCons (ta : TE) (tr : TA) : TA := fun σ H Q => ta σ H fun x H1 => tr σ H1 fun xs H2 => Q (x :: xs) H2
section
variable {X : Cx} {e : Expr} {es : List Expr} {te : TE} {t : TA} {pos : Pos}
theorem pa_nil : PA X [] tNil := fun _ _ _ _ H Q I h => Calls.spliced_nil ⟨[], H, I, .nil, h⟩
theorem pa_cons (ha : PE X e te) (hr : PA X es t) (hs : starEach (e :: es) X.env = (false, eval e X.env) :: starEach es X.env := by rfl) : PA X (e :: es) (tCons te t) := by
  intro pos pins s σ H Q I h
  rw [hs]
  show wpAny _ _ (spliced ((false, eval e X.env) :: backTo pos (starEach es X.env))) _ _ s
  refine Calls.spliced_cons (thn (ha pins s σ H _ I h) fun u s1 hq__ => ?_)
  obtain ⟨x, H1, I1, r1, q1⟩ := hq__
  exact thn (hr pos pins s1 σ H1 _ I1 q1) fun us s2 ⟨xs, H2, I2, r2, q2⟩ => ⟨x :: xs, H2, I2, .cons r1 r2, q2⟩
end
abbrev Sp := List V → Hp → VK → XK → Prop
abbrev CXT := List Env → Hp → Shared → XK → Value → Shared → Prop
structure Env0 (P : Program) (w : World) (K : PySem.W.Frag) (mg : Str → Option Value) (base : Heap) (A : Around) (outer : List Env) (s : Shared) (H : Hp) : Prop where
  frames : A.frames = some outer
  mod : Mod K mg base
  bs : ∀ b o, base.get? b = some o → s.heap.get? b = some o ∧ H b = none
  bsz : base.objs.size ≤ s.heap.objs.size
  funs : s.heap.FunFrames base outer
  frf : ∀ b ∈ frs outer, H b = none
  hok : HOk P w H s.heap
  bare : AllBare s.gens
def CE (outer : List Env) (P : Program) (w : World) (H : Hp) (s : Shared) (Q : VK) (u : Value) (s' : Shared) : Prop :=
  ∃ v H', s'.os = s.os ∧ AllBare s'.gens ∧ Un (frs outer) [] H H' s.heap s'.heap ∧ HOk P w H' s'.heap ∧ RelV v u ∧ Q v H'
def CR (CX : CXT) (outer : List Env) (P : Program) (w : World) (H : Hp) (s : Shared) (Q : VK) (E : XK) (r : Result) (s' : Shared) : Prop :=
  match r with
  | .ok (.ret u) => CE outer P w H s Q u s'
  | .ok _ => False
  | .error e => CX outer H s E e s'
structure FnOk (P : Program) (w : World) (K : PySem.W.Frag) (mg : Str → Option Value) (base : Heap) (CX : CXT) (k : Nat) (f : Addr) (fd : FuncData) (ps : List Str) (sp : Sp) : Prop where
  len : ∀ vs H Q E, sp vs H Q E → vs.length = ps.length
  run : ∀ (A : Around) (outer : List Env) (s : Shared) (H : Hp) (args : Args) (us : List Value) (vs : List V) (Q : VK) (E : XK), Room k A → Env0 P w K mg base A outer s H → BindsTo s fd args (ps.zip us) → Vals vs us → sp vs H Q E →
    codeAny (model P w) A (.call (.ref f) args) (CR CX outer P w H s Q E) s
theorem FnOk.mono {P : Program} {w : World} {K : PySem.W.Frag} {mg : Str → Option Value} {base : Heap} {CX : CXT} {j k : Nat} {f : Addr} {fd : FuncData} {ps : List Str} {sp : Sp} (F : FnOk P w K mg base CX j f fd ps sp) (h : j ≤ k) :
    FnOk P w K mg base CX k f fd ps sp := ⟨F.len, fun A outer s H args us vs Q E hr => F.run A outer s H args us vs Q E (hr.mono h)⟩
theorem FnOk.imp {P : Program} {w : World} {K : PySem.W.Frag} {mg : Str → Option Value} {base : Heap} {CX : CXT} {k : Nat} {f : Addr} {fd : FuncData} {ps : List Str} {sp sp' : Sp} (F : FnOk P w K mg base CX k f fd ps sp)
    (h : ∀ vs H Q E, sp' vs H Q E → sp vs H Q E) : FnOk P w K mg base CX k f fd ps sp' :=
  ⟨fun vs H Q E q => F.len vs H Q E (h _ _ _ _ q), fun A outer s H args us vs Q E hr he hb hv hs => F.run A outer s H args us vs Q E hr he hb hv (h _ _ _ _ hs)⟩
theorem Env0.make {P : Program} {w : World} {K : PySem.W.Frag} {mg : Str → Option Value} {base : Heap} {A : Around} {outer : List Env} {s : Shared} {H : Hp} (e : Env0 P w K mg base A outer s H) (C : Addr) (us : List Value) (kw : List (Str × Value)) :
    Env0 P w K mg base (A.under (.builtin "type.__call__" ⟨.ref C :: us, kw⟩)) outer s H := ⟨by first | exact e.frames | (simpa [Around.under, Code.envs, Code.isFrame, pushEnvs] using e.frames), e.mod, e.bs, e.bsz, e.funs, e.frf, e.hok, e.bare⟩
theorem Env0.in1 {P : Program} {w : World} {K : PySem.W.Frag} {mg : Str → Option Value} {base : Heap} {A : Around} {outer : List Env} {s : Shared} {H : Hp} (e : Env0 P w K mg base A outer s H) :
    Env0 P w K mg base A.in1 outer s H := ⟨e.frames, e.mod, e.bs, e.bsz, e.funs, e.frf, e.hok, e.bare⟩
section
variable {X : Cx} {pins : List (Addr × Obj)} {σ : St} {H : Hp} {s s' : Shared}
theorem Inv.env0 (I : Inv X pins σ H s) : Env0 X.prog X.w X.K X.mg X.base X.A X.stack s H :=
  ⟨I.ok.frames, I.ok.mod, I.bs, Nat.le_trans I.ok.bsz I.sz, I.stack, I.stkFree, I.hok, I.bare⟩
theorem Inv.after {Q : VK} {u : Value} (I : Inv X pins σ H s) (h : CE X.stack X.prog X.w H s Q u s') : EP X pins σ Q u s' := by
  obtain ⟨v, H', os, bare, un, hok, r, q⟩ := h
  obtain ⟨hh, g, d, t, os'⟩ := s'
  obtain rfl : os' = s.os := os
  exact ⟨v, H', I.call (h' := hh) (g' := g) (d' := d) (t' := t) (ch := []) un hok bare (fun b z => absurd z (by simp)), r, q⟩
end
def tCall (sp : Sp) (dvs : List V) (E : XK) (t : TA) : TE := fun σ H Q => t σ H fun vs H1 => sp (vs ++ dvs) H1 Q E
inductive tMethS (C : Addr) (m : Str) (x : V) (H : Hp) (k : Prop) : Prop
  | mk (a dx : Addr) (fs : List (Str × V)) (hx : x = .ref a) (ho : H a = some (.ins C dx fs)) (hl : fs.lookup m = none) (hk : k)
def tMeth (C : Addr) (m : Str) (sp : Sp) (dvs : List V) (E : XK) (ta : TE) (t : TA) : TE := fun σ H Q => ta σ H fun x H1 => tMethS C m x H1 (t σ H1 fun vs H2 => sp (x :: (vs ++ dvs)) H2 Q E)
def Binds (K : PySem.W.Frag) (fd : FuncData) (ps : List Str) (ds : List Value) : Prop :=
  ∀ (s : Shared) (us : List Value), K.In s.heap → (us ++ ds).length = ps.length → BindsTo s fd ⟨us, []⟩ (ps.zip (us ++ ds))
theorem Binds.all {K : PySem.W.Frag} {fd : FuncData} {ps : List Str} (h : ∀ us : List Value, us.length = ps.length → bindArgs fd ⟨us, []⟩ = pure (ps.zip us)) : Binds K fd ps [] := fun s us _ hl => by
  rw [List.append_nil] at hl ⊢
  exact .of_eq (h us hl)
def Passes (CX : CXT) (X : Cx) (E : XK) : Prop := ∀ (pins : List (Addr × Obj)) (σ : St) (H : Hp) (s : Shared) (e : Value) (s' : Shared), Inv X pins σ H s → CX X.stack H s E e s' → X.xe e s'
section
variable {X : Cx} {CX : CXT} {k : Nat} {f C : Addr} {fd : FuncData} {ps : List Str} {sp : Sp} {dvs : List V} {ds : List Value} {E : XK} {x m : Str} {p pos apos : Pos} {e o : Expr} {es : List Expr} {ta : TE} {t : TA}
theorem run_fn {pins : List (Addr × Obj)} {σ : St} {H : Hp} {s : Shared} {Q : VK} {us : List Value} {vs : List V} (F : FnOk X.prog X.w X.K X.mg X.base CX k f fd ps sp) (hr : Room k X.A) (hb : Binds X.K fd ps ds) (hd : Vals dvs ds) (hx : Passes CX X E)
    (I : Inv X pins σ H s) (r : Vals vs us) (h : sp (vs ++ dvs) H Q E) : wpAny (model X.prog X.w) X.A (call (.ref f) us) (EP X pins σ Q) X.xe s := by
  have r2 : Vals (vs ++ dvs) (us ++ ds) := r.append hd
  have hl : (us ++ ds).length = ps.length := by rw [← r2.length]; exact F.len _ _ _ _ h
  refine wpAny_call (codeAny_mono (F.run X.A X.stack s H ⟨us, []⟩ (us ++ ds) (vs ++ dvs) Q E hr I.env0 (hb s us I.kIn hl) r2 h) fun r s' hq => ?_)
  cases r with
  | error e => exact hx pins σ H s e s' I hq
  | ok fl =>
    cases fl with
    | ret u => exact I.after hq
    | next => exact False.elim hq
    | brk => exact False.elim hq
    | cont => exact False.elim hq
theorem pe_call (F : FnOk X.prog X.w X.K X.mg X.base CX k f fd ps sp) (hr : Room k X.A) (hg : Gl X x) (hm : X.mg x = some (.ref f)) (hk : PySem.W.keepIn X.K (.ref f) = true) (hb : Binds X.K fd ps ds) (hd : Vals dvs ds) (hx : Passes CX X E)
    (ha : PA X (e :: es) t) (hdb : (x == ("__debug__" : Str)) = false := by decide) (he : starEach (e :: es) X.env = (false, eval e X.env) :: starEach es X.env := by rfl) (hpl : (backTo pos (starEach es X.env)).any (·.1) = false := by rfl) :
    PE X (.Call (.Name x p) (e :: es) [] pos) (tCall sp dvs E t) := by
  intro pins s σ H Q I h
  refine wpAny_Call_Name_kw (ld_glob I hg hm ?_ hdb)
  refine PySem.W.callWith_K (h₀ := X.base) I.ok.mod.kin hk (thn (ha pos pins s σ H _ I h) fun us s1 ⟨vs, H1, I1, r, q⟩ => ⟨I1.kIn, ?_⟩) he hpl
  exact run_fn F hr hb hd hx I1 r q
theorem pe_meth0 {pl : Sem Bool} (he : PE X o ta) (c : Cls X.K C) (hm : Meth X.K C m f) (F : FnOk X.prog X.w X.K X.mg X.base CX k f fd ps sp) (hr : Room k X.A) (hb : Binds X.K fd ps ds) (hd : Vals dvs ds) (hx : Passes CX X E)
    (ht : eval (.Call (.Attribute o m apos) [] [] pos) X.env = (do
      let ov ← eval o X.env
      standAt apos.atName
      let (f, first) ← holding [ov] (getMethod ov m pl)
      callWith pos f first (backTo pos (starEach [] X.env)) (backToKw pos (keywordEach [] X.env))) := by rfl) :
    PE X (.Call (.Attribute o m apos) [] [] pos) (tMeth C m sp dvs E ta tNil) := by
  intro pins s σ H Q I h
  refine PySem.W.methodCall_KW (pl := pl) (thn (he pins s σ H _ I h) fun u s1 hq__ => ?_) ht
  obtain ⟨x, H1, I1, rx, a, dx, fs, ex, ea, l, q⟩ := hq__
  subst ex
  obtain rfl : u = Value.ref a := rx
  refine getmeth_ok I1 ea c hm l ?_
  exact PySem.W.callWith_K0 (first := [.ref a]) I1.kIn hm.kp (run_fn (us := [.ref a]) (vs := [.ref a]) F hr hb hd hx I1 (.cons rfl .nil) q)
structure Mk (K : PySem.W.Frag) (C f : Addr) : Prop where
  makes : PySem.W.makesIn K C = true
  init : PySem.W.findIn K (.ref C) "__init__" = some (some (.ref f))
  fn : PySem.W.isFn K (.ref f) = true
  kp : PySem.W.keepIn K (.ref C) = true
end
section
variable {X : Cx} {CX : CXT} {k : Nat} {f C : Addr} {fd : FuncData} {ps ks : List Str} {sp : Sp} {E : XK} {x m : Str} {p pos apos kpos : Pos} {e o : Expr} {es : List Expr} {kws : List Keyword} {te ta : TE} {t tk : TA} {nm : Option Str}
structure KBinds (K : PySem.W.Frag) (fd : FuncData) (ps ks : List Str) (g : List Value → List Value → List Value) (gV : List V → List V → List V) : Prop where
  to : ∀ (s : Shared) (us ws : List Value), K.In s.heap → (g us ws).length = ps.length → BindsTo s fd ⟨us, ks.zip ws⟩ (ps.zip (g us ws))
  rel : ∀ {vs : List V} {us : List Value} {zs : List V} {ws : List Value}, Vals vs us → Vals zs ws → Vals (gV vs zs) (g us ws)
variable {g : List Value → List Value → List Value} {gV : List V → List V → List V}
end
structure FnScope (N P : List Str) (sc : Scope) : Prop where
  kind : sc.kind = .function
  co : sc.isCoroutine = false
  gen : sc.isGenerator = false
  nd : N.Nodup
  pre : N.take P.length = P
  par : ∀ x ∈ P, sc.names.lookup x = some .local ∨ sc.names.lookup x = some .cell
  nofree : ∀ y ∈ sc.names, y.2 ≠ .free
theorem bindL_out {kindOf : Str → Option NameKind} {x : Str} : ∀ {binds : List (Str × Value)} {m : Str → Option Value}, (∀ v, (x, v) ∉ binds) → bindL kindOf binds m x = m x
  | [], _, _ => rfl
  | (n, v) :: r, m, h => by
    unfold bindL
    rw [bindL_out fun w hw => h w (List.mem_cons_of_mem _ hw)]
    split
    · have : x ≠ n := by rintro rfl; exact h v List.mem_cons_self
      simp [this]
    · rfl
theorem bindC_out {kindOf : Str → Option NameKind} {x : Str} : ∀ {binds : List (Str × Value)} {m : Str → Option Value}, (∀ v, (x, v) ∉ binds) → bindC kindOf binds m x = m x
  | [], _, _ => rfl
  | (n, v) :: r, m, h => by
    unfold bindC
    rw [bindC_out fun w hw => h w (List.mem_cons_of_mem _ hw)]
    split
    · rfl
    · have : x ≠ n := by rintro rfl; exact h v List.mem_cons_self
      simp [this]
theorem bindL_get {kindOf : Str → Option NameKind} {x : Str} {v : Value} : ∀ {P : List Str} {vs : List Value} {i : Nat} {m : Str → Option Value}, P.Nodup → P[i]? = some x → vs[i]? = some v → kindOf x = some .local →
    bindL kindOf (P.zip vs) m x = some v
  | [], _, _, _, _, h, _, _ => by simp at h
  | _ :: _, [], _, _, _, _, h, _ => by simp at h
  | p :: P, w :: vs, 0, m, nd, h1, h2, hk => by
    simp at h1 h2; subst h1; subst h2
    show bindL kindOf ((p, w) :: P.zip vs) m p = _
    unfold bindL
    rw [bindL_out fun v hv => (List.nodup_cons.mp nd).1 (List.of_mem_zip hv).1, if_pos hk]
    simp
  | p :: P, w :: vs, i + 1, m, nd, h1, h2, hk => by
    show bindL kindOf ((p, w) :: P.zip vs) m x = _
    unfold bindL
    exact bindL_get (i := i) (List.nodup_cons.mp nd).2 (by simpa using h1) (by simpa using h2) hk
theorem bindC_get {kindOf : Str → Option NameKind} {x : Str} {v : Value} : ∀ {P : List Str} {vs : List Value} {i : Nat} {m : Str → Option Value}, P.Nodup → P[i]? = some x → vs[i]? = some v → kindOf x ≠ some .local →
    bindC kindOf (P.zip vs) m x = some v
  | [], _, _, _, _, h, _, _ => by simp at h
  | _ :: _, [], _, _, _, _, h, _ => by simp at h
  | p :: P, w :: vs, 0, m, nd, h1, h2, hk => by
    simp at h1 h2; subst h1; subst h2
    show bindC kindOf ((p, w) :: P.zip vs) m p = _
    unfold bindC
    rw [bindC_out fun v hv => (List.nodup_cons.mp nd).1 (List.of_mem_zip hv).1, if_neg hk]
    simp
  | p :: P, w :: vs, i + 1, m, nd, h1, h2, hk => by
    show bindC kindOf ((p, w) :: P.zip vs) m x = _
    unfold bindC
    exact bindC_get (i := i) (List.nodup_cons.mp nd).2 (by simpa using h1) (by simpa using h2) hk
def start (N : List Str) (vs : List V) : St := vs.map some ++ List.replicate (N.length - vs.length) none
def cxOf (CX : CXT) (P : Program) (w : World) (K : PySem.W.Frag) (mg : Str → Option Value) (base : Heap) (N : List Str) (qual : Str) (scope : Scope) (f : Addr) (cd : Value) (A : Around) (outer : List Env) (s : Shared) (H : Hp) (E : XK) : Cx where
  prog := P
  w := w
  K := K
  mg := mg
  base := base
  A := A.deeper (envOfC qual scope s.heap.objs.size f cd)
  N := N
  s₀ := s
  H₀ := H
  env := envOfC qual scope s.heap.objs.size f cd
  outer := outer
  stack := envOfC qual scope s.heap.objs.size f cd :: outer
  ex := []
  calm := true
  fn := fun _ => true
  pn := []
  xe := fun e s' => wpAny (model P w) (A.deeper (envOfC qual scope s.heap.objs.size f cd)) (leaving (envOfC qual scope s.heap.objs.size f cd) e) (fun _ s'' => CX outer H s E e s'') (fun e' s'' => CX outer H s E e' s'') s'
theorem cell_has {sc : Scope} {n : Nat} {x : Str} (h : sc.names.lookup x = some .cell) : ∃ c, (cellsFrom n sc.names []).lookup x = some c := by
  have q := PySem.W.cellsFrom_some sc.names n [] (.inl h)
  exact Option.isSome_iff_exists.mp q
theorem inv_start {CX : CXT} {P : Program} {w : World} {K : PySem.W.Frag} {mg : Str → Option Value} {base : Heap} {N ps : List Str} {qual : Str} {scope : Scope} {f : Addr} {cd : Value} {A : Around} {outer : List Env} {s s1 : Shared} {H : Hp} {E : XK} {us : List Value} {vs : List V}
    (S : FnScope N ps scope) (hd : A.handled = none) (e0 : Env0 P w K mg base A outer s H) (hl : vs.length = ps.length) (r : Vals vs us)
    (x : InCallC s s.heap.objs.size (bindL (envOfC qual scope s.heap.objs.size f cd).kindOf (ps.zip us) fun _ => none) (cellsFrom (s.heap.objs.size + 1) scope.names []) (bindC (envOfC qual scope s.heap.objs.size f cd).kindOf (ps.zip us) fun _ => none) s1) :
    Inv (cxOf CX P w K mg base N qual scope f cd A outer s H E) [] (start N vs) H s1 := by
  have hpl : ps.length ≤ N.length := by have := congrArg List.length S.pre; rw [List.length_take] at this; omega
  obtain ⟨h1, tk, rfl, hk⟩ := x.done
  have noA : ∀ b : Addr, b ∉ (cxOf CX P w K mg base N qual scope f cd A outer s H E).ex := fun b z => absurd (show b ∈ ([] : List Addr) from z) (by simp)
  refine ⟨⟨e0.mod, S.kind, rfl, rfl, Nat.le_refl _, fun y z c h1 h2 => ?_, fun y hy => ?_, fun y c _ h => ?_, fun _ => hd, Around.frames_deeper e0.frames, .inr ⟨rfl, rfl⟩, fun b z => absurd z (noA b), e0.bs, e0.bsz, fun b _ _ => noA b, fun b z => absurd z (noA b), e0.funs, e0.frf⟩,
    rfl, e0.bare, Un.kept hk, ⟨_, x.toInCall.ns, fun i y v h1 h2 h3 => ?_⟩, fun y c h => ⟨_, x.cell y c h⟩, e0.hok.fresh (Nat.le_refl _), fun y c h => ?_, fun p hp => absurd (show p ∈ ([] : List (Addr × Obj)) from hp) (by simp), e0.hok.kept hk, ?_⟩
  · exact name_of_addr x.apart (PySem.mem_of_lookup h1) (PySem.mem_of_lookup h2)
  · have hy : scope.names.lookup y = some .cell ∨ scope.names.lookup y = some .free := hy
    rcases hy with hy | hy
    · exact cell_has hy
    · exact absurd rfl (S.nofree _ (PySem.mem_of_lookup hy))
  · exact Nat.le_of_lt (x.above y c (PySem.mem_of_lookup h))
  · have hi : i < vs.length := by
      unfold start at h2
      by_cases hi : i < vs.length
      · exact hi
      · rw [List.getElem?_append_right (by simpa using hi)] at h2
        rw [List.getElem?_replicate] at h2
        split at h2 <;> cases h2
    have ha : vs[i]? = some v := by
      unfold start at h2
      rw [List.getElem?_append_left (by simpa using hi), List.getElem?_map] at h2
      cases e : vs[i]? with
      | none => rw [e] at h2; cases h2
      | some a => rw [e] at h2; cases h2; rfl
    obtain ⟨u, hu, rv⟩ := r.get ha
    have hp : ps[i]? = some y := by
      rw [← S.pre, List.getElem?_take_of_lt (by omega)]; exact h1
    have ndP : ps.Nodup := by rw [← S.pre]; exact S.nd.sublist (List.take_sublist _ _)
    refine ⟨u, rv, ?_⟩
    rcases S.par y (List.mem_of_getElem? hp) with k | k
    · exact .inl ⟨k, bindL_get ndP hp hu k⟩
    · obtain ⟨c, e⟩ := cell_has (n := s.heap.objs.size + 1) k
      refine .inr ⟨.inl k, c, e, ?_⟩
      have q := x.cell y c e
      rw [bindC_get ndP hp hu (by show scope.names.lookup y ≠ _; rw [k]; decide)] at q
      exact q
  · exact e0.hok.fresh (Nat.le_of_lt (x.above y c (PySem.mem_of_lookup h)))
  · unfold start
    show _ = N.length
    rw [List.length_append, List.length_map, List.length_replicate]
    omega
theorem fn_of {CX : CXT} {P : Program} {w : World} {K : PySem.W.Frag} {mg : Str → Option Value} {base : Heap} {k : Nat} {f : Addr} {name qual : Str} {params : Arguments} {body : List Stmt} {scope : Scope} {dV kV doc pm cdv ct oc : Value} {an od : Option Addr}
    {osl : Array (Option Value)} {N ps : List Str} {sp : Sp} (lk : K.lookup f = some ⟨oc, od, .func (PySem.W.fnOf name qual params body scope dV kV doc pm an cdv ct), osl⟩) (hcd : PySem.W.codeIn K cdv qual = true) (S : FnScope N ps scope)
    (len : ∀ vs H Q E, sp vs H Q E → vs.length = ps.length)
    (hbody : ∀ (A : Around) (outer : List Env) (s : Shared) (H : Hp) (vs : List V) (Q : VK) (E : XK), Room k (A.deeper (envOfC qual scope s.heap.objs.size f cdv)) → sp vs H Q E →
      ∃ t, PSs (cxOf CX P w K mg base N qual scope f cdv A outer s H E) body t ∧ t { nx := fun _ H' => Q .non H', rt := Q } (start N vs) H) :
    FnOk P w K mg base CX (k + 1) f (PySem.W.fnOf name qual params body scope dV kV doc pm an cdv ct) ps sp := by
  refine ⟨len, fun A outer s H args us vs Q E hr e0 hb r hsp => ?_⟩
  have hl := len _ _ _ _ hsp
  have KX : K.In s.heap := e0.mod.kin.keeps fun b o e => (e0.bs b o e).1
  have lim : s.heap.NoLimit := e0.mod.nolimit.keeps fun b o e => (e0.bs b o e).1
  have hkind : ∀ y ∈ ps.zip us, scope.names.lookup y.1 = some .local ∨ (scope.names.lookup y.1 = some .cell ∧ ((cellsFrom (s.heap.objs.size + 1) scope.names []).lookup y.1).isSome = true) := fun ⟨n, v⟩ hy => by
    rcases S.par n (List.of_mem_zip hy).1 with q | q
    · exact .inl q
    · exact .inr ⟨q, PySem.W.cellsFrom_some _ _ _ (.inl q)⟩
  refine codeAny_call_function hr.depth (KX _ _ lk) rfl S.co S.gen rfl (PySem.W.codeRec_of KX hcd) (hb _ _ _ _ ?_)
  refine wpAny_newFunctionEnv_cells S.kind hkind fun env he s1 x => ?_
  subst he
  refine ⟨lim.keeps x.toInCall.keep, codeAny_func ?_⟩
  obtain ⟨t, ht, hq⟩ := hbody A outer s H vs Q E (hr.deeper _) hsp
  have I : Inv (cxOf CX P w K mg base N qual scope f cdv A outer s H E) [] (start N vs) H s1 := inv_start S hr.hd e0 hl r x
  refine wpAny_mono (ht [] s1 (start N vs) H _ I hq) (fun fl s' hs => ?_) fun e s' hs => hs
  have fin : ∀ {σ' : St} {H' : Hp} {v : V} {u : Value}, Inv (cxOf CX P w K mg base N qual scope f cdv A outer s H E) [] σ' H' s' → RelV v u → Q v H' → CE outer P w H s Q u s' :=
    fun {σ' H' v u} J rv q => ⟨v, H', J.os, J.bare, J.base, J.hok, rv, q⟩
  cases fl with
  | ret u =>
    obtain ⟨v, σ', H', J, rv, q⟩ := hs
    exact fin J rv q
  | next =>
    obtain ⟨σ', H', J, q⟩ := hs
    exact fin (v := V.non) (u := Value.none) J rfl q
  | brk =>
    obtain ⟨_, _, _, q⟩ := hs
    exact False.elim q
  | cont =>
    obtain ⟨_, _, _, q⟩ := hs
    exact False.elim q
end L2
namespace L2
open PySem PySem.Spec PyProof.Rows
section
variable {X : Cx} {x : Str} {p pos : Pos} {e : Expr} {es : List Expr} {t : TA} {id T : String} {r : List V → Hp → VK → Prop}
def tCB (r : List V → Hp → VK → Prop) (t : TA) : TE := fun σ H Q => t σ H fun vs H1 => r vs H1 Q
theorem pe_callB (hc : CallR X (.builtin id) r) (hg : Gl X x) (hm : X.mg x = none) (hv : bootBuiltins x = some (.builtin id)) (ha : PA X (e :: es) t) (hn : x ≠ "__name__" := by decide) (hdb : (x == ("__debug__" : Str)) = false := by decide)
    (he : starEach (e :: es) X.env = (false, eval e X.env) :: starEach es X.env := by rfl) (hpl : (backTo pos (starEach es X.env)).any (·.1) = false := by rfl) : PE X (.Call (.Name x p) (e :: es) [] pos) (tCB r t) := by
  intro pins s σ H Q I h
  refine wpAny_Call_Name_kw (ld_blt I hg hm hv ?_ hn hdb)
  exact PyProof.Rows.callWith_builtin1 (thn (ha pos pins s σ H _ I h) fun us s1 ⟨vs, H1, I1, r1, q1⟩ => hc pins s1 σ H1 vs us Q I1 r1 q1) he hpl
theorem pe_callTy (hc : CallR X (.type T) r) (hg : Gl X x) (hm : X.mg x = none) (hv : bootBuiltins x = some (.type T)) (ha : PA X (e :: es) t) (hn : x ≠ "__name__" := by decide) (hdb : (x == ("__debug__" : Str)) = false := by decide)
    (he : starEach (e :: es) X.env = (false, eval e X.env) :: starEach es X.env := by rfl) (hpl : (backTo pos (starEach es X.env)).any (·.1) = false := by rfl) : PE X (.Call (.Name x p) (e :: es) [] pos) (tCB r t) := by
  intro pins s σ H Q I h
  refine wpAny_Call_Name_kw (ld_blt I hg hm hv ?_ hn hdb)
  exact PyProof.Rows.callWith_type1 (thn (ha pos pins s σ H _ I h) fun us s1 ⟨vs, H1, I1, r1, q1⟩ => hc pins s1 σ H1 vs us Q I1 r1 q1) he hpl
end
end L2
namespace HT
open PySem PyProof.Rows
section
open PySem.SeqAt
open PySem.AutoSeq1 (wpAny_loadPart')
open PySem.MeetsSeq PySem.MeetsSeq2 PySem.MeetsSeq3
end
section
variable {prog : Program} {w : World} {A : Around} {E : Value → Shared → Prop} {s : Shared}
def sIx (n d : Nat) : Option Int → Nat
  | none => d
  | some v => if v < 0 then (v + (n : Int)).toNat else min v.toNat n
theorem sIx_none (n d : Nat) : sIx n d none = d := rfl
theorem sIx_nat (n d k : Nat) : sIx n d (some (k : Int)) = min k n := by
  show (if (k : Int) < 0 then ((k : Int) + (n : Int)).toNat else min (k : Int).toNat n) = min k n
  rw [if_neg (by omega), Int.toNat_natCast]
end
end HT
namespace L2
open PySem PySem.Spec PyProof.Rows
abbrev TO := St → Hp → (Option Int → Hp → Prop) → Prop
def PO (X : Cx) (e : Option Expr) (t : TO) : Prop :=
  ∀ (pins : List (Addr × Obj)) (s : Shared) (σ : St) (H : Hp) (Q : Option Int → Hp → Prop), Inv X pins σ H s → t σ H Q →
    wpAny (model X.prog X.w) X.A (evalPart e X.env) (fun u s' => ∃ o H', Inv X pins σ H' s' ∧ IsPart u o ∧ Q o H') X.xe s
def tNoPart : TO := fun _ H Q => Q none H
inductive tPartS (x : V) (H : Hp) (Q : Option Int → Hp → Prop) : Prop
  | mk (i : Int) (h : x = .int i) (k : Q (some i) H)
def tPart (t : TE) : TO := fun σ H Q => t σ H fun x H1 => tPartS x H1 Q
section
variable {X : Cx} {e : Expr} {te : TE} {lo hi : Option Expr} {tl th : TO} {pos p2 : Pos}
theorem po_none : PO X none tNoPart := by
  intro pins s σ H Q I h
  rw [evalPart_none]
  exact wpAny_pure ⟨none, H, I, .none, h⟩
theorem po_some (h : PE X e te) : PO X (some e) (tPart te) := by
  intro pins s σ H Q I hw
  rw [evalPart_some]
  refine thn (h pins s σ H _ I hw) fun u s1 hq__ => ?_
  obtain ⟨x, H1, I1, r1, q1⟩ := hq__
  obtain ⟨i, rfl, q⟩ := q1
  obtain ⟨t, rfl⟩ := r1
  exact ⟨some i, H1, I1, .int i t, q⟩
def SlR (X : Cx) (r : V → Option Int → Option Int → Hp → VK → Prop) : Prop :=
  ∀ (pins : List (Addr × Obj)) (s : Shared) (σ : St) (H : Hp) (x : V) (v vl vu : Value) (lo hi : Option Int) (sl : Addr) (Q : VK), Inv X pins σ H s → RelV x v → s.heap.IsSliceOf sl vl vu .none → IsPart vl lo → IsPart vu hi → r x lo hi H Q →
    ∃ T id, typeLookup (.type T) "__getitem__" = pure (some (.builtin id)) ∧ s.TypeIs v T ∧ wpAny (model X.prog X.w) X.A (getItem v (.ref sl)) (EP X pins σ Q) X.xe s
theorem SlR.or {r r' : V → Option Int → Option Int → Hp → VK → Prop} (h : SlR X r) (h' : SlR X r') : SlR X (fun x lo hi H Q => r x lo hi H Q ∨ r' x lo hi H Q) := by
  intro pins s σ H x v vl vu lo hi sl Q I rx hs pl pu q
  rcases q with q | q
  · exact h pins s σ H x v vl vu lo hi sl Q I rx hs pl pu q
  · exact h' pins s σ H x v vl vu lo hi sl Q I rx hs pl pu q
def tSl (r : V → Option Int → Option Int → Hp → VK → Prop) (te : TE) (tl th : TO) : TE := fun σ H Q => te σ H fun x H1 => tl σ H1 fun l H2 => th σ H2 fun u H3 => r x l u H3 Q
theorem pe_slice {r : V → Option Int → Option Int → Hp → VK → Prop} (hr : SlR X r) (he : PE X e te) (hl : PO X lo tl) (hu : PO X hi th) : PE X (.Subscript e (.Slice lo hi none p2) pos) (tSl r te tl th) := by
  intro pins s σ H Q I h
  refine Subscript_ (thn (he pins s σ H _ I h) fun v s1 hq__ => ?_)
  obtain ⟨x, H1, I1, r1, q1⟩ := hq__
  refine wpAny_Slice (thn (hl pins s1 σ H1 _ I1 q1) fun vl s2 ⟨l, H2, I2, pl, q2⟩ => thn (hu pins s2 σ H2 _ I2 q2) fun vu s3 hq__ => ?_)
  obtain ⟨u, H3, I3, pu, q3⟩ := hq__
  rw [evalPart_none]
  refine wpAny_pure ?_
  have I4 : Inv X pins σ H3 { s3 with heap := s3.heap.push { cls := .type "slice", data := .fields #[vl, vu, .none] } } := I3.kept (t' := s3.toks) fun b ob q => Heap.get?_push_of_some _ q
  obtain ⟨T, id, hT, ht, hg⟩ := hr pins { s3 with heap := s3.heap.push { cls := .type "slice", data := .fields #[vl, vu, .none] } } σ H3 x v vl vu l u s3.heap.objs.size Q I4 r1 (Heap.IsSliceOf.new ..) pl pu q3
  show wpAny (model X.prog X.w) X.A (subscriptTail e (.Slice lo hi none p2) v (.ref s3.heap.objs.size)) (EP X pins σ Q) X.xe { s3 with heap := s3.heap.push { cls := .type "slice", data := .fields #[vl, vu, .none] } }
  exact tail_any (ops := [.ref s3.heap.objs.size, v]) ht hT hg (by with_unfolding_all rfl)
def cutV (xs : List V) (lo hi : Option Int) : List V := (xs.drop (HT.sIx xs.length 0 lo)).take (HT.sIx xs.length xs.length hi - HT.sIx xs.length 0 lo)
theorem cutV_length (xs : List V) (lo hi : Option Int) : (cutV xs lo hi).length ≤ xs.length := by
  unfold cutV
  rw [List.length_take, List.length_drop]
  omega
end
end L2
namespace L2
open PySem PySem.Spec PyProof.Rows
def ixN (n : Nat) (i : Int) : Option Nat := if 0 ≤ i then (if i < n then some i.toNat else none) else if -(n : Int) ≤ i then some (i + n).toNat else none
def atI {α : Type} (xs : List α) (i : Int) : Option α := (ixN xs.length i).bind fun j => xs[j]?
theorem ixN_seq {n : Nat} {i : Int} {j : Nat} (h : ixN n i = some j) : seqIndex? i n = some j ∧ j < n ∧ -(n : Int) ≤ i ∧ i < n := by
  unfold ixN at h
  by_cases h0 : 0 ≤ i
  · rw [if_pos h0] at h
    by_cases h1 : i < n
    · rw [if_pos h1] at h
      have e : i.toNat = j := Option.some.inj h
      exact ⟨by rw [seqIndex_of h0 h1, e], by omega, by omega, h1⟩
    · rw [if_neg h1] at h; cases h
  · rw [if_neg h0] at h
    by_cases h1 : -(n : Int) ≤ i
    · rw [if_pos h1] at h
      have e : (i + n).toNat = j := Option.some.inj h
      exact ⟨by rw [seqIndex_neg (by omega) h1, e], by omega, h1, by omega⟩
    · rw [if_neg h1] at h; cases h
theorem atI_get {α : Type} {xs : List α} {i : Int} {v : α} (h : atI xs i = some v) : ∃ j, seqIndex? i xs.length = some j ∧ xs[j]? = some v ∧ j < xs.length ∧ -(xs.length : Int) ≤ i ∧ i < xs.length := by
  unfold atI at h
  cases e : ixN xs.length i with
  | none => rw [e] at h; cases h
  | some j =>
    rw [e] at h
    obtain ⟨h1, h2, h3, h4⟩ := ixN_seq e
    exact ⟨j, h1, h, h2, h3, h4⟩
theorem atI_nat {α : Type} {xs : List α} {j : Nat} {v : α} (h : xs[j]? = some v) : atI xs (j : Int) = some v := by
  have hj : j < xs.length := (List.getElem?_eq_some_iff.mp h).1
  have e : ixN xs.length (j : Int) = some j := by
    unfold ixN
    rw [if_pos (by omega), if_pos (by omega)]; simp
  unfold atI; rw [e]; exact h
def PlainIx (b : Expr) : Prop := ∀ o i, subscripted b false o i = operate [o, i] (getItem o i)
def IxR (X : Cx) (r : R2) : Prop :=
  ∀ (value slice : Expr) (pins : List (Addr × Obj)) (s : Shared) (σ : St) (H : Hp) (x y : V) (v u : Value) (Q : VK), Inv X pins σ H s → RelV x v → RelV y u → r x y H Q →
    subscripted slice false v u = operate [v, u] (getItem v u) → wpAny (model X.prog X.w) X.A (subscriptTail value slice v u) (EP X pins σ Q) X.xe s
def MtR (X : Cx) (id : String) (r : V → List V → Hp → VK → Prop) : Prop :=
  ∀ (pins : List (Addr × Obj)) (s : Shared) (σ : St) (H : Hp) (x : V) (xs : List V) (v : Value) (us : List Value) (Q : VK), Inv X pins σ H s → RelV x v → Vals xs us → r x xs H Q →
    wpAny (model X.prog X.w) X.A (call (.builtin id) (v :: us)) (EP X pins σ Q) X.xe s
section
variable {X : Cx} {a b : Expr} {ta tb : TE} {pos : Pos}
theorem IxR.or {r r' : R2} (h : IxR X r) (h' : IxR X r') : IxR X (fun x y H Q => r x y H Q ∨ r' x y H Q) := by
  intro value slice pins s σ H x y v u Q I rx ry q hs
  rcases q with q | q
  · exact h value slice pins s σ H x y v u Q I rx ry q hs
  · exact h' value slice pins s σ H x y v u Q I rx ry q hs
theorem MtR.or {id : String} {r r' : V → List V → Hp → VK → Prop} (h : MtR X id r) (h' : MtR X id r') : MtR X id (fun x xs H Q => r x xs H Q ∨ r' x xs H Q) := by
  intro pins s σ H x xs v us Q I rx rs q
  rcases q with q | q
  · exact h pins s σ H x xs v us Q I rx rs q
  · exact h' pins s σ H x xs v us Q I rx rs q
theorem pe_ix {r : R2} (hr : IxR X r) (ha : PE X a ta) (hb : PE X b tb) (hs : PlainIx b) : PE X (.Subscript a b pos) (tOp r ta tb) := by
  intro pins s σ H Q I h
  exact Subscript_ (binT ha hb I h fun v u s2 x y H2 I2 rx ry q => hr a b pins s2 σ H2 x y v u Q I2 rx ry q (hs _ _))
inductive rIxLS (K : PySem.W.Frag) (x y : V) (H : Hp) (Q : VK) : Prop
  | mk (p : Addr) (xs : List V) (i : Int) (v : V) (hx : x = .ref p) (hy : y = .int i) (hs : SqL K H p xs) (ha : atI xs i = some v) (k : Q v H)
def rIxL (K : PySem.W.Frag) : R2 := fun x y H Q => rIxLS K x y H Q
inductive rIxTS (K : PySem.W.Frag) (x y : V) (H : Hp) (Q : VK) : Prop
  | mk (p : Addr) (xs : List V) (i : Int) (v : V) (hx : x = .ref p) (hy : y = .int i) (hs : SqT K H p xs) (ha : atI xs i = some v) (k : Q v H)
def rIxT (K : PySem.W.Frag) : R2 := fun x y H Q => rIxTS K x y H Q
theorem ix_list : IxR X (rIxL X.K) := by
  intro value slice pins s σ H x y v u Q I rx ry h hs
  obtain ⟨p, xs, i, z, rfl, rfl, hq, he, q⟩ := h
  cases rx
  obtain ⟨t, rfl⟩ := ry
  obtain ⟨its, r, pl, hz⟩ := I.list hq
  obtain ⟨j, h1, h2, h3, h4, h5⟩ := atI_get he
  obtain ⟨w, ew, rw'⟩ := r.get h2
  have hl := r.length
  have hn := line63
  have fin : EP X pins σ Q w s := ⟨z, H, I, rw', q⟩
  by_cases h0 : 0 ≤ i
  · have hj : i.toNat = j := by
      rw [seqIndex_of h0 h5] at h1
      exact Option.some.inj h1
    exact item_listR pl.isList h0 (by omega) (by rw [hj]; simpa using ew) fin hs
  · have hj : (i + (its.toArray.size : Int)).toNat = j := by
      rw [seqIndex_neg (by omega) h4] at h1
      rw [List.size_toArray, ← hl]
      exact Option.some.inj h1
    exact subscriptTail_builtinR (x := w) pl.isList.typeIs slot_list_getitem.lookup
      (wpAny_getItem_list_neg (Q := fun r s' => r = w ∧ EP X pins σ Q r s') pl.isList (by omega) (by rw [List.size_toArray] <;> omega) (by omega) (by rw [hj]; simpa using ew) ⟨rfl, fin⟩) hs
theorem ix_tup : IxR X (rIxT X.K) := by
  intro value slice pins s σ H x y v u Q I rx ry h hs
  obtain ⟨p, xs, i, z, rfl, rfl, hq, he, q⟩ := h
  cases rx
  obtain ⟨t, rfl⟩ := ry
  obtain ⟨its, r, pl, hz⟩ := I.tuple hq
  obtain ⟨j, h1, h2, h3, h4, h5⟩ := atI_get he
  obtain ⟨w, ew, rw'⟩ := r.get h2
  have hl := r.length
  have hn := line63
  have fin : EP X pins σ Q w s := ⟨z, H, I, rw', q⟩
  exact subscriptTail_builtinR (x := w) pl.typeIs slot_tuple_getitem.lookup
    (getItem_tuple (j := j) (Q := fun r s' => r = w ∧ EP X pins σ Q r s') pl (by omega) (by omega) (by rw [List.size_toArray, ← hl]; exact h1) (by simpa using ew) ⟨rfl, fin⟩) hs
theorem mapSeq_set (its : List Value) (n j : Nat) (u : Value) : Obj.mapSeq (·.setIfInBounds j u) { cls := .type "list", data := .seq its.toArray n } = { cls := .type "list", data := .seq (its.set j u).toArray n } := by
  simp [Obj.mapSeq]
theorem Inv.lst {pins : List (Addr × Obj)} {σ : St} {H : Hp} {s : Shared} {p : Addr} {xs : List V} (I : Inv X pins σ H s) (h : H p = some (.lst xs)) :
    ∃ (its : List Value) (n : Nat), Vals xs its ∧ s.heap.get? p = some { cls := .type "list", data := .seq its.toArray n } ∧ xs.length ≤ sizeLine := by
  obtain ⟨z, its, n, r, e⟩ := I.hok p _ h
  exact ⟨its, n, r, e, z⟩
theorem Inv.lstUpd {pins : List (Addr × Obj)} {σ : St} {H : Hp} {s : Shared} {p : Addr} {xs ys : List V} {its its' : List Value} {n n' : Nat} {f : Obj → Obj} (I : Inv X pins σ H s) (h : H p = some (.lst xs))
    (ho : s.heap.get? p = some { cls := .type "list", data := .seq its.toArray n }) (hf : f { cls := .type "list", data := .seq its.toArray n } = { cls := .type "list", data := .seq its'.toArray n' }) (r : Vals ys its') (hz : ys.length ≤ sizeLine) (t : Nat) :
    Inv X pins σ (upd H p (.lst ys)) { s with heap := s.heap.update p f, toks := t } := by
  have e : (s.heap.update p f).get? p = some { cls := .type "list", data := .seq its'.toArray n' } := by
    rw [Heap.get?_update_self f ho (by rw [hf] <;> rfl), hf]
  refine I.write (x := p) (e := p) (by rw [h]; trivial) (.inl rfl) (fun b u hb q => (Heap.get?_update_other _ _ (Ne.symm hb)).trans q) ⟨_, e⟩ ?_
  exact ⟨hz, its', n', r, e⟩
def rSetL : V → V → V → Hp → (Hp → Prop) → Prop := fun o i v H Q => ∃ p xs k j, o = .ref p ∧ i = .int k ∧ H p = some (.lst xs) ∧ ixN xs.length k = some j ∧ Q (upd H p (.lst (xs.set j v)))
theorem set_list : PSet X rSetL := by
  intro pins s σ H o i v ov iv u Q I ro ri rv h
  obtain ⟨p, xs, k, j, rfl, rfl, hp, hj, q⟩ := h
  cases ro
  obtain ⟨t, rfl⟩ := ri
  obtain ⟨its, n, r, ho, hz⟩ := I.lst hp
  obtain ⟨h1, h2, h3, h4⟩ := ixN_seq hj
  have hl := r.length
  have hn := line63
  have I' : Inv X pins σ (upd H p (.lst (xs.set j v))) { s with heap := s.heap.update p (Obj.mapSeq (·.setIfInBounds j u)) } :=
    I.lstUpd hp ho (mapSeq_set its n j u) (r.set rv j) (by rw [List.length_set]; exact hz) s.toks
  by_cases h0 : 0 ≤ k
  · have hk : k.toNat = j := by
      rw [seqIndex_of h0 h4] at h1
      exact Option.some.inj h1
    exact PySem.W.ki_setAt ho h0 (by omega) (by rw [List.size_toArray, ← hl]; exact h4) (by rw [hk]; exact ⟨_, I', q⟩)
  · have hk : (k + (its.toArray.size : Int)).toNat = j := by
      rw [seqIndex_neg (by omega) h3] at h1
      rw [List.size_toArray, ← hl]
      exact Option.some.inj h1
    exact PySem.W.ki_setBack ho (by omega) (by rw [List.size_toArray, ← hl]; exact h3) (by omega) (by rw [hk]; exact ⟨_, I', q⟩)
theorem slice_bounds (lo hi : Option Int) (n : Nat) : (sliceBounds lo hi none n).1 = ((HT.sIx n 0 lo : Nat) : Int) ∧ (sliceBounds lo hi none n).2.1 = ((HT.sIx n n hi : Nat) : Int) ∧ (sliceBounds lo hi none n).2.2 = 1 := by
  refine ⟨?_, ?_, rfl⟩
  · cases lo with
    | none => simp [sliceBounds, HT.sIx]
    | some i =>
      simp only [sliceBounds, HT.sIx, Option.getD_none, show (1 : Int) > 0 by decide, if_true]
      by_cases h : i < 0
      · simp only [h, if_true] <;> omega
      · simp only [h, if_false] <;> omega
  · cases hi with
    | none => simp [sliceBounds, HT.sIx]
    | some i =>
      simp only [sliceBounds, HT.sIx, Option.getD_none, show (1 : Int) > 0 by decide, if_true]
      by_cases h : i < 0
      · simp only [h, if_true] <;> omega
      · simp only [h, if_false] <;> omega
theorem slicePick_cut (its : List Value) (lo hi : Option Int) : slicePick its.toArray lo hi none = ((its.drop (HT.sIx its.length 0 lo)).take (HT.sIx its.length its.length hi - HT.sIx its.length 0 lo)).toArray := by
  obtain ⟨h1, h2, h3⟩ := slice_bounds lo hi its.toArray.size
  unfold slicePick
  rw [h1, h2, h3]
  simp only [sliceRange_one, pick_run, List.size_toArray] <;> rfl
def rSlL (K : PySem.W.Frag) : V → Option Int → Option Int → Hp → VK → Prop := fun x lo hi H Q => ∃ a xs, x = .ref a ∧ SqL K H a xs ∧ ∀ p, H p = none → Q (.ref p) (upd H p (.lst (cutV xs lo hi)))
theorem sl_list : SlR X (rSlL X.K) := by
  intro pins s σ H x v vl vu lo hi sl Q I rx hs pl pu h
  obtain ⟨a, xs, rfl, hx, q⟩ := h
  cases rx
  obtain ⟨its, r, ht, hz⟩ := I.list hx
  have hlen := r.length
  refine ⟨"list", _, slot_list_getitem.lookup, ht.isList.typeIs, ?_⟩
  refine wpAny_getItem_list_slice ht.isList hs pl pu .none (by simp) ?_ (by rw [List.size_toArray] <;> omega)
  rw [slicePick_cut, ← hlen]
  refine ⟨.ref s.heap.objs.size, _, I.laid (t' := s.toks) (o := .lst (cutV xs lo hi)) (fun b ob q => Heap.get?_push_of_some _ q) (Nat.le_refl _) ?_, rfl, q _ (I.hok.fresh (Nat.le_refl _))⟩
  exact ⟨Nat.le_trans (cutV_length xs lo hi) hz, _, 0, (r.drop (HT.sIx xs.length 0 lo)).take (HT.sIx xs.length xs.length hi - HT.sIx xs.length 0 lo), Heap.get?_push_size _ rfl⟩
theorem call_len_seq : CallR X (.builtin "len") (fun xs H Q => ∃ p ys, xs = [.ref p] ∧ (SqL X.K H p ys ∨ SqT X.K H p ys) ∧ Q (.int ys.length) H) := by
  intro pins s σ H xs us Q I r h
  obtain ⟨p, ys, rfl, hq, q⟩ := h
  obtain ⟨u, rfl, rx⟩ := vals1 r
  cases rx
  have hn := line63
  rcases hq with hq | hq
  · obtain ⟨its, r', pl, hz⟩ := I.list hq
    have hlen := r'.length
    exact Calls.call_len_list pl.isList (by simp only [List.size_toArray] <;> omega) ⟨.int ys.length, H, I.tok _, ⟨s.toks + 1, by rw [List.size_toArray, hlen]⟩, q⟩
  · obtain ⟨its, r', pl, hz⟩ := I.tuple hq
    have hlen := r'.length
    exact len_tuple pl (by simp only [List.size_toArray] <;> omega) ⟨.int ys.length, H, I.tok _, ⟨s.toks + 1, by rw [List.size_toArray, hlen]⟩, q⟩
theorem CallR.or {f : Value} {r r' : List V → Hp → VK → Prop} (h : CallR X f r) (h' : CallR X f r') : CallR X f (fun xs H Q => r xs H Q ∨ r' xs H Q) := by
  intro pins s σ H xs us Q I rs q
  rcases q with q | q
  · exact h pins s σ H xs us Q I rs q
  · exact h' pins s σ H xs us Q I rs q
theorem call_list_of : CallR X (.type "list") (fun xs H Q => ∃ p ys, xs = [.ref p] ∧ (SqL X.K H p ys ∨ SqT X.K H p ys) ∧ ∀ l, H l = none → Q (.ref l) (upd H l (.lst ys))) := by
  intro pins s σ H xs us Q I r h
  obtain ⟨p, ys, rfl, hq, q⟩ := h
  obtain ⟨u, rfl, rx⟩ := vals1 r
  cases rx
  have fin : ∀ (its : List Value), Vals ys its → ys.length ≤ sizeLine → ∀ (h' : Heap) (c' : Nat), (∀ b o', s.heap.get? b = some o' → h'.get? b = some o') →
      h'.get? s.heap.objs.size = some { cls := .type "list", dict := none, data := .seq its.toArray c', slots := #[] } → EP X pins σ Q (.ref s.heap.objs.size) { s with heap := h' } := fun its r' hz h' c' kp e =>
    ⟨.ref s.heap.objs.size, _, I.laid (t' := s.toks) kp (Nat.le_refl _) (show ObjOk X.prog X.w _ h' _ (.lst ys) from ⟨hz, its, c', r', e⟩), rfl, q _ (I.hok.fresh (Nat.le_refl _))⟩
  rcases hq with hq | hq
  · obtain ⟨its, r', pl, hz⟩ := I.list hq
    have hlen := r'.length
    obtain ⟨o, ho, hc, n, hd⟩ := pl.isList
    exact call_list_seq p (.inl rfl) ho hc hd (fun h' c' kp e => fin its r' hz h' c' kp e) (by simp only [List.size_toArray] <;> omega)
  · obtain ⟨its, r', pl, hz⟩ := I.tuple hq
    have hlen := r'.length
    obtain ⟨o, ho, hc, n, hd⟩ := pl
    exact call_list_seq p (.inr rfl) ho hc hd (fun h' c' kp e => fin its r' hz h' c' kp e) (by simp only [List.size_toArray] <;> omega)
theorem call_tuple_of : CallR X (.type "tuple") (fun xs H Q => ∃ p ys, xs = [.ref p] ∧ ((SqL X.K H p ys ∧ ∀ l, H l = none → Q (.ref l) (upd H l (.tup ys))) ∨ (SqT X.K H p ys ∧ Q (.ref p) H))) := by
  intro pins s σ H xs us Q I r h
  obtain ⟨p, ys, rfl, h⟩ := h
  obtain ⟨u, rfl, rx⟩ := vals1 r
  cases rx
  rcases h with ⟨hq, q⟩ | ⟨hq, q⟩
  · obtain ⟨its, r', pl, hz⟩ := I.list hq
    have hlen := r'.length
    refine call_tuple_list pl.isList (fun h' kp => ?_) (by simp only [List.size_toArray] <;> omega)
    have I1 : Inv X pins σ H { s with heap := h' } := I.kept (t' := s.toks) kp
    have I2 : Inv X pins σ (upd H h'.objs.size (.tup ys)) { s with heap := h'.push { cls := .type "tuple", data := .seq its.toArray } } :=
      I1.laid (t' := s.toks) (fun b o e => Heap.get?_push_of_some _ e) (Nat.le_refl _) (show ObjOk X.prog X.w _ _ _ (.tup ys) from ⟨hz, its, r', IsTup.new _ _⟩)
    exact ⟨.ref h'.objs.size, _, I2, rfl, q _ (I1.hok.fresh (Nat.le_refl _))⟩
  · obtain ⟨its, r', pl, hz⟩ := I.tuple hq
    exact call_tuple_same pl ⟨.ref p, H, I, rfl, q⟩
def tyV (K : PySem.W.Frag) (T : String) (x : V) (H : Hp) : Prop := match x with
  | .str _ => T = "str"
  | .int _ => T = "int"
  | .ref p => (T = "list" ∧ ∃ xs, SqL K H p xs) ∨ (T = "tuple" ∧ ∃ o, K.lookup p = some o ∧ o.cls = .type "tuple" ∧ o.dict = none) ∨
      (T = "dict" ∧ ((∃ kvs, H p = some (.dK kvs)) ∨ ∃ kvs, H p = some (.dT kvs))) ∨ (T = "set" ∧ ∃ S n, H p = some (.set S n))
  | _ => False
theorem tyV_is {pins : List (Addr × Obj)} {σ : St} {H : Hp} {s : Shared} {T : String} {x : V} {v : Value} (I : Inv X pins σ H s) (r : RelV x v) (ty : tyV X.K T x H) :
    s.TypeIs v T ∧ ∀ a, v = .ref a → ∃ ob, s.heap.get? a = some ob ∧ ob.dict = none := by
  cases x with
  | str z =>
    obtain ⟨t, rfl⟩ := r
    cases (show T = "str" from ty)
    exact ⟨typeIs_str s z t, fun _ e => nomatch e⟩
  | int i =>
    obtain ⟨t, rfl⟩ := r
    cases (show T = "int" from ty)
    exact ⟨typeIs_int s i t, fun _ e => nomatch e⟩
  | ref p =>
    cases r
    rcases ty with ⟨rfl, xs, hq⟩ | ⟨rfl, o, hk, hc, hd⟩ | ⟨rfl, hk⟩ | ⟨rfl, S, n, hk⟩
    · obtain ⟨its, _, pl, _⟩ := I.list hq
      refine ⟨pl.isList.typeIs, fun a e => ?_⟩
      cases e
      obtain ⟨o, n, e, c, hd, _⟩ := pl
      exact ⟨o, e, hd⟩
    · refine ⟨⟨o, I.kIn p o hk, hc⟩, fun a e => ?_⟩
      cases e
      exact ⟨o, I.kIn _ o hk, hd⟩
    · have z : ∃ o, s.heap.get? p = some o ∧ o.ExactDict := by
        rcases hk with ⟨kvs, hk⟩ | ⟨kvs, hk⟩
        · obtain ⟨_, _, _, _, o, _, _, e, ex, _⟩ := I.hok p _ hk
          exact ⟨o, e, ex⟩
        · obtain ⟨_, _, _, _, o, _, _, e, ex, _⟩ := I.hok p _ hk
          exact ⟨o, e, ex⟩
      obtain ⟨o, e, ex⟩ := z
      refine ⟨⟨o, e, ex.1⟩, fun a e2 => ?_⟩
      cases e2
      exact ⟨o, e, ex.2.1⟩
    · obtain ⟨o, _, _, _, e, ex, _⟩ := I.hok p _ hk
      refine ⟨⟨o, e, ex.1⟩, fun a e2 => ?_⟩
      cases e2
      exact ⟨o, e, ex.2.1⟩
  | _ => exact False.elim ty
def tBM (K : PySem.W.Frag) (T : String) (r : V → List V → Hp → VK → Prop) (to : TE) (t : TA) : TE := fun σ H Q => to σ H fun x H1 => tyV K T x H1 ∧ t σ H1 fun xs H2 => r x xs H2 Q
variable {o e : Expr} {es : List Expr} {to : TE} {t : TA} {name : Str} {apos cpos : Pos} {T id : String} {r : V → List V → Hp → VK → Prop}
theorem pe_bm (pa : PlainAttrs T) (slot : Slot T name id) (hty : typeOf (.builtin id) = pure (.type "method_descriptor")) (hm : MtR X id r) (ho : PE X o to) (ha : PA X (e :: es) t)
    (hbase : attributeBase o name X.env (eval o X.env) = eval o X.env := by rfl)
    (hfew : ((backTo cpos (starEach (e :: es) X.env)).all (fun x => !x.1) && (backToKw cpos (keywordEach [] X.env)).all (fun x => x.1.isSome)
      && decide ((e :: es).length + ([] : List Keyword).length + (if ([] : List Keyword).isEmpty then 0 else 1) < 30)) = true := by rfl)
    (hline : (apos.endLine == cpos.line) = true := by rfl) (hs : starEach (e :: es) X.env = (false, eval e X.env) :: starEach es X.env := by rfl) (hplain : (backTo cpos (starEach es X.env)).any (·.1) = false := by rfl) :
    PE X (.Call (.Attribute o name apos) (e :: es) [] cpos) (tBM X.K T r to t) := by
  intro pins s σ H Q I h
  refine wpAny_Call_method_late hbase hfew hline rfl (thn (ho pins s σ H _ I h) fun v s1 hq__ => ?_)
  obtain ⟨x, H1, I1, r1, ty, q1⟩ := hq__
  obtain ⟨h1, h2⟩ := tyV_is I1 r1 ty
  refine ⟨T, id, pa, slot, hty, h1, h2, ?_⟩
  have hA := ha cpos pins s1 σ H1 _ I1 q1
  rw [hs] at hA ⊢
  refine Calls.callWith_builtin (by show (false || (backTo cpos (starEach es X.env)).any (·.1)) = false; rw [hplain] <;> rfl) (Calls.evalArgs_plain ?_)
  exact thn hA fun us s2 ⟨vs, H2, I2, r2, q2⟩ => hm pins s2 σ H2 x vs v us Q I2 r1 r2 q2
end
end L2
namespace L2
open PySem PySem.Spec PyProof.Rows
def MtM (X : Cx) (id : String) (r : V → List V → Hp → VK → Prop) : Prop :=
  ∀ (pins : List (Addr × Obj)) (s : Shared) (σ : St) (H : Hp) (x : V) (xs : List V) (v : Value) (us : List Value) (Q : VK), Inv X pins σ H s → RelV x v → Vals xs us → r x xs H Q →
    wpAny (model X.prog X.w) X.A (call (.builtin id) (v :: us)) (EP X pins σ Q) X.xe s
theorem Vals.one : ∀ {x : V} {us : List Value}, Vals [x] us → ∃ u, us = [u] ∧ RelV x u
  | _, _, .cons r .nil => ⟨_, rfl, r⟩
theorem Vals.two : ∀ {x y : V} {us : List Value}, Vals [x, y] us → ∃ u v, us = [u, v] ∧ RelV x u ∧ RelV y v
  | _, _, _, .cons r (.cons q .nil) => ⟨_, _, rfl, r, q⟩
theorem Vals.zero : ∀ {us : List Value}, Vals [] us → us = []
  | _, .nil => rfl
theorem Vals.dropLast {xs : List V} {us : List Value} (h : Vals xs us) : Vals xs.dropLast us.dropLast := by
  induction h with
  | nil => exact .nil
  | cons r t ih =>
    cases t with
    | nil => exact .nil
    | cons q t' => exact .cons r ih
theorem Vals.rep {xs : List V} {us : List Value} (h : Vals xs us) : ∀ k : Nat, Vals (List.replicate k xs).flatten (List.replicate k us).flatten
  | 0 => .nil
  | k + 1 => by
    rw [List.replicate_succ, List.replicate_succ, List.flatten_cons, List.flatten_cons]
    exact Vals.append h (Vals.rep h k)
theorem foldl_rep (its : List Value) : ∀ (k : Nat) (acc : List Value),
    List.foldl (fun x1 x2 => x1 ++ x2) acc.toArray (List.replicate k its.toArray) = (acc ++ (List.replicate k its).flatten).toArray
  | 0, acc => by simp
  | k + 1, acc => by
    have e : acc.toArray ++ its.toArray = (acc ++ its).toArray := by simp
    have e2 : (acc ++ its) ++ (List.replicate k its).flatten = acc ++ (List.replicate (k + 1) its).flatten := by
      rw [List.replicate_succ, List.flatten_cons, List.append_assoc]
    rw [← e2, ← foldl_rep its k (acc ++ its), ← e, List.replicate_succ, List.foldl_cons]
section
variable {X : Cx} {pins : List (Addr × Obj)} {σ : St} {H : Hp} {s : Shared} {l b : Addr} {xs ys zs : List V}
theorem Inv.lset {its its' : List Value} {n : Nat} {f : Array Value → Array Value} {t' : Nat} (I : Inv X pins σ H s) (hH : H l = some (.lst xs))
    (e : s.heap.get? l = some { cls := .type "list", data := .seq its.toArray n }) (hf : f its.toArray = its'.toArray) (hv : Vals ys its') (hz : ys.length ≤ sizeLine) :
    Inv X pins σ (upd H l (.lst ys)) { s with heap := s.heap.update l (Obj.mapSeq f), toks := t' } := by
  have q := PySem.IsL.update e f
  rw [hf] at q
  refine I.write (x := l) (e := l) (by rw [hH]; exact trivial) (.inl rfl) (fun b' u hb hu => (Heap.get?_update_other s.heap (Obj.mapSeq f) (Ne.symm hb)).trans hu) ⟨_, q⟩ ?_
  exact ⟨hz, its', _, hv, q⟩
theorem Inv.lnew {its : List Value} {t' : Nat} (I : Inv X pins σ H s) (hv : Vals ys its) (hz : ys.length ≤ sizeLine) :
    Inv X pins σ (upd H s.heap.objs.size (.lst ys)) { s with heap := s.heap.push { cls := .type "list", data := .seq its.toArray }, toks := t' } :=
  I.laid (fun _ _ q => Heap.get?_push_of_some _ q) (Nat.le_refl _) ⟨hz, its, 0, hv, Heap.get?_push_size _ rfl⟩
theorem Inv.fresh (I : Inv X pins σ H s) : H s.heap.objs.size = none := I.hok.fresh (Nat.le_refl _)
theorem Inv.lstM (I : Inv X pins σ H s) (hH : H l = some (.lst xs)) : xs.length ≤ sizeLine ∧ ∃ (its : List Value) (n : Nat), Vals xs its ∧ xs.length = its.length ∧ s.heap.get? l = some { cls := .type "list", data := .seq its.toArray n } := by
  obtain ⟨z, its, n, r, e⟩ := I.hok l _ hH
  exact ⟨z, its, n, r, r.length, e⟩
theorem notLongL {n : Nat} (h : n ≤ sizeLine) : Builtin.List.listTooLong n = false := by
  unfold Builtin.List.listTooLong
  exact decide_eq_false (by omega)
end
section
variable {X : Cx}
def rAppend : V → List V → Hp → VK → Prop := fun x vs H Q => ∃ l xs y, x = .ref l ∧ vs = [y] ∧ H l = some (.lst xs) ∧ xs.length < sizeLine ∧ Q .non (upd H l (.lst (xs ++ [y])))
theorem mt_append : MtM X "list.append" rAppend := by
  intro pins s σ H x vs v us Q I rx rv h
  obtain ⟨l, xs, y, rfl, rfl, hH, hz, q⟩ := h
  cases rx
  obtain ⟨u, rfl, ru⟩ := rv.one
  obtain ⟨z, its, n, r, hl, e⟩ := I.lstM hH
  refine call_meets F.slot_list_append ⟨_, e, rfl⟩ F.entry_list_append (F.args_list_append_2 _ _) (PySem.list_append l its.toArray n u (by rw [List.size_toArray]; omega)) ⟨e, ?_⟩
  refine ⟨.non, _, I.lset (its' := its ++ [u]) hH e (by simp) (r.append (.cons ru .nil)) ?_, rfl, q⟩
  rw [List.length_append, List.length_singleton]
  omega
def rExtend : V → List V → Hp → VK → Prop := fun x vs H Q => ∃ l b xs zs, x = .ref l ∧ vs = [.ref b] ∧ H l = some (.lst xs) ∧ H b = some (.lst zs) ∧ xs.length + zs.length ≤ sizeLine ∧ Q .non (upd H l (.lst (xs ++ zs)))
theorem mt_extend : MtM X "list.extend" rExtend := by
  intro pins s σ H x vs v us Q I rx rv h
  obtain ⟨l, b, xs, zs, rfl, rfl, hH, hB, hz, q⟩ := h
  cases rx
  obtain ⟨u, rfl, ru⟩ := rv.one
  cases ru
  obtain ⟨z, its, n, r, hl, e⟩ := I.lstM hH
  obtain ⟨z2, its2, n2, r2, hl2, e2⟩ := I.lstM hB
  have hsz : its.toArray.size + its2.toArray.size ≤ sizeLine := by rw [List.size_toArray, List.size_toArray]; omega
  have hlong : ¬ (!its.toArray.isEmpty && Builtin.List.listTooLong (its.toArray.size + its2.toArray.size)) = true := by
    rw [notLongL hsz, Bool.and_false]
    exact Bool.false_ne_true
  refine call_meets F.slot_list_extend ⟨_, e, rfl⟩ F.entry_list_extend (F.args_list_extend_2 _ _)
    (AutoSeq1.list_extend_list_list_0 l its.toArray n b its2.toArray n2 hlong (by rw [List.size_toArray]; omega) (by omega)) ⟨e, e2, ?_⟩
  refine ⟨.non, _, I.lset (its' := its ++ its2) hH e (by simp) (r.append r2) ?_, rfl, q⟩
  rw [List.length_append]
  omega
def rCat : R2 := fun x y H Q => ∃ l b xs zs, x = .ref l ∧ y = .ref b ∧ H l = some (.lst xs) ∧ H b = some (.lst zs) ∧ xs.length + zs.length ≤ sizeLine ∧ ∀ p, H p = none → Q (.ref p) (upd H p (.lst (xs ++ zs)))
theorem op_cat : OpR X (binaryOp .Add) rCat := by
  intro pins s σ H x y v u Q I rx ry h
  obtain ⟨l, b, xs, zs, rfl, rfl, hH, hB, hz, q⟩ := h
  cases rx
  cases ry
  obtain ⟨z, its, n, r, hl, e⟩ := I.lstM hH
  obtain ⟨z2, its2, n2, r2, hl2, e2⟩ := I.lstM hB
  refine PySem.P.add_list e e2 ?_ (by rw [List.size_toArray, List.size_toArray]; omega)
  have ea : its.toArray ++ its2.toArray = (its ++ its2).toArray := by simp
  rw [ea]
  exact ⟨.ref _, _, I.lnew (t' := s.toks) (r.append r2) (by rw [List.length_append]; omega), rfl, q _ I.fresh⟩
def rRep : R2 := fun x y H Q => ∃ l k xs, x = .ref l ∧ y = .int k ∧ H l = some (.lst xs) ∧ -(2 ^ 63) ≤ k ∧ k < 2 ^ 63 ∧ xs.length * k.toNat ≤ sizeLine ∧
  ∀ p, H p = none → Q (.ref p) (upd H p (.lst (List.replicate k.toNat xs).flatten))
theorem len_rep {α : Type} (xs : List α) (k : Nat) : (List.replicate k xs).flatten.length = k * xs.length := by
  induction k with
  | zero => simp
  | succ k ih => rw [List.replicate_succ, List.flatten_cons, List.length_append, ih, Nat.succ_mul, Nat.add_comm]
theorem op_rep : OpR X (binaryOp .Mult) rRep := by
  intro pins s σ H x y v u Q I rx ry h
  obtain ⟨l, k, xs, rfl, rfl, hH, h1, h2, hz, q⟩ := h
  cases rx
  obtain ⟨t, rfl⟩ := ry
  obtain ⟨z, its, n, r, hl, e⟩ := I.lstM hH
  have hlen : its.toArray.size * k.toNat ≤ sizeLine := by rw [List.size_toArray, ← hl]; exact hz
  have hcap : ¬ its.toArray.size * k.toNat > (2 ^ 63 - 1) / 8 := by
    have : (sizeLine : Nat) ≤ (2 ^ 63 - 1) / 8 := by decide
    omega
  have hfit : ¬ (!Builtin.List.listFitsIndex k) = true := by
    rw [fitsIndex_both h1 h2]
    exact Bool.false_ne_true
  have hlong : ¬ Builtin.List.listTooLong (its.toArray.size * k.toNat) = true := by
    rw [notLongL hlen]
    exact Bool.false_ne_true
  have hnew : List.foldl (fun x1 x2 => x1 ++ x2) #[] (List.replicate (if its.toArray.isEmpty = true then 0 else k.toNat) its.toArray) = (List.replicate k.toNat its).flatten.toArray := by
    have f0 : ∀ m : Nat, List.foldl (fun x1 x2 => x1 ++ x2) #[] (List.replicate m its.toArray) = (List.replicate m its).flatten.toArray := fun m => by
      have := foldl_rep its m []
      rw [List.nil_append] at this
      exact this
    rw [f0]
    cases its with
    | nil => simp
    | cons a r' => rw [if_neg (by simp)]
  refine wpAny_binaryOp_repeat_ref (T := "list") (U := "int") (by decide) ⟨_, e, rfl⟩ (fun s' => typeIs_int s' k t) noFill_list_mul F.fills_int_mul F.slot_int_rmul repeat_list F.slot_int_index.lookup
    (call_meets F.slot_int_rmul (typeIs_int s k t) F.entry_int_rmul (F.args_int_rmul_2 _ _) (int___rmul___int_list k t l its.toArray n)
      ⟨e, rfl, ⟨_, e, rfl⟩, call_meets F.slot_list_mul ⟨_, e, rfl⟩ F.entry_list_mul (F.args_list_mul_2 _ _) (AutoListH.list___mul___list_int_3 l its.toArray n k t hfit hcap hlong) ⟨e, ?_⟩⟩)
  rw [hnew]
  exact ⟨.ref _, _, I.lnew (t' := s.toks) (r.rep k.toNat) (by rw [len_rep, Nat.mul_comm]; exact hz), rfl, q _ I.fresh⟩
end
section
variable {prog : Program} {w : World} {A : Around} {E : Value → Shared → Prop} {s : Shared}
end
section
variable {X : Cx}
end
end L2
namespace L2
open PySem PySem.Spec PyProof.Rows
section
variable {κ : Type} [DecidableEq κ]
def valV (kvs : List (κ × V)) (k : κ) : Option V := (kvs.find? fun kv => decide (kv.1 = k)).map (·.2)
def putK (kvs : List (κ × V)) (k : κ) (v : V) : List (κ × V) :=
  if (kvs.any fun kv => decide (kv.1 = k)) = true then kvs.map (fun kv => if kv.1 = k then (kv.1, v) else kv) else kvs ++ [(k, v)]
def dropK (kvs : List (κ × V)) (k : κ) : List (κ × V) := kvs.filter fun kv => decide (kv.1 ≠ k)
theorem valV_pos {p : κ × V} {r : List (κ × V)} {k : κ} (e : p.1 = k) : valV (p :: r) k = some p.2 := by simp [valV, List.find?_cons, e]
theorem valV_neg {p : κ × V} {r : List (κ × V)} {k : κ} (e : ¬ p.1 = k) : valV (p :: r) k = valV r k := by simp [valV, List.find?_cons, e]
theorem valV_any (k : κ) : ∀ kvs : List (κ × V), (kvs.any fun kv => decide (kv.1 = k)) = (valV kvs k).isSome
  | [] => rfl
  | p :: r => by
    rw [List.any_cons]
    by_cases e : p.1 = k
    · simp only [valV_pos e, decide_eq_true e, Bool.true_or, Option.isSome_some]
    · rw [valV_neg e, decide_eq_false e, Bool.false_or]; exact valV_any k r
theorem RelO.isSome_eq {o : Option V} {u : Option Value} (r : RelO o u) : o.isSome = u.isSome := by
  cases o with
  | none => cases u with
    | none => rfl
    | some _ => exact (show False from r).elim
  | some _ => cases u with
    | none => exact (show False from r).elim
    | some _ => rfl
theorem RelO.getD {o : Option V} {u : Option Value} {d : V} {d' : Value} (r : RelO o u) (rd : RelV d d') : RelV (o.getD d) (u.getD d') := by
  cases o with
  | none => cases u with
    | none => exact rd
    | some _ => exact (show False from r).elim
  | some _ => cases u with
    | none => exact (show False from r).elim
    | some _ => exact r
theorem KV.val {kvs : List (κ × V)} {vs : List (κ × Value)} (r : KV kvs vs) (k : κ) : RelO (valV kvs k) (valueAt vs k) := by
  unfold KV at r
  induction r with
  | nil => exact True.intro
  | @cons p q ps qs h t ih =>
    obtain ⟨h1, h2⟩ := h
    by_cases e : p.1 = k
    · have e' : q.1 = k := h1.symm.trans e
      have b : valueAt (q :: qs) k = some q.2 := by simp [valueAt, List.find?_cons, e']
      rw [valV_pos e, b]; exact h2
    · have e' : ¬ q.1 = k := fun z => e (h1.trans z)
      have b : valueAt (q :: qs) k = valueAt qs k := by simp [valueAt, List.find?_cons, e']
      rw [valV_neg e, b]; exact ih
theorem KV.any {kvs : List (κ × V)} {vs : List (κ × Value)} (r : KV kvs vs) (k : κ) : (kvs.any fun kv => decide (kv.1 = k)) = vs.any fun kv => decide (kv.1 = k) := by
  unfold KV at r
  induction r with
  | nil => rfl
  | cons h t ih => rw [List.any_cons, List.any_cons, ih, h.1]
theorem KV.repl {kvs : List (κ × V)} {vs : List (κ × Value)} (r : KV kvs vs) (k : κ) {y : V} {u : Value} (ry : RelV y u) :
    KV (kvs.map fun kv => if kv.1 = k then (kv.1, y) else kv) (vs.map fun kv => if kv.1 = k then (kv.1, u) else kv) := by
  unfold KV at r ⊢
  induction r with
  | nil => exact .nil
  | @cons p q ps qs h t ih =>
    rw [List.map_cons, List.map_cons]
    refine .cons ?_ ih
    obtain ⟨h1, h2⟩ := h
    by_cases e : p.1 = k
    · rw [if_pos e, if_pos (h1.symm.trans e)]; exact ⟨h1, ry⟩
    · rw [if_neg e, if_neg (fun z => e (h1.trans z))]; exact ⟨h1, h2⟩
theorem KV.put {kvs : List (κ × V)} {vs : List (κ × Value)} (r : KV kvs vs) (k : κ) {y : V} {u : Value} (ry : RelV y u) : KV (putK kvs k y) (stored vs k u) := by
  unfold putK stored
  rw [r.any k]
  by_cases e : (vs.any fun kv => decide (kv.1 = k)) = true
  · rw [if_pos e, if_pos e]; exact r.repl k ry
  · rw [if_neg e, if_neg e]; exact Paired.snoc r ⟨rfl, ry⟩
theorem KV.drop {kvs : List (κ × V)} {vs : List (κ × Value)} (r : KV kvs vs) (k : κ) : KV (dropK kvs k) (without vs k) := by
  unfold KV at r ⊢
  unfold dropK without
  induction r with
  | nil => exact .nil
  | @cons p q ps qs h t ih =>
    obtain ⟨h1, h2⟩ := h
    rw [List.filter_cons, List.filter_cons]
    by_cases e : p.1 = k
    · have a : ¬ decide (p.1 ≠ k) = true := by simp [e]
      have b : ¬ decide (q.1 ≠ k) = true := by simp [h1.symm.trans e]
      rw [if_neg a, if_neg b]; exact ih
    · have e' : ¬ q.1 = k := fun z => e (h1.trans z)
      have a : decide (p.1 ≠ k) = true := by simp [e]
      have b : decide (q.1 ≠ k) = true := by simp [e']
      rw [if_pos a, if_pos b]; exact .cons ⟨h1, h2⟩ ih
theorem KV.keys {kvs : List (κ × V)} {vs : List (κ × Value)} (r : KV kvs vs) : kvs.map (·.1) = vs.map (·.1) := by
  unfold KV at r
  induction r with
  | nil => rfl
  | cons h t ih => rw [List.map_cons, List.map_cons, ih, h.1]
theorem KV.length {kvs : List (κ × V)} {vs : List (κ × Value)} (r : KV kvs vs) : kvs.length = vs.length := Paired.length r
end
abbrev KT (H : Hp) : List (List Key × V) → List (List Key × Addr × Value) → Prop := Paired fun p q => p.1 = q.1 ∧ H q.2.1 = some (.tup (p.1.map kV)) ∧ RelV p.2 q.2.2
theorem KT.val {H : Hp} {kvs : List (List Key × V)} {xs : List (List Key × Addr × Value)} (r : KT H kvs xs) (k : List Key) : RelO (valV kvs k) ((atKey xs k).map (·.2)) := by
  induction r with
  | nil => exact True.intro
  | @cons p q ps qs h t ih =>
    obtain ⟨h1, _, h2⟩ := h
    by_cases e : p.1 = k
    · have e' : q.1 = k := h1.symm.trans e
      have b : atKey (q :: qs) k = some q.2 := by simp [atKey, List.find?_cons, e']
      rw [valV_pos e, b]; exact h2
    · have e' : ¬ q.1 = k := fun z => e (h1.trans z)
      have b : atKey (q :: qs) k = atKey qs k := by simp [atKey, List.find?_cons, e']
      rw [valV_neg e, b]; exact ih
theorem KT.repl {H : Hp} {kvs : List (List Key × V)} {xs : List (List Key × Addr × Value)} (r : KT H kvs xs) (k : List Key) {y : V} {u : Value} (ry : RelV y u) :
    KT H (kvs.map fun kv => if kv.1 = k then (kv.1, y) else kv) (xs.map (putAt k u)) := by
  induction r with
  | nil => exact .nil
  | @cons p q ps qs h t ih =>
    rw [List.map_cons, List.map_cons]
    refine .cons ?_ ih
    obtain ⟨h1, h2, h3⟩ := h
    unfold putAt
    by_cases e : p.1 = k
    · rw [if_pos e, if_pos (h1.symm.trans e)]; exact ⟨h1, h2, ry⟩
    · rw [if_neg e, if_neg (fun z => e (h1.trans z))]; exact ⟨h1, h2, h3⟩
theorem KT.put {H : Hp} {kvs : List (List Key × V)} {xs : List (List Key × Addr × Value)} (r : KT H kvs xs) (k : List Key) {b : Addr} {y : V} {u : Value} (hb : H b = some (.tup (k.map kV))) (ry : RelV y u) :
    KT H (putK kvs k y) (storedH xs k b u) := by
  have e : (kvs.any fun kv => decide (kv.1 = k)) = (atKey xs k).isSome := by
    rw [valV_any, (r.val k).isSome_eq, Option.isSome_map]
  unfold putK storedH
  rw [e]
  by_cases q : (atKey xs k).isSome = true
  · rw [if_pos q, if_pos q]; exact r.repl k ry
  · rw [if_neg q, if_neg q]; exact Paired.snoc r ⟨rfl, hb, ry⟩
theorem KT.keeps {H H' : Hp} {kvs : List (List Key × V)} {xs : List (List Key × Addr × Value)} (r : KT H kvs xs) (ht : ∀ b ys, H b = some (.tup ys) → H' b = some (.tup ys)) : KT H' kvs xs :=
  Paired.mapP r fun _ _ z => ⟨z.1, ht _ _ z.2.1, z.2.2⟩
section
variable {P : Program} {w : World} {H : Hp} {h : Heap} {a : Addr}
end
def DGet (H : Hp) (a : Addr) (y : V) (r : Option V) : Prop :=
  (∃ kvs k, Rd H a (.dK kvs) ∧ y = kV k ∧ r = valV kvs k) ∨ ∃ kvs k b, Rd H a (.dT kvs) ∧ y = .ref b ∧ H b = some (.tup (k.map kV)) ∧ r = valV kvs k
def DPut (H : Hp) (a : Addr) (y v : V) (H' : Hp) : Prop :=
  (∃ kvs k, H a = some (.dK kvs) ∧ y = kV k ∧ kvs.length < sizeLine ∧ H' = upd H a (.dK (putK kvs k v))) ∨
  ∃ kvs k b, H a = some (.dT kvs) ∧ y = .ref b ∧ H b = some (.tup (k.map kV)) ∧ kvs.length < sizeLine ∧ H' = upd H a (.dT (putK kvs k v))
theorem DGet.k {H : Hp} {a : Addr} {kvs : List (Key × V)} {k : Key} (e : H a = some (.dK kvs)) : DGet H a (kV k) (valV kvs k) := .inl ⟨kvs, k, .inl e, rfl, rfl⟩
theorem DGet.t {H : Hp} {a b : Addr} {kvs : List (List Key × V)} {k : List Key} (e : H a = some (.dT kvs)) (eb : H b = some (.tup (k.map kV))) : DGet H a (.ref b) (valV kvs k) := .inr ⟨kvs, k, b, .inl e, rfl, eb, rfl⟩
theorem DPut.k {H : Hp} {a : Addr} {kvs : List (Key × V)} {k : Key} {v : V} (e : H a = some (.dK kvs)) (hl : kvs.length < sizeLine) : DPut H a (kV k) v (upd H a (.dK (putK kvs k v))) := .inl ⟨kvs, k, e, rfl, hl, rfl⟩
theorem DPut.t {H : Hp} {a b : Addr} {kvs : List (List Key × V)} {k : List Key} {v : V} (e : H a = some (.dT kvs)) (eb : H b = some (.tup (k.map kV))) (hl : kvs.length < sizeLine) :
    DPut H a (.ref b) v (upd H a (.dT (putK kvs k v))) := .inr ⟨kvs, k, b, e, rfl, eb, hl, rfl⟩
section
variable {X : Cx} {pins : List (Addr × Obj)} {σ : St} {H : Hp} {s : Shared} {a : Addr} {y v : V} {u r : Value} {o : Option V} {A : Around} {E : Value → Shared → Prop}
theorem Inv.big (I : Inv X pins σ H s) : sysModules < s.heap.objs.size := by
  have h : mainGlobals < s.heap.objs.size := (I.mod.glob.keeps I.bk).lt
  exact Nat.lt_trans (by decide) h
end
section
variable {X : Cx} {pins : List (Addr × Obj)} {σ : St} {H : Hp} {s : Shared} {a : Addr} {kvs : List (Key × V)} {k : Key} {u : Value} {A : Around} {E : Value → Shared → Prop}
end
section
variable {X : Cx} {o i e value : Expr} {pos pos' tpos : Pos} {td ty tv : TE}
end
section
variable {X : Cx} {pos : Pos}
end
structure M1 (X : Cx) (o : Expr) (m : Str) (apos : Pos) (e : Expr) (cpos : Pos) : Prop where
  base : attributeBase o m X.env (eval o X.env) = eval o X.env
  few : ((backTo cpos (starEach [e] X.env)).all (fun x => !x.1) && (backToKw cpos (keywordEach [] X.env)).all (fun x => x.1.isSome)
    && decide (([e] : List Expr).length + ([] : List Keyword).length + (if ([] : List Keyword).isEmpty then 0 else 1) < 30)) = true
  line : (apos.endLine == cpos.line) = true
  trees : backTo cpos (starEach [e] X.env) = [(false, eval e X.env)]
structure M2 (X : Cx) (o : Expr) (m : Str) (apos : Pos) (e f : Expr) (cpos : Pos) : Prop where
  base : attributeBase o m X.env (eval o X.env) = eval o X.env
  few : ((backTo cpos (starEach [e, f] X.env)).all (fun x => !x.1) && (backToKw cpos (keywordEach [] X.env)).all (fun x => x.1.isSome)
    && decide (([e, f] : List Expr).length + ([] : List Keyword).length + (if ([] : List Keyword).isEmpty then 0 else 1) < 30)) = true
  line : (apos.endLine == cpos.line) = true
  trees : backTo cpos (starEach [e, f] X.env) = [(false, eval e X.env), (false, eval f X.env)]
section
variable {X : Cx} {pins : List (Addr × Obj)} {σ : St} {H : Hp} {s : Shared} {a : Addr} {y d : V} {u r : Value} {o : Option V} {A : Around} {E : Value → Shared → Prop}
end
section
variable {X : Cx} {o e f : Expr} {apos cpos : Pos} {td ty tx : TE}
end
section
variable {X : Cx} {pins : List (Addr × Obj)} {σ : St} {H : Hp} {s : Shared} {a : Addr} {kvs : List (Key × V)} {A : Around} {E : Value → Shared → Prop}
end
section
variable {X : Cx} {pins : List (Addr × Obj)} {σ : St} {H : Hp} {s : Shared} {a : Addr} {y : V} {u : Value} {A : Around} {E : Value → Shared → Prop}
end
end L2
namespace Att
open PySem PySem.W PySem.Calls PyProof.Rows
theorem ints_of_wellAll {P : Params} {h : Heap} : ∀ (ns : List Int) (vs : List Value), WellAll P h vs (ns.map WData.int) → IntsAre vs ns := by
  intro ns
  induction ns with
  | nil =>
    intro vs w
    rw [List.map_nil] at w
    cases w
    exact .nil
  | cons n ns ih =>
    intro vs w
    rw [List.map_cons] at w
    cases w with
    | cons a b =>
      cases a
      exact .cons _ _ (ih _ b)
theorem script_of {l : OpenLaw} {n : Nat} (hn : l.most = some n) {P : Params} {h : Heap} {args : List WData} {vals : List Value}
    (hpre : l.row.toRowW.claim.pre args = true) (hwl : WellAll P h vals args) :
    ∃ a vs ns, vals = [Value.ref a] ∧ args = [WData.list (ns.map WData.int)] ∧ h.get? a = some { cls := .type "list", data := .seq vs.toArray } ∧ IntsAre vs ns ∧ ns.length ≤ n := by
  have hsh : WShape.hasAll [] args [.list .int] = true := (pre_splitW hpre).1
  have hc : l.pre.holds [] { args := args } = true := (pre_splitW hpre).2
  obtain ⟨d, r, rfl, h1, h2⟩ := hasAllW_cons hsh
  obtain rfl := hasAllW_nil h2
  obtain ⟨xs, rfl, h3⟩ := hasW_list h1
  obtain ⟨ns, rfl⟩ := items_int h3
  have hlen : ns.length ≤ n := by
    unfold OpenLaw.pre at hc
    have h4 : (WTm.not (.lt (.lit (.int (n : Int))) (.len (.arg 0)))).holds [] { args := [.list (ns.map .int)] } = true := by
      have h4 := (holds_andW hc).1
      rw [hn] at h4
      exact h4
    have h5 := condW_of h4 (w_not (w_lt w_lit (w_len_list (w_arg rfl))))
    rw [List.length_map] at h5
    refine Nat.le_of_not_lt fun q => ?_
    have q' : (n : Int) < ((ns.length : Nat) : Int) := by omega
    first
      | (rw [decide_eq_true q'] at h5; exact absurd h5 (by decide))
      | (simp at h5; omega)
  cases hwl with
  | cons w1 w2 =>
    cases w2
    cases w1 with
    | list ho hall => exact ⟨_, _, ns, rfl, rfl, ho, ints_of_wellAll ns _ hall, hlen⟩
theorem post_true (l : OpenLaw) (args : List WData) : l.row.toRowW.claim.post args (.bool true) args = true :=
  postW_of (r := l.row.toRowW) (X := (true == true))
    (show WShape.has [] (.bool true) .bool = true by first | rfl | decide | simp [WShape.has, WShape.arms, WShape.armsAll])
    (show (WTm.eq .res (.lit (.bool true))).value [] { args := args, res := some (.bool true), after := args } = some (.bool (true == true)) from w_eq_bool (w_res rfl) w_lit) rfl
theorem attach_call {l : OpenLaw} {n : Nat} {q : Program} {loose : List Str} {XP : (Str → Option Value) → Heap → Prop} {YP : World → Heap → Prop} {d : DefRec}
    (hn : l.most = some n) (hdf : d.params.defaults = [])
    (call : ∀ (w : World) (s₀ s₁ : Shared) (mg mb : Str → Option Value) (fa : Addr) (o : Obj) (pm cd doc : Value) (a : Addr) (vs : List Value) (ns : List Int),
      Ground q loose [] XP w s₀ mg mb s₁.heap → YP w s₁.heap →
      s₁.heap.get? fa = some o → o.data = .func (docDef d.name d.params d.body d.scope pm cd doc) → s₁.heap.CodeRec cd d.name → mg d.name = some (.ref fa) →
      s₁.heap.get? a = some { cls := .type "list", data := .seq vs.toArray } → IntsAre vs ns → ns.length ≤ n → s₁.gens = #[] →
      codeAny (model l.prog w) callerA (.call (.ref fa) ⟨[.ref a], []⟩) (fun r s' => r = .ok (.ret (.bool true)) ∧ OldK s₁.heap s'.heap ∧ s'.os = s₁.os ∧ AllBare s'.gens) s₁) :
    WalkO q loose XP YP l.row.toRowW d [] (fun f vs => PySem.call f vs) := by
  intro w s₀ s₁ mg mb G Y fa o pm cd doc dV kV ho hd hcd hD hmg hg args vals as hpre hlay hrd hwl hlo
  obtain rfl : dV = .none := Dflts.none hD hdf
  obtain rfl : kV = .none := Dflts.noKw hD
  obtain ⟨a, vs, ns, rfl, rfl, hobj, hints, hlen⟩ := script_of hn hpre hwl
  refine enter_call (codeAny_mono (call w s₀ s₁ mg mb fa o pm cd doc a vs ns G Y ho (fd_plain hd) hcd hmg hobj hints hlen hg) fun r s' hq => ?_)
  obtain ⟨rfl, h2, h3, h4⟩ := hq
  exact ⟨.inl ⟨.bool true, .bool true, [], rfl, fun _ => rfl, .bool true, post_true l _, fun _ => ⟨List.Pairwise.nil, fun _ hm => (nomatch hm)⟩⟩, h2, h3, h4⟩
section
variable {prog : Program} {w : World} {A : Around} {E : Value → Shared → Prop} {s : Shared} {K : Frag}
def ledger (h : Heap) (L d : Addr) : List (Addr × Obj) := (List.range h.objs.size).filterMap fun a => if a = L ∨ a = d then none else (h.get? a).map fun o => (a, o)
end
end Att
namespace L2
open PySem PySem.Spec PyProof.Rows
theorem vals_ints : ∀ {vs : List Value} {ns : List Int}, IntsAre vs ns → Vals (ns.map V.int) vs
  | _, _, .nil => .nil
  | _, _, .cons n t h => .cons ⟨t, rfl⟩ (vals_ints h)
def Only (H : Hp) : Prop := ∀ b, H b = none ∨ ∃ o xs, H b = some (.frz o (.lst xs))
theorem law_call {P : Program} {w : World} {K : PySem.W.Frag} {mg mb : Str → Option Value} {CX : CXT} {k : Nat} {fa a : Addr} {fd : FuncData} {x : Str} {sp : Sp} {s₁ : Shared} {vs : List Value} {ns : List Int}
    (KX : K.In s₁.heap) (hns : s₁.heap.Ns mainGlobals mg) (hb : s₁.heap.Ns builtinsNs mb) (hbb : ∀ x : Str, x ≠ "__name__" → mb x = bootBuiltins x) (hlim : s₁.heap.NoLimit) (hnd : s₁.heap.NoDigits) (hg : s₁.gens = #[])
    (ha : s₁.heap.get? a = some { cls := .type "list", data := .seq vs.toArray }) (hi : IntsAre vs ns) (hl : ns.length ≤ sizeLine) (hr : Room k callerA)
    (F : ∀ base : Heap, K.In base → base.Ns mainGlobals mg → FnOk P w K mg base CX k fa fd [x] sp) (hbind : ∀ (s : Shared) (u : Value), BindsTo s fd ⟨[u], []⟩ [(x, u)])
    (hsp : ∀ H : Hp, Only H → SqL K H a (ns.map V.int) → sp [.ref a] H (fun v _ => v = .bl true) fun _ _ _ => False)
    (hCX : ∀ H e s', CX [] H s₁ (fun _ _ _ => False) e s' → False) :
    codeAny (model P w) callerA (.call (.ref fa) ⟨[.ref a], []⟩) (fun r s' => r = .ok (.ret (.bool true)) ∧ OldK s₁.heap s'.heap ∧ s'.os = s₁.os ∧ AllBare s'.gens) s₁ := by
  have rv := vals_ints hi
  have lenV := hi.length
  have core : ∀ H : Hp, Only H → SqL K H a (ns.map V.int) → HOk P w H s₁.heap → (∀ b, H b ≠ none → b = a) → (H a ≠ none → K.lookup a = none) →
      codeAny (model P w) callerA (.call (.ref fa) ⟨[.ref a], []⟩) (fun r s' => r = .ok (.ret (.bool true)) ∧ OldK s₁.heap s'.heap ∧ s'.os = s₁.os ∧ AllBare s'.gens) s₁ := by
    intro H hO hS hok hA hK
    have base_of : ∀ {b : Addr} {o : Obj}, s₁.heap.get? b = some o → H b = none → (hidT s₁.heap H).get? b = some o := fun e n => hidT_get e n
    have noA : ∀ {b : Addr} {o : Obj} {es : Array DictEntry} {ep : Nat}, s₁.heap.get? b = some o → o.data = .dict es ep → H b = none := fun {b o es ep} e d => by
      cases q : H b with
      | none => rfl
      | some u =>
        have e' : b = a := hA b (by rw [q]; simp)
        subst e'
        rw [ha] at e; cases e
        have d' : Data.seq vs.toArray _ = Data.dict es ep := d
        cases d'
    have nsK : ∀ {b : Addr} {m : Str → Option Value}, s₁.heap.Ns b m → (hidT s₁.heap H).Ns b m := fun {b m} ⟨o, es, ep, e, d, r⟩ => ⟨o, es, ep, base_of e (noA e d), d, r⟩
    have hKb : K.In (hidT s₁.heap H) := fun b o e => base_of (KX b o e) (by
      cases q : H b with
      | none => rfl
      | some u =>
        have e' : b = a := hA b (by rw [q]; simp)
        subst e'
        rw [hK (by rw [q]; simp)] at e; cases e)
    have hM : Mod K mg (hidT s₁.heap H) := ⟨hKb, nsK hns, ⟨mb, nsK hb, hbb⟩, let ⟨mc, h1, h2⟩ := hlim; ⟨mc, nsK h1, h2⟩, let ⟨mc, h1, h2⟩ := hnd; ⟨mc, nsK h1, h2⟩⟩
    have e0 : Env0 P w K mg (hidT s₁.heap H) callerA [] s₁ H := ⟨rfl, hM, fun b o e => of_hidT e, Nat.le_of_eq (hidT_size _ _), trivial, fun b hb => absurd (show b ∈ ([] : List Addr) from hb) (by simp), hok, .of_eq hg⟩
    refine codeAny_mono ((F _ hKb (nsK hns)).run callerA [] s₁ H ⟨[.ref a], []⟩ [.ref a] [.ref a] _ _ hr e0 (hbind s₁ (.ref a)) (.cons rfl .nil) (hsp H hO hS)) fun r s' h => ?_
    cases r with
    | error e => exact (hCX H e s' h).elim
    | ok fl =>
      cases fl with
      | next => exact False.elim h
      | brk => exact False.elim h
      | cont => exact False.elim h
      | ret u =>
        obtain ⟨v, H', os, bare, un, hok', r', q⟩ := h
        have q' : v = .bl true := q
        subst q'
        obtain rfl : u = Value.bool true := r'
        refine ⟨rfl, OldK.of_keep fun b o e => ?_, os, bare⟩
        cases q : H b with
        | none => exact un.keep b o e q (by intro z; exact absurd (show b ∈ ([] : List Addr) from z) (by simp)) (by simp)
        | some u =>
          rcases hO b with z | ⟨ob, xs, z⟩
          · rw [q] at z; cases z
          · have z2 := un.frzs b ob _ z
            obtain ⟨e1, _⟩ := hok b _ z
            obtain ⟨e2, _⟩ := hok' b _ z2
            rw [e] at e1; cases e1
            exact e2
  cases hk : K.lookup a with
  | some o =>
    have e := KX a o hk
    rw [ha] at e
    cases e
    refine core (fun _ => none) (fun _ => .inl rfl) (.inr ⟨_, vs.toArray, _, hk, rfl, rfl, rfl, by rw [List.size_toArray, lenV]; exact hl, by simpa using rv⟩) (fun b u z => by have z' : (none : Option HO) = some u := z; cases z') (fun b z => absurd rfl z) fun z => absurd rfl z
  | none =>
    refine core (fun b => if b = a then some (.frz { cls := .type "list", data := .seq vs.toArray } (.lst (ns.map V.int))) else none) (fun b => ?_) (.inl (.inr ⟨{ cls := .type "list", data := .seq vs.toArray }, if_pos rfl⟩)) (fun b u z => ?_) (fun b z => ?_) fun _ => hk
    · by_cases hb : b = a
      · exact .inr ⟨_, _, if_pos hb⟩
      · exact .inl (if_neg hb)
    · by_cases hb : b = a
      · have z' := (if_pos hb).symm.trans z
        cases z'
        subst hb
        exact ⟨ha, by rw [List.length_map]; exact hl, vs, _, rv, ha⟩
      · have z' := (if_neg hb).symm.trans z
        cases z'
    · by_cases hb : b = a
      · exact hb
      · exact absurd (if_neg hb) z
end L2
namespace L2
open PySem PySem.Spec PyProof.Rows
abbrev KOf {K : PySem.W.Frag} {h : Heap} (_ : K.In h) : PySem.W.Frag := K
theorem walk_of {l : PySem.W.OpenLaw} {n k : Nat} {q : Program} {loose : List Str} {XP : (Str → Option Value) → Heap → Prop} {YP : World → Heap → Prop} {d : DefRec} {K : Params → PySem.W.Frag} {CX : World → CXT} {sp : World → Sp} {x : Str}
    (hn : l.most = some n) (hn2 : n ≤ sizeLine) (hdf : d.params.defaults = []) (hr : Room k callerA)
    (hY : ∀ (w : World) (h : Heap), YP w h → (K w.params).In h)
    (F : ∀ (w : World) (mg : Str → Option Value) (fa : Addr) (h : Heap), (K w.params).In h → h.Ns mainGlobals mg → mg d.name = some (.ref fa) →
      ∃ fd : FuncData, (∀ (s : Shared) (u : Value), BindsTo s fd ⟨[u], []⟩ [(x, u)]) ∧
        ∀ base : Heap, (K w.params).In base → base.Ns mainGlobals mg → FnOk l.prog w (K w.params) mg base (CX w) k fa fd [x] (sp w))
    (hsp : ∀ (w : World) (H : Hp) (a : Addr) (ns : List Int), ns.length ≤ n → Only H → SqL (K w.params) H a (ns.map V.int) → sp w [.ref a] H (fun v _ => v = .bl true) fun _ _ _ => False)
    (hCX : ∀ (w : World) (H : Hp) (s : Shared) (e : Value) (s' : Shared), CX w [] H s (fun _ _ _ => False) e s' → False) :
    PySem.W.WalkO q loose XP YP l.row.toRowW d [] (fun f vs => PySem.call f vs) := by
  refine Att.attach_call hn hdf fun w s₀ s₁ mg mb fa o pm cd doc a vs ns G Y ho hd hcd hmg hobj hints hlen hg => ?_
  have KX := hY w _ Y
  obtain ⟨fd, hb, hF⟩ := F w mg fa _ KX G.T.g hmg
  exact law_call KX G.T.g G.T.b G.T.builtins G.T.nolimit G.T.nodigits hg hobj hints (Nat.le_trans hlen hn2) hr hF hb (fun H hO hS => hsp w H a ns hlen hO hS) fun H e s' => hCX w H s₁ e s'
end L2
namespace L2
open PySem PySem.Spec PyProof.Rows
def inClass (s : Stmt) (j : Nat) : Stmt := match s with
  | .ClassDef _ _ _ body _ _ _ _ _ _ _ => body.getD j (.Pass ⟨0, 0, 0, 0⟩)
  | _ => .Pass ⟨0, 0, 0, 0⟩
def defArgs (s : Stmt) : Arguments := match s with
  | .FunctionDef _ a _ _ _ _ _ _ _ _ => a
  | _ => { posonlyargs := [], args := [], vararg := none, kwonlyargs := [], kw_defaults := [], kwarg := none, defaults := [] }
def defBody (s : Stmt) : List Stmt := match s with
  | .FunctionDef _ _ b _ _ _ _ _ _ _ => b
  | _ => []
def defScope (s : Stmt) : Scope := match s with
  | .FunctionDef _ _ _ _ _ _ sc _ _ _ => sc
  | _ => { kind := .function, names := [], isGenerator := false, isCoroutine := false }
abbrev CX0 : CXT := fun _ _ _ _ _ _ => False
abbrev E0 : XK := fun _ _ _ => False
theorem pass0 {X : Cx} : Passes CX0 X E0 := fun _ _ _ _ _ _ _ h => h.elim
structure Fun (K : PySem.W.Frag) (x qual : Str) (st : Stmt) (f : Addr) (fd : FuncData) : Prop where
  ex : ∃ (oc : Value) (od : Option Addr) (kV doc pm : Value) (an : Option Addr) (cdv ct : Value) (osl : Array (Option Value)),
    fd = PySem.W.fnOf x qual (defArgs st) (defBody st) (defScope st) .none kV doc pm an cdv ct ∧ K.lookup f = some ⟨oc, od, .func fd, osl⟩ ∧ PySem.W.codeIn K cdv qual = true
  kp : PySem.W.keepIn K (.ref f) = true
section
variable {P : Program} {w : World} {K : PySem.W.Frag} {mg : Str → Option Value} {base : Heap}
theorem Fun.ok {x qual : Str} {st : Stmt} {f : Addr} {fd : FuncData} {N ps : List Str} {k : Nat} {sp : Sp} (F : Fun K x qual st f fd) (S : FnScope N ps (defScope st)) (len : ∀ vs H Q E, sp vs H Q E → vs.length = ps.length)
    (hbody : ∀ (cdv : Value) (A : Around) (outer : List Env) (s : Shared) (H : Hp) (vs : List V) (Q : VK) (E : XK), Room k (A.deeper (envOfC qual (defScope st) s.heap.objs.size f cdv)) → sp vs H Q E →
      ∃ t, PSs (cxOf CX0 P w K mg base N qual (defScope st) f cdv A outer s H E).nox (defBody st) t ∧ t { nx := fun _ H' => Q .non H', rt := Q } (start N vs) H) : FnOk P w K mg base CX0 (k + 1) f fd ps sp := by
  obtain ⟨oc, od, kV, doc, pm, an, cdv, ct, osl, rfl, lk, hcd⟩ := F.ex
  refine fn_of lk hcd S len fun A outer s H vs Q E hr hsp => ?_
  obtain ⟨t, h, q⟩ := hbody cdv A outer s H vs Q E hr hsp
  exact ⟨t, h.nox, q⟩
theorem Fun.binds {x qual : Str} {st : Stmt} {f : Addr} {fd : FuncData} {ps : List Str} (F : Fun K x qual st f fd)
    (h : ∀ (kV doc pm : Value) (an : Option Addr) (cdv ct : Value) (us : List Value), us.length = ps.length → bindArgs (PySem.W.fnOf x qual (defArgs st) (defBody st) (defScope st) .none kV doc pm an cdv ct) ⟨us, []⟩ = pure (ps.zip us)) : Binds K fd ps [] := by
  obtain ⟨oc, od, kV, doc, pm, an, cdv, ct, osl, rfl, lk, hcd⟩ := F.ex
  exact .all (h kV doc pm an cdv ct)
theorem fun_mk {x qual : Str} {st : Stmt} {f : Addr} {oc : Value} {od an : Option Addr} {osl : Array (Option Value)} {kV doc pm cdv ct : Value} (l : K.lookup f = some ⟨oc, od, .func (PySem.W.fnOf x qual (defArgs st) (defBody st) (defScope st) .none kV doc pm an cdv ct), osl⟩)
    (c : PySem.W.codeIn K cdv qual = true) (k : PySem.W.keepIn K (.ref f) = true) : Fun K x qual st f (PySem.W.fnOf x qual (defArgs st) (defBody st) (defScope st) .none kV doc pm an cdv ct) := ⟨⟨oc, od, kV, doc, pm, an, cdv, ct, osl, rfl, l, c⟩, k⟩
end
theorem small1000 {n : Nat} (h : n ≤ 1000) : n < sizeLine := Nat.lt_of_le_of_lt h (by decide)
section
variable {X : Cx}
theorem pv (i : Nat) {x : Str} {pos : Pos} (hN : X.N[i]? = some x := by rfl) (hv : Vis X.env.scope x := by first | exact Or.inl rfl | exact Or.inr (Or.inl rfl) | exact Or.inr (Or.inr rfl)) (hd : (x == ("__debug__" : Str)) = false := by decide)
    (hcd : (x == ("__classdict__" : Str)) = false := by decide) : PE X (.Name x pos) (tVar i) := pe_var hN hv hd hcd
end
theorem iteF {A B : Prop} (h : B) : if false = true then A else B := by
  rw [if_neg Bool.false_ne_true]
  exact h
theorem iteT {A B : Prop} (h : A) : if true = true then A else B := by
  rw [if_pos rfl]
  exact h
theorem ite2 {c A B : Prop} [Decidable c] (h1 : c → A) (h2 : ¬ c → B) : if c then A else B := by
  by_cases h : c
  · rw [if_pos h]
    exact h1 h
  · rw [if_neg h]
    exact h2 h
def Same (H H' : Hp) : Prop := ∀ b o, H b = some o → H' b = some o
theorem Same.refl (H : Hp) : Same H H := fun _ _ h => h
theorem Same.trans {H H1 H2 : Hp} (a : Same H H1) (b : Same H1 H2) : Same H H2 := fun c o h => b c o (a c o h)
theorem Same.free {H H' : Hp} (e : Same H H') {l : Addr} (h : H' l = Option.none) : H l = Option.none := by
  cases q : H l with
  | none => rfl
  | some o =>
    rw [e l o q] at h
    cases h
theorem Same.seq {K : PySem.W.Frag} {H H' : Hp} {a : Addr} {xs : List V} (e : Same H H') (h : SqL K H a xs) : SqL K H' a xs := by
  rcases h with (h | ⟨o, h⟩) | h
  · exact .inl (.inl (e _ _ h))
  · exact .inl (.inr ⟨o, e _ _ h⟩)
  · exact .inr h
section
variable {κ : Type} [DecidableEq κ]
end
end L2
set_option maxHeartbeats 4000000
namespace L2
open PySem PySem.Spec PyProof.Rows
section
variable {X : Cx}
theorem big_lt : (10 : Nat) ^ 100 < 2 ^ 400 := by decide +kernel
theorem log2_big {j : Int} (h : j.natAbs < 10 ^ 100) : j.natAbs.log2 < 400 := by
  by_cases h0 : j.natAbs = 0
  · rw [h0]; decide +kernel
  · exact (Nat.log2_lt h0).mpr (Nat.lt_trans h big_lt)
def CMulB (i j : Int) : Prop := (-(10 ^ 100) < i ∧ i < 10 ^ 100) ∧ (-(10 ^ 100) < j ∧ j < 10 ^ 100)
theorem bits_big {j : Int} (h : j.natAbs < 10 ^ 100) : Builtin.Int.intBits j ≤ 400 := by
  unfold Builtin.Int.intBits
  split
  · exact Nat.zero_le _
  · have := log2_big h
    omega
theorem CMulB.ok {i j : Int} (h : CMulB i j) : IntMulOk i j := by
  obtain ⟨⟨h1, h2⟩, h3, h4⟩ := h
  have e1 := bits_big (j := i) (by omega)
  have e2 := bits_big (j := j) (by omega)
  have e3 : Builtin.Int.intTooBig (Builtin.Int.intBits i + Builtin.Int.intBits j) = false := by
    unfold Builtin.Int.intTooBig
    rw [decide_eq_false]
    have : (bitsLine : Int) = 134217728 := by decide +kernel
    omega
  unfold IntMulOk
  rw [e3]
  simp
end
section
variable {X : Cx}
theorem call_isi : CallR X (.builtin "isinstance") (fun xs H Q => ∃ x T t b, xs = [x, .ty T] ∧ TyOf X.K H x t ∧ PySem.W.kitOne X.K t (.type T) = some b ∧ Q (.bl b) H) := by
  intro pins s σ H xs us Q I r h
  obtain ⟨x, T, t, b, rfl, ty, e, q⟩ := h
  obtain ⟨u, w', rfl, ru, rw'⟩ := vals2 r
  cases (show w' = Value.type T from rw')
  exact isinst_ok I ru ty e fun tk => ⟨.bl b, H, I.tok tk, rfl, q⟩
end
mutual
inductive Rep (K : PySem.W.Frag) (H : Hp) : V → PyData → Prop where
  | non : Rep K H .non .none
  | bl (b : Bool) : Rep K H (.bl b) (.bool b)
  | int (i : Int) : Rep K H (.int i) (.int i)
  | str (x : Str) : Rep K H (.str x) (.str x)
  | lst {a : Addr} {xs : List V} {ds : List PyData} : SqL K H a xs → Reps K H xs ds → Rep K H (.ref a) (.list ds)
  | tup {a : Addr} {xs : List V} {ds : List PyData} : SqT K H a xs → Reps K H xs ds → Rep K H (.ref a) (.tuple ds)
inductive Reps (K : PySem.W.Frag) (H : Hp) : List V → List PyData → Prop where
  | nil : Reps K H [] []
  | cons {v : V} {vs : List V} {d : PyData} {ds : List PyData} : Rep K H v d → Reps K H vs ds → Reps K H (v :: vs) (d :: ds)
end
section
variable {X : Cx} {pins : List (Addr × Obj)} {σ : St} {H : Hp} {s : Shared}
mutual
theorem rep_reads (I : Inv X pins σ H s) : ∀ (d : PyData) (v : V) (u : Value), Rep X.K H v d → RelV v u → ∃ as, Reads s.heap u d as
  | .none, v, u, r, q => by cases r; cases (show u = Value.none from q); exact ⟨_, .none⟩
  | .bool b, v, u, r, q => by cases r; cases (show u = Value.bool b from q); exact ⟨_, .bool b⟩
  | .int i, v, u, r, q => by cases r; obtain ⟨t, e⟩ := (show ∃ t, u = Value.int i t from q); cases e; exact ⟨_, .int i t⟩
  | .str x, v, u, r, q => by cases r; obtain ⟨t, e⟩ := (show ∃ t, u = Value.str x t from q); cases e; exact ⟨_, .str x t⟩
  | .list ds, v, u, r, q => by
    cases r with
    | @lst a xs _ hq rs =>
      cases (show u = Value.ref a from q)
      obtain ⟨its, rv, ⟨o, n, e, c, _, d⟩, hz⟩ := I.list hq
      obtain ⟨as, ra⟩ := reps_reads I ds xs its rs rv
      exact ⟨_, .list e c d (by simpa using ra)⟩
  | .tuple ds, v, u, r, q => by
    cases r with
    | @tup a xs _ hq rs =>
      cases (show u = Value.ref a from q)
      obtain ⟨its, rv, ⟨o, e, c, n, d⟩, hz⟩ := I.tuple hq
      obtain ⟨as, ra⟩ := reps_reads I ds xs its rs rv
      exact ⟨_, .tuple e c d (by simpa using ra)⟩
  | .dict _, v, u, r, q => by cases r
theorem reps_reads (I : Inv X pins σ H s) : ∀ (ds : List PyData) (vs : List V) (us : List Value), Reps X.K H vs ds → Vals vs us → ∃ as, ReadsAll s.heap us ds as
  | [], vs, us, r, q => by cases r; cases q; exact ⟨_, .nil⟩
  | d :: ds, vs, us, r, q => by
    cases r with
    | cons r1 r2 =>
      cases q with
      | cons q1 q2 =>
        obtain ⟨as, a1⟩ := rep_reads I d _ _ r1 q1
        obtain ⟨bs, a2⟩ := reps_reads I ds _ _ r2 q2
        exact ⟨_, .cons a1 a2⟩
end
end
def rEqD (K : PySem.W.Frag) (neg : Bool) : R2 := fun x y H Q => ∃ d e, Rep K H x d ∧ Rep K H y e ∧ d.canLay0 = true ∧ e.canLay0 = true ∧ d.depth ≤ 20 ∧ Q (.bl (if neg then !PyData.eqv d e else PyData.eqv d e)) H
section
variable {X : Cx}
theorem op_neD (hu : X.A.units + 64 < cLine) : OpR X (compareOp .NotEq) (rEqD X.K true) := by
  intro pins s σ H x y v u Q I rx ry h
  obtain ⟨d, e, rd, re, cd, ce, hd, q⟩ := h
  obtain ⟨as, ra⟩ := rep_reads I d x v rd rx
  obtain ⟨bs, rb⟩ := rep_reads I e y u re ry
  have hm : min d.depth e.depth ≤ d.depth := Nat.min_le_left _ _
  exact SeqAt.rcNeAt_reads ra rb cd ce (by omega) X.prog X.w X.xe _ ⟨.bl _, H, I, rfl, q⟩
end
section
variable {X : Cx} {pins : List (Addr × Obj)} {σ : St} {H : Hp} {s : Shared} {h' : Heap}
theorem Inv.turnedLaid {t' : Nat} {ch : List Addr} {a : Addr} {o : HO} (I : Inv X pins σ H s) (hf : ∀ b ∈ ch, FpOk X pins H b) (k : ∀ b u, b ∉ ch → s.heap.get? b = some u → h'.get? b = some u)
    (hp : s.heap.objs.size ≤ a) (new : ObjOk X.prog X.w (upd H a o) h' a o) : Inv X pins σ (upd H a o) { s with heap := h', toks := t' } := by
  have hna : H a = none := I.hok.fresh hp
  have nch : ∀ b u, H b = some u → b ∉ ch := fun b u e z => by rw [(hf b z).1] at e; cases e
  have nea : ∀ b u, s.heap.get? b = some u → b ≠ a := fun b u e z => absurd (Nat.lt_of_lt_of_le (Heap.lt_size e) (by rw [z]; exact hp)) (Nat.lt_irrefl _)
  refine I.step (g' := s.gens) (d' := s.drawn) (ch := ch) (fun b hb => ⟨(hf b hb).2.2.2.1, (hf b hb).2.1, (hf b hb).2.2.2.2.1, (hf b hb).2.2.2.2.2⟩) (fun b o _ _ hc e _ => k b o hc e) (fun b o _ _ hc e _ => ⟨o.slots, k b o hc e⟩)
    (fun b o hc e n => by rw [upd_ne (nea b o e)]; exact n) (fun b o hc e => ⟨o, k b o hc e⟩) (fun b xs e => by rw [upd_ne (ne_of_none e hna)]; exact e) (fun b o u e => by rw [upd_ne (ne_of_none e hna)]; exact e)
    (fun b ps e => ⟨#[], by rw [upd_ne (ne_of_none e hna), e]; simp⟩) (fun m hm => ?_) (fun b u e => ?_) I.bare
  · obtain ⟨o, es, ep, ho, r⟩ := hm
    exact ⟨o, es, ep, k _ o (fun z => (hf _ z).2.1 rfl) ho, r⟩
  · by_cases hb : b = a
    · subst hb; rw [upd_same] at e; cases e; exact new
    · rw [upd_ne hb] at e
      refine (I.hok b u e).stay (fun c v hc q => k c v ?_ q) (fun c q => by rw [upd_ne (ne_of_none q hna)]; exact q) fun c xs q => by rw [upd_ne (ne_of_none q hna)]; exact q
      rcases hc with z | z
      · rw [z]; exact nch b u e
      · exact nch c _ z
theorem Inv.turnedL {t' : Nat} {ch : List Addr} (I : Inv X pins σ H s) (hf : ∀ b ∈ ch, FpOk X pins H b) (k : ∀ b u, b ∉ ch → s.heap.get? b = some u → h'.get? b = some u) : Inv X pins σ H { s with heap := h', toks := t' } := by
  have nch : ∀ b u, H b = some u → b ∉ ch := fun b u e z => by rw [(hf b z).1] at e; cases e
  refine I.step (g' := s.gens) (d' := s.drawn) (ch := ch) (fun b hb => ⟨(hf b hb).2.2.2.1, (hf b hb).2.1, (hf b hb).2.2.2.2.1, (hf b hb).2.2.2.2.2⟩) (fun b o _ _ hc e _ => k b o hc e) (fun b o _ _ hc e _ => ⟨o.slots, k b o hc e⟩)
    (fun _ _ _ _ n => n) (fun b o hc e => ⟨o, k b o hc e⟩) (fun _ _ e => e) (fun _ _ _ e => e) (fun b ps e => ⟨#[], by rw [e]; simp⟩) (fun m hm => ?_) (fun b u e => ?_) I.bare
  · obtain ⟨o, es, ep, ho, r⟩ := hm
    exact ⟨o, es, ep, k _ o (fun z => (hf _ z).2.1 rfl) ho, r⟩
  · refine (I.hok b u e).stay (fun c v hc q => k c v ?_ q) (fun _ q => q) fun _ _ q => q
    rcases hc with z | z
    · rw [z]; exact nch b u e
    · exact nch c _ z
end
def Itz (K : PySem.W.Frag) (a b : Addr) : It :=
  ⟨fun i H => ∃ xs ys x y, SqL K H a xs ∧ SqL K H b ys ∧ xs[i]? = some x ∧ ys[i]? = some y,
   fun i H v H' => ∃ p, v = .ref p ∧ H p = none ∧ ∀ xs ys x y, SqL K H a xs → SqL K H b ys → xs[i]? = some x → ys[i]? = some y → H' = upd H p (.tup [x, y]),
   fun i H => ∃ xs ys, SqL K H a xs ∧ SqL K H b ys ∧ (xs.length ≤ i ∨ ys.length ≤ i)⟩
theorem ne_cls {h : Heap} {a b : Addr} {o u : Obj} (e : h.get? a = some o) (e' : h.get? b = some u) (d : o.cls ≠ u.cls) : a ≠ b := fun z => by
  subst z; rw [e] at e'; exact d (congrArg Obj.cls (Option.some.inj e'))
theorem n_tz : Value.type "tuple" ≠ Value.type "zip" := by decide
theorem n_iz : Value.type "list_iterator" ≠ Value.type "zip" := by decide
theorem n_ti : Value.type "tuple" ≠ Value.type "list_iterator" := by decide
theorem n_lz : Value.type "list" ≠ Value.type "zip" := by decide
theorem n_lt : Value.type "list" ≠ Value.type "tuple" := by decide
theorem n_li : Value.type "list" ≠ Value.type "list_iterator" := by decide
theorem turn_zip {P : Program} {w : World} {K : PySem.W.Frag} {elts : List Expr} {ek : Nat} {epos : Pos} (a b z TI TO i1 i2 : Addr) (d1 : TI ≠ TO) (d2 : i1 ≠ i2) :
    Turn P w K (.Tuple elts ek epos) (Itz K a b) [z, TI, TO, i1, i2] z (fun i h => IsZip h z TI TO .none ∧ IsPair h TI (.ref i1) (.ref i2) ∧ (∃ x y, IsPair h TO x y) ∧ h.IsListIter i1 a i ∧ h.IsListIter i2 b i) where
  mem := by simp
  obj := fun i h st c hc => by
    obtain ⟨hz, hTI, ⟨x, y, hTO⟩, ⟨o1, e1, c1, f1⟩, ⟨o2, e2, c2, f2⟩⟩ := st
    simp only [List.mem_cons, List.not_mem_nil, or_false] at hc
    rcases hc with rfl | rfl | rfl | rfl | rfl
    · exact ⟨_, hz, fun v q => by have q' : Data.fields _ = Data.cell v := q; cases q'⟩
    · exact ⟨_, hTI, fun v q => by have q' : Data.seq _ _ = Data.cell v := q; cases q'⟩
    · exact ⟨_, hTO, fun v q => by have q' : Data.seq _ _ = Data.cell v := q; cases q'⟩
    · exact ⟨_, e1, fun v q => by rw [f1] at q; cases q⟩
    · exact ⟨_, e2, fun v q => by rw [f2] at q; cases q⟩
  keep := fun i h h' st k => by
    obtain ⟨hz, hTI, ⟨x, y, hTO⟩, h1, h2⟩ := st
    exact ⟨k z (by simp) _ hz, k TI (by simp) _ hTI, ⟨x, y, k TO (by simp) _ hTO⟩, h1.at fun o e => k i1 (by simp) o e, h2.at fun o e => k i2 (by simp) o e⟩
  item := by
    intro X hP hw hK hc i pins s σ H E I hf st hg
    subst hP hw hK
    obtain ⟨xs, ys, x, y, qa, qb, hx, hy⟩ := hg
    obtain ⟨hz, hTI, ⟨x0, y0, hTO⟩, h1, h2⟩ := st
    obtain ⟨itsA, rA, pA, zA⟩ := I.list qa
    obtain ⟨itsB, rB, pB, zB⟩ := I.list qb
    obtain ⟨u, hu, ru⟩ := rA.get hx
    obtain ⟨u', hu', ru'⟩ := rB.get hy
    have D : ZipApart z TI TO i1 i2 a b := by
      obtain ⟨o1, e1, c1, f1⟩ := id h1
      obtain ⟨o2, e2, c2, f2⟩ := id h2
      obtain ⟨oa, na, ea, ca, _, fa⟩ := id pA
      obtain ⟨ob, nb, eb, cb, _, fb⟩ := id pB
      exact ⟨ne_cls hTI hz n_tz, ne_cls hTO hz n_tz, ne_cls e1 hz (by rw [c1]; exact n_iz), ne_cls e2 hz (by rw [c2]; exact n_iz), d1, ne_cls hTI e1 (by rw [c1]; exact n_ti), ne_cls hTI e2 (by rw [c2]; exact n_ti),
        ne_cls hTO e1 (by rw [c1]; exact n_ti), ne_cls hTO e2 (by rw [c2]; exact n_ti), d2, ne_cls ea hz (by rw [ca]; exact n_lz), ne_cls ea hTO (by rw [ca]; exact n_lt), ne_cls ea e1 (by rw [ca, c1]; exact n_li), ne_cls ea e2 (by rw [ca, c2]; exact n_li),
        ne_cls eb hz (by rw [cb]; exact n_lz), ne_cls eb hTO (by rw [cb]; exact n_lt), ne_cls eb e1 (by rw [cb, c1]; exact n_li), ne_cls eb e2 (by rw [cb, c2]; exact n_li)⟩
    refine wpAny_pyNext_zip_item D hz hTI hTO h1 h2 pA.isList pB.isList (x := u) (y := u') (by simpa using hu) (by simpa using hu') fun h' a1 a2 a3 a4 a5 a6 hk => ?_
    refine ⟨.ref s.heap.objs.size, rfl, wpAny_letOwnedTupleGo_zip a1 fun h'' hz'' sb => ?_⟩
    have lz : z < s.heap.objs.size := Heap.lt_size hz
    have nz : s.heap.objs.size ≠ z := Nat.ne_of_gt lz
    have k2 : ∀ c o, c ∉ [z, TI, TO, i1, i2] → s.heap.get? c = some o → h''.get? c = some o := fun c o hc e => by
      simp only [List.mem_cons, List.not_mem_nil, or_false, not_or] at hc
      exact sb.extBut _ _ hc.1 (hk c o hc.1 hc.2.2.1 hc.2.2.2.1 hc.2.2.2.2 e)
    have T2 : IsPair h'' s.heap.objs.size u u' := sb.extBut _ _ nz a5
    refine ⟨.ref s.heap.objs.size, upd H s.heap.objs.size (.tup [x, y]), I.turnedLaid (t' := s.toks) (ch := [z, TI, TO, i1, i2]) hf k2 (Nat.le_refl _) ⟨by show 2 ≤ sizeLine; decide, [u, u'], .cons ru (.cons ru' .nil), _, T2, rfl, _, rfl⟩, rfl, ⟨_, rfl, I.hok.fresh (Nat.le_refl _), fun xs' ys' x' y' qa' qb' hx' hy' => ?_⟩, ⟨hz'', sb.extBut _ _ D.TIz (hk _ _ D.TIz D.TITO D.TIi1 D.TIi2 hTI), ⟨_, _, sb.extBut _ _ D.TOz a2⟩, a3.extBut sb.extBut D.i1z, a4.extBut sb.extBut D.i2z⟩, fun b hb => ?_⟩
    · rw [I.list_inj qa' qa, hx] at hx'
      rw [I.list_inj qb' qb, hy] at hy'
      cases hx'; cases hy'; rfl
    · have e : b ≠ s.heap.objs.size := fun q => by
        have : ∃ o, s.heap.get? b = some o := by
          simp only [List.mem_cons, List.not_mem_nil, or_false] at hb
          obtain ⟨o1, e1, _⟩ := id h1
          obtain ⟨o2, e2, _⟩ := id h2
          rcases hb with rfl | rfl | rfl | rfl | rfl
          · exact ⟨_, hz⟩
          · exact ⟨_, hTI⟩
          · exact ⟨_, hTO⟩
          · exact ⟨_, e1⟩
          · exact ⟨_, e2⟩
        obtain ⟨o, e⟩ := this
        exact absurd (Heap.lt_size e) (by rw [q]; exact Nat.lt_irrefl _)
      rw [upd_ne e]
      exact (hf b hb).1
  done := by
    intro X hP hw hK hc i pins s σ H E I hf st hg
    subst hP hw hK
    obtain ⟨xs, ys, qa, qb, hx⟩ := hg
    obtain ⟨hz, hTI, ⟨x0, y0, hTO⟩, h1, h2⟩ := st
    obtain ⟨itsA, rA, pA, zA⟩ := I.list qa
    obtain ⟨itsB, rB, pB, zB⟩ := I.list qb
    have D : ZipApart z TI TO i1 i2 a b := by
      obtain ⟨o1, e1, c1, f1⟩ := id h1
      obtain ⟨o2, e2, c2, f2⟩ := id h2
      obtain ⟨oa, na, ea, ca, _, fa⟩ := id pA
      obtain ⟨ob, nb, eb, cb, _, fb⟩ := id pB
      exact ⟨ne_cls hTI hz n_tz, ne_cls hTO hz n_tz, ne_cls e1 hz (by rw [c1]; exact n_iz), ne_cls e2 hz (by rw [c2]; exact n_iz), d1, ne_cls hTI e1 (by rw [c1]; exact n_ti), ne_cls hTI e2 (by rw [c2]; exact n_ti),
        ne_cls hTO e1 (by rw [c1]; exact n_ti), ne_cls hTO e2 (by rw [c2]; exact n_ti), d2, ne_cls ea hz (by rw [ca]; exact n_lz), ne_cls ea hTO (by rw [ca]; exact n_lt), ne_cls ea e1 (by rw [ca, c1]; exact n_li), ne_cls ea e2 (by rw [ca, c2]; exact n_li),
        ne_cls eb hz (by rw [cb]; exact n_lz), ne_cls eb hTO (by rw [cb]; exact n_lt), ne_cls eb e1 (by rw [cb, c1]; exact n_li), ne_cls eb e2 (by rw [cb, c2]; exact n_li)⟩
    have lA := rA.length
    have lB := rB.length
    refine wpAny_pyNext_zip_end (I.ok.hd hc) D hz hTI hTO h1 h2 pA.isList pB.isList (hx.imp (fun q => by simp; omega) fun q => by simp; omega) fun h' hk => ⟨rfl, I.turnedL (t' := s.toks) (ch := [z, TI, TO, i1, i2]) hf fun c o hc e => ?_⟩
    simp only [List.mem_cons, List.not_mem_nil, or_false, not_or] at hc
    exact hk c o hc.1 hc.2.2.1 hc.2.2.2.1 hc.2.2.2.2 e
  self := fun _ _ _ _ _ st h => wpAny_pyIter_zip st.1 h
section
variable {X : Cx}
def iZip (K : PySem.W.Frag) (ta : TA) : TI := fun σ H R => ta σ H fun vs H1 => ∃ a b xs ys, vs = [.ref a, .ref b] ∧ SqL K H1 a xs ∧ SqL K H1 b ys ∧ R (Itz K a b) H1
theorem pi_zip {elts : List Expr} {ek : Nat} {epos : Pos} {e1 e2 : Expr} {ta : TA} {p pos : Pos} (hg : Gl X "zip") (hm : X.mg "zip" = none) (ha : PA X [e1, e2] ta)
    (hs : starEach [e1, e2] X.env = [(false, eval e1 X.env), (false, eval e2 X.env)] := by rfl) (hs2 : starEach [e2] X.env = [(false, eval e2 X.env)] := by rfl) :
    PI X (.Tuple elts ek epos) (.Call (.Name "zip" p) [e1, e2] [] pos) (iZip X.K ta) := by
  intro pins s σ H R I h
  refine Call_ (ld_blt I hg hm (show bootBuiltins "zip" = some (.type "zip") by decide +kernel) (PyProof.Rows.callWith_type1 (thn (ha pos pins s σ H _ I h) fun us s1 ⟨vs, H1, I1, r1, q1⟩ => ?_) (by rw [hs, hs2]) (by rw [hs2]; rfl)))
  obtain ⟨a, b, xs, ys, rfl, qa, qb, q⟩ := q1
  obtain ⟨u, u', rfl, ru, ru'⟩ := vals2 r1
  cases (show u = Value.ref a from ru)
  cases (show u' = Value.ref b from ru')
  obtain ⟨itsA, rA, pA, zA⟩ := I1.list qa
  obtain ⟨itsB, rB, pB, zB⟩ := I1.list qb
  refine call_zip_2 pA.isList pB.isList fun h' hz hTI hTO h1 h2 hsz hk => wpAny_pyIter_zip hz ?_
  refine ⟨s1.heap.objs.size + 4, _, _, _, H1, rfl, I1.kept (t' := s1.toks) hk, turn_zip a b _ (s1.heap.objs.size + 2) (s1.heap.objs.size + 3) s1.heap.objs.size (s1.heap.objs.size + 1) (Nat.ne_of_lt (Nat.lt_succ_self _)) (Nat.ne_of_lt (Nat.lt_succ_self _)), ⟨hz, hTI, ⟨_, _, hTO⟩, h1, h2⟩, fun c hc => ?_, q⟩
  have e : s1.heap.objs.size ≤ c := by
    simp only [List.mem_cons, List.not_mem_nil, or_false] at hc
    rcases hc with rfl | rfl | rfl | rfl | rfl
    · exact Nat.le_add_right _ _
    · exact Nat.le_add_right _ _
    · exact Nat.le_add_right _ _
    · exact Nat.le_refl _
    · exact Nat.le_add_right _ _
  exact I1.fpOk e (I1.hok.fresh e)
end
theorem for_zip {K : PySem.W.Frag} {a b : Addr} {xs ys : List V} {g : TG} {tb : TS} {D : Ends} {σ : St} {H : Hp} (Pv : Nat → St → Hp → Prop) (h0 : Pv 0 σ H) (hl : ∀ i σ H, Pv i σ H → SqL K H a xs ∧ SqL K H b ys)
    (hs : ∀ i x y σ H p, xs[i]? = some x → ys[i]? = some y → H p = none → Pv i σ H → g (.ref p) σ (upd H p (.tup [x, y])) fun σ2 H2 => tb { D with nx := Pv (i + 1), ct := Pv (i + 1), bk := D.nx } σ2 H2)
    (hd : ∀ i σ H, i = min xs.length ys.length → Pv i σ H → D.nx σ H) :
    ∃ W : Nat → Nat → St → Hp → Prop, (∃ m, W 0 m σ H) ∧ ∀ i m σ H, W i m σ H →
      ((Itz K a b).stop i H ∧ D.nx σ H) ∨ ((Itz K a b).go i H ∧ ∃ N : St → Hp → Prop, (∀ σ' H', N σ' H' → ∃ m', m' < m ∧ W (i + 1) m' σ' H') ∧ ∀ x H', (Itz K a b).yld i H x H' → g x σ H' fun σ2 H2 => tb { D with nx := N, ct := N, bk := D.nx } σ2 H2) := by
  refine ⟨fun i m σ H => m = min xs.length ys.length - i ∧ i ≤ min xs.length ys.length ∧ Pv i σ H, ⟨min xs.length ys.length, by simp, Nat.zero_le _, h0⟩, ?_⟩
  rintro i m σ H ⟨rfl, hi, p⟩
  obtain ⟨qa, qb⟩ := hl i σ H p
  by_cases hlt : i < min xs.length ys.length
  · have ha : i < xs.length := by omega
    have hb : i < ys.length := by omega
    refine .inr ⟨⟨xs, ys, xs[i], ys[i], qa, qb, by simp [ha], by simp [hb]⟩, Pv (i + 1), fun σ' H' p' => ⟨min xs.length ys.length - (i + 1), by omega, rfl, hlt, p'⟩, fun x H' y => ?_⟩
    obtain ⟨t, rfl, ht, y⟩ := y
    have ea : xs[i]? = some xs[i] := by simp [ha]
    have eb : ys[i]? = some ys[i] := by simp [hb]
    rw [y xs ys xs[i] ys[i] qa qb ea eb]
    exact hs i xs[i] ys[i] σ H t ea eb ht p
  · exact .inl ⟨⟨xs, ys, qa, qb, by omega⟩, hd i σ H (by omega) p⟩
structure FunD (K : PySem.W.Frag) (x qual : Str) (st : Stmt) (dV : Value) (f : Addr) (fd : FuncData) : Prop where
  ex : ∃ (oc : Value) (od : Option Addr) (kV doc pm : Value) (an : Option Addr) (cdv ct : Value) (osl : Array (Option Value)),
    fd = PySem.W.fnOf x qual (defArgs st) (defBody st) (defScope st) dV kV doc pm an cdv ct ∧ K.lookup f = some ⟨oc, od, .func fd, osl⟩ ∧ PySem.W.codeIn K cdv qual = true
  kp : PySem.W.keepIn K (.ref f) = true
section
variable {P : Program} {w : World} {K : PySem.W.Frag} {mg : Str → Option Value} {base : Heap}
theorem FunD.ok {x qual : Str} {st : Stmt} {dV : Value} {f : Addr} {fd : FuncData} {N ps : List Str} {k : Nat} {sp : Sp} (F : FunD K x qual st dV f fd) (S : FnScope N ps (defScope st)) (len : ∀ vs H Q E, sp vs H Q E → vs.length = ps.length)
    (hbody : ∀ (cdv : Value) (A : Around) (outer : List Env) (s : Shared) (H : Hp) (vs : List V) (Q : VK) (E : XK), Room k (A.deeper (envOfC qual (defScope st) s.heap.objs.size f cdv)) → sp vs H Q E →
      ∃ t, PSs (cxOf CX0 P w K mg base N qual (defScope st) f cdv A outer s H E).nox (defBody st) t ∧ t { nx := fun _ H' => Q .non H', rt := Q } (start N vs) H) : FnOk P w K mg base CX0 (k + 1) f fd ps sp := by
  obtain ⟨oc, od, kV, doc, pm, an, cdv, ct, osl, rfl, lk, hcd⟩ := F.ex
  refine fn_of lk hcd S len fun A outer s H vs Q E hr hsp => ?_
  obtain ⟨t, h, q⟩ := hbody cdv A outer s H vs Q E hr hsp
  exact ⟨t, h.nox, q⟩
theorem binds_d {fd : FuncData} {ps : List Str} {ds : List Value} {T : Addr} {o : Obj} {items : Array Value} {n : Nat} (hd : fd.defaults = .ref T) (lk : K.lookup T = some o) (hs : o.data = .seq items n)
    (h : ∀ us : List Value, (us ++ ds).length = ps.length → ∃ k, bindArgs fd ⟨us, []⟩ = seqItems? fd.defaults >>= k ∧ k (some items) = pure (ps.zip (us ++ ds))) : Binds K fd ps ds := fun s us kin hl => by
  obtain ⟨k, h1, h2⟩ := h us hl
  exact .of_defaults hd (kin _ _ lk) hs h1 h2
end
def DefOk (P : Program) (w : World) (K : PySem.W.Frag) (mg : Str → Option Value) (base : Heap) (k : Nat) (x : Str) (ps : List Str) (sp : Sp) : Prop :=
  ∃ f fd, FnOk P w K mg base CX0 k f fd ps sp ∧ mg x = some (.ref f) ∧ PySem.W.keepIn K (.ref f) = true ∧ Binds K fd ps []
def MetOk (P : Program) (w : World) (K : PySem.W.Frag) (mg : Str → Option Value) (base : Heap) (C : Addr) (k : Nat) (m : Str) (ps : List Str) (sp : Sp) : Prop :=
  ∃ f fd, FnOk P w K mg base CX0 k f fd ps sp ∧ Meth K C m f ∧ Binds K fd ps []
section
variable {X : Cx} {k : Nat} {C : Addr} {ps : List Str} {sp : Sp} {dvs : List V} {ds : List Value} {x m : Str} {p pos apos : Pos} {e o : Expr} {es : List Expr} {ta : TE} {t : TA}
theorem pe_fn (D : DefOk X.prog X.w X.K X.mg X.base k x ps sp) (hr : Room k X.A) (hg : Gl X x) (ha : PA X (e :: es) t) (hdb : (x == ("__debug__" : Str)) = false := by decide)
    (he : starEach (e :: es) X.env = (false, eval e X.env) :: starEach es X.env := by rfl) (hpl : (backTo pos (starEach es X.env)).any (·.1) = false := by rfl) : PE X (.Call (.Name x p) (e :: es) [] pos) (tCall sp [] E0 t) := by
  obtain ⟨f, fd, F, hm, hk, hb⟩ := D
  exact pe_call F hr hg hm hk hb .nil pass0 ha hdb he hpl
end
end L2
namespace L2
open PySem PySem.Spec PyProof.Rows
section
variable {X : Cx} {k : Nat} {C : Addr} {ps : List Str} {sp : Sp} {x m : Str} {p pos apos : Pos} {e o : Expr} {es : List Expr} {ta : TE} {t : TA}
theorem pe_mt0 {pl : Sem Bool} (he : PE X o ta) (c : Cls X.K C) (D : MetOk X.prog X.w X.K X.mg X.base C k m ps sp) (hr : Room k X.A)
    (ht : eval (.Call (.Attribute o m apos) [] [] pos) X.env = (do
      let ov ← eval o X.env
      standAt apos.atName
      let (f, first) ← holding [ov] (getMethod ov m pl)
      callWith pos f first (backTo pos (starEach [] X.env)) (backToKw pos (keywordEach [] X.env))) := by rfl) :
    PE X (.Call (.Attribute o m apos) [] [] pos) (tMeth C m sp [] E0 ta tNil) := by
  obtain ⟨f, fd, F, hm, hb⟩ := D
  exact pe_meth0 (pl := pl) he c hm F hr hb .nil pass0 ht
end
section
variable {P : Program} {w : World} {K : PySem.W.Frag} {mg : Str → Option Value} {base : Heap}
theorem Fun.def_ {x : Str} {st : Stmt} {f : Addr} {fd : FuncData} {ps : List Str} {k : Nat} {sp : Sp} (F : Fun K x x st f fd) (hm : mg x = some (.ref f)) (hf : FnOk P w K mg base CX0 k f fd ps sp) (hb : Binds K fd ps []) : DefOk P w K mg base k x ps sp :=
  ⟨f, fd, hf, hm, F.kp, hb⟩
end
theorem bt_len : bootBuiltins "len" = some (.builtin "len") := by decide +kernel
theorem bt_isinstance : bootBuiltins "isinstance" = some (.builtin "isinstance") := by decide +kernel
theorem bt_list : bootBuiltins "list" = some (.type "list") := by decide +kernel
theorem bt_tuple : bootBuiltins "tuple" = some (.type "tuple") := by decide +kernel
theorem bt_int : bootBuiltins "int" = some (.type "int") := by decide +kernel
theorem bt_bool : bootBuiltins "bool" = some (.type "bool") := by decide +kernel
theorem bt_str : bootBuiltins "str" = some (.type "str") := by decide +kernel
theorem kit_int_int (K : PySem.W.Frag) : PySem.W.kitOne K (.type "int") (.type "int") = some true := by rfl
theorem kit_int_bool (K : PySem.W.Frag) : PySem.W.kitOne K (.type "int") (.type "bool") = some false := by rfl
theorem kit_list (K : PySem.W.Frag) : PySem.W.kitOne K (.type "list") (.type "list") = some true := by rfl
theorem kit_tuple (K : PySem.W.Frag) : PySem.W.kitOne K (.type "tuple") (.type "tuple") = some true := by rfl
theorem Same.get {H H' : Hp} (s : Same H H') {b : Addr} {o : HO} (h : H b = some o) : H' b = some o := s b o h
theorem same_upd {H : Hp} {p : Addr} {o : HO} (h : H p = none) : Same H (upd H p o) := fun b u e => by rw [upd_ne (ne_of_none e h)]; exact e
end L2
namespace L2
open PySem PySem.Spec PyProof.Rows
def blk (X : Cx) (Nc : List Str) (scope : Scope) (cl : List (Str × Addr)) (C : Addr) (s : Shared) (H : Hp) (ex : List Addr) : Cx where
  prog := X.prog
  w := X.w
  K := X.K
  mg := X.mg
  base := X.base
  A := X.A
  N := Nc
  s₀ := s
  H₀ := H
  env := compEnvC scope cl C X.env
  outer := X.stack
  stack := X.stack
  ex := ex
  fn := fun _ => false
  calm := X.calm
  pn := []
  xe := fun _ _ => False
structure LcOk (X : Cx) (scope : Scope) (cl : List (Str × Addr)) : Prop where
  clos : closureFor scope X.env = pure cl
  kind : scope.kind = .function
  nocell : ∀ y ∈ scope.names, y.2 ≠ .cell
  names : ∀ y ∈ scope.names, y.2 = .local → scope.names.lookup y.1 = some .local
  sub : ∀ x c, cl.lookup x = some c → X.env.cells.lookup x = some c
  has : ∀ x, ((relabel scope X.env).names.lookup x = some .cell ∨ (relabel scope X.env).names.lookup x = some .free) → ∃ c, cl.lookup x = some c
def FvOk (X : Cx) (scope : Scope) (cl : List (Str × Addr)) : List Str → List Nat → Prop
  | [], [] => True
  | x :: xs, j :: js => (X.N[j]? = some x ∧ (X.env.kindOf x = some .cell ∨ X.env.kindOf x = some .free) ∧ cl.lookup x = X.env.cells.lookup x ∧
      ((relabel scope X.env).names.lookup x = some .cell ∨ (relabel scope X.env).names.lookup x = some .free)) ∧ FvOk X scope cl xs js
  | _, _ => False
def lcσ (nv : Nat) (fv : List Nat) (σ : St) : St := List.replicate nv none ++ fv.map fun j => (σ[j]?).join
theorem FvOk.len {X : Cx} {scope : Scope} {cl : List (Str × Addr)} : ∀ {xs : List Str} {js : List Nat}, FvOk X scope cl xs js → xs.length = js.length
  | [], [], _ => rfl
  | _ :: _, _ :: _, h => by simp [FvOk.len h.2]
  | [], _ :: _, h => h.elim
  | _ :: _, [], h => h.elim
theorem FvOk.get {X : Cx} {scope : Scope} {cl : List (Str × Addr)} : ∀ {xs : List Str} {js : List Nat} {k : Nat} {x : Str} {j : Nat}, FvOk X scope cl xs js → xs[k]? = some x → js[k]? = some j →
    X.N[j]? = some x ∧ (X.env.kindOf x = some .cell ∨ X.env.kindOf x = some .free) ∧ cl.lookup x = X.env.cells.lookup x ∧ ((relabel scope X.env).names.lookup x = some .cell ∨ (relabel scope X.env).names.lookup x = some .free)
  | [], [], _, _, _, _, e, _ => by simp at e
  | _ :: _, _ :: _, 0, _, _, h, e, e' => by simp at e e'; subst e; subst e'; exact h.1
  | _ :: _, _ :: _, k + 1, x, j, h, e, e' => FvOk.get (k := k) h.2 (by simpa using e) (by simpa using e')
  | [], _ :: _, _, _, _, h, _, _ => h.elim
  | _ :: _, [], _, _, _, h, _, _ => h.elim
abbrev emptyList : Obj := { cls := .type "list", dict := none, data := .seq ([] : List Value).toArray }
theorem ltS {h : Heap} {b : Addr} {o : Obj} (e : h.get? b = some o) : b ≠ (h.push emptyList).objs.size := Nat.ne_of_lt (by rw [Heap.size_push]; exact Nat.lt_succ_of_lt (Heap.lt_size e))
theorem neS {h : Heap} : h.objs.size ≠ (h.push emptyList).objs.size := Nat.ne_of_lt (by rw [Heap.size_push]; exact Nat.lt_succ_self _)
theorem leS {h : Heap} : h.objs.size ≤ (h.push emptyList).objs.size := by rw [Heap.size_push]; exact Nat.le_succ _
theorem neZ {h : Heap} {b : Addr} {o : Obj} (e : h.get? b = some o) : b ≠ h.objs.size := Nat.ne_of_lt (Heap.lt_size e)
section
variable {X : Cx} {pins : List (Addr × Obj)} {σ : St} {H : Hp} {s : Shared} {scope : Scope} {cl : List (Str × Addr)} {vars frees : List Str} {fv : List Nat} {fp : List Addr}
theorem inv_blk {h' : Heap} {t' : Nat} (I : Inv X pins σ H s) (L : LcOk X scope cl) (fo : FvOk X scope cl frees fv) (hf : ∀ b ∈ fp, FpOk X pins H b) (ho : ∀ b ∈ fp, ∃ o, s.heap.get? b = some o)
    (hns : h'.Ns (s.heap.push emptyList).objs.size (fun _ => none)) (hsb : ∀ b o, b ≠ (s.heap.push emptyList).objs.size → (s.heap.push emptyList).get? b = some o → h'.get? b = some o) :
    Inv (blk X (vars ++ frees) scope cl (s.heap.push emptyList).objs.size { s with heap := s.heap.push emptyList } H (s.heap.objs.size :: fp)) [(s.heap.objs.size, emptyList)] (lcσ vars.length fv σ) H { s with heap := h', toks := t' } := by
  have hC : (s.heap.push emptyList).objs.size = s.heap.objs.size + 1 := Heap.size_push ..
  have hlt : ∀ {b : Addr} {o : Obj}, s.heap.get? b = some o → b < s.heap.objs.size := fun e => Heap.lt_size e
  have old : ∀ b o, s.heap.get? b = some o → h'.get? b = some o := fun b o e => hsb b o (ltS e) (Heap.get?_push_of_some _ e)
  have hD : h'.get? s.heap.objs.size = some emptyList := hsb _ _ neS (Heap.get?_push_size _ rfl)
  have stk : ∀ b ∈ frs X.stack, b < s.heap.objs.size ∧ b ∉ fp := fun b hb => by
    rcases List.mem_cons.mp (I.stkSub b hb) with z | z
    · exact ⟨by rw [z]; exact I.lt, fun q => (hf b q).2.1 z⟩
    · refine ⟨?_, fun q => (hf b q).2.2.1 z⟩
      apply Nat.lt_of_not_le
      intro q
      exact I.nofs q z
  have cellL : ∀ x c, cl.lookup x = some c → c < s.heap.objs.size := fun x c e => by
    obtain ⟨v, q⟩ := I.cell x c (L.sub x c e)
    exact q.lt
  refine ⟨⟨I.ok.mod, L.kind, I.ok.glob, I.ok.blt, Nat.le_refl _, fun x y c e1 e2 => I.ok.inj x y c (L.sub x c e1) (L.sub y c e2), fun x h => L.has x h, (fun x c z => nomatch z), I.ok.hd, I.ok.frames, .inl rfl, fun b hb => ?_, fun b o e => ?_, ?_, fun b o e hb => ?_, fun b hb hq => ?_, ?_, fun b hb => I.stkFree b hb⟩,
    rfl, I.bare, Un.kept fun b u e => ?_, ⟨_, hns, fun i x v e1 e2 e3 => ?_⟩, fun x c e => ?_, ?_, fun x c e => I.freeC x c (L.sub x c e), fun p hp => ?_, I.hok.kept old, ?_⟩
  ·
    refine ⟨?_, fun x c e z => ?_⟩
    · show b ≠ (s.heap.push emptyList).objs.size
      rcases List.mem_cons.mp hb with z | z
      · rw [z]; exact neS
      · obtain ⟨o, e⟩ := ho b z
        exact ltS e
    · rcases List.mem_cons.mp hb with q | q
      · exact Nat.ne_of_lt (cellL x c e) (z.trans q)
      · exact (hf b q).2.2.2.2.1 x c (L.sub x c e) z
  · exact ⟨Heap.get?_push_of_some _ (I.bs b o e).1, (I.bs b o e).2⟩
  · exact Nat.le_trans (Nat.le_trans I.ok.bsz I.sz) leS
  ·
    rcases List.mem_cons.mp hb with q | q
    · exact neZ (I.bs b o e).1 q
    · rcases (hf b q).2.2.2.1 with z | z
      · exact I.ok.noex b o e z
      · exact absurd (Nat.lt_of_lt_of_le (Heap.lt_size (I.ok.bs b o e).1) z) (Nat.lt_irrefl _)
  ·
    obtain ⟨h1, h2⟩ := stk b hq
    rcases List.mem_cons.mp hb with q | q
    · exact Nat.ne_of_lt h1 q
    · exact h2 q
  · exact Heap.FunFrames.of_keeps (fun b o e _ => ⟨o, Heap.get?_push_of_some _ e, rfl⟩) I.stack
  · exact hsb b u (Nat.ne_of_lt (Heap.lt_size e)) e
  ·
    obtain ⟨m, hn, hl⟩ := I.loc
    have hi : vars.length ≤ i := by
      apply Nat.le_of_not_lt
      intro z
      rw [show lcσ vars.length fv σ = List.replicate vars.length none ++ fv.map fun j => (σ[j]?).join from rfl, List.getElem?_append_left (by simpa using z), List.getElem?_replicate_of_lt (by simpa using z)] at e2
      cases e2
    obtain ⟨k, rfl⟩ : ∃ k, i = vars.length + k := ⟨i - vars.length, by omega⟩
    have e1' : frees[k]? = some x := by
      have e1'' : (vars ++ frees)[vars.length + k]? = some x := e1
      rw [List.getElem?_append_right (by omega)] at e1''
      simpa using e1''
    have e2' : (fv.map fun j => (σ[j]?).join)[k]? = some (some v) := by
      rw [show lcσ vars.length fv σ = List.replicate vars.length none ++ fv.map fun j => (σ[j]?).join from rfl, List.getElem?_append_right (by simp)] at e2
      simpa using e2
    rw [List.getElem?_map] at e2'
    obtain ⟨j, hj, ej⟩ := Option.map_eq_some_iff.mp e2'
    have ej' : σ[j]? = some (some v) := by
      cases q : σ[j]? with
      | none => rw [q] at ej; cases ej
      | some y => rw [q] at ej; exact congrArg some ej
    obtain ⟨f1, f2, f3, f4⟩ := fo.get e1' hj
    obtain ⟨u, ru, lk⟩ := hl j x v f1 ej' (f2.elim (fun z => .inr (.inl z)) fun z => .inr (.inr z))
    refine ⟨u, ru, .inr ⟨f4, ?_⟩⟩
    rcases lk with ⟨z, _⟩ | ⟨_, c, hc, o, q, d⟩
    · rcases f2 with y | y <;> rw [y] at z <;> cases z
    · exact ⟨c, f3.trans hc, o, old c o q, d⟩
  · obtain ⟨v, o, q, d⟩ := I.cell x c (L.sub x c e)
    exact ⟨v, o, old c o q, d⟩
  · exact I.hok.fresh leS
  · have e : p = (s.heap.objs.size, emptyList) := by
      have hp' : p ∈ ([] : List (Addr × Obj)) ++ [(s.heap.objs.size, emptyList)] := hp
      simpa using hp'
    subst e
    refine ⟨hD, I.hok.fresh (Nat.le_refl _), neS, fun q => ?_, fun v q => by have q' : Data.seq _ _ = Data.cell v := q; cases q'⟩
    exact Nat.lt_irrefl _ (stk _ q).1
  · show (lcσ vars.length fv σ).length = (vars ++ frees).length
    simp [lcσ, fo.len]
end
def PIfs (X : Cx) (ifs : List Expr) (t : TT) : Prop :=
  ∀ (pins : List (Addr × Obj)) (s : Shared) (σ : St) (H : Hp) (Q : Bool → Hp → Prop), Inv X pins σ H s → t σ H Q →
    wpAny (model X.prog X.w) X.A (forIn ifs true fun c r => if r = true then do let ok ← isTrue c X.env (eval c X.env); pure (ForInStep.yield ok) else pure (ForInStep.yield r)) (TP X pins σ Q) X.xe s
def tYes : TT := fun _ H Q => Q true H
theorem yes_ {σ : St} {H : Hp} {Q : Bool → Hp → Prop} (h : Q true H) : tYes σ H Q := h
theorem pif_none {X : Cx} : PIfs X [] tYes := fun _ _ _ H _ I h => wpAny_tests_nil ⟨H, I, h⟩
def lcGoal (J : It) (Q : VK) (g : TG) (tc : TT) (te : TE) (σc : St) (H1 : Hp) : Prop := ∃ W : Nat → Nat → List V → Hp → Prop, (∃ m, W 0 m [] H1) ∧ ∀ i m ys H2, W i m ys H2 →
  (J.stop i H2 ∧ ys.length ≤ sizeLine ∧ ∀ p, H2 p = none → Q (.ref p) (upd H2 p (.lst ys))) ∨
  (J.go i H2 ∧ ys.length < sizeLine ∧ ∃ N : List V → Hp → Prop, (∀ zs H', N zs H' → ∃ m', m' < m ∧ W (i + 1) m' zs H') ∧ ∀ x H3, J.yld i H2 x H3 → g x σc H3 fun σ4 H4 => tc σ4 H4 fun b H5 => if b = true then te σ4 H5 fun v H6 => N (ys ++ [v]) H6 else N ys H5)
def tLC (nv : Nat) (fv : List Nat) (wi : TI) (g : TG) (tc : TT) (te : TE) : TE := fun σ H Q => wi σ H fun J H1 => lcGoal J Q g tc te (lcσ nv fv σ) H1
theorem codeAny_lc {prog : Program} {w : World} {A : Around} {R : Result → Shared → Prop} {s : Shared} {elt target iter : Expr} {ifs : List Expr} {scope : Scope} {pos : Pos} {it acc : Value} {env : Env} (I : Nat → Shared → Prop)
    (turn : ∀ n s, I n s → wpAny (model prog w) A (pyNext it) (fun r s₁ => match r with
      | none => R (.ok .next) s₁
      | some v => wpAny (model prog w) A (letOwnedTupleGo target it v) (fun _ s₁' => wpAny (model prog w) A (assign target env v) (fun _ s₂ =>
          wpAny (model prog w) A (forIn ifs true fun c r => if r = true then do let ok ← isTrue c env (eval c env); pure (ForInStep.yield ok) else pure (ForInStep.yield r)) (fun ok s₃ =>
            if ok = true then wpAny (model prog w) A (eval elt env) (fun x s₄ =>
              wpAny (model prog w) A (call (.builtin "list.append") [acc, x]) (fun _ s₅ => ∃ m, m < n ∧ I m s₅) (notedBy (model prog w) A env fun e s' => R (.error e) s') s₄) (notedBy (model prog w) A env fun e s' => R (.error e) s') s₃
            else ∃ m, m < n ∧ I m s₃) (notedBy (model prog w) A env fun e s' => R (.error e) s') s₂) (notedBy (model prog w) A env fun e s' => R (.error e) s') s₁') (notedBy (model prog w) A env fun e s' => R (.error e) s') s₁) (notedBy (model prog w) A env fun e s' => R (.error e) s') s)
    (n : Nat) (h : I n s) : codeAny (model prog w) A (.compLoop (.ListComp elt [⟨target, iter, ifs, 0⟩] scope pos) 0 it acc env) R s := by
  refine codeAny_loop rfl I (fun n s hI => ?_) n h
  show wpAny _ A ((compTurn (.ListComp elt [⟨target, iter, ifs, 0⟩] scope pos) 0 it acc env).onRaise (fun x => do noteFrame x env; theTreesLotGoes x)) _ _ s
  refine wpAny_noted ?_
  rw [compTurn_list]
  refine wpAny_bind (wpAny_standAt (wpAny_bind (wpAny_mono (turn n s hI) (fun r s₁ h₁ => ?_) fun _ _ h' => h')))
  cases r with
  | none => exact wpAny_pure h₁
  | some v =>
    refine wpAny_bind (wpAny_mono h₁ (fun _ s₁' h₁' => ?_) fun _ _ h' => h')
    refine wpAny_bind (wpAny_mono h₁' (fun _ s₂ h₂ => wpAny_bind (wpAny_mono h₂ (fun ok s₃ h₃ => ?_) fun _ _ h' => h')) fun _ _ h' => h')
    cases ok with
    | false => exact wpAny_pure ⟨rfl, h₃⟩
    | true =>
      exact wpAny_bind (wpAny_bind (wpAny_mono h₃ (fun x s₄ h₄ => wpAny_bind (wpAny_mono h₄ (fun _ s₅ h₅ => wpAny_pure (wpAny_pure ⟨rfl, h₅⟩)) fun _ _ h' => h')) fun _ _ h' => h'))
def GKeep (nv : Nat) (g : TG) : Prop := ∀ x σ H (K : St → Hp → Prop), g x σ H K → g x σ H fun σ' H' => K σ' H' ∧ σ'.length = σ.length ∧ ∀ i, nv ≤ i → σ'[i]? = σ[i]?
theorem gk_name {nv i : Nat} (h : i < nv) : GKeep nv (gName i) := fun x σ H K q => ⟨q, by simp, fun j hj => by rw [List.getElem?_set_ne (by omega)]⟩
theorem gk_pair {F : PySem.W.Frag} {nv i j : Nat} (hi : i < nv) (hj : j < nv) : GKeep nv (gTup F 2 (gCons (gName i) (gCons (gName j) gNil))) := fun x σ H K ⟨a, xs, e, hq, hl, v, r, e1, v2, r2, e2, e3, q⟩ =>
  ⟨a, xs, e, hq, hl, v, r, e1, v2, r2, e2, e3, q, by simp, fun k hk => by rw [List.getElem?_set_ne (by omega), List.getElem?_set_ne (by omega)]⟩
abbrev lobj (us : List Value) (n : Nat) : Obj := { cls := .type "list", data := .seq us.toArray n }
theorem lc_loop {Y : Cx} {D it : Addr} {J : It} {fp : List Addr} {tn : Nat → Heap → Prop} {g : TG} {tc : TT} {te : TE} {Q : VK} {W : Nat → Nat → List V → Hp → Prop} {nv n0 m0 : Nat} {σc : St} {H : Hp} {s : Shared}
    {elt target iter : Expr} {ifs : List Expr} {scope : Scope} {pos : Pos} {R : Result → Shared → Prop} (hx : Y.xe = fun _ _ => False)
    (hc : Y.calm = true) (hg : PG Y target g) (hk : GKeep nv g) (hi : PIfs Y ifs tc) (he : PE Y elt te) (T : Turn Y.prog Y.w Y.K target J fp it tn)
    (hnv : ∀ i, i < nv → ∀ v, σc[i]? ≠ some (some v))
    (d1 : D ≠ Y.env.locals) (d2 : D ∈ Y.ex) (d3 : D ∉ Y.fs) (d4 : ∀ x c, Y.env.cells.lookup x = some c → c ≠ D) (d5 : D ∉ fp) (d6 : Y.pn = [])
    (hf : ∀ b ∈ fp, b ≠ Y.env.locals ∧ b ∉ Y.fs ∧ (b ∈ Y.ex ∨ Y.s₀.heap.objs.size ≤ b) ∧ (∀ x c, Y.env.cells.lookup x = some c → c ≠ b))
    (I0 : Inv Y [(D, lobj [] n0)] σc H s) (st : tn 0 s.heap) (fr : ∀ b ∈ fp, H b = none) (w0 : W 0 m0 [] H)
    (turn : ∀ i m ys H2, W i m ys H2 → (J.stop i H2 ∧ ys.length ≤ sizeLine ∧ ∀ p, H2 p = none → Q (.ref p) (upd H2 p (.lst ys))) ∨
      (J.go i H2 ∧ ys.length < sizeLine ∧ ∃ N : List V → Hp → Prop, (∀ zs H', N zs H' → ∃ m', m' < m ∧ W (i + 1) m' zs H') ∧ ∀ x H3, J.yld i H2 x H3 → g x σc H3 fun σ4 H4 => tc σ4 H4 fun b H5 => if b = true then te σ4 H5 fun v H6 => N (ys ++ [v]) H6 else N ys H5))
    (hend : ∀ ys us n H' s', Inv Y [(D, lobj us n)] σc H' s' → Vals ys us → ys.length ≤ sizeLine → (∀ p, H' p = none → Q (.ref p) (upd H' p (.lst ys))) → R (.ok .next) s') :
    codeAny (model Y.prog Y.w) Y.A (.compLoop (.ListComp elt [⟨target, iter, ifs, 0⟩] scope pos) 0 (.ref it) (.ref D) Y.env) R s := by
  have fpok : ∀ {H' : Hp} {o : Obj}, (∀ b ∈ fp, H' b = none) → ∀ b ∈ fp, FpOk Y [(D, o)] H' b := fun {H' o} hn b hb => by
    obtain ⟨f1, f2, f3, f4⟩ := hf b hb
    refine ⟨hn b hb, f1, f2, f3, f4, fun p hp => ?_⟩
    rw [d6] at hp
    have e : p = (D, o) := by simpa using hp
    rw [e]
    exact fun z => d5 (by rw [show D = b from z]; exact hb)
  refine codeAny_lc (fun n s' => ∃ i ys us k H', Inv Y [(D, lobj us k)] σc H' s' ∧ Vals ys us ∧ tn i s'.heap ∧ (∀ b ∈ fp, H' b = none) ∧ W i n ys H') ?_ m0 ⟨0, [], [], n0, H, I0, .nil, st, fr, w0⟩
  rintro n s3 ⟨i, ys, us, k, H3, I3, rv, st3, fr3, w3⟩
  have ex0 : ∀ {E' : Value → Shared → Prop} {e : Value} {s' : Shared}, Y.xe e s' → E' e s' := fun {E' e s'} z => by rw [hx] at z; exact z.elim
  rcases turn i n ys H3 w3 with ⟨stop, hz, q⟩ | ⟨go, hz, N, hN, step⟩
  · refine thn (T.done Y rfl rfl rfl hc i _ s3 σc H3 _ I3 (fpok fr3) st3 stop) fun r s4 hq__ => ?_
    obtain ⟨hr, I4⟩ := hq__
    subst hr
    exact hend ys us k H3 s4 I4 rv hz q
  · refine thn (T.item Y rfl rfl rfl hc i _ s3 σc H3 _ I3 (fpok fr3) st3 go) fun r s4 hq__ => ?_
    obtain ⟨u, hr, h4⟩ := hq__
    subst hr
    refine thn h4 fun _ s5 hq__ => ?_
    obtain ⟨x, H5, I5, r5, y5, st5, fr5⟩ := hq__
    have I5' := I5.pinned (fpok fr5) (T.obj _ _ st5)
    refine wpAny_mono (hg _ s5 σc H5 x u _ I5' r5 (hk x σc H5 _ (step x H5 y5))) (fun _ s6 hq__ => ?_) fun _ _ z => ex0 z
    obtain ⟨σ6, H6, I6, q6, l6, e6⟩ := hq__
    have wk : ∀ (i : Nat) v, σc[i]? = some (some v) → σ6[i]? = some (some v) := fun i v e => by
      by_cases h : nv ≤ i
      · rw [e6 i h]; exact e
      · exact absurd e (hnv i (by omega) v)
    have back : ∀ {o : Obj} {H' : Hp} {s' : Shared}, Inv Y ([(D, o)] ++ pinsAt fp s5.heap) σ6 H' s' → Inv Y [(D, o)] σc H' s' ∧ tn (i + 1) s'.heap ∧ ∀ b ∈ fp, H' b = none := fun {o H' s'} I' => by
      refine ⟨(I'.unpinned).weak (by rw [← l6]) wk, T.keep _ _ _ st5 fun b hb o e => (I'.pin (b, o) (List.mem_append_right _ (List.mem_append_right _ (mem_pinsAt hb e)))).1, fun b hb => ?_⟩
      obtain ⟨o, e, _⟩ := T.obj _ _ st5 b hb
      exact (I'.pin (b, o) (List.mem_append_right _ (List.mem_append_right _ (mem_pinsAt hb e)))).2.1
    refine wpAny_mono (hi _ s6 σ6 H6 _ I6 q6) (fun b s7 hq__ => ?_) fun _ _ z => ex0 z
    obtain ⟨H7, I7, q7⟩ := hq__
    cases b with
    | false =>
      obtain ⟨m', hm, w7⟩ := hN ys H7 q7
      obtain ⟨I8, st8, fr8⟩ := back I7
      exact ⟨m', hm, i + 1, ys, us, k, H7, I8, rv, st8, fr8, w7⟩
    | true =>
      refine wpAny_mono (he _ s7 σ6 H7 _ I7 q7) (fun u2 s8 hq__ => ?_) fun _ _ z => ex0 z
      obtain ⟨v, H8, I8, r8, n8⟩ := hq__
      obtain ⟨m', hm, w8⟩ := hN _ H8 n8
      obtain ⟨I9, st9, fr9⟩ := back I8
      obtain ⟨eD, nD, _, _, _⟩ := I9.pin (D, lobj us k) (by simp)
      have hlen := rv.length
      refine call_meets F.slot_list_append ⟨_, eD, rfl⟩ F.entry_list_append (F.args_list_append_2 _ _) (PySem.list_append D us.toArray k u2 (by rw [List.size_toArray]; omega)) ⟨eD, ?_⟩
      have q := PySem.IsL.update eD (fun x_1 => x_1.push u2)
      have eq : us.toArray.push u2 = (us ++ [u2]).toArray := by simp
      rw [eq] at q
      obtain ⟨n', q⟩ : ∃ n', (s8.heap.update D (Obj.mapSeq fun x_1 => x_1.push u2)).get? D = some (lobj (us ++ [u2]) n') := ⟨_, q⟩
      have I10 : Inv Y [] σc H8 s8 := I9.pins_of fun p hp => by cases hp
      have I11 : Inv Y [] σc H8 { s8 with heap := s8.heap.update D (Obj.mapSeq fun x_1 => x_1.push u2), toks := s8.toks } :=
        I10.turned (it := D) (fun b o hb e => (Heap.get?_update_other s8.heap (Obj.mapSeq _) (Ne.symm hb)).trans e) nD d1 (.inl d2) d4 (fun p hp => by rw [d6] at hp; cases hp)
      refine ⟨m', hm, i + 1, ys ++ [v], us ++ [u2], n', H8, I11.pins_of (fun p hp => ?_), rv.append (.cons r8 .nil), ?_, fr9, w8⟩
      · have e : p = (D, lobj (us ++ [u2]) n') := by simpa using hp
        subst e
        exact ⟨q, nD, d1, d3, fun v z => by have z' : Data.seq _ _ = Data.cell v := z; cases z'⟩
      · refine T.keep _ _ _ st9 fun b hb o e => ?_
        exact (Heap.get?_update_other s8.heap (Obj.mapSeq _) (fun z => d5 (by rw [z]; exact hb))).trans e
section
variable {X : Cx} {pins : List (Addr × Obj)} {σ : St} {H : Hp} {s : Shared} {scope : Scope} {cl : List (Str × Addr)} {vars frees : List Str} {fv : List Nat} {elt target iter : Expr} {ifs : List Expr} {pos : Pos}
def LcEnd (X : Cx) (pins : List (Addr × Obj)) (σ : St) (Q : VK) (D C : Addr) (s' : Shared) : Prop :=
  ∃ (ys : List V) (H' : Hp) (oC : Obj) (m : Str → Option Value), Inv X (pins ++ [(C, oC)]) σ (upd H' D (.lst ys)) s' ∧ s'.heap.Ns C m ∧ FpOk X pins (upd H' D (.lst ys)) C ∧ Q (.ref D) (upd H' D (.lst ys))
theorem lc_core {J : It} {fp : List Addr} {it : Addr} {tn : Nat → Heap → Prop} {g : TG} {tc : TT} {te : TE} {Q : VK} {W : Nat → Nat → List V → Hp → Prop} {m0 : Nat} {E : Value → Shared → Prop} {E2 : Value → Addr → Value → Shared → Prop}
    (hc : X.calm = true) (L : LcOk X scope cl) (fo : FvOk X scope cl frees fv) (hk : GKeep vars.length g)
    (hg : ∀ C s H ex, PG (blk X (vars ++ frees) scope cl C s H ex) target g) (hi : ∀ C s H ex, PIfs (blk X (vars ++ frees) scope cl C s H ex) ifs tc) (he : ∀ C s H ex, PE (blk X (vars ++ frees) scope cl C s H ex) elt te)
    (I : Inv X pins σ H s) (T : Turn X.prog X.w X.K target J fp it tn) (st : tn 0 s.heap) (hf : ∀ b ∈ fp, FpOk X pins H b) (w0 : W 0 m0 [] H)
    (turn : ∀ i m ys H2, W i m ys H2 → (J.stop i H2 ∧ ys.length ≤ sizeLine ∧ ∀ p, H2 p = none → Q (.ref p) (upd H2 p (.lst ys))) ∨
      (J.go i H2 ∧ ys.length < sizeLine ∧ ∃ N : List V → Hp → Prop, (∀ zs H', N zs H' → ∃ m', m' < m ∧ W (i + 1) m' zs H') ∧ ∀ x H3, J.yld i H2 x H3 → g x (lcσ vars.length fv σ) H3 fun σ4 H4 => tc σ4 H4 fun b H5 => if b = true then te σ4 H5 fun v H6 => N (ys ++ [v]) H6 else N ys H5)) :
    wpAny (model X.prog X.w) X.A (newList []) (fun acc s₃ => wpAny (model X.prog X.w) X.A (newFunctionEnv scope X.env.globals cl [] X.env.qual none .none (some X.env)) (fun cenv s₄ =>
      codeAny (model X.prog X.w) X.A (.compStart (.ListComp elt [⟨target, iter, ifs, 0⟩] scope pos) 0 (.ref it) acc { cenv with scope := relabel scope X.env })
        (fun r s' => match r with | .ok _ => ∃ D, acc = .ref D ∧ LcEnd X pins σ Q D cenv.locals s' | .error x => E2 acc cenv.locals x s') s₄) E s₃) E s := by
  have hoo : ∀ b ∈ fp, ∃ o, s.heap.get? b = some o := fun b hb => let ⟨o, e, _⟩ := T.obj 0 _ st b hb; ⟨o, e⟩
  refine wpAny_newObj_type (wpAny_newFunctionEnv L.nocell (by intro y hy; simp at hy) (fun h₁ hns hsb => ?_) L.kind)
  dsimp only at hns hsb ⊢
  have hC : (s.heap.push emptyList).objs.size = s.heap.objs.size + 1 := Heap.size_push ..
  have keep1 : ∀ b o, b ≠ (s.heap.push emptyList).objs.size → (s.heap.push emptyList).get? b = some o → h₁.get? b = some o := fun b o hb e => hsb.extBut b o hb (Heap.get?_push_of_some _ e)
  have I0 : Inv (blk X (vars ++ frees) scope cl (s.heap.push emptyList).objs.size { s with heap := s.heap.push emptyList } H (s.heap.objs.size :: fp)) [(s.heap.objs.size, emptyList)] (lcσ vars.length fv σ) H { s with heap := h₁, toks := s.toks + ([] : List (Str × Value)).length } :=
    inv_blk I L fo hf hoo (by simpa using hns) keep1
  have st1 : tn 0 h₁ := T.keep 0 _ _ st fun b hb o e => keep1 b o (ltS e) (Heap.get?_push_of_some _ e)
  have loop : codeAny (model X.prog X.w) X.A (.compLoop (.ListComp elt [⟨target, iter, ifs, 0⟩] scope pos) 0 (.ref it) (.ref s.heap.objs.size) (compEnvC scope cl (s.heap.push emptyList).objs.size X.env))
      (fun r s' => match r with | .ok _ => ∃ D, Value.ref s.heap.objs.size = .ref D ∧ LcEnd X pins σ Q D (s.heap.push emptyList).objs.size s' | .error x => E2 (.ref s.heap.objs.size) (s.heap.push emptyList).objs.size x s') { s with heap := h₁, toks := s.toks + ([] : List (Str × Value)).length } := by
    refine lc_loop (Y := blk X (vars ++ frees) scope cl (s.heap.push emptyList).objs.size { s with heap := s.heap.push emptyList } H (s.heap.objs.size :: fp)) (nv := vars.length) (n0 := 0) rfl hc (hg _ _ _ _) hk (hi _ _ _ _) (he _ _ _ _) T (fun i hi v e => ?_)
      neS (by show s.heap.objs.size ∈ s.heap.objs.size :: fp; simp) ?_ (fun x c e => ?_) (fun z => ?_) rfl (fun b hb => ?_) I0 st1 (fun b hb => (hf b hb).1) w0 turn ?_
    · rw [show lcσ vars.length fv σ = List.replicate vars.length none ++ fv.map fun j => (σ[j]?).join from rfl, List.getElem?_append_left (by simpa using hi), List.getElem?_replicate_of_lt (by simpa using hi)] at e
      cases e
    · exact (I0.pin (s.heap.objs.size, emptyList) (by simp)).2.2.2.1
    · obtain ⟨v, q⟩ := I.cell x c (L.sub x c e)
      exact Nat.ne_of_lt q.lt
    · obtain ⟨o, e⟩ := hoo _ z
      exact absurd (Heap.lt_size e) (Nat.lt_irrefl _)
    · exact ⟨(I0.ok.exf b (List.mem_cons_of_mem _ hb)).1, I0.ok.exfs b (List.mem_cons_of_mem _ hb), .inl (List.mem_cons_of_mem _ hb), (I0.ok.exf b (List.mem_cons_of_mem _ hb)).2⟩
    · intro ys us n H' s' I' rv hz q
      obtain ⟨eD, nD, _, fD, _⟩ := I'.pin (s.heap.objs.size, lobj us n) (by simp)
      obtain ⟨mC, hnC, _⟩ := I'.loc
      obtain ⟨oC, es, ep, eC, dC, r1, r2⟩ := id hnC
      have nC : H' (s.heap.push emptyList).objs.size = none := I'.free
      have neDC : (s.heap.push emptyList).objs.size ≠ s.heap.objs.size := neS.symm
      have lt : ∀ {b : Addr} {o : Obj}, s.heap.get? b = some o → b ≠ s.heap.objs.size ∧ b ≠ (s.heap.push emptyList).objs.size := fun e => ⟨neZ e, ltS e⟩
      have nex : ∀ {b : Addr} {o : Obj}, s.heap.get? b = some o → b ∉ fp → b ∉ s.heap.objs.size :: fp := fun e hb z => by
        rcases List.mem_cons.mp z with z | z
        · exact (lt e).1 z
        · exact hb z
      have upn : ∀ {b : Addr} {u : HO}, H' b = some u → upd H' s.heap.objs.size (.lst ys) b = some u := fun e => by rw [upd_ne (ne_of_none e nD)]; exact e
      have un : Un (frs X.stack) fp H (upd H' s.heap.objs.size (.lst ys)) s.heap s'.heap :=
        { keep := fun b o e n hb hx => I'.base.keep b o (Heap.get?_push_of_some _ e) n hb (nex e hx)
          slot := fun b o e n hb hx => I'.base.slot b o (Heap.get?_push_of_some _ e) n hb (nex e hx)
          free := fun b o e n hx => by rw [upd_ne (lt e).1]; exact I'.base.free b o (Heap.get?_push_of_some _ e) n (nex e hx)
          there := fun b o e hx => I'.base.there b o (Heap.get?_push_of_some _ e) (nex e hx)
          tups := fun b xs e => upn (I'.base.tups b xs e)
          frzs := fun b o u e => upn (I'.base.frzs b o u e)
          tbls := fun b ps e => let ⟨more, z⟩ := I'.base.tbls b ps e; ⟨more, upn z⟩ }
      have hok : HOk X.prog X.w (upd H' s.heap.objs.size (.lst ys)) s'.heap := fun b u e => by
        by_cases hb : b = s.heap.objs.size
        · subst hb; rw [upd_same] at e; cases e
          exact ⟨hz, us, n, rv, eD⟩
        · rw [upd_ne hb] at e
          exact (I'.hok b u e).stay (fun c v _ z => z) (fun c z => upn z) fun c xs z => upn z
      have J1 : Inv X pins σ (upd H' s.heap.objs.size (.lst ys)) s' := I.call' (ch := fp) I'.os un hok I'.bare fun b hb => ⟨(hf b hb).2.2.2.1, (hf b hb).2.1, (hf b hb).2.2.2.2.1, (hf b hb).2.2.2.2.2⟩
      have fC : FpOk X pins (upd H' s.heap.objs.size (.lst ys)) (s.heap.push emptyList).objs.size := I.fpOk leS (by rw [upd_ne neDC]; exact nC)
      refine ⟨_, rfl, ys, H', oC, mC, J1.pins_of (fun p hp => ?_), hnC, fC, q _ nD⟩
      rcases List.mem_append.mp hp with z | z
      · exact J1.pin p (List.mem_append_right _ z)
      · have e : p = ((s.heap.push emptyList).objs.size, oC) := by simpa using z
        subst e
        exact ⟨eC, fC.1, fC.2.1, fC.2.2.1, fun v z => by rw [dC] at z; cases z⟩
  exact codeAny_compStart_list loop (T.self _ 0 _ _ _ st1 loop)
theorem pe_lc {wi : TI} {g : TG} {tc : TT} {te : TE} (hc : X.calm = true) (L : LcOk X scope cl) (fo : FvOk X scope cl frees fv) (hit : PI X target iter wi) (hk : GKeep vars.length g)
    (hg : ∀ C s H ex, PG (blk X (vars ++ frees) scope cl C s H ex) target g) (hi : ∀ C s H ex, PIfs (blk X (vars ++ frees) scope cl C s H ex) ifs tc) (he : ∀ C s H ex, PE (blk X (vars ++ frees) scope cl C s H ex) elt te)
    (hs : ∀ x, foldedSetIterable iter X.env x = pure x := by intro _; rfl) : PE X (.ListComp elt [⟨target, iter, ifs, 0⟩] scope pos) (tLC vars.length fv wi g tc te) := by
  intro pins s σ H Q I h
  rw [eval_ListComp]
  refine wpAny_comprehension_free (use := none) rfl hs L.clos L.kind L.names (thn (hit pins s σ H _ I h) fun v s1 h1 => thn h1 fun itv s2 h2 => ?_)
  obtain ⟨it, fp, tn, J, H2, e, I2, T, st2, f2, W, ⟨m0, w0⟩, turn⟩ := h2
  subst e
  refine wpAny_mono (lc_core (E := X.xe) (E2 := fun acc C x s' => compPost (model X.prog X.w) X.A X.xe none (EP X pins σ Q) acc C (.error x) s') hc L fo hk hg hi he I2 T st2 f2 w0 turn) (fun acc s3 h3 => thn h3 fun cenv s4 h4 => codeAny_mono h4 fun r s' h5 => ?_) fun _ _ z => z
  cases r with
  | error x => exact h5
  | ok f =>
    obtain ⟨D, rfl, ys, H', oC, m, J1, hn, fC, q⟩ := h5
    refine ⟨m, hn, fun h' sb => ⟨.ref D, _, ?_, rfl, q⟩⟩
    exact J1.unpinned.turned (t' := s'.toks) (it := cenv.locals) (fun b o hb e => (sb.2 b hb).trans e) fC.1 fC.2.1 fC.2.2.2.1 fC.2.2.2.2.1 fC.2.2.2.2.2
theorem ps_setLC {wi : TI} {g : TG} {tc : TT} {te : TE} {i : Nat} {x : Str} {spos pos' : Pos} (hN : X.N.Nodup) (hix : X.N[i]? = some x) (hlx : Loc X.env.scope x) (hc : X.calm = true) (L : LcOk X scope cl) (fo : FvOk X scope cl frees fv) (hit : PI X target iter wi) (hk : GKeep vars.length g)
    (hg : ∀ C s H ex, PG (blk X (vars ++ frees) scope cl C s H ex) target g) (hi : ∀ C s H ex, PIfs (blk X (vars ++ frees) scope cl C s H ex) ifs tc) (he : ∀ C s H ex, PE (blk X (vars ++ frees) scope cl C s H ex) elt te)
    (hsw : swapsWith (.ListComp elt [⟨target, iter, ifs, 0⟩] scope pos) (some (.Name x pos')) spos.line X.env = pure true := by rfl)
    (hs : ∀ x, foldedSetIterable iter X.env x = pure x := by intro _; rfl) (hf : X.fn x = true ∨ X.env.scope.names.lookup x = some .local := by first | exact .inl rfl | exact .inr rfl | assumption) :
    PS X (.Assign [.Name x pos'] (.ListComp elt [⟨target, iter, ifs, 0⟩] scope pos) spos) (tAsg (tLC vars.length fv wi g tc te) (gName i)) := by
  intro pins s σ H Dn I h
  rw [exec_Assign_Name_used _ _ _ _ hsw]
  refine wpAny_bind (wpAny_standAt (wpAny_bind ?_))
  show wpAny _ X.A (do let _ ← comprehension (.ListComp elt [⟨target, iter, ifs, 0⟩] scope pos) scope X.env _ (newList []) false (eval iter X.env) (some (assign (.Name x pos') X.env))) _ _ s
  refine wpAny_bind (wpAny_mono (wpAny_comprehension_free (use := some (assign (.Name x pos') X.env)) (Q := fun _ s' => SP X pins Dn .next s') rfl hs L.clos L.kind L.names (thn (hit pins s σ H _ I h) fun v s1 h1 => thn h1 fun itv s2 h2 => ?_)) (fun _ s' hq => wpAny_pure (wpAny_pure hq)) fun _ _ e => e)
  obtain ⟨it, fp, tn, J, H2, e, I2, T, st2, f2, W, ⟨m0, w0⟩, turn⟩ := h2
  subst e
  refine wpAny_mono (lc_core (Q := fun x H1 => gName i x σ H1 Dn.nx) (E := X.xe) (E2 := fun acc C y s' => compPost (model X.prog X.w) X.A X.xe (some (assign (.Name x pos') X.env)) (fun _ s' => SP X pins Dn .next s') acc C (.error y) s') hc L fo hk hg hi he I2 T st2 f2 w0 turn) (fun acc s3 h3 => thn h3 fun cenv s4 h4 => codeAny_mono h4 fun r s' h5 => ?_) fun _ _ z => z
  cases r with
  | error y => exact h5
  | ok f =>
    obtain ⟨D, rfl, ys, H', oC, m, J1, hn, fC, q⟩ := h5
    show wpAny (model X.prog X.w) X.A (assign (.Name x pos') X.env (.ref D)) (fun _ s'' => ∃ m, s''.heap.Ns cenv.locals m ∧ ∀ h', Heap.SameBut cenv.locals s''.heap h' → SP X pins Dn .next { s'' with heap := h' }) X.xe s'
    refine thn (pg_name (i := i) hN hix hlx hf _ s' σ _ (.ref D) (.ref D) (fun σ' H'' => Dn.nx σ' H'' ∧ H'' = upd H' D (.lst ys)) J1 rfl ⟨q, rfl⟩) fun _ s6 hq__ => ?_
    obtain ⟨σ6, H6, I6, q6, e6⟩ := hq__
    subst e6
    have eC := (I6.pin (cenv.locals, oC) (by simp)).1
    have eC' := (J1.pin (cenv.locals, oC) (by simp)).1
    obtain ⟨o, es, ep, ho, r1⟩ := hn
    rw [eC'] at ho
    cases ho
    refine ⟨m, ⟨oC, es, ep, eC, r1⟩, fun h' sb => ⟨σ6, _, ?_, q6⟩⟩
    exact I6.unpinned.turned (t' := s6.toks) (it := cenv.locals) (fun b o hb e => (sb.2 b hb).trans e) fC.1 fC.2.1 fC.2.2.2.1 fC.2.2.2.2.1 fC.2.2.2.2.2
end
end L2
namespace L2
open PySem PySem.Spec PyProof.Rows
theorem lc_list {K : PySem.W.Frag} {a : Addr} {xs : List V} {g : TG} {tc : TT} {te : TE} {Q : VK} {σ : St} {H : Hp} (Pv : Nat → List V → Hp → Prop) (hz : xs.length ≤ sizeLine) (h0 : Pv 0 [] H) (hl : ∀ i ys H, Pv i ys H → SqL K H a xs ∧ ys.length ≤ i)
    (hs : ∀ i x ys H, xs[i]? = some x → Pv i ys H → g x σ H fun σ4 H4 => tc σ4 H4 fun b H5 => if b = true then te σ4 H5 fun v H6 => Pv (i + 1) (ys ++ [v]) H6 else Pv (i + 1) ys H5)
    (hd : ∀ ys H p, Pv xs.length ys H → H p = none → Q (.ref p) (upd H p (.lst ys))) :
    lcGoal (Itl K a) Q g tc te σ H := by
  refine ⟨fun i m ys H => m = xs.length - i ∧ i ≤ xs.length ∧ Pv i ys H, ⟨xs.length, by simp, Nat.zero_le _, h0⟩, ?_⟩
  rintro i m ys H2 ⟨rfl, hi, p⟩
  obtain ⟨q, hy⟩ := hl i ys H2 p
  by_cases hlt : i < xs.length
  · refine .inr ⟨⟨xs, xs[i], q, by simp [hlt]⟩, by omega, Pv (i + 1), fun zs H' p' => ⟨xs.length - (i + 1), by omega, rfl, hlt, p'⟩, fun x H3 y => ?_⟩
    obtain ⟨e, y⟩ := y
    subst e
    exact hs i x ys _ (y xs q) p
  · have e : i = xs.length := by omega
    subst e
    exact .inl ⟨⟨xs, q, Nat.le_refl _⟩, by omega, fun p' hp' => hd ys H2 p' p hp'⟩
end L2
namespace L2
open PySem PySem.Spec PyProof.Rows
structure New (H H' : Hp) (p : Addr) (o : HO) : Prop where
  same : Same H H'
  fresh : H p = none
  at_ : H' p = some o
theorem new_upd {H : Hp} {p : Addr} {o : HO} (h : H p = none) : New H (upd H p o) p o := ⟨same_upd h, h, upd_same⟩
def But (l : Addr) (H H' : Hp) : Prop := ∀ b o, H b = some o → b ≠ l → H' b = some o
theorem but_upd {H : Hp} {l : Addr} {o : HO} : But l H (upd H l o) := fun b u e n => by rw [upd_ne n]; exact e
theorem But.same {H0 H H' : Hp} {l : Addr} (b : But l H H') (s : Same H0 H) (h : H0 l = none) : Same H0 H' := fun c o e => b c o (s c o e) (ne_of_none e h)
theorem But.tup {H H' : Hp} {l : Addr} {o : HO} (b : But l H H') (h : H l = some o) (n : ∀ xs, o ≠ .tup xs) : ∀ c xs, H c = some (.tup xs) → H' c = some (.tup xs) := fun c xs e => b c _ e (ne_of e h (fun z => n xs z.symm))
section
variable {X : Cx} {e : Expr} {es : List Expr} {te : TE} {t : TA} {pos : Pos}
def tTupN (t : TA) : TE := fun σ H Q => t σ H fun xs H1 => xs.length ≤ sizeLine ∧ ∀ p H', New H1 H' p (.tup xs) → Q (.ref p) H'
def tLstN (t : TA) : TE := fun σ H Q => t σ H fun xs H1 => xs.length ≤ sizeLine ∧ ∀ p H', New H1 H' p (.lst xs) → Q (.ref p) H'
theorem pe_tupN {x1} (h : PA X es t) : PE X (.Tuple es x1 pos) (tTupN t) := by
  intro pins s σ H Q I hq
  refine wpAny_Tuple_spliced (thn (h pos pins s σ H _ I hq) fun us s1 ⟨xs, H1, I1, r, z, q⟩ => ⟨by rw [← r.length]; exact z, ?_⟩)
  have hf : H1 s1.heap.objs.size = none := I1.hok.fresh (Nat.le_refl _)
  refine ⟨.ref s1.heap.objs.size, upd H1 s1.heap.objs.size (.tup xs), I1.laid (t' := s1.toks) (fun b u e => Heap.get?_push_of_some _ e) (Nat.le_refl _) ?_, rfl, q _ _ (new_upd hf)⟩
  exact ⟨z, us, r, ⟨_, Heap.get?_push_size _ rfl, rfl, _, rfl⟩⟩
theorem pe_lstN (h : PA X es t) : PE X (.List es pos) (tLstN t) := by
  intro pins s σ H Q I hq
  refine wpAny_List_spliced (thn (h pos pins s σ H _ I hq) fun us s1 ⟨xs, H1, I1, r, z, q⟩ => ⟨by rw [← r.length]; exact z, ?_⟩)
  have hf : H1 s1.heap.objs.size = none := I1.hok.fresh (Nat.le_refl _)
  refine ⟨.ref s1.heap.objs.size, upd H1 s1.heap.objs.size (.lst xs), I1.laid (t' := s1.toks) (fun b u e => Heap.get?_push_of_some _ e) (Nat.le_refl _) ?_, rfl, q _ _ (new_upd hf)⟩
  exact ⟨z, us, 0, r, Heap.get?_push_size _ rfl⟩
theorem CallR.imp {f : Value} {r r' : List V → Hp → VK → Prop} (h : CallR X f r) (i : ∀ xs H Q, r' xs H Q → r xs H Q) : CallR X f r' := fun pins s σ H xs us Q I v q => h pins s σ H xs us Q I v (i xs H Q q)
theorem OpR.imp {f : Value → Value → Sem Value} {r r' : R2} (h : OpR X f r) (i : ∀ x y H Q, r' x y H Q → r x y H Q) : OpR X f r' := fun pins s σ H x y v u Q I rx ry q => h pins s σ H x y v u Q I rx ry (i x y H Q q)
theorem MtM.imp {id : String} {r r' : V → List V → Hp → VK → Prop} (h : MtM X id r) (i : ∀ x xs H Q, r' x xs H Q → r x xs H Q) : MtM X id r' := fun pins s σ H x xs v us Q I rx rv q => h pins s σ H x xs v us Q I rx rv (i x xs H Q q)
theorem call_listN : CallR X (.type "list") (fun xs H Q => ∃ p ys, xs = [.ref p] ∧ (SqL X.K H p ys ∨ SqT X.K H p ys) ∧ ∀ l H', New H H' l (.lst ys) → Q (.ref l) H') :=
  call_list_of.imp fun _ _ _ ⟨p, ys, e, h, q⟩ => ⟨p, ys, e, h, fun l hl => q l _ (new_upd hl)⟩
inductive rSlLNS (K : PySem.W.Frag) (x : V) (lo hi : Option Int) (H : Hp) (Q : VK) : Prop
  | mk : ∀ a xs, x = .ref a → SqL K H a xs → (∀ p H', New H H' p (.lst (cutV xs lo hi)) → Q (.ref p) H') → rSlLNS K x lo hi H Q
def rSlLN (K : PySem.W.Frag) : V → Option Int → Option Int → Hp → VK → Prop := fun x lo hi H Q => rSlLNS K x lo hi H Q
theorem sl_listN : SlR X (rSlLN X.K) := fun pins s σ H x v vl vu lo hi sl Q I rx hs p1 p2 ⟨a, xs, e, h, q⟩ => sl_list pins s σ H x v vl vu lo hi sl Q I rx hs p1 p2 ⟨a, xs, e, h, fun p hp => q p _ (new_upd hp)⟩
inductive rCatNS  (x y : V) (H : Hp) (Q : VK) : Prop
  | mk : ∀ l b xs zs, x = .ref l → y = .ref b → H l = some (.lst xs) → H b = some (.lst zs) → xs.length + zs.length ≤ sizeLine → (∀ p H', New H H' p (.lst (xs ++ zs)) → Q (.ref p) H') → rCatNS x y H Q
def rCatN : R2 := fun x y H Q => rCatNS x y H Q
theorem op_catN : OpR X (binaryOp .Add) rCatN := op_cat.imp fun _ _ _ _ ⟨l, b, xs, zs, e1, e2, h1, h2, z, q⟩ => ⟨l, b, xs, zs, e1, e2, h1, h2, z, fun p hp => q p _ (new_upd hp)⟩
def rRepN : R2 := fun x y H Q => ∃ l k xs, x = .ref l ∧ y = .int k ∧ H l = some (.lst xs) ∧ -(2 ^ 63) ≤ k ∧ k < 2 ^ 63 ∧ xs.length * k.toNat ≤ sizeLine ∧ ∀ p H', New H H' p (.lst (List.replicate k.toNat xs).flatten) → Q (.ref p) H'
theorem op_repN : OpR X (binaryOp .Mult) rRepN := op_rep.imp fun _ _ _ _ ⟨l, k, xs, e1, e2, h1, a, b, z, q⟩ => ⟨l, k, xs, e1, e2, h1, a, b, z, fun p hp => q p _ (new_upd hp)⟩
inductive rAppendNS  (x : V) (vs : List V) (H : Hp) (Q : VK) : Prop
  | mk : ∀ l xs y, x = .ref l → vs = [y] → H l = some (.lst xs) → xs.length < sizeLine → (∀ H', But l H H' → H' l = some (.lst (xs ++ [y])) → Q .non H') → rAppendNS x vs H Q
def rAppendN : V → List V → Hp → VK → Prop := fun x vs H Q => rAppendNS x vs H Q
theorem mt_appendN : MtM X "list.append" rAppendN := mt_append.imp fun _ _ _ _ ⟨l, xs, y, e1, e2, h, z, q⟩ => ⟨l, xs, y, e1, e2, h, z, q _ but_upd upd_same⟩
def rSetLN : V → V → V → Hp → (Hp → Prop) → Prop := fun o i v H Q => ∃ p xs k j, o = .ref p ∧ i = .int k ∧ H p = some (.lst xs) ∧ ixN xs.length k = some j ∧ ∀ H', But p H H' → H' p = some (.lst (xs.set j v)) → Q H'
theorem set_listN : PSet X rSetLN := fun pins s σ H o i v ov iv u Q I r1 r2 r3 ⟨p, xs, k, j, e1, e2, h, z, q⟩ => set_list pins s σ H o i v ov iv u Q I r1 r2 r3 ⟨p, xs, k, j, e1, e2, h, z, q _ but_upd upd_same⟩
end
section
variable {X : Cx} {k : Nat} {C : Addr} {ps : List Str} {sp : Sp} {dvs : List V} {ds : List Value} {x f : Str} {p pos pos' : Pos} {e o value : Expr} {es : List Expr} {ta tv : TE} {t : TA}
def sFldN (K : PySem.W.Frag) (ta tv : TE) (f : Str) : TS := fun D σ H => tv σ H fun y H1 => ta σ H1 fun x H2 => ∃ a C dx fs, x = .ref a ∧ H2 a = some (.ins C dx fs) ∧ Cls K C ∧ NoAttr K C f ∧ fs.length < 1000 ∧
  ∀ H', But a H2 H' → H' a = some (.ins C dx (putF f y fs)) → D.nx σ H'
theorem ps_fldN (ha : PE X o ta) (hv : PE X value tv) (hs : swapsWith value (some (.Attribute o f pos')) pos.line X.env = pure false) : PS X (.Assign [.Attribute o f pos'] value pos) (sFldN X.K ta tv f) := by
  intro pins s σ H D I h
  refine plainObj_wpAny_Assign_Attribute (thn (hv pins s σ H _ I h) fun u s1 ⟨y, H1, I1, ry, q⟩ => thn (ha pins s1 σ H1 _ I1 q) fun ov s2 hq__ => ?_) hs
  obtain ⟨x, H2, I2, rx, a, C, dx, fs, ex, ea, c, n, l, q2⟩ := hq__
  subst ex
  obtain rfl : ov = Value.ref a := rx
  exact setattr_ok I2 ea c n l ry fun s3 I3 => ⟨σ, _, I3, q2 _ but_upd upd_same⟩
end
theorem for_zipN {K : PySem.W.Frag} {a b : Addr} {xs ys : List V} {g : TG} {tb : TS} {D : Ends} {σ : St} {H : Hp} (Pv : Nat → St → Hp → Prop) (h0 : Pv 0 σ H) (hl : ∀ i σ H, Pv i σ H → SqL K H a xs ∧ SqL K H b ys)
    (hs : ∀ i x y σ H p H', xs[i]? = some x → ys[i]? = some y → New H H' p (.tup [x, y]) → Pv i σ H → g (.ref p) σ H' fun σ2 H2 => tb { D with nx := Pv (i + 1), ct := Pv (i + 1), bk := D.nx } σ2 H2)
    (hd : ∀ i σ H, i = min xs.length ys.length → Pv i σ H → D.nx σ H) :
    ∃ W : Nat → Nat → St → Hp → Prop, (∃ m, W 0 m σ H) ∧ ∀ i m σ H, W i m σ H →
      ((Itz K a b).stop i H ∧ D.nx σ H) ∨ ((Itz K a b).go i H ∧ ∃ N : St → Hp → Prop, (∀ σ' H', N σ' H' → ∃ m', m' < m ∧ W (i + 1) m' σ' H') ∧ ∀ x H', (Itz K a b).yld i H x H' → g x σ H' fun σ2 H2 => tb { D with nx := N, ct := N, bk := D.nx } σ2 H2) :=
  for_zip Pv h0 hl (fun i x y σ H p e1 e2 hn p' => hs i x y σ H p _ e1 e2 (new_upd hn) p') hd
theorem lcOk {X : Cx} {scope : Scope} {cl : List (Str × Addr)} (clos : closureFor scope X.env = pure cl) (kind : scope.kind = .function) (nocell : ∀ y ∈ scope.names, y.2 ≠ .cell)
    (names : ∀ y ∈ scope.names, y.2 = .local → scope.names.lookup y.1 = some .local) (sub : ∀ p ∈ cl, X.env.cells.lookup p.1 = some p.2)
    (has : ((relabel scope X.env).names.all fun y => (y.2 != .cell && y.2 != .free) || (cl.lookup y.1).isSome) = true) : LcOk X scope cl := by
  refine ⟨clos, kind, nocell, names, fun x c e => ?_, fun x h => ?_⟩
  · have : ∀ l : List (Str × Addr), l.lookup x = some c → (x, c) ∈ l := fun l => by
      induction l with
      | nil => intro z; simp at z
      | cons p r ih =>
        intro z
        obtain ⟨y, d⟩ := p
        rw [List.lookup_cons] at z
        by_cases q : (x == y) = true
        · rw [q] at z
          have e1 : x = y := by simpa using q
          have e2 : d = c := Option.some.inj z
          subst e1 e2
          exact List.mem_cons_self
        · have q' : (x == y) = false := by simpa using q
          rw [q'] at z
          exact List.mem_cons_of_mem _ (ih z)
    exact sub (x, c) (this cl e)
  · have : ∀ (l : List (Str × NameKind)) (k : NameKind), l.lookup x = some k → (x, k) ∈ l := fun l k => by
      induction l with
      | nil => intro z; simp at z
      | cons p r ih =>
        intro z
        obtain ⟨y, d⟩ := p
        rw [List.lookup_cons] at z
        by_cases q : (x == y) = true
        · rw [q] at z
          have e1 : x = y := by simpa using q
          have e2 : d = k := Option.some.inj z
          subst e1 e2
          exact List.mem_cons_self
        · have q' : (x == y) = false := by simpa using q
          rw [q'] at z
          exact List.mem_cons_of_mem _ (ih z)
    rw [List.all_eq_true] at has
    cases e : cl.lookup x with
    | some c => exact ⟨c, rfl⟩
    | none =>
      rcases h with h | h
      · have := has _ (this _ _ h)
        rw [e] at this
        simp at this
      · have := has _ (this _ _ h)
        rw [e] at this
        simp at this
end L2
namespace L2
open PySem PySem.Spec PyProof.Rows
section
variable {X : Cx}
end
end L2
namespace L2
open PySem PySem.Spec PyProof.Rows
def FlT (h : Heap) (e T : Addr) (cls : Value) (dd : Option Addr) (fl : Value) : Prop :=
  ∃ oe vs oT ts, h.get? e = some oe ∧ oe.cls = cls ∧ oe.dict = dd ∧ oe.data = .fields vs ∧ vs[1]? = some (.ref T) ∧ T ≠ e ∧ h.get? T = some oT ∧ oT.data = .fields ts ∧ ts[3]? = some fl ∧ (vs[2]? = some .none ∨ dd ≠ none)
def Fl0 (h : Heap) (e : Addr) (cls : Value) (dd : Option Addr) : Prop :=
  ∃ oe vs, h.get? e = some oe ∧ oe.cls = cls ∧ oe.dict = dd ∧ oe.data = .fields vs ∧ vs[1]? = some .none ∧ (vs[2]? = some .none ∨ dd ≠ none)
def FpX (X : Cx) (H : Hp) (b : Addr) : Prop :=
  H b = none ∧ b ≠ X.env.locals ∧ b ∉ X.fs ∧ X.s₀.heap.get? b = none ∧ (∀ x c, X.env.cells.lookup x = some c → c ≠ b) ∧ ∀ p ∈ X.pn, p.1 ≠ b
def Fly (X : Cx) (H : Hp) (h : Heap) (e : Addr) (cls : Value) (dd : Option Addr) : Prop :=
  FpX X H e ∧ (Fl0 h e cls dd ∨ ∃ T fl, FpX X H T ∧ FlT h e T cls dd fl)
abbrev XW := Value → Option Addr → St → Hp → Prop
def XE (X : Cx) (W : XW) (ev : Value) (s : Shared) : Prop :=
  ∃ e cls dd σ H, ev = .ref e ∧ Inv X [] σ H s ∧ Fly X H s.heap e cls dd ∧ W cls dd σ H
def OnStk (X : Cx) : Prop := X.stack = X.env :: X.outer ∧ X.env.frame = some X.env.locals ∧ X.ex = []
section
variable {X : Cx} {σ : St} {H : Hp} {s : Shared} {h' : Heap} {M : Model} {A : Around} {E : Value → Shared → Prop} {e T : Addr} {cls fl : Value} {dd : Option Addr}
theorem ObjOk.there {P : Program} {w : World} {H : Hp} {h : Heap} {a : Addr} {o : HO} (x : ObjOk P w H h a o) : ∃ u, h.get? a = some u := by
  induction o with
  | lst xs => obtain ⟨_, _, _, _, e⟩ := x; exact ⟨_, e⟩
  | tup xs => obtain ⟨_, _, _, u, e, _⟩ := x; exact ⟨u, e⟩
  | dK kvs => obtain ⟨_, _, _, _, u, _, _, e, _⟩ := x; exact ⟨u, e⟩
  | dT kvs => obtain ⟨_, _, _, _, u, _, _, e, _⟩ := x; exact ⟨u, e⟩
  | set S n => obtain ⟨u, _, _, _, e, _⟩ := x; exact ⟨u, e⟩
  | ins C dx fs => obtain ⟨_, _, _, e, _⟩ := x; exact ⟨_, e⟩
  | own y => exact x
  | xd fs => obtain ⟨_, ⟨u, _, _, e, _⟩, _⟩ := x; exact ⟨u, e⟩
  | met f y => exact ⟨_, x⟩
  | rng lo hi => obtain ⟨_, _, _, e⟩ := x; exact ⟨_, e⟩
  | frz u v _ => obtain ⟨e, _⟩ := x; exact ⟨_, e⟩
  | tbl ps => exact ⟨_, x⟩
  | ext φ => exact x.2.1
theorem Inv.fpX {H' : Hp} {pins : List (Addr × Obj)} (hs : OnStk X) (I : Inv X pins σ H s) (hb : s.heap.get? e = none) (hn : H' e = none) : FpX X H' e := by
  refine ⟨hn, fun z => ?_, fun z => ?_, ?_, fun x c q z => ?_, fun p hp z => ?_⟩
  · obtain ⟨m, ⟨o, _, _, ho, _⟩, _⟩ := I.loc
    rw [← z, hb] at ho; cases ho
  · obtain ⟨_, o, ho, _⟩ := I.funs.mem z
    rw [hb] at ho; cases ho
  · cases q : X.s₀.heap.get? e with
    | none => rfl
    | some o =>
      obtain ⟨o', ho'⟩ := I.base.there e o q (by rw [hs.2.2]; simp)
      rw [hb] at ho'; cases ho'
  · obtain ⟨v, o, ho, _⟩ := I.cell x c q
    rw [z, hb] at ho; cases ho
  · have := (I.pin p (List.mem_append_left _ hp)).1
    rw [z, hb] at this; cases this
theorem Inv.noneOf {pins : List (Addr × Obj)} (I : Inv X pins σ H s) (hb : s.heap.get? e = none) : H e = none := by
  cases q : H e with
  | none => rfl
  | some o =>
    obtain ⟨u, hu⟩ := (I.hok e o q).there
    rw [hb] at hu; cases hu
theorem Inv.turnR {H' : Hp} {t' : Nat} {ch : List Addr} (I : Inv X [] σ H s) (hf : ∀ b ∈ ch, FpX X H b) (k : ∀ b u, b ∉ ch → b ∉ frs X.stack → s.heap.get? b = some u → h'.get? b = some u)
    (k2 : ∀ b u, b ∉ ch → s.heap.get? b = some u → ∃ sl, h'.get? b = some { u with slots := sl }) (hH : ∀ b, b ∉ ch → H' b = H b) (hok : HOk X.prog X.w H' h') : Inv X [] σ H' { s with heap := h', toks := t' } := by
  have sup : ∀ b o, H b = some o → H' b = some o := fun b o q => by rw [hH b (fun z => by rw [(hf b z).1] at q; cases q)]; exact q
  have nosl : ∀ b, b ≠ X.env.locals → b ∉ X.fs → b ∉ frs X.stack := fun b h1 h2 z => (List.mem_cons.mp (I.stkSub b z)).elim h1 h2
  have neL : ∀ b o, X.s₀.heap.get? b = some o → b ≠ X.env.locals := fun b o q => Nat.ne_of_lt (Nat.lt_of_lt_of_le (Heap.lt_size q) I.ok.above)
  have neC : ∀ b o, X.s₀.heap.get? b = some o → b ∉ ch := fun b o q hb => by rw [(hf b hb).2.2.2.1] at q; cases q
  have cellK : ∀ x c, X.env.cells.lookup x = some c → ∀ v, s.heap.IsCell c v → h'.IsCell c v := fun x c q v ⟨o, ho, hd⟩ => by
    obtain ⟨sl, q'⟩ := k2 c o (fun z => (hf c z).2.2.2.2.1 x c q rfl) ho
    exact ⟨_, q', hd⟩
  refine ⟨I.ok, I.os, I.bare, ⟨fun b o q n hb hx => ?_, fun b o q n hb hx => ?_, fun b o q n hx => ?_, fun b o q hx => ?_, fun b xs q => sup _ _ (I.base.tups b xs q), fun b o xs q => sup _ _ (I.base.frzs b o xs q), fun b ps q => ?_⟩, ?_, fun x c q => ?_, ?_, fun x c q => ?_, fun p hp => ?_, hok, I.len⟩
  · exact k b o (neC b o q) (nosl b (neL b o q) hb) (I.base.keep b o q n hb hx)
  · obtain ⟨sl, e1⟩ := I.base.slot b o q n hb hx
    obtain ⟨sl', e2⟩ := k2 b _ (neC b o q) e1
    exact ⟨sl', e2⟩
  · rw [hH b (neC b o q)]
    exact I.base.free b o q n hx
  · obtain ⟨o', e1⟩ := I.base.there b o q hx
    obtain ⟨sl', e2⟩ := k2 b _ (neC b o q) e1
    exact ⟨_, e2⟩
  · obtain ⟨m1, e1⟩ := I.base.tbls b ps q
    exact ⟨m1, sup _ _ e1⟩
  · obtain ⟨m, hn, hl⟩ := I.loc
    refine ⟨m, ?_, fun i x v e1 e2 e3 => ?_⟩
    · obtain ⟨o, es, ep, ho, r⟩ := hn
      obtain ⟨sl, q⟩ := k2 _ o (fun z => (hf _ z).2.1 rfl) ho
      exact ⟨_, es, ep, q, r⟩
    · obtain ⟨u, r, l⟩ := hl i x v e1 e2 e3
      refine ⟨u, r, ?_⟩
      rcases l with l | ⟨kk, c, q, z⟩
      · exact .inl l
      · exact .inr ⟨kk, c, q, cellK x c q _ z⟩
  · obtain ⟨v, z⟩ := I.cell x c q
    exact ⟨v, cellK x c q v z⟩
  · rw [hH _ (fun z => (hf _ z).2.1 rfl)]; exact I.free
  · rw [hH _ (fun z => (hf _ z).2.2.2.2.1 x c q rfl)]; exact I.freeC x c q
  · obtain ⟨q, n, ne, nf, d⟩ := I.pin p hp
    have hp' : p ∈ X.pn := by
      have : p ∈ X.pn ++ ([] : List (Addr × Obj)) := hp
      simpa using this
    have nch : p.1 ∉ ch := fun z => (hf p.1 z).2.2.2.2.2 p hp' rfl
    exact ⟨k p.1 p.2 nch (nosl p.1 ne nf) q, by rw [hH _ nch]; exact n, ne, nf, d⟩
theorem Inv.turnS {t' : Nat} {ch : List Addr} (I : Inv X [] σ H s) (hf : ∀ b ∈ ch, FpX X H b) (k : ∀ b u, b ∉ ch → b ∉ frs X.stack → s.heap.get? b = some u → h'.get? b = some u)
    (k2 : ∀ b u, b ∉ ch → s.heap.get? b = some u → ∃ sl, h'.get? b = some { u with slots := sl }) : Inv X [] σ H { s with heap := h', toks := t' } := by
  have nch : ∀ b u, H b = some u → b ∉ ch := fun b u e z => by rw [(hf b z).1] at e; cases e
  have nst : ∀ b u, H b = some u → b ∉ frs X.stack := fun b u e z => by rw [I.stkFree b z] at e; cases e
  refine I.turnR hf k k2 (fun _ _ => rfl) fun b u e => ?_
  refine (I.hok b u e).stay (fun c v hc q => ?_) (fun _ q => q) fun _ _ q => q
  rcases hc with z | z
  · subst z; exact k _ v (nch _ u e) (nst _ u e) q
  · exact k c v (nch c _ z) (nst c _ z) q
theorem Inv.track {o : HO} (I : Inv X [] σ H s) (hf : FpX X H e) (ok : ObjOk X.prog X.w (upd H e o) s.heap e o) : Inv X [] σ (upd H e o) s := by
  refine I.turnR (h' := s.heap) (t' := s.toks) (ch := [e]) (fun b hb => by rw [List.mem_singleton.mp hb]; exact hf) (fun _ _ _ _ q => q) (fun b u _ q => ⟨u.slots, q⟩) (fun b hb => upd_ne (fun z => hb (by simp [z]))) fun b u q => ?_
  by_cases hb : b = e
  · subst hb; rw [upd_same] at q; cases q; exact ok
  · rw [upd_ne hb] at q
    exact (I.hok b u q).stay (fun _ _ _ q => q) (fun c q => by rw [upd_ne (ne_of_none q hf.1)]; exact q) fun c xs q => by rw [upd_ne (ne_of_none q hf.1)]; exact q
theorem entry_ok {oe : Obj} {vs : Array Value} {head : Value} {hadNext : Bool} {Q : Unit → Shared → Prop} (hs : OnStk X) (hA : A.frames = some X.stack) (I : Inv X [] σ H s) (hp : FpX X H e)
    (he : s.heap.get? e = some oe) (hc : oe.cls = cls) (hdd : oe.dict = dd) (hd : oe.data = .fields vs) (hsz : 1 < vs.size) (cn : vs[2]? = some .none ∨ dd ≠ none)
    (k : ∀ h' T, Inv X [] σ H { s with heap := h' } → FpX X H T → FlT h' e T cls dd (rawInt X.env.locals) → Q () { s with heap := h' }) :
    wpAny M A (do let a ← frameOf X.env; let pl ← entryPlaceOf X.env.locals hadNext; let b ← EntryCells.newEntry head a .none (rawInt X.env.locals) .none pl; setField (.ref e) 1 b) Q E s := by
  have hs0 := hs
  obtain ⟨hst, hfr, _⟩ := hs
  have hl := I.stack
  rw [hst] at hl hA
  have hene : e ∉ frs X.stack := fun hm => by
    rcases List.mem_cons.mp (I.stkSub e hm) with z | z
    · exact hp.2.1 z
    · exact hp.2.2.1 z
  refine wpAny_bind (wpAny_frameOf_fun hA hl hfr fun h₁ hs₁ => ?_)
  refine wpAny_bind (wpAny_entryPlaceOf fun pl hpl => ?_)
  unfold EntryCells.newEntry newFields
  refine wpAny_bind (wpAny_newObj_type ?_ (hpl.sizeOk5 _ _ _ _ _))
  have S : (X.env :: X.outer).filterMap (·.frame) = frs X.stack := by rw [hst]; rfl
  rw [S] at hs₁
  have he₁ : h₁.get? e = some oe := (hs₁.2.1 e hene).trans he
  generalize hob : ({ cls := .type "traceback", dict := none, data := .fields ([head, .ref X.env.locals, .none, rawInt X.env.locals, .none] ++ (if pl.isEmpty then List.replicate 6 Value.none else pl)).toArray } : Obj) = ob
  have hobd : ob.data = .fields ([head, .ref X.env.locals, .none, rawInt X.env.locals, .none] ++ (if pl.isEmpty then List.replicate 6 Value.none else pl)).toArray := by rw [← hob]
  have he₂ := Heap.get?_push_of_some (h := h₁) ob he₁
  refine wpAny_setField he₂ hd hsz ?_
  have hTe : h₁.objs.size ≠ e := Nat.ne_of_gt (Heap.lt_size he₁)
  have hd₃ := Obj.data_mapFields hd (·.setIfInBounds 1 (Value.ref h₁.objs.size))
  have he₃ := Heap.get?_update_self (Obj.mapFields (·.setIfInBounds 1 (Value.ref h₁.objs.size))) he₂ (Obj.isFreed_of_fields hd₃)
  have hT₃ := (Heap.get?_update_other (h₁.push ob) (Obj.mapFields (·.setIfInBounds 1 (Value.ref h₁.objs.size))) (Ne.symm hTe)).trans (Heap.get?_push_size h₁ (by rw [← hob]; rfl))
  have kk : ∀ b o, b ≠ e → h₁.get? b = some o → ((h₁.push ob).update e (Obj.mapFields (·.setIfInBounds 1 (Value.ref h₁.objs.size)))).get? b = some o := fun b o hb q => by
    rw [Heap.get?_update_other _ _ (Ne.symm hb)]
    exact Heap.get?_push_of_some _ q
  refine k _ h₁.objs.size (I.turnS (t' := s.toks) (ch := [e]) (fun b hb => by rw [List.mem_singleton.mp hb]; exact hp) (fun b u hb hn q => ?_) fun b u hb q => ?_) (I.fpX hs0 (by rw [hs₁.1]; exact Heap.get?_none_of_le (Nat.le_refl _)) (I.hok.fresh (by rw [hs₁.1]; exact Nat.le_refl _))) ?_
  · exact kk b u (fun z => hb (by simp [z])) ((hs₁.2.1 b hn).trans q)
  · obtain ⟨sl, q'⟩ := hs₁.2.2 b u q
    exact ⟨sl, kk b _ (fun z => hb (by simp [z])) q'⟩
  · refine ⟨_, _, _, _, he₃, (Obj.cls_mapFields _ _).trans hc, ?_, hd₃, by simp [hsz], hTe, hT₃, hobd, by simp, by rw [Array.getElem?_setIfInBounds_ne (by decide)]; exact cn⟩
    rw [← hdd]
    obtain ⟨c9, d9, dt9, sl9⟩ := oe
    cases dt9 <;> rfl
theorem note_ok {Q : Unit → Shared → Prop} (hs : OnStk X) (hA : A.frames = some X.stack) (I : Inv X [] σ H s) (F : Fly X H s.heap e cls dd)
    (k : ∀ h' T, Inv X [] σ H { s with heap := h' } → FpX X H T → FlT h' e T cls dd (rawInt X.env.locals) → Q () { s with heap := h' }) : wpAny M A (noteFrame (.ref e) X.env) Q E s := by
  obtain ⟨hp, F⟩ := F
  unfold noteFrame
  simp only [hs.2.1]
  rcases F with ⟨oe, vs, he, hc, hdd, hd, h1, cn⟩ | ⟨T, fl, hT, oe, vs, oT, ts, he, hc, hdd, hd, h1, hTe, hoT, hdT, h3, cn⟩
  · refine wpAny_bind (wpAny_field he hd h1 ?_)
    rw [if_neg (by decide)]
    exact entry_ok hs hA I hp he hc hdd hd (Array.getElem?_eq_some_iff.mp h1).1 cn k
  · refine wpAny_bind (wpAny_field he hd h1 ?_)
    rw [if_pos (show (Value.ref T != Value.none) = true from by simp)]
    refine wpAny_bind (wpAny_field hoT hdT h3 ?_)
    by_cases hfl : (fl == rawInt X.env.locals) = true
    · rw [if_pos hfl]
      have := k s.heap T I hT ⟨oe, vs, oT, ts, he, hc, hdd, hd, h1, hTe, hoT, hdT, by rw [h3, beq_iff_eq.mp hfl], cn⟩
      exact wpAny_pure this
    · rw [if_neg hfl]
      refine wpAny_bind (wpAny_setField hoT hdT (Array.getElem?_eq_some_iff.mp h3).1 ?_)
      have other : ∀ b, b ≠ T → (s.heap.update T (Obj.mapFields (·.setIfInBounds 3 Value.none))).get? b = s.heap.get? b := fun b hb => Heap.get?_update_other _ _ (Ne.symm hb)
      have I2 : Inv X [] σ H { s with heap := s.heap.update T (Obj.mapFields (·.setIfInBounds 3 Value.none)) } :=
        I.turnS (t' := s.toks) (ch := [T]) (fun b hb => by rw [List.mem_singleton.mp hb]; exact hT) (fun b u hb _ q => (other b (fun z => hb (by simp [z]))).trans q) fun b u hb q => ⟨u.slots, (other b (fun z => hb (by simp [z]))).trans q⟩
      exact entry_ok hs hA I2 hp ((other e (Ne.symm hTe)).trans he) hc hdd hd (Array.getElem?_eq_some_iff.mp h1).1 cn k
theorem flight_ok {Q : Unit → Shared → Prop} (fr : Option Addr) (I : Inv X [] σ H s) (hT : FpX X H T) (F : FlT s.heap e T cls dd fl)
    (k : ∀ h', Inv X [] σ H { s with heap := h' } → FlT h' e T cls dd (fr.elim .none fun f => rawInt f) → Q () { s with heap := h' }) : wpAny M A (setFlight (.ref e) fr) Q E s := by
  obtain ⟨oe, vs, oT, ts, he, hc, hdd, hd, h1, hTe, hoT, hdT, h3, cn⟩ := F
  have hsz3 : 3 < ts.size := (Array.getElem?_eq_some_iff.mp h3).1
  have other : ∀ b, b ≠ T → (s.heap.update T (Obj.mapFields (·.setIfInBounds 3 (fr.elim .none fun f => rawInt f)))).get? b = s.heap.get? b := fun b hb => Heap.get?_update_other _ _ (Ne.symm hb)
  unfold setFlight
  refine wpAny_bind (wpAny_field he hd h1 ?_)
  rw [if_pos (show (Value.ref T != Value.none) = true from by simp)]
  refine wpAny_setField hoT hdT hsz3 (k _ ?_ ?_)
  · exact I.turnS (t' := s.toks) (ch := [T]) (fun b hb => by rw [List.mem_singleton.mp hb]; exact hT) (fun b u hb _ q => (other b (fun z => hb (by simp [z]))).trans q) fun b u hb q => ⟨u.slots, (other b (fun z => hb (by simp [z]))).trans q⟩
  · exact ⟨oe, vs, _, _, (other e (Ne.symm hTe)).trans he, hc, hdd, hd, h1, hTe, Heap.get?_update_self _ hoT (Obj.isFreed_of_fields (Obj.data_mapFields hdT _)), Obj.data_mapFields hdT _, by simp [hsz3], cn⟩
theorem passes_own {W : XW} (hs : OnStk X) : PassesOwn (model X.prog X.w) X.A X.env (XE X W) := by
  rintro ev s ⟨e, cls, dd, σ, H, rfl, I, F, hw⟩
  refine note_ok hs I.ok.frames I F fun h1 T I1 hT F1 => ?_
  unfold cameBackBy
  obtain ⟨oe, vs, oT, ts, he, hc, hdd, hd, h1', hTe, hoT, hdT, h3, _⟩ := id F1
  refine wpAny_bind (wpAny_field he hd h1' ?_)
  rw [if_neg (show ¬ (Value.ref T == Value.none) = true from by simp)]
  exact flight_ok _ I1 hT F1 fun h2 I2 F2 => ⟨e, cls, dd, σ, H, rfl, I2, ⟨F.1, .inr ⟨T, _, hT, F2⟩⟩, hw⟩
end
def CX1 (P : Program) (w : World) : CXT := fun outer H s E ev s' => ∃ e T cls dd H', ev = .ref e ∧ s'.os = s.os ∧ AllBare s'.gens ∧ Un (frs outer) [] H H' s.heap s'.heap ∧ HOk P w H' s'.heap ∧ FlT s'.heap e T cls dd .none ∧ H' e = none ∧ H' T = none ∧
  s.heap.get? e = none ∧ s.heap.get? T = none ∧ E cls dd H'
theorem CX1.xe {X : Cx} {W : XW} {pins : List (Addr × Obj)} {σ : St} {H : Hp} {s s' : Shared} {ev : Value} (hs : OnStk X) (I : Inv X pins σ H s) (h : CX1 X.prog X.w X.stack H s (fun c d H' => W c d σ H') ev s') : XE X W ev s' := by
  obtain ⟨e, T, cls, dd, H', rfl, os, bare, un, hok, F, he, hT, le, lT, q⟩ := h
  have J : Inv X [] σ H s := I.pins_of (by simp)
  have J' : Inv X [] σ H' s' := by
    obtain ⟨hh, g, d, t, os'⟩ := s'
    obtain rfl : os' = s.os := os
    exact J.call (h' := hh) (g' := g) (d' := d) (t' := t) (ch := []) un hok bare (fun b z => absurd z (by simp))
  exact ⟨e, cls, dd, σ, H', rfl, J', ⟨J.fpX hs le he, .inr ⟨T, _, J.fpX hs lT hT, F⟩⟩, q⟩
theorem xe_out {P : Program} {w : World} {K : PySem.W.Frag} {mg : Str → Option Value} {base : Heap} {N : List Str} {qual : Str} {scope : Scope} {f : Addr} {cd : Value} {A : Around} {outer : List Env} {s : Shared} {H : Hp} {E : XK} {ev : Value} {s' : Shared}
    (h : XE (cxOf (CX1 P w) P w K mg base N qual scope f cd A outer s H E) (fun c d _ H' => E c d H') ev s') : (cxOf (CX1 P w) P w K mg base N qual scope f cd A outer s H E).xe ev s' := by
  obtain ⟨e, cls, dd, σ, H', rfl, I, F, q⟩ := h
  show wpAny _ _ (leaving _ _) _ _ _
  unfold leaving
  refine wpAny_bind (note_ok (X := cxOf (CX1 P w) P w K mg base N qual scope f cd A outer s H E) ⟨rfl, rfl, rfl⟩ I.ok.frames I F fun h1 T I1 hT F1 => ?_)
  refine flight_ok none I1 hT F1 fun h2 I2 F2 => ?_
  exact ⟨e, T, cls, dd, H', rfl, I2.os, I2.bare, I2.base, I2.hok, F2, F.1.1, hT.1, F.1.2.2.2.1, hT.2.2.2.1, q⟩
def Wants (X : Cx) (W : XW) : Prop := OnStk X ∧ ∀ ev s, XE X W ev s → X.xe ev s
theorem XE.unwish {X : Cx} {E : Value → Shared → Prop} {W : XW} {ev : Value} {s : Shared} (h : XE (X.wish E) W ev s) : XE X W ev s :=
  let ⟨e, cls, dd, σ, H, q, I, F, w⟩ := h; ⟨e, cls, dd, σ, H, q, I.unwish, F, w⟩
theorem XE.wish {X : Cx} {E : Value → Shared → Prop} {W : XW} {ev : Value} {s : Shared} (h : XE X W ev s) : XE (X.wish E) W ev s :=
  let ⟨e, cls, dd, σ, H, q, I, F, w⟩ := h; ⟨e, cls, dd, σ, H, q, I.wish _, F, w⟩
theorem wants_wish {X : Cx} {W : XW} (hs : OnStk X) : Wants (X.wish (XE X W)) W := ⟨hs, fun _ _ h => h.unwish⟩
theorem own_wish {X : Cx} {W : XW} (hs : OnStk X) : PassesOwn (model X.prog X.w) X.A X.env (X.wish (XE X W)).xe := passes_own hs
theorem PSs.imp {X : Cx} {E : Value → Shared → Prop} {st : List Stmt} {t : TS} (hE : ∀ ev s, E ev s → X.xe ev s) (h : PSs (X.wish E) st t) : PSs X st t := fun pins s σ H D I hw =>
  wpAny_mono (h pins s σ H D (I.wish _) hw) (fun _ _ q => q.unwish) fun e s z => hE e s z
section
variable {P : Program} {w : World} {K : PySem.W.Frag} {mg : Str → Option Value} {base : Heap}
abbrev bx (P : Program) (w : World) (K : PySem.W.Frag) (mg : Str → Option Value) (base : Heap) (N : List Str) (qual : Str) (scope : Scope) (f : Addr) (cd : Value) (A : Around) (outer : List Env) (s : Shared) (H : Hp) (E : XK) : Cx :=
  (cxOf (CX1 P w) P w K mg base N qual scope f cd A outer s H E).wish (XE (cxOf (CX1 P w) P w K mg base N qual scope f cd A outer s H E) (fun c d _ H' => E c d H'))
theorem Fun.okX {x qual : Str} {st : Stmt} {f : Addr} {fd : FuncData} {N ps : List Str} {k : Nat} {sp : Sp} (F : Fun K x qual st f fd) (S : FnScope N ps (defScope st)) (len : ∀ vs H Q E, sp vs H Q E → vs.length = ps.length)
    (hbody : ∀ (cdv : Value) (A : Around) (outer : List Env) (s : Shared) (H : Hp) (vs : List V) (Q : VK) (E : XK), Room k (A.deeper (envOfC qual (defScope st) s.heap.objs.size f cdv)) → sp vs H Q E →
      ∃ t, PSs (bx P w K mg base N qual (defScope st) f cdv A outer s H E) (defBody st) t ∧ t { nx := fun _ H' => Q .non H', rt := Q } (start N vs) H) : FnOk P w K mg base (CX1 P w) (k + 1) f fd ps sp := by
  obtain ⟨oc, od, kV, doc, pm, an, cdv, ct, osl, rfl, lk, hcd⟩ := F.ex
  refine fn_of lk hcd S len fun A outer s H vs Q E hr hsp => ?_
  obtain ⟨t, h, q⟩ := hbody cdv A outer s H vs Q E hr hsp
  exact ⟨t, h.imp fun _ _ z => xe_out z, q⟩
theorem FunD.okX {x qual : Str} {st : Stmt} {dV : Value} {f : Addr} {fd : FuncData} {N ps : List Str} {k : Nat} {sp : Sp} (F : FunD K x qual st dV f fd) (S : FnScope N ps (defScope st)) (len : ∀ vs H Q E, sp vs H Q E → vs.length = ps.length)
    (hbody : ∀ (cdv : Value) (A : Around) (outer : List Env) (s : Shared) (H : Hp) (vs : List V) (Q : VK) (E : XK), Room k (A.deeper (envOfC qual (defScope st) s.heap.objs.size f cdv)) → sp vs H Q E →
      ∃ t, PSs (bx P w K mg base N qual (defScope st) f cdv A outer s H E) (defBody st) t ∧ t { nx := fun _ H' => Q .non H', rt := Q } (start N vs) H) : FnOk P w K mg base (CX1 P w) (k + 1) f fd ps sp := by
  obtain ⟨oc, od, kV, doc, pm, an, cdv, ct, osl, rfl, lk, hcd⟩ := F.ex
  refine fn_of lk hcd S len fun A outer s H vs Q E hr hsp => ?_
  obtain ⟨t, h, q⟩ := hbody cdv A outer s H vs Q E hr hsp
  exact ⟨t, h.imp fun _ _ z => xe_out z, q⟩
end
def DefX (P : Program) (w : World) (K : PySem.W.Frag) (mg : Str → Option Value) (base : Heap) (k : Nat) (x : Str) (ps : List Str) (ds : List Value) (sp : Sp) : Prop :=
  ∃ f fd, FnOk P w K mg base (CX1 P w) k f fd ps sp ∧ mg x = some (.ref f) ∧ PySem.W.keepIn K (.ref f) = true ∧ Binds K fd ps ds
def MkX (P : Program) (w : World) (K : PySem.W.Frag) (mg : Str → Option Value) (base : Heap) (C : Addr) (k : Nat) (x : Str) (ps : List Str) (ds : List Value) (sp : Sp) : Prop :=
  ∃ f fd, FnOk P w K mg base (CX1 P w) k f fd ps sp ∧ mg x = some (.ref C) ∧ Mk K C f ∧ Binds K fd ps ds
def tCallX (sp : Sp) (dvs : List V) (W : XW) (t : TA) : TE := fun σ H Q => t σ H fun vs H1 => sp (vs ++ dvs) H1 Q fun c d H' => W c d σ H'
def tMakeX (C : Addr) (sp : Sp) (dvs : List V) (W : XW) (t : TA) : TE := fun σ H Q => t σ H fun vs H1 => ∀ x dx H', Same H1 H' → H1 x = none → H' x = some (.ins C dx []) → sp (.ref x :: (vs ++ dvs)) H' (fun v H2 => v = .non ∧ Q (.ref x) H2) fun c d H' => W c d σ H'
section
variable {X : Cx} {W : XW} {k : Nat} {f C : Addr} {fd : FuncData} {ps : List Str} {sp : Sp} {dvs : List V} {ds : List Value} {x m : Str} {p pos apos : Pos} {e o : Expr} {es : List Expr} {ta : TE} {t : TA}
theorem run_fnX {pins : List (Addr × Obj)} {σ : St} {H : Hp} {s : Shared} {Q : VK} {us : List Value} {vs : List V} (hW : Wants X W) (F : FnOk X.prog X.w X.K X.mg X.base (CX1 X.prog X.w) k f fd ps sp) (hr : Room k X.A) (hb : Binds X.K fd ps ds) (hd : Vals dvs ds)
    (I : Inv X pins σ H s) (r : Vals vs us) (h : sp (vs ++ dvs) H Q fun c d H' => W c d σ H') : wpAny (model X.prog X.w) X.A (call (.ref f) us) (EP X pins σ Q) X.xe s := by
  have r2 : Vals (vs ++ dvs) (us ++ ds) := r.append hd
  have hl : (us ++ ds).length = ps.length := by rw [← r2.length]; exact F.len _ _ _ _ h
  refine wpAny_call (codeAny_mono (F.run X.A X.stack s H ⟨us, []⟩ (us ++ ds) (vs ++ dvs) Q _ hr I.env0 (hb s us I.kIn hl) r2 h) fun r s' hq => ?_)
  cases r with
  | error e => exact hW.2 _ _ (CX1.xe hW.1 I hq)
  | ok fl =>
    cases fl with
    | ret u => exact I.after hq
    | next => exact False.elim hq
    | brk => exact False.elim hq
    | cont => exact False.elim hq
theorem pe_fnX (hW : Wants X W) (D : DefX X.prog X.w X.K X.mg X.base k x ps ds sp) (hr : Room k X.A) (hg : Gl X x) (hd : Vals dvs ds) (ha : PA X (e :: es) t) (hdb : (x == ("__debug__" : Str)) = false := by decide)
    (he : starEach (e :: es) X.env = (false, eval e X.env) :: starEach es X.env := by rfl) (hpl : (backTo pos (starEach es X.env)).any (·.1) = false := by rfl) : PE X (.Call (.Name x p) (e :: es) [] pos) (tCallX sp dvs W t) := by
  obtain ⟨f, fd, F, hm, hk, hb⟩ := D
  intro pins s σ H Q I h
  refine wpAny_Call_Name_kw (ld_glob I hg hm ?_ hdb)
  refine PySem.W.callWith_K (h₀ := X.base) I.ok.mod.kin hk (thn (ha pos pins s σ H _ I h) fun us s1 ⟨vs, H1, I1, r, q⟩ => ⟨I1.kIn, ?_⟩) he hpl
  exact run_fnX hW F hr hb hd I1 r q
theorem run_makeX {pins : List (Addr × Obj)} {σ : St} {H : Hp} {s : Shared} {Q : VK} {us : List Value} {vs : List V} (hW : Wants X W) (M : Mk X.K C f) (F : FnOk X.prog X.w X.K X.mg X.base (CX1 X.prog X.w) k f fd ps sp) (hr : Room (k + 1) X.A) (hb : Binds X.K fd ps ds) (hd : Vals dvs ds)
    (I : Inv X pins σ H s) (r : Vals vs us)
    (h : ∀ x dx, H x = none → H dx = none → dx ≠ x → sp (.ref x :: (vs ++ dvs)) (upd (upd H dx (.own x)) x (.ins C dx [])) (fun v H2 => v = .non ∧ Q (.ref x) H2) fun c d H' => W c d σ H') :
    wpAny (model X.prog X.w) X.A (call (.ref C) us) (EP X pins σ Q) X.xe s := by
  have hq := h (s.heap.objs.size + 1) s.heap.objs.size (I.hok.fresh (Nat.le_succ _)) (I.hok.fresh (Nat.le_refl _)) (Nat.ne_of_lt (Nat.lt_succ_self _))
  have I2 := Inv.made (C := C) I
  have r2 : Vals (V.ref (s.heap.objs.size + 1) :: (vs ++ dvs)) (Value.ref (s.heap.objs.size + 1) :: (us ++ ds)) := .cons rfl (r.append hd)
  have hl : (Value.ref (s.heap.objs.size + 1) :: us ++ ds).length = ps.length := by
    have e := r2.length
    rw [F.len _ _ _ _ hq] at e
    exact e.symm
  refine wpAny_call (make_map (f := f) I.kIn M.makes M.init (beq_iff_eq.mp M.fn) (codeAny_mono (F.run _ X.stack _ _ ⟨Value.ref (s.heap.objs.size + 1) :: us, []⟩ (Value.ref (s.heap.objs.size + 1) :: (us ++ ds)) _ _ _ (hr.make C us [])
    (I2.env0.make C us []) (hb _ (Value.ref (s.heap.objs.size + 1) :: us) I2.kIn hl) r2 hq) fun r s' hq' => ?_))
  cases r with
  | error e => exact hW.2 _ _ (CX1.xe hW.1 I2 hq')
  | ok fl =>
    cases fl with
    | ret u =>
      obtain ⟨v, H', I3, rv, ev, q3⟩ := I2.after hq'
      subst ev
      exact ⟨rv, ⟨V.ref (s.heap.objs.size + 1), H', I3, rfl, q3⟩⟩
    | next => exact False.elim hq'
    | brk => exact False.elim hq'
    | cont => exact False.elim hq'
theorem pe_mkX (hW : Wants X W) (D : MkX X.prog X.w X.K X.mg X.base C k x ps ds sp) (hr : Room (k + 1) X.A) (hg : Gl X x) (hd : Vals dvs ds) (ha : PA X (e :: es) t) (hdb : (x == ("__debug__" : Str)) = false := by decide)
    (he : starEach (e :: es) X.env = (false, eval e X.env) :: starEach es X.env := by rfl) (hpl : (backTo pos (starEach es X.env)).any (·.1) = false := by rfl) : PE X (.Call (.Name x p) (e :: es) [] pos) (tMakeX C sp dvs W t) := by
  obtain ⟨f, fd, F, hm, M, hb⟩ := D
  intro pins s σ H Q I h
  refine wpAny_Call_Name_kw (ld_glob I hg hm ?_ hdb)
  refine PySem.W.callWith_K (h₀ := X.base) I.ok.mod.kin M.kp (thn (ha pos pins s σ H _ I h) fun us s1 ⟨vs, H1, I1, r, q⟩ => ⟨I1.kIn, ?_⟩) he hpl
  refine run_makeX hW M F hr hb hd I1 r fun y dx h1 h2 h3 => q y dx _ ?_ h1 upd_same
  exact (same_upd h2).trans (same_upd (by rw [upd_ne h3.symm]; exact h1))
end
def veMro : List Value := [.type "ValueError", .type "Exception", .type "BaseException", .type "object"]
def ExcC (K : PySem.W.Frag) (C : Addr) : Prop := PySem.W.excIn K C veMro "ValueError.__new__" = true
theorem exc_at {K : PySem.W.Frag} {h : Heap} {C : Addr} {bmB : List Value} {newId : String} (X : K.In h) (q : PySem.W.excIn K C bmB newId = true) :
    ∃ bm N nm qn bs hd sn sub ab col dd k0 k1 k2 k3 k5 mN, h.get? C = some (excClassObj nm qn C N bs bm hd sn sub ab col dd k0 k1 k2 k3 k5 newId) ∧ h.Ns N mN ∧ mN "__init__" = none ∧ OwnTail h bmB bm := by
  unfold PySem.W.excIn at q
  split at q
  case h_2 => cases q
  case h_1 dd cd sl ho =>
    split at q
    case h_2 => cases q
    case h_1 C' bm k0 k1 k2 k3 n k5 hm hsl =>
      simp only [Bool.and_eq_true, beq_iff_eq, Bool.not_eq_true'] at q
      obtain ⟨⟨⟨⟨⟨q1, q2⟩, q3⟩, q4⟩, q5⟩, q6⟩ := q
      subst q1 q2
      cases cd with
      | mk nm bs mro ns qn hd sn sub ab col del =>
        cases sl with
        | mk l =>
          have hm' : mro = _ := hm
          have hl' : l = _ := hsl
          have q3' : del = false := q3
          subst hm' hl' q3'
          exact ⟨bm, ns, nm, qn, bs, hd, sn, sub, ab, col, dd, k0, k1, k2, k3, k5, _, X _ _ ho, .of_isNs (PySem.W.isNs_of_in X q5), PySem.W.nsMap_none_of_in X q5 q6, PySem.W.tail_of_in X q4⟩
def tRaise (W : XW) (C : Addr) (t : TA) : TS := fun _ σ H => t σ H fun vs H1 => vs.length ≤ sizeLine ∧ W (.ref C) none σ H1
theorem ns_bk {h h' : Heap} {N : Addr} {m : Str → Option Value} (k : ∀ b o, h.get? b = some o → h'.get? b = some o) (n : h.Ns N m) : h'.Ns N m :=
  let ⟨o, es, ep, e, r⟩ := n; ⟨o, es, ep, k _ _ e, r⟩
theorem ps_raise {X : Cx} {W : XW} {C : Addr} {x : Str} {np cpos pos : Pos} {e : Expr} {es : List Expr} {t : TA} (hW : Wants X W) (hc : X.calm = true) (hE : ExcC X.K C) (hg : Gl X x) (hm : X.mg x = some (.ref C)) (ha : PA X (e :: es) t)
    (hdb : (x == ("__debug__" : Str)) = false := by decide) (he : starEach (e :: es) X.env = (false, eval e X.env) :: starEach es X.env := by rfl) (hpl : (backTo cpos (starEach es X.env)).any (·.1) = false := by rfl) :
    PS X (.Raise (some (.Call (.Name x np) (e :: es) [] cpos)) none pos) (tRaise W C t) := by
  intro pins s σ H D I h
  obtain ⟨bm, N, nm, qn, bs, hd, sn, sub, ab, col, dd, k0, k1, k2, k3, k5, mN, hC, hN, hni, hT⟩ := exc_at I.ok.mod.kin hE
  refine wpAny_Raise_call_subU PySem.F.excBase_ValueError (by decide +kernel) PySem.F.excBase_ValueError (C := C) (nm := nm) (q := qn) (N := N) (bs := bs) (hdct := hd) (sn := sn) (sub := sub) (ab := ab) (col := col) (dd := dd) (k0 := k0) (k1 := k1) (k2 := k2) (k3 := k3) (k5 := k5) (hT.hasType (by decide +kernel)) (I.ok.hd hc) (by rw [he]; show (false || (backTo cpos (starEach es X.env)).any (·.1)) = false; rw [hpl]; rfl) hni (ld_glob I hg hm ⟨rfl, ?_⟩ hdb)
  have h2 := ha cpos pins s σ H _ I h
  rw [he] at h2 ⊢
  refine Calls.evalArgs_plain (thn h2 fun us s1 ⟨vs, H1, I1, r, q1, q2⟩ => ⟨rfl, by rw [← r.length]; exact q1, I1.bk _ _ hC, ns_bk I1.bk hN, hT.keeps I1.bk, fun h' ex hx => hW.2 _ _ ?_⟩)
  obtain ⟨tt, hex, _, _⟩ := hx.there
  have J : Inv X [] σ H1 s1 := I1.pins_of (by simp)
  exact ⟨ex, .ref C, none, σ, H1, rfl, J.kept (t' := s1.toks) hx.keeps, ⟨J.fpX hW.1 hx.new (J.noneOf hx.new), .inl ⟨_, _, hex, rfl, rfl, rfl, rfl, .inl rfl⟩⟩, q2⟩
end L2
namespace L2
open PySem PySem.Spec PyProof.Rows
def excO (a : Addr) (cls : Value) (dd : Option Addr) : HO := .ext fun h => ∃ oe vs, h.get? a = some oe ∧ oe.cls = cls ∧ oe.dict = dd ∧ oe.data = .fields vs
abbrev hnd (X : Cx) (e : Addr) : Cx := { X with A := X.A.mark (some (.ref e)), calm := false, xe := fun _ _ => False }
abbrev pnd (X : Cx) (pn : List (Addr × Obj)) : Cx := { X with pn := pn }
section
variable {X : Cx} {pins : List (Addr × Obj)} {σ : St} {H : Hp} {s : Shared} {e : Addr}
theorem Inv.hnd (I : Inv X pins σ H s) (e : Addr) : Inv (hnd X e) pins σ H s :=
  ⟨⟨I.ok.mod, I.ok.kind, I.ok.glob, I.ok.blt, I.ok.above, I.ok.inj, I.ok.has, I.ok.cab, (fun z => nomatch z), I.ok.frames, I.ok.stk, I.ok.exf, I.ok.bs, I.ok.bsz, I.ok.noex, I.ok.exfs, I.ok.funs, I.ok.frf⟩, I.os, I.bare, I.base, I.loc, I.cell, I.free, I.freeC, I.pin, I.hok, I.len⟩
theorem Inv.unhnd (hd : X.calm = true → X.A.handled = none) (I : Inv (L2.hnd X e) pins σ H s) : Inv X pins σ H s :=
  ⟨⟨I.ok.mod, I.ok.kind, I.ok.glob, I.ok.blt, I.ok.above, I.ok.inj, I.ok.has, I.ok.cab, hd, I.ok.frames, I.ok.stk, I.ok.exf, I.ok.bs, I.ok.bsz, I.ok.noex, I.ok.exfs, I.ok.funs, I.ok.frf⟩, I.os, I.bare, I.base, I.loc, I.cell, I.free, I.freeC, I.pin, I.hok, I.len⟩
theorem Inv.pnd (I : Inv X pins σ H s) : Inv (pnd X (X.pn ++ pins)) [] σ H s :=
  ⟨⟨I.ok.mod, I.ok.kind, I.ok.glob, I.ok.blt, I.ok.above, I.ok.inj, I.ok.has, I.ok.cab, I.ok.hd, I.ok.frames, I.ok.stk, I.ok.exf, I.ok.bs, I.ok.bsz, I.ok.noex, I.ok.exfs, I.ok.funs, I.ok.frf⟩, I.os, I.bare, I.base, I.loc, I.cell, I.free, I.freeC, fun p hp => I.pin p (by
    have : p ∈ (X.pn ++ pins) ++ ([] : List (Addr × Obj)) := hp
    simpa using this), I.hok, I.len⟩
theorem Inv.unpnd (I : Inv (L2.pnd X (X.pn ++ pins)) [] σ H s) : Inv X pins σ H s :=
  ⟨⟨I.ok.mod, I.ok.kind, I.ok.glob, I.ok.blt, I.ok.above, I.ok.inj, I.ok.has, I.ok.cab, I.ok.hd, I.ok.frames, I.ok.stk, I.ok.exf, I.ok.bs, I.ok.bsz, I.ok.noex, I.ok.exfs, I.ok.funs, I.ok.frf⟩, I.os, I.bare, I.base, I.loc, I.cell, I.free, I.freeC, fun p hp => I.pin p (by
    show p ∈ (X.pn ++ pins) ++ ([] : List (Addr × Obj))
    simpa using hp), I.hok, I.len⟩
theorem SP.unpnd {E : Value → Shared → Prop} {D : Ends} {f : Flow} {s' : Shared} (h : SP ((L2.pnd X (X.pn ++ pins)).wish E) [] D f s') : SP X pins D f s' := by
  cases f with
  | next => obtain ⟨σ', H', I, q⟩ := h; exact ⟨σ', H', I.unwish.unpnd, q⟩
  | brk => obtain ⟨σ', H', I, q⟩ := h; exact ⟨σ', H', I.unwish.unpnd, q⟩
  | cont => obtain ⟨σ', H', I, q⟩ := h; exact ⟨σ', H', I.unwish.unpnd, q⟩
  | ret u => obtain ⟨v, σ', H', I, r, q⟩ := h; exact ⟨v, σ', H', I.unwish.unpnd, r, q⟩
theorem Inv.gone {h' : Heap} {t' : Nat} {n : Str} {j : Nat} {m : Str → Option Value} {v : Option Value} (I : Inv X pins σ H s) (hN : X.N.Nodup) (hj : X.N[j]? = some n) (hm : s.heap.Ns X.env.locals m)
    (hl : ∀ (i : Nat) (x : Str) (v : V), X.N[i]? = some x → σ[i]? = some (some v) → Vis X.env.scope x → ∃ u, RelV v u ∧ Look X.env s.heap m x u)
    (hn : h'.Ns X.env.locals (fun x => if x = n then v else m x)) (hs : Heap.SameBut X.env.locals s.heap h') : Inv X pins (σ.set j none) H { s with heap := h', toks := t' } := by
  have ne0 : ∀ b o, X.s₀.heap.get? b = some o → b ≠ X.env.locals := fun b o q => Nat.ne_of_lt (Nat.lt_of_lt_of_le (Heap.lt_size q) I.ok.above)
  refine ⟨I.ok, I.os, I.bare, ⟨fun b o q n hb hx => ?_, fun b o q n hb hx => ?_, I.base.free, fun b o q hx => ?_, I.base.tups, I.base.frzs, I.base.tbls⟩, ⟨_, hn, fun i y v' e1 e2 e3 => ?_⟩, fun y c q => ?_, I.free, I.freeC, fun p hp => ?_, fun b u q => ?_, by simpa using I.len⟩
  · exact (hs.2 b (ne0 b o q)).trans (I.base.keep b o q n hb hx)
  · obtain ⟨sl, e1⟩ := I.base.slot b o q n hb hx
    exact ⟨sl, (hs.2 b (ne0 b o q)).trans e1⟩
  · obtain ⟨o', e1⟩ := I.base.there b o q hx
    exact ⟨o', (hs.2 b (ne0 b o q)).trans e1⟩
  · by_cases hij : i = j
    · subst hij
      have hi : i < σ.length := by rw [I.len]; exact (List.getElem?_eq_some_iff.mp hj).1
      rw [List.getElem?_set_self hi] at e2
      cases e2
    · rw [List.getElem?_set_ne (Ne.symm hij)] at e2
      obtain ⟨u', r', q⟩ := hl i y v' e1 e2 e3
      refine ⟨u', r', ?_⟩
      rcases q with ⟨k, q⟩ | ⟨k, c, q, z⟩
      · have ny : y ≠ n := fun z => hij (nodup_ix hN e1 (z ▸ hj))
        exact .inl ⟨k, by simp [ny, q]⟩
      · exact .inr ⟨k, c, q, z.sameBut hs (I.cne y c q)⟩
  · obtain ⟨w', z⟩ := I.cell y c q
    exact ⟨w', z.sameBut hs (I.cne y c q)⟩
  · obtain ⟨q, n, ne, nf, d⟩ := I.pin p hp
    exact ⟨(hs.2 p.1 ne).trans q, n, ne, nf, d⟩
  · refine (I.hok b u q).stay (fun c w' hc q' => (hs.2 c ?_).trans q') (fun _ q => q) fun _ _ q => q
    rintro rfl
    rcases hc with z | z
    · rw [← z, I.free] at q; cases q
    · rw [I.free] at z; cases z
theorem goes_ok {M : Model} {A : Around} {E : Value → Shared → Prop} {n : Str} {j : Nat} {pos : Pos} {Q : Unit → Shared → Prop} (I : Inv X pins σ H s) (hN : X.N.Nodup) (hj : X.N[j]? = some n) (hl : X.env.kindOf n = some .local)
    (k : ∀ s', Inv X pins (σ.set j none) H s' → Q () s') : wpAny M A (do bindName X.env n .none; unbindBehindTheSuite X.env n pos) Q E s := by
  obtain ⟨m, hm, hl'⟩ := id I.loc
  exact wpAny_nameGoes_keeps hl hm (by rw [I.ok.kind]; rfl) fun h' v hn hs => k _ (I.gone hN hj hm hl' hn hs)
end
def Hits (K : PySem.W.Frag) (C : Addr) (cls : Value) : Prop := ∃ D, cls = .ref D ∧ PySem.W.ktsIn K D "BaseException" = true ∧ PySem.W.mroIn K D (.ref C) = some true
theorem mro_of {K : PySem.W.Frag} {h : Heap} {C : Addr} {base : Value} {r : Bool} {nm q : Str} {N : Addr} {bs bm : List Value} {hdct : Bool} {sn : List Str} {sub : List Value} {ab : Bool} {col : Option Bool} {dd : Option Addr} {k0 k1 k2 k3 k5 : Option Value} {newId : String}
    (X : K.In h) (e : PySem.W.mroIn K C base = some r) (hC : h.get? C = some (excClassObj nm q C N bs bm hdct sn sub ab col dd k0 k1 k2 k3 k5 newId)) : (Value.ref C :: bm).contains base = r := by
  unfold PySem.W.mroIn PySem.W.clsIn at e
  split at e
  case h_1 ho =>
    have := X _ _ ho
    rw [hC] at this
    cases this
    simpa using e
  case h_2 => simp at e
theorem excMatches_own {M : Model} {A : Around} {E : Value → Shared → Prop} {K : PySem.W.Frag} {s : Shared} {e C D : Addr} {oe : Obj} {Q : Bool → Shared → Prop} (X : K.In s.heap) (he : s.heap.get? e = some oe) (hcls : oe.cls = .ref D)
    (hC : PySem.W.ktsIn K C "BaseException" = true) (hD : PySem.W.ktsIn K D "BaseException" = true) (hs : PySem.W.mroIn K D (.ref C) = some true) (hq : Q true s) : wpAny M A (excMatches (.ref e) (.ref C)) Q E s := by
  obtain ⟨nm, qn, N, bs, bm, hdct, sn, sub, ab, col, dd, k0, k1, k2, k3, k5, newId, gC, hb, _⟩ := PySem.W.kts_cls X hC
  obtain ⟨nm', qn', N', bs', bm', hdct', sn', sub', ab', col', dd', k0', k1', k2', k3', k5', newId', gD, hb', _⟩ := PySem.W.kts_cls X hD
  have hcB : (Value.ref C :: bm).contains (.type "BaseException") = true := by rw [List.contains_cons, hb, Bool.or_true]
  have hcC := mro_of X hs gD
  have f := tc_notTuple
  obtain ⟨hp, g, d, tk, os⟩ := s
  unfold excMatches
  repeat (first | (with_reducible refine wpAny_loadPart_at he ?_; rw [hcls]) | with_reducible refine wpAny_loadPart_at gC ?_ | (with_reducible refine wpAny_isSubtype_exc gC ?_; rw [hcB]) | (with_reducible refine wpAny_isSubtype_exc gD ?_; rw [hcC]) | wp_step)
  exact hq
def hEnds (D : Ends) (j : Nat) : Ends := { nx := fun σ H => D.nx (σ.set j none) H, rt := D.rt, bk := fun σ H => D.bk (σ.set j none) H, ct := fun σ H => D.ct (σ.set j none) H }
def hW (K : PySem.W.Frag) (C : Addr) (th : TS) (j : Nat) (D : Ends) : XW := fun cls dd σ H => Hits K C cls ∧ ∀ e H', New H H' e (excO e cls dd) → th (hEnds D j) (σ.set j (some (.ref e))) H'
def sTry (K : PySem.W.Frag) (C : Addr) (tb : XW → TS) (th : TS) (j : Nat) : TS := fun D σ H => tb (hW K C th j D) D σ H
theorem ps_try {X : Cx} {C : Addr} {x n : Str} {j : Nat} {np hpos pos : Pos} {body suite : List Stmt} {b₀ : Stmt} {tb : XW → TS} {th : TS} (hs : OnStk X) (hN : X.N.Nodup) (hj : X.N[j]? = some n) (hl : X.env.kindOf n = some .local) (hx : X.env.scope.names.lookup n = some .local)
    (hg : Gl X x) (hm : X.mg x = some (.ref C)) (hC : PySem.W.ktsIn X.K C "BaseException" = true)
    (hb : ∀ pn W, PSs ((pnd X pn).wish (XE (pnd X pn) W)) body (tb W)) (hh : ∀ pn e, PSs (hnd (pnd X pn) e) (b₀ :: suite) th) (hdb : (x == ("__debug__" : Str)) = false := by decide) :
    PS X (.Try body [.ExceptHandler (some (.Name x np)) (some n) (b₀ :: suite) hpos] [] [] pos) (sTry X.K C tb th j) := by
  intro pins s σ H D I h
  have I0 : Inv (pnd X (X.pn ++ pins)) [] σ H s := I.pnd
  refine wpAny_Try_except (wpAny_mono (hb (X.pn ++ pins) _ [] s σ H D (I0.wish _) h) (fun f s1 q => ?_) fun ev s1 q => ?_)
  · cases f with
    | next => exact wpAny_execs_nil q.unpnd
    | brk => exact q.unpnd
    | cont => exact q.unpnd
    | ret u => exact q.unpnd
  · obtain ⟨e, cls, dd, σ1, H1, rfl, I1, F1, ⟨DC, rfl, hD, hDC⟩, w1⟩ := q
    have hs' : OnStk (pnd X (X.pn ++ pins)) := hs
    refine note_ok (X := pnd X (X.pn ++ pins)) hs' I1.ok.frames I1 F1 fun h2 T I2 hT F2 => ?_
    refine flight_ok none I2 hT F2 fun h3 I3 F3 => ?_
    obtain ⟨oe, vs, oT, ts, he, hc, _⟩ := id F3
    refine wpAny_handleBy_cons (codeAny_handlers_test (ld_glob (X := hnd (pnd X (X.pn ++ pins)) e) (I3.hnd e) hg hm ?_ hdb)) (by intro q; cases q)
    refine excMatches_own (s := { s1 with heap := h3 }) I3.kIn he hc hC hD hDC (codeAny_handlers_suite_as ?_)
    refine flight_ok none I3 hT F3 fun h4 I4 F4 => ?_
    obtain ⟨oe, vs, oT, ts, he, hc, hdd, hd, _⟩ := id F4
    have I5 : Inv (pnd X (X.pn ++ pins)) [] σ1 (upd H1 e (excO e (.ref DC) dd)) { s1 with heap := h4 } := I4.track F1.1 ⟨⟨oe, vs, he, hc, hdd, hd⟩, ⟨oe, he⟩, fun g1 g2 ⟨o', v', q1, q2, q3, q4⟩ k => ⟨o', v', k _ q1, q2, q3, q4⟩⟩
    refine store_ok (X := pnd X (X.pn ++ pins)) (v := .ref e) I5 hN hj (.inl hx) rfl (fun s6 I6 => ?_) (.inr hx)
    have w2 := w1 e _ (new_upd F1.1.1)
    refine wpAny_mono (hh (X.pn ++ pins) e [] s6 _ _ _ (I6.hnd e) w2) (fun f s7 q => ?_) fun _ _ z => False.elim z
    have go : ∀ {σ7 H7}, Inv (hnd (pnd X (X.pn ++ pins)) e) [] σ7 H7 s7 → ∀ {Q : Unit → Shared → Prop}, (∀ s', Inv X pins (σ7.set j none) H7 s' → Q () s') → wpAny (model X.prog X.w) X.A (do bindName X.env n .none; unbindBehindTheSuite X.env n hpos) Q X.xe s7 := fun {σ7 H7} J {Q} k =>
      goes_ok (Inv.unpnd (Inv.unhnd I.ok.hd J)) hN hj hl k
    cases f with
    | next => obtain ⟨σ7, H7, J, q7⟩ := q; exact go J fun s' J' => ⟨_, _, J', q7⟩
    | brk => obtain ⟨σ7, H7, J, q7⟩ := q; exact go J fun s' J' => ⟨_, _, J', q7⟩
    | cont => obtain ⟨σ7, H7, J, q7⟩ := q; exact go J fun s' J' => ⟨_, _, J', q7⟩
    | ret u => obtain ⟨v, σ7, H7, J, r, q7⟩ := q; exact go J fun s' J' => ⟨v, _, _, J', r, q7⟩
end L2
namespace L2
open PySem PySem.Spec PyProof.Rows
structure ExcK (K : PySem.W.Frag) (D : Addr) : Prop where
  ga : PySem.W.findIn K (.ref D) "__getattribute__" = some (some (.builtin "BaseException.__getattribute__"))
  gt : PySem.W.findIn K (.ref D) "__getattr__" = some none
  cl : PySem.W.findIn K (.ref D) "__class__" = some (some (.builtin "object.__class__"))
  ob : PySem.W.mroIn K D (.type "object") = some true
  be : PySem.W.mroIn K D (.type "BaseException") = some true
  kt : PySem.W.ktsIn K D "BaseException" = true
section
variable {prog : Program} {w : World} {A : Around} {E : Value → Shared → Prop} {s : Shared} {K : PySem.W.Frag} {a D : Addr} {oe : Obj} {vs : Array Value}
theorem exc_class {Q : Option Value → Shared → Prop} (X : K.In s.heap) (F : ExcK K D) (he : s.heap.get? a = some oe) (hc : oe.cls = .ref D) (hd : oe.data = .fields vs) (hdx : ∀ dx, oe.dict = some dx → ∃ o, s.heap.get? dx = some o) (h : Q (some (.ref D)) { s with toks := s.toks + 1 }) :
    wpAny (model prog w) A (getAttr? (.ref a) "__class__") Q E s := by
  obtain ⟨hh, g, d, t, os⟩ := s
  have L0 : PySem.W.Looks (model prog w) hh (typeOf (.ref a)) (.ref D) := hc ▸ (PySem.W.Looks.ld he).andThen .now
  have L1 := PySem.W.looks_findIn (M := model prog w) X F.ga
  have L2' := PySem.W.looks_findIn (M := model prog w) X F.gt
  have L3 := PySem.W.looks_findIn (M := model prog w) X F.cl
  have L4 := PySem.W.looks_mroIn (M := model prog w) X F.be
  have f3 := (PySem.F.attr_ValueError).ga.bind (.ref a)
  have hx2 : (Value.builtin "BaseException.__getattribute__" == Value.builtin "object.__getattribute__") = false := by decide +kernel
  unfold getAttr? getAttrBy? getAttrBy
  refine wpAny_bind (wpAny_mkText (wpAny_bind (wpAny_attempt (wpAny_holding (wpAny_bind (L0.at (wpAny_bind (L1.at ?_))))))))
  have hsel : (onTheHeap (Value.ref D) && Value.builtin "BaseException.__getattribute__" == Value.builtin "object.__getattribute__") = false := by rw [hx2]; rfl
  dsimp only
  rw [if_neg (by rw [hsel]; decide)]
  unfold getAttrByItsOwn
  have hx0 : (false && onTheHeap (Value.builtin "BaseException.__getattribute__")) = false := rfl
  unfold hookBefore
  refine wpAny_bind ?_
  rw [if_pos (show onTheHeap (Value.ref D) = true from rfl)]
  refine L2'.at ?_
  refine wpAny_bind (wpAny_attempt (wpAny_holding ?_))
  unfold callGetattribute
  rw [if_neg (by decide)]
  unfold boundAndCalled
  rw [f3]
  refine wpAny_bind (wpAny_pure ?_)
  refine wpAny_call (codeAny_call_builtin PySem.F.attr_ValueError.ga.plain PySem.F.entry_bexc_ga ?_)
  have hk : builtinKind "BaseException.__getattribute__" = some .slot := by decide +kernel
  have hsplit : splitId "BaseException.__getattribute__" = some ("BaseException", "__getattribute__") := by decide +kernel
  have ha := PySem.F.args_bexc_ga (.ref a) (.str "__class__" t)
  have hT5 : (⟨hh, g, d, t, os⟩ : Shared).TypeIs (.builtin "object.__class__") "getset_descriptor" := PySem.F.typeOf_object_class
  have f5 := PySem.F.typeOf_object_class
  have f6 := PySem.F.slot_gs_get.lookup
  have f7 := PySem.F.slot_gs_set.lookup
  simp only [checkBuiltinCall, hk, hsplit]
  refine wpAny_bind ?_
  unfold isInstance
  repeat (first | with_reducible refine L0.at ?_ | with_reducible refine L4.at ?_ | wp_step)
  refine L3.at ?_
  repeat (any_goals (first | assumption | with_reducible refine L0.at ?_ | wp_step))
  obtain ⟨od, I⟩ : ∃ od, PySem.W.InstAt hh a oe D od := by
    cases q : oe.dict with
    | none => exact ⟨none, he, hc, by unfold PySem.W.notCls; rw [hd], by rw [q]; trivial⟩
    | some dx =>
      obtain ⟨o, ho⟩ := hdx dx q
      exact ⟨some o, he, hc, by unfold PySem.W.notCls; rw [hd], by rw [q]; exact ho⟩
  refine PySem.W.class_get (s := ⟨hh, g, d, t + 1, os⟩) (od := od) X I F.ob ?_
  refine wpAny_pure ?_
  exact PySem.W.handed_on rfl (wpAny_pure h)
def ExAt (a D : Addr) (h : Heap) : Prop := ∃ oe vs, h.get? a = some oe ∧ oe.cls = .ref D ∧ oe.data = .fields vs ∧ ∀ dx, oe.dict = some dx → ∃ o, h.get? dx = some o
theorem kitx_exc (F : ExcK K D) : PySem.W.KitX K (.ref a) (.ref D) (ExAt a D) where
  ty := fun M h _ ⟨oe, vs, he, hc, _⟩ => hc ▸ (PySem.W.Looks.ld he).andThen .now
  it := fun _ _ X _ => by
    obtain ⟨nm, qn, N, bs, bm, hdct, sn, sub, ab, col, dd, k0, k1, k2, k3, k5, newId, gD, _⟩ := PySem.W.kts_cls X F.kt
    intro A' Q' E' s' k q
    unfold isType loadHead
    exact wpAny_bind (wpAny_loadPart (k _ _ gD) (wpAny_pure q))
  ne := fun h tp dd its n sl X htp => by
    obtain ⟨nm, qn, N, bs, bm, hdct, sn, sub, ab, col, dd, k0, k1, k2, k3, k5, newId, gD, _⟩ := PySem.W.kts_cls X F.kt
    refine Bool.eq_false_iff.mpr fun q => ?_
    have e : D = tp := Value.ref.inj (beq_iff_eq.mp q)
    subst e
    rw [gD] at htp
    have h2 := congrArg (Option.map Obj.cls) htp
    simp at h2
  ca := fun X ⟨oe, vs, he, hc, hd, hdx⟩ k => exc_class X F he hc hd hdx k
end
def clsV : V → Value
  | .ref C => .ref C
  | .ty T => .type T
  | _ => .none
theorem call_isiX {X : Cx} {K : PySem.W.Frag} (hK : X.K = K) : CallR X (.builtin "isinstance") (fun xs H Q => ∃ a D dd c b, xs = [.ref a, c] ∧ H a = some (excO a (.ref D) dd) ∧ ExcK K D ∧ (∀ dx, dd = some dx → ∃ fs, H dx = some (.xd fs)) ∧ PySem.W.kitOne K (.ref D) (clsV c) = some b ∧ Q (.bl b) H) := by
  subst hK
  intro pins s σ H xs us Q I r h
  obtain ⟨a, D, dd, c, b, rfl, ha, F, hdd, e, q⟩ := h
  obtain ⟨u, w', rfl, ru, rw'⟩ := vals2 r
  cases (show u = Value.ref a from ru)
  have hw : w' = clsV c := by
    cases c <;> first | exact rw' | (exfalso; simp [PySem.W.kitOne, PySem.W.kitCls, clsV] at e)
  subst hw
  obtain ⟨⟨oe, vs, he, hc, hdc, hd⟩, _⟩ := (show ObjOk X.prog X.w H s.heap a (excO a (.ref D) dd) from I.hok a _ ha)
  refine PySem.W.kia_one (kitx_exc F) I.kIn ⟨oe, vs, he, hc, hd, fun dx z => ?_⟩ e (fun z => nomatch z) fun tk => ⟨.bl b, H, I.tok tk, rfl, q⟩
  obtain ⟨fs, hx⟩ := hdd dx (hdc.symm.trans z)
  exact (I.hok dx _ hx).there
end L2
namespace L2
open PySem PySem.Spec PyProof.Rows
section
variable {X : Cx}
end
theorem wants_nox {X : Cx} (hs : OnStk X) : Wants X.nox (fun _ _ _ _ => False) := ⟨hs, fun _ _ ⟨_, _, _, _, _, _, _, _, w⟩ => w⟩
end L2
namespace L2
open PySem PySem.Spec PyProof.Rows
theorem up_same {H H' : Hp} {a : Addr} {o : HO} (s : Same H H') (h : H a = some o) : H' a = some o := s _ _ h
theorem up_new {H H' : Hp} {p a : Addr} {u o : HO} (n : New H H' p u) (h : H a = some o) : H' a = some o := n.same _ _ h
theorem same_by {H H1 H2 : Hp} {p : Addr} {u : HO} (a : Same H H1) (n : New H1 H2 p u) : Same H H2 := a.trans n.same
end L2
namespace L2
open PySem PySem.Spec PyProof.Rows
section
variable {X : Cx} {e e1 : Expr} {te t1 : TE} {pos p2 : Pos}
end
def tCut (J : St → Hp → Prop) (t u : TS) : TS := fun D σ H => t { D with nx := J } σ H ∧ ∀ σ' H', J σ' H' → u D σ' H'
theorem pss_cut {X : Cx} {st : Stmt} {rest : List Stmt} {t u : TS} (J : St → Hp → Prop) (h1 : PS X st t) (h2 : PSs X rest u) : PSs X (st :: rest) (tCut J t u) := by
  intro pins s σ H D I h
  refine wpAny_execs_cons (thn (h1 pins s σ H { D with nx := J } I h.1) fun f s1 q => ?_)
  cases f with
  | next =>
    obtain ⟨σ', H', I', q⟩ := q
    exact h2 pins s1 σ' H' D I' (h.2 σ' H' q)
  | ret v => exact q
  | brk => exact q
  | cont => exact q
end L2
namespace L2
open PySem PySem.Spec PyProof.Rows
section
variable {prog : Program} {w : World} {A : Around} {R : Result → Shared → Prop} {I : Addr} {fp wr : List Addr} {n : Nat} {P : Nat → Value → Prop} {St : Nat → Heap → Prop} {d : Value}
end
section
variable {X : Cx}
theorem boolsAre_of : ∀ {bs : List Bool} {us : List Value}, Vals (bs.map V.bl) us → us = bs.map Value.bool
  | [], _, .nil => rfl
  | b :: r, _, .cons h t => by cases (show _ = Value.bool b from h); rw [boolsAre_of t]; rfl
theorem call_all (hc : X.calm = true) : CallR X (.builtin "all") (fun xs H Q => ∃ (p : Addr) (bs : List Bool), xs = [.ref p] ∧ SqL X.K H p (bs.map V.bl) ∧ Q (.bl (bs.all id)) H) := by
  intro pins s σ H xs us Q I r h
  obtain ⟨p, bs, rfl, hq, q⟩ := h
  obtain ⟨u, rfl, ru⟩ := vals1 r
  cases (show u = Value.ref p from ru)
  obtain ⟨its, rv, pl, hz⟩ := I.list hq
  have hl := pl.isList
  have hlt : p < s.heap.objs.size := by obtain ⟨_, e, _⟩ := hl; exact Heap.lt_size e
  have hb := boolsAre_of rv
  refine call_all_walk (wpAny_pyIter_list hl ?_)
  refine ⟨s.heap.objs.size, [s.heap.objs.size, p], [s.heap.objs.size], its.toArray.size, _, _, fun i => (bs[i]?).getD true, rfl, Walks.list (A := X.A.in1) (I.ok.hd hc) _ p (Nat.ne_of_lt hlt) its.toArray,
    ⟨⟨_, Heap.get?_push_size _ rfl, rfl, rfl⟩, hl.push _⟩, fun i v s' Q' E' hP hQ => ?_, fun h' tk hk => ?_⟩
  · rw [hb] at hP
    have hP' : (bs.map Value.bool)[i]? = some v := by simpa using hP
    rw [List.getElem?_map] at hP'
    obtain ⟨b, e1, e2⟩ := Option.map_eq_some_iff.mp hP'
    subst e2
    simp only [e1, Option.getD_some] at hQ
    exact wpAny_truthy_bool hQ
  · have e : ((List.range its.toArray.size).all fun i => (bs[i]?).getD true) = bs.all id := by
      rw [List.size_toArray, hb, List.length_map]; exact PyProof.Rows.LSm.range_all bs
    rw [e]
    refine ⟨.bl _, H, I.kept fun b o q => hk b o (fun hm => ?_) (Heap.get?_push_of_some _ q), rfl, q⟩
    rw [List.mem_singleton.mp hm] at q
    exact absurd (Heap.lt_size q) (Nat.lt_irrefl _)
end
theorem bt_all : bootBuiltins "all" = some (.builtin "all") := by decide +kernel
end L2
namespace L2
open PySem PyProof PyProof.Rows
section
variable {X : Cx}
end
end L2
namespace L2
open PySem PySem.Spec PyProof.Rows
section
variable {prog : Program} {w : World} {A : Around} {E : Value → Shared → Prop} {s : Shared}
end
section
variable {X : Cx}
end
end L2
namespace L2
open PySem PySem.Spec PyProof.Rows
def RawD (h : Heap) (d : Addr) (es : Array DictEntry) (ep : Nat) : Prop := ∃ o, h.get? d = some o ∧ o.ExactDict ∧ o.data = .dict es ep
theorem RawD.ty {s : Shared} {d : Addr} {es : Array DictEntry} {ep : Nat} (x : RawD s.heap d es ep) : s.TypeIs (.ref d) "dict" := let ⟨o, a, b, _⟩ := x; ⟨o, a, b.1⟩
theorem RawD.up {h h' : Heap} {d : Addr} {es : Array DictEntry} {ep : Nat} (x : RawD h d es ep) (e : ∀ o, h.get? d = some o → h'.get? d = some o) : RawD h' d es ep := let ⟨o, a, b⟩ := x; ⟨o, e o a, b⟩
theorem RawD.lt {h : Heap} {d : Addr} {es : Array DictEntry} {ep : Nat} (x : RawD h d es ep) : d < h.objs.size := let ⟨_, a, _⟩ := x; Heap.lt_size a
section
variable {prog : Program} {w : World} {A : Around} {E : Value → Shared → Prop} {s : Shared}
end
end L2
namespace L2
open PySem PySem.Spec PyProof.Rows
section
variable {prog : Program} {w : World} {A : Around} {E : Value → Shared → Prop} {s : Shared}
end
section
variable {X : Cx}
end
end L2
namespace L2
open PySem PySem.Spec PyProof.Rows
section
variable {X : Cx} {tg : Expr}
end
section
variable {X : Cx}
end
end L2
namespace L2
open PySem PySem.Spec PyProof.Rows
end L2
namespace L2
theorem lq1 {α : Type} {us : List α} (h : us.length = 1) : ∃ a, us = [a] := by
  cases us with
  | nil => cases h
  | cons a r => exact ⟨a, by rw [List.length_eq_zero_iff.mp (Nat.succ.inj h)]⟩
theorem lq2 {α : Type} {us : List α} (h : us.length = 2) : ∃ a0 a1, us = [a0, a1] := by
  cases us with
  | nil => cases h
  | cons a r => obtain ⟨a1, e⟩ := lq1 (Nat.succ.inj h); exact ⟨a, a1, by rw [e]⟩
theorem lq3 {α : Type} {us : List α} (h : us.length = 3) : ∃ a0 a1 a2, us = [a0, a1, a2] := by
  cases us with
  | nil => cases h
  | cons a r => obtain ⟨a1, a2, e⟩ := lq2 (Nat.succ.inj h); exact ⟨a, a1, a2, by rw [e]⟩
end L2
namespace L2
open PySem PySem.Spec PyProof.Rows PySem.W
def KW (lt : Nat → Nat → Bool) (n : Nat) {α : Type} : KasT α → (α → Prop) → Prop
  | .ret a, Q => Q a
  | .ask i j k, Q => i < n ∧ j < n ∧ KW lt n (k (lt i j)) Q
theorem KW.bind {lt : Nat → Nat → Bool} {n : Nat} {α β : Type} {f : α → KasT β} {Q : β → Prop} : ∀ {t : KasT α}, KW lt n t (fun a => KW lt n (f a) Q) → KW lt n (t.bind f) Q
  | .ret a, h => by rw [KasT.bind.eq_1]; exact h
  | .ask i j k, h => by
    rw [KasT.bind.eq_2]
    exact ⟨h.1, h.2.1, KW.bind h.2.2⟩
theorem KW.mono {lt : Nat → Nat → Bool} {n : Nat} {α : Type} {Q Q' : α → Prop} (hq : ∀ a, Q a → Q' a) : ∀ {t : KasT α}, KW lt n t Q → KW lt n t Q'
  | .ret a, h => hq a h
  | .ask i j k, h => ⟨h.1, h.2.1, KW.mono hq h.2.2⟩
theorem KW.run {lt : Nat → Nat → Bool} {n : Nat} {α : Type} {Q : α → Prop} {cmp : Nat → Nat → (Bool → Shared → Prop) → Shared → Prop} {s : Shared} (hc : ∀ i j (C : Bool → Shared → Prop), i < n → j < n → C (lt i j) s → cmp i j C s) :
    ∀ {t : KasT α}, KW lt n t Q → KasT.kasWp cmp t (fun a s' => s' = s ∧ Q a) s
  | .ret a, h => by rw [KasT.kasWp.eq_1]; exact ⟨rfl, h⟩
  | .ask i j k, h => by
    rw [KasT.kasWp.eq_2]
    exact hc i j _ h.1 h.2.1 (KW.run hc h.2.2)
structure OrdN (n : Nat) (lt : Nat → Nat → Bool) : Prop where
  tot : ∀ i j, i < n → j < n → i ≠ j → lt i j = false → lt j i = true
  tr : ∀ i j k, i < n → j < n → k < n → lt i j = true → lt j k = true → lt i k = true
structure PermA (n : Nat) (p : Array Nat) : Prop where
  sz : p.size = n
  perm : p.toList.Perm (List.range n)
theorem PermA.lt {n : Nat} {p : Array Nat} (h : PermA n p) {x : Nat} (hx : x < n) : p.getD x 0 < n := by
  have hs := h.sz
  rw [Array.getD_eq_getD_getElem?, Array.getElem?_eq_getElem (by omega)]
  have : p[x] ∈ p.toList := by simp
  exact List.mem_range.mp (h.perm.mem_iff.mp this)
theorem PermA.inj {n : Nat} {p : Array Nat} (h : PermA n p) {x y : Nat} (hx : x < n) (hy : y < n) (hne : x ≠ y) : p.getD x 0 ≠ p.getD y 0 := by
  have hs := h.sz
  have nd : p.toList.Nodup := h.perm.nodup_iff.mpr List.nodup_range
  rw [Array.getD_eq_getD_getElem?, Array.getElem?_eq_getElem (by omega), Array.getD_eq_getD_getElem?, Array.getElem?_eq_getElem (by omega)]
  intro e
  have e' : p.toList[x]'(by simpa using by omega) = p.toList[y]'(by simpa using by omega) := by simpa using e
  have pw := List.pairwise_iff_getElem.mp nd
  rcases Nat.lt_or_gt_of_ne hne with h1 | h1
  · exact pw x y (by simpa using by omega) (by simpa using by omega) h1 e'
  · exact pw y x (by simpa using by omega) (by simpa using by omega) h1 e'.symm
theorem PermA.of {n : Nat} {p q : Array Nat} (h : PermA n p) (hq : q.Perm p) : PermA n q := by
  have e : q.toList.Perm p.toList := Array.perm_iff_toList_perm.mp hq
  exact ⟨by have := e.length_eq; simpa [h.sz] using this, e.trans h.perm⟩
structure OrdW (n : Nat) (lt : Nat → Nat → Bool) : Prop where
  as_ : ∀ i j, i < n → j < n → lt i j = true → lt j i = false
  tr : ∀ i j k, i < n → j < n → k < n → lt j i = false → lt k j = false → lt k i = false
section
variable {lt : Nat → Nat → Bool} {n : Nat}
end
end L2
namespace L2
open PySem PySem.Spec PyProof.Rows PySem.W
def blt : List Int → List Int → Bool
  | [], [] => false
  | [], _ :: _ => true
  | _ :: _, [] => false
  | a :: r, b :: t => if a = b then blt r t else decide (a < b)
section
variable {prog : Program} {w : World} {A : Around} {E : Value → Shared → Prop} {s : Shared}
end
end L2
namespace L2
open PySem PySem.Spec PyProof.Rows PySem.W
def pick {α : Type} (idx : List Nat) (xs : List α) (d : α) : List α := idx.map fun i => xs.getD i d
def TupsH (H : Hp) (xs : List V) (ks : List (List Int)) : Prop := Paired (fun v r => ∃ a, v = V.ref a ∧ H a = some (.tup (r.map V.int))) xs ks
theorem TupsH.len {H : Hp} : ∀ {xs : List V} {ks : List (List Int)}, TupsH H xs ks → xs.length = ks.length
  | _, _, .nil => rfl
  | _, _, .cons _ t => by simp [TupsH.len t]
theorem TupsH.get {H : Hp} : ∀ {xs : List V} {ks : List (List Int)} {i : Nat} {x : V} {k : List Int}, TupsH H xs ks → xs[i]? = some x → ks[i]? = some k → ∃ a, x = .ref a ∧ H a = some (.tup (k.map V.int))
  | _, _, _, _, _, .nil, e, _ => by simp at e
  | _, _, 0, _, _, .cons r _, e, f => by simp at e f; subst e f; exact r
  | _, _, i + 1, x, k, .cons _ t, e, f => TupsH.get (i := i) t (by simpa using e) (by simpa using f)
theorem TupsH.pick {H : Hp} {xs : List V} {ks : List (List Int)} (h : TupsH H xs ks) : ∀ {idx : List Nat}, (∀ i ∈ idx, i < ks.length) → TupsH H (pick idx xs .non) (pick idx ks [])
  | [], _ => .nil
  | i :: r, hi => by
    have h0 := hi i List.mem_cons_self
    have hl := h.len
    refine .cons (h.get (i := i) ?_ ?_) (TupsH.pick h fun j hj => hi j (List.mem_cons_of_mem _ hj))
    · show xs[i]? = some (xs.getD i .non)
      rw [List.getD_eq_getElem?_getD, List.getElem?_eq_getElem (by omega)]; rfl
    · show ks[i]? = some (ks.getD i [])
      rw [List.getD_eq_getElem?_getD, List.getElem?_eq_getElem h0]; rfl
section
variable {prog : Program} {w : World} {A : Around} {E : Value → Shared → Prop} {s : Shared}
end
section
variable {X : Cx}
end
end L2
namespace L2
open PySem PySem.Spec PyProof.Rows
section
variable {X : Cx} {k : Nat} {C : Addr} {ps : List Str} {sp : Sp} {dvs : List V} {ds : List Value} {m : Str} {pos apos : Pos} {e o : Expr} {es : List Expr} {ta : TE} {t : TA}
end
end L2
namespace L2
open PySem PySem.Spec PyProof.Rows PySem.W
section
variable {prog : Program} {w : World} {A : Around} {E : Value → Shared → Prop} {s : Shared}
end
section
variable {X : Cx} {pos : Pos}
end
end L2
namespace L2
open PySem PySem.Spec PyProof.Rows
section
variable {prog : Program} {w : World} {A : Around} {E : Value → Shared → Prop} {s : Shared}
end
end L2
namespace L2
open PySem PySem.Spec PyProof.Rows
section
variable {X : Cx} {pins : List (Addr × Obj)} {σ : St} {H : Hp} {s : Shared} {d : Addr}
end
section
variable {X : Cx}
end
end L2
namespace L2
open PySem PySem.Spec PyProof.Rows
section
variable {prog : Program} {w : World} {A : Around} {E : Value → Shared → Prop} {h : Heap} {g : Array GenState} {d : Drawn} {t : Nat} {os : OsState}
variable {nm q : Str} {C N x : Addr} {bs bm : List Value} {hdct : Bool} {sn : List Str} {sub : List Value} {ab : Bool} {col : Option Bool} {dd : Option Addr} {k0 k1 k2 k3 k5 : Option Value}
theorem type_call_excI (T : OwnTail h veMro bm) {mN : Str → Option Value} {rest : List Value} {fI : Addr} {oI : Obj} {Q : Fin → Shared → Prop}
    (hC : h.get? C = some (excClassObj nm q C N bs bm hdct sn sub ab col dd k0 k1 k2 k3 k5 "ValueError.__new__")) (hn : h.Ns N mN) (hi : mN "__init__" = some (.ref fI))
    (hfI : h.get? fI = some oI) (hfc : oI.cls = .type "function")
    (hq : ∀ h', (∀ b o, h.get? b = some o → h'.get? b = some o) → h'.get? (h.objs.size + 1) = some { cls := .ref C, data := .fields #[.ref h.objs.size, .none, .none, .none, .bool false, .none] } →
      wpAny (model prog w) A (call (.ref fI) (.ref (h.objs.size + 1) :: rest)) (fun r s' => r = .none ∧ Q (.done (.ret (.ref (h.objs.size + 1)))) s') E ⟨h', g, d, t, os⟩) (hrest : rest.length ≤ sizeLine) :
    wpAny (model prog w) A (Builtin.«type.__call__» ⟨.ref C :: rest, []⟩) Q E ⟨h, g, d, t, os⟩ := by
  have F := PySem.F.excBase_ValueError
  have hBn : veMro.contains (.type "ValueError") = true := by decide +kernel
  repeat (first | with_reducible refine wpAny_loadPart_at hC ?_ | with_reducible refine wpAny_madeBy_exc hC ?_ | wp_step)
  refine codeAny_call_builtin_code (Code.quiet_builtin _ F.quiet) (wpAny_check_new_subU F hBn T hC ?_)
  refine codeAny_exc_new_subU F hBn F T hC ?_ hrest
  show wpAny _ _ _ _ _ _
  have hC₁ := Heap.get?_push_of_some { cls := .ref C, data := .fields #[.ref h.objs.size, .none, .none, .none, .bool false, .none] }
    (Heap.get?_push_of_some { cls := .type "tuple", data := .seq rest.toArray } hC)
  have hfI₁ := Heap.get?_push_of_some { cls := .ref C, data := .fields #[.ref h.objs.size, .none, .none, .none, .bool false, .none] }
    (Heap.get?_push_of_some { cls := .type "tuple", data := .seq rest.toArray } hfI)
  have hn₁ : ((h.push { cls := .type "tuple", data := .seq rest.toArray }).push { cls := .ref C, data := .fields #[.ref h.objs.size, .none, .none, .none, .bool false, .none] }).Ns N mN :=
    let ⟨o, es, ep, e, r⟩ := hn; ⟨o, es, ep, Heap.get?_push_of_some _ (Heap.get?_push_of_some _ e), r⟩
  have hget : ((h.push { cls := .type "tuple", data := .seq rest.toArray }).push
      { cls := .ref C, data := .fields #[.ref h.objs.size, .none, .none, .none, .bool false, .none] }).get? (h.objs.size + 1) = some
      { cls := .ref C, data := .fields #[.ref h.objs.size, .none, .none, .none, .bool false, .none] } := by heap_get
  have hcC : (Value.ref C :: bm).contains (.ref C) = true := by simp
  have T₁ := T.keeps (h' := (h.push { cls := .type "tuple", data := .seq rest.toArray }).push { cls := .ref C, data := .fields #[.ref h.objs.size, .none, .none, .none, .bool false, .none] })
    fun b o e => Heap.get?_push_of_some _ (Heap.get?_push_of_some _ e)
  unfold isInstance
  repeat (first | with_reducible refine wpAny_loadPart_at hget ?_ | (with_reducible refine wpAny_isSubtype_exc hC₁ ?_; rw [hcC]) | wp_step)
  show wpAny _ _ (typeLookup (.ref C) _) _ _ _
  refine wpAny_typeLookup_tail hC₁ hn₁ T₁ F.mroIs F.init.lookup ?_
  rw [hi]
  refine wpAny_holding (wpAny_bind ?_)
  unfold bindSpecial
  refine wpAny_bind (wpAny_typeOf (T := "function") ⟨_, hfI₁, hfc⟩ ?_)
  rw [if_pos (by decide)]
  refine wpAny_pure (wpAny_bind (wpAny_mono (hq _ (fun b o hb => Heap.get?_push_of_some _ (Heap.get?_push_of_some _ hb)) hget) (fun r s' hr => ?_) fun _ _ x => x))
  obtain ⟨rfl, hQ⟩ := hr
  wp_walk
  exact hQ
theorem call_excI (T : OwnTail h veMro bm) {mN : Str → Option Value} {rest : List Value} {fI : Addr} {oI : Obj} {Q : Value → Shared → Prop}
    (hC : h.get? C = some (excClassObj nm q C N bs bm hdct sn sub ab col dd k0 k1 k2 k3 k5 "ValueError.__new__")) (hn : h.Ns N mN) (hi : mN "__init__" = some (.ref fI))
    (hfI : h.get? fI = some oI) (hfc : oI.cls = .type "function")
    (hq : ∀ h', (∀ b o, h.get? b = some o → h'.get? b = some o) → h'.get? (h.objs.size + 1) = some { cls := .ref C, data := .fields #[.ref h.objs.size, .none, .none, .none, .bool false, .none] } →
      wpAny (model prog w) (A.under (.builtin "type.__call__" ⟨.ref C :: rest, []⟩)) (call (.ref fI) (.ref (h.objs.size + 1) :: rest)) (fun r s' => r = .none ∧ Q (.ref (h.objs.size + 1)) s') E ⟨h', g, d, t, os⟩) (hrest : rest.length ≤ sizeLine) :
    wpAny (model prog w) A (call (.ref C) rest) Q E ⟨h, g, d, t, os⟩ := by
  have f1 := tc_lookup
  have f2 := tc_bind (.ref C)
  have hT : (⟨h, g, d, t, os⟩ : Shared).TypeIs (.ref C) "type" := ⟨_, hC, rfl⟩
  refine wpAny_call (codeAny_of_tree ?_)
  show wpAny _ _ (callAny (.ref C) _) _ _ _
  repeat (any_goals (first | assumption | with_reducible refine wpAny_loadPart_at hC ?_ | wp_step))
  refine ⟨rfl, ?_⟩
  refine codeAny_call_builtin_at (Code.quiet_builtin _ (by decide +kernel)) entry_typeCall (wpAny_check_type_call_sub hC (type_call_excI T hC hn hi hfI hfc (fun h' hk he => ?_) hrest))
  exact hq h' hk he
theorem raise_made {M : Model} {s : Shared} {env : Env} {y : Sem Value} {newId : String} {Q : Flow → Shared → Prop} (hbase : bm.contains (.type "BaseException") = true) (hh : A.handled = none)
    (h : wpAny M A y (fun v s₁ => ∃ e dx vs sl, v = .ref e ∧ s₁.heap.get? C = some (excClassObj nm q C N bs bm hdct sn sub ab col dd k0 k1 k2 k3 k5 newId) ∧
      s₁.heap.get? e = some ⟨.ref C, dx, .fields vs, sl⟩ ∧ vs[1]? = some .none ∧ E (.ref e) s₁) E s) : wpAny M A (raiseStmt env (some y) none) Q E s := by
  have hcB : (Value.ref C :: bm).contains (.type "BaseException") = true := by rw [List.contains_cons, hbase, Bool.or_true]
  unfold raiseStmt
  refine wpAny_bind (wpAny_mono h (fun v s₁ h₁ => ?_) fun _ _ x => x)
  obtain ⟨e, dx, vs, sl, rfl, hC, he, h1, hE⟩ := h₁
  obtain ⟨hp, g, d, tk, os⟩ := s₁
  repeat (first | with_reducible refine wpAny_field he rfl h1 ?_ | with_reducible refine wpAny_loadPart_at he ?_ | with_reducible refine wpAny_loadPart_at hC ?_ | (with_reducible refine wpAny_isSubtype_exc hC ?_; rw [hcB]) | wp_step)
  exact wpAny_raiseNew_none hh hE
theorem refuse_tail {self : Value} {what : Str} : ∀ {bm : List Value}, OwnTail h veMro bm → refuseLoop self what bm = refuseLoop self what veMro := by
  intro bm T
  induction T with
  | base => rfl
  | own _ _ _ _ ih => rw [refuseLoop_ref]; exact ih
end
def excN (a : Addr) (cls : Value) (dd : Option Addr) : HO := .ext fun h => ∃ oe vs, h.get? a = some oe ∧ oe.cls = cls ∧ oe.dict = dd ∧ oe.data = .fields vs ∧ vs.size = 6 ∧ vs[1]? = some .none
def excInI (K : PySem.W.Frag) (C f : Addr) : Bool := match K.lookup C with
  | some ⟨.type "type", _, .cls cd, sl⟩ => (match cd.mro, sl.toList with
    | .ref C' :: bm, [_, _, _, _, some (.builtin n), _] => C' == C && n == "ValueError.__new__" && !cd.hasDel && PySem.W.tailIn K veMro bm && PySem.W.nsOkIn K cd.ns && PySem.W.nsIn K cd.ns "__init__" == some (some (.ref f)) && cd.hasDict
    | _, _ => false)
  | _ => false
structure ExcI (K : PySem.W.Frag) (C f : Addr) (fld : Str) : Prop where
  e : excInI K C f = true
  fn : PySem.W.isFn K (.ref f) = true
  x : ExcK K C
  hd : PySem.W.hasDictIn K C = true
  sa : PySem.W.findIn K (.ref C) "__setattr__" = some (some (.builtin "object.__setattr__"))
  na : PySem.W.findIn K (.ref C) fld = some none
theorem nsx_of {K : PySem.W.Frag} {h : Heap} {N : Addr} {mg : Str → Option Value} {n : Str} {v : Value} (X : K.In h) (G : h.Ns N mg) (e : PySem.W.nsIn K N n = some (some v)) : mg n = some v := by
  obtain ⟨o, es, ep, ho, hd, _, hf⟩ := G
  unfold PySem.W.nsIn at e
  split at e
  · rename_i c d es' n' sl q
    have := X _ _ q
    rw [ho] at this
    cases this
    cases hd
    split at e
    · rename_i en he
      cases e
      rw [← hf]
      unfold nsFind findBy
      rw [← Array.find?_toList, he]
      rfl
    · split at e <;> cases e
  · cases e
structure ExcAtI (h : Heap) (C f : Addr) : Prop where
  e : ∃ bm N nm qn bs sn sub ab col dd k0 k1 k2 k3 k5 mN, h.get? C = some (excClassObj nm qn C N bs bm true sn sub ab col dd k0 k1 k2 k3 k5 "ValueError.__new__") ∧ h.Ns N mN ∧ mN "__init__" = some (.ref f) ∧ OwnTail h veMro bm
theorem exc_atI {K : PySem.W.Frag} {h : Heap} {C f : Addr} (X : K.In h) (q : excInI K C f = true) : ExcAtI h C f := by
  unfold excInI at q
  split at q
  case h_2 => cases q
  case h_1 dd cd sl ho =>
    split at q
    case h_2 => cases q
    case h_1 C' bm k0 k1 k2 k3 n k5 hm hsl =>
      simp only [Bool.and_eq_true, beq_iff_eq, Bool.not_eq_true'] at q
      obtain ⟨⟨⟨⟨⟨⟨q1, q2⟩, q3⟩, q4⟩, q5⟩, q6⟩, q7⟩ := q
      subst q1 q2
      cases cd with
      | mk nm bs mro ns qn hd sn sub ab col del =>
        cases sl with
        | mk l =>
          have hm' : mro = _ := hm
          have hl' : l = _ := hsl
          have q3' : del = false := q3
          have q7' : hd = true := q7
          subst hm' hl' q3' q7'
          have hN := PySem.Heap.Ns.of_isNs (PySem.W.isNs_of_in X q5)
          exact ⟨bm, ns, nm, qn, bs, sn, sub, ab, col, dd, k0, k1, k2, k3, k5, _, X _ _ ho, hN, nsx_of X hN q6, PySem.W.tail_of_in X q4⟩
section
variable {prog : Program} {w : World} {A : Around} {E : Value → Shared → Prop} {K : PySem.W.Frag} {h : Heap} {g : Array GenState} {d : Drawn} {t : Nat} {os : OsState} {C f x : Addr} {o : Obj} {vs : Array Value}
theorem exc_store {name : Str} {v : Value} {Q : Unit → Shared → Prop} (X : K.In h) (hE : ExcAtI h C f) (hsa : PySem.W.findIn K (.ref C) "__setattr__" = some (some (.builtin "object.__setattr__"))) (hna : PySem.W.findIn K (.ref C) name = some none)
    (hob : PySem.W.mroIn K C (.type "object") = some true) (hx : h.get? x = some o) (hc : o.cls = .ref C) (hd : o.data = .fields vs) (hdn : o.dict = none)
    (hq : ∀ h' tk', h'.get? x = some { o with dict := some h.objs.size } → h'.Ns1 h.objs.size (fun y => if y = name then some v else none) → (∀ b ob, b ≠ x → h.get? b = some ob → h'.get? b = some ob) → Q () ⟨h', g, d, tk', os⟩) :
    wpAny (model prog w) A (setAttr (.ref x) name v) Q E ⟨h, g, d, t, os⟩ := by
  obtain ⟨bm, N, nm, qn, bs, sn, sub, ab, col, dd, k0, k1, k2, k3, k5, mN, hC, hn, hi, T⟩ := hE
  have SF := PySem.F.store_ValueError
  have I : PySem.W.InstAt h x o C none := ⟨hx, hc, by unfold PySem.W.notCls; rw [hd], by rw [hdn]; trivial⟩
  refine PySem.W.set_plain (s := ⟨h, g, d, t, os⟩) X I hsa ?_
  have L3 := PySem.W.looks_findIn (M := model prog w) X hna
  have sub' : PySem.W.Looks (model prog w) h (isInstance (.ref x) (.type "object")) true := I.type.andThen (PySem.W.looks_mroIn X hob)
  refine codeAny_call_builtin SF.slot.plain SF.entry (@PySem.W.check_slot (model prog w) _ _ ⟨h, g, d, t + 1, os⟩ "object.__setattr__" "object" "__setattr__" (.ref x) [.str name t, v] [] _ SF.kind SF.split sub' (SF.args (.ref x) (.str name t) v) ?_)
  have hpass : refuseLoop (.ref x) "__setattr__" (.ref C :: bm) = pure () := by rw [refuseLoop_ref, refuse_tail T]; exact SF.passes _
  unfold Builtin.«object.__setattr__»
  repeat (first | rw [refuse_eq] | rw [hpass] | (with_reducible refine wpAny_loadPart_at hx ?_; rw [hc]) | with_reducible refine wpAny_mroOf_exc hC ?_ | with_reducible refine L3.at ?_ | wp_step)
  rw [hdn, if_neg (by simp [typeHasDict])]
  split
  · rename_i hcd
    cases hcd
  split
  · rename_i c hcd
    rw [hd] at hcd; cases hcd
  · have hx₁ : (h.push { cls := .type "dict", data := .dict #[] }).get? x = some o := Heap.get?_push_of_some _ hx
    have hxs : x ≠ h.objs.size := Nat.ne_of_lt (Heap.lt_size hx)
    refine wpAny_bind (wpAny_alloc' ?_)
    refine wpAny_bind (wpAny_update' hx₁ ?_)
    refine wpAny_pure ?_
    have hgd : ((h.push { cls := .type "dict", data := .dict #[] }).update x fun o => { cls := o.cls, dict := some h.objs.size, data := o.data, slots := o.slots }).get? h.objs.size
        = some { cls := .type "dict", data := .dict #[] } :=
      (Heap.get?_update_ne _ _ _ _ hxs.symm).trans (Heap.get?_push_at rfl rfl)
    have hnd : ((h.push { cls := .type "dict", data := .dict #[] }).update x fun o => { cls := o.cls, dict := some h.objs.size, data := o.data, slots := o.slots }).Ns h.objs.size (fun _ => none) :=
      ⟨_, #[], _, hgd, rfl, fun e he => absurd he (by simp), fun _ => rfl⟩
    show wpAny _ _ (Builtin.ObjectAttr.storeInDict h.objs.size (.str name t) name v) _ _ _
    unfold Builtin.ObjectAttr.storeInDict Builtin.ObjectAttr.newKeyGuard
    refine wpAny_bind (wpAny_pure (wpAny_bind (wpAny_nsSet1 (Heap.Ns1.of_empty hnd) fun h' hn' hs => ?_)))
    obtain ⟨oD, esD, epD, hoD, hdD, hcD⟩ := hn'.count (Within.cons name v Within.nil)
    refine wpAny_bind (wpAny_lookBehind hoD (by rw [hdD]; exact pastItsLine_dict (Nat.le_trans hcD (by rw [List.length_cons, List.length_nil, sizeLine_eq]; omega))) ?_)
    wp_walk
    refine hq h' _ ?_ hn' (fun b ob hbx hb => ?_)
    · refine (hs.2 x hxs).trans (Heap.get?_update_self _ hx₁ ?_)
      have hfr := (Heap.get?_some_iff.mp hx).2
      obtain ⟨oc, od, odt, osl⟩ := o
      cases odt <;> first | rfl | exact hfr
    · exact (hs.2 b (Nat.ne_of_lt (Heap.lt_size hb))).trans ((Heap.get?_update_ne _ _ _ _ hbx).trans (Heap.get?_push_of_some _ hb))
theorem exc_base_init {rest : List Value} {Q : Value → Shared → Prop} (hE : ExcAtI h C f) (hx : h.get? x = some o) (hc : o.cls = .ref C) (hd : o.data = .fields vs) (h0 : 0 < vs.size) (hrest : rest.length ≤ sizeLine)
    (hq : ∀ h' v0, (∀ b ob, b ≠ x → h.get? b = some ob → h'.get? b = some ob) → h'.get? x = some { o with data := .fields (vs.setIfInBounds 0 v0) } → Q .none ⟨h', g, d, t, os⟩) :
    wpAny (model prog w) A (call (.builtin "ValueError.__init__") (.ref x :: rest)) Q E ⟨h, g, d, t, os⟩ := by
  obtain ⟨bm, N, nm, qn, bs, sn, sub, ab, col, dd, k0, k1, k2, k3, k5, mN, hC, hn, hi, T⟩ := hE
  have F := PySem.F.excBase_ValueError
  refine wpAny_call (codeAny_call_builtin F.init.plain F.initEntry (wpAny_check_init_subU F T hC hx hc ?_))
  have hx₁ : (h.push { cls := .type "tuple", data := .seq rest.toArray }).get? x = some o := Heap.get?_push_of_some _ hx
  obtain ⟨oc, od, odt, osl⟩ := o
  dsimp only at hd hc
  subst hd
  have e0 : vs[0]? = some vs[0] := Array.getElem?_eq_getElem h0
  wp_walk
  dsimp only
  rw [e0]
  refine wpAny_pure ?_
  refine wpAny_bind (wpAny_setField hx₁ rfl h0 ?_)
  have fin : Q .none ⟨(h.push { cls := .type "tuple", data := .seq rest.toArray }).update x (Obj.mapFields (·.setIfInBounds 0 (Value.ref h.objs.size))), g, d, t, os⟩ := by
    refine hq _ (Value.ref h.objs.size) (fun b ob hb q => ?_) ?_
    · rw [Heap.get?_update_other _ _ (Ne.symm hb)]
      exact Heap.get?_push_of_some _ q
    · exact Heap.get?_update_self _ hx₁ rfl
  generalize vs[0] = old
  cases old <;> first | exact wpAny_pure (wpAny_pure fin) | exact wpAny_letGo (wpAny_pure fin)
end
end L2
namespace L2
open PySem PySem.Spec PyProof.Rows
section
variable {prog : Program} {w : World} {A : Around} {E : Value → Shared → Prop} {s : Shared} {K : PySem.W.Frag} {a D : Addr} {oe : Obj} {od : Option Obj}
theorem exc_get {name : Str} {v : Value} {expr : Bool} {Q : Value → Shared → Prop} (X : K.In s.heap) (F : ExcK K D) (I : PySem.W.InstAt s.heap a oe D od) (hf : PySem.W.findObj K D od name = some (.value v)) (hv : PySem.W.handedIn v = true)
    (h : Q v { s with toks := s.toks + 1 }) : wpAny (model prog w) A (getAttr (.ref a) name expr) Q E s := by
  obtain ⟨hh, g, d, t, os⟩ := s
  have L0 := I.type (M := model prog w)
  have L1 := PySem.W.looks_findIn (M := model prog w) X F.ga
  have L2' := PySem.W.looks_findIn (M := model prog w) X F.gt
  have Lf := PySem.W.looks_find (M := model prog w) X I hf
  have sub' : PySem.W.Looks (model prog w) hh (isInstance (.ref a) (.type "BaseException")) true := L0.andThen (PySem.W.looks_mroIn X F.be)
  have f3 := (PySem.F.attr_ValueError).ga.bind (.ref a)
  have hx2 : (Value.builtin "BaseException.__getattribute__" == Value.builtin "object.__getattribute__") = false := by decide +kernel
  have hsel : (onTheHeap (Value.ref D) && Value.builtin "BaseException.__getattribute__" == Value.builtin "object.__getattribute__") = false := by rw [hx2]; rfl
  refine wpAny_bind (wpAny_mkText (wpAny_holding (wpAny_bind (L0.at (wpAny_bind (L1.at ?_))))))
  dsimp only
  rw [if_neg (by rw [hsel]; decide)]
  unfold getAttrByItsOwn hookBefore
  refine wpAny_bind ?_
  rw [if_pos (show onTheHeap (Value.ref D) = true from rfl)]
  refine L2'.at ?_
  refine wpAny_bind (wpAny_attempt (wpAny_holding ?_))
  unfold callGetattribute
  rw [show (expr && onTheHeap (Value.builtin "BaseException.__getattribute__")) = false from Bool.and_false _, if_neg (by decide)]
  unfold boundAndCalled
  rw [f3]
  refine wpAny_bind (wpAny_pure ?_)
  refine wpAny_call (codeAny_call_builtin PySem.F.attr_ValueError.ga.plain PySem.F.entry_bexc_ga ?_)
  refine @PySem.W.check_slot (model prog w) _ _ ⟨hh, g, d, t + 1, os⟩ "BaseException.__getattribute__" "BaseException" "__getattribute__" (.ref a) [.str name t] [] _ (by decide +kernel) (by decide +kernel) sub' (PySem.F.args_bexc_ga (.ref a) (.str name t)) ?_
  repeat (first | with_reducible refine L0.at ?_ | with_reducible refine Lf.at ?_ | wp_step)
  exact PySem.W.handed_on (M := model prog w) hv h
end
def tFldX (K : PySem.W.Frag) (ta : TE) (f : Str) : TE := fun σ H Q => ta σ H fun x H1 => ∃ a D dx fs v, x = .ref a ∧ H1 a = some (excO a (.ref D) (some dx)) ∧ H1 dx = some (.xd fs) ∧ ExcK K D ∧ PySem.W.hasDictIn K D = true ∧ PySem.W.findIn K (.ref D) f = some none ∧ fs.lookup f = some v ∧ Q v H1
theorem pe_fldX {X : Cx} {K : PySem.W.Frag} {e : Expr} {f : Str} {pos : Pos} {ta : TE} (hK : X.K = K) (he : PE X e ta) (hb : attributeBase e f X.env (eval e X.env) = eval e X.env) : PE X (.Attribute e f pos) (tFldX K ta f) := by
  subst hK
  intro pins s σ H Q I h
  refine attr_of hb (thn (he pins s σ H _ I h) fun u s1 hq => ?_)
  obtain ⟨x, H1, I1, rx, a, D, dx, fs, v, ex, ea, edx, F, hdi, hna, l, q⟩ := hq
  subst ex
  obtain rfl : u = Value.ref a := rx
  obtain ⟨⟨oe, vs, h1, hc, hdc, hd⟩, _⟩ := (show ObjOk X.prog X.w H1 s1.heap a (excO a (.ref D) (some dx)) from I1.hok a _ ea)
  obtain ⟨mA, hN, hr⟩ := (show ObjOk X.prog X.w H1 s1.heap dx (.xd fs) from I1.hok dx _ edx)
  obtain ⟨u', hu, ru⟩ := RelO.some_of (v := v) (o := mA f) (by rw [← l]; exact hr f)
  obtain ⟨od, ho, hl⟩ := lookIn_ns hN
  have J : PySem.W.InstAt s1.heap a oe D (some od) := ⟨h1, hc, by unfold PySem.W.notCls; rw [hd], by rw [hdc]; exact ho⟩
  exact exc_get I1.kIn F J (PySem.W.findObj_own hdi hna rfl (by rw [hl, hu])) (handed_of ru) ⟨v, H1, I1.tok _, ru, q⟩
theorem excN_ok {P : Program} {w : World} {H : Hp} {h : Heap} {a : Addr} {cls : Value} {dd : Option Addr} {oe : Obj} {vs : Array Value} (h1 : h.get? a = some oe) (h2 : oe.cls = cls) (h3 : oe.dict = dd) (h4 : oe.data = .fields vs) (h5 : vs.size = 6) (h6 : vs[1]? = some .none) : ObjOk P w H h a (excN a cls dd) :=
  ⟨⟨oe, vs, h1, h2, h3, h4, h5, h6⟩, ⟨oe, h1⟩, fun _ _ ⟨o', v', q1, q2, q3, q4, q5, q6⟩ k => ⟨o', v', k _ q1, q2, q3, q4, q5, q6⟩⟩
def sFldX (K : PySem.W.Frag) (ta tv : TE) (f : Str) : TS := fun D σ H => tv σ H fun y H1 => ta σ H1 fun x H2 => ∃ a C fI, x = .ref a ∧ H2 a = some (excN a (.ref C) none) ∧ ExcI K C fI f ∧
  ∀ dx H3, H2 dx = none → dx ≠ a → H3 a = some (excN a (.ref C) (some dx)) → H3 dx = some (.xd [(f, y)]) → (∀ b o, H2 b = some o → b ≠ a → H3 b = some o) → D.nx σ H3
theorem ps_fldX {X : Cx} {o value : Expr} {f : Str} {pos pos' : Pos} {ta tv : TE} (ha : PE X o ta) (hv : PE X value tv) (hs : swapsWith value (some (.Attribute o f pos')) pos.line X.env = pure false) : PS X (.Assign [.Attribute o f pos'] value pos) (sFldX X.K ta tv f) := by
  intro pins s σ H D I h
  refine plainObj_wpAny_Assign_Attribute (thn (hv pins s σ H _ I h) fun u s1 hq1 => ?_) hs
  obtain ⟨y, H1, I1, ry, q⟩ := hq1
  refine thn (ha pins s1 σ H1 _ I1 q) fun ov s2 hq2 => ?_
  obtain ⟨x, H2, I2, rx, a, C, fI, ex, ea, hE, q2⟩ := hq2
  subst ex
  obtain rfl : ov = Value.ref a := rx
  obtain ⟨⟨oe, vs, h1, hc, hdn, hd, h6, hv1⟩, _⟩ := (show ObjOk X.prog X.w H2 s2.heap a (excN a (.ref C) none) from I2.hok a _ ea)
  obtain ⟨hh, g, d, t, os⟩ := s2
  refine exc_store I2.kIn (exc_atI I2.kIn hE.e) hE.sa hE.na hE.x.ob h1 hc hd hdn fun h' tk' hx' hn' hk => ?_
  have h1' : hh.get? a = some oe := h1
  have hne : hh.objs.size ≠ a := Nat.ne_of_gt (Heap.lt_size h1')
  have hfree : H2 hh.objs.size = none := I2.hok.fresh (Nat.le_refl _)
  obtain ⟨oD, esD, epD, hoD, _⟩ := id hn'
  have hpush : (hh.push oD).get? hh.objs.size = some oD := Heap.get?_push_size hh (Heap.get?_some_iff.mp hoD).2
  have I3 := I2.laid (a := hh.objs.size) (o := .xd [(f, y)]) (h' := hh.push oD) (t' := tk') (fun b u q => Heap.get?_push_of_some _ q) (Nat.le_refl _) ⟨_, hn'.at (fun o q => by rw [hoD] at q; cases q; exact hpush), fun g => by
    show RelO (List.lookup g [(f, y)]) (if g = f then some u else none)
    by_cases e : g = f
    · subst e
      rw [if_pos rfl, List.lookup_cons]
      simp only [beq_self_eq_true]
      exact ry
    · rw [if_neg e, List.lookup_cons]
      have : (g == f) = false := by simpa using e
      rw [this]
      exact True.intro⟩
  have I4 := I3.write (x := a) (e := a) (o := excN a (.ref C) (some hh.objs.size)) (h' := h') (t' := tk') (by rw [upd_ne (Ne.symm hne), ea]; exact True.intro) (.inl rfl) (fun b u hb q => ?_) ⟨_, hx'⟩ (excN_ok hx' hc rfl hd h6 hv1)
  · refine ⟨σ, _, I4, q2 hh.objs.size _ hfree hne upd_same (by rw [upd_ne hne]; exact upd_same) fun b o e hb => ?_⟩
    rw [upd_ne hb, upd_ne (ne_of_none e hfree)]; exact e
  · rcases Heap.get?_push_cases q with ⟨rfl, rfl⟩ | q
    · exact hoD
    · exact hk b u hb q
structure BaseI (K : PySem.W.Frag) (B : Addr) : Prop where
  sp : PySem.W.specialIn K (.ref B) "__getattribute__" = some (some (.builtin "type.__getattribute__"))
  rd : PySem.W.readsIn K B (.type "type") = true
  fi : PySem.W.findCls K (.ref B) (.type "type") "__init__" = some (.val (.builtin "ValueError.__init__"))
def tXBase (K : PySem.W.Frag) (t : TA) : TE := fun σ H Q => t σ H fun vs H1 => ∃ a C fI fld dd rest, vs = .ref a :: rest ∧ rest.length ≤ 1000 ∧ ExcI K C fI fld ∧ H1 a = some (excN a (.ref C) dd) ∧ Q .non H1
theorem upd_id {H : Hp} {a : Addr} {o : HO} (h : H a = some o) : upd H a o = H := by
  funext b
  by_cases e : b = a
  · subst e; rw [upd_same, h]
  · rw [upd_ne e]
theorem pe_xbase {X : Cx} {B : Addr} {x : Str} {np apos pos : Pos} {e : Expr} {es : List Expr} {t : TA} {pl : Sem Bool} (hg : Gl X x) (hm : X.mg x = some (.ref B)) (hB : BaseI X.K B) (ha : PA X (e :: es) t) (hdb : (x == ("__debug__" : Str)) = false := by decide)
    (he : starEach (e :: es) X.env = (false, eval e X.env) :: starEach es X.env := by rfl) (hpl : (backTo pos (starEach es X.env)).any (·.1) = false := by rfl)
    (ht : eval (.Call (.Attribute (.Name x np) "__init__" apos) (e :: es) [] pos) X.env = (do
      let ov ← eval (.Name x np) X.env
      standAt apos.atName
      let (f, first) ← holding [ov] (getMethod ov "__init__" pl)
      callWith pos f first (backTo pos (starEach (e :: es) X.env)) (backToKw pos (keywordEach [] X.env))) := by rfl) :
    PE X (.Call (.Attribute (.Name x np) "__init__" apos) (e :: es) [] pos) (tXBase X.K t) := by
  intro pins s σ H Q I h
  refine PySem.W.methodCall_KW (pl := pl) (ld_glob I hg hm ?_ hdb) ht
  refine PySem.W.method_cls I.kIn hB.sp (PySem.W.cls_value I.kIn hB.rd hB.fi rfl ?_)
  refine PyProof.Rows.callWith_builtin1 (thn (ha pos pins _ σ H _ (I.tok _) h) fun us s1 hq => ?_) he hpl
  obtain ⟨vs, H1, I1, r1, a, C, fI, fld, dd, rest, ev, hl, hE, hx, q⟩ := hq
  subst ev
  cases us with
  | nil => cases r1
  | cons u us =>
    cases r1 with
    | cons r0 r1 =>
      cases (show u = Value.ref a from r0)
      obtain ⟨⟨oe, ws, h1, hc, hdn, hd, h6, hv1⟩, _⟩ := (show ObjOk X.prog X.w H1 s1.heap a (excN a (.ref C) dd) from I1.hok a _ hx)
      obtain ⟨hh, g, d, t, os⟩ := s1
      refine exc_base_init (exc_atI I1.kIn hE.e) h1 hc hd (by omega) (by rw [← r1.length, sizeLine_eq]; omega) fun h' v0 hk hx' => ?_
      have I2 := I1.write (x := a) (e := a) (o := excN a (.ref C) dd) (h' := h') (t' := t) (by rw [hx]; exact True.intro) (.inl rfl) (fun b u hb q => hk b u hb q) ⟨_, hx'⟩ (excN_ok hx' hc hdn rfl (by simp [h6]) (by rw [Array.getElem?_setIfInBounds_ne (by decide)]; exact hv1))
      rw [upd_id hx] at I2
      exact ⟨.non, H1, I2, rfl, q⟩
theorem fn_at {K : PySem.W.Frag} {h : Heap} {f : Addr} (X : K.In h) (e : PySem.W.isFn K (.ref f) = true) : ∃ o, h.get? f = some o ∧ o.cls = .type "function" := by
  unfold PySem.W.isFn PySem.W.typeIn at e
  obtain ⟨o, ho, hc⟩ := Option.map_eq_some_iff.mp (beq_iff_eq.mp e)
  exact ⟨o, X _ _ ho, hc⟩
def dropH (H : Hp) (e : Addr) : Hp := fun b => if b = e then none else H b
theorem drop_ne {H : Hp} {e b : Addr} (h : b ≠ e) : dropH H e b = H b := if_neg h
theorem drop_at {H : Hp} {e : Addr} : dropH H e e = none := if_pos rfl
theorem Inv.drop {X : Cx} {σ : St} {H : Hp} {s : Shared} {e : Addr} {φ : Heap → Prop} (I : Inv X [] σ H s) (he : H e = some (.ext φ)) : Inv X [] σ (dropH H e) s := by
  have key : ∀ b o, H b = some o → (∀ ψ, o ≠ .ext ψ) → dropH H e b = some o := fun b o q n => by
    rw [drop_ne (fun z => by rw [z, he] at q; cases q; exact n _ rfl)]; exact q
  have no : ∀ b, H b = none → dropH H e b = none := fun b q => by
    by_cases z : b = e
    · rw [z]; exact drop_at
    · rw [drop_ne z]; exact q
  refine ⟨I.ok, I.os, I.bare, ⟨I.base.keep, I.base.slot, fun b o q n hx => no b (I.base.free b o q n hx), I.base.there, fun b xs q => key _ _ (I.base.tups b xs q) (by intro ψ z; cases z), fun b o xs q => key _ _ (I.base.frzs b o xs q) (by intro ψ z; cases z), fun b ps q => ?_⟩, I.loc, I.cell, no _ I.free, fun x c q => no _ (I.freeC x c q), fun p hp => ?_, fun b u q => ?_, I.len⟩
  · obtain ⟨m1, e1⟩ := I.base.tbls b ps q
    exact ⟨m1, key _ _ e1 (by intro ψ z; cases z)⟩
  · obtain ⟨q, n, ne, nf, d⟩ := I.pin p hp
    exact ⟨q, no _ n, ne, nf, d⟩
  · by_cases z : b = e
    · rw [z, drop_at] at q; cases q
    · rw [drop_ne z] at q
      exact (I.hok b u q).stay (fun _ _ _ q => q) (fun c q => key _ _ q (by intro ψ z; cases z)) fun c xs q => key _ _ q (by intro ψ z; cases z)
def sp_xinit (C : Addr) (fld : Str) : Sp := fun vs H Q _ => ∃ ex v, vs = [.ref ex, v] ∧ H ex = some (excN ex (.ref C) none) ∧ ∀ dx H', H dx = none → dx ≠ ex → H' ex = some (excN ex (.ref C) (some dx)) → H' dx = some (.xd [(fld, v)]) → (∀ b o, H b = some o → b ≠ ex → H' b = some o) → Q .non H'
structure XcOk (P : Program) (w : World) (K : PySem.W.Frag) (mg : Str → Option Value) (base : Heap) (C : Addr) (k : Nat) (x : Str) (ps : List Str) (fld : Str) : Prop where
  ex : ∃ f fd, FnOk P w K mg base CX0 k f fd ps (sp_xinit C fld) ∧ mg x = some (.ref C) ∧ ExcI K C f fld ∧ Binds K fd ps []
def tRaiseI (W : XW) (C : Addr) (fld : Str) (t : TA) : TS := fun _ σ H => t σ H fun vs H1 => ∃ v, vs = [v] ∧ ∀ dx H2, New H1 H2 dx (.xd [(fld, v)]) → W (.ref C) (some dx) σ H2
theorem ps_raiseI {X : Cx} {W : XW} {C : Addr} {k : Nat} {x fld : Str} {ps : List Str} {np cpos pos : Pos} {e : Expr} {es : List Expr} {t : TA} (hW : Wants X W) (hc : X.calm = true) (D : XcOk X.prog X.w X.K X.mg X.base C k x ps fld) (hr : Room (k + 1) X.A) (hg : Gl X x) (ha : PA X (e :: es) t)
    (hdb : (x == ("__debug__" : Str)) = false := by decide) (he : starEach (e :: es) X.env = (false, eval e X.env) :: starEach es X.env := by rfl) (hpl : (backTo cpos (starEach es X.env)).any (·.1) = false := by rfl) :
    PS X (.Raise (some (.Call (.Name x np) (e :: es) [] cpos)) none pos) (tRaiseI W C fld t) := by
  intro pins s σ H D' I h
  obtain ⟨f, fd, F, hm, hE, hb⟩ := D.ex
  obtain ⟨bm, N, nm, qn, bs, sn, sub, ab, col, dd, k0, k1, k2, k3, k5, mN, hC, hN, hi, hT⟩ := (exc_atI I.ok.mod.kin hE.e).e
  rw [arm_exec_Raise]
  have hplain : (backTo cpos (starEach (e :: es) X.env)).any (·.1) = false := by rw [he]; show (false || (backTo cpos (starEach es X.env)).any (·.1)) = false; rw [hpl]; rfl
  have main : wpAny (model X.prog X.w) X.A (eval (.Call (.Name x np) (e :: es) [] cpos) X.env) (fun v s₁ => ∃ ex dx vs sl, v = .ref ex ∧ s₁.heap.get? C = some (excClassObj nm qn C N bs bm true sn sub ab col dd k0 k1 k2 k3 k5 "ValueError.__new__") ∧
      s₁.heap.get? ex = some ⟨.ref C, dx, .fields vs, sl⟩ ∧ vs[1]? = some .none ∧ X.xe (.ref ex) s₁) X.xe s := by
    refine wpAny_Call_ofName (ld_glob I hg hm ?_ hdb)
    unfold callWith
    have h2 := ha cpos pins s σ H _ I h
    rw [he] at h2 ⊢
    refine wpAny_bind (wpAny_holding (Calls.evalArgs_plain (thn h2 fun us s1 hq => wpAny_bind (wpAny_standAt ?_))))
    obtain ⟨vs, H1, I1, r, v, ev, q⟩ := hq
    subst ev
    obtain ⟨u, rfl, ru⟩ := vals1 r
    rw [← he]
    simp only [hplain]
    have hC1 := I1.bk _ _ hC
    refine wpAny_bind (wpAny_keeperOf_exc hC1 ?_)
    have J : Inv X [] σ H1 s1 := I1.pins_of (by simp)
    obtain ⟨oI, hfI, hfc⟩ : ∃ oI, s1.heap.get? f = some oI ∧ oI.cls = .type "function" := fn_at I1.kIn hE.fn
    obtain ⟨hh, g, d, tk, os⟩ := s1
    refine wpAny_bind (call_excI (hT.keeps I1.bk) hC1 (ns_bk I1.bk hN) hi hfI hfc (fun h' hk hx => ?_) (by show 1 ≤ sizeLine; rw [sizeLine_eq]; omega))
    have hfree : H1 (hh.objs.size + 1) = none := J.hok.fresh (Nat.le_succ _)
    have J2 := J.laid (a := hh.objs.size + 1) (o := excN (hh.objs.size + 1) (.ref C) none) (h' := h') (t' := tk) hk (Nat.le_succ _) (excN_ok hx rfl rfl rfl rfl rfl)
    have r2 : Vals [V.ref (hh.objs.size + 1), v] [Value.ref (hh.objs.size + 1), u] := .cons rfl (.cons ru .nil)
    have hsp : sp_xinit C fld [V.ref (hh.objs.size + 1), v] (upd H1 (hh.objs.size + 1) (excN (hh.objs.size + 1) (.ref C) none)) (fun w' H3 => w' = .non ∧ ∃ dx, H3 (hh.objs.size + 1) = some (excN (hh.objs.size + 1) (.ref C) (some dx)) ∧ W (.ref C) (some dx) σ (dropH H3 (hh.objs.size + 1))) (fun _ _ _ => False) := by
      refine ⟨_, v, rfl, upd_same, fun dx H3 f1 ne h3 h4 h5 => ⟨rfl, dx, h3, q dx _ ⟨fun b o e => ?_, ?_, by rw [drop_ne ne]; exact h4⟩⟩⟩
      · have hb : b ≠ hh.objs.size + 1 := ne_of_none e hfree
        rw [drop_ne hb]
        exact h5 b o (by rw [upd_ne hb]; exact e) hb
      · rw [upd_ne ne] at f1; exact f1
    have hl : [Value.ref (hh.objs.size + 1), u].length = ps.length := by rw [← r2.length]; exact F.len _ _ _ _ hsp
    refine wpAny_call (codeAny_mono (F.run _ X.stack _ _ ⟨[Value.ref (hh.objs.size + 1), u], []⟩ [Value.ref (hh.objs.size + 1), u] _ _ _ (hr.make C [u] []) (J2.env0.make C [u] []) (hb _ [Value.ref (hh.objs.size + 1), u] J2.kIn (by rw [List.append_nil]; exact hl)) r2 hsp) fun r s' hq' => ?_)
    cases r with
    | error e => exact False.elim hq'
    | ok fl =>
      cases fl with
      | ret u' =>
        obtain ⟨w', H3, I3, rv, ev, dx, h3, hw⟩ := J2.after hq'
        subst ev
        refine ⟨rv, wpAny_bind (wpAny_holding (wpAny_point (wpAny_pure ?_)))⟩
        obtain ⟨⟨oe, ws, g1, gc, gd, gf, g6, gv1⟩, _⟩ := (show ObjOk X.prog X.w H3 s'.heap _ (excN (hh.objs.size + 1) (.ref C) (some dx)) from I3.hok _ _ h3)
        have I4 := I3.drop h3
        refine ⟨_, oe.dict, ws, oe.slots, rfl, I3.bk _ _ hC, ?_, gv1, hW.2 _ _ ⟨_, .ref C, some dx, σ, _, rfl, I4, ⟨J.fpX hW.1 (Heap.get?_none_of_le (Nat.le_succ _)) drop_at, .inl ⟨oe, ws, g1, gc, gd, gf, gv1, .inr nofun⟩⟩, hw⟩⟩
        rw [g1, ← gc, ← gf]
      | next => exact False.elim hq'
      | brk => exact False.elim hq'
      | cont => exact False.elim hq'
  exact wpAny_bind (wpAny_standAt (raise_made (hT.hasType (by decide +kernel)) (I.ok.hd hc) (wpAny_bind (wpAny_mono main (fun v s₃ h₃ => wpAny_bind (wpAny_standAt (wpAny_pure h₃))) fun _ _ x => x))))
end L2
namespace L2
open PySem PySem.Spec PyProof.Rows
structure Mk0 (K : PySem.W.Frag) (C : Addr) : Prop where
  makes : PySem.W.makesIn K C = true
  init : PySem.W.findIn K (.ref C) "__init__" = some (some (.builtin "object.__init__"))
  kp : PySem.W.keepIn K (.ref C) = true
end L2
namespace L2
open PySem PySem.Spec PyProof.Rows PySem.Builtin PySem.Builtin.Str
structure InsK (K : PySem.W.Frag) (C : Addr) : Prop where
  cl : Cls K C
  ha : PySem.W.findIn K (.ref C) "__class__" = some (some (.builtin "object.__class__"))
  hn : PySem.W.specialIn K (.builtin "object.__class__") "__get__" = some (some (.builtin "getset_descriptor.__get__"))
  htk : PySem.W.takesIn K (.builtin "object.__class__") = some true
  hm : PySem.W.mroIn K C (.type "object") = some true
theorem InsK.ty {K : PySem.W.Frag} {H : Hp} {a C dx : Addr} {fs : List (Str × V)} (h : InsK K C) (e : H a = some (.ins C dx fs)) : TyOf K H (.ref a) (.ref C) := .ins e h.cl h.ha h.hn h.htk h.hm
theorem call_isiO {X : Cx} : CallR X (.builtin "isinstance") (fun xs H Q => ∃ x C t b, xs = [x, .ref C] ∧ TyOf X.K H x t ∧ PySem.W.kitOne X.K t (.ref C) = some b ∧ Q (.bl b) H) := by
  intro pins s σ H xs us Q I r h
  obtain ⟨x, C, t, b, rfl, ty, e, q⟩ := h
  obtain ⟨u, v, rfl, ru, rv⟩ := Vals.two r
  cases (show v = Value.ref C from rv)
  exact isinst_ok I ru ty e fun tk => ⟨.bl b, H, I.tok _, rfl, q⟩
def slS (x : Str) (lo hi : Option Int) : Str :=
  if ((strSliceIndices lo hi 1 x.length).length == x.length) = true then x else ⟨((strSliceIndices lo hi 1 x.length).filterMap (x.cps[·]?)).toArray⟩
def rSlS : V → Option Int → Option Int → Hp → VK → Prop := fun x lo hi H Q => ∃ z, x = .str z ∧ (slS z lo hi).length ≤ sizeLine ∧ Q (.str (slS z lo hi)) H
theorem sl_str {X : Cx} : SlR X rSlS := by
  intro pins s σ H x v vl vu lo hi sl Q I rx hs pl pu h
  obtain ⟨z, rfl, hz, q⟩ := h
  obtain ⟨t, rfl⟩ := rx
  obtain ⟨l, el, el2⟩ : ∃ l : Option (Int × Tok), vl = partValue l ∧ l.map (·.1) = lo := by
    cases pl with
    | none => exact ⟨none, rfl, rfl⟩
    | int i t => exact ⟨some (i, t), rfl, rfl⟩
  obtain ⟨u, eu, eu2⟩ : ∃ u : Option (Int × Tok), vu = partValue u ∧ u.map (·.1) = hi := by
    cases pu with
    | none => exact ⟨none, rfl, rfl⟩
    | int i t => exact ⟨some (i, t), rfl, rfl⟩
  subst el eu el2 eu2
  have hs' : s.heap.IsSlice sl l u none := hs
  refine ⟨"str", _, F.slot_str_getitem.lookup, typeIs_str _ _ _, wpAny_getItem_str_slice (l := l) (u := u) (st := none) hs' rfl ?_⟩
  unfold slS at q hz
  unfold sliceMade slicePicked
  by_cases c : ((strSliceIndices (l.map (·.1)) (u.map (·.1)) 1 z.length).length == z.length) = true
  · rw [if_pos c] at q
    rw [if_pos (by simpa using c)]
    exact ⟨.str z, H, I, ⟨_, rfl⟩, q⟩
  · rw [if_neg c] at q hz
    rw [if_neg (by simpa using c)]
    exact ⟨hz, ⟨.str _, H, I.tok _, ⟨_, rfl⟩, q⟩⟩
end L2
namespace L2
open PySem PySem.Spec PyProof.Rows PySem.W
end L2
namespace L2
open PySem PySem.Spec PyProof.Rows PySem.W
section
variable {prog : Program} {w : World} {A : Around} {E : Value → Shared → Prop} {s : Shared}
end
section
variable {X : Cx}
inductive rExtendNS  (x : V) (vs : List V) (H : Hp) (Q : VK) : Prop
  | mk : ∀ l b xs zs, x = .ref l → vs = [.ref b] → H l = some (.lst xs) → H b = some (.lst zs) → xs.length + zs.length ≤ sizeLine → (∀ H', But l H H' → H' l = some (.lst (xs ++ zs)) → Q .non H') → rExtendNS x vs H Q
def rExtendN : V → List V → Hp → VK → Prop := fun x vs H Q => rExtendNS x vs H Q
theorem mt_extendN : MtM X "list.extend" rExtendN := mt_extend.imp fun _ _ _ _ ⟨l, b, xs, zs, e1, e2, h, h2, z, q⟩ => ⟨l, b, xs, zs, e1, e2, h, h2, z, q _ but_upd upd_same⟩
end
end L2
namespace L2
open PySem PySem.Spec PyProof.Rows
section
variable {prog : Program} {w : World} {A : Around} {R : Result → Shared → Prop} {I : Addr} {fp wr : List Addr} {n : Nat} {P : Nat → Value → Prop} {St : Nat → Heap → Prop} {K : Type} [DecidableEq K] {knd : KeyKind prog w K}
end
end L2
namespace L2
open PySem PySem.Spec PyProof.Rows
section
variable {prog : Program} {w : World} {A : Around} {E : Value → Shared → Prop} {s : Shared} {K : Type} [DecidableEq K] {knd : KeyKind prog w K}
end
end L2
namespace L2
open PySem PySem.Spec PyProof.Rows
section
variable {X : Cx} {k : Nat} {ps : List Str} {sp : Sp} {dvs : List V} {ds : List Value} {x : Str} {p pos : Pos} {e : Expr} {es : List Expr} {t : TA}
end
end L2
namespace L2
open PySem
end L2
namespace L2
open PySem
end L2
namespace L2
open PySem
section
variable {X : Cx}
end
end L2
namespace L2
open PySem PyProof PyProof.Rows
section
variable {X : Cx}
theorem big_ltH : (10 : Nat) ^ 250 < 2 ^ 1000 := by decide +kernel
theorem log2_bigH {j : Int} (h : j.natAbs < 10 ^ 250) : j.natAbs.log2 < 1000 := by
  by_cases h0 : j.natAbs = 0
  · rw [h0]; decide +kernel
  · exact (Nat.log2_lt h0).mpr (Nat.lt_trans h big_ltH)
def CMulH (i j : Int) : Prop := (-(10 ^ 250) < i ∧ i < 10 ^ 250) ∧ (-(10 ^ 250) < j ∧ j < 10 ^ 250)
theorem bits_bigH {j : Int} (h : j.natAbs < 10 ^ 250) : Builtin.Int.intBits j ≤ 1000 := by
  unfold Builtin.Int.intBits
  split
  · exact Nat.zero_le _
  · have := log2_bigH h
    omega
theorem CMulH.ok {i j : Int} (h : CMulH i j) : IntMulOk i j := by
  obtain ⟨⟨h1, h2⟩, h3, h4⟩ := h
  have e1 := bits_bigH (j := i) (by omega)
  have e2 := bits_bigH (j := j) (by omega)
  have e3 : Builtin.Int.intTooBig (Builtin.Int.intBits i + Builtin.Int.intBits j) = false := by
    unfold Builtin.Int.intTooBig
    rw [decide_eq_false]
    have : (bitsLine : Int) = 134217728 := by decide +kernel
    omega
  unfold IntMulOk
  rw [e3]
  simp
end
end L2
namespace L2
open PySem PySem.Calls PySem.NumText PyProof.Rows
theorem maxDig {M : Model} {A : Around} {E : Value → Shared → Prop} {s : Shared} {Q : Nat → Shared → Prop} (hn : s.heap.NoDigits) (h : Q 4300 s) : wpAny M A Builtin.intMaxStrDigits Q E s := by
  obtain ⟨mc, hns, hnone⟩ := hn
  unfold Builtin.intMaxStrDigits
  refine wpAny_bind (wpAny_nsGet hns ?_)
  rw [hnone]
  exact wpAny_pure h
theorem wp_textL {M : Model} {A : Around} {E : Value → Shared → Prop} {s : Shared} {Q : Value → Shared → Prop} {v : Value} {text : List Nat} {n : Int} (hn : s.heap.NoDigits)
    (hs : ¬ (text.takeWhile (· != 0)).length ≤ 640) (hr : (int_private% "readNumeral") 4300 10 (text.takeWhile (· != 0)) = (int_private% "Numeral.value") n)
    (ha : ((text.takeWhile (· != 0)).length == text.length) = true) (h : Q (.int n s.toks) { s with toks := s.toks + 1 }) :
    wpAny M A ((int_private% "intFromText") v text 10) Q E s := by
  obtain ⟨hp, g, d, tk, os⟩ := s
  repeat (any_goals (first | assumption | (with_reducible refine maxDig hn ?_) | (with_reducible refine wpAny_ite_false (decide_eq_false hs) ?_) | (with_reducible refine wpAny_ite_true (decide_eq_true ha) ?_) | wp_step))
  all_goals (try rw [hr])
  all_goals (try dsimp only)
  repeat (any_goals (first | assumption | (with_reducible refine wpAny_ite_true (decide_eq_true ha) ?_) | wp_step))
set_option maxHeartbeats 4000000 in
theorem meets_textL {x : PySem.Str} {u : Tok} {n : Int} (hl : x.length ≤ sizeLine) (hn : PySem.intText? x = some n) : Meets (Builtin.«int.__new__» ⟨[.type "int", .str x u], []⟩) (fun _ R s => s.heap.NoDigits ∧ R (.ok (.ret (.int n s.toks))) { s with toks := s.toks + 1 }) := by
  intro prog w A R s h
  have key : ∀ (M : Model) (A : Around) (E : Value → Shared → Prop) (s : Shared) (Q : Value → Shared → Prop), s.heap.NoDigits → Q (.int n s.toks) { s with toks := s.toks + 1 } → wpAny M A (Builtin.«int.__new__» ⟨[.type "int", .str x u], []⟩) (fun fin s' => ∃ v, fin = .done (.ret v) ∧ Q v s') E s := by
    clear h
    intro M A E s Q hd h
    obtain ⟨hp, g, d, tk, os⟩ := s
    have f1 := F.conv_sub_int
    have f2 := F.madeHere_int
    have f3 := PySem.W.KIN.str_int
    have f4 := PySem.W.KIN.str_idx
    have f5 := PySem.W.KIN.str_trunc
    have f6 : typeOf (.str x u) = pure (.type "str") := rfl
    have hr : (int_private% "readNumeral") (numLimitOf x) 10 (numSeenOf x) = (int_private% "Numeral.value") n ∧ ((numSeenOf x).length == (numTextOf x).length) = true := by
      rcases readAny x hl with ⟨m, h1, h2, h3⟩ | ⟨h1, _⟩
      · rw [hn] at h1
        injection h1 with h1
        subst h1
        exact ⟨h3, h2⟩
      · rw [hn] at h1
        cases h1
    have step : ∀ (M : Model) (A : Around) (E : Value → Shared → Prop) (s : Shared) (Q : Value → Shared → Prop) (v : Value), s.heap.NoDigits → Q (.int n s.toks) { s with toks := s.toks + 1 } → wpAny M A ((int_private% "intFromText") v (numTextOf x) 10) Q E s := by
      intro M A E s Q v hd h
      by_cases hs : (numSeenOf x).length ≤ 640
      · refine PySem.W.KIN.wp_text hs ?_ hr.2 h
        have := hr.1
        rw [show numLimitOf x = 0 from if_pos hs] at this
        exact this
      · refine wp_textL hd hs ?_ hr.2 h
        have := hr.1
        rw [show numLimitOf x = 4300 from if_neg hs] at this
        exact this
    have hk := PySem.W.KIN.Hid.mk step
    clear hr step hl hn
    repeat (any_goals (first
      | assumption
      | ((with_reducible show wpAny _ _ ((int_private% "intFromText") _ _ _) _ _ _); refine hk.out _ _ _ _ _ _ hd ?_)
      | wp_step))
    all_goals first | exact ⟨_, rfl, h⟩ | skip
  exact wpAny_mono (key _ A.in1 _ s (fun v s' => R (.ok (.ret v)) s') h.1 h.2) (fun fin s' h' => by obtain ⟨v, rfl, hv⟩ := h'; exact hv) fun _ _ x => x
section
variable {prog : Program} {w : World} {A : Around} {E : Value → Shared → Prop} {s : Shared} {Q : Value → Shared → Prop} {x : PySem.Str} {t : Tok} {n : Int}
theorem call_textL (hd : s.heap.NoDigits) (hn : PySem.intText? x = some n) (hl : x.length ≤ sizeLine) (h : Q (.int n s.toks) { s with toks := s.toks + 1 }) : wpAny (model prog w) A (call (.type "int") [.str x t]) Q E s :=
  call_int_1 (meets_textL hl hn) ⟨hd, rfl, h⟩
end
end L2
namespace L2
open PySem PySem.Spec PyProof.Rows PySem.Builtin PySem.Builtin.Str
theorem Inv.nodig {X : Cx} {pins : List (Addr × Obj)} {σ : List (Option V)} {H : Hp} {s : Shared} (I : Inv X pins σ H s) : s.heap.NoDigits := I.ok.mod.nodig.keeps I.bk
def S (l : List Nat) : Str := ⟨l.toArray⟩
theorem S_len (l : List Nat) : (S l).length = l.length := by show l.toArray.size = _; simp
theorem S_inj {a b : List Nat} (h : S a = S b) : a = b := by
  have := congrArg (fun x : Str => x.cps.toList) h
  simpa [S] using this
theorem S_ex (x : Str) : x = S x.cps.toList := by cases x; simp [S]
theorem S_cat (a b : List Nat) : S a ++ S b = S (a ++ b) := by
  show (⟨a.toArray ++ b.toArray⟩ : Str) = ⟨(a ++ b).toArray⟩
  simp
theorem S_dec (a b : List Nat) : decide (V.str (S a) = V.str (S b)) = decide (a = b) := by
  by_cases h : a = b
  · subst h; simp
  · rw [decide_eq_false h, decide_eq_false fun z => h (S_inj (by injection z))]
theorem call_strI {X : Cx} (hc : X.calm = true) : CallR X (.type "str") (fun xs H Q => ∃ i, xs = [.int i] ∧ i.natAbs < 10 ^ 4300 ∧ Q (.str (toString i)) H) := by
  intro pins s σ H xs us Q I r h
  obtain ⟨i, rfl, hz, q⟩ := h
  obtain ⟨u, rfl, t, rfl⟩ := vals1 r
  refine str_of_int_or (I.ok.hd hc) I.nodig (fun _ => ⟨.str _, H, I.tok _, ⟨_, rfl⟩, q⟩) fun h => ?_
  exact absurd hz (Nat.not_lt.mpr h)
def rIntT (xs : List V) (H : Hp) (Q : VK) : Prop := ∃ x n, xs = [.str x] ∧ PySem.intText? x = some n ∧ x.length ≤ sizeLine ∧ Q (.int n) H
theorem call_intT {X : Cx} : CallR X (.type "int") rIntT := by
  intro pins s σ H xs us Q I r h
  obtain ⟨x, n, rfl, hx, hl, q⟩ := h
  obtain ⟨u, rfl, t, rfl⟩ := vals1 r
  exact call_textL I.nodig hx hl ⟨.int n, H, I.tok _, ⟨_, rfl⟩, q⟩
theorem call_lenS {X : Cx} : CallR X (.builtin "len") (fun xs H Q => ∃ z, xs = [.str (S z)] ∧ z.length ≤ sizeLine ∧ Q (.int z.length) H) := by
  intro pins s σ H xs us Q I r h
  obtain ⟨z, rfl, hz, q⟩ := h
  exact call_len pins s σ H _ us Q I r ⟨_, _, rfl, ⟨by rw [S_len]; exact hz, rfl⟩, by rw [S_len]; exact q⟩
theorem pe_ixS {X : Cx} {a b : Expr} {ta tb : TE} {pos : Pos} (ha : PE X a ta) (hb : PE X b tb) (hs : PlainIxT b) :
    PE X (.Subscript a b pos) (tOp (fun x y H Q => ∃ z i c, x = .str (S z) ∧ y = .int i ∧ 0 ≤ i ∧ i < 2 ^ 63 ∧ z[i.toNat]? = some c ∧ Q (.str (S [c])) H) ta tb) := by
  intro pins s σ H Q I h
  refine Subscript_ (binT ha hb I h fun v u s2 x y H2 I2 rx ry q => ?_)
  obtain ⟨z, i, c, rfl, rfl, h0, h63, hc, q⟩ := q
  obtain ⟨t, rfl⟩ := rx
  obtain ⟨t', rfl⟩ := ry
  have hl := (List.getElem?_eq_some_iff.mp hc).1
  have e : seqIndex? i (S z).length = some i.toNat := PySem.StrLaws.seqIndex_nonneg h0 (by rw [S_len]; omega)
  exact tail_any (typeIs_str s2 (S z) t) PySem.F.slot_str_getitem.lookup (getItem_str (c := c) (by
    have e1 : decide (i < -(2 ^ 63 : Int)) = false := decide_eq_false (by omega)
    have e2 : decide (i ≥ 2 ^ 63) = false := decide_eq_false (by omega)
    rw [e1, e2] <;> rfl) (by rw [e]; simpa [S] using hc) ⟨.str (S [c]), H2, I2.tok _, ⟨_, rfl⟩, q⟩) (hs _ _)
theorem mt_starts {X : Cx} : MtR X "str.startswith" (fun x vs H Q => ∃ z y, x = .str z ∧ vs = [.str y] ∧ Q (.bl (PySem.Txt.startswith z y)) H) := by
  intro pins s σ H x xs v us Q I rx r h
  obtain ⟨z, y, rfl, rfl, q⟩ := h
  obtain ⟨t, rfl⟩ := rx
  obtain ⟨u, rfl, t', rfl⟩ := vals1 r
  exact SC.startswith ⟨.bl _, H, I, rfl, q⟩
def Its (x : List Nat) : It := ⟨fun i _ => i < x.length, fun i H v H' => H' = H ∧ ∃ c, x[i]? = some c ∧ v = .str (S [c]), fun i _ => i = x.length⟩
theorem turn_str {P : Program} {w : World} {K : PySem.W.Frag} {tg : Expr} (it : Addr) (x : List Nat) (t : Tok) (ty : String) (hty : ty = "str_ascii_iterator" ∨ ty = "str_iterator") : Turn P w K tg (Its x) [it] it (fun i h => h.IsStrIter it ty (S x) t i) where
  mem := by simp
  obj := fun i h st b hb => by
    have e : b = it := by simpa using hb
    subst e
    obtain ⟨o, e, c, d⟩ := st
    exact ⟨o, e, fun v z => by rw [d] at z; cases z⟩
  keep := fun i h h' st k => by
    obtain ⟨o, ho, r⟩ := st
    exact ⟨o, k it (by simp) o ho, r⟩
  item := by
    intro X hP hw hK hc i pins s σ H E I hf st hg
    subst hP hw hK
    obtain ⟨f0, f1, f2, f3, f4, f5⟩ := hf it (by simp)
    have W : Walks X.prog X.w X.A it [it] [it] (S x).cps.size (SignAt (S x)) (fun i h => h.IsStrIter it ty (S x) t i) := by
      rcases hty with rfl | rfl
      · exact Walks.strAscii (I.ok.hd hc) it (S x) t
      · exact Walks.strWide (I.ok.hd hc) it (S x) t
    refine W.item i s _ _ (by have hg' : i < x.length := hg; show i < x.toArray.size; simpa using hg') st fun v h' tk hv st' kk => ?_
    obtain ⟨c, u, hx, rfl⟩ := hv
    have I1 : Inv X pins σ H { s with heap := h', toks := tk } := I.turned (fun b o hb e => kk b o (by simpa using hb) e) f0 f1 f3 f4 f5
    obtain ⟨o, e, hcl, d⟩ := id st'
    exact ⟨_, rfl, go_of (s := { s with heap := h', toks := tk }) e hcl d (by rcases hty with rfl | rfl <;> decide) ⟨.str (S [c]), H, I1, ⟨u, rfl⟩, ⟨rfl, c, by simpa [S] using hx, rfl⟩, st', fun b hb => (hf b hb).1⟩⟩
  done := by
    intro X hP hw hK hc i pins s σ H E I hf st hg
    subst hP hw hK
    obtain ⟨f0, f1, f2, f3, f4, f5⟩ := hf it (by simp)
    have W : Walks X.prog X.w X.A it [it] [it] (S x).cps.size (SignAt (S x)) (fun i h => h.IsStrIter it ty (S x) t i) := by
      rcases hty with rfl | rfl
      · exact Walks.strAscii (I.ok.hd hc) it (S x) t
      · exact Walks.strWide (I.ok.hd hc) it (S x) t
    have e : i = (S x).cps.size := by
      have h2 : i = x.length := hg
      rw [h2]; show x.length = x.toArray.size; simp
    subst e
    exact W.done s _ _ st fun h' tk kk => ⟨rfl, I.turned (fun b o hb e => kk b o (by simpa using hb) e) f0 f1 f3 f4 f5⟩
  self := fun A i s Q E st h => by
    rcases hty with rfl | rfl
    · exact wpAny_pyIter_striter_ascii st h
    · exact wpAny_pyIter_striter_wide st h
def iStr (tl : TE) : TI := fun σ H R => tl σ H fun x H1 => ∃ z, x = .str (S z) ∧ R (Its z) H1
theorem pi_str {X : Cx} {tg l : Expr} {tl : TE} (hl : PE X l tl) : PI X tg l (iStr tl) := by
  intro pins s σ H R I h
  refine thn (hl pins s σ H _ I h) fun v s1 hq__ => ?_
  obtain ⟨x, H1, I1, r1, q1⟩ := hq__
  obtain ⟨z, e, q⟩ := q1
  subst e
  obtain ⟨t, rfl⟩ := r1
  have fin : ∀ b ∈ [s1.heap.objs.size], FpOk X pins H1 b := fun b hb => by
    have e : b = s1.heap.objs.size := by simpa using hb
    subst e
    exact I1.fpOk (Nat.le_refl _) (I1.hok.fresh (Nat.le_refl _))
  cases ha : (S z).cps.all (· < 128)
  · exact wpAny_pyIter_wide ha ⟨s1.heap.objs.size, [s1.heap.objs.size], _, _, H1, rfl, I1.kept (t' := s1.toks) fun b o e => Heap.get?_push_of_some _ e, turn_str _ z t "str_iterator" (.inr rfl), ⟨_, Heap.get?_push_size _ rfl, rfl, rfl⟩, fin, q⟩
  · exact wpAny_pyIter_ascii ha ⟨s1.heap.objs.size, [s1.heap.objs.size], _, _, H1, rfl, I1.kept (t' := s1.toks) fun b o e => Heap.get?_push_of_some _ e, turn_str _ z t "str_ascii_iterator" (.inl rfl), ⟨_, Heap.get?_push_size _ rfl, rfl, rfl⟩, fin, q⟩
theorem lc_str {x : List Nat} {g : TG} {tc : TT} {te : TE} {Q : VK} {σ : St} {H : Hp} (Pv : Nat → List V → Hp → Prop) (hz : x.length ≤ sizeLine) (h0 : Pv 0 [] H) (hl : ∀ i ys H, Pv i ys H → ys.length ≤ i)
    (hs : ∀ i c ys H, x[i]? = some c → Pv i ys H → g (.str (S [c])) σ H fun σ4 H4 => tc σ4 H4 fun b H5 => if b = true then te σ4 H5 fun v H6 => Pv (i + 1) (ys ++ [v]) H6 else Pv (i + 1) ys H5)
    (hd : ∀ ys H p H', Pv x.length ys H → New H H' p (.lst ys) → Q (.ref p) H') : lcGoal (Its x) Q g tc te σ H := by
  refine ⟨fun i m ys H => m = x.length - i ∧ i ≤ x.length ∧ Pv i ys H, ⟨x.length, by simp, Nat.zero_le _, h0⟩, ?_⟩
  rintro i m ys H2 ⟨rfl, hi, p⟩
  have hy := hl i ys H2 p
  by_cases hlt : i < x.length
  · refine .inr ⟨hlt, by omega, Pv (i + 1), fun zs H' p' => ⟨x.length - (i + 1), by omega, rfl, hlt, p'⟩, fun v H3 y => ?_⟩
    obtain ⟨e, c, y, z⟩ := y
    subst e z
    exact hs i c ys _ y p
  · have e : i = x.length := by omega
    subst e
    exact .inl ⟨rfl, by omega, fun p' hp' => hd ys H2 p' _ p (new_upd hp')⟩
theorem kit_str (K : PySem.W.Frag) : PySem.W.kitOne K (.type "str") (.type "str") = some true := by rfl
theorem starts1 (x : List Nat) (c : Nat) : PySem.Txt.startswith (S x) (S [c]) = decide (x.take 1 = [c]) := by
  cases x with
  | nil => rfl
  | cons a l =>
    unfold PySem.Txt.startswith
    rw [PySem.StrLaws.subAt_eq]
    have e : (S [c]).length = 1 := rfl
    rw [e]
    show (decide (0 + 1 ≤ (S (a :: l)).length) && ((((a :: l).toArray.toList).drop 0).take 1 == [c])) = decide ([a] = [c])
    rw [S_len, decide_eq_true (show 0 + 1 ≤ (a :: l).length by simp), Bool.true_and]
    show ([a] == [c]) = decide ([a] = [c])
    rw [Bool.eq_iff_iff]
    simp
theorem op_inS {X : Cx} : OpR X (compareOp .In) (fun x y H Q => ∃ c j, x = .str (S [c]) ∧ y = .str j ∧ Q (.bl (decide (c ∈ j.cps.toList))) H) := by
  intro pins s σ H x y v u Q I rx ry h
  obtain ⟨c, j, rfl, rfl, q⟩ := h
  exact op_in_str pins s σ H _ _ v u Q I rx ry ⟨_, j, rfl, rfl, by rw [show S [c] = ⟨#[c]⟩ from rfl, PySem.StrLaws.found_one]; exact q⟩
theorem sl_mid (x : List Nat) {a b : Nat} (hab : a ≤ b) (hb : b ≤ x.length) {lo hi : Option Int} (h : strSliceIndices lo hi 1 (S x).length = strSliceIndices (some (a : Int)) (some (b : Int)) 1 (S x).length) : slS (S x) lo hi = S ((x.drop a).take (b - a)) := by
  have hb' : b ≤ (S x).length := by rw [S_len]; exact hb
  have e := PySem.StrLaws.sliced_plain (S x) hab hb'
  unfold slS
  rw [h]
  by_cases c : ((strSliceIndices (some (a : Int)) (some (b : Int)) 1 (S x).length).length == (S x).length) = true
  · rw [if_pos c]
    have hl : b - a = x.length := by
      have := eq_of_beq c
      rw [PySem.StrLaws.strSliceIndices_plain hab hb', S_len] at this
      simpa using this
    have h1 : a = 0 := by omega
    rw [h1, List.drop_zero, Nat.sub_zero, List.take_of_length_le (by omega)]
  · rw [if_neg c, e]
    show (⟨_⟩ : Str) = ⟨_⟩
    simp [S]
theorem sl_drop (x : List Nat) (k : Nat) : slS (S x) (some (k : Int)) none = S (x.drop k) := by
  have key : ∀ k : Nat, k ≤ x.length → slS (S x) (some (k : Int)) none = S (x.drop k) := fun k hk => by
    have e := sl_mid x hk (Nat.le_refl _) (lo := some (k : Int)) (hi := none) (by
      rw [S_len]
      unfold strSliceIndices
      have h1 : max (0 : Int) (min (x.length : Int) (x.length : Int)) = x.length := by omega
      have h2 : ¬ (x.length : Int) < 0 := by omega
      simp [h1, h2])
    rw [e, List.take_of_length_le (by simp)]
  by_cases hk : k ≤ x.length
  · exact key k hk
  · have h1 := key x.length (Nat.le_refl _)
    rw [List.drop_eq_nil_of_le (by omega)]
    rw [List.drop_eq_nil_of_le (by omega)] at h1
    rw [← h1]
    unfold slS
    rw [indices_beyond (n := (S x).length) (i := (k : Int)) (by rw [S_len]; omega), S_len]
end L2
namespace L2
open PySem PySem.Spec PyProof.Rows PySem.Builtin PySem.Builtin.Str
def splitL (c : Nat) : List Nat → List (List Nat)
  | [] => [[]]
  | a :: l => if a = c then [] :: splitL c l else match splitL c l with
    | [] => [[a]]
    | p :: ps => (a :: p) :: ps
theorem splitL_ne (c : Nat) : ∀ x, splitL c x ≠ []
  | [] => by simp [splitL]
  | a :: l => by
    unfold splitL
    split
    · simp
    · split <;> simp
def posL (c : Nat) : List Nat → List Nat
  | [] => []
  | a :: l => if a = c then 0 :: (posL c l).map (· + 1) else (posL c l).map (· + 1)
theorem posL_filter (c : Nat) (x : List Nat) : (List.range' 0 (x.length + 1)).filter (fun i => x[i]? == some c) = posL c x := by
  induction x with
  | nil => simp [posL]
  | cons a l ih =>
    have e : List.range' 0 ((a :: l).length + 1) = 0 :: (List.range' 0 (l.length + 1)).map (· + 1) := by
      rw [List.length_cons, List.range'_succ]
      congr 1
      rw [show (fun x : Nat => x + 1) = (fun x => 1 + x) from funext fun x => Nat.add_comm x 1, List.map_add_range']
    rw [e, List.filter_cons, List.filter_map]
    have e2 : ((fun i => (a :: l)[i]? == some c) ∘ (· + 1)) = fun i => l[i]? == some c := by
      funext i; simp
    rw [e2, ih, show posL c (a :: l) = (if a = c then 0 :: (posL c l).map (· + 1) else (posL c l).map (· + 1)) from rfl]
    by_cases h : a = c
    · rw [if_pos h, if_pos (by rw [h]; simp)]
    · rw [if_neg h, if_neg (by simpa using h)]
theorem occ1 (x : List Nat) (c : Nat) : occurrences (S x) (S [c]) 0 (S x).length ((S x).length + 1) = posL c x := by
  rw [PySem.StrLaws.occ_eq, ← posL_filter]
  have key : ∀ (l : List Nat) (a m : Nat) (acc : Array Nat) (free : Nat), l = List.range' a m → free ≤ a → acc.size + m ≤ x.length + 1 →
      (forIn l (acc, free) (PySem.StrLaws.occBody (S x) (S [c]) (S x).length ((S x).length + 1))).run.fst.toList = acc.toList ++ l.filter (fun i => x[i]? == some c) := by
    intro l
    induction l with
    | nil => intro a m acc free _ _ _; simp
    | cons b l ih =>
      intro a m acc free hl hf hs
      cases m with
      | zero => simp at hl
      | succ m =>
        rw [List.range'_succ] at hl
        obtain ⟨rfl, hl⟩ := List.cons.inj hl
        rw [List.forIn_cons]
        unfold PySem.StrLaws.occBody
        have so := PySem.StrLaws.subAt_one (S x) c b
        have eS : (S x).cps.toList = x := by simp [S]
        rw [eS] at so
        by_cases hc : x[b]? = some c
        · have hc2 := so.mpr hc
          have cond : (((acc, free).fst.size < (S x).length + 1 ∧ (acc, free).snd ≤ b) ∧ b + (S [c]).length ≤ (S x).length) ∧ subAt (S x) (S [c]) b = true := ⟨⟨⟨by rw [S_len]; show acc.size < _; omega, hf⟩, hc2.1⟩, hc2.2⟩
          rw [if_pos cond]
          have := ih (b + 1) m (acc.push b) (b + (S [c]).length) (by simpa using hl) (by show b + 1 ≤ b + 1; omega) (by rw [Array.size_push]; omega)
          rw [List.filter_cons, if_pos (by rw [hc]; simp)]
          refine Eq.trans this ?_
          simp
        · have cond : ¬ ((((acc, free).fst.size < (S x).length + 1 ∧ (acc, free).snd ≤ b) ∧ b + (S [c]).length ≤ (S x).length) ∧ subAt (S x) (S [c]) b = true) := fun h => hc (so.mp ⟨h.1.2, h.2⟩)
          rw [if_neg cond]
          have := ih (b + 1) m acc free (by simpa using hl) (by omega) (by omega)
          rw [List.filter_cons, if_neg (by simpa using hc)]
          exact this
  have := key (List.range' 0 ((S x).length + 1 - 0)) 0 ((S x).length + 1 - 0) #[] 0 rfl (Nat.le_refl _) (by rw [S_len]; simp)
  rw [this, S_len]
  simp
def cutsL (x : List Nat) (cuts : List Nat) : List (List Nat) := ((0 :: cuts.map (· + 1)).zip (cuts ++ [x.length])).map fun p => (x.drop p.1).take (p.2 - p.1)
theorem cuts_split (c : Nat) : ∀ x, cutsL x (posL c x) = splitL c x
  | [] => by simp [cutsL, posL, splitL]
  | a :: l => by
    have ih := cuts_split c l
    have sh : ∀ (P Q : List Nat), ((P.map (· + 1)).zip (Q.map (· + 1))).map (fun p => ((a :: l).drop p.1).take (p.2 - p.1)) = (P.zip Q).map fun p => (l.drop p.1).take (p.2 - p.1) := by
      intro P
      induction P with
      | nil => intro Q; simp
      | cons p P ihP =>
        intro Q
        cases Q with
        | nil => simp
        | cons q Q =>
          have := ihP Q
          simp only [List.map_cons, List.zip_cons_cons] at this ⊢
          rw [this]
          simp
    rw [show posL c (a :: l) = (if a = c then 0 :: (posL c l).map (· + 1) else (posL c l).map (· + 1)) from rfl]
    rw [show splitL c (a :: l) = (if a = c then [] :: splitL c l else match splitL c l with | [] => [[a]] | p :: ps => (a :: p) :: ps) from rfl]
    by_cases h : a = c
    · rw [if_pos h, if_pos h, ← ih]
      unfold cutsL
      have e1 : ((posL c l).map (· + 1) ++ [(a :: l).length]) = (posL c l ++ [l.length]).map (· + 1) := by simp
      have e2 : (0 :: (posL c l).map (· + 1)).map (· + 1) = (0 :: (posL c l).map (· + 1)).map (· + 1) := rfl
      rw [List.map_cons, List.cons_append, List.zip_cons_cons, List.map_cons, e1, show ((0 + 1) :: ((posL c l).map (· + 1)).map (· + 1)) = (0 :: (posL c l).map (· + 1)).map (· + 1) from rfl, sh]
      simp
    · rw [if_neg h, if_neg h, ← ih]
      unfold cutsL
      have e1 : ((posL c l).map (· + 1) ++ [(a :: l).length]) = (posL c l ++ [l.length]).map (· + 1) := by simp
      rw [e1]
      cases hq : posL c l ++ [l.length] with
      | nil => simp at hq
      | cons q Q =>
        rw [List.map_cons, List.zip_cons_cons, List.map_cons, List.zip_cons_cons, List.map_cons, sh]
        simp
theorem split_S (x : List Nat) {c : Nat} (hc : c < 256) : PySem.Txt.split (S x) (S [c]) = (splitL c x).map S := by
  unfold PySem.Txt.split
  have k1 : PySem.Builtin.Str.strKind (S [c]) = 1 := by
    unfold PySem.Builtin.Str.strKind
    rw [if_pos (by show (#[c].all (· < 256)) = true; simp [hc])]
  have k2 : 1 ≤ PySem.Builtin.Str.strKind (S x) := by
    unfold PySem.Builtin.Str.strKind
    split
    · omega
    · split <;> omega
  have e1 : (S [c]).length = 1 := rfl
  rw [occ1, k1, e1, S_len]
  have kk : decide (PySem.Builtin.Str.strKind (S x) < 1) = false := decide_eq_false (by omega)
  rw [kk, Bool.or_false]
  by_cases hx : x.length < 1
  · rw [if_pos (decide_eq_true hx)]
    cases x with
    | nil => rfl
    | cons a l => simp at hx
  rw [if_neg (by simpa using hx)]
  have cs := cuts_split c x
  have parts : partsBetween (S x) (posL c x) 1 = (splitL c x).map S := by
    rw [← cs]
    unfold partsBetween cutsL
    rw [S_len, List.map_map]
    refine List.map_congr_left fun p _ => ?_
    show strSub (S x) p.1 p.2 = S ((x.drop p.1).take (p.2 - p.1))
    unfold strSub
    show (⟨x.toArray.extract p.1 p.2⟩ : Str) = ⟨_⟩
    congr 1
    apply Array.ext'
    simp [List.extract_eq_drop_take]
  by_cases he : (posL c x).isEmpty = true
  · rw [if_pos he]
    have e0 : posL c x = [] := by simpa using he
    rw [← cs, e0]
    simp [cutsL]
  · rw [if_neg he]
    exact parts
theorem splitL_len (c : Nat) : ∀ x, (splitL c x).length ≤ x.length + 1
  | [] => by simp [splitL]
  | a :: l => by
    have ih := splitL_len c l
    rw [show splitL c (a :: l) = (if a = c then [] :: splitL c l else match splitL c l with | [] => [[a]] | p :: ps => (a :: p) :: ps) from rfl]
    split
    · simp; omega
    · cases h : splitL c l with
      | nil => simp
      | cons p ps => rw [h] at ih; simp at ih ⊢; omega
theorem strs_vals : ∀ (l : List (Str × Tok)) (ps : List (List Nat)), l.map (·.1) = ps.map S → Vals (ps.map fun p => V.str (S p)) (strValues l)
  | [], [], _ => .nil
  | [], _ :: _, h => by simp at h
  | _ :: _, [], h => by simp at h
  | q :: l, p :: ps, h => by
    rw [List.map_cons, List.map_cons] at h
    obtain ⟨h1, h2⟩ := List.cons.inj h
    exact .cons ⟨q.2, by rw [← h1]⟩ (strs_vals l ps h2)
def rSplit (x : V) (vs : List V) (H : Hp) (Q : VK) : Prop := ∃ z c, x = .str (S z) ∧ vs = [.str (S [c])] ∧ c < 256 ∧ z.length ≤ 100000 ∧ ∀ l H', New H H' l (.lst ((splitL c z).map fun p => V.str (S p))) → Q (.ref l) H'
theorem mt_split {X : Cx} : MtR X "str.split" rSplit := by
  intro pins s σ H x xs v us Q I rx r h
  obtain ⟨z, c, rfl, rfl, hc, hz, q⟩ := h
  obtain ⟨t, rfl⟩ := rx
  obtain ⟨u, rfl, t', rfl⟩ := vals1 r
  have hs : sizeLine = 16777216 := sizeLine_eq
  have hf : H s.heap.objs.size = none := I.hok.fresh (Nat.le_refl _)
  have ln := splitL_len c z
  have fin : ∀ (l : List (Str × Tok)) (k : Nat), l.map (·.1) = PySem.Txt.split (S z) (S [c]) → EP X pins σ Q (.ref s.heap.objs.size) { s with heap := s.heap.push { cls := .type "list", data := .seq (strValues l).toArray }, toks := k } := fun l k e => by
    rw [split_S z hc] at e
    refine ⟨.ref s.heap.objs.size, upd H s.heap.objs.size (.lst ((splitL c z).map fun p => V.str (S p))), I.laid (t' := k) (fun b w e => Heap.get?_push_of_some _ e) (Nat.le_refl _) ?_, rfl, q _ _ (new_upd hf)⟩
    exact ⟨by rw [List.length_map, hs]; omega, strValues l, 0, strs_vals l _ e, Heap.get?_push_size _ rfl⟩
  have hy : ((S [c]).length == 0) = false := rfl
  have hb : (partsBetween (S z) (occurrences (S z) (S [c]) 0 (S z).length ((S z).length + 1)) (S [c]).length).length ≤ sizeLine := by
    have e1 := PySem.StrLaws.occ_length_le (S z) (S [c]) 0 (S z).length ((S z).length + 1)
    rw [length_partsBetween]
    rw [S_len] at e1 ⊢
    omega
  cases k1 : (decide ((S z).length < (S [c]).length) || decide (PySem.Builtin.Str.strKind (S z) < PySem.Builtin.Str.strKind (S [c]))) with
  | true => exact call_meets PySem.F.slot_str_split (typeIs_str _ _ _) PySem.F.entry_str_split (PySem.F.args_str_split_2 _ _) (meets_str_split_cannot_occur _ _ t t' k1) (fin [(S z, t)] s.toks (if_pos k1).symm)
  | false =>
    cases k2 : (occurrences (S z) (S [c]) 0 (S z).length ((S z).length + 1)).isEmpty with
    | true => exact call_meets PySem.F.slot_str_split (typeIs_str _ _ _) PySem.F.entry_str_split (PySem.F.args_str_split_2 _ _) (meets_str_split_not_found _ _ t t' k1 hy k2) (fin [(S z, t)] s.toks ((if_neg (ne_true_of_eq_false k1)).trans (if_pos k2)).symm)
    | false =>
      refine call_meets PySem.F.slot_str_split (typeIs_str _ _ _) PySem.F.entry_str_split (PySem.F.args_str_split_2 _ _) (meets_str_split_sep _ _ t t' k1 hy k2 (by rw [S_len]; omega) hb) ?_
      show EP X pins σ Q _ { s with toks := _, heap := s.heap.push { cls := .type "list", data := .seq (strsFrom s.toks (partsBetween (S z) (occurrences (S z) (S [c]) 0 (S z).length ((S z).length + 1)) (S [c]).length)).toArray } }
      rw [strsFrom_eq]
      exact fin (numbered s.toks _) _ ((numbered_texts _ _).trans ((if_neg (ne_true_of_eq_false k1)).trans (if_neg (ne_true_of_eq_false k2))).symm)
def joinL (sep : List Nat) : List (List Nat) → List Nat
  | [] => []
  | [p] => p
  | p :: ps => p ++ sep ++ joinL sep ps
theorem glue_S (sep : List Nat) : ∀ (ps : List (List Nat)) (a : List Nat), (ps.map S).foldl (fun acc p => acc ++ (S sep).cps ++ p.cps) a.toArray = (match ps with | [] => a | _ => a ++ sep ++ joinL sep ps).toArray
  | [], a => rfl
  | [p], a => by
    show (a.toArray ++ sep.toArray ++ p.toArray) = _
    simp [joinL]
  | p :: r :: ps, a => by
    have ih := glue_S sep (r :: ps) (a ++ sep ++ p)
    rw [List.map_cons, List.foldl_cons]
    have e : a.toArray ++ (S sep).cps ++ (S p).cps = (a ++ sep ++ p).toArray := by show a.toArray ++ sep.toArray ++ p.toArray = _; simp
    rw [e, ih]
    simp [joinL]
theorem join_S (sep : List Nat) (ps : List (List Nat)) : PySem.Txt.join (S sep) (ps.map S) = S (joinL sep ps) := by
  unfold PySem.Txt.join glued
  cases ps with
  | nil => rfl
  | cons p ps =>
    show (⟨(ps.map S).foldl (fun acc p => acc ++ (S sep).cps ++ p.cps) p.toArray⟩ : Str) = _
    rw [glue_S]
    cases ps with
    | nil => rfl
    | cons r ps => simp [joinL, S]
def rJoin (K : PySem.W.Frag) (x : V) (vs : List V) (H : Hp) (Q : VK) : Prop := ∃ sep ps p, x = .str (S sep) ∧ vs = [.ref p] ∧ SqL K H p (ps.map fun q => V.str (S q)) ∧ (ps.map List.length).sum + ps.length * sep.length ≤ 1000000 ∧ Q (.str (S (joinL sep ps))) H
theorem strs_are : ∀ {ps : List (List Nat)} {us : List Value}, Vals (ps.map fun q => V.str (S q)) us → StrsAre us (ps.map S)
  | [], _, .nil => .nil
  | p :: ps, _, .cons ⟨t, e⟩ r => by subst e; exact .cons _ _ (strs_are r)
theorem mt_join {X : Cx} : MtR X "str.join" (rJoin X.K) := by
  intro pins s σ H x xs v us Q I rx r h
  obtain ⟨sep, ps, p, rfl, rfl, hq, hz, q⟩ := h
  obtain ⟨t, rfl⟩ := rx
  obtain ⟨u, rfl, ru⟩ := vals1 r
  cases (show u = Value.ref p from ru)
  obtain ⟨its, rv, pl, _⟩ := I.list hq
  refine join_list (ys := ps.map S) pl.isList (by simpa using strs_are rv) ?_ fun t' k => ⟨.str (S (joinL sep ps)), H, I.tok _, ⟨t', by rw [join_S]⟩, q⟩
  have e : ((ps.map S).map (·.length)) = ps.map List.length := by
    rw [List.map_map]
    exact List.map_congr_left fun l _ => S_len l
  rw [e, List.length_map, S_len]
  omega
end L2
namespace L2
open PySem PySem.Spec PyProof.Rows
def XC (X : Cx) (σ : St) (E : XK) (C : Addr) (ev : Value) (s : Shared) : Prop :=
  ∃ e T cls dd H', ev = .ref e ∧ Inv X [] σ H' s ∧ FpX X H' e ∧ FpX X H' T ∧ FlT s.heap e T cls dd .none ∧ E cls dd H' ∧ H' C = none ∧ (∃ m, s.heap.Ns C m) ∧ e ≠ C ∧ T ≠ C
theorem lc_loopX {Y : Cx} {EX : Value → Shared → Prop} {D it : Addr} {J : It} {fp : List Addr} {tn : Nat → Heap → Prop} {g : TG} {tc : TT} {te : TE} {Q : VK} {W : Nat → Nat → List V → Hp → Prop} {nv n0 m0 : Nat} {σc : St} {H : Hp} {s : Shared}
    {elt target iter : Expr} {ifs : List Expr} {scope : Scope} {pos : Pos} {R : Result → Shared → Prop} (hx : Y.xe = fun _ _ => False)
    (hc : Y.calm = true) (hg : PG Y target g) (hk : GKeep nv g) (hi : PIfs Y ifs tc) (he : PE (Y.wish EX) elt te) (hEX : ∀ ev s', EX ev s' → notedBy (model Y.prog Y.w) Y.A Y.env (fun e s' => R (.error e) s') ev s') (T : Turn Y.prog Y.w Y.K target J fp it tn)
    (hnv : ∀ i, i < nv → ∀ v, σc[i]? ≠ some (some v))
    (d1 : D ≠ Y.env.locals) (d2 : D ∈ Y.ex) (d3 : D ∉ Y.fs) (d4 : ∀ x c, Y.env.cells.lookup x = some c → c ≠ D) (d5 : D ∉ fp) (d6 : Y.pn = [])
    (hf : ∀ b ∈ fp, b ≠ Y.env.locals ∧ b ∉ Y.fs ∧ (b ∈ Y.ex ∨ Y.s₀.heap.objs.size ≤ b) ∧ (∀ x c, Y.env.cells.lookup x = some c → c ≠ b))
    (I0 : Inv Y [(D, lobj [] n0)] σc H s) (st : tn 0 s.heap) (fr : ∀ b ∈ fp, H b = none) (w0 : W 0 m0 [] H)
    (turn : ∀ i m ys H2, W i m ys H2 → (J.stop i H2 ∧ ys.length ≤ sizeLine ∧ ∀ p, H2 p = none → Q (.ref p) (upd H2 p (.lst ys))) ∨
      (J.go i H2 ∧ ys.length < sizeLine ∧ ∃ N : List V → Hp → Prop, (∀ zs H', N zs H' → ∃ m', m' < m ∧ W (i + 1) m' zs H') ∧ ∀ x H3, J.yld i H2 x H3 → g x σc H3 fun σ4 H4 => tc σ4 H4 fun b H5 => if b = true then te σ4 H5 fun v H6 => N (ys ++ [v]) H6 else N ys H5))
    (hend : ∀ ys us n H' s', Inv Y [(D, lobj us n)] σc H' s' → Vals ys us → ys.length ≤ sizeLine → (∀ p, H' p = none → Q (.ref p) (upd H' p (.lst ys))) → R (.ok .next) s') :
    codeAny (model Y.prog Y.w) Y.A (.compLoop (.ListComp elt [⟨target, iter, ifs, 0⟩] scope pos) 0 (.ref it) (.ref D) Y.env) R s := by
  have fpok : ∀ {H' : Hp} {o : Obj}, (∀ b ∈ fp, H' b = none) → ∀ b ∈ fp, FpOk Y [(D, o)] H' b := fun {H' o} hn b hb => by
    obtain ⟨f1, f2, f3, f4⟩ := hf b hb
    refine ⟨hn b hb, f1, f2, f3, f4, fun p hp => ?_⟩
    rw [d6] at hp
    have e : p = (D, o) := by simpa using hp
    rw [e]
    exact fun z => d5 (by rw [show D = b from z]; exact hb)
  refine codeAny_lc (fun n s' => ∃ i ys us k H', Inv Y [(D, lobj us k)] σc H' s' ∧ Vals ys us ∧ tn i s'.heap ∧ (∀ b ∈ fp, H' b = none) ∧ W i n ys H') ?_ m0 ⟨0, [], [], n0, H, I0, .nil, st, fr, w0⟩
  rintro n s3 ⟨i, ys, us, k, H3, I3, rv, st3, fr3, w3⟩
  have ex0 : ∀ {E' : Value → Shared → Prop} {e : Value} {s' : Shared}, Y.xe e s' → E' e s' := fun {E' e s'} z => by rw [hx] at z; exact z.elim
  rcases turn i n ys H3 w3 with ⟨stop, hz, q⟩ | ⟨go, hz, N, hN, step⟩
  · refine thn (T.done Y rfl rfl rfl hc i _ s3 σc H3 _ I3 (fpok fr3) st3 stop) fun r s4 hq__ => ?_
    obtain ⟨hr, I4⟩ := hq__
    subst hr
    exact hend ys us k H3 s4 I4 rv hz q
  · refine thn (T.item Y rfl rfl rfl hc i _ s3 σc H3 _ I3 (fpok fr3) st3 go) fun r s4 hq__ => ?_
    obtain ⟨u, hr, h4⟩ := hq__
    subst hr
    refine thn h4 fun _ s5 hq__ => ?_
    obtain ⟨x, H5, I5, r5, y5, st5, fr5⟩ := hq__
    have I5' := I5.pinned (fpok fr5) (T.obj _ _ st5)
    refine wpAny_mono (hg _ s5 σc H5 x u _ I5' r5 (hk x σc H5 _ (step x H5 y5))) (fun _ s6 hq__ => ?_) fun _ _ z => ex0 z
    obtain ⟨σ6, H6, I6, q6, l6, e6⟩ := hq__
    have wk : ∀ (i : Nat) v, σc[i]? = some (some v) → σ6[i]? = some (some v) := fun i v e => by
      by_cases h : nv ≤ i
      · rw [e6 i h]; exact e
      · exact absurd e (hnv i (by omega) v)
    have back : ∀ {o : Obj} {H' : Hp} {s' : Shared}, Inv Y ([(D, o)] ++ pinsAt fp s5.heap) σ6 H' s' → Inv Y [(D, o)] σc H' s' ∧ tn (i + 1) s'.heap ∧ ∀ b ∈ fp, H' b = none := fun {o H' s'} I' => by
      refine ⟨(I'.unpinned).weak (by rw [← l6]) wk, T.keep _ _ _ st5 fun b hb o e => (I'.pin (b, o) (List.mem_append_right _ (List.mem_append_right _ (mem_pinsAt hb e)))).1, fun b hb => ?_⟩
      obtain ⟨o, e, _⟩ := T.obj _ _ st5 b hb
      exact (I'.pin (b, o) (List.mem_append_right _ (List.mem_append_right _ (mem_pinsAt hb e)))).2.1
    refine wpAny_mono (hi _ s6 σ6 H6 _ I6 q6) (fun b s7 hq__ => ?_) fun _ _ z => ex0 z
    obtain ⟨H7, I7, q7⟩ := hq__
    cases b with
    | false =>
      obtain ⟨m', hm, w7⟩ := hN ys H7 q7
      obtain ⟨I8, st8, fr8⟩ := back I7
      exact ⟨m', hm, i + 1, ys, us, k, H7, I8, rv, st8, fr8, w7⟩
    | true =>
      refine wpAny_mono (he _ s7 σ6 H7 _ (I7.wish _) q7) (fun u2 s8 hq__ => ?_) fun _ _ z => hEX _ _ z
      obtain ⟨v, H8, I8w, r8, n8⟩ := hq__
      have I8 := I8w.unwish
      obtain ⟨m', hm, w8⟩ := hN _ H8 n8
      obtain ⟨I9, st9, fr9⟩ := back I8
      obtain ⟨eD, nD, _, _, _⟩ := I9.pin (D, lobj us k) (by simp)
      have hlen := rv.length
      refine call_meets F.slot_list_append ⟨_, eD, rfl⟩ F.entry_list_append (F.args_list_append_2 _ _) (PySem.list_append D us.toArray k u2 (by rw [List.size_toArray]; omega)) ⟨eD, ?_⟩
      have q := PySem.IsL.update eD (fun x_1 => x_1.push u2)
      have eq : us.toArray.push u2 = (us ++ [u2]).toArray := by simp
      rw [eq] at q
      obtain ⟨n', q⟩ : ∃ n', (s8.heap.update D (Obj.mapSeq fun x_1 => x_1.push u2)).get? D = some (lobj (us ++ [u2]) n') := ⟨_, q⟩
      have I10 : Inv Y [] σc H8 s8 := I9.pins_of fun p hp => by cases hp
      have I11 : Inv Y [] σc H8 { s8 with heap := s8.heap.update D (Obj.mapSeq fun x_1 => x_1.push u2), toks := s8.toks } :=
        I10.turned (it := D) (fun b o hb e => (Heap.get?_update_other s8.heap (Obj.mapSeq _) (Ne.symm hb)).trans e) nD d1 (.inl d2) d4 (fun p hp => by rw [d6] at hp; cases hp)
      refine ⟨m', hm, i + 1, ys ++ [v], us ++ [u2], n', H8, I11.pins_of (fun p hp => ?_), rv.append (.cons r8 .nil), ?_, fr9, w8⟩
      · have e : p = (D, lobj (us ++ [u2]) n') := by simpa using hp
        subst e
        exact ⟨q, nD, d1, d3, fun v z => by have z' : Data.seq _ _ = Data.cell v := z; cases z'⟩
      · refine T.keep _ _ _ st9 fun b hb o e => ?_
        exact (Heap.get?_update_other s8.heap (Obj.mapSeq _) (fun z => d5 (by rw [z]; exact hb))).trans e
section
variable {X : Cx} {pins : List (Addr × Obj)} {σ : St} {H : Hp} {s : Shared} {scope : Scope} {cl : List (Str × Addr)} {vars frees : List Str} {fv : List Nat} {elt target iter : Expr} {ifs : List Expr} {pos : Pos}
theorem lc_coreX {EK : XK} {J : It} {fp : List Addr} {it : Addr} {tn : Nat → Heap → Prop} {g : TG} {tc : TT} {te : TE} {Q : VK} {W : Nat → Nat → List V → Hp → Prop} {m0 : Nat} {E : Value → Shared → Prop} {E2 : Value → Addr → Value → Shared → Prop}
    (hc : X.calm = true) (L : LcOk X scope cl) (fo : FvOk X scope cl frees fv) (hk : GKeep vars.length g)
    (hg : ∀ C s H ex, PG (blk X (vars ++ frees) scope cl C s H ex) target g) (hi : ∀ C s H ex, PIfs (blk X (vars ++ frees) scope cl C s H ex) ifs tc) (he : ∀ C s1 H1 ex, (∀ pins' σ' H' s', Inv (blk X (vars ++ frees) scope cl C s1 H1 ex) pins' σ' H' s' → Inv X [] σ H' s') → PE ((blk X (vars ++ frees) scope cl C s1 H1 ex).wish (XC X σ EK C)) elt te)
    (hE2 : ∀ (acc : Value) (C : Addr) ev s', s.heap.objs.size ≤ C → XC X σ EK C ev s' → notedBy (model X.prog X.w) X.A (compEnvC scope cl C X.env) (fun e s'' => E2 acc C e s'') ev s')
    (I : Inv X pins σ H s) (T : Turn X.prog X.w X.K target J fp it tn) (st : tn 0 s.heap) (hf : ∀ b ∈ fp, FpOk X pins H b) (w0 : W 0 m0 [] H)
    (turn : ∀ i m ys H2, W i m ys H2 → (J.stop i H2 ∧ ys.length ≤ sizeLine ∧ ∀ p, H2 p = none → Q (.ref p) (upd H2 p (.lst ys))) ∨
      (J.go i H2 ∧ ys.length < sizeLine ∧ ∃ N : List V → Hp → Prop, (∀ zs H', N zs H' → ∃ m', m' < m ∧ W (i + 1) m' zs H') ∧ ∀ x H3, J.yld i H2 x H3 → g x (lcσ vars.length fv σ) H3 fun σ4 H4 => tc σ4 H4 fun b H5 => if b = true then te σ4 H5 fun v H6 => N (ys ++ [v]) H6 else N ys H5)) :
    wpAny (model X.prog X.w) X.A (newList []) (fun acc s₃ => wpAny (model X.prog X.w) X.A (newFunctionEnv scope X.env.globals cl [] X.env.qual none .none (some X.env)) (fun cenv s₄ =>
      codeAny (model X.prog X.w) X.A (.compStart (.ListComp elt [⟨target, iter, ifs, 0⟩] scope pos) 0 (.ref it) acc { cenv with scope := relabel scope X.env })
        (fun r s' => match r with | .ok _ => ∃ D, acc = .ref D ∧ LcEnd X pins σ Q D cenv.locals s' | .error x => E2 acc cenv.locals x s') s₄) E s₃) E s := by
  have hoo : ∀ b ∈ fp, ∃ o, s.heap.get? b = some o := fun b hb => let ⟨o, e, _⟩ := T.obj 0 _ st b hb; ⟨o, e⟩
  refine wpAny_newObj_type (wpAny_newFunctionEnv L.nocell (by intro y hy; simp at hy) (fun h₁ hns hsb => ?_) L.kind)
  dsimp only at hns hsb ⊢
  have hC : (s.heap.push emptyList).objs.size = s.heap.objs.size + 1 := Heap.size_push ..
  have keep1 : ∀ b o, b ≠ (s.heap.push emptyList).objs.size → (s.heap.push emptyList).get? b = some o → h₁.get? b = some o := fun b o hb e => hsb.extBut b o hb (Heap.get?_push_of_some _ e)
  have I0 : Inv (blk X (vars ++ frees) scope cl (s.heap.push emptyList).objs.size { s with heap := s.heap.push emptyList } H (s.heap.objs.size :: fp)) [(s.heap.objs.size, emptyList)] (lcσ vars.length fv σ) H { s with heap := h₁, toks := s.toks + ([] : List (Str × Value)).length } :=
    inv_blk I L fo hf hoo (by simpa using hns) keep1
  have st1 : tn 0 h₁ := T.keep 0 _ _ st fun b hb o e => keep1 b o (ltS e) (Heap.get?_push_of_some _ e)
  have lt0 : ∀ {b : Addr} {o : Obj}, s.heap.get? b = some o → b ≠ s.heap.objs.size ∧ b ≠ (s.heap.push emptyList).objs.size := fun e => ⟨neZ e, ltS e⟩
  have nex0 : ∀ {b : Addr} {o : Obj}, s.heap.get? b = some o → b ∉ fp → b ∉ s.heap.objs.size :: fp := fun e hb z => by
    rcases List.mem_cons.mp z with z | z
    · exact (lt0 e).1 z
    · exact hb z
  have ho : ∀ pins' σ' H' s', Inv (blk X (vars ++ frees) scope cl (s.heap.push emptyList).objs.size { s with heap := s.heap.push emptyList } H (s.heap.objs.size :: fp)) pins' σ' H' s' → Inv X [] σ H' s' := fun pins' σ' H' s' I' => by
    have un : Un (frs X.stack) fp H H' s.heap s'.heap :=
      { keep := fun b o e n hb hx => I'.base.keep b o (Heap.get?_push_of_some _ e) n hb (nex0 e hx)
        slot := fun b o e n hb hx => I'.base.slot b o (Heap.get?_push_of_some _ e) n hb (nex0 e hx)
        free := fun b o e n hx => I'.base.free b o (Heap.get?_push_of_some _ e) n (nex0 e hx)
        there := fun b o e hx => I'.base.there b o (Heap.get?_push_of_some _ e) (nex0 e hx)
        tups := fun b xs e => I'.base.tups b xs e
        frzs := fun b o u e => I'.base.frzs b o u e
        tbls := fun b ps e => I'.base.tbls b ps e }
    have J1 : Inv X pins σ H' s' := I.call' (ch := fp) I'.os un I'.hok I'.bare fun b hb => ⟨(hf b hb).2.2.2.1, (hf b hb).2.1, (hf b hb).2.2.2.2.1, (hf b hb).2.2.2.2.2⟩
    exact J1.pins_of (by simp)
  have loop : codeAny (model X.prog X.w) X.A (.compLoop (.ListComp elt [⟨target, iter, ifs, 0⟩] scope pos) 0 (.ref it) (.ref s.heap.objs.size) (compEnvC scope cl (s.heap.push emptyList).objs.size X.env))
      (fun r s' => match r with | .ok _ => ∃ D, Value.ref s.heap.objs.size = .ref D ∧ LcEnd X pins σ Q D (s.heap.push emptyList).objs.size s' | .error x => E2 (.ref s.heap.objs.size) (s.heap.push emptyList).objs.size x s') { s with heap := h₁, toks := s.toks + ([] : List (Str × Value)).length } := by
    refine lc_loopX (EX := XC X σ EK (s.heap.push emptyList).objs.size) (Y := blk X (vars ++ frees) scope cl (s.heap.push emptyList).objs.size { s with heap := s.heap.push emptyList } H (s.heap.objs.size :: fp)) (nv := vars.length) (n0 := 0) rfl hc (hg _ _ _ _) hk (hi _ _ _ _) (he _ _ _ _ ho) (fun ev s' z => hE2 _ _ ev s' leS z) T (fun i hi v e => ?_)
      neS (by show s.heap.objs.size ∈ s.heap.objs.size :: fp; simp) ?_ (fun x c e => ?_) (fun z => ?_) rfl (fun b hb => ?_) I0 st1 (fun b hb => (hf b hb).1) w0 turn ?_
    · rw [show lcσ vars.length fv σ = List.replicate vars.length none ++ fv.map fun j => (σ[j]?).join from rfl, List.getElem?_append_left (by simpa using hi), List.getElem?_replicate_of_lt (by simpa using hi)] at e
      cases e
    · exact (I0.pin (s.heap.objs.size, emptyList) (by simp)).2.2.2.1
    · obtain ⟨v, q⟩ := I.cell x c (L.sub x c e)
      exact Nat.ne_of_lt q.lt
    · obtain ⟨o, e⟩ := hoo _ z
      exact absurd (Heap.lt_size e) (Nat.lt_irrefl _)
    · exact ⟨(I0.ok.exf b (List.mem_cons_of_mem _ hb)).1, I0.ok.exfs b (List.mem_cons_of_mem _ hb), .inl (List.mem_cons_of_mem _ hb), (I0.ok.exf b (List.mem_cons_of_mem _ hb)).2⟩
    · intro ys us n H' s' I' rv hz q
      obtain ⟨eD, nD, _, fD, _⟩ := I'.pin (s.heap.objs.size, lobj us n) (by simp)
      obtain ⟨mC, hnC, _⟩ := I'.loc
      obtain ⟨oC, es, ep, eC, dC, r1, r2⟩ := id hnC
      have nC : H' (s.heap.push emptyList).objs.size = none := I'.free
      have neDC : (s.heap.push emptyList).objs.size ≠ s.heap.objs.size := neS.symm
      have lt : ∀ {b : Addr} {o : Obj}, s.heap.get? b = some o → b ≠ s.heap.objs.size ∧ b ≠ (s.heap.push emptyList).objs.size := fun e => ⟨neZ e, ltS e⟩
      have nex : ∀ {b : Addr} {o : Obj}, s.heap.get? b = some o → b ∉ fp → b ∉ s.heap.objs.size :: fp := fun e hb z => by
        rcases List.mem_cons.mp z with z | z
        · exact (lt e).1 z
        · exact hb z
      have upn : ∀ {b : Addr} {u : HO}, H' b = some u → upd H' s.heap.objs.size (.lst ys) b = some u := fun e => by rw [upd_ne (ne_of_none e nD)]; exact e
      have un : Un (frs X.stack) fp H (upd H' s.heap.objs.size (.lst ys)) s.heap s'.heap :=
        { keep := fun b o e n hb hx => I'.base.keep b o (Heap.get?_push_of_some _ e) n hb (nex e hx)
          slot := fun b o e n hb hx => I'.base.slot b o (Heap.get?_push_of_some _ e) n hb (nex e hx)
          free := fun b o e n hx => by rw [upd_ne (lt e).1]; exact I'.base.free b o (Heap.get?_push_of_some _ e) n (nex e hx)
          there := fun b o e hx => I'.base.there b o (Heap.get?_push_of_some _ e) (nex e hx)
          tups := fun b xs e => upn (I'.base.tups b xs e)
          frzs := fun b o u e => upn (I'.base.frzs b o u e)
          tbls := fun b ps e => let ⟨more, z⟩ := I'.base.tbls b ps e; ⟨more, upn z⟩ }
      have hok : HOk X.prog X.w (upd H' s.heap.objs.size (.lst ys)) s'.heap := fun b u e => by
        by_cases hb : b = s.heap.objs.size
        · subst hb; rw [upd_same] at e; cases e
          exact ⟨hz, us, n, rv, eD⟩
        · rw [upd_ne hb] at e
          exact (I'.hok b u e).stay (fun c v _ z => z) (fun c z => upn z) fun c xs z => upn z
      have J1 : Inv X pins σ (upd H' s.heap.objs.size (.lst ys)) s' := I.call' (ch := fp) I'.os un hok I'.bare fun b hb => ⟨(hf b hb).2.2.2.1, (hf b hb).2.1, (hf b hb).2.2.2.2.1, (hf b hb).2.2.2.2.2⟩
      have fC : FpOk X pins (upd H' s.heap.objs.size (.lst ys)) (s.heap.push emptyList).objs.size := I.fpOk leS (by rw [upd_ne neDC]; exact nC)
      refine ⟨_, rfl, ys, H', oC, mC, J1.pins_of (fun p hp => ?_), hnC, fC, q _ nD⟩
      rcases List.mem_append.mp hp with z | z
      · exact J1.pin p (List.mem_append_right _ z)
      · have e : p = ((s.heap.push emptyList).objs.size, oC) := by simpa using z
        subst e
        exact ⟨eC, fC.1, fC.2.1, fC.2.2.1, fun v z => by rw [dC] at z; cases z⟩
  exact codeAny_compStart_list loop (T.self _ 0 _ _ _ st1 loop)
theorem xc_out {W : XW} {scope' : Scope} {C : Addr} {ev : Value} {s' : Shared} {acc : Value} {Q : Value → Shared → Prop} {use : Option (Value → Sem Unit)} (hW : Wants X W) (hc : X.calm = true) (I : Inv X pins σ H s) (hC : s.heap.objs.size ≤ C) (h : XC X σ (fun c d H' => W c d σ H') C ev s') :
    notedBy (model X.prog X.w) X.A (compEnvC scope' cl C X.env) (fun e s'' => compPost (model X.prog X.w) X.A X.xe use Q acc C (.error e) s'') ev s' := by
  have red : ∀ e s'', compPost (model X.prog X.w) X.A X.xe none Q acc C (.error e) s'' → compPost (model X.prog X.w) X.A X.xe use Q acc C (.error e) s'' := fun e s'' z => by cases use <;> exact z
  obtain ⟨e, T, cls, dd, H', rfl, I', fe, fT, F, q, nC, ⟨m, hm⟩, eC, TC⟩ := h
  obtain ⟨oC, es, ep, hoC, dC, rC⟩ := id hm
  have fC := I.fpOk (H' := H') hC nC
  have IP : Inv (pnd X (X.pn ++ [(C, oC)])) [] σ H' s' := by
    refine Inv.pnd (X := X) (pins := [(C, oC)]) (I'.pins_of fun p hp => ?_)
    have z : p = (C, oC) := by simpa using hp
    subst z
    exact ⟨hoC, nC, fC.2.1, fC.2.2.1, fun v z => by rw [dC] at z; cases z⟩
  have up : ∀ b, FpX X H' b → b ≠ C → FpX (pnd X (X.pn ++ [(C, oC)])) H' b := fun b f hb => by
    refine ⟨f.1, f.2.1, f.2.2.1, f.2.2.2.1, f.2.2.2.2.1, fun p hp => ?_⟩
    rcases List.mem_append.mp hp with z | z
    · exact f.2.2.2.2.2 p z
    · have z' : p = (C, oC) := by simpa using z
      subst z'
      exact fun z => hb z.symm
  have hs : OnStk (pnd X (X.pn ++ [(C, oC)])) := hW.1
  show wpAny _ _ (noteFrame (.ref e) (pnd X (X.pn ++ [(C, oC)])).env) _ _ s'
  refine note_ok hs IP.ok.frames IP ⟨up e fe eC, .inr ⟨T, _, up T fT TC, F⟩⟩ fun h1 T1 I1 hT1 F1 => ?_
  have pC := I1.pin (C, oC) (by show (C, oC) ∈ (X.pn ++ [(C, oC)]) ++ ([] : List (Addr × Obj)); simp)
  have T1C : T1 ≠ C := fun z => hT1.2.2.2.2.2 (C, oC) (by show (C, oC) ∈ X.pn ++ [(C, oC)]; simp) z.symm
  have hT1' : FpX X H' T1 := ⟨hT1.1, hT1.2.1, hT1.2.2.1, hT1.2.2.2.1, hT1.2.2.2.2.1, fun p hp => hT1.2.2.2.2.2 p (List.mem_append_left _ hp)⟩
  refine red _ _ ⟨m, ⟨oC, es, ep, pC.1, dC, rC⟩, fun h' sb cenv _ => ?_⟩
  have J : Inv X [] σ H' { s' with heap := h1 } := (Inv.unpnd (X := X) (pins := [(C, oC)]) I1).pins_of (by simp)
  have J2 : Inv X [] σ H' { s' with heap := h' } := J.turned (s := { s' with heap := h1 }) (t' := s'.toks) (it := C) (fun b o hb z => (sb.2 b hb).trans z) nC fC.2.1 fC.2.2.2.1 fC.2.2.2.2.1 fun p hp => fC.2.2.2.2.2 p (by
    rcases List.mem_append.mp hp with z | z
    · exact List.mem_append_left _ z
    · cases z)
  obtain ⟨oe, vs, oT, ts, he, hcl, hdd, hd, h1', hTe, hoT, hdT, h3, cn⟩ := F1
  have F2 : FlT h' e T1 cls dd (rawInt X.env.locals) := ⟨oe, vs, oT, ts, (sb.2 e eC).trans he, hcl, hdd, hd, h1', hTe, (sb.2 T1 T1C).trans hoT, hdT, h3, cn⟩
  unfold PySem.passOn
  refine wpAny_bind (wpAny_field (s := { s' with heap := h' }) ((sb.2 e eC).trans he) hd h1' ?_)
  rw [if_neg (show ¬ (Value.ref T1 == Value.none) = true from by simp)]
  refine wpAny_bind (flight_ok cenv.frame J2 hT1' F2 fun h3 I3 F3 => wpAny_throw ?_)
  exact hW.2 _ _ ⟨e, cls, dd, σ, H', rfl, I3, ⟨fe, .inr ⟨T1, _, hT1', F3⟩⟩, q⟩
def tLCX (nv : Nat) (fv : List Nat) (wi : TI) (g : TG) (tc : TT) (W : XW) (te : XK → TE) : TE := fun σ H Q => wi σ H fun J H1 => lcGoal J Q g tc (te fun c d H' => W c d σ H') (lcσ nv fv σ) H1
theorem pe_lcX {W : XW} {wi : TI} {g : TG} {tc : TT} {te : XK → TE} (hW : Wants X W) (hc : X.calm = true) (L : LcOk X scope cl) (fo : FvOk X scope cl frees fv) (hit : PI X target iter wi) (hk : GKeep vars.length g)
    (hg : ∀ C s H ex, PG (blk X (vars ++ frees) scope cl C s H ex) target g) (hi : ∀ C s H ex, PIfs (blk X (vars ++ frees) scope cl C s H ex) ifs tc)
    (he : ∀ (σ : St) (EK : XK) C s1 H1 ex, (∀ pins' σ' H' s', Inv (blk X (vars ++ frees) scope cl C s1 H1 ex) pins' σ' H' s' → Inv X [] σ H' s') → PE ((blk X (vars ++ frees) scope cl C s1 H1 ex).wish (XC X σ EK C)) elt (te EK))
    (hs : ∀ x, foldedSetIterable iter X.env x = pure x := by intro _; rfl) : PE X (.ListComp elt [⟨target, iter, ifs, 0⟩] scope pos) (tLCX vars.length fv wi g tc W te) := by
  intro pins s σ H Q I h
  rw [eval_ListComp]
  refine wpAny_comprehension_free (use := none) rfl hs L.clos L.kind L.names (thn (hit pins s σ H _ I h) fun v s1 h1 => thn h1 fun itv s2 h2 => ?_)
  obtain ⟨it, fp, tn, J, H2, e, I2, T, st2, f2, M, ⟨m0, w0⟩, turn⟩ := h2
  subst e
  refine wpAny_mono (lc_coreX (E := X.xe) (EK := fun c d H' => W c d σ H') (E2 := fun acc C x s' => compPost (model X.prog X.w) X.A X.xe none (EP X pins σ Q) acc C (.error x) s') hc L fo hk hg hi (he σ _) (fun acc C ev s' hC z => xc_out hW hc I2 hC z) I2 T st2 f2 w0 turn) (fun acc s3 h3 => thn h3 fun cenv s4 h4 => codeAny_mono h4 fun r s' h5 => ?_) fun _ _ z => z
  cases r with
  | error x => exact h5
  | ok f =>
    obtain ⟨D, rfl, ys, H', oC, m, J1, hn, fC, q⟩ := h5
    refine ⟨m, hn, fun h' sb => ⟨.ref D, _, ?_, rfl, q⟩⟩
    exact J1.unpinned.turned (t' := s'.toks) (it := cenv.locals) (fun b o hb e => (sb.2 b hb).trans e) fC.1 fC.2.1 fC.2.2.2.1 fC.2.2.2.2.1 fC.2.2.2.2.2
theorem ps_setLCX {W : XW} {wi : TI} {g : TG} {tc : TT} {te : XK → TE} {i : Nat} {x : Str} {spos pos' : Pos} (hW : Wants X W) (hN : X.N.Nodup) (hix : X.N[i]? = some x) (hlx : Loc X.env.scope x) (hc : X.calm = true) (L : LcOk X scope cl) (fo : FvOk X scope cl frees fv) (hit : PI X target iter wi) (hk : GKeep vars.length g)
    (hg : ∀ C s H ex, PG (blk X (vars ++ frees) scope cl C s H ex) target g) (hi : ∀ C s H ex, PIfs (blk X (vars ++ frees) scope cl C s H ex) ifs tc) (he : ∀ (σ : St) (EK : XK) C s1 H1 ex, (∀ pins' σ' H' s', Inv (blk X (vars ++ frees) scope cl C s1 H1 ex) pins' σ' H' s' → Inv X [] σ H' s') → PE ((blk X (vars ++ frees) scope cl C s1 H1 ex).wish (XC X σ EK C)) elt (te EK))
    (hsw : swapsWith (.ListComp elt [⟨target, iter, ifs, 0⟩] scope pos) (some (.Name x pos')) spos.line X.env = pure true := by rfl)
    (hs : ∀ x, foldedSetIterable iter X.env x = pure x := by intro _; rfl) (hf : X.fn x = true ∨ X.env.scope.names.lookup x = some .local := by first | exact .inl rfl | exact .inr rfl | assumption) :
    PS X (.Assign [.Name x pos'] (.ListComp elt [⟨target, iter, ifs, 0⟩] scope pos) spos) (tAsg (tLCX vars.length fv wi g tc W te) (gName i)) := by
  intro pins s σ H Dn I h
  rw [exec_Assign_Name_used _ _ _ _ hsw]
  refine wpAny_bind (wpAny_standAt (wpAny_bind ?_))
  show wpAny _ X.A (do let _ ← comprehension (.ListComp elt [⟨target, iter, ifs, 0⟩] scope pos) scope X.env _ (newList []) false (eval iter X.env) (some (assign (.Name x pos') X.env))) _ _ s
  refine wpAny_bind (wpAny_mono (wpAny_comprehension_free (use := some (assign (.Name x pos') X.env)) (Q := fun _ s' => SP X pins Dn .next s') rfl hs L.clos L.kind L.names (thn (hit pins s σ H _ I h) fun v s1 h1 => thn h1 fun itv s2 h2 => ?_)) (fun _ s' hq => wpAny_pure (wpAny_pure hq)) fun _ _ e => e)
  obtain ⟨it, fp, tn, J, H2, e, I2, T, st2, f2, M, ⟨m0, w0⟩, turn⟩ := h2
  subst e
  refine wpAny_mono (lc_coreX (Q := fun x H1 => gName i x σ H1 Dn.nx) (E := X.xe) (EK := fun c d H' => W c d σ H') (E2 := fun acc C y s' => compPost (model X.prog X.w) X.A X.xe (some (assign (.Name x pos') X.env)) (fun _ s' => SP X pins Dn .next s') acc C (.error y) s') hc L fo hk hg hi (he σ _) (fun acc C ev s' hC z => xc_out hW hc I2 hC z) I2 T st2 f2 w0 turn) (fun acc s3 h3 => thn h3 fun cenv s4 h4 => codeAny_mono h4 fun r s' h5 => ?_) fun _ _ z => z
  cases r with
  | error y => exact h5
  | ok f =>
    obtain ⟨D, rfl, ys, H', oC, m, J1, hn, fC, q⟩ := h5
    show wpAny (model X.prog X.w) X.A (assign (.Name x pos') X.env (.ref D)) (fun _ s'' => ∃ m, s''.heap.Ns cenv.locals m ∧ ∀ h', Heap.SameBut cenv.locals s''.heap h' → SP X pins Dn .next { s'' with heap := h' }) X.xe s'
    refine thn (pg_name (i := i) hN hix hlx hf _ s' σ _ (.ref D) (.ref D) (fun σ' H'' => Dn.nx σ' H'' ∧ H'' = upd H' D (.lst ys)) J1 rfl ⟨q, rfl⟩) fun _ s6 hq__ => ?_
    obtain ⟨σ6, H6, I6, q6, e6⟩ := hq__
    subst e6
    have eC := (I6.pin (cenv.locals, oC) (by simp)).1
    have eC' := (J1.pin (cenv.locals, oC) (by simp)).1
    obtain ⟨o, es, ep, ho, r1⟩ := hn
    rw [eC'] at ho
    cases ho
    refine ⟨m, ⟨oC, es, ep, eC, r1⟩, fun h' sb => ⟨σ6, _, ?_, q6⟩⟩
    exact I6.unpinned.turned (t' := s6.toks) (it := cenv.locals) (fun b o hb e => (sb.2 b hb).trans e) fC.1 fC.2.1 fC.2.2.2.1 fC.2.2.2.2.1 fC.2.2.2.2.2
end
section
variable {X : Cx} {σ : St} {EK : XK} {C : Addr} {k : Nat} {x : Str} {ps : List Str} {ds : List Value} {dvs : List V} {sp : Sp} {e : Expr} {es : List Expr} {t : TA} {p pos : Pos} {Nc : List Str} {scope : Scope} {cl : List (Str × Addr)} {s0 : Shared} {H0 : Hp} {ex : List Addr}
theorem pe_fnB (hs : OnStk X) (ho : ∀ pins' σ' H' s', Inv (blk X Nc scope cl C s0 H0 ex) pins' σ' H' s' → Inv X [] σ H' s') (D : DefX X.prog X.w X.K X.mg X.base k x ps ds sp) (hr : Room k X.A) (hg : Gl ((blk X Nc scope cl C s0 H0 ex).wish (XC X σ EK C)) x) (hd : Vals dvs ds)
    (ha : PA ((blk X Nc scope cl C s0 H0 ex).wish (XC X σ EK C)) (e :: es) t) (hdb : (x == ("__debug__" : Str)) = false := by decide)
    (he : starEach (e :: es) (blk X Nc scope cl C s0 H0 ex).env = (false, eval e (blk X Nc scope cl C s0 H0 ex).env) :: starEach es (blk X Nc scope cl C s0 H0 ex).env := by rfl) (hpl : (backTo pos (starEach es (blk X Nc scope cl C s0 H0 ex).env)).any (·.1) = false := by rfl) :
    PE ((blk X Nc scope cl C s0 H0 ex).wish (XC X σ EK C)) (.Call (.Name x p) (e :: es) [] pos) (tCall sp dvs EK t) := by
  obtain ⟨f, fd, F, hm, hk, hb⟩ := D
  intro pins s σ' H Q I h
  refine wpAny_Call_Name_kw (ld_glob I hg hm ?_ hdb)
  refine PySem.W.callWith_K (h₀ := X.base) I.ok.mod.kin hk (thn (ha pos pins s σ' H _ I h) fun us s1 ⟨vs, H1, I1, r, q⟩ => ⟨I1.kIn, ?_⟩) he hpl
  have r2 : Vals (vs ++ dvs) (us ++ ds) := r.append hd
  have hl : (us ++ ds).length = ps.length := by rw [← r2.length]; exact F.len _ _ _ _ q
  refine wpAny_call (codeAny_mono (F.run X.A X.stack s1 H1 ⟨us, []⟩ (us ++ ds) (vs ++ dvs) Q _ hr I1.env0 (hb s1 us I1.kIn hl) r2 q) fun r s' hq => ?_)
  cases r with
  | error ev =>
    have IX := ho _ _ _ _ I1.unwish
    have JB : Inv (blk X Nc scope cl C s0 H0 ex) [] σ' H1 s1 := I1.unwish.pins_of (by simp)
    obtain ⟨e', T, cls, dd, H', rfl, os, bare, un, hok, Fl, he', hT, le, lT, qE⟩ := hq
    have JX : Inv X [] σ H' s' := by
      obtain ⟨hh, g, d, t0, os'⟩ := s'
      obtain rfl : os' = s1.os := os
      exact IX.call (h' := hh) (g' := g) (d' := d) (t' := t0) (ch := []) un hok bare (fun b z => absurd z (by simp))
    have JY : Inv (blk X Nc scope cl C s0 H0 ex) [] σ' H' s' := by
      obtain ⟨hh, g, d, t0, os'⟩ := s'
      obtain rfl : os' = s1.os := os
      exact JB.call (h' := hh) (g' := g) (d' := d) (t' := t0) (ch := []) un hok bare (fun b z => absurd z (by simp))
    obtain ⟨m1, ⟨o1, es1, ep1, ho1, _⟩, _⟩ := JB.loc
    obtain ⟨m2, hm2, _⟩ := JY.loc
    refine ⟨e', T, cls, dd, H', rfl, JX, IX.fpX hs le he', IX.fpX hs lT hT, Fl, qE, JY.free, ⟨m2, hm2⟩, fun z => ?_, fun z => ?_⟩
    · have z' : e' = (blk X Nc scope cl C s0 H0 ex).env.locals := z
      rw [← z', le] at ho1; cases ho1
    · have z' : T = (blk X Nc scope cl C s0 H0 ex).env.locals := z
      rw [← z', lT] at ho1; cases ho1
  | ok fl =>
    cases fl with
    | ret u => exact I1.after hq
    | next => exact False.elim hq
    | brk => exact False.elim hq
    | cont => exact False.elim hq
end
end L2
namespace L2
open PySem PySem.Spec PyProof.Rows
def cxU (CX : CXT) (P : Program) (w : World) (K : PySem.W.Frag) (mg : Str → Option Value) (base : Heap) (N : List Str) (qual : Str) (scope : Scope) (f : Addr) (cd : Value) (A : Around) (outer : List Env) (s : Shared) (H : Hp) (E : XK) : Cx :=
  { cxOf CX P w K mg base N qual scope f cd A outer s H E with calm := false }
structure RoomU (k : Nat) (A : Around) : Prop where
  dp : A.depth + 3 * k + 5 < recursionLimit
  un : A.units + 16 * k + 200 < cLine
theorem Room.markU {k : Nat} {A : Around} (r : Room k A) (h : Option Value) : RoomU k (A.mark h) := ⟨r.dp, r.un⟩
theorem RoomU.deeper {k : Nat} {A : Around} (r : RoomU (k + 1) A) (env : Env) : RoomU k (A.deeper env) :=
  ⟨by have := r.dp; show A.depth + 1 + 3 * k + 5 < _; omega, by have := r.un; show A.units + 3 + 16 * k + 200 < _; omega⟩
theorem RoomU.make {k : Nat} {A : Around} (r : RoomU (k + 1) A) (C : Addr) (us : List Value) (kw : List (Str × Value)) : RoomU k (A.under (.builtin "type.__call__" ⟨.ref C :: us, kw⟩)) :=
  ⟨by have := r.dp; rw [make_depth]; omega, by have := r.un; rw [make_units]; omega⟩
theorem RoomU.depth {k : Nat} {A : Around} (r : RoomU k A) : A.depth < recursionLimit := by have := r.dp; omega
structure FnOkU (P : Program) (w : World) (K : PySem.W.Frag) (mg : Str → Option Value) (base : Heap) (CX : CXT) (k : Nat) (f : Addr) (fd : FuncData) (ps : List Str) (sp : Sp) : Prop where
  len : ∀ vs H Q E, sp vs H Q E → vs.length = ps.length
  run : ∀ (A : Around) (outer : List Env) (s : Shared) (H : Hp) (args : Args) (us : List Value) (vs : List V) (Q : VK) (E : XK), RoomU k A → Env0 P w K mg base A outer s H → BindsTo s fd args (ps.zip us) → Vals vs us → sp vs H Q E →
    codeAny (model P w) A (.call (.ref f) args) (CR CX outer P w H s Q E) s
theorem inv_startU {CX : CXT} {P : Program} {w : World} {K : PySem.W.Frag} {mg : Str → Option Value} {base : Heap} {N ps : List Str} {qual : Str} {scope : Scope} {f : Addr} {cd : Value} {A : Around} {outer : List Env} {s s1 : Shared} {H : Hp} {E : XK} {us : List Value} {vs : List V}
    (S : FnScope N ps scope) (e0 : Env0 P w K mg base A outer s H) (hl : vs.length = ps.length) (r : Vals vs us)
    (x : InCallC s s.heap.objs.size (bindL (envOfC qual scope s.heap.objs.size f cd).kindOf (ps.zip us) fun _ => none) (cellsFrom (s.heap.objs.size + 1) scope.names []) (bindC (envOfC qual scope s.heap.objs.size f cd).kindOf (ps.zip us) fun _ => none) s1) :
    Inv (cxU CX P w K mg base N qual scope f cd A outer s H E) [] (start N vs) H s1 := by
  have hpl : ps.length ≤ N.length := by have := congrArg List.length S.pre; rw [List.length_take] at this; omega
  obtain ⟨h1, tk, rfl, hk⟩ := x.done
  have noA : ∀ b : Addr, b ∉ (cxU CX P w K mg base N qual scope f cd A outer s H E).ex := fun b z => absurd (show b ∈ ([] : List Addr) from z) (by simp)
  refine ⟨⟨e0.mod, S.kind, rfl, rfl, Nat.le_refl _, fun y z c h1 h2 => ?_, fun y hy => ?_, fun y c _ h => ?_, fun z => Bool.noConfusion z, Around.frames_deeper e0.frames, .inr ⟨rfl, rfl⟩, fun b z => absurd z (noA b), e0.bs, e0.bsz, fun b _ _ => noA b, fun b z => absurd z (noA b), e0.funs, e0.frf⟩,
    rfl, e0.bare, Un.kept hk, ⟨_, x.toInCall.ns, fun i y v h1 h2 h3 => ?_⟩, fun y c h => ⟨_, x.cell y c h⟩, e0.hok.fresh (Nat.le_refl _), fun y c h => ?_, fun p hp => absurd (show p ∈ ([] : List (Addr × Obj)) from hp) (by simp), e0.hok.kept hk, ?_⟩
  · exact name_of_addr x.apart (PySem.mem_of_lookup h1) (PySem.mem_of_lookup h2)
  · have hy : scope.names.lookup y = some .cell ∨ scope.names.lookup y = some .free := hy
    rcases hy with hy | hy
    · exact cell_has hy
    · exact absurd rfl (S.nofree _ (PySem.mem_of_lookup hy))
  · exact Nat.le_of_lt (x.above y c (PySem.mem_of_lookup h))
  · have hi : i < vs.length := by
      unfold start at h2
      by_cases hi : i < vs.length
      · exact hi
      · rw [List.getElem?_append_right (by simpa using hi)] at h2
        rw [List.getElem?_replicate] at h2
        split at h2 <;> cases h2
    have ha : vs[i]? = some v := by
      unfold start at h2
      rw [List.getElem?_append_left (by simpa using hi), List.getElem?_map] at h2
      cases e : vs[i]? with
      | none => rw [e] at h2; cases h2
      | some a => rw [e] at h2; cases h2; rfl
    obtain ⟨u, hu, rv⟩ := r.get ha
    have hp : ps[i]? = some y := by
      rw [← S.pre, List.getElem?_take_of_lt (by omega)]; exact h1
    have ndP : ps.Nodup := by rw [← S.pre]; exact S.nd.sublist (List.take_sublist _ _)
    refine ⟨u, rv, ?_⟩
    rcases S.par y (List.mem_of_getElem? hp) with k | k
    · exact .inl ⟨k, bindL_get ndP hp hu k⟩
    · obtain ⟨c, e⟩ := cell_has (n := s.heap.objs.size + 1) k
      refine .inr ⟨.inl k, c, e, ?_⟩
      have q := x.cell y c e
      rw [bindC_get ndP hp hu (by show scope.names.lookup y ≠ _; rw [k]; decide)] at q
      exact q
  · exact e0.hok.fresh (Nat.le_of_lt (x.above y c (PySem.mem_of_lookup h)))
  · unfold start
    show _ = N.length
    rw [List.length_append, List.length_map, List.length_replicate]
    omega
theorem fn_ofU {CX : CXT} {P : Program} {w : World} {K : PySem.W.Frag} {mg : Str → Option Value} {base : Heap} {k : Nat} {f : Addr} {name qual : Str} {params : Arguments} {body : List Stmt} {scope : Scope} {dV kV doc pm cdv ct oc : Value} {an od : Option Addr}
    {osl : Array (Option Value)} {N ps : List Str} {sp : Sp} (lk : K.lookup f = some ⟨oc, od, .func (PySem.W.fnOf name qual params body scope dV kV doc pm an cdv ct), osl⟩) (hcd : PySem.W.codeIn K cdv qual = true) (S : FnScope N ps scope)
    (len : ∀ vs H Q E, sp vs H Q E → vs.length = ps.length)
    (hbody : ∀ (A : Around) (outer : List Env) (s : Shared) (H : Hp) (vs : List V) (Q : VK) (E : XK), RoomU k (A.deeper (envOfC qual scope s.heap.objs.size f cdv)) → sp vs H Q E →
      ∃ t, PSs (cxU CX P w K mg base N qual scope f cdv A outer s H E) body t ∧ t { nx := fun _ H' => Q .non H', rt := Q } (start N vs) H) :
    FnOkU P w K mg base CX (k + 1) f (PySem.W.fnOf name qual params body scope dV kV doc pm an cdv ct) ps sp := by
  refine ⟨len, fun A outer s H args us vs Q E hr e0 hb r hsp => ?_⟩
  have hl := len _ _ _ _ hsp
  have KX : K.In s.heap := e0.mod.kin.keeps fun b o e => (e0.bs b o e).1
  have lim : s.heap.NoLimit := e0.mod.nolimit.keeps fun b o e => (e0.bs b o e).1
  have hkind : ∀ y ∈ ps.zip us, scope.names.lookup y.1 = some .local ∨ (scope.names.lookup y.1 = some .cell ∧ ((cellsFrom (s.heap.objs.size + 1) scope.names []).lookup y.1).isSome = true) := fun ⟨n, v⟩ hy => by
    rcases S.par n (List.of_mem_zip hy).1 with q | q
    · exact .inl q
    · exact .inr ⟨q, PySem.W.cellsFrom_some _ _ _ (.inl q)⟩
  refine codeAny_call_function hr.depth (KX _ _ lk) rfl S.co S.gen rfl (PySem.W.codeRec_of KX hcd) (hb _ _ _ _ ?_)
  refine wpAny_newFunctionEnv_cells S.kind hkind fun env he s1 x => ?_
  subst he
  refine ⟨lim.keeps x.toInCall.keep, codeAny_func ?_⟩
  obtain ⟨t, ht, hq⟩ := hbody A outer s H vs Q E (hr.deeper _) hsp
  have I : Inv (cxU CX P w K mg base N qual scope f cdv A outer s H E) [] (start N vs) H s1 := inv_startU S e0 hl r x
  refine wpAny_mono (ht [] s1 (start N vs) H _ I hq) (fun fl s' hs => ?_) fun e s' hs => hs
  have fin : ∀ {σ' : St} {H' : Hp} {v : V} {u : Value}, Inv (cxU CX P w K mg base N qual scope f cdv A outer s H E) [] σ' H' s' → RelV v u → Q v H' → CE outer P w H s Q u s' :=
    fun {σ' H' v u} J rv q => ⟨v, H', J.os, J.bare, J.base, J.hok, rv, q⟩
  cases fl with
  | ret u =>
    obtain ⟨v, σ', H', J, rv, q⟩ := hs
    exact fin J rv q
  | next =>
    obtain ⟨σ', H', J, q⟩ := hs
    exact fin (v := V.non) (u := Value.none) J rfl q
  | brk =>
    obtain ⟨_, _, _, q⟩ := hs
    exact False.elim q
  | cont =>
    obtain ⟨_, _, _, q⟩ := hs
    exact False.elim q
section
variable {P : Program} {w : World} {K : PySem.W.Frag} {mg : Str → Option Value} {base : Heap}
theorem Fun.okU {x qual : Str} {st : Stmt} {f : Addr} {fd : FuncData} {N ps : List Str} {k : Nat} {sp : Sp} (F : Fun K x qual st f fd) (S : FnScope N ps (defScope st)) (len : ∀ vs H Q E, sp vs H Q E → vs.length = ps.length)
    (hbody : ∀ (cdv : Value) (A : Around) (outer : List Env) (s : Shared) (H : Hp) (vs : List V) (Q : VK) (E : XK), RoomU k (A.deeper (envOfC qual (defScope st) s.heap.objs.size f cdv)) → sp vs H Q E →
      ∃ t, PSs (cxU CX0 P w K mg base N qual (defScope st) f cdv A outer s H E).nox (defBody st) t ∧ t { nx := fun _ H' => Q .non H', rt := Q } (start N vs) H) : FnOkU P w K mg base CX0 (k + 1) f fd ps sp := by
  obtain ⟨oc, od, kV, doc, pm, an, cdv, ct, osl, rfl, lk, hcd⟩ := F.ex
  refine fn_ofU lk hcd S len fun A outer s H vs Q E hr hsp => ?_
  obtain ⟨t, h, q⟩ := hbody cdv A outer s H vs Q E hr hsp
  exact ⟨t, h.nox, q⟩
end
structure XcOkU (P : Program) (w : World) (K : PySem.W.Frag) (mg : Str → Option Value) (base : Heap) (C : Addr) (k : Nat) (x : Str) (ps : List Str) (fld : Str) : Prop where
  ex : ∃ f fd, FnOkU P w K mg base CX0 k f fd ps (sp_xinit C fld) ∧ mg x = some (.ref C) ∧ ExcI K C f fld ∧ Binds K fd ps []
def rTupO (K : PySem.W.Frag) (xs : List V) (H : Hp) (Q : VK) : Prop := ∃ p ys, xs = [.ref p] ∧ ((SqL K H p ys ∧ ∀ l, H l = none → Q (.ref l) (upd H l (.tup ys))) ∨ (SqT K H p ys ∧ Q (.ref p) H))
theorem call_tupO {X : Cx} {K : PySem.W.Frag} (hK : X.K = K) : CallR X (.type "tuple") (rTupO K) := by subst hK; exact call_tuple_of
theorem pe_bmK {X : Cx} {K : PySem.W.Frag} {o e : Expr} {es : List Expr} {to : TE} {t : TA} {name : Str} {apos cpos : Pos} {T id : String} {r : V → List V → Hp → VK → Prop} (hK : X.K = K) (pa : PlainAttrs T) (slot : Slot T name id) (hty : typeOf (.builtin id) = pure (.type "method_descriptor")) (hm : MtR X id r) (ho : PE X o to) (ha : PA X (e :: es) t)
    (hbase : attributeBase o name X.env (eval o X.env) = eval o X.env := by rfl)
    (hfew : ((backTo cpos (starEach (e :: es) X.env)).all (fun x => !x.1) && (backToKw cpos (keywordEach [] X.env)).all (fun x => x.1.isSome)
      && decide ((e :: es).length + ([] : List Keyword).length + (if ([] : List Keyword).isEmpty then 0 else 1) < 30)) = true := by rfl)
    (hline : (apos.endLine == cpos.line) = true := by rfl) (hs : starEach (e :: es) X.env = (false, eval e X.env) :: starEach es X.env := by rfl) (hplain : (backTo cpos (starEach es X.env)).any (·.1) = false := by rfl) :
    PE X (.Call (.Attribute o name apos) (e :: es) [] cpos) (tBM K T r to t) := by
  subst hK
  exact pe_bm pa slot hty hm ho ha hbase hfew hline hs hplain
end L2
namespace L2
open PySem PySem.Spec PyProof.Rows
theorem entry_unchain : entryFor table "proto.unchain" = some Builtin.«proto.unchain» := entryFor_of_tree (by kernel_rfl)
inductive Chx (h : Heap) (ex : Addr) : Value → Prop
  | nil : Chx h ex .none
  | cons {a : Addr} {o : Obj} {ws : Array Value} {c : Value} : a ≠ ex → h.get? a = some o → o.data = .fields ws → ws[2]? = some c → Chx h ex c → Chx h ex (.ref a)
theorem Chx.keep {h h' : Heap} {ex : Addr} {c : Value} (x : Chx h ex c) (k : ∀ b, b ≠ ex → h'.get? b = h.get? b) : Chx h' ex c := by
  induction x with
  | nil => exact .nil
  | cons ha h1 h2 h3 _ ih => exact .cons ha ((k _ ha).trans h1) h2 h3 ih
inductive Rch (h : Heap) : Value → Value → Prop
  | refl {x : Value} : Rch h x x
  | step {a : Addr} {o : Obj} {ws : Array Value} {c y : Value} : h.get? a = some o → o.data = .fields ws → ws[2]? = some c → Rch h c y → Rch h (.ref a) y
def Str1 (h : Heap) (x y : Value) : Prop := ∃ a o ws c, x = .ref a ∧ h.get? a = some o ∧ o.data = .fields ws ∧ ws[2]? = some c ∧ Rch h c y
theorem Rch.snoc {h : Heap} {x : Value} {a : Addr} {o : Obj} {ws : Array Value} {c : Value} (r : Rch h x (.ref a)) (h1 : h.get? a = some o) (h2 : o.data = .fields ws) (h3 : ws[2]? = some c) : Rch h x c := by
  generalize hy : Value.ref a = y at r
  induction r with
  | refl => subst hy; exact .step h1 h2 h3 .refl
  | step g1 g2 g3 _ ih => exact .step g1 g2 g3 (ih hy)
theorem Rch.strict {h : Heap} {x : Value} {a : Addr} {o : Obj} {ws : Array Value} {c : Value} (r : Rch h x (.ref a)) (h1 : h.get? a = some o) (h2 : o.data = .fields ws) (h3 : ws[2]? = some c) : Str1 h x c := by
  cases r with
  | refl => exact ⟨a, o, ws, c, rfl, h1, h2, h3, .refl⟩
  | step g1 g2 g3 r => exact ⟨_, _, _, _, rfl, g1, g2, g3, r.snoc h1 h2 h3⟩
theorem unchain_ok {prog : Program} {w : World} {A : Around} {R : Result → Shared → Prop} {s : Shared} {ex : Addr} (hR : R (.ok (.ret .none)) s) : ∀ {o : Value}, Chx s.heap ex o → o ≠ .none → ∀ (slow : Value) (tg : Bool), (if tg = true then Str1 s.heap slow o else Rch s.heap slow o) →
    codeAny (model prog w) A (.builtin "proto.unchain" ⟨[.ref ex, o, slow, .bool tg], []⟩) R s := by
  intro o ch
  induction ch with
  | nil => intro h; exact absurd rfl h
  | @cons a ob ws c ha h1 h2 h3 ch ih =>
    intro _ slow tg hs
    refine codeAny_builtin entry_unchain ?_
    show wpAny _ _ (field (.ref a) 2 >>= _) _ _ s
    refine wpAny_bind (wpAny_field h1 h2 h3 ?_)
    cases ch with
    | nil => exact wpAny_pure hR
    | @cons a2 ob2 ws2 c2 hb g1 g2 g3 ch2 =>
      have e1 : (Value.ref a2 == Value.none) = false := by simp
      have e2 : (Value.ref a2 == Value.ref ex) = false := by simpa using hb
      simp only [e1, e2]
      by_cases z : (Value.ref a2 == slow) = true
      · simp only [z]
        exact wpAny_bind (wpAny_rule (wpAny_pure hR))
      · have z' : (Value.ref a2 == slow) = false := by simpa using z
        simp only [z']
        cases tg with
        | false =>
          have hs : Rch s.heap slow (.ref a) := hs
          have st := hs.strict h1 h2 h3
          refine wpAny_bind (wpAny_pure (wpAny_pure ⟨plainId_quiet (by decide +kernel) _, ?_⟩))
          exact ih (by simp) slow true st
        | true =>
          have hs : Str1 s.heap slow (.ref a) := hs
          obtain ⟨b, ob', wb, cb, rfl, k1, k2, k3, r⟩ := hs
          refine wpAny_bind (wpAny_field k1 k2 k3 (wpAny_pure ⟨plainId_quiet (by decide +kernel) _, ?_⟩))
          exact ih (by simp) cb false (r.snoc h1 h2 h3)
theorem raiseNew_some {α : Type} {prog : Program} {w : World} {A : Around} {E : Value → Shared → Prop} {s : Shared} {ex e0 : Addr} {oe : Obj} {vs : Array Value} {Q : α → Shared → Prop} (hh : A.handled = some (.ref e0)) (ne : e0 ≠ ex) (ch : Chx s.heap ex (.ref e0)) (he : s.heap.get? ex = some oe) (hd : oe.data = .fields vs) (hz : vs.size = 6)
    (hE : E (.ref ex) { s with heap := s.heap.update ex (Obj.mapFields (·.setIfInBounds 2 (.ref e0))) }) : wpAny (model prog w) A (raiseNew (.ref ex) : Sem α) Q E s := by
  unfold raiseNew
  refine wpAny_bind (wpAny_handled ?_)
  rw [hh]
  have e1 : (Value.ref e0 != Value.ref ex) = true := by simpa using ne
  dsimp only
  rw [if_pos e1]
  refine wpAny_bind (wpAny_holding (wpAny_runValue (unchain_ok ?_ ch (by simp) (.ref e0) false .refl)))
  refine wpAny_bind (wpAny_setField (s := s) he hd (by omega) (wpAny_throw hE))
theorem raise_madeF {prog : Program} {w : World} {A : Around} {E : Value → Shared → Prop} {s : Shared} {env : Env} {y c : Sem Value} {newId : String} {Q : Flow → Shared → Prop} {nm q : Str} {C N e0 : Addr} {bs bm : List Value} {hdct : Bool} {sn : List Str} {sub : List Value} {ab : Bool} {col : Option Bool} {dd : Option Addr} {k0 k1 k2 k3 k5 : Option Value}
    (hbase : bm.contains (.type "BaseException") = true) (hh : A.handled = some (.ref e0)) (hcn : ∀ (s1 : Shared) (Q1 : Value → Shared → Prop) (E1 : Value → Shared → Prop), Q1 .none s1 → wpAny (model prog w) A c Q1 E1 s1)
    (h : wpAny (model prog w) A y (fun v s₁ => ∃ e dx vs sl, v = .ref e ∧ s₁.heap.get? C = some (excClassObj nm q C N bs bm hdct sn sub ab col dd k0 k1 k2 k3 k5 newId) ∧
      s₁.heap.get? e = some ⟨.ref C, dx, .fields vs, sl⟩ ∧ vs[1]? = some .none ∧ vs.size = 6 ∧ C ≠ e ∧ e0 ≠ e ∧ Chx s₁.heap e (.ref e0) ∧
      ∀ h', (∀ b, b ≠ e → h'.get? b = s₁.heap.get? b) → h'.get? e = some ⟨.ref C, dx, .fields (((vs.setIfInBounds 3 .none).setIfInBounds 4 (.bool true)).setIfInBounds 2 (.ref e0)), sl⟩ → E (.ref e) { s₁ with heap := h' }) E s) : wpAny (model prog w) A (raiseStmt env (some y) (some c)) Q E s := by
  have hcB : (Value.ref C :: bm).contains (.type "BaseException") = true := by rw [List.contains_cons, hbase, Bool.or_true]
  unfold raiseStmt
  refine wpAny_bind (wpAny_mono h (fun v s₁ h₁ => ?_) fun _ _ x => x)
  obtain ⟨e, dx, vs, sl, rfl, hC, he, h1, hz, nC, n0, ch, hE⟩ := h₁
  refine wpAny_bind (wpAny_holding (hcn _ _ _ (wpAny_bind (wpAny_pure ?_))))
  obtain ⟨hp, g, d, tk, os⟩ := s₁
  have he3 := Heap.get?_update_self (Obj.mapFields (·.setIfInBounds 3 Value.none)) he (by rfl)
  have hC3 := (Heap.get?_update_other hp (Obj.mapFields (·.setIfInBounds 3 Value.none)) (Ne.symm nC)).trans hC
  have he4 := Heap.get?_update_self (Obj.mapFields (·.setIfInBounds 4 (Value.bool true))) he3 (by rfl)
  have hC4 := (Heap.get?_update_other _ (Obj.mapFields (·.setIfInBounds 4 (Value.bool true))) (Ne.symm nC)).trans hC3
  repeat (first | with_reducible refine wpAny_field he rfl h1 ?_ | with_reducible refine wpAny_loadPart_at he ?_ | with_reducible refine wpAny_loadPart_at hC ?_ | (with_reducible refine wpAny_isSubtype_exc hC ?_; rw [hcB]) | (with_reducible refine wpAny_setField he rfl (by rw [hz]; decide) ?_) | wp_step)
  have v1 : ((vs.setIfInBounds 3 Value.none).setIfInBounds 4 (Value.bool true))[1]? = some .none := by
    rw [Array.getElem?_setIfInBounds_ne (by decide), Array.getElem?_setIfInBounds_ne (by decide)]; exact h1
  have hb : ∀ b, b ≠ e → ((hp.update e (Obj.mapFields (·.setIfInBounds 3 Value.none))).update e (Obj.mapFields (·.setIfInBounds 4 (Value.bool true)))).get? b = hp.get? b := fun b hb =>
    (Heap.get?_update_other _ _ (Ne.symm hb)).trans (Heap.get?_update_other _ _ (Ne.symm hb))
  dsimp only
  rw [v1]
  refine wpAny_pure ?_
  rw [if_neg (by decide)]
  refine wpAny_pure ?_
  refine raiseNew_some hh n0 (ch.keep hb) he4 rfl (by simp [hz]) ?_
  refine hE _ (fun b z => (Heap.get?_update_other _ _ (Ne.symm z)).trans (hb b z)) ?_
  exact Heap.get?_update_self _ he4 (by rfl)
end L2
namespace L2
open PySem PySem.Spec PyProof.Rows
theorem passes_at {X : Cx} {W : XW} {A' : Around} {ev : Value} {s : Shared} (hW : Wants X W) (h : XE X W ev s) (hA : A'.frames = some X.stack) : notedBy (model X.prog X.w) A' X.env (cameBackBy (model X.prog X.w) X.A X.env X.xe) ev s := by
  obtain ⟨e, cls, dd, σ, H, rfl, I, F, hw⟩ := h
  refine note_ok hW.1 hA I F fun h1 T I1 hT F1 => ?_
  unfold cameBackBy
  obtain ⟨oe, vs, oT, ts, he, hc, hdd, hd, h1', hTe, hoT, hdT, h3, _⟩ := id F1
  refine wpAny_bind (wpAny_field he hd h1' ?_)
  rw [if_neg (show ¬ (Value.ref T == Value.none) = true from by simp)]
  exact flight_ok _ I1 hT F1 fun h2 I2 F2 => hW.2 _ _ ⟨e, cls, dd, σ, H, rfl, I2, ⟨F.1, .inr ⟨T, _, hT, F2⟩⟩, hw⟩
def sTry0F (K : PySem.W.Frag) (C : Addr) (tb : XW → TS) (W : XW) (C2 : Addr) (fld : Str) (t : TA) : TS := fun D σ H => tb (fun cls d σ H => Hits K C cls ∧ d = none ∧ tRaiseI W C2 fld t D σ H) D σ H
theorem ps_try0F {X : Cx} {W : XW} {C C2 : Addr} {k j : Nat} {x y fld : Str} {ps : List Str} {np np2 p3 cpos rpos hpos pos : Pos} {body : List Stmt} {rest : List ExceptHandler} {e : Expr} {es : List Expr} {t : TA} {tb : XW → TS} (hW : Wants X W)
    (hg : Gl X x) (hm : X.mg x = some (.ref C)) (hC : PySem.W.ktsIn X.K C "BaseException" = true) (D : XcOkU X.prog X.w X.K X.mg X.base C2 k y ps fld) (hr : ∀ e0, RoomU (k + 1) (X.A.mark (some (.ref e0)))) (hg2 : Gl X y)
    (hb : ∀ pn W, PSs ((pnd X pn).wish (XE (pnd X pn) W)) body (tb W)) (ha : ∀ pn e0, PA (hnd (pnd X pn) e0) (e :: es) t) (hdb : (x == ("__debug__" : Str)) = false := by decide) (hdb2 : (y == ("__debug__" : Str)) = false := by decide)
    (he : starEach (e :: es) X.env = (false, eval e X.env) :: starEach es X.env := by rfl) (hpl : (backTo cpos (starEach es X.env)).any (·.1) = false := by rfl) :
    PS X (.Try body (.ExceptHandler (some (.Name x np)) none [.Raise (some (.Call (.Name y np2) (e :: es) [] cpos)) (some (.Constant .none j p3)) rpos] hpos :: rest) [] [] pos) (sTry0F X.K C tb W C2 fld t) := by
  intro pins s σ H D' I h
  have hs : OnStk X := hW.1
  have I0 : Inv (pnd X (X.pn ++ pins)) [] σ H s := I.pnd
  refine wpAny_Try_except (wpAny_mono (hb (X.pn ++ pins) _ [] s σ H D' (I0.wish _) h) (fun f s1 q => ?_) fun ev s1 q => ?_)
  · cases f with
    | next => exact wpAny_execs_nil q.unpnd
    | brk => exact q.unpnd
    | cont => exact q.unpnd
    | ret u => exact q.unpnd
  · obtain ⟨e0, cls, dd, σ1, H1, rfl, I1, F1, ⟨DC, rfl, hD, hDC⟩, rfl, w1⟩ := q
    have hs' : OnStk (pnd X (X.pn ++ pins)) := hs
    refine note_ok (X := pnd X (X.pn ++ pins)) hs' I1.ok.frames I1 F1 fun h2 T I2 hT F2 => ?_
    refine flight_ok none I2 hT F2 fun h3 I3 F3 => ?_
    obtain ⟨oe, vs, oT, ts, he0, hc, _⟩ := id F3
    refine wpAny_handleBy_cons (codeAny_handlers_test (ld_glob (X := hnd (pnd X (X.pn ++ pins)) e0) (I3.hnd e0) hg hm ?_ hdb)) (by intro q; cases q)
    refine excMatches_own (s := { s1 with heap := h3 }) I3.kIn he0 hc hC hD hDC (codeAny_handlers_suite ?_)
    refine flight_ok none I3 hT F3 fun h4 I4 F4 => ?_
    obtain ⟨oe, vs, oT, ts, he0, hc, hdd, hd, v1, hTe, hoT, hdT, h3, cn⟩ := F4
    have c0 : vs[2]? = some .none := cn.elim id fun z => absurd rfl z
    have fe := F1.1
    have IP : Inv (hnd (pnd X ((X.pn ++ pins) ++ [(e0, oe)])) e0) [] σ1 H1 { s1 with heap := h4 } := by
      refine Inv.hnd ?_ e0
      refine Inv.pnd (X := pnd X (X.pn ++ pins)) (pins := [(e0, oe)]) (I4.pins_of fun p hp => ?_)
      have z : p = (e0, oe) := by simpa using hp
      subst z
      exact ⟨he0, fe.1, fe.2.1, fe.2.2.1, fun v z => by rw [hd] at z; cases z⟩
    obtain ⟨f, fd, F, hm2, hE, hbn⟩ := D.ex
    obtain ⟨bm, N, nm, qn, bs, sn, sub, ab, col, dd2, k0, k1, k2, k3, k5, mN, hC2, hN, hi, hTy⟩ := (exc_atI IP.ok.mod.kin hE.e).e
    show wpAny _ (X.A.mark (some (.ref e0))) (execs [.Raise (some (.Call (.Name y np2) (e :: es) [] cpos)) (some (.Constant .none j p3)) rpos] X.env) _ _ _
    refine wpAny_execs_cons ?_
    rw [arm_exec_Raise]
    have hplain : (backTo cpos (starEach (e :: es) X.env)).any (·.1) = false := by rw [he]; show (false || (backTo cpos (starEach es X.env)).any (·.1)) = false; rw [hpl]; rfl
    have hsY : OnStk (hnd (pnd X ((X.pn ++ pins) ++ [(e0, oe)])) e0) := hs
    have back : ∀ {H' : Hp} {s' : Shared}, Inv (hnd (pnd X ((X.pn ++ pins) ++ [(e0, oe)])) e0) [] σ1 H' s' → Inv X [] σ1 H' s' := fun {H' s'} J => by
      have J1 : Inv (pnd X ((X.pn ++ pins) ++ [(e0, oe)])) [] σ1 H' s' := Inv.unhnd I.ok.hd J
      have J2 : Inv (pnd X (X.pn ++ pins)) [(e0, oe)] σ1 H' s' := Inv.unpnd (X := pnd X (X.pn ++ pins)) (pins := [(e0, oe)]) J1
      have J3 : Inv (pnd X (X.pn ++ pins)) [] σ1 H' s' := J2.pins_of (by simp)
      exact (Inv.unpnd (X := X) (pins := pins) J3).pins_of (by simp)
    have main : wpAny (model X.prog X.w) (X.A.mark (some (.ref e0))) (eval (.Call (.Name y np2) (e :: es) [] cpos) X.env) (fun v s₁ => ∃ ex dx vs sl, v = .ref ex ∧ s₁.heap.get? C2 = some (excClassObj nm qn C2 N bs bm true sn sub ab col dd2 k0 k1 k2 k3 k5 "ValueError.__new__") ∧
        s₁.heap.get? ex = some ⟨.ref C2, dx, .fields vs, sl⟩ ∧ vs[1]? = some .none ∧ vs.size = 6 ∧ C2 ≠ ex ∧ e0 ≠ ex ∧ Chx s₁.heap ex (.ref e0) ∧
        ∀ h', (∀ b, b ≠ ex → h'.get? b = s₁.heap.get? b) → h'.get? ex = some ⟨.ref C2, dx, .fields (((vs.setIfInBounds 3 .none).setIfInBounds 4 (.bool true)).setIfInBounds 2 (.ref e0)), sl⟩ → XE X W (.ref ex) { s₁ with heap := h' }) (fun _ _ => False) { s1 with heap := h4 } := by
      refine wpAny_Call_ofName (ld_glob (X := hnd (pnd X ((X.pn ++ pins) ++ [(e0, oe)])) e0) IP hg2 hm2 ?_ hdb2)
      unfold callWith
      have h2' := ha ((X.pn ++ pins) ++ [(e0, oe)]) e0 cpos [] { s1 with heap := h4 } σ1 H1 _ IP w1
      rw [show (hnd (pnd X ((X.pn ++ pins) ++ [(e0, oe)])) e0).env = X.env from rfl, he] at h2'
      rw [he]
      refine wpAny_bind (wpAny_holding (Calls.evalArgs_plain (thn h2' fun us s1 hq => wpAny_bind (wpAny_standAt ?_))))
      obtain ⟨vs, H1, J, r, v, ev, q⟩ := hq
      subst ev
      obtain ⟨u, rfl, ru⟩ := vals1 r
      rw [← he]
      simp only [hplain]
      have hC1 := J.bk _ _ hC2
      refine wpAny_bind (wpAny_keeperOf_exc hC1 ?_)
      obtain ⟨oI, hfI, hfc⟩ : ∃ oI, s1.heap.get? f = some oI ∧ oI.cls = .type "function" := fn_at J.kIn hE.fn
      obtain ⟨hh, g, d, tk, os⟩ := s1
      refine wpAny_bind (call_excI (hTy.keeps J.bk) hC1 (ns_bk J.bk hN) hi hfI hfc (fun h' hk hx => ?_) (by show 1 ≤ sizeLine; rw [sizeLine_eq]; omega))
      have hfree : H1 (hh.objs.size + 1) = none := J.hok.fresh (Nat.le_succ _)
      have J2 := J.laid (a := hh.objs.size + 1) (o := excN (hh.objs.size + 1) (.ref C2) none) (h' := h') (t' := tk) hk (Nat.le_succ _) (excN_ok hx rfl rfl rfl rfl rfl)
      have r2 : Vals [V.ref (hh.objs.size + 1), v] [Value.ref (hh.objs.size + 1), u] := .cons rfl (.cons ru .nil)
      have hsp : sp_xinit C2 fld [V.ref (hh.objs.size + 1), v] (upd H1 (hh.objs.size + 1) (excN (hh.objs.size + 1) (.ref C2) none)) (fun w' H3 => w' = .non ∧ ∃ dx, H3 (hh.objs.size + 1) = some (excN (hh.objs.size + 1) (.ref C2) (some dx)) ∧ W (.ref C2) (some dx) σ1 (dropH H3 (hh.objs.size + 1))) (fun _ _ _ => False) := by
        refine ⟨_, v, rfl, upd_same, fun dx H3 f1 ne h3 h4 h5 => ⟨rfl, dx, h3, q dx _ ⟨fun b o e => ?_, ?_, by rw [drop_ne ne]; exact h4⟩⟩⟩
        · have hb : b ≠ hh.objs.size + 1 := ne_of_none e hfree
          rw [drop_ne hb]
          exact h5 b o (by rw [upd_ne hb]; exact e) hb
        · rw [upd_ne ne] at f1; exact f1
      have hl : [Value.ref (hh.objs.size + 1), u].length = ps.length := by rw [← r2.length]; exact F.len _ _ _ _ hsp
      refine wpAny_call (codeAny_mono (F.run _ X.stack _ _ ⟨[Value.ref (hh.objs.size + 1), u], []⟩ [Value.ref (hh.objs.size + 1), u] _ _ _ ((hr e0).make C2 [u] []) (J2.env0.make C2 [u] []) (hbn _ [Value.ref (hh.objs.size + 1), u] J2.kIn (by rw [List.append_nil]; exact hl)) r2 hsp) fun r s' hq' => ?_)
      cases r with
      | error e => exact False.elim hq'
      | ok fl =>
        cases fl with
        | ret u' =>
          obtain ⟨w', H3, I3, rv, ev, dx, h3, hw⟩ := J2.after hq'
          subst ev
          refine ⟨rv, wpAny_bind (wpAny_holding (wpAny_point (wpAny_pure ?_)))⟩
          obtain ⟨⟨ox, ws, g1, gc, gd, gf, g6, gv1⟩, _⟩ := (show ObjOk X.prog X.w H3 s'.heap _ (excN (hh.objs.size + 1) (.ref C2) (some dx)) from I3.hok _ _ h3)
          have I5 := I3.drop h3
          have nz : ∀ {b : Addr} {o : Obj}, hh.get? b = some o → b ≠ hh.objs.size + 1 := fun q z => by
            have := Heap.lt_size q
            rw [z] at this
            exact Nat.lt_irrefl _ (Nat.lt_trans (Nat.lt_succ_self _) this)
          have pe := I5.pin (e0, oe) (by show (e0, oe) ∈ ((X.pn ++ pins) ++ [(e0, oe)]) ++ ([] : List (Addr × Obj)); simp)
          have pj := J.pin (e0, oe) (by show (e0, oe) ∈ ((X.pn ++ pins) ++ [(e0, oe)]) ++ ([] : List (Addr × Obj)); simp)
          have fk := (back J).fpOk (b := hh.objs.size + 1) (H' := dropH H3 (hh.objs.size + 1)) (Nat.le_succ _) drop_at
          refine ⟨_, ox.dict, ws, ox.slots, rfl, I3.bk _ _ hC2, ?_, gv1, g6, nz hC1, nz pj.1, .cons (nz pj.1) pe.1 hd c0 .nil, fun hz hsame hnew => ?_⟩
          · rw [g1, ← gc, ← gf]
          · have K1 : Inv X [] σ1 (dropH H3 (hh.objs.size + 1)) { s' with heap := hz } := (back I5).turned (t' := s'.toks) (it := hh.objs.size + 1) (fun b o hb z => (hsame b hb).trans z) drop_at fk.2.1 fk.2.2.2.1 fk.2.2.2.2.1 fk.2.2.2.2.2
            refine ⟨_, .ref C2, some dx, σ1, _, rfl, K1, ⟨(back J).fpX hs (Heap.get?_none_of_le (Nat.le_succ _)) drop_at, .inl ⟨_, _, hnew, rfl, gd, rfl, ?_, .inr nofun⟩⟩, hw⟩
            rw [Array.getElem?_setIfInBounds_ne (by decide), Array.getElem?_setIfInBounds_ne (by decide), Array.getElem?_setIfInBounds_ne (by decide)]
            exact gv1
        | next => exact False.elim hq'
        | brk => exact False.elim hq'
        | cont => exact False.elim hq'
    refine wpAny_bind (wpAny_standAt (raise_madeF (hTy.hasType (by decide +kernel)) rfl (fun s2 Q2 E2 q2 => wpAny_bind (Constant_none (wpAny_bind (wpAny_standAt (wpAny_pure q2))))) (wpAny_bind (wpAny_mono main (fun v s₃ ⟨ex, dx, ws, sl, a1, a2, a3, a4, a5, a6, a7, a8, a9⟩ => wpAny_bind (wpAny_standAt (wpAny_pure ⟨ex, dx, ws, sl, a1, a2, a3, a4, a5, a6, a7, a8, fun h' b1 b2 => passes_at hW (a9 h' b1 b2) I.ok.frames⟩))) fun _ _ x => x.elim))))
end L2
namespace L2
open PySem PyProof.Rows
theorem runs_toks {M : Model} {Γ : Ctx} {p : Pos} {t : Sem Fin} {fs : List Frame} {s : Shared} {e : End} {s' : Shared} (h : Runs M Γ p t fs s e s') : s.toks ≤ s'.toks := by
  induction h with
  | fresh _ ih => exact Nat.le_trans (Nat.le_succ _) ih
  | call _ _ ih1 ih2 => exact Nat.le_trans ih1 ih2
  | resumeFresh _ _ _ _ ih1 ih2 => exact Nat.le_trans ih1 ih2
  | resumeSuspended _ _ _ _ ih1 ih2 => exact Nat.le_trans ih1 ih2
  | segRet _ _ ih1 ih2 => exact Nat.le_trans ih1 ih2
  | segGen _ _ ih1 ih2 => exact Nat.le_trans ih1 ih2
  | segSuspGen _ _ _ _ ih1 ih2 => exact Nat.le_trans ih1 ih2
  | _ => first | assumption | exact Nat.le_refl _
theorem wakes_toks {M : Model} {Γ : Ctx} {p : Pos} {g : Nat} {r : Resume} {s : Shared} {res : GenResult} {s' : Shared} (h : Wakes M Γ p g r s res s') : s.toks ≤ s'.toks := by
  unfold Wakes at h
  split at h
  · exact h.elim
  · split at h
    · obtain ⟨e, s1, hr, _, _, rfl⟩ := h; exact (runs_toks hr : (s.setGen g .running).toks ≤ s1.toks)
    · rw [h.2]; exact Nat.le_refl _
    · rw [h.2]; exact Nat.le_refl _
  · obtain ⟨e, s1, hr, _, _, rfl⟩ := h; exact (runs_toks hr : (s.setGen g .running).toks ≤ s1.toks)
  · rw [h.2]; exact Nat.le_refl _
  · rw [h.2]; exact Nat.le_refl _
theorem wp_toks {α : Type} {M : Model} {Γ : Ctx} {Q : α → Pos → Shared → Prop} {E : Value → Pos → Shared → Prop} (n : Nat) : ∀ (t : Sem α) (p : Pos) (s : Shared), n ≤ s.toks → Sem.wp M Γ t Q E p s → Sem.wp M Γ t (fun a p' s' => Q a p' s' ∧ n ≤ s'.toks) (fun e p' s' => E e p' s' ∧ n ≤ s'.toks) p s := by
  intro t
  induction t with
  | pure a => intro p s hn h; exact ⟨h, hn⟩
  | raise e => intro p s hn h; exact ⟨h, hn⟩
  | fresh k ih => intro p s hn h; exact ih _ p _ (Nat.le_succ_of_le hn) h
  | load a part k ih => intro p s hn h; obtain ⟨o, e, h⟩ := h; exact ⟨o, e, ih _ p s hn h⟩
  | update a part f k ih => intro p s hn h; exact ⟨h.1, ih _ p _ hn h.2⟩
  | choose src n k ih => intro p s hn h; exact ⟨h.1, ih _ p _ hn h.2⟩
  | call c hd g l k ih => intro p s hn h; obtain ⟨r, s', hr, h⟩ := h; exact ⟨r, s', hr, ih _ p s' (Nat.le_trans hn (runs_toks hr)) h⟩
  | genState g k ih => intro p s hn h; obtain ⟨st, e, h⟩ := h; exact ⟨st, e, ih _ p s hn h⟩
  | resume g r l k ih => intro p s hn h; obtain ⟨res, s', hr, h⟩ := h; exact ⟨res, s', hr, ih _ p s' (Nat.le_trans hn (wakes_toks hr)) h⟩
  | «at» p' k ih => intro p s hn h; exact ih _ p' s hn h
  | unsupported _ => intro p s hn h; exact h.elim
  | finish _ => intro p s hn h; exact h.elim
  | register _ _ => intro p s hn h; exact h.elim
  | yield _ _ _ _ => intro p s hn h; exact h.elim
  | fork _ _ => intro p s hn h; exact h.elim
  | await _ _ _ _ _ => intro p s hn h; exact h.elim
  | rule _ k ih => intro p s hn h; exact ih _ p s hn h
  | alloc o k ih => intro p s hn h; exact ih _ p _ hn h
  | loadIfAlive a k ih => intro p s hn h; exact ih _ p s hn h
  | point l k ih => intro p s hn h; exact ih _ p s hn h
  | ask k ih => intro p s hn h; exact ih _ p s hn h
  | os q l k ih => intro p s hn h; exact ih _ p _ hn h
  | handled own k ih => intro p s hn h; exact ih _ p s hn h
  | newGen c k ih => intro p s hn h; exact ih _ p _ hn h
  | stack k ih => intro p s hn h; exact ih _ p s hn h
  | thread k ih => intro p s hn h; exact ih _ p s hn h
theorem wpAny_toks {α : Type} {M : Model} {A : Around} {t : Sem α} {Q : α → Shared → Prop} {E : Value → Shared → Prop} {s : Shared} {n : Nat} (hn : n ≤ s.toks) (h : wpAny M A t Q E s) : wpAny M A t (fun a s' => Q a s' ∧ n ≤ s'.toks) (fun e s' => E e s' ∧ n ≤ s'.toks) s := fun Γ p hΓ => wp_toks n t p s hn (h Γ p hΓ)
end L2
namespace L2
open PySem PySem.Spec PyProof.Rows
theorem up {α : Type} {M : Model} {A : Around} {t : Sem α} {Q : α → Shared → Prop} {E : Value → Shared → Prop} {s : Shared} (hn : 0 < s.toks) (h : wpAny M A t Q E s) : wpAny M A t (fun a s' => Q a s' ∧ 0 < s'.toks) E s :=
  wpAny_mono (wpAny_toks hn h) (fun _ _ z => z) fun _ _ z => z.1
def PEp (X : Cx) (e : Expr) (t : TE) : Prop := ∀ (pins : List (Addr × Obj)) (s : Shared) (σ : St) (H : Hp) (Q : VK), 0 < s.toks → Inv X pins σ H s → t σ H Q → wpAny (model X.prog X.w) X.A (eval e X.env) (EP X pins σ Q) X.xe s
def PEu (X : Cx) (e : Expr) (t : TE) : Prop := ∀ (pins : List (Addr × Obj)) (s : Shared) (σ : St) (H : Hp) (Q : VK), Inv X pins σ H s → t σ H Q → wpAny (model X.prog X.w) X.A (eval e X.env) (fun u s' => EP X pins σ Q u s' ∧ 0 < s'.toks) X.xe s
def PAp (X : Cx) (es : List Expr) (t : TA) : Prop := ∀ (pos : Pos) (pins : List (Addr × Obj)) (s : Shared) (σ : St) (H : Hp) (Q : List V → Hp → Prop), 0 < s.toks → Inv X pins σ H s → t σ H Q → wpAny (model X.prog X.w) X.A (spliced (backTo pos (starEach es X.env))) (AP X pins σ Q) X.xe s
def PAu (X : Cx) (es : List Expr) (t : TA) : Prop := ∀ (pos : Pos) (pins : List (Addr × Obj)) (s : Shared) (σ : St) (H : Hp) (Q : List V → Hp → Prop), Inv X pins σ H s → t σ H Q → wpAny (model X.prog X.w) X.A (spliced (backTo pos (starEach es X.env))) (fun us s' => AP X pins σ Q us s' ∧ 0 < s'.toks) X.xe s
def PSp (X : Cx) (st : Stmt) (t : TS) : Prop := ∀ (pins : List (Addr × Obj)) (s : Shared) (σ : St) (H : Hp) (D : Ends), 0 < s.toks → Inv X pins σ H s → t D σ H → wpAny (model X.prog X.w) X.A (exec st X.env) (SP X pins D) X.xe s
def PSu (X : Cx) (st : Stmt) (t : TS) : Prop := ∀ (pins : List (Addr × Obj)) (s : Shared) (σ : St) (H : Hp) (D : Ends), Inv X pins σ H s → t D σ H → wpAny (model X.prog X.w) X.A (exec st X.env) (fun f s' => SP X pins D f s' ∧ 0 < s'.toks) X.xe s
def PSsp (X : Cx) (st : List Stmt) (t : TS) : Prop := ∀ (pins : List (Addr × Obj)) (s : Shared) (σ : St) (H : Hp) (D : Ends), 0 < s.toks → Inv X pins σ H s → t D σ H → wpAny (model X.prog X.w) X.A (execs st X.env) (SP X pins D) X.xe s
section
variable {X : Cx} {e a b o : Expr} {es : List Expr} {te ta tb to : TE} {t : TA} {pos : Pos} {st : Stmt} {rest : List Stmt} {u1 u2 : TS}
theorem PE.p (h : PE X e te) : PEp X e te := fun pins s σ H Q _ I q => h pins s σ H Q I q
theorem PA.p (h : PA X es t) : PAp X es t := fun pos pins s σ H Q _ I q => h pos pins s σ H Q I q
theorem PS.p (h : PS X st u1) : PSp X st u1 := fun pins s σ H D _ I q => h pins s σ H D I q
theorem PSs.p (h : PSs X rest u1) : PSsp X rest u1 := fun pins s σ H D _ I q => h pins s σ H D I q
theorem pap_cons (ha : PEp X e te) (hr : PAp X es t) (hs : starEach (e :: es) X.env = (false, eval e X.env) :: starEach es X.env := by rfl) : PAp X (e :: es) (tCons te t) := by
  intro pos pins s σ H Q hn I h
  rw [hs]
  show wpAny _ _ (spliced ((false, eval e X.env) :: backTo pos (starEach es X.env))) _ _ s
  refine Calls.spliced_cons (thn (up hn (ha pins s σ H _ hn I h)) fun u s1 hq__ => ?_)
  obtain ⟨⟨x, H1, I1, r1, q1⟩, hn1⟩ := hq__
  exact thn (hr pos pins s1 σ H1 _ hn1 I1 q1) fun us s2 ⟨xs, H2, I2, r2, q2⟩ => ⟨x :: xs, H2, I2, .cons r1 r2, q2⟩
theorem pau_cons (ha : PEu X e te) (hr : PAp X es t) (hs : starEach (e :: es) X.env = (false, eval e X.env) :: starEach es X.env := by rfl) : PAu X (e :: es) (tCons te t) := by
  intro pos pins s σ H Q I h
  rw [hs]
  show wpAny _ _ (spliced ((false, eval e X.env) :: backTo pos (starEach es X.env))) _ _ s
  refine Calls.spliced_cons (thn (ha pins s σ H _ I h) fun u s1 hq__ => ?_)
  obtain ⟨⟨x, H1, I1, r1, q1⟩, hn1⟩ := hq__
  exact thn (up hn1 (hr pos pins s1 σ H1 _ hn1 I1 q1)) fun us s2 ⟨⟨xs, H2, I2, r2, q2⟩, hn2⟩ => ⟨⟨x :: xs, H2, I2, .cons r1 r2, q2⟩, hn2⟩
theorem peu_cat {r : R2} {c : Str} {k : Nat} {p2 : Pos} (ho : OpR X (binaryOp .Add) r) (ha : PE X a ta) : PEu X (.BinOp a .Add (.Constant (.str c) k p2) pos) (tOp r ta (tC (.str c))) := by
  intro pins s σ H Q I h
  refine wpAny_BinOp (thn (ha pins s σ H _ I h) fun v s1 hq__ => ?_)
  obtain ⟨x, H1, I1, r1, q1⟩ := hq__
  refine Calls.Constant_str ?_
  have I2 := I1.tok (s1.toks + 1)
  exact up (Nat.succ_pos _) (ho pins _ σ H1 x (.str c) v _ Q I2 r1 ⟨_, rfl⟩ q1)
theorem peu_lst (h : PAu X es t) : PEu X (.List es pos) (tLstN t) := by
  intro pins s σ H Q I hq
  refine wpAny_List_spliced (thn (h pos pins s σ H _ I hq) fun us s1 ⟨⟨xs, H1, I1, r, z, q⟩, hn⟩ => ⟨by rw [← r.length]; exact z, ?_⟩)
  have hf : H1 s1.heap.objs.size = none := I1.hok.fresh (Nat.le_refl _)
  refine ⟨⟨.ref s1.heap.objs.size, upd H1 s1.heap.objs.size (.lst xs), I1.laid (t' := s1.toks) (fun b u e => Heap.get?_push_of_some _ e) (Nat.le_refl _) ?_, rfl, q _ _ (new_upd hf)⟩, hn⟩
  exact ⟨z, us, 0, r, Heap.get?_push_size _ rfl⟩
theorem pep_lst (h : PAp X es t) : PEp X (.List es pos) (tLstN t) := by
  intro pins s σ H Q hn I hq
  refine wpAny_List_spliced (thn (h pos pins s σ H _ hn I hq) fun us s1 ⟨xs, H1, I1, r, z, q⟩ => ⟨by rw [← r.length]; exact z, ?_⟩)
  have hf : H1 s1.heap.objs.size = none := I1.hok.fresh (Nat.le_refl _)
  refine ⟨.ref s1.heap.objs.size, upd H1 s1.heap.objs.size (.lst xs), I1.laid (t' := s1.toks) (fun b u e => Heap.get?_push_of_some _ e) (Nat.le_refl _) ?_, rfl, q _ _ (new_upd hf)⟩
  exact ⟨z, us, 0, r, Heap.get?_push_size _ rfl⟩
theorem pep_op {op : Operator} {r : R2} (ho : OpR X (binaryOp op) r) (ha : PEp X a ta) (hb : PEp X b tb) : PEp X (.BinOp a op b pos) (tOp r ta tb) := by
  intro pins s σ H Q hn I h
  refine wpAny_BinOp (thn (up hn (ha pins s σ H _ hn I h)) fun v s1 hq__ => ?_)
  obtain ⟨⟨x, H1, I1, r1, q1⟩, hn1⟩ := hq__
  exact thn (hb pins s1 σ H1 _ hn1 I1 q1) fun u s2 ⟨y, H2, I2, r2, q2⟩ => ho pins s2 σ H2 x y v u Q I2 r1 r2 q2
theorem psu_set {i : Nat} {x : Str} {pos' : Pos} (hN : X.N.Nodup) (hi : X.N[i]? = some x) (hx : Loc X.env.scope x) (he : PEu X e te) (hs : swapsWith e (some (.Name x pos')) pos.line X.env = pure false := by rfl) (hf : X.fn x = true ∨ X.env.scope.names.lookup x = some .local := by first | exact .inl rfl | exact .inr rfl | assumption) :
    PSu X (.Assign [.Name x pos'] e pos) (tAsg te (gName i)) := by
  intro pins s σ H D I h
  refine wpAny_Assign_Name (thn (he pins s σ H _ I h) fun v s1 hq__ => ?_) hs
  obtain ⟨⟨y, H1, I1, r1, q1⟩, hn⟩ := hq__
  exact up hn (store_ok I1 hN hi hx r1 (fun s2 I2 => ⟨_, H1, I2, q1⟩) hf)
theorem psp_set {i : Nat} {x : Str} {pos' : Pos} (hN : X.N.Nodup) (hi : X.N[i]? = some x) (hx : Loc X.env.scope x) (he : PEp X e te) (hs : swapsWith e (some (.Name x pos')) pos.line X.env = pure false := by rfl) (hf : X.fn x = true ∨ X.env.scope.names.lookup x = some .local := by first | exact .inl rfl | exact .inr rfl | assumption) :
    PSp X (.Assign [.Name x pos'] e pos) (tAsg te (gName i)) := by
  intro pins s σ H D hn I h
  refine wpAny_Assign_Name (thn (he pins s σ H _ hn I h) fun v s1 hq__ => ?_) hs
  obtain ⟨y, H1, I1, r1, q1⟩ := hq__
  exact store_ok I1 hN hi hx r1 (fun s2 I2 => ⟨_, H1, I2, q1⟩) hf
theorem psp_expr (he : PEp X e te) (hs : swapsWith e none pos.line X.env = pure false := by rfl) : PSp X (.Expr e pos) (tDrop te) := by
  intro pins s σ H D hn I h
  exact wpAny_Expr_any (thn (he pins s σ H _ hn I h) fun v s1 ⟨x, H1, I1, r1, q1⟩ => ⟨σ, H1, I1, q1⟩) I.quiet hs
theorem pss_u (h1 : PSu X st u1) (h2 : PSsp X rest u2) : PSs X (st :: rest) (tSeq u1 u2) := by
  intro pins s σ H D I h
  refine wpAny_execs_cons (thn (h1 pins s σ H { D with nx := u2 D } I h) fun f s1 ⟨q, hn⟩ => ?_)
  cases f with
  | next =>
    obtain ⟨σ', H', I', q⟩ := q
    exact h2 pins s1 σ' H' D hn I' q
  | ret v => exact q
  | brk => exact q
  | cont => exact q
theorem pssp_cons (h1 : PSp X st u1) (h2 : PSsp X rest u2) : PSsp X (st :: rest) (tSeq u1 u2) := by
  intro pins s σ H D hn I h
  refine wpAny_execs_cons (thn (up hn (h1 pins s σ H { D with nx := u2 D } hn I h)) fun f s1 ⟨q, hn1⟩ => ?_)
  cases f with
  | next =>
    obtain ⟨σ', H', I', q⟩ := q
    exact h2 pins s1 σ' H' D hn1 I' q
  | ret v => exact q
  | brk => exact q
  | cont => exact q
theorem pep_bm {name : Str} {apos cpos : Pos} {T id : String} {r : V → List V → Hp → VK → Prop} (pa : PlainAttrs T) (slot : Slot T name id) (hty : typeOf (.builtin id) = pure (.type "method_descriptor")) (hm : MtR X id r) (ho : PE X o to) (ha : PAp X (e :: es) t)
    (hbase : attributeBase o name X.env (eval o X.env) = eval o X.env := by rfl)
    (hfew : ((backTo cpos (starEach (e :: es) X.env)).all (fun x => !x.1) && (backToKw cpos (keywordEach [] X.env)).all (fun x => x.1.isSome)
      && decide ((e :: es).length + ([] : List Keyword).length + (if ([] : List Keyword).isEmpty then 0 else 1) < 30)) = true := by rfl)
    (hline : (apos.endLine == cpos.line) = true := by rfl) (hs : starEach (e :: es) X.env = (false, eval e X.env) :: starEach es X.env := by rfl) (hplain : (backTo cpos (starEach es X.env)).any (·.1) = false := by rfl) :
    PEp X (.Call (.Attribute o name apos) (e :: es) [] cpos) (tBM X.K T r to t) := by
  intro pins s σ H Q hn I h
  refine wpAny_Call_method_late hbase hfew hline rfl (thn (up hn (ho pins s σ H _ I h)) fun v s1 hq__ => ?_)
  obtain ⟨⟨x, H1, I1, r1, ty, q1⟩, hn1⟩ := hq__
  obtain ⟨h1, h2⟩ := tyV_is I1 r1 ty
  refine ⟨T, id, pa, slot, hty, h1, h2, ?_⟩
  have hA := ha cpos pins s1 σ H1 _ hn1 I1 q1
  rw [hs] at hA ⊢
  refine Calls.callWith_builtin (by show (false || (backTo cpos (starEach es X.env)).any (·.1)) = false; rw [hplain] <;> rfl) (Calls.evalArgs_plain ?_)
  exact thn hA fun us s2 ⟨vs, H2, I2, r2, q2⟩ => hm pins s2 σ H2 x vs v us Q I2 r1 r2 q2
end
open Builtin Builtin.Str in
theorem gives_replace1 (x y z : Str) (t u v c : Tok)
    (hf : ((occurrences x y 0 x.length 1).isEmpty || (y.length == 0 && z.length == 0)) = false →
      (u == 0 || v == 0) = false ∧ (u == v) = false ∧ (y == z) = false ∧ tooLong (x.length + (occurrences x y 0 x.length 1).length * z.length) = false) :
    Gives («str.replace» ⟨[.str x t, .str y u, .str z v, .int 1 c], []⟩) (if ((occurrences x y 0 x.length 1).isEmpty || (y.length == 0 && z.length == 0)) = true then .val (.str x t) else .str (glued z (partsBetween x (occurrences x y 0 x.length 1) y.length))) := by
  show Gives (if ((occurrences x y 0 x.length 1).isEmpty || (y.length == 0 && z.length == 0)) = true then (do rule "str.replace.nothing"; ret (.str x t)) else
          (do let same ← isSame (.str y u) (.str z v)
              if same = true then (do rule "str.replace.old-is-new"; ret (.str x t)) else
              if tooLong (x.length + (occurrences x y 0 x.length 1).length * z.length) = true then unsupported "str.replace:memory" else
              retStr (glued z (partsBetween x (occurrences x y 0 x.length 1) y.length)))) _
  cases hc : ((occurrences x y 0 x.length 1).isEmpty || (y.length == 0 && z.length == 0))
  · obtain ⟨h0, huv, hyz, hl⟩ := hf hc
    rw [isSame_str_other y z u v h0 huv hyz, hl]
    exact .of_eq rfl
  · exact .rule (.of_eq rfl)
end L2
namespace L2
open PySem PySem.Spec PyProof.Rows
open PySem.Builtin.Str
theorem occ_one (x : List Nat) (c : Nat) : occurrences (S x) (S [c]) 0 (S x).length 1 = (posL c x).take 1 := by
  rw [PySem.StrLaws.occ_eq, ← posL_filter]
  have key : ∀ (l : List Nat) (a m : Nat) (acc : Array Nat) (free : Nat), l = List.range' a m → free ≤ a →
      (forIn l (acc, free) (PySem.StrLaws.occBody (S x) (S [c]) (S x).length 1)).run.fst.toList = acc.toList ++ (l.filter (fun i => x[i]? == some c)).take (1 - acc.size) := by
    intro l
    induction l with
    | nil => intro a m acc free _ _; simp
    | cons b l ih =>
      intro a m acc free hl hf
      cases m with
      | zero => simp at hl
      | succ m =>
        rw [List.range'_succ] at hl
        obtain ⟨rfl, hl⟩ := List.cons.inj hl
        rw [List.forIn_cons]
        unfold PySem.StrLaws.occBody
        have so := PySem.StrLaws.subAt_one (S x) c b
        have eS : (S x).cps.toList = x := by simp [S]
        rw [eS] at so
        by_cases hc : x[b]? = some c ∧ acc.size < 1
        · have hc2 := so.mpr hc.1
          have cond : (((acc, free).fst.size < 1 ∧ (acc, free).snd ≤ b) ∧ b + (S [c]).length ≤ (S x).length) ∧ subAt (S x) (S [c]) b = true := ⟨⟨⟨hc.2, hf⟩, hc2.1⟩, hc2.2⟩
          rw [if_pos cond]
          have := ih (b + 1) m (acc.push b) (b + (S [c]).length) (by simpa using hl) (by show b + 1 ≤ b + 1; omega)
          rw [List.filter_cons, if_pos (by rw [hc.1]; simp)]
          refine Eq.trans this ?_
          have h0 : acc.size = 0 := by omega
          simp [h0]
        · have cond : ¬ ((((acc, free).fst.size < 1 ∧ (acc, free).snd ≤ b) ∧ b + (S [c]).length ≤ (S x).length) ∧ subAt (S x) (S [c]) b = true) := fun h => hc ⟨so.mp ⟨h.1.2, h.2⟩, h.1.1.1⟩
          rw [if_neg cond]
          have := ih (b + 1) m acc free (by simpa using hl) (by omega)
          refine Eq.trans this ?_
          rw [List.filter_cons]
          by_cases hb : x[b]? = some c
          · have h1 : 1 - acc.size = 0 := by
              have : ¬ acc.size < 1 := fun z => hc ⟨hb, z⟩
              omega
            rw [h1]; simp
          · rw [if_neg (by simpa using hb)]
  have := key (List.range' 0 ((S x).length + 1 - 0)) 0 ((S x).length + 1 - 0) #[] 0 rfl (Nat.le_refl _)
  rw [this, S_len]
  simp
theorem posL_first {c : Nat} : ∀ {a : List Nat} (b : List Nat), c ∉ a → (posL c (a ++ c :: b)).take 1 = [a.length]
  | [], b, _ => by simp [posL]
  | d :: a, b, h => by
    have hd : d ≠ c := fun z => h (by simp [z])
    have ih := posL_first (a := a) b fun z => h (.tail _ z)
    show (posL c (d :: (a ++ c :: b))).take 1 = _
    unfold posL
    rw [if_neg hd, ← List.map_take, ih]
    simp
theorem rep_first {a b z : List Nat} {c : Nat} : glued (S z) (partsBetween (S (a ++ c :: b)) [a.length] 1) = S (a ++ z ++ b) := by
  have e : partsBetween (S (a ++ c :: b)) [a.length] 1 = [S a, S b] := by
    unfold partsBetween
    rw [S_len]
    show [strSub _ 0 a.length, strSub _ (a.length + 1) (a ++ c :: b).length] = _
    unfold strSub
    congr 1
    · show (⟨(a ++ c :: b).toArray.extract 0 a.length⟩ : Str) = ⟨_⟩
      congr 1
      apply Array.ext'
      simp [List.extract_eq_drop_take]
    · congr 1
      show (⟨(a ++ c :: b).toArray.extract (a.length + 1) (a ++ c :: b).length⟩ : Str) = ⟨_⟩
      congr 1
      apply Array.ext'
      simp [List.extract_eq_drop_take]
      exact List.take_of_length_le (by omega)
  rw [e]
  unfold glued
  show (⟨_⟩ : Str) = ⟨_⟩
  congr 1
  simp [S]
def tRep (z : Str) (to : TE) : TE := fun σ H Q => to σ H fun x H1 => ∃ a b d : List Nat, x = .str (S (a ++ 58 :: b)) ∧ 58 ∉ a ∧ z = S d ∧ (S [58] == z) = false ∧ a.length + b.length + d.length ≤ 100000 ∧ Q (.str (S (a ++ d ++ b))) H1
theorem pep_rep {X : Cx} {o : Expr} {to : TE} {z : Str} {apos cpos p1 p2 p3 : Pos} {k1 k2 k3 : Nat} (ho : PE X o to)
    (hbase : attributeBase o "replace" X.env (eval o X.env) = eval o X.env := by rfl) (hline : (apos.endLine == cpos.line) = true := by rfl) :
    PEp X (.Call (.Attribute o "replace" apos) [.Constant (.str ":") k1 p1, .Constant (.str z) k2 p2, .Constant (.int 1) k3 p3] [] cpos) (tRep z to) := by
  intro pins s σ H Q hn I h
  refine wpAny_Call_method_late hbase rfl hline rfl (thn (up hn (ho pins s σ H _ I h)) fun v s1 hq__ => ?_)
  obtain ⟨⟨x, H1, I1, r1, a, b, d, ex, na, ez, hz, hl, q⟩, hn1⟩ := hq__
  subst ex
  obtain ⟨t, rfl⟩ := r1
  refine ⟨"str", "str.replace", PySem.F.plainAttrs_str, PySem.F.slot_str_replace, PySem.F.type_str_replace, ?_, ?_, ?_⟩
  · exact typeIs_str _ _ _
  · intro _ e; cases e
  · refine Calls.callWith_builtin rfl (Calls.evalArgs_plain ?_)
    show wpAny _ _ (spliced [(false, eval (.Constant (.str ":") k1 p1) X.env), (false, eval (.Constant (.str z) k2 p2) X.env), (false, eval (.Constant (.int 1) k3 p3) X.env)]) _ _ _
    refine Calls.spliced_cons (Calls.Constant_str (Calls.spliced_cons (Calls.Constant_str (Calls.spliced_cons (wpAny_Constant_int (Calls.spliced_nil ?_))))))
    have ec : Str.ofString ":" = S [58] := by decide +kernel
    have oc : occurrences (S (a ++ 58 :: b)) (Str.ofString ":") 0 (S (a ++ 58 :: b)).length 1 = [a.length] := by rw [ec, occ_one, posL_first b na]
    have ie : ((occurrences (S (a ++ 58 :: b)) (Str.ofString ":") 0 (S (a ++ 58 :: b)).length 1).isEmpty || ((Str.ofString ":").length == 0 && z.length == 0)) = false := by rw [oc]; rfl
    refine call_gives PySem.F.slot_str_replace (typeIs_str _ _ _) PySem.F.entry_str_replace (PySem.F.args_str_replace_4 _ _ _ _) (gives_replace1 (S (a ++ 58 :: b)) (Str.ofString ":") z t s1.toks (s1.toks + 1) (s1.toks + 1 + 1) fun _ => ⟨?_, ?_, ?_, ?_⟩) ?_
    · have : s1.toks ≠ 0 := by omega
      simp [this]
    · simp
    · rw [ec]; exact hz
    · rw [oc, ez, S_len, S_len]
      unfold tooLong sizeLine
      exact decide_eq_false (by simp; omega)
    · rw [ie, if_neg (by decide), oc, ez, show (Str.ofString ":").length = 1 from rfl, rep_first]
      exact ⟨by rw [S_len, sizeLine_eq]; simp; omega, ⟨.str (S (a ++ d ++ b)), H1, I1.tok _, ⟨_, rfl⟩, q⟩⟩
end L2
namespace TB
def mixN (c k : Int) : Int := (c % 2147483647 + 7919 * k + 1) * 48271 % 2147483647
def mixed (c k : Int) : Int := mixN c k * (mixN c k / 1009 + 69621) % 2147483647
theorem mixN_b (c k : Int) : 0 ≤ mixN c k ∧ mixN c k < 2147483647 := by unfold mixN; omega
theorem mixed_b (c k : Int) : 0 ≤ mixed c k ∧ mixed c k < 2147483647 := by
  unfold mixed
  exact ⟨Int.emod_nonneg _ (by decide), Int.emod_lt_of_pos _ (by decide)⟩
def amount (x : Int) : Int := if x % 4 = 0 then 0 else if x % 4 = 1 then x / 4 % 5 else if x % 4 = 2 then x / 4 % 100 else x / 4 * (10 ^ 12 + 39)
theorem amount_b {x : Int} (h : 0 ≤ x) (h2 : x < 2147483647) : 0 ≤ amount x ∧ amount x < 10 ^ 22 := by
  unfold amount
  split
  · omega
  · split
    · omega
    · split <;> omega
def factor (x : Int) : Int := 1 + (if x % 3 = 0 then 0 else if x % 3 = 1 then x / 3 % 12 else x / 3 % 10 ^ 7)
theorem factor_b (x : Int) : 1 ≤ factor x ∧ factor x ≤ 10 ^ 7 := by
  unfold factor
  split
  · omega
  · split <;> omega
def ageAt (c : Int) : Nat → Int
  | 0 => amount (mixed c 0)
  | k + 1 => ageAt c k + amount (mixed c (2 * (k : Int) + 2))
def widthAt (c : Int) : Nat → Int
  | 0 => 1
  | k + 1 => widthAt c k * factor (mixed c (2 * (k : Int) + 1))
def stepsUpTo (c : Int) : Nat → List (Int × Int)
  | 0 => []
  | k + 1 => stepsUpTo c k ++ [(ageAt c (k + 1), widthAt c (k + 1))]
def stepN (c : Int) : Nat := (1 + c % 5).toNat
def stepsOf (c : Int) : List (Int × Int) := stepsUpTo c (stepN c)
theorem stepN_b (c : Int) : 1 ≤ stepN c ∧ stepN c ≤ 5 := by unfold stepN; omega
theorem amt_b (c k : Int) : 0 ≤ amount (mixed c k) ∧ amount (mixed c k) < 10 ^ 22 := amount_b (mixed_b c k).1 (mixed_b c k).2
theorem ageAt_b (c : Int) : ∀ k : Nat, 0 ≤ ageAt c k ∧ ageAt c k < 10 ^ 22 * ((k : Int) + 1)
  | 0 => by have := amt_b c 0; simp only [ageAt]; omega
  | k + 1 => by
    have h1 := ageAt_b c k
    have h2 := amt_b c (2 * (k : Int) + 2)
    simp only [ageAt]; omega
theorem widthAt_b (c : Int) : ∀ k : Nat, 1 ≤ widthAt c k ∧ widthAt c k ≤ (10 ^ 7) ^ k
  | 0 => by simp [widthAt]
  | k + 1 => by
    have h1 := widthAt_b c k
    have h2 := factor_b (mixed c (2 * (k : Int) + 1))
    simp only [widthAt]
    constructor
    · have : 1 * 1 ≤ widthAt c k * factor (mixed c (2 * (k : Int) + 1)) := Int.mul_le_mul h1.1 h2.1 (by omega) (by omega)
      omega
    · rw [Int.pow_succ]
      exact Int.mul_le_mul h1.2 h2.2 (by omega) (by omega)
theorem steps_len (c : Int) : ∀ k : Nat, (stepsUpTo c k).length = k
  | 0 => rfl
  | k + 1 => by simp [stepsUpTo, steps_len c k]
theorem steps_get (c : Int) : ∀ (n k : Nat), k < n → (stepsUpTo c n)[k]? = some (ageAt c (k + 1), widthAt c (k + 1))
  | n + 1, k, h => by
    rw [stepsUpTo]
    by_cases hk : k < n
    · rw [List.getElem?_append_left (by rw [steps_len]; exact hk)]
      exact steps_get c n k hk
    · have e : k = n := by omega
      subst e
      rw [List.getElem?_append_right (by rw [steps_len]; exact Nat.le_refl _), steps_len]
      simp
structure Good (ps : List (Int × Int)) : Prop where
  lo : 1 ≤ ps.length
  hi : ps.length ≤ 5
  each : ∀ (i : Nat) p, ps[i]? = some p → 0 ≤ p.1 ∧ 1 ≤ p.2
  next : ∀ (i : Nat) p q, ps[i]? = some p → ps[i + 1]? = some q → p.1 ≤ q.1 ∧ q.2 % p.2 = 0
theorem good_of (c : Int) : Good (stepsOf c) where
  lo := by unfold stepsOf; rw [steps_len]; exact (stepN_b c).1
  hi := by unfold stepsOf; rw [steps_len]; exact (stepN_b c).2
  each := fun i p h => by
    unfold stepsOf at h
    have hi : i < stepN c := by
      have := (List.getElem?_eq_some_iff.mp h).1
      rw [steps_len] at this; exact this
    rw [steps_get c _ i hi] at h
    cases h
    exact ⟨(ageAt_b c _).1, (widthAt_b c _).1⟩
  next := fun i p q h h' => by
    unfold stepsOf at h h'
    have hi : i + 1 < stepN c := by
      have := (List.getElem?_eq_some_iff.mp h').1
      rw [steps_len] at this; exact this
    rw [steps_get c _ i (by omega)] at h
    rw [steps_get c _ (i + 1) hi] at h'
    cases h; cases h'
    refine ⟨?_, ?_⟩
    · have := amt_b c (2 * ((i + 1 : Nat) : Int) + 2)
      show ageAt c (i + 1) ≤ ageAt c (i + 1) + _
      omega
    · show widthAt c (i + 1) * _ % widthAt c (i + 1) = 0
      exact Int.mul_emod_right _ _
def lastW : List (Int × Int) → Int
  | [] => 0
  | [p] => p.2
  | _ :: q :: r => lastW (q :: r)
def goneOf (c : Int) : Option Int := if 0 < c / 5 % 3 then some (ageAt c (stepN c) + amount (mixed c 20)) else none
def GoneOk (g : Option Int) (last : Int) : Prop := ∀ z, g = some z → last ≤ z
theorem gone_ok (c : Int) : GoneOk (goneOf c) (ageAt c (stepN c)) := fun z h => by
  unfold goneOf at h
  have := amt_b c 20
  split at h
  · cases h; omega
  · cases h
theorem steps_last (c : Int) : ∀ n : Nat, 1 ≤ n → (stepsUpTo c n)[n - 1]? = some (ageAt c n, widthAt c n) := fun n h => by
  have := steps_get c n (n - 1) (by omega)
  rwa [show n - 1 + 1 = n by omega] at this
theorem gone_last (c : Int) : ∀ p, (stepsOf c)[(stepsOf c).length - 1]? = some p → GoneOk (goneOf c) p.1 := fun p h => by
  unfold stepsOf at h
  rw [steps_len, steps_last c _ (stepN_b c).1] at h
  cases h
  exact gone_ok c
end TB
namespace TB
def cut (d a w : Int) : Int := (d - a) / w * w
def Sized (ps : List (Int × Int)) : Prop := ∀ (i : Nat) p, ps[i]? = some p → 0 ≤ p.1 ∧ p.1 < 10 ^ 45 ∧ 1 ≤ p.2 ∧ p.2 < 10 ^ 45
def rowsOf (ps : List (Int × Int)) (g : Option Int) : List (Int × Int) :=
  ps ++ (match g with
    | none => []
    | some z => [(z, (ps.getLast?.getD (0, 1)).2)])
theorem last_get {ps : List (Int × Int)} {p : Int × Int} (h : ps[ps.length - 1]? = some p) : ps.getLast?.getD (0, 1) = p := by
  rw [List.getLast?_eq_getElem?, h]; rfl
theorem sized_of (c : Int) : Sized (stepsOf c) := fun i p h => by
  unfold stepsOf at h
  have hi : i < stepN c := by
    have := (List.getElem?_eq_some_iff.mp h).1
    rw [steps_len] at this; exact this
  rw [steps_get c _ i hi] at h
  cases h
  have h1 := ageAt_b c (i + 1)
  have h2 := widthAt_b c (i + 1)
  have h3 := (stepN_b c).2
  have h4 : ((10 : Int) ^ 7) ^ (i + 1) ≤ (10 ^ 7) ^ 5 := by
    have : i + 1 = 1 ∨ i + 1 = 2 ∨ i + 1 = 3 ∨ i + 1 = 4 ∨ i + 1 = 5 := by omega
    rcases this with e | e | e | e | e <;> rw [e] <;> decide
  have h5 : (((10 : Int) ^ 7) ^ 5) < 10 ^ 45 := by decide
  refine ⟨h1.1, ?_, h2.1, by show widthAt c (i + 1) < _; omega⟩
  show ageAt c (i + 1) < 10 ^ 45
  omega
theorem rows_good {ps : List (Int × Int)} {g : Option Int} (G : Good ps) (hg : ∀ p, ps[ps.length - 1]? = some p → GoneOk g p.1) :
    (∀ (i : Nat) p, (rowsOf ps g)[i]? = some p → 0 ≤ p.1 ∧ 1 ≤ p.2) ∧ ∀ (i : Nat) p q, (rowsOf ps g)[i]? = some p → (rowsOf ps g)[i + 1]? = some q → p.1 ≤ q.1 ∧ q.2 % p.2 = 0 := by
  have hl := G.lo
  obtain ⟨p0, hp0⟩ : ∃ p, ps[ps.length - 1]? = some p := ⟨ps[ps.length - 1]'(by omega), List.getElem?_eq_getElem _⟩
  have e0 := last_get hp0
  cases g with
  | none =>
    have e : rowsOf ps none = ps := by simp [rowsOf]
    rw [e]
    exact ⟨G.each, G.next⟩
  | some z =>
    have e : rowsOf ps (some z) = ps ++ [(z, p0.2)] := by simp only [rowsOf]; rw [e0]
    have hz := hg p0 hp0 z rfl
    have h0 := G.each _ _ hp0
    rw [e]
    refine ⟨fun i p h => ?_, fun i p q h h' => ?_⟩
    · by_cases hi : i < ps.length
      · rw [List.getElem?_append_left hi] at h
        exact G.each i p h
      · rw [List.getElem?_append_right (by omega)] at h
        have : i - ps.length = 0 := by
          have := (List.getElem?_eq_some_iff.mp h).1
          simp at this; omega
        rw [this] at h
        simp at h
        subst h
        exact ⟨by show 0 ≤ z; omega, h0.2⟩
    · by_cases hi : i + 1 < ps.length
      · rw [List.getElem?_append_left hi] at h'
        rw [List.getElem?_append_left (by omega)] at h
        exact G.next i p q h h'
      · have h1 := (List.getElem?_eq_some_iff.mp h').1
        simp at h1
        have hi' : i = ps.length - 1 := by omega
        rw [List.getElem?_append_right (by omega)] at h'
        rw [List.getElem?_append_left (by omega), hi', hp0] at h
        rw [show i + 1 - ps.length = 0 by omega] at h'
        simp at h'
        cases h
        subst h'
        exact ⟨hz, Int.emod_self⟩
end TB
namespace TB
end TB
namespace TB
open PySem L2
def PairAt (H : Hp) (v : V) (p : Int × Int) : Prop := ∃ a, v = .ref a ∧ H a = some (.tup [.int p.1, .int p.2])
def Pairs (H : Hp) (xs : List V) (ps : List (Int × Int)) : Prop := Paired (PairAt H) xs ps
theorem PairAt.same {H H' : Hp} (s : Same H H') {v : V} {p : Int × Int} : PairAt H v p → PairAt H' v p := fun ⟨a, e, h⟩ => ⟨a, e, s _ _ h⟩
def TupS (H H' : Hp) : Prop := ∀ b xs, H b = some (.tup xs) → H' b = some (.tup xs)
theorem Same.tup {H H' : Hp} (s : Same H H') : TupS H H' := fun b xs h => s b _ h
theorem TupS.refl (H : Hp) : TupS H H := fun _ _ h => h
theorem TupS.trans {H H1 H2 : Hp} (a : TupS H H1) (b : TupS H1 H2) : TupS H H2 := fun c o h => b c o (a c o h)
theorem PairAt.tupS {H H' : Hp} (s : TupS H H') {v : V} {p : Int × Int} : PairAt H v p → PairAt H' v p := fun ⟨a, e, h⟩ => ⟨a, e, s _ _ h⟩
theorem Pairs.tupS {H H' : Hp} (s : TupS H H') : ∀ {xs : List V} {ps : List (Int × Int)}, Pairs H xs ps → Pairs H' xs ps
  | _, _, .nil => .nil
  | _, _, .cons r t => .cons (r.tupS s) (Pairs.tupS s t)
theorem Pairs.same {H H' : Hp} (s : Same H H') {xs : List V} {ps : List (Int × Int)} (h : Pairs H xs ps) : Pairs H' xs ps := Pairs.tupS (Same.tup s) h
theorem Pairs.length {H : Hp} : ∀ {xs : List V} {ps : List (Int × Int)}, Pairs H xs ps → xs.length = ps.length
  | _, _, .nil => rfl
  | _, _, .cons _ t => by simp [Pairs.length t]
theorem Pairs.get {H : Hp} : ∀ {xs : List V} {ps : List (Int × Int)} {i : Nat} {x : V}, Pairs H xs ps → xs[i]? = some x → ∃ p, ps[i]? = some p ∧ PairAt H x p
  | _, _, _, _, .nil, e => by simp at e
  | _, _, 0, _, .cons r _, e => by simp at e; subst e; exact ⟨_, rfl, r⟩
  | _, _, i + 1, x, .cons _ t, e => by
    obtain ⟨u, h1, h2⟩ := Pairs.get (i := i) (x := x) t (by simpa using e)
    exact ⟨u, by simpa using h1, h2⟩
theorem Pairs.get' {H : Hp} : ∀ {xs : List V} {ps : List (Int × Int)} {i : Nat} {p : Int × Int}, Pairs H xs ps → ps[i]? = some p → ∃ x, xs[i]? = some x ∧ PairAt H x p
  | _, _, _, _, .nil, e => by simp at e
  | _, _, 0, _, .cons r _, e => by simp at e; subst e; exact ⟨_, rfl, r⟩
  | _, _, i + 1, x, .cons _ t, e => by
    obtain ⟨u, h1, h2⟩ := Pairs.get' (i := i) (p := x) t (by simpa using e)
    exact ⟨u, by simpa using h1, h2⟩
theorem Pairs.snoc {H : Hp} {v : V} {p : Int × Int} (r : PairAt H v p) : ∀ {xs : List V} {ps : List (Int × Int)}, Pairs H xs ps → Pairs H (xs ++ [v]) (ps ++ [p])
  | _, _, .nil => .cons r .nil
  | _, _, .cons q t => .cons q (Pairs.snoc r t)
def dPair (p : Int × Int) : PyData := .tuple [.int p.1, .int p.2]
def dPairs (ps : List (Int × Int)) : PyData := .list (ps.map dPair)
theorem lay_map : ∀ ps : List (Int × Int), PyData.canLayAll0 (ps.map dPair) = true
  | [] => rfl
  | p :: r => by simp [PyData.canLayAll0, dPair, PyData.canLay0, lay_map r]
theorem lay_pairs (ps : List (Int × Int)) : (dPairs ps).canLay0 = true := by simp [dPairs, PyData.canLay0, lay_map]
theorem dep_map : ∀ ps : List (Int × Int), PyData.depthAll (ps.map dPair) ≤ 1
  | [] => by simp [PyData.depthAll]
  | p :: r => by
    have := dep_map r
    simp [PyData.depthAll, dPair, PyData.depth]
    omega
theorem dep_pairs (ps : List (Int × Int)) : (dPairs ps).depth ≤ 20 := by
  have := dep_map ps
  simp [dPairs, PyData.depth]; omega
theorem Pairs.reps {K : PySem.W.Frag} {H : Hp} : ∀ {xs : List V} {ps : List (Int × Int)}, Pairs H xs ps → Reps K H xs (ps.map dPair)
  | _, _, .nil => .nil
  | _, _, .cons ⟨a, e, h⟩ t => by
    subst e
    exact .cons (.tup (SqT.of h) (.cons (.int _) (.cons (.int _) .nil))) (Pairs.reps t)
theorem Pairs.rep {K : PySem.W.Frag} {H : Hp} {l : Addr} {xs : List V} {ps : List (Int × Int)} (h : H l = some (.lst xs)) (r : Pairs H xs ps) : Rep K H (.ref l) (dPairs ps) := .lst (SqL.of h) r.reps
def gv : Option Int → V
  | none => .non
  | some i => .int i
theorem ks_ga : ¬ (("kept_steps" : Str) = "gone_age") := by decide +kernel
def rf (l : Addr) (g : V) : List (Str × V) := putF "gone_age" g (putF "kept_steps" (.ref l) [])
theorem rf_ks (l : Addr) (g : V) : (rf l g).lookup ("kept_steps" : Str) = some (.ref l) := by
  unfold rf
  rw [lookup_putF, if_neg ks_ga, lookup_putF, if_pos rfl]
theorem rf_ga (l : Addr) (g : V) : (rf l g).lookup ("gone_age" : Str) = some g := by
  unfold rf
  rw [lookup_putF, if_pos rfl]
theorem rf_no (l : Addr) (g : V) {m : Str} (h1 : ¬ m = "gone_age") (h2 : ¬ m = "kept_steps") : (rf l g).lookup m = none := by
  unfold rf
  rw [lookup_putF, if_neg h1, lookup_putF, if_neg h2]
  rfl
structure RuleAt (C : Addr) (H : Hp) (r l : Addr) (ps : List (Int × Int)) (g : Option Int) : Prop where
  ob : ∃ dx, H r = some (.ins C dx (rf l (gv g)))
  ls : ∃ xs, H l = some (.lst xs) ∧ Pairs H xs ps
theorem RuleAt.same {C : Addr} {H H' : Hp} {r l : Addr} {ps : List (Int × Int)} {g : Option Int} (s : Same H H') (h : RuleAt C H r l ps g) : RuleAt C H' r l ps g :=
  ⟨let ⟨dx, e⟩ := h.ob; ⟨dx, s _ _ e⟩, let ⟨xs, e, p⟩ := h.ls; ⟨xs, s _ _ e, p.same s⟩⟩
theorem atI_m1 {xs : List V} {v : V} (h : xs[xs.length - 1]? = some v) : atI xs (-1) = some v := by
  have hl : xs.length - 1 < xs.length := (List.getElem?_eq_some_iff.mp h).1
  have e : ixN xs.length (-1) = some (xs.length - 1) := by
    unfold ixN
    rw [if_neg (by decide), if_pos (by omega)]
    congr 1; omega
  unfold atI
  rw [e]; exact h
theorem at4 (x a b c d : Int) : atI [V.int a, V.int b, V.int c, V.int d] (x % 4) = some (.int (if x % 4 = 0 then a else if x % 4 = 1 then b else if x % 4 = 2 then c else d)) := by
  have h : x % 4 = 0 ∨ x % 4 = 1 ∨ x % 4 = 2 ∨ x % 4 = 3 := by omega
  rcases h with h | h | h | h <;> rw [h] <;> rfl
theorem at3 (x a b c : Int) : atI [V.int a, V.int b, V.int c] (x % 3) = some (.int (if x % 3 = 0 then a else if x % 3 = 1 then b else c)) := by
  have h : x % 3 = 0 ∨ x % 3 = 1 ∨ x % 3 = 2 := by omega
  rcases h with h | h | h <;> rw [h] <;> rfl
theorem cut1 (xs : List V) : cutV xs (some 1) none = xs.drop 1 := by
  unfold cutV
  rw [HT.sIx_none, show (some (1 : Int)) = some ((1 : Nat) : Int) from rfl, HT.sIx_nat]
  by_cases h : 1 ≤ xs.length
  · rw [Nat.min_eq_left h]
    exact List.take_of_length_le (by simp)
  · have e : xs = [] := by cases xs with | nil => rfl | cons _ _ => simp at h
    subst e; rfl
def sp_is_whole : Sp := fun vs H Q _ => ∃ x, vs = [x] ∧ ((∃ i, x = .int i ∧ Q (.bl true) H))
def sp_is_step : Sp := fun vs H Q _ => ∃ x p, vs = [x] ∧ PairAt H x p ∧ Q (.bl true) H
inductive sp_gone (C : Addr) (vs : List V) (H : Hp) (Q : VK) (E_ : XK) : Prop
  | mk : ∀ r l ps g, vs = [.ref r] → RuleAt C H r l ps g → Q (gv g) H → sp_gone C vs H Q E_
def sp_mixed : Sp := fun vs H Q _ => ∃ c k, vs = [.int c, .int k] ∧ Q (.int (mixed c k)) H
def sp_amount : Sp := fun vs H Q _ => ∃ x, vs = [.int x] ∧ ∀ H', Same H H' → Q (.int (amount x)) H'
def sp_law (K : PySem.W.Frag) : Sp := fun vs H Q _ => ∃ (a : Addr) (ns : List Int), vs = [.ref a] ∧ SqL K H a (ns.map V.int) ∧ ns.length ≤ 63 ∧ ∀ H', Q (.bl true) H'
end TB
namespace TB
open PySem L2
theorem New.after {H H1 H2 : Hp} {p : Addr} {o : HO} (s : Same H H1) (n : New H1 H2 p o) : New H H2 p o := ⟨s.trans n.same, s.free n.fresh, n.at_⟩
def lw (ps : List (Int × Int)) : Int := (ps.getLast?.getD (0, 1)).2
def GBd (g : Option Int) : Prop := ∀ z, g = some z → 0 ≤ z ∧ z < 10 ^ 45
structure Pr (ps : List (Int × Int)) (g : Option Int) : Prop where
  good : Good ps
  size : Sized ps
  gone : ∀ p, ps[ps.length - 1]? = some p → GoneOk g p.1
  gb : GBd g
theorem pr_of (c : Int) : Pr (stepsOf c) (goneOf c) := ⟨good_of c, sized_of c, gone_last c, fun z h => by
  unfold goneOf at h
  have h1 := amt_b c 20
  have h2 := ageAt_b c (stepN c)
  have h3 := (stepN_b c).2
  split at h
  · cases h; omega
  · cases h⟩
theorem Pr.last {ps : List (Int × Int)} {g : Option Int} (P : Pr ps g) : ∃ p, ps[ps.length - 1]? = some p ∧ lw ps = p.2 := by
  have hl := P.good.lo
  refine ⟨ps[ps.length - 1]'(by omega), List.getElem?_eq_getElem _, ?_⟩
  unfold lw
  rw [last_get (List.getElem?_eq_getElem _)]
theorem RuleAt.but {C : Addr} {H H' : Hp} {r l m : Addr} {o : HO} {ps : List (Int × Int)} {g : Option Int} (h : RuleAt C H r l ps g) (b : But m H H') (hm : H m = some o) (nt : ∀ xs, o ≠ .tup xs) (n1 : r ≠ m) (n2 : l ≠ m) : RuleAt C H' r l ps g :=
  ⟨let ⟨dx, e⟩ := h.ob; ⟨dx, b _ _ e n1⟩, let ⟨xs, e, p⟩ := h.ls; ⟨xs, b _ _ e n2, p.tupS (b.tup hm nt)⟩⟩
theorem Pairs.but {H H' : Hp} {m : Addr} {o : HO} {xs : List V} {ps : List (Int × Int)} (h : Pairs H xs ps) (b : But m H H') (hm : H m = some o) (nt : ∀ xs, o ≠ .tup xs) : Pairs H' xs ps := h.tupS (b.tup hm nt)
theorem lst_nt {xs : List V} : ∀ ys, (HO.lst xs) ≠ .tup ys := fun _ z => by cases z
theorem ins_nt {C dx : Addr} {fs : List (Str × V)} : ∀ ys, (HO.ins C dx fs) ≠ .tup ys := fun _ z => by cases z
inductive sp2_steps (C : Addr) (vs : List V) (H : Hp) (Q : VK) (E_ : XK) : Prop
  | mk : ∀ r l ps g xs, vs = [.ref r] → RuleAt C H r l ps g → H l = some (.lst xs) → (∀ p H', New H H' p (.lst xs) → Q (.ref p) H') → sp2_steps C vs H Q E_
def sp2_rule : Sp := fun vs H Q _ => ∃ c, vs = [.int c] ∧ ∀ t l xs H', Same H H' → H l = none → H' t = some (.tup [.ref l, gv (goneOf c)]) → H' l = some (.lst xs) → Pairs H' xs (stepsOf c) → Q (.ref t) H'
def dV : V → PyData
  | .int i => .int i
  | _ => .none
theorem mapN {α β : Type} (f : α → β) (xs : List α) (i : Nat) (x : α) (h : xs[i]? = some x) : (xs.take (i + 1)).map f = (xs.take i).map f ++ [f x] := by
  rw [List.take_succ, h]
  simp
end TB
namespace TB
open PySem L2
theorem at_prev {ms : List Int} {i : Nat} (h : i < ms.length) : ∃ m', atI (ms.map V.int) ((i : Int) - 1) = some (V.int m') := by
  by_cases h0 : i = 0
  · subst h0
    have : (ms.map V.int)[(ms.map V.int).length - 1]? = some (V.int (ms[ms.length - 1]'(by omega))) := by simp
    exact ⟨_, atI_m1 this⟩
  · have e : (i : Int) - 1 = ((i - 1 : Nat) : Int) := by omega
    rw [e]
    refine ⟨ms[i - 1]'(by omega), atI_nat ?_⟩
    rw [List.getElem?_map, List.getElem?_eq_getElem (by omega)]
    rfl
end TB
namespace TB
def mc (p e : Int × Int) : Int := (e.1 - p.1 + e.2 - 1) / p.2
def endsOf (ps : List (Int × Int)) (z : Int) : List (Int × Int) := ps.drop 1 ++ [(z, (ps.getLast?.getD (0, 1)).2)]
theorem ends_len {ps : List (Int × Int)} {z : Int} (h : 1 ≤ ps.length) : (endsOf ps z).length = ps.length := by unfold endsOf; simp; omega
theorem ends_get {ps : List (Int × Int)} {z : Int} {k : Nat} (h : k < ps.length) : (endsOf ps z)[k]? = (rowsOf ps (some z))[k + 1]? := by
  unfold endsOf rowsOf
  by_cases hk : k + 1 < ps.length
  · rw [List.getElem?_append_left (by simp; omega), List.getElem?_append_left hk, List.getElem?_drop, Nat.add_comm]
  · rw [List.getElem?_append_right (by simp; omega), List.getElem?_append_right (by omega)]
    have e1 : k - (ps.drop 1).length = 0 := by simp; omega
    have e2 : k + 1 - ps.length = 0 := by omega
    rw [e1, e2]
end TB
namespace TB
open PySem L2
theorem gname_ {i : Nat} {v : V} {σ : St} {H : Hp} {K : St → Hp → Prop} (h : K (σ.set i (some v)) H) : gName i v σ H K := h
theorem Pairs.drop {H : Hp} {xs : List V} {ps : List (Int × Int)} (h : Pairs H xs ps) (n : Nat) : Pairs H (xs.drop n) (ps.drop n) := by
  induction n generalizing xs ps with
  | zero => exact h
  | succ n ih =>
    cases h with
    | nil => exact .nil
    | cons r t => exact ih t
end TB
namespace TB
open PySem L2
theorem Pr.pair {ps : List (Int × Int)} {z : Int} (P : Pr ps (some z)) {k : Nat} (hk : k < ps.length) : ∃ p e, ps[k]? = some p ∧ (endsOf ps z)[k]? = some e ∧ (rowsOf ps (some z))[k]? = some p ∧ (rowsOf ps (some z))[k + 1]? = some e ∧ 1 ≤ p.2 ∧ p.2 < 10 ^ 45 ∧ 1 ≤ e.2 ∧ e.2 % p.2 = 0 := by
  have hl := P.good.lo
  obtain ⟨r1, r2⟩ := rows_good P.good P.gone
  have h1 : ps[k]? = some ps[k] := List.getElem?_eq_getElem hk
  have h2 : (rowsOf ps (some z))[k]? = some ps[k] := by
    unfold rowsOf
    rw [List.getElem?_append_left hk]; exact h1
  have hlen : k < (endsOf ps z).length := by rw [ends_len hl]; exact hk
  have h3 : (endsOf ps z)[k]? = some (endsOf ps z)[k] := List.getElem?_eq_getElem hlen
  have h4 := (ends_get (z := z) hk).symm.trans h3
  have h5 := P.size k _ h1
  obtain ⟨h6, h7⟩ := r2 k _ _ h2 h4
  exact ⟨_, _, h1, h3, h2, h4, h5.2.2.1, h5.2.2.2, (r1 _ _ h4).2, h7⟩
end TB
namespace TB
open PySem L2
def EdL (xs : List V) : Prop := ∃ (ns : List Int) (g : Option Int), xs = ns.map V.int ++ [gv g] ∧ 1 ≤ ns.length ∧ ns.length ≤ 5
theorem EdL.len {xs : List V} (h : EdL xs) : 2 ≤ xs.length ∧ xs.length ≤ 6 := by
  obtain ⟨ns, g, rfl, h1, h2⟩ := h
  simp only [List.length_append, List.length_map, List.length_singleton]; omega
end TB
namespace TX
def dg (m : Nat) : List Nat := (Nat.toDigits 10 m).map Char.toNat
def sg (n : Int) : List Nat := (toString n).toList.map Char.toNat
def valD (l : List Nat) : Nat := l.foldl (fun a c => a * 10 + (c - 48)) 0
theorem digit_back : ∀ d : Nat, d < 10 → (Nat.digitChar d).toNat - 48 = d := by decide
theorem digit_in : ∀ d : Nat, d < 10 → 48 ≤ (Nat.digitChar d).toNat ∧ (Nat.digitChar d).toNat ≤ 57 := by decide
theorem dg_small {m : Nat} (h : m < 10) : dg m = [(Nat.digitChar m).toNat] := by
  unfold dg; rw [Nat.toDigits_of_lt_base h]; rfl
theorem dg_big {m : Nat} (h : ¬ m < 10) : dg m = dg (m / 10) ++ [(Nat.digitChar (m % 10)).toNat] := by
  have hm : m % 10 < 10 := Nat.mod_lt m (by decide)
  have t : Nat.toDigits 10 (m / 10) ++ Nat.toDigits 10 (m % 10) = Nat.toDigits 10 (10 * (m / 10) + m % 10) := Nat.toDigits_append_toDigits (by decide) (by omega) hm
  rw [Nat.div_add_mod] at t
  unfold dg
  rw [← t, List.map_append, Nat.toDigits_of_lt_base hm]
  rfl
theorem valD_snoc (l : List Nat) (c : Nat) : valD (l ++ [c]) = valD l * 10 + (c - 48) := by
  unfold valD; rw [List.foldl_append]; rfl
theorem val_dg (m : Nat) : valD (dg m) = m := by
  induction m using Nat.strongRecOn with
  | _ m ih =>
    by_cases h : m < 10
    · rw [dg_small h]
      have := digit_back m h
      show 0 * 10 + ((Nat.digitChar m).toNat - 48) = m
      omega
    · rw [dg_big h, valD_snoc, ih (m / 10) (by omega), digit_back (m % 10) (by omega)]
      omega
theorem dg_inj {a b : Nat} (h : dg a = dg b) : a = b := by rw [← val_dg a, h, val_dg]
theorem dg_in {m c : Nat} (h : c ∈ dg m) : 48 ≤ c ∧ c ≤ 57 := by
  induction m using Nat.strongRecOn with
  | _ m ih =>
    by_cases hm : m < 10
    · rw [dg_small hm] at h
      rw [List.mem_singleton.mp h]
      exact digit_in m hm
    · rw [dg_big hm] at h
      rcases List.mem_append.mp h with h | h
      · exact ih (m / 10) (by omega) h
      · rw [List.mem_singleton.mp h]
        exact digit_in _ (by omega)
theorem dg_ne (m : Nat) : dg m ≠ [] := by
  by_cases hm : m < 10
  · rw [dg_small hm]; simp
  · rw [dg_big hm]; simp
theorem dg_len {k : Nat} : ∀ {m : Nat}, 1 ≤ k → m < 10 ^ k → (dg m).length ≤ k := by
  induction k with
  | zero => intro m h; omega
  | succ k ih =>
    intro m _ hm
    by_cases h : m < 10
    · rw [dg_small h]; simp
    · rw [dg_big h]
      have hk : 1 ≤ k := by
        rcases Nat.eq_zero_or_pos k with z | z
        · subst z; simp at hm; omega
        · exact z
      have := ih hk (m := m / 10) (by rw [Nat.pow_succ] at hm; omega)
      simp
      exact this
theorem sg_nat (m : Nat) : sg (m : Int) = dg m := by
  show (Nat.repr m).toList.map Char.toNat = _
  rw [Nat.toList_repr]
  rfl
theorem sg_neg (m : Nat) : sg (Int.negSucc m) = 45 :: dg (m + 1) := by
  show (("-" : String) ++ Nat.repr (m + 1)).toList.map Char.toNat = _
  rw [String.toList_append, List.map_append, Nat.toList_repr]
  rfl
theorem sg_inj {a b : Int} (h : sg a = sg b) : a = b := by
  have n45 : ∀ m t, dg m ≠ 45 :: t := fun m t e => by
    have := dg_in (m := m) (c := 45) (by rw [e]; simp)
    omega
  cases a with
  | ofNat a =>
    cases b with
    | ofNat b => exact congrArg Int.ofNat (dg_inj ((sg_nat a).symm.trans (h.trans (sg_nat b))))
    | negSucc b => exact absurd ((sg_nat a).symm.trans (h.trans (sg_neg b))) (n45 _ _)
  | negSucc a =>
    cases b with
    | ofNat b => exact absurd ((sg_nat b).symm.trans (h.symm.trans (sg_neg a))) (n45 _ _)
    | negSucc b =>
      have e := (sg_neg a).symm.trans (h.trans (sg_neg b))
      have := dg_inj (List.cons.inj e).2
      rw [Nat.succ.inj this]
theorem sg_in {n : Int} {c : Nat} (h : c ∈ sg n) : c = 45 ∨ (48 ≤ c ∧ c ≤ 57) := by
  cases n with
  | ofNat m => exact .inr (dg_in (m := m) (by rw [← sg_nat]; exact h))
  | negSucc m =>
    rw [sg_neg] at h
    rcases List.mem_cons.mp h with z | z
    · exact .inl z
    · exact .inr (dg_in z)
theorem sg_len {n : Int} {k : Nat} (hk : 1 ≤ k) (h : n.natAbs < 10 ^ k) : (sg n).length ≤ k + 1 := by
  cases n with
  | ofNat m =>
    have := dg_len (m := m) hk h
    rw [show sg (Int.ofNat m) = dg m from sg_nat m]
    omega
  | negSucc m =>
    have := dg_len (m := m + 1) hk h
    rw [sg_neg]
    simp
    exact this
theorem mark_inj {a b c d : List Nat} {x : Nat} (ha : x ∉ a) (hc : x ∉ c) (h : a ++ x :: b = c ++ x :: d) : a = c ∧ b = d := by
  induction a generalizing c with
  | nil =>
    cases c with
    | nil => exact ⟨rfl, (List.cons.inj h).2⟩
    | cons y c =>
      have := (List.cons.inj h).1
      exact absurd (by rw [this]; simp) hc
  | cons y a ih =>
    cases c with
    | nil =>
      have := (List.cons.inj h).1
      exact absurd (by rw [← this]; simp) ha
    | cons z c =>
      obtain ⟨e1, e2⟩ := List.cons.inj h
      obtain ⟨e3, e4⟩ := ih (fun q => ha (List.mem_cons_of_mem _ q)) (fun q => hc (List.mem_cons_of_mem _ q)) e2
      exact ⟨by rw [e1, e3], e4⟩
def figs (x : List Nat) : List Nat := if x.take 1 = [45] then x.drop 1 else x
def IsDig (c : Nat) : Prop := 48 ≤ c ∧ c ≤ 57
instance (c : Nat) : Decidable (IsDig c) := inferInstanceAs (Decidable (_ ∧ _))
def Good (x : List Nat) : Prop := figs x ≠ [] ∧ (figs x).length ≤ 1000 ∧ ¬ ((figs x).head? = some 48 ∧ x ≠ [48]) ∧ ∀ c ∈ figs x, IsDig c
instance (x : List Nat) : Decidable (Good x) := inferInstanceAs (Decidable (_ ∧ _ ∧ _ ∧ _))
def valT (x : List Nat) : Int := if x.take 1 = [45] then -(valD (x.drop 1) : Int) else (valD x : Int)
theorem good_iff (x : List Nat) : Good x ↔ x ≠ [45, 48] ∧ 1 ≤ (figs x).length ∧ (figs x).length ≤ 1000 ∧ (figs x = [48] ∨ ((figs x).head? ≠ some 48 ∧ ∀ c ∈ figs x, IsDig c)) := by
  constructor
  · rintro ⟨h1, h2, h3, h4⟩
    refine ⟨?_, ?_, h2, ?_⟩
    · rintro rfl
      exact h3 ⟨rfl, by decide⟩
    · cases h : figs x with
      | nil => exact absurd h h1
      | cons => simp
    · by_cases hh : (figs x).head? = some 48
      · left
        have hx : x = [48] := Classical.byContradiction fun q => h3 ⟨hh, q⟩
        rw [hx]; rfl
      · exact .inr ⟨hh, h4⟩
  · rintro ⟨h1, h2, h3, h4⟩
    refine ⟨fun z => by rw [z] at h2; simp at h2, h3, ?_, ?_⟩
    · rintro ⟨q1, q2⟩
      rcases h4 with h4 | h4
      · unfold figs at h4
        by_cases t : x.take 1 = [45]
        · rw [if_pos t] at h4
          apply h1
          rw [← List.take_append_drop 1 x, t, h4]; rfl
        · rw [if_neg t] at h4
          exact q2 h4
      · exact h4.1 q1
    · rcases h4 with h4 | h4
      · rw [h4]; intro c hc; rw [List.mem_singleton.mp hc]; exact ⟨by decide, by decide⟩
      · exact h4.2
end TX
namespace TX
open L2
theorem split_no {c : Nat} : ∀ {x : List Nat}, c ∉ x → splitL c x = [x]
  | [], _ => rfl
  | a :: l, h => by
    have ha : a ≠ c := fun z => h (by rw [z]; simp)
    have ih := split_no (c := c) (x := l) fun z => h (List.mem_cons_of_mem _ z)
    rw [show splitL c (a :: l) = (if a = c then [] :: splitL c l else match splitL c l with | [] => [[a]] | p :: ps => (a :: p) :: ps) from rfl, if_neg ha, ih]
theorem split_cat (c : Nat) (y : List Nat) : ∀ x : List Nat, splitL c (x ++ c :: y) = splitL c x ++ splitL c y
  | [] => by
    rw [List.nil_append, show splitL c (c :: y) = (if c = c then [] :: splitL c y else match splitL c y with | [] => [[c]] | p :: ps => (c :: p) :: ps) from rfl, if_pos rfl]
    rfl
  | a :: l => by
    have ih := split_cat c y l
    rw [List.cons_append, show splitL c (a :: (l ++ c :: y)) = (if a = c then [] :: splitL c (l ++ c :: y) else match splitL c (l ++ c :: y) with | [] => [[a]] | p :: ps => (a :: p) :: ps) from rfl, ih]
    rw [show splitL c (a :: l) = (if a = c then [] :: splitL c l else match splitL c l with | [] => [[a]] | p :: ps => (a :: p) :: ps) from rfl]
    by_cases h : a = c
    · rw [if_pos h, if_pos h]; rfl
    · rw [if_neg h, if_neg h]
      cases hs : splitL c l with
      | nil => exact absurd hs (splitL_ne c l)
      | cons p ps => rfl
theorem split_join {c : Nat} : ∀ {ws : List (List Nat)}, ws ≠ [] → (∀ w ∈ ws, c ∉ w) → splitL c (joinL [c] ws) = ws
  | [], h, _ => absurd rfl h
  | [w], _, h => split_no (h w (by simp))
  | w :: v :: ws, _, h => by
    have ih := split_join (c := c) (ws := v :: ws) (by simp) fun u hu => h u (List.mem_cons_of_mem _ hu)
    have e : joinL [c] (w :: v :: ws) = w ++ c :: joinL [c] (v :: ws) := by
      show w ++ [c] ++ joinL [c] (v :: ws) = _
      simp
    rw [e, split_cat, ih, split_no (h w (by simp))]
    rfl
theorem dg_head {m : Nat} (h : m ≠ 0) : (dg m).head? ≠ some 48 := by
  induction m using Nat.strongRecOn with
  | _ m ih =>
    by_cases hm : m < 10
    · rw [dg_small hm]
      have d := digit_back m hm
      intro z
      have e : (Nat.digitChar m).toNat = 48 := by simpa using z
      omega
    · rw [dg_big hm]
      have ih := ih (m / 10) (by omega) (by omega)
      cases hd : dg (m / 10) with
      | nil => exact absurd hd (dg_ne _)
      | cons a l =>
        rw [hd] at ih
        exact ih
theorem figs_sg (n : Int) : figs (sg n) = dg n.natAbs := by
  cases n with
  | ofNat m =>
    rw [show sg (Int.ofNat m) = dg m from sg_nat m]
    unfold figs
    rw [if_neg]
    · rfl
    · intro z
      cases hd : dg m with
      | nil => exact dg_ne _ hd
      | cons a l =>
        rw [hd] at z
        have e : a = 45 := by simpa using z
        have := dg_in (m := m) (c := a) (by rw [hd]; simp)
        omega
  | negSucc m =>
    rw [sg_neg]
    unfold figs
    rw [if_pos (show List.take 1 (45 :: dg (m + 1)) = [45] from rfl)]
    rfl
theorem val_sg (n : Int) : valT (sg n) = n := by
  cases n with
  | ofNat m =>
    rw [show sg (Int.ofNat m) = dg m from sg_nat m]
    unfold valT
    rw [if_neg, val_dg]
    · rfl
    · intro z
      cases hd : dg m with
      | nil => exact dg_ne _ hd
      | cons a l =>
        rw [hd] at z
        have e : a = 45 := by simpa using z
        have := dg_in (m := m) (c := a) (by rw [hd]; simp)
        omega
  | negSucc m =>
    rw [sg_neg]
    unfold valT
    rw [if_pos (show List.take 1 (45 :: dg (m + 1)) = [45] from rfl)]
    show -((valD (dg (m + 1)) : Nat) : Int) = _
    rw [val_dg]
    rfl
theorem good_sg {n : Int} (h : n.natAbs < 10 ^ 1000) : Good (sg n) := by
  have hl := dg_len (k := 1000) (m := n.natAbs) (by decide) h
  unfold Good
  rw [figs_sg]
  refine ⟨dg_ne _, hl, ?_, fun c hc => dg_in hc⟩
  rintro ⟨h1, h2⟩
  by_cases h0 : n = 0
  · subst h0
    exact h2 (by decide)
  · exact dg_head (m := n.natAbs) (by omega) h1
end TX
namespace TB
open PySem L2 TX
def BN (n : Int) : Prop := n.natAbs < 10 ^ 2000
theorem BN.all {n : Int} (h : BN n) : n.natAbs < 10 ^ 4300 := Nat.lt_of_lt_of_le h (Nat.pow_le_pow_right (by decide) (by decide))
theorem BN.of {n : Int} (h1 : -(10 ^ 200) < n) (h2 : n < 10 ^ 200) : BN n := Nat.lt_of_lt_of_le (show n.natAbs < 10 ^ 200 by omega) (Nat.pow_le_pow_right (by decide) (by decide))
theorem of_num (n : Int) : Str.ofString (toString n) = S (sg n) := by
  rw [S_ex (Str.ofString (toString n)), PyProof.Rows.signs_ofString]
  rfl
theorem sg_len0 {n : Int} (h : BN n) : (sg n).length ≤ 2001 := sg_len (by decide) h
def OddV (H : Hp) (v : V) : Prop := v = .non ∨ (∃ i, v = .int i) ∨ (∃ b, v = .bl b) ∨ (∃ p xs, v = .ref p ∧ H p = some (.tup xs)) ∨ ∃ p xs, v = .ref p ∧ H p = some (.lst xs)
def TextV (H : Hp) (v : V) : Prop := (∃ x, v = .str (S x) ∧ x.length ≤ 3000) ∨ OddV H v
theorem TextV.same {H H' : Hp} {v : V} (h : TextV H v) (s : Same H H') : TextV H' v := by
  rcases h with h | h | h | h | ⟨p, xs, e, h⟩ | ⟨p, xs, e, h⟩
  · exact .inl h
  · exact .inr (.inl h)
  · exact .inr (.inr (.inl h))
  · exact .inr (.inr (.inr (.inl h)))
  · exact .inr (.inr (.inr (.inr (.inl ⟨p, xs, e, s _ _ h⟩))))
  · exact .inr (.inr (.inr (.inr (.inr ⟨p, xs, e, s _ _ h⟩))))
theorem OddV.ty {K : PySem.W.Frag} {H : Hp} {v : V} (h : OddV H v) : ∃ t, TyOf K H v t ∧ PySem.W.kitOne K t (.type "str") = some false := by
  rcases h with rfl | ⟨i, rfl⟩ | ⟨b, rfl⟩ | ⟨p, xs, rfl, h⟩ | ⟨p, xs, rfl, h⟩
  · exact ⟨_, .non, rfl⟩
  · exact ⟨_, .int _, rfl⟩
  · exact ⟨_, .bl _, rfl⟩
  · exact ⟨_, .tup h, rfl⟩
  · exact ⟨_, .lst h, rfl⟩
theorem int_good {x : List Nat} (h : TX.Good x) : PySem.intText? (S x) = some (valT x) := by
  obtain ⟨h1, h2, h3, h4⟩ := h
  unfold figs at h1 h2 h4
  unfold valT
  by_cases t : x.take 1 = [45]
  · rw [if_pos t] at h1 h2 h4 ⊢
    have hx : x = 45 :: x.drop 1 := by
      have := List.take_append_drop 1 x
      rw [t] at this
      exact this.symm
    refine PySem.intText_neg (x := S x) (cs := x.drop 1) ?_ (fun c hc => h4 c hc) h1 ?_
    · show x.toArray.toList = _
      rw [← hx]
    · rw [S_len, hx, List.length_cons]; omega
  · rw [if_neg t] at h1 h2 h4 ⊢
    refine PySem.intText_digits (x := S x) (fun c hc => h4 c hc) h1 ?_
    rw [S_len]; omega
def frT (a b : Int) : List Nat := if b = 1 then sg a else sg a ++ 47 :: sg b
theorem no47 (a : Int) : 47 ∉ sg a := fun h => by have := sg_in h; omega
theorem frT_inj {a b c d : Int} (h : frT a b = frT c d) : a = c ∧ b = d := by
  unfold frT at h
  by_cases hb : b = 1
  · rw [if_pos hb] at h
    by_cases hd : d = 1
    · rw [if_pos hd] at h
      exact ⟨sg_inj h, by rw [hb, hd]⟩
    · rw [if_neg hd] at h
      exact absurd (by rw [h]; simp) (no47 a)
  · rw [if_neg hb] at h
    by_cases hd : d = 1
    · rw [if_pos hd] at h
      exact absurd (by rw [← h]; simp) (no47 c)
    · rw [if_neg hd] at h
      obtain ⟨e1, e2⟩ := mark_inj (no47 a) (no47 c) h
      exact ⟨sg_inj e1, sg_inj e2⟩
theorem frT_len {a b : Int} (ha : BN a) (hb : BN b) : (frT a b).length ≤ 5000 := by
  have h1 := sg_len0 ha
  have h2 := sg_len0 hb
  unfold frT
  split
  · omega
  · rw [List.length_append, List.length_cons]; omega
def EndT (H : Hp) (w : Str) (v : V) (t : List Nat) : Prop :=
  (w = "mean" ∧ ∃ p a b, v = .ref p ∧ H p = some (.tup [.int a, .int b]) ∧ BN a ∧ BN b ∧ t = frT a b) ∨ (w ≠ "mean" ∧ ∃ n, v = .int n ∧ BN n ∧ t = sg n)
theorem EndT.len {H : Hp} {w : Str} {v : V} {t : List Nat} (h : EndT H w v t) : t.length ≤ 5000 := by
  rcases h with ⟨_, p, a, b, _, _, h1, h2, rfl⟩ | ⟨_, n, _, h1, rfl⟩
  · exact frT_len h1 h2
  · have := sg_len0 h1; omega
theorem EndT.eq {K : PySem.W.Frag} {H : Hp} {w : Str} {v u : V} {s t : List Nat} (h : EndT H w v s) (k : EndT H w u t) :
    ∃ d e, Rep K H v d ∧ Rep K H u e ∧ d.canLay0 = true ∧ e.canLay0 = true ∧ d.depth ≤ 20 ∧ PyData.eqv d e = decide (s = t) := by
  rcases h with ⟨hw, p, a, b, rfl, h0, h1, h2, rfl⟩ | ⟨hw, n, rfl, h1, rfl⟩
  · rcases k with ⟨_, q, c, d, rfl, k0, k1, k2, rfl⟩ | ⟨kw, _⟩
    · refine ⟨_, _, .tup (SqT.of h0) (.cons (.int a) (.cons (.int b) .nil)), .tup (SqT.of k0) (.cons (.int c) (.cons (.int d) .nil)), by simp [PyData.canLay0, PyData.canLayAll0], by simp [PyData.canLay0, PyData.canLayAll0], by simp [PyData.depth, PyData.depthAll], ?_⟩
      have e : (frT a b = frT c d) ↔ (a = c ∧ b = d) := ⟨frT_inj, fun ⟨x, y⟩ => by rw [x, y]⟩
      rw [Bool.eq_iff_iff, decide_eq_true_iff, e]
      simp [PyData.eqv, PyData.eqvAll]
    · exact absurd hw kw
  · rcases k with ⟨kw, _⟩ | ⟨_, m, rfl, k1, rfl⟩
    · exact absurd kw hw
    · refine ⟨_, _, .int n, .int m, rfl, rfl, by simp [PyData.depth], ?_⟩
      have e : (sg n = sg m) ↔ n = m := ⟨sg_inj, fun x => by rw [x]⟩
      rw [Bool.eq_iff_iff, decide_eq_true_iff, e]
      simp [PyData.eqv]
def sp_num : Sp := fun vs H Q _ => ∃ n, vs = [.int n] ∧ BN n ∧ Q (.str (S (sg n))) H
end TB
namespace TB
open PySem L2 TX
def Figs (x : List Nat) : Prop := 1 ≤ x.length ∧ x.length ≤ 1000 ∧ (x = [48] ∨ (x.head? ≠ some 48 ∧ ∀ c ∈ x, IsDig c))
instance (x : List Nat) : Decidable (Figs x) := inferInstanceAs (Decidable (_ ∧ _ ∧ _))
theorem good_figs (x : List Nat) : TX.Good x ↔ x ≠ [45, 48] ∧ Figs (figs x) := good_iff x
def sp_good (C : Addr) : Sp := fun vs H Q E => ∃ b, vs = [.bl b] ∧ (b = true → Q .non H) ∧ (b = false → ∀ dx H', New H H' dx (.xd [("line", .int 0)]) → E (.ref C) (some dx) H')
def sp_figs : Sp := fun vs H Q _ => ∃ x : List Nat, vs = [.str (S x)] ∧ x.length ≤ 3000 ∧ ∀ H', Same H H' → Q (.bl (decide (Figs x))) H'
def Read (H : Hp) (v : V) (r : Option Int) : Prop := (∃ x, v = .str (S x) ∧ x.length ≤ 3000 ∧ r = if TX.Good x then some (valT x) else none) ∨ (OddV H v ∧ r = none)
def sp_read (C : Addr) : Sp := fun vs H Q E => ∃ v r, vs = [v] ∧ Read H v r ∧ (∀ n, r = some n → ∀ H', Same H H' → Q (.int n) H') ∧ (r = none → ∀ dx H1 H', Same H H1 → New H1 H' dx (.xd [("line", .int 0)]) → E (.ref C) (some dx) H')
theorem fig_in (c : Nat) : decide (c ∈ (Str.ofString "0123456789").cps.toList) = decide (IsDig c) := by
  have e : (Str.ofString "0123456789").cps.toList = [48, 49, 50, 51, 52, 53, 54, 55, 56, 57] := by decide +kernel
  rw [e, decide_eq_decide]
  unfold IsDig
  simp
  omega
end TB
namespace TB
open PySem L2
def StepOk (p : Int × Int) : Prop := 0 ≤ p.1 ∧ 1 ≤ p.2
def NextOk (p q : Int × Int) : Prop := p.1 ≤ q.1 ∧ q.2 % p.2 = 0
def RuleOk (ps : List (Int × Int)) (g : Option Int) : Prop := Good ps ∧ ∀ p, ps[ps.length - 1]? = some p → GoneOk g p.1
def sp_one (C : Addr) : Sp := fun vs H Q E => ∃ x p, vs = [x] ∧ PairAt H x p ∧ (StepOk p → Q .non H) ∧ (¬ StepOk p → E (.ref C) none H)
inductive sp_next (C : Addr) (vs : List V) (H : Hp) (Q : VK) (E : XK) : Prop
  | mk : ∀ x y p q, vs = [x, y] → PairAt H x p → PairAt H y q → 1 ≤ p.2 → (NextOk p q → Q .non H) → (¬ NextOk p q → E (.ref C) none H) → sp_next C vs H Q E
inductive sp_csteps (C : Addr) (vs : List V) (H : Hp) (Q : VK) (E : XK) : Prop
  | mk : ∀ l xs ps, vs = [.ref l] → H l = some (.lst xs) → Pairs H xs ps → ps.length ≤ 1000 → (Good ps → ∀ H', Same H H' → Q .non H') → (¬ Good ps → ∀ H', Same H H' → E (.ref C) none H') → sp_csteps C vs H Q E
def sp_cgone (C : Addr) : Sp := fun vs H Q E => ∃ g last, vs = [gv g, .int last] ∧ (GoneOk g last → Q .non H) ∧ (¬ GoneOk g last → E (.ref C) none H)
inductive spX_init (C N : Addr) (vs : List V) (H : Hp) (Q : VK) (E : XK) : Prop
  | mk : ∀ r dx l xs ps g, vs = [.ref r, .ref l, gv g] → H r = some (.ins C dx []) → H l = some (.lst xs) → Pairs H xs ps → ps.length ≤ 1000 → (RuleOk ps g → ∀ l' H', H l' = none → RuleAt C H' r l' ps g → But r H H' → Q .non H') → (¬ RuleOk ps g → ∀ H', Same H H' → E (.ref N) none H') → spX_init C N vs H Q E
theorem Pairs.get2 {H : Hp} {xs : List V} {ps : List (Int × Int)} (h : Pairs H xs ps) {i : Nat} {p : Int × Int} (e : ps[i]? = some p) : ∃ a, xs[i]? = some (.ref a) ∧ H a = some (.tup [.int p.1, .int p.2]) := by
  obtain ⟨x, hx, a, rfl, ha⟩ := h.get' e
  exact ⟨a, hx, ha⟩
theorem Pairs.set {H : Hp} {v : V} {p : Int × Int} (r : PairAt H v p) : ∀ {xs : List V} {ps : List (Int × Int)} (i : Nat), Pairs H xs ps → Pairs H (xs.set i v) (ps.set i p)
  | _, _, _, .nil => .nil
  | _, _, 0, .cons _ t => .cons r t
  | _, _, i + 1, .cons q t => .cons q (Pairs.set r i t)
theorem Pairs.append {H : Hp} {ys : List V} {qs : List (Int × Int)} (h2 : Pairs H ys qs) : ∀ {xs : List V} {ps : List (Int × Int)}, Pairs H xs ps → Pairs H (xs ++ ys) (ps ++ qs)
  | _, _, .nil => h2
  | _, _, .cons q t => .cons q (Pairs.append h2 t)
theorem Pairs.repN {H : Hp} {v : V} {p : Int × Int} (r : PairAt H v p) : ∀ n : Nat, Pairs H (List.replicate n [v]).flatten (List.replicate n [p]).flatten
  | 0 => .nil
  | n + 1 => by
    simp only [List.replicate_succ, List.flatten_cons]
    exact .cons r (Pairs.repN r n)
theorem ixN_nat {n i : Nat} (h : i < n) : ixN n (i : Int) = some i := by
  unfold ixN
  rw [if_pos (by omega)]
  simp [h]
end TB
namespace TX
open L2
def goneW : List Nat := [103, 111, 110, 101]
def rowT (p : Int × Int) : List Nat := sg p.1 ++ 58 :: sg p.2
def goneT : Option Int → List (List Nat)
  | none => []
  | some z => [goneW, sg z]
def wordsR (ps : List (Int × Int)) (g : Option Int) : List (List Nat) := ps.map rowT ++ goneT g
def textR (ps : List (Int × Int)) (g : Option Int) : List Nat := joinL [32] (wordsR ps g)
def IsG (ws : List (List Nat)) : Prop := 2 ≤ ws.length ∧ ws[ws.length - 2]? = some goneW
instance (ws : List (List Nat)) : Decidable (IsG ws) := inferInstanceAs (Decidable (_ ∧ _))
def stepsW (ws : List (List Nat)) : List (List Nat) := if IsG ws then ws.take (ws.length - 2) else ws
def lastW (ws : List (List Nat)) : Option (List Nat) := if IsG ws then ws[ws.length - 1]? else none
def StepW (w : List Nat) : Prop := ∃ a b, splitL 58 w = [a, b] ∧ Good a ∧ Good b
def stepV (w : List Nat) : Int × Int := match splitL 58 w with
  | [a, b] => (valT a, valT b)
  | _ => (0, 0)
def WordsOk (ws : List (List Nat)) : Prop := (∀ u, lastW ws = some u → Good u) ∧ ∀ w ∈ stepsW ws, StepW w
theorem no58 (n : Int) : 58 ∉ sg n := fun h => by have := sg_in h; omega
theorem no32 (n : Int) : 32 ∉ sg n := fun h => by have := sg_in h; omega
theorem row_no (p : Int × Int) : 32 ∉ rowT p := fun h => by
  unfold rowT at h
  rcases List.mem_append.mp h with z | z
  · exact no32 _ z
  · rcases List.mem_cons.mp z with z | z
    · omega
    · exact no32 _ z
theorem row_ne (p : Int × Int) : rowT p ≠ goneW := fun h => by
  have : 58 ∈ goneW := by rw [← h]; unfold rowT; simp
  revert this; decide
theorem sg_ne (n : Int) : sg n ≠ goneW := fun h => by
  have : 103 ∈ sg n := by rw [h]; decide
  have := sg_in this; omega
theorem sg_nil (n : Int) : sg n ≠ [] := by
  cases n with
  | ofNat m => rw [show Int.ofNat m = (m : Int) from rfl, sg_nat]; exact dg_ne m
  | negSucc m => rw [sg_neg]; simp
theorem words_no (ps : List (Int × Int)) (g : Option Int) : ∀ w ∈ wordsR ps g, 32 ∉ w := fun w hw => by
  rcases List.mem_append.mp hw with z | z
  · obtain ⟨p, _, rfl⟩ := List.mem_map.mp z; exact row_no p
  · cases g with
    | none => cases z
    | some n =>
      rcases List.mem_cons.mp z with rfl | z
      · decide
      · rw [List.mem_singleton.mp z]; exact no32 n
theorem words_ne {ps : List (Int × Int)} {g : Option Int} (h : ps ≠ []) : wordsR ps g ≠ [] := by
  cases ps with
  | nil => exact absurd rfl h
  | cons p l => unfold wordsR; simp
theorem split_text {ps : List (Int × Int)} {g : Option Int} (h : ps ≠ []) : splitL 32 (textR ps g) = wordsR ps g := split_join (words_ne h) (words_no ps g)
theorem split_row (p : Int × Int) : splitL 58 (rowT p) = [sg p.1, sg p.2] := by
  unfold rowT
  rw [split_cat, split_no (no58 _), split_no (no58 _)]; rfl
def Sm (n : Int) : Prop := n.natAbs < 10 ^ 100
theorem Sm.big {n : Int} (h : Sm n) : n.natAbs < 10 ^ 1000 := Nat.lt_of_lt_of_le h (Nat.pow_le_pow_right (by decide) (by decide))
theorem step_row {p : Int × Int} (h1 : Sm p.1) (h2 : Sm p.2) : StepW (rowT p) := ⟨_, _, split_row p, good_sg h1.big, good_sg h2.big⟩
theorem stepV_row (p : Int × Int) : stepV (rowT p) = p := by
  unfold stepV
  rw [split_row]
  simp only [val_sg]
theorem rowT_get {ps : List (Int × Int)} {i : Nat} {w : List Nat} (h : (ps.map rowT)[i]? = some w) : w ≠ goneW := by
  rw [List.getElem?_map] at h
  obtain ⟨p, _, rfl⟩ := Option.map_eq_some_iff.mp h
  exact row_ne p
theorem isG_words {ps : List (Int × Int)} {g : Option Int} (h : ps ≠ []) : IsG (wordsR ps g) ↔ g ≠ none := by
  cases g with
  | none =>
    refine ⟨fun z => ?_, fun z => absurd rfl z⟩
    have e : wordsR ps none = ps.map rowT := by unfold wordsR goneT; simp
    rw [e] at z
    exact absurd rfl (rowT_get z.2)
  | some n =>
    refine ⟨fun _ => by simp, fun _ => ?_⟩
    unfold wordsR goneT IsG
    refine ⟨by simp, ?_⟩
    rw [List.getElem?_append_right (by simp)]
    simp
theorem steps_words {ps : List (Int × Int)} {g : Option Int} (h : ps ≠ []) : stepsW (wordsR ps g) = ps.map rowT ∧ lastW (wordsR ps g) = g.map sg := by
  unfold stepsW lastW
  cases g with
  | none =>
    have n : ¬ IsG (wordsR ps none) := fun z => (isG_words h).mp z rfl
    rw [if_neg n, if_neg n]
    exact ⟨by unfold wordsR goneT; simp, rfl⟩
  | some z =>
    have y : IsG (wordsR ps (some z)) := (isG_words h).mpr (by simp)
    rw [if_pos y, if_pos y]
    unfold wordsR goneT
    constructor
    · rw [List.take_append_of_le_length (by simp)]
      exact List.take_of_length_le (by simp)
    · rw [List.getElem?_append_right (by simp)]
      simp
theorem words_ok {ps : List (Int × Int)} {g : Option Int} (h : ps ≠ []) (hp : ∀ p ∈ ps, Sm p.1 ∧ Sm p.2) (hg : ∀ z, g = some z → Sm z) : WordsOk (wordsR ps g) := by
  obtain ⟨e1, e2⟩ := steps_words (g := g) h
  refine ⟨fun u hu => ?_, fun w hw => ?_⟩
  · rw [e2] at hu
    obtain ⟨z, rfl, rfl⟩ := Option.map_eq_some_iff.mp hu
    exact good_sg (hg z rfl).big
  · rw [e1] at hw
    obtain ⟨p, hpm, rfl⟩ := List.mem_map.mp hw
    exact step_row (hp p hpm).1 (hp p hpm).2
theorem steps_back {ps : List (Int × Int)} {g : Option Int} (h : ps ≠ []) : (stepsW (wordsR ps g)).map stepV = ps ∧ (lastW (wordsR ps g)).map valT = g := by
  obtain ⟨e1, e2⟩ := steps_words (g := g) h
  rw [e1, e2, List.map_map]
  refine ⟨?_, ?_⟩
  · conv => rhs; rw [← List.map_id ps]
    exact List.map_congr_left fun p _ => stepV_row p
  · cases g with
    | none => rfl
    | some z => simp [val_sg]
theorem no_step {w : List Nat} (h : 58 ∉ w) : ¬ StepW w := fun ⟨a, b, e, _⟩ => by rw [split_no h] at e; simp at e
theorem bad_first {w : List Nat} {ws : List (List Nat)} (h1 : ¬ StepW w) (h2 : w ≠ goneW) : ¬ WordsOk (w :: ws) := fun ⟨_, h⟩ => by
  refine h1 (h w ?_)
  unfold stepsW
  split
  · rename_i z
    cases ws with
    | nil => exact absurd z.1 (by simp)
    | cons v l =>
      cases l with
      | nil =>
        have z2 := z.2
        simp at z2
        exact absurd z2 h2
      | cons u l => simp
  · exact .head _
theorem isG_end {P : List (List Nat)} {a b : List Nat} : IsG (P ++ [a, b]) ↔ a = goneW := by
  unfold IsG
  constructor
  · rintro ⟨_, h⟩
    rw [List.getElem?_append_right (by simp)] at h
    simpa using h
  · intro h
    refine ⟨by simp, ?_⟩
    rw [List.getElem?_append_right (by simp), h]
    simp
theorem bad_in {P : List (List Nat)} {a b w : List Nat} (h1 : ¬ StepW w) (h : w ∈ P ∨ (a ≠ goneW ∧ (w = a ∨ w = b))) : ¬ WordsOk (P ++ [a, b]) := fun ⟨_, k⟩ => by
  refine h1 (k w ?_)
  unfold stepsW
  by_cases z : IsG (P ++ [a, b])
  · rw [if_pos z, List.take_append_of_le_length (by simp), List.take_of_length_le (by simp)]
    rcases h with h | ⟨h, _⟩
    · exact h
    · exact absurd (isG_end.mp z) h
  · rw [if_neg z]
    rcases h with h | ⟨_, rfl | rfl⟩
    · exact List.mem_append_left _ h
    · simp
    · simp
theorem bad_gone {P : List (List Nat)} {b : List Nat} (h : ¬ Good b) : ¬ WordsOk (P ++ [goneW, b]) := fun ⟨k, _⟩ => by
  refine h (k b ?_)
  unfold lastW
  rw [if_pos (isG_end.mpr rfl), List.getElem?_append_right (by simp)]
  simp
end TX
namespace TX
open L2
theorem ng_in {x : List Nat} {c : Nat} (h : c ∈ x) (h1 : c ≠ 45) (h2 : ¬ IsDig c) : ¬ Good x := fun g => by
  refine h2 (g.2.2.2 c ?_)
  unfold figs
  split
  · rename_i t
    cases x with
    | nil => cases h
    | cons a l =>
      simp at t
      rcases List.mem_cons.mp h with e | e
      · exact absurd (e.trans t) h1
      · exact e
  · exact h
theorem ng_nil : ¬ Good [] := fun g => g.1 rfl
theorem ng_zero {y : List Nat} (h : y ≠ []) : ¬ Good (48 :: y) := fun g => by
  have e : figs (48 :: y) = 48 :: y := by unfold figs; rw [if_neg (by simp)]
  refine g.2.2.1 ⟨by rw [e]; rfl, fun z => h ?_⟩
  simpa using z
theorem st2 {w a b : List Nat} (e : splitL 58 w = [a, b]) (h : ¬ Good a ∨ ¬ Good b) : ¬ StepW w := fun ⟨c, d, e2, gc, gd⟩ => by
  rw [e] at e2
  cases e2
  exact h.elim (fun z => z gc) fun z => z gd
theorem st3 {w a b c : List Nat} {l : List (List Nat)} (e : splitL 58 w = a :: b :: c :: l) : ¬ StepW w := fun ⟨_, _, e2, _⟩ => by
  rw [e] at e2; simp at e2
theorem first_row (p : Int × Int) (l : List (Int × Int)) (g : Option Int) : ∃ R, textR (p :: l) g = rowT p ++ R ∧ ∀ u, splitL 32 (u ++ R) = splitL 32 u ++ wordsR l g := by
  unfold textR
  have e : wordsR (p :: l) g = rowT p :: wordsR l g := rfl
  rw [e]
  cases h : wordsR l g with
  | nil => exact ⟨[], by simp [joinL], fun u => by simp⟩
  | cons w ws =>
    refine ⟨32 :: joinL [32] (w :: ws), by show rowT p ++ [32] ++ joinL [32] (w :: ws) = _; simp, fun u => ?_⟩
    rw [split_cat]
    congr 1
    refine split_join (by simp) fun v hv => words_no l g v ?_
    rw [h]; exact hv
theorem last_word {ps : List (Int × Int)} {g : Option Int} (h : ps ≠ []) : ∃ W a, wordsR ps g = W ++ [a] ∧ a ≠ goneW := by
  cases g with
  | none =>
    have e : wordsR ps none = ps.map rowT := by unfold wordsR goneT; simp
    obtain ⟨l, p, rfl⟩ : ∃ l p, ps = l ++ [p] := ⟨ps.dropLast, ps.getLast h, (List.dropLast_concat_getLast h).symm⟩
    exact ⟨l.map rowT, rowT p, by rw [e]; simp, row_ne p⟩
  | some z => exact ⟨ps.map rowT ++ [goneW], sg z, by unfold wordsR goneT; simp, sg_ne z⟩
theorem row_ns (p : Int × Int) (c : Nat) (h1 : c ≠ 45) (h2 : ¬ IsDig c) (h3 : c ≠ 58) : ¬ StepW (rowT p ++ [c]) := by
  have e : splitL 58 (rowT p ++ [c]) = [sg p.1, sg p.2 ++ [c]] := by
    unfold rowT
    rw [List.append_assoc, List.cons_append, split_cat, split_no (no58 _), split_no]
    · rfl
    · intro z
      rcases List.mem_append.mp z with z | z
      · exact no58 _ z
      · exact h3 (List.mem_singleton.mp z).symm
  exact st2 e (.inr (ng_in (c := c) (by simp) h1 h2))
theorem join_snoc (c : Nat) : ∀ (W : List (List Nat)) (a : List Nat), joinL [32] (W ++ [a]) ++ [c] = joinL [32] (W ++ [a ++ [c]])
  | [], a => rfl
  | [w], a => by show w ++ [32] ++ a ++ [c] = w ++ [32] ++ (a ++ [c]); simp
  | w :: v :: W, a => by
    have ih := join_snoc c (v :: W) a
    show w ++ [32] ++ joinL [32] (v :: W ++ [a]) ++ [c] = w ++ [32] ++ joinL [32] (v :: W ++ [a ++ [c]])
    rw [← ih]; simp
theorem not_steps {ws : List (List Nat)} {w : List Nat} (hw : w ∈ ws) (hs : ¬ StepW w) (hg : ¬ IsG ws) : ¬ WordsOk ws := fun ⟨_, k⟩ => hs (k w (by unfold stepsW; rw [if_neg hg]; exact hw))
theorem bad_end {ps : List (Int × Int)} {g : Option Int} (h : ps ≠ []) {c : Nat} (h1 : c ≠ 45) (h2 : ¬ IsDig c) (h3 : c ≠ 58) (h4 : c ≠ 32) (h5 : c ≠ 101) : ¬ WordsOk (splitL 32 (textR ps g ++ [c])) ∧ (splitL 32 (textR ps g ++ [c])).length = (wordsR ps g).length := by
  cases g with
  | none =>
    obtain ⟨l, p, rfl⟩ : ∃ l p, ps = l ++ [p] := ⟨ps.dropLast, ps.getLast h, (List.dropLast_concat_getLast h).symm⟩
    have e : wordsR (l ++ [p]) none = l.map rowT ++ [rowT p] := by unfold wordsR goneT; simp
    have e2 : splitL 32 (textR (l ++ [p]) none ++ [c]) = l.map rowT ++ [rowT p ++ [c]] := by
      unfold textR
      rw [e, join_snoc]
      refine split_join (by simp) fun w hw => ?_
      rcases List.mem_append.mp hw with z | z
      · obtain ⟨q, _, rfl⟩ := List.mem_map.mp z; exact row_no q
      · rw [List.mem_singleton.mp z]
        intro y
        rcases List.mem_append.mp y with y | y
        · exact row_no p y
        · exact h4 (List.mem_singleton.mp y).symm
    rw [e2, e]
    refine ⟨not_steps (w := rowT p ++ [c]) (by simp) (row_ns p c h1 h2 h3) fun z => ?_, by simp⟩
    have z2 := z.2
    simp only [List.length_append, List.length_map, List.length_singleton] at z2
    have z1 := z.1
    simp only [List.length_append, List.length_map, List.length_singleton] at z1
    rw [List.getElem?_append_left (by simp; omega)] at z2
    exact rowT_get z2 rfl
  | some z =>
    have e : wordsR ps (some z) = (ps.map rowT ++ [goneW]) ++ [sg z] := by unfold wordsR goneT; simp
    have e2 : splitL 32 (textR ps (some z) ++ [c]) = (ps.map rowT ++ [goneW]) ++ [sg z ++ [c]] := by
      unfold textR
      rw [e, join_snoc]
      refine split_join (by simp) fun w hw => ?_
      rcases List.mem_append.mp hw with y | y
      · exact words_no ps (some z) w (by rw [e]; exact List.mem_append_left _ y)
      · rw [List.mem_singleton.mp y]
        intro y
        rcases List.mem_append.mp y with y | y
        · exact no32 z y
        · exact h4 (List.mem_singleton.mp y).symm
    rw [e2, e]
    refine ⟨?_, by simp⟩
    have := bad_gone (P := ps.map rowT) (b := sg z ++ [c]) (ng_in (c := c) (by simp) h1 h2)
    simpa using this
end TX
namespace TX
open L2
theorem sgs_no {a b : Int} {m : List Nat} (h : 58 ∉ m) : 58 ∉ sg a ++ m ++ sg b := fun z => by
  rcases List.mem_append.mp z with z | z
  · rcases List.mem_append.mp z with z | z
    · exact no58 _ z
    · exact h z
  · exact no58 _ z
theorem sgs_no32 {a b : Int} {m : List Nat} (h : 32 ∉ m) : 32 ∉ sg a ++ m ++ sg b := fun z => by
  rcases List.mem_append.mp z with z | z
  · rcases List.mem_append.mp z with z | z
    · exact no32 _ z
    · exact h z
  · exact no32 _ z
theorem sgs_ne {a b : Int} {m : List Nat} (h : 103 ∉ m) : sg a ++ m ++ sg b ≠ goneW := fun e => by
  have z : 103 ∈ sg a ++ m ++ sg b := by rw [e]; decide
  rcases List.mem_append.mp z with z | z
  · rcases List.mem_append.mp z with z | z
    · have := sg_in z; omega
    · exact h z
  · have := sg_in z; omega
theorem sp_blank_end {ps : List (Int × Int)} {g : Option Int} (h : ps ≠ []) : ¬ WordsOk (splitL 32 (textR ps g ++ [32])) ∧ (splitL 32 (textR ps g ++ [32])).length = (wordsR ps g).length + 1 := by
  have e : splitL 32 (textR ps g ++ [32]) = wordsR ps g ++ [[]] := by
    rw [show textR ps g ++ [32] = textR ps g ++ 32 :: [] from rfl, split_cat, split_text h]; rfl
  rw [e]
  obtain ⟨W, a, ew, ha⟩ := last_word (g := g) h
  refine ⟨?_, by simp⟩
  rw [ew, List.append_assoc]
  exact bad_in (w := []) (no_step (by simp)) (.inr ⟨ha, .inr rfl⟩)
theorem sp_blank_first {ps : List (Int × Int)} {g : Option Int} (h : ps ≠ []) : ¬ WordsOk (splitL 32 ([32] ++ textR ps g)) ∧ (splitL 32 ([32] ++ textR ps g)).length = (wordsR ps g).length + 1 := by
  have e : splitL 32 ([32] ++ textR ps g) = [] :: wordsR ps g := by
    rw [show [32] ++ textR ps g = [] ++ 32 :: textR ps g from rfl, split_cat, split_text h]; rfl
  rw [e]
  exact ⟨bad_first (no_step (by simp)) (by decide), by simp⟩
theorem sp_first {p : Int × Int} {l : List (Int × Int)} {g : Option Int} {R : List Nat} (hR : ∀ u, splitL 32 (u ++ R) = splitL 32 u ++ wordsR l g) {u : List Nat} (h32 : 32 ∉ u) (hs : ¬ StepW u) (hg : u ≠ goneW) : ¬ WordsOk (splitL 32 (u ++ R)) ∧ (splitL 32 (u ++ R)).length = (wordsR l g).length + 1 := by
  rw [hR, split_no h32]
  exact ⟨bad_first hs hg, by simp⟩
theorem sp_colons {p : Int × Int} : ¬ StepW (sg p.1 ++ [58, 58] ++ sg p.2) := by
  refine st3 (a := sg p.1) (b := []) (c := sg p.2) (l := []) ?_
  rw [show sg p.1 ++ [58, 58] ++ sg p.2 = sg p.1 ++ 58 :: ([] ++ 58 :: sg p.2) by simp, split_cat, split_cat, split_no (no58 _), split_no (no58 _)]; rfl
theorem sp_cut {p : Int × Int} {l : List (Int × Int)} {g : Option Int} {R : List Nat} (hR : ∀ u, splitL 32 (u ++ R) = splitL 32 u ++ wordsR l g) : ¬ WordsOk (splitL 32 (sg p.1 ++ [58, 32] ++ sg p.2 ++ R)) ∧ (splitL 32 (sg p.1 ++ [58, 32] ++ sg p.2 ++ R)).length = (wordsR l g).length + 2 := by
  have e : splitL 32 (sg p.1 ++ [58, 32] ++ sg p.2) = [sg p.1 ++ [58], sg p.2] := by
    rw [show sg p.1 ++ [58, 32] ++ sg p.2 = (sg p.1 ++ [58]) ++ 32 :: sg p.2 by simp, split_cat, split_no, split_no (no32 _)]
    · rfl
    · intro z
      rcases List.mem_append.mp z with z | z
      · exact no32 _ z
      · simp at z
  rw [hR, e]
  refine ⟨bad_first ?_ (fun z => ?_), by simp⟩
  · have e2 : splitL 58 (sg p.1 ++ [58]) = [sg p.1, []] := by
      rw [show sg p.1 ++ [58] = sg p.1 ++ 58 :: [] from rfl, split_cat, split_no (no58 _)]; rfl
    exact st2 e2 (.inr ng_nil)
  · have : 58 ∈ goneW := by rw [← z]; simp
    revert this; decide
theorem sp_head {p : Int × Int} {c : Nat} (h58 : c ≠ 58) (h : ¬ Good (c :: sg p.1)) : ¬ StepW ([c] ++ rowT p) := by
  have e : splitL 58 ([c] ++ rowT p) = [c :: sg p.1, sg p.2] := by
    unfold rowT
    rw [show [c] ++ (sg p.1 ++ 58 :: sg p.2) = (c :: sg p.1) ++ 58 :: sg p.2 from rfl, split_cat, split_no, split_no (no58 _)]
    · rfl
    · intro z
      rcases List.mem_cons.mp z with z | z
      · exact h58 z.symm
      · exact no58 _ z
  exact st2 e (.inl h)
theorem sp_head32 {p : Int × Int} {c : Nat} (h : c ≠ 32) : 32 ∉ [c] ++ rowT p := fun z => by
  rcases List.mem_append.mp z with z | z
  · exact h (List.mem_singleton.mp z).symm
  · exact row_no p z
theorem sp_headG {p : Int × Int} {c : Nat} : [c] ++ rowT p ≠ goneW := fun z => by
  have : 58 ∈ goneW := by rw [← z]; unfold rowT; simp
  revert this; decide
theorem plain_split {ps : List (Int × Int)} (h : ps ≠ []) (y : List Nat) : splitL 32 (textR ps none ++ 32 :: y) = ps.map rowT ++ splitL 32 y := by
  rw [split_cat, split_text h]
  unfold wordsR goneT; simp
theorem rows_last {ps : List (Int × Int)} (h : ps ≠ []) : ∃ P a, ps.map rowT = P ++ [a] ∧ a ≠ goneW := by
  obtain ⟨W, a, e, ha⟩ := last_word (g := none) h
  refine ⟨W, a, ?_, ha⟩
  rw [← e]; unfold wordsR goneT; simp
theorem sp_tail {ps : List (Int × Int)} (h : ps ≠ []) {y : List Nat} {T : List (List Nat)} (e : splitL 32 y = T) (hT : (∃ b, T = [goneW, b] ∧ ¬ Good b) ∨ (∃ w, T = [w] ∧ ¬ StepW w) ∨ (∃ Z a b w, T = Z ++ [a, b] ∧ ¬ StepW w ∧ (w ∈ Z ∨ (a ≠ goneW ∧ (w = a ∨ w = b))))) :
    ¬ WordsOk (splitL 32 (textR ps none ++ 32 :: y)) ∧ (splitL 32 (textR ps none ++ 32 :: y)).length = ps.length + T.length := by
  rw [plain_split h, e]
  refine ⟨?_, by simp⟩
  rcases hT with ⟨b, rfl, hb⟩ | ⟨w, rfl, hw⟩ | ⟨Z, a, b, w, rfl, hw, hz⟩
  · exact bad_gone hb
  · obtain ⟨P, a, ep, ha⟩ := rows_last h
    rw [ep, List.append_assoc]
    exact bad_in (w := w) hw (.inr ⟨ha, .inr rfl⟩)
  · rw [← List.append_assoc]
    exact bad_in hw (hz.imp (fun z => List.mem_append_right _ z) id)
end TX
local macro_rules | `(tactic| walk_at "same") => `(tactic| first | exact L2.Same.refl _ | assumption | exact L2.New.same (by assumption) | (refine L2.same_by ?_ (by assumption); walk_at "same") | (refine L2.Same.trans ?_ (by assumption); walk_at "same"))
local macro_rules | `(tactic| walk_at "fact") => `(tactic| first | assumption | exact L2.New.at_ (by assumption) | (refine L2.up_new (by assumption) ?_; walk_at "fact") | (refine L2.up_same (by assumption) ?_; walk_at "fact"))
local macro_rules | `(tactic| walk_at "sq") => `(tactic| first | assumption | exact L2.SqL.of (by walk_at "fact") | exact L2.SqT.of (by walk_at "fact") | exact Or.inl (L2.SqL.of (by walk_at "fact")) | exact Or.inr (L2.SqT.of (by walk_at "fact")) | exact Or.inl (by assumption) | walk_at "fact")
local macro_rules | `(tactic| walk_at "c") => `(tactic| first
  | ((with_reducible show _ ≤ PySem.sizeLine); first | exact Nat.le_of_lt (L2.small1000 (Nat.le_of_ble_eq_true rfl)) | exact Nat.le_of_lt (L2.small1000 (by omega)) | exact Nat.le_of_lt (L2.small1000 (by simp only [List.length_map, List.length_append, List.length_cons, List.length_nil]; omega)))
  | ((with_reducible show _ < PySem.sizeLine); first | exact L2.small1000 (by omega) | exact L2.small1000 (by simp only [List.length_map, List.length_append, List.length_cons, List.length_nil]; omega))
  | decide | omega | (dsimp only; first | decide | omega) | (simp only [List.length_map, List.length_append, List.length_cons, List.length_nil]; omega)
  | ((with_reducible refine And.intro ?_ ?_) <;> walk_at "c")
  | (refine And.intro ?_ ?_ <;> walk_at "c") | (refine Or.inl ?_; walk_at "c") | (refine Or.inr ?_; walk_at "c"))
local macro_rules | `(tactic| walk_at "at") => `(tactic| first | rfl | assumption | exact L2.atI_nat (by assumption) | exact TB.atI_m1 (by assumption))
local macro_rules | `(tactic| walk_at "ty") => `(tactic| first | exact L2.TyOf.int _ | exact L2.TyOf.bl _ | exact L2.TyOf.non | exact L2.TyOf.str _ | exact L2.TyOf.lst (by walk_at "fact") | exact L2.TyOf.tup (by walk_at "fact"))
local macro_rules | `(tactic| walk_at "kit") => `(tactic| first | exact L2.kit_int_int _ | exact L2.kit_int_bool _ | exact L2.kit_list _ | exact L2.kit_tuple _ | rfl)
local macro_rules | `(tactic| walk_at "r1") => `(tactic| first
  | refine L2.tVarS.mk _ rfl ?_
  | refine L2.rI0S.mk _ _ rfl rfl ?_
  | refine L2.rIxLS.mk _ _ _ _ rfl rfl (by walk_at "sq") (by walk_at "at") ?_
  | refine L2.rIxTS.mk _ _ _ _ rfl rfl (by walk_at "sq") (by walk_at "at") ?_
  | refine L2.rIS.mk _ _ rfl rfl (by walk_at "c") ?_
  | refine L2.tBS.mk _ rfl ?_
  | refine L2.tAndVS.mk _ rfl ?_
  | refine L2.tOrVS.mk _ rfl ?_
  | refine L2.tNotVS.mk _ rfl ?_
  | refine L2.rUS.mk _ rfl ?_
  | refine L2.tPartS.mk _ rfl ?_
  | refine L2.rSlLNS.mk _ _ rfl (by walk_at "sq") ?_
  | refine L2.rAppendNS.mk _ _ _ rfl rfl (by walk_at "fact") (by walk_at "c") ?_
  | refine Exists.intro _ (And.intro rfl ?_)
  | refine Exists.intro _ (Exists.intro _ (And.intro rfl (And.intro rfl ?_)))
  | refine And.intro rfl ?_
  | refine Exists.intro _ (Exists.intro _ (And.intro rfl (And.intro (by walk_at "sq") ?_)))
  | refine Exists.intro _ (Exists.intro _ (Exists.intro _ (Exists.intro _ (And.intro rfl (And.intro rfl (And.intro (by walk_at "sq") (And.intro (by walk_at "at") ?_)))))))
  | refine And.intro (Or.inl ⟨rfl, _, L2.SqL.of (by walk_at "fact")⟩) ?_
  | refine Exists.intro _ (Exists.intro _ (Exists.intro _ (And.intro rfl (And.intro rfl (And.intro (by walk_at "fact") (And.intro (by walk_at "c") ?_))))))
  | refine Exists.intro _ (Exists.intro _ (Exists.intro _ (Exists.intro _ (And.intro rfl (And.intro (by walk_at "ty") (And.intro (by walk_at "kit") ?_))))))
  | refine Exists.intro _ (Exists.intro _ (And.intro rfl ?_))
  | refine And.intro (by walk_at "c") ?_
  | refine L2.iteT ?_
  | refine L2.iteF ?_)
local macro_rules | `(tactic| walk_at "r") => `(tactic| (walk_at "r1"; repeat walk_at "r1"))
namespace TB
open PySem L2
def top (i : Nat) : Stmt := PySem.Challenge.pw_thinbook_k82_rules_written.main.body.getD i (.Pass ⟨0, 0, 0, 0⟩)
abbrev s_is_whole : Stmt := (top 7)
abbrev s_is_step : Stmt := (top 10)
abbrev s_check_one_step : Stmt := (top 11)
abbrev s_check_next_step : Stmt := (top 12)
abbrev s_check_steps : Stmt := (top 13)
abbrev s_check_gone : Stmt := (top 14)
abbrev s_Rule_init : Stmt := (inClass (top 15) 0)
abbrev s_Rule_steps : Stmt := (inClass (top 15) 1)
abbrev s_Rule_gone : Stmt := (inClass (top 15) 2)
abbrev s_show_number : Stmt := (top 19)
abbrev s_show_rule : Stmt := (top 20)
abbrev s_check_good : Stmt := (top 21)
abbrev s_is_figures : Stmt := (top 22)
abbrev s_read_number : Stmt := (top 23)
abbrev s_read_numbers : Stmt := (top 24)
abbrev s_read_rule : Stmt := (top 25)
abbrev s__law_mixed : Stmt := (top 27)
abbrev s__law_amount : Stmt := (top 28)
abbrev s__law_rule : Stmt := (top 29)
abbrev s__law_text : Stmt := (top 30)
abbrev s__law_spoilt : Stmt := (top 31)
abbrev s__law_no_rule : Stmt := (top 32)
abbrev s__law_refused : Stmt := (top 33)
abbrev s_law : Stmt := (top 34)
abbrev s_NoText_init : Stmt := (inClass (top 5) 0)
theorem sc_is_whole : FnScope ["thing"] ["thing"] (defScope s_is_whole) := ⟨rfl, rfl, rfl, by decide +kernel, rfl, by decide +kernel, by decide +kernel⟩
theorem sc_is_step : FnScope ["thing"] ["thing"] (defScope s_is_step) := ⟨rfl, rfl, rfl, by decide +kernel, rfl, by decide +kernel, by decide +kernel⟩
theorem sc_check_one_step : FnScope ["step"] ["step"] (defScope s_check_one_step) := ⟨rfl, rfl, rfl, by decide +kernel, rfl, by decide +kernel, by decide +kernel⟩
theorem sc_check_next_step : FnScope ["step", "behind"] ["step", "behind"] (defScope s_check_next_step) := ⟨rfl, rfl, rfl, by decide +kernel, rfl, by decide +kernel, by decide +kernel⟩
theorem sc_check_steps : FnScope ["steps", "step", "behind"] ["steps"] (defScope s_check_steps) := ⟨rfl, rfl, rfl, by decide +kernel, rfl, by decide +kernel, by decide +kernel⟩
theorem sc_check_gone : FnScope ["gone", "last_age"] ["gone", "last_age"] (defScope s_check_gone) := ⟨rfl, rfl, rfl, by decide +kernel, rfl, by decide +kernel, by decide +kernel⟩
theorem sc_Rule_init : FnScope ["self", "steps", "gone", "kept"] ["self", "steps", "gone"] (defScope s_Rule_init) := ⟨rfl, rfl, rfl, by decide +kernel, rfl, by decide +kernel, by decide +kernel⟩
theorem sc_Rule_steps : FnScope ["self"] ["self"] (defScope s_Rule_steps) := ⟨rfl, rfl, rfl, by decide +kernel, rfl, by decide +kernel, by decide +kernel⟩
theorem sc_Rule_gone : FnScope ["self"] ["self"] (defScope s_Rule_gone) := ⟨rfl, rfl, rfl, by decide +kernel, rfl, by decide +kernel, by decide +kernel⟩
theorem sc_show_number : FnScope ["number"] ["number"] (defScope s_show_number) := ⟨rfl, rfl, rfl, by decide +kernel, rfl, by decide +kernel, by decide +kernel⟩
theorem sc_show_rule : FnScope ["rule", "words"] ["rule"] (defScope s_show_rule) := ⟨rfl, rfl, rfl, by decide +kernel, rfl, by decide +kernel, by decide +kernel⟩
theorem sc_check_good : FnScope ["good"] ["good"] (defScope s_check_good) := ⟨rfl, rfl, rfl, by decide +kernel, rfl, by decide +kernel, by decide +kernel⟩
theorem sc_is_figures : FnScope ["text"] ["text"] (defScope s_is_figures) := ⟨rfl, rfl, rfl, by decide +kernel, rfl, by decide +kernel, by decide +kernel⟩
theorem sc_read_number : FnScope ["text"] ["text"] (defScope s_read_number) := ⟨rfl, rfl, rfl, by decide +kernel, rfl, by decide +kernel, by decide +kernel⟩
theorem sc_read_numbers : FnScope ["words", "many"] ["words", "many"] (defScope s_read_numbers) := ⟨rfl, rfl, rfl, by decide +kernel, rfl, by decide +kernel, by decide +kernel⟩
theorem sc_read_rule : FnScope ["text", "words", "gone", "steps"] ["text"] (defScope s_read_rule) := ⟨rfl, rfl, rfl, by decide +kernel, rfl, by decide +kernel, by decide +kernel⟩
theorem sc__law_mixed : FnScope ["_law_x", "_law_k", "_law_number"] ["_law_x", "_law_k"] (defScope s__law_mixed) := ⟨rfl, rfl, rfl, by decide +kernel, rfl, by decide +kernel, by decide +kernel⟩
theorem sc__law_amount : FnScope ["_law_x"] ["_law_x"] (defScope s__law_amount) := ⟨rfl, rfl, rfl, by decide +kernel, rfl, by decide +kernel, by decide +kernel⟩
theorem sc__law_rule : FnScope ["_law_number", "_law_rows", "_law_age", "_law_width", "_law_k", "_law_x", "_law_end"] ["_law_number"] (defScope s__law_rule) := ⟨rfl, rfl, rfl, by decide +kernel, rfl, by decide +kernel, by decide +kernel⟩
theorem sc__law_text : FnScope ["_law_rows", "_law_end", "_law_words"] ["_law_rows", "_law_end"] (defScope s__law_text) := ⟨rfl, rfl, rfl, by decide +kernel, rfl, by decide +kernel, by decide +kernel⟩
theorem sc__law_spoilt : FnScope ["_law_text_here", "_law_rows", "_law_cell", "_law_plain", "_law_some"] ["_law_text_here", "_law_rows", "_law_cell"] (defScope s__law_spoilt) := ⟨rfl, rfl, rfl, by decide +kernel, rfl, by decide +kernel, by decide +kernel⟩
theorem sc__law_no_rule : FnScope ["_law_rows", "_law_end", "_law_cell", "_law_found", "_law_at", "_law_age", "_law_width"] ["_law_rows", "_law_end", "_law_cell"] (defScope s__law_no_rule) := ⟨rfl, rfl, rfl, by decide +kernel, rfl, by decide +kernel, by decide +kernel⟩
theorem sc__law_refused : FnScope ["_law_text_here", "_law_word", "e"] ["_law_text_here"] (defScope s__law_refused) := ⟨rfl, rfl, rfl, by decide +kernel, rfl, by decide +kernel, by decide +kernel⟩
theorem sc_law : FnScope ["_law_script", "_law_cells", "_law_k", "_law_rows", "_law_end", "_law_text_here", "_law_made", "_law_found"] ["_law_script"] (defScope s_law) := ⟨rfl, rfl, rfl, by decide +kernel, rfl, by decide +kernel, by decide +kernel⟩
theorem sc_NoText_init : FnScope ["self", "line"] ["self", "line"] (defScope s_NoText_init) := ⟨rfl, rfl, rfl, by decide +kernel, rfl, by decide +kernel, by decide +kernel⟩
structure Txt (K : PySem.W.Frag) (mg : Str → Option Value) (C_Rule : Addr) (C_BookError : Addr) (C_NoNumber : Addr) (C_NoRule : Addr) (C_NoText : Addr) : Prop where
  f_is_whole : ∃ f fd, Fun K "is_whole" "is_whole" s_is_whole f fd ∧ mg "is_whole" = some (.ref f)
  f_is_step : ∃ f fd, Fun K "is_step" "is_step" s_is_step f fd ∧ mg "is_step" = some (.ref f)
  f_check_one_step : ∃ f fd, Fun K "check_one_step" "check_one_step" s_check_one_step f fd ∧ mg "check_one_step" = some (.ref f)
  f_check_next_step : ∃ f fd, Fun K "check_next_step" "check_next_step" s_check_next_step f fd ∧ mg "check_next_step" = some (.ref f)
  f_check_steps : ∃ f fd, Fun K "check_steps" "check_steps" s_check_steps f fd ∧ mg "check_steps" = some (.ref f)
  f_check_gone : ∃ f fd, Fun K "check_gone" "check_gone" s_check_gone f fd ∧ mg "check_gone" = some (.ref f)
  f_Rule_init : ∃ f fd dT o n, FunD K "__init__" "Rule.__init__" s_Rule_init (.ref dT) f fd ∧ Mk K C_Rule f ∧ fd.defaults = .ref dT ∧ K.lookup dT = some o ∧ o.data = .seq #[.none] n
  f_Rule_steps : ∃ f fd, Fun K "steps" "Rule.steps" s_Rule_steps f fd ∧ Meth K C_Rule "steps" f
  f_Rule_gone : ∃ f fd, Fun K "gone" "Rule.gone" s_Rule_gone f fd ∧ Meth K C_Rule "gone" f
  f_show_number : ∃ f fd, Fun K "show_number" "show_number" s_show_number f fd ∧ mg "show_number" = some (.ref f)
  f_show_rule : ∃ f fd, Fun K "show_rule" "show_rule" s_show_rule f fd ∧ mg "show_rule" = some (.ref f)
  f_check_good : ∃ f fd, Fun K "check_good" "check_good" s_check_good f fd ∧ mg "check_good" = some (.ref f)
  f_is_figures : ∃ f fd, Fun K "is_figures" "is_figures" s_is_figures f fd ∧ mg "is_figures" = some (.ref f)
  f_read_number : ∃ f fd, Fun K "read_number" "read_number" s_read_number f fd ∧ mg "read_number" = some (.ref f)
  f_read_numbers : ∃ f fd, Fun K "read_numbers" "read_numbers" s_read_numbers f fd ∧ mg "read_numbers" = some (.ref f)
  f_read_rule : ∃ f fd, Fun K "read_rule" "read_rule" s_read_rule f fd ∧ mg "read_rule" = some (.ref f)
  f__law_mixed : ∃ f fd, Fun K "_law_mixed" "_law_mixed" s__law_mixed f fd ∧ mg "_law_mixed" = some (.ref f)
  f__law_amount : ∃ f fd, Fun K "_law_amount" "_law_amount" s__law_amount f fd ∧ mg "_law_amount" = some (.ref f)
  f__law_rule : ∃ f fd, Fun K "_law_rule" "_law_rule" s__law_rule f fd ∧ mg "_law_rule" = some (.ref f)
  f__law_text : ∃ f fd, Fun K "_law_text" "_law_text" s__law_text f fd ∧ mg "_law_text" = some (.ref f)
  f__law_spoilt : ∃ f fd, Fun K "_law_spoilt" "_law_spoilt" s__law_spoilt f fd ∧ mg "_law_spoilt" = some (.ref f)
  f__law_no_rule : ∃ f fd, Fun K "_law_no_rule" "_law_no_rule" s__law_no_rule f fd ∧ mg "_law_no_rule" = some (.ref f)
  f__law_refused : ∃ f fd, Fun K "_law_refused" "_law_refused" s__law_refused f fd ∧ mg "_law_refused" = some (.ref f)
  f_law : ∃ f fd, Fun K "law" "law" s_law f fd ∧ mg "law" = some (.ref f)
  f_NoText_init : ∃ f fd, Fun K "__init__" "NoText.__init__" s_NoText_init f fd ∧ ExcI K C_NoText f "line"
  cl_Rule : Cls K C_Rule
  mg_Rule : mg "Rule" = some (.ref C_Rule)
  ik_Rule : InsK K C_Rule
  na_Rule_kept_steps : NoAttr K C_Rule "kept_steps"
  na_Rule_gone_age : NoAttr K C_Rule "gone_age"
  is_Rule_Rule : PySem.W.kitOne K (.ref C_Rule) (.ref C_Rule) = some true
  mg_BookError : mg "BookError" = some (.ref C_BookError)
  mg_NoNumber : mg "NoNumber" = some (.ref C_NoNumber)
  mg_NoRule : mg "NoRule" = some (.ref C_NoRule)
  mg_NoText : mg "NoText" = some (.ref C_NoText)
  ex_BookError : ExcC K C_BookError
  kx_BookError : ExcK K C_BookError
  hit_BookError_BookError : PySem.W.mroIn K C_BookError (.ref C_BookError) = some true
  is_BookError_BookError : PySem.W.kitOne K (.ref C_BookError) (.ref C_BookError) = some true
  is_BookError_NoNumber : PySem.W.kitOne K (.ref C_BookError) (.ref C_NoNumber) = some false
  is_BookError_NoRule : PySem.W.kitOne K (.ref C_BookError) (.ref C_NoRule) = some false
  is_BookError_NoText : PySem.W.kitOne K (.ref C_BookError) (.ref C_NoText) = some false
  is_BookError_ValueError : PySem.W.kitOne K (.ref C_BookError) (.type "ValueError") = some true
  ex_NoNumber : ExcC K C_NoNumber
  kx_NoNumber : ExcK K C_NoNumber
  hit_NoNumber_BookError : PySem.W.mroIn K C_NoNumber (.ref C_BookError) = some true
  is_NoNumber_BookError : PySem.W.kitOne K (.ref C_NoNumber) (.ref C_BookError) = some true
  hit_NoNumber_NoNumber : PySem.W.mroIn K C_NoNumber (.ref C_NoNumber) = some true
  is_NoNumber_NoNumber : PySem.W.kitOne K (.ref C_NoNumber) (.ref C_NoNumber) = some true
  is_NoNumber_NoRule : PySem.W.kitOne K (.ref C_NoNumber) (.ref C_NoRule) = some false
  is_NoNumber_NoText : PySem.W.kitOne K (.ref C_NoNumber) (.ref C_NoText) = some false
  is_NoNumber_ValueError : PySem.W.kitOne K (.ref C_NoNumber) (.type "ValueError") = some true
  ex_NoRule : ExcC K C_NoRule
  kx_NoRule : ExcK K C_NoRule
  hit_NoRule_BookError : PySem.W.mroIn K C_NoRule (.ref C_BookError) = some true
  is_NoRule_BookError : PySem.W.kitOne K (.ref C_NoRule) (.ref C_BookError) = some true
  is_NoRule_NoNumber : PySem.W.kitOne K (.ref C_NoRule) (.ref C_NoNumber) = some false
  hit_NoRule_NoRule : PySem.W.mroIn K C_NoRule (.ref C_NoRule) = some true
  is_NoRule_NoRule : PySem.W.kitOne K (.ref C_NoRule) (.ref C_NoRule) = some true
  is_NoRule_NoText : PySem.W.kitOne K (.ref C_NoRule) (.ref C_NoText) = some false
  is_NoRule_ValueError : PySem.W.kitOne K (.ref C_NoRule) (.type "ValueError") = some true
  kx_NoText : ExcK K C_NoText
  hit_NoText_BookError : PySem.W.mroIn K C_NoText (.ref C_BookError) = some true
  is_NoText_BookError : PySem.W.kitOne K (.ref C_NoText) (.ref C_BookError) = some true
  is_NoText_NoNumber : PySem.W.kitOne K (.ref C_NoText) (.ref C_NoNumber) = some false
  is_NoText_NoRule : PySem.W.kitOne K (.ref C_NoText) (.ref C_NoRule) = some false
  hit_NoText_NoText : PySem.W.mroIn K C_NoText (.ref C_NoText) = some true
  is_NoText_NoText : PySem.W.kitOne K (.ref C_NoText) (.ref C_NoText) = some true
  is_NoText_ValueError : PySem.W.kitOne K (.ref C_NoText) (.type "ValueError") = some true
  bi_BookError : BaseI K C_BookError
  b_all : mg "all" = none
  b_bool : mg "bool" = none
  b_int : mg "int" = none
  b_isinstance : mg "isinstance" = none
  b_len : mg "len" = none
  b_list : mg "list" = none
  b_range : mg "range" = none
  b_str : mg "str" = none
  b_tuple : mg "tuple" = none
  b_zip : mg "zip" = none
  c_MOST_STEPS : ∃ t, mg "MOST_STEPS" = some (.int 5 t)
  c_FIGURES : ∃ t, mg "FIGURES" = some (.str "0123456789" t)
  c_MOST_FIGURES : ∃ t, mg "MOST_FIGURES" = some (.int 1000 t)
theorem txt_mk {K : PySem.W.Frag} {h : Heap} {mg : Str → Option Value} (X : K.In h) (G : h.Ns mainGlobals mg) {C_Rule C_NoText f0 f1 f2 f3 f4 f5 f6 dT6 f7 f8 f9 f10 f11 f12 f13 f14 f15 f16 f17 f18 f19 f20 f21 f22 f23 f24 C_BookError C_NoNumber C_NoRule : Addr} {od0 an0 od1 an1 od2 an2 od3 an3 od4 an4 od5 an5 od6 an6 dd6 od7 an7 od8 an8 od9 an9 od10 an10 od11 an11 od12 an12 od13 an13 od14 an14 od15 an15 od16 an16 od17 an17 od18 an18 od19 an19 od20 an20 od21 an21 od22 an22 od23 an23 od24 an24 : Option Addr} {sl0 sl1 sl2 sl3 sl4 sl5 sl6 ds6 sl7 sl8 sl9 sl10 sl11 sl12 sl13 sl14 sl15 sl16 sl17 sl18 sl19 sl20 sl21 sl22 sl23 sl24 : Array (Option Value)} {oc0 kV0 dc0 pm0 cd0 ct0 oc1 kV1 dc1 pm1 cd1 ct1 oc2 kV2 dc2 pm2 cd2 ct2 oc3 kV3 dc3 pm3 cd3 ct3 oc4 kV4 dc4 pm4 cd4 ct4 oc5 kV5 dc5 pm5 cd5 ct5 oc6 kV6 dc6 pm6 cd6 ct6 dk6 oc7 kV7 dc7 pm7 cd7 ct7 oc8 kV8 dc8 pm8 cd8 ct8 oc9 kV9 dc9 pm9 cd9 ct9 oc10 kV10 dc10 pm10 cd10 ct10 oc11 kV11 dc11 pm11 cd11 ct11 oc12 kV12 dc12 pm12 cd12 ct12 oc13 kV13 dc13 pm13 cd13 ct13 oc14 kV14 dc14 pm14 cd14 ct14 oc15 kV15 dc15 pm15 cd15 ct15 oc16 kV16 dc16 pm16 cd16 ct16 oc17 kV17 dc17 pm17 cd17 ct17 oc18 kV18 dc18 pm18 cd18 ct18 oc19 kV19 dc19 pm19 cd19 ct19 oc20 kV20 dc20 pm20 cd20 ct20 oc21 kV21 dc21 pm21 cd21 ct21 oc22 kV22 dc22 pm22 cd22 ct22 oc23 kV23 dc23 pm23 cd23 ct23 oc24 kV24 dc24 pm24 cd24 ct24 : Value} {dn6 : Nat} {t_MOST_STEPS t_FIGURES t_MOST_FIGURES : Tok}
    (aCRule : PySem.W.nsIn K mainGlobals "Rule" = some (some (.ref C_Rule)))
    (xCNoText : PySem.W.nsIn K mainGlobals "NoText" = some (some (.ref C_NoText)))
    (a0 : PySem.W.nsIn K mainGlobals "is_whole" = some (some (.ref f0)))
    (l0 : K.lookup f0 = some ⟨oc0, od0, .func (PySem.W.fnOf "is_whole" "is_whole" (defArgs s_is_whole) (defBody s_is_whole) (defScope s_is_whole) .none kV0 dc0 pm0 an0 cd0 ct0), sl0⟩)
    (c0 : PySem.W.codeIn K cd0 "is_whole" = true)
    (k0 : PySem.W.keepIn K (.ref f0) = true)
    (a1 : PySem.W.nsIn K mainGlobals "is_step" = some (some (.ref f1)))
    (l1 : K.lookup f1 = some ⟨oc1, od1, .func (PySem.W.fnOf "is_step" "is_step" (defArgs s_is_step) (defBody s_is_step) (defScope s_is_step) .none kV1 dc1 pm1 an1 cd1 ct1), sl1⟩)
    (c1 : PySem.W.codeIn K cd1 "is_step" = true)
    (k1 : PySem.W.keepIn K (.ref f1) = true)
    (a2 : PySem.W.nsIn K mainGlobals "check_one_step" = some (some (.ref f2)))
    (l2 : K.lookup f2 = some ⟨oc2, od2, .func (PySem.W.fnOf "check_one_step" "check_one_step" (defArgs s_check_one_step) (defBody s_check_one_step) (defScope s_check_one_step) .none kV2 dc2 pm2 an2 cd2 ct2), sl2⟩)
    (c2 : PySem.W.codeIn K cd2 "check_one_step" = true)
    (k2 : PySem.W.keepIn K (.ref f2) = true)
    (a3 : PySem.W.nsIn K mainGlobals "check_next_step" = some (some (.ref f3)))
    (l3 : K.lookup f3 = some ⟨oc3, od3, .func (PySem.W.fnOf "check_next_step" "check_next_step" (defArgs s_check_next_step) (defBody s_check_next_step) (defScope s_check_next_step) .none kV3 dc3 pm3 an3 cd3 ct3), sl3⟩)
    (c3 : PySem.W.codeIn K cd3 "check_next_step" = true)
    (k3 : PySem.W.keepIn K (.ref f3) = true)
    (a4 : PySem.W.nsIn K mainGlobals "check_steps" = some (some (.ref f4)))
    (l4 : K.lookup f4 = some ⟨oc4, od4, .func (PySem.W.fnOf "check_steps" "check_steps" (defArgs s_check_steps) (defBody s_check_steps) (defScope s_check_steps) .none kV4 dc4 pm4 an4 cd4 ct4), sl4⟩)
    (c4 : PySem.W.codeIn K cd4 "check_steps" = true)
    (k4 : PySem.W.keepIn K (.ref f4) = true)
    (a5 : PySem.W.nsIn K mainGlobals "check_gone" = some (some (.ref f5)))
    (l5 : K.lookup f5 = some ⟨oc5, od5, .func (PySem.W.fnOf "check_gone" "check_gone" (defArgs s_check_gone) (defBody s_check_gone) (defScope s_check_gone) .none kV5 dc5 pm5 an5 cd5 ct5), sl5⟩)
    (c5 : PySem.W.codeIn K cd5 "check_gone" = true)
    (k5 : PySem.W.keepIn K (.ref f5) = true)
    (a6 : PySem.W.findIn K (.ref C_Rule) "__init__" = some (some (.ref f6)))
    (i6 : PySem.W.isFn K (.ref f6) = true)
    (l6 : K.lookup f6 = some ⟨oc6, od6, .func (PySem.W.fnOf "__init__" "Rule.__init__" (defArgs s_Rule_init) (defBody s_Rule_init) (defScope s_Rule_init) (.ref dT6) kV6 dc6 pm6 an6 cd6 ct6), sl6⟩)
    (c6 : PySem.W.codeIn K cd6 "Rule.__init__" = true)
    (k6 : PySem.W.keepIn K (.ref f6) = true)
    (d6 : K.lookup dT6 = some ⟨dk6, dd6, .seq #[.none] dn6, ds6⟩)
    (a7 : PySem.W.findIn K (.ref C_Rule) "steps" = some (some (.ref f7)))
    (i7 : PySem.W.isFn K (.ref f7) = true)
    (l7 : K.lookup f7 = some ⟨oc7, od7, .func (PySem.W.fnOf "steps" "Rule.steps" (defArgs s_Rule_steps) (defBody s_Rule_steps) (defScope s_Rule_steps) .none kV7 dc7 pm7 an7 cd7 ct7), sl7⟩)
    (c7 : PySem.W.codeIn K cd7 "Rule.steps" = true)
    (k7 : PySem.W.keepIn K (.ref f7) = true)
    (a8 : PySem.W.findIn K (.ref C_Rule) "gone" = some (some (.ref f8)))
    (i8 : PySem.W.isFn K (.ref f8) = true)
    (l8 : K.lookup f8 = some ⟨oc8, od8, .func (PySem.W.fnOf "gone" "Rule.gone" (defArgs s_Rule_gone) (defBody s_Rule_gone) (defScope s_Rule_gone) .none kV8 dc8 pm8 an8 cd8 ct8), sl8⟩)
    (c8 : PySem.W.codeIn K cd8 "Rule.gone" = true)
    (k8 : PySem.W.keepIn K (.ref f8) = true)
    (a9 : PySem.W.nsIn K mainGlobals "show_number" = some (some (.ref f9)))
    (l9 : K.lookup f9 = some ⟨oc9, od9, .func (PySem.W.fnOf "show_number" "show_number" (defArgs s_show_number) (defBody s_show_number) (defScope s_show_number) .none kV9 dc9 pm9 an9 cd9 ct9), sl9⟩)
    (c9 : PySem.W.codeIn K cd9 "show_number" = true)
    (k9 : PySem.W.keepIn K (.ref f9) = true)
    (a10 : PySem.W.nsIn K mainGlobals "show_rule" = some (some (.ref f10)))
    (l10 : K.lookup f10 = some ⟨oc10, od10, .func (PySem.W.fnOf "show_rule" "show_rule" (defArgs s_show_rule) (defBody s_show_rule) (defScope s_show_rule) .none kV10 dc10 pm10 an10 cd10 ct10), sl10⟩)
    (c10 : PySem.W.codeIn K cd10 "show_rule" = true)
    (k10 : PySem.W.keepIn K (.ref f10) = true)
    (a11 : PySem.W.nsIn K mainGlobals "check_good" = some (some (.ref f11)))
    (l11 : K.lookup f11 = some ⟨oc11, od11, .func (PySem.W.fnOf "check_good" "check_good" (defArgs s_check_good) (defBody s_check_good) (defScope s_check_good) .none kV11 dc11 pm11 an11 cd11 ct11), sl11⟩)
    (c11 : PySem.W.codeIn K cd11 "check_good" = true)
    (k11 : PySem.W.keepIn K (.ref f11) = true)
    (a12 : PySem.W.nsIn K mainGlobals "is_figures" = some (some (.ref f12)))
    (l12 : K.lookup f12 = some ⟨oc12, od12, .func (PySem.W.fnOf "is_figures" "is_figures" (defArgs s_is_figures) (defBody s_is_figures) (defScope s_is_figures) .none kV12 dc12 pm12 an12 cd12 ct12), sl12⟩)
    (c12 : PySem.W.codeIn K cd12 "is_figures" = true)
    (k12 : PySem.W.keepIn K (.ref f12) = true)
    (a13 : PySem.W.nsIn K mainGlobals "read_number" = some (some (.ref f13)))
    (l13 : K.lookup f13 = some ⟨oc13, od13, .func (PySem.W.fnOf "read_number" "read_number" (defArgs s_read_number) (defBody s_read_number) (defScope s_read_number) .none kV13 dc13 pm13 an13 cd13 ct13), sl13⟩)
    (c13 : PySem.W.codeIn K cd13 "read_number" = true)
    (k13 : PySem.W.keepIn K (.ref f13) = true)
    (a14 : PySem.W.nsIn K mainGlobals "read_numbers" = some (some (.ref f14)))
    (l14 : K.lookup f14 = some ⟨oc14, od14, .func (PySem.W.fnOf "read_numbers" "read_numbers" (defArgs s_read_numbers) (defBody s_read_numbers) (defScope s_read_numbers) .none kV14 dc14 pm14 an14 cd14 ct14), sl14⟩)
    (c14 : PySem.W.codeIn K cd14 "read_numbers" = true)
    (k14 : PySem.W.keepIn K (.ref f14) = true)
    (a15 : PySem.W.nsIn K mainGlobals "read_rule" = some (some (.ref f15)))
    (l15 : K.lookup f15 = some ⟨oc15, od15, .func (PySem.W.fnOf "read_rule" "read_rule" (defArgs s_read_rule) (defBody s_read_rule) (defScope s_read_rule) .none kV15 dc15 pm15 an15 cd15 ct15), sl15⟩)
    (c15 : PySem.W.codeIn K cd15 "read_rule" = true)
    (k15 : PySem.W.keepIn K (.ref f15) = true)
    (a16 : PySem.W.nsIn K mainGlobals "_law_mixed" = some (some (.ref f16)))
    (l16 : K.lookup f16 = some ⟨oc16, od16, .func (PySem.W.fnOf "_law_mixed" "_law_mixed" (defArgs s__law_mixed) (defBody s__law_mixed) (defScope s__law_mixed) .none kV16 dc16 pm16 an16 cd16 ct16), sl16⟩)
    (c16 : PySem.W.codeIn K cd16 "_law_mixed" = true)
    (k16 : PySem.W.keepIn K (.ref f16) = true)
    (a17 : PySem.W.nsIn K mainGlobals "_law_amount" = some (some (.ref f17)))
    (l17 : K.lookup f17 = some ⟨oc17, od17, .func (PySem.W.fnOf "_law_amount" "_law_amount" (defArgs s__law_amount) (defBody s__law_amount) (defScope s__law_amount) .none kV17 dc17 pm17 an17 cd17 ct17), sl17⟩)
    (c17 : PySem.W.codeIn K cd17 "_law_amount" = true)
    (k17 : PySem.W.keepIn K (.ref f17) = true)
    (a18 : PySem.W.nsIn K mainGlobals "_law_rule" = some (some (.ref f18)))
    (l18 : K.lookup f18 = some ⟨oc18, od18, .func (PySem.W.fnOf "_law_rule" "_law_rule" (defArgs s__law_rule) (defBody s__law_rule) (defScope s__law_rule) .none kV18 dc18 pm18 an18 cd18 ct18), sl18⟩)
    (c18 : PySem.W.codeIn K cd18 "_law_rule" = true)
    (k18 : PySem.W.keepIn K (.ref f18) = true)
    (a19 : PySem.W.nsIn K mainGlobals "_law_text" = some (some (.ref f19)))
    (l19 : K.lookup f19 = some ⟨oc19, od19, .func (PySem.W.fnOf "_law_text" "_law_text" (defArgs s__law_text) (defBody s__law_text) (defScope s__law_text) .none kV19 dc19 pm19 an19 cd19 ct19), sl19⟩)
    (c19 : PySem.W.codeIn K cd19 "_law_text" = true)
    (k19 : PySem.W.keepIn K (.ref f19) = true)
    (a20 : PySem.W.nsIn K mainGlobals "_law_spoilt" = some (some (.ref f20)))
    (l20 : K.lookup f20 = some ⟨oc20, od20, .func (PySem.W.fnOf "_law_spoilt" "_law_spoilt" (defArgs s__law_spoilt) (defBody s__law_spoilt) (defScope s__law_spoilt) .none kV20 dc20 pm20 an20 cd20 ct20), sl20⟩)
    (c20 : PySem.W.codeIn K cd20 "_law_spoilt" = true)
    (k20 : PySem.W.keepIn K (.ref f20) = true)
    (a21 : PySem.W.nsIn K mainGlobals "_law_no_rule" = some (some (.ref f21)))
    (l21 : K.lookup f21 = some ⟨oc21, od21, .func (PySem.W.fnOf "_law_no_rule" "_law_no_rule" (defArgs s__law_no_rule) (defBody s__law_no_rule) (defScope s__law_no_rule) .none kV21 dc21 pm21 an21 cd21 ct21), sl21⟩)
    (c21 : PySem.W.codeIn K cd21 "_law_no_rule" = true)
    (k21 : PySem.W.keepIn K (.ref f21) = true)
    (a22 : PySem.W.nsIn K mainGlobals "_law_refused" = some (some (.ref f22)))
    (l22 : K.lookup f22 = some ⟨oc22, od22, .func (PySem.W.fnOf "_law_refused" "_law_refused" (defArgs s__law_refused) (defBody s__law_refused) (defScope s__law_refused) .none kV22 dc22 pm22 an22 cd22 ct22), sl22⟩)
    (c22 : PySem.W.codeIn K cd22 "_law_refused" = true)
    (k22 : PySem.W.keepIn K (.ref f22) = true)
    (a23 : PySem.W.nsIn K mainGlobals "law" = some (some (.ref f23)))
    (l23 : K.lookup f23 = some ⟨oc23, od23, .func (PySem.W.fnOf "law" "law" (defArgs s_law) (defBody s_law) (defScope s_law) .none kV23 dc23 pm23 an23 cd23 ct23), sl23⟩)
    (c23 : PySem.W.codeIn K cd23 "law" = true)
    (k23 : PySem.W.keepIn K (.ref f23) = true)
    (a24 : PySem.W.findIn K (.ref C_NoText) "__init__" = some (some (.ref f24)))
    (i24 : PySem.W.isFn K (.ref f24) = true)
    (xi24 : excInI K C_NoText f24 = true)
    (xh24 : PySem.W.hasDictIn K C_NoText = true)
    (xs24 : PySem.W.findIn K (.ref C_NoText) "__setattr__" = some (some (.builtin "object.__setattr__")))
    (xn24 : PySem.W.findIn K (.ref C_NoText) "line" = some none)
    (l24 : K.lookup f24 = some ⟨oc24, od24, .func (PySem.W.fnOf "__init__" "NoText.__init__" (defArgs s_NoText_init) (defBody s_NoText_init) (defScope s_NoText_init) .none kV24 dc24 pm24 an24 cd24 ct24), sl24⟩)
    (c24 : PySem.W.codeIn K cd24 "NoText.__init__" = true)
    (k24 : PySem.W.keepIn K (.ref f24) = true)
    (pgRule : PySem.W.plainGet K C_Rule Str.empty = true)
    (hdRule : PySem.W.hasDictIn K C_Rule = true)
    (poRule : PySem.W.plainOver K C_Rule = true)
    (saRule : PySem.W.findIn K (.ref C_Rule) "__setattr__" = some (some (.builtin "object.__setattr__")))
    (mkRule : PySem.W.makesIn K C_Rule = true)
    (kcRule : PySem.W.keepIn K (.ref C_Rule) = true)
    (icRule : PySem.W.findIn K (.ref C_Rule) "__class__" = some (some (.builtin "object.__class__")))
    (imRule : PySem.W.mroIn K C_Rule (.type "object") = some true)
    (nRule_kept_steps : PySem.W.findIn K (.ref C_Rule) "kept_steps" = some none)
    (nRule_gone_age : PySem.W.findIn K (.ref C_Rule) "gone_age" = some none)
    (xBo0 : PySem.W.specialIn K (.builtin "object.__class__") "__get__" = some (some (.builtin "getset_descriptor.__get__")))
    (xBo1 : PySem.W.takesIn K (.builtin "object.__class__") = some true)
    (xIRule_Rule : PySem.W.kitOne K (.ref C_Rule) (.ref C_Rule) = some true)
    (xCBookError : PySem.W.nsIn K mainGlobals "BookError" = some (some (.ref C_BookError)))
    (xCNoNumber : PySem.W.nsIn K mainGlobals "NoNumber" = some (some (.ref C_NoNumber)))
    (xCNoRule : PySem.W.nsIn K mainGlobals "NoRule" = some (some (.ref C_NoRule)))
    (xEBookError : PySem.W.excIn K C_BookError veMro "ValueError.__new__" = true)
    (xKBookError0 : PySem.W.findIn K (.ref C_BookError) "__getattribute__" = some (some (.builtin "BaseException.__getattribute__")))
    (xKBookError1 : PySem.W.findIn K (.ref C_BookError) "__getattr__" = some none)
    (xKBookError2 : PySem.W.findIn K (.ref C_BookError) "__class__" = some (some (.builtin "object.__class__")))
    (xKBookError3 : PySem.W.mroIn K C_BookError (.type "object") = some true)
    (xKBookError4 : PySem.W.mroIn K C_BookError (.type "BaseException") = some true)
    (xKBookError5 : PySem.W.ktsIn K C_BookError "BaseException" = true)
    (xHBookError_BookError : PySem.W.mroIn K C_BookError (.ref C_BookError) = some true)
    (xIBookError_BookError : PySem.W.kitOne K (.ref C_BookError) (.ref C_BookError) = some true)
    (xIBookError_NoNumber : PySem.W.kitOne K (.ref C_BookError) (.ref C_NoNumber) = some false)
    (xIBookError_NoRule : PySem.W.kitOne K (.ref C_BookError) (.ref C_NoRule) = some false)
    (xIBookError_NoText : PySem.W.kitOne K (.ref C_BookError) (.ref C_NoText) = some false)
    (xVBookError : PySem.W.kitOne K (.ref C_BookError) (.type "ValueError") = some true)
    (xENoNumber : PySem.W.excIn K C_NoNumber veMro "ValueError.__new__" = true)
    (xKNoNumber0 : PySem.W.findIn K (.ref C_NoNumber) "__getattribute__" = some (some (.builtin "BaseException.__getattribute__")))
    (xKNoNumber1 : PySem.W.findIn K (.ref C_NoNumber) "__getattr__" = some none)
    (xKNoNumber2 : PySem.W.findIn K (.ref C_NoNumber) "__class__" = some (some (.builtin "object.__class__")))
    (xKNoNumber3 : PySem.W.mroIn K C_NoNumber (.type "object") = some true)
    (xKNoNumber4 : PySem.W.mroIn K C_NoNumber (.type "BaseException") = some true)
    (xKNoNumber5 : PySem.W.ktsIn K C_NoNumber "BaseException" = true)
    (xHNoNumber_BookError : PySem.W.mroIn K C_NoNumber (.ref C_BookError) = some true)
    (xINoNumber_BookError : PySem.W.kitOne K (.ref C_NoNumber) (.ref C_BookError) = some true)
    (xHNoNumber_NoNumber : PySem.W.mroIn K C_NoNumber (.ref C_NoNumber) = some true)
    (xINoNumber_NoNumber : PySem.W.kitOne K (.ref C_NoNumber) (.ref C_NoNumber) = some true)
    (xINoNumber_NoRule : PySem.W.kitOne K (.ref C_NoNumber) (.ref C_NoRule) = some false)
    (xINoNumber_NoText : PySem.W.kitOne K (.ref C_NoNumber) (.ref C_NoText) = some false)
    (xVNoNumber : PySem.W.kitOne K (.ref C_NoNumber) (.type "ValueError") = some true)
    (xENoRule : PySem.W.excIn K C_NoRule veMro "ValueError.__new__" = true)
    (xKNoRule0 : PySem.W.findIn K (.ref C_NoRule) "__getattribute__" = some (some (.builtin "BaseException.__getattribute__")))
    (xKNoRule1 : PySem.W.findIn K (.ref C_NoRule) "__getattr__" = some none)
    (xKNoRule2 : PySem.W.findIn K (.ref C_NoRule) "__class__" = some (some (.builtin "object.__class__")))
    (xKNoRule3 : PySem.W.mroIn K C_NoRule (.type "object") = some true)
    (xKNoRule4 : PySem.W.mroIn K C_NoRule (.type "BaseException") = some true)
    (xKNoRule5 : PySem.W.ktsIn K C_NoRule "BaseException" = true)
    (xHNoRule_BookError : PySem.W.mroIn K C_NoRule (.ref C_BookError) = some true)
    (xINoRule_BookError : PySem.W.kitOne K (.ref C_NoRule) (.ref C_BookError) = some true)
    (xINoRule_NoNumber : PySem.W.kitOne K (.ref C_NoRule) (.ref C_NoNumber) = some false)
    (xHNoRule_NoRule : PySem.W.mroIn K C_NoRule (.ref C_NoRule) = some true)
    (xINoRule_NoRule : PySem.W.kitOne K (.ref C_NoRule) (.ref C_NoRule) = some true)
    (xINoRule_NoText : PySem.W.kitOne K (.ref C_NoRule) (.ref C_NoText) = some false)
    (xVNoRule : PySem.W.kitOne K (.ref C_NoRule) (.type "ValueError") = some true)
    (xKNoText0 : PySem.W.findIn K (.ref C_NoText) "__getattribute__" = some (some (.builtin "BaseException.__getattribute__")))
    (xKNoText1 : PySem.W.findIn K (.ref C_NoText) "__getattr__" = some none)
    (xKNoText2 : PySem.W.findIn K (.ref C_NoText) "__class__" = some (some (.builtin "object.__class__")))
    (xKNoText3 : PySem.W.mroIn K C_NoText (.type "object") = some true)
    (xKNoText4 : PySem.W.mroIn K C_NoText (.type "BaseException") = some true)
    (xKNoText5 : PySem.W.ktsIn K C_NoText "BaseException" = true)
    (xHNoText_BookError : PySem.W.mroIn K C_NoText (.ref C_BookError) = some true)
    (xINoText_BookError : PySem.W.kitOne K (.ref C_NoText) (.ref C_BookError) = some true)
    (xINoText_NoNumber : PySem.W.kitOne K (.ref C_NoText) (.ref C_NoNumber) = some false)
    (xINoText_NoRule : PySem.W.kitOne K (.ref C_NoText) (.ref C_NoRule) = some false)
    (xHNoText_NoText : PySem.W.mroIn K C_NoText (.ref C_NoText) = some true)
    (xINoText_NoText : PySem.W.kitOne K (.ref C_NoText) (.ref C_NoText) = some true)
    (xVNoText : PySem.W.kitOne K (.ref C_NoText) (.type "ValueError") = some true)
    (xBBookError0 : PySem.W.specialIn K (.ref C_BookError) "__getattribute__" = some (some (.builtin "type.__getattribute__")))
    (xBBookError1 : PySem.W.readsIn K C_BookError (.type "type") = true)
    (xBBookError2 : PySem.W.findCls K (.ref C_BookError) (.type "type") "__init__" = some (.val (.builtin "ValueError.__init__")))
    (z_all : PySem.W.nsIn K mainGlobals "all" = some none)
    (z_bool : PySem.W.nsIn K mainGlobals "bool" = some none)
    (z_int : PySem.W.nsIn K mainGlobals "int" = some none)
    (z_isinstance : PySem.W.nsIn K mainGlobals "isinstance" = some none)
    (z_len : PySem.W.nsIn K mainGlobals "len" = some none)
    (z_list : PySem.W.nsIn K mainGlobals "list" = some none)
    (z_range : PySem.W.nsIn K mainGlobals "range" = some none)
    (z_str : PySem.W.nsIn K mainGlobals "str" = some none)
    (z_tuple : PySem.W.nsIn K mainGlobals "tuple" = some none)
    (z_zip : PySem.W.nsIn K mainGlobals "zip" = some none)
    (y_MOST_STEPS : PySem.W.nsIn K mainGlobals "MOST_STEPS" = some (some (.int 5 t_MOST_STEPS)))
    (y_FIGURES : PySem.W.nsIn K mainGlobals "FIGURES" = some (some (.str "0123456789" t_FIGURES)))
    (y_MOST_FIGURES : PySem.W.nsIn K mainGlobals "MOST_FIGURES" = some (some (.int 1000 t_MOST_FIGURES))) : ∃ C_Rule C_BookError C_NoNumber C_NoRule C_NoText, Txt K mg C_Rule C_BookError C_NoNumber C_NoRule C_NoText := by
  refine ⟨C_Rule, C_BookError, C_NoNumber, C_NoRule, C_NoText, ?_⟩
  exact ⟨⟨f0, _, fun_mk l0 c0 k0, PySem.W.mg_of X G a0⟩,
    ⟨f1, _, fun_mk l1 c1 k1, PySem.W.mg_of X G a1⟩,
    ⟨f2, _, fun_mk l2 c2 k2, PySem.W.mg_of X G a2⟩,
    ⟨f3, _, fun_mk l3 c3 k3, PySem.W.mg_of X G a3⟩,
    ⟨f4, _, fun_mk l4 c4 k4, PySem.W.mg_of X G a4⟩,
    ⟨f5, _, fun_mk l5 c5 k5, PySem.W.mg_of X G a5⟩,
    ⟨f6, _, dT6, _, _, ⟨⟨_, _, _, _, _, _, _, _, _, rfl, l6, c6⟩, k6⟩, ⟨mkRule, a6, i6, kcRule⟩, rfl, d6, rfl⟩,
    ⟨f7, _, fun_mk l7 c7 k7, ⟨a7, i7, k7⟩⟩,
    ⟨f8, _, fun_mk l8 c8 k8, ⟨a8, i8, k8⟩⟩,
    ⟨f9, _, fun_mk l9 c9 k9, PySem.W.mg_of X G a9⟩,
    ⟨f10, _, fun_mk l10 c10 k10, PySem.W.mg_of X G a10⟩,
    ⟨f11, _, fun_mk l11 c11 k11, PySem.W.mg_of X G a11⟩,
    ⟨f12, _, fun_mk l12 c12 k12, PySem.W.mg_of X G a12⟩,
    ⟨f13, _, fun_mk l13 c13 k13, PySem.W.mg_of X G a13⟩,
    ⟨f14, _, fun_mk l14 c14 k14, PySem.W.mg_of X G a14⟩,
    ⟨f15, _, fun_mk l15 c15 k15, PySem.W.mg_of X G a15⟩,
    ⟨f16, _, fun_mk l16 c16 k16, PySem.W.mg_of X G a16⟩,
    ⟨f17, _, fun_mk l17 c17 k17, PySem.W.mg_of X G a17⟩,
    ⟨f18, _, fun_mk l18 c18 k18, PySem.W.mg_of X G a18⟩,
    ⟨f19, _, fun_mk l19 c19 k19, PySem.W.mg_of X G a19⟩,
    ⟨f20, _, fun_mk l20 c20 k20, PySem.W.mg_of X G a20⟩,
    ⟨f21, _, fun_mk l21 c21 k21, PySem.W.mg_of X G a21⟩,
    ⟨f22, _, fun_mk l22 c22 k22, PySem.W.mg_of X G a22⟩,
    ⟨f23, _, fun_mk l23 c23 k23, PySem.W.mg_of X G a23⟩,
    ⟨f24, _, fun_mk l24 c24 k24, ⟨xi24, i24, ⟨xKNoText0, xKNoText1, xKNoText2, xKNoText3, xKNoText4, xKNoText5⟩, xh24, xs24, xn24⟩⟩,
    ⟨pgRule, hdRule, poRule, saRule⟩,
    PySem.W.mg_of X G aCRule,
    ⟨⟨pgRule, hdRule, poRule, saRule⟩, icRule, xBo0, xBo1, imRule⟩,
    nRule_kept_steps,
    nRule_gone_age,
    xIRule_Rule,
    PySem.W.mg_of X G xCBookError,
    PySem.W.mg_of X G xCNoNumber,
    PySem.W.mg_of X G xCNoRule,
    PySem.W.mg_of X G xCNoText,
    xEBookError,
    ⟨xKBookError0, xKBookError1, xKBookError2, xKBookError3, xKBookError4, xKBookError5⟩,
    xHBookError_BookError,
    xIBookError_BookError,
    xIBookError_NoNumber,
    xIBookError_NoRule,
    xIBookError_NoText,
    xVBookError,
    xENoNumber,
    ⟨xKNoNumber0, xKNoNumber1, xKNoNumber2, xKNoNumber3, xKNoNumber4, xKNoNumber5⟩,
    xHNoNumber_BookError,
    xINoNumber_BookError,
    xHNoNumber_NoNumber,
    xINoNumber_NoNumber,
    xINoNumber_NoRule,
    xINoNumber_NoText,
    xVNoNumber,
    xENoRule,
    ⟨xKNoRule0, xKNoRule1, xKNoRule2, xKNoRule3, xKNoRule4, xKNoRule5⟩,
    xHNoRule_BookError,
    xINoRule_BookError,
    xINoRule_NoNumber,
    xHNoRule_NoRule,
    xINoRule_NoRule,
    xINoRule_NoText,
    xVNoRule,
    ⟨xKNoText0, xKNoText1, xKNoText2, xKNoText3, xKNoText4, xKNoText5⟩,
    xHNoText_BookError,
    xINoText_BookError,
    xINoText_NoNumber,
    xINoText_NoRule,
    xHNoText_NoText,
    xINoText_NoText,
    xVNoText,
    ⟨xBBookError0, xBBookError1, xBBookError2⟩,
    PySem.W.mg_none_of X G z_all,
    PySem.W.mg_none_of X G z_bool,
    PySem.W.mg_none_of X G z_int,
    PySem.W.mg_none_of X G z_isinstance,
    PySem.W.mg_none_of X G z_len,
    PySem.W.mg_none_of X G z_list,
    PySem.W.mg_none_of X G z_range,
    PySem.W.mg_none_of X G z_str,
    PySem.W.mg_none_of X G z_tuple,
    PySem.W.mg_none_of X G z_zip,
    ⟨_, PySem.W.mg_of X G y_MOST_STEPS⟩,
    ⟨_, PySem.W.mg_of X G y_FIGURES⟩,
    ⟨_, PySem.W.mg_of X G y_MOST_FIGURES⟩⟩
section
variable {P : Program} {w : World} {K : PySem.W.Frag} {mg : Str → Option Value} {base : Heap} {C_Rule C_BookError C_NoNumber C_NoRule C_NoText : Addr}
theorem sz20 {n : Nat} (h : n ≤ 20000) : n ≤ sizeLine := by rw [sizeLine_eq]; omega
theorem D_show_number (T : Txt K mg C_Rule C_BookError C_NoNumber C_NoRule C_NoText) : DefOk P w K mg base 1 "show_number" ["number"] sp_num := by
  obtain ⟨f, fd, F, hm⟩ := T.f_show_number
  have nd := sc_show_number.nd
  refine F.def_ hm (F.ok sc_show_number (fun vs H Q E h => ?_) (fun cdv A outer s H vs Q E hr h => ?_)) (F.binds fun _ _ _ _ _ _ us hl => by obtain ⟨_, rfl⟩ := L2.lq1 hl; rfl)
  · obtain ⟨n, rfl, _⟩ := h; rfl
  · obtain ⟨n, rfl, hn, q⟩ := h
    refine ⟨_, (pss_one (ps_ret (pe_callTy (call_strI rfl) rfl T.b_str bt_str (pa_cons (pv 0) pa_nil)))), ?_⟩
    exact ⟨_, rfl, _, rfl, hn.all, by rw [of_num]; exact q⟩
end
section
variable {P : Program} {w : World} {K : PySem.W.Frag} {mg : Str → Option Value} {base : Heap} {C_Rule C_BookError C_NoNumber C_NoRule C_NoText : Addr}
theorem lk1 (f : Str) (v : V) : [(f, v)].lookup f = some v := by rw [List.lookup_cons]; simp
theorem D_NoText_init (T : Txt K mg C_Rule C_BookError C_NoNumber C_NoRule C_NoText) : XcOk P w K mg base C_NoText 1 "NoText" ["self", "line"] "line" := by
  obtain ⟨f, fd, F, hE⟩ := T.f_NoText_init
  have nd := sc_NoText_init.nd
  refine ⟨f, fd, (F.ok sc_NoText_init (fun vs H Q E h => ?_) (fun cdv A outer s H vs Q E hr h => ?_)), T.mg_NoText, hE, (F.binds fun _ _ _ _ _ _ us hl => by obtain ⟨_, _, rfl⟩ := L2.lq2 hl; rfl)⟩
  · obtain ⟨ex, v, rfl, _⟩ := h; rfl
  · obtain ⟨ex, v, rfl, hx, q⟩ := h
    refine ⟨_, (pss_cons (ps_expr (pe_xbase rfl T.mg_BookError T.bi_BookError (pa_cons (pv 0) (pa_cons pe_str pa_nil))))
      (pss_one (ps_fldX (pv 0) (pv 1) rfl))), ?_⟩
    refine ⟨_, rfl, ex, C_NoText, f, "line", none, _, rfl, by decide, hE, hx, ?_⟩
    exact ⟨_, rfl, _, rfl, ex, C_NoText, f, rfl, hx, hE, fun dx H3 f1 ne h3 h4 h5 => q dx H3 f1 ne h3 h4 h5⟩
theorem D_check_good (T : Txt K mg C_Rule C_BookError C_NoNumber C_NoRule C_NoText) : DefX P w K mg base 3 "check_good" ["good"] [] (sp_good C_NoText) := by
  obtain ⟨f, fd, F, hm⟩ := T.f_check_good
  have nd := sc_check_good.nd
  refine ⟨f, fd, (F.okX sc_check_good (fun vs H Q E h => ?_) (fun cdv A outer s H vs Q E hr h => ?_)), hm, F.kp, (F.binds fun _ _ _ _ _ _ us hl => by obtain ⟨_, rfl⟩ := L2.lq1 hl; rfl)⟩
  · obtain ⟨b, rfl, _⟩ := h; rfl
  · obtain ⟨b, rfl, q1, q2⟩ := h
    refine ⟨_, (pss_one (ps_if (pt_not (pt_val (pv 0)))
        (pss_one (ps_raiseI (wants_wish ⟨rfl, rfl, rfl⟩) rfl (D_NoText_init T) (hr.mono (by decide)) rfl (pa_cons pe_int pa_nil)))
        pss_nil)), ?_⟩
    walk_at "r"
    cases b with
    | true => exact iteF (q1 rfl)
    | false => exact iteT ⟨_, rfl, fun dx H2 n2 => q2 rfl dx H2 n2⟩
theorem w_zero : (Str.ofString "0") = S [48] := by decide +kernel
theorem w_mzero : (Str.ofString "-0") = S [45, 48] := by decide +kernel
theorem w_minus : (Str.ofString "-") = S [45] := by decide +kernel
theorem D_is_figures (T : Txt K mg C_Rule C_BookError C_NoNumber C_NoRule C_NoText) : DefOk P w K mg base 2 "is_figures" ["text"] sp_figs := by
  obtain ⟨f, fd, F, hm⟩ := T.f_is_figures
  have nd := sc_is_figures.nd
  refine F.def_ hm (F.ok sc_is_figures (fun vs H Q E h => ?_) (fun cdv A outer s H vs Q E hr h => ?_)) (F.binds fun _ _ _ _ _ _ us hl => by obtain ⟨_, rfl⟩ := L2.lq1 hl; rfl)
  · obtain ⟨x, rfl, _⟩ := h; rfl
  · obtain ⟨x, rfl, hx, q⟩ := h
    refine ⟨_, (pss_cons (ps_if (PW.pt (pw_or (pt_cmpR op_lt (pe_callB call_lenS rfl T.b_len bt_len (pa_cons (pv 0) pa_nil)) pe_int (nomark _)) (pw_or1 (pt_cmpR op_gt (pe_callB call_lenS rfl T.b_len bt_len (pa_cons (pv 0) pa_nil)) (pe_glob (v := .int 1000) rfl T.c_MOST_FIGURES.choose_spec ⟨_, rfl⟩) (nomark _)))))
        (pss_one (ps_ret pe_bl))
        pss_nil)
      (pss_one (ps_ret (pe_or (pe_cmpR op_eq (pv 0) pe_str (nomark _)) (pe_one (pe_and (pe_cmpR op_ne (pe_ixS (pv 0) pe_int (fun _ _ => rfl)) pe_str (nomark _)) (pe_one (pe_callB (call_all rfl) rfl T.b_all bt_all (pa_cons (pe_lc (vars := ["sign"]) (frees := []) (fv := []) rfl (lcOk rfl rfl (by decide +kernel) (by decide +kernel) (by intro p hp; cases hp) rfl) trivial (pi_str (pv 0)) (gk_name (by decide)) (fun _ _ _ _ => (pg_name (i := 0) (show (["sign"] : List Str).Nodup by decide +kernel) rfl (Or.inl rfl))) (fun _ _ _ _ => pif_none) (fun _ _ _ _ => (pe_cmpR op_inS (pv 0) (pe_glob (v := .str "0123456789") rfl T.c_FIGURES.choose_spec ⟨_, rfl⟩) rfl))) pa_nil))))))))), ?_⟩
    walk_at "r"
    refine ⟨sz20 (by omega), ?_⟩
    have no : ¬ Figs x → Q (V.bl false) H := fun z => by
      have := q H (Same.refl _)
      rw [decide_eq_false z] at this
      exact this
    walk_at "r"
    refine ite2 (fun z => ?_) fun z => ?_
    · exact iteT (no fun h => by have := h.1; have := of_decide_eq_true z; omega)
    walk_at "r"
    refine ⟨sz20 (by omega), ?_⟩
    walk_at "r"
    refine ite2 (fun z2 => ?_) fun z2 => ?_
    · exact no fun h => by have := h.2.1; have := of_decide_eq_true z2; omega
    have l1 : 1 ≤ x.length := by
      have : ¬ ((x.length : Int) < 1) := fun y => z (decide_eq_true y)
      omega
    have l2 : x.length ≤ 1000 := by
      have : ¬ ((1000 : Int) < x.length) := fun y => z2 (decide_eq_true y)
      omega
    walk_at "r"
    rw [w_zero, S_dec]
    by_cases e : x = [48]
    · rw [if_pos (decide_eq_true e)]
      have := q H (Same.refl _)
      rw [decide_eq_true ⟨l1, l2, .inl e⟩] at this
      exact this
    rw [if_neg (fun y => e (of_decide_eq_true y))]
    obtain ⟨c, l, rfl⟩ : ∃ c l, x = c :: l := by
      cases x with
      | nil => simp at l1
      | cons c l => exact ⟨c, l, rfl⟩
    walk_at "r"
    refine ⟨c :: l, 0, c, rfl, rfl, by decide, by decide, rfl, ?_⟩
    walk_at "r"
    rw [S_dec]
    by_cases ec : c = 48
    · rw [if_neg (by rw [ec]; simp)]
      exact no fun h => by
        rcases h.2.2 with h | h
        · exact e h
        · exact h.1 (by rw [ec]; rfl)
    rw [if_pos (by simpa using ec)]
    refine ⟨_, rfl, _, rfl, lc_str (x := c :: l) (fun i ys H2 => Same H H2 ∧ ys = ((c :: l).take i).map fun d => V.bl (decide (TX.IsDig d))) (sz20 (by omega)) ⟨Same.refl _, rfl⟩ (fun i ys H2 h2 => by rw [h2.2, List.length_map, List.length_take]; omega) ?_ ?_⟩
    · rintro i d ys H2 hi ⟨s2, rfl⟩
      refine gname_ (yes_ (iteT ?_))
      refine ⟨_, rfl, d, _, rfl, rfl, s2, ?_⟩
      rw [fig_in]
      exact (mapN _ (c :: l) i d hi).symm
    · rintro ys H2 p H3 ⟨s2, rfl⟩ n3
      rw [List.take_length] at n3
      refine ⟨p, (c :: l).map fun d => decide (TX.IsDig d), rfl, SqL.of (by rw [List.map_map]; exact n3.at_), ?_⟩
      have := q H3 (s2.trans n3.same)
      have ef : decide (Figs (c :: l)) = ((c :: l).map fun d => decide (TX.IsDig d)).all id := by
        rw [Bool.eq_iff_iff, decide_eq_true_iff, List.all_eq_true]
        constructor
        · intro h b hb
          obtain ⟨d, hd, rfl⟩ := List.mem_map.mp hb
          rcases h.2.2 with h | h
          · exact absurd h e
          · exact decide_eq_true (h.2 d hd)
        · intro h
          refine ⟨l1, l2, .inr ⟨fun z => ec (Option.some.inj z), fun d hd => ?_⟩⟩
          exact of_decide_eq_true (h _ (List.mem_map.mpr ⟨d, hd, rfl⟩))
      rw [ef] at this
      exact this
theorem sl_drop1 (x : List Nat) : slS (S x) (some 1) none = S (x.drop 1) := sl_drop x 1
theorem D_read_number (T : Txt K mg C_Rule C_BookError C_NoNumber C_NoRule C_NoText) : DefX P w K mg base 5 "read_number" ["text"] [] (sp_read C_NoText) := by
  obtain ⟨f, fd, F, hm⟩ := T.f_read_number
  have nd := sc_read_number.nd
  refine ⟨f, fd, (F.okX sc_read_number (fun vs H Q E h => ?_) (fun cdv A outer s H vs Q E hr h => ?_)), hm, F.kp, (F.binds fun _ _ _ _ _ _ us hl => by obtain ⟨_, rfl⟩ := L2.lq1 hl; rfl)⟩
  · obtain ⟨v, r, rfl, _⟩ := h; rfl
  · obtain ⟨v, r, rfl, hv, q1, q2⟩ := h
    refine ⟨_, (pss_cons (ps_expr (pe_fnX (wants_wish ⟨rfl, rfl, rfl⟩) (D_check_good T) (hr.mono (by decide)) rfl .nil (pa_cons (pe_callB call_isi rfl T.b_isinstance bt_isinstance (pa_cons (pv 0) (pa_cons (pe_bltn (v := .ty "str") rfl T.b_str bt_str rfl) pa_nil))) pa_nil)))
      (pss_cons (ps_expr (pe_fnX (wants_wish ⟨rfl, rfl, rfl⟩) (D_check_good T) (hr.mono (by decide)) rfl .nil (pa_cons (pe_cmpR op_ne (pv 0) pe_str (nomark _)) pa_nil)))
      (pss_cons (ps_expr (pe_fnX (wants_wish ⟨rfl, rfl, rfl⟩) (D_check_good T) (hr.mono (by decide)) rfl .nil (pa_cons (pe_fn (D_is_figures T) (hr.mono (by decide)) rfl (pa_cons (pe_ifExp (pt_val (pe_bm PySem.F.plainAttrs_str PySem.F.slot_str_startswith PySem.F.type_str_startswith mt_starts (pv 0) (pa_cons pe_str pa_nil))) (pe_slice sl_str (pv 0) (po_some pe_int) po_none) (pv 0)) pa_nil)) pa_nil)))
      (pss_one (ps_ret (pe_callTy call_intT rfl T.b_int bt_int (pa_cons (pv 0) pa_nil))))))), ?_⟩
    rcases hv with ⟨x, rfl, hx, er⟩ | ⟨hv, er⟩
    · have bad : ¬ TX.Good x → ∀ dx H1 H', Same H H1 → New H1 H' dx (.xd [("line", .int 0)]) → E (.ref C_NoText) (some dx) H' := fun z => q2 (by rw [er, if_neg z])
      walk_at "r"
      refine ⟨fun _ => ?_, nofun⟩
      walk_at "r"
      rw [w_mzero, S_dec]
      refine ⟨fun z => ?_, fun z dx H2 n2 => bad (fun h => ((good_figs x).mp h).1 (by simpa using z)) dx H H2 (Same.refl _) n2⟩
      walk_at "r"
      rw [w_minus, starts1]
      have go : ∀ (N : Hp → Prop) (y : List Nat), TX.figs x = y → y.length ≤ 3000 → (∀ H2, Same H H2 → TX.Good x → N H2) → sp_figs [.str (S y)] H (fun v H1 => sp_good C_NoText [v] H1 (fun _ H2 => N H2) E) E0 := fun N y ey ly hN => by
        refine ⟨y, rfl, ly, fun H2 s2 => ⟨_, rfl, fun g => ?_, fun g dx H3 n3 => ?_⟩⟩
        · have G : TX.Good x := (good_figs x).mpr ⟨by simpa using z, by rw [ey]; exact of_decide_eq_true g⟩
          exact hN H2 s2 G
        · exact bad (fun G => by
            have := ((good_figs x).mp G).2
            rw [ey] at this
            rw [decide_eq_true this] at g
            cases g) dx H2 H3 s2 n3
      by_cases t : x.take 1 = [45]
      · rw [if_pos (decide_eq_true t)]
        refine ⟨_, rfl, _, rfl, _, rfl, by rw [sl_drop1, S_len]; exact sz20 (by simp; omega), ?_⟩
        rw [sl_drop1]
        exact go _ _ (by unfold TX.figs; rw [if_pos t]) (by simp; omega) fun H2 s2 G => ⟨_, rfl, S x, _, rfl, int_good G, sz20 (by rw [S_len]; omega), q1 _ (by rw [er, if_pos G]) H2 s2⟩
      · rw [if_neg (by simpa using t)]
        refine ⟨_, rfl, ?_⟩
        exact go _ _ (by unfold TX.figs; rw [if_neg t]) hx fun H2 s2 G => ⟨_, rfl, S x, _, rfl, int_good G, sz20 (by rw [S_len]; omega), q1 _ (by rw [er, if_pos G]) H2 s2⟩
    · obtain ⟨t, ty, kt⟩ := OddV.ty (K := K) hv
      exact ⟨_, rfl, _, _, _, _, rfl, ty, kt, _, rfl, nofun, fun _ dx H2 n2 => q2 er dx H H2 (Same.refl _) n2⟩
end
section
variable {P : Program} {w : World} {K : PySem.W.Frag} {mg : Str → Option Value} {base : Heap} {C_Rule C_BookError C_NoNumber C_NoRule C_NoText : Addr}
theorem D_NoText_initU (T : Txt K mg C_Rule C_BookError C_NoNumber C_NoRule C_NoText) : XcOkU P w K mg base C_NoText 1 "NoText" ["self", "line"] "line" := by
  obtain ⟨f, fd, F, hE⟩ := T.f_NoText_init
  have nd := sc_NoText_init.nd
  refine ⟨f, fd, (F.okU sc_NoText_init (fun vs H Q E h => ?_) (fun cdv A outer s H vs Q E hr h => ?_)), T.mg_NoText, hE, (F.binds fun _ _ _ _ _ _ us hl => by obtain ⟨_, _, rfl⟩ := L2.lq2 hl; rfl)⟩
  · obtain ⟨ex, v, rfl, _⟩ := h; rfl
  · obtain ⟨ex, v, rfl, hx, q⟩ := h
    refine ⟨_, (pss_cons (ps_expr (pe_xbase rfl T.mg_BookError T.bi_BookError (pa_cons (pv 0) (pa_cons pe_str pa_nil))))
      (pss_one (ps_fldX (pv 0) (pv 1) rfl))), ?_⟩
    refine ⟨_, rfl, ex, C_NoText, f, "line", none, _, rfl, by decide, hE, hx, ?_⟩
    exact ⟨_, rfl, _, rfl, ex, C_NoText, f, rfl, hx, hE, fun dx H3 f1 ne h3 h4 h5 => q dx H3 f1 ne h3 h4 h5⟩
end
section
variable {P : Program} {w : World} {K : PySem.W.Frag} {mg : Str → Option Value} {base : Heap} {C_Rule C_BookError C_NoNumber C_NoRule C_NoText : Addr}
theorem lc_listN {K : PySem.W.Frag} {a : Addr} {xs : List V} {g : TG} {tc : TT} {te : TE} {Q : VK} {σ : St} {H : Hp} (Pv : Nat → List V → Hp → Prop) (hz : xs.length ≤ sizeLine) (h0 : Pv 0 [] H) (hl : ∀ i ys H, Pv i ys H → SqL K H a xs ∧ ys.length ≤ i)
    (hs : ∀ i x ys H, xs[i]? = some x → Pv i ys H → g x σ H fun σ4 H4 => tc σ4 H4 fun b H5 => if b = true then te σ4 H5 fun v H6 => Pv (i + 1) (ys ++ [v]) H6 else Pv (i + 1) ys H5)
    (hd : ∀ ys H p H', Pv xs.length ys H → New H H' p (.lst ys) → Q (.ref p) H') : lcGoal (Itl K a) Q g tc te σ H :=
  lc_list Pv hz h0 hl hs fun ys H p p' hp => hd ys H p _ p' (new_upd hp)
def Nums (ws : List (List Nat)) (m : Int) : Prop := (ws.length : Int) = m ∧ ∀ w ∈ ws, TX.Good w
inductive sp_rnums (C : Addr) (vs : List V) (H : Hp) (Q : VK) (E : XK) : Prop
  | mk : ∀ (l : Addr) (ws : List (List Nat)) (m : Int), vs = [.ref l, .int m] → (H l = some (.lst (ws.map fun w => V.str (S w)))) → ws.length ≤ 5000 → (∀ w ∈ ws, w.length ≤ 3000) → (Nums ws m → ∀ p H', Same H H' → H' p = some (.lst (ws.map fun w => V.int (TX.valT w))) → Q (.ref p) H') → (¬ Nums ws m → ∀ dx H1 H', Same H H1 → New H1 H' dx (.xd [("line", .int 0)]) → E (.ref C) (some dx) H') → sp_rnums C vs H Q E
theorem D_read_numbers (T : Txt K mg C_Rule C_BookError C_NoNumber C_NoRule C_NoText) : DefX P w K mg base 7 "read_numbers" ["words", "many"] [] (sp_rnums C_NoText) := by
  obtain ⟨f, fd, F, hm⟩ := T.f_read_numbers
  have nd := sc_read_numbers.nd
  refine ⟨f, fd, (F.okX sc_read_numbers (fun vs H Q E h => ?_) (fun cdv A outer s H vs Q E hr h => ?_)), hm, F.kp, (F.binds fun _ _ _ _ _ _ us hl => by obtain ⟨_, _, rfl⟩ := L2.lq2 hl; rfl)⟩
  · obtain ⟨l, ws, m, rfl, _⟩ := h; rfl
  · obtain ⟨l, ws, m, rfl, hl, h5, hw, q1, q2⟩ := h
    refine ⟨_, (pss_cons (ps_expr (pe_fnX (wants_wish ⟨rfl, rfl, rfl⟩) (D_check_good T) (hr.mono (by decide)) rfl .nil (pa_cons (pe_cmpR op_eq (pe_callB call_len_seq rfl T.b_len bt_len (pa_cons (pv 0) pa_nil)) (pv 1) (nomark _)) pa_nil)))
      (pss_one (ps_ret (pe_lcX (vars := ["word"]) (frees := []) (fv := []) (wants_wish ⟨rfl, rfl, rfl⟩) rfl (lcOk rfl rfl (by decide +kernel) (by decide +kernel) (by intro p hp; cases hp) rfl) trivial (pi_list (pv 0)) (gk_name (by decide)) (fun _ _ _ _ => (pg_name (i := 0) (show (["word"] : List Str).Nodup by decide +kernel) rfl (Or.inl rfl))) (fun _ _ _ _ => pif_none) (fun _ _ _ _ _ _ ho => (pe_fnB ⟨rfl, rfl, rfl⟩ ho (D_read_number T) (hr.mono (by decide)) rfl .nil (pa_cons (pv 0) pa_nil))))))), ?_⟩
    walk_at "r"
    refine ⟨fun z => ?_, fun z dx H2 n2 => q2 (fun h => ?_) dx H H2 (Same.refl _) n2⟩
    · have hm : (ws.length : Int) = m := by simpa using z
      refine ⟨_, rfl, l, rfl, ⟨_, SqL.of hl⟩, lc_listN (xs := ws.map fun w => V.str (S w)) (fun i ys H2 => Same H H2 ∧ (∀ w ∈ ws.take i, TX.Good w) ∧ ys = (ws.take i).map fun w => V.int (TX.valT w)) (sz20 (by rw [List.length_map]; omega)) ⟨Same.refl _, (by simp), rfl⟩ (fun i ys H2 h2 => ⟨SqL.of (h2.1 _ _ hl), by rw [h2.2.2, List.length_map, List.length_take]; omega⟩) ?_ ?_⟩
      · rintro i x ys H2 hi ⟨s2, gd, rfl⟩
        obtain ⟨w, hwi, rfl⟩ : ∃ w, ws[i]? = some w ∧ x = V.str (S w) := by
          rw [List.getElem?_map] at hi
          obtain ⟨w, a, b⟩ := Option.map_eq_some_iff.mp hi
          exact ⟨w, a, b.symm⟩
        have hwm := List.mem_of_getElem? hwi
        refine gname_ (yes_ (iteT ?_))
        refine ⟨_, rfl, .str (S w), _, rfl, .inl ⟨w, rfl, hw w hwm, rfl⟩, fun n en H3 s3 => ?_, fun en dx H3 H4 s3 n4 => ?_⟩
        · have G : TX.Good w := Classical.byContradiction fun z => by rw [if_neg z] at en; cases en
          rw [if_pos G] at en
          cases en
          have et : ws.take (i + 1) = ws.take i ++ [w] := by rw [List.take_add_one, hwi]; rfl
          refine ⟨s2.trans s3, fun v hv => ?_, by rw [et]; simp⟩
          rw [et] at hv
          rcases List.mem_append.mp hv with z | z
          · exact gd v z
          · rw [List.mem_singleton.mp z]; exact G
        · exact q2 (fun h => by
            have G := h.2 w hwm
            rw [if_pos G] at en
            cases en) dx H3 H4 (s2.trans s3) n4
      · rintro ys H2 p H3 ⟨s2, gd, rfl⟩ n3
        rw [List.length_map, List.take_length] at gd n3
        exact q1 ⟨hm, gd⟩ p H3 (s2.trans n3.same) n3.at_
    · have := h.1
      simp [this] at z
end
section
variable {P : Program} {w : World} {K : PySem.W.Frag} {mg : Str → Option Value} {base : Heap} {C_Rule C_BookError C_NoNumber C_NoRule C_NoText : Addr}
theorem D_is_whole (T : Txt K mg C_Rule C_BookError C_NoNumber C_NoRule C_NoText) : DefOk P w K mg base 1 "is_whole" ["thing"] sp_is_whole := by
  obtain ⟨f, fd, F, hm⟩ := T.f_is_whole
  have nd := sc_is_whole.nd
  refine F.def_ hm (F.ok sc_is_whole (fun vs H Q E h => ?_) (fun cdv A outer s H vs Q E hr h => ?_)) (F.binds fun _ _ _ _ _ _ us hl => by obtain ⟨_, rfl⟩ := L2.lq1 hl; rfl)
  · obtain ⟨x, rfl, _⟩ := h; rfl
  · obtain ⟨x, rfl, i, rfl, q⟩ := h
    refine ⟨_, (pss_one (ps_ret (pe_and (pe_callB call_isi rfl T.b_isinstance bt_isinstance (pa_cons (pv 0) (pa_cons (pe_bltn (v := .ty "int") rfl T.b_int bt_int rfl) pa_nil))) (pe_one (pe_not (pe_callB call_isi rfl T.b_isinstance bt_isinstance (pa_cons (pv 0) (pa_cons (pe_bltn (v := .ty "bool") rfl T.b_bool bt_bool rfl) pa_nil)))))))), ?_⟩
    walk_at "r"; exact q
theorem D_is_step (T : Txt K mg C_Rule C_BookError C_NoNumber C_NoRule C_NoText) : DefOk P w K mg base 2 "is_step" ["thing"] sp_is_step := by
  obtain ⟨f, fd, F, hm⟩ := T.f_is_step
  have nd := sc_is_step.nd
  refine F.def_ hm (F.ok sc_is_step (fun vs H Q E h => ?_) (fun cdv A outer s H vs Q E hr h => ?_)) (F.binds fun _ _ _ _ _ _ us hl => by obtain ⟨_, rfl⟩ := L2.lq1 hl; rfl)
  · obtain ⟨x, p, rfl, _⟩ := h; rfl
  · obtain ⟨x, p, rfl, ⟨a, rfl, ha⟩, q⟩ := h
    refine ⟨_, (pss_one (ps_ret (pe_and (pe_callB call_isi rfl T.b_isinstance bt_isinstance (pa_cons (pv 0) (pa_cons (pe_bltn (v := .ty "tuple") rfl T.b_tuple bt_tuple rfl) pa_nil))) (pe_and (pe_cmpR op_eq (pe_callB call_len_seq rfl T.b_len bt_len (pa_cons (pv 0) pa_nil)) pe_int (nomark _)) (pe_and (pe_fn (D_is_whole T) (hr.mono (by decide)) rfl (pa_cons (pe_ix ix_tup (pv 0) pe_int (fun _ _ => rfl)) pa_nil)) (pe_one (pe_fn (D_is_whole T) (hr.mono (by decide)) rfl (pa_cons (pe_ix ix_tup (pv 0) pe_int (fun _ _ => rfl)) pa_nil)))))))), ?_⟩
    walk_at "r"; exact q
theorem D_check_one_step (T : Txt K mg C_Rule C_BookError C_NoNumber C_NoRule C_NoText) : DefX P w K mg base 3 "check_one_step" ["step"] [] (sp_one C_NoRule) := by
  obtain ⟨f, fd, F, hm⟩ := T.f_check_one_step
  have nd := sc_check_one_step.nd
  refine ⟨f, fd, (F.okX sc_check_one_step (fun vs H Q E h => ?_) (fun cdv A outer s H vs Q E hr h => ?_)), hm, F.kp, (F.binds fun _ _ _ _ _ _ us hl => by obtain ⟨_, rfl⟩ := L2.lq1 hl; rfl)⟩
  · obtain ⟨x, p, rfl, _⟩ := h; rfl
  · obtain ⟨x, p, rfl, hp, q, hE⟩ := h
    obtain ⟨a, rfl, ha⟩ := id hp
    refine ⟨_, (pss_cons (ps_if (pt_not (pt_val (pe_fn (D_is_step T) (hr.mono (by decide)) rfl (pa_cons (pv 0) pa_nil))))
        (pss_one (ps_raise (wants_wish ⟨rfl, rfl, rfl⟩) rfl T.ex_NoRule rfl T.mg_NoRule (pa_cons pe_str pa_nil)))
        pss_nil)
      (pss_cons (ps_if (pt_cmpR op_lt (pe_ix ix_tup (pv 0) pe_int (fun _ _ => rfl)) pe_int (nomark _))
        (pss_one (ps_raise (wants_wish ⟨rfl, rfl, rfl⟩) rfl T.ex_NoRule rfl T.mg_NoRule (pa_cons pe_str pa_nil)))
        pss_nil)
      (pss_one (ps_if (pt_cmpR op_lt (pe_ix ix_tup (pv 0) pe_int (fun _ _ => rfl)) pe_int (nomark _))
        (pss_one (ps_raise (wants_wish ⟨rfl, rfl, rfl⟩) rfl T.ex_NoRule rfl T.mg_NoRule (pa_cons pe_str pa_nil)))
        pss_nil)))), ?_⟩
    refine ⟨_, rfl, _, p, rfl, hp, _, rfl, iteF ?_⟩
    walk_at "r"
    refine ite2 (fun z => ?_) fun z => ?_
    · exact ⟨by walk_at "c", hE fun y => absurd (of_decide_eq_true z) (by have := y.1; omega)⟩
    have z' := z; simp at z'
    walk_at "r"
    refine ite2 (fun z => ?_) fun z => ?_
    · exact ⟨by walk_at "c", hE fun y => absurd (of_decide_eq_true z) (by have := y.2; omega)⟩
    have z2 := z; simp at z2
    exact q ⟨by omega, by omega⟩
theorem D_check_next_step (T : Txt K mg C_Rule C_BookError C_NoNumber C_NoRule C_NoText) : DefX P w K mg base 1 "check_next_step" ["step", "behind"] [] (sp_next C_NoRule) := by
  obtain ⟨f, fd, F, hm⟩ := T.f_check_next_step
  have nd := sc_check_next_step.nd
  refine ⟨f, fd, (F.okX sc_check_next_step (fun vs H Q E h => ?_) (fun cdv A outer s H vs Q E hr h => ?_)), hm, F.kp, (F.binds fun _ _ _ _ _ _ us hl => by obtain ⟨_, _, rfl⟩ := L2.lq2 hl; rfl)⟩
  · obtain ⟨x, y, p, p', rfl, _⟩ := h; rfl
  · obtain ⟨x, y, p, p', rfl, ⟨a, rfl, ha⟩, ⟨b, rfl, hb⟩, h0, q, hE⟩ := h
    refine ⟨_, (pss_cons (ps_if (pt_cmpR op_lt (pe_ix ix_tup (pv 1) pe_int (fun _ _ => rfl)) (pe_ix ix_tup (pv 0) pe_int (fun _ _ => rfl)) (nomark _))
        (pss_one (ps_raise (wants_wish ⟨rfl, rfl, rfl⟩) rfl T.ex_NoRule rfl T.mg_NoRule (pa_cons pe_str pa_nil)))
        pss_nil)
      (pss_one (ps_if (pt_cmpR op_ne (pe_op op_mod (pe_ix ix_tup (pv 1) pe_int (fun _ _ => rfl)) (pe_ix ix_tup (pv 0) pe_int (fun _ _ => rfl))) pe_int (nomark _))
        (pss_one (ps_raise (wants_wish ⟨rfl, rfl, rfl⟩) rfl T.ex_NoRule rfl T.mg_NoRule (pa_cons pe_str pa_nil)))
        pss_nil))), ?_⟩
    walk_at "r"
    refine ite2 (fun z => ?_) fun z => ?_
    · exact ⟨by walk_at "c", hE fun y => absurd (of_decide_eq_true z) (by have := y.1; omega)⟩
    have z' := z; simp at z'
    walk_at "r"
    refine ite2 (fun z => ?_) fun z => ?_
    · refine ⟨by walk_at "c", hE fun y => ?_⟩
      simp at z
      exact z y.2
    · simp at z
      exact q ⟨by omega, z⟩
theorem D_check_steps (T : Txt K mg C_Rule C_BookError C_NoNumber C_NoRule C_NoText) : DefX P w K mg base 4 "check_steps" ["steps"] [] (sp_csteps C_NoRule) := by
  obtain ⟨f, fd, F, hm⟩ := T.f_check_steps
  have nd := sc_check_steps.nd
  refine ⟨f, fd, (F.okX sc_check_steps (fun vs H Q E h => ?_) (fun cdv A outer s H vs Q E hr h => ?_)), hm, F.kp, (F.binds fun _ _ _ _ _ _ us hl => by obtain ⟨_, rfl⟩ := L2.lq1 hl; rfl)⟩
  · obtain ⟨l, xs, ps, rfl, _⟩ := h; rfl
  · obtain ⟨l, xs, ps, rfl, hl, hp, hz, q, hE⟩ := h
    have hlen := hp.length
    refine ⟨_, (pss_cons (ps_if (PW.pt (pw_or (pt_cmpR op_lt (pe_callB call_len_seq rfl T.b_len bt_len (pa_cons (pv 0) pa_nil)) pe_int (nomark _)) (pw_or1 (pt_cmpR op_gt (pe_callB call_len_seq rfl T.b_len bt_len (pa_cons (pv 0) pa_nil)) (pe_glob (v := .int 5) rfl T.c_MOST_STEPS.choose_spec ⟨_, rfl⟩) (nomark _)))))
        (pss_one (ps_raise (wants_wish ⟨rfl, rfl, rfl⟩) rfl T.ex_NoRule rfl T.mg_NoRule (pa_cons pe_str pa_nil)))
        pss_nil)
      (pss_cons (ps_for (own_wish ⟨rfl, rfl, rfl⟩) rfl (pi_list (pv 0)) (pg_name (i := 1) nd rfl (Or.inl rfl))
        (pss_one (ps_expr (pe_fnX (wants_wish ⟨rfl, rfl, rfl⟩) (D_check_one_step T) (hr.mono (by decide)) rfl .nil (pa_cons (pv 1) pa_nil)))))
      (pss_one (ps_for (own_wish ⟨rfl, rfl, rfl⟩) rfl (pi_zip rfl T.b_zip (pa_cons (pv 0) (pa_cons (pe_slice sl_listN (pv 0) (po_some pe_int) po_none) pa_nil))) (pg_tup rfl (pgs_cons (pg_name (i := 1) nd rfl (Or.inl rfl)) (pgs_cons (pg_name (i := 2) nd rfl (Or.inl rfl)) pgs_nil)))
        (pss_one (ps_expr (pe_fnX (wants_wish ⟨rfl, rfl, rfl⟩) (D_check_next_step T) (hr.mono (by decide)) rfl .nil (pa_cons (pv 1) (pa_cons (pv 2) pa_nil))))))))), ?_⟩
    walk_at "r"
    refine ite2 (fun z => ?_) fun z => ?_
    · refine iteT ?_
      exact ⟨by walk_at "c", hE (fun G => absurd (of_decide_eq_true z) (by have := G.lo; omega)) H (Same.refl _)⟩
    have z1 := z; simp at z1
    walk_at "r"
    refine ite2 (fun z => ?_) fun z => ?_
    · exact ⟨by walk_at "c", hE (fun G => absurd (of_decide_eq_true z) (by have := G.hi; omega)) H (Same.refl _)⟩
    have z2 := z; simp at z2
    refine ⟨_, rfl, l, rfl, ⟨_, SqL.of hl⟩, for_list (xs := xs) (fun i σ H2 => H2 = H ∧ (∀ j, j < i → ∀ p, ps[j]? = some p → StepOk p) ∧ ∃ v, σ = [some (.ref l), v, none]) ⟨rfl, (fun j hj => absurd hj (Nat.not_lt_zero _)), none, rfl⟩ (fun i σ H2 _ h2 => by rw [h2.1]; exact SqL.of hl) ?_ ?_⟩
    · rintro i x σ H2 hi ⟨rfl, hj, v, rfl⟩
      obtain ⟨p, hpi, hx⟩ := hp.get hi
      refine ⟨_, rfl, _, p, rfl, hx, fun ok => ⟨rfl, fun j hj' p' hp' => ?_, _, rfl⟩, fun no => hE (fun G => no (G.each i p hpi)) _ (Same.refl _)⟩
      by_cases e : j = i
      · subst e; rw [hpi] at hp'; cases hp'; exact ok
      · exact hj j (by omega) p' hp'
    · rintro σ H2 ⟨rfl, hj, v, rfl⟩
      have each : ∀ (i : Nat) p, ps[i]? = some p → StepOk p := fun i p e => hj i (by have := (List.getElem?_eq_some_iff.mp e).1; omega) p e
      refine ⟨_, rfl, _, rfl, _, rfl, _, xs, rfl, SqL.of hl, fun l2 H3 n3 => ?_⟩
      refine ⟨l, l2, xs, _, rfl, SqL.of (n3.same _ _ hl), SqL.of n3.at_, for_zipN (xs := xs) (ys := cutV xs (some 1) none) (fun i σ H4 => Same H3 H4 ∧ (∀ j, j < i → ∀ p p', ps[j]? = some p → ps[j + 1]? = some p' → NextOk p p') ∧ ∃ u v, σ = [some (.ref l), u, v]) ⟨Same.refl _, (fun j hj => absurd hj (Nat.not_lt_zero _)), _, _, rfl⟩
        (fun i σ H4 h4 => ⟨SqL.of (h4.1 _ _ (n3.same _ _ hl)), SqL.of (h4.1 _ _ n3.at_)⟩) ?_ ?_⟩
      · rintro i x y σ H4 p H5 hx hy n5 ⟨s4, hj2, u, v', rfl⟩
        obtain ⟨p1, hp1, hx1⟩ := hp.get hx
        have hy' : xs[i + 1]? = some y := by
          have : cutV xs (some 1) none = xs.drop 1 := cut1 xs
          rw [this, List.getElem?_drop] at hy
          rwa [Nat.add_comm] at hy
        obtain ⟨p2, hp2, hx2⟩ := hp.get hy'
        have s5 : Same H2 H5 := n3.same.trans (s4.trans n5.same)
        refine ⟨p, _, rfl, SqT.of n5.at_, rfl, _, _, rfl, _, _, rfl, rfl, ?_⟩
        refine ⟨_, rfl, _, rfl, x, y, p1, p2, rfl, hx1.same s5, hx2.same s5, (each i p1 hp1).2, fun ok => ⟨s4.trans n5.same, fun j hj' q1 q2 e1 e2 => ?_, _, _, rfl⟩, fun no => hE (fun G => no (G.next i p1 p2 hp1 hp2)) _ s5⟩
        by_cases e : j = i
        · subst e; rw [hp1] at e1; rw [hp2] at e2; cases e1; cases e2; exact ok
        · exact hj2 j (by omega) q1 q2 e1 e2
      · rintro i σ H4 hi ⟨s4, hj2, _, _, _⟩
        refine q ⟨by omega, by omega, each, fun j p1 p2 e1 e2 => hj2 j ?_ p1 p2 e1 e2⟩ H4 (n3.same.trans s4)
        have := (List.getElem?_eq_some_iff.mp e2).1
        rw [hi, cut1, List.length_drop]
        omega
theorem D_check_gone (T : Txt K mg C_Rule C_BookError C_NoNumber C_NoRule C_NoText) : DefX P w K mg base 2 "check_gone" ["gone", "last_age"] [] (sp_cgone C_NoRule) := by
  obtain ⟨f, fd, F, hm⟩ := T.f_check_gone
  have nd := sc_check_gone.nd
  refine ⟨f, fd, (F.okX sc_check_gone (fun vs H Q E h => ?_) (fun cdv A outer s H vs Q E hr h => ?_)), hm, F.kp, (F.binds fun _ _ _ _ _ _ us hl => by obtain ⟨_, _, rfl⟩ := L2.lq2 hl; rfl)⟩
  · obtain ⟨g, last, rfl, _⟩ := h; rfl
  · obtain ⟨g, last, rfl, q, hE⟩ := h
    refine ⟨_, (pss_cons (ps_if (pt_cmpR op_isN (pv 0) pe_non (nomark _))
        (pss_one ps_retN)
        pss_nil)
      (pss_one (ps_if (PW.pt (pw_or (pt_not (pt_val (pe_fn (D_is_whole T) (hr.mono (by decide)) rfl (pa_cons (pv 0) pa_nil)))) (pw_or1 (pt_cmpR op_lt (pv 0) (pv 1) (nomark _)))))
        (pss_one (ps_raise (wants_wish ⟨rfl, rfl, rfl⟩) rfl T.ex_NoRule rfl T.mg_NoRule (pa_cons pe_str pa_nil)))
        pss_nil))), ?_⟩
    cases g with
    | none => exact ⟨_, rfl, rfl, _, rfl, iteT (q fun z e => by cases e)⟩
    | some z =>
      refine ⟨_, rfl, rfl, _, rfl, iteF ?_⟩
      refine ⟨_, rfl, _, rfl, z, rfl, _, rfl, iteF ?_⟩
      refine ⟨_, rfl, _, rfl, _, _, rfl, rfl, _, rfl, ite2 (fun y => ?_) fun y => ?_⟩
      · exact ⟨by walk_at "c", hE fun h => absurd (of_decide_eq_true y) (by have := h z rfl; omega)⟩
      · simp at y
        exact q fun z' e => by cases e; exact y
theorem G_Rule_init (T : Txt K mg C_Rule C_BookError C_NoNumber C_NoRule C_NoText) : ∃ f fd dT o n, FnOk P w K mg base (CX1 P w) 5 f fd ["self", "steps", "gone"] (spX_init C_Rule C_NoRule) ∧ FunD K "__init__" "Rule.__init__" s_Rule_init (.ref dT) f fd ∧ Mk K C_Rule f ∧ fd.defaults = .ref dT ∧ K.lookup dT = some o ∧ o.data = .seq #[.none] n := by
  obtain ⟨f, fd, dT, o, n, F, M, h1, h2, h3⟩ := T.f_Rule_init
  have nd := sc_Rule_init.nd
  refine ⟨f, fd, dT, o, n, (F.okX sc_Rule_init (fun vs H Q E h => ?_) (fun cdv A outer s H vs Q E hr h => ?_)), F, M, h1, h2, h3⟩
  · obtain ⟨r, dx, l, xs, ps, g, rfl, _⟩ := h; rfl
  · obtain ⟨r, dx, l, xs, ps, g, rfl, hro, hl, hp, hz, k, hE⟩ := h
    refine ⟨_, (pss_cons (ps_set (i := 3) nd rfl (Or.inl rfl) (pe_callTy call_listN rfl T.b_list bt_list (pa_cons (pv 1) pa_nil)))
      (pss_cons (ps_expr (pe_fnX (wants_wish ⟨rfl, rfl, rfl⟩) (D_check_steps T) (hr.mono (by decide)) rfl .nil (pa_cons (pv 3) pa_nil)))
      (pss_cons (ps_expr (pe_fnX (wants_wish ⟨rfl, rfl, rfl⟩) (D_check_gone T) (hr.mono (by decide)) rfl .nil (pa_cons (pv 2) (pa_cons (pe_ix ix_tup (pe_ix ix_list (pv 3) (pe_un un_neg pe_int) (fun _ _ => rfl)) pe_int (fun _ _ => rfl)) pa_nil))))
      (pss_cons (ps_fldN (pv 0) (pv 3) rfl)
      (pss_one (ps_fldN (pv 0) (pv 2) rfl)))))), ?_⟩
    refine ⟨_, rfl, l, xs, rfl, .inl (SqL.of hl), fun l' H1 n1 => ?_⟩
    refine ⟨_, rfl, l', xs, ps, rfl, n1.at_, hp.same n1.same, hz, fun G H2 s2 => ?_, fun no H2 s2 => hE (fun h => no h.1) H2 (n1.same.trans s2)⟩
    have hl2 := s2 _ _ n1.at_
    have hp2 := (hp.same n1.same).same s2
    have hlen := hp.length
    have g1 := G.lo
    obtain ⟨v, hv⟩ : ∃ v, xs[xs.length - 1]? = some v := ⟨xs[xs.length - 1]'(by omega), List.getElem?_eq_getElem _⟩
    obtain ⟨p, hpv, a, rfl, ha⟩ := hp2.get hv
    rw [hlen] at hpv
    refine ⟨_, rfl, _, rfl, _, rfl, l', xs, -1, _, rfl, rfl, SqL.of hl2, atI_m1 hv, a, _, 0, _, rfl, rfl, SqT.of ha, rfl, g, p.1, rfl, fun hg => ?_, fun no => hE (fun h => no (h.2 p hpv)) H2 (n1.same.trans s2)⟩
    have hr2 := s2 _ _ (n1.same _ _ hro)
    have nrl : r ≠ l' := ne_of_none hro n1.fresh
    refine ⟨_, rfl, _, rfl, r, C_Rule, dx, [], rfl, hr2, T.cl_Rule, T.na_Rule_kept_steps, (by show 0 < 1000; decide), fun H3 b3 h3 => ?_⟩
    refine ⟨_, rfl, _, rfl, r, C_Rule, dx, _, rfl, h3, T.cl_Rule, T.na_Rule_gone_age, (by show 1 < 1000; decide), fun H4 b4 h4 => ?_⟩
    refine k ⟨G, fun p' e => by rw [hpv] at e; cases e; exact hg⟩ l' _ n1.fresh ⟨⟨dx, h4⟩, xs, b4 _ _ (b3 _ _ hl2 nrl.symm) nrl.symm, (hp2.but b3 hr2 ins_nt).but b4 h3 ins_nt⟩ fun b o e hb => ?_
    exact b4 _ _ (b3 _ _ (s2 _ _ (n1.same _ _ e)) hb) hb
theorem D_Rule_2 (T : Txt K mg C_Rule C_BookError C_NoNumber C_NoRule C_NoText) : MkX P w K mg base C_Rule 5 "Rule" ["self", "steps", "gone"] [] (spX_init C_Rule C_NoRule) := by
  obtain ⟨f, fd, dT, o, n, hf, F, M, h1, h2, h3⟩ := G_Rule_init (P := P) (w := w) (base := base) T
  refine ⟨f, fd, hf, T.mg_Rule, M, binds_d h1 h2 h3 fun us hl => ?_⟩
  obtain ⟨oc, od, kV, doc, pm, an, cdv, ct, osl, rfl, lk, hcd⟩ := F.ex
  match us, hl with
  | [_, _, _], _ => exact ⟨_, rfl, rfl⟩
end
section
variable {P : Program} {w : World} {K : PySem.W.Frag} {mg : Str → Option Value} {base : Heap} {C_Rule C_BookError C_NoNumber C_NoRule C_NoText : Addr}
theorem D_Rule_steps (T : Txt K mg C_Rule C_BookError C_NoNumber C_NoRule C_NoText) : MetOk P w K mg base C_Rule 1 "steps" ["self"] (sp2_steps C_Rule) := by
  obtain ⟨f, fd, F, hm⟩ := T.f_Rule_steps
  have nd := sc_Rule_steps.nd
  refine ⟨f, fd, (F.ok sc_Rule_steps (fun vs H Q E h => ?_) (fun cdv A outer s H vs Q E hr h => ?_)), hm, (F.binds fun _ _ _ _ _ _ us hl => by obtain ⟨_, rfl⟩ := L2.lq1 hl; rfl)⟩
  · obtain ⟨r, l, ps, g, xs, rfl, _⟩ := h; rfl
  · obtain ⟨r, l, ps, g, xs, rfl, R, hl, k⟩ := h
    obtain ⟨dx, hob⟩ := R.ob
    refine ⟨_, (pss_one (ps_ret (pe_callTy call_listN rfl T.b_list bt_list (pa_cons (pe_fld (pv 0) rfl) pa_nil)))), ?_⟩
    exact ⟨_, rfl, r, C_Rule, dx, _, _, rfl, hob, T.cl_Rule, T.na_Rule_kept_steps, rf_ks _ _, l, xs, rfl, .inl (SqL.of hl), k⟩
end
section
variable {P : Program} {w : World} {K : PySem.W.Frag} {mg : Str → Option Value} {base : Heap} {C_Rule C_BookError C_NoNumber C_NoRule C_NoText : Addr}
theorem D_Rule_gone (T : Txt K mg C_Rule C_BookError C_NoNumber C_NoRule C_NoText) : MetOk P w K mg base C_Rule 1 "gone" ["self"] (sp_gone C_Rule) := by
  obtain ⟨f, fd, F, hm⟩ := T.f_Rule_gone
  have nd := sc_Rule_gone.nd
  refine ⟨f, fd, (F.ok sc_Rule_gone (fun vs H Q E h => ?_) (fun cdv A outer s H vs Q E hr h => ?_)), hm, (F.binds fun _ _ _ _ _ _ us hl => by obtain ⟨_, rfl⟩ := L2.lq1 hl; rfl)⟩
  · obtain ⟨r, l, ps, g, rfl, _⟩ := h; rfl
  · obtain ⟨r, l, ps, g, rfl, R, q⟩ := h
    obtain ⟨dx, hob⟩ := R.ob
    refine ⟨_, (pss_one (ps_ret (pe_fld (pv 0) rfl))), ?_⟩
    exact ⟨_, rfl, r, C_Rule, dx, _, _, rfl, hob, T.cl_Rule, T.na_Rule_gone_age, rf_ga _ _, q⟩
end
section
variable {P : Program} {w : World} {K : PySem.W.Frag} {mg : Str → Option Value} {base : Heap} {C_Rule C_BookError C_NoNumber C_NoRule C_NoText : Addr}
theorem D__law_mixed (T : Txt K mg C_Rule C_BookError C_NoNumber C_NoRule C_NoText) : DefOk P w K mg base 1 "_law_mixed" ["_law_x", "_law_k"] sp_mixed := by
  obtain ⟨f, fd, F, hm⟩ := T.f__law_mixed
  have nd := sc__law_mixed.nd
  refine F.def_ hm (F.ok sc__law_mixed (fun vs H Q E h => ?_) (fun cdv A outer s H vs Q E hr h => ?_)) (F.binds fun _ _ _ _ _ _ us hl => by obtain ⟨_, _, rfl⟩ := L2.lq2 hl; rfl)
  · obtain ⟨c, k, rfl, _⟩ := h; rfl
  · obtain ⟨c, k, rfl, q⟩ := h
    have hM : (0 : Int) < 2147483647 := by decide
    refine ⟨_, (pss_cons (ps_set (i := 2) nd rfl (Or.inl rfl) (pe_op op_mod (pe_op op_mul (pe_op op_add (pe_op op_add (pe_op op_mod (pv 0) pe_int) (pe_op op_mul pe_int (pv 1))) pe_int) pe_int) pe_int))
      (pss_one (ps_ret (pe_op op_mod (pe_op op_mul (pv 2) (pe_op op_add (pe_op op_fdiv (pv 2) pe_int) pe_int)) pe_int)))), ?_⟩
    refine ⟨_, rfl, _, _, rfl, rfl, hM, _, rfl, _, _, rfl, rfl, .inl ⟨by decide, by decide⟩, _, _, rfl, rfl, _, _, rfl, rfl, _, _, rfl, rfl, .inr ⟨by decide, by decide⟩, _, _, rfl, rfl, hM, ?_⟩
    have hb := mixN_b c k
    exact ⟨_, rfl, _, rfl, _, _, rfl, rfl, ⟨by decide, by decide⟩, _, _, rfl, rfl, _, _, rfl, rfl, .inl ⟨by show -(2 ^ 64) < mixN c k; omega, by show mixN c k < 2 ^ 64; omega⟩, _, _, rfl, rfl, hM, q⟩
theorem D__law_amount (T : Txt K mg C_Rule C_BookError C_NoNumber C_NoRule C_NoText) : DefOk P w K mg base 1 "_law_amount" ["_law_x"] sp_amount := by
  obtain ⟨f, fd, F, hm⟩ := T.f__law_amount
  have nd := sc__law_amount.nd
  refine F.def_ hm (F.ok sc__law_amount (fun vs H Q E h => ?_) (fun cdv A outer s H vs Q E hr h => ?_)) (F.binds fun _ _ _ _ _ _ us hl => by obtain ⟨_, rfl⟩ := L2.lq1 hl; rfl)
  · obtain ⟨x, rfl, _⟩ := h; rfl
  · obtain ⟨x, rfl, q⟩ := h
    have h4 : (0 : Int) < 4 ∧ (4 : Int) < 1073741824 := by decide
    refine ⟨_, (pss_one (ps_ret (pe_ix ix_list (pe_lstN (pa_cons pe_int (pa_cons (pe_op op_mod (pe_op op_fdiv (pv 0) pe_int) pe_int) (pa_cons (pe_op op_mod (pe_op op_fdiv (pv 0) pe_int) pe_int) (pa_cons (pe_op op_mul (pe_op op_fdiv (pv 0) pe_int) (pe_op op_add (pe_op op_pow pe_int pe_int) pe_int)) pa_nil))))) (pe_op op_mod (pv 0) pe_int) (fun _ _ => rfl)))), ?_⟩
    refine ⟨_, rfl, _, _, rfl, rfl, h4, _, _, rfl, rfl, (by show (0 : Int) < 5; decide), _, rfl, _, _, rfl, rfl, h4, _, _, rfl, rfl, (by show (0 : Int) < 100; decide), _, rfl, _, _, rfl, rfl, h4, _, _, rfl, rfl, ⟨by decide, by decide, by decide⟩, _, _, rfl, rfl, _, _, rfl, rfl, .inr ⟨by decide, by decide⟩, by show 4 ≤ sizeLine; decide, fun p H1 n1 => ?_⟩
    exact ⟨_, rfl, _, _, rfl, rfl, h4.1, p, _, _, _, rfl, rfl, SqL.of n1.at_, at4 _ _ _ _ _, q _ n1.same⟩
theorem D__law_rule (T : Txt K mg C_Rule C_BookError C_NoNumber C_NoRule C_NoText) : DefOk P w K mg base 2 "_law_rule" ["_law_number"] sp2_rule := by
  obtain ⟨f, fd, F, hm⟩ := T.f__law_rule
  have nd := sc__law_rule.nd
  refine F.def_ hm (F.ok sc__law_rule (fun vs H Q E h => ?_) (fun cdv A outer s H vs Q E hr h => ?_)) (F.binds fun _ _ _ _ _ _ us hl => by obtain ⟨_, rfl⟩ := L2.lq1 hl; rfl)
  · obtain ⟨c, rfl, _⟩ := h; rfl
  · obtain ⟨c, rfl, q⟩ := h
    have h3 : (0 : Int) < 3 ∧ (3 : Int) < 1073741824 := by decide
    have h5 : (0 : Int) < 5 ∧ (5 : Int) < 1073741824 := by decide
    refine ⟨_, (pss_cons (ps_set (i := 1) nd rfl (Or.inl rfl) (pe_lstN pa_nil))
      (pss_cons (ps_set (i := 2) nd rfl (Or.inl rfl) (pe_fn (D__law_amount T) (hr.mono (by decide)) rfl (pa_cons (pe_fn (D__law_mixed T) (hr.mono (by decide)) rfl (pa_cons (pv 0) (pa_cons pe_int pa_nil))) pa_nil)))
      (pss_cons (ps_set (i := 3) nd rfl (Or.inl rfl) pe_int)
      (pss_cons (ps_for PassesOwn.never rfl (pi_range1 rfl T.b_range (pa_cons (pe_op op_add pe_int (pe_op op_mod (pv 0) pe_int)) pa_nil)) (pg_name (i := 4) nd rfl (Or.inl rfl))
        (pss_cons (ps_set (i := 5) nd rfl (Or.inl rfl) (pe_fn (D__law_mixed T) (hr.mono (by decide)) rfl (pa_cons (pv 0) (pa_cons (pe_op op_add (pe_op op_mul pe_int (pv 4)) pe_int) pa_nil))))
      (pss_cons (ps_set (i := 2) nd rfl (Or.inl rfl) (pe_op op_add (pv 2) (pe_fn (D__law_amount T) (hr.mono (by decide)) rfl (pa_cons (pe_fn (D__law_mixed T) (hr.mono (by decide)) rfl (pa_cons (pv 0) (pa_cons (pe_op op_add (pe_op op_mul pe_int (pv 4)) pe_int) pa_nil))) pa_nil))))
      (pss_cons (ps_set (i := 3) nd rfl (Or.inl rfl) (pe_op op_mul (pv 3) (pe_op op_add pe_int (pe_ix ix_list (pe_lstN (pa_cons pe_int (pa_cons (pe_op op_mod (pe_op op_fdiv (pv 5) pe_int) pe_int) (pa_cons (pe_op op_mod (pe_op op_fdiv (pv 5) pe_int) (pe_op op_pow pe_int pe_int)) pa_nil)))) (pe_op op_mod (pv 5) pe_int) (fun _ _ => rfl)))))
      (pss_one (ps_expr (pe_bm PySem.F.plainAttrs_list PySem.F.slot_list_append PySem.F.type_list_append mt_appendN (pv 1) (pa_cons (pe_tupN (pa_cons (pv 2) (pa_cons (pv 3) pa_nil))) pa_nil))))))))
      (pss_cons (ps_set (i := 6) nd rfl (Or.inl rfl) pe_non)
      (pss_cons (ps_if (pt_cmpR op_gt (pe_op op_mod (pe_op op_fdiv (pv 0) pe_int) pe_int) pe_int (nomark _))
        (pss_one (ps_set (i := 6) nd rfl (Or.inl rfl) (pe_op op_add (pv 2) (pe_fn (D__law_amount T) (hr.mono (by decide)) rfl (pa_cons (pe_fn (D__law_mixed T) (hr.mono (by decide)) rfl (pa_cons (pv 0) (pa_cons pe_int pa_nil))) pa_nil)))))
        pss_nil)
      (pss_one (ps_ret (pe_tupN (pa_cons (pv 1) (pa_cons (pv 6) pa_nil))))))))))), ?_⟩
    refine ⟨by show 0 ≤ sizeLine; decide, fun l H0 n0 => ?_⟩
    refine ⟨_, rfl, _, _, rfl, _, rfl, fun H1 s1 => ?_⟩
    refine ⟨_, rfl, _, _, rfl, rfl, h5.1, _, _, rfl, rfl, _, rfl, by omega, by omega, for_range (n := stepN c) (fun i σ H2 => Same H H2 ∧ ∃ xs v4 v5, H2 l = some (.lst xs) ∧ Pairs H2 xs (stepsUpTo c i) ∧ σ = [some (.int c), some (.ref l), some (.int (ageAt c i)), some (.int (widthAt c i)), v4, v5, none]) ⟨n0.same.trans s1, [], none, none, s1 _ _ n0.at_, .nil, rfl⟩ ?_ ?_⟩
    · rintro i σ H2 hi ⟨s2, xs, v4, v5, hl2, hp2, rfl⟩
      rw [Int.zero_add]
      refine ⟨_, rfl, _, rfl, _, _, rfl, rfl, .inl ⟨by decide, by decide⟩, _, _, rfl, rfl, _, _, rfl, ?_⟩
      refine ⟨_, rfl, _, rfl, _, rfl, _, _, rfl, rfl, .inl ⟨by decide, by decide⟩, _, _, rfl, rfl, _, _, rfl, _, rfl, fun H3 s3 => ⟨_, _, rfl, rfl, ?_⟩⟩
      have hf := factor_b (mixed c (2 * (i : Int) + 1))
      refine ⟨_, rfl, _, rfl, _, _, rfl, rfl, h3, _, _, rfl, rfl, (by show (0 : Int) < 12; decide), _, rfl, _, _, rfl, rfl, h3, _, _, rfl, rfl, ⟨by decide, by decide, by decide⟩, _, _, rfl, rfl, (by show (0 : Int) < 10 ^ 7; decide), by show 3 ≤ sizeLine; decide, fun p H4 n4 => ?_⟩
      refine ⟨_, rfl, _, _, rfl, rfl, h3.1, p, _, _, _, rfl, rfl, SqL.of n4.at_, at3 _ _ _ _, _, _, rfl, rfl, _, _, rfl, rfl, .inr ⟨by show -(2 ^ 64) < factor (mixed c (2 * (i : Int) + 1)); omega, by show factor (mixed c (2 * (i : Int) + 1)) < 2 ^ 64; omega⟩, ?_⟩
      have s4 : Same H2 H4 := s3.trans n4.same
      refine ⟨_, rfl, .inl ⟨rfl, _, SqL.of (s4 _ _ hl2)⟩, _, rfl, _, rfl, by show 2 ≤ sizeLine; decide, fun t H5 n5 => ?_⟩
      have hlen := hp2.length
      rw [steps_len] at hlen
      have hl5 := n5.same _ _ (s4 _ _ hl2)
      refine ⟨l, xs, _, rfl, rfl, hl5, small1000 (by have := (stepN_b c).2; omega), fun H6 b6 h6 => ?_⟩
      refine ⟨b6.same (s2.trans (s4.trans n5.same)) n0.fresh, xs ++ [.ref t], _, _, h6, ?_, rfl⟩
      refine Pairs.but ?_ b6 hl5 lst_nt
      exact Pairs.snoc (p := (ageAt c (i + 1), widthAt c (i + 1))) ⟨t, rfl, n5.at_⟩ ((hp2.same s4).same n5.same)
    · rintro σ H2 ⟨s2, xs, v4, v5, hl2, hp2, rfl⟩
      refine ⟨_, rfl, _, _, rfl, rfl, h5, _, _, rfl, rfl, h3.1, _, _, rfl, rfl, _, rfl, ite2 (fun z => ?_) fun z => ?_⟩
      · have z' := of_decide_eq_true z
        refine ⟨_, rfl, _, rfl, _, _, rfl, _, rfl, fun H3 s3 => ⟨_, _, rfl, rfl, ?_⟩⟩
        refine ⟨_, rfl, _, rfl, by show 2 ≤ sizeLine; decide, fun t H4 n4 => ?_⟩
        have e : goneOf c = some (ageAt c (stepN c) + amount (mixed c 20)) := if_pos z'
        have s4 := s3.trans n4.same
        exact q t l xs _ (s2.trans s4) n0.fresh (by rw [e]; exact n4.at_) (s4 _ _ hl2) (hp2.same s4)
      · have z' : ¬ (0 < c / 5 % 3) := fun y => z (decide_eq_true y)
        refine ⟨_, rfl, _, rfl, by show 2 ≤ sizeLine; decide, fun t H4 n4 => ?_⟩
        have e : goneOf c = none := if_neg z'
        exact q t l xs _ (s2.trans n4.same) n0.fresh (by rw [e]; exact n4.at_) (n4.same _ _ hl2) (hp2.same n4.same)
end
section
variable {P : Program} {w : World} {K : PySem.W.Frag} {mg : Str → Option Value} {base : Heap} {C_Rule C_BookError C_NoNumber C_NoRule C_NoText : Addr}
abbrev tS (w : List Nat) : V := V.str (S w)
theorem lc_rows {K : PySem.W.Frag} {a : Addr} {xs : List V} {ps : List (Int × Int)} {te : TE} {Q : VK} {σ : St} {H : Hp} (f : Int × Int → List Nat) (ha : H a = some (.lst xs)) (hp : Pairs H xs ps) (hz : ps.length ≤ 1000)
    (hs : ∀ p ∈ ps, ∀ Q' : VK, Q' (tS (f p)) H → te ((σ.set 0 (some (.int p.1))).set 1 (some (.int p.2))) H Q')
    (hd : ∀ l H', New H H' l (.lst ((ps.map f).map tS)) → Q (.ref l) H') : lcGoal (Itl K a) Q (gTup K 2 (gCons (gName 0) (gCons (gName 1) gNil))) tYes te σ H := by
  have hlen := hp.length
  refine lc_listN (xs := xs) (fun i ys H2 => H2 = H ∧ ys = ((ps.take i).map f).map tS) (sz20 (by omega)) ⟨rfl, rfl⟩ (fun i ys H2 h2 => ⟨SqL.of (by rw [h2.1]; exact ha), by rw [h2.2]; simp; omega⟩) ?_ ?_
  · rintro i x ys H2 hi ⟨rfl, rfl⟩
    obtain ⟨p, hpi, b, rfl, hb⟩ := hp.get hi
    refine ⟨b, _, rfl, SqT.of hb, rfl, _, _, rfl, _, _, rfl, rfl, yes_ (iteT ?_)⟩
    refine hs p (List.mem_of_getElem? hpi) _ ⟨rfl, ?_⟩
    rw [List.take_add_one, hpi]; simp
  · rintro ys H2 l H' ⟨rfl, rfl⟩ n
    rw [hlen, List.take_length] at n
    exact hd l H' n
theorem sm_bn {n : Int} (h : TX.Sm n) : BN n := Nat.lt_of_lt_of_le h (Nat.pow_le_pow_right (by decide) (by decide))
theorem sm_len {n : Int} (h : TX.Sm n) : (TX.sg n).length ≤ 101 := TX.sg_len (by decide) h
theorem row_len {p : Int × Int} (h1 : TX.Sm p.1) (h2 : TX.Sm p.2) : (TX.rowT p).length ≤ 203 := by
  have a := sm_len h1
  have b := sm_len h2
  unfold TX.rowT
  simp; omega
def SmR (ps : List (Int × Int)) (g : Option Int) : Prop := ps.length ≤ 10 ∧ (∀ p ∈ ps, TX.Sm p.1 ∧ TX.Sm p.2) ∧ ∀ z, g = some z → TX.Sm z
theorem join_le (k : Nat) : ∀ ws : List (List Nat), (∀ w ∈ ws, w.length ≤ k) → (joinL [32] ws).length ≤ (k + 1) * ws.length ∧ (ws.map List.length).sum ≤ k * ws.length
  | [], _ => by simp [joinL]
  | [w], h => by have := h w (.head _); simp [joinL]; omega
  | w :: v :: ws, h => by
    obtain ⟨i1, i2⟩ := join_le k (v :: ws) fun u hu => h u (.tail _ hu)
    have := h w (.head _)
    constructor
    · show (w ++ [32] ++ joinL [32] (v :: ws)).length ≤ _
      simp [Nat.mul_add] at i1 ⊢; omega
    · simp [Nat.mul_add] at i2 ⊢; omega
theorem wordsR_len {ps : List (Int × Int)} {g : Option Int} (h : SmR ps g) : (∀ w ∈ TX.wordsR ps g, w.length ≤ 203) ∧ (TX.wordsR ps g).length ≤ 12 := by
  refine ⟨fun w hw => ?_, ?_⟩
  · rcases List.mem_append.mp hw with z | z
    · obtain ⟨p, hp, rfl⟩ := List.mem_map.mp z
      exact row_len (h.2.1 p hp).1 (h.2.1 p hp).2
    · cases g with
      | none => cases z
      | some n =>
        rcases List.mem_cons.mp z with rfl | z
        · decide
        · rw [List.mem_singleton.mp z]
          have := sm_len (h.2.2 n rfl)
          omega
  · have := h.1
    unfold TX.wordsR
    cases g with
    | none => simp [TX.goneT]; omega
    | some n => simp [TX.goneT]; omega
theorem textR_len {ps : List (Int × Int)} {g : Option Int} (h : SmR ps g) : (TX.textR ps g).length ≤ 2448 := by
  obtain ⟨a, b⟩ := wordsR_len h
  have := (join_le 203 _ a).1
  unfold TX.textR
  omega
theorem w_colon : (Str.ofString ":") = S [58] := by decide +kernel
theorem w_blank : (Str.ofString " ") = S [32] := by decide +kernel
theorem w_gone : (Str.ofString "gone") = S TX.goneW := by decide +kernel
theorem rf_nsteps (l : Addr) (g : V) : (rf l g).lookup ("steps" : Str) = none := rf_no _ _ (by decide +kernel) (by decide +kernel)
theorem rf_ngone (l : Addr) (g : V) : (rf l g).lookup ("gone" : Str) = none := rf_no _ _ (by decide +kernel) (by decide +kernel)
inductive sp_show (C : Addr) (vs : List V) (H : Hp) (Q : VK) (E_ : XK) : Prop
  | mk : ∀ r l ps g, vs = [.ref r] → RuleAt C H r l ps g → SmR ps g → (∀ H', Same H H' → Q (.str (S (TX.textR ps g))) H') → sp_show C vs H Q E_
theorem D_show_rule (T : Txt K mg C_Rule C_BookError C_NoNumber C_NoRule C_NoText) : DefOk P w K mg base 2 "show_rule" ["rule"] (sp_show C_Rule) := by
  obtain ⟨f, fd, F, hm⟩ := T.f_show_rule
  have nd := sc_show_rule.nd
  refine F.def_ hm (F.ok sc_show_rule (fun vs H Q E h => ?_) (fun cdv A outer s H vs Q E hr h => ?_)) (F.binds fun _ _ _ _ _ _ us hl => by obtain ⟨_, rfl⟩ := L2.lq1 hl; rfl)
  · obtain ⟨r, l, ps, g, rfl, _⟩ := h; rfl
  · obtain ⟨r, l, ps, g, rfl, R, sm, q⟩ := h
    obtain ⟨xs, hl, hp⟩ := R.ls
    obtain ⟨dx, hob⟩ := R.ob
    have wl := wordsR_len sm
    have jl := join_le 203 _ wl.1
    refine ⟨_, (pss_cons (ps_setLC (i := 1) (vars := ["age", "width"]) (frees := []) (fv := []) nd rfl (Or.inl rfl) rfl (lcOk rfl rfl (by decide +kernel) (by decide +kernel) (by intro p hp; cases hp) rfl) trivial (pi_list (pe_mt0 (pv 0) T.cl_Rule (D_Rule_steps T) (hr.mono (by decide)))) (gk_pair (by decide) (by decide)) (fun _ _ _ _ => (pg_tup rfl (pgs_cons (pg_name (i := 0) (show (["age", "width"] : List Str).Nodup by decide +kernel) rfl (Or.inl rfl)) (pgs_cons (pg_name (i := 1) (show (["age", "width"] : List Str).Nodup by decide +kernel) rfl (Or.inl rfl)) pgs_nil)))) (fun _ _ _ _ => pif_none) (fun _ _ _ _ => (pe_op op_add_str (pe_op op_add_str (pe_fn (D_show_number T) (hr.mono (by decide)) rfl (pa_cons (pv 0) pa_nil)) pe_str) (pe_fn (D_show_number T) (hr.mono (by decide)) rfl (pa_cons (pv 1) pa_nil)))))
      (pss_cons (ps_if (pt_cmpR op_notN (pe_mt0 (pv 0) T.cl_Rule (D_Rule_gone T) (hr.mono (by decide))) pe_non (nomark _))
        (pss_one (ps_expr (pe_bm PySem.F.plainAttrs_list PySem.F.slot_list_extend PySem.F.type_list_extend mt_extendN (pv 1) (pa_cons (pe_lstN (pa_cons pe_str (pa_cons (pe_fn (D_show_number T) (hr.mono (by decide)) rfl (pa_cons (pe_mt0 (pv 0) T.cl_Rule (D_Rule_gone T) (hr.mono (by decide))) pa_nil)) pa_nil))) pa_nil))))
        pss_nil)
      (pss_one (ps_ret (pe_bm PySem.F.plainAttrs_str PySem.F.slot_str_join PySem.F.type_str_join mt_join pe_str (pa_cons (pv 1) pa_nil)))))), ?_⟩
    rw [w_colon, w_blank]
    refine ⟨_, rfl, r, dx, _, rfl, hob, rf_nsteps _ _, r, l, ps, g, xs, rfl, R, hl, fun l2 H1 n1 => ?_⟩
    have hp1 := hp.same n1.same
    refine ⟨l2, rfl, ⟨_, SqL.of n1.at_⟩, lc_rows TX.rowT n1.at_ hp1 (by have := sm.1; omega) (fun p hpm Q' q' => ?_) fun lw H2 n2 => ?_⟩
    · obtain ⟨s1, s2⟩ := sm.2.1 p hpm
      have la := sm_len s1
      have lb := sm_len s2
      refine ⟨_, rfl, p.1, rfl, sm_bn s1, _, _, rfl, rfl, sz20 (by rw [S_len, S_len]; simp; omega), ?_⟩
      rw [S_cat]
      refine ⟨_, rfl, p.2, rfl, sm_bn s2, _, _, rfl, rfl, sz20 (by rw [S_len, S_len]; simp; omega), ?_⟩
      rw [S_cat]
      have e : TX.sg p.1 ++ [58] ++ TX.sg p.2 = TX.rowT p := by unfold TX.rowT; simp
      rw [e]
      exact q'
    · have s02 := n1.same.trans n2.same
      refine gname_ ?_
      have R2 := R.same s02
      have hob2 := s02 _ _ hob
      have fin : ∀ H3, Same H H3 → H3 lw = some (.lst ((TX.wordsR ps g).map tS)) → ∃ sep ws p, V.str (S [32]) = .str (S sep) ∧ [V.ref lw] = [.ref p] ∧ SqL K H3 p (ws.map fun q => V.str (S q)) ∧ (ws.map List.length).sum + ws.length * sep.length ≤ 1000000 ∧ Q (.str (S (joinL sep ws))) H3 := fun H3 s3 h3 =>
        ⟨[32], TX.wordsR ps g, lw, rfl, rfl, SqL.of h3, by simp; have := wl.2; omega, q H3 s3⟩
      refine ⟨_, rfl, r, dx, _, rfl, hob2, rf_ngone _ _, r, l, ps, g, rfl, R2, rfl, _, rfl, ?_⟩
      cases g with
      | none =>
        refine iteF ?_
        refine ⟨rfl, _, rfl, fin H2 s02 ?_⟩
        rw [n2.at_]
        unfold TX.wordsR TX.goneT
        rw [List.append_nil]
      | some z =>
        refine iteT ?_
        refine ⟨_, rfl, .inl ⟨rfl, _, SqL.of n2.at_⟩, _, rfl, r, dx, _, rfl, hob2, rf_ngone _ _, r, l, ps, some z, rfl, R2, z, rfl, sm_bn (sm.2.2 z rfl), sz20 (Nat.le_of_ble_eq_true rfl), fun lg H3 n3 => ?_⟩
        refine ⟨lw, lg, _, _, rfl, rfl, n3.same _ _ n2.at_, n3.at_, sz20 (by have := sm.1; simp; omega), fun H4 b4 h4 => ?_⟩
        have flw : H lw = none := by
          cases q : H lw with
          | none => rfl
          | some o => have := n1.same _ _ q; rw [n2.fresh] at this; cases this
        refine ⟨rfl, _, rfl, fin H4 (b4.same (s02.trans n3.same) flw) ?_⟩
        rw [h4, w_gone]
        unfold TX.wordsR TX.goneT
        rw [List.map_append]
        rfl
inductive sp_ltext (vs : List V) (H : Hp) (Q : VK) (E_ : XK) : Prop
  | mk : ∀ l ps g xs, vs = [.ref l, gv g] → H l = some (.lst xs) → Pairs H xs ps → SmR ps g → (∀ H', Same H H' → Q (.str (S (TX.textR ps g))) H') → sp_ltext vs H Q E_
theorem D__law_text (T : Txt K mg C_Rule C_BookError C_NoNumber C_NoRule C_NoText) : DefOk P w K mg base 2 "_law_text" ["_law_rows", "_law_end"] sp_ltext := by
  obtain ⟨f, fd, F, hm⟩ := T.f__law_text
  have nd := sc__law_text.nd
  refine F.def_ hm (F.ok sc__law_text (fun vs H Q E h => ?_) (fun cdv A outer s H vs Q E hr h => ?_)) (F.binds fun _ _ _ _ _ _ us hl => by obtain ⟨_, _, rfl⟩ := L2.lq2 hl; rfl)
  · obtain ⟨l, ps, g, xs, rfl, _⟩ := h; rfl
  · obtain ⟨l, ps, g, xs, rfl, hl, hp, sm, q⟩ := h
    have wl := wordsR_len sm
    have jl := join_le 203 _ wl.1
    refine ⟨_, (pss_cons (ps_setLC (i := 2) (vars := ["_law_age", "_law_width"]) (frees := []) (fv := []) nd rfl (Or.inl rfl) rfl (lcOk rfl rfl (by decide +kernel) (by decide +kernel) (by intro p hp; cases hp) rfl) trivial (pi_list (pv 0)) (gk_pair (by decide) (by decide)) (fun _ _ _ _ => (pg_tup rfl (pgs_cons (pg_name (i := 0) (show (["_law_age", "_law_width"] : List Str).Nodup by decide +kernel) rfl (Or.inl rfl)) (pgs_cons (pg_name (i := 1) (show (["_law_age", "_law_width"] : List Str).Nodup by decide +kernel) rfl (Or.inl rfl)) pgs_nil)))) (fun _ _ _ _ => pif_none) (fun _ _ _ _ => (pe_op op_add_str (pe_op op_add_str (pe_callTy (call_strI rfl) rfl T.b_str bt_str (pa_cons (pv 0) pa_nil)) pe_str) (pe_callTy (call_strI rfl) rfl T.b_str bt_str (pa_cons (pv 1) pa_nil)))))
      (pss_cons (ps_if (pt_cmpR op_notN (pv 1) pe_non (nomark _))
        (pss_one (ps_set (i := 2) nd rfl (Or.inl rfl) (pe_op op_catN (pv 2) (pe_lstN (pa_cons pe_str (pa_cons (pe_callTy (call_strI rfl) rfl T.b_str bt_str (pa_cons (pv 1) pa_nil)) pa_nil))))))
        pss_nil)
      (pss_one (ps_ret (pe_bm PySem.F.plainAttrs_str PySem.F.slot_str_join PySem.F.type_str_join mt_join pe_str (pa_cons (pv 2) pa_nil)))))), ?_⟩
    rw [w_colon, w_blank]
    refine ⟨_, rfl, l, rfl, ⟨_, SqL.of hl⟩, lc_rows TX.rowT hl hp (by have := sm.1; omega) (fun p hpm Q' q' => ?_) fun lw H2 n2 => ?_⟩
    · obtain ⟨s1, s2⟩ := sm.2.1 p hpm
      have la := sm_len s1
      have lb := sm_len s2
      refine ⟨_, rfl, p.1, rfl, (sm_bn s1).all, ?_⟩
      rw [of_num]
      refine ⟨_, _, rfl, rfl, sz20 (by rw [S_len, S_len]; simp; omega), ?_⟩
      rw [S_cat]
      refine ⟨_, rfl, p.2, rfl, (sm_bn s2).all, ?_⟩
      rw [of_num]
      refine ⟨_, _, rfl, rfl, sz20 (by rw [S_len, S_len]; simp; omega), ?_⟩
      rw [S_cat]
      have e : TX.sg p.1 ++ [58] ++ TX.sg p.2 = TX.rowT p := by unfold TX.rowT; simp
      rw [e]
      exact q'
    · refine gname_ ?_
      have fin : ∀ lx H3, Same H H3 → H3 lx = some (.lst ((TX.wordsR ps g).map tS)) → ∃ sep ws p, V.str (S [32]) = .str (S sep) ∧ [V.ref lx] = [.ref p] ∧ SqL K H3 p (ws.map fun q => V.str (S q)) ∧ (ws.map List.length).sum + ws.length * sep.length ≤ 1000000 ∧ Q (.str (S (joinL sep ws))) H3 := fun lx H3 s3 h3 =>
        ⟨[32], TX.wordsR ps g, lx, rfl, rfl, SqL.of h3, by simp; have := wl.2; omega, q H3 s3⟩
      cases g with
      | none =>
        refine ⟨_, rfl, rfl, _, rfl, iteF ⟨rfl, _, rfl, fin lw H2 n2.same ?_⟩⟩
        rw [n2.at_]
        unfold TX.wordsR TX.goneT
        rw [List.append_nil]
      | some z =>
        refine ⟨_, rfl, rfl, _, rfl, iteT ?_⟩
        refine ⟨_, rfl, _, rfl, z, rfl, (sm_bn (sm.2.2 z rfl)).all, ?_⟩
        rw [of_num]
        refine ⟨sz20 (Nat.le_of_ble_eq_true rfl), fun lg H3 n3 => ?_⟩
        refine ⟨lw, lg, _, _, rfl, rfl, n3.same _ _ n2.at_, n3.at_, sz20 (by have := sm.1; simp; omega), fun lx H4 n4 => ?_⟩
        refine gname_ ⟨rfl, _, rfl, fin lx H4 (n2.same.trans (n3.same.trans n4.same)) ?_⟩
        rw [n4.at_, w_gone]
        unfold TX.wordsR TX.goneT
        rw [List.map_append]
        rfl
end
section
variable {P : Program} {w : World} {K : PySem.W.Frag} {mg : Str → Option Value} {base : Heap} {C_Rule C_BookError C_NoNumber C_NoRule C_NoText : Addr}
theorem atI_m2 {α : Type} {xs : List α} {v : α} (h2 : 2 ≤ xs.length) (h : xs[xs.length - 2]? = some v) : atI xs (-2) = some v := by
  unfold atI ixN
  rw [if_neg (by omega), if_pos (by omega), show ((-2 : Int) + xs.length).toNat = xs.length - 2 by omega]
  exact h
theorem cut_m2 (xs : List V) (h2 : 2 ≤ xs.length) : cutV xs none (some (-2)) = xs.take (xs.length - 2) := by
  unfold cutV
  have e : HT.sIx xs.length xs.length (some (-2)) = xs.length - 2 := by
    show (if (-2 : Int) < 0 then ((-2 : Int) + (xs.length : Int)).toNat else min (-2 : Int).toNat xs.length) = _
    rw [if_pos (by decide)]; omega
  rw [e]
  rfl
theorem split_lens (c : Nat) : ∀ x : List Nat, (∀ p ∈ splitL c x, p.length ≤ x.length) ∧ (splitL c x).length ≤ x.length + 1
  | [] => by simp [splitL]
  | a :: l => by
    obtain ⟨h1, h2⟩ := split_lens c l
    unfold splitL
    split
    · refine ⟨fun p hp => ?_, by simp; omega⟩
      rcases List.mem_cons.mp hp with rfl | hp
      · simp
      · have := h1 p hp; simp; omega
    · split
      · simp
      · rename_i p ps e
        rw [e] at h1 h2
        refine ⟨fun q hq => ?_, by simp at h2 ⊢; omega⟩
        rcases List.mem_cons.mp hq with rfl | hq
        · have := h1 p (.head _); simp; omega
        · have := h1 q (.tail _ hq); simp; omega
def TextOk (x : List Nat) : Prop := TX.WordsOk (splitL 32 x) ∧ RuleOk ((TX.stepsW (splitL 32 x)).map TX.stepV) ((TX.lastW (splitL 32 x)).map TX.valT)
theorem nums_step (w : List Nat) : Nums (splitL 58 w) 2 ↔ TX.StepW w := by
  constructor
  · rintro ⟨h, g⟩
    rcases e : splitL 58 w with _ | ⟨a, _ | ⟨b, _ | ⟨c, l⟩⟩⟩
    · rw [e] at h; simp at h
    · rw [e] at h; simp at h
    · exact ⟨a, b, e, g a (by rw [e]; simp), g b (by rw [e]; simp)⟩
    · rw [e] at h; simp at h; omega
  · rintro ⟨a, b, e, ga, gb⟩
    rw [e]
    exact ⟨rfl, fun w hw => by simp at hw; rcases hw with rfl | rfl <;> assumption⟩
def TextW (H : Hp) (v : V) : Prop := (∃ x, v = .str (S x) ∧ x.length ≤ 3000 ∧ (splitL 32 x).length ≤ 900) ∨ OddV H v
def sp_rrule (C N : Addr) : Sp := fun vs H Q E => ∃ v, vs = [v] ∧ TextW H v ∧
  (∀ x, v = .str (S x) → TextOk x → ∀ r l H', RuleAt C H' r l ((TX.stepsW (splitL 32 x)).map TX.stepV) ((TX.lastW (splitL 32 x)).map TX.valT) → Same H H' → Q (.ref r) H') ∧
  ((OddV H v ∨ ∃ x, v = .str (S x) ∧ ¬ TextOk x) → ∀ dx H1 H', Same H H1 → New H1 H' dx (.xd [("line", .int 0)]) → E (.ref N) (some dx) H')
theorem D_read_rule (T : Txt K mg C_Rule C_BookError C_NoNumber C_NoRule C_NoText) : DefX P w K mg base 8 "read_rule" ["text"] [] (sp_rrule C_Rule C_NoText) := by
  obtain ⟨f, fd, F, hm⟩ := T.f_read_rule
  have nd := sc_read_rule.nd
  refine ⟨f, fd, (F.okX sc_read_rule (fun vs H Q E h => ?_) (fun cdv A outer s H vs Q E hr h => ?_)), hm, F.kp, (F.binds fun _ _ _ _ _ _ us hl => by obtain ⟨_, rfl⟩ := L2.lq1 hl; rfl)⟩
  · obtain ⟨v, rfl, _⟩ := h; rfl
  · obtain ⟨v, rfl, hv, q1, q2⟩ := h
    obtain ⟨J, eJ⟩ : ∃ J : St → Hp → Prop, J = fun σ H2 => ∃ (x : List Nat) (lw : Addr), v = .str (S x) ∧ Same H H2 ∧ H2 lw = some (.lst ((TX.stepsW (splitL 32 x)).map tS)) ∧ (∀ u, TX.lastW (splitL 32 x) = some u → TX.Good u) ∧ σ = [some (.str (S x)), some (.ref lw), some (gv ((TX.lastW (splitL 32 x)).map TX.valT)), none] := ⟨_, rfl⟩
    refine ⟨_, (pss_cons (ps_expr (pe_fnX (wants_wish ⟨rfl, rfl, rfl⟩) (D_check_good T) (hr.mono (by decide)) rfl .nil (pa_cons (pe_callB call_isi rfl T.b_isinstance bt_isinstance (pa_cons (pv 0) (pa_cons (pe_bltn (v := .ty "str") rfl T.b_str bt_str rfl) pa_nil))) pa_nil)))
      (pss_cons (ps_set (i := 1) nd rfl (Or.inl rfl) (pe_bmK (K := K) rfl PySem.F.plainAttrs_str PySem.F.slot_str_split PySem.F.type_str_split mt_split (pv 0) (pa_cons pe_str pa_nil)))
      (pss_cons (ps_set (i := 2) nd rfl (Or.inl rfl) pe_non)
      (pss_cut J (ps_if (PW.pt (pw_and (pt_cmpR op_ge (pe_callB call_len_seq rfl T.b_len bt_len (pa_cons (pv 1) pa_nil)) pe_int (nomark _)) (pw_and1 (pt_cmpR op_eq (pe_ix ix_list (pv 1) (pe_un un_neg pe_int) (fun _ _ => rfl)) pe_str (nomark _)))))
        (pss_cons (ps_set (i := 2) nd rfl (Or.inl rfl) (pe_fnX (wants_wish ⟨rfl, rfl, rfl⟩) (D_read_number T) (hr.mono (by decide)) rfl .nil (pa_cons (pe_ix ix_list (pv 1) (pe_un un_neg pe_int) (fun _ _ => rfl)) pa_nil)))
      (pss_one (ps_set (i := 1) nd rfl (Or.inl rfl) (pe_slice sl_listN (pv 1) po_none (po_some (pe_un un_neg pe_int))))))
        pss_nil)
      (pss_cons (ps_setLCX (i := 3) (vars := ["word"]) (frees := []) (fv := []) (wants_wish ⟨rfl, rfl, rfl⟩) nd rfl (Or.inl rfl) rfl (lcOk rfl rfl (by decide +kernel) (by decide +kernel) (by intro p hp; cases hp) rfl) trivial (pi_list (pv 1)) (gk_name (by decide)) (fun _ _ _ _ => (pg_name (i := 0) (show (["word"] : List Str).Nodup by decide +kernel) rfl (Or.inl rfl))) (fun _ _ _ _ => pif_none) (fun _ _ _ _ _ _ ho => (pe_callTy (call_tupO (K := K) rfl) rfl T.b_tuple bt_tuple (pa_cons (pe_fnB ⟨rfl, rfl, rfl⟩ ho (D_read_numbers T) (hr.mono (by decide)) rfl .nil (pa_cons (pe_bmK (K := K) rfl PySem.F.plainAttrs_str PySem.F.slot_str_split PySem.F.type_str_split mt_split (pv 0) (pa_cons pe_str pa_nil)) (pa_cons pe_int pa_nil))) pa_nil))))
      (pss_one (ps_try0F (k := 1) (wants_wish ⟨rfl, rfl, rfl⟩) rfl T.mg_NoRule T.kx_NoRule.kt (D_NoText_initU T) (fun _ => (hr.mono (by decide)).markU _) rfl (fun _ _ => (pss_one (ps_ret (pe_mkX (wants_wish ⟨rfl, rfl, rfl⟩) (D_Rule_2 T) (hr.mono (by decide)) rfl .nil (pa_cons (pv 3) (pa_cons (pv 2) pa_nil))))))
        (fun _ _ => (pa_cons pe_int pa_nil))))))))), ?_⟩
    rw [w_blank, w_colon]
    rcases hv with ⟨x, rfl, hx, h9⟩ | hv
    · have q1 := q1 x rfl
      have q2 : ¬ TextOk x → ∀ dx H1 H', Same H H1 → New H1 H' dx (.xd [("line", .int 0)]) → E (.ref C_NoText) (some dx) H' := fun z => q2 (.inr ⟨x, rfl, z⟩)
      have wl := split_lens 32 x
      refine ⟨_, rfl, _, _, _, _, rfl, .str _, kit_str K, true, rfl, fun _ => ?_, fun z => Bool.noConfusion z⟩
      refine ⟨_, rfl, rfl, x, 32, rfl, rfl, by decide, by omega, fun lw H1 n1 => ?_⟩
      refine gname_ (gname_ (And.intro ?_ ?_))
      · have e1 : ((splitL 32 x).map tS).length = (splitL 32 x).length := List.length_map ..
        refine ⟨_, rfl, lw, _, rfl, .inl (SqL.of n1.at_), _, _, rfl, rfl, _, rfl, ?_⟩
        have no : ¬ TX.IsG (splitL 32 x) → J [some (.str (S x)), some (.ref lw), some .non, none] H1 := fun ng => by
          rw [eJ]
          refine ⟨x, lw, rfl, n1.same, ?_, ?_, ?_⟩
          · unfold TX.stepsW; rw [if_neg ng]; exact n1.at_
          · intro u hu; unfold TX.lastW at hu; rw [if_neg ng] at hu; cases hu
          · unfold TX.lastW; rw [if_neg ng]; rfl
        refine ite2 (fun z => ?_) fun z => ?_
        · have h2 : 2 ≤ (splitL 32 x).length := by have := of_decide_eq_true z; rw [e1] at this; omega
          obtain ⟨w2, hw2⟩ : ∃ w2, (splitL 32 x)[(splitL 32 x).length - 2]? = some w2 := ⟨_, List.getElem?_eq_getElem (by omega)⟩
          obtain ⟨w1, hw1⟩ : ∃ w1, (splitL 32 x)[(splitL 32 x).length - 1]? = some w1 := ⟨_, List.getElem?_eq_getElem (by omega)⟩
          have a2 : atI ((splitL 32 x).map tS) (-2) = some (tS w2) := atI_m2 (by rw [e1]; exact h2) (by rw [e1, List.getElem?_map, hw2]; rfl)
          have a1 : atI ((splitL 32 x).map tS) (-1) = some (tS w1) := atI_m1 (by rw [e1, List.getElem?_map, hw1]; rfl)
          have l1 : w1.length ≤ 3000 := Nat.le_trans (wl.1 w1 (List.mem_of_getElem? hw1)) hx
          refine ⟨_, rfl, _, rfl, lw, _, -2, _, rfl, rfl, SqL.of n1.at_, a2, rfl, _, rfl, ?_⟩
          rw [w_gone, S_dec]
          refine ite2 (fun zg => ?_) fun zg => ?_
          · have hG : TX.IsG (splitL 32 x) := ⟨h2, by rw [hw2, of_decide_eq_true zg]⟩
            have hL : TX.lastW (splitL 32 x) = some w1 := by unfold TX.lastW; rw [if_pos hG, hw1]
            refine ⟨_, rfl, _, rfl, lw, _, -1, _, rfl, rfl, SqL.of n1.at_, a1, tS w1, _, rfl, .inl ⟨w1, rfl, l1, rfl⟩, fun n en H2 s2 => ?_, fun en dx H2 H3 s2 n3 => q2 (fun ok => ?_) dx H2 H3 (n1.same.trans s2) n3⟩
            · have G : TX.Good w1 := Classical.byContradiction fun z => by rw [if_neg z] at en; cases en
              rw [if_pos G] at en
              cases en
              refine gname_ ⟨_, rfl, _, rfl, _, rfl, lw, _, rfl, SqL.of (s2 _ _ n1.at_), fun lw2 H3 n3 => ?_⟩
              show J _ _
              rw [eJ]
              refine ⟨x, lw2, rfl, (n1.same.trans s2).trans n3.same, ?_, fun u hu => ?_, ?_⟩
              · rw [n3.at_]
                unfold TX.stepsW
                rw [if_pos hG, show (- (2 : Int)) = -2 from rfl, cut_m2 _ (by rw [e1]; exact h2), e1, List.map_take]
              · rw [hL] at hu; cases hu; exact G
              · rw [hL]; rfl
            · have G := ok.1.1 w1 hL
              rw [if_pos G] at en
              cases en
          · exact no fun hG => zg (decide_eq_true (by have := hG.2; rw [hw2] at this; exact Option.some.inj this))
        · exact iteF (no fun hG => z (decide_eq_true (by rw [e1]; have := hG.1; omega)))
      · intro σ H2 j
        rw [eJ] at j
        obtain ⟨x', lw2, ex, s2, hl2, hg, rfl⟩ := j
        obtain rfl : x = x' := S_inj (V.str.inj ex)
        have sub : ∀ w ∈ TX.stepsW (splitL 32 x), w ∈ splitL 32 x := fun w hw => by
          unfold TX.stepsW at hw
          split at hw
          · exact List.mem_of_mem_take hw
          · exact hw
        have sl : (TX.stepsW (splitL 32 x)).length ≤ 900 := by
          unfold TX.stepsW
          split
          · rw [List.length_take]; omega
          · omega
        unfold TextOk TX.WordsOk at q1 q2
        generalize TX.stepsW (splitL 32 x) = ss at hl2 q1 q2 sub sl
        generalize TX.lastW (splitL 32 x) = lg at hg q1 q2
        refine ⟨_, rfl, lw2, rfl, ⟨_, SqL.of hl2⟩, lc_listN (xs := ss.map tS) (fun i ys H3 => Same H2 H3 ∧ (∀ w ∈ ss.take i, TX.StepW w) ∧ Pairs H3 ys ((ss.take i).map TX.stepV)) (sz20 (by rw [List.length_map]; omega)) ⟨Same.refl _, by simp, .nil⟩ (fun i ys H3 h3 => ⟨Same.seq h3.1 (SqL.of hl2), by have := h3.2.2.length; simp at this; omega⟩) ?_ ?_⟩
        · rintro i xv ys H3 hi ⟨s3, gd, pr⟩
          obtain ⟨w, hwi, rfl⟩ : ∃ w, ss[i]? = some w ∧ xv = tS w := by
            rw [List.getElem?_map] at hi
            obtain ⟨w, a, b⟩ := Option.map_eq_some_iff.mp hi
            exact ⟨w, a, b.symm⟩
          have hwm := List.mem_of_getElem? hwi
          have lw' : w.length ≤ 3000 := Nat.le_trans (wl.1 w (sub w hwm)) hx
          have pl := split_lens 58 w
          have et : ss.take (i + 1) = ss.take i ++ [w] := by rw [List.take_add_one, hwi]; rfl
          refine gname_ (yes_ (iteT ?_))
          refine ⟨_, rfl, rfl, w, 58, rfl, rfl, by decide, by omega, fun lp H4 n4 => ?_⟩
          refine ⟨lp, splitL 58 w, 2, rfl, n4.at_, by omega, fun p hp => Nat.le_trans (pl.1 p hp) lw', fun hN p H5 s5 h5 => ?_, fun hN dx H5 H6 s5 n6 => q2 (fun ok => hN ((nums_step w).mpr (ok.1.2 w hwm))) dx H5 H6 (s2.trans (s3.trans (n4.same.trans s5))) n6⟩
          obtain ⟨a, b, eab, ga, gb⟩ := (nums_step w).mp hN
          refine ⟨p, _, rfl, .inl ⟨SqL.of h5, fun lt hlt => ?_⟩⟩
          have s35 := n4.same.trans s5
          have su : Same H5 (upd H5 lt (.tup ((splitL 58 w).map fun w => V.int (TX.valT w)))) := same_upd hlt
          refine ⟨s3.trans (s35.trans su), fun u hu => ?_, ?_⟩
          · rw [et] at hu
            rcases List.mem_append.mp hu with z | z
            · exact gd u z
            · rw [List.mem_singleton.mp z]; exact ⟨a, b, eab, ga, gb⟩
          · rw [et, List.map_append]
            refine Pairs.snoc ⟨lt, rfl, ?_⟩ ((pr.same s35).same su)
            rw [upd_same]
            unfold TX.stepV
            rw [eab]; rfl
        · rintro ys H3 lp H4 ⟨s3, gd, pr⟩ n4
          rw [List.length_map, List.take_length] at gd pr
          have s04 : Same H H4 := s2.trans (s3.trans n4.same)
          refine gname_ ?_
          refine ⟨_, rfl, _, rfl, fun r dx H5 s5 f5 h5 => ?_⟩
          have fr : H r = none := by
            cases q : H r with
            | none => rfl
            | some o => have := s04 _ _ q; rw [f5] at this; cases this
          refine ⟨r, dx, lp, ys, ss.map TX.stepV, lg.map TX.valT, rfl, h5, s5 _ _ n4.at_, (pr.same n4.same).same s5, by rw [List.length_map]; omega, fun ok l' H6 f6 R6 b6 => ⟨rfl, ?_⟩, fun no H6 s6 => ⟨⟨C_NoRule, rfl, T.kx_NoRule.kt, T.hit_NoRule_NoRule⟩, rfl, ?_⟩⟩
          · exact q1 ⟨⟨hg, gd⟩, ok⟩ r l' H6 R6 (b6.same (s04.trans s5) fr)
          · exact ⟨.int 0, rfl, fun dx2 H7 n7 => q2 (fun ok => no ok.2) dx2 H6 H7 (s04.trans (s5.trans s6)) n7⟩
    · obtain ⟨t, ty, kt⟩ := OddV.ty (K := K) hv
      exact ⟨_, rfl, _, _, _, _, rfl, ty, kt, false, rfl, fun z => Bool.noConfusion z, fun _ dx H1 n1 => q2 (.inl hv) dx H H1 (Same.refl _) n1⟩
end
section
variable {P : Program} {w : World} {K : PySem.W.Frag} {mg : Str → Option Value} {base : Heap} {C_Rule C_BookError C_NoNumber C_NoRule C_NoText : Addr}
def rIsi (K : PySem.W.Frag) (xs : List V) (H : Hp) (Q : VK) : Prop := ∃ x T t b, xs = [x, V.ty T] ∧ TyOf K H x t ∧ PySem.W.kitOne K t (Value.type T) = some b ∧ Q (V.bl b) H
def sp_lref82 : Sp := fun vs H Q _ => ∃ v, vs = [v] ∧ TextW H v ∧ (OddV H v ∨ ∃ x, v = .str (S x) ∧ ¬ TextOk x) ∧ ∀ H', Same H H' → Q (.bl true) H'
theorem D__law_refused (T : Txt K mg C_Rule C_BookError C_NoNumber C_NoRule C_NoText) : DefOk P w K mg base 9 "_law_refused" ["_law_text_here"] sp_lref82 := by
  obtain ⟨f, fd, F, hm⟩ := T.f__law_refused
  have nd := sc__law_refused.nd
  refine F.def_ hm (F.ok sc__law_refused (fun vs H Q E h => ?_) (fun cdv A outer s H vs Q E hr h => ?_)) (F.binds fun _ _ _ _ _ _ us hl => by obtain ⟨_, rfl⟩ := L2.lq1 hl; rfl)
  · obtain ⟨v, rfl, _⟩ := h; rfl
  · obtain ⟨v, rfl, hv, bad, q⟩ := h
    obtain ⟨fB, fdB, FB, hE⟩ := T.f_NoText_init
    refine ⟨_, (pss_cons (ps_set (i := 1) nd rfl (Or.inl rfl) pe_str)
      (pss_cons (ps_try (j := 2) ⟨rfl, rfl, rfl⟩ nd rfl rfl rfl rfl T.mg_BookError T.kx_BookError.kt (fun _ _ => (pss_one (ps_expr (pe_fnX (wants_wish ⟨rfl, rfl, rfl⟩) (D_read_rule T) (hr.mono (by decide)) rfl .nil (pa_cons (pv 0) pa_nil)))))
        (fun _ _ => (pss_cons (ps_set (i := 1) nd rfl (Or.inl rfl) pe_str)
      (pss_one (ps_if (PW.pt (pw_and (pt_val (pe_callB (call_isiX (K := K) rfl) rfl T.b_isinstance bt_isinstance (pa_cons (pv 2) (pa_cons (pe_glob (v := .ref C_NoText) rfl T.mg_NoText rfl) pa_nil)))) (pw_and (pt_not (pt_val (pe_callB (call_isiX (K := K) rfl) rfl T.b_isinstance bt_isinstance (pa_cons (pv 2) (pa_cons (pe_glob (v := .ref C_NoRule) rfl T.mg_NoRule rfl) pa_nil))))) (pw_and1 (pt_not (pt_val (pe_callB (call_isiX (K := K) rfl) rfl T.b_isinstance bt_isinstance (pa_cons (pv 2) (pa_cons (pe_glob (v := .ref C_NoNumber) rfl T.mg_NoNumber rfl) pa_nil)))))))))
        (pss_one (ps_set (i := 1) nd rfl (Or.inl rfl) (pe_ix (show IxR _ (rIxL K) from ix_list) (pe_lstN (pa_cons pe_str (pa_cons pe_str pa_nil))) (pe_callTy call_int1 rfl T.b_int bt_int (pa_cons (pe_or (pe_callB (show CallR _ _ (rIsi K) from call_isi) rfl T.b_isinstance bt_isinstance (pa_cons (pe_fldX (K := K) rfl (pv 2) rfl) (pa_cons (pe_bltn (v := .ty "bool") rfl T.b_bool bt_bool rfl) pa_nil))) (pe_one (pe_cmpR op_ne (pe_fldX (K := K) rfl (pv 2) rfl) pe_int (nomark _)))) pa_nil)) (fun _ _ => rfl))))
        pss_nil)))))
      (pss_one (ps_ret (pe_cmpR op_eq (pv 1) pe_str (nomark _)))))), ?_⟩
    walk_at "r"
    refine ⟨fun x ex ok => ?_, fun _ dx H1 H2 s1 n2 => ?_⟩
    · exfalso
      subst ex
      rcases bad with b | ⟨y, ey, ny⟩
      · rcases b with e | ⟨_, e⟩ | ⟨_, e⟩ | ⟨_, _, e, _⟩ | ⟨_, _, e, _⟩ <;> cases e
      · have e2 : x = y := S_inj (V.str.inj ey)
        subst e2
        exact ny ok
    · refine ⟨⟨C_NoText, rfl, T.kx_NoText.kt, T.hit_NoText_BookError⟩, fun ex H3 n3 => ?_⟩
      have hdx : H3 dx = some (.xd [("line", .int 0)]) := n3.same _ _ n2.at_
      have kk : ∀ dx', some dx = some dx' → ∃ fs, H3 dx' = some (.xd fs) := fun dx' z => by cases z; exact ⟨_, hdx⟩
      refine gname_ ?_
      refine ⟨_, rfl, ex, C_NoText, some dx, .ref C_NoText, true, rfl, n3.at_, T.kx_NoText, kk, T.is_NoText_NoText, _, rfl, iteT ?_⟩
      refine ⟨_, rfl, ex, C_NoText, some dx, .ref C_NoRule, false, rfl, n3.at_, T.kx_NoText, kk, T.is_NoText_NoRule, _, rfl, iteT ?_⟩
      refine ⟨_, rfl, ex, C_NoText, some dx, .ref C_NoNumber, false, rfl, n3.at_, T.kx_NoText, kk, T.is_NoText_NoNumber, _, rfl, iteT ?_⟩
      refine ⟨sz20 (Nat.le_of_ble_eq_true rfl), fun l4 H4 n4 => ?_⟩
      have hdx4 := n4.same _ _ hdx
      have hex4 := n4.same _ _ n3.at_
      refine ⟨_, rfl, ex, C_NoText, dx, _, _, rfl, hex4, hdx4, T.kx_NoText, hE.hd, hE.na, lk1 _ _, ?_⟩
      refine ⟨_, _, _, _, rfl, .int 0, kit_int_bool K, ?_⟩
      refine ⟨false, rfl, iteF ?_⟩
      refine ⟨_, rfl, ex, C_NoText, dx, _, _, rfl, hex4, hdx4, T.kx_NoText, hE.hd, hE.na, lk1 _ _, ?_⟩
      refine ⟨rfl, .inr ⟨_, rfl, ?_⟩⟩
      rw [show (!decide (V.int 0 = V.int 0)) = false by simp]
      refine ⟨l4, _, _, .str "none", rfl, rfl, SqL.of n4.at_, rfl, ?_⟩
      walk_at "r"
      rw [show decide (V.str (Str.ofString "none") = V.str (Str.ofString "none")) = true by simp]
      exact q H4 (s1.trans (n2.same.trans (n3.same.trans n4.same)))
end
section
variable {P : Program} {w : World} {K : PySem.W.Frag} {mg : Str → Option Value} {base : Heap} {C_Rule C_BookError C_NoNumber C_NoRule C_NoText : Addr}
def BadS (v : V) : Prop := ∃ x, v = .str (S x) ∧ x.length ≤ 3000 ∧ (splitL 32 x).length ≤ 900 ∧ ¬ TextOk x
def BadV (H : Hp) (v : V) : Prop := BadS v ∨ OddV H v
theorem BadV.both {H : Hp} {v : V} (h : BadV H v) : TextW H v ∧ (OddV H v ∨ ∃ x, v = .str (S x) ∧ ¬ TextOk x) := by
  rcases h with ⟨x, e, h1, h2, h3⟩ | h
  · exact ⟨.inl ⟨x, e, h1, h2⟩, .inr ⟨x, e, h3⟩⟩
  · exact ⟨.inr h, .inl h⟩
theorem bad_S {x : List Nat} {n : Nat} (h : ¬ TX.WordsOk (splitL 32 x) ∧ (splitL 32 x).length = n) (hn : n ≤ 900) (hl : x.length ≤ 3000) : BadS (.str (S x)) := ⟨x, rfl, hl, by rw [h.2]; exact hn, fun ok => h.1 ok.1⟩
theorem fa_nil {P : V → Prop} : ∀ v ∈ ([] : List V), P v := fun _ h => by cases h
theorem fa_cons {P : V → Prop} {a : V} {l : List V} (h : P a) (k : ∀ v ∈ l, P v) : ∀ v ∈ a :: l, P v := fun v hv => by
  rcases List.mem_cons.mp hv with rfl | z
  · exact h
  · exact k v z
theorem fa_app {P : V → Prop} {l m : List V} (h : ∀ v ∈ l, P v) (k : ∀ v ∈ m, P v) : ∀ v ∈ l ++ m, P v := fun v hv => (List.mem_append.mp hv).elim (h v) (k v)
theorem w_empty : (Str.ofString "") = S [] := by decide +kernel
theorem w_dcolon : (Str.ofString "::") = S [58, 58] := by decide +kernel
theorem w_colonb : (Str.ofString ": ") = S [58, 32] := by decide +kernel
theorem w_0 : (Str.ofString "0") = S [48] := by decide +kernel
theorem w_plus : (Str.ofString "+") = S [43] := by decide +kernel
theorem w_g1 : (Str.ofString " gone") = S (32 :: TX.goneW) := by decide +kernel
theorem w_g2 : (Str.ofString " gone ") = S (32 :: (TX.goneW ++ [32])) := by decide +kernel
theorem w_g3 : (Str.ofString " gone 0x9") = S (32 :: (TX.goneW ++ [32, 48, 120, 57])) := by decide +kernel
theorem w_g4 : (Str.ofString " gone 0") = S (32 :: (TX.goneW ++ [32, 48])) := by decide +kernel
theorem w_g5 : (Str.ofString " Gone 99") = S (32 :: [71, 111, 110, 101, 32, 57, 57]) := by decide +kernel
theorem w_g6 : (Str.ofString " gone none") = S (32 :: (TX.goneW ++ [32, 110, 111, 110, 101])) := by decide +kernel
theorem w_g7 : (Str.ofString "  gone 99") = S (32 :: ([32] ++ TX.goneW ++ [32, 57, 57])) := by decide +kernel
theorem w_g8 : (Str.ofString "gone 5") = S (TX.goneW ++ [32, 53]) := by decide +kernel
theorem w_semi : (Str.ofString ";") = S [59] := by decide +kernel
theorem w_nl : (Str.ofString "\n") = S [10] := by decide +kernel
theorem w_none : (Str.ofString "none") = S [110, 111, 110, 101] := by decide +kernel
theorem w_g9 : (Str.ofString " gone 9 9") = S (32 :: (TX.goneW ++ [32, 57, 32, 57])) := by decide +kernel
theorem w_dash : (Str.ofString "-") = S [45] := by decide +kernel
theorem bad_gone5 : ¬ TextOk (TX.goneW ++ [32, 53]) := fun ok => by
  have e : splitL 32 (TX.goneW ++ [32, 53]) = [TX.goneW, [53]] := by decide
  have hG : TX.IsG [TX.goneW, [53]] := by decide
  have h := ok.2.1.lo
  rw [e] at h
  unfold TX.stepsW at h
  rw [if_pos hG] at h
  revert h; decide
theorem bad_gone1 : ¬ TextOk TX.goneW := fun ok => by
  have e : splitL 32 TX.goneW = [TX.goneW] := by decide
  have h := ok.1.2 TX.goneW (by rw [e]; decide)
  exact TX.no_step (by decide) h
theorem at_mem {xs : List V} {i : Int} (h0 : 0 ≤ i) (h1 : i < xs.length) : ∃ v, atI xs i = some v ∧ v ∈ xs := by
  refine ⟨xs[i.toNat]'(by omega), ?_, List.getElem_mem _⟩
  unfold atI ixN
  rw [if_pos h0, if_pos h1]
  exact List.getElem?_eq_getElem _
theorem pick {K : PySem.W.Frag} {H : Hp} {l : Addr} {L : List V} {i : Int} {P : V → Prop} (h : H l = some (.lst L)) (all : ∀ v ∈ L, P v) (h0 : 0 ≤ i) (h1 : i < L.length) : ∃ v, SqL K H l L ∧ atI L i = some v ∧ P v :=
  let ⟨v, a, b⟩ := at_mem h0 h1; ⟨v, SqL.of h, a, all v b⟩
inductive sp_lsp (vs : List V) (H : Hp) (Q : VK) (E_ : XK) : Prop
  | mk : ∀ l ps g xs c, vs = [.str (S (TX.textR ps g)), .ref l, .int c] → H l = some (.lst xs) → Pairs H xs ps → SmR ps g → ps ≠ [] → (∀ v H', Same H H' → BadV H' v → Q v H') → sp_lsp vs H Q E_
theorem D__law_spoilt (T : Txt K mg C_Rule C_BookError C_NoNumber C_NoRule C_NoText) : DefOk P w K mg base 3 "_law_spoilt" ["_law_text_here", "_law_rows", "_law_cell"] sp_lsp := by
  obtain ⟨f, fd, F, hm⟩ := T.f__law_spoilt
  have nd := sc__law_spoilt.nd
  refine F.def_ hm (F.ok sc__law_spoilt (fun vs H Q E h => ?_) (fun cdv A outer s H vs Q E hr h => ?_)) (F.binds fun _ _ _ _ _ _ us hl => by obtain ⟨_, _, _, rfl⟩ := L2.lq3 hl; rfl)
  · obtain ⟨l, ps, g, xs, c, rfl, _⟩ := h; rfl
  · obtain ⟨lr, ps, g, xs, c, rfl, hl, hp, sm, ne, q⟩ := h
    have sm0 : SmR ps none := ⟨sm.1, sm.2.1, fun z e => by cases e⟩
    have tl := textR_len sm
    have pl := textR_len sm0
    have wl := (wordsR_len sm).2
    have wl0 := (wordsR_len sm0).2
    obtain ⟨p, l, rfl⟩ : ∃ p l, ps = p :: l := by
      cases ps with
      | nil => exact absurd rfl ne
      | cons p l => exact ⟨p, l, rfl⟩
    obtain ⟨R, eR, hR⟩ := TX.first_row p l g
    have eT : TX.textR (p :: l) g = TX.sg p.1 ++ 58 :: (TX.sg p.2 ++ R) := by rw [eR]; unfold TX.rowT; simp
    have lT := congrArg List.length eT
    simp only [List.length_append, List.length_cons] at lT
    refine ⟨_, (pss_cons (ps_set (i := 3) nd rfl (Or.inl rfl) (pe_fn (D__law_text T) (hr.mono (by decide)) rfl (pa_cons (pv 1) (pa_cons pe_non pa_nil))))
      (pss_u (psu_set (i := 4) nd rfl (Or.inl rfl) (peu_lst (pau_cons (peu_cat op_add_str (pv 0)) (pap_cons (PE.p (pe_op op_add_str pe_str (pv 0))) (pap_cons (pep_rep (pv 0)) (pap_cons (pep_rep (pv 0)) (PA.p pa_nil)))))))
      (pssp_cons (psp_expr (pep_bm PySem.F.plainAttrs_list PySem.F.slot_list_append PySem.F.type_list_append mt_appendN (pv 4) (pap_cons (pep_rep (pv 0)) (PA.p pa_nil))))
      (pssp_cons (psp_set (i := 4) nd rfl (Or.inl rfl) (pep_op op_catN (PE.p (pv 4)) (pep_lst (pap_cons (pep_rep (pv 0)) (PA.p (pa_cons (pe_op op_add_str pe_str (pv 0)) (pa_cons (pe_op op_add_str pe_str (pv 0)) (pa_cons (pe_op op_add_str (pv 3) pe_str) (pa_cons (pe_op op_add_str (pv 3) pe_str) pa_nil)))))))))
      (PSs.p (pss_cons (ps_expr (pe_bm PySem.F.plainAttrs_list PySem.F.slot_list_append PySem.F.type_list_append mt_appendN (pv 4) (pa_cons (pe_op op_add_str (pv 3) pe_str) pa_nil)))
      (pss_cons (ps_set (i := 4) nd rfl (Or.inl rfl) (pe_op op_catN (pv 4) (pe_lstN (pa_cons (pe_op op_add_str (pe_op op_add_str (pv 3) pe_str) (pe_callTy (call_strI rfl) rfl T.b_str bt_str (pa_cons (pe_ix ix_tup (pe_ix ix_list (pv 1) (pe_un un_neg pe_int) (fun _ _ => rfl)) pe_int (fun _ _ => rfl)) pa_nil))) (pa_cons (pe_op op_add_str (pv 3) pe_str) (pa_cons (pe_op op_add_str (pv 3) pe_str) (pa_cons (pe_op op_add_str (pv 3) pe_str) pa_nil)))))))
      (pss_cons (ps_set (i := 4) nd rfl (Or.inl rfl) (pe_op op_catN (pv 4) (pe_lstN (pa_cons pe_str (pa_cons pe_str (pa_cons pe_str (pa_cons (pe_op op_add_str (pv 0) pe_str) (pa_cons (pe_op op_add_str (pv 0) pe_str) (pa_cons pe_non (pa_cons pe_int (pa_cons (pe_callTy call_listN rfl T.b_list bt_list (pa_cons (pv 1) pa_nil)) (pa_cons pe_str (pa_cons (pe_op op_add_str (pv 3) pe_str) pa_nil)))))))))))))
      (pss_one (ps_ret (pe_ix ix_list (pv 4) (pe_op op_mod (pv 2) pe_int) (fun _ _ => rfl)))))))))))), ?_⟩
    rw [w_blank, w_empty, w_dcolon, w_colonb, w_dash, w_0, w_plus, w_g1, w_g2, w_g3, w_g4, w_g5, w_g6, w_g7, w_g8, w_gone, w_semi, w_nl, w_none, w_g9]
    have gl : TX.goneW.length = 4 := rfl
    have tl' : (TX.textR (p :: l) g).length ≤ 2448 := tl
    obtain ⟨t0, q0, hx0, hq0, ht0⟩ : ∃ t0 q0, xs[xs.length - 1]? = some (.ref t0) ∧ q0 ∈ p :: l ∧ H t0 = some (.tup [.int q0.1, .int q0.2]) := by
      have hlen := hp.length
      obtain ⟨v, hv⟩ : ∃ v, xs[xs.length - 1]? = some v := ⟨xs[xs.length - 1]'(by rw [hlen]; simp), List.getElem?_eq_getElem _⟩
      obtain ⟨q, hq, a, rfl, ha⟩ := hp.get hv
      exact ⟨a, q, hv, List.mem_of_getElem? hq, ha⟩
    have sq0 := (sm.2.1 q0 hq0).1
    have lq0 := sm_len sq0
    refine ⟨_, rfl, lr, p :: l, none, xs, rfl, hl, hp, sm0, fun H1 s1 => gname_ ?_⟩
    refine ⟨_, rfl, _, _, rfl, rfl, sz20 (by rw [S_len, S_len]; simp; omega), _, rfl, _, _, rfl, rfl, sz20 (by rw [S_len, S_len]; simp; omega), _, rfl, TX.sg p.1, TX.sg p.2 ++ R, [], by rw [eT], TX.no58 _, rfl, by decide +kernel, by simp; omega, _, rfl, TX.sg p.1, TX.sg p.2 ++ R, [58, 58], by rw [eT], TX.no58 _, rfl, by decide +kernel, by simp; omega, sz20 (Nat.le_of_ble_eq_true rfl), fun l2 H2 n2 => gname_ ?_⟩
    refine ⟨_, rfl, .inl ⟨rfl, _, SqL.of n2.at_⟩, _, rfl, TX.sg p.1, TX.sg p.2 ++ R, [58, 32], by rw [eT], TX.no58 _, rfl, by decide +kernel, by simp; omega, l2, _, _, rfl, rfl, n2.at_, by rw [sizeLine_eq]; simp, fun H3 b3 h3 => ?_⟩
    refine ⟨_, rfl, _, rfl, TX.sg p.1, TX.sg p.2 ++ R, [45], by rw [eT], TX.no58 _, rfl, by decide +kernel, by simp; omega, _, rfl, _, _, rfl, rfl, sz20 (by rw [S_len, S_len]; simp; omega), _, rfl, _, _, rfl, rfl, sz20 (by rw [S_len, S_len]; simp; omega), _, rfl, _, _, rfl, rfl, sz20 (by rw [S_len, S_len]; simp; omega), _, rfl, _, _, rfl, rfl, sz20 (by rw [S_len, S_len]; simp; omega), sz20 (Nat.le_of_ble_eq_true rfl), fun l4 H4 n4 => ?_⟩
    refine ⟨l2, l4, _, _, rfl, rfl, n4.same _ _ h3, n4.at_, by rw [sizeLine_eq]; simp, fun l5 H5 n5 => gname_ ?_⟩
    refine ⟨_, rfl, .inl ⟨rfl, _, SqL.of n5.at_⟩, _, rfl, _, _, rfl, rfl, sz20 (by rw [S_len, S_len]; simp; omega), l5, _, _, rfl, rfl, n5.at_, by rw [sizeLine_eq]; simp, fun H6 b6 h6 => ?_⟩
    have f2 : H l2 = none := by
      cases q : H l2 with
      | none => rfl
      | some o => have := s1 _ _ q; rw [n2.fresh] at this; cases this
    have s03 : Same H H3 := b3.same (s1.trans n2.same) f2
    have s05 : Same H H5 := s03.trans (n4.same.trans n5.same)
    have f5 : H l5 = none := by
      cases q : H l5 with
      | none => rfl
      | some o => have := (s03.trans n4.same) _ _ q; rw [n5.fresh] at this; cases this
    have s06 : Same H H6 := b6.same s05 f5
    refine ⟨_, rfl, _, rfl, _, _, rfl, rfl, sz20 (by rw [S_len, S_len]; simp; omega), _, rfl, _, rfl, lr, xs, -1, _, rfl, rfl, SqL.of (s06 _ _ hl), atI_m1 hx0, t0, _, 0, _, rfl, rfl, SqT.of (s06 _ _ ht0), rfl, q0.1, rfl, (sm_bn sq0).all, ?_⟩
    rw [of_num]
    refine ⟨_, _, rfl, rfl, sz20 (by rw [S_cat, S_len, S_len]; simp; omega), _, rfl, _, _, rfl, rfl, sz20 (by rw [S_len, S_len]; simp; omega), _, rfl, _, _, rfl, rfl, sz20 (by rw [S_len, S_len]; simp; omega), _, rfl, _, _, rfl, rfl, sz20 (by rw [S_len, S_len]; simp; omega), sz20 (Nat.le_of_ble_eq_true rfl), fun l7 H7 n7 => ?_⟩
    refine ⟨l5, l7, _, _, rfl, rfl, n7.same _ _ h6, n7.at_, by rw [sizeLine_eq]; simp, fun l8 H8 n8 => gname_ ?_⟩
    have s08 := s06.trans (n7.same.trans n8.same)
    refine ⟨_, rfl, _, rfl, _, _, rfl, rfl, sz20 (by rw [S_len, S_len]; simp; omega), _, rfl, _, _, rfl, rfl, sz20 (by rw [S_len, S_len]; simp; omega), _, rfl, lr, xs, rfl, .inl (SqL.of (s08 _ _ hl)), fun l9 H9 n9 => ?_⟩
    refine ⟨_, rfl, _, _, rfl, rfl, sz20 (by rw [S_len, S_len]; simp; omega), sz20 (Nat.le_of_ble_eq_true rfl), fun l10 H10 n10 => ?_⟩
    refine ⟨l8, l10, _, _, rfl, rfl, n10.same _ _ (n9.same _ _ n8.at_), n10.at_, by rw [sizeLine_eq]; simp, fun l11 H11 n11 => gname_ ?_⟩
    have s11 : Same H H11 := s08.trans (n9.same.trans (n10.same.trans n11.same))
    have hl9 : H11 l9 = some (.lst xs) := n11.same _ _ (n10.same _ _ n9.at_)
    have reb : ∀ d : List Nat, TX.sg p.1 ++ d ++ (TX.sg p.2 ++ R) = (TX.sg p.1 ++ d ++ TX.sg p.2) ++ R := fun d => by simp
    have h11 := n11.at_
    simp only [S_cat, reb] at h11
    have hd : ∀ c : Nat, [c] ++ TX.textR (p :: l) g = ([c] ++ TX.rowT p) ++ R := fun c => by rw [eR]; simp
    have wl1 : (TX.wordsR l g).length ≤ 12 := by have e : TX.wordsR (p :: l) g = TX.rowT p :: TX.wordsR l g := rfl; rw [e] at wl; simp at wl; omega
    have lps : (p :: l).length ≤ 10 := sm.1
    have lb : ∀ (u : List Nat), u.length ≤ 400 → (u ++ R).length ≤ 3000 := fun u hu => by simp; omega
    have la := sm_len (sm.2.1 p (.head _)).1
    have lbb := sm_len (sm.2.1 p (.head _)).2
    have lrow : (TX.rowT p).length ≤ 203 := row_len (sm.2.1 p (.head _)).1 (sm.2.1 p (.head _)).2
    have tail : ∀ (y : List Nat) (T : List (List Nat)), y.length ≤ 300 → T.length ≤ 5 → splitL 32 y = T → ((∃ b, T = [TX.goneW, b] ∧ ¬ TX.Good b) ∨ (∃ w, T = [w] ∧ ¬ TX.StepW w) ∨ (∃ Z a b w, T = Z ++ [a, b] ∧ ¬ TX.StepW w ∧ (w ∈ Z ∨ (a ≠ TX.goneW ∧ (w = a ∨ w = b))))) → BadV H11 (.str (S (TX.textR (p :: l) none ++ 32 :: y))) := fun y T hy hT e h =>
      .inl (bad_S (TX.sp_tail ne e h) (by omega) (by simp; omega))
    have E11 : BadV H11 (.str (S (TX.textR (p :: l) none ++ 32 :: (TX.goneW ++ [32, 48]) ++ TX.sg q0.1))) := by
      rw [show TX.textR (p :: l) none ++ 32 :: (TX.goneW ++ [32, 48]) ++ TX.sg q0.1 = TX.textR (p :: l) none ++ 32 :: (TX.goneW ++ 32 :: (48 :: TX.sg q0.1)) by simp]
      refine tail _ [TX.goneW, 48 :: TX.sg q0.1] (by simp; omega) (by simp) ?_ (.inl ⟨_, rfl, TX.ng_zero (TX.sg_nil _)⟩)
      rw [TX.split_cat, TX.split_no (x := 48 :: TX.sg q0.1)]
      · rfl
      · intro z
        rcases List.mem_cons.mp z with z | z
        · omega
        · exact TX.no32 _ z
    have first : ∀ u : List Nat, u.length ≤ 400 → 32 ∉ u → ¬ TX.StepW u → u ≠ TX.goneW → BadV H11 (.str (S (u ++ R))) := fun u hu h1 h2 h3 =>
      .inl (bad_S (TX.sp_first (p := p) hR h1 h2 h3) (by omega) (lb u hu))
    obtain ⟨v, a1, a2, a3⟩ := pick (K := K) (i := c % 25) (P := BadV H11) h11
      (fa_app (fa_app (fa_app (fa_app (fa_app
        (fa_cons (.inl (bad_S (TX.sp_blank_end ne) (by omega) (by simp; omega)))
        (fa_cons (.inl (bad_S (TX.sp_blank_first ne) (by omega) (by simp; omega)))
        (fa_cons (first _ (by simp; omega) (TX.sgs_no32 (by simp)) (TX.no_step (TX.sgs_no (by simp))) (TX.sgs_ne (by simp)))
        (fa_cons (first _ (by simp; omega) (TX.sgs_no32 (by simp)) TX.sp_colons (TX.sgs_ne (by simp))) fa_nil))))
        (fa_cons (.inl (bad_S (TX.sp_cut hR) (by omega) (lb _ (by simp; omega)))) fa_nil))
        (fa_cons (first _ (by simp; omega) (TX.sgs_no32 (by simp)) (TX.no_step (TX.sgs_no (by simp))) (TX.sgs_ne (by simp)))
        (fa_cons (by rw [hd]; exact first _ (by simp; omega) (TX.sp_head32 (by decide)) (TX.sp_head (by decide) (TX.ng_zero (TX.sg_nil _))) TX.sp_headG)
        (fa_cons (by rw [hd]; exact first _ (by simp; omega) (TX.sp_head32 (by decide)) (TX.sp_head (by decide) (TX.ng_in (c := 43) (by simp) (by decide) (by unfold TX.IsDig; decide))) TX.sp_headG)
        (fa_cons (tail _ [TX.goneW] (by decide) (by simp) (by decide) (.inr (.inl ⟨_, rfl, TX.no_step (by decide)⟩)))
        (fa_cons (tail _ [TX.goneW, []] (by decide) (by simp) (by decide) (.inl ⟨_, rfl, TX.ng_nil⟩)) fa_nil))))))
        (fa_cons (tail _ [TX.goneW, [48, 120, 57]] (by decide) (by simp) (by decide) (.inl ⟨_, rfl, TX.ng_in (c := 120) (by simp) (by decide) (by unfold TX.IsDig; decide)⟩)) fa_nil))
        (fa_cons E11
        (fa_cons (tail _ [[71, 111, 110, 101], [57, 57]] (by decide) (by simp) (by decide) (.inr (.inr ⟨[], _, _, [71, 111, 110, 101], rfl, TX.no_step (by decide), .inr ⟨by decide, .inl rfl⟩⟩)))
        (fa_cons (tail _ [TX.goneW, [110, 111, 110, 101]] (by decide) (by simp) (by decide) (.inl ⟨_, rfl, TX.ng_in (c := 110) (by simp) (by decide) (by unfold TX.IsDig; decide)⟩))
        (fa_cons (tail _ [[], TX.goneW, [57, 57]] (by decide) (by simp) (by decide) (.inr (.inr ⟨[[]], _, _, [], rfl, TX.no_step (by simp), .inl (by simp)⟩))) fa_nil)))))
        (fa_cons (.inl (bad_S (n := 1) ⟨TX.bad_first (w := []) (ws := []) (TX.no_step (by simp)) (by decide), rfl⟩ (by omega) (by simp)))
        (fa_cons (.inl ⟨_, rfl, by decide, by decide, bad_gone5⟩)
        (fa_cons (.inl ⟨_, rfl, by decide, by decide, bad_gone1⟩)
        (fa_cons (.inl (bad_S (TX.bad_end ne (by decide) (by unfold TX.IsDig; decide) (by decide) (by decide) (by decide)) (by omega) (by simp; omega)))
        (fa_cons (.inl (bad_S (TX.bad_end ne (by decide) (by unfold TX.IsDig; decide) (by decide) (by decide) (by decide)) (by omega) (by simp; omega)))
        (fa_cons (.inr (.inl rfl))
        (fa_cons (.inr (.inr (.inl ⟨_, rfl⟩)))
        (fa_cons (.inr (.inr (.inr (.inr (.inr ⟨_, _, rfl, hl9⟩)))))
        (fa_cons (.inl (bad_S (n := 1) ⟨TX.bad_first (w := [110, 111, 110, 101]) (ws := []) (TX.no_step (by decide)) (by decide), by decide⟩ (by omega) (by decide)))
        (fa_cons (tail _ [TX.goneW, [57], [57]] (by decide) (by simp) (by decide) (.inr (.inr ⟨[TX.goneW], _, _, TX.goneW, rfl, TX.no_step (by decide), .inl (by simp)⟩))) fa_nil)))))))))))
      (by omega) (by simp; omega)
    exact ⟨_, rfl, _, rfl, _, _, rfl, rfl, by decide, l11, _, _, v, rfl, rfl, a1, a2, q v H11 s11 a3⟩
end
section
variable {P : Program} {w : World} {K : PySem.W.Frag} {mg : Str → Option Value} {base : Heap} {C_Rule C_BookError C_NoNumber C_NoRule C_NoText : Addr}
theorem nrm82 {F : St → Hp → Prop} {σ σ' : St} {H : Hp} (e : σ = σ') (h : F σ' H) : F σ H := e ▸ h
theorem cut_to (xs : List V) (k : Nat) (h : k ≤ xs.length) : cutV xs none (some (k : Int)) = xs.take k := by
  unfold cutV
  rw [HT.sIx_none, HT.sIx_nat, Nat.min_eq_left h]
  simp
theorem pairs_take {H : Hp} : ∀ {xs : List V} {ps : List (Int × Int)} (n : Nat), Pairs H xs ps → Pairs H (xs.take n) (ps.take n)
  | _, _, 0, _ => .nil
  | _, _, _ + 1, .nil => .nil
  | _, _, n + 1, .cons r t => .cons r (pairs_take n t)
def SzR (ps : List (Int × Int)) (g : Option Int) : Prop := (∀ q ∈ ps, 0 ≤ q.1 ∧ q.1 < 10 ^ 50 ∧ 1 ≤ q.2 ∧ q.2 < 10 ^ 50) ∧ ∀ z, g = some z → 0 ≤ z ∧ z < 10 ^ 50
theorem sm_of {n : Int} (h1 : -(10 ^ 60) < n) (h2 : n < 10 ^ 60) : TX.Sm n := Nat.lt_of_lt_of_le (show n.natAbs < 10 ^ 60 by omega) (Nat.pow_le_pow_right (by decide) (by decide))
theorem bad_text {qs : List (Int × Int)} {g : Option Int} (ne : qs ≠ []) (sm : SmR qs g) (no : ¬ RuleOk qs g) : BadS (.str (S (TX.textR qs g))) := by
  have tl := textR_len sm
  have wl := (wordsR_len sm).2
  refine ⟨_, rfl, by omega, by rw [TX.split_text ne]; omega, fun ok => no ?_⟩
  have := ok.2
  rw [TX.split_text ne] at this
  obtain ⟨e1, e2⟩ := TX.steps_back (g := g) ne
  rw [e1, e2] at this
  exact this
theorem mono0 {ps : List (Int × Int)} (G : Good ps) : ∀ (i : Nat) (p p0 : Int × Int), ps[i]? = some p → ps[0]? = some p0 → p0.1 ≤ p.1
  | 0, p, p0, h, h0 => by rw [h] at h0; cases h0; exact Int.le_refl _
  | i + 1, p, p0, h, h0 => by
    have lt := (List.getElem?_eq_some_iff.mp h).1
    obtain ⟨q, hq⟩ : ∃ q, ps[i]? = some q := ⟨_, List.getElem?_eq_getElem (by omega)⟩
    exact Int.le_trans (mono0 G i q p0 hq h0) (G.next i q p hq h).1
theorem take_get {ps : List (Int × Int)} {an : Nat} (h : an ≤ ps.length) (Z : List (Int × Int)) (j : Nat) : (ps.take an ++ Z)[an + j]? = Z[j]? := by
  rw [List.getElem?_append_right (by rw [List.length_take]; omega), List.length_take]
  congr 1
  omega
inductive sp_lno (vs : List V) (H : Hp) (Q : VK) (E_ : XK) : Prop
  | mk : ∀ l ps g xs c, vs = [.ref l, gv g, .int c] → H l = some (.lst xs) → Pairs H xs ps → RuleOk ps g → SzR ps g → (∀ v H', Same H H' → BadV H' v → Q v H') → sp_lno vs H Q E_
theorem D__law_no_rule (T : Txt K mg C_Rule C_BookError C_NoNumber C_NoRule C_NoText) : DefOk P w K mg base 3 "_law_no_rule" ["_law_rows", "_law_end", "_law_cell"] sp_lno := by
  obtain ⟨f, fd, F, hm⟩ := T.f__law_no_rule
  have nd := sc__law_no_rule.nd
  refine F.def_ hm (F.ok sc__law_no_rule (fun vs H Q E h => ?_) (fun cdv A outer s H vs Q E hr h => ?_)) (F.binds fun _ _ _ _ _ _ us hl => by obtain ⟨_, _, _, rfl⟩ := L2.lq3 hl; rfl)
  · obtain ⟨l, ps, g, xs, c, rfl, _⟩ := h; rfl
  · obtain ⟨l, ps, g, xs, c, rfl, hl, hp, ok, sz, q⟩ := h
    have hlen := hp.length
    have lo := ok.1.lo
    have hi := ok.1.hi
    obtain ⟨an, han, hat⟩ : ∃ an : Nat, an < ps.length ∧ c / 7 % (xs.length : Int) = an := ⟨(c / 7 % (xs.length : Int)).toNat, by have := Int.emod_lt_of_pos (c / 7) (show (0 : Int) < xs.length by omega); omega, by have := Int.emod_nonneg (c / 7) (show (xs.length : Int) ≠ 0 by omega); omega⟩
    obtain ⟨p, hpa⟩ : ∃ p, ps[an]? = some p := ⟨_, List.getElem?_eq_getElem han⟩
    obtain ⟨pl, hpl⟩ : ∃ p, ps[ps.length - 1]? = some p := ⟨_, List.getElem?_eq_getElem (by omega)⟩
    obtain ⟨p0, hp0⟩ : ∃ p, ps[0]? = some p := ⟨_, List.getElem?_eq_getElem (by omega)⟩
    obtain ⟨a, hxa, ha⟩ := hp.get2 hpa
    obtain ⟨al, hxl, hal⟩ := hp.get2 hpl
    obtain ⟨a0, hx0, ha0⟩ := hp.get2 hp0
    rw [← hlen] at hxl
    have zp := sz.1 p (List.mem_of_getElem? hpa)
    have zl := sz.1 pl (List.mem_of_getElem? hpl)
    have z0 := sz.1 p0 (List.mem_of_getElem? hp0)
    have each : ∀ r ∈ ps, TX.Sm r.1 ∧ TX.Sm r.2 := fun r hr => by have := sz.1 r hr; exact ⟨sm_of (by omega) (by omega), sm_of (by omega) (by omega)⟩
    have gsm : ∀ z, g = some z → TX.Sm z := fun z e => by have := sz.2 z e; exact sm_of (by omega) (by omega)
    have fin : ∀ (lf : Addr) (ys : List V) (qs : List (Int × Int)) (g2 : Option Int) (H1 : Hp), Same H H1 → H1 lf = some (.lst ys) → Pairs H1 ys qs → qs.length ≤ 10 → qs ≠ [] → (∀ r ∈ qs, TX.Sm r.1 ∧ TX.Sm r.2) → (∀ z, g2 = some z → TX.Sm z) → ¬ RuleOk qs g2 → sp_ltext [.ref lf, gv g2] H1 Q E0 := fun lf ys qs g2 H1 s1 h1 hq lq ne sq sg no =>
      ⟨lf, qs, g2, ys, rfl, h1, hq, ⟨lq, sq, sg⟩, fun H2 s2 => q _ H2 (s1.trans s2) (.inl (bad_text ne ⟨lq, sq, sg⟩ no))⟩
    have tk : ∀ r ∈ ps.take an, TX.Sm r.1 ∧ TX.Sm r.2 := fun r hr => each r (List.mem_of_mem_take hr)
    refine ⟨_, (pss_cons (ps_set (i := 3) nd rfl (Or.inl rfl) (pe_callTy call_listN rfl T.b_list bt_list (pa_cons (pv 0) pa_nil)))
      (pss_cons (ps_set (i := 4) nd rfl (Or.inl rfl) (pe_op op_mod (pe_op op_fdiv (pv 2) pe_int) (pe_callB call_len_seq rfl T.b_len bt_len (pa_cons (pv 3) pa_nil))))
      (pss_cons (ps_asg (pe_ix ix_list (pv 3) (pv 4) (fun _ _ => rfl)) (pg_tup rfl (pgs_cons (pg_name (i := 5) nd rfl (Or.inl rfl)) (pgs_cons (pg_name (i := 6) nd rfl (Or.inl rfl)) pgs_nil))))
      (pss_cons (ps_if (pt_cmpR op_eq (pe_op op_mod (pv 2) pe_int) pe_int (nomark _))
        (pss_one (ps_ret (pe_fn (D__law_text T) (hr.mono (by decide)) rfl (pa_cons (pe_op op_catN (pe_slice sl_listN (pv 3) po_none (po_some (pv 4))) (pe_lstN (pa_cons (pe_tupN (pa_cons (pv 5) (pa_cons (pv 6) pa_nil))) (pa_cons (pe_tupN (pa_cons (pe_op op_add (pv 5) pe_int) (pa_cons (pv 6) pa_nil))) (pa_cons (pe_tupN (pa_cons (pv 5) (pa_cons (pv 6) pa_nil))) pa_nil))))) (pa_cons pe_non pa_nil)))))
        pss_nil)
      (pss_cons (ps_if (pt_cmpR op_eq (pe_op op_mod (pv 2) pe_int) pe_int (nomark _))
        (pss_one (ps_ret (pe_fn (D__law_text T) (hr.mono (by decide)) rfl (pa_cons (pe_op op_catN (pe_slice sl_listN (pv 3) po_none (po_some (pv 4))) (pe_lstN (pa_cons (pe_tupN (pa_cons (pv 5) (pa_cons (pe_op op_mul (pv 6) pe_int) pa_nil))) (pa_cons (pe_tupN (pa_cons (pv 5) (pa_cons (pe_op op_mul (pv 6) pe_int) pa_nil))) pa_nil)))) (pa_cons pe_non pa_nil)))))
        pss_nil)
      (pss_cons (ps_if (pt_cmpR op_eq (pe_op op_mod (pv 2) pe_int) pe_int (nomark _))
        (pss_cons (ps_asg (pe_tupN (pa_cons (pv 5) (pa_cons (pe_op op_sub pe_int (pe_op op_mod (pe_op op_fdiv (pv 2) pe_int) pe_int)) pa_nil))) (pg_sub (pv 3) (pv 4) set_listN))
      (pss_one (ps_ret (pe_fn (D__law_text T) (hr.mono (by decide)) rfl (pa_cons (pv 3) (pa_cons (pv 1) pa_nil))))))
        pss_nil)
      (pss_cons (ps_if (pt_cmpR op_eq (pe_op op_mod (pv 2) pe_int) pe_int (nomark _))
        (pss_one (ps_ret (pe_fn (D__law_text T) (hr.mono (by decide)) rfl (pa_cons (pv 3) (pa_cons (pe_op op_sub (pe_op op_sub (pe_ix ix_tup (pe_ix ix_list (pv 3) (pe_un un_neg pe_int) (fun _ _ => rfl)) pe_int (fun _ _ => rfl)) pe_int) (pe_op op_mod (pe_op op_fdiv (pv 2) pe_int) (pe_op op_pow pe_int pe_int))) pa_nil)))))
        pss_nil)
      (pss_cons (ps_if (pt_cmpR op_eq (pe_op op_mod (pv 2) pe_int) pe_int (nomark _))
        (pss_one (ps_ret (pe_fn (D__law_text T) (hr.mono (by decide)) rfl (pa_cons (pe_op op_catN (pv 3) (pe_op op_repN (pe_lstN (pa_cons (pe_ix ix_list (pv 3) (pe_un un_neg pe_int) (fun _ _ => rfl)) pa_nil)) (pe_op op_sub pe_int (pe_callB call_len_seq rfl T.b_len bt_len (pa_cons (pv 3) pa_nil))))) (pa_cons pe_non pa_nil)))))
        pss_nil)
      (pss_cons (ps_if (pt_cmpR op_eq (pe_op op_mod (pv 2) pe_int) pe_int (nomark _))
        (pss_cons (ps_asg (pe_tupN (pa_cons (pe_op op_sub (pe_un un_neg pe_int) (pe_op op_mod (pe_op op_fdiv (pv 2) pe_int) (pe_op op_pow pe_int pe_int))) (pa_cons (pe_ix ix_tup (pe_ix ix_list (pv 3) pe_int (fun _ _ => rfl)) pe_int (fun _ _ => rfl)) pa_nil))) (pg_sub (pv 3) pe_int set_listN))
      (pss_one (ps_ret (pe_fn (D__law_text T) (hr.mono (by decide)) rfl (pa_cons (pv 3) (pa_cons (pv 1) pa_nil))))))
        pss_nil)
      (pss_one (ps_ret (pe_fn (D__law_text T) (hr.mono (by decide)) rfl (pa_cons (pe_op op_catN (pe_lstN (pa_cons (pe_tupN (pa_cons (pe_op op_add (pv 5) pe_int) (pa_cons (pv 6) pa_nil))) pa_nil)) (pe_slice sl_listN (pv 3) po_none (po_some (pe_op op_add (pv 4) pe_int)))) (pa_cons (pv 1) pa_nil)))))))))))))), ?_⟩
    refine ⟨_, rfl, l, xs, rfl, .inl (SqL.of hl), fun lf H1 n1 => gname_ ?_⟩
    refine ⟨_, rfl, _, _, rfl, rfl, ⟨by decide, by decide⟩, _, rfl, lf, xs, rfl, .inl (SqL.of n1.at_), _, _, rfl, rfl, (by show (0 : Int) < xs.length; omega), gname_ ?_⟩
    have hp1 := hp.same n1.same
    refine ⟨_, rfl, _, rfl, lf, xs, _, _, rfl, rfl, SqL.of n1.at_, (by rw [hat]; exact atI_nat hxa), a, _, rfl, SqT.of (n1.same _ _ ha), rfl, _, _, rfl, _, _, rfl, rfl, ?_⟩
    refine nrm82 (σ' := [some (.ref l), some (gv g), some (.int c), some (.ref lf), some (.int (an : Int)), some (.int p.1), some (.int p.2)]) (by rw [hat]; rfl) ?_
    have ct : cutV xs none (some (an : Int)) = xs.take an := cut_to xs an (by omega)
    have ptk := pairs_take an hp1
    have lt : (ps.take an).length = an := by rw [List.length_take]; omega
    refine ⟨_, rfl, _, _, rfl, rfl, by decide, rfl, _, rfl, ite2 (fun z => ?_) fun z => ?_⟩
    · refine ⟨_, rfl, _, rfl, _, rfl, lf, xs, rfl, SqL.of n1.at_, fun lc H2 n2 => ?_⟩
      rw [ct] at n2
      refine ⟨_, rfl, _, rfl, sz20 (Nat.le_of_ble_eq_true rfl), fun t1 H3 n3 => ?_⟩
      refine ⟨_, rfl, _, _, rfl, rfl, _, rfl, sz20 (Nat.le_of_ble_eq_true rfl), fun t2 H4 n4 => ?_⟩
      refine ⟨_, rfl, _, rfl, sz20 (Nat.le_of_ble_eq_true rfl), fun t3 H5 n5 => ?_⟩
      refine ⟨sz20 (Nat.le_of_ble_eq_true rfl), fun lz H6 n6 => ?_⟩
      refine ⟨lc, lz, _, _, rfl, rfl, n6.same _ _ (n5.same _ _ (n4.same _ _ (n3.same _ _ n2.at_))), n6.at_, sz20 (by simp; omega), fun lk H7 n7 => ?_⟩
      have s57 := n6.same.trans n7.same
      have s47 := n5.same.trans s57
      have s37 := n4.same.trans s47
      have s17 := n2.same.trans (n3.same.trans s37)
      refine fin lk _ (ps.take an ++ [p, (p.1 + 1, p.2), p]) none H7 (n1.same.trans s17) n7.at_ (Pairs.append (.cons ⟨t1, rfl, s37 _ _ n3.at_⟩ (.cons ⟨t2, rfl, s47 _ _ n4.at_⟩ (.cons ⟨t3, rfl, s57 _ _ n5.at_⟩ .nil))) (ptk.same s17)) (by simp; omega) (by simp) (fun r hr => ?_) (fun z e => by cases e) fun bad => ?_
      · rcases List.mem_append.mp hr with y | y
        · exact tk r y
        · simp at y
          rcases y with rfl | rfl | rfl <;> exact ⟨sm_of (by first | omega | (dsimp only; omega)) (by first | omega | (dsimp only; omega)), sm_of (by first | omega | (dsimp only; omega)) (by first | omega | (dsimp only; omega))⟩
      · have := (bad.1.next (an + 1) (p.1 + 1, p.2) p (take_get (by omega) _ 1) (take_get (by omega) _ 2)).1
        dsimp only at this
        omega
    refine ⟨_, rfl, _, _, rfl, rfl, by decide, rfl, _, rfl, ite2 (fun z => ?_) fun z => ?_⟩
    · refine ⟨_, rfl, _, rfl, _, rfl, lf, xs, rfl, SqL.of n1.at_, fun lc H2 n2 => ?_⟩
      rw [ct] at n2
      refine ⟨_, rfl, _, rfl, _, _, rfl, rfl, .inr ⟨by decide, by decide⟩, sz20 (Nat.le_of_ble_eq_true rfl), fun t1 H3 n3 => ?_⟩
      refine ⟨_, rfl, _, rfl, _, _, rfl, rfl, .inr ⟨by decide, by decide⟩, sz20 (Nat.le_of_ble_eq_true rfl), fun t2 H4 n4 => ?_⟩
      refine ⟨sz20 (Nat.le_of_ble_eq_true rfl), fun lz H6 n6 => ?_⟩
      refine ⟨lc, lz, _, _, rfl, rfl, n6.same _ _ (n4.same _ _ (n3.same _ _ n2.at_)), n6.at_, sz20 (by simp; omega), fun lk H7 n7 => ?_⟩
      have s47 := n6.same.trans n7.same
      have s37 := n4.same.trans s47
      have s17 := n2.same.trans (n3.same.trans s37)
      refine fin lk _ (ps.take an ++ [(p.1, p.2 * 2), (p.1, p.2 * 3)]) none H7 (n1.same.trans s17) n7.at_ (Pairs.append (.cons ⟨t1, rfl, s37 _ _ n3.at_⟩ (.cons ⟨t2, rfl, s47 _ _ n4.at_⟩ .nil)) (ptk.same s17)) (by simp; omega) (by simp) (fun r hr => ?_) (fun z e => by cases e) fun bad => ?_
      · rcases List.mem_append.mp hr with y | y
        · exact tk r y
        · simp at y
          rcases y with rfl | rfl <;> exact ⟨sm_of (by first | omega | (dsimp only; omega)) (by first | omega | (dsimp only; omega)), sm_of (by first | omega | (dsimp only; omega)) (by first | omega | (dsimp only; omega))⟩
      · have := (bad.1.next an (p.1, p.2 * 2) (p.1, p.2 * 3) (take_get (by omega) _ 0) (take_get (by omega) _ 1)).2
        dsimp only at this
        have e : p.2 * 3 % (p.2 * 2) = p.2 := by
          rw [show p.2 * 3 = p.2 + p.2 * 2 by omega, Int.add_emod_right, Int.emod_eq_of_lt (by omega) (by omega)]
        omega
    have hm9 : 0 ≤ c / 35 % 9 ∧ c / 35 % 9 < 9 := by omega
    have h30 : (30 : Int).toNat = 30 := rfl
    have hm30 : 0 ≤ c / 35 % 10 ^ (30 : Int).toNat ∧ c / 35 % 10 ^ (30 : Int).toNat < 10 ^ 30 := by
      rw [h30]
      exact ⟨Int.emod_nonneg _ (by decide), Int.emod_lt_of_pos _ (by decide)⟩
    have stk : ∀ (j : Nat) (r : Int × Int), TX.Sm r.1 ∧ TX.Sm r.2 → ∀ u ∈ ps.set j r, TX.Sm u.1 ∧ TX.Sm u.2 := fun j r hr u hu => by
      rcases List.mem_or_eq_of_mem_set hu with y | y
      · exact each u y
      · rw [y]; exact hr
    refine ⟨_, rfl, _, _, rfl, rfl, by decide, rfl, _, rfl, ite2 (fun z => ?_) fun z => ?_⟩
    · refine ⟨_, rfl, _, rfl, _, _, rfl, rfl, ⟨by decide, by decide⟩, _, _, rfl, rfl, (by decide), _, _, rfl, rfl, sz20 (Nat.le_of_ble_eq_true rfl), fun t1 H2 n2 => ?_⟩
      refine ⟨_, rfl, _, rfl, lf, xs, _, an, rfl, rfl, n2.same _ _ n1.at_, ixN_nat (by omega), fun H3 b3 h3 => ?_⟩
      refine ⟨_, rfl, _, rfl, fin lf _ (ps.set an (p.1, 0 - c / 35 % 9)) g H3 (b3.same (n1.same.trans n2.same) n1.fresh) h3 (Pairs.but (Pairs.set ⟨t1, rfl, n2.at_⟩ an (hp1.same n2.same)) b3 (n2.same _ _ n1.at_) lst_nt) (by rw [List.length_set]; omega) (fun e => by have := congrArg List.length e; rw [List.length_set] at this; simp only [List.length_nil] at this; omega) (stk an _ ⟨sm_of (by dsimp only; omega) (by dsimp only; omega), sm_of (by dsimp only; omega) (by dsimp only; omega)⟩) gsm fun bad => ?_⟩
      have := (bad.1.each an (p.1, 0 - c / 35 % 9) (List.getElem?_set_self (by omega))).2
      dsimp only at this
      omega
    refine ⟨_, rfl, _, _, rfl, rfl, by decide, rfl, _, rfl, ite2 (fun z => ?_) fun z => ?_⟩
    · refine ⟨_, rfl, _, rfl, _, rfl, lf, xs, -1, _, rfl, rfl, SqL.of n1.at_, atI_m1 hxl, al, _, 0, _, rfl, rfl, SqT.of (n1.same _ _ hal), rfl, _, _, rfl, rfl, _, rfl, _, _, rfl, rfl, ⟨by decide, by decide⟩, _, _, rfl, rfl, ⟨by decide, by decide, by decide⟩, _, _, rfl, rfl, (by decide), _, _, rfl, rfl, ?_⟩
      refine fin lf xs ps (some (pl.1 - 1 - c / 35 % 10 ^ (30 : Int).toNat)) H1 n1.same n1.at_ hp1 (by omega) (fun e => by rw [e] at lo; simp at lo) each (fun z e => by cases e; exact sm_of (by omega) (by omega)) fun bad => ?_
      have := bad.2 pl hpl _ rfl
      omega
    refine ⟨_, rfl, _, _, rfl, rfl, by decide, rfl, _, rfl, ite2 (fun z => ?_) fun z => ?_⟩
    · refine ⟨_, rfl, _, rfl, _, rfl, lf, xs, -1, _, rfl, rfl, SqL.of n1.at_, atI_m1 hxl, sz20 (Nat.le_of_ble_eq_true rfl), fun lz H2 n2 => ?_⟩
      have n6 : (6 - (xs.length : Int)).toNat = 6 - ps.length := by omega
      refine ⟨_, rfl, lf, xs, rfl, .inl (SqL.of (n2.same _ _ n1.at_)), _, _, rfl, rfl, lz, _, _, rfl, rfl, n2.at_, by omega, by omega, sz20 (by rw [n6]; simp; omega), fun lr H3 n3 => ?_⟩
      refine ⟨lf, lr, _, _, rfl, rfl, n3.same _ _ (n2.same _ _ n1.at_), n3.at_, sz20 (by rw [n6]; simp; omega), fun lk H4 n4 => ?_⟩
      have s14 := n2.same.trans (n3.same.trans n4.same)
      have fl : (List.replicate (6 - (xs.length : Int)).toNat [pl]).flatten.length = 6 - ps.length := by rw [n6]; simp
      refine fin lk _ (ps ++ (List.replicate (6 - (xs.length : Int)).toNat [pl]).flatten) none H4 (n1.same.trans s14) n4.at_ (Pairs.append (Pairs.repN ⟨al, rfl, s14 _ _ (n1.same _ _ hal)⟩ _) (hp1.same s14)) (by rw [List.length_append, fl]; omega) (fun e => by have := congrArg List.length e; rw [List.length_append, fl] at this; simp at this; omega) (fun r hr => ?_) (fun z e => by cases e) fun bad => ?_
      · rcases List.mem_append.mp hr with y | y
        · exact each r y
        · obtain ⟨u, hu, hr2⟩ := List.mem_flatten.mp y
          have e1 := List.eq_of_mem_replicate hu
          rw [e1] at hr2
          rw [List.mem_singleton.mp hr2]
          exact each pl (List.mem_of_getElem? hpl)
      · have := bad.1.hi
        rw [List.length_append, fl] at this
        omega
    refine ⟨_, rfl, _, _, rfl, rfl, by decide, rfl, _, rfl, ite2 (fun z => ?_) fun z => ?_⟩
    · refine ⟨_, rfl, _, rfl, _, _, rfl, rfl, ⟨by decide, by decide⟩, _, _, rfl, rfl, ⟨by decide, by decide, by decide⟩, _, _, rfl, rfl, (by decide), _, _, rfl, rfl, _, rfl, lf, xs, 0, _, rfl, rfl, SqL.of n1.at_, atI_nat hx0, a0, _, 1, _, rfl, rfl, SqT.of (n1.same _ _ ha0), rfl, sz20 (Nat.le_of_ble_eq_true rfl), fun t1 H2 n2 => ?_⟩
      refine ⟨_, rfl, lf, xs, _, 0, rfl, rfl, n2.same _ _ n1.at_, ixN_nat (i := 0) (show 0 < xs.length by omega), fun H3 b3 h3 => ?_⟩
      refine ⟨_, rfl, _, rfl, fin lf _ (ps.set 0 (-1 - c / 35 % 10 ^ (30 : Int).toNat, p0.2)) g H3 (b3.same (n1.same.trans n2.same) n1.fresh) h3 (Pairs.but (Pairs.set ⟨t1, rfl, n2.at_⟩ 0 (hp1.same n2.same)) b3 (n2.same _ _ n1.at_) lst_nt) (by rw [List.length_set]; omega) (fun e => by have := congrArg List.length e; rw [List.length_set] at this; simp only [List.length_nil] at this; omega) (stk 0 _ ⟨sm_of (by dsimp only; omega) (by dsimp only; omega), sm_of (by dsimp only; omega) (by dsimp only; omega)⟩) gsm fun bad => ?_⟩
      have := (bad.1.each 0 (-1 - c / 35 % 10 ^ (30 : Int).toNat, p0.2) (List.getElem?_set_self (by omega))).1
      dsimp only at this
      omega
    refine ⟨_, rfl, _, _, rfl, rfl, _, rfl, sz20 (Nat.le_of_ble_eq_true rfl), fun t1 H2 n2 => ?_⟩
    refine ⟨sz20 (Nat.le_of_ble_eq_true rfl), fun lz H3 n3 => ?_⟩
    refine ⟨_, rfl, _, rfl, _, _, rfl, rfl, _, rfl, lf, xs, rfl, SqL.of (n3.same _ _ (n2.same _ _ n1.at_)), fun lc H4 n4 => ?_⟩
    rw [show ((an : Int) + 1) = ((an + 1 : Nat) : Int) by omega, cut_to xs (an + 1) (by omega)] at n4
    refine ⟨lz, lc, _, _, rfl, rfl, n4.same _ _ n3.at_, n4.at_, sz20 (by simp; omega), fun lk H5 n5 => ?_⟩
    have s35 := n4.same.trans n5.same
    have s25 := n3.same.trans s35
    have s15 := n2.same.trans s25
    refine ⟨_, rfl, fin lk _ ([(p.1 + 1, p.2)] ++ ps.take (an + 1)) g H5 (n1.same.trans s15) n5.at_ (Pairs.append ((pairs_take (an + 1) hp1).same s15) (.cons ⟨t1, rfl, s25 _ _ n2.at_⟩ .nil)) (by simp; omega) (by simp) (fun r hr => ?_) gsm fun bad => ?_⟩
    · rcases List.mem_append.mp hr with y | y
      · rw [List.mem_singleton.mp y]
        exact ⟨sm_of (by dsimp only; omega) (by dsimp only; omega), sm_of (by dsimp only; omega) (by dsimp only; omega)⟩
      · exact each r (List.mem_of_mem_take y)
    · have h1 : ([(p.1 + 1, p.2)] ++ ps.take (an + 1))[0 + 1]? = some p0 := by
        show (ps.take (an + 1))[0]? = some p0
        rw [List.getElem?_take_of_lt (by omega)]
        exact hp0
      have := (bad.1.next 0 (p.1 + 1, p.2) p0 rfl h1).1
      have m0 := mono0 ok.1 an p p0 hpa hp0
      dsimp only at this
      omega
end
section
variable {P : Program} {w : World} {K : PySem.W.Frag} {mg : Str → Option Value} {base : Heap} {C_Rule C_BookError C_NoNumber C_NoRule C_NoText : Addr}
theorem cut20t (ns : List Int) (h : ns.length ≤ 63) : ∃ ms : List Int, cutV (ns.map V.int) none (some 20) = ms.map V.int ∧ ms.length ≤ 63 := by
  refine ⟨ns.take (HT.sIx (ns.map V.int).length (ns.map V.int).length (some 20)), ?_, by rw [List.length_take]; omega⟩
  unfold cutV
  simp [HT.sIx, List.map_take]
theorem mem_ix {ps : List (Int × Int)} {r : Int × Int} (h : r ∈ ps) : ∃ i : Nat, ps[i]? = some r := List.getElem?_of_mem h
theorem sz_of (m : Int) : SzR (stepsOf m) (goneOf m) := by
  have P := pr_of m
  refine ⟨fun r hr => ?_, fun z e => ?_⟩
  · obtain ⟨i, hi⟩ := mem_ix hr
    have := P.size i r hi
    omega
  · have := P.gb z e
    omega
theorem smr_of {ps : List (Int × Int)} {g : Option Int} (h : SzR ps g) (hl : ps.length ≤ 10) : SmR ps g :=
  ⟨hl, fun r hr => by have := h.1 r hr; exact ⟨sm_of (by omega) (by omega), sm_of (by omega) (by omega)⟩, fun z e => by have := h.2 z e; exact sm_of (by omega) (by omega)⟩
theorem ok_text {ps : List (Int × Int)} {g : Option Int} (ne : ps ≠ []) (sm : SmR ps g) (ok : RuleOk ps g) : TextOk (TX.textR ps g) := by
  obtain ⟨e1, e2⟩ := TX.steps_back (g := g) ne
  unfold TextOk
  rw [TX.split_text ne, e1, e2]
  exact ⟨TX.words_ok ne sm.2.1 sm.2.2, ok⟩
theorem back_text {ps : List (Int × Int)} {g : Option Int} (ne : ps ≠ []) : (TX.stepsW (splitL 32 (TX.textR ps g))).map TX.stepV = ps ∧ (TX.lastW (splitL 32 (TX.textR ps g))).map TX.valT = g := by
  rw [TX.split_text ne]; exact TX.steps_back ne
theorem tw_text {H : Hp} {ps : List (Int × Int)} {g : Option Int} (ne : ps ≠ []) (sm : SmR ps g) : TextW H (.str (S (TX.textR ps g))) := by
  have tl := textR_len sm
  have wl := (wordsR_len sm).2
  exact .inl ⟨_, rfl, by omega, by rw [TX.split_text ne]; omega⟩
theorem w_01 : (Str.ofString "0:1") = S (TX.textR [(0, 1)] none) := by decide +kernel
theorem rule01 : RuleOk [(0, 1)] none := ⟨⟨by decide, by decide, fun i p h => by
  match i, h with
  | 0, h => cases h; decide
  | i + 1, h => simp at h, fun i p q h1 h2 => by simp at h2⟩, fun p _ z e => by cases e⟩
theorem sm01 : SmR [(0, 1)] none := ⟨by decide, fun r hr => by rw [List.mem_singleton.mp hr]; exact ⟨sm_of (by decide) (by decide), sm_of (by decide) (by decide)⟩, fun z e => by cases e⟩
theorem G_law (T : Txt K mg C_Rule C_BookError C_NoNumber C_NoRule C_NoText) {f : Addr} {fd : FuncData} (F : Fun K "law" "law" s_law f fd) : FnOk P w K mg base CX0 10 f fd ["_law_script"] (sp_law K) := by
  have nd := sc_law.nd
  refine F.ok sc_law (fun vs H Q E h => ?_) (fun cdv A outer s H vs Q E hr h => ?_)
  · obtain ⟨a, ns, rfl, _⟩ := h; rfl
  · obtain ⟨a, ns, rfl, hS, hn, k⟩ := h
    refine ⟨_, (pss_cons (ps_set (i := 1) nd rfl (Or.inl rfl) (pe_slice sl_listN (pv 0) po_none (po_some pe_int)))
      (pss_cons (ps_for PassesOwn.never rfl (pi_range1 rfl T.b_range (pa_cons (pe_callB call_len_seq rfl T.b_len bt_len (pa_cons (pv 1) pa_nil)) pa_nil)) (pg_name (i := 2) nd rfl (Or.inl rfl))
        (pss_cons (ps_asg (pe_fn (D__law_rule T) (hr.mono (by decide)) rfl (pa_cons (pe_ix ix_list (pv 1) (pv 2) (fun _ _ => rfl)) pa_nil)) (pg_tup rfl (pgs_cons (pg_name (i := 3) nd rfl (Or.inl rfl)) (pgs_cons (pg_name (i := 4) nd rfl (Or.inl rfl)) pgs_nil))))
      (pss_cons (ps_set (i := 5) nd rfl (Or.inl rfl) (pe_fn (D__law_text T) (hr.mono (by decide)) rfl (pa_cons (pv 3) (pa_cons (pv 4) pa_nil))))
      (pss_cons (ps_set (i := 6) nd rfl (Or.inl rfl) (pe_fn (D_show_rule T) (hr.mono (by decide)) rfl (pa_cons (pe_mkX (wants_nox ⟨rfl, rfl, rfl⟩) (D_Rule_2 T) (hr.mono (by decide)) rfl .nil (pa_cons (pe_callTy call_listN rfl T.b_list bt_list (pa_cons (pv 3) pa_nil)) (pa_cons (pv 4) pa_nil))) pa_nil)))
      (pss_cons (ps_if (PW.pt (pw_or (pt_not (pt_val (pe_callB call_isi rfl T.b_isinstance bt_isinstance (pa_cons (pv 6) (pa_cons (pe_bltn (v := .ty "str") rfl T.b_str bt_str rfl) pa_nil))))) (pw_or1 (pt_cmpR op_ne (pv 6) (pv 5) (nomark _)))))
        (pss_one (ps_ret pe_bl))
        pss_nil)
      (pss_cons (ps_set (i := 7) nd rfl (Or.inl rfl) (pe_fnX (wants_nox ⟨rfl, rfl, rfl⟩) (D_read_rule T) (hr.mono (by decide)) rfl .nil (pa_cons (pv 5) pa_nil)))
      (pss_cons (ps_if (PW.pt (pw_or (pt_not (pt_val (pe_callB call_isiO rfl T.b_isinstance bt_isinstance (pa_cons (pv 7) (pa_cons (pe_glob (v := .ref C_Rule) rfl T.mg_Rule rfl) pa_nil))))) (pw_or (pt_cmpR (op_neD hr.units) (pe_mt0 (pv 7) T.cl_Rule (D_Rule_steps T) (hr.mono (by decide))) (pv 3) (nomark _)) (pw_or1 (pt_cmpR op_ne (pe_mt0 (pv 7) T.cl_Rule (D_Rule_gone T) (hr.mono (by decide))) (pv 4) (nomark _))))))
        (pss_one (ps_ret pe_bl))
        pss_nil)
      (pss_cons (ps_if (pt_not (pt_val (pe_fn (D__law_refused T) (hr.mono (by decide)) rfl (pa_cons (pe_fn (D__law_spoilt T) (hr.mono (by decide)) rfl (pa_cons (pv 5) (pa_cons (pv 3) (pa_cons (pe_op op_fdiv (pe_ix ix_list (pv 1) (pe_op op_sub (pv 2) pe_int) (fun _ _ => rfl)) pe_int) pa_nil)))) pa_nil))))
        (pss_one (ps_ret pe_bl))
        pss_nil)
      (pss_one (ps_if (pt_not (pt_val (pe_fn (D__law_refused T) (hr.mono (by decide)) rfl (pa_cons (pe_fn (D__law_no_rule T) (hr.mono (by decide)) rfl (pa_cons (pv 3) (pa_cons (pv 4) (pa_cons (pe_op op_fdiv (pe_ix ix_list (pv 1) (pe_op op_sub (pv 2) pe_int) (fun _ _ => rfl)) pe_int) pa_nil)))) pa_nil))))
        (pss_one (ps_ret pe_bl))
        pss_nil))))))))))
      (pss_one (ps_ret (pe_cmpR op_isN (pe_mt0 (pe_fnX (wants_nox ⟨rfl, rfl, rfl⟩) (D_read_rule T) (hr.mono (by decide)) rfl .nil (pa_cons pe_str pa_nil)) T.cl_Rule (D_Rule_gone T) (hr.mono (by decide))) pe_non (nomark _)))))), ?_⟩
    refine ⟨_, rfl, _, rfl, a, _, rfl, hS, fun c H1 n1 => ?_⟩
    obtain ⟨ms, ec, hm⟩ := cut20t ns hn
    rw [ec] at n1
    walk_at "r"
    refine for_range (n := (ms.map V.int).length) (fun i σ H2 => H2 c = some (.lst (ms.map V.int)) ∧ ∃ v2 v3 v4 v5 v6 v7, σ = [some (.ref a), some (.ref c), v2, v3, v4, v5, v6, v7]) ⟨n1.at_, _, _, _, _, _, _, rfl⟩ ?_ ?_
    · rintro i σ H2 hi ⟨hc, v2, v3, v4, v5, v6, v7, rfl⟩
      rw [List.length_map] at hi
      rw [Int.zero_add]
      have hmi : (ms.map V.int)[i]? = some (V.int ms[i]) := by simp [hi]
      generalize ms[i] = m at hmi
      obtain ⟨m', hm'⟩ := at_prev hi
      have sz := sz_of m
      have ok : RuleOk (stepsOf m) (goneOf m) := ⟨good_of m, gone_last m⟩
      have sm := smr_of sz (by have := ok.1.hi; omega)
      have ne : stepsOf m ≠ [] := fun e => by have := ok.1.lo; rw [e] at this; simp at this
      have hi5 := ok.1.hi
      refine gname_ (nrm82 (σ' := [some (.ref a), some (.ref c), some (.int (i : Int)), v3, v4, v5, v6, v7]) rfl ?_)
      refine ⟨_, rfl, _, rfl, c, _, _, _, rfl, rfl, SqL.of hc, atI_nat hmi, m, rfl, fun t l xs H3 s3 f3 ht hl hp => ?_⟩
      refine ⟨t, _, rfl, SqT.of ht, rfl, _, _, rfl, _, _, rfl, rfl, ?_⟩
      generalize stepsOf m = ps at sz ok sm ne hi5 hp
      generalize goneOf m = g at sz ok sm ht
      refine nrm82 (σ' := [some (.ref a), some (.ref c), some (.int (i : Int)), some (.ref l), some (gv g), v5, v6, v7]) rfl ?_
      refine ⟨_, rfl, _, rfl, l, ps, g, xs, rfl, hl, hp, sm, fun H4 s4 => gname_ ?_⟩
      refine nrm82 (σ' := [some (.ref a), some (.ref c), some (.int (i : Int)), some (.ref l), some (gv g), some (.str (S (TX.textR ps g))), v6, v7]) rfl ?_
      have hl4 := s4 _ _ hl
      have hp4 := hp.same s4
      refine ⟨_, rfl, l, xs, rfl, .inl (SqL.of hl4), fun l2 H5 n5 => ?_⟩
      refine ⟨_, rfl, fun r dx H6 s6 f6 h6 => ?_⟩
      refine ⟨r, dx, l2, xs, ps, g, rfl, h6, s6 _ _ n5.at_, (hp4.same n5.same).same s6, by omega, fun _ l3 H7 f7 R7 b7 => ⟨rfl, ?_⟩, fun no => absurd ok no⟩
      have s57 : Same H5 H7 := b7.same s6 f6
      refine ⟨r, l3, ps, g, rfl, R7, sm, fun H8 s8 => gname_ ?_⟩
      refine nrm82 (σ' := [some (.ref a), some (.ref c), some (.int (i : Int)), some (.ref l), some (gv g), some (.str (S (TX.textR ps g))), some (.str (S (TX.textR ps g))), v7]) rfl ?_
      have s48 : Same H4 H8 := n5.same.trans (s57.trans s8)
      have s28 : Same H2 H8 := s3.trans (s4.trans s48)
      refine ⟨_, rfl, _, _, _, _, rfl, .str _, kit_str K, _, rfl, iteF ?_⟩
      refine ⟨_, rfl, _, rfl, rfl, _, rfl, ?_⟩
      rw [show (!decide (V.str (S (TX.textR ps g)) = V.str (S (TX.textR ps g)))) = false by simp]
      refine iteF ?_
      refine ⟨_, rfl, _, rfl, tw_text ne sm, fun x' ex' _ r2 l4 H9 R9 s9 => gname_ ?_, fun bad => ?_⟩
      case refine_2 =>
        rcases bad with bad | ⟨y, ey, bad⟩
        · rcases bad with h | ⟨_, h⟩ | ⟨_, h⟩ | ⟨_, _, h, _⟩ | ⟨_, _, h, _⟩ <;> cases h
        · obtain rfl := S_inj (V.str.inj ey)
          exact absurd (ok_text ne sm ok) bad
      obtain rfl := S_inj (V.str.inj ex')
      obtain ⟨e1, e2⟩ := back_text (g := g) ne
      rw [e1, e2] at R9
      refine nrm82 (σ' := [some (.ref a), some (.ref c), some (.int (i : Int)), some (.ref l), some (gv g), some (.str (S (TX.textR ps g))), some (.str (S (TX.textR ps g))), some (.ref r2)]) rfl ?_
      obtain ⟨ys, hl9, hp9⟩ := R9.ls
      obtain ⟨dx9, ob9⟩ := R9.ob
      have s29 : Same H2 H9 := s28.trans s9
      have s49 : Same H4 H9 := s48.trans s9
      refine ⟨_, rfl, _, C_Rule, _, _, rfl, T.ik_Rule.ty ob9, T.is_Rule_Rule, _, rfl, iteF ?_⟩
      refine ⟨_, rfl, r2, dx9, _, rfl, ob9, rf_nsteps _ _, r2, l4, ps, g, ys, rfl, R9, hl9, fun l5 H10 n10 => ?_⟩
      have s4x : Same H4 H10 := s49.trans n10.same
      have lx := s4x _ _ hl4
      have px := hp4.same s4x
      refine ⟨_, rfl, dPairs ps, dPairs ps, (hp9.same n10.same).rep n10.at_, px.rep lx, lay_pairs _, lay_pairs _, dep_pairs _, _, rfl, ?_⟩
      rw [if_pos rfl, PySem.SeqAt.eqv_refl _ (lay_pairs _)]
      refine iteF ?_
      have cx := (s29.trans n10.same) _ _ hc
      refine ⟨_, rfl, r2, dx9, _, rfl, n10.same _ _ ob9, rf_ngone _ _, r2, l4, ps, g, rfl, R9.same n10.same, _, rfl, by cases g <;> rfl, _, rfl, ?_⟩
      rw [show (!decide (gv g = gv g)) = false by simp]
      refine iteF ?_
      refine ⟨_, rfl, _, rfl, _, rfl, _, rfl, _, _, rfl, rfl, c, _, _, _, rfl, rfl, SqL.of cx, hm', _, _, rfl, rfl, ⟨by decide, by decide⟩, l, ps, g, xs, _, rfl, lx, px, sm, ne, fun v H11 s11 bad => ?_⟩
      refine ⟨v, rfl, bad.both.1, bad.both.2, fun H12 s12 => ⟨_, rfl, iteF ?_⟩⟩
      have sy := s11.trans s12
      refine ⟨_, rfl, _, rfl, _, rfl, _, rfl, _, _, rfl, rfl, c, _, _, _, rfl, rfl, SqL.of (sy _ _ cx), hm', _, _, rfl, rfl, ⟨by decide, by decide⟩, l, ps, g, xs, _, rfl, sy _ _ lx, px.same sy, ok, sz, fun v H13 s13 bad => ?_⟩
      refine ⟨v, rfl, bad.both.1, bad.both.2, fun H14 s14 => ⟨_, rfl, iteF ?_⟩⟩
      exact ⟨(s13.trans s14) _ _ (sy _ _ cx), _, _, _, _, _, _, rfl⟩
    · rintro σ H2 ⟨hc, v2, v3, v4, v5, v6, v7, rfl⟩
      rw [w_01]
      have ne : [((0 : Int), (1 : Int))] ≠ [] := by decide
      refine ⟨_, rfl, tw_text ne sm01, fun x' ex' _ r2 l4 H9 R9 s9 => ?_, fun bad => ?_⟩
      case refine_2 =>
        rcases bad with bad | ⟨y, ey, bad⟩
        · rcases bad with h | ⟨_, h⟩ | ⟨_, h⟩ | ⟨_, _, h, _⟩ | ⟨_, _, h, _⟩ <;> cases h
        · obtain rfl := S_inj (V.str.inj ey)
          exact absurd (ok_text ne sm01 rule01) bad
      obtain rfl := S_inj (V.str.inj ex')
      obtain ⟨e1, e2⟩ := back_text (g := none) ne
      rw [e1, e2] at R9
      obtain ⟨dx9, ob9⟩ := R9.ob
      refine ⟨r2, dx9, _, rfl, ob9, rf_ngone _ _, r2, l4, _, none, rfl, R9, rfl, ?_⟩
      exact k _
end
theorem walk {l : PySem.W.OpenLaw} {q : Program} {loose : List Str} {XP : (Str → Option Value) → Heap → Prop} {YP : World → Heap → Prop} {d : DefRec} {K : Params → PySem.W.Frag} (hn : l.most = some 63) (hdf : d.params.defaults = []) (hdn : d.name = "law")
    (hY : ∀ (w : World) (h : Heap), YP w h → (K w.params).In h)
    (F : ∀ (w : World) (mg : Str → Option Value) (h : Heap), (K w.params).In h → h.Ns mainGlobals mg → ∃ C_Rule C_BookError C_NoNumber C_NoRule C_NoText, Txt (K w.params) mg C_Rule C_BookError C_NoNumber C_NoRule C_NoText) :
    PySem.W.WalkO q loose XP YP l.row.toRowW d [] (fun f vs => PySem.call f vs) := by
  refine L2.walk_of (n := 63) (k := 10) (x := "_law_script") (CX := fun _ => CX0) (sp := fun w => sp_law (K w.params)) hn (by decide) hdf ⟨rfl, by decide, by decide⟩ hY (fun w mg fa h kin ns hm => ?_) (fun _ _ a ns hl _ hS => ⟨a, ns, rfl, hS, hl, fun _ => rfl⟩) fun _ _ _ _ _ z => z
  obtain ⟨C_Rule, C_BookError, C_NoNumber, C_NoRule, C_NoText, T⟩ := F w mg h kin ns
  obtain ⟨f, fd, Fu, hm'⟩ := T.f_law
  rw [hdn, hm'] at hm
  cases hm
  refine ⟨fd, ?_, fun base kb nb => G_law T Fu⟩
  obtain ⟨oc, od, kV, doc, pm, an, cdv, ct, osl, rfl, lk, hcd⟩ := Fu.ex
  exact fun s u => .of_eq rfl
end TB
open PySem PySem.W PyProof.Rows
set_option maxRecDepth 100000 in
set_option maxHeartbeats 0 in
theorem PySem.Challenge.cw_thinbook_k82_rules_written_holds : PySem.Challenge.rw_thinbook_k82_rules_written.Holds := by
  w_on; o_law; k_head; (case hw => w_witness2)
  k_fill
  refine TB.walk (l := PySem.Challenge.rw_thinbook_k82_rules_written) rfl rfl rfl (fun w h Y => PySem.W.kIn_of Y) ?F
  case F =>
    intro w mg h KX G
    refine' TB.txt_mk KX G ?aCRule ?xCNoText ?a0 ?l0 ?c0 ?k0 ?a1 ?l1 ?c1 ?k1 ?a2 ?l2 ?c2 ?k2 ?a3 ?l3 ?c3 ?k3 ?a4 ?l4 ?c4 ?k4 ?a5 ?l5 ?c5 ?k5 ?a6 ?i6 ?l6 ?c6 ?k6 ?d6 ?a7 ?i7 ?l7 ?c7 ?k7 ?a8 ?i8 ?l8 ?c8 ?k8 ?a9 ?l9 ?c9 ?k9 ?a10 ?l10 ?c10 ?k10 ?a11 ?l11 ?c11 ?k11 ?a12 ?l12 ?c12 ?k12 ?a13 ?l13 ?c13 ?k13 ?a14 ?l14 ?c14 ?k14 ?a15 ?l15 ?c15 ?k15 ?a16 ?l16 ?c16 ?k16 ?a17 ?l17 ?c17 ?k17 ?a18 ?l18 ?c18 ?k18 ?a19 ?l19 ?c19 ?k19 ?a20 ?l20 ?c20 ?k20 ?a21 ?l21 ?c21 ?k21 ?a22 ?l22 ?c22 ?k22 ?a23 ?l23 ?c23 ?k23 ?a24 ?i24 ?xi24 ?xh24 ?xs24 ?xn24 ?l24 ?c24 ?k24 ?pgRule ?hdRule ?poRule ?saRule ?mkRule ?kcRule ?icRule ?imRule ?nRule_kept_steps ?nRule_gone_age ?xBo0 ?xBo1 ?xIRule_Rule ?xCBookError ?xCNoNumber ?xCNoRule ?xEBookError ?xKBookError0 ?xKBookError1 ?xKBookError2 ?xKBookError3 ?xKBookError4 ?xKBookError5 ?xHBookError_BookError ?xIBookError_BookError ?xIBookError_NoNumber ?xIBookError_NoRule ?xIBookError_NoText ?xVBookError ?xENoNumber ?xKNoNumber0 ?xKNoNumber1 ?xKNoNumber2 ?xKNoNumber3 ?xKNoNumber4 ?xKNoNumber5 ?xHNoNumber_BookError ?xINoNumber_BookError ?xHNoNumber_NoNumber ?xINoNumber_NoNumber ?xINoNumber_NoRule ?xINoNumber_NoText ?xVNoNumber ?xENoRule ?xKNoRule0 ?xKNoRule1 ?xKNoRule2 ?xKNoRule3 ?xKNoRule4 ?xKNoRule5 ?xHNoRule_BookError ?xINoRule_BookError ?xINoRule_NoNumber ?xHNoRule_NoRule ?xINoRule_NoRule ?xINoRule_NoText ?xVNoRule ?xKNoText0 ?xKNoText1 ?xKNoText2 ?xKNoText3 ?xKNoText4 ?xKNoText5 ?xHNoText_BookError ?xINoText_BookError ?xINoText_NoNumber ?xINoText_NoRule ?xHNoText_NoText ?xINoText_NoText ?xVNoText ?xBBookError0 ?xBBookError1 ?xBBookError2 ?z_all ?z_bool ?z_int ?z_isinstance ?z_len ?z_list ?z_range ?z_str ?z_tuple ?z_zip ?y_MOST_STEPS ?y_FIGURES ?y_MOST_FIGURES
    (case aCRule | xCNoText | a0 | l0 | c0 | k0 | a1 | l1 | c1 | k1 | a2 | l2 | c2 | k2 | a3 | l3 | c3 | k3 | a4 | l4 | c4 | k4 | a5 | l5 | c5 | k5 | a6 | i6 | l6 | c6 | k6 | d6 | a7 | i7 | l7 | c7 | k7 | a8 | i8 | l8 | c8 | k8 | a9 | l9 | c9 | k9 | a10 | l10 | c10 | k10 | a11 | l11 | c11 | k11 | a12 | l12 | c12 | k12 | a13 | l13 | c13 | k13 | a14 | l14 | c14 | k14 | a15 | l15 | c15 | k15 | a16 | l16 | c16 | k16 | a17 | l17 | c17 | k17 | a18 | l18 | c18 | k18 | a19 | l19 | c19 | k19 | a20 | l20 | c20 | k20 | a21 | l21 | c21 | k21 | a22 | l22 | c22 | k22 | a23 | l23 | c23 | k23 | a24 | i24 | xh24 | xs24 | xn24 | l24 | c24 | k24 | pgRule | hdRule | poRule | saRule | mkRule | kcRule | icRule | imRule | nRule_kept_steps | nRule_gone_age | xCBookError | xCNoNumber | xCNoRule | xKBookError0 | xKBookError1 | xKBookError2 | xKBookError3 | xKBookError4 | xHBookError_BookError | xKNoNumber0 | xKNoNumber1 | xKNoNumber2 | xKNoNumber3 | xKNoNumber4 | xHNoNumber_BookError | xHNoNumber_NoNumber | xKNoRule0 | xKNoRule1 | xKNoRule2 | xKNoRule3 | xKNoRule4 | xHNoRule_BookError | xHNoRule_NoRule | xKNoText0 | xKNoText1 | xKNoText2 | xKNoText3 | xKNoText4 | xHNoText_BookError | xHNoText_NoText | z_all | z_bool | z_int | z_isinstance | z_len | z_list | z_range | z_str | z_tuple | z_zip | y_MOST_STEPS | y_FIGURES | y_MOST_FIGURES => k_is)
    (case xi24 | xBo0 | xBo1 | xBBookError0 | xBBookError1 | xBBookError2 => kernel_rfl)
    (case xIRule_Rule | xIBookError_BookError | xIBookError_NoNumber | xIBookError_NoRule | xIBookError_NoText | xVBookError | xINoNumber_BookError | xINoNumber_NoNumber | xINoNumber_NoRule | xINoNumber_NoText | xVNoNumber | xINoRule_BookError | xINoRule_NoNumber | xINoRule_NoRule | xINoRule_NoText | xVNoRule | xINoText_BookError | xINoText_NoNumber | xINoText_NoRule | xINoText_NoText | xVNoText => kit_is)
    (case xEBookError | xENoNumber | xENoRule => k_exc)
    (case xKBookError5 | xKNoNumber5 | xKNoRule5 | xKNoText5 => kts_isx)
