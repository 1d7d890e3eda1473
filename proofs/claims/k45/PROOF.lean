import PyProof.Rows.All
import Wide.All
import OpenK.AllK
import Wide.FinOn
import Lean
import PyProof.EqAt
import PyProof.EqKinds
import PyProof.TupleCall
import PySem.Challenge.RW_thinbook_k45_both_ends_are_reached
set_option Elab.async false
set_option linter.all false
set_option maxRecDepth 100000
namespace L2
open PySem PySem.Spec PyProof.Rows
abbrev Key := Sum Int Str
def keyIs : Key → Value → Bool
  | .inl k, v => Value.isInt k v
  | .inr x, v => Value.isStrOf x v
def keyH (w : World) : Key → Int
  | .inl k => hashInt k
  | .inr x => hashStr w x
theorem keyIs_shape : ∀ {k : Key} {v : Value}, keyIs k v = true → (∃ i t, k = Sum.inl i ∧ v = Value.int i t) ∨ (∃ x t, k = Sum.inr x ∧ v = Value.str x t)
  | .inl i, v, h => by
    obtain ⟨t, e⟩ := Value.isInt_shape (k := i) (v := v) h
    exact .inl ⟨i, t, rfl, e⟩
  | .inr x, v, h => by
    obtain ⟨t, e⟩ := Value.isStrOf_shape (x := x) (v := v) h
    exact .inr ⟨x, t, rfl, e⟩
theorem keyIs_int (i : Int) (t : Tok) : keyIs (.inl i) (.int i t) = true := by simp [keyIs, Value.isInt]
theorem keyIs_str (x : Str) (t : Tok) : keyIs (.inr x) (.str x t) = true := by simp [keyIs, Value.isStrOf]
theorem key_ll (a b : Int) : decide ((Sum.inl a : Key) = Sum.inl b) = (a == b) := by
  by_cases e : a = b
  · subst e; simp
  · have h : ¬ (Sum.inl a : Key) = Sum.inl b := fun q => e (Sum.inl.inj q)
    rw [decide_eq_false h]
    exact (beq_eq_false_iff_ne.mpr e).symm
theorem key_rr (a b : Str) : decide ((Sum.inr a : Key) = Sum.inr b) = decide (a = b) := by
  by_cases e : a = b
  · subst e; simp
  · have h : ¬ (Sum.inr a : Key) = Sum.inr b := fun q => e (Sum.inr.inj q)
    rw [decide_eq_false h, decide_eq_false e]
theorem key_lr (a : Int) (b : Str) : decide ((Sum.inl a : Key) = Sum.inr b) = false := decide_eq_false (fun q => nomatch q)
theorem key_rl (a : Str) (b : Int) : decide ((Sum.inr a : Key) = Sum.inl b) = false := decide_eq_false (fun q => nomatch q)
def mixKind (prog : Program) (w : World) : PySem.KeyKind prog w Key where
  is := keyIs
  hash := keyH w
  inj := fun v a b ha hb => by
    rcases keyIs_shape ha with ⟨i, t, rfl, rfl⟩ | ⟨x, t, rfl, rfl⟩
    · rcases keyIs_shape hb with ⟨j, u, rfl, e⟩ | ⟨y, u, rfl, e⟩
      · injection e with e1 _; rw [e1]
      · exact nomatch e
    · rcases keyIs_shape hb with ⟨j, u, rfl, e⟩ | ⟨y, u, rfl, e⟩
      · exact nomatch e
      · injection e with e1 _; rw [e1]
  byValue := fun k v h => by
    rcases keyIs_shape h with ⟨i, t, rfl, rfl⟩ | ⟨x, t, rfl, rfl⟩ <;> rfl
  pyHash := fun hv h => by
    rcases keyIs_shape hv with ⟨i, t, rfl, rfl⟩ | ⟨x, t, rfl, rfl⟩
    · exact wpAny_pyHash_int h
    · exact wpAny_pyHash_str h
  eqBool := fun hu hv h => by
    rcases keyIs_shape hu with ⟨i, t, rfl, rfl⟩ | ⟨x, t, rfl, rfl⟩
    · rcases keyIs_shape hv with ⟨j, u, rfl, rfl⟩ | ⟨y, u, rfl, rfl⟩
      · rw [key_ll] at h; exact wpAny_eqBool_int h
      · rw [key_lr] at h; exact SeqAt.EqAt.int_str i t y u _ _ _ _ h
    · rcases keyIs_shape hv with ⟨j, u, rfl, rfl⟩ | ⟨y, u, rfl, rfl⟩
      · rw [key_rl] at h; exact SeqAt.EqAt.str_int x t j u _ _ _ _ h
      · rw [key_rr] at h; exact wpAny_eqBool_str h
  «strs» := fun k x t v h => by
    rcases keyIs_shape h with ⟨i, u, rfl, e⟩ | ⟨y, u, rfl, e⟩
    · exact nomatch e
    · injection e with e1 _
      subst e1
      cases v <;> rfl
theorem mixKind_int (prog : Program) (w : World) (i : Int) (t : Tok) : (mixKind prog w).is (.inl i) (.int i t) = true := keyIs_int i t
theorem mixKind_str (prog : Program) (w : World) (x : Str) (t : Tok) : (mixKind prog w).is (.inr x) (.str x t) = true := keyIs_str x t
end L2
namespace L2
open PySem PySem.Spec PyProof.Rows
inductive V where
  | non | bl (b : Bool) | int (i : Int) | str (x : Str) | byt (b : Array UInt8) | flt (b : UInt64) | ref (a : Addr) | ty (n : String)
  deriving DecidableEq
def RelV : V → Value → Prop
  | .non, u => u = Value.none
  | .bl b, u => u = Value.bool b
  | .int i, u => ∃ t, u = Value.int i t
  | .str x, u => ∃ t, u = Value.str x t
  | .byt b, u => ∃ t, u = Value.bytes b t
  | .flt b, u => ∃ t, u = Value.float b t
  | .ref a, u => u = Value.ref a
  | .ty n, u => u = Value.type n
abbrev Vals : List V → List Value → Prop := Paired RelV
theorem Vals.length {xs : List V} {us : List Value} (r : Vals xs us) : xs.length = us.length := Paired.length r
theorem Vals.get : ∀ {xs : List V} {us : List Value} {i : Nat} {x : V}, Vals xs us → xs[i]? = some x → ∃ u, us[i]? = some u ∧ RelV x u
  | _, _, _, _, .nil, e => by simp at e
  | _, _, 0, _, .cons r _, e => by simp at e; subst e; exact ⟨_, rfl, r⟩
  | _, _, i + 1, x, .cons _ t, e => by
    obtain ⟨u, h1, h2⟩ := Vals.get (i := i) (x := x) t (by simpa using e)
    exact ⟨u, by simpa using h1, h2⟩
theorem Vals.set {x : V} {u : Value} (r : RelV x u) : ∀ {xs : List V} {us : List Value} (i : Nat), Vals xs us → Vals (xs.set i x) (us.set i u)
  | _, _, _, .nil => .nil
  | _, _, 0, .cons _ t => .cons r t
  | _, _, i + 1, .cons q t => .cons q (Vals.set r i t)
theorem Vals.append : ∀ {xs ys : List V} {us ws : List Value}, Vals xs us → Vals ys ws → Vals (xs ++ ys) (us ++ ws)
  | _, _, _, _, .nil, s => s
  | _, _, _, _, .cons r t, s => .cons r (Vals.append t s)
theorem Vals.take : ∀ {xs : List V} {us : List Value} (n : Nat), Vals xs us → Vals (xs.take n) (us.take n)
  | _, _, 0, _ => .nil
  | _, _, _ + 1, .nil => .nil
  | _, _, n + 1, .cons r t => .cons r (Vals.take n t)
theorem Vals.drop : ∀ {xs : List V} {us : List Value} (n : Nat), Vals xs us → Vals (xs.drop n) (us.drop n)
  | _, _, 0, r => r
  | _, _, _ + 1, .nil => .nil
  | _, _, n + 1, .cons _ t => Vals.drop n t
theorem Vals.none_of : ∀ {xs : List V} {us : List Value} {i : Nat}, Vals xs us → xs[i]? = none → us[i]? = none := fun {xs us i} r e => by
  have h1 := r.length
  have h2 : xs.length ≤ i := List.getElem?_eq_none_iff.mp e
  exact List.getElem?_eq_none_iff.mpr (by omega)
def RelO : Option V → Option Value → Prop
  | some v, some u => RelV v u
  | none, none => True
  | _, _ => False
def KV {κ : Type} : List (κ × V) → List (κ × Value) → Prop := Paired fun (p : κ × V) (q : κ × Value) => p.1 = q.1 ∧ RelV p.2 q.2
def kV : Key → V
  | .inl i => .int i
  | .inr x => .str x
inductive HO where
  | lst (xs : List V)
  | tup (xs : List V)
  | dK (kvs : List (Key × V)) | dT (kvs : List (List Key × V))
  | set (S : Int → Bool) (n : Nat)
  | ins (C dx : Addr) (fs : List (Str × V))
  | own (x : Addr)
  | xd (fs : List (Str × V))
  | met (f x : Addr)
  | rng (lo hi : Int)
  | frz (o : Obj) (u : HO)
  | tbl (ps : Array Value)
  | ext (φ : Heap → Prop)
abbrev Hp := Addr → Option HO
def upd (H : Hp) (a : Addr) (o : HO) : Hp := fun b => if b = a then some o else H b
theorem upd_same {H : Hp} {a : Addr} {o : HO} : upd H a o a = some o := by unfold upd; rw [if_pos rfl]
theorem upd_ne {H : Hp} {a b : Addr} {o : HO} (h : b ≠ a) : upd H a o b = H b := by unfold upd; rw [if_neg h]
theorem ne_of {H : Hp} {a b : Addr} {o u : HO} (h : H a = some o) (h' : H b = some u) (d : o ≠ u) : a ≠ b := by
  intro e; subst e; rw [h] at h'; exact d (Option.some.inj h')
theorem ne_of_none {H : Hp} {a b : Addr} {o : HO} (h : H a = some o) (h' : H b = none) : a ≠ b := by
  intro e; subst e; rw [h] at h'; cases h'
section
variable (P : Program) (w : World)
def ObjOk (H : Hp) (h : Heap) (a : Addr) : HO → Prop
  | .lst xs => xs.length ≤ sizeLine ∧ ∃ (its : List Value) (n : Nat), Vals xs its ∧ h.get? a = some { cls := .type "list", data := .seq its.toArray n }
  | .tup xs => xs.length ≤ sizeLine ∧ ∃ its : List Value, Vals xs its ∧ IsTup h a its.toArray
  | .dK kvs => kvs.length ≤ sizeLine ∧ (a == sysModules) = false ∧ ∃ vs, KV kvs vs ∧ h.DictOf (mixKind P w) a vs
  | .dT kvs => kvs.length ≤ sizeLine ∧ (a == sysModules) = false ∧ ∃ xs : List (List Key × Addr × Value),
      Paired (fun (p : List Key × V) (q : List Key × Addr × Value) => p.1 = q.1 ∧ H q.2.1 = some (.tup (p.1.map kV)) ∧ RelV p.2 q.2.2) kvs xs ∧
      ∃ o es ep, h.get? a = some o ∧ o.ExactDict ∧ o.data = .dict es ep ∧ es.toList = xs.map (entryOfKey (tupleKind (mixKind P w))) ∧ (xs.map (·.1)).Nodup
  | .set S n => h.SetOf (intKind P w) a S n
  | .ins C dx fs => H dx = some (.own a) ∧ fs.length ≤ 1000 ∧ dx ≠ a ∧ h.get? a = some (PySem.W.instObj C dx) ∧
      ∃ mA, h.Ns1 dx mA ∧ (∀ f, RelO (fs.lookup f) (mA f)) ∧ PySem.Within mA (fs.map (·.1))
  | .own _ => ∃ o, h.get? a = some o
  | .xd fs => ∃ mA, h.Ns1 a mA ∧ ∀ f, RelO (fs.lookup f) (mA f)
  | .rng lo hi => ∃ t u v, h.get? a = some { cls := .type "range", data := .fields #[.int lo t, .int hi u, .int 1 v] }
  | .frz o u => h.get? a = some o ∧ ObjOk H h a u
  | .tbl ps => h.get? a = some { cls := .none, data := .fields ps }
  | .met f x => h.get? a = some (PySem.W.methodObj (.ref f) (.ref x))
  | .ext φ => φ h ∧ (∃ o, h.get? a = some o) ∧ ∀ h1 h2 : Heap, φ h1 → (∀ o, h1.get? a = some o → h2.get? a = some o) → φ h2
def HOk (H : Hp) (h : Heap) : Prop := ∀ a o, H a = some o → ObjOk P w H h a o
end
section
variable {P : Program} {w : World} {H H' : Hp} {h h' : Heap} {a : Addr} {o : HO}
theorem ObjOk.lt (x : ObjOk P w H h a o) : a < h.objs.size := by
  cases o with
  | lst xs => obtain ⟨_, _, _, _, e⟩ := x; exact Heap.lt_size e
  | tup xs => obtain ⟨_, _, _, p⟩ := x; exact p.lt
  | dK kvs => obtain ⟨_, _, _, _, o, _, _, e, _⟩ := x; exact Heap.lt_size e
  | dT kvs => obtain ⟨_, _, _, _, o, _, _, e, _⟩ := x; exact Heap.lt_size e
  | set S n => obtain ⟨o, _, _, _, e, _⟩ := x; exact Heap.lt_size e
  | ins C dx fs => obtain ⟨_, _, _, e, _⟩ := x; exact Heap.lt_size e
  | own y => obtain ⟨_, e⟩ := x; exact Heap.lt_size e
  | xd fs => obtain ⟨_, ⟨_, _, _, e, _⟩, _⟩ := x; exact Heap.lt_size e
  | rng lo hi => obtain ⟨_, _, _, e⟩ := x; exact Heap.lt_size e
  | frz ob u => obtain ⟨e, _⟩ := x; exact Heap.lt_size e
  | tbl ps => exact Heap.lt_size (show h.get? a = some _ from x)
  | met f y => exact Heap.lt_size (show h.get? a = some _ from x)
  | ext φ => obtain ⟨_, ⟨_, e⟩, _⟩ := x; exact Heap.lt_size e
theorem Paired.mapP {α β : Type} {F G : α → β → Prop} : ∀ {l₁ : List α} {l₂ : List β}, Paired F l₁ l₂ → (∀ a b, F a b → G a b) → Paired G l₁ l₂
  | _, _, .nil, _ => .nil
  | _, _, .cons r t, f => .cons (f _ _ r) (Paired.mapP t f)
theorem ObjOk.stay (x : ObjOk P w H h a o) (k : ∀ b u, (b = a ∨ H b = some (.own a)) → h.get? b = some u → h'.get? b = some u)
    (ho : ∀ b, H b = some (.own a) → H' b = some (.own a)) (ht : ∀ b xs, H b = some (.tup xs) → H' b = some (.tup xs)) : ObjOk P w H' h' a o := by
  induction o with
  | lst xs => obtain ⟨z, its, n, r, e⟩ := x; exact ⟨z, its, n, r, k _ _ (.inl rfl) e⟩
  | tup xs => obtain ⟨z, its, r, ob, e, c⟩ := x; exact ⟨z, its, r, ob, k _ _ (.inl rfl) e, c⟩
  | dK kvs => obtain ⟨z, y, vs, r, ob, es, ep, e, c⟩ := x; exact ⟨z, y, vs, r, ob, es, ep, k _ _ (.inl rfl) e, c⟩
  | dT kvs =>
    obtain ⟨z, y, xs, r, ob, es, ep, e, c⟩ := x
    exact ⟨z, y, xs, Paired.mapP r fun p q z => ⟨z.1, ht _ _ z.2.1, z.2.2⟩, ob, es, ep, k _ _ (.inl rfl) e, c⟩
  | set S n => obtain ⟨ob, es, ep, t, e, c⟩ := x; exact ⟨ob, es, ep, t, k _ _ (.inl rfl) e, c⟩
  | ins C dx fs =>
    obtain ⟨d, z, ne, e, mA, ⟨od, es, ep, e2, c⟩, r⟩ := x
    exact ⟨ho _ d, z, ne, k _ _ (.inl rfl) e, mA, ⟨od, es, ep, k _ _ (.inr d) e2, c⟩, r⟩
  | own y => obtain ⟨ob, e⟩ := x; exact ⟨ob, k _ _ (.inl rfl) e⟩
  | xd fs => obtain ⟨mA, ⟨od, es, ep, e, c⟩, r⟩ := x; exact ⟨mA, ⟨od, es, ep, k _ _ (.inl rfl) e, c⟩, r⟩
  | rng lo hi => obtain ⟨t, u, v, e⟩ := x; exact ⟨t, u, v, k _ _ (.inl rfl) e⟩
  | frz ob u ih => obtain ⟨e, q⟩ := x; exact ⟨k _ _ (.inl rfl) e, ih q⟩
  | tbl ps =>
    have e : h.get? a = some { cls := .none, data := .fields ps } := x
    show h'.get? a = some { cls := .none, data := .fields ps }
    exact k a _ (.inl rfl) e
  | met f y =>
    have e : h.get? a = some (PySem.W.methodObj (.ref f) (.ref y)) := x
    show h'.get? a = some (PySem.W.methodObj (.ref f) (.ref y))
    exact k a _ (.inl rfl) e
  | ext φ => obtain ⟨p, ⟨o, e⟩, st⟩ := x; exact ⟨st _ _ p fun o q => k _ _ (.inl rfl) q, ⟨o, k _ _ (.inl rfl) e⟩, st⟩
theorem HOk.lt (x : HOk P w H h) (e : H a = some o) : a < h.objs.size := (x a o e).lt
theorem HOk.fresh (x : HOk P w H h) (e : h.objs.size ≤ a) : H a = none := by
  cases q : H a with
  | none => rfl
  | some u => exact absurd (Nat.lt_of_lt_of_le (x.lt q) e) (Nat.lt_irrefl _)
theorem HOk.kept (x : HOk P w H h) (k : ∀ b u, h.get? b = some u → h'.get? b = some u) : HOk P w H h' := fun a o e =>
  (x a o e).stay (fun b u _ q => k b u q) (fun _ q => q) fun _ _ q => q
theorem HOk.laid (x : HOk P w H h) (k : ∀ b u, h.get? b = some u → h'.get? b = some u) (hp : h.objs.size ≤ a) (new : ObjOk P w (upd H a o) h' a o) : HOk P w (upd H a o) h' := fun b u e => by
  have hn := x.fresh hp
  by_cases hb : b = a
  · subst hb; rw [upd_same] at e; cases e; exact new
  · rw [upd_ne hb] at e
    exact (x b u e).stay (fun c v _ q => k c v q) (fun c q => by rw [upd_ne (ne_of_none q hn)]; exact q) fun c xs q => by rw [upd_ne (ne_of_none q hn)]; exact q
end
def Rd (H : Hp) (a : Addr) (u : HO) : Prop := H a = some u ∨ ∃ o, H a = some (.frz o u)
theorem Rd.of {H : Hp} {a : Addr} {u : HO} (h : H a = some u) : Rd H a u := .inl h
theorem Rd.ok {P : Program} {w : World} {H : Hp} {h : Heap} {a : Addr} {u : HO} (r : Rd H a u) (x : HOk P w H h) : ObjOk P w H h a u := by
  rcases r with r | ⟨o, r⟩
  · exact x a u r
  · obtain ⟨_, q⟩ := x a _ r
    exact q
def Mut : Option HO → Prop
  | some (.lst _) => True
  | some (.dK _) => True
  | some (.dT _) => True
  | some (.set _ _) => True
  | some (.ins _ _ _) => True
  | some (.ext _) => True
  | _ => False
section
variable {P : Program} {w : World} {H : Hp} {h h' : Heap} {x e : Addr} {o' : HO}
theorem HOk.write (ok : HOk P w H h) (mu : Mut (H x)) (he : e = x ∨ H e = some (.own x)) (k : ∀ b u, b ≠ e → h.get? b = some u → h'.get? b = some u) (heo : ∃ u, h'.get? e = some u)
    (new : ObjOk P w (upd H x o') h' x o') : HOk P w (upd H x o') h' := fun b u q => by
  have nown : ∀ c y, H c = some (.own y) → c ≠ x := fun c y r z => by subst z; rw [r] at mu; exact mu
  have ntup : ∀ c xs, H c = some (.tup xs) → c ≠ x := fun c xs r z => by subst z; rw [r] at mu; exact mu
  by_cases hb : b = x
  · subst hb; rw [upd_same] at q; cases q; exact new
  · rw [upd_ne hb] at q
    by_cases hbe : b = e
    · have q' : H b = some (.own x) := by
        rcases he with z | z
        · exact absurd (hbe.trans z) hb
        · rw [hbe]; exact z
      rw [q] at q'; cases q'
      obtain ⟨v, hv⟩ := heo
      exact ⟨v, by rw [hbe]; exact hv⟩
    · refine (ok b u q).stay (fun c v hc r => k c v ?_ r) (fun c r => by rw [upd_ne (nown c b r)]; exact r) fun c xs r => by rw [upd_ne (ntup c xs r)]; exact r
      rcases hc with rfl | hc
      · exact hbe
      · rintro rfl
        rcases he with z | z
        · exact nown c b hc z
        · rw [hc] at z; cases z; exact hb rfl
end
structure Un (fs ex : List Addr) (H H' : Hp) (h h' : Heap) : Prop where
  keep : ∀ b o, h.get? b = some o → H b = none → b ∉ fs → b ∉ ex → h'.get? b = some o
  slot : ∀ b o, h.get? b = some o → H b = none → b ∈ fs → b ∉ ex → ∃ sl, h'.get? b = some { o with slots := sl }
  free : ∀ b o, h.get? b = some o → H b = none → b ∉ ex → H' b = none
  there : ∀ b o, h.get? b = some o → b ∉ ex → ∃ o', h'.get? b = some o'
  tups : ∀ b xs, H b = some (.tup xs) → H' b = some (.tup xs)
  frzs : ∀ b o u, H b = some (.frz o u) → H' b = some (.frz o u)
  tbls : ∀ b ps, H b = some (.tbl ps) → ∃ more, H' b = some (.tbl (ps ++ more))
section
variable {fs fs' ex ex' : List Addr} {H H1 H2 : Hp} {h h1 h2 h' : Heap} {a x e : Addr} {o : HO}
theorem Un.any (u : Un fs ex H H1 h h1) {b : Addr} {ob : Obj} (q : h.get? b = some ob) (n : H b = none) (hx : b ∉ ex) : ∃ sl, h1.get? b = some { ob with slots := sl } := by
  by_cases hb : b ∈ fs
  · exact u.slot b ob q n hb hx
  · exact ⟨ob.slots, u.keep b ob q n hb hx⟩
theorem Un.trans (a : Un fs ex H H1 h h1) (b : Un fs ex H1 H2 h1 h2) : Un fs ex H H2 h h2 where
  keep := fun c ob q n hc hx => b.keep c ob (a.keep c ob q n hc hx) (a.free c ob q n hx) hc hx
  slot := fun c ob q n hc hx => by
    obtain ⟨sl, e1⟩ := a.slot c ob q n hc hx
    obtain ⟨sl', e2⟩ := b.slot c _ e1 (a.free c ob q n hx) hc hx
    exact ⟨sl', e2⟩
  free := fun c ob q n hx => by
    obtain ⟨o', e1⟩ := a.there c ob q hx
    exact b.free c o' e1 (a.free c ob q n hx) hx
  there := fun c ob q hx => by
    obtain ⟨o', e1⟩ := a.there c ob q hx
    exact b.there c o' e1 hx
  tups := fun c xs q => b.tups c xs (a.tups c xs q)
  frzs := fun c ob xs q => b.frzs c ob xs (a.frzs c ob xs q)
  tbls := fun c ps q => by
    obtain ⟨m1, e1⟩ := a.tbls c ps q
    obtain ⟨m2, e2⟩ := b.tbls c _ e1
    exact ⟨m1 ++ m2, by rw [e2, Array.append_assoc]⟩
theorem Un.kept (k : ∀ b u, h.get? b = some u → h'.get? b = some u) : Un fs ex H H h h' :=
  ⟨fun b ob q _ _ _ => k b ob q, fun b ob q _ _ _ => ⟨ob.slots, k b ob q⟩, fun _ _ _ n _ => n, fun b ob q _ => ⟨ob, k b ob q⟩, fun _ _ q => q, fun _ _ _ q => q, fun _ ps q => ⟨#[], by rw [q]; simp⟩⟩
theorem Un.refl : Un fs ex H H h h := Un.kept fun _ _ q => q
theorem Un.laid (k : ∀ b u, h.get? b = some u → h'.get? b = some u) (hp : h.objs.size ≤ a) (hn : H a = none) : Un fs ex H (upd H a o) h h' where
  keep := fun b u q _ _ _ => k b u q
  slot := fun b u q _ _ _ => ⟨u.slots, k b u q⟩
  free := fun b u q n _ => by rw [upd_ne (Nat.ne_of_lt (Nat.lt_of_lt_of_le (Heap.lt_size q) hp))]; exact n
  there := fun b u q _ => ⟨u, k b u q⟩
  tups := fun b xs q => by rw [upd_ne (ne_of_none q hn)]; exact q
  frzs := fun b u xs q => by rw [upd_ne (ne_of_none q hn)]; exact q
  tbls := fun b ps q => ⟨#[], by rw [upd_ne (ne_of_none q hn), q]; simp⟩
theorem Un.write (mu : Mut (H x)) (he : e = x ∨ H e = some (.own x)) (k : ∀ b u, b ≠ e → h.get? b = some u → h'.get? b = some u) (heo : ∃ u, h'.get? e = some u) : Un fs ex H (upd H x o) h h' := by
  have hx : ∀ b, H b = none → b ≠ x := fun b n z => by subst z; rw [n] at mu; exact mu
  have hb : ∀ b, H b = none → b ≠ e := fun b n z => by
    subst z
    rcases he with r | r
    · exact hx b n r
    · rw [n] at r; cases r
  have hm : ∀ b u, H b = some u → ¬ Mut (some u) → b ≠ x := fun b u q nm z => by subst z; rw [q] at mu; exact nm mu
  refine ⟨fun b u q n _ _ => k b u (hb b n) q, fun b u q n _ _ => ⟨u.slots, k b u (hb b n) q⟩, fun b u q n _ => by rw [upd_ne (hx b n)]; exact n, fun b u q _ => ?_,
    fun b xs q => by rw [upd_ne (hm b _ q fun z => z)]; exact q, fun b u xs q => by rw [upd_ne (hm b _ q fun z => z)]; exact q, fun b ps q => ⟨#[], by rw [upd_ne (hm b _ q fun z => z), q]; simp⟩⟩
  by_cases hbe : b = e
  · subst hbe; exact heo
  · exact ⟨u, k b u hbe q⟩
theorem Un.mono (u : Un fs ex H H1 h h1) (hs : ∀ b ∈ fs, b ∈ fs') (hx : ∀ b ∈ ex, b ∈ ex') : Un fs' ex' H H1 h h1 :=
  ⟨fun b ob q n hb he => u.keep b ob q n (fun z => hb (hs b z)) fun z => he (hx b z), fun _ _ q n _ he => u.any q n fun z => he (hx _ z), fun b ob q n he => u.free b ob q n fun z => he (hx b z), fun b ob q he => u.there b ob q fun z => he (hx b z), u.tups, u.frzs, u.tbls⟩
end
def trk (h : Heap) (H : Hp) : List Addr := (List.range h.objs.size).filter fun a => (H a).isSome
def hidT (h : Heap) (H : Hp) : Heap := PySem.W.hideAll h (trk h H)
theorem hidT_size (h : Heap) (H : Hp) : (hidT h H).objs.size = h.objs.size := PySem.W.hideAll_size _ _
theorem hidT_get {h : Heap} {H : Hp} {b : Addr} {o : Obj} (e : h.get? b = some o) (n : H b = none) : (hidT h H).get? b = some o :=
  PySem.W.hideAll_get _ e fun hm => by
    have q : (H b).isSome = true := (List.mem_filter.mp hm).2
    rw [n] at q; simp at q
theorem of_hidT {h : Heap} {H : Hp} {b : Addr} {o : Obj} (e : (hidT h H).get? b = some o) : h.get? b = some o ∧ H b = none := by
  have e' : h.get? b = some o := PySem.W.of_hideAll (trk h H) e
  refine ⟨e', ?_⟩
  cases q : H b with
  | none => rfl
  | some x =>
    have hm : b ∈ trk h H := List.mem_filter.mpr ⟨List.mem_range.mpr (Heap.lt_size e'), by simp [q]⟩
    have z : (hidT h H).get? b = none := PySem.W.hideAll_none (trk h H) hm
    rw [z] at e; cases e
def allNews (g h : Heap) (L : Addr) : List (Addr × Obj) := (List.range h.objs.size).filterMap fun a => if a = L ∨ (g.get? a).isSome = true then none else (h.get? a).map fun o => (a, o)
def rest (g h : Heap) (L d : Addr) : List (Addr × Obj) := (allNews g h L).filter fun p => decide (p.1 ≠ d)
end L2
namespace L2
open PySem PySem.Spec PyProof.Rows
structure Mod (K : PySem.W.Frag) (mg : Str → Option Value) (base : Heap) : Prop where
  kin : K.In base
  glob : base.Ns mainGlobals mg
  blt : ∃ mb, base.Ns builtinsNs mb ∧ ∀ x : Str, x ≠ "__name__" → mb x = bootBuiltins x
  nolimit : base.NoLimit
structure Cx where
  prog : Program
  w : World
  K : PySem.W.Frag
  mg : Str → Option Value
  base : Heap
  A : Around
  N : List Str
  s₀ : Shared
  H₀ : Hp
  env : Env
  outer : List Env
  stack : List Env
  ex : List Addr
  fn : Str → Bool
  calm : Bool
  pn : List (Addr × Obj)
  xe : Value → Shared → Prop
def frs (l : List Env) : List Addr := l.filterMap (·.frame)
abbrev Cx.fs (X : Cx) : List Addr := frs X.outer
def Vis (sc : Scope) (x : Str) : Prop := sc.names.lookup x = some .local ∨ sc.names.lookup x = some .cell ∨ sc.names.lookup x = some .free
def Loc (sc : Scope) (x : Str) : Prop := sc.names.lookup x = some .local ∨ sc.names.lookup x = some .cell
def Look (env : Env) (h : Heap) (m : Str → Option Value) (x : Str) (u : Value) : Prop :=
  (env.kindOf x = some .local ∧ m x = some u) ∨ ((env.kindOf x = some .cell ∨ env.kindOf x = some .free) ∧ ∃ c, env.cells.lookup x = some c ∧ h.IsCell c (some u))
structure Cx.Ok (X : Cx) : Prop where
  mod : Mod X.K X.mg X.base
  kind : X.env.scope.kind = .function
  glob : X.env.globals = mainGlobals
  blt : X.env.builtins = builtinsNs
  above : X.s₀.heap.objs.size ≤ X.env.locals
  inj : ∀ x y c, X.env.cells.lookup x = some c → X.env.cells.lookup y = some c → x = y
  has : ∀ x, (X.env.kindOf x = some .cell ∨ X.env.kindOf x = some .free) → ∃ c, X.env.cells.lookup x = some c
  cab : ∀ x c, X.fn x = true → X.env.cells.lookup x = some c → X.s₀.heap.objs.size ≤ c
  hd : X.calm = true → X.A.handled = none
  frames : X.A.frames = some X.stack
  stk : X.stack = X.outer ∨ (X.stack = X.env :: X.outer ∧ X.env.frame = some X.env.locals)
  exf : ∀ b ∈ X.ex, b ≠ X.env.locals ∧ ∀ x c, X.env.cells.lookup x = some c → c ≠ b
  bs : ∀ b o, X.base.get? b = some o → X.s₀.heap.get? b = some o ∧ X.H₀ b = none
  bsz : X.base.objs.size ≤ X.s₀.heap.objs.size
  noex : ∀ b o, X.base.get? b = some o → b ∉ X.ex
  exfs : ∀ b ∈ X.ex, b ∉ X.fs
  funs : X.s₀.heap.FunFrames X.base X.outer
  frf : ∀ b ∈ X.fs, X.H₀ b = none
structure Inv (X : Cx) (pins : List (Addr × Obj)) (σ : List (Option V)) (H : Hp) (s : Shared) : Prop where
  ok : X.Ok
  os : s.os = X.s₀.os
  bare : AllBare s.gens
  base : Un X.fs X.ex X.H₀ H X.s₀.heap s.heap
  loc : ∃ m, s.heap.Ns X.env.locals m ∧ ∀ (i : Nat) (x : Str) (v : V), X.N[i]? = some x → σ[i]? = some (some v) → Vis X.env.scope x → ∃ u, RelV v u ∧ Look X.env s.heap m x u
  cell : ∀ x c, X.env.cells.lookup x = some c → ∃ v, s.heap.IsCell c v
  free : H X.env.locals = none
  freeC : ∀ x c, X.env.cells.lookup x = some c → H c = none
  pin : ∀ p ∈ X.pn ++ pins, s.heap.get? p.1 = some p.2 ∧ H p.1 = none ∧ p.1 ≠ X.env.locals ∧ p.1 ∉ X.fs ∧ ∀ v, p.2.data ≠ .cell v
  hok : HOk X.prog X.w H s.heap
  len : σ.length = X.N.length
section
variable {X : Cx} {pins : List (Addr × Obj)} {σ : List (Option V)} {H H' : Hp} {s : Shared} {h' : Heap}
theorem Cx.Ok.nofr (ok : X.Ok) {b : Addr} {o : Obj} (e : X.base.get? b = some o) : b ∉ X.fs := fun hb => by
  have := (ok.funs.mem hb).1
  rw [e] at this; cases this
theorem Inv.bs (I : Inv X pins σ H s) : ∀ b o, X.base.get? b = some o → s.heap.get? b = some o ∧ H b = none := fun b o e =>
  ⟨I.base.keep b o (I.ok.bs b o e).1 (I.ok.bs b o e).2 (I.ok.nofr e) (I.ok.noex b o e), I.base.free b o (I.ok.bs b o e).1 (I.ok.bs b o e).2 (I.ok.noex b o e)⟩
theorem Inv.bk (I : Inv X pins σ H s) : ∀ b o, X.base.get? b = some o → s.heap.get? b = some o := fun b o e => (I.bs b o e).1
theorem Inv.mod (I : Inv X pins σ H s) : Mod X.K X.mg X.base := I.ok.mod
theorem Inv.kIn (I : Inv X pins σ H s) : X.K.In s.heap := I.ok.mod.kin.keeps I.bk
theorem Inv.nolimit (I : Inv X pins σ H s) : s.heap.NoLimit := I.ok.mod.nolimit.keeps I.bk
theorem Inv.fr (I : Inv X pins σ H s) : ∃ m, Fr X.base X.env.locals s.heap m :=
  let ⟨m, hn, _⟩ := I.loc
  ⟨m, hn, I.bk, Nat.le_trans I.ok.bsz I.ok.above⟩
theorem Inv.lt (I : Inv X pins σ H s) : X.env.locals < s.heap.objs.size := let ⟨_, hn, _⟩ := I.loc; hn.lt
theorem Inv.sz (I : Inv X pins σ H s) : X.s₀.heap.objs.size ≤ s.heap.objs.size := Nat.le_trans I.ok.above (Nat.le_of_lt I.lt)
theorem Inv.nofs (I : Inv X pins σ H s) {a : Addr} (h : s.heap.objs.size ≤ a) : a ∉ X.fs := fun hb => by
  obtain ⟨_, o, ho, _⟩ := I.ok.funs.mem hb
  exact absurd (Nat.lt_of_lt_of_le (Heap.lt_size ho) (Nat.le_trans I.sz h)) (Nat.lt_irrefl _)
theorem Inv.cne (I : Inv X pins σ H s) : ∀ x c, X.env.cells.lookup x = some c → c ≠ X.env.locals := fun x c e z => by
  obtain ⟨v, o, ho, hd⟩ := I.cell x c e
  obtain ⟨m, ⟨o', es, ep, ho', hd', _⟩, _⟩ := I.loc
  rw [z, ho'] at ho; cases ho; rw [hd'] at hd; cases hd
theorem Inv.funs (I : Inv X pins σ H s) : s.heap.FunFrames X.base X.outer := by
  have all : ∀ (l : List Env), (∀ b ∈ frs l, b ∈ X.fs) → X.s₀.heap.FunFrames X.base l → s.heap.FunFrames X.base l := by
    intro l
    induction l with
    | nil => intro _ _; trivial
    | cons env r ih =>
      intro hs hl
      obtain ⟨hk, ⟨L, o, hf, hn, ho, hd⟩, hr⟩ := hl
      have hL : L ∈ X.fs := hs L (by unfold frs; rw [List.filterMap_cons, hf]; exact List.mem_cons_self)
      obtain ⟨sl, e⟩ := I.base.slot L o ho (I.ok.frf L hL) hL fun z => I.ok.exfs L z hL
      exact ⟨hk, ⟨L, _, hf, hn, e, hd⟩, ih (fun b hb => hs b (by unfold frs; rw [List.filterMap_cons, hf]; exact List.mem_cons_of_mem _ hb)) hr⟩
  exact all X.outer (fun _ hb => hb) I.ok.funs
theorem Inv.stack (I : Inv X pins σ H s) : s.heap.FunFrames X.base X.stack := by
  rcases I.ok.stk with e | ⟨e, hf⟩
  · rw [e]; exact I.funs
  · rw [e]
    obtain ⟨m, hn, _⟩ := I.loc
    refine .cons (by rw [I.ok.kind]; decide) hf hn ?_ I.funs
    exact Heap.get?_none_of_le (Nat.le_trans I.ok.bsz I.ok.above)
theorem Inv.stkSub (I : Inv X pins σ H s) : ∀ b ∈ frs X.stack, b ∈ X.env.locals :: X.fs := fun b hb => by
  rcases I.ok.stk with e | ⟨e, hf⟩
  · rw [e] at hb; exact List.mem_cons_of_mem _ hb
  · rw [e] at hb
    unfold frs at hb
    rw [List.filterMap_cons, hf] at hb
    exact hb
theorem Inv.stkFree (I : Inv X pins σ H s) : ∀ b ∈ frs X.stack, H b = none := fun b hb => by
  rcases List.mem_cons.mp (I.stkSub b hb) with e | hb
  · rw [e]; exact I.free
  · obtain ⟨_, o, ho, _⟩ := I.ok.funs.mem hb
    exact I.base.free b o ho (I.ok.frf b hb) fun z => I.ok.exfs b z hb
theorem Inv.step {g' : Array GenState} {t' : Nat} {d' : Drawn} {ch : List Addr} (I : Inv X pins σ H s)
    (hch : ∀ b ∈ ch, (b ∈ X.ex ∨ X.s₀.heap.objs.size ≤ b) ∧ b ≠ X.env.locals ∧ (∀ x c, X.env.cells.lookup x = some c → c ≠ b) ∧ ∀ p ∈ X.pn ++ pins, p.1 ≠ b)
    (keep : ∀ b o, b ≠ X.env.locals → b ∉ X.fs → b ∉ ch → s.heap.get? b = some o → H b = none → h'.get? b = some o)
    (slot : ∀ b o, b ≠ X.env.locals → b ∈ X.fs → b ∉ ch → s.heap.get? b = some o → H b = none → ∃ sl, h'.get? b = some { o with slots := sl }) (free : ∀ b o, b ∉ ch → s.heap.get? b = some o → H b = none → H' b = none)
    (there : ∀ b o, b ∉ ch → s.heap.get? b = some o → ∃ o', h'.get? b = some o')
    (tups : ∀ b xs, H b = some (.tup xs) → H' b = some (.tup xs)) (frzs : ∀ b o u, H b = some (.frz o u) → H' b = some (.frz o u)) (tbls : ∀ b ps, H b = some (.tbl ps) → ∃ more, H' b = some (.tbl (ps ++ more)))
    (ns : ∀ m, s.heap.Ns X.env.locals m → h'.Ns X.env.locals m) (hok : HOk X.prog X.w H' h') (hg : AllBare g') :
    Inv X pins σ H' { s with heap := h', gens := g', drawn := d', toks := t' } := by
  have neL : ∀ b o, X.s₀.heap.get? b = some o → b ≠ X.env.locals := fun b o e => Nat.ne_of_lt (Nat.lt_of_lt_of_le (Heap.lt_size e) I.ok.above)
  have neC : ∀ b o, X.s₀.heap.get? b = some o → b ∉ X.ex → b ∉ ch := fun b o e hx hb => by
    rcases (hch b hb).1 with z | z
    · exact hx z
    · exact absurd (Nat.lt_of_lt_of_le (Heap.lt_size e) z) (Nat.lt_irrefl _)
  have cellK : ∀ x c, X.env.cells.lookup x = some c → ∀ v, s.heap.IsCell c v → h'.IsCell c v := fun x c e v ⟨o, ho, hd⟩ => by
    have nch : c ∉ ch := fun z => (hch c z).2.2.1 x c e rfl
    by_cases hc : c ∈ X.fs
    · obtain ⟨sl, q⟩ := slot c o (I.cne x c e) hc nch ho (I.freeC x c e)
      exact ⟨_, q, hd⟩
    · exact ⟨o, keep c o (I.cne x c e) hc nch ho (I.freeC x c e), hd⟩
  refine ⟨I.ok, I.os, hg, ⟨fun b o e n hb hx => ?_, fun b o e n hb hx => ?_, fun b o e n hx => ?_, fun b o e hx => ?_, fun b xs e => tups b xs (I.base.tups b xs e), fun b o xs e => frzs b o xs (I.base.frzs b o xs e), fun b ps e => ?_⟩, ?_, fun x c e => ?_, ?_, fun x c e => ?_, fun p hp => ?_, hok, I.len⟩
  · exact keep b o (neL b o e) hb (neC b o e hx) (I.base.keep b o e n hb hx) (I.base.free b o e n hx)
  · obtain ⟨sl, e1⟩ := I.base.slot b o e n hb hx
    obtain ⟨sl', e2⟩ := slot b _ (neL b o e) hb (neC b o e hx) e1 (I.base.free b o e n hx)
    exact ⟨sl', e2⟩
  · obtain ⟨o', e1⟩ := I.base.there b o e hx
    exact free b o' (neC b o e hx) e1 (I.base.free b o e n hx)
  · obtain ⟨o', e1⟩ := I.base.there b o e hx
    exact there b o' (neC b o e hx) e1
  · obtain ⟨m1, e1⟩ := I.base.tbls b ps e
    obtain ⟨m2, e2⟩ := tbls b _ e1
    exact ⟨m1 ++ m2, by rw [e2, Array.append_assoc]⟩
  · obtain ⟨m, hn, hl⟩ := I.loc
    refine ⟨m, ns m hn, fun i x v e1 e2 e3 => ?_⟩
    obtain ⟨u, r, l⟩ := hl i x v e1 e2 e3
    refine ⟨u, r, ?_⟩
    rcases l with l | ⟨k, c, e, z⟩
    · exact .inl l
    · exact .inr ⟨k, c, e, cellK x c e _ z⟩
  · obtain ⟨v, z⟩ := I.cell x c e
    exact ⟨v, cellK x c e v z⟩
  · obtain ⟨m, ⟨o, _, _, ho, _⟩, _⟩ := I.loc
    exact free _ o (fun z => (hch _ z).2.1 rfl) ho I.free
  · obtain ⟨v, o, ho, hd⟩ := I.cell x c e
    exact free c o (fun z => (hch c z).2.2.1 x c e rfl) ho (I.freeC x c e)
  · obtain ⟨e, n, ne, nf, d⟩ := I.pin p hp
    have nch : p.1 ∉ ch := fun z => (hch p.1 z).2.2.2 p hp rfl
    exact ⟨keep p.1 p.2 ne nf nch e n, free p.1 p.2 nch e n, ne, nf, d⟩
theorem Inv.un {t' : Nat} (I : Inv X pins σ H s) (u : Un X.fs [] H H' s.heap h') (hok : HOk X.prog X.w H' h') : Inv X pins σ H' { s with heap := h', toks := t' } := by
  obtain ⟨m, ⟨o, es, ep, ho, r⟩, _⟩ := id I.loc
  obtain ⟨sl, hL⟩ := u.any ho I.free (by simp)
  exact I.step (g' := s.gens) (d' := s.drawn) (ch := []) (fun _ z => nomatch z) (fun b o _ hb _ e n => u.keep b o e n hb (by simp)) (fun b o _ hb _ e n => u.slot b o e n hb (by simp)) (fun b o _ e n => u.free b o e n (by simp)) (fun b o _ e => u.there b o e (by simp)) u.tups u.frzs u.tbls (fun m' hm => by
    obtain ⟨o', es', ep', ho', r'⟩ := hm
    rw [ho] at ho'; cases ho'
    exact ⟨_, es', ep', hL, r'⟩) hok I.bare
theorem Inv.call {g' : Array GenState} {t' : Nat} {d' : Drawn} {ch : List Addr} (I : Inv X pins σ H s) (u : Un (frs X.stack) ch H H' s.heap h') (hok : HOk X.prog X.w H' h') (hg : AllBare g')
    (hch : ∀ b ∈ ch, (b ∈ X.ex ∨ X.s₀.heap.objs.size ≤ b) ∧ b ≠ X.env.locals ∧ (∀ x c, X.env.cells.lookup x = some c → c ≠ b) ∧ ∀ p ∈ X.pn ++ pins, p.1 ≠ b) :
    Inv X pins σ H' { s with heap := h', gens := g', drawn := d', toks := t' } := by
  obtain ⟨m, ⟨o, es, ep, ho, r⟩, _⟩ := id I.loc
  obtain ⟨sl, hL⟩ := u.any ho I.free fun z => (hch _ z).2.1 rfl
  exact I.step (ch := ch) hch (fun b o hL hb hc e n => u.keep b o e n (fun z => (List.mem_cons.mp (I.stkSub b z)).elim hL hb) hc) (fun b o _ _ hc e n => u.any e n hc) (fun b o hc e n => u.free b o e n hc) (fun b o hc e => u.there b o e hc) u.tups u.frzs u.tbls (fun m' hm => by
    obtain ⟨o', es', ep', ho', r'⟩ := hm
    rw [ho] at ho'; cases ho'
    exact ⟨_, es', ep', hL, r'⟩) hok hg
theorem Inv.turned {t' : Nat} {it : Addr} (I : Inv X pins σ H s) (k : ∀ b o, b ≠ it → s.heap.get? b = some o → h'.get? b = some o) (hn : H it = none) (hL : it ≠ X.env.locals)
    (h1 : it ∈ X.ex ∨ X.s₀.heap.objs.size ≤ it) (h2 : ∀ x c, X.env.cells.lookup x = some c → c ≠ it) (h3 : ∀ p ∈ X.pn ++ pins, p.1 ≠ it) : Inv X pins σ H { s with heap := h', toks := t' } := by
  have nit : ∀ b u, H b = some u → b ≠ it := fun b u e z => by rw [z, hn] at e; cases e
  refine I.step (g' := s.gens) (d' := s.drawn) (ch := [it]) (fun b hb => ?_) (fun b o _ _ hc e _ => k b o (fun z => hc (by simp [z])) e) (fun b o _ _ hc e _ => ⟨o.slots, k b o (fun z => hc (by simp [z])) e⟩) (fun _ _ _ _ n => n)
    (fun b o hc e => ⟨o, k b o (fun z => hc (by simp [z])) e⟩) (fun _ _ e => e) (fun _ _ _ e => e) (fun b ps e => ⟨#[], by rw [e]; simp⟩) (fun m hm => ?_) (fun b u e => ?_) I.bare
  · have e : b = it := by simpa using hb
    subst e
    exact ⟨h1, hL, h2, h3⟩
  · obtain ⟨o, es, ep, ho, r⟩ := hm
    exact ⟨o, es, ep, k _ o (Ne.symm hL) ho, r⟩
  · refine (I.hok b u e).stay (fun c v hc q => k c v ?_ q) (fun _ q => q) fun _ _ q => q
    rcases hc with z | z
    · rw [z]; exact nit b u e
    · exact nit c _ z
theorem Inv.tok (I : Inv X pins σ H s) (t : Nat) : Inv X pins σ H { s with toks := t } := I.un (h' := s.heap) (t' := t) Un.refl I.hok
theorem Inv.kept {t' : Nat} (I : Inv X pins σ H s) (k : ∀ b u, s.heap.get? b = some u → h'.get? b = some u) : Inv X pins σ H { s with heap := h', toks := t' } := I.un (Un.kept k) (I.hok.kept k)
theorem Inv.laid {a : Addr} {o : HO} {t' : Nat} (I : Inv X pins σ H s) (k : ∀ b u, s.heap.get? b = some u → h'.get? b = some u) (hp : s.heap.objs.size ≤ a) (new : ObjOk X.prog X.w (upd H a o) h' a o) :
    Inv X pins σ (upd H a o) { s with heap := h', toks := t' } := I.un (Un.laid k hp (I.hok.fresh hp)) (I.hok.laid k hp new)
theorem Inv.write {x e : Addr} {o : HO} {t' : Nat} (I : Inv X pins σ H s) (mu : Mut (H x)) (he : e = x ∨ H e = some (.own x)) (k : ∀ b u, b ≠ e → s.heap.get? b = some u → h'.get? b = some u) (heo : ∃ u, h'.get? e = some u)
    (new : ObjOk X.prog X.w (upd H x o) h' x o) : Inv X pins σ (upd H x o) { s with heap := h', toks := t' } := I.un (Un.write mu he k heo) (I.hok.write mu he k heo new)
theorem Inv.weak {σ' : List (Option V)} (I : Inv X pins σ H s) (hl : σ'.length = σ.length) (w : ∀ (i : Nat) v, σ'[i]? = some (some v) → σ[i]? = some (some v)) : Inv X pins σ' H s :=
  ⟨I.ok, I.os, I.bare, I.base, let ⟨m, hn, hl'⟩ := I.loc; ⟨m, hn, fun i x v e1 e2 e3 => hl' i x v e1 (w i v e2) e3⟩, I.cell, I.free, I.freeC, I.pin, I.hok, hl.trans I.len⟩
theorem Inv.pins_of {pins' : List (Addr × Obj)} (I : Inv X pins σ H s) (h : ∀ p ∈ pins', s.heap.get? p.1 = some p.2 ∧ H p.1 = none ∧ p.1 ≠ X.env.locals ∧ p.1 ∉ X.fs ∧ ∀ v, p.2.data ≠ .cell v) : Inv X pins' σ H s :=
  ⟨I.ok, I.os, I.bare, I.base, I.loc, I.cell, I.free, I.freeC, fun p hp => (List.mem_append.mp hp).elim (fun z => I.pin p (List.mem_append_left _ z)) (h p), I.hok, I.len⟩
theorem nodup_ix {N : List Str} (hN : N.Nodup) {i j : Nat} {x : Str} (a : N[i]? = some x) (b : N[j]? = some x) : i = j := by
  obtain ⟨h1, e1⟩ := List.getElem?_eq_some_iff.mp a
  obtain ⟨h2, e2⟩ := List.getElem?_eq_some_iff.mp b
  exact (List.getElem_inj hN).mp (e1.trans e2.symm)
theorem store_ok2 {M : Model} {A : Around} {E : Value → Shared → Prop} {i : Nat} {x : Str} {v : V} {u : Value} {Q : Unit → Shared → Prop} (I : Inv X pins σ H s) (hN : X.N.Nodup) (hi : X.N[i]? = some x) (hx : Loc X.env.scope x) (r : RelV v u)
    (h : ∀ s', Inv X pins (σ.set i (some v)) H s' → (∃ a, Heap.SameBut a s.heap s'.heap ∧ (a = X.env.locals ∨ X.env.cells.lookup x = some a)) → Q () s') (hf : X.fn x = true ∨ X.env.scope.names.lookup x = some .local := by first | exact .inl rfl | exact .inr rfl | assumption) : wpAny M A (storeName X.env x u) Q E s := by
  obtain ⟨m, hn, hl⟩ := id I.loc
  have hcls : (X.env.scope.kind == .class || (X.env.scope.kind == .module && X.env.locals != X.env.globals)) = false := by rw [I.ok.kind]; rfl
  have hiσ : i < σ.length := by rw [I.len]; exact (List.getElem?_eq_some_iff.mp hi).1
  have cne := I.cne
  have tracked : ∀ {a : Addr} {h' : Heap}, (∃ o, s.heap.get? a = some o ∧ H a = none) → Heap.SameBut a s.heap h' → HOk X.prog X.w H h' := fun {a h'} ha hs b ob e => by
    obtain ⟨_, _, hfree⟩ := ha
    refine (I.hok b ob e).stay (fun c w' hc q => (hs.2 c ?_).trans q) (fun _ q => q) fun _ _ q => q
    rintro rfl
    rcases hc with rfl | hc
    · rw [hfree] at e; cases e
    · rw [hfree] at hc; cases hc
  rcases hx with hk | hk
  · refine wpAny_storeName_local hk hn (fun h' hn' hs => ?_) hcls
    obtain ⟨oL, _, _, hoL, _⟩ := id hn
    refine h _ ⟨I.ok, I.os, I.bare, ⟨fun b o e n hb hx => ?_, fun b o e n hb hx => ?_, I.base.free, fun b o e hx => ?_, I.base.tups, I.base.frzs, I.base.tbls⟩, ⟨_, hn', fun j y v' e1 e2 e3 => ?_⟩, fun y c e => ?_, I.free, I.freeC, fun p hp => ?_, tracked ⟨oL, hoL, I.free⟩ hs, by simpa using I.len⟩ ⟨_, hs, .inl rfl⟩
    · exact (hs.2 b (Nat.ne_of_lt (Nat.lt_of_lt_of_le (Heap.lt_size e) I.ok.above))).trans (I.base.keep b o e n hb hx)
    · obtain ⟨sl, e1⟩ := I.base.slot b o e n hb hx
      exact ⟨sl, (hs.2 b (Nat.ne_of_lt (Nat.lt_of_lt_of_le (Heap.lt_size e) I.ok.above))).trans e1⟩
    · obtain ⟨o', e1⟩ := I.base.there b o e hx
      exact ⟨o', (hs.2 b (Nat.ne_of_lt (Nat.lt_of_lt_of_le (Heap.lt_size e) I.ok.above))).trans e1⟩
    · by_cases hj : j = i
      · subst hj
        rw [hi] at e1; cases e1
        rw [List.getElem?_set_self hiσ] at e2
        cases e2
        exact ⟨u, r, .inl ⟨hk, by simp⟩⟩
      · rw [List.getElem?_set_ne (Ne.symm hj)] at e2
        obtain ⟨u', r', q⟩ := hl j y v' e1 e2 e3
        refine ⟨u', r', ?_⟩
        rcases q with ⟨k, e⟩ | ⟨k, c, e, z⟩
        · refine .inl ⟨k, ?_⟩
          have : y ≠ x := fun e => hj (nodup_ix hN e1 (e ▸ hi))
          simp [this, e]
        · exact .inr ⟨k, c, e, z.sameBut hs (cne y c e)⟩
    · obtain ⟨w', z⟩ := I.cell y c e
      exact ⟨w', z.sameBut hs (cne y c e)⟩
    · obtain ⟨e, n, ne, nf, d⟩ := I.pin p hp
      exact ⟨(hs.2 p.1 ne).trans e, n, ne, nf, d⟩
  · have hfn : X.fn x = true := by
      rcases hf with z | z
      · exact z
      · rw [z] at hk; cases hk
    obtain ⟨c, hc⟩ := I.ok.has x (.inl hk)
    obtain ⟨w', z⟩ := I.cell x c hc
    refine wpAny_storeName_cell I.ok.kind hk hc z (fun h' hc' hs => ?_)
    obtain ⟨oc, hoc, hocd⟩ := id z
    refine h { s with heap := h' } ⟨I.ok, I.os, I.bare, ⟨fun b o e n hb hx => ?_, fun b o e n hb hx => ?_, I.base.free, fun b o e hx => ?_, I.base.tups, I.base.frzs, I.base.tbls⟩, ⟨m, hn.sameBut hs (Ne.symm (cne x c hc)), fun j y v' e1 e2 e3 => ?_⟩, fun y c' e => ?_, I.free, I.freeC, fun p hp => ?_, tracked ⟨oc, hoc, I.freeC x c hc⟩ hs, by simpa using I.len⟩ ⟨c, hs, .inr hc⟩
    · exact (hs.2 b (Nat.ne_of_lt (Nat.lt_of_lt_of_le (Heap.lt_size e) (I.ok.cab x c hfn hc)))).trans (I.base.keep b o e n hb hx)
    · obtain ⟨sl, e1⟩ := I.base.slot b o e n hb hx
      exact ⟨sl, (hs.2 b (Nat.ne_of_lt (Nat.lt_of_lt_of_le (Heap.lt_size e) (I.ok.cab x c hfn hc)))).trans e1⟩
    · obtain ⟨o', e1⟩ := I.base.there b o e hx
      exact ⟨o', (hs.2 b (Nat.ne_of_lt (Nat.lt_of_lt_of_le (Heap.lt_size e) (I.ok.cab x c hfn hc)))).trans e1⟩
    · by_cases hj : j = i
      · subst hj
        rw [hi] at e1; cases e1
        rw [List.getElem?_set_self hiσ] at e2
        cases e2
        exact ⟨u, r, .inr ⟨.inl hk, c, hc, hc'⟩⟩
      · rw [List.getElem?_set_ne (Ne.symm hj)] at e2
        obtain ⟨u', r', q⟩ := hl j y v' e1 e2 e3
        refine ⟨u', r', ?_⟩
        rcases q with q | ⟨k, c', e, z'⟩
        · exact .inl q
        · refine .inr ⟨k, c', e, z'.sameBut hs ?_⟩
          rintro rfl
          exact hj (nodup_ix hN e1 (I.ok.inj _ _ _ e hc ▸ hi))
    · by_cases hcc : c' = c
      · subst hcc; exact ⟨_, hc'⟩
      · obtain ⟨w2, z2⟩ := I.cell y c' e
        exact ⟨w2, z2.sameBut hs hcc⟩
    · obtain ⟨e, n, ne, nf, d⟩ := I.pin p hp
      refine ⟨(hs.2 p.1 ?_).trans e, n, ne, nf, d⟩
      intro q
      rw [q, hoc] at e
      have q' : oc = p.2 := Option.some.inj e
      exact d w' (by rw [← q']; exact hocd)
theorem store_ok {M : Model} {A : Around} {E : Value → Shared → Prop} {i : Nat} {x : Str} {v : V} {u : Value} {Q : Unit → Shared → Prop} (I : Inv X pins σ H s) (hN : X.N.Nodup) (hi : X.N[i]? = some x) (hx : Loc X.env.scope x) (r : RelV v u)
    (h : ∀ s', Inv X pins (σ.set i (some v)) H s' → Q () s') (hf : X.fn x = true ∨ X.env.scope.names.lookup x = some .local := by first | exact .inl rfl | exact .inr rfl | assumption) : wpAny M A (storeName X.env x u) Q E s :=
  store_ok2 I hN hi hx r (fun s' I' _ => h s' I') hf
theorem Inv.call' {s' : Shared} {ch : List Addr} (I : Inv X pins σ H s) (ho : s'.os = s.os) (u : Un (frs X.stack) ch H H' s.heap s'.heap) (hok : HOk X.prog X.w H' s'.heap) (hg : AllBare s'.gens)
    (hch : ∀ b ∈ ch, (b ∈ X.ex ∨ X.s₀.heap.objs.size ≤ b) ∧ b ≠ X.env.locals ∧ (∀ x c, X.env.cells.lookup x = some c → c ≠ b) ∧ ∀ p ∈ X.pn ++ pins, p.1 ≠ b) : Inv X pins σ H' s' := by
  obtain ⟨h', g', d', t', o'⟩ := s'
  have e : o' = s.os := ho
  subst e
  exact I.call (g' := g') (t' := t') (d' := d') u hok hg hch
end
abbrev XK := Value → Option Addr → Hp → Prop
abbrev St := List (Option V)
abbrev VK := V → Hp → Prop
abbrev TE := St → Hp → VK → Prop
abbrev TT := St → Hp → (Bool → Hp → Prop) → Prop
abbrev TA := St → Hp → (List V → Hp → Prop) → Prop
structure Ends where
  nx : St → Hp → Prop
  rt : VK
  bk : St → Hp → Prop := fun _ _ => False
  ct : St → Hp → Prop := fun _ _ => False
abbrev TS := Ends → St → Hp → Prop
def EP (X : Cx) (pins : List (Addr × Obj)) (σ : St) (Q : VK) (u : Value) (s' : Shared) : Prop := ∃ v H', Inv X pins σ H' s' ∧ RelV v u ∧ Q v H'
def TP (X : Cx) (pins : List (Addr × Obj)) (σ : St) (Q : Bool → Hp → Prop) (b : Bool) (s' : Shared) : Prop := ∃ H', Inv X pins σ H' s' ∧ Q b H'
def AP (X : Cx) (pins : List (Addr × Obj)) (σ : St) (Q : List V → Hp → Prop) (us : List Value) (s' : Shared) : Prop := ∃ vs H', Inv X pins σ H' s' ∧ Vals vs us ∧ Q vs H'
def SP (X : Cx) (pins : List (Addr × Obj)) (D : Ends) (f : Flow) (s' : Shared) : Prop :=
  match f with
  | .next => ∃ σ' H', Inv X pins σ' H' s' ∧ D.nx σ' H'
  | .brk => ∃ σ' H', Inv X pins σ' H' s' ∧ D.bk σ' H'
  | .cont => ∃ σ' H', Inv X pins σ' H' s' ∧ D.ct σ' H'
  | .ret u => ∃ v σ' H', Inv X pins σ' H' s' ∧ RelV v u ∧ D.rt v H'
def PE (X : Cx) (e : Expr) (t : TE) : Prop :=
  ∀ (pins : List (Addr × Obj)) (s : Shared) (σ : St) (H : Hp) (Q : VK), Inv X pins σ H s → t σ H Q → wpAny (model X.prog X.w) X.A (eval e X.env) (EP X pins σ Q) X.xe s
def PT (X : Cx) (e : Expr) (t : TT) : Prop :=
  ∀ (pins : List (Addr × Obj)) (s : Shared) (σ : St) (H : Hp) (Q : Bool → Hp → Prop), Inv X pins σ H s → t σ H Q → wpAny (model X.prog X.w) X.A (isTrue e X.env (eval e X.env)) (TP X pins σ Q) X.xe s
def PW (X : Cx) (e : Expr) (t : TT) : Prop :=
  ∀ (whole : Sem Value) (pins : List (Addr × Obj)) (s : Shared) (σ : St) (H : Hp) (Q : Bool → Hp → Prop), Inv X pins σ H s → t σ H Q → wpAny (model X.prog X.w) X.A (isTrue e X.env whole) (TP X pins σ Q) X.xe s
theorem PW.pt {X : Cx} {e : Expr} {t : TT} (h : PW X e t) : PT X e t := h _
def PA (X : Cx) (es : List Expr) (t : TA) : Prop :=
  ∀ (pos : Pos) (pins : List (Addr × Obj)) (s : Shared) (σ : St) (H : Hp) (Q : List V → Hp → Prop), Inv X pins σ H s → t σ H Q → wpAny (model X.prog X.w) X.A (spliced (backTo pos (starEach es X.env))) (AP X pins σ Q) X.xe s
def PS (X : Cx) (st : Stmt) (t : TS) : Prop :=
  ∀ (pins : List (Addr × Obj)) (s : Shared) (σ : St) (H : Hp) (D : Ends), Inv X pins σ H s → t D σ H → wpAny (model X.prog X.w) X.A (exec st X.env) (SP X pins D) X.xe s
def PSs (X : Cx) (st : List Stmt) (t : TS) : Prop :=
  ∀ (pins : List (Addr × Obj)) (s : Shared) (σ : St) (H : Hp) (D : Ends), Inv X pins σ H s → t D σ H → wpAny (model X.prog X.w) X.A (execs st X.env) (SP X pins D) X.xe s
theorem thn {α : Type} {t : Sem α} {Q Q' : α → Shared → Prop} {M : Model} {A : Around} {E : Value → Shared → Prop} {s : Shared} (h : wpAny M A t Q E s) (hQ : ∀ a s, Q a s → Q' a s) : wpAny M A t Q' E s := wpAny_mono h hQ fun _ _ x => x
end L2
namespace L2
open PySem PySem.Spec PyProof.Rows
section
variable {X : Cx}
def tVar (i : Nat) : TE := fun σ H Q => ∃ v, σ[i]? = some (some v) ∧ Q v H
def tC (v : V) : TE := fun _ H Q => Q v H
theorem pe_var {i : Nat} {x : Str} {pos : Pos} (hN : X.N[i]? = some x) (hv : Vis X.env.scope x) (hd : (x == ("__debug__" : Str)) = false := by decide) (hcd : (x == ("__classdict__" : Str)) = false := by decide) : PE X (.Name x pos) (tVar i) := by
  intro pins s σ H Q I h
  obtain ⟨v, e, h⟩ := h
  obtain ⟨m, hn, hl⟩ := I.loc
  obtain ⟨u, r, l⟩ := hl i x v hN e hv
  have fin : EP X pins σ Q u s := ⟨v, H, I, r, h⟩
  rcases l with ⟨hk, hm⟩ | ⟨hk, c, hc, hcell⟩
  · exact wpAny_Name (wpAny_loadName_local I.ok.kind hk hn hm fin) hd
  · rcases hk with hk | hk
    · exact wpAny_Name (wpAny_loadName_cell I.ok.kind hk hc hcell fin) hd
    · exact wpAny_Name (wpAny_loadName_free I.ok.kind hk hc hcell fin hcd) hd
theorem pe_int {i j pos} : PE X (.Constant (.int i) j pos) (tC (.int i)) := fun _ _ _ H _ I h => wpAny_Constant_int ⟨.int i, H, I.tok _, ⟨_, rfl⟩, h⟩
theorem pe_bl {b j pos} : PE X (.Constant (.bool b) j pos) (tC (.bl b)) := fun _ _ _ H _ I h => Constant_bool ⟨.bl b, H, I, rfl, h⟩
theorem pe_non {j pos} : PE X (.Constant .none j pos) (tC .non) := fun _ _ _ H _ I h => Constant_none ⟨.non, H, I, rfl, h⟩
theorem pe_str {x j pos} : PE X (.Constant (.str x) j pos) (tC (.str x)) := fun _ _ _ H _ I h => Calls.Constant_str ⟨.str x, H, I.tok _, ⟨_, rfl⟩, h⟩
def Gl (X : Cx) (x : Str) : Prop := X.env.kindOf x = some .globalImplicit
theorem ld_glob {E : Value → Shared → Prop} {pins : List (Addr × Obj)} {s : Shared} {σ : St} {H : Hp} {x : Str} {u : Value} {pos : Pos} {Q : Value → Shared → Prop} (I : Inv X pins σ H s) (hg : Gl X x) (hm : X.mg x = some u) (h : Q u s)
    (hd : (x == ("__debug__" : Str)) = false := by decide) : wpAny (model X.prog X.w) X.A (eval (.Name x pos) X.env) Q E s :=
  Calls.Name_function_global I.ok.kind hg (Calls.loadGlobal_global (by rw [I.ok.glob]; exact I.mod.glob.keeps I.bk) hm h) hd
theorem ld_blt {E : Value → Shared → Prop} {pins : List (Addr × Obj)} {s : Shared} {σ : St} {H : Hp} {x : Str} {u : Value} {pos : Pos} {Q : Value → Shared → Prop} (I : Inv X pins σ H s) (hg : Gl X x) (hm : X.mg x = none) (hv : bootBuiltins x = some u) (h : Q u s)
    (hn : x ≠ "__name__" := by decide) (hd : (x == ("__debug__" : Str)) = false := by decide) : wpAny (model X.prog X.w) X.A (eval (.Name x pos) X.env) Q E s := by
  obtain ⟨mb, h1, h2⟩ := I.mod.blt
  exact Calls.Name_function_global I.ok.kind hg (Calls.loadGlobal_builtin (by rw [I.ok.glob]; exact I.mod.glob.keeps I.bk) hm (by rw [I.ok.blt]; exact h1.keeps I.bk) ((h2 x hn).trans hv) h) hd
theorem pe_bltn {x : Str} {v : V} {u : Value} {pos : Pos} (hg : Gl X x) (hm : X.mg x = none) (hv : bootBuiltins x = some u) (r : RelV v u) (hn : x ≠ "__name__" := by decide) (hd : (x == ("__debug__" : Str)) = false := by decide) : PE X (.Name x pos) (tC v) :=
  fun _ _ _ H _ I h => ld_blt I hg hm hv ⟨v, H, I, r, h⟩ hn hd
variable {a b : Expr} {ta tb : TE} {pos : Pos}
def tB (t : TE) : TT := fun σ H Q => t σ H fun x H1 => ∃ c, x = .bl c ∧ Q c H1
theorem pt_val {e : Expr} {t : TE} (h : PE X e t) (he : ∀ whole, isTrue e X.env whole = (do let v ← whole; standAt e.pos; holding [v] (truthy v)) := by intro _; rfl) : PT X e (tB t) := by
  intro pins s σ H Q I hw
  refine isTrue_plain (thn (h pins s σ H _ I hw) fun v s1 hq__ => ?_) (he _)
  obtain ⟨x, H1, I1, r1, q1⟩ := hq__
  obtain ⟨d, rfl, q⟩ := q1
  cases r1
  exact wpAny_truthy_bool ⟨H1, I1, q⟩
variable {tA tB' : TT} {rest : List Expr}
def tAnd (t u : TT) : TT := fun σ H Q => t σ H fun c H1 => if c = true then u σ H1 Q else Q false H1
def tOr (t u : TT) : TT := fun σ H Q => t σ H fun c H1 => if c = true then Q true H1 else u σ H1 Q
def tNot (t : TT) : TT := fun σ H Q => t σ H fun c H1 => Q (!c) H1
theorem pw_and1 (ha : PT X a tA) : PW X (.BoolOp .And [a] pos) tA := by
  intro wh pins s σ H Q I h
  refine isTrue_and (thn (ha pins s σ H Q I h) fun c s1 e => ?_)
  cases c with
  | true => exact isTrue_and_nil e
  | false => exact e
theorem pw_or1 (ha : PT X a tA) : PW X (.BoolOp .Or [a] pos) tA := by
  intro wh pins s σ H Q I h
  refine isTrue_or (thn (ha pins s σ H Q I h) fun c s1 e => ?_)
  cases c with
  | false => exact isTrue_or_nil e
  | true => exact e
theorem pw_and (ha : PT X a tA) (hb : PW X (.BoolOp .And (b :: rest) pos) tB') : PW X (.BoolOp .And (a :: b :: rest) pos) (tAnd tA tB') := by
  intro wh pins s σ H Q I h
  refine isTrue_and (thn (ha pins s σ H _ I h) fun c s1 hq__ => ?_)
  obtain ⟨H1, I1, q1⟩ := hq__
  cases c with
  | true => exact hb wh pins s1 σ H1 Q I1 q1
  | false => exact ⟨H1, I1, q1⟩
theorem pw_or (ha : PT X a tA) (hb : PW X (.BoolOp .Or (b :: rest) pos) tB') : PW X (.BoolOp .Or (a :: b :: rest) pos) (tOr tA tB') := by
  intro wh pins s σ H Q I h
  refine isTrue_or (thn (ha pins s σ H _ I h) fun c s1 hq__ => ?_)
  obtain ⟨H1, I1, q1⟩ := hq__
  cases c with
  | true => exact ⟨H1, I1, q1⟩
  | false => exact hb wh pins s1 σ H1 Q I1 q1
theorem pt_not (ha : PT X a tA) : PT X (.UnaryOp .Not a pos) (tNot tA) := by
  intro pins s σ H Q I h
  exact isTrue_not (ha pins s σ H (fun c H1 => Q (!c) H1) I h)
def tAndV (ta tb : TE) : TE := fun σ H Q => ta σ H fun x H1 => ∃ c, x = .bl c ∧ if c = true then tb σ H1 Q else Q (.bl false) H1
def tNotV (ta : TE) : TE := fun σ H Q => ta σ H fun x H1 => ∃ c, x = .bl c ∧ Q (.bl (!c)) H1
theorem pe_one {op} {t : TE} (h : PE X a t) : PE X (.BoolOp op [a] pos) t := fun pins s σ H Q I hw => BoolOp_one (h pins s σ H Q I hw)
theorem pe_and (ha : PE X a ta) (hb : PE X (.BoolOp .And (b :: rest) pos) tb) : PE X (.BoolOp .And (a :: b :: rest) pos) (tAndV ta tb) := by
  intro pins s σ H Q I h
  refine BoolOp_and (thn (ha pins s σ H _ I h) fun v s1 hq__ => ?_)
  obtain ⟨x, H1, I1, r1, q1⟩ := hq__
  obtain ⟨c, rfl, q1⟩ := q1
  cases r1
  refine wpAny_truthy_bool ?_
  cases c with
  | true => exact hb pins s1 σ H1 Q I1 q1
  | false => exact ⟨.bl false, H1, I1, rfl, q1⟩
theorem pe_not (ha : PE X a ta) : PE X (.UnaryOp .Not a pos) (tNotV ta) := by
  intro pins s σ H Q I h
  refine UnaryOp_ (thn (ha pins s σ H _ I h) fun v s1 hq__ => ?_)
  obtain ⟨x, H1, I1, r1, q1⟩ := hq__
  obtain ⟨c, rfl, q1⟩ := q1
  cases r1
  exact not_of (wpAny_truthy_bool ⟨.bl (!c), H1, I1, rfl, q1⟩)
def tIf (t : TT) (ta tb : TE) : TE := fun σ H Q => t σ H fun c H1 => if c = true then ta σ H1 Q else tb σ H1 Q
theorem pe_ifExp {c : Expr} (hc : PT X c tA) (ha : PE X a ta) (hb : PE X b tb) : PE X (.IfExp c a b pos) (tIf tA ta tb) := by
  intro pins s σ H Q I h
  refine wpAny_IfExp (thn (hc pins s σ H _ I h) fun d s1 hq__ => ?_)
  obtain ⟨H1, I1, q1⟩ := hq__
  cases d with
  | true => exact ha pins s1 σ H1 Q I1 q1
  | false => exact hb pins s1 σ H1 Q I1 q1
end
end L2
namespace L2
open PySem PySem.Spec PyProof.Rows
def SqL (K : PySem.W.Frag) (H : Hp) (a : Addr) (xs : List V) : Prop :=
  Rd H a (.lst xs) ∨
    ∃ (o : Obj) (its : Array Value) (n : Nat), K.lookup a = some o ∧ o.cls = .type "list" ∧ o.dict = none ∧ o.data = .seq its n ∧ its.size ≤ sizeLine ∧ Vals xs its.toList
def SqT (K : PySem.W.Frag) (H : Hp) (a : Addr) (xs : List V) : Prop :=
  Rd H a (.tup xs) ∨
    ∃ (o : Obj) (its : Array Value) (n : Nat), K.lookup a = some o ∧ o.cls = .type "tuple" ∧ o.data = .seq its n ∧ its.size ≤ sizeLine ∧ Vals xs its.toList
def absV : Value → Option V
  | .none => some .non
  | .bool b => some (.bl b)
  | .int i _ => some (.int i)
  | .str x _ => some (.str x)
  | .bytes b _ => some (.byt b)
  | .float b _ => some (.flt b)
  | .ref a => some (.ref a)
  | .type n => some (.ty n)
  | _ => none
theorem RelV.abs {x : V} {u : Value} (r : RelV x u) : absV u = some x := by
  cases x with
  | non => cases r; rfl
  | bl _ => cases r; rfl
  | int _ => obtain ⟨t, rfl⟩ := r; rfl
  | str _ => obtain ⟨t, rfl⟩ := r; rfl
  | byt _ => obtain ⟨t, rfl⟩ := r; rfl
  | flt _ => obtain ⟨t, rfl⟩ := r; rfl
  | ref _ => cases r; rfl
  | ty _ => cases r; rfl
theorem RelV.inj {x y : V} {u : Value} (r : RelV x u) (q : RelV y u) : x = y := Option.some.inj (r.abs.symm.trans q.abs)
theorem Vals.inj : ∀ {xs ys : List V} {us : List Value}, Vals xs us → Vals ys us → xs = ys
  | _, _, _, .nil, .nil => rfl
  | _, _, _, .cons r t, .cons r' t' => by rw [r.inj r', Vals.inj t t']
section
variable {X : Cx} {pins : List (Addr × Obj)} {σ : St} {H : Hp} {s : Shared} {a : Addr} {xs ys : List V}
theorem SqL.of {K : PySem.W.Frag} (h : H a = some (.lst xs)) : SqL K H a xs := .inl (.inl h)
theorem SqT.of {K : PySem.W.Frag} (h : H a = some (.tup xs)) : SqT K H a xs := .inl (.inl h)
theorem Inv.list (I : Inv X pins σ H s) (h : SqL X.K H a xs) : ∃ its : List Value, Vals xs its ∧ PlainL s.heap a its.toArray ∧ xs.length ≤ sizeLine := by
  rcases h with h | ⟨o, its, n, hk, hc, hd, hs, hz, r⟩
  · obtain ⟨z, its, n, r, e⟩ := h.ok I.hok
    exact ⟨its, r, ⟨_, n, e, rfl, rfl, rfl⟩, z⟩
  · refine ⟨its.toList, r, ⟨o, n, I.kIn a o hk, hc, hd, by simpa using hs⟩, ?_⟩
    have e := r.length
    simp only [Array.length_toList] at e
    omega
theorem Inv.tuple (I : Inv X pins σ H s) (h : SqT X.K H a xs) : ∃ its : List Value, Vals xs its ∧ IsTup s.heap a its.toArray ∧ xs.length ≤ sizeLine := by
  rcases h with h | ⟨o, its, n, hk, hc, hs, hz, r⟩
  · obtain ⟨z, its, r, p⟩ := h.ok I.hok
    exact ⟨its, r, p, z⟩
  · refine ⟨its.toList, r, ⟨o, I.kIn a o hk, hc, n, by simpa using hs⟩, ?_⟩
    have e := r.length
    simp only [Array.length_toList] at e
    omega
theorem Inv.list_inj (I : Inv X pins σ H s) (h : SqL X.K H a xs) (h' : SqL X.K H a ys) : xs = ys := by
  obtain ⟨its, r, ⟨o, n, e, _, _, d⟩, _⟩ := I.list h
  obtain ⟨its', r', ⟨o', n', e', _, _, d'⟩, _⟩ := I.list h'
  rw [e] at e'; cases e'
  rw [d] at d'
  injection d' with d1 _
  have : its = its' := by simpa using congrArg Array.toList d1
  subst this
  exact r.inj r'
theorem Inv.tuple_inj (I : Inv X pins σ H s) (h : SqT X.K H a xs) (h' : SqT X.K H a ys) : xs = ys := by
  obtain ⟨its, r, ⟨o, e, _, n, d⟩, _⟩ := I.tuple h
  obtain ⟨its', r', ⟨o', e', _, n', d'⟩, _⟩ := I.tuple h'
  rw [e] at e'; cases e'
  rw [d] at d'
  injection d' with d1 _
  have : its = its' := by simpa using congrArg Array.toList d1
  subst this
  exact r.inj r'
end
abbrev Cx.wish (X : Cx) (E : Value → Shared → Prop) : Cx := { X with xe := E }
abbrev Cx.nox (X : Cx) : Cx := X.wish fun _ _ => False
theorem Cx.Ok.wish {X : Cx} (ok : X.Ok) (E : Value → Shared → Prop) : (X.wish E).Ok :=
  ⟨ok.mod, ok.kind, ok.glob, ok.blt, ok.above, ok.inj, ok.has, ok.cab, ok.hd, ok.frames, ok.stk, ok.exf, ok.bs, ok.bsz, ok.noex, ok.exfs, ok.funs, ok.frf⟩
theorem Cx.Ok.unwish {X : Cx} {E : Value → Shared → Prop} (ok : (X.wish E).Ok) : X.Ok :=
  ⟨ok.mod, ok.kind, ok.glob, ok.blt, ok.above, ok.inj, ok.has, ok.cab, ok.hd, ok.frames, ok.stk, ok.exf, ok.bs, ok.bsz, ok.noex, ok.exfs, ok.funs, ok.frf⟩
section
variable {X : Cx} {pins : List (Addr × Obj)} {σ : St} {H : Hp} {s : Shared} {E : Value → Shared → Prop}
theorem Inv.wish (I : Inv X pins σ H s) (E : Value → Shared → Prop) : Inv (X.wish E) pins σ H s := ⟨I.ok.wish E, I.os, I.bare, I.base, I.loc, I.cell, I.free, I.freeC, I.pin, I.hok, I.len⟩
theorem Inv.unwish (I : Inv (X.wish E) pins σ H s) : Inv X pins σ H s := ⟨I.ok.unwish, I.os, I.bare, I.base, I.loc, I.cell, I.free, I.freeC, I.pin, I.hok, I.len⟩
theorem SP.unwish {D : Ends} {f : Flow} {s' : Shared} (h : SP (X.wish E) pins D f s') : SP X pins D f s' := by
  cases f with
  | next => obtain ⟨σ', H', I, q⟩ := h; exact ⟨σ', H', I.unwish, q⟩
  | brk => obtain ⟨σ', H', I, q⟩ := h; exact ⟨σ', H', I.unwish, q⟩
  | cont => obtain ⟨σ', H', I, q⟩ := h; exact ⟨σ', H', I.unwish, q⟩
  | ret u => obtain ⟨v, σ', H', I, r, q⟩ := h; exact ⟨v, σ', H', I.unwish, r, q⟩
theorem PE.nox {e : Expr} {t : TE} (h : PE X.nox e t) : PE X e t := fun pins s σ H Q I hw =>
  wpAny_mono (h pins s σ H Q (I.wish _) hw) (fun _ _ ⟨v, H', I', r, q⟩ => ⟨v, H', I'.unwish, r, q⟩) fun _ _ z => False.elim z
theorem PT.nox {e : Expr} {t : TT} (h : PT X.nox e t) : PT X e t := fun pins s σ H Q I hw =>
  wpAny_mono (h pins s σ H Q (I.wish _) hw) (fun _ _ ⟨H', I', q⟩ => ⟨H', I'.unwish, q⟩) fun _ _ z => False.elim z
theorem PSs.nox {st : List Stmt} {t : TS} (h : PSs X.nox st t) : PSs X st t := fun pins s σ H D I hw =>
  wpAny_mono (h pins s σ H D (I.wish _) hw) (fun _ _ q => q.unwish) fun _ _ z => False.elim z
end
section
variable {X : Cx} {st : Stmt} {rest : List Stmt} {t u : TS} {e : Expr} {te : TE} {pos : Pos}
def tNext : TS := fun D σ H => D.nx σ H
def tSeq (t u : TS) : TS := fun D σ H => t { D with nx := u D } σ H
theorem pss_nil : PSs X [] tNext := fun _ _ σ H _ I h => wpAny_execs_nil ⟨σ, H, I, h⟩
theorem pss_cons (h1 : PS X st t) (h2 : PSs X rest u) : PSs X (st :: rest) (tSeq t u) := by
  intro pins s σ H D I h
  refine wpAny_execs_cons (thn (h1 pins s σ H { D with nx := u D } I h) fun f s1 q => ?_)
  cases f with
  | next =>
    obtain ⟨σ', H', I', q⟩ := q
    exact h2 pins s1 σ' H' D I' q
  | ret v => exact q
  | brk => exact q
  | cont => exact q
theorem pss_one (h1 : PS X st t) : PSs X [st] t := by
  intro pins s σ H D I h
  refine wpAny_execs_cons (thn (h1 pins s σ H D I h) fun f s1 q => ?_)
  cases f with
  | next => exact wpAny_execs_nil q
  | ret v => exact q
  | brk => exact q
  | cont => exact q
theorem Inv.quiet {pins : List (Addr × Obj)} {σ : St} {H : Hp} {s : Shared} (I : Inv X pins σ H s) : interactive X.env = false := by simp [interactive, I.ok.kind]
def tDrop (te : TE) : TS := fun D σ H => te σ H fun _ H1 => D.nx σ H1
theorem ps_expr (he : PE X e te) (hs : swapsWith e none pos.line X.env = pure false := by rfl) : PS X (.Expr e pos) (tDrop te) := by
  intro pins s σ H D I h
  exact wpAny_Expr_any (thn (he pins s σ H _ I h) fun v s1 ⟨x, H1, I1, r1, q1⟩ => ⟨σ, H1, I1, q1⟩) I.quiet hs
def tRet (te : TE) : TS := fun D σ H => te σ H D.rt
theorem ps_ret (he : PE X e te) : PS X (.Return (some e) pos) (tRet te) := by
  intro pins s σ H D I h
  exact wpAny_Return_some (thn (he pins s σ H _ I h) fun v s1 ⟨x, H1, I1, r1, q1⟩ => ⟨x, σ, H1, I1, r1, q1⟩)
def tIfS (c : TT) (t u : TS) : TS := fun D σ H => c σ H fun b H1 => if b = true then t D σ H1 else u D σ H1
theorem ps_if {c : Expr} {a b : List Stmt} {tc : TT} (hc : PT X c tc) (ha : PSs X a t) (hb : PSs X b u) : PS X (.If c a b pos) (tIfS tc t u) := by
  intro pins s σ H D I h
  refine wpAny_If (thn (hc pins s σ H _ I h) fun d s1 hq__ => ?_)
  obtain ⟨H1, I1, q1⟩ := hq__
  cases d with
  | true => exact ha pins s1 σ H1 D I1 q1
  | false => exact hb pins s1 σ H1 D I1 q1
end
abbrev TG := V → St → Hp → (St → Hp → Prop) → Prop
abbrev TGs := List V → St → Hp → (St → Hp → Prop) → Prop
def PG (X : Cx) (target : Expr) (t : TG) : Prop :=
  ∀ (pins : List (Addr × Obj)) (s : Shared) (σ : St) (H : Hp) (v : V) (u : Value) (Q : St → Hp → Prop), Inv X pins σ H s → RelV v u → t v σ H Q →
    wpAny (model X.prog X.w) X.A (assign target X.env u) (fun _ s' => ∃ σ' H', Inv X pins σ' H' s' ∧ Q σ' H') X.xe s
def PGs (X : Cx) (ts : List Expr) (t : TGs) : Prop :=
  ∀ (pins : List (Addr × Obj)) (s : Shared) (σ : St) (H : Hp) (vs : List V) (us : List Value) (Q : St → Hp → Prop), Inv X pins σ H s → Vals vs us → t vs σ H Q →
    wpAny (model X.prog X.w) X.A (assignInOrder ((assignEach ts X.env).map (·.2)) us) (fun _ s' => ∃ σ' H', Inv X pins σ' H' s' ∧ Q σ' H') X.xe s
abbrev TIp := V → V → Hp → VK → Prop
def PIp (X : Cx) (op : Operator) (t : TIp) : Prop :=
  ∀ (pins : List (Addr × Obj)) (s : Shared) (σ : St) (H : Hp) (x y : V) (v u : Value) (Q : VK), Inv X pins σ H s → RelV x v → RelV y u → t x y H Q →
    wpAny (model X.prog X.w) X.A (inplaceOp op v u) (EP X pins σ Q) X.xe s
section
variable {X : Cx} {pos : Pos}
def gName (i : Nat) : TG := fun v σ H Q => Q (σ.set i (some v)) H
theorem pg_name {i : Nat} {x : Str} (hN : X.N.Nodup) (hi : X.N[i]? = some x) (hx : Loc X.env.scope x) (hf : X.fn x = true ∨ X.env.scope.names.lookup x = some .local := by first | exact .inl rfl | exact .inr rfl | assumption) : PG X (.Name x pos) (gName i) := by
  intro pins s σ H v u Q I r h
  exact wpAny_assign_Name (store_ok I hN hi hx r (fun s' I' => ⟨_, H, I', h⟩) hf)
def gNil : TGs := fun vs σ H Q => vs = [] ∧ Q σ H
def gCons (t : TG) (u : TGs) : TGs := fun vs σ H Q => ∃ v r, vs = v :: r ∧ t v σ H fun σ' H' => u r σ' H' Q
theorem pgs_nil : PGs X [] gNil := by
  intro pins s σ H vs us Q I r h
  obtain ⟨e, h⟩ := h
  subst e
  cases r
  exact assignInOrder_nil ⟨σ, H, I, h⟩
theorem pgs_cons {e : Expr} {es : List Expr} {t : TG} {u : TGs} (h1 : PG X e t) (h2 : PGs X es u)
    (hs : (assignEach (e :: es) X.env).map (·.2) = assign e X.env :: (assignEach es X.env).map (·.2) := by rfl) : PGs X (e :: es) (gCons t u) := by
  intro pins s σ H vs us Q I r h
  obtain ⟨v, vr, e1, h⟩ := h
  subst e1
  cases r with
  | cons r rr =>
    rw [hs]
    refine assignInOrder_cons (thn (h1 pins s σ H _ _ _ I r h) fun _ s1 hq__ => ?_)
    obtain ⟨σ1, H1, I1, q1⟩ := hq__
    exact h2 pins s1 σ1 H1 _ _ Q I1 rr q1
def gTup (K : PySem.W.Frag) (n : Nat) (t : TGs) : TG := fun v σ H Q => ∃ a xs, v = .ref a ∧ SqT K H a xs ∧ xs.length = n ∧ t xs σ H Q
theorem pg_tup {es : List Expr} {k : Nat} {t : TGs} {n : Nat} (hc : X.calm = true) (h : PGs X es t)
    (hn : (assignEach es X.env).length = n := by rfl) (hst : (assignEach es X.env).findIdx? (·.1) = none := by rfl) : PG X (.Tuple es k pos) (gTup X.K n t) := by
  intro pins s σ H v u Q I r hw
  obtain ⟨a, xs, e1, hq, hl, hw⟩ := hw
  subst e1
  cases r
  obtain ⟨its, rv, ht, hz⟩ := I.tuple hq
  refine assign_Tuple_tuple (I.ok.hd hc) ht (by simp [hn, ← hl, rv.length]) hst fun h' hx => ?_
  have I1 : Inv X pins σ H { s with heap := h' } := I.kept (t' := s.toks) fun b o e => hx b o (Nat.ne_of_lt (Heap.lt_size e)) e
  exact h pins _ σ H xs _ Q I1 (by simpa using rv) hw
def tAsg (te : TE) (g : TG) : TS := fun D σ H => te σ H fun x H1 => g x σ H1 D.nx
theorem ps_set {i : Nat} {x : Str} {e : Expr} {te : TE} {pos' : Pos} (hN : X.N.Nodup) (hi : X.N[i]? = some x) (hx : Loc X.env.scope x) (he : PE X e te) (hs : swapsWith e (some (.Name x pos')) pos.line X.env = pure false := by rfl) (hf : X.fn x = true ∨ X.env.scope.names.lookup x = some .local := by first | exact .inl rfl | exact .inr rfl | assumption) :
    PS X (.Assign [.Name x pos'] e pos) (tAsg te (gName i)) := by
  intro pins s σ H D I h
  refine wpAny_Assign_Name (thn (he pins s σ H _ I h) fun v s1 hq__ => ?_) hs
  obtain ⟨y, H1, I1, r1, q1⟩ := hq__
  exact store_ok I1 hN hi hx r1 (fun s2 I2 => ⟨_, H1, I2, q1⟩) hf
def tPar (i j : Nat) (ta : TA) : TS := fun D σ H => ta σ H fun vs H1 => ∃ v w, vs = [v, w] ∧ D.nx ((σ.set i (some v)).set j (some w)) H1
theorem ps_par {i j : Nat} {x y : Str} {a b : Expr} {ta : TA} {px py pt : Pos} {kt k2 pt2} (hc : X.calm = true) (hN : X.N.Nodup) (hi : X.N[i]? = some x) (hj : X.N[j]? = some y) (hij : i ≠ j)
    (hx : X.env.scope.names.lookup x = some .local) (hy : X.env.scope.names.lookup y = some .local) (ha : PA X [a, b] ta)
    (hw : swappedStores [.Tuple [.Name x px, .Name y py] kt pt] (.Tuple [a, b] k2 pt2) X.env = pure (some [x, y]))
    (hs : swapsWithSole [.Tuple [.Name x px, .Name y py] kt pt] (.Tuple [a, b] k2 pt2) pos.line X.env = pure false := by rfl) :
    PS X (.Assign [.Tuple [.Name x px, .Name y py] kt pt] (.Tuple [a, b] k2 pt2) pos) (tPar i j ta) := by
  intro pins s σ H D I h
  rw [exec_Assign_arm]
  refine wpAny_bind (wpAny_standAt ?_)
  rw [hs]
  refine wpAny_bind (wpAny_pure ?_)
  rw [if_neg (by decide)]
  refine wpAny_bind (Tuple_ (thn (ha _ pins s σ H _ I h) fun us s1 hq__ => ?_))
  obtain ⟨vs, H1, I1, r1, q1⟩ := hq__
  obtain ⟨v, w, e1, q1⟩ := q1
  subst e1
  obtain ⟨u1, u2, rfl, rv, rw'⟩ : ∃ u1 u2, us = [u1, u2] ∧ RelV v u1 ∧ RelV w u2 := by
    cases r1 with
    | cons p q =>
      cases q with
      | cons p' q' =>
        cases q'
        exact ⟨_, _, rfl, p, p'⟩
  refine wpAny_newObj_type ?_ (by show 2 ≤ sizeLine; decide)
  have I2 : Inv X pins σ H1 { s1 with heap := s1.heap.push { cls := .type "tuple", data := .seq [u1, u2].toArray } } := I1.kept (t' := s1.toks) fun b o e => Heap.get?_push_of_some _ e
  rw [hw]
  refine wpAny_bind (wpAny_pure ?_)
  show wpAny (model X.prog X.w) X.A (do rule "assign.swapped-stores"; let items ← unpackItems (.ref s1.heap.objs.size) 2 none; assignInOrder [fun v => bindName X.env y v, fun v => bindName X.env x v] items.reverse; pure Flow.next) _ _ _
  refine wpAny_bind (wpAny_rule (wpAny_bind (unpackItems_tuple (items := #[u1, u2]) (I.ok.hd hc) (IsTup.new s1.heap _) fun h' hx' => ?_)))
  have I3 := I2.kept (h' := h') (t' := s1.toks) fun b o e => hx' b o (Nat.ne_of_lt (Heap.lt_size e)) e
  show wpAny _ _ (assignInOrder [fun v => bindName X.env y v, fun v => bindName X.env x v] [u2, u1] >>= fun _ => pure Flow.next) _ _ _
  refine wpAny_bind (assignInOrder_cons (wpAny_bindName (store_ok I3 hN hj (.inl hy) rw' (fun s2 I4 => ?_) (.inr hy))))
  refine assignInOrder_cons (wpAny_bindName (store_ok I4 hN hi (.inl hx) rv (fun s3 I5 => assignInOrder_nil (wpAny_pure ?_)) (.inr hx)))
  rw [List.set_comm _ _ (Ne.symm hij)] at I5
  exact ⟨_, H1, I5, q1⟩
def tAug (i : Nat) (te : TE) (ti : TIp) : TS := fun D σ H => ∃ x, σ[i]? = some (some x) ∧ te σ H fun y H1 => ti x y H1 fun z H2 => D.nx (σ.set i (some z)) H2
theorem ps_aug {i : Nat} {x : Str} {e : Expr} {te : TE} {op : Operator} {ti : TIp} {pos' : Pos} (hN : X.N.Nodup) (hi : X.N[i]? = some x) (hx : Loc X.env.scope x) (he : PE X e te) (ho : PIp X op ti) (hf : X.fn x = true ∨ X.env.scope.names.lookup x = some .local := by first | exact .inl rfl | exact .inr rfl | assumption) :
    PS X (.AugAssign (.Name x pos') op e pos) (tAug i te ti) := by
  intro pins s σ H D I h
  obtain ⟨v, e1, h⟩ := h
  obtain ⟨m, hn, hl⟩ := I.loc
  have vis : Vis X.env.scope x := by rcases hx with k | k; exact .inl k; exact .inr (.inl k)
  obtain ⟨u, r, l⟩ := hl i x v hi e1 vis
  refine wpAny_AugAssign_Name ?_
  have go : wpAny (model X.prog X.w) X.A (eval e X.env) (fun w s₂ => wpAny (model X.prog X.w) X.A (inplaceOp op u w) (fun r s₃ => wpAny (model X.prog X.w) X.A (storeName X.env x r) (fun _ => SP X pins D .next) X.xe s₃) X.xe s₂) X.xe s := by
    refine thn (he pins s σ H _ I h) fun w s1 hq__ => ?_
    obtain ⟨y, H1, I1, r1, q1⟩ := hq__
    refine thn (ho pins s1 σ H1 v y u w _ I1 r r1 q1) fun z s2 hq__ => ?_
    obtain ⟨zv, H2, I2, r2, q2⟩ := hq__
    exact store_ok I2 hN hi hx r2 (fun s3 I3 => ⟨_, H2, I3, q2⟩) hf
  rcases l with ⟨hk, hm⟩ | ⟨hk, c, hc, hcell⟩
  · exact wpAny_loadName_local I.ok.kind hk hn hm go
  · rcases hk with hk | hk
    · exact wpAny_loadName_cell I.ok.kind hk hc hcell go
    · rcases hx with k | k
      · have : X.env.scope.names.lookup x = some .free := hk
        rw [k] at this; cases this
      · have : X.env.scope.names.lookup x = some .free := hk
        rw [k] at this; cases this
end
section
variable {X : Cx} {pos : Pos}
def tWhile (c : TT) (tb : TS) : TS := fun D σ H => ∃ W : Nat → St → Hp → Prop, (∃ m, W m σ H) ∧ ∀ m σ H, W m σ H →
  c σ H fun b H1 => if b = true then ∃ N : St → Hp → Prop, (∀ σ' H', N σ' H' → ∃ m', m' < m ∧ W m' σ' H') ∧ tb { D with nx := N, ct := N, bk := D.nx } σ H1 else D.nx σ H1
theorem ps_while {c : Expr} {body : List Stmt} {tc : TT} {tb : TS} (hp : PassesOwn (model X.prog X.w) X.A X.env X.xe) (hc : PT X c tc) (hb : PSs X body tb) : PS X (.While c body [] pos) (tWhile tc tb) := by
  intro pins s σ H D I h
  obtain ⟨W, ⟨m0, w0⟩, turn⟩ := h
  refine wpAny_While (codeAny_whileLoop (fun n s' => ∃ σ' H', Inv X pins σ' H' s' ∧ W n σ' H') ?_ m0 ⟨σ, H, I, w0⟩)
  rintro n s1 ⟨σ1, H1, I1, w1⟩
  refine wpAny_passesOwn hp (thn (hc pins s1 σ1 H1 _ I1 (turn n σ1 H1 w1)) fun b s2 hq__ => ?_)
  obtain ⟨H2, I2, q2⟩ := hq__
  cases b with
  | true =>
    obtain ⟨N, hN, q2⟩ := q2
    rw [if_pos rfl]
    refine wpAny_passesOwn hp (thn (hb pins s2 σ1 H2 _ I2 q2) fun f s3 q3 => ?_)
    cases f with
    | next =>
      obtain ⟨σ3, H3, I3, n3⟩ := q3
      obtain ⟨m', hm, w3⟩ := hN σ3 H3 n3
      exact ⟨m', hm, σ3, H3, I3, w3⟩
    | cont =>
      obtain ⟨σ3, H3, I3, n3⟩ := q3
      obtain ⟨m', hm, w3⟩ := hN σ3 H3 n3
      exact ⟨m', hm, σ3, H3, I3, w3⟩
    | brk => exact q3
    | ret v => exact q3
  | false =>
    rw [if_neg Bool.false_ne_true]
    exact wpAny_execs_nil ⟨σ1, H2, I2, q2⟩
end
structure It where
  go : Nat → Hp → Prop
  yld : Nat → Hp → V → Hp → Prop
  stop : Nat → Hp → Prop
def FpOk (X : Cx) (pins : List (Addr × Obj)) (H : Hp) (b : Addr) : Prop :=
  H b = none ∧ b ≠ X.env.locals ∧ b ∉ X.fs ∧ (b ∈ X.ex ∨ X.s₀.heap.objs.size ≤ b) ∧ (∀ x c, X.env.cells.lookup x = some c → c ≠ b) ∧ ∀ p ∈ X.pn ++ pins, p.1 ≠ b
theorem Inv.fpOk {X : Cx} {pins : List (Addr × Obj)} {σ : St} {H H' : Hp} {s : Shared} {b : Addr} (I : Inv X pins σ H s) (hb : s.heap.objs.size ≤ b) (hn : H' b = none) : FpOk X pins H' b := by
  refine ⟨hn, Nat.ne_of_gt (Nat.lt_of_lt_of_le I.lt hb), I.nofs hb, .inr (Nat.le_trans I.sz hb), fun x c e z => ?_, fun p hp z => ?_⟩
  · obtain ⟨v, q⟩ := I.cell x c e
    exact absurd (Nat.lt_of_lt_of_le q.lt (by rw [z]; exact hb)) (Nat.lt_irrefl _)
  · exact absurd (Nat.lt_of_lt_of_le (Heap.lt_size (I.pin p hp).1) (by rw [z]; exact hb)) (Nat.lt_irrefl _)
structure Turn (P : Program) (w : World) (K : PySem.W.Frag) (tg : Expr) (J : It) (fp : List Addr) (it : Addr) (tn : Nat → Heap → Prop) : Prop where
  mem : it ∈ fp
  obj : ∀ i h, tn i h → ∀ b ∈ fp, ∃ o, h.get? b = some o ∧ ∀ v, o.data ≠ .cell v
  keep : ∀ i h h', tn i h → (∀ b ∈ fp, ∀ o, h.get? b = some o → h'.get? b = some o) → tn i h'
  item : ∀ (X : Cx), X.prog = P → X.w = w → X.K = K → X.calm = true → ∀ (i : Nat) (pins : List (Addr × Obj)) (s : Shared) (σ : St) (H : Hp) (E : Value → Shared → Prop), Inv X pins σ H s → (∀ b ∈ fp, FpOk X pins H b) → tn i s.heap → J.go i H →
    wpAny (model P w) X.A (pyNext (.ref it)) (fun r s1 => ∃ u, r = some u ∧
      wpAny (model P w) X.A (letOwnedTupleGo tg (.ref it) u) (fun _ s2 => ∃ x H', Inv X pins σ H' s2 ∧ RelV x u ∧ J.yld i H x H' ∧ tn (i + 1) s2.heap ∧ ∀ b ∈ fp, H' b = none) E s1) E s
  done : ∀ (X : Cx), X.prog = P → X.w = w → X.K = K → X.calm = true → ∀ (i : Nat) (pins : List (Addr × Obj)) (s : Shared) (σ : St) (H : Hp) (E : Value → Shared → Prop), Inv X pins σ H s → (∀ b ∈ fp, FpOk X pins H b) → tn i s.heap → J.stop i H →
    wpAny (model P w) X.A (pyNext (.ref it)) (fun r s1 => r = none ∧ Inv X pins σ H s1) E s
  self : ∀ (A : Around) (i : Nat) (s : Shared) (Q : Value → Shared → Prop) (E : Value → Shared → Prop), tn i s.heap → Q (.ref it) s → wpAny (model P w) A (pyIter (.ref it)) Q E s
abbrev TI := St → Hp → (It → Hp → Prop) → Prop
def PIE (X : Cx) (pins : List (Addr × Obj)) (σ : St) (tg : Expr) (R : It → Hp → Prop) (itv : Value) (s2 : Shared) : Prop :=
  ∃ (it : Addr) (fp : List Addr) (tn : Nat → Heap → Prop) (J : It) (H' : Hp), itv = .ref it ∧ Inv X pins σ H' s2 ∧ Turn X.prog X.w X.K tg J fp it tn ∧ tn 0 s2.heap ∧ (∀ b ∈ fp, FpOk X pins H' b) ∧ R J H'
def PI (X : Cx) (tg iter : Expr) (wi : TI) : Prop :=
  ∀ (pins : List (Addr × Obj)) (s : Shared) (σ : St) (H : Hp) (R : It → Hp → Prop), Inv X pins σ H s → wi σ H R →
    wpAny (model X.prog X.w) X.A (eval iter X.env) (fun v s1 => wpAny (model X.prog X.w) X.A (pyIter v) (PIE X pins σ tg R) X.xe s1) X.xe s
theorem go_of {M : Model} {A : Around} {E : Value → Shared → Prop} {s : Shared} {tg : Expr} {it : Addr} {u : Value} {o : Obj} {n : String} {vs : Array Value} {Q : Unit → Shared → Prop} (ho : s.heap.get? it = some o) (hc : o.cls = .type n) (hd : o.data = .fields vs)
    (hn : ["enumerate", "zip", "dict_itemiterator", "dict_reverseitemiterator", "odict_iterator", "itertools.zip_longest", "itertools.pairwise"].contains n = false) (hQ : Q () s) : wpAny M A (letOwnedTupleGo tg (.ref it) u) Q E s := by
  unfold letOwnedTupleGo
  cases tg <;> first
    | exact wpAny_pure hQ
    | (cases u <;> first
        | exact wpAny_pure hQ
        | (refine wpAny_bind (wpAny_load ho ?_)
           rw [hc, hd]
           show wpAny M A (if (["enumerate", "zip", "dict_itemiterator", "dict_reverseitemiterator", "odict_iterator", "itertools.zip_longest", "itertools.pairwise"].contains n && vs[0]? == some (rawInt _)) = true then _ else _) Q E s
           rw [if_neg (by intro h; rw [hn, Bool.false_and] at h; cases h)]
           exact wpAny_pure hQ))
def Itl (K : PySem.W.Frag) (a : Addr) : It :=
  ⟨fun i H => ∃ xs x, SqL K H a xs ∧ xs[i]? = some x, fun i H x H' => H' = H ∧ ∀ xs, SqL K H a xs → xs[i]? = some x, fun i H => ∃ xs, SqL K H a xs ∧ xs.length ≤ i⟩
def Itt (K : PySem.W.Frag) (a : Addr) : It :=
  ⟨fun i H => ∃ xs x, SqT K H a xs ∧ xs[i]? = some x, fun i H x H' => H' = H ∧ ∀ xs, SqT K H a xs → xs[i]? = some x, fun i H => ∃ xs, SqT K H a xs ∧ xs.length ≤ i⟩
def Itr (lo : Int) (n : Nat) : It := ⟨fun i _ => i < n, fun i H x H' => H' = H ∧ x = .int (lo + i), fun i _ => n ≤ i⟩
theorem turn_list {P : Program} {w : World} {K : PySem.W.Frag} {tg : Expr} (a it : Addr) : Turn P w K tg (Itl K a) [it] it (fun i h => h.IsListIter it a i) where
  mem := by simp
  obj := fun i h st b hb => by
    have e : b = it := by simpa using hb
    subst e
    obtain ⟨o, e, c, d⟩ := st
    exact ⟨o, e, fun v z => by rw [d] at z; cases z⟩
  keep := fun i h h' st k => st.at fun o e => k it (by simp) o e
  item := by
    intro X hP hw hK hc i pins s σ H E I hf st hg
    subst hP hw hK
    obtain ⟨xs, x, hq, hx⟩ := hg
    obtain ⟨its, rv, p, hz⟩ := I.list hq
    obtain ⟨u, hu, ru⟩ := rv.get hx
    obtain ⟨f0, f1, f2, f3, f4, f5⟩ := hf it (by simp)
    refine wpAny_pyNext_list_item st p.isList (x := u) (by simpa using hu) fun h' st' sb => ?_
    have I1 : Inv X pins σ H { s with heap := h' } := I.turned (t' := s.toks) (fun b o hb e => (sb.2 b hb).trans e) f0 f1 f3 f4 f5
    obtain ⟨o, e, c, d⟩ := id st'
    exact ⟨u, rfl, go_of (s := { s with heap := h' }) e c d (by decide) ⟨x, H, I1, ru, ⟨rfl, fun ys hy => by rw [I.list_inj hy hq]; exact hx⟩, st', fun b hb => (hf b hb).1⟩⟩
  done := by
    intro X hP hw hK hc i pins s σ H E I hf st hg
    subst hP hw hK
    obtain ⟨xs, hq, hx⟩ := hg
    obtain ⟨its, rv, p, hz⟩ := I.list hq
    obtain ⟨f0, f1, f2, f3, f4, f5⟩ := hf it (by simp)
    have hl := rv.length
    exact wpAny_pyNext_list_end (I.ok.hd hc) st p.isList (by simp; omega) fun h' eb => ⟨rfl, I.turned (t' := s.toks) (fun b o hb e => eb b o hb e) f0 f1 f3 f4 f5⟩
  self := fun _ _ _ _ _ st h => wpAny_pyIter_listiter st h
theorem turn_tuple {P : Program} {w : World} {K : PySem.W.Frag} {tg : Expr} (a it : Addr) : Turn P w K tg (Itt K a) [it] it (fun i h => h.IsTupleIter it a i) where
  mem := by simp
  obj := fun i h st b hb => by
    have e : b = it := by simpa using hb
    subst e
    obtain ⟨o, e, c, d⟩ := st
    exact ⟨o, e, fun v z => by rw [d] at z; cases z⟩
  keep := fun i h h' st k => st.at fun o e => k it (by simp) o e
  item := by
    intro X hP hw hK hc i pins s σ H E I hf st hg
    subst hP hw hK
    obtain ⟨xs, x, hq, hx⟩ := hg
    obtain ⟨its, rv, p, hz⟩ := I.tuple hq
    obtain ⟨u, hu, ru⟩ := rv.get hx
    obtain ⟨f0, f1, f2, f3, f4, f5⟩ := hf it (by simp)
    refine wpAny_pyNext_tuple_item st (show s.heap.IsTuple a its.toArray from p) (x := u) (by simpa using hu) fun h' st' sb => ?_
    have I1 : Inv X pins σ H { s with heap := h' } := I.turned (t' := s.toks) (fun b o hb e => (sb.2 b hb).trans e) f0 f1 f3 f4 f5
    obtain ⟨o, e, c, d⟩ := id st'
    exact ⟨u, rfl, go_of (s := { s with heap := h' }) e c d (by decide) ⟨x, H, I1, ru, ⟨rfl, fun ys hy => by rw [I.tuple_inj hy hq]; exact hx⟩, st', fun b hb => (hf b hb).1⟩⟩
  done := by
    intro X hP hw hK hc i pins s σ H E I hf st hg
    subst hP hw hK
    obtain ⟨xs, hq, hx⟩ := hg
    obtain ⟨its, rv, p, hz⟩ := I.tuple hq
    obtain ⟨f0, f1, f2, f3, f4, f5⟩ := hf it (by simp)
    have hl := rv.length
    exact wpAny_pyNext_tuple_end (I.ok.hd hc) st (show s.heap.IsTuple a its.toArray from p) (by simp; omega) fun h' eb => ⟨rfl, I.turned (t' := s.toks) (fun b o hb e => eb b o hb e) f0 f1 f3 f4 f5⟩
  self := fun _ _ _ _ _ st h => wpAny_pyIter_tupleiter st h
theorem turn_range {P : Program} {w : World} {K : PySem.W.Frag} {tg : Expr} (it : Addr) (lo : Int) (n : Nat) : Turn P w K tg (Itr lo n) [it] it (fun i h => IsRangeIter h it (lo + (i : Nat) * 1) ((n : Int) - (i : Nat)) 1) where
  mem := by simp
  obj := fun i h st b hb => by
    have e : b = it := by simpa using hb
    subst e
    exact ⟨_, st, fun v z => by
      have z' : Data.fields _ = Data.cell v := z
      cases z'⟩
  keep := fun i h h' st k => k it (by simp) _ st
  item := by
    intro X hP hw hK hc i pins s σ H E I hf st hg
    subst hP hw hK
    obtain ⟨f0, f1, f2, f3, f4, f5⟩ := hf it (by simp)
    have W := Walks.range (prog := X.prog) (w := X.w) (I.ok.hd hc) it lo 1 n
    refine W.item i s _ _ hg st fun v h' tk hv st' kk => ?_
    obtain ⟨t, rfl⟩ := hv
    have I1 : Inv X pins σ H { s with heap := h', toks := tk } := I.turned (fun b o hb e => kk b o (by simpa using hb) e) f0 f1 f3 f4 f5
    refine ⟨_, rfl, go_of (s := { s with heap := h', toks := tk }) (n := "range_iterator") st' rfl rfl (by decide) ⟨.int (lo + i), H, I1, ⟨t, ?_⟩, ⟨rfl, rfl⟩, st', fun b hb => (hf b hb).1⟩⟩
    rw [Int.mul_one]
  done := by
    intro X hP hw hK hc i pins s σ H E I hf st hg
    subst hP hw hK
    obtain ⟨f0, f1, f2, f3, f4, f5⟩ := hf it (by simp)
    exact wpAny_pyNext_range_end (I.ok.hd hc) st (by have : n ≤ i := hg; omega) fun h' eb => ⟨rfl, I.turned (t' := s.toks) (fun b o hb e => eb b o hb e) f0 f1 f3 f4 f5⟩
  self := fun _ _ _ _ _ st h => wpAny_pyIter_rangeiter st h
end L2
namespace L2
open PySem PySem.Spec PyProof.Rows
section
variable {X : Cx} {tg : Expr}
def iList (K : PySem.W.Frag) (tl : TE) : TI := fun σ H R => tl σ H fun x H1 => ∃ a, x = .ref a ∧ (∃ xs, SqL K H1 a xs) ∧ R (Itl K a) H1
def iTup (K : PySem.W.Frag) (tl : TE) : TI := fun σ H R => tl σ H fun x H1 => ∃ a, x = .ref a ∧ (∃ xs, SqT K H1 a xs) ∧ R (Itt K a) H1
theorem pi_list {l : Expr} {tl : TE} (hl : PE X l tl) : PI X tg l (iList X.K tl) := by
  intro pins s σ H R I h
  refine thn (hl pins s σ H _ I h) fun v s1 hq__ => ?_
  obtain ⟨x, H1, I1, r1, q1⟩ := hq__
  obtain ⟨a, e, ⟨xs, hq⟩, q⟩ := q1
  subst e
  cases r1
  obtain ⟨its, rv, p, hz⟩ := I1.list hq
  refine wpAny_pyIter_list p.isList ?_
  refine ⟨s1.heap.objs.size, [s1.heap.objs.size], _, _, H1, rfl, I1.kept (t' := s1.toks) fun b o e => Heap.get?_push_of_some _ e, turn_list a _, ⟨_, Heap.get?_push_size _ rfl, rfl, rfl⟩, fun b hb => ?_, q⟩
  have e : b = s1.heap.objs.size := by simpa using hb
  subst e
  exact I1.fpOk (Nat.le_refl _) (I1.hok.fresh (Nat.le_refl _))
theorem pi_tup {l : Expr} {tl : TE} (hl : PE X l tl) : PI X tg l (iTup X.K tl) := by
  intro pins s σ H R I h
  refine thn (hl pins s σ H _ I h) fun v s1 hq__ => ?_
  obtain ⟨x, H1, I1, r1, q1⟩ := hq__
  obtain ⟨a, e, ⟨xs, hq⟩, q⟩ := q1
  subst e
  cases r1
  obtain ⟨its, rv, p, hz⟩ := I1.tuple hq
  refine wpAny_pyIter_tuple (show s1.heap.IsTuple a its.toArray from p) ?_
  refine ⟨s1.heap.objs.size, [s1.heap.objs.size], _, _, H1, rfl, I1.kept (t' := s1.toks) fun b o e => Heap.get?_push_of_some _ e, turn_tuple a _, ⟨_, Heap.get?_push_size _ rfl, rfl, rfl⟩, fun b hb => ?_, q⟩
  have e : b = s1.heap.objs.size := by simpa using hb
  subst e
  exact I1.fpOk (Nat.le_refl _) (I1.hok.fresh (Nat.le_refl _))
theorem range_it {pins : List (Addr × Obj)} {σ : St} {H : Hp} {s : Shared} {R : It → Hp → Prop} {E : Value → Shared → Prop} {lo hi : Int} {t u v : Tok} {tk : Nat} (I : Inv X pins σ H s) (h1 : -(2 ^ 62) ≤ lo) (h2 : lo < 2 ^ 62) (h3 : -(2 ^ 62) ≤ hi) (h4 : hi < 2 ^ 62)
    (q : R (Itr lo (hi - lo).toNat) H) : wpAny (model X.prog X.w) X.A (pyIter (.ref s.heap.objs.size)) (PIE X pins σ tg R) E { s with heap := s.heap.push { cls := .type "range", data := .fields #[.int lo t, .int hi u, .int 1 v] }, toks := tk } := by
  refine wpAny_pyIter_range (IsRange.new ..) (small_one h1 h2 h3 h4) ?_
  have I1 : Inv X pins σ H { s with heap := s.heap.push { cls := .type "range", data := .fields #[.int lo t, .int hi u, .int 1 v] }, toks := tk } := I.kept fun b o e => Heap.get?_push_of_some _ e
  refine ⟨(s.heap.push { cls := .type "range", data := .fields #[.int lo t, .int hi u, .int 1 v] }).objs.size, [(s.heap.push { cls := .type "range", data := .fields #[.int lo t, .int hi u, .int 1 v] }).objs.size], _, _, H, rfl,
    I1.kept (t' := tk) fun b o e => Heap.get?_push_of_some _ e, turn_range _ lo (hi - lo).toNat, ?_, fun b hb => ?_, q⟩
  · have e1 : lo + ((0 : Nat) : Int) * 1 = lo := by simp
    have e2 : (((hi - lo).toNat : Nat) : Int) - ((0 : Nat) : Int) = Builtin.Range.rangeSize lo hi 1 := by rw [rangeSize_one]; split <;> omega
    show IsRangeIter _ _ (lo + ((0 : Nat) : Int) * 1) ((((hi - lo).toNat : Nat) : Int) - ((0 : Nat) : Int)) 1
    rw [e1, e2]
    exact Heap.get?_push_size _ rfl
  · have e : b = (s.heap.push { cls := .type "range", data := .fields #[.int lo t, .int hi u, .int 1 v] }).objs.size := by simpa using hb
    subst e
    exact I1.fpOk (Nat.le_refl _) (I1.hok.fresh (Nat.le_refl _))
def iRng1 (ta : TA) : TI := fun σ H R => ta σ H fun vs H1 => ∃ j : Int, vs = [.int j] ∧ -(2 ^ 62) ≤ j ∧ j < 2 ^ 62 ∧ R (Itr 0 j.toNat) H1
theorem pi_range1 {a : Expr} {ta : TA} {p pos : Pos} (hg : Gl X "range") (hm : X.mg "range" = none) (ha : PA X [a] ta) (hs : starEach [a] X.env = [(false, eval a X.env)] := by rfl) : PI X tg (.Call (.Name "range" p) [a] [] pos) (iRng1 ta) := by
  intro pins s σ H R I h
  refine Call_ (ld_blt I hg hm boot_range (PyProof.Rows.callWith_type1 (thn (ha pos pins s σ H _ I h) fun us s1 hq__ => ?_) hs rfl))
  obtain ⟨vs, H1, I1, r1, q1⟩ := hq__
  obtain ⟨j, e, q1, q2, q⟩ := q1
  subst e
  cases r1 with
  | cons r rr =>
    cases rr
    obtain ⟨t, rfl⟩ := r
    exact call_range_1 (range_it I1 (by omega) (by omega) q1 q2 (by simpa using q))
def tFor (wi : TI) (g : TG) (tb : TS) : TS := fun D σ H => wi σ H fun J H1 => ∃ W : Nat → Nat → St → Hp → Prop, (∃ m, W 0 m σ H1) ∧ ∀ i m σ H, W i m σ H →
  (J.stop i H ∧ D.nx σ H) ∨ (J.go i H ∧ ∃ N : St → Hp → Prop, (∀ σ' H', N σ' H' → ∃ m', m' < m ∧ W (i + 1) m' σ' H') ∧ ∀ x H', J.yld i H x H' → g x σ H' fun σ2 H2 => tb { D with nx := N, ct := N, bk := D.nx } σ2 H2)
def pinsAt (fp : List Addr) (h : Heap) : List (Addr × Obj) := fp.filterMap fun b => (h.get? b).map fun o => (b, o)
theorem mem_pinsAt {fp : List Addr} {h : Heap} {b : Addr} {o : Obj} (hb : b ∈ fp) (e : h.get? b = some o) : (b, o) ∈ pinsAt fp h := List.mem_filterMap.mpr ⟨b, hb, by rw [e]; rfl⟩
theorem of_pinsAt {fp : List Addr} {h : Heap} {p : Addr × Obj} (hp : p ∈ pinsAt fp h) : p.1 ∈ fp ∧ h.get? p.1 = some p.2 := by
  obtain ⟨b, hb, e⟩ := List.mem_filterMap.mp hp
  cases q : h.get? b with
  | none => rw [q] at e; cases e
  | some o =>
    rw [q] at e
    have e' : (b, o) = p := Option.some.inj e
    subst e'
    exact ⟨hb, q⟩
theorem Inv.pinned {pins : List (Addr × Obj)} {σ : St} {H : Hp} {s : Shared} {fp : List Addr} (I : Inv X pins σ H s) (hf : ∀ b ∈ fp, FpOk X pins H b) (ho : ∀ b ∈ fp, ∃ o, s.heap.get? b = some o ∧ ∀ v, o.data ≠ .cell v) : Inv X (pins ++ pinsAt fp s.heap) σ H s :=
  I.pins_of fun p hp => (List.mem_append.mp hp).elim (fun z => I.pin p (List.mem_append_right _ z)) fun z => by
    obtain ⟨hb, e⟩ := of_pinsAt z
    obtain ⟨f0, f1, f2, _⟩ := hf p.1 hb
    obtain ⟨o, e', d⟩ := ho p.1 hb
    rw [e] at e'; cases e'
    exact ⟨e, f0, f1, f2, d⟩
theorem Inv.unpinned {pins pl : List (Addr × Obj)} {σ : St} {H : Hp} {s : Shared} (I : Inv X (pins ++ pl) σ H s) : Inv X pins σ H s := I.pins_of fun p hp => I.pin p (List.mem_append_right _ (List.mem_append_left _ hp))
theorem ps_for {iter : Expr} {body : List Stmt} {wi : TI} {g : TG} {tb : TS} {pos : Pos} (hp : PassesOwn (model X.prog X.w) X.A X.env X.xe) (hc : X.calm = true) (hi : PI X tg iter wi) (hg : PG X tg g) (hb : PSs X body tb)
    (hs : ∀ x, foldedSetIterable iter X.env x = pure x := by intro _; rfl) : PS X (.For tg iter body [] pos) (tFor wi g tb) := by
  intro pins s σ H D I h
  refine wpAny_For (thn (hi pins s σ H _ I h) fun v s1 h1 => thn h1 fun itv s2 h2 => ?_) hs
  obtain ⟨it, fp, tn, J, H2, e, I2, T, st2, f2, W, ⟨m0, w0⟩, turn⟩ := h2
  subst e
  have stat : ∀ {H' : Hp}, (∀ b ∈ fp, H' b = none) → ∀ b ∈ fp, FpOk X pins H' b := fun hn b hb => ⟨hn b hb, (f2 b hb).2⟩
  refine codeAny_forLoop_any (fun n s' => ∃ i σ' H', Inv X pins σ' H' s' ∧ tn i s'.heap ∧ (∀ b ∈ fp, H' b = none) ∧ W i n σ' H') ?_ m0 ⟨0, σ, H2, I2, st2, fun b hb => (f2 b hb).1, w0⟩
  rintro n s3 ⟨i, σ3, H3, I3, st3, fr3, w3⟩
  rcases turn i n σ3 H3 w3 with ⟨stop, qn⟩ | ⟨go, N, hN, step⟩
  · refine wpAny_passesOwn hp (thn (T.done X rfl rfl rfl hc i pins s3 σ3 H3 X.xe I3 (stat fr3) st3 stop) fun r s4 hq__ => ?_)
    obtain ⟨hr, I4⟩ := hq__
    subst hr
    exact wpAny_execs_nil ⟨σ3, H3, I4, qn⟩
  · refine wpAny_passesOwn hp (thn (T.item X rfl rfl rfl hc i pins s3 σ3 H3 X.xe I3 (stat fr3) st3 go) fun r s4 hq__ => ?_)
    obtain ⟨u, hr, h4⟩ := hq__
    subst hr
    refine wpAny_passesOwn hp (thn h4 fun _ s5 hq__ => ?_)
    obtain ⟨x, H5, I5, r5, y5, st5, fr5⟩ := hq__
    have I5' := I5.pinned (stat fr5) (T.obj _ _ st5)
    refine wpAny_passesOwn hp (thn (hg _ s5 σ3 H5 x u _ I5' r5 (step x H5 y5)) fun _ s6 hq__ => ?_)
    obtain ⟨σ6, H6, I6, q6⟩ := hq__
    refine wpAny_passesOwn hp (thn (hb _ s6 σ6 H6 _ I6 q6) fun f s7 q7 => ?_)
    have again : ∀ {σ7 : St} {H7 : Hp}, Inv X (pins ++ pinsAt fp s5.heap) σ7 H7 s7 → N σ7 H7 → ∃ m, m < n ∧ ∃ i σ' H', Inv X pins σ' H' s7 ∧ tn i s7.heap ∧ (∀ b ∈ fp, H' b = none) ∧ W i m σ' H' := fun {σ7 H7} I7 n7 => by
      obtain ⟨m', hm, w7⟩ := hN σ7 H7 n7
      refine ⟨m', hm, i + 1, σ7, H7, I7.unpinned, T.keep _ _ _ st5 fun b hb o e => (I7.pin (b, o) (List.mem_append_right _ (List.mem_append_right _ (mem_pinsAt hb e)))).1, fun b hb => ?_, w7⟩
      obtain ⟨o, e, d⟩ := T.obj _ _ st5 b hb
      exact (I7.pin (b, o) (List.mem_append_right _ (List.mem_append_right _ (mem_pinsAt hb e)))).2.1
    cases f with
    | next => obtain ⟨σ7, H7, I7, n7⟩ := q7; exact again I7 n7
    | cont => obtain ⟨σ7, H7, I7, n7⟩ := q7; exact again I7 n7
    | brk => obtain ⟨σ7, H7, I7, q7⟩ := q7; exact ⟨σ7, H7, I7.unpinned, q7⟩
    | ret v => obtain ⟨x7, σ7, H7, I7, r7, q7⟩ := q7; exact ⟨x7, σ7, H7, I7.unpinned, r7, q7⟩
end
theorem for_list {K : PySem.W.Frag} {a : Addr} {xs : List V} {g : TG} {tb : TS} {D : Ends} {σ : St} {H : Hp} (Pv : Nat → St → Hp → Prop) (h0 : Pv 0 σ H) (hl : ∀ i σ H, i ≤ xs.length → Pv i σ H → SqL K H a xs)
    (hs : ∀ i x σ H, xs[i]? = some x → Pv i σ H → g x σ H fun σ2 H2 => tb { D with nx := Pv (i + 1), ct := Pv (i + 1), bk := D.nx } σ2 H2) (hd : ∀ σ H, Pv xs.length σ H → D.nx σ H) :
    ∃ W : Nat → Nat → St → Hp → Prop, (∃ m, W 0 m σ H) ∧ ∀ i m σ H, W i m σ H →
      ((Itl K a).stop i H ∧ D.nx σ H) ∨ ((Itl K a).go i H ∧ ∃ N : St → Hp → Prop, (∀ σ' H', N σ' H' → ∃ m', m' < m ∧ W (i + 1) m' σ' H') ∧ ∀ x H', (Itl K a).yld i H x H' → g x σ H' fun σ2 H2 => tb { D with nx := N, ct := N, bk := D.nx } σ2 H2) := by
  refine ⟨fun i m σ H => m = xs.length - i ∧ i ≤ xs.length ∧ Pv i σ H, ⟨xs.length, by simp, Nat.zero_le _, h0⟩, ?_⟩
  rintro i m σ H ⟨rfl, hi, p⟩
  have q := hl i σ H hi p
  by_cases hlt : i < xs.length
  · refine .inr ⟨⟨xs, xs[i], q, by simp [hlt]⟩, Pv (i + 1), fun σ' H' p' => ⟨xs.length - (i + 1), by omega, rfl, hlt, p'⟩, fun x H' y => ?_⟩
    obtain ⟨e, y⟩ := y
    subst e
    exact hs i x σ _ (y xs q) p
  · have e : i = xs.length := by omega
    subst e
    exact .inl ⟨⟨xs, q, Nat.le_refl _⟩, hd σ H p⟩
theorem for_range {lo : Int} {n : Nat} {g : TG} {tb : TS} {D : Ends} {σ : St} {H : Hp} (Pv : Nat → St → Hp → Prop) (h0 : Pv 0 σ H)
    (hs : ∀ i σ H, i < n → Pv i σ H → g (.int (lo + i)) σ H fun σ2 H2 => tb { D with nx := Pv (i + 1), ct := Pv (i + 1), bk := D.nx } σ2 H2) (hd : ∀ σ H, Pv n σ H → D.nx σ H) :
    ∃ W : Nat → Nat → St → Hp → Prop, (∃ m, W 0 m σ H) ∧ ∀ i m σ H, W i m σ H →
      ((Itr lo n).stop i H ∧ D.nx σ H) ∨ ((Itr lo n).go i H ∧ ∃ N : St → Hp → Prop, (∀ σ' H', N σ' H' → ∃ m', m' < m ∧ W (i + 1) m' σ' H') ∧ ∀ x H', (Itr lo n).yld i H x H' → g x σ H' fun σ2 H2 => tb { D with nx := N, ct := N, bk := D.nx } σ2 H2) := by
  refine ⟨fun i m σ H => m = n - i ∧ i ≤ n ∧ Pv i σ H, ⟨n, by simp, Nat.zero_le _, h0⟩, ?_⟩
  rintro i m σ H ⟨rfl, hi, p⟩
  by_cases hlt : i < n
  · refine .inr ⟨hlt, Pv (i + 1), fun σ' H' p' => ⟨n - (i + 1), by omega, rfl, hlt, p'⟩, fun x H' y => ?_⟩
    obtain ⟨e, y⟩ := y
    subst e y
    exact hs i σ _ hlt p
  · have e : i = n := by omega
    subst e
    exact .inl ⟨Nat.le_refl _, hd σ H p⟩
theorem while_by {c : TT} {tb : TS} {D : Ends} {σ : St} {H : Hp} (Pv : St → Hp → Prop) (μ : St → Hp → Nat) (h0 : Pv σ H)
    (hs : ∀ σ H, Pv σ H → c σ H fun b H1 => if b = true then tb { D with nx := fun σ' H' => Pv σ' H' ∧ μ σ' H' < μ σ H, ct := fun σ' H' => Pv σ' H' ∧ μ σ' H' < μ σ H, bk := D.nx } σ H1 else D.nx σ H1)
    (mono : ∀ σ H Q Q', (∀ b H1, Q b H1 → Q' b H1) → c σ H Q → c σ H Q') : tWhile c tb D σ H := by
  refine ⟨fun m σ H => m = μ σ H ∧ Pv σ H, ⟨_, rfl, h0⟩, ?_⟩
  rintro m σ H ⟨rfl, p⟩
  refine mono σ H _ _ (fun b H1 q => ?_) (hs σ H p)
  cases b with
  | true => exact ⟨_, fun σ' H' ⟨p', l⟩ => ⟨_, l, rfl, p'⟩, q⟩
  | false => exact q
end L2
namespace L2
open PySem PySem.Spec PyProof.Rows
abbrev R2 := V → V → Hp → VK → Prop
def OpR (X : Cx) (f : Value → Value → Sem Value) (r : R2) : Prop :=
  ∀ (pins : List (Addr × Obj)) (s : Shared) (σ : St) (H : Hp) (x y : V) (v u : Value) (Q : VK), Inv X pins σ H s → RelV x v → RelV y u → r x y H Q →
    wpAny (model X.prog X.w) X.A (f v u) (EP X pins σ Q) X.xe s
def CallR (X : Cx) (f : Value) (r : List V → Hp → VK → Prop) : Prop :=
  ∀ (pins : List (Addr × Obj)) (s : Shared) (σ : St) (H : Hp) (xs : List V) (us : List Value) (Q : VK), Inv X pins σ H s → Vals xs us → r xs H Q →
    wpAny (model X.prog X.w) X.A (call f us) (EP X pins σ Q) X.xe s
def tOp (r : R2) (ta tb : TE) : TE := fun σ H Q => ta σ H fun x H1 => tb σ H1 fun y H2 => r x y H2 Q
def rI (C : Int → Int → Prop) (g : Int → Int → V) : R2 := fun x y H Q => ∃ i j, x = .int i ∧ y = .int j ∧ C i j ∧ Q (g i j) H
def rI0 (g : Int → Int → V) : R2 := fun x y H Q => ∃ i j, x = .int i ∧ y = .int j ∧ Q (g i j) H
section
variable {X : Cx} {a b c : Expr} {ta tb tc : TE} {pos : Pos}
theorem binT (ha : PE X a ta) (hb : PE X b tb) {pins : List (Addr × Obj)} {s : Shared} {σ : St} {H : Hp} {R : V → V → Hp → Prop} (I : Inv X pins σ H s)
    (h : ta σ H fun x H1 => tb σ H1 fun y H2 => R x y H2) {Q : Value → Shared → Prop} {f : Value → Value → Sem Value}
    (hf : ∀ v u s2 x y H2, Inv X pins σ H2 s2 → RelV x v → RelV y u → R x y H2 → wpAny (model X.prog X.w) X.A (f v u) Q X.xe s2) :
    wpAny (model X.prog X.w) X.A (eval a X.env) (fun v s₁ => wpAny (model X.prog X.w) X.A (eval b X.env) (fun u s₂ => wpAny (model X.prog X.w) X.A (f v u) Q X.xe s₂) X.xe s₁) X.xe s := by
  refine thn (ha pins s σ H _ I h) fun v s1 hq__ => ?_
  obtain ⟨x, H1, I1, r1, q1⟩ := hq__
  refine thn (hb pins s1 σ H1 _ I1 q1) fun u s2 hq__ => ?_
  obtain ⟨y, H2, I2, r2, q2⟩ := hq__
  exact hf v u s2 x y H2 I2 r1 r2 q2
theorem pe_op {op : Operator} {r : R2} (ho : OpR X (binaryOp op) r) (ha : PE X a ta) (hb : PE X b tb) : PE X (.BinOp a op b pos) (tOp r ta tb) := by
  intro pins s σ H Q I h
  exact wpAny_BinOp (binT ha hb I h fun v u s2 x y H2 I2 rx ry q => ho pins s2 σ H2 x y v u Q I2 rx ry q)
theorem opI {f : Value → Value → Sem Value} {C : Int → Int → Prop} {g : Int → Int → Int}
    (rule : ∀ (i j : Int) (t u : Tok) (s : Shared) (Q : Value → Shared → Prop) (E : Value → Shared → Prop), C i j → Q (.int (g i j) s.toks) { s with toks := s.toks + 1 } → wpAny (model X.prog X.w) X.A (f (.int i t) (.int j u)) Q E s) :
    OpR X f (rI C fun i j => .int (g i j)) := by
  intro pins s σ H x y v u Q I rx ry h
  obtain ⟨i, j, rfl, rfl, hc, q⟩ := h
  obtain ⟨t, rfl⟩ := rx
  obtain ⟨t', rfl⟩ := ry
  exact rule i j t t' s _ _ hc ⟨.int (g i j), H, I.tok _, ⟨_, rfl⟩, q⟩
theorem opI0 {f : Value → Value → Sem Value} {g : Int → Int → Int}
    (rule : ∀ (i j : Int) (t u : Tok) (s : Shared) (Q : Value → Shared → Prop) (E : Value → Shared → Prop), Q (.int (g i j) s.toks) { s with toks := s.toks + 1 } → wpAny (model X.prog X.w) X.A (f (.int i t) (.int j u)) Q E s) :
    OpR X f (rI0 fun i j => .int (g i j)) := by
  intro pins s σ H x y v u Q I rx ry h
  obtain ⟨i, j, rfl, rfl, q⟩ := h
  obtain ⟨t, rfl⟩ := rx
  obtain ⟨t', rfl⟩ := ry
  exact rule i j t t' s _ _ ⟨.int (g i j), H, I.tok _, ⟨_, rfl⟩, q⟩
theorem opB0 {f : Value → Value → Sem Value} {g : Int → Int → Bool}
    (rule : ∀ (i j : Int) (t u : Tok) (s : Shared) (Q : Value → Shared → Prop) (E : Value → Shared → Prop), Q (.bool (g i j)) s → wpAny (model X.prog X.w) X.A (f (.int i t) (.int j u)) Q E s) :
    OpR X f (rI0 fun i j => .bl (g i j)) := by
  intro pins s σ H x y v u Q I rx ry h
  obtain ⟨i, j, rfl, rfl, q⟩ := h
  obtain ⟨t, rfl⟩ := rx
  obtain ⟨t', rfl⟩ := ry
  exact rule i j t t' s _ _ ⟨.bl (g i j), H, I, rfl, q⟩
def CDiv (i j : Int) : Prop := 0 < j ∧ j < 1073741824
def CPow (i j : Int) : Prop := 0 ≤ j ∧ j ≤ 1000000 ∧ i.natAbs < 2 ^ 64
def CMul (i j : Int) : Prop := (-(2 ^ 64) < i ∧ i < 2 ^ 64) ∨ (-(2 ^ 64) < j ∧ j < 2 ^ 64)
theorem CMul.ok {i j : Int} (h : CMul i j) : IntMulOk i j := by
  rcases h with ⟨h1, h2⟩ | ⟨h1, h2⟩
  · exact .of_left (intBits_le_64 h1 h2)
  · exact .of_right (intBits_le_64 h1 h2)
theorem op_add : OpR X (binaryOp .Add) (rI0 fun i j => .int (i + j)) := opI0 fun _ _ _ _ _ _ _ q => add_int q
theorem op_sub : OpR X (binaryOp .Sub) (rI0 fun i j => .int (i - j)) := opI0 fun _ _ _ _ _ _ _ q => sub_int q
theorem op_mul : OpR X (binaryOp .Mult) (rI CMul fun i j => .int (i * j)) := opI fun _ _ _ _ _ _ _ hc q => mul_int q hc.ok
theorem op_fdiv : OpR X (binaryOp .FloorDiv) (rI CDiv fun i j => .int (i / j)) := opI fun i j _ _ _ _ _ hc q => by
  have h1 : (0 : Int) < j := hc.1
  have h2 : j < 1073741824 := hc.2
  exact floordiv_int (by omega) (by rw [Int.fdiv_eq_ediv_of_nonneg i (by omega)]; exact q) (.inl (PyProof.noPylong_small (by omega)))
theorem op_mod : OpR X (binaryOp .Mod) (rI (fun _ j => 0 < j) fun i j => .int (i % j)) := opI fun i j _ _ _ _ _ hc q => by
  have h1 : (0 : Int) < j := hc
  exact mod_int' (by omega) (by rw [Int.fmod_eq_emod_of_nonneg i (by omega)]; exact q)
theorem op_pow : OpR X (binaryOp .Pow) (rI CPow fun i j => .int (i ^ j.toNat)) := opI fun _ _ _ _ _ _ _ hc q => pow_int_small hc.1 hc.2.1 hc.2.2 q
theorem iop_add : OpR X (inplaceOp .Add) (rI0 fun i j => .int (i + j)) := opI0 fun _ _ _ _ _ _ _ q => iadd_int q
end
def scal : V → V → Bool
  | .non, .non => true | .non, .int _ => true | .int _, .non => true | .non, .bl _ => true | .bl _, .non => true | .non, .str _ => true | .str _, .non => true
  | .int _, .int _ => true | .bl _, .bl _ => true | .str _, .str _ => true | .byt _, .byt _ => true
  | .int _, .str _ => true | .str _, .int _ => true | .bl _, .str _ => true | .str _, .bl _ => true
  | _, _ => false
def rEq : R2 := fun x y H Q => scal x y = true ∧ Q (.bl (decide (x = y))) H
def rNe : R2 := fun x y H Q => scal x y = true ∧ Q (.bl (!decide (x = y))) H
theorem dec_int {i j : Int} : decide (V.int i = V.int j) = (i == j) := by
  rw [Bool.eq_iff_iff]
  simp
theorem dec_bl {i j : Bool} : decide (V.bl i = V.bl j) = (i == j) := by
  rw [Bool.eq_iff_iff]
  simp
theorem dec_str {i j : Str} : decide (V.str i = V.str j) = (i == j) := by
  rw [Bool.eq_iff_iff]
  simp
theorem dec_byt {i j : Array UInt8} : decide (V.byt i = V.byt j) = (i.toList == j.toList) := by
  rw [Bool.eq_iff_iff]
  cases i
  cases j
  simp
section
variable {X : Cx} {a b c : Expr} {ta tb tc : TE} {pos : Pos}
theorem fin_bl {pins : List (Addr × Obj)} {σ : St} {H : Hp} {s : Shared} {Q : VK} {k k' : Bool} (I : Inv X pins σ H s) (q : Q (.bl k) H) (e : k = k') : EP X pins σ Q (.bool k') s := by
  subst e
  exact ⟨.bl k, H, I, rfl, q⟩
theorem op_eq : OpR X (compareOp .Eq) rEq := by
  intro pins s σ H x y v u Q I rx ry h
  obtain ⟨hs, q⟩ := h
  cases x with
  | non =>
    cases rx
    cases y with
    | non => cases ry; exact PySem.EqNone.eq_none_none (fin_bl I q (by simp))
    | bl j => cases ry; exact PySem.EqNone.eq_none_bool (fin_bl I q (by simp))
    | int j => obtain ⟨t', rfl⟩ := ry; exact PySem.EqNone.eq_none_int (fin_bl I q (by simp))
    | str j => obtain ⟨t', rfl⟩ := ry; exact PySem.EqNone.eq_none_str (fin_bl I q (by simp))
    | _ => exact absurd (show false = true from hs) Bool.false_ne_true
  | bl i =>
    cases rx
    cases y with
    | non => cases ry; exact PySem.EqNone.eq_bool_none (fin_bl I q (by simp))
    | bl j => cases ry; exact eq_bool (fin_bl I q dec_bl)
    | str j => obtain ⟨t', rfl⟩ := ry; exact PySem.EqMixed.eq_bool_str (fin_bl I q (by simp))
    | _ => exact absurd (show false = true from hs) Bool.false_ne_true
  | int i =>
    obtain ⟨t, rfl⟩ := rx
    cases y with
    | non => cases ry; exact PySem.EqNone.eq_int_none (fin_bl I q (by simp))
    | int j => obtain ⟨t', rfl⟩ := ry; exact eq_int (fin_bl I q dec_int)
    | str j => obtain ⟨t', rfl⟩ := ry; exact PySem.EqMixed.eq_int_str (fin_bl I q (by simp))
    | _ => exact absurd (show false = true from hs) Bool.false_ne_true
  | str i =>
    obtain ⟨t, rfl⟩ := rx
    cases y with
    | non => cases ry; exact PySem.EqNone.eq_str_none (fin_bl I q (by simp))
    | bl j => cases ry; exact PySem.EqMixed.eq_str_bool (fin_bl I q (by simp))
    | int j => obtain ⟨t', rfl⟩ := ry; exact PySem.EqMixed.eq_str_int (fin_bl I q (by simp))
    | str j => obtain ⟨t', rfl⟩ := ry; exact eq_str (fin_bl I q dec_str)
    | _ => exact absurd (show false = true from hs) Bool.false_ne_true
  | byt i =>
    obtain ⟨t, rfl⟩ := rx
    cases y with
    | byt j => obtain ⟨t', rfl⟩ := ry; exact PySem.W.eq_bytes (fin_bl I q dec_byt)
    | _ => exact absurd (show false = true from hs) Bool.false_ne_true
  | _ => cases y <;> exact absurd (show false = true from hs) Bool.false_ne_true
theorem op_ne : OpR X (compareOp .NotEq) rNe := by
  intro pins s σ H x y v u Q I rx ry h
  obtain ⟨hs, q⟩ := h
  cases x with
  | non =>
    cases rx
    cases y with
    | non => cases ry; exact PySem.EqNone.ne_none_none (fin_bl I q (by simp))
    | bl j => cases ry; exact PySem.EqNone.ne_none_bool (fin_bl I q (by simp))
    | int j => obtain ⟨t', rfl⟩ := ry; exact PySem.EqNone.ne_none_int (fin_bl I q (by simp))
    | str j => obtain ⟨t', rfl⟩ := ry; exact PySem.EqNone.ne_none_str (fin_bl I q (by simp))
    | _ => exact absurd (show false = true from hs) Bool.false_ne_true
  | bl i =>
    cases rx
    cases y with
    | non => cases ry; exact PySem.EqNone.ne_bool_none (fin_bl I q (by simp))
    | bl j => cases ry; exact ne_bool (fin_bl I q (congrArg not dec_bl))
    | str j => obtain ⟨t', rfl⟩ := ry; exact PySem.EqMixed.ne_bool_str (fin_bl I q (by simp))
    | _ => exact absurd (show false = true from hs) Bool.false_ne_true
  | int i =>
    obtain ⟨t, rfl⟩ := rx
    cases y with
    | non => cases ry; exact PySem.EqNone.ne_int_none (fin_bl I q (by simp))
    | int j => obtain ⟨t', rfl⟩ := ry; exact ne_int (fin_bl I q (congrArg not dec_int))
    | str j => obtain ⟨t', rfl⟩ := ry; exact PySem.EqMixed.ne_int_str (fin_bl I q (by simp))
    | _ => exact absurd (show false = true from hs) Bool.false_ne_true
  | str i =>
    obtain ⟨t, rfl⟩ := rx
    cases y with
    | non => cases ry; exact PySem.EqNone.ne_str_none (fin_bl I q (by simp))
    | bl j => cases ry; exact PySem.EqMixed.ne_str_bool (fin_bl I q (by simp))
    | int j => obtain ⟨t', rfl⟩ := ry; exact PySem.EqMixed.ne_str_int (fin_bl I q (by simp))
    | str j => obtain ⟨t', rfl⟩ := ry; exact ne_str (fin_bl I q (congrArg not dec_str))
    | _ => exact absurd (show false = true from hs) Bool.false_ne_true
  | byt i =>
    obtain ⟨t, rfl⟩ := rx
    cases y with
    | byt j => obtain ⟨t', rfl⟩ := ry; exact PySem.W.ne_bytes (fin_bl I q (congrArg not dec_byt))
    | _ => exact absurd (show false = true from hs) Bool.false_ne_true
  | _ => cases y <;> exact absurd (show false = true from hs) Bool.false_ne_true
theorem op_lt : OpR X (compareOp .Lt) (rI0 fun i j => .bl (decide (i < j))) := opB0 fun _ _ _ _ _ _ _ q => lt_int q
theorem op_le : OpR X (compareOp .LtE) (rI0 fun i j => .bl (decide (i ≤ j))) := opB0 fun _ _ _ _ _ _ _ q => le_int q
theorem op_gt : OpR X (compareOp .Gt) (rI0 fun i j => .bl (decide (j < i))) := opB0 fun _ _ _ _ _ _ _ q => gt_int q
theorem op_ge : OpR X (compareOp .GtE) (rI0 fun i j => .bl (decide (j ≤ i))) := opB0 fun _ _ _ _ _ _ _ q => ge_int q
theorem op_isN : OpR X (compareOp .Is) (fun x y H Q => y = .non ∧ Q (.bl (decide (x = .non))) H) := by
  intro pins s σ H x y v u Q I rx ry h
  obtain ⟨rfl, q⟩ := h
  cases ry
  refine is_none_gen (fin_bl I q ?_)
  cases x <;> first
    | (cases rx; rfl)
    | (obtain ⟨t, rfl⟩ := rx; rfl)
theorem OpR.or {f : Value → Value → Sem Value} {r r' : R2} (h : OpR X f r) (h' : OpR X f r') : OpR X f (fun x y H Q => r x y H Q ∨ r' x y H Q) := by
  intro pins s σ H x y v u Q I rx ry q
  rcases q with q | q
  · exact h pins s σ H x y v u Q I rx ry q
  · exact h' pins s σ H x y v u Q I rx ry q
theorem nomark (b : Expr) {op : CmpOp} (h : op ≠ .In := by decide) (h2 : op ≠ .NotIn := by decide) : behindInMarks op b = false := by
  have e1 : (op == CmpOp.In) = false := by cases op <;> first | rfl | exact absurd rfl h
  have e2 : (op == CmpOp.NotIn) = false := by cases op <;> first | rfl | exact absurd rfl h2
  cases b <;> simp [behindInMarks, e1, e2]
theorem pe_cmpR {op : CmpOp} {r : R2} (ho : OpR X (compareOp op) r) (ha : PE X a ta) (hb : PE X b tb) (hm : behindInMarks op b = false) : PE X (.Compare a [op] [b] pos) (tOp r ta tb) := by
  intro pins s σ H Q I h
  exact wpAny_Compare1 (binT ha hb I h fun v u s2 x y H2 I2 rx ry q => ho pins s2 σ H2 x y v u Q I2 rx ry q) hm
def tTest (t : TE) : TT := fun σ H Q => t σ H fun x H' => ∃ k, x = .bl k ∧ Q k H'
theorem pt_cmpR {op : CmpOp} {r : R2} (ho : OpR X (compareOp op) r) (ha : PE X a ta) (hb : PE X b tb) (hm : behindInMarks op b = false) : PT X (.Compare a [op] [b] pos) (tTest (tOp r ta tb)) := by
  intro pins s σ H Q I h
  refine wpAny_isTrue_Compare1 (thn (ha pins s σ H _ I h) fun v s1 ⟨x, H1, I1, r1, q1⟩ => thn (hb pins s1 σ H1 _ I1 q1) fun u s2 ⟨y, H2, I2, r2, q2⟩ =>
    thn (ho pins s2 σ H2 x y v u _ I2 r1 r2 q2) fun c s3 ⟨z, H3, I3, r3, k, e, q3⟩ => ?_) hm
  subst e
  cases r3
  exact wpAny_truthy_bool ⟨H3, I3, q3⟩
theorem line63 : (sizeLine : Nat) < 2 ^ 63 := by rw [sizeLine_eq]; decide
theorem vals1 {x : V} {us : List Value} (r : Vals [x] us) : ∃ u, us = [u] ∧ RelV x u := by
  cases r with
  | cons r1 r2 => cases r2; exact ⟨_, rfl, r1⟩
theorem vals2 {x y : V} {us : List Value} (r : Vals [x, y] us) : ∃ u w', us = [u, w'] ∧ RelV x u ∧ RelV y w' := by
  cases r with
  | cons r1 r2 =>
    cases r2 with
    | cons r3 r4 => cases r4; exact ⟨_, _, rfl, r1, r3⟩
theorem call_abs : CallR X (.builtin "abs") (fun xs H Q => ∃ i, xs = [.int i] ∧ Q (.int (if i < 0 then -i else i)) H) := by
  intro pins s σ H xs us Q I r h
  obtain ⟨i, rfl, q⟩ := h
  obtain ⟨u, rfl, t, rfl⟩ := vals1 r
  exact call_abs_int fun u tk => ⟨.int (if i < 0 then -i else i), H, I.tok _, ⟨_, rfl⟩, q⟩
theorem call_int1 : CallR X (.type "int") (fun xs H Q => (∃ i, xs = [.int i] ∧ Q (.int i) H) ∨ ∃ k, xs = [.bl k] ∧ Q (.int (if k then 1 else 0)) H) := by
  intro pins s σ H xs us Q I r h
  rcases h with ⟨i, rfl, q⟩ | ⟨k, rfl, q⟩
  · obtain ⟨u, rfl, t, rfl⟩ := vals1 r
    exact call_int_int ⟨.int i, H, I, ⟨_, rfl⟩, q⟩
  · obtain ⟨u, rfl, r1⟩ := vals1 r
    cases r1
    exact call_int_bool ⟨.int (if k then 1 else 0), H, I.tok _, ⟨_, rfl⟩, q⟩
end
end L2
namespace L2
open PySem PySem.Spec PyProof.Rows
structure ObjM (h : Heap) (x dx C : Addr) (mA : Str → Option Value) : Prop where
  obj : h.get? x = some (PySem.W.instObj C dx)
  ns : h.Ns1 dx mA
  ne : dx ≠ x
theorem lookIn_ns {h : Heap} {dx : Addr} {mA : Str → Option Value} (n : h.Ns1 dx mA) : ∃ od, h.get? dx = some od ∧ ∀ name, PySem.W.lookIn name od = some (mA name) := by
  obtain ⟨o, es, ep, ho, hd, hk, _, hm⟩ := n
  refine ⟨o, ho, fun name => ?_⟩
  have e := hm name
  unfold nsFind findBy at e
  rw [← Array.find?_toList] at e
  unfold PySem.W.lookIn
  rw [hd]
  dsimp only
  split
  · rename_i y q
    rw [q] at e
    exact congrArg some e
  · rename_i q
    rw [q] at e
    have a : es.toList.any (·.refKey) = false := by
      rw [List.any_eq_false]
      intro y hy
      obtain ⟨z, t, hkey⟩ := hk y (Array.mem_toList_iff.mp hy)
      simp [DictEntry.refKey, hkey]
    have a' : ¬ es.toList.any (·.refKey) = true := by rw [a]; exact Bool.false_ne_true
    rw [if_neg a']
    exact congrArg some e
theorem ObjM.look {h : Heap} {x dx C : Addr} {mA : Str → Option Value} (I : ObjM h x dx C mA) : ∃ od, PySem.W.InstAt h x (PySem.W.instObj C dx) C (some od) ∧ ∀ name, PySem.W.lookIn name od = some (mA name) :=
  let ⟨od, ho, hl⟩ := lookIn_ns I.ns
  ⟨od, ⟨I.obj, rfl, rfl, ho⟩, hl⟩
section
variable {prog : Program} {w : World} {A : Around} {E : Value → Shared → Prop} {s : Shared} {K : PySem.W.Frag} {x dx C f : Addr} {mA : Str → Option Value} {name : Str} {v : Value}
theorem get_meth {pl : Sem Bool} {Q : Value × List Value → Shared → Prop} (X : K.In s.heap) (I : ObjM s.heap x dx C mA) (hg : PySem.W.plainGet K C name = true)
    (hf : PySem.W.findIn K (.ref C) name = some (some (.ref f))) (ht : PySem.W.isFn K (.ref f) = true) (hv : mA name = none) (h : Q (.ref f, [.ref x]) s) :
    wpAny (model prog w) A (getMethod (.ref x) name pl) Q E s := by
  obtain ⟨od, J, hl⟩ := I.look
  exact PySem.W.method_fn X J (PySem.W.plainGet_of hg).1 (PySem.W.plainGet_of hg).2 hf (beq_iff_eq.mp ht) (by show (PySem.W.lookIn name od).map (·.isSome) = some false; rw [hl, hv]; rfl) h
theorem make_map0 {R : Result → Shared → Prop} (X : K.In s.heap) (hm : PySem.W.makesIn K C = true)
    (hi : PySem.W.findIn K (.ref C) "__init__" = some (some (.builtin "object.__init__")))
    (hb : ∀ self, PySem.W.Looks (model prog w) s.heap (bindSpecial (.builtin "object.__init__") self) (.builtin "object.__init__", [self]))
    (h : codeAny (model prog w) (A.under (.builtin "type.__call__" ⟨[.ref C], []⟩)) (.call (.builtin "object.__init__") ⟨[.ref (s.heap.objs.size + 1)], []⟩) (PySem.W.InitBack (s.heap.objs.size + 1) R)
      { s with heap := (s.heap.push PySem.W.emptyDict).push (PySem.W.instObj C s.heap.objs.size) }) :
    codeAny (model prog w) A (.call (.ref C) ⟨[], []⟩) R s := by
  obtain ⟨hh, g, d, t, os⟩ := s
  exact PySem.W.make_core (PySem.W.makes_of X hm) (PySem.W.looks_findIn X hi) hb (.inr ⟨rfl, rfl⟩) h
end
def putF (f : Str) (v : V) : List (Str × V) → List (Str × V)
  | [] => [(f, v)]
  | (g, x) :: r => if g = f then (g, v) :: r else (g, x) :: putF f v r
theorem RelO.none_of {o : Option Value} (r : RelO none o) : o = none := by
  cases o with
  | none => rfl
  | some u => exact (show False from r).elim
section
variable {P : Program} {w : World} {H H' : Hp} {h h' : Heap} {a C dx : Addr} {fs fs' : List (Str × V)}
theorem ins_get (hok : HOk P w H h) (e : H a = some (.ins C dx fs)) : ∃ mA, ObjM h a dx C mA ∧ (∀ f, RelO (fs.lookup f) (mA f)) ∧ PySem.Within mA (fs.map (·.1)) ∧ fs.length ≤ 1000 ∧ H dx = some (.own a) := by
  obtain ⟨d, z, ne, ob, mA, n, r, q⟩ := (show ObjOk P w H h a (.ins C dx fs) from hok a _ e)
  exact ⟨mA, ⟨ob, n, ne⟩, r, q, z, d⟩
end
structure Cls (K : PySem.W.Frag) (C : Addr) : Prop where
  pg : PySem.W.plainGet K C Str.empty = true
  hd : PySem.W.hasDictIn K C = true
  po : PySem.W.plainOver K C = true
  sa : PySem.W.findIn K (.ref C) "__setattr__" = some (some (.builtin "object.__setattr__"))
theorem Cls.get {K : PySem.W.Frag} {C : Addr} (c : Cls K C) (f : Str) : PySem.W.plainGet K C f = true := c.pg
structure Con (K : PySem.W.Frag) (C : Addr) (f : Str) (v : V) (u : Value) : Prop where
  at_ : PySem.W.findIn K (.ref C) f = some (some u)
  rel : RelV v u
  get : PySem.W.specialIn K u "__get__" = some none
  cp : PySem.W.copiedNames.contains f = false
structure Meth (K : PySem.W.Frag) (C : Addr) (m : Str) (f : Addr) : Prop where
  at_ : PySem.W.findIn K (.ref C) m = some (some (.ref f))
  fn : PySem.W.isFn K (.ref f) = true
  kp : PySem.W.keepIn K (.ref f) = true
section
variable {X : Cx} {pins : List (Addr × Obj)} {σ : St} {H : Hp} {s : Shared} {a C dx : Addr} {fs : List (Str × V)} {f : Str} {v : V} {A : Around} {E : Value → Shared → Prop}
theorem getmeth_ok {m : Str} {g : Addr} {pl : Sem Bool} {Q : Value × List Value → Shared → Prop} (I : Inv X pins σ H s) (e : H a = some (.ins C dx fs)) (c : Cls X.K C) (k : Meth X.K C m g) (l : fs.lookup m = none)
    (h : Q (.ref g, [.ref a]) s) : wpAny (model X.prog X.w) A (getMethod (.ref a) m pl) Q E s := by
  obtain ⟨mA, O, r, _, _, _⟩ := ins_get I.hok e
  have hn : mA m = none := RelO.none_of (by rw [← l]; exact r m)
  exact get_meth I.kIn O (c.get m) k.at_ k.fn hn h
theorem Inv.made (I : Inv X pins σ H s) : Inv X pins σ (upd (upd H s.heap.objs.size (.own (s.heap.objs.size + 1))) (s.heap.objs.size + 1) (.ins C s.heap.objs.size []))
    { s with heap := (s.heap.push PySem.W.emptyDict).push (PySem.W.instObj C s.heap.objs.size) } := by
  have e1 : (s.heap.push PySem.W.emptyDict).get? s.heap.objs.size = some PySem.W.emptyDict := Heap.get?_push_size s.heap rfl
  have e2 : ((s.heap.push PySem.W.emptyDict).push (PySem.W.instObj C s.heap.objs.size)).get? (s.heap.objs.size + 1) = some (PySem.W.instObj C s.heap.objs.size) := by
    have := Heap.get?_push_size (s.heap.push PySem.W.emptyDict) (o := PySem.W.instObj C s.heap.objs.size) rfl
    rwa [Heap.size_push] at this
  have e3 : (s.heap.push PySem.W.emptyDict).Ns s.heap.objs.size (fun _ => none) := ⟨PySem.W.emptyDict, #[], _, e1, rfl, (fun e he => absurd he (by simp)), fun _ => rfl⟩
  have I1 := I.laid (a := s.heap.objs.size) (o := .own (s.heap.objs.size + 1)) (h' := s.heap.push PySem.W.emptyDict) (t' := s.toks) (fun b u q => Heap.get?_push_of_some _ q) (Nat.le_refl _) ⟨_, e1⟩
  refine I1.laid (a := s.heap.objs.size + 1) (o := .ins C s.heap.objs.size []) (t' := s.toks) (fun b u q => Heap.get?_push_of_some _ q) (Nat.le_of_eq (Heap.size_push _ _)) ?_
  have ne : s.heap.objs.size ≠ s.heap.objs.size + 1 := Nat.ne_of_lt (Nat.lt_succ_self _)
  refine ⟨by rw [upd_ne ne, upd_same], Nat.zero_le _, ne, e2, fun _ => none, (Heap.Ns1.of_empty e3).at fun o q => Heap.get?_push_of_some _ q, fun _ => True.intro, fun y hy => absurd rfl hy⟩
end
section
variable {X : Cx} {o e value : Expr} {f : Str} {pos pos' tpos : Pos} {ta tv : TE}
end
section
variable {X : Cx} {pins : List (Addr × Obj)} {σ : St} {H : Hp} {s : Shared} {A : Around} {E : Value → Shared → Prop} {Q : Value → Shared → Prop} {c : Value} {b : Bool}
inductive TyOf (K : PySem.W.Frag) (H : Hp) : V → Value → Prop where
  | non : TyOf K H .non (.type "NoneType")
  | bl (x : Bool) : TyOf K H (.bl x) (.type "bool")
  | int (i : Int) : TyOf K H (.int i) (.type "int")
  | str (x : Str) : TyOf K H (.str x) (.type "str")
  | flt (x : UInt64) : TyOf K H (.flt x) (.type "float")
  | lst {a : Addr} {xs : List V} (e : H a = some (.lst xs)) : TyOf K H (.ref a) (.type "list")
  | frz {a : Addr} {o : Obj} {xs : List V} (e : H a = some (.frz o (.lst xs))) : TyOf K H (.ref a) (.type "list")
  | tup {a : Addr} {xs : List V} (e : H a = some (.tup xs)) : TyOf K H (.ref a) (.type "tuple")
  | dK {a : Addr} {kvs : List (Key × V)} (e : H a = some (.dK kvs)) : TyOf K H (.ref a) (.type "dict")
  | dT {a : Addr} {kvs : List (List Key × V)} (e : H a = some (.dT kvs)) : TyOf K H (.ref a) (.type "dict")
  | ins {a C dx : Addr} {fs : List (Str × V)} (e : H a = some (.ins C dx fs)) (cl : Cls K C) (ha : PySem.W.findIn K (.ref C) "__class__" = some (some (.builtin "object.__class__")))
      (hn : PySem.W.specialIn K (.builtin "object.__class__") "__get__" = some (some (.builtin "getset_descriptor.__get__"))) (htk : PySem.W.takesIn K (.builtin "object.__class__") = some true)
      (hm : PySem.W.mroIn K C (.type "object") = some true) : TyOf K H (.ref a) (.ref C)
theorem isinst_ok {x : V} {u t : Value} (I : Inv X pins σ H s) (rx : RelV x u) (ty : TyOf X.K H x t) (e : PySem.W.kitOne X.K t c = some b) (h : ∀ tk, Q (.bool b) { s with toks := tk }) :
    wpAny (model X.prog X.w) A (call (.builtin "isinstance") [u, c]) Q E s := by
  cases ty with
  | non => cases (show u = Value.none from rx); exact PySem.W.kia_one PySem.W.kitx_none I.kIn True.intro e (fun z => nomatch z) h
  | bl y => cases (show u = Value.bool y from rx); exact PySem.W.kia_one PySem.W.kitx_bool I.kIn True.intro e (fun z => nomatch z) h
  | int i => obtain ⟨t, q⟩ := (show ∃ t, u = Value.int i t from rx); cases q; exact PySem.W.kia_one PySem.W.kitx_int I.kIn True.intro e (fun z => nomatch z) h
  | str y => obtain ⟨t, q⟩ := (show ∃ t, u = Value.str y t from rx); cases q; exact PySem.W.kia_one PySem.W.kitx_str I.kIn True.intro e (fun z => nomatch z) h
  | flt y => obtain ⟨t, q⟩ := (show ∃ t, u = Value.float y t from rx); cases q; exact PySem.W.kia_one PySem.W.kitx_float I.kIn True.intro e (fun z => nomatch z) h
  | @lst a xs ea =>
    cases (show u = Value.ref a from rx)
    obtain ⟨_, _, n, _, h1⟩ := (show ObjOk X.prog X.w H s.heap a (.lst xs) from I.hok a _ ea)
    exact PySem.W.kia_one PySem.W.kitx_list I.kIn ⟨_, h1, rfl⟩ e (fun z => nomatch z) h
  | @frz a ob xs ea =>
    cases (show u = Value.ref a from rx)
    obtain ⟨_, _, _, n, _, h1⟩ := (show ObjOk X.prog X.w H s.heap a (.frz ob (.lst xs)) from I.hok a _ ea)
    exact PySem.W.kia_one PySem.W.kitx_list I.kIn ⟨_, h1, rfl⟩ e (fun z => nomatch z) h
  | @tup a xs ea =>
    cases (show u = Value.ref a from rx)
    obtain ⟨_, _, _, p⟩ := (show ObjOk X.prog X.w H s.heap a (.tup xs) from I.hok a _ ea)
    obtain ⟨o, h1, h2, _⟩ := p
    exact PySem.W.kia_one PySem.W.kitx_tuple I.kIn ⟨o, h1, h2⟩ e (fun z => nomatch z) h
  | @dK a kvs ea =>
    cases (show u = Value.ref a from rx)
    obtain ⟨_, _, vs, _, p⟩ := (show ObjOk X.prog X.w H s.heap a (.dK kvs) from I.hok a _ ea)
    obtain ⟨o, es, ep, h1, h2, _⟩ := p
    exact PySem.W.kia_one PySem.W.kitx_dict I.kIn ⟨o, h1, h2.1⟩ e (fun z => nomatch z) h
  | @dT a kvs ea =>
    cases (show u = Value.ref a from rx)
    obtain ⟨_, _, xs, _, o, es, ep, h1, h2, _⟩ := (show ObjOk X.prog X.w H s.heap a (.dT kvs) from I.hok a _ ea)
    exact PySem.W.kia_one PySem.W.kitx_dict I.kIn ⟨o, h1, h2.1⟩ e (fun z => nomatch z) h
  | @ins a C dx fs ea cl ha hn htk hm =>
    cases (show u = Value.ref a from rx)
    obtain ⟨mA, O, _⟩ := ins_get I.hok ea
    obtain ⟨od, J, _⟩ := O.look
    exact PySem.W.kia_one (PySem.W.kitx_own (cl.get _) cl.hd ha hn htk hm) I.kIn J e (fun z => nomatch z) h
end
end L2
namespace L2
open PySem PySem.Spec PyProof.Rows
structure Room (k : Nat) (A : Around) : Prop where
  hd : A.handled = none
  dp : A.depth + 3 * k + 5 < recursionLimit
  un : A.units + 16 * k + 200 < cLine
theorem Room.mono {j k : Nat} {A : Around} (r : Room k A) (h : j ≤ k) : Room j A := ⟨r.hd, by have := r.dp; omega, by have := r.un; omega⟩
theorem Room.deeper {k : Nat} {A : Around} (r : Room (k + 1) A) (env : Env) : Room k (A.deeper env) :=
  ⟨r.hd, by have := r.dp; show A.depth + 1 + 3 * k + 5 < _; omega, by have := r.un; show A.units + 3 + 16 * k + 200 < _; omega⟩
theorem Room.in1 {k : Nat} {A : Around} (r : Room (k + 1) A) : Room k A.in1 :=
  ⟨r.hd, by have := r.dp; show A.depth + 3 * k + 5 < _; omega, by have := r.un; show A.units + 1 + 16 * k + 200 < _; omega⟩
theorem make_depth {A : Around} {C : Addr} {us : List Value} {kw : List (Str × Value)} : (A.under (.builtin "type.__call__" ⟨.ref C :: us, kw⟩)).depth = A.depth + 1 := by
  first | rfl | simp [Around.under, Code.weight, Code.isCreation, Code.isGuard, Code.isCaller, Code.frames, Code.isFrame, guardIds]
theorem make_units {A : Around} {C : Addr} {us : List Value} {kw : List (Str × Value)} : (A.under (.builtin "type.__call__" ⟨.ref C :: us, kw⟩)).units = A.units + 1 := by
  first | rfl | simp [Around.under, Code.cUnits, Code.frames, Code.isFrame]
theorem Room.make {k : Nat} {A : Around} (r : Room (k + 1) A) (C : Addr) (us : List Value) (kw : List (Str × Value)) : Room k (A.under (.builtin "type.__call__" ⟨.ref C :: us, kw⟩)) :=
  ⟨r.hd, by have := r.dp; rw [make_depth]; omega, by have := r.un; rw [make_units]; omega⟩
theorem Room.depth {k : Nat} {A : Around} (r : Room k A) : A.depth < recursionLimit := by have := r.dp; omega
theorem Room.units {k : Nat} {A : Around} (r : Room k A) : A.units + 64 < cLine := by have := r.un; omega
def tNil : TA := fun _ H Q => Q [] H
def tCons (ta : TE) (tr : TA) : TA := fun σ H Q => ta σ H fun x H1 => tr σ H1 fun xs H2 => Q (x :: xs) H2
section
variable {X : Cx} {e : Expr} {es : List Expr} {te : TE} {t : TA} {pos : Pos}
theorem pa_nil : PA X [] tNil := fun _ _ _ _ H Q I h => Calls.spliced_nil ⟨[], H, I, .nil, h⟩
theorem pa_cons (ha : PE X e te) (hr : PA X es t) (hs : starEach (e :: es) X.env = (false, eval e X.env) :: starEach es X.env := by rfl) : PA X (e :: es) (tCons te t) := by
  intro pos pins s σ H Q I h
  rw [hs]
  show wpAny _ _ (spliced ((false, eval e X.env) :: backTo pos (starEach es X.env))) _ _ s
  refine Calls.spliced_cons (thn (ha pins s σ H _ I h) fun u s1 hq__ => ?_)
  obtain ⟨x, H1, I1, r1, q1⟩ := hq__
  exact thn (hr pos pins s1 σ H1 _ I1 q1) fun us s2 ⟨xs, H2, I2, r2, q2⟩ => ⟨x :: xs, H2, I2, .cons r1 r2, q2⟩
end
abbrev Sp := List V → Hp → VK → XK → Prop
abbrev CXT := List Env → Hp → Shared → XK → Value → Shared → Prop
structure Env0 (P : Program) (w : World) (K : PySem.W.Frag) (mg : Str → Option Value) (base : Heap) (A : Around) (outer : List Env) (s : Shared) (H : Hp) : Prop where
  frames : A.frames = some outer
  mod : Mod K mg base
  bs : ∀ b o, base.get? b = some o → s.heap.get? b = some o ∧ H b = none
  bsz : base.objs.size ≤ s.heap.objs.size
  funs : s.heap.FunFrames base outer
  frf : ∀ b ∈ frs outer, H b = none
  hok : HOk P w H s.heap
  bare : AllBare s.gens
def CE (outer : List Env) (P : Program) (w : World) (H : Hp) (s : Shared) (Q : VK) (u : Value) (s' : Shared) : Prop :=
  ∃ v H', s'.os = s.os ∧ AllBare s'.gens ∧ Un (frs outer) [] H H' s.heap s'.heap ∧ HOk P w H' s'.heap ∧ RelV v u ∧ Q v H'
def CR (CX : CXT) (outer : List Env) (P : Program) (w : World) (H : Hp) (s : Shared) (Q : VK) (E : XK) (r : Result) (s' : Shared) : Prop :=
  match r with
  | .ok (.ret u) => CE outer P w H s Q u s'
  | .ok _ => False
  | .error e => CX outer H s E e s'
structure FnOk (P : Program) (w : World) (K : PySem.W.Frag) (mg : Str → Option Value) (base : Heap) (CX : CXT) (k : Nat) (f : Addr) (fd : FuncData) (ps : List Str) (sp : Sp) : Prop where
  len : ∀ vs H Q E, sp vs H Q E → vs.length = ps.length
  run : ∀ (A : Around) (outer : List Env) (s : Shared) (H : Hp) (args : Args) (us : List Value) (vs : List V) (Q : VK) (E : XK), Room k A → Env0 P w K mg base A outer s H → BindsTo s fd args (ps.zip us) → Vals vs us → sp vs H Q E →
    codeAny (model P w) A (.call (.ref f) args) (CR CX outer P w H s Q E) s
theorem FnOk.mono {P : Program} {w : World} {K : PySem.W.Frag} {mg : Str → Option Value} {base : Heap} {CX : CXT} {j k : Nat} {f : Addr} {fd : FuncData} {ps : List Str} {sp : Sp} (F : FnOk P w K mg base CX j f fd ps sp) (h : j ≤ k) :
    FnOk P w K mg base CX k f fd ps sp := ⟨F.len, fun A outer s H args us vs Q E hr => F.run A outer s H args us vs Q E (hr.mono h)⟩
theorem FnOk.imp {P : Program} {w : World} {K : PySem.W.Frag} {mg : Str → Option Value} {base : Heap} {CX : CXT} {k : Nat} {f : Addr} {fd : FuncData} {ps : List Str} {sp sp' : Sp} (F : FnOk P w K mg base CX k f fd ps sp)
    (h : ∀ vs H Q E, sp' vs H Q E → sp vs H Q E) : FnOk P w K mg base CX k f fd ps sp' :=
  ⟨fun vs H Q E q => F.len vs H Q E (h _ _ _ _ q), fun A outer s H args us vs Q E hr he hb hv hs => F.run A outer s H args us vs Q E hr he hb hv (h _ _ _ _ hs)⟩
theorem Env0.make {P : Program} {w : World} {K : PySem.W.Frag} {mg : Str → Option Value} {base : Heap} {A : Around} {outer : List Env} {s : Shared} {H : Hp} (e : Env0 P w K mg base A outer s H) (C : Addr) (us : List Value) (kw : List (Str × Value)) :
    Env0 P w K mg base (A.under (.builtin "type.__call__" ⟨.ref C :: us, kw⟩)) outer s H := ⟨by first | exact e.frames | (simpa [Around.under, Code.envs, Code.isFrame, pushEnvs] using e.frames), e.mod, e.bs, e.bsz, e.funs, e.frf, e.hok, e.bare⟩
theorem Env0.in1 {P : Program} {w : World} {K : PySem.W.Frag} {mg : Str → Option Value} {base : Heap} {A : Around} {outer : List Env} {s : Shared} {H : Hp} (e : Env0 P w K mg base A outer s H) :
    Env0 P w K mg base A.in1 outer s H := ⟨e.frames, e.mod, e.bs, e.bsz, e.funs, e.frf, e.hok, e.bare⟩
section
variable {X : Cx} {pins : List (Addr × Obj)} {σ : St} {H : Hp} {s s' : Shared}
theorem Inv.env0 (I : Inv X pins σ H s) : Env0 X.prog X.w X.K X.mg X.base X.A X.stack s H :=
  ⟨I.ok.frames, I.ok.mod, I.bs, Nat.le_trans I.ok.bsz I.sz, I.stack, I.stkFree, I.hok, I.bare⟩
theorem Inv.after {Q : VK} {u : Value} (I : Inv X pins σ H s) (h : CE X.stack X.prog X.w H s Q u s') : EP X pins σ Q u s' := by
  obtain ⟨v, H', os, bare, un, hok, r, q⟩ := h
  obtain ⟨hh, g, d, t, os'⟩ := s'
  obtain rfl : os' = s.os := os
  exact ⟨v, H', I.call (h' := hh) (g' := g) (d' := d) (t' := t) (ch := []) un hok bare (fun b z => absurd z (by simp)), r, q⟩
end
def tCall (sp : Sp) (dvs : List V) (E : XK) (t : TA) : TE := fun σ H Q => t σ H fun vs H1 => sp (vs ++ dvs) H1 Q E
def tMeth (C : Addr) (m : Str) (sp : Sp) (dvs : List V) (E : XK) (ta : TE) (t : TA) : TE := fun σ H Q => ta σ H fun x H1 => ∃ a dx fs, x = .ref a ∧ H1 a = some (.ins C dx fs) ∧ fs.lookup m = none ∧
  t σ H1 fun vs H2 => sp (x :: (vs ++ dvs)) H2 Q E
def Binds (K : PySem.W.Frag) (fd : FuncData) (ps : List Str) (ds : List Value) : Prop :=
  ∀ (s : Shared) (us : List Value), K.In s.heap → (us ++ ds).length = ps.length → BindsTo s fd ⟨us, []⟩ (ps.zip (us ++ ds))
theorem Binds.all {K : PySem.W.Frag} {fd : FuncData} {ps : List Str} (h : ∀ us : List Value, us.length = ps.length → bindArgs fd ⟨us, []⟩ = pure (ps.zip us)) : Binds K fd ps [] := fun s us _ hl => by
  rw [List.append_nil] at hl ⊢
  exact .of_eq (h us hl)
def Passes (CX : CXT) (X : Cx) (E : XK) : Prop := ∀ (pins : List (Addr × Obj)) (σ : St) (H : Hp) (s : Shared) (e : Value) (s' : Shared), Inv X pins σ H s → CX X.stack H s E e s' → X.xe e s'
section
variable {X : Cx} {CX : CXT} {k : Nat} {f C : Addr} {fd : FuncData} {ps : List Str} {sp : Sp} {dvs : List V} {ds : List Value} {E : XK} {x m : Str} {p pos apos : Pos} {e o : Expr} {es : List Expr} {ta : TE} {t : TA}
theorem run_fn {pins : List (Addr × Obj)} {σ : St} {H : Hp} {s : Shared} {Q : VK} {us : List Value} {vs : List V} (F : FnOk X.prog X.w X.K X.mg X.base CX k f fd ps sp) (hr : Room k X.A) (hb : Binds X.K fd ps ds) (hd : Vals dvs ds) (hx : Passes CX X E)
    (I : Inv X pins σ H s) (r : Vals vs us) (h : sp (vs ++ dvs) H Q E) : wpAny (model X.prog X.w) X.A (call (.ref f) us) (EP X pins σ Q) X.xe s := by
  have r2 : Vals (vs ++ dvs) (us ++ ds) := r.append hd
  have hl : (us ++ ds).length = ps.length := by rw [← r2.length]; exact F.len _ _ _ _ h
  refine wpAny_call (codeAny_mono (F.run X.A X.stack s H ⟨us, []⟩ (us ++ ds) (vs ++ dvs) Q E hr I.env0 (hb s us I.kIn hl) r2 h) fun r s' hq => ?_)
  cases r with
  | error e => exact hx pins σ H s e s' I hq
  | ok fl =>
    cases fl with
    | ret u => exact I.after hq
    | next => exact False.elim hq
    | brk => exact False.elim hq
    | cont => exact False.elim hq
theorem pe_call (F : FnOk X.prog X.w X.K X.mg X.base CX k f fd ps sp) (hr : Room k X.A) (hg : Gl X x) (hm : X.mg x = some (.ref f)) (hk : PySem.W.keepIn X.K (.ref f) = true) (hb : Binds X.K fd ps ds) (hd : Vals dvs ds) (hx : Passes CX X E)
    (ha : PA X (e :: es) t) (hdb : (x == ("__debug__" : Str)) = false := by decide) (he : starEach (e :: es) X.env = (false, eval e X.env) :: starEach es X.env := by rfl) (hpl : (backTo pos (starEach es X.env)).any (·.1) = false := by rfl) :
    PE X (.Call (.Name x p) (e :: es) [] pos) (tCall sp dvs E t) := by
  intro pins s σ H Q I h
  refine wpAny_Call_Name_kw (ld_glob I hg hm ?_ hdb)
  refine PySem.W.callWith_K (h₀ := X.base) I.ok.mod.kin hk (thn (ha pos pins s σ H _ I h) fun us s1 ⟨vs, H1, I1, r, q⟩ => ⟨I1.kIn, ?_⟩) he hpl
  exact run_fn F hr hb hd hx I1 r q
theorem pe_meth {pl : Sem Bool} (he : PE X o ta) (c : Cls X.K C) (hm : Meth X.K C m f) (F : FnOk X.prog X.w X.K X.mg X.base CX k f fd ps sp) (hr : Room k X.A) (hb : Binds X.K fd ps ds) (hd : Vals dvs ds) (hx : Passes CX X E) (ha : PA X (e :: es) t)
    (hst : starEach (e :: es) X.env = (false, eval e X.env) :: starEach es X.env := by rfl) (hpl : (backTo pos (starEach es X.env)).any (·.1) = false := by rfl)
    (ht : eval (.Call (.Attribute o m apos) (e :: es) [] pos) X.env = (do
      let ov ← eval o X.env
      standAt apos.atName
      let (f, first) ← holding [ov] (getMethod ov m pl)
      callWith pos f first (backTo pos (starEach (e :: es) X.env)) (backToKw pos (keywordEach [] X.env))) := by rfl) :
    PE X (.Call (.Attribute o m apos) (e :: es) [] pos) (tMeth C m sp dvs E ta t) := by
  intro pins s σ H Q I h
  refine PySem.W.methodCall_KW (pl := pl) (thn (he pins s σ H _ I h) fun u s1 hq__ => ?_) ht
  obtain ⟨x, H1, I1, rx, a, dx, fs, ex, ea, l, q⟩ := hq__
  subst ex
  obtain rfl : u = Value.ref a := rx
  refine getmeth_ok I1 ea c hm l ?_
  refine PySem.W.callWith_K (first := [.ref a]) (h₀ := X.base) I.ok.mod.kin hm.kp (thn (ha pos pins s1 σ H1 _ I1 q) fun us s2 ⟨vs, H2, I2, r, q2⟩ => ⟨I2.kIn, ?_⟩) hst hpl
  exact run_fn (us := .ref a :: us) (vs := .ref a :: vs) F hr hb hd hx I2 (.cons rfl r) q2
structure Mk (K : PySem.W.Frag) (C f : Addr) : Prop where
  makes : PySem.W.makesIn K C = true
  init : PySem.W.findIn K (.ref C) "__init__" = some (some (.ref f))
  fn : PySem.W.isFn K (.ref f) = true
  kp : PySem.W.keepIn K (.ref C) = true
end
section
variable {X : Cx} {CX : CXT} {k : Nat} {f C : Addr} {fd : FuncData} {ps ks : List Str} {sp : Sp} {E : XK} {x m : Str} {p pos apos kpos : Pos} {e o : Expr} {es : List Expr} {kws : List Keyword} {te ta : TE} {t tk : TA} {nm : Option Str}
structure KBinds (K : PySem.W.Frag) (fd : FuncData) (ps ks : List Str) (g : List Value → List Value → List Value) (gV : List V → List V → List V) : Prop where
  to : ∀ (s : Shared) (us ws : List Value), K.In s.heap → (g us ws).length = ps.length → BindsTo s fd ⟨us, ks.zip ws⟩ (ps.zip (g us ws))
  rel : ∀ {vs : List V} {us : List Value} {zs : List V} {ws : List Value}, Vals vs us → Vals zs ws → Vals (gV vs zs) (g us ws)
variable {g : List Value → List Value → List Value} {gV : List V → List V → List V}
end
structure FnScope (N P : List Str) (sc : Scope) : Prop where
  kind : sc.kind = .function
  co : sc.isCoroutine = false
  gen : sc.isGenerator = false
  nd : N.Nodup
  pre : N.take P.length = P
  par : ∀ x ∈ P, sc.names.lookup x = some .local ∨ sc.names.lookup x = some .cell
  nofree : ∀ y ∈ sc.names, y.2 ≠ .free
theorem bindL_out {kindOf : Str → Option NameKind} {x : Str} : ∀ {binds : List (Str × Value)} {m : Str → Option Value}, (∀ v, (x, v) ∉ binds) → bindL kindOf binds m x = m x
  | [], _, _ => rfl
  | (n, v) :: r, m, h => by
    unfold bindL
    rw [bindL_out fun w hw => h w (List.mem_cons_of_mem _ hw)]
    split
    · have : x ≠ n := by rintro rfl; exact h v List.mem_cons_self
      simp [this]
    · rfl
theorem bindC_out {kindOf : Str → Option NameKind} {x : Str} : ∀ {binds : List (Str × Value)} {m : Str → Option Value}, (∀ v, (x, v) ∉ binds) → bindC kindOf binds m x = m x
  | [], _, _ => rfl
  | (n, v) :: r, m, h => by
    unfold bindC
    rw [bindC_out fun w hw => h w (List.mem_cons_of_mem _ hw)]
    split
    · rfl
    · have : x ≠ n := by rintro rfl; exact h v List.mem_cons_self
      simp [this]
theorem bindL_get {kindOf : Str → Option NameKind} {x : Str} {v : Value} : ∀ {P : List Str} {vs : List Value} {i : Nat} {m : Str → Option Value}, P.Nodup → P[i]? = some x → vs[i]? = some v → kindOf x = some .local →
    bindL kindOf (P.zip vs) m x = some v
  | [], _, _, _, _, h, _, _ => by simp at h
  | _ :: _, [], _, _, _, _, h, _ => by simp at h
  | p :: P, w :: vs, 0, m, nd, h1, h2, hk => by
    simp at h1 h2; subst h1; subst h2
    show bindL kindOf ((p, w) :: P.zip vs) m p = _
    unfold bindL
    rw [bindL_out fun v hv => (List.nodup_cons.mp nd).1 (List.of_mem_zip hv).1, if_pos hk]
    simp
  | p :: P, w :: vs, i + 1, m, nd, h1, h2, hk => by
    show bindL kindOf ((p, w) :: P.zip vs) m x = _
    unfold bindL
    exact bindL_get (i := i) (List.nodup_cons.mp nd).2 (by simpa using h1) (by simpa using h2) hk
theorem bindC_get {kindOf : Str → Option NameKind} {x : Str} {v : Value} : ∀ {P : List Str} {vs : List Value} {i : Nat} {m : Str → Option Value}, P.Nodup → P[i]? = some x → vs[i]? = some v → kindOf x ≠ some .local →
    bindC kindOf (P.zip vs) m x = some v
  | [], _, _, _, _, h, _, _ => by simp at h
  | _ :: _, [], _, _, _, _, h, _ => by simp at h
  | p :: P, w :: vs, 0, m, nd, h1, h2, hk => by
    simp at h1 h2; subst h1; subst h2
    show bindC kindOf ((p, w) :: P.zip vs) m p = _
    unfold bindC
    rw [bindC_out fun v hv => (List.nodup_cons.mp nd).1 (List.of_mem_zip hv).1, if_neg hk]
    simp
  | p :: P, w :: vs, i + 1, m, nd, h1, h2, hk => by
    show bindC kindOf ((p, w) :: P.zip vs) m x = _
    unfold bindC
    exact bindC_get (i := i) (List.nodup_cons.mp nd).2 (by simpa using h1) (by simpa using h2) hk
def start (N : List Str) (vs : List V) : St := vs.map some ++ List.replicate (N.length - vs.length) none
def cxOf (CX : CXT) (P : Program) (w : World) (K : PySem.W.Frag) (mg : Str → Option Value) (base : Heap) (N : List Str) (qual : Str) (scope : Scope) (f : Addr) (cd : Value) (A : Around) (outer : List Env) (s : Shared) (H : Hp) (E : XK) : Cx where
  prog := P
  w := w
  K := K
  mg := mg
  base := base
  A := A.deeper (envOfC qual scope s.heap.objs.size f cd)
  N := N
  s₀ := s
  H₀ := H
  env := envOfC qual scope s.heap.objs.size f cd
  outer := outer
  stack := envOfC qual scope s.heap.objs.size f cd :: outer
  ex := []
  calm := true
  fn := fun _ => true
  pn := []
  xe := fun e s' => wpAny (model P w) (A.deeper (envOfC qual scope s.heap.objs.size f cd)) (leaving (envOfC qual scope s.heap.objs.size f cd) e) (fun _ s'' => CX outer H s E e s'') (fun e' s'' => CX outer H s E e' s'') s'
theorem cell_has {sc : Scope} {n : Nat} {x : Str} (h : sc.names.lookup x = some .cell) : ∃ c, (cellsFrom n sc.names []).lookup x = some c := by
  have q := PySem.W.cellsFrom_some sc.names n [] (.inl h)
  exact Option.isSome_iff_exists.mp q
theorem inv_start {CX : CXT} {P : Program} {w : World} {K : PySem.W.Frag} {mg : Str → Option Value} {base : Heap} {N ps : List Str} {qual : Str} {scope : Scope} {f : Addr} {cd : Value} {A : Around} {outer : List Env} {s s1 : Shared} {H : Hp} {E : XK} {us : List Value} {vs : List V}
    (S : FnScope N ps scope) (hd : A.handled = none) (e0 : Env0 P w K mg base A outer s H) (hl : vs.length = ps.length) (r : Vals vs us)
    (x : InCallC s s.heap.objs.size (bindL (envOfC qual scope s.heap.objs.size f cd).kindOf (ps.zip us) fun _ => none) (cellsFrom (s.heap.objs.size + 1) scope.names []) (bindC (envOfC qual scope s.heap.objs.size f cd).kindOf (ps.zip us) fun _ => none) s1) :
    Inv (cxOf CX P w K mg base N qual scope f cd A outer s H E) [] (start N vs) H s1 := by
  have hpl : ps.length ≤ N.length := by have := congrArg List.length S.pre; rw [List.length_take] at this; omega
  obtain ⟨h1, tk, rfl, hk⟩ := x.done
  have noA : ∀ b : Addr, b ∉ (cxOf CX P w K mg base N qual scope f cd A outer s H E).ex := fun b z => absurd (show b ∈ ([] : List Addr) from z) (by simp)
  refine ⟨⟨e0.mod, S.kind, rfl, rfl, Nat.le_refl _, fun y z c h1 h2 => ?_, fun y hy => ?_, fun y c _ h => ?_, fun _ => hd, Around.frames_deeper e0.frames, .inr ⟨rfl, rfl⟩, fun b z => absurd z (noA b), e0.bs, e0.bsz, fun b _ _ => noA b, fun b z => absurd z (noA b), e0.funs, e0.frf⟩,
    rfl, e0.bare, Un.kept hk, ⟨_, x.toInCall.ns, fun i y v h1 h2 h3 => ?_⟩, fun y c h => ⟨_, x.cell y c h⟩, e0.hok.fresh (Nat.le_refl _), fun y c h => ?_, fun p hp => absurd (show p ∈ ([] : List (Addr × Obj)) from hp) (by simp), e0.hok.kept hk, ?_⟩
  · exact name_of_addr x.apart (PySem.mem_of_lookup h1) (PySem.mem_of_lookup h2)
  · have hy : scope.names.lookup y = some .cell ∨ scope.names.lookup y = some .free := hy
    rcases hy with hy | hy
    · exact cell_has hy
    · exact absurd rfl (S.nofree _ (PySem.mem_of_lookup hy))
  · exact Nat.le_of_lt (x.above y c (PySem.mem_of_lookup h))
  · have hi : i < vs.length := by
      unfold start at h2
      by_cases hi : i < vs.length
      · exact hi
      · rw [List.getElem?_append_right (by simpa using hi)] at h2
        rw [List.getElem?_replicate] at h2
        split at h2 <;> cases h2
    have ha : vs[i]? = some v := by
      unfold start at h2
      rw [List.getElem?_append_left (by simpa using hi), List.getElem?_map] at h2
      cases e : vs[i]? with
      | none => rw [e] at h2; cases h2
      | some a => rw [e] at h2; cases h2; rfl
    obtain ⟨u, hu, rv⟩ := r.get ha
    have hp : ps[i]? = some y := by
      rw [← S.pre, List.getElem?_take_of_lt (by omega)]; exact h1
    have ndP : ps.Nodup := by rw [← S.pre]; exact S.nd.sublist (List.take_sublist _ _)
    refine ⟨u, rv, ?_⟩
    rcases S.par y (List.mem_of_getElem? hp) with k | k
    · exact .inl ⟨k, bindL_get ndP hp hu k⟩
    · obtain ⟨c, e⟩ := cell_has (n := s.heap.objs.size + 1) k
      refine .inr ⟨.inl k, c, e, ?_⟩
      have q := x.cell y c e
      rw [bindC_get ndP hp hu (by show scope.names.lookup y ≠ _; rw [k]; decide)] at q
      exact q
  · exact e0.hok.fresh (Nat.le_of_lt (x.above y c (PySem.mem_of_lookup h)))
  · unfold start
    show _ = N.length
    rw [List.length_append, List.length_map, List.length_replicate]
    omega
theorem fn_of {CX : CXT} {P : Program} {w : World} {K : PySem.W.Frag} {mg : Str → Option Value} {base : Heap} {k : Nat} {f : Addr} {name qual : Str} {params : Arguments} {body : List Stmt} {scope : Scope} {dV kV doc pm cdv ct oc : Value} {an od : Option Addr}
    {osl : Array (Option Value)} {N ps : List Str} {sp : Sp} (lk : K.lookup f = some ⟨oc, od, .func (PySem.W.fnOf name qual params body scope dV kV doc pm an cdv ct), osl⟩) (hcd : PySem.W.codeIn K cdv qual = true) (S : FnScope N ps scope)
    (len : ∀ vs H Q E, sp vs H Q E → vs.length = ps.length)
    (hbody : ∀ (A : Around) (outer : List Env) (s : Shared) (H : Hp) (vs : List V) (Q : VK) (E : XK), Room k (A.deeper (envOfC qual scope s.heap.objs.size f cdv)) → sp vs H Q E →
      ∃ t, PSs (cxOf CX P w K mg base N qual scope f cdv A outer s H E) body t ∧ t { nx := fun _ H' => Q .non H', rt := Q } (start N vs) H) :
    FnOk P w K mg base CX (k + 1) f (PySem.W.fnOf name qual params body scope dV kV doc pm an cdv ct) ps sp := by
  refine ⟨len, fun A outer s H args us vs Q E hr e0 hb r hsp => ?_⟩
  have hl := len _ _ _ _ hsp
  have KX : K.In s.heap := e0.mod.kin.keeps fun b o e => (e0.bs b o e).1
  have lim : s.heap.NoLimit := e0.mod.nolimit.keeps fun b o e => (e0.bs b o e).1
  have hkind : ∀ y ∈ ps.zip us, scope.names.lookup y.1 = some .local ∨ (scope.names.lookup y.1 = some .cell ∧ ((cellsFrom (s.heap.objs.size + 1) scope.names []).lookup y.1).isSome = true) := fun ⟨n, v⟩ hy => by
    rcases S.par n (List.of_mem_zip hy).1 with q | q
    · exact .inl q
    · exact .inr ⟨q, PySem.W.cellsFrom_some _ _ _ (.inl q)⟩
  refine codeAny_call_function hr.depth (KX _ _ lk) rfl S.co S.gen rfl (PySem.W.codeRec_of KX hcd) (hb _ _ _ _ ?_)
  refine wpAny_newFunctionEnv_cells S.kind hkind fun env he s1 x => ?_
  subst he
  refine ⟨lim.keeps x.toInCall.keep, codeAny_func ?_⟩
  obtain ⟨t, ht, hq⟩ := hbody A outer s H vs Q E (hr.deeper _) hsp
  have I : Inv (cxOf CX P w K mg base N qual scope f cdv A outer s H E) [] (start N vs) H s1 := inv_start S hr.hd e0 hl r x
  refine wpAny_mono (ht [] s1 (start N vs) H _ I hq) (fun fl s' hs => ?_) fun e s' hs => hs
  have fin : ∀ {σ' : St} {H' : Hp} {v : V} {u : Value}, Inv (cxOf CX P w K mg base N qual scope f cdv A outer s H E) [] σ' H' s' → RelV v u → Q v H' → CE outer P w H s Q u s' :=
    fun {σ' H' v u} J rv q => ⟨v, H', J.os, J.bare, J.base, J.hok, rv, q⟩
  cases fl with
  | ret u =>
    obtain ⟨v, σ', H', J, rv, q⟩ := hs
    exact fin J rv q
  | next =>
    obtain ⟨σ', H', J, q⟩ := hs
    exact fin (v := V.non) (u := Value.none) J rfl q
  | brk =>
    obtain ⟨_, _, _, q⟩ := hs
    exact False.elim q
  | cont =>
    obtain ⟨_, _, _, q⟩ := hs
    exact False.elim q
end L2
namespace L2
open PySem PySem.Spec PyProof.Rows
section
variable {X : Cx} {x : Str} {p pos : Pos} {e : Expr} {es : List Expr} {t : TA} {id T : String} {r : List V → Hp → VK → Prop}
def tCB (r : List V → Hp → VK → Prop) (t : TA) : TE := fun σ H Q => t σ H fun vs H1 => r vs H1 Q
theorem pe_callB (hc : CallR X (.builtin id) r) (hg : Gl X x) (hm : X.mg x = none) (hv : bootBuiltins x = some (.builtin id)) (ha : PA X (e :: es) t) (hn : x ≠ "__name__" := by decide) (hdb : (x == ("__debug__" : Str)) = false := by decide)
    (he : starEach (e :: es) X.env = (false, eval e X.env) :: starEach es X.env := by rfl) (hpl : (backTo pos (starEach es X.env)).any (·.1) = false := by rfl) : PE X (.Call (.Name x p) (e :: es) [] pos) (tCB r t) := by
  intro pins s σ H Q I h
  refine wpAny_Call_Name_kw (ld_blt I hg hm hv ?_ hn hdb)
  exact PyProof.Rows.callWith_builtin1 (thn (ha pos pins s σ H _ I h) fun us s1 ⟨vs, H1, I1, r1, q1⟩ => hc pins s1 σ H1 vs us Q I1 r1 q1) he hpl
theorem pe_callTy (hc : CallR X (.type T) r) (hg : Gl X x) (hm : X.mg x = none) (hv : bootBuiltins x = some (.type T)) (ha : PA X (e :: es) t) (hn : x ≠ "__name__" := by decide) (hdb : (x == ("__debug__" : Str)) = false := by decide)
    (he : starEach (e :: es) X.env = (false, eval e X.env) :: starEach es X.env := by rfl) (hpl : (backTo pos (starEach es X.env)).any (·.1) = false := by rfl) : PE X (.Call (.Name x p) (e :: es) [] pos) (tCB r t) := by
  intro pins s σ H Q I h
  refine wpAny_Call_Name_kw (ld_blt I hg hm hv ?_ hn hdb)
  exact PyProof.Rows.callWith_type1 (thn (ha pos pins s σ H _ I h) fun us s1 ⟨vs, H1, I1, r1, q1⟩ => hc pins s1 σ H1 vs us Q I1 r1 q1) he hpl
end
end L2
namespace HT
open PySem PyProof.Rows
section
open PySem.SeqAt
open PySem.AutoSeq1 (wpAny_loadPart')
open PySem.MeetsSeq PySem.MeetsSeq2 PySem.MeetsSeq3
end
section
variable {prog : Program} {w : World} {A : Around} {E : Value → Shared → Prop} {s : Shared}
def sIx (n d : Nat) : Option Int → Nat
  | none => d
  | some v => if v < 0 then (v + (n : Int)).toNat else min v.toNat n
theorem sIx_none (n d : Nat) : sIx n d none = d := rfl
theorem sIx_nat (n d k : Nat) : sIx n d (some (k : Int)) = min k n := by
  show (if (k : Int) < 0 then ((k : Int) + (n : Int)).toNat else min (k : Int).toNat n) = min k n
  rw [if_neg (by omega), Int.toNat_natCast]
end
end HT
namespace L2
open PySem PySem.Spec PyProof.Rows
abbrev TO := St → Hp → (Option Int → Hp → Prop) → Prop
def PO (X : Cx) (e : Option Expr) (t : TO) : Prop :=
  ∀ (pins : List (Addr × Obj)) (s : Shared) (σ : St) (H : Hp) (Q : Option Int → Hp → Prop), Inv X pins σ H s → t σ H Q →
    wpAny (model X.prog X.w) X.A (evalPart e X.env) (fun u s' => ∃ o H', Inv X pins σ H' s' ∧ IsPart u o ∧ Q o H') X.xe s
def tNoPart : TO := fun _ H Q => Q none H
def tPart (t : TE) : TO := fun σ H Q => t σ H fun x H1 => ∃ i, x = .int i ∧ Q (some i) H1
theorem intsAre_of {ns : List Int} : ∀ {us : List Value}, Vals (ns.map V.int) us → IntsAre us ns := by
  induction ns with
  | nil => intro us r; rw [List.map_nil] at r; cases r; exact .nil
  | cons n ns ih =>
    intro us r
    rw [List.map_cons] at r
    cases r with
    | cons r1 r2 =>
      obtain ⟨t, e⟩ := r1
      subst e
      exact .cons n t (ih r2)
section
variable {X : Cx} {e : Expr} {te : TE} {lo hi : Option Expr} {tl th : TO} {pos p2 : Pos}
theorem po_none : PO X none tNoPart := by
  intro pins s σ H Q I h
  rw [evalPart_none]
  exact wpAny_pure ⟨none, H, I, .none, h⟩
theorem po_some (h : PE X e te) : PO X (some e) (tPart te) := by
  intro pins s σ H Q I hw
  rw [evalPart_some]
  refine thn (h pins s σ H _ I hw) fun u s1 hq__ => ?_
  obtain ⟨x, H1, I1, r1, q1⟩ := hq__
  obtain ⟨i, rfl, q⟩ := q1
  obtain ⟨t, rfl⟩ := r1
  exact ⟨some i, H1, I1, .int i t, q⟩
def SlR (X : Cx) (r : V → Option Int → Option Int → Hp → VK → Prop) : Prop :=
  ∀ (pins : List (Addr × Obj)) (s : Shared) (σ : St) (H : Hp) (x : V) (v vl vu : Value) (lo hi : Option Int) (sl : Addr) (Q : VK), Inv X pins σ H s → RelV x v → s.heap.IsSliceOf sl vl vu .none → IsPart vl lo → IsPart vu hi → r x lo hi H Q →
    ∃ T id, typeLookup (.type T) "__getitem__" = pure (some (.builtin id)) ∧ s.TypeIs v T ∧ wpAny (model X.prog X.w) X.A (getItem v (.ref sl)) (EP X pins σ Q) X.xe s
theorem SlR.or {r r' : V → Option Int → Option Int → Hp → VK → Prop} (h : SlR X r) (h' : SlR X r') : SlR X (fun x lo hi H Q => r x lo hi H Q ∨ r' x lo hi H Q) := by
  intro pins s σ H x v vl vu lo hi sl Q I rx hs pl pu q
  rcases q with q | q
  · exact h pins s σ H x v vl vu lo hi sl Q I rx hs pl pu q
  · exact h' pins s σ H x v vl vu lo hi sl Q I rx hs pl pu q
def tSl (r : V → Option Int → Option Int → Hp → VK → Prop) (te : TE) (tl th : TO) : TE := fun σ H Q => te σ H fun x H1 => tl σ H1 fun l H2 => th σ H2 fun u H3 => r x l u H3 Q
theorem pe_slice {r : V → Option Int → Option Int → Hp → VK → Prop} (hr : SlR X r) (he : PE X e te) (hl : PO X lo tl) (hu : PO X hi th) : PE X (.Subscript e (.Slice lo hi none p2) pos) (tSl r te tl th) := by
  intro pins s σ H Q I h
  refine Subscript_ (thn (he pins s σ H _ I h) fun v s1 hq__ => ?_)
  obtain ⟨x, H1, I1, r1, q1⟩ := hq__
  refine wpAny_Slice (thn (hl pins s1 σ H1 _ I1 q1) fun vl s2 ⟨l, H2, I2, pl, q2⟩ => thn (hu pins s2 σ H2 _ I2 q2) fun vu s3 hq__ => ?_)
  obtain ⟨u, H3, I3, pu, q3⟩ := hq__
  rw [evalPart_none]
  refine wpAny_pure ?_
  have I4 : Inv X pins σ H3 { s3 with heap := s3.heap.push { cls := .type "slice", data := .fields #[vl, vu, .none] } } := I3.kept (t' := s3.toks) fun b ob q => Heap.get?_push_of_some _ q
  obtain ⟨T, id, hT, ht, hg⟩ := hr pins { s3 with heap := s3.heap.push { cls := .type "slice", data := .fields #[vl, vu, .none] } } σ H3 x v vl vu l u s3.heap.objs.size Q I4 r1 (Heap.IsSliceOf.new ..) pl pu q3
  show wpAny (model X.prog X.w) X.A (subscriptTail e (.Slice lo hi none p2) v (.ref s3.heap.objs.size)) (EP X pins σ Q) X.xe { s3 with heap := s3.heap.push { cls := .type "slice", data := .fields #[vl, vu, .none] } }
  exact tail_any (ops := [.ref s3.heap.objs.size, v]) ht hT hg (by with_unfolding_all rfl)
def cutV (xs : List V) (lo hi : Option Int) : List V := (xs.drop (HT.sIx xs.length 0 lo)).take (HT.sIx xs.length xs.length hi - HT.sIx xs.length 0 lo)
theorem cutV_length (xs : List V) (lo hi : Option Int) : (cutV xs lo hi).length ≤ xs.length := by
  unfold cutV
  rw [List.length_take, List.length_drop]
  omega
end
end L2
namespace L2
open PySem PySem.Spec PyProof.Rows
def ixN (n : Nat) (i : Int) : Option Nat := if 0 ≤ i then (if i < n then some i.toNat else none) else if -(n : Int) ≤ i then some (i + n).toNat else none
def atI {α : Type} (xs : List α) (i : Int) : Option α := (ixN xs.length i).bind fun j => xs[j]?
theorem ixN_seq {n : Nat} {i : Int} {j : Nat} (h : ixN n i = some j) : seqIndex? i n = some j ∧ j < n ∧ -(n : Int) ≤ i ∧ i < n := by
  unfold ixN at h
  by_cases h0 : 0 ≤ i
  · rw [if_pos h0] at h
    by_cases h1 : i < n
    · rw [if_pos h1] at h
      have e : i.toNat = j := Option.some.inj h
      exact ⟨by rw [seqIndex_of h0 h1, e], by omega, by omega, h1⟩
    · rw [if_neg h1] at h; cases h
  · rw [if_neg h0] at h
    by_cases h1 : -(n : Int) ≤ i
    · rw [if_pos h1] at h
      have e : (i + n).toNat = j := Option.some.inj h
      exact ⟨by rw [seqIndex_neg (by omega) h1, e], by omega, h1, by omega⟩
    · rw [if_neg h1] at h; cases h
theorem atI_get {α : Type} {xs : List α} {i : Int} {v : α} (h : atI xs i = some v) : ∃ j, seqIndex? i xs.length = some j ∧ xs[j]? = some v ∧ j < xs.length ∧ -(xs.length : Int) ≤ i ∧ i < xs.length := by
  unfold atI at h
  cases e : ixN xs.length i with
  | none => rw [e] at h; cases h
  | some j =>
    rw [e] at h
    obtain ⟨h1, h2, h3, h4⟩ := ixN_seq e
    exact ⟨j, h1, h, h2, h3, h4⟩
theorem atI_nat {α : Type} {xs : List α} {j : Nat} {v : α} (h : xs[j]? = some v) : atI xs (j : Int) = some v := by
  have hj : j < xs.length := (List.getElem?_eq_some_iff.mp h).1
  have e : ixN xs.length (j : Int) = some j := by
    unfold ixN
    rw [if_pos (by omega), if_pos (by omega)]; simp
  unfold atI; rw [e]; exact h
def PlainIx (b : Expr) : Prop := ∀ o i, subscripted b false o i = operate [o, i] (getItem o i)
def IxR (X : Cx) (r : R2) : Prop :=
  ∀ (value slice : Expr) (pins : List (Addr × Obj)) (s : Shared) (σ : St) (H : Hp) (x y : V) (v u : Value) (Q : VK), Inv X pins σ H s → RelV x v → RelV y u → r x y H Q →
    subscripted slice false v u = operate [v, u] (getItem v u) → wpAny (model X.prog X.w) X.A (subscriptTail value slice v u) (EP X pins σ Q) X.xe s
def MtR (X : Cx) (id : String) (r : V → List V → Hp → VK → Prop) : Prop :=
  ∀ (pins : List (Addr × Obj)) (s : Shared) (σ : St) (H : Hp) (x : V) (xs : List V) (v : Value) (us : List Value) (Q : VK), Inv X pins σ H s → RelV x v → Vals xs us → r x xs H Q →
    wpAny (model X.prog X.w) X.A (call (.builtin id) (v :: us)) (EP X pins σ Q) X.xe s
section
variable {X : Cx} {a b : Expr} {ta tb : TE} {pos : Pos}
theorem IxR.or {r r' : R2} (h : IxR X r) (h' : IxR X r') : IxR X (fun x y H Q => r x y H Q ∨ r' x y H Q) := by
  intro value slice pins s σ H x y v u Q I rx ry q hs
  rcases q with q | q
  · exact h value slice pins s σ H x y v u Q I rx ry q hs
  · exact h' value slice pins s σ H x y v u Q I rx ry q hs
theorem MtR.or {id : String} {r r' : V → List V → Hp → VK → Prop} (h : MtR X id r) (h' : MtR X id r') : MtR X id (fun x xs H Q => r x xs H Q ∨ r' x xs H Q) := by
  intro pins s σ H x xs v us Q I rx rs q
  rcases q with q | q
  · exact h pins s σ H x xs v us Q I rx rs q
  · exact h' pins s σ H x xs v us Q I rx rs q
theorem pe_ix {r : R2} (hr : IxR X r) (ha : PE X a ta) (hb : PE X b tb) (hs : PlainIx b) : PE X (.Subscript a b pos) (tOp r ta tb) := by
  intro pins s σ H Q I h
  exact Subscript_ (binT ha hb I h fun v u s2 x y H2 I2 rx ry q => hr a b pins s2 σ H2 x y v u Q I2 rx ry q (hs _ _))
def rIxL (K : PySem.W.Frag) : R2 := fun x y H Q => ∃ p xs i v, x = .ref p ∧ y = .int i ∧ SqL K H p xs ∧ atI xs i = some v ∧ Q v H
def rIxT (K : PySem.W.Frag) : R2 := fun x y H Q => ∃ p xs i v, x = .ref p ∧ y = .int i ∧ SqT K H p xs ∧ atI xs i = some v ∧ Q v H
theorem ix_list : IxR X (rIxL X.K) := by
  intro value slice pins s σ H x y v u Q I rx ry h hs
  obtain ⟨p, xs, i, z, rfl, rfl, hq, he, q⟩ := h
  cases rx
  obtain ⟨t, rfl⟩ := ry
  obtain ⟨its, r, pl, hz⟩ := I.list hq
  obtain ⟨j, h1, h2, h3, h4, h5⟩ := atI_get he
  obtain ⟨w, ew, rw'⟩ := r.get h2
  have hl := r.length
  have hn := line63
  have fin : EP X pins σ Q w s := ⟨z, H, I, rw', q⟩
  by_cases h0 : 0 ≤ i
  · have hj : i.toNat = j := by
      rw [seqIndex_of h0 h5] at h1
      exact Option.some.inj h1
    exact item_listR pl.isList h0 (by omega) (by rw [hj]; simpa using ew) fin hs
  · have hj : (i + (its.toArray.size : Int)).toNat = j := by
      rw [seqIndex_neg (by omega) h4] at h1
      rw [List.size_toArray, ← hl]
      exact Option.some.inj h1
    exact subscriptTail_builtinR (x := w) pl.isList.typeIs slot_list_getitem.lookup
      (wpAny_getItem_list_neg (Q := fun r s' => r = w ∧ EP X pins σ Q r s') pl.isList (by omega) (by rw [List.size_toArray] <;> omega) (by omega) (by rw [hj]; simpa using ew) ⟨rfl, fin⟩) hs
theorem ix_tup : IxR X (rIxT X.K) := by
  intro value slice pins s σ H x y v u Q I rx ry h hs
  obtain ⟨p, xs, i, z, rfl, rfl, hq, he, q⟩ := h
  cases rx
  obtain ⟨t, rfl⟩ := ry
  obtain ⟨its, r, pl, hz⟩ := I.tuple hq
  obtain ⟨j, h1, h2, h3, h4, h5⟩ := atI_get he
  obtain ⟨w, ew, rw'⟩ := r.get h2
  have hl := r.length
  have hn := line63
  have fin : EP X pins σ Q w s := ⟨z, H, I, rw', q⟩
  exact subscriptTail_builtinR (x := w) pl.typeIs slot_tuple_getitem.lookup
    (getItem_tuple (j := j) (Q := fun r s' => r = w ∧ EP X pins σ Q r s') pl (by omega) (by omega) (by rw [List.size_toArray, ← hl]; exact h1) (by simpa using ew) ⟨rfl, fin⟩) hs
theorem Inv.lst {pins : List (Addr × Obj)} {σ : St} {H : Hp} {s : Shared} {p : Addr} {xs : List V} (I : Inv X pins σ H s) (h : H p = some (.lst xs)) :
    ∃ (its : List Value) (n : Nat), Vals xs its ∧ s.heap.get? p = some { cls := .type "list", data := .seq its.toArray n } ∧ xs.length ≤ sizeLine := by
  obtain ⟨z, its, n, r, e⟩ := I.hok p _ h
  exact ⟨its, n, r, e, z⟩
theorem slice_bounds (lo hi : Option Int) (n : Nat) : (sliceBounds lo hi none n).1 = ((HT.sIx n 0 lo : Nat) : Int) ∧ (sliceBounds lo hi none n).2.1 = ((HT.sIx n n hi : Nat) : Int) ∧ (sliceBounds lo hi none n).2.2 = 1 := by
  refine ⟨?_, ?_, rfl⟩
  · cases lo with
    | none => simp [sliceBounds, HT.sIx]
    | some i =>
      simp only [sliceBounds, HT.sIx, Option.getD_none, show (1 : Int) > 0 by decide, if_true]
      by_cases h : i < 0
      · simp only [h, if_true] <;> omega
      · simp only [h, if_false] <;> omega
  · cases hi with
    | none => simp [sliceBounds, HT.sIx]
    | some i =>
      simp only [sliceBounds, HT.sIx, Option.getD_none, show (1 : Int) > 0 by decide, if_true]
      by_cases h : i < 0
      · simp only [h, if_true] <;> omega
      · simp only [h, if_false] <;> omega
theorem slicePick_cut (its : List Value) (lo hi : Option Int) : slicePick its.toArray lo hi none = ((its.drop (HT.sIx its.length 0 lo)).take (HT.sIx its.length its.length hi - HT.sIx its.length 0 lo)).toArray := by
  obtain ⟨h1, h2, h3⟩ := slice_bounds lo hi its.toArray.size
  unfold slicePick
  rw [h1, h2, h3]
  simp only [sliceRange_one, pick_run, List.size_toArray] <;> rfl
def rSlL (K : PySem.W.Frag) : V → Option Int → Option Int → Hp → VK → Prop := fun x lo hi H Q => ∃ a xs, x = .ref a ∧ SqL K H a xs ∧ ∀ p, H p = none → Q (.ref p) (upd H p (.lst (cutV xs lo hi)))
theorem sl_list : SlR X (rSlL X.K) := by
  intro pins s σ H x v vl vu lo hi sl Q I rx hs pl pu h
  obtain ⟨a, xs, rfl, hx, q⟩ := h
  cases rx
  obtain ⟨its, r, ht, hz⟩ := I.list hx
  have hlen := r.length
  refine ⟨"list", _, slot_list_getitem.lookup, ht.isList.typeIs, ?_⟩
  refine wpAny_getItem_list_slice ht.isList hs pl pu .none (by simp) ?_ (by rw [List.size_toArray] <;> omega)
  rw [slicePick_cut, ← hlen]
  refine ⟨.ref s.heap.objs.size, _, I.laid (t' := s.toks) (o := .lst (cutV xs lo hi)) (fun b ob q => Heap.get?_push_of_some _ q) (Nat.le_refl _) ?_, rfl, q _ (I.hok.fresh (Nat.le_refl _))⟩
  exact ⟨Nat.le_trans (cutV_length xs lo hi) hz, _, 0, (r.drop (HT.sIx xs.length 0 lo)).take (HT.sIx xs.length xs.length hi - HT.sIx xs.length 0 lo), Heap.get?_push_size _ rfl⟩
def eqV : V → V → Bool
  | .non, .non => true
  | .bl a, .bl b => a == b
  | .bl a, .int b => (if a then 1 else 0) == b
  | .int a, .bl b => a == (if b then 1 else 0)
  | .int a, .int b => a == b
  | .str a, .str b => a == b
  | _, _ => false
def inV (x : V) (xs : List V) : Bool := xs.any fun y => eqV y x
theorem call_len_seq : CallR X (.builtin "len") (fun xs H Q => ∃ p ys, xs = [.ref p] ∧ (SqL X.K H p ys ∨ SqT X.K H p ys) ∧ Q (.int ys.length) H) := by
  intro pins s σ H xs us Q I r h
  obtain ⟨p, ys, rfl, hq, q⟩ := h
  obtain ⟨u, rfl, rx⟩ := vals1 r
  cases rx
  have hn := line63
  rcases hq with hq | hq
  · obtain ⟨its, r', pl, hz⟩ := I.list hq
    have hlen := r'.length
    exact Calls.call_len_list pl.isList (by simp only [List.size_toArray] <;> omega) ⟨.int ys.length, H, I.tok _, ⟨s.toks + 1, by rw [List.size_toArray, hlen]⟩, q⟩
  · obtain ⟨its, r', pl, hz⟩ := I.tuple hq
    have hlen := r'.length
    exact len_tuple pl (by simp only [List.size_toArray] <;> omega) ⟨.int ys.length, H, I.tok _, ⟨s.toks + 1, by rw [List.size_toArray, hlen]⟩, q⟩
theorem CallR.or {f : Value} {r r' : List V → Hp → VK → Prop} (h : CallR X f r) (h' : CallR X f r') : CallR X f (fun xs H Q => r xs H Q ∨ r' xs H Q) := by
  intro pins s σ H xs us Q I rs q
  rcases q with q | q
  · exact h pins s σ H xs us Q I rs q
  · exact h' pins s σ H xs us Q I rs q
theorem call_list_of : CallR X (.type "list") (fun xs H Q => ∃ p ys, xs = [.ref p] ∧ (SqL X.K H p ys ∨ SqT X.K H p ys) ∧ ∀ l, H l = none → Q (.ref l) (upd H l (.lst ys))) := by
  intro pins s σ H xs us Q I r h
  obtain ⟨p, ys, rfl, hq, q⟩ := h
  obtain ⟨u, rfl, rx⟩ := vals1 r
  cases rx
  have fin : ∀ (its : List Value), Vals ys its → ys.length ≤ sizeLine → ∀ (h' : Heap) (c' : Nat), (∀ b o', s.heap.get? b = some o' → h'.get? b = some o') →
      h'.get? s.heap.objs.size = some { cls := .type "list", dict := none, data := .seq its.toArray c', slots := #[] } → EP X pins σ Q (.ref s.heap.objs.size) { s with heap := h' } := fun its r' hz h' c' kp e =>
    ⟨.ref s.heap.objs.size, _, I.laid (t' := s.toks) kp (Nat.le_refl _) (show ObjOk X.prog X.w _ h' _ (.lst ys) from ⟨hz, its, c', r', e⟩), rfl, q _ (I.hok.fresh (Nat.le_refl _))⟩
  rcases hq with hq | hq
  · obtain ⟨its, r', pl, hz⟩ := I.list hq
    have hlen := r'.length
    obtain ⟨o, ho, hc, n, hd⟩ := pl.isList
    exact call_list_seq p (.inl rfl) ho hc hd (fun h' c' kp e => fin its r' hz h' c' kp e) (by simp only [List.size_toArray] <;> omega)
  · obtain ⟨its, r', pl, hz⟩ := I.tuple hq
    have hlen := r'.length
    obtain ⟨o, ho, hc, n, hd⟩ := pl
    exact call_list_seq p (.inr rfl) ho hc hd (fun h' c' kp e => fin its r' hz h' c' kp e) (by simp only [List.size_toArray] <;> omega)
def tyV (K : PySem.W.Frag) (T : String) (x : V) (H : Hp) : Prop := match x with
  | .str _ => T = "str"
  | .int _ => T = "int"
  | .ref p => (T = "list" ∧ ∃ xs, SqL K H p xs) ∨ (T = "tuple" ∧ ∃ o, K.lookup p = some o ∧ o.cls = .type "tuple" ∧ o.dict = none) ∨
      (T = "dict" ∧ ((∃ kvs, H p = some (.dK kvs)) ∨ ∃ kvs, H p = some (.dT kvs))) ∨ (T = "set" ∧ ∃ S n, H p = some (.set S n))
  | _ => False
theorem tyV_is {pins : List (Addr × Obj)} {σ : St} {H : Hp} {s : Shared} {T : String} {x : V} {v : Value} (I : Inv X pins σ H s) (r : RelV x v) (ty : tyV X.K T x H) :
    s.TypeIs v T ∧ ∀ a, v = .ref a → ∃ ob, s.heap.get? a = some ob ∧ ob.dict = none := by
  cases x with
  | str z =>
    obtain ⟨t, rfl⟩ := r
    cases (show T = "str" from ty)
    exact ⟨typeIs_str s z t, fun _ e => nomatch e⟩
  | int i =>
    obtain ⟨t, rfl⟩ := r
    cases (show T = "int" from ty)
    exact ⟨typeIs_int s i t, fun _ e => nomatch e⟩
  | ref p =>
    cases r
    rcases ty with ⟨rfl, xs, hq⟩ | ⟨rfl, o, hk, hc, hd⟩ | ⟨rfl, hk⟩ | ⟨rfl, S, n, hk⟩
    · obtain ⟨its, _, pl, _⟩ := I.list hq
      refine ⟨pl.isList.typeIs, fun a e => ?_⟩
      cases e
      obtain ⟨o, n, e, c, hd, _⟩ := pl
      exact ⟨o, e, hd⟩
    · refine ⟨⟨o, I.kIn p o hk, hc⟩, fun a e => ?_⟩
      cases e
      exact ⟨o, I.kIn _ o hk, hd⟩
    · have z : ∃ o, s.heap.get? p = some o ∧ o.ExactDict := by
        rcases hk with ⟨kvs, hk⟩ | ⟨kvs, hk⟩
        · obtain ⟨_, _, _, _, o, _, _, e, ex, _⟩ := I.hok p _ hk
          exact ⟨o, e, ex⟩
        · obtain ⟨_, _, _, _, o, _, _, e, ex, _⟩ := I.hok p _ hk
          exact ⟨o, e, ex⟩
      obtain ⟨o, e, ex⟩ := z
      refine ⟨⟨o, e, ex.1⟩, fun a e2 => ?_⟩
      cases e2
      exact ⟨o, e, ex.2.1⟩
    · obtain ⟨o, _, _, _, e, ex, _⟩ := I.hok p _ hk
      refine ⟨⟨o, e, ex.1⟩, fun a e2 => ?_⟩
      cases e2
      exact ⟨o, e, ex.2.1⟩
  | _ => exact False.elim ty
def tBM0 (K : PySem.W.Frag) (T : String) (r : V → List V → Hp → VK → Prop) (to : TE) : TE := fun σ H Q => to σ H fun x H1 => tyV K T x H1 ∧ r x [] H1 Q
def tBM (K : PySem.W.Frag) (T : String) (r : V → List V → Hp → VK → Prop) (to : TE) (t : TA) : TE := fun σ H Q => to σ H fun x H1 => tyV K T x H1 ∧ t σ H1 fun xs H2 => r x xs H2 Q
variable {o e : Expr} {es : List Expr} {to : TE} {t : TA} {name : Str} {apos cpos : Pos} {T id : String} {r : V → List V → Hp → VK → Prop}
theorem pe_bm0 (pa : PlainAttrs T) (slot : Slot T name id) (hty : typeOf (.builtin id) = pure (.type "method_descriptor")) (hm : MtR X id r) (ho : PE X o to)
    (hbase : attributeBase o name X.env (eval o X.env) = eval o X.env := by rfl) (hline : (apos.endLine == cpos.line) = true := by rfl) : PE X (.Call (.Attribute o name apos) [] [] cpos) (tBM0 X.K T r to) := by
  intro pins s σ H Q I h
  refine wpAny_Call_method0_late hbase hline (thn (ho pins s σ H _ I h) fun v s1 hq__ => ?_)
  obtain ⟨x, H1, I1, r1, ty, q1⟩ := hq__
  obtain ⟨h1, h2⟩ := tyV_is I1 r1 ty
  exact ⟨T, id, pa, slot, hty, h1, h2, Calls.callWith_builtin rfl (PySem.evalArgs_none (hm pins s1 σ H1 x [] v [] Q I1 r1 .nil q1))⟩
theorem pe_bm (pa : PlainAttrs T) (slot : Slot T name id) (hty : typeOf (.builtin id) = pure (.type "method_descriptor")) (hm : MtR X id r) (ho : PE X o to) (ha : PA X (e :: es) t)
    (hbase : attributeBase o name X.env (eval o X.env) = eval o X.env := by rfl)
    (hfew : ((backTo cpos (starEach (e :: es) X.env)).all (fun x => !x.1) && (backToKw cpos (keywordEach [] X.env)).all (fun x => x.1.isSome)
      && decide ((e :: es).length + ([] : List Keyword).length + (if ([] : List Keyword).isEmpty then 0 else 1) < 30)) = true := by rfl)
    (hline : (apos.endLine == cpos.line) = true := by rfl) (hs : starEach (e :: es) X.env = (false, eval e X.env) :: starEach es X.env := by rfl) (hplain : (backTo cpos (starEach es X.env)).any (·.1) = false := by rfl) :
    PE X (.Call (.Attribute o name apos) (e :: es) [] cpos) (tBM X.K T r to t) := by
  intro pins s σ H Q I h
  refine wpAny_Call_method_late hbase hfew hline rfl (thn (ho pins s σ H _ I h) fun v s1 hq__ => ?_)
  obtain ⟨x, H1, I1, r1, ty, q1⟩ := hq__
  obtain ⟨h1, h2⟩ := tyV_is I1 r1 ty
  refine ⟨T, id, pa, slot, hty, h1, h2, ?_⟩
  have hA := ha cpos pins s1 σ H1 _ I1 q1
  rw [hs] at hA ⊢
  refine Calls.callWith_builtin (by show (false || (backTo cpos (starEach es X.env)).any (·.1)) = false; rw [hplain] <;> rfl) (Calls.evalArgs_plain ?_)
  exact thn hA fun us s2 ⟨vs, H2, I2, r2, q2⟩ => hm pins s2 σ H2 x vs v us Q I2 r1 r2 q2
end
end L2
namespace L2
open PySem PySem.Spec PyProof.Rows
def MtM (X : Cx) (id : String) (r : V → List V → Hp → VK → Prop) : Prop :=
  ∀ (pins : List (Addr × Obj)) (s : Shared) (σ : St) (H : Hp) (x : V) (xs : List V) (v : Value) (us : List Value) (Q : VK), Inv X pins σ H s → RelV x v → Vals xs us → r x xs H Q →
    wpAny (model X.prog X.w) X.A (call (.builtin id) (v :: us)) (EP X pins σ Q) X.xe s
theorem Vals.one : ∀ {x : V} {us : List Value}, Vals [x] us → ∃ u, us = [u] ∧ RelV x u
  | _, _, .cons r .nil => ⟨_, rfl, r⟩
theorem Vals.two : ∀ {x y : V} {us : List Value}, Vals [x, y] us → ∃ u v, us = [u, v] ∧ RelV x u ∧ RelV y v
  | _, _, _, .cons r (.cons q .nil) => ⟨_, _, rfl, r, q⟩
theorem Vals.zero : ∀ {us : List Value}, Vals [] us → us = []
  | _, .nil => rfl
theorem Vals.reverse {xs : List V} {us : List Value} (h : Vals xs us) : Vals xs.reverse us.reverse := by
  induction h with
  | nil => exact .nil
  | cons r t ih => rw [List.reverse_cons, List.reverse_cons]; exact Vals.append ih (.cons r .nil)
theorem Vals.rep {xs : List V} {us : List Value} (h : Vals xs us) : ∀ k : Nat, Vals (List.replicate k xs).flatten (List.replicate k us).flatten
  | 0 => .nil
  | k + 1 => by
    rw [List.replicate_succ, List.replicate_succ, List.flatten_cons, List.flatten_cons]
    exact Vals.append h (Vals.rep h k)
section
variable {X : Cx} {pins : List (Addr × Obj)} {σ : St} {H : Hp} {s : Shared} {l b : Addr} {xs ys zs : List V}
theorem Inv.lset {its its' : List Value} {n : Nat} {f : Array Value → Array Value} {t' : Nat} (I : Inv X pins σ H s) (hH : H l = some (.lst xs))
    (e : s.heap.get? l = some { cls := .type "list", data := .seq its.toArray n }) (hf : f its.toArray = its'.toArray) (hv : Vals ys its') (hz : ys.length ≤ sizeLine) :
    Inv X pins σ (upd H l (.lst ys)) { s with heap := s.heap.update l (Obj.mapSeq f), toks := t' } := by
  have q := PySem.IsL.update e f
  rw [hf] at q
  refine I.write (x := l) (e := l) (by rw [hH]; exact trivial) (.inl rfl) (fun b' u hb hu => (Heap.get?_update_other s.heap (Obj.mapSeq f) (Ne.symm hb)).trans hu) ⟨_, q⟩ ?_
  exact ⟨hz, its', _, hv, q⟩
theorem Inv.lnew {its : List Value} {t' : Nat} (I : Inv X pins σ H s) (hv : Vals ys its) (hz : ys.length ≤ sizeLine) :
    Inv X pins σ (upd H s.heap.objs.size (.lst ys)) { s with heap := s.heap.push { cls := .type "list", data := .seq its.toArray }, toks := t' } :=
  I.laid (fun _ _ q => Heap.get?_push_of_some _ q) (Nat.le_refl _) ⟨hz, its, 0, hv, Heap.get?_push_size _ rfl⟩
theorem Inv.fresh (I : Inv X pins σ H s) : H s.heap.objs.size = none := I.hok.fresh (Nat.le_refl _)
theorem Inv.lstM (I : Inv X pins σ H s) (hH : H l = some (.lst xs)) : xs.length ≤ sizeLine ∧ ∃ (its : List Value) (n : Nat), Vals xs its ∧ xs.length = its.length ∧ s.heap.get? l = some { cls := .type "list", data := .seq its.toArray n } := by
  obtain ⟨z, its, n, r, e⟩ := I.hok l _ hH
  exact ⟨z, its, n, r, r.length, e⟩
theorem notLongL {n : Nat} (h : n ≤ sizeLine) : Builtin.List.listTooLong n = false := by
  unfold Builtin.List.listTooLong
  exact decide_eq_false (by omega)
end
section
variable {X : Cx}
def rAppend : V → List V → Hp → VK → Prop := fun x vs H Q => ∃ l xs y, x = .ref l ∧ vs = [y] ∧ H l = some (.lst xs) ∧ xs.length < sizeLine ∧ Q .non (upd H l (.lst (xs ++ [y])))
theorem mt_append : MtM X "list.append" rAppend := by
  intro pins s σ H x vs v us Q I rx rv h
  obtain ⟨l, xs, y, rfl, rfl, hH, hz, q⟩ := h
  cases rx
  obtain ⟨u, rfl, ru⟩ := rv.one
  obtain ⟨z, its, n, r, hl, e⟩ := I.lstM hH
  refine call_meets F.slot_list_append ⟨_, e, rfl⟩ F.entry_list_append (F.args_list_append_2 _ _) (PySem.list_append l its.toArray n u (by rw [List.size_toArray]; omega)) ⟨e, ?_⟩
  refine ⟨.non, _, I.lset (its' := its ++ [u]) hH e (by simp) (r.append (.cons ru .nil)) ?_, rfl, q⟩
  rw [List.length_append, List.length_singleton]
  omega
def rExtend : V → List V → Hp → VK → Prop := fun x vs H Q => ∃ l b xs zs, x = .ref l ∧ vs = [.ref b] ∧ H l = some (.lst xs) ∧ H b = some (.lst zs) ∧ xs.length + zs.length ≤ sizeLine ∧ Q .non (upd H l (.lst (xs ++ zs)))
theorem mt_extend : MtM X "list.extend" rExtend := by
  intro pins s σ H x vs v us Q I rx rv h
  obtain ⟨l, b, xs, zs, rfl, rfl, hH, hB, hz, q⟩ := h
  cases rx
  obtain ⟨u, rfl, ru⟩ := rv.one
  cases ru
  obtain ⟨z, its, n, r, hl, e⟩ := I.lstM hH
  obtain ⟨z2, its2, n2, r2, hl2, e2⟩ := I.lstM hB
  have hsz : its.toArray.size + its2.toArray.size ≤ sizeLine := by rw [List.size_toArray, List.size_toArray]; omega
  have hlong : ¬ (!its.toArray.isEmpty && Builtin.List.listTooLong (its.toArray.size + its2.toArray.size)) = true := by
    rw [notLongL hsz, Bool.and_false]
    exact Bool.false_ne_true
  refine call_meets F.slot_list_extend ⟨_, e, rfl⟩ F.entry_list_extend (F.args_list_extend_2 _ _)
    (AutoSeq1.list_extend_list_list_0 l its.toArray n b its2.toArray n2 hlong (by rw [List.size_toArray]; omega) (by omega)) ⟨e, e2, ?_⟩
  refine ⟨.non, _, I.lset (its' := its ++ its2) hH e (by simp) (r.append r2) ?_, rfl, q⟩
  rw [List.length_append]
  omega
def rClear : V → List V → Hp → VK → Prop := fun x vs H Q => ∃ l xs, x = .ref l ∧ vs = [] ∧ H l = some (.lst xs) ∧ Q .non (upd H l (.lst []))
theorem mt_clear : MtM X "list.clear" rClear := by
  intro pins s σ H x vs v us Q I rx rv h
  obtain ⟨l, xs, rfl, rfl, hH, q⟩ := h
  cases rx
  have hus := rv.zero
  subst hus
  obtain ⟨z, its, n, r, hl, e⟩ := I.lstM hH
  refine call_meets F.slot_list_clear ⟨_, e, rfl⟩ F.entry_list_clear (F.args_list_clear_1 _) (AutoSeq1.list_clear_list_0 l its.toArray n (by rw [List.size_toArray]; omega)) ⟨e, ?_⟩
  exact ⟨.non, _, I.lset (its' := []) (ys := []) hH e rfl .nil (Nat.zero_le _), rfl, q⟩
def rCat : R2 := fun x y H Q => ∃ l b xs zs, x = .ref l ∧ y = .ref b ∧ H l = some (.lst xs) ∧ H b = some (.lst zs) ∧ xs.length + zs.length ≤ sizeLine ∧ ∀ p, H p = none → Q (.ref p) (upd H p (.lst (xs ++ zs)))
theorem op_cat : OpR X (binaryOp .Add) rCat := by
  intro pins s σ H x y v u Q I rx ry h
  obtain ⟨l, b, xs, zs, rfl, rfl, hH, hB, hz, q⟩ := h
  cases rx
  cases ry
  obtain ⟨z, its, n, r, hl, e⟩ := I.lstM hH
  obtain ⟨z2, its2, n2, r2, hl2, e2⟩ := I.lstM hB
  refine PySem.P.add_list e e2 ?_ (by rw [List.size_toArray, List.size_toArray]; omega)
  have ea : its.toArray ++ its2.toArray = (its ++ its2).toArray := by simp
  rw [ea]
  exact ⟨.ref _, _, I.lnew (t' := s.toks) (r.append r2) (by rw [List.length_append]; omega), rfl, q _ I.fresh⟩
end
section
variable {prog : Program} {w : World} {A : Around} {E : Value → Shared → Prop} {s : Shared}
end
section
variable {X : Cx}
end
end L2
namespace L2
open PySem PySem.Spec PyProof.Rows
section
variable {κ : Type} [DecidableEq κ]
def valV (kvs : List (κ × V)) (k : κ) : Option V := (kvs.find? fun kv => decide (kv.1 = k)).map (·.2)
def putK (kvs : List (κ × V)) (k : κ) (v : V) : List (κ × V) :=
  if (kvs.any fun kv => decide (kv.1 = k)) = true then kvs.map (fun kv => if kv.1 = k then (kv.1, v) else kv) else kvs ++ [(k, v)]
def dropK (kvs : List (κ × V)) (k : κ) : List (κ × V) := kvs.filter fun kv => decide (kv.1 ≠ k)
theorem valV_pos {p : κ × V} {r : List (κ × V)} {k : κ} (e : p.1 = k) : valV (p :: r) k = some p.2 := by simp [valV, List.find?_cons, e]
theorem valV_neg {p : κ × V} {r : List (κ × V)} {k : κ} (e : ¬ p.1 = k) : valV (p :: r) k = valV r k := by simp [valV, List.find?_cons, e]
theorem valV_any (k : κ) : ∀ kvs : List (κ × V), (kvs.any fun kv => decide (kv.1 = k)) = (valV kvs k).isSome
  | [] => rfl
  | p :: r => by
    rw [List.any_cons]
    by_cases e : p.1 = k
    · simp only [valV_pos e, decide_eq_true e, Bool.true_or, Option.isSome_some]
    · rw [valV_neg e, decide_eq_false e, Bool.false_or]; exact valV_any k r
theorem length_putK (kvs : List (κ × V)) (k : κ) (v : V) : (putK kvs k v).length ≤ kvs.length + 1 := by
  unfold putK
  split
  · rw [List.length_map]; omega
  · rw [List.length_append, List.length_cons, List.length_nil]; omega
theorem RelO.isSome_eq {o : Option V} {u : Option Value} (r : RelO o u) : o.isSome = u.isSome := by
  cases o with
  | none => cases u with
    | none => rfl
    | some _ => exact (show False from r).elim
  | some _ => cases u with
    | none => exact (show False from r).elim
    | some _ => rfl
theorem RelO.getD {o : Option V} {u : Option Value} {d : V} {d' : Value} (r : RelO o u) (rd : RelV d d') : RelV (o.getD d) (u.getD d') := by
  cases o with
  | none => cases u with
    | none => exact rd
    | some _ => exact (show False from r).elim
  | some _ => cases u with
    | none => exact (show False from r).elim
    | some _ => exact r
theorem KV.val {kvs : List (κ × V)} {vs : List (κ × Value)} (r : KV kvs vs) (k : κ) : RelO (valV kvs k) (valueAt vs k) := by
  unfold KV at r
  induction r with
  | nil => exact True.intro
  | @cons p q ps qs h t ih =>
    obtain ⟨h1, h2⟩ := h
    by_cases e : p.1 = k
    · have e' : q.1 = k := h1.symm.trans e
      have b : valueAt (q :: qs) k = some q.2 := by simp [valueAt, List.find?_cons, e']
      rw [valV_pos e, b]; exact h2
    · have e' : ¬ q.1 = k := fun z => e (h1.trans z)
      have b : valueAt (q :: qs) k = valueAt qs k := by simp [valueAt, List.find?_cons, e']
      rw [valV_neg e, b]; exact ih
theorem KV.any {kvs : List (κ × V)} {vs : List (κ × Value)} (r : KV kvs vs) (k : κ) : (kvs.any fun kv => decide (kv.1 = k)) = vs.any fun kv => decide (kv.1 = k) := by
  unfold KV at r
  induction r with
  | nil => rfl
  | cons h t ih => rw [List.any_cons, List.any_cons, ih, h.1]
theorem KV.repl {kvs : List (κ × V)} {vs : List (κ × Value)} (r : KV kvs vs) (k : κ) {y : V} {u : Value} (ry : RelV y u) :
    KV (kvs.map fun kv => if kv.1 = k then (kv.1, y) else kv) (vs.map fun kv => if kv.1 = k then (kv.1, u) else kv) := by
  unfold KV at r ⊢
  induction r with
  | nil => exact .nil
  | @cons p q ps qs h t ih =>
    rw [List.map_cons, List.map_cons]
    refine .cons ?_ ih
    obtain ⟨h1, h2⟩ := h
    by_cases e : p.1 = k
    · rw [if_pos e, if_pos (h1.symm.trans e)]; exact ⟨h1, ry⟩
    · rw [if_neg e, if_neg (fun z => e (h1.trans z))]; exact ⟨h1, h2⟩
theorem KV.put {kvs : List (κ × V)} {vs : List (κ × Value)} (r : KV kvs vs) (k : κ) {y : V} {u : Value} (ry : RelV y u) : KV (putK kvs k y) (stored vs k u) := by
  unfold putK stored
  rw [r.any k]
  by_cases e : (vs.any fun kv => decide (kv.1 = k)) = true
  · rw [if_pos e, if_pos e]; exact r.repl k ry
  · rw [if_neg e, if_neg e]; exact Paired.snoc r ⟨rfl, ry⟩
theorem KV.drop {kvs : List (κ × V)} {vs : List (κ × Value)} (r : KV kvs vs) (k : κ) : KV (dropK kvs k) (without vs k) := by
  unfold KV at r ⊢
  unfold dropK without
  induction r with
  | nil => exact .nil
  | @cons p q ps qs h t ih =>
    obtain ⟨h1, h2⟩ := h
    rw [List.filter_cons, List.filter_cons]
    by_cases e : p.1 = k
    · have a : ¬ decide (p.1 ≠ k) = true := by simp [e]
      have b : ¬ decide (q.1 ≠ k) = true := by simp [h1.symm.trans e]
      rw [if_neg a, if_neg b]; exact ih
    · have e' : ¬ q.1 = k := fun z => e (h1.trans z)
      have a : decide (p.1 ≠ k) = true := by simp [e]
      have b : decide (q.1 ≠ k) = true := by simp [e']
      rw [if_pos a, if_pos b]; exact .cons ⟨h1, h2⟩ ih
theorem KV.keys {kvs : List (κ × V)} {vs : List (κ × Value)} (r : KV kvs vs) : kvs.map (·.1) = vs.map (·.1) := by
  unfold KV at r
  induction r with
  | nil => rfl
  | cons h t ih => rw [List.map_cons, List.map_cons, ih, h.1]
theorem KV.length {kvs : List (κ × V)} {vs : List (κ × Value)} (r : KV kvs vs) : kvs.length = vs.length := Paired.length r
end
theorem kV_is {P : Program} {w : World} {k : Key} {u : Value} (r : RelV (kV k) u) : (mixKind P w).is k u = true := by
  cases k with
  | inl i => obtain ⟨t, e⟩ := (show ∃ t, u = Value.int i t from r); subst e; exact mixKind_int P w i t
  | inr x => obtain ⟨t, e⟩ := (show ∃ t, u = Value.str x t from r); subst e; exact mixKind_str P w x t
theorem items_are {P : Program} {w : World} : ∀ {ks : List Key} {us : List Value}, Vals (ks.map kV) us → ItemsAre (mixKind P w) ks us
  | [], _, r => by rw [List.map_nil] at r; cases r; exact .nil
  | k :: ks, _, r => by
    rw [List.map_cons] at r
    cases r with
    | cons h t => exact .cons (kV_is h) (items_are t)
abbrev KT (H : Hp) : List (List Key × V) → List (List Key × Addr × Value) → Prop := Paired fun p q => p.1 = q.1 ∧ H q.2.1 = some (.tup (p.1.map kV)) ∧ RelV p.2 q.2.2
theorem KT.val {H : Hp} {kvs : List (List Key × V)} {xs : List (List Key × Addr × Value)} (r : KT H kvs xs) (k : List Key) : RelO (valV kvs k) ((atKey xs k).map (·.2)) := by
  induction r with
  | nil => exact True.intro
  | @cons p q ps qs h t ih =>
    obtain ⟨h1, _, h2⟩ := h
    by_cases e : p.1 = k
    · have e' : q.1 = k := h1.symm.trans e
      have b : atKey (q :: qs) k = some q.2 := by simp [atKey, List.find?_cons, e']
      rw [valV_pos e, b]; exact h2
    · have e' : ¬ q.1 = k := fun z => e (h1.trans z)
      have b : atKey (q :: qs) k = atKey qs k := by simp [atKey, List.find?_cons, e']
      rw [valV_neg e, b]; exact ih
theorem KT.repl {H : Hp} {kvs : List (List Key × V)} {xs : List (List Key × Addr × Value)} (r : KT H kvs xs) (k : List Key) {y : V} {u : Value} (ry : RelV y u) :
    KT H (kvs.map fun kv => if kv.1 = k then (kv.1, y) else kv) (xs.map (putAt k u)) := by
  induction r with
  | nil => exact .nil
  | @cons p q ps qs h t ih =>
    rw [List.map_cons, List.map_cons]
    refine .cons ?_ ih
    obtain ⟨h1, h2, h3⟩ := h
    unfold putAt
    by_cases e : p.1 = k
    · rw [if_pos e, if_pos (h1.symm.trans e)]; exact ⟨h1, h2, ry⟩
    · rw [if_neg e, if_neg (fun z => e (h1.trans z))]; exact ⟨h1, h2, h3⟩
theorem KT.put {H : Hp} {kvs : List (List Key × V)} {xs : List (List Key × Addr × Value)} (r : KT H kvs xs) (k : List Key) {b : Addr} {y : V} {u : Value} (hb : H b = some (.tup (k.map kV))) (ry : RelV y u) :
    KT H (putK kvs k y) (storedH xs k b u) := by
  have e : (kvs.any fun kv => decide (kv.1 = k)) = (atKey xs k).isSome := by
    rw [valV_any, (r.val k).isSome_eq, Option.isSome_map]
  unfold putK storedH
  rw [e]
  by_cases q : (atKey xs k).isSome = true
  · rw [if_pos q, if_pos q]; exact r.repl k ry
  · rw [if_neg q, if_neg q]; exact Paired.snoc r ⟨rfl, hb, ry⟩
theorem KT.keeps {H H' : Hp} {kvs : List (List Key × V)} {xs : List (List Key × Addr × Value)} (r : KT H kvs xs) (ht : ∀ b ys, H b = some (.tup ys) → H' b = some (.tup ys)) : KT H' kvs xs :=
  Paired.mapP r fun _ _ z => ⟨z.1, ht _ _ z.2.1, z.2.2⟩
section
variable {P : Program} {w : World} {H : Hp} {h : Heap} {a : Addr}
theorem rd_of {u : HO} (ok : HOk P w H h) (e : Rd H a u) : ObjOk P w H h a u := e.ok ok
theorem dk_rd {kvs : List (Key × V)} (ok : HOk P w H h) (e : Rd H a (.dK kvs)) : kvs.length ≤ sizeLine ∧ (a == sysModules) = false ∧ ∃ vs, KV kvs vs ∧ h.DictOf (mixKind P w) a vs :=
  show ObjOk P w H h a (.dK kvs) from rd_of ok e
theorem key_of {ks : List Key} (ok : HOk P w H h) (e : H a = some (.tup (ks.map kV))) : (tupleKind (mixKind P w)).is h ks a := by
  obtain ⟨_, its, r, o, h1, h2, n, h3⟩ := (show ObjOk P w H h a (.tup (ks.map kV)) from ok a _ e)
  exact ⟨o, its.toArray, n, h1, h2, h3, by simpa using items_are r⟩
theorem dt_rd {kvs : List (List Key × V)} (ok : HOk P w H h) (e : Rd H a (.dT kvs)) : kvs.length ≤ sizeLine ∧ (a == sysModules) = false ∧
    ∃ xs, KT H kvs xs ∧ h.DictOfH (tupleKind (mixKind P w)) a xs := by
  obtain ⟨z, y, xs, r, o, es, ep, h1, h2, h3, h4, h5⟩ := (show ObjOk P w H h a (.dT kvs) from rd_of ok e)
  refine ⟨z, y, xs, r, o, es, ep, h1, h2, h3, h4, fun x hx => ?_, h5⟩
  have all : ∀ {l : List (List Key × V)} {m : List (List Key × Addr × Value)}, KT H l m → ∀ x ∈ m, (tupleKind (mixKind P w)).is h x.1 x.2.1 := by
    intro l m q
    induction q with
    | nil => intro x hx; exact nomatch hx
    | @cons p q ps qs hq t ih =>
      intro x hx
      rcases List.mem_cons.mp hx with e | hx
      · subst e
        exact key_of ok (by rw [← hq.1]; exact hq.2.1)
      · exact ih x hx
  exact all r x hx
end
def DGet (H : Hp) (a : Addr) (y : V) (r : Option V) : Prop :=
  (∃ kvs k, Rd H a (.dK kvs) ∧ y = kV k ∧ r = valV kvs k) ∨ ∃ kvs k b, Rd H a (.dT kvs) ∧ y = .ref b ∧ H b = some (.tup (k.map kV)) ∧ r = valV kvs k
def DPut (H : Hp) (a : Addr) (y v : V) (H' : Hp) : Prop :=
  (∃ kvs k, H a = some (.dK kvs) ∧ y = kV k ∧ kvs.length < sizeLine ∧ H' = upd H a (.dK (putK kvs k v))) ∨
  ∃ kvs k b, H a = some (.dT kvs) ∧ y = .ref b ∧ H b = some (.tup (k.map kV)) ∧ kvs.length < sizeLine ∧ H' = upd H a (.dT (putK kvs k v))
theorem DGet.k {H : Hp} {a : Addr} {kvs : List (Key × V)} {k : Key} (e : H a = some (.dK kvs)) : DGet H a (kV k) (valV kvs k) := .inl ⟨kvs, k, .inl e, rfl, rfl⟩
theorem DGet.t {H : Hp} {a b : Addr} {kvs : List (List Key × V)} {k : List Key} (e : H a = some (.dT kvs)) (eb : H b = some (.tup (k.map kV))) : DGet H a (.ref b) (valV kvs k) := .inr ⟨kvs, k, b, .inl e, rfl, eb, rfl⟩
theorem DPut.k {H : Hp} {a : Addr} {kvs : List (Key × V)} {k : Key} {v : V} (e : H a = some (.dK kvs)) (hl : kvs.length < sizeLine) : DPut H a (kV k) v (upd H a (.dK (putK kvs k v))) := .inl ⟨kvs, k, e, rfl, hl, rfl⟩
theorem DPut.t {H : Hp} {a b : Addr} {kvs : List (List Key × V)} {k : List Key} {v : V} (e : H a = some (.dT kvs)) (eb : H b = some (.tup (k.map kV))) (hl : kvs.length < sizeLine) :
    DPut H a (.ref b) v (upd H a (.dT (putK kvs k v))) := .inr ⟨kvs, k, b, e, rfl, eb, hl, rfl⟩
section
variable {X : Cx} {pins : List (Addr × Obj)} {σ : St} {H : Hp} {s : Shared} {a : Addr} {y v : V} {u r : Value} {o : Option V} {A : Around} {E : Value → Shared → Prop}
theorem Inv.big (I : Inv X pins σ H s) : sysModules < s.heap.objs.size := by
  have h : mainGlobals < s.heap.objs.size := (I.mod.glob.keeps I.bk).lt
  exact Nat.lt_trans (by decide) h
theorem dk_new {P : Program} {w : World} {H' : Hp} {h' : Heap} {kvs : List (Key × V)} {vs : List (Key × Value)} (z : kvs.length ≤ sizeLine) (hd : (a == sysModules) = false) (rel : KV kvs vs) (dd : h'.DictOf (mixKind P w) a vs) :
    ObjOk P w H' h' a (.dK kvs) := ⟨z, hd, vs, rel, dd⟩
end
section
variable {X : Cx} {pins : List (Addr × Obj)} {σ : St} {H : Hp} {s : Shared} {a : Addr} {kvs : List (Key × V)} {k : Key} {u : Value} {A : Around} {E : Value → Shared → Prop}
end
section
variable {X : Cx} {o i e value : Expr} {pos pos' tpos : Pos} {td ty tv : TE}
end
section
variable {X : Cx} {pos : Pos}
end
def mergeK (kvs more : List (Key × V)) : List (Key × V) := more.foldl (fun acc kv => putK acc kv.1 kv.2) kvs
theorem KV.merge : ∀ {more : List (Key × V)} {rs : List (Key × Value)} {kvs : List (Key × V)} {vs : List (Key × Value)}, KV more rs → KV kvs vs → KV (mergeK kvs more) (merged vs rs) := by
  intro more rs kvs vs r
  unfold KV at r
  induction r generalizing kvs vs with
  | nil => intro q; exact q
  | @cons p q ps qs h t ih =>
    intro r0
    have e : KV (putK kvs p.1 p.2) (stored vs q.1 q.2) := by
      have := r0.put p.1 h.2
      rw [← h.1]; exact this
    exact ih e
theorem length_mergeK : ∀ (more kvs : List (Key × V)), (mergeK kvs more).length ≤ kvs.length + more.length
  | [], kvs => by show kvs.length ≤ kvs.length + 0; omega
  | p :: r, kvs => by
    have h1 := length_mergeK r (putK kvs p.1 p.2)
    have h2 := length_putK kvs p.1 p.2
    show (mergeK (putK kvs p.1 p.2) r).length ≤ _
    rw [List.length_cons]; omega
structure M1 (X : Cx) (o : Expr) (m : Str) (apos : Pos) (e : Expr) (cpos : Pos) : Prop where
  base : attributeBase o m X.env (eval o X.env) = eval o X.env
  few : ((backTo cpos (starEach [e] X.env)).all (fun x => !x.1) && (backToKw cpos (keywordEach [] X.env)).all (fun x => x.1.isSome)
    && decide (([e] : List Expr).length + ([] : List Keyword).length + (if ([] : List Keyword).isEmpty then 0 else 1) < 30)) = true
  line : (apos.endLine == cpos.line) = true
  trees : backTo cpos (starEach [e] X.env) = [(false, eval e X.env)]
structure M2 (X : Cx) (o : Expr) (m : Str) (apos : Pos) (e f : Expr) (cpos : Pos) : Prop where
  base : attributeBase o m X.env (eval o X.env) = eval o X.env
  few : ((backTo cpos (starEach [e, f] X.env)).all (fun x => !x.1) && (backToKw cpos (keywordEach [] X.env)).all (fun x => x.1.isSome)
    && decide (([e, f] : List Expr).length + ([] : List Keyword).length + (if ([] : List Keyword).isEmpty then 0 else 1) < 30)) = true
  line : (apos.endLine == cpos.line) = true
  trees : backTo cpos (starEach [e, f] X.env) = [(false, eval e X.env), (false, eval f X.env)]
def IsD (H : Hp) (a : Addr) : Prop := (∃ kvs, Rd H a (.dK kvs)) ∨ ∃ kvs, Rd H a (.dT kvs)
theorem isD_at {X : Cx} {pins : List (Addr × Obj)} {σ : St} {H : Hp} {s : Shared} {a : Addr} (I : Inv X pins σ H s) (d : IsD H a) :
    s.TypeIs (.ref a) "dict" ∧ (∀ b, Value.ref a = .ref b → ∃ ob, s.heap.get? b = some ob ∧ ob.dict = none) ∧ (a == sysModules) = false := by
  rcases d with ⟨kvs, e⟩ | ⟨kvs, e⟩
  · obtain ⟨_, hd, vs, _, dd⟩ := dk_rd I.hok e
    refine ⟨dd.typeIs, fun b q => ?_, hd⟩
    cases q
    obtain ⟨ob, _, _, h1, h2, _⟩ := dd
    exact ⟨ob, h1, h2.2.1⟩
  · obtain ⟨_, hd, xs, _, dd⟩ := dt_rd I.hok e
    refine ⟨dd.typeIs, fun b q => ?_, hd⟩
    cases q
    obtain ⟨ob, _, _, h1, h2, _⟩ := dd
    exact ⟨ob, h1, h2.2.1⟩
section
variable {X : Cx} {pins : List (Addr × Obj)} {σ : St} {H : Hp} {s : Shared} {a : Addr} {y d : V} {u r : Value} {o : Option V} {A : Around} {E : Value → Shared → Prop}
theorem d_get2 {Q : Value → Shared → Prop} (hu : A.units + 1 < cLine) (I : Inv X pins σ H s) (g : DGet H a y o) (ry : RelV y u) (rd : RelV d r) (h : ∀ w' s', Inv X pins σ H s' → RelV (o.getD d) w' → Q w' s') :
    wpAny (model X.prog X.w) A (call (.builtin "dict.get") [.ref a, u, r]) Q E s := by
  rcases g with ⟨kvs, k, e, ey, l⟩ | ⟨kvs, k, b, e, ey, eb, l⟩
  · subst ey
    obtain ⟨z, hd, vs, rel, dd⟩ := dk_rd I.hok e
    refine call_meetsIn PySem.F.slot_dict_get dd.typeIs PySem.F.entry_dict_get (PySem.F.args_dict_get_3 _ _ _) (meets_dict_get_default (mixKind X.prog X.w) a (kV_is ry) hd r) ⟨_, dd.mapOf, h _ _ (I.tok _) ?_⟩
    rw [l]
    exact (rel.val k).getD rd
  · subst ey
    cases (show u = Value.ref b from ry)
    obtain ⟨z, hd, xs, rel, dd⟩ := dt_rd I.hok e
    refine call_meetsIn PySem.F.slot_dict_get dd.typeIs PySem.F.entry_dict_get (PySem.F.args_dict_get_3 _ _ _) (meetsH_dict_get_default (tupleKind (mixKind X.prog X.w)) a b hd r) ⟨tupleKind_room_in1 hu, k, xs, key_of I.hok eb, dd, h _ _ (I.tok _) ?_⟩
    rw [l]
    exact (rel.val k).getD rd
end
def tDGet2 (td ty tx : TE) : TE := fun σ H Q => td σ H fun x H1 => ∃ a, x = .ref a ∧ IsD H1 a ∧ ty σ H1 fun y H2 => tx σ H2 fun z H3 => ∃ o, DGet H3 a y o ∧ Q (o.getD z) H3
section
variable {X : Cx} {o e f : Expr} {apos cpos : Pos} {td ty tx : TE}
theorem pe_dget2 (hu : X.A.units + 1 < cLine) (ho : PE X o td) (he : PE X e ty) (hf : PE X f tx) (m : M2 X o "get" apos e f cpos) : PE X (.Call (.Attribute o "get" apos) [e, f] [] cpos) (tDGet2 td ty tx) := by
  intro pins s σ H Q I h
  refine wpAny_Call_method m.base m.few m.line PySem.F.plainAttrs_dict PySem.F.slot_dict_get PySem.F.type_dict_get (thn (ho pins s σ H _ I h) fun u s1 hq__ => ?_)
  obtain ⟨x, H1, I1, rx, a, ex, d, q1⟩ := hq__
  subst ex
  obtain rfl : u = Value.ref a := rx
  obtain ⟨t1, t2, _⟩ := isD_at I1 d
  refine ⟨t1, t2, ?_⟩
  rw [m.trees]
  refine Calls.callWith_builtin rfl (Calls.evalArgs_plain (Calls.spliced_cons (thn (he pins s1 σ H1 _ I1 q1) fun iv s2 ⟨y, H2, I2, ry, q2⟩ =>
    Calls.spliced_cons (thn (hf pins s2 σ H2 _ I2 q2) fun fv s3 ⟨z, H3, I3, rz, ov, g, q3⟩ => Calls.spliced_nil ?_))))
  exact d_get2 hu I3 g ry rz fun w' s4 I4 rw' => ⟨_, H3, I4, rw', q3⟩
end
section
variable {X : Cx} {pins : List (Addr × Obj)} {σ : St} {H : Hp} {s : Shared} {a : Addr} {kvs : List (Key × V)} {A : Around} {E : Value → Shared → Prop}
end
section
variable {X : Cx} {pins : List (Addr × Obj)} {σ : St} {H : Hp} {s : Shared} {a : Addr} {y : V} {u : Value} {A : Around} {E : Value → Shared → Prop}
end
end L2
namespace Att
open PySem PySem.W PySem.Calls PyProof.Rows
theorem ints_of_wellAll {P : Params} {h : Heap} : ∀ (ns : List Int) (vs : List Value), WellAll P h vs (ns.map WData.int) → IntsAre vs ns := by
  intro ns
  induction ns with
  | nil =>
    intro vs w
    rw [List.map_nil] at w
    cases w
    exact .nil
  | cons n ns ih =>
    intro vs w
    rw [List.map_cons] at w
    cases w with
    | cons a b =>
      cases a
      exact .cons _ _ (ih _ b)
theorem script_of {l : OpenLaw} {n : Nat} (hn : l.most = some n) {P : Params} {h : Heap} {args : List WData} {vals : List Value}
    (hpre : l.row.toRowW.claim.pre args = true) (hwl : WellAll P h vals args) :
    ∃ a vs ns, vals = [Value.ref a] ∧ args = [WData.list (ns.map WData.int)] ∧ h.get? a = some { cls := .type "list", data := .seq vs.toArray } ∧ IntsAre vs ns ∧ ns.length ≤ n := by
  have hsh : WShape.hasAll [] args [.list .int] = true := (pre_splitW hpre).1
  have hc : l.pre.holds [] { args := args } = true := (pre_splitW hpre).2
  obtain ⟨d, r, rfl, h1, h2⟩ := hasAllW_cons hsh
  obtain rfl := hasAllW_nil h2
  obtain ⟨xs, rfl, h3⟩ := hasW_list h1
  obtain ⟨ns, rfl⟩ := items_int h3
  have hlen : ns.length ≤ n := by
    unfold OpenLaw.pre at hc
    have h4 : (WTm.not (.lt (.lit (.int (n : Int))) (.len (.arg 0)))).holds [] { args := [.list (ns.map .int)] } = true := by
      have h4 := (holds_andW hc).1
      rw [hn] at h4
      exact h4
    have h5 := condW_of h4 (w_not (w_lt w_lit (w_len_list (w_arg rfl))))
    rw [List.length_map] at h5
    refine Nat.le_of_not_lt fun q => ?_
    have q' : (n : Int) < ((ns.length : Nat) : Int) := by omega
    first
      | (rw [decide_eq_true q'] at h5; exact absurd h5 (by decide))
      | (simp at h5; omega)
  cases hwl with
  | cons w1 w2 =>
    cases w2
    cases w1 with
    | list ho hall => exact ⟨_, _, ns, rfl, rfl, ho, ints_of_wellAll ns _ hall, hlen⟩
theorem post_true (l : OpenLaw) (args : List WData) : l.row.toRowW.claim.post args (.bool true) args = true :=
  postW_of (r := l.row.toRowW) (X := (true == true))
    (show WShape.has [] (.bool true) .bool = true by first | rfl | decide | simp [WShape.has, WShape.arms, WShape.armsAll])
    (show (WTm.eq .res (.lit (.bool true))).value [] { args := args, res := some (.bool true), after := args } = some (.bool (true == true)) from w_eq_bool (w_res rfl) w_lit) rfl
theorem attach_call {l : OpenLaw} {n : Nat} {q : Program} {loose : List Str} {XP : (Str → Option Value) → Heap → Prop} {YP : World → Heap → Prop} {d : DefRec}
    (hn : l.most = some n) (hdf : d.params.defaults = [])
    (call : ∀ (w : World) (s₀ s₁ : Shared) (mg mb : Str → Option Value) (fa : Addr) (o : Obj) (pm cd doc : Value) (a : Addr) (vs : List Value) (ns : List Int),
      Ground q loose [] XP w s₀ mg mb s₁.heap → YP w s₁.heap →
      s₁.heap.get? fa = some o → o.data = .func (docDef d.name d.params d.body d.scope pm cd doc) → s₁.heap.CodeRec cd d.name → mg d.name = some (.ref fa) →
      s₁.heap.get? a = some { cls := .type "list", data := .seq vs.toArray } → IntsAre vs ns → ns.length ≤ n → s₁.gens = #[] →
      codeAny (model l.prog w) callerA (.call (.ref fa) ⟨[.ref a], []⟩) (fun r s' => r = .ok (.ret (.bool true)) ∧ OldK s₁.heap s'.heap ∧ s'.os = s₁.os ∧ AllBare s'.gens) s₁) :
    WalkO q loose XP YP l.row.toRowW d [] (fun f vs => PySem.call f vs) := by
  intro w s₀ s₁ mg mb G Y fa o pm cd doc dV kV ho hd hcd hD hmg hg args vals as hpre hlay hrd hwl hlo
  obtain rfl : dV = .none := Dflts.none hD hdf
  obtain rfl : kV = .none := Dflts.noKw hD
  obtain ⟨a, vs, ns, rfl, rfl, hobj, hints, hlen⟩ := script_of hn hpre hwl
  refine enter_call (codeAny_mono (call w s₀ s₁ mg mb fa o pm cd doc a vs ns G Y ho (fd_plain hd) hcd hmg hobj hints hlen hg) fun r s' hq => ?_)
  obtain ⟨rfl, h2, h3, h4⟩ := hq
  exact ⟨.inl ⟨.bool true, .bool true, [], rfl, fun _ => rfl, .bool true, post_true l _, fun _ => ⟨List.Pairwise.nil, fun _ hm => (nomatch hm)⟩⟩, h2, h3, h4⟩
section
variable {prog : Program} {w : World} {A : Around} {E : Value → Shared → Prop} {s : Shared} {K : Frag}
def ledger (h : Heap) (L d : Addr) : List (Addr × Obj) := (List.range h.objs.size).filterMap fun a => if a = L ∨ a = d then none else (h.get? a).map fun o => (a, o)
end
end Att
namespace L2
open PySem PySem.Spec PyProof.Rows
theorem vals_ints : ∀ {vs : List Value} {ns : List Int}, IntsAre vs ns → Vals (ns.map V.int) vs
  | _, _, .nil => .nil
  | _, _, .cons n t h => .cons ⟨t, rfl⟩ (vals_ints h)
def Only (H : Hp) : Prop := ∀ b, H b = none ∨ ∃ o xs, H b = some (.frz o (.lst xs))
theorem law_call {P : Program} {w : World} {K : PySem.W.Frag} {mg mb : Str → Option Value} {CX : CXT} {k : Nat} {fa a : Addr} {fd : FuncData} {x : Str} {sp : Sp} {s₁ : Shared} {vs : List Value} {ns : List Int}
    (KX : K.In s₁.heap) (hns : s₁.heap.Ns mainGlobals mg) (hb : s₁.heap.Ns builtinsNs mb) (hbb : ∀ x : Str, x ≠ "__name__" → mb x = bootBuiltins x) (hlim : s₁.heap.NoLimit) (hg : s₁.gens = #[])
    (ha : s₁.heap.get? a = some { cls := .type "list", data := .seq vs.toArray }) (hi : IntsAre vs ns) (hl : ns.length ≤ sizeLine) (hr : Room k callerA)
    (F : ∀ base : Heap, K.In base → base.Ns mainGlobals mg → FnOk P w K mg base CX k fa fd [x] sp) (hbind : ∀ (s : Shared) (u : Value), BindsTo s fd ⟨[u], []⟩ [(x, u)])
    (hsp : ∀ H : Hp, Only H → SqL K H a (ns.map V.int) → sp [.ref a] H (fun v _ => v = .bl true) fun _ _ _ => False)
    (hCX : ∀ H e s', CX [] H s₁ (fun _ _ _ => False) e s' → False) :
    codeAny (model P w) callerA (.call (.ref fa) ⟨[.ref a], []⟩) (fun r s' => r = .ok (.ret (.bool true)) ∧ OldK s₁.heap s'.heap ∧ s'.os = s₁.os ∧ AllBare s'.gens) s₁ := by
  have rv := vals_ints hi
  have lenV := hi.length
  have core : ∀ H : Hp, Only H → SqL K H a (ns.map V.int) → HOk P w H s₁.heap → (∀ b, H b ≠ none → b = a) → (H a ≠ none → K.lookup a = none) →
      codeAny (model P w) callerA (.call (.ref fa) ⟨[.ref a], []⟩) (fun r s' => r = .ok (.ret (.bool true)) ∧ OldK s₁.heap s'.heap ∧ s'.os = s₁.os ∧ AllBare s'.gens) s₁ := by
    intro H hO hS hok hA hK
    have base_of : ∀ {b : Addr} {o : Obj}, s₁.heap.get? b = some o → H b = none → (hidT s₁.heap H).get? b = some o := fun e n => hidT_get e n
    have noA : ∀ {b : Addr} {o : Obj} {es : Array DictEntry} {ep : Nat}, s₁.heap.get? b = some o → o.data = .dict es ep → H b = none := fun {b o es ep} e d => by
      cases q : H b with
      | none => rfl
      | some u =>
        have e' : b = a := hA b (by rw [q]; simp)
        subst e'
        rw [ha] at e; cases e
        have d' : Data.seq vs.toArray _ = Data.dict es ep := d
        cases d'
    have nsK : ∀ {b : Addr} {m : Str → Option Value}, s₁.heap.Ns b m → (hidT s₁.heap H).Ns b m := fun {b m} ⟨o, es, ep, e, d, r⟩ => ⟨o, es, ep, base_of e (noA e d), d, r⟩
    have hKb : K.In (hidT s₁.heap H) := fun b o e => base_of (KX b o e) (by
      cases q : H b with
      | none => rfl
      | some u =>
        have e' : b = a := hA b (by rw [q]; simp)
        subst e'
        rw [hK (by rw [q]; simp)] at e; cases e)
    have hM : Mod K mg (hidT s₁.heap H) := ⟨hKb, nsK hns, ⟨mb, nsK hb, hbb⟩, let ⟨mc, h1, h2⟩ := hlim; ⟨mc, nsK h1, h2⟩⟩
    have e0 : Env0 P w K mg (hidT s₁.heap H) callerA [] s₁ H := ⟨rfl, hM, fun b o e => of_hidT e, Nat.le_of_eq (hidT_size _ _), trivial, fun b hb => absurd (show b ∈ ([] : List Addr) from hb) (by simp), hok, .of_eq hg⟩
    refine codeAny_mono ((F _ hKb (nsK hns)).run callerA [] s₁ H ⟨[.ref a], []⟩ [.ref a] [.ref a] _ _ hr e0 (hbind s₁ (.ref a)) (.cons rfl .nil) (hsp H hO hS)) fun r s' h => ?_
    cases r with
    | error e => exact (hCX H e s' h).elim
    | ok fl =>
      cases fl with
      | next => exact False.elim h
      | brk => exact False.elim h
      | cont => exact False.elim h
      | ret u =>
        obtain ⟨v, H', os, bare, un, hok', r', q⟩ := h
        have q' : v = .bl true := q
        subst q'
        obtain rfl : u = Value.bool true := r'
        refine ⟨rfl, OldK.of_keep fun b o e => ?_, os, bare⟩
        cases q : H b with
        | none => exact un.keep b o e q (by intro z; exact absurd (show b ∈ ([] : List Addr) from z) (by simp)) (by simp)
        | some u =>
          rcases hO b with z | ⟨ob, xs, z⟩
          · rw [q] at z; cases z
          · have z2 := un.frzs b ob _ z
            obtain ⟨e1, _⟩ := hok b _ z
            obtain ⟨e2, _⟩ := hok' b _ z2
            rw [e] at e1; cases e1
            exact e2
  cases hk : K.lookup a with
  | some o =>
    have e := KX a o hk
    rw [ha] at e
    cases e
    refine core (fun _ => none) (fun _ => .inl rfl) (.inr ⟨_, vs.toArray, _, hk, rfl, rfl, rfl, by rw [List.size_toArray, lenV]; exact hl, by simpa using rv⟩) (fun b u z => by have z' : (none : Option HO) = some u := z; cases z') (fun b z => absurd rfl z) fun z => absurd rfl z
  | none =>
    refine core (fun b => if b = a then some (.frz { cls := .type "list", data := .seq vs.toArray } (.lst (ns.map V.int))) else none) (fun b => ?_) (.inl (.inr ⟨{ cls := .type "list", data := .seq vs.toArray }, if_pos rfl⟩)) (fun b u z => ?_) (fun b z => ?_) fun _ => hk
    · by_cases hb : b = a
      · exact .inr ⟨_, _, if_pos hb⟩
      · exact .inl (if_neg hb)
    · by_cases hb : b = a
      · have z' := (if_pos hb).symm.trans z
        cases z'
        subst hb
        exact ⟨ha, by rw [List.length_map]; exact hl, vs, _, rv, ha⟩
      · have z' := (if_neg hb).symm.trans z
        cases z'
    · by_cases hb : b = a
      · exact hb
      · exact absurd (if_neg hb) z
end L2
namespace L2
open PySem PySem.Spec PyProof.Rows
abbrev KOf {K : PySem.W.Frag} {h : Heap} (_ : K.In h) : PySem.W.Frag := K
theorem walk_of {l : PySem.W.OpenLaw} {n k : Nat} {q : Program} {loose : List Str} {XP : (Str → Option Value) → Heap → Prop} {YP : World → Heap → Prop} {d : DefRec} {K : Params → PySem.W.Frag} {CX : World → CXT} {sp : World → Sp} {x : Str}
    (hn : l.most = some n) (hn2 : n ≤ sizeLine) (hdf : d.params.defaults = []) (hr : Room k callerA)
    (hY : ∀ (w : World) (h : Heap), YP w h → (K w.params).In h)
    (F : ∀ (w : World) (mg : Str → Option Value) (fa : Addr) (h : Heap), (K w.params).In h → h.Ns mainGlobals mg → mg d.name = some (.ref fa) →
      ∃ fd : FuncData, (∀ (s : Shared) (u : Value), BindsTo s fd ⟨[u], []⟩ [(x, u)]) ∧
        ∀ base : Heap, (K w.params).In base → base.Ns mainGlobals mg → FnOk l.prog w (K w.params) mg base (CX w) k fa fd [x] (sp w))
    (hsp : ∀ (w : World) (H : Hp) (a : Addr) (ns : List Int), ns.length ≤ n → Only H → SqL (K w.params) H a (ns.map V.int) → sp w [.ref a] H (fun v _ => v = .bl true) fun _ _ _ => False)
    (hCX : ∀ (w : World) (H : Hp) (s : Shared) (e : Value) (s' : Shared), CX w [] H s (fun _ _ _ => False) e s' → False) :
    PySem.W.WalkO q loose XP YP l.row.toRowW d [] (fun f vs => PySem.call f vs) := by
  refine Att.attach_call hn hdf fun w s₀ s₁ mg mb fa o pm cd doc a vs ns G Y ho hd hcd hmg hobj hints hlen hg => ?_
  have KX := hY w _ Y
  obtain ⟨fd, hb, hF⟩ := F w mg fa _ KX G.T.g hmg
  exact law_call KX G.T.g G.T.b G.T.builtins G.T.nolimit hg hobj hints (Nat.le_trans hlen hn2) hr hF hb (fun H hO hS => hsp w H a ns hlen hO hS) fun H e s' => hCX w H s₁ e s'
end L2
namespace L2
open PySem PySem.Spec PyProof.Rows
def inClass (s : Stmt) (j : Nat) : Stmt := match s with
  | .ClassDef _ _ _ body _ _ _ _ _ _ _ => body.getD j (.Pass ⟨0, 0, 0, 0⟩)
  | _ => .Pass ⟨0, 0, 0, 0⟩
def defArgs (s : Stmt) : Arguments := match s with
  | .FunctionDef _ a _ _ _ _ _ _ _ _ => a
  | _ => { posonlyargs := [], args := [], vararg := none, kwonlyargs := [], kw_defaults := [], kwarg := none, defaults := [] }
def defBody (s : Stmt) : List Stmt := match s with
  | .FunctionDef _ _ b _ _ _ _ _ _ _ => b
  | _ => []
def defScope (s : Stmt) : Scope := match s with
  | .FunctionDef _ _ _ _ _ _ sc _ _ _ => sc
  | _ => { kind := .function, names := [], isGenerator := false, isCoroutine := false }
abbrev CX0 : CXT := fun _ _ _ _ _ _ => False
abbrev E0 : XK := fun _ _ _ => False
theorem pass0 {X : Cx} : Passes CX0 X E0 := fun _ _ _ _ _ _ _ h => h.elim
structure Fun (K : PySem.W.Frag) (x qual : Str) (st : Stmt) (f : Addr) (fd : FuncData) : Prop where
  ex : ∃ (oc : Value) (od : Option Addr) (kV doc pm : Value) (an : Option Addr) (cdv ct : Value) (osl : Array (Option Value)),
    fd = PySem.W.fnOf x qual (defArgs st) (defBody st) (defScope st) .none kV doc pm an cdv ct ∧ K.lookup f = some ⟨oc, od, .func fd, osl⟩ ∧ PySem.W.codeIn K cdv qual = true
  kp : PySem.W.keepIn K (.ref f) = true
section
variable {P : Program} {w : World} {K : PySem.W.Frag} {mg : Str → Option Value} {base : Heap}
theorem Fun.ok {x qual : Str} {st : Stmt} {f : Addr} {fd : FuncData} {N ps : List Str} {k : Nat} {sp : Sp} (F : Fun K x qual st f fd) (S : FnScope N ps (defScope st)) (len : ∀ vs H Q E, sp vs H Q E → vs.length = ps.length)
    (hbody : ∀ (cdv : Value) (A : Around) (outer : List Env) (s : Shared) (H : Hp) (vs : List V) (Q : VK) (E : XK), Room k (A.deeper (envOfC qual (defScope st) s.heap.objs.size f cdv)) → sp vs H Q E →
      ∃ t, PSs (cxOf CX0 P w K mg base N qual (defScope st) f cdv A outer s H E).nox (defBody st) t ∧ t { nx := fun _ H' => Q .non H', rt := Q } (start N vs) H) : FnOk P w K mg base CX0 (k + 1) f fd ps sp := by
  obtain ⟨oc, od, kV, doc, pm, an, cdv, ct, osl, rfl, lk, hcd⟩ := F.ex
  refine fn_of lk hcd S len fun A outer s H vs Q E hr hsp => ?_
  obtain ⟨t, h, q⟩ := hbody cdv A outer s H vs Q E hr hsp
  exact ⟨t, h.nox, q⟩
theorem Fun.binds {x qual : Str} {st : Stmt} {f : Addr} {fd : FuncData} {ps : List Str} (F : Fun K x qual st f fd)
    (h : ∀ (kV doc pm : Value) (an : Option Addr) (cdv ct : Value) (us : List Value), us.length = ps.length → bindArgs (PySem.W.fnOf x qual (defArgs st) (defBody st) (defScope st) .none kV doc pm an cdv ct) ⟨us, []⟩ = pure (ps.zip us)) : Binds K fd ps [] := by
  obtain ⟨oc, od, kV, doc, pm, an, cdv, ct, osl, rfl, lk, hcd⟩ := F.ex
  exact .all (h kV doc pm an cdv ct)
theorem fun_mk {x qual : Str} {st : Stmt} {f : Addr} {oc : Value} {od an : Option Addr} {osl : Array (Option Value)} {kV doc pm cdv ct : Value} (l : K.lookup f = some ⟨oc, od, .func (PySem.W.fnOf x qual (defArgs st) (defBody st) (defScope st) .none kV doc pm an cdv ct), osl⟩)
    (c : PySem.W.codeIn K cdv qual = true) (k : PySem.W.keepIn K (.ref f) = true) : Fun K x qual st f (PySem.W.fnOf x qual (defArgs st) (defBody st) (defScope st) .none kV doc pm an cdv ct) := ⟨⟨oc, od, kV, doc, pm, an, cdv, ct, osl, rfl, l, c⟩, k⟩
end
theorem hu_of {A : Around} {k : Nat} (hr : Room k A) : A.units + 1 < cLine := Nat.lt_of_le_of_lt (Nat.add_le_add_left (by decide : 1 ≤ 64) _) hr.units
theorem small1000 {n : Nat} (h : n ≤ 1000) : n < sizeLine := Nat.lt_of_le_of_lt h (by decide)
section
variable {X : Cx}
theorem pv (i : Nat) {x : Str} {pos : Pos} (hN : X.N[i]? = some x := by rfl) (hv : Vis X.env.scope x := by first | exact Or.inl rfl | exact Or.inr (Or.inl rfl) | exact Or.inr (Or.inr rfl)) (hd : (x == ("__debug__" : Str)) = false := by decide)
    (hcd : (x == ("__classdict__" : Str)) = false := by decide) : PE X (.Name x pos) (tVar i) := pe_var hN hv hd hcd
end
theorem iteF {A B : Prop} (h : B) : if false = true then A else B := by
  rw [if_neg Bool.false_ne_true]
  exact h
theorem iteT {A B : Prop} (h : A) : if true = true then A else B := by
  rw [if_pos rfl]
  exact h
theorem ite2 {c A B : Prop} [Decidable c] (h1 : c → A) (h2 : ¬ c → B) : if c then A else B := by
  by_cases h : c
  · rw [if_pos h]
    exact h1 h
  · rw [if_neg h]
    exact h2 h
def Same (H H' : Hp) : Prop := ∀ b o, H b = some o → H' b = some o
theorem Same.refl (H : Hp) : Same H H := fun _ _ h => h
theorem Same.trans {H H1 H2 : Hp} (a : Same H H1) (b : Same H1 H2) : Same H H2 := fun c o h => b c o (a c o h)
theorem Same.free {H H' : Hp} (e : Same H H') {l : Addr} (h : H' l = Option.none) : H l = Option.none := by
  cases q : H l with
  | none => rfl
  | some o =>
    rw [e l o q] at h
    cases h
theorem Same.seq {K : PySem.W.Frag} {H H' : Hp} {a : Addr} {xs : List V} (e : Same H H') (h : SqL K H a xs) : SqL K H' a xs := by
  rcases h with (h | ⟨o, h⟩) | h
  · exact .inl (.inl (e _ _ h))
  · exact .inl (.inr ⟨o, e _ _ h⟩)
  · exact .inr h
section
variable {κ : Type} [DecidableEq κ]
end
end L2
set_option maxHeartbeats 4000000
namespace L2
open PySem PySem.Spec PyProof.Rows
section
variable {X : Cx}
theorem big_lt : (10 : Nat) ^ 100 < 2 ^ 400 := by decide +kernel
theorem log2_big {j : Int} (h : j.natAbs < 10 ^ 100) : j.natAbs.log2 < 400 := by
  by_cases h0 : j.natAbs = 0
  · rw [h0]; decide +kernel
  · exact (Nat.log2_lt h0).mpr (Nat.lt_trans h big_lt)
def CDivB (_ j : Int) : Prop := 0 < j ∧ j < 10 ^ 100
theorem op_fdivB : OpR X (binaryOp .FloorDiv) (rI CDivB fun i j => .int (i / j)) := opI fun i j _ _ _ _ _ hc q => by
  have h1 : (0 : Int) < j := hc.1
  have h2 : j < 10 ^ 100 := hc.2
  have h3 : j.natAbs < 10 ^ 100 := by omega
  exact floordiv_int (by omega) (by rw [Int.fdiv_eq_ediv_of_nonneg i (by omega)]; exact q) (.inl (PyProof.noPylong_of_log2 (Nat.lt_trans (log2_big h3) (by decide))))
def CMulB (i j : Int) : Prop := (-(10 ^ 100) < i ∧ i < 10 ^ 100) ∧ (-(10 ^ 100) < j ∧ j < 10 ^ 100)
theorem bits_big {j : Int} (h : j.natAbs < 10 ^ 100) : Builtin.Int.intBits j ≤ 400 := by
  unfold Builtin.Int.intBits
  split
  · exact Nat.zero_le _
  · have := log2_big h
    omega
theorem CMulB.ok {i j : Int} (h : CMulB i j) : IntMulOk i j := by
  obtain ⟨⟨h1, h2⟩, h3, h4⟩ := h
  have e1 := bits_big (j := i) (by omega)
  have e2 := bits_big (j := j) (by omega)
  have e3 : Builtin.Int.intTooBig (Builtin.Int.intBits i + Builtin.Int.intBits j) = false := by
    unfold Builtin.Int.intTooBig
    rw [decide_eq_false]
    have : (bitsLine : Int) = 134217728 := by decide +kernel
    omega
  unfold IntMulOk
  rw [e3]
  simp
theorem op_mulB : OpR X (binaryOp .Mult) (rI CMulB fun i j => .int (i * j)) := opI fun _ _ _ _ _ _ _ hc q => mul_int q hc.ok
end
section
variable {X : Cx}
theorem call_isi : CallR X (.builtin "isinstance") (fun xs H Q => ∃ x T t b, xs = [x, .ty T] ∧ TyOf X.K H x t ∧ PySem.W.kitOne X.K t (.type T) = some b ∧ Q (.bl b) H) := by
  intro pins s σ H xs us Q I r h
  obtain ⟨x, T, t, b, rfl, ty, e, q⟩ := h
  obtain ⟨u, w', rfl, ru, rw'⟩ := vals2 r
  cases (show w' = Value.type T from rw')
  exact isinst_ok I ru ty e fun tk => ⟨.bl b, H, I.tok tk, rfl, q⟩
end
mutual
inductive Rep (K : PySem.W.Frag) (H : Hp) : V → PyData → Prop where
  | non : Rep K H .non .none
  | bl (b : Bool) : Rep K H (.bl b) (.bool b)
  | int (i : Int) : Rep K H (.int i) (.int i)
  | str (x : Str) : Rep K H (.str x) (.str x)
  | lst {a : Addr} {xs : List V} {ds : List PyData} : SqL K H a xs → Reps K H xs ds → Rep K H (.ref a) (.list ds)
  | tup {a : Addr} {xs : List V} {ds : List PyData} : SqT K H a xs → Reps K H xs ds → Rep K H (.ref a) (.tuple ds)
inductive Reps (K : PySem.W.Frag) (H : Hp) : List V → List PyData → Prop where
  | nil : Reps K H [] []
  | cons {v : V} {vs : List V} {d : PyData} {ds : List PyData} : Rep K H v d → Reps K H vs ds → Reps K H (v :: vs) (d :: ds)
end
section
variable {X : Cx} {pins : List (Addr × Obj)} {σ : St} {H : Hp} {s : Shared}
mutual
theorem rep_reads (I : Inv X pins σ H s) : ∀ (d : PyData) (v : V) (u : Value), Rep X.K H v d → RelV v u → ∃ as, Reads s.heap u d as
  | .none, v, u, r, q => by cases r; cases (show u = Value.none from q); exact ⟨_, .none⟩
  | .bool b, v, u, r, q => by cases r; cases (show u = Value.bool b from q); exact ⟨_, .bool b⟩
  | .int i, v, u, r, q => by cases r; obtain ⟨t, e⟩ := (show ∃ t, u = Value.int i t from q); cases e; exact ⟨_, .int i t⟩
  | .str x, v, u, r, q => by cases r; obtain ⟨t, e⟩ := (show ∃ t, u = Value.str x t from q); cases e; exact ⟨_, .str x t⟩
  | .list ds, v, u, r, q => by
    cases r with
    | @lst a xs _ hq rs =>
      cases (show u = Value.ref a from q)
      obtain ⟨its, rv, ⟨o, n, e, c, _, d⟩, hz⟩ := I.list hq
      obtain ⟨as, ra⟩ := reps_reads I ds xs its rs rv
      exact ⟨_, .list e c d (by simpa using ra)⟩
  | .tuple ds, v, u, r, q => by
    cases r with
    | @tup a xs _ hq rs =>
      cases (show u = Value.ref a from q)
      obtain ⟨its, rv, ⟨o, e, c, n, d⟩, hz⟩ := I.tuple hq
      obtain ⟨as, ra⟩ := reps_reads I ds xs its rs rv
      exact ⟨_, .tuple e c d (by simpa using ra)⟩
  | .dict _, v, u, r, q => by cases r
theorem reps_reads (I : Inv X pins σ H s) : ∀ (ds : List PyData) (vs : List V) (us : List Value), Reps X.K H vs ds → Vals vs us → ∃ as, ReadsAll s.heap us ds as
  | [], vs, us, r, q => by cases r; cases q; exact ⟨_, .nil⟩
  | d :: ds, vs, us, r, q => by
    cases r with
    | cons r1 r2 =>
      cases q with
      | cons q1 q2 =>
        obtain ⟨as, a1⟩ := rep_reads I d _ _ r1 q1
        obtain ⟨bs, a2⟩ := reps_reads I ds _ _ r2 q2
        exact ⟨_, .cons a1 a2⟩
end
end
def rEqD (K : PySem.W.Frag) (neg : Bool) : R2 := fun x y H Q => ∃ d e, Rep K H x d ∧ Rep K H y e ∧ d.canLay0 = true ∧ e.canLay0 = true ∧ d.depth ≤ 20 ∧ Q (.bl (if neg then !PyData.eqv d e else PyData.eqv d e)) H
section
variable {X : Cx}
theorem op_neD (hu : X.A.units + 64 < cLine) : OpR X (compareOp .NotEq) (rEqD X.K true) := by
  intro pins s σ H x y v u Q I rx ry h
  obtain ⟨d, e, rd, re, cd, ce, hd, q⟩ := h
  obtain ⟨as, ra⟩ := rep_reads I d x v rd rx
  obtain ⟨bs, rb⟩ := rep_reads I e y u re ry
  have hm : min d.depth e.depth ≤ d.depth := Nat.min_le_left _ _
  exact SeqAt.rcNeAt_reads ra rb cd ce (by omega) X.prog X.w X.xe _ ⟨.bl _, H, I, rfl, q⟩
end
section
variable {X : Cx} {pins : List (Addr × Obj)} {σ : St} {H : Hp} {s : Shared} {h' : Heap}
theorem Inv.turnedLaid {t' : Nat} {ch : List Addr} {a : Addr} {o : HO} (I : Inv X pins σ H s) (hf : ∀ b ∈ ch, FpOk X pins H b) (k : ∀ b u, b ∉ ch → s.heap.get? b = some u → h'.get? b = some u)
    (hp : s.heap.objs.size ≤ a) (new : ObjOk X.prog X.w (upd H a o) h' a o) : Inv X pins σ (upd H a o) { s with heap := h', toks := t' } := by
  have hna : H a = none := I.hok.fresh hp
  have nch : ∀ b u, H b = some u → b ∉ ch := fun b u e z => by rw [(hf b z).1] at e; cases e
  have nea : ∀ b u, s.heap.get? b = some u → b ≠ a := fun b u e z => absurd (Nat.lt_of_lt_of_le (Heap.lt_size e) (by rw [z]; exact hp)) (Nat.lt_irrefl _)
  refine I.step (g' := s.gens) (d' := s.drawn) (ch := ch) (fun b hb => ⟨(hf b hb).2.2.2.1, (hf b hb).2.1, (hf b hb).2.2.2.2.1, (hf b hb).2.2.2.2.2⟩) (fun b o _ _ hc e _ => k b o hc e) (fun b o _ _ hc e _ => ⟨o.slots, k b o hc e⟩)
    (fun b o hc e n => by rw [upd_ne (nea b o e)]; exact n) (fun b o hc e => ⟨o, k b o hc e⟩) (fun b xs e => by rw [upd_ne (ne_of_none e hna)]; exact e) (fun b o u e => by rw [upd_ne (ne_of_none e hna)]; exact e)
    (fun b ps e => ⟨#[], by rw [upd_ne (ne_of_none e hna), e]; simp⟩) (fun m hm => ?_) (fun b u e => ?_) I.bare
  · obtain ⟨o, es, ep, ho, r⟩ := hm
    exact ⟨o, es, ep, k _ o (fun z => (hf _ z).2.1 rfl) ho, r⟩
  · by_cases hb : b = a
    · subst hb; rw [upd_same] at e; cases e; exact new
    · rw [upd_ne hb] at e
      refine (I.hok b u e).stay (fun c v hc q => k c v ?_ q) (fun c q => by rw [upd_ne (ne_of_none q hna)]; exact q) fun c xs q => by rw [upd_ne (ne_of_none q hna)]; exact q
      rcases hc with z | z
      · rw [z]; exact nch b u e
      · exact nch c _ z
theorem Inv.turnedL {t' : Nat} {ch : List Addr} (I : Inv X pins σ H s) (hf : ∀ b ∈ ch, FpOk X pins H b) (k : ∀ b u, b ∉ ch → s.heap.get? b = some u → h'.get? b = some u) : Inv X pins σ H { s with heap := h', toks := t' } := by
  have nch : ∀ b u, H b = some u → b ∉ ch := fun b u e z => by rw [(hf b z).1] at e; cases e
  refine I.step (g' := s.gens) (d' := s.drawn) (ch := ch) (fun b hb => ⟨(hf b hb).2.2.2.1, (hf b hb).2.1, (hf b hb).2.2.2.2.1, (hf b hb).2.2.2.2.2⟩) (fun b o _ _ hc e _ => k b o hc e) (fun b o _ _ hc e _ => ⟨o.slots, k b o hc e⟩)
    (fun _ _ _ _ n => n) (fun b o hc e => ⟨o, k b o hc e⟩) (fun _ _ e => e) (fun _ _ _ e => e) (fun b ps e => ⟨#[], by rw [e]; simp⟩) (fun m hm => ?_) (fun b u e => ?_) I.bare
  · obtain ⟨o, es, ep, ho, r⟩ := hm
    exact ⟨o, es, ep, k _ o (fun z => (hf _ z).2.1 rfl) ho, r⟩
  · refine (I.hok b u e).stay (fun c v hc q => k c v ?_ q) (fun _ q => q) fun _ _ q => q
    rcases hc with z | z
    · rw [z]; exact nch b u e
    · exact nch c _ z
end
def Itz (K : PySem.W.Frag) (a b : Addr) : It :=
  ⟨fun i H => ∃ xs ys x y, SqL K H a xs ∧ SqL K H b ys ∧ xs[i]? = some x ∧ ys[i]? = some y,
   fun i H v H' => ∃ p, v = .ref p ∧ H p = none ∧ ∀ xs ys x y, SqL K H a xs → SqL K H b ys → xs[i]? = some x → ys[i]? = some y → H' = upd H p (.tup [x, y]),
   fun i H => ∃ xs ys, SqL K H a xs ∧ SqL K H b ys ∧ (xs.length ≤ i ∨ ys.length ≤ i)⟩
theorem ne_cls {h : Heap} {a b : Addr} {o u : Obj} (e : h.get? a = some o) (e' : h.get? b = some u) (d : o.cls ≠ u.cls) : a ≠ b := fun z => by
  subst z; rw [e] at e'; exact d (congrArg Obj.cls (Option.some.inj e'))
theorem n_tz : Value.type "tuple" ≠ Value.type "zip" := by decide
theorem n_iz : Value.type "list_iterator" ≠ Value.type "zip" := by decide
theorem n_ti : Value.type "tuple" ≠ Value.type "list_iterator" := by decide
theorem n_lz : Value.type "list" ≠ Value.type "zip" := by decide
theorem n_lt : Value.type "list" ≠ Value.type "tuple" := by decide
theorem n_li : Value.type "list" ≠ Value.type "list_iterator" := by decide
theorem turn_zip {P : Program} {w : World} {K : PySem.W.Frag} {elts : List Expr} {ek : Nat} {epos : Pos} (a b z TI TO i1 i2 : Addr) (d1 : TI ≠ TO) (d2 : i1 ≠ i2) :
    Turn P w K (.Tuple elts ek epos) (Itz K a b) [z, TI, TO, i1, i2] z (fun i h => IsZip h z TI TO .none ∧ IsPair h TI (.ref i1) (.ref i2) ∧ (∃ x y, IsPair h TO x y) ∧ h.IsListIter i1 a i ∧ h.IsListIter i2 b i) where
  mem := by simp
  obj := fun i h st c hc => by
    obtain ⟨hz, hTI, ⟨x, y, hTO⟩, ⟨o1, e1, c1, f1⟩, ⟨o2, e2, c2, f2⟩⟩ := st
    simp only [List.mem_cons, List.not_mem_nil, or_false] at hc
    rcases hc with rfl | rfl | rfl | rfl | rfl
    · exact ⟨_, hz, fun v q => by have q' : Data.fields _ = Data.cell v := q; cases q'⟩
    · exact ⟨_, hTI, fun v q => by have q' : Data.seq _ _ = Data.cell v := q; cases q'⟩
    · exact ⟨_, hTO, fun v q => by have q' : Data.seq _ _ = Data.cell v := q; cases q'⟩
    · exact ⟨_, e1, fun v q => by rw [f1] at q; cases q⟩
    · exact ⟨_, e2, fun v q => by rw [f2] at q; cases q⟩
  keep := fun i h h' st k => by
    obtain ⟨hz, hTI, ⟨x, y, hTO⟩, h1, h2⟩ := st
    exact ⟨k z (by simp) _ hz, k TI (by simp) _ hTI, ⟨x, y, k TO (by simp) _ hTO⟩, h1.at fun o e => k i1 (by simp) o e, h2.at fun o e => k i2 (by simp) o e⟩
  item := by
    intro X hP hw hK hc i pins s σ H E I hf st hg
    subst hP hw hK
    obtain ⟨xs, ys, x, y, qa, qb, hx, hy⟩ := hg
    obtain ⟨hz, hTI, ⟨x0, y0, hTO⟩, h1, h2⟩ := st
    obtain ⟨itsA, rA, pA, zA⟩ := I.list qa
    obtain ⟨itsB, rB, pB, zB⟩ := I.list qb
    obtain ⟨u, hu, ru⟩ := rA.get hx
    obtain ⟨u', hu', ru'⟩ := rB.get hy
    have D : ZipApart z TI TO i1 i2 a b := by
      obtain ⟨o1, e1, c1, f1⟩ := id h1
      obtain ⟨o2, e2, c2, f2⟩ := id h2
      obtain ⟨oa, na, ea, ca, _, fa⟩ := id pA
      obtain ⟨ob, nb, eb, cb, _, fb⟩ := id pB
      exact ⟨ne_cls hTI hz n_tz, ne_cls hTO hz n_tz, ne_cls e1 hz (by rw [c1]; exact n_iz), ne_cls e2 hz (by rw [c2]; exact n_iz), d1, ne_cls hTI e1 (by rw [c1]; exact n_ti), ne_cls hTI e2 (by rw [c2]; exact n_ti),
        ne_cls hTO e1 (by rw [c1]; exact n_ti), ne_cls hTO e2 (by rw [c2]; exact n_ti), d2, ne_cls ea hz (by rw [ca]; exact n_lz), ne_cls ea hTO (by rw [ca]; exact n_lt), ne_cls ea e1 (by rw [ca, c1]; exact n_li), ne_cls ea e2 (by rw [ca, c2]; exact n_li),
        ne_cls eb hz (by rw [cb]; exact n_lz), ne_cls eb hTO (by rw [cb]; exact n_lt), ne_cls eb e1 (by rw [cb, c1]; exact n_li), ne_cls eb e2 (by rw [cb, c2]; exact n_li)⟩
    refine wpAny_pyNext_zip_item D hz hTI hTO h1 h2 pA.isList pB.isList (x := u) (y := u') (by simpa using hu) (by simpa using hu') fun h' a1 a2 a3 a4 a5 a6 hk => ?_
    refine ⟨.ref s.heap.objs.size, rfl, wpAny_letOwnedTupleGo_zip a1 fun h'' hz'' sb => ?_⟩
    have lz : z < s.heap.objs.size := Heap.lt_size hz
    have nz : s.heap.objs.size ≠ z := Nat.ne_of_gt lz
    have k2 : ∀ c o, c ∉ [z, TI, TO, i1, i2] → s.heap.get? c = some o → h''.get? c = some o := fun c o hc e => by
      simp only [List.mem_cons, List.not_mem_nil, or_false, not_or] at hc
      exact sb.extBut _ _ hc.1 (hk c o hc.1 hc.2.2.1 hc.2.2.2.1 hc.2.2.2.2 e)
    have T2 : IsPair h'' s.heap.objs.size u u' := sb.extBut _ _ nz a5
    refine ⟨.ref s.heap.objs.size, upd H s.heap.objs.size (.tup [x, y]), I.turnedLaid (t' := s.toks) (ch := [z, TI, TO, i1, i2]) hf k2 (Nat.le_refl _) ⟨by show 2 ≤ sizeLine; decide, [u, u'], .cons ru (.cons ru' .nil), _, T2, rfl, _, rfl⟩, rfl, ⟨_, rfl, I.hok.fresh (Nat.le_refl _), fun xs' ys' x' y' qa' qb' hx' hy' => ?_⟩, ⟨hz'', sb.extBut _ _ D.TIz (hk _ _ D.TIz D.TITO D.TIi1 D.TIi2 hTI), ⟨_, _, sb.extBut _ _ D.TOz a2⟩, a3.extBut sb.extBut D.i1z, a4.extBut sb.extBut D.i2z⟩, fun b hb => ?_⟩
    · rw [I.list_inj qa' qa, hx] at hx'
      rw [I.list_inj qb' qb, hy] at hy'
      cases hx'; cases hy'; rfl
    · have e : b ≠ s.heap.objs.size := fun q => by
        have : ∃ o, s.heap.get? b = some o := by
          simp only [List.mem_cons, List.not_mem_nil, or_false] at hb
          obtain ⟨o1, e1, _⟩ := id h1
          obtain ⟨o2, e2, _⟩ := id h2
          rcases hb with rfl | rfl | rfl | rfl | rfl
          · exact ⟨_, hz⟩
          · exact ⟨_, hTI⟩
          · exact ⟨_, hTO⟩
          · exact ⟨_, e1⟩
          · exact ⟨_, e2⟩
        obtain ⟨o, e⟩ := this
        exact absurd (Heap.lt_size e) (by rw [q]; exact Nat.lt_irrefl _)
      rw [upd_ne e]
      exact (hf b hb).1
  done := by
    intro X hP hw hK hc i pins s σ H E I hf st hg
    subst hP hw hK
    obtain ⟨xs, ys, qa, qb, hx⟩ := hg
    obtain ⟨hz, hTI, ⟨x0, y0, hTO⟩, h1, h2⟩ := st
    obtain ⟨itsA, rA, pA, zA⟩ := I.list qa
    obtain ⟨itsB, rB, pB, zB⟩ := I.list qb
    have D : ZipApart z TI TO i1 i2 a b := by
      obtain ⟨o1, e1, c1, f1⟩ := id h1
      obtain ⟨o2, e2, c2, f2⟩ := id h2
      obtain ⟨oa, na, ea, ca, _, fa⟩ := id pA
      obtain ⟨ob, nb, eb, cb, _, fb⟩ := id pB
      exact ⟨ne_cls hTI hz n_tz, ne_cls hTO hz n_tz, ne_cls e1 hz (by rw [c1]; exact n_iz), ne_cls e2 hz (by rw [c2]; exact n_iz), d1, ne_cls hTI e1 (by rw [c1]; exact n_ti), ne_cls hTI e2 (by rw [c2]; exact n_ti),
        ne_cls hTO e1 (by rw [c1]; exact n_ti), ne_cls hTO e2 (by rw [c2]; exact n_ti), d2, ne_cls ea hz (by rw [ca]; exact n_lz), ne_cls ea hTO (by rw [ca]; exact n_lt), ne_cls ea e1 (by rw [ca, c1]; exact n_li), ne_cls ea e2 (by rw [ca, c2]; exact n_li),
        ne_cls eb hz (by rw [cb]; exact n_lz), ne_cls eb hTO (by rw [cb]; exact n_lt), ne_cls eb e1 (by rw [cb, c1]; exact n_li), ne_cls eb e2 (by rw [cb, c2]; exact n_li)⟩
    have lA := rA.length
    have lB := rB.length
    refine wpAny_pyNext_zip_end (I.ok.hd hc) D hz hTI hTO h1 h2 pA.isList pB.isList (hx.imp (fun q => by simp; omega) fun q => by simp; omega) fun h' hk => ⟨rfl, I.turnedL (t' := s.toks) (ch := [z, TI, TO, i1, i2]) hf fun c o hc e => ?_⟩
    simp only [List.mem_cons, List.not_mem_nil, or_false, not_or] at hc
    exact hk c o hc.1 hc.2.2.1 hc.2.2.2.1 hc.2.2.2.2 e
  self := fun _ _ _ _ _ st h => wpAny_pyIter_zip st.1 h
section
variable {X : Cx}
def iZip (K : PySem.W.Frag) (ta : TA) : TI := fun σ H R => ta σ H fun vs H1 => ∃ a b xs ys, vs = [.ref a, .ref b] ∧ SqL K H1 a xs ∧ SqL K H1 b ys ∧ R (Itz K a b) H1
theorem pi_zip {elts : List Expr} {ek : Nat} {epos : Pos} {e1 e2 : Expr} {ta : TA} {p pos : Pos} (hg : Gl X "zip") (hm : X.mg "zip" = none) (ha : PA X [e1, e2] ta)
    (hs : starEach [e1, e2] X.env = [(false, eval e1 X.env), (false, eval e2 X.env)] := by rfl) (hs2 : starEach [e2] X.env = [(false, eval e2 X.env)] := by rfl) :
    PI X (.Tuple elts ek epos) (.Call (.Name "zip" p) [e1, e2] [] pos) (iZip X.K ta) := by
  intro pins s σ H R I h
  refine Call_ (ld_blt I hg hm (show bootBuiltins "zip" = some (.type "zip") by decide +kernel) (PyProof.Rows.callWith_type1 (thn (ha pos pins s σ H _ I h) fun us s1 ⟨vs, H1, I1, r1, q1⟩ => ?_) (by rw [hs, hs2]) (by rw [hs2]; rfl)))
  obtain ⟨a, b, xs, ys, rfl, qa, qb, q⟩ := q1
  obtain ⟨u, u', rfl, ru, ru'⟩ := vals2 r1
  cases (show u = Value.ref a from ru)
  cases (show u' = Value.ref b from ru')
  obtain ⟨itsA, rA, pA, zA⟩ := I1.list qa
  obtain ⟨itsB, rB, pB, zB⟩ := I1.list qb
  refine call_zip_2 pA.isList pB.isList fun h' hz hTI hTO h1 h2 hsz hk => wpAny_pyIter_zip hz ?_
  refine ⟨s1.heap.objs.size + 4, _, _, _, H1, rfl, I1.kept (t' := s1.toks) hk, turn_zip a b _ (s1.heap.objs.size + 2) (s1.heap.objs.size + 3) s1.heap.objs.size (s1.heap.objs.size + 1) (Nat.ne_of_lt (Nat.lt_succ_self _)) (Nat.ne_of_lt (Nat.lt_succ_self _)), ⟨hz, hTI, ⟨_, _, hTO⟩, h1, h2⟩, fun c hc => ?_, q⟩
  have e : s1.heap.objs.size ≤ c := by
    simp only [List.mem_cons, List.not_mem_nil, or_false] at hc
    rcases hc with rfl | rfl | rfl | rfl | rfl
    · exact Nat.le_add_right _ _
    · exact Nat.le_add_right _ _
    · exact Nat.le_add_right _ _
    · exact Nat.le_refl _
    · exact Nat.le_add_right _ _
  exact I1.fpOk e (I1.hok.fresh e)
end
theorem for_zip {K : PySem.W.Frag} {a b : Addr} {xs ys : List V} {g : TG} {tb : TS} {D : Ends} {σ : St} {H : Hp} (Pv : Nat → St → Hp → Prop) (h0 : Pv 0 σ H) (hl : ∀ i σ H, Pv i σ H → SqL K H a xs ∧ SqL K H b ys)
    (hs : ∀ i x y σ H p, xs[i]? = some x → ys[i]? = some y → H p = none → Pv i σ H → g (.ref p) σ (upd H p (.tup [x, y])) fun σ2 H2 => tb { D with nx := Pv (i + 1), ct := Pv (i + 1), bk := D.nx } σ2 H2)
    (hd : ∀ i σ H, i = min xs.length ys.length → Pv i σ H → D.nx σ H) :
    ∃ W : Nat → Nat → St → Hp → Prop, (∃ m, W 0 m σ H) ∧ ∀ i m σ H, W i m σ H →
      ((Itz K a b).stop i H ∧ D.nx σ H) ∨ ((Itz K a b).go i H ∧ ∃ N : St → Hp → Prop, (∀ σ' H', N σ' H' → ∃ m', m' < m ∧ W (i + 1) m' σ' H') ∧ ∀ x H', (Itz K a b).yld i H x H' → g x σ H' fun σ2 H2 => tb { D with nx := N, ct := N, bk := D.nx } σ2 H2) := by
  refine ⟨fun i m σ H => m = min xs.length ys.length - i ∧ i ≤ min xs.length ys.length ∧ Pv i σ H, ⟨min xs.length ys.length, by simp, Nat.zero_le _, h0⟩, ?_⟩
  rintro i m σ H ⟨rfl, hi, p⟩
  obtain ⟨qa, qb⟩ := hl i σ H p
  by_cases hlt : i < min xs.length ys.length
  · have ha : i < xs.length := by omega
    have hb : i < ys.length := by omega
    refine .inr ⟨⟨xs, ys, xs[i], ys[i], qa, qb, by simp [ha], by simp [hb]⟩, Pv (i + 1), fun σ' H' p' => ⟨min xs.length ys.length - (i + 1), by omega, rfl, hlt, p'⟩, fun x H' y => ?_⟩
    obtain ⟨t, rfl, ht, y⟩ := y
    have ea : xs[i]? = some xs[i] := by simp [ha]
    have eb : ys[i]? = some ys[i] := by simp [hb]
    rw [y xs ys xs[i] ys[i] qa qb ea eb]
    exact hs i xs[i] ys[i] σ H t ea eb ht p
  · exact .inl ⟨⟨xs, ys, qa, qb, by omega⟩, hd i σ H (by omega) p⟩
structure FunD (K : PySem.W.Frag) (x qual : Str) (st : Stmt) (dV : Value) (f : Addr) (fd : FuncData) : Prop where
  ex : ∃ (oc : Value) (od : Option Addr) (kV doc pm : Value) (an : Option Addr) (cdv ct : Value) (osl : Array (Option Value)),
    fd = PySem.W.fnOf x qual (defArgs st) (defBody st) (defScope st) dV kV doc pm an cdv ct ∧ K.lookup f = some ⟨oc, od, .func fd, osl⟩ ∧ PySem.W.codeIn K cdv qual = true
  kp : PySem.W.keepIn K (.ref f) = true
section
variable {P : Program} {w : World} {K : PySem.W.Frag} {mg : Str → Option Value} {base : Heap}
theorem FunD.ok {x qual : Str} {st : Stmt} {dV : Value} {f : Addr} {fd : FuncData} {N ps : List Str} {k : Nat} {sp : Sp} (F : FunD K x qual st dV f fd) (S : FnScope N ps (defScope st)) (len : ∀ vs H Q E, sp vs H Q E → vs.length = ps.length)
    (hbody : ∀ (cdv : Value) (A : Around) (outer : List Env) (s : Shared) (H : Hp) (vs : List V) (Q : VK) (E : XK), Room k (A.deeper (envOfC qual (defScope st) s.heap.objs.size f cdv)) → sp vs H Q E →
      ∃ t, PSs (cxOf CX0 P w K mg base N qual (defScope st) f cdv A outer s H E).nox (defBody st) t ∧ t { nx := fun _ H' => Q .non H', rt := Q } (start N vs) H) : FnOk P w K mg base CX0 (k + 1) f fd ps sp := by
  obtain ⟨oc, od, kV, doc, pm, an, cdv, ct, osl, rfl, lk, hcd⟩ := F.ex
  refine fn_of lk hcd S len fun A outer s H vs Q E hr hsp => ?_
  obtain ⟨t, h, q⟩ := hbody cdv A outer s H vs Q E hr hsp
  exact ⟨t, h.nox, q⟩
end
def DefOk (P : Program) (w : World) (K : PySem.W.Frag) (mg : Str → Option Value) (base : Heap) (k : Nat) (x : Str) (ps : List Str) (sp : Sp) : Prop :=
  ∃ f fd, FnOk P w K mg base CX0 k f fd ps sp ∧ mg x = some (.ref f) ∧ PySem.W.keepIn K (.ref f) = true ∧ Binds K fd ps []
def MetOk (P : Program) (w : World) (K : PySem.W.Frag) (mg : Str → Option Value) (base : Heap) (C : Addr) (k : Nat) (m : Str) (ps : List Str) (sp : Sp) : Prop :=
  ∃ f fd, FnOk P w K mg base CX0 k f fd ps sp ∧ Meth K C m f ∧ Binds K fd ps []
section
variable {X : Cx} {k : Nat} {C : Addr} {ps : List Str} {sp : Sp} {dvs : List V} {ds : List Value} {x m : Str} {p pos apos : Pos} {e o : Expr} {es : List Expr} {ta : TE} {t : TA}
theorem pe_fn (D : DefOk X.prog X.w X.K X.mg X.base k x ps sp) (hr : Room k X.A) (hg : Gl X x) (ha : PA X (e :: es) t) (hdb : (x == ("__debug__" : Str)) = false := by decide)
    (he : starEach (e :: es) X.env = (false, eval e X.env) :: starEach es X.env := by rfl) (hpl : (backTo pos (starEach es X.env)).any (·.1) = false := by rfl) : PE X (.Call (.Name x p) (e :: es) [] pos) (tCall sp [] E0 t) := by
  obtain ⟨f, fd, F, hm, hk, hb⟩ := D
  exact pe_call F hr hg hm hk hb .nil pass0 ha hdb he hpl
end
end L2
namespace L2
open PySem PySem.Spec PyProof.Rows
section
variable {X : Cx} {k : Nat} {C : Addr} {ps : List Str} {sp : Sp} {x m : Str} {p pos apos : Pos} {e o : Expr} {es : List Expr} {ta : TE} {t : TA}
theorem pe_mt {pl : Sem Bool} (he : PE X o ta) (c : Cls X.K C) (D : MetOk X.prog X.w X.K X.mg X.base C k m ps sp) (hr : Room k X.A) (ha : PA X (e :: es) t)
    (hst : starEach (e :: es) X.env = (false, eval e X.env) :: starEach es X.env := by rfl) (hpl : (backTo pos (starEach es X.env)).any (·.1) = false := by rfl)
    (ht : eval (.Call (.Attribute o m apos) (e :: es) [] pos) X.env = (do
      let ov ← eval o X.env
      standAt apos.atName
      let (f, first) ← holding [ov] (getMethod ov m pl)
      callWith pos f first (backTo pos (starEach (e :: es) X.env)) (backToKw pos (keywordEach [] X.env))) := by rfl) :
    PE X (.Call (.Attribute o m apos) (e :: es) [] pos) (tMeth C m sp [] E0 ta t) := by
  obtain ⟨f, fd, F, hm, hb⟩ := D
  exact pe_meth (pl := pl) he c hm F hr hb .nil pass0 ha hst hpl ht
end
section
variable {P : Program} {w : World} {K : PySem.W.Frag} {mg : Str → Option Value} {base : Heap}
theorem Fun.def_ {x : Str} {st : Stmt} {f : Addr} {fd : FuncData} {ps : List Str} {k : Nat} {sp : Sp} (F : Fun K x x st f fd) (hm : mg x = some (.ref f)) (hf : FnOk P w K mg base CX0 k f fd ps sp) (hb : Binds K fd ps []) : DefOk P w K mg base k x ps sp :=
  ⟨f, fd, hf, hm, F.kp, hb⟩
end
theorem bt_len : bootBuiltins "len" = some (.builtin "len") := by decide +kernel
theorem bt_isinstance : bootBuiltins "isinstance" = some (.builtin "isinstance") := by decide +kernel
theorem bt_abs : bootBuiltins "abs" = some (.builtin "abs") := by decide +kernel
theorem bt_sum : bootBuiltins "sum" = some (.builtin "sum") := by decide +kernel
theorem bt_list : bootBuiltins "list" = some (.type "list") := by decide +kernel
theorem bt_tuple : bootBuiltins "tuple" = some (.type "tuple") := by decide +kernel
theorem bt_int : bootBuiltins "int" = some (.type "int") := by decide +kernel
theorem bt_bool : bootBuiltins "bool" = some (.type "bool") := by decide +kernel
theorem kit_int_int (K : PySem.W.Frag) : PySem.W.kitOne K (.type "int") (.type "int") = some true := by rfl
theorem kit_int_bool (K : PySem.W.Frag) : PySem.W.kitOne K (.type "int") (.type "bool") = some false := by rfl
theorem kit_list (K : PySem.W.Frag) : PySem.W.kitOne K (.type "list") (.type "list") = some true := by rfl
theorem kit_tuple (K : PySem.W.Frag) : PySem.W.kitOne K (.type "tuple") (.type "tuple") = some true := by rfl
theorem Same.get {H H' : Hp} (s : Same H H') {b : Addr} {o : HO} (h : H b = some o) : H' b = some o := s b o h
theorem same_upd {H : Hp} {p : Addr} {o : HO} (h : H p = none) : Same H (upd H p o) := fun b u e => by rw [upd_ne (ne_of_none e h)]; exact e
end L2
namespace L2
open PySem PySem.Spec PyProof.Rows
def blk (X : Cx) (Nc : List Str) (scope : Scope) (cl : List (Str × Addr)) (C : Addr) (s : Shared) (H : Hp) (ex : List Addr) : Cx where
  prog := X.prog
  w := X.w
  K := X.K
  mg := X.mg
  base := X.base
  A := X.A
  N := Nc
  s₀ := s
  H₀ := H
  env := compEnvC scope cl C X.env
  outer := X.stack
  stack := X.stack
  ex := ex
  fn := fun _ => false
  calm := X.calm
  pn := []
  xe := fun _ _ => False
structure LcOk (X : Cx) (scope : Scope) (cl : List (Str × Addr)) : Prop where
  clos : closureFor scope X.env = pure cl
  kind : scope.kind = .function
  nocell : ∀ y ∈ scope.names, y.2 ≠ .cell
  names : ∀ y ∈ scope.names, y.2 = .local → scope.names.lookup y.1 = some .local
  sub : ∀ x c, cl.lookup x = some c → X.env.cells.lookup x = some c
  has : ∀ x, ((relabel scope X.env).names.lookup x = some .cell ∨ (relabel scope X.env).names.lookup x = some .free) → ∃ c, cl.lookup x = some c
def FvOk (X : Cx) (scope : Scope) (cl : List (Str × Addr)) : List Str → List Nat → Prop
  | [], [] => True
  | x :: xs, j :: js => (X.N[j]? = some x ∧ (X.env.kindOf x = some .cell ∨ X.env.kindOf x = some .free) ∧ cl.lookup x = X.env.cells.lookup x ∧
      ((relabel scope X.env).names.lookup x = some .cell ∨ (relabel scope X.env).names.lookup x = some .free)) ∧ FvOk X scope cl xs js
  | _, _ => False
def lcσ (nv : Nat) (fv : List Nat) (σ : St) : St := List.replicate nv none ++ fv.map fun j => (σ[j]?).join
theorem FvOk.len {X : Cx} {scope : Scope} {cl : List (Str × Addr)} : ∀ {xs : List Str} {js : List Nat}, FvOk X scope cl xs js → xs.length = js.length
  | [], [], _ => rfl
  | _ :: _, _ :: _, h => by simp [FvOk.len h.2]
  | [], _ :: _, h => h.elim
  | _ :: _, [], h => h.elim
theorem FvOk.get {X : Cx} {scope : Scope} {cl : List (Str × Addr)} : ∀ {xs : List Str} {js : List Nat} {k : Nat} {x : Str} {j : Nat}, FvOk X scope cl xs js → xs[k]? = some x → js[k]? = some j →
    X.N[j]? = some x ∧ (X.env.kindOf x = some .cell ∨ X.env.kindOf x = some .free) ∧ cl.lookup x = X.env.cells.lookup x ∧ ((relabel scope X.env).names.lookup x = some .cell ∨ (relabel scope X.env).names.lookup x = some .free)
  | [], [], _, _, _, _, e, _ => by simp at e
  | _ :: _, _ :: _, 0, _, _, h, e, e' => by simp at e e'; subst e; subst e'; exact h.1
  | _ :: _, _ :: _, k + 1, x, j, h, e, e' => FvOk.get (k := k) h.2 (by simpa using e) (by simpa using e')
  | [], _ :: _, _, _, _, h, _, _ => h.elim
  | _ :: _, [], _, _, _, h, _, _ => h.elim
abbrev emptyList : Obj := { cls := .type "list", dict := none, data := .seq ([] : List Value).toArray }
theorem ltS {h : Heap} {b : Addr} {o : Obj} (e : h.get? b = some o) : b ≠ (h.push emptyList).objs.size := Nat.ne_of_lt (by rw [Heap.size_push]; exact Nat.lt_succ_of_lt (Heap.lt_size e))
theorem neS {h : Heap} : h.objs.size ≠ (h.push emptyList).objs.size := Nat.ne_of_lt (by rw [Heap.size_push]; exact Nat.lt_succ_self _)
theorem leS {h : Heap} : h.objs.size ≤ (h.push emptyList).objs.size := by rw [Heap.size_push]; exact Nat.le_succ _
theorem neZ {h : Heap} {b : Addr} {o : Obj} (e : h.get? b = some o) : b ≠ h.objs.size := Nat.ne_of_lt (Heap.lt_size e)
section
variable {X : Cx} {pins : List (Addr × Obj)} {σ : St} {H : Hp} {s : Shared} {scope : Scope} {cl : List (Str × Addr)} {vars frees : List Str} {fv : List Nat} {fp : List Addr}
theorem inv_blk {h' : Heap} {t' : Nat} (I : Inv X pins σ H s) (L : LcOk X scope cl) (fo : FvOk X scope cl frees fv) (hf : ∀ b ∈ fp, FpOk X pins H b) (ho : ∀ b ∈ fp, ∃ o, s.heap.get? b = some o)
    (hns : h'.Ns (s.heap.push emptyList).objs.size (fun _ => none)) (hsb : ∀ b o, b ≠ (s.heap.push emptyList).objs.size → (s.heap.push emptyList).get? b = some o → h'.get? b = some o) :
    Inv (blk X (vars ++ frees) scope cl (s.heap.push emptyList).objs.size { s with heap := s.heap.push emptyList } H (s.heap.objs.size :: fp)) [(s.heap.objs.size, emptyList)] (lcσ vars.length fv σ) H { s with heap := h', toks := t' } := by
  have hC : (s.heap.push emptyList).objs.size = s.heap.objs.size + 1 := Heap.size_push ..
  have hlt : ∀ {b : Addr} {o : Obj}, s.heap.get? b = some o → b < s.heap.objs.size := fun e => Heap.lt_size e
  have old : ∀ b o, s.heap.get? b = some o → h'.get? b = some o := fun b o e => hsb b o (ltS e) (Heap.get?_push_of_some _ e)
  have hD : h'.get? s.heap.objs.size = some emptyList := hsb _ _ neS (Heap.get?_push_size _ rfl)
  have stk : ∀ b ∈ frs X.stack, b < s.heap.objs.size ∧ b ∉ fp := fun b hb => by
    rcases List.mem_cons.mp (I.stkSub b hb) with z | z
    · exact ⟨by rw [z]; exact I.lt, fun q => (hf b q).2.1 z⟩
    · refine ⟨?_, fun q => (hf b q).2.2.1 z⟩
      apply Nat.lt_of_not_le
      intro q
      exact I.nofs q z
  have cellL : ∀ x c, cl.lookup x = some c → c < s.heap.objs.size := fun x c e => by
    obtain ⟨v, q⟩ := I.cell x c (L.sub x c e)
    exact q.lt
  refine ⟨⟨I.ok.mod, L.kind, I.ok.glob, I.ok.blt, Nat.le_refl _, fun x y c e1 e2 => I.ok.inj x y c (L.sub x c e1) (L.sub y c e2), fun x h => L.has x h, (fun x c z => nomatch z), I.ok.hd, I.ok.frames, .inl rfl, fun b hb => ?_, fun b o e => ?_, ?_, fun b o e hb => ?_, fun b hb hq => ?_, ?_, fun b hb => I.stkFree b hb⟩,
    rfl, I.bare, Un.kept fun b u e => ?_, ⟨_, hns, fun i x v e1 e2 e3 => ?_⟩, fun x c e => ?_, ?_, fun x c e => I.freeC x c (L.sub x c e), fun p hp => ?_, I.hok.kept old, ?_⟩
  ·
    refine ⟨?_, fun x c e z => ?_⟩
    · show b ≠ (s.heap.push emptyList).objs.size
      rcases List.mem_cons.mp hb with z | z
      · rw [z]; exact neS
      · obtain ⟨o, e⟩ := ho b z
        exact ltS e
    · rcases List.mem_cons.mp hb with q | q
      · exact Nat.ne_of_lt (cellL x c e) (z.trans q)
      · exact (hf b q).2.2.2.2.1 x c (L.sub x c e) z
  · exact ⟨Heap.get?_push_of_some _ (I.bs b o e).1, (I.bs b o e).2⟩
  · exact Nat.le_trans (Nat.le_trans I.ok.bsz I.sz) leS
  ·
    rcases List.mem_cons.mp hb with q | q
    · exact neZ (I.bs b o e).1 q
    · rcases (hf b q).2.2.2.1 with z | z
      · exact I.ok.noex b o e z
      · exact absurd (Nat.lt_of_lt_of_le (Heap.lt_size (I.ok.bs b o e).1) z) (Nat.lt_irrefl _)
  ·
    obtain ⟨h1, h2⟩ := stk b hq
    rcases List.mem_cons.mp hb with q | q
    · exact Nat.ne_of_lt h1 q
    · exact h2 q
  · exact Heap.FunFrames.of_keeps (fun b o e _ => ⟨o, Heap.get?_push_of_some _ e, rfl⟩) I.stack
  · exact hsb b u (Nat.ne_of_lt (Heap.lt_size e)) e
  ·
    obtain ⟨m, hn, hl⟩ := I.loc
    have hi : vars.length ≤ i := by
      apply Nat.le_of_not_lt
      intro z
      rw [show lcσ vars.length fv σ = List.replicate vars.length none ++ fv.map fun j => (σ[j]?).join from rfl, List.getElem?_append_left (by simpa using z), List.getElem?_replicate_of_lt (by simpa using z)] at e2
      cases e2
    obtain ⟨k, rfl⟩ : ∃ k, i = vars.length + k := ⟨i - vars.length, by omega⟩
    have e1' : frees[k]? = some x := by
      have e1'' : (vars ++ frees)[vars.length + k]? = some x := e1
      rw [List.getElem?_append_right (by omega)] at e1''
      simpa using e1''
    have e2' : (fv.map fun j => (σ[j]?).join)[k]? = some (some v) := by
      rw [show lcσ vars.length fv σ = List.replicate vars.length none ++ fv.map fun j => (σ[j]?).join from rfl, List.getElem?_append_right (by simp)] at e2
      simpa using e2
    rw [List.getElem?_map] at e2'
    obtain ⟨j, hj, ej⟩ := Option.map_eq_some_iff.mp e2'
    have ej' : σ[j]? = some (some v) := by
      cases q : σ[j]? with
      | none => rw [q] at ej; cases ej
      | some y => rw [q] at ej; exact congrArg some ej
    obtain ⟨f1, f2, f3, f4⟩ := fo.get e1' hj
    obtain ⟨u, ru, lk⟩ := hl j x v f1 ej' (f2.elim (fun z => .inr (.inl z)) fun z => .inr (.inr z))
    refine ⟨u, ru, .inr ⟨f4, ?_⟩⟩
    rcases lk with ⟨z, _⟩ | ⟨_, c, hc, o, q, d⟩
    · rcases f2 with y | y <;> rw [y] at z <;> cases z
    · exact ⟨c, f3.trans hc, o, old c o q, d⟩
  · obtain ⟨v, o, q, d⟩ := I.cell x c (L.sub x c e)
    exact ⟨v, o, old c o q, d⟩
  · exact I.hok.fresh leS
  · have e : p = (s.heap.objs.size, emptyList) := by
      have hp' : p ∈ ([] : List (Addr × Obj)) ++ [(s.heap.objs.size, emptyList)] := hp
      simpa using hp'
    subst e
    refine ⟨hD, I.hok.fresh (Nat.le_refl _), neS, fun q => ?_, fun v q => by have q' : Data.seq _ _ = Data.cell v := q; cases q'⟩
    exact Nat.lt_irrefl _ (stk _ q).1
  · show (lcσ vars.length fv σ).length = (vars ++ frees).length
    simp [lcσ, fo.len]
end
def PIfs (X : Cx) (ifs : List Expr) (t : TT) : Prop :=
  ∀ (pins : List (Addr × Obj)) (s : Shared) (σ : St) (H : Hp) (Q : Bool → Hp → Prop), Inv X pins σ H s → t σ H Q →
    wpAny (model X.prog X.w) X.A (forIn ifs true fun c r => if r = true then do let ok ← isTrue c X.env (eval c X.env); pure (ForInStep.yield ok) else pure (ForInStep.yield r)) (TP X pins σ Q) X.xe s
def tYes : TT := fun _ H Q => Q true H
theorem yes_ {σ : St} {H : Hp} {Q : Bool → Hp → Prop} (h : Q true H) : tYes σ H Q := h
theorem pif_none {X : Cx} : PIfs X [] tYes := fun _ _ _ H _ I h => wpAny_tests_nil ⟨H, I, h⟩
theorem pif_one {X : Cx} {c : Expr} {t : TT} (h : PT X c t) : PIfs X [c] t := fun pins s σ H Q I q => wpAny_tests_one (h pins s σ H Q I q)
def lcGoal (J : It) (Q : VK) (g : TG) (tc : TT) (te : TE) (σc : St) (H1 : Hp) : Prop := ∃ W : Nat → Nat → List V → Hp → Prop, (∃ m, W 0 m [] H1) ∧ ∀ i m ys H2, W i m ys H2 →
  (J.stop i H2 ∧ ys.length ≤ sizeLine ∧ ∀ p, H2 p = none → Q (.ref p) (upd H2 p (.lst ys))) ∨
  (J.go i H2 ∧ ys.length < sizeLine ∧ ∃ N : List V → Hp → Prop, (∀ zs H', N zs H' → ∃ m', m' < m ∧ W (i + 1) m' zs H') ∧ ∀ x H3, J.yld i H2 x H3 → g x σc H3 fun σ4 H4 => tc σ4 H4 fun b H5 => if b = true then te σ4 H5 fun v H6 => N (ys ++ [v]) H6 else N ys H5)
def tLC (nv : Nat) (fv : List Nat) (wi : TI) (g : TG) (tc : TT) (te : TE) : TE := fun σ H Q => wi σ H fun J H1 => lcGoal J Q g tc te (lcσ nv fv σ) H1
theorem codeAny_lc {prog : Program} {w : World} {A : Around} {R : Result → Shared → Prop} {s : Shared} {elt target iter : Expr} {ifs : List Expr} {scope : Scope} {pos : Pos} {it acc : Value} {env : Env} (I : Nat → Shared → Prop)
    (turn : ∀ n s, I n s → wpAny (model prog w) A (pyNext it) (fun r s₁ => match r with
      | none => R (.ok .next) s₁
      | some v => wpAny (model prog w) A (letOwnedTupleGo target it v) (fun _ s₁' => wpAny (model prog w) A (assign target env v) (fun _ s₂ =>
          wpAny (model prog w) A (forIn ifs true fun c r => if r = true then do let ok ← isTrue c env (eval c env); pure (ForInStep.yield ok) else pure (ForInStep.yield r)) (fun ok s₃ =>
            if ok = true then wpAny (model prog w) A (eval elt env) (fun x s₄ =>
              wpAny (model prog w) A (call (.builtin "list.append") [acc, x]) (fun _ s₅ => ∃ m, m < n ∧ I m s₅) (notedBy (model prog w) A env fun e s' => R (.error e) s') s₄) (notedBy (model prog w) A env fun e s' => R (.error e) s') s₃
            else ∃ m, m < n ∧ I m s₃) (notedBy (model prog w) A env fun e s' => R (.error e) s') s₂) (notedBy (model prog w) A env fun e s' => R (.error e) s') s₁') (notedBy (model prog w) A env fun e s' => R (.error e) s') s₁) (notedBy (model prog w) A env fun e s' => R (.error e) s') s)
    (n : Nat) (h : I n s) : codeAny (model prog w) A (.compLoop (.ListComp elt [⟨target, iter, ifs, 0⟩] scope pos) 0 it acc env) R s := by
  refine codeAny_loop rfl I (fun n s hI => ?_) n h
  show wpAny _ A ((compTurn (.ListComp elt [⟨target, iter, ifs, 0⟩] scope pos) 0 it acc env).onRaise (fun x => do noteFrame x env; theTreesLotGoes x)) _ _ s
  refine wpAny_noted ?_
  rw [compTurn_list]
  refine wpAny_bind (wpAny_standAt (wpAny_bind (wpAny_mono (turn n s hI) (fun r s₁ h₁ => ?_) fun _ _ h' => h')))
  cases r with
  | none => exact wpAny_pure h₁
  | some v =>
    refine wpAny_bind (wpAny_mono h₁ (fun _ s₁' h₁' => ?_) fun _ _ h' => h')
    refine wpAny_bind (wpAny_mono h₁' (fun _ s₂ h₂ => wpAny_bind (wpAny_mono h₂ (fun ok s₃ h₃ => ?_) fun _ _ h' => h')) fun _ _ h' => h')
    cases ok with
    | false => exact wpAny_pure ⟨rfl, h₃⟩
    | true =>
      exact wpAny_bind (wpAny_bind (wpAny_mono h₃ (fun x s₄ h₄ => wpAny_bind (wpAny_mono h₄ (fun _ s₅ h₅ => wpAny_pure (wpAny_pure ⟨rfl, h₅⟩)) fun _ _ h' => h')) fun _ _ h' => h'))
def GKeep (nv : Nat) (g : TG) : Prop := ∀ x σ H (K : St → Hp → Prop), g x σ H K → g x σ H fun σ' H' => K σ' H' ∧ σ'.length = σ.length ∧ ∀ i, nv ≤ i → σ'[i]? = σ[i]?
theorem gk_name {nv i : Nat} (h : i < nv) : GKeep nv (gName i) := fun x σ H K q => ⟨q, by simp, fun j hj => by rw [List.getElem?_set_ne (by omega)]⟩
theorem gk_pair {F : PySem.W.Frag} {nv i j : Nat} (hi : i < nv) (hj : j < nv) : GKeep nv (gTup F 2 (gCons (gName i) (gCons (gName j) gNil))) := fun x σ H K ⟨a, xs, e, hq, hl, v, r, e1, v2, r2, e2, e3, q⟩ =>
  ⟨a, xs, e, hq, hl, v, r, e1, v2, r2, e2, e3, q, by simp, fun k hk => by rw [List.getElem?_set_ne (by omega), List.getElem?_set_ne (by omega)]⟩
abbrev lobj (us : List Value) (n : Nat) : Obj := { cls := .type "list", data := .seq us.toArray n }
theorem lc_loop {Y : Cx} {D it : Addr} {J : It} {fp : List Addr} {tn : Nat → Heap → Prop} {g : TG} {tc : TT} {te : TE} {Q : VK} {W : Nat → Nat → List V → Hp → Prop} {nv n0 m0 : Nat} {σc : St} {H : Hp} {s : Shared}
    {elt target iter : Expr} {ifs : List Expr} {scope : Scope} {pos : Pos} {R : Result → Shared → Prop} (hx : Y.xe = fun _ _ => False)
    (hc : Y.calm = true) (hg : PG Y target g) (hk : GKeep nv g) (hi : PIfs Y ifs tc) (he : PE Y elt te) (T : Turn Y.prog Y.w Y.K target J fp it tn)
    (hnv : ∀ i, i < nv → ∀ v, σc[i]? ≠ some (some v))
    (d1 : D ≠ Y.env.locals) (d2 : D ∈ Y.ex) (d3 : D ∉ Y.fs) (d4 : ∀ x c, Y.env.cells.lookup x = some c → c ≠ D) (d5 : D ∉ fp) (d6 : Y.pn = [])
    (hf : ∀ b ∈ fp, b ≠ Y.env.locals ∧ b ∉ Y.fs ∧ (b ∈ Y.ex ∨ Y.s₀.heap.objs.size ≤ b) ∧ (∀ x c, Y.env.cells.lookup x = some c → c ≠ b))
    (I0 : Inv Y [(D, lobj [] n0)] σc H s) (st : tn 0 s.heap) (fr : ∀ b ∈ fp, H b = none) (w0 : W 0 m0 [] H)
    (turn : ∀ i m ys H2, W i m ys H2 → (J.stop i H2 ∧ ys.length ≤ sizeLine ∧ ∀ p, H2 p = none → Q (.ref p) (upd H2 p (.lst ys))) ∨
      (J.go i H2 ∧ ys.length < sizeLine ∧ ∃ N : List V → Hp → Prop, (∀ zs H', N zs H' → ∃ m', m' < m ∧ W (i + 1) m' zs H') ∧ ∀ x H3, J.yld i H2 x H3 → g x σc H3 fun σ4 H4 => tc σ4 H4 fun b H5 => if b = true then te σ4 H5 fun v H6 => N (ys ++ [v]) H6 else N ys H5))
    (hend : ∀ ys us n H' s', Inv Y [(D, lobj us n)] σc H' s' → Vals ys us → ys.length ≤ sizeLine → (∀ p, H' p = none → Q (.ref p) (upd H' p (.lst ys))) → R (.ok .next) s') :
    codeAny (model Y.prog Y.w) Y.A (.compLoop (.ListComp elt [⟨target, iter, ifs, 0⟩] scope pos) 0 (.ref it) (.ref D) Y.env) R s := by
  have fpok : ∀ {H' : Hp} {o : Obj}, (∀ b ∈ fp, H' b = none) → ∀ b ∈ fp, FpOk Y [(D, o)] H' b := fun {H' o} hn b hb => by
    obtain ⟨f1, f2, f3, f4⟩ := hf b hb
    refine ⟨hn b hb, f1, f2, f3, f4, fun p hp => ?_⟩
    rw [d6] at hp
    have e : p = (D, o) := by simpa using hp
    rw [e]
    exact fun z => d5 (by rw [show D = b from z]; exact hb)
  refine codeAny_lc (fun n s' => ∃ i ys us k H', Inv Y [(D, lobj us k)] σc H' s' ∧ Vals ys us ∧ tn i s'.heap ∧ (∀ b ∈ fp, H' b = none) ∧ W i n ys H') ?_ m0 ⟨0, [], [], n0, H, I0, .nil, st, fr, w0⟩
  rintro n s3 ⟨i, ys, us, k, H3, I3, rv, st3, fr3, w3⟩
  have ex0 : ∀ {E' : Value → Shared → Prop} {e : Value} {s' : Shared}, Y.xe e s' → E' e s' := fun {E' e s'} z => by rw [hx] at z; exact z.elim
  rcases turn i n ys H3 w3 with ⟨stop, hz, q⟩ | ⟨go, hz, N, hN, step⟩
  · refine thn (T.done Y rfl rfl rfl hc i _ s3 σc H3 _ I3 (fpok fr3) st3 stop) fun r s4 hq__ => ?_
    obtain ⟨hr, I4⟩ := hq__
    subst hr
    exact hend ys us k H3 s4 I4 rv hz q
  · refine thn (T.item Y rfl rfl rfl hc i _ s3 σc H3 _ I3 (fpok fr3) st3 go) fun r s4 hq__ => ?_
    obtain ⟨u, hr, h4⟩ := hq__
    subst hr
    refine thn h4 fun _ s5 hq__ => ?_
    obtain ⟨x, H5, I5, r5, y5, st5, fr5⟩ := hq__
    have I5' := I5.pinned (fpok fr5) (T.obj _ _ st5)
    refine wpAny_mono (hg _ s5 σc H5 x u _ I5' r5 (hk x σc H5 _ (step x H5 y5))) (fun _ s6 hq__ => ?_) fun _ _ z => ex0 z
    obtain ⟨σ6, H6, I6, q6, l6, e6⟩ := hq__
    have wk : ∀ (i : Nat) v, σc[i]? = some (some v) → σ6[i]? = some (some v) := fun i v e => by
      by_cases h : nv ≤ i
      · rw [e6 i h]; exact e
      · exact absurd e (hnv i (by omega) v)
    have back : ∀ {o : Obj} {H' : Hp} {s' : Shared}, Inv Y ([(D, o)] ++ pinsAt fp s5.heap) σ6 H' s' → Inv Y [(D, o)] σc H' s' ∧ tn (i + 1) s'.heap ∧ ∀ b ∈ fp, H' b = none := fun {o H' s'} I' => by
      refine ⟨(I'.unpinned).weak (by rw [← l6]) wk, T.keep _ _ _ st5 fun b hb o e => (I'.pin (b, o) (List.mem_append_right _ (List.mem_append_right _ (mem_pinsAt hb e)))).1, fun b hb => ?_⟩
      obtain ⟨o, e, _⟩ := T.obj _ _ st5 b hb
      exact (I'.pin (b, o) (List.mem_append_right _ (List.mem_append_right _ (mem_pinsAt hb e)))).2.1
    refine wpAny_mono (hi _ s6 σ6 H6 _ I6 q6) (fun b s7 hq__ => ?_) fun _ _ z => ex0 z
    obtain ⟨H7, I7, q7⟩ := hq__
    cases b with
    | false =>
      obtain ⟨m', hm, w7⟩ := hN ys H7 q7
      obtain ⟨I8, st8, fr8⟩ := back I7
      exact ⟨m', hm, i + 1, ys, us, k, H7, I8, rv, st8, fr8, w7⟩
    | true =>
      refine wpAny_mono (he _ s7 σ6 H7 _ I7 q7) (fun u2 s8 hq__ => ?_) fun _ _ z => ex0 z
      obtain ⟨v, H8, I8, r8, n8⟩ := hq__
      obtain ⟨m', hm, w8⟩ := hN _ H8 n8
      obtain ⟨I9, st9, fr9⟩ := back I8
      obtain ⟨eD, nD, _, _, _⟩ := I9.pin (D, lobj us k) (by simp)
      have hlen := rv.length
      refine call_meets F.slot_list_append ⟨_, eD, rfl⟩ F.entry_list_append (F.args_list_append_2 _ _) (PySem.list_append D us.toArray k u2 (by rw [List.size_toArray]; omega)) ⟨eD, ?_⟩
      have q := PySem.IsL.update eD (fun x_1 => x_1.push u2)
      have eq : us.toArray.push u2 = (us ++ [u2]).toArray := by simp
      rw [eq] at q
      obtain ⟨n', q⟩ : ∃ n', (s8.heap.update D (Obj.mapSeq fun x_1 => x_1.push u2)).get? D = some (lobj (us ++ [u2]) n') := ⟨_, q⟩
      have I10 : Inv Y [] σc H8 s8 := I9.pins_of fun p hp => by cases hp
      have I11 : Inv Y [] σc H8 { s8 with heap := s8.heap.update D (Obj.mapSeq fun x_1 => x_1.push u2), toks := s8.toks } :=
        I10.turned (it := D) (fun b o hb e => (Heap.get?_update_other s8.heap (Obj.mapSeq _) (Ne.symm hb)).trans e) nD d1 (.inl d2) d4 (fun p hp => by rw [d6] at hp; cases hp)
      refine ⟨m', hm, i + 1, ys ++ [v], us ++ [u2], n', H8, I11.pins_of (fun p hp => ?_), rv.append (.cons r8 .nil), ?_, fr9, w8⟩
      · have e : p = (D, lobj (us ++ [u2]) n') := by simpa using hp
        subst e
        exact ⟨q, nD, d1, d3, fun v z => by have z' : Data.seq _ _ = Data.cell v := z; cases z'⟩
      · refine T.keep _ _ _ st9 fun b hb o e => ?_
        exact (Heap.get?_update_other s8.heap (Obj.mapSeq _) (fun z => d5 (by rw [z]; exact hb))).trans e
section
variable {X : Cx} {pins : List (Addr × Obj)} {σ : St} {H : Hp} {s : Shared} {scope : Scope} {cl : List (Str × Addr)} {vars frees : List Str} {fv : List Nat} {elt target iter : Expr} {ifs : List Expr} {pos : Pos}
def LcEnd (X : Cx) (pins : List (Addr × Obj)) (σ : St) (Q : VK) (D C : Addr) (s' : Shared) : Prop :=
  ∃ (ys : List V) (H' : Hp) (oC : Obj) (m : Str → Option Value), Inv X (pins ++ [(C, oC)]) σ (upd H' D (.lst ys)) s' ∧ s'.heap.Ns C m ∧ FpOk X pins (upd H' D (.lst ys)) C ∧ Q (.ref D) (upd H' D (.lst ys))
theorem lc_core {J : It} {fp : List Addr} {it : Addr} {tn : Nat → Heap → Prop} {g : TG} {tc : TT} {te : TE} {Q : VK} {W : Nat → Nat → List V → Hp → Prop} {m0 : Nat} {E : Value → Shared → Prop} {E2 : Value → Addr → Value → Shared → Prop}
    (hc : X.calm = true) (L : LcOk X scope cl) (fo : FvOk X scope cl frees fv) (hk : GKeep vars.length g)
    (hg : ∀ C s H ex, PG (blk X (vars ++ frees) scope cl C s H ex) target g) (hi : ∀ C s H ex, PIfs (blk X (vars ++ frees) scope cl C s H ex) ifs tc) (he : ∀ C s H ex, PE (blk X (vars ++ frees) scope cl C s H ex) elt te)
    (I : Inv X pins σ H s) (T : Turn X.prog X.w X.K target J fp it tn) (st : tn 0 s.heap) (hf : ∀ b ∈ fp, FpOk X pins H b) (w0 : W 0 m0 [] H)
    (turn : ∀ i m ys H2, W i m ys H2 → (J.stop i H2 ∧ ys.length ≤ sizeLine ∧ ∀ p, H2 p = none → Q (.ref p) (upd H2 p (.lst ys))) ∨
      (J.go i H2 ∧ ys.length < sizeLine ∧ ∃ N : List V → Hp → Prop, (∀ zs H', N zs H' → ∃ m', m' < m ∧ W (i + 1) m' zs H') ∧ ∀ x H3, J.yld i H2 x H3 → g x (lcσ vars.length fv σ) H3 fun σ4 H4 => tc σ4 H4 fun b H5 => if b = true then te σ4 H5 fun v H6 => N (ys ++ [v]) H6 else N ys H5)) :
    wpAny (model X.prog X.w) X.A (newList []) (fun acc s₃ => wpAny (model X.prog X.w) X.A (newFunctionEnv scope X.env.globals cl [] X.env.qual none .none (some X.env)) (fun cenv s₄ =>
      codeAny (model X.prog X.w) X.A (.compStart (.ListComp elt [⟨target, iter, ifs, 0⟩] scope pos) 0 (.ref it) acc { cenv with scope := relabel scope X.env })
        (fun r s' => match r with | .ok _ => ∃ D, acc = .ref D ∧ LcEnd X pins σ Q D cenv.locals s' | .error x => E2 acc cenv.locals x s') s₄) E s₃) E s := by
  have hoo : ∀ b ∈ fp, ∃ o, s.heap.get? b = some o := fun b hb => let ⟨o, e, _⟩ := T.obj 0 _ st b hb; ⟨o, e⟩
  refine wpAny_newObj_type (wpAny_newFunctionEnv L.nocell (by intro y hy; simp at hy) (fun h₁ hns hsb => ?_) L.kind)
  dsimp only at hns hsb ⊢
  have hC : (s.heap.push emptyList).objs.size = s.heap.objs.size + 1 := Heap.size_push ..
  have keep1 : ∀ b o, b ≠ (s.heap.push emptyList).objs.size → (s.heap.push emptyList).get? b = some o → h₁.get? b = some o := fun b o hb e => hsb.extBut b o hb (Heap.get?_push_of_some _ e)
  have I0 : Inv (blk X (vars ++ frees) scope cl (s.heap.push emptyList).objs.size { s with heap := s.heap.push emptyList } H (s.heap.objs.size :: fp)) [(s.heap.objs.size, emptyList)] (lcσ vars.length fv σ) H { s with heap := h₁, toks := s.toks + ([] : List (Str × Value)).length } :=
    inv_blk I L fo hf hoo (by simpa using hns) keep1
  have st1 : tn 0 h₁ := T.keep 0 _ _ st fun b hb o e => keep1 b o (ltS e) (Heap.get?_push_of_some _ e)
  have loop : codeAny (model X.prog X.w) X.A (.compLoop (.ListComp elt [⟨target, iter, ifs, 0⟩] scope pos) 0 (.ref it) (.ref s.heap.objs.size) (compEnvC scope cl (s.heap.push emptyList).objs.size X.env))
      (fun r s' => match r with | .ok _ => ∃ D, Value.ref s.heap.objs.size = .ref D ∧ LcEnd X pins σ Q D (s.heap.push emptyList).objs.size s' | .error x => E2 (.ref s.heap.objs.size) (s.heap.push emptyList).objs.size x s') { s with heap := h₁, toks := s.toks + ([] : List (Str × Value)).length } := by
    refine lc_loop (Y := blk X (vars ++ frees) scope cl (s.heap.push emptyList).objs.size { s with heap := s.heap.push emptyList } H (s.heap.objs.size :: fp)) (nv := vars.length) (n0 := 0) rfl hc (hg _ _ _ _) hk (hi _ _ _ _) (he _ _ _ _) T (fun i hi v e => ?_)
      neS (by show s.heap.objs.size ∈ s.heap.objs.size :: fp; simp) ?_ (fun x c e => ?_) (fun z => ?_) rfl (fun b hb => ?_) I0 st1 (fun b hb => (hf b hb).1) w0 turn ?_
    · rw [show lcσ vars.length fv σ = List.replicate vars.length none ++ fv.map fun j => (σ[j]?).join from rfl, List.getElem?_append_left (by simpa using hi), List.getElem?_replicate_of_lt (by simpa using hi)] at e
      cases e
    · exact (I0.pin (s.heap.objs.size, emptyList) (by simp)).2.2.2.1
    · obtain ⟨v, q⟩ := I.cell x c (L.sub x c e)
      exact Nat.ne_of_lt q.lt
    · obtain ⟨o, e⟩ := hoo _ z
      exact absurd (Heap.lt_size e) (Nat.lt_irrefl _)
    · exact ⟨(I0.ok.exf b (List.mem_cons_of_mem _ hb)).1, I0.ok.exfs b (List.mem_cons_of_mem _ hb), .inl (List.mem_cons_of_mem _ hb), (I0.ok.exf b (List.mem_cons_of_mem _ hb)).2⟩
    · intro ys us n H' s' I' rv hz q
      obtain ⟨eD, nD, _, fD, _⟩ := I'.pin (s.heap.objs.size, lobj us n) (by simp)
      obtain ⟨mC, hnC, _⟩ := I'.loc
      obtain ⟨oC, es, ep, eC, dC, r1, r2⟩ := id hnC
      have nC : H' (s.heap.push emptyList).objs.size = none := I'.free
      have neDC : (s.heap.push emptyList).objs.size ≠ s.heap.objs.size := neS.symm
      have lt : ∀ {b : Addr} {o : Obj}, s.heap.get? b = some o → b ≠ s.heap.objs.size ∧ b ≠ (s.heap.push emptyList).objs.size := fun e => ⟨neZ e, ltS e⟩
      have nex : ∀ {b : Addr} {o : Obj}, s.heap.get? b = some o → b ∉ fp → b ∉ s.heap.objs.size :: fp := fun e hb z => by
        rcases List.mem_cons.mp z with z | z
        · exact (lt e).1 z
        · exact hb z
      have upn : ∀ {b : Addr} {u : HO}, H' b = some u → upd H' s.heap.objs.size (.lst ys) b = some u := fun e => by rw [upd_ne (ne_of_none e nD)]; exact e
      have un : Un (frs X.stack) fp H (upd H' s.heap.objs.size (.lst ys)) s.heap s'.heap :=
        { keep := fun b o e n hb hx => I'.base.keep b o (Heap.get?_push_of_some _ e) n hb (nex e hx)
          slot := fun b o e n hb hx => I'.base.slot b o (Heap.get?_push_of_some _ e) n hb (nex e hx)
          free := fun b o e n hx => by rw [upd_ne (lt e).1]; exact I'.base.free b o (Heap.get?_push_of_some _ e) n (nex e hx)
          there := fun b o e hx => I'.base.there b o (Heap.get?_push_of_some _ e) (nex e hx)
          tups := fun b xs e => upn (I'.base.tups b xs e)
          frzs := fun b o u e => upn (I'.base.frzs b o u e)
          tbls := fun b ps e => let ⟨more, z⟩ := I'.base.tbls b ps e; ⟨more, upn z⟩ }
      have hok : HOk X.prog X.w (upd H' s.heap.objs.size (.lst ys)) s'.heap := fun b u e => by
        by_cases hb : b = s.heap.objs.size
        · subst hb; rw [upd_same] at e; cases e
          exact ⟨hz, us, n, rv, eD⟩
        · rw [upd_ne hb] at e
          exact (I'.hok b u e).stay (fun c v _ z => z) (fun c z => upn z) fun c xs z => upn z
      have J1 : Inv X pins σ (upd H' s.heap.objs.size (.lst ys)) s' := I.call' (ch := fp) I'.os un hok I'.bare fun b hb => ⟨(hf b hb).2.2.2.1, (hf b hb).2.1, (hf b hb).2.2.2.2.1, (hf b hb).2.2.2.2.2⟩
      have fC : FpOk X pins (upd H' s.heap.objs.size (.lst ys)) (s.heap.push emptyList).objs.size := I.fpOk leS (by rw [upd_ne neDC]; exact nC)
      refine ⟨_, rfl, ys, H', oC, mC, J1.pins_of (fun p hp => ?_), hnC, fC, q _ nD⟩
      rcases List.mem_append.mp hp with z | z
      · exact J1.pin p (List.mem_append_right _ z)
      · have e : p = ((s.heap.push emptyList).objs.size, oC) := by simpa using z
        subst e
        exact ⟨eC, fC.1, fC.2.1, fC.2.2.1, fun v z => by rw [dC] at z; cases z⟩
  exact codeAny_compStart_list loop (T.self _ 0 _ _ _ st1 loop)
theorem pe_lc {wi : TI} {g : TG} {tc : TT} {te : TE} (hc : X.calm = true) (L : LcOk X scope cl) (fo : FvOk X scope cl frees fv) (hit : PI X target iter wi) (hk : GKeep vars.length g)
    (hg : ∀ C s H ex, PG (blk X (vars ++ frees) scope cl C s H ex) target g) (hi : ∀ C s H ex, PIfs (blk X (vars ++ frees) scope cl C s H ex) ifs tc) (he : ∀ C s H ex, PE (blk X (vars ++ frees) scope cl C s H ex) elt te)
    (hs : ∀ x, foldedSetIterable iter X.env x = pure x := by intro _; rfl) : PE X (.ListComp elt [⟨target, iter, ifs, 0⟩] scope pos) (tLC vars.length fv wi g tc te) := by
  intro pins s σ H Q I h
  rw [eval_ListComp]
  refine wpAny_comprehension_free (use := none) rfl hs L.clos L.kind L.names (thn (hit pins s σ H _ I h) fun v s1 h1 => thn h1 fun itv s2 h2 => ?_)
  obtain ⟨it, fp, tn, J, H2, e, I2, T, st2, f2, W, ⟨m0, w0⟩, turn⟩ := h2
  subst e
  refine wpAny_mono (lc_core (E := X.xe) (E2 := fun acc C x s' => compPost (model X.prog X.w) X.A X.xe none (EP X pins σ Q) acc C (.error x) s') hc L fo hk hg hi he I2 T st2 f2 w0 turn) (fun acc s3 h3 => thn h3 fun cenv s4 h4 => codeAny_mono h4 fun r s' h5 => ?_) fun _ _ z => z
  cases r with
  | error x => exact h5
  | ok f =>
    obtain ⟨D, rfl, ys, H', oC, m, J1, hn, fC, q⟩ := h5
    refine ⟨m, hn, fun h' sb => ⟨.ref D, _, ?_, rfl, q⟩⟩
    exact J1.unpinned.turned (t' := s'.toks) (it := cenv.locals) (fun b o hb e => (sb.2 b hb).trans e) fC.1 fC.2.1 fC.2.2.2.1 fC.2.2.2.2.1 fC.2.2.2.2.2
theorem ps_setLC {wi : TI} {g : TG} {tc : TT} {te : TE} {i : Nat} {x : Str} {spos pos' : Pos} (hN : X.N.Nodup) (hix : X.N[i]? = some x) (hlx : Loc X.env.scope x) (hc : X.calm = true) (L : LcOk X scope cl) (fo : FvOk X scope cl frees fv) (hit : PI X target iter wi) (hk : GKeep vars.length g)
    (hg : ∀ C s H ex, PG (blk X (vars ++ frees) scope cl C s H ex) target g) (hi : ∀ C s H ex, PIfs (blk X (vars ++ frees) scope cl C s H ex) ifs tc) (he : ∀ C s H ex, PE (blk X (vars ++ frees) scope cl C s H ex) elt te)
    (hsw : swapsWith (.ListComp elt [⟨target, iter, ifs, 0⟩] scope pos) (some (.Name x pos')) spos.line X.env = pure true := by rfl)
    (hs : ∀ x, foldedSetIterable iter X.env x = pure x := by intro _; rfl) (hf : X.fn x = true ∨ X.env.scope.names.lookup x = some .local := by first | exact .inl rfl | exact .inr rfl | assumption) :
    PS X (.Assign [.Name x pos'] (.ListComp elt [⟨target, iter, ifs, 0⟩] scope pos) spos) (tAsg (tLC vars.length fv wi g tc te) (gName i)) := by
  intro pins s σ H Dn I h
  rw [exec_Assign_Name_used _ _ _ _ hsw]
  refine wpAny_bind (wpAny_standAt (wpAny_bind ?_))
  show wpAny _ X.A (do let _ ← comprehension (.ListComp elt [⟨target, iter, ifs, 0⟩] scope pos) scope X.env _ (newList []) false (eval iter X.env) (some (assign (.Name x pos') X.env))) _ _ s
  refine wpAny_bind (wpAny_mono (wpAny_comprehension_free (use := some (assign (.Name x pos') X.env)) (Q := fun _ s' => SP X pins Dn .next s') rfl hs L.clos L.kind L.names (thn (hit pins s σ H _ I h) fun v s1 h1 => thn h1 fun itv s2 h2 => ?_)) (fun _ s' hq => wpAny_pure (wpAny_pure hq)) fun _ _ e => e)
  obtain ⟨it, fp, tn, J, H2, e, I2, T, st2, f2, W, ⟨m0, w0⟩, turn⟩ := h2
  subst e
  refine wpAny_mono (lc_core (Q := fun x H1 => gName i x σ H1 Dn.nx) (E := X.xe) (E2 := fun acc C y s' => compPost (model X.prog X.w) X.A X.xe (some (assign (.Name x pos') X.env)) (fun _ s' => SP X pins Dn .next s') acc C (.error y) s') hc L fo hk hg hi he I2 T st2 f2 w0 turn) (fun acc s3 h3 => thn h3 fun cenv s4 h4 => codeAny_mono h4 fun r s' h5 => ?_) fun _ _ z => z
  cases r with
  | error y => exact h5
  | ok f =>
    obtain ⟨D, rfl, ys, H', oC, m, J1, hn, fC, q⟩ := h5
    show wpAny (model X.prog X.w) X.A (assign (.Name x pos') X.env (.ref D)) (fun _ s'' => ∃ m, s''.heap.Ns cenv.locals m ∧ ∀ h', Heap.SameBut cenv.locals s''.heap h' → SP X pins Dn .next { s'' with heap := h' }) X.xe s'
    refine thn (pg_name (i := i) hN hix hlx hf _ s' σ _ (.ref D) (.ref D) (fun σ' H'' => Dn.nx σ' H'' ∧ H'' = upd H' D (.lst ys)) J1 rfl ⟨q, rfl⟩) fun _ s6 hq__ => ?_
    obtain ⟨σ6, H6, I6, q6, e6⟩ := hq__
    subst e6
    have eC := (I6.pin (cenv.locals, oC) (by simp)).1
    have eC' := (J1.pin (cenv.locals, oC) (by simp)).1
    obtain ⟨o, es, ep, ho, r1⟩ := hn
    rw [eC'] at ho
    cases ho
    refine ⟨m, ⟨oC, es, ep, eC, r1⟩, fun h' sb => ⟨σ6, _, ?_, q6⟩⟩
    exact I6.unpinned.turned (t' := s6.toks) (it := cenv.locals) (fun b o hb e => (sb.2 b hb).trans e) fC.1 fC.2.1 fC.2.2.2.1 fC.2.2.2.2.1 fC.2.2.2.2.2
end
end L2
namespace L2
open PySem PySem.Spec PyProof.Rows
theorem lc_list {K : PySem.W.Frag} {a : Addr} {xs : List V} {g : TG} {tc : TT} {te : TE} {Q : VK} {σ : St} {H : Hp} (Pv : Nat → List V → Hp → Prop) (hz : xs.length ≤ sizeLine) (h0 : Pv 0 [] H) (hl : ∀ i ys H, Pv i ys H → SqL K H a xs ∧ ys.length ≤ i)
    (hs : ∀ i x ys H, xs[i]? = some x → Pv i ys H → g x σ H fun σ4 H4 => tc σ4 H4 fun b H5 => if b = true then te σ4 H5 fun v H6 => Pv (i + 1) (ys ++ [v]) H6 else Pv (i + 1) ys H5)
    (hd : ∀ ys H p, Pv xs.length ys H → H p = none → Q (.ref p) (upd H p (.lst ys))) :
    lcGoal (Itl K a) Q g tc te σ H := by
  refine ⟨fun i m ys H => m = xs.length - i ∧ i ≤ xs.length ∧ Pv i ys H, ⟨xs.length, by simp, Nat.zero_le _, h0⟩, ?_⟩
  rintro i m ys H2 ⟨rfl, hi, p⟩
  obtain ⟨q, hy⟩ := hl i ys H2 p
  by_cases hlt : i < xs.length
  · refine .inr ⟨⟨xs, xs[i], q, by simp [hlt]⟩, by omega, Pv (i + 1), fun zs H' p' => ⟨xs.length - (i + 1), by omega, rfl, hlt, p'⟩, fun x H3 y => ?_⟩
    obtain ⟨e, y⟩ := y
    subst e
    exact hs i x ys _ (y xs q) p
  · have e : i = xs.length := by omega
    subst e
    exact .inl ⟨⟨xs, q, Nat.le_refl _⟩, by omega, fun p' hp' => hd ys H2 p' p hp'⟩
theorem lc_tup {K : PySem.W.Frag} {a : Addr} {xs : List V} {g : TG} {tc : TT} {te : TE} {Q : VK} {σ : St} {H : Hp} (Pv : Nat → List V → Hp → Prop) (hz : xs.length ≤ sizeLine) (h0 : Pv 0 [] H) (hl : ∀ i ys H, Pv i ys H → SqT K H a xs ∧ ys.length ≤ i)
    (hs : ∀ i x ys H, xs[i]? = some x → Pv i ys H → g x σ H fun σ4 H4 => tc σ4 H4 fun b H5 => if b = true then te σ4 H5 fun v H6 => Pv (i + 1) (ys ++ [v]) H6 else Pv (i + 1) ys H5)
    (hd : ∀ ys H p, Pv xs.length ys H → H p = none → Q (.ref p) (upd H p (.lst ys))) :
    lcGoal (Itt K a) Q g tc te σ H := by
  refine ⟨fun i m ys H => m = xs.length - i ∧ i ≤ xs.length ∧ Pv i ys H, ⟨xs.length, by simp, Nat.zero_le _, h0⟩, ?_⟩
  rintro i m ys H2 ⟨rfl, hi, p⟩
  obtain ⟨q, hy⟩ := hl i ys H2 p
  by_cases hlt : i < xs.length
  · refine .inr ⟨⟨xs, xs[i], q, by simp [hlt]⟩, by omega, Pv (i + 1), fun zs H' p' => ⟨xs.length - (i + 1), by omega, rfl, hlt, p'⟩, fun x H3 y => ?_⟩
    obtain ⟨e, y⟩ := y
    subst e
    exact hs i x ys _ (y xs q) p
  · have e : i = xs.length := by omega
    subst e
    exact .inl ⟨⟨xs, q, Nat.le_refl _⟩, by omega, fun p' hp' => hd ys H2 p' p hp'⟩
theorem lc_zip {K : PySem.W.Frag} {a b : Addr} {xs ys : List V} {g : TG} {tc : TT} {te : TE} {Q : VK} {σ : St} {H : Hp} (Pv : Nat → List V → Hp → Prop) (hz : xs.length ≤ sizeLine) (h0 : Pv 0 [] H) (hl : ∀ i zs H, Pv i zs H → SqL K H a xs ∧ SqL K H b ys ∧ zs.length ≤ i)
    (hs : ∀ i x y zs H p, xs[i]? = some x → ys[i]? = some y → H p = none → Pv i zs H → g (.ref p) σ (upd H p (.tup [x, y])) fun σ4 H4 => tc σ4 H4 fun b H5 => if b = true then te σ4 H5 fun v H6 => Pv (i + 1) (zs ++ [v]) H6 else Pv (i + 1) zs H5)
    (hd : ∀ i zs H p, i = min xs.length ys.length → Pv i zs H → H p = none → Q (.ref p) (upd H p (.lst zs))) :
    lcGoal (Itz K a b) Q g tc te σ H := by
  refine ⟨fun i m zs H => m = min xs.length ys.length - i ∧ i ≤ min xs.length ys.length ∧ Pv i zs H, ⟨min xs.length ys.length, by simp, Nat.zero_le _, h0⟩, ?_⟩
  rintro i m zs H2 ⟨rfl, hi, p⟩
  obtain ⟨qa, qb, hy⟩ := hl i zs H2 p
  by_cases hlt : i < min xs.length ys.length
  · have ha : i < xs.length := by omega
    have hb : i < ys.length := by omega
    refine .inr ⟨⟨xs, ys, xs[i], ys[i], qa, qb, by simp [ha], by simp [hb]⟩, by omega, Pv (i + 1), fun zs H' p' => ⟨min xs.length ys.length - (i + 1), by omega, rfl, hlt, p'⟩, fun x H3 y => ?_⟩
    obtain ⟨t, rfl, ht, y⟩ := y
    have ea : xs[i]? = some xs[i] := by simp [ha]
    have eb : ys[i]? = some ys[i] := by simp [hb]
    rw [y xs ys xs[i] ys[i] qa qb ea eb]
    exact hs i xs[i] ys[i] zs H2 t ea eb ht p
  · exact .inl ⟨⟨xs, ys, qa, qb, by omega⟩, by omega, fun p' hp' => hd i zs H2 p' (by omega) p hp'⟩
end L2
namespace L2
open PySem PySem.Spec PyProof.Rows
structure New (H H' : Hp) (p : Addr) (o : HO) : Prop where
  same : Same H H'
  fresh : H p = none
  at_ : H' p = some o
theorem new_upd {H : Hp} {p : Addr} {o : HO} (h : H p = none) : New H (upd H p o) p o := ⟨same_upd h, h, upd_same⟩
def But (l : Addr) (H H' : Hp) : Prop := ∀ b o, H b = some o → b ≠ l → H' b = some o
theorem but_upd {H : Hp} {l : Addr} {o : HO} : But l H (upd H l o) := fun b u e n => by rw [upd_ne n]; exact e
theorem But.same {H0 H H' : Hp} {l : Addr} (b : But l H H') (s : Same H0 H) (h : H0 l = none) : Same H0 H' := fun c o e => b c o (s c o e) (ne_of_none e h)
theorem But.tup {H H' : Hp} {l : Addr} {o : HO} (b : But l H H') (h : H l = some o) (n : ∀ xs, o ≠ .tup xs) : ∀ c xs, H c = some (.tup xs) → H' c = some (.tup xs) := fun c xs e => b c _ e (ne_of e h (fun z => n xs z.symm))
section
variable {X : Cx} {e : Expr} {es : List Expr} {te : TE} {t : TA} {pos : Pos}
def tTupN (t : TA) : TE := fun σ H Q => t σ H fun xs H1 => xs.length ≤ sizeLine ∧ ∀ p H', New H1 H' p (.tup xs) → Q (.ref p) H'
def tLstN (t : TA) : TE := fun σ H Q => t σ H fun xs H1 => xs.length ≤ sizeLine ∧ ∀ p H', New H1 H' p (.lst xs) → Q (.ref p) H'
theorem pe_tupN {x1} (h : PA X es t) : PE X (.Tuple es x1 pos) (tTupN t) := by
  intro pins s σ H Q I hq
  refine wpAny_Tuple_spliced (thn (h pos pins s σ H _ I hq) fun us s1 ⟨xs, H1, I1, r, z, q⟩ => ⟨by rw [← r.length]; exact z, ?_⟩)
  have hf : H1 s1.heap.objs.size = none := I1.hok.fresh (Nat.le_refl _)
  refine ⟨.ref s1.heap.objs.size, upd H1 s1.heap.objs.size (.tup xs), I1.laid (t' := s1.toks) (fun b u e => Heap.get?_push_of_some _ e) (Nat.le_refl _) ?_, rfl, q _ _ (new_upd hf)⟩
  exact ⟨z, us, r, ⟨_, Heap.get?_push_size _ rfl, rfl, _, rfl⟩⟩
theorem pe_lstN (h : PA X es t) : PE X (.List es pos) (tLstN t) := by
  intro pins s σ H Q I hq
  refine wpAny_List_spliced (thn (h pos pins s σ H _ I hq) fun us s1 ⟨xs, H1, I1, r, z, q⟩ => ⟨by rw [← r.length]; exact z, ?_⟩)
  have hf : H1 s1.heap.objs.size = none := I1.hok.fresh (Nat.le_refl _)
  refine ⟨.ref s1.heap.objs.size, upd H1 s1.heap.objs.size (.lst xs), I1.laid (t' := s1.toks) (fun b u e => Heap.get?_push_of_some _ e) (Nat.le_refl _) ?_, rfl, q _ _ (new_upd hf)⟩
  exact ⟨z, us, 0, r, Heap.get?_push_size _ rfl⟩
theorem CallR.imp {f : Value} {r r' : List V → Hp → VK → Prop} (h : CallR X f r) (i : ∀ xs H Q, r' xs H Q → r xs H Q) : CallR X f r' := fun pins s σ H xs us Q I v q => h pins s σ H xs us Q I v (i xs H Q q)
theorem OpR.imp {f : Value → Value → Sem Value} {r r' : R2} (h : OpR X f r) (i : ∀ x y H Q, r' x y H Q → r x y H Q) : OpR X f r' := fun pins s σ H x y v u Q I rx ry q => h pins s σ H x y v u Q I rx ry (i x y H Q q)
theorem MtM.imp {id : String} {r r' : V → List V → Hp → VK → Prop} (h : MtM X id r) (i : ∀ x xs H Q, r' x xs H Q → r x xs H Q) : MtM X id r' := fun pins s σ H x xs v us Q I rx rv q => h pins s σ H x xs v us Q I rx rv (i x xs H Q q)
theorem call_listN : CallR X (.type "list") (fun xs H Q => ∃ p ys, xs = [.ref p] ∧ (SqL X.K H p ys ∨ SqT X.K H p ys) ∧ ∀ l H', New H H' l (.lst ys) → Q (.ref l) H') :=
  call_list_of.imp fun _ _ _ ⟨p, ys, e, h, q⟩ => ⟨p, ys, e, h, fun l hl => q l _ (new_upd hl)⟩
def rSlLN (K : PySem.W.Frag) : V → Option Int → Option Int → Hp → VK → Prop := fun x lo hi H Q => ∃ a xs, x = .ref a ∧ SqL K H a xs ∧ ∀ p H', New H H' p (.lst (cutV xs lo hi)) → Q (.ref p) H'
theorem sl_listN : SlR X (rSlLN X.K) := fun pins s σ H x v vl vu lo hi sl Q I rx hs p1 p2 ⟨a, xs, e, h, q⟩ => sl_list pins s σ H x v vl vu lo hi sl Q I rx hs p1 p2 ⟨a, xs, e, h, fun p hp => q p _ (new_upd hp)⟩
def rCatN : R2 := fun x y H Q => ∃ l b xs zs, x = .ref l ∧ y = .ref b ∧ H l = some (.lst xs) ∧ H b = some (.lst zs) ∧ xs.length + zs.length ≤ sizeLine ∧ ∀ p H', New H H' p (.lst (xs ++ zs)) → Q (.ref p) H'
theorem op_catN : OpR X (binaryOp .Add) rCatN := op_cat.imp fun _ _ _ _ ⟨l, b, xs, zs, e1, e2, h1, h2, z, q⟩ => ⟨l, b, xs, zs, e1, e2, h1, h2, z, fun p hp => q p _ (new_upd hp)⟩
def rAppendN : V → List V → Hp → VK → Prop := fun x vs H Q => ∃ l xs y, x = .ref l ∧ vs = [y] ∧ H l = some (.lst xs) ∧ xs.length < sizeLine ∧ ∀ H', But l H H' → H' l = some (.lst (xs ++ [y])) → Q .non H'
theorem mt_appendN : MtM X "list.append" rAppendN := mt_append.imp fun _ _ _ _ ⟨l, xs, y, e1, e2, h, z, q⟩ => ⟨l, xs, y, e1, e2, h, z, q _ but_upd upd_same⟩
def rClearN : V → List V → Hp → VK → Prop := fun x vs H Q => ∃ l xs, x = .ref l ∧ vs = [] ∧ H l = some (.lst xs) ∧ ∀ H', But l H H' → H' l = some (.lst []) → Q .non H'
theorem mt_clearN : MtM X "list.clear" rClearN := mt_clear.imp fun _ _ _ _ ⟨l, xs, e1, e2, h, q⟩ => ⟨l, xs, e1, e2, h, q _ but_upd upd_same⟩
end
section
variable {X : Cx} {k : Nat} {C : Addr} {ps : List Str} {sp : Sp} {dvs : List V} {ds : List Value} {x f : Str} {p pos pos' : Pos} {e o value : Expr} {es : List Expr} {ta tv : TE} {t : TA}
end
theorem for_zipN {K : PySem.W.Frag} {a b : Addr} {xs ys : List V} {g : TG} {tb : TS} {D : Ends} {σ : St} {H : Hp} (Pv : Nat → St → Hp → Prop) (h0 : Pv 0 σ H) (hl : ∀ i σ H, Pv i σ H → SqL K H a xs ∧ SqL K H b ys)
    (hs : ∀ i x y σ H p H', xs[i]? = some x → ys[i]? = some y → New H H' p (.tup [x, y]) → Pv i σ H → g (.ref p) σ H' fun σ2 H2 => tb { D with nx := Pv (i + 1), ct := Pv (i + 1), bk := D.nx } σ2 H2)
    (hd : ∀ i σ H, i = min xs.length ys.length → Pv i σ H → D.nx σ H) :
    ∃ W : Nat → Nat → St → Hp → Prop, (∃ m, W 0 m σ H) ∧ ∀ i m σ H, W i m σ H →
      ((Itz K a b).stop i H ∧ D.nx σ H) ∨ ((Itz K a b).go i H ∧ ∃ N : St → Hp → Prop, (∀ σ' H', N σ' H' → ∃ m', m' < m ∧ W (i + 1) m' σ' H') ∧ ∀ x H', (Itz K a b).yld i H x H' → g x σ H' fun σ2 H2 => tb { D with nx := N, ct := N, bk := D.nx } σ2 H2) :=
  for_zip Pv h0 hl (fun i x y σ H p e1 e2 hn p' => hs i x y σ H p _ e1 e2 (new_upd hn) p') hd
theorem lcOk {X : Cx} {scope : Scope} {cl : List (Str × Addr)} (clos : closureFor scope X.env = pure cl) (kind : scope.kind = .function) (nocell : ∀ y ∈ scope.names, y.2 ≠ .cell)
    (names : ∀ y ∈ scope.names, y.2 = .local → scope.names.lookup y.1 = some .local) (sub : ∀ p ∈ cl, X.env.cells.lookup p.1 = some p.2)
    (has : ((relabel scope X.env).names.all fun y => (y.2 != .cell && y.2 != .free) || (cl.lookup y.1).isSome) = true) : LcOk X scope cl := by
  refine ⟨clos, kind, nocell, names, fun x c e => ?_, fun x h => ?_⟩
  · have : ∀ l : List (Str × Addr), l.lookup x = some c → (x, c) ∈ l := fun l => by
      induction l with
      | nil => intro z; simp at z
      | cons p r ih =>
        intro z
        obtain ⟨y, d⟩ := p
        rw [List.lookup_cons] at z
        by_cases q : (x == y) = true
        · rw [q] at z
          have e1 : x = y := by simpa using q
          have e2 : d = c := Option.some.inj z
          subst e1 e2
          exact List.mem_cons_self
        · have q' : (x == y) = false := by simpa using q
          rw [q'] at z
          exact List.mem_cons_of_mem _ (ih z)
    exact sub (x, c) (this cl e)
  · have : ∀ (l : List (Str × NameKind)) (k : NameKind), l.lookup x = some k → (x, k) ∈ l := fun l k => by
      induction l with
      | nil => intro z; simp at z
      | cons p r ih =>
        intro z
        obtain ⟨y, d⟩ := p
        rw [List.lookup_cons] at z
        by_cases q : (x == y) = true
        · rw [q] at z
          have e1 : x = y := by simpa using q
          have e2 : d = k := Option.some.inj z
          subst e1 e2
          exact List.mem_cons_self
        · have q' : (x == y) = false := by simpa using q
          rw [q'] at z
          exact List.mem_cons_of_mem _ (ih z)
    rw [List.all_eq_true] at has
    cases e : cl.lookup x with
    | some c => exact ⟨c, rfl⟩
    | none =>
      rcases h with h | h
      · have := has _ (this _ _ h)
        rw [e] at this
        simp at this
      · have := has _ (this _ _ h)
        rw [e] at this
        simp at this
end L2
namespace L2
open PySem PySem.Spec PyProof.Rows
section
variable {X : Cx}
theorem call_sum (hc : X.calm = true) : CallR X (.builtin "sum") (fun xs H Q => ∃ (p : Addr) (ns : List Int), xs = [.ref p] ∧ SqL X.K H p (ns.map V.int) ∧ Q (.int ns.sum) H) := by
  intro pins s σ H xs us Q I r h
  obtain ⟨p, ns, rfl, hq, q⟩ := h
  obtain ⟨u, rfl, ru⟩ := vals1 r
  cases (show u = Value.ref p from ru)
  obtain ⟨its, rv, pl, hz⟩ := I.list hq
  have hi : IntsAre its ns := L2.intsAre_of rv
  have hn := hi.numsOf
  obtain ⟨ys, e⟩ := hi.allInts.items
  have hl := pl.isList
  rw [e] at hl
  refine sum_intListG (I.ok.hd hc) hl fun h' tk t' hk => ⟨.int ns.sum, H, I.kept hk, ⟨t', ?_⟩, q⟩
  have e3 : its = (intItems ys).toList := by rw [← e]
  rw [e3, nums_intItems] at hn
  rw [preSum_eq, List.take_of_length_le (by simp), hn]
end
end L2
namespace L2
open PySem PySem.Spec PyProof.Rows
def FlT (h : Heap) (e T : Addr) (cls : Value) (dd : Option Addr) (fl : Value) : Prop :=
  ∃ oe vs oT ts, h.get? e = some oe ∧ oe.cls = cls ∧ oe.dict = dd ∧ oe.data = .fields vs ∧ vs[1]? = some (.ref T) ∧ T ≠ e ∧ h.get? T = some oT ∧ oT.data = .fields ts ∧ ts[3]? = some fl
def Fl0 (h : Heap) (e : Addr) (cls : Value) (dd : Option Addr) : Prop :=
  ∃ oe vs, h.get? e = some oe ∧ oe.cls = cls ∧ oe.dict = dd ∧ oe.data = .fields vs ∧ vs[1]? = some .none
def FpX (X : Cx) (H : Hp) (b : Addr) : Prop :=
  H b = none ∧ b ≠ X.env.locals ∧ b ∉ X.fs ∧ X.s₀.heap.get? b = none ∧ (∀ x c, X.env.cells.lookup x = some c → c ≠ b) ∧ ∀ p ∈ X.pn, p.1 ≠ b
def Fly (X : Cx) (H : Hp) (h : Heap) (e : Addr) (cls : Value) (dd : Option Addr) : Prop :=
  FpX X H e ∧ (Fl0 h e cls dd ∨ ∃ T fl, FpX X H T ∧ FlT h e T cls dd fl)
abbrev XW := Value → Option Addr → St → Hp → Prop
def XE (X : Cx) (W : XW) (ev : Value) (s : Shared) : Prop :=
  ∃ e cls dd σ H, ev = .ref e ∧ Inv X [] σ H s ∧ Fly X H s.heap e cls dd ∧ W cls dd σ H
def OnStk (X : Cx) : Prop := X.stack = X.env :: X.outer ∧ X.env.frame = some X.env.locals ∧ X.ex = []
section
variable {X : Cx} {σ : St} {H : Hp} {s : Shared} {h' : Heap} {M : Model} {A : Around} {E : Value → Shared → Prop} {e T : Addr} {cls fl : Value} {dd : Option Addr}
theorem ObjOk.there {P : Program} {w : World} {H : Hp} {h : Heap} {a : Addr} {o : HO} (x : ObjOk P w H h a o) : ∃ u, h.get? a = some u := by
  induction o with
  | lst xs => obtain ⟨_, _, _, _, e⟩ := x; exact ⟨_, e⟩
  | tup xs => obtain ⟨_, _, _, u, e, _⟩ := x; exact ⟨u, e⟩
  | dK kvs => obtain ⟨_, _, _, _, u, _, _, e, _⟩ := x; exact ⟨u, e⟩
  | dT kvs => obtain ⟨_, _, _, _, u, _, _, e, _⟩ := x; exact ⟨u, e⟩
  | set S n => obtain ⟨u, _, _, _, e, _⟩ := x; exact ⟨u, e⟩
  | ins C dx fs => obtain ⟨_, _, _, e, _⟩ := x; exact ⟨_, e⟩
  | own y => exact x
  | xd fs => obtain ⟨_, ⟨u, _, _, e, _⟩, _⟩ := x; exact ⟨u, e⟩
  | met f y => exact ⟨_, x⟩
  | rng lo hi => obtain ⟨_, _, _, e⟩ := x; exact ⟨_, e⟩
  | frz u v _ => obtain ⟨e, _⟩ := x; exact ⟨_, e⟩
  | tbl ps => exact ⟨_, x⟩
  | ext φ => exact x.2.1
theorem Inv.fpX {H' : Hp} {pins : List (Addr × Obj)} (hs : OnStk X) (I : Inv X pins σ H s) (hb : s.heap.get? e = none) (hn : H' e = none) : FpX X H' e := by
  refine ⟨hn, fun z => ?_, fun z => ?_, ?_, fun x c q z => ?_, fun p hp z => ?_⟩
  · obtain ⟨m, ⟨o, _, _, ho, _⟩, _⟩ := I.loc
    rw [← z, hb] at ho; cases ho
  · obtain ⟨_, o, ho, _⟩ := I.funs.mem z
    rw [hb] at ho; cases ho
  · cases q : X.s₀.heap.get? e with
    | none => rfl
    | some o =>
      obtain ⟨o', ho'⟩ := I.base.there e o q (by rw [hs.2.2]; simp)
      rw [hb] at ho'; cases ho'
  · obtain ⟨v, o, ho, _⟩ := I.cell x c q
    rw [z, hb] at ho; cases ho
  · have := (I.pin p (List.mem_append_left _ hp)).1
    rw [z, hb] at this; cases this
theorem Inv.noneOf {pins : List (Addr × Obj)} (I : Inv X pins σ H s) (hb : s.heap.get? e = none) : H e = none := by
  cases q : H e with
  | none => rfl
  | some o =>
    obtain ⟨u, hu⟩ := (I.hok e o q).there
    rw [hb] at hu; cases hu
theorem Inv.turnR {H' : Hp} {t' : Nat} {ch : List Addr} (I : Inv X [] σ H s) (hf : ∀ b ∈ ch, FpX X H b) (k : ∀ b u, b ∉ ch → b ∉ frs X.stack → s.heap.get? b = some u → h'.get? b = some u)
    (k2 : ∀ b u, b ∉ ch → s.heap.get? b = some u → ∃ sl, h'.get? b = some { u with slots := sl }) (hH : ∀ b, b ∉ ch → H' b = H b) (hok : HOk X.prog X.w H' h') : Inv X [] σ H' { s with heap := h', toks := t' } := by
  have sup : ∀ b o, H b = some o → H' b = some o := fun b o q => by rw [hH b (fun z => by rw [(hf b z).1] at q; cases q)]; exact q
  have nosl : ∀ b, b ≠ X.env.locals → b ∉ X.fs → b ∉ frs X.stack := fun b h1 h2 z => (List.mem_cons.mp (I.stkSub b z)).elim h1 h2
  have neL : ∀ b o, X.s₀.heap.get? b = some o → b ≠ X.env.locals := fun b o q => Nat.ne_of_lt (Nat.lt_of_lt_of_le (Heap.lt_size q) I.ok.above)
  have neC : ∀ b o, X.s₀.heap.get? b = some o → b ∉ ch := fun b o q hb => by rw [(hf b hb).2.2.2.1] at q; cases q
  have cellK : ∀ x c, X.env.cells.lookup x = some c → ∀ v, s.heap.IsCell c v → h'.IsCell c v := fun x c q v ⟨o, ho, hd⟩ => by
    obtain ⟨sl, q'⟩ := k2 c o (fun z => (hf c z).2.2.2.2.1 x c q rfl) ho
    exact ⟨_, q', hd⟩
  refine ⟨I.ok, I.os, I.bare, ⟨fun b o q n hb hx => ?_, fun b o q n hb hx => ?_, fun b o q n hx => ?_, fun b o q hx => ?_, fun b xs q => sup _ _ (I.base.tups b xs q), fun b o xs q => sup _ _ (I.base.frzs b o xs q), fun b ps q => ?_⟩, ?_, fun x c q => ?_, ?_, fun x c q => ?_, fun p hp => ?_, hok, I.len⟩
  · exact k b o (neC b o q) (nosl b (neL b o q) hb) (I.base.keep b o q n hb hx)
  · obtain ⟨sl, e1⟩ := I.base.slot b o q n hb hx
    obtain ⟨sl', e2⟩ := k2 b _ (neC b o q) e1
    exact ⟨sl', e2⟩
  · rw [hH b (neC b o q)]
    exact I.base.free b o q n hx
  · obtain ⟨o', e1⟩ := I.base.there b o q hx
    obtain ⟨sl', e2⟩ := k2 b _ (neC b o q) e1
    exact ⟨_, e2⟩
  · obtain ⟨m1, e1⟩ := I.base.tbls b ps q
    exact ⟨m1, sup _ _ e1⟩
  · obtain ⟨m, hn, hl⟩ := I.loc
    refine ⟨m, ?_, fun i x v e1 e2 e3 => ?_⟩
    · obtain ⟨o, es, ep, ho, r⟩ := hn
      obtain ⟨sl, q⟩ := k2 _ o (fun z => (hf _ z).2.1 rfl) ho
      exact ⟨_, es, ep, q, r⟩
    · obtain ⟨u, r, l⟩ := hl i x v e1 e2 e3
      refine ⟨u, r, ?_⟩
      rcases l with l | ⟨kk, c, q, z⟩
      · exact .inl l
      · exact .inr ⟨kk, c, q, cellK x c q _ z⟩
  · obtain ⟨v, z⟩ := I.cell x c q
    exact ⟨v, cellK x c q v z⟩
  · rw [hH _ (fun z => (hf _ z).2.1 rfl)]; exact I.free
  · rw [hH _ (fun z => (hf _ z).2.2.2.2.1 x c q rfl)]; exact I.freeC x c q
  · obtain ⟨q, n, ne, nf, d⟩ := I.pin p hp
    have hp' : p ∈ X.pn := by
      have : p ∈ X.pn ++ ([] : List (Addr × Obj)) := hp
      simpa using this
    have nch : p.1 ∉ ch := fun z => (hf p.1 z).2.2.2.2.2 p hp' rfl
    exact ⟨k p.1 p.2 nch (nosl p.1 ne nf) q, by rw [hH _ nch]; exact n, ne, nf, d⟩
theorem Inv.turnS {t' : Nat} {ch : List Addr} (I : Inv X [] σ H s) (hf : ∀ b ∈ ch, FpX X H b) (k : ∀ b u, b ∉ ch → b ∉ frs X.stack → s.heap.get? b = some u → h'.get? b = some u)
    (k2 : ∀ b u, b ∉ ch → s.heap.get? b = some u → ∃ sl, h'.get? b = some { u with slots := sl }) : Inv X [] σ H { s with heap := h', toks := t' } := by
  have nch : ∀ b u, H b = some u → b ∉ ch := fun b u e z => by rw [(hf b z).1] at e; cases e
  have nst : ∀ b u, H b = some u → b ∉ frs X.stack := fun b u e z => by rw [I.stkFree b z] at e; cases e
  refine I.turnR hf k k2 (fun _ _ => rfl) fun b u e => ?_
  refine (I.hok b u e).stay (fun c v hc q => ?_) (fun _ q => q) fun _ _ q => q
  rcases hc with z | z
  · subst z; exact k _ v (nch _ u e) (nst _ u e) q
  · exact k c v (nch c _ z) (nst c _ z) q
theorem entry_ok {oe : Obj} {vs : Array Value} {head : Value} {hadNext : Bool} {Q : Unit → Shared → Prop} (hs : OnStk X) (hA : A.frames = some X.stack) (I : Inv X [] σ H s) (hp : FpX X H e)
    (he : s.heap.get? e = some oe) (hc : oe.cls = cls) (hdd : oe.dict = dd) (hd : oe.data = .fields vs) (hsz : 1 < vs.size)
    (k : ∀ h' T, Inv X [] σ H { s with heap := h' } → FpX X H T → FlT h' e T cls dd (rawInt X.env.locals) → Q () { s with heap := h' }) :
    wpAny M A (do let a ← frameOf X.env; let pl ← entryPlaceOf X.env.locals hadNext; let b ← EntryCells.newEntry head a .none (rawInt X.env.locals) .none pl; setField (.ref e) 1 b) Q E s := by
  have hs0 := hs
  obtain ⟨hst, hfr, _⟩ := hs
  have hl := I.stack
  rw [hst] at hl hA
  have hene : e ∉ frs X.stack := fun hm => by
    rcases List.mem_cons.mp (I.stkSub e hm) with z | z
    · exact hp.2.1 z
    · exact hp.2.2.1 z
  refine wpAny_bind (wpAny_frameOf_fun hA hl hfr fun h₁ hs₁ => ?_)
  refine wpAny_bind (wpAny_entryPlaceOf fun pl hpl => ?_)
  unfold EntryCells.newEntry newFields
  refine wpAny_bind (wpAny_newObj_type ?_ (hpl.sizeOk5 _ _ _ _ _))
  have S : (X.env :: X.outer).filterMap (·.frame) = frs X.stack := by rw [hst]; rfl
  rw [S] at hs₁
  have he₁ : h₁.get? e = some oe := (hs₁.2.1 e hene).trans he
  generalize hob : ({ cls := .type "traceback", dict := none, data := .fields ([head, .ref X.env.locals, .none, rawInt X.env.locals, .none] ++ (if pl.isEmpty then List.replicate 6 Value.none else pl)).toArray } : Obj) = ob
  have hobd : ob.data = .fields ([head, .ref X.env.locals, .none, rawInt X.env.locals, .none] ++ (if pl.isEmpty then List.replicate 6 Value.none else pl)).toArray := by rw [← hob]
  have he₂ := Heap.get?_push_of_some (h := h₁) ob he₁
  refine wpAny_setField he₂ hd hsz ?_
  have hTe : h₁.objs.size ≠ e := Nat.ne_of_gt (Heap.lt_size he₁)
  have hd₃ := Obj.data_mapFields hd (·.setIfInBounds 1 (Value.ref h₁.objs.size))
  have he₃ := Heap.get?_update_self (Obj.mapFields (·.setIfInBounds 1 (Value.ref h₁.objs.size))) he₂ (Obj.isFreed_of_fields hd₃)
  have hT₃ := (Heap.get?_update_other (h₁.push ob) (Obj.mapFields (·.setIfInBounds 1 (Value.ref h₁.objs.size))) (Ne.symm hTe)).trans (Heap.get?_push_size h₁ (by rw [← hob]; rfl))
  have kk : ∀ b o, b ≠ e → h₁.get? b = some o → ((h₁.push ob).update e (Obj.mapFields (·.setIfInBounds 1 (Value.ref h₁.objs.size)))).get? b = some o := fun b o hb q => by
    rw [Heap.get?_update_other _ _ (Ne.symm hb)]
    exact Heap.get?_push_of_some _ q
  refine k _ h₁.objs.size (I.turnS (t' := s.toks) (ch := [e]) (fun b hb => by rw [List.mem_singleton.mp hb]; exact hp) (fun b u hb hn q => ?_) fun b u hb q => ?_) (I.fpX hs0 (by rw [hs₁.1]; exact Heap.get?_none_of_le (Nat.le_refl _)) (I.hok.fresh (by rw [hs₁.1]; exact Nat.le_refl _))) ?_
  · exact kk b u (fun z => hb (by simp [z])) ((hs₁.2.1 b hn).trans q)
  · obtain ⟨sl, q'⟩ := hs₁.2.2 b u q
    exact ⟨sl, kk b _ (fun z => hb (by simp [z])) q'⟩
  · refine ⟨_, _, _, _, he₃, (Obj.cls_mapFields _ _).trans hc, ?_, hd₃, by simp [hsz], hTe, hT₃, hobd, by simp⟩
    rw [← hdd]
    obtain ⟨c9, d9, dt9, sl9⟩ := oe
    cases dt9 <;> rfl
theorem note_ok {Q : Unit → Shared → Prop} (hs : OnStk X) (hA : A.frames = some X.stack) (I : Inv X [] σ H s) (F : Fly X H s.heap e cls dd)
    (k : ∀ h' T, Inv X [] σ H { s with heap := h' } → FpX X H T → FlT h' e T cls dd (rawInt X.env.locals) → Q () { s with heap := h' }) : wpAny M A (noteFrame (.ref e) X.env) Q E s := by
  obtain ⟨hp, F⟩ := F
  unfold noteFrame
  simp only [hs.2.1]
  rcases F with ⟨oe, vs, he, hc, hdd, hd, h1⟩ | ⟨T, fl, hT, oe, vs, oT, ts, he, hc, hdd, hd, h1, hTe, hoT, hdT, h3⟩
  · refine wpAny_bind (wpAny_field he hd h1 ?_)
    rw [if_neg (by decide)]
    exact entry_ok hs hA I hp he hc hdd hd (Array.getElem?_eq_some_iff.mp h1).1 k
  · refine wpAny_bind (wpAny_field he hd h1 ?_)
    rw [if_pos (show (Value.ref T != Value.none) = true from by simp)]
    refine wpAny_bind (wpAny_field hoT hdT h3 ?_)
    by_cases hfl : (fl == rawInt X.env.locals) = true
    · rw [if_pos hfl]
      have := k s.heap T I hT ⟨oe, vs, oT, ts, he, hc, hdd, hd, h1, hTe, hoT, hdT, by rw [h3, beq_iff_eq.mp hfl]⟩
      exact wpAny_pure this
    · rw [if_neg hfl]
      refine wpAny_bind (wpAny_setField hoT hdT (Array.getElem?_eq_some_iff.mp h3).1 ?_)
      have other : ∀ b, b ≠ T → (s.heap.update T (Obj.mapFields (·.setIfInBounds 3 Value.none))).get? b = s.heap.get? b := fun b hb => Heap.get?_update_other _ _ (Ne.symm hb)
      have I2 : Inv X [] σ H { s with heap := s.heap.update T (Obj.mapFields (·.setIfInBounds 3 Value.none)) } :=
        I.turnS (t' := s.toks) (ch := [T]) (fun b hb => by rw [List.mem_singleton.mp hb]; exact hT) (fun b u hb _ q => (other b (fun z => hb (by simp [z]))).trans q) fun b u hb q => ⟨u.slots, (other b (fun z => hb (by simp [z]))).trans q⟩
      exact entry_ok hs hA I2 hp ((other e (Ne.symm hTe)).trans he) hc hdd hd (Array.getElem?_eq_some_iff.mp h1).1 k
theorem flight_ok {Q : Unit → Shared → Prop} (fr : Option Addr) (I : Inv X [] σ H s) (hT : FpX X H T) (F : FlT s.heap e T cls dd fl)
    (k : ∀ h', Inv X [] σ H { s with heap := h' } → FlT h' e T cls dd (fr.elim .none fun f => rawInt f) → Q () { s with heap := h' }) : wpAny M A (setFlight (.ref e) fr) Q E s := by
  obtain ⟨oe, vs, oT, ts, he, hc, hdd, hd, h1, hTe, hoT, hdT, h3⟩ := F
  have hsz3 : 3 < ts.size := (Array.getElem?_eq_some_iff.mp h3).1
  have other : ∀ b, b ≠ T → (s.heap.update T (Obj.mapFields (·.setIfInBounds 3 (fr.elim .none fun f => rawInt f)))).get? b = s.heap.get? b := fun b hb => Heap.get?_update_other _ _ (Ne.symm hb)
  unfold setFlight
  refine wpAny_bind (wpAny_field he hd h1 ?_)
  rw [if_pos (show (Value.ref T != Value.none) = true from by simp)]
  refine wpAny_setField hoT hdT hsz3 (k _ ?_ ?_)
  · exact I.turnS (t' := s.toks) (ch := [T]) (fun b hb => by rw [List.mem_singleton.mp hb]; exact hT) (fun b u hb _ q => (other b (fun z => hb (by simp [z]))).trans q) fun b u hb q => ⟨u.slots, (other b (fun z => hb (by simp [z]))).trans q⟩
  · exact ⟨oe, vs, _, _, (other e (Ne.symm hTe)).trans he, hc, hdd, hd, h1, hTe, Heap.get?_update_self _ hoT (Obj.isFreed_of_fields (Obj.data_mapFields hdT _)), Obj.data_mapFields hdT _, by simp [hsz3]⟩
end
def CX1 (P : Program) (w : World) : CXT := fun outer H s E ev s' => ∃ e T cls dd H', ev = .ref e ∧ s'.os = s.os ∧ AllBare s'.gens ∧ Un (frs outer) [] H H' s.heap s'.heap ∧ HOk P w H' s'.heap ∧ FlT s'.heap e T cls dd .none ∧ H' e = none ∧ H' T = none ∧
  s.heap.get? e = none ∧ s.heap.get? T = none ∧ E cls dd H'
theorem CX1.xe {X : Cx} {W : XW} {pins : List (Addr × Obj)} {σ : St} {H : Hp} {s s' : Shared} {ev : Value} (hs : OnStk X) (I : Inv X pins σ H s) (h : CX1 X.prog X.w X.stack H s (fun c d H' => W c d σ H') ev s') : XE X W ev s' := by
  obtain ⟨e, T, cls, dd, H', rfl, os, bare, un, hok, F, he, hT, le, lT, q⟩ := h
  have J : Inv X [] σ H s := I.pins_of (by simp)
  have J' : Inv X [] σ H' s' := by
    obtain ⟨hh, g, d, t, os'⟩ := s'
    obtain rfl : os' = s.os := os
    exact J.call (h' := hh) (g' := g) (d' := d) (t' := t) (ch := []) un hok bare (fun b z => absurd z (by simp))
  exact ⟨e, cls, dd, σ, H', rfl, J', ⟨J.fpX hs le he, .inr ⟨T, _, J.fpX hs lT hT, F⟩⟩, q⟩
theorem xe_out {P : Program} {w : World} {K : PySem.W.Frag} {mg : Str → Option Value} {base : Heap} {N : List Str} {qual : Str} {scope : Scope} {f : Addr} {cd : Value} {A : Around} {outer : List Env} {s : Shared} {H : Hp} {E : XK} {ev : Value} {s' : Shared}
    (h : XE (cxOf (CX1 P w) P w K mg base N qual scope f cd A outer s H E) (fun c d _ H' => E c d H') ev s') : (cxOf (CX1 P w) P w K mg base N qual scope f cd A outer s H E).xe ev s' := by
  obtain ⟨e, cls, dd, σ, H', rfl, I, F, q⟩ := h
  show wpAny _ _ (leaving _ _) _ _ _
  unfold leaving
  refine wpAny_bind (note_ok (X := cxOf (CX1 P w) P w K mg base N qual scope f cd A outer s H E) ⟨rfl, rfl, rfl⟩ I.ok.frames I F fun h1 T I1 hT F1 => ?_)
  refine flight_ok none I1 hT F1 fun h2 I2 F2 => ?_
  exact ⟨e, T, cls, dd, H', rfl, I2.os, I2.bare, I2.base, I2.hok, F2, F.1.1, hT.1, F.1.2.2.2.1, hT.2.2.2.1, q⟩
def Wants (X : Cx) (W : XW) : Prop := OnStk X ∧ ∀ ev s, XE X W ev s → X.xe ev s
theorem XE.unwish {X : Cx} {E : Value → Shared → Prop} {W : XW} {ev : Value} {s : Shared} (h : XE (X.wish E) W ev s) : XE X W ev s :=
  let ⟨e, cls, dd, σ, H, q, I, F, w⟩ := h; ⟨e, cls, dd, σ, H, q, I.unwish, F, w⟩
theorem XE.wish {X : Cx} {E : Value → Shared → Prop} {W : XW} {ev : Value} {s : Shared} (h : XE X W ev s) : XE (X.wish E) W ev s :=
  let ⟨e, cls, dd, σ, H, q, I, F, w⟩ := h; ⟨e, cls, dd, σ, H, q, I.wish _, F, w⟩
theorem wants_wish {X : Cx} {W : XW} (hs : OnStk X) : Wants (X.wish (XE X W)) W := ⟨hs, fun _ _ h => h.unwish⟩
theorem PSs.imp {X : Cx} {E : Value → Shared → Prop} {st : List Stmt} {t : TS} (hE : ∀ ev s, E ev s → X.xe ev s) (h : PSs (X.wish E) st t) : PSs X st t := fun pins s σ H D I hw =>
  wpAny_mono (h pins s σ H D (I.wish _) hw) (fun _ _ q => q.unwish) fun e s z => hE e s z
section
variable {P : Program} {w : World} {K : PySem.W.Frag} {mg : Str → Option Value} {base : Heap}
abbrev bx (P : Program) (w : World) (K : PySem.W.Frag) (mg : Str → Option Value) (base : Heap) (N : List Str) (qual : Str) (scope : Scope) (f : Addr) (cd : Value) (A : Around) (outer : List Env) (s : Shared) (H : Hp) (E : XK) : Cx :=
  (cxOf (CX1 P w) P w K mg base N qual scope f cd A outer s H E).wish (XE (cxOf (CX1 P w) P w K mg base N qual scope f cd A outer s H E) (fun c d _ H' => E c d H'))
theorem Fun.okX {x qual : Str} {st : Stmt} {f : Addr} {fd : FuncData} {N ps : List Str} {k : Nat} {sp : Sp} (F : Fun K x qual st f fd) (S : FnScope N ps (defScope st)) (len : ∀ vs H Q E, sp vs H Q E → vs.length = ps.length)
    (hbody : ∀ (cdv : Value) (A : Around) (outer : List Env) (s : Shared) (H : Hp) (vs : List V) (Q : VK) (E : XK), Room k (A.deeper (envOfC qual (defScope st) s.heap.objs.size f cdv)) → sp vs H Q E →
      ∃ t, PSs (bx P w K mg base N qual (defScope st) f cdv A outer s H E) (defBody st) t ∧ t { nx := fun _ H' => Q .non H', rt := Q } (start N vs) H) : FnOk P w K mg base (CX1 P w) (k + 1) f fd ps sp := by
  obtain ⟨oc, od, kV, doc, pm, an, cdv, ct, osl, rfl, lk, hcd⟩ := F.ex
  refine fn_of lk hcd S len fun A outer s H vs Q E hr hsp => ?_
  obtain ⟨t, h, q⟩ := hbody cdv A outer s H vs Q E hr hsp
  exact ⟨t, h.imp fun _ _ z => xe_out z, q⟩
theorem FunD.okX {x qual : Str} {st : Stmt} {dV : Value} {f : Addr} {fd : FuncData} {N ps : List Str} {k : Nat} {sp : Sp} (F : FunD K x qual st dV f fd) (S : FnScope N ps (defScope st)) (len : ∀ vs H Q E, sp vs H Q E → vs.length = ps.length)
    (hbody : ∀ (cdv : Value) (A : Around) (outer : List Env) (s : Shared) (H : Hp) (vs : List V) (Q : VK) (E : XK), Room k (A.deeper (envOfC qual (defScope st) s.heap.objs.size f cdv)) → sp vs H Q E →
      ∃ t, PSs (bx P w K mg base N qual (defScope st) f cdv A outer s H E) (defBody st) t ∧ t { nx := fun _ H' => Q .non H', rt := Q } (start N vs) H) : FnOk P w K mg base (CX1 P w) (k + 1) f fd ps sp := by
  obtain ⟨oc, od, kV, doc, pm, an, cdv, ct, osl, rfl, lk, hcd⟩ := F.ex
  refine fn_of lk hcd S len fun A outer s H vs Q E hr hsp => ?_
  obtain ⟨t, h, q⟩ := hbody cdv A outer s H vs Q E hr hsp
  exact ⟨t, h.imp fun _ _ z => xe_out z, q⟩
end
def DefX (P : Program) (w : World) (K : PySem.W.Frag) (mg : Str → Option Value) (base : Heap) (k : Nat) (x : Str) (ps : List Str) (ds : List Value) (sp : Sp) : Prop :=
  ∃ f fd, FnOk P w K mg base (CX1 P w) k f fd ps sp ∧ mg x = some (.ref f) ∧ PySem.W.keepIn K (.ref f) = true ∧ Binds K fd ps ds
def MetX (P : Program) (w : World) (K : PySem.W.Frag) (mg : Str → Option Value) (base : Heap) (C : Addr) (k : Nat) (m : Str) (ps : List Str) (ds : List Value) (sp : Sp) : Prop :=
  ∃ f fd, FnOk P w K mg base (CX1 P w) k f fd ps sp ∧ Meth K C m f ∧ Binds K fd ps ds
def tCallX (sp : Sp) (dvs : List V) (W : XW) (t : TA) : TE := fun σ H Q => t σ H fun vs H1 => sp (vs ++ dvs) H1 Q fun c d H' => W c d σ H'
def tMethX (C : Addr) (m : Str) (sp : Sp) (dvs : List V) (W : XW) (ta : TE) (t : TA) : TE := fun σ H Q => ta σ H fun x H1 => ∃ a dx fs, x = .ref a ∧ H1 a = some (.ins C dx fs) ∧ fs.lookup m = none ∧
  t σ H1 fun vs H2 => sp (x :: (vs ++ dvs)) H2 Q fun c d H' => W c d σ H'
section
variable {X : Cx} {W : XW} {k : Nat} {f C : Addr} {fd : FuncData} {ps : List Str} {sp : Sp} {dvs : List V} {ds : List Value} {x m : Str} {p pos apos : Pos} {e o : Expr} {es : List Expr} {ta : TE} {t : TA}
theorem run_fnX {pins : List (Addr × Obj)} {σ : St} {H : Hp} {s : Shared} {Q : VK} {us : List Value} {vs : List V} (hW : Wants X W) (F : FnOk X.prog X.w X.K X.mg X.base (CX1 X.prog X.w) k f fd ps sp) (hr : Room k X.A) (hb : Binds X.K fd ps ds) (hd : Vals dvs ds)
    (I : Inv X pins σ H s) (r : Vals vs us) (h : sp (vs ++ dvs) H Q fun c d H' => W c d σ H') : wpAny (model X.prog X.w) X.A (call (.ref f) us) (EP X pins σ Q) X.xe s := by
  have r2 : Vals (vs ++ dvs) (us ++ ds) := r.append hd
  have hl : (us ++ ds).length = ps.length := by rw [← r2.length]; exact F.len _ _ _ _ h
  refine wpAny_call (codeAny_mono (F.run X.A X.stack s H ⟨us, []⟩ (us ++ ds) (vs ++ dvs) Q _ hr I.env0 (hb s us I.kIn hl) r2 h) fun r s' hq => ?_)
  cases r with
  | error e => exact hW.2 _ _ (CX1.xe hW.1 I hq)
  | ok fl =>
    cases fl with
    | ret u => exact I.after hq
    | next => exact False.elim hq
    | brk => exact False.elim hq
    | cont => exact False.elim hq
theorem pe_fnX (hW : Wants X W) (D : DefX X.prog X.w X.K X.mg X.base k x ps ds sp) (hr : Room k X.A) (hg : Gl X x) (hd : Vals dvs ds) (ha : PA X (e :: es) t) (hdb : (x == ("__debug__" : Str)) = false := by decide)
    (he : starEach (e :: es) X.env = (false, eval e X.env) :: starEach es X.env := by rfl) (hpl : (backTo pos (starEach es X.env)).any (·.1) = false := by rfl) : PE X (.Call (.Name x p) (e :: es) [] pos) (tCallX sp dvs W t) := by
  obtain ⟨f, fd, F, hm, hk, hb⟩ := D
  intro pins s σ H Q I h
  refine wpAny_Call_Name_kw (ld_glob I hg hm ?_ hdb)
  refine PySem.W.callWith_K (h₀ := X.base) I.ok.mod.kin hk (thn (ha pos pins s σ H _ I h) fun us s1 ⟨vs, H1, I1, r, q⟩ => ⟨I1.kIn, ?_⟩) he hpl
  exact run_fnX hW F hr hb hd I1 r q
theorem pe_mtX {pl : Sem Bool} (hW : Wants X W) (he : PE X o ta) (c : Cls X.K C) (D : MetX X.prog X.w X.K X.mg X.base C k m ps ds sp) (hr : Room k X.A) (hd : Vals dvs ds) (ha : PA X (e :: es) t)
    (hst : starEach (e :: es) X.env = (false, eval e X.env) :: starEach es X.env := by rfl) (hpl : (backTo pos (starEach es X.env)).any (·.1) = false := by rfl)
    (ht : eval (.Call (.Attribute o m apos) (e :: es) [] pos) X.env = (do
      let ov ← eval o X.env
      standAt apos.atName
      let (f, first) ← holding [ov] (getMethod ov m pl)
      callWith pos f first (backTo pos (starEach (e :: es) X.env)) (backToKw pos (keywordEach [] X.env))) := by rfl) :
    PE X (.Call (.Attribute o m apos) (e :: es) [] pos) (tMethX C m sp dvs W ta t) := by
  obtain ⟨f, fd, F, hm, hb⟩ := D
  intro pins s σ H Q I h
  refine PySem.W.methodCall_KW (pl := pl) (thn (he pins s σ H _ I h) fun u s1 hq__ => ?_) ht
  obtain ⟨x, H1, I1, rx, a, dx, fs, ex, ea, l, q⟩ := hq__
  subst ex
  obtain rfl : u = Value.ref a := rx
  refine getmeth_ok I1 ea c hm l ?_
  refine PySem.W.callWith_K (first := [.ref a]) (h₀ := X.base) I.ok.mod.kin hm.kp (thn (ha pos pins s1 σ H1 _ I1 q) fun us s2 ⟨vs, H2, I2, r, q2⟩ => ⟨I2.kIn, ?_⟩) hst hpl
  exact run_fnX (us := .ref a :: us) (vs := .ref a :: vs) hW F hr hb hd I2 (.cons rfl r) q2
end
def veMro : List Value := [.type "ValueError", .type "Exception", .type "BaseException", .type "object"]
def ExcC (K : PySem.W.Frag) (C : Addr) : Prop := PySem.W.excIn K C veMro "ValueError.__new__" = true
theorem exc_at {K : PySem.W.Frag} {h : Heap} {C : Addr} {bmB : List Value} {newId : String} (X : K.In h) (q : PySem.W.excIn K C bmB newId = true) :
    ∃ bm N nm qn bs hd sn sub ab col dd k0 k1 k2 k3 k5 mN, h.get? C = some (excClassObj nm qn C N bs bm hd sn sub ab col dd k0 k1 k2 k3 k5 newId) ∧ h.Ns N mN ∧ mN "__init__" = none ∧ OwnTail h bmB bm := by
  unfold PySem.W.excIn at q
  split at q
  case h_2 => cases q
  case h_1 dd cd sl ho =>
    split at q
    case h_2 => cases q
    case h_1 C' bm k0 k1 k2 k3 n k5 hm hsl =>
      simp only [Bool.and_eq_true, beq_iff_eq, Bool.not_eq_true'] at q
      obtain ⟨⟨⟨⟨⟨q1, q2⟩, q3⟩, q4⟩, q5⟩, q6⟩ := q
      subst q1 q2
      cases cd with
      | mk nm bs mro ns qn hd sn sub ab col del =>
        cases sl with
        | mk l =>
          have hm' : mro = _ := hm
          have hl' : l = _ := hsl
          have q3' : del = false := q3
          subst hm' hl' q3'
          exact ⟨bm, ns, nm, qn, bs, hd, sn, sub, ab, col, dd, k0, k1, k2, k3, k5, _, X _ _ ho, .of_isNs (PySem.W.isNs_of_in X q5), PySem.W.nsMap_none_of_in X q5 q6, PySem.W.tail_of_in X q4⟩
def tRaise (W : XW) (C : Addr) (t : TA) : TS := fun _ σ H => t σ H fun vs H1 => vs.length ≤ sizeLine ∧ W (.ref C) none σ H1
theorem ns_bk {h h' : Heap} {N : Addr} {m : Str → Option Value} (k : ∀ b o, h.get? b = some o → h'.get? b = some o) (n : h.Ns N m) : h'.Ns N m :=
  let ⟨o, es, ep, e, r⟩ := n; ⟨o, es, ep, k _ _ e, r⟩
theorem ps_raise {X : Cx} {W : XW} {C : Addr} {x : Str} {np cpos pos : Pos} {e : Expr} {es : List Expr} {t : TA} (hW : Wants X W) (hc : X.calm = true) (hE : ExcC X.K C) (hg : Gl X x) (hm : X.mg x = some (.ref C)) (ha : PA X (e :: es) t)
    (hdb : (x == ("__debug__" : Str)) = false := by decide) (he : starEach (e :: es) X.env = (false, eval e X.env) :: starEach es X.env := by rfl) (hpl : (backTo cpos (starEach es X.env)).any (·.1) = false := by rfl) :
    PS X (.Raise (some (.Call (.Name x np) (e :: es) [] cpos)) none pos) (tRaise W C t) := by
  intro pins s σ H D I h
  obtain ⟨bm, N, nm, qn, bs, hd, sn, sub, ab, col, dd, k0, k1, k2, k3, k5, mN, hC, hN, hni, hT⟩ := exc_at I.ok.mod.kin hE
  refine wpAny_Raise_call_subU PySem.F.excBase_ValueError (by decide +kernel) PySem.F.excBase_ValueError (C := C) (nm := nm) (q := qn) (N := N) (bs := bs) (hdct := hd) (sn := sn) (sub := sub) (ab := ab) (col := col) (dd := dd) (k0 := k0) (k1 := k1) (k2 := k2) (k3 := k3) (k5 := k5) (hT.hasType (by decide +kernel)) (I.ok.hd hc) (by rw [he]; show (false || (backTo cpos (starEach es X.env)).any (·.1)) = false; rw [hpl]; rfl) hni (ld_glob I hg hm ⟨rfl, ?_⟩ hdb)
  have h2 := ha cpos pins s σ H _ I h
  rw [he] at h2 ⊢
  refine Calls.evalArgs_plain (thn h2 fun us s1 ⟨vs, H1, I1, r, q1, q2⟩ => ⟨rfl, by rw [← r.length]; exact q1, I1.bk _ _ hC, ns_bk I1.bk hN, hT.keeps I1.bk, fun h' ex hx => hW.2 _ _ ?_⟩)
  obtain ⟨tt, hex, _, _⟩ := hx.there
  have J : Inv X [] σ H1 s1 := I1.pins_of (by simp)
  exact ⟨ex, .ref C, none, σ, H1, rfl, J.kept (t' := s1.toks) hx.keeps, ⟨J.fpX hW.1 hx.new (J.noneOf hx.new), .inl ⟨_, _, hex, rfl, rfl, rfl, rfl⟩⟩, q2⟩
end L2
namespace L2
open PySem PySem.Spec PyProof.Rows
def excO (a : Addr) (cls : Value) (dd : Option Addr) : HO := .ext fun h => ∃ oe vs, h.get? a = some oe ∧ oe.cls = cls ∧ oe.dict = dd ∧ oe.data = .fields vs
section
variable {X : Cx} {pins : List (Addr × Obj)} {σ : St} {H : Hp} {s : Shared} {e : Addr}
theorem Inv.gone {h' : Heap} {t' : Nat} {n : Str} {j : Nat} {m : Str → Option Value} {v : Option Value} (I : Inv X pins σ H s) (hN : X.N.Nodup) (hj : X.N[j]? = some n) (hm : s.heap.Ns X.env.locals m)
    (hl : ∀ (i : Nat) (x : Str) (v : V), X.N[i]? = some x → σ[i]? = some (some v) → Vis X.env.scope x → ∃ u, RelV v u ∧ Look X.env s.heap m x u)
    (hn : h'.Ns X.env.locals (fun x => if x = n then v else m x)) (hs : Heap.SameBut X.env.locals s.heap h') : Inv X pins (σ.set j none) H { s with heap := h', toks := t' } := by
  have ne0 : ∀ b o, X.s₀.heap.get? b = some o → b ≠ X.env.locals := fun b o q => Nat.ne_of_lt (Nat.lt_of_lt_of_le (Heap.lt_size q) I.ok.above)
  refine ⟨I.ok, I.os, I.bare, ⟨fun b o q n hb hx => ?_, fun b o q n hb hx => ?_, I.base.free, fun b o q hx => ?_, I.base.tups, I.base.frzs, I.base.tbls⟩, ⟨_, hn, fun i y v' e1 e2 e3 => ?_⟩, fun y c q => ?_, I.free, I.freeC, fun p hp => ?_, fun b u q => ?_, by simpa using I.len⟩
  · exact (hs.2 b (ne0 b o q)).trans (I.base.keep b o q n hb hx)
  · obtain ⟨sl, e1⟩ := I.base.slot b o q n hb hx
    exact ⟨sl, (hs.2 b (ne0 b o q)).trans e1⟩
  · obtain ⟨o', e1⟩ := I.base.there b o q hx
    exact ⟨o', (hs.2 b (ne0 b o q)).trans e1⟩
  · by_cases hij : i = j
    · subst hij
      have hi : i < σ.length := by rw [I.len]; exact (List.getElem?_eq_some_iff.mp hj).1
      rw [List.getElem?_set_self hi] at e2
      cases e2
    · rw [List.getElem?_set_ne (Ne.symm hij)] at e2
      obtain ⟨u', r', q⟩ := hl i y v' e1 e2 e3
      refine ⟨u', r', ?_⟩
      rcases q with ⟨k, q⟩ | ⟨k, c, q, z⟩
      · have ny : y ≠ n := fun z => hij (nodup_ix hN e1 (z ▸ hj))
        exact .inl ⟨k, by simp [ny, q]⟩
      · exact .inr ⟨k, c, q, z.sameBut hs (I.cne y c q)⟩
  · obtain ⟨w', z⟩ := I.cell y c q
    exact ⟨w', z.sameBut hs (I.cne y c q)⟩
  · obtain ⟨q, n, ne, nf, d⟩ := I.pin p hp
    exact ⟨(hs.2 p.1 ne).trans q, n, ne, nf, d⟩
  · refine (I.hok b u q).stay (fun c w' hc q' => (hs.2 c ?_).trans q') (fun _ q => q) fun _ _ q => q
    rintro rfl
    rcases hc with z | z
    · rw [← z, I.free] at q; cases q
    · rw [I.free] at z; cases z
end
def Hits (K : PySem.W.Frag) (C : Addr) (cls : Value) : Prop := ∃ D, cls = .ref D ∧ PySem.W.ktsIn K D "BaseException" = true ∧ PySem.W.mroIn K D (.ref C) = some true
def hEnds (D : Ends) (j : Nat) : Ends := { nx := fun σ H => D.nx (σ.set j none) H, rt := D.rt, bk := fun σ H => D.bk (σ.set j none) H, ct := fun σ H => D.ct (σ.set j none) H }
def hW (K : PySem.W.Frag) (C : Addr) (th : TS) (j : Nat) (D : Ends) : XW := fun cls dd σ H => Hits K C cls ∧ ∀ e H', New H H' e (excO e cls dd) → th (hEnds D j) (σ.set j (some (.ref e))) H'
end L2
namespace L2
open PySem PySem.Spec PyProof.Rows
structure ExcK (K : PySem.W.Frag) (D : Addr) : Prop where
  ga : PySem.W.findIn K (.ref D) "__getattribute__" = some (some (.builtin "BaseException.__getattribute__"))
  gt : PySem.W.findIn K (.ref D) "__getattr__" = some none
  cl : PySem.W.findIn K (.ref D) "__class__" = some (some (.builtin "object.__class__"))
  ob : PySem.W.mroIn K D (.type "object") = some true
  be : PySem.W.mroIn K D (.type "BaseException") = some true
  kt : PySem.W.ktsIn K D "BaseException" = true
section
variable {prog : Program} {w : World} {A : Around} {E : Value → Shared → Prop} {s : Shared} {K : PySem.W.Frag} {a D : Addr} {oe : Obj} {vs : Array Value}
end
end L2
namespace L2
open PySem PySem.Spec PyProof.Rows
section
variable {X : Cx}
theorem call_maxL (hc : X.calm = true) : CallR X (.builtin "max") (fun xs H Q => ∃ (p : Addr) (ns : List Int), xs = [.ref p] ∧ SqL X.K H p (ns.map V.int) ∧ 0 < ns.length ∧ ∀ m, m ∈ ns → (∀ a ∈ ns, a ≤ m) → Q (.int m) H) := by
  intro pins s σ H xs us Q I r h
  obtain ⟨p, ns, rfl, hq, hne, q⟩ := h
  obtain ⟨u, rfl, ru⟩ := vals1 r
  cases (show u = Value.ref p from ru)
  obtain ⟨its, rv, pl, hz⟩ := I.list hq
  have hi : IntsAre its ns := L2.intsAre_of rv
  obtain ⟨ys, e⟩ := hi.allInts.items
  have hns : ns = ys.toList.map (·.1) := by rw [← hi.numsOf, ← nums_intItems, ← e]
  have hl := pl.isList
  rw [e] at hl
  have hsz : 0 < ys.size := by have h3 := hne; rw [hns, List.length_map, Array.length_toList] at h3; exact h3
  refine max_intList (I.ok.hd hc) hl hsz fun v h' tk hv hk => ?_
  obtain ⟨t, rfl⟩ := intItems_at hv
  obtain ⟨h1, h2⟩ := argBest_gt (numAt ys) (ys.size - 1)
  refine ⟨.int _, H, I.kept hk, ⟨t, rfl⟩, q _ ?_ fun a ha => ?_⟩
  · rw [hns, numAt_eq]; exact getD_mem (by rw [List.length_map, Array.length_toList]; omega)
  · rw [hns] at ha
    obtain ⟨j, hj, rfl⟩ := mem_getD ha
    rw [List.length_map, Array.length_toList] at hj
    rw [← numAt_eq]; exact h2 j (by omega)
theorem call_minL (hc : X.calm = true) : CallR X (.builtin "min") (fun xs H Q => ∃ (p : Addr) (ns : List Int), xs = [.ref p] ∧ SqL X.K H p (ns.map V.int) ∧ 0 < ns.length ∧ ∀ m, m ∈ ns → (∀ a ∈ ns, m ≤ a) → Q (.int m) H) := by
  intro pins s σ H xs us Q I r h
  obtain ⟨p, ns, rfl, hq, hne, q⟩ := h
  obtain ⟨u, rfl, ru⟩ := vals1 r
  cases (show u = Value.ref p from ru)
  obtain ⟨its, rv, pl, hz⟩ := I.list hq
  have hi : IntsAre its ns := L2.intsAre_of rv
  obtain ⟨ys, e⟩ := hi.allInts.items
  have hns : ns = ys.toList.map (·.1) := by rw [← hi.numsOf, ← nums_intItems, ← e]
  have hl := pl.isList
  rw [e] at hl
  have hsz : 0 < ys.size := by have h3 := hne; rw [hns, List.length_map, Array.length_toList] at h3; exact h3
  refine min_intList (I.ok.hd hc) hl hsz fun v h' tk hv hk => ?_
  obtain ⟨t, rfl⟩ := intItems_at hv
  obtain ⟨h1, h2⟩ := argBest_lt (numAt ys) (ys.size - 1)
  refine ⟨.int _, H, I.kept hk, ⟨t, rfl⟩, q _ ?_ fun a ha => ?_⟩
  · rw [hns, numAt_eq]; exact getD_mem (by rw [List.length_map, Array.length_toList]; omega)
  · rw [hns] at ha
    obtain ⟨j, hj, rfl⟩ := mem_getD ha
    rw [List.length_map, Array.length_toList] at hj
    rw [← numAt_eq]; exact h2 j (by omega)
end
theorem bt_max : bootBuiltins "max" = some (.builtin "max") := by decide +kernel
theorem bt_min : bootBuiltins "min" = some (.builtin "min") := by decide +kernel
theorem bt_sorted : bootBuiltins "sorted" = some (.builtin "sorted") := by decide +kernel
theorem wants_nox {X : Cx} (hs : OnStk X) : Wants X.nox (fun _ _ _ _ => False) := ⟨hs, fun _ _ ⟨_, _, _, _, _, _, _, _, w⟩ => w⟩
end L2
namespace L2
open PySem PySem.Spec PyProof.Rows
theorem up_same {H H' : Hp} {a : Addr} {o : HO} (s : Same H H') (h : H a = some o) : H' a = some o := s _ _ h
theorem up_new {H H' : Hp} {p a : Addr} {u o : HO} (n : New H H' p u) (h : H a = some o) : H' a = some o := n.same _ _ h
theorem same_by {H H1 H2 : Hp} {p : Addr} {u : HO} (a : Same H H1) (n : New H1 H2 p u) : Same H H2 := a.trans n.same
end L2
namespace L2
open PySem PySem.Spec PyProof.Rows
section
variable {X : Cx} {e e1 : Expr} {te t1 : TE} {pos p2 : Pos}
end
def tCut (J : St → Hp → Prop) (t u : TS) : TS := fun D σ H => t { D with nx := J } σ H ∧ ∀ σ' H', J σ' H' → u D σ' H'
theorem pss_cut {X : Cx} {st : Stmt} {rest : List Stmt} {t u : TS} (J : St → Hp → Prop) (h1 : PS X st t) (h2 : PSs X rest u) : PSs X (st :: rest) (tCut J t u) := by
  intro pins s σ H D I h
  refine wpAny_execs_cons (thn (h1 pins s σ H { D with nx := J } I h.1) fun f s1 q => ?_)
  cases f with
  | next =>
    obtain ⟨σ', H', I', q⟩ := q
    exact h2 pins s1 σ' H' D I' (h.2 σ' H' q)
  | ret v => exact q
  | brk => exact q
  | cont => exact q
end L2
namespace L2
open PySem PySem.Spec PyProof.Rows
section
variable {prog : Program} {w : World} {A : Around} {R : Result → Shared → Prop} {I : Addr} {fp wr : List Addr} {n : Nat} {P : Nat → Value → Prop} {St : Nat → Heap → Prop} {d : Value}
end
section
variable {X : Cx}
theorem boolsAre_of : ∀ {bs : List Bool} {us : List Value}, Vals (bs.map V.bl) us → us = bs.map Value.bool
  | [], _, .nil => rfl
  | b :: r, _, .cons h t => by cases (show _ = Value.bool b from h); rw [boolsAre_of t]; rfl
theorem call_all (hc : X.calm = true) : CallR X (.builtin "all") (fun xs H Q => ∃ (p : Addr) (bs : List Bool), xs = [.ref p] ∧ SqL X.K H p (bs.map V.bl) ∧ Q (.bl (bs.all id)) H) := by
  intro pins s σ H xs us Q I r h
  obtain ⟨p, bs, rfl, hq, q⟩ := h
  obtain ⟨u, rfl, ru⟩ := vals1 r
  cases (show u = Value.ref p from ru)
  obtain ⟨its, rv, pl, hz⟩ := I.list hq
  have hl := pl.isList
  have hlt : p < s.heap.objs.size := by obtain ⟨_, e, _⟩ := hl; exact Heap.lt_size e
  have hb := boolsAre_of rv
  refine call_all_walk (wpAny_pyIter_list hl ?_)
  refine ⟨s.heap.objs.size, [s.heap.objs.size, p], [s.heap.objs.size], its.toArray.size, _, _, fun i => (bs[i]?).getD true, rfl, Walks.list (A := X.A.in1) (I.ok.hd hc) _ p (Nat.ne_of_lt hlt) its.toArray,
    ⟨⟨_, Heap.get?_push_size _ rfl, rfl, rfl⟩, hl.push _⟩, fun i v s' Q' E' hP hQ => ?_, fun h' tk hk => ?_⟩
  · rw [hb] at hP
    have hP' : (bs.map Value.bool)[i]? = some v := by simpa using hP
    rw [List.getElem?_map] at hP'
    obtain ⟨b, e1, e2⟩ := Option.map_eq_some_iff.mp hP'
    subst e2
    simp only [e1, Option.getD_some] at hQ
    exact wpAny_truthy_bool hQ
  · have e : ((List.range its.toArray.size).all fun i => (bs[i]?).getD true) = bs.all id := by
      rw [List.size_toArray, hb, List.length_map]; exact PyProof.Rows.LSm.range_all bs
    rw [e]
    refine ⟨.bl _, H, I.kept fun b o q => hk b o (fun hm => ?_) (Heap.get?_push_of_some _ q), rfl, q⟩
    rw [List.mem_singleton.mp hm] at q
    exact absurd (Heap.lt_size q) (Nat.lt_irrefl _)
end
theorem bt_all : bootBuiltins "all" = some (.builtin "all") := by decide +kernel
end L2
namespace L2
open PySem PyProof PyProof.Rows
def Ite (K : PySem.W.Frag) (a : Addr) : It :=
  ⟨fun i H => ∃ xs x, SqL K H a xs ∧ xs[i]? = some x,
   fun i H v H' => ∃ p, v = .ref p ∧ H p = none ∧ ∀ xs x, SqL K H a xs → xs[i]? = some x → H' = upd H p (.tup [.int i, x]),
   fun i H => ∃ xs, SqL K H a xs ∧ xs.length ≤ i⟩
theorem n_ie : Value.type "list_iterator" ≠ Value.type "enumerate" := by decide
theorem turn_enum {P : Program} {w : World} {K : PySem.W.Frag} {elts : List Expr} {ek : Nat} {epos : Pos} (a z it : Addr) :
    Turn P w K (.Tuple elts ek epos) (Ite K a) [z, it] z (fun i h => (∃ old, IsEnum h z it i old) ∧ h.IsListIter it a i) where
  mem := by simp
  obj := fun i h st c hc => by
    obtain ⟨⟨old, hz⟩, ⟨o1, e1, c1, f1⟩⟩ := st
    simp only [List.mem_cons, List.not_mem_nil, or_false] at hc
    rcases hc with rfl | rfl
    · exact ⟨_, hz, fun v q => by have q' : Data.fields _ = Data.cell v := q; cases q'⟩
    · exact ⟨_, e1, fun v q => by rw [f1] at q; cases q⟩
  keep := fun i h h' st k => by
    obtain ⟨⟨old, hz⟩, h1⟩ := st
    exact ⟨⟨old, k z (by simp) _ hz⟩, h1.at fun o e => k it (by simp) o e⟩
  item := by
    intro X hP hw hK hc i pins s σ H E I hf st hg
    subst hP hw hK
    obtain ⟨xs, x, qa, hx⟩ := hg
    obtain ⟨⟨old, hz⟩, h1⟩ := st
    obtain ⟨itsA, rA, pA, zA⟩ := I.list qa
    obtain ⟨u, hu, ru⟩ := rA.get hx
    have dzi : z ≠ it := by
      obtain ⟨o1, e1, c1, f1⟩ := id h1
      exact (ne_cls e1 hz (by rw [c1]; exact n_ie)).symm
    refine wpAny_pyNext_enum_item hz h1 pA.isList (x := u) (by simpa using hu) dzi fun h' a1 a2 a3 a4 hk => ?_
    refine ⟨.ref s.heap.objs.size, rfl, wpAny_letOwnedTupleGo_enum a1 fun h'' hz'' sb => ?_⟩
    have lz : z < s.heap.objs.size := Heap.lt_size hz
    have nz : s.heap.objs.size ≠ z := Nat.ne_of_gt lz
    have k2 : ∀ c o, c ∉ [z, it] → s.heap.get? c = some o → h''.get? c = some o := fun c o hc e => by
      simp only [List.mem_cons, List.not_mem_nil, or_false, not_or] at hc
      exact sb.extBut _ _ hc.1 (hk c o hc.1 hc.2 e)
    have T2 := sb.extBut _ _ nz a3
    refine ⟨.ref s.heap.objs.size, upd H s.heap.objs.size (.tup [.int i, x]), I.turnedLaid (t' := s.toks + 1) (ch := [z, it]) hf k2 (Nat.le_refl _) ⟨by show 2 ≤ sizeLine; decide, [.int i s.toks, u], .cons ⟨_, rfl⟩ (.cons ru .nil), _, T2, rfl, _, rfl⟩, rfl, ⟨_, rfl, I.hok.fresh (Nat.le_refl _), fun xs' x' qa' hx' => ?_⟩, ⟨⟨u, by simpa using hz''⟩, a2.extBut sb.extBut dzi.symm⟩, fun b hb => ?_⟩
    · rw [I.list_inj qa' qa, hx] at hx'
      cases hx'; rfl
    · have e : b ≠ s.heap.objs.size := fun q => by
        have : ∃ o, s.heap.get? b = some o := by
          simp only [List.mem_cons, List.not_mem_nil, or_false] at hb
          obtain ⟨o1, e1, _⟩ := id h1
          rcases hb with rfl | rfl
          · exact ⟨_, hz⟩
          · exact ⟨_, e1⟩
        obtain ⟨o, e⟩ := this
        exact absurd (Heap.lt_size e) (by rw [q]; exact Nat.lt_irrefl _)
      rw [upd_ne e]
      exact (hf b hb).1
  done := by
    intro X hP hw hK hc i pins s σ H E I hf st hg
    subst hP hw hK
    obtain ⟨xs, qa, hx⟩ := hg
    obtain ⟨⟨old, hz⟩, h1⟩ := st
    obtain ⟨itsA, rA, pA, zA⟩ := I.list qa
    have lA := rA.length
    refine wpAny_pyNext_enum_end (I.ok.hd hc) hz h1 pA.isList (by simp; omega) fun h' hk => ⟨rfl, I.turnedL (t' := s.toks) (ch := [z, it]) hf fun c o hc e => ?_⟩
    simp only [List.mem_cons, List.not_mem_nil, or_false, not_or] at hc
    exact hk c o hc.2 e
  self := fun _ _ _ _ _ st h => wpAny_pyIter_enum st.1.choose_spec h
section
variable {X : Cx}
def iEnum (K : PySem.W.Frag) (ta : TA) : TI := fun σ H R => ta σ H fun vs H1 => ∃ a xs, vs = [.ref a] ∧ SqL K H1 a xs ∧ R (Ite K a) H1
theorem pi_enum {elts : List Expr} {ek : Nat} {epos : Pos} {e1 : Expr} {ta : TA} {p pos : Pos} (hg : Gl X "enumerate") (hm : X.mg "enumerate" = none) (ha : PA X [e1] ta)
    (hs : starEach [e1] X.env = [(false, eval e1 X.env)] := by rfl) :
    PI X (.Tuple elts ek epos) (.Call (.Name "enumerate" p) [e1] [] pos) (iEnum X.K ta) := by
  intro pins s σ H R I h
  refine Call_ (ld_blt I hg hm (show bootBuiltins "enumerate" = some (.type "enumerate") by decide +kernel) (PyProof.Rows.callWith_type1 (thn (ha pos pins s σ H _ I h) fun us s1 hq__ => ?_) hs rfl))
  obtain ⟨vs, H1, I1, r1, q1⟩ := hq__
  obtain ⟨a, xs, rfl, qa, q⟩ := q1
  obtain ⟨u, rfl, ru⟩ := vals1 r1
  cases (show u = Value.ref a from ru)
  obtain ⟨itsA, rA, pA, zA⟩ := I1.list qa
  refine call_enumerate_list pA.isList fun h' hz h1 hsz hk => wpAny_pyIter_enum hz ?_
  refine ⟨s1.heap.objs.size + 1, _, _, _, H1, rfl, I1.kept (t' := s1.toks) hk, turn_enum a _ s1.heap.objs.size, ⟨⟨_, hz⟩, h1⟩, fun c hc => ?_, q⟩
  have e : s1.heap.objs.size ≤ c := by
    simp only [List.mem_cons, List.not_mem_nil, or_false] at hc
    rcases hc with rfl | rfl
    · exact Nat.le_add_right _ _
    · exact Nat.le_refl _
  exact I1.fpOk e (I1.hok.fresh e)
end
theorem for_enumN {K : PySem.W.Frag} {a : Addr} {xs : List V} {g : TG} {tb : TS} {D : Ends} {σ : St} {H : Hp} (Pv : Nat → St → Hp → Prop) (h0 : Pv 0 σ H) (hl : ∀ i σ H, Pv i σ H → SqL K H a xs)
    (hs : ∀ (i : Nat) x σ H p H', xs[i]? = some x → New H H' p (.tup [.int i, x]) → Pv i σ H → g (.ref p) σ H' fun σ2 H2 => tb { D with nx := Pv (i + 1), ct := Pv (i + 1), bk := D.nx } σ2 H2)
    (hd : ∀ σ H, Pv xs.length σ H → D.nx σ H) :
    ∃ W : Nat → Nat → St → Hp → Prop, (∃ m, W 0 m σ H) ∧ ∀ i m σ H, W i m σ H →
      ((Ite K a).stop i H ∧ D.nx σ H) ∨ ((Ite K a).go i H ∧ ∃ N : St → Hp → Prop, (∀ σ' H', N σ' H' → ∃ m', m' < m ∧ W (i + 1) m' σ' H') ∧ ∀ x H', (Ite K a).yld i H x H' → g x σ H' fun σ2 H2 => tb { D with nx := N, ct := N, bk := D.nx } σ2 H2) := by
  refine ⟨fun i m σ H => m = xs.length - i ∧ i ≤ xs.length ∧ Pv i σ H, ⟨xs.length, by simp, Nat.zero_le _, h0⟩, ?_⟩
  rintro i m σ H ⟨rfl, hi, p⟩
  have qa := hl i σ H p
  by_cases hlt : i < xs.length
  · refine .inr ⟨⟨xs, xs[i], qa, by simp [hlt]⟩, Pv (i + 1), fun σ' H' p' => ⟨xs.length - (i + 1), by omega, rfl, hlt, p'⟩, fun x H' y => ?_⟩
    obtain ⟨t, rfl, ht, y⟩ := y
    have ea : xs[i]? = some xs[i] := by simp [hlt]
    rw [y xs xs[i] qa ea]
    exact hs i xs[i] σ H t _ ea (new_upd ht) p
  · have e : i = xs.length := by omega
    subst e
    exact .inl ⟨⟨xs, qa, Nat.le_refl _⟩, hd σ H p⟩
end L2
namespace L2
open PySem PySem.Spec PyProof.Rows
theorem lri_nolen : typeLookup (.type "list_reverseiterator") "__len__" = pure none := by rw [typeLookup_type, builtinLookup_eq_fast]; kernel_rfl
theorem lri_hint : typeLookup (.type "list_reverseiterator") "__length_hint__" = pure (some (.builtin "list_reverseiterator.__length_hint__")) := by rw [typeLookup_type, builtinLookup_eq_fast]; kernel_rfl
abbrev RvP (items : Array Value) : Nat → Value → Prop := fun i v => items[items.size - 1 - i]? = some v
abbrev LObj (acc : Array Value) (c : Nat) : Obj := { cls := .type "list", dict := none, data := .seq acc c, slots := #[] }
section
variable {prog : Program} {w : World} {A : Around} {E : Value → Shared → Prop} {s : Shared}
abbrev FinR (prog : Program) (w : World) (A : Around) (R : Result → Shared → Prop) : Fin → Shared → Prop := fun fin s' => match fin with | .done f => R (.ok f) s' | .again c' => c'.quiet = true ∧ codeAny (model prog w) A c' R s'
theorem ext_rev {R : Result → Shared → Prop} {J l S : Addr} {items : Array Value} {res : Value} {c₀ : Nat} (hh : A.handled = none) (hit : s.heap.IsRevIter J l ((items.size : Int) - 1)) (hl : s.heap.IsList l items) (hne : l ≠ J) (hSl : S ≠ l) (hSJ : S ≠ J) (hn : items.size ≤ sizeLine) (hS : s.heap.get? S = some (LObj #[] c₀))
    (hR : ∀ h' tk acc' c', (∀ b o, b ≠ S → b ≠ J → s.heap.get? b = some o → h'.get? b = some o) → h'.get? S = some (LObj acc' c') → ItemsOf (RvP items) acc' items.size → R (.ok (.ret res)) { s with heap := h', toks := tk }) :
    wpAny (model prog w) A.in1 (Builtin.List.listExtendWith (.ref S) (.ref J) res) (FinR prog w A R) (fun e s' => R (.error e) s') s := by
  have W := (Walks.listRev (prog := prog) (w := w) (A := A.in1) hh J l hne items).toS
  have hSf : S ∉ [J, l] := fun hm => by
    simp only [List.mem_cons, List.not_mem_nil, or_false] at hm
    rcases hm with e | e
    · exact hSJ e
    · exact hSl e
  have hT := hit.typeIs
  unfold Builtin.List.listExtendWith
  refine wpAny_bind (wpAny_typeOf hT ?_)
  have k1 : Builtin.List.listSameRef (.ref S) (.ref J) = false := by simp [Builtin.List.listSameRef, hSJ]
  have k2 : (Value.type "list_reverseiterator" == Value.type "list") = false := by decide
  have k3 : (Value.type "list_reverseiterator" == Value.type "tuple") = false := by decide
  simp only [k1, k2, k3, Bool.or_false, Bool.false_eq_true, if_false]
  refine wpAny_bind (wpAny_pyIter_revIter hit ?_)
  refine wpAny_bind (wpAny_holding ?_)
  unfold Builtin.List.listLengthHint
  refine wpAny_bind (wpAny_specialOf hT lri_nolen ?_)
  show wpAny _ A.in1 (specialOf (Value.ref J) (Str.ofString "__length_hint__") >>= _) _ _ s
  refine wpAny_bind (wpAny_specialOf hT lri_hint ?_)
  generalize hid : ("list_reverseiterator.__length_hint__" : String) = id0
  wp_delta
  rw [show splitId id0 = some ("list_reverseiterator", "__length_hint__") from by subst hid; decide +kernel]
  subst hid
  refine wpAny_bind (wpAny_isInstance (T := "list_reverseiterator") (b := true) hT (by rw [isSubtype_type]; kernel_rfl) ?_)
  refine wpAny_pure ?_
  rw [if_neg (by decide)]
  refine wpAny_pure ⟨plainId_quiet F.plain_extend_loop _, codeAny_extend_loopS W hn S hSf res items.size 0 s #[] c₀ rfl (Nat.zero_le _) ⟨Nat.zero_le _, by simpa using hit, hl⟩ hS (ItemsOf.nil _) fun s' acc' c' hm hS' hacc => ?_⟩
  rw [Moved.eq_with hm]
  refine hR s'.heap s'.toks acc' c' (fun b o hb hj e => hm.heap b o (fun z => ?_) e) hS' hacc
  simp only [List.mem_cons, List.not_mem_nil, or_false] at z
  rcases z with z | z
  · exact hb z
  · exact hj z
theorem init_rev {R : Result → Shared → Prop} {J l S : Addr} {items : Array Value} (hh : A.handled = none) (hit : s.heap.IsRevIter J l ((items.size : Int) - 1)) (hl : s.heap.IsList l items) (hne : l ≠ J) (hSl : S ≠ l) (hSJ : S ≠ J) (hn : items.size ≤ sizeLine) (hS : s.heap.get? S = some (LObj #[] 0))
    (hR : ∀ h' tk acc' c', (∀ b o, b ≠ S → b ≠ J → s.heap.get? b = some o → h'.get? b = some o) → h'.get? S = some (LObj acc' c') → ItemsOf (RvP items) acc' items.size → R (.ok (.ret .none)) { s with heap := h', toks := tk }) :
    wpAny (model prog w) A.in1 (Builtin.«list.__init__» ⟨[.ref S, .ref J], []⟩) (FinR prog w A R) (fun e s' => R (.error e) s') s := by
  show wpAny _ _ (do let old ← Builtin.List.listItems (.ref S); Builtin.List.listUpdate (.ref S) (fun _ => #[]); letGo old.toList.reverse; Builtin.List.listExtendWith (.ref S) (.ref J) .none) _ _ s
  refine wpAny_bind ?_
  unfold Builtin.List.listItems
  refine wpAny_bind (wpAny_seqItems hS rfl (wpAny_pure ?_))
  show wpAny _ _ (updateSeq S (fun _ => #[]) >>= fun _ => letGo (#[] : Array Value).toList.reverse >>= fun _ => Builtin.List.listExtendWith (.ref S) (.ref J) .none) _ _ s
  refine wpAny_bind (wpAny_updateSeq hS rfl ?_)
  have hS2 := Heap.get?_update_self (Obj.mapSeq (fun _ => (#[] : Array Value))) hS rfl
  have oth : ∀ b o, b ≠ S → s.heap.get? b = some o → (s.heap.update S (Obj.mapSeq (fun _ => (#[] : Array Value)))).get? b = some o := fun b o hb e => (Heap.get?_update_other _ _ (Ne.symm hb)).trans e
  refine wpAny_bind (wpAny_letGo ?_)
  refine ext_rev hh (hit.at fun o e => oth J o (Ne.symm hSJ) e) (hl.at fun o e => oth l o (Ne.symm hSl) e) hne hSl hSJ hn hS2 fun h' tk acc' c' hk hS' hacc => ?_
  exact hR h' tk acc' c' (fun b o hb hj e => hk b o hb hj (oth b o hb e)) hS' hacc
theorem list_rev {Q : Value → Shared → Prop} {J l : Addr} {items : Array Value} (hh : A.handled = none) (hit : s.heap.IsRevIter J l ((items.size : Int) - 1)) (hl : s.heap.IsList l items) (hne : l ≠ J) (hn : items.size ≤ sizeLine)
    (hQ : ∀ h' tk acc' c', (∀ b o, b ≠ J → s.heap.get? b = some o → h'.get? b = some o) → h'.get? s.heap.objs.size = some (LObj acc' c') → ItemsOf (RvP items) acc' items.size → Q (.ref s.heap.objs.size) { s with heap := h', toks := tk }) :
    wpAny (model prog w) A (call (.type "list") [.ref J]) Q E s := by
  refine callType_codes (Q₁ := fun obj s₁ => obj = .ref s.heap.objs.size ∧ s₁ = { s with heap := s.heap.push (LObj #[] 0) }) F.called_list (F.typeCall_list_1 _) F.entry_list_init (code_list_new _ ⟨rfl, rfl⟩) fun obj s₁ h₁ => ?_
  obtain ⟨rfl, rfl⟩ := h₁
  have hS : (s.heap.push (LObj #[] 0)).get? s.heap.objs.size = some (LObj #[] 0) := Heap.get?_push_size _ rfl
  have hJ : s.heap.objs.size ≠ J := by obtain ⟨o, ho, _⟩ := hit; exact Ne.symm (Nat.ne_of_lt (Heap.lt_size ho))
  have hL : s.heap.objs.size ≠ l := by obtain ⟨o, ho, _⟩ := hl; exact Ne.symm (Nat.ne_of_lt (Heap.lt_size ho))
  refine ⟨⟨_, hS, rfl⟩, F.args_list_init_2 _ _, init_rev (A := A.in1) hh (hit.at fun o e => Heap.get?_push_of_some _ e) (hl.at fun o e => Heap.get?_push_of_some _ e) hne hL hJ hn hS fun h' tk acc' c' hk hS' hacc => ?_⟩
  exact ⟨rfl, hQ h' tk acc' c' (fun b o hj e => hk b o (Nat.ne_of_lt (Heap.lt_size e)) hj (Heap.get?_push_of_some _ e)) hS' hacc⟩
end
theorem items_rev {items acc : Array Value} (h : ItemsOf (RvP items) acc items.size) : acc.toList = items.toList.reverse := by
  apply List.ext_getElem?
  intro i
  by_cases hi : i < acc.size
  · have e := h.2 i acc[i] (by simp [hi])
    have hi2 : i < items.toList.length := by rw [Array.length_toList, ← h.1]; exact hi
    rw [List.getElem?_reverse hi2]
    have e2 : acc.toList[i]? = some acc[i] := by simp [hi]
    rw [e2, ← e]
    simp
  · rw [List.getElem?_eq_none (by simpa using hi), List.getElem?_eq_none (by rw [List.length_reverse, Array.length_toList, ← h.1]; exact Nat.not_lt.mp hi)]
section
variable {X : Cx}
def tListRev (K : PySem.W.Frag) (te : TE) : TE := fun σ H Q => te σ H fun x H1 => ∃ a xs, x = .ref a ∧ SqL K H1 a xs ∧ ∀ p H', New H1 H' p (.lst xs.reverse) → Q (.ref p) H'
theorem pe_listrev {e : Expr} {te : TE} {p p1 pos pos1 : Pos} (hc : X.calm = true) (hg : Gl X "list") (hm : X.mg "list" = none) (hg1 : Gl X "reversed") (hm1 : X.mg "reversed" = none) (ha : PE X e te)
    (hs : starEach [.Call (.Name "reversed" p1) [e] [] pos1] X.env = [(false, eval (.Call (.Name "reversed" p1) [e] [] pos1) X.env)] := by rfl) (hs1 : starEach [e] X.env = [(false, eval e X.env)] := by rfl) :
    PE X (.Call (.Name "list" p) [.Call (.Name "reversed" p1) [e] [] pos1] [] pos) (tListRev X.K te) := by
  intro pins s σ H Q I h
  refine Call_ (ld_blt I hg hm bt_list (PyProof.Rows.callWith_type1 ?_ hs rfl))
  rw [hs]
  show wpAny _ _ (spliced ((false, eval (.Call (.Name "reversed" p1) [e] [] pos1) X.env) :: [])) _ _ s
  refine Calls.spliced_cons ?_
  refine Call_ (ld_blt I hg1 hm1 (show bootBuiltins "reversed" = some (.type "reversed") by decide +kernel) (PyProof.Rows.callWith_type1 ?_ hs1 rfl))
  rw [hs1]
  show wpAny _ _ (spliced ((false, eval e X.env) :: [])) _ _ s
  refine Calls.spliced_cons (thn (ha pins s σ H _ I h) fun u s1 ⟨x, H1, I1, r1, a, xs, ex, hq, q⟩ => Calls.spliced_nil ?_)
  subst ex
  cases (show u = Value.ref a from r1)
  obtain ⟨its, rv, pl, hz⟩ := I1.list hq
  have hlen := rv.length
  refine call_reversed_list pl.isList (Calls.spliced_nil ?_)
  have hl := pl.isList
  have hJ : a ≠ s1.heap.objs.size := by obtain ⟨o, ho, _⟩ := hl; exact Nat.ne_of_lt (Heap.lt_size ho)
  have hit : (s1.heap.push (revObj a ((its.toArray.size : Int) - 1))).IsRevIter s1.heap.objs.size a ((its.toArray.size : Int) - 1) := ⟨_, Heap.get?_push_size _ rfl, rfl, rfl⟩
  refine list_rev (s := { s1 with heap := s1.heap.push (revObj a ((its.toArray.size : Int) - 1)) }) (I.ok.hd hc) hit (hl.at fun o e => Heap.get?_push_of_some _ e) hJ (by rw [List.size_toArray]; omega) fun h' tk acc' c' hk hS' hacc => ?_
  have e3 : acc'.toList = its.reverse := by simpa using items_rev hacc
  have kp : ∀ b ob, s1.heap.get? b = some ob → h'.get? b = some ob := fun b ob e => hk b ob (Nat.ne_of_lt (Heap.lt_size e)) (Heap.get?_push_of_some _ e)
  have hge : s1.heap.objs.size ≤ (s1.heap.push (revObj a ((its.toArray.size : Int) - 1))).objs.size := by rw [Heap.size_push]; exact Nat.le_succ _
  refine ⟨.ref (s1.heap.push (revObj a ((its.toArray.size : Int) - 1))).objs.size, _, I1.laid (t' := tk) (o := .lst xs.reverse) kp hge ?_, rfl, q _ _ (new_upd (I1.hok.fresh hge))⟩
  refine ⟨by simpa using hz, its.reverse, c', rv.reverse, ?_⟩
  rw [← e3]
  exact hS'
end
end L2
namespace L2
open PySem PySem.Spec PyProof.Rows
def RawD (h : Heap) (d : Addr) (es : Array DictEntry) (ep : Nat) : Prop := ∃ o, h.get? d = some o ∧ o.ExactDict ∧ o.data = .dict es ep
theorem RawD.ty {s : Shared} {d : Addr} {es : Array DictEntry} {ep : Nat} (x : RawD s.heap d es ep) : s.TypeIs (.ref d) "dict" := let ⟨o, a, b, _⟩ := x; ⟨o, a, b.1⟩
theorem RawD.up {h h' : Heap} {d : Addr} {es : Array DictEntry} {ep : Nat} (x : RawD h d es ep) (e : ∀ o, h.get? d = some o → h'.get? d = some o) : RawD h' d es ep := let ⟨o, a, b⟩ := x; ⟨o, e o a, b⟩
theorem RawD.lt {h : Heap} {d : Addr} {es : Array DictEntry} {ep : Nat} (x : RawD h d es ep) : d < h.objs.size := let ⟨_, a, _⟩ := x; Heap.lt_size a
section
variable {prog : Program} {w : World} {A : Around} {E : Value → Shared → Prop} {s : Shared}
end
end L2
namespace L2
open PySem PySem.Spec PyProof.Rows
section
variable {prog : Program} {w : World} {A : Around} {E : Value → Shared → Prop} {s : Shared}
theorem sort_short {a : Addr} {vs : List Value} {n : Nat} {P : Fin → Shared → Prop} (ho : s.heap.get? a = some (seqObj "list" vs.toArray n)) (h2 : vs.length < 2)
    (h : P (.done (.ret .none)) { s with heap := sortedHeap s.heap a vs ((vs.toArray.zip vs.toArray).map (·.2)) }) : wpAny (model prog w) A (Builtin.«list.sort» ⟨[.ref a], []⟩) P E s := by
  rw [list_sort_plain]
  have la : a < s.heap.objs.size := Heap.lt_size ho
  refine wpAny_bind (listItems_at ho rfl ?_); refine wpAny_bind (listUpdate_at ho rfl ?_)
  obtain ⟨e1, h1⟩ : ∃ e1, (s.heap.update a (Obj.mapSeq fun _ => #[])).get? a = some (seqObj "list" #[] e1) := ⟨_, get?_update_seq ho (fun _ => #[])⟩
  refine wpAny_bind (seqEpoch_at h1 rfl ?_); refine wpAny_bind (wpAny_newTuple ?_); refine wpAny_bind (wpAny_newList ?_); refine wpAny_holding ?_
  have h6 : (((s.heap.update a (Obj.mapSeq fun _ => #[])).push (seqObj "tuple" vs.toArray 0)).push (seqObj "list" #[] 0)).get? a = some (seqObj "list" #[] e1) := by
    rw [Heap.get?_push_ne _ _ _ (by rw [size_push', Heap.size_update]; exact Nat.ne_of_lt (Nat.lt_succ_of_lt la)), Heap.get?_push_ne _ _ _ (by rw [Heap.size_update]; exact Nat.ne_of_lt la)]; exact h1
  show wpAny (model prog w) A _ P E { s with heap := ((s.heap.update a (Obj.mapSeq fun _ => #[])).push (seqObj "tuple" vs.toArray 0)).push (seqObj "list" #[] 0) }
  dsimp only
  have z2 : vs.toArray.size < 2 := by simpa using h2
  rw [if_pos z2, if_pos z2]; refine wpAny_bind (wpAny_pure ?_)
  rw [StateT.run_pure]; refine wpAny_bind (wpAny_pure ?_); dsimp only
  refine wpAny_bind (seqEpoch_at h6 rfl ?_); refine wpAny_bind (listUpdate_at h6 rfl ?_ (hsz2 := by rw [Array.size_map]; show (pairsOf vs).size ≤ _; rw [pairsOf_size, sizeLine_eq]; omega))
  simp only [bne_self_eq_false, Bool.false_eq_true, if_false]; exact wpAny_pure h
end
theorem zip_snd (vs : List Value) : (vs.toArray.zip vs.toArray).map (·.2) = vs.toArray := by
  apply Array.ext'
  simpa using List.map_snd_zip (l₁ := vs) (l₂ := vs) (Nat.le_refl _)
section
variable {X : Cx}
end
end L2
namespace L2
open PySem PySem.Spec PyProof.Rows
section
variable {X : Cx} {tg : Expr}
end
section
variable {X : Cx}
end
end L2
namespace L2
open PySem PySem.Spec PyProof.Rows
end L2
namespace L2
theorem lq1 {α : Type} {us : List α} (h : us.length = 1) : ∃ a, us = [a] := by
  cases us with
  | nil => cases h
  | cons a r => exact ⟨a, by rw [List.length_eq_zero_iff.mp (Nat.succ.inj h)]⟩
theorem lq2 {α : Type} {us : List α} (h : us.length = 2) : ∃ a0 a1, us = [a0, a1] := by
  cases us with
  | nil => cases h
  | cons a r => obtain ⟨a1, e⟩ := lq1 (Nat.succ.inj h); exact ⟨a, a1, by rw [e]⟩
theorem lq3 {α : Type} {us : List α} (h : us.length = 3) : ∃ a0 a1 a2, us = [a0, a1, a2] := by
  cases us with
  | nil => cases h
  | cons a r => obtain ⟨a1, a2, e⟩ := lq2 (Nat.succ.inj h); exact ⟨a, a1, a2, by rw [e]⟩
theorem lq4 {α : Type} {us : List α} (h : us.length = 4) : ∃ a0 a1 a2 a3, us = [a0, a1, a2, a3] := by
  cases us with
  | nil => cases h
  | cons a r => obtain ⟨a1, a2, a3, e⟩ := lq3 (Nat.succ.inj h); exact ⟨a, a1, a2, a3, by rw [e]⟩
end L2
namespace L2
open PySem PySem.Spec PyProof.Rows PySem.W
def KW (lt : Nat → Nat → Bool) (n : Nat) {α : Type} : KasT α → (α → Prop) → Prop
  | .ret a, Q => Q a
  | .ask i j k, Q => i < n ∧ j < n ∧ KW lt n (k (lt i j)) Q
theorem KW.bind {lt : Nat → Nat → Bool} {n : Nat} {α β : Type} {f : α → KasT β} {Q : β → Prop} : ∀ {t : KasT α}, KW lt n t (fun a => KW lt n (f a) Q) → KW lt n (t.bind f) Q
  | .ret a, h => by rw [KasT.bind.eq_1]; exact h
  | .ask i j k, h => by
    rw [KasT.bind.eq_2]
    exact ⟨h.1, h.2.1, KW.bind h.2.2⟩
theorem KW.mono {lt : Nat → Nat → Bool} {n : Nat} {α : Type} {Q Q' : α → Prop} (hq : ∀ a, Q a → Q' a) : ∀ {t : KasT α}, KW lt n t Q → KW lt n t Q'
  | .ret a, h => hq a h
  | .ask i j k, h => ⟨h.1, h.2.1, KW.mono hq h.2.2⟩
theorem KW.run {lt : Nat → Nat → Bool} {n : Nat} {α : Type} {Q : α → Prop} {cmp : Nat → Nat → (Bool → Shared → Prop) → Shared → Prop} {s : Shared} (hc : ∀ i j (C : Bool → Shared → Prop), i < n → j < n → C (lt i j) s → cmp i j C s) :
    ∀ {t : KasT α}, KW lt n t Q → KasT.kasWp cmp t (fun a s' => s' = s ∧ Q a) s
  | .ret a, h => by rw [KasT.kasWp.eq_1]; exact ⟨rfl, h⟩
  | .ask i j k, h => by
    rw [KasT.kasWp.eq_2]
    exact hc i j _ h.1 h.2.1 (KW.run hc h.2.2)
structure OrdN (n : Nat) (lt : Nat → Nat → Bool) : Prop where
  tot : ∀ i j, i < n → j < n → i ≠ j → lt i j = false → lt j i = true
  tr : ∀ i j k, i < n → j < n → k < n → lt i j = true → lt j k = true → lt i k = true
structure PermA (n : Nat) (p : Array Nat) : Prop where
  sz : p.size = n
  perm : p.toList.Perm (List.range n)
theorem PermA.lt {n : Nat} {p : Array Nat} (h : PermA n p) {x : Nat} (hx : x < n) : p.getD x 0 < n := by
  have hs := h.sz
  rw [Array.getD_eq_getD_getElem?, Array.getElem?_eq_getElem (by omega)]
  have : p[x] ∈ p.toList := by simp
  exact List.mem_range.mp (h.perm.mem_iff.mp this)
theorem PermA.inj {n : Nat} {p : Array Nat} (h : PermA n p) {x y : Nat} (hx : x < n) (hy : y < n) (hne : x ≠ y) : p.getD x 0 ≠ p.getD y 0 := by
  have hs := h.sz
  have nd : p.toList.Nodup := h.perm.nodup_iff.mpr List.nodup_range
  rw [Array.getD_eq_getD_getElem?, Array.getElem?_eq_getElem (by omega), Array.getD_eq_getD_getElem?, Array.getElem?_eq_getElem (by omega)]
  intro e
  have e' : p.toList[x]'(by simpa using by omega) = p.toList[y]'(by simpa using by omega) := by simpa using e
  have pw := List.pairwise_iff_getElem.mp nd
  rcases Nat.lt_or_gt_of_ne hne with h1 | h1
  · exact pw x y (by simpa using by omega) (by simpa using by omega) h1 e'
  · exact pw y x (by simpa using by omega) (by simpa using by omega) h1 e'.symm
theorem PermA.of {n : Nat} {p q : Array Nat} (h : PermA n p) (hq : q.Perm p) : PermA n q := by
  have e : q.toList.Perm p.toList := Array.perm_iff_toList_perm.mp hq
  exact ⟨by have := e.length_eq; simpa [h.sz] using this, e.trans h.perm⟩
section
variable {lt : Nat → Nat → Bool} {n : Nat}
end
end L2
namespace L2
open PySem PySem.Spec PyProof.Rows PySem.W
def blt : List Int → List Int → Bool
  | [], [] => false
  | [], _ :: _ => true
  | _ :: _, [] => false
  | a :: r, b :: t => if a = b then blt r t else decide (a < b)
theorem blt_tot : ∀ (k l : List Int), k ≠ l → blt k l = false → blt l k = true
  | [], [], h, _ => absurd rfl h
  | [], _ :: _, _, h => by simp [blt] at h
  | _ :: _, [], _, _ => rfl
  | a :: r, b :: t, h, e => by
    unfold blt at e ⊢
    by_cases hab : a = b
    · subst hab
      rw [if_pos rfl] at e ⊢
      exact blt_tot r t (fun z => h (by rw [z])) e
    · rw [if_neg hab] at e
      rw [if_neg (fun z => hab z.symm)]
      simp at e ⊢
      omega
theorem blt_tr : ∀ (k l m : List Int), blt k l = true → blt l m = true → blt k m = true
  | [], [], _, h, _ => by simp [blt] at h
  | _ :: _, [], _, h, _ => by simp [blt] at h
  | [], _ :: _, [], _, h => by simp [blt] at h
  | _ :: _, _ :: _, [], _, h => by simp [blt] at h
  | [], _ :: _, _ :: _, _, _ => rfl
  | a :: r, b :: t, c :: u, h1, h2 => by
    unfold blt at h1 h2 ⊢
    by_cases hab : a = b
    · subst hab
      rw [if_pos rfl] at h1
      by_cases hbc : a = c
      · subst hbc
        rw [if_pos rfl] at h2 ⊢
        exact blt_tr r t u h1 h2
      · rw [if_neg hbc] at h2 ⊢
        exact h2
    · rw [if_neg hab] at h1
      by_cases hbc : b = c
      · subst hbc
        rw [if_neg hab]
        exact h1
      · rw [if_neg hbc] at h2
        simp at h1 h2
        rw [if_neg (by omega)]
        simp; omega
theorem blt_irr : ∀ k : List Int, blt k k = false
  | [] => rfl
  | a :: r => by unfold blt; rw [if_pos rfl]; exact blt_irr r
def ltK (ks : List (List Int)) (i j : Nat) : Bool := blt (ks.getD i []) (ks.getD j [])
def TupV (h : Heap) (v : Value) (k : List Int) : Prop := ∃ b o xs e, v = .ref b ∧ h.get? b = some o ∧ o.cls = .type "tuple" ∧ o.data = .seq xs e ∧ Vals (k.map V.int) xs.toList
section
variable {prog : Program} {w : World} {A : Around} {E : Value → Shared → Prop} {s : Shared}
theorem lex_ints {b fin : Bool} {Q : Bool → Shared → Prop} : ∀ (k l : List Int) (us ws : List Value) (i : Nat), Vals (k.map V.int) us → Vals (l.map V.int) ws → fin = decide (k.length < l.length) → Q (blt k l) s → KatLex prog w A b fin Q (us.zip ws) i s
  | [], l, us, ws, i, hu, hw, hf, q => by
    cases us with
    | cons _ _ => exact absurd hu.length (by simp)
    | nil =>
      rw [List.zip_nil_left]
      refine kat_nil ?_
      rw [hf]
      cases l with
      | nil => exact q
      | cons _ _ => exact q
  | x :: k, [], us, ws, i, hu, hw, hf, q => by
    cases ws with
    | cons _ _ => exact absurd hw.length (by simp)
    | nil =>
      rw [List.zip_nil_right]
      refine kat_nil ?_
      rw [hf]
      exact q
  | x :: k, y :: l, us, ws, i, hu, hw, hf, q => by
    cases us with
    | nil => exact absurd hu.length (by simp)
    | cons u us =>
      cases ws with
      | nil => exact absurd hw.length (by simp)
      | cons v ws =>
        rw [List.map_cons] at hu hw
        cases hu with
        | cons hx hu =>
          cases hw with
          | cons hy hw =>
            obtain ⟨t, rfl⟩ := (show ∃ t, u = Value.int x t from hx)
            obtain ⟨t', rfl⟩ := (show ∃ t, v = Value.int y t from hy)
            rw [List.zip_cons_cons]
            refine kat_cons (wpAny_eqBool_int ?_)
            by_cases hxy : x = y
            · subst hxy
              rw [show (x == x) = true by simp]
              refine kat_yes (lex_ints k l us ws (i + 1) hu hw (by rw [hf]; simp) ?_)
              unfold blt at q
              rwa [if_pos rfl] at q
            · rw [show (x == y) = false by simpa using hxy]
              unfold blt at q
              rw [if_neg hxy] at q
              refine kat_no ?_
              cases (b && i == 0) with
              | true => exact oneLt_int q
              | false => exact kat_one _ _ (lt_int q)
theorem tup_lt {b : Bool} {Q : Bool → Shared → Prop} {x y : Value} {k l : List Int} (hx : TupV s.heap x k) (hy : TupV s.heap y l) (q : Q (blt k l) s) : wpAny (model prog w) A (keyLt' (tuples' b) x y) Q E s := by
  obtain ⟨a, o, xs, e, rfl, h1, h2, h3, h4⟩ := hx
  obtain ⟨a', o', xs', e', rfl, h1', h2', h3', h4'⟩ := hy
  refine kat_lt h1 h3 h1' h3' (lex_ints k l _ _ 0 h4 h4' ?_ q)
  have e1 : k.length = xs.size := by have := h4.length; simpa using this
  have e2 : l.length = xs'.size := by have := h4'.length; simpa using this
  rw [e1, e2]
theorem kat_of {h : Heap} : ∀ {vs : List Value} {ks : List (List Int)}, vs.length = ks.length → (∀ (i : Nat) v k, vs[i]? = some v → ks[i]? = some k → TupV h v k ∧ k ≠ []) → ∃ fs, KatTups h vs fs ∧ fs.length = vs.length ∧ ∀ v ∈ fs, ∃ i t, v = Value.int i t
  | [], [], _, _ => ⟨[], .nil, rfl, fun v hv => by cases hv⟩
  | v :: vs, k :: ks, hl, H => by
    obtain ⟨fs, f1, f2, f3⟩ := kat_of (vs := vs) (ks := ks) (by simpa using hl) (fun i v k e1 e2 => H (i + 1) v k (by simpa using e1) (by simpa using e2))
    obtain ⟨⟨b, o, xs, e, rfl, h1, h2, h3, h4⟩, hne⟩ := H 0 v k rfl rfl
    cases k with
    | nil => exact absurd rfl hne
    | cons i r =>
      obtain ⟨u, us, eu, hu⟩ : ∃ u us, xs.toList = u :: us ∧ RelV (.int i) u := by
        generalize xs.toList = ys at h4
        cases h4 with
        | cons hx _ => exact ⟨_, _, rfl, hx⟩
      obtain ⟨t, rfl⟩ := (show ∃ t, u = Value.int i t from hu)
      refine ⟨Value.int i t :: fs, ?_, by simp [f2], fun v hv => ?_⟩
      · rw [KatTups.eq_2]
        refine ⟨⟨b, o, xs, e, rfl, h1, h2, h3, ?_⟩, f1⟩
        rw [← Array.getElem?_toList, eu]; rfl
      · rcases List.mem_cons.mp hv with h | h
        · exact ⟨i, t, h⟩
        · exact f3 v h
end
end L2
namespace L2
open PySem PySem.Spec PyProof.Rows PySem.W
def pick {α : Type} (idx : List Nat) (xs : List α) (d : α) : List α := idx.map fun i => xs.getD i d
theorem pick_range {α : Type} (xs : List α) (d : α) : pick (List.range xs.length) xs d = xs := by
  unfold pick
  apply List.ext_getElem?
  intro i
  rw [List.getElem?_map]
  by_cases h : i < xs.length
  · rw [List.getElem?_range h, List.getElem?_eq_getElem h]
    simp [List.getD_eq_getElem?_getD, List.getElem?_eq_getElem h]
  · rw [List.getElem?_eq_none (by simpa using by omega), List.getElem?_eq_none (by omega)]; rfl
theorem pick_perm {α : Type} {idx : List Nat} {xs : List α} {d : α} (h : idx.Perm (List.range xs.length)) : (pick idx xs d).Perm xs := by
  have := h.map (fun i => xs.getD i d)
  have e := pick_range xs d
  unfold pick at e
  rw [e] at this
  exact this
def TupsH (H : Hp) (xs : List V) (ks : List (List Int)) : Prop := Paired (fun v r => ∃ a, v = V.ref a ∧ H a = some (.tup (r.map V.int))) xs ks
theorem TupsH.len {H : Hp} : ∀ {xs : List V} {ks : List (List Int)}, TupsH H xs ks → xs.length = ks.length
  | _, _, .nil => rfl
  | _, _, .cons _ t => by simp [TupsH.len t]
theorem TupsH.get {H : Hp} : ∀ {xs : List V} {ks : List (List Int)} {i : Nat} {x : V} {k : List Int}, TupsH H xs ks → xs[i]? = some x → ks[i]? = some k → ∃ a, x = .ref a ∧ H a = some (.tup (k.map V.int))
  | _, _, _, _, _, .nil, e, _ => by simp at e
  | _, _, 0, _, _, .cons r _, e, f => by simp at e f; subst e f; exact r
  | _, _, i + 1, x, k, .cons _ t, e, f => TupsH.get (i := i) t (by simpa using e) (by simpa using f)
theorem TupsH.pick {H : Hp} {xs : List V} {ks : List (List Int)} (h : TupsH H xs ks) : ∀ {idx : List Nat}, (∀ i ∈ idx, i < ks.length) → TupsH H (pick idx xs .non) (pick idx ks [])
  | [], _ => .nil
  | i :: r, hi => by
    have h0 := hi i List.mem_cons_self
    have hl := h.len
    refine .cons (h.get (i := i) ?_ ?_) (TupsH.pick h fun j hj => hi j (List.mem_cons_of_mem _ hj))
    · show xs[i]? = some (xs.getD i .non)
      rw [List.getD_eq_getElem?_getD, List.getElem?_eq_getElem (by omega)]; rfl
    · show ks[i]? = some (ks.getD i [])
      rw [List.getD_eq_getElem?_getD, List.getElem?_eq_getElem h0]; rfl
theorem vals_pick {xs : List V} {vs : List Value} (h : Vals xs vs) : ∀ {idx : List Nat}, (∀ i ∈ idx, i < xs.length) → Vals (pick idx xs .non) (pick idx vs .none)
  | [], _ => .nil
  | i :: r, hi => by
    have h0 := hi i List.mem_cons_self
    have hl := h.length
    refine .cons ?_ (vals_pick h fun j hj => hi j (List.mem_cons_of_mem _ hj))
    show RelV (xs.getD i .non) (vs.getD i .none)
    rw [List.getD_eq_getElem?_getD, List.getElem?_eq_getElem h0, List.getD_eq_getElem?_getD, List.getElem?_eq_getElem (by omega)]
    exact vals_ix h h0 (by omega)
where
  vals_ix : ∀ {xs : List V} {vs : List Value} {i : Nat}, Vals xs vs → (h1 : i < xs.length) → (h2 : i < vs.length) → RelV xs[i] vs[i]
    | _, _, 0, .cons r _, _, _ => r
    | _, _, i + 1, .cons _ t, h1, h2 => vals_ix (i := i) t (by simpa using h1) (by simpa using h2)
section
variable {prog : Program} {w : World} {A : Around} {E : Value → Shared → Prop} {s : Shared}
end
section
variable {X : Cx}
theorem tupV_of {pins : List (Addr × Obj)} {σ : St} {H : Hp} {s : Shared} {a : Addr} {k : List Int} (I : Inv X pins σ H s) (h : H a = some (.tup (k.map V.int))) : TupV s.heap (.ref a) k := by
  obtain ⟨its, rv, p, _⟩ := I.tuple (SqT.of h)
  obtain ⟨o, h1, h2, n, h3⟩ := (show s.heap.IsTuple a its.toArray from p)
  exact ⟨a, o, its.toArray, n, rfl, h1, h2, h3, by simpa using rv⟩
end
end L2
namespace L2
open PySem PySem.Spec PyProof.Rows
section
variable {X : Cx} {k : Nat} {C : Addr} {ps : List Str} {sp : Sp} {dvs : List V} {ds : List Value} {m : Str} {pos apos : Pos} {e o : Expr} {es : List Expr} {ta : TE} {t : TA}
end
end L2
namespace L2
open PySem PySem.Spec PyProof.Rows PySem.W
section
variable {prog : Program} {w : World} {A : Around} {E : Value → Shared → Prop} {s : Shared}
end
section
variable {X : Cx} {pos : Pos}
end
end L2
namespace L2
open PySem PySem.Spec PyProof.Rows
section
variable {prog : Program} {w : World} {A : Around} {E : Value → Shared → Prop} {s : Shared}
end
end L2
namespace L2
open PySem PySem.Spec PyProof.Rows
def NoF (X : Cx) (d : Addr) : Prop := (∀ xs, X.H₀ d ≠ some (.tup xs)) ∧ (∀ o u, X.H₀ d ≠ some (.frz o u)) ∧ ∀ ps, X.H₀ d ≠ some (.tbl ps)
section
variable {X : Cx} {pins : List (Addr × Obj)} {σ : St} {H : Hp} {s : Shared} {d : Addr}
theorem Inv.swap {o1 o2 : HO} (I : Inv X pins σ H s) (hd : H d = some o1) (n1 : ∀ xs, o1 ≠ .tup xs) (n2 : ∀ b, o1 ≠ .own b) (nf : NoF X d) (ok : ObjOk X.prog X.w (upd H d o2) s.heap d o2) : Inv X pins σ (upd H d o2) s := by
  have ne : ∀ {b}, H b = none → b ≠ d := fun h z => by rw [z, hd] at h; cases h
  refine ⟨I.ok, I.os, I.bare, ⟨I.base.keep, I.base.slot, fun b o q n hx => ?_, I.base.there, fun b xs q => ?_, fun b o u q => ?_, fun b ps q => ?_⟩, I.loc, I.cell, ?_, fun x c q => ?_, fun p hp => ?_, fun b u q => ?_, I.len⟩
  · have h0 := I.base.free b o q n hx
    rw [upd_ne (ne h0)]; exact h0
  · have hb : b ≠ d := fun z => nf.1 xs (by rw [← z]; exact q)
    rw [upd_ne hb]; exact I.base.tups b xs q
  · have hb : b ≠ d := fun z => nf.2.1 o u (by rw [← z]; exact q)
    rw [upd_ne hb]; exact I.base.frzs b o u q
  · have hb : b ≠ d := fun z => nf.2.2 ps (by rw [← z]; exact q)
    rw [upd_ne hb]; exact I.base.tbls b ps q
  · rw [upd_ne (ne I.free)]; exact I.free
  · rw [upd_ne (ne (I.freeC x c q))]; exact I.freeC x c q
  · obtain ⟨e, n, r⟩ := I.pin p hp
    exact ⟨e, by rw [upd_ne (ne n)]; exact n, r⟩
  · by_cases hb : b = d
    · subst hb; rw [upd_same] at q; cases q; exact ok
    · rw [upd_ne hb] at q
      refine (I.hok b u q).stay (fun _ _ _ q => q) (fun c q => ?_) fun c xs q => ?_
      · rw [upd_ne (fun z => by rw [z, hd] at q; exact n2 _ (Option.some.inj q))]; exact q
      · rw [upd_ne (fun z => by rw [z, hd] at q; exact n1 _ (Option.some.inj q))]; exact q
end
section
variable {X : Cx}
end
end L2
namespace L2
open PySem PySem.Spec PyProof.Rows
section
variable {prog : Program} {w : World} {A : Around} {E : Value → Shared → Prop} {h : Heap} {g : Array GenState} {d : Drawn} {t : Nat} {os : OsState}
variable {nm q : Str} {C N x : Addr} {bs bm : List Value} {hdct : Bool} {sn : List Str} {sub : List Value} {ab : Bool} {col : Option Bool} {dd : Option Addr} {k0 k1 k2 k3 k5 : Option Value}
end
def excN (a : Addr) (cls : Value) (dd : Option Addr) : HO := .ext fun h => ∃ oe vs, h.get? a = some oe ∧ oe.cls = cls ∧ oe.dict = dd ∧ oe.data = .fields vs ∧ vs.size = 6 ∧ vs[1]? = some .none
def excInI (K : PySem.W.Frag) (C f : Addr) : Bool := match K.lookup C with
  | some ⟨.type "type", _, .cls cd, sl⟩ => (match cd.mro, sl.toList with
    | .ref C' :: bm, [_, _, _, _, some (.builtin n), _] => C' == C && n == "ValueError.__new__" && !cd.hasDel && PySem.W.tailIn K veMro bm && PySem.W.nsOkIn K cd.ns && PySem.W.nsIn K cd.ns "__init__" == some (some (.ref f)) && cd.hasDict
    | _, _ => false)
  | _ => false
structure ExcI (K : PySem.W.Frag) (C f : Addr) (fld : Str) : Prop where
  e : excInI K C f = true
  fn : PySem.W.isFn K (.ref f) = true
  x : ExcK K C
  hd : PySem.W.hasDictIn K C = true
  sa : PySem.W.findIn K (.ref C) "__setattr__" = some (some (.builtin "object.__setattr__"))
  na : PySem.W.findIn K (.ref C) fld = some none
structure ExcAtI (h : Heap) (C f : Addr) : Prop where
  e : ∃ bm N nm qn bs sn sub ab col dd k0 k1 k2 k3 k5 mN, h.get? C = some (excClassObj nm qn C N bs bm true sn sub ab col dd k0 k1 k2 k3 k5 "ValueError.__new__") ∧ h.Ns N mN ∧ mN "__init__" = some (.ref f) ∧ OwnTail h veMro bm
section
variable {prog : Program} {w : World} {A : Around} {E : Value → Shared → Prop} {K : PySem.W.Frag} {h : Heap} {g : Array GenState} {d : Drawn} {t : Nat} {os : OsState} {C f x : Addr} {o : Obj} {vs : Array Value}
end
end L2
namespace L2
open PySem PySem.Spec PyProof.Rows
section
variable {prog : Program} {w : World} {A : Around} {E : Value → Shared → Prop} {s : Shared} {K : PySem.W.Frag} {a D : Addr} {oe : Obj} {od : Option Obj}
end
structure BaseI (K : PySem.W.Frag) (B : Addr) : Prop where
  sp : PySem.W.specialIn K (.ref B) "__getattribute__" = some (some (.builtin "type.__getattribute__"))
  rd : PySem.W.readsIn K B (.type "type") = true
  fi : PySem.W.findCls K (.ref B) (.type "type") "__init__" = some (.val (.builtin "ValueError.__init__"))
def dropH (H : Hp) (e : Addr) : Hp := fun b => if b = e then none else H b
theorem drop_ne {H : Hp} {e b : Addr} (h : b ≠ e) : dropH H e b = H b := if_neg h
theorem drop_at {H : Hp} {e : Addr} : dropH H e e = none := if_pos rfl
theorem Inv.drop {X : Cx} {σ : St} {H : Hp} {s : Shared} {e : Addr} {φ : Heap → Prop} (I : Inv X [] σ H s) (he : H e = some (.ext φ)) : Inv X [] σ (dropH H e) s := by
  have key : ∀ b o, H b = some o → (∀ ψ, o ≠ .ext ψ) → dropH H e b = some o := fun b o q n => by
    rw [drop_ne (fun z => by rw [z, he] at q; cases q; exact n _ rfl)]; exact q
  have no : ∀ b, H b = none → dropH H e b = none := fun b q => by
    by_cases z : b = e
    · rw [z]; exact drop_at
    · rw [drop_ne z]; exact q
  refine ⟨I.ok, I.os, I.bare, ⟨I.base.keep, I.base.slot, fun b o q n hx => no b (I.base.free b o q n hx), I.base.there, fun b xs q => key _ _ (I.base.tups b xs q) (by intro ψ z; cases z), fun b o xs q => key _ _ (I.base.frzs b o xs q) (by intro ψ z; cases z), fun b ps q => ?_⟩, I.loc, I.cell, no _ I.free, fun x c q => no _ (I.freeC x c q), fun p hp => ?_, fun b u q => ?_, I.len⟩
  · obtain ⟨m1, e1⟩ := I.base.tbls b ps q
    exact ⟨m1, key _ _ e1 (by intro ψ z; cases z)⟩
  · obtain ⟨q, n, ne, nf, d⟩ := I.pin p hp
    exact ⟨q, no _ n, ne, nf, d⟩
  · by_cases z : b = e
    · rw [z, drop_at] at q; cases q
    · rw [drop_ne z] at q
      exact (I.hok b u q).stay (fun _ _ _ q => q) (fun c q => key _ _ q (by intro ψ z; cases z)) fun c xs q => key _ _ q (by intro ψ z; cases z)
def sp_xinit (C : Addr) (fld : Str) : Sp := fun vs H Q _ => ∃ ex v, vs = [.ref ex, v] ∧ H ex = some (excN ex (.ref C) none) ∧ ∀ dx H', H dx = none → dx ≠ ex → H' ex = some (excN ex (.ref C) (some dx)) → H' dx = some (.xd [(fld, v)]) → (∀ b o, H b = some o → b ≠ ex → H' b = some o) → Q .non H'
structure XcOk (P : Program) (w : World) (K : PySem.W.Frag) (mg : Str → Option Value) (base : Heap) (C : Addr) (k : Nat) (x : Str) (ps : List Str) (fld : Str) : Prop where
  ex : ∃ f fd, FnOk P w K mg base CX0 k f fd ps (sp_xinit C fld) ∧ mg x = some (.ref C) ∧ ExcI K C f fld ∧ Binds K fd ps []
end L2
namespace L2
open PySem PySem.Spec PyProof.Rows
def tAlt (t u : TE) : TE := fun σ H Q => t σ H Q ∨ u σ H Q
theorem pe_alt {X : Cx} {e : Expr} {t u : TE} (ht : PE X e t) (hu : PE X e u) : PE X e (tAlt t u) := fun pins s σ H Q I h => h.elim (ht pins s σ H Q I) (hu pins s σ H Q I)
structure Mk0 (K : PySem.W.Frag) (C : Addr) : Prop where
  makes : PySem.W.makesIn K C = true
  init : PySem.W.findIn K (.ref C) "__init__" = some (some (.builtin "object.__init__"))
  kp : PySem.W.keepIn K (.ref C) = true
def tBare (C : Addr) : TE := fun _ H Q => ∀ x dx H', Same H H' → H x = none → H' x = some (.ins C dx []) → Q (.ref x) H'
theorem pe_bare {X : Cx} {C : Addr} {x : Str} {p pos : Pos} (M : Mk0 X.K C) (hg : Gl X x) (hm : X.mg x = some (.ref C)) (hdb : (x == ("__debug__" : Str)) = false := by decide) : PE X (.Call (.Name x p) [] [] pos) (tBare C) := by
  intro pins s σ H Q I h
  refine wpAny_Call_Name_kw (ld_glob I hg hm ?_ hdb)
  refine PySem.W.callWith_K0 I.kIn M.kp ?_
  have I2 := Inv.made (C := C) I
  have f1 : H (s.heap.objs.size + 1) = none := I.hok.fresh (Nat.le_succ _)
  have f2 : H s.heap.objs.size = none := I.hok.fresh (Nat.le_refl _)
  have hq := h (s.heap.objs.size + 1) s.heap.objs.size (upd (upd H s.heap.objs.size (.own (s.heap.objs.size + 1))) (s.heap.objs.size + 1) (.ins C s.heap.objs.size [])) ((same_upd f2).trans (same_upd (by rw [upd_ne (Nat.ne_of_gt (Nat.lt_succ_self _))]; exact f1))) f1 upd_same
  have Y := PySem.W.makes_of (M := model X.prog X.w) I.kIn M.makes
  have kin := I.kIn
  clear I h f1 f2
  obtain ⟨hh, g, d, t, os⟩ := s
  refine wpAny_call (make_map0 kin M.makes M.init (fun self => PySem.W.Looks.of_pure (PySem.W.oi_bind self)) ?_)
  have e2 : ((hh.push PySem.W.emptyDict).push (PySem.W.instObj C hh.objs.size)).get? (hh.objs.size + 1) = some (PySem.W.instObj C hh.objs.size) := by
    have := Heap.get?_push_size (hh.push PySem.W.emptyDict) (o := PySem.W.instObj C hh.objs.size) rfl
    rwa [Heap.size_push] at this
  have t1 : PySem.W.Looks (model X.prog X.w) ((hh.push PySem.W.emptyDict).push (PySem.W.instObj C hh.objs.size)) (typeOf (.ref (hh.objs.size + 1))) (.ref C) := (PySem.W.Looks.ld e2).andThen .now
  have t2 : PySem.W.Looks (model X.prog X.w) ((hh.push PySem.W.emptyDict).push (PySem.W.instObj C hh.objs.size)) (isInstance (.ref (hh.objs.size + 1)) (.type "object")) true := t1.andThen (Y.top.keeps fun b o e => Heap.get?_push_of_some _ (Heap.get?_push_of_some _ e))
  refine codeAny_call_builtin PySem.W.oi_plain PySem.W.entry_oi (@PySem.W.check_slot (model X.prog X.w) _ _ _ "object.__init__" "object" "__init__" (.ref (hh.objs.size + 1)) [] [] _ PySem.W.oi_kind PySem.W.oi_split t2 (PySem.W.oi_args (.ref (hh.objs.size + 1))) ?_)
  rw [PySem.W.oi_run]
  exact wpAny_pure (And.intro rfl ⟨.ref _, _, I2, rfl, hq⟩)
end L2
namespace L2
open PySem PySem.Spec PyProof.Rows PySem.Builtin PySem.Builtin.Str
structure InsK (K : PySem.W.Frag) (C : Addr) : Prop where
  cl : Cls K C
  ha : PySem.W.findIn K (.ref C) "__class__" = some (some (.builtin "object.__class__"))
  hn : PySem.W.specialIn K (.builtin "object.__class__") "__get__" = some (some (.builtin "getset_descriptor.__get__"))
  htk : PySem.W.takesIn K (.builtin "object.__class__") = some true
  hm : PySem.W.mroIn K C (.type "object") = some true
theorem InsK.ty {K : PySem.W.Frag} {H : Hp} {a C dx : Addr} {fs : List (Str × V)} (h : InsK K C) (e : H a = some (.ins C dx fs)) : TyOf K H (.ref a) (.ref C) := .ins e h.cl h.ha h.hn h.htk h.hm
end L2
namespace L2
open PySem PySem.Spec PyProof.Rows PySem.W
structure OrdW (n : Nat) (lt : Nat → Nat → Bool) : Prop where
  as_ : ∀ i j, i < n → j < n → lt i j = true → lt j i = false
  tr : ∀ i j k, i < n → j < n → k < n → lt j i = false → lt k j = false → lt k i = false
theorem OrdW.irr {n : Nat} {lt : Nat → Nat → Bool} (O : OrdW n lt) {i : Nat} (h : i < n) : lt i i = false := by
  cases e : lt i i with
  | false => rfl
  | true => rw [← e]; exact O.as_ i i h h e
def AscW (lt : Nat → Nat → Bool) (p : Array Nat) (b : Nat) : Prop := ∀ x y, x < y → y < b → lt (p.getD y 0) (p.getD x 0) = false
def DscW (lt : Nat → Nat → Bool) (p : Array Nat) (b : Nat) : Prop := ∀ x y, x < y → y < b → lt (p.getD x 0) (p.getD y 0) = false
def EqSeg (lt : Nat → Nat → Bool) (p : Array Nat) (i j : Nat) : Prop := ∀ a b, i ≤ a → a < j → i ≤ b → b < j → lt (p.getD a 0) (p.getD b 0) = false
section
variable {lt : Nat → Nat → Bool} {n : Nat}
theorem asc_kwW (O : OrdW n lt) {p : Array Nat} (hp : PermA n p) : ∀ (f x : Nat), 1 ≤ x → x + f ≤ n → AscW lt p x → KW lt n (kas_asc p f x) (fun m => x ≤ m ∧ m ≤ x + f ∧ AscW lt p m ∧ (m = x + f ∨ lt (p.getD m 0) (p.getD (m - 1) 0) = true))
  | 0, x, h1, hx, ha => by rw [kas_asc.eq_1]; exact ⟨Nat.le_refl _, Nat.le_refl _, ha, .inl rfl⟩
  | f + 1, x, h1, hx, ha => by
    rw [kas_asc.eq_2]
    refine ⟨hp.lt (by omega), hp.lt (by omega), ?_⟩
    cases e : lt (p.getD x 0) (p.getD (x - 1) 0) with
    | true => dsimp only; rw [if_pos rfl]; exact ⟨Nat.le_refl _, by omega, ha, .inr e⟩
    | false =>
      dsimp only
      rw [if_neg Bool.false_ne_true]
      refine KW.mono (fun m hm => ?_) (asc_kwW O hp f (x + 1) (by omega) (by omega) ?_)
      · obtain ⟨m1, m2, m3, m4⟩ := hm
        exact ⟨by omega, by omega, m3, m4.imp (fun z => by omega) id⟩
      · intro a b hab hb
        by_cases hbx : b = x
        · subst hbx
          by_cases hax : a = b - 1
          · subst hax; exact e
          · exact O.tr _ _ _ (hp.lt (by omega)) (hp.lt (by omega)) (hp.lt (by omega)) (ha a (b - 1) (by omega) (by omega)) e
        · exact ha a b hab (by omega)
theorem revW_get {p : Array Nat} (hp : PermA n p) {i m x : Nat} (hm : m ≤ n) : (kas_rev p i m).getD x 0 = if i ≤ x ∧ x < m then p.getD (i + m - 1 - x) 0 else p.getD x 0 := by
  have hs := hp.sz
  unfold kas_rev
  rw [Array.getD_eq_getD_getElem?, getElem?_mirror_all (by omega)]
  split <;> rw [Array.getD_eq_getD_getElem?]
theorem revW_perm {p : Array Nat} (hp : PermA n p) (i m : Nat) : PermA n (kas_rev p i m) := hp.of (mirror_perm _ _ _ _)
theorem seg_same (O : OrdW n lt) {p : Array Nat} (hp : PermA n p) {i m : Nat} (hm : m ≤ n) (hs : EqSeg lt p i m) {a : Nat} (ha : a < n) : lt ((kas_rev p i m).getD a 0) (p.getD a 0) = false ∧ lt (p.getD a 0) ((kas_rev p i m).getD a 0) = false := by
  rw [revW_get hp hm]
  split
  · exact ⟨hs _ _ (by omega) (by omega) (by omega) (by omega), hs _ _ (by omega) (by omega) (by omega) (by omega)⟩
  · exact ⟨O.irr (hp.lt ha), O.irr (hp.lt ha)⟩
theorem seg_le (O : OrdW n lt) {p : Array Nat} (hp : PermA n p) {i m : Nat} (hm : m ≤ n) (hs : EqSeg lt p i m) {a b : Nat} (ha : a < n) (hb : b < n) (h : lt (p.getD a 0) (p.getD b 0) = false) : lt ((kas_rev p i m).getD a 0) ((kas_rev p i m).getD b 0) = false := by
  have hq := revW_perm hp i m
  have h1 := seg_same O hp hm hs ha
  have h2 := seg_same O hp hm hs hb
  exact O.tr _ _ _ (hq.lt hb) (hp.lt ha) (hq.lt ha) (O.tr _ _ _ (hq.lt hb) (hp.lt hb) (hp.lt ha) h2.2 h) h1.1
theorem seg_dsc (O : OrdW n lt) {p : Array Nat} (hp : PermA n p) {i m x : Nat} (hm : m ≤ n) (hx : x ≤ n) (hs : EqSeg lt p i m) (h : DscW lt p x) : DscW lt (kas_rev p i m) x :=
  fun a b hab hb => seg_le O hp hm hs (by omega) (by omega) (h a b hab hb)
theorem desc_kwW (O : OrdW n lt) : ∀ (f : Nat) (p : Array Nat) (x q : Nat), PermA n p → 2 ≤ x → x + f ≤ n → q + 1 ≤ x → DscW lt p x → EqSeg lt p (x - (q + 1)) x →
    KW lt n (kas_desc f p x q) (fun r => PermA n r.1 ∧ x ≤ r.2.1 ∧ r.2.1 ≤ x + f ∧ r.2.2 + 1 ≤ r.2.1 ∧ DscW lt r.1 r.2.1 ∧ EqSeg lt r.1 (r.2.1 - (r.2.2 + 1)) r.2.1)
  | 0, p, x, q, hp, h1, hx, hq, ha, hs => by rw [kas_desc.eq_1]; exact ⟨hp, Nat.le_refl _, Nat.le_refl _, hq, ha, hs⟩
  | f + 1, p, x, q, hp, h1, hx, hq, ha, hs => by
    rw [kas_desc.eq_2]
    refine ⟨hp.lt (by omega), hp.lt (by omega), ?_⟩
    have fin : ∀ {t : KasT (Array Nat × Nat × Nat)}, KW lt n t (fun r => PermA n r.1 ∧ x + 1 ≤ r.2.1 ∧ r.2.1 ≤ x + 1 + f ∧ r.2.2 + 1 ≤ r.2.1 ∧ DscW lt r.1 r.2.1 ∧ EqSeg lt r.1 (r.2.1 - (r.2.2 + 1)) r.2.1) → KW lt n t (fun r => PermA n r.1 ∧ x ≤ r.2.1 ∧ r.2.1 ≤ x + (f + 1) ∧ r.2.2 + 1 ≤ r.2.1 ∧ DscW lt r.1 r.2.1 ∧ EqSeg lt r.1 (r.2.1 - (r.2.2 + 1)) r.2.1) := fun h => KW.mono (fun r ⟨r1, r2, r3, r4, r5, r6⟩ => ⟨r1, by omega, by omega, r4, r5, r6⟩) h
    have one : ∀ (p' : Array Nat), PermA n p' → DscW lt p' x → lt (p'.getD (x - 1) 0) (p'.getD x 0) = false → DscW lt p' (x + 1) := fun p' hp' hd e a b hab hb => by
      by_cases hbx : b = x
      · subst hbx
        by_cases hax : a = b - 1
        · subst hax; exact e
        · exact O.tr _ _ _ (hp'.lt (by omega)) (hp'.lt (by omega)) (hp'.lt (by omega)) e (hd a (b - 1) (by omega) (by omega))
      · exact hd a b hab (by omega)
    have seg1 : ∀ (p' : Array Nat), PermA n p' → EqSeg lt p' (x + 1 - (0 + 1)) (x + 1) := fun p' hp' a b h1 h2 h3 h4 => by
      have ea : a = x := by omega
      have eb : b = x := by omega
      rw [ea, eb]
      exact O.irr (hp'.lt (by omega))
    cases e : lt (p.getD x 0) (p.getD (x - 1) 0) with
    | true =>
      have e2 := O.as_ _ _ (hp.lt (by omega)) (hp.lt (by omega)) e
      dsimp only
      rw [if_pos rfl]
      by_cases hq0 : q > 0
      · rw [if_pos hq0]
        have hp' := revW_perm hp (x - (q + 1)) x
        refine fin (desc_kwW O f _ (x + 1) 0 hp' (by omega) (by omega) (by omega) (one _ hp' (seg_dsc O hp (by omega) (by omega) hs ha) ?_) (seg1 _ hp'))
        exact seg_le O hp (by omega) hs (by omega) (by omega) e2
      · rw [if_neg hq0]
        exact fin (desc_kwW O f _ (x + 1) 0 hp (by omega) (by omega) (by omega) (one _ hp ha e2) (seg1 _ hp))
    | false =>
      dsimp only
      rw [if_neg Bool.false_ne_true]
      refine ⟨hp.lt (by omega), hp.lt (by omega), ?_⟩
      cases e2 : lt (p.getD (x - 1) 0) (p.getD x 0) with
      | true =>
        dsimp only
        rw [if_pos rfl]
        exact ⟨hp, Nat.le_refl _, (show x ≤ x + (f + 1) by omega), hq, ha, hs⟩
      | false =>
        dsimp only
        rw [if_neg Bool.false_ne_true]
        refine fin (desc_kwW O f _ (x + 1) (q + 1) hp (by omega) (by omega) (by omega) (one _ hp ha e2) ?_)
        have key : ∀ a, x - (q + 1) ≤ a → a ≤ x → lt (p.getD a 0) (p.getD x 0) = false ∧ lt (p.getD x 0) (p.getD a 0) = false := fun a h1 h2 => by
          by_cases hax : a = x
          · rw [hax]; exact ⟨O.irr (hp.lt (by omega)), O.irr (hp.lt (by omega))⟩
          · have f1 := hs a (x - 1) (by omega) (by omega) (by omega) (by omega)
            have f2 := hs (x - 1) a (by omega) (by omega) (by omega) (by omega)
            exact ⟨O.tr _ _ _ (hp.lt (by omega)) (hp.lt (by omega)) (hp.lt (by omega)) e2 f1, O.tr _ _ _ (hp.lt (by omega)) (hp.lt (by omega)) (hp.lt (by omega)) f2 e⟩
        intro a b h1 h2 h3 h4
        exact O.tr _ _ _ (hp.lt (by omega)) (hp.lt (show x < n by omega)) (hp.lt (by omega)) (key b (by omega) (by omega)).2 (key a (by omega) (by omega)).1
theorem descPart_kwW (O : OrdW n lt) {p : Array Nat} (hp : PermA n p) {m : Nat} (h1 : 1 ≤ m) (hm : m < n) (hd : DscW lt p (m + 1)) : KW lt n (kas_descPart m n p) (fun r => PermA n r.2 ∧ 1 ≤ r.1 ∧ r.1 ≤ n ∧ AscW lt r.2 r.1) := by
  unfold kas_descPart
  have tail : ∀ {q : Array Nat} {x : Nat}, PermA n q → 1 ≤ x → x ≤ n → DscW lt q x → KW lt n (kas_tail3 x n q) (fun r => PermA n r.2 ∧ 1 ≤ r.1 ∧ r.1 ≤ n ∧ AscW lt r.2 r.1) := fun {q x} hq hx1 hxn hdq => by
    unfold kas_tail3
    have hq' := revW_perm hq 0 x
    refine KW.bind (KW.mono (fun m' hm' => ?_) (asc_kwW O hq' (n - x) x hx1 (by omega) ?_))
    · obtain ⟨a1, a2, a3, _⟩ := hm'
      exact ⟨hq', by show 1 ≤ m'; omega, by show m' ≤ n; omega, a3⟩
    · intro a b hab hb
      rw [revW_get hq hxn, revW_get hq hxn, if_pos ⟨Nat.zero_le _, hb⟩, if_pos ⟨Nat.zero_le _, by omega⟩]
      exact hdq _ _ (by omega) (by omega)
  refine KW.bind (KW.mono (fun r hr => ?_) (desc_kwW O (n - (m + 1)) p (m + 1) 0 hp (by omega) (by omega) (by omega) hd (fun a b h1 h2 h3 h4 => ?_)))
  · obtain ⟨r1, r2, r3, r4, r5, r6⟩ := hr
    by_cases hq : r.2.2 > 0
    · rw [if_pos hq]
      exact tail (revW_perm r1 _ _) (by omega) (by omega) (seg_dsc O r1 (by omega) (by omega) r6 r5)
    · rw [if_neg hq]
      exact tail r1 (by omega) (by omega) r5
  · have ea : a = m := by omega
    have eb : b = m := by omega
    rw [ea, eb]
    exact O.irr (hp.lt hm)
theorem count_kwW (O : OrdW n lt) {p : Array Nat} (hp : PermA n p) (hn : 2 ≤ n) : KW lt n (kas_count n p) (fun r => PermA n r.2 ∧ 1 ≤ r.1 ∧ r.1 ≤ n ∧ AscW lt r.2 r.1) := by
  rw [kas_count.eq_1]
  refine KW.bind (KW.mono (fun m hm => ?_) (asc_kwW O hp (n - 1) 1 (Nat.le_refl _) (by omega) (fun x y h1 h2 => by omega)))
  obtain ⟨m1, m2, m3, m4⟩ := hm
  by_cases hmn : m = n
  · rw [if_pos (by simpa using hmn)]
    exact ⟨hp, by omega, by omega, m3⟩
  · rw [if_neg (by simpa using hmn)]
    have d0 : lt (p.getD m 0) (p.getD (m - 1) 0) = true := by
      rcases m4 with z | z
      · omega
      · exact z
    have d1 := O.as_ _ _ (hp.lt (by omega)) (hp.lt (by omega)) d0
    by_cases h1 : m > 1
    · rw [if_pos h1]
      refine ⟨hp.lt (by omega), hp.lt (by omega), ?_⟩
      cases e : lt (p.getD 0 0) (p.getD (m - 1) 0) with
      | true =>
        dsimp only
        rw [if_pos rfl]
        exact ⟨hp, by omega, by omega, m3⟩
      | false =>
        dsimp only
        rw [if_neg Bool.false_ne_true]
        have le : ∀ a b, a ≤ b → b < m → lt (p.getD b 0) (p.getD a 0) = false := fun a b hab hb => by
          by_cases z : a = b
          · rw [z]; exact O.irr (hp.lt (by omega))
          · exact m3 a b (by omega) hb
        have hs : EqSeg lt p 0 m := fun a b _ ha _ hb => by
          exact O.tr _ _ _ (hp.lt (by omega)) (hp.lt (show 0 < n by omega)) (hp.lt (by omega)) (O.tr _ _ _ (hp.lt (by omega)) (hp.lt (show m - 1 < n by omega)) (hp.lt (by omega)) (le b (m - 1) (by omega) (by omega)) e) (le 0 a (by omega) ha)
        refine descPart_kwW O (revW_perm hp 0 m) (by omega) (by omega) fun a b hab hb => seg_le O hp (by omega) hs (by omega) (by omega) ?_
        by_cases hbm : b = m
        · rw [hbm]
          exact O.tr _ _ _ (hp.lt (by omega)) (hp.lt (show m - 1 < n by omega)) (hp.lt (by omega)) d1 (hs a (m - 1) (by omega) (by omega) (by omega) (by omega))
        · exact hs a b (by omega) (by omega) (by omega) (by omega)
    · rw [if_neg h1]
      have em : m = 1 := by omega
      subst em
      refine descPart_kwW O hp (Nat.le_refl _) (by omega) fun a b hab hb => ?_
      have ea : a = 0 := by omega
      have eb : b = 1 := by omega
      rw [ea, eb]; exact d1
theorem place_kwW (O : OrdW n lt) {p : Array Nat} (hp : PermA n p) {k : Nat} (hk : k < n) (ha : AscW lt p k) : ∀ (f lo hi : Nat), lo ≤ hi → hi ≤ k → hi - lo ≤ f → (∀ j, j < lo → lt (p.getD k 0) (p.getD j 0) = false) → (∀ j, hi ≤ j → j < k → lt (p.getD j 0) (p.getD k 0) = false) →
    KW lt n (kas_place p k f lo hi) (fun l => l ≤ k ∧ (∀ j, j < l → lt (p.getD k 0) (p.getD j 0) = false) ∧ ∀ j, l ≤ j → j < k → lt (p.getD j 0) (p.getD k 0) = false)
  | 0, lo, hi, h1, h2, h3, h4, h5 => by
    rw [kas_place.eq_1]
    exact ⟨by omega, h4, fun j hj => h5 j (by omega)⟩
  | f + 1, lo, hi, h1, h2, h3, h4, h5 => by
    rw [kas_place.eq_2]
    by_cases hlt : lo ≥ hi
    · rw [if_pos hlt]
      exact ⟨by omega, h4, fun j hj => h5 j (by omega)⟩
    · rw [if_neg hlt]
      refine ⟨hp.lt hk, hp.lt (by omega), ?_⟩
      have le : ∀ a b, a ≤ b → b < k → lt (p.getD b 0) (p.getD a 0) = false := fun a b hab hb => by
        by_cases z : a = b
        · rw [z]; exact O.irr (hp.lt (by omega))
        · exact ha a b (by omega) hb
      cases e : lt (p.getD k 0) (p.getD ((lo + hi) / 2) 0) with
      | true =>
        dsimp only
        rw [if_pos rfl]
        have e2 := O.as_ _ _ (hp.lt hk) (hp.lt (by omega)) e
        refine place_kwW O hp hk ha f lo ((lo + hi) / 2) (by omega) (by omega) (by omega) h4 fun j hj hjk => ?_
        exact O.tr _ _ _ (hp.lt hk) (hp.lt (by omega)) (hp.lt (by omega)) e2 (le _ j hj hjk)
      | false =>
        dsimp only
        rw [if_neg Bool.false_ne_true]
        refine place_kwW O hp hk ha f ((lo + hi) / 2 + 1) hi (by omega) h2 (by omega) (fun j hj => ?_) h5
        exact O.tr _ _ _ (hp.lt (by omega)) (hp.lt (show (lo + hi) / 2 < n by omega)) (hp.lt hk) (le j _ (by omega) (by omega)) e
theorem bin_kwW (O : OrdW n lt) : ∀ (f : Nat) (p : Array Nat) (k : Nat), PermA n p → 1 ≤ k → k + f = n → AscW lt p k → KW lt n (kas_bin f p k) (fun q => PermA n q ∧ AscW lt q n)
  | 0, p, k, hp, h1, hk, ha => by
    rw [kas_bin.eq_1]
    have : k = n := by omega
    subst this
    exact ⟨hp, ha⟩
  | f + 1, p, k, hp, h1, hk, ha => by
    rw [kas_bin.eq_2]
    have hkn : k < n := by omega
    have hs := hp.sz
    refine KW.bind (KW.mono (fun l hl => ?_) (place_kwW O hp hkn ha k 0 k (Nat.zero_le _) (Nat.le_refl _) (by omega) (fun j hj => by omega) (fun j h1 h2 => by omega)))
    obtain ⟨l1, l2, l3⟩ := hl
    have hq : PermA n (bubble p k (k - l)) := hp.of (bubble_perm _ _ _)
    refine bin_kwW O f _ (k + 1) hq (by omega) (by omega) ?_
    have hg : ∀ x, (bubble p k (k - l)).getD x 0 = if x = l then p.getD k 0 else if l < x ∧ x ≤ k then p.getD (x - 1) 0 else p.getD x 0 := fun x => by
      rw [Array.getD_eq_getD_getElem?, getElem?_bubble (by omega) (k - l) (by omega), show k - (k - l) = l by omega]
      split
      · rw [Array.getD_eq_getD_getElem?]
      · split <;> rw [Array.getD_eq_getD_getElem?]
    intro x y hxy hy
    rw [hg x, hg y]
    by_cases hx : x = l
    · rw [if_pos hx, if_neg (by omega), if_pos ⟨by omega, by omega⟩]
      exact l3 _ (by omega) (by omega)
    · rw [if_neg hx]
      by_cases hy2 : y = l
      · rw [if_pos hy2, if_neg (by omega)]
        exact l2 _ (by omega)
      · rw [if_neg hy2]
        by_cases hx3 : l < x ∧ x ≤ k
        · rw [if_pos hx3, if_pos ⟨by omega, by omega⟩]
          exact ha _ _ (by omega) (by omega)
        · rw [if_neg hx3]
          by_cases hy3 : l < y ∧ y ≤ k
          · rw [if_pos hy3]
            exact ha _ _ (by omega) (by omega)
          · rw [if_neg hy3]
            exact ha _ _ hxy (by omega)
theorem sort_kwW (O : OrdW n lt) (hn : 2 ≤ n) : KW lt n (kas_sort n) (fun q => PermA n q ∧ AscW lt q n) := by
  unfold kas_sort
  have hp : PermA n (List.range n).toArray := ⟨by simp, by simp⟩
  refine KW.bind (KW.mono (fun r hr => ?_) (count_kwW O hp hn))
  obtain ⟨r1, r2, r3, r4⟩ := hr
  by_cases h : r.1 < n
  · rw [if_pos h, Nat.max_eq_left r2]
    exact bin_kwW O _ _ _ r1 r2 (by omega) r4
  · rw [if_neg h]
    have e : r.1 = n := by omega
    rw [e] at r4
    exact ⟨r1, r4⟩
end
theorem blt_as {k l : List Int} (h : blt k l = true) : blt l k = false := by
  cases e : blt l k with
  | false => rfl
  | true =>
    have := blt_tr k l k h e
    rw [blt_irr] at this; cases this
theorem blt_le {k l m : List Int} (h1 : blt l k = false) (h2 : blt m l = false) : blt m k = false := by
  by_cases e1 : k = l
  · rw [e1]; exact h2
  · by_cases e2 : l = m
    · rw [← e2]; exact h1
    · exact blt_as (blt_tr _ _ _ (blt_tot _ _ (fun z => e1 z.symm) h1) (blt_tot _ _ (fun z => e2 z.symm) h2))
theorem ordKW (ks : List (List Int)) : OrdW ks.length (ltK ks) := ⟨fun _ _ _ _ h => blt_as h, fun _ _ _ _ _ _ h1 h2 => blt_le h1 h2⟩
end L2
namespace L2
open PySem PySem.Spec PyProof.Rows PySem.W
section
variable {prog : Program} {w : World} {A : Around} {E : Value → Shared → Prop} {s : Shared}
theorem sort_tupsW {a : Addr} {vs : List Value} {n : Nat} {P : Fin → Shared → Prop} {ks : List (List Int)} (ho : s.heap.get? a = some (seqObj "list" vs.toArray n)) (h2 : 2 ≤ vs.length) (h64 : vs.length < 64) (hl : vs.length = ks.length)
    (hT : ∀ (i : Nat) v k, vs[i]? = some v → ks[i]? = some k → TupV s.heap v k ∧ k ≠ [])
    (h : ∀ p : Array Nat, PermA ks.length p → AscW (ltK ks) p ks.length → P (.done (.ret .none)) { s with heap := sortedHeap s.heap a vs (p.map fun i => vs.getD i .none) }) : wpAny (model prog w) A (Builtin.«list.sort» ⟨[.ref a], []⟩) P E s := by
  rw [list_sort_plain]
  have la : a < s.heap.objs.size := Heap.lt_size ho
  refine wpAny_bind (listItems_at ho rfl ?_); refine wpAny_bind (listUpdate_at ho rfl ?_)
  obtain ⟨e1, h1⟩ : ∃ e1, (s.heap.update a (Obj.mapSeq fun _ => #[])).get? a = some (seqObj "list" #[] e1) := ⟨_, get?_update_seq ho (fun _ => #[])⟩
  refine wpAny_bind (seqEpoch_at h1 rfl ?_); refine wpAny_bind (wpAny_newTuple ?_ (by simp only [List.toList_toArray]; rw [sizeLine_eq]; omega)); refine wpAny_bind (wpAny_newList ?_); refine wpAny_holding ?_
  have h6 : (((s.heap.update a (Obj.mapSeq fun _ => #[])).push (seqObj "tuple" vs.toArray 0)).push (seqObj "list" #[] 0)).get? a = some (seqObj "list" #[] e1) := by
    rw [Heap.get?_push_ne _ _ _ (by rw [size_push', Heap.size_update]; exact Nat.ne_of_lt (Nat.lt_succ_of_lt la)), Heap.get?_push_ne _ _ _ (by rw [Heap.size_update]; exact Nat.ne_of_lt la)]; exact h1
  show wpAny (model prog w) A _ P E { s with heap := ((s.heap.update a (Obj.mapSeq fun _ => #[])).push (seqObj "tuple" vs.toArray 0)).push (seqObj "list" #[] 0) }
  obtain ⟨s3, es3⟩ : ∃ s3 : Shared, s3 = { s with heap := ((s.heap.update a (Obj.mapSeq fun _ => #[])).push (seqObj "tuple" vs.toArray 0)).push (seqObj "list" #[] 0) } := ⟨_, rfl⟩
  have hT3 : ∀ (i : Nat) v k, vs[i]? = some v → ks[i]? = some k → TupV s3.heap v k ∧ k ≠ [] := fun i v k q1 q2 => by
    obtain ⟨⟨b, o, xs, e, rfl, g1, g2, g3, g4⟩, hne⟩ := hT i v k q1 q2
    refine ⟨⟨b, o, xs, e, rfl, ?_, g2, g3, g4⟩, hne⟩
    have hba : b ≠ a := fun z => by
      subst z
      rw [ho] at g1
      cases g1
      have g2' : (Value.type "list" : Value) = Value.type "tuple" := g2
      injection g2' with e'
      exact absurd e' (by decide)
    rw [es3]
    exact Heap.get?_push_of_some _ (Heap.get?_push_of_some _ ((Heap.SameBut.update s.heap a _).extBut b o hba g1))
  obtain ⟨fs, f1, f2, f3⟩ := kat_of hl hT3
  have z2 : ¬ vs.toArray.size < 2 := by simpa using by omega
  dsimp only
  rw [if_neg z2, if_neg z2, ← es3]
  refine wpAny_bind (kat_kind (T := .type "int") f1 (by omega) (fun v hv => ?_) (by decide) ?_)
  · obtain ⟨i, t, rfl⟩ := f3 v hv
    exact Looks.of_pure rfl
  have hrun := kas_runs (prog := prog) (w := w) (A := A) (E := E) (κ := tuples' true) (it := pairsOf vs) (n := ks.length) (s := s3) (G := fun p s' => s' = s3 ∧ PermA ks.length p ∧ AscW (ltK ks) p ks.length)
    (Q := fun _ st' s' => s' = s3 ∧ failedOf st' = none ∧ ∃ p, arrOf st' = p.map (kas_item (pairsOf vs)) ∧ PermA ks.length p ∧ AscW (ltK ks) p ks.length) (by omega) (by omega)
    (fun p st' s' hz ha hf hG => ⟨hG.1, hf, p, ha, hG.2⟩)
    (KW.run (fun i j C hi hj hC => by
      unfold kas_cmp
      rw [kas_item_eq, kas_item_eq]
      have q1 : vs[i]? = some (vs.getD i .none) := by rw [List.getD_eq_getElem?_getD, List.getElem?_eq_getElem (by omega)]; rfl
      have q2 : vs[j]? = some (vs.getD j .none) := by rw [List.getD_eq_getElem?_getD, List.getElem?_eq_getElem (by omega)]; rfl
      have q3 : ks[i]? = some (ks.getD i []) := by rw [List.getD_eq_getElem?_getD, List.getElem?_eq_getElem hi]; rfl
      have q4 : ks[j]? = some (ks.getD j []) := by rw [List.getD_eq_getElem?_getD, List.getElem?_eq_getElem hj]; rfl
      exact tup_lt (hT3 i _ _ q1 q3).1 (hT3 j _ _ q2 q4).1 hC) (sort_kwW (ordKW ks) (by omega)))
  have est : kas_st (tuples' true) (pairsOf vs) (List.range ks.length).toArray = SortSt.mk' (tuples' true) (vs.toArray.zip vs.toArray) #[] 7 none := by
    unfold kas_st
    have := kas_range (pairsOf vs)
    rw [pairsOf_size, hl] at this
    rw [this]; rfl
  rw [est] at hrun
  show wpAny (model prog w) A (sortRuns'.run (SortSt.mk' (tuples' true) (vs.toArray.zip vs.toArray) #[] 7 none) >>= _) P E s3
  refine wpAny_bind (wpAny_mono hrun (fun r s' hq => ?_) fun _ _ z => z)
  obtain ⟨rfl, hf, p, hp, hq⟩ := hq
  have h6' : s'.heap.get? a = some (seqObj "list" #[] e1) := by rw [es3]; exact h6
  have hz : ((arrOf r.2).map (·.2)).size ≤ sizeLine := by rw [Array.size_map, hp, Array.size_map, hq.1.sz, sizeLine_eq]; omega
  refine wpAny_bind (seqEpoch_at h6' rfl ?_); refine wpAny_bind (listUpdate_at h6' rfl ?_ (hsz2 := Nat.le_succ_of_le hz))
  rw [hf]
  simp only [bne_self_eq_false, Bool.false_eq_true, if_false]
  refine wpAny_pure ?_
  have := h p hq.1 hq.2
  rw [es3]
  rw [hp, Array.map_map]
  have ef : ((fun x : Keyed => x.2) ∘ kas_item (pairsOf vs)) = fun i => vs.getD i .none := by
    funext i
    show (kas_item (pairsOf vs) i).2 = _
    rw [kas_item_eq]
  rw [ef]
  exact this
theorem sort_anyW {a : Addr} {vs : List Value} {n : Nat} {P : Fin → Shared → Prop} {ks : List (List Int)} (ho : s.heap.get? a = some (seqObj "list" vs.toArray n)) (h64 : vs.length < 64) (hl : vs.length = ks.length)
    (hT : ∀ (i : Nat) v k, vs[i]? = some v → ks[i]? = some k → TupV s.heap v k ∧ k ≠ [])
    (h : ∀ idx : List Nat, idx.Perm (List.range ks.length) → (pick idx ks []).Pairwise (fun k l => blt l k = false) → P (.done (.ret .none)) { s with heap := sortedHeap s.heap a vs (pick idx vs .none).toArray }) : wpAny (model prog w) A (Builtin.«list.sort» ⟨[.ref a], []⟩) P E s := by
  by_cases h2 : vs.length < 2
  · refine sort_short ho h2 ?_
    have := h (List.range ks.length) (.refl _) (by
      rw [pick_range]
      match ks, hl with
      | [], _ => exact .nil
      | [k], _ => exact List.pairwise_singleton _ _
      | _ :: _ :: _, hl => simp at hl; omega)
    rw [← hl, pick_range] at this
    rw [zip_snd]
    exact this
  · refine sort_tupsW ho (by omega) h64 hl hT fun p hp ha => ?_
    have e : (p.map fun i => vs.getD i .none) = (pick p.toList vs .none).toArray := by
      apply Array.ext'
      simp [pick]
    rw [e]
    refine h p.toList hp.perm ?_
    rw [List.pairwise_iff_getElem]
    intro i j hi hj hij
    have hs := hp.sz
    have li : i < p.size := by simpa [pick] using hi
    have lj : j < p.size := by simpa [pick] using hj
    have := ha i j hij (by omega)
    unfold ltK at this
    rw [Array.getD_eq_getD_getElem?, Array.getElem?_eq_getElem lj, Array.getD_eq_getD_getElem?, Array.getElem?_eq_getElem li] at this
    simpa [pick] using this
theorem sorted_listW {l : Addr} {vs : List Value} {ks : List (List Int)} {Q : Value → Shared → Prop} (hL : s.heap.IsList l vs.toArray) (h64 : vs.length < 64) (hl : vs.length = ks.length)
    (hT : ∀ (i : Nat) v k, vs[i]? = some v → ks[i]? = some k → TupV s.heap v k ∧ k ≠ [])
    (h : ∀ idx : List Nat, idx.Perm (List.range ks.length) → (pick idx ks []).Pairwise (fun k l => blt l k = false) → Q (.ref (s.heap.objs.size + 1)) { s with heap := sortedAll s.heap vs (pick idx vs .none).toArray }) : wpAny (model prog w) A (call (.builtin "sorted") [.ref l]) Q E s := by
  refine Calls.call_function_entry kind_sorted plain_sorted entry_sorted (args_sorted1 _) ?_
  unfold Builtin.«sorted»; refine wpAny_bind (m := checkCount "sorted" 1 1 _) (wpAny_pure ?_)
  refine wpAny_bind (collect_list hL ?_ (by rw [sizeLine_eq]; omega))
  refine wpAny_bind (wpAny_newList ?_ (by rw [sizeLine_eq]; omega))
  have hsz : ((s.heap.push (seqObj "list" #[] 0)).update s.heap.objs.size (Obj.mapSeq fun x => x ++ vs.toArray)).objs.size = s.heap.objs.size + 1 := by rw [Heap.size_update, size_push']
  have hS : (((s.heap.push (seqObj "list" #[] 0)).update s.heap.objs.size (Obj.mapSeq fun x => x ++ vs.toArray)).push (seqObj "list" vs.toArray 0)).get? (s.heap.objs.size + 1) = some (seqObj "list" vs.toArray 0) := by
    rw [← hsz]; exact Heap.get?_push_size _ rfl
  dsimp only
  rw [hsz]
  have kp : ∀ b ob, s.heap.get? b = some ob → (((s.heap.push (seqObj "list" #[] 0)).update s.heap.objs.size (Obj.mapSeq fun x => x ++ vs.toArray)).push (seqObj "list" vs.toArray 0)).get? b = some ob := fun b ob hb => by
    refine Heap.get?_push_of_some _ ((Heap.SameBut.update _ s.heap.objs.size _).extBut b ob (Nat.ne_of_lt (Heap.lt_size hb)) (Heap.get?_push_of_some _ hb))
  refine wpAny_bind (wpAny_holding (wpAny_call_entry slot_list_sort ⟨_, hS, rfl⟩ entry_list_sort (sort_anyW (s := { s with heap := ((s.heap.push (seqObj "list" #[] 0)).update s.heap.objs.size (Obj.mapSeq fun x => x ++ vs.toArray)).push (seqObj "list" vs.toArray 0) }) hS h64 hl (fun i v k q1 q2 => ?_) fun idx i1 i2 => ⟨_, rfl, ?_⟩) (args_list_sort _)))
  · obtain ⟨⟨b, o, xs, e, e1, g1, g2⟩, hne⟩ := hT i v k q1 q2
    exact ⟨⟨b, o, xs, e, e1, kp _ _ g1, g2⟩, hne⟩
  · exact wpAny_pure ⟨_, rfl, h idx i1 i2⟩
end
section
variable {X : Cx}
def rExtendN : V → List V → Hp → VK → Prop := fun x vs H Q => ∃ l b xs zs, x = .ref l ∧ vs = [.ref b] ∧ H l = some (.lst xs) ∧ H b = some (.lst zs) ∧ xs.length + zs.length ≤ sizeLine ∧ ∀ H', But l H H' → H' l = some (.lst (xs ++ zs)) → Q .non H'
theorem mt_extendN : MtM X "list.extend" rExtendN := mt_extend.imp fun _ _ _ _ ⟨l, b, xs, zs, e1, e2, h, h2, z, q⟩ => ⟨l, b, xs, zs, e1, e2, h, h2, z, q _ but_upd upd_same⟩
def rSortW (K : PySem.W.Frag) : List V → Hp → VK → Prop := fun xs H Q => ∃ (p : Addr) (ys : List V) (ks : List (List Int)), xs = [.ref p] ∧ SqL K H p ys ∧ TupsH H ys ks ∧ ks.length < 64 ∧ (∀ k ∈ ks, k ≠ []) ∧
  ∀ ms zs l H', ms.Perm ks → ms.Pairwise (fun k l => blt l k = false) → TupsH H zs ms → New H H' l (.lst zs) → Q (.ref l) H'
theorem call_sortedW : CallR X (.builtin "sorted") (rSortW X.K) := by
  intro pins s σ H xs us Q I r h
  obtain ⟨p, ys, ks, rfl, hq, hT, h64, hne, q⟩ := h
  obtain ⟨u, rfl, ru⟩ := vals1 r
  cases (show u = Value.ref p from ru)
  obtain ⟨its, rv, pl, hz⟩ := I.list hq
  have l1 := hT.len
  have l2 := rv.length
  refine sorted_listW pl.isList (by omega) (ks := ks) (by omega) (fun i v k q1 q2 => ?_) fun idx i1 i2 => ?_
  · obtain ⟨x, qx⟩ : ∃ x, ys[i]? = some x := ⟨_, List.getElem?_eq_getElem (by have := (List.getElem?_eq_some_iff.mp q2).1; omega)⟩
    obtain ⟨a, rfl, ha⟩ := hT.get qx q2
    have hv : v = Value.ref a := by
      have hx := (List.getElem?_eq_some_iff.mp qx)
      have hvv := (List.getElem?_eq_some_iff.mp q1)
      have := vals_pick.vals_ix rv hx.1 hvv.1
      rw [hx.2, hvv.2] at this
      exact this
    subst hv
    exact ⟨tupV_of I ha, hne k (List.mem_of_getElem? q2)⟩
  · have hi : ∀ i ∈ idx, i < ks.length := fun i h => List.mem_range.mp (i1.mem_iff.mp h)
    obtain ⟨e, he⟩ := sortedAll_at s.heap its (pick idx its .none).toArray
    have vp : Vals (pick idx ys .non) (pick idx its .none) := vals_pick rv (fun i h => by have := hi i h; omega)
    refine ⟨.ref _, _, I.laid (t' := s.toks) (o := .lst (pick idx ys .non)) (fun _ _ => sortedAll_old) (Nat.le_succ _) ⟨?_, pick idx its .none, e, vp, he⟩, rfl, q (pick idx ks []) (pick idx ys .non) _ _ (pick_perm i1) i2 (hT.pick hi) (new_upd (I.hok.fresh (Nat.le_succ _)))⟩
    have := i1.length_eq
    rw [List.length_range] at this
    show (pick idx ys .non).length ≤ _
    unfold pick
    rw [List.length_map, sizeLine_eq]; omega
end
end L2
namespace L2
open PySem PySem.Spec PyProof.Rows
theorem dl_miss : typeLookup (.type "list") "keys" = pure none := am_miss_of_fast (by decide +kernel)
theorem dl_noKeys {prog : Program} {w : World} {A : Around} {E : Value → Shared → Prop} {s : Shared} {a : Addr} {o : Obj} {xs : Array Value} {k : Nat} {Q : Option Value → Shared → Prop}
    (hx : s.heap.get? a = some o) (hc : o.cls = .type "list") (hdat : o.data = .seq xs k) (hd : o.dict = none) (hA : A.handled = none)
    (h : ∀ h' tk e, Heap.NewExcOf s.heap h' e "AttributeError" → Q none { s with heap := h', toks := tk }) :
    wpAny (model prog w) A (getAttr? (.ref a) "keys") Q E s := by
  obtain ⟨c, dct, dat, sl⟩ := o
  simp only at hc hdat hd
  subst hc hdat hd
  obtain ⟨hp, g, d, tk, os⟩ := s
  have hT : ∀ tk', (⟨hp, g, d, tk', os⟩ : Shared).TypeIs (.ref a) "list" := fun _ => ⟨_, hx, rfl⟩
  have f1 := sub_AttributeError
  have f3 := F.slot_list_getattribute.lookup
  have f4 := F.slot_list_getattribute.bind (.ref a)
  have f5 := am_list_getattr_none
  have hn : (["__module__", "__name__", "__qualname__", "__doc__", "__annotations__"] : List Str).contains "keys" = false := by decide +kernel
  unfold getAttr? getAttrBy? getAttrBy
  repeat (any_goals (first | assumption | exact hT _ | ((with_reducible show wpAny _ _ (call (Value.builtin "list.__getattribute__") _ _) _ _ _); refine call_meets F.slot_list_getattribute (hT _) am_entry_list_getattribute (F.args_list_getattribute_2 _ _) (meets_getattribute_miss_list a xs k sl "keys" _ dl_miss hn (by decide +kernel)) ⟨hx, hA, fun h' tk' e hx' => ?_⟩) | wp_step))
  obtain ⟨t', u', he⟩ := hx'.there
  show wpAny _ _ (getattributeRaised _ _ _ _ _ _ _) _ _ _
  unfold getattributeRaised
  have hTe : ∀ tk', (⟨h', g, d, tk', os⟩ : Shared).TypeIs (.ref e) "AttributeError" := fun _ => ⟨_, he, rfl⟩
  repeat (any_goals (first | assumption | exact hTe _ | wp_step))
  exact h _ _ _ hx'.of
theorem dl_plain : plainId "dict.update.loop" = true := by decide +kernel
theorem dl_entry : entryFor table "dict.update.loop" = some Builtin.«dict.update.loop» := entryFor_of_fast (by kernel_rfl)
section
variable {prog : Program} {w : World} {A : Around} {R : Result → Shared → Prop} {I : Addr} {fp wr : List Addr} {n : Nat} {P : Nat → Value → Prop} {St : Nat → Heap → Prop} {K : Type} [DecidableEq K] {knd : KeyKind prog w K}
theorem dl_loop (W : Walks prog w A.in1 I fp wr n P St) (D : Addr) (hDf : D ∉ fp) (res : Value) (rs : List (K × Value)) (hn : n ≤ 1000) (G : Addr → Obj → Prop) (hGw : ∀ a o, G a o → a ∉ wr ∧ a ≠ D)
    (hP : ∀ i v, P i v → ∃ a o key k val m, v = .ref a ∧ G a o ∧ o.cls = .type "tuple" ∧ o.data = .seq #[key, val] m ∧ knd.is k key = true ∧ rs[i]? = some (k, val)) (hl : rs.length = n) :
    ∀ (k i : Nat) (z : Int) (t : Tok) (s : Shared), n - i = k → i ≤ n → St i s.heap → s.heap.DictOf knd D (merged [] (rs.take i)) → (∀ a o, G a o → s.heap.get? a = some o) →
    (∀ h' tk, h'.DictOf knd D (merged [] rs) → (∀ b o, b ∉ wr → b ≠ D → s.heap.get? b = some o → h'.get? b = some o) → R (.ok (.ret res)) { s with heap := h', toks := tk }) →
    codeAny (model prog w) A (.builtin "dict.update.loop" ⟨[.ref D, .ref I, .int z t, res], []⟩) R s := by
  have hDw : D ∉ wr := fun h => hDf (W.sub _ h)
  intro k
  induction k with
  | zero =>
    intro i z t s hk hi hst hd hg hR
    have hin : i = n := by omega
    subst hin
    rw [← hl, List.take_length] at hd
    refine codeAny_builtin dl_entry ?_
    rw [Around.under_plainId dl_plain _]
    show wpAny _ A.in1 (pyNext (.ref I) >>= _) _ _ s
    refine wpAny_bind (W.done s _ _ hst fun h' tk hm => ?_)
    show wpAny _ _ (Builtin.Dict.addKeywords D [] >>= _) _ _ _
    refine wpAny_bind (wpAny_pure (wpAny_pure (hR h' tk ?_ fun b o hb _ e => hm b o hb e)))
    obtain ⟨o, es, ep, ho, r⟩ := hd
    exact ⟨o, es, ep, hm D o hDw ho, r⟩
  | succ k ih =>
    intro i z t s hk hi hst hd hg hR
    have hlt : i < n := by omega
    refine codeAny_builtin dl_entry ?_
    rw [Around.under_plainId dl_plain _]
    show wpAny _ A.in1 (pyNext (.ref I) >>= _) _ _ s
    refine wpAny_bind (W.item i s _ _ hlt hst fun v h' tk hp hst' hm => ?_)
    obtain ⟨a, o, key, kk, val, m, rfl, ga, hc, hdat, hkey, hrs⟩ := hP i v hp
    have ha' := hm a o (hGw a o ga).1 (hg a o ga)
    obtain ⟨o1, es, ep, ho1, rr⟩ := hd
    have hd' : h'.DictOf knd D (merged [] (rs.take i)) := ⟨o1, es, ep, hm D o1 hDw ho1, rr⟩
    have lm : (merged ([] : List (K × Value)) (rs.take i)).length ≤ sizeLine := by
      have := merged_length_le ([] : List (K × Value)) (rs.take i)
      rw [List.length_take, List.length_nil] at this
      rw [sizeLine_eq]; omega
    show wpAny _ A.in1 (holding [Value.ref a] _ >>= _) _ _ _
    refine wpAny_bind (wpAny_holding (wpAny_bind (wpAny_tryCatch ?_)))
    unfold Builtin.Dict.pairItems
    refine wpAny_bind (wpAny_typeOf (T := "tuple") ⟨o, ha', hc⟩ ?_)
    rw [if_pos (by decide)]
    refine wpAny_bind (wpAny_seqItems ha' hdat (wpAny_pure ?_))
    show wpAny _ A.in1 (holding [key, val] (dictSet D key val)) _ _ _
    refine wpAny_holding (wpAny_dictSet_pairs (hsz := lm) hkey hd' fun h2 hd2 hs2 => ?_)
    refine wpAny_pure ⟨plainId_quiet dl_plain _, ih (i + 1) (z + 1) 0 _ (by omega) hlt (W.frame _ _ _ hst' fun b hb o e => ?_) ?_ (fun b o gb => ?_) fun h3 tk3 hd3 hk3 => ?_⟩
    · exact (hs2.2 b (fun h : b = D => hDf (by rw [← h]; exact hb))).trans e
    · rw [merged_take_succ [] rs i (kk, val) hrs]
      exact hd2
    · exact (hs2.2 b (hGw b o gb).2).trans (hm b o (hGw b o gb).1 (hg b o gb))
    · exact hR h3 tk3 hd3 fun b o hb hbD e => hk3 b o hb hbD ((hs2.2 b hbD).trans (hm b o hb e))
end
end L2
namespace L2
open PySem PySem.Spec PyProof.Rows
section
variable {prog : Program} {w : World} {A : Around} {E : Value → Shared → Prop} {s : Shared} {K : Type} [DecidableEq K] {knd : KeyKind prog w K}
theorem dl_call {p : Addr} {its : List Value} {rs : List (K × Value)} {Q : Value → Shared → Prop} (hl : PlainL s.heap p its.toArray) (hA : A.handled = none) (hA1 : A.in1.handled = none) (hn : its.length ≤ 1000) (hlen : rs.length = its.length)
    (hP : ∀ (i : Nat) v, its[i]? = some v → ∃ a o key k val m, v = .ref a ∧ s.heap.get? a = some o ∧ o.cls = .type "tuple" ∧ o.data = .seq #[key, val] m ∧ knd.is k key = true ∧ rs[i]? = some (k, val))
    (h : ∀ h' tk, h'.DictOf knd s.heap.objs.size (merged [] rs) → (∀ b o, s.heap.get? b = some o → h'.get? b = some o) → Q (.ref s.heap.objs.size) { s with heap := h', toks := tk }) :
    wpAny (model prog w) A (call (.type "dict") [.ref p]) Q E s := by
  refine callType_codes (Q₁ := fun obj s₁ => obj = .ref s.heap.objs.size ∧ s₁ = { s with heap := s.heap.push { cls := .type "dict", data := .dict #[] } }) F.kt_called_dict (F.kt_typeCall_dict_1 _) F.entry_dict_init (kt_code_dict_new _ ⟨rfl, rfl⟩) ?_
  rintro obj s₁ ⟨rfl, rfl⟩
  have hnew : (s.heap.push { cls := .type "dict", data := .dict #[] }).DictOf knd s.heap.objs.size [] := Heap.DictOf.new s.heap
  obtain ⟨ol, nl, e1, e2, e3, e4⟩ := hl
  have hpl : p < s.heap.objs.size := Heap.lt_size e1
  have e1' := Heap.get?_push_of_some { cls := Value.type "dict", data := Data.dict #[] } e1
  refine ⟨hnew.typeIs, F.args_dict_init_2 _ _, ?_⟩
  unfold Builtin.«dict.__init__»
  refine wpAny_bind ?_
  unfold Builtin.Dict.selfAndRest
  refine wpAny_bind (wpAny_notOrdered_dict hnew.typeIs ?_)
  show wpAny _ _ (pure (s.heap.objs.size, [Value.ref p])) _ _ _
  refine wpAny_pure ?_
  show wpAny _ _ (Builtin.Dict.updateFrom "dict.__init__" s.heap.objs.size (.ref p) [] .none) _ _ _
  unfold Builtin.Dict.updateFrom
  refine wpAny_bind (wpAny_typeOf (T := "list") ⟨ol, e1', e2⟩ ?_)
  rw [if_pos (by decide)]
  refine wpAny_bind (dl_noKeys e1' e2 e4 e3 hA1 fun h1 tk1 ex hx => ?_)
  have e1'' := hx.keeps _ _ e1'
  have hl1 : h1.IsList p its.toArray := PlainL.isList ⟨ol, nl, e1'', e2, e3, e4⟩
  have hsz : s.heap.objs.size < h1.objs.size := by
    obtain ⟨o, _, _, ho, _⟩ := hnew
    exact Heap.lt_size (hx.keeps _ _ ho)
  have hpi : p ≠ h1.objs.size := Nat.ne_of_lt (Nat.lt_trans hpl hsz)
  rw [if_pos (show (none : Option Value).isNone = true from rfl)]
  refine wpAny_bind (wpAny_rule (wpAny_bind (wpAny_pyIter_list hl1 ?_)))
  have W := Walks.list (prog := prog) (w := w) (A := A.in1.in1) hA h1.objs.size p hpi its.toArray
  have keep : ∀ b o, s.heap.get? b = some o → (h1.push { cls := Value.type "list_iterator", data := Data.fields #[Value.ref p, Value.int 0 0] }).get? b = some o := fun b o q =>
    Heap.get?_push_of_some _ (hx.keeps _ _ (Heap.get?_push_of_some _ q))
  refine wpAny_pure ⟨plainId_quiet dl_plain _, dl_loop (A := A.in1) (knd := knd) W s.heap.objs.size ?_ .none rs (by simpa using hn) (fun a o => s.heap.get? a = some o) (fun a o q => ?_) (fun i v q => ?_) (by simpa using hlen) _ 0 0 0 _ rfl (Nat.zero_le _) ⟨⟨_, Heap.get?_push_size _ rfl, rfl, rfl⟩, hl1.push _⟩ ?_ (fun a o q => keep a o q) fun h' tk hd' hk => ?_⟩
  · intro hm
    simp only [List.mem_cons, List.not_mem_nil, or_false] at hm
    rcases hm with e | e
    · exact absurd e (Nat.ne_of_lt hsz)
    · exact absurd e.symm (Nat.ne_of_lt hpl)
  · have lt := Heap.lt_size q
    exact ⟨fun hm => absurd (List.mem_singleton.mp hm) (Nat.ne_of_lt (Nat.lt_trans lt hsz)), Nat.ne_of_lt lt⟩
  · exact hP i v (by simpa using q)
  · obtain ⟨o, es, ep, ho, r⟩ := hnew
    exact ⟨o, es, ep, Heap.get?_push_of_some _ (hx.keeps _ _ ho), r⟩
  · refine ⟨rfl, h h' tk hd' fun b o q => ?_⟩
    have lt := Heap.lt_size q
    exact hk b o (fun hm => absurd (List.mem_singleton.mp hm) (Nat.ne_of_lt (Nat.lt_trans lt hsz))) (Nat.ne_of_lt lt) (keep b o q)
end
def PairsD (H : Hp) (ys : List V) (kvs : List (Key × V)) : Prop := Paired (fun (v : V) (kv : Key × V) => ∃ a, v = .ref a ∧ H a = some (.tup [kV kv.1, kv.2])) ys kvs
theorem dl_rel {X : Cx} {pins : List (Addr × Obj)} {σ : St} {H : Hp} {s : Shared} (I : Inv X pins σ H s) : ∀ {ys : List V} {kvs : List (Key × V)} {its : List Value}, PairsD H ys kvs → Vals ys its → ∃ rs : List (Key × Value), rs.length = its.length ∧ KV kvs rs ∧
    ∀ (i : Nat) v, its[i]? = some v → ∃ a o key k val m, v = .ref a ∧ s.heap.get? a = some o ∧ o.cls = .type "tuple" ∧ o.data = .seq #[key, val] m ∧ (mixKind X.prog X.w).is k key = true ∧ rs[i]? = some (k, val)
  | _, _, _, .nil, .nil => ⟨[], rfl, .nil, fun i v h => by simp at h⟩
  | _, _, _, .cons (a := y) (b := kv) ⟨a, e, ha⟩ t, .cons (b := u) ru tu => by
    subst e
    cases (show u = Value.ref a from ru)
    obtain ⟨rs, hl, rel, hP⟩ := dl_rel I t tu
    obtain ⟨its2, rv, ⟨o, eo, ec, n, ed⟩, _⟩ := I.tuple (SqT.of ha)
    obtain ⟨k1, v1, rfl, rk, rw'⟩ := Vals.two rv
    refine ⟨(kv.1, v1) :: rs, by rw [List.length_cons, List.length_cons, hl], .cons ⟨rfl, rw'⟩ rel, fun i v h => ?_⟩
    cases i with
    | zero =>
      cases h
      exact ⟨a, o, k1, kv.1, v1, n, rfl, eo, ec, ed, kV_is rk, rfl⟩
    | succ i => exact hP i v h
theorem call_dictL {X : Cx} (hc : X.calm = true) : CallR X (.type "dict") (fun xs H Q => ∃ (p : Addr) (ys : List V) (kvs : List (Key × V)), xs = [.ref p] ∧ SqL X.K H p ys ∧ PairsD H ys kvs ∧ ys.length ≤ 1000 ∧ ∀ q H', New H H' q (.dK (mergeK [] kvs)) → Q (.ref q) H') := by
  intro pins s σ H xs us Q I r h
  obtain ⟨p, ys, kvs, rfl, hq, hp, hz, q⟩ := h
  obtain ⟨u, rfl, ru⟩ := vals1 r
  cases (show u = Value.ref p from ru)
  obtain ⟨its, rv, pl, _⟩ := I.list hq
  obtain ⟨rs, hl, rel, hP⟩ := dl_rel I hp rv
  have hlen : its.length = ys.length := (Paired.length rv).symm
  have hk : kvs.length = ys.length := (Paired.length hp).symm
  refine dl_call pl (I.ok.hd hc) (I.ok.hd hc) (by omega) hl hP fun h' tk hd hk' => ?_
  refine ⟨.ref s.heap.objs.size, _, I.laid (a := s.heap.objs.size) (o := .dK (mergeK [] kvs)) (h' := h') (t' := tk) hk' (Nat.le_refl _) ?_, rfl, q _ _ (new_upd (I.hok.fresh (Nat.le_refl _)))⟩
  have lm := length_mergeK kvs []
  rw [List.length_nil] at lm
  refine dk_new (by rw [sizeLine_eq]; omega) ?_ (rel.merge .nil) hd
  exact beq_false_of_ne (Nat.ne_of_gt I.big)
theorem bt_dict : bootBuiltins "dict" = some (.type "dict") := by decide +kernel
end L2
namespace TB
def mixN (c k : Int) : Int := (c % 2147483647 + 7919 * k + 1) * 48271 % 2147483647
def mixed (c k : Int) : Int := mixN c k * (mixN c k / 1009 + 69621) % 2147483647
theorem mixed_b (c k : Int) : 0 ≤ mixed c k ∧ mixed c k < 2147483647 := by
  unfold mixed
  exact ⟨Int.emod_nonneg _ (by decide), Int.emod_lt_of_pos _ (by decide)⟩
def amount (x : Int) : Int := if x % 4 = 0 then 0 else if x % 4 = 1 then x / 4 % 5 else if x % 4 = 2 then x / 4 % 100 else x / 4 * (10 ^ 12 + 39)
theorem amount_b {x : Int} (h : 0 ≤ x) (h2 : x < 2147483647) : 0 ≤ amount x ∧ amount x < 10 ^ 22 := by
  unfold amount
  split
  · omega
  · split
    · omega
    · split <;> omega
def factor (x : Int) : Int := 1 + (if x % 3 = 0 then 0 else if x % 3 = 1 then x / 3 % 12 else x / 3 % 10 ^ 7)
theorem factor_b (x : Int) : 1 ≤ factor x ∧ factor x ≤ 10 ^ 7 := by
  unfold factor
  split
  · omega
  · split <;> omega
def ageAt (c : Int) : Nat → Int
  | 0 => amount (mixed c 0)
  | k + 1 => ageAt c k + amount (mixed c (2 * (k : Int) + 2))
def widthAt (c : Int) : Nat → Int
  | 0 => 1
  | k + 1 => widthAt c k * factor (mixed c (2 * (k : Int) + 1))
theorem amt_b (c k : Int) : 0 ≤ amount (mixed c k) ∧ amount (mixed c k) < 10 ^ 22 := amount_b (mixed_b c k).1 (mixed_b c k).2
theorem ageAt_b (c : Int) : ∀ k : Nat, 0 ≤ ageAt c k ∧ ageAt c k < 10 ^ 22 * ((k : Int) + 1)
  | 0 => by have := amt_b c 0; simp only [ageAt]; omega
  | k + 1 => by
    have h1 := ageAt_b c k
    have h2 := amt_b c (2 * (k : Int) + 2)
    simp only [ageAt]; omega
theorem widthAt_b (c : Int) : ∀ k : Nat, 1 ≤ widthAt c k ∧ widthAt c k ≤ (10 ^ 7) ^ k
  | 0 => by simp [widthAt]
  | k + 1 => by
    have h1 := widthAt_b c k
    have h2 := factor_b (mixed c (2 * (k : Int) + 1))
    simp only [widthAt]
    constructor
    · have : 1 * 1 ≤ widthAt c k * factor (mixed c (2 * (k : Int) + 1)) := Int.mul_le_mul h1.1 h2.1 (by omega) (by omega)
      omega
    · rw [Int.pow_succ]
      exact Int.mul_le_mul h1.2 h2.2 (by omega) (by omega)
structure Good (ps : List (Int × Int)) : Prop where
  lo : 1 ≤ ps.length
  hi : ps.length ≤ 5
  each : ∀ (i : Nat) p, ps[i]? = some p → 0 ≤ p.1 ∧ 1 ≤ p.2
  next : ∀ (i : Nat) p q, ps[i]? = some p → ps[i + 1]? = some q → p.1 ≤ q.1 ∧ q.2 % p.2 = 0
def GoneOk (g : Option Int) (last : Int) : Prop := ∀ z, g = some z → last ≤ z
end TB
namespace TB
def cut (d a w : Int) : Int := (d - a) / w * w
def Bd (x : Int) : Prop := -(10 ^ 45) < x ∧ x < 10 ^ 45
def Sized (ps : List (Int × Int)) : Prop := ∀ (i : Nat) p, ps[i]? = some p → 0 ≤ p.1 ∧ p.1 < 10 ^ 45 ∧ 1 ≤ p.2 ∧ p.2 < 10 ^ 45
theorem cut_le {d a w : Int} (hw : 1 ≤ w) : cut d a w ≤ d - a := by
  have h := Int.emod_add_mul_ediv (d - a) w
  have h1 := Int.emod_nonneg (d - a) (show w ≠ 0 by omega)
  unfold cut
  rw [Int.mul_comm] at h
  omega
theorem cut_gt {d a w : Int} (hw : 1 ≤ w) : d - a < cut d a w + w := by
  have h := Int.emod_add_mul_ediv (d - a) w
  have h1 := Int.emod_lt_of_pos (d - a) (show 0 < w by omega)
  unfold cut
  rw [Int.mul_comm] at h
  omega
theorem cut_bd {d a w : Int} (hd : Bd d) (ha : 0 ≤ a) (ha' : a < 10 ^ 45) (hw : 1 ≤ w) (hw' : w < 10 ^ 45) : -(4 * 10 ^ 45) < cut d a w ∧ cut d a w < 4 * 10 ^ 45 := by
  have h1 := cut_le (d := d) (a := a) hw
  have h2 := cut_gt (d := d) (a := a) hw
  unfold Bd at hd
  omega
def rowsOf (ps : List (Int × Int)) (g : Option Int) : List (Int × Int) :=
  ps ++ (match g with
    | none => []
    | some z => [(z, (ps.getLast?.getD (0, 1)).2)])
theorem last_get {ps : List (Int × Int)} {p : Int × Int} (h : ps[ps.length - 1]? = some p) : ps.getLast?.getD (0, 1) = p := by
  rw [List.getLast?_eq_getElem?, h]; rfl
theorem rows_good {ps : List (Int × Int)} {g : Option Int} (G : Good ps) (hg : ∀ p, ps[ps.length - 1]? = some p → GoneOk g p.1) :
    (∀ (i : Nat) p, (rowsOf ps g)[i]? = some p → 0 ≤ p.1 ∧ 1 ≤ p.2) ∧ ∀ (i : Nat) p q, (rowsOf ps g)[i]? = some p → (rowsOf ps g)[i + 1]? = some q → p.1 ≤ q.1 ∧ q.2 % p.2 = 0 := by
  have hl := G.lo
  obtain ⟨p0, hp0⟩ : ∃ p, ps[ps.length - 1]? = some p := ⟨ps[ps.length - 1]'(by omega), List.getElem?_eq_getElem _⟩
  have e0 := last_get hp0
  cases g with
  | none =>
    have e : rowsOf ps none = ps := by simp [rowsOf]
    rw [e]
    exact ⟨G.each, G.next⟩
  | some z =>
    have e : rowsOf ps (some z) = ps ++ [(z, p0.2)] := by simp only [rowsOf]; rw [e0]
    have hz := hg p0 hp0 z rfl
    have h0 := G.each _ _ hp0
    rw [e]
    refine ⟨fun i p h => ?_, fun i p q h h' => ?_⟩
    · by_cases hi : i < ps.length
      · rw [List.getElem?_append_left hi] at h
        exact G.each i p h
      · rw [List.getElem?_append_right (by omega)] at h
        have : i - ps.length = 0 := by
          have := (List.getElem?_eq_some_iff.mp h).1
          simp at this; omega
        rw [this] at h
        simp at h
        subst h
        exact ⟨by show 0 ≤ z; omega, h0.2⟩
    · by_cases hi : i + 1 < ps.length
      · rw [List.getElem?_append_left hi] at h'
        rw [List.getElem?_append_left (by omega)] at h
        exact G.next i p q h h'
      · have h1 := (List.getElem?_eq_some_iff.mp h').1
        simp at h1
        have hi' : i = ps.length - 1 := by omega
        rw [List.getElem?_append_right (by omega)] at h'
        rw [List.getElem?_append_left (by omega), hi', hp0] at h
        rw [show i + 1 - ps.length = 0 by omega] at h'
        simp at h'
        cases h
        subst h'
        exact ⟨hz, Int.emod_self⟩
end TB
namespace TB
end TB
namespace TB
open PySem L2
def PairAt (H : Hp) (v : V) (p : Int × Int) : Prop := ∃ a, v = .ref a ∧ H a = some (.tup [.int p.1, .int p.2])
def Pairs (H : Hp) (xs : List V) (ps : List (Int × Int)) : Prop := Paired (PairAt H) xs ps
theorem PairAt.same {H H' : Hp} (s : Same H H') {v : V} {p : Int × Int} : PairAt H v p → PairAt H' v p := fun ⟨a, e, h⟩ => ⟨a, e, s _ _ h⟩
def TupS (H H' : Hp) : Prop := ∀ b xs, H b = some (.tup xs) → H' b = some (.tup xs)
theorem Same.tup {H H' : Hp} (s : Same H H') : TupS H H' := fun b xs h => s b _ h
theorem TupS.refl (H : Hp) : TupS H H := fun _ _ h => h
theorem TupS.trans {H H1 H2 : Hp} (a : TupS H H1) (b : TupS H1 H2) : TupS H H2 := fun c o h => b c o (a c o h)
theorem PairAt.tupS {H H' : Hp} (s : TupS H H') {v : V} {p : Int × Int} : PairAt H v p → PairAt H' v p := fun ⟨a, e, h⟩ => ⟨a, e, s _ _ h⟩
theorem Pairs.tupS {H H' : Hp} (s : TupS H H') : ∀ {xs : List V} {ps : List (Int × Int)}, Pairs H xs ps → Pairs H' xs ps
  | _, _, .nil => .nil
  | _, _, .cons r t => .cons (r.tupS s) (Pairs.tupS s t)
theorem Pairs.same {H H' : Hp} (s : Same H H') {xs : List V} {ps : List (Int × Int)} (h : Pairs H xs ps) : Pairs H' xs ps := Pairs.tupS (Same.tup s) h
theorem Pairs.length {H : Hp} : ∀ {xs : List V} {ps : List (Int × Int)}, Pairs H xs ps → xs.length = ps.length
  | _, _, .nil => rfl
  | _, _, .cons _ t => by simp [Pairs.length t]
theorem Pairs.get {H : Hp} : ∀ {xs : List V} {ps : List (Int × Int)} {i : Nat} {x : V}, Pairs H xs ps → xs[i]? = some x → ∃ p, ps[i]? = some p ∧ PairAt H x p
  | _, _, _, _, .nil, e => by simp at e
  | _, _, 0, _, .cons r _, e => by simp at e; subst e; exact ⟨_, rfl, r⟩
  | _, _, i + 1, x, .cons _ t, e => by
    obtain ⟨u, h1, h2⟩ := Pairs.get (i := i) (x := x) t (by simpa using e)
    exact ⟨u, by simpa using h1, h2⟩
theorem Pairs.get' {H : Hp} : ∀ {xs : List V} {ps : List (Int × Int)} {i : Nat} {p : Int × Int}, Pairs H xs ps → ps[i]? = some p → ∃ x, xs[i]? = some x ∧ PairAt H x p
  | _, _, _, _, .nil, e => by simp at e
  | _, _, 0, _, .cons r _, e => by simp at e; subst e; exact ⟨_, rfl, r⟩
  | _, _, i + 1, x, .cons _ t, e => by
    obtain ⟨u, h1, h2⟩ := Pairs.get' (i := i) (p := x) t (by simpa using e)
    exact ⟨u, by simpa using h1, h2⟩
theorem Pairs.snoc {H : Hp} {v : V} {p : Int × Int} (r : PairAt H v p) : ∀ {xs : List V} {ps : List (Int × Int)}, Pairs H xs ps → Pairs H (xs ++ [v]) (ps ++ [p])
  | _, _, .nil => .cons r .nil
  | _, _, .cons q t => .cons q (Pairs.snoc r t)
def dPair (p : Int × Int) : PyData := .tuple [.int p.1, .int p.2]
def dPairs (ps : List (Int × Int)) : PyData := .list (ps.map dPair)
theorem Pairs.reps {K : PySem.W.Frag} {H : Hp} : ∀ {xs : List V} {ps : List (Int × Int)}, Pairs H xs ps → Reps K H xs (ps.map dPair)
  | _, _, .nil => .nil
  | _, _, .cons ⟨a, e, h⟩ t => by
    subst e
    exact .cons (.tup (SqT.of h) (.cons (.int _) (.cons (.int _) .nil))) (Pairs.reps t)
theorem Pairs.rep {K : PySem.W.Frag} {H : Hp} {l : Addr} {xs : List V} {ps : List (Int × Int)} (h : H l = some (.lst xs)) (r : Pairs H xs ps) : Rep K H (.ref l) (dPairs ps) := .lst (SqL.of h) r.reps
theorem reps_ints {K : PySem.W.Frag} {H : Hp} : ∀ ns : List Int, Reps K H (ns.map V.int) (ns.map PyData.int)
  | [] => .nil
  | n :: r => .cons (.int n) (reps_ints r)
theorem lay_intsA : ∀ ns : List Int, PyData.canLayAll0 (ns.map PyData.int) = true
  | [] => rfl
  | n :: r => by simp [PyData.canLayAll0, PyData.canLay0, lay_intsA r]
theorem dep_intsA : ∀ ns : List Int, PyData.depthAll (ns.map PyData.int) = 0
  | [] => rfl
  | n :: r => by simp [PyData.depthAll, PyData.depth, dep_intsA r]
def gv : Option Int → V
  | none => .non
  | some i => .int i
def rf (l : Addr) (g : V) : List (Str × V) := putF "gone_age" g (putF "kept_steps" (.ref l) [])
structure RuleAt (C : Addr) (H : Hp) (r l : Addr) (ps : List (Int × Int)) (g : Option Int) : Prop where
  ob : ∃ dx, H r = some (.ins C dx (rf l (gv g)))
  ls : ∃ xs, H l = some (.lst xs) ∧ Pairs H xs ps
theorem RuleAt.same {C : Addr} {H H' : Hp} {r l : Addr} {ps : List (Int × Int)} {g : Option Int} (s : Same H H') (h : RuleAt C H r l ps g) : RuleAt C H' r l ps g :=
  ⟨let ⟨dx, e⟩ := h.ob; ⟨dx, s _ _ e⟩, let ⟨xs, e, p⟩ := h.ls; ⟨xs, s _ _ e, p.same s⟩⟩
theorem atI_m1 {xs : List V} {v : V} (h : xs[xs.length - 1]? = some v) : atI xs (-1) = some v := by
  have hl : xs.length - 1 < xs.length := (List.getElem?_eq_some_iff.mp h).1
  have e : ixN xs.length (-1) = some (xs.length - 1) := by
    unfold ixN
    rw [if_neg (by decide), if_pos (by omega)]
    congr 1; omega
  unfold atI
  rw [e]; exact h
def sp_law (K : PySem.W.Frag) : Sp := fun vs H Q _ => ∃ (a : Addr) (ns : List Int), vs = [.ref a] ∧ SqL K H a (ns.map V.int) ∧ ns.length ≤ 63 ∧ ∀ H', Q (.bl true) H'
end TB
namespace TB
open PySem L2
theorem New.after {H H1 H2 : Hp} {p : Addr} {o : HO} (s : Same H H1) (n : New H1 H2 p o) : New H H2 p o := ⟨s.trans n.same, s.free n.fresh, n.at_⟩
def lw (ps : List (Int × Int)) : Int := (ps.getLast?.getD (0, 1)).2
def eV (ps : List (Int × Int)) (g : Option Int) (d : Int) : List V := (ps.map fun p => V.int (cut d p.1 p.2)) ++ [gv (g.map fun z => cut d z (lw ps))]
def GBd (g : Option Int) : Prop := ∀ z, g = some z → 0 ≤ z ∧ z < 10 ^ 45
structure Pr (ps : List (Int × Int)) (g : Option Int) : Prop where
  good : Good ps
  size : Sized ps
  gone : ∀ p, ps[ps.length - 1]? = some p → GoneOk g p.1
  gb : GBd g
theorem Pr.last {ps : List (Int × Int)} {g : Option Int} (P : Pr ps g) : ∃ p, ps[ps.length - 1]? = some p ∧ lw ps = p.2 := by
  have hl := P.good.lo
  refine ⟨ps[ps.length - 1]'(by omega), List.getElem?_eq_getElem _, ?_⟩
  unfold lw
  rw [last_get (List.getElem?_eq_getElem _)]
theorem RuleAt.but {C : Addr} {H H' : Hp} {r l m : Addr} {o : HO} {ps : List (Int × Int)} {g : Option Int} (h : RuleAt C H r l ps g) (b : But m H H') (hm : H m = some o) (nt : ∀ xs, o ≠ .tup xs) (n1 : r ≠ m) (n2 : l ≠ m) : RuleAt C H' r l ps g :=
  ⟨let ⟨dx, e⟩ := h.ob; ⟨dx, b _ _ e n1⟩, let ⟨xs, e, p⟩ := h.ls; ⟨xs, b _ _ e n2, p.tupS (b.tup hm nt)⟩⟩
theorem Pairs.but {H H' : Hp} {m : Addr} {o : HO} {xs : List V} {ps : List (Int × Int)} (h : Pairs H xs ps) (b : But m H H') (hm : H m = some o) (nt : ∀ xs, o ≠ .tup xs) : Pairs H' xs ps := h.tupS (b.tup hm nt)
def dV : V → PyData
  | .int i => .int i
  | _ => .none
def Ed (v : V) : Prop := v = .non ∨ ∃ i, v = .int i
end TB
namespace TB
open PySem L2
end TB
namespace TB
def mc (p e : Int × Int) : Int := (e.1 - p.1 + e.2 - 1) / p.2
def endsOf (ps : List (Int × Int)) (z : Int) : List (Int × Int) := ps.drop 1 ++ [(z, (ps.getLast?.getD (0, 1)).2)]
theorem ends_len {ps : List (Int × Int)} {z : Int} (h : 1 ≤ ps.length) : (endsOf ps z).length = ps.length := by unfold endsOf; simp; omega
theorem ends_get {ps : List (Int × Int)} {z : Int} {k : Nat} (h : k < ps.length) : (endsOf ps z)[k]? = (rowsOf ps (some z))[k + 1]? := by
  unfold endsOf rowsOf
  by_cases hk : k + 1 < ps.length
  · rw [List.getElem?_append_left (by simp; omega), List.getElem?_append_left hk, List.getElem?_drop, Nat.add_comm]
  · rw [List.getElem?_append_right (by simp; omega), List.getElem?_append_right (by omega)]
    have e1 : k - (ps.drop 1).length = 0 := by simp; omega
    have e2 : k + 1 - ps.length = 0 := by omega
    rw [e1, e2]
end TB
namespace TB
open PySem L2
theorem gname_ {i : Nat} {v : V} {σ : St} {H : Hp} {K : St → Hp → Prop} (h : K (σ.set i (some v)) H) : gName i v σ H K := h
theorem Pairs.drop {H : Hp} {xs : List V} {ps : List (Int × Int)} (h : Pairs H xs ps) (n : Nat) : Pairs H (xs.drop n) (ps.drop n) := by
  induction n generalizing xs ps with
  | zero => exact h
  | succ n ih =>
    cases h with
    | nil => exact .nil
    | cons r t => exact ih t
theorem lc_zipN {K : PySem.W.Frag} {a b : Addr} {xs ys : List V} {g : TG} {tc : TT} {te : TE} {Q : VK} {σ : St} {H : Hp} (Pv : Nat → List V → Hp → Prop) (hz : xs.length ≤ sizeLine) (h0 : Pv 0 [] H) (hl : ∀ i zs H, Pv i zs H → SqL K H a xs ∧ SqL K H b ys ∧ zs.length ≤ i)
    (hs : ∀ i x y zs H p H', xs[i]? = some x → ys[i]? = some y → New H H' p (.tup [x, y]) → Pv i zs H → g (.ref p) σ H' fun σ4 H4 => tc σ4 H4 fun b H5 => if b = true then te σ4 H5 fun v H6 => Pv (i + 1) (zs ++ [v]) H6 else Pv (i + 1) zs H5)
    (hd : ∀ i zs H p H', i = min xs.length ys.length → Pv i zs H → New H H' p (.lst zs) → Q (.ref p) H') : lcGoal (Itz K a b) Q g tc te σ H :=
  lc_zip Pv hz h0 hl (fun i x y zs H p e1 e2 hn p' => hs i x y zs H p _ e1 e2 (new_upd hn) p') fun i zs H p e p' hp => hd i zs H p _ e p' (new_upd hp)
end TB
namespace TB
open PySem L2
theorem Pr.pair {ps : List (Int × Int)} {z : Int} (P : Pr ps (some z)) {k : Nat} (hk : k < ps.length) : ∃ p e, ps[k]? = some p ∧ (endsOf ps z)[k]? = some e ∧ (rowsOf ps (some z))[k]? = some p ∧ (rowsOf ps (some z))[k + 1]? = some e ∧ 1 ≤ p.2 ∧ p.2 < 10 ^ 45 ∧ 1 ≤ e.2 ∧ e.2 % p.2 = 0 := by
  have hl := P.good.lo
  obtain ⟨r1, r2⟩ := rows_good P.good P.gone
  have h1 : ps[k]? = some ps[k] := List.getElem?_eq_getElem hk
  have h2 : (rowsOf ps (some z))[k]? = some ps[k] := by
    unfold rowsOf
    rw [List.getElem?_append_left hk]; exact h1
  have hlen : k < (endsOf ps z).length := by rw [ends_len hl]; exact hk
  have h3 : (endsOf ps z)[k]? = some (endsOf ps z)[k] := List.getElem?_eq_getElem hlen
  have h4 := (ends_get (z := z) hk).symm.trans h3
  have h5 := P.size k _ h1
  obtain ⟨h6, h7⟩ := r2 k _ _ h2 h4
  exact ⟨_, _, h1, h3, h2, h4, h5.2.2.1, h5.2.2.2, (r1 _ _ h4).2, h7⟩
end TB
namespace TB
open PySem L2
def gE : V → V → V
  | .non, y => y
  | .int i, .int j => .int (if j > i then j else i)
  | x, _ => x
theorem takeN {α : Type} (xs : List α) (i : Nat) (x : α) (h : xs[i]? = some x) : xs.take (i + 1) = xs.take i ++ [x] := by
  rw [List.take_succ, h]; rfl
def EdL (xs : List V) : Prop := ∃ (ns : List Int) (g : Option Int), xs = ns.map V.int ++ [gv g] ∧ 1 ≤ ns.length ∧ ns.length ≤ 5
theorem gv_ed (g : Option Int) : Ed (gv g) := by cases g with
  | none => exact .inl rfl
  | some z => exact .inr ⟨z, rfl⟩
theorem EdL.ed {xs : List V} (h : EdL xs) : ∀ v ∈ xs, Ed v := by
  obtain ⟨ns, g, rfl, _, _⟩ := h
  intro v hv
  rcases List.mem_append.mp hv with z | z
  · obtain ⟨i, _, e⟩ := List.mem_map.mp z; exact .inr ⟨i, e.symm⟩
  · rw [List.mem_singleton.mp z]; exact gv_ed g
theorem EdL.len {xs : List V} (h : EdL xs) : 2 ≤ xs.length ∧ xs.length ≤ 6 := by
  obtain ⟨ns, g, rfl, h1, h2⟩ := h
  simp only [List.length_append, List.length_map, List.length_singleton]; omega
def notN (v : V) : Bool := !decide (v = V.non)
theorem lc_tupN {K : PySem.W.Frag} {a : Addr} {xs : List V} {g : TG} {tc : TT} {te : TE} {Q : VK} {σ : St} {H : Hp} (Pv : Nat → List V → Hp → Prop) (hz : xs.length ≤ sizeLine) (h0 : Pv 0 [] H) (hl : ∀ i ys H, Pv i ys H → SqT K H a xs ∧ ys.length ≤ i)
    (hs : ∀ i x ys H, xs[i]? = some x → Pv i ys H → g x σ H fun σ4 H4 => tc σ4 H4 fun b H5 => if b = true then te σ4 H5 fun v H6 => Pv (i + 1) (ys ++ [v]) H6 else Pv (i + 1) ys H5)
    (hd : ∀ ys H p H', Pv xs.length ys H → New H H' p (.lst ys) → Q (.ref p) H') : lcGoal (Itt K a) Q g tc te σ H :=
  lc_tup Pv hz h0 hl hs fun ys H p p' hp => hd ys H p _ p' (new_upd hp)
end TB
namespace TB
open PySem L2
def psOf (c c' : Int) (n : Nat) : List (Int × Int) := (List.range n).map fun k => (ageAt c' (k + 1), widthAt c (k + 1))
def gnOf (c' : Int) (n : Nat) : Option Int := if 0 < c' / 5 % 3 then some (ageAt c' n + amount (mixed c' 20)) else none
theorem rng_get {α : Type} (f : Nat → α) {n k : Nat} (h : k < n) : ((List.range n).map f)[k]? = some (f k) := by
  rw [List.getElem?_map, List.getElem?_range h]; rfl
theorem rng_of {α : Type} {f : Nat → α} {n k : Nat} {x : α} (h : ((List.range n).map f)[k]? = some x) : k < n ∧ x = f k := by
  have hk : k < n := by have := (List.getElem?_eq_some_iff.mp h).1; simpa using this
  rw [rng_get f hk] at h
  exact ⟨hk, (Option.some.inj h).symm⟩
theorem good2 (c c' : Int) {n : Nat} (h1 : 1 ≤ n) (h5 : n ≤ 5) : Good (psOf c c' n) where
  lo := by simpa [psOf] using h1
  hi := by simpa [psOf] using h5
  each := fun i p h => by
    obtain ⟨_, rfl⟩ := rng_of h
    exact ⟨(ageAt_b c' _).1, (widthAt_b c _).1⟩
  next := fun i p q h h' => by
    obtain ⟨_, rfl⟩ := rng_of h
    obtain ⟨_, rfl⟩ := rng_of h'
    refine ⟨?_, ?_⟩
    · have := amt_b c' (2 * ((i + 1 : Nat) : Int) + 2)
      show ageAt c' (i + 1) ≤ ageAt c' (i + 1) + _
      omega
    · show widthAt c (i + 1) * _ % widthAt c (i + 1) = 0
      exact Int.mul_emod_right _ _
theorem w_b (c : Int) {k n : Nat} (h : k < n) (h5 : n ≤ 5) : 1 ≤ widthAt c (k + 1) ∧ widthAt c (k + 1) ≤ 10 ^ 35 := by
  have h2 := widthAt_b c (k + 1)
  have h4 : ((10 : Int) ^ 7) ^ (k + 1) ≤ 10 ^ 35 := by
    have : k + 1 = 1 ∨ k + 1 = 2 ∨ k + 1 = 3 ∨ k + 1 = 4 ∨ k + 1 = 5 := by omega
    rcases this with e | e | e | e | e <;> rw [e] <;> decide
  omega
theorem pr2 (c c' : Int) {n : Nat} (h1 : 1 ≤ n) (h5 : n ≤ 5) : Pr (psOf c c' n) (gnOf c' n) := by
  refine ⟨good2 c c' h1 h5, fun i p h => ?_, fun p h z hz => ?_, fun z hz => ?_⟩
  · obtain ⟨hi, rfl⟩ := rng_of h
    have a1 := ageAt_b c' (i + 1)
    have a2 := w_b c hi h5
    refine ⟨a1.1, ?_, a2.1, ?_⟩
    · show ageAt c' (i + 1) < 10 ^ 45; omega
    · show widthAt c (i + 1) < 10 ^ 45; omega
  · obtain ⟨hi, rfl⟩ := rng_of h
    have e : (psOf c c' n).length - 1 + 1 = n := by simp [psOf]; omega
    show ageAt c' ((psOf c c' n).length - 1 + 1) ≤ z
    rw [e]
    unfold gnOf at hz
    have := amt_b c' 20
    split at hz
    · cases hz; omega
    · cases hz
  · unfold gnOf at hz
    have a1 := amt_b c' 20
    have a2 := ageAt_b c' n
    split at hz
    · cases hz; omega
    · cases hz
def EB (x : Int) : Prop := -(4 * 10 ^ 45) < x ∧ x < 4 * 10 ^ 45
structure EdS (EV : List V) (es : List Int) (ge : Option Int) : Prop where
  eq : EV = es.map V.int ++ [gv ge]
  bd : ∀ x ∈ es, EB x
  gb : ∀ z, ge = some z → EB z
theorem EdS.ed {EV : List V} {es : List Int} {ge : Option Int} (h : EdS EV es ge) : ∀ v ∈ EV, Ed v := by
  intro v hv
  rw [h.eq] at hv
  rcases List.mem_append.mp hv with z | z
  · obtain ⟨i, _, e⟩ := List.mem_map.mp z; exact .inr ⟨i, e.symm⟩
  · rw [List.mem_singleton.mp z]; exact gv_ed ge
theorem EdS.of {ps : List (Int × Int)} {g : Option Int} {d : Int} (P : Pr ps g) (hd : Bd d) : EdS (eV ps g d) (ps.map fun p => cut d p.1 p.2) (g.map fun z => cut d z (lw ps)) := by
  refine ⟨by unfold eV; rw [List.map_map]; rfl, fun x hx => ?_, fun z hz => ?_⟩
  · obtain ⟨p, hp, rfl⟩ := List.mem_map.mp hx
    obtain ⟨i, hi, e⟩ := List.getElem_of_mem hp
    have hs := P.size i p (by rw [← e]; exact List.getElem?_eq_getElem hi)
    exact cut_bd hd hs.1 hs.2.1 hs.2.2.1 hs.2.2.2
  · cases g with
    | none => cases hz
    | some y =>
      cases hz
      obtain ⟨p, hp, ep⟩ := P.last
      have hs := P.size _ p hp
      have hg := P.gb y rfl
      rw [ep]
      exact cut_bd hd hg.1 hg.2 hs.2.2.1 hs.2.2.2
def gmax : Option Int → Option Int → Option Int
  | none, y => y
  | some i, some j => some (if j > i then j else i)
  | x, none => x
theorem gE_gv (x y : Option Int) : gE (gv x) (gv y) = gv (gmax x y) := by cases x <;> cases y <;> rfl
theorem EdS.max {E1 E2 : List V} {a b : List Int} {g1 g2 : Option Int} (h1 : EdS E1 a g1) (h2 : EdS E2 b g2) (hl : a.length = b.length) : EdS (List.zipWith gE E1 E2) (List.zipWith (fun i j => if j > i then j else i) a b) (gmax g1 g2) := by
  refine ⟨?_, fun x hx => ?_, fun z hz => ?_⟩
  · rw [h1.eq, h2.eq, List.zipWith_append (by simpa using hl)]
    congr 1
    · rw [List.zipWith_map_left, List.zipWith_map_right, List.map_zipWith]; rfl
    · show [gE (gv g1) (gv g2)] = _
      rw [gE_gv]
  · obtain ⟨i, hi, e⟩ := List.getElem_of_mem hx
    have hi' := hi
    rw [List.length_zipWith] at hi'
    have hia : i < a.length := by omega
    have hib : i < b.length := by omega
    rw [List.getElem_zipWith] at e
    have e1 := h1.bd a[i] (List.getElem_mem _)
    have e2 := h2.bd b[i] (List.getElem_mem _)
    rw [← e]
    split
    · exact e2
    · exact e1
  · cases g1 with
    | none => exact h2.gb z hz
    | some i =>
      cases g2 with
      | none => exact h1.gb z hz
      | some j =>
        have e1 := h1.gb i rfl
        have e2 := h2.gb j rfl
        simp only [gmax, Option.some.injEq] at hz
        rw [← hz]
        split
        · exact e2
        · exact e1
def wl (ws es : List Int) (t : Int) : List Int := ((ws.zip es).filter fun x => decide (t < x.2)).map (·.1)
def goneB (ge : Option Int) (t : Int) : Prop := ∃ z, ge = some z ∧ t < z
def CellOf (ws es : List Int) (ge : Option Int) (t : Int) (o : Option (Int × Int)) : Prop :=
  (∀ e0, es[0]? = some e0 → (e0 ≤ t → o = some (t, 0)) ∧ (t < e0 → (goneB ge t → o = none) ∧ (¬ goneB ge t → ∃ w, (wl ws es t)[(wl ws es t).length - 1]? = some w ∧ o = some (t / w * w, w))))
def CellAt (H : Hp) (v : V) (o : Option (Int × Int)) : Prop := match o with
  | none => v = .non
  | some p => PairAt H v p
theorem CellAt.same {H H' : Hp} {v : V} {o : Option (Int × Int)} (s : Same H H') (h : CellAt H v o) : CellAt H' v o := by
  cases o with
  | none => exact h
  | some p => exact PairAt.same s h
theorem CellOf.uniq {ws es : List Int} {ge : Option Int} {t : Int} {o o' : Option (Int × Int)} {e0 : Int} (h0 : es[0]? = some e0) (h : CellOf ws es ge t o) (h' : CellOf ws es ge t o') : o = o' := by
  obtain ⟨a1, a2⟩ := h e0 h0
  obtain ⟨b1, b2⟩ := h' e0 h0
  by_cases hc : e0 ≤ t
  · rw [a1 hc, b1 hc]
  · have hlt : t < e0 := by omega
    by_cases hg : goneB ge t
    · rw [(a2 hlt).1 hg, (b2 hlt).1 hg]
    · obtain ⟨w, hw, rfl⟩ := (a2 hlt).2 hg
      obtain ⟨w', hw', rfl⟩ := (b2 hlt).2 hg
      rw [hw] at hw'
      cases hw'
      rfl
def sp_lcell (K : PySem.W.Frag) : Sp := fun vs H Q _ => ∃ (a : Addr) (ns : List Int) (k : Int), vs = [.ref a, .int k] ∧ SqL K H a (List.map V.int ns) ∧ 0 ≤ k ∧ ∀ i, Q (.int i) H
theorem CellOf.a {ws es : List Int} {ge : Option Int} {t e0 : Int} (h0 : es[0]? = some e0) (h : e0 ≤ t) : CellOf ws es ge t (some (t, 0)) := fun x hx => by
  rw [h0] at hx; cases hx
  exact ⟨fun _ => rfl, fun h' => absurd h (by omega)⟩
theorem CellOf.b {ws es : List Int} {ge : Option Int} {t e0 : Int} (h0 : es[0]? = some e0) (h : t < e0) (hg : goneB ge t) : CellOf ws es ge t none := fun x hx => by
  rw [h0] at hx; cases hx
  exact ⟨fun h' => absurd h (by omega), fun _ => ⟨fun _ => rfl, fun n => absurd hg n⟩⟩
theorem CellOf.c {ws es : List Int} {ge : Option Int} {t e0 w : Int} (h0 : es[0]? = some e0) (h : t < e0) (hg : ¬ goneB ge t) (hw : (wl ws es t)[(wl ws es t).length - 1]? = some w) : CellOf ws es ge t (some (t / w * w, w)) := fun x hx => by
  rw [h0] at hx; cases hx
  exact ⟨fun h' => absurd h (by omega), fun _ => ⟨fun n => absurd n hg, fun _ => ⟨w, hw, rfl⟩⟩⟩
theorem sq_mono {K : PySem.W.Frag} {H H' : Hp} {a : Addr} {xs : List V} (s : Same H H') (h : SqL K H a xs) : SqL K H' a xs := by
  rcases h with (h | ⟨o, h⟩) | h
  · exact .inl (.inl (s _ _ h))
  · exact .inl (.inr ⟨o, s _ _ h⟩)
  · exact .inr h
theorem notN_ints : ∀ es : List Int, (es.map V.int).filter notN = es.map V.int
  | [] => rfl
  | e :: r => by rw [List.map_cons, List.filter_cons_of_pos (by rfl), notN_ints r]
theorem known (es : List Int) (ge : Option Int) : (es.map V.int ++ [gv ge]).filter notN = (es ++ ge.toList).map V.int := by
  rw [List.filter_append, notN_ints, List.map_append]
  cases ge <;> rfl
theorem lc_listN {K : PySem.W.Frag} {a : Addr} {xs : List V} {g : TG} {tc : TT} {te : TE} {Q : VK} {σ : St} {H : Hp} (Pv : Nat → List V → Hp → Prop) (hz : xs.length ≤ sizeLine) (h0 : Pv 0 [] H) (hl : ∀ i ys H, Pv i ys H → SqL K H a xs ∧ ys.length ≤ i)
    (hs : ∀ i x ys H, xs[i]? = some x → Pv i ys H → g x σ H fun σ4 H4 => tc σ4 H4 fun b H5 => if b = true then te σ4 H5 fun v H6 => Pv (i + 1) (ys ++ [v]) H6 else Pv (i + 1) ys H5)
    (hd : ∀ ys H p H', Pv xs.length ys H → New H H' p (.lst ys) → Q (.ref p) H') : lcGoal (Itl K a) Q g tc te σ H :=
  lc_list Pv hz h0 hl hs fun ys H p p' hp => hd ys H p _ p' (new_upd hp)
end TB
namespace TB
open PySem L2
def RunOk (p : Int × Int) : Prop := (-(10 ^ 40) < p.1 ∧ p.1 < 10 ^ 40) ∧ 1 ≤ p.2 ∧ p.2 < 10 ^ 40
def RunsOk (rs : List (Int × Int)) : Prop := ∀ p ∈ rs, RunOk p
def RunT (p : Int × Int) : Prop := (-(10 ^ 31) < p.1 ∧ p.1 < 10 ^ 31) ∧ 1 ≤ p.2 ∧ p.2 < 10 ^ 31
def RunsT (rs : List (Int × Int)) : Prop := ∀ p ∈ rs, RunT p
theorem RunT.ok {p : Int × Int} (h : RunT p) : RunOk p := by unfold RunT at h; unfold RunOk; omega
theorem RunsT.ok {rs : List (Int × Int)} (h : RunsT rs) : RunsOk rs := fun p hp => (h p hp).ok
def vals (rs : List (Int × Int)) : List Int := rs.map fun p => p.1
def cnts (rs : List (Int × Int)) : List Int := rs.map fun p => p.2
def prds (rs : List (Int × Int)) : List Int := rs.map fun p => p.1 * p.2
def rN (rs : List (Int × Int)) : Int := (cnts rs).sum
def rT (rs : List (Int × Int)) : Int := (prds rs).sum
structure HeapOf (rs : List (Int × Int)) (vm vt vl vg : Int) : Prop where
  m : vm = rN rs
  t : vt = rT rs
  lo : vl ∈ vals rs
  lo' : ∀ a ∈ vals rs, vl ≤ a
  hi : vg ∈ vals rs
  hi' : ∀ a ∈ vals rs, a ≤ vg
theorem HeapOf.uniq {rs : List (Int × Int)} {m t lo hi m' t' lo' hi' : Int} (a : HeapOf rs m t lo hi) (b : HeapOf rs m' t' lo' hi') : m = m' ∧ t = t' ∧ lo = lo' ∧ hi = hi' := by
  have h1 := a.lo' _ b.lo
  have h2 := b.lo' _ a.lo
  have h3 := a.hi' _ b.hi
  have h4 := b.hi' _ a.hi
  exact ⟨a.m.trans b.m.symm, a.t.trans b.t.symm, by omega, by omega⟩
theorem rN_cons (p : Int × Int) (rs : List (Int × Int)) : rN (p :: rs) = p.2 + rN rs := by simp [rN, cnts]
theorem rT_cons (p : Int × Int) (rs : List (Int × Int)) : rT (p :: rs) = p.1 * p.2 + rT rs := by simp [rT, prds]
theorem rN_app (rs qs : List (Int × Int)) : rN (rs ++ qs) = rN rs + rN qs := by
  induction rs with
  | nil => simp [rN, cnts]
  | cons p r ih => rw [List.cons_append, rN_cons, rN_cons, ih]; omega
theorem rT_app (rs qs : List (Int × Int)) : rT (rs ++ qs) = rT rs + rT qs := by
  induction rs with
  | nil => simp [rT, prds]
  | cons p r ih => rw [List.cons_append, rT_cons, rT_cons, ih]; omega
theorem rN_rev (rs : List (Int × Int)) : rN rs.reverse = rN rs := by
  induction rs with
  | nil => rfl
  | cons p r ih => rw [List.reverse_cons, rN_app, ih, rN_cons, rN_cons]; simp [rN, cnts]; omega
theorem rT_rev (rs : List (Int × Int)) : rT rs.reverse = rT rs := by
  induction rs with
  | nil => rfl
  | cons p r ih => rw [List.reverse_cons, rT_app, ih, rT_cons, rT_cons]; simp [rT, prds]; omega
theorem vals_app (rs qs : List (Int × Int)) : vals (rs ++ qs) = vals rs ++ vals qs := by simp [vals]
theorem HeapOf.rev {rs : List (Int × Int)} {m t lo hi : Int} (a : HeapOf rs m t lo hi) : HeapOf rs.reverse m t lo hi := by
  have e : ∀ x, x ∈ vals rs.reverse ↔ x ∈ vals rs := fun x => by simp [vals]
  exact ⟨by rw [rN_rev]; exact a.m, by rw [rT_rev]; exact a.t, (e _).mpr a.lo, fun x hx => a.lo' x ((e x).mp hx), (e _).mpr a.hi, fun x hx => a.hi' x ((e x).mp hx)⟩
theorem HeapOf.app {rs qs : List (Int × Int)} {m t lo hi m' t' lo' hi' : Int} (a : HeapOf rs m t lo hi) (b : HeapOf qs m' t' lo' hi') : HeapOf (rs ++ qs) (m + m') (t + t') (if lo' < lo then lo' else lo) (if hi' > hi then hi' else hi) := by
  refine ⟨by rw [rN_app, a.m, b.m], by rw [rT_app, a.t, b.t], ?_, ?_, ?_, ?_⟩
  · rw [vals_app]
    split
    · exact List.mem_append_right _ b.lo
    · exact List.mem_append_left _ a.lo
  · intro x hx
    rw [vals_app] at hx
    rcases List.mem_append.mp hx with h | h
    · have := a.lo' x h
      split <;> omega
    · have := b.lo' x h
      split <;> omega
  · rw [vals_app]
    split
    · exact List.mem_append_right _ b.hi
    · exact List.mem_append_left _ a.hi
  · intro x hx
    rw [vals_app] at hx
    rcases List.mem_append.mp hx with h | h
    · have := a.hi' x h
      split <;> omega
    · have := b.hi' x h
      split <;> omega
theorem RunsOk.sub {rs qs : List (Int × Int)} (h : RunsOk rs) (s : ∀ p ∈ qs, p ∈ rs) : RunsOk qs := fun p hp => h p (s p hp)
theorem rN_b {rs : List (Int × Int)} (h : RunsOk rs) : (rs.length : Int) ≤ rN rs ∧ rN rs ≤ rs.length * 10 ^ 40 := by
  induction rs with
  | nil => simp [rN, cnts]
  | cons p r ih =>
    have h1 := ih fun q hq => h q (List.mem_cons_of_mem _ hq)
    have h2 := h p List.mem_cons_self
    unfold RunOk at h2
    rw [rN_cons]
    simp only [List.length_cons]
    omega
theorem rN_bT {rs : List (Int × Int)} (h : RunsT rs) : rN rs ≤ rs.length * 10 ^ 31 := by
  induction rs with
  | nil => simp [rN, cnts]
  | cons p r ih =>
    have h1 := ih fun q hq => h q (List.mem_cons_of_mem _ hq)
    have h2 := h p List.mem_cons_self
    unfold RunT at h2
    rw [rN_cons]
    simp only [List.length_cons]
    omega
theorem mem_vals {rs : List (Int × Int)} (h : RunsOk rs) {v : Int} (hv : v ∈ vals rs) : -(10 ^ 40) < v ∧ v < 10 ^ 40 := by
  obtain ⟨p, hp, rfl⟩ := List.mem_map.mp hv
  exact (h p hp).1
def dTup (ns : List Int) : PyData := .tuple (ns.map PyData.int)
theorem lay_tup (ns : List Int) : (dTup ns).canLay0 = true := by simp [dTup, PyData.canLay0, lay_intsA]
theorem rep_tup {K : PySem.W.Frag} {H : Hp} {a : Addr} {ns : List Int} (h : H a = some (.tup (ns.map V.int))) : Rep K H (.ref a) (dTup ns) := .tup (SqT.of h) (reps_ints ns)
theorem Pairs.app {H : Hp} : ∀ {xs ys : List V} {ps qs : List (Int × Int)}, Pairs H xs ps → Pairs H ys qs → Pairs H (xs ++ ys) (ps ++ qs)
  | _, _, _, _, .nil, h => h
  | _, _, _, _, .cons r t, h => .cons r (Pairs.app t h)
theorem Pairs.rev {H : Hp} : ∀ {xs : List V} {ps : List (Int × Int)}, Pairs H xs ps → Pairs H xs.reverse ps.reverse
  | _, _, .nil => .nil
  | _, _, .cons r t => by
    rw [List.reverse_cons, List.reverse_cons]
    exact Pairs.snoc r (Pairs.rev t)
theorem Pairs.take {H : Hp} : ∀ {xs : List V} {ps : List (Int × Int)} (k : Nat), Pairs H xs ps → Pairs H (xs.take k) (ps.take k)
  | _, _, 0, _ => by simp; exact .nil
  | _, _, k + 1, .nil => by simp; exact .nil
  | _, _, k + 1, .cons r t => .cons r (Pairs.take k t)
theorem cutFrom (xs : List V) (k : Nat) (h : k ≤ xs.length) : cutV xs (some (k : Int)) none = xs.drop k := by
  unfold cutV
  rw [HT.sIx_none, HT.sIx_nat, Nat.min_eq_left h]
  exact List.take_of_length_le (by simp)
theorem mapN' (f : Int × Int → Int) (rs : List (Int × Int)) {i : Nat} {p : Int × Int} (h : rs[i]? = some p) : ((rs.take (i + 1)).map f).map V.int = ((rs.take i).map f).map V.int ++ [V.int (f p)] := by
  rw [List.take_succ, h]
  simp
theorem lc_pairs {K : PySem.W.Frag} {l : Addr} {xs : List V} {rs : List (Int × Int)} {te : TE} {Q : VK} {σ : St} {H : Hp} (f : Int × Int → Int) (hl : H l = some (.lst xs)) (hp : Pairs H xs rs) (hz : rs.length ≤ 200)
    (hs : ∀ p ∈ rs, ∀ Q' : VK, Q' (.int (f p)) H → te ((σ.set 0 (some (.int p.1))).set 1 (some (.int p.2))) H Q')
    (hd : ∀ a H', New H H' a (.lst ((rs.map f).map V.int)) → Q (.ref a) H') : lcGoal (Itl K l) Q (gTup K 2 (gCons (gName 0) (gCons (gName 1) gNil))) tYes te σ H := by
  have hlen := hp.length
  refine lc_listN (xs := xs) (fun i ys H2 => H2 = H ∧ ys = ((rs.take i).map f).map V.int) (Nat.le_of_lt (small1000 (by omega))) ⟨rfl, rfl⟩ (fun i ys H2 h2 => ⟨SqL.of (by rw [h2.1]; exact hl), by rw [h2.2]; simp; omega⟩) ?_ ?_
  · rintro i x ys H2 hi ⟨rfl, rfl⟩
    obtain ⟨p, hpi, a, rfl, ha⟩ := hp.get hi
    refine ⟨a, _, rfl, SqT.of ha, rfl, _, _, rfl, _, _, rfl, rfl, yes_ (iteT ?_)⟩
    refine hs p (List.mem_of_getElem? hpi) _ ⟨rfl, ?_⟩
    rw [mapN' f rs hpi]
  · rintro ys H2 a H' ⟨rfl, rfl⟩ n
    rw [hlen, List.take_length] at n
    exact hd a H' n
theorem lc_runs {K : PySem.W.Frag} {l : Addr} {ms : List Int} {te : TE} {Q : VK} {σ : St} {H : Hp} (hl : H l = some (.lst (ms.map V.int))) (hz : ms.length ≤ 63)
    (hs : ∀ m H2 (Q' : VK), Same H H2 → (∀ a p H3, New H2 H3 a (.tup [.int p.1, .int p.2]) → RunT p → Q' (.ref a) H3) → te (σ.set 0 (some (.int m))) H2 Q')
    (hd : ∀ a xs rs H1 H', Same H H1 → New H1 H' a (.lst xs) → Pairs H' xs rs → RunsT rs → rs.length = ms.length → Q (.ref a) H') : lcGoal (Itl K l) Q (gName 0) tYes te σ H := by
  refine lc_listN (xs := ms.map V.int) (fun i ys H2 => Same H H2 ∧ ys.length = i ∧ ∃ rs, Pairs H2 ys rs ∧ RunsT rs) (Nat.le_of_lt (small1000 (by simp; omega))) ⟨Same.refl _, rfl, [], .nil, fun p hp => by cases hp⟩ (fun i ys H2 h2 => ⟨SqL.of (h2.1 _ _ hl), by omega⟩) ?_ ?_
  · rintro i x ys H2 hi ⟨s2, hy, rs, hp, ok⟩
    rw [List.getElem?_map] at hi
    obtain ⟨m, _, rfl⟩ := Option.map_eq_some_iff.mp hi
    refine gname_ (yes_ (iteT (hs m H2 _ s2 fun a p H3 n3 op => ⟨s2.trans n3.same, by simp [hy], rs ++ [p], Pairs.snoc ⟨a, rfl, n3.at_⟩ (hp.same n3.same), fun q hq => ?_⟩)))
    rcases List.mem_append.mp hq with h | h
    · exact ok q h
    · rw [List.mem_singleton.mp h]; exact op
  · rintro ys H2 a H' ⟨s2, hy, rs, hp, ok⟩ n
    refine hd a ys rs H2 H' s2 n (hp.same n.same) ok ?_
    rw [← hp.length, hy, List.length_map]
theorem len3 {xs : List Int} (h : xs.length = 3) : ∃ a b c, xs = [a, b, c] := by
  match xs, h with
  | [a, b, c], _ => exact ⟨a, b, c, rfl⟩
def XB (x : Int) : Prop := 0 ≤ x ∧ x < 10 ^ 41
def sp_stream : Sp := fun vs H Q _ => ∃ (c : Int) (k : Nat), vs = [.int c, .int (k : Int)] ∧ k ≤ 10 ∧ ∀ l (xs : List Int) H', New H H' l (.lst (xs.map V.int)) → xs.length = k → (∀ x ∈ xs, XB x) → Q (.ref l) H'
def sp_run : Sp := fun vs H Q _ => ∃ c k, vs = [.int c, .int k] ∧ 0 ≤ k ∧ k < 6 ∧ ∀ a p H', New H H' a (.tup [.int p.1, .int p.2]) → RunT p → Q (.ref a) H'
def sp_lheap : Sp := fun vs H Q _ => ∃ l xs rs, vs = [.ref l] ∧ H l = some (.lst xs) ∧ Pairs H xs rs ∧ RunsOk rs ∧ 1 ≤ rs.length ∧ rs.length ≤ 200 ∧ ∀ a m t lo hi H', HeapOf rs m t lo hi → New H H' a (.tup [.int m, .int t, .int lo, .int hi]) → Q (.ref a) H'
def sp_lwhole : Sp := fun vs H Q _ => ∃ i, vs = [.int i] ∧ Q (.bl true) H
def sp_ltuple : Sp := fun vs H Q _ => ∃ (a : Addr) (ns : List Int) (k : Nat), vs = [.ref a, .int (k : Int)] ∧ H a = some (.tup (ns.map V.int)) ∧ ns.length = k ∧ k ≤ 20 ∧ ∀ H', Same H H' → Q (.bl true) H'
end TB
namespace TB
open PySem L2
structure CanBe (vm vt vl vg : Int) : Prop where
  m : 1 ≤ vm
  le : vl ≤ vg
  a : (vm - 1) * vl + vg ≤ vt
  b : vt ≤ vl + (vm - 1) * vg
theorem exc_cons (lo v c T N : Int) : v * c + T - lo * (c + N) = (v - lo) * c + (T - lo * N) := by
  rw [Int.mul_add, Int.sub_mul]; omega
theorem exc_cons' (hi v c T N : Int) : hi * (c + N) - (v * c + T) = (hi - v) * c + (hi * N - T) := by
  rw [Int.mul_add, Int.sub_mul]; omega
theorem le_times {x c : Int} (hx : 0 ≤ x) (hc : 1 ≤ c) : x ≤ x * c := by
  have := Int.mul_le_mul_of_nonneg_left hc hx
  omega
theorem exc_lo {lo : Int} : ∀ {rs : List (Int × Int)}, RunsOk rs → (∀ a ∈ vals rs, lo ≤ a) → 0 ≤ rT rs - lo * rN rs
  | [], _, _ => by simp [rT, rN, prds, cnts]
  | p :: r, ok, h => by
    have h1 := exc_lo (rs := r) (fun q hq => ok q (List.mem_cons_of_mem _ hq)) fun a ha => h a (List.mem_cons_of_mem _ ha)
    have h2 := h p.1 List.mem_cons_self
    have h3 := (ok p List.mem_cons_self).2.1
    have h4 := le_times (x := p.1 - lo) (by omega) h3
    rw [rT_cons, rN_cons, exc_cons]
    omega
theorem exc_hi {hi : Int} : ∀ {rs : List (Int × Int)}, RunsOk rs → (∀ a ∈ vals rs, a ≤ hi) → 0 ≤ hi * rN rs - rT rs
  | [], _, _ => by simp [rT, rN, prds, cnts]
  | p :: r, ok, h => by
    have h1 := exc_hi (rs := r) (fun q hq => ok q (List.mem_cons_of_mem _ hq)) fun a ha => h a (List.mem_cons_of_mem _ ha)
    have h2 := h p.1 List.mem_cons_self
    have h3 := (ok p List.mem_cons_self).2.1
    have h4 := le_times (x := hi - p.1) (by omega) h3
    rw [rT_cons, rN_cons, exc_cons']
    omega
theorem exc_lo' {lo v : Int} : ∀ {rs : List (Int × Int)}, RunsOk rs → (∀ a ∈ vals rs, lo ≤ a) → v ∈ vals rs → v - lo ≤ rT rs - lo * rN rs
  | [], _, _, hv => by simp [vals] at hv
  | p :: r, ok, h, hv => by
    have ok' : RunsOk r := fun q hq => ok q (List.mem_cons_of_mem _ hq)
    have h' : ∀ a ∈ vals r, lo ≤ a := fun a ha => h a (List.mem_cons_of_mem _ ha)
    have h1 := exc_lo ok' h'
    have h2 := h p.1 List.mem_cons_self
    have h3 := (ok p List.mem_cons_self).2.1
    have h4 := le_times (x := p.1 - lo) (by omega) h3
    rw [rT_cons, rN_cons, exc_cons]
    rcases List.mem_cons.mp hv with e | hv
    · have e : v = p.1 := e
      omega
    · have := exc_lo' ok' h' hv
      omega
theorem exc_hi' {hi v : Int} : ∀ {rs : List (Int × Int)}, RunsOk rs → (∀ a ∈ vals rs, a ≤ hi) → v ∈ vals rs → hi - v ≤ hi * rN rs - rT rs
  | [], _, _, hv => by simp [vals] at hv
  | p :: r, ok, h, hv => by
    have ok' : RunsOk r := fun q hq => ok q (List.mem_cons_of_mem _ hq)
    have h' : ∀ a ∈ vals r, a ≤ hi := fun a ha => h a (List.mem_cons_of_mem _ ha)
    have h1 := exc_hi ok' h'
    have h2 := h p.1 List.mem_cons_self
    have h3 := (ok p List.mem_cons_self).2.1
    have h4 := le_times (x := hi - p.1) (by omega) h3
    rw [rT_cons, rN_cons, exc_cons']
    rcases List.mem_cons.mp hv with e | hv
    · have e : v = p.1 := e
      omega
    · have := exc_hi' ok' h' hv
      omega
theorem pred_mul (m x : Int) : (m - 1) * x = x * m - x := by rw [Int.sub_mul, Int.one_mul, Int.mul_comm]
theorem HeapOf.can {rs : List (Int × Int)} {m t lo hi : Int} (h : HeapOf rs m t lo hi) (ok : RunsOk rs) : CanBe m t lo hi := by
  have h1 := exc_lo' ok h.lo' h.hi
  have h2 := exc_hi' ok h.hi' h.lo
  have h3 := h.lo' _ h.hi
  rw [← h.m, ← h.t] at h1 h2
  refine ⟨?_, h3, by rw [pred_mul]; omega, by rw [pred_mul]; omega⟩
  have := (rN_b ok).1
  rw [← h.m] at this
  have hne : 1 ≤ rs.length := by
    cases rs with
    | nil => exact absurd h.lo (by simp [vals])
    | cons p r => simp
  omega
def wRow (m t lo hi : Int) : List (Int × Int) :=
  if lo = hi then [(lo, m)] else if (t - m * lo) % (hi - lo) = 0 then [(lo, m - (t - m * lo) / (hi - lo)), (hi, (t - m * lo) / (hi - lo))]
  else [(lo, m - (t - m * lo) / (hi - lo) - 1), (lo + (t - m * lo) % (hi - lo), 1), (hi, (t - m * lo) / (hi - lo))]
inductive WRow (m t lo hi : Int) : List (Int × Int) → Prop
  | one : lo = hi → t = m * lo → 1 ≤ m → WRow m t lo hi [(lo, m)]
  | two {L U : Int} : lo < hi → 1 ≤ L → 1 ≤ U → L + U = m → t = lo * L + hi * U → WRow m t lo hi [(lo, L), (hi, U)]
  | three {L U x : Int} : lo < hi → 1 ≤ L → 1 ≤ U → L + 1 + U = m → 0 < x → x < hi - lo → t = lo * L + (lo + x) + hi * U → WRow m t lo hi [(lo, L), (lo + x, 1), (hi, U)]
theorem WRow.of {m t lo hi : Int} (h : CanBe m t lo hi) : WRow m t lo hi (wRow m t lo hi) := by
  have h1 := h.m
  have h2 := h.le
  have h3 := h.a
  have h4 := h.b
  rw [pred_mul] at h3 h4
  unfold wRow
  split
  · rename_i e
    subst e
    exact .one rfl (by rw [Int.mul_comm] at h3 h4; omega) h1
  · have hd : 0 < hi - lo := by omega
    have e1 : (hi - lo) * ((t - m * lo) / (hi - lo)) + (t - m * lo) % (hi - lo) = t - m * lo := Int.mul_ediv_add_emod _ _
    have e2 := Int.emod_nonneg (t - m * lo) (show hi - lo ≠ 0 by omega)
    have e3 := Int.emod_lt_of_pos (t - m * lo) hd
    generalize (t - m * lo) / (hi - lo) = U at e1 ⊢
    generalize (t - m * lo) % (hi - lo) = x at e1 e2 e3 ⊢
    have e4 : (hi - lo) * U = hi * U - lo * U := Int.sub_mul _ _ _
    have e5 : m * lo = lo * m := Int.mul_comm _ _
    have e6 : (hi - lo) * (m - 1) = hi * m - lo * m - (hi - lo) := by rw [Int.mul_sub, Int.sub_mul]; omega
    have e7 : lo * (m - U) = lo * m - lo * U := Int.mul_sub _ _ _
    have e8 : lo * (m - U - 1) = lo * m - lo * U - lo := by rw [Int.mul_sub, Int.mul_sub]; omega
    have u1 : 1 ≤ U := by
      by_cases z : U ≤ 0
      · have := Int.mul_le_mul_of_nonneg_left z (show 0 ≤ hi - lo by omega)
        omega
      · omega
    split
    · rename_i z
      have u2 : U ≤ m - 1 := by
        by_cases z : m ≤ U
        · have := Int.mul_le_mul_of_nonneg_left z (show 0 ≤ hi - lo by omega)
          rw [Int.sub_mul, Int.sub_mul] at this
          omega
        · omega
      exact .two (by omega) (by omega) u1 (by omega) (by rw [e7]; omega)
    · rename_i z
      have u2 : U ≤ m - 2 := by
        by_cases z : m - 1 ≤ U
        · have := Int.mul_le_mul_of_nonneg_left z (show 0 ≤ hi - lo by omega)
          omega
        · omega
      exact .three (by omega) (by omega) u1 (by omega) (by omega) (by omega) (by rw [e8]; omega)
theorem WRow.heap {m t lo hi : Int} {rs : List (Int × Int)} (h : WRow m t lo hi rs) : HeapOf rs m t lo hi := by
  cases h with
  | one e1 e2 e3 =>
    subst e1
    refine ⟨by simp [rN, cnts], by rw [e2, Int.mul_comm]; simp [rT, prds], by simp [vals], ?_, by simp [vals], ?_⟩ <;> (intro a ha; simp [vals] at ha; omega)
  | two e1 e2 e3 e4 e5 =>
    refine ⟨by simp [rN, cnts]; omega, by simp [rT, prds]; omega, by simp [vals], ?_, by simp [vals], ?_⟩ <;> (intro a ha; simp [vals] at ha; omega)
  | three e1 e2 e3 e4 e5 e6 e7 =>
    refine ⟨by simp [rN, cnts]; omega, by simp [rT, prds]; omega, by simp [vals], ?_, by simp [vals], ?_⟩ <;> (intro a ha; simp [vals] at ha; omega)
theorem WRow.len {m t lo hi : Int} {rs : List (Int × Int)} (h : WRow m t lo hi rs) : 1 ≤ rs.length ∧ rs.length ≤ 3 := by cases h <;> simp
theorem WRow.ok {m t lo hi : Int} {rs : List (Int × Int)} (h : WRow m t lo hi rs) {i : Nat} {p : Int × Int} (hi' : rs[i]? = some p) : 1 ≤ p.2 ∧ p.2 ≤ m ∧ lo ≤ p.1 ∧ p.1 ≤ hi ∧ (p.1 = lo ∨ p.1 = hi ∨ p.2 = 1) := by
  have hm := List.mem_of_getElem? hi'
  cases h with
  | one e1 e2 e3 => simp at hm; subst hm; simp; omega
  | two e1 e2 e3 e4 e5 => simp at hm; rcases hm with rfl | rfl <;> simp <;> omega
  | three e1 e2 e3 e4 e5 e6 e7 => simp at hm; rcases hm with rfl | rfl | rfl <;> simp <;> omega
theorem WRow.rise {m t lo hi : Int} {rs : List (Int × Int)} (h : WRow m t lo hi rs) {i : Nat} {p q : Int × Int} (h1 : rs[i]? = some p) (h2 : rs[i + 1]? = some q) : p.1 < q.1 := by
  cases h with
  | one e1 e2 e3 => simp at h2
  | two e1 e2 e3 e4 e5 =>
    match i, h1, h2 with
    | 0, h1, h2 => simp at h1 h2; subst h1 h2; exact e1
    | i + 1, h1, h2 => simp at h2
  | three e1 e2 e3 e4 e5 e6 e7 =>
    match i, h1, h2 with
    | 0, h1, h2 => simp at h1 h2; subst h1 h2; show lo < lo + _; omega
    | 1, h1, h2 => simp at h1 h2; subst h1 h2; show lo + _ < hi; omega
    | i + 2, h1, h2 => simp at h2
def oth (lo hi : Int) (p : Int × Int) : Bool := !decide (p.1 = lo) && !decide (p.1 = hi)
theorem WRow.oth {m t lo hi : Int} {rs : List (Int × Int)} (h : WRow m t lo hi rs) : (rs.filter (oth lo hi)).length < 2 := by
  cases h with
  | one e1 e2 e3 => simp [TB.oth]
  | two e1 e2 e3 e4 e5 => simp [TB.oth]
  | @three L U x e1 e2 e3 e4 e5 e6 e7 =>
    have a1 : TB.oth lo hi (lo, L) = false := by simp [TB.oth]
    have a3 : TB.oth lo hi (hi, U) = false := by simp [TB.oth]
    simp only [List.filter_cons, a1, a3, List.filter_nil, Bool.false_eq_true, if_false]
    split <;> simp
def HBd (m lo hi : Int) : Prop := (0 ≤ m ∧ m < 10 ^ 45) ∧ (-(10 ^ 45) < lo ∧ lo < 10 ^ 45) ∧ -(10 ^ 45) < hi ∧ hi < 10 ^ 45
theorem HeapOf.bd {rs : List (Int × Int)} {m t lo hi : Int} (h : HeapOf rs m t lo hi) (ok : RunsOk rs) (hl : rs.length ≤ 200) : HBd m lo hi := by
  have h1 := rN_b ok
  rw [← h.m] at h1
  have h2 := mem_vals ok h.lo
  have h3 := mem_vals ok h.hi
  refine ⟨⟨by omega, ?_⟩, ⟨by omega, by omega⟩, by omega, by omega⟩
  have : (rs.length : Int) * 10 ^ 40 ≤ 200 * 10 ^ 40 := Int.mul_le_mul_of_nonneg_right (by omega) (by decide)
  omega
def hT (m t lo hi : Int) : HO := .tup [.int m, .int t, .int lo, .int hi]
def sp_widest : Sp := fun vs H Q _ => ∃ a m t lo hi, vs = [.ref a] ∧ H a = some (.tup [.int m, .int t, .int lo, .int hi]) ∧ CanBe m t lo hi ∧ HBd m lo hi ∧ ∀ l xs H1 H', Same H H1 → New H1 H' l (.lst xs) → Pairs H' xs (wRow m t lo hi) → Q (.ref l) H'
end TB
namespace TB
open PySem L2
def takeK (k m : Int) : Int := if m < k then m else k
def sF : List (Int × Int) → Int → Int → Int
  | [], _, acc => acc
  | p :: r, k, acc => sF r (k - takeK k p.2) (acc + p.1 * takeK k p.2)
theorem takeK_le {k m : Int} (h : k ≤ m) : takeK k m = k := by unfold takeK; rw [if_neg (by omega)]
theorem takeK_gt {k m : Int} (h : m < k) : takeK k m = m := by unfold takeK; rw [if_pos h]
structure Most (m t lo hi k v : Int) : Prop where
  a : v ≤ hi * k
  b : v ≤ t - lo * (m - k)
  c : v = hi * k ∨ v = t - lo * (m - k)
structure Least (m t lo hi k v : Int) : Prop where
  a : lo * k ≤ v
  b : t - hi * (m - k) ≤ v
  c : v = lo * k ∨ v = t - hi * (m - k)
theorem sF_nil (k a : Int) : sF [] k a = a := rfl
theorem sF_le {p : Int × Int} {r : List (Int × Int)} {k a : Int} (h : k ≤ p.2) : sF (p :: r) k a = sF r 0 (a + p.1 * k) := by
  show sF r (k - takeK k p.2) (a + p.1 * takeK k p.2) = _
  rw [takeK_le h, Int.sub_self]
theorem sF_gt {p : Int × Int} {r : List (Int × Int)} {k a : Int} (h : p.2 < k) : sF (p :: r) k a = sF r (k - p.2) (a + p.1 * p.2) := by
  show sF r (k - takeK k p.2) (a + p.1 * takeK k p.2) = _
  rw [takeK_gt h]
theorem nn {a b : Int} (ha : 0 ≤ a) (hb : 0 ≤ b) : 0 ≤ a * b := Int.mul_nonneg ha hb
theorem WRow.most {m t lo hi k : Int} {rs : List (Int × Int)} (h : WRow m t lo hi rs) (h0 : 0 ≤ k) (hk : k ≤ m) : Most m t lo hi k (sF rs.reverse k 0) := by
  cases h with
  | one e1 e2 e3 =>
    subst e1
    show Most m t lo lo k (sF [(lo, m)] k 0)
    rw [sF_le hk, sF_nil]
    dsimp only
    have e : lo * (m - k) = lo * m - lo * k := Int.mul_sub _ _ _
    have e' : m * lo = lo * m := Int.mul_comm _ _
    exact ⟨by omega, by omega, by omega⟩
  | @two L U e1 e2 e3 e4 e5 =>
    show Most m t lo hi k (sF [(hi, U), (lo, L)] k 0)
    have e : lo * (m - k) = lo * L + lo * U - lo * k := by rw [← e4, Int.mul_sub, Int.mul_add]
    by_cases z : U < k
    · rw [sF_gt z, sF_le (by show k - U ≤ L; omega), sF_nil]
      dsimp only
      have e6 : lo * (k - U) = lo * k - lo * U := Int.mul_sub _ _ _
      have e7 := nn (show 0 ≤ hi - lo by omega) (show 0 ≤ k - U by omega)
      rw [Int.sub_mul, Int.mul_sub, Int.mul_sub] at e7
      exact ⟨by omega, by omega, by omega⟩
    · rw [sF_le (by show k ≤ U; omega), sF_le (by show 0 ≤ L; omega), sF_nil]
      dsimp only
      have e7 := nn (show 0 ≤ hi - lo by omega) (show 0 ≤ U - k by omega)
      rw [Int.sub_mul, Int.mul_sub, Int.mul_sub] at e7
      exact ⟨by omega, by omega, by omega⟩
  | @three L U x e1 e2 e3 e4 e5 e6 e7 =>
    show Most m t lo hi k (sF [(hi, U), (lo + x, 1), (lo, L)] k 0)
    have e : lo * (m - k) = lo * L + lo + lo * U - lo * k := by rw [← e4, Int.mul_sub, Int.mul_add, Int.mul_add]; omega
    by_cases z : U < k
    · have e8 := nn (show 0 ≤ hi - lo by omega) (show 0 ≤ k - U - 1 by omega)
      rw [Int.sub_mul, Int.mul_sub, Int.mul_sub, Int.mul_sub, Int.mul_sub] at e8
      by_cases z2 : 1 < k - U
      · rw [sF_gt z, sF_gt (by show 1 < k - U; exact z2), sF_le (by show k - U - 1 ≤ L; omega), sF_nil]
        dsimp only
        have e9 : lo * (k - U - 1) = lo * k - lo * U - lo := by rw [Int.mul_sub, Int.mul_sub]; omega
        exact ⟨by omega, by omega, by omega⟩
      · have z3 : k - U = 1 := by omega
        rw [sF_gt z]
        show Most m t lo hi k (sF [(lo + x, 1), (lo, L)] (k - U) (0 + hi * U))
        rw [z3, sF_le (by show (1 : Int) ≤ 1; omega), sF_le (by show 0 ≤ L; omega), sF_nil]
        dsimp only
        have e9 : k = U + 1 := by omega
        subst e9
        have e10 : hi * (U + 1) = hi * U + hi := by rw [Int.mul_add]; omega
        have e11 : lo * (U + 1) = lo * U + lo := by rw [Int.mul_add]; omega
        exact ⟨by omega, by omega, by omega⟩
    · rw [sF_le (by show k ≤ U; omega), sF_le (by show (0 : Int) ≤ 1; omega), sF_le (by show 0 ≤ L; omega), sF_nil]
      dsimp only
      have e8 := nn (show 0 ≤ hi - lo by omega) (show 0 ≤ U - k by omega)
      rw [Int.sub_mul, Int.mul_sub, Int.mul_sub] at e8
      exact ⟨by omega, by omega, by omega⟩
theorem WRow.least {m t lo hi k : Int} {rs : List (Int × Int)} (h : WRow m t lo hi rs) (h0 : 0 ≤ k) (hk : k ≤ m) : Least m t lo hi k (sF rs k 0) := by
  cases h with
  | one e1 e2 e3 =>
    subst e1
    rw [sF_le hk, sF_nil]
    dsimp only
    have e : lo * (m - k) = lo * m - lo * k := Int.mul_sub _ _ _
    have e' : m * lo = lo * m := Int.mul_comm _ _
    exact ⟨by omega, by omega, by omega⟩
  | @two L U e1 e2 e3 e4 e5 =>
    have e : hi * (m - k) = hi * L + hi * U - hi * k := by rw [← e4, Int.mul_sub, Int.mul_add]
    by_cases z : L < k
    · rw [sF_gt z, sF_le (by show k - L ≤ U; omega), sF_nil]
      dsimp only
      have e6 : hi * (k - L) = hi * k - hi * L := Int.mul_sub _ _ _
      have e7 := nn (show 0 ≤ hi - lo by omega) (show 0 ≤ k - L by omega)
      rw [Int.sub_mul, Int.mul_sub, Int.mul_sub] at e7
      exact ⟨by omega, by omega, by omega⟩
    · rw [sF_le (by show k ≤ L; omega), sF_le (by show 0 ≤ U; omega), sF_nil]
      dsimp only
      have e7 := nn (show 0 ≤ hi - lo by omega) (show 0 ≤ L - k by omega)
      rw [Int.sub_mul, Int.mul_sub, Int.mul_sub] at e7
      exact ⟨by omega, by omega, by omega⟩
  | @three L U x e1 e2 e3 e4 e5 e6 e7 =>
    have e : hi * (m - k) = hi * L + hi + hi * U - hi * k := by rw [← e4, Int.mul_sub, Int.mul_add, Int.mul_add]; omega
    by_cases z : L < k
    · have e8 := nn (show 0 ≤ hi - lo by omega) (show 0 ≤ k - L - 1 by omega)
      rw [Int.sub_mul, Int.mul_sub, Int.mul_sub, Int.mul_sub, Int.mul_sub] at e8
      by_cases z2 : 1 < k - L
      · rw [sF_gt z, sF_gt (by show 1 < k - L; exact z2), sF_le (by show k - L - 1 ≤ U; omega), sF_nil]
        dsimp only
        have e9 : hi * (k - L - 1) = hi * k - hi * L - hi := by rw [Int.mul_sub, Int.mul_sub]; omega
        exact ⟨by omega, by omega, by omega⟩
      · have z3 : k - L = 1 := by omega
        rw [sF_gt z]
        show Least m t lo hi k (sF [(lo + x, 1), (hi, U)] (k - L) (0 + lo * L))
        rw [z3, sF_le (by show (1 : Int) ≤ 1; omega), sF_le (by show 0 ≤ U; omega), sF_nil]
        dsimp only
        have e9 : k = L + 1 := by omega
        subst e9
        have e10 : hi * (L + 1) = hi * L + hi := by rw [Int.mul_add]; omega
        have e11 : lo * (L + 1) = lo * L + lo := by rw [Int.mul_add]; omega
        exact ⟨by omega, by omega, by omega⟩
    · rw [sF_le (by show k ≤ L; omega), sF_le (by show (0 : Int) ≤ 1; omega), sF_le (by show 0 ≤ U; omega), sF_nil]
      dsimp only
      have e8 := nn (show 0 ≤ hi - lo by omega) (show 0 ≤ L - k by omega)
      rw [Int.sub_mul, Int.mul_sub, Int.mul_sub] at e8
      exact ⟨by omega, by omega, by omega⟩
end TB
namespace TB
open PySem L2
def fA (c x : Int) : Int := if c < x then x - c else 0
def fB (c x : Int) : Int := if x < c then c - x else 0
def above (c : Int) : List (Int × Int) → Int
  | [] => 0
  | p :: r => fA c p.1 * p.2 + above c r
def below (c : Int) : List (Int × Int) → Int
  | [] => 0
  | p :: r => fB c p.1 * p.2 + below c r
theorem fA_b (c x : Int) : 0 ≤ fA c x ∧ x - c ≤ fA c x := by unfold fA; split <;> omega
theorem fB_b (c x : Int) : 0 ≤ fB c x ∧ c - x ≤ fB c x := by unfold fB; split <;> omega
theorem mul_le_r {a b c : Int} (h : a ≤ b) (hc : 0 ≤ c) : a * c ≤ b * c := Int.mul_le_mul_of_nonneg_right h hc
theorem mul_le_l {a b c : Int} (h : a ≤ b) (hc : 0 ≤ c) : c * a ≤ c * b := Int.mul_le_mul_of_nonneg_left h hc
theorem above_runs {c lo hi : Int} : ∀ {rs : List (Int × Int)}, RunsOk rs → (∀ a ∈ vals rs, lo ≤ a) → (∀ a ∈ vals rs, a ≤ hi) → ∃ K S, 0 ≤ K ∧ K ≤ rN rs ∧ above c rs = S - c * K ∧ S ≤ hi * K ∧ S ≤ rT rs - lo * (rN rs - K)
  | [], _, _, _ => ⟨0, 0, by omega, by simp [rN, cnts], by simp [above], by omega, by simp [rT, rN, prds, cnts]⟩
  | p :: r, ok, h1, h2 => by
    obtain ⟨K, S, k0, k1, e, s1, s2⟩ := above_runs (c := c) (lo := lo) (hi := hi) (rs := r) (fun q hq => ok q (List.mem_cons_of_mem _ hq)) (fun a ha => h1 a (List.mem_cons_of_mem _ ha)) fun a ha => h2 a (List.mem_cons_of_mem _ ha)
    have a1 := h1 p.1 List.mem_cons_self
    have a2 := h2 p.1 List.mem_cons_self
    have a3 := (ok p List.mem_cons_self).2.1
    have b1 := mul_le_r a1 (show 0 ≤ p.2 by omega)
    have b2 := mul_le_r a2 (show 0 ≤ p.2 by omega)
    rw [rN_cons, rT_cons]
    show ∃ K S, 0 ≤ K ∧ K ≤ p.2 + rN r ∧ fA c p.1 * p.2 + above c r = S - c * K ∧ _
    have e1 : lo * (rN r - K) = lo * rN r - lo * K := Int.mul_sub _ _ _
    by_cases z : c < p.1
    · refine ⟨K + p.2, S + p.1 * p.2, by omega, by omega, ?_, ?_, ?_⟩
      · unfold fA; rw [if_pos z, e, Int.sub_mul, Int.mul_add]; omega
      · rw [Int.mul_add]; omega
      · rw [show p.2 + rN r - (K + p.2) = rN r - K by omega]; omega
    · refine ⟨K, S, by omega, by omega, ?_, s1, ?_⟩
      · unfold fA; rw [if_neg z, e]; omega
      · rw [Int.mul_sub, Int.mul_add]; omega
theorem below_runs {c lo hi : Int} : ∀ {rs : List (Int × Int)}, RunsOk rs → (∀ a ∈ vals rs, lo ≤ a) → (∀ a ∈ vals rs, a ≤ hi) → ∃ K S, 0 ≤ K ∧ K ≤ rN rs ∧ below c rs = c * K - S ∧ lo * K ≤ S ∧ rT rs - hi * (rN rs - K) ≤ S
  | [], _, _, _ => ⟨0, 0, by omega, by simp [rN, cnts], by simp [below], by omega, by simp [rT, rN, prds, cnts]⟩
  | p :: r, ok, h1, h2 => by
    obtain ⟨K, S, k0, k1, e, s1, s2⟩ := below_runs (c := c) (lo := lo) (hi := hi) (rs := r) (fun q hq => ok q (List.mem_cons_of_mem _ hq)) (fun a ha => h1 a (List.mem_cons_of_mem _ ha)) fun a ha => h2 a (List.mem_cons_of_mem _ ha)
    have a1 := h1 p.1 List.mem_cons_self
    have a2 := h2 p.1 List.mem_cons_self
    have a3 := (ok p List.mem_cons_self).2.1
    have b1 := mul_le_r a1 (show 0 ≤ p.2 by omega)
    have b2 := mul_le_r a2 (show 0 ≤ p.2 by omega)
    rw [rN_cons, rT_cons]
    show ∃ K S, 0 ≤ K ∧ K ≤ p.2 + rN r ∧ fB c p.1 * p.2 + below c r = c * K - S ∧ _
    have e1 : hi * (rN r - K) = hi * rN r - hi * K := Int.mul_sub _ _ _
    by_cases z : p.1 < c
    · refine ⟨K + p.2, S + p.1 * p.2, by omega, by omega, ?_, ?_, ?_⟩
      · unfold fB; rw [if_pos z, e, Int.sub_mul, Int.mul_add]; omega
      · rw [Int.mul_add]; omega
      · rw [show p.2 + rN r - (K + p.2) = rN r - K by omega]; omega
    · refine ⟨K, S, by omega, by omega, ?_, s1, ?_⟩
      · unfold fB; rw [if_neg z, e]; omega
      · rw [Int.mul_sub, Int.mul_add]; omega
theorem WRow.above {m t lo hi : Int} {rs : List (Int × Int)} (h : WRow m t lo hi rs) {c K S : Int} (h0 : 0 ≤ K) (hk : K ≤ m) (s1 : S ≤ hi * K) (s2 : S ≤ t - lo * (m - K)) : S - c * K ≤ above c rs := by
  have el := fA_b c lo
  have eh := fA_b c hi
  cases h with
  | one e1 e2 e3 =>
    subst e1
    show S - c * K ≤ fA c lo * m + 0
    have a1 := mul_le_l hk el.1
    have a2 := mul_le_r el.2 h0
    rw [Int.sub_mul] at a2
    omega
  | @two L U e1 e2 e3 e4 e5 =>
    show S - c * K ≤ fA c lo * L + (fA c hi * U + 0)
    by_cases z : K ≤ U
    · have a1 := mul_le_l z eh.1
      have a2 := mul_le_r eh.2 h0
      have a3 := nn el.1 (show 0 ≤ L by omega)
      rw [Int.sub_mul] at a2
      omega
    · have a1 := mul_le_r eh.2 (show 0 ≤ U by omega)
      have a2 := mul_le_l (show K - U ≤ L by omega) el.1
      have a3 := mul_le_r el.2 (show 0 ≤ K - U by omega)
      have e : lo * (m - K) = lo * L + lo * U - lo * K := by rw [← e4, Int.mul_sub, Int.mul_add]
      rw [Int.sub_mul] at a1
      rw [Int.sub_mul, Int.mul_sub, Int.mul_sub] at a3
      omega
  | @three L U x e1 e2 e3 e4 e5 e6 e7 =>
    have ex := fA_b c (lo + x)
    show S - c * K ≤ fA c lo * L + (fA c (lo + x) * 1 + (fA c hi * U + 0))
    rw [Int.mul_one]
    by_cases z : K ≤ U
    · have a1 := mul_le_l z eh.1
      have a2 := mul_le_r eh.2 h0
      have a3 := nn el.1 (show 0 ≤ L by omega)
      rw [Int.sub_mul] at a2
      omega
    · have a1 := mul_le_r eh.2 (show 0 ≤ U by omega)
      have a2 := mul_le_l (show K - U - 1 ≤ L by omega) el.1
      have a3 := mul_le_r el.2 (show 0 ≤ K - U - 1 by omega)
      have e : lo * (m - K) = lo * L + lo + lo * U - lo * K := by rw [← e4, Int.mul_sub, Int.mul_add, Int.mul_add]; omega
      rw [Int.sub_mul] at a1
      rw [Int.sub_mul, Int.mul_sub, Int.mul_sub, Int.mul_sub, Int.mul_sub] at a3
      omega
theorem WRow.below {m t lo hi : Int} {rs : List (Int × Int)} (h : WRow m t lo hi rs) {c K S : Int} (h0 : 0 ≤ K) (hk : K ≤ m) (s1 : lo * K ≤ S) (s2 : t - hi * (m - K) ≤ S) : c * K - S ≤ below c rs := by
  have el := fB_b c lo
  have eh := fB_b c hi
  cases h with
  | one e1 e2 e3 =>
    subst e1
    show c * K - S ≤ fB c lo * m + 0
    have a1 := mul_le_l hk el.1
    have a2 := mul_le_r el.2 h0
    rw [Int.sub_mul] at a2
    omega
  | @two L U e1 e2 e3 e4 e5 =>
    show c * K - S ≤ fB c lo * L + (fB c hi * U + 0)
    by_cases z : K ≤ L
    · have a1 := mul_le_l z el.1
      have a2 := mul_le_r el.2 h0
      have a3 := nn eh.1 (show 0 ≤ U by omega)
      rw [Int.sub_mul] at a2
      omega
    · have a1 := mul_le_r el.2 (show 0 ≤ L by omega)
      have a2 := mul_le_l (show K - L ≤ U by omega) eh.1
      have a3 := mul_le_r eh.2 (show 0 ≤ K - L by omega)
      have e : hi * (m - K) = hi * L + hi * U - hi * K := by rw [← e4, Int.mul_sub, Int.mul_add]
      rw [Int.sub_mul] at a1
      rw [Int.sub_mul, Int.mul_sub, Int.mul_sub] at a3
      omega
  | @three L U x e1 e2 e3 e4 e5 e6 e7 =>
    have ex := fB_b c (lo + x)
    show c * K - S ≤ fB c lo * L + (fB c (lo + x) * 1 + (fB c hi * U + 0))
    rw [Int.mul_one]
    by_cases z : K ≤ L
    · have a1 := mul_le_l z el.1
      have a2 := mul_le_r el.2 h0
      have a3 := nn eh.1 (show 0 ≤ U by omega)
      rw [Int.sub_mul] at a2
      omega
    · have a1 := mul_le_r el.2 (show 0 ≤ L by omega)
      have a2 := mul_le_l (show K - L - 1 ≤ U by omega) eh.1
      have a3 := mul_le_r eh.2 (show 0 ≤ K - L - 1 by omega)
      have e : hi * (m - K) = hi * L + hi + hi * U - hi * K := by rw [← e4, Int.mul_sub, Int.mul_add, Int.mul_add]; omega
      rw [Int.sub_mul] at a1
      rw [Int.sub_mul, Int.mul_sub, Int.mul_sub, Int.mul_sub, Int.mul_sub] at a3
      omega
theorem HeapOf.above {rs : List (Int × Int)} {m t lo hi : Int} (h : HeapOf rs m t lo hi) (ok : RunsOk rs) (c : Int) : above c rs ≤ TB.above c (wRow m t lo hi) := by
  obtain ⟨K, S, k0, k1, e, s1, s2⟩ := above_runs (c := c) ok h.lo' h.hi'
  rw [e]
  rw [← h.m, ← h.t] at s2
  rw [← h.m] at k1
  exact (WRow.of (h.can ok)).above k0 k1 s1 s2
theorem HeapOf.below {rs : List (Int × Int)} {m t lo hi : Int} (h : HeapOf rs m t lo hi) (ok : RunsOk rs) (c : Int) : below c rs ≤ TB.below c (wRow m t lo hi) := by
  obtain ⟨K, S, k0, k1, e, s1, s2⟩ := below_runs (c := c) ok h.lo' h.hi'
  rw [e]
  rw [← h.m, ← h.t] at s2
  rw [← h.m] at k1
  exact (WRow.of (h.can ok)).below k0 k1 s1 s2
end TB
namespace TB
open PySem L2
def rof (ru : Addr) (day : Int) (le dy dh : Addr) : List (Str × V) := putF "cell_heaps" (.ref dh) (putF "whole_ones" (.ref dy) (putF "kept_edges" (.ref le) (putF "kept_day" (.int day) (putF "kept_rule" (.ref ru) []))))
section
variable (ru : Addr) (day : Int) (le dy dh : Addr)
end
abbrev KV := List (List Key × V)
structure RollD where
  ru : Addr
  rl : Addr
  le : Addr
  dy : Addr
  dh : Addr
  ps : List (Int × Int)
  g : Option Int
  day : Int
  es : List Int
  ge : Option Int
  Y : KV
  Z : KV
structure RollAt (C R : Addr) (H : Hp) (ro : Addr) (D : RollD) : Prop where
  ob : ∃ dx, H ro = some (.ins C dx (rof D.ru D.day D.le D.dy D.dh))
  rule : RuleAt R H D.ru D.rl D.ps D.g
  ed : H D.le = some (.lst (D.es.map V.int ++ [gv D.ge]))
  yo : H D.dy = some (.dT D.Y)
  he : H D.dh = some (.dT D.Z)
  ne : D.dy ≠ D.dh
theorem RollAt.same {C R : Addr} {H H' : Hp} {ro : Addr} {D : RollD} (s : Same H H') (h : RollAt C R H ro D) : RollAt C R H' ro D :=
  ⟨let ⟨dx, e⟩ := h.ob; ⟨dx, s _ _ e⟩, h.rule.same s, s _ _ h.ed, s _ _ h.yo, s _ _ h.he, h.ne⟩
structure RollOk (D : RollD) : Prop where
  pr : Pr D.ps D.g
  es : D.es.length = D.ps.length
def ZOk (H : Hp) (Z : KV) : Prop := ∀ k x, valV Z k = some x → ∃ (h : Addr) (m t lo hi : Int), x = .ref h ∧ H h = some (.tup [.int m, .int t, .int lo, .int hi])
theorem ZOk.same {H H' : Hp} {Z : KV} (s : Same H H') (h : ZOk H Z) : ZOk H' Z := fun k x e => by
  obtain ⟨a, m, t, lo, hi, e1, e2⟩ := h k x e
  exact ⟨a, m, t, lo, hi, e1, s _ _ e2⟩
def yv (Y : KV) (k : List Key) : Int := match valV Y k with
  | some (.int n) => n
  | _ => 0
def kk (a b : Int) : List Key := [.inl a, .inl b]
theorem Pr.w1 {ps : List (Int × Int)} {g : Option Int} (P : Pr ps g) {w : Int} (h : w ∈ ps.map (·.2)) : 1 ≤ w := by
  obtain ⟨p, hp, rfl⟩ := List.mem_map.mp h
  obtain ⟨i, hi, e⟩ := List.getElem_of_mem hp
  exact (P.size i p (by rw [← e]; exact List.getElem?_eq_getElem hi)).2.2.1
def TupAt (H : Hp) (v : V) (r : List Int) : Prop := ∃ a, v = .ref a ∧ H a = some (.tup (r.map V.int))
def Tups (H : Hp) (xs : List V) (rs : List (List Int)) : Prop := Paired (TupAt H) xs rs
theorem TupAt.same {H H' : Hp} (s : Same H H') {v : V} {r : List Int} : TupAt H v r → TupAt H' v r := fun ⟨a, e, h⟩ => ⟨a, e, s _ _ h⟩
theorem Tups.same {H H' : Hp} (s : Same H H') : ∀ {xs : List V} {rs : List (List Int)}, Tups H xs rs → Tups H' xs rs
  | _, _, .nil => .nil
  | _, _, .cons r t => .cons (r.same s) (Tups.same s t)
theorem Tups.length {H : Hp} : ∀ {xs : List V} {rs : List (List Int)}, Tups H xs rs → xs.length = rs.length
  | _, _, .nil => rfl
  | _, _, .cons _ t => by simp [Tups.length t]
theorem Tups.get {H : Hp} : ∀ {xs : List V} {rs : List (List Int)} {i : Nat} {x : V}, Tups H xs rs → xs[i]? = some x → ∃ r, rs[i]? = some r ∧ TupAt H x r
  | _, _, _, _, .nil, e => by simp at e
  | _, _, 0, _, .cons r _, e => by simp at e; subst e; exact ⟨_, rfl, r⟩
  | _, _, i + 1, x, .cons _ t, e => by
    obtain ⟨u, h1, h2⟩ := Tups.get (i := i) (x := x) t (by simpa using e)
    exact ⟨u, by simpa using h1, h2⟩
def dTups (rs : List (List Int)) : PyData := .list (rs.map dTup)
theorem lay_tupsA : ∀ rs : List (List Int), PyData.canLayAll0 (rs.map dTup) = true
  | [] => rfl
  | r :: t => by simp [PyData.canLayAll0, lay_tup, lay_tupsA t]
theorem lay_tups (rs : List (List Int)) : (dTups rs).canLay0 = true := by simp [dTups, PyData.canLay0, lay_tupsA]
theorem dep_tupsA : ∀ rs : List (List Int), PyData.depthAll (rs.map dTup) ≤ 1
  | [] => by simp [PyData.depthAll]
  | r :: t => by
    have := dep_tupsA t
    simp [PyData.depthAll, dTup, PyData.depth, dep_intsA]
    omega
theorem Tups.reps {K : PySem.W.Frag} {H : Hp} : ∀ {xs : List V} {rs : List (List Int)}, Tups H xs rs → Reps K H xs (rs.map dTup)
  | _, _, .nil => .nil
  | _, _, .cons ⟨a, e, h⟩ t => by
    subst e
    exact .cons (rep_tup h) (Tups.reps t)
theorem Tups.rep {K : PySem.W.Frag} {H : Hp} {l : Addr} {xs : List V} {rs : List (List Int)} (h : H l = some (.lst xs)) (r : Tups H xs rs) : Rep K H (.ref l) (dTups rs) := .lst (SqL.of h) r.reps
end TB
namespace TB
open PySem L2
abbrev HP4 := Int × Int × Int × Int
structure Abs where
  y : List Int → Option Int
  z : List Int → Option HP4
def abs0 : Abs := ⟨fun _ => none, fun _ => none⟩
structure SKeys {α : Type} (f : List Int → Option α) (ms : List (List Int)) : Prop where
  srt : ms.Pairwise (fun k l => blt k l = true)
  mem : ∀ k, k ∈ ms ↔ f k ≠ none
theorem blt_asym {k l : List Int} (h1 : blt k l = true) (h2 : blt l k = true) : False := by
  have := blt_tr k l k h1 h2
  rw [blt_irr] at this; cases this
theorem SKeys.uniq {α : Type} {f : List Int → Option α} {ms ms' : List (List Int)} (a : SKeys f ms) (b : SKeys f ms') : ms = ms' := by
  have nd : ∀ {l : List (List Int)}, l.Pairwise (fun k l => blt k l = true) → l.Nodup := fun h => h.imp fun {k l} hb e => by rw [e, blt_irr] at hb; cases hb
  refine List.Perm.eq_of_pairwise (le := fun k l => blt k l = true) (fun k l _ _ h1 h2 => (blt_asym h1 h2).elim) a.srt b.srt ?_
  rw [List.perm_ext_iff_of_nodup (nd a.srt) (nd b.srt)]
  intro k
  rw [a.mem, b.mem]
def kI (k : List Int) : List Key := k.map Sum.inl
theorem kI_inj {k l : List Int} (h : kI k = kI l) : k = l := by
  induction k generalizing l with
  | nil => cases l with
    | nil => rfl
    | cons _ _ => cases h
  | cons a r ih => cases l with
    | nil => cases h
    | cons b t =>
      unfold kI at h
      rw [List.map_cons, List.map_cons] at h
      injection h with h1 h2
      injection h1 with h1
      rw [h1, ih h2]
theorem keys_put (kvs : KV) (k : List Key) (v : V) : (k ∈ kvs.map (·.1) → (putK kvs k v).map (·.1) = kvs.map (·.1)) ∧ (k ∉ kvs.map (·.1) → (putK kvs k v).map (·.1) = kvs.map (·.1) ++ [k]) := by
  unfold putK
  by_cases h : (kvs.any fun kv => decide (kv.1 = k)) = true
  · have hm : k ∈ kvs.map (·.1) := by
      obtain ⟨x, hx, e⟩ := List.any_eq_true.mp h
      exact List.mem_map.mpr ⟨x, hx, by simpa using e⟩
    refine ⟨fun _ => ?_, fun n => absurd hm n⟩
    rw [if_pos h, List.map_map]
    apply List.map_congr_left
    intro x hx
    show (if x.1 = k then (x.1, v) else x).1 = x.1
    split <;> rfl
  · have hm : k ∉ kvs.map (·.1) := fun hm => h (by
      obtain ⟨x, hx, e⟩ := List.mem_map.mp hm
      exact List.any_eq_true.mpr ⟨x, hx, by simpa using e⟩)
    refine ⟨fun n => absurd n hm, fun _ => ?_⟩
    rw [if_neg h, List.map_append]; rfl
theorem valV_mem {kvs : KV} {k : List Key} : valV kvs k ≠ none ↔ k ∈ kvs.map (·.1) := by
  unfold valV
  constructor
  · intro h
    cases e : kvs.find? fun kv => decide (kv.1 = k) with
    | none => rw [e] at h; exact absurd rfl h
    | some x =>
      have := List.find?_some e
      exact List.mem_map.mpr ⟨x, List.mem_of_find?_eq_some e, by simpa using this⟩
  · intro h z
    obtain ⟨x, hx, e⟩ := List.mem_map.mp h
    rw [Option.map_eq_none_iff, List.find?_eq_none] at z
    exact z x hx (by simpa using e)
structure DKeys (kvs : KV) (ks : List (List Int)) : Prop where
  eq : kvs.map (·.1) = ks.map kI
  nd : ks.Nodup
  ne : ∀ k ∈ ks, k.length = 2
theorem DKeys.nil : DKeys [] [] := ⟨rfl, .nil, fun k h => by cases h⟩
theorem DKeys.put {kvs : KV} {ks : List (List Int)} (h : DKeys kvs ks) (k : List Int) (hk : k.length = 2) (v : V) : ∃ ks', DKeys (putK kvs (kI k) v) ks' ∧ ∀ j, j ∈ ks' ↔ j ∈ ks ∨ j = k := by
  have hm : kI k ∈ kvs.map (·.1) ↔ k ∈ ks := by
    rw [h.eq]
    constructor
    · intro z
      obtain ⟨j, hj, e⟩ := List.mem_map.mp z
      rw [← kI_inj e]; exact hj
    · exact fun z => List.mem_map.mpr ⟨k, z, rfl⟩
  by_cases hin : k ∈ ks
  · refine ⟨ks, ⟨by rw [(keys_put _ _ _).1 (hm.mpr hin)]; exact h.eq, h.nd, h.ne⟩, fun j => ⟨.inl, fun z => z.elim id fun e => by rw [e]; exact hin⟩⟩
  · refine ⟨ks ++ [k], ⟨by rw [(keys_put _ _ _).2 (fun z => hin (hm.mp z)), h.eq, List.map_append]; rfl, ?_, ?_⟩, fun j => by simp⟩
    · rw [List.nodup_append]
      exact ⟨h.nd, List.pairwise_singleton _ _, fun a ha b hb e => by
        rw [List.mem_singleton.mp hb] at e
        exact hin (by rw [← e]; exact ha)⟩
    · intro j hj
      rcases List.mem_append.mp hj with z | z
      · exact h.ne j z
      · rw [List.mem_singleton.mp z]; exact hk
theorem DKeys.mem {kvs : KV} {ks : List (List Int)} (h : DKeys kvs ks) (k : List Int) : k ∈ ks ↔ valV kvs (kI k) ≠ none := by
  rw [valV_mem, h.eq]
  constructor
  · exact fun z => List.mem_map.mpr ⟨k, z, rfl⟩
  · intro z
    obtain ⟨j, hj, e⟩ := List.mem_map.mp z
    rw [← kI_inj e]; exact hj
def v4 (h : HP4) : List V := [.int h.1, .int h.2.1, .int h.2.2.1, .int h.2.2.2]
structure RAbs (H : Hp) (D : RollD) (s : Abs) (LY LZ : List (List Int)) : Prop where
  yv : ∀ k, valV D.Y (kI k) = (s.y k).map V.int
  yk : ∃ ks, DKeys D.Y ks ∧ ks ⊆ LY
  zn : ∀ k, s.z k = none → valV D.Z (kI k) = none
  zs : ∀ k h, s.z k = some h → ∃ a, valV D.Z (kI k) = some (.ref a) ∧ H a = some (.tup (v4 h))
  zk : ∃ ks, DKeys D.Z ks ∧ ks ⊆ LZ
theorem RAbs.same {H H' : Hp} {D : RollD} {s : Abs} {LY LZ : List (List Int)} (e : Same H H') (h : RAbs H D s LY LZ) : RAbs H' D s LY LZ :=
  ⟨h.yv, h.yk, h.zn, fun k x q => (h.zs k x q).imp fun _ z => ⟨z.1, e _ _ z.2⟩, h.zk⟩
theorem RAbs.tups {H H' : Hp} {D : RollD} {s : Abs} {LY LZ : List (List Int)} (e : TupS H H') (h : RAbs H D s LY LZ) : RAbs H' D s LY LZ :=
  ⟨h.yv, h.yk, h.zn, fun k x q => (h.zs k x q).imp fun _ z => ⟨z.1, e _ _ z.2⟩, h.zk⟩
theorem RAbs.mono {H : Hp} {D : RollD} {s : Abs} {LY LZ LY' LZ' : List (List Int)} (h : RAbs H D s LY LZ) (a : LY ⊆ LY') (b : LZ ⊆ LZ') : RAbs H D s LY' LZ' :=
  ⟨h.yv, h.yk.imp fun _ z => ⟨z.1, fun _ y => a (z.2 y)⟩, h.zn, h.zs, h.zk.imp fun _ z => ⟨z.1, fun _ y => b (z.2 y)⟩⟩
theorem RAbs.zero {H : Hp} {D : RollD} {LY LZ : List (List Int)} (eY : D.Y = []) (eZ : D.Z = []) : RAbs H D abs0 LY LZ where
  yv := fun k => by rw [eY]; rfl
  yk := ⟨[], by rw [eY]; exact DKeys.nil, fun _ z => by cases z⟩
  zn := fun k _ => by rw [eZ]; rfl
  zs := fun k x z => by cases z
  zk := ⟨[], by rw [eZ]; exact DKeys.nil, fun _ z => by cases z⟩
end TB
namespace TB
open PySem L2
def j4 (h : HP4) : List Int := [h.1, h.2.1, h.2.2.1, h.2.2.2]
def mN (hs : List HP4) : Int := (hs.map fun h => h.1).sum
def mT (hs : List HP4) : Int := (hs.map fun h => h.2.1).sum
def HsOk (hs : List HP4) : Prop := hs.length ≤ 40 ∧ ∀ h ∈ hs, 1 ≤ h.1 ∧ h.1 < 10 ^ 42 ∧ -(10 ^ 80) < h.2.1 ∧ h.2.1 < 10 ^ 80
theorem mN_pos : ∀ {hs : List HP4}, (∀ h ∈ hs, 1 ≤ h.1 ∧ h.1 < 10 ^ 42 ∧ -(10 ^ 80) < h.2.1 ∧ h.2.1 < 10 ^ 80) → (hs.length : Int) ≤ mN hs ∧ mN hs ≤ hs.length * 10 ^ 42 ∧ -(hs.length * 10 ^ 80 : Int) ≤ mT hs ∧ mT hs ≤ hs.length * 10 ^ 80
  | [], _ => by simp [mN, mT]
  | h :: t, ok => by
    have i := mN_pos (hs := t) fun x hx => ok x (List.mem_cons_of_mem _ hx)
    have j := ok h List.mem_cons_self
    have e1 : mN (h :: t) = h.1 + mN t := by simp [mN]
    have e2 : mT (h :: t) = h.2.1 + mT t := by simp [mT]
    rw [e1, e2, List.length_cons]
    omega
theorem HsOk.b {hs : List HP4} (h : HsOk hs) : 0 ≤ mN hs ∧ mN hs ≤ 10 ^ 44 ∧ -(10 ^ 82) ≤ mT hs ∧ mT hs ≤ 10 ^ 82 ∧ (hs ≠ [] → 1 ≤ mN hs) := by
  have b := mN_pos h.2
  have l := h.1
  refine ⟨by omega, by omega, by omega, by omega, fun z => ?_⟩
  have := List.length_pos_iff.mpr z
  omega
def Low (a b t n : Int) : Prop := 1 ≤ b ∧ a * n = t * b ∧ Nat.gcd a.natAbs b.natAbs = 1 ∧ b ≤ n ∧ a.natAbs ≤ t.natAbs
theorem low_of {t n : Int} (hn : 1 ≤ n) : Low (t / (Nat.gcd t.natAbs n.natAbs : Int)) (n / (Nat.gcd t.natAbs n.natAbs : Int)) t n ∧ 1 ≤ (Nat.gcd t.natAbs n.natAbs : Int) ∧ (Nat.gcd t.natAbs n.natAbs : Int) ≤ n := by
  have hg : 0 < Nat.gcd t.natAbs n.natAbs := Nat.gcd_pos_of_pos_right _ (by omega)
  have d1 : (Nat.gcd t.natAbs n.natAbs : Int) ∣ t := Int.ofNat_dvd_left.mpr (Nat.gcd_dvd_left _ _)
  have d2 : (Nat.gcd t.natAbs n.natAbs : Int) ∣ n := Int.ofNat_dvd_left.mpr (Nat.gcd_dvd_right _ _)
  have le : Nat.gcd t.natAbs n.natAbs ≤ n.natAbs := Nat.le_of_dvd (by omega) (Nat.gcd_dvd_right _ _)
  generalize e : Nat.gcd t.natAbs n.natAbs = g at hg d1 d2 le ⊢
  obtain ⟨a, rfl⟩ := d1
  obtain ⟨b, rfl⟩ := d2
  have hg' : (0 : Int) < g := by omega
  rw [Int.mul_ediv_cancel_left _ (by omega), Int.mul_ediv_cancel_left _ (by omega)]
  rw [Int.natAbs_mul, Int.natAbs_mul, Int.natAbs_natCast, Nat.gcd_mul_left] at e
  have cop : Nat.gcd a.natAbs b.natAbs = 1 := Nat.eq_of_mul_eq_mul_left hg (by rw [e, Nat.mul_one])
  have bp : 1 ≤ b := Decidable.byContradiction fun z => by
    have := Int.mul_le_mul_of_nonneg_left (show b ≤ 0 by omega) (Int.le_of_lt hg')
    omega
  refine ⟨⟨bp, ?_, cop, ?_, ?_⟩, by omega, by omega⟩
  · rw [Int.mul_left_comm, Int.mul_assoc]
  · have := Int.mul_le_mul_of_nonneg_right (show (1 : Int) ≤ g by omega) (show 0 ≤ b by omega)
    rwa [Int.one_mul] at this
  · rw [Int.natAbs_mul, Int.natAbs_natCast]
    have := Nat.mul_le_mul_right a.natAbs hg
    rwa [Nat.succ_eq_add_one, Nat.zero_add, Nat.one_mul] at this
def sp_manyof : Sp := fun vs H Q _ => ∃ l xs hs, vs = [.ref l] ∧ H l = some (.lst xs) ∧ Tups H xs (hs.map j4) ∧ hs.length ≤ 200 ∧ ∀ H', Same H H' → Q (.int (mN hs)) H'
def sp_totalof : Sp := fun vs H Q _ => ∃ l xs hs, vs = [.ref l] ∧ H l = some (.lst xs) ∧ Tups H xs (hs.map j4) ∧ hs.length ≤ 200 ∧ ∀ H', Same H H' → Q (.int (mT hs)) H'
def sp_leastof : Sp := fun vs H Q _ => ∃ l xs hs, vs = [.ref l] ∧ H l = some (.lst xs) ∧ Tups H xs (hs.map j4) ∧ hs.length ≤ 200 ∧ hs ≠ [] ∧ ∀ z H', Same H H' → z ∈ hs.map (fun h => h.2.2.1) → (∀ x ∈ hs.map (fun h => h.2.2.1), z ≤ x) → Q (.int z) H'
def sp_greatof : Sp := fun vs H Q _ => ∃ l xs hs, vs = [.ref l] ∧ H l = some (.lst xs) ∧ Tups H xs (hs.map j4) ∧ hs.length ≤ 200 ∧ hs ≠ [] ∧ ∀ z H', Same H H' → z ∈ hs.map (fun h => h.2.2.2) → (∀ x ∈ hs.map (fun h => h.2.2.2), x ≤ z) → Q (.int z) H'
def sp_gcd : Sp := fun vs H Q _ => ∃ m n : Nat, vs = [.int m, .int n] ∧ Q (.int (Nat.gcd m n)) H
def sp_low : Sp := fun vs H Q _ => ∃ t n, vs = [.int t, .int n] ∧ 1 ≤ n ∧ n < 10 ^ 45 ∧ ∀ p a b H', New H H' p (.tup [.int a, .int b]) → Low a b t n → Q (.ref p) H'
def wd : Nat → Str
  | 0 => "many"
  | 1 => "sum"
  | 2 => "least"
  | 3 => "greatest"
  | _ => "mean"
def clsK (a b c d e : Addr) : Nat → Addr
  | 0 => a
  | 1 => b
  | 2 => c
  | 3 => d
  | _ => e
def sp_measure (C : Nat → Addr) (N : Addr) : Sp := fun vs H Q E => ∃ w : Str, vs = [.str w] ∧ (∀ k, k < 5 → w = wd k → ∀ x dx H', Same H H' → H' x = some (.ins (C k) dx []) → Q (.ref x) H') ∧ ((∀ k, k < 5 → w ≠ wd k) → E (.ref N) none H)
end TB
namespace TB
open PySem L2
def wOf (h : HP4) : List (Int × Int) := wRow h.1 h.2.1 h.2.2.1 h.2.2.2
def wAll (ps : List HP4) : List (Int × Int) := ps.flatMap wOf
def PsOk (ps : List HP4) : Prop := (wAll ps).length < 64 ∧ HsOk ps ∧ ∀ h ∈ ps, CanBe h.1 h.2.1 h.2.2.1 h.2.2.2 ∧ HBd h.1 h.2.2.1 h.2.2.2
def r2 (p : Int × Int) : List Int := [p.1, p.2]
def Rises (rs : List (Int × Int)) : Prop := (rs.map r2).Pairwise fun k l => blt l k = false
theorem pairs_H {H : Hp} : ∀ {xs : List V} {rs : List (Int × Int)}, Pairs H xs rs → TupsH H xs (rs.map r2)
  | _, _, .nil => .nil
  | _, _, .cons r t => .cons r (pairs_H t)
theorem pairs_of_H {H : Hp} : ∀ {xs : List V} {rs : List (Int × Int)}, TupsH H xs (rs.map r2) → Pairs H xs rs
  | [], [], _ => .nil
  | _ :: _, _ :: _, .cons r t => .cons r (pairs_of_H t)
theorem perm_r2 {ms : List (List Int)} {rs : List (Int × Int)} (h : ms.Perm (rs.map r2)) : ∃ qs : List (Int × Int), ms = qs.map r2 ∧ qs.Perm rs := by
  refine ⟨ms.map fun m => (m.getD 0 0, m.getD 1 0), ?_, ?_⟩
  · rw [List.map_map]
    have : ∀ m ∈ ms, (r2 ∘ fun m => (m.getD 0 0, m.getD 1 0)) m = m := fun m hm => by
      obtain ⟨p, _, rfl⟩ := List.mem_map.mp (h.mem_iff.mp hm)
      rfl
    exact (List.map_id ms).symm.trans (List.map_congr_left fun m hm => (this m hm).symm)
  · have := h.map fun m => (m.getD 0 0, m.getD 1 0)
    rw [List.map_map] at this
    have e : rs.map ((fun m : List Int => (m.getD 0 0, m.getD 1 0)) ∘ r2) = rs := by
      conv => rhs; rw [← List.map_id rs]
      exact List.map_congr_left fun p _ => rfl
    rw [e] at this
    exact this
def sp_wruns : Sp := fun vs H Q _ => ∃ l xs ps, vs = [.ref l] ∧ H l = some (.lst xs) ∧ Tups H xs (ps.map j4) ∧ PsOk ps ∧ ∀ p ys rs H', Same H H' → H' p = some (.lst ys) → Pairs H' ys rs → rs.Perm (wAll ps) → Rises rs → Q (.ref p) H'
def sp_beyond : Sp := fun vs H Q _ => ∃ v n t b, vs = [.int v, .int n, .int t, .bl b] ∧ CMulB v n ∧ Q (.bl (if b = true then decide (t < v * n) else decide (v * n < t))) H
def mStep (b : Bool) (s : Int × Int) (r : Int × Int) : Int × Int := if s.1 = 0 ∨ (if b = true then decide (s.2 < r.1 * s.1) else decide (r.1 * s.1 < s.2)) = true then (s.1 + r.2, s.2 + r.1 * r.2) else s
theorem mStep_or (b : Bool) (s r : Int × Int) : mStep b s r = (s.1 + r.2, s.2 + r.1 * r.2) ∨ (mStep b s r = s ∧ s.1 ≠ 0) := by
  unfold mStep
  by_cases h : s.1 = 0 ∨ (if b = true then decide (s.2 < r.1 * s.1) else decide (r.1 * s.1 < s.2)) = true
  · exact .inl (if_pos h)
  · exact .inr ⟨if_neg h, fun z => h (.inl z)⟩
def mE (b : Bool) (hs : List HP4) (rs : List (Int × Int)) : Int × Int := rs.foldl (mStep b) (mN hs, mT hs)
def RB (p : Int × Int) : Prop := (-(10 ^ 45) < p.1 ∧ p.1 < 10 ^ 45) ∧ 1 ≤ p.2 ∧ p.2 < 10 ^ 43
def sp_meanend : Sp := fun vs H Q _ => ∃ l r xs ys hs rs b, vs = [.ref l, .ref r, .bl b] ∧ H l = some (.lst xs) ∧ Tups H xs (hs.map j4) ∧ HsOk hs ∧ H r = some (.lst ys) ∧ Pairs H ys rs ∧ rs.length < 64 ∧ (∀ p ∈ rs, RB p) ∧ (hs ≠ [] ∨ rs ≠ []) ∧ ∀ p x y H', Same H H' → H' p = some (.tup [.int x, .int y]) → Low x y (mE b hs rs).2 (mE b hs rs).1 → Q (.ref p) H'
theorem mE_b {b : Bool} {hs : List HP4} (ok : HsOk hs) {rs : List (Int × Int)} (hr : ∀ p ∈ rs, RB p) : ∀ i, i ≤ rs.length → 0 ≤ (mE b hs (rs.take i)).1 ∧ (mE b hs (rs.take i)).1 ≤ 10 ^ 44 + i * 10 ^ 43 ∧ (hs ≠ [] ∨ 1 ≤ i → 1 ≤ (mE b hs (rs.take i)).1)
  | 0, _ => by
    obtain ⟨b0, b1, _, _, b4⟩ := ok.b
    refine ⟨b0, ?_, fun z => b4 (z.resolve_right (by omega))⟩
    show mN hs ≤ _
    omega
  | i + 1, h => by
    obtain ⟨c0, c1, c2⟩ := mE_b (b := b) ok hr i (by omega)
    have e : rs[i]? = some (rs[i]'(by omega)) := List.getElem?_eq_getElem (by omega)
    have hp := hr _ (List.getElem_mem (show i < rs.length by omega))
    have es : mE b hs (rs.take (i + 1)) = mStep b (mE b hs (rs.take i)) (rs[i]'(by omega)) := by
      unfold mE
      rw [takeN rs i _ e, List.foldl_append]; rfl
    rw [es]
    unfold RB at hp
    have e43 : ((i + 1 : Nat) : Int) * 10 ^ 43 = (i : Int) * 10 ^ 43 + 10 ^ 43 := by omega
    rcases mStep_or b (mE b hs (rs.take i)) (rs[i]'(by omega)) with z | ⟨z, z2⟩
    · rw [z]
      refine ⟨?_, ?_, fun _ => ?_⟩
      · show 0 ≤ (mE b hs (rs.take i)).1 + _; omega
      · show (mE b hs (rs.take i)).1 + _ ≤ _; omega
      · show 1 ≤ (mE b hs (rs.take i)).1 + _; omega
    · rw [z]
      exact ⟨c0, by omega, fun _ => by omega⟩
end TB
namespace TB
open PySem L2
theorem hinge_eq {A B v : Int} (hB : 1 ≤ B) : (B - A % B) * fA (A / B) v + (A % B) * fA (A / B + 1) v = if A < B * v then B * v - A else 0 := by
  have e := Int.mul_ediv_add_emod A B
  have r0 := Int.emod_nonneg A (show B ≠ 0 by omega)
  have r1 := Int.emod_lt_of_pos A (show 0 < B by omega)
  generalize A / B = q at e ⊢
  generalize A % B = r at e r0 r1 ⊢
  by_cases h : v ≤ q
  · have f1 : fA q v = 0 := by unfold fA; rw [if_neg (by omega)]
    have f2 : fA (q + 1) v = 0 := by unfold fA; rw [if_neg (by omega)]
    have := Int.mul_le_mul_of_nonneg_left h (show 0 ≤ B by omega)
    rw [f1, f2, if_neg (by omega)]
    simp
  · have f1 : fA q v = v - q := by unfold fA; rw [if_pos (by omega)]
    have f2 : fA (q + 1) v = v - (q + 1) := by
      unfold fA
      split
      · rfl
      · omega
    have hm := Int.mul_le_mul_of_nonneg_left (show q + 1 ≤ v by omega) (show 0 ≤ B by omega)
    rw [Int.mul_add, Int.mul_one] at hm
    have x1 : (B - r) * (v - q) + r * (v - (q + 1)) = B * v - A := by
      rw [← e, Int.sub_mul, Int.mul_sub, Int.mul_sub, Int.mul_sub, Int.mul_add, Int.mul_one]
      omega
    rw [f1, f2, x1, if_pos (by omega)]
end TB
namespace TB
open PySem L2
def hg (A B v : Int) : Int := if A < B * v then B * v - A else 0
def sumH (A B : Int) : List (Int × Int) → Int
  | [] => 0
  | p :: r => hg A B p.1 * p.2 + sumH A B r
def mF (b : Bool) (s : Int × Int) (rs : List (Int × Int)) : Int × Int := rs.foldl (mStep b) s
theorem mStep_up (s r : Int × Int) : (mStep true s r = (s.1 + r.2, s.2 + r.1 * r.2) ∧ (s.1 = 0 ∨ s.2 < r.1 * s.1)) ∨ (mStep true s r = s ∧ s.1 ≠ 0 ∧ r.1 * s.1 ≤ s.2) := by
  unfold mStep
  by_cases h : s.1 = 0 ∨ (if true = true then decide (s.2 < r.1 * s.1) else decide (r.1 * s.1 < s.2)) = true
  · refine .inl ⟨if_pos h, h.imp id fun z => ?_⟩
    simpa using z
  · refine .inr ⟨if_neg h, fun z => h (.inl z), ?_⟩
    have : ¬ (if true = true then decide (s.2 < r.1 * s.1) else decide (r.1 * s.1 < s.2)) = true := fun z => h (.inr z)
    simp at this
    exact this
theorem mF_le {v : Int} : ∀ (rs : List (Int × Int)) (s : Int × Int), 0 ≤ s.1 → s.2 ≤ v * s.1 → (∀ p ∈ rs, p.1 ≤ v ∧ 1 ≤ p.2) → (mF true s rs).2 ≤ v * (mF true s rs).1
  | [], s, _, h, _ => h
  | p :: r, s, h0, h, hr => by
    have hp := hr p List.mem_cons_self
    show (mF true (mStep true s p) r).2 ≤ v * (mF true (mStep true s p) r).1
    rcases mStep_up s p with ⟨e, _⟩ | ⟨e, _⟩
    · rw [e]
      refine mF_le r _ (by show 0 ≤ s.1 + p.2; omega) ?_ fun q hq => hr q (List.mem_cons_of_mem _ hq)
      show s.2 + p.1 * p.2 ≤ v * (s.1 + p.2)
      have := Int.mul_le_mul_of_nonneg_right hp.1 (show 0 ≤ p.2 by omega)
      rw [Int.mul_add]
      omega
    · rw [e]
      exact mF_le r s h0 h fun q hq => hr q (List.mem_cons_of_mem _ hq)
theorem mF_up : ∀ (rs : List (Int × Int)) (s : Int × Int), 1 ≤ s.1 → (∀ p ∈ rs, 1 ≤ p.2) → s.1 ≤ (mF true s rs).1 ∧ (mF true s rs).1 * s.2 ≤ (mF true s rs).2 * s.1
  | [], s, _, _ => ⟨Int.le_refl _, by show s.1 * s.2 ≤ s.2 * s.1; rw [Int.mul_comm]; exact Int.le_refl _⟩
  | p :: r, s, h1, hr => by
    have hp := hr p List.mem_cons_self
    show s.1 ≤ (mF true (mStep true s p) r).1 ∧ (mF true (mStep true s p) r).1 * s.2 ≤ (mF true (mStep true s p) r).2 * s.1
    rcases mStep_up s p with ⟨e, c⟩ | ⟨e, _⟩
    · rw [e]
      obtain ⟨i1, i2⟩ := mF_up r (s.1 + p.2, s.2 + p.1 * p.2) (by show 1 ≤ s.1 + p.2; omega) fun q hq => hr q (List.mem_cons_of_mem _ hq)
      generalize mF true (s.1 + p.2, s.2 + p.1 * p.2) r = f at i1 i2 ⊢
      obtain ⟨B, A⟩ := f
      have i1 : s.1 + p.2 ≤ B := i1
      have i2 : B * (s.2 + p.1 * p.2) ≤ A * (s.1 + p.2) := i2
      have c2 : s.2 < p.1 * s.1 := c.resolve_left (by omega)
      refine ⟨by show s.1 ≤ B; omega, ?_⟩
      show B * s.2 ≤ A * s.1
      have k1 : p.2 * s.2 ≤ p.2 * (p.1 * s.1) := Int.mul_le_mul_of_nonneg_left (by omega) (by omega)
      have k2 : s.2 * (s.1 + p.2) ≤ (s.2 + p.1 * p.2) * s.1 := by
        have e1 : s.2 * (s.1 + p.2) = s.2 * s.1 + p.2 * s.2 := by rw [Int.mul_add, Int.mul_comm s.2 p.2]
        have e2 : (s.2 + p.1 * p.2) * s.1 = s.2 * s.1 + p.2 * (p.1 * s.1) := by rw [Int.add_mul, Int.mul_comm p.1 p.2, Int.mul_assoc]
        omega
      have k3 := Int.mul_le_mul_of_nonneg_left k2 (show 0 ≤ B by omega)
      have k4 := Int.mul_le_mul_of_nonneg_right i2 (show 0 ≤ s.1 by omega)
      have hpos : 0 < s.1 + p.2 := by omega
      refine Int.le_of_mul_le_mul_right ?_ hpos
      have e3 : B * s.2 * (s.1 + p.2) = B * (s.2 * (s.1 + p.2)) := Int.mul_assoc _ _ _
      have e4 : A * s.1 * (s.1 + p.2) = A * (s.1 + p.2) * s.1 := by rw [Int.mul_assoc, Int.mul_comm s.1, ← Int.mul_assoc]
      have e5 : B * ((s.2 + p.1 * p.2) * s.1) = B * (s.2 + p.1 * p.2) * s.1 := (Int.mul_assoc _ _ _).symm
      rw [e3, e4]
      rw [e5] at k3
      exact Int.le_trans k3 k4
    · rw [e]
      exact mF_up r s h1 fun q hq => hr q (List.mem_cons_of_mem _ hq)
theorem mF_sum : ∀ (rs : List (Int × Int)) (s : Int × Int), 0 ≤ s.1 → (s.1 = 0 → s.2 = 0) → (∀ p ∈ rs, 1 ≤ p.2) → rs.Pairwise (fun p q => q.1 ≤ p.1) → 1 ≤ (mF true s rs).1 → sumH (mF true s rs).2 (mF true s rs).1 rs = (mF true s rs).2 * s.1 - (mF true s rs).1 * s.2
  | [], s, _, _, _, _, _ => by
    show (0 : Int) = s.2 * s.1 - s.1 * s.2
    rw [Int.mul_comm]; omega
  | p :: r, s, h0, hz, hr, pw, hB => by
    have hp := hr p List.mem_cons_self
    rw [List.pairwise_cons] at pw
    have hr' : ∀ q ∈ r, 1 ≤ q.2 := fun q hq => hr q (List.mem_cons_of_mem _ hq)
    have eF : mF true s (p :: r) = mF true (mStep true s p) r := rfl
    rw [eF] at hB ⊢
    rcases mStep_up s p with ⟨e, c⟩ | ⟨e, c1, c2⟩
    · rw [e] at hB ⊢
      have ih := mF_sum r (s.1 + p.2, s.2 + p.1 * p.2) (by show 0 ≤ s.1 + p.2; omega) (fun z => by have z : s.1 + p.2 = 0 := z; omega) hr' pw.2 hB
      have le := mF_le (v := p.1) r (s.1 + p.2, s.2 + p.1 * p.2) (by show 0 ≤ s.1 + p.2; omega) (by
        show s.2 + p.1 * p.2 ≤ p.1 * (s.1 + p.2)
        rw [Int.mul_add]
        rcases c with c | c
        · have := hz c
          rw [c, Int.mul_zero]
          omega
        · omega) fun q hq => ⟨pw.1 q hq, hr' q hq⟩
      generalize mF true (s.1 + p.2, s.2 + p.1 * p.2) r = f at ih le hB ⊢
      obtain ⟨B, A⟩ := f
      have ih : sumH A B r = A * (s.1 + p.2) - B * (s.2 + p.1 * p.2) := ih
      have le : A ≤ p.1 * B := le
      show hg A B p.1 * p.2 + sumH A B r = A * s.1 - B * s.2
      have eh : hg A B p.1 = B * p.1 - A := by
        unfold hg
        rw [Int.mul_comm p.1 B] at le
        split
        · rfl
        · omega
      rw [eh, ih, Int.sub_mul, Int.mul_add, Int.mul_add, ← Int.mul_assoc B p.1 p.2]
      omega
    · rw [e] at hB ⊢
      have ih := mF_sum r s h0 hz hr' pw.2 hB
      obtain ⟨u1, u2⟩ := mF_up r s (by omega) hr'
      generalize mF true s r = f at ih u1 u2 hB ⊢
      obtain ⟨B, A⟩ := f
      have ih : sumH A B r = A * s.1 - B * s.2 := ih
      have u2 : B * s.2 ≤ A * s.1 := u2
      have hB : 1 ≤ B := hB
      show hg A B p.1 * p.2 + sumH A B r = A * s.1 - B * s.2
      have eh : hg A B p.1 = 0 := by
        unfold hg
        rw [if_neg]
        intro z
        have k1 := Int.mul_le_mul_of_nonneg_left c2 (show 0 ≤ B by omega)
        have k2 : A * s.1 < B * p.1 * s.1 := Int.mul_lt_mul_of_pos_right z (show 0 < s.1 by omega)
        rw [← Int.mul_assoc] at k1
        omega
      rw [eh, ih, Int.zero_mul]
      omega
end TB
namespace TB
open PySem L2
theorem sumH_above {A B : Int} (hB : 1 ≤ B) : ∀ rs : List (Int × Int), sumH A B rs = (B - A % B) * above (A / B) rs + (A % B) * above (A / B + 1) rs
  | [] => by simp [sumH, above]
  | p :: r => by
    have ih := sumH_above (A := A) hB r
    have e := hinge_eq (A := A) (v := p.1) hB
    show hg A B p.1 * p.2 + sumH A B r = (B - A % B) * (fA (A / B) p.1 * p.2 + above (A / B) r) + (A % B) * (fA (A / B + 1) p.1 * p.2 + above (A / B + 1) r)
    have e2 : hg A B p.1 = (B - A % B) * fA (A / B) p.1 + (A % B) * fA (A / B + 1) p.1 := e.symm
    rw [e2, ih, Int.add_mul, Int.mul_add, Int.mul_add, ← Int.mul_assoc, ← Int.mul_assoc]
    omega
theorem HeapOf.sumH {rs : List (Int × Int)} {m t lo hi A B : Int} (hB : 1 ≤ B) (h : HeapOf rs m t lo hi) (ok : RunsOk rs) : TB.sumH A B rs ≤ TB.sumH A B (wRow m t lo hi) := by
  rw [sumH_above hB, sumH_above hB]
  have a1 := h.above ok (A / B)
  have a2 := h.above ok (A / B + 1)
  have r0 := Int.emod_nonneg A (show B ≠ 0 by omega)
  have r1 := Int.emod_lt_of_pos A (show 0 < B by omega)
  have g1 := Int.mul_le_mul_of_nonneg_left a1 (show 0 ≤ B - A % B by omega)
  have g2 := Int.mul_le_mul_of_nonneg_left a2 r0
  omega
inductive SubR : List (Int × Int) → List (Int × Int) → Prop
  | nil : SubR [] []
  | skip {S G : List (Int × Int)} {p : Int × Int} : SubR S G → SubR S (p :: G)
  | take {S G : List (Int × Int)} {v c d : Int} : 1 ≤ d → d ≤ c → SubR S G → SubR ((v, d) :: S) ((v, c) :: G)
theorem hg_b (A B v : Int) : 0 ≤ hg A B v ∧ B * v - A ≤ hg A B v := by unfold hg; split <;> omega
theorem SubR.le {A B : Int} : ∀ {S G : List (Int × Int)}, SubR S G → (∀ p ∈ G, 1 ≤ p.2) → B * rT S - A * rN S ≤ sumH A B G
  | _, _, .nil, _ => by simp [rT, rN, prds, cnts, sumH]
  | _, _, .skip (S := S) (G := G) (p := p) h, ok => by
    have ih := h.le (A := A) (B := B) fun q hq => ok q (List.mem_cons_of_mem _ hq)
    have hp := ok p List.mem_cons_self
    have := Int.mul_nonneg (hg_b A B p.1).1 (show 0 ≤ p.2 by omega)
    show _ ≤ hg A B p.1 * p.2 + sumH A B G
    omega
  | _, _, .take (S := S) (G := G) (v := v) (c := c) (d := d) h1 h2 h, ok => by
    have ih := h.le (A := A) (B := B) fun q hq => ok q (List.mem_cons_of_mem _ hq)
    have k0 := hg_b A B v
    have k1 := Int.mul_le_mul_of_nonneg_right k0.2 (show 0 ≤ d by omega)
    have k2 := Int.mul_le_mul_of_nonneg_left h2 k0.1
    show B * rT ((v, d) :: S) - A * rN ((v, d) :: S) ≤ hg A B v * c + sumH A B G
    rw [rT_cons, rN_cons]
    show B * (v * d + rT S) - A * (d + rN S) ≤ _
    rw [Int.sub_mul] at k1
    rw [Int.mul_add, Int.mul_add, ← Int.mul_assoc]
    omega
theorem SubR.n {S G : List (Int × Int)} (h : SubR S G) (ok : ∀ p ∈ G, 1 ≤ p.2) : 0 ≤ rN S ∧ rN S ≤ rN G := by
  induction h with
  | nil => simp [rN, cnts]
  | skip h ih =>
    have := ih fun q hq => ok q (List.mem_cons_of_mem _ hq)
    have hp := ok _ List.mem_cons_self
    rw [rN_cons]
    omega
  | take h1 h2 h ih =>
    have := ih fun q hq => ok q (List.mem_cons_of_mem _ hq)
    rw [rN_cons, rN_cons]
    dsimp only
    omega
theorem SubR.v {S G : List (Int × Int)} (h : SubR S G) : ∀ x ∈ vals S, x ∈ vals G := by
  induction h with
  | nil => exact fun x hx => hx
  | skip h ih => exact fun x hx => List.mem_cons_of_mem _ (ih x hx)
  | take h1 h2 h ih =>
    intro x hx
    rcases List.mem_cons.mp hx with z | z
    · exact List.mem_cons.mpr (.inl z)
    · exact List.mem_cons_of_mem _ (ih x z)
end TB
namespace TB
open PySem L2
def ng (p : Int × Int) : Int × Int := (-p.1, p.2)
def sumL (A B : Int) (rs : List (Int × Int)) : Int := sumH (-A) B (rs.map ng)
theorem above_ng (c : Int) : ∀ rs : List (Int × Int), above c (rs.map ng) = below (-c) rs
  | [] => rfl
  | p :: r => by
    show fA c (-p.1) * p.2 + above c (r.map ng) = fB (-c) p.1 * p.2 + below (-c) r
    rw [above_ng c r]
    have : fA c (-p.1) = fB (-c) p.1 := by unfold fA fB; split <;> split <;> omega
    rw [this]
theorem HeapOf.sumL {rs : List (Int × Int)} {m t lo hi A B : Int} (hB : 1 ≤ B) (h : HeapOf rs m t lo hi) (ok : RunsOk rs) : TB.sumL A B rs ≤ TB.sumL A B (wRow m t lo hi) := by
  unfold TB.sumL
  rw [sumH_above hB, sumH_above hB, above_ng, above_ng, above_ng, above_ng]
  have a1 := h.below ok (-(-A / B))
  have a2 := h.below ok (-(-A / B + 1))
  have r0 := Int.emod_nonneg (-A) (show B ≠ 0 by omega)
  have r1 := Int.emod_lt_of_pos (-A) (show 0 < B by omega)
  have g1 := Int.mul_le_mul_of_nonneg_left a1 (show 0 ≤ B - -A % B by omega)
  have g2 := Int.mul_le_mul_of_nonneg_left a2 r0
  omega
theorem rN_ng : ∀ rs : List (Int × Int), rN (rs.map ng) = rN rs
  | [] => rfl
  | p :: r => by rw [List.map_cons, rN_cons, rN_cons, rN_ng r]; rfl
theorem rT_ng : ∀ rs : List (Int × Int), rT (rs.map ng) = -rT rs
  | [] => rfl
  | p :: r => by
    rw [List.map_cons, rT_cons, rT_cons, rT_ng r]
    show -p.1 * p.2 + _ = _
    rw [Int.neg_mul]; omega
theorem SubR.ng {S G : List (Int × Int)} (h : SubR S G) : SubR (S.map ng) (G.map ng) := by
  induction h with
  | nil => exact .nil
  | skip _ ih => exact .skip ih
  | take h1 h2 _ ih => exact .take h1 h2 ih
theorem ng_ok {G : List (Int × Int)} (ok : ∀ p ∈ G, 1 ≤ p.2) : ∀ p ∈ G.map ng, 1 ≤ p.2 := fun p hp => by
  obtain ⟨q, hq, rfl⟩ := List.mem_map.mp hp
  exact ok q hq
theorem SubR.ge {A B : Int} {S G : List (Int × Int)} (h : SubR S G) (ok : ∀ p ∈ G, 1 ≤ p.2) : -(sumL A B G) ≤ B * rT S - A * rN S := by
  have := h.ng.le (A := -A) (B := B) (ng_ok ok)
  rw [rN_ng, rT_ng, Int.mul_neg, Int.neg_mul] at this
  unfold sumL
  omega
theorem sumH_app (A B : Int) : ∀ xs ys : List (Int × Int), sumH A B (xs ++ ys) = sumH A B xs + sumH A B ys
  | [], ys => by simp [sumH]
  | p :: r, ys => by
    show hg A B p.1 * p.2 + sumH A B (r ++ ys) = hg A B p.1 * p.2 + sumH A B r + sumH A B ys
    rw [sumH_app A B r ys]; omega
theorem sumH_perm {A B : Int} {xs ys : List (Int × Int)} (h : xs.Perm ys) : sumH A B xs = sumH A B ys := by
  induction h with
  | nil => rfl
  | cons p _ ih => show hg A B p.1 * p.2 + _ = hg A B p.1 * p.2 + _; rw [ih]
  | swap p q r => show hg A B q.1 * q.2 + (hg A B p.1 * p.2 + sumH A B r) = hg A B p.1 * p.2 + (hg A B q.1 * q.2 + sumH A B r); omega
  | trans _ _ i j => exact i.trans j
theorem sumL_perm {A B : Int} {xs ys : List (Int × Int)} (h : xs.Perm ys) : sumL A B xs = sumL A B ys := sumH_perm (h.map ng)
theorem sumL_app (A B : Int) (xs ys : List (Int × Int)) : sumL A B (xs ++ ys) = sumL A B xs + sumL A B ys := by
  unfold sumL; rw [List.map_append, sumH_app]
theorem rN_perm {xs ys : List (Int × Int)} (h : xs.Perm ys) : rN xs = rN ys := by
  induction h with
  | nil => rfl
  | cons p _ ih => rw [rN_cons, rN_cons, ih]
  | swap p q r => rw [rN_cons, rN_cons, rN_cons, rN_cons]; omega
  | trans _ _ i j => exact i.trans j
theorem SubR.refl : ∀ {G : List (Int × Int)}, (∀ p ∈ G, 1 ≤ p.2) → SubR G G
  | [], _ => .nil
  | p :: r, ok => .take (ok p List.mem_cons_self) (Int.le_refl _) (SubR.refl fun q hq => ok q (List.mem_cons_of_mem _ hq))
theorem SubR.none : ∀ {G : List (Int × Int)}, SubR [] G
  | [] => .nil
  | _ :: _ => .skip SubR.none
theorem SubR.filter (c : Int × Int → Bool) : ∀ {G : List (Int × Int)}, (∀ p ∈ G, 1 ≤ p.2) → SubR (G.filter c) G
  | [], _ => .nil
  | p :: r, ok => by
    have ih := SubR.filter c (G := r) fun q hq => ok q (List.mem_cons_of_mem _ hq)
    by_cases z : c p = true
    · rw [List.filter_cons_of_pos z]
      exact .take (ok p List.mem_cons_self) (Int.le_refl _) ih
    · rw [List.filter_cons_of_neg z]
      exact .skip ih
theorem SubR.snoc {S G : List (Int × Int)} (h : SubR S G) (p : Int × Int) : SubR S (G ++ [p]) := by
  induction h with
  | nil => exact .skip .nil
  | skip _ ih => exact .skip ih
  | take h1 h2 _ ih => exact .take h1 h2 ih
def PsC (ps : List HP4) : Prop := ∀ h ∈ ps, CanBe h.1 h.2.1 h.2.2.1 h.2.2.2
theorem wRow_ok {h : HP4} (c : CanBe h.1 h.2.1 h.2.2.1 h.2.2.2) : ∀ p ∈ wOf h, 1 ≤ p.2 := fun p hp => by
  obtain ⟨i, hi⟩ := List.mem_iff_getElem?.mp hp
  exact ((WRow.of c).ok hi).1
theorem wAll_ok {ps : List HP4} (c : PsC ps) : ∀ p ∈ wAll ps, 1 ≤ p.2 := fun p hp => by
  obtain ⟨h, hh, hw⟩ := List.mem_flatMap.mp hp
  exact wRow_ok (c h hh) p hw
theorem wAll_cons (h : HP4) (ps : List HP4) : wAll (h :: ps) = wOf h ++ wAll ps := rfl
theorem wAll_app (ps qs : List HP4) : wAll (ps ++ qs) = wAll ps ++ wAll qs := by unfold wAll; rw [List.flatMap_append]
theorem mN_cons (h : HP4) (ps : List HP4) : mN (h :: ps) = h.1 + mN ps := by simp [mN]
theorem mN_app (ps qs : List HP4) : mN (ps ++ qs) = mN ps + mN qs := by simp [mN]
theorem mT_app (ps qs : List HP4) : mT (ps ++ qs) = mT ps + mT qs := by simp [mT]
theorem rN_wAll : ∀ {ps : List HP4}, PsC ps → rN (wAll ps) = mN ps
  | [], _ => rfl
  | h :: ps, c => by
    rw [wAll_cons, rN_app, rN_wAll (ps := ps) fun x hx => c x (List.mem_cons_of_mem _ hx), mN_cons]
    have := (WRow.of (c h List.mem_cons_self)).heap.m
    show rN (wRow _ _ _ _) + _ = _
    omega
structure Sb (ps : List HP4) (n t : Int) : Prop where
  n0 : 0 ≤ n
  n1 : n ≤ mN ps
  up : ∀ A B, 1 ≤ B → B * t - A * n ≤ sumH A B (wAll ps)
  lo : ∀ A B, 1 ≤ B → -(sumL A B (wAll ps)) ≤ B * t - A * n
theorem Sb.row {ps : List HP4} {S G : List (Int × Int)} (c : PsC ps) (pm : G.Perm (wAll ps)) (h : SubR S G) : Sb ps (rN S) (rT S) := by
  have ok : ∀ p ∈ G, 1 ≤ p.2 := fun p hp => wAll_ok c p (pm.mem_iff.mp hp)
  have hn := h.n ok
  refine ⟨hn.1, ?_, fun A B _ => ?_, fun A B _ => ?_⟩
  · rw [← rN_wAll c, ← rN_perm pm]; exact hn.2
  · rw [← sumH_perm pm]; exact h.le ok
  · rw [← sumL_perm pm]; exact h.ge ok
theorem Sb.nil {ps : List HP4} (c : PsC ps) : Sb ps 0 0 := Sb.row (S := []) c (List.Perm.refl _) SubR.none
theorem Sb.heap {h : HP4} {rs S : List (Int × Int)} (o : HeapOf rs h.1 h.2.1 h.2.2.1 h.2.2.2) (ok : RunsOk rs) (s : SubR S rs) : Sb [h] (rN S) (rT S) := by
  have ok1 : ∀ p ∈ rs, 1 ≤ p.2 := fun p hp => (ok p hp).2.1
  have hn := s.n ok1
  have ew : wAll [h] = wOf h := by unfold wAll; simp
  have em : mN [h] = h.1 := by simp [mN]
  refine ⟨hn.1, ?_, fun A B hB => ?_, fun A B hB => ?_⟩
  · rw [em, o.m]; exact hn.2
  · rw [ew]; exact Int.le_trans (s.le ok1) (o.sumH hB ok)
  · rw [ew]
    have h1 := s.ge (A := A) (B := B) ok1
    have h2 := o.sumL (A := A) hB ok
    have h2 : TB.sumL A B rs ≤ TB.sumL A B (wOf h) := h2
    omega
theorem Sb.add {ps qs : List HP4} {n t n' t' : Int} (a : Sb ps n t) (b : Sb qs n' t') : Sb (ps ++ qs) (n + n') (t + t') := by
  have a0 := a.n0
  have a1 := a.n1
  have b0 := b.n0
  have b1 := b.n1
  refine ⟨by omega, by rw [mN_app]; omega, fun A B hB => ?_, fun A B hB => ?_⟩
  · have h1 := a.up A B hB
    have h2 := b.up A B hB
    rw [wAll_app, sumH_app, Int.mul_add, Int.mul_add]; omega
  · have h1 := a.lo A B hB
    have h2 := b.lo A B hB
    rw [wAll_app, sumL_app, Int.mul_add, Int.mul_add]; omega
theorem mF_sub (b : Bool) : ∀ (rs : List (Int × Int)) (s : Int × Int), (∀ p ∈ rs, 1 ≤ p.2) → ∃ S, SubR S rs ∧ mF b s rs = (s.1 + rN S, s.2 + rT S)
  | [], s, _ => ⟨[], .nil, by show s = (s.1 + 0, s.2 + 0); rw [Int.add_zero, Int.add_zero]⟩
  | p :: r, s, ok => by
    have ok' : ∀ q ∈ r, 1 ≤ q.2 := fun q hq => ok q (List.mem_cons_of_mem _ hq)
    have e : mF b s (p :: r) = mF b (mStep b s p) r := rfl
    rcases mStep_or b s p with z | ⟨z, _⟩
    · obtain ⟨S, h, e2⟩ := mF_sub b r (s.1 + p.2, s.2 + p.1 * p.2) ok'
      refine ⟨p :: S, .take (ok p List.mem_cons_self) (Int.le_refl _) h, ?_⟩
      rw [e, z, e2, rN_cons, rT_cons]
      show (s.1 + p.2 + rN S, s.2 + p.1 * p.2 + rT S) = _
      rw [Int.add_assoc, Int.add_assoc]
    · obtain ⟨S, h, e2⟩ := mF_sub b r s ok'
      exact ⟨S, .skip h, by rw [e, z, e2]⟩
theorem mStep_ng (s p : Int × Int) : mStep false s p = ((mStep true (s.1, -s.2) (ng p)).1, -(mStep true (s.1, -s.2) (ng p)).2) := by
  unfold mStep ng
  dsimp only
  have e : (if (false = true) then decide (s.2 < p.1 * s.1) else decide (p.1 * s.1 < s.2)) = (if (true = true) then decide (-s.2 < -p.1 * s.1) else decide (-p.1 * s.1 < -s.2)) := by
    rw [if_neg (by decide), if_pos rfl, Bool.eq_iff_iff, decide_eq_true_eq, decide_eq_true_eq, Int.neg_mul]
    omega
  rw [e]
  generalize (if (true = true) then decide (-s.2 < -p.1 * s.1) else decide (-p.1 * s.1 < -s.2)) = c
  by_cases h : s.1 = 0 ∨ c = true
  · rw [if_pos h, if_pos h, Int.neg_mul]
    show (s.1 + p.2, s.2 + p.1 * p.2) = (s.1 + p.2, -(-s.2 + -(p.1 * p.2)))
    rw [show -(-s.2 + -(p.1 * p.2)) = s.2 + p.1 * p.2 by omega]
  · rw [if_neg h, if_neg h]
    show s = (s.1, - -s.2)
    rw [Int.neg_neg]
theorem mF_ng : ∀ (rs : List (Int × Int)) (s : Int × Int), mF false s rs = ((mF true (s.1, -s.2) (rs.map ng)).1, -(mF true (s.1, -s.2) (rs.map ng)).2)
  | [], s => by show s = (s.1, - -s.2); rw [Int.neg_neg]
  | p :: r, s => by
    have e : mF false s (p :: r) = mF false (mStep false s p) r := rfl
    have e2 : mF true (s.1, -s.2) ((p :: r).map ng) = mF true (mStep true (s.1, -s.2) (ng p)) (r.map ng) := rfl
    rw [e, e2, mF_ng r, mStep_ng]
    dsimp only
    rw [Int.neg_neg]
theorem Rises.val {rs : List (Int × Int)} (h : Rises rs) : rs.Pairwise fun p q => p.1 ≤ q.1 := by
  have := List.pairwise_map.mp h
  refine this.imp fun {p q} h => ?_
  have h : blt [q.1, q.2] [p.1, p.2] = false := h
  unfold blt at h
  split at h
  · omega
  · have := of_decide_eq_false h
    omega
theorem mE_F (b : Bool) (hs : List HP4) (rs : List (Int × Int)) : mE b hs rs = mF b (mN hs, mT hs) rs := rfl
theorem high_end {hs ps : List HP4} {rs : List (Int × Int)} {n t : Int} (pc : PsC ps) (pm : rs.Perm (wAll ps)) (rise : Rises rs) (h0 : 0 ≤ mN hs) (hz : mN hs = 0 → mT hs = 0) (h1 : 1 ≤ (mE true hs rs.reverse).1) (s : Sb ps n t) : (mT hs + t) * (mE true hs rs.reverse).1 ≤ (mE true hs rs.reverse).2 * (mN hs + n) := by
  rw [mE_F] at h1 ⊢
  have ok : ∀ p ∈ rs.reverse, 1 ≤ p.2 := fun p hp => wAll_ok pc p (pm.mem_iff.mp (List.mem_reverse.mp hp))
  have e := mF_sum rs.reverse (mN hs, mT hs) h0 hz ok (List.pairwise_reverse.mpr rise.val) h1
  generalize mF true (mN hs, mT hs) rs.reverse = f at e h1 ⊢
  obtain ⟨B, A⟩ := f
  have e : sumH A B rs.reverse = A * mN hs - B * mT hs := e
  rw [sumH_perm ((List.reverse_perm rs).trans pm)] at e
  have u := s.up A B h1
  show (mT hs + t) * B ≤ A * (mN hs + n)
  rw [Int.add_mul, Int.mul_add, Int.mul_comm (mT hs), Int.mul_comm t]
  omega
theorem low_end {hs ps : List HP4} {rs : List (Int × Int)} {n t : Int} (pc : PsC ps) (pm : rs.Perm (wAll ps)) (rise : Rises rs) (h0 : 0 ≤ mN hs) (hz : mN hs = 0 → mT hs = 0) (h1 : 1 ≤ (mE false hs rs).1) (s : Sb ps n t) : (mE false hs rs).2 * (mN hs + n) ≤ (mT hs + t) * (mE false hs rs).1 := by
  rw [mE_F, mF_ng] at h1 ⊢
  have ok : ∀ p ∈ rs, 1 ≤ p.2 := fun p hp => wAll_ok pc p (pm.mem_iff.mp hp)
  have e := mF_sum (rs.map ng) (mN hs, -mT hs) h0 (fun z => by have := hz z; show -mT hs = 0; omega) (ng_ok ok) (List.pairwise_map.mpr (rise.val.imp fun {p q} h => by show -q.1 ≤ -p.1; omega)) h1
  dsimp only at h1 e ⊢
  generalize mF true (mN hs, -mT hs) (rs.map ng) = f at e h1 ⊢
  obtain ⟨B, A⟩ := f
  have e : sumH A B (rs.map ng) = A * mN hs - B * (-mT hs) := e
  have u := s.lo (-A) B h1
  rw [← sumL_perm pm] at u
  unfold sumL at u
  rw [Int.neg_neg, e] at u
  show -A * (mN hs + n) ≤ (mT hs + t) * B
  rw [Int.neg_mul] at u
  rw [Int.neg_mul, Int.add_mul, Int.mul_add, Int.mul_comm (mT hs), Int.mul_comm t]
  rw [Int.mul_neg] at u
  omega
def Can (k : Nat) (hs ps : List HP4) (z n : Int) : Prop := match k with
  | 0 => n = 1 ∧ mN hs ≤ z ∧ z ≤ mN hs + mN ps
  | 1 => n = 1 ∧ ∃ m t, Sb ps m t ∧ z = mT hs + t
  | 2 => n = 1 ∧ (∃ h ∈ hs ++ ps, h.2.2.1 ≤ z ∧ z ≤ h.2.2.2) ∧ ∀ h ∈ hs, z ≤ h.2.2.1
  | 3 => n = 1 ∧ (∃ h ∈ hs ++ ps, h.2.2.1 ≤ z ∧ z ≤ h.2.2.2) ∧ ∀ h ∈ hs, h.2.2.2 ≤ z
  | _ => 1 ≤ n ∧ ∃ m t, Sb ps m t ∧ 1 ≤ mN hs + m ∧ z * (mN hs + m) = (mT hs + t) * n
theorem Can.more {k : Nat} {hs ps : List HP4} {z n : Int} {h : HP4} (c : CanBe h.1 h.2.1 h.2.2.1 h.2.2.2) (a : Can k hs ps z n) : Can k hs (ps ++ [h]) z n := by
  have c1 : PsC [h] := fun x hx => by rw [List.mem_singleton.mp hx]; exact c
  match k, a with
  | 0, ⟨e, a1, a2⟩ =>
    have := c.m
    refine ⟨e, a1, ?_⟩
    rw [mN_app]
    have : mN [h] = h.1 := by simp [mN]
    omega
  | 1, ⟨e, m, t, s, a⟩ => exact ⟨e, m, t, by simpa using s.add (Sb.nil c1), a⟩
  | 2, ⟨e, ⟨x, hx, a⟩, b⟩ => exact ⟨e, ⟨x, by rw [← List.append_assoc]; exact List.mem_append_left _ hx, a⟩, b⟩
  | 3, ⟨e, ⟨x, hx, a⟩, b⟩ => exact ⟨e, ⟨x, by rw [← List.append_assoc]; exact List.mem_append_left _ hx, a⟩, b⟩
  | k + 4, ⟨e, m, t, s, a⟩ => exact ⟨e, m, t, by simpa using s.add (Sb.nil c1), a⟩
theorem fr_le {z n N T A B c d : Int} (hN : 1 ≤ N) (hn : 1 ≤ n) (hB : 1 ≤ B) (hd : 1 ≤ d) (e1 : z * N = T * n) (e2 : c * B = A * d) (h : T * B ≤ A * N) : z * d ≤ c * n := by
  have h1 := Int.mul_le_mul_of_nonneg_right h (show 0 ≤ n * d from Int.mul_nonneg (by omega) (by omega))
  have x1 : T * B * (n * d) = z * d * (N * B) := by
    calc T * B * (n * d) = (T * n) * (B * d) := by ac_rfl
      _ = (z * N) * (B * d) := by rw [e1]
      _ = z * d * (N * B) := by ac_rfl
  have x2 : A * N * (n * d) = c * n * (N * B) := by
    calc A * N * (n * d) = (A * d) * (N * n) := by ac_rfl
      _ = (c * B) * (N * n) := by rw [e2]
      _ = c * n * (N * B) := by ac_rfl
  rw [x1, x2] at h1
  exact Int.le_of_mul_le_mul_right h1 (Int.mul_pos (by omega) (by omega))
theorem fr_ge {z n N T A B c d : Int} (hN : 1 ≤ N) (hn : 1 ≤ n) (hB : 1 ≤ B) (hd : 1 ≤ d) (e1 : z * N = T * n) (e2 : c * B = A * d) (h : A * N ≤ T * B) : c * n ≤ z * d :=
  fr_le hB hd hN hn e2 e1 h
end TB
local macro_rules | `(tactic| walk_at "same") => `(tactic| first | exact L2.Same.refl _ | assumption | exact L2.New.same (by assumption) | (refine L2.same_by ?_ (by assumption); walk_at "same") | (refine L2.Same.trans ?_ (by assumption); walk_at "same"))
local macro_rules | `(tactic| walk_at "fact") => `(tactic| first | assumption | exact L2.New.at_ (by assumption) | (refine L2.up_new (by assumption) ?_; walk_at "fact") | (refine L2.up_same (by assumption) ?_; walk_at "fact"))
local macro_rules | `(tactic| walk_at "sq") => `(tactic| first | assumption | exact L2.SqL.of (by walk_at "fact") | exact L2.SqT.of (by walk_at "fact") | exact Or.inl (L2.SqL.of (by walk_at "fact")) | exact Or.inr (L2.SqT.of (by walk_at "fact")) | exact Or.inl (by assumption) | walk_at "fact")
local macro_rules | `(tactic| walk_at "c") => `(tactic| first
  | ((with_reducible show _ ≤ PySem.sizeLine); first | exact Nat.le_of_lt (L2.small1000 (Nat.le_of_ble_eq_true rfl)) | exact Nat.le_of_lt (L2.small1000 (by omega)) | exact Nat.le_of_lt (L2.small1000 (by simp only [List.length_map, List.length_append, List.length_cons, List.length_nil]; omega)))
  | ((with_reducible show _ < PySem.sizeLine); first | exact L2.small1000 (by omega) | exact L2.small1000 (by simp only [List.length_map, List.length_append, List.length_cons, List.length_nil]; omega))
  | decide | omega | (dsimp only; first | decide | omega) | (simp only [List.length_map, List.length_append, List.length_cons, List.length_nil]; omega)
  | ((with_reducible refine And.intro ?_ ?_) <;> walk_at "c")
  | (refine And.intro ?_ ?_ <;> walk_at "c") | (refine Or.inl ?_; walk_at "c") | (refine Or.inr ?_; walk_at "c"))
local macro_rules | `(tactic| walk_at "at") => `(tactic| first | rfl | assumption | exact L2.atI_nat (by assumption) | exact TB.atI_m1 (by assumption))
local macro_rules | `(tactic| walk_at "ty") => `(tactic| first | exact L2.TyOf.int _ | exact L2.TyOf.bl _ | exact L2.TyOf.non | exact L2.TyOf.str _ | exact L2.TyOf.lst (by walk_at "fact") | exact L2.TyOf.tup (by walk_at "fact"))
local macro_rules | `(tactic| walk_at "kit") => `(tactic| first | exact L2.kit_int_int _ | exact L2.kit_int_bool _ | exact L2.kit_list _ | exact L2.kit_tuple _ | rfl)
local macro_rules | `(tactic| walk_at "r1") => `(tactic| first
  | refine Exists.intro _ (And.intro rfl ?_)
  | refine Exists.intro _ (Exists.intro _ (And.intro rfl (And.intro rfl ?_)))
  | refine And.intro rfl ?_
  | refine Exists.intro _ (Exists.intro _ (And.intro rfl (And.intro (by walk_at "sq") ?_)))
  | refine Exists.intro _ (Exists.intro _ (Exists.intro _ (Exists.intro _ (And.intro rfl (And.intro rfl (And.intro (by walk_at "sq") (And.intro (by walk_at "at") ?_)))))))
  | refine And.intro (Or.inl ⟨rfl, _, L2.SqL.of (by walk_at "fact")⟩) ?_
  | refine Exists.intro _ (Exists.intro _ (Exists.intro _ (And.intro rfl (And.intro rfl (And.intro (by walk_at "fact") (And.intro (by walk_at "c") ?_))))))
  | refine Exists.intro _ (Exists.intro _ (Exists.intro _ (Exists.intro _ (And.intro rfl (And.intro (by walk_at "ty") (And.intro (by walk_at "kit") ?_))))))
  | refine Exists.intro _ (Exists.intro _ (And.intro rfl ?_))
  | refine And.intro (by walk_at "c") ?_
  | refine L2.iteT ?_
  | refine L2.iteF ?_)
local macro_rules | `(tactic| walk_at "r") => `(tactic| (walk_at "r1"; repeat walk_at "r1"))
namespace TB
open PySem L2
def top (i : Nat) : Stmt := PySem.Challenge.pw_thinbook_k45_both_ends_are_reached.main.body.getD i (.Pass ⟨0, 0, 0, 0⟩)
abbrev s_greatest_divisor : Stmt := (top 5)
abbrev s_lowest_terms : Stmt := (top 6)
abbrev s_widest : Stmt := (top 8)
abbrev s_many_of : Stmt := (top 10)
abbrev s_total_of : Stmt := (top 11)
abbrev s_least_of_all : Stmt := (top 12)
abbrev s_greatest_of_all : Stmt := (top 13)
abbrev s_widest_runs : Stmt := (top 14)
abbrev s_is_beyond : Stmt := (top 15)
abbrev s_mean_end : Stmt := (top 16)
abbrev s_Measure_chosen : Stmt := (inClass (top 17) 0)
abbrev s_Measure_taken : Stmt := (inClass (top 17) 1)
abbrev s_HowMany_told : Stmt := (inClass (top 18) 0)
abbrev s_HowMany_takes : Stmt := (inClass (top 18) 1)
abbrev s_Total_told : Stmt := (inClass (top 19) 0)
abbrev s_Total_takes : Stmt := (inClass (top 19) 1)
abbrev s_Least_told : Stmt := (inClass (top 20) 0)
abbrev s_Least_takes : Stmt := (inClass (top 20) 1)
abbrev s_Greatest_told : Stmt := (inClass (top 21) 0)
abbrev s_Greatest_takes : Stmt := (inClass (top 21) 1)
abbrev s_Mean_told : Stmt := (inClass (top 22) 0)
abbrev s_Mean_takes : Stmt := (inClass (top 22) 1)
abbrev s_measure : Stmt := (top 23)
abbrev s__law_cell_at : Stmt := (top 25)
abbrev s__law_stream : Stmt := (top 26)
abbrev s__law_run : Stmt := (top 27)
abbrev s__law_heap : Stmt := (top 28)
abbrev s__law_whole : Stmt := (top 29)
abbrev s__law_tuple : Stmt := (top 30)
abbrev s__law_answer : Stmt := (top 31)
abbrev s__law_less : Stmt := (top 32)
abbrev s__law_end : Stmt := (top 33)
abbrev s__law_drawn : Stmt := (top 34)
abbrev s__law_of_widest : Stmt := (top 35)
abbrev s_law : Stmt := (top 36)
theorem sc_greatest_divisor : FnScope ["one", "other", "rest"] ["one", "other"] (defScope s_greatest_divisor) := ⟨rfl, rfl, rfl, by decide +kernel, rfl, by decide +kernel, by decide +kernel⟩
theorem sc_lowest_terms : FnScope ["top", "bottom", "divisor"] ["top", "bottom"] (defScope s_lowest_terms) := ⟨rfl, rfl, rfl, by decide +kernel, rfl, by decide +kernel, by decide +kernel⟩
theorem sc_widest : FnScope ["heap", "many", "least", "greatest", "beyond", "tops", "lift"] ["heap"] (defScope s_widest) := ⟨rfl, rfl, rfl, by decide +kernel, rfl, by decide +kernel, by decide +kernel⟩
theorem sc_many_of : FnScope ["heaps"] ["heaps"] (defScope s_many_of) := ⟨rfl, rfl, rfl, by decide +kernel, rfl, by decide +kernel, by decide +kernel⟩
theorem sc_total_of : FnScope ["heaps"] ["heaps"] (defScope s_total_of) := ⟨rfl, rfl, rfl, by decide +kernel, rfl, by decide +kernel, by decide +kernel⟩
theorem sc_least_of_all : FnScope ["heaps"] ["heaps"] (defScope s_least_of_all) := ⟨rfl, rfl, rfl, by decide +kernel, rfl, by decide +kernel, by decide +kernel⟩
theorem sc_greatest_of_all : FnScope ["heaps"] ["heaps"] (defScope s_greatest_of_all) := ⟨rfl, rfl, rfl, by decide +kernel, rfl, by decide +kernel, by decide +kernel⟩
theorem sc_widest_runs : FnScope ["parts", "runs", "part"] ["parts"] (defScope s_widest_runs) := ⟨rfl, rfl, rfl, by decide +kernel, rfl, by decide +kernel, by decide +kernel⟩
theorem sc_is_beyond : FnScope ["value", "many", "total", "high"] ["value", "many", "total", "high"] (defScope s_is_beyond) := ⟨rfl, rfl, rfl, by decide +kernel, rfl, by decide +kernel, by decide +kernel⟩
theorem sc_mean_end : FnScope ["known", "runs", "high", "many", "total", "value", "times"] ["known", "runs", "high"] (defScope s_mean_end) := ⟨rfl, rfl, rfl, by decide +kernel, rfl, by decide +kernel, by decide +kernel⟩
theorem sc_Measure_chosen : FnScope ["self", "known", "parts", "high", "pair", "end"] ["self", "known", "parts", "high"] (defScope s_Measure_chosen) := ⟨rfl, rfl, rfl, by decide +kernel, rfl, by decide +kernel, by decide +kernel⟩
theorem sc_Measure_taken : FnScope ["self", "part", "end", "high"] ["self", "part", "end", "high"] (defScope s_Measure_taken) := ⟨rfl, rfl, rfl, by decide +kernel, rfl, by decide +kernel, by decide +kernel⟩
theorem sc_HowMany_told : FnScope ["self", "known", "parts", "least"] ["self", "known", "parts"] (defScope s_HowMany_told) := ⟨rfl, rfl, rfl, by decide +kernel, rfl, by decide +kernel, by decide +kernel⟩
theorem sc_HowMany_takes : FnScope ["self", "value", "end", "high"] ["self", "value", "end", "high"] (defScope s_HowMany_takes) := ⟨rfl, rfl, rfl, by decide +kernel, rfl, by decide +kernel, by decide +kernel⟩
theorem sc_Total_told : FnScope ["self", "known", "parts", "runs", "base", "below", "above"] ["self", "known", "parts"] (defScope s_Total_told) := ⟨rfl, rfl, rfl, by decide +kernel, rfl, by decide +kernel, by decide +kernel⟩
theorem sc_Total_takes : FnScope ["self", "value", "end", "high"] ["self", "value", "end", "high"] (defScope s_Total_takes) := ⟨rfl, rfl, rfl, by decide +kernel, rfl, by decide +kernel, by decide +kernel⟩
theorem sc_Least_told : FnScope ["self", "known", "parts", "low", "high"] ["self", "known", "parts"] (defScope s_Least_told) := ⟨rfl, rfl, rfl, by decide +kernel, rfl, by decide +kernel, by decide +kernel⟩
theorem sc_Least_takes : FnScope ["self", "value", "end", "high"] ["self", "value", "end", "high"] (defScope s_Least_takes) := ⟨rfl, rfl, rfl, by decide +kernel, rfl, by decide +kernel, by decide +kernel⟩
theorem sc_Greatest_told : FnScope ["self", "known", "parts", "low", "high"] ["self", "known", "parts"] (defScope s_Greatest_told) := ⟨rfl, rfl, rfl, by decide +kernel, rfl, by decide +kernel, by decide +kernel⟩
theorem sc_Greatest_takes : FnScope ["self", "value", "end", "high"] ["self", "value", "end", "high"] (defScope s_Greatest_takes) := ⟨rfl, rfl, rfl, by decide +kernel, rfl, by decide +kernel, by decide +kernel⟩
theorem sc_Mean_told : FnScope ["self", "known", "parts", "runs"] ["self", "known", "parts"] (defScope s_Mean_told) := ⟨rfl, rfl, rfl, by decide +kernel, rfl, by decide +kernel, by decide +kernel⟩
theorem sc_Mean_takes : FnScope ["self", "value", "end", "high", "top", "bottom"] ["self", "value", "end", "high"] (defScope s_Mean_takes) := ⟨rfl, rfl, rfl, by decide +kernel, rfl, by decide +kernel, by decide +kernel⟩
theorem sc_measure : FnScope ["word"] ["word"] (defScope s_measure) := ⟨rfl, rfl, rfl, by decide +kernel, rfl, by decide +kernel, by decide +kernel⟩
theorem sc__law_cell_at : FnScope ["_law_script", "_law_k"] ["_law_script", "_law_k"] (defScope s__law_cell_at) := ⟨rfl, rfl, rfl, by decide +kernel, rfl, by decide +kernel, by decide +kernel⟩
theorem sc__law_stream : FnScope ["_law_cell", "_law_many", "_law_found", "_law_number", "_law_k"] ["_law_cell", "_law_many"] (defScope s__law_stream) := ⟨rfl, rfl, rfl, by decide +kernel, rfl, by decide +kernel, by decide +kernel⟩
theorem sc__law_run : FnScope ["_law_cell", "_law_kind", "_law_xs", "_law_value"] ["_law_cell", "_law_kind"] (defScope s__law_run) := ⟨rfl, rfl, rfl, by decide +kernel, rfl, by decide +kernel, by decide +kernel⟩
theorem sc__law_heap : FnScope ["_law_runs", "_law_many", "_law_total"] ["_law_runs"] (defScope s__law_heap) := ⟨rfl, rfl, rfl, by decide +kernel, rfl, by decide +kernel, by decide +kernel⟩
theorem sc__law_whole : FnScope ["_law_found"] ["_law_found"] (defScope s__law_whole) := ⟨rfl, rfl, rfl, by decide +kernel, rfl, by decide +kernel, by decide +kernel⟩
theorem sc__law_tuple : FnScope ["_law_found", "_law_most"] ["_law_found", "_law_most"] (defScope s__law_tuple) := ⟨rfl, rfl, rfl, by decide +kernel, rfl, by decide +kernel, by decide +kernel⟩
theorem sc__law_answer : FnScope ["_law_word", "_law_runs", "_law_many", "_law_total"] ["_law_word", "_law_runs"] (defScope s__law_answer) := ⟨rfl, rfl, rfl, by decide +kernel, rfl, by decide +kernel, by decide +kernel⟩
theorem sc__law_less : FnScope ["_law_word", "_law_one", "_law_other"] ["_law_word", "_law_one", "_law_other"] (defScope s__law_less) := ⟨rfl, rfl, rfl, by decide +kernel, rfl, by decide +kernel, by decide +kernel⟩
theorem sc__law_end : FnScope ["_law_word", "_law_found", "_law_one", "_law_other"] ["_law_word", "_law_found"] (defScope s__law_end) := ⟨rfl, rfl, rfl, by decide +kernel, rfl, by decide +kernel, by decide +kernel⟩
theorem sc__law_drawn : FnScope ["_law_cell", "_law_most", "_law_found", "_law_x"] ["_law_cell", "_law_most"] (defScope s__law_drawn) := ⟨rfl, rfl, rfl, by decide +kernel, rfl, by decide +kernel, by decide +kernel⟩
theorem sc__law_of_widest : FnScope ["_law_part", "_law_runs", "_law_row", "_law_k", "_law_run_here"] ["_law_part", "_law_runs"] (defScope s__law_of_widest) := ⟨rfl, rfl, rfl, by decide +kernel, rfl, by decide +kernel, by decide +kernel⟩
theorem sc_law : FnScope ["_law_script", "_law_word", "_law_high", "_law_one", "_law_known", "_law_parts", "_law_heaps", "_law_handed", "_law_end_here", "_law_found", "_law_within", "_law_runs", "_law_part", "_law_due", "_law_again"] ["_law_script"] (defScope s_law) := ⟨rfl, rfl, rfl, by decide +kernel, rfl, by decide +kernel, by decide +kernel⟩
structure Txt (K : PySem.W.Frag) (mg : Str → Option Value) (C_Measure : Addr) (C_HowMany : Addr) (C_Total : Addr) (C_Least : Addr) (C_Greatest : Addr) (C_Mean : Addr) (C_BookError : Addr) (C_NoAsk : Addr) (C_NoAnswer : Addr) : Prop where
  f_greatest_divisor : ∃ f fd, Fun K "greatest_divisor" "greatest_divisor" s_greatest_divisor f fd ∧ mg "greatest_divisor" = some (.ref f)
  f_lowest_terms : ∃ f fd, Fun K "lowest_terms" "lowest_terms" s_lowest_terms f fd ∧ mg "lowest_terms" = some (.ref f)
  f_widest : ∃ f fd, Fun K "widest" "widest" s_widest f fd ∧ mg "widest" = some (.ref f)
  f_many_of : ∃ f fd, Fun K "many_of" "many_of" s_many_of f fd ∧ mg "many_of" = some (.ref f)
  f_total_of : ∃ f fd, Fun K "total_of" "total_of" s_total_of f fd ∧ mg "total_of" = some (.ref f)
  f_least_of_all : ∃ f fd, Fun K "least_of_all" "least_of_all" s_least_of_all f fd ∧ mg "least_of_all" = some (.ref f)
  f_greatest_of_all : ∃ f fd, Fun K "greatest_of_all" "greatest_of_all" s_greatest_of_all f fd ∧ mg "greatest_of_all" = some (.ref f)
  f_widest_runs : ∃ f fd, Fun K "widest_runs" "widest_runs" s_widest_runs f fd ∧ mg "widest_runs" = some (.ref f)
  f_is_beyond : ∃ f fd, Fun K "is_beyond" "is_beyond" s_is_beyond f fd ∧ mg "is_beyond" = some (.ref f)
  f_mean_end : ∃ f fd, Fun K "mean_end" "mean_end" s_mean_end f fd ∧ mg "mean_end" = some (.ref f)
  f_Measure_chosen : ∃ f fd, Fun K "chosen" "Measure.chosen" s_Measure_chosen f fd ∧ Meth K C_Measure "chosen" f ∧ Meth K C_HowMany "chosen" f ∧ Meth K C_Total "chosen" f ∧ Meth K C_Least "chosen" f ∧ Meth K C_Greatest "chosen" f ∧ Meth K C_Mean "chosen" f
  f_Measure_taken : ∃ f fd, Fun K "taken" "Measure.taken" s_Measure_taken f fd ∧ Meth K C_Measure "taken" f ∧ Meth K C_HowMany "taken" f ∧ Meth K C_Total "taken" f ∧ Meth K C_Least "taken" f ∧ Meth K C_Greatest "taken" f ∧ Meth K C_Mean "taken" f
  f_HowMany_told : ∃ f fd, Fun K "told" "HowMany.told" s_HowMany_told f fd ∧ Meth K C_HowMany "told" f
  f_HowMany_takes : ∃ f fd, Fun K "takes" "HowMany.takes" s_HowMany_takes f fd ∧ Meth K C_HowMany "takes" f
  f_Total_told : ∃ f fd, Fun K "told" "Total.told" s_Total_told f fd ∧ Meth K C_Total "told" f
  f_Total_takes : ∃ f fd, Fun K "takes" "Total.takes" s_Total_takes f fd ∧ Meth K C_Total "takes" f
  f_Least_told : ∃ f fd, Fun K "told" "Least.told" s_Least_told f fd ∧ Meth K C_Least "told" f
  f_Least_takes : ∃ f fd, Fun K "takes" "Least.takes" s_Least_takes f fd ∧ Meth K C_Least "takes" f
  f_Greatest_told : ∃ f fd, Fun K "told" "Greatest.told" s_Greatest_told f fd ∧ Meth K C_Greatest "told" f
  f_Greatest_takes : ∃ f fd, Fun K "takes" "Greatest.takes" s_Greatest_takes f fd ∧ Meth K C_Greatest "takes" f
  f_Mean_told : ∃ f fd, Fun K "told" "Mean.told" s_Mean_told f fd ∧ Meth K C_Mean "told" f
  f_Mean_takes : ∃ f fd, Fun K "takes" "Mean.takes" s_Mean_takes f fd ∧ Meth K C_Mean "takes" f
  f_measure : ∃ f fd, Fun K "measure" "measure" s_measure f fd ∧ mg "measure" = some (.ref f)
  f__law_cell_at : ∃ f fd, Fun K "_law_cell_at" "_law_cell_at" s__law_cell_at f fd ∧ mg "_law_cell_at" = some (.ref f)
  f__law_stream : ∃ f fd, Fun K "_law_stream" "_law_stream" s__law_stream f fd ∧ mg "_law_stream" = some (.ref f)
  f__law_run : ∃ f fd, Fun K "_law_run" "_law_run" s__law_run f fd ∧ mg "_law_run" = some (.ref f)
  f__law_heap : ∃ f fd, Fun K "_law_heap" "_law_heap" s__law_heap f fd ∧ mg "_law_heap" = some (.ref f)
  f__law_whole : ∃ f fd, Fun K "_law_whole" "_law_whole" s__law_whole f fd ∧ mg "_law_whole" = some (.ref f)
  f__law_tuple : ∃ f fd, Fun K "_law_tuple" "_law_tuple" s__law_tuple f fd ∧ mg "_law_tuple" = some (.ref f)
  f__law_answer : ∃ f fd, Fun K "_law_answer" "_law_answer" s__law_answer f fd ∧ mg "_law_answer" = some (.ref f)
  f__law_less : ∃ f fd, Fun K "_law_less" "_law_less" s__law_less f fd ∧ mg "_law_less" = some (.ref f)
  f__law_end : ∃ f fd, Fun K "_law_end" "_law_end" s__law_end f fd ∧ mg "_law_end" = some (.ref f)
  f__law_drawn : ∃ f fd, Fun K "_law_drawn" "_law_drawn" s__law_drawn f fd ∧ mg "_law_drawn" = some (.ref f)
  f__law_of_widest : ∃ f fd, Fun K "_law_of_widest" "_law_of_widest" s__law_of_widest f fd ∧ mg "_law_of_widest" = some (.ref f)
  f_law : ∃ f fd, Fun K "law" "law" s_law f fd ∧ mg "law" = some (.ref f)
  cl_Measure : Cls K C_Measure
  mg_Measure : mg "Measure" = some (.ref C_Measure)
  mk_Measure : Mk0 K C_Measure
  cl_HowMany : Cls K C_HowMany
  mg_HowMany : mg "HowMany" = some (.ref C_HowMany)
  mk_HowMany : Mk0 K C_HowMany
  cl_Total : Cls K C_Total
  mg_Total : mg "Total" = some (.ref C_Total)
  mk_Total : Mk0 K C_Total
  cl_Least : Cls K C_Least
  mg_Least : mg "Least" = some (.ref C_Least)
  mk_Least : Mk0 K C_Least
  cl_Greatest : Cls K C_Greatest
  mg_Greatest : mg "Greatest" = some (.ref C_Greatest)
  mk_Greatest : Mk0 K C_Greatest
  cl_Mean : Cls K C_Mean
  mg_Mean : mg "Mean" = some (.ref C_Mean)
  mk_Mean : Mk0 K C_Mean
  mg_BookError : mg "BookError" = some (.ref C_BookError)
  mg_NoAsk : mg "NoAsk" = some (.ref C_NoAsk)
  mg_NoAnswer : mg "NoAnswer" = some (.ref C_NoAnswer)
  ex_BookError : ExcC K C_BookError
  kx_BookError : ExcK K C_BookError
  hit_BookError_BookError : PySem.W.mroIn K C_BookError (.ref C_BookError) = some true
  is_BookError_BookError : PySem.W.kitOne K (.ref C_BookError) (.ref C_BookError) = some true
  is_BookError_NoAsk : PySem.W.kitOne K (.ref C_BookError) (.ref C_NoAsk) = some false
  is_BookError_NoAnswer : PySem.W.kitOne K (.ref C_BookError) (.ref C_NoAnswer) = some false
  is_BookError_ValueError : PySem.W.kitOne K (.ref C_BookError) (.type "ValueError") = some true
  ex_NoAsk : ExcC K C_NoAsk
  kx_NoAsk : ExcK K C_NoAsk
  hit_NoAsk_BookError : PySem.W.mroIn K C_NoAsk (.ref C_BookError) = some true
  is_NoAsk_BookError : PySem.W.kitOne K (.ref C_NoAsk) (.ref C_BookError) = some true
  hit_NoAsk_NoAsk : PySem.W.mroIn K C_NoAsk (.ref C_NoAsk) = some true
  is_NoAsk_NoAsk : PySem.W.kitOne K (.ref C_NoAsk) (.ref C_NoAsk) = some true
  is_NoAsk_NoAnswer : PySem.W.kitOne K (.ref C_NoAsk) (.ref C_NoAnswer) = some false
  is_NoAsk_ValueError : PySem.W.kitOne K (.ref C_NoAsk) (.type "ValueError") = some true
  ex_NoAnswer : ExcC K C_NoAnswer
  kx_NoAnswer : ExcK K C_NoAnswer
  hit_NoAnswer_BookError : PySem.W.mroIn K C_NoAnswer (.ref C_BookError) = some true
  is_NoAnswer_BookError : PySem.W.kitOne K (.ref C_NoAnswer) (.ref C_BookError) = some true
  is_NoAnswer_NoAsk : PySem.W.kitOne K (.ref C_NoAnswer) (.ref C_NoAsk) = some false
  hit_NoAnswer_NoAnswer : PySem.W.mroIn K C_NoAnswer (.ref C_NoAnswer) = some true
  is_NoAnswer_NoAnswer : PySem.W.kitOne K (.ref C_NoAnswer) (.ref C_NoAnswer) = some true
  is_NoAnswer_ValueError : PySem.W.kitOne K (.ref C_NoAnswer) (.type "ValueError") = some true
  b_abs : mg "abs" = none
  b_all : mg "all" = none
  b_bool : mg "bool" = none
  b_dict : mg "dict" = none
  b_enumerate : mg "enumerate" = none
  b_int : mg "int" = none
  b_isinstance : mg "isinstance" = none
  b_len : mg "len" = none
  b_list : mg "list" = none
  b_max : mg "max" = none
  b_min : mg "min" = none
  b_range : mg "range" = none
  b_reversed : mg "reversed" = none
  b_sorted : mg "sorted" = none
  b_sum : mg "sum" = none
  b_tuple : mg "tuple" = none
  b_zip : mg "zip" = none
theorem txt_mk {K : PySem.W.Frag} {h : Heap} {mg : Str → Option Value} (X : K.In h) (G : h.Ns mainGlobals mg) {C_Measure C_HowMany C_Total C_Least C_Greatest C_Mean f0 f1 f2 f3 f4 f5 f6 f7 f8 f9 f10 f11 f12 f13 f14 f15 f16 f17 f18 f19 f20 f21 f22 f23 f24 f25 f26 f27 f28 f29 f30 f31 f32 f33 f34 C_BookError C_NoAsk C_NoAnswer : Addr} {od0 an0 od1 an1 od2 an2 od3 an3 od4 an4 od5 an5 od6 an6 od7 an7 od8 an8 od9 an9 od10 an10 od11 an11 od12 an12 od13 an13 od14 an14 od15 an15 od16 an16 od17 an17 od18 an18 od19 an19 od20 an20 od21 an21 od22 an22 od23 an23 od24 an24 od25 an25 od26 an26 od27 an27 od28 an28 od29 an29 od30 an30 od31 an31 od32 an32 od33 an33 od34 an34 : Option Addr} {sl0 sl1 sl2 sl3 sl4 sl5 sl6 sl7 sl8 sl9 sl10 sl11 sl12 sl13 sl14 sl15 sl16 sl17 sl18 sl19 sl20 sl21 sl22 sl23 sl24 sl25 sl26 sl27 sl28 sl29 sl30 sl31 sl32 sl33 sl34 : Array (Option Value)} {oc0 kV0 dc0 pm0 cd0 ct0 oc1 kV1 dc1 pm1 cd1 ct1 oc2 kV2 dc2 pm2 cd2 ct2 oc3 kV3 dc3 pm3 cd3 ct3 oc4 kV4 dc4 pm4 cd4 ct4 oc5 kV5 dc5 pm5 cd5 ct5 oc6 kV6 dc6 pm6 cd6 ct6 oc7 kV7 dc7 pm7 cd7 ct7 oc8 kV8 dc8 pm8 cd8 ct8 oc9 kV9 dc9 pm9 cd9 ct9 oc10 kV10 dc10 pm10 cd10 ct10 oc11 kV11 dc11 pm11 cd11 ct11 oc12 kV12 dc12 pm12 cd12 ct12 oc13 kV13 dc13 pm13 cd13 ct13 oc14 kV14 dc14 pm14 cd14 ct14 oc15 kV15 dc15 pm15 cd15 ct15 oc16 kV16 dc16 pm16 cd16 ct16 oc17 kV17 dc17 pm17 cd17 ct17 oc18 kV18 dc18 pm18 cd18 ct18 oc19 kV19 dc19 pm19 cd19 ct19 oc20 kV20 dc20 pm20 cd20 ct20 oc21 kV21 dc21 pm21 cd21 ct21 oc22 kV22 dc22 pm22 cd22 ct22 oc23 kV23 dc23 pm23 cd23 ct23 oc24 kV24 dc24 pm24 cd24 ct24 oc25 kV25 dc25 pm25 cd25 ct25 oc26 kV26 dc26 pm26 cd26 ct26 oc27 kV27 dc27 pm27 cd27 ct27 oc28 kV28 dc28 pm28 cd28 ct28 oc29 kV29 dc29 pm29 cd29 ct29 oc30 kV30 dc30 pm30 cd30 ct30 oc31 kV31 dc31 pm31 cd31 ct31 oc32 kV32 dc32 pm32 cd32 ct32 oc33 kV33 dc33 pm33 cd33 ct33 oc34 kV34 dc34 pm34 cd34 ct34 : Value}
    (aCMeasure : PySem.W.nsIn K mainGlobals "Measure" = some (some (.ref C_Measure)))
    (aCHowMany : PySem.W.nsIn K mainGlobals "HowMany" = some (some (.ref C_HowMany)))
    (aCTotal : PySem.W.nsIn K mainGlobals "Total" = some (some (.ref C_Total)))
    (aCLeast : PySem.W.nsIn K mainGlobals "Least" = some (some (.ref C_Least)))
    (aCGreatest : PySem.W.nsIn K mainGlobals "Greatest" = some (some (.ref C_Greatest)))
    (aCMean : PySem.W.nsIn K mainGlobals "Mean" = some (some (.ref C_Mean)))
    (a0 : PySem.W.nsIn K mainGlobals "greatest_divisor" = some (some (.ref f0)))
    (l0 : K.lookup f0 = some ⟨oc0, od0, .func (PySem.W.fnOf "greatest_divisor" "greatest_divisor" (defArgs s_greatest_divisor) (defBody s_greatest_divisor) (defScope s_greatest_divisor) .none kV0 dc0 pm0 an0 cd0 ct0), sl0⟩)
    (c0 : PySem.W.codeIn K cd0 "greatest_divisor" = true)
    (k0 : PySem.W.keepIn K (.ref f0) = true)
    (a1 : PySem.W.nsIn K mainGlobals "lowest_terms" = some (some (.ref f1)))
    (l1 : K.lookup f1 = some ⟨oc1, od1, .func (PySem.W.fnOf "lowest_terms" "lowest_terms" (defArgs s_lowest_terms) (defBody s_lowest_terms) (defScope s_lowest_terms) .none kV1 dc1 pm1 an1 cd1 ct1), sl1⟩)
    (c1 : PySem.W.codeIn K cd1 "lowest_terms" = true)
    (k1 : PySem.W.keepIn K (.ref f1) = true)
    (a2 : PySem.W.nsIn K mainGlobals "widest" = some (some (.ref f2)))
    (l2 : K.lookup f2 = some ⟨oc2, od2, .func (PySem.W.fnOf "widest" "widest" (defArgs s_widest) (defBody s_widest) (defScope s_widest) .none kV2 dc2 pm2 an2 cd2 ct2), sl2⟩)
    (c2 : PySem.W.codeIn K cd2 "widest" = true)
    (k2 : PySem.W.keepIn K (.ref f2) = true)
    (a3 : PySem.W.nsIn K mainGlobals "many_of" = some (some (.ref f3)))
    (l3 : K.lookup f3 = some ⟨oc3, od3, .func (PySem.W.fnOf "many_of" "many_of" (defArgs s_many_of) (defBody s_many_of) (defScope s_many_of) .none kV3 dc3 pm3 an3 cd3 ct3), sl3⟩)
    (c3 : PySem.W.codeIn K cd3 "many_of" = true)
    (k3 : PySem.W.keepIn K (.ref f3) = true)
    (a4 : PySem.W.nsIn K mainGlobals "total_of" = some (some (.ref f4)))
    (l4 : K.lookup f4 = some ⟨oc4, od4, .func (PySem.W.fnOf "total_of" "total_of" (defArgs s_total_of) (defBody s_total_of) (defScope s_total_of) .none kV4 dc4 pm4 an4 cd4 ct4), sl4⟩)
    (c4 : PySem.W.codeIn K cd4 "total_of" = true)
    (k4 : PySem.W.keepIn K (.ref f4) = true)
    (a5 : PySem.W.nsIn K mainGlobals "least_of_all" = some (some (.ref f5)))
    (l5 : K.lookup f5 = some ⟨oc5, od5, .func (PySem.W.fnOf "least_of_all" "least_of_all" (defArgs s_least_of_all) (defBody s_least_of_all) (defScope s_least_of_all) .none kV5 dc5 pm5 an5 cd5 ct5), sl5⟩)
    (c5 : PySem.W.codeIn K cd5 "least_of_all" = true)
    (k5 : PySem.W.keepIn K (.ref f5) = true)
    (a6 : PySem.W.nsIn K mainGlobals "greatest_of_all" = some (some (.ref f6)))
    (l6 : K.lookup f6 = some ⟨oc6, od6, .func (PySem.W.fnOf "greatest_of_all" "greatest_of_all" (defArgs s_greatest_of_all) (defBody s_greatest_of_all) (defScope s_greatest_of_all) .none kV6 dc6 pm6 an6 cd6 ct6), sl6⟩)
    (c6 : PySem.W.codeIn K cd6 "greatest_of_all" = true)
    (k6 : PySem.W.keepIn K (.ref f6) = true)
    (a7 : PySem.W.nsIn K mainGlobals "widest_runs" = some (some (.ref f7)))
    (l7 : K.lookup f7 = some ⟨oc7, od7, .func (PySem.W.fnOf "widest_runs" "widest_runs" (defArgs s_widest_runs) (defBody s_widest_runs) (defScope s_widest_runs) .none kV7 dc7 pm7 an7 cd7 ct7), sl7⟩)
    (c7 : PySem.W.codeIn K cd7 "widest_runs" = true)
    (k7 : PySem.W.keepIn K (.ref f7) = true)
    (a8 : PySem.W.nsIn K mainGlobals "is_beyond" = some (some (.ref f8)))
    (l8 : K.lookup f8 = some ⟨oc8, od8, .func (PySem.W.fnOf "is_beyond" "is_beyond" (defArgs s_is_beyond) (defBody s_is_beyond) (defScope s_is_beyond) .none kV8 dc8 pm8 an8 cd8 ct8), sl8⟩)
    (c8 : PySem.W.codeIn K cd8 "is_beyond" = true)
    (k8 : PySem.W.keepIn K (.ref f8) = true)
    (a9 : PySem.W.nsIn K mainGlobals "mean_end" = some (some (.ref f9)))
    (l9 : K.lookup f9 = some ⟨oc9, od9, .func (PySem.W.fnOf "mean_end" "mean_end" (defArgs s_mean_end) (defBody s_mean_end) (defScope s_mean_end) .none kV9 dc9 pm9 an9 cd9 ct9), sl9⟩)
    (c9 : PySem.W.codeIn K cd9 "mean_end" = true)
    (k9 : PySem.W.keepIn K (.ref f9) = true)
    (a10 : PySem.W.findIn K (.ref C_Measure) "chosen" = some (some (.ref f10)))
    (i10 : PySem.W.isFn K (.ref f10) = true)
    (ia10_HowMany : PySem.W.findIn K (.ref C_HowMany) "chosen" = some (some (.ref f10)))
    (ia10_Total : PySem.W.findIn K (.ref C_Total) "chosen" = some (some (.ref f10)))
    (ia10_Least : PySem.W.findIn K (.ref C_Least) "chosen" = some (some (.ref f10)))
    (ia10_Greatest : PySem.W.findIn K (.ref C_Greatest) "chosen" = some (some (.ref f10)))
    (ia10_Mean : PySem.W.findIn K (.ref C_Mean) "chosen" = some (some (.ref f10)))
    (l10 : K.lookup f10 = some ⟨oc10, od10, .func (PySem.W.fnOf "chosen" "Measure.chosen" (defArgs s_Measure_chosen) (defBody s_Measure_chosen) (defScope s_Measure_chosen) .none kV10 dc10 pm10 an10 cd10 ct10), sl10⟩)
    (c10 : PySem.W.codeIn K cd10 "Measure.chosen" = true)
    (k10 : PySem.W.keepIn K (.ref f10) = true)
    (a11 : PySem.W.findIn K (.ref C_Measure) "taken" = some (some (.ref f11)))
    (i11 : PySem.W.isFn K (.ref f11) = true)
    (ia11_HowMany : PySem.W.findIn K (.ref C_HowMany) "taken" = some (some (.ref f11)))
    (ia11_Total : PySem.W.findIn K (.ref C_Total) "taken" = some (some (.ref f11)))
    (ia11_Least : PySem.W.findIn K (.ref C_Least) "taken" = some (some (.ref f11)))
    (ia11_Greatest : PySem.W.findIn K (.ref C_Greatest) "taken" = some (some (.ref f11)))
    (ia11_Mean : PySem.W.findIn K (.ref C_Mean) "taken" = some (some (.ref f11)))
    (l11 : K.lookup f11 = some ⟨oc11, od11, .func (PySem.W.fnOf "taken" "Measure.taken" (defArgs s_Measure_taken) (defBody s_Measure_taken) (defScope s_Measure_taken) .none kV11 dc11 pm11 an11 cd11 ct11), sl11⟩)
    (c11 : PySem.W.codeIn K cd11 "Measure.taken" = true)
    (k11 : PySem.W.keepIn K (.ref f11) = true)
    (a12 : PySem.W.findIn K (.ref C_HowMany) "told" = some (some (.ref f12)))
    (i12 : PySem.W.isFn K (.ref f12) = true)
    (l12 : K.lookup f12 = some ⟨oc12, od12, .func (PySem.W.fnOf "told" "HowMany.told" (defArgs s_HowMany_told) (defBody s_HowMany_told) (defScope s_HowMany_told) .none kV12 dc12 pm12 an12 cd12 ct12), sl12⟩)
    (c12 : PySem.W.codeIn K cd12 "HowMany.told" = true)
    (k12 : PySem.W.keepIn K (.ref f12) = true)
    (a13 : PySem.W.findIn K (.ref C_HowMany) "takes" = some (some (.ref f13)))
    (i13 : PySem.W.isFn K (.ref f13) = true)
    (l13 : K.lookup f13 = some ⟨oc13, od13, .func (PySem.W.fnOf "takes" "HowMany.takes" (defArgs s_HowMany_takes) (defBody s_HowMany_takes) (defScope s_HowMany_takes) .none kV13 dc13 pm13 an13 cd13 ct13), sl13⟩)
    (c13 : PySem.W.codeIn K cd13 "HowMany.takes" = true)
    (k13 : PySem.W.keepIn K (.ref f13) = true)
    (a14 : PySem.W.findIn K (.ref C_Total) "told" = some (some (.ref f14)))
    (i14 : PySem.W.isFn K (.ref f14) = true)
    (l14 : K.lookup f14 = some ⟨oc14, od14, .func (PySem.W.fnOf "told" "Total.told" (defArgs s_Total_told) (defBody s_Total_told) (defScope s_Total_told) .none kV14 dc14 pm14 an14 cd14 ct14), sl14⟩)
    (c14 : PySem.W.codeIn K cd14 "Total.told" = true)
    (k14 : PySem.W.keepIn K (.ref f14) = true)
    (a15 : PySem.W.findIn K (.ref C_Total) "takes" = some (some (.ref f15)))
    (i15 : PySem.W.isFn K (.ref f15) = true)
    (l15 : K.lookup f15 = some ⟨oc15, od15, .func (PySem.W.fnOf "takes" "Total.takes" (defArgs s_Total_takes) (defBody s_Total_takes) (defScope s_Total_takes) .none kV15 dc15 pm15 an15 cd15 ct15), sl15⟩)
    (c15 : PySem.W.codeIn K cd15 "Total.takes" = true)
    (k15 : PySem.W.keepIn K (.ref f15) = true)
    (a16 : PySem.W.findIn K (.ref C_Least) "told" = some (some (.ref f16)))
    (i16 : PySem.W.isFn K (.ref f16) = true)
    (l16 : K.lookup f16 = some ⟨oc16, od16, .func (PySem.W.fnOf "told" "Least.told" (defArgs s_Least_told) (defBody s_Least_told) (defScope s_Least_told) .none kV16 dc16 pm16 an16 cd16 ct16), sl16⟩)
    (c16 : PySem.W.codeIn K cd16 "Least.told" = true)
    (k16 : PySem.W.keepIn K (.ref f16) = true)
    (a17 : PySem.W.findIn K (.ref C_Least) "takes" = some (some (.ref f17)))
    (i17 : PySem.W.isFn K (.ref f17) = true)
    (l17 : K.lookup f17 = some ⟨oc17, od17, .func (PySem.W.fnOf "takes" "Least.takes" (defArgs s_Least_takes) (defBody s_Least_takes) (defScope s_Least_takes) .none kV17 dc17 pm17 an17 cd17 ct17), sl17⟩)
    (c17 : PySem.W.codeIn K cd17 "Least.takes" = true)
    (k17 : PySem.W.keepIn K (.ref f17) = true)
    (a18 : PySem.W.findIn K (.ref C_Greatest) "told" = some (some (.ref f18)))
    (i18 : PySem.W.isFn K (.ref f18) = true)
    (l18 : K.lookup f18 = some ⟨oc18, od18, .func (PySem.W.fnOf "told" "Greatest.told" (defArgs s_Greatest_told) (defBody s_Greatest_told) (defScope s_Greatest_told) .none kV18 dc18 pm18 an18 cd18 ct18), sl18⟩)
    (c18 : PySem.W.codeIn K cd18 "Greatest.told" = true)
    (k18 : PySem.W.keepIn K (.ref f18) = true)
    (a19 : PySem.W.findIn K (.ref C_Greatest) "takes" = some (some (.ref f19)))
    (i19 : PySem.W.isFn K (.ref f19) = true)
    (l19 : K.lookup f19 = some ⟨oc19, od19, .func (PySem.W.fnOf "takes" "Greatest.takes" (defArgs s_Greatest_takes) (defBody s_Greatest_takes) (defScope s_Greatest_takes) .none kV19 dc19 pm19 an19 cd19 ct19), sl19⟩)
    (c19 : PySem.W.codeIn K cd19 "Greatest.takes" = true)
    (k19 : PySem.W.keepIn K (.ref f19) = true)
    (a20 : PySem.W.findIn K (.ref C_Mean) "told" = some (some (.ref f20)))
    (i20 : PySem.W.isFn K (.ref f20) = true)
    (l20 : K.lookup f20 = some ⟨oc20, od20, .func (PySem.W.fnOf "told" "Mean.told" (defArgs s_Mean_told) (defBody s_Mean_told) (defScope s_Mean_told) .none kV20 dc20 pm20 an20 cd20 ct20), sl20⟩)
    (c20 : PySem.W.codeIn K cd20 "Mean.told" = true)
    (k20 : PySem.W.keepIn K (.ref f20) = true)
    (a21 : PySem.W.findIn K (.ref C_Mean) "takes" = some (some (.ref f21)))
    (i21 : PySem.W.isFn K (.ref f21) = true)
    (l21 : K.lookup f21 = some ⟨oc21, od21, .func (PySem.W.fnOf "takes" "Mean.takes" (defArgs s_Mean_takes) (defBody s_Mean_takes) (defScope s_Mean_takes) .none kV21 dc21 pm21 an21 cd21 ct21), sl21⟩)
    (c21 : PySem.W.codeIn K cd21 "Mean.takes" = true)
    (k21 : PySem.W.keepIn K (.ref f21) = true)
    (a22 : PySem.W.nsIn K mainGlobals "measure" = some (some (.ref f22)))
    (l22 : K.lookup f22 = some ⟨oc22, od22, .func (PySem.W.fnOf "measure" "measure" (defArgs s_measure) (defBody s_measure) (defScope s_measure) .none kV22 dc22 pm22 an22 cd22 ct22), sl22⟩)
    (c22 : PySem.W.codeIn K cd22 "measure" = true)
    (k22 : PySem.W.keepIn K (.ref f22) = true)
    (a23 : PySem.W.nsIn K mainGlobals "_law_cell_at" = some (some (.ref f23)))
    (l23 : K.lookup f23 = some ⟨oc23, od23, .func (PySem.W.fnOf "_law_cell_at" "_law_cell_at" (defArgs s__law_cell_at) (defBody s__law_cell_at) (defScope s__law_cell_at) .none kV23 dc23 pm23 an23 cd23 ct23), sl23⟩)
    (c23 : PySem.W.codeIn K cd23 "_law_cell_at" = true)
    (k23 : PySem.W.keepIn K (.ref f23) = true)
    (a24 : PySem.W.nsIn K mainGlobals "_law_stream" = some (some (.ref f24)))
    (l24 : K.lookup f24 = some ⟨oc24, od24, .func (PySem.W.fnOf "_law_stream" "_law_stream" (defArgs s__law_stream) (defBody s__law_stream) (defScope s__law_stream) .none kV24 dc24 pm24 an24 cd24 ct24), sl24⟩)
    (c24 : PySem.W.codeIn K cd24 "_law_stream" = true)
    (k24 : PySem.W.keepIn K (.ref f24) = true)
    (a25 : PySem.W.nsIn K mainGlobals "_law_run" = some (some (.ref f25)))
    (l25 : K.lookup f25 = some ⟨oc25, od25, .func (PySem.W.fnOf "_law_run" "_law_run" (defArgs s__law_run) (defBody s__law_run) (defScope s__law_run) .none kV25 dc25 pm25 an25 cd25 ct25), sl25⟩)
    (c25 : PySem.W.codeIn K cd25 "_law_run" = true)
    (k25 : PySem.W.keepIn K (.ref f25) = true)
    (a26 : PySem.W.nsIn K mainGlobals "_law_heap" = some (some (.ref f26)))
    (l26 : K.lookup f26 = some ⟨oc26, od26, .func (PySem.W.fnOf "_law_heap" "_law_heap" (defArgs s__law_heap) (defBody s__law_heap) (defScope s__law_heap) .none kV26 dc26 pm26 an26 cd26 ct26), sl26⟩)
    (c26 : PySem.W.codeIn K cd26 "_law_heap" = true)
    (k26 : PySem.W.keepIn K (.ref f26) = true)
    (a27 : PySem.W.nsIn K mainGlobals "_law_whole" = some (some (.ref f27)))
    (l27 : K.lookup f27 = some ⟨oc27, od27, .func (PySem.W.fnOf "_law_whole" "_law_whole" (defArgs s__law_whole) (defBody s__law_whole) (defScope s__law_whole) .none kV27 dc27 pm27 an27 cd27 ct27), sl27⟩)
    (c27 : PySem.W.codeIn K cd27 "_law_whole" = true)
    (k27 : PySem.W.keepIn K (.ref f27) = true)
    (a28 : PySem.W.nsIn K mainGlobals "_law_tuple" = some (some (.ref f28)))
    (l28 : K.lookup f28 = some ⟨oc28, od28, .func (PySem.W.fnOf "_law_tuple" "_law_tuple" (defArgs s__law_tuple) (defBody s__law_tuple) (defScope s__law_tuple) .none kV28 dc28 pm28 an28 cd28 ct28), sl28⟩)
    (c28 : PySem.W.codeIn K cd28 "_law_tuple" = true)
    (k28 : PySem.W.keepIn K (.ref f28) = true)
    (a29 : PySem.W.nsIn K mainGlobals "_law_answer" = some (some (.ref f29)))
    (l29 : K.lookup f29 = some ⟨oc29, od29, .func (PySem.W.fnOf "_law_answer" "_law_answer" (defArgs s__law_answer) (defBody s__law_answer) (defScope s__law_answer) .none kV29 dc29 pm29 an29 cd29 ct29), sl29⟩)
    (c29 : PySem.W.codeIn K cd29 "_law_answer" = true)
    (k29 : PySem.W.keepIn K (.ref f29) = true)
    (a30 : PySem.W.nsIn K mainGlobals "_law_less" = some (some (.ref f30)))
    (l30 : K.lookup f30 = some ⟨oc30, od30, .func (PySem.W.fnOf "_law_less" "_law_less" (defArgs s__law_less) (defBody s__law_less) (defScope s__law_less) .none kV30 dc30 pm30 an30 cd30 ct30), sl30⟩)
    (c30 : PySem.W.codeIn K cd30 "_law_less" = true)
    (k30 : PySem.W.keepIn K (.ref f30) = true)
    (a31 : PySem.W.nsIn K mainGlobals "_law_end" = some (some (.ref f31)))
    (l31 : K.lookup f31 = some ⟨oc31, od31, .func (PySem.W.fnOf "_law_end" "_law_end" (defArgs s__law_end) (defBody s__law_end) (defScope s__law_end) .none kV31 dc31 pm31 an31 cd31 ct31), sl31⟩)
    (c31 : PySem.W.codeIn K cd31 "_law_end" = true)
    (k31 : PySem.W.keepIn K (.ref f31) = true)
    (a32 : PySem.W.nsIn K mainGlobals "_law_drawn" = some (some (.ref f32)))
    (l32 : K.lookup f32 = some ⟨oc32, od32, .func (PySem.W.fnOf "_law_drawn" "_law_drawn" (defArgs s__law_drawn) (defBody s__law_drawn) (defScope s__law_drawn) .none kV32 dc32 pm32 an32 cd32 ct32), sl32⟩)
    (c32 : PySem.W.codeIn K cd32 "_law_drawn" = true)
    (k32 : PySem.W.keepIn K (.ref f32) = true)
    (a33 : PySem.W.nsIn K mainGlobals "_law_of_widest" = some (some (.ref f33)))
    (l33 : K.lookup f33 = some ⟨oc33, od33, .func (PySem.W.fnOf "_law_of_widest" "_law_of_widest" (defArgs s__law_of_widest) (defBody s__law_of_widest) (defScope s__law_of_widest) .none kV33 dc33 pm33 an33 cd33 ct33), sl33⟩)
    (c33 : PySem.W.codeIn K cd33 "_law_of_widest" = true)
    (k33 : PySem.W.keepIn K (.ref f33) = true)
    (a34 : PySem.W.nsIn K mainGlobals "law" = some (some (.ref f34)))
    (l34 : K.lookup f34 = some ⟨oc34, od34, .func (PySem.W.fnOf "law" "law" (defArgs s_law) (defBody s_law) (defScope s_law) .none kV34 dc34 pm34 an34 cd34 ct34), sl34⟩)
    (c34 : PySem.W.codeIn K cd34 "law" = true)
    (k34 : PySem.W.keepIn K (.ref f34) = true)
    (pgMeasure : PySem.W.plainGet K C_Measure Str.empty = true)
    (hdMeasure : PySem.W.hasDictIn K C_Measure = true)
    (poMeasure : PySem.W.plainOver K C_Measure = true)
    (saMeasure : PySem.W.findIn K (.ref C_Measure) "__setattr__" = some (some (.builtin "object.__setattr__")))
    (mkMeasure : PySem.W.makesIn K C_Measure = true)
    (kcMeasure : PySem.W.keepIn K (.ref C_Measure) = true)
    (ibMeasure : PySem.W.findIn K (.ref C_Measure) "__init__" = some (some (.builtin "object.__init__")))
    (pgHowMany : PySem.W.plainGet K C_HowMany Str.empty = true)
    (hdHowMany : PySem.W.hasDictIn K C_HowMany = true)
    (poHowMany : PySem.W.plainOver K C_HowMany = true)
    (saHowMany : PySem.W.findIn K (.ref C_HowMany) "__setattr__" = some (some (.builtin "object.__setattr__")))
    (mkHowMany : PySem.W.makesIn K C_HowMany = true)
    (kcHowMany : PySem.W.keepIn K (.ref C_HowMany) = true)
    (ibHowMany : PySem.W.findIn K (.ref C_HowMany) "__init__" = some (some (.builtin "object.__init__")))
    (pgTotal : PySem.W.plainGet K C_Total Str.empty = true)
    (hdTotal : PySem.W.hasDictIn K C_Total = true)
    (poTotal : PySem.W.plainOver K C_Total = true)
    (saTotal : PySem.W.findIn K (.ref C_Total) "__setattr__" = some (some (.builtin "object.__setattr__")))
    (mkTotal : PySem.W.makesIn K C_Total = true)
    (kcTotal : PySem.W.keepIn K (.ref C_Total) = true)
    (ibTotal : PySem.W.findIn K (.ref C_Total) "__init__" = some (some (.builtin "object.__init__")))
    (pgLeast : PySem.W.plainGet K C_Least Str.empty = true)
    (hdLeast : PySem.W.hasDictIn K C_Least = true)
    (poLeast : PySem.W.plainOver K C_Least = true)
    (saLeast : PySem.W.findIn K (.ref C_Least) "__setattr__" = some (some (.builtin "object.__setattr__")))
    (mkLeast : PySem.W.makesIn K C_Least = true)
    (kcLeast : PySem.W.keepIn K (.ref C_Least) = true)
    (ibLeast : PySem.W.findIn K (.ref C_Least) "__init__" = some (some (.builtin "object.__init__")))
    (pgGreatest : PySem.W.plainGet K C_Greatest Str.empty = true)
    (hdGreatest : PySem.W.hasDictIn K C_Greatest = true)
    (poGreatest : PySem.W.plainOver K C_Greatest = true)
    (saGreatest : PySem.W.findIn K (.ref C_Greatest) "__setattr__" = some (some (.builtin "object.__setattr__")))
    (mkGreatest : PySem.W.makesIn K C_Greatest = true)
    (kcGreatest : PySem.W.keepIn K (.ref C_Greatest) = true)
    (ibGreatest : PySem.W.findIn K (.ref C_Greatest) "__init__" = some (some (.builtin "object.__init__")))
    (pgMean : PySem.W.plainGet K C_Mean Str.empty = true)
    (hdMean : PySem.W.hasDictIn K C_Mean = true)
    (poMean : PySem.W.plainOver K C_Mean = true)
    (saMean : PySem.W.findIn K (.ref C_Mean) "__setattr__" = some (some (.builtin "object.__setattr__")))
    (mkMean : PySem.W.makesIn K C_Mean = true)
    (kcMean : PySem.W.keepIn K (.ref C_Mean) = true)
    (ibMean : PySem.W.findIn K (.ref C_Mean) "__init__" = some (some (.builtin "object.__init__")))
    (xCBookError : PySem.W.nsIn K mainGlobals "BookError" = some (some (.ref C_BookError)))
    (xCNoAsk : PySem.W.nsIn K mainGlobals "NoAsk" = some (some (.ref C_NoAsk)))
    (xCNoAnswer : PySem.W.nsIn K mainGlobals "NoAnswer" = some (some (.ref C_NoAnswer)))
    (xEBookError : PySem.W.excIn K C_BookError veMro "ValueError.__new__" = true)
    (xKBookError0 : PySem.W.findIn K (.ref C_BookError) "__getattribute__" = some (some (.builtin "BaseException.__getattribute__")))
    (xKBookError1 : PySem.W.findIn K (.ref C_BookError) "__getattr__" = some none)
    (xKBookError2 : PySem.W.findIn K (.ref C_BookError) "__class__" = some (some (.builtin "object.__class__")))
    (xKBookError3 : PySem.W.mroIn K C_BookError (.type "object") = some true)
    (xKBookError4 : PySem.W.mroIn K C_BookError (.type "BaseException") = some true)
    (xKBookError5 : PySem.W.ktsIn K C_BookError "BaseException" = true)
    (xHBookError_BookError : PySem.W.mroIn K C_BookError (.ref C_BookError) = some true)
    (xIBookError_BookError : PySem.W.kitOne K (.ref C_BookError) (.ref C_BookError) = some true)
    (xIBookError_NoAsk : PySem.W.kitOne K (.ref C_BookError) (.ref C_NoAsk) = some false)
    (xIBookError_NoAnswer : PySem.W.kitOne K (.ref C_BookError) (.ref C_NoAnswer) = some false)
    (xVBookError : PySem.W.kitOne K (.ref C_BookError) (.type "ValueError") = some true)
    (xENoAsk : PySem.W.excIn K C_NoAsk veMro "ValueError.__new__" = true)
    (xKNoAsk0 : PySem.W.findIn K (.ref C_NoAsk) "__getattribute__" = some (some (.builtin "BaseException.__getattribute__")))
    (xKNoAsk1 : PySem.W.findIn K (.ref C_NoAsk) "__getattr__" = some none)
    (xKNoAsk2 : PySem.W.findIn K (.ref C_NoAsk) "__class__" = some (some (.builtin "object.__class__")))
    (xKNoAsk3 : PySem.W.mroIn K C_NoAsk (.type "object") = some true)
    (xKNoAsk4 : PySem.W.mroIn K C_NoAsk (.type "BaseException") = some true)
    (xKNoAsk5 : PySem.W.ktsIn K C_NoAsk "BaseException" = true)
    (xHNoAsk_BookError : PySem.W.mroIn K C_NoAsk (.ref C_BookError) = some true)
    (xINoAsk_BookError : PySem.W.kitOne K (.ref C_NoAsk) (.ref C_BookError) = some true)
    (xHNoAsk_NoAsk : PySem.W.mroIn K C_NoAsk (.ref C_NoAsk) = some true)
    (xINoAsk_NoAsk : PySem.W.kitOne K (.ref C_NoAsk) (.ref C_NoAsk) = some true)
    (xINoAsk_NoAnswer : PySem.W.kitOne K (.ref C_NoAsk) (.ref C_NoAnswer) = some false)
    (xVNoAsk : PySem.W.kitOne K (.ref C_NoAsk) (.type "ValueError") = some true)
    (xENoAnswer : PySem.W.excIn K C_NoAnswer veMro "ValueError.__new__" = true)
    (xKNoAnswer0 : PySem.W.findIn K (.ref C_NoAnswer) "__getattribute__" = some (some (.builtin "BaseException.__getattribute__")))
    (xKNoAnswer1 : PySem.W.findIn K (.ref C_NoAnswer) "__getattr__" = some none)
    (xKNoAnswer2 : PySem.W.findIn K (.ref C_NoAnswer) "__class__" = some (some (.builtin "object.__class__")))
    (xKNoAnswer3 : PySem.W.mroIn K C_NoAnswer (.type "object") = some true)
    (xKNoAnswer4 : PySem.W.mroIn K C_NoAnswer (.type "BaseException") = some true)
    (xKNoAnswer5 : PySem.W.ktsIn K C_NoAnswer "BaseException" = true)
    (xHNoAnswer_BookError : PySem.W.mroIn K C_NoAnswer (.ref C_BookError) = some true)
    (xINoAnswer_BookError : PySem.W.kitOne K (.ref C_NoAnswer) (.ref C_BookError) = some true)
    (xINoAnswer_NoAsk : PySem.W.kitOne K (.ref C_NoAnswer) (.ref C_NoAsk) = some false)
    (xHNoAnswer_NoAnswer : PySem.W.mroIn K C_NoAnswer (.ref C_NoAnswer) = some true)
    (xINoAnswer_NoAnswer : PySem.W.kitOne K (.ref C_NoAnswer) (.ref C_NoAnswer) = some true)
    (xVNoAnswer : PySem.W.kitOne K (.ref C_NoAnswer) (.type "ValueError") = some true)
    (z_abs : PySem.W.nsIn K mainGlobals "abs" = some none)
    (z_all : PySem.W.nsIn K mainGlobals "all" = some none)
    (z_bool : PySem.W.nsIn K mainGlobals "bool" = some none)
    (z_dict : PySem.W.nsIn K mainGlobals "dict" = some none)
    (z_enumerate : PySem.W.nsIn K mainGlobals "enumerate" = some none)
    (z_int : PySem.W.nsIn K mainGlobals "int" = some none)
    (z_isinstance : PySem.W.nsIn K mainGlobals "isinstance" = some none)
    (z_len : PySem.W.nsIn K mainGlobals "len" = some none)
    (z_list : PySem.W.nsIn K mainGlobals "list" = some none)
    (z_max : PySem.W.nsIn K mainGlobals "max" = some none)
    (z_min : PySem.W.nsIn K mainGlobals "min" = some none)
    (z_range : PySem.W.nsIn K mainGlobals "range" = some none)
    (z_reversed : PySem.W.nsIn K mainGlobals "reversed" = some none)
    (z_sorted : PySem.W.nsIn K mainGlobals "sorted" = some none)
    (z_sum : PySem.W.nsIn K mainGlobals "sum" = some none)
    (z_tuple : PySem.W.nsIn K mainGlobals "tuple" = some none)
    (z_zip : PySem.W.nsIn K mainGlobals "zip" = some none) : ∃ C_Measure C_HowMany C_Total C_Least C_Greatest C_Mean C_BookError C_NoAsk C_NoAnswer, Txt K mg C_Measure C_HowMany C_Total C_Least C_Greatest C_Mean C_BookError C_NoAsk C_NoAnswer := by
  refine ⟨C_Measure, C_HowMany, C_Total, C_Least, C_Greatest, C_Mean, C_BookError, C_NoAsk, C_NoAnswer, ?_⟩
  exact ⟨⟨f0, _, fun_mk l0 c0 k0, PySem.W.mg_of X G a0⟩,
    ⟨f1, _, fun_mk l1 c1 k1, PySem.W.mg_of X G a1⟩,
    ⟨f2, _, fun_mk l2 c2 k2, PySem.W.mg_of X G a2⟩,
    ⟨f3, _, fun_mk l3 c3 k3, PySem.W.mg_of X G a3⟩,
    ⟨f4, _, fun_mk l4 c4 k4, PySem.W.mg_of X G a4⟩,
    ⟨f5, _, fun_mk l5 c5 k5, PySem.W.mg_of X G a5⟩,
    ⟨f6, _, fun_mk l6 c6 k6, PySem.W.mg_of X G a6⟩,
    ⟨f7, _, fun_mk l7 c7 k7, PySem.W.mg_of X G a7⟩,
    ⟨f8, _, fun_mk l8 c8 k8, PySem.W.mg_of X G a8⟩,
    ⟨f9, _, fun_mk l9 c9 k9, PySem.W.mg_of X G a9⟩,
    ⟨f10, _, fun_mk l10 c10 k10, ⟨a10, i10, k10⟩, ⟨ia10_HowMany, i10, k10⟩, ⟨ia10_Total, i10, k10⟩, ⟨ia10_Least, i10, k10⟩, ⟨ia10_Greatest, i10, k10⟩, ⟨ia10_Mean, i10, k10⟩⟩,
    ⟨f11, _, fun_mk l11 c11 k11, ⟨a11, i11, k11⟩, ⟨ia11_HowMany, i11, k11⟩, ⟨ia11_Total, i11, k11⟩, ⟨ia11_Least, i11, k11⟩, ⟨ia11_Greatest, i11, k11⟩, ⟨ia11_Mean, i11, k11⟩⟩,
    ⟨f12, _, fun_mk l12 c12 k12, ⟨a12, i12, k12⟩⟩,
    ⟨f13, _, fun_mk l13 c13 k13, ⟨a13, i13, k13⟩⟩,
    ⟨f14, _, fun_mk l14 c14 k14, ⟨a14, i14, k14⟩⟩,
    ⟨f15, _, fun_mk l15 c15 k15, ⟨a15, i15, k15⟩⟩,
    ⟨f16, _, fun_mk l16 c16 k16, ⟨a16, i16, k16⟩⟩,
    ⟨f17, _, fun_mk l17 c17 k17, ⟨a17, i17, k17⟩⟩,
    ⟨f18, _, fun_mk l18 c18 k18, ⟨a18, i18, k18⟩⟩,
    ⟨f19, _, fun_mk l19 c19 k19, ⟨a19, i19, k19⟩⟩,
    ⟨f20, _, fun_mk l20 c20 k20, ⟨a20, i20, k20⟩⟩,
    ⟨f21, _, fun_mk l21 c21 k21, ⟨a21, i21, k21⟩⟩,
    ⟨f22, _, fun_mk l22 c22 k22, PySem.W.mg_of X G a22⟩,
    ⟨f23, _, fun_mk l23 c23 k23, PySem.W.mg_of X G a23⟩,
    ⟨f24, _, fun_mk l24 c24 k24, PySem.W.mg_of X G a24⟩,
    ⟨f25, _, fun_mk l25 c25 k25, PySem.W.mg_of X G a25⟩,
    ⟨f26, _, fun_mk l26 c26 k26, PySem.W.mg_of X G a26⟩,
    ⟨f27, _, fun_mk l27 c27 k27, PySem.W.mg_of X G a27⟩,
    ⟨f28, _, fun_mk l28 c28 k28, PySem.W.mg_of X G a28⟩,
    ⟨f29, _, fun_mk l29 c29 k29, PySem.W.mg_of X G a29⟩,
    ⟨f30, _, fun_mk l30 c30 k30, PySem.W.mg_of X G a30⟩,
    ⟨f31, _, fun_mk l31 c31 k31, PySem.W.mg_of X G a31⟩,
    ⟨f32, _, fun_mk l32 c32 k32, PySem.W.mg_of X G a32⟩,
    ⟨f33, _, fun_mk l33 c33 k33, PySem.W.mg_of X G a33⟩,
    ⟨f34, _, fun_mk l34 c34 k34, PySem.W.mg_of X G a34⟩,
    ⟨pgMeasure, hdMeasure, poMeasure, saMeasure⟩,
    PySem.W.mg_of X G aCMeasure,
    ⟨mkMeasure, ibMeasure, kcMeasure⟩,
    ⟨pgHowMany, hdHowMany, poHowMany, saHowMany⟩,
    PySem.W.mg_of X G aCHowMany,
    ⟨mkHowMany, ibHowMany, kcHowMany⟩,
    ⟨pgTotal, hdTotal, poTotal, saTotal⟩,
    PySem.W.mg_of X G aCTotal,
    ⟨mkTotal, ibTotal, kcTotal⟩,
    ⟨pgLeast, hdLeast, poLeast, saLeast⟩,
    PySem.W.mg_of X G aCLeast,
    ⟨mkLeast, ibLeast, kcLeast⟩,
    ⟨pgGreatest, hdGreatest, poGreatest, saGreatest⟩,
    PySem.W.mg_of X G aCGreatest,
    ⟨mkGreatest, ibGreatest, kcGreatest⟩,
    ⟨pgMean, hdMean, poMean, saMean⟩,
    PySem.W.mg_of X G aCMean,
    ⟨mkMean, ibMean, kcMean⟩,
    PySem.W.mg_of X G xCBookError,
    PySem.W.mg_of X G xCNoAsk,
    PySem.W.mg_of X G xCNoAnswer,
    xEBookError,
    ⟨xKBookError0, xKBookError1, xKBookError2, xKBookError3, xKBookError4, xKBookError5⟩,
    xHBookError_BookError,
    xIBookError_BookError,
    xIBookError_NoAsk,
    xIBookError_NoAnswer,
    xVBookError,
    xENoAsk,
    ⟨xKNoAsk0, xKNoAsk1, xKNoAsk2, xKNoAsk3, xKNoAsk4, xKNoAsk5⟩,
    xHNoAsk_BookError,
    xINoAsk_BookError,
    xHNoAsk_NoAsk,
    xINoAsk_NoAsk,
    xINoAsk_NoAnswer,
    xVNoAsk,
    xENoAnswer,
    ⟨xKNoAnswer0, xKNoAnswer1, xKNoAnswer2, xKNoAnswer3, xKNoAnswer4, xKNoAnswer5⟩,
    xHNoAnswer_BookError,
    xINoAnswer_BookError,
    xINoAnswer_NoAsk,
    xHNoAnswer_NoAnswer,
    xINoAnswer_NoAnswer,
    xVNoAnswer,
    PySem.W.mg_none_of X G z_abs,
    PySem.W.mg_none_of X G z_all,
    PySem.W.mg_none_of X G z_bool,
    PySem.W.mg_none_of X G z_dict,
    PySem.W.mg_none_of X G z_enumerate,
    PySem.W.mg_none_of X G z_int,
    PySem.W.mg_none_of X G z_isinstance,
    PySem.W.mg_none_of X G z_len,
    PySem.W.mg_none_of X G z_list,
    PySem.W.mg_none_of X G z_max,
    PySem.W.mg_none_of X G z_min,
    PySem.W.mg_none_of X G z_range,
    PySem.W.mg_none_of X G z_reversed,
    PySem.W.mg_none_of X G z_sorted,
    PySem.W.mg_none_of X G z_sum,
    PySem.W.mg_none_of X G z_tuple,
    PySem.W.mg_none_of X G z_zip⟩
section
variable {P : Program} {w : World} {K : PySem.W.Frag} {mg : Str → Option Value} {base : Heap} {C_Measure C_HowMany C_Total C_Least C_Greatest C_Mean C_BookError C_NoAsk C_NoAnswer : Addr}
theorem D__law_cell_at (T : Txt K mg C_Measure C_HowMany C_Total C_Least C_Greatest C_Mean C_BookError C_NoAsk C_NoAnswer) : DefOk P w K mg base 1 "_law_cell_at" ["_law_script", "_law_k"] (sp_lcell K) := by
  obtain ⟨f, fd, F, hm⟩ := T.f__law_cell_at
  have nd := sc__law_cell_at.nd
  refine F.def_ hm (F.ok sc__law_cell_at (fun vs H Q E h => ?_) (fun cdv A outer s H vs Q E hr h => ?_)) (F.binds fun _ _ _ _ _ _ us hl => by obtain ⟨_, _, rfl⟩ := L2.lq2 hl; rfl)
  · obtain ⟨a, ns, k, rfl, _⟩ := h; rfl
  · obtain ⟨a, ns, k, rfl, hS, h0, q⟩ := h
    refine ⟨_, (pss_cons (ps_if (pt_cmpR op_lt (pv 1) (pe_callB call_len_seq rfl T.b_len bt_len (pa_cons (pv 0) pa_nil)) (nomark _))
        (pss_one (ps_ret (pe_ix ix_list (pv 0) (pv 1) (fun _ _ => rfl))))
        pss_nil)
      (pss_one (ps_ret pe_int))), ?_⟩
    walk_at "r"
    refine ite2 (fun z => ?_) fun z => ?_
    · have z' : k < ns.length := by simpa using z
      have hk : k.toNat < ns.length := by omega
      have hi : atI (ns.map V.int) k = some (.int ns[k.toNat]) := by
        have := atI_nat (xs := ns.map V.int) (j := k.toNat) (v := V.int ns[k.toNat]) (by simp [hk])
        rwa [Int.toNat_of_nonneg h0] at this
      walk_at "r"; exact q _
    · exact q 0
theorem D__law_stream (T : Txt K mg C_Measure C_HowMany C_Total C_Least C_Greatest C_Mean C_BookError C_NoAsk C_NoAnswer) : DefOk P w K mg base 1 "_law_stream" ["_law_cell", "_law_many"] sp_stream := by
  obtain ⟨f, fd, F, hm⟩ := T.f__law_stream
  have nd := sc__law_stream.nd
  refine F.def_ hm (F.ok sc__law_stream (fun vs H Q E h => ?_) (fun cdv A outer s H vs Q E hr h => ?_)) (F.binds fun _ _ _ _ _ _ us hl => by obtain ⟨_, _, rfl⟩ := L2.lq2 hl; rfl)
  · obtain ⟨c, k, rfl, _⟩ := h; rfl
  · obtain ⟨c, k, rfl, hk, q⟩ := h
    refine ⟨_, (pss_cons (ps_set (i := 2) nd rfl (Or.inl rfl) (pe_lstN pa_nil))
      (pss_cons (ps_set (i := 3) nd rfl (Or.inl rfl) (pe_op op_add (pe_op op_mod (pv 0) (pe_op op_add (pe_op op_pow pe_int pe_int) pe_int)) pe_int))
      (pss_cons (ps_for PassesOwn.never rfl (pi_range1 rfl T.b_range (pa_cons (pe_op op_add (pv 1) pe_int) pa_nil)) (pg_name (i := 4) nd rfl (Or.inl rfl))
        (pss_cons (ps_set (i := 3) nd rfl (Or.inl rfl) (pe_op op_mod (pe_op op_add (pe_op op_add (pe_op op_mulB (pv 3) (pv 3)) (pe_op op_mulB pe_int (pv 3))) (pv 4)) (pe_op op_add (pe_op op_pow pe_int pe_int) pe_int)))
      (pss_one (ps_expr (pe_bm PySem.F.plainAttrs_list PySem.F.slot_list_append PySem.F.type_list_append mt_appendN (pv 2) (pa_cons (pv 3) pa_nil))))))
      (pss_one (ps_ret (pe_slice sl_listN (pv 2) (po_some pe_int) po_none)))))), ?_⟩
    walk_at "r"; intro l H1 n1
    walk_at "r"
    refine for_range (n := k + 4) (fun i σ H2 => Same H H2 ∧ ∃ (xs : List Int) (n : Int) (v4 : Option V), H2 l = some (.lst (xs.map V.int)) ∧ xs.length = i ∧ (∀ x ∈ xs, XB x) ∧ XB n ∧ σ = [some (.int c), some (.int (k : Int)), some (.ref l), some (.int n), v4]) ⟨n1.same, [], _, none, n1.at_, rfl, (fun x hx => by cases hx), (by show XB (c % (10 ^ 40 + 121) + 48271); unfold XB; omega), rfl⟩ ?_ ?_
    · rintro i σ H2 hi ⟨s2, xs, n, v4, hl2, hx, hb, hn, rfl⟩
      unfold XB at hn
      rw [Int.zero_add]
      walk_at "r"
      intro H3 b3 h3
      have hm : XB ((n * n + 48271 * n + (i : Int)) % (10 ^ 40 + 121)) := ⟨Int.emod_nonneg _ (by decide), Int.lt_of_lt_of_le (Int.emod_lt_of_pos _ (by decide)) (by decide)⟩
      refine ⟨b3.same s2 n1.fresh, xs ++ [(n * n + 48271 * n + (i : Int)) % (10 ^ 40 + 121)], _, _, by rw [List.map_append]; exact h3, by simp [hx], fun x hx' => ?_, hm, rfl⟩
      rcases List.mem_append.mp hx' with z | z
      · exact hb x z
      · rw [List.mem_singleton.mp z]; exact hm
    · rintro σ H2 ⟨s2, xs, n, v4, hl2, hx, hb, hn, rfl⟩
      walk_at "r"; intro l3 H3 n3
      have ec : cutV (xs.map V.int) (some 4) none = (xs.drop 4).map V.int := by
        have := cutFrom (xs.map V.int) 4 (by simp; omega)
        rw [List.map_drop]; exact this
      rw [ec] at n3
      exact q l3 (xs.drop 4) H3 (New.after s2 n3) (by rw [List.length_drop]; omega) fun x hx => hb x (List.mem_of_mem_drop hx)
theorem D__law_run (T : Txt K mg C_Measure C_HowMany C_Total C_Least C_Greatest C_Mean C_BookError C_NoAsk C_NoAnswer) : DefOk P w K mg base 2 "_law_run" ["_law_cell", "_law_kind"] sp_run := by
  obtain ⟨f, fd, F, hm⟩ := T.f__law_run
  have nd := sc__law_run.nd
  refine F.def_ hm (F.ok sc__law_run (fun vs H Q E h => ?_) (fun cdv A outer s H vs Q E hr h => ?_)) (F.binds fun _ _ _ _ _ _ us hl => by obtain ⟨_, _, rfl⟩ := L2.lq2 hl; rfl)
  · obtain ⟨c, k, rfl, _⟩ := h; rfl
  · obtain ⟨c, k, rfl, h0, h6, q⟩ := h
    obtain ⟨J, eJ⟩ : ∃ J : St → Hp → Prop, J = fun σ H' => ∃ (k : Int) (l : Addr) (x0 x1 x2 : Int), 0 ≤ k ∧ k < 4 ∧ XB x0 ∧ XB x1 ∧ XB x2 ∧ Same H H' ∧ H' l = some (.lst [.int x0, .int x1, .int x2]) ∧ σ = [some (.int c), some (.int k), some (.ref l), none] := ⟨_, rfl⟩
    refine ⟨_, (pss_cons (ps_set (i := 2) nd rfl (Or.inl rfl) (pe_fn (D__law_stream T) (hr.mono (by decide)) rfl (pa_cons (pv 0) (pa_cons pe_int pa_nil))))
      (pss_cut J (ps_if (pt_cmpR op_gt (pv 1) pe_int (nomark _))
        (pss_one (ps_set (i := 1) nd rfl (Or.inl rfl) (pe_op op_mod (pe_op op_fdiv (pe_ix ix_list (pv 2) pe_int (fun _ _ => rfl)) pe_int) pe_int)))
        pss_nil)
      (pss_cons (ps_set (i := 3) nd rfl (Or.inl rfl) (pe_ix ix_list (pe_lstN (pa_cons (pe_op op_sub (pe_op op_mod (pe_ix ix_list (pv 2) pe_int (fun _ _ => rfl)) pe_int) pe_int) (pa_cons (pe_op op_mod (pe_ix ix_list (pv 2) pe_int (fun _ _ => rfl)) pe_int) (pa_cons (pe_op op_sub (pe_op op_mod (pe_ix ix_list (pv 2) pe_int (fun _ _ => rfl)) (pe_op op_mul pe_int (pe_op op_pow pe_int pe_int))) (pe_op op_pow pe_int pe_int)) (pa_cons (pe_op op_sub (pe_op op_mod (pe_ix ix_list (pv 2) pe_int (fun _ _ => rfl)) (pe_op op_mul pe_int (pe_op op_pow pe_int pe_int))) (pe_op op_pow pe_int pe_int)) pa_nil))))) (pv 1) (fun _ _ => rfl)))
      (pss_one (ps_ret (pe_tupN (pa_cons (pv 3) (pa_cons (pe_ix ix_list (pe_lstN (pa_cons pe_int (pa_cons pe_int (pa_cons (pe_op op_add pe_int (pe_op op_mod (pe_ix ix_list (pv 2) pe_int (fun _ _ => rfl)) pe_int)) (pa_cons (pe_op op_add pe_int (pe_op op_mod (pe_ix ix_list (pv 2) pe_int (fun _ _ => rfl)) (pe_op op_pow pe_int pe_int))) pa_nil))))) (pe_op op_mod (pe_ix ix_list (pv 2) pe_int (fun _ _ => rfl)) pe_int) (fun _ _ => rfl)) pa_nil)))))))), ?_⟩
    walk_at "r"
    intro l xs H1 n1 hx hb
    obtain ⟨x0, x1, x2, rfl⟩ := len3 hx
    have b0 := hb x0 (by simp)
    have b1 := hb x1 (by simp)
    have b2 := hb x2 (by simp)
    have hl : H1 l = some (.lst [.int x0, .int x1, .int x2]) := n1.at_
    refine And.intro ?_ ?_
    · walk_at "r"
      refine ite2 (fun z => ?_) fun z => ?_
      · walk_at "r"
        show J _ _
        rw [eJ]
        exact ⟨_, l, x0, x1, x2, by omega, by omega, b0, b1, b2, n1.same, hl, rfl⟩
      · have z' : ¬ (3 < k) := by simpa using z
        show J _ _
        rw [eJ]
        exact ⟨_, l, x0, x1, x2, h0, by omega, b0, b1, b2, n1.same, hl, rfl⟩
    clear hl n1 b0 b1 b2 hb hx h0 h6
    intro σ' H' j
    rw [eJ] at j
    clear eJ
    obtain ⟨k, l, x0, x1, x2, k0, k4, b0, b1, b2, s', hl, rfl⟩ := j
    unfold XB at b0 b1 b2
    walk_at "r"; intro p1 H2 n2
    obtain ⟨v, hv, v1, v2⟩ : ∃ v, atI [V.int (x0 % 9 - 4), V.int (x0 % 3), V.int (x0 % (2 * 10 ^ 9) - 10 ^ 9), V.int (x0 % (2 * 10 ^ 30) - 10 ^ 30)] k = some (V.int v) ∧ -(10 ^ 31) < v ∧ v < 10 ^ 31 := by
      have hk : k = 0 ∨ k = 1 ∨ k = 2 ∨ k = 3 := by omega
      rcases hk with rfl | rfl | rfl | rfl
      · exact ⟨_, rfl, by omega, by omega⟩
      · exact ⟨_, rfl, by omega, by omega⟩
      · exact ⟨_, rfl, by omega, by omega⟩
      · exact ⟨_, rfl, by omega, by omega⟩
    walk_at "r"; intro p3 H3 n3
    obtain ⟨m, hm, m1, m2⟩ : ∃ m, atI [V.int 1, V.int 1, V.int (1 + x2 % 5), V.int (1 + x2 % 10 ^ 12)] (x1 % 4) = some (V.int m) ∧ 1 ≤ m ∧ m < 10 ^ 31 := by
      have hk : x1 % 4 = 0 ∨ x1 % 4 = 1 ∨ x1 % 4 = 2 ∨ x1 % 4 = 3 := by omega
      rcases hk with e | e | e | e <;> rw [e]
      · exact ⟨_, rfl, by omega, by omega⟩
      · exact ⟨_, rfl, by omega, by omega⟩
      · exact ⟨_, rfl, by omega, by omega⟩
      · exact ⟨_, rfl, by omega, by omega⟩
    walk_at "r"; intro a H4 n4
    exact q a (v, m) H4 (New.after (s'.trans (n2.same.trans n3.same)) n4) ⟨⟨v1, v2⟩, m1, m2⟩
theorem D__law_heap (T : Txt K mg C_Measure C_HowMany C_Total C_Least C_Greatest C_Mean C_BookError C_NoAsk C_NoAnswer) : DefOk P w K mg base 1 "_law_heap" ["_law_runs"] sp_lheap := by
  obtain ⟨f, fd, F, hm⟩ := T.f__law_heap
  have nd := sc__law_heap.nd
  refine F.def_ hm (F.ok sc__law_heap (fun vs H Q E h => ?_) (fun cdv A outer s H vs Q E hr h => ?_)) (F.binds fun _ _ _ _ _ _ us hl => by obtain ⟨_, rfl⟩ := L2.lq1 hl; rfl)
  · obtain ⟨l, xs, rs, rfl, _⟩ := h; rfl
  · obtain ⟨l, xs, rs, rfl, hl, hp, ok, h1, h2, q⟩ := h
    refine ⟨_, (pss_cons (ps_set (i := 1) nd rfl (Or.inl rfl) (pe_callB (call_sum rfl) rfl T.b_sum bt_sum (pa_cons (pe_lc (vars := ["_law_value", "_law_count"]) (frees := []) (fv := []) rfl (lcOk rfl rfl (by decide +kernel) (by decide +kernel) (by intro p hp; cases hp) rfl) trivial (pi_list (pv 0)) (gk_pair (by decide) (by decide)) (fun _ _ _ _ => (pg_tup rfl (pgs_cons (pg_name (i := 0) (show (["_law_value", "_law_count"] : List Str).Nodup by decide +kernel) rfl (Or.inl rfl)) (pgs_cons (pg_name (i := 1) (show (["_law_value", "_law_count"] : List Str).Nodup by decide +kernel) rfl (Or.inl rfl)) pgs_nil)))) (fun _ _ _ _ => pif_none) (fun _ _ _ _ => (pv 1))) pa_nil)))
      (pss_cons (ps_set (i := 2) nd rfl (Or.inl rfl) (pe_callB (call_sum rfl) rfl T.b_sum bt_sum (pa_cons (pe_lc (vars := ["_law_value", "_law_count"]) (frees := []) (fv := []) rfl (lcOk rfl rfl (by decide +kernel) (by decide +kernel) (by intro p hp; cases hp) rfl) trivial (pi_list (pv 0)) (gk_pair (by decide) (by decide)) (fun _ _ _ _ => (pg_tup rfl (pgs_cons (pg_name (i := 0) (show (["_law_value", "_law_count"] : List Str).Nodup by decide +kernel) rfl (Or.inl rfl)) (pgs_cons (pg_name (i := 1) (show (["_law_value", "_law_count"] : List Str).Nodup by decide +kernel) rfl (Or.inl rfl)) pgs_nil)))) (fun _ _ _ _ => pif_none) (fun _ _ _ _ => (pe_op op_mulB (pv 0) (pv 1)))) pa_nil)))
      (pss_one (ps_ret (pe_tupN (pa_cons (pv 1) (pa_cons (pv 2) (pa_cons (pe_callB (call_minL rfl) rfl T.b_min bt_min (pa_cons (pe_lc (vars := ["_law_value", "_law_count"]) (frees := []) (fv := []) rfl (lcOk rfl rfl (by decide +kernel) (by decide +kernel) (by intro p hp; cases hp) rfl) trivial (pi_list (pv 0)) (gk_pair (by decide) (by decide)) (fun _ _ _ _ => (pg_tup rfl (pgs_cons (pg_name (i := 0) (show (["_law_value", "_law_count"] : List Str).Nodup by decide +kernel) rfl (Or.inl rfl)) (pgs_cons (pg_name (i := 1) (show (["_law_value", "_law_count"] : List Str).Nodup by decide +kernel) rfl (Or.inl rfl)) pgs_nil)))) (fun _ _ _ _ => pif_none) (fun _ _ _ _ => (pv 0))) pa_nil)) (pa_cons (pe_callB (call_maxL rfl) rfl T.b_max bt_max (pa_cons (pe_lc (vars := ["_law_value", "_law_count"]) (frees := []) (fv := []) rfl (lcOk rfl rfl (by decide +kernel) (by decide +kernel) (by intro p hp; cases hp) rfl) trivial (pi_list (pv 0)) (gk_pair (by decide) (by decide)) (fun _ _ _ _ => (pg_tup rfl (pgs_cons (pg_name (i := 0) (show (["_law_value", "_law_count"] : List Str).Nodup by decide +kernel) rfl (Or.inl rfl)) (pgs_cons (pg_name (i := 1) (show (["_law_value", "_law_count"] : List Str).Nodup by decide +kernel) rfl (Or.inl rfl)) pgs_nil)))) (fun _ _ _ _ => pif_none) (fun _ _ _ _ => (pv 0))) pa_nil)) pa_nil))))))))), ?_⟩
    have mulB : ∀ p ∈ rs, CMulB p.1 p.2 := fun p hp => by
      have := ok p hp
      unfold RunOk at this
      exact ⟨⟨by omega, by omega⟩, by omega, by omega⟩
    refine ⟨_, rfl, l, rfl, ⟨_, SqL.of hl⟩, lc_pairs (fun p => p.2) hl hp h2 (fun p hp Q' hq => ⟨_, rfl, hq⟩) fun a1 H1 n1 => ⟨a1, _, rfl, SqL.of n1.at_, ?_⟩⟩
    have hl1 := n1.same _ _ hl
    have hp1 := hp.same n1.same
    refine ⟨_, rfl, l, rfl, ⟨_, SqL.of hl1⟩, lc_pairs (fun p => p.1 * p.2) hl1 hp1 h2 (fun p hp Q' hq => ⟨_, rfl, _, rfl, _, _, rfl, rfl, mulB p hp, hq⟩) fun a2 H2 n2 => ⟨a2, _, rfl, SqL.of n2.at_, ?_⟩⟩
    have hl2 := n2.same _ _ hl1
    have hp2 := hp1.same n2.same
    refine ⟨_, rfl, _, rfl, _, rfl, l, rfl, ⟨_, SqL.of hl2⟩, lc_pairs (fun p => p.1) hl2 hp2 h2 (fun p hp Q' hq => ⟨_, rfl, hq⟩) fun a3 H3 n3 => ⟨a3, _, rfl, SqL.of n3.at_, by simp; omega, fun lo hlo hlo' => ?_⟩⟩
    have hl3 := n3.same _ _ hl2
    have hp3 := hp2.same n3.same
    refine ⟨_, rfl, l, rfl, ⟨_, SqL.of hl3⟩, lc_pairs (fun p => p.1) hl3 hp3 h2 (fun p hp Q' hq => ⟨_, rfl, hq⟩) fun a4 H4 n4 => ⟨a4, _, rfl, SqL.of n4.at_, by simp; omega, fun hi hhi hhi' => ?_⟩⟩
    walk_at "r"; intro a H5 n5
    exact q a _ _ lo hi H5 ⟨rfl, rfl, hlo, hlo', hhi, hhi'⟩ (New.after (n1.same.trans (n2.same.trans (n3.same.trans n4.same))) n5)
end
section
variable {P : Program} {w : World} {K : PySem.W.Frag} {mg : Str → Option Value} {base : Heap} {C_Measure C_HowMany C_Total C_Least C_Greatest C_Mean C_BookError C_NoAsk C_NoAnswer : Addr}
theorem D__law_whole (T : Txt K mg C_Measure C_HowMany C_Total C_Least C_Greatest C_Mean C_BookError C_NoAsk C_NoAnswer) : DefOk P w K mg base 1 "_law_whole" ["_law_found"] sp_lwhole := by
  obtain ⟨f, fd, F, hm⟩ := T.f__law_whole
  have nd := sc__law_whole.nd
  refine F.def_ hm (F.ok sc__law_whole (fun vs H Q E h => ?_) (fun cdv A outer s H vs Q E hr h => ?_)) (F.binds fun _ _ _ _ _ _ us hl => by obtain ⟨_, rfl⟩ := L2.lq1 hl; rfl)
  · obtain ⟨i, rfl, _⟩ := h; rfl
  · obtain ⟨i, rfl, q⟩ := h
    refine ⟨_, (pss_one (ps_ret (pe_and (pe_callB call_isi rfl T.b_isinstance bt_isinstance (pa_cons (pv 0) (pa_cons (pe_bltn (v := .ty "int") rfl T.b_int bt_int rfl) pa_nil))) (pe_one (pe_not (pe_callB call_isi rfl T.b_isinstance bt_isinstance (pa_cons (pv 0) (pa_cons (pe_bltn (v := .ty "bool") rfl T.b_bool bt_bool rfl) pa_nil)))))))), ?_⟩
    walk_at "r"
    exact q
theorem D__law_tuple (T : Txt K mg C_Measure C_HowMany C_Total C_Least C_Greatest C_Mean C_BookError C_NoAsk C_NoAnswer) : DefOk P w K mg base 2 "_law_tuple" ["_law_found", "_law_most"] sp_ltuple := by
  obtain ⟨f, fd, F, hm⟩ := T.f__law_tuple
  have nd := sc__law_tuple.nd
  refine F.def_ hm (F.ok sc__law_tuple (fun vs H Q E h => ?_) (fun cdv A outer s H vs Q E hr h => ?_)) (F.binds fun _ _ _ _ _ _ us hl => by obtain ⟨_, _, rfl⟩ := L2.lq2 hl; rfl)
  · obtain ⟨a, ns, k, rfl, _⟩ := h; rfl
  · obtain ⟨a, ns, k, rfl, ha, hk, h20, q⟩ := h
    refine ⟨_, (pss_one (ps_ret (pe_and (pe_callB call_isi rfl T.b_isinstance bt_isinstance (pa_cons (pv 0) (pa_cons (pe_bltn (v := .ty "tuple") rfl T.b_tuple bt_tuple rfl) pa_nil))) (pe_and (pe_cmpR op_eq (pe_callB call_len_seq rfl T.b_len bt_len (pa_cons (pv 0) pa_nil)) (pv 1) (nomark _)) (pe_one (pe_callB (call_all rfl) rfl T.b_all bt_all (pa_cons (pe_lc (vars := ["_law_part"]) (frees := []) (fv := []) rfl (lcOk rfl rfl (by decide +kernel) (by decide +kernel) (by intro p hp; cases hp) rfl) trivial (pi_tup (pv 0)) (gk_name (by decide)) (fun _ _ _ _ => (pg_name (i := 0) (show (["_law_part"] : List Str).Nodup by decide +kernel) rfl (Or.inl rfl))) (fun _ _ _ _ => pif_none) (fun _ _ _ _ => (pe_fn (D__law_whole T) (hr.mono (by decide)) rfl (pa_cons (pv 0) pa_nil)))) pa_nil))))))), ?_⟩
    walk_at "r"
    rw [decide_eq_true (show V.int ((ns.map V.int).length : Int) = V.int (k : Int) by rw [List.length_map, hk])]
    refine iteT ?_
    refine ⟨_, rfl, a, rfl, ⟨_, SqT.of ha⟩, lc_tupN (xs := ns.map V.int) (fun j zs H2 => H2 = H ∧ zs = (List.replicate j true).map V.bl) (Nat.le_of_lt (small1000 (by simp; omega))) ⟨rfl, rfl⟩ (fun j zs H2 h2 => ⟨SqT.of (by rw [h2.1]; exact ha), by rw [h2.2]; simp⟩) ?_ ?_⟩
    · rintro j x zs H2 hj ⟨rfl, rfl⟩
      rw [List.getElem?_map] at hj
      obtain ⟨i, _, rfl⟩ := Option.map_eq_some_iff.mp hj
      refine gname_ (yes_ (iteT ?_))
      refine ⟨_, rfl, i, rfl, rfl, ?_⟩
      rw [List.replicate_succ', List.map_append]; rfl
    · rintro zs H2 l3 H3 ⟨rfl, rfl⟩ n3
      refine ⟨l3, List.replicate _ true, rfl, SqL.of n3.at_, ?_⟩
      have e : ∀ n, (List.replicate n true).all id = true := fun n => by simp
      rw [e]; exact q H3 n3.same
end
section
variable {P : Program} {w : World} {K : PySem.W.Frag} {mg : Str → Option Value} {base : Heap} {C_Measure C_HowMany C_Total C_Least C_Greatest C_Mean C_BookError C_NoAsk C_NoAnswer : Addr}
theorem D_widest (T : Txt K mg C_Measure C_HowMany C_Total C_Least C_Greatest C_Mean C_BookError C_NoAsk C_NoAnswer) : DefOk P w K mg base 1 "widest" ["heap"] sp_widest := by
  obtain ⟨f, fd, F, hm⟩ := T.f_widest
  have nd := sc_widest.nd
  refine F.def_ hm (F.ok sc_widest (fun vs H Q E h => ?_) (fun cdv A outer s H vs Q E hr h => ?_)) (F.binds fun _ _ _ _ _ _ us hl => by obtain ⟨_, rfl⟩ := L2.lq1 hl; rfl)
  · obtain ⟨a, m, t, lo, hi, rfl, _⟩ := h; rfl
  · obtain ⟨a, m, t, lo, hi, rfl, ha, cb, hb, q⟩ := h
    have h2 := cb.le
    unfold HBd at hb
    refine ⟨_, (pss_cons (ps_set (i := 1) nd rfl (Or.inl rfl) (pe_ix ix_tup (pv 0) pe_int (fun _ _ => rfl)))
      (pss_cons (ps_set (i := 2) nd rfl (Or.inl rfl) (pe_ix ix_tup (pv 0) pe_int (fun _ _ => rfl)))
      (pss_cons (ps_set (i := 3) nd rfl (Or.inl rfl) (pe_ix ix_tup (pv 0) pe_int (fun _ _ => rfl)))
      (pss_cons (ps_if (pt_cmpR op_eq (pv 2) (pv 3) (nomark _))
        (pss_one (ps_ret (pe_lstN (pa_cons (pe_tupN (pa_cons (pv 2) (pa_cons (pv 1) pa_nil))) pa_nil))))
        pss_nil)
      (pss_cons (ps_set (i := 4) nd rfl (Or.inl rfl) (pe_op op_sub (pe_ix ix_tup (pv 0) pe_int (fun _ _ => rfl)) (pe_op op_mulB (pv 1) (pv 2))))
      (pss_cons (ps_set (i := 5) nd rfl (Or.inl rfl) (pe_op op_fdivB (pv 4) (pe_op op_sub (pv 3) (pv 2))))
      (pss_cons (ps_set (i := 6) nd rfl (Or.inl rfl) (pe_op op_mod (pv 4) (pe_op op_sub (pv 3) (pv 2))))
      (pss_cons (ps_if (pt_cmpR op_eq (pv 6) pe_int (nomark _))
        (pss_one (ps_ret (pe_lstN (pa_cons (pe_tupN (pa_cons (pv 2) (pa_cons (pe_op op_sub (pv 1) (pv 5)) pa_nil))) (pa_cons (pe_tupN (pa_cons (pv 3) (pa_cons (pv 5) pa_nil))) pa_nil)))))
        pss_nil)
      (pss_one (ps_ret (pe_lstN (pa_cons (pe_tupN (pa_cons (pv 2) (pa_cons (pe_op op_sub (pe_op op_sub (pv 1) (pv 5)) pe_int) pa_nil))) (pa_cons (pe_tupN (pa_cons (pe_op op_add (pv 2) (pv 6)) (pa_cons pe_int pa_nil))) (pa_cons (pe_tupN (pa_cons (pv 3) (pa_cons (pv 5) pa_nil))) pa_nil)))))))))))))), ?_⟩
    walk_at "r"
    refine ite2 (fun z => ?_) fun z => ?_
    · have z' : lo = hi := by simpa using z
      walk_at "r"; intro p1 H1 n1
      walk_at "r"; intro l H2 n2
      refine q l _ H1 H2 n1.same n2 ?_
      have e : wRow m t lo hi = [(lo, m)] := by unfold wRow; rw [if_pos z']
      rw [e]
      exact .cons ⟨p1, rfl, n2.same _ _ n1.at_⟩ .nil
    · have z' : ¬ lo = hi := by simpa using z
      walk_at "r"
      refine ite2 (fun y => ?_) fun y => ?_
      · have y' : (t - m * lo) % (hi - lo) = 0 := by simpa using y
        walk_at "r"; intro p1 H1 n1
        walk_at "r"; intro p2 H2 n2
        walk_at "r"; intro l H3 n3
        refine q l _ H2 H3 (n1.same.trans n2.same) n3 ?_
        have e : wRow m t lo hi = [(lo, m - (t - m * lo) / (hi - lo)), (hi, (t - m * lo) / (hi - lo))] := by unfold wRow; rw [if_neg z', if_pos y']
        rw [e]
        exact .cons ⟨p1, rfl, n3.same _ _ (n2.same _ _ n1.at_)⟩ (.cons ⟨p2, rfl, n3.same _ _ n2.at_⟩ .nil)
      · have y' : ¬ (t - m * lo) % (hi - lo) = 0 := by simpa using y
        walk_at "r"; intro p1 H1 n1
        walk_at "r"; intro p2 H2 n2
        walk_at "r"; intro p3 H3 n3
        walk_at "r"; intro l H4 n4
        refine q l _ H3 H4 (n1.same.trans (n2.same.trans n3.same)) n4 ?_
        have e : wRow m t lo hi = [(lo, m - (t - m * lo) / (hi - lo) - 1), (lo + (t - m * lo) % (hi - lo), 1), (hi, (t - m * lo) / (hi - lo))] := by unfold wRow; rw [if_neg z', if_neg y']
        rw [e]
        exact .cons ⟨p1, rfl, n4.same _ _ (n3.same _ _ (n2.same _ _ n1.at_))⟩ (.cons ⟨p2, rfl, n4.same _ _ (n3.same _ _ n2.at_)⟩ (.cons ⟨p3, rfl, n4.same _ _ n3.at_⟩ .nil))
end
section
variable {P : Program} {w : World} {K : PySem.W.Frag} {mg : Str → Option Value} {base : Heap} {C_Measure C_HowMany C_Total C_Least C_Greatest C_Mean C_BookError C_NoAsk C_NoAnswer : Addr}
theorem lc_heaps {K : PySem.W.Frag} {l : Addr} {xs : List V} {hs : List HP4} {te : TE} {Q : VK} {σ : St} {H : Hp} (f : HP4 → Int) (hl : H l = some (.lst xs)) (hp : Tups H xs (hs.map j4)) (hz : hs.length ≤ 200)
    (hs' : ∀ p h, H p = some (.tup [.int h.1, .int h.2.1, .int h.2.2.1, .int h.2.2.2]) → ∀ Q' : VK, Q' (.int (f h)) H → te (σ.set 0 (some (.ref p))) H Q')
    (hd : ∀ a H', New H H' a (.lst ((hs.map f).map V.int)) → Q (.ref a) H') : lcGoal (Itl K l) Q (gName 0) tYes te σ H := by
  have hlen : xs.length = hs.length := by rw [hp.length, List.length_map]
  refine lc_listN (xs := xs) (fun i ys H2 => H2 = H ∧ ys = ((hs.take i).map f).map V.int) (Nat.le_of_lt (small1000 (by omega))) ⟨rfl, rfl⟩ (fun i ys H2 h2 => ⟨SqL.of (by rw [h2.1]; exact hl), by rw [h2.2]; simp; omega⟩) ?_ ?_
  · rintro i x ys H2 hi ⟨rfl, rfl⟩
    obtain ⟨r, hri, a, rfl, ha⟩ := hp.get hi
    rw [List.getElem?_map] at hri
    obtain ⟨h, hh, rfl⟩ := Option.map_eq_some_iff.mp hri
    refine gname_ (yes_ (iteT (hs' a h ha _ ⟨rfl, ?_⟩)))
    rw [takeN hs i h hh, List.map_append, List.map_append]; rfl
  · rintro ys H2 a H' ⟨rfl, rfl⟩ n
    rw [hlen, List.take_length] at n
    exact hd a H' n
theorem D_greatest_divisor (T : Txt K mg C_Measure C_HowMany C_Total C_Least C_Greatest C_Mean C_BookError C_NoAsk C_NoAnswer) : DefOk P w K mg base 1 "greatest_divisor" ["one", "other"] sp_gcd := by
  obtain ⟨f, fd, F, hm⟩ := T.f_greatest_divisor
  have nd := sc_greatest_divisor.nd
  refine F.def_ hm (F.ok sc_greatest_divisor (fun vs H Q E h => ?_) (fun cdv A outer s H vs Q E hr h => ?_)) (F.binds fun _ _ _ _ _ _ us hl => by obtain ⟨_, _, rfl⟩ := L2.lq2 hl; rfl)
  · obtain ⟨m, n, rfl, _⟩ := h; rfl
  · obtain ⟨m, n, rfl, q⟩ := h
    refine ⟨_, (pss_cons (ps_while PassesOwn.never (pt_cmpR op_gt (pv 1) pe_int (nomark _))
        (pss_cons (ps_set (i := 2) nd rfl (Or.inl rfl) (pe_op op_mod (pv 0) (pv 1)))
      (pss_cons (ps_set (i := 0) nd rfl (Or.inl rfl) (pv 1))
      (pss_one (ps_set (i := 1) nd rfl (Or.inl rfl) (pv 2))))))
      (pss_one (ps_ret (pv 0)))), ?_⟩
    refine while_by (fun σ H' => H' = H ∧ ∃ (a b : Nat) (v : Option V), Nat.gcd a b = Nat.gcd m n ∧ σ = [some (.int a), some (.int b), v]) (fun σ _ => match σ with | _ :: some (.int b) :: _ => b.toNat | _ => 0) ⟨rfl, m, n, none, rfl, rfl⟩ ?_ ?_
    · rintro σ H' ⟨rfl, a, b, v, e, rfl⟩
      walk_at "r"
      refine ite2 (fun z => ?_) fun z => ?_
      · have hb : 0 < b := by simpa using z
        have em : (a : Int) % (b : Int) = ((a % b : Nat) : Int) := (Int.natCast_emod a b).symm
        refine ⟨_, rfl, _, rfl, _, _, rfl, rfl, (by show (0 : Int) < (b : Int); omega), ?_⟩
        refine ⟨_, rfl, ?_⟩
        refine ⟨_, rfl, ?_⟩
        refine ⟨⟨rfl, b, a % b, _, by rw [← e, Nat.gcd_comm a b, Nat.gcd_rec b a, Nat.gcd_comm], by show _ = _; rw [← em]; rfl⟩, ?_⟩
        show ((a : Int) % (b : Int)).toNat < (b : Int).toNat
        rw [em]
        have := Nat.mod_lt a hb
        omega
      · have hb : b = 0 := by
          have : ¬ 0 < b := by simpa using z
          omega
        subst hb
        rw [Nat.gcd_zero_right] at e
        refine ⟨_, rfl, ?_⟩
        rw [e]
        exact q
    · exact fun σ H Q Q' hq ⟨v, e, i, j, e1, e2, b, e3, h⟩ => ⟨v, e, i, j, e1, e2, b, e3, hq _ _ h⟩
theorem D_lowest_terms (T : Txt K mg C_Measure C_HowMany C_Total C_Least C_Greatest C_Mean C_BookError C_NoAsk C_NoAnswer) : DefOk P w K mg base 2 "lowest_terms" ["top", "bottom"] sp_low := by
  obtain ⟨f, fd, F, hm⟩ := T.f_lowest_terms
  have nd := sc_lowest_terms.nd
  refine F.def_ hm (F.ok sc_lowest_terms (fun vs H Q E h => ?_) (fun cdv A outer s H vs Q E hr h => ?_)) (F.binds fun _ _ _ _ _ _ us hl => by obtain ⟨_, _, rfl⟩ := L2.lq2 hl; rfl)
  · obtain ⟨t, n, rfl, _⟩ := h; rfl
  · obtain ⟨t, n, rfl, h1, h2, q⟩ := h
    obtain ⟨lo, g1, g2⟩ := low_of (t := t) h1
    refine ⟨_, (pss_cons (ps_set (i := 2) nd rfl (Or.inl rfl) (pe_fn (D_greatest_divisor T) (hr.mono (by decide)) rfl (pa_cons (pe_callB call_abs rfl T.b_abs bt_abs (pa_cons (pv 0) pa_nil)) (pa_cons (pv 1) pa_nil))))
      (pss_one (ps_ret (pe_tupN (pa_cons (pe_op op_fdivB (pv 0) (pv 2)) (pa_cons (pe_op op_fdivB (pv 1) (pv 2)) pa_nil)))))), ?_⟩
    have e1 : (if t < 0 then -t else t) = (t.natAbs : Int) := by split <;> omega
    have e2 : n = (n.natAbs : Int) := by omega
    refine ⟨_, rfl, _, rfl, _, rfl, t.natAbs, n.natAbs, (by rw [e1, ← e2]; rfl), ?_⟩
    generalize (Nat.gcd t.natAbs n.natAbs : Int) = g at lo g1 g2 ⊢
    refine ⟨_, rfl, _, rfl, _, _, rfl, rfl, ⟨by show 0 < g; omega, by show g < _; omega⟩, _, rfl, _, rfl, _, _, rfl, rfl, ⟨by show 0 < g; omega, by show g < _; omega⟩, by show 2 ≤ sizeLine; decide, fun p H1 n1 => ?_⟩
    exact q p _ _ H1 n1 lo
theorem D_many_of (T : Txt K mg C_Measure C_HowMany C_Total C_Least C_Greatest C_Mean C_BookError C_NoAsk C_NoAnswer) : DefOk P w K mg base 1 "many_of" ["heaps"] sp_manyof := by
  obtain ⟨f, fd, F, hm⟩ := T.f_many_of
  have nd := sc_many_of.nd
  refine F.def_ hm (F.ok sc_many_of (fun vs H Q E h => ?_) (fun cdv A outer s H vs Q E hr h => ?_)) (F.binds fun _ _ _ _ _ _ us hl => by obtain ⟨_, rfl⟩ := L2.lq1 hl; rfl)
  · obtain ⟨l, xs, hs, rfl, _⟩ := h; rfl
  · obtain ⟨l, xs, hs, rfl, hl, hp, hn, q⟩ := h
    refine ⟨_, (pss_one (ps_ret (pe_callB (call_sum rfl) rfl T.b_sum bt_sum (pa_cons (pe_lc (vars := ["heap"]) (frees := []) (fv := []) rfl (lcOk rfl rfl (by decide +kernel) (by decide +kernel) (by intro p hp; cases hp) rfl) trivial (pi_list (pv 0)) (gk_name (by decide)) (fun _ _ _ _ => (pg_name (i := 0) (show (["heap"] : List Str).Nodup by decide +kernel) rfl (Or.inl rfl))) (fun _ _ _ _ => pif_none) (fun _ _ _ _ => (pe_ix (show IxR _ (rIxT K) from ix_tup) (pv 0) pe_int (fun _ _ => rfl)))) pa_nil)))), ?_⟩
    exact ⟨_, rfl, l, rfl, ⟨_, SqL.of hl⟩, lc_heaps (fun h => h.1) hl hp hn (fun p h e Q' q => ⟨_, rfl, p, _, _, _, rfl, rfl, SqT.of e, rfl, q⟩) fun a H1 n1 => ⟨a, _, rfl, SqL.of n1.at_, q H1 n1.same⟩⟩
theorem D_total_of (T : Txt K mg C_Measure C_HowMany C_Total C_Least C_Greatest C_Mean C_BookError C_NoAsk C_NoAnswer) : DefOk P w K mg base 1 "total_of" ["heaps"] sp_totalof := by
  obtain ⟨f, fd, F, hm⟩ := T.f_total_of
  have nd := sc_total_of.nd
  refine F.def_ hm (F.ok sc_total_of (fun vs H Q E h => ?_) (fun cdv A outer s H vs Q E hr h => ?_)) (F.binds fun _ _ _ _ _ _ us hl => by obtain ⟨_, rfl⟩ := L2.lq1 hl; rfl)
  · obtain ⟨l, xs, hs, rfl, _⟩ := h; rfl
  · obtain ⟨l, xs, hs, rfl, hl, hp, hn, q⟩ := h
    refine ⟨_, (pss_one (ps_ret (pe_callB (call_sum rfl) rfl T.b_sum bt_sum (pa_cons (pe_lc (vars := ["heap"]) (frees := []) (fv := []) rfl (lcOk rfl rfl (by decide +kernel) (by decide +kernel) (by intro p hp; cases hp) rfl) trivial (pi_list (pv 0)) (gk_name (by decide)) (fun _ _ _ _ => (pg_name (i := 0) (show (["heap"] : List Str).Nodup by decide +kernel) rfl (Or.inl rfl))) (fun _ _ _ _ => pif_none) (fun _ _ _ _ => (pe_ix (show IxR _ (rIxT K) from ix_tup) (pv 0) pe_int (fun _ _ => rfl)))) pa_nil)))), ?_⟩
    exact ⟨_, rfl, l, rfl, ⟨_, SqL.of hl⟩, lc_heaps (fun h => h.2.1) hl hp hn (fun p h e Q' q => ⟨_, rfl, p, _, _, _, rfl, rfl, SqT.of e, rfl, q⟩) fun a H1 n1 => ⟨a, _, rfl, SqL.of n1.at_, q H1 n1.same⟩⟩
theorem D_least_of_all (T : Txt K mg C_Measure C_HowMany C_Total C_Least C_Greatest C_Mean C_BookError C_NoAsk C_NoAnswer) : DefOk P w K mg base 1 "least_of_all" ["heaps"] sp_leastof := by
  obtain ⟨f, fd, F, hm⟩ := T.f_least_of_all
  have nd := sc_least_of_all.nd
  refine F.def_ hm (F.ok sc_least_of_all (fun vs H Q E h => ?_) (fun cdv A outer s H vs Q E hr h => ?_)) (F.binds fun _ _ _ _ _ _ us hl => by obtain ⟨_, rfl⟩ := L2.lq1 hl; rfl)
  · obtain ⟨l, xs, hs, rfl, _⟩ := h; rfl
  · obtain ⟨l, xs, hs, rfl, hl, hp, hn, hne, q⟩ := h
    refine ⟨_, (pss_one (ps_ret (pe_callB (call_minL rfl) rfl T.b_min bt_min (pa_cons (pe_lc (vars := ["heap"]) (frees := []) (fv := []) rfl (lcOk rfl rfl (by decide +kernel) (by decide +kernel) (by intro p hp; cases hp) rfl) trivial (pi_list (pv 0)) (gk_name (by decide)) (fun _ _ _ _ => (pg_name (i := 0) (show (["heap"] : List Str).Nodup by decide +kernel) rfl (Or.inl rfl))) (fun _ _ _ _ => pif_none) (fun _ _ _ _ => (pe_ix (show IxR _ (rIxT K) from ix_tup) (pv 0) pe_int (fun _ _ => rfl)))) pa_nil)))), ?_⟩
    exact ⟨_, rfl, l, rfl, ⟨_, SqL.of hl⟩, lc_heaps (fun h => h.2.2.1) hl hp hn (fun p h e Q' q => ⟨_, rfl, p, _, _, _, rfl, rfl, SqT.of e, rfl, q⟩) fun a H1 n1 => ⟨a, _, rfl, SqL.of n1.at_, by rw [List.length_map]; exact List.length_pos_iff.mpr hne, fun m h1 h2 => q m H1 n1.same h1 h2⟩⟩
theorem D_greatest_of_all (T : Txt K mg C_Measure C_HowMany C_Total C_Least C_Greatest C_Mean C_BookError C_NoAsk C_NoAnswer) : DefOk P w K mg base 1 "greatest_of_all" ["heaps"] sp_greatof := by
  obtain ⟨f, fd, F, hm⟩ := T.f_greatest_of_all
  have nd := sc_greatest_of_all.nd
  refine F.def_ hm (F.ok sc_greatest_of_all (fun vs H Q E h => ?_) (fun cdv A outer s H vs Q E hr h => ?_)) (F.binds fun _ _ _ _ _ _ us hl => by obtain ⟨_, rfl⟩ := L2.lq1 hl; rfl)
  · obtain ⟨l, xs, hs, rfl, _⟩ := h; rfl
  · obtain ⟨l, xs, hs, rfl, hl, hp, hn, hne, q⟩ := h
    refine ⟨_, (pss_one (ps_ret (pe_callB (call_maxL rfl) rfl T.b_max bt_max (pa_cons (pe_lc (vars := ["heap"]) (frees := []) (fv := []) rfl (lcOk rfl rfl (by decide +kernel) (by decide +kernel) (by intro p hp; cases hp) rfl) trivial (pi_list (pv 0)) (gk_name (by decide)) (fun _ _ _ _ => (pg_name (i := 0) (show (["heap"] : List Str).Nodup by decide +kernel) rfl (Or.inl rfl))) (fun _ _ _ _ => pif_none) (fun _ _ _ _ => (pe_ix (show IxR _ (rIxT K) from ix_tup) (pv 0) pe_int (fun _ _ => rfl)))) pa_nil)))), ?_⟩
    exact ⟨_, rfl, l, rfl, ⟨_, SqL.of hl⟩, lc_heaps (fun h => h.2.2.2) hl hp hn (fun p h e Q' q => ⟨_, rfl, p, _, _, _, rfl, rfl, SqT.of e, rfl, q⟩) fun a H1 n1 => ⟨a, _, rfl, SqL.of n1.at_, by rw [List.length_map]; exact List.length_pos_iff.mpr hne, fun m h1 h2 => q m H1 n1.same h1 h2⟩⟩
end
section
variable {P : Program} {w : World} {K : PySem.W.Frag} {mg : Str → Option Value} {base : Heap} {C_Measure C_HowMany C_Total C_Least C_Greatest C_Mean C_BookError C_NoAsk C_NoAnswer : Addr}
theorem alt5 {a b c d e : Addr} {m : Str} {sp : Nat → Sp} {dvs : List V} {E : XK} {ta : TE} {t : TA} {σ : St} {H : Hp} {Q : VK} (k : Nat) (hk : k < 5) (h : tMeth (clsK a b c d e k) m (sp k) dvs E ta t σ H Q) :
    tAlt (tMeth a m (sp 0) dvs E ta t) (tAlt (tMeth b m (sp 1) dvs E ta t) (tAlt (tMeth c m (sp 2) dvs E ta t) (tAlt (tMeth d m (sp 3) dvs E ta t) (tMeth e m (sp 4) dvs E ta t)))) σ H Q :=
  match k, hk, h with
  | 0, _, h => .inl h
  | 1, _, h => .inr (.inl h)
  | 2, _, h => .inr (.inr (.inl h))
  | 3, _, h => .inr (.inr (.inr (.inl h)))
  | 4, _, h => .inr (.inr (.inr (.inr h)))
theorem alt5X {a b c d e : Addr} {m : Str} {sp : Sp} {dvs : List V} {W : XW} {ta : TE} {t : TA} {σ : St} {H : Hp} {Q : VK} (k : Nat) (hk : k < 5) (h : tMethX (clsK a b c d e k) m sp dvs W ta t σ H Q) :
    tAlt (tMethX a m sp dvs W ta t) (tAlt (tMethX b m sp dvs W ta t) (tAlt (tMethX c m sp dvs W ta t) (tAlt (tMethX d m sp dvs W ta t) (tMethX e m sp dvs W ta t)))) σ H Q :=
  match k, hk, h with
  | 0, _, h => .inl h
  | 1, _, h => .inr (.inl h)
  | 2, _, h => .inr (.inr (.inl h))
  | 3, _, h => .inr (.inr (.inr (.inl h)))
  | 4, _, h => .inr (.inr (.inr (.inr h)))
theorem D_measure (T : Txt K mg C_Measure C_HowMany C_Total C_Least C_Greatest C_Mean C_BookError C_NoAsk C_NoAnswer) : DefX P w K mg base 1 "measure" ["word"] [] (sp_measure (clsK C_HowMany C_Total C_Least C_Greatest C_Mean) C_NoAsk) := by
  obtain ⟨f, fd, F, hm⟩ := T.f_measure
  have nd := sc_measure.nd
  refine ⟨f, fd, (F.okX sc_measure (fun vs H Q E h => ?_) (fun cdv A outer s H vs Q E hr h => ?_)), hm, F.kp, (F.binds fun _ _ _ _ _ _ us hl => by obtain ⟨_, rfl⟩ := L2.lq1 hl; rfl)⟩
  · obtain ⟨w, rfl, _⟩ := h; rfl
  · obtain ⟨wo, rfl, qk, qE⟩ := h
    refine ⟨_, (pss_cons (ps_if (pt_cmpR op_eq (pv 0) pe_str (nomark _))
        (pss_one (ps_ret (pe_bare T.mk_HowMany rfl T.mg_HowMany)))
        pss_nil)
      (pss_cons (ps_if (pt_cmpR op_eq (pv 0) pe_str (nomark _))
        (pss_one (ps_ret (pe_bare T.mk_Total rfl T.mg_Total)))
        pss_nil)
      (pss_cons (ps_if (pt_cmpR op_eq (pv 0) pe_str (nomark _))
        (pss_one (ps_ret (pe_bare T.mk_Least rfl T.mg_Least)))
        pss_nil)
      (pss_cons (ps_if (pt_cmpR op_eq (pv 0) pe_str (nomark _))
        (pss_one (ps_ret (pe_bare T.mk_Greatest rfl T.mg_Greatest)))
        pss_nil)
      (pss_cons (ps_if (pt_cmpR op_eq (pv 0) pe_str (nomark _))
        (pss_one (ps_ret (pe_bare T.mk_Mean rfl T.mg_Mean)))
        pss_nil)
      (pss_one (ps_raise (wants_wish ⟨rfl, rfl, rfl⟩) rfl T.ex_NoAsk rfl T.mg_NoAsk (pa_cons pe_str pa_nil)))))))), ?_⟩
    refine ⟨_, rfl, rfl, _, rfl, ite2 (fun z => ?_) fun z0 => ?_⟩
    · have z2 : wo = "many" := by simpa using z
      exact fun x dx H1 s1 f1 h1 => qk 0 (by omega) z2 x dx H1 s1 h1
    refine ⟨_, rfl, rfl, _, rfl, ite2 (fun z => ?_) fun z1 => ?_⟩
    · have z2 : wo = "sum" := by simpa using z
      exact fun x dx H1 s1 f1 h1 => qk 1 (by omega) z2 x dx H1 s1 h1
    refine ⟨_, rfl, rfl, _, rfl, ite2 (fun z => ?_) fun z2 => ?_⟩
    · have z2 : wo = "least" := by simpa using z
      exact fun x dx H1 s1 f1 h1 => qk 2 (by omega) z2 x dx H1 s1 h1
    refine ⟨_, rfl, rfl, _, rfl, ite2 (fun z => ?_) fun z3 => ?_⟩
    · have z2 : wo = "greatest" := by simpa using z
      exact fun x dx H1 s1 f1 h1 => qk 3 (by omega) z2 x dx H1 s1 h1
    refine ⟨_, rfl, rfl, _, rfl, ite2 (fun z => ?_) fun z4 => ?_⟩
    · have z2 : wo = "mean" := by simpa using z
      exact fun x dx H1 s1 f1 h1 => qk 4 (by omega) z2 x dx H1 s1 h1
    refine ⟨by show 1 ≤ sizeLine; decide, qE fun k hk e => ?_⟩
    match k, hk, e with
    | 0, _, e => exact z0 (decide_eq_true (congrArg V.str e))
    | 1, _, e => exact z1 (decide_eq_true (congrArg V.str e))
    | 2, _, e => exact z2 (decide_eq_true (congrArg V.str e))
    | 3, _, e => exact z3 (decide_eq_true (congrArg V.str e))
    | 4, _, e => exact z4 (decide_eq_true (congrArg V.str e))
end
section
variable {P : Program} {w : World} {K : PySem.W.Frag} {mg : Str → Option Value} {base : Heap} {C_Measure C_HowMany C_Total C_Least C_Greatest C_Mean C_BookError C_NoAsk C_NoAnswer : Addr}
theorem condJ2 {C : TT} {F : TS} {D : Ends} {σ : St} {H : Hp} (c : Bool) (hC : ∀ Q : Bool → Hp → Prop, Q c H → C σ H Q) (h1 : c = true → F D σ H) (h2 : ¬ c = true → D.nx σ H) : tIfS C F tNext D σ H := hC _ (ite2 h1 h2)
theorem D_widest_runs (T : Txt K mg C_Measure C_HowMany C_Total C_Least C_Greatest C_Mean C_BookError C_NoAsk C_NoAnswer) : DefOk P w K mg base 2 "widest_runs" ["parts"] sp_wruns := by
  obtain ⟨f, fd, F, hm⟩ := T.f_widest_runs
  have nd := sc_widest_runs.nd
  refine F.def_ hm (F.ok sc_widest_runs (fun vs H Q E h => ?_) (fun cdv A outer s H vs Q E hr h => ?_)) (F.binds fun _ _ _ _ _ _ us hl => by obtain ⟨_, rfl⟩ := L2.lq1 hl; rfl)
  · obtain ⟨l, xs, ps, rfl, _⟩ := h; rfl
  · obtain ⟨l, xs, ps, rfl, hl, hp, ok, q⟩ := h
    obtain ⟨ok1, ok2, ok3⟩ := ok
    have hxl : xs.length = ps.length := by rw [hp.length, List.length_map]
    refine ⟨_, (pss_cons (ps_set (i := 1) nd rfl (Or.inl rfl) (pe_lstN pa_nil))
      (pss_cons (ps_for PassesOwn.never rfl (pi_list (pv 0)) (pg_name (i := 2) nd rfl (Or.inl rfl))
        (pss_one (ps_expr (pe_bm PySem.F.plainAttrs_list PySem.F.slot_list_extend PySem.F.type_list_extend mt_extendN (pv 1) (pa_cons (pe_fn (D_widest T) (hr.mono (by decide)) rfl (pa_cons (pv 2) pa_nil)) pa_nil)))))
      (pss_one (ps_ret (pe_callB call_sortedW rfl T.b_sorted bt_sorted (pa_cons (pv 1) pa_nil)))))), ?_⟩
    refine ⟨by show 0 ≤ sizeLine; decide, fun r H1 n1 => ?_⟩
    have fr : H r = none := n1.fresh
    have nl : l ≠ r := ne_of_none hl fr
    refine ⟨_, rfl, l, rfl, ⟨_, SqL.of (n1.same _ _ hl)⟩, for_list (xs := xs) (fun i σ H' => Same H H' ∧ ∃ (ys : List V) (v : Option V), H' r = some (.lst ys) ∧ Pairs H' ys (wAll (ps.take i)) ∧ σ = [some (.ref l), some (.ref r), v]) ⟨n1.same, [], none, n1.at_, .nil, rfl⟩ (fun i σ H' _ h' => SqL.of (h'.1 _ _ hl)) ?_ ?_⟩
    · rintro i x σ H2 hi ⟨s2, ys, v, hr2, py, rfl⟩
      obtain ⟨j, hji, a, rfl, ha⟩ := hp.get hi
      rw [List.getElem?_map] at hji
      obtain ⟨h, hh, rfl⟩ := Option.map_eq_some_iff.mp hji
      obtain ⟨cb, hb⟩ := ok3 h (List.mem_of_getElem? hh)
      have ha2 : H2 a = some (.tup [.int h.1, .int h.2.1, .int h.2.2.1, .int h.2.2.2]) := s2 _ _ ha
      have ew : wAll (ps.take (i + 1)) = wAll (ps.take i) ++ wOf h := by
        unfold wAll
        rw [takeN ps i h hh, List.flatMap_append]; simp
      have lw : (wAll (ps.take (i + 1))).length ≤ (wAll ps).length := by
        have e := List.take_append_drop (i + 1) ps
        have : wAll ps = wAll (ps.take (i + 1)) ++ wAll (ps.drop (i + 1)) := by
          unfold wAll
          rw [← List.flatMap_append, e]
        rw [this, List.length_append]; omega
      rw [ew, List.length_append] at lw
      refine gname_ ?_
      refine ⟨_, rfl, .inl ⟨rfl, _, SqL.of hr2⟩, _, rfl, a, h.1, h.2.1, h.2.2.1, h.2.2.2, rfl, ha2, cb, hb, fun l3 xs3 H3 H4 s3 n4 p4 => ?_⟩
      have s24 := s3.trans n4.same
      have l1 := py.length
      have l2 := p4.length
      have hr4 := s24 _ _ hr2
      have e3 : (wRow h.1 h.2.1 h.2.2.1 h.2.2.2).length = (wOf h).length := rfl
      refine ⟨r, l3, ys, xs3, rfl, rfl, hr4, n4.at_, Nat.le_of_lt (small1000 (by omega)), fun H5 b5 hr5 => ?_⟩
      have ts : TupS H4 H5 := fun x xs e => b5 _ _ e (ne_of e hr4 (by intro z; cases z))
      refine ⟨b5.same (s2.trans s24) fr, _, _, hr5, ?_, rfl⟩
      rw [ew]
      exact Pairs.app ((py.same s24).tupS ts) (p4.tupS ts)
    · rintro σ H2 ⟨s2, ys, v, hr2, py, rfl⟩
      rw [hxl, List.take_length] at py
      refine ⟨_, rfl, r, ys, (wAll ps).map r2, rfl, SqL.of hr2, pairs_H py, by rw [List.length_map]; exact ok1, (fun k hk => by obtain ⟨p, _, rfl⟩ := List.mem_map.mp hk; exact List.cons_ne_nil _ _), fun ms zs l3 H3 pm sm tz n3 => ?_⟩
      obtain ⟨qs, rfl, pq⟩ := perm_r2 pm
      exact q l3 zs qs H3 (s2.trans n3.same) n3.at_ ((pairs_of_H tz).same n3.same) pq sm
theorem D_is_beyond (T : Txt K mg C_Measure C_HowMany C_Total C_Least C_Greatest C_Mean C_BookError C_NoAsk C_NoAnswer) : DefOk P w K mg base 1 "is_beyond" ["value", "many", "total", "high"] sp_beyond := by
  obtain ⟨f, fd, F, hm⟩ := T.f_is_beyond
  have nd := sc_is_beyond.nd
  refine F.def_ hm (F.ok sc_is_beyond (fun vs H Q E h => ?_) (fun cdv A outer s H vs Q E hr h => ?_)) (F.binds fun _ _ _ _ _ _ us hl => by obtain ⟨_, _, _, _, rfl⟩ := L2.lq4 hl; rfl)
  · obtain ⟨v, n, t, b, rfl, _⟩ := h; rfl
  · obtain ⟨v, n, t, b, rfl, cm, q⟩ := h
    refine ⟨_, (pss_cons (ps_if (pt_val (pv 3))
        (pss_one (ps_ret (pe_cmpR op_gt (pe_op op_mulB (pv 0) (pv 1)) (pv 2) (nomark _))))
        pss_nil)
      (pss_one (ps_ret (pe_cmpR op_lt (pe_op op_mulB (pv 0) (pv 1)) (pv 2) (nomark _))))), ?_⟩
    cases b with
    | true => exact ⟨_, rfl, _, rfl, iteT ⟨_, rfl, _, rfl, _, _, rfl, rfl, cm, _, rfl, _, _, rfl, rfl, q⟩⟩
    | false => exact ⟨_, rfl, _, rfl, iteF ⟨_, rfl, _, rfl, _, _, rfl, rfl, cm, _, rfl, _, _, rfl, rfl, q⟩⟩
theorem D_mean_end (T : Txt K mg C_Measure C_HowMany C_Total C_Least C_Greatest C_Mean C_BookError C_NoAsk C_NoAnswer) : DefOk P w K mg base 3 "mean_end" ["known", "runs", "high"] sp_meanend := by
  obtain ⟨f, fd, F, hm⟩ := T.f_mean_end
  have nd := sc_mean_end.nd
  refine F.def_ hm (F.ok sc_mean_end (fun vs H Q E h => ?_) (fun cdv A outer s H vs Q E hr h => ?_)) (F.binds fun _ _ _ _ _ _ us hl => by obtain ⟨_, _, _, rfl⟩ := L2.lq3 hl; rfl)
  · obtain ⟨l, r, xs, ys, hs, rs, b, rfl, _⟩ := h; rfl
  · obtain ⟨l, r, xs, ys, hs, rs, b, rfl, hl, hp, ok, hr0, py, lr, hrb, hne, q⟩ := h
    have hn := ok.1
    have hyl := py.length
    refine ⟨_, (pss_cons (ps_set (i := 3) nd rfl (Or.inl rfl) (pe_fn (D_many_of T) (hr.mono (by decide)) rfl (pa_cons (pv 0) pa_nil)))
      (pss_cons (ps_set (i := 4) nd rfl (Or.inl rfl) (pe_fn (D_total_of T) (hr.mono (by decide)) rfl (pa_cons (pv 0) pa_nil)))
      (pss_cons (ps_for PassesOwn.never rfl (pi_list (pv 1)) (pg_tup rfl (pgs_cons (pg_name (i := 5) nd rfl (Or.inl rfl)) (pgs_cons (pg_name (i := 6) nd rfl (Or.inl rfl)) pgs_nil)))
        (pss_one (ps_if (PW.pt (pw_or (pt_cmpR op_eq (pv 3) pe_int (nomark _)) (pw_or1 (pt_val (pe_fn (D_is_beyond T) (hr.mono (by decide)) rfl (pa_cons (pv 5) (pa_cons (pv 3) (pa_cons (pv 4) (pa_cons (pv 2) pa_nil)))))))))
        (pss_cons (ps_aug (i := 3) nd rfl (Or.inl rfl) (pv 6) iop_add)
      (pss_one (ps_aug (i := 4) nd rfl (Or.inl rfl) (pe_op op_mulB (pv 5) (pv 6)) iop_add)))
        pss_nil)))
      (pss_one (ps_ret (pe_fn (D_lowest_terms T) (hr.mono (by decide)) rfl (pa_cons (pv 4) (pa_cons (pv 3) pa_nil)))))))), ?_⟩
    refine ⟨_, rfl, l, xs, hs, rfl, hl, hp, by omega, fun H1 s1 => ?_⟩
    refine ⟨_, rfl, l, xs, hs, rfl, s1 _ _ hl, hp.same s1, by omega, fun H2 s2 => ?_⟩
    have s12 := s1.trans s2
    have hr2 := s12 _ _ hr0
    have py2 := py.same s12
    refine ⟨_, rfl, r, rfl, ⟨_, SqL.of hr2⟩, for_list (xs := ys) (fun i σ H' => H' = H2 ∧ ∃ v w, σ = [some (.ref l), some (.ref r), some (.bl b), some (.int (mE b hs (rs.take i)).1), some (.int (mE b hs (rs.take i)).2), v, w]) ⟨rfl, none, none, rfl⟩ (fun i σ H' _ h' => by rw [h'.1]; exact SqL.of hr2) ?_ ?_⟩
    · rintro i x σ H' hi ⟨rfl, v, w, rfl⟩
      obtain ⟨p, hpi, a, rfl, ha⟩ := py2.get hi
      have hil : i < rs.length := (List.getElem?_eq_some_iff.mp hpi).1
      obtain ⟨c0, c1, c2⟩ := mE_b (b := b) ok hrb i (by omega)
      have rb := hrb p (List.mem_of_getElem? hpi)
      have es : mE b hs (rs.take (i + 1)) = mStep b (mE b hs (rs.take i)) p := by
        unfold mE
        rw [takeN rs i _ hpi, List.foldl_append]; rfl
      unfold RB at rb
      rw [es]
      generalize mE b hs (rs.take i) = s at c0 c1 c2 ⊢
      have cm : CMulB p.1 s.1 := by unfold CMulB; omega
      have cm2 : CMulB p.1 p.2 := by unfold CMulB; omega
      refine ⟨a, _, rfl, SqT.of ha, rfl, _, _, rfl, _, _, rfl, rfl, ?_⟩
      refine condJ2 (decide (s.1 = 0) || (if b = true then decide (s.2 < p.1 * s.1) else decide (p.1 * s.1 < s.2))) (fun Q hQ => ?_) (fun z => ?_) fun z => ?_
      · refine ⟨_, rfl, rfl, _, rfl, ite2 (fun z => ?_) fun z => ?_⟩
        · have z2 : s.1 = 0 := V.int.inj (of_decide_eq_true z)
          rw [decide_eq_true z2, Bool.true_or] at hQ
          exact hQ
        · have z2 : ¬ s.1 = 0 := fun e => z (decide_eq_true (congrArg V.int e))
          rw [decide_eq_false z2, Bool.false_or] at hQ
          exact ⟨_, rfl, _, rfl, _, rfl, _, rfl, p.1, s.1, s.2, b, rfl, cm, _, rfl, hQ⟩
      · have em : mStep b s p = (s.1 + p.2, s.2 + p.1 * p.2) := by
          unfold mStep
          rw [if_pos]
          rcases Bool.or_eq_true_iff.mp z with z1 | z1
          · exact .inl (of_decide_eq_true z1)
          · exact .inr z1
        rw [em]
        refine ⟨_, rfl, _, rfl, _, _, rfl, rfl, ?_⟩
        refine ⟨_, rfl, _, rfl, _, rfl, _, _, rfl, rfl, cm2, _, _, rfl, rfl, ?_⟩
        exact ⟨rfl, _, _, rfl⟩
      · have em : mStep b s p = s := by
          unfold mStep
          rw [if_neg]
          intro y
          apply z
          rcases y with y | y
          · rw [decide_eq_true y]; rfl
          · rw [y, Bool.or_true]
        rw [em]
        exact ⟨rfl, _, _, rfl⟩
    · rintro σ H' ⟨rfl, v, w, rfl⟩
      rw [hyl, List.take_length]
      obtain ⟨c0, c1, c2⟩ := mE_b (b := b) ok hrb rs.length (Nat.le_refl _)
      rw [List.take_length] at c0 c1 c2
      have c2 := c2 (hne.imp id fun z => List.length_pos_iff.mpr z)
      refine ⟨_, rfl, _, rfl, (mE b hs rs).2, (mE b hs rs).1, rfl, c2, by omega, fun p x y H3 n3 lo => ?_⟩
      exact q p x y H3 (s12.trans n3.same) n3.at_ lo
end
section
variable {P : Program} {w : World} {K : PySem.W.Frag} {mg : Str → Option Value} {base : Heap} {C_Measure C_HowMany C_Total C_Least C_Greatest C_Mean C_BookError C_NoAsk C_NoAnswer : Addr}
theorem condQ {C : TT} {F REST : TS} {D : Ends} {σ : St} {H : Hp} (c : Bool) (hC : ∀ Q : Bool → Hp → Prop, Q c H → C σ H Q) (h1 : c = true → F { D with nx := REST D } σ H) (h2 : ¬ c = true → REST D σ H) : tSeq (tIfS C F tNext) REST D σ H := hC _ (ite2 h1 h2)
theorem lc_pairsG {K : PySem.W.Frag} {l : Addr} {xs : List V} {rs : List (Int × Int)} {tc : TT} {te : TE} {Q : VK} {σ : St} {H : Hp} (c : Int × Int → Bool) (f : Int × Int → Int) (hl : H l = some (.lst xs)) (hp : Pairs H xs rs) (hz : rs.length ≤ 200)
    (ht : ∀ p ∈ rs, ∀ Q' : Bool → Hp → Prop, Q' (c p) H → tc ((σ.set 0 (some (.int p.1))).set 1 (some (.int p.2))) H Q')
    (hs : ∀ p ∈ rs, ∀ Q' : VK, Q' (.int (f p)) H → te ((σ.set 0 (some (.int p.1))).set 1 (some (.int p.2))) H Q')
    (hd : ∀ a H', New H H' a (.lst (((rs.filter c).map f).map V.int)) → Q (.ref a) H') : lcGoal (Itl K l) Q (gTup K 2 (gCons (gName 0) (gCons (gName 1) gNil))) tc te σ H := by
  have hlen := hp.length
  refine lc_listN (xs := xs) (fun i ys H2 => H2 = H ∧ ys = (((rs.take i).filter c).map f).map V.int) (Nat.le_of_lt (small1000 (by omega))) ⟨rfl, rfl⟩ (fun i ys H2 h2 => ⟨SqL.of (by rw [h2.1]; exact hl), ?_⟩) ?_ ?_
  · rw [h2.2, List.length_map, List.length_map]
    exact Nat.le_trans (List.length_filter_le _ _) (by rw [List.length_take]; omega)
  · rintro i x ys H2 hi ⟨rfl, rfl⟩
    obtain ⟨p, hpi, a, rfl, ha⟩ := hp.get hi
    have hm := List.mem_of_getElem? hpi
    refine ⟨a, _, rfl, SqT.of ha, rfl, _, _, rfl, _, _, rfl, rfl, ht p hm _ (ite2 (fun z => ?_) fun z => ?_)⟩
    · refine hs p hm _ ⟨rfl, ?_⟩
      rw [takeN rs i p hpi, List.filter_append, List.map_append, List.map_append]
      simp [z]
    · refine ⟨rfl, ?_⟩
      rw [takeN rs i p hpi, List.filter_append, List.map_append, List.map_append]
      simp [z]
  · rintro ys H2 a H' ⟨rfl, rfl⟩ n
    rw [hlen, List.take_length] at n
    exact hd a H' n
def sN (c : Int × Int → Bool) (rs : List (Int × Int)) : Int := ((rs.filter c).map fun p => p.1 * p.2).sum
def negC (p : Int × Int) : Bool := decide (p.1 < 0)
def posC (p : Int × Int) : Bool := decide (0 < p.1)
def MinL (hs : List HP4) (z : Int) : Prop := z ∈ hs.map (fun h => h.2.2.1) ∧ ∀ x ∈ hs.map (fun h => h.2.2.1), z ≤ x
def MaxG (hs : List HP4) (z : Int) : Prop := z ∈ hs.map (fun h => h.2.2.2) ∧ ∀ x ∈ hs.map (fun h => h.2.2.2), x ≤ z
def ToldAt (H : Hp) (k : Nat) (hs ps : List HP4) (x y : V) : Prop := match k with
  | 0 => x = .int (mN hs) ∧ y = .int (mN hs + mN ps)
  | 1 => ∃ rs : List (Int × Int), rs.Perm (wAll ps) ∧ x = .int (mT hs + sN negC rs) ∧ y = .int (mT hs + sN posC rs)
  | 2 => (hs = [] ∧ ps = [] ∧ x = .non ∧ y = .non) ∨ ∃ a b, x = .int a ∧ y = .int b ∧ MinL (hs ++ ps) a ∧ (hs = [] → MaxG ps b) ∧ (hs ≠ [] → MinL hs b)
  | 3 => (hs = [] ∧ ps = [] ∧ x = .non ∧ y = .non) ∨ ∃ a b, x = .int a ∧ y = .int b ∧ MaxG (hs ++ ps) b ∧ (hs = [] → MinL ps a) ∧ (hs ≠ [] → MaxG hs a)
  | _ => (hs = [] ∧ ps = [] ∧ x = .non ∧ y = .non) ∨ ∃ (p q : Addr) (rs : List (Int × Int)) (a b c d : Int), x = .ref p ∧ y = .ref q ∧ H p = some (.tup [.int a, .int b]) ∧ H q = some (.tup [.int c, .int d]) ∧ rs.Perm (wAll ps) ∧ Rises rs ∧ (hs ≠ [] ∨ rs ≠ []) ∧ Low a b (mE false hs rs).2 (mE false hs rs).1 ∧ Low c d (mE true hs rs.reverse).2 (mE true hs rs.reverse).1
def sp_toldG (k : Nat) : Sp := fun vs H Q _ => ∃ (me l p : Addr) (xs ys : List V) (hs ps : List HP4), vs = [.ref me, .ref l, .ref p] ∧ H l = some (.lst xs) ∧ Tups H xs (hs.map j4) ∧ HsOk hs ∧ H p = some (.lst ys) ∧ Tups H ys (ps.map j4) ∧ PsOk ps ∧ ∀ t x y H', Same H H' → H' t = some (.tup [x, y]) → ToldAt H' k hs ps x y → Q (.ref t) H'
theorem Tups.app {H : Hp} : ∀ {xs ys : List V} {as bs : List (List Int)}, Tups H xs as → Tups H ys bs → Tups H (xs ++ ys) (as ++ bs)
  | _, _, _, _, .nil, h => h
  | _, _, _, _, .cons r t, h => .cons r (Tups.app t h)
theorem PsOk.rb {ps : List HP4} (ok : PsOk ps) : ∀ p ∈ wAll ps, RB p := by
  intro p hp
  obtain ⟨h, hh, hw⟩ := List.mem_flatMap.mp hp
  obtain ⟨cb, hb⟩ := ok.2.2 h hh
  have hm := ok.2.1.2 h hh
  have W := WRow.of cb
  obtain ⟨i, hi⟩ := List.mem_iff_getElem?.mp hw
  have := W.ok hi
  unfold HBd at hb
  unfold RB
  omega
theorem D_HowMany_told (T : Txt K mg C_Measure C_HowMany C_Total C_Least C_Greatest C_Mean C_BookError C_NoAsk C_NoAnswer) : MetOk P w K mg base C_HowMany 2 "told" ["self", "known", "parts"] (sp_toldG 0) := by
  obtain ⟨f, fd, F, hm⟩ := T.f_HowMany_told
  have nd := sc_HowMany_told.nd
  refine ⟨f, fd, (F.ok sc_HowMany_told (fun vs H Q E h => ?_) (fun cdv A outer s H vs Q E hr h => ?_)), hm, (F.binds fun _ _ _ _ _ _ us hl => by obtain ⟨_, _, _, rfl⟩ := L2.lq3 hl; rfl)⟩
  · obtain ⟨me, l, p, xs, ys, hs, ps, rfl, _⟩ := h; rfl
  · obtain ⟨me, l, p, xs, ys, hs, ps, rfl, hl, hp, ok, hp0, tp, pok, q⟩ := h
    have hn := ok.1
    have hm := pok.2.1.1
    refine ⟨_, (pss_cons (ps_set (i := 3) nd rfl (Or.inl rfl) (pe_fn (D_many_of T) (hr.mono (by decide)) rfl (pa_cons (pv 1) pa_nil)))
      (pss_one (ps_ret (pe_tupN (pa_cons (pv 3) (pa_cons (pe_op op_add (pv 3) (pe_fn (D_many_of T) (hr.mono (by decide)) rfl (pa_cons (pv 2) pa_nil))) pa_nil)))))), ?_⟩
    refine ⟨_, rfl, l, xs, hs, rfl, hl, hp, by omega, fun H1 s1 => ?_⟩
    refine ⟨_, rfl, _, rfl, _, rfl, p, ys, ps, rfl, s1 _ _ hp0, tp.same s1, by omega, fun H2 s2 => ?_⟩
    refine ⟨_, _, rfl, rfl, by show 2 ≤ sizeLine; decide, fun t H3 n3 => ?_⟩
    exact q t _ _ H3 (s1.trans (s2.trans n3.same)) n3.at_ ⟨rfl, rfl⟩
theorem D_Total_told (T : Txt K mg C_Measure C_HowMany C_Total C_Least C_Greatest C_Mean C_BookError C_NoAsk C_NoAnswer) : MetOk P w K mg base C_Total 3 "told" ["self", "known", "parts"] (sp_toldG 1) := by
  obtain ⟨f, fd, F, hm⟩ := T.f_Total_told
  have nd := sc_Total_told.nd
  refine ⟨f, fd, (F.ok sc_Total_told (fun vs H Q E h => ?_) (fun cdv A outer s H vs Q E hr h => ?_)), hm, (F.binds fun _ _ _ _ _ _ us hl => by obtain ⟨_, _, _, rfl⟩ := L2.lq3 hl; rfl)⟩
  · obtain ⟨me, l, p, xs, ys, hs, ps, rfl, _⟩ := h; rfl
  · obtain ⟨me, l, p, xs, ys, hs, ps, rfl, hl, hp, ok, hp0, tp, pok, q⟩ := h
    have hn := ok.1
    refine ⟨_, (pss_cons (ps_set (i := 3) nd rfl (Or.inl rfl) (pe_fn (D_widest_runs T) (hr.mono (by decide)) rfl (pa_cons (pv 2) pa_nil)))
      (pss_cons (ps_set (i := 4) nd rfl (Or.inl rfl) (pe_fn (D_total_of T) (hr.mono (by decide)) rfl (pa_cons (pv 1) pa_nil)))
      (pss_cons (ps_set (i := 5) nd rfl (Or.inl rfl) (pe_callB (call_sum rfl) rfl T.b_sum bt_sum (pa_cons (pe_lc (vars := ["value", "many"]) (frees := []) (fv := []) rfl (lcOk rfl rfl (by decide +kernel) (by decide +kernel) (by intro p hp; cases hp) rfl) trivial (pi_list (pv 3)) (gk_pair (by decide) (by decide)) (fun _ _ _ _ => (pg_tup rfl (pgs_cons (pg_name (i := 0) (show (["value", "many"] : List Str).Nodup by decide +kernel) rfl (Or.inl rfl)) (pgs_cons (pg_name (i := 1) (show (["value", "many"] : List Str).Nodup by decide +kernel) rfl (Or.inl rfl)) pgs_nil)))) (fun _ _ _ _ => (pif_one (pt_cmpR op_lt (pv 0) pe_int (nomark _)))) (fun _ _ _ _ => (pe_op op_mulB (pv 0) (pv 1)))) pa_nil)))
      (pss_cons (ps_set (i := 6) nd rfl (Or.inl rfl) (pe_callB (call_sum rfl) rfl T.b_sum bt_sum (pa_cons (pe_lc (vars := ["value", "many"]) (frees := []) (fv := []) rfl (lcOk rfl rfl (by decide +kernel) (by decide +kernel) (by intro p hp; cases hp) rfl) trivial (pi_list (pv 3)) (gk_pair (by decide) (by decide)) (fun _ _ _ _ => (pg_tup rfl (pgs_cons (pg_name (i := 0) (show (["value", "many"] : List Str).Nodup by decide +kernel) rfl (Or.inl rfl)) (pgs_cons (pg_name (i := 1) (show (["value", "many"] : List Str).Nodup by decide +kernel) rfl (Or.inl rfl)) pgs_nil)))) (fun _ _ _ _ => (pif_one (pt_cmpR op_gt (pv 0) pe_int (nomark _)))) (fun _ _ _ _ => (pe_op op_mulB (pv 0) (pv 1)))) pa_nil)))
      (pss_one (ps_ret (pe_tupN (pa_cons (pe_op op_add (pv 4) (pv 5)) (pa_cons (pe_op op_add (pv 4) (pv 6)) pa_nil))))))))), ?_⟩
    refine ⟨_, rfl, p, ys, ps, rfl, hp0, tp, pok, fun r zs rs H1 s1 hr1 pr pm _ => ?_⟩
    have lrs : rs.length < 64 := by rw [pm.length_eq]; exact pok.1
    have mulB : ∀ p ∈ rs, CMulB p.1 p.2 := fun p hp => by
      have := pok.rb p (pm.mem_iff.mp hp)
      unfold RB at this
      unfold CMulB
      omega
    refine ⟨_, rfl, l, xs, hs, rfl, s1 _ _ hl, hp.same s1, by omega, fun H2 s2 => ?_⟩
    have hr2 := s2 _ _ hr1
    have pr2 := pr.same s2
    refine ⟨_, rfl, r, rfl, ⟨_, SqL.of hr2⟩, lc_pairsG negC (fun p => p.1 * p.2) hr2 pr2 (by omega) (fun p _ Q' hq => ⟨_, rfl, _, _, rfl, rfl, _, rfl, hq⟩) (fun p hp Q' hq => ⟨_, rfl, _, rfl, _, _, rfl, rfl, mulB p hp, hq⟩) fun a3 H3 n3 => ⟨a3, _, rfl, SqL.of n3.at_, ?_⟩⟩
    have hr3 := n3.same _ _ hr2
    have pr3 := pr2.same n3.same
    refine ⟨_, rfl, r, rfl, ⟨_, SqL.of hr3⟩, lc_pairsG posC (fun p => p.1 * p.2) hr3 pr3 (by omega) (fun p _ Q' hq => ⟨_, rfl, _, _, rfl, rfl, _, rfl, hq⟩) (fun p hp Q' hq => ⟨_, rfl, _, rfl, _, _, rfl, rfl, mulB p hp, hq⟩) fun a4 H4 n4 => ⟨a4, _, rfl, SqL.of n4.at_, ?_⟩⟩
    refine ⟨_, rfl, _, rfl, _, _, rfl, rfl, _, rfl, _, rfl, _, _, rfl, rfl, by show 2 ≤ sizeLine; decide, fun t H5 n5 => ?_⟩
    exact q t _ _ H5 (s1.trans (s2.trans (n3.same.trans (n4.same.trans n5.same)))) n5.at_ ⟨rs, pm, rfl, rfl⟩
theorem D_Least_told (T : Txt K mg C_Measure C_HowMany C_Total C_Least C_Greatest C_Mean C_BookError C_NoAsk C_NoAnswer) : MetOk P w K mg base C_Least 2 "told" ["self", "known", "parts"] (sp_toldG 2) := by
  obtain ⟨f, fd, F, hm⟩ := T.f_Least_told
  have nd := sc_Least_told.nd
  refine ⟨f, fd, (F.ok sc_Least_told (fun vs H Q E h => ?_) (fun cdv A outer s H vs Q E hr h => ?_)), hm, (F.binds fun _ _ _ _ _ _ us hl => by obtain ⟨_, _, _, rfl⟩ := L2.lq3 hl; rfl)⟩
  · obtain ⟨me, l, p, xs, ys, hs, ps, rfl, _⟩ := h; rfl
  · obtain ⟨me, l, p, xs, ys, hs, ps, rfl, hl, hp, ok, hp0, tp, pok, q⟩ := h
    have hn := ok.1
    have hm := pok.2.1.1
    have hxl : xs.length = hs.length := by rw [hp.length, List.length_map]
    have hyl : ys.length = ps.length := by rw [tp.length, List.length_map]
    refine ⟨_, (pss_cons (ps_if (PW.pt (pw_and (pt_cmpR op_eq (pe_callB call_len_seq rfl T.b_len bt_len (pa_cons (pv 1) pa_nil)) pe_int (nomark _)) (pw_and1 (pt_cmpR op_eq (pe_callB call_len_seq rfl T.b_len bt_len (pa_cons (pv 2) pa_nil)) pe_int (nomark _)))))
        (pss_one (ps_ret (pe_tupN (pa_cons pe_non (pa_cons pe_non pa_nil)))))
        pss_nil)
      (pss_cons (ps_set (i := 3) nd rfl (Or.inl rfl) (pe_fn (D_least_of_all T) (hr.mono (by decide)) rfl (pa_cons (pe_op op_catN (pv 1) (pv 2)) pa_nil)))
      (pss_cons (ps_set (i := 4) nd rfl (Or.inl rfl) (pe_ifExp (pt_cmpR op_eq (pe_callB call_len_seq rfl T.b_len bt_len (pa_cons (pv 1) pa_nil)) pe_int (nomark _)) (pe_fn (D_greatest_of_all T) (hr.mono (by decide)) rfl (pa_cons (pv 2) pa_nil)) (pe_fn (D_least_of_all T) (hr.mono (by decide)) rfl (pa_cons (pv 1) pa_nil))))
      (pss_one (ps_ret (pe_tupN (pa_cons (pv 3) (pa_cons (pv 4) pa_nil)))))))), ?_⟩
    refine condQ (decide (xs.length = 0) && decide (ys.length = 0)) (fun Q hQ => ?_) (fun z => ?_) fun z => ?_
    · refine ⟨_, rfl, l, xs, rfl, .inl (SqL.of hl), rfl, _, rfl, ite2 (fun z => ?_) fun z => ?_⟩
      · have z2 : xs.length = 0 := by simpa using z
        rw [decide_eq_true z2, Bool.true_and] at hQ
        refine ⟨_, rfl, p, ys, rfl, .inl (SqL.of hp0), rfl, _, rfl, ?_⟩
        have e : decide (V.int (ys.length : Int) = V.int 0) = decide (ys.length = 0) := by
          rw [Bool.eq_iff_iff]; simp
        rw [e]; exact hQ
      · have z2 : ¬ xs.length = 0 := by simpa using z
        rw [decide_eq_false z2, Bool.false_and] at hQ
        exact hQ
    · rw [Bool.and_eq_true, decide_eq_true_eq, decide_eq_true_eq] at z
      have e1 : hs = [] := List.length_eq_zero_iff.mp (by omega)
      have e2 : ps = [] := List.length_eq_zero_iff.mp (by omega)
      exact ⟨by show 2 ≤ sizeLine; decide, fun t H1 n1 => q t _ _ H1 n1.same n1.at_ (.inl ⟨e1, e2, rfl, rfl⟩)⟩
    have zz : ¬ (xs.length = 0 ∧ ys.length = 0) := fun y => z (by rw [decide_eq_true y.1, decide_eq_true y.2]; rfl)
    have hne : hs ++ ps ≠ [] := fun e => by
      have := congrArg List.length e
      rw [List.length_append, List.length_nil] at this
      omega
    refine ⟨_, rfl, _, rfl, l, p, xs, ys, rfl, rfl, hl, hp0, Nat.le_of_lt (small1000 (by omega)), fun c H1 n1 => ?_⟩
    refine ⟨c, xs ++ ys, hs ++ ps, rfl, n1.at_, by rw [List.map_append]; exact (Tups.app hp tp).same n1.same, by rw [List.length_append]; omega, hne, fun a H2 s2 a1 a2 => ?_⟩
    have s12 := n1.same.trans s2
    refine ⟨_, rfl, l, xs, rfl, .inl (SqL.of (s12 _ _ hl)), rfl, _, rfl, ite2 (fun y => ?_) fun y => ?_⟩
    · have y2 : xs.length = 0 := by simpa using y
      have e1 : hs = [] := List.length_eq_zero_iff.mp (by omega)
      have e2 : ps ≠ [] := fun e => zz ⟨y2, by rw [hyl, e]; rfl⟩
      refine ⟨_, rfl, p, ys, ps, rfl, s12 _ _ hp0, tp.same s12, by omega, e2, fun b H3 s3 b1 b2 => ?_⟩
      exact ⟨_, rfl, _, rfl, by show 2 ≤ sizeLine; decide, fun t H4 n4 => q t _ _ H4 (s12.trans (s3.trans n4.same)) n4.at_ (.inr ⟨a, b, rfl, rfl, ⟨a1, a2⟩, fun _ => ⟨b1, b2⟩, fun z => absurd e1 z⟩)⟩
    · have y2 : ¬ xs.length = 0 := by simpa using y
      have e1 : hs ≠ [] := fun e => y2 (by rw [hxl, e]; rfl)
      refine ⟨_, rfl, l, xs, hs, rfl, s12 _ _ hl, hp.same s12, by omega, e1, fun b H3 s3 b1 b2 => ?_⟩
      exact ⟨_, rfl, _, rfl, by show 2 ≤ sizeLine; decide, fun t H4 n4 => q t _ _ H4 (s12.trans (s3.trans n4.same)) n4.at_ (.inr ⟨a, b, rfl, rfl, ⟨a1, a2⟩, fun z => absurd z e1, fun _ => ⟨b1, b2⟩⟩)⟩
theorem D_Greatest_told (T : Txt K mg C_Measure C_HowMany C_Total C_Least C_Greatest C_Mean C_BookError C_NoAsk C_NoAnswer) : MetOk P w K mg base C_Greatest 2 "told" ["self", "known", "parts"] (sp_toldG 3) := by
  obtain ⟨f, fd, F, hm⟩ := T.f_Greatest_told
  have nd := sc_Greatest_told.nd
  refine ⟨f, fd, (F.ok sc_Greatest_told (fun vs H Q E h => ?_) (fun cdv A outer s H vs Q E hr h => ?_)), hm, (F.binds fun _ _ _ _ _ _ us hl => by obtain ⟨_, _, _, rfl⟩ := L2.lq3 hl; rfl)⟩
  · obtain ⟨me, l, p, xs, ys, hs, ps, rfl, _⟩ := h; rfl
  · obtain ⟨me, l, p, xs, ys, hs, ps, rfl, hl, hp, ok, hp0, tp, pok, q⟩ := h
    have hn := ok.1
    have hm := pok.2.1.1
    have hxl : xs.length = hs.length := by rw [hp.length, List.length_map]
    have hyl : ys.length = ps.length := by rw [tp.length, List.length_map]
    refine ⟨_, (pss_cons (ps_if (PW.pt (pw_and (pt_cmpR op_eq (pe_callB call_len_seq rfl T.b_len bt_len (pa_cons (pv 1) pa_nil)) pe_int (nomark _)) (pw_and1 (pt_cmpR op_eq (pe_callB call_len_seq rfl T.b_len bt_len (pa_cons (pv 2) pa_nil)) pe_int (nomark _)))))
        (pss_one (ps_ret (pe_tupN (pa_cons pe_non (pa_cons pe_non pa_nil)))))
        pss_nil)
      (pss_cons (ps_set (i := 3) nd rfl (Or.inl rfl) (pe_ifExp (pt_cmpR op_eq (pe_callB call_len_seq rfl T.b_len bt_len (pa_cons (pv 1) pa_nil)) pe_int (nomark _)) (pe_fn (D_least_of_all T) (hr.mono (by decide)) rfl (pa_cons (pv 2) pa_nil)) (pe_fn (D_greatest_of_all T) (hr.mono (by decide)) rfl (pa_cons (pv 1) pa_nil))))
      (pss_cons (ps_set (i := 4) nd rfl (Or.inl rfl) (pe_fn (D_greatest_of_all T) (hr.mono (by decide)) rfl (pa_cons (pe_op op_catN (pv 1) (pv 2)) pa_nil)))
      (pss_one (ps_ret (pe_tupN (pa_cons (pv 3) (pa_cons (pv 4) pa_nil)))))))), ?_⟩
    refine condQ (decide (xs.length = 0) && decide (ys.length = 0)) (fun Q hQ => ?_) (fun z => ?_) fun z => ?_
    · refine ⟨_, rfl, l, xs, rfl, .inl (SqL.of hl), rfl, _, rfl, ite2 (fun z => ?_) fun z => ?_⟩
      · have z2 : xs.length = 0 := by simpa using z
        rw [decide_eq_true z2, Bool.true_and] at hQ
        refine ⟨_, rfl, p, ys, rfl, .inl (SqL.of hp0), rfl, _, rfl, ?_⟩
        have e : decide (V.int (ys.length : Int) = V.int 0) = decide (ys.length = 0) := by
          rw [Bool.eq_iff_iff]; simp
        rw [e]; exact hQ
      · have z2 : ¬ xs.length = 0 := by simpa using z
        rw [decide_eq_false z2, Bool.false_and] at hQ
        exact hQ
    · rw [Bool.and_eq_true, decide_eq_true_eq, decide_eq_true_eq] at z
      have e1 : hs = [] := List.length_eq_zero_iff.mp (by omega)
      have e2 : ps = [] := List.length_eq_zero_iff.mp (by omega)
      exact ⟨by show 2 ≤ sizeLine; decide, fun t H1 n1 => q t _ _ H1 n1.same n1.at_ (.inl ⟨e1, e2, rfl, rfl⟩)⟩
    have zz : ¬ (xs.length = 0 ∧ ys.length = 0) := fun y => z (by rw [decide_eq_true y.1, decide_eq_true y.2]; rfl)
    have hne : hs ++ ps ≠ [] := fun e => by
      have := congrArg List.length e
      rw [List.length_append, List.length_nil] at this
      omega
    refine ⟨_, rfl, l, xs, rfl, .inl (SqL.of hl), rfl, _, rfl, ite2 (fun y => ?_) fun y => ?_⟩
    · have y2 : xs.length = 0 := by simpa using y
      have e1 : hs = [] := List.length_eq_zero_iff.mp (by omega)
      have e2 : ps ≠ [] := fun e => zz ⟨y2, by rw [hyl, e]; rfl⟩
      refine ⟨_, rfl, p, ys, ps, rfl, hp0, tp, by omega, e2, fun a H1 s1 a1 a2 => ?_⟩
      refine ⟨_, rfl, _, rfl, l, p, xs, ys, rfl, rfl, s1 _ _ hl, s1 _ _ hp0, Nat.le_of_lt (small1000 (by omega)), fun c H2 n2 => ?_⟩
      refine ⟨c, xs ++ ys, hs ++ ps, rfl, n2.at_, by rw [List.map_append]; exact (Tups.app hp tp).same (s1.trans n2.same), by rw [List.length_append]; omega, hne, fun b H3 s3 b1 b2 => ?_⟩
      exact ⟨_, rfl, _, rfl, by show 2 ≤ sizeLine; decide, fun t H4 n4 => q t _ _ H4 (s1.trans (n2.same.trans (s3.trans n4.same))) n4.at_ (.inr ⟨a, b, rfl, rfl, ⟨b1, b2⟩, fun _ => ⟨a1, a2⟩, fun z => absurd e1 z⟩)⟩
    · have y2 : ¬ xs.length = 0 := by simpa using y
      have e1 : hs ≠ [] := fun e => y2 (by rw [hxl, e]; rfl)
      refine ⟨_, rfl, l, xs, hs, rfl, hl, hp, by omega, e1, fun a H1 s1 a1 a2 => ?_⟩
      refine ⟨_, rfl, _, rfl, l, p, xs, ys, rfl, rfl, s1 _ _ hl, s1 _ _ hp0, Nat.le_of_lt (small1000 (by omega)), fun c H2 n2 => ?_⟩
      refine ⟨c, xs ++ ys, hs ++ ps, rfl, n2.at_, by rw [List.map_append]; exact (Tups.app hp tp).same (s1.trans n2.same), by rw [List.length_append]; omega, hne, fun b H3 s3 b1 b2 => ?_⟩
      exact ⟨_, rfl, _, rfl, by show 2 ≤ sizeLine; decide, fun t H4 n4 => q t _ _ H4 (s1.trans (n2.same.trans (s3.trans n4.same))) n4.at_ (.inr ⟨a, b, rfl, rfl, ⟨b1, b2⟩, fun z => absurd z e1, fun _ => ⟨a1, a2⟩⟩)⟩
theorem D_Mean_told (T : Txt K mg C_Measure C_HowMany C_Total C_Least C_Greatest C_Mean C_BookError C_NoAsk C_NoAnswer) : MetOk P w K mg base C_Mean 4 "told" ["self", "known", "parts"] (sp_toldG 4) := by
  obtain ⟨f, fd, F, hm⟩ := T.f_Mean_told
  have nd := sc_Mean_told.nd
  refine ⟨f, fd, (F.ok sc_Mean_told (fun vs H Q E h => ?_) (fun cdv A outer s H vs Q E hr h => ?_)), hm, (F.binds fun _ _ _ _ _ _ us hl => by obtain ⟨_, _, _, rfl⟩ := L2.lq3 hl; rfl)⟩
  · obtain ⟨me, l, p, xs, ys, hs, ps, rfl, _⟩ := h; rfl
  · obtain ⟨me, l, p, xs, ys, hs, ps, rfl, hl, hp, ok, hp0, tp, pok, q⟩ := h
    have hn := ok.1
    have hm := pok.2.1.1
    have hxl : xs.length = hs.length := by rw [hp.length, List.length_map]
    have hyl : ys.length = ps.length := by rw [tp.length, List.length_map]
    refine ⟨_, (pss_cons (ps_if (PW.pt (pw_and (pt_cmpR op_eq (pe_callB call_len_seq rfl T.b_len bt_len (pa_cons (pv 1) pa_nil)) pe_int (nomark _)) (pw_and1 (pt_cmpR op_eq (pe_callB call_len_seq rfl T.b_len bt_len (pa_cons (pv 2) pa_nil)) pe_int (nomark _)))))
        (pss_one (ps_ret (pe_tupN (pa_cons pe_non (pa_cons pe_non pa_nil)))))
        pss_nil)
      (pss_cons (ps_set (i := 3) nd rfl (Or.inl rfl) (pe_fn (D_widest_runs T) (hr.mono (by decide)) rfl (pa_cons (pv 2) pa_nil)))
      (pss_one (ps_ret (pe_tupN (pa_cons (pe_fn (D_mean_end T) (hr.mono (by decide)) rfl (pa_cons (pv 1) (pa_cons (pv 3) (pa_cons pe_bl pa_nil)))) (pa_cons (pe_fn (D_mean_end T) (hr.mono (by decide)) rfl (pa_cons (pv 1) (pa_cons (pe_listrev rfl rfl T.b_list rfl T.b_reversed (pv 3)) (pa_cons pe_bl pa_nil)))) pa_nil))))))), ?_⟩
    refine condQ (decide (xs.length = 0) && decide (ys.length = 0)) (fun Q hQ => ?_) (fun z => ?_) fun z => ?_
    · refine ⟨_, rfl, l, xs, rfl, .inl (SqL.of hl), rfl, _, rfl, ite2 (fun z => ?_) fun z => ?_⟩
      · have z2 : xs.length = 0 := by simpa using z
        rw [decide_eq_true z2, Bool.true_and] at hQ
        refine ⟨_, rfl, p, ys, rfl, .inl (SqL.of hp0), rfl, _, rfl, ?_⟩
        have e : decide (V.int (ys.length : Int) = V.int 0) = decide (ys.length = 0) := by
          rw [Bool.eq_iff_iff]; simp
        rw [e]; exact hQ
      · have z2 : ¬ xs.length = 0 := by simpa using z
        rw [decide_eq_false z2, Bool.false_and] at hQ
        exact hQ
    · rw [Bool.and_eq_true, decide_eq_true_eq, decide_eq_true_eq] at z
      have e1 : hs = [] := List.length_eq_zero_iff.mp (by omega)
      have e2 : ps = [] := List.length_eq_zero_iff.mp (by omega)
      exact ⟨by show 2 ≤ sizeLine; decide, fun t H1 n1 => q t _ _ H1 n1.same n1.at_ (.inl ⟨e1, e2, rfl, rfl⟩)⟩
    have zz : ¬ (xs.length = 0 ∧ ys.length = 0) := fun y => z (by rw [decide_eq_true y.1, decide_eq_true y.2]; rfl)
    have hne : hs ++ ps ≠ [] := fun e => by
      have := congrArg List.length e
      rw [List.length_append, List.length_nil] at this
      omega
    refine ⟨_, rfl, p, ys, ps, rfl, hp0, tp, pok, fun r zs rs H1 s1 hr1 pr pm rise => ?_⟩
    have lrs : rs.length < 64 := by rw [pm.length_eq]; exact pok.1
    have rb : ∀ p ∈ rs, RB p := fun p hp => pok.rb p (pm.mem_iff.mp hp)
    have hor : hs ≠ [] ∨ rs ≠ [] := by
      by_cases e : hs = []
      · refine .inr fun er => ?_
        rw [er] at pm
        have ew : wAll ps = [] := pm.symm.eq_nil
        cases ps with
        | nil => exact hne (by rw [e]; rfl)
        | cons h t =>
          have hw : wOf h ≠ [] := by
            have W := WRow.of (pok.2.2 h List.mem_cons_self).1
            show wRow _ _ _ _ ≠ []
            intro z
            rw [z] at W
            cases W
          have : wAll (h :: t) = wOf h ++ wAll t := rfl
          rw [this] at ew
          exact hw (List.append_eq_nil_iff.mp ew).1
      · exact .inl e
    refine ⟨_, rfl, _, rfl, l, r, xs, zs, hs, rs, false, rfl, s1 _ _ hl, hp.same s1, ok, hr1, pr, lrs, rb, hor, fun p1 x1 y1 H2 s2 h2 lo2 => ?_⟩
    have s12 := s1.trans s2
    refine ⟨_, rfl, _, rfl, r, zs, rfl, SqL.of (s2 _ _ hr1), fun r2 H3 n3 => ?_⟩
    have s13 := s12.trans n3.same
    refine ⟨l, r2, xs, zs.reverse, hs, rs.reverse, true, rfl, s13 _ _ hl, hp.same s13, ok, n3.at_, (pr.same (s2.trans n3.same)).rev, by rw [List.length_reverse]; exact lrs, (fun p hp => rb p (List.mem_reverse.mp hp)), hor.imp id (fun z e => z (List.reverse_eq_nil_iff.mp e)), fun p2 x2 y2 H4 s4 h4 lo4 => ?_⟩
    exact ⟨by show 2 ≤ sizeLine; decide, fun t H5 n5 => q t _ _ H5 (s13.trans (s4.trans n5.same)) n5.at_ (.inr ⟨p1, p2, rs, x1, y1, x2, y2, rfl, rfl, n5.same _ _ (s4 _ _ (n3.same _ _ h2)), n5.same _ _ h4, pm, rise, hor, lo2, lo4⟩)⟩
end
section
variable {P : Program} {w : World} {K : PySem.W.Frag} {mg : Str → Option Value} {base : Heap} {C_Measure C_HowMany C_Total C_Least C_Greatest C_Mean C_BookError C_NoAsk C_NoAnswer : Addr}
theorem SubR.tb {S G : List (Int × Int)} (h : SubR S G) (rb : ∀ p ∈ G, RB p) : -(G.length * 10 ^ 88 : Int) ≤ rT S ∧ rT S ≤ G.length * 10 ^ 88 := by
  induction h with
  | nil => simp [rT, prds]
  | skip _ ih =>
    have := ih fun q hq => rb q (List.mem_cons_of_mem _ hq)
    rw [List.length_cons]; omega
  | @take S G v c d h1 h2 _ ih =>
    have := ih fun q hq => rb q (List.mem_cons_of_mem _ hq)
    have hb := rb (v, c) List.mem_cons_self
    have hb : (-(10 ^ 45) < v ∧ v < 10 ^ 45) ∧ 1 ≤ c ∧ c < 10 ^ 43 := hb
    have m1 : v * d ≤ 10 ^ 45 * d := Int.mul_le_mul_of_nonneg_right (by omega) (by omega)
    have m2 : -(10 ^ 45) * d ≤ v * d := Int.mul_le_mul_of_nonneg_right (by omega) (by omega)
    rw [List.length_cons, rT_cons]
    dsimp only
    omega
def FrAt (H : Hp) (k : Nat) (v : V) (z n : Int) : Prop := (k < 4 ∧ v = .int z ∧ n = 1) ∨ (k = 4 ∧ ∃ p, v = .ref p ∧ H p = some (.tup [.int z, .int n]) ∧ 1 ≤ n ∧ n < 10 ^ 100 ∧ -(10 ^ 100) < z ∧ z < 10 ^ 100)
theorem FrAt.same {H H' : Hp} (s : Same H H') {k : Nat} {v : V} {z n : Int} (h : FrAt H k v z n) : FrAt H' k v z n :=
  h.imp id fun ⟨e, p, ev, hp, b⟩ => ⟨e, p, ev, s _ _ hp, b⟩
theorem FrAt.pos {H : Hp} {k : Nat} {v : V} {z n : Int} (h : FrAt H k v z n) : 1 ≤ n := by
  rcases h with ⟨_, _, e⟩ | ⟨_, p, _, _, e, _⟩ <;> omega
def LowK (k : Nat) (z n : Int) : Prop := k = 4 → Nat.gcd z.natAbs n.natAbs = 1
structure TF (H : Hp) (k : Nat) (hs ps : List HP4) (x y : V) (z1 n1 z2 n2 : Int) : Prop where
  x : FrAt H k x z1 n1
  y : FrAt H k y z2 n2
  lx : LowK k z1 n1
  ly : LowK k z2 n2
  cx : Can k hs ps z1 n1
  cy : Can k hs ps z2 n2
  w : ∀ z n, 1 ≤ n → Can k hs ps z n → z1 * n ≤ z * n1 ∧ z * n2 ≤ z2 * n
theorem TF.same {H H' : Hp} (s : Same H H') {k : Nat} {hs ps : List HP4} {x y : V} {z1 n1 z2 n2 : Int} (h : TF H k hs ps x y z1 n1 z2 n2) : TF H' k hs ps x y z1 n1 z2 n2 := ⟨h.x.same s, h.y.same s, h.lx, h.ly, h.cx, h.cy, h.w⟩
theorem sumH01 : ∀ rs : List (Int × Int), sumH 0 1 rs = rT (rs.filter posC)
  | [] => rfl
  | p :: r => by
    show hg 0 1 p.1 * p.2 + sumH 0 1 r = _
    rw [sumH01 r]
    by_cases z : 0 < p.1
    · rw [List.filter_cons_of_pos (show posC p = true from decide_eq_true z), rT_cons]
      have : hg 0 1 p.1 = p.1 := by unfold hg; rw [if_pos (by omega)]; omega
      rw [this]
    · rw [List.filter_cons_of_neg (show ¬ posC p = true from fun e => z (of_decide_eq_true e))]
      have : hg 0 1 p.1 = 0 := by unfold hg; rw [if_neg (by omega)]
      rw [this]; omega
theorem sumL01 : ∀ rs : List (Int × Int), sumL 0 1 rs = -rT (rs.filter negC)
  | [] => rfl
  | p :: r => by
    have ih := sumL01 r
    unfold sumL at ih ⊢
    show hg (-0) 1 (-p.1) * p.2 + sumH (-0) 1 (r.map ng) = _
    rw [ih]
    by_cases z : p.1 < 0
    · rw [List.filter_cons_of_pos (show negC p = true from decide_eq_true z), rT_cons]
      have : hg (-0) 1 (-p.1) = -p.1 := by unfold hg; rw [if_pos (by omega)]; omega
      rw [this, Int.neg_mul]; omega
    · rw [List.filter_cons_of_neg (show ¬ negC p = true from fun e => z (of_decide_eq_true e))]
      have : hg (-0) 1 (-p.1) = 0 := by unfold hg; rw [if_neg (by omega)]
      rw [this]; omega
theorem told_can {H : Hp} {k : Nat} {hs ps : List HP4} {x y : V} (hk : k < 5) (ok : HsOk hs) (hl : ∀ h ∈ hs, h.2.2.1 ≤ h.2.2.2) (pok : PsOk ps) (ne : hs ≠ [] ∨ ps ≠ []) (t : ToldAt H k hs ps x y) : ∃ z1 n1 z2 n2, TF H k hs ps x y z1 n1 z2 n2 := by
  have pc : PsC ps := fun h hh => (pok.2.2 h hh).1
  obtain ⟨b0, b1, b2, b3, b4⟩ := ok.b
  have p0 := pok.2.1.b.1
  have hle : ∀ h ∈ hs ++ ps, h.2.2.1 ≤ h.2.2.2 := fun h hh => (List.mem_append.mp hh).elim (hl h) fun z => (pc h z).le
  match k, hk, t with
  | 0, _, ⟨ex, ey⟩ =>
    refine ⟨_, 1, _, 1, .inl ⟨by omega, ex, rfl⟩, .inl ⟨by omega, ey, rfl⟩, (fun z => by omega), (fun z => by omega), ⟨rfl, by omega, by omega⟩, ⟨rfl, by omega, by omega⟩, ?_⟩
    rintro z n _ ⟨rfl, a1, a2⟩
    omega
  | 1, _, ⟨rs, pm, ex, ey⟩ =>
    have wok : ∀ p ∈ rs, 1 ≤ p.2 := fun p hp => wAll_ok pc p (pm.mem_iff.mp hp)
    refine ⟨_, 1, _, 1, .inl ⟨by omega, ex, rfl⟩, .inl ⟨by omega, ey, rfl⟩, (fun z => by omega), (fun z => by omega), ⟨rfl, _, _, Sb.row pc pm (SubR.filter negC wok), rfl⟩, ⟨rfl, _, _, Sb.row pc pm (SubR.filter posC wok), rfl⟩, ?_⟩
    rintro z n _ ⟨rfl, m, t, s, rfl⟩
    have u := s.up 0 1 (by omega)
    have l := s.lo 0 1 (by omega)
    rw [← sumH_perm pm, sumH01] at u
    rw [← sumL_perm pm, sumL01] at l
    have e1 : sN posC rs = rT (rs.filter posC) := rfl
    have e2 : sN negC rs = rT (rs.filter negC) := rfl
    rw [e1, e2]
    omega
  | 2, _, t =>
    rcases t with ⟨e1, e2, _⟩ | ⟨a, b, ex, ey, ma, mb, mc⟩
    · exact absurd ne (by simp [e1, e2])
    obtain ⟨ha, hha, ea⟩ := List.mem_map.mp ma.1
    have ea : ha.2.2.1 = a := ea
    have lea := hle ha hha
    have cy : Can 2 hs ps b 1 := by
      by_cases z : hs = []
      · obtain ⟨g, hg, eg⟩ := List.mem_map.mp (mb z).1
        have eg : g.2.2.2 = b := eg
        have := (pc g hg).le
        exact ⟨rfl, ⟨g, List.mem_append_right _ hg, by omega, by omega⟩, fun h hh => by rw [z] at hh; cases hh⟩
      · obtain ⟨g, hg, eg⟩ := List.mem_map.mp (mc z).1
        have eg : g.2.2.1 = b := eg
        have := hl g hg
        exact ⟨rfl, ⟨g, List.mem_append_left _ hg, by omega, by omega⟩, fun h hh => (mc z).2 _ (List.mem_map.mpr ⟨h, hh, rfl⟩)⟩
    refine ⟨a, 1, b, 1, .inl ⟨by omega, ex, rfl⟩, .inl ⟨by omega, ey, rfl⟩, (fun z => by omega), (fun z => by omega), ⟨rfl, ⟨ha, hha, by omega, by omega⟩, fun h hh => ma.2 _ (List.mem_map.mpr ⟨h, List.mem_append_left _ hh, rfl⟩)⟩, cy, ?_⟩
    rintro z n _ ⟨rfl, ⟨h, hh, c1, c2⟩, c3⟩
    have d1 := ma.2 _ (List.mem_map.mpr ⟨h, hh, rfl⟩)
    have d1 : a ≤ h.2.2.1 := d1
    have d2 : z ≤ b := by
      by_cases y : hs = []
      · have hp : h ∈ ps := by rw [y] at hh; exact hh
        have := (mb y).2 _ (List.mem_map.mpr ⟨h, hp, rfl⟩)
        have this : h.2.2.2 ≤ b := this
        omega
      · obtain ⟨g, hg, eg⟩ := List.mem_map.mp (mc y).1
        have eg : g.2.2.1 = b := eg
        have := c3 g hg
        omega
    omega
  | 3, _, t =>
    rcases t with ⟨e1, e2, _⟩ | ⟨a, b, ex, ey, ma, mb, mc⟩
    · exact absurd ne (by simp [e1, e2])
    obtain ⟨ha, hha, ea⟩ := List.mem_map.mp ma.1
    have ea : ha.2.2.2 = b := ea
    have lea := hle ha hha
    have cx : Can 3 hs ps a 1 := by
      by_cases z : hs = []
      · obtain ⟨g, hg, eg⟩ := List.mem_map.mp (mb z).1
        have eg : g.2.2.1 = a := eg
        have := (pc g hg).le
        exact ⟨rfl, ⟨g, List.mem_append_right _ hg, by omega, by omega⟩, fun h hh => by rw [z] at hh; cases hh⟩
      · obtain ⟨g, hg, eg⟩ := List.mem_map.mp (mc z).1
        have eg : g.2.2.2 = a := eg
        have := hl g hg
        exact ⟨rfl, ⟨g, List.mem_append_left _ hg, by omega, by omega⟩, fun h hh => (mc z).2 _ (List.mem_map.mpr ⟨h, hh, rfl⟩)⟩
    refine ⟨a, 1, b, 1, .inl ⟨by omega, ex, rfl⟩, .inl ⟨by omega, ey, rfl⟩, (fun z => by omega), (fun z => by omega), cx, ⟨rfl, ⟨ha, hha, by omega, by omega⟩, fun h hh => ma.2 _ (List.mem_map.mpr ⟨h, List.mem_append_left _ hh, rfl⟩)⟩, ?_⟩
    rintro z n _ ⟨rfl, ⟨h, hh, c1, c2⟩, c3⟩
    have d1 := ma.2 _ (List.mem_map.mpr ⟨h, hh, rfl⟩)
    have d1 : h.2.2.2 ≤ b := d1
    have d2 : a ≤ z := by
      by_cases y : hs = []
      · have hp : h ∈ ps := by rw [y] at hh; exact hh
        have := (mb y).2 _ (List.mem_map.mpr ⟨h, hp, rfl⟩)
        have this : a ≤ h.2.2.1 := this
        omega
      · obtain ⟨g, hg, eg⟩ := List.mem_map.mp (mc y).1
        have eg : g.2.2.2 = a := eg
        have := c3 g hg
        omega
    omega
  | 4, _, t =>
    rcases t with ⟨e1, e2, _⟩ | ⟨p, q, rs, a, b, c, d, ex, ey, hp, hq, pm, rise, hor, lo, up⟩
    · exact absurd ne (by simp [e1, e2])
    have rb : ∀ p ∈ rs, RB p := fun p hp => pok.rb p (pm.mem_iff.mp hp)
    have rb' : ∀ p ∈ rs.reverse, RB p := fun p hp => rb p (List.mem_reverse.mp hp)
    have wok : ∀ p ∈ rs, 1 ≤ p.2 := fun p hp => wAll_ok pc p (pm.mem_iff.mp hp)
    have wok' : ∀ p ∈ rs.reverse, 1 ≤ p.2 := fun p hp => wok p (List.mem_reverse.mp hp)
    have ln : rs.length < 64 := by rw [pm.length_eq]; exact pok.1
    have hz : mN hs = 0 → mT hs = 0 := fun z => by
      by_cases y : hs = []
      · rw [y]; rfl
      · have := b4 y; omega
    obtain ⟨S1, s1, e1⟩ := mF_sub false rs (mN hs, mT hs) wok
    obtain ⟨S2, s2, e2⟩ := mF_sub true rs.reverse (mN hs, mT hs) wok'
    have q1 := Sb.row pc pm s1
    have q2 := Sb.row pc ((List.reverse_perm rs).trans pm) s2
    have t1 := s1.tb rb
    have t2 := s2.tb rb'
    obtain ⟨_, c1, d1⟩ := mE_b (b := false) ok rb rs.length (Nat.le_refl _)
    obtain ⟨_, c2, d2⟩ := mE_b (b := true) ok rb' rs.reverse.length (Nat.le_refl _)
    rw [List.take_length] at c1 d1 c2 d2
    rw [List.length_reverse] at c2 d2 t2
    have d1 := d1 (hor.imp id fun z => List.length_pos_iff.mpr z)
    have d2 := d2 (hor.imp id fun z => List.length_pos_iff.mpr z)
    have hi := fun {n t : Int} (s : Sb ps n t) => high_end pc pm rise b0 hz d2 s
    have lw := fun {n t : Int} (s : Sb ps n t) => low_end pc pm rise b0 hz d1 s
    have e1 : mE false hs rs = (mN hs + rN S1, mT hs + rT S1) := e1
    have e2 : mE true hs rs.reverse = (mN hs + rN S2, mT hs + rT S2) := e2
    rw [e1] at lo lw c1 d1
    rw [e2] at up hi c2 d2
    dsimp only at lo lw c1 d1 up hi c2 d2
    obtain ⟨l1, l2, l3, l4, l5⟩ := lo
    obtain ⟨u1, u2, u3, u4, u5⟩ := up
    refine ⟨a, b, c, d, .inr ⟨rfl, p, ex, hp, l1, by omega, by omega, by omega⟩, .inr ⟨rfl, q, ey, hq, u1, by omega, by omega, by omega⟩, (fun _ => l3), (fun _ => u3), ⟨l1, _, _, q1, d1, l2⟩, ⟨u1, _, _, q2, d2, u2⟩, ?_⟩
    rintro z n hn ⟨_, m, t, s, m1, em⟩
    exact ⟨fr_ge m1 hn d1 l1 em l2 (lw s), fr_le m1 hn d2 u1 em u2 (hi s)⟩
theorem TF.le {H : Hp} {k : Nat} {hs ps : List HP4} {x y : V} {z1 n1 z2 n2 : Int} (h : TF H k hs ps x y z1 n1 z2 n2) : z1 * n2 ≤ z2 * n1 := (h.w z2 n2 h.y.pos h.cy).1
structure Lk (hs : List HP4) (rs : List (Int × Int)) : Prop where
  n : mN hs = rN rs
  t : mT hs = rT rs
  v : ∀ h ∈ hs, h.2.2.1 ∈ vals rs ∧ h.2.2.2 ∈ vals rs
  w : ∀ x ∈ vals rs, ∃ h ∈ hs, h.2.2.1 ≤ x ∧ x ≤ h.2.2.2
theorem Lk.nil : Lk [] [] := ⟨rfl, rfl, fun h hh => (by cases hh), fun x hx => (by cases hx)⟩
theorem Lk.snoc {hs : List HP4} {rs q : List (Int × Int)} {g : HP4} (h : Lk hs rs) (o : HeapOf q g.1 g.2.1 g.2.2.1 g.2.2.2) : Lk (hs ++ [g]) (rs ++ q) := by
  refine ⟨?_, ?_, fun x hx => ?_, fun x hx => ?_⟩
  · have : mN [g] = g.1 := by simp [mN]
    rw [mN_app, this, rN_app, h.n, o.m]
  · have : mT [g] = g.2.1 := by simp [mT]
    rw [mT_app, this, rT_app, h.t, o.t]
  · rw [vals_app]
    rcases List.mem_append.mp hx with z | z
    · exact ⟨List.mem_append_left _ (h.v x z).1, List.mem_append_left _ (h.v x z).2⟩
    · rw [List.mem_singleton.mp z]
      exact ⟨List.mem_append_right _ o.lo, List.mem_append_right _ o.hi⟩
  · rw [vals_app] at hx
    rcases List.mem_append.mp hx with z | z
    · obtain ⟨y, hy, e⟩ := h.w x z
      exact ⟨y, List.mem_append_left _ hy, e⟩
    · exact ⟨_, List.mem_append_right _ (List.mem_singleton.mpr rfl), o.lo' x z, o.hi' x z⟩
structure Lp (ps : List HP4) (P : List (Int × Int)) : Prop where
  s : Sb ps (rN P) (rT P)
  w : ∀ x ∈ vals P, ∃ h ∈ ps, h.2.2.1 ≤ x ∧ x ≤ h.2.2.2
theorem Lp.nil : Lp [] [] := ⟨Sb.nil fun h hh => (by cases hh), fun x hx => (by cases hx)⟩
theorem Lp.snoc {ps : List HP4} {P q S : List (Int × Int)} {g : HP4} (h : Lp ps P) (o : HeapOf q g.1 g.2.1 g.2.2.1 g.2.2.2) (ok : RunsOk q) (s : SubR S q) : Lp (ps ++ [g]) (P ++ S) := by
  refine ⟨by rw [rN_app, rT_app]; exact h.s.add (Sb.heap o ok s), fun x hx => ?_⟩
  rw [vals_app] at hx
  rcases List.mem_append.mp hx with z | z
  · obtain ⟨y, hy, e⟩ := h.w x z
    exact ⟨y, List.mem_append_left _ hy, e⟩
  · exact ⟨_, List.mem_append_right _ (List.mem_singleton.mpr rfl), o.lo' x (s.v x z), o.hi' x (s.v x z)⟩
def AnsAt (H : Hp) (k : Nat) (rs : List (Int × Int)) (v : V) : Prop := match k with
  | 0 => v = .int (rN rs)
  | 1 => v = .int (rT rs)
  | 2 => ∃ z, v = .int z ∧ z ∈ vals rs ∧ ∀ x ∈ vals rs, z ≤ x
  | 3 => ∃ z, v = .int z ∧ z ∈ vals rs ∧ ∀ x ∈ vals rs, x ≤ z
  | _ => ∃ p, v = .ref p ∧ H p = some (.tup [.int (rT rs), .int (rN rs)])
theorem rT_bT {rs : List (Int × Int)} (h : RunsT rs) : -(rs.length * 10 ^ 62 : Int) ≤ rT rs ∧ rT rs ≤ rs.length * 10 ^ 62 := by
  induction rs with
  | nil => simp [rT, prds]
  | cons p r ih =>
    have h1 := ih fun q hq => h q (List.mem_cons_of_mem _ hq)
    have h2 := h p List.mem_cons_self
    unfold RunT at h2
    have m1 : p.1 * p.2 ≤ 10 ^ 31 * p.2 := Int.mul_le_mul_of_nonneg_right (by omega) (by omega)
    have m2 : -(10 ^ 31) * p.2 ≤ p.1 * p.2 := Int.mul_le_mul_of_nonneg_right (by omega) (by omega)
    rw [rT_cons]
    simp only [List.length_cons]
    omega
end
section
variable {P : Program} {w : World} {K : PySem.W.Frag} {mg : Str → Option Value} {base : Heap} {C_Measure C_HowMany C_Total C_Least C_Greatest C_Mean C_BookError C_NoAsk C_NoAnswer : Addr}
def tkB (k : Nat) (b : Bool) (z n v : Int) : Bool := match k with
  | 0 => b
  | 1 => if b = true then decide (0 < v) else decide (v < 0)
  | 2 => decide (z ≤ v)
  | 3 => decide (v ≤ z)
  | _ => if b = true then decide (z ≤ v * n) else decide (v * n ≤ z)
theorem filt_sum {A B : Int} (c : Int × Int → Bool) : ∀ {G : List (Int × Int)}, (∀ p ∈ G, c p = true ↔ A ≤ p.1 * B) → B * rT (G.filter c) - A * rN (G.filter c) = sumH A B G
  | [], _ => by simp [rT, rN, prds, cnts, sumH]
  | p :: r, h => by
    have ih := filt_sum (A := A) (B := B) c (G := r) fun q hq => h q (List.mem_cons_of_mem _ hq)
    have hp := h p List.mem_cons_self
    show _ = hg A B p.1 * p.2 + sumH A B r
    have e1 : p.1 * B = B * p.1 := Int.mul_comm _ _
    by_cases z : c p = true
    · have z2 := hp.mp z
      have eh : hg A B p.1 = B * p.1 - A := by unfold hg; split <;> omega
      rw [List.filter_cons_of_pos z, rT_cons, rN_cons, eh, Int.sub_mul, Int.mul_add, Int.mul_add, ← Int.mul_assoc]
      omega
    · have z2 : ¬ A ≤ p.1 * B := fun y => z (hp.mpr y)
      have eh : hg A B p.1 = 0 := by unfold hg; rw [if_neg (by omega)]
      rw [List.filter_cons_of_neg z, eh, ih]
      omega
theorem filt_ng (c : Int × Int → Bool) : ∀ G : List (Int × Int), (G.map ng).filter (fun p => c (ng p)) = (G.filter c).map ng
  | [] => rfl
  | p :: r => by
    have e : ng (ng p) = p := by unfold ng; simp
    rw [List.map_cons]
    by_cases z : c p = true
    · rw [List.filter_cons_of_pos (by rw [e]; exact z), List.filter_cons_of_pos z, filt_ng c r]; rfl
    · rw [List.filter_cons_of_neg (by rw [e]; exact z), List.filter_cons_of_neg z, filt_ng c r]
theorem filt_sumL {A B : Int} (c : Int × Int → Bool) {G : List (Int × Int)} (h : ∀ p ∈ G, c p = true ↔ p.1 * B ≤ A) : B * rT (G.filter c) - A * rN (G.filter c) = -(sumL A B G) := by
  have := filt_sum (A := -A) (B := B) (fun p => c (ng p)) (G := G.map ng) fun p hp => by
    obtain ⟨q, hq, rfl⟩ := List.mem_map.mp hp
    have e : ng (ng q) = q := by unfold ng; simp
    show c (ng (ng q)) = true ↔ -A ≤ -q.1 * B
    rw [e, h q hq, Int.neg_mul]; omega
  rw [filt_ng, rN_ng, rT_ng, Int.mul_neg, Int.neg_mul] at this
  unfold sumL
  omega
theorem sumH_zero {A B : Int} : ∀ {G : List (Int × Int)}, (∀ p ∈ G, p.1 * B ≤ A) → sumH A B G = 0
  | [], _ => rfl
  | p :: r, h => by
    have ih := sumH_zero (A := A) (B := B) (G := r) fun q hq => h q (List.mem_cons_of_mem _ hq)
    have hp := h p List.mem_cons_self
    have e1 : p.1 * B = B * p.1 := Int.mul_comm _ _
    have eh : hg A B p.1 = 0 := by unfold hg; rw [if_neg (by omega)]
    show hg A B p.1 * p.2 + sumH A B r = 0
    rw [eh, ih]; omega
theorem sumL_zero {A B : Int} {G : List (Int × Int)} (h : ∀ p ∈ G, A ≤ p.1 * B) : sumL A B G = 0 := by
  refine sumH_zero fun p hp => ?_
  obtain ⟨q, hq, rfl⟩ := List.mem_map.mp hp
  have := h q hq
  show -q.1 * B ≤ -A
  rw [Int.neg_mul]; omega
theorem filt_none {c : Int × Int → Bool} {G : List (Int × Int)} (ok : ∀ p ∈ G, 1 ≤ p.2) (h : rN (G.filter c) = 0) : ∀ p ∈ G, ¬ c p = true := by
  intro p hp z
  have : ∀ {S : List (Int × Int)}, (∀ p ∈ S, 1 ≤ p.2) → p ∈ S → 1 ≤ rN S := by
    intro S
    induction S with
    | nil => intro _ h; cases h
    | cons q r ih =>
      intro ok h
      have h1 := ok q List.mem_cons_self
      have h0 : 0 ≤ rN r := ((SubR.refl fun x hx => ok x (List.mem_cons_of_mem _ hx)).n fun x hx => ok x (List.mem_cons_of_mem _ hx)).1
      rw [rN_cons]
      rcases List.mem_cons.mp h with e | e
      · omega
      · have := ih (fun x hx => ok x (List.mem_cons_of_mem _ hx)) e
        omega
  have := this (S := G.filter c) (fun x hx => ok x (List.mem_filter.mp hx).1) (List.mem_filter.mpr ⟨hp, z⟩)
  omega
theorem mean_reach {hs ps : List HP4} {z1 n1 z2 n2 : Int} (pc : PsC ps) (h0 : 0 ≤ mN hs) (hz : mN hs = 0 → mT hs = 0) (b : Bool) (p1 : 1 ≤ n1) (p2 : 1 ≤ n2) (cx : Can 4 hs ps z1 n1) (cy : Can 4 hs ps z2 n2)
    (w : ∀ z n, 1 ≤ n → Can 4 hs ps z n → z1 * n ≤ z * n1 ∧ z * n2 ≤ z2 * n) (z n : Int) (ez : z = if b = true then z2 else z1) (en : n = if b = true then n2 else n1) :
    1 ≤ mN hs + rN ((wAll ps).filter fun p => tkB 4 b z n p.1) ∧ (mT hs + rT ((wAll ps).filter fun p => tkB 4 b z n p.1)) * n = z * (mN hs + rN ((wAll ps).filter fun p => tkB 4 b z n p.1)) := by
  have wok := wAll_ok pc
  have sb := Sb.row pc (List.Perm.refl _) (SubR.filter (fun p => tkB 4 b z n p.1) wok)
  have s0 := sb.n0
  cases b with
  | true =>
    simp only [if_true] at ez en
    subst ez en
    have hc : ∀ p ∈ wAll ps, tkB 4 true z n p.1 = true ↔ z ≤ p.1 * n := fun p _ => by simp [tkB]
    have fs := filt_sum (A := z) (B := n) (fun p => tkB 4 true z n p.1) hc
    obtain ⟨_, m, t, s, m1, em⟩ := cy
    have u := s.up z n p2
    generalize hC : (wAll ps).filter (fun p => tkB 4 true z n p.1) = C at fs sb s0 ⊢
    have N1 : 1 ≤ mN hs + rN C := Decidable.byContradiction fun y => by
      have e0 : rN C = 0 := by omega
      have e1 : mN hs = 0 := by omega
      have e2 := hz e1
      have nn : ∀ p ∈ wAll ps, ¬ tkB 4 true z n p.1 = true := filt_none wok (by rw [hC]; exact e0)
      have u2 := s.up (z - 1) n p2
      rw [sumH_zero (fun p hp => by have := mt (hc p hp).mpr (nn p hp); omega)] at u2
      rw [e1, e2, Int.zero_add, Int.zero_add] at em
      rw [Int.sub_mul, Int.one_mul, Int.mul_comm n t] at u2
      omega
    refine ⟨N1, ?_⟩
    have c2 := (w (mT hs + rT C) (mN hs + rN C) N1 ⟨N1, _, _, sb, N1, rfl⟩).2
    have a1 : (mT hs + rT C) * n = mT hs * n + n * rT C := by rw [Int.add_mul, Int.mul_comm (rT C)]
    have a2 : z * (mN hs + rN C) = z * mN hs + z * rN C := Int.mul_add _ _ _
    have a3 : z * (mN hs + m) = z * mN hs + z * m := Int.mul_add _ _ _
    have a4 : (mT hs + t) * n = mT hs * n + n * t := by rw [Int.add_mul, Int.mul_comm t]
    omega
  | false =>
    simp only [Bool.false_eq_true, if_false] at ez en
    subst ez en
    have hc : ∀ p ∈ wAll ps, tkB 4 false z n p.1 = true ↔ p.1 * n ≤ z := fun p _ => by simp [tkB]
    have fs := filt_sumL (A := z) (B := n) (fun p => tkB 4 false z n p.1) hc
    obtain ⟨_, m, t, s, m1, em⟩ := cx
    have u := s.lo z n p1
    generalize hC : (wAll ps).filter (fun p => tkB 4 false z n p.1) = C at fs sb s0 ⊢
    have N1 : 1 ≤ mN hs + rN C := Decidable.byContradiction fun y => by
      have e0 : rN C = 0 := by omega
      have e1 : mN hs = 0 := by omega
      have e2 := hz e1
      have nn : ∀ p ∈ wAll ps, ¬ tkB 4 false z n p.1 = true := filt_none wok (by rw [hC]; exact e0)
      have u2 := s.lo (z + 1) n p1
      rw [sumL_zero (fun p hp => by have := mt (hc p hp).mpr (nn p hp); omega)] at u2
      rw [e1, e2, Int.zero_add, Int.zero_add] at em
      rw [Int.add_mul, Int.one_mul, Int.mul_comm n t] at u2
      omega
    refine ⟨N1, ?_⟩
    have c2 := (w (mT hs + rT C) (mN hs + rN C) N1 ⟨N1, _, _, sb, N1, rfl⟩).1
    have a1 : (mT hs + rT C) * n = mT hs * n + n * rT C := by rw [Int.add_mul, Int.mul_comm (rT C)]
    have a2 : z * (mN hs + rN C) = z * mN hs + z * rN C := Int.mul_add _ _ _
    have a3 : z * (mN hs + m) = z * mN hs + z * m := Int.mul_add _ _ _
    have a4 : (mT hs + t) * n = mT hs * n + n * t := by rw [Int.add_mul, Int.mul_comm t]
    omega
theorem wOf_heap {h : HP4} (c : CanBe h.1 h.2.1 h.2.2.1 h.2.2.2) : HeapOf (wOf h) h.1 h.2.1 h.2.2.1 h.2.2.2 := (WRow.of c).heap
theorem mem_wAll {ps : List HP4} {h : HP4} {x : Int} (hh : h ∈ ps) (hx : x ∈ vals (wOf h)) : ∃ p ∈ wAll ps, p.1 = x := by
  obtain ⟨p, hp, e⟩ := List.mem_map.mp hx
  exact ⟨p, List.mem_flatMap.mpr ⟨h, hh, hp⟩, e⟩
theorem val_filt {ps : List HP4} {x : Int} {c : Int → Bool} (h : ∃ p ∈ wAll ps, p.1 = x) (hc : c x = true) : x ∈ vals ((wAll ps).filter fun p => c p.1) := by
  obtain ⟨p, hp, rfl⟩ := h
  exact List.mem_map.mpr ⟨p, List.mem_filter.mpr ⟨hp, hc⟩, rfl⟩
theorem minL_ex : ∀ {hs : List HP4}, hs ≠ [] → ∃ g ∈ hs, ∀ g' ∈ hs, g.2.2.1 ≤ g'.2.2.1
  | [a], _ => ⟨a, List.mem_cons_self, fun g' h' => by rw [List.mem_singleton.mp h']; exact Int.le_refl _⟩
  | a :: c :: t, _ => by
    obtain ⟨g, hg', mg⟩ := minL_ex (hs := c :: t) (by simp)
    by_cases le : a.2.2.1 ≤ g.2.2.1
    · refine ⟨a, List.mem_cons_self, fun g' h' => ?_⟩
      rcases List.mem_cons.mp h' with e | e
      · rw [e]; exact Int.le_refl _
      · have := mg g' e; omega
    · refine ⟨g, List.mem_cons_of_mem _ hg', fun g' h' => ?_⟩
      rcases List.mem_cons.mp h' with e | e
      · rw [e]; omega
      · exact mg g' e
theorem maxG_ex : ∀ {hs : List HP4}, hs ≠ [] → ∃ g ∈ hs, ∀ g' ∈ hs, g'.2.2.2 ≤ g.2.2.2
  | [a], _ => ⟨a, List.mem_cons_self, fun g' h' => by rw [List.mem_singleton.mp h']; exact Int.le_refl _⟩
  | a :: c :: t, _ => by
    obtain ⟨g, hg', mg⟩ := maxG_ex (hs := c :: t) (by simp)
    by_cases le : g.2.2.2 ≤ a.2.2.2
    · refine ⟨a, List.mem_cons_self, fun g' h' => ?_⟩
      rcases List.mem_cons.mp h' with e | e
      · rw [e]; exact Int.le_refl _
      · have := mg g' e; omega
    · refine ⟨g, List.mem_cons_of_mem _ hg', fun g' h' => ?_⟩
      rcases List.mem_cons.mp h' with e | e
      · rw [e]; omega
      · exact mg g' e
theorem rT_bO {rs : List (Int × Int)} (h : RunsOk rs) : -(rs.length * 10 ^ 80 : Int) ≤ rT rs ∧ rT rs ≤ rs.length * 10 ^ 80 := by
  induction rs with
  | nil => simp [rT, prds]
  | cons p r ih =>
    have h1 := ih fun q hq => h q (List.mem_cons_of_mem _ hq)
    have h2 := h p List.mem_cons_self
    unfold RunOk at h2
    have m1 : p.1 * p.2 ≤ 10 ^ 40 * p.2 := Int.mul_le_mul_of_nonneg_right (by omega) (by omega)
    have m2 : -(10 ^ 40) * p.2 ≤ p.1 * p.2 := Int.mul_le_mul_of_nonneg_right (by omega) (by omega)
    rw [rT_cons]
    simp only [List.length_cons]
    omega
theorem reach {H H2 : Hp} {k : Nat} {hs ps : List HP4} {x y v : V} {z1 n1 z2 n2 : Int} (hk : k < 5) (ok : HsOk hs) (hl : ∀ h ∈ hs, h.2.2.1 ≤ h.2.2.2) (pc : PsC ps) (ne : ps ≠ []) (f : TF H k hs ps x y z1 n1 z2 n2) (b : Bool) (z n : Int) (ez : z = if b = true then z2 else z1) (en : n = if b = true then n2 else n1)
    {Kn : List (Int × Int)} (lk : Lk hs Kn) (okr : RunsOk (Kn ++ (wAll ps).filter fun p => tkB k b z n p.1)) (ln : (Kn ++ (wAll ps).filter fun p => tkB k b z n p.1).length ≤ 200) :
    (2 ≤ k → Kn ++ ((wAll ps).filter fun p => tkB k b z n p.1) ≠ []) ∧ (AnsAt H2 k (Kn ++ (wAll ps).filter fun p => tkB k b z n p.1) v → ∃ z' n', FrAt H2 k v z' n' ∧ z' * n = z * n') := by
  have eN : ∀ C, rN (Kn ++ C) = mN hs + rN C := fun C => by rw [rN_app, lk.n]
  have eT : ∀ C, rT (Kn ++ C) = mT hs + rT C := fun C => by rw [rT_app, lk.t]
  have wok := wAll_ok pc
  have sbf := fun c => Sb.row pc (List.Perm.refl _) (SubR.filter c wok)
  obtain ⟨b0, b1, b2, b3, b4⟩ := ok.b
  have pN := f.y.pos
  have pX := f.x.pos
  have nev : ∀ {L : List (Int × Int)}, (∃ x, x ∈ vals L) → L ≠ [] := fun ⟨x, hx⟩ e => by rw [e] at hx; cases hx
  match k, hk, f, okr, ln with
  | 0, _, f, okr, ln =>
    refine ⟨fun z => absurd z (by omega), fun a => ?_⟩
    obtain ⟨e1, a1, a2⟩ := f.cx
    obtain ⟨e2, c1, c2⟩ := f.cy
    have q0 := (f.w (mN hs) 1 (by omega) ⟨rfl, by omega, by have := (sbf fun _ => true).n1; have := (sbf fun _ => true).n0; omega⟩).1
    have pp : 0 ≤ mN ps := by have := (sbf fun _ => true).n1; have := (sbf fun _ => true).n0; omega
    have q1 := (f.w (mN hs + mN ps) 1 (by omega) ⟨rfl, by omega, by omega⟩).2
    refine ⟨_, 1, .inl ⟨by omega, a, rfl⟩, ?_⟩
    rw [eN]
    subst e1 e2
    cases b with
    | true =>
      have e3 : ((wAll ps).filter fun p => tkB 0 true z n p.1) = wAll ps := List.filter_eq_self.mpr fun p _ => rfl
      simp only [if_true] at ez en
      rw [e3, rN_wAll pc, ez, en]; omega
    | false =>
      have e3 : ((wAll ps).filter fun p => tkB 0 false z n p.1) = [] := List.filter_eq_nil_iff.mpr fun p _ => by simp [tkB]
      simp only [Bool.false_eq_true, if_false] at ez en
      rw [e3, ez, en]
      have : rN ([] : List (Int × Int)) = 0 := rfl
      omega
  | 1, _, f, okr, ln =>
    refine ⟨fun z => absurd z (by omega), fun a => ?_⟩
    obtain ⟨e1, m, t, s, et⟩ := f.cx
    obtain ⟨e2, m', t', s', et'⟩ := f.cy
    refine ⟨_, 1, .inl ⟨by omega, a, rfl⟩, ?_⟩
    rw [eT]
    subst e1 e2
    cases b with
    | true =>
      simp only [if_true] at ez en
      have e3 : ((wAll ps).filter fun p => tkB 1 true z n p.1) = (wAll ps).filter posC := List.filter_congr fun p _ => by simp [tkB, posC]
      have u := s'.up 0 1 (by omega)
      rw [sumH01] at u
      have q := (f.w (mT hs + rT ((wAll ps).filter posC)) 1 (by omega) ⟨rfl, _, _, sbf posC, rfl⟩).2
      rw [e3, ez, en]; omega
    | false =>
      simp only [Bool.false_eq_true, if_false] at ez en
      have e3 : ((wAll ps).filter fun p => tkB 1 false z n p.1) = (wAll ps).filter negC := List.filter_congr fun p _ => by simp [tkB, negC]
      have u := s.lo 0 1 (by omega)
      rw [sumL01] at u
      have q := (f.w (mT hs + rT ((wAll ps).filter negC)) 1 (by omega) ⟨rfl, _, _, sbf negC, rfl⟩).1
      rw [e3, ez, en]; omega
  | 2, _, f, okr, ln =>
    have cz : Can 2 hs ps z n := by
      cases b with
      | true => simp only [if_true] at ez en; rw [ez, en]; exact f.cy
      | false => simp only [Bool.false_eq_true, if_false] at ez en; rw [ez, en]; exact f.cx
    obtain ⟨e, ⟨h, hh, c1, c2⟩, c3⟩ := cz
    have inV : z ∈ vals (Kn ++ ((wAll ps).filter fun p => tkB 2 b z n p.1)) := by
      rw [vals_app]
      have fl : ∀ {g : HP4}, g ∈ hs → g.2.2.1 = z → z ∈ vals Kn := fun hg' e => by rw [← e]; exact (lk.v _ hg').1
      cases b with
      | false =>
        simp only [Bool.false_eq_true, if_false] at ez en
        rcases List.mem_append.mp hh with y | y
        · have := c3 h y
          exact List.mem_append_left _ (fl y (by omega))
        · have le := (pc h y).le
          have q := (f.w h.2.2.1 1 (by omega) ⟨rfl, ⟨h, hh, by omega, by omega⟩, fun g hg' => by have := c3 g hg'; omega⟩).1
          have e1 := f.cx.1
          have : z = h.2.2.1 := by rw [← ez] at q; rw [e1] at q; omega
          refine List.mem_append_right _ (val_filt (c := fun x => tkB 2 false z n x) (mem_wAll y (by rw [this]; exact (wOf_heap (pc h y)).lo)) ?_)
          simp [tkB]
      | true =>
        simp only [if_true] at ez en
        by_cases ye : hs = []
        · subst ye
          have y : h ∈ ps := hh
          have le := (pc h y).le
          have q := (f.w h.2.2.2 1 (by omega) ⟨rfl, ⟨h, hh, by omega, by omega⟩, fun g hg' => by cases hg'⟩).2
          have e1 := f.cy.1
          have : z = h.2.2.2 := by rw [← ez] at q; rw [e1] at q; omega
          refine List.mem_append_right _ (val_filt (c := fun x => tkB 2 true z n x) (mem_wAll y (by rw [this]; exact (wOf_heap (pc h y)).hi)) ?_)
          simp [tkB]
        · obtain ⟨g, hg', mg⟩ := minL_ex ye
          have q := (f.w g.2.2.1 1 (by omega) ⟨rfl, ⟨g, List.mem_append_left _ hg', by omega, hl g hg'⟩, mg⟩).2
          have e1 := f.cy.1
          have := c3 g hg'
          have : g.2.2.1 = z := by rw [← ez] at q; rw [e1] at q; omega
          exact List.mem_append_left _ (fl hg' this)
    refine ⟨fun _ => nev ⟨z, inV⟩, fun a => ?_⟩
    obtain ⟨z', ev, m1, m2⟩ := a
    refine ⟨z', 1, .inl ⟨by omega, ev, rfl⟩, ?_⟩
    have le := m2 z inV
    have ge : z ≤ z' := by
      rw [vals_app] at m1
      rcases List.mem_append.mp m1 with y | y
      · obtain ⟨g, hg', g1, _⟩ := lk.w z' y
        have := c3 g hg'
        omega
      · obtain ⟨p, hp, rfl⟩ := List.mem_map.mp y
        have := (List.mem_filter.mp hp).2
        simpa [tkB] using this
    rw [e]; omega
  | 3, _, f, okr, ln =>
    have cz : Can 3 hs ps z n := by
      cases b with
      | true => simp only [if_true] at ez en; rw [ez, en]; exact f.cy
      | false => simp only [Bool.false_eq_true, if_false] at ez en; rw [ez, en]; exact f.cx
    obtain ⟨e, ⟨h, hh, c1, c2⟩, c3⟩ := cz
    have inV : z ∈ vals (Kn ++ ((wAll ps).filter fun p => tkB 3 b z n p.1)) := by
      rw [vals_app]
      have fl : ∀ {g : HP4}, g ∈ hs → g.2.2.2 = z → z ∈ vals Kn := fun hg' e => by rw [← e]; exact (lk.v _ hg').2
      cases b with
      | true =>
        simp only [if_true] at ez en
        rcases List.mem_append.mp hh with y | y
        · have := c3 h y
          exact List.mem_append_left _ (fl y (by omega))
        · have le := (pc h y).le
          have q := (f.w h.2.2.2 1 (by omega) ⟨rfl, ⟨h, hh, by omega, by omega⟩, fun g hg' => by have := c3 g hg'; omega⟩).2
          have e1 := f.cy.1
          have : z = h.2.2.2 := by rw [← ez] at q; rw [e1] at q; omega
          refine List.mem_append_right _ (val_filt (c := fun x => tkB 3 true z n x) (mem_wAll y (by rw [this]; exact (wOf_heap (pc h y)).hi)) ?_)
          simp [tkB]
      | false =>
        simp only [Bool.false_eq_true, if_false] at ez en
        by_cases ye : hs = []
        · subst ye
          have y : h ∈ ps := hh
          have le := (pc h y).le
          have q := (f.w h.2.2.1 1 (by omega) ⟨rfl, ⟨h, hh, by omega, by omega⟩, fun g hg' => by cases hg'⟩).1
          have e1 := f.cx.1
          have : z = h.2.2.1 := by rw [← ez] at q; rw [e1] at q; omega
          refine List.mem_append_right _ (val_filt (c := fun x => tkB 3 false z n x) (mem_wAll y (by rw [this]; exact (wOf_heap (pc h y)).lo)) ?_)
          simp [tkB]
        · obtain ⟨g, hg', mg⟩ := maxG_ex ye
          have q := (f.w g.2.2.2 1 (by omega) ⟨rfl, ⟨g, List.mem_append_left _ hg', hl g hg', by omega⟩, mg⟩).1
          have e1 := f.cx.1
          have := c3 g hg'
          have : g.2.2.2 = z := by rw [← ez] at q; rw [e1] at q; omega
          exact List.mem_append_left _ (fl hg' this)
    refine ⟨fun _ => nev ⟨z, inV⟩, fun a => ?_⟩
    obtain ⟨z', ev, m1, m2⟩ := a
    refine ⟨z', 1, .inl ⟨by omega, ev, rfl⟩, ?_⟩
    have le := m2 z inV
    have ge : z' ≤ z := by
      rw [vals_app] at m1
      rcases List.mem_append.mp m1 with y | y
      · obtain ⟨g, hg', _, g1⟩ := lk.w z' y
        have := c3 g hg'
        omega
      · obtain ⟨p, hp, rfl⟩ := List.mem_map.mp y
        have := (List.mem_filter.mp hp).2
        simpa [tkB] using this
    rw [e]; omega
  | 4, _, f, okr, ln =>
    obtain ⟨N1, er⟩ := mean_reach pc b0 (fun y => by
      by_cases ye : hs = []
      · rw [ye]; rfl
      · have := b4 ye; omega) b pX pN f.cx f.cy f.w z n ez en
    rw [← eN, ← eT] at er
    rw [← eN] at N1
    refine ⟨fun _ e => ?_, fun a => ?_⟩
    · rw [e] at N1
      have : rN ([] : List (Int × Int)) = 0 := rfl
      omega
    · obtain ⟨p, ev, hp⟩ := a
      have n1' := (rN_b okr).2
      have n2' := rT_bO okr
      exact ⟨_, _, .inr ⟨rfl, p, ev, hp, N1, by omega, by omega, by omega⟩, er⟩
end
section
variable {P : Program} {w : World} {K : PySem.W.Frag} {mg : Str → Option Value} {base : Heap} {C_Measure C_HowMany C_Total C_Least C_Greatest C_Mean C_BookError C_NoAsk C_NoAnswer : Addr}
theorem wd_ne {k : Nat} (h : k < 4) : wd k ≠ "mean" := by
  match k, h with
  | 0, _ => decide
  | 1, _ => decide
  | 2, _ => decide
  | 3, _ => decide
theorem str_ne {w v : Str} (h : w ≠ v) : decide (V.str w = V.str v) = false := decide_eq_false fun e => h (V.str.inj e)
def sp_answer44 : Sp := fun vs H Q _ => ∃ (k : Nat) (l : Addr) (xs : List V) (rs : List (Int × Int)), vs = [.str (wd k), .ref l] ∧ k < 5 ∧ H l = some (.lst xs) ∧ Pairs H xs rs ∧ RunsOk rs ∧ rs.length ≤ 200 ∧ ∀ v H', Same H H' → ((v = .non ∧ 2 ≤ k ∧ rs = []) ∨ ((2 ≤ k → rs ≠ []) ∧ AnsAt H' k rs v)) → Q v H'
theorem D__law_answer (T : Txt K mg C_Measure C_HowMany C_Total C_Least C_Greatest C_Mean C_BookError C_NoAsk C_NoAnswer) : DefOk P w K mg base 1 "_law_answer" ["_law_word", "_law_runs"] sp_answer44 := by
  obtain ⟨f, fd, F, hm⟩ := T.f__law_answer
  have nd := sc__law_answer.nd
  refine F.def_ hm (F.ok sc__law_answer (fun vs H Q E h => ?_) (fun cdv A outer s H vs Q E hr h => ?_)) (F.binds fun _ _ _ _ _ _ us hl => by obtain ⟨_, _, rfl⟩ := L2.lq2 hl; rfl)
  · obtain ⟨k, l, xs, rs, rfl, _⟩ := h; rfl
  · obtain ⟨k, l, xs, rs, rfl, hk, hl, hp, ok, h2, qq⟩ := h
    have qn : ∀ H', Same H H' → 2 ≤ k → rs = [] → Q .non H' := fun H' s a b => qq _ H' s (.inl ⟨rfl, a, b⟩)
    have q : ∀ v H', Same H H' → (2 ≤ k → rs ≠ []) → AnsAt H' k rs v → Q v H' := fun v H' s a b => qq v H' s (.inr ⟨a, b⟩)
    clear qq
    have mulB : ∀ p ∈ rs, CMulB p.1 p.2 := fun p hp => by
      have := ok p hp
      unfold RunOk at this
      exact ⟨⟨by omega, by omega⟩, by omega, by omega⟩
    have hN := (rN_b ok).1
    refine ⟨_, (pss_cons (ps_set (i := 2) nd rfl (Or.inl rfl) (pe_callB (call_sum rfl) rfl T.b_sum bt_sum (pa_cons (pe_lc (vars := ["_law_value", "_law_count"]) (frees := []) (fv := []) rfl (lcOk rfl rfl (by decide +kernel) (by decide +kernel) (by intro p hp; cases hp) rfl) trivial (pi_list (pv 1)) (gk_pair (by decide) (by decide)) (fun _ _ _ _ => (pg_tup rfl (pgs_cons (pg_name (i := 0) (show (["_law_value", "_law_count"] : List Str).Nodup by decide +kernel) rfl (Or.inl rfl)) (pgs_cons (pg_name (i := 1) (show (["_law_value", "_law_count"] : List Str).Nodup by decide +kernel) rfl (Or.inl rfl)) pgs_nil)))) (fun _ _ _ _ => pif_none) (fun _ _ _ _ => (pv 1))) pa_nil)))
      (pss_cons (ps_set (i := 3) nd rfl (Or.inl rfl) (pe_callB (call_sum rfl) rfl T.b_sum bt_sum (pa_cons (pe_lc (vars := ["_law_value", "_law_count"]) (frees := []) (fv := []) rfl (lcOk rfl rfl (by decide +kernel) (by decide +kernel) (by intro p hp; cases hp) rfl) trivial (pi_list (pv 1)) (gk_pair (by decide) (by decide)) (fun _ _ _ _ => (pg_tup rfl (pgs_cons (pg_name (i := 0) (show (["_law_value", "_law_count"] : List Str).Nodup by decide +kernel) rfl (Or.inl rfl)) (pgs_cons (pg_name (i := 1) (show (["_law_value", "_law_count"] : List Str).Nodup by decide +kernel) rfl (Or.inl rfl)) pgs_nil)))) (fun _ _ _ _ => pif_none) (fun _ _ _ _ => (pe_op op_mulB (pv 0) (pv 1)))) pa_nil)))
      (pss_cons (ps_if (pt_cmpR op_eq (pv 0) pe_str (nomark _))
        (pss_one (ps_ret (pv 2)))
        pss_nil)
      (pss_cons (ps_if (pt_cmpR op_eq (pv 0) pe_str (nomark _))
        (pss_one (ps_ret (pv 3)))
        pss_nil)
      (pss_cons (ps_if (pt_cmpR op_eq (pv 2) pe_int (nomark _))
        (pss_one (ps_ret pe_non))
        pss_nil)
      (pss_cons (ps_if (pt_cmpR op_eq (pv 0) pe_str (nomark _))
        (pss_one (ps_ret (pe_callB (call_minL rfl) rfl T.b_min bt_min (pa_cons (pe_lc (vars := ["_law_value", "_law_count"]) (frees := []) (fv := []) rfl (lcOk rfl rfl (by decide +kernel) (by decide +kernel) (by intro p hp; cases hp) rfl) trivial (pi_list (pv 1)) (gk_pair (by decide) (by decide)) (fun _ _ _ _ => (pg_tup rfl (pgs_cons (pg_name (i := 0) (show (["_law_value", "_law_count"] : List Str).Nodup by decide +kernel) rfl (Or.inl rfl)) (pgs_cons (pg_name (i := 1) (show (["_law_value", "_law_count"] : List Str).Nodup by decide +kernel) rfl (Or.inl rfl)) pgs_nil)))) (fun _ _ _ _ => pif_none) (fun _ _ _ _ => (pv 0))) pa_nil))))
        pss_nil)
      (pss_cons (ps_if (pt_cmpR op_eq (pv 0) pe_str (nomark _))
        (pss_one (ps_ret (pe_callB (call_maxL rfl) rfl T.b_max bt_max (pa_cons (pe_lc (vars := ["_law_value", "_law_count"]) (frees := []) (fv := []) rfl (lcOk rfl rfl (by decide +kernel) (by decide +kernel) (by intro p hp; cases hp) rfl) trivial (pi_list (pv 1)) (gk_pair (by decide) (by decide)) (fun _ _ _ _ => (pg_tup rfl (pgs_cons (pg_name (i := 0) (show (["_law_value", "_law_count"] : List Str).Nodup by decide +kernel) rfl (Or.inl rfl)) (pgs_cons (pg_name (i := 1) (show (["_law_value", "_law_count"] : List Str).Nodup by decide +kernel) rfl (Or.inl rfl)) pgs_nil)))) (fun _ _ _ _ => pif_none) (fun _ _ _ _ => (pv 0))) pa_nil))))
        pss_nil)
      (pss_one (ps_ret (pe_tupN (pa_cons (pv 3) (pa_cons (pv 2) pa_nil)))))))))))), ?_⟩
    refine ⟨_, rfl, l, rfl, ⟨_, SqL.of hl⟩, lc_pairs (fun p => p.2) hl hp h2 (fun p hp Q' hq => ⟨_, rfl, hq⟩) fun a1 H1 n1 => ⟨a1, _, rfl, SqL.of n1.at_, ?_⟩⟩
    have hl1 := n1.same _ _ hl
    have hp1 := hp.same n1.same
    refine ⟨_, rfl, l, rfl, ⟨_, SqL.of hl1⟩, lc_pairs (fun p => p.1 * p.2) hl1 hp1 h2 (fun p hp Q' hq => ⟨_, rfl, _, rfl, _, _, rfl, rfl, mulB p hp, hq⟩) fun a2 H2 n2 => ⟨a2, _, rfl, SqL.of n2.at_, ?_⟩⟩
    have hl2 := n2.same _ _ hl1
    have hp2 := hp1.same n2.same
    have s2 := n1.same.trans n2.same
    have cT : decide (V.int (rs.map fun p => p.2).sum = V.int 0) = true → rs = [] := fun z => by
      have z2 : rN rs = 0 := V.int.inj (of_decide_eq_true z)
      exact List.length_eq_zero_iff.mp (by omega)
    have cF : ¬ decide (V.int (rs.map fun p => p.2).sum = V.int 0) = true → rs ≠ [] := fun z e => z (by rw [e]; rfl)
    match k, hk, q, qn with
    | 0, _, q, _ => exact ⟨_, rfl, rfl, _, rfl, iteT ⟨_, rfl, q _ H2 s2 (fun z => by omega) rfl⟩⟩
    | 1, _, q, _ => exact ⟨_, rfl, rfl, _, rfl, iteF ⟨_, rfl, rfl, _, rfl, iteT ⟨_, rfl, q _ H2 s2 (fun z => by omega) rfl⟩⟩⟩
    | 2, _, q, qn =>
      refine ⟨_, rfl, rfl, _, rfl, iteF ⟨_, rfl, rfl, _, rfl, iteF ⟨_, rfl, rfl, _, rfl, ite2 (fun z => qn H2 s2 (by omega) (cT z)) fun z => ⟨_, rfl, rfl, _, rfl, iteT ?_⟩⟩⟩⟩
      have ne := cF z
      have h1 := List.length_pos_iff.mpr ne
      exact ⟨_, rfl, l, rfl, ⟨_, SqL.of hl2⟩, lc_pairs (fun p => p.1) hl2 hp2 h2 (fun p hp Q' hq => ⟨_, rfl, hq⟩) fun a3 H3 n3 => ⟨a3, _, rfl, SqL.of n3.at_, by rw [List.length_map]; omega, fun z m1 m2 => q _ H3 (s2.trans n3.same) (fun _ => ne) ⟨z, rfl, m1, m2⟩⟩⟩
    | 3, _, q, qn =>
      refine ⟨_, rfl, rfl, _, rfl, iteF ⟨_, rfl, rfl, _, rfl, iteF ⟨_, rfl, rfl, _, rfl, ite2 (fun z => qn H2 s2 (by omega) (cT z)) fun z => ⟨_, rfl, rfl, _, rfl, iteF ⟨_, rfl, rfl, _, rfl, iteT ?_⟩⟩⟩⟩⟩
      have ne := cF z
      have h1 := List.length_pos_iff.mpr ne
      exact ⟨_, rfl, l, rfl, ⟨_, SqL.of hl2⟩, lc_pairs (fun p => p.1) hl2 hp2 h2 (fun p hp Q' hq => ⟨_, rfl, hq⟩) fun a3 H3 n3 => ⟨a3, _, rfl, SqL.of n3.at_, by rw [List.length_map]; omega, fun z m1 m2 => q _ H3 (s2.trans n3.same) (fun _ => ne) ⟨z, rfl, m1, m2⟩⟩⟩
    | 4, _, q, qn =>
      refine ⟨_, rfl, rfl, _, rfl, iteF ⟨_, rfl, rfl, _, rfl, iteF ⟨_, rfl, rfl, _, rfl, ite2 (fun z => qn H2 s2 (by omega) (cT z)) fun z => ⟨_, rfl, rfl, _, rfl, iteF ⟨_, rfl, rfl, _, rfl, iteF ?_⟩⟩⟩⟩⟩
      have ne := cF z
      exact ⟨_, rfl, _, rfl, by show 2 ≤ sizeLine; decide, fun p H3 n3 => q _ H3 (s2.trans n3.same) (fun _ => ne) ⟨p, rfl, n3.at_⟩⟩
def sp_less44 : Sp := fun vs H Q _ => ∃ (k : Nat) (x y : V) (z n w m : Int), vs = [.str (wd k), x, y] ∧ FrAt H k x z n ∧ FrAt H k y w m ∧ Q (.bl (decide (z * m < w * n))) H
theorem D__law_less (T : Txt K mg C_Measure C_HowMany C_Total C_Least C_Greatest C_Mean C_BookError C_NoAsk C_NoAnswer) : DefOk P w K mg base 1 "_law_less" ["_law_word", "_law_one", "_law_other"] sp_less44 := by
  obtain ⟨f, fd, F, hm⟩ := T.f__law_less
  have nd := sc__law_less.nd
  refine F.def_ hm (F.ok sc__law_less (fun vs H Q E h => ?_) (fun cdv A outer s H vs Q E hr h => ?_)) (F.binds fun _ _ _ _ _ _ us hl => by obtain ⟨_, _, _, rfl⟩ := L2.lq3 hl; rfl)
  · obtain ⟨k, x, y, z, n, w, m, rfl, _⟩ := h; rfl
  · obtain ⟨k, x, y, z, n, w, m, rfl, hx, hy, q⟩ := h
    refine ⟨_, (pss_cons (ps_if (pt_cmpR op_eq (pv 0) pe_str (nomark _))
        (pss_one (ps_ret (pe_cmpR op_lt (pe_op op_mulB (pe_ix ix_tup (pv 1) pe_int (fun _ _ => rfl)) (pe_ix ix_tup (pv 2) pe_int (fun _ _ => rfl))) (pe_op op_mulB (pe_ix ix_tup (pv 2) pe_int (fun _ _ => rfl)) (pe_ix ix_tup (pv 1) pe_int (fun _ _ => rfl))) (nomark _))))
        pss_nil)
      (pss_one (ps_ret (pe_cmpR op_lt (pv 1) (pv 2) (nomark _))))), ?_⟩
    rcases hx with ⟨hk, rfl, rfl⟩ | ⟨rfl, p, rfl, hp, n0, n1, z0, z1⟩
    · rcases hy with ⟨_, rfl, rfl⟩ | ⟨e, _⟩
      · rw [Int.mul_one, Int.mul_one] at q
        refine ⟨_, rfl, rfl, _, rfl, ite2 (fun z => absurd z (by rw [str_ne (wd_ne hk)]; decide)) fun _ => ?_⟩
        exact ⟨_, rfl, _, rfl, _, _, rfl, rfl, q⟩
      · omega
    · rcases hy with ⟨e, _⟩ | ⟨_, r, rfl, hr', m0, m1, w0, w1⟩
      · omega
      · refine ⟨_, rfl, rfl, _, rfl, iteT ?_⟩
        refine ⟨_, rfl, p, _, _, _, rfl, rfl, SqT.of hp, rfl, _, rfl, r, _, _, _, rfl, rfl, SqT.of hr', rfl, _, _, rfl, rfl, (by unfold CMulB; omega), ?_⟩
        exact ⟨_, rfl, r, _, _, _, rfl, rfl, SqT.of hr', rfl, _, rfl, p, _, _, _, rfl, rfl, SqT.of hp, rfl, _, _, rfl, rfl, (by unfold CMulB; omega), _, _, rfl, rfl, q⟩
def sp_end43 : Sp := fun vs H Q _ => ∃ (k : Nat) (v : V), vs = [.str (wd k), v] ∧ ((k < 4 ∧ ∃ a, v = .int a) ∨ (k = 4 ∧ ∃ (p : Addr) (a b : Int), v = .ref p ∧ H p = some (.tup [.int a, .int b]) ∧ 1 ≤ b ∧ Nat.gcd a.natAbs b.natAbs = 1)) ∧ ∀ H', Same H H' → Q (.bl true) H'
theorem D__law_end (T : Txt K mg C_Measure C_HowMany C_Total C_Least C_Greatest C_Mean C_BookError C_NoAsk C_NoAnswer) : DefOk P w K mg base 3 "_law_end" ["_law_word", "_law_found"] sp_end43 := by
  obtain ⟨f, fd, F, hm⟩ := T.f__law_end
  have nd := sc__law_end.nd
  refine F.def_ hm (F.ok sc__law_end (fun vs H Q E h => ?_) (fun cdv A outer s H vs Q E hr h => ?_)) (F.binds fun _ _ _ _ _ _ us hl => by obtain ⟨_, _, rfl⟩ := L2.lq2 hl; rfl)
  · obtain ⟨k, v, rfl, _⟩ := h; rfl
  · obtain ⟨k, v, rfl, h, q⟩ := h
    refine ⟨_, (pss_cons (ps_if (pt_cmpR op_ne (pv 0) pe_str (nomark _))
        (pss_one (ps_ret (pe_fn (D__law_whole T) (hr.mono (by decide)) rfl (pa_cons (pv 1) pa_nil))))
        pss_nil)
      (pss_cons (ps_if (PW.pt (pw_or (pt_not (pt_val (pe_fn (D__law_tuple T) (hr.mono (by decide)) rfl (pa_cons (pv 1) (pa_cons pe_int pa_nil))))) (pw_or1 (pt_cmpR op_lt (pe_ix ix_tup (pv 1) pe_int (fun _ _ => rfl)) pe_int (nomark _)))))
        (pss_one (ps_ret pe_bl))
        pss_nil)
      (pss_cons (ps_par rfl nd (i := 2) (j := 3) rfl rfl (by decide) rfl rfl (pa_cons (pe_callB call_abs rfl T.b_abs bt_abs (pa_cons (pe_ix ix_tup (pv 1) pe_int (fun _ _ => rfl)) pa_nil)) (pa_cons (pe_ix ix_tup (pv 1) pe_int (fun _ _ => rfl)) pa_nil)) rfl)
      (pss_cons (ps_while PassesOwn.never (pt_cmpR op_gt (pv 3) pe_int (nomark _))
        (pss_one (ps_par rfl nd (i := 2) (j := 3) rfl rfl (by decide) rfl rfl (pa_cons (pv 3) (pa_cons (pe_op op_mod (pv 2) (pv 3)) pa_nil)) rfl)))
      (pss_one (ps_ret (pe_cmpR op_eq (pv 2) pe_int (nomark _)))))))), ?_⟩
    rcases h with ⟨hk, a, rfl⟩ | ⟨rfl, p, a, b, rfl, hp, hb, g⟩
    · refine ⟨_, rfl, rfl, _, rfl, ite2 (fun _ => ?_) fun z => absurd (by rw [str_ne (wd_ne hk)]; rfl) z⟩
      exact ⟨_, rfl, a, rfl, q H (Same.refl _)⟩
    · refine ⟨_, rfl, rfl, _, rfl, iteF ?_⟩
      refine ⟨_, rfl, p, [a, b], 2, rfl, hp, rfl, by omega, fun H1 s1 => ?_⟩
      have hp1 := s1 _ _ hp
      refine ⟨_, rfl, iteF ?_⟩
      refine ⟨_, rfl, p, _, _, _, rfl, rfl, SqT.of hp1, rfl, _, _, rfl, rfl, _, rfl, ite2 (fun z => ?_) fun _ => ?_⟩
      · have : b < 1 := by simpa using z
        omega
      have e1 : (if a < 0 then -a else a) = (a.natAbs : Int) := by split <;> omega
      have e2 : b = (b.natAbs : Int) := by omega
      refine ⟨_, rfl, p, _, _, _, rfl, rfl, SqT.of hp1, rfl, _, rfl, _, rfl, p, _, _, _, rfl, rfl, SqT.of hp1, rfl, _, _, rfl, ?_⟩
      refine while_by (fun σ H' => H' = H1 ∧ ∃ (x y : Nat), Nat.gcd x y = 1 ∧ σ = [some (.str (wd 4)), some (.ref p), some (.int x), some (.int y)]) (fun σ _ => match σ with | _ :: _ :: _ :: some (.int b) :: _ => b.toNat | _ => 0) ⟨rfl, a.natAbs, b.natAbs, g, by rw [← e1, ← e2]; rfl⟩ ?_ ?_
      · rintro σ H' ⟨rfl, x, y, e, rfl⟩
        refine ⟨_, rfl, _, _, rfl, rfl, _, rfl, ite2 (fun z => ?_) fun z => ?_⟩
        · have hy : 0 < y := by simpa using z
          have em : (x : Int) % (y : Int) = ((x % y : Nat) : Int) := (Int.natCast_emod x y).symm
          refine ⟨_, rfl, _, rfl, _, rfl, _, _, rfl, rfl, (by show (0 : Int) < (y : Int); omega), _, _, rfl, ?_⟩
          refine ⟨⟨rfl, y, x % y, by rw [← e, Nat.gcd_comm x y, Nat.gcd_rec y x, Nat.gcd_comm], by show _ = _; rw [← em]; rfl⟩, ?_⟩
          show ((x : Int) % (y : Int)).toNat < (y : Int).toNat
          rw [em]
          have := Nat.mod_lt x hy
          omega
        · have hy : y = 0 := by
            have : ¬ 0 < y := by simpa using z
            omega
          subst hy
          rw [Nat.gcd_zero_right] at e
          subst e
          exact ⟨_, rfl, rfl, q H' s1⟩
      · exact fun σ H Q Q' hq ⟨v, e, i, j, e1, e2, b, e3, h⟩ => ⟨v, e, i, j, e1, e2, b, e3, hq _ _ h⟩
inductive LL (H : Hp) : List V → List (List (Int × Int)) → Prop
  | nil : LL H [] []
  | cons {a : Addr} {ys xs : List V} {rs : List (Int × Int)} {rss : List (List (Int × Int))} : H a = some (.lst ys) → Pairs H ys rs → LL H xs rss → LL H (.ref a :: xs) (rs :: rss)
theorem LL.same {H H' : Hp} (s : Same H H') : ∀ {xs : List V} {rss : List (List (Int × Int))}, LL H xs rss → LL H' xs rss
  | _, _, .nil => .nil
  | _, _, .cons h p t => .cons (s _ _ h) (p.same s) (LL.same s t)
theorem LL.length {H : Hp} : ∀ {xs : List V} {rss : List (List (Int × Int))}, LL H xs rss → xs.length = rss.length
  | _, _, .nil => rfl
  | _, _, .cons _ _ t => by rw [List.length_cons, List.length_cons, LL.length t]
theorem LL.get {H : Hp} : ∀ {xs : List V} {rss : List (List (Int × Int))} {i : Nat} {x : V}, LL H xs rss → xs[i]? = some x → ∃ rs a ys, rss[i]? = some rs ∧ x = .ref a ∧ H a = some (.lst ys) ∧ Pairs H ys rs
  | _, _, 0, _, .cons h p _, e => by cases e; exact ⟨_, _, _, rfl, rfl, h, p⟩
  | _, _, i + 1, _, .cons _ _ t, e => LL.get (i := i) t e
theorem LL.snoc {H : Hp} {a : Addr} {ys : List V} {rs : List (Int × Int)} (h : H a = some (.lst ys)) (p : Pairs H ys rs) : ∀ {xs : List V} {rss : List (List (Int × Int))}, LL H xs rss → LL H (xs ++ [.ref a]) (rss ++ [rs])
  | _, _, .nil => .cons h p .nil
  | _, _, .cons h1 p1 t => .cons h1 p1 (LL.snoc h p t)
theorem LL.but {H H' : Hp} {l : Addr} (b : But l H H') (ts : TupS H H') : ∀ {xs : List V} {rss : List (List (Int × Int))}, (∀ a, V.ref a ∈ xs → a ≠ l) → LL H xs rss → LL H' xs rss
  | _, _, _, .nil => .nil
  | _, _, n, .cons h p t => .cons (b _ _ h (n _ List.mem_cons_self)) (p.tupS ts) (LL.but b ts (fun a ha => n a (List.mem_cons_of_mem _ ha)) t)
def RssOk (rss : List (List (Int × Int))) : Prop := ∀ rs ∈ rss, RunsT rs ∧ 1 ≤ rs.length ∧ rs.length ≤ 5
def sp_drawn44 : Sp := fun vs H Q _ => ∃ (c m : Int), vs = [.int c, .int m] ∧ 1 ≤ m ∧ m ≤ 5 ∧ ∀ p xs rss H', Same H H' → H' p = some (.lst xs) → LL H' xs rss → RssOk rss → 1 ≤ rss.length → rss.length ≤ 5 → Q (.ref p) H'
theorem D__law_drawn (T : Txt K mg C_Measure C_HowMany C_Total C_Least C_Greatest C_Mean C_BookError C_NoAsk C_NoAnswer) : DefOk P w K mg base 3 "_law_drawn" ["_law_cell", "_law_most"] sp_drawn44 := by
  obtain ⟨f, fd, F, hm⟩ := T.f__law_drawn
  have nd := sc__law_drawn.nd
  refine F.def_ hm (F.ok sc__law_drawn (fun vs H Q E h => ?_) (fun cdv A outer s H vs Q E hr h => ?_)) (F.binds fun _ _ _ _ _ _ us hl => by obtain ⟨_, _, rfl⟩ := L2.lq2 hl; rfl)
  · obtain ⟨c, m, rfl, _⟩ := h; rfl
  · obtain ⟨c, m, rfl, m1, m5, q⟩ := h
    refine ⟨_, (pss_cons (ps_set (i := 2) nd rfl (Or.inl rfl) (pe_lstN pa_nil))
      (pss_cons (ps_for PassesOwn.never rfl (pi_list (pe_fn (D__law_stream T) (hr.mono (by decide)) rfl (pa_cons (pv 0) (pa_cons (pe_op op_add pe_int (pe_op op_mod (pv 0) (pv 1))) pa_nil)))) (pg_name (i := 3) nd rfl (Or.inr rfl))
        (pss_one (ps_expr (pe_bm PySem.F.plainAttrs_list PySem.F.slot_list_append PySem.F.type_list_append mt_appendN (pv 2) (pa_cons (pe_lc (vars := ["_law_y"]) (frees := ["_law_x"]) (fv := [3]) rfl (lcOk rfl rfl (by decide +kernel) (by decide +kernel) (by intro p hp; simp only [List.mem_cons, List.not_mem_nil, or_false] at hp; rcases hp with rfl <;> rfl) rfl) ⟨⟨rfl, .inl rfl, rfl, .inl rfl⟩, trivial⟩ (pi_list (pe_fn (D__law_stream T) (hr.mono (by decide)) rfl (pa_cons (pe_op op_fdiv (pv 3) pe_int) (pa_cons (pe_op op_add pe_int (pe_op op_mod (pe_op op_fdiv (pv 3) pe_int) pe_int)) pa_nil)))) (gk_name (by decide)) (fun _ _ _ _ => (pg_name (i := 0) (show (["_law_y", "_law_x"] : List Str).Nodup by decide +kernel) rfl (Or.inl rfl))) (fun _ _ _ _ => pif_none) (fun _ _ _ _ => (pe_fn (D__law_run T) (hr.mono (by decide)) rfl (pa_cons (pv 0) (pa_cons (pe_op op_mod (pv 1) pe_int) pa_nil))))) pa_nil)))))
      (pss_one (ps_ret (pv 2))))), ?_⟩
    refine ⟨by show 0 ≤ sizeLine; decide, fun lf H1 n1 => ?_⟩
    have e0 := Int.emod_nonneg c (show m ≠ 0 by omega)
    have e1 := Int.emod_lt_of_pos c (show 0 < m by omega)
    obtain ⟨kk, hkk, kk1, kk5⟩ : ∃ kk : Nat, 1 + c % m = (kk : Int) ∧ 1 ≤ kk ∧ kk ≤ 5 := ⟨(1 + c % m).toNat, by omega, by omega, by omega⟩
    refine ⟨_, rfl, _, rfl, _, rfl, _, _, rfl, rfl, (by show 0 < m; omega), _, _, rfl, rfl, c, kk, congrArg (fun z => [V.int c, V.int z]) hkk, by omega, fun lz zs H2 n2 hz _ => ?_⟩
    have s12 := n1.same.trans n2.same
    have fz : ∀ {H' : Hp}, Same H2 H' → H' lz = some (.lst (zs.map V.int)) := fun s => s _ _ n2.at_
    refine ⟨lz, rfl, ⟨_, SqL.of n2.at_⟩, for_list (xs := zs.map V.int) (fun i σ H3 => Same H H3 ∧ H3 lz = some (.lst (zs.map V.int)) ∧ ∃ (xs : List V) (rss : List (List (Int × Int))) (v3 : Option V), H3 lf = some (.lst xs) ∧ LL H3 xs rss ∧ (∀ a, V.ref a ∈ xs → a ≠ lf) ∧ RssOk rss ∧ rss.length = i ∧ σ = [some (.int c), some (.int m), some (.ref lf), v3]) ⟨s12, n2.at_, [], [], none, n2.same _ _ n1.at_, .nil, (fun a ha => by cases ha), (fun r hr => by cases hr), rfl, rfl⟩ (fun i σ H3 _ h3 => SqL.of h3.2.1) ?_ ?_⟩
    · rintro i x σ H3 hi ⟨s3, hz3, xs, rss, v3, hf3, ll, nx, ro, lr, rfl⟩
      have hil : i < zs.length := by have := (List.getElem?_eq_some_iff.mp hi).1; rwa [List.length_map] at this
      rw [List.getElem?_map] at hi
      obtain ⟨w, _, rfl⟩ := Option.map_eq_some_iff.mp hi
      obtain ⟨jj, hjj, jj1, jj5⟩ : ∃ jj : Nat, 1 + w / 36 % 5 = (jj : Int) ∧ 1 ≤ jj ∧ jj ≤ 5 := ⟨(1 + w / 36 % 5).toNat, by omega, by omega, by omega⟩
      refine gname_ ?_
      refine ⟨_, rfl, .inl ⟨rfl, _, SqL.of hf3⟩, ?_⟩
      refine ⟨_, rfl, _, _, rfl, rfl, ⟨by decide, by decide⟩, _, rfl, _, _, rfl, rfl, ⟨by decide, by decide⟩, _, _, rfl, rfl, (by show (0 : Int) < 5; decide), _, _, rfl, rfl, w / 6, jj, congrArg (fun z => [V.int (w / 6), V.int z]) hjj, by omega, fun l5 xs5 H5 n5 hx5 _ => ?_⟩
      have hx5 : xs5.length = jj := hx5
      refine ⟨l5, rfl, ⟨_, SqL.of n5.at_⟩, lc_runs n5.at_ (by omega) (fun m G Q' sG q' => ⟨_, rfl, _, rfl, _, _, rfl, rfl, (by show (0 : Int) < 6; decide), m, w % 6, rfl, by omega, by omega, fun b p G' g' op => q' b p G' g' op⟩) fun b ys r H6 H7 s6 n7 pq okq lq => ?_⟩
      have s37 := n5.same.trans (s6.trans n7.same)
      have hf7 := s37 _ _ hf3
      have nb : b ≠ lf := (ne_of_none ((n5.same.trans s6) _ _ hf3) n7.fresh).symm
      have lx := ll.length
      refine ⟨lf, xs, _, rfl, rfl, hf7, small1000 (by omega), fun H8 b8 h8 => ?_⟩
      have ts : TupS H7 H8 := fun x xs e => b8 _ _ e (ne_of e hf7 (by intro z; cases z))
      have nzf : lz ≠ lf := (ne_of_none n1.at_ n2.fresh).symm
      refine ⟨b8.same (s3.trans s37) n1.fresh, b8 _ _ (s37 _ _ hz3) nzf, _, rss ++ [r], _, h8, LL.snoc (b8 _ _ n7.at_ nb) (pq.tupS ts) ((ll.same s37).but b8 ts nx), fun a ha => ?_, fun x hx => ?_, by rw [List.length_append, lr]; rfl, rfl⟩
      · rcases List.mem_append.mp ha with y | y
        · exact nx a y
        · cases List.mem_singleton.mp y; exact nb
      · rcases List.mem_append.mp hx with y | y
        · exact ro x y
        · rw [List.mem_singleton.mp y]
          exact ⟨okq, by omega, by omega⟩
    · rintro σ H3 ⟨s3, hz3, xs, rss, v3, hf3, ll, nx, ro, lr, rfl⟩
      rw [List.length_map] at lr
      have hz : zs.length = kk := hz
      exact ⟨_, rfl, q lf xs rss H3 s3 hf3 ll ro (by omega) (by omega)⟩
theorem rep_snoc (b : Bool) (i : Nat) : (List.replicate (i + 1) b).map V.bl = (List.replicate i b).map V.bl ++ [V.bl b] := by
  rw [List.replicate_succ', List.map_append]; rfl
theorem FrAt.end_ {H : Hp} {k : Nat} {v : V} {z n : Int} (h : FrAt H k v z n) (l : LowK k z n) : (k < 4 ∧ ∃ a, v = .int a) ∨ (k = 4 ∧ ∃ (p : Addr) (a b : Int), v = .ref p ∧ H p = some (.tup [.int a, .int b]) ∧ 1 ≤ b ∧ Nat.gcd a.natAbs b.natAbs = 1) := by
  rcases h with ⟨hk, e, _⟩ | ⟨hk, p, e, hp, n1, _⟩
  · exact .inl ⟨hk, z, e⟩
  · exact .inr ⟨hk, p, z, n, e, hp, n1, l hk⟩
end
section
variable {P : Program} {w : World} {K : PySem.W.Frag} {mg : Str → Option Value} {base : Heap} {C_Measure C_HowMany C_Total C_Least C_Greatest C_Mean C_BookError C_NoAsk C_NoAnswer : Addr}
def sp_takes (k : Nat) : Sp := fun vs H Q _ => ∃ (me : Addr) (v : Int) (e : V) (z n : Int) (b : Bool), vs = [.ref me, .int v, e, .bl b] ∧ FrAt H k e z n ∧ (-(10 ^ 100) < v ∧ v < 10 ^ 100) ∧ Q (.bl (tkB k b z n v)) H
theorem D_HowMany_takes (T : Txt K mg C_Measure C_HowMany C_Total C_Least C_Greatest C_Mean C_BookError C_NoAsk C_NoAnswer) : MetOk P w K mg base C_HowMany 1 "takes" ["self", "value", "end", "high"] (sp_takes 0) := by
  obtain ⟨f, fd, F, hm⟩ := T.f_HowMany_takes
  have nd := sc_HowMany_takes.nd
  refine ⟨f, fd, (F.ok sc_HowMany_takes (fun vs H Q E h => ?_) (fun cdv A outer s H vs Q E hr h => ?_)), hm, (F.binds fun _ _ _ _ _ _ us hl => by obtain ⟨_, _, _, _, rfl⟩ := L2.lq4 hl; rfl)⟩
  · obtain ⟨me, v, e, z, n, b, rfl, _⟩ := h; rfl
  · obtain ⟨me, v, e, z, n, b, rfl, fr, bd, q⟩ := h
    refine ⟨_, (pss_one (ps_ret (pv 3))), ?_⟩
    exact ⟨_, rfl, q⟩
theorem D_Total_takes (T : Txt K mg C_Measure C_HowMany C_Total C_Least C_Greatest C_Mean C_BookError C_NoAsk C_NoAnswer) : MetOk P w K mg base C_Total 1 "takes" ["self", "value", "end", "high"] (sp_takes 1) := by
  obtain ⟨f, fd, F, hm⟩ := T.f_Total_takes
  have nd := sc_Total_takes.nd
  refine ⟨f, fd, (F.ok sc_Total_takes (fun vs H Q E h => ?_) (fun cdv A outer s H vs Q E hr h => ?_)), hm, (F.binds fun _ _ _ _ _ _ us hl => by obtain ⟨_, _, _, _, rfl⟩ := L2.lq4 hl; rfl)⟩
  · obtain ⟨me, v, e, z, n, b, rfl, _⟩ := h; rfl
  · obtain ⟨me, v, e, z, n, b, rfl, fr, bd, q⟩ := h
    refine ⟨_, (pss_one (ps_ret (pe_ifExp (pt_val (pv 3)) (pe_cmpR op_gt (pv 1) pe_int (nomark _)) (pe_cmpR op_lt (pv 1) pe_int (nomark _))))), ?_⟩
    cases b with
    | true => exact ⟨_, rfl, _, rfl, iteT ⟨_, rfl, _, _, rfl, rfl, q⟩⟩
    | false => exact ⟨_, rfl, _, rfl, iteF ⟨_, rfl, _, _, rfl, rfl, q⟩⟩
theorem D_Least_takes (T : Txt K mg C_Measure C_HowMany C_Total C_Least C_Greatest C_Mean C_BookError C_NoAsk C_NoAnswer) : MetOk P w K mg base C_Least 1 "takes" ["self", "value", "end", "high"] (sp_takes 2) := by
  obtain ⟨f, fd, F, hm⟩ := T.f_Least_takes
  have nd := sc_Least_takes.nd
  refine ⟨f, fd, (F.ok sc_Least_takes (fun vs H Q E h => ?_) (fun cdv A outer s H vs Q E hr h => ?_)), hm, (F.binds fun _ _ _ _ _ _ us hl => by obtain ⟨_, _, _, _, rfl⟩ := L2.lq4 hl; rfl)⟩
  · obtain ⟨me, v, e, z, n, b, rfl, _⟩ := h; rfl
  · obtain ⟨me, v, e, z, n, b, rfl, fr, bd, q⟩ := h
    refine ⟨_, (pss_one (ps_ret (pe_cmpR op_ge (pv 1) (pv 2) (nomark _)))), ?_⟩
    rcases fr with ⟨_, rfl, _⟩ | ⟨e4, _⟩
    · exact ⟨_, rfl, _, rfl, _, _, rfl, rfl, q⟩
    · exact absurd e4 (by decide)
theorem D_Greatest_takes (T : Txt K mg C_Measure C_HowMany C_Total C_Least C_Greatest C_Mean C_BookError C_NoAsk C_NoAnswer) : MetOk P w K mg base C_Greatest 1 "takes" ["self", "value", "end", "high"] (sp_takes 3) := by
  obtain ⟨f, fd, F, hm⟩ := T.f_Greatest_takes
  have nd := sc_Greatest_takes.nd
  refine ⟨f, fd, (F.ok sc_Greatest_takes (fun vs H Q E h => ?_) (fun cdv A outer s H vs Q E hr h => ?_)), hm, (F.binds fun _ _ _ _ _ _ us hl => by obtain ⟨_, _, _, _, rfl⟩ := L2.lq4 hl; rfl)⟩
  · obtain ⟨me, v, e, z, n, b, rfl, _⟩ := h; rfl
  · obtain ⟨me, v, e, z, n, b, rfl, fr, bd, q⟩ := h
    refine ⟨_, (pss_one (ps_ret (pe_cmpR op_le (pv 1) (pv 2) (nomark _)))), ?_⟩
    rcases fr with ⟨_, rfl, _⟩ | ⟨e4, _⟩
    · exact ⟨_, rfl, _, rfl, _, _, rfl, rfl, q⟩
    · exact absurd e4 (by decide)
theorem D_Mean_takes (T : Txt K mg C_Measure C_HowMany C_Total C_Least C_Greatest C_Mean C_BookError C_NoAsk C_NoAnswer) : MetOk P w K mg base C_Mean 1 "takes" ["self", "value", "end", "high"] (sp_takes 4) := by
  obtain ⟨f, fd, F, hm⟩ := T.f_Mean_takes
  have nd := sc_Mean_takes.nd
  refine ⟨f, fd, (F.ok sc_Mean_takes (fun vs H Q E h => ?_) (fun cdv A outer s H vs Q E hr h => ?_)), hm, (F.binds fun _ _ _ _ _ _ us hl => by obtain ⟨_, _, _, _, rfl⟩ := L2.lq4 hl; rfl)⟩
  · obtain ⟨me, v, e, z, n, b, rfl, _⟩ := h; rfl
  · obtain ⟨me, v, e, z, n, b, rfl, fr, bd, q⟩ := h
    refine ⟨_, (pss_cons (ps_set (i := 4) nd rfl (Or.inl rfl) (pe_ix ix_tup (pv 2) pe_int (fun _ _ => rfl)))
      (pss_cons (ps_set (i := 5) nd rfl (Or.inl rfl) (pe_ix ix_tup (pv 2) pe_int (fun _ _ => rfl)))
      (pss_one (ps_ret (pe_ifExp (pt_val (pv 3)) (pe_cmpR op_ge (pe_op op_mulB (pv 1) (pv 5)) (pv 4) (nomark _)) (pe_cmpR op_le (pe_op op_mulB (pv 1) (pv 5)) (pv 4) (nomark _))))))), ?_⟩
    rcases fr with ⟨e4, _⟩ | ⟨_, p, rfl, hp, n1, n2, z1, z2⟩
    · exact absurd e4 (by decide)
    have cm : CMulB v n := by unfold CMulB; omega
    refine ⟨_, rfl, p, _, _, _, rfl, rfl, SqT.of hp, rfl, _, rfl, p, _, _, _, rfl, rfl, SqT.of hp, rfl, ?_⟩
    cases b with
    | true => exact ⟨_, rfl, _, rfl, iteT ⟨_, rfl, _, rfl, _, _, rfl, rfl, cm, _, rfl, _, _, rfl, rfl, q⟩⟩
    | false => exact ⟨_, rfl, _, rfl, iteF ⟨_, rfl, _, rfl, _, _, rfl, rfl, cm, _, rfl, _, _, rfl, rfl, q⟩⟩
def wTk (k : Nat) (b : Bool) (z n : Int) (h : HP4) : List (Int × Int) := (wOf h).filter fun p => tkB k b z n p.1
def sp_taken (C : Nat → Addr) : Sp := fun vs H Q _ => ∃ (me dx a : Addr) (h : HP4) (k : Nat) (e : V) (z n : Int) (b : Bool), vs = [.ref me, .ref a, e, .bl b] ∧ k < 5 ∧ H me = some (.ins (C k) dx []) ∧ H a = some (.tup ((j4 h).map V.int)) ∧ CanBe h.1 h.2.1 h.2.2.1 h.2.2.2 ∧ HBd h.1 h.2.2.1 h.2.2.2 ∧ FrAt H k e z n ∧ ∀ l ys H1 H', Same H H1 → New H1 H' l (.lst ys) → Pairs H' ys (wTk k b z n h) → Q (.ref l) H'
theorem G_Measure_taken (T : Txt K mg C_Measure C_HowMany C_Total C_Least C_Greatest C_Mean C_BookError C_NoAsk C_NoAnswer) : ∃ f fd, FnOk P w K mg base CX0 3 f fd ["self", "part", "end", "high"] (sp_taken (clsK C_HowMany C_Total C_Least C_Greatest C_Mean)) ∧ Meth K C_Measure "taken" f ∧ Meth K C_HowMany "taken" f ∧ Meth K C_Total "taken" f ∧ Meth K C_Least "taken" f ∧ Meth K C_Greatest "taken" f ∧ Meth K C_Mean "taken" f ∧ Binds K fd ["self", "part", "end", "high"] [] := by
  obtain ⟨f, fd, F, hm, m0, m1, m2, m3, m4⟩ := T.f_Measure_taken
  have nd := sc_Measure_taken.nd
  refine ⟨f, fd, (F.ok sc_Measure_taken (fun vs H Q E h => ?_) (fun cdv A outer s H vs Q E hr h => ?_)), hm, m0, m1, m2, m3, m4, (F.binds fun _ _ _ _ _ _ us hl => by obtain ⟨_, _, _, _, rfl⟩ := L2.lq4 hl; rfl)⟩
  · obtain ⟨me, dx, a, h, k, e, z, n, b, rfl, _⟩ := h; rfl
  · obtain ⟨me, dx, a, h, k, e, z, n, b, rfl, hk, hme, ha, cb, hb, fr, q⟩ := h
    refine ⟨_, (pss_one (ps_ret (pe_lc (vars := ["run"]) (frees := ["end", "high", "self"]) (fv := [2, 3, 0]) rfl (lcOk rfl rfl (by decide +kernel) (by decide +kernel) (by intro p hp; simp only [List.mem_cons, List.not_mem_nil, or_false] at hp; rcases hp with rfl | rfl | rfl <;> rfl) rfl) ⟨⟨rfl, .inl rfl, rfl, .inl rfl⟩, ⟨⟨rfl, .inl rfl, rfl, .inl rfl⟩, ⟨⟨rfl, .inl rfl, rfl, .inl rfl⟩, trivial⟩⟩⟩ (pi_list (pe_fn (D_widest T) (hr.mono (by decide)) rfl (pa_cons (pv 1) pa_nil))) (gk_name (by decide)) (fun _ _ _ _ => (pg_name (i := 0) (show (["run", "end", "high", "self"] : List Str).Nodup by decide +kernel) rfl (Or.inl rfl))) (fun _ _ _ _ => (pif_one (pt_val (pe_alt (pe_mt (pv 3) T.cl_HowMany (D_HowMany_takes T) (hr.mono (by decide)) (pa_cons (pe_ix (show IxR _ (rIxT K) from ix_tup) (pv 0) pe_int (fun _ _ => rfl)) (pa_cons (pv 1) (pa_cons (pv 2) pa_nil)))) (pe_alt (pe_mt (pv 3) T.cl_Total (D_Total_takes T) (hr.mono (by decide)) (pa_cons (pe_ix (show IxR _ (rIxT K) from ix_tup) (pv 0) pe_int (fun _ _ => rfl)) (pa_cons (pv 1) (pa_cons (pv 2) pa_nil)))) (pe_alt (pe_mt (pv 3) T.cl_Least (D_Least_takes T) (hr.mono (by decide)) (pa_cons (pe_ix (show IxR _ (rIxT K) from ix_tup) (pv 0) pe_int (fun _ _ => rfl)) (pa_cons (pv 1) (pa_cons (pv 2) pa_nil)))) (pe_alt (pe_mt (pv 3) T.cl_Greatest (D_Greatest_takes T) (hr.mono (by decide)) (pa_cons (pe_ix (show IxR _ (rIxT K) from ix_tup) (pv 0) pe_int (fun _ _ => rfl)) (pa_cons (pv 1) (pa_cons (pv 2) pa_nil)))) (pe_mt (pv 3) T.cl_Mean (D_Mean_takes T) (hr.mono (by decide)) (pa_cons (pe_ix (show IxR _ (rIxT K) from ix_tup) (pv 0) pe_int (fun _ _ => rfl)) (pa_cons (pv 1) (pa_cons (pv 2) pa_nil))))))))))) (fun _ _ _ _ => (pv 0))))), ?_⟩
    refine ⟨_, rfl, a, h.1, h.2.1, h.2.2.1, h.2.2.2, rfl, ha, cb, hb, fun l xs H1 H2 s1 n2 pr => ⟨l, rfl, ⟨_, SqL.of n2.at_⟩, ?_⟩⟩
    have s2 := s1.trans n2.same
    have hme2 := s2 _ _ hme
    have fr2 := fr.same s2
    have W := WRow.of cb
    have pr : Pairs H2 xs (wOf h) := pr
    have lx := pr.length
    have lw : (wOf h).length ≤ 3 := W.len.2
    refine lc_listN (xs := xs) (fun i ys H3 => H3 = H2 ∧ Pairs H2 ys (((wOf h).take i).filter fun p => tkB k b z n p.1)) (Nat.le_of_lt (small1000 (by omega))) ⟨rfl, .nil⟩ (fun i ys H3 h3 => ⟨SqL.of (by rw [h3.1]; exact n2.at_), ?_⟩) ?_ ?_
    · rw [h3.2.length]
      exact Nat.le_trans (List.length_filter_le _ _) (by rw [List.length_take]; omega)
    · rintro i x ys H3 hi ⟨rfl, py⟩
      obtain ⟨p, hpi, a', rfl, ha'⟩ := pr.get hi
      have wk := W.ok hpi
      unfold HBd at hb
      refine gname_ ?_
      refine alt5 (sp := sp_takes) k hk ⟨_, rfl, me, dx, _, rfl, hme2, rfl, _, rfl, a', _, _, _, rfl, rfl, SqT.of ha', rfl, _, rfl, _, rfl, ?_⟩
      refine ⟨me, p.1, e, z, n, b, rfl, fr2, ⟨by omega, by omega⟩, _, rfl, ite2 (fun y => ?_) fun y => ?_⟩
      · refine ⟨_, rfl, rfl, ?_⟩
        rw [takeN (wOf h) i p hpi, List.filter_append, List.filter_cons_of_pos (p := fun p : Int × Int => tkB k b z n p.1) y]
        exact Pairs.snoc ⟨a', rfl, ha'⟩ py
      · refine ⟨rfl, ?_⟩
        rw [takeN (wOf h) i p hpi, List.filter_append, List.filter_cons_of_neg (p := fun p : Int × Int => tkB k b z n p.1) y, List.filter_nil, List.append_nil]
        exact py
    · rintro ys H3 l3 H' ⟨rfl, py⟩ n3
      rw [lx, List.take_length] at py
      exact q l3 ys H3 H' s2 n3 (py.same n3.same)
theorem D_HowMany_taken (T : Txt K mg C_Measure C_HowMany C_Total C_Least C_Greatest C_Mean C_BookError C_NoAsk C_NoAnswer) : MetOk P w K mg base C_HowMany 3 "taken" ["self", "part", "end", "high"] (sp_taken (clsK C_HowMany C_Total C_Least C_Greatest C_Mean)) :=
  let ⟨f, fd, F, _, m, _, _, _, _, b⟩ := G_Measure_taken T
  ⟨f, fd, F, m, b⟩
theorem D_Total_taken (T : Txt K mg C_Measure C_HowMany C_Total C_Least C_Greatest C_Mean C_BookError C_NoAsk C_NoAnswer) : MetOk P w K mg base C_Total 3 "taken" ["self", "part", "end", "high"] (sp_taken (clsK C_HowMany C_Total C_Least C_Greatest C_Mean)) :=
  let ⟨f, fd, F, _, _, m, _, _, _, b⟩ := G_Measure_taken T
  ⟨f, fd, F, m, b⟩
theorem D_Least_taken (T : Txt K mg C_Measure C_HowMany C_Total C_Least C_Greatest C_Mean C_BookError C_NoAsk C_NoAnswer) : MetOk P w K mg base C_Least 3 "taken" ["self", "part", "end", "high"] (sp_taken (clsK C_HowMany C_Total C_Least C_Greatest C_Mean)) :=
  let ⟨f, fd, F, _, _, _, m, _, _, b⟩ := G_Measure_taken T
  ⟨f, fd, F, m, b⟩
theorem D_Greatest_taken (T : Txt K mg C_Measure C_HowMany C_Total C_Least C_Greatest C_Mean C_BookError C_NoAsk C_NoAnswer) : MetOk P w K mg base C_Greatest 3 "taken" ["self", "part", "end", "high"] (sp_taken (clsK C_HowMany C_Total C_Least C_Greatest C_Mean)) :=
  let ⟨f, fd, F, _, _, _, _, m, _, b⟩ := G_Measure_taken T
  ⟨f, fd, F, m, b⟩
theorem D_Mean_taken (T : Txt K mg C_Measure C_HowMany C_Total C_Least C_Greatest C_Mean C_BookError C_NoAsk C_NoAnswer) : MetOk P w K mg base C_Mean 3 "taken" ["self", "part", "end", "high"] (sp_taken (clsK C_HowMany C_Total C_Least C_Greatest C_Mean)) :=
  let ⟨f, fd, F, _, _, _, _, _, m, b⟩ := G_Measure_taken T
  ⟨f, fd, F, m, b⟩
theorem FrAt.ne_non {H : Hp} {k : Nat} {v : V} {z n : Int} (h : FrAt H k v z n) : v ≠ .non := by
  rcases h with ⟨_, e, _⟩ | ⟨_, p, e, _⟩ <;> rw [e] <;> intro y <;> cases y
def sp_chosenG (C : Nat → Addr) : Sp := fun vs H Q E => ∃ (me l p dx : Addr) (xs ys : List V) (hs ps : List HP4) (k : Nat) (b : Bool), vs = [.ref me, .ref l, .ref p, .bl b] ∧ k < 5 ∧ H me = some (.ins (C k) dx []) ∧ H l = some (.lst xs) ∧ Tups H xs (hs.map j4) ∧ HsOk hs ∧ (∀ h ∈ hs, h.2.2.1 ≤ h.2.2.2) ∧ H p = some (.lst ys) ∧ Tups H ys (ps.map j4) ∧ PsOk ps ∧ (hs ≠ [] ∨ ps ≠ []) ∧
  ∀ q zs x y z1 n1 z2 n2 z n H0 H', TF H0 k hs ps x y z1 n1 z2 n2 → z = (if b = true then z2 else z1) → n = (if b = true then n2 else n1) → Same H H' → H q = none → H' q = some (.lst zs) → LL H' zs (ps.map (wTk k b z n)) → (∀ a, V.ref a ∈ zs → H a = none ∧ a ≠ q) → Q (.ref q) H'
theorem fresh_of {H H1 : Hp} {a : Addr} (s : Same H H1) (h : H1 a = none) : H a = none := by
  cases e : H a with
  | none => rfl
  | some o => rw [s _ _ e] at h; cases h
theorem lc_taken {K : PySem.W.Frag} {l : Addr} {xs : List V} {ps : List HP4} {te : TE} {Q : VK} {σ : St} {H : Hp} (f : HP4 → List (Int × Int)) (hl : H l = some (.lst xs)) (tp : Tups H xs (ps.map j4)) (ln : ps.length ≤ 40)
    (hs : ∀ a h H2 (Q' : VK), h ∈ ps → Same H H2 → H2 a = some (.tup ((j4 h).map V.int)) → (∀ b ys H3 H4, Same H2 H3 → New H3 H4 b (.lst ys) → Pairs H4 ys (f h) → Q' (.ref b) H4) → te (σ.set 0 (some (.ref a))) H2 Q')
    (hd : ∀ a zs H1 H', Same H H1 → New H1 H' a (.lst zs) → LL H' zs (ps.map f) → (∀ b, V.ref b ∈ zs → H b = none ∧ b ≠ a) → Q (.ref a) H') : lcGoal (Itl K l) Q (gName 0) tYes te σ H := by
  have hxl : xs.length = ps.length := by rw [tp.length, List.length_map]
  refine lc_listN (xs := xs) (fun i zs H2 => Same H H2 ∧ LL H2 zs ((ps.take i).map f) ∧ ∀ b, V.ref b ∈ zs → H b = none ∧ ∃ o, H2 b = some o) (Nat.le_of_lt (small1000 (by omega))) ⟨Same.refl _, .nil, fun b hb => by cases hb⟩ (fun i zs H2 h2 => ⟨SqL.of (h2.1 _ _ hl), by rw [h2.2.1.length, List.length_map, List.length_take]; omega⟩) ?_ ?_
  · rintro i x zs H2 hi ⟨s2, ll, fz⟩
    obtain ⟨j, hji, a, rfl, ha⟩ := tp.get hi
    rw [List.getElem?_map] at hji
    obtain ⟨h, hh, rfl⟩ := Option.map_eq_some_iff.mp hji
    refine gname_ (yes_ (iteT (hs a h H2 _ (List.mem_of_getElem? hh) s2 (s2 _ _ ha) fun b ys H3 H4 s3 n4 py => ⟨s2.trans (s3.trans n4.same), ?_, fun c hc => ?_⟩)))
    · rw [takeN ps i h hh, List.map_append]
      exact LL.snoc n4.at_ py (ll.same (s3.trans n4.same))
    · rcases List.mem_append.mp hc with y | y
      · obtain ⟨e1, o, e2⟩ := fz c y
        exact ⟨e1, o, (s3.trans n4.same) _ _ e2⟩
      · cases List.mem_singleton.mp y
        exact ⟨fresh_of (s2.trans s3) n4.fresh, _, n4.at_⟩
  · rintro zs H2 a H' ⟨s2, ll, fz⟩ n
    rw [hxl, List.take_length] at ll
    refine hd a zs H2 H' s2 n (ll.same n.same) fun b hb => ?_
    obtain ⟨e1, o, e2⟩ := fz b hb
    exact ⟨e1, ne_of_none e2 n.fresh⟩
theorem G_Measure_chosen (T : Txt K mg C_Measure C_HowMany C_Total C_Least C_Greatest C_Mean C_BookError C_NoAsk C_NoAnswer) : ∃ f fd, FnOk P w K mg base (CX1 P w) 5 f fd ["self", "known", "parts", "high"] (sp_chosenG (clsK C_HowMany C_Total C_Least C_Greatest C_Mean)) ∧ Meth K C_Measure "chosen" f ∧ Meth K C_HowMany "chosen" f ∧ Meth K C_Total "chosen" f ∧ Meth K C_Least "chosen" f ∧ Meth K C_Greatest "chosen" f ∧ Meth K C_Mean "chosen" f ∧ Binds K fd ["self", "known", "parts", "high"] [] := by
  obtain ⟨f, fd, F, hm, m0, m1, m2, m3, m4⟩ := T.f_Measure_chosen
  have nd := sc_Measure_chosen.nd
  refine ⟨f, fd, (F.okX sc_Measure_chosen (fun vs H Q E h => ?_) (fun cdv A outer s H vs Q E hr h => ?_)), hm, m0, m1, m2, m3, m4, (F.binds fun _ _ _ _ _ _ us hl => by obtain ⟨_, _, _, _, rfl⟩ := L2.lq4 hl; rfl)⟩
  · obtain ⟨me, l, p, dx, xs, ys, hs, ps, k, b, rfl, _⟩ := h; rfl
  · obtain ⟨me, l, p, dx, xs, ys, hs, ps, k, b, rfl, hk, hme, hl, tk, ok, le, hp, tp, pok, ne, q⟩ := h
    have ln := pok.2.1.1
    refine ⟨_, (pss_cons (ps_set (i := 4) nd rfl (Or.inl rfl) (pe_alt (pe_mt (pv 0) T.cl_HowMany (D_HowMany_told T) (hr.mono (by decide)) (pa_cons (pv 1) (pa_cons (pv 2) pa_nil))) (pe_alt (pe_mt (pv 0) T.cl_Total (D_Total_told T) (hr.mono (by decide)) (pa_cons (pv 1) (pa_cons (pv 2) pa_nil))) (pe_alt (pe_mt (pv 0) T.cl_Least (D_Least_told T) (hr.mono (by decide)) (pa_cons (pv 1) (pa_cons (pv 2) pa_nil))) (pe_alt (pe_mt (pv 0) T.cl_Greatest (D_Greatest_told T) (hr.mono (by decide)) (pa_cons (pv 1) (pa_cons (pv 2) pa_nil))) (pe_mt (pv 0) T.cl_Mean (D_Mean_told T) (hr.mono (by decide)) (pa_cons (pv 1) (pa_cons (pv 2) pa_nil))))))))
      (pss_cons (ps_set (i := 5) nd rfl (Or.inr rfl) (pe_ifExp (pt_val (pv 3)) (pe_ix ix_tup (pv 4) pe_int (fun _ _ => rfl)) (pe_ix ix_tup (pv 4) pe_int (fun _ _ => rfl))))
      (pss_cons (ps_if (pt_cmpR op_isN (pv 5) pe_non (nomark _))
        (pss_one (ps_raise (wants_wish ⟨rfl, rfl, rfl⟩) rfl T.ex_NoAnswer rfl T.mg_NoAnswer (pa_cons pe_str pa_nil)))
        pss_nil)
      (pss_one (ps_ret (pe_lc (vars := ["part"]) (frees := ["end", "high", "self"]) (fv := [5, 3, 0]) rfl (lcOk rfl rfl (by decide +kernel) (by decide +kernel) (by intro p hp; simp only [List.mem_cons, List.not_mem_nil, or_false] at hp; rcases hp with rfl | rfl | rfl <;> rfl) rfl) ⟨⟨rfl, .inl rfl, rfl, .inl rfl⟩, ⟨⟨rfl, .inl rfl, rfl, .inl rfl⟩, ⟨⟨rfl, .inl rfl, rfl, .inl rfl⟩, trivial⟩⟩⟩ (pi_list (pv 2)) (gk_name (by decide)) (fun _ _ _ _ => (pg_name (i := 0) (show (["part", "end", "high", "self"] : List Str).Nodup by decide +kernel) rfl (Or.inl rfl))) (fun _ _ _ _ => pif_none) (fun _ _ _ _ => (pe_alt (pe_mt (pv 3) T.cl_HowMany (D_HowMany_taken T) (hr.mono (by decide)) (pa_cons (pv 0) (pa_cons (pv 1) (pa_cons (pv 2) pa_nil)))) (pe_alt (pe_mt (pv 3) T.cl_Total (D_Total_taken T) (hr.mono (by decide)) (pa_cons (pv 0) (pa_cons (pv 1) (pa_cons (pv 2) pa_nil)))) (pe_alt (pe_mt (pv 3) T.cl_Least (D_Least_taken T) (hr.mono (by decide)) (pa_cons (pv 0) (pa_cons (pv 1) (pa_cons (pv 2) pa_nil)))) (pe_alt (pe_mt (pv 3) T.cl_Greatest (D_Greatest_taken T) (hr.mono (by decide)) (pa_cons (pv 0) (pa_cons (pv 1) (pa_cons (pv 2) pa_nil)))) (pe_mt (pv 3) T.cl_Mean (D_Mean_taken T) (hr.mono (by decide)) (pa_cons (pv 0) (pa_cons (pv 1) (pa_cons (pv 2) pa_nil))))))))))))))), ?_⟩
    refine alt5 (sp := sp_toldG) k hk ⟨_, rfl, me, dx, _, rfl, hme, rfl, _, rfl, _, rfl, ?_⟩
    refine ⟨me, l, p, xs, ys, hs, ps, rfl, hl, tk, ok, hp, tp, pok, fun t x y H1 s1 ht told => ?_⟩
    obtain ⟨z1, n1, z2, n2, f⟩ := told_can hk ok le pok ne told
    have hme1 := s1 _ _ hme
    have hp1 := s1 _ _ hp
    have tp1 := tp.same s1
    cases b with
    | true =>
      refine ⟨_, rfl, _, rfl, iteT ?_⟩
      refine ⟨_, rfl, t, _, 1, _, rfl, rfl, SqT.of ht, rfl, ?_⟩
      refine ⟨_, rfl, rfl, _, rfl, ite2 (fun z => absurd (by simpa using z) f.y.ne_non) fun _ => ?_⟩
      refine ⟨_, rfl, p, rfl, ⟨_, SqL.of hp1⟩, lc_taken (wTk k true z2 n2) hp1 tp1 (by omega) (fun a h H2 Q' hh s2 ha q' => ?_) fun qa zs H2 H3 s2 n3 ll fz => ?_⟩
      · exact alt5 (sp := fun _ => sp_taken (clsK C_HowMany C_Total C_Least C_Greatest C_Mean)) k hk ⟨_, rfl, me, dx, _, rfl, s2 _ _ hme1, rfl, _, rfl, _, rfl, _, rfl, me, dx, a, h, k, y, z2, n2, true, rfl, hk, s2 _ _ hme1, ha, (pok.2.2 h hh).1, (pok.2.2 h hh).2, f.y.same s2, q'⟩
      · exact q qa zs x y z1 n1 z2 n2 z2 n2 H1 H3 f rfl rfl (s1.trans (s2.trans n3.same)) (fresh_of (s1.trans s2) n3.fresh) n3.at_ ll fun a ha => ⟨fresh_of s1 (fz a ha).1, (fz a ha).2⟩
    | false =>
      refine ⟨_, rfl, _, rfl, iteF ?_⟩
      refine ⟨_, rfl, t, _, 0, _, rfl, rfl, SqT.of ht, rfl, ?_⟩
      refine ⟨_, rfl, rfl, _, rfl, ite2 (fun z => absurd (by simpa using z) f.x.ne_non) fun _ => ?_⟩
      refine ⟨_, rfl, p, rfl, ⟨_, SqL.of hp1⟩, lc_taken (wTk k false z1 n1) hp1 tp1 (by omega) (fun a h H2 Q' hh s2 ha q' => ?_) fun qa zs H2 H3 s2 n3 ll fz => ?_⟩
      · exact alt5 (sp := fun _ => sp_taken (clsK C_HowMany C_Total C_Least C_Greatest C_Mean)) k hk ⟨_, rfl, me, dx, _, rfl, s2 _ _ hme1, rfl, _, rfl, _, rfl, _, rfl, me, dx, a, h, k, x, z1, n1, false, rfl, hk, s2 _ _ hme1, ha, (pok.2.2 h hh).1, (pok.2.2 h hh).2, f.x.same s2, q'⟩
      · exact q qa zs x y z1 n1 z2 n2 z1 n1 H1 H3 f rfl rfl (s1.trans (s2.trans n3.same)) (fresh_of (s1.trans s2) n3.fresh) n3.at_ ll fun a ha => ⟨fresh_of s1 (fz a ha).1, (fz a ha).2⟩
theorem D_HowMany_chosen (T : Txt K mg C_Measure C_HowMany C_Total C_Least C_Greatest C_Mean C_BookError C_NoAsk C_NoAnswer) : MetX P w K mg base C_HowMany 5 "chosen" ["self", "known", "parts", "high"] [] (sp_chosenG (clsK C_HowMany C_Total C_Least C_Greatest C_Mean)) :=
  let ⟨f, fd, F, _, m, _, _, _, _, b⟩ := G_Measure_chosen T
  ⟨f, fd, F, m, b⟩
theorem D_Total_chosen (T : Txt K mg C_Measure C_HowMany C_Total C_Least C_Greatest C_Mean C_BookError C_NoAsk C_NoAnswer) : MetX P w K mg base C_Total 5 "chosen" ["self", "known", "parts", "high"] [] (sp_chosenG (clsK C_HowMany C_Total C_Least C_Greatest C_Mean)) :=
  let ⟨f, fd, F, _, _, m, _, _, _, b⟩ := G_Measure_chosen T
  ⟨f, fd, F, m, b⟩
theorem D_Least_chosen (T : Txt K mg C_Measure C_HowMany C_Total C_Least C_Greatest C_Mean C_BookError C_NoAsk C_NoAnswer) : MetX P w K mg base C_Least 5 "chosen" ["self", "known", "parts", "high"] [] (sp_chosenG (clsK C_HowMany C_Total C_Least C_Greatest C_Mean)) :=
  let ⟨f, fd, F, _, _, _, m, _, _, b⟩ := G_Measure_chosen T
  ⟨f, fd, F, m, b⟩
theorem D_Greatest_chosen (T : Txt K mg C_Measure C_HowMany C_Total C_Least C_Greatest C_Mean C_BookError C_NoAsk C_NoAnswer) : MetX P w K mg base C_Greatest 5 "chosen" ["self", "known", "parts", "high"] [] (sp_chosenG (clsK C_HowMany C_Total C_Least C_Greatest C_Mean)) :=
  let ⟨f, fd, F, _, _, _, _, m, _, b⟩ := G_Measure_chosen T
  ⟨f, fd, F, m, b⟩
theorem D_Mean_chosen (T : Txt K mg C_Measure C_HowMany C_Total C_Least C_Greatest C_Mean C_BookError C_NoAsk C_NoAnswer) : MetX P w K mg base C_Mean 5 "chosen" ["self", "known", "parts", "high"] [] (sp_chosenG (clsK C_HowMany C_Total C_Least C_Greatest C_Mean)) :=
  let ⟨f, fd, F, _, _, _, _, _, m, b⟩ := G_Measure_chosen T
  ⟨f, fd, F, m, b⟩
end
section
variable {P : Program} {w : World} {K : PySem.W.Frag} {mg : Str → Option Value} {base : Heap} {C_Measure C_HowMany C_Total C_Least C_Greatest C_Mean C_BookError C_NoAsk C_NoAnswer : Addr}
noncomputable def hOf (rs : List (Int × Int)) : HP4 := open Classical in if h : ∃ a b, HeapOf rs (rN rs) (rT rs) a b then (rN rs, rT rs, h.choose, h.choose_spec.choose) else (0, 0, 0, 0)
theorem HeapOf.eq {rs : List (Int × Int)} {m t lo hi : Int} (o : HeapOf rs m t lo hi) : hOf rs = (m, t, lo, hi) := by
  have o' := o
  rw [o.m, o.t] at o'
  have h : ∃ a b, HeapOf rs (rN rs) (rT rs) a b := ⟨lo, hi, o'⟩
  unfold hOf
  rw [dif_pos h]
  obtain ⟨_, _, e3, e4⟩ := h.choose_spec.choose_spec.uniq o'
  exact Prod.ext o.m.symm (Prod.ext o.t.symm (Prod.ext e3 e4))
theorem heap_ex : ∀ {rs : List (Int × Int)}, 1 ≤ rs.length → ∃ lo hi, HeapOf rs (rN rs) (rT rs) lo hi
  | [p], _ => ⟨p.1, p.1, rfl, rfl, List.mem_cons_self, (fun a ha => by rw [List.mem_singleton.mp ha]; exact Int.le_refl _), List.mem_cons_self, fun a ha => by rw [List.mem_singleton.mp ha]; exact Int.le_refl _⟩
  | p :: q :: r, _ => by
    obtain ⟨lo, hi, o⟩ := heap_ex (rs := q :: r) (by simp)
    have o1 : HeapOf [p] (rN [p]) (rT [p]) p.1 p.1 := ⟨rfl, rfl, List.mem_cons_self, (fun a ha => by rw [List.mem_singleton.mp ha]; exact Int.le_refl _), List.mem_cons_self, fun a ha => by rw [List.mem_singleton.mp ha]; exact Int.le_refl _⟩
    have := o1.app o
    rw [← rN_app, ← rT_app] at this
    exact ⟨_, _, this⟩
theorem hOf_heap {rs : List (Int × Int)} (h : 1 ≤ rs.length) : HeapOf rs (hOf rs).1 (hOf rs).2.1 (hOf rs).2.2.1 (hOf rs).2.2.2 := by
  obtain ⟨lo, hi, o⟩ := heap_ex h
  rw [o.eq]
  exact o
theorem wAll_len : ∀ {ps : List HP4}, PsC ps → (wAll ps).length ≤ 3 * ps.length
  | [], _ => Nat.le_refl _
  | h :: t, c => by
    have ih := wAll_len (ps := t) fun x hx => c x (List.mem_cons_of_mem _ hx)
    have := (WRow.of (c h List.mem_cons_self)).len
    rw [wAll_cons, List.length_append, List.length_cons]
    have e : (wOf h).length = (wRow h.1 h.2.1 h.2.2.1 h.2.2.2).length := rfl
    omega
theorem hs_ok {rss : List (List (Int × Int))} (ro : RssOk rss) (ln : rss.length ≤ 10) : PsOk (rss.map hOf) ∧ ∀ h ∈ rss.map hOf, h.2.2.1 ≤ h.2.2.2 := by
  have one : ∀ h ∈ rss.map hOf, CanBe h.1 h.2.1 h.2.2.1 h.2.2.2 ∧ HBd h.1 h.2.2.1 h.2.2.2 ∧ 1 ≤ h.1 ∧ h.1 < 10 ^ 42 ∧ -(10 ^ 80) < h.2.1 ∧ h.2.1 < 10 ^ 80 := fun h hh => by
    obtain ⟨rs, hr', rfl⟩ := List.mem_map.mp hh
    obtain ⟨t, l1, l5⟩ := ro rs hr'
    have o := hOf_heap l1
    have n1 := (rN_b t.ok).1
    have n2 := rN_bT t
    have n3 := rT_bT t
    have e1 := o.m
    have e2 := o.t
    exact ⟨o.can t.ok, o.bd t.ok (by omega), by omega, by omega, by omega, by omega⟩
  have pc : PsC (rss.map hOf) := fun h hh => (one h hh).1
  have lw := wAll_len pc
  rw [List.length_map] at lw
  exact ⟨⟨by omega, ⟨by rw [List.length_map]; omega, fun h hh => (one h hh).2.2⟩, fun h hh => ⟨(one h hh).1, (one h hh).2.1⟩⟩, fun h hh => (one h hh).1.le⟩
theorem tups_snoc {H : Hp} {v : V} {r : List Int} (h : TupAt H v r) : ∀ {xs : List V} {rs : List (List Int)}, Tups H xs rs → Tups H (xs ++ [v]) (rs ++ [r])
  | _, _, .nil => .cons h .nil
  | _, _, .cons q t => .cons q (tups_snoc h t)
theorem lc_hOf {K : PySem.W.Frag} {l : Addr} {xs : List V} {rss : List (List (Int × Int))} {te : TE} {Q : VK} {σ : St} {H : Hp} (hl : H l = some (.lst xs)) (ll : LL H xs rss) (ro : RssOk rss) (ln : rss.length ≤ 10)
    (hs : ∀ a ys rs H2 (Q' : VK), Same H H2 → H2 a = some (.lst ys) → Pairs H2 ys rs → RunsOk rs → 1 ≤ rs.length → rs.length ≤ 200 → (∀ b m t lo hi H3, HeapOf rs m t lo hi → New H2 H3 b (.tup [.int m, .int t, .int lo, .int hi]) → Q' (.ref b) H3) → te (σ.set 0 (some (.ref a))) H2 Q')
    (hd : ∀ a ys H1 H', Same H H1 → New H1 H' a (.lst ys) → Tups H' ys ((rss.map hOf).map j4) → Q (.ref a) H') : lcGoal (Itl K l) Q (gName 0) tYes te σ H := by
  have hxl := ll.length
  refine lc_listN (xs := xs) (fun i ys H2 => Same H H2 ∧ Tups H2 ys (((rss.take i).map hOf).map j4)) (Nat.le_of_lt (small1000 (by omega))) ⟨Same.refl _, .nil⟩ (fun i ys H2 h2 => ⟨SqL.of (h2.1 _ _ hl), by rw [h2.2.length, List.length_map, List.length_map, List.length_take]; omega⟩) ?_ ?_
  · rintro i x ys H2 hi ⟨s2, tp⟩
    obtain ⟨rs, a, zs, hr', rfl, ha, hp⟩ := ll.get hi
    obtain ⟨t, l1, l5⟩ := ro rs (List.mem_of_getElem? hr')
    refine gname_ (yes_ (iteT (hs a zs rs H2 _ s2 (s2 _ _ ha) (hp.same s2) t.ok l1 (by omega) fun b m t lo hi H3 o n3 => ⟨s2.trans n3.same, ?_⟩)))
    rw [takeN rss i rs hr', List.map_append, List.map_append]
    refine tups_snoc ⟨b, rfl, ?_⟩ (tp.same n3.same)
    rw [o.eq]
    exact n3.at_
  · rintro ys H2 a H' ⟨s2, tp⟩ n
    rw [hxl, List.take_length] at tp
    exact hd a ys H2 H' s2 n (tp.same n.same)
def dTL2 (hs ps : List (List Int)) : PyData := .tuple [dTups hs, dTups ps]
theorem lay_tl2 (hs ps : List (List Int)) : (dTL2 hs ps).canLay0 = true := by simp [dTL2, PyData.canLay0, PyData.canLayAll0, lay_tups]
theorem dep_tl2 (hs ps : List (List Int)) : (dTL2 hs ps).depth ≤ 20 := by
  have := dep_tupsA hs
  have := dep_tupsA ps
  simp [dTL2, dTups, PyData.depth, PyData.depthAll]; omega
theorem rep_tl2 {K : PySem.W.Frag} {H : Hp} {t l1 l2 : Addr} {xs ys : List V} {hs ps : List (List Int)} (h : H t = some (.tup [.ref l1, .ref l2])) (h1 : H l1 = some (.lst xs)) (t1 : Tups H xs hs) (h2 : H l2 = some (.lst ys)) (t2 : Tups H ys ps) : Rep K H (.ref t) (dTL2 hs ps) :=
  .tup (SqT.of h) (.cons (t1.rep h1) (.cons (t2.rep h2) .nil))
structure S44 (K : PySem.W.Frag) (H : Hp) (a me lk lp : Addr) (C : Addr) (ns : List Int) (xk xp : List V) (rk rp : List (List (Int × Int))) : Prop where
  sc : SqL K H a (ns.map V.int)
  me : ∃ dx, H me = some (.ins C dx [])
  lk : H lk = some (.lst xk)
  kk : LL H xk rk
  ok : RssOk rk
  nk : rk.length ≤ 5
  lp : H lp = some (.lst xp)
  pp : LL H xp rp
  op : RssOk rp
  np : 1 ≤ rp.length ∧ rp.length ≤ 5
theorem S44.same {K : PySem.W.Frag} {H H' : Hp} {a me lk lp C : Addr} {ns : List Int} {xk xp : List V} {rk rp : List (List (Int × Int))} (s : Same H H') (h : S44 K H a me lk lp C ns xk xp rk rp) : S44 K H' a me lk lp C ns xk xp rk rp :=
  ⟨sq_mono s h.sc, let ⟨dx, e⟩ := h.me; ⟨dx, s _ _ e⟩, s _ _ h.lk, h.kk.same s, h.ok, h.nk, s _ _ h.lp, h.pp.same s, h.op, h.np⟩
structure W44 (H : Hp) (lw : Addr) (xw : List V) (Kn P : List (Int × Int)) (hs ps : List HP4) (n : Nat) : Prop where
  lw : H lw = some (.lst xw)
  pw : Pairs H xw (Kn ++ P)
  lk : Lk hs Kn
  lp : Lp ps P
  ok : RunsT (Kn ++ P)
  ln : (Kn ++ P).length ≤ 5 * n
theorem W44.same {H H' : Hp} {lw : Addr} {xw : List V} {Kn P : List (Int × Int)} {hs ps : List HP4} {n : Nat} (s : Same H H') (h : W44 H lw xw Kn P hs ps n) : W44 H' lw xw Kn P hs ps n :=
  ⟨s _ _ h.lw, h.pw.same s, h.lk, h.lp, h.ok, h.ln⟩
structure T44 (H : Hp) (k : Nat) (th l1 l2 tf : Addr) (y1 y2 : List V) (x y : V) (hs ps : List HP4) (z1 n1 z2 n2 : Int) : Prop where
  th : H th = some (.tup [.ref l1, .ref l2])
  l1 : H l1 = some (.lst y1)
  t1 : Tups H y1 (hs.map j4)
  l2 : H l2 = some (.lst y2)
  t2 : Tups H y2 (ps.map j4)
  tf : H tf = some (.tup [x, y])
  f : TF H k hs ps x y z1 n1 z2 n2
theorem T44.same {H H' : Hp} {k : Nat} {th l1 l2 tf : Addr} {y1 y2 : List V} {x y : V} {hs ps : List HP4} {z1 n1 z2 n2 : Int} (s : Same H H') (h : T44 H k th l1 l2 tf y1 y2 x y hs ps z1 n1 z2 n2) : T44 H' k th l1 l2 tf y1 y2 x y hs ps z1 n1 z2 n2 :=
  ⟨s _ _ h.th, s _ _ h.l1, h.t1.same s, s _ _ h.l2, h.t2.same s, s _ _ h.tf, h.f.same s⟩
theorem wd_inj {j k : Nat} (hj : j < 5) (hk : k < 5) (h : wd j = wd k) : j = k := by
  have : ∀ j k : Fin 5, wd j = wd k → j = k := by decide +kernel
  exact congrArg Fin.val (this ⟨j, hj⟩ ⟨k, hk⟩ h)
theorem AnsAt.ne_non {H : Hp} {k : Nat} {rs : List (Int × Int)} {v : V} (h : AnsAt H k rs v) : v ≠ .non := by
  intro e
  subst e
  match k, h with
  | 0, h => cases h
  | 1, h => cases h
  | 2, ⟨_, h, _⟩ => cases h
  | 3, ⟨_, h, _⟩ => cases h
  | k + 4, ⟨_, h, _⟩ => cases h
end
section
variable {P : Program} {w : World} {K : PySem.W.Frag} {mg : Str → Option Value} {base : Heap} {C_Measure C_HowMany C_Total C_Least C_Greatest C_Mean C_BookError C_NoAsk C_NoAnswer : Addr}
def kvW (rs : List (Int × Int)) : List (Key × V) := rs.map fun p => (Sum.inl p.1, V.int p.2)
theorem pairsD_of {H : Hp} : ∀ {xs : List V} {rs : List (Int × Int)}, Pairs H xs rs → PairsD H xs (kvW rs)
  | _, _, .nil => .nil
  | _, _, .cons ⟨a, e, h⟩ t => .cons ⟨a, e, h⟩ (pairsD_of t)
theorem w_get {m t lo hi : Int} {rs : List (Int × Int)} (W : WRow m t lo hi rs) {p : Int × Int} (hp : p ∈ rs) : valV (mergeK [] (kvW rs)) (Sum.inl p.1) = some (V.int p.2) := by
  cases W with
  | one e1 e2 e3 =>
    rw [List.mem_singleton.mp hp]
    simp [mergeK, putK, valV, kvW]
  | @two L U e1 e2 e3 e4 e5 =>
    have n1 : ¬ lo = hi := by omega
    have n2 : ¬ hi = lo := by omega
    simp only [List.mem_cons, List.not_mem_nil, or_false] at hp
    rcases hp with rfl | rfl <;> simp [mergeK, putK, valV, kvW, n1, n2]
  | @three L U x e1 e2 e3 e4 e5 e6 e7 =>
    have n1 : ¬ lo = hi := by omega
    have n2 : ¬ hi = lo := by omega
    have n3 : ¬ lo = lo + x := by omega
    have n4 : ¬ lo + x = lo := by omega
    have n5 : ¬ lo + x = hi := by omega
    have n6 : ¬ hi = lo + x := by omega
    have n7 : ¬ x = 0 := by omega
    simp only [List.mem_cons, List.not_mem_nil, or_false] at hp
    rcases hp with rfl | rfl | rfl <;> simp [mergeK, putK, valV, kvW, n1, n2, n3, n4, n5, n6, n7]
theorem w_rise {m t lo hi : Int} {rs : List (Int × Int)} (W : WRow m t lo hi rs) : rs.Pairwise fun p q => p.1 < q.1 := by
  cases W with
  | one e1 e2 e3 => simp
  | two e1 e2 e3 e4 e5 => simp [e1]
  | three e1 e2 e3 e4 e5 e6 e7 => simp; omega
def sp_ofw : Sp := fun vs H Q _ => ∃ (a l : Addr) (h : HP4) (ys : List V) (c : Int × Int → Bool), vs = [.ref a, .ref l] ∧ H a = some (.tup ((j4 h).map V.int)) ∧ CanBe h.1 h.2.1 h.2.2.1 h.2.2.2 ∧ HBd h.1 h.2.2.1 h.2.2.2 ∧ H l = some (.lst ys) ∧ Pairs H ys ((wOf h).filter c) ∧ ∀ H', Same H H' → Q (.bl true) H'
theorem D__law_of_widest (T : Txt K mg C_Measure C_HowMany C_Total C_Least C_Greatest C_Mean C_BookError C_NoAsk C_NoAnswer) : DefOk P w K mg base 3 "_law_of_widest" ["_law_part", "_law_runs"] sp_ofw := by
  obtain ⟨f, fd, F, hm⟩ := T.f__law_of_widest
  have nd := sc__law_of_widest.nd
  refine F.def_ hm (F.ok sc__law_of_widest (fun vs H Q E h => ?_) (fun cdv A outer s H vs Q E hr h => ?_)) (F.binds fun _ _ _ _ _ _ us hl => by obtain ⟨_, _, rfl⟩ := L2.lq2 hl; rfl)
  · obtain ⟨a, l, h, ys, c, rfl, _⟩ := h; rfl
  · obtain ⟨a, l, h, ys, c, rfl, ha, cb, hb, hl, pr, q⟩ := h
    have W : WRow h.1 h.2.1 h.2.2.1 h.2.2.2 (wOf h) := WRow.of cb
    have hlen := pr.length
    have lw : (wOf h).length ≤ 3 := W.len.2
    have lf := List.length_filter_le c (wOf h)
    refine ⟨_, (pss_cons (ps_if (PW.pt (pw_or (pt_not (pt_val (pe_callB call_isi rfl T.b_isinstance bt_isinstance (pa_cons (pv 1) (pa_cons (pe_bltn (v := .ty "list") rfl T.b_list bt_list rfl) pa_nil))))) (pw_or1 (pt_not (pt_val (pe_callB (call_all rfl) rfl T.b_all bt_all (pa_cons (pe_lc (vars := ["_law_run_here"]) (frees := []) (fv := []) rfl (lcOk rfl rfl (by decide +kernel) (by decide +kernel) (by intro p hp; cases hp) rfl) trivial (pi_list (pv 1)) (gk_name (by decide)) (fun _ _ _ _ => (pg_name (i := 0) (show (["_law_run_here"] : List Str).Nodup by decide +kernel) rfl (Or.inl rfl))) (fun _ _ _ _ => pif_none) (fun _ _ _ _ => (pe_fn (D__law_tuple T) (hr.mono (by decide)) rfl (pa_cons (pv 0) (pa_cons pe_int pa_nil))))) pa_nil)))))))
        (pss_one (ps_ret pe_bl))
        pss_nil)
      (pss_cons (ps_set (i := 2) nd rfl (Or.inl rfl) (pe_callTy (call_dictL rfl) rfl T.b_dict bt_dict (pa_cons (pe_fn (D_widest T) (hr.mono (by decide)) rfl (pa_cons (pv 0) pa_nil)) pa_nil)))
      (pss_cons (ps_for PassesOwn.never rfl (pi_enum rfl T.b_enumerate (pa_cons (pv 1) pa_nil)) (pg_tup rfl (pgs_cons (pg_name (i := 3) nd rfl (Or.inl rfl)) (pgs_cons (pg_name (i := 4) nd rfl (Or.inl rfl)) pgs_nil)))
        (pss_one (ps_if (PW.pt (pw_or (pt_cmpR op_lt (pe_ix ix_tup (pv 4) pe_int (fun _ _ => rfl)) pe_int (nomark _)) (pw_or (pt_cmpR op_gt (pe_ix ix_tup (pv 4) pe_int (fun _ _ => rfl)) (pe_dget2 (hu_of hr) (pv 2) (pe_ix ix_tup (pv 4) pe_int (fun _ _ => rfl)) pe_int ⟨rfl, rfl, rfl, rfl⟩) (nomark _)) (pw_or1 (PW.pt (pw_and (pt_cmpR op_gt (pv 3) pe_int (nomark _)) (pw_and1 (pt_cmpR op_ge (pe_ix ix_tup (pe_ix ix_list (pv 1) (pe_op op_sub (pv 3) pe_int) (fun _ _ => rfl)) pe_int (fun _ _ => rfl)) (pe_ix ix_tup (pv 4) pe_int (fun _ _ => rfl)) (nomark _)))))))))
        (pss_one (ps_ret pe_bl))
        pss_nil)))
      (pss_one (ps_ret pe_bl))))), ?_⟩
    refine ⟨_, rfl, _, _, _, true, rfl, .lst hl, kit_list _, _, rfl, iteF ?_⟩
    refine ⟨_, rfl, l, rfl, ⟨_, SqL.of hl⟩, lc_listN (xs := ys) (fun j zs H2 => Same H H2 ∧ zs = (List.replicate j true).map V.bl) (Nat.le_of_lt (small1000 (by omega))) ⟨Same.refl _, rfl⟩ (fun j zs H2 h2 => ⟨SqL.of (h2.1 _ _ hl), by rw [h2.2]; simp⟩) ?_ ?_⟩
    · rintro j x zs H2 hj ⟨s2, rfl⟩
      obtain ⟨p, hpi, b, rfl, hb'⟩ := pr.get hj
      refine gname_ (yes_ (iteT ?_))
      refine ⟨_, rfl, b, [p.1, p.2], 2, rfl, s2 _ _ hb', rfl, by decide, fun H3 s3 => ⟨s2.trans s3, (rep_snoc true j).symm⟩⟩
    rintro zs H2 l3 H3 ⟨s2, rfl⟩ n3
    have s3 := s2.trans n3.same
    refine ⟨l3, List.replicate _ true, rfl, SqL.of n3.at_, ?_⟩
    have e : ∀ n, (List.replicate n true).all id = true := fun n => by simp
    rw [e]
    refine ⟨_, rfl, iteF ?_⟩
    refine ⟨_, rfl, a, h.1, h.2.1, h.2.2.1, h.2.2.2, rfl, s3 _ _ ha, cb, hb, fun lr xr H4 H5 s4 n5 pw => ?_⟩
    have pw : Pairs H5 xr (wOf h) := pw
    have lxr := pw.length
    refine ⟨lr, xr, kvW (wOf h), rfl, SqL.of n5.at_, pairsD_of pw, by omega, fun d H6 n6 => ?_⟩
    have s6 := s3.trans (s4.trans (n5.same.trans n6.same))
    have hl6 := s6 _ _ hl
    have hd6 := n6.at_
    clear n3 n5 n6 s2 s3 s4 pw
    walk_at "r"
    refine for_enumN (xs := ys) (fun i σ H7 => Same H H7 ∧ H7 d = some (.dK (mergeK [] (kvW (wOf h)))) ∧ ∃ v3 v4, σ = [some (.ref a), some (.ref l), some (.ref d), v3, v4]) ⟨s6, hd6, none, none, rfl⟩ (fun i σ H7 h7 => SqL.of (h7.1 _ _ hl)) ?_ ?_
    · rintro i x σ H7 p H8 hxi n8 ⟨s7, hd7, v3, v4, rfl⟩
      obtain ⟨r, hri, b, rfl, hb'⟩ := pr.get hxi
      have s8 := s7.trans n8.same
      have hb8 := s8 _ _ hb'
      have hl8 := s8 _ _ hl
      have hd8 := n8.same _ _ hd7
      have hrm : r ∈ wOf h := (List.mem_filter.mp (List.mem_of_getElem? hri)).1
      have r1 := wRow_ok cb r hrm
      have hil : i < ((wOf h).filter c).length := (List.getElem?_eq_some_iff.mp hri).1
      refine ⟨p, _, rfl, SqT.of n8.at_, rfl, _, _, rfl, _, _, rfl, rfl, ?_⟩
      clear n8 hd7
      refine ⟨_, rfl, b, _, _, _, rfl, rfl, SqT.of hb8, rfl, _, _, rfl, rfl, _, rfl, ite2 (fun z => absurd (of_decide_eq_true z) (by show ¬ r.2 < 1; omega)) fun _ => ?_⟩
      refine ⟨_, rfl, b, _, _, _, rfl, rfl, SqT.of hb8, rfl, _, rfl, d, rfl, .inl ⟨_, .inl hd8⟩, _, rfl, b, _, _, _, rfl, rfl, SqT.of hb8, rfl, _, DGet.k (k := Sum.inl r.1) hd8, ?_⟩
      rw [w_get W hrm]
      refine ⟨_, _, rfl, rfl, _, rfl, ite2 (fun z => absurd (of_decide_eq_true z) (by show ¬ r.2 < r.2; omega)) fun _ => ?_⟩
      refine ⟨_, rfl, _, _, rfl, rfl, _, rfl, ite2 (fun z => ?_) fun z => ⟨s8, hd8, _, _, rfl⟩⟩
      have z' : 0 < (i : Int) := by simpa using z
      obtain ⟨i', rfl⟩ : ∃ i', i = i' + 1 := ⟨i - 1, by omega⟩
      obtain ⟨y, hy, b', rfl, hb''⟩ := pr.get' (i := i') (p := ((wOf h).filter c)[i']) (List.getElem?_eq_getElem (by omega))
      have hrise := List.pairwise_iff_getElem.mp ((w_rise W).filter c) i' (i' + 1) (by omega) hil (by omega)
      have er : ((wOf h).filter c)[i' + 1] = r := by rw [List.getElem?_eq_getElem hil] at hri; exact Option.some.inj hri
      rw [er] at hrise
      have hat : atI ys (((i' + 1 : Nat) : Int) - 1) = some (.ref b') := by
        rw [show ((i' + 1 : Nat) : Int) - 1 = (i' : Int) by omega]; exact atI_nat hy
      have hb9 := s8 _ _ hb''
      refine ⟨_, rfl, _, rfl, _, _, rfl, rfl, l, _, _, _, rfl, rfl, SqL.of hl8, hat, b', _, _, _, rfl, rfl, SqT.of hb9, rfl, _, rfl, b, _, _, _, rfl, rfl, SqT.of hb8, rfl, _, _, rfl, rfl, _, rfl, ite2 (fun z => absurd (of_decide_eq_true z) (by show ¬ r.1 ≤ ((wOf h).filter c)[i'].1; omega)) fun _ => ⟨s8, hd8, _, _, rfl⟩⟩
    · rintro σ H7 ⟨s7, hd7, v3, v4, rfl⟩
      exact q H7 s7
end
section
variable {P : Program} {w : World} {K : PySem.W.Frag} {mg : Str → Option Value} {base : Heap} {C_Measure C_HowMany C_Total C_Least C_Greatest C_Mean C_BookError C_NoAsk C_NoAnswer : Addr}
theorem wOf_runs {rs : List (Int × Int)} (t : RunsT rs) (l1 : 1 ≤ rs.length) (l5 : rs.length ≤ 5) : RunsOk (wOf (hOf rs)) := fun p hp => by
  have o := hOf_heap l1
  have cb := o.can t.ok
  obtain ⟨i, hi⟩ := List.mem_iff_getElem?.mp hp
  have wk := (WRow.of cb).ok hi
  obtain ⟨q1, h1, e1⟩ := List.mem_map.mp o.lo
  obtain ⟨q2, h2, e2⟩ := List.mem_map.mp o.hi
  have t1 := t q1 h1
  have t2 := t q2 h2
  have n2 := rN_bT t
  have em := o.m
  have e1 : q1.1 = (hOf rs).2.2.1 := e1
  have e2 : q2.1 = (hOf rs).2.2.2 := e2
  unfold RunT at t1 t2
  unfold RunOk
  omega
theorem wAll_runs {rp : List (List (Int × Int))} (ro : RssOk rp) : RunsOk (wAll (rp.map hOf)) := fun p hp => by
  obtain ⟨h, hh, hw⟩ := List.mem_flatMap.mp hp
  obtain ⟨rs, hr', rfl⟩ := List.mem_map.mp hh
  obtain ⟨t, l1, l5⟩ := ro rs hr'
  exact wOf_runs t l1 l5 p hw
structure S45 (H : Hp) (me lp lh : Addr) (C : Addr) (y1 y2 : List V) (rk rp : List (List (Int × Int))) : Prop where
  me : ∃ dx, H me = some (.ins C dx [])
  ok : RssOk rk
  nk : rk.length ≤ 5
  op : RssOk rp
  np : 1 ≤ rp.length ∧ rp.length ≤ 5
  lh : H lh = some (.lst y1)
  th : Tups H y1 ((rk.map hOf).map j4)
  lp : H lp = some (.lst y2)
  tp : Tups H y2 ((rp.map hOf).map j4)
theorem S45.same {H H' : Hp} {me lp lh C : Addr} {y1 y2 : List V} {rk rp : List (List (Int × Int))} (s : Same H H') (h : S45 H me lp lh C y1 y2 rk rp) : S45 H' me lp lh C y1 y2 rk rp :=
  ⟨let ⟨dx, e⟩ := h.me; ⟨dx, s _ _ e⟩, h.ok, h.nk, h.op, h.np, s _ _ h.lh, h.th.same s, s _ _ h.lp, h.tp.same s⟩
theorem tups_S {H H' : Hp} (s : TupS H H') : ∀ {xs : List V} {rs : List (List Int)}, Tups H xs rs → Tups H' xs rs
  | _, _, .nil => .nil
  | _, _, .cons ⟨a, e, h⟩ t => .cons ⟨a, e, s _ _ h⟩ (tups_S s t)
theorem S45.but {H H' : Hp} {me lp lh C l : Addr} {y1 y2 xs : List V} {rk rp : List (List (Int × Int))} (b : But l H H') (hl : H l = some (.lst xs)) (n1 : lh ≠ l) (n2 : lp ≠ l) (h : S45 H me lp lh C y1 y2 rk rp) : S45 H' me lp lh C y1 y2 rk rp := by
  have ts : TupS H H' := fun x xs e => b _ _ e (ne_of e hl (by intro z; cases z))
  exact ⟨let ⟨dx, e⟩ := h.me; ⟨dx, b _ _ e (ne_of e hl (by intro z; cases z))⟩, h.ok, h.nk, h.op, h.np, b _ _ h.lh n1, tups_S ts h.th, b _ _ h.lp n2, tups_S ts h.tp⟩
structure E45 (H : Hp) (k : Nat) (b : Bool) (hs ps : List HP4) (e : V) (z n z' n' : Int) : Prop where
  e : FrAt H k e z n
  l : LowK k z n
  r : ∃ H0 x y z1 n1 z2 n2, TF H0 k hs ps x y z1 n1 z2 n2 ∧ z' = (if b = true then z2 else z1) ∧ n' = if b = true then n2 else n1
  q : z' * n = z * n'
  p : 1 ≤ n'
theorem E45.same {H H' : Hp} (s : Same H H') {k : Nat} {b : Bool} {hs ps : List HP4} {e : V} {z n z' n' : Int} (h : E45 H k b hs ps e z n z' n') : E45 H' k b hs ps e z n z' n' := ⟨h.e.same s, h.l, h.r, h.q, h.p⟩
theorem fr_eq {a b z n z' n' : Int} (p : 1 ≤ n') (h1 : a * n' = z' * b) (h2 : z' * n = z * n') : a * n = z * b := by
  have e : a * n * n' = z * b * n' := by
    calc a * n * n' = (a * n') * n := by ac_rfl
      _ = (z' * b) * n := by rw [h1]
      _ = (z' * n) * b := by ac_rfl
      _ = (z * n') * b := by rw [h2]
      _ = z * b * n' := by ac_rfl
  exact Int.eq_of_mul_eq_mul_right (by omega) e
theorem flt_snoc (c : Int × Int → Bool) (ps : List HP4) (i : Nat) (h : HP4) (hi : ps[i]? = some h) : (wAll (ps.take (i + 1))).filter c = (wAll (ps.take i)).filter c ++ (wOf h).filter c := by
  rw [takeN ps i h hi, wAll_app, List.filter_append]
  have : wAll [h] = wOf h := by unfold wAll; simp
  rw [this]
theorem G_law (T : Txt K mg C_Measure C_HowMany C_Total C_Least C_Greatest C_Mean C_BookError C_NoAsk C_NoAnswer) {f : Addr} {fd : FuncData} (F : Fun K "law" "law" s_law f fd) : FnOk P w K mg base CX0 9 f fd ["_law_script"] (sp_law K) := by
  have nd := sc_law.nd
  refine F.ok sc_law (fun vs H Q E h => ?_) (fun cdv A outer s H vs Q E hr h => ?_)
  · obtain ⟨a, ns, rfl, _⟩ := h; rfl
  · obtain ⟨a, ns, rfl, hS, hn, fin⟩ := h
    obtain ⟨JA, eJA⟩ : ∃ JA : St → Hp → Prop, JA = fun σ H' => SqL K H' a (ns.map V.int) ∧ ∃ (k : Nat) (b : Bool) (me dx lk : Addr) (xk : List V) (rk : List (List (Int × Int))), k < 5 ∧ H' me = some (.ins (clsK C_HowMany C_Total C_Least C_Greatest C_Mean k) dx []) ∧ H' lk = some (.lst xk) ∧ LL H' xk rk ∧ RssOk rk ∧ rk.length ≤ 5 ∧ σ = [some (.ref a), some (.str (wd k)), some (.bl b), some (.ref me), some (.ref lk), none, none, none, none, none, none, none, none, none, none] := ⟨_, rfl⟩
    obtain ⟨JB, eJB⟩ : ∃ JB : St → Hp → Prop, JB = fun σ H' => ∃ (k : Nat) (b : Bool) (me lk lp lh th l1 l2 lf : Addr) (xk y1 y2 zs : List V) (e : V) (z n z' n' : Int) (rk rp : List (List (Int × Int))), k < 5 ∧ S45 H' me lp lh (clsK C_HowMany C_Total C_Least C_Greatest C_Mean k) y1 y2 rk rp ∧ E45 H' k b (rk.map hOf) (rp.map hOf) e z n z' n' ∧ H' lk = some (.lst xk) ∧ LL H' xk rk ∧ H' th = some (.tup [.ref l1, .ref l2]) ∧ H' l1 = some (.lst y1) ∧ H' l2 = some (.lst y2) ∧ H' lf = some (.lst zs) ∧ LL H' zs ((rp.map hOf).map (wTk k b z' n')) ∧ (∀ c, V.ref c ∈ zs → lh ≠ c ∧ lp ≠ c ∧ lf ≠ c) ∧ lh ≠ lf ∧ lp ≠ lf ∧ σ = [some (.ref a), some (.str (wd k)), some (.bl b), some (.ref me), some (.ref lk), some (.ref lp), some (.ref lh), some (.ref th), some e, some (.ref lf), none, none, none, none, none] := ⟨_, rfl⟩
    obtain ⟨JC, eJC⟩ : ∃ JC : St → Hp → Prop, JC = fun σ H' => ∃ (k : Nat) (b : Bool) (me lk lp lh th lf lw : Addr) (y1 y2 zs xw : List V) (e : V) (z n z' n' : Int) (rk rp : List (List (Int × Int))) (Kn : List (Int × Int)) (v11 v12 : Option V), k < 5 ∧ S45 H' me lp lh (clsK C_HowMany C_Total C_Least C_Greatest C_Mean k) y1 y2 rk rp ∧ E45 H' k b (rk.map hOf) (rp.map hOf) e z n z' n' ∧ H' lf = some (.lst zs) ∧ LL H' zs ((rp.map hOf).map (wTk k b z' n')) ∧ (∀ c, V.ref c ∈ zs → lh ≠ c ∧ lp ≠ c ∧ lf ≠ c) ∧ lh ≠ lf ∧ lp ≠ lf ∧ H' lw = some (.lst xw) ∧ Pairs H' xw (Kn ++ (wAll (rp.map hOf)).filter fun p => tkB k b z' n' p.1) ∧ Lk (rk.map hOf) Kn ∧ RunsT Kn ∧ Kn.length ≤ 25 ∧ σ = [some (.ref a), some (.str (wd k)), some (.bl b), some (.ref me), some (.ref lk), some (.ref lp), some (.ref lh), some (.ref th), some e, some (.ref lf), some (.ref lw), v11, v12, none, none] := ⟨_, rfl⟩
    obtain ⟨JD, eJD⟩ : ∃ JD : St → Hp → Prop, JD = fun σ H' => ∃ (k : Nat) (b : Bool) (me lp lh lf : Addr) (y1 y2 zs : List V) (rk rp : List (List (Int × Int))) (v4 v7 v8 v10 v11 v12 v13 : Option V), k < 5 ∧ S45 H' me lp lh (clsK C_HowMany C_Total C_Least C_Greatest C_Mean k) y1 y2 rk rp ∧ H' lf = some (.lst zs) ∧ lh ≠ lf ∧ lp ≠ lf ∧ σ = [some (.ref a), some (.str (wd k)), some (.bl b), some (.ref me), v4, some (.ref lp), some (.ref lh), v7, v8, some (.ref lf), v10, v11, v12, v13, none] := ⟨_, rfl⟩
    refine ⟨_, (pss_cons (ps_set (i := 1) nd rfl (Or.inl rfl) (pe_ix ix_list (pe_lstN (pa_cons pe_str (pa_cons pe_str (pa_cons pe_str (pa_cons pe_str (pa_cons pe_str pa_nil)))))) (pe_op op_mod (pe_fn (D__law_cell_at T) (hr.mono (by decide)) rfl (pa_cons (pv 0) (pa_cons pe_int pa_nil))) pe_int) (fun _ _ => rfl)))
      (pss_cons (ps_set (i := 2) nd rfl (Or.inl rfl) (pe_cmpR op_eq (pe_op op_mod (pe_op op_fdiv (pe_fn (D__law_cell_at T) (hr.mono (by decide)) rfl (pa_cons (pv 0) (pa_cons pe_int pa_nil))) pe_int) pe_int) pe_int (nomark _)))
      (pss_cons (ps_set (i := 3) nd rfl (Or.inl rfl) (pe_fnX (wants_nox ⟨rfl, rfl, rfl⟩) (D_measure T) (hr.mono (by decide)) rfl .nil (pa_cons (pv 1) pa_nil)))
      (pss_cons (ps_set (i := 4) nd rfl (Or.inl rfl) (pe_lstN pa_nil))
      (pss_cut JA (ps_if (pt_cmpR op_gt (pe_op op_mod (pe_fn (D__law_cell_at T) (hr.mono (by decide)) rfl (pa_cons (pv 0) (pa_cons pe_int pa_nil))) pe_int) pe_int (nomark _))
        (pss_one (ps_set (i := 4) nd rfl (Or.inl rfl) (pe_fn (D__law_drawn T) (hr.mono (by decide)) rfl (pa_cons (pe_op op_fdiv (pe_fn (D__law_cell_at T) (hr.mono (by decide)) rfl (pa_cons (pv 0) (pa_cons pe_int pa_nil))) pe_int) (pa_cons pe_int pa_nil)))))
        pss_nil)
      (pss_cons (ps_setLC (i := 5) (vars := ["_law_runs"]) (frees := []) (fv := []) nd rfl (Or.inl rfl) rfl (lcOk rfl rfl (by decide +kernel) (by decide +kernel) (by intro p hp; cases hp) rfl) trivial (pi_list (pe_fn (D__law_drawn T) (hr.mono (by decide)) rfl (pa_cons (pe_fn (D__law_cell_at T) (hr.mono (by decide)) rfl (pa_cons (pv 0) (pa_cons pe_int pa_nil))) (pa_cons pe_int pa_nil)))) (gk_name (by decide)) (fun _ _ _ _ => (pg_name (i := 0) (show (["_law_runs"] : List Str).Nodup by decide +kernel) rfl (Or.inl rfl))) (fun _ _ _ _ => pif_none) (fun _ _ _ _ => (pe_fn (D__law_heap T) (hr.mono (by decide)) rfl (pa_cons (pv 0) pa_nil))))
      (pss_cons (ps_setLC (i := 6) (vars := ["_law_runs"]) (frees := []) (fv := []) nd rfl (Or.inl rfl) rfl (lcOk rfl rfl (by decide +kernel) (by decide +kernel) (by intro p hp; cases hp) rfl) trivial (pi_list (pv 4)) (gk_name (by decide)) (fun _ _ _ _ => (pg_name (i := 0) (show (["_law_runs"] : List Str).Nodup by decide +kernel) rfl (Or.inl rfl))) (fun _ _ _ _ => pif_none) (fun _ _ _ _ => (pe_fn (D__law_heap T) (hr.mono (by decide)) rfl (pa_cons (pv 0) pa_nil))))
      (pss_cons (ps_set (i := 7) nd rfl (Or.inl rfl) (pe_tupN (pa_cons (pe_callTy call_listN rfl T.b_list bt_list (pa_cons (pv 6) pa_nil)) (pa_cons (pe_callTy call_listN rfl T.b_list bt_list (pa_cons (pv 5) pa_nil)) pa_nil))))
      (pss_cons (ps_set (i := 8) nd rfl (Or.inl rfl) (pe_ix ix_tup (pe_alt (pe_mt (pv 3) T.cl_HowMany (D_HowMany_told T) (hr.mono (by decide)) (pa_cons (pe_ix ix_tup (pv 7) pe_int (fun _ _ => rfl)) (pa_cons (pe_ix ix_tup (pv 7) pe_int (fun _ _ => rfl)) pa_nil))) (pe_alt (pe_mt (pv 3) T.cl_Total (D_Total_told T) (hr.mono (by decide)) (pa_cons (pe_ix ix_tup (pv 7) pe_int (fun _ _ => rfl)) (pa_cons (pe_ix ix_tup (pv 7) pe_int (fun _ _ => rfl)) pa_nil))) (pe_alt (pe_mt (pv 3) T.cl_Least (D_Least_told T) (hr.mono (by decide)) (pa_cons (pe_ix ix_tup (pv 7) pe_int (fun _ _ => rfl)) (pa_cons (pe_ix ix_tup (pv 7) pe_int (fun _ _ => rfl)) pa_nil))) (pe_alt (pe_mt (pv 3) T.cl_Greatest (D_Greatest_told T) (hr.mono (by decide)) (pa_cons (pe_ix ix_tup (pv 7) pe_int (fun _ _ => rfl)) (pa_cons (pe_ix ix_tup (pv 7) pe_int (fun _ _ => rfl)) pa_nil))) (pe_mt (pv 3) T.cl_Mean (D_Mean_told T) (hr.mono (by decide)) (pa_cons (pe_ix ix_tup (pv 7) pe_int (fun _ _ => rfl)) (pa_cons (pe_ix ix_tup (pv 7) pe_int (fun _ _ => rfl)) pa_nil))))))) (pe_callTy call_int1 rfl T.b_int bt_int (pa_cons (pv 2) pa_nil)) (fun _ _ => rfl)))
      (pss_cut JB (ps_set (i := 9) nd rfl (Or.inl rfl) (pe_alt (pe_mtX (wants_nox ⟨rfl, rfl, rfl⟩) (pv 3) T.cl_HowMany (D_HowMany_chosen T) (hr.mono (by decide)) .nil (pa_cons (pe_ix ix_tup (pv 7) pe_int (fun _ _ => rfl)) (pa_cons (pe_ix ix_tup (pv 7) pe_int (fun _ _ => rfl)) (pa_cons (pv 2) pa_nil)))) (pe_alt (pe_mtX (wants_nox ⟨rfl, rfl, rfl⟩) (pv 3) T.cl_Total (D_Total_chosen T) (hr.mono (by decide)) .nil (pa_cons (pe_ix ix_tup (pv 7) pe_int (fun _ _ => rfl)) (pa_cons (pe_ix ix_tup (pv 7) pe_int (fun _ _ => rfl)) (pa_cons (pv 2) pa_nil)))) (pe_alt (pe_mtX (wants_nox ⟨rfl, rfl, rfl⟩) (pv 3) T.cl_Least (D_Least_chosen T) (hr.mono (by decide)) .nil (pa_cons (pe_ix ix_tup (pv 7) pe_int (fun _ _ => rfl)) (pa_cons (pe_ix ix_tup (pv 7) pe_int (fun _ _ => rfl)) (pa_cons (pv 2) pa_nil)))) (pe_alt (pe_mtX (wants_nox ⟨rfl, rfl, rfl⟩) (pv 3) T.cl_Greatest (D_Greatest_chosen T) (hr.mono (by decide)) .nil (pa_cons (pe_ix ix_tup (pv 7) pe_int (fun _ _ => rfl)) (pa_cons (pe_ix ix_tup (pv 7) pe_int (fun _ _ => rfl)) (pa_cons (pv 2) pa_nil)))) (pe_mtX (wants_nox ⟨rfl, rfl, rfl⟩) (pv 3) T.cl_Mean (D_Mean_chosen T) (hr.mono (by decide)) .nil (pa_cons (pe_ix ix_tup (pv 7) pe_int (fun _ _ => rfl)) (pa_cons (pe_ix ix_tup (pv 7) pe_int (fun _ _ => rfl)) (pa_cons (pv 2) pa_nil)))))))))
      (pss_cons (ps_if (PW.pt (pw_or (pt_cmpR (op_neD hr.units) (pv 7) (pe_tupN (pa_cons (pv 6) (pa_cons (pv 5) pa_nil))) (nomark _)) (pw_or (pt_not (pt_val (pe_callB call_isi rfl T.b_isinstance bt_isinstance (pa_cons (pv 9) (pa_cons (pe_bltn (v := .ty "list") rfl T.b_list bt_list rfl) pa_nil))))) (pw_or1 (pt_cmpR op_ne (pe_callB call_len_seq rfl T.b_len bt_len (pa_cons (pv 9) pa_nil)) (pe_callB call_len_seq rfl T.b_len bt_len (pa_cons (pv 5) pa_nil)) (nomark _))))))
        (pss_one (ps_ret pe_bl))
        pss_nil)
      (pss_cons (ps_set (i := 10) nd rfl (Or.inl rfl) (pe_lstN pa_nil))
      (pss_cons (ps_for PassesOwn.never rfl (pi_list (pv 4)) (pg_name (i := 11) nd rfl (Or.inl rfl))
        (pss_one (ps_set (i := 10) nd rfl (Or.inl rfl) (pe_op op_catN (pv 10) (pv 11)))))
      (pss_cut JC (ps_for PassesOwn.never rfl (pi_zip rfl T.b_zip (pa_cons (pv 5) (pa_cons (pv 9) pa_nil))) (pg_tup rfl (pgs_cons (pg_name (i := 12) nd rfl (Or.inl rfl)) (pgs_cons (pg_name (i := 11) nd rfl (Or.inl rfl)) pgs_nil)))
        (pss_cons (ps_if (pt_not (pt_val (pe_fn (D__law_of_widest T) (hr.mono (by decide)) rfl (pa_cons (pv 12) (pa_cons (pv 11) pa_nil)))))
        (pss_one (ps_ret pe_bl))
        pss_nil)
      (pss_one (ps_set (i := 10) nd rfl (Or.inl rfl) (pe_op op_catN (pv 10) (pv 11))))))
      (pss_cons (ps_set (i := 13) nd rfl (Or.inl rfl) (pe_fn (D__law_answer T) (hr.mono (by decide)) rfl (pa_cons (pv 1) (pa_cons (pv 10) pa_nil))))
      (pss_cons (ps_if (PW.pt (pw_or (pt_cmpR op_isN (pv 13) pe_non (nomark _)) (pw_or (pt_not (pt_val (pe_fn (D__law_end T) (hr.mono (by decide)) rfl (pa_cons (pv 1) (pa_cons (pv 8) pa_nil))))) (pw_or (pt_val (pe_fn (D__law_less T) (hr.mono (by decide)) rfl (pa_cons (pv 1) (pa_cons (pv 13) (pa_cons (pv 8) pa_nil))))) (pw_or1 (pt_val (pe_fn (D__law_less T) (hr.mono (by decide)) rfl (pa_cons (pv 1) (pa_cons (pv 8) (pa_cons (pv 13) pa_nil))))))))))
        (pss_one (ps_ret pe_bl))
        pss_nil)
      (pss_cut JD (ps_for PassesOwn.never rfl (pi_list (pv 9)) (pg_name (i := 11) nd rfl (Or.inl rfl))
        (pss_one (ps_expr (pe_bm PySem.F.plainAttrs_list PySem.F.slot_list_append PySem.F.type_list_append mt_appendN (pv 11) (pa_cons (pe_tupN (pa_cons pe_int (pa_cons pe_int pa_nil))) pa_nil)))))
      (pss_cons (ps_expr (pe_bm0 PySem.F.plainAttrs_list PySem.F.slot_list_clear PySem.F.type_list_clear mt_clearN (pv 9)))
      (pss_cons (ps_set (i := 14) nd rfl (Or.inl rfl) (pe_alt (pe_mtX (wants_nox ⟨rfl, rfl, rfl⟩) (pv 3) T.cl_HowMany (D_HowMany_chosen T) (hr.mono (by decide)) .nil (pa_cons (pv 6) (pa_cons (pv 5) (pa_cons (pv 2) pa_nil)))) (pe_alt (pe_mtX (wants_nox ⟨rfl, rfl, rfl⟩) (pv 3) T.cl_Total (D_Total_chosen T) (hr.mono (by decide)) .nil (pa_cons (pv 6) (pa_cons (pv 5) (pa_cons (pv 2) pa_nil)))) (pe_alt (pe_mtX (wants_nox ⟨rfl, rfl, rfl⟩) (pv 3) T.cl_Least (D_Least_chosen T) (hr.mono (by decide)) .nil (pa_cons (pv 6) (pa_cons (pv 5) (pa_cons (pv 2) pa_nil)))) (pe_alt (pe_mtX (wants_nox ⟨rfl, rfl, rfl⟩) (pv 3) T.cl_Greatest (D_Greatest_chosen T) (hr.mono (by decide)) .nil (pa_cons (pv 6) (pa_cons (pv 5) (pa_cons (pv 2) pa_nil)))) (pe_mtX (wants_nox ⟨rfl, rfl, rfl⟩) (pv 3) T.cl_Mean (D_Mean_chosen T) (hr.mono (by decide)) .nil (pa_cons (pv 6) (pa_cons (pv 5) (pa_cons (pv 2) pa_nil)))))))))
      (pss_one (ps_ret (pe_and (pe_cmpR op_eq (pe_callB call_len_seq rfl T.b_len bt_len (pa_cons (pv 14) pa_nil)) (pe_callB call_len_seq rfl T.b_len bt_len (pa_cons (pv 5) pa_nil)) (nomark _)) (pe_one (pe_callB (call_all rfl) rfl T.b_all bt_all (pa_cons (pe_lc (vars := ["_law_part", "_law_runs"]) (frees := []) (fv := []) rfl (lcOk rfl rfl (by decide +kernel) (by decide +kernel) (by intro p hp; cases hp) rfl) trivial (pi_zip rfl T.b_zip (pa_cons (pv 5) (pa_cons (pv 14) pa_nil))) (gk_pair (by decide) (by decide)) (fun _ _ _ _ => (pg_tup rfl (pgs_cons (pg_name (i := 0) (show (["_law_part", "_law_runs"] : List Str).Nodup by decide +kernel) rfl (Or.inl rfl)) (pgs_cons (pg_name (i := 1) (show (["_law_part", "_law_runs"] : List Str).Nodup by decide +kernel) rfl (Or.inl rfl)) pgs_nil)))) (fun _ _ _ _ => pif_none) (fun _ _ _ _ => (pe_fn (D__law_of_widest T) (hr.mono (by decide)) rfl (pa_cons (pv 0) (pa_cons (pv 1) pa_nil))))) pa_nil))))))))))))))))))))))))), ?_⟩
    refine ⟨by show 5 ≤ sizeLine; decide, fun p1 H1 n1 => ?_⟩
    refine ⟨_, rfl, a, ns, 0, rfl, sq_mono n1.same hS, by decide, fun c0 => ?_⟩
    obtain ⟨k, hk, ek⟩ : ∃ k : Nat, k < 5 ∧ c0 % 5 = (k : Int) := ⟨(c0 % 5).toNat, by omega, by omega⟩
    refine ⟨_, _, rfl, rfl, (by show (0 : Int) < 5; decide), ?_⟩
    have hat : atI [V.str "many", V.str "sum", V.str "least", V.str "greatest", V.str "mean"] (c0 % 5) = some (V.str (wd k)) := by
      rw [ek]
      match k, hk with
      | 0, _ => rfl
      | 1, _ => rfl
      | 2, _ => rfl
      | 3, _ => rfl
      | 4, _ => rfl
    refine ⟨p1, _, _, _, rfl, rfl, SqL.of n1.at_, hat, ?_⟩
    refine ⟨_, rfl, a, ns, 0, rfl, sq_mono n1.same hS, by decide, fun c1 => ?_⟩
    refine ⟨_, _, rfl, rfl, ⟨by decide, by decide⟩, _, _, rfl, rfl, (by show (0 : Int) < 2; decide), rfl, ?_⟩
    generalize decide (V.int (c1 / 5 % 2) = V.int 1) = b
    refine ⟨_, rfl, wd k, rfl, fun j hj e me dx H2 s2 hme => ?_, fun z => absurd rfl (z k hk)⟩
    obtain rfl := wd_inj hk hj e
    have s02 := n1.same.trans s2
    clear n1 s2 hat
    refine ⟨by show 0 ≤ sizeLine; decide, fun lk H3 n3 => ?_⟩
    have hS3 := sq_mono (s02.trans n3.same) hS
    have hme3 := n3.same _ _ hme
    have hlk3 := n3.at_
    clear n3 s02 hme hS ek
    refine And.intro ?_ ?_
    · refine ⟨_, rfl, a, ns, 1, rfl, hS3, by decide, fun c1 => ?_⟩
      refine ⟨_, _, rfl, rfl, (by show (0 : Int) < 3; decide), _, _, rfl, rfl, _, rfl, ite2 (fun _ => ?_) fun _ => ?_⟩
      · refine ⟨_, rfl, a, ns, 1, rfl, hS3, by decide, fun c2 => ?_⟩
        refine ⟨_, _, rfl, rfl, ⟨by decide, by decide⟩, c2 / 3, 3, rfl, by decide, by decide, fun p xs rss H4 s4 hp ll ro l1 l5 => ?_⟩
        show JA _ _
        rw [eJA]
        exact ⟨sq_mono s4 hS3, k, b, me, dx, p, xs, rss, hk, s4 _ _ hme3, hp, ll, ro, l5, rfl⟩
      · show JA _ _
        rw [eJA]
        exact ⟨hS3, k, b, me, dx, lk, [], [], hk, hme3, hlk3, .nil, (fun r hr' => by cases hr'), by simp, rfl⟩
    clear hS3 hme3 hlk3 hk
    intro σ' H' j
    rw [eJA] at j
    clear eJA
    obtain ⟨hS', k, b, me, dx, lk, xk, rk, hk, hme, hlk, llk, rok, lnk, rfl⟩ := j
    refine ⟨_, rfl, a, ns, 2, rfl, hS', by decide, fun c2 => ?_⟩
    refine ⟨c2, 5, rfl, by decide, by decide, fun lq xq rp H1 s1 hlq llq rop np1 np5 => ⟨lq, rfl, ⟨_, SqL.of hlq⟩, lc_hOf hlq llq rop (by omega) (fun b ys rs H2 Q' _ hb hp ok q1 q2 hq => ⟨_, rfl, b, ys, rs, rfl, hb, hp, ok, q1, q2, hq⟩) fun lp y2 H2 H3 s2 n3 t2 => ?_⟩⟩
    have s13 := s1.trans (s2.trans n3.same)
    refine ⟨_, rfl, lk, rfl, ⟨_, SqL.of (s13 _ _ hlk)⟩, lc_hOf (s13 _ _ hlk) (llk.same s13) rok (by omega) (fun b ys rs H2 Q' _ hb hp ok q1 q2 hq => ⟨_, rfl, b, ys, rs, rfl, hb, hp, ok, q1, q2, hq⟩) fun lh y1 H4 H5 s4 n5 t1 => ?_⟩
    have s35 := s4.trans n5.same
    have S5 : S45 H5 me lp lh (clsK C_HowMany C_Total C_Least C_Greatest C_Mean k) y1 y2 rk rp := ⟨⟨dx, s35 _ _ (s13 _ _ hme)⟩, rok, lnk, rop, ⟨np1, np5⟩, n5.at_, t1, s35 _ _ n3.at_, t2.same s35⟩
    have hlk5 := s35 _ _ (s13 _ _ hlk)
    have llk5 := (llk.same s13).same s35
    clear hS' hme hlk llk rok lnk hlq llq rop np1 np5 s1 s2 n3 t2 s13 s4 n5 t1 s35 dx
    refine ⟨_, rfl, lh, y1, rfl, .inl (SqL.of S5.lh), fun l1 H6 n6 => ?_⟩
    refine ⟨_, rfl, lp, y2, rfl, .inl (SqL.of (n6.same _ _ S5.lp)), fun l2 H7 n7 => ?_⟩
    refine ⟨by show 2 ≤ sizeLine; decide, fun th H8 n8 => ?_⟩
    have s58 := n6.same.trans (n7.same.trans n8.same)
    have S8 := S5.same s58
    have hlk8 := s58 _ _ hlk5
    have llk8 := llk5.same s58
    have h1 := n8.same _ _ (n7.same _ _ n6.at_)
    have h2 := n8.same _ _ n7.at_
    have hth := n8.at_
    clear S5 hlk5 llk5 n6 n7 n8 s58
    have nk := S8.nk
    have np := S8.np
    obtain ⟨ok1, le1⟩ := hs_ok S8.ok (by omega)
    obtain ⟨ok2, le2⟩ := hs_ok S8.op (by omega)
    have ne2 : rp.map hOf ≠ [] := fun e => by
      have := congrArg List.length e
      rw [List.length_map, List.length_nil] at this
      omega
    obtain ⟨dx, hme⟩ := S8.me
    refine alt5 (sp := sp_toldG) k hk ⟨_, rfl, me, dx, _, rfl, hme, rfl, _, rfl, th, _, _, _, rfl, rfl, SqT.of hth, rfl, _, rfl, th, _, _, _, rfl, rfl, SqT.of hth, rfl, ?_⟩
    refine ⟨me, l1, l2, y1, y2, rk.map hOf, rp.map hOf, rfl, h1, S8.th, ok1.2.1, h2, S8.tp, ok2, fun tf x y H9 s9 htf told => ?_⟩
    obtain ⟨z1, n1, z2, n2, f⟩ := told_can hk ok1.2.1 le1 ok2 (.inr ne2) told
    obtain ⟨e, hat, fe, le⟩ : ∃ e, atI [x, y] (if b = true then 1 else 0) = some e ∧ FrAt H9 k e (if b = true then z2 else z1) (if b = true then n2 else n1) ∧ LowK k (if b = true then z2 else z1) (if b = true then n2 else n1) := by
      cases b with
      | true => exact ⟨y, rfl, f.y, f.ly⟩
      | false => exact ⟨x, rfl, f.x, f.lx⟩
    refine ⟨_, rfl, .inr ⟨b, rfl, tf, _, _, _, rfl, rfl, SqT.of htf, hat, ?_⟩⟩
    have S9 := S8.same s9
    have hth9 := s9 _ _ hth
    have h19 := s9 _ _ h1
    have h29 := s9 _ _ h2
    have hme9 := s9 _ _ hme
    refine And.intro ?_ ?_
    · refine alt5X k hk ⟨_, rfl, me, dx, _, rfl, hme9, rfl, _, rfl, th, _, _, _, rfl, rfl, SqT.of hth9, rfl, _, rfl, th, _, _, _, rfl, rfl, SqT.of hth9, rfl, _, rfl, ?_⟩
      refine ⟨me, l1, l2, dx, y1, y2, rk.map hOf, rp.map hOf, k, b, rfl, hk, hme9, h19, S9.th, ok1.2.1, le1, h29, S9.tp, ok2, .inr ne2, fun lf zs x' y' a1 b1 a2 b2 z' n' H0 Ha f' ez en sa hf hlf ll fz => ?_⟩
      have hlf0 : lh ≠ lf ∧ lp ≠ lf := ⟨ne_of_none S9.lh hf, ne_of_none S9.lp hf⟩
      show JB _ _
      rw [eJB]
      refine ⟨k, b, me, lk, lp, lh, th, l1, l2, lf, xk, y1, y2, zs, e, _, _, z', n', rk, rp, hk, S9.same sa, ⟨fe.same sa, le, ⟨H0, x', y', a1, b1, a2, b2, f', ez, en⟩, ?_, ?_⟩, sa _ _ (s9 _ _ hlk8), (llk8.same s9).same sa, sa _ _ hth9, sa _ _ h19, sa _ _ h29, hlf, ll, fun c hc => ⟨ne_of_none S9.lh (fz c hc).1, ne_of_none S9.lp (fz c hc).1, fun e => (fz c hc).2 e.symm⟩, hlf0.1, hlf0.2, rfl⟩
      · cases b with
        | true =>
          simp only [if_true] at ez en ⊢
          have q1 := (f.w a2 b2 f'.y.pos f'.cy).2
          have q2 := (f'.w z2 n2 f.y.pos f.cy).2
          rw [ez, en]; omega
        | false =>
          simp only [Bool.false_eq_true, if_false] at ez en ⊢
          have q1 := (f.w a1 b1 f'.x.pos f'.cx).1
          have q2 := (f'.w z1 n1 f.x.pos f.cx).1
          rw [ez, en]; omega
      · cases b with
        | true => simp only [if_true] at en; rw [en]; exact f'.y.pos
        | false => simp only [Bool.false_eq_true, if_false] at en; rw [en]; exact f'.x.pos
    clear S8 S9 hlk8 llk8 h1 h2 hth h19 h29 hth9 hme hme9 told f hat fe le ok1 le1 ok2 le2 ne2 nk np hk s9 htf
    intro σ' H' j
    rw [eJB] at j
    clear eJB
    obtain ⟨k, b, me, lk, lp, lh, th, l1, l2, lf, xk, y1, y2, zs, e, z, n, z', n', rk, rp, hk, S, E4, hlk, llk, hth, h1, h2, hlf, ll, fz, nhf, npf, rfl⟩ := j
    have nk := S.nk
    have np := S.np
    have lzs : zs.length = rp.length := by rw [ll.length, List.length_map, List.length_map]
    have ly2 : y2.length = rp.length := by rw [S.tp.length, List.length_map, List.length_map]
    refine ⟨_, rfl, _, rfl, _, rfl, by show 2 ≤ sizeLine; decide, fun t1 G1 g1 => ?_⟩
    have S1 := S.same g1.same
    refine ⟨dTL2 ((rk.map hOf).map j4) ((rp.map hOf).map j4), dTL2 ((rk.map hOf).map j4) ((rp.map hOf).map j4), rep_tl2 (g1.same _ _ hth) (g1.same _ _ h1) S1.th (g1.same _ _ h2) S1.tp, rep_tl2 g1.at_ S1.lh S1.th S1.lp S1.tp, lay_tl2 _ _, lay_tl2 _ _, dep_tl2 _ _, _, rfl, ?_⟩
    show if (!PyData.eqv _ _) = true then _ else _
    rw [SeqAt.eqv_refl _ (lay_tl2 _ _)]
    refine iteF ?_
    have hlf1 := g1.same _ _ hlf
    refine ⟨_, rfl, _, _, _, true, rfl, .lst hlf1, kit_list _, _, rfl, iteF ?_⟩
    refine ⟨_, rfl, lf, _, rfl, .inl (SqL.of hlf1), _, rfl, lp, _, rfl, .inl (SqL.of S1.lp), rfl, _, rfl, ite2 (fun y => ?_) fun _ => ?_⟩
    · rw [lzs, ly2] at y
      simp at y
    refine ⟨by show 0 ≤ sizeLine; decide, fun lw G2 g2 => ?_⟩
    have s2 := g1.same.trans g2.same
    have S2 := S.same s2
    have E2 := E4.same s2
    have ll2 := ll.same s2
    have hlf2 := s2 _ _ hlf
    have hlk2 := s2 _ _ hlk
    have llk2 := llk.same s2
    have hlw := g2.at_
    clear S S1 E4 ll hlf hlf1 hlk llk hth h1 h2 g1 g2 s2
    refine ⟨_, rfl, lk, rfl, ⟨_, SqL.of hlk2⟩, for_list (xs := xk) (fun i σ H3 => Same G2 H3 ∧ ∃ (lw : Addr) (xw : List V) (Kn : List (Int × Int)) (v11 : Option V), H3 lw = some (.lst xw) ∧ Pairs H3 xw Kn ∧ Lk ((rk.take i).map hOf) Kn ∧ RunsT Kn ∧ Kn.length ≤ 5 * i ∧ σ = [some (.ref a), some (.str (wd k)), some (.bl b), some (.ref me), some (.ref lk), some (.ref lp), some (.ref lh), some (.ref th), some e, some (.ref lf), some (.ref lw), v11, none, none, none]) ⟨Same.refl _, lw, [], [], none, hlw, .nil, Lk.nil, (fun p hp => by cases hp), Nat.le_refl _, rfl⟩ (fun i σ H3 _ h3 => SqL.of (h3.1 _ _ hlk2)) ?_ ?_⟩
    · rintro i x σ H3 hi ⟨s3, lw, xw, Kn, v11, hw, pw, lk', okn, lnn, rfl⟩
      obtain ⟨rs, c, ys, hr', rfl, hc, hp⟩ := llk2.get hi
      obtain ⟨t, q1, q5⟩ := S2.ok rs (List.mem_of_getElem? hr')
      have hil : i < rk.length := (List.getElem?_eq_some_iff.mp hr').1
      have lx := pw.length
      have ly := hp.length
      refine gname_ ?_
      refine ⟨_, rfl, _, rfl, lw, c, _, _, rfl, rfl, hw, s3 _ _ hc, Nat.le_of_lt (small1000 (by omega)), fun p H4 n4 => ?_⟩
      refine ⟨s3.trans n4.same, p, _, Kn ++ rs, _, n4.at_, (Pairs.app pw (hp.same s3)).same n4.same, ?_, fun p hp => ?_, ?_, rfl⟩
      · rw [takeN rk i rs hr', List.map_append]
        exact lk'.snoc (g := hOf rs) (hOf_heap q1)
      · rcases List.mem_append.mp hp with y | y
        · exact okn p y
        · exact t p y
      · rw [List.length_append]; omega
    rintro σ H3 ⟨s3, lw, xw, Kn, v11, hw, pw, lk', okn, lnn, rfl⟩
    rw [llk2.length] at lk' lnn
    rw [List.take_length] at lk'
    have S3 := S2.same s3
    have E3 := E2.same s3
    have ll3 := ll2.same s3
    have hlf3 := s3 _ _ hlf2
    clear S2 E2 ll2 hlf2 hlk2 llk2 hlw s3
    obtain ⟨ok2, le2⟩ := hs_ok S3.op (by omega)
    have pc : PsC (rp.map hOf) := fun h hh => (ok2.2.2 h hh).1
    refine And.intro ?_ ?_
    · have hlp3 := S3.lp
      refine ⟨_, rfl, _, rfl, lp, lf, _, _, rfl, SqL.of hlp3, SqL.of hlf3, for_zipN (xs := y2) (ys := zs) (fun i σ H4 => Same H3 H4 ∧ ∃ (lw : Addr) (xw : List V) (v11 v12 : Option V), H4 lw = some (.lst xw) ∧ Pairs H4 xw (Kn ++ (wAll ((rp.map hOf).take i)).filter fun p => tkB k b z' n' p.1) ∧ σ = [some (.ref a), some (.str (wd k)), some (.bl b), some (.ref me), some (.ref lk), some (.ref lp), some (.ref lh), some (.ref th), some e, some (.ref lf), some (.ref lw), v11, v12, none, none]) ⟨Same.refl _, lw, xw, v11, none, hw, by rw [List.take_zero]; show Pairs H3 xw (Kn ++ []); rw [List.append_nil]; exact pw, rfl⟩ (fun i σ H4 h4 => ⟨SqL.of (h4.1 _ _ hlp3), SqL.of (h4.1 _ _ hlf3)⟩) ?_ ?_⟩
      · rintro i u v σ H4 p H5 hu hv n5 ⟨s4, lw, xw, v11, v12, hw, pw, rfl⟩
        obtain ⟨j, hji, c, rfl, hc⟩ := S3.tp.get hu
        rw [List.getElem?_map] at hji
        obtain ⟨h, hh, rfl⟩ := Option.map_eq_some_iff.mp hji
        obtain ⟨rw', d, ys, hr', rfl, hd, hpy⟩ := ll3.get hv
        have er : rw' = wTk k b z' n' h := by
          rw [List.getElem?_map, hh] at hr'
          exact (Option.some.inj hr').symm
        subst er
        have hm := List.mem_of_getElem? hh
        have s5 := s4.trans n5.same
        refine ⟨p, _, rfl, SqT.of n5.at_, rfl, _, _, rfl, _, _, rfl, rfl, ?_⟩
        refine ⟨_, rfl, _, rfl, c, d, h, ys, _, rfl, s5 _ _ hc, (ok2.2.2 h hm).1, (ok2.2.2 h hm).2, s5 _ _ hd, hpy.same s5, fun H6 s6 => ⟨_, rfl, iteF ?_⟩⟩
        have s46 := n5.same.trans s6
        have pw6 := pw.same s46
        have lx := pw6.length
        have ly := hpy.length
        have l3 : (wTk k b z' n' h).length ≤ 3 := Nat.le_trans (List.length_filter_le _ _) (WRow.of (ok2.2.2 h hm).1).len.2
        have lw3 : ((wAll ((rp.map hOf).take i)).filter fun p => tkB k b z' n' p.1).length ≤ 3 * 5 := by
          refine Nat.le_trans (List.length_filter_le _ _) (Nat.le_trans (wAll_len fun x hx => pc x (List.mem_of_mem_take hx)) ?_)
          rw [List.length_take, List.length_map]; omega
        rw [List.length_append] at lx
        refine ⟨_, rfl, _, rfl, lw, d, _, _, rfl, rfl, s46 _ _ hw, (s5.trans s6) _ _ hd, Nat.le_of_lt (small1000 (by omega)), fun p7 H7 n7 => ?_⟩
        refine ⟨(s5.trans s6).trans n7.same, p7, _, _, _, n7.at_, ?_, rfl⟩
        rw [flt_snoc _ _ i h hh, ← List.append_assoc]
        exact (Pairs.app pw6 (hpy.same (s5.trans s6))).same n7.same
      · rintro i σ H4 hi ⟨s4, lw, xw, v11, v12, hw, pw, rfl⟩
        have e1 : i = (rp.map hOf).length := by rw [List.length_map]; omega
        rw [e1, List.take_length] at pw
        show JC _ _
        rw [eJC]
        exact ⟨k, b, me, lk, lp, lh, th, lf, lw, y1, y2, zs, xw, e, z, n, z', n', rk, rp, Kn, v11, v12, hk, S3.same s4, E3.same s4, s4 _ _ hlf3, ll3.same s4, fz, nhf, npf, hw, pw, lk', okn, by omega, rfl⟩
    clear S3 E3 ll3 hlf3 pw lk' okn lnn ok2 le2 pc nk np lzs ly2 fz nhf npf hk hw
    intro σ' H' j
    rw [eJC] at j
    clear eJC
    obtain ⟨k, b, me, lk, lp, lh, th, lf, lw, y1, y2, zs, xw, e, z, n, z', n', rk, rp, Kn, v11, v12, hk, S, E4, hlf, ll, fz, nhf, npf, hw, pw, lk', okn, lnn, rfl⟩ := j
    have nk := S.nk
    have np := S.np
    obtain ⟨ok1, le1⟩ := hs_ok S.ok (by omega)
    obtain ⟨ok2, le2⟩ := hs_ok S.op (by omega)
    have pc : PsC (rp.map hOf) := fun h hh => (ok2.2.2 h hh).1
    have ne2 : rp.map hOf ≠ [] := fun e => by
      have := congrArg List.length e
      rw [List.length_map, List.length_nil] at this
      omega
    have okr : RunsOk (Kn ++ (wAll (rp.map hOf)).filter fun p => tkB k b z' n' p.1) := fun p hp => by
      rcases List.mem_append.mp hp with y | y
      · exact okn.ok p y
      · exact wAll_runs S.op p (List.mem_filter.mp y).1
    have lnr : (Kn ++ (wAll (rp.map hOf)).filter fun p => tkB k b z' n' p.1).length ≤ 200 := by
      have h1 := List.length_filter_le (fun p : Int × Int => tkB k b z' n' p.1) (wAll (rp.map hOf))
      have h2 := wAll_len pc
      rw [List.length_map] at h2
      rw [List.length_append]; omega
    obtain ⟨H0, x, y, a1, b1, a2, b2, f, ez, en⟩ := E4.r
    refine ⟨_, rfl, _, rfl, k, lw, xw, _, rfl, hk, hw, pw, okr, lnr, fun v H2 s2 hv => ?_⟩
    obtain ⟨rne, rans⟩ := reach (H2 := H2) (v := v) hk ok1.2.1 le1 pc ne2 f b z' n' ez en lk' okr lnr
    rcases hv with ⟨_, h2k, h0⟩ | ⟨_, av⟩
    · exact absurd h0 (rne h2k)
    have nv := av.ne_non
    obtain ⟨zd, nd, fv, eq⟩ := rans av
    have E2 := E4.same s2
    have ef := fr_eq E2.p eq E2.q
    refine ⟨_, rfl, rfl, _, rfl, ite2 (fun y => absurd (by simpa using y) nv) fun _ => ?_⟩
    refine ⟨_, rfl, _, rfl, k, e, rfl, E2.e.end_ E2.l, fun H3 s3 => ⟨_, rfl, iteF ?_⟩⟩
    have E3 := E2.same s3
    have fv3 := fv.same s3
    refine ⟨_, rfl, _, rfl, _, rfl, k, v, e, zd, nd, z, n, rfl, fv3, E3.e, false, by rw [decide_eq_false (by omega)], iteF ?_⟩
    refine ⟨_, rfl, _, rfl, _, rfl, k, e, v, z, n, zd, nd, rfl, E3.e, fv3, false, by rw [decide_eq_false (by omega)], iteF ?_⟩
    have s23 := s2.trans s3
    have S3 := S.same s23
    have hlf3 := s23 _ _ hlf
    have ll3 := ll.same s23
    clear E2 E3 E4 fv fv3 av nv eq ef rne rans okr lnr f ez en S hlf ll hw pw lk' okn lnn s2 s3 s23 ok1 le1 ok2 le2 ne2
    refine And.intro ?_ ?_
    · refine ⟨_, rfl, lf, rfl, ⟨_, SqL.of hlf3⟩, for_list (xs := zs) (fun i σ H4 => S45 H4 me lp lh (clsK C_HowMany C_Total C_Least C_Greatest C_Mean k) y1 y2 rk rp ∧ H4 lf = some (.lst zs) ∧ (∀ c, V.ref c ∈ zs → ∃ ws, H4 c = some (.lst ws) ∧ ws.length ≤ 3 + i) ∧ ∃ v11, σ = [some (.ref a), some (.str (wd k)), some (.bl b), some (.ref me), some (.ref lk), some (.ref lp), some (.ref lh), some (.ref th), some e, some (.ref lf), some (.ref lw), v11, v12, some v, none]) ⟨S3, hlf3, fun c hc => ?_, v11, rfl⟩ (fun i σ H4 _ h4 => SqL.of h4.2.1) ?_ ?_⟩
      · obtain ⟨i, hi⟩ := List.mem_iff_getElem?.mp hc
        obtain ⟨rw', d, ys, hr', ed, hd, hpy⟩ := ll3.get hi
        cases ed
        refine ⟨ys, hd, ?_⟩
        rw [hpy.length]
        rw [List.getElem?_map] at hr'
        obtain ⟨h, hh, rfl⟩ := Option.map_eq_some_iff.mp hr'
        exact Nat.le_trans (List.length_filter_le _ _) (WRow.of (pc h (List.mem_of_getElem? hh))).len.2
      · rintro i u σ H4 hu ⟨S4, hlf4, aw, v11, rfl⟩
        have hil : i < zs.length := (List.getElem?_eq_some_iff.mp hu).1
        have lzs : zs.length = rp.length := by rw [ll3.length, List.length_map, List.length_map]
        obtain ⟨rw', d, ys, _, rfl, _, _⟩ := ll3.get hu
        have hm := List.mem_of_getElem? hu
        obtain ⟨n1, n2, n3⟩ := fz d hm
        obtain ⟨ws, hd, lws⟩ := aw d hm
        refine gname_ ?_
        refine ⟨_, rfl, .inl ⟨rfl, _, SqL.of hd⟩, by show 2 ≤ sizeLine; decide, fun t5 H5 n5 => ?_⟩
        have hd5 := n5.same _ _ hd
        refine ⟨d, ws, _, rfl, rfl, hd5, small1000 (by omega), fun H6 b6 h6 => ?_⟩
        refine ⟨(S4.same n5.same).but b6 hd5 n1 n2, b6 _ _ (n5.same _ _ hlf4) n3, fun c hc => ?_, _, rfl⟩
        by_cases ecd : c = d
        · rw [ecd]; exact ⟨_, h6, by rw [List.length_append]; simp; omega⟩
        · obtain ⟨ws', hc', l'⟩ := aw c hc
          exact ⟨ws', b6 _ _ (n5.same _ _ hc') ecd, by omega⟩
      · rintro σ H4 ⟨S4, hlf4, aw, v11, rfl⟩
        show JD _ _
        rw [eJD]
        exact ⟨k, b, me, lp, lh, lf, y1, y2, zs, rk, rp, _, _, _, _, v11, v12, _, hk, S4, hlf4, nhf, npf, rfl⟩
    clear S3 hlf3 ll3 fz nhf npf nk np pc hk
    intro σ' H' j
    rw [eJD] at j
    clear eJD
    obtain ⟨k, b, me, lp, lh, lf, y1, y2, zs, rk, rp, v4, v7, v8, v10, v11, v12, v13, hk, S, hlf, nhf, npf, rfl⟩ := j
    refine ⟨_, rfl, .inl ⟨rfl, _, SqL.of hlf⟩, lf, zs, rfl, rfl, hlf, fun H1 b1 _ => ?_⟩
    have S1 := S.but b1 hlf nhf npf
    have nk := S1.nk
    have np := S1.np
    clear S hlf nhf npf b1
    obtain ⟨ok1, le1⟩ := hs_ok S1.ok (by omega)
    obtain ⟨ok2, le2⟩ := hs_ok S1.op (by omega)
    have ne2 : rp.map hOf ≠ [] := fun e => by
      have := congrArg List.length e
      rw [List.length_map, List.length_nil] at this
      omega
    obtain ⟨dx, hme⟩ := S1.me
    refine alt5X k hk ⟨_, rfl, me, dx, _, rfl, hme, rfl, _, rfl, _, rfl, _, rfl, ?_⟩
    refine ⟨me, lh, lp, dx, y1, y2, rk.map hOf, rp.map hOf, k, b, rfl, hk, hme, S1.lh, S1.th, ok1.2.1, le1, S1.lp, S1.tp, ok2, .inr ne2, fun la za x' y' a1 b1 a2 b2 z' n' H0 H2 f' ez en s2 hf hla ll fz => ?_⟩
    have S2 := S1.same s2
    have lza : za.length = rp.length := by rw [ll.length, List.length_map, List.length_map]
    have ly2 : y2.length = rp.length := by rw [S2.tp.length, List.length_map, List.length_map]
    refine ⟨_, rfl, la, _, rfl, .inl (SqL.of hla), _, rfl, lp, _, rfl, .inl (SqL.of S2.lp), rfl, ?_⟩
    rw [lza, ly2, decide_eq_true rfl]
    refine ⟨_, rfl, iteT ?_⟩
    have hlp2 := S2.lp
    refine ⟨_, rfl, _, rfl, lp, la, _, _, rfl, SqL.of hlp2, SqL.of hla, lc_zipN (xs := y2) (ys := za) (fun i ws H3 => Same H2 H3 ∧ ws = (List.replicate i true).map V.bl) (Nat.le_of_lt (small1000 (by omega))) ⟨Same.refl _, rfl⟩ (fun i ws H3 h3 => ⟨SqL.of (h3.1 _ _ hlp2), SqL.of (h3.1 _ _ hla), by rw [h3.2]; simp⟩) ?_ ?_⟩
    · rintro i u v ws H3 p H4 hu hv n4 ⟨s3, rfl⟩
      obtain ⟨j, hji, c, rfl, hc⟩ := S2.tp.get hu
      rw [List.getElem?_map] at hji
      obtain ⟨h, hh, rfl⟩ := Option.map_eq_some_iff.mp hji
      obtain ⟨rw', d, ys, hr', rfl, hd, hpy⟩ := ll.get hv
      have er : rw' = wTk k b z' n' h := by
        rw [List.getElem?_map, hh] at hr'
        exact (Option.some.inj hr').symm
      subst er
      have hm := List.mem_of_getElem? hh
      have s4 := s3.trans n4.same
      refine ⟨p, _, rfl, SqT.of n4.at_, rfl, _, _, rfl, _, _, rfl, rfl, yes_ (iteT ?_)⟩
      exact ⟨_, rfl, _, rfl, c, d, h, ys, _, rfl, s4 _ _ hc, (ok2.2.2 h hm).1, (ok2.2.2 h hm).2, s4 _ _ hd, hpy.same s4, fun H5 s5 => ⟨s4.trans s5, (rep_snoc true i).symm⟩⟩
    rintro i ws H3 p H4 _ ⟨s3, rfl⟩ n4
    refine ⟨p, List.replicate _ true, rfl, SqL.of n4.at_, ?_⟩
    have e : ∀ n, (List.replicate n true).all id = true := fun n => by simp
    rw [e]
    exact fin _
end
theorem walk {l : PySem.W.OpenLaw} {q : Program} {loose : List Str} {XP : (Str → Option Value) → Heap → Prop} {YP : World → Heap → Prop} {d : DefRec} {K : Params → PySem.W.Frag} (hn : l.most = some 63) (hdf : d.params.defaults = []) (hdn : d.name = "law")
    (hY : ∀ (w : World) (h : Heap), YP w h → (K w.params).In h)
    (F : ∀ (w : World) (mg : Str → Option Value) (h : Heap), (K w.params).In h → h.Ns mainGlobals mg → ∃ C_Measure C_HowMany C_Total C_Least C_Greatest C_Mean C_BookError C_NoAsk C_NoAnswer, Txt (K w.params) mg C_Measure C_HowMany C_Total C_Least C_Greatest C_Mean C_BookError C_NoAsk C_NoAnswer) :
    PySem.W.WalkO q loose XP YP l.row.toRowW d [] (fun f vs => PySem.call f vs) := by
  refine L2.walk_of (n := 63) (k := 9) (x := "_law_script") (CX := fun _ => CX0) (sp := fun w => sp_law (K w.params)) hn (by decide) hdf ⟨rfl, by decide, by decide⟩ hY (fun w mg fa h kin ns hm => ?_) (fun _ _ a ns hl _ hS => ⟨a, ns, rfl, hS, hl, fun _ => rfl⟩) fun _ _ _ _ _ z => z
  obtain ⟨C_Measure, C_HowMany, C_Total, C_Least, C_Greatest, C_Mean, C_BookError, C_NoAsk, C_NoAnswer, T⟩ := F w mg h kin ns
  obtain ⟨f, fd, Fu, hm'⟩ := T.f_law
  rw [hdn, hm'] at hm
  cases hm
  refine ⟨fd, ?_, fun base kb nb => G_law T Fu⟩
  obtain ⟨oc, od, kV, doc, pm, an, cdv, ct, osl, rfl, lk, hcd⟩ := Fu.ex
  exact fun s u => .of_eq rfl
end TB
def PySem.W.Fast.tw15786220201272724885 : Unit := ()
def PySem.W.Fast.tw7379719803399398017 : Unit := ()
def PySem.W.Fast.tw11702202880772510544 : Unit := ()
def PySem.W.Fast.tw18354460589420456837 : Unit := ()
def PySem.W.Fast.tw6705244301312202819 : Unit := ()
def PySem.W.Fast.tw13984992596757149429 : Unit := ()
def PySem.W.Fast.tw572070323436648277 : Unit := ()
def PySem.W.Fast.tw3454585623360757927 : Unit := ()
def PySem.W.Fast.tw3141368155951117651 : Unit := ()
def PySem.W.Fast.tw924241169159254544 : Unit := ()
def PySem.W.Fast.tw13997970240308653029 : Unit := ()
def PySem.W.Fast.tw6845576080654176035 : Unit := ()
def PySem.W.Fast.tw11082253048087774263 : Unit := ()
def PySem.W.Fast.tw13451795560568268745 : Unit := ()
def PySem.W.Fast.tw16905967820724848015 : Unit := ()
def PySem.W.Fast.tw4555258556268071868 : Unit := ()
def PySem.W.Fast.tw9337041891932948237 : Unit := ()
def PySem.W.Fast.tw11867473392808656886 : Unit := ()
def PySem.W.Fast.tw16700421458553578968 : Unit := ()
def PySem.W.Fast.tw4562084048454891320 : Unit := ()
def PySem.W.Fast.tw17507343692853935107 : Unit := ()
def PySem.W.Fast.tw9723999465356890589 : Unit := ()
def PySem.W.Fast.tw10207964192133294943 : Unit := ()
def PySem.W.Fast.tw11629632557630654670 : Unit := ()
def PySem.W.Fast.tw15691227065451024585 : Unit := ()
def PySem.W.Fast.tw9639138089901980481 : Unit := ()
def PySem.W.Fast.tw3853432970017472607 : Unit := ()
def PySem.W.Fast.tw3279645989990389530 : Unit := ()
def PySem.W.Fast.tw5848055629832181991 : Unit := ()
def PySem.W.Fast.tw1296249751571628112 : Unit := ()
def PySem.W.Fast.tw9333024354961056549 : Unit := ()
def PySem.W.Fast.tw15941597567310478316 : Unit := ()
def PySem.W.Fast.tw16969236685799347196 : Unit := ()
def PySem.W.Fast.tw13640576527455543454 : Unit := ()
def PySem.W.Fast.tw17239914022812165078 : Unit := ()
def PySem.W.Fast.tw7628819265904416177 : Unit := ()
def PySem.W.Fast.tw13632748915008927190 : Unit := ()
def PySem.W.Fast.tw4196558482140372276 : Unit := ()
def PySem.W.Fast.tw8138624266357833871 : Unit := ()
def PySem.W.Fast.tw10732720380215437723 : Unit := ()
def PySem.W.Fast.tw13275960628789939038 : Unit := ()
def PySem.W.Fast.tw15522730261029729400 : Unit := ()
def PySem.W.Fast.tw6811469364310191947 : Unit := ()
def PySem.W.Fast.tw2670140573575761025 : Unit := ()
def PySem.W.Fast.tw4153035330350155908 : Unit := ()
def PySem.W.Fast.tw7770169213873121896 : Unit := ()
def PySem.W.Fast.tw12695799895508543388 : Unit := ()
def PySem.W.Fast.tw17931619108264181569 : Unit := ()
def PySem.W.Fast.tw943060182547866772 : Unit := ()
def PySem.W.Fast.tw18254580345980384347 : Unit := ()
def PySem.W.Fast.tw12196392970224556151 : Unit := ()
def PySem.W.Fast.tw2861773144432695274 : Unit := ()
def PySem.W.Fast.tw8757595788213740985 : Unit := ()
def PySem.W.Fast.tw6961889749426346619 : Unit := ()
def PySem.W.Fast.tw11298830332979550434 : Unit := ()
def PySem.W.Fast.tw16152388718496640592 : Unit := ()
def PySem.W.Fast.tw14206451874211229263 : Unit := ()
def PySem.W.Fast.tw14219953704055276688 : Unit := ()
def PySem.W.Fast.tw11851357837404974621 : Unit := ()
def PySem.W.Fast.tw14036999639916931965 : Unit := ()
def PySem.W.Fast.tw14659967629183336099 : Unit := ()
def PySem.W.Fast.tw1201928565885746637 : Unit := ()
def PySem.W.Fast.tw273347085100807878 : Unit := ()
def PySem.W.Fast.tw3928393405631243579 : Unit := ()
def PySem.W.Fast.tw17719755694724664507 : Unit := ()
def PySem.W.Fast.tw9292938019806884224 : Unit := ()
def PySem.W.Fast.tw15548534727490268915 : Unit := ()
def PySem.W.Fast.tw1982781886977205412 : Unit := ()
def PySem.W.Fast.tw1262994415853666216 : Unit := ()
def PySem.W.Fast.tw12781765461034843888 : Unit := ()
def PySem.W.Fast.tw1731156203960603596 : Unit := ()
def PySem.W.Fast.tw5943586106539020840 : Unit := ()
def PySem.W.Fast.tw15383090496429608638 : Unit := ()
def PySem.W.Fast.tw15979230604050788503 : Unit := ()
def PySem.W.Fast.tw13205572061556131999 : Unit := ()
def PySem.W.Fast.tw15141071799277822416 : Unit := ()
def PySem.W.Fast.tw8562789770613865568 : Unit := ()
def PySem.W.Fast.tw11535429385803664414 : Unit := ()
def PySem.W.Fast.tw14599967031979264848 : Unit := ()
def PySem.W.Fast.tw15019475353539304351 : Unit := ()
def PySem.W.Fast.tw7189743206434852926 : Unit := ()
def PySem.W.Fast.tw12034664417684643638 : Unit := ()
def PySem.W.Fast.tw8846759956864725009 : Unit := ()
def PySem.W.Fast.tw11756086300191060798 : Unit := ()
def PySem.W.Fast.tw6831445218323241177 : Unit := ()
def PySem.W.Fast.tw10550953626459273196 : Unit := ()
def PySem.W.Fast.tw13991094251000411063 : Unit := ()
def PySem.W.Fast.tw14766442400518633983 : Unit := ()
def PySem.W.Fast.tw14346299064367919327 : Unit := ()
def PySem.W.Fast.tw13123529472517347620 : Unit := ()
def PySem.W.Fast.tw16376273609374326828 : Unit := ()
def PySem.W.Fast.tw17391620201855679490 : Unit := ()
def PySem.W.Fast.tw12259183787283014930 : Unit := ()
def PySem.W.Fast.tw7434781430070909869 : Unit := ()
def PySem.W.Fast.tw10735336038956864080 : Unit := ()
def PySem.W.Fast.tw12962769730976545045 : Unit := ()
def PySem.W.Fast.tw13785699654348897326 : Unit := ()
def PySem.W.Fast.tw12537785054930228388 : Unit := ()
def PySem.W.Fast.tw13268950958517114289 : Unit := ()
def PySem.W.Fast.tw14118126440432789060 : Unit := ()
def PySem.W.Fast.tw8604484914667995097 : Unit := ()
def PySem.W.Fast.tw14661098315214380422 : Unit := ()
def PySem.W.Fast.tw3385118716424623004 : Unit := ()
def PySem.W.Fast.tw1336820282157504127 : Unit := ()
def PySem.W.Fast.tw14935623467491809344 : Unit := ()
def PySem.W.Fast.tw6876084451682651859 : Unit := ()
def PySem.W.Fast.tw18289740081124113743 : Unit := ()
def PySem.W.Fast.tw2617632107206427786 : Unit := ()
def PySem.W.Fast.tw15994755216237778090 : Unit := ()
def PySem.W.Fast.tw627434036419279293 : Unit := ()
def PySem.W.Fast.tw4540984292442739267 : Unit := ()
def PySem.W.Fast.tw10070041974861752347 : Unit := ()
def PySem.W.Fast.tw11118279428254530762 : Unit := ()
def PySem.W.Fast.tw14012371093765269112 : Unit := ()
def PySem.W.Fast.tw6106213487535243366 : Unit := ()
def PySem.W.Fast.tw13067683372158446876 : Unit := ()
def PySem.W.Fast.tw14561327978987690633 : Unit := ()
def PySem.W.Fast.tw16778388731100897056 : Unit := ()
def PySem.W.Fast.tw18000161414807203544 : Unit := ()
def PySem.W.Fast.tw16098371363462941531 : Unit := ()
def PySem.W.Fast.tw3542973423074588643 : Unit := ()
def PySem.W.Fast.tw7200166756381339860 : Unit := ()
def PySem.W.Fast.tw13179865332081486315 : Unit := ()
def PySem.W.Fast.tw10338275514995525748 : Unit := ()
def PySem.W.Fast.tw7241335731567403916 : Unit := ()
def PySem.W.Fast.tw13980964206687173949 : Unit := ()
def PySem.W.Fast.tw12391480567037359559 : Unit := ()
def PySem.W.Fast.tw14405386054379824740 : Unit := ()
def PySem.W.Fast.tw1745686235641567547 : Unit := ()
def PySem.W.Fast.tw13323919883691669779 : Unit := ()
def PySem.W.Fast.tw2982836881976334343 : Unit := ()
def PySem.W.Fast.tw17140073304363110609 : Unit := ()
def PySem.W.Fast.tw700062750506475066 : Unit := ()
def PySem.W.Fast.tw15297114397678201430 : Unit := ()
def PySem.W.Fast.tw337678555174064737 : Unit := ()
def PySem.W.Fast.tw6181494161201046081 : Unit := ()
def PySem.W.Fast.tw11315361332530734817 : Unit := ()
def PySem.W.Fast.tw3221203078231718472 : Unit := ()
def PySem.W.Fast.tw5830004266259566951 : Unit := ()
def PySem.W.Fast.tw11069702178584680563 : Unit := ()
def PySem.W.Fast.tw8123465464388196855 : Unit := ()
def PySem.W.Fast.tw4534192943898204692 : Unit := ()
def PySem.W.Fast.tw5530802095066771664 : Unit := ()
def PySem.W.Fast.tw17154746580735411157 : Unit := ()
def PySem.W.Fast.tw5264074362644912889 : Unit := ()
def PySem.W.Fast.tw2693170818534336813 : Unit := ()
def PySem.W.Fast.tw11587423184110615178 : Unit := ()
def PySem.W.Fast.tw12103724794180269460 : Unit := ()
def PySem.W.Fast.tw5707592660695337186 : Unit := ()
def PySem.W.Fast.tw4847400539947358060 : Unit := ()
def PySem.W.Fast.tw13196356050138826831 : Unit := ()
def PySem.W.Fast.tw16854873983750903740 : Unit := ()
def PySem.W.Fast.tw7971722556850132906 : Unit := ()
def PySem.W.Fast.tw8517686771344314623 : Unit := ()
def PySem.W.Fast.tw17623173449289982979 : Unit := ()
def PySem.W.Fast.tw2798895619901882018 : Unit := ()
def PySem.W.Fast.tw1716931584959873171 : Unit := ()
def PySem.W.Fast.tw637451289252625538 : Unit := ()
def PySem.W.Fast.tw2941489346865075494 : Unit := ()
def PySem.W.Fast.tw2873582079553270767 : Unit := ()
def PySem.W.Fast.tw9494675485849784062 : Unit := ()
def PySem.W.Fast.tw11709547988742356497 : Unit := ()
def PySem.W.Fast.tw8034935528346596907 : Unit := ()
def PySem.W.Fast.tw4137496935054929630 : Unit := ()
def PySem.W.Fast.tw12608833137731086871 : Unit := ()
def PySem.W.Fast.tw13220008789654011592 : Unit := ()
def PySem.W.Fast.tw15413923230383122938 : Unit := ()
def PySem.W.Fast.tw13986778165942761149 : Unit := ()
def PySem.W.Fast.tw10017679124470036447 : Unit := ()
def PySem.W.Fast.tw7988242535410121309 : Unit := ()
def PySem.W.Fast.tw16963733912098475904 : Unit := ()
def PySem.W.Fast.tw17088599044448735786 : Unit := ()
def PySem.W.Fast.tw8343489263625355497 : Unit := ()
def PySem.W.Fast.tw13965858549349794637 : Unit := ()
def PySem.W.Fast.tw5951407576114798998 : Unit := ()
def PySem.W.Fast.tw15391611965483107678 : Unit := ()
def PySem.W.Fast.tw11869122544658604133 : Unit := ()
def PySem.W.Fast.tw4680482477249187216 : Unit := ()
def PySem.W.Fast.tw831633212919132137 : Unit := ()
def PySem.W.Fast.tw5586155250028302965 : Unit := ()
def PySem.W.Fast.tw9225698766074255198 : Unit := ()
def PySem.W.Fast.tw8572181680897499472 : Unit := ()
def PySem.W.Fast.tw12678297514464535958 : Unit := ()
def PySem.W.Fast.tw7285174270176682686 : Unit := ()
def PySem.W.Fast.tw8394517039459769910 : Unit := ()
def PySem.W.Fast.tw1234641371925348485 : Unit := ()
def PySem.W.Fast.tw11445436912719836061 : Unit := ()
def PySem.W.Fast.tw2673835006059875129 : Unit := ()
def PySem.W.Fast.tw11011575289048333683 : Unit := ()
def PySem.W.Fast.tw859506756469319785 : Unit := ()
def PySem.W.Fast.tw7377628371927039591 : Unit := ()
def PySem.W.Fast.tw7615123112937723829 : Unit := ()
def PySem.W.Fast.tw984813556997415980 : Unit := ()
def PySem.W.Fast.tw17409244293552104469 : Unit := ()
def PySem.W.Fast.tw13926910265656749630 : Unit := ()
def PySem.W.Fast.tw7208051950977058843 : Unit := ()
def PySem.W.Fast.tw17654785737825679607 : Unit := ()
def PySem.W.Fast.tw4615217737725846655 : Unit := ()
def PySem.W.Fast.tw10676781567644770582 : Unit := ()
def PySem.W.Fast.tw18385860977642233514 : Unit := ()
def PySem.W.Fast.tw2074617988563415123 : Unit := ()
def PySem.W.Fast.tw8327013956418683523 : Unit := ()
def PySem.W.Fast.tw18440879034766199840 : Unit := ()
def PySem.W.Fast.tw8795773991268562741 : Unit := ()
def PySem.W.Fast.tw3873452892762445590 : Unit := ()
def PySem.W.Fast.tw9946791560010028455 : Unit := ()
def PySem.W.Fast.tw4264220772160507784 : Unit := ()
def PySem.W.Fast.tw274807259188592502 : Unit := ()
def PySem.W.Fast.tw2826529240570966111 : Unit := ()
def PySem.W.Fast.tw8129911598991558802 : Unit := ()
def PySem.W.Fast.tw17709070295037984339 : Unit := ()
def PySem.W.Fast.tw9557663791555089893 : Unit := ()
def PySem.W.Fast.tw7711487347884664764 : Unit := ()
def PySem.W.Fast.tw16640674961117753679 : Unit := ()
def PySem.W.Fast.tw14538059515878500544 : Unit := ()
def PySem.W.Fast.tw17736543768531333290 : Unit := ()
def PySem.W.Fast.tw14034528160002610616 : Unit := ()
def PySem.W.Fast.tw8744796979279343635 : Unit := ()
def PySem.W.Fast.tw4242232288026403079 : Unit := ()
def PySem.W.Fast.tw1568191091461665897 : Unit := ()
def PySem.W.Fast.tw605525887818267113 : Unit := ()
def PySem.W.Fast.tw16649306246368566339 : Unit := ()
def PySem.W.Fast.tw7996761288881306831 : Unit := ()
def PySem.W.Fast.tw12527460160549471850 : Unit := ()
def PySem.W.Fast.tw13638487804169364371 : Unit := ()
def PySem.W.Fast.tw8595884394913641676 : Unit := ()
def PySem.W.Fast.tw10440894786022396562 : Unit := ()
def PySem.W.Fast.tw8801061744853042038 : Unit := ()
def PySem.W.Fast.tw17578979580469161623 : Unit := ()
def PySem.W.Fast.tw15382155611217127947 : Unit := ()
def PySem.W.Fast.tw7270443863901079512 : Unit := ()
def PySem.W.Fast.tw516880019397087553 : Unit := ()
def PySem.W.Fast.tw12346512711908280853 : Unit := ()
def PySem.W.Fast.tw211228950761349166 : Unit := ()
def PySem.W.Fast.tw10975127887844600725 : Unit := ()
def PySem.W.Fast.tw14987933958972699115 : Unit := ()
def PySem.W.Fast.tw17523511518952187315 : Unit := ()
def PySem.W.Fast.tw487300062475093679 : Unit := ()
def PySem.W.Fast.tw10377446901031524472 : Unit := ()
def PySem.W.Fast.tw4513342569414206758 : Unit := ()
def PySem.W.Fast.tw1258680610944590741 : Unit := ()
def PySem.W.Fast.tw2625294862944616166 : Unit := ()
def PySem.W.Fast.tw6621205368101514785 : Unit := ()
def PySem.W.Fast.tw5773030186044503695 : Unit := ()
def PySem.W.Fast.tw14549539378408245194 : Unit := ()
def PySem.W.Fast.tw15408083517022571396 : Unit := ()
def PySem.W.Fast.tw17425296202886702444 : Unit := ()
def PySem.W.Fast.tw303759092026464843 : Unit := ()
def PySem.W.Fast.tw14733110140257795467 : Unit := ()
def PySem.W.Fast.tw7982683806100706343 : Unit := ()
def PySem.W.Fast.tw9487091337028022811 : Unit := ()
def PySem.W.Fast.tw2537888884976363196 : Unit := ()
def PySem.W.Fast.tw14539356255588245267 : Unit := ()
def PySem.W.Fast.tw13094392734828676505 : Unit := ()
def PySem.W.Fast.tw10824065021682751656 : Unit := ()
def PySem.W.Fast.tw8613228383693239068 : Unit := ()
def PySem.W.Fast.tw16117645043620899282 : Unit := ()
def PySem.W.Fast.tw13208624131355291830 : Unit := ()
def PySem.W.Fast.tw11998713552364887251 : Unit := ()
def PySem.W.Fast.tw7147606908167448382 : Unit := ()
def PySem.W.Fast.tw8656878540552783418 : Unit := ()
def PySem.W.Fast.tw6891755925555217848 : Unit := ()
def PySem.W.Fast.tw3425493806117384815 : Unit := ()
def PySem.W.Fast.tw16287165688423057815 : Unit := ()
def PySem.W.Fast.tw12648517394385314270 : Unit := ()
def PySem.W.Fast.tw7174303324207640437 : Unit := ()
def PySem.W.Fast.tw720864787836556198 : Unit := ()
def PySem.W.Fast.tw2757399471467034256 : Unit := ()
def PySem.W.Fast.tw11574471689802117946 : Unit := ()
def PySem.W.Fast.tw6679514910112930136 : Unit := ()
def PySem.W.Fast.tw14477192323520966946 : Unit := ()
def PySem.W.Fast.tw14514045851175458214 : Unit := ()
def PySem.W.Fast.tw1503576276565205830 : Unit := ()
def PySem.W.Fast.tw2673418387584209934 : Unit := ()
def PySem.W.Fast.tw6366250193321034700 : Unit := ()
def PySem.W.Fast.tw6522381865890228160 : Unit := ()
def PySem.W.Fast.tw14264290314685061207 : Unit := ()
def PySem.W.Fast.tw3249380147891736206 : Unit := ()
def PySem.W.Fast.tw3981086680810489343 : Unit := ()
def PySem.W.Fast.tw3797775757424081969 : Unit := ()
def PySem.W.Fast.tw7624208673064668262 : Unit := ()
def PySem.W.Fast.tw9049485224858167608 : Unit := ()
def PySem.W.Fast.tw14215192393038378731 : Unit := ()
def PySem.W.Fast.tw17172078700352729759 : Unit := ()
def PySem.W.Fast.tw15016027083779868519 : Unit := ()
def PySem.W.Fast.tw17456909644544958602 : Unit := ()
def PySem.W.Fast.tw442264504497544388 : Unit := ()
def PySem.W.Fast.tw17914472106761657655 : Unit := ()
def PySem.W.Fast.tw5549182983549229597 : Unit := ()
def PySem.W.Fast.tw9460098584168030804 : Unit := ()
def PySem.W.Fast.tw2559560157440846243 : Unit := ()
def PySem.W.Fast.tw7319011941545165467 : Unit := ()
def PySem.W.Fast.tw13347106523241916665 : Unit := ()
def PySem.W.Fast.tw13304124146148505787 : Unit := ()
def PySem.W.Fast.tw11936282614436555197 : Unit := ()
def PySem.W.Fast.tw17017291920438385054 : Unit := ()
def PySem.W.Fast.tw8464448461593348412 : Unit := ()
def PySem.W.Fast.tw14860084478651334997 : Unit := ()
def PySem.W.Fast.tw8860405864770035651 : Unit := ()
def PySem.W.Fast.tw8286735869453554128 : Unit := ()
def PySem.W.Fast.tw11304704241500400663 : Unit := ()
def PySem.W.Fast.tw12797027187843867138 : Unit := ()
def PySem.W.Fast.tw13616568475584267775 : Unit := ()
def PySem.W.Fast.tw17346488378657626877 : Unit := ()
def PySem.W.Fast.tw11492574992391982043 : Unit := ()
def PySem.W.Fast.tw678247683204588896 : Unit := ()
def PySem.W.Fast.tw10469580893356676886 : Unit := ()
def PySem.W.Fast.tw723399074827161827 : Unit := ()
def PySem.W.Fast.tw13984247872221157871 : Unit := ()
def PySem.W.Fast.tw12311388758007750634 : Unit := ()
def PySem.W.Fast.tw5316138020709383605 : Unit := ()
def PySem.W.Fast.tw180130789371821639 : Unit := ()
def PySem.W.Fast.tw17190352565493545709 : Unit := ()
def PySem.W.Fast.tw1418642787840811799 : Unit := ()
def PySem.W.Fast.tw1899139968761658538 : Unit := ()
def PySem.W.Fast.tw7471408004787033456 : Unit := ()
def PySem.W.Fast.tw2665704044424269124 : Unit := ()
def PySem.W.Fast.tw7347671655552985045 : Unit := ()
def PySem.W.Fast.tw9712702565748786185 : Unit := ()
def PySem.W.Fast.tw1829266009963062541 : Unit := ()
def PySem.W.Fast.tw5035019812149313879 : Unit := ()
def PySem.W.Fast.tw13198142572899755100 : Unit := ()
def PySem.W.Fast.tw15543520972796343145 : Unit := ()
def PySem.W.Fast.tw9980005509000168231 : Unit := ()
def PySem.W.Fast.tw16364876115892044876 : Unit := ()
def PySem.W.Fast.tw5626384051014153232 : Unit := ()
def PySem.W.Fast.tw2739274508255738309 : Unit := ()
def PySem.W.Fast.tw4585279141253167262 : Unit := ()
def PySem.W.Fast.tw1246991903933540377 : Unit := ()
def PySem.W.Fast.tw10349498197515959647 : Unit := ()
def PySem.W.Fast.tw3729228699635076024 : Unit := ()
def PySem.W.Fast.tw11062977378680463020 : Unit := ()
def PySem.W.Fast.tw5934338821038591530 : Unit := ()
def PySem.W.Fast.tw11767964029412575895 : Unit := ()
open PySem PySem.W PyProof.Rows
set_option maxRecDepth 100000 in
set_option maxHeartbeats 0 in
theorem PySem.Challenge.cw_thinbook_k45_both_ends_are_reached_holds : PySem.Challenge.rw_thinbook_k45_both_ends_are_reached.Holds := by
  w_on; o_law; k_head; (case hw => w_witness2)
  k_fill
  refine TB.walk (l := PySem.Challenge.rw_thinbook_k45_both_ends_are_reached) rfl rfl rfl (fun w h Y => PySem.W.kIn_of Y) ?F
  case F =>
    intro w mg h KX G
    refine' TB.txt_mk KX G ?aCMeasure ?aCHowMany ?aCTotal ?aCLeast ?aCGreatest ?aCMean ?a0 ?l0 ?c0 ?k0 ?a1 ?l1 ?c1 ?k1 ?a2 ?l2 ?c2 ?k2 ?a3 ?l3 ?c3 ?k3 ?a4 ?l4 ?c4 ?k4 ?a5 ?l5 ?c5 ?k5 ?a6 ?l6 ?c6 ?k6 ?a7 ?l7 ?c7 ?k7 ?a8 ?l8 ?c8 ?k8 ?a9 ?l9 ?c9 ?k9 ?a10 ?i10 ?ia10_HowMany ?ia10_Total ?ia10_Least ?ia10_Greatest ?ia10_Mean ?l10 ?c10 ?k10 ?a11 ?i11 ?ia11_HowMany ?ia11_Total ?ia11_Least ?ia11_Greatest ?ia11_Mean ?l11 ?c11 ?k11 ?a12 ?i12 ?l12 ?c12 ?k12 ?a13 ?i13 ?l13 ?c13 ?k13 ?a14 ?i14 ?l14 ?c14 ?k14 ?a15 ?i15 ?l15 ?c15 ?k15 ?a16 ?i16 ?l16 ?c16 ?k16 ?a17 ?i17 ?l17 ?c17 ?k17 ?a18 ?i18 ?l18 ?c18 ?k18 ?a19 ?i19 ?l19 ?c19 ?k19 ?a20 ?i20 ?l20 ?c20 ?k20 ?a21 ?i21 ?l21 ?c21 ?k21 ?a22 ?l22 ?c22 ?k22 ?a23 ?l23 ?c23 ?k23 ?a24 ?l24 ?c24 ?k24 ?a25 ?l25 ?c25 ?k25 ?a26 ?l26 ?c26 ?k26 ?a27 ?l27 ?c27 ?k27 ?a28 ?l28 ?c28 ?k28 ?a29 ?l29 ?c29 ?k29 ?a30 ?l30 ?c30 ?k30 ?a31 ?l31 ?c31 ?k31 ?a32 ?l32 ?c32 ?k32 ?a33 ?l33 ?c33 ?k33 ?a34 ?l34 ?c34 ?k34 ?pgMeasure ?hdMeasure ?poMeasure ?saMeasure ?mkMeasure ?kcMeasure ?ibMeasure ?pgHowMany ?hdHowMany ?poHowMany ?saHowMany ?mkHowMany ?kcHowMany ?ibHowMany ?pgTotal ?hdTotal ?poTotal ?saTotal ?mkTotal ?kcTotal ?ibTotal ?pgLeast ?hdLeast ?poLeast ?saLeast ?mkLeast ?kcLeast ?ibLeast ?pgGreatest ?hdGreatest ?poGreatest ?saGreatest ?mkGreatest ?kcGreatest ?ibGreatest ?pgMean ?hdMean ?poMean ?saMean ?mkMean ?kcMean ?ibMean ?xCBookError ?xCNoAsk ?xCNoAnswer ?xEBookError ?xKBookError0 ?xKBookError1 ?xKBookError2 ?xKBookError3 ?xKBookError4 ?xKBookError5 ?xHBookError_BookError ?xIBookError_BookError ?xIBookError_NoAsk ?xIBookError_NoAnswer ?xVBookError ?xENoAsk ?xKNoAsk0 ?xKNoAsk1 ?xKNoAsk2 ?xKNoAsk3 ?xKNoAsk4 ?xKNoAsk5 ?xHNoAsk_BookError ?xINoAsk_BookError ?xHNoAsk_NoAsk ?xINoAsk_NoAsk ?xINoAsk_NoAnswer ?xVNoAsk ?xENoAnswer ?xKNoAnswer0 ?xKNoAnswer1 ?xKNoAnswer2 ?xKNoAnswer3 ?xKNoAnswer4 ?xKNoAnswer5 ?xHNoAnswer_BookError ?xINoAnswer_BookError ?xINoAnswer_NoAsk ?xHNoAnswer_NoAnswer ?xINoAnswer_NoAnswer ?xVNoAnswer ?z_abs ?z_all ?z_bool ?z_dict ?z_enumerate ?z_int ?z_isinstance ?z_len ?z_list ?z_max ?z_min ?z_range ?z_reversed ?z_sorted ?z_sum ?z_tuple ?z_zip
    (case aCMeasure | aCHowMany | aCTotal | aCLeast | aCGreatest | aCMean | a0 | l0 | c0 | k0 | a1 | l1 | c1 | k1 | a2 | l2 | c2 | k2 | a3 | l3 | c3 | k3 | a4 | l4 | c4 | k4 | a5 | l5 | c5 | k5 | a6 | l6 | c6 | k6 | a7 | l7 | c7 | k7 | a8 | l8 | c8 | k8 | a9 | l9 | c9 | k9 | a10 | i10 | ia10_HowMany | ia10_Total | ia10_Least | ia10_Greatest | ia10_Mean | l10 | c10 | k10 | a11 | i11 | ia11_HowMany | ia11_Total | ia11_Least | ia11_Greatest | ia11_Mean | l11 | c11 | k11 | a12 | i12 | l12 | c12 | k12 | a13 | i13 | l13 | c13 | k13 | a14 | i14 | l14 | c14 | k14 | a15 | i15 | l15 | c15 | k15 | a16 | i16 | l16 | c16 | k16 | a17 | i17 | l17 | c17 | k17 | a18 | i18 | l18 | c18 | k18 | a19 | i19 | l19 | c19 | k19 | a20 | i20 | l20 | c20 | k20 | a21 | i21 | l21 | c21 | k21 | a22 | l22 | c22 | k22 | a23 | l23 | c23 | k23 | a24 | l24 | c24 | k24 | a25 | l25 | c25 | k25 | a26 | l26 | c26 | k26 | a27 | l27 | c27 | k27 | a28 | l28 | c28 | k28 | a29 | l29 | c29 | k29 | a30 | l30 | c30 | k30 | a31 | l31 | c31 | k31 | a32 | l32 | c32 | k32 | a33 | l33 | c33 | k33 | a34 | l34 | c34 | k34 | pgMeasure | hdMeasure | poMeasure | saMeasure | mkMeasure | kcMeasure | ibMeasure | pgHowMany | hdHowMany | poHowMany | saHowMany | mkHowMany | kcHowMany | ibHowMany | pgTotal | hdTotal | poTotal | saTotal | mkTotal | kcTotal | ibTotal | pgLeast | hdLeast | poLeast | saLeast | mkLeast | kcLeast | ibLeast | pgGreatest | hdGreatest | poGreatest | saGreatest | mkGreatest | kcGreatest | ibGreatest | pgMean | hdMean | poMean | saMean | mkMean | kcMean | ibMean | xCBookError | xCNoAsk | xCNoAnswer | xKBookError0 | xKBookError1 | xKBookError2 | xKBookError3 | xKBookError4 | xHBookError_BookError | xKNoAsk0 | xKNoAsk1 | xKNoAsk2 | xKNoAsk3 | xKNoAsk4 | xHNoAsk_BookError | xHNoAsk_NoAsk | xKNoAnswer0 | xKNoAnswer1 | xKNoAnswer2 | xKNoAnswer3 | xKNoAnswer4 | xHNoAnswer_BookError | xHNoAnswer_NoAnswer | z_abs | z_all | z_bool | z_dict | z_enumerate | z_int | z_isinstance | z_len | z_list | z_max | z_min | z_range | z_reversed | z_sorted | z_sum | z_tuple | z_zip => k_is)
    (case xEBookError | xENoAsk | xENoAnswer => k_exc)
    (case xKBookError5 | xKNoAsk5 | xKNoAnswer5 => kts_isx)
    (case xIBookError_BookError | xIBookError_NoAsk | xIBookError_NoAnswer | xVBookError | xINoAsk_BookError | xINoAsk_NoAsk | xINoAsk_NoAnswer | xVNoAsk | xINoAnswer_BookError | xINoAnswer_NoAsk | xINoAnswer_NoAnswer | xVNoAnswer => kit_is)
