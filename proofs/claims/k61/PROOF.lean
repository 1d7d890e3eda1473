import PyProof.Rows.All
import Wide.All
import OpenK.AllK
import Wide.FinOn
import Lean
import PyProof.EqAt
import PyProof.EqKinds
import PyProof.TupleCall
import PySem.Challenge.RW_thinbook_k61_names_and_marks
set_option Elab.async false
set_option linter.all false
set_option maxRecDepth 100000
namespace L2
open PySem PySem.Spec PyProof.Rows
abbrev Key := Sum Int Str
def keyIs : Key → Value → Bool
  | .inl k, v => Value.isInt k v
  | .inr x, v => Value.isStrOf x v
def keyH (w : World) : Key → Int
  | .inl k => hashInt k
  | .inr x => hashStr w x
theorem keyIs_shape : ∀ {k : Key} {v : Value}, keyIs k v = true → (∃ i t, k = Sum.inl i ∧ v = Value.int i t) ∨ (∃ x t, k = Sum.inr x ∧ v = Value.str x t)
  | .inl i, v, h => by
    obtain ⟨t, e⟩ := Value.isInt_shape (k := i) (v := v) h
    exact .inl ⟨i, t, rfl, e⟩
  | .inr x, v, h => by
    obtain ⟨t, e⟩ := Value.isStrOf_shape (x := x) (v := v) h
    exact .inr ⟨x, t, rfl, e⟩
theorem keyIs_int (i : Int) (t : Tok) : keyIs (.inl i) (.int i t) = true := by simp [keyIs, Value.isInt]
theorem keyIs_str (x : Str) (t : Tok) : keyIs (.inr x) (.str x t) = true := by simp [keyIs, Value.isStrOf]
theorem key_ll (a b : Int) : decide ((Sum.inl a : Key) = Sum.inl b) = (a == b) := by
  by_cases e : a = b
  · subst e; simp
  · have h : ¬ (Sum.inl a : Key) = Sum.inl b := fun q => e (Sum.inl.inj q)
    rw [decide_eq_false h]
    exact (beq_eq_false_iff_ne.mpr e).symm
theorem key_rr (a b : Str) : decide ((Sum.inr a : Key) = Sum.inr b) = decide (a = b) := by
  by_cases e : a = b
  · subst e; simp
  · have h : ¬ (Sum.inr a : Key) = Sum.inr b := fun q => e (Sum.inr.inj q)
    rw [decide_eq_false h, decide_eq_false e]
theorem key_lr (a : Int) (b : Str) : decide ((Sum.inl a : Key) = Sum.inr b) = false := decide_eq_false (fun q => nomatch q)
theorem key_rl (a : Str) (b : Int) : decide ((Sum.inr a : Key) = Sum.inl b) = false := decide_eq_false (fun q => nomatch q)
def mixKind (prog : Program) (w : World) : PySem.KeyKind prog w Key where
  is := keyIs
  hash := keyH w
  inj := fun v a b ha hb => by
    rcases keyIs_shape ha with ⟨i, t, rfl, rfl⟩ | ⟨x, t, rfl, rfl⟩
    · rcases keyIs_shape hb with ⟨j, u, rfl, e⟩ | ⟨y, u, rfl, e⟩
      · injection e with e1 _; rw [e1]
      · exact nomatch e
    · rcases keyIs_shape hb with ⟨j, u, rfl, e⟩ | ⟨y, u, rfl, e⟩
      · exact nomatch e
      · injection e with e1 _; rw [e1]
  byValue := fun k v h => by
    rcases keyIs_shape h with ⟨i, t, rfl, rfl⟩ | ⟨x, t, rfl, rfl⟩ <;> rfl
  pyHash := fun hv h => by
    rcases keyIs_shape hv with ⟨i, t, rfl, rfl⟩ | ⟨x, t, rfl, rfl⟩
    · exact wpAny_pyHash_int h
    · exact wpAny_pyHash_str h
  eqBool := fun hu hv h => by
    rcases keyIs_shape hu with ⟨i, t, rfl, rfl⟩ | ⟨x, t, rfl, rfl⟩
    · rcases keyIs_shape hv with ⟨j, u, rfl, rfl⟩ | ⟨y, u, rfl, rfl⟩
      · rw [key_ll] at h; exact wpAny_eqBool_int h
      · rw [key_lr] at h; exact SeqAt.EqAt.int_str i t y u _ _ _ _ h
    · rcases keyIs_shape hv with ⟨j, u, rfl, rfl⟩ | ⟨y, u, rfl, rfl⟩
      · rw [key_rl] at h; exact SeqAt.EqAt.str_int x t j u _ _ _ _ h
      · rw [key_rr] at h; exact wpAny_eqBool_str h
  «strs» := fun k x t v h => by
    rcases keyIs_shape h with ⟨i, u, rfl, e⟩ | ⟨y, u, rfl, e⟩
    · exact nomatch e
    · injection e with e1 _
      subst e1
      cases v <;> rfl
theorem mixKind_int (prog : Program) (w : World) (i : Int) (t : Tok) : (mixKind prog w).is (.inl i) (.int i t) = true := keyIs_int i t
theorem mixKind_str (prog : Program) (w : World) (x : Str) (t : Tok) : (mixKind prog w).is (.inr x) (.str x t) = true := keyIs_str x t
end L2
namespace L2
open PySem PySem.Spec PyProof.Rows
inductive V where
  | non | bl (b : Bool) | int (i : Int) | str (x : Str) | byt (b : Array UInt8) | flt (b : UInt64) | ref (a : Addr) | ty (n : String)
  deriving DecidableEq
def RelV : V → Value → Prop
  | .non, u => u = Value.none
  | .bl b, u => u = Value.bool b
  | .int i, u => ∃ t, u = Value.int i t
  | .str x, u => ∃ t, u = Value.str x t
  | .byt b, u => ∃ t, u = Value.bytes b t
  | .flt b, u => ∃ t, u = Value.float b t
  | .ref a, u => u = Value.ref a
  | .ty n, u => u = Value.type n
abbrev Vals : List V → List Value → Prop := Paired RelV
theorem Vals.length {xs : List V} {us : List Value} (r : Vals xs us) : xs.length = us.length := Paired.length r
theorem Vals.get : ∀ {xs : List V} {us : List Value} {i : Nat} {x : V}, Vals xs us → xs[i]? = some x → ∃ u, us[i]? = some u ∧ RelV x u
  | _, _, _, _, .nil, e => by simp at e
  | _, _, 0, _, .cons r _, e => by simp at e; subst e; exact ⟨_, rfl, r⟩
  | _, _, i + 1, x, .cons _ t, e => by
    obtain ⟨u, h1, h2⟩ := Vals.get (i := i) (x := x) t (by simpa using e)
    exact ⟨u, by simpa using h1, h2⟩
theorem Vals.set {x : V} {u : Value} (r : RelV x u) : ∀ {xs : List V} {us : List Value} (i : Nat), Vals xs us → Vals (xs.set i x) (us.set i u)
  | _, _, _, .nil => .nil
  | _, _, 0, .cons _ t => .cons r t
  | _, _, i + 1, .cons q t => .cons q (Vals.set r i t)
theorem Vals.append : ∀ {xs ys : List V} {us ws : List Value}, Vals xs us → Vals ys ws → Vals (xs ++ ys) (us ++ ws)
  | _, _, _, _, .nil, s => s
  | _, _, _, _, .cons r t, s => .cons r (Vals.append t s)
theorem Vals.take : ∀ {xs : List V} {us : List Value} (n : Nat), Vals xs us → Vals (xs.take n) (us.take n)
  | _, _, 0, _ => .nil
  | _, _, _ + 1, .nil => .nil
  | _, _, n + 1, .cons r t => .cons r (Vals.take n t)
theorem Vals.drop : ∀ {xs : List V} {us : List Value} (n : Nat), Vals xs us → Vals (xs.drop n) (us.drop n)
  | _, _, 0, r => r
  | _, _, _ + 1, .nil => .nil
  | _, _, n + 1, .cons _ t => Vals.drop n t
theorem Vals.none_of : ∀ {xs : List V} {us : List Value} {i : Nat}, Vals xs us → xs[i]? = none → us[i]? = none := fun {xs us i} r e => by
  have h1 := r.length
  have h2 : xs.length ≤ i := List.getElem?_eq_none_iff.mp e
  exact List.getElem?_eq_none_iff.mpr (by omega)
def RelO : Option V → Option Value → Prop
  | some v, some u => RelV v u
  | none, none => True
  | _, _ => False
def KV {κ : Type} : List (κ × V) → List (κ × Value) → Prop := Paired fun (p : κ × V) (q : κ × Value) => p.1 = q.1 ∧ RelV p.2 q.2
def kV : Key → V
  | .inl i => .int i
  | .inr x => .str x
inductive HO where
  | lst (xs : List V)
  | tup (xs : List V)
  | dK (kvs : List (Key × V)) | dT (kvs : List (List Key × V))
  | set (S : Int → Bool) (n : Nat)
  | ins (C dx : Addr) (fs : List (Str × V))
  | own (x : Addr)
  | xd (fs : List (Str × V))
  | met (f x : Addr)
  | rng (lo hi : Int)
  | frz (o : Obj) (u : HO)
  | tbl (ps : Array Value)
  | ext (φ : Heap → Prop)
abbrev Hp := Addr → Option HO
def upd (H : Hp) (a : Addr) (o : HO) : Hp := fun b => if b = a then some o else H b
theorem upd_same {H : Hp} {a : Addr} {o : HO} : upd H a o a = some o := by unfold upd; rw [if_pos rfl]
theorem upd_ne {H : Hp} {a b : Addr} {o : HO} (h : b ≠ a) : upd H a o b = H b := by unfold upd; rw [if_neg h]
theorem ne_of {H : Hp} {a b : Addr} {o u : HO} (h : H a = some o) (h' : H b = some u) (d : o ≠ u) : a ≠ b := by
  intro e; subst e; rw [h] at h'; exact d (Option.some.inj h')
theorem ne_of_none {H : Hp} {a b : Addr} {o : HO} (h : H a = some o) (h' : H b = none) : a ≠ b := by
  intro e; subst e; rw [h] at h'; cases h'
section
variable (P : Program) (w : World)
def ObjOk (H : Hp) (h : Heap) (a : Addr) : HO → Prop
  | .lst xs => xs.length ≤ sizeLine ∧ ∃ (its : List Value) (n : Nat), Vals xs its ∧ h.get? a = some { cls := .type "list", data := .seq its.toArray n }
  | .tup xs => xs.length ≤ sizeLine ∧ ∃ its : List Value, Vals xs its ∧ IsTup h a its.toArray
  | .dK kvs => kvs.length ≤ sizeLine ∧ (a == sysModules) = false ∧ ∃ vs, KV kvs vs ∧ h.DictOf (mixKind P w) a vs
  | .dT kvs => kvs.length ≤ sizeLine ∧ (a == sysModules) = false ∧ ∃ xs : List (List Key × Addr × Value),
      Paired (fun (p : List Key × V) (q : List Key × Addr × Value) => p.1 = q.1 ∧ H q.2.1 = some (.tup (p.1.map kV)) ∧ RelV p.2 q.2.2) kvs xs ∧
      ∃ o es ep, h.get? a = some o ∧ o.ExactDict ∧ o.data = .dict es ep ∧ es.toList = xs.map (entryOfKey (tupleKind (mixKind P w))) ∧ (xs.map (·.1)).Nodup
  | .set S n => h.SetOf (intKind P w) a S n
  | .ins C dx fs => H dx = some (.own a) ∧ fs.length ≤ 1000 ∧ dx ≠ a ∧ h.get? a = some (PySem.W.instObj C dx) ∧
      ∃ mA, h.Ns1 dx mA ∧ (∀ f, RelO (fs.lookup f) (mA f)) ∧ PySem.Within mA (fs.map (·.1))
  | .own _ => ∃ o, h.get? a = some o
  | .xd fs => ∃ mA, h.Ns1 a mA ∧ ∀ f, RelO (fs.lookup f) (mA f)
  | .rng lo hi => ∃ t u v, h.get? a = some { cls := .type "range", data := .fields #[.int lo t, .int hi u, .int 1 v] }
  | .frz o u => h.get? a = some o ∧ ObjOk H h a u
  | .tbl ps => h.get? a = some { cls := .none, data := .fields ps }
  | .met f x => h.get? a = some (PySem.W.methodObj (.ref f) (.ref x))
  | .ext φ => φ h ∧ (∃ o, h.get? a = some o) ∧ ∀ h1 h2 : Heap, φ h1 → (∀ o, h1.get? a = some o → h2.get? a = some o) → φ h2
def HOk (H : Hp) (h : Heap) : Prop := ∀ a o, H a = some o → ObjOk P w H h a o
end
section
variable {P : Program} {w : World} {H H' : Hp} {h h' : Heap} {a : Addr} {o : HO}
theorem ObjOk.lt (x : ObjOk P w H h a o) : a < h.objs.size := by
  cases o with
  | lst xs => obtain ⟨_, _, _, _, e⟩ := x; exact Heap.lt_size e
  | tup xs => obtain ⟨_, _, _, p⟩ := x; exact p.lt
  | dK kvs => obtain ⟨_, _, _, _, o, _, _, e, _⟩ := x; exact Heap.lt_size e
  | dT kvs => obtain ⟨_, _, _, _, o, _, _, e, _⟩ := x; exact Heap.lt_size e
  | set S n => obtain ⟨o, _, _, _, e, _⟩ := x; exact Heap.lt_size e
  | ins C dx fs => obtain ⟨_, _, _, e, _⟩ := x; exact Heap.lt_size e
  | own y => obtain ⟨_, e⟩ := x; exact Heap.lt_size e
  | xd fs => obtain ⟨_, ⟨_, _, _, e, _⟩, _⟩ := x; exact Heap.lt_size e
  | rng lo hi => obtain ⟨_, _, _, e⟩ := x; exact Heap.lt_size e
  | frz ob u => obtain ⟨e, _⟩ := x; exact Heap.lt_size e
  | tbl ps => exact Heap.lt_size (show h.get? a = some _ from x)
  | met f y => exact Heap.lt_size (show h.get? a = some _ from x)
  | ext φ => obtain ⟨_, ⟨_, e⟩, _⟩ := x; exact Heap.lt_size e
theorem Paired.mapP {α β : Type} {F G : α → β → Prop} : ∀ {l₁ : List α} {l₂ : List β}, Paired F l₁ l₂ → (∀ a b, F a b → G a b) → Paired G l₁ l₂
  | _, _, .nil, _ => .nil
  | _, _, .cons r t, f => .cons (f _ _ r) (Paired.mapP t f)
theorem ObjOk.stay (x : ObjOk P w H h a o) (k : ∀ b u, (b = a ∨ H b = some (.own a)) → h.get? b = some u → h'.get? b = some u)
    (ho : ∀ b, H b = some (.own a) → H' b = some (.own a)) (ht : ∀ b xs, H b = some (.tup xs) → H' b = some (.tup xs)) : ObjOk P w H' h' a o := by
  induction o with
  | lst xs => obtain ⟨z, its, n, r, e⟩ := x; exact ⟨z, its, n, r, k _ _ (.inl rfl) e⟩
  | tup xs => obtain ⟨z, its, r, ob, e, c⟩ := x; exact ⟨z, its, r, ob, k _ _ (.inl rfl) e, c⟩
  | dK kvs => obtain ⟨z, y, vs, r, ob, es, ep, e, c⟩ := x; exact ⟨z, y, vs, r, ob, es, ep, k _ _ (.inl rfl) e, c⟩
  | dT kvs =>
    obtain ⟨z, y, xs, r, ob, es, ep, e, c⟩ := x
    exact ⟨z, y, xs, Paired.mapP r fun p q z => ⟨z.1, ht _ _ z.2.1, z.2.2⟩, ob, es, ep, k _ _ (.inl rfl) e, c⟩
  | set S n => obtain ⟨ob, es, ep, t, e, c⟩ := x; exact ⟨ob, es, ep, t, k _ _ (.inl rfl) e, c⟩
  | ins C dx fs =>
    obtain ⟨d, z, ne, e, mA, ⟨od, es, ep, e2, c⟩, r⟩ := x
    exact ⟨ho _ d, z, ne, k _ _ (.inl rfl) e, mA, ⟨od, es, ep, k _ _ (.inr d) e2, c⟩, r⟩
  | own y => obtain ⟨ob, e⟩ := x; exact ⟨ob, k _ _ (.inl rfl) e⟩
  | xd fs => obtain ⟨mA, ⟨od, es, ep, e, c⟩, r⟩ := x; exact ⟨mA, ⟨od, es, ep, k _ _ (.inl rfl) e, c⟩, r⟩
  | rng lo hi => obtain ⟨t, u, v, e⟩ := x; exact ⟨t, u, v, k _ _ (.inl rfl) e⟩
  | frz ob u ih => obtain ⟨e, q⟩ := x; exact ⟨k _ _ (.inl rfl) e, ih q⟩
  | tbl ps =>
    have e : h.get? a = some { cls := .none, data := .fields ps } := x
    show h'.get? a = some { cls := .none, data := .fields ps }
    exact k a _ (.inl rfl) e
  | met f y =>
    have e : h.get? a = some (PySem.W.methodObj (.ref f) (.ref y)) := x
    show h'.get? a = some (PySem.W.methodObj (.ref f) (.ref y))
    exact k a _ (.inl rfl) e
  | ext φ => obtain ⟨p, ⟨o, e⟩, st⟩ := x; exact ⟨st _ _ p fun o q => k _ _ (.inl rfl) q, ⟨o, k _ _ (.inl rfl) e⟩, st⟩
theorem HOk.lt (x : HOk P w H h) (e : H a = some o) : a < h.objs.size := (x a o e).lt
theorem HOk.fresh (x : HOk P w H h) (e : h.objs.size ≤ a) : H a = none := by
  cases q : H a with
  | none => rfl
  | some u => exact absurd (Nat.lt_of_lt_of_le (x.lt q) e) (Nat.lt_irrefl _)
theorem HOk.kept (x : HOk P w H h) (k : ∀ b u, h.get? b = some u → h'.get? b = some u) : HOk P w H h' := fun a o e =>
  (x a o e).stay (fun b u _ q => k b u q) (fun _ q => q) fun _ _ q => q
theorem HOk.laid (x : HOk P w H h) (k : ∀ b u, h.get? b = some u → h'.get? b = some u) (hp : h.objs.size ≤ a) (new : ObjOk P w (upd H a o) h' a o) : HOk P w (upd H a o) h' := fun b u e => by
  have hn := x.fresh hp
  by_cases hb : b = a
  · subst hb; rw [upd_same] at e; cases e; exact new
  · rw [upd_ne hb] at e
    exact (x b u e).stay (fun c v _ q => k c v q) (fun c q => by rw [upd_ne (ne_of_none q hn)]; exact q) fun c xs q => by rw [upd_ne (ne_of_none q hn)]; exact q
end
def Rd (H : Hp) (a : Addr) (u : HO) : Prop := H a = some u ∨ ∃ o, H a = some (.frz o u)
theorem Rd.of {H : Hp} {a : Addr} {u : HO} (h : H a = some u) : Rd H a u := .inl h
theorem Rd.ok {P : Program} {w : World} {H : Hp} {h : Heap} {a : Addr} {u : HO} (r : Rd H a u) (x : HOk P w H h) : ObjOk P w H h a u := by
  rcases r with r | ⟨o, r⟩
  · exact x a u r
  · obtain ⟨_, q⟩ := x a _ r
    exact q
def Mut : Option HO → Prop
  | some (.lst _) => True
  | some (.dK _) => True
  | some (.dT _) => True
  | some (.set _ _) => True
  | some (.ins _ _ _) => True
  | some (.ext _) => True
  | _ => False
section
variable {P : Program} {w : World} {H : Hp} {h h' : Heap} {x e : Addr} {o' : HO}
theorem HOk.write (ok : HOk P w H h) (mu : Mut (H x)) (he : e = x ∨ H e = some (.own x)) (k : ∀ b u, b ≠ e → h.get? b = some u → h'.get? b = some u) (heo : ∃ u, h'.get? e = some u)
    (new : ObjOk P w (upd H x o') h' x o') : HOk P w (upd H x o') h' := fun b u q => by
  have nown : ∀ c y, H c = some (.own y) → c ≠ x := fun c y r z => by subst z; rw [r] at mu; exact mu
  have ntup : ∀ c xs, H c = some (.tup xs) → c ≠ x := fun c xs r z => by subst z; rw [r] at mu; exact mu
  by_cases hb : b = x
  · subst hb; rw [upd_same] at q; cases q; exact new
  · rw [upd_ne hb] at q
    by_cases hbe : b = e
    · have q' : H b = some (.own x) := by
        rcases he with z | z
        · exact absurd (hbe.trans z) hb
        · rw [hbe]; exact z
      rw [q] at q'; cases q'
      obtain ⟨v, hv⟩ := heo
      exact ⟨v, by rw [hbe]; exact hv⟩
    · refine (ok b u q).stay (fun c v hc r => k c v ?_ r) (fun c r => by rw [upd_ne (nown c b r)]; exact r) fun c xs r => by rw [upd_ne (ntup c xs r)]; exact r
      rcases hc with rfl | hc
      · exact hbe
      · rintro rfl
        rcases he with z | z
        · exact nown c b hc z
        · rw [hc] at z; cases z; exact hb rfl
end
structure Un (fs ex : List Addr) (H H' : Hp) (h h' : Heap) : Prop where
  keep : ∀ b o, h.get? b = some o → H b = none → b ∉ fs → b ∉ ex → h'.get? b = some o
  slot : ∀ b o, h.get? b = some o → H b = none → b ∈ fs → b ∉ ex → ∃ sl, h'.get? b = some { o with slots := sl }
  free : ∀ b o, h.get? b = some o → H b = none → b ∉ ex → H' b = none
  there : ∀ b o, h.get? b = some o → b ∉ ex → ∃ o', h'.get? b = some o'
  tups : ∀ b xs, H b = some (.tup xs) → H' b = some (.tup xs)
  frzs : ∀ b o u, H b = some (.frz o u) → H' b = some (.frz o u)
  tbls : ∀ b ps, H b = some (.tbl ps) → ∃ more, H' b = some (.tbl (ps ++ more))
section
variable {fs fs' ex ex' : List Addr} {H H1 H2 : Hp} {h h1 h2 h' : Heap} {a x e : Addr} {o : HO}
theorem Un.any (u : Un fs ex H H1 h h1) {b : Addr} {ob : Obj} (q : h.get? b = some ob) (n : H b = none) (hx : b ∉ ex) : ∃ sl, h1.get? b = some { ob with slots := sl } := by
  by_cases hb : b ∈ fs
  · exact u.slot b ob q n hb hx
  · exact ⟨ob.slots, u.keep b ob q n hb hx⟩
theorem Un.trans (a : Un fs ex H H1 h h1) (b : Un fs ex H1 H2 h1 h2) : Un fs ex H H2 h h2 where
  keep := fun c ob q n hc hx => b.keep c ob (a.keep c ob q n hc hx) (a.free c ob q n hx) hc hx
  slot := fun c ob q n hc hx => by
    obtain ⟨sl, e1⟩ := a.slot c ob q n hc hx
    obtain ⟨sl', e2⟩ := b.slot c _ e1 (a.free c ob q n hx) hc hx
    exact ⟨sl', e2⟩
  free := fun c ob q n hx => by
    obtain ⟨o', e1⟩ := a.there c ob q hx
    exact b.free c o' e1 (a.free c ob q n hx) hx
  there := fun c ob q hx => by
    obtain ⟨o', e1⟩ := a.there c ob q hx
    exact b.there c o' e1 hx
  tups := fun c xs q => b.tups c xs (a.tups c xs q)
  frzs := fun c ob xs q => b.frzs c ob xs (a.frzs c ob xs q)
  tbls := fun c ps q => by
    obtain ⟨m1, e1⟩ := a.tbls c ps q
    obtain ⟨m2, e2⟩ := b.tbls c _ e1
    exact ⟨m1 ++ m2, by rw [e2, Array.append_assoc]⟩
theorem Un.kept (k : ∀ b u, h.get? b = some u → h'.get? b = some u) : Un fs ex H H h h' :=
  ⟨fun b ob q _ _ _ => k b ob q, fun b ob q _ _ _ => ⟨ob.slots, k b ob q⟩, fun _ _ _ n _ => n, fun b ob q _ => ⟨ob, k b ob q⟩, fun _ _ q => q, fun _ _ _ q => q, fun _ ps q => ⟨#[], by rw [q]; simp⟩⟩
theorem Un.refl : Un fs ex H H h h := Un.kept fun _ _ q => q
theorem Un.laid (k : ∀ b u, h.get? b = some u → h'.get? b = some u) (hp : h.objs.size ≤ a) (hn : H a = none) : Un fs ex H (upd H a o) h h' where
  keep := fun b u q _ _ _ => k b u q
  slot := fun b u q _ _ _ => ⟨u.slots, k b u q⟩
  free := fun b u q n _ => by rw [upd_ne (Nat.ne_of_lt (Nat.lt_of_lt_of_le (Heap.lt_size q) hp))]; exact n
  there := fun b u q _ => ⟨u, k b u q⟩
  tups := fun b xs q => by rw [upd_ne (ne_of_none q hn)]; exact q
  frzs := fun b u xs q => by rw [upd_ne (ne_of_none q hn)]; exact q
  tbls := fun b ps q => ⟨#[], by rw [upd_ne (ne_of_none q hn), q]; simp⟩
theorem Un.write (mu : Mut (H x)) (he : e = x ∨ H e = some (.own x)) (k : ∀ b u, b ≠ e → h.get? b = some u → h'.get? b = some u) (heo : ∃ u, h'.get? e = some u) : Un fs ex H (upd H x o) h h' := by
  have hx : ∀ b, H b = none → b ≠ x := fun b n z => by subst z; rw [n] at mu; exact mu
  have hb : ∀ b, H b = none → b ≠ e := fun b n z => by
    subst z
    rcases he with r | r
    · exact hx b n r
    · rw [n] at r; cases r
  have hm : ∀ b u, H b = some u → ¬ Mut (some u) → b ≠ x := fun b u q nm z => by subst z; rw [q] at mu; exact nm mu
  refine ⟨fun b u q n _ _ => k b u (hb b n) q, fun b u q n _ _ => ⟨u.slots, k b u (hb b n) q⟩, fun b u q n _ => by rw [upd_ne (hx b n)]; exact n, fun b u q _ => ?_,
    fun b xs q => by rw [upd_ne (hm b _ q fun z => z)]; exact q, fun b u xs q => by rw [upd_ne (hm b _ q fun z => z)]; exact q, fun b ps q => ⟨#[], by rw [upd_ne (hm b _ q fun z => z), q]; simp⟩⟩
  by_cases hbe : b = e
  · subst hbe; exact heo
  · exact ⟨u, k b u hbe q⟩
theorem Un.mono (u : Un fs ex H H1 h h1) (hs : ∀ b ∈ fs, b ∈ fs') (hx : ∀ b ∈ ex, b ∈ ex') : Un fs' ex' H H1 h h1 :=
  ⟨fun b ob q n hb he => u.keep b ob q n (fun z => hb (hs b z)) fun z => he (hx b z), fun _ _ q n _ he => u.any q n fun z => he (hx _ z), fun b ob q n he => u.free b ob q n fun z => he (hx b z), fun b ob q he => u.there b ob q fun z => he (hx b z), u.tups, u.frzs, u.tbls⟩
end
def trk (h : Heap) (H : Hp) : List Addr := (List.range h.objs.size).filter fun a => (H a).isSome
def hidT (h : Heap) (H : Hp) : Heap := PySem.W.hideAll h (trk h H)
theorem hidT_size (h : Heap) (H : Hp) : (hidT h H).objs.size = h.objs.size := PySem.W.hideAll_size _ _
theorem hidT_get {h : Heap} {H : Hp} {b : Addr} {o : Obj} (e : h.get? b = some o) (n : H b = none) : (hidT h H).get? b = some o :=
  PySem.W.hideAll_get _ e fun hm => by
    have q : (H b).isSome = true := (List.mem_filter.mp hm).2
    rw [n] at q; simp at q
theorem of_hidT {h : Heap} {H : Hp} {b : Addr} {o : Obj} (e : (hidT h H).get? b = some o) : h.get? b = some o ∧ H b = none := by
  have e' : h.get? b = some o := PySem.W.of_hideAll (trk h H) e
  refine ⟨e', ?_⟩
  cases q : H b with
  | none => rfl
  | some x =>
    have hm : b ∈ trk h H := List.mem_filter.mpr ⟨List.mem_range.mpr (Heap.lt_size e'), by simp [q]⟩
    have z : (hidT h H).get? b = none := PySem.W.hideAll_none (trk h H) hm
    rw [z] at e; cases e
def allNews (g h : Heap) (L : Addr) : List (Addr × Obj) := (List.range h.objs.size).filterMap fun a => if a = L ∨ (g.get? a).isSome = true then none else (h.get? a).map fun o => (a, o)
def rest (g h : Heap) (L d : Addr) : List (Addr × Obj) := (allNews g h L).filter fun p => decide (p.1 ≠ d)
end L2
namespace L2
open PySem PySem.Spec PyProof.Rows
structure Mod (K : PySem.W.Frag) (mg : Str → Option Value) (base : Heap) : Prop where
  kin : K.In base
  glob : base.Ns mainGlobals mg
  blt : ∃ mb, base.Ns builtinsNs mb ∧ ∀ x : Str, x ≠ "__name__" → mb x = bootBuiltins x
  nolimit : base.NoLimit
  nodig : base.NoDigits
structure Cx where
  prog : Program
  w : World
  K : PySem.W.Frag
  mg : Str → Option Value
  base : Heap
  A : Around
  N : List Str
  s₀ : Shared
  H₀ : Hp
  env : Env
  outer : List Env
  stack : List Env
  ex : List Addr
  fn : Str → Bool
  calm : Bool
  pn : List (Addr × Obj)
  xe : Value → Shared → Prop
def frs (l : List Env) : List Addr := l.filterMap (·.frame)
abbrev Cx.fs (X : Cx) : List Addr := frs X.outer
def Vis (sc : Scope) (x : Str) : Prop := sc.names.lookup x = some .local ∨ sc.names.lookup x = some .cell ∨ sc.names.lookup x = some .free
def Loc (sc : Scope) (x : Str) : Prop := sc.names.lookup x = some .local ∨ sc.names.lookup x = some .cell
def Look (env : Env) (h : Heap) (m : Str → Option Value) (x : Str) (u : Value) : Prop :=
  (env.kindOf x = some .local ∧ m x = some u) ∨ ((env.kindOf x = some .cell ∨ env.kindOf x = some .free) ∧ ∃ c, env.cells.lookup x = some c ∧ h.IsCell c (some u))
structure Cx.Ok (X : Cx) : Prop where
  mod : Mod X.K X.mg X.base
  kind : X.env.scope.kind = .function
  glob : X.env.globals = mainGlobals
  blt : X.env.builtins = builtinsNs
  above : X.s₀.heap.objs.size ≤ X.env.locals
  inj : ∀ x y c, X.env.cells.lookup x = some c → X.env.cells.lookup y = some c → x = y
  has : ∀ x, (X.env.kindOf x = some .cell ∨ X.env.kindOf x = some .free) → ∃ c, X.env.cells.lookup x = some c
  cab : ∀ x c, X.fn x = true → X.env.cells.lookup x = some c → X.s₀.heap.objs.size ≤ c
  hd : X.calm = true → X.A.handled = none
  frames : X.A.frames = some X.stack
  stk : X.stack = X.outer ∨ (X.stack = X.env :: X.outer ∧ X.env.frame = some X.env.locals)
  exf : ∀ b ∈ X.ex, b ≠ X.env.locals ∧ ∀ x c, X.env.cells.lookup x = some c → c ≠ b
  bs : ∀ b o, X.base.get? b = some o → X.s₀.heap.get? b = some o ∧ X.H₀ b = none
  bsz : X.base.objs.size ≤ X.s₀.heap.objs.size
  noex : ∀ b o, X.base.get? b = some o → b ∉ X.ex
  exfs : ∀ b ∈ X.ex, b ∉ X.fs
  funs : X.s₀.heap.FunFrames X.base X.outer
  frf : ∀ b ∈ X.fs, X.H₀ b = none
structure Inv (X : Cx) (pins : List (Addr × Obj)) (σ : List (Option V)) (H : Hp) (s : Shared) : Prop where
  ok : X.Ok
  os : s.os = X.s₀.os
  bare : AllBare s.gens
  base : Un X.fs X.ex X.H₀ H X.s₀.heap s.heap
  loc : ∃ m, s.heap.Ns X.env.locals m ∧ ∀ (i : Nat) (x : Str) (v : V), X.N[i]? = some x → σ[i]? = some (some v) → Vis X.env.scope x → ∃ u, RelV v u ∧ Look X.env s.heap m x u
  cell : ∀ x c, X.env.cells.lookup x = some c → ∃ v, s.heap.IsCell c v
  free : H X.env.locals = none
  freeC : ∀ x c, X.env.cells.lookup x = some c → H c = none
  pin : ∀ p ∈ X.pn ++ pins, s.heap.get? p.1 = some p.2 ∧ H p.1 = none ∧ p.1 ≠ X.env.locals ∧ p.1 ∉ X.fs ∧ ∀ v, p.2.data ≠ .cell v
  hok : HOk X.prog X.w H s.heap
  len : σ.length = X.N.length
section
variable {X : Cx} {pins : List (Addr × Obj)} {σ : List (Option V)} {H H' : Hp} {s : Shared} {h' : Heap}
theorem Cx.Ok.nofr (ok : X.Ok) {b : Addr} {o : Obj} (e : X.base.get? b = some o) : b ∉ X.fs := fun hb => by
  have := (ok.funs.mem hb).1
  rw [e] at this; cases this
theorem Inv.bs (I : Inv X pins σ H s) : ∀ b o, X.base.get? b = some o → s.heap.get? b = some o ∧ H b = none := fun b o e =>
  ⟨I.base.keep b o (I.ok.bs b o e).1 (I.ok.bs b o e).2 (I.ok.nofr e) (I.ok.noex b o e), I.base.free b o (I.ok.bs b o e).1 (I.ok.bs b o e).2 (I.ok.noex b o e)⟩
theorem Inv.bk (I : Inv X pins σ H s) : ∀ b o, X.base.get? b = some o → s.heap.get? b = some o := fun b o e => (I.bs b o e).1
theorem Inv.mod (I : Inv X pins σ H s) : Mod X.K X.mg X.base := I.ok.mod
theorem Inv.kIn (I : Inv X pins σ H s) : X.K.In s.heap := I.ok.mod.kin.keeps I.bk
theorem Inv.nolimit (I : Inv X pins σ H s) : s.heap.NoLimit := I.ok.mod.nolimit.keeps I.bk
theorem Inv.fr (I : Inv X pins σ H s) : ∃ m, Fr X.base X.env.locals s.heap m :=
  let ⟨m, hn, _⟩ := I.loc
  ⟨m, hn, I.bk, Nat.le_trans I.ok.bsz I.ok.above⟩
theorem Inv.lt (I : Inv X pins σ H s) : X.env.locals < s.heap.objs.size := let ⟨_, hn, _⟩ := I.loc; hn.lt
theorem Inv.sz (I : Inv X pins σ H s) : X.s₀.heap.objs.size ≤ s.heap.objs.size := Nat.le_trans I.ok.above (Nat.le_of_lt I.lt)
theorem Inv.nofs (I : Inv X pins σ H s) {a : Addr} (h : s.heap.objs.size ≤ a) : a ∉ X.fs := fun hb => by
  obtain ⟨_, o, ho, _⟩ := I.ok.funs.mem hb
  exact absurd (Nat.lt_of_lt_of_le (Heap.lt_size ho) (Nat.le_trans I.sz h)) (Nat.lt_irrefl _)
theorem Inv.cne (I : Inv X pins σ H s) : ∀ x c, X.env.cells.lookup x = some c → c ≠ X.env.locals := fun x c e z => by
  obtain ⟨v, o, ho, hd⟩ := I.cell x c e
  obtain ⟨m, ⟨o', es, ep, ho', hd', _⟩, _⟩ := I.loc
  rw [z, ho'] at ho; cases ho; rw [hd'] at hd; cases hd
theorem Inv.funs (I : Inv X pins σ H s) : s.heap.FunFrames X.base X.outer := by
  have all : ∀ (l : List Env), (∀ b ∈ frs l, b ∈ X.fs) → X.s₀.heap.FunFrames X.base l → s.heap.FunFrames X.base l := by
    intro l
    induction l with
    | nil => intro _ _; trivial
    | cons env r ih =>
      intro hs hl
      obtain ⟨hk, ⟨L, o, hf, hn, ho, hd⟩, hr⟩ := hl
      have hL : L ∈ X.fs := hs L (by unfold frs; rw [List.filterMap_cons, hf]; exact List.mem_cons_self)
      obtain ⟨sl, e⟩ := I.base.slot L o ho (I.ok.frf L hL) hL fun z => I.ok.exfs L z hL
      exact ⟨hk, ⟨L, _, hf, hn, e, hd⟩, ih (fun b hb => hs b (by unfold frs; rw [List.filterMap_cons, hf]; exact List.mem_cons_of_mem _ hb)) hr⟩
  exact all X.outer (fun _ hb => hb) I.ok.funs
theorem Inv.stack (I : Inv X pins σ H s) : s.heap.FunFrames X.base X.stack := by
  rcases I.ok.stk with e | ⟨e, hf⟩
  · rw [e]; exact I.funs
  · rw [e]
    obtain ⟨m, hn, _⟩ := I.loc
    refine .cons (by rw [I.ok.kind]; decide) hf hn ?_ I.funs
    exact Heap.get?_none_of_le (Nat.le_trans I.ok.bsz I.ok.above)
theorem Inv.stkSub (I : Inv X pins σ H s) : ∀ b ∈ frs X.stack, b ∈ X.env.locals :: X.fs := fun b hb => by
  rcases I.ok.stk with e | ⟨e, hf⟩
  · rw [e] at hb; exact List.mem_cons_of_mem _ hb
  · rw [e] at hb
    unfold frs at hb
    rw [List.filterMap_cons, hf] at hb
    exact hb
theorem Inv.stkFree (I : Inv X pins σ H s) : ∀ b ∈ frs X.stack, H b = none := fun b hb => by
  rcases List.mem_cons.mp (I.stkSub b hb) with e | hb
  · rw [e]; exact I.free
  · obtain ⟨_, o, ho, _⟩ := I.ok.funs.mem hb
    exact I.base.free b o ho (I.ok.frf b hb) fun z => I.ok.exfs b z hb
theorem Inv.step {g' : Array GenState} {t' : Nat} {d' : Drawn} {ch : List Addr} (I : Inv X pins σ H s)
    (hch : ∀ b ∈ ch, (b ∈ X.ex ∨ X.s₀.heap.objs.size ≤ b) ∧ b ≠ X.env.locals ∧ (∀ x c, X.env.cells.lookup x = some c → c ≠ b) ∧ ∀ p ∈ X.pn ++ pins, p.1 ≠ b)
    (keep : ∀ b o, b ≠ X.env.locals → b ∉ X.fs → b ∉ ch → s.heap.get? b = some o → H b = none → h'.get? b = some o)
    (slot : ∀ b o, b ≠ X.env.locals → b ∈ X.fs → b ∉ ch → s.heap.get? b = some o → H b = none → ∃ sl, h'.get? b = some { o with slots := sl }) (free : ∀ b o, b ∉ ch → s.heap.get? b = some o → H b = none → H' b = none)
    (there : ∀ b o, b ∉ ch → s.heap.get? b = some o → ∃ o', h'.get? b = some o')
    (tups : ∀ b xs, H b = some (.tup xs) → H' b = some (.tup xs)) (frzs : ∀ b o u, H b = some (.frz o u) → H' b = some (.frz o u)) (tbls : ∀ b ps, H b = some (.tbl ps) → ∃ more, H' b = some (.tbl (ps ++ more)))
    (ns : ∀ m, s.heap.Ns X.env.locals m → h'.Ns X.env.locals m) (hok : HOk X.prog X.w H' h') (hg : AllBare g') :
    Inv X pins σ H' { s with heap := h', gens := g', drawn := d', toks := t' } := by
  have neL : ∀ b o, X.s₀.heap.get? b = some o → b ≠ X.env.locals := fun b o e => Nat.ne_of_lt (Nat.lt_of_lt_of_le (Heap.lt_size e) I.ok.above)
  have neC : ∀ b o, X.s₀.heap.get? b = some o → b ∉ X.ex → b ∉ ch := fun b o e hx hb => by
    rcases (hch b hb).1 with z | z
    · exact hx z
    · exact absurd (Nat.lt_of_lt_of_le (Heap.lt_size e) z) (Nat.lt_irrefl _)
  have cellK : ∀ x c, X.env.cells.lookup x = some c → ∀ v, s.heap.IsCell c v → h'.IsCell c v := fun x c e v ⟨o, ho, hd⟩ => by
    have nch : c ∉ ch := fun z => (hch c z).2.2.1 x c e rfl
    by_cases hc : c ∈ X.fs
    · obtain ⟨sl, q⟩ := slot c o (I.cne x c e) hc nch ho (I.freeC x c e)
      exact ⟨_, q, hd⟩
    · exact ⟨o, keep c o (I.cne x c e) hc nch ho (I.freeC x c e), hd⟩
  refine ⟨I.ok, I.os, hg, ⟨fun b o e n hb hx => ?_, fun b o e n hb hx => ?_, fun b o e n hx => ?_, fun b o e hx => ?_, fun b xs e => tups b xs (I.base.tups b xs e), fun b o xs e => frzs b o xs (I.base.frzs b o xs e), fun b ps e => ?_⟩, ?_, fun x c e => ?_, ?_, fun x c e => ?_, fun p hp => ?_, hok, I.len⟩
  · exact keep b o (neL b o e) hb (neC b o e hx) (I.base.keep b o e n hb hx) (I.base.free b o e n hx)
  · obtain ⟨sl, e1⟩ := I.base.slot b o e n hb hx
    obtain ⟨sl', e2⟩ := slot b _ (neL b o e) hb (neC b o e hx) e1 (I.base.free b o e n hx)
    exact ⟨sl', e2⟩
  · obtain ⟨o', e1⟩ := I.base.there b o e hx
    exact free b o' (neC b o e hx) e1 (I.base.free b o e n hx)
  · obtain ⟨o', e1⟩ := I.base.there b o e hx
    exact there b o' (neC b o e hx) e1
  · obtain ⟨m1, e1⟩ := I.base.tbls b ps e
    obtain ⟨m2, e2⟩ := tbls b _ e1
    exact ⟨m1 ++ m2, by rw [e2, Array.append_assoc]⟩
  · obtain ⟨m, hn, hl⟩ := I.loc
    refine ⟨m, ns m hn, fun i x v e1 e2 e3 => ?_⟩
    obtain ⟨u, r, l⟩ := hl i x v e1 e2 e3
    refine ⟨u, r, ?_⟩
    rcases l with l | ⟨k, c, e, z⟩
    · exact .inl l
    · exact .inr ⟨k, c, e, cellK x c e _ z⟩
  · obtain ⟨v, z⟩ := I.cell x c e
    exact ⟨v, cellK x c e v z⟩
  · obtain ⟨m, ⟨o, _, _, ho, _⟩, _⟩ := I.loc
    exact free _ o (fun z => (hch _ z).2.1 rfl) ho I.free
  · obtain ⟨v, o, ho, hd⟩ := I.cell x c e
    exact free c o (fun z => (hch c z).2.2.1 x c e rfl) ho (I.freeC x c e)
  · obtain ⟨e, n, ne, nf, d⟩ := I.pin p hp
    have nch : p.1 ∉ ch := fun z => (hch p.1 z).2.2.2 p hp rfl
    exact ⟨keep p.1 p.2 ne nf nch e n, free p.1 p.2 nch e n, ne, nf, d⟩
theorem Inv.un {t' : Nat} (I : Inv X pins σ H s) (u : Un X.fs [] H H' s.heap h') (hok : HOk X.prog X.w H' h') : Inv X pins σ H' { s with heap := h', toks := t' } := by
  obtain ⟨m, ⟨o, es, ep, ho, r⟩, _⟩ := id I.loc
  obtain ⟨sl, hL⟩ := u.any ho I.free (by simp)
  exact I.step (g' := s.gens) (d' := s.drawn) (ch := []) (fun _ z => nomatch z) (fun b o _ hb _ e n => u.keep b o e n hb (by simp)) (fun b o _ hb _ e n => u.slot b o e n hb (by simp)) (fun b o _ e n => u.free b o e n (by simp)) (fun b o _ e => u.there b o e (by simp)) u.tups u.frzs u.tbls (fun m' hm => by
    obtain ⟨o', es', ep', ho', r'⟩ := hm
    rw [ho] at ho'; cases ho'
    exact ⟨_, es', ep', hL, r'⟩) hok I.bare
theorem Inv.call {g' : Array GenState} {t' : Nat} {d' : Drawn} {ch : List Addr} (I : Inv X pins σ H s) (u : Un (frs X.stack) ch H H' s.heap h') (hok : HOk X.prog X.w H' h') (hg : AllBare g')
    (hch : ∀ b ∈ ch, (b ∈ X.ex ∨ X.s₀.heap.objs.size ≤ b) ∧ b ≠ X.env.locals ∧ (∀ x c, X.env.cells.lookup x = some c → c ≠ b) ∧ ∀ p ∈ X.pn ++ pins, p.1 ≠ b) :
    Inv X pins σ H' { s with heap := h', gens := g', drawn := d', toks := t' } := by
  obtain ⟨m, ⟨o, es, ep, ho, r⟩, _⟩ := id I.loc
  obtain ⟨sl, hL⟩ := u.any ho I.free fun z => (hch _ z).2.1 rfl
  exact I.step (ch := ch) hch (fun b o hL hb hc e n => u.keep b o e n (fun z => (List.mem_cons.mp (I.stkSub b z)).elim hL hb) hc) (fun b o _ _ hc e n => u.any e n hc) (fun b o hc e n => u.free b o e n hc) (fun b o hc e => u.there b o e hc) u.tups u.frzs u.tbls (fun m' hm => by
    obtain ⟨o', es', ep', ho', r'⟩ := hm
    rw [ho] at ho'; cases ho'
    exact ⟨_, es', ep', hL, r'⟩) hok hg
theorem Inv.turned {t' : Nat} {it : Addr} (I : Inv X pins σ H s) (k : ∀ b o, b ≠ it → s.heap.get? b = some o → h'.get? b = some o) (hn : H it = none) (hL : it ≠ X.env.locals)
    (h1 : it ∈ X.ex ∨ X.s₀.heap.objs.size ≤ it) (h2 : ∀ x c, X.env.cells.lookup x = some c → c ≠ it) (h3 : ∀ p ∈ X.pn ++ pins, p.1 ≠ it) : Inv X pins σ H { s with heap := h', toks := t' } := by
  have nit : ∀ b u, H b = some u → b ≠ it := fun b u e z => by rw [z, hn] at e; cases e
  refine I.step (g' := s.gens) (d' := s.drawn) (ch := [it]) (fun b hb => ?_) (fun b o _ _ hc e _ => k b o (fun z => hc (by simp [z])) e) (fun b o _ _ hc e _ => ⟨o.slots, k b o (fun z => hc (by simp [z])) e⟩) (fun _ _ _ _ n => n)
    (fun b o hc e => ⟨o, k b o (fun z => hc (by simp [z])) e⟩) (fun _ _ e => e) (fun _ _ _ e => e) (fun b ps e => ⟨#[], by rw [e]; simp⟩) (fun m hm => ?_) (fun b u e => ?_) I.bare
  · have e : b = it := by simpa using hb
    subst e
    exact ⟨h1, hL, h2, h3⟩
  · obtain ⟨o, es, ep, ho, r⟩ := hm
    exact ⟨o, es, ep, k _ o (Ne.symm hL) ho, r⟩
  · refine (I.hok b u e).stay (fun c v hc q => k c v ?_ q) (fun _ q => q) fun _ _ q => q
    rcases hc with z | z
    · rw [z]; exact nit b u e
    · exact nit c _ z
theorem Inv.tok (I : Inv X pins σ H s) (t : Nat) : Inv X pins σ H { s with toks := t } := I.un (h' := s.heap) (t' := t) Un.refl I.hok
theorem Inv.kept {t' : Nat} (I : Inv X pins σ H s) (k : ∀ b u, s.heap.get? b = some u → h'.get? b = some u) : Inv X pins σ H { s with heap := h', toks := t' } := I.un (Un.kept k) (I.hok.kept k)
theorem Inv.laid {a : Addr} {o : HO} {t' : Nat} (I : Inv X pins σ H s) (k : ∀ b u, s.heap.get? b = some u → h'.get? b = some u) (hp : s.heap.objs.size ≤ a) (new : ObjOk X.prog X.w (upd H a o) h' a o) :
    Inv X pins σ (upd H a o) { s with heap := h', toks := t' } := I.un (Un.laid k hp (I.hok.fresh hp)) (I.hok.laid k hp new)
theorem Inv.write {x e : Addr} {o : HO} {t' : Nat} (I : Inv X pins σ H s) (mu : Mut (H x)) (he : e = x ∨ H e = some (.own x)) (k : ∀ b u, b ≠ e → s.heap.get? b = some u → h'.get? b = some u) (heo : ∃ u, h'.get? e = some u)
    (new : ObjOk X.prog X.w (upd H x o) h' x o) : Inv X pins σ (upd H x o) { s with heap := h', toks := t' } := I.un (Un.write mu he k heo) (I.hok.write mu he k heo new)
theorem Inv.weak {σ' : List (Option V)} (I : Inv X pins σ H s) (hl : σ'.length = σ.length) (w : ∀ (i : Nat) v, σ'[i]? = some (some v) → σ[i]? = some (some v)) : Inv X pins σ' H s :=
  ⟨I.ok, I.os, I.bare, I.base, let ⟨m, hn, hl'⟩ := I.loc; ⟨m, hn, fun i x v e1 e2 e3 => hl' i x v e1 (w i v e2) e3⟩, I.cell, I.free, I.freeC, I.pin, I.hok, hl.trans I.len⟩
theorem Inv.pins_of {pins' : List (Addr × Obj)} (I : Inv X pins σ H s) (h : ∀ p ∈ pins', s.heap.get? p.1 = some p.2 ∧ H p.1 = none ∧ p.1 ≠ X.env.locals ∧ p.1 ∉ X.fs ∧ ∀ v, p.2.data ≠ .cell v) : Inv X pins' σ H s :=
  ⟨I.ok, I.os, I.bare, I.base, I.loc, I.cell, I.free, I.freeC, fun p hp => (List.mem_append.mp hp).elim (fun z => I.pin p (List.mem_append_left _ z)) (h p), I.hok, I.len⟩
theorem nodup_ix {N : List Str} (hN : N.Nodup) {i j : Nat} {x : Str} (a : N[i]? = some x) (b : N[j]? = some x) : i = j := by
  obtain ⟨h1, e1⟩ := List.getElem?_eq_some_iff.mp a
  obtain ⟨h2, e2⟩ := List.getElem?_eq_some_iff.mp b
  exact (List.getElem_inj hN).mp (e1.trans e2.symm)
theorem store_ok2 {M : Model} {A : Around} {E : Value → Shared → Prop} {i : Nat} {x : Str} {v : V} {u : Value} {Q : Unit → Shared → Prop} (I : Inv X pins σ H s) (hN : X.N.Nodup) (hi : X.N[i]? = some x) (hx : Loc X.env.scope x) (r : RelV v u)
    (h : ∀ s', Inv X pins (σ.set i (some v)) H s' → (∃ a, Heap.SameBut a s.heap s'.heap ∧ (a = X.env.locals ∨ X.env.cells.lookup x = some a)) → Q () s') (hf : X.fn x = true ∨ X.env.scope.names.lookup x = some .local := by first | exact .inl rfl | exact .inr rfl | assumption) : wpAny M A (storeName X.env x u) Q E s := by
  obtain ⟨m, hn, hl⟩ := id I.loc
  have hcls : (X.env.scope.kind == .class || (X.env.scope.kind == .module && X.env.locals != X.env.globals)) = false := by rw [I.ok.kind]; rfl
  have hiσ : i < σ.length := by rw [I.len]; exact (List.getElem?_eq_some_iff.mp hi).1
  have cne := I.cne
  have tracked : ∀ {a : Addr} {h' : Heap}, (∃ o, s.heap.get? a = some o ∧ H a = none) → Heap.SameBut a s.heap h' → HOk X.prog X.w H h' := fun {a h'} ha hs b ob e => by
    obtain ⟨_, _, hfree⟩ := ha
    refine (I.hok b ob e).stay (fun c w' hc q => (hs.2 c ?_).trans q) (fun _ q => q) fun _ _ q => q
    rintro rfl
    rcases hc with rfl | hc
    · rw [hfree] at e; cases e
    · rw [hfree] at hc; cases hc
  rcases hx with hk | hk
  · refine wpAny_storeName_local hk hn (fun h' hn' hs => ?_) hcls
    obtain ⟨oL, _, _, hoL, _⟩ := id hn
    refine h _ ⟨I.ok, I.os, I.bare, ⟨fun b o e n hb hx => ?_, fun b o e n hb hx => ?_, I.base.free, fun b o e hx => ?_, I.base.tups, I.base.frzs, I.base.tbls⟩, ⟨_, hn', fun j y v' e1 e2 e3 => ?_⟩, fun y c e => ?_, I.free, I.freeC, fun p hp => ?_, tracked ⟨oL, hoL, I.free⟩ hs, by simpa using I.len⟩ ⟨_, hs, .inl rfl⟩
    · exact (hs.2 b (Nat.ne_of_lt (Nat.lt_of_lt_of_le (Heap.lt_size e) I.ok.above))).trans (I.base.keep b o e n hb hx)
    · obtain ⟨sl, e1⟩ := I.base.slot b o e n hb hx
      exact ⟨sl, (hs.2 b (Nat.ne_of_lt (Nat.lt_of_lt_of_le (Heap.lt_size e) I.ok.above))).trans e1⟩
    · obtain ⟨o', e1⟩ := I.base.there b o e hx
      exact ⟨o', (hs.2 b (Nat.ne_of_lt (Nat.lt_of_lt_of_le (Heap.lt_size e) I.ok.above))).trans e1⟩
    · by_cases hj : j = i
      · subst hj
        rw [hi] at e1; cases e1
        rw [List.getElem?_set_self hiσ] at e2
        cases e2
        exact ⟨u, r, .inl ⟨hk, by simp⟩⟩
      · rw [List.getElem?_set_ne (Ne.symm hj)] at e2
        obtain ⟨u', r', q⟩ := hl j y v' e1 e2 e3
        refine ⟨u', r', ?_⟩
        rcases q with ⟨k, e⟩ | ⟨k, c, e, z⟩
        · refine .inl ⟨k, ?_⟩
          have : y ≠ x := fun e => hj (nodup_ix hN e1 (e ▸ hi))
          simp [this, e]
        · exact .inr ⟨k, c, e, z.sameBut hs (cne y c e)⟩
    · obtain ⟨w', z⟩ := I.cell y c e
      exact ⟨w', z.sameBut hs (cne y c e)⟩
    · obtain ⟨e, n, ne, nf, d⟩ := I.pin p hp
      exact ⟨(hs.2 p.1 ne).trans e, n, ne, nf, d⟩
  · have hfn : X.fn x = true := by
      rcases hf with z | z
      · exact z
      · rw [z] at hk; cases hk
    obtain ⟨c, hc⟩ := I.ok.has x (.inl hk)
    obtain ⟨w', z⟩ := I.cell x c hc
    refine wpAny_storeName_cell I.ok.kind hk hc z (fun h' hc' hs => ?_)
    obtain ⟨oc, hoc, hocd⟩ := id z
    refine h { s with heap := h' } ⟨I.ok, I.os, I.bare, ⟨fun b o e n hb hx => ?_, fun b o e n hb hx => ?_, I.base.free, fun b o e hx => ?_, I.base.tups, I.base.frzs, I.base.tbls⟩, ⟨m, hn.sameBut hs (Ne.symm (cne x c hc)), fun j y v' e1 e2 e3 => ?_⟩, fun y c' e => ?_, I.free, I.freeC, fun p hp => ?_, tracked ⟨oc, hoc, I.freeC x c hc⟩ hs, by simpa using I.len⟩ ⟨c, hs, .inr hc⟩
    · exact (hs.2 b (Nat.ne_of_lt (Nat.lt_of_lt_of_le (Heap.lt_size e) (I.ok.cab x c hfn hc)))).trans (I.base.keep b o e n hb hx)
    · obtain ⟨sl, e1⟩ := I.base.slot b o e n hb hx
      exact ⟨sl, (hs.2 b (Nat.ne_of_lt (Nat.lt_of_lt_of_le (Heap.lt_size e) (I.ok.cab x c hfn hc)))).trans e1⟩
    · obtain ⟨o', e1⟩ := I.base.there b o e hx
      exact ⟨o', (hs.2 b (Nat.ne_of_lt (Nat.lt_of_lt_of_le (Heap.lt_size e) (I.ok.cab x c hfn hc)))).trans e1⟩
    · by_cases hj : j = i
      · subst hj
        rw [hi] at e1; cases e1
        rw [List.getElem?_set_self hiσ] at e2
        cases e2
        exact ⟨u, r, .inr ⟨.inl hk, c, hc, hc'⟩⟩
      · rw [List.getElem?_set_ne (Ne.symm hj)] at e2
        obtain ⟨u', r', q⟩ := hl j y v' e1 e2 e3
        refine ⟨u', r', ?_⟩
        rcases q with q | ⟨k, c', e, z'⟩
        · exact .inl q
        · refine .inr ⟨k, c', e, z'.sameBut hs ?_⟩
          rintro rfl
          exact hj (nodup_ix hN e1 (I.ok.inj _ _ _ e hc ▸ hi))
    · by_cases hcc : c' = c
      · subst hcc; exact ⟨_, hc'⟩
      · obtain ⟨w2, z2⟩ := I.cell y c' e
        exact ⟨w2, z2.sameBut hs hcc⟩
    · obtain ⟨e, n, ne, nf, d⟩ := I.pin p hp
      refine ⟨(hs.2 p.1 ?_).trans e, n, ne, nf, d⟩
      intro q
      rw [q, hoc] at e
      have q' : oc = p.2 := Option.some.inj e
      exact d w' (by rw [← q']; exact hocd)
theorem store_ok {M : Model} {A : Around} {E : Value → Shared → Prop} {i : Nat} {x : Str} {v : V} {u : Value} {Q : Unit → Shared → Prop} (I : Inv X pins σ H s) (hN : X.N.Nodup) (hi : X.N[i]? = some x) (hx : Loc X.env.scope x) (r : RelV v u)
    (h : ∀ s', Inv X pins (σ.set i (some v)) H s' → Q () s') (hf : X.fn x = true ∨ X.env.scope.names.lookup x = some .local := by first | exact .inl rfl | exact .inr rfl | assumption) : wpAny M A (storeName X.env x u) Q E s :=
  store_ok2 I hN hi hx r (fun s' I' _ => h s' I') hf
theorem Inv.call' {s' : Shared} {ch : List Addr} (I : Inv X pins σ H s) (ho : s'.os = s.os) (u : Un (frs X.stack) ch H H' s.heap s'.heap) (hok : HOk X.prog X.w H' s'.heap) (hg : AllBare s'.gens)
    (hch : ∀ b ∈ ch, (b ∈ X.ex ∨ X.s₀.heap.objs.size ≤ b) ∧ b ≠ X.env.locals ∧ (∀ x c, X.env.cells.lookup x = some c → c ≠ b) ∧ ∀ p ∈ X.pn ++ pins, p.1 ≠ b) : Inv X pins σ H' s' := by
  obtain ⟨h', g', d', t', o'⟩ := s'
  have e : o' = s.os := ho
  subst e
  exact I.call (g' := g') (t' := t') (d' := d') u hok hg hch
end
abbrev XK := Value → Option Addr → Hp → Prop
abbrev St := List (Option V)
abbrev VK := V → Hp → Prop
abbrev TE := St → Hp → VK → Prop
abbrev TT := St → Hp → (Bool → Hp → Prop) → Prop
abbrev TA := St → Hp → (List V → Hp → Prop) → Prop
structure Ends where
  nx : St → Hp → Prop
  rt : VK
  bk : St → Hp → Prop := fun _ _ => False
  ct : St → Hp → Prop := fun _ _ => False
abbrev TS := Ends → St → Hp → Prop
def EP (X : Cx) (pins : List (Addr × Obj)) (σ : St) (Q : VK) (u : Value) (s' : Shared) : Prop := ∃ v H', Inv X pins σ H' s' ∧ RelV v u ∧ Q v H'
def TP (X : Cx) (pins : List (Addr × Obj)) (σ : St) (Q : Bool → Hp → Prop) (b : Bool) (s' : Shared) : Prop := ∃ H', Inv X pins σ H' s' ∧ Q b H'
def AP (X : Cx) (pins : List (Addr × Obj)) (σ : St) (Q : List V → Hp → Prop) (us : List Value) (s' : Shared) : Prop := ∃ vs H', Inv X pins σ H' s' ∧ Vals vs us ∧ Q vs H'
def SP (X : Cx) (pins : List (Addr × Obj)) (D : Ends) (f : Flow) (s' : Shared) : Prop :=
  match f with
  | .next => ∃ σ' H', Inv X pins σ' H' s' ∧ D.nx σ' H'
  | .brk => ∃ σ' H', Inv X pins σ' H' s' ∧ D.bk σ' H'
  | .cont => ∃ σ' H', Inv X pins σ' H' s' ∧ D.ct σ' H'
  | .ret u => ∃ v σ' H', Inv X pins σ' H' s' ∧ RelV v u ∧ D.rt v H'
def PE (X : Cx) (e : Expr) (t : TE) : Prop :=
  ∀ (pins : List (Addr × Obj)) (s : Shared) (σ : St) (H : Hp) (Q : VK), Inv X pins σ H s → t σ H Q → wpAny (model X.prog X.w) X.A (eval e X.env) (EP X pins σ Q) X.xe s
def PT (X : Cx) (e : Expr) (t : TT) : Prop :=
  ∀ (pins : List (Addr × Obj)) (s : Shared) (σ : St) (H : Hp) (Q : Bool → Hp → Prop), Inv X pins σ H s → t σ H Q → wpAny (model X.prog X.w) X.A (isTrue e X.env (eval e X.env)) (TP X pins σ Q) X.xe s
def PW (X : Cx) (e : Expr) (t : TT) : Prop :=
  ∀ (whole : Sem Value) (pins : List (Addr × Obj)) (s : Shared) (σ : St) (H : Hp) (Q : Bool → Hp → Prop), Inv X pins σ H s → t σ H Q → wpAny (model X.prog X.w) X.A (isTrue e X.env whole) (TP X pins σ Q) X.xe s
theorem PW.pt {X : Cx} {e : Expr} {t : TT} (h : PW X e t) : PT X e t := h _
def PA (X : Cx) (es : List Expr) (t : TA) : Prop :=
  ∀ (pos : Pos) (pins : List (Addr × Obj)) (s : Shared) (σ : St) (H : Hp) (Q : List V → Hp → Prop), Inv X pins σ H s → t σ H Q → wpAny (model X.prog X.w) X.A (spliced (backTo pos (starEach es X.env))) (AP X pins σ Q) X.xe s
def PS (X : Cx) (st : Stmt) (t : TS) : Prop :=
  ∀ (pins : List (Addr × Obj)) (s : Shared) (σ : St) (H : Hp) (D : Ends), Inv X pins σ H s → t D σ H → wpAny (model X.prog X.w) X.A (exec st X.env) (SP X pins D) X.xe s
def PSs (X : Cx) (st : List Stmt) (t : TS) : Prop :=
  ∀ (pins : List (Addr × Obj)) (s : Shared) (σ : St) (H : Hp) (D : Ends), Inv X pins σ H s → t D σ H → wpAny (model X.prog X.w) X.A (execs st X.env) (SP X pins D) X.xe s
theorem thn {α : Type} {t : Sem α} {Q Q' : α → Shared → Prop} {M : Model} {A : Around} {E : Value → Shared → Prop} {s : Shared} (h : wpAny M A t Q E s) (hQ : ∀ a s, Q a s → Q' a s) : wpAny M A t Q' E s := wpAny_mono h hQ fun _ _ x => x
end L2
namespace L2
open PySem PySem.Spec PyProof.Rows
section
variable {X : Cx}
inductive tVarS (i : Nat) (σ : St) (H : Hp) (Q : VK) : Prop
  | mk (v : V) (h : σ[i]? = some (some v)) (k : Q v H)
def tVar (i : Nat) : TE := fun σ H Q => tVarS i σ H Q
def tC (v : V) : TE := fun _ H Q => Q v H
theorem pe_var {i : Nat} {x : Str} {pos : Pos} (hN : X.N[i]? = some x) (hv : Vis X.env.scope x) (hd : (x == ("__debug__" : Str)) = false := by decide) (hcd : (x == ("__classdict__" : Str)) = false := by decide) : PE X (.Name x pos) (tVar i) := by
  intro pins s σ H Q I h
  obtain ⟨v, e, h⟩ := h
  obtain ⟨m, hn, hl⟩ := I.loc
  obtain ⟨u, r, l⟩ := hl i x v hN e hv
  have fin : EP X pins σ Q u s := ⟨v, H, I, r, h⟩
  rcases l with ⟨hk, hm⟩ | ⟨hk, c, hc, hcell⟩
  · exact wpAny_Name (wpAny_loadName_local I.ok.kind hk hn hm fin) hd
  · rcases hk with hk | hk
    · exact wpAny_Name (wpAny_loadName_cell I.ok.kind hk hc hcell fin) hd
    · exact wpAny_Name (wpAny_loadName_free I.ok.kind hk hc hcell fin hcd) hd
theorem pe_int {i j pos} : PE X (.Constant (.int i) j pos) (tC (.int i)) := fun _ _ _ H _ I h => wpAny_Constant_int ⟨.int i, H, I.tok _, ⟨_, rfl⟩, h⟩
theorem pe_bl {b j pos} : PE X (.Constant (.bool b) j pos) (tC (.bl b)) := fun _ _ _ H _ I h => Constant_bool ⟨.bl b, H, I, rfl, h⟩
theorem pe_non {j pos} : PE X (.Constant .none j pos) (tC .non) := fun _ _ _ H _ I h => Constant_none ⟨.non, H, I, rfl, h⟩
theorem pe_str {x j pos} : PE X (.Constant (.str x) j pos) (tC (.str x)) := fun _ _ _ H _ I h => Calls.Constant_str ⟨.str x, H, I.tok _, ⟨_, rfl⟩, h⟩
def Gl (X : Cx) (x : Str) : Prop := X.env.kindOf x = some .globalImplicit
theorem ld_glob {E : Value → Shared → Prop} {pins : List (Addr × Obj)} {s : Shared} {σ : St} {H : Hp} {x : Str} {u : Value} {pos : Pos} {Q : Value → Shared → Prop} (I : Inv X pins σ H s) (hg : Gl X x) (hm : X.mg x = some u) (h : Q u s)
    (hd : (x == ("__debug__" : Str)) = false := by decide) : wpAny (model X.prog X.w) X.A (eval (.Name x pos) X.env) Q E s :=
  Calls.Name_function_global I.ok.kind hg (Calls.loadGlobal_global (by rw [I.ok.glob]; exact I.mod.glob.keeps I.bk) hm h) hd
theorem ld_blt {E : Value → Shared → Prop} {pins : List (Addr × Obj)} {s : Shared} {σ : St} {H : Hp} {x : Str} {u : Value} {pos : Pos} {Q : Value → Shared → Prop} (I : Inv X pins σ H s) (hg : Gl X x) (hm : X.mg x = none) (hv : bootBuiltins x = some u) (h : Q u s)
    (hn : x ≠ "__name__" := by decide) (hd : (x == ("__debug__" : Str)) = false := by decide) : wpAny (model X.prog X.w) X.A (eval (.Name x pos) X.env) Q E s := by
  obtain ⟨mb, h1, h2⟩ := I.mod.blt
  exact Calls.Name_function_global I.ok.kind hg (Calls.loadGlobal_builtin (by rw [I.ok.glob]; exact I.mod.glob.keeps I.bk) hm (by rw [I.ok.blt]; exact h1.keeps I.bk) ((h2 x hn).trans hv) h) hd
theorem pe_glob {x : Str} {v : V} {u : Value} {pos : Pos} (hg : Gl X x) (hm : X.mg x = some u) (r : RelV v u) (hd : (x == ("__debug__" : Str)) = false := by decide) : PE X (.Name x pos) (tC v) :=
  fun _ _ _ H _ I h => ld_glob I hg hm ⟨v, H, I, r, h⟩ hd
theorem pe_bltn {x : Str} {v : V} {u : Value} {pos : Pos} (hg : Gl X x) (hm : X.mg x = none) (hv : bootBuiltins x = some u) (r : RelV v u) (hn : x ≠ "__name__" := by decide) (hd : (x == ("__debug__" : Str)) = false := by decide) : PE X (.Name x pos) (tC v) :=
  fun _ _ _ H _ I h => ld_blt I hg hm hv ⟨v, H, I, r, h⟩ hn hd
variable {a b : Expr} {ta tb : TE} {pos : Pos}
def PC (X : Cx) (op : CmpOp) (a b : Expr) (t : TE) : Prop :=
  ∀ (pins : List (Addr × Obj)) (s : Shared) (σ : St) (H : Hp) (Q : VK), Inv X pins σ H s → t σ H Q →
    wpAny (model X.prog X.w) X.A (eval a X.env) (fun v s₁ => wpAny (model X.prog X.w) X.A (eval b X.env) (fun u s₂ => wpAny (model X.prog X.w) X.A (compareOp op v u) (EP X pins σ Q) X.xe s₂) X.xe s₁) X.xe s
theorem nobehind (b : Expr) {op : CmpOp} (h : op ≠ .In) (h2 : op ≠ .NotIn) : behindInMarks op b = false := by
  have e1 : (op == CmpOp.In) = false := by cases op <;> first | rfl | exact absurd rfl h
  have e2 : (op == CmpOp.NotIn) = false := by cases op <;> first | rfl | exact absurd rfl h2
  cases b <;> simp [behindInMarks, e1, e2]
inductive tBS (x : V) (H : Hp) (Q : Bool → Hp → Prop) : Prop
  | mk (c : Bool) (h : x = .bl c) (k : Q c H)
def tB (t : TE) : TT := fun σ H Q => t σ H fun x H1 => tBS x H1 Q
theorem pt_cmp {op : CmpOp} {t : TE} (h : PC X op a b t) (h1 : behindInMarks op b = false := by first | exact nobehind _ (by decide) (by decide) | rfl) : PT X (.Compare a [op] [b] pos) (tB t) := by
  intro pins s σ H Q I hw
  refine wpAny_isTrue_Compare1 (thn (h pins s σ H _ I hw) fun v s1 h1 => thn h1 fun u s2 h2 => thn h2 fun c s3 hq__ => ?_) h1
  obtain ⟨x, H1, I1, r1, q1⟩ := hq__
  obtain ⟨d, rfl, q⟩ := q1
  cases r1
  exact wpAny_truthy_bool ⟨H1, I1, q⟩
theorem pt_val {e : Expr} {t : TE} (h : PE X e t) (he : ∀ whole, isTrue e X.env whole = (do let v ← whole; standAt e.pos; holding [v] (truthy v)) := by intro _; rfl) : PT X e (tB t) := by
  intro pins s σ H Q I hw
  refine isTrue_plain (thn (h pins s σ H _ I hw) fun v s1 hq__ => ?_) (he _)
  obtain ⟨x, H1, I1, r1, q1⟩ := hq__
  obtain ⟨d, rfl, q⟩ := q1
  cases r1
  exact wpAny_truthy_bool ⟨H1, I1, q⟩
variable {tA tB' : TT} {rest : List Expr}
def tAnd (t u : TT) : TT := fun σ H Q => t σ H fun c H1 => if c = true then u σ H1 Q else Q false H1
def tOr (t u : TT) : TT := fun σ H Q => t σ H fun c H1 => if c = true then Q true H1 else u σ H1 Q
def tNot (t : TT) : TT := fun σ H Q => t σ H fun c H1 => Q (!c) H1
theorem pw_and1 (ha : PT X a tA) : PW X (.BoolOp .And [a] pos) tA := by
  intro wh pins s σ H Q I h
  refine isTrue_and (thn (ha pins s σ H Q I h) fun c s1 e => ?_)
  cases c with
  | true => exact isTrue_and_nil e
  | false => exact e
theorem pw_or1 (ha : PT X a tA) : PW X (.BoolOp .Or [a] pos) tA := by
  intro wh pins s σ H Q I h
  refine isTrue_or (thn (ha pins s σ H Q I h) fun c s1 e => ?_)
  cases c with
  | false => exact isTrue_or_nil e
  | true => exact e
theorem pw_and (ha : PT X a tA) (hb : PW X (.BoolOp .And (b :: rest) pos) tB') : PW X (.BoolOp .And (a :: b :: rest) pos) (tAnd tA tB') := by
  intro wh pins s σ H Q I h
  refine isTrue_and (thn (ha pins s σ H _ I h) fun c s1 hq__ => ?_)
  obtain ⟨H1, I1, q1⟩ := hq__
  cases c with
  | true => exact hb wh pins s1 σ H1 Q I1 q1
  | false => exact ⟨H1, I1, q1⟩
theorem pw_or (ha : PT X a tA) (hb : PW X (.BoolOp .Or (b :: rest) pos) tB') : PW X (.BoolOp .Or (a :: b :: rest) pos) (tOr tA tB') := by
  intro wh pins s σ H Q I h
  refine isTrue_or (thn (ha pins s σ H _ I h) fun c s1 hq__ => ?_)
  obtain ⟨H1, I1, q1⟩ := hq__
  cases c with
  | true => exact ⟨H1, I1, q1⟩
  | false => exact hb wh pins s1 σ H1 Q I1 q1
theorem pt_not (ha : PT X a tA) : PT X (.UnaryOp .Not a pos) (tNot tA) := by
  intro pins s σ H Q I h
  exact isTrue_not (ha pins s σ H (fun c H1 => Q (!c) H1) I h)
inductive tAndVS (tb : TE) (σ : St) (x : V) (H : Hp) (Q : VK) : Prop
  | mk (c : Bool) (h : x = .bl c) (k : if c = true then tb σ H Q else Q (.bl false) H)
def tAndV (ta tb : TE) : TE := fun σ H Q => ta σ H fun x H1 => tAndVS tb σ x H1 Q
inductive tOrVS (tb : TE) (σ : St) (x : V) (H : Hp) (Q : VK) : Prop
  | mk (c : Bool) (h : x = .bl c) (k : if c = true then Q (.bl true) H else tb σ H Q)
inductive tNotVS (x : V) (H : Hp) (Q : VK) : Prop
  | mk (c : Bool) (h : x = .bl c) (k : Q (.bl (!c)) H)
def tNotV (ta : TE) : TE := fun σ H Q => ta σ H fun x H1 => tNotVS x H1 Q
theorem pe_one {op} {t : TE} (h : PE X a t) : PE X (.BoolOp op [a] pos) t := fun pins s σ H Q I hw => BoolOp_one (h pins s σ H Q I hw)
theorem pe_and (ha : PE X a ta) (hb : PE X (.BoolOp .And (b :: rest) pos) tb) : PE X (.BoolOp .And (a :: b :: rest) pos) (tAndV ta tb) := by
  intro pins s σ H Q I h
  refine BoolOp_and (thn (ha pins s σ H _ I h) fun v s1 hq__ => ?_)
  obtain ⟨x, H1, I1, r1, q1⟩ := hq__
  obtain ⟨c, rfl, q1⟩ := q1
  cases r1
  refine wpAny_truthy_bool ?_
  cases c with
  | true => exact hb pins s1 σ H1 Q I1 q1
  | false => exact ⟨.bl false, H1, I1, rfl, q1⟩
theorem pe_not (ha : PE X a ta) : PE X (.UnaryOp .Not a pos) (tNotV ta) := by
  intro pins s σ H Q I h
  refine UnaryOp_ (thn (ha pins s σ H _ I h) fun v s1 hq__ => ?_)
  obtain ⟨x, H1, I1, r1, q1⟩ := hq__
  obtain ⟨c, rfl, q1⟩ := q1
  cases r1
  exact not_of (wpAny_truthy_bool ⟨.bl (!c), H1, I1, rfl, q1⟩)
def tIf (t : TT) (ta tb : TE) : TE := fun σ H Q => t σ H fun c H1 => if c = true then ta σ H1 Q else tb σ H1 Q
theorem pe_ifExp {c : Expr} (hc : PT X c tA) (ha : PE X a ta) (hb : PE X b tb) : PE X (.IfExp c a b pos) (tIf tA ta tb) := by
  intro pins s σ H Q I h
  refine wpAny_IfExp (thn (hc pins s σ H _ I h) fun d s1 hq__ => ?_)
  obtain ⟨H1, I1, q1⟩ := hq__
  cases d with
  | true => exact ha pins s1 σ H1 Q I1 q1
  | false => exact hb pins s1 σ H1 Q I1 q1
end
end L2
namespace L2
open PySem PySem.Spec PyProof.Rows
def SqL (K : PySem.W.Frag) (H : Hp) (a : Addr) (xs : List V) : Prop :=
  Rd H a (.lst xs) ∨
    ∃ (o : Obj) (its : Array Value) (n : Nat), K.lookup a = some o ∧ o.cls = .type "list" ∧ o.dict = none ∧ o.data = .seq its n ∧ its.size ≤ sizeLine ∧ Vals xs its.toList
def SqT (K : PySem.W.Frag) (H : Hp) (a : Addr) (xs : List V) : Prop :=
  Rd H a (.tup xs) ∨
    ∃ (o : Obj) (its : Array Value) (n : Nat), K.lookup a = some o ∧ o.cls = .type "tuple" ∧ o.data = .seq its n ∧ its.size ≤ sizeLine ∧ Vals xs its.toList
def absV : Value → Option V
  | .none => some .non
  | .bool b => some (.bl b)
  | .int i _ => some (.int i)
  | .str x _ => some (.str x)
  | .bytes b _ => some (.byt b)
  | .float b _ => some (.flt b)
  | .ref a => some (.ref a)
  | .type n => some (.ty n)
  | _ => none
theorem RelV.abs {x : V} {u : Value} (r : RelV x u) : absV u = some x := by
  cases x with
  | non => cases r; rfl
  | bl _ => cases r; rfl
  | int _ => obtain ⟨t, rfl⟩ := r; rfl
  | str _ => obtain ⟨t, rfl⟩ := r; rfl
  | byt _ => obtain ⟨t, rfl⟩ := r; rfl
  | flt _ => obtain ⟨t, rfl⟩ := r; rfl
  | ref _ => cases r; rfl
  | ty _ => cases r; rfl
theorem RelV.inj {x y : V} {u : Value} (r : RelV x u) (q : RelV y u) : x = y := Option.some.inj (r.abs.symm.trans q.abs)
theorem Vals.inj : ∀ {xs ys : List V} {us : List Value}, Vals xs us → Vals ys us → xs = ys
  | _, _, _, .nil, .nil => rfl
  | _, _, _, .cons r t, .cons r' t' => by rw [r.inj r', Vals.inj t t']
section
variable {X : Cx} {pins : List (Addr × Obj)} {σ : St} {H : Hp} {s : Shared} {a : Addr} {xs ys : List V}
theorem SqL.of {K : PySem.W.Frag} (h : H a = some (.lst xs)) : SqL K H a xs := .inl (.inl h)
theorem SqT.of {K : PySem.W.Frag} (h : H a = some (.tup xs)) : SqT K H a xs := .inl (.inl h)
theorem Inv.list (I : Inv X pins σ H s) (h : SqL X.K H a xs) : ∃ its : List Value, Vals xs its ∧ PlainL s.heap a its.toArray ∧ xs.length ≤ sizeLine := by
  rcases h with h | ⟨o, its, n, hk, hc, hd, hs, hz, r⟩
  · obtain ⟨z, its, n, r, e⟩ := h.ok I.hok
    exact ⟨its, r, ⟨_, n, e, rfl, rfl, rfl⟩, z⟩
  · refine ⟨its.toList, r, ⟨o, n, I.kIn a o hk, hc, hd, by simpa using hs⟩, ?_⟩
    have e := r.length
    simp only [Array.length_toList] at e
    omega
theorem Inv.tuple (I : Inv X pins σ H s) (h : SqT X.K H a xs) : ∃ its : List Value, Vals xs its ∧ IsTup s.heap a its.toArray ∧ xs.length ≤ sizeLine := by
  rcases h with h | ⟨o, its, n, hk, hc, hs, hz, r⟩
  · obtain ⟨z, its, r, p⟩ := h.ok I.hok
    exact ⟨its, r, p, z⟩
  · refine ⟨its.toList, r, ⟨o, I.kIn a o hk, hc, n, by simpa using hs⟩, ?_⟩
    have e := r.length
    simp only [Array.length_toList] at e
    omega
theorem Inv.list_inj (I : Inv X pins σ H s) (h : SqL X.K H a xs) (h' : SqL X.K H a ys) : xs = ys := by
  obtain ⟨its, r, ⟨o, n, e, _, _, d⟩, _⟩ := I.list h
  obtain ⟨its', r', ⟨o', n', e', _, _, d'⟩, _⟩ := I.list h'
  rw [e] at e'; cases e'
  rw [d] at d'
  injection d' with d1 _
  have : its = its' := by simpa using congrArg Array.toList d1
  subst this
  exact r.inj r'
end
abbrev Cx.wish (X : Cx) (E : Value → Shared → Prop) : Cx := { X with xe := E }
abbrev Cx.nox (X : Cx) : Cx := X.wish fun _ _ => False
theorem Cx.Ok.wish {X : Cx} (ok : X.Ok) (E : Value → Shared → Prop) : (X.wish E).Ok :=
  ⟨ok.mod, ok.kind, ok.glob, ok.blt, ok.above, ok.inj, ok.has, ok.cab, ok.hd, ok.frames, ok.stk, ok.exf, ok.bs, ok.bsz, ok.noex, ok.exfs, ok.funs, ok.frf⟩
theorem Cx.Ok.unwish {X : Cx} {E : Value → Shared → Prop} (ok : (X.wish E).Ok) : X.Ok :=
  ⟨ok.mod, ok.kind, ok.glob, ok.blt, ok.above, ok.inj, ok.has, ok.cab, ok.hd, ok.frames, ok.stk, ok.exf, ok.bs, ok.bsz, ok.noex, ok.exfs, ok.funs, ok.frf⟩
section
variable {X : Cx} {pins : List (Addr × Obj)} {σ : St} {H : Hp} {s : Shared} {E : Value → Shared → Prop}
theorem Inv.wish (I : Inv X pins σ H s) (E : Value → Shared → Prop) : Inv (X.wish E) pins σ H s := ⟨I.ok.wish E, I.os, I.bare, I.base, I.loc, I.cell, I.free, I.freeC, I.pin, I.hok, I.len⟩
theorem Inv.unwish (I : Inv (X.wish E) pins σ H s) : Inv X pins σ H s := ⟨I.ok.unwish, I.os, I.bare, I.base, I.loc, I.cell, I.free, I.freeC, I.pin, I.hok, I.len⟩
theorem SP.unwish {D : Ends} {f : Flow} {s' : Shared} (h : SP (X.wish E) pins D f s') : SP X pins D f s' := by
  cases f with
  | next => obtain ⟨σ', H', I, q⟩ := h; exact ⟨σ', H', I.unwish, q⟩
  | brk => obtain ⟨σ', H', I, q⟩ := h; exact ⟨σ', H', I.unwish, q⟩
  | cont => obtain ⟨σ', H', I, q⟩ := h; exact ⟨σ', H', I.unwish, q⟩
  | ret u => obtain ⟨v, σ', H', I, r, q⟩ := h; exact ⟨v, σ', H', I.unwish, r, q⟩
theorem PE.nox {e : Expr} {t : TE} (h : PE X.nox e t) : PE X e t := fun pins s σ H Q I hw =>
  wpAny_mono (h pins s σ H Q (I.wish _) hw) (fun _ _ ⟨v, H', I', r, q⟩ => ⟨v, H', I'.unwish, r, q⟩) fun _ _ z => False.elim z
theorem PT.nox {e : Expr} {t : TT} (h : PT X.nox e t) : PT X e t := fun pins s σ H Q I hw =>
  wpAny_mono (h pins s σ H Q (I.wish _) hw) (fun _ _ ⟨H', I', q⟩ => ⟨H', I'.unwish, q⟩) fun _ _ z => False.elim z
theorem PSs.nox {st : List Stmt} {t : TS} (h : PSs X.nox st t) : PSs X st t := fun pins s σ H D I hw =>
  wpAny_mono (h pins s σ H D (I.wish _) hw) (fun _ _ q => q.unwish) fun _ _ z => False.elim z
end
section
variable {X : Cx} {st : Stmt} {rest : List Stmt} {t u : TS} {e : Expr} {te : TE} {pos : Pos}
def tNext : TS := fun D σ H => D.nx σ H
def tSeq (t u : TS) : TS := fun D σ H => t { D with nx := u D } σ H
theorem pss_nil : PSs X [] tNext := fun _ _ σ H _ I h => wpAny_execs_nil ⟨σ, H, I, h⟩
theorem pss_cons (h1 : PS X st t) (h2 : PSs X rest u) : PSs X (st :: rest) (tSeq t u) := by
  intro pins s σ H D I h
  refine wpAny_execs_cons (thn (h1 pins s σ H { D with nx := u D } I h) fun f s1 q => ?_)
  cases f with
  | next =>
    obtain ⟨σ', H', I', q⟩ := q
    exact h2 pins s1 σ' H' D I' q
  | ret v => exact q
  | brk => exact q
  | cont => exact q
theorem pss_one (h1 : PS X st t) : PSs X [st] t := by
  intro pins s σ H D I h
  refine wpAny_execs_cons (thn (h1 pins s σ H D I h) fun f s1 q => ?_)
  cases f with
  | next => exact wpAny_execs_nil q
  | ret v => exact q
  | brk => exact q
  | cont => exact q
theorem Inv.quiet {pins : List (Addr × Obj)} {σ : St} {H : Hp} {s : Shared} (I : Inv X pins σ H s) : interactive X.env = false := by simp [interactive, I.ok.kind]
def tDrop (te : TE) : TS := fun D σ H => te σ H fun _ H1 => D.nx σ H1
theorem ps_expr (he : PE X e te) (hs : swapsWith e none pos.line X.env = pure false := by rfl) : PS X (.Expr e pos) (tDrop te) := by
  intro pins s σ H D I h
  exact wpAny_Expr_any (thn (he pins s σ H _ I h) fun v s1 ⟨x, H1, I1, r1, q1⟩ => ⟨σ, H1, I1, q1⟩) I.quiet hs
def tRet (te : TE) : TS := fun D σ H => te σ H D.rt
theorem ps_ret (he : PE X e te) : PS X (.Return (some e) pos) (tRet te) := by
  intro pins s σ H D I h
  exact wpAny_Return_some (thn (he pins s σ H _ I h) fun v s1 ⟨x, H1, I1, r1, q1⟩ => ⟨x, σ, H1, I1, r1, q1⟩)
def tRetN : TS := fun D _ H => D.rt .non H
theorem ps_retN : PS X (.Return none pos) tRetN := fun _ _ σ H _ I h => wpAny_Return_none ⟨.non, σ, H, I, rfl, h⟩
def tIfS (c : TT) (t u : TS) : TS := fun D σ H => c σ H fun b H1 => if b = true then t D σ H1 else u D σ H1
theorem ps_if {c : Expr} {a b : List Stmt} {tc : TT} (hc : PT X c tc) (ha : PSs X a t) (hb : PSs X b u) : PS X (.If c a b pos) (tIfS tc t u) := by
  intro pins s σ H D I h
  refine wpAny_If (thn (hc pins s σ H _ I h) fun d s1 hq__ => ?_)
  obtain ⟨H1, I1, q1⟩ := hq__
  cases d with
  | true => exact ha pins s1 σ H1 D I1 q1
  | false => exact hb pins s1 σ H1 D I1 q1
def tNever : TS := fun _ _ _ => False
theorem ps_never : PS X st tNever := fun _ _ _ _ _ _ h => h.elim
end
abbrev TG := V → St → Hp → (St → Hp → Prop) → Prop
abbrev TGs := List V → St → Hp → (St → Hp → Prop) → Prop
def PG (X : Cx) (target : Expr) (t : TG) : Prop :=
  ∀ (pins : List (Addr × Obj)) (s : Shared) (σ : St) (H : Hp) (v : V) (u : Value) (Q : St → Hp → Prop), Inv X pins σ H s → RelV v u → t v σ H Q →
    wpAny (model X.prog X.w) X.A (assign target X.env u) (fun _ s' => ∃ σ' H', Inv X pins σ' H' s' ∧ Q σ' H') X.xe s
def PGs (X : Cx) (ts : List Expr) (t : TGs) : Prop :=
  ∀ (pins : List (Addr × Obj)) (s : Shared) (σ : St) (H : Hp) (vs : List V) (us : List Value) (Q : St → Hp → Prop), Inv X pins σ H s → Vals vs us → t vs σ H Q →
    wpAny (model X.prog X.w) X.A (assignInOrder ((assignEach ts X.env).map (·.2)) us) (fun _ s' => ∃ σ' H', Inv X pins σ' H' s' ∧ Q σ' H') X.xe s
section
variable {X : Cx} {pos : Pos}
def gName (i : Nat) : TG := fun v σ H Q => Q (σ.set i (some v)) H
theorem pg_name {i : Nat} {x : Str} (hN : X.N.Nodup) (hi : X.N[i]? = some x) (hx : Loc X.env.scope x) (hf : X.fn x = true ∨ X.env.scope.names.lookup x = some .local := by first | exact .inl rfl | exact .inr rfl | assumption) : PG X (.Name x pos) (gName i) := by
  intro pins s σ H v u Q I r h
  exact wpAny_assign_Name (store_ok I hN hi hx r (fun s' I' => ⟨_, H, I', h⟩) hf)
def gNil : TGs := fun vs σ H Q => vs = [] ∧ Q σ H
def gCons (t : TG) (u : TGs) : TGs := fun vs σ H Q => ∃ v r, vs = v :: r ∧ t v σ H fun σ' H' => u r σ' H' Q
theorem pgs_nil : PGs X [] gNil := by
  intro pins s σ H vs us Q I r h
  obtain ⟨e, h⟩ := h
  subst e
  cases r
  exact assignInOrder_nil ⟨σ, H, I, h⟩
theorem pgs_cons {e : Expr} {es : List Expr} {t : TG} {u : TGs} (h1 : PG X e t) (h2 : PGs X es u)
    (hs : (assignEach (e :: es) X.env).map (·.2) = assign e X.env :: (assignEach es X.env).map (·.2) := by rfl) : PGs X (e :: es) (gCons t u) := by
  intro pins s σ H vs us Q I r h
  obtain ⟨v, vr, e1, h⟩ := h
  subst e1
  cases r with
  | cons r rr =>
    rw [hs]
    refine assignInOrder_cons (thn (h1 pins s σ H _ _ _ I r h) fun _ s1 hq__ => ?_)
    obtain ⟨σ1, H1, I1, q1⟩ := hq__
    exact h2 pins s1 σ1 H1 _ _ Q I1 rr q1
def gTup (K : PySem.W.Frag) (n : Nat) (t : TGs) : TG := fun v σ H Q => ∃ a xs, v = .ref a ∧ SqT K H a xs ∧ xs.length = n ∧ t xs σ H Q
theorem pg_tup {es : List Expr} {k : Nat} {t : TGs} {n : Nat} (hc : X.calm = true) (h : PGs X es t)
    (hn : (assignEach es X.env).length = n := by rfl) (hst : (assignEach es X.env).findIdx? (·.1) = none := by rfl) : PG X (.Tuple es k pos) (gTup X.K n t) := by
  intro pins s σ H v u Q I r hw
  obtain ⟨a, xs, e1, hq, hl, hw⟩ := hw
  subst e1
  cases r
  obtain ⟨its, rv, ht, hz⟩ := I.tuple hq
  refine assign_Tuple_tuple (I.ok.hd hc) ht (by simp [hn, ← hl, rv.length]) hst fun h' hx => ?_
  have I1 : Inv X pins σ H { s with heap := h' } := I.kept (t' := s.toks) fun b o e => hx b o (Nat.ne_of_lt (Heap.lt_size e)) e
  exact h pins _ σ H xs _ Q I1 (by simpa using rv) hw
def tAsg (te : TE) (g : TG) : TS := fun D σ H => te σ H fun x H1 => g x σ H1 D.nx
theorem ps_set {i : Nat} {x : Str} {e : Expr} {te : TE} {pos' : Pos} (hN : X.N.Nodup) (hi : X.N[i]? = some x) (hx : Loc X.env.scope x) (he : PE X e te) (hs : swapsWith e (some (.Name x pos')) pos.line X.env = pure false := by rfl) (hf : X.fn x = true ∨ X.env.scope.names.lookup x = some .local := by first | exact .inl rfl | exact .inr rfl | assumption) :
    PS X (.Assign [.Name x pos'] e pos) (tAsg te (gName i)) := by
  intro pins s σ H D I h
  refine wpAny_Assign_Name (thn (he pins s σ H _ I h) fun v s1 hq__ => ?_) hs
  obtain ⟨y, H1, I1, r1, q1⟩ := hq__
  exact store_ok I1 hN hi hx r1 (fun s2 I2 => ⟨_, H1, I2, q1⟩) hf
end
section
variable {X : Cx} {pos : Pos}
end
structure It where
  go : Nat → Hp → Prop
  yld : Nat → Hp → V → Hp → Prop
  stop : Nat → Hp → Prop
def FpOk (X : Cx) (pins : List (Addr × Obj)) (H : Hp) (b : Addr) : Prop :=
  H b = none ∧ b ≠ X.env.locals ∧ b ∉ X.fs ∧ (b ∈ X.ex ∨ X.s₀.heap.objs.size ≤ b) ∧ (∀ x c, X.env.cells.lookup x = some c → c ≠ b) ∧ ∀ p ∈ X.pn ++ pins, p.1 ≠ b
theorem Inv.fpOk {X : Cx} {pins : List (Addr × Obj)} {σ : St} {H H' : Hp} {s : Shared} {b : Addr} (I : Inv X pins σ H s) (hb : s.heap.objs.size ≤ b) (hn : H' b = none) : FpOk X pins H' b := by
  refine ⟨hn, Nat.ne_of_gt (Nat.lt_of_lt_of_le I.lt hb), I.nofs hb, .inr (Nat.le_trans I.sz hb), fun x c e z => ?_, fun p hp z => ?_⟩
  · obtain ⟨v, q⟩ := I.cell x c e
    exact absurd (Nat.lt_of_lt_of_le q.lt (by rw [z]; exact hb)) (Nat.lt_irrefl _)
  · exact absurd (Nat.lt_of_lt_of_le (Heap.lt_size (I.pin p hp).1) (by rw [z]; exact hb)) (Nat.lt_irrefl _)
structure Turn (P : Program) (w : World) (K : PySem.W.Frag) (tg : Expr) (J : It) (fp : List Addr) (it : Addr) (tn : Nat → Heap → Prop) : Prop where
  mem : it ∈ fp
  obj : ∀ i h, tn i h → ∀ b ∈ fp, ∃ o, h.get? b = some o ∧ ∀ v, o.data ≠ .cell v
  keep : ∀ i h h', tn i h → (∀ b ∈ fp, ∀ o, h.get? b = some o → h'.get? b = some o) → tn i h'
  item : ∀ (X : Cx), X.prog = P → X.w = w → X.K = K → X.calm = true → ∀ (i : Nat) (pins : List (Addr × Obj)) (s : Shared) (σ : St) (H : Hp) (E : Value → Shared → Prop), Inv X pins σ H s → (∀ b ∈ fp, FpOk X pins H b) → tn i s.heap → J.go i H →
    wpAny (model P w) X.A (pyNext (.ref it)) (fun r s1 => ∃ u, r = some u ∧
      wpAny (model P w) X.A (letOwnedTupleGo tg (.ref it) u) (fun _ s2 => ∃ x H', Inv X pins σ H' s2 ∧ RelV x u ∧ J.yld i H x H' ∧ tn (i + 1) s2.heap ∧ ∀ b ∈ fp, H' b = none) E s1) E s
  done : ∀ (X : Cx), X.prog = P → X.w = w → X.K = K → X.calm = true → ∀ (i : Nat) (pins : List (Addr × Obj)) (s : Shared) (σ : St) (H : Hp) (E : Value → Shared → Prop), Inv X pins σ H s → (∀ b ∈ fp, FpOk X pins H b) → tn i s.heap → J.stop i H →
    wpAny (model P w) X.A (pyNext (.ref it)) (fun r s1 => r = none ∧ Inv X pins σ H s1) E s
  self : ∀ (A : Around) (i : Nat) (s : Shared) (Q : Value → Shared → Prop) (E : Value → Shared → Prop), tn i s.heap → Q (.ref it) s → wpAny (model P w) A (pyIter (.ref it)) Q E s
abbrev TI := St → Hp → (It → Hp → Prop) → Prop
def PIE (X : Cx) (pins : List (Addr × Obj)) (σ : St) (tg : Expr) (R : It → Hp → Prop) (itv : Value) (s2 : Shared) : Prop :=
  ∃ (it : Addr) (fp : List Addr) (tn : Nat → Heap → Prop) (J : It) (H' : Hp), itv = .ref it ∧ Inv X pins σ H' s2 ∧ Turn X.prog X.w X.K tg J fp it tn ∧ tn 0 s2.heap ∧ (∀ b ∈ fp, FpOk X pins H' b) ∧ R J H'
def PI (X : Cx) (tg iter : Expr) (wi : TI) : Prop :=
  ∀ (pins : List (Addr × Obj)) (s : Shared) (σ : St) (H : Hp) (R : It → Hp → Prop), Inv X pins σ H s → wi σ H R →
    wpAny (model X.prog X.w) X.A (eval iter X.env) (fun v s1 => wpAny (model X.prog X.w) X.A (pyIter v) (PIE X pins σ tg R) X.xe s1) X.xe s
theorem go_of {M : Model} {A : Around} {E : Value → Shared → Prop} {s : Shared} {tg : Expr} {it : Addr} {u : Value} {o : Obj} {n : String} {vs : Array Value} {Q : Unit → Shared → Prop} (ho : s.heap.get? it = some o) (hc : o.cls = .type n) (hd : o.data = .fields vs)
    (hn : ["enumerate", "zip", "dict_itemiterator", "dict_reverseitemiterator", "odict_iterator", "itertools.zip_longest", "itertools.pairwise"].contains n = false) (hQ : Q () s) : wpAny M A (letOwnedTupleGo tg (.ref it) u) Q E s := by
  unfold letOwnedTupleGo
  cases tg <;> first
    | exact wpAny_pure hQ
    | (cases u <;> first
        | exact wpAny_pure hQ
        | (refine wpAny_bind (wpAny_load ho ?_)
           rw [hc, hd]
           show wpAny M A (if (["enumerate", "zip", "dict_itemiterator", "dict_reverseitemiterator", "odict_iterator", "itertools.zip_longest", "itertools.pairwise"].contains n && vs[0]? == some (rawInt _)) = true then _ else _) Q E s
           rw [if_neg (by intro h; rw [hn, Bool.false_and] at h; cases h)]
           exact wpAny_pure hQ))
def Itl (K : PySem.W.Frag) (a : Addr) : It :=
  ⟨fun i H => ∃ xs x, SqL K H a xs ∧ xs[i]? = some x, fun i H x H' => H' = H ∧ ∀ xs, SqL K H a xs → xs[i]? = some x, fun i H => ∃ xs, SqL K H a xs ∧ xs.length ≤ i⟩
def Itr (lo : Int) (n : Nat) : It := ⟨fun i _ => i < n, fun i H x H' => H' = H ∧ x = .int (lo + i), fun i _ => n ≤ i⟩
theorem turn_list {P : Program} {w : World} {K : PySem.W.Frag} {tg : Expr} (a it : Addr) : Turn P w K tg (Itl K a) [it] it (fun i h => h.IsListIter it a i) where
  mem := by simp
  obj := fun i h st b hb => by
    have e : b = it := by simpa using hb
    subst e
    obtain ⟨o, e, c, d⟩ := st
    exact ⟨o, e, fun v z => by rw [d] at z; cases z⟩
  keep := fun i h h' st k => st.at fun o e => k it (by simp) o e
  item := by
    intro X hP hw hK hc i pins s σ H E I hf st hg
    subst hP hw hK
    obtain ⟨xs, x, hq, hx⟩ := hg
    obtain ⟨its, rv, p, hz⟩ := I.list hq
    obtain ⟨u, hu, ru⟩ := rv.get hx
    obtain ⟨f0, f1, f2, f3, f4, f5⟩ := hf it (by simp)
    refine wpAny_pyNext_list_item st p.isList (x := u) (by simpa using hu) fun h' st' sb => ?_
    have I1 : Inv X pins σ H { s with heap := h' } := I.turned (t' := s.toks) (fun b o hb e => (sb.2 b hb).trans e) f0 f1 f3 f4 f5
    obtain ⟨o, e, c, d⟩ := id st'
    exact ⟨u, rfl, go_of (s := { s with heap := h' }) e c d (by decide) ⟨x, H, I1, ru, ⟨rfl, fun ys hy => by rw [I.list_inj hy hq]; exact hx⟩, st', fun b hb => (hf b hb).1⟩⟩
  done := by
    intro X hP hw hK hc i pins s σ H E I hf st hg
    subst hP hw hK
    obtain ⟨xs, hq, hx⟩ := hg
    obtain ⟨its, rv, p, hz⟩ := I.list hq
    obtain ⟨f0, f1, f2, f3, f4, f5⟩ := hf it (by simp)
    have hl := rv.length
    exact wpAny_pyNext_list_end (I.ok.hd hc) st p.isList (by simp; omega) fun h' eb => ⟨rfl, I.turned (t' := s.toks) (fun b o hb e => eb b o hb e) f0 f1 f3 f4 f5⟩
  self := fun _ _ _ _ _ st h => wpAny_pyIter_listiter st h
theorem turn_range {P : Program} {w : World} {K : PySem.W.Frag} {tg : Expr} (it : Addr) (lo : Int) (n : Nat) : Turn P w K tg (Itr lo n) [it] it (fun i h => IsRangeIter h it (lo + (i : Nat) * 1) ((n : Int) - (i : Nat)) 1) where
  mem := by simp
  obj := fun i h st b hb => by
    have e : b = it := by simpa using hb
    subst e
    exact ⟨_, st, fun v z => by
      have z' : Data.fields _ = Data.cell v := z
      cases z'⟩
  keep := fun i h h' st k => k it (by simp) _ st
  item := by
    intro X hP hw hK hc i pins s σ H E I hf st hg
    subst hP hw hK
    obtain ⟨f0, f1, f2, f3, f4, f5⟩ := hf it (by simp)
    have W := Walks.range (prog := X.prog) (w := X.w) (I.ok.hd hc) it lo 1 n
    refine W.item i s _ _ hg st fun v h' tk hv st' kk => ?_
    obtain ⟨t, rfl⟩ := hv
    have I1 : Inv X pins σ H { s with heap := h', toks := tk } := I.turned (fun b o hb e => kk b o (by simpa using hb) e) f0 f1 f3 f4 f5
    refine ⟨_, rfl, go_of (s := { s with heap := h', toks := tk }) (n := "range_iterator") st' rfl rfl (by decide) ⟨.int (lo + i), H, I1, ⟨t, ?_⟩, ⟨rfl, rfl⟩, st', fun b hb => (hf b hb).1⟩⟩
    rw [Int.mul_one]
  done := by
    intro X hP hw hK hc i pins s σ H E I hf st hg
    subst hP hw hK
    obtain ⟨f0, f1, f2, f3, f4, f5⟩ := hf it (by simp)
    exact wpAny_pyNext_range_end (I.ok.hd hc) st (by have : n ≤ i := hg; omega) fun h' eb => ⟨rfl, I.turned (t' := s.toks) (fun b o hb e => eb b o hb e) f0 f1 f3 f4 f5⟩
  self := fun _ _ _ _ _ st h => wpAny_pyIter_rangeiter st h
end L2
namespace L2
open PySem PySem.Spec PyProof.Rows
section
variable {X : Cx} {tg : Expr}
def iList (K : PySem.W.Frag) (tl : TE) : TI := fun σ H R => tl σ H fun x H1 => ∃ a, x = .ref a ∧ (∃ xs, SqL K H1 a xs) ∧ R (Itl K a) H1
theorem pi_list {l : Expr} {tl : TE} (hl : PE X l tl) : PI X tg l (iList X.K tl) := by
  intro pins s σ H R I h
  refine thn (hl pins s σ H _ I h) fun v s1 hq__ => ?_
  obtain ⟨x, H1, I1, r1, q1⟩ := hq__
  obtain ⟨a, e, ⟨xs, hq⟩, q⟩ := q1
  subst e
  cases r1
  obtain ⟨its, rv, p, hz⟩ := I1.list hq
  refine wpAny_pyIter_list p.isList ?_
  refine ⟨s1.heap.objs.size, [s1.heap.objs.size], _, _, H1, rfl, I1.kept (t' := s1.toks) fun b o e => Heap.get?_push_of_some _ e, turn_list a _, ⟨_, Heap.get?_push_size _ rfl, rfl, rfl⟩, fun b hb => ?_, q⟩
  have e : b = s1.heap.objs.size := by simpa using hb
  subst e
  exact I1.fpOk (Nat.le_refl _) (I1.hok.fresh (Nat.le_refl _))
theorem range_it {pins : List (Addr × Obj)} {σ : St} {H : Hp} {s : Shared} {R : It → Hp → Prop} {E : Value → Shared → Prop} {lo hi : Int} {t u v : Tok} {tk : Nat} (I : Inv X pins σ H s) (h1 : -(2 ^ 62) ≤ lo) (h2 : lo < 2 ^ 62) (h3 : -(2 ^ 62) ≤ hi) (h4 : hi < 2 ^ 62)
    (q : R (Itr lo (hi - lo).toNat) H) : wpAny (model X.prog X.w) X.A (pyIter (.ref s.heap.objs.size)) (PIE X pins σ tg R) E { s with heap := s.heap.push { cls := .type "range", data := .fields #[.int lo t, .int hi u, .int 1 v] }, toks := tk } := by
  refine wpAny_pyIter_range (IsRange.new ..) (small_one h1 h2 h3 h4) ?_
  have I1 : Inv X pins σ H { s with heap := s.heap.push { cls := .type "range", data := .fields #[.int lo t, .int hi u, .int 1 v] }, toks := tk } := I.kept fun b o e => Heap.get?_push_of_some _ e
  refine ⟨(s.heap.push { cls := .type "range", data := .fields #[.int lo t, .int hi u, .int 1 v] }).objs.size, [(s.heap.push { cls := .type "range", data := .fields #[.int lo t, .int hi u, .int 1 v] }).objs.size], _, _, H, rfl,
    I1.kept (t' := tk) fun b o e => Heap.get?_push_of_some _ e, turn_range _ lo (hi - lo).toNat, ?_, fun b hb => ?_, q⟩
  · have e1 : lo + ((0 : Nat) : Int) * 1 = lo := by simp
    have e2 : (((hi - lo).toNat : Nat) : Int) - ((0 : Nat) : Int) = Builtin.Range.rangeSize lo hi 1 := by rw [rangeSize_one]; split <;> omega
    show IsRangeIter _ _ (lo + ((0 : Nat) : Int) * 1) ((((hi - lo).toNat : Nat) : Int) - ((0 : Nat) : Int)) 1
    rw [e1, e2]
    exact Heap.get?_push_size _ rfl
  · have e : b = (s.heap.push { cls := .type "range", data := .fields #[.int lo t, .int hi u, .int 1 v] }).objs.size := by simpa using hb
    subst e
    exact I1.fpOk (Nat.le_refl _) (I1.hok.fresh (Nat.le_refl _))
def iRng1 (ta : TA) : TI := fun σ H R => ta σ H fun vs H1 => ∃ j : Int, vs = [.int j] ∧ -(2 ^ 62) ≤ j ∧ j < 2 ^ 62 ∧ R (Itr 0 j.toNat) H1
theorem pi_range1 {a : Expr} {ta : TA} {p pos : Pos} (hg : Gl X "range") (hm : X.mg "range" = none) (ha : PA X [a] ta) (hs : starEach [a] X.env = [(false, eval a X.env)] := by rfl) : PI X tg (.Call (.Name "range" p) [a] [] pos) (iRng1 ta) := by
  intro pins s σ H R I h
  refine Call_ (ld_blt I hg hm boot_range (PyProof.Rows.callWith_type1 (thn (ha pos pins s σ H _ I h) fun us s1 hq__ => ?_) hs rfl))
  obtain ⟨vs, H1, I1, r1, q1⟩ := hq__
  obtain ⟨j, e, q1, q2, q⟩ := q1
  subst e
  cases r1 with
  | cons r rr =>
    cases rr
    obtain ⟨t, rfl⟩ := r
    exact call_range_1 (range_it I1 (by omega) (by omega) q1 q2 (by simpa using q))
def tFor (wi : TI) (g : TG) (tb : TS) : TS := fun D σ H => wi σ H fun J H1 => ∃ W : Nat → Nat → St → Hp → Prop, (∃ m, W 0 m σ H1) ∧ ∀ i m σ H, W i m σ H →
  (J.stop i H ∧ D.nx σ H) ∨ (J.go i H ∧ ∃ N : St → Hp → Prop, (∀ σ' H', N σ' H' → ∃ m', m' < m ∧ W (i + 1) m' σ' H') ∧ ∀ x H', J.yld i H x H' → g x σ H' fun σ2 H2 => tb { D with nx := N, ct := N, bk := D.nx } σ2 H2)
def pinsAt (fp : List Addr) (h : Heap) : List (Addr × Obj) := fp.filterMap fun b => (h.get? b).map fun o => (b, o)
theorem mem_pinsAt {fp : List Addr} {h : Heap} {b : Addr} {o : Obj} (hb : b ∈ fp) (e : h.get? b = some o) : (b, o) ∈ pinsAt fp h := List.mem_filterMap.mpr ⟨b, hb, by rw [e]; rfl⟩
theorem of_pinsAt {fp : List Addr} {h : Heap} {p : Addr × Obj} (hp : p ∈ pinsAt fp h) : p.1 ∈ fp ∧ h.get? p.1 = some p.2 := by
  obtain ⟨b, hb, e⟩ := List.mem_filterMap.mp hp
  cases q : h.get? b with
  | none => rw [q] at e; cases e
  | some o =>
    rw [q] at e
    have e' : (b, o) = p := Option.some.inj e
    subst e'
    exact ⟨hb, q⟩
theorem Inv.pinned {pins : List (Addr × Obj)} {σ : St} {H : Hp} {s : Shared} {fp : List Addr} (I : Inv X pins σ H s) (hf : ∀ b ∈ fp, FpOk X pins H b) (ho : ∀ b ∈ fp, ∃ o, s.heap.get? b = some o ∧ ∀ v, o.data ≠ .cell v) : Inv X (pins ++ pinsAt fp s.heap) σ H s :=
  I.pins_of fun p hp => (List.mem_append.mp hp).elim (fun z => I.pin p (List.mem_append_right _ z)) fun z => by
    obtain ⟨hb, e⟩ := of_pinsAt z
    obtain ⟨f0, f1, f2, _⟩ := hf p.1 hb
    obtain ⟨o, e', d⟩ := ho p.1 hb
    rw [e] at e'; cases e'
    exact ⟨e, f0, f1, f2, d⟩
theorem Inv.unpinned {pins pl : List (Addr × Obj)} {σ : St} {H : Hp} {s : Shared} (I : Inv X (pins ++ pl) σ H s) : Inv X pins σ H s := I.pins_of fun p hp => I.pin p (List.mem_append_right _ (List.mem_append_left _ hp))
theorem ps_for {iter : Expr} {body : List Stmt} {wi : TI} {g : TG} {tb : TS} {pos : Pos} (hp : PassesOwn (model X.prog X.w) X.A X.env X.xe) (hc : X.calm = true) (hi : PI X tg iter wi) (hg : PG X tg g) (hb : PSs X body tb)
    (hs : ∀ x, foldedSetIterable iter X.env x = pure x := by intro _; rfl) : PS X (.For tg iter body [] pos) (tFor wi g tb) := by
  intro pins s σ H D I h
  refine wpAny_For (thn (hi pins s σ H _ I h) fun v s1 h1 => thn h1 fun itv s2 h2 => ?_) hs
  obtain ⟨it, fp, tn, J, H2, e, I2, T, st2, f2, W, ⟨m0, w0⟩, turn⟩ := h2
  subst e
  have stat : ∀ {H' : Hp}, (∀ b ∈ fp, H' b = none) → ∀ b ∈ fp, FpOk X pins H' b := fun hn b hb => ⟨hn b hb, (f2 b hb).2⟩
  refine codeAny_forLoop_any (fun n s' => ∃ i σ' H', Inv X pins σ' H' s' ∧ tn i s'.heap ∧ (∀ b ∈ fp, H' b = none) ∧ W i n σ' H') ?_ m0 ⟨0, σ, H2, I2, st2, fun b hb => (f2 b hb).1, w0⟩
  rintro n s3 ⟨i, σ3, H3, I3, st3, fr3, w3⟩
  rcases turn i n σ3 H3 w3 with ⟨stop, qn⟩ | ⟨go, N, hN, step⟩
  · refine wpAny_passesOwn hp (thn (T.done X rfl rfl rfl hc i pins s3 σ3 H3 X.xe I3 (stat fr3) st3 stop) fun r s4 hq__ => ?_)
    obtain ⟨hr, I4⟩ := hq__
    subst hr
    exact wpAny_execs_nil ⟨σ3, H3, I4, qn⟩
  · refine wpAny_passesOwn hp (thn (T.item X rfl rfl rfl hc i pins s3 σ3 H3 X.xe I3 (stat fr3) st3 go) fun r s4 hq__ => ?_)
    obtain ⟨u, hr, h4⟩ := hq__
    subst hr
    refine wpAny_passesOwn hp (thn h4 fun _ s5 hq__ => ?_)
    obtain ⟨x, H5, I5, r5, y5, st5, fr5⟩ := hq__
    have I5' := I5.pinned (stat fr5) (T.obj _ _ st5)
    refine wpAny_passesOwn hp (thn (hg _ s5 σ3 H5 x u _ I5' r5 (step x H5 y5)) fun _ s6 hq__ => ?_)
    obtain ⟨σ6, H6, I6, q6⟩ := hq__
    refine wpAny_passesOwn hp (thn (hb _ s6 σ6 H6 _ I6 q6) fun f s7 q7 => ?_)
    have again : ∀ {σ7 : St} {H7 : Hp}, Inv X (pins ++ pinsAt fp s5.heap) σ7 H7 s7 → N σ7 H7 → ∃ m, m < n ∧ ∃ i σ' H', Inv X pins σ' H' s7 ∧ tn i s7.heap ∧ (∀ b ∈ fp, H' b = none) ∧ W i m σ' H' := fun {σ7 H7} I7 n7 => by
      obtain ⟨m', hm, w7⟩ := hN σ7 H7 n7
      refine ⟨m', hm, i + 1, σ7, H7, I7.unpinned, T.keep _ _ _ st5 fun b hb o e => (I7.pin (b, o) (List.mem_append_right _ (List.mem_append_right _ (mem_pinsAt hb e)))).1, fun b hb => ?_, w7⟩
      obtain ⟨o, e, d⟩ := T.obj _ _ st5 b hb
      exact (I7.pin (b, o) (List.mem_append_right _ (List.mem_append_right _ (mem_pinsAt hb e)))).2.1
    cases f with
    | next => obtain ⟨σ7, H7, I7, n7⟩ := q7; exact again I7 n7
    | cont => obtain ⟨σ7, H7, I7, n7⟩ := q7; exact again I7 n7
    | brk => obtain ⟨σ7, H7, I7, q7⟩ := q7; exact ⟨σ7, H7, I7.unpinned, q7⟩
    | ret v => obtain ⟨x7, σ7, H7, I7, r7, q7⟩ := q7; exact ⟨x7, σ7, H7, I7.unpinned, r7, q7⟩
end
theorem for_list {K : PySem.W.Frag} {a : Addr} {xs : List V} {g : TG} {tb : TS} {D : Ends} {σ : St} {H : Hp} (Pv : Nat → St → Hp → Prop) (h0 : Pv 0 σ H) (hl : ∀ i σ H, i ≤ xs.length → Pv i σ H → SqL K H a xs)
    (hs : ∀ i x σ H, xs[i]? = some x → Pv i σ H → g x σ H fun σ2 H2 => tb { D with nx := Pv (i + 1), ct := Pv (i + 1), bk := D.nx } σ2 H2) (hd : ∀ σ H, Pv xs.length σ H → D.nx σ H) :
    ∃ W : Nat → Nat → St → Hp → Prop, (∃ m, W 0 m σ H) ∧ ∀ i m σ H, W i m σ H →
      ((Itl K a).stop i H ∧ D.nx σ H) ∨ ((Itl K a).go i H ∧ ∃ N : St → Hp → Prop, (∀ σ' H', N σ' H' → ∃ m', m' < m ∧ W (i + 1) m' σ' H') ∧ ∀ x H', (Itl K a).yld i H x H' → g x σ H' fun σ2 H2 => tb { D with nx := N, ct := N, bk := D.nx } σ2 H2) := by
  refine ⟨fun i m σ H => m = xs.length - i ∧ i ≤ xs.length ∧ Pv i σ H, ⟨xs.length, by simp, Nat.zero_le _, h0⟩, ?_⟩
  rintro i m σ H ⟨rfl, hi, p⟩
  have q := hl i σ H hi p
  by_cases hlt : i < xs.length
  · refine .inr ⟨⟨xs, xs[i], q, by simp [hlt]⟩, Pv (i + 1), fun σ' H' p' => ⟨xs.length - (i + 1), by omega, rfl, hlt, p'⟩, fun x H' y => ?_⟩
    obtain ⟨e, y⟩ := y
    subst e
    exact hs i x σ _ (y xs q) p
  · have e : i = xs.length := by omega
    subst e
    exact .inl ⟨⟨xs, q, Nat.le_refl _⟩, hd σ H p⟩
theorem for_range {lo : Int} {n : Nat} {g : TG} {tb : TS} {D : Ends} {σ : St} {H : Hp} (Pv : Nat → St → Hp → Prop) (h0 : Pv 0 σ H)
    (hs : ∀ i σ H, i < n → Pv i σ H → g (.int (lo + i)) σ H fun σ2 H2 => tb { D with nx := Pv (i + 1), ct := Pv (i + 1), bk := D.nx } σ2 H2) (hd : ∀ σ H, Pv n σ H → D.nx σ H) :
    ∃ W : Nat → Nat → St → Hp → Prop, (∃ m, W 0 m σ H) ∧ ∀ i m σ H, W i m σ H →
      ((Itr lo n).stop i H ∧ D.nx σ H) ∨ ((Itr lo n).go i H ∧ ∃ N : St → Hp → Prop, (∀ σ' H', N σ' H' → ∃ m', m' < m ∧ W (i + 1) m' σ' H') ∧ ∀ x H', (Itr lo n).yld i H x H' → g x σ H' fun σ2 H2 => tb { D with nx := N, ct := N, bk := D.nx } σ2 H2) := by
  refine ⟨fun i m σ H => m = n - i ∧ i ≤ n ∧ Pv i σ H, ⟨n, by simp, Nat.zero_le _, h0⟩, ?_⟩
  rintro i m σ H ⟨rfl, hi, p⟩
  by_cases hlt : i < n
  · refine .inr ⟨hlt, Pv (i + 1), fun σ' H' p' => ⟨n - (i + 1), by omega, rfl, hlt, p'⟩, fun x H' y => ?_⟩
    obtain ⟨e, y⟩ := y
    subst e y
    exact hs i σ _ hlt p
  · have e : i = n := by omega
    subst e
    exact .inl ⟨Nat.le_refl _, hd σ H p⟩
end L2
namespace L2
open PySem PySem.Spec PyProof.Rows
abbrev R2 := V → V → Hp → VK → Prop
def OpR (X : Cx) (f : Value → Value → Sem Value) (r : R2) : Prop :=
  ∀ (pins : List (Addr × Obj)) (s : Shared) (σ : St) (H : Hp) (x y : V) (v u : Value) (Q : VK), Inv X pins σ H s → RelV x v → RelV y u → r x y H Q →
    wpAny (model X.prog X.w) X.A (f v u) (EP X pins σ Q) X.xe s
def UnR (X : Cx) (f : Value → Sem Value) (r : V → Hp → VK → Prop) : Prop :=
  ∀ (pins : List (Addr × Obj)) (s : Shared) (σ : St) (H : Hp) (x : V) (v : Value) (Q : VK), Inv X pins σ H s → RelV x v → r x H Q →
    wpAny (model X.prog X.w) X.A (f v) (EP X pins σ Q) X.xe s
def CallR (X : Cx) (f : Value) (r : List V → Hp → VK → Prop) : Prop :=
  ∀ (pins : List (Addr × Obj)) (s : Shared) (σ : St) (H : Hp) (xs : List V) (us : List Value) (Q : VK), Inv X pins σ H s → Vals xs us → r xs H Q →
    wpAny (model X.prog X.w) X.A (call f us) (EP X pins σ Q) X.xe s
def tOp (r : R2) (ta tb : TE) : TE := fun σ H Q => ta σ H fun x H1 => tb σ H1 fun y H2 => r x y H2 Q
def tUn (r : V → Hp → VK → Prop) (ta : TE) : TE := fun σ H Q => ta σ H fun x H1 => r x H1 Q
inductive rIS (C : Int → Int → Prop) (g : Int → Int → V) (x y : V) (H : Hp) (Q : VK) : Prop
  | mk (i j : Int) (hx : x = .int i) (hy : y = .int j) (hc : C i j) (k : Q (g i j) H)
def rI (C : Int → Int → Prop) (g : Int → Int → V) : R2 := fun x y H Q => rIS C g x y H Q
inductive rI0S (g : Int → Int → V) (x y : V) (H : Hp) (Q : VK) : Prop
  | mk (i j : Int) (hx : x = .int i) (hy : y = .int j) (k : Q (g i j) H)
def rI0 (g : Int → Int → V) : R2 := fun x y H Q => rI0S g x y H Q
inductive rUS (g : Int → V) (x : V) (H : Hp) (Q : VK) : Prop
  | mk (i : Int) (h : x = .int i) (k : Q (g i) H)
def rU (g : Int → V) : V → Hp → VK → Prop := fun x H Q => rUS g x H Q
section
variable {X : Cx} {a b c : Expr} {ta tb tc : TE} {pos : Pos}
theorem binT (ha : PE X a ta) (hb : PE X b tb) {pins : List (Addr × Obj)} {s : Shared} {σ : St} {H : Hp} {R : V → V → Hp → Prop} (I : Inv X pins σ H s)
    (h : ta σ H fun x H1 => tb σ H1 fun y H2 => R x y H2) {Q : Value → Shared → Prop} {f : Value → Value → Sem Value}
    (hf : ∀ v u s2 x y H2, Inv X pins σ H2 s2 → RelV x v → RelV y u → R x y H2 → wpAny (model X.prog X.w) X.A (f v u) Q X.xe s2) :
    wpAny (model X.prog X.w) X.A (eval a X.env) (fun v s₁ => wpAny (model X.prog X.w) X.A (eval b X.env) (fun u s₂ => wpAny (model X.prog X.w) X.A (f v u) Q X.xe s₂) X.xe s₁) X.xe s := by
  refine thn (ha pins s σ H _ I h) fun v s1 hq__ => ?_
  obtain ⟨x, H1, I1, r1, q1⟩ := hq__
  refine thn (hb pins s1 σ H1 _ I1 q1) fun u s2 hq__ => ?_
  obtain ⟨y, H2, I2, r2, q2⟩ := hq__
  exact hf v u s2 x y H2 I2 r1 r2 q2
theorem pe_op {op : Operator} {r : R2} (ho : OpR X (binaryOp op) r) (ha : PE X a ta) (hb : PE X b tb) : PE X (.BinOp a op b pos) (tOp r ta tb) := by
  intro pins s σ H Q I h
  exact wpAny_BinOp (binT ha hb I h fun v u s2 x y H2 I2 rx ry q => ho pins s2 σ H2 x y v u Q I2 rx ry q)
theorem pe_un {op : UnaryOp} {r : V → Hp → VK → Prop} (ho : UnR X (unaryOp op) r) (ha : PE X a ta) : PE X (.UnaryOp op a pos) (tUn r ta) := by
  intro pins s σ H Q I h
  exact UnaryOp_ (thn (ha pins s σ H _ I h) fun v s1 ⟨x, H1, I1, r1, q1⟩ => ho pins s1 σ H1 x v Q I1 r1 q1)
theorem opI {f : Value → Value → Sem Value} {C : Int → Int → Prop} {g : Int → Int → Int}
    (rule : ∀ (i j : Int) (t u : Tok) (s : Shared) (Q : Value → Shared → Prop) (E : Value → Shared → Prop), C i j → Q (.int (g i j) s.toks) { s with toks := s.toks + 1 } → wpAny (model X.prog X.w) X.A (f (.int i t) (.int j u)) Q E s) :
    OpR X f (rI C fun i j => .int (g i j)) := by
  intro pins s σ H x y v u Q I rx ry h
  obtain ⟨i, j, rfl, rfl, hc, q⟩ := h
  obtain ⟨t, rfl⟩ := rx
  obtain ⟨t', rfl⟩ := ry
  exact rule i j t t' s _ _ hc ⟨.int (g i j), H, I.tok _, ⟨_, rfl⟩, q⟩
theorem opI0 {f : Value → Value → Sem Value} {g : Int → Int → Int}
    (rule : ∀ (i j : Int) (t u : Tok) (s : Shared) (Q : Value → Shared → Prop) (E : Value → Shared → Prop), Q (.int (g i j) s.toks) { s with toks := s.toks + 1 } → wpAny (model X.prog X.w) X.A (f (.int i t) (.int j u)) Q E s) :
    OpR X f (rI0 fun i j => .int (g i j)) := by
  intro pins s σ H x y v u Q I rx ry h
  obtain ⟨i, j, rfl, rfl, q⟩ := h
  obtain ⟨t, rfl⟩ := rx
  obtain ⟨t', rfl⟩ := ry
  exact rule i j t t' s _ _ ⟨.int (g i j), H, I.tok _, ⟨_, rfl⟩, q⟩
theorem opB0 {f : Value → Value → Sem Value} {g : Int → Int → Bool}
    (rule : ∀ (i j : Int) (t u : Tok) (s : Shared) (Q : Value → Shared → Prop) (E : Value → Shared → Prop), Q (.bool (g i j)) s → wpAny (model X.prog X.w) X.A (f (.int i t) (.int j u)) Q E s) :
    OpR X f (rI0 fun i j => .bl (g i j)) := by
  intro pins s σ H x y v u Q I rx ry h
  obtain ⟨i, j, rfl, rfl, q⟩ := h
  obtain ⟨t, rfl⟩ := rx
  obtain ⟨t', rfl⟩ := ry
  exact rule i j t t' s _ _ ⟨.bl (g i j), H, I, rfl, q⟩
def CDiv (i j : Int) : Prop := 0 < j ∧ j < 1073741824
def CPow (i j : Int) : Prop := 0 ≤ j ∧ j ≤ 1000000 ∧ i.natAbs < 2 ^ 64
def CMul (i j : Int) : Prop := (-(2 ^ 64) < i ∧ i < 2 ^ 64) ∨ (-(2 ^ 64) < j ∧ j < 2 ^ 64)
theorem CMul.ok {i j : Int} (h : CMul i j) : IntMulOk i j := by
  rcases h with ⟨h1, h2⟩ | ⟨h1, h2⟩
  · exact .of_left (intBits_le_64 h1 h2)
  · exact .of_right (intBits_le_64 h1 h2)
theorem op_add : OpR X (binaryOp .Add) (rI0 fun i j => .int (i + j)) := opI0 fun _ _ _ _ _ _ _ q => add_int q
theorem op_sub : OpR X (binaryOp .Sub) (rI0 fun i j => .int (i - j)) := opI0 fun _ _ _ _ _ _ _ q => sub_int q
theorem op_mul : OpR X (binaryOp .Mult) (rI CMul fun i j => .int (i * j)) := opI fun _ _ _ _ _ _ _ hc q => mul_int q hc.ok
theorem op_fdiv : OpR X (binaryOp .FloorDiv) (rI CDiv fun i j => .int (i / j)) := opI fun i j _ _ _ _ _ hc q => by
  have h1 : (0 : Int) < j := hc.1
  have h2 : j < 1073741824 := hc.2
  exact floordiv_int (by omega) (by rw [Int.fdiv_eq_ediv_of_nonneg i (by omega)]; exact q) (.inl (PyProof.noPylong_small (by omega)))
theorem op_mod : OpR X (binaryOp .Mod) (rI (fun _ j => 0 < j) fun i j => .int (i % j)) := opI fun i j _ _ _ _ _ hc q => by
  have h1 : (0 : Int) < j := hc
  exact mod_int' (by omega) (by rw [Int.fmod_eq_emod_of_nonneg i (by omega)]; exact q)
theorem op_pow : OpR X (binaryOp .Pow) (rI CPow fun i j => .int (i ^ j.toNat)) := opI fun _ _ _ _ _ _ _ hc q => pow_int_small hc.1 hc.2.1 hc.2.2 q
theorem unI {f : Value → Sem Value} {g : Int → Int}
    (rule : ∀ (i : Int) (t : Tok) (s : Shared) (Q : Value → Shared → Prop) (E : Value → Shared → Prop), Q (.int (g i) s.toks) { s with toks := s.toks + 1 } → wpAny (model X.prog X.w) X.A (f (.int i t)) Q E s) :
    UnR X f (rU fun i => .int (g i)) := by
  intro pins s σ H x v Q I rx h
  obtain ⟨i, rfl, q⟩ := h
  obtain ⟨t, rfl⟩ := rx
  exact rule i t s _ _ ⟨.int (g i), H, I.tok _, ⟨_, rfl⟩, q⟩
theorem un_neg : UnR X (unaryOp .USub) (rU fun i => .int (-i)) := unI fun _ _ _ _ _ q => neg_int q
end
def scal : V → V → Bool
  | .non, .non => true | .non, .int _ => true | .int _, .non => true | .non, .bl _ => true | .bl _, .non => true | .non, .str _ => true | .str _, .non => true
  | .int _, .int _ => true | .bl _, .bl _ => true | .str _, .str _ => true | .byt _, .byt _ => true
  | .int _, .str _ => true | .str _, .int _ => true | .bl _, .str _ => true | .str _, .bl _ => true
  | _, _ => false
def rEq : R2 := fun x y H Q => scal x y = true ∧ Q (.bl (decide (x = y))) H
def rNe : R2 := fun x y H Q => scal x y = true ∧ Q (.bl (!decide (x = y))) H
theorem dec_int {i j : Int} : decide (V.int i = V.int j) = (i == j) := by
  rw [Bool.eq_iff_iff]
  simp
theorem dec_bl {i j : Bool} : decide (V.bl i = V.bl j) = (i == j) := by
  rw [Bool.eq_iff_iff]
  simp
theorem dec_str {i j : Str} : decide (V.str i = V.str j) = (i == j) := by
  rw [Bool.eq_iff_iff]
  simp
theorem dec_byt {i j : Array UInt8} : decide (V.byt i = V.byt j) = (i.toList == j.toList) := by
  rw [Bool.eq_iff_iff]
  cases i
  cases j
  simp
section
variable {X : Cx} {a b c : Expr} {ta tb tc : TE} {pos : Pos}
theorem fin_bl {pins : List (Addr × Obj)} {σ : St} {H : Hp} {s : Shared} {Q : VK} {k k' : Bool} (I : Inv X pins σ H s) (q : Q (.bl k) H) (e : k = k') : EP X pins σ Q (.bool k') s := by
  subst e
  exact ⟨.bl k, H, I, rfl, q⟩
theorem op_eq : OpR X (compareOp .Eq) rEq := by
  intro pins s σ H x y v u Q I rx ry h
  obtain ⟨hs, q⟩ := h
  cases x with
  | non =>
    cases rx
    cases y with
    | non => cases ry; exact PySem.EqNone.eq_none_none (fin_bl I q (by simp))
    | bl j => cases ry; exact PySem.EqNone.eq_none_bool (fin_bl I q (by simp))
    | int j => obtain ⟨t', rfl⟩ := ry; exact PySem.EqNone.eq_none_int (fin_bl I q (by simp))
    | str j => obtain ⟨t', rfl⟩ := ry; exact PySem.EqNone.eq_none_str (fin_bl I q (by simp))
    | _ => exact absurd (show false = true from hs) Bool.false_ne_true
  | bl i =>
    cases rx
    cases y with
    | non => cases ry; exact PySem.EqNone.eq_bool_none (fin_bl I q (by simp))
    | bl j => cases ry; exact eq_bool (fin_bl I q dec_bl)
    | str j => obtain ⟨t', rfl⟩ := ry; exact PySem.EqMixed.eq_bool_str (fin_bl I q (by simp))
    | _ => exact absurd (show false = true from hs) Bool.false_ne_true
  | int i =>
    obtain ⟨t, rfl⟩ := rx
    cases y with
    | non => cases ry; exact PySem.EqNone.eq_int_none (fin_bl I q (by simp))
    | int j => obtain ⟨t', rfl⟩ := ry; exact eq_int (fin_bl I q dec_int)
    | str j => obtain ⟨t', rfl⟩ := ry; exact PySem.EqMixed.eq_int_str (fin_bl I q (by simp))
    | _ => exact absurd (show false = true from hs) Bool.false_ne_true
  | str i =>
    obtain ⟨t, rfl⟩ := rx
    cases y with
    | non => cases ry; exact PySem.EqNone.eq_str_none (fin_bl I q (by simp))
    | bl j => cases ry; exact PySem.EqMixed.eq_str_bool (fin_bl I q (by simp))
    | int j => obtain ⟨t', rfl⟩ := ry; exact PySem.EqMixed.eq_str_int (fin_bl I q (by simp))
    | str j => obtain ⟨t', rfl⟩ := ry; exact eq_str (fin_bl I q dec_str)
    | _ => exact absurd (show false = true from hs) Bool.false_ne_true
  | byt i =>
    obtain ⟨t, rfl⟩ := rx
    cases y with
    | byt j => obtain ⟨t', rfl⟩ := ry; exact PySem.W.eq_bytes (fin_bl I q dec_byt)
    | _ => exact absurd (show false = true from hs) Bool.false_ne_true
  | _ => cases y <;> exact absurd (show false = true from hs) Bool.false_ne_true
theorem op_ne : OpR X (compareOp .NotEq) rNe := by
  intro pins s σ H x y v u Q I rx ry h
  obtain ⟨hs, q⟩ := h
  cases x with
  | non =>
    cases rx
    cases y with
    | non => cases ry; exact PySem.EqNone.ne_none_none (fin_bl I q (by simp))
    | bl j => cases ry; exact PySem.EqNone.ne_none_bool (fin_bl I q (by simp))
    | int j => obtain ⟨t', rfl⟩ := ry; exact PySem.EqNone.ne_none_int (fin_bl I q (by simp))
    | str j => obtain ⟨t', rfl⟩ := ry; exact PySem.EqNone.ne_none_str (fin_bl I q (by simp))
    | _ => exact absurd (show false = true from hs) Bool.false_ne_true
  | bl i =>
    cases rx
    cases y with
    | non => cases ry; exact PySem.EqNone.ne_bool_none (fin_bl I q (by simp))
    | bl j => cases ry; exact ne_bool (fin_bl I q (congrArg not dec_bl))
    | str j => obtain ⟨t', rfl⟩ := ry; exact PySem.EqMixed.ne_bool_str (fin_bl I q (by simp))
    | _ => exact absurd (show false = true from hs) Bool.false_ne_true
  | int i =>
    obtain ⟨t, rfl⟩ := rx
    cases y with
    | non => cases ry; exact PySem.EqNone.ne_int_none (fin_bl I q (by simp))
    | int j => obtain ⟨t', rfl⟩ := ry; exact ne_int (fin_bl I q (congrArg not dec_int))
    | str j => obtain ⟨t', rfl⟩ := ry; exact PySem.EqMixed.ne_int_str (fin_bl I q (by simp))
    | _ => exact absurd (show false = true from hs) Bool.false_ne_true
  | str i =>
    obtain ⟨t, rfl⟩ := rx
    cases y with
    | non => cases ry; exact PySem.EqNone.ne_str_none (fin_bl I q (by simp))
    | bl j => cases ry; exact PySem.EqMixed.ne_str_bool (fin_bl I q (by simp))
    | int j => obtain ⟨t', rfl⟩ := ry; exact PySem.EqMixed.ne_str_int (fin_bl I q (by simp))
    | str j => obtain ⟨t', rfl⟩ := ry; exact ne_str (fin_bl I q (congrArg not dec_str))
    | _ => exact absurd (show false = true from hs) Bool.false_ne_true
  | byt i =>
    obtain ⟨t, rfl⟩ := rx
    cases y with
    | byt j => obtain ⟨t', rfl⟩ := ry; exact PySem.W.ne_bytes (fin_bl I q (congrArg not dec_byt))
    | _ => exact absurd (show false = true from hs) Bool.false_ne_true
  | _ => cases y <;> exact absurd (show false = true from hs) Bool.false_ne_true
theorem op_lt : OpR X (compareOp .Lt) (rI0 fun i j => .bl (decide (i < j))) := opB0 fun _ _ _ _ _ _ _ q => lt_int q
theorem op_le : OpR X (compareOp .LtE) (rI0 fun i j => .bl (decide (i ≤ j))) := opB0 fun _ _ _ _ _ _ _ q => le_int q
theorem op_gt : OpR X (compareOp .Gt) (rI0 fun i j => .bl (decide (j < i))) := opB0 fun _ _ _ _ _ _ _ q => gt_int q
theorem op_in_str : OpR X (compareOp .In) (fun x y H Q => ∃ i j, x = .str i ∧ y = .str j ∧ Q (.bl (!(Builtin.Str.occurrences j i 0 j.length 1).isEmpty)) H) := by
  intro pins s σ H x y v u Q I rx ry h
  obtain ⟨i, j, rfl, rfl, q⟩ := h
  obtain ⟨t, rfl⟩ := rx
  obtain ⟨t', rfl⟩ := ry
  exact in_str (fin_bl I q rfl)
theorem op_isN : OpR X (compareOp .Is) (fun x y H Q => y = .non ∧ Q (.bl (decide (x = .non))) H) := by
  intro pins s σ H x y v u Q I rx ry h
  obtain ⟨rfl, q⟩ := h
  cases ry
  refine is_none_gen (fin_bl I q ?_)
  cases x <;> first
    | (cases rx; rfl)
    | (obtain ⟨t, rfl⟩ := rx; rfl)
theorem op_notN : OpR X (compareOp .IsNot) (fun x y H Q => y = .non ∧ Q (.bl (!decide (x = .non))) H) := by
  intro pins s σ H x y v u Q I rx ry h
  obtain ⟨rfl, q⟩ := h
  cases ry
  refine isnot_none_gen (fin_bl I q ?_)
  cases x <;> first
    | (cases rx; rfl)
    | (obtain ⟨t, rfl⟩ := rx; rfl)
theorem op_notin_str : OpR X (compareOp .NotIn) (fun x y H Q => ∃ i j, x = .str i ∧ y = .str j ∧ Q (.bl (!(!(Builtin.Str.occurrences j i 0 j.length 1).isEmpty))) H) := by
  intro pins s σ H x y v u Q I rx ry h
  obtain ⟨i, j, rfl, rfl, q⟩ := h
  obtain ⟨t, rfl⟩ := rx
  obtain ⟨t', rfl⟩ := ry
  exact notIn_str (fin_bl I q rfl)
theorem OpR.or {f : Value → Value → Sem Value} {r r' : R2} (h : OpR X f r) (h' : OpR X f r') : OpR X f (fun x y H Q => r x y H Q ∨ r' x y H Q) := by
  intro pins s σ H x y v u Q I rx ry q
  rcases q with q | q
  · exact h pins s σ H x y v u Q I rx ry q
  · exact h' pins s σ H x y v u Q I rx ry q
theorem nomark (b : Expr) {op : CmpOp} (h : op ≠ .In := by decide) (h2 : op ≠ .NotIn := by decide) : behindInMarks op b = false := by
  have e1 : (op == CmpOp.In) = false := by cases op <;> first | rfl | exact absurd rfl h
  have e2 : (op == CmpOp.NotIn) = false := by cases op <;> first | rfl | exact absurd rfl h2
  cases b <;> simp [behindInMarks, e1, e2]
theorem pe_cmpR {op : CmpOp} {r : R2} (ho : OpR X (compareOp op) r) (ha : PE X a ta) (hb : PE X b tb) (hm : behindInMarks op b = false) : PE X (.Compare a [op] [b] pos) (tOp r ta tb) := by
  intro pins s σ H Q I h
  exact wpAny_Compare1 (binT ha hb I h fun v u s2 x y H2 I2 rx ry q => ho pins s2 σ H2 x y v u Q I2 rx ry q) hm
def tTest (t : TE) : TT := fun σ H Q => t σ H fun x H' => ∃ k, x = .bl k ∧ Q k H'
theorem pt_cmpR {op : CmpOp} {r : R2} (ho : OpR X (compareOp op) r) (ha : PE X a ta) (hb : PE X b tb) (hm : behindInMarks op b = false) : PT X (.Compare a [op] [b] pos) (tTest (tOp r ta tb)) := by
  intro pins s σ H Q I h
  refine wpAny_isTrue_Compare1 (thn (ha pins s σ H _ I h) fun v s1 ⟨x, H1, I1, r1, q1⟩ => thn (hb pins s1 σ H1 _ I1 q1) fun u s2 ⟨y, H2, I2, r2, q2⟩ =>
    thn (ho pins s2 σ H2 x y v u _ I2 r1 r2 q2) fun c s3 ⟨z, H3, I3, r3, k, e, q3⟩ => ?_) hm
  subst e
  cases r3
  exact wpAny_truthy_bool ⟨H3, I3, q3⟩
theorem line63 : (sizeLine : Nat) < 2 ^ 63 := by rw [sizeLine_eq]; decide
theorem op_add_str : OpR X (binaryOp .Add) (fun x y H Q => ∃ i j, x = .str i ∧ y = .str j ∧ i.length + j.length ≤ sizeLine ∧ Q (.str (i ++ j)) H) := by
  intro pins s σ H x y v u Q I rx ry h
  obtain ⟨i, j, rfl, rfl, hz, q⟩ := h
  obtain ⟨t, rfl⟩ := rx
  obtain ⟨t', rfl⟩ := ry
  exact add_str (fun t' tk => ⟨.str (i ++ j), H, I.tok _, ⟨_, rfl⟩, q⟩) hz
def PlainIxT (b : Expr) : Prop := ∀ o i, subscripted b false o i = operate [o, i] (getItem o i)
theorem vals1 {x : V} {us : List Value} (r : Vals [x] us) : ∃ u, us = [u] ∧ RelV x u := by
  cases r with
  | cons r1 r2 => cases r2; exact ⟨_, rfl, r1⟩
theorem vals2 {x y : V} {us : List Value} (r : Vals [x, y] us) : ∃ u w', us = [u, w'] ∧ RelV x u ∧ RelV y w' := by
  cases r with
  | cons r1 r2 =>
    cases r2 with
    | cons r3 r4 => cases r4; exact ⟨_, _, rfl, r1, r3⟩
theorem call_max2 (hc : X.calm = true) : CallR X (.builtin "max") (fun xs H Q => ∃ i j, xs = [.int i, .int j] ∧ Q (.int (if j > i then j else i)) H) := by
  intro pins s σ H xs us Q I r h
  obtain ⟨i, j, rfl, q⟩ := h
  obtain ⟨u, w', rfl, ⟨t, rfl⟩, ⟨t', rfl⟩⟩ := vals2 r
  refine max_two_ints (I.ok.hd hc) fun h' tk k => ⟨_, H, I.kept k, ?_, q⟩
  by_cases hj : j > i
  · rw [if_pos hj, if_pos hj]; exact ⟨_, rfl⟩
  · rw [if_neg hj, if_neg hj]; exact ⟨_, rfl⟩
def LenV (K : PySem.W.Frag) (x : V) (H : Hp) (n : Nat) : Prop :=
  match x with
  | .str y => y.length ≤ sizeLine ∧ n = y.length
  | .byt y => y.size ≤ sizeLine ∧ n = y.size
  | .ref p => (∃ xs, SqL K H p xs ∧ n = xs.length) ∨ ∃ xs, SqT K H p xs ∧ n = xs.length
  | _ => False
theorem call_len : CallR X (.builtin "len") (fun xs H Q => ∃ x n, xs = [x] ∧ LenV X.K x H n ∧ Q (.int n) H) := by
  intro pins s σ H xs us Q I r h
  obtain ⟨x, n, rfl, e, q⟩ := h
  obtain ⟨u, rfl, rx⟩ := vals1 r
  have hl := line63
  have hs : sizeLine = 16777216 := sizeLine_eq
  cases x with
  | str y =>
    obtain ⟨t, rfl⟩ := rx
    obtain ⟨hy, e'⟩ : y.length ≤ sizeLine ∧ n = y.length := e
    subst e'
    exact len_str (by omega) ⟨.int _, H, I.tok _, ⟨_, rfl⟩, q⟩
  | byt y =>
    obtain ⟨t, rfl⟩ := rx
    obtain ⟨hy, e'⟩ : y.size ≤ sizeLine ∧ n = y.size := e
    subst e'
    exact PySem.W.len_bytes (by omega) ⟨.int _, H, I.tok _, ⟨_, rfl⟩, q⟩
  | ref p =>
    cases rx
    have e' : (∃ xs, SqL X.K H p xs ∧ n = xs.length) ∨ ∃ xs, SqT X.K H p xs ∧ n = xs.length := e
    rcases e' with ⟨xs, hx, e'⟩ | ⟨xs, hx, e'⟩
    · subst e'
      obtain ⟨its, r', pl, hz⟩ := I.list hx
      have hlen := r'.length
      exact Calls.call_len_list pl.isList (by simp only [List.size_toArray]; omega) ⟨.int xs.length, H, I.tok _, ⟨_, by simp only [List.size_toArray]; rw [hlen]⟩, q⟩
    · subst e'
      obtain ⟨its, r', pl, hz⟩ := I.tuple hx
      have hlen := r'.length
      exact len_tuple pl (by simp only [List.size_toArray]; omega) ⟨.int xs.length, H, I.tok _, ⟨_, by simp only [List.size_toArray]; rw [hlen]⟩, q⟩
  | _ => exact (show False from e).elim
end
end L2
namespace L2
open PySem PySem.Spec PyProof.Rows
structure ObjM (h : Heap) (x dx C : Addr) (mA : Str → Option Value) : Prop where
  obj : h.get? x = some (PySem.W.instObj C dx)
  ns : h.Ns1 dx mA
  ne : dx ≠ x
theorem lookIn_ns {h : Heap} {dx : Addr} {mA : Str → Option Value} (n : h.Ns1 dx mA) : ∃ od, h.get? dx = some od ∧ ∀ name, PySem.W.lookIn name od = some (mA name) := by
  obtain ⟨o, es, ep, ho, hd, hk, _, hm⟩ := n
  refine ⟨o, ho, fun name => ?_⟩
  have e := hm name
  unfold nsFind findBy at e
  rw [← Array.find?_toList] at e
  unfold PySem.W.lookIn
  rw [hd]
  dsimp only
  split
  · rename_i y q
    rw [q] at e
    exact congrArg some e
  · rename_i q
    rw [q] at e
    have a : es.toList.any (·.refKey) = false := by
      rw [List.any_eq_false]
      intro y hy
      obtain ⟨z, t, hkey⟩ := hk y (Array.mem_toList_iff.mp hy)
      simp [DictEntry.refKey, hkey]
    have a' : ¬ es.toList.any (·.refKey) = true := by rw [a]; exact Bool.false_ne_true
    rw [if_neg a']
    exact congrArg some e
theorem ObjM.look {h : Heap} {x dx C : Addr} {mA : Str → Option Value} (I : ObjM h x dx C mA) : ∃ od, PySem.W.InstAt h x (PySem.W.instObj C dx) C (some od) ∧ ∀ name, PySem.W.lookIn name od = some (mA name) :=
  let ⟨od, ho, hl⟩ := lookIn_ns I.ns
  ⟨od, ⟨I.obj, rfl, rfl, ho⟩, hl⟩
section
variable {prog : Program} {w : World} {A : Around} {E : Value → Shared → Prop} {s : Shared} {K : PySem.W.Frag} {x dx C f : Addr} {mA : Str → Option Value} {name : Str} {v : Value}
theorem get_map {expr : Bool} {Q : Value → Shared → Prop} (X : K.In s.heap) (I : ObjM s.heap x dx C mA) (hg : PySem.W.plainGet K C name = true) (hh : PySem.W.hasDictIn K C = true)
    (ha : PySem.W.findIn K (.ref C) name = some none) (hv : mA name = some v) (hv' : PySem.W.handedIn v = true) (h : Q v { s with toks := s.toks + 1 }) :
    wpAny (model prog w) A (getAttr (.ref x) name expr) Q E s := by
  obtain ⟨od, J, hl⟩ := I.look
  exact PySem.W.get_value X J (PySem.W.plainGet_of hg).1 (PySem.W.findObj_own hh ha rfl (by rw [hl, hv])) hv' h
theorem get_meth {pl : Sem Bool} {Q : Value × List Value → Shared → Prop} (X : K.In s.heap) (I : ObjM s.heap x dx C mA) (hg : PySem.W.plainGet K C name = true)
    (hf : PySem.W.findIn K (.ref C) name = some (some (.ref f))) (ht : PySem.W.isFn K (.ref f) = true) (hv : mA name = none) (h : Q (.ref f, [.ref x]) s) :
    wpAny (model prog w) A (getMethod (.ref x) name pl) Q E s := by
  obtain ⟨od, J, hl⟩ := I.look
  exact PySem.W.method_fn X J (PySem.W.plainGet_of hg).1 (PySem.W.plainGet_of hg).2 hf (beq_iff_eq.mp ht) (by show (PySem.W.lookIn name od).map (·.isSome) = some false; rw [hl, hv]; rfl) h
theorem set_map {ns : List Str} {Q : Unit → Shared → Prop} (X : K.In s.heap) (I : ObjM s.heap x dx C mA)
    (hs : PySem.W.findIn K (.ref C) "__setattr__" = some (some (.builtin "object.__setattr__"))) (hp : PySem.W.plainOver K C = true) (ht : PySem.W.takerIn K C name = some none) (hh : PySem.W.hasDictIn K C = true)
    (hw : PySem.Within mA ns) (hsz : ns.length ≤ sizeLine)
    (h : ∀ h', ObjM h' x dx C (fun y => if y = name then some v else mA y) → Heap.SameBut dx s.heap h' → Q () { s with heap := h', toks := s.toks + 2 }) :
    wpAny (model prog w) A (setAttr (.ref x) name v) Q E s := by
  obtain ⟨od, J, hl⟩ := I.look
  refine PySem.W.set_plain X J hs (PySem.W.osa_open (s := { s with toks := s.toks + 1 }) (r := none) X J hp ht fun b => ?_)
  obtain ⟨cd, hc, hd'⟩ := PySem.W.any_some hh
  have hx : s.heap.get? x = some ⟨.ref C, some dx, .plain, #[]⟩ := I.obj
  refine wpAny_bind (wpAny_pure (wpAny_bind (wpAny_bind (wpAny_loadPart hx (wpAny_bind (PySem.W.Looks.here (s := { s with toks := s.toks + 1 }) (PySem.W.looks_clsIn X hc) ?_))))))
  rw [hd']
  refine wpAny_pure (a := some dx) (wpAny_bind (wpAny_pure (wpAny_bind ?_)))
  refine wpAny_nsSet1 (s := { s with toks := s.toks + 1 }) I.ns fun h' hn2 hs2 => ?_
  obtain ⟨oD, esD, epD, hoD, hdD, hcD⟩ := hn2.count (PySem.Within.cons name v hw)
  refine wpAny_bind (wpAny_lookBehind hoD (by rw [hdD]; exact pastItsLine_dict (Nat.le_trans hcD (by rw [List.length_cons]; omega))) ?_)
  exact wpAny_pure (h _ ⟨(hs2.2 _ (Ne.symm I.ne)).trans I.obj, hn2, I.ne⟩ hs2)
theorem make_map {R : Result → Shared → Prop} {vs : List Value} {kw : List (Str × Value)} (X : K.In s.heap) (hm : PySem.W.makesIn K C = true)
    (hi : PySem.W.findIn K (.ref C) "__init__" = some (some (.ref f))) (hf : PySem.W.typeIn K (.ref f) = some (.type "function"))
    (h : codeAny (model prog w) (A.under (.builtin "type.__call__" ⟨.ref C :: vs, kw⟩)) (.call (.ref f) ⟨.ref (s.heap.objs.size + 1) :: vs, kw⟩) (PySem.W.InitBack (s.heap.objs.size + 1) R)
      { s with heap := (s.heap.push PySem.W.emptyDict).push (PySem.W.instObj C s.heap.objs.size) }) :
    codeAny (model prog w) A (.call (.ref C) ⟨vs, kw⟩) R s := by
  obtain ⟨hh, g, d, t, os⟩ := s
  exact PySem.W.make_core (PySem.W.makes_of X hm) (PySem.W.looks_findIn X hi) (fun self => PySem.W.bind_fn X self hf) (.inl rfl) h
end
def putF (f : Str) (v : V) : List (Str × V) → List (Str × V)
  | [] => [(f, v)]
  | (g, x) :: r => if g = f then (g, v) :: r else (g, x) :: putF f v r
theorem lookup_putF (f g : Str) (v : V) : ∀ fs : List (Str × V), (putF f v fs).lookup g = if g = f then some v else fs.lookup g
  | [] => by
    show List.lookup g [(f, v)] = _
    by_cases h : g = f
    · have hb : (g == f) = true := beq_iff_eq.mpr h
      simp only [List.lookup, hb, if_pos h]
    · have hb : (g == f) = false := beq_eq_false_iff_ne.mpr h
      simp only [List.lookup, hb, if_neg h]
  | (k, x) :: r => by
    have ih := lookup_putF f g v r
    rw [show putF f v ((k, x) :: r) = (if k = f then (k, v) :: r else (k, x) :: putF f v r) from rfl]
    by_cases hk : k = f
    · rw [if_pos hk]
      by_cases h : g = k
      · have hb : (g == k) = true := beq_iff_eq.mpr h
        simp only [List.lookup, hb, if_pos (h.trans hk)]
      · have hb : (g == k) = false := beq_eq_false_iff_ne.mpr h
        simp only [List.lookup, hb, if_neg (fun e : g = f => h (e.trans hk.symm))]
    · rw [if_neg hk]
      by_cases h : g = k
      · have hb : (g == k) = true := beq_iff_eq.mpr h
        simp only [List.lookup, hb, if_neg (fun e : g = f => hk (h.symm.trans e))]
      · have hb : (g == k) = false := beq_eq_false_iff_ne.mpr h
        simp only [List.lookup, hb]
        exact ih
theorem keys_putF (f : Str) (v : V) : ∀ fs : List (Str × V), f ∈ (putF f v fs).map (·.1) ∧ ∀ g, g ∈ fs.map (·.1) → g ∈ (putF f v fs).map (·.1)
  | [] => ⟨by simp [putF], fun g h => by simp at h⟩
  | (k, x) :: r => by
    obtain ⟨i1, i2⟩ := keys_putF f v r
    rw [show putF f v ((k, x) :: r) = (if k = f then (k, v) :: r else (k, x) :: putF f v r) from rfl]
    by_cases hk : k = f
    · rw [if_pos hk]
      subst hk
      exact ⟨by simp, fun g h => by simpa using h⟩
    · rw [if_neg hk]
      refine ⟨?_, fun g h => ?_⟩
      · rw [List.map_cons]
        exact List.mem_cons_of_mem _ i1
      · rw [List.map_cons] at h ⊢
        rcases List.mem_cons.mp h with e | e
        · exact List.mem_cons.mpr (.inl e)
        · exact List.mem_cons_of_mem _ (i2 g e)
theorem length_putF (f : Str) (v : V) : ∀ fs : List (Str × V), (putF f v fs).length ≤ fs.length + 1
  | [] => by simp [putF]
  | (k, x) :: r => by
    have ih := length_putF f v r
    rw [show putF f v ((k, x) :: r) = (if k = f then (k, v) :: r else (k, x) :: putF f v r) from rfl]
    by_cases hk : k = f
    · rw [if_pos hk, List.length_cons, List.length_cons]; omega
    · rw [if_neg hk, List.length_cons, List.length_cons]; omega
theorem RelO.some_of {v : V} {o : Option Value} (r : RelO (some v) o) : ∃ u, o = some u ∧ RelV v u := by
  cases o with
  | none => exact (show False from r).elim
  | some u => exact ⟨u, rfl, r⟩
theorem RelO.none_of {o : Option Value} (r : RelO none o) : o = none := by
  cases o with
  | none => rfl
  | some u => exact (show False from r).elim
theorem handed_of {v : V} {u : Value} (r : RelV v u) : PySem.W.handedIn u = true := by
  cases v with
  | non => cases (show u = Value.none from r); rfl
  | bl b => cases (show u = Value.bool b from r); rfl
  | int i => obtain ⟨t, e⟩ := (show ∃ t, u = Value.int i t from r); cases e; rfl
  | str x => obtain ⟨t, e⟩ := (show ∃ t, u = Value.str x t from r); cases e; rfl
  | byt b => obtain ⟨t, e⟩ := (show ∃ t, u = Value.bytes b t from r); cases e; rfl
  | flt b => obtain ⟨t, e⟩ := (show ∃ t, u = Value.float b t from r); cases e; rfl
  | ref a => cases (show u = Value.ref a from r); rfl
  | ty n => cases (show u = Value.type n from r); rfl
section
variable {P : Program} {w : World} {H H' : Hp} {h h' : Heap} {a C dx : Addr} {fs fs' : List (Str × V)}
theorem ins_get (hok : HOk P w H h) (e : H a = some (.ins C dx fs)) : ∃ mA, ObjM h a dx C mA ∧ (∀ f, RelO (fs.lookup f) (mA f)) ∧ PySem.Within mA (fs.map (·.1)) ∧ fs.length ≤ 1000 ∧ H dx = some (.own a) := by
  obtain ⟨d, z, ne, ob, mA, n, r, q⟩ := (show ObjOk P w H h a (.ins C dx fs) from hok a _ e)
  exact ⟨mA, ⟨ob, n, ne⟩, r, q, z, d⟩
end
structure Cls (K : PySem.W.Frag) (C : Addr) : Prop where
  pg : PySem.W.plainGet K C Str.empty = true
  hd : PySem.W.hasDictIn K C = true
  po : PySem.W.plainOver K C = true
  sa : PySem.W.findIn K (.ref C) "__setattr__" = some (some (.builtin "object.__setattr__"))
theorem Cls.get {K : PySem.W.Frag} {C : Addr} (c : Cls K C) (f : Str) : PySem.W.plainGet K C f = true := c.pg
def NoAttr (K : PySem.W.Frag) (C : Addr) (f : Str) : Prop := PySem.W.findIn K (.ref C) f = some none
theorem NoAttr.taker {K : PySem.W.Frag} {C : Addr} {f : Str} (n : NoAttr K C f) : PySem.W.takerIn K C f = some none := by
  unfold PySem.W.takerIn
  rw [show PySem.W.findIn K (.ref C) f = some none from n]
  rfl
structure Con (K : PySem.W.Frag) (C : Addr) (f : Str) (v : V) (u : Value) : Prop where
  at_ : PySem.W.findIn K (.ref C) f = some (some u)
  rel : RelV v u
  get : PySem.W.specialIn K u "__get__" = some none
  cp : PySem.W.copiedNames.contains f = false
structure Meth (K : PySem.W.Frag) (C : Addr) (m : Str) (f : Addr) : Prop where
  at_ : PySem.W.findIn K (.ref C) m = some (some (.ref f))
  fn : PySem.W.isFn K (.ref f) = true
  kp : PySem.W.keepIn K (.ref f) = true
section
variable {X : Cx} {pins : List (Addr × Obj)} {σ : St} {H : Hp} {s : Shared} {a C dx : Addr} {fs : List (Str × V)} {f : Str} {v : V} {A : Around} {E : Value → Shared → Prop}
theorem getattr_ok {b : Bool} {Q : Value → Shared → Prop} (I : Inv X pins σ H s) (e : H a = some (.ins C dx fs)) (c : Cls X.K C) (n : NoAttr X.K C f) (l : fs.lookup f = some v)
    (h : ∀ u s', Inv X pins σ H s' → RelV v u → Q u s') : wpAny (model X.prog X.w) A (getAttr (.ref a) f b) Q E s := by
  obtain ⟨mA, O, r, _, _, _⟩ := ins_get I.hok e
  obtain ⟨u, hu, ru⟩ := RelO.some_of (v := v) (o := mA f) (by rw [← l]; exact r f)
  exact get_map I.kIn O (c.get f) c.hd n hu (handed_of ru) (h u _ (I.tok _) ru)
theorem getmeth_ok {m : Str} {g : Addr} {pl : Sem Bool} {Q : Value × List Value → Shared → Prop} (I : Inv X pins σ H s) (e : H a = some (.ins C dx fs)) (c : Cls X.K C) (k : Meth X.K C m g) (l : fs.lookup m = none)
    (h : Q (.ref g, [.ref a]) s) : wpAny (model X.prog X.w) A (getMethod (.ref a) m pl) Q E s := by
  obtain ⟨mA, O, r, _, _, _⟩ := ins_get I.hok e
  have hn : mA m = none := RelO.none_of (by rw [← l]; exact r m)
  exact get_meth I.kIn O (c.get m) k.at_ k.fn hn h
theorem setattr_ok {y : V} {u : Value} {Q : Unit → Shared → Prop} (I : Inv X pins σ H s) (e : H a = some (.ins C dx fs)) (c : Cls X.K C) (n : NoAttr X.K C f) (hl : fs.length < 1000) (ry : RelV y u)
    (h : ∀ s', Inv X pins σ (upd H a (.ins C dx (putF f y fs))) s' → Q () s') : wpAny (model X.prog X.w) A (setAttr (.ref a) f u) Q E s := by
  obtain ⟨mA, O, r, wi, _, ho⟩ := ins_get I.hok e
  have hz : (fs.map (·.1)).length ≤ sizeLine := by rw [List.length_map, sizeLine_eq]; omega
  refine set_map I.kIn O c.sa c.po n.taker c.hd wi hz fun h' O' sb => h _ ?_
  have hd : ∃ o, h'.get? dx = some o := let ⟨o, _, _, e', _⟩ := O'.ns; ⟨o, e'⟩
  refine I.write (x := a) (e := dx) (by rw [e]; exact True.intro) (.inr ho) (fun b q hb z => (sb.2 b hb).trans z) hd ?_
  refine ⟨by rw [upd_ne O.ne]; exact ho, ?_, O.ne, O'.obj, _, O'.ns, fun g => ?_, fun g hg => ?_⟩
  · have := length_putF f y fs; omega
  · show RelO ((putF f y fs).lookup g) (if g = f then some u else mA g)
    rw [lookup_putF]
    by_cases q : g = f
    · rw [if_pos q, if_pos q]; exact ry
    · rw [if_neg q, if_neg q]; exact r g
  · by_cases q : g = f
    · rw [q]; exact (keys_putF f y fs).1
    · refine (keys_putF f y fs).2 g (wi g fun z => hg ?_)
      show (if g = f then some u else mA g) = none
      rw [if_neg q]; exact z
theorem Inv.made (I : Inv X pins σ H s) : Inv X pins σ (upd (upd H s.heap.objs.size (.own (s.heap.objs.size + 1))) (s.heap.objs.size + 1) (.ins C s.heap.objs.size []))
    { s with heap := (s.heap.push PySem.W.emptyDict).push (PySem.W.instObj C s.heap.objs.size) } := by
  have e1 : (s.heap.push PySem.W.emptyDict).get? s.heap.objs.size = some PySem.W.emptyDict := Heap.get?_push_size s.heap rfl
  have e2 : ((s.heap.push PySem.W.emptyDict).push (PySem.W.instObj C s.heap.objs.size)).get? (s.heap.objs.size + 1) = some (PySem.W.instObj C s.heap.objs.size) := by
    have := Heap.get?_push_size (s.heap.push PySem.W.emptyDict) (o := PySem.W.instObj C s.heap.objs.size) rfl
    rwa [Heap.size_push] at this
  have e3 : (s.heap.push PySem.W.emptyDict).Ns s.heap.objs.size (fun _ => none) := ⟨PySem.W.emptyDict, #[], _, e1, rfl, (fun e he => absurd he (by simp)), fun _ => rfl⟩
  have I1 := I.laid (a := s.heap.objs.size) (o := .own (s.heap.objs.size + 1)) (h' := s.heap.push PySem.W.emptyDict) (t' := s.toks) (fun b u q => Heap.get?_push_of_some _ q) (Nat.le_refl _) ⟨_, e1⟩
  refine I1.laid (a := s.heap.objs.size + 1) (o := .ins C s.heap.objs.size []) (t' := s.toks) (fun b u q => Heap.get?_push_of_some _ q) (Nat.le_of_eq (Heap.size_push _ _)) ?_
  have ne : s.heap.objs.size ≠ s.heap.objs.size + 1 := Nat.ne_of_lt (Nat.lt_succ_self _)
  refine ⟨by rw [upd_ne ne, upd_same], Nat.zero_le _, ne, e2, fun _ => none, (Heap.Ns1.of_empty e3).at fun o q => Heap.get?_push_of_some _ q, fun _ => True.intro, fun y hy => absurd rfl hy⟩
theorem attr_of {prog : Program} {w : World} {env : Env} {e : Expr} {f : Str} {pos : Pos} {s : Shared} {Q : Value → Shared → Prop} (hb : attributeBase e f env (eval e env) = eval e env)
    (h : wpAny (model prog w) A (eval e env) (fun o s₁ => wpAny (model prog w) A (getAttr o f true) Q E s₁) E s) : wpAny (model prog w) A (eval (.Attribute e f pos) env) Q E s :=
  Attribute_any_ h (by rw [arm_eval_Attribute, hb])
end
inductive tFldS (K : PySem.W.Frag) (f : Str) (x : V) (H1 : Hp) (Q : VK) : Prop
  | mk (a C dx : Addr) (fs : List (Str × V)) (v : V) (hx : x = .ref a) (ho : H1 a = some (.ins C dx fs)) (hc : Cls K C) (hn : NoAttr K C f) (hl : fs.lookup f = some v) (k : Q v H1)
def tFld (K : PySem.W.Frag) (ta : TE) (f : Str) : TE := fun σ H Q => ta σ H fun x H1 => tFldS K f x H1 Q
section
variable {X : Cx} {o e value : Expr} {f : Str} {pos pos' tpos : Pos} {ta tv : TE}
theorem pe_fld (he : PE X e ta) (hb : attributeBase e f X.env (eval e X.env) = eval e X.env) : PE X (.Attribute e f pos) (tFld X.K ta f) := by
  intro pins s σ H Q I h
  refine attr_of hb (thn (he pins s σ H _ I h) fun u s1 hq__ => ?_)
  obtain ⟨x, H1, I1, rx, a, C, dx, fs, v, ex, ea, c, n, l, q⟩ := hq__
  subst ex
  obtain rfl : u = Value.ref a := rx
  exact getattr_ok I1 ea c n l fun u' s2 I2 ru => ⟨v, H1, I2, ru, q⟩
end
section
variable {X : Cx} {pins : List (Addr × Obj)} {σ : St} {H : Hp} {s : Shared} {A : Around} {E : Value → Shared → Prop} {Q : Value → Shared → Prop} {c : Value} {b : Bool}
inductive TyOf (K : PySem.W.Frag) (H : Hp) : V → Value → Prop where
  | non : TyOf K H .non (.type "NoneType")
  | bl (x : Bool) : TyOf K H (.bl x) (.type "bool")
  | int (i : Int) : TyOf K H (.int i) (.type "int")
  | str (x : Str) : TyOf K H (.str x) (.type "str")
  | flt (x : UInt64) : TyOf K H (.flt x) (.type "float")
  | lst {a : Addr} {xs : List V} (e : H a = some (.lst xs)) : TyOf K H (.ref a) (.type "list")
  | frz {a : Addr} {o : Obj} {xs : List V} (e : H a = some (.frz o (.lst xs))) : TyOf K H (.ref a) (.type "list")
  | tup {a : Addr} {xs : List V} (e : H a = some (.tup xs)) : TyOf K H (.ref a) (.type "tuple")
  | dK {a : Addr} {kvs : List (Key × V)} (e : H a = some (.dK kvs)) : TyOf K H (.ref a) (.type "dict")
  | dT {a : Addr} {kvs : List (List Key × V)} (e : H a = some (.dT kvs)) : TyOf K H (.ref a) (.type "dict")
  | ins {a C dx : Addr} {fs : List (Str × V)} (e : H a = some (.ins C dx fs)) (cl : Cls K C) (ha : PySem.W.findIn K (.ref C) "__class__" = some (some (.builtin "object.__class__")))
      (hn : PySem.W.specialIn K (.builtin "object.__class__") "__get__" = some (some (.builtin "getset_descriptor.__get__"))) (htk : PySem.W.takesIn K (.builtin "object.__class__") = some true)
      (hm : PySem.W.mroIn K C (.type "object") = some true) : TyOf K H (.ref a) (.ref C)
theorem isinst_ok {x : V} {u t : Value} (I : Inv X pins σ H s) (rx : RelV x u) (ty : TyOf X.K H x t) (e : PySem.W.kitOne X.K t c = some b) (h : ∀ tk, Q (.bool b) { s with toks := tk }) :
    wpAny (model X.prog X.w) A (call (.builtin "isinstance") [u, c]) Q E s := by
  cases ty with
  | non => cases (show u = Value.none from rx); exact PySem.W.kia_one PySem.W.kitx_none I.kIn True.intro e (fun z => nomatch z) h
  | bl y => cases (show u = Value.bool y from rx); exact PySem.W.kia_one PySem.W.kitx_bool I.kIn True.intro e (fun z => nomatch z) h
  | int i => obtain ⟨t, q⟩ := (show ∃ t, u = Value.int i t from rx); cases q; exact PySem.W.kia_one PySem.W.kitx_int I.kIn True.intro e (fun z => nomatch z) h
  | str y => obtain ⟨t, q⟩ := (show ∃ t, u = Value.str y t from rx); cases q; exact PySem.W.kia_one PySem.W.kitx_str I.kIn True.intro e (fun z => nomatch z) h
  | flt y => obtain ⟨t, q⟩ := (show ∃ t, u = Value.float y t from rx); cases q; exact PySem.W.kia_one PySem.W.kitx_float I.kIn True.intro e (fun z => nomatch z) h
  | @lst a xs ea =>
    cases (show u = Value.ref a from rx)
    obtain ⟨_, _, n, _, h1⟩ := (show ObjOk X.prog X.w H s.heap a (.lst xs) from I.hok a _ ea)
    exact PySem.W.kia_one PySem.W.kitx_list I.kIn ⟨_, h1, rfl⟩ e (fun z => nomatch z) h
  | @frz a ob xs ea =>
    cases (show u = Value.ref a from rx)
    obtain ⟨_, _, _, n, _, h1⟩ := (show ObjOk X.prog X.w H s.heap a (.frz ob (.lst xs)) from I.hok a _ ea)
    exact PySem.W.kia_one PySem.W.kitx_list I.kIn ⟨_, h1, rfl⟩ e (fun z => nomatch z) h
  | @tup a xs ea =>
    cases (show u = Value.ref a from rx)
    obtain ⟨_, _, _, p⟩ := (show ObjOk X.prog X.w H s.heap a (.tup xs) from I.hok a _ ea)
    obtain ⟨o, h1, h2, _⟩ := p
    exact PySem.W.kia_one PySem.W.kitx_tuple I.kIn ⟨o, h1, h2⟩ e (fun z => nomatch z) h
  | @dK a kvs ea =>
    cases (show u = Value.ref a from rx)
    obtain ⟨_, _, vs, _, p⟩ := (show ObjOk X.prog X.w H s.heap a (.dK kvs) from I.hok a _ ea)
    obtain ⟨o, es, ep, h1, h2, _⟩ := p
    exact PySem.W.kia_one PySem.W.kitx_dict I.kIn ⟨o, h1, h2.1⟩ e (fun z => nomatch z) h
  | @dT a kvs ea =>
    cases (show u = Value.ref a from rx)
    obtain ⟨_, _, xs, _, o, es, ep, h1, h2, _⟩ := (show ObjOk X.prog X.w H s.heap a (.dT kvs) from I.hok a _ ea)
    exact PySem.W.kia_one PySem.W.kitx_dict I.kIn ⟨o, h1, h2.1⟩ e (fun z => nomatch z) h
  | @ins a C dx fs ea cl ha hn htk hm =>
    cases (show u = Value.ref a from rx)
    obtain ⟨mA, O, _⟩ := ins_get I.hok ea
    obtain ⟨od, J, _⟩ := O.look
    exact PySem.W.kia_one (PySem.W.kitx_own (cl.get _) cl.hd ha hn htk hm) I.kIn J e (fun z => nomatch z) h
end
end L2
namespace L2
open PySem PySem.Spec PyProof.Rows
structure Room (k : Nat) (A : Around) : Prop where
  hd : A.handled = none
  dp : A.depth + 3 * k + 5 < recursionLimit
  un : A.units + 16 * k + 200 < cLine
theorem Room.mono {j k : Nat} {A : Around} (r : Room k A) (h : j ≤ k) : Room j A := ⟨r.hd, by have := r.dp; omega, by have := r.un; omega⟩
theorem Room.deeper {k : Nat} {A : Around} (r : Room (k + 1) A) (env : Env) : Room k (A.deeper env) :=
  ⟨r.hd, by have := r.dp; show A.depth + 1 + 3 * k + 5 < _; omega, by have := r.un; show A.units + 3 + 16 * k + 200 < _; omega⟩
theorem Room.in1 {k : Nat} {A : Around} (r : Room (k + 1) A) : Room k A.in1 :=
  ⟨r.hd, by have := r.dp; show A.depth + 3 * k + 5 < _; omega, by have := r.un; show A.units + 1 + 16 * k + 200 < _; omega⟩
theorem make_depth {A : Around} {C : Addr} {us : List Value} {kw : List (Str × Value)} : (A.under (.builtin "type.__call__" ⟨.ref C :: us, kw⟩)).depth = A.depth + 1 := by
  first | rfl | simp [Around.under, Code.weight, Code.isCreation, Code.isGuard, Code.isCaller, Code.frames, Code.isFrame, guardIds]
theorem make_units {A : Around} {C : Addr} {us : List Value} {kw : List (Str × Value)} : (A.under (.builtin "type.__call__" ⟨.ref C :: us, kw⟩)).units = A.units + 1 := by
  first | rfl | simp [Around.under, Code.cUnits, Code.frames, Code.isFrame]
theorem Room.make {k : Nat} {A : Around} (r : Room (k + 1) A) (C : Addr) (us : List Value) (kw : List (Str × Value)) : Room k (A.under (.builtin "type.__call__" ⟨.ref C :: us, kw⟩)) :=
  ⟨r.hd, by have := r.dp; rw [make_depth]; omega, by have := r.un; rw [make_units]; omega⟩
theorem Room.depth {k : Nat} {A : Around} (r : Room k A) : A.depth < recursionLimit := by have := r.dp; omega
theorem Room.units {k : Nat} {A : Around} (r : Room k A) : A.units + 64 < cLine := by have := r.un; omega
def tNil : TA := fun _ H Q => Q [] H
def tCons (ta : TE) (tr : TA) : TA := fun σ H Q => ta σ H fun x H1 => tr σ H1 fun xs H2 => Q (x :: xs) H2
section
variable {X : Cx} {e : Expr} {es : List Expr} {te : TE} {t : TA} {pos : Pos}
theorem pa_nil : PA X [] tNil := fun _ _ _ _ H Q I h => Calls.spliced_nil ⟨[], H, I, .nil, h⟩
theorem pa_cons (ha : PE X e te) (hr : PA X es t) (hs : starEach (e :: es) X.env = (false, eval e X.env) :: starEach es X.env := by rfl) : PA X (e :: es) (tCons te t) := by
  intro pos pins s σ H Q I h
  rw [hs]
  show wpAny _ _ (spliced ((false, eval e X.env) :: backTo pos (starEach es X.env))) _ _ s
  refine Calls.spliced_cons (thn (ha pins s σ H _ I h) fun u s1 hq__ => ?_)
  obtain ⟨x, H1, I1, r1, q1⟩ := hq__
  exact thn (hr pos pins s1 σ H1 _ I1 q1) fun us s2 ⟨xs, H2, I2, r2, q2⟩ => ⟨x :: xs, H2, I2, .cons r1 r2, q2⟩
end
abbrev Sp := List V → Hp → VK → XK → Prop
abbrev CXT := List Env → Hp → Shared → XK → Value → Shared → Prop
structure Env0 (P : Program) (w : World) (K : PySem.W.Frag) (mg : Str → Option Value) (base : Heap) (A : Around) (outer : List Env) (s : Shared) (H : Hp) : Prop where
  frames : A.frames = some outer
  mod : Mod K mg base
  bs : ∀ b o, base.get? b = some o → s.heap.get? b = some o ∧ H b = none
  bsz : base.objs.size ≤ s.heap.objs.size
  funs : s.heap.FunFrames base outer
  frf : ∀ b ∈ frs outer, H b = none
  hok : HOk P w H s.heap
  bare : AllBare s.gens
def CE (outer : List Env) (P : Program) (w : World) (H : Hp) (s : Shared) (Q : VK) (u : Value) (s' : Shared) : Prop :=
  ∃ v H', s'.os = s.os ∧ AllBare s'.gens ∧ Un (frs outer) [] H H' s.heap s'.heap ∧ HOk P w H' s'.heap ∧ RelV v u ∧ Q v H'
def CR (CX : CXT) (outer : List Env) (P : Program) (w : World) (H : Hp) (s : Shared) (Q : VK) (E : XK) (r : Result) (s' : Shared) : Prop :=
  match r with
  | .ok (.ret u) => CE outer P w H s Q u s'
  | .ok _ => False
  | .error e => CX outer H s E e s'
structure FnOk (P : Program) (w : World) (K : PySem.W.Frag) (mg : Str → Option Value) (base : Heap) (CX : CXT) (k : Nat) (f : Addr) (fd : FuncData) (ps : List Str) (sp : Sp) : Prop where
  len : ∀ vs H Q E, sp vs H Q E → vs.length = ps.length
  run : ∀ (A : Around) (outer : List Env) (s : Shared) (H : Hp) (args : Args) (us : List Value) (vs : List V) (Q : VK) (E : XK), Room k A → Env0 P w K mg base A outer s H → BindsTo s fd args (ps.zip us) → Vals vs us → sp vs H Q E →
    codeAny (model P w) A (.call (.ref f) args) (CR CX outer P w H s Q E) s
theorem FnOk.mono {P : Program} {w : World} {K : PySem.W.Frag} {mg : Str → Option Value} {base : Heap} {CX : CXT} {j k : Nat} {f : Addr} {fd : FuncData} {ps : List Str} {sp : Sp} (F : FnOk P w K mg base CX j f fd ps sp) (h : j ≤ k) :
    FnOk P w K mg base CX k f fd ps sp := ⟨F.len, fun A outer s H args us vs Q E hr => F.run A outer s H args us vs Q E (hr.mono h)⟩
theorem FnOk.imp {P : Program} {w : World} {K : PySem.W.Frag} {mg : Str → Option Value} {base : Heap} {CX : CXT} {k : Nat} {f : Addr} {fd : FuncData} {ps : List Str} {sp sp' : Sp} (F : FnOk P w K mg base CX k f fd ps sp)
    (h : ∀ vs H Q E, sp' vs H Q E → sp vs H Q E) : FnOk P w K mg base CX k f fd ps sp' :=
  ⟨fun vs H Q E q => F.len vs H Q E (h _ _ _ _ q), fun A outer s H args us vs Q E hr he hb hv hs => F.run A outer s H args us vs Q E hr he hb hv (h _ _ _ _ hs)⟩
theorem Env0.make {P : Program} {w : World} {K : PySem.W.Frag} {mg : Str → Option Value} {base : Heap} {A : Around} {outer : List Env} {s : Shared} {H : Hp} (e : Env0 P w K mg base A outer s H) (C : Addr) (us : List Value) (kw : List (Str × Value)) :
    Env0 P w K mg base (A.under (.builtin "type.__call__" ⟨.ref C :: us, kw⟩)) outer s H := ⟨by first | exact e.frames | (simpa [Around.under, Code.envs, Code.isFrame, pushEnvs] using e.frames), e.mod, e.bs, e.bsz, e.funs, e.frf, e.hok, e.bare⟩
theorem Env0.in1 {P : Program} {w : World} {K : PySem.W.Frag} {mg : Str → Option Value} {base : Heap} {A : Around} {outer : List Env} {s : Shared} {H : Hp} (e : Env0 P w K mg base A outer s H) :
    Env0 P w K mg base A.in1 outer s H := ⟨e.frames, e.mod, e.bs, e.bsz, e.funs, e.frf, e.hok, e.bare⟩
section
variable {X : Cx} {pins : List (Addr × Obj)} {σ : St} {H : Hp} {s s' : Shared}
theorem Inv.env0 (I : Inv X pins σ H s) : Env0 X.prog X.w X.K X.mg X.base X.A X.stack s H :=
  ⟨I.ok.frames, I.ok.mod, I.bs, Nat.le_trans I.ok.bsz I.sz, I.stack, I.stkFree, I.hok, I.bare⟩
theorem Inv.after {Q : VK} {u : Value} (I : Inv X pins σ H s) (h : CE X.stack X.prog X.w H s Q u s') : EP X pins σ Q u s' := by
  obtain ⟨v, H', os, bare, un, hok, r, q⟩ := h
  obtain ⟨hh, g, d, t, os'⟩ := s'
  obtain rfl : os' = s.os := os
  exact ⟨v, H', I.call (h' := hh) (g' := g) (d' := d) (t' := t) (ch := []) un hok bare (fun b z => absurd z (by simp)), r, q⟩
end
def tCall (sp : Sp) (dvs : List V) (E : XK) (t : TA) : TE := fun σ H Q => t σ H fun vs H1 => sp (vs ++ dvs) H1 Q E
inductive tMethS (C : Addr) (m : Str) (x : V) (H : Hp) (k : Prop) : Prop
  | mk (a dx : Addr) (fs : List (Str × V)) (hx : x = .ref a) (ho : H a = some (.ins C dx fs)) (hl : fs.lookup m = none) (hk : k)
def tMeth (C : Addr) (m : Str) (sp : Sp) (dvs : List V) (E : XK) (ta : TE) (t : TA) : TE := fun σ H Q => ta σ H fun x H1 => tMethS C m x H1 (t σ H1 fun vs H2 => sp (x :: (vs ++ dvs)) H2 Q E)
def Binds (K : PySem.W.Frag) (fd : FuncData) (ps : List Str) (ds : List Value) : Prop :=
  ∀ (s : Shared) (us : List Value), K.In s.heap → (us ++ ds).length = ps.length → BindsTo s fd ⟨us, []⟩ (ps.zip (us ++ ds))
theorem Binds.all {K : PySem.W.Frag} {fd : FuncData} {ps : List Str} (h : ∀ us : List Value, us.length = ps.length → bindArgs fd ⟨us, []⟩ = pure (ps.zip us)) : Binds K fd ps [] := fun s us _ hl => by
  rw [List.append_nil] at hl ⊢
  exact .of_eq (h us hl)
def Passes (CX : CXT) (X : Cx) (E : XK) : Prop := ∀ (pins : List (Addr × Obj)) (σ : St) (H : Hp) (s : Shared) (e : Value) (s' : Shared), Inv X pins σ H s → CX X.stack H s E e s' → X.xe e s'
section
variable {X : Cx} {CX : CXT} {k : Nat} {f C : Addr} {fd : FuncData} {ps : List Str} {sp : Sp} {dvs : List V} {ds : List Value} {E : XK} {x m : Str} {p pos apos : Pos} {e o : Expr} {es : List Expr} {ta : TE} {t : TA}
theorem run_fn {pins : List (Addr × Obj)} {σ : St} {H : Hp} {s : Shared} {Q : VK} {us : List Value} {vs : List V} (F : FnOk X.prog X.w X.K X.mg X.base CX k f fd ps sp) (hr : Room k X.A) (hb : Binds X.K fd ps ds) (hd : Vals dvs ds) (hx : Passes CX X E)
    (I : Inv X pins σ H s) (r : Vals vs us) (h : sp (vs ++ dvs) H Q E) : wpAny (model X.prog X.w) X.A (call (.ref f) us) (EP X pins σ Q) X.xe s := by
  have r2 : Vals (vs ++ dvs) (us ++ ds) := r.append hd
  have hl : (us ++ ds).length = ps.length := by rw [← r2.length]; exact F.len _ _ _ _ h
  refine wpAny_call (codeAny_mono (F.run X.A X.stack s H ⟨us, []⟩ (us ++ ds) (vs ++ dvs) Q E hr I.env0 (hb s us I.kIn hl) r2 h) fun r s' hq => ?_)
  cases r with
  | error e => exact hx pins σ H s e s' I hq
  | ok fl =>
    cases fl with
    | ret u => exact I.after hq
    | next => exact False.elim hq
    | brk => exact False.elim hq
    | cont => exact False.elim hq
theorem pe_call (F : FnOk X.prog X.w X.K X.mg X.base CX k f fd ps sp) (hr : Room k X.A) (hg : Gl X x) (hm : X.mg x = some (.ref f)) (hk : PySem.W.keepIn X.K (.ref f) = true) (hb : Binds X.K fd ps ds) (hd : Vals dvs ds) (hx : Passes CX X E)
    (ha : PA X (e :: es) t) (hdb : (x == ("__debug__" : Str)) = false := by decide) (he : starEach (e :: es) X.env = (false, eval e X.env) :: starEach es X.env := by rfl) (hpl : (backTo pos (starEach es X.env)).any (·.1) = false := by rfl) :
    PE X (.Call (.Name x p) (e :: es) [] pos) (tCall sp dvs E t) := by
  intro pins s σ H Q I h
  refine wpAny_Call_Name_kw (ld_glob I hg hm ?_ hdb)
  refine PySem.W.callWith_K (h₀ := X.base) I.ok.mod.kin hk (thn (ha pos pins s σ H _ I h) fun us s1 ⟨vs, H1, I1, r, q⟩ => ⟨I1.kIn, ?_⟩) he hpl
  exact run_fn F hr hb hd hx I1 r q
theorem pe_meth {pl : Sem Bool} (he : PE X o ta) (c : Cls X.K C) (hm : Meth X.K C m f) (F : FnOk X.prog X.w X.K X.mg X.base CX k f fd ps sp) (hr : Room k X.A) (hb : Binds X.K fd ps ds) (hd : Vals dvs ds) (hx : Passes CX X E) (ha : PA X (e :: es) t)
    (hst : starEach (e :: es) X.env = (false, eval e X.env) :: starEach es X.env := by rfl) (hpl : (backTo pos (starEach es X.env)).any (·.1) = false := by rfl)
    (ht : eval (.Call (.Attribute o m apos) (e :: es) [] pos) X.env = (do
      let ov ← eval o X.env
      standAt apos.atName
      let (f, first) ← holding [ov] (getMethod ov m pl)
      callWith pos f first (backTo pos (starEach (e :: es) X.env)) (backToKw pos (keywordEach [] X.env))) := by rfl) :
    PE X (.Call (.Attribute o m apos) (e :: es) [] pos) (tMeth C m sp dvs E ta t) := by
  intro pins s σ H Q I h
  refine PySem.W.methodCall_KW (pl := pl) (thn (he pins s σ H _ I h) fun u s1 hq__ => ?_) ht
  obtain ⟨x, H1, I1, rx, a, dx, fs, ex, ea, l, q⟩ := hq__
  subst ex
  obtain rfl : u = Value.ref a := rx
  refine getmeth_ok I1 ea c hm l ?_
  refine PySem.W.callWith_K (first := [.ref a]) (h₀ := X.base) I.ok.mod.kin hm.kp (thn (ha pos pins s1 σ H1 _ I1 q) fun us s2 ⟨vs, H2, I2, r, q2⟩ => ⟨I2.kIn, ?_⟩) hst hpl
  exact run_fn (us := .ref a :: us) (vs := .ref a :: vs) F hr hb hd hx I2 (.cons rfl r) q2
theorem pe_meth0 {pl : Sem Bool} (he : PE X o ta) (c : Cls X.K C) (hm : Meth X.K C m f) (F : FnOk X.prog X.w X.K X.mg X.base CX k f fd ps sp) (hr : Room k X.A) (hb : Binds X.K fd ps ds) (hd : Vals dvs ds) (hx : Passes CX X E)
    (ht : eval (.Call (.Attribute o m apos) [] [] pos) X.env = (do
      let ov ← eval o X.env
      standAt apos.atName
      let (f, first) ← holding [ov] (getMethod ov m pl)
      callWith pos f first (backTo pos (starEach [] X.env)) (backToKw pos (keywordEach [] X.env))) := by rfl) :
    PE X (.Call (.Attribute o m apos) [] [] pos) (tMeth C m sp dvs E ta tNil) := by
  intro pins s σ H Q I h
  refine PySem.W.methodCall_KW (pl := pl) (thn (he pins s σ H _ I h) fun u s1 hq__ => ?_) ht
  obtain ⟨x, H1, I1, rx, a, dx, fs, ex, ea, l, q⟩ := hq__
  subst ex
  obtain rfl : u = Value.ref a := rx
  refine getmeth_ok I1 ea c hm l ?_
  exact PySem.W.callWith_K0 (first := [.ref a]) I1.kIn hm.kp (run_fn (us := [.ref a]) (vs := [.ref a]) F hr hb hd hx I1 (.cons rfl .nil) q)
structure Mk (K : PySem.W.Frag) (C f : Addr) : Prop where
  makes : PySem.W.makesIn K C = true
  init : PySem.W.findIn K (.ref C) "__init__" = some (some (.ref f))
  fn : PySem.W.isFn K (.ref f) = true
  kp : PySem.W.keepIn K (.ref C) = true
theorem run_make {pins : List (Addr × Obj)} {σ : St} {H : Hp} {s : Shared} {Q : VK} {us : List Value} {vs : List V} (M : Mk X.K C f) (F : FnOk X.prog X.w X.K X.mg X.base CX k f fd ps sp) (hr : Room (k + 1) X.A) (hb : Binds X.K fd ps ds) (hd : Vals dvs ds)
    (hx : Passes CX X E) (I : Inv X pins σ H s) (r : Vals vs us)
    (h : ∀ x dx, H x = none → H dx = none → dx ≠ x → sp (.ref x :: (vs ++ dvs)) (upd (upd H dx (.own x)) x (.ins C dx [])) (fun v H2 => v = .non ∧ Q (.ref x) H2) E) :
    wpAny (model X.prog X.w) X.A (call (.ref C) us) (EP X pins σ Q) X.xe s := by
  have hq := h (s.heap.objs.size + 1) s.heap.objs.size (I.hok.fresh (Nat.le_succ _)) (I.hok.fresh (Nat.le_refl _)) (Nat.ne_of_lt (Nat.lt_succ_self _))
  have I2 := Inv.made (C := C) I
  have r2 : Vals (V.ref (s.heap.objs.size + 1) :: (vs ++ dvs)) (Value.ref (s.heap.objs.size + 1) :: (us ++ ds)) := .cons rfl (r.append hd)
  have hl : (Value.ref (s.heap.objs.size + 1) :: us ++ ds).length = ps.length := by
    have e := r2.length
    rw [F.len _ _ _ _ hq] at e
    exact e.symm
  refine wpAny_call (make_map (f := f) I.kIn M.makes M.init (beq_iff_eq.mp M.fn) (codeAny_mono (F.run _ X.stack _ _ ⟨Value.ref (s.heap.objs.size + 1) :: us, []⟩ (Value.ref (s.heap.objs.size + 1) :: (us ++ ds)) _ _ E (hr.make C us [])
    (I2.env0.make C us []) (hb _ (Value.ref (s.heap.objs.size + 1) :: us) I2.kIn hl) r2 hq) fun r s' hq' => ?_))
  cases r with
  | error e => exact hx pins σ _ _ e s' I2 hq'
  | ok fl =>
    cases fl with
    | ret u =>
      obtain ⟨v, H', I3, rv, ev, q3⟩ := I2.after hq'
      subst ev
      exact ⟨rv, ⟨V.ref (s.heap.objs.size + 1), H', I3, rfl, q3⟩⟩
    | next => exact False.elim hq'
    | brk => exact False.elim hq'
    | cont => exact False.elim hq'
end
section
variable {X : Cx} {CX : CXT} {k : Nat} {f C : Addr} {fd : FuncData} {ps ks : List Str} {sp : Sp} {E : XK} {x m : Str} {p pos apos kpos : Pos} {e o : Expr} {es : List Expr} {kws : List Keyword} {te ta : TE} {t tk : TA} {nm : Option Str}
structure KBinds (K : PySem.W.Frag) (fd : FuncData) (ps ks : List Str) (g : List Value → List Value → List Value) (gV : List V → List V → List V) : Prop where
  to : ∀ (s : Shared) (us ws : List Value), K.In s.heap → (g us ws).length = ps.length → BindsTo s fd ⟨us, ks.zip ws⟩ (ps.zip (g us ws))
  rel : ∀ {vs : List V} {us : List Value} {zs : List V} {ws : List Value}, Vals vs us → Vals zs ws → Vals (gV vs zs) (g us ws)
variable {g : List Value → List Value → List Value} {gV : List V → List V → List V}
end
structure FnScope (N P : List Str) (sc : Scope) : Prop where
  kind : sc.kind = .function
  co : sc.isCoroutine = false
  gen : sc.isGenerator = false
  nd : N.Nodup
  pre : N.take P.length = P
  par : ∀ x ∈ P, sc.names.lookup x = some .local ∨ sc.names.lookup x = some .cell
  nofree : ∀ y ∈ sc.names, y.2 ≠ .free
theorem bindL_out {kindOf : Str → Option NameKind} {x : Str} : ∀ {binds : List (Str × Value)} {m : Str → Option Value}, (∀ v, (x, v) ∉ binds) → bindL kindOf binds m x = m x
  | [], _, _ => rfl
  | (n, v) :: r, m, h => by
    unfold bindL
    rw [bindL_out fun w hw => h w (List.mem_cons_of_mem _ hw)]
    split
    · have : x ≠ n := by rintro rfl; exact h v List.mem_cons_self
      simp [this]
    · rfl
theorem bindC_out {kindOf : Str → Option NameKind} {x : Str} : ∀ {binds : List (Str × Value)} {m : Str → Option Value}, (∀ v, (x, v) ∉ binds) → bindC kindOf binds m x = m x
  | [], _, _ => rfl
  | (n, v) :: r, m, h => by
    unfold bindC
    rw [bindC_out fun w hw => h w (List.mem_cons_of_mem _ hw)]
    split
    · rfl
    · have : x ≠ n := by rintro rfl; exact h v List.mem_cons_self
      simp [this]
theorem bindL_get {kindOf : Str → Option NameKind} {x : Str} {v : Value} : ∀ {P : List Str} {vs : List Value} {i : Nat} {m : Str → Option Value}, P.Nodup → P[i]? = some x → vs[i]? = some v → kindOf x = some .local →
    bindL kindOf (P.zip vs) m x = some v
  | [], _, _, _, _, h, _, _ => by simp at h
  | _ :: _, [], _, _, _, _, h, _ => by simp at h
  | p :: P, w :: vs, 0, m, nd, h1, h2, hk => by
    simp at h1 h2; subst h1; subst h2
    show bindL kindOf ((p, w) :: P.zip vs) m p = _
    unfold bindL
    rw [bindL_out fun v hv => (List.nodup_cons.mp nd).1 (List.of_mem_zip hv).1, if_pos hk]
    simp
  | p :: P, w :: vs, i + 1, m, nd, h1, h2, hk => by
    show bindL kindOf ((p, w) :: P.zip vs) m x = _
    unfold bindL
    exact bindL_get (i := i) (List.nodup_cons.mp nd).2 (by simpa using h1) (by simpa using h2) hk
theorem bindC_get {kindOf : Str → Option NameKind} {x : Str} {v : Value} : ∀ {P : List Str} {vs : List Value} {i : Nat} {m : Str → Option Value}, P.Nodup → P[i]? = some x → vs[i]? = some v → kindOf x ≠ some .local →
    bindC kindOf (P.zip vs) m x = some v
  | [], _, _, _, _, h, _, _ => by simp at h
  | _ :: _, [], _, _, _, _, h, _ => by simp at h
  | p :: P, w :: vs, 0, m, nd, h1, h2, hk => by
    simp at h1 h2; subst h1; subst h2
    show bindC kindOf ((p, w) :: P.zip vs) m p = _
    unfold bindC
    rw [bindC_out fun v hv => (List.nodup_cons.mp nd).1 (List.of_mem_zip hv).1, if_neg hk]
    simp
  | p :: P, w :: vs, i + 1, m, nd, h1, h2, hk => by
    show bindC kindOf ((p, w) :: P.zip vs) m x = _
    unfold bindC
    exact bindC_get (i := i) (List.nodup_cons.mp nd).2 (by simpa using h1) (by simpa using h2) hk
def start (N : List Str) (vs : List V) : St := vs.map some ++ List.replicate (N.length - vs.length) none
def cxOf (CX : CXT) (P : Program) (w : World) (K : PySem.W.Frag) (mg : Str → Option Value) (base : Heap) (N : List Str) (qual : Str) (scope : Scope) (f : Addr) (cd : Value) (A : Around) (outer : List Env) (s : Shared) (H : Hp) (E : XK) : Cx where
  prog := P
  w := w
  K := K
  mg := mg
  base := base
  A := A.deeper (envOfC qual scope s.heap.objs.size f cd)
  N := N
  s₀ := s
  H₀ := H
  env := envOfC qual scope s.heap.objs.size f cd
  outer := outer
  stack := envOfC qual scope s.heap.objs.size f cd :: outer
  ex := []
  calm := true
  fn := fun _ => true
  pn := []
  xe := fun e s' => wpAny (model P w) (A.deeper (envOfC qual scope s.heap.objs.size f cd)) (leaving (envOfC qual scope s.heap.objs.size f cd) e) (fun _ s'' => CX outer H s E e s'') (fun e' s'' => CX outer H s E e' s'') s'
theorem cell_has {sc : Scope} {n : Nat} {x : Str} (h : sc.names.lookup x = some .cell) : ∃ c, (cellsFrom n sc.names []).lookup x = some c := by
  have q := PySem.W.cellsFrom_some sc.names n [] (.inl h)
  exact Option.isSome_iff_exists.mp q
theorem inv_start {CX : CXT} {P : Program} {w : World} {K : PySem.W.Frag} {mg : Str → Option Value} {base : Heap} {N ps : List Str} {qual : Str} {scope : Scope} {f : Addr} {cd : Value} {A : Around} {outer : List Env} {s s1 : Shared} {H : Hp} {E : XK} {us : List Value} {vs : List V}
    (S : FnScope N ps scope) (hd : A.handled = none) (e0 : Env0 P w K mg base A outer s H) (hl : vs.length = ps.length) (r : Vals vs us)
    (x : InCallC s s.heap.objs.size (bindL (envOfC qual scope s.heap.objs.size f cd).kindOf (ps.zip us) fun _ => none) (cellsFrom (s.heap.objs.size + 1) scope.names []) (bindC (envOfC qual scope s.heap.objs.size f cd).kindOf (ps.zip us) fun _ => none) s1) :
    Inv (cxOf CX P w K mg base N qual scope f cd A outer s H E) [] (start N vs) H s1 := by
  have hpl : ps.length ≤ N.length := by have := congrArg List.length S.pre; rw [List.length_take] at this; omega
  obtain ⟨h1, tk, rfl, hk⟩ := x.done
  have noA : ∀ b : Addr, b ∉ (cxOf CX P w K mg base N qual scope f cd A outer s H E).ex := fun b z => absurd (show b ∈ ([] : List Addr) from z) (by simp)
  refine ⟨⟨e0.mod, S.kind, rfl, rfl, Nat.le_refl _, fun y z c h1 h2 => ?_, fun y hy => ?_, fun y c _ h => ?_, fun _ => hd, Around.frames_deeper e0.frames, .inr ⟨rfl, rfl⟩, fun b z => absurd z (noA b), e0.bs, e0.bsz, fun b _ _ => noA b, fun b z => absurd z (noA b), e0.funs, e0.frf⟩,
    rfl, e0.bare, Un.kept hk, ⟨_, x.toInCall.ns, fun i y v h1 h2 h3 => ?_⟩, fun y c h => ⟨_, x.cell y c h⟩, e0.hok.fresh (Nat.le_refl _), fun y c h => ?_, fun p hp => absurd (show p ∈ ([] : List (Addr × Obj)) from hp) (by simp), e0.hok.kept hk, ?_⟩
  · exact name_of_addr x.apart (PySem.mem_of_lookup h1) (PySem.mem_of_lookup h2)
  · have hy : scope.names.lookup y = some .cell ∨ scope.names.lookup y = some .free := hy
    rcases hy with hy | hy
    · exact cell_has hy
    · exact absurd rfl (S.nofree _ (PySem.mem_of_lookup hy))
  · exact Nat.le_of_lt (x.above y c (PySem.mem_of_lookup h))
  · have hi : i < vs.length := by
      unfold start at h2
      by_cases hi : i < vs.length
      · exact hi
      · rw [List.getElem?_append_right (by simpa using hi)] at h2
        rw [List.getElem?_replicate] at h2
        split at h2 <;> cases h2
    have ha : vs[i]? = some v := by
      unfold start at h2
      rw [List.getElem?_append_left (by simpa using hi), List.getElem?_map] at h2
      cases e : vs[i]? with
      | none => rw [e] at h2; cases h2
      | some a => rw [e] at h2; cases h2; rfl
    obtain ⟨u, hu, rv⟩ := r.get ha
    have hp : ps[i]? = some y := by
      rw [← S.pre, List.getElem?_take_of_lt (by omega)]; exact h1
    have ndP : ps.Nodup := by rw [← S.pre]; exact S.nd.sublist (List.take_sublist _ _)
    refine ⟨u, rv, ?_⟩
    rcases S.par y (List.mem_of_getElem? hp) with k | k
    · exact .inl ⟨k, bindL_get ndP hp hu k⟩
    · obtain ⟨c, e⟩ := cell_has (n := s.heap.objs.size + 1) k
      refine .inr ⟨.inl k, c, e, ?_⟩
      have q := x.cell y c e
      rw [bindC_get ndP hp hu (by show scope.names.lookup y ≠ _; rw [k]; decide)] at q
      exact q
  · exact e0.hok.fresh (Nat.le_of_lt (x.above y c (PySem.mem_of_lookup h)))
  · unfold start
    show _ = N.length
    rw [List.length_append, List.length_map, List.length_replicate]
    omega
theorem fn_of {CX : CXT} {P : Program} {w : World} {K : PySem.W.Frag} {mg : Str → Option Value} {base : Heap} {k : Nat} {f : Addr} {name qual : Str} {params : Arguments} {body : List Stmt} {scope : Scope} {dV kV doc pm cdv ct oc : Value} {an od : Option Addr}
    {osl : Array (Option Value)} {N ps : List Str} {sp : Sp} (lk : K.lookup f = some ⟨oc, od, .func (PySem.W.fnOf name qual params body scope dV kV doc pm an cdv ct), osl⟩) (hcd : PySem.W.codeIn K cdv qual = true) (S : FnScope N ps scope)
    (len : ∀ vs H Q E, sp vs H Q E → vs.length = ps.length)
    (hbody : ∀ (A : Around) (outer : List Env) (s : Shared) (H : Hp) (vs : List V) (Q : VK) (E : XK), Room k (A.deeper (envOfC qual scope s.heap.objs.size f cdv)) → sp vs H Q E →
      ∃ t, PSs (cxOf CX P w K mg base N qual scope f cdv A outer s H E) body t ∧ t { nx := fun _ H' => Q .non H', rt := Q } (start N vs) H) :
    FnOk P w K mg base CX (k + 1) f (PySem.W.fnOf name qual params body scope dV kV doc pm an cdv ct) ps sp := by
  refine ⟨len, fun A outer s H args us vs Q E hr e0 hb r hsp => ?_⟩
  have hl := len _ _ _ _ hsp
  have KX : K.In s.heap := e0.mod.kin.keeps fun b o e => (e0.bs b o e).1
  have lim : s.heap.NoLimit := e0.mod.nolimit.keeps fun b o e => (e0.bs b o e).1
  have hkind : ∀ y ∈ ps.zip us, scope.names.lookup y.1 = some .local ∨ (scope.names.lookup y.1 = some .cell ∧ ((cellsFrom (s.heap.objs.size + 1) scope.names []).lookup y.1).isSome = true) := fun ⟨n, v⟩ hy => by
    rcases S.par n (List.of_mem_zip hy).1 with q | q
    · exact .inl q
    · exact .inr ⟨q, PySem.W.cellsFrom_some _ _ _ (.inl q)⟩
  refine codeAny_call_function hr.depth (KX _ _ lk) rfl S.co S.gen rfl (PySem.W.codeRec_of KX hcd) (hb _ _ _ _ ?_)
  refine wpAny_newFunctionEnv_cells S.kind hkind fun env he s1 x => ?_
  subst he
  refine ⟨lim.keeps x.toInCall.keep, codeAny_func ?_⟩
  obtain ⟨t, ht, hq⟩ := hbody A outer s H vs Q E (hr.deeper _) hsp
  have I : Inv (cxOf CX P w K mg base N qual scope f cdv A outer s H E) [] (start N vs) H s1 := inv_start S hr.hd e0 hl r x
  refine wpAny_mono (ht [] s1 (start N vs) H _ I hq) (fun fl s' hs => ?_) fun e s' hs => hs
  have fin : ∀ {σ' : St} {H' : Hp} {v : V} {u : Value}, Inv (cxOf CX P w K mg base N qual scope f cdv A outer s H E) [] σ' H' s' → RelV v u → Q v H' → CE outer P w H s Q u s' :=
    fun {σ' H' v u} J rv q => ⟨v, H', J.os, J.bare, J.base, J.hok, rv, q⟩
  cases fl with
  | ret u =>
    obtain ⟨v, σ', H', J, rv, q⟩ := hs
    exact fin J rv q
  | next =>
    obtain ⟨σ', H', J, q⟩ := hs
    exact fin (v := V.non) (u := Value.none) J rfl q
  | brk =>
    obtain ⟨_, _, _, q⟩ := hs
    exact False.elim q
  | cont =>
    obtain ⟨_, _, _, q⟩ := hs
    exact False.elim q
end L2
namespace L2
open PySem PySem.Spec PyProof.Rows
section
variable {X : Cx} {x : Str} {p pos : Pos} {e : Expr} {es : List Expr} {t : TA} {id T : String} {r : List V → Hp → VK → Prop}
def tCB (r : List V → Hp → VK → Prop) (t : TA) : TE := fun σ H Q => t σ H fun vs H1 => r vs H1 Q
theorem pe_callB (hc : CallR X (.builtin id) r) (hg : Gl X x) (hm : X.mg x = none) (hv : bootBuiltins x = some (.builtin id)) (ha : PA X (e :: es) t) (hn : x ≠ "__name__" := by decide) (hdb : (x == ("__debug__" : Str)) = false := by decide)
    (he : starEach (e :: es) X.env = (false, eval e X.env) :: starEach es X.env := by rfl) (hpl : (backTo pos (starEach es X.env)).any (·.1) = false := by rfl) : PE X (.Call (.Name x p) (e :: es) [] pos) (tCB r t) := by
  intro pins s σ H Q I h
  refine wpAny_Call_Name_kw (ld_blt I hg hm hv ?_ hn hdb)
  exact PyProof.Rows.callWith_builtin1 (thn (ha pos pins s σ H _ I h) fun us s1 ⟨vs, H1, I1, r1, q1⟩ => hc pins s1 σ H1 vs us Q I1 r1 q1) he hpl
theorem pe_callTy (hc : CallR X (.type T) r) (hg : Gl X x) (hm : X.mg x = none) (hv : bootBuiltins x = some (.type T)) (ha : PA X (e :: es) t) (hn : x ≠ "__name__" := by decide) (hdb : (x == ("__debug__" : Str)) = false := by decide)
    (he : starEach (e :: es) X.env = (false, eval e X.env) :: starEach es X.env := by rfl) (hpl : (backTo pos (starEach es X.env)).any (·.1) = false := by rfl) : PE X (.Call (.Name x p) (e :: es) [] pos) (tCB r t) := by
  intro pins s σ H Q I h
  refine wpAny_Call_Name_kw (ld_blt I hg hm hv ?_ hn hdb)
  exact PyProof.Rows.callWith_type1 (thn (ha pos pins s σ H _ I h) fun us s1 ⟨vs, H1, I1, r1, q1⟩ => hc pins s1 σ H1 vs us Q I1 r1 q1) he hpl
end
end L2
namespace HT
open PySem PyProof.Rows
section
open PySem.SeqAt
open PySem.AutoSeq1 (wpAny_loadPart')
open PySem.MeetsSeq PySem.MeetsSeq2 PySem.MeetsSeq3
end
section
variable {prog : Program} {w : World} {A : Around} {E : Value → Shared → Prop} {s : Shared}
theorem cat_tup {t b : Addr} {vs ws : List Value} {Q : Value → Shared → Prop} (ht : IsTup s.heap t vs.toArray) (hb : IsTup s.heap b ws.toArray) (hv : vs ≠ [])
    (h1 : ws = [] → Q (.ref t) s) (h2 : ws ≠ [] → Q (.ref s.heap.objs.size) { s with heap := s.heap.push { cls := .type "tuple", data := .seq (vs ++ ws).toArray } })
    (hsz : vs.length + ws.length ≤ sizeLine) : wpAny (model prog w) A (binaryOp .Add (.ref t) (.ref b)) Q E s := by
  obtain ⟨⟨cls, dd, data, sl⟩, ho, hc, n, hd⟩ := id ht
  obtain ⟨⟨cls2, dd2, data2, sl2⟩, ho2, hc2, n2, hd2⟩ := id hb
  simp only at hc hd hc2 hd2
  subst hc hd hc2 hd2
  have e : vs.toArray ++ ws.toArray = (vs ++ ws).toArray := by simp
  by_cases hw : ws = []
  · exact concat_meets ⟨_, ho, rfl⟩ ⟨_, ho2, rfl⟩ noFill_tuple_add seq_tuple_add PySem.F.slot_tuple_add PySem.F.entry_tuple_add (PySem.F.args_tuple_add_2 _ _)
      (tuple_addW1 t b vs.toArray ws.toArray n n2 dd dd2 sl sl2 (by simpa using hv) (by simp [hw])) ⟨ho, ho2, h1 hw⟩
  · refine concat_meets ⟨_, ho, rfl⟩ ⟨_, ho2, rfl⟩ noFill_tuple_add seq_tuple_add PySem.F.slot_tuple_add PySem.F.entry_tuple_add (PySem.F.args_tuple_add_2 _ _)
      (tuple_addW2 t b vs.toArray ws.toArray n n2 dd dd2 sl sl2 (by simpa using hv) (by simpa using hw) (by rw [List.size_toArray, List.size_toArray]; exact hsz)) ⟨ho, ho2, ?_⟩
    rw [e]
    exact h2 hw
def sIx (n d : Nat) : Option Int → Nat
  | none => d
  | some v => if v < 0 then (v + (n : Int)).toNat else min v.toNat n
theorem sIx_none (n d : Nat) : sIx n d none = d := rfl
theorem sIx_nat (n d k : Nat) : sIx n d (some (k : Int)) = min k n := by
  show (if (k : Int) < 0 then ((k : Int) + (n : Int)).toNat else min (k : Int).toNat n) = min k n
  rw [if_neg (by omega), Int.toNat_natCast]
theorem sIx_le (n d : Nat) (hd : d ≤ n) (o : Option Int) : sIx n d o ≤ n := by
  cases o with
  | none => exact hd
  | some v =>
    show (if v < 0 then (v + (n : Int)).toNat else min v.toNat n) ≤ n
    by_cases hv : v < 0
    · rw [if_pos hv]; omega
    · rw [if_neg hv]; exact Nat.min_le_right _ _
theorem clip_eq (v : Int) (n d : Nat) : (if v < 0 then max (v + (n : Int)) 0 else min v (n : Int)) = ((sIx n d (some v) : Nat) : Int) := by
  show (if v < 0 then max (v + (n : Int)) 0 else min v (n : Int)) = (((if v < 0 then (v + (n : Int)).toNat else min v.toNat n) : Nat) : Int)
  by_cases hv : v < 0
  · simp only [if_pos hv]; omega
  · simp only [if_neg hv]; omega
theorem adjust_gen (lo hi : Option Int) (n : Nat) : Builtin.Slice.sliceAdjust lo hi 1 (n : Int) = (((sIx n 0 lo : Nat) : Int), ((sIx n n hi : Nat) : Int)) := by
  have h1 : ¬ ((1 : Int) < 0) := by omega
  unfold Builtin.Slice.sliceAdjust
  simp only [h1, if_false]
  refine Prod.ext ?_ ?_
  · cases lo with
    | none => rfl
    | some v => exact clip_eq v n 0
  · cases hi with
    | none => rfl
    | some v => exact clip_eq v n n
theorem places_gen (i j : Nat) : Builtin.Slice.slicePlaces (i : Int) (j : Int) 1 = j - i := by
  unfold Builtin.Slice.slicePlaces
  have h1 : (1 : Int) > 0 := by omega
  simp only [h1, if_true, Int.ediv_one]
  split <;> omega
theorem slicePart_ {v : Value} {o : Option Int} {Q : Option Int → Shared → Prop} (p : IsPart v o) (h : Q o s) : wpAny (model prog w) A (Builtin.Slice.slicePartIndex v) Q E s := by
  cases p with
  | none => exact slicePart_none h
  | int i t => exact slicePart_int h
theorem sliceApplied_gen {sl : Addr} {vl vu : Value} {lo hi : Option Int} {n : Nat} {Q : Int × Int × Nat → Shared → Prop} (hs : s.heap.IsSliceOf sl vl vu .none) (pl : IsPart vl lo) (pu : IsPart vu hi)
    (h : Q (((sIx n 0 lo : Nat) : Int), 1, sIx n n hi - sIx n 0 lo) s) : wpAny (model prog w) A (Builtin.Slice.sliceApplied (.ref sl) (pure (n : Int))) Q E s := by
  obtain ⟨os, hos, hcs, hds⟩ := id hs
  unfold Builtin.Slice.sliceApplied Builtin.Slice.sliceFields
  refine wpAny_bind (wpAny_bind (wpAny_field hos hds (x := vl) rfl (wpAny_bind (wpAny_field hos hds (x := vu) rfl (wpAny_bind (wpAny_field hos hds (x := .none) rfl (wpAny_pure ?_)))))))
  refine wpAny_bind (slicePart_none ?_)
  show wpAny _ _ (if ((1 : Int) == 0) = true then _ else _) _ _ s
  rw [if_neg (by decide)]
  refine wpAny_bind (slicePart_ pl (wpAny_bind (slicePart_ pu (wpAny_bind (wpAny_pure ?_)))))
  show wpAny _ _ (match Builtin.Slice.sliceAdjust lo hi 1 (n : Int) with | (lo, hi) => pure (lo, (1 : Int), Builtin.Slice.slicePlaces lo hi 1)) _ _ s
  rw [adjust_gen lo hi n]
  show wpAny _ _ (pure (((sIx n 0 lo : Nat) : Int), (1 : Int), Builtin.Slice.slicePlaces ((sIx n 0 lo : Nat) : Int) ((sIx n n hi : Nat) : Int) 1)) _ _ s
  rw [places_gen]
  exact wpAny_pure h
theorem pick_gen (xs : Array Value) (i k : Nat) : ((List.range k).filterMap fun (m : Nat) => xs[((i : Int) + (m : Int) * 1).toNat]?).toArray = ((xs.toList.drop i).take k).toArray := by
  have e : (fun (m : Nat) => xs[((i : Int) + (m : Int) * 1).toNat]?) = fun m => xs[i + m]? := by
    funext m
    have : ((i : Int) + (m : Int) * 1).toNat = i + m := by omega
    rw [this]
  rw [e]
  have := pick_run xs i k
  rw [List.filterMap_map] at this
  have e2 : ((fun x => xs[x]?) ∘ fun x => i + x) = fun m => xs[i + m]? := rfl
  rw [e2] at this
  rw [this]
theorem getItem_tuple_cut {t sl : Addr} {items : Array Value} {vl vu : Value} {lo hi : Option Int} {Q : Value → Shared → Prop} (ht : IsTup s.heap t items) (hs : s.heap.IsSliceOf sl vl vu .none) (pl : IsPart vl lo) (pu : IsPart vu hi)
    (hw : ¬ (sIx items.size 0 lo = 0 ∧ sIx items.size items.size hi = items.size))
    (h : Q (.ref s.heap.objs.size) { s with heap := s.heap.push { cls := .type "tuple", data := .seq ((items.toList.drop (sIx items.size 0 lo)).take (sIx items.size items.size hi - sIx items.size 0 lo)).toArray } })
    (hsz : items.size ≤ sizeLine) : wpAny (model prog w) A (getItem (.ref t) (.ref sl)) Q E s := by
  have htake : sizeOk (.seq ((items.toList.drop (sIx items.size 0 lo)).take (sIx items.size items.size hi - sIx items.size 0 lo)).toArray) := by
    show ((items.toList.drop (sIx items.size 0 lo)).take (sIx items.size items.size hi - sIx items.size 0 lo)).toArray.size ≤ sizeLine
    rw [List.size_toArray, List.length_take, List.length_drop, Array.length_toList]
    omega
  have hj : sIx items.size items.size hi ≤ items.size := sIx_le _ _ (Nat.le_refl _) hi
  obtain ⟨os, hos, hcs, hds⟩ := id hs
  have hTs : s.TypeIs (.ref sl) "slice" := ⟨os, hos, hcs⟩
  unfold getItem
  try with_reducible refine wpAny_holding ?_
  first | refine wpAny_bind (wpAny_pure ?_) | skip
  refine wpAny_bind (wpAny_sequenceKey ht.typeIs (by decide) ?_)
  refine wpAny_bind (wpAny_callSpecial?_slot (name := Str.ofString "__getitem__") ht.typeIs PyProof.Rows.slot_tuple_getitem
    (wpAny_call_entry PyProof.Rows.slot_tuple_getitem ht.typeIs entry_tuple_getitem ?_ (args_tuple_getitem _ _)))
  show wpAny _ _ (Builtin.Tuple.tupleItemsOf (.ref t) >>= _) _ _ s
  refine wpAny_bind (tupleItemsOf_ ht ?_)
  refine wpAny_bind (wpAny_typeOf hTs ?_)
  rw [if_pos (by decide)]
  refine wpAny_bind (sliceApplied_gen hs pl pu ?_)
  have hno : ¬ ((((sIx items.size 0 lo : Nat) : Int) == 0 && (1 : Int) == 1 && (sIx items.size items.size hi - sIx items.size 0 lo) == items.size) = true) := by
    intro q
    rw [Bool.and_eq_true, Bool.and_eq_true] at q
    have q1 : ((sIx items.size 0 lo : Nat) : Int) = 0 := eq_of_beq q.1.1
    have q2 : sIx items.size items.size hi - sIx items.size 0 lo = items.size := eq_of_beq q.2
    exact hw ⟨by omega, by omega⟩
  show wpAny _ _ (if (((sIx items.size 0 lo : Nat) : Int) == 0 && (1 : Int) == 1 && (sIx items.size items.size hi - sIx items.size 0 lo) == items.size) = true then _ else _) _ _ s
  rw [if_neg hno, pick_gen]
  first
    | exact wpAny_bind (m := Builtin.Tuple.tupleExact _) (wpAny_newObj_type (wpAny_pure ⟨_, rfl, wpAny_pure h⟩) htake)
    | exact wpAny_bind (m := Builtin.Tuple.tupleExact _) (wpAny_newObj_type (wpAny_bind (wpAny_pure (wpAny_pure ⟨_, rfl, wpAny_pure h⟩))) htake)
    | exact wpAny_bind (wpAny_bind (m := Builtin.Tuple.tupleExact _) (wpAny_newObj_type (wpAny_pure (wpAny_pure ⟨_, rfl, wpAny_pure h⟩)) htake))
    | exact wpAny_bind (wpAny_bind (m := Builtin.Tuple.tupleExact _) (wpAny_newObj_type (wpAny_pure ⟨_, rfl, wpAny_pure h⟩) htake))
end
end HT
namespace L2
open PySem PySem.Spec PyProof.Rows
abbrev TO := St → Hp → (Option Int → Hp → Prop) → Prop
def PO (X : Cx) (e : Option Expr) (t : TO) : Prop :=
  ∀ (pins : List (Addr × Obj)) (s : Shared) (σ : St) (H : Hp) (Q : Option Int → Hp → Prop), Inv X pins σ H s → t σ H Q →
    wpAny (model X.prog X.w) X.A (evalPart e X.env) (fun u s' => ∃ o H', Inv X pins σ H' s' ∧ IsPart u o ∧ Q o H') X.xe s
def tNoPart : TO := fun _ H Q => Q none H
inductive tPartS (x : V) (H : Hp) (Q : Option Int → Hp → Prop) : Prop
  | mk (i : Int) (h : x = .int i) (k : Q (some i) H)
def tPart (t : TE) : TO := fun σ H Q => t σ H fun x H1 => tPartS x H1 Q
section
variable {X : Cx} {e : Expr} {te : TE} {lo hi : Option Expr} {tl th : TO} {pos p2 : Pos}
theorem po_none : PO X none tNoPart := by
  intro pins s σ H Q I h
  rw [evalPart_none]
  exact wpAny_pure ⟨none, H, I, .none, h⟩
theorem po_some (h : PE X e te) : PO X (some e) (tPart te) := by
  intro pins s σ H Q I hw
  rw [evalPart_some]
  refine thn (h pins s σ H _ I hw) fun u s1 hq__ => ?_
  obtain ⟨x, H1, I1, r1, q1⟩ := hq__
  obtain ⟨i, rfl, q⟩ := q1
  obtain ⟨t, rfl⟩ := r1
  exact ⟨some i, H1, I1, .int i t, q⟩
def SlR (X : Cx) (r : V → Option Int → Option Int → Hp → VK → Prop) : Prop :=
  ∀ (pins : List (Addr × Obj)) (s : Shared) (σ : St) (H : Hp) (x : V) (v vl vu : Value) (lo hi : Option Int) (sl : Addr) (Q : VK), Inv X pins σ H s → RelV x v → s.heap.IsSliceOf sl vl vu .none → IsPart vl lo → IsPart vu hi → r x lo hi H Q →
    ∃ T id, typeLookup (.type T) "__getitem__" = pure (some (.builtin id)) ∧ s.TypeIs v T ∧ wpAny (model X.prog X.w) X.A (getItem v (.ref sl)) (EP X pins σ Q) X.xe s
theorem SlR.or {r r' : V → Option Int → Option Int → Hp → VK → Prop} (h : SlR X r) (h' : SlR X r') : SlR X (fun x lo hi H Q => r x lo hi H Q ∨ r' x lo hi H Q) := by
  intro pins s σ H x v vl vu lo hi sl Q I rx hs pl pu q
  rcases q with q | q
  · exact h pins s σ H x v vl vu lo hi sl Q I rx hs pl pu q
  · exact h' pins s σ H x v vl vu lo hi sl Q I rx hs pl pu q
def tSl (r : V → Option Int → Option Int → Hp → VK → Prop) (te : TE) (tl th : TO) : TE := fun σ H Q => te σ H fun x H1 => tl σ H1 fun l H2 => th σ H2 fun u H3 => r x l u H3 Q
theorem pe_slice {r : V → Option Int → Option Int → Hp → VK → Prop} (hr : SlR X r) (he : PE X e te) (hl : PO X lo tl) (hu : PO X hi th) : PE X (.Subscript e (.Slice lo hi none p2) pos) (tSl r te tl th) := by
  intro pins s σ H Q I h
  refine Subscript_ (thn (he pins s σ H _ I h) fun v s1 hq__ => ?_)
  obtain ⟨x, H1, I1, r1, q1⟩ := hq__
  refine wpAny_Slice (thn (hl pins s1 σ H1 _ I1 q1) fun vl s2 ⟨l, H2, I2, pl, q2⟩ => thn (hu pins s2 σ H2 _ I2 q2) fun vu s3 hq__ => ?_)
  obtain ⟨u, H3, I3, pu, q3⟩ := hq__
  rw [evalPart_none]
  refine wpAny_pure ?_
  have I4 : Inv X pins σ H3 { s3 with heap := s3.heap.push { cls := .type "slice", data := .fields #[vl, vu, .none] } } := I3.kept (t' := s3.toks) fun b ob q => Heap.get?_push_of_some _ q
  obtain ⟨T, id, hT, ht, hg⟩ := hr pins { s3 with heap := s3.heap.push { cls := .type "slice", data := .fields #[vl, vu, .none] } } σ H3 x v vl vu l u s3.heap.objs.size Q I4 r1 (Heap.IsSliceOf.new ..) pl pu q3
  show wpAny (model X.prog X.w) X.A (subscriptTail e (.Slice lo hi none p2) v (.ref s3.heap.objs.size)) (EP X pins σ Q) X.xe { s3 with heap := s3.heap.push { cls := .type "slice", data := .fields #[vl, vu, .none] } }
  exact tail_any (ops := [.ref s3.heap.objs.size, v]) ht hT hg (by with_unfolding_all rfl)
def cutV (xs : List V) (lo hi : Option Int) : List V := (xs.drop (HT.sIx xs.length 0 lo)).take (HT.sIx xs.length xs.length hi - HT.sIx xs.length 0 lo)
theorem cutV_length (xs : List V) (lo hi : Option Int) : (cutV xs lo hi).length ≤ xs.length := by
  unfold cutV
  rw [List.length_take, List.length_drop]
  omega
def rSlT (K : PySem.W.Frag) : V → Option Int → Option Int → Hp → VK → Prop := fun x lo hi H Q => ∃ a xs, x = .ref a ∧ SqT K H a xs ∧
  ¬ (HT.sIx xs.length 0 lo = 0 ∧ HT.sIx xs.length xs.length hi = xs.length) ∧ ∀ p, H p = none → Q (.ref p) (upd H p (.tup (cutV xs lo hi)))
theorem sl_tup : SlR X (rSlT X.K) := by
  intro pins s σ H x v vl vu lo hi sl Q I rx hs pl pu h
  obtain ⟨a, xs, rfl, hx, hw, q⟩ := h
  cases rx
  obtain ⟨its, r, ht, hz⟩ := I.tuple hx
  have hlen : its.toArray.size = xs.length := by rw [List.size_toArray]; exact r.length.symm
  refine ⟨"tuple", _, PyProof.Rows.slot_tuple_getitem.lookup, ht.typeIs, ?_⟩
  refine HT.getItem_tuple_cut ht hs pl pu (by rw [hlen]; exact hw) ?_ (by rw [hlen]; exact hz)
  rw [hlen]
  refine ⟨.ref s.heap.objs.size, _, I.laid (t' := s.toks) (o := .tup (cutV xs lo hi)) (fun b ob q => Heap.get?_push_of_some _ q) (Nat.le_refl _) ?_, rfl, q _ (I.hok.fresh (Nat.le_refl _))⟩
  exact ⟨Nat.le_trans (cutV_length xs lo hi) hz, _, (r.drop (HT.sIx xs.length 0 lo)).take (HT.sIx xs.length xs.length hi - HT.sIx xs.length 0 lo), IsTup.new _ _⟩
def rCatT (K : PySem.W.Frag) : R2 := fun x y H Q => ∃ a b xs ys, x = .ref a ∧ y = .ref b ∧ SqT K H a xs ∧ SqT K H b ys ∧ xs ≠ [] ∧ xs.length + ys.length ≤ sizeLine ∧
  (ys = [] → Q (.ref a) H) ∧ (ys ≠ [] → ∀ p, H p = none → Q (.ref p) (upd H p (.tup (xs ++ ys))))
theorem Vals.nil_iff {xs : List V} {us : List Value} (r : Vals xs us) : us = [] ↔ xs = [] := by
  cases r with
  | nil => simp
  | cons _ _ => simp
theorem op_catT : OpR X (binaryOp .Add) (rCatT X.K) := by
  intro pins s σ H x y v u Q I rx ry h
  obtain ⟨a, b, xs, ys, rfl, rfl, ha, hb, hx, hz, q1, q2⟩ := h
  cases rx
  cases ry
  obtain ⟨its, r1, p1, _⟩ := I.tuple ha
  obtain ⟨its2, r2, p2, _⟩ := I.tuple hb
  refine HT.cat_tup p1 p2 (fun z => hx (r1.nil_iff.mp z)) (fun z => ⟨.ref a, H, I, rfl, q1 (r2.nil_iff.mp z)⟩) (fun z => ?_) (by rw [← r1.length, ← r2.length]; exact hz)
  refine ⟨.ref s.heap.objs.size, _, I.laid (t' := s.toks) (o := .tup (xs ++ ys)) (fun b ob q => Heap.get?_push_of_some _ q) (Nat.le_refl _) ?_, rfl, q2 (fun w => z (r2.nil_iff.mpr w)) _ (I.hok.fresh (Nat.le_refl _))⟩
  exact ⟨by rw [List.length_append]; exact hz, _, r1.append r2, IsTup.new _ _⟩
end
end L2
namespace L2
open PySem PySem.Spec PyProof.Rows
def ixN (n : Nat) (i : Int) : Option Nat := if 0 ≤ i then (if i < n then some i.toNat else none) else if -(n : Int) ≤ i then some (i + n).toNat else none
def atI {α : Type} (xs : List α) (i : Int) : Option α := (ixN xs.length i).bind fun j => xs[j]?
theorem ixN_seq {n : Nat} {i : Int} {j : Nat} (h : ixN n i = some j) : seqIndex? i n = some j ∧ j < n ∧ -(n : Int) ≤ i ∧ i < n := by
  unfold ixN at h
  by_cases h0 : 0 ≤ i
  · rw [if_pos h0] at h
    by_cases h1 : i < n
    · rw [if_pos h1] at h
      have e : i.toNat = j := Option.some.inj h
      exact ⟨by rw [seqIndex_of h0 h1, e], by omega, by omega, h1⟩
    · rw [if_neg h1] at h; cases h
  · rw [if_neg h0] at h
    by_cases h1 : -(n : Int) ≤ i
    · rw [if_pos h1] at h
      have e : (i + n).toNat = j := Option.some.inj h
      exact ⟨by rw [seqIndex_neg (by omega) h1, e], by omega, h1, by omega⟩
    · rw [if_neg h1] at h; cases h
theorem atI_get {α : Type} {xs : List α} {i : Int} {v : α} (h : atI xs i = some v) : ∃ j, seqIndex? i xs.length = some j ∧ xs[j]? = some v ∧ j < xs.length ∧ -(xs.length : Int) ≤ i ∧ i < xs.length := by
  unfold atI at h
  cases e : ixN xs.length i with
  | none => rw [e] at h; cases h
  | some j =>
    rw [e] at h
    obtain ⟨h1, h2, h3, h4⟩ := ixN_seq e
    exact ⟨j, h1, h, h2, h3, h4⟩
theorem atI_nat {α : Type} {xs : List α} {j : Nat} {v : α} (h : xs[j]? = some v) : atI xs (j : Int) = some v := by
  have hj : j < xs.length := (List.getElem?_eq_some_iff.mp h).1
  have e : ixN xs.length (j : Int) = some j := by
    unfold ixN
    rw [if_pos (by omega), if_pos (by omega)]; simp
  unfold atI; rw [e]; exact h
def PlainIx (b : Expr) : Prop := ∀ o i, subscripted b false o i = operate [o, i] (getItem o i)
def IxR (X : Cx) (r : R2) : Prop :=
  ∀ (value slice : Expr) (pins : List (Addr × Obj)) (s : Shared) (σ : St) (H : Hp) (x y : V) (v u : Value) (Q : VK), Inv X pins σ H s → RelV x v → RelV y u → r x y H Q →
    subscripted slice false v u = operate [v, u] (getItem v u) → wpAny (model X.prog X.w) X.A (subscriptTail value slice v u) (EP X pins σ Q) X.xe s
def MtR (X : Cx) (id : String) (r : V → List V → Hp → VK → Prop) : Prop :=
  ∀ (pins : List (Addr × Obj)) (s : Shared) (σ : St) (H : Hp) (x : V) (xs : List V) (v : Value) (us : List Value) (Q : VK), Inv X pins σ H s → RelV x v → Vals xs us → r x xs H Q →
    wpAny (model X.prog X.w) X.A (call (.builtin id) (v :: us)) (EP X pins σ Q) X.xe s
section
variable {X : Cx} {a b : Expr} {ta tb : TE} {pos : Pos}
theorem IxR.or {r r' : R2} (h : IxR X r) (h' : IxR X r') : IxR X (fun x y H Q => r x y H Q ∨ r' x y H Q) := by
  intro value slice pins s σ H x y v u Q I rx ry q hs
  rcases q with q | q
  · exact h value slice pins s σ H x y v u Q I rx ry q hs
  · exact h' value slice pins s σ H x y v u Q I rx ry q hs
theorem MtR.or {id : String} {r r' : V → List V → Hp → VK → Prop} (h : MtR X id r) (h' : MtR X id r') : MtR X id (fun x xs H Q => r x xs H Q ∨ r' x xs H Q) := by
  intro pins s σ H x xs v us Q I rx rs q
  rcases q with q | q
  · exact h pins s σ H x xs v us Q I rx rs q
  · exact h' pins s σ H x xs v us Q I rx rs q
theorem pe_ix {r : R2} (hr : IxR X r) (ha : PE X a ta) (hb : PE X b tb) (hs : PlainIx b) : PE X (.Subscript a b pos) (tOp r ta tb) := by
  intro pins s σ H Q I h
  exact Subscript_ (binT ha hb I h fun v u s2 x y H2 I2 rx ry q => hr a b pins s2 σ H2 x y v u Q I2 rx ry q (hs _ _))
inductive rIxLS (K : PySem.W.Frag) (x y : V) (H : Hp) (Q : VK) : Prop
  | mk (p : Addr) (xs : List V) (i : Int) (v : V) (hx : x = .ref p) (hy : y = .int i) (hs : SqL K H p xs) (ha : atI xs i = some v) (k : Q v H)
def rIxL (K : PySem.W.Frag) : R2 := fun x y H Q => rIxLS K x y H Q
inductive rIxTS (K : PySem.W.Frag) (x y : V) (H : Hp) (Q : VK) : Prop
  | mk (p : Addr) (xs : List V) (i : Int) (v : V) (hx : x = .ref p) (hy : y = .int i) (hs : SqT K H p xs) (ha : atI xs i = some v) (k : Q v H)
def rIxT (K : PySem.W.Frag) : R2 := fun x y H Q => rIxTS K x y H Q
theorem ix_list : IxR X (rIxL X.K) := by
  intro value slice pins s σ H x y v u Q I rx ry h hs
  obtain ⟨p, xs, i, z, rfl, rfl, hq, he, q⟩ := h
  cases rx
  obtain ⟨t, rfl⟩ := ry
  obtain ⟨its, r, pl, hz⟩ := I.list hq
  obtain ⟨j, h1, h2, h3, h4, h5⟩ := atI_get he
  obtain ⟨w, ew, rw'⟩ := r.get h2
  have hl := r.length
  have hn := line63
  have fin : EP X pins σ Q w s := ⟨z, H, I, rw', q⟩
  by_cases h0 : 0 ≤ i
  · have hj : i.toNat = j := by
      rw [seqIndex_of h0 h5] at h1
      exact Option.some.inj h1
    exact item_listR pl.isList h0 (by omega) (by rw [hj]; simpa using ew) fin hs
  · have hj : (i + (its.toArray.size : Int)).toNat = j := by
      rw [seqIndex_neg (by omega) h4] at h1
      rw [List.size_toArray, ← hl]
      exact Option.some.inj h1
    exact subscriptTail_builtinR (x := w) pl.isList.typeIs slot_list_getitem.lookup
      (wpAny_getItem_list_neg (Q := fun r s' => r = w ∧ EP X pins σ Q r s') pl.isList (by omega) (by rw [List.size_toArray] <;> omega) (by omega) (by rw [hj]; simpa using ew) ⟨rfl, fin⟩) hs
theorem ix_tup : IxR X (rIxT X.K) := by
  intro value slice pins s σ H x y v u Q I rx ry h hs
  obtain ⟨p, xs, i, z, rfl, rfl, hq, he, q⟩ := h
  cases rx
  obtain ⟨t, rfl⟩ := ry
  obtain ⟨its, r, pl, hz⟩ := I.tuple hq
  obtain ⟨j, h1, h2, h3, h4, h5⟩ := atI_get he
  obtain ⟨w, ew, rw'⟩ := r.get h2
  have hl := r.length
  have hn := line63
  have fin : EP X pins σ Q w s := ⟨z, H, I, rw', q⟩
  exact subscriptTail_builtinR (x := w) pl.typeIs slot_tuple_getitem.lookup
    (getItem_tuple (j := j) (Q := fun r s' => r = w ∧ EP X pins σ Q r s') pl (by omega) (by omega) (by rw [List.size_toArray, ← hl]; exact h1) (by simpa using ew) ⟨rfl, fin⟩) hs
theorem Inv.lst {pins : List (Addr × Obj)} {σ : St} {H : Hp} {s : Shared} {p : Addr} {xs : List V} (I : Inv X pins σ H s) (h : H p = some (.lst xs)) :
    ∃ (its : List Value) (n : Nat), Vals xs its ∧ s.heap.get? p = some { cls := .type "list", data := .seq its.toArray n } ∧ xs.length ≤ sizeLine := by
  obtain ⟨z, its, n, r, e⟩ := I.hok p _ h
  exact ⟨its, n, r, e, z⟩
theorem slice_bounds (lo hi : Option Int) (n : Nat) : (sliceBounds lo hi none n).1 = ((HT.sIx n 0 lo : Nat) : Int) ∧ (sliceBounds lo hi none n).2.1 = ((HT.sIx n n hi : Nat) : Int) ∧ (sliceBounds lo hi none n).2.2 = 1 := by
  refine ⟨?_, ?_, rfl⟩
  · cases lo with
    | none => simp [sliceBounds, HT.sIx]
    | some i =>
      simp only [sliceBounds, HT.sIx, Option.getD_none, show (1 : Int) > 0 by decide, if_true]
      by_cases h : i < 0
      · simp only [h, if_true] <;> omega
      · simp only [h, if_false] <;> omega
  · cases hi with
    | none => simp [sliceBounds, HT.sIx]
    | some i =>
      simp only [sliceBounds, HT.sIx, Option.getD_none, show (1 : Int) > 0 by decide, if_true]
      by_cases h : i < 0
      · simp only [h, if_true] <;> omega
      · simp only [h, if_false] <;> omega
theorem slicePick_cut (its : List Value) (lo hi : Option Int) : slicePick its.toArray lo hi none = ((its.drop (HT.sIx its.length 0 lo)).take (HT.sIx its.length its.length hi - HT.sIx its.length 0 lo)).toArray := by
  obtain ⟨h1, h2, h3⟩ := slice_bounds lo hi its.toArray.size
  unfold slicePick
  rw [h1, h2, h3]
  simp only [sliceRange_one, pick_run, List.size_toArray] <;> rfl
def rSlL (K : PySem.W.Frag) : V → Option Int → Option Int → Hp → VK → Prop := fun x lo hi H Q => ∃ a xs, x = .ref a ∧ SqL K H a xs ∧ ∀ p, H p = none → Q (.ref p) (upd H p (.lst (cutV xs lo hi)))
theorem sl_list : SlR X (rSlL X.K) := by
  intro pins s σ H x v vl vu lo hi sl Q I rx hs pl pu h
  obtain ⟨a, xs, rfl, hx, q⟩ := h
  cases rx
  obtain ⟨its, r, ht, hz⟩ := I.list hx
  have hlen := r.length
  refine ⟨"list", _, slot_list_getitem.lookup, ht.isList.typeIs, ?_⟩
  refine wpAny_getItem_list_slice ht.isList hs pl pu .none (by simp) ?_ (by rw [List.size_toArray] <;> omega)
  rw [slicePick_cut, ← hlen]
  refine ⟨.ref s.heap.objs.size, _, I.laid (t' := s.toks) (o := .lst (cutV xs lo hi)) (fun b ob q => Heap.get?_push_of_some _ q) (Nat.le_refl _) ?_, rfl, q _ (I.hok.fresh (Nat.le_refl _))⟩
  exact ⟨Nat.le_trans (cutV_length xs lo hi) hz, _, 0, (r.drop (HT.sIx xs.length 0 lo)).take (HT.sIx xs.length xs.length hi - HT.sIx xs.length 0 lo), Heap.get?_push_size _ rfl⟩
def flatV : V → Bool
  | .non => true
  | .bl _ => true
  | .int _ => true
  | .str _ => true
  | _ => false
def eqV : V → V → Bool
  | .non, .non => true
  | .bl a, .bl b => a == b
  | .bl a, .int b => (if a then 1 else 0) == b
  | .int a, .bl b => a == (if b then 1 else 0)
  | .int a, .int b => a == b
  | .str a, .str b => a == b
  | _, _ => false
theorem eqAt_V {A : Around} {s : Shared} {y x : V} {u v : Value} (ry : RelV y u) (rx : RelV x v) (fy : flatV y = true) (fx : flatV x = true) : SeqAt.EqAt A s u v (eqV y x) := by
  cases y with
  | non =>
    cases ry
    cases x with
    | non => cases rx; exact SeqAt.EqAt.same _
    | bl b => cases rx; exact SeqAt.EqAt.none_bool b
    | int b => obtain ⟨t, rfl⟩ := rx; exact SeqAt.EqAt.none_int b t
    | str b => obtain ⟨t, rfl⟩ := rx; exact SeqAt.EqAt.none_str b t
    | _ => exact absurd (show false = true from fx) Bool.false_ne_true
  | bl a =>
    cases ry
    cases x with
    | non => cases rx; exact SeqAt.EqAt.bool_none a
    | bl b => cases rx; exact SeqAt.EqAt.bool_bool a b
    | int b => obtain ⟨t, rfl⟩ := rx; exact SeqAt.EqAt.bool_int a b t
    | str b => obtain ⟨t, rfl⟩ := rx; exact SeqAt.EqAt.bool_str a b t
    | _ => exact absurd (show false = true from fx) Bool.false_ne_true
  | int a =>
    obtain ⟨t', rfl⟩ := ry
    cases x with
    | non => cases rx; exact SeqAt.EqAt.int_none a t'
    | bl b => cases rx; exact SeqAt.EqAt.int_bool a t' b
    | int b => obtain ⟨t, rfl⟩ := rx; exact SeqAt.EqAt.int_int a t' b t
    | str b => obtain ⟨t, rfl⟩ := rx; exact SeqAt.EqAt.int_str a t' b t
    | _ => exact absurd (show false = true from fx) Bool.false_ne_true
  | str a =>
    obtain ⟨t', rfl⟩ := ry
    cases x with
    | non => cases rx; exact SeqAt.EqAt.str_none a t'
    | bl b => cases rx; exact SeqAt.EqAt.str_bool a t' b
    | int b => obtain ⟨t, rfl⟩ := rx; exact SeqAt.EqAt.str_int a t' b t
    | str b => obtain ⟨t, rfl⟩ := rx; exact SeqAt.EqAt.str_str a t' b t
    | _ => exact absurd (show false = true from fx) Bool.false_ne_true
  | _ => exact absurd (show false = true from fy) Bool.false_ne_true
def eqU (x : V) (u : Value) : Bool := match u with
  | .none => eqV .non x
  | .bool b => eqV (.bl b) x
  | .int i _ => eqV (.int i) x
  | .str z _ => eqV (.str z) x
  | _ => false
theorem eqU_of {x y : V} {u : Value} (r : RelV y u) (f : flatV y = true) : eqU x u = eqV y x := by
  cases y with
  | non => cases r; rfl
  | bl b => cases r; rfl
  | int i => obtain ⟨t, rfl⟩ := r; rfl
  | str z => obtain ⟨t, rfl⟩ := r; rfl
  | _ => exact absurd (show false = true from f) Bool.false_ne_true
theorem any_eqU {x : V} : ∀ {xs : List V} {us : List Value}, Vals xs us → xs.all flatV = true → us.any (eqU x) = xs.any fun y => eqV y x
  | _, _, .nil, _ => rfl
  | y :: xs, u :: us, .cons r t, f => by
    rw [List.all_cons, Bool.and_eq_true] at f
    rw [List.any_cons, List.any_cons, eqU_of r f.1, any_eqU t f.2]
theorem mem_eqAt {A : Around} {s : Shared} {x : V} {v : Value} (rx : RelV x v) (fx : flatV x = true) : ∀ {xs : List V} {us : List Value}, Vals xs us → xs.all flatV = true → ∀ u ∈ us, SeqAt.EqAt A s u v (eqU x u)
  | _, _, .nil, _ => fun u hu => by cases hu
  | y :: xs, u :: us, .cons r t, f => fun u' hu => by
    rw [List.all_cons, Bool.and_eq_true] at f
    rcases List.mem_cons.mp hu with rfl | hu
    · rw [eqU_of r f.1]; exact eqAt_V r rx f.1 fx
    · exact mem_eqAt rx fx t f.2 u' hu
def inV (x : V) (xs : List V) : Bool := xs.any fun y => eqV y x
def rIn (K : PySem.W.Frag) (neg : Bool) : R2 := fun x y H Q => ∃ p xs, y = .ref p ∧ (SqL K H p xs ∨ SqT K H p xs) ∧ flatV x = true ∧ xs.all flatV = true ∧ Q (.bl (if neg then !inV x xs else inV x xs)) H
theorem op_in_seq : OpR X (compareOp .In) (rIn X.K false) := by
  intro pins s σ H x y v u Q I rx ry h
  obtain ⟨p, xs, rfl, hq, fx, fs, q⟩ := h
  cases ry
  rcases hq with hq | hq
  · obtain ⟨its, r, pl, hz⟩ := I.list hq
    refine SeqAt.in_listAt (eqU x) pl.isList (fun w hw => mem_eqAt rx fx r fs w (by simpa using hw)) ⟨.bl _, H, I, rfl, ?_⟩
    rw [show its.toArray.any (eqU x) = its.any (eqU x) by simp, any_eqU r fs]
    exact q
  · obtain ⟨its, r, pl, hz⟩ := I.tuple hq
    refine SeqAt.in_tupleAt (eqU x) pl (fun w hw => mem_eqAt rx fx r fs w (by simpa using hw)) ⟨.bl _, H, I, rfl, ?_⟩
    rw [show its.toArray.any (eqU x) = its.any (eqU x) by simp, any_eqU r fs]
    exact q
theorem call_len_seq : CallR X (.builtin "len") (fun xs H Q => ∃ p ys, xs = [.ref p] ∧ (SqL X.K H p ys ∨ SqT X.K H p ys) ∧ Q (.int ys.length) H) := by
  intro pins s σ H xs us Q I r h
  obtain ⟨p, ys, rfl, hq, q⟩ := h
  obtain ⟨u, rfl, rx⟩ := vals1 r
  cases rx
  have hn := line63
  rcases hq with hq | hq
  · obtain ⟨its, r', pl, hz⟩ := I.list hq
    have hlen := r'.length
    exact Calls.call_len_list pl.isList (by simp only [List.size_toArray] <;> omega) ⟨.int ys.length, H, I.tok _, ⟨s.toks + 1, by rw [List.size_toArray, hlen]⟩, q⟩
  · obtain ⟨its, r', pl, hz⟩ := I.tuple hq
    have hlen := r'.length
    exact len_tuple pl (by simp only [List.size_toArray] <;> omega) ⟨.int ys.length, H, I.tok _, ⟨s.toks + 1, by rw [List.size_toArray, hlen]⟩, q⟩
theorem CallR.or {f : Value} {r r' : List V → Hp → VK → Prop} (h : CallR X f r) (h' : CallR X f r') : CallR X f (fun xs H Q => r xs H Q ∨ r' xs H Q) := by
  intro pins s σ H xs us Q I rs q
  rcases q with q | q
  · exact h pins s σ H xs us Q I rs q
  · exact h' pins s σ H xs us Q I rs q
theorem call_list_of : CallR X (.type "list") (fun xs H Q => ∃ p ys, xs = [.ref p] ∧ (SqL X.K H p ys ∨ SqT X.K H p ys) ∧ ∀ l, H l = none → Q (.ref l) (upd H l (.lst ys))) := by
  intro pins s σ H xs us Q I r h
  obtain ⟨p, ys, rfl, hq, q⟩ := h
  obtain ⟨u, rfl, rx⟩ := vals1 r
  cases rx
  have fin : ∀ (its : List Value), Vals ys its → ys.length ≤ sizeLine → ∀ (h' : Heap) (c' : Nat), (∀ b o', s.heap.get? b = some o' → h'.get? b = some o') →
      h'.get? s.heap.objs.size = some { cls := .type "list", dict := none, data := .seq its.toArray c', slots := #[] } → EP X pins σ Q (.ref s.heap.objs.size) { s with heap := h' } := fun its r' hz h' c' kp e =>
    ⟨.ref s.heap.objs.size, _, I.laid (t' := s.toks) kp (Nat.le_refl _) (show ObjOk X.prog X.w _ h' _ (.lst ys) from ⟨hz, its, c', r', e⟩), rfl, q _ (I.hok.fresh (Nat.le_refl _))⟩
  rcases hq with hq | hq
  · obtain ⟨its, r', pl, hz⟩ := I.list hq
    have hlen := r'.length
    obtain ⟨o, ho, hc, n, hd⟩ := pl.isList
    exact call_list_seq p (.inl rfl) ho hc hd (fun h' c' kp e => fin its r' hz h' c' kp e) (by simp only [List.size_toArray] <;> omega)
  · obtain ⟨its, r', pl, hz⟩ := I.tuple hq
    have hlen := r'.length
    obtain ⟨o, ho, hc, n, hd⟩ := pl
    exact call_list_seq p (.inr rfl) ho hc hd (fun h' c' kp e => fin its r' hz h' c' kp e) (by simp only [List.size_toArray] <;> omega)
def tyV (K : PySem.W.Frag) (T : String) (x : V) (H : Hp) : Prop := match x with
  | .str _ => T = "str"
  | .int _ => T = "int"
  | .ref p => (T = "list" ∧ ∃ xs, SqL K H p xs) ∨ (T = "tuple" ∧ ∃ o, K.lookup p = some o ∧ o.cls = .type "tuple" ∧ o.dict = none) ∨
      (T = "dict" ∧ ((∃ kvs, H p = some (.dK kvs)) ∨ ∃ kvs, H p = some (.dT kvs))) ∨ (T = "set" ∧ ∃ S n, H p = some (.set S n))
  | _ => False
theorem tyV_is {pins : List (Addr × Obj)} {σ : St} {H : Hp} {s : Shared} {T : String} {x : V} {v : Value} (I : Inv X pins σ H s) (r : RelV x v) (ty : tyV X.K T x H) :
    s.TypeIs v T ∧ ∀ a, v = .ref a → ∃ ob, s.heap.get? a = some ob ∧ ob.dict = none := by
  cases x with
  | str z =>
    obtain ⟨t, rfl⟩ := r
    cases (show T = "str" from ty)
    exact ⟨typeIs_str s z t, fun _ e => nomatch e⟩
  | int i =>
    obtain ⟨t, rfl⟩ := r
    cases (show T = "int" from ty)
    exact ⟨typeIs_int s i t, fun _ e => nomatch e⟩
  | ref p =>
    cases r
    rcases ty with ⟨rfl, xs, hq⟩ | ⟨rfl, o, hk, hc, hd⟩ | ⟨rfl, hk⟩ | ⟨rfl, S, n, hk⟩
    · obtain ⟨its, _, pl, _⟩ := I.list hq
      refine ⟨pl.isList.typeIs, fun a e => ?_⟩
      cases e
      obtain ⟨o, n, e, c, hd, _⟩ := pl
      exact ⟨o, e, hd⟩
    · refine ⟨⟨o, I.kIn p o hk, hc⟩, fun a e => ?_⟩
      cases e
      exact ⟨o, I.kIn _ o hk, hd⟩
    · have z : ∃ o, s.heap.get? p = some o ∧ o.ExactDict := by
        rcases hk with ⟨kvs, hk⟩ | ⟨kvs, hk⟩
        · obtain ⟨_, _, _, _, o, _, _, e, ex, _⟩ := I.hok p _ hk
          exact ⟨o, e, ex⟩
        · obtain ⟨_, _, _, _, o, _, _, e, ex, _⟩ := I.hok p _ hk
          exact ⟨o, e, ex⟩
      obtain ⟨o, e, ex⟩ := z
      refine ⟨⟨o, e, ex.1⟩, fun a e2 => ?_⟩
      cases e2
      exact ⟨o, e, ex.2.1⟩
    · obtain ⟨o, _, _, _, e, ex, _⟩ := I.hok p _ hk
      refine ⟨⟨o, e, ex.1⟩, fun a e2 => ?_⟩
      cases e2
      exact ⟨o, e, ex.2.1⟩
  | _ => exact False.elim ty
def tBM (K : PySem.W.Frag) (T : String) (r : V → List V → Hp → VK → Prop) (to : TE) (t : TA) : TE := fun σ H Q => to σ H fun x H1 => tyV K T x H1 ∧ t σ H1 fun xs H2 => r x xs H2 Q
variable {o e : Expr} {es : List Expr} {to : TE} {t : TA} {name : Str} {apos cpos : Pos} {T id : String} {r : V → List V → Hp → VK → Prop}
theorem pe_bm (pa : PlainAttrs T) (slot : Slot T name id) (hty : typeOf (.builtin id) = pure (.type "method_descriptor")) (hm : MtR X id r) (ho : PE X o to) (ha : PA X (e :: es) t)
    (hbase : attributeBase o name X.env (eval o X.env) = eval o X.env := by rfl)
    (hfew : ((backTo cpos (starEach (e :: es) X.env)).all (fun x => !x.1) && (backToKw cpos (keywordEach [] X.env)).all (fun x => x.1.isSome)
      && decide ((e :: es).length + ([] : List Keyword).length + (if ([] : List Keyword).isEmpty then 0 else 1) < 30)) = true := by rfl)
    (hline : (apos.endLine == cpos.line) = true := by rfl) (hs : starEach (e :: es) X.env = (false, eval e X.env) :: starEach es X.env := by rfl) (hplain : (backTo cpos (starEach es X.env)).any (·.1) = false := by rfl) :
    PE X (.Call (.Attribute o name apos) (e :: es) [] cpos) (tBM X.K T r to t) := by
  intro pins s σ H Q I h
  refine wpAny_Call_method_late hbase hfew hline rfl (thn (ho pins s σ H _ I h) fun v s1 hq__ => ?_)
  obtain ⟨x, H1, I1, r1, ty, q1⟩ := hq__
  obtain ⟨h1, h2⟩ := tyV_is I1 r1 ty
  refine ⟨T, id, pa, slot, hty, h1, h2, ?_⟩
  have hA := ha cpos pins s1 σ H1 _ I1 q1
  rw [hs] at hA ⊢
  refine Calls.callWith_builtin (by show (false || (backTo cpos (starEach es X.env)).any (·.1)) = false; rw [hplain] <;> rfl) (Calls.evalArgs_plain ?_)
  exact thn hA fun us s2 ⟨vs, H2, I2, r2, q2⟩ => hm pins s2 σ H2 x vs v us Q I2 r1 r2 q2
end
end L2
namespace L2
open PySem PySem.Spec PyProof.Rows
def MtM (X : Cx) (id : String) (r : V → List V → Hp → VK → Prop) : Prop :=
  ∀ (pins : List (Addr × Obj)) (s : Shared) (σ : St) (H : Hp) (x : V) (xs : List V) (v : Value) (us : List Value) (Q : VK), Inv X pins σ H s → RelV x v → Vals xs us → r x xs H Q →
    wpAny (model X.prog X.w) X.A (call (.builtin id) (v :: us)) (EP X pins σ Q) X.xe s
theorem Vals.one : ∀ {x : V} {us : List Value}, Vals [x] us → ∃ u, us = [u] ∧ RelV x u
  | _, _, .cons r .nil => ⟨_, rfl, r⟩
theorem Vals.two : ∀ {x y : V} {us : List Value}, Vals [x, y] us → ∃ u v, us = [u, v] ∧ RelV x u ∧ RelV y v
  | _, _, _, .cons r (.cons q .nil) => ⟨_, _, rfl, r, q⟩
theorem Vals.zero : ∀ {us : List Value}, Vals [] us → us = []
  | _, .nil => rfl
theorem Vals.reverse {xs : List V} {us : List Value} (h : Vals xs us) : Vals xs.reverse us.reverse := by
  induction h with
  | nil => exact .nil
  | cons r t ih => rw [List.reverse_cons, List.reverse_cons]; exact Vals.append ih (.cons r .nil)
section
variable {X : Cx} {pins : List (Addr × Obj)} {σ : St} {H : Hp} {s : Shared} {l b : Addr} {xs ys zs : List V}
theorem Inv.lset {its its' : List Value} {n : Nat} {f : Array Value → Array Value} {t' : Nat} (I : Inv X pins σ H s) (hH : H l = some (.lst xs))
    (e : s.heap.get? l = some { cls := .type "list", data := .seq its.toArray n }) (hf : f its.toArray = its'.toArray) (hv : Vals ys its') (hz : ys.length ≤ sizeLine) :
    Inv X pins σ (upd H l (.lst ys)) { s with heap := s.heap.update l (Obj.mapSeq f), toks := t' } := by
  have q := PySem.IsL.update e f
  rw [hf] at q
  refine I.write (x := l) (e := l) (by rw [hH]; exact trivial) (.inl rfl) (fun b' u hb hu => (Heap.get?_update_other s.heap (Obj.mapSeq f) (Ne.symm hb)).trans hu) ⟨_, q⟩ ?_
  exact ⟨hz, its', _, hv, q⟩
theorem Inv.lnew {its : List Value} {t' : Nat} (I : Inv X pins σ H s) (hv : Vals ys its) (hz : ys.length ≤ sizeLine) :
    Inv X pins σ (upd H s.heap.objs.size (.lst ys)) { s with heap := s.heap.push { cls := .type "list", data := .seq its.toArray }, toks := t' } :=
  I.laid (fun _ _ q => Heap.get?_push_of_some _ q) (Nat.le_refl _) ⟨hz, its, 0, hv, Heap.get?_push_size _ rfl⟩
theorem Inv.fresh (I : Inv X pins σ H s) : H s.heap.objs.size = none := I.hok.fresh (Nat.le_refl _)
theorem Inv.lstM (I : Inv X pins σ H s) (hH : H l = some (.lst xs)) : xs.length ≤ sizeLine ∧ ∃ (its : List Value) (n : Nat), Vals xs its ∧ xs.length = its.length ∧ s.heap.get? l = some { cls := .type "list", data := .seq its.toArray n } := by
  obtain ⟨z, its, n, r, e⟩ := I.hok l _ hH
  exact ⟨z, its, n, r, r.length, e⟩
end
section
variable {X : Cx}
def rAppend : V → List V → Hp → VK → Prop := fun x vs H Q => ∃ l xs y, x = .ref l ∧ vs = [y] ∧ H l = some (.lst xs) ∧ xs.length < sizeLine ∧ Q .non (upd H l (.lst (xs ++ [y])))
theorem mt_append : MtM X "list.append" rAppend := by
  intro pins s σ H x vs v us Q I rx rv h
  obtain ⟨l, xs, y, rfl, rfl, hH, hz, q⟩ := h
  cases rx
  obtain ⟨u, rfl, ru⟩ := rv.one
  obtain ⟨z, its, n, r, hl, e⟩ := I.lstM hH
  refine call_meets F.slot_list_append ⟨_, e, rfl⟩ F.entry_list_append (F.args_list_append_2 _ _) (PySem.list_append l its.toArray n u (by rw [List.size_toArray]; omega)) ⟨e, ?_⟩
  refine ⟨.non, _, I.lset (its' := its ++ [u]) hH e (by simp) (r.append (.cons ru .nil)) ?_, rfl, q⟩
  rw [List.length_append, List.length_singleton]
  omega
def rCat : R2 := fun x y H Q => ∃ l b xs zs, x = .ref l ∧ y = .ref b ∧ H l = some (.lst xs) ∧ H b = some (.lst zs) ∧ xs.length + zs.length ≤ sizeLine ∧ ∀ p, H p = none → Q (.ref p) (upd H p (.lst (xs ++ zs)))
theorem op_cat : OpR X (binaryOp .Add) rCat := by
  intro pins s σ H x y v u Q I rx ry h
  obtain ⟨l, b, xs, zs, rfl, rfl, hH, hB, hz, q⟩ := h
  cases rx
  cases ry
  obtain ⟨z, its, n, r, hl, e⟩ := I.lstM hH
  obtain ⟨z2, its2, n2, r2, hl2, e2⟩ := I.lstM hB
  refine PySem.P.add_list e e2 ?_ (by rw [List.size_toArray, List.size_toArray]; omega)
  have ea : its.toArray ++ its2.toArray = (its ++ its2).toArray := by simp
  rw [ea]
  exact ⟨.ref _, _, I.lnew (t' := s.toks) (r.append r2) (by rw [List.length_append]; omega), rfl, q _ I.fresh⟩
end
section
variable {prog : Program} {w : World} {A : Around} {E : Value → Shared → Prop} {s : Shared}
end
section
variable {X : Cx}
end
end L2
namespace L2
open PySem PySem.Spec PyProof.Rows
section
variable {κ : Type} [DecidableEq κ]
def valV (kvs : List (κ × V)) (k : κ) : Option V := (kvs.find? fun kv => decide (kv.1 = k)).map (·.2)
def putK (kvs : List (κ × V)) (k : κ) (v : V) : List (κ × V) :=
  if (kvs.any fun kv => decide (kv.1 = k)) = true then kvs.map (fun kv => if kv.1 = k then (kv.1, v) else kv) else kvs ++ [(k, v)]
def dropK (kvs : List (κ × V)) (k : κ) : List (κ × V) := kvs.filter fun kv => decide (kv.1 ≠ k)
theorem valV_pos {p : κ × V} {r : List (κ × V)} {k : κ} (e : p.1 = k) : valV (p :: r) k = some p.2 := by simp [valV, List.find?_cons, e]
theorem valV_neg {p : κ × V} {r : List (κ × V)} {k : κ} (e : ¬ p.1 = k) : valV (p :: r) k = valV r k := by simp [valV, List.find?_cons, e]
theorem valV_any (k : κ) : ∀ kvs : List (κ × V), (kvs.any fun kv => decide (kv.1 = k)) = (valV kvs k).isSome
  | [] => rfl
  | p :: r => by
    rw [List.any_cons]
    by_cases e : p.1 = k
    · simp only [valV_pos e, decide_eq_true e, Bool.true_or, Option.isSome_some]
    · rw [valV_neg e, decide_eq_false e, Bool.false_or]; exact valV_any k r
theorem length_putK (kvs : List (κ × V)) (k : κ) (v : V) : (putK kvs k v).length ≤ kvs.length + 1 := by
  unfold putK
  split
  · rw [List.length_map]; omega
  · rw [List.length_append, List.length_cons, List.length_nil]; omega
theorem RelO.isSome_eq {o : Option V} {u : Option Value} (r : RelO o u) : o.isSome = u.isSome := by
  cases o with
  | none => cases u with
    | none => rfl
    | some _ => exact (show False from r).elim
  | some _ => cases u with
    | none => exact (show False from r).elim
    | some _ => rfl
theorem RelO.getD {o : Option V} {u : Option Value} {d : V} {d' : Value} (r : RelO o u) (rd : RelV d d') : RelV (o.getD d) (u.getD d') := by
  cases o with
  | none => cases u with
    | none => exact rd
    | some _ => exact (show False from r).elim
  | some _ => cases u with
    | none => exact (show False from r).elim
    | some _ => exact r
theorem KV.val {kvs : List (κ × V)} {vs : List (κ × Value)} (r : KV kvs vs) (k : κ) : RelO (valV kvs k) (valueAt vs k) := by
  unfold KV at r
  induction r with
  | nil => exact True.intro
  | @cons p q ps qs h t ih =>
    obtain ⟨h1, h2⟩ := h
    by_cases e : p.1 = k
    · have e' : q.1 = k := h1.symm.trans e
      have b : valueAt (q :: qs) k = some q.2 := by simp [valueAt, List.find?_cons, e']
      rw [valV_pos e, b]; exact h2
    · have e' : ¬ q.1 = k := fun z => e (h1.trans z)
      have b : valueAt (q :: qs) k = valueAt qs k := by simp [valueAt, List.find?_cons, e']
      rw [valV_neg e, b]; exact ih
theorem KV.any {kvs : List (κ × V)} {vs : List (κ × Value)} (r : KV kvs vs) (k : κ) : (kvs.any fun kv => decide (kv.1 = k)) = vs.any fun kv => decide (kv.1 = k) := by
  unfold KV at r
  induction r with
  | nil => rfl
  | cons h t ih => rw [List.any_cons, List.any_cons, ih, h.1]
theorem KV.repl {kvs : List (κ × V)} {vs : List (κ × Value)} (r : KV kvs vs) (k : κ) {y : V} {u : Value} (ry : RelV y u) :
    KV (kvs.map fun kv => if kv.1 = k then (kv.1, y) else kv) (vs.map fun kv => if kv.1 = k then (kv.1, u) else kv) := by
  unfold KV at r ⊢
  induction r with
  | nil => exact .nil
  | @cons p q ps qs h t ih =>
    rw [List.map_cons, List.map_cons]
    refine .cons ?_ ih
    obtain ⟨h1, h2⟩ := h
    by_cases e : p.1 = k
    · rw [if_pos e, if_pos (h1.symm.trans e)]; exact ⟨h1, ry⟩
    · rw [if_neg e, if_neg (fun z => e (h1.trans z))]; exact ⟨h1, h2⟩
theorem KV.put {kvs : List (κ × V)} {vs : List (κ × Value)} (r : KV kvs vs) (k : κ) {y : V} {u : Value} (ry : RelV y u) : KV (putK kvs k y) (stored vs k u) := by
  unfold putK stored
  rw [r.any k]
  by_cases e : (vs.any fun kv => decide (kv.1 = k)) = true
  · rw [if_pos e, if_pos e]; exact r.repl k ry
  · rw [if_neg e, if_neg e]; exact Paired.snoc r ⟨rfl, ry⟩
theorem KV.drop {kvs : List (κ × V)} {vs : List (κ × Value)} (r : KV kvs vs) (k : κ) : KV (dropK kvs k) (without vs k) := by
  unfold KV at r ⊢
  unfold dropK without
  induction r with
  | nil => exact .nil
  | @cons p q ps qs h t ih =>
    obtain ⟨h1, h2⟩ := h
    rw [List.filter_cons, List.filter_cons]
    by_cases e : p.1 = k
    · have a : ¬ decide (p.1 ≠ k) = true := by simp [e]
      have b : ¬ decide (q.1 ≠ k) = true := by simp [h1.symm.trans e]
      rw [if_neg a, if_neg b]; exact ih
    · have e' : ¬ q.1 = k := fun z => e (h1.trans z)
      have a : decide (p.1 ≠ k) = true := by simp [e]
      have b : decide (q.1 ≠ k) = true := by simp [e']
      rw [if_pos a, if_pos b]; exact .cons ⟨h1, h2⟩ ih
theorem KV.keys {kvs : List (κ × V)} {vs : List (κ × Value)} (r : KV kvs vs) : kvs.map (·.1) = vs.map (·.1) := by
  unfold KV at r
  induction r with
  | nil => rfl
  | cons h t ih => rw [List.map_cons, List.map_cons, ih, h.1]
theorem KV.length {kvs : List (κ × V)} {vs : List (κ × Value)} (r : KV kvs vs) : kvs.length = vs.length := Paired.length r
end
theorem kV_is {P : Program} {w : World} {k : Key} {u : Value} (r : RelV (kV k) u) : (mixKind P w).is k u = true := by
  cases k with
  | inl i => obtain ⟨t, e⟩ := (show ∃ t, u = Value.int i t from r); subst e; exact mixKind_int P w i t
  | inr x => obtain ⟨t, e⟩ := (show ∃ t, u = Value.str x t from r); subst e; exact mixKind_str P w x t
theorem items_are {P : Program} {w : World} : ∀ {ks : List Key} {us : List Value}, Vals (ks.map kV) us → ItemsAre (mixKind P w) ks us
  | [], _, r => by rw [List.map_nil] at r; cases r; exact .nil
  | k :: ks, _, r => by
    rw [List.map_cons] at r
    cases r with
    | cons h t => exact .cons (kV_is h) (items_are t)
abbrev KT (H : Hp) : List (List Key × V) → List (List Key × Addr × Value) → Prop := Paired fun p q => p.1 = q.1 ∧ H q.2.1 = some (.tup (p.1.map kV)) ∧ RelV p.2 q.2.2
theorem KT.val {H : Hp} {kvs : List (List Key × V)} {xs : List (List Key × Addr × Value)} (r : KT H kvs xs) (k : List Key) : RelO (valV kvs k) ((atKey xs k).map (·.2)) := by
  induction r with
  | nil => exact True.intro
  | @cons p q ps qs h t ih =>
    obtain ⟨h1, _, h2⟩ := h
    by_cases e : p.1 = k
    · have e' : q.1 = k := h1.symm.trans e
      have b : atKey (q :: qs) k = some q.2 := by simp [atKey, List.find?_cons, e']
      rw [valV_pos e, b]; exact h2
    · have e' : ¬ q.1 = k := fun z => e (h1.trans z)
      have b : atKey (q :: qs) k = atKey qs k := by simp [atKey, List.find?_cons, e']
      rw [valV_neg e, b]; exact ih
theorem KT.repl {H : Hp} {kvs : List (List Key × V)} {xs : List (List Key × Addr × Value)} (r : KT H kvs xs) (k : List Key) {y : V} {u : Value} (ry : RelV y u) :
    KT H (kvs.map fun kv => if kv.1 = k then (kv.1, y) else kv) (xs.map (putAt k u)) := by
  induction r with
  | nil => exact .nil
  | @cons p q ps qs h t ih =>
    rw [List.map_cons, List.map_cons]
    refine .cons ?_ ih
    obtain ⟨h1, h2, h3⟩ := h
    unfold putAt
    by_cases e : p.1 = k
    · rw [if_pos e, if_pos (h1.symm.trans e)]; exact ⟨h1, h2, ry⟩
    · rw [if_neg e, if_neg (fun z => e (h1.trans z))]; exact ⟨h1, h2, h3⟩
theorem KT.put {H : Hp} {kvs : List (List Key × V)} {xs : List (List Key × Addr × Value)} (r : KT H kvs xs) (k : List Key) {b : Addr} {y : V} {u : Value} (hb : H b = some (.tup (k.map kV))) (ry : RelV y u) :
    KT H (putK kvs k y) (storedH xs k b u) := by
  have e : (kvs.any fun kv => decide (kv.1 = k)) = (atKey xs k).isSome := by
    rw [valV_any, (r.val k).isSome_eq, Option.isSome_map]
  unfold putK storedH
  rw [e]
  by_cases q : (atKey xs k).isSome = true
  · rw [if_pos q, if_pos q]; exact r.repl k ry
  · rw [if_neg q, if_neg q]; exact Paired.snoc r ⟨rfl, hb, ry⟩
theorem KT.keeps {H H' : Hp} {kvs : List (List Key × V)} {xs : List (List Key × Addr × Value)} (r : KT H kvs xs) (ht : ∀ b ys, H b = some (.tup ys) → H' b = some (.tup ys)) : KT H' kvs xs :=
  Paired.mapP r fun _ _ z => ⟨z.1, ht _ _ z.2.1, z.2.2⟩
section
variable {P : Program} {w : World} {H : Hp} {h : Heap} {a : Addr}
theorem rd_of {u : HO} (ok : HOk P w H h) (e : Rd H a u) : ObjOk P w H h a u := e.ok ok
theorem dk_rd {kvs : List (Key × V)} (ok : HOk P w H h) (e : Rd H a (.dK kvs)) : kvs.length ≤ sizeLine ∧ (a == sysModules) = false ∧ ∃ vs, KV kvs vs ∧ h.DictOf (mixKind P w) a vs :=
  show ObjOk P w H h a (.dK kvs) from rd_of ok e
theorem dk_of {kvs : List (Key × V)} (ok : HOk P w H h) (e : H a = some (.dK kvs)) : kvs.length ≤ sizeLine ∧ (a == sysModules) = false ∧ ∃ vs, KV kvs vs ∧ h.DictOf (mixKind P w) a vs := dk_rd ok (.inl e)
theorem key_of {ks : List Key} (ok : HOk P w H h) (e : H a = some (.tup (ks.map kV))) : (tupleKind (mixKind P w)).is h ks a := by
  obtain ⟨_, its, r, o, h1, h2, n, h3⟩ := (show ObjOk P w H h a (.tup (ks.map kV)) from ok a _ e)
  exact ⟨o, its.toArray, n, h1, h2, h3, by simpa using items_are r⟩
theorem dt_rd {kvs : List (List Key × V)} (ok : HOk P w H h) (e : Rd H a (.dT kvs)) : kvs.length ≤ sizeLine ∧ (a == sysModules) = false ∧
    ∃ xs, KT H kvs xs ∧ h.DictOfH (tupleKind (mixKind P w)) a xs := by
  obtain ⟨z, y, xs, r, o, es, ep, h1, h2, h3, h4, h5⟩ := (show ObjOk P w H h a (.dT kvs) from rd_of ok e)
  refine ⟨z, y, xs, r, o, es, ep, h1, h2, h3, h4, fun x hx => ?_, h5⟩
  have all : ∀ {l : List (List Key × V)} {m : List (List Key × Addr × Value)}, KT H l m → ∀ x ∈ m, (tupleKind (mixKind P w)).is h x.1 x.2.1 := by
    intro l m q
    induction q with
    | nil => intro x hx; exact nomatch hx
    | @cons p q ps qs hq t ih =>
      intro x hx
      rcases List.mem_cons.mp hx with e | hx
      · subst e
        exact key_of ok (by rw [← hq.1]; exact hq.2.1)
      · exact ih x hx
  exact all r x hx
theorem dt_of {kvs : List (List Key × V)} (ok : HOk P w H h) (e : H a = some (.dT kvs)) : kvs.length ≤ sizeLine ∧ (a == sysModules) = false ∧
    ∃ xs, KT H kvs xs ∧ h.DictOfH (tupleKind (mixKind P w)) a xs := dt_rd ok (.inl e)
end
def DGet (H : Hp) (a : Addr) (y : V) (r : Option V) : Prop :=
  (∃ kvs k, Rd H a (.dK kvs) ∧ y = kV k ∧ r = valV kvs k) ∨ ∃ kvs k b, Rd H a (.dT kvs) ∧ y = .ref b ∧ H b = some (.tup (k.map kV)) ∧ r = valV kvs k
def DPut (H : Hp) (a : Addr) (y v : V) (H' : Hp) : Prop :=
  (∃ kvs k, H a = some (.dK kvs) ∧ y = kV k ∧ kvs.length < sizeLine ∧ H' = upd H a (.dK (putK kvs k v))) ∨
  ∃ kvs k b, H a = some (.dT kvs) ∧ y = .ref b ∧ H b = some (.tup (k.map kV)) ∧ kvs.length < sizeLine ∧ H' = upd H a (.dT (putK kvs k v))
theorem DGet.k {H : Hp} {a : Addr} {kvs : List (Key × V)} {k : Key} (e : H a = some (.dK kvs)) : DGet H a (kV k) (valV kvs k) := .inl ⟨kvs, k, .inl e, rfl, rfl⟩
theorem DGet.t {H : Hp} {a b : Addr} {kvs : List (List Key × V)} {k : List Key} (e : H a = some (.dT kvs)) (eb : H b = some (.tup (k.map kV))) : DGet H a (.ref b) (valV kvs k) := .inr ⟨kvs, k, b, .inl e, rfl, eb, rfl⟩
theorem DPut.k {H : Hp} {a : Addr} {kvs : List (Key × V)} {k : Key} {v : V} (e : H a = some (.dK kvs)) (hl : kvs.length < sizeLine) : DPut H a (kV k) v (upd H a (.dK (putK kvs k v))) := .inl ⟨kvs, k, e, rfl, hl, rfl⟩
theorem DPut.t {H : Hp} {a b : Addr} {kvs : List (List Key × V)} {k : List Key} {v : V} (e : H a = some (.dT kvs)) (eb : H b = some (.tup (k.map kV))) (hl : kvs.length < sizeLine) :
    DPut H a (.ref b) v (upd H a (.dT (putK kvs k v))) := .inr ⟨kvs, k, b, e, rfl, eb, hl, rfl⟩
section
variable {X : Cx} {pins : List (Addr × Obj)} {σ : St} {H : Hp} {s : Shared} {a : Addr} {y v : V} {u r : Value} {o : Option V} {A : Around} {E : Value → Shared → Prop}
theorem Inv.big (I : Inv X pins σ H s) : sysModules < s.heap.objs.size := by
  have h : mainGlobals < s.heap.objs.size := (I.mod.glob.keeps I.bk).lt
  exact Nat.lt_trans (by decide) h
theorem d_getItem {Q : Value → Shared → Prop} (hu : A.units + 1 < cLine) (I : Inv X pins σ H s) (g : DGet H a y (some v)) (ry : RelV y u) (h : ∀ w' s', Inv X pins σ H s' → RelV v w' → Q w' s') :
    wpAny (model X.prog X.w) A (getItem (.ref a) u) Q E s := by
  rcases g with ⟨kvs, k, e, ey, l⟩ | ⟨kvs, k, b, e, ey, eb, l⟩
  · subst ey
    obtain ⟨z, hd, vs, rel, dd⟩ := dk_rd I.hok e
    obtain ⟨w', hw, rw'⟩ := RelO.some_of (v := v) (o := valueAt vs k) (by rw [l]; exact rel.val k)
    exact wpAny_getItem_of (kV_is ry) dd.mapOf hw (h w' _ (I.tok _) rw')
  · subst ey
    cases (show u = Value.ref b from ry)
    obtain ⟨z, hd, xs, rel, dd⟩ := dt_rd I.hok e
    obtain ⟨w', hw, rw'⟩ := RelO.some_of (v := v) (o := (atKey xs k).map (·.2)) (by rw [l]; exact rel.val k)
    obtain ⟨p, hp, hp2⟩ := Option.map_eq_some_iff.mp hw
    refine wpAny_getItem_heap (tupleKind_room_in1 hu) (key_of I.hok eb) dd hp ?_
    rw [hp2]
    exact h w' _ (I.tok _) rw'
theorem d_in {Q : Value → Shared → Prop} (hu : A.units + 1 < cLine) (I : Inv X pins σ H s) (g : DGet H a y o) (ry : RelV y u) (h : ∀ s', Inv X pins σ H s' → Q (.bool o.isSome) s') :
    wpAny (model X.prog X.w) A (compareOp .In u (.ref a)) Q E s := by
  rcases g with ⟨kvs, k, e, ey, l⟩ | ⟨kvs, k, b, e, ey, eb, l⟩
  · subst ey
    obtain ⟨z, hd, vs, rel, dd⟩ := dk_rd I.hok e
    refine wpAny_in_of (kV_is ry) hd dd.mapOf ?_
    rw [← (rel.val k).isSome_eq, ← l]
    exact h _ (I.tok _)
  · subst ey
    cases (show u = Value.ref b from ry)
    obtain ⟨z, hd, xs, rel, dd⟩ := dt_rd I.hok e
    refine wpAny_in_heap (tupleKind_room_in1 hu) (key_of I.hok eb) hd dd ?_
    have q := (rel.val k).isSome_eq
    rw [Option.isSome_map] at q
    rw [← q, ← l]
    exact h _ (I.tok _)
theorem d_notIn {Q : Value → Shared → Prop} (hu : A.units + 1 < cLine) (I : Inv X pins σ H s) (g : DGet H a y o) (ry : RelV y u) (h : ∀ s', Inv X pins σ H s' → Q (.bool (!o.isSome)) s') :
    wpAny (model X.prog X.w) A (compareOp .NotIn u (.ref a)) Q E s := by
  rcases g with ⟨kvs, k, e, ey, l⟩ | ⟨kvs, k, b, e, ey, eb, l⟩
  · subst ey
    obtain ⟨z, hd, vs, rel, dd⟩ := dk_rd I.hok e
    refine wpAny_notIn_of (kV_is ry) hd dd.mapOf ?_
    rw [← (rel.val k).isSome_eq, ← l]
    exact h _ (I.tok _)
  · subst ey
    cases (show u = Value.ref b from ry)
    obtain ⟨z, hd, xs, rel, dd⟩ := dt_rd I.hok e
    refine wpAny_notIn_heap (tupleKind_room_in1 hu) (key_of I.hok eb) hd dd ?_
    have q := (rel.val k).isSome_eq
    rw [Option.isSome_map] at q
    rw [← q, ← l]
    exact h _ (I.tok _)
theorem d_write {h' : Heap} {t' : Nat} {ob : HO} (I : Inv X pins σ H s) (mu : Mut (H a)) (hs : Heap.SameBut a s.heap h') (he : ∃ q, h'.get? a = some q) (new : ObjOk X.prog X.w (upd H a ob) h' a ob) :
    Inv X pins σ (upd H a ob) { s with heap := h', toks := t' } :=
  I.write (x := a) (e := a) mu (.inl rfl) (fun b q hb z => (hs.2 b hb).trans z) he new
theorem dk_new {P : Program} {w : World} {H' : Hp} {h' : Heap} {kvs : List (Key × V)} {vs : List (Key × Value)} (z : kvs.length ≤ sizeLine) (hd : (a == sysModules) = false) (rel : KV kvs vs) (dd : h'.DictOf (mixKind P w) a vs) :
    ObjOk P w H' h' a (.dK kvs) := ⟨z, hd, vs, rel, dd⟩
theorem d_setItem {H' : Hp} {Q : Unit → Shared → Prop} (hu : A.units + 1 < cLine) (I : Inv X pins σ H s) (g : DPut H a y v H') (ry : RelV y u) (rv : RelV v r) (h : ∀ s', Inv X pins σ H' s' → Q () s') :
    wpAny (model X.prog X.w) A (setItem (.ref a) u r) Q E s := by
  rcases g with ⟨kvs, k, e, ey, l, eH⟩ | ⟨kvs, k, b, e, ey, eb, l, eH⟩
  · subst ey eH
    obtain ⟨z, hd, vs, rel, dd⟩ := dk_of I.hok e
    have hz : vs.length ≤ sizeLine := by rw [← rel.length]; exact z
    have hl : (putK kvs k v).length ≤ sizeLine := by have := length_putK kvs k v; omega
    refine wpAny_setItem_pairs (hsz := hz) (kV_is ry) dd fun h' dd' hs => h _ ?_
    have he : ∃ q, h'.get? a = some q := let ⟨q, _, _, hq, _⟩ := dd'; ⟨q, hq⟩
    exact d_write I (by rw [e]; exact True.intro) hs he (dk_new hl hd (rel.put k rv) dd')
  · subst ey eH
    cases (show u = Value.ref b from ry)
    obtain ⟨z, hd, xs, rel, dd⟩ := dt_of I.hok e
    have hz : xs.length ≤ sizeLine := by rw [← Paired.length rel]; exact z
    have hl : (putK kvs k v).length ≤ sizeLine := by have := length_putK kvs k v; omega
    refine wpAny_setItem_heap (hsz := hz) (tupleKind_room_in1 hu) (key_of I.hok eb) dd fun h' dd' hs => h _ ?_
    obtain ⟨q, es, ep, hq, h2, h3, h4, _, h5⟩ := dd'
    refine d_write I (by rw [e]; exact True.intro) hs ⟨q, hq⟩ ⟨hl, hd, _, (rel.put k eb rv).keeps fun c ys ec => ?_, q, es, ep, hq, h2, h3, h4, h5⟩
    rw [upd_ne (ne_of ec e (fun z => nomatch z))]
    exact ec
end
section
variable {X : Cx} {pins : List (Addr × Obj)} {σ : St} {H : Hp} {s : Shared} {a : Addr} {kvs : List (Key × V)} {k : Key} {u : Value} {A : Around} {E : Value → Shared → Prop}
end
def NoSl (i : Expr) : Prop := ∀ ov iv, subscripted i false ov iv = operate [ov, iv] (getItem ov iv)
theorem subD_of {prog : Program} {w : World} {A : Around} {E : Value → Shared → Prop} {s : Shared} {env : Env} {value slice : Expr} {pos : Pos} {T id : String} {Q : Value → Shared → Prop}
    (hl : typeLookup (.type T) "__getitem__" = pure (some (.builtin id))) (hs : NoSl slice)
    (h : wpAny (model prog w) A (eval value env) (fun o s₁ => wpAny (model prog w) A (eval slice env) (fun i s₂ => s₂.TypeIs o T ∧ wpAny (model prog w) A (getItem o i) Q E s₂) E s₁) E s) :
    wpAny (model prog w) A (eval (.Subscript value slice pos) env) Q E s := by
  refine Subscript_ (wpAny_mono h (fun o s₁ h₁ => wpAny_mono h₁ (fun i s₂ h₂ => ?_) fun _ _ x => x) fun _ _ x => x)
  obtain ⟨hT, h₂⟩ := h₂
  unfold subscriptTail
  refine wpAny_bind ?_
  rw [getitemInPython_of_ne hT.not_modules]
  refine wpAny_bind (wpAny_specialOf hT hl ?_)
  have fin : wpAny (model prog w) A (subscripted slice false o i) (fun r s₃ => wpAny (model prog w) A (letTemporaryGo value o r >>= fun _ => pure r) Q E s₃) E s₂ := by
    rw [hs o i]
    exact wpAny_operating (wpAny_mono h₂ (fun r s₃ h₃ => wpAny_bind (wpAny_letTemporaryGo (wpAny_pure h₃))) fun _ _ x => x)
  first
    | exact wpAny_pure (wpAny_bind fin)
    | exact wpAny_bind (wpAny_pure (wpAny_bind fin))
    | exact wpAny_bind fin
theorem dict_typeIs {X : Cx} {pins : List (Addr × Obj)} {σ : St} {H : Hp} {s : Shared} {a : Addr} {y : V} {o : Option V} (I : Inv X pins σ H s) (g : DGet H a y o) : s.TypeIs (.ref a) "dict" := by
  rcases g with ⟨kvs, k, e, _, _⟩ | ⟨kvs, k, b, e, _, _, _⟩
  · obtain ⟨_, _, vs, _, dd⟩ := dk_rd I.hok e
    exact dd.typeIs
  · obtain ⟨_, _, xs, _, dd⟩ := dt_rd I.hok e
    exact dd.typeIs
def tDGet (td ty : TE) : TE := fun σ H Q => td σ H fun x H1 => ty σ H1 fun y H2 => ∃ a v, x = .ref a ∧ DGet H2 a y (some v) ∧ Q v H2
def tDIn (ty td : TE) : TE := fun σ H Q => ty σ H fun y H1 => td σ H1 fun x H2 => ∃ a o, x = .ref a ∧ DGet H2 a y o ∧ Q (.bl o.isSome) H2
def tDNotIn (ty td : TE) : TE := fun σ H Q => ty σ H fun y H1 => td σ H1 fun x H2 => ∃ a o, x = .ref a ∧ DGet H2 a y o ∧ Q (.bl (!o.isSome)) H2
def sDPut (td ty tv : TE) : TS := fun D σ H => tv σ H fun v H1 => td σ H1 fun x H2 => ty σ H2 fun y H3 => ∃ a H4, x = .ref a ∧ DPut H3 a y v H4 ∧ D.nx σ H4
section
variable {X : Cx} {o i e value : Expr} {pos pos' tpos : Pos} {td ty tv : TE}
theorem pe_dget (hu : X.A.units + 1 < cLine) (ho : PE X o td) (hi : PE X i ty) (hs : NoSl i) : PE X (.Subscript o i pos) (tDGet td ty) := by
  intro pins s σ H Q I h
  refine subD_of PySem.F.slot_dict_getitem.lookup hs (thn (ho pins s σ H _ I h) fun u s1 ⟨x, H1, I1, rx, q1⟩ => thn (hi pins s1 σ H1 _ I1 q1) fun iv s2 hq__ => ?_)
  obtain ⟨y, H2, I2, ry, a, v, ex, g, q2⟩ := hq__
  subst ex
  obtain rfl : u = Value.ref a := rx
  exact ⟨dict_typeIs I2 g, d_getItem hu I2 g ry fun w' s3 I3 rw' => ⟨v, H2, I3, rw', q2⟩⟩
theorem pc_din (hu : X.A.units + 1 < cLine) (hi : PE X i ty) (ho : PE X o td) : PC X .In i o (tDIn ty td) := by
  intro pins s σ H Q I h
  refine thn (hi pins s σ H _ I h) fun iv s1 ⟨y, H1, I1, ry, q1⟩ => thn (ho pins s1 σ H1 _ I1 q1) fun u s2 hq__ => ?_
  obtain ⟨x, H2, I2, rx, a, ov, ex, g, q2⟩ := hq__
  subst ex
  obtain rfl : u = Value.ref a := rx
  exact d_in hu I2 g ry fun s3 I3 => ⟨.bl ov.isSome, H2, I3, rfl, q2⟩
theorem pc_dnotin (hu : X.A.units + 1 < cLine) (hi : PE X i ty) (ho : PE X o td) : PC X .NotIn i o (tDNotIn ty td) := by
  intro pins s σ H Q I h
  refine thn (hi pins s σ H _ I h) fun iv s1 ⟨y, H1, I1, ry, q1⟩ => thn (ho pins s1 σ H1 _ I1 q1) fun u s2 hq__ => ?_
  obtain ⟨x, H2, I2, rx, a, ov, ex, g, q2⟩ := hq__
  subst ex
  obtain rfl : u = Value.ref a := rx
  exact d_notIn hu I2 g ry fun s3 I3 => ⟨.bl (!ov.isSome), H2, I3, rfl, q2⟩
theorem ps_dput (hu : X.A.units + 1 < cLine) (ho : PE X o td) (hi : PE X i ty) (hv : PE X value tv) (hs : swapsWith value (some (.Subscript o i pos')) pos.line X.env = pure false) :
    PS X (.Assign [.Subscript o i pos'] value pos) (sDPut td ty tv) := by
  intro pins s σ H D I h
  refine wpAny_Assign_Subscript (thn (hv pins s σ H _ I h) fun r s1 ⟨v, H1, I1, rv, q1⟩ => thn (ho pins s1 σ H1 _ I1 q1) fun u s2 ⟨x, H2, I2, rx, q2⟩ => thn (hi pins s2 σ H2 _ I2 q2) fun iv s3 hq__ => ?_) hs
  obtain ⟨y, H3, I3, ry, a, H4, ex, g, q3⟩ := hq__
  subst ex
  obtain rfl : u = Value.ref a := rx
  exact d_setItem hu I3 g ry rv fun s4 I4 => ⟨σ, H4, I4, q3⟩
end
theorem dk_empty {P : Program} {w : World} {H : Hp} (h : Heap) (hb : sysModules < h.objs.size) : ObjOk P w H (h.push { cls := .type "dict", data := .dict #[] }) h.objs.size (.dK []) :=
  ⟨Nat.zero_le _, beq_eq_false_iff_ne.mpr (Ne.symm (Nat.ne_of_lt hb)), [], .nil, Heap.DictOf.new h⟩
theorem dt_empty {P : Program} {w : World} {H : Hp} (h : Heap) (hb : sysModules < h.objs.size) : ObjOk P w H (h.push { cls := .type "dict", data := .dict #[] }) h.objs.size (.dT []) :=
  ⟨Nat.zero_le _, beq_eq_false_iff_ne.mpr (Ne.symm (Nat.ne_of_lt hb)), [], .nil, _, #[], 0, Heap.get?_push_size _ rfl, ⟨rfl, rfl, rfl⟩, rfl, rfl, List.nodup_nil⟩
def tDNewK : TE := fun _ H Q => ∀ p, H p = none → Q (.ref p) (upd H p (.dK []))
def tDNewT : TE := fun _ H Q => ∀ p, H p = none → Q (.ref p) (upd H p (.dT []))
section
variable {X : Cx} {pos : Pos}
theorem pe_dnewK : PE X (.Dict [] [] pos) tDNewK := fun pins s σ H Q I h =>
  wpAny_Dict_empty ⟨.ref s.heap.objs.size, _, I.laid (a := s.heap.objs.size) (o := .dK []) (t' := s.toks) (fun _ _ q => Heap.get?_push_of_some _ q) (Nat.le_refl _) (dk_empty s.heap I.big), rfl, h _ (I.hok.fresh (Nat.le_refl _))⟩
theorem pe_dnewT : PE X (.Dict [] [] pos) tDNewT := fun pins s σ H Q I h =>
  wpAny_Dict_empty ⟨.ref s.heap.objs.size, _, I.laid (a := s.heap.objs.size) (o := .dT []) (t' := s.toks) (fun _ _ q => Heap.get?_push_of_some _ q) (Nat.le_refl _) (dt_empty s.heap I.big), rfl, h _ (I.hok.fresh (Nat.le_refl _))⟩
end
structure M1 (X : Cx) (o : Expr) (m : Str) (apos : Pos) (e : Expr) (cpos : Pos) : Prop where
  base : attributeBase o m X.env (eval o X.env) = eval o X.env
  few : ((backTo cpos (starEach [e] X.env)).all (fun x => !x.1) && (backToKw cpos (keywordEach [] X.env)).all (fun x => x.1.isSome)
    && decide (([e] : List Expr).length + ([] : List Keyword).length + (if ([] : List Keyword).isEmpty then 0 else 1) < 30)) = true
  line : (apos.endLine == cpos.line) = true
  trees : backTo cpos (starEach [e] X.env) = [(false, eval e X.env)]
structure M2 (X : Cx) (o : Expr) (m : Str) (apos : Pos) (e f : Expr) (cpos : Pos) : Prop where
  base : attributeBase o m X.env (eval o X.env) = eval o X.env
  few : ((backTo cpos (starEach [e, f] X.env)).all (fun x => !x.1) && (backToKw cpos (keywordEach [] X.env)).all (fun x => x.1.isSome)
    && decide (([e, f] : List Expr).length + ([] : List Keyword).length + (if ([] : List Keyword).isEmpty then 0 else 1) < 30)) = true
  line : (apos.endLine == cpos.line) = true
  trees : backTo cpos (starEach [e, f] X.env) = [(false, eval e X.env), (false, eval f X.env)]
section
variable {X : Cx} {pins : List (Addr × Obj)} {σ : St} {H : Hp} {s : Shared} {a : Addr} {y d : V} {u r : Value} {o : Option V} {A : Around} {E : Value → Shared → Prop}
end
section
variable {X : Cx} {o e f : Expr} {apos cpos : Pos} {td ty tx : TE}
end
section
variable {X : Cx} {pins : List (Addr × Obj)} {σ : St} {H : Hp} {s : Shared} {a : Addr} {kvs : List (Key × V)} {A : Around} {E : Value → Shared → Prop}
end
section
variable {X : Cx} {pins : List (Addr × Obj)} {σ : St} {H : Hp} {s : Shared} {a : Addr} {y : V} {u : Value} {A : Around} {E : Value → Shared → Prop}
end
end L2
namespace Att
open PySem PySem.W PySem.Calls PyProof.Rows
theorem ints_of_wellAll {P : Params} {h : Heap} : ∀ (ns : List Int) (vs : List Value), WellAll P h vs (ns.map WData.int) → IntsAre vs ns := by
  intro ns
  induction ns with
  | nil =>
    intro vs w
    rw [List.map_nil] at w
    cases w
    exact .nil
  | cons n ns ih =>
    intro vs w
    rw [List.map_cons] at w
    cases w with
    | cons a b =>
      cases a
      exact .cons _ _ (ih _ b)
theorem script_of {l : OpenLaw} {n : Nat} (hn : l.most = some n) {P : Params} {h : Heap} {args : List WData} {vals : List Value}
    (hpre : l.row.toRowW.claim.pre args = true) (hwl : WellAll P h vals args) :
    ∃ a vs ns, vals = [Value.ref a] ∧ args = [WData.list (ns.map WData.int)] ∧ h.get? a = some { cls := .type "list", data := .seq vs.toArray } ∧ IntsAre vs ns ∧ ns.length ≤ n := by
  have hsh : WShape.hasAll [] args [.list .int] = true := (pre_splitW hpre).1
  have hc : l.pre.holds [] { args := args } = true := (pre_splitW hpre).2
  obtain ⟨d, r, rfl, h1, h2⟩ := hasAllW_cons hsh
  obtain rfl := hasAllW_nil h2
  obtain ⟨xs, rfl, h3⟩ := hasW_list h1
  obtain ⟨ns, rfl⟩ := items_int h3
  have hlen : ns.length ≤ n := by
    unfold OpenLaw.pre at hc
    have h4 : (WTm.not (.lt (.lit (.int (n : Int))) (.len (.arg 0)))).holds [] { args := [.list (ns.map .int)] } = true := by
      have h4 := (holds_andW hc).1
      rw [hn] at h4
      exact h4
    have h5 := condW_of h4 (w_not (w_lt w_lit (w_len_list (w_arg rfl))))
    rw [List.length_map] at h5
    refine Nat.le_of_not_lt fun q => ?_
    have q' : (n : Int) < ((ns.length : Nat) : Int) := by omega
    first
      | (rw [decide_eq_true q'] at h5; exact absurd h5 (by decide))
      | (simp at h5; omega)
  cases hwl with
  | cons w1 w2 =>
    cases w2
    cases w1 with
    | list ho hall => exact ⟨_, _, ns, rfl, rfl, ho, ints_of_wellAll ns _ hall, hlen⟩
theorem post_true (l : OpenLaw) (args : List WData) : l.row.toRowW.claim.post args (.bool true) args = true :=
  postW_of (r := l.row.toRowW) (X := (true == true))
    (show WShape.has [] (.bool true) .bool = true by first | rfl | decide | simp [WShape.has, WShape.arms, WShape.armsAll])
    (show (WTm.eq .res (.lit (.bool true))).value [] { args := args, res := some (.bool true), after := args } = some (.bool (true == true)) from w_eq_bool (w_res rfl) w_lit) rfl
theorem attach_call {l : OpenLaw} {n : Nat} {q : Program} {loose : List Str} {XP : (Str → Option Value) → Heap → Prop} {YP : World → Heap → Prop} {d : DefRec}
    (hn : l.most = some n) (hdf : d.params.defaults = [])
    (call : ∀ (w : World) (s₀ s₁ : Shared) (mg mb : Str → Option Value) (fa : Addr) (o : Obj) (pm cd doc : Value) (a : Addr) (vs : List Value) (ns : List Int),
      Ground q loose [] XP w s₀ mg mb s₁.heap → YP w s₁.heap →
      s₁.heap.get? fa = some o → o.data = .func (docDef d.name d.params d.body d.scope pm cd doc) → s₁.heap.CodeRec cd d.name → mg d.name = some (.ref fa) →
      s₁.heap.get? a = some { cls := .type "list", data := .seq vs.toArray } → IntsAre vs ns → ns.length ≤ n → s₁.gens = #[] →
      codeAny (model l.prog w) callerA (.call (.ref fa) ⟨[.ref a], []⟩) (fun r s' => r = .ok (.ret (.bool true)) ∧ OldK s₁.heap s'.heap ∧ s'.os = s₁.os ∧ AllBare s'.gens) s₁) :
    WalkO q loose XP YP l.row.toRowW d [] (fun f vs => PySem.call f vs) := by
  intro w s₀ s₁ mg mb G Y fa o pm cd doc dV kV ho hd hcd hD hmg hg args vals as hpre hlay hrd hwl hlo
  obtain rfl : dV = .none := Dflts.none hD hdf
  obtain rfl : kV = .none := Dflts.noKw hD
  obtain ⟨a, vs, ns, rfl, rfl, hobj, hints, hlen⟩ := script_of hn hpre hwl
  refine enter_call (codeAny_mono (call w s₀ s₁ mg mb fa o pm cd doc a vs ns G Y ho (fd_plain hd) hcd hmg hobj hints hlen hg) fun r s' hq => ?_)
  obtain ⟨rfl, h2, h3, h4⟩ := hq
  exact ⟨.inl ⟨.bool true, .bool true, [], rfl, fun _ => rfl, .bool true, post_true l _, fun _ => ⟨List.Pairwise.nil, fun _ hm => (nomatch hm)⟩⟩, h2, h3, h4⟩
section
variable {prog : Program} {w : World} {A : Around} {E : Value → Shared → Prop} {s : Shared} {K : Frag}
def ledger (h : Heap) (L d : Addr) : List (Addr × Obj) := (List.range h.objs.size).filterMap fun a => if a = L ∨ a = d then none else (h.get? a).map fun o => (a, o)
end
end Att
namespace L2
open PySem PySem.Spec PyProof.Rows
theorem vals_ints : ∀ {vs : List Value} {ns : List Int}, IntsAre vs ns → Vals (ns.map V.int) vs
  | _, _, .nil => .nil
  | _, _, .cons n t h => .cons ⟨t, rfl⟩ (vals_ints h)
def Only (H : Hp) : Prop := ∀ b, H b = none ∨ ∃ o xs, H b = some (.frz o (.lst xs))
theorem law_call {P : Program} {w : World} {K : PySem.W.Frag} {mg mb : Str → Option Value} {CX : CXT} {k : Nat} {fa a : Addr} {fd : FuncData} {x : Str} {sp : Sp} {s₁ : Shared} {vs : List Value} {ns : List Int}
    (KX : K.In s₁.heap) (hns : s₁.heap.Ns mainGlobals mg) (hb : s₁.heap.Ns builtinsNs mb) (hbb : ∀ x : Str, x ≠ "__name__" → mb x = bootBuiltins x) (hlim : s₁.heap.NoLimit) (hnd : s₁.heap.NoDigits) (hg : s₁.gens = #[])
    (ha : s₁.heap.get? a = some { cls := .type "list", data := .seq vs.toArray }) (hi : IntsAre vs ns) (hl : ns.length ≤ sizeLine) (hr : Room k callerA)
    (F : ∀ base : Heap, K.In base → base.Ns mainGlobals mg → FnOk P w K mg base CX k fa fd [x] sp) (hbind : ∀ (s : Shared) (u : Value), BindsTo s fd ⟨[u], []⟩ [(x, u)])
    (hsp : ∀ H : Hp, Only H → SqL K H a (ns.map V.int) → sp [.ref a] H (fun v _ => v = .bl true) fun _ _ _ => False)
    (hCX : ∀ H e s', CX [] H s₁ (fun _ _ _ => False) e s' → False) :
    codeAny (model P w) callerA (.call (.ref fa) ⟨[.ref a], []⟩) (fun r s' => r = .ok (.ret (.bool true)) ∧ OldK s₁.heap s'.heap ∧ s'.os = s₁.os ∧ AllBare s'.gens) s₁ := by
  have rv := vals_ints hi
  have lenV := hi.length
  have core : ∀ H : Hp, Only H → SqL K H a (ns.map V.int) → HOk P w H s₁.heap → (∀ b, H b ≠ none → b = a) → (H a ≠ none → K.lookup a = none) →
      codeAny (model P w) callerA (.call (.ref fa) ⟨[.ref a], []⟩) (fun r s' => r = .ok (.ret (.bool true)) ∧ OldK s₁.heap s'.heap ∧ s'.os = s₁.os ∧ AllBare s'.gens) s₁ := by
    intro H hO hS hok hA hK
    have base_of : ∀ {b : Addr} {o : Obj}, s₁.heap.get? b = some o → H b = none → (hidT s₁.heap H).get? b = some o := fun e n => hidT_get e n
    have noA : ∀ {b : Addr} {o : Obj} {es : Array DictEntry} {ep : Nat}, s₁.heap.get? b = some o → o.data = .dict es ep → H b = none := fun {b o es ep} e d => by
      cases q : H b with
      | none => rfl
      | some u =>
        have e' : b = a := hA b (by rw [q]; simp)
        subst e'
        rw [ha] at e; cases e
        have d' : Data.seq vs.toArray _ = Data.dict es ep := d
        cases d'
    have nsK : ∀ {b : Addr} {m : Str → Option Value}, s₁.heap.Ns b m → (hidT s₁.heap H).Ns b m := fun {b m} ⟨o, es, ep, e, d, r⟩ => ⟨o, es, ep, base_of e (noA e d), d, r⟩
    have hKb : K.In (hidT s₁.heap H) := fun b o e => base_of (KX b o e) (by
      cases q : H b with
      | none => rfl
      | some u =>
        have e' : b = a := hA b (by rw [q]; simp)
        subst e'
        rw [hK (by rw [q]; simp)] at e; cases e)
    have hM : Mod K mg (hidT s₁.heap H) := ⟨hKb, nsK hns, ⟨mb, nsK hb, hbb⟩, let ⟨mc, h1, h2⟩ := hlim; ⟨mc, nsK h1, h2⟩, let ⟨mc, h1, h2⟩ := hnd; ⟨mc, nsK h1, h2⟩⟩
    have e0 : Env0 P w K mg (hidT s₁.heap H) callerA [] s₁ H := ⟨rfl, hM, fun b o e => of_hidT e, Nat.le_of_eq (hidT_size _ _), trivial, fun b hb => absurd (show b ∈ ([] : List Addr) from hb) (by simp), hok, .of_eq hg⟩
    refine codeAny_mono ((F _ hKb (nsK hns)).run callerA [] s₁ H ⟨[.ref a], []⟩ [.ref a] [.ref a] _ _ hr e0 (hbind s₁ (.ref a)) (.cons rfl .nil) (hsp H hO hS)) fun r s' h => ?_
    cases r with
    | error e => exact (hCX H e s' h).elim
    | ok fl =>
      cases fl with
      | next => exact False.elim h
      | brk => exact False.elim h
      | cont => exact False.elim h
      | ret u =>
        obtain ⟨v, H', os, bare, un, hok', r', q⟩ := h
        have q' : v = .bl true := q
        subst q'
        obtain rfl : u = Value.bool true := r'
        refine ⟨rfl, OldK.of_keep fun b o e => ?_, os, bare⟩
        cases q : H b with
        | none => exact un.keep b o e q (by intro z; exact absurd (show b ∈ ([] : List Addr) from z) (by simp)) (by simp)
        | some u =>
          rcases hO b with z | ⟨ob, xs, z⟩
          · rw [q] at z; cases z
          · have z2 := un.frzs b ob _ z
            obtain ⟨e1, _⟩ := hok b _ z
            obtain ⟨e2, _⟩ := hok' b _ z2
            rw [e] at e1; cases e1
            exact e2
  cases hk : K.lookup a with
  | some o =>
    have e := KX a o hk
    rw [ha] at e
    cases e
    refine core (fun _ => none) (fun _ => .inl rfl) (.inr ⟨_, vs.toArray, _, hk, rfl, rfl, rfl, by rw [List.size_toArray, lenV]; exact hl, by simpa using rv⟩) (fun b u z => by have z' : (none : Option HO) = some u := z; cases z') (fun b z => absurd rfl z) fun z => absurd rfl z
  | none =>
    refine core (fun b => if b = a then some (.frz { cls := .type "list", data := .seq vs.toArray } (.lst (ns.map V.int))) else none) (fun b => ?_) (.inl (.inr ⟨{ cls := .type "list", data := .seq vs.toArray }, if_pos rfl⟩)) (fun b u z => ?_) (fun b z => ?_) fun _ => hk
    · by_cases hb : b = a
      · exact .inr ⟨_, _, if_pos hb⟩
      · exact .inl (if_neg hb)
    · by_cases hb : b = a
      · have z' := (if_pos hb).symm.trans z
        cases z'
        subst hb
        exact ⟨ha, by rw [List.length_map]; exact hl, vs, _, rv, ha⟩
      · have z' := (if_neg hb).symm.trans z
        cases z'
    · by_cases hb : b = a
      · exact hb
      · exact absurd (if_neg hb) z
end L2
namespace L2
open PySem PySem.Spec PyProof.Rows
abbrev KOf {K : PySem.W.Frag} {h : Heap} (_ : K.In h) : PySem.W.Frag := K
theorem walk_of {l : PySem.W.OpenLaw} {n k : Nat} {q : Program} {loose : List Str} {XP : (Str → Option Value) → Heap → Prop} {YP : World → Heap → Prop} {d : DefRec} {K : Params → PySem.W.Frag} {CX : World → CXT} {sp : World → Sp} {x : Str}
    (hn : l.most = some n) (hn2 : n ≤ sizeLine) (hdf : d.params.defaults = []) (hr : Room k callerA)
    (hY : ∀ (w : World) (h : Heap), YP w h → (K w.params).In h)
    (F : ∀ (w : World) (mg : Str → Option Value) (fa : Addr) (h : Heap), (K w.params).In h → h.Ns mainGlobals mg → mg d.name = some (.ref fa) →
      ∃ fd : FuncData, (∀ (s : Shared) (u : Value), BindsTo s fd ⟨[u], []⟩ [(x, u)]) ∧
        ∀ base : Heap, (K w.params).In base → base.Ns mainGlobals mg → FnOk l.prog w (K w.params) mg base (CX w) k fa fd [x] (sp w))
    (hsp : ∀ (w : World) (H : Hp) (a : Addr) (ns : List Int), ns.length ≤ n → Only H → SqL (K w.params) H a (ns.map V.int) → sp w [.ref a] H (fun v _ => v = .bl true) fun _ _ _ => False)
    (hCX : ∀ (w : World) (H : Hp) (s : Shared) (e : Value) (s' : Shared), CX w [] H s (fun _ _ _ => False) e s' → False) :
    PySem.W.WalkO q loose XP YP l.row.toRowW d [] (fun f vs => PySem.call f vs) := by
  refine Att.attach_call hn hdf fun w s₀ s₁ mg mb fa o pm cd doc a vs ns G Y ho hd hcd hmg hobj hints hlen hg => ?_
  have KX := hY w _ Y
  obtain ⟨fd, hb, hF⟩ := F w mg fa _ KX G.T.g hmg
  exact law_call KX G.T.g G.T.b G.T.builtins G.T.nolimit G.T.nodigits hg hobj hints (Nat.le_trans hlen hn2) hr hF hb (fun H hO hS => hsp w H a ns hlen hO hS) fun H e s' => hCX w H s₁ e s'
end L2
namespace L2
open PySem PySem.Spec PyProof.Rows
def inClass (s : Stmt) (j : Nat) : Stmt := match s with
  | .ClassDef _ _ _ body _ _ _ _ _ _ _ => body.getD j (.Pass ⟨0, 0, 0, 0⟩)
  | _ => .Pass ⟨0, 0, 0, 0⟩
def defArgs (s : Stmt) : Arguments := match s with
  | .FunctionDef _ a _ _ _ _ _ _ _ _ => a
  | _ => { posonlyargs := [], args := [], vararg := none, kwonlyargs := [], kw_defaults := [], kwarg := none, defaults := [] }
def defBody (s : Stmt) : List Stmt := match s with
  | .FunctionDef _ _ b _ _ _ _ _ _ _ => b
  | _ => []
def defScope (s : Stmt) : Scope := match s with
  | .FunctionDef _ _ _ _ _ _ sc _ _ _ => sc
  | _ => { kind := .function, names := [], isGenerator := false, isCoroutine := false }
abbrev CX0 : CXT := fun _ _ _ _ _ _ => False
abbrev E0 : XK := fun _ _ _ => False
theorem pass0 {X : Cx} : Passes CX0 X E0 := fun _ _ _ _ _ _ _ h => h.elim
structure Fun (K : PySem.W.Frag) (x qual : Str) (st : Stmt) (f : Addr) (fd : FuncData) : Prop where
  ex : ∃ (oc : Value) (od : Option Addr) (kV doc pm : Value) (an : Option Addr) (cdv ct : Value) (osl : Array (Option Value)),
    fd = PySem.W.fnOf x qual (defArgs st) (defBody st) (defScope st) .none kV doc pm an cdv ct ∧ K.lookup f = some ⟨oc, od, .func fd, osl⟩ ∧ PySem.W.codeIn K cdv qual = true
  kp : PySem.W.keepIn K (.ref f) = true
section
variable {P : Program} {w : World} {K : PySem.W.Frag} {mg : Str → Option Value} {base : Heap}
theorem Fun.ok {x qual : Str} {st : Stmt} {f : Addr} {fd : FuncData} {N ps : List Str} {k : Nat} {sp : Sp} (F : Fun K x qual st f fd) (S : FnScope N ps (defScope st)) (len : ∀ vs H Q E, sp vs H Q E → vs.length = ps.length)
    (hbody : ∀ (cdv : Value) (A : Around) (outer : List Env) (s : Shared) (H : Hp) (vs : List V) (Q : VK) (E : XK), Room k (A.deeper (envOfC qual (defScope st) s.heap.objs.size f cdv)) → sp vs H Q E →
      ∃ t, PSs (cxOf CX0 P w K mg base N qual (defScope st) f cdv A outer s H E).nox (defBody st) t ∧ t { nx := fun _ H' => Q .non H', rt := Q } (start N vs) H) : FnOk P w K mg base CX0 (k + 1) f fd ps sp := by
  obtain ⟨oc, od, kV, doc, pm, an, cdv, ct, osl, rfl, lk, hcd⟩ := F.ex
  refine fn_of lk hcd S len fun A outer s H vs Q E hr hsp => ?_
  obtain ⟨t, h, q⟩ := hbody cdv A outer s H vs Q E hr hsp
  exact ⟨t, h.nox, q⟩
theorem Fun.binds {x qual : Str} {st : Stmt} {f : Addr} {fd : FuncData} {ps : List Str} (F : Fun K x qual st f fd)
    (h : ∀ (kV doc pm : Value) (an : Option Addr) (cdv ct : Value) (us : List Value), us.length = ps.length → bindArgs (PySem.W.fnOf x qual (defArgs st) (defBody st) (defScope st) .none kV doc pm an cdv ct) ⟨us, []⟩ = pure (ps.zip us)) : Binds K fd ps [] := by
  obtain ⟨oc, od, kV, doc, pm, an, cdv, ct, osl, rfl, lk, hcd⟩ := F.ex
  exact .all (h kV doc pm an cdv ct)
theorem fun_mk {x qual : Str} {st : Stmt} {f : Addr} {oc : Value} {od an : Option Addr} {osl : Array (Option Value)} {kV doc pm cdv ct : Value} (l : K.lookup f = some ⟨oc, od, .func (PySem.W.fnOf x qual (defArgs st) (defBody st) (defScope st) .none kV doc pm an cdv ct), osl⟩)
    (c : PySem.W.codeIn K cdv qual = true) (k : PySem.W.keepIn K (.ref f) = true) : Fun K x qual st f (PySem.W.fnOf x qual (defArgs st) (defBody st) (defScope st) .none kV doc pm an cdv ct) := ⟨⟨oc, od, kV, doc, pm, an, cdv, ct, osl, rfl, l, c⟩, k⟩
end
theorem hu_of {A : Around} {k : Nat} (hr : Room k A) : A.units + 1 < cLine := Nat.lt_of_le_of_lt (Nat.add_le_add_left (by decide : 1 ≤ 64) _) hr.units
theorem small1000 {n : Nat} (h : n ≤ 1000) : n < sizeLine := Nat.lt_of_le_of_lt h (by decide)
section
variable {X : Cx}
theorem pv (i : Nat) {x : Str} {pos : Pos} (hN : X.N[i]? = some x := by rfl) (hv : Vis X.env.scope x := by first | exact Or.inl rfl | exact Or.inr (Or.inl rfl) | exact Or.inr (Or.inr rfl)) (hd : (x == ("__debug__" : Str)) = false := by decide)
    (hcd : (x == ("__classdict__" : Str)) = false := by decide) : PE X (.Name x pos) (tVar i) := pe_var hN hv hd hcd
end
theorem iteF {A B : Prop} (h : B) : if false = true then A else B := by
  rw [if_neg Bool.false_ne_true]
  exact h
theorem iteT {A B : Prop} (h : A) : if true = true then A else B := by
  rw [if_pos rfl]
  exact h
theorem ite2 {c A B : Prop} [Decidable c] (h1 : c → A) (h2 : ¬ c → B) : if c then A else B := by
  by_cases h : c
  · rw [if_pos h]
    exact h1 h
  · rw [if_neg h]
    exact h2 h
theorem iteNS {c A B : Prop} [Decidable c] (hc : c) (h : B) : if (!decide c) = true then A else B := by
  rw [decide_eq_true hc]
  exact iteF h
def Same (H H' : Hp) : Prop := ∀ b o, H b = some o → H' b = some o
theorem Same.refl (H : Hp) : Same H H := fun _ _ h => h
theorem Same.trans {H H1 H2 : Hp} (a : Same H H1) (b : Same H1 H2) : Same H H2 := fun c o h => b c o (a c o h)
theorem Same.free {H H' : Hp} (e : Same H H') {l : Addr} (h : H' l = Option.none) : H l = Option.none := by
  cases q : H l with
  | none => rfl
  | some o =>
    rw [e l o q] at h
    cases h
theorem Same.seq {K : PySem.W.Frag} {H H' : Hp} {a : Addr} {xs : List V} (e : Same H H') (h : SqL K H a xs) : SqL K H' a xs := by
  rcases h with (h | ⟨o, h⟩) | h
  · exact .inl (.inl (e _ _ h))
  · exact .inl (.inr ⟨o, e _ _ h⟩)
  · exact .inr h
section
variable {κ : Type} [DecidableEq κ]
end
end L2
set_option maxHeartbeats 4000000
namespace L2
open PySem PySem.Spec PyProof.Rows
section
variable {X : Cx}
theorem big_lt : (10 : Nat) ^ 100 < 2 ^ 400 := by decide +kernel
theorem log2_big {j : Int} (h : j.natAbs < 10 ^ 100) : j.natAbs.log2 < 400 := by
  by_cases h0 : j.natAbs = 0
  · rw [h0]; decide +kernel
  · exact (Nat.log2_lt h0).mpr (Nat.lt_trans h big_lt)
def CDivB (_ j : Int) : Prop := 0 < j ∧ j < 10 ^ 100
theorem op_fdivB : OpR X (binaryOp .FloorDiv) (rI CDivB fun i j => .int (i / j)) := opI fun i j _ _ _ _ _ hc q => by
  have h1 : (0 : Int) < j := hc.1
  have h2 : j < 10 ^ 100 := hc.2
  have h3 : j.natAbs < 10 ^ 100 := by omega
  exact floordiv_int (by omega) (by rw [Int.fdiv_eq_ediv_of_nonneg i (by omega)]; exact q) (.inl (PyProof.noPylong_of_log2 (Nat.lt_trans (log2_big h3) (by decide))))
def CMulB (i j : Int) : Prop := (-(10 ^ 100) < i ∧ i < 10 ^ 100) ∧ (-(10 ^ 100) < j ∧ j < 10 ^ 100)
theorem bits_big {j : Int} (h : j.natAbs < 10 ^ 100) : Builtin.Int.intBits j ≤ 400 := by
  unfold Builtin.Int.intBits
  split
  · exact Nat.zero_le _
  · have := log2_big h
    omega
theorem CMulB.ok {i j : Int} (h : CMulB i j) : IntMulOk i j := by
  obtain ⟨⟨h1, h2⟩, h3, h4⟩ := h
  have e1 := bits_big (j := i) (by omega)
  have e2 := bits_big (j := j) (by omega)
  have e3 : Builtin.Int.intTooBig (Builtin.Int.intBits i + Builtin.Int.intBits j) = false := by
    unfold Builtin.Int.intTooBig
    rw [decide_eq_false]
    have : (bitsLine : Int) = 134217728 := by decide +kernel
    omega
  unfold IntMulOk
  rw [e3]
  simp
theorem op_mulB : OpR X (binaryOp .Mult) (rI CMulB fun i j => .int (i * j)) := opI fun _ _ _ _ _ _ _ hc q => mul_int q hc.ok
end
section
variable {X : Cx}
theorem call_isi : CallR X (.builtin "isinstance") (fun xs H Q => ∃ x T t b, xs = [x, .ty T] ∧ TyOf X.K H x t ∧ PySem.W.kitOne X.K t (.type T) = some b ∧ Q (.bl b) H) := by
  intro pins s σ H xs us Q I r h
  obtain ⟨x, T, t, b, rfl, ty, e, q⟩ := h
  obtain ⟨u, w', rfl, ru, rw'⟩ := vals2 r
  cases (show w' = Value.type T from rw')
  exact isinst_ok I ru ty e fun tk => ⟨.bl b, H, I.tok tk, rfl, q⟩
end
mutual
inductive Rep (K : PySem.W.Frag) (H : Hp) : V → PyData → Prop where
  | non : Rep K H .non .none
  | bl (b : Bool) : Rep K H (.bl b) (.bool b)
  | int (i : Int) : Rep K H (.int i) (.int i)
  | str (x : Str) : Rep K H (.str x) (.str x)
  | lst {a : Addr} {xs : List V} {ds : List PyData} : SqL K H a xs → Reps K H xs ds → Rep K H (.ref a) (.list ds)
  | tup {a : Addr} {xs : List V} {ds : List PyData} : SqT K H a xs → Reps K H xs ds → Rep K H (.ref a) (.tuple ds)
inductive Reps (K : PySem.W.Frag) (H : Hp) : List V → List PyData → Prop where
  | nil : Reps K H [] []
  | cons {v : V} {vs : List V} {d : PyData} {ds : List PyData} : Rep K H v d → Reps K H vs ds → Reps K H (v :: vs) (d :: ds)
end
section
variable {X : Cx} {pins : List (Addr × Obj)} {σ : St} {H : Hp} {s : Shared}
mutual
theorem rep_reads (I : Inv X pins σ H s) : ∀ (d : PyData) (v : V) (u : Value), Rep X.K H v d → RelV v u → ∃ as, Reads s.heap u d as
  | .none, v, u, r, q => by cases r; cases (show u = Value.none from q); exact ⟨_, .none⟩
  | .bool b, v, u, r, q => by cases r; cases (show u = Value.bool b from q); exact ⟨_, .bool b⟩
  | .int i, v, u, r, q => by cases r; obtain ⟨t, e⟩ := (show ∃ t, u = Value.int i t from q); cases e; exact ⟨_, .int i t⟩
  | .str x, v, u, r, q => by cases r; obtain ⟨t, e⟩ := (show ∃ t, u = Value.str x t from q); cases e; exact ⟨_, .str x t⟩
  | .list ds, v, u, r, q => by
    cases r with
    | @lst a xs _ hq rs =>
      cases (show u = Value.ref a from q)
      obtain ⟨its, rv, ⟨o, n, e, c, _, d⟩, hz⟩ := I.list hq
      obtain ⟨as, ra⟩ := reps_reads I ds xs its rs rv
      exact ⟨_, .list e c d (by simpa using ra)⟩
  | .tuple ds, v, u, r, q => by
    cases r with
    | @tup a xs _ hq rs =>
      cases (show u = Value.ref a from q)
      obtain ⟨its, rv, ⟨o, e, c, n, d⟩, hz⟩ := I.tuple hq
      obtain ⟨as, ra⟩ := reps_reads I ds xs its rs rv
      exact ⟨_, .tuple e c d (by simpa using ra)⟩
  | .dict _, v, u, r, q => by cases r
theorem reps_reads (I : Inv X pins σ H s) : ∀ (ds : List PyData) (vs : List V) (us : List Value), Reps X.K H vs ds → Vals vs us → ∃ as, ReadsAll s.heap us ds as
  | [], vs, us, r, q => by cases r; cases q; exact ⟨_, .nil⟩
  | d :: ds, vs, us, r, q => by
    cases r with
    | cons r1 r2 =>
      cases q with
      | cons q1 q2 =>
        obtain ⟨as, a1⟩ := rep_reads I d _ _ r1 q1
        obtain ⟨bs, a2⟩ := reps_reads I ds _ _ r2 q2
        exact ⟨_, .cons a1 a2⟩
end
end
def rEqD (K : PySem.W.Frag) (neg : Bool) : R2 := fun x y H Q => ∃ d e, Rep K H x d ∧ Rep K H y e ∧ d.canLay0 = true ∧ e.canLay0 = true ∧ d.depth ≤ 20 ∧ Q (.bl (if neg then !PyData.eqv d e else PyData.eqv d e)) H
section
variable {X : Cx}
theorem op_eqD (hu : X.A.units + 64 < cLine) : OpR X (compareOp .Eq) (rEqD X.K false) := by
  intro pins s σ H x y v u Q I rx ry h
  obtain ⟨d, e, rd, re, cd, ce, hd, q⟩ := h
  obtain ⟨as, ra⟩ := rep_reads I d x v rd rx
  obtain ⟨bs, rb⟩ := rep_reads I e y u re ry
  have hm : min d.depth e.depth ≤ d.depth := Nat.min_le_left _ _
  exact SeqAt.compareEq_reads ra rb cd ce (by omega) ⟨.bl _, H, I, rfl, q⟩
theorem op_neD (hu : X.A.units + 64 < cLine) : OpR X (compareOp .NotEq) (rEqD X.K true) := by
  intro pins s σ H x y v u Q I rx ry h
  obtain ⟨d, e, rd, re, cd, ce, hd, q⟩ := h
  obtain ⟨as, ra⟩ := rep_reads I d x v rd rx
  obtain ⟨bs, rb⟩ := rep_reads I e y u re ry
  have hm : min d.depth e.depth ≤ d.depth := Nat.min_le_left _ _
  exact SeqAt.rcNeAt_reads ra rb cd ce (by omega) X.prog X.w X.xe _ ⟨.bl _, H, I, rfl, q⟩
end
section
variable {X : Cx} {pins : List (Addr × Obj)} {σ : St} {H : Hp} {s : Shared} {h' : Heap}
theorem Inv.turnedLaid {t' : Nat} {ch : List Addr} {a : Addr} {o : HO} (I : Inv X pins σ H s) (hf : ∀ b ∈ ch, FpOk X pins H b) (k : ∀ b u, b ∉ ch → s.heap.get? b = some u → h'.get? b = some u)
    (hp : s.heap.objs.size ≤ a) (new : ObjOk X.prog X.w (upd H a o) h' a o) : Inv X pins σ (upd H a o) { s with heap := h', toks := t' } := by
  have hna : H a = none := I.hok.fresh hp
  have nch : ∀ b u, H b = some u → b ∉ ch := fun b u e z => by rw [(hf b z).1] at e; cases e
  have nea : ∀ b u, s.heap.get? b = some u → b ≠ a := fun b u e z => absurd (Nat.lt_of_lt_of_le (Heap.lt_size e) (by rw [z]; exact hp)) (Nat.lt_irrefl _)
  refine I.step (g' := s.gens) (d' := s.drawn) (ch := ch) (fun b hb => ⟨(hf b hb).2.2.2.1, (hf b hb).2.1, (hf b hb).2.2.2.2.1, (hf b hb).2.2.2.2.2⟩) (fun b o _ _ hc e _ => k b o hc e) (fun b o _ _ hc e _ => ⟨o.slots, k b o hc e⟩)
    (fun b o hc e n => by rw [upd_ne (nea b o e)]; exact n) (fun b o hc e => ⟨o, k b o hc e⟩) (fun b xs e => by rw [upd_ne (ne_of_none e hna)]; exact e) (fun b o u e => by rw [upd_ne (ne_of_none e hna)]; exact e)
    (fun b ps e => ⟨#[], by rw [upd_ne (ne_of_none e hna), e]; simp⟩) (fun m hm => ?_) (fun b u e => ?_) I.bare
  · obtain ⟨o, es, ep, ho, r⟩ := hm
    exact ⟨o, es, ep, k _ o (fun z => (hf _ z).2.1 rfl) ho, r⟩
  · by_cases hb : b = a
    · subst hb; rw [upd_same] at e; cases e; exact new
    · rw [upd_ne hb] at e
      refine (I.hok b u e).stay (fun c v hc q => k c v ?_ q) (fun c q => by rw [upd_ne (ne_of_none q hna)]; exact q) fun c xs q => by rw [upd_ne (ne_of_none q hna)]; exact q
      rcases hc with z | z
      · rw [z]; exact nch b u e
      · exact nch c _ z
theorem Inv.turnedL {t' : Nat} {ch : List Addr} (I : Inv X pins σ H s) (hf : ∀ b ∈ ch, FpOk X pins H b) (k : ∀ b u, b ∉ ch → s.heap.get? b = some u → h'.get? b = some u) : Inv X pins σ H { s with heap := h', toks := t' } := by
  have nch : ∀ b u, H b = some u → b ∉ ch := fun b u e z => by rw [(hf b z).1] at e; cases e
  refine I.step (g' := s.gens) (d' := s.drawn) (ch := ch) (fun b hb => ⟨(hf b hb).2.2.2.1, (hf b hb).2.1, (hf b hb).2.2.2.2.1, (hf b hb).2.2.2.2.2⟩) (fun b o _ _ hc e _ => k b o hc e) (fun b o _ _ hc e _ => ⟨o.slots, k b o hc e⟩)
    (fun _ _ _ _ n => n) (fun b o hc e => ⟨o, k b o hc e⟩) (fun _ _ e => e) (fun _ _ _ e => e) (fun b ps e => ⟨#[], by rw [e]; simp⟩) (fun m hm => ?_) (fun b u e => ?_) I.bare
  · obtain ⟨o, es, ep, ho, r⟩ := hm
    exact ⟨o, es, ep, k _ o (fun z => (hf _ z).2.1 rfl) ho, r⟩
  · refine (I.hok b u e).stay (fun c v hc q => k c v ?_ q) (fun _ q => q) fun _ _ q => q
    rcases hc with z | z
    · rw [z]; exact nch b u e
    · exact nch c _ z
end
def Itz (K : PySem.W.Frag) (a b : Addr) : It :=
  ⟨fun i H => ∃ xs ys x y, SqL K H a xs ∧ SqL K H b ys ∧ xs[i]? = some x ∧ ys[i]? = some y,
   fun i H v H' => ∃ p, v = .ref p ∧ H p = none ∧ ∀ xs ys x y, SqL K H a xs → SqL K H b ys → xs[i]? = some x → ys[i]? = some y → H' = upd H p (.tup [x, y]),
   fun i H => ∃ xs ys, SqL K H a xs ∧ SqL K H b ys ∧ (xs.length ≤ i ∨ ys.length ≤ i)⟩
theorem ne_cls {h : Heap} {a b : Addr} {o u : Obj} (e : h.get? a = some o) (e' : h.get? b = some u) (d : o.cls ≠ u.cls) : a ≠ b := fun z => by
  subst z; rw [e] at e'; exact d (congrArg Obj.cls (Option.some.inj e'))
theorem n_tz : Value.type "tuple" ≠ Value.type "zip" := by decide
theorem n_iz : Value.type "list_iterator" ≠ Value.type "zip" := by decide
theorem n_ti : Value.type "tuple" ≠ Value.type "list_iterator" := by decide
theorem n_lz : Value.type "list" ≠ Value.type "zip" := by decide
theorem n_lt : Value.type "list" ≠ Value.type "tuple" := by decide
theorem n_li : Value.type "list" ≠ Value.type "list_iterator" := by decide
theorem turn_zip {P : Program} {w : World} {K : PySem.W.Frag} {elts : List Expr} {ek : Nat} {epos : Pos} (a b z TI TO i1 i2 : Addr) (d1 : TI ≠ TO) (d2 : i1 ≠ i2) :
    Turn P w K (.Tuple elts ek epos) (Itz K a b) [z, TI, TO, i1, i2] z (fun i h => IsZip h z TI TO .none ∧ IsPair h TI (.ref i1) (.ref i2) ∧ (∃ x y, IsPair h TO x y) ∧ h.IsListIter i1 a i ∧ h.IsListIter i2 b i) where
  mem := by simp
  obj := fun i h st c hc => by
    obtain ⟨hz, hTI, ⟨x, y, hTO⟩, ⟨o1, e1, c1, f1⟩, ⟨o2, e2, c2, f2⟩⟩ := st
    simp only [List.mem_cons, List.not_mem_nil, or_false] at hc
    rcases hc with rfl | rfl | rfl | rfl | rfl
    · exact ⟨_, hz, fun v q => by have q' : Data.fields _ = Data.cell v := q; cases q'⟩
    · exact ⟨_, hTI, fun v q => by have q' : Data.seq _ _ = Data.cell v := q; cases q'⟩
    · exact ⟨_, hTO, fun v q => by have q' : Data.seq _ _ = Data.cell v := q; cases q'⟩
    · exact ⟨_, e1, fun v q => by rw [f1] at q; cases q⟩
    · exact ⟨_, e2, fun v q => by rw [f2] at q; cases q⟩
  keep := fun i h h' st k => by
    obtain ⟨hz, hTI, ⟨x, y, hTO⟩, h1, h2⟩ := st
    exact ⟨k z (by simp) _ hz, k TI (by simp) _ hTI, ⟨x, y, k TO (by simp) _ hTO⟩, h1.at fun o e => k i1 (by simp) o e, h2.at fun o e => k i2 (by simp) o e⟩
  item := by
    intro X hP hw hK hc i pins s σ H E I hf st hg
    subst hP hw hK
    obtain ⟨xs, ys, x, y, qa, qb, hx, hy⟩ := hg
    obtain ⟨hz, hTI, ⟨x0, y0, hTO⟩, h1, h2⟩ := st
    obtain ⟨itsA, rA, pA, zA⟩ := I.list qa
    obtain ⟨itsB, rB, pB, zB⟩ := I.list qb
    obtain ⟨u, hu, ru⟩ := rA.get hx
    obtain ⟨u', hu', ru'⟩ := rB.get hy
    have D : ZipApart z TI TO i1 i2 a b := by
      obtain ⟨o1, e1, c1, f1⟩ := id h1
      obtain ⟨o2, e2, c2, f2⟩ := id h2
      obtain ⟨oa, na, ea, ca, _, fa⟩ := id pA
      obtain ⟨ob, nb, eb, cb, _, fb⟩ := id pB
      exact ⟨ne_cls hTI hz n_tz, ne_cls hTO hz n_tz, ne_cls e1 hz (by rw [c1]; exact n_iz), ne_cls e2 hz (by rw [c2]; exact n_iz), d1, ne_cls hTI e1 (by rw [c1]; exact n_ti), ne_cls hTI e2 (by rw [c2]; exact n_ti),
        ne_cls hTO e1 (by rw [c1]; exact n_ti), ne_cls hTO e2 (by rw [c2]; exact n_ti), d2, ne_cls ea hz (by rw [ca]; exact n_lz), ne_cls ea hTO (by rw [ca]; exact n_lt), ne_cls ea e1 (by rw [ca, c1]; exact n_li), ne_cls ea e2 (by rw [ca, c2]; exact n_li),
        ne_cls eb hz (by rw [cb]; exact n_lz), ne_cls eb hTO (by rw [cb]; exact n_lt), ne_cls eb e1 (by rw [cb, c1]; exact n_li), ne_cls eb e2 (by rw [cb, c2]; exact n_li)⟩
    refine wpAny_pyNext_zip_item D hz hTI hTO h1 h2 pA.isList pB.isList (x := u) (y := u') (by simpa using hu) (by simpa using hu') fun h' a1 a2 a3 a4 a5 a6 hk => ?_
    refine ⟨.ref s.heap.objs.size, rfl, wpAny_letOwnedTupleGo_zip a1 fun h'' hz'' sb => ?_⟩
    have lz : z < s.heap.objs.size := Heap.lt_size hz
    have nz : s.heap.objs.size ≠ z := Nat.ne_of_gt lz
    have k2 : ∀ c o, c ∉ [z, TI, TO, i1, i2] → s.heap.get? c = some o → h''.get? c = some o := fun c o hc e => by
      simp only [List.mem_cons, List.not_mem_nil, or_false, not_or] at hc
      exact sb.extBut _ _ hc.1 (hk c o hc.1 hc.2.2.1 hc.2.2.2.1 hc.2.2.2.2 e)
    have T2 : IsPair h'' s.heap.objs.size u u' := sb.extBut _ _ nz a5
    refine ⟨.ref s.heap.objs.size, upd H s.heap.objs.size (.tup [x, y]), I.turnedLaid (t' := s.toks) (ch := [z, TI, TO, i1, i2]) hf k2 (Nat.le_refl _) ⟨by show 2 ≤ sizeLine; decide, [u, u'], .cons ru (.cons ru' .nil), _, T2, rfl, _, rfl⟩, rfl, ⟨_, rfl, I.hok.fresh (Nat.le_refl _), fun xs' ys' x' y' qa' qb' hx' hy' => ?_⟩, ⟨hz'', sb.extBut _ _ D.TIz (hk _ _ D.TIz D.TITO D.TIi1 D.TIi2 hTI), ⟨_, _, sb.extBut _ _ D.TOz a2⟩, a3.extBut sb.extBut D.i1z, a4.extBut sb.extBut D.i2z⟩, fun b hb => ?_⟩
    · rw [I.list_inj qa' qa, hx] at hx'
      rw [I.list_inj qb' qb, hy] at hy'
      cases hx'; cases hy'; rfl
    · have e : b ≠ s.heap.objs.size := fun q => by
        have : ∃ o, s.heap.get? b = some o := by
          simp only [List.mem_cons, List.not_mem_nil, or_false] at hb
          obtain ⟨o1, e1, _⟩ := id h1
          obtain ⟨o2, e2, _⟩ := id h2
          rcases hb with rfl | rfl | rfl | rfl | rfl
          · exact ⟨_, hz⟩
          · exact ⟨_, hTI⟩
          · exact ⟨_, hTO⟩
          · exact ⟨_, e1⟩
          · exact ⟨_, e2⟩
        obtain ⟨o, e⟩ := this
        exact absurd (Heap.lt_size e) (by rw [q]; exact Nat.lt_irrefl _)
      rw [upd_ne e]
      exact (hf b hb).1
  done := by
    intro X hP hw hK hc i pins s σ H E I hf st hg
    subst hP hw hK
    obtain ⟨xs, ys, qa, qb, hx⟩ := hg
    obtain ⟨hz, hTI, ⟨x0, y0, hTO⟩, h1, h2⟩ := st
    obtain ⟨itsA, rA, pA, zA⟩ := I.list qa
    obtain ⟨itsB, rB, pB, zB⟩ := I.list qb
    have D : ZipApart z TI TO i1 i2 a b := by
      obtain ⟨o1, e1, c1, f1⟩ := id h1
      obtain ⟨o2, e2, c2, f2⟩ := id h2
      obtain ⟨oa, na, ea, ca, _, fa⟩ := id pA
      obtain ⟨ob, nb, eb, cb, _, fb⟩ := id pB
      exact ⟨ne_cls hTI hz n_tz, ne_cls hTO hz n_tz, ne_cls e1 hz (by rw [c1]; exact n_iz), ne_cls e2 hz (by rw [c2]; exact n_iz), d1, ne_cls hTI e1 (by rw [c1]; exact n_ti), ne_cls hTI e2 (by rw [c2]; exact n_ti),
        ne_cls hTO e1 (by rw [c1]; exact n_ti), ne_cls hTO e2 (by rw [c2]; exact n_ti), d2, ne_cls ea hz (by rw [ca]; exact n_lz), ne_cls ea hTO (by rw [ca]; exact n_lt), ne_cls ea e1 (by rw [ca, c1]; exact n_li), ne_cls ea e2 (by rw [ca, c2]; exact n_li),
        ne_cls eb hz (by rw [cb]; exact n_lz), ne_cls eb hTO (by rw [cb]; exact n_lt), ne_cls eb e1 (by rw [cb, c1]; exact n_li), ne_cls eb e2 (by rw [cb, c2]; exact n_li)⟩
    have lA := rA.length
    have lB := rB.length
    refine wpAny_pyNext_zip_end (I.ok.hd hc) D hz hTI hTO h1 h2 pA.isList pB.isList (hx.imp (fun q => by simp; omega) fun q => by simp; omega) fun h' hk => ⟨rfl, I.turnedL (t' := s.toks) (ch := [z, TI, TO, i1, i2]) hf fun c o hc e => ?_⟩
    simp only [List.mem_cons, List.not_mem_nil, or_false, not_or] at hc
    exact hk c o hc.1 hc.2.2.1 hc.2.2.2.1 hc.2.2.2.2 e
  self := fun _ _ _ _ _ st h => wpAny_pyIter_zip st.1 h
section
variable {X : Cx}
def iZip (K : PySem.W.Frag) (ta : TA) : TI := fun σ H R => ta σ H fun vs H1 => ∃ a b xs ys, vs = [.ref a, .ref b] ∧ SqL K H1 a xs ∧ SqL K H1 b ys ∧ R (Itz K a b) H1
theorem pi_zip {elts : List Expr} {ek : Nat} {epos : Pos} {e1 e2 : Expr} {ta : TA} {p pos : Pos} (hg : Gl X "zip") (hm : X.mg "zip" = none) (ha : PA X [e1, e2] ta)
    (hs : starEach [e1, e2] X.env = [(false, eval e1 X.env), (false, eval e2 X.env)] := by rfl) (hs2 : starEach [e2] X.env = [(false, eval e2 X.env)] := by rfl) :
    PI X (.Tuple elts ek epos) (.Call (.Name "zip" p) [e1, e2] [] pos) (iZip X.K ta) := by
  intro pins s σ H R I h
  refine Call_ (ld_blt I hg hm (show bootBuiltins "zip" = some (.type "zip") by decide +kernel) (PyProof.Rows.callWith_type1 (thn (ha pos pins s σ H _ I h) fun us s1 ⟨vs, H1, I1, r1, q1⟩ => ?_) (by rw [hs, hs2]) (by rw [hs2]; rfl)))
  obtain ⟨a, b, xs, ys, rfl, qa, qb, q⟩ := q1
  obtain ⟨u, u', rfl, ru, ru'⟩ := vals2 r1
  cases (show u = Value.ref a from ru)
  cases (show u' = Value.ref b from ru')
  obtain ⟨itsA, rA, pA, zA⟩ := I1.list qa
  obtain ⟨itsB, rB, pB, zB⟩ := I1.list qb
  refine call_zip_2 pA.isList pB.isList fun h' hz hTI hTO h1 h2 hsz hk => wpAny_pyIter_zip hz ?_
  refine ⟨s1.heap.objs.size + 4, _, _, _, H1, rfl, I1.kept (t' := s1.toks) hk, turn_zip a b _ (s1.heap.objs.size + 2) (s1.heap.objs.size + 3) s1.heap.objs.size (s1.heap.objs.size + 1) (Nat.ne_of_lt (Nat.lt_succ_self _)) (Nat.ne_of_lt (Nat.lt_succ_self _)), ⟨hz, hTI, ⟨_, _, hTO⟩, h1, h2⟩, fun c hc => ?_, q⟩
  have e : s1.heap.objs.size ≤ c := by
    simp only [List.mem_cons, List.not_mem_nil, or_false] at hc
    rcases hc with rfl | rfl | rfl | rfl | rfl
    · exact Nat.le_add_right _ _
    · exact Nat.le_add_right _ _
    · exact Nat.le_add_right _ _
    · exact Nat.le_refl _
    · exact Nat.le_add_right _ _
  exact I1.fpOk e (I1.hok.fresh e)
end
theorem for_zip {K : PySem.W.Frag} {a b : Addr} {xs ys : List V} {g : TG} {tb : TS} {D : Ends} {σ : St} {H : Hp} (Pv : Nat → St → Hp → Prop) (h0 : Pv 0 σ H) (hl : ∀ i σ H, Pv i σ H → SqL K H a xs ∧ SqL K H b ys)
    (hs : ∀ i x y σ H p, xs[i]? = some x → ys[i]? = some y → H p = none → Pv i σ H → g (.ref p) σ (upd H p (.tup [x, y])) fun σ2 H2 => tb { D with nx := Pv (i + 1), ct := Pv (i + 1), bk := D.nx } σ2 H2)
    (hd : ∀ i σ H, i = min xs.length ys.length → Pv i σ H → D.nx σ H) :
    ∃ W : Nat → Nat → St → Hp → Prop, (∃ m, W 0 m σ H) ∧ ∀ i m σ H, W i m σ H →
      ((Itz K a b).stop i H ∧ D.nx σ H) ∨ ((Itz K a b).go i H ∧ ∃ N : St → Hp → Prop, (∀ σ' H', N σ' H' → ∃ m', m' < m ∧ W (i + 1) m' σ' H') ∧ ∀ x H', (Itz K a b).yld i H x H' → g x σ H' fun σ2 H2 => tb { D with nx := N, ct := N, bk := D.nx } σ2 H2) := by
  refine ⟨fun i m σ H => m = min xs.length ys.length - i ∧ i ≤ min xs.length ys.length ∧ Pv i σ H, ⟨min xs.length ys.length, by simp, Nat.zero_le _, h0⟩, ?_⟩
  rintro i m σ H ⟨rfl, hi, p⟩
  obtain ⟨qa, qb⟩ := hl i σ H p
  by_cases hlt : i < min xs.length ys.length
  · have ha : i < xs.length := by omega
    have hb : i < ys.length := by omega
    refine .inr ⟨⟨xs, ys, xs[i], ys[i], qa, qb, by simp [ha], by simp [hb]⟩, Pv (i + 1), fun σ' H' p' => ⟨min xs.length ys.length - (i + 1), by omega, rfl, hlt, p'⟩, fun x H' y => ?_⟩
    obtain ⟨t, rfl, ht, y⟩ := y
    have ea : xs[i]? = some xs[i] := by simp [ha]
    have eb : ys[i]? = some ys[i] := by simp [hb]
    rw [y xs ys xs[i] ys[i] qa qb ea eb]
    exact hs i xs[i] ys[i] σ H t ea eb ht p
  · exact .inl ⟨⟨xs, ys, qa, qb, by omega⟩, hd i σ H (by omega) p⟩
structure FunD (K : PySem.W.Frag) (x qual : Str) (st : Stmt) (dV : Value) (f : Addr) (fd : FuncData) : Prop where
  ex : ∃ (oc : Value) (od : Option Addr) (kV doc pm : Value) (an : Option Addr) (cdv ct : Value) (osl : Array (Option Value)),
    fd = PySem.W.fnOf x qual (defArgs st) (defBody st) (defScope st) dV kV doc pm an cdv ct ∧ K.lookup f = some ⟨oc, od, .func fd, osl⟩ ∧ PySem.W.codeIn K cdv qual = true
  kp : PySem.W.keepIn K (.ref f) = true
section
variable {P : Program} {w : World} {K : PySem.W.Frag} {mg : Str → Option Value} {base : Heap}
theorem FunD.ok {x qual : Str} {st : Stmt} {dV : Value} {f : Addr} {fd : FuncData} {N ps : List Str} {k : Nat} {sp : Sp} (F : FunD K x qual st dV f fd) (S : FnScope N ps (defScope st)) (len : ∀ vs H Q E, sp vs H Q E → vs.length = ps.length)
    (hbody : ∀ (cdv : Value) (A : Around) (outer : List Env) (s : Shared) (H : Hp) (vs : List V) (Q : VK) (E : XK), Room k (A.deeper (envOfC qual (defScope st) s.heap.objs.size f cdv)) → sp vs H Q E →
      ∃ t, PSs (cxOf CX0 P w K mg base N qual (defScope st) f cdv A outer s H E).nox (defBody st) t ∧ t { nx := fun _ H' => Q .non H', rt := Q } (start N vs) H) : FnOk P w K mg base CX0 (k + 1) f fd ps sp := by
  obtain ⟨oc, od, kV, doc, pm, an, cdv, ct, osl, rfl, lk, hcd⟩ := F.ex
  refine fn_of lk hcd S len fun A outer s H vs Q E hr hsp => ?_
  obtain ⟨t, h, q⟩ := hbody cdv A outer s H vs Q E hr hsp
  exact ⟨t, h.nox, q⟩
theorem binds_d {fd : FuncData} {ps : List Str} {ds : List Value} {T : Addr} {o : Obj} {items : Array Value} {n : Nat} (hd : fd.defaults = .ref T) (lk : K.lookup T = some o) (hs : o.data = .seq items n)
    (h : ∀ us : List Value, (us ++ ds).length = ps.length → ∃ k, bindArgs fd ⟨us, []⟩ = seqItems? fd.defaults >>= k ∧ k (some items) = pure (ps.zip (us ++ ds))) : Binds K fd ps ds := fun s us kin hl => by
  obtain ⟨k, h1, h2⟩ := h us hl
  exact .of_defaults hd (kin _ _ lk) hs h1 h2
end
def DefOk (P : Program) (w : World) (K : PySem.W.Frag) (mg : Str → Option Value) (base : Heap) (k : Nat) (x : Str) (ps : List Str) (sp : Sp) : Prop :=
  ∃ f fd, FnOk P w K mg base CX0 k f fd ps sp ∧ mg x = some (.ref f) ∧ PySem.W.keepIn K (.ref f) = true ∧ Binds K fd ps []
def MetOk (P : Program) (w : World) (K : PySem.W.Frag) (mg : Str → Option Value) (base : Heap) (C : Addr) (k : Nat) (m : Str) (ps : List Str) (sp : Sp) : Prop :=
  ∃ f fd, FnOk P w K mg base CX0 k f fd ps sp ∧ Meth K C m f ∧ Binds K fd ps []
def MkOk (P : Program) (w : World) (K : PySem.W.Frag) (mg : Str → Option Value) (base : Heap) (C : Addr) (k : Nat) (x : Str) (ps : List Str) (ds : List Value) (sp : Sp) : Prop :=
  ∃ f fd, FnOk P w K mg base CX0 k f fd ps sp ∧ mg x = some (.ref C) ∧ Mk K C f ∧ Binds K fd ps ds
section
variable {X : Cx} {k : Nat} {C : Addr} {ps : List Str} {sp : Sp} {dvs : List V} {ds : List Value} {x m : Str} {p pos apos : Pos} {e o : Expr} {es : List Expr} {ta : TE} {t : TA}
theorem pe_fn (D : DefOk X.prog X.w X.K X.mg X.base k x ps sp) (hr : Room k X.A) (hg : Gl X x) (ha : PA X (e :: es) t) (hdb : (x == ("__debug__" : Str)) = false := by decide)
    (he : starEach (e :: es) X.env = (false, eval e X.env) :: starEach es X.env := by rfl) (hpl : (backTo pos (starEach es X.env)).any (·.1) = false := by rfl) : PE X (.Call (.Name x p) (e :: es) [] pos) (tCall sp [] E0 t) := by
  obtain ⟨f, fd, F, hm, hk, hb⟩ := D
  exact pe_call F hr hg hm hk hb .nil pass0 ha hdb he hpl
end
end L2
namespace L2
open PySem PySem.Spec PyProof.Rows
section
variable {X : Cx} {k : Nat} {C : Addr} {ps : List Str} {sp : Sp} {x m : Str} {p pos apos : Pos} {e o : Expr} {es : List Expr} {ta : TE} {t : TA}
theorem pe_mt {pl : Sem Bool} (he : PE X o ta) (c : Cls X.K C) (D : MetOk X.prog X.w X.K X.mg X.base C k m ps sp) (hr : Room k X.A) (ha : PA X (e :: es) t)
    (hst : starEach (e :: es) X.env = (false, eval e X.env) :: starEach es X.env := by rfl) (hpl : (backTo pos (starEach es X.env)).any (·.1) = false := by rfl)
    (ht : eval (.Call (.Attribute o m apos) (e :: es) [] pos) X.env = (do
      let ov ← eval o X.env
      standAt apos.atName
      let (f, first) ← holding [ov] (getMethod ov m pl)
      callWith pos f first (backTo pos (starEach (e :: es) X.env)) (backToKw pos (keywordEach [] X.env))) := by rfl) :
    PE X (.Call (.Attribute o m apos) (e :: es) [] pos) (tMeth C m sp [] E0 ta t) := by
  obtain ⟨f, fd, F, hm, hb⟩ := D
  exact pe_meth (pl := pl) he c hm F hr hb .nil pass0 ha hst hpl ht
theorem pe_mt0 {pl : Sem Bool} (he : PE X o ta) (c : Cls X.K C) (D : MetOk X.prog X.w X.K X.mg X.base C k m ps sp) (hr : Room k X.A)
    (ht : eval (.Call (.Attribute o m apos) [] [] pos) X.env = (do
      let ov ← eval o X.env
      standAt apos.atName
      let (f, first) ← holding [ov] (getMethod ov m pl)
      callWith pos f first (backTo pos (starEach [] X.env)) (backToKw pos (keywordEach [] X.env))) := by rfl) :
    PE X (.Call (.Attribute o m apos) [] [] pos) (tMeth C m sp [] E0 ta tNil) := by
  obtain ⟨f, fd, F, hm, hb⟩ := D
  exact pe_meth0 (pl := pl) he c hm F hr hb .nil pass0 ht
end
section
variable {P : Program} {w : World} {K : PySem.W.Frag} {mg : Str → Option Value} {base : Heap}
theorem Fun.def_ {x : Str} {st : Stmt} {f : Addr} {fd : FuncData} {ps : List Str} {k : Nat} {sp : Sp} (F : Fun K x x st f fd) (hm : mg x = some (.ref f)) (hf : FnOk P w K mg base CX0 k f fd ps sp) (hb : Binds K fd ps []) : DefOk P w K mg base k x ps sp :=
  ⟨f, fd, hf, hm, F.kp, hb⟩
end
theorem bt_len : bootBuiltins "len" = some (.builtin "len") := by decide +kernel
theorem bt_isinstance : bootBuiltins "isinstance" = some (.builtin "isinstance") := by decide +kernel
theorem bt_list : bootBuiltins "list" = some (.type "list") := by decide +kernel
theorem bt_tuple : bootBuiltins "tuple" = some (.type "tuple") := by decide +kernel
theorem bt_int : bootBuiltins "int" = some (.type "int") := by decide +kernel
theorem bt_bool : bootBuiltins "bool" = some (.type "bool") := by decide +kernel
theorem bt_str : bootBuiltins "str" = some (.type "str") := by decide +kernel
theorem kit_int_int (K : PySem.W.Frag) : PySem.W.kitOne K (.type "int") (.type "int") = some true := by rfl
theorem kit_int_bool (K : PySem.W.Frag) : PySem.W.kitOne K (.type "int") (.type "bool") = some false := by rfl
theorem kit_list (K : PySem.W.Frag) : PySem.W.kitOne K (.type "list") (.type "list") = some true := by rfl
theorem kit_tuple (K : PySem.W.Frag) : PySem.W.kitOne K (.type "tuple") (.type "tuple") = some true := by rfl
theorem Same.get {H H' : Hp} (s : Same H H') {b : Addr} {o : HO} (h : H b = some o) : H' b = some o := s b o h
theorem same_upd {H : Hp} {p : Addr} {o : HO} (h : H p = none) : Same H (upd H p o) := fun b u e => by rw [upd_ne (ne_of_none e h)]; exact e
end L2
namespace L2
open PySem PySem.Spec PyProof.Rows
def blk (X : Cx) (Nc : List Str) (scope : Scope) (cl : List (Str × Addr)) (C : Addr) (s : Shared) (H : Hp) (ex : List Addr) : Cx where
  prog := X.prog
  w := X.w
  K := X.K
  mg := X.mg
  base := X.base
  A := X.A
  N := Nc
  s₀ := s
  H₀ := H
  env := compEnvC scope cl C X.env
  outer := X.stack
  stack := X.stack
  ex := ex
  fn := fun _ => false
  calm := X.calm
  pn := []
  xe := fun _ _ => False
structure LcOk (X : Cx) (scope : Scope) (cl : List (Str × Addr)) : Prop where
  clos : closureFor scope X.env = pure cl
  kind : scope.kind = .function
  nocell : ∀ y ∈ scope.names, y.2 ≠ .cell
  names : ∀ y ∈ scope.names, y.2 = .local → scope.names.lookup y.1 = some .local
  sub : ∀ x c, cl.lookup x = some c → X.env.cells.lookup x = some c
  has : ∀ x, ((relabel scope X.env).names.lookup x = some .cell ∨ (relabel scope X.env).names.lookup x = some .free) → ∃ c, cl.lookup x = some c
def FvOk (X : Cx) (scope : Scope) (cl : List (Str × Addr)) : List Str → List Nat → Prop
  | [], [] => True
  | x :: xs, j :: js => (X.N[j]? = some x ∧ (X.env.kindOf x = some .cell ∨ X.env.kindOf x = some .free) ∧ cl.lookup x = X.env.cells.lookup x ∧
      ((relabel scope X.env).names.lookup x = some .cell ∨ (relabel scope X.env).names.lookup x = some .free)) ∧ FvOk X scope cl xs js
  | _, _ => False
def lcσ (nv : Nat) (fv : List Nat) (σ : St) : St := List.replicate nv none ++ fv.map fun j => (σ[j]?).join
theorem FvOk.len {X : Cx} {scope : Scope} {cl : List (Str × Addr)} : ∀ {xs : List Str} {js : List Nat}, FvOk X scope cl xs js → xs.length = js.length
  | [], [], _ => rfl
  | _ :: _, _ :: _, h => by simp [FvOk.len h.2]
  | [], _ :: _, h => h.elim
  | _ :: _, [], h => h.elim
theorem FvOk.get {X : Cx} {scope : Scope} {cl : List (Str × Addr)} : ∀ {xs : List Str} {js : List Nat} {k : Nat} {x : Str} {j : Nat}, FvOk X scope cl xs js → xs[k]? = some x → js[k]? = some j →
    X.N[j]? = some x ∧ (X.env.kindOf x = some .cell ∨ X.env.kindOf x = some .free) ∧ cl.lookup x = X.env.cells.lookup x ∧ ((relabel scope X.env).names.lookup x = some .cell ∨ (relabel scope X.env).names.lookup x = some .free)
  | [], [], _, _, _, _, e, _ => by simp at e
  | _ :: _, _ :: _, 0, _, _, h, e, e' => by simp at e e'; subst e; subst e'; exact h.1
  | _ :: _, _ :: _, k + 1, x, j, h, e, e' => FvOk.get (k := k) h.2 (by simpa using e) (by simpa using e')
  | [], _ :: _, _, _, _, h, _, _ => h.elim
  | _ :: _, [], _, _, _, h, _, _ => h.elim
abbrev emptyList : Obj := { cls := .type "list", dict := none, data := .seq ([] : List Value).toArray }
theorem ltS {h : Heap} {b : Addr} {o : Obj} (e : h.get? b = some o) : b ≠ (h.push emptyList).objs.size := Nat.ne_of_lt (by rw [Heap.size_push]; exact Nat.lt_succ_of_lt (Heap.lt_size e))
theorem neS {h : Heap} : h.objs.size ≠ (h.push emptyList).objs.size := Nat.ne_of_lt (by rw [Heap.size_push]; exact Nat.lt_succ_self _)
theorem leS {h : Heap} : h.objs.size ≤ (h.push emptyList).objs.size := by rw [Heap.size_push]; exact Nat.le_succ _
theorem neZ {h : Heap} {b : Addr} {o : Obj} (e : h.get? b = some o) : b ≠ h.objs.size := Nat.ne_of_lt (Heap.lt_size e)
section
variable {X : Cx} {pins : List (Addr × Obj)} {σ : St} {H : Hp} {s : Shared} {scope : Scope} {cl : List (Str × Addr)} {vars frees : List Str} {fv : List Nat} {fp : List Addr}
theorem inv_blk {h' : Heap} {t' : Nat} (I : Inv X pins σ H s) (L : LcOk X scope cl) (fo : FvOk X scope cl frees fv) (hf : ∀ b ∈ fp, FpOk X pins H b) (ho : ∀ b ∈ fp, ∃ o, s.heap.get? b = some o)
    (hns : h'.Ns (s.heap.push emptyList).objs.size (fun _ => none)) (hsb : ∀ b o, b ≠ (s.heap.push emptyList).objs.size → (s.heap.push emptyList).get? b = some o → h'.get? b = some o) :
    Inv (blk X (vars ++ frees) scope cl (s.heap.push emptyList).objs.size { s with heap := s.heap.push emptyList } H (s.heap.objs.size :: fp)) [(s.heap.objs.size, emptyList)] (lcσ vars.length fv σ) H { s with heap := h', toks := t' } := by
  have hC : (s.heap.push emptyList).objs.size = s.heap.objs.size + 1 := Heap.size_push ..
  have hlt : ∀ {b : Addr} {o : Obj}, s.heap.get? b = some o → b < s.heap.objs.size := fun e => Heap.lt_size e
  have old : ∀ b o, s.heap.get? b = some o → h'.get? b = some o := fun b o e => hsb b o (ltS e) (Heap.get?_push_of_some _ e)
  have hD : h'.get? s.heap.objs.size = some emptyList := hsb _ _ neS (Heap.get?_push_size _ rfl)
  have stk : ∀ b ∈ frs X.stack, b < s.heap.objs.size ∧ b ∉ fp := fun b hb => by
    rcases List.mem_cons.mp (I.stkSub b hb) with z | z
    · exact ⟨by rw [z]; exact I.lt, fun q => (hf b q).2.1 z⟩
    · refine ⟨?_, fun q => (hf b q).2.2.1 z⟩
      apply Nat.lt_of_not_le
      intro q
      exact I.nofs q z
  have cellL : ∀ x c, cl.lookup x = some c → c < s.heap.objs.size := fun x c e => by
    obtain ⟨v, q⟩ := I.cell x c (L.sub x c e)
    exact q.lt
  refine ⟨⟨I.ok.mod, L.kind, I.ok.glob, I.ok.blt, Nat.le_refl _, fun x y c e1 e2 => I.ok.inj x y c (L.sub x c e1) (L.sub y c e2), fun x h => L.has x h, (fun x c z => nomatch z), I.ok.hd, I.ok.frames, .inl rfl, fun b hb => ?_, fun b o e => ?_, ?_, fun b o e hb => ?_, fun b hb hq => ?_, ?_, fun b hb => I.stkFree b hb⟩,
    rfl, I.bare, Un.kept fun b u e => ?_, ⟨_, hns, fun i x v e1 e2 e3 => ?_⟩, fun x c e => ?_, ?_, fun x c e => I.freeC x c (L.sub x c e), fun p hp => ?_, I.hok.kept old, ?_⟩
  ·
    refine ⟨?_, fun x c e z => ?_⟩
    · show b ≠ (s.heap.push emptyList).objs.size
      rcases List.mem_cons.mp hb with z | z
      · rw [z]; exact neS
      · obtain ⟨o, e⟩ := ho b z
        exact ltS e
    · rcases List.mem_cons.mp hb with q | q
      · exact Nat.ne_of_lt (cellL x c e) (z.trans q)
      · exact (hf b q).2.2.2.2.1 x c (L.sub x c e) z
  · exact ⟨Heap.get?_push_of_some _ (I.bs b o e).1, (I.bs b o e).2⟩
  · exact Nat.le_trans (Nat.le_trans I.ok.bsz I.sz) leS
  ·
    rcases List.mem_cons.mp hb with q | q
    · exact neZ (I.bs b o e).1 q
    · rcases (hf b q).2.2.2.1 with z | z
      · exact I.ok.noex b o e z
      · exact absurd (Nat.lt_of_lt_of_le (Heap.lt_size (I.ok.bs b o e).1) z) (Nat.lt_irrefl _)
  ·
    obtain ⟨h1, h2⟩ := stk b hq
    rcases List.mem_cons.mp hb with q | q
    · exact Nat.ne_of_lt h1 q
    · exact h2 q
  · exact Heap.FunFrames.of_keeps (fun b o e _ => ⟨o, Heap.get?_push_of_some _ e, rfl⟩) I.stack
  · exact hsb b u (Nat.ne_of_lt (Heap.lt_size e)) e
  ·
    obtain ⟨m, hn, hl⟩ := I.loc
    have hi : vars.length ≤ i := by
      apply Nat.le_of_not_lt
      intro z
      rw [show lcσ vars.length fv σ = List.replicate vars.length none ++ fv.map fun j => (σ[j]?).join from rfl, List.getElem?_append_left (by simpa using z), List.getElem?_replicate_of_lt (by simpa using z)] at e2
      cases e2
    obtain ⟨k, rfl⟩ : ∃ k, i = vars.length + k := ⟨i - vars.length, by omega⟩
    have e1' : frees[k]? = some x := by
      have e1'' : (vars ++ frees)[vars.length + k]? = some x := e1
      rw [List.getElem?_append_right (by omega)] at e1''
      simpa using e1''
    have e2' : (fv.map fun j => (σ[j]?).join)[k]? = some (some v) := by
      rw [show lcσ vars.length fv σ = List.replicate vars.length none ++ fv.map fun j => (σ[j]?).join from rfl, List.getElem?_append_right (by simp)] at e2
      simpa using e2
    rw [List.getElem?_map] at e2'
    obtain ⟨j, hj, ej⟩ := Option.map_eq_some_iff.mp e2'
    have ej' : σ[j]? = some (some v) := by
      cases q : σ[j]? with
      | none => rw [q] at ej; cases ej
      | some y => rw [q] at ej; exact congrArg some ej
    obtain ⟨f1, f2, f3, f4⟩ := fo.get e1' hj
    obtain ⟨u, ru, lk⟩ := hl j x v f1 ej' (f2.elim (fun z => .inr (.inl z)) fun z => .inr (.inr z))
    refine ⟨u, ru, .inr ⟨f4, ?_⟩⟩
    rcases lk with ⟨z, _⟩ | ⟨_, c, hc, o, q, d⟩
    · rcases f2 with y | y <;> rw [y] at z <;> cases z
    · exact ⟨c, f3.trans hc, o, old c o q, d⟩
  · obtain ⟨v, o, q, d⟩ := I.cell x c (L.sub x c e)
    exact ⟨v, o, old c o q, d⟩
  · exact I.hok.fresh leS
  · have e : p = (s.heap.objs.size, emptyList) := by
      have hp' : p ∈ ([] : List (Addr × Obj)) ++ [(s.heap.objs.size, emptyList)] := hp
      simpa using hp'
    subst e
    refine ⟨hD, I.hok.fresh (Nat.le_refl _), neS, fun q => ?_, fun v q => by have q' : Data.seq _ _ = Data.cell v := q; cases q'⟩
    exact Nat.lt_irrefl _ (stk _ q).1
  · show (lcσ vars.length fv σ).length = (vars ++ frees).length
    simp [lcσ, fo.len]
end
def PIfs (X : Cx) (ifs : List Expr) (t : TT) : Prop :=
  ∀ (pins : List (Addr × Obj)) (s : Shared) (σ : St) (H : Hp) (Q : Bool → Hp → Prop), Inv X pins σ H s → t σ H Q →
    wpAny (model X.prog X.w) X.A (forIn ifs true fun c r => if r = true then do let ok ← isTrue c X.env (eval c X.env); pure (ForInStep.yield ok) else pure (ForInStep.yield r)) (TP X pins σ Q) X.xe s
def tYes : TT := fun _ H Q => Q true H
theorem yes_ {σ : St} {H : Hp} {Q : Bool → Hp → Prop} (h : Q true H) : tYes σ H Q := h
theorem pif_none {X : Cx} : PIfs X [] tYes := fun _ _ _ H _ I h => wpAny_tests_nil ⟨H, I, h⟩
def lcGoal (J : It) (Q : VK) (g : TG) (tc : TT) (te : TE) (σc : St) (H1 : Hp) : Prop := ∃ W : Nat → Nat → List V → Hp → Prop, (∃ m, W 0 m [] H1) ∧ ∀ i m ys H2, W i m ys H2 →
  (J.stop i H2 ∧ ys.length ≤ sizeLine ∧ ∀ p, H2 p = none → Q (.ref p) (upd H2 p (.lst ys))) ∨
  (J.go i H2 ∧ ys.length < sizeLine ∧ ∃ N : List V → Hp → Prop, (∀ zs H', N zs H' → ∃ m', m' < m ∧ W (i + 1) m' zs H') ∧ ∀ x H3, J.yld i H2 x H3 → g x σc H3 fun σ4 H4 => tc σ4 H4 fun b H5 => if b = true then te σ4 H5 fun v H6 => N (ys ++ [v]) H6 else N ys H5)
def tLC (nv : Nat) (fv : List Nat) (wi : TI) (g : TG) (tc : TT) (te : TE) : TE := fun σ H Q => wi σ H fun J H1 => lcGoal J Q g tc te (lcσ nv fv σ) H1
theorem codeAny_lc {prog : Program} {w : World} {A : Around} {R : Result → Shared → Prop} {s : Shared} {elt target iter : Expr} {ifs : List Expr} {scope : Scope} {pos : Pos} {it acc : Value} {env : Env} (I : Nat → Shared → Prop)
    (turn : ∀ n s, I n s → wpAny (model prog w) A (pyNext it) (fun r s₁ => match r with
      | none => R (.ok .next) s₁
      | some v => wpAny (model prog w) A (letOwnedTupleGo target it v) (fun _ s₁' => wpAny (model prog w) A (assign target env v) (fun _ s₂ =>
          wpAny (model prog w) A (forIn ifs true fun c r => if r = true then do let ok ← isTrue c env (eval c env); pure (ForInStep.yield ok) else pure (ForInStep.yield r)) (fun ok s₃ =>
            if ok = true then wpAny (model prog w) A (eval elt env) (fun x s₄ =>
              wpAny (model prog w) A (call (.builtin "list.append") [acc, x]) (fun _ s₅ => ∃ m, m < n ∧ I m s₅) (notedBy (model prog w) A env fun e s' => R (.error e) s') s₄) (notedBy (model prog w) A env fun e s' => R (.error e) s') s₃
            else ∃ m, m < n ∧ I m s₃) (notedBy (model prog w) A env fun e s' => R (.error e) s') s₂) (notedBy (model prog w) A env fun e s' => R (.error e) s') s₁') (notedBy (model prog w) A env fun e s' => R (.error e) s') s₁) (notedBy (model prog w) A env fun e s' => R (.error e) s') s)
    (n : Nat) (h : I n s) : codeAny (model prog w) A (.compLoop (.ListComp elt [⟨target, iter, ifs, 0⟩] scope pos) 0 it acc env) R s := by
  refine codeAny_loop rfl I (fun n s hI => ?_) n h
  show wpAny _ A ((compTurn (.ListComp elt [⟨target, iter, ifs, 0⟩] scope pos) 0 it acc env).onRaise (fun x => do noteFrame x env; theTreesLotGoes x)) _ _ s
  refine wpAny_noted ?_
  rw [compTurn_list]
  refine wpAny_bind (wpAny_standAt (wpAny_bind (wpAny_mono (turn n s hI) (fun r s₁ h₁ => ?_) fun _ _ h' => h')))
  cases r with
  | none => exact wpAny_pure h₁
  | some v =>
    refine wpAny_bind (wpAny_mono h₁ (fun _ s₁' h₁' => ?_) fun _ _ h' => h')
    refine wpAny_bind (wpAny_mono h₁' (fun _ s₂ h₂ => wpAny_bind (wpAny_mono h₂ (fun ok s₃ h₃ => ?_) fun _ _ h' => h')) fun _ _ h' => h')
    cases ok with
    | false => exact wpAny_pure ⟨rfl, h₃⟩
    | true =>
      exact wpAny_bind (wpAny_bind (wpAny_mono h₃ (fun x s₄ h₄ => wpAny_bind (wpAny_mono h₄ (fun _ s₅ h₅ => wpAny_pure (wpAny_pure ⟨rfl, h₅⟩)) fun _ _ h' => h')) fun _ _ h' => h'))
def GKeep (nv : Nat) (g : TG) : Prop := ∀ x σ H (K : St → Hp → Prop), g x σ H K → g x σ H fun σ' H' => K σ' H' ∧ σ'.length = σ.length ∧ ∀ i, nv ≤ i → σ'[i]? = σ[i]?
theorem gk_name {nv i : Nat} (h : i < nv) : GKeep nv (gName i) := fun x σ H K q => ⟨q, by simp, fun j hj => by rw [List.getElem?_set_ne (by omega)]⟩
theorem gk_pair {F : PySem.W.Frag} {nv i j : Nat} (hi : i < nv) (hj : j < nv) : GKeep nv (gTup F 2 (gCons (gName i) (gCons (gName j) gNil))) := fun x σ H K ⟨a, xs, e, hq, hl, v, r, e1, v2, r2, e2, e3, q⟩ =>
  ⟨a, xs, e, hq, hl, v, r, e1, v2, r2, e2, e3, q, by simp, fun k hk => by rw [List.getElem?_set_ne (by omega), List.getElem?_set_ne (by omega)]⟩
abbrev lobj (us : List Value) (n : Nat) : Obj := { cls := .type "list", data := .seq us.toArray n }
theorem lc_loop {Y : Cx} {D it : Addr} {J : It} {fp : List Addr} {tn : Nat → Heap → Prop} {g : TG} {tc : TT} {te : TE} {Q : VK} {W : Nat → Nat → List V → Hp → Prop} {nv n0 m0 : Nat} {σc : St} {H : Hp} {s : Shared}
    {elt target iter : Expr} {ifs : List Expr} {scope : Scope} {pos : Pos} {R : Result → Shared → Prop} (hx : Y.xe = fun _ _ => False)
    (hc : Y.calm = true) (hg : PG Y target g) (hk : GKeep nv g) (hi : PIfs Y ifs tc) (he : PE Y elt te) (T : Turn Y.prog Y.w Y.K target J fp it tn)
    (hnv : ∀ i, i < nv → ∀ v, σc[i]? ≠ some (some v))
    (d1 : D ≠ Y.env.locals) (d2 : D ∈ Y.ex) (d3 : D ∉ Y.fs) (d4 : ∀ x c, Y.env.cells.lookup x = some c → c ≠ D) (d5 : D ∉ fp) (d6 : Y.pn = [])
    (hf : ∀ b ∈ fp, b ≠ Y.env.locals ∧ b ∉ Y.fs ∧ (b ∈ Y.ex ∨ Y.s₀.heap.objs.size ≤ b) ∧ (∀ x c, Y.env.cells.lookup x = some c → c ≠ b))
    (I0 : Inv Y [(D, lobj [] n0)] σc H s) (st : tn 0 s.heap) (fr : ∀ b ∈ fp, H b = none) (w0 : W 0 m0 [] H)
    (turn : ∀ i m ys H2, W i m ys H2 → (J.stop i H2 ∧ ys.length ≤ sizeLine ∧ ∀ p, H2 p = none → Q (.ref p) (upd H2 p (.lst ys))) ∨
      (J.go i H2 ∧ ys.length < sizeLine ∧ ∃ N : List V → Hp → Prop, (∀ zs H', N zs H' → ∃ m', m' < m ∧ W (i + 1) m' zs H') ∧ ∀ x H3, J.yld i H2 x H3 → g x σc H3 fun σ4 H4 => tc σ4 H4 fun b H5 => if b = true then te σ4 H5 fun v H6 => N (ys ++ [v]) H6 else N ys H5))
    (hend : ∀ ys us n H' s', Inv Y [(D, lobj us n)] σc H' s' → Vals ys us → ys.length ≤ sizeLine → (∀ p, H' p = none → Q (.ref p) (upd H' p (.lst ys))) → R (.ok .next) s') :
    codeAny (model Y.prog Y.w) Y.A (.compLoop (.ListComp elt [⟨target, iter, ifs, 0⟩] scope pos) 0 (.ref it) (.ref D) Y.env) R s := by
  have fpok : ∀ {H' : Hp} {o : Obj}, (∀ b ∈ fp, H' b = none) → ∀ b ∈ fp, FpOk Y [(D, o)] H' b := fun {H' o} hn b hb => by
    obtain ⟨f1, f2, f3, f4⟩ := hf b hb
    refine ⟨hn b hb, f1, f2, f3, f4, fun p hp => ?_⟩
    rw [d6] at hp
    have e : p = (D, o) := by simpa using hp
    rw [e]
    exact fun z => d5 (by rw [show D = b from z]; exact hb)
  refine codeAny_lc (fun n s' => ∃ i ys us k H', Inv Y [(D, lobj us k)] σc H' s' ∧ Vals ys us ∧ tn i s'.heap ∧ (∀ b ∈ fp, H' b = none) ∧ W i n ys H') ?_ m0 ⟨0, [], [], n0, H, I0, .nil, st, fr, w0⟩
  rintro n s3 ⟨i, ys, us, k, H3, I3, rv, st3, fr3, w3⟩
  have ex0 : ∀ {E' : Value → Shared → Prop} {e : Value} {s' : Shared}, Y.xe e s' → E' e s' := fun {E' e s'} z => by rw [hx] at z; exact z.elim
  rcases turn i n ys H3 w3 with ⟨stop, hz, q⟩ | ⟨go, hz, N, hN, step⟩
  · refine thn (T.done Y rfl rfl rfl hc i _ s3 σc H3 _ I3 (fpok fr3) st3 stop) fun r s4 hq__ => ?_
    obtain ⟨hr, I4⟩ := hq__
    subst hr
    exact hend ys us k H3 s4 I4 rv hz q
  · refine thn (T.item Y rfl rfl rfl hc i _ s3 σc H3 _ I3 (fpok fr3) st3 go) fun r s4 hq__ => ?_
    obtain ⟨u, hr, h4⟩ := hq__
    subst hr
    refine thn h4 fun _ s5 hq__ => ?_
    obtain ⟨x, H5, I5, r5, y5, st5, fr5⟩ := hq__
    have I5' := I5.pinned (fpok fr5) (T.obj _ _ st5)
    refine wpAny_mono (hg _ s5 σc H5 x u _ I5' r5 (hk x σc H5 _ (step x H5 y5))) (fun _ s6 hq__ => ?_) fun _ _ z => ex0 z
    obtain ⟨σ6, H6, I6, q6, l6, e6⟩ := hq__
    have wk : ∀ (i : Nat) v, σc[i]? = some (some v) → σ6[i]? = some (some v) := fun i v e => by
      by_cases h : nv ≤ i
      · rw [e6 i h]; exact e
      · exact absurd e (hnv i (by omega) v)
    have back : ∀ {o : Obj} {H' : Hp} {s' : Shared}, Inv Y ([(D, o)] ++ pinsAt fp s5.heap) σ6 H' s' → Inv Y [(D, o)] σc H' s' ∧ tn (i + 1) s'.heap ∧ ∀ b ∈ fp, H' b = none := fun {o H' s'} I' => by
      refine ⟨(I'.unpinned).weak (by rw [← l6]) wk, T.keep _ _ _ st5 fun b hb o e => (I'.pin (b, o) (List.mem_append_right _ (List.mem_append_right _ (mem_pinsAt hb e)))).1, fun b hb => ?_⟩
      obtain ⟨o, e, _⟩ := T.obj _ _ st5 b hb
      exact (I'.pin (b, o) (List.mem_append_right _ (List.mem_append_right _ (mem_pinsAt hb e)))).2.1
    refine wpAny_mono (hi _ s6 σ6 H6 _ I6 q6) (fun b s7 hq__ => ?_) fun _ _ z => ex0 z
    obtain ⟨H7, I7, q7⟩ := hq__
    cases b with
    | false =>
      obtain ⟨m', hm, w7⟩ := hN ys H7 q7
      obtain ⟨I8, st8, fr8⟩ := back I7
      exact ⟨m', hm, i + 1, ys, us, k, H7, I8, rv, st8, fr8, w7⟩
    | true =>
      refine wpAny_mono (he _ s7 σ6 H7 _ I7 q7) (fun u2 s8 hq__ => ?_) fun _ _ z => ex0 z
      obtain ⟨v, H8, I8, r8, n8⟩ := hq__
      obtain ⟨m', hm, w8⟩ := hN _ H8 n8
      obtain ⟨I9, st9, fr9⟩ := back I8
      obtain ⟨eD, nD, _, _, _⟩ := I9.pin (D, lobj us k) (by simp)
      have hlen := rv.length
      refine call_meets F.slot_list_append ⟨_, eD, rfl⟩ F.entry_list_append (F.args_list_append_2 _ _) (PySem.list_append D us.toArray k u2 (by rw [List.size_toArray]; omega)) ⟨eD, ?_⟩
      have q := PySem.IsL.update eD (fun x_1 => x_1.push u2)
      have eq : us.toArray.push u2 = (us ++ [u2]).toArray := by simp
      rw [eq] at q
      obtain ⟨n', q⟩ : ∃ n', (s8.heap.update D (Obj.mapSeq fun x_1 => x_1.push u2)).get? D = some (lobj (us ++ [u2]) n') := ⟨_, q⟩
      have I10 : Inv Y [] σc H8 s8 := I9.pins_of fun p hp => by cases hp
      have I11 : Inv Y [] σc H8 { s8 with heap := s8.heap.update D (Obj.mapSeq fun x_1 => x_1.push u2), toks := s8.toks } :=
        I10.turned (it := D) (fun b o hb e => (Heap.get?_update_other s8.heap (Obj.mapSeq _) (Ne.symm hb)).trans e) nD d1 (.inl d2) d4 (fun p hp => by rw [d6] at hp; cases hp)
      refine ⟨m', hm, i + 1, ys ++ [v], us ++ [u2], n', H8, I11.pins_of (fun p hp => ?_), rv.append (.cons r8 .nil), ?_, fr9, w8⟩
      · have e : p = (D, lobj (us ++ [u2]) n') := by simpa using hp
        subst e
        exact ⟨q, nD, d1, d3, fun v z => by have z' : Data.seq _ _ = Data.cell v := z; cases z'⟩
      · refine T.keep _ _ _ st9 fun b hb o e => ?_
        exact (Heap.get?_update_other s8.heap (Obj.mapSeq _) (fun z => d5 (by rw [z]; exact hb))).trans e
section
variable {X : Cx} {pins : List (Addr × Obj)} {σ : St} {H : Hp} {s : Shared} {scope : Scope} {cl : List (Str × Addr)} {vars frees : List Str} {fv : List Nat} {elt target iter : Expr} {ifs : List Expr} {pos : Pos}
def LcEnd (X : Cx) (pins : List (Addr × Obj)) (σ : St) (Q : VK) (D C : Addr) (s' : Shared) : Prop :=
  ∃ (ys : List V) (H' : Hp) (oC : Obj) (m : Str → Option Value), Inv X (pins ++ [(C, oC)]) σ (upd H' D (.lst ys)) s' ∧ s'.heap.Ns C m ∧ FpOk X pins (upd H' D (.lst ys)) C ∧ Q (.ref D) (upd H' D (.lst ys))
theorem lc_core {J : It} {fp : List Addr} {it : Addr} {tn : Nat → Heap → Prop} {g : TG} {tc : TT} {te : TE} {Q : VK} {W : Nat → Nat → List V → Hp → Prop} {m0 : Nat} {E : Value → Shared → Prop} {E2 : Value → Addr → Value → Shared → Prop}
    (hc : X.calm = true) (L : LcOk X scope cl) (fo : FvOk X scope cl frees fv) (hk : GKeep vars.length g)
    (hg : ∀ C s H ex, PG (blk X (vars ++ frees) scope cl C s H ex) target g) (hi : ∀ C s H ex, PIfs (blk X (vars ++ frees) scope cl C s H ex) ifs tc) (he : ∀ C s H ex, PE (blk X (vars ++ frees) scope cl C s H ex) elt te)
    (I : Inv X pins σ H s) (T : Turn X.prog X.w X.K target J fp it tn) (st : tn 0 s.heap) (hf : ∀ b ∈ fp, FpOk X pins H b) (w0 : W 0 m0 [] H)
    (turn : ∀ i m ys H2, W i m ys H2 → (J.stop i H2 ∧ ys.length ≤ sizeLine ∧ ∀ p, H2 p = none → Q (.ref p) (upd H2 p (.lst ys))) ∨
      (J.go i H2 ∧ ys.length < sizeLine ∧ ∃ N : List V → Hp → Prop, (∀ zs H', N zs H' → ∃ m', m' < m ∧ W (i + 1) m' zs H') ∧ ∀ x H3, J.yld i H2 x H3 → g x (lcσ vars.length fv σ) H3 fun σ4 H4 => tc σ4 H4 fun b H5 => if b = true then te σ4 H5 fun v H6 => N (ys ++ [v]) H6 else N ys H5)) :
    wpAny (model X.prog X.w) X.A (newList []) (fun acc s₃ => wpAny (model X.prog X.w) X.A (newFunctionEnv scope X.env.globals cl [] X.env.qual none .none (some X.env)) (fun cenv s₄ =>
      codeAny (model X.prog X.w) X.A (.compStart (.ListComp elt [⟨target, iter, ifs, 0⟩] scope pos) 0 (.ref it) acc { cenv with scope := relabel scope X.env })
        (fun r s' => match r with | .ok _ => ∃ D, acc = .ref D ∧ LcEnd X pins σ Q D cenv.locals s' | .error x => E2 acc cenv.locals x s') s₄) E s₃) E s := by
  have hoo : ∀ b ∈ fp, ∃ o, s.heap.get? b = some o := fun b hb => let ⟨o, e, _⟩ := T.obj 0 _ st b hb; ⟨o, e⟩
  refine wpAny_newObj_type (wpAny_newFunctionEnv L.nocell (by intro y hy; simp at hy) (fun h₁ hns hsb => ?_) L.kind)
  dsimp only at hns hsb ⊢
  have hC : (s.heap.push emptyList).objs.size = s.heap.objs.size + 1 := Heap.size_push ..
  have keep1 : ∀ b o, b ≠ (s.heap.push emptyList).objs.size → (s.heap.push emptyList).get? b = some o → h₁.get? b = some o := fun b o hb e => hsb.extBut b o hb (Heap.get?_push_of_some _ e)
  have I0 : Inv (blk X (vars ++ frees) scope cl (s.heap.push emptyList).objs.size { s with heap := s.heap.push emptyList } H (s.heap.objs.size :: fp)) [(s.heap.objs.size, emptyList)] (lcσ vars.length fv σ) H { s with heap := h₁, toks := s.toks + ([] : List (Str × Value)).length } :=
    inv_blk I L fo hf hoo (by simpa using hns) keep1
  have st1 : tn 0 h₁ := T.keep 0 _ _ st fun b hb o e => keep1 b o (ltS e) (Heap.get?_push_of_some _ e)
  have loop : codeAny (model X.prog X.w) X.A (.compLoop (.ListComp elt [⟨target, iter, ifs, 0⟩] scope pos) 0 (.ref it) (.ref s.heap.objs.size) (compEnvC scope cl (s.heap.push emptyList).objs.size X.env))
      (fun r s' => match r with | .ok _ => ∃ D, Value.ref s.heap.objs.size = .ref D ∧ LcEnd X pins σ Q D (s.heap.push emptyList).objs.size s' | .error x => E2 (.ref s.heap.objs.size) (s.heap.push emptyList).objs.size x s') { s with heap := h₁, toks := s.toks + ([] : List (Str × Value)).length } := by
    refine lc_loop (Y := blk X (vars ++ frees) scope cl (s.heap.push emptyList).objs.size { s with heap := s.heap.push emptyList } H (s.heap.objs.size :: fp)) (nv := vars.length) (n0 := 0) rfl hc (hg _ _ _ _) hk (hi _ _ _ _) (he _ _ _ _) T (fun i hi v e => ?_)
      neS (by show s.heap.objs.size ∈ s.heap.objs.size :: fp; simp) ?_ (fun x c e => ?_) (fun z => ?_) rfl (fun b hb => ?_) I0 st1 (fun b hb => (hf b hb).1) w0 turn ?_
    · rw [show lcσ vars.length fv σ = List.replicate vars.length none ++ fv.map fun j => (σ[j]?).join from rfl, List.getElem?_append_left (by simpa using hi), List.getElem?_replicate_of_lt (by simpa using hi)] at e
      cases e
    · exact (I0.pin (s.heap.objs.size, emptyList) (by simp)).2.2.2.1
    · obtain ⟨v, q⟩ := I.cell x c (L.sub x c e)
      exact Nat.ne_of_lt q.lt
    · obtain ⟨o, e⟩ := hoo _ z
      exact absurd (Heap.lt_size e) (Nat.lt_irrefl _)
    · exact ⟨(I0.ok.exf b (List.mem_cons_of_mem _ hb)).1, I0.ok.exfs b (List.mem_cons_of_mem _ hb), .inl (List.mem_cons_of_mem _ hb), (I0.ok.exf b (List.mem_cons_of_mem _ hb)).2⟩
    · intro ys us n H' s' I' rv hz q
      obtain ⟨eD, nD, _, fD, _⟩ := I'.pin (s.heap.objs.size, lobj us n) (by simp)
      obtain ⟨mC, hnC, _⟩ := I'.loc
      obtain ⟨oC, es, ep, eC, dC, r1, r2⟩ := id hnC
      have nC : H' (s.heap.push emptyList).objs.size = none := I'.free
      have neDC : (s.heap.push emptyList).objs.size ≠ s.heap.objs.size := neS.symm
      have lt : ∀ {b : Addr} {o : Obj}, s.heap.get? b = some o → b ≠ s.heap.objs.size ∧ b ≠ (s.heap.push emptyList).objs.size := fun e => ⟨neZ e, ltS e⟩
      have nex : ∀ {b : Addr} {o : Obj}, s.heap.get? b = some o → b ∉ fp → b ∉ s.heap.objs.size :: fp := fun e hb z => by
        rcases List.mem_cons.mp z with z | z
        · exact (lt e).1 z
        · exact hb z
      have upn : ∀ {b : Addr} {u : HO}, H' b = some u → upd H' s.heap.objs.size (.lst ys) b = some u := fun e => by rw [upd_ne (ne_of_none e nD)]; exact e
      have un : Un (frs X.stack) fp H (upd H' s.heap.objs.size (.lst ys)) s.heap s'.heap :=
        { keep := fun b o e n hb hx => I'.base.keep b o (Heap.get?_push_of_some _ e) n hb (nex e hx)
          slot := fun b o e n hb hx => I'.base.slot b o (Heap.get?_push_of_some _ e) n hb (nex e hx)
          free := fun b o e n hx => by rw [upd_ne (lt e).1]; exact I'.base.free b o (Heap.get?_push_of_some _ e) n (nex e hx)
          there := fun b o e hx => I'.base.there b o (Heap.get?_push_of_some _ e) (nex e hx)
          tups := fun b xs e => upn (I'.base.tups b xs e)
          frzs := fun b o u e => upn (I'.base.frzs b o u e)
          tbls := fun b ps e => let ⟨more, z⟩ := I'.base.tbls b ps e; ⟨more, upn z⟩ }
      have hok : HOk X.prog X.w (upd H' s.heap.objs.size (.lst ys)) s'.heap := fun b u e => by
        by_cases hb : b = s.heap.objs.size
        · subst hb; rw [upd_same] at e; cases e
          exact ⟨hz, us, n, rv, eD⟩
        · rw [upd_ne hb] at e
          exact (I'.hok b u e).stay (fun c v _ z => z) (fun c z => upn z) fun c xs z => upn z
      have J1 : Inv X pins σ (upd H' s.heap.objs.size (.lst ys)) s' := I.call' (ch := fp) I'.os un hok I'.bare fun b hb => ⟨(hf b hb).2.2.2.1, (hf b hb).2.1, (hf b hb).2.2.2.2.1, (hf b hb).2.2.2.2.2⟩
      have fC : FpOk X pins (upd H' s.heap.objs.size (.lst ys)) (s.heap.push emptyList).objs.size := I.fpOk leS (by rw [upd_ne neDC]; exact nC)
      refine ⟨_, rfl, ys, H', oC, mC, J1.pins_of (fun p hp => ?_), hnC, fC, q _ nD⟩
      rcases List.mem_append.mp hp with z | z
      · exact J1.pin p (List.mem_append_right _ z)
      · have e : p = ((s.heap.push emptyList).objs.size, oC) := by simpa using z
        subst e
        exact ⟨eC, fC.1, fC.2.1, fC.2.2.1, fun v z => by rw [dC] at z; cases z⟩
  exact codeAny_compStart_list loop (T.self _ 0 _ _ _ st1 loop)
theorem pe_lc {wi : TI} {g : TG} {tc : TT} {te : TE} (hc : X.calm = true) (L : LcOk X scope cl) (fo : FvOk X scope cl frees fv) (hit : PI X target iter wi) (hk : GKeep vars.length g)
    (hg : ∀ C s H ex, PG (blk X (vars ++ frees) scope cl C s H ex) target g) (hi : ∀ C s H ex, PIfs (blk X (vars ++ frees) scope cl C s H ex) ifs tc) (he : ∀ C s H ex, PE (blk X (vars ++ frees) scope cl C s H ex) elt te)
    (hs : ∀ x, foldedSetIterable iter X.env x = pure x := by intro _; rfl) : PE X (.ListComp elt [⟨target, iter, ifs, 0⟩] scope pos) (tLC vars.length fv wi g tc te) := by
  intro pins s σ H Q I h
  rw [eval_ListComp]
  refine wpAny_comprehension_free (use := none) rfl hs L.clos L.kind L.names (thn (hit pins s σ H _ I h) fun v s1 h1 => thn h1 fun itv s2 h2 => ?_)
  obtain ⟨it, fp, tn, J, H2, e, I2, T, st2, f2, W, ⟨m0, w0⟩, turn⟩ := h2
  subst e
  refine wpAny_mono (lc_core (E := X.xe) (E2 := fun acc C x s' => compPost (model X.prog X.w) X.A X.xe none (EP X pins σ Q) acc C (.error x) s') hc L fo hk hg hi he I2 T st2 f2 w0 turn) (fun acc s3 h3 => thn h3 fun cenv s4 h4 => codeAny_mono h4 fun r s' h5 => ?_) fun _ _ z => z
  cases r with
  | error x => exact h5
  | ok f =>
    obtain ⟨D, rfl, ys, H', oC, m, J1, hn, fC, q⟩ := h5
    refine ⟨m, hn, fun h' sb => ⟨.ref D, _, ?_, rfl, q⟩⟩
    exact J1.unpinned.turned (t' := s'.toks) (it := cenv.locals) (fun b o hb e => (sb.2 b hb).trans e) fC.1 fC.2.1 fC.2.2.2.1 fC.2.2.2.2.1 fC.2.2.2.2.2
theorem ps_setLC {wi : TI} {g : TG} {tc : TT} {te : TE} {i : Nat} {x : Str} {spos pos' : Pos} (hN : X.N.Nodup) (hix : X.N[i]? = some x) (hlx : Loc X.env.scope x) (hc : X.calm = true) (L : LcOk X scope cl) (fo : FvOk X scope cl frees fv) (hit : PI X target iter wi) (hk : GKeep vars.length g)
    (hg : ∀ C s H ex, PG (blk X (vars ++ frees) scope cl C s H ex) target g) (hi : ∀ C s H ex, PIfs (blk X (vars ++ frees) scope cl C s H ex) ifs tc) (he : ∀ C s H ex, PE (blk X (vars ++ frees) scope cl C s H ex) elt te)
    (hsw : swapsWith (.ListComp elt [⟨target, iter, ifs, 0⟩] scope pos) (some (.Name x pos')) spos.line X.env = pure true := by rfl)
    (hs : ∀ x, foldedSetIterable iter X.env x = pure x := by intro _; rfl) (hf : X.fn x = true ∨ X.env.scope.names.lookup x = some .local := by first | exact .inl rfl | exact .inr rfl | assumption) :
    PS X (.Assign [.Name x pos'] (.ListComp elt [⟨target, iter, ifs, 0⟩] scope pos) spos) (tAsg (tLC vars.length fv wi g tc te) (gName i)) := by
  intro pins s σ H Dn I h
  rw [exec_Assign_Name_used _ _ _ _ hsw]
  refine wpAny_bind (wpAny_standAt (wpAny_bind ?_))
  show wpAny _ X.A (do let _ ← comprehension (.ListComp elt [⟨target, iter, ifs, 0⟩] scope pos) scope X.env _ (newList []) false (eval iter X.env) (some (assign (.Name x pos') X.env))) _ _ s
  refine wpAny_bind (wpAny_mono (wpAny_comprehension_free (use := some (assign (.Name x pos') X.env)) (Q := fun _ s' => SP X pins Dn .next s') rfl hs L.clos L.kind L.names (thn (hit pins s σ H _ I h) fun v s1 h1 => thn h1 fun itv s2 h2 => ?_)) (fun _ s' hq => wpAny_pure (wpAny_pure hq)) fun _ _ e => e)
  obtain ⟨it, fp, tn, J, H2, e, I2, T, st2, f2, W, ⟨m0, w0⟩, turn⟩ := h2
  subst e
  refine wpAny_mono (lc_core (Q := fun x H1 => gName i x σ H1 Dn.nx) (E := X.xe) (E2 := fun acc C y s' => compPost (model X.prog X.w) X.A X.xe (some (assign (.Name x pos') X.env)) (fun _ s' => SP X pins Dn .next s') acc C (.error y) s') hc L fo hk hg hi he I2 T st2 f2 w0 turn) (fun acc s3 h3 => thn h3 fun cenv s4 h4 => codeAny_mono h4 fun r s' h5 => ?_) fun _ _ z => z
  cases r with
  | error y => exact h5
  | ok f =>
    obtain ⟨D, rfl, ys, H', oC, m, J1, hn, fC, q⟩ := h5
    show wpAny (model X.prog X.w) X.A (assign (.Name x pos') X.env (.ref D)) (fun _ s'' => ∃ m, s''.heap.Ns cenv.locals m ∧ ∀ h', Heap.SameBut cenv.locals s''.heap h' → SP X pins Dn .next { s'' with heap := h' }) X.xe s'
    refine thn (pg_name (i := i) hN hix hlx hf _ s' σ _ (.ref D) (.ref D) (fun σ' H'' => Dn.nx σ' H'' ∧ H'' = upd H' D (.lst ys)) J1 rfl ⟨q, rfl⟩) fun _ s6 hq__ => ?_
    obtain ⟨σ6, H6, I6, q6, e6⟩ := hq__
    subst e6
    have eC := (I6.pin (cenv.locals, oC) (by simp)).1
    have eC' := (J1.pin (cenv.locals, oC) (by simp)).1
    obtain ⟨o, es, ep, ho, r1⟩ := hn
    rw [eC'] at ho
    cases ho
    refine ⟨m, ⟨oC, es, ep, eC, r1⟩, fun h' sb => ⟨σ6, _, ?_, q6⟩⟩
    exact I6.unpinned.turned (t' := s6.toks) (it := cenv.locals) (fun b o hb e => (sb.2 b hb).trans e) fC.1 fC.2.1 fC.2.2.2.1 fC.2.2.2.2.1 fC.2.2.2.2.2
end
end L2
namespace L2
open PySem PySem.Spec PyProof.Rows
theorem lc_list {K : PySem.W.Frag} {a : Addr} {xs : List V} {g : TG} {tc : TT} {te : TE} {Q : VK} {σ : St} {H : Hp} (Pv : Nat → List V → Hp → Prop) (hz : xs.length ≤ sizeLine) (h0 : Pv 0 [] H) (hl : ∀ i ys H, Pv i ys H → SqL K H a xs ∧ ys.length ≤ i)
    (hs : ∀ i x ys H, xs[i]? = some x → Pv i ys H → g x σ H fun σ4 H4 => tc σ4 H4 fun b H5 => if b = true then te σ4 H5 fun v H6 => Pv (i + 1) (ys ++ [v]) H6 else Pv (i + 1) ys H5)
    (hd : ∀ ys H p, Pv xs.length ys H → H p = none → Q (.ref p) (upd H p (.lst ys))) :
    lcGoal (Itl K a) Q g tc te σ H := by
  refine ⟨fun i m ys H => m = xs.length - i ∧ i ≤ xs.length ∧ Pv i ys H, ⟨xs.length, by simp, Nat.zero_le _, h0⟩, ?_⟩
  rintro i m ys H2 ⟨rfl, hi, p⟩
  obtain ⟨q, hy⟩ := hl i ys H2 p
  by_cases hlt : i < xs.length
  · refine .inr ⟨⟨xs, xs[i], q, by simp [hlt]⟩, by omega, Pv (i + 1), fun zs H' p' => ⟨xs.length - (i + 1), by omega, rfl, hlt, p'⟩, fun x H3 y => ?_⟩
    obtain ⟨e, y⟩ := y
    subst e
    exact hs i x ys _ (y xs q) p
  · have e : i = xs.length := by omega
    subst e
    exact .inl ⟨⟨xs, q, Nat.le_refl _⟩, by omega, fun p' hp' => hd ys H2 p' p hp'⟩
theorem lc_range {lo : Int} {n : Nat} {g : TG} {tc : TT} {te : TE} {Q : VK} {σ : St} {H : Hp} (Pv : Nat → List V → Hp → Prop) (hz : n ≤ sizeLine) (h0 : Pv 0 [] H) (hl : ∀ i ys H, Pv i ys H → ys.length ≤ i)
    (hs : ∀ i ys H, i < n → Pv i ys H → g (.int (lo + i)) σ H fun σ4 H4 => tc σ4 H4 fun b H5 => if b = true then te σ4 H5 fun v H6 => Pv (i + 1) (ys ++ [v]) H6 else Pv (i + 1) ys H5)
    (hd : ∀ ys H p, Pv n ys H → H p = none → Q (.ref p) (upd H p (.lst ys))) :
    lcGoal (Itr lo n) Q g tc te σ H := by
  refine ⟨fun i m ys H => m = n - i ∧ i ≤ n ∧ Pv i ys H, ⟨n, by simp, Nat.zero_le _, h0⟩, ?_⟩
  rintro i m ys H2 ⟨rfl, hi, p⟩
  have hy := hl i ys H2 p
  by_cases hlt : i < n
  · refine .inr ⟨hlt, by omega, Pv (i + 1), fun zs H' p' => ⟨n - (i + 1), by omega, rfl, hlt, p'⟩, fun x H3 y => ?_⟩
    obtain ⟨e, y⟩ := y
    subst e y
    exact hs i ys _ hlt p
  · have e : i = n := by omega
    subst e
    exact .inl ⟨Nat.le_refl _, by omega, fun p' hp' => hd ys H2 p' p hp'⟩
theorem lc_zip {K : PySem.W.Frag} {a b : Addr} {xs ys : List V} {g : TG} {tc : TT} {te : TE} {Q : VK} {σ : St} {H : Hp} (Pv : Nat → List V → Hp → Prop) (hz : xs.length ≤ sizeLine) (h0 : Pv 0 [] H) (hl : ∀ i zs H, Pv i zs H → SqL K H a xs ∧ SqL K H b ys ∧ zs.length ≤ i)
    (hs : ∀ i x y zs H p, xs[i]? = some x → ys[i]? = some y → H p = none → Pv i zs H → g (.ref p) σ (upd H p (.tup [x, y])) fun σ4 H4 => tc σ4 H4 fun b H5 => if b = true then te σ4 H5 fun v H6 => Pv (i + 1) (zs ++ [v]) H6 else Pv (i + 1) zs H5)
    (hd : ∀ i zs H p, i = min xs.length ys.length → Pv i zs H → H p = none → Q (.ref p) (upd H p (.lst zs))) :
    lcGoal (Itz K a b) Q g tc te σ H := by
  refine ⟨fun i m zs H => m = min xs.length ys.length - i ∧ i ≤ min xs.length ys.length ∧ Pv i zs H, ⟨min xs.length ys.length, by simp, Nat.zero_le _, h0⟩, ?_⟩
  rintro i m zs H2 ⟨rfl, hi, p⟩
  obtain ⟨qa, qb, hy⟩ := hl i zs H2 p
  by_cases hlt : i < min xs.length ys.length
  · have ha : i < xs.length := by omega
    have hb : i < ys.length := by omega
    refine .inr ⟨⟨xs, ys, xs[i], ys[i], qa, qb, by simp [ha], by simp [hb]⟩, by omega, Pv (i + 1), fun zs H' p' => ⟨min xs.length ys.length - (i + 1), by omega, rfl, hlt, p'⟩, fun x H3 y => ?_⟩
    obtain ⟨t, rfl, ht, y⟩ := y
    have ea : xs[i]? = some xs[i] := by simp [ha]
    have eb : ys[i]? = some ys[i] := by simp [hb]
    rw [y xs ys xs[i] ys[i] qa qb ea eb]
    exact hs i xs[i] ys[i] zs H2 t ea eb ht p
  · exact .inl ⟨⟨xs, ys, qa, qb, by omega⟩, by omega, fun p' hp' => hd i zs H2 p' (by omega) p hp'⟩
end L2
namespace L2
open PySem PySem.Spec PyProof.Rows
structure New (H H' : Hp) (p : Addr) (o : HO) : Prop where
  same : Same H H'
  fresh : H p = none
  at_ : H' p = some o
theorem new_upd {H : Hp} {p : Addr} {o : HO} (h : H p = none) : New H (upd H p o) p o := ⟨same_upd h, h, upd_same⟩
def But (l : Addr) (H H' : Hp) : Prop := ∀ b o, H b = some o → b ≠ l → H' b = some o
theorem but_upd {H : Hp} {l : Addr} {o : HO} : But l H (upd H l o) := fun b u e n => by rw [upd_ne n]; exact e
theorem But.same {H0 H H' : Hp} {l : Addr} (b : But l H H') (s : Same H0 H) (h : H0 l = none) : Same H0 H' := fun c o e => b c o (s c o e) (ne_of_none e h)
theorem But.tup {H H' : Hp} {l : Addr} {o : HO} (b : But l H H') (h : H l = some o) (n : ∀ xs, o ≠ .tup xs) : ∀ c xs, H c = some (.tup xs) → H' c = some (.tup xs) := fun c xs e => b c _ e (ne_of e h (fun z => n xs z.symm))
section
variable {X : Cx} {e : Expr} {es : List Expr} {te : TE} {t : TA} {pos : Pos}
def tTupN (t : TA) : TE := fun σ H Q => t σ H fun xs H1 => xs.length ≤ sizeLine ∧ ∀ p H', New H1 H' p (.tup xs) → Q (.ref p) H'
def tLstN (t : TA) : TE := fun σ H Q => t σ H fun xs H1 => xs.length ≤ sizeLine ∧ ∀ p H', New H1 H' p (.lst xs) → Q (.ref p) H'
theorem pe_tupN {x1} (h : PA X es t) : PE X (.Tuple es x1 pos) (tTupN t) := by
  intro pins s σ H Q I hq
  refine wpAny_Tuple_spliced (thn (h pos pins s σ H _ I hq) fun us s1 ⟨xs, H1, I1, r, z, q⟩ => ⟨by rw [← r.length]; exact z, ?_⟩)
  have hf : H1 s1.heap.objs.size = none := I1.hok.fresh (Nat.le_refl _)
  refine ⟨.ref s1.heap.objs.size, upd H1 s1.heap.objs.size (.tup xs), I1.laid (t' := s1.toks) (fun b u e => Heap.get?_push_of_some _ e) (Nat.le_refl _) ?_, rfl, q _ _ (new_upd hf)⟩
  exact ⟨z, us, r, ⟨_, Heap.get?_push_size _ rfl, rfl, _, rfl⟩⟩
theorem pe_lstN (h : PA X es t) : PE X (.List es pos) (tLstN t) := by
  intro pins s σ H Q I hq
  refine wpAny_List_spliced (thn (h pos pins s σ H _ I hq) fun us s1 ⟨xs, H1, I1, r, z, q⟩ => ⟨by rw [← r.length]; exact z, ?_⟩)
  have hf : H1 s1.heap.objs.size = none := I1.hok.fresh (Nat.le_refl _)
  refine ⟨.ref s1.heap.objs.size, upd H1 s1.heap.objs.size (.lst xs), I1.laid (t' := s1.toks) (fun b u e => Heap.get?_push_of_some _ e) (Nat.le_refl _) ?_, rfl, q _ _ (new_upd hf)⟩
  exact ⟨z, us, 0, r, Heap.get?_push_size _ rfl⟩
theorem CallR.imp {f : Value} {r r' : List V → Hp → VK → Prop} (h : CallR X f r) (i : ∀ xs H Q, r' xs H Q → r xs H Q) : CallR X f r' := fun pins s σ H xs us Q I v q => h pins s σ H xs us Q I v (i xs H Q q)
theorem OpR.imp {f : Value → Value → Sem Value} {r r' : R2} (h : OpR X f r) (i : ∀ x y H Q, r' x y H Q → r x y H Q) : OpR X f r' := fun pins s σ H x y v u Q I rx ry q => h pins s σ H x y v u Q I rx ry (i x y H Q q)
theorem MtM.imp {id : String} {r r' : V → List V → Hp → VK → Prop} (h : MtM X id r) (i : ∀ x xs H Q, r' x xs H Q → r x xs H Q) : MtM X id r' := fun pins s σ H x xs v us Q I rx rv q => h pins s σ H x xs v us Q I rx rv (i x xs H Q q)
theorem call_listN : CallR X (.type "list") (fun xs H Q => ∃ p ys, xs = [.ref p] ∧ (SqL X.K H p ys ∨ SqT X.K H p ys) ∧ ∀ l H', New H H' l (.lst ys) → Q (.ref l) H') :=
  call_list_of.imp fun _ _ _ ⟨p, ys, e, h, q⟩ => ⟨p, ys, e, h, fun l hl => q l _ (new_upd hl)⟩
inductive rSlLNS (K : PySem.W.Frag) (x : V) (lo hi : Option Int) (H : Hp) (Q : VK) : Prop
  | mk : ∀ a xs, x = .ref a → SqL K H a xs → (∀ p H', New H H' p (.lst (cutV xs lo hi)) → Q (.ref p) H') → rSlLNS K x lo hi H Q
def rSlLN (K : PySem.W.Frag) : V → Option Int → Option Int → Hp → VK → Prop := fun x lo hi H Q => rSlLNS K x lo hi H Q
theorem sl_listN : SlR X (rSlLN X.K) := fun pins s σ H x v vl vu lo hi sl Q I rx hs p1 p2 ⟨a, xs, e, h, q⟩ => sl_list pins s σ H x v vl vu lo hi sl Q I rx hs p1 p2 ⟨a, xs, e, h, fun p hp => q p _ (new_upd hp)⟩
inductive rCatNS  (x y : V) (H : Hp) (Q : VK) : Prop
  | mk : ∀ l b xs zs, x = .ref l → y = .ref b → H l = some (.lst xs) → H b = some (.lst zs) → xs.length + zs.length ≤ sizeLine → (∀ p H', New H H' p (.lst (xs ++ zs)) → Q (.ref p) H') → rCatNS x y H Q
def rCatN : R2 := fun x y H Q => rCatNS x y H Q
theorem op_catN : OpR X (binaryOp .Add) rCatN := op_cat.imp fun _ _ _ _ ⟨l, b, xs, zs, e1, e2, h1, h2, z, q⟩ => ⟨l, b, xs, zs, e1, e2, h1, h2, z, fun p hp => q p _ (new_upd hp)⟩
inductive rAppendNS  (x : V) (vs : List V) (H : Hp) (Q : VK) : Prop
  | mk : ∀ l xs y, x = .ref l → vs = [y] → H l = some (.lst xs) → xs.length < sizeLine → (∀ H', But l H H' → H' l = some (.lst (xs ++ [y])) → Q .non H') → rAppendNS x vs H Q
def rAppendN : V → List V → Hp → VK → Prop := fun x vs H Q => rAppendNS x vs H Q
theorem mt_appendN : MtM X "list.append" rAppendN := mt_append.imp fun _ _ _ _ ⟨l, xs, y, e1, e2, h, z, q⟩ => ⟨l, xs, y, e1, e2, h, z, q _ but_upd upd_same⟩
end
section
variable {X : Cx} {k : Nat} {C : Addr} {ps : List Str} {sp : Sp} {dvs : List V} {ds : List Value} {x f : Str} {p pos pos' : Pos} {e o value : Expr} {es : List Expr} {ta tv : TE} {t : TA}
def tMakeN (C : Addr) (sp : Sp) (dvs : List V) (E : XK) (t : TA) : TE := fun σ H Q => t σ H fun vs H1 => ∀ x dx H', Same H1 H' → H1 x = none → H' x = some (.ins C dx []) → sp (.ref x :: (vs ++ dvs)) H' (fun v H2 => v = .non ∧ Q (.ref x) H2) E
theorem pe_mkN (D : MkOk X.prog X.w X.K X.mg X.base C k x ps ds sp) (hr : Room (k + 1) X.A) (hg : Gl X x) (hd : Vals dvs ds) (ha : PA X (e :: es) t) (hdb : (x == ("__debug__" : Str)) = false := by decide)
    (he : starEach (e :: es) X.env = (false, eval e X.env) :: starEach es X.env := by rfl) (hpl : (backTo pos (starEach es X.env)).any (·.1) = false := by rfl) : PE X (.Call (.Name x p) (e :: es) [] pos) (tMakeN C sp dvs E0 t) := by
  obtain ⟨f, fd, F, hm, M, hb⟩ := D
  intro pins s σ H Q I h
  refine wpAny_Call_Name_kw (ld_glob I hg hm ?_ hdb)
  refine PySem.W.callWith_K (h₀ := X.base) I.ok.mod.kin M.kp (thn (ha pos pins s σ H _ I h) fun us s1 ⟨vs, H1, I1, r, q⟩ => ⟨I1.kIn, ?_⟩) he hpl
  refine run_make M F hr hb hd pass0 I1 r fun y dx h1 h2 h3 => q y dx _ ?_ h1 upd_same
  exact (same_upd h2).trans (same_upd (by rw [upd_ne h3.symm]; exact h1))
def sFldN (K : PySem.W.Frag) (ta tv : TE) (f : Str) : TS := fun D σ H => tv σ H fun y H1 => ta σ H1 fun x H2 => ∃ a C dx fs, x = .ref a ∧ H2 a = some (.ins C dx fs) ∧ Cls K C ∧ NoAttr K C f ∧ fs.length < 1000 ∧
  ∀ H', But a H2 H' → H' a = some (.ins C dx (putF f y fs)) → D.nx σ H'
theorem ps_fldN (ha : PE X o ta) (hv : PE X value tv) (hs : swapsWith value (some (.Attribute o f pos')) pos.line X.env = pure false) : PS X (.Assign [.Attribute o f pos'] value pos) (sFldN X.K ta tv f) := by
  intro pins s σ H D I h
  refine plainObj_wpAny_Assign_Attribute (thn (hv pins s σ H _ I h) fun u s1 ⟨y, H1, I1, ry, q⟩ => thn (ha pins s1 σ H1 _ I1 q) fun ov s2 hq__ => ?_) hs
  obtain ⟨x, H2, I2, rx, a, C, dx, fs, ex, ea, c, n, l, q2⟩ := hq__
  subst ex
  obtain rfl : ov = Value.ref a := rx
  exact setattr_ok I2 ea c n l ry fun s3 I3 => ⟨σ, _, I3, q2 _ but_upd upd_same⟩
end
theorem for_zipN {K : PySem.W.Frag} {a b : Addr} {xs ys : List V} {g : TG} {tb : TS} {D : Ends} {σ : St} {H : Hp} (Pv : Nat → St → Hp → Prop) (h0 : Pv 0 σ H) (hl : ∀ i σ H, Pv i σ H → SqL K H a xs ∧ SqL K H b ys)
    (hs : ∀ i x y σ H p H', xs[i]? = some x → ys[i]? = some y → New H H' p (.tup [x, y]) → Pv i σ H → g (.ref p) σ H' fun σ2 H2 => tb { D with nx := Pv (i + 1), ct := Pv (i + 1), bk := D.nx } σ2 H2)
    (hd : ∀ i σ H, i = min xs.length ys.length → Pv i σ H → D.nx σ H) :
    ∃ W : Nat → Nat → St → Hp → Prop, (∃ m, W 0 m σ H) ∧ ∀ i m σ H, W i m σ H →
      ((Itz K a b).stop i H ∧ D.nx σ H) ∨ ((Itz K a b).go i H ∧ ∃ N : St → Hp → Prop, (∀ σ' H', N σ' H' → ∃ m', m' < m ∧ W (i + 1) m' σ' H') ∧ ∀ x H', (Itz K a b).yld i H x H' → g x σ H' fun σ2 H2 => tb { D with nx := N, ct := N, bk := D.nx } σ2 H2) :=
  for_zip Pv h0 hl (fun i x y σ H p e1 e2 hn p' => hs i x y σ H p _ e1 e2 (new_upd hn) p') hd
theorem lcOk {X : Cx} {scope : Scope} {cl : List (Str × Addr)} (clos : closureFor scope X.env = pure cl) (kind : scope.kind = .function) (nocell : ∀ y ∈ scope.names, y.2 ≠ .cell)
    (names : ∀ y ∈ scope.names, y.2 = .local → scope.names.lookup y.1 = some .local) (sub : ∀ p ∈ cl, X.env.cells.lookup p.1 = some p.2)
    (has : ((relabel scope X.env).names.all fun y => (y.2 != .cell && y.2 != .free) || (cl.lookup y.1).isSome) = true) : LcOk X scope cl := by
  refine ⟨clos, kind, nocell, names, fun x c e => ?_, fun x h => ?_⟩
  · have : ∀ l : List (Str × Addr), l.lookup x = some c → (x, c) ∈ l := fun l => by
      induction l with
      | nil => intro z; simp at z
      | cons p r ih =>
        intro z
        obtain ⟨y, d⟩ := p
        rw [List.lookup_cons] at z
        by_cases q : (x == y) = true
        · rw [q] at z
          have e1 : x = y := by simpa using q
          have e2 : d = c := Option.some.inj z
          subst e1 e2
          exact List.mem_cons_self
        · have q' : (x == y) = false := by simpa using q
          rw [q'] at z
          exact List.mem_cons_of_mem _ (ih z)
    exact sub (x, c) (this cl e)
  · have : ∀ (l : List (Str × NameKind)) (k : NameKind), l.lookup x = some k → (x, k) ∈ l := fun l k => by
      induction l with
      | nil => intro z; simp at z
      | cons p r ih =>
        intro z
        obtain ⟨y, d⟩ := p
        rw [List.lookup_cons] at z
        by_cases q : (x == y) = true
        · rw [q] at z
          have e1 : x = y := by simpa using q
          have e2 : d = k := Option.some.inj z
          subst e1 e2
          exact List.mem_cons_self
        · have q' : (x == y) = false := by simpa using q
          rw [q'] at z
          exact List.mem_cons_of_mem _ (ih z)
    rw [List.all_eq_true] at has
    cases e : cl.lookup x with
    | some c => exact ⟨c, rfl⟩
    | none =>
      rcases h with h | h
      · have := has _ (this _ _ h)
        rw [e] at this
        simp at this
      · have := has _ (this _ _ h)
        rw [e] at this
        simp at this
end L2
namespace L2
open PySem PySem.Spec PyProof.Rows
section
variable {X : Cx}
end
end L2
namespace L2
open PySem PySem.Spec PyProof.Rows
def FlT (h : Heap) (e T : Addr) (cls : Value) (dd : Option Addr) (fl : Value) : Prop :=
  ∃ oe vs oT ts, h.get? e = some oe ∧ oe.cls = cls ∧ oe.dict = dd ∧ oe.data = .fields vs ∧ vs[1]? = some (.ref T) ∧ T ≠ e ∧ h.get? T = some oT ∧ oT.data = .fields ts ∧ ts[3]? = some fl
def Fl0 (h : Heap) (e : Addr) (cls : Value) (dd : Option Addr) : Prop :=
  ∃ oe vs, h.get? e = some oe ∧ oe.cls = cls ∧ oe.dict = dd ∧ oe.data = .fields vs ∧ vs[1]? = some .none
def FpX (X : Cx) (H : Hp) (b : Addr) : Prop :=
  H b = none ∧ b ≠ X.env.locals ∧ b ∉ X.fs ∧ X.s₀.heap.get? b = none ∧ (∀ x c, X.env.cells.lookup x = some c → c ≠ b) ∧ ∀ p ∈ X.pn, p.1 ≠ b
def Fly (X : Cx) (H : Hp) (h : Heap) (e : Addr) (cls : Value) (dd : Option Addr) : Prop :=
  FpX X H e ∧ (Fl0 h e cls dd ∨ ∃ T fl, FpX X H T ∧ FlT h e T cls dd fl)
abbrev XW := Value → Option Addr → St → Hp → Prop
def XE (X : Cx) (W : XW) (ev : Value) (s : Shared) : Prop :=
  ∃ e cls dd σ H, ev = .ref e ∧ Inv X [] σ H s ∧ Fly X H s.heap e cls dd ∧ W cls dd σ H
def OnStk (X : Cx) : Prop := X.stack = X.env :: X.outer ∧ X.env.frame = some X.env.locals ∧ X.ex = []
section
variable {X : Cx} {σ : St} {H : Hp} {s : Shared} {h' : Heap} {M : Model} {A : Around} {E : Value → Shared → Prop} {e T : Addr} {cls fl : Value} {dd : Option Addr}
theorem ObjOk.there {P : Program} {w : World} {H : Hp} {h : Heap} {a : Addr} {o : HO} (x : ObjOk P w H h a o) : ∃ u, h.get? a = some u := by
  induction o with
  | lst xs => obtain ⟨_, _, _, _, e⟩ := x; exact ⟨_, e⟩
  | tup xs => obtain ⟨_, _, _, u, e, _⟩ := x; exact ⟨u, e⟩
  | dK kvs => obtain ⟨_, _, _, _, u, _, _, e, _⟩ := x; exact ⟨u, e⟩
  | dT kvs => obtain ⟨_, _, _, _, u, _, _, e, _⟩ := x; exact ⟨u, e⟩
  | set S n => obtain ⟨u, _, _, _, e, _⟩ := x; exact ⟨u, e⟩
  | ins C dx fs => obtain ⟨_, _, _, e, _⟩ := x; exact ⟨_, e⟩
  | own y => exact x
  | xd fs => obtain ⟨_, ⟨u, _, _, e, _⟩, _⟩ := x; exact ⟨u, e⟩
  | met f y => exact ⟨_, x⟩
  | rng lo hi => obtain ⟨_, _, _, e⟩ := x; exact ⟨_, e⟩
  | frz u v _ => obtain ⟨e, _⟩ := x; exact ⟨_, e⟩
  | tbl ps => exact ⟨_, x⟩
  | ext φ => exact x.2.1
theorem Inv.fpX {H' : Hp} {pins : List (Addr × Obj)} (hs : OnStk X) (I : Inv X pins σ H s) (hb : s.heap.get? e = none) (hn : H' e = none) : FpX X H' e := by
  refine ⟨hn, fun z => ?_, fun z => ?_, ?_, fun x c q z => ?_, fun p hp z => ?_⟩
  · obtain ⟨m, ⟨o, _, _, ho, _⟩, _⟩ := I.loc
    rw [← z, hb] at ho; cases ho
  · obtain ⟨_, o, ho, _⟩ := I.funs.mem z
    rw [hb] at ho; cases ho
  · cases q : X.s₀.heap.get? e with
    | none => rfl
    | some o =>
      obtain ⟨o', ho'⟩ := I.base.there e o q (by rw [hs.2.2]; simp)
      rw [hb] at ho'; cases ho'
  · obtain ⟨v, o, ho, _⟩ := I.cell x c q
    rw [z, hb] at ho; cases ho
  · have := (I.pin p (List.mem_append_left _ hp)).1
    rw [z, hb] at this; cases this
theorem Inv.noneOf {pins : List (Addr × Obj)} (I : Inv X pins σ H s) (hb : s.heap.get? e = none) : H e = none := by
  cases q : H e with
  | none => rfl
  | some o =>
    obtain ⟨u, hu⟩ := (I.hok e o q).there
    rw [hb] at hu; cases hu
theorem Inv.turnR {H' : Hp} {t' : Nat} {ch : List Addr} (I : Inv X [] σ H s) (hf : ∀ b ∈ ch, FpX X H b) (k : ∀ b u, b ∉ ch → b ∉ frs X.stack → s.heap.get? b = some u → h'.get? b = some u)
    (k2 : ∀ b u, b ∉ ch → s.heap.get? b = some u → ∃ sl, h'.get? b = some { u with slots := sl }) (hH : ∀ b, b ∉ ch → H' b = H b) (hok : HOk X.prog X.w H' h') : Inv X [] σ H' { s with heap := h', toks := t' } := by
  have sup : ∀ b o, H b = some o → H' b = some o := fun b o q => by rw [hH b (fun z => by rw [(hf b z).1] at q; cases q)]; exact q
  have nosl : ∀ b, b ≠ X.env.locals → b ∉ X.fs → b ∉ frs X.stack := fun b h1 h2 z => (List.mem_cons.mp (I.stkSub b z)).elim h1 h2
  have neL : ∀ b o, X.s₀.heap.get? b = some o → b ≠ X.env.locals := fun b o q => Nat.ne_of_lt (Nat.lt_of_lt_of_le (Heap.lt_size q) I.ok.above)
  have neC : ∀ b o, X.s₀.heap.get? b = some o → b ∉ ch := fun b o q hb => by rw [(hf b hb).2.2.2.1] at q; cases q
  have cellK : ∀ x c, X.env.cells.lookup x = some c → ∀ v, s.heap.IsCell c v → h'.IsCell c v := fun x c q v ⟨o, ho, hd⟩ => by
    obtain ⟨sl, q'⟩ := k2 c o (fun z => (hf c z).2.2.2.2.1 x c q rfl) ho
    exact ⟨_, q', hd⟩
  refine ⟨I.ok, I.os, I.bare, ⟨fun b o q n hb hx => ?_, fun b o q n hb hx => ?_, fun b o q n hx => ?_, fun b o q hx => ?_, fun b xs q => sup _ _ (I.base.tups b xs q), fun b o xs q => sup _ _ (I.base.frzs b o xs q), fun b ps q => ?_⟩, ?_, fun x c q => ?_, ?_, fun x c q => ?_, fun p hp => ?_, hok, I.len⟩
  · exact k b o (neC b o q) (nosl b (neL b o q) hb) (I.base.keep b o q n hb hx)
  · obtain ⟨sl, e1⟩ := I.base.slot b o q n hb hx
    obtain ⟨sl', e2⟩ := k2 b _ (neC b o q) e1
    exact ⟨sl', e2⟩
  · rw [hH b (neC b o q)]
    exact I.base.free b o q n hx
  · obtain ⟨o', e1⟩ := I.base.there b o q hx
    obtain ⟨sl', e2⟩ := k2 b _ (neC b o q) e1
    exact ⟨_, e2⟩
  · obtain ⟨m1, e1⟩ := I.base.tbls b ps q
    exact ⟨m1, sup _ _ e1⟩
  · obtain ⟨m, hn, hl⟩ := I.loc
    refine ⟨m, ?_, fun i x v e1 e2 e3 => ?_⟩
    · obtain ⟨o, es, ep, ho, r⟩ := hn
      obtain ⟨sl, q⟩ := k2 _ o (fun z => (hf _ z).2.1 rfl) ho
      exact ⟨_, es, ep, q, r⟩
    · obtain ⟨u, r, l⟩ := hl i x v e1 e2 e3
      refine ⟨u, r, ?_⟩
      rcases l with l | ⟨kk, c, q, z⟩
      · exact .inl l
      · exact .inr ⟨kk, c, q, cellK x c q _ z⟩
  · obtain ⟨v, z⟩ := I.cell x c q
    exact ⟨v, cellK x c q v z⟩
  · rw [hH _ (fun z => (hf _ z).2.1 rfl)]; exact I.free
  · rw [hH _ (fun z => (hf _ z).2.2.2.2.1 x c q rfl)]; exact I.freeC x c q
  · obtain ⟨q, n, ne, nf, d⟩ := I.pin p hp
    have hp' : p ∈ X.pn := by
      have : p ∈ X.pn ++ ([] : List (Addr × Obj)) := hp
      simpa using this
    have nch : p.1 ∉ ch := fun z => (hf p.1 z).2.2.2.2.2 p hp' rfl
    exact ⟨k p.1 p.2 nch (nosl p.1 ne nf) q, by rw [hH _ nch]; exact n, ne, nf, d⟩
theorem Inv.turnS {t' : Nat} {ch : List Addr} (I : Inv X [] σ H s) (hf : ∀ b ∈ ch, FpX X H b) (k : ∀ b u, b ∉ ch → b ∉ frs X.stack → s.heap.get? b = some u → h'.get? b = some u)
    (k2 : ∀ b u, b ∉ ch → s.heap.get? b = some u → ∃ sl, h'.get? b = some { u with slots := sl }) : Inv X [] σ H { s with heap := h', toks := t' } := by
  have nch : ∀ b u, H b = some u → b ∉ ch := fun b u e z => by rw [(hf b z).1] at e; cases e
  have nst : ∀ b u, H b = some u → b ∉ frs X.stack := fun b u e z => by rw [I.stkFree b z] at e; cases e
  refine I.turnR hf k k2 (fun _ _ => rfl) fun b u e => ?_
  refine (I.hok b u e).stay (fun c v hc q => ?_) (fun _ q => q) fun _ _ q => q
  rcases hc with z | z
  · subst z; exact k _ v (nch _ u e) (nst _ u e) q
  · exact k c v (nch c _ z) (nst c _ z) q
theorem Inv.track {o : HO} (I : Inv X [] σ H s) (hf : FpX X H e) (ok : ObjOk X.prog X.w (upd H e o) s.heap e o) : Inv X [] σ (upd H e o) s := by
  refine I.turnR (h' := s.heap) (t' := s.toks) (ch := [e]) (fun b hb => by rw [List.mem_singleton.mp hb]; exact hf) (fun _ _ _ _ q => q) (fun b u _ q => ⟨u.slots, q⟩) (fun b hb => upd_ne (fun z => hb (by simp [z]))) fun b u q => ?_
  by_cases hb : b = e
  · subst hb; rw [upd_same] at q; cases q; exact ok
  · rw [upd_ne hb] at q
    exact (I.hok b u q).stay (fun _ _ _ q => q) (fun c q => by rw [upd_ne (ne_of_none q hf.1)]; exact q) fun c xs q => by rw [upd_ne (ne_of_none q hf.1)]; exact q
theorem entry_ok {oe : Obj} {vs : Array Value} {head : Value} {hadNext : Bool} {Q : Unit → Shared → Prop} (hs : OnStk X) (hA : A.frames = some X.stack) (I : Inv X [] σ H s) (hp : FpX X H e)
    (he : s.heap.get? e = some oe) (hc : oe.cls = cls) (hdd : oe.dict = dd) (hd : oe.data = .fields vs) (hsz : 1 < vs.size)
    (k : ∀ h' T, Inv X [] σ H { s with heap := h' } → FpX X H T → FlT h' e T cls dd (rawInt X.env.locals) → Q () { s with heap := h' }) :
    wpAny M A (do let a ← frameOf X.env; let pl ← entryPlaceOf X.env.locals hadNext; let b ← EntryCells.newEntry head a .none (rawInt X.env.locals) .none pl; setField (.ref e) 1 b) Q E s := by
  have hs0 := hs
  obtain ⟨hst, hfr, _⟩ := hs
  have hl := I.stack
  rw [hst] at hl hA
  have hene : e ∉ frs X.stack := fun hm => by
    rcases List.mem_cons.mp (I.stkSub e hm) with z | z
    · exact hp.2.1 z
    · exact hp.2.2.1 z
  refine wpAny_bind (wpAny_frameOf_fun hA hl hfr fun h₁ hs₁ => ?_)
  refine wpAny_bind (wpAny_entryPlaceOf fun pl hpl => ?_)
  unfold EntryCells.newEntry newFields
  refine wpAny_bind (wpAny_newObj_type ?_ (hpl.sizeOk5 _ _ _ _ _))
  have S : (X.env :: X.outer).filterMap (·.frame) = frs X.stack := by rw [hst]; rfl
  rw [S] at hs₁
  have he₁ : h₁.get? e = some oe := (hs₁.2.1 e hene).trans he
  generalize hob : ({ cls := .type "traceback", dict := none, data := .fields ([head, .ref X.env.locals, .none, rawInt X.env.locals, .none] ++ (if pl.isEmpty then List.replicate 6 Value.none else pl)).toArray } : Obj) = ob
  have hobd : ob.data = .fields ([head, .ref X.env.locals, .none, rawInt X.env.locals, .none] ++ (if pl.isEmpty then List.replicate 6 Value.none else pl)).toArray := by rw [← hob]
  have he₂ := Heap.get?_push_of_some (h := h₁) ob he₁
  refine wpAny_setField he₂ hd hsz ?_
  have hTe : h₁.objs.size ≠ e := Nat.ne_of_gt (Heap.lt_size he₁)
  have hd₃ := Obj.data_mapFields hd (·.setIfInBounds 1 (Value.ref h₁.objs.size))
  have he₃ := Heap.get?_update_self (Obj.mapFields (·.setIfInBounds 1 (Value.ref h₁.objs.size))) he₂ (Obj.isFreed_of_fields hd₃)
  have hT₃ := (Heap.get?_update_other (h₁.push ob) (Obj.mapFields (·.setIfInBounds 1 (Value.ref h₁.objs.size))) (Ne.symm hTe)).trans (Heap.get?_push_size h₁ (by rw [← hob]; rfl))
  have kk : ∀ b o, b ≠ e → h₁.get? b = some o → ((h₁.push ob).update e (Obj.mapFields (·.setIfInBounds 1 (Value.ref h₁.objs.size)))).get? b = some o := fun b o hb q => by
    rw [Heap.get?_update_other _ _ (Ne.symm hb)]
    exact Heap.get?_push_of_some _ q
  refine k _ h₁.objs.size (I.turnS (t' := s.toks) (ch := [e]) (fun b hb => by rw [List.mem_singleton.mp hb]; exact hp) (fun b u hb hn q => ?_) fun b u hb q => ?_) (I.fpX hs0 (by rw [hs₁.1]; exact Heap.get?_none_of_le (Nat.le_refl _)) (I.hok.fresh (by rw [hs₁.1]; exact Nat.le_refl _))) ?_
  · exact kk b u (fun z => hb (by simp [z])) ((hs₁.2.1 b hn).trans q)
  · obtain ⟨sl, q'⟩ := hs₁.2.2 b u q
    exact ⟨sl, kk b _ (fun z => hb (by simp [z])) q'⟩
  · refine ⟨_, _, _, _, he₃, (Obj.cls_mapFields _ _).trans hc, ?_, hd₃, by simp [hsz], hTe, hT₃, hobd, by simp⟩
    rw [← hdd]
    obtain ⟨c9, d9, dt9, sl9⟩ := oe
    cases dt9 <;> rfl
theorem note_ok {Q : Unit → Shared → Prop} (hs : OnStk X) (hA : A.frames = some X.stack) (I : Inv X [] σ H s) (F : Fly X H s.heap e cls dd)
    (k : ∀ h' T, Inv X [] σ H { s with heap := h' } → FpX X H T → FlT h' e T cls dd (rawInt X.env.locals) → Q () { s with heap := h' }) : wpAny M A (noteFrame (.ref e) X.env) Q E s := by
  obtain ⟨hp, F⟩ := F
  unfold noteFrame
  simp only [hs.2.1]
  rcases F with ⟨oe, vs, he, hc, hdd, hd, h1⟩ | ⟨T, fl, hT, oe, vs, oT, ts, he, hc, hdd, hd, h1, hTe, hoT, hdT, h3⟩
  · refine wpAny_bind (wpAny_field he hd h1 ?_)
    rw [if_neg (by decide)]
    exact entry_ok hs hA I hp he hc hdd hd (Array.getElem?_eq_some_iff.mp h1).1 k
  · refine wpAny_bind (wpAny_field he hd h1 ?_)
    rw [if_pos (show (Value.ref T != Value.none) = true from by simp)]
    refine wpAny_bind (wpAny_field hoT hdT h3 ?_)
    by_cases hfl : (fl == rawInt X.env.locals) = true
    · rw [if_pos hfl]
      have := k s.heap T I hT ⟨oe, vs, oT, ts, he, hc, hdd, hd, h1, hTe, hoT, hdT, by rw [h3, beq_iff_eq.mp hfl]⟩
      exact wpAny_pure this
    · rw [if_neg hfl]
      refine wpAny_bind (wpAny_setField hoT hdT (Array.getElem?_eq_some_iff.mp h3).1 ?_)
      have other : ∀ b, b ≠ T → (s.heap.update T (Obj.mapFields (·.setIfInBounds 3 Value.none))).get? b = s.heap.get? b := fun b hb => Heap.get?_update_other _ _ (Ne.symm hb)
      have I2 : Inv X [] σ H { s with heap := s.heap.update T (Obj.mapFields (·.setIfInBounds 3 Value.none)) } :=
        I.turnS (t' := s.toks) (ch := [T]) (fun b hb => by rw [List.mem_singleton.mp hb]; exact hT) (fun b u hb _ q => (other b (fun z => hb (by simp [z]))).trans q) fun b u hb q => ⟨u.slots, (other b (fun z => hb (by simp [z]))).trans q⟩
      exact entry_ok hs hA I2 hp ((other e (Ne.symm hTe)).trans he) hc hdd hd (Array.getElem?_eq_some_iff.mp h1).1 k
theorem flight_ok {Q : Unit → Shared → Prop} (fr : Option Addr) (I : Inv X [] σ H s) (hT : FpX X H T) (F : FlT s.heap e T cls dd fl)
    (k : ∀ h', Inv X [] σ H { s with heap := h' } → FlT h' e T cls dd (fr.elim .none fun f => rawInt f) → Q () { s with heap := h' }) : wpAny M A (setFlight (.ref e) fr) Q E s := by
  obtain ⟨oe, vs, oT, ts, he, hc, hdd, hd, h1, hTe, hoT, hdT, h3⟩ := F
  have hsz3 : 3 < ts.size := (Array.getElem?_eq_some_iff.mp h3).1
  have other : ∀ b, b ≠ T → (s.heap.update T (Obj.mapFields (·.setIfInBounds 3 (fr.elim .none fun f => rawInt f)))).get? b = s.heap.get? b := fun b hb => Heap.get?_update_other _ _ (Ne.symm hb)
  unfold setFlight
  refine wpAny_bind (wpAny_field he hd h1 ?_)
  rw [if_pos (show (Value.ref T != Value.none) = true from by simp)]
  refine wpAny_setField hoT hdT hsz3 (k _ ?_ ?_)
  · exact I.turnS (t' := s.toks) (ch := [T]) (fun b hb => by rw [List.mem_singleton.mp hb]; exact hT) (fun b u hb _ q => (other b (fun z => hb (by simp [z]))).trans q) fun b u hb q => ⟨u.slots, (other b (fun z => hb (by simp [z]))).trans q⟩
  · exact ⟨oe, vs, _, _, (other e (Ne.symm hTe)).trans he, hc, hdd, hd, h1, hTe, Heap.get?_update_self _ hoT (Obj.isFreed_of_fields (Obj.data_mapFields hdT _)), Obj.data_mapFields hdT _, by simp [hsz3]⟩
end
def CX1 (P : Program) (w : World) : CXT := fun outer H s E ev s' => ∃ e T cls dd H', ev = .ref e ∧ s'.os = s.os ∧ AllBare s'.gens ∧ Un (frs outer) [] H H' s.heap s'.heap ∧ HOk P w H' s'.heap ∧ FlT s'.heap e T cls dd .none ∧ H' e = none ∧ H' T = none ∧
  s.heap.get? e = none ∧ s.heap.get? T = none ∧ E cls dd H'
theorem CX1.xe {X : Cx} {W : XW} {pins : List (Addr × Obj)} {σ : St} {H : Hp} {s s' : Shared} {ev : Value} (hs : OnStk X) (I : Inv X pins σ H s) (h : CX1 X.prog X.w X.stack H s (fun c d H' => W c d σ H') ev s') : XE X W ev s' := by
  obtain ⟨e, T, cls, dd, H', rfl, os, bare, un, hok, F, he, hT, le, lT, q⟩ := h
  have J : Inv X [] σ H s := I.pins_of (by simp)
  have J' : Inv X [] σ H' s' := by
    obtain ⟨hh, g, d, t, os'⟩ := s'
    obtain rfl : os' = s.os := os
    exact J.call (h' := hh) (g' := g) (d' := d) (t' := t) (ch := []) un hok bare (fun b z => absurd z (by simp))
  exact ⟨e, cls, dd, σ, H', rfl, J', ⟨J.fpX hs le he, .inr ⟨T, _, J.fpX hs lT hT, F⟩⟩, q⟩
theorem xe_out {P : Program} {w : World} {K : PySem.W.Frag} {mg : Str → Option Value} {base : Heap} {N : List Str} {qual : Str} {scope : Scope} {f : Addr} {cd : Value} {A : Around} {outer : List Env} {s : Shared} {H : Hp} {E : XK} {ev : Value} {s' : Shared}
    (h : XE (cxOf (CX1 P w) P w K mg base N qual scope f cd A outer s H E) (fun c d _ H' => E c d H') ev s') : (cxOf (CX1 P w) P w K mg base N qual scope f cd A outer s H E).xe ev s' := by
  obtain ⟨e, cls, dd, σ, H', rfl, I, F, q⟩ := h
  show wpAny _ _ (leaving _ _) _ _ _
  unfold leaving
  refine wpAny_bind (note_ok (X := cxOf (CX1 P w) P w K mg base N qual scope f cd A outer s H E) ⟨rfl, rfl, rfl⟩ I.ok.frames I F fun h1 T I1 hT F1 => ?_)
  refine flight_ok none I1 hT F1 fun h2 I2 F2 => ?_
  exact ⟨e, T, cls, dd, H', rfl, I2.os, I2.bare, I2.base, I2.hok, F2, F.1.1, hT.1, F.1.2.2.2.1, hT.2.2.2.1, q⟩
def Wants (X : Cx) (W : XW) : Prop := OnStk X ∧ ∀ ev s, XE X W ev s → X.xe ev s
theorem XE.unwish {X : Cx} {E : Value → Shared → Prop} {W : XW} {ev : Value} {s : Shared} (h : XE (X.wish E) W ev s) : XE X W ev s :=
  let ⟨e, cls, dd, σ, H, q, I, F, w⟩ := h; ⟨e, cls, dd, σ, H, q, I.unwish, F, w⟩
theorem XE.wish {X : Cx} {E : Value → Shared → Prop} {W : XW} {ev : Value} {s : Shared} (h : XE X W ev s) : XE (X.wish E) W ev s :=
  let ⟨e, cls, dd, σ, H, q, I, F, w⟩ := h; ⟨e, cls, dd, σ, H, q, I.wish _, F, w⟩
theorem wants_wish {X : Cx} {W : XW} (hs : OnStk X) : Wants (X.wish (XE X W)) W := ⟨hs, fun _ _ h => h.unwish⟩
theorem PSs.imp {X : Cx} {E : Value → Shared → Prop} {st : List Stmt} {t : TS} (hE : ∀ ev s, E ev s → X.xe ev s) (h : PSs (X.wish E) st t) : PSs X st t := fun pins s σ H D I hw =>
  wpAny_mono (h pins s σ H D (I.wish _) hw) (fun _ _ q => q.unwish) fun e s z => hE e s z
section
variable {P : Program} {w : World} {K : PySem.W.Frag} {mg : Str → Option Value} {base : Heap}
abbrev bx (P : Program) (w : World) (K : PySem.W.Frag) (mg : Str → Option Value) (base : Heap) (N : List Str) (qual : Str) (scope : Scope) (f : Addr) (cd : Value) (A : Around) (outer : List Env) (s : Shared) (H : Hp) (E : XK) : Cx :=
  (cxOf (CX1 P w) P w K mg base N qual scope f cd A outer s H E).wish (XE (cxOf (CX1 P w) P w K mg base N qual scope f cd A outer s H E) (fun c d _ H' => E c d H'))
theorem Fun.okX {x qual : Str} {st : Stmt} {f : Addr} {fd : FuncData} {N ps : List Str} {k : Nat} {sp : Sp} (F : Fun K x qual st f fd) (S : FnScope N ps (defScope st)) (len : ∀ vs H Q E, sp vs H Q E → vs.length = ps.length)
    (hbody : ∀ (cdv : Value) (A : Around) (outer : List Env) (s : Shared) (H : Hp) (vs : List V) (Q : VK) (E : XK), Room k (A.deeper (envOfC qual (defScope st) s.heap.objs.size f cdv)) → sp vs H Q E →
      ∃ t, PSs (bx P w K mg base N qual (defScope st) f cdv A outer s H E) (defBody st) t ∧ t { nx := fun _ H' => Q .non H', rt := Q } (start N vs) H) : FnOk P w K mg base (CX1 P w) (k + 1) f fd ps sp := by
  obtain ⟨oc, od, kV, doc, pm, an, cdv, ct, osl, rfl, lk, hcd⟩ := F.ex
  refine fn_of lk hcd S len fun A outer s H vs Q E hr hsp => ?_
  obtain ⟨t, h, q⟩ := hbody cdv A outer s H vs Q E hr hsp
  exact ⟨t, h.imp fun _ _ z => xe_out z, q⟩
theorem FunD.okX {x qual : Str} {st : Stmt} {dV : Value} {f : Addr} {fd : FuncData} {N ps : List Str} {k : Nat} {sp : Sp} (F : FunD K x qual st dV f fd) (S : FnScope N ps (defScope st)) (len : ∀ vs H Q E, sp vs H Q E → vs.length = ps.length)
    (hbody : ∀ (cdv : Value) (A : Around) (outer : List Env) (s : Shared) (H : Hp) (vs : List V) (Q : VK) (E : XK), Room k (A.deeper (envOfC qual (defScope st) s.heap.objs.size f cdv)) → sp vs H Q E →
      ∃ t, PSs (bx P w K mg base N qual (defScope st) f cdv A outer s H E) (defBody st) t ∧ t { nx := fun _ H' => Q .non H', rt := Q } (start N vs) H) : FnOk P w K mg base (CX1 P w) (k + 1) f fd ps sp := by
  obtain ⟨oc, od, kV, doc, pm, an, cdv, ct, osl, rfl, lk, hcd⟩ := F.ex
  refine fn_of lk hcd S len fun A outer s H vs Q E hr hsp => ?_
  obtain ⟨t, h, q⟩ := hbody cdv A outer s H vs Q E hr hsp
  exact ⟨t, h.imp fun _ _ z => xe_out z, q⟩
end
def DefX (P : Program) (w : World) (K : PySem.W.Frag) (mg : Str → Option Value) (base : Heap) (k : Nat) (x : Str) (ps : List Str) (ds : List Value) (sp : Sp) : Prop :=
  ∃ f fd, FnOk P w K mg base (CX1 P w) k f fd ps sp ∧ mg x = some (.ref f) ∧ PySem.W.keepIn K (.ref f) = true ∧ Binds K fd ps ds
def MetX (P : Program) (w : World) (K : PySem.W.Frag) (mg : Str → Option Value) (base : Heap) (C : Addr) (k : Nat) (m : Str) (ps : List Str) (ds : List Value) (sp : Sp) : Prop :=
  ∃ f fd, FnOk P w K mg base (CX1 P w) k f fd ps sp ∧ Meth K C m f ∧ Binds K fd ps ds
def tCallX (sp : Sp) (dvs : List V) (W : XW) (t : TA) : TE := fun σ H Q => t σ H fun vs H1 => sp (vs ++ dvs) H1 Q fun c d H' => W c d σ H'
def tMethX (C : Addr) (m : Str) (sp : Sp) (dvs : List V) (W : XW) (ta : TE) (t : TA) : TE := fun σ H Q => ta σ H fun x H1 => tMethS C m x H1 (t σ H1 fun vs H2 => sp (x :: (vs ++ dvs)) H2 Q fun c d H' => W c d σ H')
section
variable {X : Cx} {W : XW} {k : Nat} {f C : Addr} {fd : FuncData} {ps : List Str} {sp : Sp} {dvs : List V} {ds : List Value} {x m : Str} {p pos apos : Pos} {e o : Expr} {es : List Expr} {ta : TE} {t : TA}
theorem run_fnX {pins : List (Addr × Obj)} {σ : St} {H : Hp} {s : Shared} {Q : VK} {us : List Value} {vs : List V} (hW : Wants X W) (F : FnOk X.prog X.w X.K X.mg X.base (CX1 X.prog X.w) k f fd ps sp) (hr : Room k X.A) (hb : Binds X.K fd ps ds) (hd : Vals dvs ds)
    (I : Inv X pins σ H s) (r : Vals vs us) (h : sp (vs ++ dvs) H Q fun c d H' => W c d σ H') : wpAny (model X.prog X.w) X.A (call (.ref f) us) (EP X pins σ Q) X.xe s := by
  have r2 : Vals (vs ++ dvs) (us ++ ds) := r.append hd
  have hl : (us ++ ds).length = ps.length := by rw [← r2.length]; exact F.len _ _ _ _ h
  refine wpAny_call (codeAny_mono (F.run X.A X.stack s H ⟨us, []⟩ (us ++ ds) (vs ++ dvs) Q _ hr I.env0 (hb s us I.kIn hl) r2 h) fun r s' hq => ?_)
  cases r with
  | error e => exact hW.2 _ _ (CX1.xe hW.1 I hq)
  | ok fl =>
    cases fl with
    | ret u => exact I.after hq
    | next => exact False.elim hq
    | brk => exact False.elim hq
    | cont => exact False.elim hq
theorem pe_fnX (hW : Wants X W) (D : DefX X.prog X.w X.K X.mg X.base k x ps ds sp) (hr : Room k X.A) (hg : Gl X x) (hd : Vals dvs ds) (ha : PA X (e :: es) t) (hdb : (x == ("__debug__" : Str)) = false := by decide)
    (he : starEach (e :: es) X.env = (false, eval e X.env) :: starEach es X.env := by rfl) (hpl : (backTo pos (starEach es X.env)).any (·.1) = false := by rfl) : PE X (.Call (.Name x p) (e :: es) [] pos) (tCallX sp dvs W t) := by
  obtain ⟨f, fd, F, hm, hk, hb⟩ := D
  intro pins s σ H Q I h
  refine wpAny_Call_Name_kw (ld_glob I hg hm ?_ hdb)
  refine PySem.W.callWith_K (h₀ := X.base) I.ok.mod.kin hk (thn (ha pos pins s σ H _ I h) fun us s1 ⟨vs, H1, I1, r, q⟩ => ⟨I1.kIn, ?_⟩) he hpl
  exact run_fnX hW F hr hb hd I1 r q
theorem pe_mtX {pl : Sem Bool} (hW : Wants X W) (he : PE X o ta) (c : Cls X.K C) (D : MetX X.prog X.w X.K X.mg X.base C k m ps ds sp) (hr : Room k X.A) (hd : Vals dvs ds) (ha : PA X (e :: es) t)
    (hst : starEach (e :: es) X.env = (false, eval e X.env) :: starEach es X.env := by rfl) (hpl : (backTo pos (starEach es X.env)).any (·.1) = false := by rfl)
    (ht : eval (.Call (.Attribute o m apos) (e :: es) [] pos) X.env = (do
      let ov ← eval o X.env
      standAt apos.atName
      let (f, first) ← holding [ov] (getMethod ov m pl)
      callWith pos f first (backTo pos (starEach (e :: es) X.env)) (backToKw pos (keywordEach [] X.env))) := by rfl) :
    PE X (.Call (.Attribute o m apos) (e :: es) [] pos) (tMethX C m sp dvs W ta t) := by
  obtain ⟨f, fd, F, hm, hb⟩ := D
  intro pins s σ H Q I h
  refine PySem.W.methodCall_KW (pl := pl) (thn (he pins s σ H _ I h) fun u s1 hq__ => ?_) ht
  obtain ⟨x, H1, I1, rx, a, dx, fs, ex, ea, l, q⟩ := hq__
  subst ex
  obtain rfl : u = Value.ref a := rx
  refine getmeth_ok I1 ea c hm l ?_
  refine PySem.W.callWith_K (first := [.ref a]) (h₀ := X.base) I.ok.mod.kin hm.kp (thn (ha pos pins s1 σ H1 _ I1 q) fun us s2 ⟨vs, H2, I2, r, q2⟩ => ⟨I2.kIn, ?_⟩) hst hpl
  exact run_fnX (us := .ref a :: us) (vs := .ref a :: vs) hW F hr hb hd I2 (.cons rfl r) q2
end
def veMro : List Value := [.type "ValueError", .type "Exception", .type "BaseException", .type "object"]
def ExcC (K : PySem.W.Frag) (C : Addr) : Prop := PySem.W.excIn K C veMro "ValueError.__new__" = true
theorem exc_at {K : PySem.W.Frag} {h : Heap} {C : Addr} {bmB : List Value} {newId : String} (X : K.In h) (q : PySem.W.excIn K C bmB newId = true) :
    ∃ bm N nm qn bs hd sn sub ab col dd k0 k1 k2 k3 k5 mN, h.get? C = some (excClassObj nm qn C N bs bm hd sn sub ab col dd k0 k1 k2 k3 k5 newId) ∧ h.Ns N mN ∧ mN "__init__" = none ∧ OwnTail h bmB bm := by
  unfold PySem.W.excIn at q
  split at q
  case h_2 => cases q
  case h_1 dd cd sl ho =>
    split at q
    case h_2 => cases q
    case h_1 C' bm k0 k1 k2 k3 n k5 hm hsl =>
      simp only [Bool.and_eq_true, beq_iff_eq, Bool.not_eq_true'] at q
      obtain ⟨⟨⟨⟨⟨q1, q2⟩, q3⟩, q4⟩, q5⟩, q6⟩ := q
      subst q1 q2
      cases cd with
      | mk nm bs mro ns qn hd sn sub ab col del =>
        cases sl with
        | mk l =>
          have hm' : mro = _ := hm
          have hl' : l = _ := hsl
          have q3' : del = false := q3
          subst hm' hl' q3'
          exact ⟨bm, ns, nm, qn, bs, hd, sn, sub, ab, col, dd, k0, k1, k2, k3, k5, _, X _ _ ho, .of_isNs (PySem.W.isNs_of_in X q5), PySem.W.nsMap_none_of_in X q5 q6, PySem.W.tail_of_in X q4⟩
def tRaise (W : XW) (C : Addr) (t : TA) : TS := fun _ σ H => t σ H fun vs H1 => vs.length ≤ sizeLine ∧ W (.ref C) none σ H1
theorem ns_bk {h h' : Heap} {N : Addr} {m : Str → Option Value} (k : ∀ b o, h.get? b = some o → h'.get? b = some o) (n : h.Ns N m) : h'.Ns N m :=
  let ⟨o, es, ep, e, r⟩ := n; ⟨o, es, ep, k _ _ e, r⟩
theorem ps_raise {X : Cx} {W : XW} {C : Addr} {x : Str} {np cpos pos : Pos} {e : Expr} {es : List Expr} {t : TA} (hW : Wants X W) (hc : X.calm = true) (hE : ExcC X.K C) (hg : Gl X x) (hm : X.mg x = some (.ref C)) (ha : PA X (e :: es) t)
    (hdb : (x == ("__debug__" : Str)) = false := by decide) (he : starEach (e :: es) X.env = (false, eval e X.env) :: starEach es X.env := by rfl) (hpl : (backTo cpos (starEach es X.env)).any (·.1) = false := by rfl) :
    PS X (.Raise (some (.Call (.Name x np) (e :: es) [] cpos)) none pos) (tRaise W C t) := by
  intro pins s σ H D I h
  obtain ⟨bm, N, nm, qn, bs, hd, sn, sub, ab, col, dd, k0, k1, k2, k3, k5, mN, hC, hN, hni, hT⟩ := exc_at I.ok.mod.kin hE
  refine wpAny_Raise_call_subU PySem.F.excBase_ValueError (by decide +kernel) PySem.F.excBase_ValueError (C := C) (nm := nm) (q := qn) (N := N) (bs := bs) (hdct := hd) (sn := sn) (sub := sub) (ab := ab) (col := col) (dd := dd) (k0 := k0) (k1 := k1) (k2 := k2) (k3 := k3) (k5 := k5) (hT.hasType (by decide +kernel)) (I.ok.hd hc) (by rw [he]; show (false || (backTo cpos (starEach es X.env)).any (·.1)) = false; rw [hpl]; rfl) hni (ld_glob I hg hm ⟨rfl, ?_⟩ hdb)
  have h2 := ha cpos pins s σ H _ I h
  rw [he] at h2 ⊢
  refine Calls.evalArgs_plain (thn h2 fun us s1 ⟨vs, H1, I1, r, q1, q2⟩ => ⟨rfl, by rw [← r.length]; exact q1, I1.bk _ _ hC, ns_bk I1.bk hN, hT.keeps I1.bk, fun h' ex hx => hW.2 _ _ ?_⟩)
  obtain ⟨tt, hex, _, _⟩ := hx.there
  have J : Inv X [] σ H1 s1 := I1.pins_of (by simp)
  exact ⟨ex, .ref C, none, σ, H1, rfl, J.kept (t' := s1.toks) hx.keeps, ⟨J.fpX hW.1 hx.new (J.noneOf hx.new), .inl ⟨_, _, hex, rfl, rfl, rfl, rfl⟩⟩, q2⟩
end L2
namespace L2
open PySem PySem.Spec PyProof.Rows
def excO (a : Addr) (cls : Value) (dd : Option Addr) : HO := .ext fun h => ∃ oe vs, h.get? a = some oe ∧ oe.cls = cls ∧ oe.dict = dd ∧ oe.data = .fields vs
abbrev hnd (X : Cx) (e : Addr) : Cx := { X with A := X.A.mark (some (.ref e)), calm := false, xe := fun _ _ => False }
abbrev pnd (X : Cx) (pn : List (Addr × Obj)) : Cx := { X with pn := pn }
section
variable {X : Cx} {pins : List (Addr × Obj)} {σ : St} {H : Hp} {s : Shared} {e : Addr}
theorem Inv.hnd (I : Inv X pins σ H s) (e : Addr) : Inv (hnd X e) pins σ H s :=
  ⟨⟨I.ok.mod, I.ok.kind, I.ok.glob, I.ok.blt, I.ok.above, I.ok.inj, I.ok.has, I.ok.cab, (fun z => nomatch z), I.ok.frames, I.ok.stk, I.ok.exf, I.ok.bs, I.ok.bsz, I.ok.noex, I.ok.exfs, I.ok.funs, I.ok.frf⟩, I.os, I.bare, I.base, I.loc, I.cell, I.free, I.freeC, I.pin, I.hok, I.len⟩
theorem Inv.unhnd (hd : X.calm = true → X.A.handled = none) (I : Inv (L2.hnd X e) pins σ H s) : Inv X pins σ H s :=
  ⟨⟨I.ok.mod, I.ok.kind, I.ok.glob, I.ok.blt, I.ok.above, I.ok.inj, I.ok.has, I.ok.cab, hd, I.ok.frames, I.ok.stk, I.ok.exf, I.ok.bs, I.ok.bsz, I.ok.noex, I.ok.exfs, I.ok.funs, I.ok.frf⟩, I.os, I.bare, I.base, I.loc, I.cell, I.free, I.freeC, I.pin, I.hok, I.len⟩
theorem Inv.pnd (I : Inv X pins σ H s) : Inv (pnd X (X.pn ++ pins)) [] σ H s :=
  ⟨⟨I.ok.mod, I.ok.kind, I.ok.glob, I.ok.blt, I.ok.above, I.ok.inj, I.ok.has, I.ok.cab, I.ok.hd, I.ok.frames, I.ok.stk, I.ok.exf, I.ok.bs, I.ok.bsz, I.ok.noex, I.ok.exfs, I.ok.funs, I.ok.frf⟩, I.os, I.bare, I.base, I.loc, I.cell, I.free, I.freeC, fun p hp => I.pin p (by
    have : p ∈ (X.pn ++ pins) ++ ([] : List (Addr × Obj)) := hp
    simpa using this), I.hok, I.len⟩
theorem Inv.unpnd (I : Inv (L2.pnd X (X.pn ++ pins)) [] σ H s) : Inv X pins σ H s :=
  ⟨⟨I.ok.mod, I.ok.kind, I.ok.glob, I.ok.blt, I.ok.above, I.ok.inj, I.ok.has, I.ok.cab, I.ok.hd, I.ok.frames, I.ok.stk, I.ok.exf, I.ok.bs, I.ok.bsz, I.ok.noex, I.ok.exfs, I.ok.funs, I.ok.frf⟩, I.os, I.bare, I.base, I.loc, I.cell, I.free, I.freeC, fun p hp => I.pin p (by
    show p ∈ (X.pn ++ pins) ++ ([] : List (Addr × Obj))
    simpa using hp), I.hok, I.len⟩
theorem SP.unpnd {E : Value → Shared → Prop} {D : Ends} {f : Flow} {s' : Shared} (h : SP ((L2.pnd X (X.pn ++ pins)).wish E) [] D f s') : SP X pins D f s' := by
  cases f with
  | next => obtain ⟨σ', H', I, q⟩ := h; exact ⟨σ', H', I.unwish.unpnd, q⟩
  | brk => obtain ⟨σ', H', I, q⟩ := h; exact ⟨σ', H', I.unwish.unpnd, q⟩
  | cont => obtain ⟨σ', H', I, q⟩ := h; exact ⟨σ', H', I.unwish.unpnd, q⟩
  | ret u => obtain ⟨v, σ', H', I, r, q⟩ := h; exact ⟨v, σ', H', I.unwish.unpnd, r, q⟩
theorem Inv.gone {h' : Heap} {t' : Nat} {n : Str} {j : Nat} {m : Str → Option Value} {v : Option Value} (I : Inv X pins σ H s) (hN : X.N.Nodup) (hj : X.N[j]? = some n) (hm : s.heap.Ns X.env.locals m)
    (hl : ∀ (i : Nat) (x : Str) (v : V), X.N[i]? = some x → σ[i]? = some (some v) → Vis X.env.scope x → ∃ u, RelV v u ∧ Look X.env s.heap m x u)
    (hn : h'.Ns X.env.locals (fun x => if x = n then v else m x)) (hs : Heap.SameBut X.env.locals s.heap h') : Inv X pins (σ.set j none) H { s with heap := h', toks := t' } := by
  have ne0 : ∀ b o, X.s₀.heap.get? b = some o → b ≠ X.env.locals := fun b o q => Nat.ne_of_lt (Nat.lt_of_lt_of_le (Heap.lt_size q) I.ok.above)
  refine ⟨I.ok, I.os, I.bare, ⟨fun b o q n hb hx => ?_, fun b o q n hb hx => ?_, I.base.free, fun b o q hx => ?_, I.base.tups, I.base.frzs, I.base.tbls⟩, ⟨_, hn, fun i y v' e1 e2 e3 => ?_⟩, fun y c q => ?_, I.free, I.freeC, fun p hp => ?_, fun b u q => ?_, by simpa using I.len⟩
  · exact (hs.2 b (ne0 b o q)).trans (I.base.keep b o q n hb hx)
  · obtain ⟨sl, e1⟩ := I.base.slot b o q n hb hx
    exact ⟨sl, (hs.2 b (ne0 b o q)).trans e1⟩
  · obtain ⟨o', e1⟩ := I.base.there b o q hx
    exact ⟨o', (hs.2 b (ne0 b o q)).trans e1⟩
  · by_cases hij : i = j
    · subst hij
      have hi : i < σ.length := by rw [I.len]; exact (List.getElem?_eq_some_iff.mp hj).1
      rw [List.getElem?_set_self hi] at e2
      cases e2
    · rw [List.getElem?_set_ne (Ne.symm hij)] at e2
      obtain ⟨u', r', q⟩ := hl i y v' e1 e2 e3
      refine ⟨u', r', ?_⟩
      rcases q with ⟨k, q⟩ | ⟨k, c, q, z⟩
      · have ny : y ≠ n := fun z => hij (nodup_ix hN e1 (z ▸ hj))
        exact .inl ⟨k, by simp [ny, q]⟩
      · exact .inr ⟨k, c, q, z.sameBut hs (I.cne y c q)⟩
  · obtain ⟨w', z⟩ := I.cell y c q
    exact ⟨w', z.sameBut hs (I.cne y c q)⟩
  · obtain ⟨q, n, ne, nf, d⟩ := I.pin p hp
    exact ⟨(hs.2 p.1 ne).trans q, n, ne, nf, d⟩
  · refine (I.hok b u q).stay (fun c w' hc q' => (hs.2 c ?_).trans q') (fun _ q => q) fun _ _ q => q
    rintro rfl
    rcases hc with z | z
    · rw [← z, I.free] at q; cases q
    · rw [I.free] at z; cases z
theorem goes_ok {M : Model} {A : Around} {E : Value → Shared → Prop} {n : Str} {j : Nat} {pos : Pos} {Q : Unit → Shared → Prop} (I : Inv X pins σ H s) (hN : X.N.Nodup) (hj : X.N[j]? = some n) (hl : X.env.kindOf n = some .local)
    (k : ∀ s', Inv X pins (σ.set j none) H s' → Q () s') : wpAny M A (do bindName X.env n .none; unbindBehindTheSuite X.env n pos) Q E s := by
  obtain ⟨m, hm, hl'⟩ := id I.loc
  exact wpAny_nameGoes_keeps hl hm (by rw [I.ok.kind]; rfl) fun h' v hn hs => k _ (I.gone hN hj hm hl' hn hs)
end
def Hits (K : PySem.W.Frag) (C : Addr) (cls : Value) : Prop := ∃ D, cls = .ref D ∧ PySem.W.ktsIn K D "BaseException" = true ∧ PySem.W.mroIn K D (.ref C) = some true
theorem mro_of {K : PySem.W.Frag} {h : Heap} {C : Addr} {base : Value} {r : Bool} {nm q : Str} {N : Addr} {bs bm : List Value} {hdct : Bool} {sn : List Str} {sub : List Value} {ab : Bool} {col : Option Bool} {dd : Option Addr} {k0 k1 k2 k3 k5 : Option Value} {newId : String}
    (X : K.In h) (e : PySem.W.mroIn K C base = some r) (hC : h.get? C = some (excClassObj nm q C N bs bm hdct sn sub ab col dd k0 k1 k2 k3 k5 newId)) : (Value.ref C :: bm).contains base = r := by
  unfold PySem.W.mroIn PySem.W.clsIn at e
  split at e
  case h_1 ho =>
    have := X _ _ ho
    rw [hC] at this
    cases this
    simpa using e
  case h_2 => simp at e
theorem excMatches_own {M : Model} {A : Around} {E : Value → Shared → Prop} {K : PySem.W.Frag} {s : Shared} {e C D : Addr} {oe : Obj} {Q : Bool → Shared → Prop} (X : K.In s.heap) (he : s.heap.get? e = some oe) (hcls : oe.cls = .ref D)
    (hC : PySem.W.ktsIn K C "BaseException" = true) (hD : PySem.W.ktsIn K D "BaseException" = true) (hs : PySem.W.mroIn K D (.ref C) = some true) (hq : Q true s) : wpAny M A (excMatches (.ref e) (.ref C)) Q E s := by
  obtain ⟨nm, qn, N, bs, bm, hdct, sn, sub, ab, col, dd, k0, k1, k2, k3, k5, newId, gC, hb, _⟩ := PySem.W.kts_cls X hC
  obtain ⟨nm', qn', N', bs', bm', hdct', sn', sub', ab', col', dd', k0', k1', k2', k3', k5', newId', gD, hb', _⟩ := PySem.W.kts_cls X hD
  have hcB : (Value.ref C :: bm).contains (.type "BaseException") = true := by rw [List.contains_cons, hb, Bool.or_true]
  have hcC := mro_of X hs gD
  have f := tc_notTuple
  obtain ⟨hp, g, d, tk, os⟩ := s
  unfold excMatches
  repeat (first | (with_reducible refine wpAny_loadPart_at he ?_; rw [hcls]) | with_reducible refine wpAny_loadPart_at gC ?_ | (with_reducible refine wpAny_isSubtype_exc gC ?_; rw [hcB]) | (with_reducible refine wpAny_isSubtype_exc gD ?_; rw [hcC]) | wp_step)
  exact hq
def hEnds (D : Ends) (j : Nat) : Ends := { nx := fun σ H => D.nx (σ.set j none) H, rt := D.rt, bk := fun σ H => D.bk (σ.set j none) H, ct := fun σ H => D.ct (σ.set j none) H }
def hW (K : PySem.W.Frag) (C : Addr) (th : TS) (j : Nat) (D : Ends) : XW := fun cls dd σ H => Hits K C cls ∧ ∀ e H', New H H' e (excO e cls dd) → th (hEnds D j) (σ.set j (some (.ref e))) H'
def sTry (K : PySem.W.Frag) (C : Addr) (tb : XW → TS) (th : TS) (j : Nat) : TS := fun D σ H => tb (hW K C th j D) D σ H
theorem ps_try {X : Cx} {C : Addr} {x n : Str} {j : Nat} {np hpos pos : Pos} {body suite : List Stmt} {b₀ : Stmt} {tb : XW → TS} {th : TS} (hs : OnStk X) (hN : X.N.Nodup) (hj : X.N[j]? = some n) (hl : X.env.kindOf n = some .local) (hx : X.env.scope.names.lookup n = some .local)
    (hg : Gl X x) (hm : X.mg x = some (.ref C)) (hC : PySem.W.ktsIn X.K C "BaseException" = true)
    (hb : ∀ pn W, PSs ((pnd X pn).wish (XE (pnd X pn) W)) body (tb W)) (hh : ∀ pn e, PSs (hnd (pnd X pn) e) (b₀ :: suite) th) (hdb : (x == ("__debug__" : Str)) = false := by decide) :
    PS X (.Try body [.ExceptHandler (some (.Name x np)) (some n) (b₀ :: suite) hpos] [] [] pos) (sTry X.K C tb th j) := by
  intro pins s σ H D I h
  have I0 : Inv (pnd X (X.pn ++ pins)) [] σ H s := I.pnd
  refine wpAny_Try_except (wpAny_mono (hb (X.pn ++ pins) _ [] s σ H D (I0.wish _) h) (fun f s1 q => ?_) fun ev s1 q => ?_)
  · cases f with
    | next => exact wpAny_execs_nil q.unpnd
    | brk => exact q.unpnd
    | cont => exact q.unpnd
    | ret u => exact q.unpnd
  · obtain ⟨e, cls, dd, σ1, H1, rfl, I1, F1, ⟨DC, rfl, hD, hDC⟩, w1⟩ := q
    have hs' : OnStk (pnd X (X.pn ++ pins)) := hs
    refine note_ok (X := pnd X (X.pn ++ pins)) hs' I1.ok.frames I1 F1 fun h2 T I2 hT F2 => ?_
    refine flight_ok none I2 hT F2 fun h3 I3 F3 => ?_
    obtain ⟨oe, vs, oT, ts, he, hc, _⟩ := id F3
    refine wpAny_handleBy_cons (codeAny_handlers_test (ld_glob (X := hnd (pnd X (X.pn ++ pins)) e) (I3.hnd e) hg hm ?_ hdb)) (by intro q; cases q)
    refine excMatches_own (s := { s1 with heap := h3 }) I3.kIn he hc hC hD hDC (codeAny_handlers_suite_as ?_)
    refine flight_ok none I3 hT F3 fun h4 I4 F4 => ?_
    obtain ⟨oe, vs, oT, ts, he, hc, hdd, hd, _⟩ := id F4
    have I5 : Inv (pnd X (X.pn ++ pins)) [] σ1 (upd H1 e (excO e (.ref DC) dd)) { s1 with heap := h4 } := I4.track F1.1 ⟨⟨oe, vs, he, hc, hdd, hd⟩, ⟨oe, he⟩, fun g1 g2 ⟨o', v', q1, q2, q3, q4⟩ k => ⟨o', v', k _ q1, q2, q3, q4⟩⟩
    refine store_ok (X := pnd X (X.pn ++ pins)) (v := .ref e) I5 hN hj (.inl hx) rfl (fun s6 I6 => ?_) (.inr hx)
    have w2 := w1 e _ (new_upd F1.1.1)
    refine wpAny_mono (hh (X.pn ++ pins) e [] s6 _ _ _ (I6.hnd e) w2) (fun f s7 q => ?_) fun _ _ z => False.elim z
    have go : ∀ {σ7 H7}, Inv (hnd (pnd X (X.pn ++ pins)) e) [] σ7 H7 s7 → ∀ {Q : Unit → Shared → Prop}, (∀ s', Inv X pins (σ7.set j none) H7 s' → Q () s') → wpAny (model X.prog X.w) X.A (do bindName X.env n .none; unbindBehindTheSuite X.env n hpos) Q X.xe s7 := fun {σ7 H7} J {Q} k =>
      goes_ok (Inv.unpnd (Inv.unhnd I.ok.hd J)) hN hj hl k
    cases f with
    | next => obtain ⟨σ7, H7, J, q7⟩ := q; exact go J fun s' J' => ⟨_, _, J', q7⟩
    | brk => obtain ⟨σ7, H7, J, q7⟩ := q; exact go J fun s' J' => ⟨_, _, J', q7⟩
    | cont => obtain ⟨σ7, H7, J, q7⟩ := q; exact go J fun s' J' => ⟨_, _, J', q7⟩
    | ret u => obtain ⟨v, σ7, H7, J, r, q7⟩ := q; exact go J fun s' J' => ⟨v, _, _, J', r, q7⟩
end L2
namespace L2
open PySem PySem.Spec PyProof.Rows
structure ExcK (K : PySem.W.Frag) (D : Addr) : Prop where
  ga : PySem.W.findIn K (.ref D) "__getattribute__" = some (some (.builtin "BaseException.__getattribute__"))
  gt : PySem.W.findIn K (.ref D) "__getattr__" = some none
  cl : PySem.W.findIn K (.ref D) "__class__" = some (some (.builtin "object.__class__"))
  ob : PySem.W.mroIn K D (.type "object") = some true
  be : PySem.W.mroIn K D (.type "BaseException") = some true
  kt : PySem.W.ktsIn K D "BaseException" = true
section
variable {prog : Program} {w : World} {A : Around} {E : Value → Shared → Prop} {s : Shared} {K : PySem.W.Frag} {a D : Addr} {oe : Obj} {vs : Array Value}
theorem exc_class {Q : Option Value → Shared → Prop} (X : K.In s.heap) (F : ExcK K D) (he : s.heap.get? a = some oe) (hc : oe.cls = .ref D) (hd : oe.data = .fields vs) (hdx : ∀ dx, oe.dict = some dx → ∃ o, s.heap.get? dx = some o) (h : Q (some (.ref D)) { s with toks := s.toks + 1 }) :
    wpAny (model prog w) A (getAttr? (.ref a) "__class__") Q E s := by
  obtain ⟨hh, g, d, t, os⟩ := s
  have L0 : PySem.W.Looks (model prog w) hh (typeOf (.ref a)) (.ref D) := hc ▸ (PySem.W.Looks.ld he).andThen .now
  have L1 := PySem.W.looks_findIn (M := model prog w) X F.ga
  have L2' := PySem.W.looks_findIn (M := model prog w) X F.gt
  have L3 := PySem.W.looks_findIn (M := model prog w) X F.cl
  have L4 := PySem.W.looks_mroIn (M := model prog w) X F.be
  have f3 := (PySem.F.attr_ValueError).ga.bind (.ref a)
  have hx2 : (Value.builtin "BaseException.__getattribute__" == Value.builtin "object.__getattribute__") = false := by decide +kernel
  unfold getAttr? getAttrBy? getAttrBy
  refine wpAny_bind (wpAny_mkText (wpAny_bind (wpAny_attempt (wpAny_holding (wpAny_bind (L0.at (wpAny_bind (L1.at ?_))))))))
  have hsel : (onTheHeap (Value.ref D) && Value.builtin "BaseException.__getattribute__" == Value.builtin "object.__getattribute__") = false := by rw [hx2]; rfl
  dsimp only
  rw [if_neg (by rw [hsel]; decide)]
  unfold getAttrByItsOwn
  have hx0 : (false && onTheHeap (Value.builtin "BaseException.__getattribute__")) = false := rfl
  unfold hookBefore
  refine wpAny_bind ?_
  rw [if_pos (show onTheHeap (Value.ref D) = true from rfl)]
  refine L2'.at ?_
  refine wpAny_bind (wpAny_attempt (wpAny_holding ?_))
  unfold callGetattribute
  rw [if_neg (by decide)]
  unfold boundAndCalled
  rw [f3]
  refine wpAny_bind (wpAny_pure ?_)
  refine wpAny_call (codeAny_call_builtin PySem.F.attr_ValueError.ga.plain PySem.F.entry_bexc_ga ?_)
  have hk : builtinKind "BaseException.__getattribute__" = some .slot := by decide +kernel
  have hsplit : splitId "BaseException.__getattribute__" = some ("BaseException", "__getattribute__") := by decide +kernel
  have ha := PySem.F.args_bexc_ga (.ref a) (.str "__class__" t)
  have hT5 : (⟨hh, g, d, t, os⟩ : Shared).TypeIs (.builtin "object.__class__") "getset_descriptor" := PySem.F.typeOf_object_class
  have f5 := PySem.F.typeOf_object_class
  have f6 := PySem.F.slot_gs_get.lookup
  have f7 := PySem.F.slot_gs_set.lookup
  simp only [checkBuiltinCall, hk, hsplit]
  refine wpAny_bind ?_
  unfold isInstance
  repeat (first | with_reducible refine L0.at ?_ | with_reducible refine L4.at ?_ | wp_step)
  refine L3.at ?_
  repeat (any_goals (first | assumption | with_reducible refine L0.at ?_ | wp_step))
  obtain ⟨od, I⟩ : ∃ od, PySem.W.InstAt hh a oe D od := by
    cases q : oe.dict with
    | none => exact ⟨none, he, hc, by unfold PySem.W.notCls; rw [hd], by rw [q]; trivial⟩
    | some dx =>
      obtain ⟨o, ho⟩ := hdx dx q
      exact ⟨some o, he, hc, by unfold PySem.W.notCls; rw [hd], by rw [q]; exact ho⟩
  refine PySem.W.class_get (s := ⟨hh, g, d, t + 1, os⟩) (od := od) X I F.ob ?_
  refine wpAny_pure ?_
  exact PySem.W.handed_on rfl (wpAny_pure h)
def ExAt (a D : Addr) (h : Heap) : Prop := ∃ oe vs, h.get? a = some oe ∧ oe.cls = .ref D ∧ oe.data = .fields vs ∧ ∀ dx, oe.dict = some dx → ∃ o, h.get? dx = some o
theorem kitx_exc (F : ExcK K D) : PySem.W.KitX K (.ref a) (.ref D) (ExAt a D) where
  ty := fun M h _ ⟨oe, vs, he, hc, _⟩ => hc ▸ (PySem.W.Looks.ld he).andThen .now
  it := fun _ _ X _ => by
    obtain ⟨nm, qn, N, bs, bm, hdct, sn, sub, ab, col, dd, k0, k1, k2, k3, k5, newId, gD, _⟩ := PySem.W.kts_cls X F.kt
    intro A' Q' E' s' k q
    unfold isType loadHead
    exact wpAny_bind (wpAny_loadPart (k _ _ gD) (wpAny_pure q))
  ne := fun h tp dd its n sl X htp => by
    obtain ⟨nm, qn, N, bs, bm, hdct, sn, sub, ab, col, dd, k0, k1, k2, k3, k5, newId, gD, _⟩ := PySem.W.kts_cls X F.kt
    refine Bool.eq_false_iff.mpr fun q => ?_
    have e : D = tp := Value.ref.inj (beq_iff_eq.mp q)
    subst e
    rw [gD] at htp
    have h2 := congrArg (Option.map Obj.cls) htp
    simp at h2
  ca := fun X ⟨oe, vs, he, hc, hd, hdx⟩ k => exc_class X F he hc hd hdx k
end
def clsV : V → Value
  | .ref C => .ref C
  | .ty T => .type T
  | _ => .none
theorem call_isiX {X : Cx} {K : PySem.W.Frag} (hK : X.K = K) : CallR X (.builtin "isinstance") (fun xs H Q => ∃ a D dd c b, xs = [.ref a, c] ∧ H a = some (excO a (.ref D) dd) ∧ ExcK K D ∧ (∀ dx, dd = some dx → ∃ fs, H dx = some (.xd fs)) ∧ PySem.W.kitOne K (.ref D) (clsV c) = some b ∧ Q (.bl b) H) := by
  subst hK
  intro pins s σ H xs us Q I r h
  obtain ⟨a, D, dd, c, b, rfl, ha, F, hdd, e, q⟩ := h
  obtain ⟨u, w', rfl, ru, rw'⟩ := vals2 r
  cases (show u = Value.ref a from ru)
  have hw : w' = clsV c := by
    cases c <;> first | exact rw' | (exfalso; simp [PySem.W.kitOne, PySem.W.kitCls, clsV] at e)
  subst hw
  obtain ⟨⟨oe, vs, he, hc, hdc, hd⟩, _⟩ := (show ObjOk X.prog X.w H s.heap a (excO a (.ref D) dd) from I.hok a _ ha)
  refine PySem.W.kia_one (kitx_exc F) I.kIn ⟨oe, vs, he, hc, hd, fun dx z => ?_⟩ e (fun z => nomatch z) fun tk => ⟨.bl b, H, I.tok tk, rfl, q⟩
  obtain ⟨fs, hx⟩ := hdd dx (hdc.symm.trans z)
  exact (I.hok dx _ hx).there
end L2
namespace L2
open PySem PySem.Spec PyProof.Rows
section
variable {X : Cx}
end
theorem bt_max : bootBuiltins "max" = some (.builtin "max") := by decide +kernel
theorem bt_sorted : bootBuiltins "sorted" = some (.builtin "sorted") := by decide +kernel
theorem wants_nox {X : Cx} (hs : OnStk X) : Wants X.nox (fun _ _ _ _ => False) := ⟨hs, fun _ _ ⟨_, _, _, _, _, _, _, _, w⟩ => w⟩
end L2
namespace L2
open PySem PySem.Spec PyProof.Rows
theorem up_same {H H' : Hp} {a : Addr} {o : HO} (s : Same H H') (h : H a = some o) : H' a = some o := s _ _ h
theorem up_new {H H' : Hp} {p a : Addr} {u o : HO} (n : New H H' p u) (h : H a = some o) : H' a = some o := n.same _ _ h
theorem same_by {H H1 H2 : Hp} {p : Addr} {u : HO} (a : Same H H1) (n : New H1 H2 p u) : Same H H2 := a.trans n.same
end L2
namespace L2
open PySem PySem.Spec PyProof.Rows
section
variable {X : Cx} {e e1 : Expr} {te t1 : TE} {pos p2 : Pos}
end
end L2
namespace L2
open PySem PySem.Spec PyProof.Rows
section
variable {prog : Program} {w : World} {A : Around} {R : Result → Shared → Prop} {I : Addr} {fp wr : List Addr} {n : Nat} {P : Nat → Value → Prop} {St : Nat → Heap → Prop} {d : Value}
end
section
variable {X : Cx}
theorem boolsAre_of : ∀ {bs : List Bool} {us : List Value}, Vals (bs.map V.bl) us → us = bs.map Value.bool
  | [], _, .nil => rfl
  | b :: r, _, .cons h t => by cases (show _ = Value.bool b from h); rw [boolsAre_of t]; rfl
theorem call_all (hc : X.calm = true) : CallR X (.builtin "all") (fun xs H Q => ∃ (p : Addr) (bs : List Bool), xs = [.ref p] ∧ SqL X.K H p (bs.map V.bl) ∧ Q (.bl (bs.all id)) H) := by
  intro pins s σ H xs us Q I r h
  obtain ⟨p, bs, rfl, hq, q⟩ := h
  obtain ⟨u, rfl, ru⟩ := vals1 r
  cases (show u = Value.ref p from ru)
  obtain ⟨its, rv, pl, hz⟩ := I.list hq
  have hl := pl.isList
  have hlt : p < s.heap.objs.size := by obtain ⟨_, e, _⟩ := hl; exact Heap.lt_size e
  have hb := boolsAre_of rv
  refine call_all_walk (wpAny_pyIter_list hl ?_)
  refine ⟨s.heap.objs.size, [s.heap.objs.size, p], [s.heap.objs.size], its.toArray.size, _, _, fun i => (bs[i]?).getD true, rfl, Walks.list (A := X.A.in1) (I.ok.hd hc) _ p (Nat.ne_of_lt hlt) its.toArray,
    ⟨⟨_, Heap.get?_push_size _ rfl, rfl, rfl⟩, hl.push _⟩, fun i v s' Q' E' hP hQ => ?_, fun h' tk hk => ?_⟩
  · rw [hb] at hP
    have hP' : (bs.map Value.bool)[i]? = some v := by simpa using hP
    rw [List.getElem?_map] at hP'
    obtain ⟨b, e1, e2⟩ := Option.map_eq_some_iff.mp hP'
    subst e2
    simp only [e1, Option.getD_some] at hQ
    exact wpAny_truthy_bool hQ
  · have e : ((List.range its.toArray.size).all fun i => (bs[i]?).getD true) = bs.all id := by
      rw [List.size_toArray, hb, List.length_map]; exact PyProof.Rows.LSm.range_all bs
    rw [e]
    refine ⟨.bl _, H, I.kept fun b o q => hk b o (fun hm => ?_) (Heap.get?_push_of_some _ q), rfl, q⟩
    rw [List.mem_singleton.mp hm] at q
    exact absurd (Heap.lt_size q) (Nat.lt_irrefl _)
end
theorem bt_all : bootBuiltins "all" = some (.builtin "all") := by decide +kernel
end L2
namespace L2
open PySem PyProof PyProof.Rows
def Ite (K : PySem.W.Frag) (a : Addr) : It :=
  ⟨fun i H => ∃ xs x, SqL K H a xs ∧ xs[i]? = some x,
   fun i H v H' => ∃ p, v = .ref p ∧ H p = none ∧ ∀ xs x, SqL K H a xs → xs[i]? = some x → H' = upd H p (.tup [.int i, x]),
   fun i H => ∃ xs, SqL K H a xs ∧ xs.length ≤ i⟩
theorem n_ie : Value.type "list_iterator" ≠ Value.type "enumerate" := by decide
theorem turn_enum {P : Program} {w : World} {K : PySem.W.Frag} {elts : List Expr} {ek : Nat} {epos : Pos} (a z it : Addr) :
    Turn P w K (.Tuple elts ek epos) (Ite K a) [z, it] z (fun i h => (∃ old, IsEnum h z it i old) ∧ h.IsListIter it a i) where
  mem := by simp
  obj := fun i h st c hc => by
    obtain ⟨⟨old, hz⟩, ⟨o1, e1, c1, f1⟩⟩ := st
    simp only [List.mem_cons, List.not_mem_nil, or_false] at hc
    rcases hc with rfl | rfl
    · exact ⟨_, hz, fun v q => by have q' : Data.fields _ = Data.cell v := q; cases q'⟩
    · exact ⟨_, e1, fun v q => by rw [f1] at q; cases q⟩
  keep := fun i h h' st k => by
    obtain ⟨⟨old, hz⟩, h1⟩ := st
    exact ⟨⟨old, k z (by simp) _ hz⟩, h1.at fun o e => k it (by simp) o e⟩
  item := by
    intro X hP hw hK hc i pins s σ H E I hf st hg
    subst hP hw hK
    obtain ⟨xs, x, qa, hx⟩ := hg
    obtain ⟨⟨old, hz⟩, h1⟩ := st
    obtain ⟨itsA, rA, pA, zA⟩ := I.list qa
    obtain ⟨u, hu, ru⟩ := rA.get hx
    have dzi : z ≠ it := by
      obtain ⟨o1, e1, c1, f1⟩ := id h1
      exact (ne_cls e1 hz (by rw [c1]; exact n_ie)).symm
    refine wpAny_pyNext_enum_item hz h1 pA.isList (x := u) (by simpa using hu) dzi fun h' a1 a2 a3 a4 hk => ?_
    refine ⟨.ref s.heap.objs.size, rfl, wpAny_letOwnedTupleGo_enum a1 fun h'' hz'' sb => ?_⟩
    have lz : z < s.heap.objs.size := Heap.lt_size hz
    have nz : s.heap.objs.size ≠ z := Nat.ne_of_gt lz
    have k2 : ∀ c o, c ∉ [z, it] → s.heap.get? c = some o → h''.get? c = some o := fun c o hc e => by
      simp only [List.mem_cons, List.not_mem_nil, or_false, not_or] at hc
      exact sb.extBut _ _ hc.1 (hk c o hc.1 hc.2 e)
    have T2 := sb.extBut _ _ nz a3
    refine ⟨.ref s.heap.objs.size, upd H s.heap.objs.size (.tup [.int i, x]), I.turnedLaid (t' := s.toks + 1) (ch := [z, it]) hf k2 (Nat.le_refl _) ⟨by show 2 ≤ sizeLine; decide, [.int i s.toks, u], .cons ⟨_, rfl⟩ (.cons ru .nil), _, T2, rfl, _, rfl⟩, rfl, ⟨_, rfl, I.hok.fresh (Nat.le_refl _), fun xs' x' qa' hx' => ?_⟩, ⟨⟨u, by simpa using hz''⟩, a2.extBut sb.extBut dzi.symm⟩, fun b hb => ?_⟩
    · rw [I.list_inj qa' qa, hx] at hx'
      cases hx'; rfl
    · have e : b ≠ s.heap.objs.size := fun q => by
        have : ∃ o, s.heap.get? b = some o := by
          simp only [List.mem_cons, List.not_mem_nil, or_false] at hb
          obtain ⟨o1, e1, _⟩ := id h1
          rcases hb with rfl | rfl
          · exact ⟨_, hz⟩
          · exact ⟨_, e1⟩
        obtain ⟨o, e⟩ := this
        exact absurd (Heap.lt_size e) (by rw [q]; exact Nat.lt_irrefl _)
      rw [upd_ne e]
      exact (hf b hb).1
  done := by
    intro X hP hw hK hc i pins s σ H E I hf st hg
    subst hP hw hK
    obtain ⟨xs, qa, hx⟩ := hg
    obtain ⟨⟨old, hz⟩, h1⟩ := st
    obtain ⟨itsA, rA, pA, zA⟩ := I.list qa
    have lA := rA.length
    refine wpAny_pyNext_enum_end (I.ok.hd hc) hz h1 pA.isList (by simp; omega) fun h' hk => ⟨rfl, I.turnedL (t' := s.toks) (ch := [z, it]) hf fun c o hc e => ?_⟩
    simp only [List.mem_cons, List.not_mem_nil, or_false, not_or] at hc
    exact hk c o hc.2 e
  self := fun _ _ _ _ _ st h => wpAny_pyIter_enum st.1.choose_spec h
section
variable {X : Cx}
def iEnum (K : PySem.W.Frag) (ta : TA) : TI := fun σ H R => ta σ H fun vs H1 => ∃ a xs, vs = [.ref a] ∧ SqL K H1 a xs ∧ R (Ite K a) H1
theorem pi_enum {elts : List Expr} {ek : Nat} {epos : Pos} {e1 : Expr} {ta : TA} {p pos : Pos} (hg : Gl X "enumerate") (hm : X.mg "enumerate" = none) (ha : PA X [e1] ta)
    (hs : starEach [e1] X.env = [(false, eval e1 X.env)] := by rfl) :
    PI X (.Tuple elts ek epos) (.Call (.Name "enumerate" p) [e1] [] pos) (iEnum X.K ta) := by
  intro pins s σ H R I h
  refine Call_ (ld_blt I hg hm (show bootBuiltins "enumerate" = some (.type "enumerate") by decide +kernel) (PyProof.Rows.callWith_type1 (thn (ha pos pins s σ H _ I h) fun us s1 hq__ => ?_) hs rfl))
  obtain ⟨vs, H1, I1, r1, q1⟩ := hq__
  obtain ⟨a, xs, rfl, qa, q⟩ := q1
  obtain ⟨u, rfl, ru⟩ := vals1 r1
  cases (show u = Value.ref a from ru)
  obtain ⟨itsA, rA, pA, zA⟩ := I1.list qa
  refine call_enumerate_list pA.isList fun h' hz h1 hsz hk => wpAny_pyIter_enum hz ?_
  refine ⟨s1.heap.objs.size + 1, _, _, _, H1, rfl, I1.kept (t' := s1.toks) hk, turn_enum a _ s1.heap.objs.size, ⟨⟨_, hz⟩, h1⟩, fun c hc => ?_, q⟩
  have e : s1.heap.objs.size ≤ c := by
    simp only [List.mem_cons, List.not_mem_nil, or_false] at hc
    rcases hc with rfl | rfl
    · exact Nat.le_add_right _ _
    · exact Nat.le_refl _
  exact I1.fpOk e (I1.hok.fresh e)
end
theorem for_enumN {K : PySem.W.Frag} {a : Addr} {xs : List V} {g : TG} {tb : TS} {D : Ends} {σ : St} {H : Hp} (Pv : Nat → St → Hp → Prop) (h0 : Pv 0 σ H) (hl : ∀ i σ H, Pv i σ H → SqL K H a xs)
    (hs : ∀ (i : Nat) x σ H p H', xs[i]? = some x → New H H' p (.tup [.int i, x]) → Pv i σ H → g (.ref p) σ H' fun σ2 H2 => tb { D with nx := Pv (i + 1), ct := Pv (i + 1), bk := D.nx } σ2 H2)
    (hd : ∀ σ H, Pv xs.length σ H → D.nx σ H) :
    ∃ W : Nat → Nat → St → Hp → Prop, (∃ m, W 0 m σ H) ∧ ∀ i m σ H, W i m σ H →
      ((Ite K a).stop i H ∧ D.nx σ H) ∨ ((Ite K a).go i H ∧ ∃ N : St → Hp → Prop, (∀ σ' H', N σ' H' → ∃ m', m' < m ∧ W (i + 1) m' σ' H') ∧ ∀ x H', (Ite K a).yld i H x H' → g x σ H' fun σ2 H2 => tb { D with nx := N, ct := N, bk := D.nx } σ2 H2) := by
  refine ⟨fun i m σ H => m = xs.length - i ∧ i ≤ xs.length ∧ Pv i σ H, ⟨xs.length, by simp, Nat.zero_le _, h0⟩, ?_⟩
  rintro i m σ H ⟨rfl, hi, p⟩
  have qa := hl i σ H p
  by_cases hlt : i < xs.length
  · refine .inr ⟨⟨xs, xs[i], qa, by simp [hlt]⟩, Pv (i + 1), fun σ' H' p' => ⟨xs.length - (i + 1), by omega, rfl, hlt, p'⟩, fun x H' y => ?_⟩
    obtain ⟨t, rfl, ht, y⟩ := y
    have ea : xs[i]? = some xs[i] := by simp [hlt]
    rw [y xs xs[i] qa ea]
    exact hs i xs[i] σ H t _ ea (new_upd ht) p
  · have e : i = xs.length := by omega
    subst e
    exact .inl ⟨⟨xs, qa, Nat.le_refl _⟩, hd σ H p⟩
end L2
namespace L2
open PySem PySem.Spec PyProof.Rows
section
variable {prog : Program} {w : World} {A : Around} {E : Value → Shared → Prop} {s : Shared}
end
section
variable {X : Cx}
end
end L2
namespace L2
open PySem PySem.Spec PyProof.Rows
def RawD (h : Heap) (d : Addr) (es : Array DictEntry) (ep : Nat) : Prop := ∃ o, h.get? d = some o ∧ o.ExactDict ∧ o.data = .dict es ep
theorem RawD.ty {s : Shared} {d : Addr} {es : Array DictEntry} {ep : Nat} (x : RawD s.heap d es ep) : s.TypeIs (.ref d) "dict" := let ⟨o, a, b, _⟩ := x; ⟨o, a, b.1⟩
theorem RawD.up {h h' : Heap} {d : Addr} {es : Array DictEntry} {ep : Nat} (x : RawD h d es ep) (e : ∀ o, h.get? d = some o → h'.get? d = some o) : RawD h' d es ep := let ⟨o, a, b⟩ := x; ⟨o, e o a, b⟩
theorem RawD.lt {h : Heap} {d : Addr} {es : Array DictEntry} {ep : Nat} (x : RawD h d es ep) : d < h.objs.size := let ⟨_, a, _⟩ := x; Heap.lt_size a
section
variable {prog : Program} {w : World} {A : Around} {E : Value → Shared → Prop} {s : Shared}
abbrev keyIt (d : Addr) (n ep : Nat) : Obj := { cls := .type "dict_keyiterator", data := .fields #[.ref d, .int 0 0, .int n 0, .int ep 0] }
theorem rd_iter {d : Addr} {es : Array DictEntry} {ep : Nat} {Q : Value → Shared → Prop} (lo : (d == sysModules) = false) (hm : RawD s.heap d es ep) (hQ : Q (.ref s.heap.objs.size) { s with heap := s.heap.push (keyIt d es.size ep) }) :
    wpAny (model prog w) A (pyIter (.ref d)) Q E s := by
  have ty := hm.ty
  obtain ⟨o, h1, h2, h3⟩ := hm
  refine wpAny_pyIter_slot ty F.slot_dict_iter (wpAny_call_entry F.slot_dict_iter ty F.entry_dict_iter ?_ (F.args_dict_iter_1 _))
  unfold Builtin.«dict.__iter__»; refine wpAny_bind ?_
  unfold Builtin.Dict.dictSlotNone; refine wpAny_bind (wpAny_notOrdered_dict ty ?_)
  show wpAny _ _ (pure (Value.ref d)) _ _ s; refine wpAny_pure ?_
  show wpAny _ _ (Builtin.Dict.showsAll d >>= _) _ _ s; unfold Builtin.Dict.showsAll
  rw [if_neg (by rw [lo]; exact Bool.false_ne_true)]; refine wpAny_bind (wpAny_pure ?_)
  refine wpAny_bind (wpAny_dictEntries h1 h3 ?_); refine wpAny_bind (wpAny_dictEpoch h1 h3 ?_)
  refine wpAny_bind (wpAny_newObj_type (wpAny_pure ⟨_, rfl, "dict_keyiterator", _, ⟨_, Heap.get?_push_size _ rfl, rfl⟩, F.slot_dict_keyiterator_next.lookup, ?_⟩)); simpa [rawInt] using hQ
theorem rd_item {it d : Addr} {i ep : Nat} {es : Array DictEntry} {Q : Option Value → Shared → Prop} (hJ : s.heap.IsKeyIter it d i es.size ep) (hm : RawD s.heap d es ep) (hx : i < es.size)
    (hQ : ∀ h', h'.IsKeyIter it d (i + 1) es.size ep → Heap.SameBut it s.heap h' → Q (some es[i].key) { s with heap := h' }) : wpAny (model prog w) A (pyNext (.ref it)) Q E s := by
  obtain ⟨o, ho, hc, hd⟩ := id hJ
  obtain ⟨od, h1, h2, h3⟩ := hm
  have ty := hJ.typeIs
  unfold pyNext
  refine wpAny_bind (wpAny_attempt (wpAny_callSpecial?_slot (name := Str.ofString "__next__") ty F.slot_dict_keyiterator_next (wpAny_call_entry F.slot_dict_keyiterator_next ty F.entry_dict_keyiterator_next ?_ (F.args_dict_keyiterator_next_1 _))))
  refine wpAny_bind (wpAny_pure ?_); refine wpAny_bind ?_; refine wpAny_bind ?_
  first | refine wpAny_bind (wpAny_typeNameOfWhole_keyiter ty (wpAny_pure ?_)) | refine wpAny_bind (wpAny_typeNameOf_keyiter ty (wpAny_pure ?_))
  refine wpAny_bind (wpAny_fieldsOf ho hd ?_)
  simp only [show Builtin.Dict_items.ownsTuple "dict_keyiterator" = false by decide, Bool.false_eq_true, if_false]
  show wpAny _ _ (if (Value.ref d == Value.none) = true then _ else _) _ _ s; rw [if_neg (show ¬ ((Value.ref d == Value.none) = true) from Bool.false_ne_true)]
  refine wpAny_bind (wpAny_pure ?_); refine wpAny_bind (wpAny_dictEntries h1 h3 ?_)
  rw [if_neg (by simp)]; refine wpAny_bind (wpAny_pure ?_); refine wpAny_bind (wpAny_dictEpoch h1 h3 ?_); rw [if_neg (by simp)]; refine wpAny_pure ?_
  simp only [show ¬ ((i : Int) < 0) from by omega, if_false, Int.toNat_natCast, Array.getElem?_eq_getElem hx]
  refine wpAny_bind ?_
  first | refine wpAny_bind (wpAny_typeNameOfWhole_keyiter ty (wpAny_pure ?_)) | refine wpAny_bind (wpAny_typeNameOf_keyiter ty (wpAny_pure ?_))
  refine wpAny_bind (wpAny_isOneOf_keyiter ty ?_)
  show wpAny _ _ (setField (.ref it) 1 (rawInt ((i : Int) + 1)) >>= _) _ _ s; refine wpAny_bind (wpAny_setField ho hd (by simp) ?_)
  have hJ' : (s.heap.update it (Obj.mapFields (·.setIfInBounds 1 (rawInt ((i : Int) + 1))))).IsKeyIter it d (i + 1) es.size ep := ⟨_, Heap.get?_update_self _ ho (Obj.isFreed_of_fields (Obj.data_mapFields hd _)), (Obj.cls_mapFields ..).trans hc, by rw [Obj.data_mapFields hd]; simp [rawInt]⟩
  refine wpAny_bind (wpAny_holding ?_); refine wpAny_bind (wpAny_isOneOf_keyiter (s := { s with heap := s.heap.update it (Obj.mapFields (·.setIfInBounds 1 (rawInt ((i : Int) + 1)))) }) hJ'.typeIs ?_)
  show wpAny _ _ (pure es[i].key) _ _ _
  exact wpAny_pure (wpAny_pure ⟨_, rfl, wpAny_pure (hQ _ hJ' (Heap.SameBut.update ..))⟩)
theorem rd_end {it d : Addr} {ep : Nat} {es : Array DictEntry} {Q : Option Value → Shared → Prop} (hh : A.handled = none) (hJ : s.heap.IsKeyIter it d es.size es.size ep) (hm : RawD s.heap d es ep)
    (hQ : ∀ h', Heap.ExtBut it s.heap h' → Q none { s with heap := h' }) : wpAny (model prog w) A (pyNext (.ref it)) Q E s := by
  obtain ⟨o, ho, hc, hd⟩ := id hJ
  obtain ⟨od, h1, h2, h3⟩ := hm
  have ty := hJ.typeIs
  unfold pyNext
  refine wpAny_bind (wpAny_attempt (wpAny_callSpecial?_slot (name := Str.ofString "__next__") ty F.slot_dict_keyiterator_next (wpAny_call_entry F.slot_dict_keyiterator_next ty F.entry_dict_keyiterator_next ?_ (F.args_dict_keyiterator_next_1 _))))
  refine wpAny_bind (wpAny_pure ?_); refine wpAny_bind ?_; refine wpAny_bind ?_
  first | refine wpAny_bind (wpAny_typeNameOfWhole_keyiter ty (wpAny_pure ?_)) | refine wpAny_bind (wpAny_typeNameOf_keyiter ty (wpAny_pure ?_))
  refine wpAny_bind (wpAny_fieldsOf ho hd ?_)
  simp only [show Builtin.Dict_items.ownsTuple "dict_keyiterator" = false by decide, Bool.false_eq_true, if_false]
  show wpAny _ _ (if (Value.ref d == Value.none) = true then _ else _) _ _ s; rw [if_neg (show ¬ ((Value.ref d == Value.none) = true) from Bool.false_ne_true)]
  refine wpAny_bind (wpAny_pure ?_); refine wpAny_bind (wpAny_dictEntries h1 h3 ?_)
  rw [if_neg (by simp)]; refine wpAny_bind (wpAny_pure ?_); refine wpAny_bind (wpAny_dictEpoch h1 h3 ?_); rw [if_neg (by simp)]; refine wpAny_pure ?_
  simp only [show ¬ ((es.size : Int) < 0) from by omega, if_false, Int.toNat_natCast, Array.getElem?_eq_none (Nat.le_refl _)]
  refine wpAny_bind ?_
  first | refine wpAny_bind (wpAny_typeNameOfWhole_keyiter ty (wpAny_pure ?_)) | refine wpAny_bind (wpAny_typeNameOf_keyiter ty (wpAny_pure ?_))
  show wpAny _ _ (setField (.ref it) 0 .none >>= _) _ _ s; refine wpAny_bind (wpAny_setField ho hd (by simp) ?_)
  show wpAny _ _ (newExc (.type "StopIteration") [] >>= _) _ _ _; refine wpAny_bind ?_
  simp only [newExc, newTuple]; refine wpAny_bind (wpAny_newObj_type ?_ (by size_fits))
  refine wpAny_bind (m := firstArgMember _ _) (wpAny_of_eq (a := Value.none) (by first | rfl | (simp only [firstArgMember]; rfl)) ?_); refine wpAny_newObj_type ?_ (by size_fits)
  simp only [raiseNew]; refine wpAny_bind (wpAny_handled ?_); rw [show A.in1.handled = none from hh]; refine wpAny_bind (wpAny_pure (wpAny_throw ?_))
  refine wpAny_bind (wpAny_isInstance (T := "StopIteration") (b := true) ⟨_, Heap.get?_push_size _ rfl, rfl⟩ isSubtype_stop ?_); exact wpAny_pure (hQ _ (((Heap.SameBut.update ..).extBut.push _).push _))
theorem rd_walks (hh : A.handled = none) (J d : Addr) (hne : d ≠ J) (es : Array DictEntry) (ep : Nat) :
    Walks prog w A J [J, d] [J] es.size (fun i v => ∃ e, es[i]? = some e ∧ v = e.key) (fun i h => h.IsKeyIter J d i es.size ep ∧ RawD h d es ep) where
  sub := fun b hb => by simp at hb; simp [hb]
  frame := fun _ _ _ st hk => ⟨st.1.at fun o e => hk J (by simp) o e, st.2.up fun o e => hk d (by simp) o e⟩
  item := fun i s Q E hi st hQ => by
    refine rd_item st.1 st.2 hi fun h' hJ' hs' => ?_
    exact hQ _ h' s.toks ⟨es[i], by simp [hi], rfl⟩ ⟨hJ', st.2.up fun o e => hs'.extBut d o hne e⟩ fun b o hb e => hs'.extBut b o (fun h => hb (by simp [h])) e
  done := fun s Q E st hQ => rd_end hh st.1 st.2 fun h' he' => hQ h' s.toks fun b o hb e => he' b o (fun h => hb (by simp [h])) e
  self := fun _ _ _ _ st hQ => wpAny_pyIter_keyiter st.1 hQ
theorem rd_src {d : Addr} {es : Array DictEntry} {ep : Nat} (lo : (d == sysModules) = false) : PySem.W.KdlSrc prog w "dict" d d es.size (fun i v => ∃ e, es[i]? = some e ∧ v = e.key) (fun h => RawD h d es ep) where
  type := fun _ hm => hm.ty
  there := fun _ hm => ⟨hm.lt, hm.lt⟩
  keep := fun _ _ hm hk => hm.up fun o e => hk d (.inl rfl) o e
  notList := by decide
  notTuple := by decide
  hint := fun _ _ _ _ hm hq => PySem.W.kdl_hint_dict hm.ty hq
  iter := fun _ _ hh hm => ⟨_, _, (fun _ _ hq => rd_iter lo hm hq), rd_walks hh _ d (Nat.ne_of_lt hm.lt) es ep, ⟨⟨_, Heap.get?_push_size _ rfl, rfl, rfl⟩, hm.up fun _ e => Heap.get?_push_of_some _ e⟩⟩
end
end L2
namespace L2
open PySem PySem.Spec PyProof.Rows
section
variable {prog : Program} {w : World} {A : Around} {E : Value → Shared → Prop} {s : Shared}
theorem sort_short {a : Addr} {vs : List Value} {n : Nat} {P : Fin → Shared → Prop} (ho : s.heap.get? a = some (seqObj "list" vs.toArray n)) (h2 : vs.length < 2)
    (h : P (.done (.ret .none)) { s with heap := sortedHeap s.heap a vs ((vs.toArray.zip vs.toArray).map (·.2)) }) : wpAny (model prog w) A (Builtin.«list.sort» ⟨[.ref a], []⟩) P E s := by
  rw [list_sort_plain]
  have la : a < s.heap.objs.size := Heap.lt_size ho
  refine wpAny_bind (listItems_at ho rfl ?_); refine wpAny_bind (listUpdate_at ho rfl ?_)
  obtain ⟨e1, h1⟩ : ∃ e1, (s.heap.update a (Obj.mapSeq fun _ => #[])).get? a = some (seqObj "list" #[] e1) := ⟨_, get?_update_seq ho (fun _ => #[])⟩
  refine wpAny_bind (seqEpoch_at h1 rfl ?_); refine wpAny_bind (wpAny_newTuple ?_); refine wpAny_bind (wpAny_newList ?_); refine wpAny_holding ?_
  have h6 : (((s.heap.update a (Obj.mapSeq fun _ => #[])).push (seqObj "tuple" vs.toArray 0)).push (seqObj "list" #[] 0)).get? a = some (seqObj "list" #[] e1) := by
    rw [Heap.get?_push_ne _ _ _ (by rw [size_push', Heap.size_update]; exact Nat.ne_of_lt (Nat.lt_succ_of_lt la)), Heap.get?_push_ne _ _ _ (by rw [Heap.size_update]; exact Nat.ne_of_lt la)]; exact h1
  show wpAny (model prog w) A _ P E { s with heap := ((s.heap.update a (Obj.mapSeq fun _ => #[])).push (seqObj "tuple" vs.toArray 0)).push (seqObj "list" #[] 0) }
  dsimp only
  have z2 : vs.toArray.size < 2 := by simpa using h2
  rw [if_pos z2, if_pos z2]; refine wpAny_bind (wpAny_pure ?_)
  rw [StateT.run_pure]; refine wpAny_bind (wpAny_pure ?_); dsimp only
  refine wpAny_bind (seqEpoch_at h6 rfl ?_); refine wpAny_bind (listUpdate_at h6 rfl ?_ (hsz2 := by rw [Array.size_map]; show (pairsOf vs).size ≤ _; rw [pairsOf_size, sizeLine_eq]; omega))
  simp only [bne_self_eq_false, Bool.false_eq_true, if_false]; exact wpAny_pure h
end
theorem zip_snd (vs : List Value) : (vs.toArray.zip vs.toArray).map (·.2) = vs.toArray := by
  apply Array.ext'
  simpa using List.map_snd_zip (l₁ := vs) (l₂ := vs) (Nat.le_refl _)
section
variable {X : Cx}
end
end L2
namespace L2
open PySem PySem.Spec PyProof.Rows
section
variable {X : Cx} {tg : Expr}
end
section
variable {X : Cx}
inductive rCatTNS (K : PySem.W.Frag) (x y : V) (H : Hp) (Q : VK) : Prop
  | mk : ∀ a b xs ys, x = .ref a → y = .ref b → SqT K H a xs → SqT K H b ys → xs ≠ [] → ys ≠ [] → xs.length + ys.length ≤ sizeLine → (∀ p H', New H H' p (.tup (xs ++ ys)) → Q (.ref p) H') → rCatTNS K x y H Q
def rCatTN (K : PySem.W.Frag) : R2 := fun x y H Q => rCatTNS K x y H Q
theorem op_catTN : OpR X (binaryOp .Add) (rCatTN X.K) := op_catT.imp fun _ _ _ _ ⟨a, b, xs, ys, e1, e2, h1, h2, z, zy, hz, q⟩ => ⟨a, b, xs, ys, e1, e2, h1, h2, z, hz, fun e => absurd e zy, fun _ p hp => q p _ (new_upd hp)⟩
def tDNewN : TE := fun _ H Q => ∀ p H', New H H' p (.dT []) → Q (.ref p) H'
theorem pe_dnewN {pos : Pos} : PE X (.Dict [] [] pos) tDNewN := fun pins s σ H Q I h => pe_dnewT pins s σ H Q I fun p hp => h p _ (new_upd hp)
end
end L2
namespace L2
open PySem PySem.Spec PyProof.Rows
end L2
namespace L2
theorem lq1 {α : Type} {us : List α} (h : us.length = 1) : ∃ a, us = [a] := by
  cases us with
  | nil => cases h
  | cons a r => exact ⟨a, by rw [List.length_eq_zero_iff.mp (Nat.succ.inj h)]⟩
theorem lq2 {α : Type} {us : List α} (h : us.length = 2) : ∃ a0 a1, us = [a0, a1] := by
  cases us with
  | nil => cases h
  | cons a r => obtain ⟨a1, e⟩ := lq1 (Nat.succ.inj h); exact ⟨a, a1, by rw [e]⟩
theorem lq3 {α : Type} {us : List α} (h : us.length = 3) : ∃ a0 a1 a2, us = [a0, a1, a2] := by
  cases us with
  | nil => cases h
  | cons a r => obtain ⟨a1, a2, e⟩ := lq2 (Nat.succ.inj h); exact ⟨a, a1, a2, by rw [e]⟩
theorem lq4 {α : Type} {us : List α} (h : us.length = 4) : ∃ a0 a1 a2 a3, us = [a0, a1, a2, a3] := by
  cases us with
  | nil => cases h
  | cons a r => obtain ⟨a1, a2, a3, e⟩ := lq3 (Nat.succ.inj h); exact ⟨a, a1, a2, a3, by rw [e]⟩
end L2
namespace L2
open PySem PySem.Spec PyProof.Rows PySem.W
def KW (lt : Nat → Nat → Bool) (n : Nat) {α : Type} : KasT α → (α → Prop) → Prop
  | .ret a, Q => Q a
  | .ask i j k, Q => i < n ∧ j < n ∧ KW lt n (k (lt i j)) Q
theorem KW.bind {lt : Nat → Nat → Bool} {n : Nat} {α β : Type} {f : α → KasT β} {Q : β → Prop} : ∀ {t : KasT α}, KW lt n t (fun a => KW lt n (f a) Q) → KW lt n (t.bind f) Q
  | .ret a, h => by rw [KasT.bind.eq_1]; exact h
  | .ask i j k, h => by
    rw [KasT.bind.eq_2]
    exact ⟨h.1, h.2.1, KW.bind h.2.2⟩
theorem KW.mono {lt : Nat → Nat → Bool} {n : Nat} {α : Type} {Q Q' : α → Prop} (hq : ∀ a, Q a → Q' a) : ∀ {t : KasT α}, KW lt n t Q → KW lt n t Q'
  | .ret a, h => hq a h
  | .ask i j k, h => ⟨h.1, h.2.1, KW.mono hq h.2.2⟩
theorem KW.run {lt : Nat → Nat → Bool} {n : Nat} {α : Type} {Q : α → Prop} {cmp : Nat → Nat → (Bool → Shared → Prop) → Shared → Prop} {s : Shared} (hc : ∀ i j (C : Bool → Shared → Prop), i < n → j < n → C (lt i j) s → cmp i j C s) :
    ∀ {t : KasT α}, KW lt n t Q → KasT.kasWp cmp t (fun a s' => s' = s ∧ Q a) s
  | .ret a, h => by rw [KasT.kasWp.eq_1]; exact ⟨rfl, h⟩
  | .ask i j k, h => by
    rw [KasT.kasWp.eq_2]
    exact hc i j _ h.1 h.2.1 (KW.run hc h.2.2)
structure OrdN (n : Nat) (lt : Nat → Nat → Bool) : Prop where
  tot : ∀ i j, i < n → j < n → i ≠ j → lt i j = false → lt j i = true
  tr : ∀ i j k, i < n → j < n → k < n → lt i j = true → lt j k = true → lt i k = true
structure PermA (n : Nat) (p : Array Nat) : Prop where
  sz : p.size = n
  perm : p.toList.Perm (List.range n)
theorem PermA.lt {n : Nat} {p : Array Nat} (h : PermA n p) {x : Nat} (hx : x < n) : p.getD x 0 < n := by
  have hs := h.sz
  rw [Array.getD_eq_getD_getElem?, Array.getElem?_eq_getElem (by omega)]
  have : p[x] ∈ p.toList := by simp
  exact List.mem_range.mp (h.perm.mem_iff.mp this)
theorem PermA.inj {n : Nat} {p : Array Nat} (h : PermA n p) {x y : Nat} (hx : x < n) (hy : y < n) (hne : x ≠ y) : p.getD x 0 ≠ p.getD y 0 := by
  have hs := h.sz
  have nd : p.toList.Nodup := h.perm.nodup_iff.mpr List.nodup_range
  rw [Array.getD_eq_getD_getElem?, Array.getElem?_eq_getElem (by omega), Array.getD_eq_getD_getElem?, Array.getElem?_eq_getElem (by omega)]
  intro e
  have e' : p.toList[x]'(by simpa using by omega) = p.toList[y]'(by simpa using by omega) := by simpa using e
  have pw := List.pairwise_iff_getElem.mp nd
  rcases Nat.lt_or_gt_of_ne hne with h1 | h1
  · exact pw x y (by simpa using by omega) (by simpa using by omega) h1 e'
  · exact pw y x (by simpa using by omega) (by simpa using by omega) h1 e'.symm
theorem PermA.of {n : Nat} {p q : Array Nat} (h : PermA n p) (hq : q.Perm p) : PermA n q := by
  have e : q.toList.Perm p.toList := Array.perm_iff_toList_perm.mp hq
  exact ⟨by have := e.length_eq; simpa [h.sz] using this, e.trans h.perm⟩
def Asc (lt : Nat → Nat → Bool) (p : Array Nat) (b : Nat) : Prop := ∀ x y, x < y → y < b → lt (p.getD x 0) (p.getD y 0) = true
structure OrdW (n : Nat) (lt : Nat → Nat → Bool) : Prop where
  as_ : ∀ i j, i < n → j < n → lt i j = true → lt j i = false
  tr : ∀ i j k, i < n → j < n → k < n → lt j i = false → lt k j = false → lt k i = false
theorem OrdW.irr {n : Nat} {lt : Nat → Nat → Bool} (O : OrdW n lt) {i : Nat} (h : i < n) : lt i i = false := by
  cases e : lt i i with
  | false => rfl
  | true => rw [← e]; exact O.as_ i i h h e
def AscW (lt : Nat → Nat → Bool) (p : Array Nat) (b : Nat) : Prop := ∀ x y, x < y → y < b → lt (p.getD y 0) (p.getD x 0) = false
def DscW (lt : Nat → Nat → Bool) (p : Array Nat) (b : Nat) : Prop := ∀ x y, x < y → y < b → lt (p.getD x 0) (p.getD y 0) = false
def EqSeg (lt : Nat → Nat → Bool) (p : Array Nat) (i j : Nat) : Prop := ∀ a b, i ≤ a → a < j → i ≤ b → b < j → lt (p.getD a 0) (p.getD b 0) = false
section
variable {lt : Nat → Nat → Bool} {n : Nat}
theorem asc_kwW (O : OrdW n lt) {p : Array Nat} (hp : PermA n p) : ∀ (f x : Nat), 1 ≤ x → x + f ≤ n → AscW lt p x → KW lt n (kas_asc p f x) (fun m => x ≤ m ∧ m ≤ x + f ∧ AscW lt p m ∧ (m = x + f ∨ lt (p.getD m 0) (p.getD (m - 1) 0) = true))
  | 0, x, h1, hx, ha => by rw [kas_asc.eq_1]; exact ⟨Nat.le_refl _, Nat.le_refl _, ha, .inl rfl⟩
  | f + 1, x, h1, hx, ha => by
    rw [kas_asc.eq_2]
    refine ⟨hp.lt (by omega), hp.lt (by omega), ?_⟩
    cases e : lt (p.getD x 0) (p.getD (x - 1) 0) with
    | true => dsimp only; rw [if_pos rfl]; exact ⟨Nat.le_refl _, by omega, ha, .inr e⟩
    | false =>
      dsimp only
      rw [if_neg Bool.false_ne_true]
      refine KW.mono (fun m hm => ?_) (asc_kwW O hp f (x + 1) (by omega) (by omega) ?_)
      · obtain ⟨m1, m2, m3, m4⟩ := hm
        exact ⟨by omega, by omega, m3, m4.imp (fun z => by omega) id⟩
      · intro a b hab hb
        by_cases hbx : b = x
        · subst hbx
          by_cases hax : a = b - 1
          · subst hax; exact e
          · exact O.tr _ _ _ (hp.lt (by omega)) (hp.lt (by omega)) (hp.lt (by omega)) (ha a (b - 1) (by omega) (by omega)) e
        · exact ha a b hab (by omega)
theorem revW_get {p : Array Nat} (hp : PermA n p) {i m x : Nat} (hm : m ≤ n) : (kas_rev p i m).getD x 0 = if i ≤ x ∧ x < m then p.getD (i + m - 1 - x) 0 else p.getD x 0 := by
  have hs := hp.sz
  unfold kas_rev
  rw [Array.getD_eq_getD_getElem?, getElem?_mirror_all (by omega)]
  split <;> rw [Array.getD_eq_getD_getElem?]
theorem revW_perm {p : Array Nat} (hp : PermA n p) (i m : Nat) : PermA n (kas_rev p i m) := hp.of (mirror_perm _ _ _ _)
theorem seg_same (O : OrdW n lt) {p : Array Nat} (hp : PermA n p) {i m : Nat} (hm : m ≤ n) (hs : EqSeg lt p i m) {a : Nat} (ha : a < n) : lt ((kas_rev p i m).getD a 0) (p.getD a 0) = false ∧ lt (p.getD a 0) ((kas_rev p i m).getD a 0) = false := by
  rw [revW_get hp hm]
  split
  · exact ⟨hs _ _ (by omega) (by omega) (by omega) (by omega), hs _ _ (by omega) (by omega) (by omega) (by omega)⟩
  · exact ⟨O.irr (hp.lt ha), O.irr (hp.lt ha)⟩
theorem seg_le (O : OrdW n lt) {p : Array Nat} (hp : PermA n p) {i m : Nat} (hm : m ≤ n) (hs : EqSeg lt p i m) {a b : Nat} (ha : a < n) (hb : b < n) (h : lt (p.getD a 0) (p.getD b 0) = false) : lt ((kas_rev p i m).getD a 0) ((kas_rev p i m).getD b 0) = false := by
  have hq := revW_perm hp i m
  have h1 := seg_same O hp hm hs ha
  have h2 := seg_same O hp hm hs hb
  exact O.tr _ _ _ (hq.lt hb) (hp.lt ha) (hq.lt ha) (O.tr _ _ _ (hq.lt hb) (hp.lt hb) (hp.lt ha) h2.2 h) h1.1
theorem seg_dsc (O : OrdW n lt) {p : Array Nat} (hp : PermA n p) {i m x : Nat} (hm : m ≤ n) (hx : x ≤ n) (hs : EqSeg lt p i m) (h : DscW lt p x) : DscW lt (kas_rev p i m) x :=
  fun a b hab hb => seg_le O hp hm hs (by omega) (by omega) (h a b hab hb)
theorem desc_kwW (O : OrdW n lt) : ∀ (f : Nat) (p : Array Nat) (x q : Nat), PermA n p → 2 ≤ x → x + f ≤ n → q + 1 ≤ x → DscW lt p x → EqSeg lt p (x - (q + 1)) x →
    KW lt n (kas_desc f p x q) (fun r => PermA n r.1 ∧ x ≤ r.2.1 ∧ r.2.1 ≤ x + f ∧ r.2.2 + 1 ≤ r.2.1 ∧ DscW lt r.1 r.2.1 ∧ EqSeg lt r.1 (r.2.1 - (r.2.2 + 1)) r.2.1)
  | 0, p, x, q, hp, h1, hx, hq, ha, hs => by rw [kas_desc.eq_1]; exact ⟨hp, Nat.le_refl _, Nat.le_refl _, hq, ha, hs⟩
  | f + 1, p, x, q, hp, h1, hx, hq, ha, hs => by
    rw [kas_desc.eq_2]
    refine ⟨hp.lt (by omega), hp.lt (by omega), ?_⟩
    have fin : ∀ {t : KasT (Array Nat × Nat × Nat)}, KW lt n t (fun r => PermA n r.1 ∧ x + 1 ≤ r.2.1 ∧ r.2.1 ≤ x + 1 + f ∧ r.2.2 + 1 ≤ r.2.1 ∧ DscW lt r.1 r.2.1 ∧ EqSeg lt r.1 (r.2.1 - (r.2.2 + 1)) r.2.1) → KW lt n t (fun r => PermA n r.1 ∧ x ≤ r.2.1 ∧ r.2.1 ≤ x + (f + 1) ∧ r.2.2 + 1 ≤ r.2.1 ∧ DscW lt r.1 r.2.1 ∧ EqSeg lt r.1 (r.2.1 - (r.2.2 + 1)) r.2.1) := fun h => KW.mono (fun r ⟨r1, r2, r3, r4, r5, r6⟩ => ⟨r1, by omega, by omega, r4, r5, r6⟩) h
    have one : ∀ (p' : Array Nat), PermA n p' → DscW lt p' x → lt (p'.getD (x - 1) 0) (p'.getD x 0) = false → DscW lt p' (x + 1) := fun p' hp' hd e a b hab hb => by
      by_cases hbx : b = x
      · subst hbx
        by_cases hax : a = b - 1
        · subst hax; exact e
        · exact O.tr _ _ _ (hp'.lt (by omega)) (hp'.lt (by omega)) (hp'.lt (by omega)) e (hd a (b - 1) (by omega) (by omega))
      · exact hd a b hab (by omega)
    have seg1 : ∀ (p' : Array Nat), PermA n p' → EqSeg lt p' (x + 1 - (0 + 1)) (x + 1) := fun p' hp' a b h1 h2 h3 h4 => by
      have ea : a = x := by omega
      have eb : b = x := by omega
      rw [ea, eb]
      exact O.irr (hp'.lt (by omega))
    cases e : lt (p.getD x 0) (p.getD (x - 1) 0) with
    | true =>
      have e2 := O.as_ _ _ (hp.lt (by omega)) (hp.lt (by omega)) e
      dsimp only
      rw [if_pos rfl]
      by_cases hq0 : q > 0
      · rw [if_pos hq0]
        have hp' := revW_perm hp (x - (q + 1)) x
        refine fin (desc_kwW O f _ (x + 1) 0 hp' (by omega) (by omega) (by omega) (one _ hp' (seg_dsc O hp (by omega) (by omega) hs ha) ?_) (seg1 _ hp'))
        exact seg_le O hp (by omega) hs (by omega) (by omega) e2
      · rw [if_neg hq0]
        exact fin (desc_kwW O f _ (x + 1) 0 hp (by omega) (by omega) (by omega) (one _ hp ha e2) (seg1 _ hp))
    | false =>
      dsimp only
      rw [if_neg Bool.false_ne_true]
      refine ⟨hp.lt (by omega), hp.lt (by omega), ?_⟩
      cases e2 : lt (p.getD (x - 1) 0) (p.getD x 0) with
      | true =>
        dsimp only
        rw [if_pos rfl]
        exact ⟨hp, Nat.le_refl _, (show x ≤ x + (f + 1) by omega), hq, ha, hs⟩
      | false =>
        dsimp only
        rw [if_neg Bool.false_ne_true]
        refine fin (desc_kwW O f _ (x + 1) (q + 1) hp (by omega) (by omega) (by omega) (one _ hp ha e2) ?_)
        have key : ∀ a, x - (q + 1) ≤ a → a ≤ x → lt (p.getD a 0) (p.getD x 0) = false ∧ lt (p.getD x 0) (p.getD a 0) = false := fun a h1 h2 => by
          by_cases hax : a = x
          · rw [hax]; exact ⟨O.irr (hp.lt (by omega)), O.irr (hp.lt (by omega))⟩
          · have f1 := hs a (x - 1) (by omega) (by omega) (by omega) (by omega)
            have f2 := hs (x - 1) a (by omega) (by omega) (by omega) (by omega)
            exact ⟨O.tr _ _ _ (hp.lt (by omega)) (hp.lt (by omega)) (hp.lt (by omega)) e2 f1, O.tr _ _ _ (hp.lt (by omega)) (hp.lt (by omega)) (hp.lt (by omega)) f2 e⟩
        intro a b h1 h2 h3 h4
        exact O.tr _ _ _ (hp.lt (by omega)) (hp.lt (show x < n by omega)) (hp.lt (by omega)) (key b (by omega) (by omega)).2 (key a (by omega) (by omega)).1
theorem descPart_kwW (O : OrdW n lt) {p : Array Nat} (hp : PermA n p) {m : Nat} (h1 : 1 ≤ m) (hm : m < n) (hd : DscW lt p (m + 1)) : KW lt n (kas_descPart m n p) (fun r => PermA n r.2 ∧ 1 ≤ r.1 ∧ r.1 ≤ n ∧ AscW lt r.2 r.1) := by
  unfold kas_descPart
  have tail : ∀ {q : Array Nat} {x : Nat}, PermA n q → 1 ≤ x → x ≤ n → DscW lt q x → KW lt n (kas_tail3 x n q) (fun r => PermA n r.2 ∧ 1 ≤ r.1 ∧ r.1 ≤ n ∧ AscW lt r.2 r.1) := fun {q x} hq hx1 hxn hdq => by
    unfold kas_tail3
    have hq' := revW_perm hq 0 x
    refine KW.bind (KW.mono (fun m' hm' => ?_) (asc_kwW O hq' (n - x) x hx1 (by omega) ?_))
    · obtain ⟨a1, a2, a3, _⟩ := hm'
      exact ⟨hq', by show 1 ≤ m'; omega, by show m' ≤ n; omega, a3⟩
    · intro a b hab hb
      rw [revW_get hq hxn, revW_get hq hxn, if_pos ⟨Nat.zero_le _, hb⟩, if_pos ⟨Nat.zero_le _, by omega⟩]
      exact hdq _ _ (by omega) (by omega)
  refine KW.bind (KW.mono (fun r hr => ?_) (desc_kwW O (n - (m + 1)) p (m + 1) 0 hp (by omega) (by omega) (by omega) hd (fun a b h1 h2 h3 h4 => ?_)))
  · obtain ⟨r1, r2, r3, r4, r5, r6⟩ := hr
    by_cases hq : r.2.2 > 0
    · rw [if_pos hq]
      exact tail (revW_perm r1 _ _) (by omega) (by omega) (seg_dsc O r1 (by omega) (by omega) r6 r5)
    · rw [if_neg hq]
      exact tail r1 (by omega) (by omega) r5
  · have ea : a = m := by omega
    have eb : b = m := by omega
    rw [ea, eb]
    exact O.irr (hp.lt hm)
theorem count_kwW (O : OrdW n lt) {p : Array Nat} (hp : PermA n p) (hn : 2 ≤ n) : KW lt n (kas_count n p) (fun r => PermA n r.2 ∧ 1 ≤ r.1 ∧ r.1 ≤ n ∧ AscW lt r.2 r.1) := by
  rw [kas_count.eq_1]
  refine KW.bind (KW.mono (fun m hm => ?_) (asc_kwW O hp (n - 1) 1 (Nat.le_refl _) (by omega) (fun x y h1 h2 => by omega)))
  obtain ⟨m1, m2, m3, m4⟩ := hm
  by_cases hmn : m = n
  · rw [if_pos (by simpa using hmn)]
    exact ⟨hp, by omega, by omega, m3⟩
  · rw [if_neg (by simpa using hmn)]
    have d0 : lt (p.getD m 0) (p.getD (m - 1) 0) = true := by
      rcases m4 with z | z
      · omega
      · exact z
    have d1 := O.as_ _ _ (hp.lt (by omega)) (hp.lt (by omega)) d0
    by_cases h1 : m > 1
    · rw [if_pos h1]
      refine ⟨hp.lt (by omega), hp.lt (by omega), ?_⟩
      cases e : lt (p.getD 0 0) (p.getD (m - 1) 0) with
      | true =>
        dsimp only
        rw [if_pos rfl]
        exact ⟨hp, by omega, by omega, m3⟩
      | false =>
        dsimp only
        rw [if_neg Bool.false_ne_true]
        have le : ∀ a b, a ≤ b → b < m → lt (p.getD b 0) (p.getD a 0) = false := fun a b hab hb => by
          by_cases z : a = b
          · rw [z]; exact O.irr (hp.lt (by omega))
          · exact m3 a b (by omega) hb
        have hs : EqSeg lt p 0 m := fun a b _ ha _ hb => by
          exact O.tr _ _ _ (hp.lt (by omega)) (hp.lt (show 0 < n by omega)) (hp.lt (by omega)) (O.tr _ _ _ (hp.lt (by omega)) (hp.lt (show m - 1 < n by omega)) (hp.lt (by omega)) (le b (m - 1) (by omega) (by omega)) e) (le 0 a (by omega) ha)
        refine descPart_kwW O (revW_perm hp 0 m) (by omega) (by omega) fun a b hab hb => seg_le O hp (by omega) hs (by omega) (by omega) ?_
        by_cases hbm : b = m
        · rw [hbm]
          exact O.tr _ _ _ (hp.lt (by omega)) (hp.lt (show m - 1 < n by omega)) (hp.lt (by omega)) d1 (hs a (m - 1) (by omega) (by omega) (by omega) (by omega))
        · exact hs a b (by omega) (by omega) (by omega) (by omega)
    · rw [if_neg h1]
      have em : m = 1 := by omega
      subst em
      refine descPart_kwW O hp (Nat.le_refl _) (by omega) fun a b hab hb => ?_
      have ea : a = 0 := by omega
      have eb : b = 1 := by omega
      rw [ea, eb]; exact d1
theorem place_kwW (O : OrdW n lt) {p : Array Nat} (hp : PermA n p) {k : Nat} (hk : k < n) (ha : AscW lt p k) : ∀ (f lo hi : Nat), lo ≤ hi → hi ≤ k → hi - lo ≤ f → (∀ j, j < lo → lt (p.getD k 0) (p.getD j 0) = false) → (∀ j, hi ≤ j → j < k → lt (p.getD j 0) (p.getD k 0) = false) →
    KW lt n (kas_place p k f lo hi) (fun l => l ≤ k ∧ (∀ j, j < l → lt (p.getD k 0) (p.getD j 0) = false) ∧ ∀ j, l ≤ j → j < k → lt (p.getD j 0) (p.getD k 0) = false)
  | 0, lo, hi, h1, h2, h3, h4, h5 => by
    rw [kas_place.eq_1]
    exact ⟨by omega, h4, fun j hj => h5 j (by omega)⟩
  | f + 1, lo, hi, h1, h2, h3, h4, h5 => by
    rw [kas_place.eq_2]
    by_cases hlt : lo ≥ hi
    · rw [if_pos hlt]
      exact ⟨by omega, h4, fun j hj => h5 j (by omega)⟩
    · rw [if_neg hlt]
      refine ⟨hp.lt hk, hp.lt (by omega), ?_⟩
      have le : ∀ a b, a ≤ b → b < k → lt (p.getD b 0) (p.getD a 0) = false := fun a b hab hb => by
        by_cases z : a = b
        · rw [z]; exact O.irr (hp.lt (by omega))
        · exact ha a b (by omega) hb
      cases e : lt (p.getD k 0) (p.getD ((lo + hi) / 2) 0) with
      | true =>
        dsimp only
        rw [if_pos rfl]
        have e2 := O.as_ _ _ (hp.lt hk) (hp.lt (by omega)) e
        refine place_kwW O hp hk ha f lo ((lo + hi) / 2) (by omega) (by omega) (by omega) h4 fun j hj hjk => ?_
        exact O.tr _ _ _ (hp.lt hk) (hp.lt (by omega)) (hp.lt (by omega)) e2 (le _ j hj hjk)
      | false =>
        dsimp only
        rw [if_neg Bool.false_ne_true]
        refine place_kwW O hp hk ha f ((lo + hi) / 2 + 1) hi (by omega) h2 (by omega) (fun j hj => ?_) h5
        exact O.tr _ _ _ (hp.lt (by omega)) (hp.lt (show (lo + hi) / 2 < n by omega)) (hp.lt hk) (le j _ (by omega) (by omega)) e
theorem bin_kwW (O : OrdW n lt) : ∀ (f : Nat) (p : Array Nat) (k : Nat), PermA n p → 1 ≤ k → k + f = n → AscW lt p k → KW lt n (kas_bin f p k) (fun q => PermA n q ∧ AscW lt q n)
  | 0, p, k, hp, h1, hk, ha => by
    rw [kas_bin.eq_1]
    have : k = n := by omega
    subst this
    exact ⟨hp, ha⟩
  | f + 1, p, k, hp, h1, hk, ha => by
    rw [kas_bin.eq_2]
    have hkn : k < n := by omega
    have hs := hp.sz
    refine KW.bind (KW.mono (fun l hl => ?_) (place_kwW O hp hkn ha k 0 k (Nat.zero_le _) (Nat.le_refl _) (by omega) (fun j hj => by omega) (fun j h1 h2 => by omega)))
    obtain ⟨l1, l2, l3⟩ := hl
    have hq : PermA n (bubble p k (k - l)) := hp.of (bubble_perm _ _ _)
    refine bin_kwW O f _ (k + 1) hq (by omega) (by omega) ?_
    have hg : ∀ x, (bubble p k (k - l)).getD x 0 = if x = l then p.getD k 0 else if l < x ∧ x ≤ k then p.getD (x - 1) 0 else p.getD x 0 := fun x => by
      rw [Array.getD_eq_getD_getElem?, getElem?_bubble (by omega) (k - l) (by omega), show k - (k - l) = l by omega]
      split
      · rw [Array.getD_eq_getD_getElem?]
      · split <;> rw [Array.getD_eq_getD_getElem?]
    intro x y hxy hy
    rw [hg x, hg y]
    by_cases hx : x = l
    · rw [if_pos hx, if_neg (by omega), if_pos ⟨by omega, by omega⟩]
      exact l3 _ (by omega) (by omega)
    · rw [if_neg hx]
      by_cases hy2 : y = l
      · rw [if_pos hy2, if_neg (by omega)]
        exact l2 _ (by omega)
      · rw [if_neg hy2]
        by_cases hx3 : l < x ∧ x ≤ k
        · rw [if_pos hx3, if_pos ⟨by omega, by omega⟩]
          exact ha _ _ (by omega) (by omega)
        · rw [if_neg hx3]
          by_cases hy3 : l < y ∧ y ≤ k
          · rw [if_pos hy3]
            exact ha _ _ (by omega) (by omega)
          · rw [if_neg hy3]
            exact ha _ _ hxy (by omega)
theorem sort_kwW (O : OrdW n lt) (hn : 2 ≤ n) : KW lt n (kas_sort n) (fun q => PermA n q ∧ AscW lt q n) := by
  unfold kas_sort
  have hp : PermA n (List.range n).toArray := ⟨by simp, by simp⟩
  refine KW.bind (KW.mono (fun r hr => ?_) (count_kwW O hp hn))
  obtain ⟨r1, r2, r3, r4⟩ := hr
  by_cases h : r.1 < n
  · rw [if_pos h, Nat.max_eq_left r2]
    exact bin_kwW O _ _ _ r1 r2 (by omega) r4
  · rw [if_neg h]
    have e : r.1 = n := by omega
    rw [e] at r4
    exact ⟨r1, r4⟩
end
theorem sort_kw {lt : Nat → Nat → Bool} {n : Nat} (O : OrdN n lt) (W : OrdW n lt) (hn : 2 ≤ n) : KW lt n (kas_sort n) (fun q => PermA n q ∧ Asc lt q n) := KW.mono (fun _ h => ⟨h.1, fun x y hxy hy => O.tot _ _ (h.1.lt hy) (h.1.lt (by omega)) (h.1.inj hy (by omega) (by omega)) (h.2 x y hxy hy)⟩) (sort_kwW W hn)
end L2
namespace L2
open PySem PySem.Spec PyProof.Rows PySem.W
def blt : List Int → List Int → Bool
  | [], [] => false
  | [], _ :: _ => true
  | _ :: _, [] => false
  | a :: r, b :: t => if a = b then blt r t else decide (a < b)
theorem blt_tot : ∀ (k l : List Int), k ≠ l → blt k l = false → blt l k = true
  | [], [], h, _ => absurd rfl h
  | [], _ :: _, _, h => by simp [blt] at h
  | _ :: _, [], _, _ => rfl
  | a :: r, b :: t, h, e => by
    unfold blt at e ⊢
    by_cases hab : a = b
    · subst hab
      rw [if_pos rfl] at e ⊢
      exact blt_tot r t (fun z => h (by rw [z])) e
    · rw [if_neg hab] at e
      rw [if_neg (fun z => hab z.symm)]
      simp at e ⊢
      omega
theorem blt_tr : ∀ (k l m : List Int), blt k l = true → blt l m = true → blt k m = true
  | [], [], _, h, _ => by simp [blt] at h
  | _ :: _, [], _, h, _ => by simp [blt] at h
  | [], _ :: _, [], _, h => by simp [blt] at h
  | _ :: _, _ :: _, [], _, h => by simp [blt] at h
  | [], _ :: _, _ :: _, _, _ => rfl
  | a :: r, b :: t, c :: u, h1, h2 => by
    unfold blt at h1 h2 ⊢
    by_cases hab : a = b
    · subst hab
      rw [if_pos rfl] at h1
      by_cases hbc : a = c
      · subst hbc
        rw [if_pos rfl] at h2 ⊢
        exact blt_tr r t u h1 h2
      · rw [if_neg hbc] at h2 ⊢
        exact h2
    · rw [if_neg hab] at h1
      by_cases hbc : b = c
      · subst hbc
        rw [if_neg hab]
        exact h1
      · rw [if_neg hbc] at h2
        simp at h1 h2
        rw [if_neg (by omega)]
        simp; omega
theorem blt_irr : ∀ k : List Int, blt k k = false
  | [] => rfl
  | a :: r => by unfold blt; rw [if_pos rfl]; exact blt_irr r
def ltK (ks : List (List Int)) (i j : Nat) : Bool := blt (ks.getD i []) (ks.getD j [])
theorem ordK (ks : List (List Int)) (nd : ks.Nodup) : OrdN ks.length (ltK ks) where
  tot := fun i j hi hj hne e => by
    refine blt_tot _ _ (fun z => ?_) e
    rw [List.getD_eq_getElem?_getD, List.getD_eq_getElem?_getD, List.getElem?_eq_getElem hi, List.getElem?_eq_getElem hj] at z
    have pw := List.pairwise_iff_getElem.mp nd
    rcases Nat.lt_or_gt_of_ne hne with h | h
    · exact pw i j hi hj h z
    · exact pw j i hj hi h z.symm
  tr := fun i j k _ _ _ h1 h2 => blt_tr _ _ _ h1 h2
theorem blt_as {k l : List Int} (h : blt k l = true) : blt l k = false := by
  cases e : blt l k with
  | false => rfl
  | true =>
    have := blt_tr k l k h e
    rw [blt_irr] at this; cases this
theorem blt_le {k l m : List Int} (h1 : blt l k = false) (h2 : blt m l = false) : blt m k = false := by
  by_cases e1 : k = l
  · rw [e1]; exact h2
  · by_cases e2 : l = m
    · rw [← e2]; exact h1
    · exact blt_as (blt_tr _ _ _ (blt_tot _ _ (fun z => e1 z.symm) h1) (blt_tot _ _ (fun z => e2 z.symm) h2))
theorem ordKW (ks : List (List Int)) : OrdW ks.length (ltK ks) := ⟨fun _ _ _ _ h => blt_as h, fun _ _ _ _ _ _ h1 h2 => blt_le h1 h2⟩
def TupV (h : Heap) (v : Value) (k : List Int) : Prop := ∃ b o xs e, v = .ref b ∧ h.get? b = some o ∧ o.cls = .type "tuple" ∧ o.data = .seq xs e ∧ Vals (k.map V.int) xs.toList
section
variable {prog : Program} {w : World} {A : Around} {E : Value → Shared → Prop} {s : Shared}
theorem lex_ints {b fin : Bool} {Q : Bool → Shared → Prop} : ∀ (k l : List Int) (us ws : List Value) (i : Nat), Vals (k.map V.int) us → Vals (l.map V.int) ws → fin = decide (k.length < l.length) → Q (blt k l) s → KatLex prog w A b fin Q (us.zip ws) i s
  | [], l, us, ws, i, hu, hw, hf, q => by
    cases us with
    | cons _ _ => exact absurd hu.length (by simp)
    | nil =>
      rw [List.zip_nil_left]
      refine kat_nil ?_
      rw [hf]
      cases l with
      | nil => exact q
      | cons _ _ => exact q
  | x :: k, [], us, ws, i, hu, hw, hf, q => by
    cases ws with
    | cons _ _ => exact absurd hw.length (by simp)
    | nil =>
      rw [List.zip_nil_right]
      refine kat_nil ?_
      rw [hf]
      exact q
  | x :: k, y :: l, us, ws, i, hu, hw, hf, q => by
    cases us with
    | nil => exact absurd hu.length (by simp)
    | cons u us =>
      cases ws with
      | nil => exact absurd hw.length (by simp)
      | cons v ws =>
        rw [List.map_cons] at hu hw
        cases hu with
        | cons hx hu =>
          cases hw with
          | cons hy hw =>
            obtain ⟨t, rfl⟩ := (show ∃ t, u = Value.int x t from hx)
            obtain ⟨t', rfl⟩ := (show ∃ t, v = Value.int y t from hy)
            rw [List.zip_cons_cons]
            refine kat_cons (wpAny_eqBool_int ?_)
            by_cases hxy : x = y
            · subst hxy
              rw [show (x == x) = true by simp]
              refine kat_yes (lex_ints k l us ws (i + 1) hu hw (by rw [hf]; simp) ?_)
              unfold blt at q
              rwa [if_pos rfl] at q
            · rw [show (x == y) = false by simpa using hxy]
              unfold blt at q
              rw [if_neg hxy] at q
              refine kat_no ?_
              cases (b && i == 0) with
              | true => exact oneLt_int q
              | false => exact kat_one _ _ (lt_int q)
theorem tup_lt {b : Bool} {Q : Bool → Shared → Prop} {x y : Value} {k l : List Int} (hx : TupV s.heap x k) (hy : TupV s.heap y l) (q : Q (blt k l) s) : wpAny (model prog w) A (keyLt' (tuples' b) x y) Q E s := by
  obtain ⟨a, o, xs, e, rfl, h1, h2, h3, h4⟩ := hx
  obtain ⟨a', o', xs', e', rfl, h1', h2', h3', h4'⟩ := hy
  refine kat_lt h1 h3 h1' h3' (lex_ints k l _ _ 0 h4 h4' ?_ q)
  have e1 : k.length = xs.size := by have := h4.length; simpa using this
  have e2 : l.length = xs'.size := by have := h4'.length; simpa using this
  rw [e1, e2]
theorem kat_of {h : Heap} : ∀ {vs : List Value} {ks : List (List Int)}, vs.length = ks.length → (∀ (i : Nat) v k, vs[i]? = some v → ks[i]? = some k → TupV h v k ∧ k ≠ []) → ∃ fs, KatTups h vs fs ∧ fs.length = vs.length ∧ ∀ v ∈ fs, ∃ i t, v = Value.int i t
  | [], [], _, _ => ⟨[], .nil, rfl, fun v hv => by cases hv⟩
  | v :: vs, k :: ks, hl, H => by
    obtain ⟨fs, f1, f2, f3⟩ := kat_of (vs := vs) (ks := ks) (by simpa using hl) (fun i v k e1 e2 => H (i + 1) v k (by simpa using e1) (by simpa using e2))
    obtain ⟨⟨b, o, xs, e, rfl, h1, h2, h3, h4⟩, hne⟩ := H 0 v k rfl rfl
    cases k with
    | nil => exact absurd rfl hne
    | cons i r =>
      obtain ⟨u, us, eu, hu⟩ : ∃ u us, xs.toList = u :: us ∧ RelV (.int i) u := by
        generalize xs.toList = ys at h4
        cases h4 with
        | cons hx _ => exact ⟨_, _, rfl, hx⟩
      obtain ⟨t, rfl⟩ := (show ∃ t, u = Value.int i t from hu)
      refine ⟨Value.int i t :: fs, ?_, by simp [f2], fun v hv => ?_⟩
      · rw [KatTups.eq_2]
        refine ⟨⟨b, o, xs, e, rfl, h1, h2, h3, ?_⟩, f1⟩
        rw [← Array.getElem?_toList, eu]; rfl
      · rcases List.mem_cons.mp hv with h | h
        · exact ⟨i, t, h⟩
        · exact f3 v h
theorem sort_tups {a : Addr} {vs : List Value} {n : Nat} {P : Fin → Shared → Prop} {ks : List (List Int)} (ho : s.heap.get? a = some (seqObj "list" vs.toArray n)) (h2 : 2 ≤ vs.length) (h64 : vs.length < 64) (hl : vs.length = ks.length) (nd : ks.Nodup)
    (hT : ∀ (i : Nat) v k, vs[i]? = some v → ks[i]? = some k → TupV s.heap v k ∧ k ≠ [])
    (h : ∀ p : Array Nat, PermA ks.length p → Asc (ltK ks) p ks.length → P (.done (.ret .none)) { s with heap := sortedHeap s.heap a vs (p.map fun i => vs.getD i .none) }) : wpAny (model prog w) A (Builtin.«list.sort» ⟨[.ref a], []⟩) P E s := by
  rw [list_sort_plain]
  have la : a < s.heap.objs.size := Heap.lt_size ho
  refine wpAny_bind (listItems_at ho rfl ?_); refine wpAny_bind (listUpdate_at ho rfl ?_)
  obtain ⟨e1, h1⟩ : ∃ e1, (s.heap.update a (Obj.mapSeq fun _ => #[])).get? a = some (seqObj "list" #[] e1) := ⟨_, get?_update_seq ho (fun _ => #[])⟩
  refine wpAny_bind (seqEpoch_at h1 rfl ?_); refine wpAny_bind (wpAny_newTuple ?_ (by simp only [List.toList_toArray]; rw [sizeLine_eq]; omega)); refine wpAny_bind (wpAny_newList ?_); refine wpAny_holding ?_
  have h6 : (((s.heap.update a (Obj.mapSeq fun _ => #[])).push (seqObj "tuple" vs.toArray 0)).push (seqObj "list" #[] 0)).get? a = some (seqObj "list" #[] e1) := by
    rw [Heap.get?_push_ne _ _ _ (by rw [size_push', Heap.size_update]; exact Nat.ne_of_lt (Nat.lt_succ_of_lt la)), Heap.get?_push_ne _ _ _ (by rw [Heap.size_update]; exact Nat.ne_of_lt la)]; exact h1
  show wpAny (model prog w) A _ P E { s with heap := ((s.heap.update a (Obj.mapSeq fun _ => #[])).push (seqObj "tuple" vs.toArray 0)).push (seqObj "list" #[] 0) }
  obtain ⟨s3, es3⟩ : ∃ s3 : Shared, s3 = { s with heap := ((s.heap.update a (Obj.mapSeq fun _ => #[])).push (seqObj "tuple" vs.toArray 0)).push (seqObj "list" #[] 0) } := ⟨_, rfl⟩
  have hT3 : ∀ (i : Nat) v k, vs[i]? = some v → ks[i]? = some k → TupV s3.heap v k ∧ k ≠ [] := fun i v k q1 q2 => by
    obtain ⟨⟨b, o, xs, e, rfl, g1, g2, g3, g4⟩, hne⟩ := hT i v k q1 q2
    refine ⟨⟨b, o, xs, e, rfl, ?_, g2, g3, g4⟩, hne⟩
    have hba : b ≠ a := fun z => by
      subst z
      rw [ho] at g1
      cases g1
      have g2' : (Value.type "list" : Value) = Value.type "tuple" := g2
      injection g2' with e'
      exact absurd e' (by decide)
    rw [es3]
    exact Heap.get?_push_of_some _ (Heap.get?_push_of_some _ ((Heap.SameBut.update s.heap a _).extBut b o hba g1))
  obtain ⟨fs, f1, f2, f3⟩ := kat_of hl hT3
  have z2 : ¬ vs.toArray.size < 2 := by simpa using by omega
  dsimp only
  rw [if_neg z2, if_neg z2, ← es3]
  refine wpAny_bind (kat_kind (T := .type "int") f1 (by omega) (fun v hv => ?_) (by decide) ?_)
  · obtain ⟨i, t, rfl⟩ := f3 v hv
    exact Looks.of_pure rfl
  have hrun := kas_runs (prog := prog) (w := w) (A := A) (E := E) (κ := tuples' true) (it := pairsOf vs) (n := ks.length) (s := s3) (G := fun p s' => s' = s3 ∧ PermA ks.length p ∧ Asc (ltK ks) p ks.length)
    (Q := fun _ st' s' => s' = s3 ∧ failedOf st' = none ∧ ∃ p, arrOf st' = p.map (kas_item (pairsOf vs)) ∧ PermA ks.length p ∧ Asc (ltK ks) p ks.length) (by omega) (by omega)
    (fun p st' s' hz ha hf hG => ⟨hG.1, hf, p, ha, hG.2⟩)
    (KW.run (fun i j C hi hj hC => by
      unfold kas_cmp
      rw [kas_item_eq, kas_item_eq]
      have q1 : vs[i]? = some (vs.getD i .none) := by rw [List.getD_eq_getElem?_getD, List.getElem?_eq_getElem (by omega)]; rfl
      have q2 : vs[j]? = some (vs.getD j .none) := by rw [List.getD_eq_getElem?_getD, List.getElem?_eq_getElem (by omega)]; rfl
      have q3 : ks[i]? = some (ks.getD i []) := by rw [List.getD_eq_getElem?_getD, List.getElem?_eq_getElem hi]; rfl
      have q4 : ks[j]? = some (ks.getD j []) := by rw [List.getD_eq_getElem?_getD, List.getElem?_eq_getElem hj]; rfl
      exact tup_lt (hT3 i _ _ q1 q3).1 (hT3 j _ _ q2 q4).1 hC) (sort_kw (ordK ks nd) (ordKW ks) (by omega)))
  have est : kas_st (tuples' true) (pairsOf vs) (List.range ks.length).toArray = SortSt.mk' (tuples' true) (vs.toArray.zip vs.toArray) #[] 7 none := by
    unfold kas_st
    have := kas_range (pairsOf vs)
    rw [pairsOf_size, hl] at this
    rw [this]; rfl
  rw [est] at hrun
  show wpAny (model prog w) A (sortRuns'.run (SortSt.mk' (tuples' true) (vs.toArray.zip vs.toArray) #[] 7 none) >>= _) P E s3
  refine wpAny_bind (wpAny_mono hrun (fun r s' hq => ?_) fun _ _ z => z)
  obtain ⟨rfl, hf, p, hp, hq⟩ := hq
  have h6' : s'.heap.get? a = some (seqObj "list" #[] e1) := by rw [es3]; exact h6
  have hz : ((arrOf r.2).map (·.2)).size ≤ sizeLine := by rw [Array.size_map, hp, Array.size_map, hq.1.sz, sizeLine_eq]; omega
  refine wpAny_bind (seqEpoch_at h6' rfl ?_); refine wpAny_bind (listUpdate_at h6' rfl ?_ (hsz2 := Nat.le_succ_of_le hz))
  rw [hf]
  simp only [bne_self_eq_false, Bool.false_eq_true, if_false]
  refine wpAny_pure ?_
  have := h p hq.1 hq.2
  rw [es3]
  rw [hp, Array.map_map]
  have ef : ((fun x : Keyed => x.2) ∘ kas_item (pairsOf vs)) = fun i => vs.getD i .none := by
    funext i
    show (kas_item (pairsOf vs) i).2 = _
    rw [kas_item_eq]
  rw [ef]
  exact this
end
end L2
namespace L2
open PySem PySem.Spec PyProof.Rows PySem.W
def pick {α : Type} (idx : List Nat) (xs : List α) (d : α) : List α := idx.map fun i => xs.getD i d
theorem pick_range {α : Type} (xs : List α) (d : α) : pick (List.range xs.length) xs d = xs := by
  unfold pick
  apply List.ext_getElem?
  intro i
  rw [List.getElem?_map]
  by_cases h : i < xs.length
  · rw [List.getElem?_range h, List.getElem?_eq_getElem h]
    simp [List.getD_eq_getElem?_getD, List.getElem?_eq_getElem h]
  · rw [List.getElem?_eq_none (by simpa using by omega), List.getElem?_eq_none (by omega)]; rfl
theorem pick_perm {α : Type} {idx : List Nat} {xs : List α} {d : α} (h : idx.Perm (List.range xs.length)) : (pick idx xs d).Perm xs := by
  have := h.map (fun i => xs.getD i d)
  have e := pick_range xs d
  unfold pick at e
  rw [e] at this
  exact this
def TupsH (H : Hp) (xs : List V) (ks : List (List Int)) : Prop := Paired (fun v r => ∃ a, v = V.ref a ∧ H a = some (.tup (r.map V.int))) xs ks
theorem TupsH.len {H : Hp} : ∀ {xs : List V} {ks : List (List Int)}, TupsH H xs ks → xs.length = ks.length
  | _, _, .nil => rfl
  | _, _, .cons _ t => by simp [TupsH.len t]
theorem TupsH.get {H : Hp} : ∀ {xs : List V} {ks : List (List Int)} {i : Nat} {x : V} {k : List Int}, TupsH H xs ks → xs[i]? = some x → ks[i]? = some k → ∃ a, x = .ref a ∧ H a = some (.tup (k.map V.int))
  | _, _, _, _, _, .nil, e, _ => by simp at e
  | _, _, 0, _, _, .cons r _, e, f => by simp at e f; subst e f; exact r
  | _, _, i + 1, x, k, .cons _ t, e, f => TupsH.get (i := i) t (by simpa using e) (by simpa using f)
theorem TupsH.pick {H : Hp} {xs : List V} {ks : List (List Int)} (h : TupsH H xs ks) : ∀ {idx : List Nat}, (∀ i ∈ idx, i < ks.length) → TupsH H (pick idx xs .non) (pick idx ks [])
  | [], _ => .nil
  | i :: r, hi => by
    have h0 := hi i List.mem_cons_self
    have hl := h.len
    refine .cons (h.get (i := i) ?_ ?_) (TupsH.pick h fun j hj => hi j (List.mem_cons_of_mem _ hj))
    · show xs[i]? = some (xs.getD i .non)
      rw [List.getD_eq_getElem?_getD, List.getElem?_eq_getElem (by omega)]; rfl
    · show ks[i]? = some (ks.getD i [])
      rw [List.getD_eq_getElem?_getD, List.getElem?_eq_getElem h0]; rfl
theorem vals_pick {xs : List V} {vs : List Value} (h : Vals xs vs) : ∀ {idx : List Nat}, (∀ i ∈ idx, i < xs.length) → Vals (pick idx xs .non) (pick idx vs .none)
  | [], _ => .nil
  | i :: r, hi => by
    have h0 := hi i List.mem_cons_self
    have hl := h.length
    refine .cons ?_ (vals_pick h fun j hj => hi j (List.mem_cons_of_mem _ hj))
    show RelV (xs.getD i .non) (vs.getD i .none)
    rw [List.getD_eq_getElem?_getD, List.getElem?_eq_getElem h0, List.getD_eq_getElem?_getD, List.getElem?_eq_getElem (by omega)]
    exact vals_ix h h0 (by omega)
where
  vals_ix : ∀ {xs : List V} {vs : List Value} {i : Nat}, Vals xs vs → (h1 : i < xs.length) → (h2 : i < vs.length) → RelV xs[i] vs[i]
    | _, _, 0, .cons r _, _, _ => r
    | _, _, i + 1, .cons _ t, h1, h2 => vals_ix (i := i) t (by simpa using h1) (by simpa using h2)
section
variable {prog : Program} {w : World} {A : Around} {E : Value → Shared → Prop} {s : Shared}
theorem sort_any {a : Addr} {vs : List Value} {n : Nat} {P : Fin → Shared → Prop} {ks : List (List Int)} (ho : s.heap.get? a = some (seqObj "list" vs.toArray n)) (h64 : vs.length < 64) (hl : vs.length = ks.length) (nd : ks.Nodup)
    (hT : ∀ (i : Nat) v k, vs[i]? = some v → ks[i]? = some k → TupV s.heap v k ∧ k ≠ [])
    (h : ∀ idx : List Nat, idx.Perm (List.range ks.length) → (pick idx ks []).Pairwise (fun k l => blt k l = true) → P (.done (.ret .none)) { s with heap := sortedHeap s.heap a vs (pick idx vs .none).toArray }) : wpAny (model prog w) A (Builtin.«list.sort» ⟨[.ref a], []⟩) P E s := by
  by_cases h2 : vs.length < 2
  · refine sort_short ho h2 ?_
    have := h (List.range ks.length) (.refl _) (by
      rw [pick_range]
      match ks, hl with
      | [], _ => exact .nil
      | [k], _ => exact List.pairwise_singleton _ _
      | _ :: _ :: _, hl => simp at hl; omega)
    rw [← hl, pick_range] at this
    rw [zip_snd]
    exact this
  · refine sort_tups ho (by omega) h64 hl nd hT fun p hp ha => ?_
    have e : (p.map fun i => vs.getD i .none) = (pick p.toList vs .none).toArray := by
      apply Array.ext'
      simp [pick]
    rw [e]
    refine h p.toList hp.perm ?_
    rw [List.pairwise_iff_getElem]
    intro i j hi hj hij
    have hs := hp.sz
    have li : i < p.size := by simpa [pick] using hi
    have lj : j < p.size := by simpa [pick] using hj
    have := ha i j hij (by omega)
    unfold ltK at this
    rw [Array.getD_eq_getD_getElem?, Array.getElem?_eq_getElem li, Array.getD_eq_getD_getElem?, Array.getElem?_eq_getElem lj] at this
    simpa [pick] using this
end
section
variable {X : Cx}
theorem tupV_of {pins : List (Addr × Obj)} {σ : St} {H : Hp} {s : Shared} {a : Addr} {k : List Int} (I : Inv X pins σ H s) (h : H a = some (.tup (k.map V.int))) : TupV s.heap (.ref a) k := by
  obtain ⟨its, rv, p, _⟩ := I.tuple (SqT.of h)
  obtain ⟨o, h1, h2, n, h3⟩ := (show s.heap.IsTuple a its.toArray from p)
  exact ⟨a, o, its.toArray, n, rfl, h1, h2, h3, by simpa using rv⟩
def rSortD : List V → Hp → VK → Prop := fun xs H Q => ∃ (a : Addr) (kvs : List (List Key × V)) (ks : List (List Int)), xs = [.ref a] ∧ H a = some (.dT kvs) ∧ kvs.map (·.1) = ks.map (fun k => k.map Sum.inl) ∧ ks.length < 64 ∧ ks.Nodup ∧ (∀ k ∈ ks, k ≠ []) ∧
  ∀ ms zs l H', ms.Perm ks → ms.Pairwise (fun k l => blt k l = true) → TupsH H zs ms → New H H' l (.lst zs) → Q (.ref l) H'
theorem kt_tups {H : Hp} : ∀ {kvs : List (List Key × V)} {ys : List (List Key × Addr × Value)} {ks : List (List Int)}, KT H kvs ys → kvs.map (·.1) = ks.map (fun k => k.map Sum.inl) → TupsH H (ys.map fun y => V.ref y.2.1) ks
  | [], _, ks, .nil, e => by
    cases ks with
    | nil => exact .nil
    | cons _ _ => cases e
  | p :: r, _, ks, .cons (b := y) hy t, e => by
    cases ks with
    | nil => cases e
    | cons k ks =>
      rw [List.map_cons, List.map_cons] at e
      injection e with e1 e2
      refine .cons ⟨y.2.1, rfl, ?_⟩ (kt_tups t e2)
      have := hy.2.1
      rw [e1] at this
      rw [this, List.map_map]; rfl
theorem refs_vals : ∀ ys : List (List Key × Addr × Value), Vals (ys.map fun y => V.ref y.2.1) (ys.map fun y => Value.ref y.2.1)
  | [] => .nil
  | _ :: r => .cons rfl (refs_vals r)
theorem call_sortedD (hc : X.calm = true) : CallR X (.builtin "sorted") rSortD := by
  intro pins s σ H xs us Q I r h
  obtain ⟨a, kvs, ks, rfl, ha, ek, h64, nd, hne, q⟩ := h
  obtain ⟨u, rfl, rx⟩ := vals1 r
  cases (show u = Value.ref a from rx)
  obtain ⟨hz, lo, ys, kt, o, es, ep, e1, e2, e3, e4, _⟩ := dt_of I.hok ha
  have hR : RawD s.heap a es ep := ⟨o, e1, e2, e3⟩
  have hT := kt_tups kt ek
  have lk : kvs.length = ks.length := by have := congrArg List.length ek; simpa using this
  have ly : ys.length = ks.length := by have := hT.len; simpa using this
  have hl : es.size = ys.length := by rw [← Array.length_toList, e4, List.length_map]
  refine Calls.call_function_entry kind_sorted plain_sorted entry_sorted (args_sorted1 _) ?_
  unfold Builtin.«sorted»; refine wpAny_bind (m := checkCount "sorted" 1 1 _) (wpAny_pure ?_)
  refine wpAny_bind (PySem.W.kdu_collect (rd_src lo) (I.ok.hd hc) hR (by rw [sizeLine_eq]; omega) fun h' tk acc hk hacc => ?_)
  have hlen : acc.toList.length = ks.length := by rw [Array.length_toList, hacc.1, hl, ly]
  have hacc' : acc.toList = ys.map fun y => Value.ref y.2.1 := by
    apply List.ext_getElem?
    intro i
    by_cases hi : i < ys.length
    · obtain ⟨v, hv⟩ : ∃ v, acc.toList[i]? = some v := ⟨_, List.getElem?_eq_getElem (by omega)⟩
      obtain ⟨e, he, hve⟩ := hacc.2 i v (by rw [← Array.getElem?_toList]; exact hv)
      rw [← Array.getElem?_toList, e4, List.getElem?_map, List.getElem?_eq_getElem hi] at he
      cases he
      rw [hv, List.getElem?_map, List.getElem?_eq_getElem hi, hve]; rfl
    · rw [List.getElem?_eq_none (by omega), List.getElem?_eq_none (by simpa using by omega)]
  have I' : Inv X pins σ H { s with heap := h', toks := tk } := I.kept hk
  have rv : Vals (ys.map fun y => V.ref y.2.1) acc.toList := by
    rw [hacc']
    exact refs_vals ys
  refine wpAny_bind (wpAny_newList ?_ (by rw [hlen, sizeLine_eq]; omega))
  have hS : (h'.push (seqObj "list" acc.toList.toArray 0)).get? h'.objs.size = some (seqObj "list" acc.toList.toArray 0) := Heap.get?_push_size _ rfl
  refine wpAny_bind (wpAny_holding (wpAny_call_entry slot_list_sort ⟨_, hS, rfl⟩ entry_list_sort (sort_any (s := { s with heap := h'.push (seqObj "list" acc.toList.toArray 0), toks := tk }) (ks := ks) hS (by omega) hlen nd (fun i v k q1 q2 => ?_) fun idx i1 i2 => ⟨_, rfl, ?_⟩) (args_list_sort _)))
  · obtain ⟨y, hy⟩ : ∃ y, ys[i]? = some y := ⟨_, List.getElem?_eq_getElem (by have := (List.getElem?_eq_some_iff.mp q2).1; omega)⟩
    obtain ⟨b, eb, hb⟩ := hT.get (i := i) (by rw [List.getElem?_map, hy]; rfl) q2
    cases eb
    have hv : v = Value.ref y.2.1 := by
      rw [hacc', List.getElem?_map, hy] at q1
      exact (Option.some.inj q1).symm
    subst hv
    obtain ⟨b, o, xs, e, e1, g1, g2⟩ := tupV_of I' hb
    exact ⟨⟨b, o, xs, e, e1, Heap.get?_push_of_some _ g1, g2⟩, hne k (List.mem_of_getElem? q2)⟩
  · refine wpAny_pure ⟨_, rfl, ?_⟩
    have hi : ∀ i ∈ idx, i < ks.length := fun i h => List.mem_range.mp (i1.mem_iff.mp h)
    have hil := i1.length_eq
    rw [List.length_range] at hil
    obtain ⟨c, hat⟩ : ∃ c, (sortedHeap (h'.push (seqObj "list" acc.toList.toArray 0)) h'.objs.size acc.toList (pick idx acc.toList .none).toArray).get? h'.objs.size = some (seqObj "list" (pick idx acc.toList .none).toArray c) := sortedHeap_at hS
    have kp : ∀ b ob, h'.get? b = some ob → (sortedHeap (h'.push (seqObj "list" acc.toList.toArray 0)) h'.objs.size acc.toList (pick idx acc.toList .none).toArray).get? b = some ob := fun b ob hb => by
      have lb := Heap.lt_size hb
      rw [sortedHeap_old (Nat.ne_of_lt lb) (by rw [size_push']; exact Nat.lt_succ_of_lt lb)]
      exact Heap.get?_push_of_some _ hb
    have vp : Vals (pick idx (ys.map fun y => V.ref y.2.1) .non) (pick idx acc.toList .none) := vals_pick rv (fun i h => by have := hi i h; simp; omega)
    refine ⟨.ref h'.objs.size, _, I'.laid (t' := tk) (o := .lst (pick idx (ys.map fun y => V.ref y.2.1) .non)) kp (Nat.le_refl _) ⟨?_, pick idx acc.toList .none, c, vp, hat⟩, rfl, q (pick idx ks []) _ _ _ (pick_perm i1) i2 (hT.pick hi) (new_upd (I'.hok.fresh (Nat.le_refl _)))⟩
    show (pick idx _ V.non).length ≤ _
    unfold pick
    rw [List.length_map, sizeLine_eq]; omega
end
end L2
namespace L2
open PySem PySem.Spec PyProof.Rows
def MetD (P : Program) (w : World) (K : PySem.W.Frag) (mg : Str → Option Value) (base : Heap) (C : Addr) (k : Nat) (m : Str) (ps : List Str) (ds : List Value) (sp : Sp) : Prop :=
  ∃ f fd, FnOk P w K mg base CX0 k f fd ps sp ∧ Meth K C m f ∧ Binds K fd ps ds
section
variable {X : Cx} {k : Nat} {C : Addr} {ps : List Str} {sp : Sp} {dvs : List V} {ds : List Value} {m : Str} {pos apos : Pos} {e o : Expr} {es : List Expr} {ta : TE} {t : TA}
theorem pe_mtD {pl : Sem Bool} (he : PE X o ta) (c : Cls X.K C) (D : MetD X.prog X.w X.K X.mg X.base C k m ps ds sp) (hr : Room k X.A) (hd : Vals dvs ds) (ha : PA X (e :: es) t)
    (hst : starEach (e :: es) X.env = (false, eval e X.env) :: starEach es X.env := by rfl) (hpl : (backTo pos (starEach es X.env)).any (·.1) = false := by rfl)
    (ht : eval (.Call (.Attribute o m apos) (e :: es) [] pos) X.env = (do
      let ov ← eval o X.env
      standAt apos.atName
      let (f, first) ← holding [ov] (getMethod ov m pl)
      callWith pos f first (backTo pos (starEach (e :: es) X.env)) (backToKw pos (keywordEach [] X.env))) := by rfl) :
    PE X (.Call (.Attribute o m apos) (e :: es) [] pos) (tMeth C m sp dvs E0 ta t) := by
  obtain ⟨f, fd, F, hm, hb⟩ := D
  exact pe_meth (pl := pl) he c hm F hr hb hd pass0 ha hst hpl ht
end
end L2
namespace L2
open PySem PySem.Spec PyProof.Rows PySem.W
section
variable {prog : Program} {w : World} {A : Around} {E : Value → Shared → Prop} {s : Shared}
end
section
variable {X : Cx} {pos : Pos}
end
end L2
namespace L2
open PySem PySem.Spec PyProof.Rows
section
variable {prog : Program} {w : World} {A : Around} {E : Value → Shared → Prop} {s : Shared}
abbrev itemIt (d : Addr) (n ep : Nat) : Obj := { cls := .type "dict_itemiterator", data := .fields #[.none, .bool false, .ref d, .int 0 0, .int n 0, .int ep 0, .none, .none] }
theorem ri_view {d : Addr} {es : Array DictEntry} {ep : Nat} {Q : Value → Shared → Prop} (lo : (d == sysModules) = false) (hm : RawD s.heap d es ep)
    (hQ : Q (.ref s.heap.objs.size) { s with heap := s.heap.push { cls := .type "dict_items", data := .fields #[.ref d] } }) : wpAny (model prog w) A (call (.builtin "dict.items") [.ref d]) Q E s := by
  have ty := hm.ty
  refine wpAny_call_entry F.slot_dict_items ty F.entry_dict_items ?_ (F.args_dict_items_1 _)
  unfold Builtin.«dict.items»; refine wpAny_bind ?_; unfold Builtin.Dict.noArgs
  refine wpAny_bind (wpAny_notOrdered_dict ty ?_); show wpAny _ _ (pure d) _ _ s; refine wpAny_pure ?_
  show wpAny _ _ (Builtin.Dict.showsAll d >>= _) _ _ s; unfold Builtin.Dict.showsAll; rw [if_neg (by rw [lo]; exact Bool.false_ne_true)]
  refine wpAny_bind (wpAny_pure ?_); exact wpAny_bind (wpAny_newObj_type (wpAny_pure ⟨_, rfl, hQ⟩))
theorem ri_iter {v d : Addr} {es : Array DictEntry} {ep : Nat} {Q : Value → Shared → Prop} (hv : s.heap.IsItemsView v d) (hm : RawD s.heap d es ep)
    (hQ : Q (.ref s.heap.objs.size) { s with heap := s.heap.push (itemIt d es.size ep) }) : wpAny (model prog w) A (pyIter (.ref v)) Q E s := by
  have ty := hv.typeIs
  obtain ⟨u, e1, e2, e3⟩ := hv
  obtain ⟨o, h1, h2, h3⟩ := hm
  refine wpAny_pyIter_slot ty F.slot_dict_items_iter (wpAny_call_entry F.slot_dict_items_iter ty F.entry_dict_items_iter ?_ (F.args_dict_items_iter_1 _))
  unfold Builtin.«dict_items.__iter__»; refine wpAny_bind (wpAny_pure ?_); refine wpAny_bind ?_
  unfold Builtin.Dict_items.dictOf; refine wpAny_bind (wpAny_field e1 e3 (x := .ref d) rfl (wpAny_pure ?_)); refine wpAny_bind ?_
  unfold Builtin.Dict_items.newIterator; refine wpAny_bind (wpAny_dictEntries h1 h3 ?_); refine wpAny_bind (wpAny_dictEpoch h1 h3 ?_)
  simp only [show Builtin.Dict_items.ownsTuple "dict_itemiterator" = true by decide, if_true]
  refine wpAny_newObj_type (wpAny_pure ⟨_, rfl, "dict_itemiterator", _, ⟨_, Heap.get?_push_size _ rfl, rfl⟩, F.slot_dict_itemiterator_next.lookup, ?_⟩) (by simp only [sizeOk, Builtin.Dict_items.ownedTupleFields, List.size_toArray, List.length_append, List.length_cons, List.length_nil, sizeLine_eq]; omega)
  simpa [rawInt, Builtin.Dict_items.ownedTupleFields] using hQ
theorem ri_item {it d : Addr} {i ep : Nat} {es : Array DictEntry} {ok ov : Value} {Q : Option Value → Shared → Prop} (hJ : IsItemIter s.heap it d i es.size ep ok ov) (hm : RawD s.heap d es ep) (hx : i < es.size)
    (hQ : ∀ h', IsItemIterOut h' it d (i + 1) es.size ep es[i].key es[i].val s.heap.objs.size → h'.get? s.heap.objs.size = some { cls := .type "tuple", data := .seq #[es[i].key, es[i].val] } →
      (∀ b o, b ≠ it → s.heap.get? b = some o → h'.get? b = some o) → Q (some (.ref s.heap.objs.size)) { s with heap := h' }) : wpAny (model prog w) A (pyNext (.ref it)) Q E s := by
  obtain ⟨hp, g, dr, tk, os⟩ := s
  obtain ⟨od, h1, h2, h3⟩ := hm
  have ty : Shared.TypeIs ⟨hp, g, dr, tk, os⟩ (.ref it) "dict_itemiterator" := ⟨_, hJ, rfl⟩
  unfold pyNext
  refine wpAny_bind (wpAny_attempt (wpAny_callSpecial?_slot (name := Str.ofString "__next__") ty F.slot_dict_itemiterator_next (wpAny_call_entry F.slot_dict_itemiterator_next ty F.entry_dict_itemiterator_next ?_ (F.args_dict_itemiterator_next_1 _))))
  refine wpAny_bind (wpAny_pure ?_); refine wpAny_bind ?_; refine wpAny_bind ?_
  first | refine wpAny_bind (wpAny_typeNameOfWhole_itemiter ty (wpAny_pure ?_)) | refine wpAny_bind (wpAny_typeNameOf_itemiter ty (wpAny_pure ?_))
  refine wpAny_bind (wpAny_fieldsOf hJ rfl ?_); simp only [show Builtin.Dict_items.ownsTuple "dict_itemiterator" = true by decide, if_true]
  show wpAny _ _ (if (Value.ref d == Value.none) = true then _ else _) _ _ _; rw [if_neg (show ¬ ((Value.ref d == Value.none) = true) from Bool.false_ne_true)]
  refine wpAny_bind (wpAny_pure ?_); refine wpAny_bind (wpAny_dictEntries h1 h3 ?_)
  rw [if_neg (by simp)]; refine wpAny_bind (wpAny_pure ?_); refine wpAny_bind (wpAny_dictEpoch h1 h3 ?_); rw [if_neg (by simp)]; refine wpAny_pure ?_
  simp only [show ¬ ((i : Int) < 0) from by omega, if_false, Int.toNat_natCast, Array.getElem?_eq_getElem hx]; refine wpAny_bind ?_
  first | refine wpAny_bind (wpAny_typeNameOfWhole_itemiter ty (wpAny_pure ?_)) | refine wpAny_bind (wpAny_typeNameOf_itemiter ty (wpAny_pure ?_))
  refine wpAny_bind (wpAny_isOneOf_itemiter ty ?_)
  show wpAny _ _ (setField (.ref it) 3 (rawInt ((i : Int) + 1)) >>= _) _ _ ⟨hp, g, dr, tk, os⟩; refine wpAny_bind (wpAny_setField_rec hJ (by simp) fun g1 j1 b1 => ?_)
  replace b1 : Heap.SameBut it hp g1 := b1
  replace j1 : IsItemIter g1 it d (i + 1) es.size ep ok ov := by
    unfold IsItemIter; rw [show ((i + 1 : Nat) : Int) = (i : Int) + 1 by omega]; simpa [rawInt] using j1
  have ty1 : Shared.TypeIs ⟨g1, g, dr, tk, os⟩ (.ref it) "dict_itemiterator" := ⟨_, j1, rfl⟩
  refine wpAny_bind (wpAny_holding ?_); refine wpAny_bind (wpAny_isOneOf_itemiter ty1 ?_); refine wpAny_bind (wpAny_isOneOf_itemiter ty1 ?_)
  show wpAny _ _ (Builtin.Dict_items.pairFromOwner (.ref it) 6 es[i].key es[i].val) _ _ ⟨g1, g, dr, tk, os⟩; unfold Builtin.Dict_items.pairFromOwner; refine wpAny_bind (wpAny_newTuple ?_)
  have j2 : IsItemIter (g1.push { cls := .type "tuple", data := .seq #[es[i].key, es[i].val] }) it d (i + 1) es.size ep ok ov := Heap.get?_push_of_some _ j1
  have z1 : g1.objs.size = hp.objs.size := b1.1
  have il : it ≠ hp.objs.size := Nat.ne_of_lt (Heap.lt_size hJ)
  have t2 : (g1.push { cls := .type "tuple", data := .seq #[es[i].key, es[i].val] }).get? hp.objs.size = some { cls := .type "tuple", data := .seq #[es[i].key, es[i].val] } := by rw [← z1]; exact Heap.get?_push_size _ rfl
  have k2 : ∀ b o, b ≠ it → hp.get? b = some o → (g1.push { cls := .type "tuple", data := .seq #[es[i].key, es[i].val] }).get? b = some o := fun b o hb e => Heap.get?_push_of_some _ (b1.extBut b o hb e)
  generalize (g1.push { cls := .type "tuple", data := .seq #[es[i].key, es[i].val] }) = g2 at j2 t2 k2 ⊢
  show wpAny _ _ (Builtin.Dict_items.ownedTupleIsFree (.ref it) >>= _) _ _ ⟨g2, g, dr, tk, os⟩; rw [z1]; refine wpAny_bind ?_
  unfold Builtin.Dict_items.ownedTupleIsFree; refine wpAny_bind (wpAny_field j2 rfl (x := .none) rfl (wpAny_pure ?_)); simp only [if_true]
  refine wpAny_bind (wpAny_field j2 rfl (x := ok) rfl ?_); refine wpAny_bind (wpAny_field j2 rfl (x := ov) rfl ?_)
  refine wpAny_bind (wpAny_setField_rec j2 (by simp) fun g3 j3 b3 => ?_); replace b3 : Heap.SameBut it g2 g3 := b3; replace j3 : IsItemIter g3 it d (i + 1) es.size ep es[i].key ov := j3
  refine wpAny_bind (wpAny_setField_rec j3 (by simp) fun g4 j4 b4 => ?_); replace b4 : Heap.SameBut it g3 g4 := b4; replace j4 : IsItemIter g4 it d (i + 1) es.size ep es[i].key es[i].val := j4
  refine wpAny_bind (wpAny_setField_rec j4 (by simp) fun g5 j5 b5 => ?_); replace b5 : Heap.SameBut it g4 g5 := b5; replace j5 : IsItemIterOut g5 it d (i + 1) es.size ep es[i].key es[i].val hp.objs.size := j5
  refine wpAny_bind (wpAny_setField_rec j5 (by simp) fun g6 j6 b6 => ?_); replace b6 : Heap.SameBut it g5 g6 := b6; replace j6 : IsItemIterOut g6 it d (i + 1) es.size ep es[i].key es[i].val hp.objs.size := j6
  have k6 : ∀ b o, b ≠ it → g2.get? b = some o → g6.get? b = some o := fun b o hb e => b6.extBut b o hb (b5.extBut b o hb (b4.extBut b o hb (b3.extBut b o hb e)))
  exact wpAny_bind (wpAny_letGo (wpAny_pure (wpAny_pure ⟨_, rfl, wpAny_pure (hQ g6 j6 (k6 _ _ il.symm t2) fun b o hb e => k6 b o hb (k2 b o hb e))⟩)))
theorem ri_end {it d : Addr} {i ep : Nat} {es : Array DictEntry} {ok ov : Value} {Q : Option Value → Shared → Prop} (hh : A.handled = none) (hJ : IsItemIter s.heap it d i es.size ep ok ov) (hm : RawD s.heap d es ep) (hx : es.size ≤ i)
    (hQ : ∀ h', Heap.ExtBut it s.heap h' → Q none { s with heap := h' }) : wpAny (model prog w) A (pyNext (.ref it)) Q E s := by
  obtain ⟨od, h1, h2, h3⟩ := hm
  have ty : s.TypeIs (.ref it) "dict_itemiterator" := ⟨_, hJ, rfl⟩
  unfold pyNext
  refine wpAny_bind (wpAny_attempt (wpAny_callSpecial?_slot (name := Str.ofString "__next__") ty F.slot_dict_itemiterator_next (wpAny_call_entry F.slot_dict_itemiterator_next ty F.entry_dict_itemiterator_next ?_ (F.args_dict_itemiterator_next_1 _))))
  refine wpAny_bind (wpAny_pure ?_); refine wpAny_bind ?_; refine wpAny_bind ?_
  first | refine wpAny_bind (wpAny_typeNameOfWhole_itemiter ty (wpAny_pure ?_)) | refine wpAny_bind (wpAny_typeNameOf_itemiter ty (wpAny_pure ?_))
  refine wpAny_bind (wpAny_fieldsOf hJ rfl ?_); simp only [show Builtin.Dict_items.ownsTuple "dict_itemiterator" = true by decide, if_true]
  show wpAny _ _ (if (Value.ref d == Value.none) = true then _ else _) _ _ s; rw [if_neg (show ¬ ((Value.ref d == Value.none) = true) from Bool.false_ne_true)]
  refine wpAny_bind (wpAny_pure ?_); refine wpAny_bind (wpAny_dictEntries h1 h3 ?_)
  rw [if_neg (by simp)]; refine wpAny_bind (wpAny_pure ?_); refine wpAny_bind (wpAny_dictEpoch h1 h3 ?_); rw [if_neg (by simp)]; refine wpAny_pure ?_
  simp only [show ¬ ((i : Int) < 0) from by omega, if_false, Int.toNat_natCast, Array.getElem?_eq_none hx]; refine wpAny_bind ?_
  first | refine wpAny_bind (wpAny_typeNameOfWhole_itemiter ty (wpAny_pure ?_)) | refine wpAny_bind (wpAny_typeNameOf_itemiter ty (wpAny_pure ?_))
  show wpAny _ _ (setField (.ref it) 2 .none >>= _) _ _ s; refine wpAny_bind (wpAny_setField hJ rfl (by simp) ?_)
  show wpAny _ _ (newExc (.type "StopIteration") [] >>= _) _ _ _; refine wpAny_bind ?_
  simp only [newExc, newTuple]; refine wpAny_bind (wpAny_newObj_type ?_ (by size_fits))
  refine wpAny_bind (m := firstArgMember _ _) (wpAny_of_eq (a := Value.none) (by first | rfl | (simp only [firstArgMember]; rfl)) ?_); refine wpAny_newObj_type ?_ (by size_fits)
  simp only [raiseNew]; refine wpAny_bind (wpAny_handled ?_); rw [show A.in1.handled = none from hh]; refine wpAny_bind (wpAny_pure (wpAny_throw ?_))
  refine wpAny_bind (wpAny_isInstance (T := "StopIteration") (b := true) ⟨_, Heap.get?_push_size _ rfl, rfl⟩ isSubtype_stop ?_); exact wpAny_pure (hQ _ (((Heap.SameBut.update ..).extBut.push _).push _))
theorem ri_entry : entryFor table "dict_itemiterator.__iter__" = some Builtin.«dict_keyiterator.__iter__» :=
  entryFor_alias (id' := "dict_keyiterator.__iter__") (by rw [fastTable_eq_tree]; kernel_rfl) (by first | rfl | decide +kernel) (by decide +kernel) (by rw [fastTable_eq_tree]; kernel_rfl)
theorem ri_self {it d : Addr} {i n ep : Nat} {ok ov : Value} {Q : Value → Shared → Prop} (hJ : IsItemIter s.heap it d i n ep ok ov) (h : Q (.ref it) s) : wpAny (model prog w) A (pyIter (.ref it)) Q E s := by
  have ty : s.TypeIs (.ref it) "dict_itemiterator" := ⟨_, hJ, rfl⟩
  refine wpAny_pyIter_slot ty F.slot_dict_itemiterator_iter (wpAny_call_entry F.slot_dict_itemiterator_iter ty ri_entry ?_ (F.args_dict_itemiterator_iter_1 _)); show wpAny _ _ (ret (.ref it)) _ _ s
  exact wpAny_pure ⟨_, rfl, "dict_itemiterator", _, ty, F.slot_dict_itemiterator_next.lookup, h⟩
end
end L2
namespace L2
open PySem PySem.Spec PyProof.Rows
def NoF (X : Cx) (d : Addr) : Prop := (∀ xs, X.H₀ d ≠ some (.tup xs)) ∧ (∀ o u, X.H₀ d ≠ some (.frz o u)) ∧ ∀ ps, X.H₀ d ≠ some (.tbl ps)
section
variable {X : Cx} {pins : List (Addr × Obj)} {σ : St} {H : Hp} {s : Shared} {d : Addr}
theorem Inv.swap {o1 o2 : HO} (I : Inv X pins σ H s) (hd : H d = some o1) (n1 : ∀ xs, o1 ≠ .tup xs) (n2 : ∀ b, o1 ≠ .own b) (nf : NoF X d) (ok : ObjOk X.prog X.w (upd H d o2) s.heap d o2) : Inv X pins σ (upd H d o2) s := by
  have ne : ∀ {b}, H b = none → b ≠ d := fun h z => by rw [z, hd] at h; cases h
  refine ⟨I.ok, I.os, I.bare, ⟨I.base.keep, I.base.slot, fun b o q n hx => ?_, I.base.there, fun b xs q => ?_, fun b o u q => ?_, fun b ps q => ?_⟩, I.loc, I.cell, ?_, fun x c q => ?_, fun p hp => ?_, fun b u q => ?_, I.len⟩
  · have h0 := I.base.free b o q n hx
    rw [upd_ne (ne h0)]; exact h0
  · have hb : b ≠ d := fun z => nf.1 xs (by rw [← z]; exact q)
    rw [upd_ne hb]; exact I.base.tups b xs q
  · have hb : b ≠ d := fun z => nf.2.1 o u (by rw [← z]; exact q)
    rw [upd_ne hb]; exact I.base.frzs b o u q
  · have hb : b ≠ d := fun z => nf.2.2 ps (by rw [← z]; exact q)
    rw [upd_ne hb]; exact I.base.tbls b ps q
  · rw [upd_ne (ne I.free)]; exact I.free
  · rw [upd_ne (ne (I.freeC x c q))]; exact I.freeC x c q
  · obtain ⟨e, n, r⟩ := I.pin p hp
    exact ⟨e, by rw [upd_ne (ne n)]; exact n, r⟩
  · by_cases hb : b = d
    · subst hb; rw [upd_same] at q; cases q; exact ok
    · rw [upd_ne hb] at q
      refine (I.hok b u q).stay (fun _ _ _ q => q) (fun c q => ?_) fun c xs q => ?_
      · rw [upd_ne (fun z => by rw [z, hd] at q; exact n2 _ (Option.some.inj q))]; exact q
      · rw [upd_ne (fun z => by rw [z, hd] at q; exact n1 _ (Option.some.inj q))]; exact q
end
section
variable {X : Cx}
end
end L2
namespace L2
open PySem PySem.Spec PyProof.Rows
section
variable {prog : Program} {w : World} {A : Around} {E : Value → Shared → Prop} {h : Heap} {g : Array GenState} {d : Drawn} {t : Nat} {os : OsState}
variable {nm q : Str} {C N x : Addr} {bs bm : List Value} {hdct : Bool} {sn : List Str} {sub : List Value} {ab : Bool} {col : Option Bool} {dd : Option Addr} {k0 k1 k2 k3 k5 : Option Value}
end
def excN (a : Addr) (cls : Value) (dd : Option Addr) : HO := .ext fun h => ∃ oe vs, h.get? a = some oe ∧ oe.cls = cls ∧ oe.dict = dd ∧ oe.data = .fields vs ∧ vs.size = 6 ∧ vs[1]? = some .none
def excInI (K : PySem.W.Frag) (C f : Addr) : Bool := match K.lookup C with
  | some ⟨.type "type", _, .cls cd, sl⟩ => (match cd.mro, sl.toList with
    | .ref C' :: bm, [_, _, _, _, some (.builtin n), _] => C' == C && n == "ValueError.__new__" && !cd.hasDel && PySem.W.tailIn K veMro bm && PySem.W.nsOkIn K cd.ns && PySem.W.nsIn K cd.ns "__init__" == some (some (.ref f)) && cd.hasDict
    | _, _ => false)
  | _ => false
structure ExcI (K : PySem.W.Frag) (C f : Addr) (fld : Str) : Prop where
  e : excInI K C f = true
  fn : PySem.W.isFn K (.ref f) = true
  x : ExcK K C
  hd : PySem.W.hasDictIn K C = true
  sa : PySem.W.findIn K (.ref C) "__setattr__" = some (some (.builtin "object.__setattr__"))
  na : PySem.W.findIn K (.ref C) fld = some none
structure ExcAtI (h : Heap) (C f : Addr) : Prop where
  e : ∃ bm N nm qn bs sn sub ab col dd k0 k1 k2 k3 k5 mN, h.get? C = some (excClassObj nm qn C N bs bm true sn sub ab col dd k0 k1 k2 k3 k5 "ValueError.__new__") ∧ h.Ns N mN ∧ mN "__init__" = some (.ref f) ∧ OwnTail h veMro bm
section
variable {prog : Program} {w : World} {A : Around} {E : Value → Shared → Prop} {K : PySem.W.Frag} {h : Heap} {g : Array GenState} {d : Drawn} {t : Nat} {os : OsState} {C f x : Addr} {o : Obj} {vs : Array Value}
end
end L2
namespace L2
open PySem PySem.Spec PyProof.Rows
section
variable {prog : Program} {w : World} {A : Around} {E : Value → Shared → Prop} {s : Shared} {K : PySem.W.Frag} {a D : Addr} {oe : Obj} {od : Option Obj}
end
structure BaseI (K : PySem.W.Frag) (B : Addr) : Prop where
  sp : PySem.W.specialIn K (.ref B) "__getattribute__" = some (some (.builtin "type.__getattribute__"))
  rd : PySem.W.readsIn K B (.type "type") = true
  fi : PySem.W.findCls K (.ref B) (.type "type") "__init__" = some (.val (.builtin "ValueError.__init__"))
def dropH (H : Hp) (e : Addr) : Hp := fun b => if b = e then none else H b
theorem drop_ne {H : Hp} {e b : Addr} (h : b ≠ e) : dropH H e b = H b := if_neg h
theorem drop_at {H : Hp} {e : Addr} : dropH H e e = none := if_pos rfl
theorem Inv.drop {X : Cx} {σ : St} {H : Hp} {s : Shared} {e : Addr} {φ : Heap → Prop} (I : Inv X [] σ H s) (he : H e = some (.ext φ)) : Inv X [] σ (dropH H e) s := by
  have key : ∀ b o, H b = some o → (∀ ψ, o ≠ .ext ψ) → dropH H e b = some o := fun b o q n => by
    rw [drop_ne (fun z => by rw [z, he] at q; cases q; exact n _ rfl)]; exact q
  have no : ∀ b, H b = none → dropH H e b = none := fun b q => by
    by_cases z : b = e
    · rw [z]; exact drop_at
    · rw [drop_ne z]; exact q
  refine ⟨I.ok, I.os, I.bare, ⟨I.base.keep, I.base.slot, fun b o q n hx => no b (I.base.free b o q n hx), I.base.there, fun b xs q => key _ _ (I.base.tups b xs q) (by intro ψ z; cases z), fun b o xs q => key _ _ (I.base.frzs b o xs q) (by intro ψ z; cases z), fun b ps q => ?_⟩, I.loc, I.cell, no _ I.free, fun x c q => no _ (I.freeC x c q), fun p hp => ?_, fun b u q => ?_, I.len⟩
  · obtain ⟨m1, e1⟩ := I.base.tbls b ps q
    exact ⟨m1, key _ _ e1 (by intro ψ z; cases z)⟩
  · obtain ⟨q, n, ne, nf, d⟩ := I.pin p hp
    exact ⟨q, no _ n, ne, nf, d⟩
  · by_cases z : b = e
    · rw [z, drop_at] at q; cases q
    · rw [drop_ne z] at q
      exact (I.hok b u q).stay (fun _ _ _ q => q) (fun c q => key _ _ q (by intro ψ z; cases z)) fun c xs q => key _ _ q (by intro ψ z; cases z)
def sp_xinit (C : Addr) (fld : Str) : Sp := fun vs H Q _ => ∃ ex v, vs = [.ref ex, v] ∧ H ex = some (excN ex (.ref C) none) ∧ ∀ dx H', H dx = none → dx ≠ ex → H' ex = some (excN ex (.ref C) (some dx)) → H' dx = some (.xd [(fld, v)]) → (∀ b o, H b = some o → b ≠ ex → H' b = some o) → Q .non H'
structure XcOk (P : Program) (w : World) (K : PySem.W.Frag) (mg : Str → Option Value) (base : Heap) (C : Addr) (k : Nat) (x : Str) (ps : List Str) (fld : Str) : Prop where
  ex : ∃ f fd, FnOk P w K mg base CX0 k f fd ps (sp_xinit C fld) ∧ mg x = some (.ref C) ∧ ExcI K C f fld ∧ Binds K fd ps []
end L2
namespace L2
open PySem PySem.Spec PyProof.Rows
structure Mk0 (K : PySem.W.Frag) (C : Addr) : Prop where
  makes : PySem.W.makesIn K C = true
  init : PySem.W.findIn K (.ref C) "__init__" = some (some (.builtin "object.__init__"))
  kp : PySem.W.keepIn K (.ref C) = true
end L2
namespace L2
open PySem PySem.Spec PyProof.Rows PySem.Builtin PySem.Builtin.Str
structure InsK (K : PySem.W.Frag) (C : Addr) : Prop where
  cl : Cls K C
  ha : PySem.W.findIn K (.ref C) "__class__" = some (some (.builtin "object.__class__"))
  hn : PySem.W.specialIn K (.builtin "object.__class__") "__get__" = some (some (.builtin "getset_descriptor.__get__"))
  htk : PySem.W.takesIn K (.builtin "object.__class__") = some true
  hm : PySem.W.mroIn K C (.type "object") = some true
theorem InsK.ty {K : PySem.W.Frag} {H : Hp} {a C dx : Addr} {fs : List (Str × V)} (h : InsK K C) (e : H a = some (.ins C dx fs)) : TyOf K H (.ref a) (.ref C) := .ins e h.cl h.ha h.hn h.htk h.hm
def slS (x : Str) (lo hi : Option Int) : Str :=
  if ((strSliceIndices lo hi 1 x.length).length == x.length) = true then x else ⟨((strSliceIndices lo hi 1 x.length).filterMap (x.cps[·]?)).toArray⟩
def rSlS : V → Option Int → Option Int → Hp → VK → Prop := fun x lo hi H Q => ∃ z, x = .str z ∧ (slS z lo hi).length ≤ sizeLine ∧ Q (.str (slS z lo hi)) H
theorem sl_str {X : Cx} : SlR X rSlS := by
  intro pins s σ H x v vl vu lo hi sl Q I rx hs pl pu h
  obtain ⟨z, rfl, hz, q⟩ := h
  obtain ⟨t, rfl⟩ := rx
  obtain ⟨l, el, el2⟩ : ∃ l : Option (Int × Tok), vl = partValue l ∧ l.map (·.1) = lo := by
    cases pl with
    | none => exact ⟨none, rfl, rfl⟩
    | int i t => exact ⟨some (i, t), rfl, rfl⟩
  obtain ⟨u, eu, eu2⟩ : ∃ u : Option (Int × Tok), vu = partValue u ∧ u.map (·.1) = hi := by
    cases pu with
    | none => exact ⟨none, rfl, rfl⟩
    | int i t => exact ⟨some (i, t), rfl, rfl⟩
  subst el eu el2 eu2
  have hs' : s.heap.IsSlice sl l u none := hs
  refine ⟨"str", _, F.slot_str_getitem.lookup, typeIs_str _ _ _, wpAny_getItem_str_slice (l := l) (u := u) (st := none) hs' rfl ?_⟩
  unfold slS at q hz
  unfold sliceMade slicePicked
  by_cases c : ((strSliceIndices (l.map (·.1)) (u.map (·.1)) 1 z.length).length == z.length) = true
  · rw [if_pos c] at q
    rw [if_pos (by simpa using c)]
    exact ⟨.str z, H, I, ⟨_, rfl⟩, q⟩
  · rw [if_neg c] at q hz
    rw [if_neg (by simpa using c)]
    exact ⟨hz, ⟨.str _, H, I.tok _, ⟨_, rfl⟩, q⟩⟩
end L2
namespace L2
open PySem PySem.Spec PyProof.Rows PySem.W
end L2
namespace L2
open PySem PySem.Spec PyProof.Rows PySem.W
section
variable {prog : Program} {w : World} {A : Around} {E : Value → Shared → Prop} {s : Shared}
end
section
variable {X : Cx}
end
end L2
namespace L2
open PySem PySem.Spec PyProof.Rows
section
variable {prog : Program} {w : World} {A : Around} {R : Result → Shared → Prop} {I : Addr} {fp wr : List Addr} {n : Nat} {P : Nat → Value → Prop} {St : Nat → Heap → Prop} {K : Type} [DecidableEq K] {knd : KeyKind prog w K}
end
end L2
namespace L2
open PySem PySem.Spec PyProof.Rows
section
variable {prog : Program} {w : World} {A : Around} {E : Value → Shared → Prop} {s : Shared} {K : Type} [DecidableEq K] {knd : KeyKind prog w K}
end
end L2
namespace L2
open PySem PySem.Spec PyProof.Rows
section
variable {X : Cx} {k : Nat} {ps : List Str} {sp : Sp} {dvs : List V} {ds : List Value} {x : Str} {p pos : Pos} {e : Expr} {es : List Expr} {t : TA}
end
end L2
namespace L2
open PySem
end L2
namespace L2
open PySem
def tDNewKN : TE := fun _ H Q => ∀ p H', New H H' p (.dK []) → Q (.ref p) H'
theorem pe_dnewKN {X : Cx} {pos : Pos} : PE X (.Dict [] [] pos) tDNewKN := fun pins s σ H Q I h => pe_dnewK pins s σ H Q I fun p hp => h p _ (new_upd hp)
end L2
namespace L2
open PySem
section
variable {X : Cx}
end
end L2
namespace L2
open PySem PyProof PyProof.Rows
section
variable {X : Cx}
theorem big_ltH : (10 : Nat) ^ 250 < 2 ^ 1000 := by decide +kernel
theorem log2_bigH {j : Int} (h : j.natAbs < 10 ^ 250) : j.natAbs.log2 < 1000 := by
  by_cases h0 : j.natAbs = 0
  · rw [h0]; decide +kernel
  · exact (Nat.log2_lt h0).mpr (Nat.lt_trans h big_ltH)
def CMulH (i j : Int) : Prop := (-(10 ^ 250) < i ∧ i < 10 ^ 250) ∧ (-(10 ^ 250) < j ∧ j < 10 ^ 250)
theorem bits_bigH {j : Int} (h : j.natAbs < 10 ^ 250) : Builtin.Int.intBits j ≤ 1000 := by
  unfold Builtin.Int.intBits
  split
  · exact Nat.zero_le _
  · have := log2_bigH h
    omega
theorem CMulH.ok {i j : Int} (h : CMulH i j) : IntMulOk i j := by
  obtain ⟨⟨h1, h2⟩, h3, h4⟩ := h
  have e1 := bits_bigH (j := i) (by omega)
  have e2 := bits_bigH (j := j) (by omega)
  have e3 : Builtin.Int.intTooBig (Builtin.Int.intBits i + Builtin.Int.intBits j) = false := by
    unfold Builtin.Int.intTooBig
    rw [decide_eq_false]
    have : (bitsLine : Int) = 134217728 := by decide +kernel
    omega
  unfold IntMulOk
  rw [e3]
  simp
end
end L2
namespace L2
open PySem PySem.Calls PySem.NumText PyProof.Rows
section
variable {prog : Program} {w : World} {A : Around} {E : Value → Shared → Prop} {s : Shared} {Q : Value → Shared → Prop} {x : PySem.Str} {t : Tok} {n : Int}
end
end L2
namespace L2
open PySem PySem.Spec PyProof.Rows PySem.Builtin PySem.Builtin.Str
theorem Inv.nodig {X : Cx} {pins : List (Addr × Obj)} {σ : List (Option V)} {H : Hp} {s : Shared} (I : Inv X pins σ H s) : s.heap.NoDigits := I.ok.mod.nodig.keeps I.bk
def S (l : List Nat) : Str := ⟨l.toArray⟩
theorem S_len (l : List Nat) : (S l).length = l.length := by show l.toArray.size = _; simp
theorem S_inj {a b : List Nat} (h : S a = S b) : a = b := by
  have := congrArg (fun x : Str => x.cps.toList) h
  simpa [S] using this
theorem S_cat (a b : List Nat) : S a ++ S b = S (a ++ b) := by
  show (⟨a.toArray ++ b.toArray⟩ : Str) = ⟨(a ++ b).toArray⟩
  simp
theorem call_lenS {X : Cx} : CallR X (.builtin "len") (fun xs H Q => ∃ z, xs = [.str (S z)] ∧ z.length ≤ sizeLine ∧ Q (.int z.length) H) := by
  intro pins s σ H xs us Q I r h
  obtain ⟨z, rfl, hz, q⟩ := h
  exact call_len pins s σ H _ us Q I r ⟨_, _, rfl, ⟨by rw [S_len]; exact hz, rfl⟩, by rw [S_len]; exact q⟩
theorem pe_ixS {X : Cx} {a b : Expr} {ta tb : TE} {pos : Pos} (ha : PE X a ta) (hb : PE X b tb) (hs : PlainIxT b) :
    PE X (.Subscript a b pos) (tOp (fun x y H Q => ∃ z i c, x = .str (S z) ∧ y = .int i ∧ 0 ≤ i ∧ i < 2 ^ 63 ∧ z[i.toNat]? = some c ∧ Q (.str (S [c])) H) ta tb) := by
  intro pins s σ H Q I h
  refine Subscript_ (binT ha hb I h fun v u s2 x y H2 I2 rx ry q => ?_)
  obtain ⟨z, i, c, rfl, rfl, h0, h63, hc, q⟩ := q
  obtain ⟨t, rfl⟩ := rx
  obtain ⟨t', rfl⟩ := ry
  have hl := (List.getElem?_eq_some_iff.mp hc).1
  have e : seqIndex? i (S z).length = some i.toNat := PySem.StrLaws.seqIndex_nonneg h0 (by rw [S_len]; omega)
  exact tail_any (typeIs_str s2 (S z) t) PySem.F.slot_str_getitem.lookup (getItem_str (c := c) (by
    have e1 : decide (i < -(2 ^ 63 : Int)) = false := decide_eq_false (by omega)
    have e2 : decide (i ≥ 2 ^ 63) = false := decide_eq_false (by omega)
    rw [e1, e2] <;> rfl) (by rw [e]; simpa [S] using hc) ⟨.str (S [c]), H2, I2.tok _, ⟨_, rfl⟩, q⟩) (hs _ _)
def Its (x : List Nat) : It := ⟨fun i _ => i < x.length, fun i H v H' => H' = H ∧ ∃ c, x[i]? = some c ∧ v = .str (S [c]), fun i _ => i = x.length⟩
theorem turn_str {P : Program} {w : World} {K : PySem.W.Frag} {tg : Expr} (it : Addr) (x : List Nat) (t : Tok) (ty : String) (hty : ty = "str_ascii_iterator" ∨ ty = "str_iterator") : Turn P w K tg (Its x) [it] it (fun i h => h.IsStrIter it ty (S x) t i) where
  mem := by simp
  obj := fun i h st b hb => by
    have e : b = it := by simpa using hb
    subst e
    obtain ⟨o, e, c, d⟩ := st
    exact ⟨o, e, fun v z => by rw [d] at z; cases z⟩
  keep := fun i h h' st k => by
    obtain ⟨o, ho, r⟩ := st
    exact ⟨o, k it (by simp) o ho, r⟩
  item := by
    intro X hP hw hK hc i pins s σ H E I hf st hg
    subst hP hw hK
    obtain ⟨f0, f1, f2, f3, f4, f5⟩ := hf it (by simp)
    have W : Walks X.prog X.w X.A it [it] [it] (S x).cps.size (SignAt (S x)) (fun i h => h.IsStrIter it ty (S x) t i) := by
      rcases hty with rfl | rfl
      · exact Walks.strAscii (I.ok.hd hc) it (S x) t
      · exact Walks.strWide (I.ok.hd hc) it (S x) t
    refine W.item i s _ _ (by have hg' : i < x.length := hg; show i < x.toArray.size; simpa using hg') st fun v h' tk hv st' kk => ?_
    obtain ⟨c, u, hx, rfl⟩ := hv
    have I1 : Inv X pins σ H { s with heap := h', toks := tk } := I.turned (fun b o hb e => kk b o (by simpa using hb) e) f0 f1 f3 f4 f5
    obtain ⟨o, e, hcl, d⟩ := id st'
    exact ⟨_, rfl, go_of (s := { s with heap := h', toks := tk }) e hcl d (by rcases hty with rfl | rfl <;> decide) ⟨.str (S [c]), H, I1, ⟨u, rfl⟩, ⟨rfl, c, by simpa [S] using hx, rfl⟩, st', fun b hb => (hf b hb).1⟩⟩
  done := by
    intro X hP hw hK hc i pins s σ H E I hf st hg
    subst hP hw hK
    obtain ⟨f0, f1, f2, f3, f4, f5⟩ := hf it (by simp)
    have W : Walks X.prog X.w X.A it [it] [it] (S x).cps.size (SignAt (S x)) (fun i h => h.IsStrIter it ty (S x) t i) := by
      rcases hty with rfl | rfl
      · exact Walks.strAscii (I.ok.hd hc) it (S x) t
      · exact Walks.strWide (I.ok.hd hc) it (S x) t
    have e : i = (S x).cps.size := by
      have h2 : i = x.length := hg
      rw [h2]; show x.length = x.toArray.size; simp
    subst e
    exact W.done s _ _ st fun h' tk kk => ⟨rfl, I.turned (fun b o hb e => kk b o (by simpa using hb) e) f0 f1 f3 f4 f5⟩
  self := fun A i s Q E st h => by
    rcases hty with rfl | rfl
    · exact wpAny_pyIter_striter_ascii st h
    · exact wpAny_pyIter_striter_wide st h
def iStr (tl : TE) : TI := fun σ H R => tl σ H fun x H1 => ∃ z, x = .str (S z) ∧ R (Its z) H1
theorem pi_str {X : Cx} {tg l : Expr} {tl : TE} (hl : PE X l tl) : PI X tg l (iStr tl) := by
  intro pins s σ H R I h
  refine thn (hl pins s σ H _ I h) fun v s1 hq__ => ?_
  obtain ⟨x, H1, I1, r1, q1⟩ := hq__
  obtain ⟨z, e, q⟩ := q1
  subst e
  obtain ⟨t, rfl⟩ := r1
  have fin : ∀ b ∈ [s1.heap.objs.size], FpOk X pins H1 b := fun b hb => by
    have e : b = s1.heap.objs.size := by simpa using hb
    subst e
    exact I1.fpOk (Nat.le_refl _) (I1.hok.fresh (Nat.le_refl _))
  cases ha : (S z).cps.all (· < 128)
  · exact wpAny_pyIter_wide ha ⟨s1.heap.objs.size, [s1.heap.objs.size], _, _, H1, rfl, I1.kept (t' := s1.toks) fun b o e => Heap.get?_push_of_some _ e, turn_str _ z t "str_iterator" (.inr rfl), ⟨_, Heap.get?_push_size _ rfl, rfl, rfl⟩, fin, q⟩
  · exact wpAny_pyIter_ascii ha ⟨s1.heap.objs.size, [s1.heap.objs.size], _, _, H1, rfl, I1.kept (t' := s1.toks) fun b o e => Heap.get?_push_of_some _ e, turn_str _ z t "str_ascii_iterator" (.inl rfl), ⟨_, Heap.get?_push_size _ rfl, rfl, rfl⟩, fin, q⟩
theorem for_str {x : List Nat} {g : TG} {tb : TS} {D : Ends} {σ : St} {H : Hp} (Pv : Nat → St → Hp → Prop) (h0 : Pv 0 σ H)
    (hs : ∀ i c σ H, x[i]? = some c → Pv i σ H → g (.str (S [c])) σ H fun σ2 H2 => tb { D with nx := Pv (i + 1), ct := Pv (i + 1), bk := D.nx } σ2 H2) (hd : ∀ σ H, Pv x.length σ H → D.nx σ H) :
    ∃ W : Nat → Nat → St → Hp → Prop, (∃ m, W 0 m σ H) ∧ ∀ i m σ H, W i m σ H →
      ((Its x).stop i H ∧ D.nx σ H) ∨ ((Its x).go i H ∧ ∃ N : St → Hp → Prop, (∀ σ' H', N σ' H' → ∃ m', m' < m ∧ W (i + 1) m' σ' H') ∧ ∀ v H', (Its x).yld i H v H' → g v σ H' fun σ2 H2 => tb { D with nx := N, ct := N, bk := D.nx } σ2 H2) := by
  refine ⟨fun i m σ H => m = x.length - i ∧ i ≤ x.length ∧ Pv i σ H, ⟨x.length, by simp, Nat.zero_le _, h0⟩, ?_⟩
  rintro i m σ H ⟨rfl, hi, p⟩
  by_cases hlt : i < x.length
  · refine .inr ⟨hlt, Pv (i + 1), fun σ' H' p' => ⟨x.length - (i + 1), by omega, rfl, hlt, p'⟩, fun v H' y => ?_⟩
    obtain ⟨e, c, y, z⟩ := y
    subst e z
    exact hs i c σ _ y p
  · have e : i = x.length := by omega
    subst e
    exact .inl ⟨rfl, hd σ H p⟩
theorem lc_str {x : List Nat} {g : TG} {tc : TT} {te : TE} {Q : VK} {σ : St} {H : Hp} (Pv : Nat → List V → Hp → Prop) (hz : x.length ≤ sizeLine) (h0 : Pv 0 [] H) (hl : ∀ i ys H, Pv i ys H → ys.length ≤ i)
    (hs : ∀ i c ys H, x[i]? = some c → Pv i ys H → g (.str (S [c])) σ H fun σ4 H4 => tc σ4 H4 fun b H5 => if b = true then te σ4 H5 fun v H6 => Pv (i + 1) (ys ++ [v]) H6 else Pv (i + 1) ys H5)
    (hd : ∀ ys H p H', Pv x.length ys H → New H H' p (.lst ys) → Q (.ref p) H') : lcGoal (Its x) Q g tc te σ H := by
  refine ⟨fun i m ys H => m = x.length - i ∧ i ≤ x.length ∧ Pv i ys H, ⟨x.length, by simp, Nat.zero_le _, h0⟩, ?_⟩
  rintro i m ys H2 ⟨rfl, hi, p⟩
  have hy := hl i ys H2 p
  by_cases hlt : i < x.length
  · refine .inr ⟨hlt, by omega, Pv (i + 1), fun zs H' p' => ⟨x.length - (i + 1), by omega, rfl, hlt, p'⟩, fun v H3 y => ?_⟩
    obtain ⟨e, c, y, z⟩ := y
    subst e z
    exact hs i c ys _ y p
  · have e : i = x.length := by omega
    subst e
    exact .inl ⟨rfl, by omega, fun p' hp' => hd ys H2 p' _ p (new_upd hp')⟩
theorem kit_str (K : PySem.W.Frag) : PySem.W.kitOne K (.type "str") (.type "str") = some true := by rfl
theorem op_inS {X : Cx} : OpR X (compareOp .In) (fun x y H Q => ∃ c j, x = .str (S [c]) ∧ y = .str j ∧ Q (.bl (decide (c ∈ j.cps.toList))) H) := by
  intro pins s σ H x y v u Q I rx ry h
  obtain ⟨c, j, rfl, rfl, q⟩ := h
  exact op_in_str pins s σ H _ _ v u Q I rx ry ⟨_, j, rfl, rfl, by rw [show S [c] = ⟨#[c]⟩ from rfl, PySem.StrLaws.found_one]; exact q⟩
theorem op_notinS {X : Cx} : OpR X (compareOp .NotIn) (fun x y H Q => ∃ c j, x = .str (S [c]) ∧ y = .str j ∧ Q (.bl (!decide (c ∈ j.cps.toList))) H) := by
  intro pins s σ H x y v u Q I rx ry h
  obtain ⟨c, j, rfl, rfl, q⟩ := h
  exact op_notin_str pins s σ H _ _ v u Q I rx ry ⟨_, j, rfl, rfl, by rw [show S [c] = ⟨#[c]⟩ from rfl, PySem.StrLaws.found_one]; exact q⟩
theorem sl_mid (x : List Nat) {a b : Nat} (hab : a ≤ b) (hb : b ≤ x.length) {lo hi : Option Int} (h : strSliceIndices lo hi 1 (S x).length = strSliceIndices (some (a : Int)) (some (b : Int)) 1 (S x).length) : slS (S x) lo hi = S ((x.drop a).take (b - a)) := by
  have hb' : b ≤ (S x).length := by rw [S_len]; exact hb
  have e := PySem.StrLaws.sliced_plain (S x) hab hb'
  unfold slS
  rw [h]
  by_cases c : ((strSliceIndices (some (a : Int)) (some (b : Int)) 1 (S x).length).length == (S x).length) = true
  · rw [if_pos c]
    have hl : b - a = x.length := by
      have := eq_of_beq c
      rw [PySem.StrLaws.strSliceIndices_plain hab hb', S_len] at this
      simpa using this
    have h1 : a = 0 := by omega
    rw [h1, List.drop_zero, Nat.sub_zero, List.take_of_length_le (by omega)]
  · rw [if_neg c, e]
    show (⟨_⟩ : Str) = ⟨_⟩
    simp [S]
theorem sl_take (x : List Nat) {k : Nat} (h : k ≤ x.length) : slS (S x) none (some (k : Int)) = S (x.take k) := by
  have e := sl_mid x (Nat.zero_le k) h (lo := none) (hi := some (k : Int)) (by
    unfold strSliceIndices
    have : max (0 : Int) (min (0 : Int) ((S x).length : Int)) = 0 := by omega
    simp [this])
  simpa using e
theorem sl_drop (x : List Nat) (k : Nat) : slS (S x) (some (k : Int)) none = S (x.drop k) := by
  have key : ∀ k : Nat, k ≤ x.length → slS (S x) (some (k : Int)) none = S (x.drop k) := fun k hk => by
    have e := sl_mid x hk (Nat.le_refl _) (lo := some (k : Int)) (hi := none) (by
      rw [S_len]
      unfold strSliceIndices
      have h1 : max (0 : Int) (min (x.length : Int) (x.length : Int)) = x.length := by omega
      have h2 : ¬ (x.length : Int) < 0 := by omega
      simp [h1, h2])
    rw [e, List.take_of_length_le (by simp)]
  by_cases hk : k ≤ x.length
  · exact key k hk
  · have h1 := key x.length (Nat.le_refl _)
    rw [List.drop_eq_nil_of_le (by omega)]
    rw [List.drop_eq_nil_of_le (by omega)] at h1
    rw [← h1]
    unfold slS
    rw [indices_beyond (n := (S x).length) (i := (k : Int)) (by rw [S_len]; omega), S_len]
end L2
namespace L2
open PySem PySem.Spec PyProof.Rows PySem.Builtin PySem.Builtin.Str
def joinL (sep : List Nat) : List (List Nat) → List Nat
  | [] => []
  | [p] => p
  | p :: ps => p ++ sep ++ joinL sep ps
theorem glue_S (sep : List Nat) : ∀ (ps : List (List Nat)) (a : List Nat), (ps.map S).foldl (fun acc p => acc ++ (S sep).cps ++ p.cps) a.toArray = (match ps with | [] => a | _ => a ++ sep ++ joinL sep ps).toArray
  | [], a => rfl
  | [p], a => by
    show (a.toArray ++ sep.toArray ++ p.toArray) = _
    simp [joinL]
  | p :: r :: ps, a => by
    have ih := glue_S sep (r :: ps) (a ++ sep ++ p)
    rw [List.map_cons, List.foldl_cons]
    have e : a.toArray ++ (S sep).cps ++ (S p).cps = (a ++ sep ++ p).toArray := by show a.toArray ++ sep.toArray ++ p.toArray = _; simp
    rw [e, ih]
    simp [joinL]
theorem join_S (sep : List Nat) (ps : List (List Nat)) : PySem.Txt.join (S sep) (ps.map S) = S (joinL sep ps) := by
  unfold PySem.Txt.join glued
  cases ps with
  | nil => rfl
  | cons p ps =>
    show (⟨(ps.map S).foldl (fun acc p => acc ++ (S sep).cps ++ p.cps) p.toArray⟩ : Str) = _
    rw [glue_S]
    cases ps with
    | nil => rfl
    | cons r ps => simp [joinL, S]
def rJoin (K : PySem.W.Frag) (x : V) (vs : List V) (H : Hp) (Q : VK) : Prop := ∃ sep ps p, x = .str (S sep) ∧ vs = [.ref p] ∧ SqL K H p (ps.map fun q => V.str (S q)) ∧ (ps.map List.length).sum + ps.length * sep.length ≤ 1000000 ∧ Q (.str (S (joinL sep ps))) H
theorem strs_are : ∀ {ps : List (List Nat)} {us : List Value}, Vals (ps.map fun q => V.str (S q)) us → StrsAre us (ps.map S)
  | [], _, .nil => .nil
  | p :: ps, _, .cons ⟨t, e⟩ r => by subst e; exact .cons _ _ (strs_are r)
theorem mt_join {X : Cx} : MtR X "str.join" (rJoin X.K) := by
  intro pins s σ H x xs v us Q I rx r h
  obtain ⟨sep, ps, p, rfl, rfl, hq, hz, q⟩ := h
  obtain ⟨t, rfl⟩ := rx
  obtain ⟨u, rfl, ru⟩ := vals1 r
  cases (show u = Value.ref p from ru)
  obtain ⟨its, rv, pl, _⟩ := I.list hq
  refine join_list (ys := ps.map S) pl.isList (by simpa using strs_are rv) ?_ fun t' k => ⟨.str (S (joinL sep ps)), H, I.tok _, ⟨t', by rw [join_S]⟩, q⟩
  have e : ((ps.map S).map (·.length)) = ps.map List.length := by
    rw [List.map_map]
    exact List.map_congr_left fun l _ => S_len l
  rw [e, List.length_map, S_len]
  omega
end L2
namespace L2
open PySem PySem.Spec PyProof.Rows
section
variable {X : Cx} {pins : List (Addr × Obj)} {σ : St} {H : Hp} {s : Shared} {scope : Scope} {cl : List (Str × Addr)} {vars frees : List Str} {fv : List Nat} {elt target iter : Expr} {ifs : List Expr} {pos : Pos}
end
section
variable {X : Cx} {σ : St} {EK : XK} {C : Addr} {k : Nat} {x : Str} {ps : List Str} {ds : List Value} {dvs : List V} {sp : Sp} {e : Expr} {es : List Expr} {t : TA} {p pos : Pos} {Nc : List Str} {scope : Scope} {cl : List (Str × Addr)} {s0 : Shared} {H0 : Hp} {ex : List Addr}
end
end L2
namespace L2
open PySem PySem.Spec PyProof.Rows
theorem strsAre_of : ∀ {ss : List Str} {us : List Value}, Vals (ss.map V.str) us → StrsAre us ss
  | [], _, .nil => .nil
  | s :: ss, _, .cons ⟨t, e⟩ r => by subst e; exact .cons _ _ (strsAre_of r)
theorem vals_strs : ∀ {ss : List Str} {us : List Value}, StrsAre us ss → Vals (ss.map V.str) us
  | _, _, .nil => .nil
  | _, _, .cons y t r => .cons ⟨t, rfl⟩ (vals_strs r)
theorem call_sortedS {X : Cx} : CallR X (.builtin "sorted") (fun xs H Q => ∃ (p : Addr) (ss : List Str), xs = [.ref p] ∧ SqL X.K H p (ss.map V.str) ∧ ss.length < 64 ∧ ∀ (ms : List Str) l H', ms.Perm ss → sortedS ms = true → New H H' l (.lst (ms.map V.str)) → Q (.ref l) H') := by
  intro pins s σ H xs us Q I r h
  obtain ⟨p, ss, rfl, hq, h64, q⟩ := h
  obtain ⟨u, rfl, ru⟩ := vals1 r
  cases (show u = Value.ref p from ru)
  obtain ⟨its, rv, pl, hz⟩ := I.list hq
  have hi : StrsAre its ss := strsAre_of rv
  have hln : its.length = ss.length := by have := rv.length; simpa using this.symm
  refine sorted_strs pl.isList hi (by omega) fun out ms a1 a2 a3 => ?_
  obtain ⟨e, he⟩ := sortedAll_at s.heap its out
  have hl : ms.length ≤ sizeLine := by rw [a2.length_eq]; simpa using hz
  refine ⟨.ref (s.heap.objs.size + 1), upd H (s.heap.objs.size + 1) (.lst (ms.map V.str)), I.laid (t' := s.toks) (fun _ _ => sortedAll_old) (Nat.le_succ _) ⟨by simpa using hl, out.toList, e, vals_strs a1, ?_⟩, rfl, q ms _ _ a2 a3 (new_upd (I.hok.fresh (Nat.le_succ _)))⟩
  rw [he]
end L2
namespace L2
open PySem PySem.Spec PyProof.Rows
theorem su_plain : plainId "set.update.loop" = true := by decide +kernel
theorem su_entry : entryFor table "set.update.loop" = some Builtin.«set.update.loop» := entryFor_of_fast (by kernel_rfl)
theorem su_typeCall (a : Value) : checkTypeCall "set" ⟨[a], []⟩ = pure () := by kernel_rfl
theorem su_newCall (a : Value) : checkBuiltinCall "set.__new__" ⟨[.type "set", a], []⟩ = pure () := by kernel_rfl
section
variable {prog : Program} {w : World} {A : Around} {E : Value → Shared → Prop} {s : Shared}
theorem su_check {M : Model} {self a : Value} {Q : Unit → Shared → Prop} (hT : s.TypeIs self "set") (hQ : Q () s) :
    wpAny M A (checkBuiltinCall "set.__init__" ⟨[self, a], []⟩) Q E s := by
  simp only [checkBuiltinCall, kind_set_init, split_set_init, sig_set_init]
  refine wpAny_bind (wpAny_isInstance hT sub_set_self ?_)
  simp only [Bool.not_true, Bool.false_eq_true, if_false]
  unfold Bind.checkArgs
  dsimp only
  refine wpAny_bind (m := Bind.printed "set" true _ _) (PyProof.Rows.printed_name (by decide) ?_)
  refine wpAny_bind (m := Bind.printed "*" false _ _) (PyProof.Rows.printed_star (self := self) rfl hT fun short => ?_)
  have hrn : (Manifest.Receiver.self == Manifest.Receiver.none) = false := by decide
  have hn : (if (Manifest.Receiver.self == Manifest.Receiver.none) = true then [self, a].length else [self, a].length - 1) = 1 := by simp [hrn]
  rw [hn]
  simp only [List.map_nil]
  have hc : Bind.check ⟨.positional, "set", "*", .self, [⟨"iterable", .posOnly, false⟩]⟩ "set" short 1 [] = pure () := by
    simp [Bind.check, Bind.checkCount, Bind.isPositional]
    intro h
    exact absurd h (by decide)
  rw [hc]
  exact wpAny_pure hQ
theorem su_new (a : Value) {Q₁ : Value → Shared → Prop}
    (h : ∀ led : Bool, Q₁ (.ref s.heap.objs.size) { s with heap := s.heap.push { cls := .type "set", dict := none, data := .set #[] 0 (.fresh 0 0 led) } }) :
    codeAny (model prog w) A (.call (.builtin "set.__new__") ⟨[.type "set", a], []⟩) (wants Q₁ E) s := by
  refine codeAny_of_tree ?_
  show wpAny _ A.in1 (do checkBuiltinCall "set.__new__" ⟨[.type "set", a], []⟩; again (.builtin "set.__new__" ⟨[.type "set", a], []⟩)) _ _ s
  refine wpAny_bind (wpAny_of_eq (su_newCall a) (wpAny_pure ⟨plainId_quiet F.plain_set_new _, codeAny_builtin F.entry_set_new ?_⟩))
  rw [Around.under_plainId F.plain_set_new _]
  unfold Builtin.«set.__new__» Builtin.Frozenset.newClass
  have hsub := sub_set_self
  obtain ⟨hp, g, d, tk, os⟩ := s
  dsimp only
  wp_walk
  refine wpAny_askSetting (wpAny_pure ?_)
  dsimp only
  simp only [newObj]
  refine wpAny_bind (wpAny_alloc (wpAny_pure ?_))
  exact wpAny_pure (h _)
end
section
variable {prog : Program} {w : World} {A : Around} {R : Result → Shared → Prop} {I : Addr} {fp wr : List Addr} {n : Nat} {P : Nat → Value → Prop} {St : Nat → Heap → Prop} {K : Type} [DecidableEq K] {knd : KeyKind prog w K}
def sizeU : List K → Nat
  | [] => 0
  | k :: l => if k ∈ l then sizeU l else sizeU l + 1
theorem sizeU_le (l : List K) : sizeU l ≤ l.length := by
  induction l with
  | nil => exact Nat.le_refl _
  | cons k l ih => unfold sizeU; split <;> simp <;> omega
theorem su_loop (W : Walks prog w A.in1 I fp wr n P St) (D : Addr) (hDf : D ∉ fp) (rs : List K) (hn : n ≤ 1000)
    (hP : ∀ i v, P i v → ∃ k, knd.is k v = true ∧ v.scannable = true ∧ rs[i]? = some k) (hl : rs.length = n) :
    ∀ (k i : Nat) (s : Shared) (m : Nat), n - i = k → i ≤ n → St i s.heap → s.heap.SetOf knd D (fun q => decide (q ∈ (rs.take i).reverse)) m → m = sizeU (rs.take i).reverse →
    (∀ h' tk, h'.SetOf knd D (fun q => decide (q ∈ rs.reverse)) (sizeU rs.reverse) → (∀ b o, b ∉ wr → b ≠ D → s.heap.get? b = some o → h'.get? b = some o) → R (.ok (.ret .none)) { s with heap := h', toks := tk }) →
    codeAny (model prog w) A (.builtin "set.update.loop" ⟨[.ref D, .ref I], []⟩) R s := by
  have hDw : D ∉ wr := fun h => hDf (W.sub _ h)
  intro k
  induction k with
  | zero =>
    intro i s m hk hi hst hd hm hR
    have hin : i = n := by omega
    subst hin
    rw [← hl, List.take_length] at hd hm
    refine codeAny_builtin su_entry ?_
    rw [Around.under_plainId su_plain _]
    show wpAny _ A.in1 (pyNext (.ref I) >>= _) _ _ s
    refine wpAny_bind (W.done s _ _ hst fun h' tk hm' => ?_)
    refine wpAny_pure (hR h' tk ?_ fun b o hb _ e => hm' b o hb e)
    obtain ⟨o, es, ep, t, ho, r⟩ := hd
    exact ⟨o, es, ep, t, hm' D o hDw ho, hm ▸ r⟩
  | succ k ih =>
    intro i s m hk hi hst hd hm hR
    have hlt : i < n := by omega
    refine codeAny_builtin su_entry ?_
    rw [Around.under_plainId su_plain _]
    show wpAny _ A.in1 (pyNext (.ref I) >>= _) _ _ s
    refine wpAny_bind (W.item i s _ _ hlt hst fun v h' tk hp hst' hmk => ?_)
    obtain ⟨kk, hkey, hsc, hrs⟩ := hP i v hp
    obtain ⟨o1, es, ep, t, ho1, rr⟩ := hd
    have hd' : h'.SetOf knd D (fun q => decide (q ∈ (rs.take i).reverse)) m := ⟨o1, es, ep, t, hmk D o1 hDw ho1, rr⟩
    have ml : m ≤ 1000 := by
      have := sizeU_le (rs.take i).reverse
      rw [List.length_reverse, List.length_take] at this
      omega
    show wpAny _ A.in1 (holding [v] _ >>= _) _ _ _
    refine wpAny_bind (wpAny_holding ?_)
    unfold setAdd
    refine wpAny_holding (wpAny_bind (knd.pyHash hkey ?_))
    refine wpAny_setAddHashed_of (s := { s with heap := h', toks := _ }) hkey hsc hd' (by unfold scanBound; omega) fun h2 hs2 hd2 => ?_
    have et : rs.take (i + 1) = rs.take i ++ [kk] := by rw [List.take_succ, hrs]; rfl
    refine wpAny_pure ⟨plainId_quiet su_plain _, ih (i + 1) _ _ (by omega) hlt (W.frame _ _ _ hst' fun b hb o e => ?_) ?_ rfl fun h3 tk3 hd3 hk3 => ?_⟩
    · exact (hs2.2 b (fun h : b = D => hDf (by rw [← h]; exact hb))).trans e
    · rw [et]
      have e1 : (fun q => decide (q ∈ (rs.take i ++ [kk]).reverse)) = (fun k' => decide (k' ∈ (rs.take i).reverse) || decide (k' = kk)) := by
        funext q
        simp [Bool.or_comm]
      have e2 : sizeU (rs.take i ++ [kk]).reverse = (if decide (kk ∈ (rs.take i).reverse) = true then m else m + 1) := by
        rw [List.reverse_append, hm]
        show sizeU (kk :: (rs.take i).reverse) = _
        unfold sizeU
        by_cases e : kk ∈ (rs.take i).reverse
        · rw [if_pos e, if_pos (decide_eq_true e)]
          cases hq : (rs.take i).reverse <;> rfl
        · rw [if_neg e, if_neg (by simpa using e)]
          cases hq : (rs.take i).reverse <;> rfl
      rw [e1, e2]
      exact hd2
    · exact hR h3 tk3 hd3 fun b o hb hbD e => hk3 b o hb hbD ((hs2.2 b hbD).trans (hmk b o hb e))
end
section
variable {prog : Program} {w : World} {A : Around} {E : Value → Shared → Prop} {s : Shared} {K : Type} [DecidableEq K] {knd : KeyKind prog w K}
theorem su_notSet {p : Addr} {Q : Bool → Shared → Prop} (hT : s.TypeIs (.ref p) "list") (h : Q false s) : wpAny (model prog w) A (Builtin.Frozenset.isAnySet (.ref p)) Q E s := by
  have f1 := F.sub_list_set
  have f2 := F.sub_list_frozenset
  unfold Builtin.Frozenset.isAnySet
  wp_walk
  exact h
theorem su_from {id : String} {D p : Addr} {its : List Value} {rs : List K} {Q : Unit → Shared → Prop} (hl : PlainL s.heap p its.toArray) (hpD : p ≠ D) (hA : A.handled = none) (hn : its.length ≤ 1000) (hlen : rs.length = its.length)
    (hP : ∀ (i : Nat) v, its[i]? = some v → ∃ k, knd.is k v = true ∧ v.scannable = true ∧ rs[i]? = some k) (hD : s.heap.SetOf knd D (fun _ => false) 0)
    (h : ∀ h' tk, h'.SetOf knd D (fun q => decide (q ∈ rs.reverse)) (sizeU rs.reverse) → (∀ b o, b ≠ D → s.heap.get? b = some o → h'.get? b = some o) → Q () { s with heap := h', toks := tk }) :
    wpAny (model prog w) A (Builtin.Frozenset.updateFrom id D (.ref p)) Q E s := by
  obtain ⟨ol, nl, e1, e2, e3, e4⟩ := hl
  have hpl : p < s.heap.objs.size := Heap.lt_size e1
  have hT : s.TypeIs (.ref p) "list" := ⟨ol, e1, e2⟩
  have hDl : D < s.heap.objs.size := by obtain ⟨o, _, _, _, ho, _⟩ := hD; exact Heap.lt_size ho
  unfold Builtin.Frozenset.updateFrom
  refine wpAny_bind (su_notSet hT ?_)
  rw [if_neg (by decide)]
  refine wpAny_bind (wpAny_typeOf hT ?_)
  rw [if_neg (by decide)]
  refine wpAny_bind (wpAny_pyIter_list (PlainL.isList ⟨ol, nl, e1, e2, e3, e4⟩) ?_)
  have W := Walks.list (prog := prog) (w := w) (A := A.in1) hA s.heap.objs.size p (Nat.ne_of_lt hpl) its.toArray
  have keep : ∀ b o, s.heap.get? b = some o → (s.heap.push { cls := Value.type "list_iterator", data := Data.fields #[Value.ref p, Value.int 0 0] }).get? b = some o := fun b o q => Heap.get?_push_of_some _ q
  refine wpAny_bind (wpAny_runValue (su_loop (A := A) (knd := knd) W D ?_ rs (by simpa using hn) (fun i v q => ?_) (by simpa using hlen) _ 0 _ 0 rfl (Nat.zero_le _) ⟨⟨_, Heap.get?_push_size _ rfl, rfl, rfl⟩, ?_⟩ ?_ rfl fun h' tk hd' hk => wpAny_pure ?_))
  · intro hm
    simp only [List.mem_cons, List.not_mem_nil, or_false] at hm
    rcases hm with e | e
    · exact absurd e (Nat.ne_of_lt hDl)
    · exact absurd e.symm hpD
  · exact hP i v (by simpa using q)
  · exact PlainL.isList ⟨ol, nl, keep _ _ e1, e2, e3, e4⟩
  · obtain ⟨o, es, ep, t, ho, r⟩ := hD
    exact ⟨o, es, ep, t, keep _ _ ho, r⟩
  · refine h h' tk hd' fun b o hb q => ?_
    have lt := Heap.lt_size q
    exact hk b o (fun hm => absurd (List.mem_singleton.mp hm) (Nat.ne_of_lt lt)) hb (keep b o q)
theorem su_call {p : Addr} {its : List Value} {rs : List K} {Q : Value → Shared → Prop} (hl : PlainL s.heap p its.toArray) (hA : A.handled = none) (hn : its.length ≤ 1000) (hlen : rs.length = its.length)
    (hP : ∀ (i : Nat) v, its[i]? = some v → ∃ k, knd.is k v = true ∧ v.scannable = true ∧ rs[i]? = some k)
    (h : ∀ h' tk, h'.SetOf knd s.heap.objs.size (fun q => decide (q ∈ rs.reverse)) (sizeU rs.reverse) → (∀ b o, s.heap.get? b = some o → h'.get? b = some o) → Q (.ref s.heap.objs.size) { s with heap := h', toks := tk }) :
    wpAny (model prog w) A (call (.type "set") [.ref p]) Q E s := by
  obtain ⟨c, tl, hmro⟩ := F.called_set.mro
  have hmade := F.called_set.made
  have hsub := F.called_set.sub
  refine wpAny_call (codeAny_of_tree ?_)
  show wpAny _ _ (callAny (.type "set") _) _ _ _
  refine wpAny_pure ⟨Code.quiet_builtin _ (by decide +kernel), codeAny_builtin F.entry_type_call ?_⟩
  rw [Around.under_plain (weight_type_call_type "set" [.ref p] []) rfl]
  have h1 := F.called_set.notType
  have h2 := F.called_set.canCreate
  have hct := su_typeCall (.ref p)
  repeat (any_goals (first | assumption | wp_step))
  refine codeAny_mono (su_new (E := E) (.ref p) (Q₁ := fun obj s₁ => ∃ led : Bool, obj = .ref s.heap.objs.size ∧ s₁ = { s with heap := s.heap.push { cls := .type "set", dict := none, data := .set #[] 0 (.fresh 0 0 led) } }) fun led => ⟨led, rfl, rfl⟩) fun r s₁ hr => ?_
  cases r with
  | error e => exact hr
  | ok fl =>
    cases fl with
    | ret obj =>
      obtain ⟨led, rfl, rfl⟩ := hr
      have hS : (s.heap.push { cls := .type "set", dict := none, data := .set #[] 0 (.fresh 0 0 led) }).get? s.heap.objs.size = some { cls := .type "set", dict := none, data := .set #[] 0 (.fresh 0 0 led) } := Heap.get?_push_size _ rfl
      have hT : Shared.TypeIs { s with heap := s.heap.push { cls := .type "set", dict := none, data := .set #[] 0 (.fresh 0 0 led) } } (.ref s.heap.objs.size) "set" := ⟨_, hS, rfl⟩
      have hli := F.called_set.init.lookup
      have hbi := F.called_set.init.bind (.ref s.heap.objs.size)
      repeat (any_goals (first | assumption | wp_step))
      refine codeAny_mono (codeAny_call_builtin (R := wants (fun r s₂ => r = .none ∧ Q (.ref s.heap.objs.size) s₂) E) F.called_set.init.plain F.entry_set_init (su_check hT ?_)) fun r₂ s₂ hr₂ => ?_
      · unfold Builtin.«set.__init__» noKeywords
        have hl' : PlainL (s.heap.push { cls := .type "set", dict := none, data := .set #[] 0 (.fresh 0 0 led) }) p its.toArray := by
          obtain ⟨ol, nl, e1, e2, e3, e4⟩ := hl
          exact ⟨ol, nl, Heap.get?_push_of_some _ e1, e2, e3, e4⟩
        have hpD : p ≠ s.heap.objs.size := by
          obtain ⟨ol, nl, e1, e2, e3, e4⟩ := hl
          exact Nat.ne_of_lt (Heap.lt_size e1)
        have hnew : (s.heap.push { cls := .type "set", dict := none, data := .set #[] 0 (.fresh 0 0 led) }).SetOf knd s.heap.objs.size (fun _ => false) 0 := (setObjOf_fresh (knd := knd) led).setOf hS (by decide)
        repeat (any_goals (first | (refine su_from hl' hpD hA hn hlen hP hnew (fun h' tk hd hk => ?_)) | assumption | wp_step))
        exact ⟨rfl, h h' tk hd fun b o q => hk b o (Nat.ne_of_lt (Heap.lt_size q)) (Heap.get?_push_of_some _ q)⟩
      · cases r₂ with
        | error e => exact hr₂
        | ok fl₂ =>
          cases fl₂ with
          | ret r =>
            obtain ⟨rfl, hq⟩ := hr₂
            repeat (any_goals (first | assumption | wp_step))
          | _ => exact hr₂.elim
    | _ => exact hr.elim
end
def SetN (a : Addr) (n : Nat) : HO := .ext fun h => ∃ o es ep t, h.get? a = some o ∧ o.ExactSet ∧ o.data = .set es ep t ∧ t.fits es.size = true ∧ es.size = n
theorem su_strs : ∀ {ss : List Str} {us : List Value}, Vals (ss.map V.str) us → ss.length = us.length ∧ ∀ (i : Nat) v, us[i]? = some v → ∃ k t, v = .str k t ∧ ss[i]? = some k
  | [], _, .nil => ⟨rfl, fun i v h => by simp at h⟩
  | x :: ss, _, .cons ⟨t, e⟩ r => by
    subst e
    obtain ⟨h1, h2⟩ := su_strs r
    refine ⟨by simp [h1], fun i v h => ?_⟩
    cases i with
    | zero => cases h; exact ⟨x, t, rfl, rfl⟩
    | succ i => exact h2 i v h
theorem call_setS {X : Cx} (hc : X.calm = true) : CallR X (.type "set") (fun xs H Q => ∃ (p : Addr) (ss : List Str), xs = [.ref p] ∧ SqL X.K H p (ss.map V.str) ∧ ss.length ≤ 1000 ∧ ∀ a H', New H H' a (SetN a (sizeU ss.reverse)) → Q (.ref a) H') := by
  intro pins s σ H xs us Q I r h
  obtain ⟨p, ss, rfl, hq, hz, q⟩ := h
  obtain ⟨u, rfl, ru⟩ := vals1 r
  cases (show u = Value.ref p from ru)
  obtain ⟨its, rv, pl, _⟩ := I.list hq
  obtain ⟨hl, hP⟩ := su_strs rv
  refine su_call (knd := PySem.strKind X.prog X.w) pl (I.ok.hd hc) (by omega) hl (fun i v e => ?_) fun h' tk hd hk' => ?_
  · obtain ⟨k, t, rfl, e'⟩ := hP i v e
    exact ⟨k, by simp [PySem.strKind, Value.isStrOf], rfl, e'⟩
  · obtain ⟨o, es, ep, t, ho, hex, hdt, _, _, _, hf, hn⟩ := hd
    refine ⟨.ref s.heap.objs.size, _, I.laid (a := s.heap.objs.size) (o := SetN s.heap.objs.size (sizeU ss.reverse)) (h' := h') (t' := tk) hk' (Nat.le_refl _) ?_, rfl, q _ _ (new_upd (I.hok.fresh (Nat.le_refl _)))⟩
    refine ⟨⟨o, es, ep, t, ho, hex, hdt, hf, hn⟩, ⟨o, ho⟩, fun h1 h2 x y => ?_⟩
    obtain ⟨o, es, ep, t, ho, r⟩ := x
    exact ⟨o, es, ep, t, y _ ho, r⟩
theorem call_lenU {X : Cx} : CallR X (.builtin "len") (fun xs H Q => ∃ (a : Addr) (n : Nat), xs = [.ref a] ∧ H a = some (SetN a n) ∧ n ≤ 1000 ∧ Q (.int n) H) := by
  intro pins s σ H xs us Q I r h
  obtain ⟨a, n, rfl, ha, hz, q⟩ := h
  obtain ⟨u, rfl, ru⟩ := vals1 r
  cases (show u = Value.ref a from ru)
  obtain ⟨⟨o, es, ep, t, ho, hex, hdt, hf, hn⟩, _⟩ := I.hok a _ ha
  refine call_len_set ho hex hdt hf (by omega) ?_
  exact ⟨.int n, H, I.tok (s.toks + 1 + 1), ⟨_, by rw [hn]⟩, q⟩
theorem bt_set : bootBuiltins "set" = some (.type "set") := by decide +kernel
end L2
namespace L2
open PySem PySem.Spec PyProof.Rows
def leT (a b : List Nat) : Bool := decide (¬ b < a)
def sortT (l : List (List Nat)) : List (List Nat) := l.mergeSort leT
theorem leT_trans (a b c : List Nat) (h1 : leT a b = true) (h2 : leT b c = true) : leT a c = true := by
  unfold leT at *
  have h1 := of_decide_eq_true h1
  have h2 := of_decide_eq_true h2
  exact decide_eq_true (List.le_trans h1 h2)
theorem leT_total (a b : List Nat) : (leT a b || leT b a) = true := by
  unfold leT
  rcases List.le_total a b with h | h
  · rw [show decide (¬ b < a) = true from decide_eq_true h]; rfl
  · rw [show decide (¬ a < b) = true from decide_eq_true h, Bool.or_true]
theorem leT_anti {a b : List Nat} (h1 : leT a b = true) (h2 : leT b a = true) : a = b := List.le_antisymm (of_decide_eq_true h1) (of_decide_eq_true h2)
theorem sortT_perm (l : List (List Nat)) : (sortT l).Perm l := List.mergeSort_perm l leT
theorem sortT_pw (l : List (List Nat)) : (sortT l).Pairwise (fun a b => leT a b = true) := List.pairwise_mergeSort leT_trans leT_total l
theorem uniqT : ∀ {a b : List (List Nat)}, a.Perm b → a.Pairwise (fun a b => leT a b = true) → b.Pairwise (fun a b => leT a b = true) → a = b
  | [], b, p, _, _ => p.nil_eq
  | x :: a, [], p, _, _ => absurd p.symm.nil_eq (by simp)
  | x :: a, y :: b, p, h1, h2 => by
    have h1' := List.pairwise_cons.mp h1
    have h2' := List.pairwise_cons.mp h2
    have e : x = y := by
      rcases List.mem_cons.mp (p.mem_iff.mp (List.mem_cons_self (a := x) (l := a))) with e | e
      · exact e
      · rcases List.mem_cons.mp (p.symm.mem_iff.mp (List.mem_cons_self (a := y) (l := b))) with e' | e'
        · exact e'.symm
        · exact leT_anti (h1'.1 y e') (h2'.1 x e)
    subst e
    rw [uniqT (List.Perm.cons_inv p) h1'.2 h2'.2]
theorem sortT_of {a b : List (List Nat)} (p : a.Perm b) (h : a.Pairwise (fun a b => leT a b = true)) : a = sortT b := uniqT (p.trans (sortT_perm b).symm) h (sortT_pw b)
theorem pw_rising : ∀ (x : List Nat) (l : List (List Nat)), risingS (S x) (l.map S) = true → (x :: l).Pairwise (fun a b => leT a b = true)
  | x, [], _ => List.pairwise_singleton ..
  | x, y :: l, h => by
    have h : (!ltCps (S y).cps.toList (S x).cps.toList && risingS (S y) (l.map S)) = true := h
    rw [Bool.and_eq_true] at h
    have t := pw_rising y l h.2
    have e : leT x y = true := by
      have h1 := h.1
      rw [ltCps_eq] at h1
      unfold leT S at *
      simpa using h1
    refine List.pairwise_cons.mpr ⟨fun z hz => ?_, t⟩
    rcases List.mem_cons.mp hz with rfl | hz
    · exact e
    · exact leT_trans _ _ _ e ((List.pairwise_cons.mp t).1 z hz)
theorem pw_sortedS : ∀ {l : List (List Nat)}, sortedS (l.map S) = true → l.Pairwise (fun a b => leT a b = true)
  | [], _ => .nil
  | x :: l, h => pw_rising x l h
theorem S_of (x : Str) : S x.cps.toList = x := by unfold S; simp
theorem sort_out {ss : List (List Nat)} {ms : List Str} (p : ms.Perm (ss.map S)) (h : sortedS ms = true) : ms = (sortT ss).map S := by
  have e : ms = (ms.map fun x => x.cps.toList).map S := by
    rw [List.map_map]
    conv => lhs; rw [← List.map_id ms]
    exact List.map_congr_left fun x _ => (S_of x).symm
  have e2 : (ss.map S).map (fun x => x.cps.toList) = ss := by
    rw [List.map_map]
    conv => rhs; rw [← List.map_id ss]
    exact List.map_congr_left fun x _ => by show (S x).cps.toList = x; unfold S; simp
  rw [e] at h
  have p' := p.map (fun x => x.cps.toList)
  rw [e2] at p'
  rw [e, sortT_of p' (pw_sortedS h)]
theorem call_sortedTx {X : Cx} : CallR X (.builtin "sorted") (fun xs H Q => ∃ (p : Addr) (ss : List (List Nat)), xs = [.ref p] ∧ SqL X.K H p (ss.map fun q => V.str (S q)) ∧ ss.length < 64 ∧ ∀ l H', New H H' l (.lst ((sortT ss).map fun q => V.str (S q))) → Q (.ref l) H') := by
  intro pins s σ H xs us Q I r h
  obtain ⟨p, ss, rfl, hq, h64, q⟩ := h
  refine call_sortedS pins s σ H _ us Q I r ⟨p, ss.map S, rfl, by rw [List.map_map]; exact hq, by simpa using h64, fun ms l H' h1 h2 n => q l H' ?_⟩
  rw [sort_out h1 h2, List.map_map] at n
  exact n
section
variable {X : Cx}
theorem kv_keys {P : Program} {w : World} : ∀ {kvs : List (Key × V)} {vs : List (Key × Value)} {es : List DictEntry}, KV kvs vs → PySem.Pairs (mixKind P w) es vs → kvs.length = es.length ∧ ∀ (i : Nat) k v, kvs[i]? = some (k, v) → ∃ e, es[i]? = some e ∧ RelV (kV k) e.key ∧ RelV v e.val
  | _, _, _, .nil, .nil => ⟨rfl, fun i k v h => by simp at h⟩
  | _, _, _, .cons (a := p) (b := q) ⟨h1, h2⟩ t, .cons (e := e) hk hv r => by
    obtain ⟨hl, at_⟩ := kv_keys t r
    refine ⟨by simp [hl], fun i k v h => ?_⟩
    cases i with
    | zero =>
      cases h
      refine ⟨e, rfl, ?_, ?_⟩
      · subst h1
        rcases keyIs_shape hk with ⟨i, t, e1, e2⟩ | ⟨x, t, e1, e2⟩
        · rw [e1, e2]; exact ⟨t, rfl⟩
        · rw [e1, e2]; exact ⟨t, rfl⟩
      · rw [hv]; exact h2
    | succ i => exact at_ i k v h
theorem vals_ix : ∀ {xs : List V} {us : List Value}, xs.length = us.length → (∀ (i : Nat) x v, xs[i]? = some x → us[i]? = some v → RelV x v) → Vals xs us
  | [], [], _, _ => .nil
  | [], _ :: _, h, _ => by simp at h
  | _ :: _, [], h, _ => by simp at h
  | x :: xs, u :: us, h, g => .cons (g 0 x u rfl rfl) (vals_ix (by simpa using h) fun i y v hy hv => g (i + 1) y v hy hv)
theorem call_sortedDTx (hc : X.calm = true) : CallR X (.builtin "sorted") (fun xs H Q => ∃ (a : Addr) (kvs : List (Key × V)) (ss : List (List Nat)), xs = [.ref a] ∧ Rd H a (.dK kvs) ∧ kvs.map (·.1) = ss.map (fun q => Sum.inr (S q)) ∧ ss.length < 64 ∧ ∀ l H', New H H' l (.lst ((sortT ss).map fun q => V.str (S q))) → Q (.ref l) H') := by
  intro pins s σ H xs us Q I r h
  obtain ⟨a, kvs, ss, rfl, ha, ek, h64, q⟩ := h
  obtain ⟨u, rfl, rx⟩ := vals1 r
  cases (show u = Value.ref a from rx)
  obtain ⟨hz, lo, vs, kt, o, es, ep, e1, e2, e3, ek', e4, _⟩ := dk_rd I.hok ha
  have hR : RawD s.heap a es ep := ⟨o, e1, e2, e3⟩
  obtain ⟨hl, at_⟩ := kv_keys kt e4
  have hl : kvs.length = es.size := by simpa using hl
  have lk : kvs.length = ss.length := by have := congrArg List.length ek; simpa using this
  refine Calls.call_function_entry kind_sorted plain_sorted entry_sorted (args_sorted1 _) ?_
  unfold Builtin.«sorted»; refine wpAny_bind (m := checkCount "sorted" 1 1 _) (wpAny_pure ?_)
  refine wpAny_bind (PySem.W.kdu_collect (rd_src lo) (I.ok.hd hc) hR (by rw [sizeLine_eq]; omega) fun h' tk acc hk hacc => ?_)
  have hlen : acc.toList.length = ss.length := by rw [Array.length_toList, hacc.1]; omega
  have rv : Vals ((ss.map S).map V.str) acc.toList := by
    refine vals_ix (by simpa using hlen.symm) fun i x v hx hv => ?_
    obtain ⟨e, he, hve⟩ := hacc.2 i v (by rw [← Array.getElem?_toList]; exact hv)
    have hi : i < kvs.length := by have := (List.getElem?_eq_some_iff.mp hv).1; omega
    obtain ⟨e', he', hk', _⟩ := at_ i kvs[i].1 kvs[i].2 (by rw [List.getElem?_eq_getElem hi])
    rw [Array.getElem?_toList, he] at he'
    cases he'
    have e5 : (kvs.map (·.1))[i]? = some kvs[i].1 := by simp [hi]
    rw [ek, List.getElem?_map] at e5
    rw [List.map_map, List.getElem?_map] at hx
    cases hq : ss[i]? with
    | none => rw [hq] at hx; cases hx
    | some z =>
      rw [hq] at hx e5
      cases hx
      have e6 := Option.some.inj e5
      rw [← e6] at hk'
      rw [hve]
      exact hk'
  have hS : StrsAre acc.toList (ss.map S) := strsAre_of rv
  have I' : Inv X pins σ H { s with heap := h', toks := tk } := I.kept hk
  refine wpAny_bind (wpAny_newList ?_ (by rw [hlen, sizeLine_eq]; omega))
  have hoL : (h'.push (seqObj "list" acc.toList.toArray 0)).get? h'.objs.size = some (seqObj "list" acc.toList.toArray 0) := Heap.get?_push_size _ rfl
  refine wpAny_bind (wpAny_holding (wpAny_call_entry slot_list_sort ⟨_, hoL, rfl⟩ entry_list_sort (list_sort_treeK (s := { s with heap := h'.push (seqObj "list" acc.toList.toArray 0), toks := tk }) strKind_oneLt hoL hS.keysOf (fun v₁ v₂ rest e => keyKind_strs (by rw [← e]; exact hS)) (by omega) fun st' a1 a2 => ⟨_, rfl, ?_⟩) (args_list_sort _)))
  refine wpAny_pure ⟨_, rfl, ?_⟩
  obtain ⟨ms, m1, m2, m3⟩ := sorted_out_str hS a1 a2
  have em := sort_out m2 m3
  subst em
  obtain ⟨c, hat⟩ : ∃ c, (sortedHeap (h'.push (seqObj "list" acc.toList.toArray 0)) h'.objs.size acc.toList ((arrOf st').map (·.2))).get? h'.objs.size = some (seqObj "list" ((arrOf st').map (·.2)) c) := sortedHeap_at hoL
  have kp : ∀ b ob, h'.get? b = some ob → (sortedHeap (h'.push (seqObj "list" acc.toList.toArray 0)) h'.objs.size acc.toList ((arrOf st').map (·.2))).get? b = some ob := fun b ob hb => by
    have lb := Heap.lt_size hb
    rw [sortedHeap_old (Nat.ne_of_lt lb) (by rw [size_push']; exact Nat.lt_succ_of_lt lb)]
    exact Heap.get?_push_of_some _ hb
  have hl2 : ((sortT ss).map S).length ≤ sizeLine := by rw [List.length_map, (sortT_perm ss).length_eq, sizeLine_eq]; omega
  have vv := vals_strs m1
  rw [List.map_map] at vv
  exact ⟨.ref h'.objs.size, upd H h'.objs.size (.lst ((sortT ss).map fun q => V.str (S q))), I'.laid (t' := tk) kp (Nat.le_refl _) ⟨by simpa using hl2, _, c, vv, by rw [hat]⟩, rfl, q _ _ (new_upd (I'.hok.fresh (Nat.le_refl _)))⟩
def rInsertN : V → List V → Hp → VK → Prop := fun x vs H Q => ∃ (l : Addr) (xs : List V) (i : Nat) (y : V), x = .ref l ∧ vs = [.int i, y] ∧ H l = some (.lst xs) ∧ i ≤ xs.length ∧ xs.length ≤ 1000 ∧ ∀ H', But l H H' → H' l = some (.lst (xs.take i ++ y :: xs.drop i)) → Q .non H'
theorem vals_take : ∀ {xs : List V} {us : List Value} (i : Nat), Vals xs us → Vals (xs.take i) (us.take i)
  | _, _, 0, _ => by simp; exact .nil
  | _, _, i + 1, .nil => by simp; exact .nil
  | _, _, i + 1, .cons r t => .cons r (vals_take i t)
theorem vals_drop : ∀ {xs : List V} {us : List Value} (i : Nat), Vals xs us → Vals (xs.drop i) (us.drop i)
  | _, _, 0, r => r
  | _, _, i + 1, .nil => by simp; exact .nil
  | _, _, i + 1, .cons r t => vals_drop i t
theorem mt_insertN : MtM X "list.insert" rInsertN := by
  intro pins s σ H x vs v us Q I rx rv h
  obtain ⟨l, xs, i, y, rfl, rfl, hH, hi, hz, q⟩ := h
  cases rx
  obtain ⟨u1, u2, rfl, r1, r2⟩ := Vals.two rv
  obtain ⟨t, rfl⟩ := r1
  obtain ⟨z, its, n, r, hl, e⟩ := I.lstM hH
  have fits : Builtin.List.listFitsIndex (i : Int) = true := by
    unfold Builtin.List.listFitsIndex
    simp
    omega
  have kk : ∀ xs : Array Value, (if (i : Int) < 0 then ((i : Int) + ((xs.size : Nat) : Int)).toNat else min (i : Int).toNat xs.size) = min i xs.size := fun xs => by rw [if_neg (by omega)]; simp
  generalize (i : Int) = x at fits kk
  have m1 : ¬ (!Builtin.List.listFitsIndex x) = true := by simp [fits]
  have m2 : its.toArray.size ≤ sizeLine := by rw [List.size_toArray, ← hl]; exact z
  refine call_meets PySem.F.slot_list_insert ⟨_, e, rfl⟩ PySem.F.entry_list_insert (PySem.F.args_list_insert_3 _ _ _) (PySem.AutoSeq1.list_insert_list_int_val_1 l _ n x t u2 m1 m2) ⟨e, ?_⟩
  refine ⟨.non, _, I.lset (its' := its.take i ++ u2 :: its.drop i) hH e ?_ ((vals_take i r).append (.cons r2 (vals_drop i r))) ?_, rfl, q _ but_upd upd_same⟩
  · show (its.toArray.extract 0 (if x < 0 then (x + ((its.toArray.size : Nat) : Int)).toNat else min x.toNat its.toArray.size)).push u2 ++ its.toArray.extract (if x < 0 then (x + ((its.toArray.size : Nat) : Int)).toNat else min x.toNat its.toArray.size) = _
    rw [kk, show min i its.toArray.size = i by simp; omega]
    apply Array.ext'
    simp
    exact List.take_of_length_le (by simp)
  · simp
    rw [sizeLine_eq]
    omega
theorem Inv.noFK {pins : List (Addr × Obj)} {σ : St} {H : Hp} {s : Shared} {d : Addr} {kvs : List (Key × V)} (I : Inv X pins σ H s) (hd : H d = some (.dK kvs)) : NoF X d := by
  refine ⟨fun xs q => ?_, fun o u q => ?_, fun ps q => ?_⟩
  · have := I.base.tups d xs q; rw [hd] at this; cases this
  · have := I.base.frzs d o u q; rw [hd] at this; cases this
  · obtain ⟨m, e⟩ := I.base.tbls d ps q; rw [hd] at e; cases e
theorem Inv.freezeK {pins : List (Addr × Obj)} {σ : St} {H : Hp} {s : Shared} {d : Addr} {kvs : List (Key × V)} {ob : Obj} (I : Inv X pins σ H s) (hd : H d = some (.dK kvs)) (e : s.heap.get? d = some ob) : Inv X pins σ (upd H d (.frz ob (.dK kvs))) s :=
  I.swap hd (fun _ z => nomatch z) (fun _ z => nomatch z) (I.noFK hd) ⟨e, show ObjOk X.prog X.w H s.heap d (.dK kvs) from I.hok d _ hd⟩
theorem Inv.thawK {pins : List (Addr × Obj)} {σ : St} {H : Hp} {s : Shared} {d : Addr} {kvs : List (Key × V)} {ob : Obj} (I : Inv X pins σ H s) (hd : H d = some (.frz ob (.dK kvs))) (nf : NoF X d) : Inv X pins σ (upd H d (.dK kvs)) s :=
  I.swap hd (fun _ z => nomatch z) (fun _ z => nomatch z) nf (show ObjOk X.prog X.w H s.heap d (.dK kvs) from (I.hok d _ hd).2)
def ItiK (d : Addr) (ob : Obj) (kvs : List (Key × V)) : It :=
  ⟨fun i H => H d = some (.frz ob (.dK kvs)) ∧ i < kvs.length,
   fun i H x H' => ∃ p k v, kvs[i]? = some (k, v) ∧ x = .ref p ∧ H p = none ∧ H' = upd H p (.tup [kV k, v]),
   fun i H => H d = some (.frz ob (.dK kvs)) ∧ kvs.length ≤ i⟩
theorem frz_rawK {P : Program} {w : World} {H : Hp} {h : Heap} {d : Addr} {ob : Obj} {kvs : List (Key × V)} {es : Array DictEntry} {ep : Nat} (x : ObjOk P w H h d (.frz ob (.dK kvs))) (he : ob.data = .dict es ep) :
    RawD h d es ep ∧ es.size = kvs.length ∧ ∀ (i : Nat) k v, kvs[i]? = some (k, v) → ∃ (hi : i < es.size), RelV (kV k) es[i].key ∧ RelV v es[i].val := by
  obtain ⟨e0, hz, lo, vs, kt, o, es', ep', e1, e2, e3, _, e4, nd⟩ := x
  rw [e0] at e1
  cases e1
  rw [he] at e3
  cases e3
  obtain ⟨hl, at_⟩ := kv_keys kt e4
  have hl : es.size = kvs.length := by simpa using hl.symm
  refine ⟨⟨ob, e0, e2, he⟩, hl, fun i k v hk => ?_⟩
  obtain ⟨e, q, q1, q2⟩ := at_ i k v hk
  have hi : i < es.size := by rw [hl]; exact (List.getElem?_eq_some_iff.mp hk).1
  rw [Array.getElem?_toList, Array.getElem?_eq_getElem hi] at q
  cases q
  exact ⟨hi, q1, q2⟩
theorem turn_itemsK {P : Program} {w : World} {K : PySem.W.Frag} {elts : List Expr} {ek : Nat} {epos : Pos} (d it : Addr) (ob : Obj) (kvs : List (Key × V)) (es : Array DictEntry) (ep : Nat) (he : ob.data = .dict es ep) :
    Turn P w K (.Tuple elts ek epos) (ItiK d ob kvs) [it] it (fun i h => ∃ ok ov, IsItemIter h it d i es.size ep ok ov) where
  mem := by simp
  obj := fun i h st b hb => by
    have e : b = it := by simpa using hb
    subst e
    obtain ⟨ok, ov, st⟩ := st
    exact ⟨_, st, fun v z => by
      have z' : Data.fields _ = Data.cell v := z
      cases z'⟩
  keep := fun i h h' st k => let ⟨ok, ov, st⟩ := st; ⟨ok, ov, k it (by simp) _ st⟩
  item := by
    intro X hP hw hK hc i pins s σ H E I hf st hg
    subst hP hw hK
    obtain ⟨hd, hi⟩ := hg
    obtain ⟨ok, ov, st⟩ := st
    obtain ⟨hR, hl, at_⟩ := frz_rawK (I.hok d _ hd) he
    have hkv : kvs[i]? = some (kvs[i].1, kvs[i].2) := by rw [List.getElem?_eq_getElem hi]
    obtain ⟨hi', hb, hv⟩ := at_ i _ _ hkv
    refine ri_item st hR hi' fun h' a1 a2 a3 => ?_
    refine ⟨.ref s.heap.objs.size, rfl, wpAny_letOwnedTupleGo_items a1 fun h'' j'' sb => ?_⟩
    have nz : s.heap.objs.size ≠ it := Nat.ne_of_gt (Heap.lt_size st)
    have T2 := sb.extBut _ _ nz a2
    refine ⟨.ref s.heap.objs.size, upd H s.heap.objs.size (.tup [kV kvs[i].1, kvs[i].2]), I.turnedLaid (t' := s.toks) (ch := [it]) hf (fun c o hc e => ?_) (Nat.le_refl _) ⟨by show 2 ≤ sizeLine; decide, [es[i].key, es[i].val], .cons hb (.cons hv .nil), _, T2, rfl, _, rfl⟩, rfl, ⟨_, _, _, hkv, rfl, I.hok.fresh (Nat.le_refl _), rfl⟩, ⟨_, _, j''⟩, fun c hc => ?_⟩
    · have hne : c ≠ it := fun z => hc (by simp [z])
      exact sb.extBut _ _ hne (a3 c o hne e)
    · have e : c = it := by simpa using hc
      subst e
      rw [upd_ne (Ne.symm nz)]; exact (hf c (by simp)).1
  done := by
    intro X hP hw hK hc i pins s σ H E I hf st hg
    subst hP hw hK
    obtain ⟨hd, hi⟩ := hg
    obtain ⟨ok, ov, st⟩ := st
    obtain ⟨hR, hl, at_⟩ := frz_rawK (I.hok d _ hd) he
    obtain ⟨f0, f1, f2, f3, f4, f5⟩ := hf it (by simp)
    exact ri_end (I.ok.hd hc) st hR (by omega) fun h' eb => ⟨rfl, I.turned (t' := s.toks) (fun b o hb e => eb b o hb e) f0 f1 f3 f4 f5⟩
  self := fun _ _ _ _ _ st h => let ⟨_, _, st⟩ := st; ri_self st h
def iItemsK (X : Cx) (to : TE) : TI := fun σ H R => to σ H fun x H1 => ∃ d kvs, x = .ref d ∧ H1 d = some (.dK kvs) ∧ ∀ ob, NoF X d → R (ItiK d ob kvs) (upd H1 d (.frz ob (.dK kvs)))
theorem pi_itemsK {elts : List Expr} {ek : Nat} {epos : Pos} {o : Expr} {to : TE} {apos cpos : Pos} (ho : PE X o to)
    (hbase : attributeBase o (Str.ofString "items") X.env (eval o X.env) = eval o X.env := by rfl) (hline : (apos.endLine == cpos.line) = true := by rfl) :
    PI X (.Tuple elts ek epos) (.Call (.Attribute o (Str.ofString "items") apos) [] [] cpos) (iItemsK X to) := by
  intro pins s σ H R I h
  refine wpAny_Call_method0_late hbase hline (thn (ho pins s σ H _ I h) fun v s1 hq__ => ?_)
  obtain ⟨x, H1, I1, r1, d, kvs, ex, hd, q⟩ := hq__
  subst ex
  cases (show v = Value.ref d from r1)
  obtain ⟨hz, lo, vs, kt, ob, es, ep, e1, e2, e3, _, e4, nd⟩ := I1.hok d _ hd
  have hR : RawD s1.heap d es ep := ⟨ob, e1, e2, e3⟩
  refine ⟨"dict", "dict.items", F.plainAttrs_dict, F.slot_dict_items, F.type_dict_items, hR.ty, (fun a ea => by cases ea; exact ⟨ob, e1, e2.2.1⟩), Calls.callWith_builtin rfl (PySem.evalArgs_none (ri_view lo hR ?_))⟩
  refine ri_iter (s := { s1 with heap := s1.heap.push { cls := .type "dict_items", data := .fields #[.ref d] } }) ⟨_, Heap.get?_push_size _ rfl, rfl, rfl⟩ (hR.up fun _ e => Heap.get?_push_of_some _ e) ?_
  have k2 : ∀ b o, s1.heap.get? b = some o → ((s1.heap.push { cls := .type "dict_items", data := .fields #[.ref d] }).push (itemIt d es.size ep)).get? b = some o := fun b o e => Heap.get?_push_of_some _ (Heap.get?_push_of_some _ e)
  have I2 := (I1.kept (t' := s1.toks) k2).freezeK hd (k2 _ _ e1)
  have hsz : s1.heap.objs.size ≤ (s1.heap.push { cls := .type "dict_items", data := .fields #[.ref d] }).objs.size := by rw [Heap.size_push]; exact Nat.le_succ _
  refine ⟨_, [_], _, _, _, rfl, I2, turn_itemsK d _ ob kvs es ep e3, ⟨_, _, Heap.get?_push_size _ rfl⟩, fun b hb => ?_, q ob (I1.noFK hd)⟩
  have e : b = (s1.heap.push { cls := .type "dict_items", data := .fields #[.ref d] }).objs.size := by simpa using hb
  subst e
  refine I1.fpOk hsz ?_
  have hne : (s1.heap.push { cls := .type "dict_items", data := .fields #[.ref d] }).objs.size ≠ d := Nat.ne_of_gt (Nat.lt_of_lt_of_le (Heap.lt_size e1) hsz)
  rw [upd_ne hne]; exact I1.hok.fresh hsz
def thawD (X : Cx) (D : Ends) : Ends :=
  ⟨fun σ H2 => ∃ d kvs ob, H2 d = some (.frz ob (.dK kvs)) ∧ NoF X d ∧ D.nx σ (upd H2 d (.dK kvs)), fun v H2 => ∃ d kvs ob, H2 d = some (.frz ob (.dK kvs)) ∧ NoF X d ∧ D.rt v (upd H2 d (.dK kvs)), D.bk, D.ct⟩
def tForK (X : Cx) (to : TE) (g : TG) (tb : TS) : TS := fun D σ H => tFor (iItemsK X to) g tb (thawD X D) σ H
theorem ps_thawK {st : Stmt} {to : TE} {g : TG} {tb : TS} (h : PS X st (tFor (iItemsK X to) g tb)) : PS X st (tForK X to g tb) := by
  intro pins s σ H D I q
  refine thn (h pins s σ H _ I q) fun f s' z => ?_
  cases f with
  | next =>
    obtain ⟨σ', H2, I2, d, kvs, ob, hd, nf, q⟩ := z
    exact ⟨σ', _, I2.thawK hd nf, q⟩
  | brk => exact z
  | cont => exact z
  | ret u =>
    obtain ⟨v, σ', H2, I2, rv, d, kvs, ob, hd, nf, q⟩ := z
    exact ⟨v, σ', _, I2.thawK hd nf, rv, q⟩
theorem for_itemsK {to : TE} {g : TG} {tb : TS} {D : Ends} {σ : St} {H : Hp} (h : to σ H fun x H1 => ∃ d kvs, x = .ref d ∧ H1 d = some (.dK kvs) ∧ ∀ ob, NoF X d → ∃ J : Nat → St → Hp → Prop,
      J 0 σ (upd H1 d (.frz ob (.dK kvs))) ∧ (∀ i σ H2, J i σ H2 → H2 d = some (.frz ob (.dK kvs))) ∧
      (∀ i k v σ H2 p H3, J i σ H2 → kvs[i]? = some (k, v) → New H2 H3 p (.tup [kV k, v]) → g (.ref p) σ H3 fun σ2 H4 => tb { thawD X D with nx := J (i + 1), ct := J (i + 1), bk := (thawD X D).nx } σ2 H4) ∧
      ∀ σ H2, J kvs.length σ H2 → D.nx σ (upd H2 d (.dK kvs))) (mo : ∀ {Q Q' : VK}, (∀ v H, Q v H → Q' v H) → to σ H Q → to σ H Q') : tForK X to g tb D σ H := by
  refine mo (fun x H1 ⟨d, kvs, e, hd, z⟩ => ⟨d, kvs, e, hd, fun ob nf => ?_⟩) h
  obtain ⟨J, j0, jk, js, je⟩ := z ob nf
  refine ⟨fun i m σ H => J i σ H ∧ i ≤ kvs.length ∧ m = kvs.length - i, ⟨_, j0, Nat.zero_le _, rfl⟩, fun i m σ H2 hq__ => ?_⟩
  obtain ⟨w, hi, hm⟩ := hq__
  by_cases hlt : i < kvs.length
  · refine .inr ⟨⟨jk _ _ _ w, hlt⟩, J (i + 1), fun σ' H' w' => ⟨_, by omega, w', hlt, rfl⟩, fun x H' hq__ => ?_⟩
    obtain ⟨p, k, v, hk, ex, hp, e⟩ := hq__
    subst ex e
    exact js i k v σ H2 p _ w hk (new_upd hp)
  · have e : i = kvs.length := by omega
    subst e
    exact .inl ⟨⟨jk _ _ _ w, Nat.le_refl _⟩, d, kvs, ob, jk _ _ _ w, nf, je σ H2 w⟩
theorem thaw_same {H1 H2 : Hp} {d : Addr} {o u : HO} (hd : H1 d = some u) (s : Same (upd H1 d o) H2) : Same H1 (upd H2 d u) := fun b v e => by
  by_cases hb : b = d
  · subst hb; rw [upd_same]; rw [hd] at e; exact e
  · rw [upd_ne hb]; exact s b v (by rw [upd_ne hb]; exact e)
end
end L2
namespace L2
open PySem PySem.Spec PyProof.Rows
theorem pe_bmH {X : Cx} {K : PySem.W.Frag} {o e : Expr} {es : List Expr} {to : TE} {t : TA} {name : Str} {apos cpos : Pos} {T id : String} {r : V → List V → Hp → VK → Prop} (hK : X.K = K) (pa : PlainAttrs T) (slot : Slot T name id) (hty : typeOf (.builtin id) = pure (.type "method_descriptor")) (hm : MtR X id r) (ho : PE X o to) (ha : PA X (e :: es) t)
    (hbase : attributeBase o name X.env (eval o X.env) = eval o X.env := by rfl)
    (hfew : ((backTo cpos (starEach (e :: es) X.env)).all (fun x => !x.1) && (backToKw cpos (keywordEach [] X.env)).all (fun x => x.1.isSome)
      && decide ((e :: es).length + ([] : List Keyword).length + (if ([] : List Keyword).isEmpty then 0 else 1) < 30)) = true := by rfl)
    (hline : (apos.endLine == cpos.line) = true := by rfl) (hs : starEach (e :: es) X.env = (false, eval e X.env) :: starEach es X.env := by rfl) (hplain : (backTo cpos (starEach es X.env)).any (·.1) = false := by rfl) :
    PE X (.Call (.Attribute o name apos) (e :: es) [] cpos) (tBM K T r to t) := by
  subst hK
  exact pe_bm pa slot hty hm ho ha hbase hfew hline hs hplain
end L2
namespace TB
structure Good (ps : List (Int × Int)) : Prop where
  lo : 1 ≤ ps.length
  hi : ps.length ≤ 5
  each : ∀ (i : Nat) p, ps[i]? = some p → 0 ≤ p.1 ∧ 1 ≤ p.2
  next : ∀ (i : Nat) p q, ps[i]? = some p → ps[i + 1]? = some q → p.1 ≤ q.1 ∧ q.2 % p.2 = 0
def GoneOk (g : Option Int) (last : Int) : Prop := ∀ z, g = some z → last ≤ z
end TB
namespace TB
def cut (d a w : Int) : Int := (d - a) / w * w
def Bd (x : Int) : Prop := -(10 ^ 45) < x ∧ x < 10 ^ 45
def Sized (ps : List (Int × Int)) : Prop := ∀ (i : Nat) p, ps[i]? = some p → 0 ≤ p.1 ∧ p.1 < 10 ^ 45 ∧ 1 ≤ p.2 ∧ p.2 < 10 ^ 45
theorem div_b {x w B : Int} (hw : 1 ≤ w) (hB : 0 ≤ B) (h1 : -B ≤ x) (h2 : x < B) : -B ≤ x / w ∧ x / w < B := by
  have hBw : B * 1 ≤ B * w := Int.mul_le_mul_of_nonneg_left hw hB
  constructor
  · refine Int.le_ediv_of_mul_le (by omega) ?_
    have : -B * w = -(B * w) := Int.neg_mul _ _
    omega
  · exact Int.ediv_lt_of_lt_mul (by omega) (by omega)
theorem cut_le {d a w : Int} (hw : 1 ≤ w) : cut d a w ≤ d - a := by
  have h := Int.emod_add_mul_ediv (d - a) w
  have h1 := Int.emod_nonneg (d - a) (show w ≠ 0 by omega)
  unfold cut
  rw [Int.mul_comm] at h
  omega
theorem cut_gt {d a w : Int} (hw : 1 ≤ w) : d - a < cut d a w + w := by
  have h := Int.emod_add_mul_ediv (d - a) w
  have h1 := Int.emod_lt_of_pos (d - a) (show 0 < w by omega)
  unfold cut
  rw [Int.mul_comm] at h
  omega
theorem cut_bd {d a w : Int} (hd : Bd d) (ha : 0 ≤ a) (ha' : a < 10 ^ 45) (hw : 1 ≤ w) (hw' : w < 10 ^ 45) : -(4 * 10 ^ 45) < cut d a w ∧ cut d a w < 4 * 10 ^ 45 := by
  have h1 := cut_le (d := d) (a := a) hw
  have h2 := cut_gt (d := d) (a := a) hw
  unfold Bd at hd
  omega
def rowsOf (ps : List (Int × Int)) (g : Option Int) : List (Int × Int) :=
  ps ++ (match g with
    | none => []
    | some z => [(z, (ps.getLast?.getD (0, 1)).2)])
theorem last_get {ps : List (Int × Int)} {p : Int × Int} (h : ps[ps.length - 1]? = some p) : ps.getLast?.getD (0, 1) = p := by
  rw [List.getLast?_eq_getElem?, h]; rfl
theorem rows_good {ps : List (Int × Int)} {g : Option Int} (G : Good ps) (hg : ∀ p, ps[ps.length - 1]? = some p → GoneOk g p.1) :
    (∀ (i : Nat) p, (rowsOf ps g)[i]? = some p → 0 ≤ p.1 ∧ 1 ≤ p.2) ∧ ∀ (i : Nat) p q, (rowsOf ps g)[i]? = some p → (rowsOf ps g)[i + 1]? = some q → p.1 ≤ q.1 ∧ q.2 % p.2 = 0 := by
  have hl := G.lo
  obtain ⟨p0, hp0⟩ : ∃ p, ps[ps.length - 1]? = some p := ⟨ps[ps.length - 1]'(by omega), List.getElem?_eq_getElem _⟩
  have e0 := last_get hp0
  cases g with
  | none =>
    have e : rowsOf ps none = ps := by simp [rowsOf]
    rw [e]
    exact ⟨G.each, G.next⟩
  | some z =>
    have e : rowsOf ps (some z) = ps ++ [(z, p0.2)] := by simp only [rowsOf]; rw [e0]
    have hz := hg p0 hp0 z rfl
    have h0 := G.each _ _ hp0
    rw [e]
    refine ⟨fun i p h => ?_, fun i p q h h' => ?_⟩
    · by_cases hi : i < ps.length
      · rw [List.getElem?_append_left hi] at h
        exact G.each i p h
      · rw [List.getElem?_append_right (by omega)] at h
        have : i - ps.length = 0 := by
          have := (List.getElem?_eq_some_iff.mp h).1
          simp at this; omega
        rw [this] at h
        simp at h
        subst h
        exact ⟨by show 0 ≤ z; omega, h0.2⟩
    · by_cases hi : i + 1 < ps.length
      · rw [List.getElem?_append_left hi] at h'
        rw [List.getElem?_append_left (by omega)] at h
        exact G.next i p q h h'
      · have h1 := (List.getElem?_eq_some_iff.mp h').1
        simp at h1
        have hi' : i = ps.length - 1 := by omega
        rw [List.getElem?_append_right (by omega)] at h'
        rw [List.getElem?_append_left (by omega), hi', hp0] at h
        rw [show i + 1 - ps.length = 0 by omega] at h'
        simp at h'
        cases h
        subst h'
        exact ⟨hz, Int.emod_self⟩
end TB
namespace TB
end TB
namespace TB
open PySem L2
def PairAt (H : Hp) (v : V) (p : Int × Int) : Prop := ∃ a, v = .ref a ∧ H a = some (.tup [.int p.1, .int p.2])
def Pairs (H : Hp) (xs : List V) (ps : List (Int × Int)) : Prop := Paired (PairAt H) xs ps
theorem PairAt.same {H H' : Hp} (s : Same H H') {v : V} {p : Int × Int} : PairAt H v p → PairAt H' v p := fun ⟨a, e, h⟩ => ⟨a, e, s _ _ h⟩
def TupS (H H' : Hp) : Prop := ∀ b xs, H b = some (.tup xs) → H' b = some (.tup xs)
theorem Same.tup {H H' : Hp} (s : Same H H') : TupS H H' := fun b xs h => s b _ h
theorem TupS.refl (H : Hp) : TupS H H := fun _ _ h => h
theorem TupS.trans {H H1 H2 : Hp} (a : TupS H H1) (b : TupS H1 H2) : TupS H H2 := fun c o h => b c o (a c o h)
theorem PairAt.tupS {H H' : Hp} (s : TupS H H') {v : V} {p : Int × Int} : PairAt H v p → PairAt H' v p := fun ⟨a, e, h⟩ => ⟨a, e, s _ _ h⟩
theorem Pairs.tupS {H H' : Hp} (s : TupS H H') : ∀ {xs : List V} {ps : List (Int × Int)}, Pairs H xs ps → Pairs H' xs ps
  | _, _, .nil => .nil
  | _, _, .cons r t => .cons (r.tupS s) (Pairs.tupS s t)
theorem Pairs.same {H H' : Hp} (s : Same H H') {xs : List V} {ps : List (Int × Int)} (h : Pairs H xs ps) : Pairs H' xs ps := Pairs.tupS (Same.tup s) h
theorem Pairs.length {H : Hp} : ∀ {xs : List V} {ps : List (Int × Int)}, Pairs H xs ps → xs.length = ps.length
  | _, _, .nil => rfl
  | _, _, .cons _ t => by simp [Pairs.length t]
theorem Pairs.get {H : Hp} : ∀ {xs : List V} {ps : List (Int × Int)} {i : Nat} {x : V}, Pairs H xs ps → xs[i]? = some x → ∃ p, ps[i]? = some p ∧ PairAt H x p
  | _, _, _, _, .nil, e => by simp at e
  | _, _, 0, _, .cons r _, e => by simp at e; subst e; exact ⟨_, rfl, r⟩
  | _, _, i + 1, x, .cons _ t, e => by
    obtain ⟨u, h1, h2⟩ := Pairs.get (i := i) (x := x) t (by simpa using e)
    exact ⟨u, by simpa using h1, h2⟩
theorem Pairs.get' {H : Hp} : ∀ {xs : List V} {ps : List (Int × Int)} {i : Nat} {p : Int × Int}, Pairs H xs ps → ps[i]? = some p → ∃ x, xs[i]? = some x ∧ PairAt H x p
  | _, _, _, _, .nil, e => by simp at e
  | _, _, 0, _, .cons r _, e => by simp at e; subst e; exact ⟨_, rfl, r⟩
  | _, _, i + 1, x, .cons _ t, e => by
    obtain ⟨u, h1, h2⟩ := Pairs.get' (i := i) (p := x) t (by simpa using e)
    exact ⟨u, by simpa using h1, h2⟩
theorem Pairs.snoc {H : Hp} {v : V} {p : Int × Int} (r : PairAt H v p) : ∀ {xs : List V} {ps : List (Int × Int)}, Pairs H xs ps → Pairs H (xs ++ [v]) (ps ++ [p])
  | _, _, .nil => .cons r .nil
  | _, _, .cons q t => .cons q (Pairs.snoc r t)
def gv : Option Int → V
  | none => .non
  | some i => .int i
theorem ks_ga : ¬ (("kept_steps" : Str) = "gone_age") := by decide +kernel
def rf (l : Addr) (g : V) : List (Str × V) := putF "gone_age" g (putF "kept_steps" (.ref l) [])
theorem rf_ks (l : Addr) (g : V) : (rf l g).lookup ("kept_steps" : Str) = some (.ref l) := by
  unfold rf
  rw [lookup_putF, if_neg ks_ga, lookup_putF, if_pos rfl]
theorem rf_ga (l : Addr) (g : V) : (rf l g).lookup ("gone_age" : Str) = some g := by
  unfold rf
  rw [lookup_putF, if_pos rfl]
theorem rf_no (l : Addr) (g : V) {m : Str} (h1 : ¬ m = "gone_age") (h2 : ¬ m = "kept_steps") : (rf l g).lookup m = none := by
  unfold rf
  rw [lookup_putF, if_neg h1, lookup_putF, if_neg h2]
  rfl
structure RuleAt (C : Addr) (H : Hp) (r l : Addr) (ps : List (Int × Int)) (g : Option Int) : Prop where
  ob : ∃ dx, H r = some (.ins C dx (rf l (gv g)))
  ls : ∃ xs, H l = some (.lst xs) ∧ Pairs H xs ps
theorem RuleAt.same {C : Addr} {H H' : Hp} {r l : Addr} {ps : List (Int × Int)} {g : Option Int} (s : Same H H') (h : RuleAt C H r l ps g) : RuleAt C H' r l ps g :=
  ⟨let ⟨dx, e⟩ := h.ob; ⟨dx, s _ _ e⟩, let ⟨xs, e, p⟩ := h.ls; ⟨xs, s _ _ e, p.same s⟩⟩
theorem len2 {α : Type} {us : List α} (h : us.length = 2) : ∃ a b, us = [a, b] := by
  match us, h with
  | [a, b], _ => exact ⟨a, b, rfl⟩
theorem atI_m1 {xs : List V} {v : V} (h : xs[xs.length - 1]? = some v) : atI xs (-1) = some v := by
  have hl : xs.length - 1 < xs.length := (List.getElem?_eq_some_iff.mp h).1
  have e : ixN xs.length (-1) = some (xs.length - 1) := by
    unfold ixN
    rw [if_neg (by decide), if_pos (by omega)]
    congr 1; omega
  unfold atI
  rw [e]; exact h
theorem cut1 (xs : List V) : cutV xs (some 1) none = xs.drop 1 := by
  unfold cutV
  rw [HT.sIx_none, show (some (1 : Int)) = some ((1 : Nat) : Int) from rfl, HT.sIx_nat]
  by_cases h : 1 ≤ xs.length
  · rw [Nat.min_eq_left h]
    exact List.take_of_length_le (by simp)
  · have e : xs = [] := by cases xs with | nil => rfl | cons _ _ => simp at h
    subst e; rfl
def sp_is_whole : Sp := fun vs H Q _ => ∃ x, vs = [x] ∧ ((∃ i, x = .int i ∧ Q (.bl true) H))
def sp_is_step : Sp := fun vs H Q _ => ∃ x p, vs = [x] ∧ PairAt H x p ∧ Q (.bl true) H
def sp_check_one_step : Sp := fun vs H Q _ => ∃ x p, vs = [x] ∧ PairAt H x p ∧ 0 ≤ p.1 ∧ 1 ≤ p.2 ∧ Q .non H
inductive sp_check_next_step (vs : List V) (H : Hp) (Q : VK) (E_ : XK) : Prop
  | mk : ∀ x y p q, vs = [x, y] → PairAt H x p → PairAt H y q → 1 ≤ p.2 → p.1 ≤ q.1 → q.2 % p.2 = 0 → Q .non H → sp_check_next_step vs H Q E_
inductive sp_check_steps (vs : List V) (H : Hp) (Q : VK) (E_ : XK) : Prop
  | mk : ∀ l xs ps, vs = [.ref l] → H l = some (.lst xs) → Pairs H xs ps → Good ps → (∀ H', Same H H' → Q .non H') → sp_check_steps vs H Q E_
def sp_check_gone : Sp := fun vs H Q _ => ∃ g last, vs = [gv g, .int last] ∧ GoneOk g last ∧ Q .non H
inductive sp_gone (C : Addr) (vs : List V) (H : Hp) (Q : VK) (E_ : XK) : Prop
  | mk : ∀ r l ps g, vs = [.ref r] → RuleAt C H r l ps g → Q (gv g) H → sp_gone C vs H Q E_
def sp_law (K : PySem.W.Frag) : Sp := fun vs H Q _ => ∃ (a : Addr) (ns : List Int), vs = [.ref a] ∧ SqL K H a (ns.map V.int) ∧ ns.length ≤ 63 ∧ ∀ H', Q (.bl true) H'
end TB
namespace TB
open PySem L2
theorem New.after {H H1 H2 : Hp} {p : Addr} {o : HO} (s : Same H H1) (n : New H1 H2 p o) : New H H2 p o := ⟨s.trans n.same, s.free n.fresh, n.at_⟩
def lw (ps : List (Int × Int)) : Int := (ps.getLast?.getD (0, 1)).2
def eV (ps : List (Int × Int)) (g : Option Int) (d : Int) : List V := (ps.map fun p => V.int (cut d p.1 p.2)) ++ [gv (g.map fun z => cut d z (lw ps))]
def GBd (g : Option Int) : Prop := ∀ z, g = some z → 0 ≤ z ∧ z < 10 ^ 45
structure Pr (ps : List (Int × Int)) (g : Option Int) : Prop where
  good : Good ps
  size : Sized ps
  gone : ∀ p, ps[ps.length - 1]? = some p → GoneOk g p.1
  gb : GBd g
theorem Pr.last {ps : List (Int × Int)} {g : Option Int} (P : Pr ps g) : ∃ p, ps[ps.length - 1]? = some p ∧ lw ps = p.2 := by
  have hl := P.good.lo
  refine ⟨ps[ps.length - 1]'(by omega), List.getElem?_eq_getElem _, ?_⟩
  unfold lw
  rw [last_get (List.getElem?_eq_getElem _)]
theorem RuleAt.but {C : Addr} {H H' : Hp} {r l m : Addr} {o : HO} {ps : List (Int × Int)} {g : Option Int} (h : RuleAt C H r l ps g) (b : But m H H') (hm : H m = some o) (nt : ∀ xs, o ≠ .tup xs) (n1 : r ≠ m) (n2 : l ≠ m) : RuleAt C H' r l ps g :=
  ⟨let ⟨dx, e⟩ := h.ob; ⟨dx, b _ _ e n1⟩, let ⟨xs, e, p⟩ := h.ls; ⟨xs, b _ _ e n2, p.tupS (b.tup hm nt)⟩⟩
theorem Pairs.but {H H' : Hp} {m : Addr} {o : HO} {xs : List V} {ps : List (Int × Int)} (h : Pairs H xs ps) (b : But m H H') (hm : H m = some o) (nt : ∀ xs, o ≠ .tup xs) : Pairs H' xs ps := h.tupS (b.tup hm nt)
theorem ins_nt {C dx : Addr} {fs : List (Str × V)} : ∀ ys, (HO.ins C dx fs) ≠ .tup ys := fun _ z => by cases z
inductive sp2_init (C : Addr) (vs : List V) (H : Hp) (Q : VK) (E_ : XK) : Prop
  | mk : ∀ r dx l xs ps g, vs = [.ref r, .ref l, gv g] → H r = some (.ins C dx []) → H l = some (.lst xs) → Pairs H xs ps → Good ps → (∀ p, ps[ps.length - 1]? = some p → GoneOk g p.1) → (∀ l' H', H l' = none → RuleAt C H' r l' ps g → But r H H' → Q .non H') → sp2_init C vs H Q E_
inductive sp2_steps (C : Addr) (vs : List V) (H : Hp) (Q : VK) (E_ : XK) : Prop
  | mk : ∀ r l ps g xs, vs = [.ref r] → RuleAt C H r l ps g → H l = some (.lst xs) → (∀ p H', New H H' p (.lst xs) → Q (.ref p) H') → sp2_steps C vs H Q E_
def sp_floored : Sp := fun vs H Q _ => ∃ n w, vs = [.int n, .int w] ∧ 1 ≤ w ∧ w < 10 ^ 45 ∧ -(10 ^ 46) ≤ n ∧ n < 10 ^ 46 ∧ Q (.int (n / w * w)) H
inductive sp_gone_cut (C : Addr) (vs : List V) (H : Hp) (Q : VK) (E_ : XK) : Prop
  | mk : ∀ r l ps g d, vs = [.ref r, .int d] → RuleAt C H r l ps g → Pr ps g → Bd d → (∀ H', Same H H' → Q (gv (g.map fun z => cut d z (lw ps))) H') → sp_gone_cut C vs H Q E_
inductive sp_edges_at (C : Addr) (vs : List V) (H : Hp) (Q : VK) (E_ : XK) : Prop
  | mk : ∀ r l ps g d, vs = [.ref r, .int d] → RuleAt C H r l ps g → Pr ps g → Bd d → (∀ p H', New H H' p (.lst (eV ps g d)) → Q (.ref p) H') → sp_edges_at C vs H Q E_
def dV : V → PyData
  | .int i => .int i
  | _ => .none
def Ed (v : V) : Prop := v = .non ∨ ∃ i, v = .int i
theorem mapN {α β : Type} (f : α → β) (xs : List α) (i : Nat) (x : α) (h : xs[i]? = some x) : (xs.take (i + 1)).map f = (xs.take i).map f ++ [f x] := by
  rw [List.take_succ, h]
  simp
end TB
namespace TB
open PySem L2
end TB
namespace TB
def mc (p e : Int × Int) : Int := (e.1 - p.1 + e.2 - 1) / p.2
def endsOf (ps : List (Int × Int)) (z : Int) : List (Int × Int) := ps.drop 1 ++ [(z, (ps.getLast?.getD (0, 1)).2)]
theorem ends_len {ps : List (Int × Int)} {z : Int} (h : 1 ≤ ps.length) : (endsOf ps z).length = ps.length := by unfold endsOf; simp; omega
theorem ends_get {ps : List (Int × Int)} {z : Int} {k : Nat} (h : k < ps.length) : (endsOf ps z)[k]? = (rowsOf ps (some z))[k + 1]? := by
  unfold endsOf rowsOf
  by_cases hk : k + 1 < ps.length
  · rw [List.getElem?_append_left (by simp; omega), List.getElem?_append_left hk, List.getElem?_drop, Nat.add_comm]
  · rw [List.getElem?_append_right (by simp; omega), List.getElem?_append_right (by omega)]
    have e1 : k - (ps.drop 1).length = 0 := by simp; omega
    have e2 : k + 1 - ps.length = 0 := by omega
    rw [e1, e2]
end TB
namespace TB
open PySem L2
theorem gname_ {i : Nat} {v : V} {σ : St} {H : Hp} {K : St → Hp → Prop} (h : K (σ.set i (some v)) H) : gName i v σ H K := h
theorem Pairs.drop {H : Hp} {xs : List V} {ps : List (Int × Int)} (h : Pairs H xs ps) (n : Nat) : Pairs H (xs.drop n) (ps.drop n) := by
  induction n generalizing xs ps with
  | zero => exact h
  | succ n ih =>
    cases h with
    | nil => exact .nil
    | cons r t => exact ih t
theorem lc_rangeN {lo : Int} {n : Nat} {g : TG} {tc : TT} {te : TE} {Q : VK} {σ : St} {H : Hp} (Pv : Nat → List V → Hp → Prop) (hz : n ≤ sizeLine) (h0 : Pv 0 [] H) (hl : ∀ i ys H, Pv i ys H → ys.length ≤ i)
    (hs : ∀ i ys H, i < n → Pv i ys H → g (.int (lo + i)) σ H fun σ4 H4 => tc σ4 H4 fun b H5 => if b = true then te σ4 H5 fun v H6 => Pv (i + 1) (ys ++ [v]) H6 else Pv (i + 1) ys H5)
    (hd : ∀ ys H p H', Pv n ys H → New H H' p (.lst ys) → Q (.ref p) H') : lcGoal (Itr lo n) Q g tc te σ H :=
  lc_range Pv hz h0 hl hs fun ys H p p' hp => hd ys H p _ p' (new_upd hp)
end TB
namespace TB
open PySem L2
theorem Pr.pair {ps : List (Int × Int)} {z : Int} (P : Pr ps (some z)) {k : Nat} (hk : k < ps.length) : ∃ p e, ps[k]? = some p ∧ (endsOf ps z)[k]? = some e ∧ (rowsOf ps (some z))[k]? = some p ∧ (rowsOf ps (some z))[k + 1]? = some e ∧ 1 ≤ p.2 ∧ p.2 < 10 ^ 45 ∧ 1 ≤ e.2 ∧ e.2 % p.2 = 0 := by
  have hl := P.good.lo
  obtain ⟨r1, r2⟩ := rows_good P.good P.gone
  have h1 : ps[k]? = some ps[k] := List.getElem?_eq_getElem hk
  have h2 : (rowsOf ps (some z))[k]? = some ps[k] := by
    unfold rowsOf
    rw [List.getElem?_append_left hk]; exact h1
  have hlen : k < (endsOf ps z).length := by rw [ends_len hl]; exact hk
  have h3 : (endsOf ps z)[k]? = some (endsOf ps z)[k] := List.getElem?_eq_getElem hlen
  have h4 := (ends_get (z := z) hk).symm.trans h3
  have h5 := P.size k _ h1
  obtain ⟨h6, h7⟩ := r2 k _ _ h2 h4
  exact ⟨_, _, h1, h3, h2, h4, h5.2.2.1, h5.2.2.2, (r1 _ _ h4).2, h7⟩
end TB
namespace TB
open PySem L2
def gE : V → V → V
  | .non, y => y
  | .int i, .int j => .int (if j > i then j else i)
  | x, _ => x
theorem zip_get {xs ys : List V} {i : Nat} {x y : V} (h1 : xs[i]? = some x) (h2 : ys[i]? = some y) : (List.zipWith gE xs ys)[i]? = some (gE x y) := by
  rw [List.getElem?_zipWith, h1, h2]
theorem takeN {α : Type} (xs : List α) (i : Nat) (x : α) (h : xs[i]? = some x) : xs.take (i + 1) = xs.take i ++ [x] := by
  rw [List.take_succ, h]; rfl
def sp_greater_edge : Sp := fun vs H Q _ => ∃ x y, vs = [x, y] ∧ Ed x ∧ Ed y ∧ Q (gE x y) H
def EdL (xs : List V) : Prop := ∃ (ns : List Int) (g : Option Int), xs = ns.map V.int ++ [gv g] ∧ 1 ≤ ns.length ∧ ns.length ≤ 5
theorem gv_ed (g : Option Int) : Ed (gv g) := by cases g with
  | none => exact .inl rfl
  | some z => exact .inr ⟨z, rfl⟩
theorem EdL.ed {xs : List V} (h : EdL xs) : ∀ v ∈ xs, Ed v := by
  obtain ⟨ns, g, rfl, _, _⟩ := h
  intro v hv
  rcases List.mem_append.mp hv with z | z
  · obtain ⟨i, _, e⟩ := List.mem_map.mp z; exact .inr ⟨i, e.symm⟩
  · rw [List.mem_singleton.mp z]; exact gv_ed g
theorem EdL.len {xs : List V} (h : EdL xs) : 2 ≤ xs.length ∧ xs.length ≤ 6 := by
  obtain ⟨ns, g, rfl, h1, h2⟩ := h
  simp only [List.length_append, List.length_map, List.length_singleton]; omega
def notN (v : V) : Bool := !decide (v = V.non)
end TB
namespace TB
open PySem L2
def EB (x : Int) : Prop := -(4 * 10 ^ 45) < x ∧ x < 4 * 10 ^ 45
structure EdS (EV : List V) (es : List Int) (ge : Option Int) : Prop where
  eq : EV = es.map V.int ++ [gv ge]
  bd : ∀ x ∈ es, EB x
  gb : ∀ z, ge = some z → EB z
theorem EdS.ed {EV : List V} {es : List Int} {ge : Option Int} (h : EdS EV es ge) : ∀ v ∈ EV, Ed v := by
  intro v hv
  rw [h.eq] at hv
  rcases List.mem_append.mp hv with z | z
  · obtain ⟨i, _, e⟩ := List.mem_map.mp z; exact .inr ⟨i, e.symm⟩
  · rw [List.mem_singleton.mp z]; exact gv_ed ge
theorem EdS.of {ps : List (Int × Int)} {g : Option Int} {d : Int} (P : Pr ps g) (hd : Bd d) : EdS (eV ps g d) (ps.map fun p => cut d p.1 p.2) (g.map fun z => cut d z (lw ps)) := by
  refine ⟨by unfold eV; rw [List.map_map]; rfl, fun x hx => ?_, fun z hz => ?_⟩
  · obtain ⟨p, hp, rfl⟩ := List.mem_map.mp hx
    obtain ⟨i, hi, e⟩ := List.getElem_of_mem hp
    have hs := P.size i p (by rw [← e]; exact List.getElem?_eq_getElem hi)
    exact cut_bd hd hs.1 hs.2.1 hs.2.2.1 hs.2.2.2
  · cases g with
    | none => cases hz
    | some y =>
      cases hz
      obtain ⟨p, hp, ep⟩ := P.last
      have hs := P.size _ p hp
      have hg := P.gb y rfl
      rw [ep]
      exact cut_bd hd hg.1 hg.2 hs.2.2.1 hs.2.2.2
def gmax : Option Int → Option Int → Option Int
  | none, y => y
  | some i, some j => some (if j > i then j else i)
  | x, none => x
theorem gE_gv (x y : Option Int) : gE (gv x) (gv y) = gv (gmax x y) := by cases x <;> cases y <;> rfl
theorem EdS.max {E1 E2 : List V} {a b : List Int} {g1 g2 : Option Int} (h1 : EdS E1 a g1) (h2 : EdS E2 b g2) (hl : a.length = b.length) : EdS (List.zipWith gE E1 E2) (List.zipWith (fun i j => if j > i then j else i) a b) (gmax g1 g2) := by
  refine ⟨?_, fun x hx => ?_, fun z hz => ?_⟩
  · rw [h1.eq, h2.eq, List.zipWith_append (by simpa using hl)]
    congr 1
    · rw [List.zipWith_map_left, List.zipWith_map_right, List.map_zipWith]; rfl
    · show [gE (gv g1) (gv g2)] = _
      rw [gE_gv]
  · obtain ⟨i, hi, e⟩ := List.getElem_of_mem hx
    have hi' := hi
    rw [List.length_zipWith] at hi'
    have hia : i < a.length := by omega
    have hib : i < b.length := by omega
    rw [List.getElem_zipWith] at e
    have e1 := h1.bd a[i] (List.getElem_mem _)
    have e2 := h2.bd b[i] (List.getElem_mem _)
    rw [← e]
    split
    · exact e2
    · exact e1
  · cases g1 with
    | none => exact h2.gb z hz
    | some i =>
      cases g2 with
      | none => exact h1.gb z hz
      | some j =>
        have e1 := h1.gb i rfl
        have e2 := h2.gb j rfl
        simp only [gmax, Option.some.injEq] at hz
        rw [← hz]
        split
        · exact e2
        · exact e1
def wl (ws es : List Int) (t : Int) : List Int := ((ws.zip es).filter fun x => decide (t < x.2)).map (·.1)
def goneB (ge : Option Int) (t : Int) : Prop := ∃ z, ge = some z ∧ t < z
def CellOf (ws es : List Int) (ge : Option Int) (t : Int) (o : Option (Int × Int)) : Prop :=
  (∀ e0, es[0]? = some e0 → (e0 ≤ t → o = some (t, 0)) ∧ (t < e0 → (goneB ge t → o = none) ∧ (¬ goneB ge t → ∃ w, (wl ws es t)[(wl ws es t).length - 1]? = some w ∧ o = some (t / w * w, w))))
def CellAt (H : Hp) (v : V) (o : Option (Int × Int)) : Prop := match o with
  | none => v = .non
  | some p => PairAt H v p
theorem CellAt.same {H H' : Hp} {v : V} {o : Option (Int × Int)} (s : Same H H') (h : CellAt H v o) : CellAt H' v o := by
  cases o with
  | none => exact h
  | some p => exact PairAt.same s h
inductive sp_lcell (K : PySem.W.Frag) (vs : List V) (H : Hp) (Q : VK) (E_ : XK) : Prop
  | mk : ∀ (a : Addr) (ns : List Int) (k : Int), vs = [.ref a, .int k] → SqL K H a (List.map V.int ns) → 0 ≤ k → (∀ i, Q (.int i) H) → sp_lcell K vs H Q E_
inductive sp_lgreater (vs : List V) (H : Hp) (Q : VK) (E_ : XK) : Prop
  | mk : ∀ (a b : Addr) (xs ys : List V), vs = [.ref a, .ref b] → H a = some (.lst xs) → H b = some (.lst ys) → (∀ v ∈ xs, Ed v) → (∀ v ∈ ys, Ed v) → xs.length = ys.length → xs.length ≤ 1000 → (∀ p H', New H H' p (.lst (List.zipWith gE xs ys)) → Q (.ref p) H') → sp_lgreater vs H Q E_
theorem CellOf.a {ws es : List Int} {ge : Option Int} {t e0 : Int} (h0 : es[0]? = some e0) (h : e0 ≤ t) : CellOf ws es ge t (some (t, 0)) := fun x hx => by
  rw [h0] at hx; cases hx
  exact ⟨fun _ => rfl, fun h' => absurd h (by omega)⟩
theorem CellOf.b {ws es : List Int} {ge : Option Int} {t e0 : Int} (h0 : es[0]? = some e0) (h : t < e0) (hg : goneB ge t) : CellOf ws es ge t none := fun x hx => by
  rw [h0] at hx; cases hx
  exact ⟨fun h' => absurd h (by omega), fun _ => ⟨fun _ => rfl, fun n => absurd hg n⟩⟩
theorem CellOf.c {ws es : List Int} {ge : Option Int} {t e0 w : Int} (h0 : es[0]? = some e0) (h : t < e0) (hg : ¬ goneB ge t) (hw : (wl ws es t)[(wl ws es t).length - 1]? = some w) : CellOf ws es ge t (some (t / w * w, w)) := fun x hx => by
  rw [h0] at hx; cases hx
  exact ⟨fun h' => absurd h (by omega), fun _ => ⟨fun n => absurd n hg, fun _ => ⟨w, hw, rfl⟩⟩⟩
theorem sq_mono {K : PySem.W.Frag} {H H' : Hp} {a : Addr} {xs : List V} (s : Same H H') (h : SqL K H a xs) : SqL K H' a xs := by
  rcases h with (h | ⟨o, h⟩) | h
  · exact .inl (.inl (s _ _ h))
  · exact .inl (.inr ⟨o, s _ _ h⟩)
  · exact .inr h
theorem notN_ints : ∀ es : List Int, (es.map V.int).filter notN = es.map V.int
  | [] => rfl
  | e :: r => by rw [List.map_cons, List.filter_cons_of_pos (by rfl), notN_ints r]
theorem known (es : List Int) (ge : Option Int) : (es.map V.int ++ [gv ge]).filter notN = (es ++ ge.toList).map V.int := by
  rw [List.filter_append, notN_ints, List.map_append]
  cases ge <;> rfl
theorem lc_listN {K : PySem.W.Frag} {a : Addr} {xs : List V} {g : TG} {tc : TT} {te : TE} {Q : VK} {σ : St} {H : Hp} (Pv : Nat → List V → Hp → Prop) (hz : xs.length ≤ sizeLine) (h0 : Pv 0 [] H) (hl : ∀ i ys H, Pv i ys H → SqL K H a xs ∧ ys.length ≤ i)
    (hs : ∀ i x ys H, xs[i]? = some x → Pv i ys H → g x σ H fun σ4 H4 => tc σ4 H4 fun b H5 => if b = true then te σ4 H5 fun v H6 => Pv (i + 1) (ys ++ [v]) H6 else Pv (i + 1) ys H5)
    (hd : ∀ ys H p H', Pv xs.length ys H → New H H' p (.lst ys) → Q (.ref p) H') : lcGoal (Itl K a) Q g tc te σ H :=
  lc_list Pv hz h0 hl hs fun ys H p p' hp => hd ys H p _ p' (new_upd hp)
end TB
namespace TB
open PySem L2
def RunOk (p : Int × Int) : Prop := (-(10 ^ 40) < p.1 ∧ p.1 < 10 ^ 40) ∧ 1 ≤ p.2 ∧ p.2 < 10 ^ 40
def RunsOk (rs : List (Int × Int)) : Prop := ∀ p ∈ rs, RunOk p
def RunT (p : Int × Int) : Prop := (-(10 ^ 31) < p.1 ∧ p.1 < 10 ^ 31) ∧ 1 ≤ p.2 ∧ p.2 < 10 ^ 31
def RunsT (rs : List (Int × Int)) : Prop := ∀ p ∈ rs, RunT p
theorem RunT.ok {p : Int × Int} (h : RunT p) : RunOk p := by unfold RunT at h; unfold RunOk; omega
theorem RunsT.ok {rs : List (Int × Int)} (h : RunsT rs) : RunsOk rs := fun p hp => (h p hp).ok
def vals (rs : List (Int × Int)) : List Int := rs.map fun p => p.1
def cnts (rs : List (Int × Int)) : List Int := rs.map fun p => p.2
def prds (rs : List (Int × Int)) : List Int := rs.map fun p => p.1 * p.2
def rN (rs : List (Int × Int)) : Int := (cnts rs).sum
def rT (rs : List (Int × Int)) : Int := (prds rs).sum
structure HeapOf (rs : List (Int × Int)) (vm vt vl vg : Int) : Prop where
  m : vm = rN rs
  t : vt = rT rs
  lo : vl ∈ vals rs
  lo' : ∀ a ∈ vals rs, vl ≤ a
  hi : vg ∈ vals rs
  hi' : ∀ a ∈ vals rs, a ≤ vg
theorem rN_cons (p : Int × Int) (rs : List (Int × Int)) : rN (p :: rs) = p.2 + rN rs := by simp [rN, cnts]
theorem rT_cons (p : Int × Int) (rs : List (Int × Int)) : rT (p :: rs) = p.1 * p.2 + rT rs := by simp [rT, prds]
theorem rN_app (rs qs : List (Int × Int)) : rN (rs ++ qs) = rN rs + rN qs := by
  induction rs with
  | nil => simp [rN, cnts]
  | cons p r ih => rw [List.cons_append, rN_cons, rN_cons, ih]; omega
theorem rT_app (rs qs : List (Int × Int)) : rT (rs ++ qs) = rT rs + rT qs := by
  induction rs with
  | nil => simp [rT, prds]
  | cons p r ih => rw [List.cons_append, rT_cons, rT_cons, ih]; omega
theorem vals_app (rs qs : List (Int × Int)) : vals (rs ++ qs) = vals rs ++ vals qs := by simp [vals]
theorem HeapOf.app {rs qs : List (Int × Int)} {m t lo hi m' t' lo' hi' : Int} (a : HeapOf rs m t lo hi) (b : HeapOf qs m' t' lo' hi') : HeapOf (rs ++ qs) (m + m') (t + t') (if lo' < lo then lo' else lo) (if hi' > hi then hi' else hi) := by
  refine ⟨by rw [rN_app, a.m, b.m], by rw [rT_app, a.t, b.t], ?_, ?_, ?_, ?_⟩
  · rw [vals_app]
    split
    · exact List.mem_append_right _ b.lo
    · exact List.mem_append_left _ a.lo
  · intro x hx
    rw [vals_app] at hx
    rcases List.mem_append.mp hx with h | h
    · have := a.lo' x h
      split <;> omega
    · have := b.lo' x h
      split <;> omega
  · rw [vals_app]
    split
    · exact List.mem_append_right _ b.hi
    · exact List.mem_append_left _ a.hi
  · intro x hx
    rw [vals_app] at hx
    rcases List.mem_append.mp hx with h | h
    · have := a.hi' x h
      split <;> omega
    · have := b.hi' x h
      split <;> omega
theorem RunsOk.sub {rs qs : List (Int × Int)} (h : RunsOk rs) (s : ∀ p ∈ qs, p ∈ rs) : RunsOk qs := fun p hp => h p (s p hp)
theorem Pairs.app {H : Hp} : ∀ {xs ys : List V} {ps qs : List (Int × Int)}, Pairs H xs ps → Pairs H ys qs → Pairs H (xs ++ ys) (ps ++ qs)
  | _, _, _, _, .nil, h => h
  | _, _, _, _, .cons r t, h => .cons r (Pairs.app t h)
theorem Pairs.take {H : Hp} : ∀ {xs : List V} {ps : List (Int × Int)} (k : Nat), Pairs H xs ps → Pairs H (xs.take k) (ps.take k)
  | _, _, 0, _ => by simp; exact .nil
  | _, _, k + 1, .nil => by simp; exact .nil
  | _, _, k + 1, .cons r t => .cons r (Pairs.take k t)
theorem cutTo (xs : List V) (k : Nat) (h : k ≤ xs.length) : cutV xs none (some (k : Int)) = xs.take k := by
  unfold cutV
  rw [HT.sIx_none, HT.sIx_nat, Nat.min_eq_left h]
  simp
end TB
namespace TB
open PySem L2
def rof (ru : Addr) (day : Int) (le dy dh : Addr) : List (Str × V) := putF "cell_heaps" (.ref dh) (putF "whole_ones" (.ref dy) (putF "kept_edges" (.ref le) (putF "kept_day" (.int day) (putF "kept_rule" (.ref ru) []))))
section
variable (ru : Addr) (day : Int) (le dy dh : Addr)
theorem rof_kr : (rof ru day le dy dh).lookup ("kept_rule" : Str) = some (.ref ru) := by
  unfold rof; rw [lookup_putF, if_neg (by decide +kernel), lookup_putF, if_neg (by decide +kernel), lookup_putF, if_neg (by decide +kernel), lookup_putF, if_neg (by decide +kernel), lookup_putF, if_pos rfl]
theorem rof_kd : (rof ru day le dy dh).lookup ("kept_day" : Str) = some (.int day) := by
  unfold rof; rw [lookup_putF, if_neg (by decide +kernel), lookup_putF, if_neg (by decide +kernel), lookup_putF, if_neg (by decide +kernel), lookup_putF, if_pos rfl]
theorem rof_ke : (rof ru day le dy dh).lookup ("kept_edges" : Str) = some (.ref le) := by
  unfold rof; rw [lookup_putF, if_neg (by decide +kernel), lookup_putF, if_neg (by decide +kernel), lookup_putF, if_pos rfl]
theorem rof_wo : (rof ru day le dy dh).lookup ("whole_ones" : Str) = some (.ref dy) := by
  unfold rof; rw [lookup_putF, if_neg (by decide +kernel), lookup_putF, if_pos rfl]
theorem rof_ch : (rof ru day le dy dh).lookup ("cell_heaps" : Str) = some (.ref dh) := by
  unfold rof; rw [lookup_putF, if_pos rfl]
theorem rof_no {m : Str} (h1 : ¬ m = "cell_heaps") (h2 : ¬ m = "whole_ones") (h3 : ¬ m = "kept_edges") (h4 : ¬ m = "kept_day") (h5 : ¬ m = "kept_rule") : (rof ru day le dy dh).lookup m = none := by
  unfold rof; rw [lookup_putF, if_neg h1, lookup_putF, if_neg h2, lookup_putF, if_neg h3, lookup_putF, if_neg h4, lookup_putF, if_neg h5]; rfl
theorem rof_rule : (rof ru day le dy dh).lookup ("rule" : Str) = none := rof_no _ _ _ _ _ (by decide +kernel) (by decide +kernel) (by decide +kernel) (by decide +kernel) (by decide +kernel)
theorem rof_day : (rof ru day le dy dh).lookup ("day" : Str) = none := rof_no _ _ _ _ _ (by decide +kernel) (by decide +kernel) (by decide +kernel) (by decide +kernel) (by decide +kernel)
theorem rof_edges : (rof ru day le dy dh).lookup ("edges" : Str) = none := rof_no _ _ _ _ _ (by decide +kernel) (by decide +kernel) (by decide +kernel) (by decide +kernel) (by decide +kernel)
theorem rof_young : (rof ru day le dy dh).lookup ("young" : Str) = none := rof_no _ _ _ _ _ (by decide +kernel) (by decide +kernel) (by decide +kernel) (by decide +kernel) (by decide +kernel)
theorem rof_heaps : (rof ru day le dy dh).lookup ("heaps" : Str) = none := rof_no _ _ _ _ _ (by decide +kernel) (by decide +kernel) (by decide +kernel) (by decide +kernel) (by decide +kernel)
end
abbrev KV := List (List Key × V)
structure RollD where
  ru : Addr
  rl : Addr
  le : Addr
  dy : Addr
  dh : Addr
  ps : List (Int × Int)
  g : Option Int
  day : Int
  es : List Int
  ge : Option Int
  Y : KV
  Z : KV
structure RollAt (C R : Addr) (H : Hp) (ro : Addr) (D : RollD) : Prop where
  ob : ∃ dx, H ro = some (.ins C dx (rof D.ru D.day D.le D.dy D.dh))
  rule : RuleAt R H D.ru D.rl D.ps D.g
  ed : H D.le = some (.lst (D.es.map V.int ++ [gv D.ge]))
  yo : H D.dy = some (.dT D.Y)
  he : H D.dh = some (.dT D.Z)
  ne : D.dy ≠ D.dh
theorem RollAt.same {C R : Addr} {H H' : Hp} {ro : Addr} {D : RollD} (s : Same H H') (h : RollAt C R H ro D) : RollAt C R H' ro D :=
  ⟨let ⟨dx, e⟩ := h.ob; ⟨dx, s _ _ e⟩, h.rule.same s, s _ _ h.ed, s _ _ h.yo, s _ _ h.he, h.ne⟩
theorem RuleAt.but2 {C : Addr} {H H' : Hp} {r l a : Addr} {ps : List (Int × Int)} {g : Option Int} {o : HO} (h : RuleAt C H r l ps g) (b : But a H H') (ha : H a = some o) (nt : ∀ xs, o ≠ .tup xs) (nl : ∀ xs, o ≠ .lst xs) (hr : r ≠ a) : RuleAt C H' r l ps g := by
  obtain ⟨dx, e⟩ := h.ob
  obtain ⟨xs, e2, p⟩ := h.ls
  exact ⟨⟨dx, b _ _ e hr⟩, xs, b _ _ e2 (ne_of e2 ha (fun z => nl xs z.symm)), p.but b ha nt⟩
def But2 (a b : Addr) (H H' : Hp) : Prop := ∀ c o, H c = some o → c ≠ a → c ≠ b → H' c = some o
structure RollOk (D : RollD) : Prop where
  pr : Pr D.ps D.g
  es : D.es.length = D.ps.length
def newD (ru rl le dy dh : Addr) (ps : List (Int × Int)) (g : Option Int) (day : Int) : RollD := ⟨ru, rl, le, dy, dh, ps, g, day, ps.map (fun p => cut day p.1 p.2), g.map (fun z => cut day z (lw ps)), [], []⟩
def ZOk (H : Hp) (Z : KV) : Prop := ∀ k x, valV Z k = some x → ∃ (h : Addr) (m t lo hi : Int), x = .ref h ∧ H h = some (.tup [.int m, .int t, .int lo, .int hi])
theorem ZOk.same {H H' : Hp} {Z : KV} (s : Same H H') (h : ZOk H Z) : ZOk H' Z := fun k x e => by
  obtain ⟨a, m, t, lo, hi, e1, e2⟩ := h k x e
  exact ⟨a, m, t, lo, hi, e1, s _ _ e2⟩
def kk (a b : Int) : List Key := [.inl a, .inl b]
theorem Pr.w1 {ps : List (Int × Int)} {g : Option Int} (P : Pr ps g) {w : Int} (h : w ∈ ps.map (·.2)) : 1 ≤ w := by
  obtain ⟨p, hp, rfl⟩ := List.mem_map.mp h
  obtain ⟨i, hi, e⟩ := List.getElem_of_mem hp
  exact (P.size i p (by rw [← e]; exact List.getElem?_eq_getElem hi)).2.2.1
inductive sp_roll_init (C R : Addr) (vs : List V) (H : Hp) (Q : VK) (E_ : XK) : Prop
  | mk : ∀ (ro dx ru rl : Addr) (ps : List (Int × Int)) (g : Option Int) (day : Int), vs = [.ref ro, .ref ru, .int day] → H ro = some (.ins C dx []) → RuleAt R H ru rl ps g → Pr ps g → Bd day → (∀ le dy dh H', H le = none → H dy = none → H dh = none → RollAt C R H' ro (newD ru rl le dy dh ps g day) → But ro H H' → Q .non H') → sp_roll_init C R vs H Q E_
def sp_rrule (C R : Addr) : Sp := fun vs H Q _ => ∃ (ro : Addr) (D : RollD), vs = [.ref ro] ∧ RollAt C R H ro D ∧ Q (.ref D.ru) H
def sp_rday (C R : Addr) : Sp := fun vs H Q _ => ∃ (ro : Addr) (D : RollD), vs = [.ref ro] ∧ RollAt C R H ro D ∧ Q (.int D.day) H
def sp_redges (C R : Addr) : Sp := fun vs H Q _ => ∃ (ro : Addr) (D : RollD), vs = [.ref ro] ∧ RollAt C R H ro D ∧ ∀ p H', New H H' p (.lst (D.es.map V.int ++ [gv D.ge])) → Q (.ref p) H'
def TupAt (H : Hp) (v : V) (r : List Int) : Prop := ∃ a, v = .ref a ∧ H a = some (.tup (r.map V.int))
def Tups (H : Hp) (xs : List V) (rs : List (List Int)) : Prop := Paired (TupAt H) xs rs
theorem TupAt.same {H H' : Hp} (s : Same H H') {v : V} {r : List Int} : TupAt H v r → TupAt H' v r := fun ⟨a, e, h⟩ => ⟨a, e, s _ _ h⟩
theorem Tups.same {H H' : Hp} (s : Same H H') : ∀ {xs : List V} {rs : List (List Int)}, Tups H xs rs → Tups H' xs rs
  | _, _, .nil => .nil
  | _, _, .cons r t => .cons (r.same s) (Tups.same s t)
theorem Tups.length {H : Hp} : ∀ {xs : List V} {rs : List (List Int)}, Tups H xs rs → xs.length = rs.length
  | _, _, .nil => rfl
  | _, _, .cons _ t => by simp [Tups.length t]
theorem Tups.get {H : Hp} : ∀ {xs : List V} {rs : List (List Int)} {i : Nat} {x : V}, Tups H xs rs → xs[i]? = some x → ∃ r, rs[i]? = some r ∧ TupAt H x r
  | _, _, _, _, .nil, e => by simp at e
  | _, _, 0, _, .cons r _, e => by simp at e; subst e; exact ⟨_, rfl, r⟩
  | _, _, i + 1, x, .cons _ t, e => by
    obtain ⟨u, h1, h2⟩ := Tups.get (i := i) (x := x) t (by simpa using e)
    exact ⟨u, by simpa using h1, h2⟩
end TB
namespace TX
def dg (m : Nat) : List Nat := (Nat.toDigits 10 m).map Char.toNat
def sg (n : Int) : List Nat := (toString n).toList.map Char.toNat
def valD (l : List Nat) : Nat := l.foldl (fun a c => a * 10 + (c - 48)) 0
theorem digit_back : ∀ d : Nat, d < 10 → (Nat.digitChar d).toNat - 48 = d := by decide
theorem digit_in : ∀ d : Nat, d < 10 → 48 ≤ (Nat.digitChar d).toNat ∧ (Nat.digitChar d).toNat ≤ 57 := by decide
theorem dg_small {m : Nat} (h : m < 10) : dg m = [(Nat.digitChar m).toNat] := by
  unfold dg; rw [Nat.toDigits_of_lt_base h]; rfl
theorem dg_big {m : Nat} (h : ¬ m < 10) : dg m = dg (m / 10) ++ [(Nat.digitChar (m % 10)).toNat] := by
  have hm : m % 10 < 10 := Nat.mod_lt m (by decide)
  have t : Nat.toDigits 10 (m / 10) ++ Nat.toDigits 10 (m % 10) = Nat.toDigits 10 (10 * (m / 10) + m % 10) := Nat.toDigits_append_toDigits (by decide) (by omega) hm
  rw [Nat.div_add_mod] at t
  unfold dg
  rw [← t, List.map_append, Nat.toDigits_of_lt_base hm]
  rfl
theorem valD_snoc (l : List Nat) (c : Nat) : valD (l ++ [c]) = valD l * 10 + (c - 48) := by
  unfold valD; rw [List.foldl_append]; rfl
theorem val_dg (m : Nat) : valD (dg m) = m := by
  induction m using Nat.strongRecOn with
  | _ m ih =>
    by_cases h : m < 10
    · rw [dg_small h]
      have := digit_back m h
      show 0 * 10 + ((Nat.digitChar m).toNat - 48) = m
      omega
    · rw [dg_big h, valD_snoc, ih (m / 10) (by omega), digit_back (m % 10) (by omega)]
      omega
theorem dg_inj {a b : Nat} (h : dg a = dg b) : a = b := by rw [← val_dg a, h, val_dg]
theorem dg_in {m c : Nat} (h : c ∈ dg m) : 48 ≤ c ∧ c ≤ 57 := by
  induction m using Nat.strongRecOn with
  | _ m ih =>
    by_cases hm : m < 10
    · rw [dg_small hm] at h
      rw [List.mem_singleton.mp h]
      exact digit_in m hm
    · rw [dg_big hm] at h
      rcases List.mem_append.mp h with h | h
      · exact ih (m / 10) (by omega) h
      · rw [List.mem_singleton.mp h]
        exact digit_in _ (by omega)
theorem dg_len {k : Nat} : ∀ {m : Nat}, 1 ≤ k → m < 10 ^ k → (dg m).length ≤ k := by
  induction k with
  | zero => intro m h; omega
  | succ k ih =>
    intro m _ hm
    by_cases h : m < 10
    · rw [dg_small h]; simp
    · rw [dg_big h]
      have hk : 1 ≤ k := by
        rcases Nat.eq_zero_or_pos k with z | z
        · subst z; simp at hm; omega
        · exact z
      have := ih hk (m := m / 10) (by rw [Nat.pow_succ] at hm; omega)
      simp
      exact this
theorem sg_nat (m : Nat) : sg (m : Int) = dg m := by
  show (Nat.repr m).toList.map Char.toNat = _
  rw [Nat.toList_repr]
  rfl
theorem sg_neg (m : Nat) : sg (Int.negSucc m) = 45 :: dg (m + 1) := by
  show (("-" : String) ++ Nat.repr (m + 1)).toList.map Char.toNat = _
  rw [String.toList_append, List.map_append, Nat.toList_repr]
  rfl
theorem sg_inj {a b : Int} (h : sg a = sg b) : a = b := by
  have n45 : ∀ m t, dg m ≠ 45 :: t := fun m t e => by
    have := dg_in (m := m) (c := 45) (by rw [e]; simp)
    omega
  cases a with
  | ofNat a =>
    cases b with
    | ofNat b => exact congrArg Int.ofNat (dg_inj ((sg_nat a).symm.trans (h.trans (sg_nat b))))
    | negSucc b => exact absurd ((sg_nat a).symm.trans (h.trans (sg_neg b))) (n45 _ _)
  | negSucc a =>
    cases b with
    | ofNat b => exact absurd ((sg_nat b).symm.trans (h.symm.trans (sg_neg a))) (n45 _ _)
    | negSucc b =>
      have e := (sg_neg a).symm.trans (h.trans (sg_neg b))
      have := dg_inj (List.cons.inj e).2
      rw [Nat.succ.inj this]
theorem sg_in {n : Int} {c : Nat} (h : c ∈ sg n) : c = 45 ∨ (48 ≤ c ∧ c ≤ 57) := by
  cases n with
  | ofNat m => exact .inr (dg_in (m := m) (by rw [← sg_nat]; exact h))
  | negSucc m =>
    rw [sg_neg] at h
    rcases List.mem_cons.mp h with z | z
    · exact .inl z
    · exact .inr (dg_in z)
theorem sg_len {n : Int} {k : Nat} (hk : 1 ≤ k) (h : n.natAbs < 10 ^ k) : (sg n).length ≤ k + 1 := by
  cases n with
  | ofNat m =>
    have := dg_len (m := m) hk h
    rw [show sg (Int.ofNat m) = dg m from sg_nat m]
    omega
  | negSucc m =>
    have := dg_len (m := m + 1) hk h
    rw [sg_neg]
    simp
    exact this
theorem mark_inj {a b c d : List Nat} {x : Nat} (ha : x ∉ a) (hc : x ∉ c) (h : a ++ x :: b = c ++ x :: d) : a = c ∧ b = d := by
  induction a generalizing c with
  | nil =>
    cases c with
    | nil => exact ⟨rfl, (List.cons.inj h).2⟩
    | cons y c =>
      have := (List.cons.inj h).1
      exact absurd (by rw [this]; simp) hc
  | cons y a ih =>
    cases c with
    | nil =>
      have := (List.cons.inj h).1
      exact absurd (by rw [← this]; simp) ha
    | cons z c =>
      obtain ⟨e1, e2⟩ := List.cons.inj h
      obtain ⟨e3, e4⟩ := ih (fun q => ha (List.mem_cons_of_mem _ q)) (fun q => hc (List.mem_cons_of_mem _ q)) e2
      exact ⟨by rw [e1, e3], e4⟩
def figs (x : List Nat) : List Nat := if x.take 1 = [45] then x.drop 1 else x
def IsDig (c : Nat) : Prop := 48 ≤ c ∧ c ≤ 57
instance (c : Nat) : Decidable (IsDig c) := inferInstanceAs (Decidable (_ ∧ _))
def Good (x : List Nat) : Prop := figs x ≠ [] ∧ (figs x).length ≤ 1000 ∧ ¬ ((figs x).head? = some 48 ∧ x ≠ [48]) ∧ ∀ c ∈ figs x, IsDig c
instance (x : List Nat) : Decidable (Good x) := inferInstanceAs (Decidable (_ ∧ _ ∧ _ ∧ _))
end TX
namespace TX
open L2
end TX
namespace TB
open PySem L2 TX
def BN (n : Int) : Prop := n.natAbs < 10 ^ 2000
theorem BN.all {n : Int} (h : BN n) : n.natAbs < 10 ^ 4300 := Nat.lt_of_lt_of_le h (Nat.pow_le_pow_right (by decide) (by decide))
theorem BN.of {n : Int} (h1 : -(10 ^ 200) < n) (h2 : n < 10 ^ 200) : BN n := Nat.lt_of_lt_of_le (show n.natAbs < 10 ^ 200 by omega) (Nat.pow_le_pow_right (by decide) (by decide))
theorem sg_len0 {n : Int} (h : BN n) : (sg n).length ≤ 2001 := sg_len (by decide) h
def OddV (H : Hp) (v : V) : Prop := v = .non ∨ (∃ i, v = .int i) ∨ (∃ b, v = .bl b) ∨ (∃ p xs, v = .ref p ∧ H p = some (.tup xs)) ∨ ∃ p xs, v = .ref p ∧ H p = some (.lst xs)
def TextV (H : Hp) (v : V) : Prop := (∃ x, v = .str (S x) ∧ x.length ≤ 3000) ∨ OddV H v
theorem TextV.same {H H' : Hp} {v : V} (h : TextV H v) (s : Same H H') : TextV H' v := by
  rcases h with h | h | h | h | ⟨p, xs, e, h⟩ | ⟨p, xs, e, h⟩
  · exact .inl h
  · exact .inr (.inl h)
  · exact .inr (.inr (.inl h))
  · exact .inr (.inr (.inr (.inl h)))
  · exact .inr (.inr (.inr (.inr (.inl ⟨p, xs, e, s _ _ h⟩))))
  · exact .inr (.inr (.inr (.inr (.inr ⟨p, xs, e, s _ _ h⟩))))
theorem OddV.ty {K : PySem.W.Frag} {H : Hp} {v : V} (h : OddV H v) : ∃ t, TyOf K H v t ∧ PySem.W.kitOne K t (.type "str") = some false := by
  rcases h with rfl | ⟨i, rfl⟩ | ⟨b, rfl⟩ | ⟨p, xs, rfl, h⟩ | ⟨p, xs, rfl, h⟩
  · exact ⟨_, .non, rfl⟩
  · exact ⟨_, .int _, rfl⟩
  · exact ⟨_, .bl _, rfl⟩
  · exact ⟨_, .tup h, rfl⟩
  · exact ⟨_, .lst h, rfl⟩
def frT (a b : Int) : List Nat := if b = 1 then sg a else sg a ++ 47 :: sg b
theorem no47 (a : Int) : 47 ∉ sg a := fun h => by have := sg_in h; omega
theorem frT_inj {a b c d : Int} (h : frT a b = frT c d) : a = c ∧ b = d := by
  unfold frT at h
  by_cases hb : b = 1
  · rw [if_pos hb] at h
    by_cases hd : d = 1
    · rw [if_pos hd] at h
      exact ⟨sg_inj h, by rw [hb, hd]⟩
    · rw [if_neg hd] at h
      exact absurd (by rw [h]; simp) (no47 a)
  · rw [if_neg hb] at h
    by_cases hd : d = 1
    · rw [if_pos hd] at h
      exact absurd (by rw [← h]; simp) (no47 c)
    · rw [if_neg hd] at h
      obtain ⟨e1, e2⟩ := mark_inj (no47 a) (no47 c) h
      exact ⟨sg_inj e1, sg_inj e2⟩
theorem frT_len {a b : Int} (ha : BN a) (hb : BN b) : (frT a b).length ≤ 5000 := by
  have h1 := sg_len0 ha
  have h2 := sg_len0 hb
  unfold frT
  split
  · omega
  · rw [List.length_append, List.length_cons]; omega
def EndT (H : Hp) (w : Str) (v : V) (t : List Nat) : Prop :=
  (w = "mean" ∧ ∃ p a b, v = .ref p ∧ H p = some (.tup [.int a, .int b]) ∧ BN a ∧ BN b ∧ t = frT a b) ∨ (w ≠ "mean" ∧ ∃ n, v = .int n ∧ BN n ∧ t = sg n)
theorem EndT.len {H : Hp} {w : Str} {v : V} {t : List Nat} (h : EndT H w v t) : t.length ≤ 5000 := by
  rcases h with ⟨_, p, a, b, _, _, h1, h2, rfl⟩ | ⟨_, n, _, h1, rfl⟩
  · exact frT_len h1 h2
  · have := sg_len0 h1; omega
theorem EndT.eq {K : PySem.W.Frag} {H : Hp} {w : Str} {v u : V} {s t : List Nat} (h : EndT H w v s) (k : EndT H w u t) :
    ∃ d e, Rep K H v d ∧ Rep K H u e ∧ d.canLay0 = true ∧ e.canLay0 = true ∧ d.depth ≤ 20 ∧ PyData.eqv d e = decide (s = t) := by
  rcases h with ⟨hw, p, a, b, rfl, h0, h1, h2, rfl⟩ | ⟨hw, n, rfl, h1, rfl⟩
  · rcases k with ⟨_, q, c, d, rfl, k0, k1, k2, rfl⟩ | ⟨kw, _⟩
    · refine ⟨_, _, .tup (SqT.of h0) (.cons (.int a) (.cons (.int b) .nil)), .tup (SqT.of k0) (.cons (.int c) (.cons (.int d) .nil)), by simp [PyData.canLay0, PyData.canLayAll0], by simp [PyData.canLay0, PyData.canLayAll0], by simp [PyData.depth, PyData.depthAll], ?_⟩
      have e : (frT a b = frT c d) ↔ (a = c ∧ b = d) := ⟨frT_inj, fun ⟨x, y⟩ => by rw [x, y]⟩
      rw [Bool.eq_iff_iff, decide_eq_true_iff, e]
      simp [PyData.eqv, PyData.eqvAll]
    · exact absurd hw kw
  · rcases k with ⟨kw, _⟩ | ⟨_, m, rfl, k1, rfl⟩
    · exact absurd kw hw
    · refine ⟨_, _, .int n, .int m, rfl, rfl, by simp [PyData.depth], ?_⟩
      have e : (sg n = sg m) ↔ n = m := ⟨sg_inj, fun x => by rw [x]⟩
      rw [Bool.eq_iff_iff, decide_eq_true_iff, e]
      simp [PyData.eqv]
end TB
namespace TB
open PySem L2 TX
def Figs (x : List Nat) : Prop := 1 ≤ x.length ∧ x.length ≤ 1000 ∧ (x = [48] ∨ (x.head? ≠ some 48 ∧ ∀ c ∈ x, IsDig c))
instance (x : List Nat) : Decidable (Figs x) := inferInstanceAs (Decidable (_ ∧ _ ∧ _))
end TB
namespace TB
open PySem L2
abbrev tS (w : List Nat) : V := V.str (S w)
def kS (x : List Nat) : Key := Sum.inr (S x)
theorem kS_inj {a b : List Nat} (h : kS a = kS b) : a = b := S_inj (Sum.inr.inj h)
def Ents {α : Type} (R : V → α → Prop) (kvs : List (Key × V)) (E : List (List Nat × α)) : Prop := Paired (fun (p : Key × V) (e : List Nat × α) => p.1 = kS e.1 ∧ R p.2 e.2) kvs E
section
variable {α : Type} {R R' : V → α → Prop} {kvs : List (Key × V)} {E : List (List Nat × α)}
theorem Ents.keys (h : Ents R kvs E) : kvs.map (·.1) = (E.map (·.1)).map (fun q => Sum.inr (S q)) := by
  unfold Ents at h
  induction h with
  | nil => rfl
  | cons a t ih => rw [List.map_cons, List.map_cons, List.map_cons, ih, a.1]; rfl
theorem Ents.len (h : Ents R kvs E) : kvs.length = E.length := by have := congrArg List.length h.keys; simpa using this
theorem Ents.imp (h : Ents R kvs E) (f : ∀ v a, R v a → R' v a) : Ents R' kvs E := by
  unfold Ents at h ⊢
  induction h with
  | nil => exact .nil
  | cons a t ih => exact .cons ⟨a.1, f _ _ a.2⟩ ih
theorem valV_cons (p : Key × V) (l : List (Key × V)) (k : Key) : valV (p :: l) k = if p.1 = k then some p.2 else valV l k := by
  unfold valV
  rw [List.find?_cons]
  by_cases e : p.1 = k
  · rw [if_pos e, decide_eq_true e]; rfl
  · rw [if_neg e, decide_eq_false e]
theorem Ents.hasn (h : Ents R kvs E) {x : List Nat} (hx : x ∉ E.map (·.1)) : valV kvs (kS x) = none := by
  unfold Ents at h
  induction h with
  | nil => rfl
  | @cons p e ps es a t ih =>
    rw [List.map_cons, List.mem_cons, not_or] at hx
    rw [valV_cons, if_neg (fun z => hx.1 (kS_inj (z.symm.trans a.1))), ih hx.2]
theorem Ents.has (h : Ents R kvs E) {x : List Nat} (hx : x ∈ E.map (·.1)) : ∃ v a, valV kvs (kS x) = some v ∧ (x, a) ∈ E ∧ R v a := by
  unfold Ents at h
  induction h with
  | nil => cases hx
  | @cons p e ps es a t ih =>
    rw [valV_cons]
    by_cases z : p.1 = kS x
    · have ex : e.1 = x := kS_inj (a.1.symm.trans z)
      rw [if_pos z]
      exact ⟨_, e.2, rfl, by rw [← ex]; exact List.mem_cons_self, a.2⟩
    · rw [List.map_cons, List.mem_cons] at hx
      rcases hx with e' | hx
      · exact absurd (by rw [a.1, e']) z
      · rw [if_neg z]
        obtain ⟨v, b, h1, h2, h3⟩ := ih hx
        exact ⟨v, b, h1, List.mem_cons_of_mem _ h2, h3⟩
theorem Ents.snoc {v : V} {a : α} {x : List Nat} (r : R v a) : ∀ {kvs : List (Key × V)} {E : List (List Nat × α)}, Ents R kvs E → Ents R (kvs ++ [(kS x, v)]) (E ++ [(x, a)])
  | _, _, .nil => .cons ⟨rfl, r⟩ .nil
  | _, _, .cons b t => .cons b (Ents.snoc r t)
theorem Ents.put (h : Ents R kvs E) {x : List Nat} (hx : x ∉ E.map (·.1)) {v : V} {a : α} (r : R v a) : Ents R (putK kvs (kS x) v) (E ++ [(x, a)]) := by
  have e : putK kvs (kS x) v = kvs ++ [(kS x, v)] := by
    unfold putK
    rw [if_neg]
    intro z
    obtain ⟨p, hp, hk⟩ := List.any_eq_true.mp z
    have : p.1 ∈ kvs.map (·.1) := List.mem_map.mpr ⟨p, hp, rfl⟩
    rw [h.keys, of_decide_eq_true hk] at this
    obtain ⟨y, hy, ey⟩ := List.mem_map.mp this
    exact hx ((kS_inj (show kS y = kS x from ey)) ▸ hy)
  rw [e]
  exact h.snoc r
theorem Ents.get : ∀ {kvs : List (Key × V)} {E : List (List Nat × α)} {i : Nat} {k : Key} {v : V}, Ents R kvs E → kvs[i]? = some (k, v) → ∃ e, E[i]? = some e ∧ k = kS e.1 ∧ R v e.2
  | _, _, _, _, _, .nil, h => by simp at h
  | _, _, 0, _, _, .cons b t, h => by cases h; exact ⟨_, rfl, b⟩
  | _, _, i + 1, _, _, .cons b t, h => Ents.get (i := i) t h
end
abbrev Rows := List (List Nat × List (List Nat))
def bof (ru : Addr) (day : Int) (le dm dr : Addr) : List (Str × V) := putF "kept_rolls" (.ref dr) (putF "kept_marks" (.ref dm) (putF "kept_edges" (.ref le) (putF "kept_day" (.int day) (putF "kept_rule" (.ref ru) []))))
section
variable (ru : Addr) (day : Int) (le dm dr : Addr)
theorem bof_kr : (bof ru day le dm dr).lookup ("kept_rule" : Str) = some (.ref ru) := by
  unfold bof; rw [lookup_putF, if_neg (by decide +kernel), lookup_putF, if_neg (by decide +kernel), lookup_putF, if_neg (by decide +kernel), lookup_putF, if_neg (by decide +kernel), lookup_putF, if_pos rfl]
theorem bof_kd : (bof ru day le dm dr).lookup ("kept_day" : Str) = some (.int day) := by
  unfold bof; rw [lookup_putF, if_neg (by decide +kernel), lookup_putF, if_neg (by decide +kernel), lookup_putF, if_neg (by decide +kernel), lookup_putF, if_pos rfl]
theorem bof_ke : (bof ru day le dm dr).lookup ("kept_edges" : Str) = some (.ref le) := by
  unfold bof; rw [lookup_putF, if_neg (by decide +kernel), lookup_putF, if_neg (by decide +kernel), lookup_putF, if_pos rfl]
theorem bof_km : (bof ru day le dm dr).lookup ("kept_marks" : Str) = some (.ref dm) := by
  unfold bof; rw [lookup_putF, if_neg (by decide +kernel), lookup_putF, if_pos rfl]
theorem bof_ks : (bof ru day le dm dr).lookup ("kept_rolls" : Str) = some (.ref dr) := by
  unfold bof; rw [lookup_putF, if_pos rfl]
theorem bof_no {m : Str} (h1 : ¬ m = "kept_rolls") (h2 : ¬ m = "kept_marks") (h3 : ¬ m = "kept_edges") (h4 : ¬ m = "kept_day") (h5 : ¬ m = "kept_rule") : (bof ru day le dm dr).lookup m = none := by
  unfold bof; rw [lookup_putF, if_neg h1, lookup_putF, if_neg h2, lookup_putF, if_neg h3, lookup_putF, if_neg h4, lookup_putF, if_neg h5]; rfl
end
structure BookD where
  ru : Addr
  rl : Addr
  le : Addr
  dm : Addr
  dr : Addr
  ps : List (Int × Int)
  g : Option Int
  day : Int
def TxtL (H : Hp) (v : V) (ms : List (List Nat)) : Prop := ∃ a, v = .ref a ∧ H a = some (.lst (ms.map tS))
theorem TxtL.same {H H' : Hp} {v : V} {ms : List (List Nat)} (h : TxtL H v ms) (s : Same H H') : TxtL H' v ms := let ⟨a, e, q⟩ := h; ⟨a, e, s _ _ q⟩
end TB
local macro_rules | `(tactic| walk_at "same") => `(tactic| first | exact L2.Same.refl _ | assumption | exact L2.New.same (by assumption) | (refine L2.same_by ?_ (by assumption); walk_at "same") | (refine L2.Same.trans ?_ (by assumption); walk_at "same"))
local macro_rules | `(tactic| walk_at "fact") => `(tactic| first | assumption | exact L2.New.at_ (by assumption) | (refine L2.up_new (by assumption) ?_; walk_at "fact") | (refine L2.up_same (by assumption) ?_; walk_at "fact"))
local macro_rules | `(tactic| walk_at "sq") => `(tactic| first | assumption | exact L2.SqL.of (by walk_at "fact") | exact L2.SqT.of (by walk_at "fact") | exact Or.inl (L2.SqL.of (by walk_at "fact")) | exact Or.inr (L2.SqT.of (by walk_at "fact")) | exact Or.inl (by assumption) | walk_at "fact")
local macro_rules | `(tactic| walk_at "c") => `(tactic| first
  | ((with_reducible show _ ≤ PySem.sizeLine); first | exact Nat.le_of_lt (L2.small1000 (Nat.le_of_ble_eq_true rfl)) | exact Nat.le_of_lt (L2.small1000 (by omega)) | exact Nat.le_of_lt (L2.small1000 (by simp only [List.length_map, List.length_append, List.length_cons, List.length_nil]; omega)))
  | ((with_reducible show _ < PySem.sizeLine); first | exact L2.small1000 (by omega) | exact L2.small1000 (by simp only [List.length_map, List.length_append, List.length_cons, List.length_nil]; omega))
  | decide | omega | (dsimp only; first | decide | omega) | (simp only [List.length_map, List.length_append, List.length_cons, List.length_nil]; omega)
  | ((with_reducible refine And.intro ?_ ?_) <;> walk_at "c")
  | (refine And.intro ?_ ?_ <;> walk_at "c") | (refine Or.inl ?_; walk_at "c") | (refine Or.inr ?_; walk_at "c"))
local macro_rules | `(tactic| walk_at "at") => `(tactic| first | rfl | assumption | exact L2.atI_nat (by assumption) | exact TB.atI_m1 (by assumption))
local macro_rules | `(tactic| walk_at "ty") => `(tactic| first | exact L2.TyOf.int _ | exact L2.TyOf.bl _ | exact L2.TyOf.non | exact L2.TyOf.str _ | exact L2.TyOf.lst (by walk_at "fact") | exact L2.TyOf.tup (by walk_at "fact"))
local macro_rules | `(tactic| walk_at "kit") => `(tactic| first | exact L2.kit_int_int _ | exact L2.kit_int_bool _ | exact L2.kit_list _ | exact L2.kit_tuple _ | rfl)
local macro_rules | `(tactic| walk_at "r1") => `(tactic| first
  | refine L2.tVarS.mk _ rfl ?_
  | refine L2.rI0S.mk _ _ rfl rfl ?_
  | refine L2.rIxLS.mk _ _ _ _ rfl rfl (by walk_at "sq") (by walk_at "at") ?_
  | refine L2.rIxTS.mk _ _ _ _ rfl rfl (by walk_at "sq") (by walk_at "at") ?_
  | refine L2.rIS.mk _ _ rfl rfl (by walk_at "c") ?_
  | refine L2.tBS.mk _ rfl ?_
  | refine L2.tAndVS.mk _ rfl ?_
  | refine L2.tOrVS.mk _ rfl ?_
  | refine L2.tNotVS.mk _ rfl ?_
  | refine L2.rUS.mk _ rfl ?_
  | refine L2.tPartS.mk _ rfl ?_
  | refine L2.rSlLNS.mk _ _ rfl (by walk_at "sq") ?_
  | refine L2.rAppendNS.mk _ _ _ rfl rfl (by walk_at "fact") (by walk_at "c") ?_
  | refine Exists.intro _ (And.intro rfl ?_)
  | refine Exists.intro _ (Exists.intro _ (And.intro rfl (And.intro rfl ?_)))
  | refine And.intro rfl ?_
  | refine Exists.intro _ (Exists.intro _ (And.intro rfl (And.intro (by walk_at "sq") ?_)))
  | refine Exists.intro _ (Exists.intro _ (Exists.intro _ (Exists.intro _ (And.intro rfl (And.intro rfl (And.intro (by walk_at "sq") (And.intro (by walk_at "at") ?_)))))))
  | refine And.intro (Or.inl ⟨rfl, _, L2.SqL.of (by walk_at "fact")⟩) ?_
  | refine Exists.intro _ (Exists.intro _ (Exists.intro _ (And.intro rfl (And.intro rfl (And.intro (by walk_at "fact") (And.intro (by walk_at "c") ?_))))))
  | refine Exists.intro _ (Exists.intro _ (Exists.intro _ (Exists.intro _ (And.intro rfl (And.intro (by walk_at "ty") (And.intro (by walk_at "kit") ?_))))))
  | refine Exists.intro _ (Exists.intro _ (And.intro rfl ?_))
  | refine And.intro (by walk_at "c") ?_
  | refine L2.iteT ?_
  | refine L2.iteF ?_)
local macro_rules | `(tactic| walk_at "r") => `(tactic| (walk_at "r1"; repeat walk_at "r1"))
namespace TB
open PySem L2
def top (i : Nat) : Stmt := PySem.Challenge.pw_thinbook_k61_names_and_marks.main.body.getD i (.Pass ⟨0, 0, 0, 0⟩)
abbrev s_is_whole : Stmt := (top 10)
abbrev s_floored : Stmt := (top 11)
abbrev s_gone_cut : Stmt := (top 13)
abbrev s_edges_at : Stmt := (top 14)
abbrev s_greater_edge : Stmt := (top 15)
abbrev s_greater : Stmt := (top 16)
abbrev s_is_gone : Stmt := (top 17)
abbrev s_width_at : Stmt := (top 18)
abbrev s_cell_at : Stmt := (top 19)
abbrev s_heap_of : Stmt := (top 21)
abbrev s_poured : Stmt := (top 22)
abbrev s_Roll_init : Stmt := (inClass (top 24) 0)
abbrev s_Roll_put : Stmt := (inClass (top 24) 1)
abbrev s_Roll_pour_into_cell : Stmt := (inClass (top 24) 2)
abbrev s_Roll_take_heap : Stmt := (inClass (top 24) 3)
abbrev s_Roll_take_all : Stmt := (inClass (top 24) 4)
abbrev s_Roll_rule : Stmt := (inClass (top 24) 5)
abbrev s_Roll_day : Stmt := (inClass (top 24) 6)
abbrev s_Roll_edges : Stmt := (inClass (top 24) 7)
abbrev s_Roll_young : Stmt := (inClass (top 24) 8)
abbrev s_Roll_heaps : Stmt := (inClass (top 24) 9)
abbrev s_begun : Stmt := (top 25)
abbrev s_is_step : Stmt := (top 28)
abbrev s_check_one_step : Stmt := (top 29)
abbrev s_check_next_step : Stmt := (top 30)
abbrev s_check_steps : Stmt := (top 31)
abbrev s_check_gone : Stmt := (top 32)
abbrev s_Rule_init : Stmt := (inClass (top 33) 0)
abbrev s_Rule_steps : Stmt := (inClass (top 33) 1)
abbrev s_Rule_gone : Stmt := (inClass (top 33) 2)
abbrev s_aged : Stmt := (top 35)
abbrev s_is_small_word : Stmt := (top 40)
abbrev s_is_name : Stmt := (top 41)
abbrev s_is_mark : Stmt := (top 42)
abbrev s_check_marks : Stmt := (top 45)
abbrev s_Book_init : Stmt := (inClass (top 46) 0)
abbrev s_Book_enrol : Stmt := (inClass (top 46) 1)
abbrev s_Book_check_enrolled : Stmt := (inClass (top 46) 2)
abbrev s_Book_own_roll : Stmt := (inClass (top 46) 3)
abbrev s_Book_names : Stmt := (inClass (top 46) 14)
abbrev s_Book_marks : Stmt := (inClass (top 46) 15)
abbrev s_Book_roll : Stmt := (inClass (top 46) 16)
abbrev s__law_cell_at : Stmt := (top 48)
abbrev s__law_mixed : Stmt := (top 49)
abbrev s__law_name : Stmt := (top 50)
abbrev s__law_mark : Stmt := (top 51)
abbrev s__law_odd : Stmt := (top 52)
abbrev s__law_good : Stmt := (top 53)
abbrev s__law_same : Stmt := (top 54)
abbrev s__law_marks : Stmt := (top 55)
abbrev s__law_due : Stmt := (top 56)
abbrev s__law_told : Stmt := (top 57)
abbrev s__law_strange : Stmt := (top 58)
abbrev s__law_kept : Stmt := (top 59)
abbrev s_law : Stmt := (top 60)
theorem sc_is_whole : FnScope ["thing"] ["thing"] (defScope s_is_whole) := ⟨rfl, rfl, rfl, by decide +kernel, rfl, by decide +kernel, by decide +kernel⟩
theorem sc_floored : FnScope ["number", "width"] ["number", "width"] (defScope s_floored) := ⟨rfl, rfl, rfl, by decide +kernel, rfl, by decide +kernel, by decide +kernel⟩
theorem sc_gone_cut : FnScope ["rule", "day", "gone"] ["rule", "day"] (defScope s_gone_cut) := ⟨rfl, rfl, rfl, by decide +kernel, rfl, by decide +kernel, by decide +kernel⟩
theorem sc_edges_at : FnScope ["rule", "day", "cuts"] ["rule", "day"] (defScope s_edges_at) := ⟨rfl, rfl, rfl, by decide +kernel, rfl, by decide +kernel, by decide +kernel⟩
theorem sc_greater_edge : FnScope ["one", "other"] ["one", "other"] (defScope s_greater_edge) := ⟨rfl, rfl, rfl, by decide +kernel, rfl, by decide +kernel, by decide +kernel⟩
theorem sc_greater : FnScope ["one", "other"] ["one", "other"] (defScope s_greater) := ⟨rfl, rfl, rfl, by decide +kernel, rfl, by decide +kernel, by decide +kernel⟩
theorem sc_Roll_init : FnScope ["self", "rule", "day"] ["self", "rule", "day"] (defScope s_Roll_init) := ⟨rfl, rfl, rfl, by decide +kernel, rfl, by decide +kernel, by decide +kernel⟩
theorem sc_Roll_put : FnScope ["self", "time", "value", "many", "cell"] ["self", "time", "value", "many"] (defScope s_Roll_put) := ⟨rfl, rfl, rfl, by decide +kernel, rfl, by decide +kernel, by decide +kernel⟩
theorem sc_Roll_take_heap : FnScope ["self", "start", "heap", "cell"] ["self", "start", "heap"] (defScope s_Roll_take_heap) := ⟨rfl, rfl, rfl, by decide +kernel, rfl, by decide +kernel, by decide +kernel⟩
theorem sc_Roll_take_all : FnScope ["self", "roll", "time", "value", "many", "row"] ["self", "roll"] (defScope s_Roll_take_all) := ⟨rfl, rfl, rfl, by decide +kernel, rfl, by decide +kernel, by decide +kernel⟩
theorem sc_Roll_rule : FnScope ["self"] ["self"] (defScope s_Roll_rule) := ⟨rfl, rfl, rfl, by decide +kernel, rfl, by decide +kernel, by decide +kernel⟩
theorem sc_Roll_day : FnScope ["self"] ["self"] (defScope s_Roll_day) := ⟨rfl, rfl, rfl, by decide +kernel, rfl, by decide +kernel, by decide +kernel⟩
theorem sc_Roll_edges : FnScope ["self"] ["self"] (defScope s_Roll_edges) := ⟨rfl, rfl, rfl, by decide +kernel, rfl, by decide +kernel, by decide +kernel⟩
theorem sc_Roll_young : FnScope ["self"] ["self"] (defScope s_Roll_young) := ⟨rfl, rfl, rfl, by decide +kernel, rfl, by decide +kernel, by decide +kernel⟩
theorem sc_Roll_heaps : FnScope ["self"] ["self"] (defScope s_Roll_heaps) := ⟨rfl, rfl, rfl, by decide +kernel, rfl, by decide +kernel, by decide +kernel⟩
theorem sc_begun : FnScope ["rule", "day", "edges", "roll"] ["rule", "day", "edges"] (defScope s_begun) := ⟨rfl, rfl, rfl, by decide +kernel, rfl, by decide +kernel, by decide +kernel⟩
theorem sc_is_step : FnScope ["thing"] ["thing"] (defScope s_is_step) := ⟨rfl, rfl, rfl, by decide +kernel, rfl, by decide +kernel, by decide +kernel⟩
theorem sc_check_one_step : FnScope ["step"] ["step"] (defScope s_check_one_step) := ⟨rfl, rfl, rfl, by decide +kernel, rfl, by decide +kernel, by decide +kernel⟩
theorem sc_check_next_step : FnScope ["step", "behind"] ["step", "behind"] (defScope s_check_next_step) := ⟨rfl, rfl, rfl, by decide +kernel, rfl, by decide +kernel, by decide +kernel⟩
theorem sc_check_steps : FnScope ["steps", "step", "behind"] ["steps"] (defScope s_check_steps) := ⟨rfl, rfl, rfl, by decide +kernel, rfl, by decide +kernel, by decide +kernel⟩
theorem sc_check_gone : FnScope ["gone", "last_age"] ["gone", "last_age"] (defScope s_check_gone) := ⟨rfl, rfl, rfl, by decide +kernel, rfl, by decide +kernel, by decide +kernel⟩
theorem sc_Rule_init : FnScope ["self", "steps", "gone", "kept"] ["self", "steps", "gone"] (defScope s_Rule_init) := ⟨rfl, rfl, rfl, by decide +kernel, rfl, by decide +kernel, by decide +kernel⟩
theorem sc_Rule_steps : FnScope ["self"] ["self"] (defScope s_Rule_steps) := ⟨rfl, rfl, rfl, by decide +kernel, rfl, by decide +kernel, by decide +kernel⟩
theorem sc_Rule_gone : FnScope ["self"] ["self"] (defScope s_Rule_gone) := ⟨rfl, rfl, rfl, by decide +kernel, rfl, by decide +kernel, by decide +kernel⟩
theorem sc_aged : FnScope ["roll", "day", "new"] ["roll", "day"] (defScope s_aged) := ⟨rfl, rfl, rfl, by decide +kernel, rfl, by decide +kernel, by decide +kernel⟩
theorem sc_is_small_word : FnScope ["thing", "longest"] ["thing", "longest"] (defScope s_is_small_word) := ⟨rfl, rfl, rfl, by decide +kernel, rfl, by decide +kernel, by decide +kernel⟩
theorem sc_is_name : FnScope ["thing"] ["thing"] (defScope s_is_name) := ⟨rfl, rfl, rfl, by decide +kernel, rfl, by decide +kernel, by decide +kernel⟩
theorem sc_is_mark : FnScope ["thing"] ["thing"] (defScope s_is_mark) := ⟨rfl, rfl, rfl, by decide +kernel, rfl, by decide +kernel, by decide +kernel⟩
theorem sc_check_marks : FnScope ["marks"] ["marks"] (defScope s_check_marks) := ⟨rfl, rfl, rfl, by decide +kernel, rfl, by decide +kernel, by decide +kernel⟩
theorem sc_Book_init : FnScope ["self", "rule", "day"] ["self", "rule", "day"] (defScope s_Book_init) := ⟨rfl, rfl, rfl, by decide +kernel, rfl, by decide +kernel, by decide +kernel⟩
theorem sc_Book_enrol : FnScope ["self", "name", "marks", "told"] ["self", "name", "marks"] (defScope s_Book_enrol) := ⟨rfl, rfl, rfl, by decide +kernel, rfl, by decide +kernel, by decide +kernel⟩
theorem sc_Book_check_enrolled : FnScope ["self", "name"] ["self", "name"] (defScope s_Book_check_enrolled) := ⟨rfl, rfl, rfl, by decide +kernel, rfl, by decide +kernel, by decide +kernel⟩
theorem sc_Book_own_roll : FnScope ["self", "name"] ["self", "name"] (defScope s_Book_own_roll) := ⟨rfl, rfl, rfl, by decide +kernel, rfl, by decide +kernel, by decide +kernel⟩
theorem sc_Book_names : FnScope ["self"] ["self"] (defScope s_Book_names) := ⟨rfl, rfl, rfl, by decide +kernel, rfl, by decide +kernel, by decide +kernel⟩
theorem sc_Book_marks : FnScope ["self", "name"] ["self", "name"] (defScope s_Book_marks) := ⟨rfl, rfl, rfl, by decide +kernel, rfl, by decide +kernel, by decide +kernel⟩
theorem sc_Book_roll : FnScope ["self", "name"] ["self", "name"] (defScope s_Book_roll) := ⟨rfl, rfl, rfl, by decide +kernel, rfl, by decide +kernel, by decide +kernel⟩
theorem sc__law_cell_at : FnScope ["_law_script", "_law_k"] ["_law_script", "_law_k"] (defScope s__law_cell_at) := ⟨rfl, rfl, rfl, by decide +kernel, rfl, by decide +kernel, by decide +kernel⟩
theorem sc__law_mixed : FnScope ["_law_draw", "_law_k", "_law_number"] ["_law_draw", "_law_k"] (defScope s__law_mixed) := ⟨rfl, rfl, rfl, by decide +kernel, rfl, by decide +kernel, by decide +kernel⟩
theorem sc__law_name : FnScope ["_law_draw", "_law_k", "_law_some", "_law_length", "_law_body", "_law_at"] ["_law_draw", "_law_k"] (defScope s__law_name) := ⟨rfl, rfl, rfl, by decide +kernel, rfl, by decide +kernel, by decide +kernel⟩
theorem sc__law_mark : FnScope ["_law_draw", "_law_k", "_law_some", "_law_length", "_law_body", "_law_at"] ["_law_draw", "_law_k"] (defScope s__law_mark) := ⟨rfl, rfl, rfl, by decide +kernel, rfl, by decide +kernel, by decide +kernel⟩
theorem sc__law_odd : FnScope ["_law_word", "_law_draw", "_law_at", "_law_sign", "_law_some"] ["_law_word", "_law_draw"] (defScope s__law_odd) := ⟨rfl, rfl, rfl, by decide +kernel, rfl, by decide +kernel, by decide +kernel⟩
theorem sc__law_good : FnScope ["_law_thing", "_law_most", "_law_sign"] ["_law_thing", "_law_most"] (defScope s__law_good) := ⟨rfl, rfl, rfl, by decide +kernel, rfl, by decide +kernel, by decide +kernel⟩
theorem sc__law_same : FnScope ["_law_found", "_law_due_here"] ["_law_found", "_law_due_here"] (defScope s__law_same) := ⟨rfl, rfl, rfl, by decide +kernel, rfl, by decide +kernel, by decide +kernel⟩
theorem sc__law_marks : FnScope ["_law_draw", "_law_many", "_law_found", "_law_way"] ["_law_draw"] (defScope s__law_marks) := ⟨rfl, rfl, rfl, by decide +kernel, rfl, by decide +kernel, by decide +kernel⟩
theorem sc__law_due : FnScope ["_law_kept_here", "_law_name_here", "_law_marks_here", "_law_k"] ["_law_kept_here", "_law_name_here", "_law_marks_here"] (defScope s__law_due) := ⟨rfl, rfl, rfl, by decide +kernel, rfl, by decide +kernel, by decide +kernel⟩
theorem sc__law_told : FnScope ["_law_book", "_law_name_here", "_law_marks_here", "_law_bare", "_law_word", "_law_found", "e"] ["_law_book", "_law_name_here", "_law_marks_here", "_law_bare"] (defScope s__law_told) := ⟨rfl, rfl, rfl, by decide +kernel, rfl, by decide +kernel, by decide +kernel⟩
theorem sc__law_strange : FnScope ["_law_book", "_law_name_here", "_law_found", "_law_way", "e"] ["_law_book", "_law_name_here"] (defScope s__law_strange) := ⟨rfl, rfl, rfl, by decide +kernel, rfl, by decide +kernel, by decide +kernel⟩
theorem sc__law_kept : FnScope ["_law_book", "_law_kept_here", "_law_names", "_law_name_here", "_law_marks_here", "_law_found", "_law_roll"] ["_law_book", "_law_kept_here"] (defScope s__law_kept) := ⟨rfl, rfl, rfl, by decide +kernel, rfl, by decide +kernel, by decide +kernel⟩
theorem sc_law : FnScope ["_law_script", "_law_book", "_law_kept_here", "_law_k", "_law_draw", "_law_name_here", "_law_marks_here", "_law_bare", "_law_handed", "_law_due_here", "_law_other"] ["_law_script"] (defScope s_law) := ⟨rfl, rfl, rfl, by decide +kernel, rfl, by decide +kernel, by decide +kernel⟩
structure Txt (K : PySem.W.Frag) (mg : Str → Option Value) (C_Roll : Addr) (C_Rule : Addr) (C_Book : Addr) (C_BookError : Addr) (C_NoNumber : Addr) (C_NoRule : Addr) (C_Backward : Addr) (C_NoName : Addr) (C_NoMark : Addr) (C_NoText : Addr) : Prop where
  f_is_whole : ∃ f fd, Fun K "is_whole" "is_whole" s_is_whole f fd ∧ mg "is_whole" = some (.ref f)
  f_floored : ∃ f fd, Fun K "floored" "floored" s_floored f fd ∧ mg "floored" = some (.ref f)
  f_gone_cut : ∃ f fd, Fun K "gone_cut" "gone_cut" s_gone_cut f fd ∧ mg "gone_cut" = some (.ref f)
  f_edges_at : ∃ f fd, Fun K "edges_at" "edges_at" s_edges_at f fd ∧ mg "edges_at" = some (.ref f)
  f_greater_edge : ∃ f fd, Fun K "greater_edge" "greater_edge" s_greater_edge f fd ∧ mg "greater_edge" = some (.ref f)
  f_greater : ∃ f fd, Fun K "greater" "greater" s_greater f fd ∧ mg "greater" = some (.ref f)
  f_is_gone : ∃ f fd, Fun K "is_gone" "is_gone" s_is_gone f fd ∧ mg "is_gone" = some (.ref f)
  f_width_at : ∃ f fd, Fun K "width_at" "width_at" s_width_at f fd ∧ mg "width_at" = some (.ref f)
  f_cell_at : ∃ f fd, Fun K "cell_at" "cell_at" s_cell_at f fd ∧ mg "cell_at" = some (.ref f)
  f_heap_of : ∃ f fd, Fun K "heap_of" "heap_of" s_heap_of f fd ∧ mg "heap_of" = some (.ref f)
  f_poured : ∃ f fd, Fun K "poured" "poured" s_poured f fd ∧ mg "poured" = some (.ref f)
  f_Roll_init : ∃ f fd, Fun K "__init__" "Roll.__init__" s_Roll_init f fd ∧ Mk K C_Roll f
  f_Roll_put : ∃ f fd dT o n t, FunD K "put" "Roll.put" s_Roll_put (.ref dT) f fd ∧ Meth K C_Roll "put" f ∧ fd.defaults = .ref dT ∧ K.lookup dT = some o ∧ o.data = .seq #[.int 1 t] n
  f_Roll_pour_into_cell : ∃ f fd, Fun K "pour_into_cell" "Roll.pour_into_cell" s_Roll_pour_into_cell f fd ∧ Meth K C_Roll "pour_into_cell" f
  f_Roll_take_heap : ∃ f fd, Fun K "take_heap" "Roll.take_heap" s_Roll_take_heap f fd ∧ Meth K C_Roll "take_heap" f
  f_Roll_take_all : ∃ f fd, Fun K "take_all" "Roll.take_all" s_Roll_take_all f fd ∧ Meth K C_Roll "take_all" f
  f_Roll_rule : ∃ f fd, Fun K "rule" "Roll.rule" s_Roll_rule f fd ∧ Meth K C_Roll "rule" f
  f_Roll_day : ∃ f fd, Fun K "day" "Roll.day" s_Roll_day f fd ∧ Meth K C_Roll "day" f
  f_Roll_edges : ∃ f fd, Fun K "edges" "Roll.edges" s_Roll_edges f fd ∧ Meth K C_Roll "edges" f
  f_Roll_young : ∃ f fd, Fun K "young" "Roll.young" s_Roll_young f fd ∧ Meth K C_Roll "young" f
  f_Roll_heaps : ∃ f fd, Fun K "heaps" "Roll.heaps" s_Roll_heaps f fd ∧ Meth K C_Roll "heaps" f
  f_begun : ∃ f fd, Fun K "begun" "begun" s_begun f fd ∧ mg "begun" = some (.ref f)
  f_is_step : ∃ f fd, Fun K "is_step" "is_step" s_is_step f fd ∧ mg "is_step" = some (.ref f)
  f_check_one_step : ∃ f fd, Fun K "check_one_step" "check_one_step" s_check_one_step f fd ∧ mg "check_one_step" = some (.ref f)
  f_check_next_step : ∃ f fd, Fun K "check_next_step" "check_next_step" s_check_next_step f fd ∧ mg "check_next_step" = some (.ref f)
  f_check_steps : ∃ f fd, Fun K "check_steps" "check_steps" s_check_steps f fd ∧ mg "check_steps" = some (.ref f)
  f_check_gone : ∃ f fd, Fun K "check_gone" "check_gone" s_check_gone f fd ∧ mg "check_gone" = some (.ref f)
  f_Rule_init : ∃ f fd dT o n, FunD K "__init__" "Rule.__init__" s_Rule_init (.ref dT) f fd ∧ Mk K C_Rule f ∧ fd.defaults = .ref dT ∧ K.lookup dT = some o ∧ o.data = .seq #[.none] n
  f_Rule_steps : ∃ f fd, Fun K "steps" "Rule.steps" s_Rule_steps f fd ∧ Meth K C_Rule "steps" f
  f_Rule_gone : ∃ f fd, Fun K "gone" "Rule.gone" s_Rule_gone f fd ∧ Meth K C_Rule "gone" f
  f_aged : ∃ f fd, Fun K "aged" "aged" s_aged f fd ∧ mg "aged" = some (.ref f)
  f_is_small_word : ∃ f fd, Fun K "is_small_word" "is_small_word" s_is_small_word f fd ∧ mg "is_small_word" = some (.ref f)
  f_is_name : ∃ f fd, Fun K "is_name" "is_name" s_is_name f fd ∧ mg "is_name" = some (.ref f)
  f_is_mark : ∃ f fd, Fun K "is_mark" "is_mark" s_is_mark f fd ∧ mg "is_mark" = some (.ref f)
  f_check_marks : ∃ f fd, Fun K "check_marks" "check_marks" s_check_marks f fd ∧ mg "check_marks" = some (.ref f)
  f_Book_init : ∃ f fd, Fun K "__init__" "Book.__init__" s_Book_init f fd ∧ Mk K C_Book f
  f_Book_enrol : ∃ f fd dT o n, FunD K "enrol" "Book.enrol" s_Book_enrol (.ref dT) f fd ∧ Meth K C_Book "enrol" f ∧ fd.defaults = .ref dT ∧ K.lookup dT = some o ∧ o.data = .seq #[.none] n
  f_Book_check_enrolled : ∃ f fd, Fun K "check_enrolled" "Book.check_enrolled" s_Book_check_enrolled f fd ∧ Meth K C_Book "check_enrolled" f
  f_Book_own_roll : ∃ f fd, Fun K "own_roll" "Book.own_roll" s_Book_own_roll f fd ∧ Meth K C_Book "own_roll" f
  f_Book_names : ∃ f fd, Fun K "names" "Book.names" s_Book_names f fd ∧ Meth K C_Book "names" f
  f_Book_marks : ∃ f fd, Fun K "marks" "Book.marks" s_Book_marks f fd ∧ Meth K C_Book "marks" f
  f_Book_roll : ∃ f fd, Fun K "roll" "Book.roll" s_Book_roll f fd ∧ Meth K C_Book "roll" f
  f__law_cell_at : ∃ f fd, Fun K "_law_cell_at" "_law_cell_at" s__law_cell_at f fd ∧ mg "_law_cell_at" = some (.ref f)
  f__law_mixed : ∃ f fd, Fun K "_law_mixed" "_law_mixed" s__law_mixed f fd ∧ mg "_law_mixed" = some (.ref f)
  f__law_name : ∃ f fd, Fun K "_law_name" "_law_name" s__law_name f fd ∧ mg "_law_name" = some (.ref f)
  f__law_mark : ∃ f fd, Fun K "_law_mark" "_law_mark" s__law_mark f fd ∧ mg "_law_mark" = some (.ref f)
  f__law_odd : ∃ f fd, Fun K "_law_odd" "_law_odd" s__law_odd f fd ∧ mg "_law_odd" = some (.ref f)
  f__law_good : ∃ f fd, Fun K "_law_good" "_law_good" s__law_good f fd ∧ mg "_law_good" = some (.ref f)
  f__law_same : ∃ f fd, Fun K "_law_same" "_law_same" s__law_same f fd ∧ mg "_law_same" = some (.ref f)
  f__law_marks : ∃ f fd, Fun K "_law_marks" "_law_marks" s__law_marks f fd ∧ mg "_law_marks" = some (.ref f)
  f__law_due : ∃ f fd, Fun K "_law_due" "_law_due" s__law_due f fd ∧ mg "_law_due" = some (.ref f)
  f__law_told : ∃ f fd, Fun K "_law_told" "_law_told" s__law_told f fd ∧ mg "_law_told" = some (.ref f)
  f__law_strange : ∃ f fd, Fun K "_law_strange" "_law_strange" s__law_strange f fd ∧ mg "_law_strange" = some (.ref f)
  f__law_kept : ∃ f fd, Fun K "_law_kept" "_law_kept" s__law_kept f fd ∧ mg "_law_kept" = some (.ref f)
  f_law : ∃ f fd, Fun K "law" "law" s_law f fd ∧ mg "law" = some (.ref f)
  cl_Roll : Cls K C_Roll
  mg_Roll : mg "Roll" = some (.ref C_Roll)
  na_Roll_kept_rule : NoAttr K C_Roll "kept_rule"
  na_Roll_kept_day : NoAttr K C_Roll "kept_day"
  na_Roll_kept_edges : NoAttr K C_Roll "kept_edges"
  na_Roll_whole_ones : NoAttr K C_Roll "whole_ones"
  na_Roll_cell_heaps : NoAttr K C_Roll "cell_heaps"
  cl_Rule : Cls K C_Rule
  mg_Rule : mg "Rule" = some (.ref C_Rule)
  na_Rule_kept_steps : NoAttr K C_Rule "kept_steps"
  na_Rule_gone_age : NoAttr K C_Rule "gone_age"
  cl_Book : Cls K C_Book
  mg_Book : mg "Book" = some (.ref C_Book)
  na_Book_kept_rule : NoAttr K C_Book "kept_rule"
  na_Book_kept_day : NoAttr K C_Book "kept_day"
  na_Book_kept_edges : NoAttr K C_Book "kept_edges"
  na_Book_kept_marks : NoAttr K C_Book "kept_marks"
  na_Book_kept_rolls : NoAttr K C_Book "kept_rolls"
  mg_BookError : mg "BookError" = some (.ref C_BookError)
  mg_NoNumber : mg "NoNumber" = some (.ref C_NoNumber)
  mg_NoRule : mg "NoRule" = some (.ref C_NoRule)
  mg_Backward : mg "Backward" = some (.ref C_Backward)
  mg_NoName : mg "NoName" = some (.ref C_NoName)
  mg_NoMark : mg "NoMark" = some (.ref C_NoMark)
  mg_NoText : mg "NoText" = some (.ref C_NoText)
  ex_BookError : ExcC K C_BookError
  kx_BookError : ExcK K C_BookError
  hit_BookError_BookError : PySem.W.mroIn K C_BookError (.ref C_BookError) = some true
  is_BookError_BookError : PySem.W.kitOne K (.ref C_BookError) (.ref C_BookError) = some true
  is_BookError_NoNumber : PySem.W.kitOne K (.ref C_BookError) (.ref C_NoNumber) = some false
  is_BookError_NoRule : PySem.W.kitOne K (.ref C_BookError) (.ref C_NoRule) = some false
  is_BookError_Backward : PySem.W.kitOne K (.ref C_BookError) (.ref C_Backward) = some false
  is_BookError_NoName : PySem.W.kitOne K (.ref C_BookError) (.ref C_NoName) = some false
  is_BookError_NoMark : PySem.W.kitOne K (.ref C_BookError) (.ref C_NoMark) = some false
  is_BookError_NoText : PySem.W.kitOne K (.ref C_BookError) (.ref C_NoText) = some false
  is_BookError_ValueError : PySem.W.kitOne K (.ref C_BookError) (.type "ValueError") = some true
  ex_NoNumber : ExcC K C_NoNumber
  kx_NoNumber : ExcK K C_NoNumber
  hit_NoNumber_BookError : PySem.W.mroIn K C_NoNumber (.ref C_BookError) = some true
  is_NoNumber_BookError : PySem.W.kitOne K (.ref C_NoNumber) (.ref C_BookError) = some true
  hit_NoNumber_NoNumber : PySem.W.mroIn K C_NoNumber (.ref C_NoNumber) = some true
  is_NoNumber_NoNumber : PySem.W.kitOne K (.ref C_NoNumber) (.ref C_NoNumber) = some true
  is_NoNumber_NoRule : PySem.W.kitOne K (.ref C_NoNumber) (.ref C_NoRule) = some false
  is_NoNumber_Backward : PySem.W.kitOne K (.ref C_NoNumber) (.ref C_Backward) = some false
  is_NoNumber_NoName : PySem.W.kitOne K (.ref C_NoNumber) (.ref C_NoName) = some false
  is_NoNumber_NoMark : PySem.W.kitOne K (.ref C_NoNumber) (.ref C_NoMark) = some false
  is_NoNumber_NoText : PySem.W.kitOne K (.ref C_NoNumber) (.ref C_NoText) = some false
  is_NoNumber_ValueError : PySem.W.kitOne K (.ref C_NoNumber) (.type "ValueError") = some true
  ex_NoRule : ExcC K C_NoRule
  kx_NoRule : ExcK K C_NoRule
  hit_NoRule_BookError : PySem.W.mroIn K C_NoRule (.ref C_BookError) = some true
  is_NoRule_BookError : PySem.W.kitOne K (.ref C_NoRule) (.ref C_BookError) = some true
  is_NoRule_NoNumber : PySem.W.kitOne K (.ref C_NoRule) (.ref C_NoNumber) = some false
  hit_NoRule_NoRule : PySem.W.mroIn K C_NoRule (.ref C_NoRule) = some true
  is_NoRule_NoRule : PySem.W.kitOne K (.ref C_NoRule) (.ref C_NoRule) = some true
  is_NoRule_Backward : PySem.W.kitOne K (.ref C_NoRule) (.ref C_Backward) = some false
  is_NoRule_NoName : PySem.W.kitOne K (.ref C_NoRule) (.ref C_NoName) = some false
  is_NoRule_NoMark : PySem.W.kitOne K (.ref C_NoRule) (.ref C_NoMark) = some false
  is_NoRule_NoText : PySem.W.kitOne K (.ref C_NoRule) (.ref C_NoText) = some false
  is_NoRule_ValueError : PySem.W.kitOne K (.ref C_NoRule) (.type "ValueError") = some true
  kx_Backward : ExcK K C_Backward
  hit_Backward_BookError : PySem.W.mroIn K C_Backward (.ref C_BookError) = some true
  is_Backward_BookError : PySem.W.kitOne K (.ref C_Backward) (.ref C_BookError) = some true
  is_Backward_NoNumber : PySem.W.kitOne K (.ref C_Backward) (.ref C_NoNumber) = some false
  is_Backward_NoRule : PySem.W.kitOne K (.ref C_Backward) (.ref C_NoRule) = some false
  hit_Backward_Backward : PySem.W.mroIn K C_Backward (.ref C_Backward) = some true
  is_Backward_Backward : PySem.W.kitOne K (.ref C_Backward) (.ref C_Backward) = some true
  is_Backward_NoName : PySem.W.kitOne K (.ref C_Backward) (.ref C_NoName) = some false
  is_Backward_NoMark : PySem.W.kitOne K (.ref C_Backward) (.ref C_NoMark) = some false
  is_Backward_NoText : PySem.W.kitOne K (.ref C_Backward) (.ref C_NoText) = some false
  is_Backward_ValueError : PySem.W.kitOne K (.ref C_Backward) (.type "ValueError") = some true
  ex_NoName : ExcC K C_NoName
  kx_NoName : ExcK K C_NoName
  hit_NoName_BookError : PySem.W.mroIn K C_NoName (.ref C_BookError) = some true
  is_NoName_BookError : PySem.W.kitOne K (.ref C_NoName) (.ref C_BookError) = some true
  is_NoName_NoNumber : PySem.W.kitOne K (.ref C_NoName) (.ref C_NoNumber) = some false
  is_NoName_NoRule : PySem.W.kitOne K (.ref C_NoName) (.ref C_NoRule) = some false
  is_NoName_Backward : PySem.W.kitOne K (.ref C_NoName) (.ref C_Backward) = some false
  hit_NoName_NoName : PySem.W.mroIn K C_NoName (.ref C_NoName) = some true
  is_NoName_NoName : PySem.W.kitOne K (.ref C_NoName) (.ref C_NoName) = some true
  is_NoName_NoMark : PySem.W.kitOne K (.ref C_NoName) (.ref C_NoMark) = some false
  is_NoName_NoText : PySem.W.kitOne K (.ref C_NoName) (.ref C_NoText) = some false
  is_NoName_ValueError : PySem.W.kitOne K (.ref C_NoName) (.type "ValueError") = some true
  ex_NoMark : ExcC K C_NoMark
  kx_NoMark : ExcK K C_NoMark
  hit_NoMark_BookError : PySem.W.mroIn K C_NoMark (.ref C_BookError) = some true
  is_NoMark_BookError : PySem.W.kitOne K (.ref C_NoMark) (.ref C_BookError) = some true
  is_NoMark_NoNumber : PySem.W.kitOne K (.ref C_NoMark) (.ref C_NoNumber) = some false
  is_NoMark_NoRule : PySem.W.kitOne K (.ref C_NoMark) (.ref C_NoRule) = some false
  is_NoMark_Backward : PySem.W.kitOne K (.ref C_NoMark) (.ref C_Backward) = some false
  is_NoMark_NoName : PySem.W.kitOne K (.ref C_NoMark) (.ref C_NoName) = some false
  hit_NoMark_NoMark : PySem.W.mroIn K C_NoMark (.ref C_NoMark) = some true
  is_NoMark_NoMark : PySem.W.kitOne K (.ref C_NoMark) (.ref C_NoMark) = some true
  is_NoMark_NoText : PySem.W.kitOne K (.ref C_NoMark) (.ref C_NoText) = some false
  is_NoMark_ValueError : PySem.W.kitOne K (.ref C_NoMark) (.type "ValueError") = some true
  kx_NoText : ExcK K C_NoText
  hit_NoText_BookError : PySem.W.mroIn K C_NoText (.ref C_BookError) = some true
  is_NoText_BookError : PySem.W.kitOne K (.ref C_NoText) (.ref C_BookError) = some true
  is_NoText_NoNumber : PySem.W.kitOne K (.ref C_NoText) (.ref C_NoNumber) = some false
  is_NoText_NoRule : PySem.W.kitOne K (.ref C_NoText) (.ref C_NoRule) = some false
  is_NoText_Backward : PySem.W.kitOne K (.ref C_NoText) (.ref C_Backward) = some false
  is_NoText_NoName : PySem.W.kitOne K (.ref C_NoText) (.ref C_NoName) = some false
  is_NoText_NoMark : PySem.W.kitOne K (.ref C_NoText) (.ref C_NoMark) = some false
  hit_NoText_NoText : PySem.W.mroIn K C_NoText (.ref C_NoText) = some true
  is_NoText_NoText : PySem.W.kitOne K (.ref C_NoText) (.ref C_NoText) = some true
  is_NoText_ValueError : PySem.W.kitOne K (.ref C_NoText) (.type "ValueError") = some true
  b_all : mg "all" = none
  b_bool : mg "bool" = none
  b_enumerate : mg "enumerate" = none
  b_int : mg "int" = none
  b_isinstance : mg "isinstance" = none
  b_len : mg "len" = none
  b_list : mg "list" = none
  b_max : mg "max" = none
  b_min : mg "min" = none
  b_range : mg "range" = none
  b_set : mg "set" = none
  b_sorted : mg "sorted" = none
  b_str : mg "str" = none
  b_sum : mg "sum" = none
  b_tuple : mg "tuple" = none
  b_zip : mg "zip" = none
  c_MOST_STEPS : ∃ t, mg "MOST_STEPS" = some (.int 5 t)
  c_LETTERS : ∃ t, mg "LETTERS" = some (.str "abcdefghijklmnopqrstuvwxyz" t)
  c_LONGEST_NAME : ∃ t, mg "LONGEST_NAME" = some (.int 12 t)
  c_LONGEST_MARK : ∃ t, mg "LONGEST_MARK" = some (.int 8 t)
  c_MOST_MARKS : ∃ t, mg "MOST_MARKS" = some (.int 8 t)
theorem txt_mk {K : PySem.W.Frag} {h : Heap} {mg : Str → Option Value} (X : K.In h) (G : h.Ns mainGlobals mg) {C_Roll C_Rule C_Book f0 f1 f2 f3 f4 f5 f6 f7 f8 f9 f10 f11 f12 dT12 f13 f14 f15 f16 f17 f18 f19 f20 f21 f22 f23 f24 f25 f26 f27 dT27 f28 f29 f30 f31 f32 f33 f34 f35 f36 dT36 f37 f38 f39 f40 f41 f42 f43 f44 f45 f46 f47 f48 f49 f50 f51 f52 f53 f54 C_BookError C_NoNumber C_NoRule C_Backward C_NoName C_NoMark C_NoText : Addr} {od0 an0 od1 an1 od2 an2 od3 an3 od4 an4 od5 an5 od6 an6 od7 an7 od8 an8 od9 an9 od10 an10 od11 an11 od12 an12 dd12 od13 an13 od14 an14 od15 an15 od16 an16 od17 an17 od18 an18 od19 an19 od20 an20 od21 an21 od22 an22 od23 an23 od24 an24 od25 an25 od26 an26 od27 an27 dd27 od28 an28 od29 an29 od30 an30 od31 an31 od32 an32 od33 an33 od34 an34 od35 an35 od36 an36 dd36 od37 an37 od38 an38 od39 an39 od40 an40 od41 an41 od42 an42 od43 an43 od44 an44 od45 an45 od46 an46 od47 an47 od48 an48 od49 an49 od50 an50 od51 an51 od52 an52 od53 an53 od54 an54 : Option Addr} {sl0 sl1 sl2 sl3 sl4 sl5 sl6 sl7 sl8 sl9 sl10 sl11 sl12 ds12 sl13 sl14 sl15 sl16 sl17 sl18 sl19 sl20 sl21 sl22 sl23 sl24 sl25 sl26 sl27 ds27 sl28 sl29 sl30 sl31 sl32 sl33 sl34 sl35 sl36 ds36 sl37 sl38 sl39 sl40 sl41 sl42 sl43 sl44 sl45 sl46 sl47 sl48 sl49 sl50 sl51 sl52 sl53 sl54 : Array (Option Value)} {oc0 kV0 dc0 pm0 cd0 ct0 oc1 kV1 dc1 pm1 cd1 ct1 oc2 kV2 dc2 pm2 cd2 ct2 oc3 kV3 dc3 pm3 cd3 ct3 oc4 kV4 dc4 pm4 cd4 ct4 oc5 kV5 dc5 pm5 cd5 ct5 oc6 kV6 dc6 pm6 cd6 ct6 oc7 kV7 dc7 pm7 cd7 ct7 oc8 kV8 dc8 pm8 cd8 ct8 oc9 kV9 dc9 pm9 cd9 ct9 oc10 kV10 dc10 pm10 cd10 ct10 oc11 kV11 dc11 pm11 cd11 ct11 oc12 kV12 dc12 pm12 cd12 ct12 dk12 oc13 kV13 dc13 pm13 cd13 ct13 oc14 kV14 dc14 pm14 cd14 ct14 oc15 kV15 dc15 pm15 cd15 ct15 oc16 kV16 dc16 pm16 cd16 ct16 oc17 kV17 dc17 pm17 cd17 ct17 oc18 kV18 dc18 pm18 cd18 ct18 oc19 kV19 dc19 pm19 cd19 ct19 oc20 kV20 dc20 pm20 cd20 ct20 oc21 kV21 dc21 pm21 cd21 ct21 oc22 kV22 dc22 pm22 cd22 ct22 oc23 kV23 dc23 pm23 cd23 ct23 oc24 kV24 dc24 pm24 cd24 ct24 oc25 kV25 dc25 pm25 cd25 ct25 oc26 kV26 dc26 pm26 cd26 ct26 oc27 kV27 dc27 pm27 cd27 ct27 dk27 oc28 kV28 dc28 pm28 cd28 ct28 oc29 kV29 dc29 pm29 cd29 ct29 oc30 kV30 dc30 pm30 cd30 ct30 oc31 kV31 dc31 pm31 cd31 ct31 oc32 kV32 dc32 pm32 cd32 ct32 oc33 kV33 dc33 pm33 cd33 ct33 oc34 kV34 dc34 pm34 cd34 ct34 oc35 kV35 dc35 pm35 cd35 ct35 oc36 kV36 dc36 pm36 cd36 ct36 dk36 oc37 kV37 dc37 pm37 cd37 ct37 oc38 kV38 dc38 pm38 cd38 ct38 oc39 kV39 dc39 pm39 cd39 ct39 oc40 kV40 dc40 pm40 cd40 ct40 oc41 kV41 dc41 pm41 cd41 ct41 oc42 kV42 dc42 pm42 cd42 ct42 oc43 kV43 dc43 pm43 cd43 ct43 oc44 kV44 dc44 pm44 cd44 ct44 oc45 kV45 dc45 pm45 cd45 ct45 oc46 kV46 dc46 pm46 cd46 ct46 oc47 kV47 dc47 pm47 cd47 ct47 oc48 kV48 dc48 pm48 cd48 ct48 oc49 kV49 dc49 pm49 cd49 ct49 oc50 kV50 dc50 pm50 cd50 ct50 oc51 kV51 dc51 pm51 cd51 ct51 oc52 kV52 dc52 pm52 cd52 ct52 oc53 kV53 dc53 pm53 cd53 ct53 oc54 kV54 dc54 pm54 cd54 ct54 : Value} {dn12 dn27 dn36 : Nat} {dt12 t_MOST_STEPS t_LETTERS t_LONGEST_NAME t_LONGEST_MARK t_MOST_MARKS : Tok}
    (aCRoll : PySem.W.nsIn K mainGlobals "Roll" = some (some (.ref C_Roll)))
    (aCRule : PySem.W.nsIn K mainGlobals "Rule" = some (some (.ref C_Rule)))
    (aCBook : PySem.W.nsIn K mainGlobals "Book" = some (some (.ref C_Book)))
    (a0 : PySem.W.nsIn K mainGlobals "is_whole" = some (some (.ref f0)))
    (l0 : K.lookup f0 = some ⟨oc0, od0, .func (PySem.W.fnOf "is_whole" "is_whole" (defArgs s_is_whole) (defBody s_is_whole) (defScope s_is_whole) .none kV0 dc0 pm0 an0 cd0 ct0), sl0⟩)
    (c0 : PySem.W.codeIn K cd0 "is_whole" = true)
    (k0 : PySem.W.keepIn K (.ref f0) = true)
    (a1 : PySem.W.nsIn K mainGlobals "floored" = some (some (.ref f1)))
    (l1 : K.lookup f1 = some ⟨oc1, od1, .func (PySem.W.fnOf "floored" "floored" (defArgs s_floored) (defBody s_floored) (defScope s_floored) .none kV1 dc1 pm1 an1 cd1 ct1), sl1⟩)
    (c1 : PySem.W.codeIn K cd1 "floored" = true)
    (k1 : PySem.W.keepIn K (.ref f1) = true)
    (a2 : PySem.W.nsIn K mainGlobals "gone_cut" = some (some (.ref f2)))
    (l2 : K.lookup f2 = some ⟨oc2, od2, .func (PySem.W.fnOf "gone_cut" "gone_cut" (defArgs s_gone_cut) (defBody s_gone_cut) (defScope s_gone_cut) .none kV2 dc2 pm2 an2 cd2 ct2), sl2⟩)
    (c2 : PySem.W.codeIn K cd2 "gone_cut" = true)
    (k2 : PySem.W.keepIn K (.ref f2) = true)
    (a3 : PySem.W.nsIn K mainGlobals "edges_at" = some (some (.ref f3)))
    (l3 : K.lookup f3 = some ⟨oc3, od3, .func (PySem.W.fnOf "edges_at" "edges_at" (defArgs s_edges_at) (defBody s_edges_at) (defScope s_edges_at) .none kV3 dc3 pm3 an3 cd3 ct3), sl3⟩)
    (c3 : PySem.W.codeIn K cd3 "edges_at" = true)
    (k3 : PySem.W.keepIn K (.ref f3) = true)
    (a4 : PySem.W.nsIn K mainGlobals "greater_edge" = some (some (.ref f4)))
    (l4 : K.lookup f4 = some ⟨oc4, od4, .func (PySem.W.fnOf "greater_edge" "greater_edge" (defArgs s_greater_edge) (defBody s_greater_edge) (defScope s_greater_edge) .none kV4 dc4 pm4 an4 cd4 ct4), sl4⟩)
    (c4 : PySem.W.codeIn K cd4 "greater_edge" = true)
    (k4 : PySem.W.keepIn K (.ref f4) = true)
    (a5 : PySem.W.nsIn K mainGlobals "greater" = some (some (.ref f5)))
    (l5 : K.lookup f5 = some ⟨oc5, od5, .func (PySem.W.fnOf "greater" "greater" (defArgs s_greater) (defBody s_greater) (defScope s_greater) .none kV5 dc5 pm5 an5 cd5 ct5), sl5⟩)
    (c5 : PySem.W.codeIn K cd5 "greater" = true)
    (k5 : PySem.W.keepIn K (.ref f5) = true)
    (a6 : PySem.W.nsIn K mainGlobals "is_gone" = some (some (.ref f6)))
    (l6 : K.lookup f6 = some ⟨oc6, od6, .func (PySem.W.fnOf "is_gone" "is_gone" (defArgs s_is_gone) (defBody s_is_gone) (defScope s_is_gone) .none kV6 dc6 pm6 an6 cd6 ct6), sl6⟩)
    (c6 : PySem.W.codeIn K cd6 "is_gone" = true)
    (k6 : PySem.W.keepIn K (.ref f6) = true)
    (a7 : PySem.W.nsIn K mainGlobals "width_at" = some (some (.ref f7)))
    (l7 : K.lookup f7 = some ⟨oc7, od7, .func (PySem.W.fnOf "width_at" "width_at" (defArgs s_width_at) (defBody s_width_at) (defScope s_width_at) .none kV7 dc7 pm7 an7 cd7 ct7), sl7⟩)
    (c7 : PySem.W.codeIn K cd7 "width_at" = true)
    (k7 : PySem.W.keepIn K (.ref f7) = true)
    (a8 : PySem.W.nsIn K mainGlobals "cell_at" = some (some (.ref f8)))
    (l8 : K.lookup f8 = some ⟨oc8, od8, .func (PySem.W.fnOf "cell_at" "cell_at" (defArgs s_cell_at) (defBody s_cell_at) (defScope s_cell_at) .none kV8 dc8 pm8 an8 cd8 ct8), sl8⟩)
    (c8 : PySem.W.codeIn K cd8 "cell_at" = true)
    (k8 : PySem.W.keepIn K (.ref f8) = true)
    (a9 : PySem.W.nsIn K mainGlobals "heap_of" = some (some (.ref f9)))
    (l9 : K.lookup f9 = some ⟨oc9, od9, .func (PySem.W.fnOf "heap_of" "heap_of" (defArgs s_heap_of) (defBody s_heap_of) (defScope s_heap_of) .none kV9 dc9 pm9 an9 cd9 ct9), sl9⟩)
    (c9 : PySem.W.codeIn K cd9 "heap_of" = true)
    (k9 : PySem.W.keepIn K (.ref f9) = true)
    (a10 : PySem.W.nsIn K mainGlobals "poured" = some (some (.ref f10)))
    (l10 : K.lookup f10 = some ⟨oc10, od10, .func (PySem.W.fnOf "poured" "poured" (defArgs s_poured) (defBody s_poured) (defScope s_poured) .none kV10 dc10 pm10 an10 cd10 ct10), sl10⟩)
    (c10 : PySem.W.codeIn K cd10 "poured" = true)
    (k10 : PySem.W.keepIn K (.ref f10) = true)
    (a11 : PySem.W.findIn K (.ref C_Roll) "__init__" = some (some (.ref f11)))
    (i11 : PySem.W.isFn K (.ref f11) = true)
    (l11 : K.lookup f11 = some ⟨oc11, od11, .func (PySem.W.fnOf "__init__" "Roll.__init__" (defArgs s_Roll_init) (defBody s_Roll_init) (defScope s_Roll_init) .none kV11 dc11 pm11 an11 cd11 ct11), sl11⟩)
    (c11 : PySem.W.codeIn K cd11 "Roll.__init__" = true)
    (k11 : PySem.W.keepIn K (.ref f11) = true)
    (a12 : PySem.W.findIn K (.ref C_Roll) "put" = some (some (.ref f12)))
    (i12 : PySem.W.isFn K (.ref f12) = true)
    (l12 : K.lookup f12 = some ⟨oc12, od12, .func (PySem.W.fnOf "put" "Roll.put" (defArgs s_Roll_put) (defBody s_Roll_put) (defScope s_Roll_put) (.ref dT12) kV12 dc12 pm12 an12 cd12 ct12), sl12⟩)
    (c12 : PySem.W.codeIn K cd12 "Roll.put" = true)
    (k12 : PySem.W.keepIn K (.ref f12) = true)
    (d12 : K.lookup dT12 = some ⟨dk12, dd12, .seq #[.int 1 dt12] dn12, ds12⟩)
    (a13 : PySem.W.findIn K (.ref C_Roll) "pour_into_cell" = some (some (.ref f13)))
    (i13 : PySem.W.isFn K (.ref f13) = true)
    (l13 : K.lookup f13 = some ⟨oc13, od13, .func (PySem.W.fnOf "pour_into_cell" "Roll.pour_into_cell" (defArgs s_Roll_pour_into_cell) (defBody s_Roll_pour_into_cell) (defScope s_Roll_pour_into_cell) .none kV13 dc13 pm13 an13 cd13 ct13), sl13⟩)
    (c13 : PySem.W.codeIn K cd13 "Roll.pour_into_cell" = true)
    (k13 : PySem.W.keepIn K (.ref f13) = true)
    (a14 : PySem.W.findIn K (.ref C_Roll) "take_heap" = some (some (.ref f14)))
    (i14 : PySem.W.isFn K (.ref f14) = true)
    (l14 : K.lookup f14 = some ⟨oc14, od14, .func (PySem.W.fnOf "take_heap" "Roll.take_heap" (defArgs s_Roll_take_heap) (defBody s_Roll_take_heap) (defScope s_Roll_take_heap) .none kV14 dc14 pm14 an14 cd14 ct14), sl14⟩)
    (c14 : PySem.W.codeIn K cd14 "Roll.take_heap" = true)
    (k14 : PySem.W.keepIn K (.ref f14) = true)
    (a15 : PySem.W.findIn K (.ref C_Roll) "take_all" = some (some (.ref f15)))
    (i15 : PySem.W.isFn K (.ref f15) = true)
    (l15 : K.lookup f15 = some ⟨oc15, od15, .func (PySem.W.fnOf "take_all" "Roll.take_all" (defArgs s_Roll_take_all) (defBody s_Roll_take_all) (defScope s_Roll_take_all) .none kV15 dc15 pm15 an15 cd15 ct15), sl15⟩)
    (c15 : PySem.W.codeIn K cd15 "Roll.take_all" = true)
    (k15 : PySem.W.keepIn K (.ref f15) = true)
    (a16 : PySem.W.findIn K (.ref C_Roll) "rule" = some (some (.ref f16)))
    (i16 : PySem.W.isFn K (.ref f16) = true)
    (l16 : K.lookup f16 = some ⟨oc16, od16, .func (PySem.W.fnOf "rule" "Roll.rule" (defArgs s_Roll_rule) (defBody s_Roll_rule) (defScope s_Roll_rule) .none kV16 dc16 pm16 an16 cd16 ct16), sl16⟩)
    (c16 : PySem.W.codeIn K cd16 "Roll.rule" = true)
    (k16 : PySem.W.keepIn K (.ref f16) = true)
    (a17 : PySem.W.findIn K (.ref C_Roll) "day" = some (some (.ref f17)))
    (i17 : PySem.W.isFn K (.ref f17) = true)
    (l17 : K.lookup f17 = some ⟨oc17, od17, .func (PySem.W.fnOf "day" "Roll.day" (defArgs s_Roll_day) (defBody s_Roll_day) (defScope s_Roll_day) .none kV17 dc17 pm17 an17 cd17 ct17), sl17⟩)
    (c17 : PySem.W.codeIn K cd17 "Roll.day" = true)
    (k17 : PySem.W.keepIn K (.ref f17) = true)
    (a18 : PySem.W.findIn K (.ref C_Roll) "edges" = some (some (.ref f18)))
    (i18 : PySem.W.isFn K (.ref f18) = true)
    (l18 : K.lookup f18 = some ⟨oc18, od18, .func (PySem.W.fnOf "edges" "Roll.edges" (defArgs s_Roll_edges) (defBody s_Roll_edges) (defScope s_Roll_edges) .none kV18 dc18 pm18 an18 cd18 ct18), sl18⟩)
    (c18 : PySem.W.codeIn K cd18 "Roll.edges" = true)
    (k18 : PySem.W.keepIn K (.ref f18) = true)
    (a19 : PySem.W.findIn K (.ref C_Roll) "young" = some (some (.ref f19)))
    (i19 : PySem.W.isFn K (.ref f19) = true)
    (l19 : K.lookup f19 = some ⟨oc19, od19, .func (PySem.W.fnOf "young" "Roll.young" (defArgs s_Roll_young) (defBody s_Roll_young) (defScope s_Roll_young) .none kV19 dc19 pm19 an19 cd19 ct19), sl19⟩)
    (c19 : PySem.W.codeIn K cd19 "Roll.young" = true)
    (k19 : PySem.W.keepIn K (.ref f19) = true)
    (a20 : PySem.W.findIn K (.ref C_Roll) "heaps" = some (some (.ref f20)))
    (i20 : PySem.W.isFn K (.ref f20) = true)
    (l20 : K.lookup f20 = some ⟨oc20, od20, .func (PySem.W.fnOf "heaps" "Roll.heaps" (defArgs s_Roll_heaps) (defBody s_Roll_heaps) (defScope s_Roll_heaps) .none kV20 dc20 pm20 an20 cd20 ct20), sl20⟩)
    (c20 : PySem.W.codeIn K cd20 "Roll.heaps" = true)
    (k20 : PySem.W.keepIn K (.ref f20) = true)
    (a21 : PySem.W.nsIn K mainGlobals "begun" = some (some (.ref f21)))
    (l21 : K.lookup f21 = some ⟨oc21, od21, .func (PySem.W.fnOf "begun" "begun" (defArgs s_begun) (defBody s_begun) (defScope s_begun) .none kV21 dc21 pm21 an21 cd21 ct21), sl21⟩)
    (c21 : PySem.W.codeIn K cd21 "begun" = true)
    (k21 : PySem.W.keepIn K (.ref f21) = true)
    (a22 : PySem.W.nsIn K mainGlobals "is_step" = some (some (.ref f22)))
    (l22 : K.lookup f22 = some ⟨oc22, od22, .func (PySem.W.fnOf "is_step" "is_step" (defArgs s_is_step) (defBody s_is_step) (defScope s_is_step) .none kV22 dc22 pm22 an22 cd22 ct22), sl22⟩)
    (c22 : PySem.W.codeIn K cd22 "is_step" = true)
    (k22 : PySem.W.keepIn K (.ref f22) = true)
    (a23 : PySem.W.nsIn K mainGlobals "check_one_step" = some (some (.ref f23)))
    (l23 : K.lookup f23 = some ⟨oc23, od23, .func (PySem.W.fnOf "check_one_step" "check_one_step" (defArgs s_check_one_step) (defBody s_check_one_step) (defScope s_check_one_step) .none kV23 dc23 pm23 an23 cd23 ct23), sl23⟩)
    (c23 : PySem.W.codeIn K cd23 "check_one_step" = true)
    (k23 : PySem.W.keepIn K (.ref f23) = true)
    (a24 : PySem.W.nsIn K mainGlobals "check_next_step" = some (some (.ref f24)))
    (l24 : K.lookup f24 = some ⟨oc24, od24, .func (PySem.W.fnOf "check_next_step" "check_next_step" (defArgs s_check_next_step) (defBody s_check_next_step) (defScope s_check_next_step) .none kV24 dc24 pm24 an24 cd24 ct24), sl24⟩)
    (c24 : PySem.W.codeIn K cd24 "check_next_step" = true)
    (k24 : PySem.W.keepIn K (.ref f24) = true)
    (a25 : PySem.W.nsIn K mainGlobals "check_steps" = some (some (.ref f25)))
    (l25 : K.lookup f25 = some ⟨oc25, od25, .func (PySem.W.fnOf "check_steps" "check_steps" (defArgs s_check_steps) (defBody s_check_steps) (defScope s_check_steps) .none kV25 dc25 pm25 an25 cd25 ct25), sl25⟩)
    (c25 : PySem.W.codeIn K cd25 "check_steps" = true)
    (k25 : PySem.W.keepIn K (.ref f25) = true)
    (a26 : PySem.W.nsIn K mainGlobals "check_gone" = some (some (.ref f26)))
    (l26 : K.lookup f26 = some ⟨oc26, od26, .func (PySem.W.fnOf "check_gone" "check_gone" (defArgs s_check_gone) (defBody s_check_gone) (defScope s_check_gone) .none kV26 dc26 pm26 an26 cd26 ct26), sl26⟩)
    (c26 : PySem.W.codeIn K cd26 "check_gone" = true)
    (k26 : PySem.W.keepIn K (.ref f26) = true)
    (a27 : PySem.W.findIn K (.ref C_Rule) "__init__" = some (some (.ref f27)))
    (i27 : PySem.W.isFn K (.ref f27) = true)
    (l27 : K.lookup f27 = some ⟨oc27, od27, .func (PySem.W.fnOf "__init__" "Rule.__init__" (defArgs s_Rule_init) (defBody s_Rule_init) (defScope s_Rule_init) (.ref dT27) kV27 dc27 pm27 an27 cd27 ct27), sl27⟩)
    (c27 : PySem.W.codeIn K cd27 "Rule.__init__" = true)
    (k27 : PySem.W.keepIn K (.ref f27) = true)
    (d27 : K.lookup dT27 = some ⟨dk27, dd27, .seq #[.none] dn27, ds27⟩)
    (a28 : PySem.W.findIn K (.ref C_Rule) "steps" = some (some (.ref f28)))
    (i28 : PySem.W.isFn K (.ref f28) = true)
    (l28 : K.lookup f28 = some ⟨oc28, od28, .func (PySem.W.fnOf "steps" "Rule.steps" (defArgs s_Rule_steps) (defBody s_Rule_steps) (defScope s_Rule_steps) .none kV28 dc28 pm28 an28 cd28 ct28), sl28⟩)
    (c28 : PySem.W.codeIn K cd28 "Rule.steps" = true)
    (k28 : PySem.W.keepIn K (.ref f28) = true)
    (a29 : PySem.W.findIn K (.ref C_Rule) "gone" = some (some (.ref f29)))
    (i29 : PySem.W.isFn K (.ref f29) = true)
    (l29 : K.lookup f29 = some ⟨oc29, od29, .func (PySem.W.fnOf "gone" "Rule.gone" (defArgs s_Rule_gone) (defBody s_Rule_gone) (defScope s_Rule_gone) .none kV29 dc29 pm29 an29 cd29 ct29), sl29⟩)
    (c29 : PySem.W.codeIn K cd29 "Rule.gone" = true)
    (k29 : PySem.W.keepIn K (.ref f29) = true)
    (a30 : PySem.W.nsIn K mainGlobals "aged" = some (some (.ref f30)))
    (l30 : K.lookup f30 = some ⟨oc30, od30, .func (PySem.W.fnOf "aged" "aged" (defArgs s_aged) (defBody s_aged) (defScope s_aged) .none kV30 dc30 pm30 an30 cd30 ct30), sl30⟩)
    (c30 : PySem.W.codeIn K cd30 "aged" = true)
    (k30 : PySem.W.keepIn K (.ref f30) = true)
    (a31 : PySem.W.nsIn K mainGlobals "is_small_word" = some (some (.ref f31)))
    (l31 : K.lookup f31 = some ⟨oc31, od31, .func (PySem.W.fnOf "is_small_word" "is_small_word" (defArgs s_is_small_word) (defBody s_is_small_word) (defScope s_is_small_word) .none kV31 dc31 pm31 an31 cd31 ct31), sl31⟩)
    (c31 : PySem.W.codeIn K cd31 "is_small_word" = true)
    (k31 : PySem.W.keepIn K (.ref f31) = true)
    (a32 : PySem.W.nsIn K mainGlobals "is_name" = some (some (.ref f32)))
    (l32 : K.lookup f32 = some ⟨oc32, od32, .func (PySem.W.fnOf "is_name" "is_name" (defArgs s_is_name) (defBody s_is_name) (defScope s_is_name) .none kV32 dc32 pm32 an32 cd32 ct32), sl32⟩)
    (c32 : PySem.W.codeIn K cd32 "is_name" = true)
    (k32 : PySem.W.keepIn K (.ref f32) = true)
    (a33 : PySem.W.nsIn K mainGlobals "is_mark" = some (some (.ref f33)))
    (l33 : K.lookup f33 = some ⟨oc33, od33, .func (PySem.W.fnOf "is_mark" "is_mark" (defArgs s_is_mark) (defBody s_is_mark) (defScope s_is_mark) .none kV33 dc33 pm33 an33 cd33 ct33), sl33⟩)
    (c33 : PySem.W.codeIn K cd33 "is_mark" = true)
    (k33 : PySem.W.keepIn K (.ref f33) = true)
    (a34 : PySem.W.nsIn K mainGlobals "check_marks" = some (some (.ref f34)))
    (l34 : K.lookup f34 = some ⟨oc34, od34, .func (PySem.W.fnOf "check_marks" "check_marks" (defArgs s_check_marks) (defBody s_check_marks) (defScope s_check_marks) .none kV34 dc34 pm34 an34 cd34 ct34), sl34⟩)
    (c34 : PySem.W.codeIn K cd34 "check_marks" = true)
    (k34 : PySem.W.keepIn K (.ref f34) = true)
    (a35 : PySem.W.findIn K (.ref C_Book) "__init__" = some (some (.ref f35)))
    (i35 : PySem.W.isFn K (.ref f35) = true)
    (l35 : K.lookup f35 = some ⟨oc35, od35, .func (PySem.W.fnOf "__init__" "Book.__init__" (defArgs s_Book_init) (defBody s_Book_init) (defScope s_Book_init) .none kV35 dc35 pm35 an35 cd35 ct35), sl35⟩)
    (c35 : PySem.W.codeIn K cd35 "Book.__init__" = true)
    (k35 : PySem.W.keepIn K (.ref f35) = true)
    (a36 : PySem.W.findIn K (.ref C_Book) "enrol" = some (some (.ref f36)))
    (i36 : PySem.W.isFn K (.ref f36) = true)
    (l36 : K.lookup f36 = some ⟨oc36, od36, .func (PySem.W.fnOf "enrol" "Book.enrol" (defArgs s_Book_enrol) (defBody s_Book_enrol) (defScope s_Book_enrol) (.ref dT36) kV36 dc36 pm36 an36 cd36 ct36), sl36⟩)
    (c36 : PySem.W.codeIn K cd36 "Book.enrol" = true)
    (k36 : PySem.W.keepIn K (.ref f36) = true)
    (d36 : K.lookup dT36 = some ⟨dk36, dd36, .seq #[.none] dn36, ds36⟩)
    (a37 : PySem.W.findIn K (.ref C_Book) "check_enrolled" = some (some (.ref f37)))
    (i37 : PySem.W.isFn K (.ref f37) = true)
    (l37 : K.lookup f37 = some ⟨oc37, od37, .func (PySem.W.fnOf "check_enrolled" "Book.check_enrolled" (defArgs s_Book_check_enrolled) (defBody s_Book_check_enrolled) (defScope s_Book_check_enrolled) .none kV37 dc37 pm37 an37 cd37 ct37), sl37⟩)
    (c37 : PySem.W.codeIn K cd37 "Book.check_enrolled" = true)
    (k37 : PySem.W.keepIn K (.ref f37) = true)
    (a38 : PySem.W.findIn K (.ref C_Book) "own_roll" = some (some (.ref f38)))
    (i38 : PySem.W.isFn K (.ref f38) = true)
    (l38 : K.lookup f38 = some ⟨oc38, od38, .func (PySem.W.fnOf "own_roll" "Book.own_roll" (defArgs s_Book_own_roll) (defBody s_Book_own_roll) (defScope s_Book_own_roll) .none kV38 dc38 pm38 an38 cd38 ct38), sl38⟩)
    (c38 : PySem.W.codeIn K cd38 "Book.own_roll" = true)
    (k38 : PySem.W.keepIn K (.ref f38) = true)
    (a39 : PySem.W.findIn K (.ref C_Book) "names" = some (some (.ref f39)))
    (i39 : PySem.W.isFn K (.ref f39) = true)
    (l39 : K.lookup f39 = some ⟨oc39, od39, .func (PySem.W.fnOf "names" "Book.names" (defArgs s_Book_names) (defBody s_Book_names) (defScope s_Book_names) .none kV39 dc39 pm39 an39 cd39 ct39), sl39⟩)
    (c39 : PySem.W.codeIn K cd39 "Book.names" = true)
    (k39 : PySem.W.keepIn K (.ref f39) = true)
    (a40 : PySem.W.findIn K (.ref C_Book) "marks" = some (some (.ref f40)))
    (i40 : PySem.W.isFn K (.ref f40) = true)
    (l40 : K.lookup f40 = some ⟨oc40, od40, .func (PySem.W.fnOf "marks" "Book.marks" (defArgs s_Book_marks) (defBody s_Book_marks) (defScope s_Book_marks) .none kV40 dc40 pm40 an40 cd40 ct40), sl40⟩)
    (c40 : PySem.W.codeIn K cd40 "Book.marks" = true)
    (k40 : PySem.W.keepIn K (.ref f40) = true)
    (a41 : PySem.W.findIn K (.ref C_Book) "roll" = some (some (.ref f41)))
    (i41 : PySem.W.isFn K (.ref f41) = true)
    (l41 : K.lookup f41 = some ⟨oc41, od41, .func (PySem.W.fnOf "roll" "Book.roll" (defArgs s_Book_roll) (defBody s_Book_roll) (defScope s_Book_roll) .none kV41 dc41 pm41 an41 cd41 ct41), sl41⟩)
    (c41 : PySem.W.codeIn K cd41 "Book.roll" = true)
    (k41 : PySem.W.keepIn K (.ref f41) = true)
    (a42 : PySem.W.nsIn K mainGlobals "_law_cell_at" = some (some (.ref f42)))
    (l42 : K.lookup f42 = some ⟨oc42, od42, .func (PySem.W.fnOf "_law_cell_at" "_law_cell_at" (defArgs s__law_cell_at) (defBody s__law_cell_at) (defScope s__law_cell_at) .none kV42 dc42 pm42 an42 cd42 ct42), sl42⟩)
    (c42 : PySem.W.codeIn K cd42 "_law_cell_at" = true)
    (k42 : PySem.W.keepIn K (.ref f42) = true)
    (a43 : PySem.W.nsIn K mainGlobals "_law_mixed" = some (some (.ref f43)))
    (l43 : K.lookup f43 = some ⟨oc43, od43, .func (PySem.W.fnOf "_law_mixed" "_law_mixed" (defArgs s__law_mixed) (defBody s__law_mixed) (defScope s__law_mixed) .none kV43 dc43 pm43 an43 cd43 ct43), sl43⟩)
    (c43 : PySem.W.codeIn K cd43 "_law_mixed" = true)
    (k43 : PySem.W.keepIn K (.ref f43) = true)
    (a44 : PySem.W.nsIn K mainGlobals "_law_name" = some (some (.ref f44)))
    (l44 : K.lookup f44 = some ⟨oc44, od44, .func (PySem.W.fnOf "_law_name" "_law_name" (defArgs s__law_name) (defBody s__law_name) (defScope s__law_name) .none kV44 dc44 pm44 an44 cd44 ct44), sl44⟩)
    (c44 : PySem.W.codeIn K cd44 "_law_name" = true)
    (k44 : PySem.W.keepIn K (.ref f44) = true)
    (a45 : PySem.W.nsIn K mainGlobals "_law_mark" = some (some (.ref f45)))
    (l45 : K.lookup f45 = some ⟨oc45, od45, .func (PySem.W.fnOf "_law_mark" "_law_mark" (defArgs s__law_mark) (defBody s__law_mark) (defScope s__law_mark) .none kV45 dc45 pm45 an45 cd45 ct45), sl45⟩)
    (c45 : PySem.W.codeIn K cd45 "_law_mark" = true)
    (k45 : PySem.W.keepIn K (.ref f45) = true)
    (a46 : PySem.W.nsIn K mainGlobals "_law_odd" = some (some (.ref f46)))
    (l46 : K.lookup f46 = some ⟨oc46, od46, .func (PySem.W.fnOf "_law_odd" "_law_odd" (defArgs s__law_odd) (defBody s__law_odd) (defScope s__law_odd) .none kV46 dc46 pm46 an46 cd46 ct46), sl46⟩)
    (c46 : PySem.W.codeIn K cd46 "_law_odd" = true)
    (k46 : PySem.W.keepIn K (.ref f46) = true)
    (a47 : PySem.W.nsIn K mainGlobals "_law_good" = some (some (.ref f47)))
    (l47 : K.lookup f47 = some ⟨oc47, od47, .func (PySem.W.fnOf "_law_good" "_law_good" (defArgs s__law_good) (defBody s__law_good) (defScope s__law_good) .none kV47 dc47 pm47 an47 cd47 ct47), sl47⟩)
    (c47 : PySem.W.codeIn K cd47 "_law_good" = true)
    (k47 : PySem.W.keepIn K (.ref f47) = true)
    (a48 : PySem.W.nsIn K mainGlobals "_law_same" = some (some (.ref f48)))
    (l48 : K.lookup f48 = some ⟨oc48, od48, .func (PySem.W.fnOf "_law_same" "_law_same" (defArgs s__law_same) (defBody s__law_same) (defScope s__law_same) .none kV48 dc48 pm48 an48 cd48 ct48), sl48⟩)
    (c48 : PySem.W.codeIn K cd48 "_law_same" = true)
    (k48 : PySem.W.keepIn K (.ref f48) = true)
    (a49 : PySem.W.nsIn K mainGlobals "_law_marks" = some (some (.ref f49)))
    (l49 : K.lookup f49 = some ⟨oc49, od49, .func (PySem.W.fnOf "_law_marks" "_law_marks" (defArgs s__law_marks) (defBody s__law_marks) (defScope s__law_marks) .none kV49 dc49 pm49 an49 cd49 ct49), sl49⟩)
    (c49 : PySem.W.codeIn K cd49 "_law_marks" = true)
    (k49 : PySem.W.keepIn K (.ref f49) = true)
    (a50 : PySem.W.nsIn K mainGlobals "_law_due" = some (some (.ref f50)))
    (l50 : K.lookup f50 = some ⟨oc50, od50, .func (PySem.W.fnOf "_law_due" "_law_due" (defArgs s__law_due) (defBody s__law_due) (defScope s__law_due) .none kV50 dc50 pm50 an50 cd50 ct50), sl50⟩)
    (c50 : PySem.W.codeIn K cd50 "_law_due" = true)
    (k50 : PySem.W.keepIn K (.ref f50) = true)
    (a51 : PySem.W.nsIn K mainGlobals "_law_told" = some (some (.ref f51)))
    (l51 : K.lookup f51 = some ⟨oc51, od51, .func (PySem.W.fnOf "_law_told" "_law_told" (defArgs s__law_told) (defBody s__law_told) (defScope s__law_told) .none kV51 dc51 pm51 an51 cd51 ct51), sl51⟩)
    (c51 : PySem.W.codeIn K cd51 "_law_told" = true)
    (k51 : PySem.W.keepIn K (.ref f51) = true)
    (a52 : PySem.W.nsIn K mainGlobals "_law_strange" = some (some (.ref f52)))
    (l52 : K.lookup f52 = some ⟨oc52, od52, .func (PySem.W.fnOf "_law_strange" "_law_strange" (defArgs s__law_strange) (defBody s__law_strange) (defScope s__law_strange) .none kV52 dc52 pm52 an52 cd52 ct52), sl52⟩)
    (c52 : PySem.W.codeIn K cd52 "_law_strange" = true)
    (k52 : PySem.W.keepIn K (.ref f52) = true)
    (a53 : PySem.W.nsIn K mainGlobals "_law_kept" = some (some (.ref f53)))
    (l53 : K.lookup f53 = some ⟨oc53, od53, .func (PySem.W.fnOf "_law_kept" "_law_kept" (defArgs s__law_kept) (defBody s__law_kept) (defScope s__law_kept) .none kV53 dc53 pm53 an53 cd53 ct53), sl53⟩)
    (c53 : PySem.W.codeIn K cd53 "_law_kept" = true)
    (k53 : PySem.W.keepIn K (.ref f53) = true)
    (a54 : PySem.W.nsIn K mainGlobals "law" = some (some (.ref f54)))
    (l54 : K.lookup f54 = some ⟨oc54, od54, .func (PySem.W.fnOf "law" "law" (defArgs s_law) (defBody s_law) (defScope s_law) .none kV54 dc54 pm54 an54 cd54 ct54), sl54⟩)
    (c54 : PySem.W.codeIn K cd54 "law" = true)
    (k54 : PySem.W.keepIn K (.ref f54) = true)
    (pgRoll : PySem.W.plainGet K C_Roll Str.empty = true)
    (hdRoll : PySem.W.hasDictIn K C_Roll = true)
    (poRoll : PySem.W.plainOver K C_Roll = true)
    (saRoll : PySem.W.findIn K (.ref C_Roll) "__setattr__" = some (some (.builtin "object.__setattr__")))
    (mkRoll : PySem.W.makesIn K C_Roll = true)
    (kcRoll : PySem.W.keepIn K (.ref C_Roll) = true)
    (nRoll_kept_rule : PySem.W.findIn K (.ref C_Roll) "kept_rule" = some none)
    (nRoll_kept_day : PySem.W.findIn K (.ref C_Roll) "kept_day" = some none)
    (nRoll_kept_edges : PySem.W.findIn K (.ref C_Roll) "kept_edges" = some none)
    (nRoll_whole_ones : PySem.W.findIn K (.ref C_Roll) "whole_ones" = some none)
    (nRoll_cell_heaps : PySem.W.findIn K (.ref C_Roll) "cell_heaps" = some none)
    (pgRule : PySem.W.plainGet K C_Rule Str.empty = true)
    (hdRule : PySem.W.hasDictIn K C_Rule = true)
    (poRule : PySem.W.plainOver K C_Rule = true)
    (saRule : PySem.W.findIn K (.ref C_Rule) "__setattr__" = some (some (.builtin "object.__setattr__")))
    (mkRule : PySem.W.makesIn K C_Rule = true)
    (kcRule : PySem.W.keepIn K (.ref C_Rule) = true)
    (nRule_kept_steps : PySem.W.findIn K (.ref C_Rule) "kept_steps" = some none)
    (nRule_gone_age : PySem.W.findIn K (.ref C_Rule) "gone_age" = some none)
    (pgBook : PySem.W.plainGet K C_Book Str.empty = true)
    (hdBook : PySem.W.hasDictIn K C_Book = true)
    (poBook : PySem.W.plainOver K C_Book = true)
    (saBook : PySem.W.findIn K (.ref C_Book) "__setattr__" = some (some (.builtin "object.__setattr__")))
    (mkBook : PySem.W.makesIn K C_Book = true)
    (kcBook : PySem.W.keepIn K (.ref C_Book) = true)
    (nBook_kept_rule : PySem.W.findIn K (.ref C_Book) "kept_rule" = some none)
    (nBook_kept_day : PySem.W.findIn K (.ref C_Book) "kept_day" = some none)
    (nBook_kept_edges : PySem.W.findIn K (.ref C_Book) "kept_edges" = some none)
    (nBook_kept_marks : PySem.W.findIn K (.ref C_Book) "kept_marks" = some none)
    (nBook_kept_rolls : PySem.W.findIn K (.ref C_Book) "kept_rolls" = some none)
    (xCBookError : PySem.W.nsIn K mainGlobals "BookError" = some (some (.ref C_BookError)))
    (xCNoNumber : PySem.W.nsIn K mainGlobals "NoNumber" = some (some (.ref C_NoNumber)))
    (xCNoRule : PySem.W.nsIn K mainGlobals "NoRule" = some (some (.ref C_NoRule)))
    (xCBackward : PySem.W.nsIn K mainGlobals "Backward" = some (some (.ref C_Backward)))
    (xCNoName : PySem.W.nsIn K mainGlobals "NoName" = some (some (.ref C_NoName)))
    (xCNoMark : PySem.W.nsIn K mainGlobals "NoMark" = some (some (.ref C_NoMark)))
    (xCNoText : PySem.W.nsIn K mainGlobals "NoText" = some (some (.ref C_NoText)))
    (xEBookError : PySem.W.excIn K C_BookError veMro "ValueError.__new__" = true)
    (xKBookError0 : PySem.W.findIn K (.ref C_BookError) "__getattribute__" = some (some (.builtin "BaseException.__getattribute__")))
    (xKBookError1 : PySem.W.findIn K (.ref C_BookError) "__getattr__" = some none)
    (xKBookError2 : PySem.W.findIn K (.ref C_BookError) "__class__" = some (some (.builtin "object.__class__")))
    (xKBookError3 : PySem.W.mroIn K C_BookError (.type "object") = some true)
    (xKBookError4 : PySem.W.mroIn K C_BookError (.type "BaseException") = some true)
    (xKBookError5 : PySem.W.ktsIn K C_BookError "BaseException" = true)
    (xHBookError_BookError : PySem.W.mroIn K C_BookError (.ref C_BookError) = some true)
    (xIBookError_BookError : PySem.W.kitOne K (.ref C_BookError) (.ref C_BookError) = some true)
    (xIBookError_NoNumber : PySem.W.kitOne K (.ref C_BookError) (.ref C_NoNumber) = some false)
    (xIBookError_NoRule : PySem.W.kitOne K (.ref C_BookError) (.ref C_NoRule) = some false)
    (xIBookError_Backward : PySem.W.kitOne K (.ref C_BookError) (.ref C_Backward) = some false)
    (xIBookError_NoName : PySem.W.kitOne K (.ref C_BookError) (.ref C_NoName) = some false)
    (xIBookError_NoMark : PySem.W.kitOne K (.ref C_BookError) (.ref C_NoMark) = some false)
    (xIBookError_NoText : PySem.W.kitOne K (.ref C_BookError) (.ref C_NoText) = some false)
    (xVBookError : PySem.W.kitOne K (.ref C_BookError) (.type "ValueError") = some true)
    (xENoNumber : PySem.W.excIn K C_NoNumber veMro "ValueError.__new__" = true)
    (xKNoNumber0 : PySem.W.findIn K (.ref C_NoNumber) "__getattribute__" = some (some (.builtin "BaseException.__getattribute__")))
    (xKNoNumber1 : PySem.W.findIn K (.ref C_NoNumber) "__getattr__" = some none)
    (xKNoNumber2 : PySem.W.findIn K (.ref C_NoNumber) "__class__" = some (some (.builtin "object.__class__")))
    (xKNoNumber3 : PySem.W.mroIn K C_NoNumber (.type "object") = some true)
    (xKNoNumber4 : PySem.W.mroIn K C_NoNumber (.type "BaseException") = some true)
    (xKNoNumber5 : PySem.W.ktsIn K C_NoNumber "BaseException" = true)
    (xHNoNumber_BookError : PySem.W.mroIn K C_NoNumber (.ref C_BookError) = some true)
    (xINoNumber_BookError : PySem.W.kitOne K (.ref C_NoNumber) (.ref C_BookError) = some true)
    (xHNoNumber_NoNumber : PySem.W.mroIn K C_NoNumber (.ref C_NoNumber) = some true)
    (xINoNumber_NoNumber : PySem.W.kitOne K (.ref C_NoNumber) (.ref C_NoNumber) = some true)
    (xINoNumber_NoRule : PySem.W.kitOne K (.ref C_NoNumber) (.ref C_NoRule) = some false)
    (xINoNumber_Backward : PySem.W.kitOne K (.ref C_NoNumber) (.ref C_Backward) = some false)
    (xINoNumber_NoName : PySem.W.kitOne K (.ref C_NoNumber) (.ref C_NoName) = some false)
    (xINoNumber_NoMark : PySem.W.kitOne K (.ref C_NoNumber) (.ref C_NoMark) = some false)
    (xINoNumber_NoText : PySem.W.kitOne K (.ref C_NoNumber) (.ref C_NoText) = some false)
    (xVNoNumber : PySem.W.kitOne K (.ref C_NoNumber) (.type "ValueError") = some true)
    (xENoRule : PySem.W.excIn K C_NoRule veMro "ValueError.__new__" = true)
    (xKNoRule0 : PySem.W.findIn K (.ref C_NoRule) "__getattribute__" = some (some (.builtin "BaseException.__getattribute__")))
    (xKNoRule1 : PySem.W.findIn K (.ref C_NoRule) "__getattr__" = some none)
    (xKNoRule2 : PySem.W.findIn K (.ref C_NoRule) "__class__" = some (some (.builtin "object.__class__")))
    (xKNoRule3 : PySem.W.mroIn K C_NoRule (.type "object") = some true)
    (xKNoRule4 : PySem.W.mroIn K C_NoRule (.type "BaseException") = some true)
    (xKNoRule5 : PySem.W.ktsIn K C_NoRule "BaseException" = true)
    (xHNoRule_BookError : PySem.W.mroIn K C_NoRule (.ref C_BookError) = some true)
    (xINoRule_BookError : PySem.W.kitOne K (.ref C_NoRule) (.ref C_BookError) = some true)
    (xINoRule_NoNumber : PySem.W.kitOne K (.ref C_NoRule) (.ref C_NoNumber) = some false)
    (xHNoRule_NoRule : PySem.W.mroIn K C_NoRule (.ref C_NoRule) = some true)
    (xINoRule_NoRule : PySem.W.kitOne K (.ref C_NoRule) (.ref C_NoRule) = some true)
    (xINoRule_Backward : PySem.W.kitOne K (.ref C_NoRule) (.ref C_Backward) = some false)
    (xINoRule_NoName : PySem.W.kitOne K (.ref C_NoRule) (.ref C_NoName) = some false)
    (xINoRule_NoMark : PySem.W.kitOne K (.ref C_NoRule) (.ref C_NoMark) = some false)
    (xINoRule_NoText : PySem.W.kitOne K (.ref C_NoRule) (.ref C_NoText) = some false)
    (xVNoRule : PySem.W.kitOne K (.ref C_NoRule) (.type "ValueError") = some true)
    (xKBackward0 : PySem.W.findIn K (.ref C_Backward) "__getattribute__" = some (some (.builtin "BaseException.__getattribute__")))
    (xKBackward1 : PySem.W.findIn K (.ref C_Backward) "__getattr__" = some none)
    (xKBackward2 : PySem.W.findIn K (.ref C_Backward) "__class__" = some (some (.builtin "object.__class__")))
    (xKBackward3 : PySem.W.mroIn K C_Backward (.type "object") = some true)
    (xKBackward4 : PySem.W.mroIn K C_Backward (.type "BaseException") = some true)
    (xKBackward5 : PySem.W.ktsIn K C_Backward "BaseException" = true)
    (xHBackward_BookError : PySem.W.mroIn K C_Backward (.ref C_BookError) = some true)
    (xIBackward_BookError : PySem.W.kitOne K (.ref C_Backward) (.ref C_BookError) = some true)
    (xIBackward_NoNumber : PySem.W.kitOne K (.ref C_Backward) (.ref C_NoNumber) = some false)
    (xIBackward_NoRule : PySem.W.kitOne K (.ref C_Backward) (.ref C_NoRule) = some false)
    (xHBackward_Backward : PySem.W.mroIn K C_Backward (.ref C_Backward) = some true)
    (xIBackward_Backward : PySem.W.kitOne K (.ref C_Backward) (.ref C_Backward) = some true)
    (xIBackward_NoName : PySem.W.kitOne K (.ref C_Backward) (.ref C_NoName) = some false)
    (xIBackward_NoMark : PySem.W.kitOne K (.ref C_Backward) (.ref C_NoMark) = some false)
    (xIBackward_NoText : PySem.W.kitOne K (.ref C_Backward) (.ref C_NoText) = some false)
    (xVBackward : PySem.W.kitOne K (.ref C_Backward) (.type "ValueError") = some true)
    (xENoName : PySem.W.excIn K C_NoName veMro "ValueError.__new__" = true)
    (xKNoName0 : PySem.W.findIn K (.ref C_NoName) "__getattribute__" = some (some (.builtin "BaseException.__getattribute__")))
    (xKNoName1 : PySem.W.findIn K (.ref C_NoName) "__getattr__" = some none)
    (xKNoName2 : PySem.W.findIn K (.ref C_NoName) "__class__" = some (some (.builtin "object.__class__")))
    (xKNoName3 : PySem.W.mroIn K C_NoName (.type "object") = some true)
    (xKNoName4 : PySem.W.mroIn K C_NoName (.type "BaseException") = some true)
    (xKNoName5 : PySem.W.ktsIn K C_NoName "BaseException" = true)
    (xHNoName_BookError : PySem.W.mroIn K C_NoName (.ref C_BookError) = some true)
    (xINoName_BookError : PySem.W.kitOne K (.ref C_NoName) (.ref C_BookError) = some true)
    (xINoName_NoNumber : PySem.W.kitOne K (.ref C_NoName) (.ref C_NoNumber) = some false)
    (xINoName_NoRule : PySem.W.kitOne K (.ref C_NoName) (.ref C_NoRule) = some false)
    (xINoName_Backward : PySem.W.kitOne K (.ref C_NoName) (.ref C_Backward) = some false)
    (xHNoName_NoName : PySem.W.mroIn K C_NoName (.ref C_NoName) = some true)
    (xINoName_NoName : PySem.W.kitOne K (.ref C_NoName) (.ref C_NoName) = some true)
    (xINoName_NoMark : PySem.W.kitOne K (.ref C_NoName) (.ref C_NoMark) = some false)
    (xINoName_NoText : PySem.W.kitOne K (.ref C_NoName) (.ref C_NoText) = some false)
    (xVNoName : PySem.W.kitOne K (.ref C_NoName) (.type "ValueError") = some true)
    (xENoMark : PySem.W.excIn K C_NoMark veMro "ValueError.__new__" = true)
    (xKNoMark0 : PySem.W.findIn K (.ref C_NoMark) "__getattribute__" = some (some (.builtin "BaseException.__getattribute__")))
    (xKNoMark1 : PySem.W.findIn K (.ref C_NoMark) "__getattr__" = some none)
    (xKNoMark2 : PySem.W.findIn K (.ref C_NoMark) "__class__" = some (some (.builtin "object.__class__")))
    (xKNoMark3 : PySem.W.mroIn K C_NoMark (.type "object") = some true)
    (xKNoMark4 : PySem.W.mroIn K C_NoMark (.type "BaseException") = some true)
    (xKNoMark5 : PySem.W.ktsIn K C_NoMark "BaseException" = true)
    (xHNoMark_BookError : PySem.W.mroIn K C_NoMark (.ref C_BookError) = some true)
    (xINoMark_BookError : PySem.W.kitOne K (.ref C_NoMark) (.ref C_BookError) = some true)
    (xINoMark_NoNumber : PySem.W.kitOne K (.ref C_NoMark) (.ref C_NoNumber) = some false)
    (xINoMark_NoRule : PySem.W.kitOne K (.ref C_NoMark) (.ref C_NoRule) = some false)
    (xINoMark_Backward : PySem.W.kitOne K (.ref C_NoMark) (.ref C_Backward) = some false)
    (xINoMark_NoName : PySem.W.kitOne K (.ref C_NoMark) (.ref C_NoName) = some false)
    (xHNoMark_NoMark : PySem.W.mroIn K C_NoMark (.ref C_NoMark) = some true)
    (xINoMark_NoMark : PySem.W.kitOne K (.ref C_NoMark) (.ref C_NoMark) = some true)
    (xINoMark_NoText : PySem.W.kitOne K (.ref C_NoMark) (.ref C_NoText) = some false)
    (xVNoMark : PySem.W.kitOne K (.ref C_NoMark) (.type "ValueError") = some true)
    (xKNoText0 : PySem.W.findIn K (.ref C_NoText) "__getattribute__" = some (some (.builtin "BaseException.__getattribute__")))
    (xKNoText1 : PySem.W.findIn K (.ref C_NoText) "__getattr__" = some none)
    (xKNoText2 : PySem.W.findIn K (.ref C_NoText) "__class__" = some (some (.builtin "object.__class__")))
    (xKNoText3 : PySem.W.mroIn K C_NoText (.type "object") = some true)
    (xKNoText4 : PySem.W.mroIn K C_NoText (.type "BaseException") = some true)
    (xKNoText5 : PySem.W.ktsIn K C_NoText "BaseException" = true)
    (xHNoText_BookError : PySem.W.mroIn K C_NoText (.ref C_BookError) = some true)
    (xINoText_BookError : PySem.W.kitOne K (.ref C_NoText) (.ref C_BookError) = some true)
    (xINoText_NoNumber : PySem.W.kitOne K (.ref C_NoText) (.ref C_NoNumber) = some false)
    (xINoText_NoRule : PySem.W.kitOne K (.ref C_NoText) (.ref C_NoRule) = some false)
    (xINoText_Backward : PySem.W.kitOne K (.ref C_NoText) (.ref C_Backward) = some false)
    (xINoText_NoName : PySem.W.kitOne K (.ref C_NoText) (.ref C_NoName) = some false)
    (xINoText_NoMark : PySem.W.kitOne K (.ref C_NoText) (.ref C_NoMark) = some false)
    (xHNoText_NoText : PySem.W.mroIn K C_NoText (.ref C_NoText) = some true)
    (xINoText_NoText : PySem.W.kitOne K (.ref C_NoText) (.ref C_NoText) = some true)
    (xVNoText : PySem.W.kitOne K (.ref C_NoText) (.type "ValueError") = some true)
    (z_all : PySem.W.nsIn K mainGlobals "all" = some none)
    (z_bool : PySem.W.nsIn K mainGlobals "bool" = some none)
    (z_enumerate : PySem.W.nsIn K mainGlobals "enumerate" = some none)
    (z_int : PySem.W.nsIn K mainGlobals "int" = some none)
    (z_isinstance : PySem.W.nsIn K mainGlobals "isinstance" = some none)
    (z_len : PySem.W.nsIn K mainGlobals "len" = some none)
    (z_list : PySem.W.nsIn K mainGlobals "list" = some none)
    (z_max : PySem.W.nsIn K mainGlobals "max" = some none)
    (z_min : PySem.W.nsIn K mainGlobals "min" = some none)
    (z_range : PySem.W.nsIn K mainGlobals "range" = some none)
    (z_set : PySem.W.nsIn K mainGlobals "set" = some none)
    (z_sorted : PySem.W.nsIn K mainGlobals "sorted" = some none)
    (z_str : PySem.W.nsIn K mainGlobals "str" = some none)
    (z_sum : PySem.W.nsIn K mainGlobals "sum" = some none)
    (z_tuple : PySem.W.nsIn K mainGlobals "tuple" = some none)
    (z_zip : PySem.W.nsIn K mainGlobals "zip" = some none)
    (y_MOST_STEPS : PySem.W.nsIn K mainGlobals "MOST_STEPS" = some (some (.int 5 t_MOST_STEPS)))
    (y_LETTERS : PySem.W.nsIn K mainGlobals "LETTERS" = some (some (.str "abcdefghijklmnopqrstuvwxyz" t_LETTERS)))
    (y_LONGEST_NAME : PySem.W.nsIn K mainGlobals "LONGEST_NAME" = some (some (.int 12 t_LONGEST_NAME)))
    (y_LONGEST_MARK : PySem.W.nsIn K mainGlobals "LONGEST_MARK" = some (some (.int 8 t_LONGEST_MARK)))
    (y_MOST_MARKS : PySem.W.nsIn K mainGlobals "MOST_MARKS" = some (some (.int 8 t_MOST_MARKS))) : ∃ C_Roll C_Rule C_Book C_BookError C_NoNumber C_NoRule C_Backward C_NoName C_NoMark C_NoText, Txt K mg C_Roll C_Rule C_Book C_BookError C_NoNumber C_NoRule C_Backward C_NoName C_NoMark C_NoText := by
  refine ⟨C_Roll, C_Rule, C_Book, C_BookError, C_NoNumber, C_NoRule, C_Backward, C_NoName, C_NoMark, C_NoText, ?_⟩
  exact ⟨⟨f0, _, fun_mk l0 c0 k0, PySem.W.mg_of X G a0⟩,
    ⟨f1, _, fun_mk l1 c1 k1, PySem.W.mg_of X G a1⟩,
    ⟨f2, _, fun_mk l2 c2 k2, PySem.W.mg_of X G a2⟩,
    ⟨f3, _, fun_mk l3 c3 k3, PySem.W.mg_of X G a3⟩,
    ⟨f4, _, fun_mk l4 c4 k4, PySem.W.mg_of X G a4⟩,
    ⟨f5, _, fun_mk l5 c5 k5, PySem.W.mg_of X G a5⟩,
    ⟨f6, _, fun_mk l6 c6 k6, PySem.W.mg_of X G a6⟩,
    ⟨f7, _, fun_mk l7 c7 k7, PySem.W.mg_of X G a7⟩,
    ⟨f8, _, fun_mk l8 c8 k8, PySem.W.mg_of X G a8⟩,
    ⟨f9, _, fun_mk l9 c9 k9, PySem.W.mg_of X G a9⟩,
    ⟨f10, _, fun_mk l10 c10 k10, PySem.W.mg_of X G a10⟩,
    ⟨f11, _, fun_mk l11 c11 k11, ⟨mkRoll, a11, i11, kcRoll⟩⟩,
    ⟨f12, _, dT12, _, _, dt12, ⟨⟨_, _, _, _, _, _, _, _, _, rfl, l12, c12⟩, k12⟩, ⟨a12, i12, k12⟩, rfl, d12, rfl⟩,
    ⟨f13, _, fun_mk l13 c13 k13, ⟨a13, i13, k13⟩⟩,
    ⟨f14, _, fun_mk l14 c14 k14, ⟨a14, i14, k14⟩⟩,
    ⟨f15, _, fun_mk l15 c15 k15, ⟨a15, i15, k15⟩⟩,
    ⟨f16, _, fun_mk l16 c16 k16, ⟨a16, i16, k16⟩⟩,
    ⟨f17, _, fun_mk l17 c17 k17, ⟨a17, i17, k17⟩⟩,
    ⟨f18, _, fun_mk l18 c18 k18, ⟨a18, i18, k18⟩⟩,
    ⟨f19, _, fun_mk l19 c19 k19, ⟨a19, i19, k19⟩⟩,
    ⟨f20, _, fun_mk l20 c20 k20, ⟨a20, i20, k20⟩⟩,
    ⟨f21, _, fun_mk l21 c21 k21, PySem.W.mg_of X G a21⟩,
    ⟨f22, _, fun_mk l22 c22 k22, PySem.W.mg_of X G a22⟩,
    ⟨f23, _, fun_mk l23 c23 k23, PySem.W.mg_of X G a23⟩,
    ⟨f24, _, fun_mk l24 c24 k24, PySem.W.mg_of X G a24⟩,
    ⟨f25, _, fun_mk l25 c25 k25, PySem.W.mg_of X G a25⟩,
    ⟨f26, _, fun_mk l26 c26 k26, PySem.W.mg_of X G a26⟩,
    ⟨f27, _, dT27, _, _, ⟨⟨_, _, _, _, _, _, _, _, _, rfl, l27, c27⟩, k27⟩, ⟨mkRule, a27, i27, kcRule⟩, rfl, d27, rfl⟩,
    ⟨f28, _, fun_mk l28 c28 k28, ⟨a28, i28, k28⟩⟩,
    ⟨f29, _, fun_mk l29 c29 k29, ⟨a29, i29, k29⟩⟩,
    ⟨f30, _, fun_mk l30 c30 k30, PySem.W.mg_of X G a30⟩,
    ⟨f31, _, fun_mk l31 c31 k31, PySem.W.mg_of X G a31⟩,
    ⟨f32, _, fun_mk l32 c32 k32, PySem.W.mg_of X G a32⟩,
    ⟨f33, _, fun_mk l33 c33 k33, PySem.W.mg_of X G a33⟩,
    ⟨f34, _, fun_mk l34 c34 k34, PySem.W.mg_of X G a34⟩,
    ⟨f35, _, fun_mk l35 c35 k35, ⟨mkBook, a35, i35, kcBook⟩⟩,
    ⟨f36, _, dT36, _, _, ⟨⟨_, _, _, _, _, _, _, _, _, rfl, l36, c36⟩, k36⟩, ⟨a36, i36, k36⟩, rfl, d36, rfl⟩,
    ⟨f37, _, fun_mk l37 c37 k37, ⟨a37, i37, k37⟩⟩,
    ⟨f38, _, fun_mk l38 c38 k38, ⟨a38, i38, k38⟩⟩,
    ⟨f39, _, fun_mk l39 c39 k39, ⟨a39, i39, k39⟩⟩,
    ⟨f40, _, fun_mk l40 c40 k40, ⟨a40, i40, k40⟩⟩,
    ⟨f41, _, fun_mk l41 c41 k41, ⟨a41, i41, k41⟩⟩,
    ⟨f42, _, fun_mk l42 c42 k42, PySem.W.mg_of X G a42⟩,
    ⟨f43, _, fun_mk l43 c43 k43, PySem.W.mg_of X G a43⟩,
    ⟨f44, _, fun_mk l44 c44 k44, PySem.W.mg_of X G a44⟩,
    ⟨f45, _, fun_mk l45 c45 k45, PySem.W.mg_of X G a45⟩,
    ⟨f46, _, fun_mk l46 c46 k46, PySem.W.mg_of X G a46⟩,
    ⟨f47, _, fun_mk l47 c47 k47, PySem.W.mg_of X G a47⟩,
    ⟨f48, _, fun_mk l48 c48 k48, PySem.W.mg_of X G a48⟩,
    ⟨f49, _, fun_mk l49 c49 k49, PySem.W.mg_of X G a49⟩,
    ⟨f50, _, fun_mk l50 c50 k50, PySem.W.mg_of X G a50⟩,
    ⟨f51, _, fun_mk l51 c51 k51, PySem.W.mg_of X G a51⟩,
    ⟨f52, _, fun_mk l52 c52 k52, PySem.W.mg_of X G a52⟩,
    ⟨f53, _, fun_mk l53 c53 k53, PySem.W.mg_of X G a53⟩,
    ⟨f54, _, fun_mk l54 c54 k54, PySem.W.mg_of X G a54⟩,
    ⟨pgRoll, hdRoll, poRoll, saRoll⟩,
    PySem.W.mg_of X G aCRoll,
    nRoll_kept_rule,
    nRoll_kept_day,
    nRoll_kept_edges,
    nRoll_whole_ones,
    nRoll_cell_heaps,
    ⟨pgRule, hdRule, poRule, saRule⟩,
    PySem.W.mg_of X G aCRule,
    nRule_kept_steps,
    nRule_gone_age,
    ⟨pgBook, hdBook, poBook, saBook⟩,
    PySem.W.mg_of X G aCBook,
    nBook_kept_rule,
    nBook_kept_day,
    nBook_kept_edges,
    nBook_kept_marks,
    nBook_kept_rolls,
    PySem.W.mg_of X G xCBookError,
    PySem.W.mg_of X G xCNoNumber,
    PySem.W.mg_of X G xCNoRule,
    PySem.W.mg_of X G xCBackward,
    PySem.W.mg_of X G xCNoName,
    PySem.W.mg_of X G xCNoMark,
    PySem.W.mg_of X G xCNoText,
    xEBookError,
    ⟨xKBookError0, xKBookError1, xKBookError2, xKBookError3, xKBookError4, xKBookError5⟩,
    xHBookError_BookError,
    xIBookError_BookError,
    xIBookError_NoNumber,
    xIBookError_NoRule,
    xIBookError_Backward,
    xIBookError_NoName,
    xIBookError_NoMark,
    xIBookError_NoText,
    xVBookError,
    xENoNumber,
    ⟨xKNoNumber0, xKNoNumber1, xKNoNumber2, xKNoNumber3, xKNoNumber4, xKNoNumber5⟩,
    xHNoNumber_BookError,
    xINoNumber_BookError,
    xHNoNumber_NoNumber,
    xINoNumber_NoNumber,
    xINoNumber_NoRule,
    xINoNumber_Backward,
    xINoNumber_NoName,
    xINoNumber_NoMark,
    xINoNumber_NoText,
    xVNoNumber,
    xENoRule,
    ⟨xKNoRule0, xKNoRule1, xKNoRule2, xKNoRule3, xKNoRule4, xKNoRule5⟩,
    xHNoRule_BookError,
    xINoRule_BookError,
    xINoRule_NoNumber,
    xHNoRule_NoRule,
    xINoRule_NoRule,
    xINoRule_Backward,
    xINoRule_NoName,
    xINoRule_NoMark,
    xINoRule_NoText,
    xVNoRule,
    ⟨xKBackward0, xKBackward1, xKBackward2, xKBackward3, xKBackward4, xKBackward5⟩,
    xHBackward_BookError,
    xIBackward_BookError,
    xIBackward_NoNumber,
    xIBackward_NoRule,
    xHBackward_Backward,
    xIBackward_Backward,
    xIBackward_NoName,
    xIBackward_NoMark,
    xIBackward_NoText,
    xVBackward,
    xENoName,
    ⟨xKNoName0, xKNoName1, xKNoName2, xKNoName3, xKNoName4, xKNoName5⟩,
    xHNoName_BookError,
    xINoName_BookError,
    xINoName_NoNumber,
    xINoName_NoRule,
    xINoName_Backward,
    xHNoName_NoName,
    xINoName_NoName,
    xINoName_NoMark,
    xINoName_NoText,
    xVNoName,
    xENoMark,
    ⟨xKNoMark0, xKNoMark1, xKNoMark2, xKNoMark3, xKNoMark4, xKNoMark5⟩,
    xHNoMark_BookError,
    xINoMark_BookError,
    xINoMark_NoNumber,
    xINoMark_NoRule,
    xINoMark_Backward,
    xINoMark_NoName,
    xHNoMark_NoMark,
    xINoMark_NoMark,
    xINoMark_NoText,
    xVNoMark,
    ⟨xKNoText0, xKNoText1, xKNoText2, xKNoText3, xKNoText4, xKNoText5⟩,
    xHNoText_BookError,
    xINoText_BookError,
    xINoText_NoNumber,
    xINoText_NoRule,
    xINoText_Backward,
    xINoText_NoName,
    xINoText_NoMark,
    xHNoText_NoText,
    xINoText_NoText,
    xVNoText,
    PySem.W.mg_none_of X G z_all,
    PySem.W.mg_none_of X G z_bool,
    PySem.W.mg_none_of X G z_enumerate,
    PySem.W.mg_none_of X G z_int,
    PySem.W.mg_none_of X G z_isinstance,
    PySem.W.mg_none_of X G z_len,
    PySem.W.mg_none_of X G z_list,
    PySem.W.mg_none_of X G z_max,
    PySem.W.mg_none_of X G z_min,
    PySem.W.mg_none_of X G z_range,
    PySem.W.mg_none_of X G z_set,
    PySem.W.mg_none_of X G z_sorted,
    PySem.W.mg_none_of X G z_str,
    PySem.W.mg_none_of X G z_sum,
    PySem.W.mg_none_of X G z_tuple,
    PySem.W.mg_none_of X G z_zip,
    ⟨_, PySem.W.mg_of X G y_MOST_STEPS⟩,
    ⟨_, PySem.W.mg_of X G y_LETTERS⟩,
    ⟨_, PySem.W.mg_of X G y_LONGEST_NAME⟩,
    ⟨_, PySem.W.mg_of X G y_LONGEST_MARK⟩,
    ⟨_, PySem.W.mg_of X G y_MOST_MARKS⟩⟩
section
variable {P : Program} {w : World} {K : PySem.W.Frag} {mg : Str → Option Value} {base : Heap} {C_Roll C_Rule C_Book C_BookError C_NoNumber C_NoRule C_Backward C_NoName C_NoMark C_NoText : Addr}
theorem D_is_whole (T : Txt K mg C_Roll C_Rule C_Book C_BookError C_NoNumber C_NoRule C_Backward C_NoName C_NoMark C_NoText) : DefOk P w K mg base 1 "is_whole" ["thing"] sp_is_whole := by
  obtain ⟨f, fd, F, hm⟩ := T.f_is_whole
  have nd := sc_is_whole.nd
  refine F.def_ hm (F.ok sc_is_whole (fun vs H Q E h => ?_) (fun cdv A outer s H vs Q E hr h => ?_)) (F.binds fun _ _ _ _ _ _ us hl => by obtain ⟨_, rfl⟩ := L2.lq1 hl; rfl)
  · obtain ⟨x, rfl, _⟩ := h; rfl
  · obtain ⟨x, rfl, i, rfl, q⟩ := h
    refine ⟨_, (pss_one (ps_ret (pe_and (pe_callB call_isi rfl T.b_isinstance bt_isinstance (pa_cons (pv 0) (pa_cons (pe_bltn (v := .ty "int") rfl T.b_int bt_int rfl) pa_nil))) (pe_one (pe_not (pe_callB call_isi rfl T.b_isinstance bt_isinstance (pa_cons (pv 0) (pa_cons (pe_bltn (v := .ty "bool") rfl T.b_bool bt_bool rfl) pa_nil)))))))), ?_⟩
    refine ⟨_, rfl, _, _, _, true, rfl, .int i, kit_int_int _, _, rfl, iteT ?_⟩
    exact ⟨_, rfl, _, _, _, false, rfl, .int i, kit_int_bool _, _, rfl, q⟩
theorem D_is_step (T : Txt K mg C_Roll C_Rule C_Book C_BookError C_NoNumber C_NoRule C_Backward C_NoName C_NoMark C_NoText) : DefOk P w K mg base 2 "is_step" ["thing"] sp_is_step := by
  obtain ⟨f, fd, F, hm⟩ := T.f_is_step
  have nd := sc_is_step.nd
  refine F.def_ hm (F.ok sc_is_step (fun vs H Q E h => ?_) (fun cdv A outer s H vs Q E hr h => ?_)) (F.binds fun _ _ _ _ _ _ us hl => by obtain ⟨_, rfl⟩ := L2.lq1 hl; rfl)
  · obtain ⟨x, p, rfl, _⟩ := h; rfl
  · obtain ⟨x, p, rfl, ⟨a, rfl, ha⟩, q⟩ := h
    refine ⟨_, (pss_one (ps_ret (pe_and (pe_callB call_isi rfl T.b_isinstance bt_isinstance (pa_cons (pv 0) (pa_cons (pe_bltn (v := .ty "tuple") rfl T.b_tuple bt_tuple rfl) pa_nil))) (pe_and (pe_cmpR op_eq (pe_callB call_len_seq rfl T.b_len bt_len (pa_cons (pv 0) pa_nil)) pe_int (nomark _)) (pe_and (pe_fn (D_is_whole T) (hr.mono (by decide)) rfl (pa_cons (pe_ix ix_tup (pv 0) pe_int (fun _ _ => rfl)) pa_nil)) (pe_one (pe_fn (D_is_whole T) (hr.mono (by decide)) rfl (pa_cons (pe_ix ix_tup (pv 0) pe_int (fun _ _ => rfl)) pa_nil)))))))), ?_⟩
    refine ⟨_, rfl, _, _, _, true, rfl, .tup ha, kit_tuple _, _, rfl, iteT ?_⟩
    refine ⟨_, rfl, a, _, rfl, .inr (SqT.of ha), rfl, _, rfl, iteT ?_⟩
    refine ⟨_, rfl, a, _, 0, _, rfl, rfl, SqT.of ha, rfl, _, rfl, _, rfl, _, rfl, iteT ?_⟩
    exact ⟨_, rfl, a, _, 1, _, rfl, rfl, SqT.of ha, rfl, _, rfl, _, rfl, q⟩
theorem D_check_one_step (T : Txt K mg C_Roll C_Rule C_Book C_BookError C_NoNumber C_NoRule C_Backward C_NoName C_NoMark C_NoText) : DefOk P w K mg base 3 "check_one_step" ["step"] sp_check_one_step := by
  obtain ⟨f, fd, F, hm⟩ := T.f_check_one_step
  have nd := sc_check_one_step.nd
  refine F.def_ hm (F.ok sc_check_one_step (fun vs H Q E h => ?_) (fun cdv A outer s H vs Q E hr h => ?_)) (F.binds fun _ _ _ _ _ _ us hl => by obtain ⟨_, rfl⟩ := L2.lq1 hl; rfl)
  · obtain ⟨x, p, rfl, _⟩ := h; rfl
  · obtain ⟨x, p, rfl, hp, h1, h2, q⟩ := h
    obtain ⟨a, rfl, ha⟩ := id hp
    refine ⟨_, (pss_cons (ps_if (pt_not (pt_val (pe_fn (D_is_step T) (hr.mono (by decide)) rfl (pa_cons (pv 0) pa_nil))))
        (pss_one ps_never)
        pss_nil)
      (pss_cons (ps_if (pt_cmpR op_lt (pe_ix ix_tup (pv 0) pe_int (fun _ _ => rfl)) pe_int (nomark _))
        (pss_one ps_never)
        pss_nil)
      (pss_one (ps_if (pt_cmpR op_lt (pe_ix ix_tup (pv 0) pe_int (fun _ _ => rfl)) pe_int (nomark _))
        (pss_one ps_never)
        pss_nil)))), ?_⟩
    refine ⟨_, rfl, _, p, rfl, hp, _, rfl, iteF ?_⟩
    refine ⟨_, rfl, a, _, 0, _, rfl, rfl, SqT.of ha, rfl, _, _, rfl, rfl, _, rfl, ite2 (fun z => ?_) fun _ => ?_⟩
    · exact absurd (of_decide_eq_true z) (by omega)
    refine ⟨_, rfl, a, _, 1, _, rfl, rfl, SqT.of ha, rfl, _, _, rfl, rfl, _, rfl, ite2 (fun z => ?_) fun _ => q⟩
    exact absurd (of_decide_eq_true z) (by omega)
theorem D_check_next_step (T : Txt K mg C_Roll C_Rule C_Book C_BookError C_NoNumber C_NoRule C_Backward C_NoName C_NoMark C_NoText) : DefOk P w K mg base 1 "check_next_step" ["step", "behind"] sp_check_next_step := by
  obtain ⟨f, fd, F, hm⟩ := T.f_check_next_step
  have nd := sc_check_next_step.nd
  refine F.def_ hm (F.ok sc_check_next_step (fun vs H Q E h => ?_) (fun cdv A outer s H vs Q E hr h => ?_)) (F.binds fun _ _ _ _ _ _ us hl => by obtain ⟨_, _, rfl⟩ := L2.lq2 hl; rfl)
  · obtain ⟨x, y, p, p', rfl, _⟩ := h; rfl
  · obtain ⟨x, y, p, p', rfl, ⟨a, rfl, ha⟩, ⟨b, rfl, hb⟩, h0, h1, h2, q⟩ := h
    refine ⟨_, (pss_cons (ps_if (pt_cmpR op_lt (pe_ix ix_tup (pv 1) pe_int (fun _ _ => rfl)) (pe_ix ix_tup (pv 0) pe_int (fun _ _ => rfl)) (nomark _))
        (pss_one ps_never)
        pss_nil)
      (pss_one (ps_if (pt_cmpR op_ne (pe_op op_mod (pe_ix ix_tup (pv 1) pe_int (fun _ _ => rfl)) (pe_ix ix_tup (pv 0) pe_int (fun _ _ => rfl))) pe_int (nomark _))
        (pss_one ps_never)
        pss_nil))), ?_⟩
    refine ⟨_, rfl, b, _, 0, _, rfl, rfl, SqT.of hb, rfl, _, rfl, a, _, 0, _, rfl, rfl, SqT.of ha, rfl, _, _, rfl, rfl, _, rfl, ite2 (fun z => ?_) fun _ => ?_⟩
    · exact absurd (of_decide_eq_true z) (by omega)
    refine ⟨_, rfl, b, _, 1, _, rfl, rfl, SqT.of hb, rfl, _, rfl, a, _, 1, _, rfl, rfl, SqT.of ha, rfl, _, _, rfl, rfl, (by show 0 < p.2; omega), rfl, _, rfl, ?_⟩
    refine iteNS ?_ q
    exact congrArg V.int h2
theorem D_check_steps (T : Txt K mg C_Roll C_Rule C_Book C_BookError C_NoNumber C_NoRule C_Backward C_NoName C_NoMark C_NoText) : DefOk P w K mg base 4 "check_steps" ["steps"] sp_check_steps := by
  obtain ⟨f, fd, F, hm⟩ := T.f_check_steps
  have nd := sc_check_steps.nd
  refine F.def_ hm (F.ok sc_check_steps (fun vs H Q E h => ?_) (fun cdv A outer s H vs Q E hr h => ?_)) (F.binds fun _ _ _ _ _ _ us hl => by obtain ⟨_, rfl⟩ := L2.lq1 hl; rfl)
  · obtain ⟨l, xs, ps, rfl, _⟩ := h; rfl
  · obtain ⟨l, xs, ps, rfl, hl, hp, G, q⟩ := h
    have hlen := hp.length
    have g1 := G.lo
    have g2 := G.hi
    refine ⟨_, (pss_cons (ps_if (PW.pt (pw_or (pt_cmpR op_lt (pe_callB call_len_seq rfl T.b_len bt_len (pa_cons (pv 0) pa_nil)) pe_int (nomark _)) (pw_or1 (pt_cmpR op_gt (pe_callB call_len_seq rfl T.b_len bt_len (pa_cons (pv 0) pa_nil)) (pe_glob (v := .int 5) rfl T.c_MOST_STEPS.choose_spec ⟨_, rfl⟩) (nomark _)))))
        (pss_one ps_never)
        pss_nil)
      (pss_cons (ps_for PassesOwn.never rfl (pi_list (pv 0)) (pg_name (i := 1) nd rfl (Or.inl rfl))
        (pss_one (ps_expr (pe_fn (D_check_one_step T) (hr.mono (by decide)) rfl (pa_cons (pv 1) pa_nil)))))
      (pss_one (ps_for PassesOwn.never rfl (pi_zip rfl T.b_zip (pa_cons (pv 0) (pa_cons (pe_slice sl_listN (pv 0) (po_some pe_int) po_none) pa_nil))) (pg_tup rfl (pgs_cons (pg_name (i := 1) nd rfl (Or.inl rfl)) (pgs_cons (pg_name (i := 2) nd rfl (Or.inl rfl)) pgs_nil)))
        (pss_one (ps_expr (pe_fn (D_check_next_step T) (hr.mono (by decide)) rfl (pa_cons (pv 1) (pa_cons (pv 2) pa_nil))))))))), ?_⟩
    refine ⟨_, rfl, l, xs, rfl, .inl (SqL.of hl), _, _, rfl, rfl, _, rfl, ite2 (fun z => ?_) fun _ => ?_⟩
    · exact absurd (of_decide_eq_true z) (by omega)
    refine ⟨_, rfl, l, xs, rfl, .inl (SqL.of hl), _, _, rfl, rfl, _, rfl, ite2 (fun z => ?_) fun _ => ?_⟩
    · exact absurd (of_decide_eq_true z) (by omega)
    refine ⟨_, rfl, l, rfl, ⟨_, SqL.of hl⟩, for_list (xs := xs) (fun i σ H2 => H2 = H ∧ ∃ v, σ = [some (.ref l), v, none]) ⟨rfl, none, rfl⟩ (fun i σ H2 _ h2 => by rw [h2.1]; exact SqL.of hl) ?_ ?_⟩
    · rintro i x σ H2 hi ⟨rfl, v, rfl⟩
      obtain ⟨p, hpi, hx⟩ := hp.get hi
      obtain ⟨e1, e2⟩ := G.each i p hpi
      exact ⟨_, rfl, _, p, rfl, hx, e1, e2, rfl, _, rfl⟩
    · rintro σ H2 ⟨rfl, v, rfl⟩
      refine ⟨_, rfl, _, rfl, _, rfl, _, xs, rfl, SqL.of hl, fun l2 H3 n3 => ?_⟩
      refine ⟨l, l2, xs, _, rfl, SqL.of (n3.same _ _ hl), SqL.of n3.at_, for_zipN (xs := xs) (ys := cutV xs (some 1) none) (fun i σ H4 => Same H3 H4 ∧ ∃ u v, σ = [some (.ref l), u, v]) ⟨Same.refl _, _, _, rfl⟩
        (fun i σ H4 h4 => ⟨SqL.of (h4.1 _ _ (n3.same _ _ hl)), SqL.of (h4.1 _ _ n3.at_)⟩) ?_ ?_⟩
      · rintro i x y σ H4 p H5 hx hy n5 ⟨s4, u, v', rfl⟩
        obtain ⟨p1, hp1, hx1⟩ := hp.get hx
        have hy' : xs[i + 1]? = some y := by
          have : cutV xs (some 1) none = xs.drop 1 := cut1 xs
          rw [this, List.getElem?_drop] at hy
          rwa [Nat.add_comm] at hy
        obtain ⟨p2, hp2, hx2⟩ := hp.get hy'
        obtain ⟨e1, e2⟩ := G.next i p1 p2 hp1 hp2
        obtain ⟨_, e3⟩ := G.each i p1 hp1
        have s5 : Same H2 H5 := n3.same.trans (s4.trans n5.same)
        refine ⟨p, _, rfl, SqT.of n5.at_, rfl, _, _, rfl, _, _, rfl, rfl, ?_⟩
        exact ⟨_, rfl, _, rfl, x, y, p1, p2, rfl, hx1.same s5, hx2.same s5, e3, e1, e2, s4.trans n5.same, _, _, rfl⟩
      · rintro i σ H4 _ ⟨s4, _, _, _⟩
        exact q H4 (n3.same.trans s4)
theorem D_check_gone (T : Txt K mg C_Roll C_Rule C_Book C_BookError C_NoNumber C_NoRule C_Backward C_NoName C_NoMark C_NoText) : DefOk P w K mg base 2 "check_gone" ["gone", "last_age"] sp_check_gone := by
  obtain ⟨f, fd, F, hm⟩ := T.f_check_gone
  have nd := sc_check_gone.nd
  refine F.def_ hm (F.ok sc_check_gone (fun vs H Q E h => ?_) (fun cdv A outer s H vs Q E hr h => ?_)) (F.binds fun _ _ _ _ _ _ us hl => by obtain ⟨_, _, rfl⟩ := L2.lq2 hl; rfl)
  · obtain ⟨g, last, rfl, _⟩ := h; rfl
  · obtain ⟨g, last, rfl, hg, q⟩ := h
    refine ⟨_, (pss_cons (ps_if (pt_cmpR op_isN (pv 0) pe_non (nomark _))
        (pss_one ps_retN)
        pss_nil)
      (pss_one (ps_if (PW.pt (pw_or (pt_not (pt_val (pe_fn (D_is_whole T) (hr.mono (by decide)) rfl (pa_cons (pv 0) pa_nil)))) (pw_or1 (pt_cmpR op_lt (pv 0) (pv 1) (nomark _)))))
        (pss_one ps_never)
        pss_nil))), ?_⟩
    cases g with
    | none => exact ⟨_, rfl, rfl, _, rfl, iteT q⟩
    | some z =>
      refine ⟨_, rfl, rfl, _, rfl, iteF ?_⟩
      refine ⟨_, rfl, _, rfl, z, rfl, _, rfl, iteF ?_⟩
      refine ⟨_, rfl, _, rfl, _, _, rfl, rfl, _, rfl, ite2 (fun y => ?_) fun _ => q⟩
      exact absurd (of_decide_eq_true y) (by have := hg z rfl; omega)
theorem G_Rule_init (T : Txt K mg C_Roll C_Rule C_Book C_BookError C_NoNumber C_NoRule C_Backward C_NoName C_NoMark C_NoText) : ∃ f fd dT o n, FnOk P w K mg base CX0 5 f fd ["self", "steps", "gone"] (sp2_init C_Rule) ∧ FunD K "__init__" "Rule.__init__" s_Rule_init (.ref dT) f fd ∧ Mk K C_Rule f ∧ fd.defaults = .ref dT ∧ K.lookup dT = some o ∧ o.data = .seq #[.none] n := by
  obtain ⟨f, fd, dT, o, n, F, M, h1, h2, h3⟩ := T.f_Rule_init
  have nd := sc_Rule_init.nd
  refine ⟨f, fd, dT, o, n, (F.ok sc_Rule_init (fun vs H Q E h => ?_) (fun cdv A outer s H vs Q E hr h => ?_)), F, M, h1, h2, h3⟩
  · obtain ⟨r, dx, l, xs, ps, g, rfl, _⟩ := h; rfl
  · obtain ⟨r, dx, l, xs, ps, g, rfl, hro, hl, hp, G, hg, k⟩ := h
    have g1 := G.lo
    refine ⟨_, (pss_cons (ps_set (i := 3) nd rfl (Or.inl rfl) (pe_callTy call_listN rfl T.b_list bt_list (pa_cons (pv 1) pa_nil)))
      (pss_cons (ps_expr (pe_fn (D_check_steps T) (hr.mono (by decide)) rfl (pa_cons (pv 3) pa_nil)))
      (pss_cons (ps_expr (pe_fn (D_check_gone T) (hr.mono (by decide)) rfl (pa_cons (pv 2) (pa_cons (pe_ix ix_tup (pe_ix ix_list (pv 3) (pe_un un_neg pe_int) (fun _ _ => rfl)) pe_int (fun _ _ => rfl)) pa_nil))))
      (pss_cons (ps_fldN (pv 0) (pv 3) rfl)
      (pss_one (ps_fldN (pv 0) (pv 2) rfl)))))), ?_⟩
    refine ⟨_, rfl, l, xs, rfl, .inl (SqL.of hl), fun l' H1 n1 => ?_⟩
    refine ⟨_, rfl, l', xs, ps, rfl, n1.at_, hp.same n1.same, G, fun H2 s2 => ?_⟩
    have hl2 := s2 _ _ n1.at_
    have hp2 := (hp.same n1.same).same s2
    have hlen := hp.length
    obtain ⟨v, hv⟩ : ∃ v, xs[xs.length - 1]? = some v := ⟨xs[xs.length - 1]'(by omega), List.getElem?_eq_getElem _⟩
    obtain ⟨p, hpv, a, rfl, ha⟩ := hp2.get hv
    refine ⟨_, rfl, _, rfl, _, rfl, l', xs, -1, _, rfl, rfl, SqL.of hl2, atI_m1 hv, a, _, 0, _, rfl, rfl, SqT.of ha, rfl, g, p.1, rfl, hg p (by rw [← hlen]; exact hpv), ?_⟩
    have hr2 := s2 _ _ (n1.same _ _ hro)
    have nrl : r ≠ l' := ne_of_none hro n1.fresh
    refine ⟨_, rfl, _, rfl, r, C_Rule, dx, [], rfl, hr2, T.cl_Rule, T.na_Rule_kept_steps, (by show 0 < 1000; decide), fun H3 b3 h3 => ?_⟩
    refine ⟨_, rfl, _, rfl, r, C_Rule, dx, _, rfl, h3, T.cl_Rule, T.na_Rule_gone_age, (by show 1 < 1000; decide), fun H4 b4 h4 => ?_⟩
    refine k l' _ n1.fresh ⟨⟨dx, h4⟩, xs, b4 _ _ (b3 _ _ hl2 nrl.symm) nrl.symm, (hp2.but b3 hr2 ins_nt).but b4 h3 ins_nt⟩ fun b o e hb => ?_
    exact b4 _ _ (b3 _ _ (s2 _ _ (n1.same _ _ e)) hb) hb
theorem D_Rule_1 (T : Txt K mg C_Roll C_Rule C_Book C_BookError C_NoNumber C_NoRule C_Backward C_NoName C_NoMark C_NoText) : MkOk P w K mg base C_Rule 5 "Rule" ["self", "steps", "gone"] [.none] (sp2_init C_Rule) := by
  obtain ⟨f, fd, dT, o, n, hf, F, M, h1, h2, h3⟩ := G_Rule_init (P := P) (w := w) (base := base) T
  refine ⟨f, fd, hf, T.mg_Rule, M, binds_d h1 h2 h3 fun us hl => ?_⟩
  obtain ⟨oc, od, kV, doc, pm, an, cdv, ct, osl, rfl, lk, hcd⟩ := F.ex
  obtain ⟨a, b, rfl⟩ := len2 (us := us) (by simpa using hl)
  exact ⟨_, rfl, rfl⟩
theorem D_Rule_steps (T : Txt K mg C_Roll C_Rule C_Book C_BookError C_NoNumber C_NoRule C_Backward C_NoName C_NoMark C_NoText) : MetOk P w K mg base C_Rule 1 "steps" ["self"] (sp2_steps C_Rule) := by
  obtain ⟨f, fd, F, hm⟩ := T.f_Rule_steps
  have nd := sc_Rule_steps.nd
  refine ⟨f, fd, (F.ok sc_Rule_steps (fun vs H Q E h => ?_) (fun cdv A outer s H vs Q E hr h => ?_)), hm, (F.binds fun _ _ _ _ _ _ us hl => by obtain ⟨_, rfl⟩ := L2.lq1 hl; rfl)⟩
  · obtain ⟨r, l, ps, g, xs, rfl, _⟩ := h; rfl
  · obtain ⟨r, l, ps, g, xs, rfl, R, hl, k⟩ := h
    obtain ⟨dx, hob⟩ := R.ob
    refine ⟨_, (pss_one (ps_ret (pe_callTy call_listN rfl T.b_list bt_list (pa_cons (pe_fld (pv 0) rfl) pa_nil)))), ?_⟩
    exact ⟨_, rfl, r, C_Rule, dx, _, _, rfl, hob, T.cl_Rule, T.na_Rule_kept_steps, rf_ks _ _, l, xs, rfl, .inl (SqL.of hl), k⟩
end
section
variable {P : Program} {w : World} {K : PySem.W.Frag} {mg : Str → Option Value} {base : Heap} {C_Roll C_Rule C_Book C_BookError C_NoNumber C_NoRule C_Backward C_NoName C_NoMark C_NoText : Addr}
theorem D_Rule_gone (T : Txt K mg C_Roll C_Rule C_Book C_BookError C_NoNumber C_NoRule C_Backward C_NoName C_NoMark C_NoText) : MetOk P w K mg base C_Rule 1 "gone" ["self"] (sp_gone C_Rule) := by
  obtain ⟨f, fd, F, hm⟩ := T.f_Rule_gone
  have nd := sc_Rule_gone.nd
  refine ⟨f, fd, (F.ok sc_Rule_gone (fun vs H Q E h => ?_) (fun cdv A outer s H vs Q E hr h => ?_)), hm, (F.binds fun _ _ _ _ _ _ us hl => by obtain ⟨_, rfl⟩ := L2.lq1 hl; rfl)⟩
  · obtain ⟨r, l, ps, g, rfl, _⟩ := h; rfl
  · obtain ⟨r, l, ps, g, rfl, R, q⟩ := h
    obtain ⟨dx, hob⟩ := R.ob
    refine ⟨_, (pss_one (ps_ret (pe_fld (pv 0) rfl))), ?_⟩
    exact ⟨_, rfl, r, C_Rule, dx, _, _, rfl, hob, T.cl_Rule, T.na_Rule_gone_age, rf_ga _ _, q⟩
end
section
variable {P : Program} {w : World} {K : PySem.W.Frag} {mg : Str → Option Value} {base : Heap} {C_Roll C_Rule C_Book C_BookError C_NoNumber C_NoRule C_Backward C_NoName C_NoMark C_NoText : Addr}
theorem D_floored (T : Txt K mg C_Roll C_Rule C_Book C_BookError C_NoNumber C_NoRule C_Backward C_NoName C_NoMark C_NoText) : DefOk P w K mg base 1 "floored" ["number", "width"] sp_floored := by
  obtain ⟨f, fd, F, hm⟩ := T.f_floored
  have nd := sc_floored.nd
  refine F.def_ hm (F.ok sc_floored (fun vs H Q E h => ?_) (fun cdv A outer s H vs Q E hr h => ?_)) (F.binds fun _ _ _ _ _ _ us hl => by obtain ⟨_, _, rfl⟩ := L2.lq2 hl; rfl)
  · obtain ⟨n, w', rfl, _⟩ := h; rfl
  · obtain ⟨n, w', rfl, h1, h2, h3, h4, q⟩ := h
    have hb := div_b h1 (by decide : (0 : Int) ≤ 10 ^ 46) h3 h4
    refine ⟨_, (pss_one (ps_ret (pe_op op_mulB (pe_op op_fdivB (pv 0) (pv 1)) (pv 1)))), ?_⟩
    exact ⟨_, rfl, _, rfl, _, _, rfl, rfl, ⟨by omega, by omega⟩, _, rfl, _, _, rfl, rfl, ⟨⟨by omega, by omega⟩, by omega, by omega⟩, q⟩
theorem D_gone_cut (T : Txt K mg C_Roll C_Rule C_Book C_BookError C_NoNumber C_NoRule C_Backward C_NoName C_NoMark C_NoText) : DefOk P w K mg base 2 "gone_cut" ["rule", "day"] (sp_gone_cut C_Rule) := by
  obtain ⟨f, fd, F, hm⟩ := T.f_gone_cut
  have nd := sc_gone_cut.nd
  refine F.def_ hm (F.ok sc_gone_cut (fun vs H Q E h => ?_) (fun cdv A outer s H vs Q E hr h => ?_)) (F.binds fun _ _ _ _ _ _ us hl => by obtain ⟨_, _, rfl⟩ := L2.lq2 hl; rfl)
  · obtain ⟨r, l, ps, g, d, rfl, _⟩ := h; rfl
  · obtain ⟨r, l, ps, g, d, rfl, R, Pg, hd, q⟩ := h
    obtain ⟨dx, hob⟩ := R.ob
    obtain ⟨xs, hl, hx⟩ := R.ls
    have n1 : (rf l (gv g)).lookup ("gone" : Str) = none := rf_no _ _ (by decide +kernel) (by decide +kernel)
    have n2 : (rf l (gv g)).lookup ("steps" : Str) = none := rf_no _ _ (by decide +kernel) (by decide +kernel)
    obtain ⟨p, hp, ep⟩ := Pg.last
    have hlen := hx.length
    refine ⟨_, (pss_cons (ps_set (i := 2) nd rfl (Or.inl rfl) (pe_mt0 (pv 0) T.cl_Rule (D_Rule_gone T) (hr.mono (by decide))))
      (pss_cons (ps_if (pt_cmpR op_isN (pv 2) pe_non (nomark _))
        (pss_one (ps_ret pe_non))
        pss_nil)
      (pss_one (ps_ret (pe_fn (D_floored T) (hr.mono (by decide)) rfl (pa_cons (pe_op op_sub (pv 1) (pv 2)) (pa_cons (pe_ix ix_tup (pe_ix ix_list (pe_mt0 (pv 0) T.cl_Rule (D_Rule_steps T) (hr.mono (by decide))) (pe_un un_neg pe_int) (fun _ _ => rfl)) pe_int (fun _ _ => rfl)) pa_nil))))))), ?_⟩
    refine ⟨_, rfl, r, dx, _, rfl, hob, n1, r, l, ps, g, rfl, R, ?_⟩
    cases g with
    | none => exact ⟨_, rfl, rfl, _, rfl, iteT (q H (Same.refl _))⟩
    | some z =>
      refine ⟨_, rfl, rfl, _, rfl, iteF ?_⟩
      refine ⟨_, rfl, _, rfl, _, _, rfl, rfl, ?_⟩
      refine ⟨_, rfl, r, dx, _, rfl, hob, n2, r, l, ps, _, xs, rfl, R, hl, fun p1 H1 m1 => ?_⟩
      obtain ⟨v, hv, a, rfl, ha⟩ := hx.get' hp
      have hz := Pg.gb z rfl
      have hs := Pg.size _ p hp
      unfold Bd at hd
      refine ⟨_, rfl, p1, xs, -1, _, rfl, rfl, SqL.of m1.at_, atI_m1 (by rw [hlen]; exact hv), a, _, 1, _, rfl, rfl, SqT.of (m1.same _ _ ha), rfl, d - z, p.2, rfl, hs.2.2.1, hs.2.2.2, by omega, by omega, ?_⟩
      have := q H1 m1.same
      rw [ep] at this
      exact this
theorem D_edges_at (T : Txt K mg C_Roll C_Rule C_Book C_BookError C_NoNumber C_NoRule C_Backward C_NoName C_NoMark C_NoText) : DefOk P w K mg base 3 "edges_at" ["rule", "day"] (sp_edges_at C_Rule) := by
  obtain ⟨f, fd, F, hm⟩ := T.f_edges_at
  have nd := sc_edges_at.nd
  refine F.def_ hm (F.ok sc_edges_at (fun vs H Q E h => ?_) (fun cdv A outer s H vs Q E hr h => ?_)) (F.binds fun _ _ _ _ _ _ us hl => by obtain ⟨_, _, rfl⟩ := L2.lq2 hl; rfl)
  · obtain ⟨r, l, ps, g, d, rfl, _⟩ := h; rfl
  · obtain ⟨r, l, ps, g, d, rfl, R, Pg, hd, q⟩ := h
    obtain ⟨dx, hob⟩ := R.ob
    obtain ⟨xs, hl, hx⟩ := R.ls
    have n2 : (rf l (gv g)).lookup ("steps" : Str) = none := rf_no _ _ (by decide +kernel) (by decide +kernel)
    have hlen := hx.length
    have h5 := Pg.good.hi
    refine ⟨_, (pss_cons (ps_setLC (i := 2) (vars := ["age", "width"]) (frees := ["day"]) (fv := [1]) nd rfl (Or.inl rfl) rfl (lcOk rfl rfl (by decide +kernel) (by decide +kernel) (by intro p hp; simp only [List.mem_cons, List.not_mem_nil, or_false] at hp; rcases hp with rfl <;> rfl) rfl) ⟨⟨rfl, .inl rfl, rfl, .inl rfl⟩, trivial⟩ (pi_list (pe_mt0 (pv 0) T.cl_Rule (D_Rule_steps T) (hr.mono (by decide)))) (gk_pair (by decide) (by decide)) (fun _ _ _ _ => (pg_tup rfl (pgs_cons (pg_name (i := 0) (show (["age", "width", "day"] : List Str).Nodup by decide +kernel) rfl (Or.inl rfl)) (pgs_cons (pg_name (i := 1) (show (["age", "width", "day"] : List Str).Nodup by decide +kernel) rfl (Or.inl rfl)) pgs_nil)))) (fun _ _ _ _ => pif_none) (fun _ _ _ _ => (pe_fn (D_floored T) (hr.mono (by decide)) rfl (pa_cons (pe_op op_sub (pv 2) (pv 0)) (pa_cons (pv 1) pa_nil)))))
      (pss_one (ps_ret (pe_op op_catN (pv 2) (pe_lstN (pa_cons (pe_fn (D_gone_cut T) (hr.mono (by decide)) rfl (pa_cons (pv 0) (pa_cons (pv 1) pa_nil))) pa_nil)))))), ?_⟩
    refine ⟨_, rfl, r, dx, _, rfl, hob, n2, r, l, ps, g, xs, rfl, R, hl, fun p1 H1 m1 => ?_⟩
    refine ⟨p1, rfl, ⟨_, SqL.of m1.at_⟩, lc_list (xs := xs) (fun i ys H2 => Same H1 H2 ∧ ys = (ps.take i).map fun p => V.int (cut d p.1 p.2)) (Nat.le_of_lt (small1000 (by omega))) ⟨Same.refl _, rfl⟩ (fun i ys H2 h2 => ⟨SqL.of (h2.1 _ _ m1.at_), by rw [h2.2]; simp; omega⟩) ?_ ?_⟩
    · rintro i x ys H2 hi ⟨s2, rfl⟩
      obtain ⟨p, hpi, a, rfl, ha⟩ := hx.get hi
      have hs := Pg.size i p hpi
      unfold Bd at hd
      refine ⟨a, _, rfl, SqT.of (s2 _ _ (m1.same _ _ ha)), rfl, _, _, rfl, _, _, rfl, rfl, yes_ (iteT ?_)⟩
      refine ⟨_, rfl, _, rfl, _, _, rfl, rfl, _, rfl, d - p.1, p.2, rfl, hs.2.2.1, hs.2.2.2, by omega, by omega, s2, ?_⟩
      exact (mapN _ ps i p hpi).symm
    · rintro ys H2 c1 ⟨s2, rfl⟩ hc
      have nc := new_upd (o := .lst ((ps.take xs.length).map fun p => V.int (cut d p.1 p.2))) hc
      generalize upd H2 c1 _ = H3 at nc ⊢
      have s3 : Same H H3 := m1.same.trans (s2.trans nc.same)
      rw [hlen, List.take_length] at nc
      refine ⟨_, rfl, _, rfl, _, rfl, r, l, ps, g, d, rfl, R.same s3, Pg, hd, fun H4 s4 => ⟨by show 1 ≤ sizeLine; decide, fun c2 H5 n5 => ?_⟩⟩
      refine ⟨c1, c2, _, _, rfl, rfl, n5.same _ _ (s4 _ _ nc.at_), n5.at_, Nat.le_of_lt (small1000 (by simp; omega)), fun z H6 n6 => ?_⟩
      exact q z H6 (New.after (s3.trans (s4.trans n5.same)) n6)
end
section
variable {P : Program} {w : World} {K : PySem.W.Frag} {mg : Str → Option Value} {base : Heap} {C_Roll C_Rule C_Book C_BookError C_NoNumber C_NoRule C_Backward C_NoName C_NoMark C_NoText : Addr}
theorem D_greater_edge (T : Txt K mg C_Roll C_Rule C_Book C_BookError C_NoNumber C_NoRule C_Backward C_NoName C_NoMark C_NoText) : DefOk P w K mg base 1 "greater_edge" ["one", "other"] sp_greater_edge := by
  obtain ⟨f, fd, F, hm⟩ := T.f_greater_edge
  have nd := sc_greater_edge.nd
  refine F.def_ hm (F.ok sc_greater_edge (fun vs H Q E h => ?_) (fun cdv A outer s H vs Q E hr h => ?_)) (F.binds fun _ _ _ _ _ _ us hl => by obtain ⟨_, _, rfl⟩ := L2.lq2 hl; rfl)
  · obtain ⟨x, y, rfl, _⟩ := h; rfl
  · obtain ⟨x, y, rfl, hx, hy, q⟩ := h
    refine ⟨_, (pss_cons (ps_if (pt_cmpR op_isN (pv 0) pe_non (nomark _))
        (pss_one (ps_ret (pv 1)))
        pss_nil)
      (pss_cons (ps_if (pt_cmpR op_isN (pv 1) pe_non (nomark _))
        (pss_one (ps_ret (pv 0)))
        pss_nil)
      (pss_one (ps_ret (pe_callB (call_max2 rfl) rfl T.b_max bt_max (pa_cons (pv 0) (pa_cons (pv 1) pa_nil))))))), ?_⟩
    rcases hx with rfl | ⟨i, rfl⟩
    · exact ⟨_, rfl, rfl, _, rfl, iteT ⟨_, rfl, q⟩⟩
    · refine ⟨_, rfl, rfl, _, rfl, iteF ?_⟩
      rcases hy with rfl | ⟨j, rfl⟩
      · exact ⟨_, rfl, rfl, _, rfl, iteT ⟨_, rfl, q⟩⟩
      · exact ⟨_, rfl, rfl, _, rfl, iteF ⟨_, rfl, _, rfl, _, _, rfl, q⟩⟩
theorem D_greater (T : Txt K mg C_Roll C_Rule C_Book C_BookError C_NoNumber C_NoRule C_Backward C_NoName C_NoMark C_NoText) : DefOk P w K mg base 2 "greater" ["one", "other"] sp_lgreater := by
  obtain ⟨f, fd, F, hm⟩ := T.f_greater
  have nd := sc_greater.nd
  refine F.def_ hm (F.ok sc_greater (fun vs H Q E h => ?_) (fun cdv A outer s H vs Q E hr h => ?_)) (F.binds fun _ _ _ _ _ _ us hl => by obtain ⟨_, _, rfl⟩ := L2.lq2 hl; rfl)
  · obtain ⟨a, b, xs, ys, rfl, _⟩ := h; rfl
  · obtain ⟨a, b, xs, ys, rfl, ha, hb, hx, hy, he, hz, q⟩ := h
    refine ⟨_, (pss_cons (ps_if (pt_cmpR op_ne (pe_callB call_len_seq rfl T.b_len bt_len (pa_cons (pv 0) pa_nil)) (pe_callB call_len_seq rfl T.b_len bt_len (pa_cons (pv 1) pa_nil)) (nomark _))
        (pss_one ps_never)
        pss_nil)
      (pss_one (ps_ret (pe_lc (vars := ["left", "right"]) (frees := []) (fv := []) rfl (lcOk rfl rfl (by decide +kernel) (by decide +kernel) (by intro p hp; cases hp) rfl) trivial (pi_zip rfl T.b_zip (pa_cons (pv 0) (pa_cons (pv 1) pa_nil))) (gk_pair (by decide) (by decide)) (fun _ _ _ _ => (pg_tup rfl (pgs_cons (pg_name (i := 0) (show (["left", "right"] : List Str).Nodup by decide +kernel) rfl (Or.inl rfl)) (pgs_cons (pg_name (i := 1) (show (["left", "right"] : List Str).Nodup by decide +kernel) rfl (Or.inl rfl)) pgs_nil)))) (fun _ _ _ _ => pif_none) (fun _ _ _ _ => (pe_fn (D_greater_edge T) (hr.mono (by decide)) rfl (pa_cons (pv 0) (pa_cons (pv 1) pa_nil)))))))), ?_⟩
    refine ⟨_, rfl, a, xs, rfl, .inl (SqL.of ha), _, rfl, b, ys, rfl, .inl (SqL.of hb), rfl, _, rfl, ?_⟩
    refine iteNS (by rw [he]) ?_
    refine ⟨_, rfl, _, rfl, a, b, xs, ys, rfl, SqL.of ha, SqL.of hb, ?_⟩
    refine lc_zip (xs := xs) (fun i zs H2 => Same H H2 ∧ zs = (List.zipWith gE xs ys).take i) (Nat.le_of_lt (small1000 hz)) ⟨Same.refl _, rfl⟩ (fun i zs H2 h2 => ⟨SqL.of (h2.1 _ _ ha), SqL.of (h2.1 _ _ hb), by rw [h2.2]; simp; omega⟩) ?_ ?_
    · rintro i x y zs H2 p h1 h2 hn ⟨s2, rfl⟩
      have n := new_upd (o := .tup [x, y]) hn
      generalize upd H2 p _ = H3 at n ⊢
      refine ⟨p, _, rfl, SqT.of n.at_, rfl, _, _, rfl, _, _, rfl, rfl, yes_ (iteT ?_)⟩
      exact ⟨_, rfl, _, rfl, x, y, rfl, hx x (List.mem_of_getElem? h1), hy y (List.mem_of_getElem? h2), s2.trans n.same, (takeN _ i _ (zip_get h1 h2)).symm⟩
    · rintro i zs H2 p hi ⟨s2, rfl⟩ hn
      have n := new_upd (o := .lst ((List.zipWith gE xs ys).take i)) hn
      have e : (List.zipWith gE xs ys).take i = List.zipWith gE xs ys := List.take_of_length_le (by rw [List.length_zipWith, hi]; exact Nat.le_refl _)
      rw [e] at n ⊢
      exact q p _ (New.after s2 n)
end
section
variable {P : Program} {w : World} {K : PySem.W.Frag} {mg : Str → Option Value} {base : Heap} {C_Roll C_Rule C_Book C_BookError C_NoNumber C_NoRule C_Backward C_NoName C_NoMark C_NoText : Addr}
theorem D_Roll_2 (T : Txt K mg C_Roll C_Rule C_Book C_BookError C_NoNumber C_NoRule C_Backward C_NoName C_NoMark C_NoText) : MkOk P w K mg base C_Roll 4 "Roll" ["self", "rule", "day"] [] (sp_roll_init C_Roll C_Rule) := by
  obtain ⟨f, fd, F, M⟩ := T.f_Roll_init
  have nd := sc_Roll_init.nd
  refine ⟨f, fd, (F.ok sc_Roll_init (fun vs H Q E h => ?_) (fun cdv A outer s H vs Q E hr h => ?_)), T.mg_Roll, M, (F.binds fun _ _ _ _ _ _ us hl => by obtain ⟨_, _, _, rfl⟩ := L2.lq3 hl; rfl)⟩
  · obtain ⟨ro, dx, ru, rl, ps, g, day, rfl, _⟩ := h; rfl
  · obtain ⟨ro, dx, ru, rl, ps, g, day, rfl, hro, R, Pg, hd, q⟩ := h
    obtain ⟨dx2, hru⟩ := R.ob
    have nru : ru ≠ ro := ne_of hru hro (by intro z; injection z with _ _ z; have := rf_ks rl (gv g); rw [z] at this; cases this)
    refine ⟨_, (pss_cons (ps_fldN (pv 0) (pv 1) rfl)
      (pss_cons (ps_fldN (pv 0) (pv 2) rfl)
      (pss_cons (ps_fldN (pv 0) (pe_fn (D_edges_at T) (hr.mono (by decide)) rfl (pa_cons (pv 1) (pa_cons (pv 2) pa_nil))) rfl)
      (pss_cons (ps_fldN (pv 0) pe_dnewN rfl)
      (pss_one (ps_fldN (pv 0) pe_dnewN rfl)))))), ?_⟩
    refine ⟨_, rfl, _, rfl, ro, C_Roll, dx, [], rfl, hro, T.cl_Roll, T.na_Roll_kept_rule, (by show 0 < 1000; decide), fun H1 b1 h1 => ?_⟩
    refine ⟨_, rfl, _, rfl, ro, C_Roll, dx, _, rfl, h1, T.cl_Roll, T.na_Roll_kept_day, (by show 1 < 1000; decide), fun H2 b2 h2 => ?_⟩
    have R2 := (R.but2 b1 hro ins_nt (by intro xs z; cases z) nru).but2 b2 h1 ins_nt (by intro xs z; cases z) nru
    refine ⟨_, rfl, _, rfl, ru, rl, ps, g, day, rfl, R2, Pg, hd, fun le H3 n3 => ?_⟩
    refine ⟨_, rfl, ro, C_Roll, dx, _, rfl, n3.same _ _ h2, T.cl_Roll, T.na_Roll_kept_edges, (by show 2 < 1000; decide), fun H4 b4 h4 => ?_⟩
    intro dy H5 n5
    refine ⟨_, rfl, ro, C_Roll, dx, _, rfl, n5.same _ _ h4, T.cl_Roll, T.na_Roll_whole_ones, (by show 3 < 1000; decide), fun H6 b6 h6 => ?_⟩
    intro dh H7 n7
    refine ⟨_, rfl, ro, C_Roll, dx, _, rfl, n7.same _ _ h6, T.cl_Roll, T.na_Roll_cell_heaps, (by show 4 < 1000; decide), fun H8 b8 h8 => ?_⟩
    have R8 := ((((R2.same n3.same).but2 b4 (n3.same _ _ h2) ins_nt (by intro xs z; cases z) nru).same n5.same |>.but2 b6 (n5.same _ _ h4) ins_nt (by intro xs z; cases z) nru).same n7.same).but2 b8 (n7.same _ _ h6) ins_nt (by intro xs z; cases z) nru
    have bb : But ro H H8 := fun b o e hb => b8 _ _ (n7.same _ _ (b6 _ _ (n5.same _ _ (b4 _ _ (n3.same _ _ (b2 _ _ (b1 _ _ e hb) hb)) hb)) hb)) hb
    have fr : ∀ b, b ≠ ro → H8 b = none → H b = none := fun b hb h0 => by
      cases e : H b with
      | none => rfl
      | some o => rw [bb b o e hb] at h0; cases h0
    have e4 : H4 le = some (.lst (eV ps g day)) := b4 _ _ n3.at_ (ne_of n3.at_ (n3.same _ _ h2) (by intro z; cases z))
    have e6 : H6 dy = some (.dT []) := b6 _ _ n5.at_ (ne_of n5.at_ (n5.same _ _ h4) (by intro z; cases z))
    have up2 : ∀ b o, H b = some o → b ≠ ro → H2 b = some o := fun b o e hb => b2 _ _ (b1 _ _ e hb) hb
    have fr2 : ∀ b, H2 b = none → H b = none := fun b h0 => by
      cases e : H b with
      | none => rfl
      | some o =>
        by_cases hb : b = ro
        · subst hb; rw [h2] at h0; cases h0
        · rw [up2 b o e hb] at h0; cases h0
    have fr4 : ∀ b, H4 b = none → H2 b = none := fun b h0 => by
      cases e : H2 b with
      | none => rfl
      | some o =>
        by_cases hb : b = ro
        · subst hb; rw [h4] at h0; cases h0
        · rw [b4 _ _ (n3.same _ _ e) hb] at h0; cases h0
    have fr6 : ∀ b, H6 b = none → H4 b = none := fun b h0 => by
      cases e : H4 b with
      | none => rfl
      | some o =>
        by_cases hb : b = ro
        · subst hb; rw [h6] at h0; cases h0
        · rw [b6 _ _ (n5.same _ _ e) hb] at h0; cases h0
    refine q le dy dh H8 (fr2 _ n3.fresh) (fr2 _ (fr4 _ n5.fresh)) (fr2 _ (fr4 _ (fr6 _ n7.fresh))) ⟨⟨dx, h8⟩, R8, ?_, ?_, ?_, ne_of_none e6 n7.fresh⟩ bb
    · have e8 := b8 _ _ (n7.same _ _ (b6 _ _ (n5.same _ _ e4) (ne_of (n5.same _ _ e4) (n5.same _ _ h4) (by intro z; cases z)))) (ne_of (n7.same _ _ (b6 _ _ (n5.same _ _ e4) (ne_of (n5.same _ _ e4) (n5.same _ _ h4) (by intro z; cases z)))) (n7.same _ _ h6) (by intro z; cases z))
      show H8 le = some (.lst (((ps.map fun p => cut day p.1 p.2).map V.int) ++ [gv (g.map fun z => cut day z (lw ps))]))
      rw [← (EdS.of Pg hd).eq]
      exact e8
    · exact b8 _ _ (n7.same _ _ e6) (ne_of (n7.same _ _ e6) (n7.same _ _ h6) (by intro z; cases z))
    · exact b8 _ _ n7.at_ (ne_of n7.at_ (n7.same _ _ h6) (by intro z; cases z))
theorem D_Roll_rule (T : Txt K mg C_Roll C_Rule C_Book C_BookError C_NoNumber C_NoRule C_Backward C_NoName C_NoMark C_NoText) : MetOk P w K mg base C_Roll 1 "rule" ["self"] (sp_rrule C_Roll C_Rule) := by
  obtain ⟨f, fd, F, hm⟩ := T.f_Roll_rule
  have nd := sc_Roll_rule.nd
  refine ⟨f, fd, (F.ok sc_Roll_rule (fun vs H Q E h => ?_) (fun cdv A outer s H vs Q E hr h => ?_)), hm, (F.binds fun _ _ _ _ _ _ us hl => by obtain ⟨_, rfl⟩ := L2.lq1 hl; rfl)⟩
  · obtain ⟨ro, D, rfl, _⟩ := h; rfl
  · obtain ⟨ro, D, rfl, A', q⟩ := h
    obtain ⟨dx, hob⟩ := A'.ob
    refine ⟨_, (pss_one (ps_ret (pe_fld (pv 0) rfl))), ?_⟩
    exact ⟨_, rfl, ro, C_Roll, dx, _, _, rfl, hob, T.cl_Roll, T.na_Roll_kept_rule, rof_kr _ _ _ _ _, q⟩
theorem D_Roll_day (T : Txt K mg C_Roll C_Rule C_Book C_BookError C_NoNumber C_NoRule C_Backward C_NoName C_NoMark C_NoText) : MetOk P w K mg base C_Roll 1 "day" ["self"] (sp_rday C_Roll C_Rule) := by
  obtain ⟨f, fd, F, hm⟩ := T.f_Roll_day
  have nd := sc_Roll_day.nd
  refine ⟨f, fd, (F.ok sc_Roll_day (fun vs H Q E h => ?_) (fun cdv A outer s H vs Q E hr h => ?_)), hm, (F.binds fun _ _ _ _ _ _ us hl => by obtain ⟨_, rfl⟩ := L2.lq1 hl; rfl)⟩
  · obtain ⟨ro, D, rfl, _⟩ := h; rfl
  · obtain ⟨ro, D, rfl, A', q⟩ := h
    obtain ⟨dx, hob⟩ := A'.ob
    refine ⟨_, (pss_one (ps_ret (pe_fld (pv 0) rfl))), ?_⟩
    exact ⟨_, rfl, ro, C_Roll, dx, _, _, rfl, hob, T.cl_Roll, T.na_Roll_kept_day, rof_kd _ _ _ _ _, q⟩
theorem D_Roll_edges (T : Txt K mg C_Roll C_Rule C_Book C_BookError C_NoNumber C_NoRule C_Backward C_NoName C_NoMark C_NoText) : MetOk P w K mg base C_Roll 1 "edges" ["self"] (sp_redges C_Roll C_Rule) := by
  obtain ⟨f, fd, F, hm⟩ := T.f_Roll_edges
  have nd := sc_Roll_edges.nd
  refine ⟨f, fd, (F.ok sc_Roll_edges (fun vs H Q E h => ?_) (fun cdv A outer s H vs Q E hr h => ?_)), hm, (F.binds fun _ _ _ _ _ _ us hl => by obtain ⟨_, rfl⟩ := L2.lq1 hl; rfl)⟩
  · obtain ⟨ro, D, rfl, _⟩ := h; rfl
  · obtain ⟨ro, D, rfl, A', q⟩ := h
    obtain ⟨dx, hob⟩ := A'.ob
    refine ⟨_, (pss_one (ps_ret (pe_callTy call_listN rfl T.b_list bt_list (pa_cons (pe_fld (pv 0) rfl) pa_nil)))), ?_⟩
    exact ⟨_, rfl, ro, C_Roll, dx, _, _, rfl, hob, T.cl_Roll, T.na_Roll_kept_edges, rof_ke _ _ _ _ _, D.le, _, rfl, .inl (SqL.of A'.ed), q⟩
def sp_no : Sp := fun _ _ _ _ => False
theorem D_Roll_take_heap (T : Txt K mg C_Roll C_Rule C_Book C_BookError C_NoNumber C_NoRule C_Backward C_NoName C_NoMark C_NoText) : MetOk P w K mg base C_Roll 4 "take_heap" ["self", "start", "heap"] sp_no := by
  obtain ⟨f, fd, F, hm⟩ := T.f_Roll_take_heap
  have nd := sc_Roll_take_heap.nd
  refine ⟨f, fd, (F.ok sc_Roll_take_heap (fun vs H Q E h => ?_) (fun cdv A outer s H vs Q E hr h => ?_)), hm, (F.binds fun _ _ _ _ _ _ us hl => by obtain ⟨_, _, _, rfl⟩ := L2.lq3 hl; rfl)⟩
  · exact h.elim
  · exact h.elim
theorem G_Roll_put (T : Txt K mg C_Roll C_Rule C_Book C_BookError C_NoNumber C_NoRule C_Backward C_NoName C_NoMark C_NoText) : ∃ f fd dT o n t, FnOk P w K mg base CX0 4 f fd ["self", "time", "value", "many"] sp_no ∧ FunD K "put" "Roll.put" s_Roll_put (.ref dT) f fd ∧ Meth K C_Roll "put" f ∧ fd.defaults = .ref dT ∧ K.lookup dT = some o ∧ o.data = .seq #[.int 1 t] n := by
  obtain ⟨f, fd, dT, o, n, t, F, M, h1, h2, h3⟩ := T.f_Roll_put
  have nd := sc_Roll_put.nd
  refine ⟨f, fd, dT, o, n, t, (F.ok sc_Roll_put (fun vs H Q E h => ?_) (fun cdv A outer s H vs Q E hr h => ?_)), F, M, h1, h2, h3⟩
  · exact h.elim
  · exact h.elim
theorem D_Roll_put_3 (T : Txt K mg C_Roll C_Rule C_Book C_BookError C_NoNumber C_NoRule C_Backward C_NoName C_NoMark C_NoText) : MetD P w K mg base C_Roll 4 "put" ["self", "time", "value", "many"] [] sp_no := by
  obtain ⟨f, fd, dT, o, n, t, hf, F, M, h1, h2, h3⟩ := G_Roll_put (P := P) (w := w) (base := base) T
  refine ⟨f, fd, hf, M, binds_d h1 h2 h3 fun us hl => ?_⟩
  obtain ⟨oc, od, kV, doc, pm, an, cdv, ct, osl, rfl, lk, hcd⟩ := F.ex
  obtain ⟨_, _, _, _, rfl⟩ := L2.lq4 (us := us) (by simpa using hl)
  exact ⟨_, rfl, rfl⟩
def sp_young0 (C R : Addr) : Sp := fun vs H Q _ => ∃ (ro : Addr) (D : RollD), vs = [.ref ro] ∧ RollAt C R H ro D ∧ D.Y = [] ∧ ∀ l H', Same H H' → H l = none → H' l = some (.lst []) → Q (.ref l) H'
def sp_heaps0 (C R : Addr) : Sp := fun vs H Q _ => ∃ (ro : Addr) (D : RollD), vs = [.ref ro] ∧ RollAt C R H ro D ∧ D.Z = [] ∧ ∀ l H', Same H H' → H l = none → H' l = some (.lst []) → Q (.ref l) H'
theorem D_Roll_young (T : Txt K mg C_Roll C_Rule C_Book C_BookError C_NoNumber C_NoRule C_Backward C_NoName C_NoMark C_NoText) : MetOk P w K mg base C_Roll 1 "young" ["self"] (sp_young0 C_Roll C_Rule) := by
  obtain ⟨f, fd, F, hm⟩ := T.f_Roll_young
  have nd := sc_Roll_young.nd
  refine ⟨f, fd, (F.ok sc_Roll_young (fun vs H Q E h => ?_) (fun cdv A outer s H vs Q E hr h => ?_)), hm, (F.binds fun _ _ _ _ _ _ us hl => by obtain ⟨_, rfl⟩ := L2.lq1 hl; rfl)⟩
  · obtain ⟨ro, D, rfl, _⟩ := h; rfl
  · obtain ⟨ro, D, rfl, A', hY, q⟩ := h
    obtain ⟨dx, hob⟩ := A'.ob
    refine ⟨_, (pss_one (ps_ret (pe_lc (vars := ["key"]) (frees := ["self"]) (fv := [0]) rfl (lcOk rfl rfl (by decide +kernel) (by decide +kernel) (by intro p hp; simp only [List.mem_cons, List.not_mem_nil, or_false] at hp; rcases hp with rfl <;> rfl) rfl) ⟨⟨rfl, .inl rfl, rfl, .inl rfl⟩, trivial⟩ (pi_list (pe_callB (call_sortedD rfl) rfl T.b_sorted bt_sorted (pa_cons (pe_fld (pv 0) rfl) pa_nil))) (gk_name (by decide)) (fun _ _ _ _ => (pg_name (i := 0) (show (["key", "self"] : List Str).Nodup by decide +kernel) rfl (Or.inl rfl))) (fun _ _ _ _ => pif_none) (fun _ _ _ _ => (pe_op (show OpR _ _ (rCatTN K) from op_catTN) (pv 0) (pe_tupN (pa_cons (pe_dget (by exact hu_of hr) (show PE _ _ (tFld K _ _) from pe_fld (pv 1) rfl) (pv 0) (fun _ _ => rfl)) pa_nil))))))), ?_⟩
    refine ⟨_, rfl, ro, C_Roll, dx, _, _, rfl, hob, T.cl_Roll, T.na_Roll_whole_ones, rof_wo _ _ _ _ _, D.dy, D.Y, [], rfl, A'.yo, by rw [hY]; rfl, by decide, .nil, (fun k hk => by cases hk), fun ms zs l1 H1 pm sm tz n1 => ?_⟩
    have em : ms = [] := List.Perm.eq_nil pm
    subst em
    have ez : zs = [] := by cases tz; rfl
    subst ez
    refine ⟨l1, rfl, ⟨_, SqL.of n1.at_⟩, lc_listN (xs := []) (fun i ys H2 => Same H1 H2 ∧ ys = []) (Nat.le_of_lt (small1000 (by decide))) ⟨Same.refl _, rfl⟩ (fun i ys H2 h2 => ⟨SqL.of (h2.1 _ _ n1.at_), by rw [h2.2]; exact Nat.zero_le _⟩) ?_ ?_⟩
    · rintro i x ys H2 hi _
      simp at hi
    · rintro ys H2 l3 H3 ⟨s2, rfl⟩ n3
      exact q l3 H3 (n1.same.trans (s2.trans n3.same)) ((n1.same.trans s2).free n3.fresh) n3.at_
theorem D_Roll_heaps (T : Txt K mg C_Roll C_Rule C_Book C_BookError C_NoNumber C_NoRule C_Backward C_NoName C_NoMark C_NoText) : MetOk P w K mg base C_Roll 1 "heaps" ["self"] (sp_heaps0 C_Roll C_Rule) := by
  obtain ⟨f, fd, F, hm⟩ := T.f_Roll_heaps
  have nd := sc_Roll_heaps.nd
  refine ⟨f, fd, (F.ok sc_Roll_heaps (fun vs H Q E h => ?_) (fun cdv A outer s H vs Q E hr h => ?_)), hm, (F.binds fun _ _ _ _ _ _ us hl => by obtain ⟨_, rfl⟩ := L2.lq1 hl; rfl)⟩
  · obtain ⟨ro, D, rfl, _⟩ := h; rfl
  · obtain ⟨ro, D, rfl, A', hY, q⟩ := h
    obtain ⟨dx, hob⟩ := A'.ob
    refine ⟨_, (pss_one (ps_ret (pe_lc (vars := ["cell"]) (frees := ["self"]) (fv := [0]) rfl (lcOk rfl rfl (by decide +kernel) (by decide +kernel) (by intro p hp; simp only [List.mem_cons, List.not_mem_nil, or_false] at hp; rcases hp with rfl <;> rfl) rfl) ⟨⟨rfl, .inl rfl, rfl, .inl rfl⟩, trivial⟩ (pi_list (pe_callB (call_sortedD rfl) rfl T.b_sorted bt_sorted (pa_cons (pe_fld (pv 0) rfl) pa_nil))) (gk_name (by decide)) (fun _ _ _ _ => (pg_name (i := 0) (show (["cell", "self"] : List Str).Nodup by decide +kernel) rfl (Or.inl rfl))) (fun _ _ _ _ => pif_none) (fun _ _ _ _ => (pe_op (show OpR _ _ (rCatTN K) from op_catTN) (pv 0) (pe_dget (by exact hu_of hr) (show PE _ _ (tFld K _ _) from pe_fld (pv 1) rfl) (pv 0) (fun _ _ => rfl))))))), ?_⟩
    refine ⟨_, rfl, ro, C_Roll, dx, _, _, rfl, hob, T.cl_Roll, T.na_Roll_cell_heaps, rof_ch _ _ _ _ _, D.dh, D.Z, [], rfl, A'.he, by rw [hY]; rfl, by decide, .nil, (fun k hk => by cases hk), fun ms zs l1 H1 pm sm tz n1 => ?_⟩
    have em : ms = [] := List.Perm.eq_nil pm
    subst em
    have ez : zs = [] := by cases tz; rfl
    subst ez
    refine ⟨l1, rfl, ⟨_, SqL.of n1.at_⟩, lc_listN (xs := []) (fun i ys H2 => Same H1 H2 ∧ ys = []) (Nat.le_of_lt (small1000 (by decide))) ⟨Same.refl _, rfl⟩ (fun i ys H2 h2 => ⟨SqL.of (h2.1 _ _ n1.at_), by rw [h2.2]; exact Nat.zero_le _⟩) ?_ ?_⟩
    · rintro i x ys H2 hi _
      simp at hi
    · rintro ys H2 l3 H3 ⟨s2, rfl⟩ n3
      exact q l3 H3 (n1.same.trans (s2.trans n3.same)) ((n1.same.trans s2).free n3.fresh) n3.at_
inductive sp_take0 (C R : Addr) (vs : List V) (H : Hp) (Q : VK) (E_ : XK) : Prop
  | mk : ∀ (ro r2 : Addr) (c2 : RollD), vs = [.ref ro, .ref r2] → RollAt C R H r2 c2 → c2.Y = [] → c2.Z = [] → (∀ H', Same H H' → Q .non H') → sp_take0 C R vs H Q E_
theorem D_Roll_take_all (T : Txt K mg C_Roll C_Rule C_Book C_BookError C_NoNumber C_NoRule C_Backward C_NoName C_NoMark C_NoText) : MetOk P w K mg base C_Roll 5 "take_all" ["self", "roll"] (sp_take0 C_Roll C_Rule) := by
  obtain ⟨f, fd, F, hm⟩ := T.f_Roll_take_all
  have nd := sc_Roll_take_all.nd
  refine ⟨f, fd, (F.ok sc_Roll_take_all (fun vs H Q E h => ?_) (fun cdv A outer s H vs Q E hr h => ?_)), hm, (F.binds fun _ _ _ _ _ _ us hl => by obtain ⟨_, _, rfl⟩ := L2.lq2 hl; rfl)⟩
  · obtain ⟨ro, r2, c2, rfl, _⟩ := h; rfl
  · obtain ⟨ro, r2, c2, rfl, A', hY, hZ, q⟩ := h
    obtain ⟨dx, hob⟩ := A'.ob
    refine ⟨_, (pss_cons (ps_for PassesOwn.never rfl (pi_list (pe_mt0 (pv 1) T.cl_Roll (D_Roll_young T) (hr.mono (by decide)))) (pg_tup rfl (pgs_cons (pg_name (i := 2) nd rfl (Or.inl rfl)) (pgs_cons (pg_name (i := 3) nd rfl (Or.inl rfl)) (pgs_cons (pg_name (i := 4) nd rfl (Or.inl rfl)) pgs_nil))))
        (pss_one (ps_expr (pe_mtD (pv 0) T.cl_Roll (D_Roll_put_3 T) (hr.mono (by decide)) .nil (pa_cons (pv 2) (pa_cons (pv 3) (pa_cons (pv 4) pa_nil)))))))
      (pss_one (ps_for PassesOwn.never rfl (pi_list (pe_mt0 (pv 1) T.cl_Roll (D_Roll_heaps T) (hr.mono (by decide)))) (pg_name (i := 5) nd rfl (Or.inl rfl))
        (pss_one (ps_expr (pe_mt (pv 0) T.cl_Roll (D_Roll_take_heap T) (hr.mono (by decide)) (pa_cons (pe_ix ix_tup (pv 5) pe_int (fun _ _ => rfl)) (pa_cons (pe_slice sl_tup (pv 5) (po_some pe_int) po_none) pa_nil)))))))), ?_⟩
    refine ⟨_, rfl, r2, dx, _, rfl, hob, rof_young _ _ _ _ _, r2, c2, rfl, A', hY, fun l H1 s1 f1 hl => ?_⟩
    refine ⟨l, rfl, ⟨_, SqL.of hl⟩, for_list (D := { nx := _, rt := Q }) (xs := []) (fun i σ H3 => Same H1 H3 ∧ σ = [some (.ref ro), some (.ref r2), none, none, none, none]) ⟨Same.refl _, rfl⟩ (fun i σ H3 _ h3 => SqL.of (h3.1 _ _ hl)) ?_ ?_⟩
    · rintro i x σ H3 hxi _
      simp at hxi
    · rintro σ H3 ⟨s3, rfl⟩
      have A3 := A'.same (s1.trans s3)
      refine ⟨_, rfl, r2, dx, _, rfl, (s1.trans s3) _ _ hob, rof_heaps _ _ _ _ _, r2, c2, rfl, A3, hZ, fun l' H4 s4 f4 hl' => ?_⟩
      refine ⟨l', rfl, ⟨_, SqL.of hl'⟩, for_list (D := { nx := _, rt := Q }) (xs := []) (fun i σ H5 => Same H4 H5 ∧ σ = [some (.ref ro), some (.ref r2), none, none, none, none]) ⟨Same.refl _, rfl⟩ (fun i σ H5 _ h5 => SqL.of (h5.1 _ _ hl')) ?_ ?_⟩
      · rintro i x σ H5 hxi _
        simp at hxi
      · rintro σ H5 ⟨s5, rfl⟩
        exact q H5 (((s1.trans s3).trans s4).trans s5)
theorem rof_set (ru : Addr) (day : Int) (le dy dh p : Addr) : putF "kept_edges" (.ref p) (rof ru day le dy dh) = rof ru day p dy dh := by rfl
inductive sp_begunN (C R : Addr) (vs : List V) (H : Hp) (Q : VK) (E_ : XK) : Prop
  | mk : ∀ (ru rl e : Addr) (ps : List (Int × Int)) (g : Option Int) (day : Int) (EV : List V) (es : List Int) (ge : Option Int), vs = [.ref ru, .int day, .ref e] → RuleAt R H ru rl ps g → Pr ps g → Bd day → H e = some (.lst EV) → (∀ v ∈ EV, Ed v) → EV.length ≤ 10 → EV.length = ps.length + 1 → EdS EV es ge → es.length = ps.length → (∀ ro c H', RollAt C R H' ro c → c.ps = ps → c.g = g → c.day = day → c.Y = [] → c.Z = [] → EdS (List.zipWith gE (eV ps g day) EV) c.es c.ge → c.es.length = ps.length → Same H H' → H c.dy = none → H c.dh = none → (c.ru = ru ∧ c.rl = rl ∧ H c.le = none) → Q (.ref ro) H') → sp_begunN C R vs H Q E_
theorem D_begun (T : Txt K mg C_Roll C_Rule C_Book C_BookError C_NoNumber C_NoRule C_Backward C_NoName C_NoMark C_NoText) : DefOk P w K mg base 6 "begun" ["rule", "day", "edges"] (sp_begunN C_Roll C_Rule) := by
  obtain ⟨f, fd, F, hm⟩ := T.f_begun
  have nd := sc_begun.nd
  refine F.def_ hm (F.ok sc_begun (fun vs H Q E h => ?_) (fun cdv A outer s H vs Q E hr h => ?_)) (F.binds fun _ _ _ _ _ _ us hl => by obtain ⟨_, _, _, rfl⟩ := L2.lq3 hl; rfl)
  · obtain ⟨ru, rl, e, ps, g, day, EV, es, ge, rfl, _⟩ := h; rfl
  · obtain ⟨ru, rl, e, ps, g, day, EV, es, ge, rfl, R, Pg, hd, he, hEd, h10, hEl, Ee, hln, q⟩ := h
    refine ⟨_, (pss_cons (ps_set (i := 3) nd rfl (Or.inl rfl) (pe_mkN (D_Roll_2 T) (hr.mono (by decide)) rfl .nil (pa_cons (pv 0) (pa_cons (pv 1) pa_nil))))
      (pss_cons (ps_fldN (pv 3) (pe_fn (D_greater T) (hr.mono (by decide)) rfl (pa_cons (pe_fld (pv 3) rfl) (pa_cons (pv 2) pa_nil))) rfl)
      (pss_one (ps_ret (pv 3))))), ?_⟩
    refine ⟨_, rfl, _, rfl, fun ro dx H1 s1 f1 d1 => ?_⟩
    refine ⟨ro, dx, ru, rl, ps, g, day, rfl, d1, R.same s1, Pg, hd, fun le dy dh H2 z1 z2 z3 A2 b2 => ⟨rfl, ?_⟩⟩
    have s2 : Same H H2 := b2.same s1 f1
    obtain ⟨dx2, hob⟩ := A2.ob
    have E0' := EdS.of Pg hd
    have hob' : H2 ro = some (.ins C_Roll dx2 (rof ru day le dy dh)) := hob
    have hed : H2 le = some (.lst (eV ps g day)) := by rw [E0'.eq]; exact A2.ed
    have l0 : (eV ps g day).length = ps.length + 1 := by rw [E0'.eq]; simp
    have g5 := Pg.good.hi
    refine ⟨_, rfl, ro, C_Roll, dx2, _, _, rfl, hob', T.cl_Roll, T.na_Roll_kept_edges, rof_ke _ _ _ _ _, _, rfl, le, e, _, EV, rfl, hed, s2 _ _ he, E0'.ed, hEd, by rw [l0, hEl], by omega, fun p H3 n3 => ?_⟩
    refine ⟨_, rfl, ro, C_Roll, dx2, _, rfl, n3.same _ _ hob', T.cl_Roll, T.na_Roll_kept_edges, (by show 5 < 1000; decide), fun H4 b4 h4 => ?_⟩
    rw [rof_set] at h4
    have A3 := A2.same n3.same
    have M := E0'.max Ee (by rw [List.length_map]; exact hln.symm)
    have hro3 := n3.same _ _ hob'
    have hp4 : H4 p = some (.lst (List.zipWith gE (eV ps g day) EV)) := b4 _ _ n3.at_ (ne_of n3.at_ hro3 (by intro z; cases z))
    obtain ⟨dxr, hru⟩ := A3.rule.ob
    have nru : ru ≠ ro := ne_of hru hro3 (by intro z; injection z with _ _ z; have := rf_ks rl (gv g); have z' : rf rl (gv g) = rof ru day le dy dh := z; rw [z'] at this; cases this)
    have s04 : Same H H4 := b4.same (s2.trans n3.same) f1
    refine ⟨_, rfl, q ro { newD ru rl p dy dh ps g day with es := _, ge := _ } H4 ⟨⟨dx2, h4⟩, A3.rule.but2 b4 hro3 ins_nt (by intro xs z; cases z) nru, ?_, b4 _ _ A3.yo (ne_of A3.yo hro3 (by intro z; cases z)), b4 _ _ A3.he (ne_of A3.he hro3 (by intro z; cases z)), A3.ne⟩ rfl rfl rfl rfl rfl M ?_ s04 (s1.free z2) (s1.free z3) ⟨rfl, rfl, s2.free n3.fresh⟩⟩
    · rw [M.eq] at hp4; exact hp4
    · show (List.zipWith _ _ _).length = ps.length
      rw [List.length_zipWith, List.length_map]; omega
structure RollE (C R : Addr) (H : Hp) (ro : Addr) (ru rl : Addr) (ps : List (Int × Int)) (g : Option Int) (day : Int) : Prop where
  ex : ∃ c, RollAt C R H ro c ∧ c.Y = [] ∧ c.Z = [] ∧ c.ru = ru ∧ c.rl = rl ∧ c.ps = ps ∧ c.g = g ∧ c.day = day ∧ EdS (c.es.map V.int ++ [gv c.ge]) c.es c.ge ∧ c.es.length = ps.length
theorem RollE.same {C R : Addr} {H H' : Hp} {ro ru rl : Addr} {ps : List (Int × Int)} {g : Option Int} {day : Int} (h : RollE C R H ro ru rl ps g day) (s : Same H H') : RollE C R H' ro ru rl ps g day :=
  let ⟨c, A, r⟩ := h.ex; ⟨c, A.same s, r⟩
inductive sp_aged0 (C R : Addr) (vs : List V) (H : Hp) (Q : VK) (E_ : XK) : Prop
  | mk : ∀ (ro ru rl : Addr) (ps : List (Int × Int)) (g : Option Int) (day : Int), vs = [.ref ro, .int day] → RollE C R H ro ru rl ps g day → Pr ps g → Bd day → (∀ r' H', RollE C R H' r' ru rl ps g day → Same H H' → Q (.ref r') H') → sp_aged0 C R vs H Q E_
theorem D_aged (T : Txt K mg C_Roll C_Rule C_Book C_BookError C_NoNumber C_NoRule C_Backward C_NoName C_NoMark C_NoText) : DefOk P w K mg base 7 "aged" ["roll", "day"] (sp_aged0 C_Roll C_Rule) := by
  obtain ⟨f, fd, F, hm⟩ := T.f_aged
  have nd := sc_aged.nd
  refine F.def_ hm (F.ok sc_aged (fun vs H Q E h => ?_) (fun cdv A outer s H vs Q E hr h => ?_)) (F.binds fun _ _ _ _ _ _ us hl => by obtain ⟨_, _, rfl⟩ := L2.lq2 hl; rfl)
  · obtain ⟨ro, ru, rl, ps, g, day, rfl, _⟩ := h; rfl
  · obtain ⟨ro, ru, rl, ps, g, day, rfl, ⟨c, A0, hY, hZ, rfl, rfl, rfl, rfl, rfl, E0', hln⟩, Pg, hd, q⟩ := h
    obtain ⟨dx, hob⟩ := A0.ob
    have hEl : (c.es.map V.int ++ [gv c.ge]).length = c.ps.length + 1 := by simp [hln]
    have g5 := Pg.good.hi
    refine ⟨_, (pss_cons (ps_if (pt_cmpR op_lt (pv 1) (pe_mt0 (pv 0) T.cl_Roll (D_Roll_day T) (hr.mono (by decide))) (nomark _))
        (pss_one ps_never)
        pss_nil)
      (pss_cons (ps_set (i := 2) nd rfl (Or.inl rfl) (pe_fn (D_begun T) (hr.mono (by decide)) rfl (pa_cons (pe_mt0 (pv 0) T.cl_Roll (D_Roll_rule T) (hr.mono (by decide))) (pa_cons (pv 1) (pa_cons (pe_mt0 (pv 0) T.cl_Roll (D_Roll_edges T) (hr.mono (by decide))) pa_nil)))))
      (pss_cons (ps_expr (pe_mt (pv 2) T.cl_Roll (D_Roll_take_all T) (hr.mono (by decide)) (pa_cons (pv 0) pa_nil)))
      (pss_one (ps_ret (pv 2)))))), ?_⟩
    walk_at "r"
    refine ⟨ro, dx, _, rfl, hob, rof_day _ _ _ _ _, ro, _, rfl, A0, ?_⟩
    walk_at "r"
    refine ite2 (fun z => absurd (of_decide_eq_true z) (by show ¬ c.day < c.day; omega)) fun _ => ?_
    walk_at "r"
    refine ⟨ro, dx, _, rfl, hob, rof_rule _ _ _ _ _, ro, _, rfl, A0, ?_⟩
    walk_at "r"
    refine ⟨ro, dx, _, rfl, hob, rof_edges _ _ _ _ _, ro, _, rfl, A0, fun le H3 n3 => ?_⟩
    have s03 := n3.same
    refine ⟨c.ru, c.rl, le, c.ps, c.g, c.day, _, c.es, c.ge, rfl, A0.rule.same s03, Pg, hd, n3.at_, E0'.ed, Nat.le_trans (Nat.le_of_eq hEl) (by omega), hEl, E0', hln, fun r' c' H4 A4 e1 e2 e3 eY eZ Ec hcl s4 f1 f2 w1 => ?_⟩
    have s04 := s03.trans s4
    obtain ⟨dx4, hob4⟩ := A4.ob
    walk_at "r"
    refine ⟨r', dx4, _, rfl, hob4, rof_no _ _ _ _ _ (by decide +kernel) (by decide +kernel) (by decide +kernel) (by decide +kernel) (by decide +kernel), ?_⟩
    walk_at "r"
    refine ⟨r', ro, c, rfl, A0.same s04, hY, hZ, fun H5 s5 => ?_⟩
    walk_at "r"
    refine q r' H5 ⟨c', A4.same s5, eY, eZ, w1.1, w1.2.1, e1, e2, e3, ?_, hcl⟩ (s04.trans s5)
    rw [← Ec.eq]
    exact Ec
end
section
variable {P : Program} {w : World} {K : PySem.W.Frag} {mg : Str → Option Value} {base : Heap} {C_Roll C_Rule C_Book C_BookError C_NoNumber C_NoRule C_Backward C_NoName C_NoMark C_NoText : Addr}
theorem sz20 {n : Nat} (h : n ≤ 20000) : n ≤ sizeLine := by rw [sizeLine_eq]; omega
def SmallW (n : Int) (x : List Nat) : Prop := 1 ≤ x.length ∧ (x.length : Int) ≤ n ∧ ∀ c ∈ x, 97 ≤ c ∧ c ≤ 122
instance (n : Int) (x : List Nat) : Decidable (SmallW n x) := inferInstanceAs (Decidable (_ ∧ _ ∧ _))
def smallB (n : Int) : V → Bool
  | .str s => decide (SmallW n s.cps.toList)
  | _ => false
theorem small_S (n : Int) (x : List Nat) : smallB n (.str (S x)) = decide (SmallW n x) := rfl
theorem let_in (c : Nat) : decide (c ∈ (Str.ofString "abcdefghijklmnopqrstuvwxyz").cps.toList) = decide (97 ≤ c ∧ c ≤ 122) := by
  have e : (Str.ofString "abcdefghijklmnopqrstuvwxyz").cps.toList = [97, 98, 99, 100, 101, 102, 103, 104, 105, 106, 107, 108, 109, 110, 111, 112, 113, 114, 115, 116, 117, 118, 119, 120, 121, 122] := by decide +kernel
  rw [e, decide_eq_decide]
  simp
  omega
def sp_small : Sp := fun vs H Q _ => ∃ v n, vs = [v, .int n] ∧ TextV H v ∧ ∀ H', Same H H' → Q (.bl (smallB n v)) H'
theorem D_is_small_word (T : Txt K mg C_Roll C_Rule C_Book C_BookError C_NoNumber C_NoRule C_Backward C_NoName C_NoMark C_NoText) : DefOk P w K mg base 1 "is_small_word" ["thing", "longest"] sp_small := by
  obtain ⟨f, fd, F, hm⟩ := T.f_is_small_word
  have nd := sc_is_small_word.nd
  refine F.def_ hm (F.ok sc_is_small_word (fun vs H Q E h => ?_) (fun cdv A outer s H vs Q E hr h => ?_)) (F.binds fun _ _ _ _ _ _ us hl => by obtain ⟨_, _, rfl⟩ := L2.lq2 hl; rfl)
  · obtain ⟨v, n, rfl, _⟩ := h; rfl
  · obtain ⟨v, n, rfl, hv, q⟩ := h
    refine ⟨_, (pss_cons (ps_if (pt_not (pt_val (pe_callB call_isi rfl T.b_isinstance bt_isinstance (pa_cons (pv 0) (pa_cons (pe_bltn (v := .ty "str") rfl T.b_str bt_str rfl) pa_nil)))))
        (pss_one (ps_ret pe_bl))
        pss_nil)
      (pss_one (ps_ret (pe_and (pe_cmpR op_le pe_int (pe_callB call_lenS rfl T.b_len bt_len (pa_cons (pv 0) pa_nil)) (nomark _)) (pe_and (pe_cmpR op_le (pe_callB call_lenS rfl T.b_len bt_len (pa_cons (pv 0) pa_nil)) (pv 1) (nomark _)) (pe_one (pe_callB (call_all rfl) rfl T.b_all bt_all (pa_cons (pe_lc (vars := ["sign"]) (frees := []) (fv := []) rfl (lcOk rfl rfl (by decide +kernel) (by decide +kernel) (by intro p hp; cases hp) rfl) trivial (pi_str (pv 0)) (gk_name (by decide)) (fun _ _ _ _ => (pg_name (i := 0) (show (["sign"] : List Str).Nodup by decide +kernel) rfl (Or.inl rfl))) (fun _ _ _ _ => pif_none) (fun _ _ _ _ => (pe_cmpR op_inS (pv 0) (pe_glob (v := .str "abcdefghijklmnopqrstuvwxyz") rfl T.c_LETTERS.choose_spec ⟨_, rfl⟩) rfl))) pa_nil)))))))), ?_⟩
    rcases hv with ⟨x, rfl, hx⟩ | hv
    · have no : ¬ SmallW n x → Q (V.bl false) H := fun z => by
        have := q H (Same.refl _)
        rw [small_S, decide_eq_false z] at this
        exact this
      refine ⟨_, rfl, _, _, _, _, rfl, .str _, kit_str K, _, rfl, iteF ?_⟩
      walk_at "r"
      refine ⟨sz20 (by omega), ?_⟩
      walk_at "r"
      by_cases l1 : (1 : Int) ≤ x.length
      · rw [if_pos (decide_eq_true l1)]
        walk_at "r"
        refine ⟨sz20 (by omega), ?_⟩
        walk_at "r"
        by_cases l2 : (x.length : Int) ≤ n
        · rw [if_pos (decide_eq_true l2)]
          refine ⟨_, rfl, _, rfl, lc_str (x := x) (fun i ys H2 => Same H H2 ∧ ys = (x.take i).map fun d => V.bl (decide (97 ≤ d ∧ d ≤ 122))) (sz20 (by omega)) ⟨Same.refl _, rfl⟩ (fun i ys H2 h2 => by rw [h2.2, List.length_map, List.length_take]; omega) ?_ ?_⟩
          · rintro i d ys H2 hi ⟨s2, rfl⟩
            refine gname_ (yes_ (iteT ?_))
            refine ⟨_, rfl, d, _, rfl, rfl, s2, ?_⟩
            rw [let_in]
            exact (mapN _ x i d hi).symm
          · rintro ys H2 p H3 ⟨s2, rfl⟩ n3
            rw [List.take_length] at n3
            refine ⟨p, x.map fun d => decide (97 ≤ d ∧ d ≤ 122), rfl, SqL.of (by rw [List.map_map]; exact n3.at_), ?_⟩
            have := q H3 (s2.trans n3.same)
            have ef : decide (SmallW n x) = (x.map fun d => decide (97 ≤ d ∧ d ≤ 122)).all id := by
              rw [Bool.eq_iff_iff, decide_eq_true_iff, List.all_eq_true]
              constructor
              · intro h b hb
                obtain ⟨d, hd, rfl⟩ := List.mem_map.mp hb
                exact decide_eq_true (h.2.2 d hd)
              · intro h
                refine ⟨by omega, l2, fun d hd => ?_⟩
                exact of_decide_eq_true (h _ (List.mem_map.mpr ⟨d, hd, rfl⟩))
            rw [small_S, ef] at this
            exact this
        · rw [if_neg (fun y => l2 (of_decide_eq_true y))]
          exact no fun h => l2 h.2.1
      · rw [if_neg (fun y => l1 (of_decide_eq_true y))]
        exact no fun h => l1 (by have := h.1; omega)
    · obtain ⟨t, ty, kt⟩ := OddV.ty (K := K) hv
      refine ⟨_, rfl, _, _, _, _, rfl, ty, kt, _, rfl, iteT ?_⟩
      have := q H (Same.refl _)
      rcases hv with rfl | ⟨i, rfl⟩ | ⟨b, rfl⟩ | ⟨p, xs, rfl, h⟩ | ⟨p, xs, rfl, h⟩ <;> exact this
def sp_mark62 (n : Int) : Sp := fun vs H Q _ => ∃ v, vs = [v] ∧ TextV H v ∧ ∀ H', Same H H' → Q (.bl (smallB n v)) H'
theorem D_is_name (T : Txt K mg C_Roll C_Rule C_Book C_BookError C_NoNumber C_NoRule C_Backward C_NoName C_NoMark C_NoText) : DefOk P w K mg base 2 "is_name" ["thing"] (sp_mark62 12) := by
  obtain ⟨f, fd, F, hm⟩ := T.f_is_name
  have nd := sc_is_name.nd
  refine F.def_ hm (F.ok sc_is_name (fun vs H Q E h => ?_) (fun cdv A outer s H vs Q E hr h => ?_)) (F.binds fun _ _ _ _ _ _ us hl => by obtain ⟨_, rfl⟩ := L2.lq1 hl; rfl)
  · obtain ⟨v, rfl, _⟩ := h; rfl
  · obtain ⟨v, rfl, hv, q⟩ := h
    refine ⟨_, (pss_one (ps_ret (pe_fn (D_is_small_word T) (hr.mono (by decide)) rfl (pa_cons (pv 0) (pa_cons (pe_glob (v := .int 12) rfl T.c_LONGEST_NAME.choose_spec ⟨_, rfl⟩) pa_nil))))), ?_⟩
    exact ⟨_, rfl, v, 12, rfl, hv, q⟩
theorem D_is_mark (T : Txt K mg C_Roll C_Rule C_Book C_BookError C_NoNumber C_NoRule C_Backward C_NoName C_NoMark C_NoText) : DefOk P w K mg base 2 "is_mark" ["thing"] (sp_mark62 8) := by
  obtain ⟨f, fd, F, hm⟩ := T.f_is_mark
  have nd := sc_is_mark.nd
  refine F.def_ hm (F.ok sc_is_mark (fun vs H Q E h => ?_) (fun cdv A outer s H vs Q E hr h => ?_)) (F.binds fun _ _ _ _ _ _ us hl => by obtain ⟨_, rfl⟩ := L2.lq1 hl; rfl)
  · obtain ⟨v, rfl, _⟩ := h; rfl
  · obtain ⟨v, rfl, hv, q⟩ := h
    refine ⟨_, (pss_one (ps_ret (pe_fn (D_is_small_word T) (hr.mono (by decide)) rfl (pa_cons (pv 0) (pa_cons (pe_glob (v := .int 8) rfl T.c_LONGEST_MARK.choose_spec ⟨_, rfl⟩) pa_nil))))), ?_⟩
    exact ⟨_, rfl, v, 8, rfl, hv, q⟩
theorem w_empty : (Str.ofString "") = S [] := by decide +kernel
theorem small_iff {n : Int} {v : V} : smallB n v = true ↔ ∃ x, v = tS x ∧ SmallW n x := by
  constructor
  · intro h
    obtain ⟨s, rfl⟩ : ∃ s, v = .str s := by
      cases v <;> first | exact ⟨_, rfl⟩ | exact Bool.noConfusion h
    exact ⟨s.cps.toList, by rw [show tS s.cps.toList = V.str (S s.cps.toList) from rfl, S_of], of_decide_eq_true h⟩
  · rintro ⟨x, rfl, h⟩
    rw [small_S]; exact decide_eq_true h
def MarksOk (vs : List V) : Prop := (∀ v ∈ vs, smallB 8 v = true) ∧ vs.Nodup ∧ vs.length ≤ 8
theorem texts_of {n : Int} : ∀ {vs : List V}, (∀ v ∈ vs, smallB n v = true) → ∃ ms : List (List Nat), vs = ms.map tS ∧ ∀ m ∈ ms, SmallW n m
  | [], _ => ⟨[], rfl, by simp⟩
  | v :: vs, h => by
    obtain ⟨x, rfl, hx⟩ := small_iff.mp (h v List.mem_cons_self)
    obtain ⟨ms, rfl, hm⟩ := texts_of (vs := vs) fun v hv => h v (List.mem_cons_of_mem _ hv)
    exact ⟨x :: ms, rfl, fun m hm' => by
      rcases List.mem_cons.mp hm' with rfl | z
      · exact hx
      · exact hm m z⟩
theorem tS_inj {a b : List Nat} (h : tS a = tS b) : a = b := S_inj (V.str.inj h)
theorem nodup_map {α β : Type} {f : α → β} (inj : ∀ a b, f a = f b → a = b) : ∀ {l : List α}, (l.map f).Nodup ↔ l.Nodup
  | [] => by simp
  | x :: l => by
    rw [List.map_cons, List.nodup_cons, List.nodup_cons, nodup_map inj]
    refine and_congr ⟨fun h z => h (List.mem_map.mpr ⟨x, z, rfl⟩), fun h z => ?_⟩ Iff.rfl
    obtain ⟨y, hy, e⟩ := List.mem_map.mp z
    exact h (inj _ _ e ▸ hy)
theorem sizeU_iff {α : Type} [DecidableEq α] : ∀ l : List α, sizeU l = l.length ↔ l.Nodup
  | [] => by simp [sizeU]
  | x :: l => by
    have := sizeU_le l
    have ih := sizeU_iff l
    unfold sizeU
    rw [List.nodup_cons]
    by_cases e : x ∈ l
    · rw [if_pos e, List.length_cons]
      exact ⟨fun h => by omega, fun h => absurd e h.1⟩
    · rw [if_neg e, List.length_cons]
      exact ⟨fun h => ⟨e, ih.mp (by omega)⟩, fun h => by have := ih.mpr h.2; omega⟩
def sp_cmarks (N : Addr) : Sp := fun vs H Q E => ∃ (l : Addr) (us : List V), vs = [.ref l] ∧ H l = some (.lst us) ∧ (∀ v ∈ us, TextV H v) ∧ us.length ≤ 60 ∧ (MarksOk us → ∀ H', Same H H' → Q .non H') ∧ (¬ MarksOk us → ∀ H', Same H H' → E (.ref N) none H')
theorem D_check_marks (T : Txt K mg C_Roll C_Rule C_Book C_BookError C_NoNumber C_NoRule C_Backward C_NoName C_NoMark C_NoText) : DefX P w K mg base 3 "check_marks" ["marks"] [] (sp_cmarks C_NoMark) := by
  obtain ⟨f, fd, F, hm⟩ := T.f_check_marks
  have nd := sc_check_marks.nd
  refine ⟨f, fd, (F.okX sc_check_marks (fun vs H Q E h => ?_) (fun cdv A outer s H vs Q E hr h => ?_)), hm, F.kp, (F.binds fun _ _ _ _ _ _ us hl => by obtain ⟨_, rfl⟩ := L2.lq1 hl; rfl)⟩
  · obtain ⟨l, us, rfl, _⟩ := h; rfl
  · obtain ⟨l, us, rfl, hl, hv, hz, q1, q2⟩ := h
    refine ⟨_, (pss_cons (ps_if (pt_not (pt_val (pe_callB (call_all rfl) rfl T.b_all bt_all (pa_cons (pe_lc (vars := ["mark"]) (frees := []) (fv := []) rfl (lcOk rfl rfl (by decide +kernel) (by decide +kernel) (by intro p hp; cases hp) rfl) trivial (pi_list (pv 0)) (gk_name (by decide)) (fun _ _ _ _ => (pg_name (i := 0) (show (["mark"] : List Str).Nodup by decide +kernel) rfl (Or.inl rfl))) (fun _ _ _ _ => pif_none) (fun _ _ _ _ => (pe_fn (D_is_mark T) (hr.mono (by decide)) rfl (pa_cons (pv 0) pa_nil)))) pa_nil))))
        (pss_one (ps_raise (wants_wish ⟨rfl, rfl, rfl⟩) rfl T.ex_NoMark rfl T.mg_NoMark (pa_cons pe_str pa_nil)))
        pss_nil)
      (pss_cons (ps_if (pt_cmpR op_ne (pe_callB call_lenU rfl T.b_len bt_len (pa_cons (pe_callTy (call_setS rfl) rfl T.b_set bt_set (pa_cons (pv 0) pa_nil)) pa_nil)) (pe_callB call_len_seq rfl T.b_len bt_len (pa_cons (pv 0) pa_nil)) (nomark _))
        (pss_one (ps_raise (wants_wish ⟨rfl, rfl, rfl⟩) rfl T.ex_NoMark rfl T.mg_NoMark (pa_cons pe_str pa_nil)))
        pss_nil)
      (pss_one (ps_if (pt_cmpR op_gt (pe_callB call_len_seq rfl T.b_len bt_len (pa_cons (pv 0) pa_nil)) (pe_glob (v := .int 8) rfl T.c_MOST_MARKS.choose_spec ⟨_, rfl⟩) (nomark _))
        (pss_one (ps_raise (wants_wish ⟨rfl, rfl, rfl⟩) rfl T.ex_NoMark rfl T.mg_NoMark (pa_cons pe_str pa_nil)))
        pss_nil)))), ?_⟩
    refine ⟨_, rfl, l, rfl, ⟨_, SqL.of hl⟩, lc_listN (xs := us) (fun i ys H2 => Same H H2 ∧ ys = (us.take i).map fun v => V.bl (smallB 8 v)) (sz20 (by omega)) ⟨Same.refl _, rfl⟩ (fun i ys H2 h2 => ⟨SqL.of (h2.1 _ _ hl), by rw [h2.2, List.length_map, List.length_take]; omega⟩) ?_ ?_⟩
    · rintro i v ys H2 hi ⟨s2, rfl⟩
      refine gname_ (yes_ (iteT ?_))
      refine ⟨_, rfl, v, rfl, (hv v (List.mem_of_getElem? hi)).same s2, fun H3 s3 => ⟨s2.trans s3, ?_⟩⟩
      exact (mapN _ us i v hi).symm
    · rintro ys H2 p H3 ⟨s2, rfl⟩ n3
      rw [List.take_length] at n3
      have s03 := s2.trans n3.same
      refine ⟨p, us.map fun v => smallB 8 v, rfl, SqL.of (by rw [List.map_map]; exact n3.at_), _, rfl, ?_⟩
      by_cases a1 : ∀ v ∈ us, smallB 8 v = true
      · have e1 : (us.map fun v => smallB 8 v).all id = true := by
          rw [List.all_eq_true]
          intro b hb
          obtain ⟨v, hv, rfl⟩ := List.mem_map.mp hb
          exact a1 v hv
        rw [e1]
        refine iteF ?_
        obtain ⟨ms, rfl, hm⟩ := texts_of a1
        have hl3 := s03 _ _ hl
        rw [show (ms.map tS) = (ms.map S).map V.str by rw [List.map_map]; rfl] at hl3
        refine ⟨_, rfl, l, ms.map S, rfl, SqL.of hl3, by simp at hz ⊢; omega, fun st H4 n4 => ?_⟩
        have hl4 := n4.same _ _ hl3
        have su := sizeU_le (ms.map S).reverse
        rw [List.length_reverse, List.length_map] at su
        rw [List.length_map] at hz
        refine ⟨st, _, rfl, n4.at_, by omega, _, rfl, l, _, rfl, .inl (SqL.of hl4), rfl, _, rfl, ?_⟩
        have s04 := s03.trans n4.same
        have ed : (!decide (V.int (sizeU (ms.map S).reverse : Nat) = V.int (((ms.map S).map V.str).length : Nat))) = !decide (ms.map tS).Nodup := by
          congr 1
          rw [decide_eq_decide]
          rw [nodup_map (fun _ _ => tS_inj), ← nodup_map (f := S) (fun _ _ => S_inj), ← (List.reverse_perm (ms.map S)).nodup_iff, ← sizeU_iff]
          simp
          omega
        rw [ed]
        by_cases a2 : (ms.map tS).Nodup
        · rw [decide_eq_true a2]
          refine iteF ?_
          refine ⟨_, rfl, l, _, rfl, .inl (SqL.of hl4), _, _, rfl, rfl, _, rfl, ?_⟩
          refine ite2 (fun z => ?_) fun z => ?_
          · walk_at "r"
            refine q2 (fun h => ?_) H4 s04
            have := of_decide_eq_true z
            have := h.2.2
            simp at *
            omega
          · refine q1 ⟨a1, a2, ?_⟩ H4 s04
            have := of_decide_eq_false (Bool.not_eq_true _ ▸ z)
            simp at *
            omega
        · rw [decide_eq_false a2]
          refine iteT ?_
          walk_at "r"
          exact q2 (fun h => a2 h.2.1) H4 s04
      · have e1 : (us.map fun v => smallB 8 v).all id = false := by
          rw [Bool.eq_false_iff]
          intro h
          rw [List.all_eq_true] at h
          exact a1 fun v hv => h _ (List.mem_map.mpr ⟨v, hv, rfl⟩)
        rw [e1]
        refine iteT ?_
        walk_at "r"
        exact q2 (fun h => a1 h.1) H3 s03
end
section
variable {P : Program} {w : World} {K : PySem.W.Frag} {mg : Str → Option Value} {base : Heap} {C_Roll C_Rule C_Book C_BookError C_NoNumber C_NoRule C_Backward C_NoName C_NoMark C_NoText : Addr}
structure BookAt (C CR R : Addr) (H : Hp) (b : Addr) (B : BookD) (E : Rows) : Prop where
  ob : ∃ dx, H b = some (.ins C dx (bof B.ru B.day B.le B.dm B.dr))
  rule : RuleAt R H B.ru B.rl B.ps B.g
  ed : H B.le = some (.lst (eV B.ps B.g B.day))
  ms : ∃ kvs, H B.dm = some (.dK kvs) ∧ Ents (fun v ms => TxtL H v (sortT ms)) kvs E
  rs : ∃ kvs, H B.dr = some (.dK kvs) ∧ Ents (fun v _ => ∃ r, v = .ref r ∧ RollE CR R H r B.ru B.rl B.ps B.g B.day) kvs E
  ne : B.dm ≠ B.dr
  pr : Pr B.ps B.g
  bd : Bd B.day
theorem BookAt.same {C CR R : Addr} {H H' : Hp} {b : Addr} {B : BookD} {E : Rows} (h : BookAt C CR R H b B E) (s : Same H H') : BookAt C CR R H' b B E :=
  ⟨let ⟨dx, e⟩ := h.ob; ⟨dx, s _ _ e⟩, h.rule.same s, s _ _ h.ed, let ⟨k, e, r⟩ := h.ms; ⟨k, s _ _ e, r.imp fun _ _ q => q.same s⟩, let ⟨k, e, r⟩ := h.rs; ⟨k, s _ _ e, r.imp fun _ _ ⟨x, e1, e2⟩ => ⟨x, e1, e2.same s⟩⟩, h.ne, h.pr, h.bd⟩
inductive sp_book_init (C CR R : Addr) (vs : List V) (H : Hp) (Q : VK) (E_ : XK) : Prop
  | mk : ∀ (b dx ru rl : Addr) (ps : List (Int × Int)) (g : Option Int) (day : Int), vs = [.ref b, .ref ru, .int day] → H b = some (.ins C dx []) → RuleAt R H ru rl ps g → Pr ps g → Bd day → (∀ le dm dr H', BookAt C CR R H' b ⟨ru, rl, le, dm, dr, ps, g, day⟩ [] → H dm = none → H dr = none → But b H H' → Q .non H') → sp_book_init C CR R vs H Q E_
theorem D_Book_2 (T : Txt K mg C_Roll C_Rule C_Book C_BookError C_NoNumber C_NoRule C_Backward C_NoName C_NoMark C_NoText) : MkOk P w K mg base C_Book 4 "Book" ["self", "rule", "day"] [] (sp_book_init C_Book C_Roll C_Rule) := by
  obtain ⟨f, fd, F, M⟩ := T.f_Book_init
  have nd := sc_Book_init.nd
  refine ⟨f, fd, (F.ok sc_Book_init (fun vs H Q E h => ?_) (fun cdv A outer s H vs Q E hr h => ?_)), T.mg_Book, M, (F.binds fun _ _ _ _ _ _ us hl => by obtain ⟨_, _, _, rfl⟩ := L2.lq3 hl; rfl)⟩
  · obtain ⟨ro, dx, ru, rl, ps, g, day, rfl, _⟩ := h; rfl
  · obtain ⟨ro, dx, ru, rl, ps, g, day, rfl, hro, R, Pg, hd, q⟩ := h
    obtain ⟨dx2, hru⟩ := R.ob
    have nru : ru ≠ ro := ne_of hru hro (by intro z; injection z with _ _ z; have := rf_ks rl (gv g); rw [z] at this; cases this)
    refine ⟨_, (pss_cons (ps_fldN (pv 0) (pv 1) rfl)
      (pss_cons (ps_fldN (pv 0) (pv 2) rfl)
      (pss_cons (ps_fldN (pv 0) (pe_fn (D_edges_at T) (hr.mono (by decide)) rfl (pa_cons (pv 1) (pa_cons (pv 2) pa_nil))) rfl)
      (pss_cons (ps_fldN (pv 0) pe_dnewKN rfl)
      (pss_one (ps_fldN (pv 0) pe_dnewKN rfl)))))), ?_⟩
    refine ⟨_, rfl, _, rfl, ro, C_Book, dx, [], rfl, hro, T.cl_Book, T.na_Book_kept_rule, (by show 0 < 1000; decide), fun H1 b1 h1 => ?_⟩
    refine ⟨_, rfl, _, rfl, ro, C_Book, dx, _, rfl, h1, T.cl_Book, T.na_Book_kept_day, (by show 1 < 1000; decide), fun H2 b2 h2 => ?_⟩
    have R2 := (R.but2 b1 hro ins_nt (by intro xs z; cases z) nru).but2 b2 h1 ins_nt (by intro xs z; cases z) nru
    refine ⟨_, rfl, _, rfl, ru, rl, ps, g, day, rfl, R2, Pg, hd, fun le H3 n3 => ?_⟩
    refine ⟨_, rfl, ro, C_Book, dx, _, rfl, n3.same _ _ h2, T.cl_Book, T.na_Book_kept_edges, (by show 2 < 1000; decide), fun H4 b4 h4 => ?_⟩
    intro dy H5 n5
    refine ⟨_, rfl, ro, C_Book, dx, _, rfl, n5.same _ _ h4, T.cl_Book, T.na_Book_kept_marks, (by show 3 < 1000; decide), fun H6 b6 h6 => ?_⟩
    intro dh H7 n7
    refine ⟨_, rfl, ro, C_Book, dx, _, rfl, n7.same _ _ h6, T.cl_Book, T.na_Book_kept_rolls, (by show 4 < 1000; decide), fun H8 b8 h8 => ?_⟩
    have R8 := ((((R2.same n3.same).but2 b4 (n3.same _ _ h2) ins_nt (by intro xs z; cases z) nru).same n5.same |>.but2 b6 (n5.same _ _ h4) ins_nt (by intro xs z; cases z) nru).same n7.same).but2 b8 (n7.same _ _ h6) ins_nt (by intro xs z; cases z) nru
    have bb : But ro H H8 := fun b o e hb => b8 _ _ (n7.same _ _ (b6 _ _ (n5.same _ _ (b4 _ _ (n3.same _ _ (b2 _ _ (b1 _ _ e hb) hb)) hb)) hb)) hb
    have fr : ∀ b, b ≠ ro → H8 b = none → H b = none := fun b hb h0 => by
      cases e : H b with
      | none => rfl
      | some o => rw [bb b o e hb] at h0; cases h0
    have e4 : H4 le = some (.lst (eV ps g day)) := b4 _ _ n3.at_ (ne_of n3.at_ (n3.same _ _ h2) (by intro z; cases z))
    have e6 : H6 dy = some (.dK []) := b6 _ _ n5.at_ (ne_of n5.at_ (n5.same _ _ h4) (by intro z; cases z))
    have up2 : ∀ b o, H b = some o → b ≠ ro → H2 b = some o := fun b o e hb => b2 _ _ (b1 _ _ e hb) hb
    have fr2 : ∀ b, H2 b = none → H b = none := fun b h0 => by
      cases e : H b with
      | none => rfl
      | some o =>
        by_cases hb : b = ro
        · subst hb; rw [h2] at h0; cases h0
        · rw [up2 b o e hb] at h0; cases h0
    have fr4 : ∀ b, H4 b = none → H2 b = none := fun b h0 => by
      cases e : H2 b with
      | none => rfl
      | some o =>
        by_cases hb : b = ro
        · subst hb; rw [h4] at h0; cases h0
        · rw [b4 _ _ (n3.same _ _ e) hb] at h0; cases h0
    have fr6 : ∀ b, H6 b = none → H4 b = none := fun b h0 => by
      cases e : H4 b with
      | none => rfl
      | some o =>
        by_cases hb : b = ro
        · subst hb; rw [h6] at h0; cases h0
        · rw [b6 _ _ (n5.same _ _ e) hb] at h0; cases h0
    refine q le dy dh H8 ⟨⟨dx, h8⟩, R8, ?_, ⟨[], ?_, .nil⟩, ⟨[], ?_, .nil⟩, ne_of_none e6 n7.fresh, Pg, hd⟩ (fr2 _ (fr4 _ n5.fresh)) (fr2 _ (fr4 _ (fr6 _ n7.fresh))) bb
    · exact b8 _ _ (n7.same _ _ (b6 _ _ (n5.same _ _ e4) (ne_of (n5.same _ _ e4) (n5.same _ _ h4) (by intro z; cases z)))) (ne_of (n7.same _ _ (b6 _ _ (n5.same _ _ e4) (ne_of (n5.same _ _ e4) (n5.same _ _ h4) (by intro z; cases z)))) (n7.same _ _ h6) (by intro z; cases z))
    · exact b8 _ _ (n7.same _ _ e6) (ne_of (n7.same _ _ e6) (n7.same _ _ h6) (by intro z; cases z))
    · exact b8 _ _ n7.at_ (ne_of n7.at_ (n7.same _ _ h6) (by intro z; cases z))
inductive sp_bnames (C CR R : Addr) (vs : List V) (H : Hp) (Q : VK) (E_ : XK) : Prop
  | mk : ∀ (b : Addr) (B : BookD) (E : Rows), vs = [.ref b] → BookAt C CR R H b B E → E.length < 64 → (∀ l H', New H H' l (.lst ((sortT (E.map (·.1))).map tS)) → Q (.ref l) H') → sp_bnames C CR R vs H Q E_
theorem D_Book_names (T : Txt K mg C_Roll C_Rule C_Book C_BookError C_NoNumber C_NoRule C_Backward C_NoName C_NoMark C_NoText) : MetOk P w K mg base C_Book 1 "names" ["self"] (sp_bnames C_Book C_Roll C_Rule) := by
  obtain ⟨f, fd, F, hm⟩ := T.f_Book_names
  have nd := sc_Book_names.nd
  refine ⟨f, fd, (F.ok sc_Book_names (fun vs H Q E h => ?_) (fun cdv A outer s H vs Q E hr h => ?_)), hm, (F.binds fun _ _ _ _ _ _ us hl => by obtain ⟨_, rfl⟩ := L2.lq1 hl; rfl)⟩
  · obtain ⟨b, B, E', rfl, _⟩ := h; rfl
  · obtain ⟨b, B, E', rfl, A', hz, q⟩ := h
    obtain ⟨dx, hob⟩ := A'.ob
    obtain ⟨kvs, hk, en⟩ := A'.rs
    refine ⟨_, (pss_one (ps_ret (pe_callB (call_sortedDTx rfl) rfl T.b_sorted bt_sorted (pa_cons (pe_fld (pv 0) rfl) pa_nil)))), ?_⟩
    exact ⟨_, rfl, b, C_Book, dx, _, _, rfl, hob, T.cl_Book, T.na_Book_kept_rolls, bof_ks _ _ _ _ _, B.dr, kvs, E'.map (·.1), rfl, .inl hk, en.keys, by simpa using hz, q⟩
def IsIn (E : Rows) (v : V) : Prop := ∃ x, v = tS x ∧ SmallW 12 x ∧ x ∈ E.map (·.1)
inductive sp_bcheck (C CR R N : Addr) (vs : List V) (H : Hp) (Q : VK) (X : XK) : Prop
  | mk : ∀ (b : Addr) (B : BookD) (E : Rows) (v : V), vs = [.ref b, v] → BookAt C CR R H b B E → TextV H v → (IsIn E v → ∀ H', Same H H' → Q .non H') → (¬ IsIn E v → ∀ H', Same H H' → X (.ref N) none H') → sp_bcheck C CR R N vs H Q X
theorem D_Book_check_enrolled (T : Txt K mg C_Roll C_Rule C_Book C_BookError C_NoNumber C_NoRule C_Backward C_NoName C_NoMark C_NoText) : MetX P w K mg base C_Book 3 "check_enrolled" ["self", "name"] [] (sp_bcheck C_Book C_Roll C_Rule C_NoName) := by
  obtain ⟨f, fd, F, hm⟩ := T.f_Book_check_enrolled
  have nd := sc_Book_check_enrolled.nd
  refine ⟨f, fd, (F.okX sc_Book_check_enrolled (fun vs H Q E h => ?_) (fun cdv A outer s H vs Q E hr h => ?_)), hm, (F.binds fun _ _ _ _ _ _ us hl => by obtain ⟨_, _, rfl⟩ := L2.lq2 hl; rfl)⟩
  · obtain ⟨b, B, E', v, rfl, _⟩ := h; rfl
  · obtain ⟨b, B, E', v, rfl, A', hv, q1, q2⟩ := h
    obtain ⟨dx, hob⟩ := A'.ob
    obtain ⟨kvs, hk, en⟩ := A'.rs
    refine ⟨_, (pss_one (ps_if (PW.pt (pw_or (pt_not (pt_val (pe_fn (D_is_name T) (hr.mono (by decide)) rfl (pa_cons (pv 1) pa_nil)))) (pw_or1 (pt_cmp (pc_dnotin (hu_of hr) (pv 1) (pe_fld (pv 0) rfl))))))
        (pss_one (ps_raise (wants_wish ⟨rfl, rfl, rfl⟩) rfl T.ex_NoName rfl T.mg_NoName (pa_cons pe_str pa_nil)))
        pss_nil)), ?_⟩
    refine ⟨_, rfl, v, rfl, hv, fun H1 s1 => ⟨_, rfl, ?_⟩⟩
    cases hs : smallB 12 v with
    | false =>
      refine iteT ?_
      walk_at "r"
      refine q2 (fun ⟨x, e, hx, _⟩ => ?_) H1 s1
      rw [small_iff.mpr ⟨x, e, hx⟩] at hs
      cases hs
    | true =>
      refine iteF ?_
      obtain ⟨x, rfl, hx⟩ := small_iff.mp hs
      refine ⟨_, rfl, _, rfl, b, C_Book, dx, _, _, rfl, s1 _ _ hob, T.cl_Book, T.na_Book_kept_rolls, bof_ks _ _ _ _ _, B.dr, _, rfl, DGet.k (k := kS x) (s1 _ _ hk), _, rfl, ?_⟩
      by_cases hin : x ∈ E'.map (·.1)
      · obtain ⟨u, a, e1, _, _⟩ := en.has hin
        rw [e1]
        refine iteF ?_
        exact q1 ⟨x, rfl, hx, hin⟩ H1 s1
      · rw [en.hasn hin]
        refine iteT ?_
        walk_at "r"
        refine q2 (fun ⟨y, e, _, hy⟩ => hin ?_) H1 s1
        rw [tS_inj e]; exact hy
inductive sp_bown (C CR R N : Addr) (vs : List V) (H : Hp) (Q : VK) (X : XK) : Prop
  | mk : ∀ (b : Addr) (B : BookD) (E : Rows) (v : V), vs = [.ref b, v] → BookAt C CR R H b B E → TextV H v → (IsIn E v → ∀ r H', Same H H' → RollE CR R H' r B.ru B.rl B.ps B.g B.day → Q (.ref r) H') → (¬ IsIn E v → ∀ H', Same H H' → X (.ref N) none H') → sp_bown C CR R N vs H Q X
theorem D_Book_own_roll (T : Txt K mg C_Roll C_Rule C_Book C_BookError C_NoNumber C_NoRule C_Backward C_NoName C_NoMark C_NoText) : MetX P w K mg base C_Book 4 "own_roll" ["self", "name"] [] (sp_bown C_Book C_Roll C_Rule C_NoName) := by
  obtain ⟨f, fd, F, hm⟩ := T.f_Book_own_roll
  have nd := sc_Book_own_roll.nd
  refine ⟨f, fd, (F.okX sc_Book_own_roll (fun vs H Q E h => ?_) (fun cdv A outer s H vs Q E hr h => ?_)), hm, (F.binds fun _ _ _ _ _ _ us hl => by obtain ⟨_, _, rfl⟩ := L2.lq2 hl; rfl)⟩
  · obtain ⟨b, B, E', v, rfl, _⟩ := h; rfl
  · obtain ⟨b, B, E', v, rfl, A', hv, q1, q2⟩ := h
    obtain ⟨dx, hob⟩ := A'.ob
    refine ⟨_, (pss_cons (ps_expr (pe_mtX (wants_wish ⟨rfl, rfl, rfl⟩) (pv 0) T.cl_Book (D_Book_check_enrolled T) (hr.mono (by decide)) .nil (pa_cons (pv 1) pa_nil)))
      (pss_one (ps_ret (pe_dget (hu_of hr) (pe_fld (pv 0) rfl) (pv 1) (fun _ _ => rfl))))), ?_⟩
    refine ⟨_, rfl, b, dx, _, rfl, hob, bof_no _ _ _ _ _ (by decide +kernel) (by decide +kernel) (by decide +kernel) (by decide +kernel) (by decide +kernel), _, rfl, b, B, E', v, rfl, A', hv, fun hin H1 s1 => ?_, fun hn H1 s1 => q2 hn H1 s1⟩
    obtain ⟨x, rfl, hx, hxE⟩ := hin
    obtain ⟨kvs, hk, en⟩ := A'.rs
    obtain ⟨u, a, e1, e2, r, rfl, re⟩ := en.has hxE
    have g := DGet.k (k := kS x) (s1 _ _ hk)
    rw [e1] at g
    exact ⟨_, rfl, b, C_Book, dx, _, _, rfl, s1 _ _ hob, T.cl_Book, T.na_Book_kept_rolls, bof_ks _ _ _ _ _, _, rfl, B.dr, _, rfl, g, q1 ⟨x, rfl, hx, hxE⟩ r H1 s1 (re.same s1)⟩
inductive sp_bmarks (C CR R N : Addr) (vs : List V) (H : Hp) (Q : VK) (X : XK) : Prop
  | mk : ∀ (b : Addr) (B : BookD) (E : Rows) (v : V), vs = [.ref b, v] → BookAt C CR R H b B E → TextV H v → (∀ x a, v = tS x → SmallW 12 x → (x, a) ∈ E → ∀ l H', Same H H' → H l = none → H' l = some (.lst ((sortT a).map tS)) → Q (.ref l) H') → (¬ IsIn E v → ∀ H', Same H H' → X (.ref N) none H') → sp_bmarks C CR R N vs H Q X
theorem D_Book_marks (T : Txt K mg C_Roll C_Rule C_Book C_BookError C_NoNumber C_NoRule C_Backward C_NoName C_NoMark C_NoText) : MetX P w K mg base C_Book 4 "marks" ["self", "name"] [] (sp_bmarks C_Book C_Roll C_Rule C_NoName) := by
  obtain ⟨f, fd, F, hm⟩ := T.f_Book_marks
  have nd := sc_Book_marks.nd
  refine ⟨f, fd, (F.okX sc_Book_marks (fun vs H Q E h => ?_) (fun cdv A outer s H vs Q E hr h => ?_)), hm, (F.binds fun _ _ _ _ _ _ us hl => by obtain ⟨_, _, rfl⟩ := L2.lq2 hl; rfl)⟩
  · obtain ⟨b, B, E', v, rfl, _⟩ := h; rfl
  · obtain ⟨b, B, E', v, rfl, A', hv, q1, q2⟩ := h
    obtain ⟨dx, hob⟩ := A'.ob
    refine ⟨_, (pss_cons (ps_expr (pe_mtX (wants_wish ⟨rfl, rfl, rfl⟩) (pv 0) T.cl_Book (D_Book_check_enrolled T) (hr.mono (by decide)) .nil (pa_cons (pv 1) pa_nil)))
      (pss_one (ps_ret (pe_callTy call_listN rfl T.b_list bt_list (pa_cons (pe_dget (hu_of hr) (pe_fld (pv 0) rfl) (pv 1) (fun _ _ => rfl)) pa_nil))))), ?_⟩
    refine ⟨_, rfl, b, dx, _, rfl, hob, bof_no _ _ _ _ _ (by decide +kernel) (by decide +kernel) (by decide +kernel) (by decide +kernel) (by decide +kernel), _, rfl, b, B, E', v, rfl, A', hv, fun hin H1 s1 => ?_, fun hn H1 s1 => q2 hn H1 s1⟩
    obtain ⟨x, rfl, hx, hxE⟩ := hin
    obtain ⟨kvs, hk, en⟩ := A'.ms
    obtain ⟨u, a, e1, e2, l, rfl, hl⟩ := en.has hxE
    have g := DGet.k (k := kS x) (s1 _ _ hk)
    rw [e1] at g
    exact ⟨_, rfl, b, C_Book, dx, _, _, rfl, s1 _ _ hob, T.cl_Book, T.na_Book_kept_marks, bof_km _ _ _ _ _, _, rfl, B.dm, _, rfl, g, l, _, rfl, .inl (SqL.of (s1 _ _ hl)), fun l2 H2 n2 => q1 x a rfl hx e2 l2 H2 (s1.trans n2.same) (s1.free n2.fresh) n2.at_⟩
theorem D_Book_roll (T : Txt K mg C_Roll C_Rule C_Book C_BookError C_NoNumber C_NoRule C_Backward C_NoName C_NoMark C_NoText) : MetX P w K mg base C_Book 8 "roll" ["self", "name"] [] (sp_bown C_Book C_Roll C_Rule C_NoName) := by
  obtain ⟨f, fd, F, hm⟩ := T.f_Book_roll
  have nd := sc_Book_roll.nd
  refine ⟨f, fd, (F.okX sc_Book_roll (fun vs H Q E h => ?_) (fun cdv A outer s H vs Q E hr h => ?_)), hm, (F.binds fun _ _ _ _ _ _ us hl => by obtain ⟨_, _, rfl⟩ := L2.lq2 hl; rfl)⟩
  · obtain ⟨b, B, E', v, rfl, _⟩ := h; rfl
  · obtain ⟨b, B, E', v, rfl, A', hv, q1, q2⟩ := h
    obtain ⟨dx, hob⟩ := A'.ob
    refine ⟨_, (pss_one (ps_ret (pe_fn (D_aged T) (hr.mono (by decide)) rfl (pa_cons (pe_mtX (wants_wish ⟨rfl, rfl, rfl⟩) (pv 0) T.cl_Book (D_Book_own_roll T) (hr.mono (by decide)) .nil (pa_cons (pv 1) pa_nil)) (pa_cons (pe_fld (pv 0) rfl) pa_nil))))), ?_⟩
    refine ⟨_, rfl, b, dx, _, rfl, hob, bof_no _ _ _ _ _ (by decide +kernel) (by decide +kernel) (by decide +kernel) (by decide +kernel) (by decide +kernel), _, rfl, b, B, E', v, rfl, A', hv, fun hin r H1 s1 re => ?_, fun hn H1 s1 => q2 hn H1 s1⟩
    refine ⟨_, rfl, b, C_Book, dx, _, _, rfl, s1 _ _ hob, T.cl_Book, T.na_Book_kept_day, bof_kd _ _ _ _ _, r, B.ru, B.rl, B.ps, B.g, B.day, rfl, re, A'.pr, A'.bd, fun r' H2 re2 s2 => ?_⟩
    exact q1 hin r' H2 (s1.trans s2) re2
theorem RuleAt.butK {C : Addr} {H H' : Hp} {r l a : Addr} {ps : List (Int × Int)} {g : Option Int} {kvs : List (Key × V)} (h : RuleAt C H r l ps g) (b : But a H H') (ha : H a = some (.dK kvs)) : RuleAt C H' r l ps g :=
  h.but2 b ha (by intro xs z; cases z) (by intro xs z; cases z) (by obtain ⟨dx, e⟩ := h.ob; exact ne_of e ha (by intro z; cases z))
theorem TxtL.butK {H H' : Hp} {a : Addr} {kvs : List (Key × V)} {v : V} {ms : List (List Nat)} (h : TxtL H v ms) (b : But a H H') (ha : H a = some (.dK kvs)) : TxtL H' v ms :=
  let ⟨c, e, q⟩ := h; ⟨c, e, b _ _ q (ne_of q ha (by intro z; cases z))⟩
theorem RollE.butK {C R : Addr} {H H' : Hp} {a : Addr} {kvs : List (Key × V)} {ro ru rl : Addr} {ps : List (Int × Int)} {g : Option Int} {day : Int} (h : RollE C R H ro ru rl ps g day) (b : But a H H') (ha : H a = some (.dK kvs)) : RollE C R H' ro ru rl ps g day :=
  let ⟨c, A, r⟩ := h.ex
  ⟨c, ⟨let ⟨dx, e⟩ := A.ob; ⟨dx, b _ _ e (ne_of e ha (by intro z; cases z))⟩, A.rule.butK b ha, b _ _ A.ed (ne_of A.ed ha (by intro z; cases z)), b _ _ A.yo (ne_of A.yo ha (by intro z; cases z)), b _ _ A.he (ne_of A.he ha (by intro z; cases z)), A.ne⟩, r⟩
def rm (H : Hp) (a : Addr) : Hp := fun c => if c = a then none else H c
theorem rm_ne {H : Hp} {a c : Addr} {o : HO} (h : H c = some o) (n : c ≠ a) : rm H a c = some o := by unfold rm; rw [if_neg n]; exact h
theorem rm_sub {H : Hp} {a : Addr} : Same (rm H a) H := fun c o e => by
  unfold rm at e
  split at e
  · cases e
  · exact e
theorem rm_mono {H H' : Hp} {a : Addr} (s : Same H H') : Same (rm H a) (rm H' a) := fun c o e => by
  unfold rm at e ⊢
  split at e
  · cases e
  · rename_i n; rw [if_neg n]; exact s _ _ e
theorem rm_but {H H' : Hp} {a d : Addr} (b : But d H H') : But d (rm H a) (rm H' a) := fun c o e n => by
  unfold rm at e ⊢
  split at e
  · cases e
  · rename_i m; rw [if_neg m]; exact b _ _ e n
theorem rm_back {H H' : Hp} {a : Addr} (b : But a H H') : Same (rm H a) H' := fun c o e => by
  unfold rm at e
  split at e
  · cases e
  · rename_i n; exact b _ _ e n
theorem rm_new {H H' : Hp} {a : Addr} (s : Same H H') (f : H a = none) : Same H (rm H' a) := fun c o e => rm_ne (s _ _ e) (fun z => by rw [z, f] at e; cases e)
theorem enrol_book {C CR R : Addr} {G4 G5 G6 G7 : Hp} {b l2 ro : Addr} {B : BookD} {E : Rows} {x : List Nat} {ms : List (List Nat)} {km kr : List (Key × V)} (A4 : BookAt C CR R G4 b B E) (hin : x ∉ E.map (·.1)) (hkm : G4 B.dm = some (.dK km)) (hkr : G4 B.dr = some (.dK kr)) (b5 : But B.dm G4 G5) (d5 : G5 B.dm = some (.dK (putK km (kS x) (.ref l2)))) (s6 : Same G5 G6)
    (b7 : But B.dr G6 G7) (d7 : G7 B.dr = some (.dK (putK kr (kS x) (.ref ro)))) (tl : TxtL G4 (.ref l2) (sortT ms)) (re : RollE CR R G6 ro B.ru B.rl B.ps B.g B.day) : BookAt C CR R G7 b B (E ++ [(x, ms)]) := by
  obtain ⟨dx, hob⟩ := A4.ob
  obtain ⟨km', hkm', enm⟩ := A4.ms
  obtain ⟨kr', hkr', enr⟩ := A4.rs
  rw [hkm] at hkm'
  cases hkm'
  rw [hkr] at hkr'
  cases hkr'
  have hkr6 := s6 _ _ (b5 _ _ hkr (fun z => A4.ne z.symm))
  have hob6 := s6 _ _ (b5 _ _ hob (ne_of hob hkm (by intro z; cases z)))
  refine ⟨⟨dx, b7 _ _ hob6 (ne_of hob6 hkr6 (by intro z; cases z))⟩, ((A4.rule.butK b5 hkm).same s6).butK b7 hkr6, ?_, ⟨_, b7 _ _ (s6 _ _ d5) A4.ne, (enm.put hin tl).imp fun v ms' q => ((q.butK b5 hkm).same s6).butK b7 hkr6⟩, ⟨_, d7, ?_⟩, A4.ne, A4.pr, A4.bd⟩
  · have e := s6 _ _ (b5 _ _ A4.ed (ne_of A4.ed hkm (by intro z; cases z)))
    exact b7 _ _ e (ne_of e hkr6 (by intro z; cases z))
  · have en6 : Ents (fun v (_ : List (List Nat)) => ∃ r, v = .ref r ∧ RollE CR R G6 r B.ru B.rl B.ps B.g B.day) kr E := enr.imp fun v _ ⟨r, e, q⟩ => ⟨r, e, (q.butK b5 hkm).same s6⟩
    exact (en6.put hin ⟨ro, rfl, re⟩).imp fun v _ ⟨r, e, q⟩ => ⟨r, e, q.butK b7 hkr6⟩
def MkV (H : Hp) (v : V) (us : List V) : Prop := (v = .non ∧ us = []) ∨ ∃ l, v = .ref l ∧ H l = some (.lst us)
theorem told_if {us : List V} {m : V} {σ : St} {H : Hp} {Kt : VK} (hσ : σ[2]? = some (some m)) (hm : MkV H m us) (k : ∀ l H2, Same H H2 → H2 l = some (.lst us) → Kt (.ref l) H2) :
    tIf (tTest (tOp (fun x y H Q => y = V.non ∧ Q (V.bl (decide (x = V.non))) H) (tVar 2) (tC V.non))) (tLstN tNil) (tVar 2) σ H Kt := by
  rcases hm with ⟨rfl, rfl⟩ | ⟨l, rfl, hl⟩
  · exact ⟨_, hσ, rfl, _, rfl, iteT ⟨Nat.zero_le _, fun l H2 n2 => k l H2 n2.same n2.at_⟩⟩
  · exact ⟨_, hσ, rfl, _, rfl, iteF ⟨_, hσ, k l H (Same.refl _) hl⟩⟩
inductive sp_enrol (C CR R N M : Addr) (vs : List V) (H : Hp) (Q : VK) (X : XK) : Prop
  | mk : ∀ (b : Addr) (B : BookD) (E : Rows) (v m : V) (us : List V), vs = [.ref b, v, m] → BookAt C CR R H b B E → TextV H v → MkV H m us → (∀ u ∈ us, TextV H u) → us.length ≤ 60 → E.length ≤ 60 → ((smallB 12 v = false ∨ IsIn E v) → ∀ H', Same H H' → X (.ref N) none H') → (¬ (smallB 12 v = false ∨ IsIn E v) → ¬ MarksOk us → ∀ H', Same H H' → X (.ref M) none H') → (∀ x ms, v = tS x → SmallW 12 x → x ∉ E.map (·.1) → us = ms.map tS → MarksOk us → ∀ H', But2 B.dm B.dr H H' → BookAt C CR R H' b B (E ++ [(x, ms)]) → (∀ (lh : Addr) (zs : List V), H lh = some (.lst zs) → BookAt C CR R (rm H lh) b B E → BookAt C CR R (rm H' lh) b B (E ++ [(x, ms)])) → Q .non H') → sp_enrol C CR R N M vs H Q X
theorem G_Book_enrol (T : Txt K mg C_Roll C_Rule C_Book C_BookError C_NoNumber C_NoRule C_Backward C_NoName C_NoMark C_NoText) : ∃ f fd dT o n, FnOk P w K mg base (CX1 P w) 7 f fd ["self", "name", "marks"] (sp_enrol C_Book C_Roll C_Rule C_NoName C_NoMark) ∧ FunD K "enrol" "Book.enrol" s_Book_enrol (.ref dT) f fd ∧ Meth K C_Book "enrol" f ∧ fd.defaults = .ref dT ∧ K.lookup dT = some o ∧ o.data = .seq #[.none] n := by
  obtain ⟨f, fd, dT, o, n, F, M, h1, h2, h3⟩ := T.f_Book_enrol
  have nd := sc_Book_enrol.nd
  refine ⟨f, fd, dT, o, n, (F.okX sc_Book_enrol (fun vs H Q E h => ?_) (fun cdv A outer s H vs Q E hr h => ?_)), F, M, h1, h2, h3⟩
  · obtain ⟨b, B, E', v, m, us, rfl, _⟩ := h; rfl
  · obtain ⟨b, B, E', v, m, us, rfl, A', hv, hm, hu, hz, hE, q1, q2, q3⟩ := h
    obtain ⟨dx, hob⟩ := A'.ob
    obtain ⟨kr, hkr, enr⟩ := A'.rs
    refine ⟨_, (pss_cons (ps_if (PW.pt (pw_or (pt_not (pt_val (pe_fn (D_is_name T) (hr.mono (by decide)) rfl (pa_cons (pv 1) pa_nil)))) (pw_or1 (pt_cmp (pc_din (hu_of hr) (pv 1) (pe_fld (pv 0) rfl))))))
        (pss_one (ps_raise (wants_wish ⟨rfl, rfl, rfl⟩) rfl T.ex_NoName rfl T.mg_NoName (pa_cons pe_str pa_nil)))
        pss_nil)
      (pss_cons (ps_set (i := 3) nd rfl (Or.inl rfl) (pe_ifExp (pt_cmpR op_isN (pv 2) pe_non (nomark _)) (pe_lstN pa_nil) (pv 2)))
      (pss_cons (ps_expr (pe_fnX (wants_wish ⟨rfl, rfl, rfl⟩) (D_check_marks T) (hr.mono (by decide)) rfl .nil (pa_cons (pv 3) pa_nil)))
      (pss_cons (ps_dput (hu_of hr) (pe_fld (pv 0) rfl) (pv 1) (pe_callB call_sortedTx rfl T.b_sorted bt_sorted (pa_cons (pv 3) pa_nil)) rfl)
      (pss_one (ps_dput (hu_of hr) (pe_fld (pv 0) rfl) (pv 1) (pe_fn (D_begun T) (hr.mono (by decide)) rfl (pa_cons (pe_fld (pv 0) rfl) (pa_cons (pe_fld (pv 0) rfl) (pa_cons (pe_fld (pv 0) rfl) pa_nil)))) rfl)))))), ?_⟩
    refine ⟨_, rfl, v, rfl, hv, fun H1 s1 => ⟨_, rfl, ?_⟩⟩
    cases hs : smallB 12 v with
    | false =>
      refine iteT ?_
      walk_at "r"
      exact q1 (.inl hs) H1 s1
    | true =>
      refine iteF ?_
      obtain ⟨x, rfl, hx⟩ := small_iff.mp hs
      refine ⟨_, rfl, _, rfl, b, C_Book, dx, _, _, rfl, s1 _ _ hob, T.cl_Book, T.na_Book_kept_rolls, bof_ks _ _ _ _ _, B.dr, _, rfl, DGet.k (k := kS x) (s1 _ _ hkr), _, rfl, ?_⟩
      by_cases hin : x ∈ E'.map (·.1)
      · obtain ⟨u, a, e1, _, _⟩ := enr.has hin
        rw [e1]
        refine iteT ?_
        walk_at "r"
        exact q1 (.inr ⟨x, rfl, hx, hin⟩) H1 s1
      · rw [enr.hasn hin]
        refine iteF ?_
        have hm1 : MkV H1 m us := by
          rcases hm with h | ⟨l, e, hl⟩
          · exact .inl h
          · exact .inr ⟨l, e, s1 _ _ hl⟩
        refine told_if rfl hm1 fun l H2 s2 hl => gname_ ?_
        have s02 := s1.trans s2
        refine ⟨_, rfl, l, us, rfl, hl, fun u hu' => (hu u hu').same s02, hz, fun ok H3 s3 => ?_, fun bad H3 s3 => q2 (fun h => ?_) bad H3 (s02.trans s3)⟩
        case refine_2 =>
          rcases h with h | ⟨y, e, _, hy⟩
          · rw [hs] at h; cases h
          · exact hin (tS_inj e ▸ hy)
        obtain ⟨ms, rfl, _⟩ := texts_of ok.1
        have s03 := s02.trans s3
        rw [List.length_map] at hz
        refine ⟨_, rfl, l, ms, rfl, SqL.of (s3 _ _ hl), by omega, fun l2 H4 n4 => ?_⟩
        have s04 := s03.trans n4.same
        have A4 := A'.same s04
        obtain ⟨km, hkm, enm⟩ := A4.ms
        obtain ⟨kr4, hkr4, enr4⟩ := A4.rs
        have lm := enm.len
        have lr := enr4.len
        refine ⟨_, rfl, b, C_Book, dx, _, _, rfl, s04 _ _ hob, T.cl_Book, T.na_Book_kept_marks, bof_km _ _ _ _ _, _, rfl, B.dm, _, rfl, DPut.k (k := kS x) hkm (by rw [sizeLine_eq]; omega), ?_⟩
        generalize h5 : upd H4 B.dm (.dK (putK km (kS x) (.ref l2))) = H5
        have b5 : But B.dm H4 H5 := by rw [← h5]; exact but_upd
        have d5 : H5 B.dm = some (.dK (putK km (kS x) (.ref l2))) := by rw [← h5]; exact upd_same
        have hob5 := b5 _ _ (s04 _ _ hob) (ne_of (s04 _ _ hob) hkm (by intro z; cases z))
        have E0' := EdS.of A'.pr A'.bd
        have l0 : (eV B.ps B.g B.day).length = B.ps.length + 1 := by rw [E0'.eq]; simp
        have g5 := A'.pr.good.hi
        refine ⟨_, rfl, b, C_Book, dx, _, _, rfl, hob5, T.cl_Book, T.na_Book_kept_rule, bof_kr _ _ _ _ _, _, rfl, b, C_Book, dx, _, _, rfl, hob5, T.cl_Book, T.na_Book_kept_day, bof_kd _ _ _ _ _, _, rfl, b, C_Book, dx, _, _, rfl, hob5, T.cl_Book, T.na_Book_kept_edges, bof_ke _ _ _ _ _, B.ru, B.rl, B.le, B.ps, B.g, B.day, _, _, _, rfl, A4.rule.butK b5 hkm, A'.pr, A'.bd, b5 _ _ A4.ed (ne_of A4.ed hkm (by intro z; cases z)), E0'.ed, by omega, l0, E0', by simp, fun ro c H6 A6 e1 e2 e3 eY eZ Ec hcl s6 f1 f2 w1 => ?_⟩
        have hkr6 := s6 _ _ (b5 _ _ hkr4 (fun z => A'.ne z.symm))
        refine ⟨_, rfl, b, C_Book, dx, _, _, rfl, s6 _ _ hob5, T.cl_Book, T.na_Book_kept_rolls, bof_ks _ _ _ _ _, _, rfl, B.dr, _, rfl, DPut.k (k := kS x) hkr6 (by rw [sizeLine_eq]; omega), ?_⟩
        generalize h7 : upd H6 B.dr (.dK (putK kr4 (kS x) (.ref ro))) = H7
        have b7 : But B.dr H6 H7 := by rw [← h7]; exact but_upd
        have d7 : H7 B.dr = some (.dK (putK kr4 (kS x) (.ref ro))) := by rw [← h7]; exact upd_same
        have re : RollE C_Roll C_Rule H6 ro B.ru B.rl B.ps B.g B.day := ⟨c, A6, eY, eZ, w1.1, w1.2.1, e1, e2, e3, by rw [← Ec.eq]; exact Ec, hcl⟩
        have tl : TxtL H4 (.ref l2) (sortT ms) := ⟨l2, rfl, n4.at_⟩
        refine q3 x ms rfl hx hin rfl ok H7 (fun c' o e n1 n2 => b7 _ _ (s6 _ _ (b5 _ _ (s04 _ _ e) n1)) n2) (enrol_book A4 hin hkm hkr4 b5 d5 s6 b7 d7 tl re) fun lh zs hlh Ar => ?_
        have nd1 : B.dm ≠ lh := ne_of hkm (s04 _ _ hlh) (by intro z; cases z)
        have nd2 : B.dr ≠ lh := ne_of hkr4 (s04 _ _ hlh) (by intro z; cases z)
        have h5lh : H5 lh = some (.lst zs) := b5 _ _ (s04 _ _ hlh) nd1.symm
        have A4r := Ar.same (rm_mono s04)
        refine enrol_book A4r hin (rm_ne hkm nd1) (rm_ne hkr4 nd2) (rm_but b5) (rm_ne d5 nd1) (rm_mono s6) (rm_but b7) (rm_ne d7 nd2) ⟨l2, rfl, rm_ne n4.at_ (fun z => by have := n4.fresh; rw [z, s03 _ _ hlh] at this; cases this)⟩ ?_
        obtain ⟨dxo, ho⟩ := A6.ob
        have R6 := (A4r.rule.butK (rm_but b5) (rm_ne hkm nd1)).same (rm_mono (a := lh) s6)
        have h6lh := s6 _ _ h5lh
        refine ⟨c, ⟨⟨dxo, rm_ne ho (ne_of ho h6lh (by intro z; cases z))⟩, ?_, rm_ne A6.ed (fun z => by have := w1.2.2; rw [z, h5lh] at this; cases this), rm_ne A6.yo (ne_of A6.yo h6lh (by intro z; cases z)), rm_ne A6.he (ne_of A6.he h6lh (by intro z; cases z)), A6.ne⟩, eY, eZ, w1.1, w1.2.1, e1, e2, e3, by rw [← Ec.eq]; exact Ec, hcl⟩
        rw [w1.1, w1.2.1, e1, e2]; exact R6
theorem D_Book_enrol_2 (T : Txt K mg C_Roll C_Rule C_Book C_BookError C_NoNumber C_NoRule C_Backward C_NoName C_NoMark C_NoText) : MetX P w K mg base C_Book 7 "enrol" ["self", "name", "marks"] [] (sp_enrol C_Book C_Roll C_Rule C_NoName C_NoMark) := by
  obtain ⟨f, fd, dT, o, n, hf, F, M, h1, h2, h3⟩ := G_Book_enrol (P := P) (w := w) (base := base) T
  refine ⟨f, fd, hf, M, binds_d h1 h2 h3 fun us hl => ?_⟩
  obtain ⟨oc, od, kV, doc, pm, an, cdv, ct, osl, rfl, lk, hcd⟩ := F.ex
  obtain ⟨_, _, _, rfl⟩ := L2.lq3 (us := us) (by simpa using hl)
  exact ⟨_, rfl, rfl⟩
theorem D_Book_enrol_1 (T : Txt K mg C_Roll C_Rule C_Book C_BookError C_NoNumber C_NoRule C_Backward C_NoName C_NoMark C_NoText) : MetX P w K mg base C_Book 7 "enrol" ["self", "name", "marks"] [.none] (sp_enrol C_Book C_Roll C_Rule C_NoName C_NoMark) := by
  obtain ⟨f, fd, dT, o, n, hf, F, M, h1, h2, h3⟩ := G_Book_enrol (P := P) (w := w) (base := base) T
  refine ⟨f, fd, hf, M, binds_d h1 h2 h3 fun us hl => ?_⟩
  obtain ⟨oc, od, kV, doc, pm, an, cdv, ct, osl, rfl, lk, hcd⟩ := F.ex
  obtain ⟨_, _, rfl⟩ := L2.lq2 (us := us) (by simpa using hl)
  exact ⟨_, rfl, rfl⟩
end
section
variable {P : Program} {w : World} {K : PySem.W.Frag} {mg : Str → Option Value} {base : Heap} {C_Roll C_Rule C_Book C_BookError C_NoNumber C_NoRule C_Backward C_NoName C_NoMark C_NoText : Addr}
theorem D__law_cell_at (T : Txt K mg C_Roll C_Rule C_Book C_BookError C_NoNumber C_NoRule C_Backward C_NoName C_NoMark C_NoText) : DefOk P w K mg base 1 "_law_cell_at" ["_law_script", "_law_k"] (sp_lcell K) := by
  obtain ⟨f, fd, F, hm⟩ := T.f__law_cell_at
  have nd := sc__law_cell_at.nd
  refine F.def_ hm (F.ok sc__law_cell_at (fun vs H Q E h => ?_) (fun cdv A outer s H vs Q E hr h => ?_)) (F.binds fun _ _ _ _ _ _ us hl => by obtain ⟨_, _, rfl⟩ := L2.lq2 hl; rfl)
  · obtain ⟨a, ns, k, rfl, _⟩ := h; rfl
  · obtain ⟨a, ns, k, rfl, hS, h0, q⟩ := h
    refine ⟨_, (pss_cons (ps_if (pt_cmpR op_lt (pv 1) (pe_callB call_len_seq rfl T.b_len bt_len (pa_cons (pv 0) pa_nil)) (nomark _))
        (pss_one (ps_ret (pe_ix ix_list (pv 0) (pv 1) (fun _ _ => rfl))))
        pss_nil)
      (pss_one (ps_ret pe_int))), ?_⟩
    walk_at "r"
    refine ite2 (fun z => ?_) fun z => ?_
    · have z' : k < ns.length := by simpa using z
      have hk : k.toNat < ns.length := by omega
      have hi : atI (ns.map V.int) k = some (.int ns[k.toNat]) := by
        have := atI_nat (xs := ns.map V.int) (j := k.toNat) (v := V.int ns[k.toNat]) (by simp [hk])
        rwa [Int.toNat_of_nonneg h0] at this
      walk_at "r"; exact q _
    · exact q 0
def sp_mix62 : Sp := fun vs H Q _ => ∃ d k, vs = [.int d, .int k] ∧ 0 ≤ k ∧ k ≤ 200 ∧ ∀ m, 0 ≤ m → m < 2147483629 → Q (.int m) H
theorem D__law_mixed (T : Txt K mg C_Roll C_Rule C_Book C_BookError C_NoNumber C_NoRule C_Backward C_NoName C_NoMark C_NoText) : DefOk P w K mg base 1 "_law_mixed" ["_law_draw", "_law_k"] sp_mix62 := by
  obtain ⟨f, fd, F, hm⟩ := T.f__law_mixed
  have nd := sc__law_mixed.nd
  refine F.def_ hm (F.ok sc__law_mixed (fun vs H Q E h => ?_) (fun cdv A outer s H vs Q E hr h => ?_)) (F.binds fun _ _ _ _ _ _ us hl => by obtain ⟨_, _, rfl⟩ := L2.lq2 hl; rfl)
  · obtain ⟨d, k, rfl, _⟩ := h; rfl
  · obtain ⟨d, k, rfl, h1, h2, q⟩ := h
    refine ⟨_, (pss_cons (ps_set (i := 2) nd rfl (Or.inl rfl) (pe_op op_mod (pe_op op_mul (pe_op op_add (pe_op op_add (pe_op op_mod (pv 0) pe_int) (pe_op op_mul pe_int (pv 1))) pe_int) pe_int) pe_int))
      (pss_one (ps_ret (pe_op op_mod (pe_op op_mul (pv 2) (pe_op op_add (pe_op op_fdiv (pv 2) pe_int) pe_int)) pe_int)))), ?_⟩
    have m1 : 0 ≤ d % 2147483629 ∧ d % 2147483629 < 2147483629 := by omega
    walk_at "r"
    exact q _ (by omega) (by omega)
def sp_lmark : Sp := fun vs H Q _ => ∃ d k, vs = [.int d, .int k] ∧ ∀ (x : List Nat) H', Same H H' → SmallW 8 x → Q (.str (S x)) H'
theorem w_abc : (Str.ofString "abcdefghijklmnopqrstuvwxyz") = S [97, 98, 99, 100, 101, 102, 103, 104, 105, 106, 107, 108, 109, 110, 111, 112, 113, 114, 115, 116, 117, 118, 119, 120, 121, 122] := by decide +kernel
theorem abc_at {i : Int} (h0 : 0 ≤ i) (h1 : i < 26) : ∃ c, [97, 98, 99, 100, 101, 102, 103, 104, 105, 106, 107, 108, 109, 110, 111, 112, 113, 114, 115, 116, 117, 118, 119, 120, 121, 122][i.toNat]? = some c ∧ 97 ≤ c ∧ c ≤ 122 :=
  ⟨_, List.getElem?_eq_getElem (by simp; omega), (by decide : ∀ c ∈ [97, 98, 99, 100, 101, 102, 103, 104, 105, 106, 107, 108, 109, 110, 111, 112, 113, 114, 115, 116, 117, 118, 119, 120, 121, 122], 97 ≤ c ∧ c ≤ 122) _ (List.getElem_mem _)⟩
theorem join_one : ∀ cs : List Nat, joinL [] (cs.map fun c => [c]) = cs
  | [] => rfl
  | [c] => rfl
  | c :: d :: cs => by
    have ih := join_one (d :: cs)
    show [c] ++ [] ++ joinL [] ((d :: cs).map fun c => [c]) = _
    rw [ih]; rfl
theorem sum_one : ∀ cs : List Nat, ((cs.map fun c => [c]).map List.length).sum = cs.length
  | [] => rfl
  | c :: cs => by
    have ih := sum_one cs
    simp only [List.map_cons, List.sum_cons, List.length_cons, List.length_nil] at ih ⊢
    omega
theorem D__law_mark (T : Txt K mg C_Roll C_Rule C_Book C_BookError C_NoNumber C_NoRule C_Backward C_NoName C_NoMark C_NoText) : DefOk P w K mg base 2 "_law_mark" ["_law_draw", "_law_k"] sp_lmark := by
  obtain ⟨f, fd, F, hm⟩ := T.f__law_mark
  have nd := sc__law_mark.nd
  refine F.def_ hm (F.ok sc__law_mark (fun vs H Q E h => ?_) (fun cdv A outer s H vs Q E hr h => ?_)) (F.binds fun _ _ _ _ _ _ us hl => by obtain ⟨_, _, rfl⟩ := L2.lq2 hl; rfl)
  · obtain ⟨d, k, rfl, _⟩ := h; rfl
  · obtain ⟨d, k, rfl, q⟩ := h
    refine ⟨_, (pss_cons (ps_set (i := 2) nd rfl (Or.inr rfl) pe_str)
      (pss_cons (ps_set (i := 3) nd rfl (Or.inl rfl) (pe_op op_mod (pe_fn (D__law_mixed T) (hr.mono (by decide)) rfl (pa_cons (pv 0) (pa_cons pe_int pa_nil))) pe_int))
      (pss_cons (ps_set (i := 4) nd rfl (Or.inl rfl) (pe_bm PySem.F.plainAttrs_str PySem.F.slot_str_join PySem.F.type_str_join mt_join pe_str (pa_cons (pe_lc (vars := ["_law_j"]) (frees := ["_law_some", "_law_draw"]) (fv := [2, 0]) rfl (lcOk rfl rfl (by decide +kernel) (by decide +kernel) (by intro p hp; simp only [List.mem_cons, List.not_mem_nil, or_false] at hp; rcases hp with rfl | rfl <;> rfl) rfl) ⟨⟨rfl, .inl rfl, rfl, .inl rfl⟩, ⟨⟨rfl, .inl rfl, rfl, .inl rfl⟩, trivial⟩⟩ (pi_range1 rfl T.b_range (pa_cons (pv 3) pa_nil)) (gk_name (by decide)) (fun _ _ _ _ => (pg_name (i := 0) (show (["_law_j", "_law_some", "_law_draw"] : List Str).Nodup by decide +kernel) rfl (Or.inl rfl))) (fun _ _ _ _ => pif_none) (fun _ _ _ _ => (pe_ixS (pv 1) (pe_op op_mod (pe_fn (D__law_mixed T) (hr.mono (by decide)) rfl (pa_cons (pv 2) (pa_cons (pe_op op_add pe_int (pv 0)) pa_nil))) pe_int) (fun _ _ => rfl)))) pa_nil)))
      (pss_cons (ps_set (i := 5) nd rfl (Or.inl rfl) (pe_op op_mod (pe_fn (D__law_mixed T) (hr.mono (by decide)) rfl (pa_cons (pv 0) (pa_cons pe_int pa_nil))) (pe_op op_add (pv 3) pe_int)))
      (pss_one (ps_ret (pe_op op_add_str (pe_op op_add_str (pe_slice sl_str (pv 4) po_none (po_some (pv 5))) (pe_ixS (pv 2) (pe_op op_mod (pe_op op_add (pe_op op_fdiv (pv 0) pe_int) (pe_op op_mul pe_int (pv 1))) pe_int) (fun _ _ => rfl))) (pe_slice sl_str (pv 4) (po_some (pv 5)) po_none)))))))), ?_⟩
    rw [w_abc]
    walk_at "r"
    intro m m0 m1
    walk_at "r"
    have m8 : 0 ≤ m % 8 ∧ m % 8 < 8 := by omega
    refine lc_rangeN (n := (m % 8).toNat) (fun i ys H2 => Same H H2 ∧ ∃ cs : List Nat, cs.length = i ∧ (∀ c ∈ cs, 97 ≤ c ∧ c ≤ 122) ∧ ys = cs.map fun c => V.str (S [c])) (sz20 (by omega)) ⟨Same.refl _, [], rfl, by simp, rfl⟩ (fun i ys H2 h2 => by obtain ⟨_, cs, h3, _, h4⟩ := h2; rw [h4, List.length_map, h3]; exact Nat.le_refl _) ?_ ?_
    · rintro i ys H2 hi ⟨s2, cs, hl, hc, rfl⟩
      refine gname_ (yes_ (iteT ?_))
      walk_at "r"
      intro a a0 a1
      have a26 : 0 ≤ a % 26 ∧ a % 26 < 26 := by omega
      obtain ⟨c, hca, hcb⟩ := abc_at a26.1 a26.2
      walk_at "r"
      refine ⟨_, _, c, rfl, rfl, a26.1, by omega, hca, ?_⟩
      refine ⟨s2, cs ++ [c], by simp [hl], fun x hx => ?_, by simp⟩
      rcases List.mem_append.mp hx with z | z
      · exact hc x z
      · rw [List.mem_singleton.mp z]; exact hcb
    · rintro ys H2 p H3 ⟨s2, cs, hl, hc, rfl⟩ n3
      rw [w_empty]
      have e3 : H3 p = some (.lst ((cs.map fun c => [c]).map fun q => V.str (S q))) := by rw [List.map_map]; exact n3.at_
      refine ⟨[], cs.map fun c => [c], p, rfl, rfl, SqL.of e3, by rw [sum_one]; simp; omega, ?_⟩
      rw [join_one]
      have s3 := s2.trans n3.same
      walk_at "r"
      intro b b0 b1
      obtain ⟨j, hj⟩ := Int.eq_ofNat_of_zero_le (Int.emod_nonneg b (show (m % 8 + 1) ≠ 0 by omega))
      have hj1 := Int.emod_lt_of_pos b (show (0 : Int) < m % 8 + 1 by omega)
      rw [hj] at hj1
      have lj : j ≤ cs.length := by omega
      have lc8 : cs.length ≤ 7 := by omega
      have d26 : 0 ≤ (d / 3 + 7 * k) % 26 ∧ (d / 3 + 7 * k) % 26 < 26 := by omega
      obtain ⟨c, hca, hcb⟩ := abc_at d26.1 d26.2
      walk_at "r"
      rw [hj, sl_take cs lj]
      refine ⟨sz20 (by rw [S_len, List.length_take]; omega), ?_⟩
      walk_at "r"
      refine ⟨_, _, c, rfl, rfl, d26.1, by omega, hca, ?_⟩
      walk_at "r"
      refine ⟨sz20 (by rw [S_len, S_len, List.length_take]; simp; omega), ?_⟩
      rw [S_cat]
      walk_at "r"
      rw [sl_drop cs j]
      refine ⟨sz20 (by rw [S_len, List.length_drop]; omega), ?_⟩
      walk_at "r"
      refine ⟨sz20 (by rw [S_len, S_len]; simp; omega), ?_⟩
      rw [S_cat]
      refine q _ _ s3 ⟨by simp; omega, by simp; omega, fun x hx => ?_⟩
      rcases List.mem_append.mp hx with z | z
      · rcases List.mem_append.mp z with z | z
        · exact hc x (List.mem_of_mem_take z)
        · rw [List.mem_singleton.mp z]; exact hcb
      · exact hc x (List.mem_of_mem_drop z)
def sp_lname : Sp := fun vs H Q _ => ∃ d k, vs = [.int d, .int k] ∧ ∀ (x : List Nat) H', Same H H' → SmallW 12 x → Q (.str (S x)) H'
theorem D__law_name (T : Txt K mg C_Roll C_Rule C_Book C_BookError C_NoNumber C_NoRule C_Backward C_NoName C_NoMark C_NoText) : DefOk P w K mg base 2 "_law_name" ["_law_draw", "_law_k"] sp_lname := by
  obtain ⟨f, fd, F, hm⟩ := T.f__law_name
  have nd := sc__law_name.nd
  refine F.def_ hm (F.ok sc__law_name (fun vs H Q E h => ?_) (fun cdv A outer s H vs Q E hr h => ?_)) (F.binds fun _ _ _ _ _ _ us hl => by obtain ⟨_, _, rfl⟩ := L2.lq2 hl; rfl)
  · obtain ⟨d, k, rfl, _⟩ := h; rfl
  · obtain ⟨d, k, rfl, q⟩ := h
    refine ⟨_, (pss_cons (ps_set (i := 2) nd rfl (Or.inr rfl) pe_str)
      (pss_cons (ps_set (i := 3) nd rfl (Or.inl rfl) (pe_op op_mod (pe_fn (D__law_mixed T) (hr.mono (by decide)) rfl (pa_cons (pv 0) (pa_cons pe_int pa_nil))) pe_int))
      (pss_cons (ps_set (i := 4) nd rfl (Or.inl rfl) (pe_bm PySem.F.plainAttrs_str PySem.F.slot_str_join PySem.F.type_str_join mt_join pe_str (pa_cons (pe_lc (vars := ["_law_j"]) (frees := ["_law_some", "_law_draw"]) (fv := [2, 0]) rfl (lcOk rfl rfl (by decide +kernel) (by decide +kernel) (by intro p hp; simp only [List.mem_cons, List.not_mem_nil, or_false] at hp; rcases hp with rfl | rfl <;> rfl) rfl) ⟨⟨rfl, .inl rfl, rfl, .inl rfl⟩, ⟨⟨rfl, .inl rfl, rfl, .inl rfl⟩, trivial⟩⟩ (pi_range1 rfl T.b_range (pa_cons (pv 3) pa_nil)) (gk_name (by decide)) (fun _ _ _ _ => (pg_name (i := 0) (show (["_law_j", "_law_some", "_law_draw"] : List Str).Nodup by decide +kernel) rfl (Or.inl rfl))) (fun _ _ _ _ => pif_none) (fun _ _ _ _ => (pe_ixS (pv 1) (pe_op op_mod (pe_fn (D__law_mixed T) (hr.mono (by decide)) rfl (pa_cons (pv 2) (pa_cons (pe_op op_add pe_int (pv 0)) pa_nil))) pe_int) (fun _ _ => rfl)))) pa_nil)))
      (pss_cons (ps_set (i := 5) nd rfl (Or.inl rfl) (pe_op op_mod (pe_fn (D__law_mixed T) (hr.mono (by decide)) rfl (pa_cons (pv 0) (pa_cons pe_int pa_nil))) (pe_op op_add (pv 3) pe_int)))
      (pss_one (ps_ret (pe_op op_add_str (pe_op op_add_str (pe_slice sl_str (pv 4) po_none (po_some (pv 5))) (pe_ixS (pv 2) (pe_op op_mod (pe_op op_add (pv 0) (pe_op op_mul pe_int (pv 1))) pe_int) (fun _ _ => rfl))) (pe_slice sl_str (pv 4) (po_some (pv 5)) po_none)))))))), ?_⟩
    rw [w_abc]
    walk_at "r"
    intro m m0 m1
    walk_at "r"
    have m12 : 0 ≤ m % 12 ∧ m % 12 < 12 := by omega
    refine lc_rangeN (n := (m % 12).toNat) (fun i ys H2 => Same H H2 ∧ ∃ cs : List Nat, cs.length = i ∧ (∀ c ∈ cs, 97 ≤ c ∧ c ≤ 122) ∧ ys = cs.map fun c => V.str (S [c])) (sz20 (by omega)) ⟨Same.refl _, [], rfl, by simp, rfl⟩ (fun i ys H2 h2 => by obtain ⟨_, cs, h3, _, h4⟩ := h2; rw [h4, List.length_map, h3]; exact Nat.le_refl _) ?_ ?_
    · rintro i ys H2 hi ⟨s2, cs, hl, hc, rfl⟩
      refine gname_ (yes_ (iteT ?_))
      walk_at "r"
      intro a a0 a1
      have a26 : 0 ≤ a % 26 ∧ a % 26 < 26 := by omega
      obtain ⟨c, hca, hcb⟩ := abc_at a26.1 a26.2
      walk_at "r"
      refine ⟨_, _, c, rfl, rfl, a26.1, by omega, hca, ?_⟩
      refine ⟨s2, cs ++ [c], by simp [hl], fun x hx => ?_, by simp⟩
      rcases List.mem_append.mp hx with z | z
      · exact hc x z
      · rw [List.mem_singleton.mp z]; exact hcb
    · rintro ys H2 p H3 ⟨s2, cs, hl, hc, rfl⟩ n3
      rw [w_empty]
      have e3 : H3 p = some (.lst ((cs.map fun c => [c]).map fun q => V.str (S q))) := by rw [List.map_map]; exact n3.at_
      refine ⟨[], cs.map fun c => [c], p, rfl, rfl, SqL.of e3, by rw [sum_one]; simp; omega, ?_⟩
      rw [join_one]
      have s3 := s2.trans n3.same
      walk_at "r"
      intro b b0 b1
      obtain ⟨j, hj⟩ := Int.eq_ofNat_of_zero_le (Int.emod_nonneg b (show (m % 12 + 1) ≠ 0 by omega))
      have hj1 := Int.emod_lt_of_pos b (show (0 : Int) < m % 12 + 1 by omega)
      rw [hj] at hj1
      have lj : j ≤ cs.length := by omega
      have lc8 : cs.length ≤ 11 := by omega
      have d26 : 0 ≤ (d + 5 * k) % 26 ∧ (d + 5 * k) % 26 < 26 := by omega
      obtain ⟨c, hca, hcb⟩ := abc_at d26.1 d26.2
      walk_at "r"
      rw [hj, sl_take cs lj]
      refine ⟨sz20 (by rw [S_len, List.length_take]; omega), ?_⟩
      walk_at "r"
      refine ⟨_, _, c, rfl, rfl, d26.1, by omega, hca, ?_⟩
      walk_at "r"
      refine ⟨sz20 (by rw [S_len, S_len, List.length_take]; simp; omega), ?_⟩
      rw [S_cat]
      walk_at "r"
      rw [sl_drop cs j]
      refine ⟨sz20 (by rw [S_len, List.length_drop]; omega), ?_⟩
      walk_at "r"
      refine ⟨sz20 (by rw [S_len, S_len]; simp; omega), ?_⟩
      rw [S_cat]
      refine q _ _ s3 ⟨by simp; omega, by simp; omega, fun x hx => ?_⟩
      rcases List.mem_append.mp hx with z | z
      · rcases List.mem_append.mp z with z | z
        · exact hc x (List.mem_of_mem_take z)
        · rw [List.mem_singleton.mp z]; exact hcb
      · exact hc x (List.mem_of_mem_drop z)
def sp_lsame : Sp := fun vs H Q _ => ∃ a b : Bool, vs = [.bl a, .bl b] ∧ Q (.bl (a == b)) H
theorem D__law_same (T : Txt K mg C_Roll C_Rule C_Book C_BookError C_NoNumber C_NoRule C_Backward C_NoName C_NoMark C_NoText) : DefOk P w K mg base 1 "_law_same" ["_law_found", "_law_due_here"] sp_lsame := by
  obtain ⟨f, fd, F, hm⟩ := T.f__law_same
  have nd := sc__law_same.nd
  refine F.def_ hm (F.ok sc__law_same (fun vs H Q E h => ?_) (fun cdv A outer s H vs Q E hr h => ?_)) (F.binds fun _ _ _ _ _ _ us hl => by obtain ⟨_, _, rfl⟩ := L2.lq2 hl; rfl)
  · obtain ⟨a, b, rfl, _⟩ := h; rfl
  · obtain ⟨a, b, rfl, q⟩ := h
    refine ⟨_, (pss_one (ps_ret (pe_and (pe_callB call_isi rfl T.b_isinstance bt_isinstance (pa_cons (pv 0) (pa_cons (pe_bltn (v := .ty "bool") rfl T.b_bool bt_bool rfl) pa_nil))) (pe_one (pe_cmpR op_eq (pv 0) (pv 1) (nomark _)))))), ?_⟩
    walk_at "r"
    rw [dec_bl]
    exact q
end
section
variable {P : Program} {w : World} {K : PySem.W.Frag} {mg : Str → Option Value} {base : Heap} {C_Roll C_Rule C_Book C_BookError C_NoNumber C_NoRule C_Backward C_NoName C_NoMark C_NoText : Addr}
theorem w_sig7 : (Str.ofString " -_.A1~") = S [32, 45, 95, 46, 65, 49, 126] := by decide +kernel
theorem sig7_at {i : Int} (h0 : 0 ≤ i) (h9 : i < 7) : ∃ d, [32, 45, 95, 46, 65, 49, 126][i.toNat]? = some d ∧ d < 1000 :=
  ⟨_, List.getElem?_eq_getElem (by simp; omega), (by decide : ∀ c ∈ [32, 45, 95, 46, 65, 49, 126], c < 1000) _ (List.getElem_mem _)⟩
theorem w_a13 : (Str.ofString "abcdefghijklm") = S [97, 98, 99, 100, 101, 102, 103, 104, 105, 106, 107, 108, 109] := by decide +kernel
def LowT (x : List Nat) : Prop := ∀ c ∈ x, c < 1000
theorem LowT.app {x y : List Nat} (h : LowT x) (g : LowT y) : LowT (x ++ y) := fun c hc => (List.mem_append.mp hc).elim (h c) (g c)
theorem LowT.tk {x : List Nat} (h : LowT x) (n : Nat) : LowT (x.take n) := fun c hc => h c (List.mem_of_mem_take hc)
theorem LowT.dr {x : List Nat} (h : LowT x) (n : Nat) : LowT (x.drop n) := fun c hc => h c (List.mem_of_mem_drop hc)
theorem SmallW.low {n : Int} {x : List Nat} (h : SmallW n x) : LowT x := fun c hc => by have := h.2.2 c hc; omega
def OdT (H : Hp) (v : V) : Prop := (∃ x, v = tS x ∧ x.length ≤ 3000 ∧ LowT x) ∨ v = .non ∨ (∃ i, v = .int i) ∨ ∃ p x, v = .ref p ∧ H p = some (.lst [tS x]) ∧ LowT x
theorem OdT.tv {H : Hp} {v : V} (h : OdT H v) : TextV H v := by
  rcases h with ⟨x, h, h1, _⟩ | h | h | ⟨p, x, e, h, _⟩
  · exact .inl ⟨x, h, h1⟩
  · exact .inr (.inl h)
  · exact .inr (.inr (.inl h))
  · exact .inr (.inr (.inr (.inr (.inr ⟨p, _, e, h⟩))))
theorem OdT.same {H H' : Hp} {v : V} (h : OdT H v) (s : Same H H') : OdT H' v := by
  rcases h with h | h | h | ⟨p, x, e, h, hl⟩
  · exact .inl h
  · exact .inr (.inl h)
  · exact .inr (.inr (.inl h))
  · exact .inr (.inr (.inr ⟨p, x, e, s _ _ h, hl⟩))
theorem at6o {i : Int} {a b c x : List Nat} {p : Addr} {H : Hp} (hp : H p = some (.lst [tS x])) (hx : LowT x) (ha : a.length ≤ 3000) (la : LowT a) (hb : b.length ≤ 3000) (lb : LowT b) (hc : c.length ≤ 3000) (lc : LowT c) (h0 : 0 ≤ i) (h1 : i < 6) : ∃ v, atI [tS a, tS b, tS c, V.non, V.int 7, V.ref p] i = some v ∧ OdT H v ∧ ∀ p', v = .ref p' → p' = p := by
  rcases (show i = 0 ∨ i = 1 ∨ i = 2 ∨ i = 3 ∨ i = 4 ∨ i = 5 by omega) with rfl | rfl | rfl | rfl | rfl | rfl
  · exact ⟨_, rfl, .inl ⟨_, rfl, ha, la⟩, fun _ z => by cases z⟩
  · exact ⟨_, rfl, .inl ⟨_, rfl, hb, lb⟩, fun _ z => by cases z⟩
  · exact ⟨_, rfl, .inl ⟨_, rfl, hc, lc⟩, fun _ z => by cases z⟩
  · exact ⟨_, rfl, .inr (.inl rfl), fun _ z => by cases z⟩
  · exact ⟨_, rfl, .inr (.inr (.inl ⟨_, rfl⟩)), fun _ z => by cases z⟩
  · exact ⟨_, rfl, .inr (.inr (.inr ⟨_, _, rfl, hp, hx⟩)), fun _ z => (V.ref.inj z).symm⟩
def sp_lodd : Sp := fun vs H Q _ => ∃ (x : List Nat) (d : Int), vs = [.str (S x), .int d] ∧ x.length ≤ 12 ∧ LowT x ∧ ∀ v H', Same H H' → OdT H' v → (∀ p, v = .ref p → H p = none) → Q v H'
theorem nrmB {F : St → Hp → Prop} {σ σ' : St} {H : Hp} (e : σ = σ') (h : F σ' H) : F σ H := e ▸ h
theorem D__law_odd (T : Txt K mg C_Roll C_Rule C_Book C_BookError C_NoNumber C_NoRule C_Backward C_NoName C_NoMark C_NoText) : DefOk P w K mg base 3 "_law_odd" ["_law_word", "_law_draw"] sp_lodd := by
  obtain ⟨f, fd, F, hm⟩ := T.f__law_odd
  have nd := sc__law_odd.nd
  refine F.def_ hm (F.ok sc__law_odd (fun vs H Q E h => ?_) (fun cdv A outer s H vs Q E hr h => ?_)) (F.binds fun _ _ _ _ _ _ us hl => by obtain ⟨_, _, rfl⟩ := L2.lq2 hl; rfl)
  · obtain ⟨x, d, rfl, _⟩ := h; rfl
  · obtain ⟨x, d, rfl, hx, hlx, q⟩ := h
    refine ⟨_, (pss_cons (ps_set (i := 2) nd rfl (Or.inl rfl) (pe_op op_mod (pe_fn (D__law_mixed T) (hr.mono (by decide)) rfl (pa_cons (pv 1) (pa_cons pe_int pa_nil))) (pe_op op_add (pe_callB call_lenS rfl T.b_len bt_len (pa_cons (pv 0) pa_nil)) pe_int)))
      (pss_cons (ps_set (i := 3) nd rfl (Or.inl rfl) (pe_ixS pe_str (pe_op op_mod (pe_fn (D__law_mixed T) (hr.mono (by decide)) rfl (pa_cons (pv 1) (pa_cons pe_int pa_nil))) pe_int) (fun _ _ => rfl)))
      (pss_cons (ps_set (i := 4) nd rfl (Or.inl rfl) (pe_lstN (pa_cons (pe_op op_add_str (pe_op op_add_str (pe_slice sl_str (pv 0) po_none (po_some (pv 2))) (pv 3)) (pe_slice sl_str (pv 0) (po_some (pv 2)) po_none)) (pa_cons (pe_op op_add_str (pv 0) (pe_slice sl_str pe_str po_none (po_some (pe_op op_sub pe_int (pe_callB call_lenS rfl T.b_len bt_len (pa_cons (pv 0) pa_nil)))))) (pa_cons pe_str (pa_cons pe_non (pa_cons pe_int (pa_cons (pe_lstN (pa_cons (pv 0) pa_nil)) pa_nil))))))))
      (pss_one (ps_ret (pe_ix ix_list (pv 4) (pe_op op_mod (pe_fn (D__law_mixed T) (hr.mono (by decide)) rfl (pa_cons (pv 1) (pa_cons pe_int pa_nil))) pe_int) (fun _ _ => rfl))))))), ?_⟩
    have hz := sz20 (show x.length ≤ 20000 by omega)
    rw [w_sig7, w_a13, w_empty]
    refine ⟨_, rfl, d, 5, rfl, by decide, by decide, fun m m0 m1 => ?_⟩
    obtain ⟨k, hk⟩ := Int.eq_ofNat_of_zero_le (Int.emod_nonneg m (show ((x.length : Int) + 1) ≠ 0 by omega))
    have hk1 := Int.emod_lt_of_pos m (show (0 : Int) < (x.length : Int) + 1 by omega)
    rw [hk] at hk1
    have lk : k ≤ x.length := by omega
    refine ⟨_, rfl, x, rfl, hz, _, _, rfl, rfl, _, _, rfl, rfl, by show (0 : Int) < (x.length : Int) + 1; omega, gname_ ?_⟩
    rw [hk]
    refine nrmB (σ' := [some (tS x), some (.int d), some (.int k), none, none]) rfl ?_
    refine ⟨_, rfl, d, 6, rfl, by decide, by decide, fun m3 m30 m31 => ?_⟩
    obtain ⟨c, hc, hc1⟩ := sig7_at (i := m3 % 7) (by omega) (by omega)
    refine ⟨_, _, rfl, rfl, by decide, _, _, c, rfl, rfl, (by omega), by omega, hc, gname_ ?_⟩
    refine nrmB (σ' := [some (tS x), some (.int d), some (.int k), some (tS [c]), none]) rfl ?_
    refine ⟨_, rfl, _, rfl, _, rfl, _, rfl, by rw [sl_take x lk, S_len, List.length_take]; exact sz20 (by omega), ?_⟩
    rw [sl_take x lk]
    refine ⟨_, rfl, _, _, rfl, rfl, sz20 (by rw [S_len, S_len, List.length_take]; simp; omega), ?_⟩
    rw [S_cat]
    refine ⟨_, rfl, _, rfl, _, rfl, _, rfl, by rw [sl_drop x k, S_len, List.length_drop]; exact sz20 (by omega), ?_⟩
    rw [sl_drop x k]
    refine ⟨_, _, rfl, rfl, sz20 (by rw [S_len, S_len]; simp; omega), ?_⟩
    rw [S_cat]
    obtain ⟨j, hj⟩ : ∃ j : Nat, (13 : Int) - (x.length : Int) = j := ⟨13 - x.length, by omega⟩
    have lj : j ≤ [97, 98, 99, 100, 101, 102, 103, 104, 105, 106, 107, 108, 109].length := by simp; omega
    refine ⟨_, rfl, _, rfl, x, rfl, hz, _, _, rfl, rfl, _, rfl, _, rfl, ?_⟩
    rw [hj, sl_take _ lj]
    refine ⟨sz20 (by rw [S_len, List.length_take]; omega), ?_⟩
    refine ⟨_, _, rfl, rfl, sz20 (by rw [S_len, S_len, List.length_take]; omega), ?_⟩
    rw [S_cat]
    refine ⟨_, rfl, sz20 (Nat.le_of_ble_eq_true rfl), fun p H1 n1 => ?_⟩
    refine ⟨sz20 (Nat.le_of_ble_eq_true rfl), fun p2 H2 n2 => gname_ ?_⟩
    refine nrmB (σ' := [some (tS x), some (.int d), some (.int k), some (tS [c]), some (.ref p2)]) rfl ?_
    refine ⟨_, rfl, _, rfl, d, 7, rfl, by decide, by decide, fun m4 m40 m41 => ?_⟩
    obtain ⟨v, hv, tv, tp⟩ := at6o (H := H2) (a := x.take k ++ [c] ++ x.drop k) (b := x ++ [97, 98, 99, 100, 101, 102, 103, 104, 105, 106, 107, 108, 109].take j) (c := []) (i := m4 % 6) (n2.same _ _ n1.at_) hlx (by simp; omega) (((hlx.tk k).app fun d hd => by rw [List.mem_singleton.mp hd]; exact hc1).app (hlx.dr k)) (by simp; omega) (hlx.app (LowT.tk (by decide : ∀ c ∈ [97, 98, 99, 100, 101, 102, 103, 104, 105, 106, 107, 108, 109], c < 1000) j)) (by simp) (by simp [LowT]) (by omega) (by omega)
    exact ⟨_, _, rfl, rfl, by decide, p2, _, _, _, rfl, rfl, SqL.of n2.at_, hv, q v H2 (n1.same.trans n2.same) tv fun p' e => tp p' e ▸ n1.fresh⟩
def sp_lgood : Sp := fun vs H Q _ => ∃ v n, vs = [v, .int n] ∧ TextV H v ∧ Q (.bl (smallB n v)) H
theorem D__law_good (T : Txt K mg C_Roll C_Rule C_Book C_BookError C_NoNumber C_NoRule C_Backward C_NoName C_NoMark C_NoText) : DefOk P w K mg base 1 "_law_good" ["_law_thing", "_law_most"] sp_lgood := by
  obtain ⟨f, fd, F, hm⟩ := T.f__law_good
  have nd := sc__law_good.nd
  refine F.def_ hm (F.ok sc__law_good (fun vs H Q E h => ?_) (fun cdv A outer s H vs Q E hr h => ?_)) (F.binds fun _ _ _ _ _ _ us hl => by obtain ⟨_, _, rfl⟩ := L2.lq2 hl; rfl)
  · obtain ⟨v, n, rfl, _⟩ := h; rfl
  · obtain ⟨v, n, rfl, hv, q⟩ := h
    refine ⟨_, (pss_cons (ps_if (PW.pt (pw_or (pt_not (pt_val (pe_callB call_isi rfl T.b_isinstance bt_isinstance (pa_cons (pv 0) (pa_cons (pe_bltn (v := .ty "str") rfl T.b_str bt_str rfl) pa_nil))))) (pw_or (pt_cmpR op_lt (pe_callB call_lenS rfl T.b_len bt_len (pa_cons (pv 0) pa_nil)) pe_int (nomark _)) (pw_or1 (pt_cmpR op_gt (pe_callB call_lenS rfl T.b_len bt_len (pa_cons (pv 0) pa_nil)) (pv 1) (nomark _))))))
        (pss_one (ps_ret pe_bl))
        pss_nil)
      (pss_cons (ps_for PassesOwn.never rfl (pi_str (pv 0)) (pg_name (i := 2) nd rfl (Or.inl rfl))
        (pss_one (ps_if (pt_cmpR op_notinS (pv 2) pe_str rfl)
        (pss_one (ps_ret pe_bl))
        pss_nil)))
      (pss_one (ps_ret pe_bl)))), ?_⟩
    rcases hv with ⟨x, rfl, hx⟩ | hv
    · have no : ¬ SmallW n x → Q (V.bl false) H := fun z => by
        rw [small_S, decide_eq_false z] at q
        exact q
      have hz := sz20 (show x.length ≤ 20000 by omega)
      refine ⟨_, rfl, _, _, _, _, rfl, .str _, kit_str K, _, rfl, iteF ?_⟩
      refine ⟨_, rfl, x, rfl, hz, _, _, rfl, rfl, _, rfl, ?_⟩
      by_cases l1 : (x.length : Int) < 1
      · rw [decide_eq_true l1]
        exact iteT (no fun h => by have := h.1; omega)
      rw [decide_eq_false l1]
      refine iteF ?_
      refine ⟨_, rfl, x, rfl, hz, _, rfl, _, _, rfl, rfl, _, rfl, ?_⟩
      by_cases l2 : n < (x.length : Int)
      · rw [decide_eq_true l2]
        exact iteT (no fun h => by have := h.2.1; omega)
      rw [decide_eq_false l2]
      refine iteF ?_
      refine ⟨_, rfl, _, rfl, for_str (x := x) (fun j σ H4 => H4 = H ∧ (∀ c ∈ x.take j, 97 ≤ c ∧ c ≤ 122) ∧ ∃ v2 : Option V, σ = [some (.str (S x)), some (.int n), v2]) ⟨rfl, by simp, _, rfl⟩ ?_ ?_⟩
      · rintro j c σ H4 hc ⟨rfl, hcs, v5, rfl⟩
        refine gname_ ?_
        refine ⟨_, rfl, c, _, rfl, rfl, _, rfl, ?_⟩
        rw [let_in]
        by_cases hlt : 97 ≤ c ∧ c ≤ 122
        · rw [decide_eq_true hlt]
          refine iteF ⟨rfl, fun d hd => ?_, _, rfl⟩
          rw [List.take_add_one, hc] at hd
          rcases List.mem_append.mp hd with y | y
          · exact hcs d y
          · rw [List.mem_singleton.mp y]; exact hlt
        · rw [decide_eq_false hlt]
          exact iteT (no fun g => hlt (g.2.2 c (List.mem_of_getElem? hc)))
      · rintro σ H4 ⟨rfl, hcs, v5, rfl⟩
        rw [List.take_length] at hcs
        rw [small_S, decide_eq_true (show SmallW n x from ⟨by omega, by omega, hcs⟩)] at q
        exact q
    · obtain ⟨t, ty, kt⟩ := OddV.ty (K := K) hv
      refine ⟨_, rfl, _, _, _, _, rfl, ty, kt, _, rfl, iteT ?_⟩
      rcases hv with rfl | ⟨i, rfl⟩ | ⟨b, rfl⟩ | ⟨p, xs, rfl, h⟩ | ⟨p, xs, rfl, h⟩ <;> exact q
theorem tv_small {H : Hp} {n : Int} {x : List Nat} (h : SmallW n x) (hn : n ≤ 3000) : OdT H (tS x) := .inl ⟨x, rfl, by have := h.2.1; omega, h.low⟩
theorem seqJ {s u : TS} {D : Ends} {σ : St} {H : Hp} (J : St → Hp → Prop) (h1 : ∀ N : St → Hp → Prop, (∀ σ' H', J σ' H' → N σ' H') → s { D with nx := N } σ H) (h2 : ∀ σ' H', J σ' H' → u D σ' H') : tSeq s u D σ H := h1 (u D) h2
def TvN (l : Addr) (H : Hp) (u : V) : Prop := OdT H u ∧ ∀ p, u = .ref p → p ≠ l
theorem TvN.same {l : Addr} {H H' : Hp} {u : V} (h : TvN l H u) (s : Same H H') : TvN l H' u := ⟨h.1.same s, h.2⟩
theorem TvN.but {l : Addr} {H H' : Hp} {u : V} (h : TvN l H u) (b : But l H H') : TvN l H' u := by
  refine ⟨?_, h.2⟩
  rcases h.1 with z | z | z | ⟨p, x, e, z, lx⟩
  · exact .inl z
  · exact .inr (.inl z)
  · exact .inr (.inr (.inl z))
  · exact .inr (.inr (.inr ⟨p, x, e, b _ _ z (h.2 p e), lx⟩))
theorem tvn_small {l : Addr} {H : Hp} {n : Int} {x : List Nat} (h : SmallW n x) (hn : n ≤ 3000) : TvN l H (tS x) := ⟨tv_small h hn, fun _ z => by cases z⟩
def sp_lmks : Sp := fun vs H Q _ => ∃ d, vs = [.int d] ∧ ∀ l us H', Same H H' → H l = none → H' l = some (.lst us) → (∀ u ∈ us, TvN l H' u) → us.length ≤ 12 → Q (.ref l) H'
def MkJ (H : Hp) (d m w : Int) (lo hi : Nat) (σ : St) (H' : Hp) : Prop := ∃ (l : Addr) (us : List V), Same H H' ∧ H l = none ∧ H' l = some (.lst us) ∧ (∀ u ∈ us, TvN l H' u) ∧ lo ≤ us.length ∧ us.length ≤ hi ∧ σ = [some (.int d), some (.int m), some (.ref l), some (.int w)]
theorem D__law_marks (T : Txt K mg C_Roll C_Rule C_Book C_BookError C_NoNumber C_NoRule C_Backward C_NoName C_NoMark C_NoText) : DefOk P w K mg base 4 "_law_marks" ["_law_draw"] sp_lmks := by
  obtain ⟨f, fd, F, hm⟩ := T.f__law_marks
  have nd := sc__law_marks.nd
  refine F.def_ hm (F.ok sc__law_marks (fun vs H Q E h => ?_) (fun cdv A outer s H vs Q E hr h => ?_)) (F.binds fun _ _ _ _ _ _ us hl => by obtain ⟨_, rfl⟩ := L2.lq1 hl; rfl)
  · obtain ⟨d, rfl, _⟩ := h; rfl
  · obtain ⟨d, rfl, q⟩ := h
    refine ⟨_, (pss_cons (ps_set (i := 1) nd rfl (Or.inl rfl) (pe_op op_mod (pe_fn (D__law_mixed T) (hr.mono (by decide)) rfl (pa_cons (pv 0) (pa_cons pe_int pa_nil))) pe_int))
      (pss_cons (ps_setLC (i := 2) (vars := ["_law_k"]) (frees := ["_law_draw"]) (fv := [0]) nd rfl (Or.inl rfl) rfl (lcOk rfl rfl (by decide +kernel) (by decide +kernel) (by intro p hp; simp only [List.mem_cons, List.not_mem_nil, or_false] at hp; rcases hp with rfl <;> rfl) rfl) ⟨⟨rfl, .inl rfl, rfl, .inl rfl⟩, trivial⟩ (pi_range1 rfl T.b_range (pa_cons (pv 1) pa_nil)) (gk_name (by decide)) (fun _ _ _ _ => (pg_name (i := 0) (show (["_law_k", "_law_draw"] : List Str).Nodup by decide +kernel) rfl (Or.inl rfl))) (fun _ _ _ _ => pif_none) (fun _ _ _ _ => (pe_fn (D__law_mark T) (hr.mono (by decide)) rfl (pa_cons (pv 1) (pa_cons (pe_op op_mod (pe_fn (D__law_mixed T) (hr.mono (by decide)) rfl (pa_cons (pv 1) (pa_cons (pe_op op_add pe_int (pv 0)) pa_nil))) pe_int) pa_nil)))))
      (pss_cons (ps_set (i := 3) nd rfl (Or.inl rfl) (pe_op op_mod (pe_fn (D__law_mixed T) (hr.mono (by decide)) rfl (pa_cons (pv 0) (pa_cons pe_int pa_nil))) pe_int))
      (pss_cons (ps_if (PW.pt (pw_and (pt_cmpR op_eq (pv 3) pe_int (nomark _)) (pw_and1 (pt_cmpR op_gt (pv 1) pe_int (nomark _)))))
        (pss_one (ps_expr (pe_bm PySem.F.plainAttrs_list PySem.F.slot_list_append PySem.F.type_list_append mt_appendN (pv 2) (pa_cons (pe_ix ix_list (pv 2) pe_int (fun _ _ => rfl)) pa_nil))))
        pss_nil)
      (pss_cons (ps_if (pt_cmpR op_eq (pv 3) pe_int (nomark _))
        (pss_one (ps_expr (pe_bm PySem.F.plainAttrs_list PySem.F.slot_list_insert PySem.F.type_list_insert mt_insertN (pv 2) (pa_cons (pe_op op_mod (pe_fn (D__law_mixed T) (hr.mono (by decide)) rfl (pa_cons (pv 0) (pa_cons pe_int pa_nil))) (pe_op op_add (pv 1) pe_int)) (pa_cons (pe_fn (D__law_odd T) (hr.mono (by decide)) rfl (pa_cons (pe_fn (D__law_mark T) (hr.mono (by decide)) rfl (pa_cons (pv 0) (pa_cons pe_int pa_nil))) (pa_cons (pv 0) pa_nil))) pa_nil)))))
        pss_nil)
      (pss_cons (ps_if (pt_cmpR op_eq (pv 3) pe_int (nomark _))
        (pss_one (ps_setLC (i := 2) (vars := ["_law_k"]) (frees := ["_law_draw"]) (fv := [0]) nd rfl (Or.inl rfl) rfl (lcOk rfl rfl (by decide +kernel) (by decide +kernel) (by intro p hp; simp only [List.mem_cons, List.not_mem_nil, or_false] at hp; rcases hp with rfl <;> rfl) rfl) ⟨⟨rfl, .inl rfl, rfl, .inl rfl⟩, trivial⟩ (pi_range1 rfl T.b_range (pa_cons (pe_op op_add pe_int (pe_op op_mod (pv 0) pe_int)) pa_nil)) (gk_name (by decide)) (fun _ _ _ _ => (pg_name (i := 0) (show (["_law_k", "_law_draw"] : List Str).Nodup by decide +kernel) rfl (Or.inl rfl))) (fun _ _ _ _ => pif_none) (fun _ _ _ _ => (pe_fn (D__law_mark T) (hr.mono (by decide)) rfl (pa_cons (pv 1) (pa_cons (pv 0) pa_nil))))))
        pss_nil)
      (pss_one (ps_ret (pv 2))))))))), ?_⟩
    refine ⟨_, rfl, d, 8, rfl, by decide, by decide, fun m m0 m1 => ?_⟩
    have m4 : 0 ≤ m % 4 ∧ m % 4 < 4 := by omega
    refine ⟨_, _, rfl, rfl, by decide, gname_ ?_⟩
    generalize m % 4 = m' at m4
    refine nrmB (σ' := [some (.int d), some (.int m'), none, none]) rfl ?_
    refine ⟨_, rfl, m', rfl, by omega, by omega, lc_rangeN (n := m'.toNat) (fun i ys H2 => Same H H2 ∧ ys.length = i ∧ ∀ u ∈ ys, ∃ x, u = tS x ∧ SmallW 8 x) (sz20 (by omega)) ⟨Same.refl _, rfl, by simp⟩ (fun i ys H2 h2 => by rw [h2.2.1]; exact Nat.le_refl _) ?_ ?_⟩
    · rintro i ys H2 hi ⟨s2, hl, hy⟩
      refine gname_ (yes_ (iteT ?_))
      refine ⟨_, rfl, _, rfl, _, rfl, _, _, rfl, rfl, d, _, rfl, by omega, by omega, fun a a0 a1 => ?_⟩
      refine ⟨_, _, rfl, rfl, by decide, d, _, rfl, fun x H3 s3 hx => ?_⟩
      refine ⟨s2.trans s3, by simp [hl], fun u hu => ?_⟩
      rcases List.mem_append.mp hu with z | z
      · exact hy u z
      · rw [List.mem_singleton.mp z]; exact ⟨x, rfl, hx⟩
    · rintro us H2 l H3 ⟨s2, hl, hy⟩ n3
      refine gname_ (nrmB (σ' := [some (.int d), some (.int m'), some (.ref l), none]) rfl ?_)
      refine ⟨_, rfl, d, 15, rfl, by decide, by decide, fun w w0 w1 => ?_⟩
      refine ⟨_, _, rfl, rfl, by decide, gname_ ?_⟩
      generalize w % 9 = w
      refine nrmB (σ' := [some (.int d), some (.int m'), some (.ref l), some (.int w)]) rfl ?_
      have s03 := s2.trans n3.same
      have fl := s2.free n3.fresh
      have hy3 : ∀ u ∈ us, TvN l H3 u := fun u hu => by obtain ⟨x, e, hx⟩ := hy u hu; rw [e]; exact tvn_small hx (by decide)
      have j0 : MkJ H d m' w m'.toNat 4 [some (.int d), some (.int m'), some (.ref l), some (.int w)] H3 := ⟨l, us, s03, fl, n3.at_, hy3, by omega, by omega, rfl⟩
      dsimp only
      refine seqJ (MkJ H d m' w m'.toNat 4) (fun N hN => ?_) ?_
      · refine ⟨_, rfl, rfl, _, rfl, ?_⟩
        refine ite2 (fun z => ?_) fun z => iteF (hN _ _ j0)
        refine ⟨_, rfl, _, _, rfl, rfl, _, rfl, ?_⟩
        refine ite2 (fun z2 => ?_) fun z2 => hN _ _ j0
        have p1 : 0 < m' := of_decide_eq_true z2
        cases us with
        | nil => simp at hl; omega
        | cons u us =>
          refine ⟨_, rfl, .inl ⟨rfl, _, SqL.of n3.at_⟩, _, rfl, l, _, _, _, rfl, rfl, SqL.of n3.at_, atI_nat (j := 0) rfl, l, _, _, rfl, rfl, n3.at_, ?_, fun H4 b4 h4 => hN _ _ ?_⟩
          · have : (u :: us).length < 20000 := by omega
            rw [sizeLine_eq]; omega
          · refine ⟨l, _, b4.same s03 fl, fl, h4, fun v hv => ?_, by simp at hl ⊢; omega, by simp at hl ⊢; omega, rfl⟩
            rcases List.mem_append.mp hv with y | y
            · exact (hy3 v y).but b4
            · rw [List.mem_singleton.mp y]; exact (hy3 u List.mem_cons_self).but b4
      · rintro σ H4 ⟨l, us, s4, fl, h4, ty, lo, hi, rfl⟩
        refine seqJ (MkJ H d m' w 0 5) (fun N hN => ?_) ?_
        · refine ⟨_, rfl, rfl, _, rfl, ?_⟩
          refine ite2 (fun z => ?_) fun z => hN _ _ ⟨l, us, s4, fl, h4, ty, Nat.zero_le _, by omega, rfl⟩
          refine ⟨_, rfl, .inl ⟨rfl, _, SqL.of h4⟩, _, rfl, d, 16, rfl, by decide, by decide, fun a a0 a1 => ?_⟩
          obtain ⟨k, hk⟩ := Int.eq_ofNat_of_zero_le (Int.emod_nonneg a (show (m' + 1) ≠ 0 by omega))
          have hk1 := Int.emod_lt_of_pos a (show (0 : Int) < m' + 1 by omega)
          refine ⟨_, rfl, _, _, rfl, rfl, _, _, rfl, rfl, by show (0 : Int) < m' + 1; omega, ?_⟩
          rw [hk] at hk1 ⊢
          refine ⟨_, rfl, d, 3, rfl, fun x H5 s5 hx => ?_⟩
          refine ⟨_, rfl, x, d, rfl, by have := hx.2.1; omega, hx.low, fun v H6 s6 tv tp => ?_⟩
          have s46 := s5.trans s6
          refine ⟨l, us, k, v, rfl, rfl, s46 _ _ h4, by omega, by omega, fun H7 b7 h7 => hN _ _ ?_⟩
          refine ⟨l, _, b7.same (s4.trans s46) fl, fl, h7, fun u hu => ?_, Nat.zero_le _, by simp; omega, rfl⟩
          rcases List.mem_append.mp hu with y | y
          · exact ((ty u (List.mem_of_mem_take y)).same s46).but b7
          · rcases List.mem_cons.mp y with rfl | y
            · exact TvN.but ⟨tv, fun p e z => by have := tp p e; rw [z, s5 _ _ h4] at this; cases this⟩ b7
            · exact ((ty u (List.mem_of_mem_drop y)).same s46).but b7
        · rintro σ H5 ⟨l, us, s5, fl, h5, ty, lo, hi, rfl⟩
          refine seqJ (MkJ H d m' w 0 12) (fun N hN => ?_) ?_
          · refine ⟨_, rfl, rfl, _, rfl, ?_⟩
            refine ite2 (fun z => ?_) fun z => hN _ _ ⟨l, us, s5, fl, h5, ty, Nat.zero_le _, by omega, rfl⟩
            refine ⟨_, rfl, _, _, rfl, rfl, by decide, _, _, rfl, rfl, _, rfl, by omega, by omega, lc_rangeN (n := (8 + d % 2).toNat) (fun i ys H2 => Same H5 H2 ∧ ys.length = i ∧ ∀ u ∈ ys, ∃ x, u = tS x ∧ SmallW 8 x) (sz20 (by omega)) ⟨Same.refl _, rfl, by simp⟩ (fun i ys H2 h2 => by rw [h2.2.1]; exact Nat.le_refl _) ?_ ?_⟩
            · rintro i ys H2 hi ⟨s2, hl, hy⟩
              refine gname_ (yes_ (iteT ?_))
              refine ⟨_, rfl, _, rfl, d, _, rfl, fun x H3 s3 hx => ?_⟩
              refine ⟨s2.trans s3, by simp [hl], fun u hu => ?_⟩
              rcases List.mem_append.mp hu with z | z
              · exact hy u z
              · rw [List.mem_singleton.mp z]; exact ⟨x, rfl, hx⟩
            · rintro us H2 l H3 ⟨s2, hl, hy⟩ n3
              refine gname_ (hN _ _ ⟨l, us, s5.trans (s2.trans n3.same), (s5.trans s2).free n3.fresh, n3.at_, fun u hu => ?_, Nat.zero_le _, by omega, rfl⟩)
              obtain ⟨x, e, hx⟩ := hy u hu
              rw [e]; exact tvn_small hx (by decide)
          · rintro σ H6 ⟨l, us, s6, fl, h6, ty, lo, hi, rfl⟩
            exact ⟨_, rfl, q l us H6 s6 fl h6 ty (by omega)⟩
end
section
variable {P : Program} {w : World} {K : PySem.W.Frag} {mg : Str → Option Value} {base : Heap} {C_Roll C_Rule C_Book C_BookError C_NoNumber C_NoRule C_Backward C_NoName C_NoMark C_NoText : Addr}
theorem in_txT (w : List Nat) (ms : List (List Nat)) : inV (tS w) (ms.map tS) = decide (w ∈ ms) := by
  unfold inV
  rw [Bool.eq_iff_iff, List.any_eq_true, decide_eq_true_iff]
  constructor
  · rintro ⟨v, hv, e⟩
    obtain ⟨m, hm, rfl⟩ := List.mem_map.mp hv
    have e2 : S m = S w := beq_iff_eq.mp e
    rw [← S_inj e2]; exact hm
  · intro h
    exact ⟨tS w, List.mem_map.mpr ⟨w, h, rfl⟩, beq_iff_eq.mpr rfl⟩
theorem flat_txT (ms : List (List Nat)) : (ms.map tS).all flatV = true := List.all_eq_true.mpr fun v hv => by
  obtain ⟨m, _, rfl⟩ := List.mem_map.mp hv
  rfl
def BadN (E : Rows) (v : V) : Prop := smallB 12 v = false ∨ IsIn E v
theorem bad_no {E : Rows} {x : List Nat} (h : SmallW 12 x) (hx : x ∉ E.map (·.1)) : ¬ BadN E (tS x) := by
  rintro (z | ⟨y, e, _, hy⟩)
  · rw [small_S, decide_eq_true h] at z; cases z
  · exact hx (tS_inj e ▸ hy)
inductive sp_ldue61 (vs : List V) (H : Hp) (Q : VK) (E_ : XK) : Prop
  | mk : ∀ (dk l : Addr) (kvs : List (Key × V)) (E : Rows) (v : V) (us : List V), vs = [.ref dk, v, .ref l] → H dk = some (.dK kvs) → (Ents (fun v ms => TxtL H v ms) kvs E) → TextV H v → H l = some (.lst us) → (∀ u ∈ us, TextV H u) → us.length ≤ 60 → (BadN E v → ∀ H', Same H H' → Q (.str "name") H') → (¬ BadN E v → ¬ MarksOk us → ∀ H', Same H H' → Q (.str "mark") H') → (¬ BadN E v → MarksOk us → ∀ H', Same H H' → Q (.str "") H') → sp_ldue61 vs H Q E_
theorem D__law_due (T : Txt K mg C_Roll C_Rule C_Book C_BookError C_NoNumber C_NoRule C_Backward C_NoName C_NoMark C_NoText) : DefOk P w K mg base 2 "_law_due" ["_law_kept_here", "_law_name_here", "_law_marks_here"] sp_ldue61 := by
  obtain ⟨f, fd, F, hm⟩ := T.f__law_due
  have nd := sc__law_due.nd
  refine F.def_ hm (F.ok sc__law_due (fun vs H Q E h => ?_) (fun cdv A outer s H vs Q E hr h => ?_)) (F.binds fun _ _ _ _ _ _ us hl => by obtain ⟨_, _, _, rfl⟩ := L2.lq3 hl; rfl)
  · obtain ⟨dk, l, kvs, E', v, us, rfl, _⟩ := h; rfl
  · obtain ⟨dk, l, kvs, E', v, us, rfl, hk, en, hv, hl, hu, hz, q1, q2, q3⟩ := h
    refine ⟨_, (pss_cons (ps_if (PW.pt (pw_or (pt_not (pt_val (pe_fn (D__law_good T) (hr.mono (by decide)) rfl (pa_cons (pv 1) (pa_cons pe_int pa_nil))))) (pw_or1 (pt_cmp (pc_din (hu_of hr) (pv 1) (pv 0))))))
        (pss_one (ps_ret pe_str))
        pss_nil)
      (pss_cons (ps_if (pt_cmpR op_gt (pe_callB call_len_seq rfl T.b_len bt_len (pa_cons (pv 2) pa_nil)) pe_int (nomark _))
        (pss_one (ps_ret pe_str))
        pss_nil)
      (pss_cons (ps_for PassesOwn.never rfl (pi_range1 rfl T.b_range (pa_cons (pe_callB call_len_seq rfl T.b_len bt_len (pa_cons (pv 2) pa_nil)) pa_nil)) (pg_name (i := 3) nd rfl (Or.inl rfl))
        (pss_one (ps_if (PW.pt (pw_or (pt_not (pt_val (pe_fn (D__law_good T) (hr.mono (by decide)) rfl (pa_cons (pe_ix ix_list (pv 2) (pv 3) (fun _ _ => rfl)) (pa_cons pe_int pa_nil))))) (pw_or1 (pt_cmpR op_in_seq (pe_ix ix_list (pv 2) (pv 3) (fun _ _ => rfl)) (pe_slice sl_listN (pv 2) po_none (po_some (pv 3))) rfl))))
        (pss_one (ps_ret pe_str))
        pss_nil)))
      (pss_one (ps_ret pe_str))))), ?_⟩
    refine ⟨_, rfl, v, 12, rfl, hv, _, rfl, ?_⟩
    cases hs : smallB 12 v with
    | false => exact iteT (q1 (.inl hs) H (Same.refl _))
    | true =>
      refine iteF ?_
      obtain ⟨x, rfl, hx⟩ := small_iff.mp hs
      refine ⟨_, rfl, _, rfl, dk, _, rfl, DGet.k (k := kS x) hk, _, rfl, ?_⟩
      by_cases hin : x ∈ E'.map (·.1)
      · obtain ⟨u, a, e1, _, _⟩ := en.has hin
        rw [e1]
        exact iteT (q1 (.inr ⟨x, rfl, hx, hin⟩) H (Same.refl _))
      rw [en.hasn hin]
      refine iteF ?_
      have nb := bad_no hx hin
      refine ⟨_, rfl, l, _, rfl, .inl (SqL.of hl), _, _, rfl, rfl, _, rfl, ?_⟩
      refine ite2 (fun z => ?_) fun z => ?_
      · refine q2 nb (fun m => ?_) H (Same.refl _)
        have := of_decide_eq_true z
        have := m.2.2
        omega
      have l8 : us.length ≤ 8 := by
        have := of_decide_eq_false (Bool.not_eq_true _ ▸ z)
        omega
      refine ⟨_, rfl, l, _, rfl, .inl (SqL.of hl), _, rfl, by omega, by omega, for_range (n := us.length) (fun i σ H2 => Same H H2 ∧ (∀ u ∈ us.take i, smallB 8 u = true) ∧ (us.take i).Nodup ∧ ∃ v4 : Option V, σ = [some (.ref dk), some (tS x), some (.ref l), v4]) ⟨Same.refl _, by simp, by simp, _, rfl⟩ ?_ ?_⟩
      · rintro i σ H2 hi ⟨s2, hg, nd', v4, rfl⟩
        rw [Int.zero_add]
        have hui : us[i]? = some us[i] := by simp [hi]
        have hum : us[i] ∈ us := List.getElem_mem hi
        generalize us[i] = u at hui hum
        refine gname_ ?_
        refine ⟨_, rfl, _, rfl, l, _, _, _, rfl, rfl, SqL.of (s2 _ _ hl), atI_nat hui, u, 8, rfl, (hu u hum).same s2, _, rfl, ?_⟩
        cases hsu : smallB 8 u with
        | false =>
          refine iteT (q2 nb (fun m => ?_) H2 s2)
          have := m.1 u hum
          rw [hsu] at this; cases this
        | true =>
          refine iteF ?_
          obtain ⟨y, rfl, hy⟩ := small_iff.mp hsu
          refine ⟨_, rfl, _, rfl, l, _, _, _, rfl, rfl, SqL.of (s2 _ _ hl), atI_nat hui, ?_⟩
          refine ⟨_, rfl, _, rfl, _, rfl, l, _, rfl, SqL.of (s2 _ _ hl), fun p H3 n3 => ?_⟩
          rw [cutTo us i (by omega)] at n3
          obtain ⟨ms, em, hms⟩ := texts_of hg
          have np := n3.at_
          rw [em] at np
          refine ⟨p, _, rfl, .inl (SqL.of np), rfl, flat_txT ms, _, rfl, ?_⟩
          rw [if_neg (by decide), in_txT]
          by_cases hm : y ∈ ms
          · rw [decide_eq_true hm]
            refine iteT (q2 nb (fun m => ?_) H3 (s2.trans n3.same))
            have n1 := m.2.1
            have : us.take (i + 1) = us.take i ++ [tS y] := by rw [List.take_add_one, hui]; rfl
            have n2 : (us.take (i + 1)).Nodup := n1.sublist (List.take_sublist _ _)
            rw [this, em, List.nodup_append] at n2
            exact n2.2.2 _ (List.mem_map.mpr ⟨y, hm, rfl⟩) _ (List.mem_singleton.mpr rfl) rfl
          · rw [decide_eq_false hm]
            have et : us.take (i + 1) = us.take i ++ [tS y] := by rw [List.take_add_one, hui]; rfl
            refine iteF ⟨s2.trans n3.same, fun u hu' => ?_, ?_, _, rfl⟩
            · rw [et] at hu'
              rcases List.mem_append.mp hu' with z | z
              · exact hg u z
              · rw [List.mem_singleton.mp z]; exact hsu
            · rw [et, em, List.nodup_append]
              rw [em] at nd'
              refine ⟨nd', by simp, fun a ha b hb e => ?_⟩
              obtain ⟨c, hc, rfl⟩ := List.mem_map.mp ha
              rw [List.mem_singleton.mp hb] at e
              exact hm (tS_inj e ▸ hc)
      · rintro σ H2 ⟨s2, hg, nd', v4, rfl⟩
        rw [List.take_length] at hg nd'
        exact q3 nb ⟨hg, nd', l8⟩ H2 s2
end
section
variable {P : Program} {w : World} {K : PySem.W.Frag} {mg : Str → Option Value} {base : Heap} {C_Roll C_Rule C_Book C_BookError C_NoNumber C_NoRule C_Backward C_NoName C_NoMark C_NoText : Addr}
inductive sp_ltold61 (C CR R : Addr) (vs : List V) (H : Hp) (Q : VK) (E_ : XK) : Prop
  | mk : ∀ (b l : Addr) (B : BookD) (E : Rows) (v : V) (us : List V) (bare : Bool), vs = [.ref b, v, .ref l, .bl bare] → BookAt C CR R H b B E → TextV H v → H l = some (.lst us) → (∀ u ∈ us, TextV H u) → us.length ≤ 60 → E.length ≤ 60 → (bare = true → us = []) → (BadN E v → ∀ H', Same H H' → Q (.str "name") H') → (¬ BadN E v → ¬ MarksOk us → ∀ H', Same H H' → Q (.str "mark") H') → (∀ x ms, v = tS x → SmallW 12 x → x ∉ E.map (·.1) → us = ms.map tS → MarksOk us → ∀ H', But2 B.dm B.dr H H' → BookAt C CR R H' b B (E ++ [(x, ms)]) → (∀ (lh : Addr) (zs : List V), H lh = some (.lst zs) → BookAt C CR R (rm H lh) b B E → BookAt C CR R (rm H' lh) b B (E ++ [(x, ms)])) → Q (.str "") H') → sp_ltold61 C CR R vs H Q E_
theorem marks_nil : MarksOk [] := ⟨by simp, .nil, by simp⟩
theorem D__law_told (T : Txt K mg C_Roll C_Rule C_Book C_BookError C_NoNumber C_NoRule C_Backward C_NoName C_NoMark C_NoText) : DefOk P w K mg base 8 "_law_told" ["_law_book", "_law_name_here", "_law_marks_here", "_law_bare"] (sp_ltold61 C_Book C_Roll C_Rule) := by
  obtain ⟨f, fd, F, hm⟩ := T.f__law_told
  have nd := sc__law_told.nd
  refine F.def_ hm (F.ok sc__law_told (fun vs H Q E h => ?_) (fun cdv A outer s H vs Q E hr h => ?_)) (F.binds fun _ _ _ _ _ _ us hl => by obtain ⟨_, _, _, _, rfl⟩ := L2.lq4 hl; rfl)
  · obtain ⟨b, l, B, E', v, us, bare, rfl, _⟩ := h; rfl
  · obtain ⟨b, l, B, E', v, us, bare, rfl, A', hv, hl, hu, hz, hE, hb, q1, q2, q3⟩ := h
    obtain ⟨dx, hob⟩ := A'.ob
    refine ⟨_, (pss_cons (ps_set (i := 4) nd rfl (Or.inl rfl) pe_str)
      (pss_cons (ps_try (j := 6) ⟨rfl, rfl, rfl⟩ nd rfl rfl rfl rfl T.mg_BookError T.kx_BookError.kt (fun _ _ => (pss_cons (ps_if (pt_val (pv 3))
        (pss_one (ps_set (i := 5) nd rfl (Or.inl rfl) (pe_mtX (dvs := [.non]) (wants_wish ⟨rfl, rfl, rfl⟩) (pv 0) T.cl_Book (D_Book_enrol_1 T) (hr.mono (by decide)) (.cons rfl .nil) (pa_cons (pv 1) pa_nil))))
        (pss_one (ps_set (i := 5) nd rfl (Or.inl rfl) (pe_mtX (wants_wish ⟨rfl, rfl, rfl⟩) (pv 0) T.cl_Book (D_Book_enrol_2 T) (hr.mono (by decide)) .nil (pa_cons (pv 1) (pa_cons (pv 2) pa_nil))))))
      (pss_one (ps_if (pt_cmpR op_notN (pv 5) pe_non (nomark _))
        (pss_one (ps_set (i := 4) nd rfl (Or.inl rfl) pe_str))
        pss_nil))))
        (fun _ _ => (pss_cons (ps_set (i := 4) nd rfl (Or.inl rfl) pe_str)
      (pss_one (ps_if (PW.pt (pw_or (pt_val (pe_callB (call_isiX (K := K) rfl) rfl T.b_isinstance bt_isinstance (pa_cons (pv 6) (pa_cons (pe_glob (v := .ref C_NoText) rfl T.mg_NoText rfl) pa_nil)))) (pw_or1 (PW.pt (pw_and (pt_val (pe_callB (call_isiX (K := K) rfl) rfl T.b_isinstance bt_isinstance (pa_cons (pv 6) (pa_cons (pe_glob (v := .ref C_NoName) rfl T.mg_NoName rfl) pa_nil)))) (pw_and1 (pt_val (pe_callB (call_isiX (K := K) rfl) rfl T.b_isinstance bt_isinstance (pa_cons (pv 6) (pa_cons (pe_glob (v := .ref C_NoMark) rfl T.mg_NoMark rfl) pa_nil))))))))))
        (pss_one (ps_set (i := 4) nd rfl (Or.inl rfl) pe_str))
        (pss_one (ps_if (pt_val (pe_callB (call_isiX (K := K) rfl) rfl T.b_isinstance bt_isinstance (pa_cons (pv 6) (pa_cons (pe_glob (v := .ref C_NoName) rfl T.mg_NoName rfl) pa_nil))))
        (pss_one (ps_set (i := 4) nd rfl (Or.inl rfl) pe_str))
        (pss_one (ps_if (pt_val (pe_callB (call_isiX (K := K) rfl) rfl T.b_isinstance bt_isinstance (pa_cons (pv 6) (pa_cons (pe_glob (v := .ref C_NoMark) rfl T.mg_NoMark rfl) pa_nil))))
        (pss_one (ps_set (i := 4) nd rfl (Or.inl rfl) pe_str))
        pss_nil)))))))))
      (pss_one (ps_ret (pv 4))))), ?_⟩
    refine gname_ ?_
    refine nrmB (σ' := [some (.ref b), some v, some (.ref l), some (.bl bare), some (.str ""), none, none]) rfl ?_
    refine ⟨_, rfl, _, rfl, ?_⟩
    cases bare with
    | true =>
      refine iteT ?_
      have e0 := hb rfl
      subst e0
      refine ⟨_, rfl, b, dx, _, rfl, hob, bof_no _ _ _ _ _ (by decide +kernel) (by decide +kernel) (by decide +kernel) (by decide +kernel) (by decide +kernel), _, rfl, b, B, E', v, .non, [], rfl, A', hv, .inl ⟨rfl, rfl⟩, hu, hz, hE, fun bad H1 s1 => ?_, fun _ bad => absurd marks_nil bad, fun x ms ev hx hn eu ok H1 b1 A1 r1 => ?_⟩
      · refine ⟨⟨C_NoName, rfl, T.kx_NoName.kt, T.hit_NoName_BookError⟩, fun e H2 n2 => gname_ ?_⟩
        refine ⟨_, rfl, e, C_NoName, none, .ref C_NoText, false, rfl, n2.at_, T.kx_NoName, (fun _ z => by cases z), T.is_NoName_NoText, _, rfl, iteF ?_⟩
        refine ⟨_, rfl, e, C_NoName, none, .ref C_NoName, true, rfl, n2.at_, T.kx_NoName, (fun _ z => by cases z), T.is_NoName_NoName, _, rfl, iteT ?_⟩
        refine ⟨_, rfl, e, C_NoName, none, .ref C_NoMark, false, rfl, n2.at_, T.kx_NoName, (fun _ z => by cases z), T.is_NoName_NoMark, _, rfl, iteF ?_⟩
        refine ⟨_, rfl, e, C_NoName, none, .ref C_NoName, true, rfl, n2.at_, T.kx_NoName, (fun _ z => by cases z), T.is_NoName_NoName, _, rfl, iteT (gname_ ?_)⟩
        exact ⟨_, rfl, q1 bad H2 (s1.trans n2.same)⟩
      · refine gname_ ⟨_, rfl, rfl, _, rfl, iteF ?_⟩
        exact ⟨_, rfl, q3 x ms ev hx hn eu ok H1 b1 A1 r1⟩
    | false =>
      refine iteF ?_
      refine ⟨_, rfl, b, dx, _, rfl, hob, bof_no _ _ _ _ _ (by decide +kernel) (by decide +kernel) (by decide +kernel) (by decide +kernel) (by decide +kernel), _, rfl, _, rfl, b, B, E', v, .ref l, us, rfl, A', hv, .inr ⟨l, rfl, hl⟩, hu, hz, hE, fun bad H1 s1 => ?_, fun nb bad H1 s1 => ?_, fun x ms ev hx hn eu ok H1 b1 A1 r1 => ?_⟩
      · refine ⟨⟨C_NoName, rfl, T.kx_NoName.kt, T.hit_NoName_BookError⟩, fun e H2 n2 => gname_ ?_⟩
        refine ⟨_, rfl, e, C_NoName, none, .ref C_NoText, false, rfl, n2.at_, T.kx_NoName, (fun _ z => by cases z), T.is_NoName_NoText, _, rfl, iteF ?_⟩
        refine ⟨_, rfl, e, C_NoName, none, .ref C_NoName, true, rfl, n2.at_, T.kx_NoName, (fun _ z => by cases z), T.is_NoName_NoName, _, rfl, iteT ?_⟩
        refine ⟨_, rfl, e, C_NoName, none, .ref C_NoMark, false, rfl, n2.at_, T.kx_NoName, (fun _ z => by cases z), T.is_NoName_NoMark, _, rfl, iteF ?_⟩
        refine ⟨_, rfl, e, C_NoName, none, .ref C_NoName, true, rfl, n2.at_, T.kx_NoName, (fun _ z => by cases z), T.is_NoName_NoName, _, rfl, iteT (gname_ ?_)⟩
        exact ⟨_, rfl, q1 bad H2 (s1.trans n2.same)⟩
      · refine ⟨⟨C_NoMark, rfl, T.kx_NoMark.kt, T.hit_NoMark_BookError⟩, fun e H2 n2 => gname_ ?_⟩
        refine ⟨_, rfl, e, C_NoMark, none, .ref C_NoText, false, rfl, n2.at_, T.kx_NoMark, (fun _ z => by cases z), T.is_NoMark_NoText, _, rfl, iteF ?_⟩
        refine ⟨_, rfl, e, C_NoMark, none, .ref C_NoName, false, rfl, n2.at_, T.kx_NoMark, (fun _ z => by cases z), T.is_NoMark_NoName, _, rfl, iteF ?_⟩
        refine ⟨_, rfl, e, C_NoMark, none, .ref C_NoName, false, rfl, n2.at_, T.kx_NoMark, (fun _ z => by cases z), T.is_NoMark_NoName, _, rfl, iteF ?_⟩
        refine ⟨_, rfl, e, C_NoMark, none, .ref C_NoMark, true, rfl, n2.at_, T.kx_NoMark, (fun _ z => by cases z), T.is_NoMark_NoMark, _, rfl, iteT (gname_ ?_)⟩
        exact ⟨_, rfl, q2 nb bad H2 (s1.trans n2.same)⟩
      · refine gname_ ⟨_, rfl, rfl, _, rfl, iteF ?_⟩
        exact ⟨_, rfl, q3 x ms ev hx hn eu ok H1 b1 A1 r1⟩
inductive sp_strange61 (C CR R : Addr) (vs : List V) (H : Hp) (Q : VK) (E_ : XK) : Prop
  | mk : ∀ (b : Addr) (B : BookD) (E : Rows) (v : V), vs = [.ref b, v] → BookAt C CR R H b B E → TextV H v → ¬ IsIn E v → (∀ H', Same H H' → Q (.bl true) H') → sp_strange61 C CR R vs H Q E_
theorem D__law_strange (T : Txt K mg C_Roll C_Rule C_Book C_BookError C_NoNumber C_NoRule C_Backward C_NoName C_NoMark C_NoText) : DefOk P w K mg base 9 "_law_strange" ["_law_book", "_law_name_here"] (sp_strange61 C_Book C_Roll C_Rule) := by
  obtain ⟨f, fd, F, hm⟩ := T.f__law_strange
  have nd := sc__law_strange.nd
  refine F.def_ hm (F.ok sc__law_strange (fun vs H Q E h => ?_) (fun cdv A outer s H vs Q E hr h => ?_)) (F.binds fun _ _ _ _ _ _ us hl => by obtain ⟨_, _, rfl⟩ := L2.lq2 hl; rfl)
  · obtain ⟨b, B, E', v, rfl, _⟩ := h; rfl
  · obtain ⟨b, B, E', v, rfl, A', hv, hn, q⟩ := h
    refine ⟨_, (pss_cons (ps_set (i := 2) nd rfl (Or.inl rfl) (pe_lstN pa_nil))
      (pss_cons (ps_for PassesOwn.never rfl (pi_range1 rfl T.b_range (pa_cons pe_int pa_nil)) (pg_name (i := 3) nd rfl (Or.inl rfl))
        (pss_one (ps_try (j := 4) ⟨rfl, rfl, rfl⟩ nd rfl rfl rfl rfl T.mg_BookError T.kx_BookError.kt (fun _ _ => (pss_one (ps_if (pt_cmpR op_eq (pv 3) pe_int (nomark _))
        (pss_one (ps_expr (pe_mtX (wants_wish ⟨rfl, rfl, rfl⟩) (pv 0) T.cl_Book (D_Book_marks T) (hr.mono (by decide)) .nil (pa_cons (pv 1) pa_nil))))
        (pss_one (ps_expr (pe_mtX (wants_wish ⟨rfl, rfl, rfl⟩) (pv 0) T.cl_Book (D_Book_roll T) (hr.mono (by decide)) .nil (pa_cons (pv 1) pa_nil)))))))
        (fun _ _ => (pss_one (ps_expr (pe_bmH (K := K) rfl PySem.F.plainAttrs_list PySem.F.slot_list_append PySem.F.type_list_append mt_appendN (pv 2) (pa_cons (pe_and (pe_callB (call_isiX (K := K) rfl) rfl T.b_isinstance bt_isinstance (pa_cons (pv 4) (pa_cons (pe_glob (v := .ref C_NoName) rfl T.mg_NoName rfl) pa_nil))) (pe_and (pe_not (pe_callB (call_isiX (K := K) rfl) rfl T.b_isinstance bt_isinstance (pa_cons (pv 4) (pa_cons (pe_glob (v := .ref C_NoMark) rfl T.mg_NoMark rfl) pa_nil)))) (pe_one (pe_not (pe_callB (call_isiX (K := K) rfl) rfl T.b_isinstance bt_isinstance (pa_cons (pv 4) (pa_cons (pe_glob (v := .ref C_NoText) rfl T.mg_NoText rfl) pa_nil))))))) pa_nil))))))))
      (pss_one (ps_ret (pe_cmpR (op_eqD hr.units) (pv 2) (pe_lstN (pa_cons pe_bl (pa_cons pe_bl pa_nil))) (nomark _)))))), ?_⟩
    refine ⟨Nat.zero_le _, fun lf H1 n1 => gname_ ?_⟩
    refine nrmB (σ' := [some (.ref b), some v, some (.ref lf), none, none]) rfl ?_
    refine ⟨2, rfl, by decide, by decide, for_range (n := 2) (fun i σ H2 => Same H H2 ∧ H2 lf = some (.lst (List.replicate i (.bl true))) ∧ ∃ v3 : Option V, σ = [some (.ref b), some v, some (.ref lf), v3, none]) ⟨n1.same, n1.at_, _, rfl⟩ ?_ ?_⟩
    · rintro i σ H2 hi ⟨s2, h2, v3, rfl⟩
      rw [Int.zero_add]
      have A2 := A'.same s2
      obtain ⟨dx, hob⟩ := A2.ob
      have hv2 := hv.same s2
      refine gname_ ?_
      refine nrmB (σ' := [some (.ref b), some v, some (.ref lf), some (.int i), none]) rfl ?_
      refine ⟨_, rfl, rfl, _, rfl, ?_⟩
      have fin : ∀ H3 H4, Same H2 H3 → But lf H3 H4 → H4 lf = some (.lst (List.replicate i (.bl true) ++ [.bl true])) → Same H H4 ∧ H4 lf = some (.lst (List.replicate (i + 1) (.bl true))) := fun H3 H4 s3 b4 h4 => ⟨b4.same (s2.trans s3) n1.fresh, by rw [h4, List.replicate_succ']⟩
      refine ite2 (fun z => ?_) fun z => ?_
      · refine ⟨_, rfl, b, dx, _, rfl, hob, bof_no _ _ _ _ _ (by decide +kernel) (by decide +kernel) (by decide +kernel) (by decide +kernel) (by decide +kernel), _, rfl, b, B, E', v, rfl, A2, hv2, fun x a ev hx hm => absurd ⟨x, ev, hx, List.mem_map.mpr ⟨_, hm, rfl⟩⟩ hn, fun _ H3 s3 => ?_⟩
        refine ⟨⟨C_NoName, rfl, T.kx_NoName.kt, T.hit_NoName_BookError⟩, fun e H4 n4 => ?_⟩
        refine ⟨_, rfl, .inl ⟨rfl, _, SqL.of (n4.same _ _ (s3 _ _ h2))⟩, ?_⟩
        refine ⟨_, rfl, e, C_NoName, none, .ref C_NoName, true, rfl, n4.at_, T.kx_NoName, (fun _ z => by cases z), T.is_NoName_NoName, _, rfl, iteT ?_⟩
        refine ⟨_, rfl, e, C_NoName, none, .ref C_NoMark, false, rfl, n4.at_, T.kx_NoName, (fun _ z => by cases z), T.is_NoName_NoMark, _, rfl, _, rfl, iteT ?_⟩
        refine ⟨_, rfl, e, C_NoName, none, .ref C_NoText, false, rfl, n4.at_, T.kx_NoName, (fun _ z => by cases z), T.is_NoName_NoText, _, rfl, ?_⟩
        refine ⟨lf, _, _, rfl, rfl, n4.same _ _ (s3 _ _ h2), (by rw [List.length_replicate]; exact small1000 (by omega)), fun H5 b5 h5 => ?_⟩
        obtain ⟨f1, f2⟩ := fin H4 H5 (s3.trans n4.same) b5 h5
        exact ⟨f1, f2, _, rfl⟩
      · refine ⟨_, rfl, b, dx, _, rfl, hob, bof_no _ _ _ _ _ (by decide +kernel) (by decide +kernel) (by decide +kernel) (by decide +kernel) (by decide +kernel), _, rfl, b, B, E', v, rfl, A2, hv2, fun hin => absurd hin hn, fun _ H3 s3 => ?_⟩
        refine ⟨⟨C_NoName, rfl, T.kx_NoName.kt, T.hit_NoName_BookError⟩, fun e H4 n4 => ?_⟩
        refine ⟨_, rfl, .inl ⟨rfl, _, SqL.of (n4.same _ _ (s3 _ _ h2))⟩, ?_⟩
        refine ⟨_, rfl, e, C_NoName, none, .ref C_NoName, true, rfl, n4.at_, T.kx_NoName, (fun _ z => by cases z), T.is_NoName_NoName, _, rfl, iteT ?_⟩
        refine ⟨_, rfl, e, C_NoName, none, .ref C_NoMark, false, rfl, n4.at_, T.kx_NoName, (fun _ z => by cases z), T.is_NoName_NoMark, _, rfl, _, rfl, iteT ?_⟩
        refine ⟨_, rfl, e, C_NoName, none, .ref C_NoText, false, rfl, n4.at_, T.kx_NoName, (fun _ z => by cases z), T.is_NoName_NoText, _, rfl, ?_⟩
        refine ⟨lf, _, _, rfl, rfl, n4.same _ _ (s3 _ _ h2), (by rw [List.length_replicate]; exact small1000 (by omega)), fun H5 b5 h5 => ?_⟩
        obtain ⟨f1, f2⟩ := fin H4 H5 (s3.trans n4.same) b5 h5
        exact ⟨f1, f2, _, rfl⟩
    · rintro σ H2 ⟨s2, h2, v3, rfl⟩
      refine ⟨_, rfl, Nat.le_of_lt (small1000 (by decide)), fun l3 H3 n3 => ?_⟩
      have s3 := s2.trans n3.same
      refine ⟨.list [.bool true, .bool true], .list [.bool true, .bool true], .lst (SqL.of (n3.same _ _ h2)) (.cons (.bl _) (.cons (.bl _) .nil)), .lst (SqL.of n3.at_) (.cons (.bl _) (.cons (.bl _) .nil)), rfl, rfl, by decide, ?_⟩
      exact q H3 s3
end
section
variable {P : Program} {w : World} {K : PySem.W.Frag} {mg : Str → Option Value} {base : Heap} {C_Roll C_Rule C_Book C_BookError C_NoNumber C_NoRule C_Backward C_NoName C_NoMark C_NoText : Addr}
theorem BookAt.butK {C CR R : Addr} {H H' : Hp} {b a : Addr} {B : BookD} {E : Rows} {kvs : List (Key × V)} (h : BookAt C CR R H b B E) (bu : But a H H') (ha : H a = some (.dK kvs)) (n1 : B.dm ≠ a) (n2 : B.dr ≠ a) : BookAt C CR R H' b B E :=
  ⟨let ⟨dx, e⟩ := h.ob; ⟨dx, bu _ _ e (ne_of e ha (by intro z; cases z))⟩, h.rule.butK bu ha, bu _ _ h.ed (ne_of h.ed ha (by intro z; cases z)),
    let ⟨k, e, r⟩ := h.ms; ⟨k, bu _ _ e n1, r.imp fun _ _ q => q.butK bu ha⟩, let ⟨k, e, r⟩ := h.rs; ⟨k, bu _ _ e n2, r.imp fun _ _ ⟨x, e1, e2⟩ => ⟨x, e1, e2.butK bu ha⟩⟩, h.ne, h.pr, h.bd⟩
theorem ok_low {x : List Nat} (h : LowT x) : (PyData.str (S x)).canLay0 = true := by
  show PyData.strOk (S x) = true
  unfold PyData.strOk
  rw [Array.all_eq_true']
  intro c hc
  have := h c (by simpa [S] using hc)
  simp; omega
theorem rep_od {K : PySem.W.Frag} {H : Hp} {u : V} (h : OdT H u) : ∃ d, Rep K H u d ∧ d.canLay0 = true ∧ d.depth ≤ 1 := by
  rcases h with ⟨x, rfl, _, lx⟩ | rfl | ⟨i, rfl⟩ | ⟨p, x, rfl, hp, lx⟩
  · exact ⟨_, .str _, ok_low lx, Nat.zero_le _⟩
  · exact ⟨_, .non, rfl, Nat.zero_le _⟩
  · exact ⟨_, .int i, rfl, Nat.zero_le _⟩
  · refine ⟨_, .lst (SqL.of hp) (.cons (.str _) .nil), ?_, ?_⟩
    · show (PyData.canLay0 (.str (S x)) && PyData.canLayAll0 []) = true
      rw [ok_low lx]; rfl
    · exact Nat.le_refl 1
theorem reps_od {K : PySem.W.Frag} {H : Hp} : ∀ us : List V, (∀ u ∈ us, OdT H u) → ∃ ds, Reps K H us ds ∧ PyData.canLayAll0 ds = true ∧ PyData.depthAll ds ≤ 1
  | [], _ => ⟨[], .nil, rfl, Nat.zero_le _⟩
  | u :: us, h => by
    obtain ⟨ds, r, c, d⟩ := reps_od us fun x hx => h x (.tail _ hx)
    obtain ⟨e, r1, c1, d1⟩ := rep_od (K := K) (h u (.head _))
    refine ⟨e :: ds, .cons r1 r, ?_, ?_⟩
    · show (PyData.canLay0 e && PyData.canLayAll0 ds) = true
      rw [c1, c]; rfl
    · show max (PyData.depth e) (PyData.depthAll ds) ≤ 1
      omega
theorem eqO {K : PySem.W.Frag} {H : Hp} {p q : Addr} {us : List V} {Q : VK} (hs : ∀ u ∈ us, OdT H u) (hp : H p = some (.lst us)) (hq : H q = some (.lst us)) (h : Q (.bl false) H) : rEqD K true (.ref p) (.ref q) H Q := by
  obtain ⟨ds, r, c, d⟩ := reps_od (K := K) us hs
  have c' : (PyData.list ds).canLay0 = true := c
  refine ⟨_, _, .lst (SqL.of hp) r, .lst (SqL.of hq) r, c', c', ?_, ?_⟩
  · show PyData.depthAll ds + 1 ≤ 20
    omega
  · rw [if_pos rfl, PySem.SeqAt.eqv_refl _ c']
    exact h
theorem eqNil {K : PySem.W.Frag} {H : Hp} {p q : Addr} {us : List V} {Q : VK} (hs : ∀ u ∈ us, OdT H u) (hp : H p = some (.lst us)) (hq : H q = some (.lst [])) (h : Q (.bl us.isEmpty) H) : rEqD K false (.ref p) (.ref q) H Q := by
  obtain ⟨ds, r, c, d⟩ := reps_od (K := K) us hs
  have c' : (PyData.list ds).canLay0 = true := c
  refine ⟨_, .list [], .lst (SqL.of hp) r, .lst (SqL.of hq) .nil, c', rfl, ?_, ?_⟩
  · show PyData.depthAll ds + 1 ≤ 20
    omega
  · rw [if_neg (by decide)]
    cases r with
    | nil => exact h
    | cons _ _ => exact h
def KeptAt (H : Hp) (dk : Addr) (E : Rows) : Prop := ∃ kvs, H dk = some (.dK kvs) ∧ Ents (fun v ms => TxtL H v ms) kvs E
structure EOk (E : Rows) : Prop where
  nd : (E.map (·.1)).Nodup
  nm : ∀ e ∈ E, SmallW 12 e.1
  mm : ∀ e ∈ E, e.2.length ≤ 8 ∧ ∀ m ∈ e.2, SmallW 8 m
  ln : E.length ≤ 60
theorem EOk.one {E : Rows} (h : EOk E) {x : List Nat} {a b : List (List Nat)} (h1 : (x, a) ∈ E) (h2 : (x, b) ∈ E) : a = b := by
  have nd := h.nd
  clear h
  induction E with
  | nil => cases h1
  | cons e E ih =>
    rw [List.map_cons, List.nodup_cons] at nd
    rcases List.mem_cons.mp h1 with z1 | z1 <;> rcases List.mem_cons.mp h2 with z2 | z2
    · exact (Prod.mk.inj (z1.trans z2.symm)).2
    · exact absurd (List.mem_map.mpr ⟨_, z2, by rw [← z1]⟩) nd.1
    · exact absurd (List.mem_map.mpr ⟨_, z1, by rw [← z2]⟩) nd.1
    · exact ih z1 z2 nd.2
theorem od_txts {H : Hp} {n : Int} {ms : List (List Nat)} (hn : n ≤ 3000) (h : ∀ m ∈ ms, SmallW n m) : ∀ u ∈ (sortT ms).map tS, OdT H u := fun u hu => by
  obtain ⟨m, hm, rfl⟩ := List.mem_map.mp hu
  exact tv_small (h m ((sortT_perm ms).mem_iff.mp hm)) hn
inductive sp_kept61 (C CR R : Addr) (vs : List V) (H : Hp) (Q : VK) (E_ : XK) : Prop
  | mk : ∀ (b dk : Addr) (B : BookD) (E : Rows), vs = [.ref b, .ref dk] → BookAt C CR R H b B E → KeptAt H dk E → B.dm ≠ dk → B.dr ≠ dk → EOk E → (∀ H', Same H H' → Q (.bl true) H') → sp_kept61 C CR R vs H Q E_
theorem D__law_kept (T : Txt K mg C_Roll C_Rule C_Book C_BookError C_NoNumber C_NoRule C_Backward C_NoName C_NoMark C_NoText) : DefOk P w K mg base 9 "_law_kept" ["_law_book", "_law_kept_here"] (sp_kept61 C_Book C_Roll C_Rule) := by
  obtain ⟨f, fd, F, hm⟩ := T.f__law_kept
  have nd := sc__law_kept.nd
  refine F.def_ hm (F.ok sc__law_kept (fun vs H Q E h => ?_) (fun cdv A outer s H vs Q E hr h => ?_)) (F.binds fun _ _ _ _ _ _ us hl => by obtain ⟨_, _, rfl⟩ := L2.lq2 hl; rfl)
  · obtain ⟨b, dk, B, E', rfl, _⟩ := h; rfl
  · obtain ⟨b, dk, B, E', rfl, A', ⟨kvs, hk, en⟩, n1, n2, ok, q⟩ := h
    obtain ⟨dx, hob⟩ := A'.ob
    have ln := ok.ln
    refine ⟨_, (pss_cons (ps_set (i := 2) nd rfl (Or.inl rfl) (pe_mt0 (pv 0) T.cl_Book (D_Book_names T) (hr.mono (by decide))))
      (pss_cons (ps_if (PW.pt (pw_or (pt_not (pt_val (pe_callB call_isi rfl T.b_isinstance bt_isinstance (pa_cons (pv 2) (pa_cons (pe_bltn (v := .ty "list") rfl T.b_list bt_list rfl) pa_nil))))) (pw_or1 (pt_cmpR (op_neD hr.units) (pv 2) (pe_callB (call_sortedDTx rfl) rfl T.b_sorted bt_sorted (pa_cons (pv 1) pa_nil)) (nomark _)))))
        (pss_one (ps_ret pe_bl))
        pss_nil)
      (pss_cons (ps_thawK (ps_for PassesOwn.never rfl (pi_itemsK (pv 1)) (pg_tup rfl (pgs_cons (pg_name (i := 3) nd rfl (Or.inl rfl)) (pgs_cons (pg_name (i := 4) nd rfl (Or.inl rfl)) pgs_nil)))
        (pss_cons (ps_set (i := 5) nd rfl (Or.inl rfl) (pe_mtX (wants_nox ⟨rfl, rfl, rfl⟩) (pv 0) T.cl_Book (D_Book_marks T) (hr.mono (by decide)) .nil (pa_cons (pv 3) pa_nil)))
      (pss_cons (ps_set (i := 6) nd rfl (Or.inl rfl) (pe_mtX (wants_nox ⟨rfl, rfl, rfl⟩) (pv 0) T.cl_Book (D_Book_roll T) (hr.mono (by decide)) .nil (pa_cons (pv 3) pa_nil)))
      (pss_cons (ps_if (PW.pt (pw_or (pt_not (pt_val (pe_callB call_isi rfl T.b_isinstance bt_isinstance (pa_cons (pv 5) (pa_cons (pe_bltn (v := .ty "list") rfl T.b_list bt_list rfl) pa_nil))))) (pw_or1 (pt_cmpR (op_neD hr.units) (pv 5) (pe_callB call_sortedTx rfl T.b_sorted bt_sorted (pa_cons (pv 4) pa_nil)) (nomark _)))))
        (pss_one (ps_ret pe_bl))
        pss_nil)
      (pss_cons (ps_if (PW.pt (pw_or (pt_cmpR (op_neD hr.units) (pe_mt0 (pv 6) T.cl_Roll (D_Roll_young T) (hr.mono (by decide))) (pe_lstN pa_nil) (nomark _)) (pw_or1 (pt_cmpR (op_neD hr.units) (pe_mt0 (pv 6) T.cl_Roll (D_Roll_heaps T) (hr.mono (by decide))) (pe_lstN pa_nil) (nomark _)))))
        (pss_one (ps_ret pe_bl))
        pss_nil)
      (pss_one (ps_expr (pe_bm PySem.F.plainAttrs_list PySem.F.slot_list_append PySem.F.type_list_append mt_appendN (pv 5) (pa_cons pe_str pa_nil))))))))))
      (pss_cons (ps_expr (pe_bm PySem.F.plainAttrs_list PySem.F.slot_list_append PySem.F.type_list_append mt_appendN (pv 2) (pa_cons pe_str pa_nil)))
      (pss_one (ps_ret pe_bl)))))), ?_⟩
    refine ⟨_, rfl, b, dx, _, rfl, hob, bof_no _ _ _ _ _ (by decide +kernel) (by decide +kernel) (by decide +kernel) (by decide +kernel) (by decide +kernel), b, B, E', rfl, A', by omega, fun ln1 H1 m1 => gname_ ?_⟩
    refine nrmB (σ' := [some (.ref b), some (.ref dk), some (.ref ln1), none, none, none, none]) rfl ?_
    have on1 : ∀ {H : Hp}, ∀ u ∈ (sortT (E'.map (·.1))).map tS, OdT H u := od_txts (n := 12) (by decide) fun m hm => by
      obtain ⟨e, he, rfl⟩ := List.mem_map.mp hm
      exact ok.nm e he
    refine ⟨_, rfl, _, _, _, _, rfl, TyOf.lst m1.at_, kit_list K, _, rfl, iteF ?_⟩
    refine ⟨_, rfl, _, rfl, dk, kvs, E'.map (·.1), rfl, .inl (m1.same _ _ hk), en.keys, by rw [List.length_map]; omega, fun l2 H2 m2 => ?_⟩
    refine eqO on1 (m2.same _ _ m1.at_) m2.at_ ⟨_, rfl, iteF ?_⟩
    have s02 := m1.same.trans m2.same
    have hk2 := s02 _ _ hk
    have A2 := A'.same s02
    have en2 : Ents (fun v ms => TxtL H2 v ms) kvs E' := en.imp fun v ms z => z.same s02
    have hl2 := m2.same _ _ m1.at_
    refine for_itemsK ⟨_, rfl, dk, kvs, rfl, hk2, fun ob nf => ?_⟩ (fun mo ⟨v, e, z⟩ => ⟨v, e, mo _ _ z⟩)
    generalize hf : upd H2 dk (.frz ob (.dK kvs)) = HF
    have bf : But dk H2 HF := by rw [← hf]; exact but_upd
    have df : HF dk = some (.frz ob (.dK kvs)) := by rw [← hf]; exact upd_same
    have AF := A2.butK bf hk2 n1 n2
    have enF : Ents (fun v ms => TxtL HF v ms) kvs E' := en2.imp fun v ms z => z.butK bf hk2
    refine ⟨fun i σ H3 => Same HF H3 ∧ ∃ v3 v4 v5 v6 : Option V, σ = [some (.ref b), some (.ref dk), some (.ref ln1), v3, v4, v5, v6], ⟨Same.refl _, _, _, _, _, rfl⟩, fun i σ H3 z => z.1 _ _ df, ?_, ?_⟩
    · rintro i k v σ H3 p H4 ⟨s3, v3, v4, v5, v6, rfl⟩ hi m4
      obtain ⟨⟨x, ms⟩, he, rfl, lm, rfl, hlm⟩ := enF.get hi
      have hem := List.mem_of_getElem? he
      have s4 := s3.trans m4.same
      refine ⟨p, _, rfl, SqT.of m4.at_, rfl, _, _, rfl, _, _, rfl, rfl, ?_⟩
      refine nrmB (σ' := [some (.ref b), some (.ref dk), some (.ref ln1), some (tS x), some (.ref lm), v5, v6]) rfl ?_
      have A4 := AF.same s4
      obtain ⟨dx4, hob4⟩ := A4.ob
      have tx : ∀ {H : Hp}, TextV H (tS x) := OdT.tv (tv_small (ok.nm _ hem) (by decide))
      have hin : IsIn E' (tS x) := ⟨x, rfl, ok.nm _ hem, List.mem_map.mpr ⟨_, hem, rfl⟩⟩
      refine ⟨_, rfl, b, dx4, _, rfl, hob4, bof_no _ _ _ _ _ (by decide +kernel) (by decide +kernel) (by decide +kernel) (by decide +kernel) (by decide +kernel), _, rfl, b, B, E', tS x, rfl, A4, tx, fun y a ey hy ha l5 H5 s5 f5 h5 => gname_ ?_, fun nin => absurd hin nin⟩
      have ey := tS_inj ey
      subst ey
      have ea := ok.one ha hem
      subst ea
      refine nrmB (σ' := [some (.ref b), some (.ref dk), some (.ref ln1), some (tS x), some (.ref lm), some (.ref l5), v6]) rfl ?_
      have A5 := A4.same s5
      obtain ⟨dx5, hob5⟩ := A5.ob
      refine ⟨_, rfl, b, dx5, _, rfl, hob5, bof_no _ _ _ _ _ (by decide +kernel) (by decide +kernel) (by decide +kernel) (by decide +kernel) (by decide +kernel), _, rfl, b, B, E', tS x, rfl, A5, tx, fun _ r H6 s6 re => gname_ ?_, fun nin => absurd hin nin⟩
      refine nrmB (σ' := [some (.ref b), some (.ref dk), some (.ref ln1), some (tS x), some (.ref lm), some (.ref l5), some (.ref r)]) rfl ?_
      have h6 := s6 _ _ h5
      refine ⟨_, rfl, _, _, _, _, rfl, TyOf.lst h6, kit_list K, _, rfl, iteF ?_⟩
      have ml := (ok.mm _ hem).1
      have ms8 := (ok.mm _ hem).2
      refine ⟨_, rfl, _, rfl, lm, a, rfl, SqL.of (s6 _ _ (s5 _ _ (s4 _ _ hlm))), by dsimp only at ml; omega, fun l7 H7 m7 => ?_⟩
      refine eqO (od_txts (n := 8) (by decide) ms8) (m7.same _ _ h6) m7.at_ ⟨_, rfl, iteF ?_⟩
      obtain ⟨c, AR, eY, eZ, _⟩ := (re.same m7.same).ex
      obtain ⟨dr7, hr7⟩ := AR.ob
      refine ⟨_, rfl, r, dr7, _, rfl, hr7, rof_no _ _ _ _ _ (by decide +kernel) (by decide +kernel) (by decide +kernel) (by decide +kernel) (by decide +kernel), r, c, rfl, AR, eY, fun l8 H8 s8 f8 h8 => ?_⟩
      refine ⟨Nat.zero_le _, fun l9 H9 m9 => ?_⟩
      refine eqO (fun u hu => by cases hu) (m9.same _ _ h8) m9.at_ ⟨_, rfl, iteF ?_⟩
      have s79 := s8.trans m9.same
      refine ⟨_, rfl, r, dr7, _, rfl, s79 _ _ hr7, rof_no _ _ _ _ _ (by decide +kernel) (by decide +kernel) (by decide +kernel) (by decide +kernel) (by decide +kernel), r, c, rfl, AR.same s79, eZ, fun l10 H10 s10 f10 h10 => ?_⟩
      refine ⟨Nat.zero_le _, fun l11 H11 m11 => ?_⟩
      refine eqO (fun u hu => by cases hu) (m11.same _ _ h10) m11.at_ ⟨_, rfl, iteF ?_⟩
      have s611 := m7.same.trans (s79.trans (s10.trans m11.same))
      have h11 := s611 _ _ h6
      refine ⟨_, rfl, .inl ⟨rfl, _, SqL.of h11⟩, l5, _, _, rfl, rfl, h11, ?_, fun H12 b12 h12 => ⟨?_, _, _, _, _, rfl⟩⟩
      · have := (sortT_perm a).length_eq
        dsimp only at ml
        rw [List.length_map, this]
        exact small1000 (by omega)
      · exact b12.same (s4.trans (s5.trans (s6.trans s611))) (s4.free f5)
    · rintro σ H3 ⟨s3, v3, v4, v5, v6, rfl⟩
      have sT : Same H2 (upd H3 dk (.dK kvs)) := thaw_same hk2 (by rw [hf]; exact s3)
      generalize upd H3 dk (.dK kvs) = H4 at sT ⊢
      refine ⟨_, rfl, .inl ⟨rfl, _, SqL.of (sT _ _ hl2)⟩, ln1, _, _, rfl, rfl, sT _ _ hl2, ?_, fun H5 b5 h5 => ?_⟩
      · have := (sortT_perm (E'.map (·.1))).length_eq
        rw [List.length_map, this, List.length_map]
        exact small1000 (by omega)
      · exact q H5 (b5.same (s02.trans sT) m1.fresh)
end
section
variable {P : Program} {w : World} {K : PySem.W.Frag} {mg : Str → Option Value} {base : Heap} {C_Roll C_Rule C_Book C_BookError C_NoNumber C_NoRule C_Backward C_NoName C_NoMark C_NoText : Addr}
theorem cut226 (ns : List Int) : ∃ ms : List Int, cutV (ns.map V.int) (some 2) (some 26) = ms.map V.int ∧ ms.length ≤ 24 := by
  unfold cutV
  rw [show (some (2 : Int)) = some ((2 : Nat) : Int) from rfl, show (some (26 : Int)) = some ((26 : Nat) : Int) from rfl, HT.sIx_nat, HT.sIx_nat]
  simp only [← List.map_take, ← List.map_drop]
  exact ⟨_, rfl, by simp only [List.length_take, List.length_drop]; omega⟩
structure S61 (K : PySem.W.Frag) (C CR R a b dk lc : Addr) (ns cs : List Int) (B : BookD) (E : Rows) (H : Hp) : Prop where
  sc : SqL K H a (ns.map V.int)
  sl : H lc = some (.lst (cs.map V.int))
  bk : BookAt C CR R H b B E
  kp : KeptAt H dk E
  n1 : B.dm ≠ dk
  n2 : B.dr ≠ dk
  ok : EOk E
theorem S61.same {K : PySem.W.Frag} {C CR R a b dk lc : Addr} {ns cs : List Int} {B : BookD} {E : Rows} {H H' : Hp} (h : S61 K C CR R a b dk lc ns cs B E H) (s : Same H H') : S61 K C CR R a b dk lc ns cs B E H' :=
  ⟨sq_mono s h.sc, s _ _ h.sl, h.bk.same s, let ⟨k, e, r⟩ := h.kp; ⟨k, s _ _ e, r.imp fun _ _ z => z.same s⟩, h.n1, h.n2, h.ok⟩
theorem sq_but2 {K : PySem.W.Frag} {H H' : Hp} {a d1 d2 : Addr} {xs : List V} {k1 k2 : List (Key × V)} (b : But2 d1 d2 H H') (h1 : H d1 = some (.dK k1)) (h2 : H d2 = some (.dK k2)) (h : SqL K H a xs) : SqL K H' a xs := by
  rcases h with (h | ⟨o, h⟩) | h
  · exact .inl (.inl (b _ _ h (ne_of h h1 (by intro z; cases z)) (ne_of h h2 (by intro z; cases z))))
  · exact .inl (.inr ⟨o, b _ _ h (ne_of h h1 (by intro z; cases z)) (ne_of h h2 (by intro z; cases z))⟩)
  · exact .inr h
theorem EOk.snoc {E : Rows} (h : EOk E) {x : List Nat} {ms : List (List Nat)} (hx : SmallW 12 x) (hn : x ∉ E.map (·.1)) (hm : MarksOk (ms.map tS)) (hl : E.length < 60) : EOk (E ++ [(x, ms)]) := by
  refine ⟨?_, fun e he => ?_, fun e he => ?_, by simp; omega⟩
  · rw [List.map_append, List.nodup_append]
    refine ⟨h.nd, by simp, fun a ha c hc e => hn ?_⟩
    have : c = x := by simpa using hc
    rw [← this, ← e]; exact ha
  · rcases List.mem_append.mp he with z | z
    · exact h.nm e z
    · rw [List.mem_singleton.mp z]; exact hx
  · rcases List.mem_append.mp he with z | z
    · exact h.mm e z
    · rw [List.mem_singleton.mp z]
      refine ⟨by have := hm.2.2; rw [List.length_map] at this; exact this, fun m hm' => ?_⟩
      have := hm.1 (tS m) (List.mem_map.mpr ⟨m, hm', rfl⟩)
      rw [small_S] at this
      exact of_decide_eq_true this
theorem pr_one {c : Int} : Pr [(c % 10 ^ 20, 1)] none := by
  have h1 : 0 ≤ c % 10 ^ 20 := Int.emod_nonneg _ (by decide)
  have h2 : c % 10 ^ 20 < 10 ^ 20 := Int.emod_lt_of_pos _ (by decide)
  refine ⟨⟨by simp, by simp, fun i p h => ?_, fun i p q h g => ?_⟩, fun i p h => ?_, (fun p h z e => by cases e), (fun z e => by cases e)⟩
  · have : p = (c % 10 ^ 20, 1) := by
      have := List.mem_of_getElem? h
      simpa using this
    subst this
    exact ⟨h1, Int.le_refl 1⟩
  · have := (List.getElem?_eq_some_iff.mp g).1
    simp at this
  · have : p = (c % 10 ^ 20, 1) := by
      have := List.mem_of_getElem? h
      simpa using this
    subst this
    exact ⟨h1, by show c % 10 ^ 20 < 10 ^ 45; omega, Int.le_refl 1, by show (1 : Int) < 10 ^ 45; omega⟩
def DueIs (E : Rows) (v : V) (us : List V) (d : Str) : Prop := (BadN E v ∧ d = "name") ∨ (¬ BadN E v ∧ ¬ MarksOk us ∧ d = "mark") ∨ (¬ BadN E v ∧ MarksOk us ∧ d = "")
theorem s61_new {K : PySem.W.Frag} {C CR R a b dk lc : Addr} {ns cs : List Int} {B : BookD} {H H' : Hp} (hS : SqL K H a (ns.map V.int)) (A : BookAt C CR R H b B []) (n : New H H' dk (.dK [])) {H2 : Hp} (n2 : New H' H2 lc (.lst (cs.map V.int))) : S61 K C CR R a b dk lc ns cs B [] H2 :=
  ⟨sq_mono (n.same.trans n2.same) hS, n2.at_, A.same (n.same.trans n2.same), ⟨[], n2.same _ _ n.at_, .nil⟩, let ⟨_, e, _⟩ := A.ms; ne_of_none e n.fresh, let ⟨_, e, _⟩ := A.rs; ne_of_none e n.fresh, ⟨.nil, by simp, by simp, by simp⟩⟩
theorem S61.told {K : PySem.W.Frag} {C CR R a b dk lc lm lh : Addr} {ns cs : List Int} {B : BookD} {E : Rows} {x : List Nat} {ms : List (List Nat)} {H0 H1 H2 H3 : Hp} {zs : List V} (h : S61 K C CR R a b dk lc ns cs B E (rm H0 lh)) (hlh : H0 lh = some (.lst zs)) (hlm : H0 lm = some (.lst (ms.map tS))) (nl : lm ≠ lh) (hx : SmallW 12 x) (hn : x ∉ E.map (·.1)) (hm : MarksOk (ms.map tS)) (hl : E.length < 60)
    (b1 : But2 B.dm B.dr H0 H1) (A1 : BookAt C CR R (rm H1 lh) b B (E ++ [(x, ms)])) (kvs : List (Key × V)) (hk : H1 dk = some (.dK kvs)) (b2 : But dk H1 H2) (h2 : H2 dk = some (.dK (putK kvs (kS x) (.ref lm)))) (b3 : But lh H2 H3) : S61 K C CR R a b dk lc ns cs B (E ++ [(x, ms)]) H3 := by
  obtain ⟨k0, e0, en⟩ := h.kp
  obtain ⟨km, em, _⟩ := h.bk.ms
  obtain ⟨kr, er, _⟩ := h.bk.rs
  have ndk : dk ≠ lh := fun z => by unfold rm at e0; rw [if_pos z] at e0; cases e0
  have em0 := rm_sub _ _ em
  have er0 := rm_sub _ _ er
  have e00 := rm_sub _ _ e0
  have hk1 := b1 _ _ e00 (fun z => h.n1 z.symm) (fun z => h.n2 z.symm)
  rw [hk] at hk1
  cases hk1
  have rb1 : But2 B.dm B.dr (rm H0 lh) (rm H1 lh) := fun c o e z1 z2 => by
    unfold rm at e ⊢
    split at e
    · cases e
    · rename_i n; rw [if_neg n]; exact b1 _ _ e z1 z2
  have hk1r : rm H1 lh dk = some (.dK kvs) := rm_ne hk ndk
  have rb2 : But dk (rm H1 lh) (rm H2 lh) := rm_but b2
  have A2 := A1.butK rb2 hk1r h.n1 h.n2
  have txt : ∀ (v : V) ms, TxtL (rm H0 lh) v ms → TxtL (rm H2 lh) v ms := fun v ms ⟨c, e, q⟩ => ⟨c, e, by
    have q1 := rb1 _ _ q (ne_of q em (by intro z; cases z)) (ne_of q er (by intro z; cases z))
    exact rb2 _ _ q1 (ne_of q1 hk1r (by intro z; cases z))⟩
  have s := S61.mk (K := K) (a := a) (ns := ns) (lc := lc) (cs := cs) (by
    have q1 := sq_but2 rb1 em er h.sc
    rcases q1 with (q | ⟨o, q⟩) | q
    · exact .inl (.inl (rb2 _ _ q (ne_of q hk1r (by intro z; cases z))))
    · exact .inl (.inr ⟨o, rb2 _ _ q (ne_of q hk1r (by intro z; cases z))⟩)
    · exact .inr q) (by
      have q1 := rb1 _ _ h.sl (ne_of h.sl em (by intro z; cases z)) (ne_of h.sl er (by intro z; cases z))
      exact rb2 _ _ q1 (ne_of q1 hk1r (by intro z; cases z))) A2 ⟨_, rm_ne h2 ndk, (en.imp txt).put hn ⟨lm, rfl, rm_ne (b2 _ _ (b1 _ _ hlm (ne_of hlm em0 (by intro z; cases z)) (ne_of hlm er0 (by intro z; cases z))) (ne_of (b1 _ _ hlm (ne_of hlm em0 (by intro z; cases z)) (ne_of hlm er0 (by intro z; cases z))) hk (by intro z; cases z))) nl⟩⟩ h.n1 h.n2 (h.ok.snoc hx hn hm hl)
  exact s.same (rm_back b3)
def C4 (K : PySem.W.Frag) (C CR R a b dk lc lm lh : Addr) (ns cs : List Int) (B : BookD) (E : Rows) (v : V) (us : List V) (dd : Str) (H : Hp) : Prop :=
  ((dd = "name" ∨ dd = "mark") ∧ S61 K C CR R a b dk lc ns cs B E H) ∨ (dd = "" ∧ ∃ x ms H0, v = tS x ∧ SmallW 12 x ∧ x ∉ E.map (·.1) ∧ us = ms.map tS ∧ MarksOk us ∧ S61 K C CR R a b dk lc ns cs B E (rm H0 lh) ∧ lm ≠ lh ∧ H0 lh = some (.lst us) ∧ H0 lm = some (.lst us) ∧ But2 B.dm B.dr H0 H ∧ BookAt C CR R (rm H lh) b B (E ++ [(x, ms)]))
structure P4 (K : PySem.W.Frag) (C CR R a b dk lc lm lh : Addr) (ns cs : List Int) (B : BookD) (E : Rows) (v : V) (us : List V) (dd : Str) (H : Hp) : Prop where
  ov : OdT H v
  ou : ∀ u ∈ us, OdT H u
  hm : H lm = some (.lst us)
  hh : H lh = some (.lst us)
  c : C4 K C CR R a b dk lc lm lh ns cs B E v us dd H
theorem P4.same {K : PySem.W.Frag} {C CR R a b dk lc lm lh : Addr} {ns cs : List Int} {B : BookD} {E : Rows} {v : V} {us : List V} {dd : Str} {H H' : Hp} (h : P4 K C CR R a b dk lc lm lh ns cs B E v us dd H) (s : Same H H') : P4 K C CR R a b dk lc lm lh ns cs B E v us dd H' := by
  refine ⟨h.ov.same s, fun u hu => (h.ou u hu).same s, s _ _ h.hm, s _ _ h.hh, ?_⟩
  rcases h.c with ⟨e, q⟩ | ⟨e, x, ms, H0, e1, e2, e3, e4, e5, q, nl, l1, l2, b, A⟩
  · exact .inl ⟨e, q.same s⟩
  · exact .inr ⟨e, x, ms, H0, e1, e2, e3, e4, e5, q, nl, l1, l2, fun c o z n1 n2 => s _ _ (b _ _ z n1 n2), A.same (rm_mono s)⟩
theorem G_law (T : Txt K mg C_Roll C_Rule C_Book C_BookError C_NoNumber C_NoRule C_Backward C_NoName C_NoMark C_NoText) {f : Addr} {fd : FuncData} (F : Fun K "law" "law" s_law f fd) : FnOk P w K mg base CX0 12 f fd ["_law_script"] (sp_law K) := by
  have nd := sc_law.nd
  refine F.ok sc_law (fun vs H Q E h => ?_) (fun cdv A outer s H vs Q E hr h => ?_)
  · obtain ⟨a, ns, rfl, _⟩ := h; rfl
  · obtain ⟨a, ns, rfl, hS, hn, k⟩ := h
    refine ⟨_, (pss_cons (ps_set (i := 1) nd rfl (Or.inl rfl) (pe_mkN (D_Book_2 T) (hr.mono (by decide)) rfl .nil (pa_cons (pe_mkN (dvs := [.non]) (D_Rule_1 T) (hr.mono (by decide)) rfl (.cons rfl .nil) (pa_cons (pe_lstN (pa_cons (pe_tupN (pa_cons (pe_op op_mod (pe_fn (D__law_cell_at T) (hr.mono (by decide)) rfl (pa_cons (pv 0) (pa_cons pe_int pa_nil))) (pe_op op_pow pe_int pe_int)) (pa_cons pe_int pa_nil))) pa_nil)) pa_nil)) (pa_cons (pe_op op_mod (pe_fn (D__law_cell_at T) (hr.mono (by decide)) rfl (pa_cons (pv 0) (pa_cons pe_int pa_nil))) (pe_op op_pow pe_int pe_int)) pa_nil))))
      (pss_cons (ps_set (i := 2) nd rfl (Or.inl rfl) pe_dnewKN)
      (pss_cons (ps_for PassesOwn.never rfl (pi_enum rfl T.b_enumerate (pa_cons (pe_slice sl_listN (pv 0) (po_some pe_int) (po_some pe_int)) pa_nil)) (pg_tup rfl (pgs_cons (pg_name (i := 3) nd rfl (Or.inl rfl)) (pgs_cons (pg_name (i := 4) nd rfl (Or.inl rfl)) pgs_nil)))
        (pss_cons (ps_set (i := 5) nd rfl (Or.inl rfl) (pe_fn (D__law_name T) (hr.mono (by decide)) rfl (pa_cons (pe_fn (D__law_cell_at T) (hr.mono (by decide)) rfl (pa_cons (pv 0) (pa_cons pe_int pa_nil))) (pa_cons (pe_op op_mod (pe_fn (D__law_mixed T) (hr.mono (by decide)) rfl (pa_cons (pv 4) (pa_cons pe_int pa_nil))) pe_int) pa_nil))))
      (pss_cons (ps_if (pt_cmpR op_eq (pe_op op_mod (pe_fn (D__law_mixed T) (hr.mono (by decide)) rfl (pa_cons (pv 4) (pa_cons pe_int pa_nil))) pe_int) pe_int (nomark _))
        (pss_one (ps_set (i := 5) nd rfl (Or.inl rfl) (pe_fn (D__law_odd T) (hr.mono (by decide)) rfl (pa_cons (pv 5) (pa_cons (pv 4) pa_nil)))))
        pss_nil)
      (pss_cons (ps_set (i := 6) nd rfl (Or.inl rfl) (pe_fn (D__law_marks T) (hr.mono (by decide)) rfl (pa_cons (pe_op op_fdiv (pv 4) pe_int) pa_nil)))
      (pss_cons (ps_set (i := 7) nd rfl (Or.inl rfl) (pe_and (pe_cmpR (op_eqD hr.units) (pv 6) (pe_lstN pa_nil) (nomark _)) (pe_one (pe_cmpR op_eq (pe_op op_mod (pv 4) pe_int) pe_int (nomark _)))))
      (pss_cons (ps_set (i := 8) nd rfl (Or.inl rfl) (pe_callTy call_listN rfl T.b_list bt_list (pa_cons (pv 6) pa_nil)))
      (pss_cons (ps_set (i := 9) nd rfl (Or.inl rfl) (pe_fn (D__law_due T) (hr.mono (by decide)) rfl (pa_cons (pv 2) (pa_cons (pv 5) (pa_cons (pv 6) pa_nil)))))
      (pss_cons (ps_if (PW.pt (pw_or (pt_cmpR op_ne (pe_fn (D__law_told T) (hr.mono (by decide)) rfl (pa_cons (pv 1) (pa_cons (pv 5) (pa_cons (pv 8) (pa_cons (pv 7) pa_nil))))) (pv 9) (nomark _)) (pw_or1 (pt_cmpR (op_neD hr.units) (pv 8) (pv 6) (nomark _)))))
        (pss_one (ps_ret pe_bl))
        pss_nil)
      (pss_cons (ps_if (pt_not (pt_val (pe_fn (D__law_same T) (hr.mono (by decide)) rfl (pa_cons (pe_fn (D_is_name T) (hr.mono (by decide)) rfl (pa_cons (pv 5) pa_nil)) (pa_cons (pe_fn (D__law_good T) (hr.mono (by decide)) rfl (pa_cons (pv 5) (pa_cons pe_int pa_nil))) pa_nil)))))
        (pss_one (ps_ret pe_bl))
        pss_nil)
      (pss_cons (ps_if (pt_not (pt_val (pe_callB (call_all rfl) rfl T.b_all bt_all (pa_cons (pe_lc (vars := ["_law_mark_here"]) (frees := []) (fv := []) rfl (lcOk rfl rfl (by decide +kernel) (by decide +kernel) (by intro p hp; cases hp) rfl) trivial (pi_list (pv 6)) (gk_name (by decide)) (fun _ _ _ _ => (pg_name (i := 0) (show (["_law_mark_here"] : List Str).Nodup by decide +kernel) rfl (Or.inl rfl))) (fun _ _ _ _ => pif_none) (fun _ _ _ _ => (pe_fn (D__law_same T) (hr.mono (by decide)) rfl (pa_cons (pe_fn (D_is_mark T) (hr.mono (by decide)) rfl (pa_cons (pv 0) pa_nil)) (pa_cons (pe_fn (D__law_good T) (hr.mono (by decide)) rfl (pa_cons (pv 0) (pa_cons pe_int pa_nil))) pa_nil))))) pa_nil))))
        (pss_one (ps_ret pe_bl))
        pss_nil)
      (pss_cons (ps_if (pt_cmpR op_eq (pv 9) pe_str (nomark _))
        (pss_cons (ps_dput (hu_of hr) (pv 2) (pv 5) (pv 6) rfl)
      (pss_one (ps_expr (pe_bm PySem.F.plainAttrs_list PySem.F.slot_list_append PySem.F.type_list_append mt_appendN (pv 8) (pa_cons pe_str pa_nil)))))
        pss_nil)
      (pss_cons (ps_set (i := 10) nd rfl (Or.inl rfl) (pe_fn (D__law_name T) (hr.mono (by decide)) rfl (pa_cons (pe_fn (D__law_cell_at T) (hr.mono (by decide)) rfl (pa_cons (pv 0) (pa_cons pe_int pa_nil))) (pa_cons (pe_op op_mod (pe_fn (D__law_mixed T) (hr.mono (by decide)) rfl (pa_cons (pv 4) (pa_cons pe_int pa_nil))) pe_int) pa_nil))))
      (pss_cons (ps_if (PW.pt (pw_and (pt_cmp (pc_dnotin (hu_of hr) (pv 10) (pv 2))) (pw_and1 (pt_not (pt_val (pe_fn (D__law_strange T) (hr.mono (by decide)) rfl (pa_cons (pv 1) (pa_cons (pv 10) pa_nil))))))))
        (pss_one (ps_ret pe_bl))
        pss_nil)
      (pss_one (ps_if (PW.pt (pw_and (pt_cmpR op_eq (pe_op op_mod (pv 3) pe_int) pe_int (nomark _)) (pw_and1 (pt_not (pt_val (pe_fn (D__law_kept T) (hr.mono (by decide)) rfl (pa_cons (pv 1) (pa_cons (pv 2) pa_nil))))))))
        (pss_one (ps_ret pe_bl))
        pss_nil)))))))))))))))
      (pss_one (ps_ret (pe_fn (D__law_kept T) (hr.mono (by decide)) rfl (pa_cons (pv 1) (pa_cons (pv 2) pa_nil)))))))), ?_⟩
    refine ⟨_, rfl, a, ns, 0, rfl, hS, by decide, fun c0 => ?_⟩
    walk_at "r"
    intro t H1 n1
    refine ⟨Nat.le_of_lt (small1000 (by simp)), fun l H2 n2 => ?_⟩
    intro ru dx H3 s3 f3 d3
    have s13 := n2.same.trans s3
    refine ⟨ru, dx, l, _, [(c0 % 10 ^ 20, 1)], none, rfl, d3, s3 _ _ n2.at_, .cons ⟨t, rfl, s13 _ _ n1.at_⟩ .nil, pr_one.good, pr_one.gone, fun rl H4 f4 R4 b4 => ⟨rfl, ?_⟩⟩
    have s04 : Same H H4 := b4.same (n1.same.trans s13) (n1.same.trans n2.same |>.free f3)
    have hS4 := sq_mono s04 hS
    refine ⟨_, rfl, a, ns, 1, rfl, hS4, by decide, fun c1 => ?_⟩
    walk_at "r"
    intro b dx5 H5 s5 f5 d5
    refine ⟨b, dx5, ru, rl, _, none, c1 % 10 ^ 20, rfl, d5, R4.same s5, pr_one, ?_, fun le dm dr H6 A6 z1 z2 b6 => ⟨rfl, gname_ ?_⟩⟩
    · have h1 : 0 ≤ c1 % 10 ^ 20 := Int.emod_nonneg _ (by decide)
      have h2 : c1 % 10 ^ 20 < 10 ^ 20 := Int.emod_lt_of_pos _ (by decide)
      exact ⟨by omega, by omega⟩
    have hS6 := sq_mono (b6.same s5 f5) hS4
    intro dk H7 n7
    refine gname_ ?_
    refine ⟨_, rfl, _, rfl, _, rfl, a, _, rfl, sq_mono n7.same hS6, fun lc H8 n8 => ?_⟩
    obtain ⟨cs, ec, hcs⟩ := cut226 ns
    rw [ec] at n8
    have st := s61_new hS6 A6 n7 n8
    generalize hB : (BookD.mk ru rl le dm dr [(c0 % 10 ^ 20, 1)] none (c1 % 10 ^ 20)) = B at st
    clear hB A6 n7 n8 hS6 hS4 hS s04 R4 b4 b6 d5 d3 s3 s13 n1 n2 s5 z1 z2 f3 f4 f5
    refine ⟨lc, _, rfl, SqL.of st.sl, for_enumN (xs := cs.map V.int) (fun i σ H' => ∃ (E' : Rows) (v3 v4 v5 v6 v7 v8 v9 v10 : Option V), S61 K C_Book C_Roll C_Rule a b dk lc ns cs B E' H' ∧ E'.length ≤ i ∧ σ = [some (.ref a), some (.ref b), some (.ref dk), v3, v4, v5, v6, v7, v8, v9, v10]) ⟨[], _, _, _, _, _, _, _, _, st, Nat.zero_le _, rfl⟩ (fun i σ H' ⟨_, _, _, _, _, _, _, _, _, z, _⟩ => SqL.of z.sl) ?_ ?_⟩
    · rintro i x σ H0 p H1 hx n1 ⟨E', v3, v4, v5, v6, v7, v8, v9, v10, st, hE, rfl⟩
      have hi : i < 24 := by have := (List.getElem?_eq_some_iff.mp hx).1; rw [List.length_map] at this; omega
      obtain ⟨d, rfl⟩ : ∃ d, x = V.int d := by
        obtain ⟨d, _, e⟩ := List.mem_map.mp (List.mem_of_getElem? hx)
        exact ⟨d, e.symm⟩
      refine ⟨p, _, rfl, SqT.of n1.at_, rfl, _, _, rfl, _, _, rfl, rfl, ?_⟩
      refine nrmB (σ' := [some (.ref a), some (.ref b), some (.ref dk), some (.int i), some (.int d), v5, v6, v7, v8, v9, v10]) rfl ?_
      replace st := st.same n1.same
      clear n1 hx
      refine ⟨_, rfl, a, ns, 1, rfl, st.sc, by decide, fun c1 => ⟨_, rfl, d, 17, rfl, by decide, by decide, fun m m0 m1 => ⟨_, _, rfl, rfl, by decide, c1, m % 26, rfl, fun x H2 s2 hx => gname_ ?_⟩⟩⟩
      refine nrmB (σ' := [some (.ref a), some (.ref b), some (.ref dk), some (.int i), some (.int d), some (tS x), v6, v7, v8, v9, v10]) rfl ?_
      replace st := st.same s2
      try dsimp only
      refine seqJ (fun σ H' => ∃ v, S61 K C_Book C_Roll C_Rule a b dk lc ns cs B E' H' ∧ OdT H' v ∧ σ = [some (.ref a), some (.ref b), some (.ref dk), some (.int i), some (.int d), some v, v6, v7, v8, v9, v10]) (fun N hN => ?_) ?_
      · refine ⟨_, rfl, d, 18, rfl, by decide, by decide, fun m2 _ _ => ⟨_, _, rfl, rfl, by decide, rfl, _, rfl, ?_⟩⟩
        refine ite2 (fun z => ?_) fun z => hN _ _ ⟨_, st, tv_small hx (by decide), rfl⟩
        exact ⟨_, rfl, _, rfl, x, d, rfl, by have := hx.2.1; omega, hx.low, fun v H3 s3 ov _ => gname_ (hN _ _ ⟨v, st.same s3, ov, rfl⟩)⟩
      clear st s2 hx m0 m1
      rintro σ H3 ⟨v, st, ov, rfl⟩
      refine ⟨_, rfl, _, _, rfl, rfl, by walk_at "c", d / 2, rfl, fun lm us H4 s4 f4 h4 tu lu => gname_ ?_⟩
      refine nrmB (σ' := [some (.ref a), some (.ref b), some (.ref dk), some (.int i), some (.int d), some v, some (.ref lm), v7, v8, v9, v10]) rfl ?_
      replace st := st.same s4
      replace ov := ov.same s4
      have ou : ∀ u ∈ us, OdT H4 u := fun u hu => (tu u hu).1
      clear s4 f4 tu
      try dsimp only
      refine seqJ (fun σ H' => ∃ bare : Bool, Same H4 H' ∧ (bare = true → us = []) ∧ σ = [some (.ref a), some (.ref b), some (.ref dk), some (.int i), some (.int d), some v, some (.ref lm), some (.bl bare), v8, v9, v10]) (fun N hN => ?_) ?_
      · refine ⟨_, rfl, Nat.zero_le _, fun l5 H5 n5 => eqNil (fun u hu => (ou u hu).same n5.same) (n5.same _ _ h4) n5.at_ ⟨_, rfl, ?_⟩⟩
        cases us with
        | nil =>
          refine iteT ⟨_, rfl, _, _, rfl, rfl, by decide, rfl, gname_ (hN _ _ ⟨_, n5.same, (fun _ => rfl), rfl⟩)⟩
        | cons u us => exact iteF (gname_ (hN _ _ ⟨_, n5.same, (fun z => by cases z), rfl⟩))
      rintro σ H5 ⟨bare, s5, hb, rfl⟩
      replace st := st.same s5
      replace ov := ov.same s5
      replace ou : ∀ u ∈ us, OdT H5 u := fun u hu => (ou u hu).same s5
      replace h4 := s5 _ _ h4
      clear s5
      refine ⟨_, rfl, lm, _, rfl, .inl (SqL.of h4), fun lh H6 n6 => gname_ ?_⟩
      refine nrmB (σ' := [some (.ref a), some (.ref b), some (.ref dk), some (.int i), some (.int d), some v, some (.ref lm), some (.bl bare), some (.ref lh), v9, v10]) rfl ?_
      have str := st.same (rm_new n6.same n6.fresh)
      have nlm : lm ≠ lh := ne_of_none h4 n6.fresh
      replace st := st.same n6.same
      replace ov := ov.same n6.same
      replace ou : ∀ u ∈ us, OdT H6 u := fun u hu => (ou u hu).same n6.same
      replace h4 := n6.same _ _ h4
      have h6 := n6.at_
      clear n6
      try dsimp only
      refine seqJ (fun σ H' => ∃ dd, DueIs E' v us dd ∧ Same H6 H' ∧ σ = [some (.ref a), some (.ref b), some (.ref dk), some (.int i), some (.int d), some v, some (.ref lm), some (.bl bare), some (.ref lh), some (.str dd), v10]) (fun N hN => ?_) ?_
      · obtain ⟨kvs, hk, en⟩ := st.kp
        exact ⟨_, rfl, _, rfl, _, rfl, dk, lm, kvs, E', v, us, rfl, hk, en, ov.tv, h4, fun u hu => (ou u hu).tv, by omega, fun bad H7 s7 => gname_ (hN _ _ ⟨_, .inl ⟨bad, rfl⟩, s7, rfl⟩), fun nb bad H7 s7 => gname_ (hN _ _ ⟨_, .inr (.inl ⟨nb, bad, rfl⟩), s7, rfl⟩), fun nb ok H7 s7 => gname_ (hN _ _ ⟨_, .inr (.inr ⟨nb, ok, rfl⟩), s7, rfl⟩)⟩
      rintro σ H7 ⟨dd, hdd, s7, rfl⟩
      replace str := str.same (rm_mono (a := lh) s7)
      replace st := st.same s7
      replace ov := ov.same s7
      replace ou : ∀ u ∈ us, OdT H7 u := fun u hu => (ou u hu).same s7
      replace h4 := s7 _ _ h4
      replace h6 := s7 _ _ h6
      clear s7
      try dsimp only
      refine seqJ (fun σ H' => P4 K C_Book C_Roll C_Rule a b dk lc lm lh ns cs B E' v us dd H' ∧ σ = [some (.ref a), some (.ref b), some (.ref dk), some (.int i), some (.int d), some v, some (.ref lm), some (.bl bare), some (.ref lh), some (.str dd), v10]) (fun N hN => ?_) ?_
      · have lnE := st.ok.ln
        rcases hdd with ⟨bad, rfl⟩ | ⟨nb, bad, rfl⟩ | ⟨nb, ok, rfl⟩
        · refine ⟨_, rfl, _, rfl, _, rfl, _, rfl, b, lh, B, E', v, us, bare, rfl, st.bk, ov.tv, h6, fun u hu => (ou u hu).tv, by omega, lnE, hb, fun _ H8 s8 => ?_, fun z => absurd bad z, fun x ms e1 e2 e3 => absurd bad (by rw [e1]; exact bad_no e2 e3)⟩
          refine ⟨_, rfl, rfl, _, rfl, iteF ?_⟩
          exact ⟨_, rfl, _, rfl, eqO (fun u hu => (ou u hu).same s8) (s8 _ _ h6) (s8 _ _ h4) ⟨_, rfl, iteF (hN _ _ ⟨⟨ov.same s8, fun u hu => (ou u hu).same s8, s8 _ _ h4, s8 _ _ h6, .inl ⟨.inl rfl, st.same s8⟩⟩, rfl⟩)⟩⟩
        · refine ⟨_, rfl, _, rfl, _, rfl, _, rfl, b, lh, B, E', v, us, bare, rfl, st.bk, ov.tv, h6, fun u hu => (ou u hu).tv, by omega, lnE, hb, fun z => absurd z nb, fun _ _ H8 s8 => ?_, fun x ms _ _ _ _ ok => absurd ok bad⟩
          refine ⟨_, rfl, rfl, _, rfl, iteF ?_⟩
          exact ⟨_, rfl, _, rfl, eqO (fun u hu => (ou u hu).same s8) (s8 _ _ h6) (s8 _ _ h4) ⟨_, rfl, iteF (hN _ _ ⟨⟨ov.same s8, fun u hu => (ou u hu).same s8, s8 _ _ h4, s8 _ _ h6, .inl ⟨.inr rfl, st.same s8⟩⟩, rfl⟩)⟩⟩
        · refine ⟨_, rfl, _, rfl, _, rfl, _, rfl, b, lh, B, E', v, us, bare, rfl, st.bk, ov.tv, h6, fun u hu => (ou u hu).tv, by omega, lnE, hb, fun z => absurd z nb, fun _ z => absurd ok z, fun x ms e1 e2 e3 e4 _ H8 b8 A8 r8 => ?_⟩
          refine ⟨_, rfl, rfl, _, rfl, iteF ?_⟩
          obtain ⟨km, hkm, _⟩ := st.bk.ms
          obtain ⟨kr, hkr, _⟩ := st.bk.rs
          have keep : ∀ c xs, H7 c = some (.lst xs) → H8 c = some (.lst xs) := fun c xs z => b8 _ _ z (ne_of z hkm (by intro y; cases y)) (ne_of z hkr (by intro y; cases y))
          have o8 : ∀ u, OdT H7 u → OdT H8 u := fun u z => by
            rcases z with z | z | z | ⟨p, x, e, z, lx⟩
            · exact .inl z
            · exact .inr (.inl z)
            · exact .inr (.inr (.inl z))
            · exact .inr (.inr (.inr ⟨p, x, e, keep _ _ z, lx⟩))
          exact ⟨_, rfl, _, rfl, eqO (fun u hu => o8 u (ou u hu)) (keep _ _ h6) (keep _ _ h4) ⟨_, rfl, iteF (hN _ _ ⟨⟨o8 v ov, fun u hu => o8 u (ou u hu), keep _ _ h4, keep _ _ h6, .inr ⟨rfl, x, ms, H7, e1, e2, e3, e4, ok, str, nlm, h6, h4, b8, r8 lh us h6 str.bk⟩⟩, rfl⟩)⟩⟩
      clear st str ov ou h4 h6 hdd hb
      rintro σ H8 ⟨p4, rfl⟩
      try dsimp only
      refine seqJ (fun σ H' => P4 K C_Book C_Roll C_Rule a b dk lc lm lh ns cs B E' v us dd H' ∧ σ = [some (.ref a), some (.ref b), some (.ref dk), some (.int i), some (.int d), some v, some (.ref lm), some (.bl bare), some (.ref lh), some (.str dd), v10]) (fun N hN => ?_) ?_
      · refine ⟨_, rfl, v, rfl, p4.ov.tv, fun H9 s9 => ⟨_, rfl, v, 12, rfl, (p4.ov.same s9).tv, smallB 12 v, smallB 12 v, rfl, _, rfl, ?_⟩⟩
        rw [beq_self_eq_true]
        exact iteF (hN _ _ ⟨p4.same s9, rfl⟩)
      clear p4
      rintro σ H9 ⟨p4, rfl⟩
      try dsimp only
      refine seqJ (fun σ H' => P4 K C_Book C_Roll C_Rule a b dk lc lm lh ns cs B E' v us dd H' ∧ σ = [some (.ref a), some (.ref b), some (.ref dk), some (.int i), some (.int d), some v, some (.ref lm), some (.bl bare), some (.ref lh), some (.str dd), v10]) (fun N hN => ?_) ?_
      · refine ⟨_, rfl, lm, rfl, ⟨_, SqL.of p4.hm⟩, lc_listN (xs := us) (fun i ys H2 => Same H9 H2 ∧ ys = (us.take i).map fun _ => V.bl true) (sz20 (by omega)) ⟨Same.refl _, rfl⟩ (fun i ys H2 h2 => ⟨SqL.of (h2.1 _ _ p4.hm), by rw [h2.2, List.length_map, List.length_take]; omega⟩) ?_ ?_⟩
        · rintro j u ys H2 hj ⟨s2, rfl⟩
          have hu := p4.ou u (List.mem_of_getElem? hj)
          refine gname_ (yes_ (iteT ?_))
          refine ⟨_, rfl, u, rfl, (hu.same s2).tv, fun H3 s3 => ⟨_, rfl, u, 8, rfl, ((hu.same s2).same s3).tv, smallB 8 u, smallB 8 u, rfl, s2.trans s3, ?_⟩⟩
          rw [beq_self_eq_true]
          exact (mapN _ us j u hj).symm
        · rintro ys H2 p H3 ⟨s2, rfl⟩ n3
          rw [List.take_length] at n3
          refine ⟨p, us.map fun _ => true, rfl, SqL.of (by rw [List.map_map]; exact n3.at_), _, rfl, ?_⟩
          rw [show (us.map fun _ => true).all id = true by rw [List.all_eq_true]; intro b hb; obtain ⟨_, _, rfl⟩ := List.mem_map.mp hb; rfl]
          exact iteF (hN _ _ ⟨p4.same (s2.trans n3.same), rfl⟩)
      clear p4
      rintro σ H10 ⟨p4, rfl⟩
      try dsimp only
      refine seqJ (fun σ H' => ∃ E2 : Rows, S61 K C_Book C_Roll C_Rule a b dk lc ns cs B E2 H' ∧ E2.length ≤ i + 1 ∧ σ = [some (.ref a), some (.ref b), some (.ref dk), some (.int i), some (.int d), some v, some (.ref lm), some (.bl bare), some (.ref lh), some (.str dd), v10]) (fun N hN => ?_) ?_
      · refine ⟨_, rfl, rfl, _, rfl, ?_⟩
        rcases p4.c with ⟨e, q⟩ | ⟨e, x, ms, H0', e1, e2, e3, e4, e5, q, nl, l1, l2, b', A⟩
        · have : decide (V.str dd = V.str "") = false := by rcases e with rfl | rfl <;> decide +kernel
          rw [this]
          exact iteF (hN _ _ ⟨E', q, by omega, rfl⟩)
        · subst e
          rw [decide_eq_true rfl]
          refine iteT ?_
          obtain ⟨kvs, hk0, en0⟩ := q.kp
          have hk : H10 dk = some (.dK kvs) := b' _ _ (rm_sub _ _ hk0) (fun z => q.n1 z.symm) (fun z => q.n2 z.symm)
          have lk := en0.len
          subst e1
          refine ⟨_, rfl, _, rfl, _, rfl, dk, _, rfl, DPut.k (k := kS x) hk (by rw [sizeLine_eq]; omega), ?_⟩
          generalize h11 : upd H10 dk (.dK (putK kvs (kS x) (.ref lm))) = H11
          have b11 : But dk H10 H11 := by rw [← h11]; exact but_upd
          have d11 : H11 dk = some (.dK (putK kvs (kS x) (.ref lm))) := by rw [← h11]; exact upd_same
          have hh := b11 _ _ p4.hh (ne_of p4.hh hk (by intro z; cases z))
          refine ⟨_, rfl, .inl ⟨rfl, _, SqL.of hh⟩, lh, _, _, rfl, rfl, hh, small1000 (by omega), fun H12 b12 h12 => hN _ _ ⟨E' ++ [(x, ms)], ?_, by simp; omega, rfl⟩⟩
          subst e4
          exact S61.told q l1 l2 nl e2 e3 e5 (by omega) b' A kvs hk b11 d11 b12
      clear p4
      rintro σ H11 ⟨E2, st, hE2, rfl⟩
      refine ⟨_, rfl, a, ns, 1, rfl, st.sc, by decide, fun c1 => ⟨_, rfl, d, 19, rfl, by decide, by decide, fun m m0 m1 => ⟨_, _, rfl, rfl, by decide, c1, m % 26, rfl, fun y H12 s12 hy => gname_ ?_⟩⟩⟩
      refine nrmB (σ' := [some (.ref a), some (.ref b), some (.ref dk), some (.int i), some (.int d), some v, some (.ref lm), some (.bl bare), some (.ref lh), some (.str dd), some (tS y)]) rfl ?_
      replace st := st.same s12
      try dsimp only
      refine seqJ (fun σ H' => S61 K C_Book C_Roll C_Rule a b dk lc ns cs B E2 H' ∧ σ = [some (.ref a), some (.ref b), some (.ref dk), some (.int i), some (.int d), some v, some (.ref lm), some (.bl bare), some (.ref lh), some (.str dd), some (tS y)]) (fun N hN => ?_) ?_
      · obtain ⟨kvs, hk, en⟩ := st.kp
        refine ⟨_, rfl, _, rfl, dk, _, rfl, DGet.k (k := kS y) hk, _, rfl, ?_⟩
        by_cases hin : y ∈ E2.map (·.1)
        · obtain ⟨u, a', e1, _, _⟩ := en.has hin
          rw [e1]
          exact iteF (hN _ _ ⟨st, rfl⟩)
        · rw [en.hasn hin]
          refine iteT ?_
          exact ⟨_, rfl, _, rfl, b, B, E2, tS y, rfl, st.bk, (tv_small hy (by decide)).tv, (fun ⟨z, e, _, hz⟩ => hin (tS_inj e ▸ hz)), fun H13 s13 => ⟨_, rfl, iteF (hN _ _ ⟨st.same s13, rfl⟩)⟩⟩
      clear st s12
      rintro σ H12 ⟨st, rfl⟩
      refine ⟨_, rfl, _, _, rfl, rfl, by decide, rfl, _, rfl, ?_⟩
      refine ite2 (fun z => ?_) fun z => ⟨E2, _, _, _, _, _, _, _, _, st, hE2, rfl⟩
      exact ⟨_, rfl, _, rfl, b, dk, B, E2, rfl, st.bk, st.kp, st.n1, st.n2, st.ok, fun H13 s13 => ⟨_, rfl, iteF ⟨E2, _, _, _, _, _, _, _, _, st.same s13, hE2, rfl⟩⟩⟩
    · rintro σ H' ⟨E', v3, v4, v5, v6, v7, v8, v9, v10, st, hE, rfl⟩
      exact ⟨_, rfl, _, rfl, b, dk, B, E', rfl, st.bk, st.kp, st.n1, st.n2, st.ok, fun H13 s13 => k H13⟩
end
theorem walk {l : PySem.W.OpenLaw} {q : Program} {loose : List Str} {XP : (Str → Option Value) → Heap → Prop} {YP : World → Heap → Prop} {d : DefRec} {K : Params → PySem.W.Frag} (hn : l.most = some 63) (hdf : d.params.defaults = []) (hdn : d.name = "law")
    (hY : ∀ (w : World) (h : Heap), YP w h → (K w.params).In h)
    (F : ∀ (w : World) (mg : Str → Option Value) (h : Heap), (K w.params).In h → h.Ns mainGlobals mg → ∃ C_Roll C_Rule C_Book C_BookError C_NoNumber C_NoRule C_Backward C_NoName C_NoMark C_NoText, Txt (K w.params) mg C_Roll C_Rule C_Book C_BookError C_NoNumber C_NoRule C_Backward C_NoName C_NoMark C_NoText) :
    PySem.W.WalkO q loose XP YP l.row.toRowW d [] (fun f vs => PySem.call f vs) := by
  refine L2.walk_of (n := 63) (k := 12) (x := "_law_script") (CX := fun _ => CX0) (sp := fun w => sp_law (K w.params)) hn (by decide) hdf ⟨rfl, by decide, by decide⟩ hY (fun w mg fa h kin ns hm => ?_) (fun _ _ a ns hl _ hS => ⟨a, ns, rfl, hS, hl, fun _ => rfl⟩) fun _ _ _ _ _ z => z
  obtain ⟨C_Roll, C_Rule, C_Book, C_BookError, C_NoNumber, C_NoRule, C_Backward, C_NoName, C_NoMark, C_NoText, T⟩ := F w mg h kin ns
  obtain ⟨f, fd, Fu, hm'⟩ := T.f_law
  rw [hdn, hm'] at hm
  cases hm
  refine ⟨fd, ?_, fun base kb nb => G_law T Fu⟩
  obtain ⟨oc, od, kV, doc, pm, an, cdv, ct, osl, rfl, lk, hcd⟩ := Fu.ex
  exact fun s u => .of_eq rfl
end TB
namespace PySem.W.Fast
theorem tw18142555460487982703:True:=⟨⟩
theorem tw18085926797417500745:True:=⟨⟩
theorem tw9836865458602835023:True:=⟨⟩
theorem tw3127379221951952618:True:=⟨⟩
theorem tw17372526617386784662:True:=⟨⟩
theorem tw8883546785052475073:True:=⟨⟩
theorem tw7803708715645944932:True:=⟨⟩
theorem tw15811677991714453752:True:=⟨⟩
theorem tw13287798900212927267:True:=⟨⟩
theorem tw16398988067258475696:True:=⟨⟩
theorem tw16310777712891657529:True:=⟨⟩
theorem tw10902666927938589990:True:=⟨⟩
theorem tw720617577069985981:True:=⟨⟩
theorem tw314281848916852526:True:=⟨⟩
theorem tw1283875838975539243:True:=⟨⟩
theorem tw3295050203072646673:True:=⟨⟩
theorem tw5064430026555149724:True:=⟨⟩
theorem tw5727501824908400432:True:=⟨⟩
theorem tw881126013544237261:True:=⟨⟩
theorem tw11313122593012840378:True:=⟨⟩
theorem tw8015443324618481279:True:=⟨⟩
theorem tw15276078860181941820:True:=⟨⟩
theorem tw2742095091951276091:True:=⟨⟩
theorem tw4325435658953948926:True:=⟨⟩
theorem tw14731096018033212475:True:=⟨⟩
theorem tw441867569194612043:True:=⟨⟩
theorem tw7607102541455364228:True:=⟨⟩
theorem tw1370467781506698793:True:=⟨⟩
theorem tw5797796221999875196:True:=⟨⟩
theorem tw15314844885226071036:True:=⟨⟩
theorem tw11774923080836035991:True:=⟨⟩
theorem tw10296176723934779901:True:=⟨⟩
theorem tw3368338889087447967:True:=⟨⟩
theorem tw15566190149917808333:True:=⟨⟩
theorem tw17957745895302604219:True:=⟨⟩
theorem tw6704563687088308191:True:=⟨⟩
theorem tw13943983838990683453:True:=⟨⟩
theorem tw7252495600209036907:True:=⟨⟩
theorem tw6419117528599882398:True:=⟨⟩
theorem tw5346533215433715884:True:=⟨⟩
theorem tw11339408923160833854:True:=⟨⟩
theorem tw13000566774056486787:True:=⟨⟩
theorem tw17295758075146384377:True:=⟨⟩
theorem tw6404846534107593091:True:=⟨⟩
theorem tw14572359554823238775:True:=⟨⟩
theorem tw6970960611443222598:True:=⟨⟩
theorem tw8099540143549642029:True:=⟨⟩
theorem tw6477522121827738116:True:=⟨⟩
theorem tw8155374904933996098:True:=⟨⟩
theorem tw9597020050007390052:True:=⟨⟩
theorem tw8021040735783709237:True:=⟨⟩
theorem tw31544973719513078:True:=⟨⟩
theorem tw5020766802927510102:True:=⟨⟩
theorem tw9908579782839209102:True:=⟨⟩
theorem tw1576946823988544641:True:=⟨⟩
theorem tw2781277187255050292:True:=⟨⟩
theorem tw16140701556964168017:True:=⟨⟩
theorem tw15730682062349128348:True:=⟨⟩
theorem tw3845795642487610180:True:=⟨⟩
theorem tw17368035166239988511:True:=⟨⟩
theorem tw2497031576796856352:True:=⟨⟩
theorem tw5940239523115122817:True:=⟨⟩
theorem tw14360212585677511995:True:=⟨⟩
theorem tw14499964864773799249:True:=⟨⟩
theorem tw16914061296842274845:True:=⟨⟩
theorem tw10833616960983013303:True:=⟨⟩
theorem tw14346288995734366752:True:=⟨⟩
theorem tw15284688879528562090:True:=⟨⟩
theorem tw8252563885073356539:True:=⟨⟩
theorem tw8169578683172647553:True:=⟨⟩
theorem tw7882243848054962720:True:=⟨⟩
theorem tw8859522090689977493:True:=⟨⟩
theorem tw7604306796224891648:True:=⟨⟩
theorem tw18431823924013182936:True:=⟨⟩
theorem tw8690853456223303759:True:=⟨⟩
theorem tw3862156233025584966:True:=⟨⟩
theorem tw11561402843235667787:True:=⟨⟩
theorem tw8151163764436929194:True:=⟨⟩
theorem tw14619063754681105311:True:=⟨⟩
theorem tw13884558258048892290:True:=⟨⟩
theorem tw7924008133172024725:True:=⟨⟩
theorem tw2754692730366518773:True:=⟨⟩
theorem tw6055069213617800102:True:=⟨⟩
theorem tw2260967813931021861:True:=⟨⟩
theorem tw8248241356699873684:True:=⟨⟩
theorem tw16825474151542200508:True:=⟨⟩
theorem tw10961184246711543335:True:=⟨⟩
theorem tw4583482131624733764:True:=⟨⟩
theorem tw8226402648483646087:True:=⟨⟩
theorem tw7656866930200190062:True:=⟨⟩
theorem tw7712232470929999834:True:=⟨⟩
theorem tw956652464053601336:True:=⟨⟩
theorem tw7600937839598325111:True:=⟨⟩
theorem tw8599744303475876917:True:=⟨⟩
theorem tw15666531808000244695:True:=⟨⟩
theorem tw13520385400715771579:True:=⟨⟩
theorem tw4068883728532892332:True:=⟨⟩
theorem tw3113251731204483088:True:=⟨⟩
theorem tw16561058204424326847:True:=⟨⟩
theorem tw1693050166191496986:True:=⟨⟩
theorem tw14247727891096816131:True:=⟨⟩
theorem tw11365105750120946239:True:=⟨⟩
theorem tw223690897339508660:True:=⟨⟩
theorem tw10004198412595178265:True:=⟨⟩
theorem tw1196538247451733926:True:=⟨⟩
theorem tw17811817040527509111:True:=⟨⟩
theorem tw1279891755158431931:True:=⟨⟩
theorem tw18059835594257556372:True:=⟨⟩
theorem tw17173191507784325304:True:=⟨⟩
theorem tw4277305292499980626:True:=⟨⟩
theorem tw15371734987422378002:True:=⟨⟩
theorem tw11136526882129922999:True:=⟨⟩
theorem tw16552598241526860229:True:=⟨⟩
theorem tw14442879009648929669:True:=⟨⟩
theorem tw3017221361669093499:True:=⟨⟩
theorem tw3839073624243148661:True:=⟨⟩
theorem tw7238877680423428557:True:=⟨⟩
theorem tw13033031223387213229:True:=⟨⟩
theorem tw17325605328042806030:True:=⟨⟩
theorem tw9524796123646077402:True:=⟨⟩
theorem tw14481680141270753046:True:=⟨⟩
theorem tw2927627023638805256:True:=⟨⟩
theorem tw14058799222097416217:True:=⟨⟩
theorem tw4865781657801044053:True:=⟨⟩
theorem tw10928132100608378468:True:=⟨⟩
theorem tw17639475781299391700:True:=⟨⟩
theorem tw6901976979921070395:True:=⟨⟩
theorem tw5639019078969013125:True:=⟨⟩
theorem tw7238815963895221055:True:=⟨⟩
theorem tw10918477657473927759:True:=⟨⟩
theorem tw7197558641934132731:True:=⟨⟩
theorem tw6432335076753694844:True:=⟨⟩
theorem tw13945699556223901728:True:=⟨⟩
theorem tw11423313107162650189:True:=⟨⟩
theorem tw7351592507761759698:True:=⟨⟩
theorem tw7178069817048572021:True:=⟨⟩
theorem tw2729905620092856418:True:=⟨⟩
theorem tw6099670080631286539:True:=⟨⟩
theorem tw8885115954402046214:True:=⟨⟩
theorem tw4077191759677590027:True:=⟨⟩
theorem tw13522881900022419086:True:=⟨⟩
theorem tw3467423284341202162:True:=⟨⟩
theorem tw13795369893268808807:True:=⟨⟩
theorem tw11060800723163019094:True:=⟨⟩
theorem tw3917486680083250806:True:=⟨⟩
theorem tw13041938805850580659:True:=⟨⟩
theorem tw1924981715609543213:True:=⟨⟩
theorem tw12583849451860770627:True:=⟨⟩
theorem tw17841885663582443975:True:=⟨⟩
theorem tw1302661200155702283:True:=⟨⟩
theorem tw3366144804124556040:True:=⟨⟩
theorem tw13324318976727644149:True:=⟨⟩
theorem tw3116742425737311579:True:=⟨⟩
theorem tw8767430657451946375:True:=⟨⟩
theorem tw17167903374101979916:True:=⟨⟩
theorem tw9939198119643579065:True:=⟨⟩
theorem tw15302179020621433462:True:=⟨⟩
theorem tw14498247238834921157:True:=⟨⟩
theorem tw2019914525127272906:True:=⟨⟩
theorem tw16018180577421604985:True:=⟨⟩
theorem tw15874489019905615785:True:=⟨⟩
theorem tw10391572489592612567:True:=⟨⟩
theorem tw13229831775507883506:True:=⟨⟩
theorem tw7920457761704528784:True:=⟨⟩
theorem tw12701754022935416786:True:=⟨⟩
theorem tw17219758925926636321:True:=⟨⟩
theorem tw14318969268996444298:True:=⟨⟩
theorem tw13418776165969418539:True:=⟨⟩
theorem tw13774506768083325640:True:=⟨⟩
theorem tw9025023354369121324:True:=⟨⟩
theorem tw18223277931298383552:True:=⟨⟩
theorem tw18050281512843644281:True:=⟨⟩
theorem tw16606427512353294976:True:=⟨⟩
theorem tw4527717269964903679:True:=⟨⟩
theorem tw2156334109386276078:True:=⟨⟩
theorem tw274680105224410947:True:=⟨⟩
theorem tw10688737283043819026:True:=⟨⟩
theorem tw14913119785085014526:True:=⟨⟩
theorem tw11413446547873094865:True:=⟨⟩
theorem tw4757262886645946019:True:=⟨⟩
theorem tw852794581706583040:True:=⟨⟩
theorem tw9761164241857643365:True:=⟨⟩
theorem tw1380053994052016042:True:=⟨⟩
theorem tw6156330425017221145:True:=⟨⟩
theorem tw12465947075913512687:True:=⟨⟩
theorem tw5345382676362366461:True:=⟨⟩
theorem tw2868504735641619267:True:=⟨⟩
theorem tw14250816625339328864:True:=⟨⟩
theorem tw15746511361900998966:True:=⟨⟩
theorem tw9499979178535964676:True:=⟨⟩
theorem tw13527259028415299751:True:=⟨⟩
theorem tw7590931936702924264:True:=⟨⟩
theorem tw9152422454775033929:True:=⟨⟩
theorem tw13551159076636211831:True:=⟨⟩
theorem tw7733505121113419184:True:=⟨⟩
theorem tw935408572473558346:True:=⟨⟩
theorem tw9734888959766873355:True:=⟨⟩
theorem tw9988261048946280892:True:=⟨⟩
theorem tw8957674655475188957:True:=⟨⟩
theorem tw16340280149087902986:True:=⟨⟩
theorem tw15206846547761342644:True:=⟨⟩
theorem tw13298893747264692400:True:=⟨⟩
theorem tw10108449312253143091:True:=⟨⟩
theorem tw1315490565692094670:True:=⟨⟩
theorem tw824756066334882107:True:=⟨⟩
theorem tw5285919501870394909:True:=⟨⟩
theorem tw1494087921870270706:True:=⟨⟩
theorem tw16229374765975704048:True:=⟨⟩
theorem tw3045201405622762932:True:=⟨⟩
theorem tw16460505230417233813:True:=⟨⟩
theorem tw7530652073693194095:True:=⟨⟩
theorem tw13235433976657873513:True:=⟨⟩
theorem tw10641886756565000652:True:=⟨⟩
theorem tw10725344911854238730:True:=⟨⟩
theorem tw16045114062171901404:True:=⟨⟩
theorem tw15702809789792510954:True:=⟨⟩
theorem tw10996258366460308844:True:=⟨⟩
theorem tw10879517598257359745:True:=⟨⟩
theorem tw8100650642664136607:True:=⟨⟩
theorem tw5289738106797772540:True:=⟨⟩
theorem tw3108565077363379745:True:=⟨⟩
theorem tw8460598780724502402:True:=⟨⟩
theorem tw8110176300813790991:True:=⟨⟩
theorem tw15232570387863163613:True:=⟨⟩
theorem tw4061556152557304948:True:=⟨⟩
theorem tw8271070519662269127:True:=⟨⟩
theorem tw822468181077098708:True:=⟨⟩
theorem tw6619241482228807957:True:=⟨⟩
theorem tw17691240178523301851:True:=⟨⟩
theorem tw661036144505420793:True:=⟨⟩
theorem tw9664040973741509781:True:=⟨⟩
theorem tw9498838436223288849:True:=⟨⟩
theorem tw2798946985889978425:True:=⟨⟩
theorem tw2244176345251614379:True:=⟨⟩
theorem tw13389513760984439427:True:=⟨⟩
theorem tw9457633138361048158:True:=⟨⟩
theorem tw6972602268978473139:True:=⟨⟩
theorem tw3895693005021697388:True:=⟨⟩
theorem tw1555214501295005574:True:=⟨⟩
theorem tw9432455650132161946:True:=⟨⟩
theorem tw3619852317271513932:True:=⟨⟩
theorem tw2758941511605813331:True:=⟨⟩
theorem tw7621819020853195513:True:=⟨⟩
theorem tw9466980633095144341:True:=⟨⟩
theorem tw7068323304769115372:True:=⟨⟩
theorem tw3798256937133320891:True:=⟨⟩
theorem tw11916633487801597352:True:=⟨⟩
theorem tw12946420904724698068:True:=⟨⟩
theorem tw10106021777634261002:True:=⟨⟩
theorem tw760920883078945910:True:=⟨⟩
theorem tw14418924191103015549:True:=⟨⟩
theorem tw8290473905151035178:True:=⟨⟩
theorem tw4651986597739522648:True:=⟨⟩
theorem tw18111379348640040235:True:=⟨⟩
theorem tw11572211263338752815:True:=⟨⟩
theorem tw3376915253459531227:True:=⟨⟩
theorem tw14460535074993553698:True:=⟨⟩
theorem tw13005164211589054676:True:=⟨⟩
theorem tw11834216121649174461:True:=⟨⟩
theorem tw8592795339430274965:True:=⟨⟩
theorem tw13559644887881225592:True:=⟨⟩
theorem tw17231855349189798213:True:=⟨⟩
theorem tw4442445426853843433:True:=⟨⟩
theorem tw6913197015492473908:True:=⟨⟩
theorem tw18073769848700014496:True:=⟨⟩
theorem tw11863895227262088766:True:=⟨⟩
theorem tw979213876530999476:True:=⟨⟩
theorem tw5526491913125748858:True:=⟨⟩
theorem tw4188876805027980366:True:=⟨⟩
theorem tw18329315803679683040:True:=⟨⟩
theorem tw7532710844989270216:True:=⟨⟩
theorem tw4485615474606016810:True:=⟨⟩
theorem tw6459802064553000374:True:=⟨⟩
theorem tw1478122918574367995:True:=⟨⟩
theorem tw5449850287771367653:True:=⟨⟩
theorem tw2738411614249667681:True:=⟨⟩
theorem tw17013566402408445793:True:=⟨⟩
theorem tw16548666552452297379:True:=⟨⟩
theorem tw4745723106478334090:True:=⟨⟩
theorem tw12202460675723140575:True:=⟨⟩
theorem tw16885850280642035143:True:=⟨⟩
theorem tw15981508637176033634:True:=⟨⟩
theorem tw13925783517722798068:True:=⟨⟩
theorem tw8277305496526666656:True:=⟨⟩
theorem tw15833593782272036631:True:=⟨⟩
theorem tw1943470738838629319:True:=⟨⟩
theorem tw15826294758015161391:True:=⟨⟩
theorem tw14233015334790439893:True:=⟨⟩
theorem tw13737889584939699275:True:=⟨⟩
theorem tw13222016807099996463:True:=⟨⟩
theorem tw4746117965559315232:True:=⟨⟩
theorem tw1827073001853159447:True:=⟨⟩
theorem tw17461527688658374603:True:=⟨⟩
theorem tw18285713310513383491:True:=⟨⟩
theorem tw16440398951553702488:True:=⟨⟩
theorem tw13956388435537444324:True:=⟨⟩
theorem tw15193067216568986205:True:=⟨⟩
theorem tw1381881124214352581:True:=⟨⟩
theorem tw3083399027503087268:True:=⟨⟩
theorem tw7515027596260552845:True:=⟨⟩
theorem tw9144390374603499730:True:=⟨⟩
theorem tw12158675205342836625:True:=⟨⟩
theorem tw3929873470157347124:True:=⟨⟩
theorem tw11020876228466270475:True:=⟨⟩
theorem tw3422757682026886443:True:=⟨⟩
theorem tw13925454598295757001:True:=⟨⟩
theorem tw10211745198892120982:True:=⟨⟩
theorem tw6262235563590955177:True:=⟨⟩
theorem tw6019055183603721402:True:=⟨⟩
theorem tw9109900296775990730:True:=⟨⟩
theorem tw70330594642039486:True:=⟨⟩
theorem tw3694656063346941453:True:=⟨⟩
theorem tw2513651621754754077:True:=⟨⟩
theorem tw18284605716364144160:True:=⟨⟩
theorem tw7062973693950853950:True:=⟨⟩
theorem tw3545031226061494007:True:=⟨⟩
theorem tw14026571341441456:True:=⟨⟩
theorem tw9266519160867916530:True:=⟨⟩
theorem tw6968125852580197589:True:=⟨⟩
theorem tw2534826123330765871:True:=⟨⟩
theorem tw13166523223325416832:True:=⟨⟩
theorem tw4316109924083688465:True:=⟨⟩
theorem tw8611909409863863216:True:=⟨⟩
theorem tw17039604511654068440:True:=⟨⟩
theorem tw11594678686360961021:True:=⟨⟩
theorem tw7933168505931408572:True:=⟨⟩
theorem tw2446629395157635622:True:=⟨⟩
theorem tw209033452679326661:True:=⟨⟩
theorem tw15519991172660650726:True:=⟨⟩
theorem tw387461065641556563:True:=⟨⟩
theorem tw15591577789782150745:True:=⟨⟩
theorem tw11174353629219060616:True:=⟨⟩
theorem tw10051328389406716825:True:=⟨⟩
theorem tw10014416196705149622:True:=⟨⟩
theorem tw14394107622158376707:True:=⟨⟩
theorem tw5483130418719598436:True:=⟨⟩
theorem tw4637823142005266134:True:=⟨⟩
theorem tw17122790242116424698:True:=⟨⟩
theorem tw16789587470852752794:True:=⟨⟩
theorem tw1202069147554756278:True:=⟨⟩
theorem tw11383825732251737749:True:=⟨⟩
theorem tw6197101911309524561:True:=⟨⟩
theorem tw715652795826360285:True:=⟨⟩
theorem tw16068596156382911865:True:=⟨⟩
theorem tw9445574518155137500:True:=⟨⟩
theorem tw16570550428441260454:True:=⟨⟩
theorem tw16553870710290644082:True:=⟨⟩
theorem tw15108153936761032004:True:=⟨⟩
theorem tw2218401974673456991:True:=⟨⟩
theorem tw10192731314177343032:True:=⟨⟩
theorem tw14786464051431891673:True:=⟨⟩
theorem tw1217679519427447449:True:=⟨⟩
theorem tw13451659607775267387:True:=⟨⟩
theorem tw14402336988183710824:True:=⟨⟩
theorem tw1223570001546762330:True:=⟨⟩
theorem tw3083345429501072561:True:=⟨⟩
theorem tw3090585454120653616:True:=⟨⟩
theorem tw3266431846538244319:True:=⟨⟩
theorem tw9099527810962839412:True:=⟨⟩
theorem tw6955745415507388608:True:=⟨⟩
theorem tw15931091392125050305:True:=⟨⟩
theorem tw8252806405092813619:True:=⟨⟩
theorem tw5590808557883155249:True:=⟨⟩
theorem tw7926988708885441175:True:=⟨⟩
theorem tw5920544983443238473:True:=⟨⟩
theorem tw3823474234905737985:True:=⟨⟩
theorem tw3770387126369838380:True:=⟨⟩
theorem tw1667230820487003621:True:=⟨⟩
theorem tw3476728710117156440:True:=⟨⟩
theorem tw18032565089115396078:True:=⟨⟩
theorem tw10797570986991765026:True:=⟨⟩
theorem tw2930349384576032399:True:=⟨⟩
theorem tw8366456176157288095:True:=⟨⟩
theorem tw10834190635795048699:True:=⟨⟩
theorem tw15474477027077922086:True:=⟨⟩
theorem tw1310555784149930924:True:=⟨⟩
theorem tw12147301784754543550:True:=⟨⟩
theorem tw8671658000569107424:True:=⟨⟩
theorem tw6390951660716189854:True:=⟨⟩
theorem tw1592647210483267519:True:=⟨⟩
theorem tw5121318082533035910:True:=⟨⟩
theorem tw7511350022190395869:True:=⟨⟩
theorem tw7109732574687906330:True:=⟨⟩
theorem tw6997947252869103393:True:=⟨⟩
theorem tw3434128679254670554:True:=⟨⟩
theorem tw2980327916640455833:True:=⟨⟩
theorem tw14863965172454207917:True:=⟨⟩
theorem tw9695919055622647889:True:=⟨⟩
theorem tw6313082360341536746:True:=⟨⟩
theorem tw807422104820387378:True:=⟨⟩
theorem tw8203961259881014087:True:=⟨⟩
theorem tw18087529906920544260:True:=⟨⟩
theorem tw13694791984049642402:True:=⟨⟩
theorem tw12912668786317949541:True:=⟨⟩
theorem tw857311032696039742:True:=⟨⟩
theorem tw7729181714597855550:True:=⟨⟩
theorem tw5482123878448089297:True:=⟨⟩
theorem tw3098720239751081657:True:=⟨⟩
theorem tw1949806934845858557:True:=⟨⟩
theorem tw1845670239829849401:True:=⟨⟩
theorem tw11665112348734490595:True:=⟨⟩
theorem tw10073120577077350196:True:=⟨⟩
theorem tw4950261391616224319:True:=⟨⟩
theorem tw2531771470126273525:True:=⟨⟩
theorem tw16201201081189745699:True:=⟨⟩
theorem tw12072121964953770701:True:=⟨⟩
theorem tw9458244875617178201:True:=⟨⟩
theorem tw4662979405165236142:True:=⟨⟩
theorem tw2419060913530717706:True:=⟨⟩
theorem tw13417370161222286793:True:=⟨⟩
theorem tw4709499434289912393:True:=⟨⟩
theorem tw13471682935885028627:True:=⟨⟩
theorem tw9360993623127714425:True:=⟨⟩
theorem tw4853830252043616475:True:=⟨⟩
theorem tw3495717255606904580:True:=⟨⟩
theorem tw2726010807019807798:True:=⟨⟩
theorem tw8351963573412961123:True:=⟨⟩
theorem tw8254776615818117325:True:=⟨⟩
theorem tw8096996719530594993:True:=⟨⟩
theorem tw5307597979324991983:True:=⟨⟩
theorem tw4446229730562804320:True:=⟨⟩
theorem tw4293365246071431371:True:=⟨⟩
theorem tw3607724803882786764:True:=⟨⟩
theorem tw2321825630892220133:True:=⟨⟩
theorem tw16438839305896434152:True:=⟨⟩
theorem tw14975161623909008512:True:=⟨⟩
theorem tw14969457447572542735:True:=⟨⟩
theorem tw14873882240351136672:True:=⟨⟩
theorem tw11884153647922839709:True:=⟨⟩
theorem tw2764120157433368181:True:=⟨⟩
theorem tw13170625842087109159:True:=⟨⟩
theorem tw9832657863382632433:True:=⟨⟩
theorem tw9233866612144996277:True:=⟨⟩
theorem tw5566836769622059619:True:=⟨⟩
theorem tw4395594817324287679:True:=⟨⟩
theorem tw4172589271554775194:True:=⟨⟩
theorem tw3934274770883519132:True:=⟨⟩
theorem tw2902562000358093146:True:=⟨⟩
theorem tw18090053285527873308:True:=⟨⟩
theorem tw12186412470923844104:True:=⟨⟩
theorem tw12177212639042571805:True:=⟨⟩
theorem tw11874202462315814080:True:=⟨⟩
theorem tw8451542982533677900:True:=⟨⟩
theorem tw8144519815047253102:True:=⟨⟩
theorem tw2210350242754594048:True:=⟨⟩
theorem tw17298789914722763696:True:=⟨⟩
theorem tw16266555203327911212:True:=⟨⟩
theorem tw14050909376601218433:True:=⟨⟩
theorem tw1392851590359723020:True:=⟨⟩
theorem tw13760175828629977709:True:=⟨⟩
theorem tw13431658963851853583:True:=⟨⟩
theorem tw11277524089350380511:True:=⟨⟩
theorem tw11165301869250885321:True:=⟨⟩
theorem tw9906636294657573084:True:=⟨⟩
theorem tw2890306759690951223:True:=⟨⟩
theorem tw11968198543178136361:True:=⟨⟩
theorem tw8012156485064679002:True:=⟨⟩
theorem tw5253640957654137390:True:=⟨⟩
theorem tw505171058957364683:True:=⟨⟩
theorem tw4178398972710904332:True:=⟨⟩
theorem tw16706177661009669018:True:=⟨⟩
theorem tw12914060635085558220:True:=⟨⟩
theorem tw8195708560493735894:True:=⟨⟩
theorem tw7636178274370550219:True:=⟨⟩
theorem tw6138399556419315812:True:=⟨⟩
theorem tw4630551190662662676:True:=⟨⟩
theorem tw386100472155819394:True:=⟨⟩
theorem tw2555615166877183673:True:=⟨⟩
theorem tw1706393613190655703:True:=⟨⟩
theorem tw17049808909101937108:True:=⟨⟩
theorem tw14603188180537428529:True:=⟨⟩
theorem tw13738336935693327348:True:=⟨⟩
theorem tw9621592494821765228:True:=⟨⟩
theorem tw16653372058501743414:True:=⟨⟩
theorem tw16139527671519753603:True:=⟨⟩
theorem tw14244830228474342521:True:=⟨⟩
theorem tw9456170612547558639:True:=⟨⟩
theorem tw7894742533280203026:True:=⟨⟩
theorem tw4199908067833692226:True:=⟨⟩
theorem tw986715846987199312:True:=⟨⟩
theorem tw9833536902944071113:True:=⟨⟩
theorem tw9800905247168676684:True:=⟨⟩
theorem tw950829293321038914:True:=⟨⟩
theorem tw9480073199000602210:True:=⟨⟩
theorem tw9465372720355121918:True:=⟨⟩
theorem tw9118216927396264268:True:=⟨⟩
theorem tw9082288634997158964:True:=⟨⟩
theorem tw907529425567436284:True:=⟨⟩
theorem tw9010738974404167962:True:=⟨⟩
theorem tw8964840576899611636:True:=⟨⟩
theorem tw8946838274715120009:True:=⟨⟩
theorem tw8913890943659897388:True:=⟨⟩
theorem tw8907520571158704023:True:=⟨⟩
theorem tw8844489383731019635:True:=⟨⟩
theorem tw8748366322877815311:True:=⟨⟩
theorem tw8700475720198759430:True:=⟨⟩
theorem tw8535124277849793839:True:=⟨⟩
theorem tw8437997326083932682:True:=⟨⟩
theorem tw8405921607873454787:True:=⟨⟩
theorem tw8040506905478554543:True:=⟨⟩
theorem tw802838405308344852:True:=⟨⟩
theorem tw7877716375724491510:True:=⟨⟩
theorem tw7858809724887794045:True:=⟨⟩
theorem tw7517343182608556227:True:=⟨⟩
theorem tw7451934443974738404:True:=⟨⟩
theorem tw7436346258785963316:True:=⟨⟩
theorem tw7397567759714720536:True:=⟨⟩
theorem tw7352124553809793287:True:=⟨⟩
theorem tw721050501221214495:True:=⟨⟩
theorem tw7050434524217464310:True:=⟨⟩
theorem tw6999733401517985884:True:=⟨⟩
theorem tw6975100572081730353:True:=⟨⟩
theorem tw6858067419239931931:True:=⟨⟩
theorem tw6812019646393798051:True:=⟨⟩
theorem tw6789383571848628438:True:=⟨⟩
theorem tw6704929310149906300:True:=⟨⟩
theorem tw6685338609127847966:True:=⟨⟩
theorem tw6391350123906348915:True:=⟨⟩
theorem tw6353522105912689785:True:=⟨⟩
theorem tw6310068768547557470:True:=⟨⟩
theorem tw6294712802346330676:True:=⟨⟩
theorem tw6290223021155727894:True:=⟨⟩
theorem tw6286244928287414936:True:=⟨⟩
theorem tw6242003034991910958:True:=⟨⟩
theorem tw6180268899976867:True:=⟨⟩
theorem tw6152543374632918183:True:=⟨⟩
theorem tw6065737174529738264:True:=⟨⟩
theorem tw6042246255289475424:True:=⟨⟩
theorem tw6022943628571965519:True:=⟨⟩
theorem tw5950791474709643477:True:=⟨⟩
theorem tw5913167839256173492:True:=⟨⟩
theorem tw5695069778336479663:True:=⟨⟩
theorem tw5558534748192743815:True:=⟨⟩
theorem tw5468610771015395028:True:=⟨⟩
theorem tw5427603982081386027:True:=⟨⟩
theorem tw5423089153762034077:True:=⟨⟩
theorem tw5401105162460978903:True:=⟨⟩
theorem tw5286054297634449757:True:=⟨⟩
theorem tw5228646561134505276:True:=⟨⟩
theorem tw5003642022613245928:True:=⟨⟩
theorem tw4991129970508578807:True:=⟨⟩
theorem tw4807955975250663173:True:=⟨⟩
theorem tw4623102165981346010:True:=⟨⟩
theorem tw4611406778507992316:True:=⟨⟩
theorem tw4520049763246394021:True:=⟨⟩
theorem tw4410918070078722074:True:=⟨⟩
theorem tw4215153157093790187:True:=⟨⟩
theorem tw3924123231256806893:True:=⟨⟩
theorem tw3887048493344497801:True:=⟨⟩
theorem tw3787626906810249880:True:=⟨⟩
theorem tw376045525710767967:True:=⟨⟩
theorem tw3719643219751639914:True:=⟨⟩
theorem tw3494265472643988557:True:=⟨⟩
theorem tw3421404991111506151:True:=⟨⟩
theorem tw3228698755383130317:True:=⟨⟩
theorem tw3193724413452230264:True:=⟨⟩
theorem tw3154823523461185033:True:=⟨⟩
theorem tw3140604771586551247:True:=⟨⟩
theorem tw3082361672633765425:True:=⟨⟩
theorem tw306148310050682573:True:=⟨⟩
theorem tw2962367902351023509:True:=⟨⟩
theorem tw2700170628740681809:True:=⟨⟩
theorem tw267608886073563335:True:=⟨⟩
theorem tw2553724647880018729:True:=⟨⟩
theorem tw2441150863012264781:True:=⟨⟩
theorem tw2316942322314180949:True:=⟨⟩
theorem tw227989455072535999:True:=⟨⟩
theorem tw2174312734671152308:True:=⟨⟩
theorem tw2137330237011778826:True:=⟨⟩
theorem tw2102241888593454702:True:=⟨⟩
theorem tw1955869106593553656:True:=⟨⟩
theorem tw1884777360735269157:True:=⟨⟩
theorem tw1850382730634049730:True:=⟨⟩
theorem tw18099363044308052939:True:=⟨⟩
theorem tw17999484565323440067:True:=⟨⟩
theorem tw17662082098561742167:True:=⟨⟩
theorem tw1763339644437345928:True:=⟨⟩
theorem tw1762238415682670857:True:=⟨⟩
theorem tw17597827630292736133:True:=⟨⟩
theorem tw17576138709126691394:True:=⟨⟩
theorem tw17539828995776246889:True:=⟨⟩
theorem tw17441772300949641366:True:=⟨⟩
theorem tw17435665886669095456:True:=⟨⟩
theorem tw17054260763785998892:True:=⟨⟩
theorem tw16612000903275812581:True:=⟨⟩
theorem tw16562086635411125325:True:=⟨⟩
theorem tw16428297391833429916:True:=⟨⟩
theorem tw1636882494307267196:True:=⟨⟩
theorem tw15982007496374043421:True:=⟨⟩
theorem tw15939717336941923029:True:=⟨⟩
theorem tw15925378814452672539:True:=⟨⟩
theorem tw15820820368645596382:True:=⟨⟩
theorem tw15818120743160724303:True:=⟨⟩
theorem tw1573138239027023636:True:=⟨⟩
theorem tw15726201577313823270:True:=⟨⟩
theorem tw15494650284417373442:True:=⟨⟩
theorem tw15439670169236323324:True:=⟨⟩
theorem tw15360184069327582682:True:=⟨⟩
theorem tw1533341083189795810:True:=⟨⟩
theorem tw15309213427396585667:True:=⟨⟩
theorem tw14964404639224707032:True:=⟨⟩
theorem tw14718076051470563074:True:=⟨⟩
theorem tw14565318956886095268:True:=⟨⟩
theorem tw14322971146178454355:True:=⟨⟩
theorem tw14199616512904304555:True:=⟨⟩
theorem tw14191271223714298473:True:=⟨⟩
theorem tw14065833803183489729:True:=⟨⟩
theorem tw14006162993285651617:True:=⟨⟩
theorem tw13888251650609352054:True:=⟨⟩
theorem tw13819445593154655258:True:=⟨⟩
theorem tw13571524784854937087:True:=⟨⟩
theorem tw13516676486662437956:True:=⟨⟩
theorem tw1344013390374328938:True:=⟨⟩
theorem tw13395293162950025933:True:=⟨⟩
theorem tw13215838138955459606:True:=⟨⟩
theorem tw13168361703298853912:True:=⟨⟩
theorem tw13140408014913316073:True:=⟨⟩
theorem tw12986044774831954969:True:=⟨⟩
theorem tw12860746301311255903:True:=⟨⟩
theorem tw12853311089270750121:True:=⟨⟩
theorem tw12730614430996786735:True:=⟨⟩
theorem tw1230804563964189944:True:=⟨⟩
theorem tw12291923350672148373:True:=⟨⟩
theorem tw12056494413494594157:True:=⟨⟩
theorem tw11979390840463249692:True:=⟨⟩
theorem tw1196988082119073897:True:=⟨⟩
theorem tw11785831463215828874:True:=⟨⟩
theorem tw11679116749266385642:True:=⟨⟩
theorem tw1163702130879659956:True:=⟨⟩
theorem tw11577775925669230807:True:=⟨⟩
theorem tw11506176104200275616:True:=⟨⟩
theorem tw1147190543066500614:True:=⟨⟩
theorem tw11454770948165814036:True:=⟨⟩
theorem tw11339388472808416560:True:=⟨⟩
theorem tw11285272129243817553:True:=⟨⟩
theorem tw11244202035762214564:True:=⟨⟩
theorem tw11124159400367052851:True:=⟨⟩
theorem tw11084513147493661779:True:=⟨⟩
theorem tw10990991892671236473:True:=⟨⟩
theorem tw10946378150171782990:True:=⟨⟩
theorem tw10628022682980356707:True:=⟨⟩
theorem tw10593221645884273339:True:=⟨⟩
theorem tw10404780489328309309:True:=⟨⟩
theorem tw10398727284610250964:True:=⟨⟩
theorem tw10287957451496885047:True:=⟨⟩
theorem tw10067595255529831802:True:=⟨⟩
theorem tw1005941127205366104:True:=⟨⟩
end PySem.W.Fast
open PySem PySem.W PyProof.Rows
set_option maxRecDepth 100000 in
set_option maxHeartbeats 0 in
theorem PySem.Challenge.cw_thinbook_k61_names_and_marks_holds : PySem.Challenge.rw_thinbook_k61_names_and_marks.Holds := by
  w_on; o_law; k_head; (case hw => w_witness2)
  k_fill
  refine TB.walk (l := PySem.Challenge.rw_thinbook_k61_names_and_marks) rfl rfl rfl (fun w h Y => PySem.W.kIn_of Y) ?F
  case F =>
    intro w mg h KX G
    refine' TB.txt_mk KX G ?aCRoll ?aCRule ?aCBook ?a0 ?l0 ?c0 ?k0 ?a1 ?l1 ?c1 ?k1 ?a2 ?l2 ?c2 ?k2 ?a3 ?l3 ?c3 ?k3 ?a4 ?l4 ?c4 ?k4 ?a5 ?l5 ?c5 ?k5 ?a6 ?l6 ?c6 ?k6 ?a7 ?l7 ?c7 ?k7 ?a8 ?l8 ?c8 ?k8 ?a9 ?l9 ?c9 ?k9 ?a10 ?l10 ?c10 ?k10 ?a11 ?i11 ?l11 ?c11 ?k11 ?a12 ?i12 ?l12 ?c12 ?k12 ?d12 ?a13 ?i13 ?l13 ?c13 ?k13 ?a14 ?i14 ?l14 ?c14 ?k14 ?a15 ?i15 ?l15 ?c15 ?k15 ?a16 ?i16 ?l16 ?c16 ?k16 ?a17 ?i17 ?l17 ?c17 ?k17 ?a18 ?i18 ?l18 ?c18 ?k18 ?a19 ?i19 ?l19 ?c19 ?k19 ?a20 ?i20 ?l20 ?c20 ?k20 ?a21 ?l21 ?c21 ?k21 ?a22 ?l22 ?c22 ?k22 ?a23 ?l23 ?c23 ?k23 ?a24 ?l24 ?c24 ?k24 ?a25 ?l25 ?c25 ?k25 ?a26 ?l26 ?c26 ?k26 ?a27 ?i27 ?l27 ?c27 ?k27 ?d27 ?a28 ?i28 ?l28 ?c28 ?k28 ?a29 ?i29 ?l29 ?c29 ?k29 ?a30 ?l30 ?c30 ?k30 ?a31 ?l31 ?c31 ?k31 ?a32 ?l32 ?c32 ?k32 ?a33 ?l33 ?c33 ?k33 ?a34 ?l34 ?c34 ?k34 ?a35 ?i35 ?l35 ?c35 ?k35 ?a36 ?i36 ?l36 ?c36 ?k36 ?d36 ?a37 ?i37 ?l37 ?c37 ?k37 ?a38 ?i38 ?l38 ?c38 ?k38 ?a39 ?i39 ?l39 ?c39 ?k39 ?a40 ?i40 ?l40 ?c40 ?k40 ?a41 ?i41 ?l41 ?c41 ?k41 ?a42 ?l42 ?c42 ?k42 ?a43 ?l43 ?c43 ?k43 ?a44 ?l44 ?c44 ?k44 ?a45 ?l45 ?c45 ?k45 ?a46 ?l46 ?c46 ?k46 ?a47 ?l47 ?c47 ?k47 ?a48 ?l48 ?c48 ?k48 ?a49 ?l49 ?c49 ?k49 ?a50 ?l50 ?c50 ?k50 ?a51 ?l51 ?c51 ?k51 ?a52 ?l52 ?c52 ?k52 ?a53 ?l53 ?c53 ?k53 ?a54 ?l54 ?c54 ?k54 ?pgRoll ?hdRoll ?poRoll ?saRoll ?mkRoll ?kcRoll ?nRoll_kept_rule ?nRoll_kept_day ?nRoll_kept_edges ?nRoll_whole_ones ?nRoll_cell_heaps ?pgRule ?hdRule ?poRule ?saRule ?mkRule ?kcRule ?nRule_kept_steps ?nRule_gone_age ?pgBook ?hdBook ?poBook ?saBook ?mkBook ?kcBook ?nBook_kept_rule ?nBook_kept_day ?nBook_kept_edges ?nBook_kept_marks ?nBook_kept_rolls ?xCBookError ?xCNoNumber ?xCNoRule ?xCBackward ?xCNoName ?xCNoMark ?xCNoText ?xEBookError ?xKBookError0 ?xKBookError1 ?xKBookError2 ?xKBookError3 ?xKBookError4 ?xKBookError5 ?xHBookError_BookError ?xIBookError_BookError ?xIBookError_NoNumber ?xIBookError_NoRule ?xIBookError_Backward ?xIBookError_NoName ?xIBookError_NoMark ?xIBookError_NoText ?xVBookError ?xENoNumber ?xKNoNumber0 ?xKNoNumber1 ?xKNoNumber2 ?xKNoNumber3 ?xKNoNumber4 ?xKNoNumber5 ?xHNoNumber_BookError ?xINoNumber_BookError ?xHNoNumber_NoNumber ?xINoNumber_NoNumber ?xINoNumber_NoRule ?xINoNumber_Backward ?xINoNumber_NoName ?xINoNumber_NoMark ?xINoNumber_NoText ?xVNoNumber ?xENoRule ?xKNoRule0 ?xKNoRule1 ?xKNoRule2 ?xKNoRule3 ?xKNoRule4 ?xKNoRule5 ?xHNoRule_BookError ?xINoRule_BookError ?xINoRule_NoNumber ?xHNoRule_NoRule ?xINoRule_NoRule ?xINoRule_Backward ?xINoRule_NoName ?xINoRule_NoMark ?xINoRule_NoText ?xVNoRule ?xKBackward0 ?xKBackward1 ?xKBackward2 ?xKBackward3 ?xKBackward4 ?xKBackward5 ?xHBackward_BookError ?xIBackward_BookError ?xIBackward_NoNumber ?xIBackward_NoRule ?xHBackward_Backward ?xIBackward_Backward ?xIBackward_NoName ?xIBackward_NoMark ?xIBackward_NoText ?xVBackward ?xENoName ?xKNoName0 ?xKNoName1 ?xKNoName2 ?xKNoName3 ?xKNoName4 ?xKNoName5 ?xHNoName_BookError ?xINoName_BookError ?xINoName_NoNumber ?xINoName_NoRule ?xINoName_Backward ?xHNoName_NoName ?xINoName_NoName ?xINoName_NoMark ?xINoName_NoText ?xVNoName ?xENoMark ?xKNoMark0 ?xKNoMark1 ?xKNoMark2 ?xKNoMark3 ?xKNoMark4 ?xKNoMark5 ?xHNoMark_BookError ?xINoMark_BookError ?xINoMark_NoNumber ?xINoMark_NoRule ?xINoMark_Backward ?xINoMark_NoName ?xHNoMark_NoMark ?xINoMark_NoMark ?xINoMark_NoText ?xVNoMark ?xKNoText0 ?xKNoText1 ?xKNoText2 ?xKNoText3 ?xKNoText4 ?xKNoText5 ?xHNoText_BookError ?xINoText_BookError ?xINoText_NoNumber ?xINoText_NoRule ?xINoText_Backward ?xINoText_NoName ?xINoText_NoMark ?xHNoText_NoText ?xINoText_NoText ?xVNoText ?z_all ?z_bool ?z_enumerate ?z_int ?z_isinstance ?z_len ?z_list ?z_max ?z_min ?z_range ?z_set ?z_sorted ?z_str ?z_sum ?z_tuple ?z_zip ?y_MOST_STEPS ?y_LETTERS ?y_LONGEST_NAME ?y_LONGEST_MARK ?y_MOST_MARKS
    (case aCRoll | aCRule | aCBook | a0 | l0 | c0 | k0 | a1 | l1 | c1 | k1 | a2 | l2 | c2 | k2 | a3 | l3 | c3 | k3 | a4 | l4 | c4 | k4 | a5 | l5 | c5 | k5 | a6 | l6 | c6 | k6 | a7 | l7 | c7 | k7 | a8 | l8 | c8 | k8 | a9 | l9 | c9 | k9 | a10 | l10 | c10 | k10 | a11 | i11 | l11 | c11 | k11 | a12 | i12 | l12 | c12 | k12 | d12 | a13 | i13 | l13 | c13 | k13 | a14 | i14 | l14 | c14 | k14 | a15 | i15 | l15 | c15 | k15 | a16 | i16 | l16 | c16 | k16 | a17 | i17 | l17 | c17 | k17 | a18 | i18 | l18 | c18 | k18 | a19 | i19 | l19 | c19 | k19 | a20 | i20 | l20 | c20 | k20 | a21 | l21 | c21 | k21 | a22 | l22 | c22 | k22 | a23 | l23 | c23 | k23 | a24 | l24 | c24 | k24 | a25 | l25 | c25 | k25 | a26 | l26 | c26 | k26 | a27 | i27 | l27 | c27 | k27 | d27 | a28 | i28 | l28 | c28 | k28 | a29 | i29 | l29 | c29 | k29 | a30 | l30 | c30 | k30 | a31 | l31 | c31 | k31 | a32 | l32 | c32 | k32 | a33 | l33 | c33 | k33 | a34 | l34 | c34 | k34 | a35 | i35 | l35 | c35 | k35 | a36 | i36 | l36 | c36 | k36 | d36 | a37 | i37 | l37 | c37 | k37 | a38 | i38 | l38 | c38 | k38 | a39 | i39 | l39 | c39 | k39 | a40 | i40 | l40 | c40 | k40 | a41 | i41 | l41 | c41 | k41 | a42 | l42 | c42 | k42 | a43 | l43 | c43 | k43 | a44 | l44 | c44 | k44 | a45 | l45 | c45 | k45 | a46 | l46 | c46 | k46 | a47 | l47 | c47 | k47 | a48 | l48 | c48 | k48 | a49 | l49 | c49 | k49 | a50 | l50 | c50 | k50 | a51 | l51 | c51 | k51 | a52 | l52 | c52 | k52 | a53 | l53 | c53 | k53 | a54 | l54 | c54 | k54 | pgRoll | hdRoll | poRoll | saRoll | mkRoll | kcRoll | nRoll_kept_rule | nRoll_kept_day | nRoll_kept_edges | nRoll_whole_ones | nRoll_cell_heaps | pgRule | hdRule | poRule | saRule | mkRule | kcRule | nRule_kept_steps | nRule_gone_age | pgBook | hdBook | poBook | saBook | mkBook | kcBook | nBook_kept_rule | nBook_kept_day | nBook_kept_edges | nBook_kept_marks | nBook_kept_rolls | xCBookError | xCNoNumber | xCNoRule | xCBackward | xCNoName | xCNoMark | xCNoText | xKBookError0 | xKBookError1 | xKBookError2 | xKBookError3 | xKBookError4 | xHBookError_BookError | xKNoNumber0 | xKNoNumber1 | xKNoNumber2 | xKNoNumber3 | xKNoNumber4 | xHNoNumber_BookError | xHNoNumber_NoNumber | xKNoRule0 | xKNoRule1 | xKNoRule2 | xKNoRule3 | xKNoRule4 | xHNoRule_BookError | xHNoRule_NoRule | xKBackward0 | xKBackward1 | xKBackward2 | xKBackward3 | xKBackward4 | xHBackward_BookError | xHBackward_Backward | xKNoName0 | xKNoName1 | xKNoName2 | xKNoName3 | xKNoName4 | xHNoName_BookError | xHNoName_NoName | xKNoMark0 | xKNoMark1 | xKNoMark2 | xKNoMark3 | xKNoMark4 | xHNoMark_BookError | xHNoMark_NoMark | xKNoText0 | xKNoText1 | xKNoText2 | xKNoText3 | xKNoText4 | xHNoText_BookError | xHNoText_NoText | z_all | z_bool | z_enumerate | z_int | z_isinstance | z_len | z_list | z_max | z_min | z_range | z_set | z_sorted | z_str | z_sum | z_tuple | z_zip | y_MOST_STEPS | y_LETTERS | y_LONGEST_NAME | y_LONGEST_MARK | y_MOST_MARKS => k_is)
    (case xEBookError | xENoNumber | xENoRule | xENoName | xENoMark => k_exc)
    (case xKBookError5 | xKNoNumber5 | xKNoRule5 | xKBackward5 | xKNoName5 | xKNoMark5 | xKNoText5 => kts_isx)
    (case xIBookError_BookError | xIBookError_NoNumber | xIBookError_NoRule | xIBookError_Backward | xIBookError_NoName | xIBookError_NoMark | xIBookError_NoText | xVBookError | xINoNumber_BookError | xINoNumber_NoNumber | xINoNumber_NoRule | xINoNumber_Backward | xINoNumber_NoName | xINoNumber_NoMark | xINoNumber_NoText | xVNoNumber | xINoRule_BookError | xINoRule_NoNumber | xINoRule_NoRule | xINoRule_Backward | xINoRule_NoName | xINoRule_NoMark | xINoRule_NoText | xVNoRule | xIBackward_BookError | xIBackward_NoNumber | xIBackward_NoRule | xIBackward_Backward | xIBackward_NoName | xIBackward_NoMark | xIBackward_NoText | xVBackward | xINoName_BookError | xINoName_NoNumber | xINoName_NoRule | xINoName_Backward | xINoName_NoName | xINoName_NoMark | xINoName_NoText | xVNoName | xINoMark_BookError | xINoMark_NoNumber | xINoMark_NoRule | xINoMark_Backward | xINoMark_NoName | xINoMark_NoMark | xINoMark_NoText | xVNoMark | xINoText_BookError | xINoText_NoNumber | xINoText_NoRule | xINoText_Backward | xINoText_NoName | xINoText_NoMark | xINoText_NoText | xVNoText => kit_is)
