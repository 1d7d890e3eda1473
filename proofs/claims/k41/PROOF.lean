import PyProof.Rows.All
import Wide.All
import OpenK.AllK
import Wide.FinOn
import Lean
import PyProof.EqAt
import PyProof.EqKinds
import PyProof.TupleCall
import PySem.Challenge.RW_thinbook_k41_pieces_of_a_roll
set_option Elab.async false
set_option linter.all false
set_option maxRecDepth 100000
namespace L2
open PySem PySem.Spec PyProof.Rows
abbrev Key := Sum Int Str
def keyIs : Key → Value → Bool
  | .inl k, v => Value.isInt k v
  | .inr x, v => Value.isStrOf x v
def keyH (w : World) : Key → Int
  | .inl k => hashInt k
  | .inr x => hashStr w x
theorem keyIs_shape : ∀ {k : Key} {v : Value}, keyIs k v = true → (∃ i t, k = Sum.inl i ∧ v = Value.int i t) ∨ (∃ x t, k = Sum.inr x ∧ v = Value.str x t)
  | .inl i, v, h => by
    obtain ⟨t, e⟩ := Value.isInt_shape (k := i) (v := v) h
    exact .inl ⟨i, t, rfl, e⟩
  | .inr x, v, h => by
    obtain ⟨t, e⟩ := Value.isStrOf_shape (x := x) (v := v) h
    exact .inr ⟨x, t, rfl, e⟩
theorem keyIs_int (i : Int) (t : Tok) : keyIs (.inl i) (.int i t) = true := by simp [keyIs, Value.isInt]
theorem keyIs_str (x : Str) (t : Tok) : keyIs (.inr x) (.str x t) = true := by simp [keyIs, Value.isStrOf]
theorem key_ll (a b : Int) : decide ((Sum.inl a : Key) = Sum.inl b) = (a == b) := by
  by_cases e : a = b
  · subst e; simp
  · have h : ¬ (Sum.inl a : Key) = Sum.inl b := fun q => e (Sum.inl.inj q)
    rw [decide_eq_false h]
    exact (beq_eq_false_iff_ne.mpr e).symm
theorem key_rr (a b : Str) : decide ((Sum.inr a : Key) = Sum.inr b) = decide (a = b) := by
  by_cases e : a = b
  · subst e; simp
  · have h : ¬ (Sum.inr a : Key) = Sum.inr b := fun q => e (Sum.inr.inj q)
    rw [decide_eq_false h, decide_eq_false e]
theorem key_lr (a : Int) (b : Str) : decide ((Sum.inl a : Key) = Sum.inr b) = false := decide_eq_false (fun q => nomatch q)
theorem key_rl (a : Str) (b : Int) : decide ((Sum.inr a : Key) = Sum.inl b) = false := decide_eq_false (fun q => nomatch q)
def mixKind (prog : Program) (w : World) : PySem.KeyKind prog w Key where
  is := keyIs
  hash := keyH w
  inj := fun v a b ha hb => by
    rcases keyIs_shape ha with ⟨i, t, rfl, rfl⟩ | ⟨x, t, rfl, rfl⟩
    · rcases keyIs_shape hb with ⟨j, u, rfl, e⟩ | ⟨y, u, rfl, e⟩
      · injection e with e1 _; rw [e1]
      · exact nomatch e
    · rcases keyIs_shape hb with ⟨j, u, rfl, e⟩ | ⟨y, u, rfl, e⟩
      · exact nomatch e
      · injection e with e1 _; rw [e1]
  byValue := fun k v h => by
    rcases keyIs_shape h with ⟨i, t, rfl, rfl⟩ | ⟨x, t, rfl, rfl⟩ <;> rfl
  pyHash := fun hv h => by
    rcases keyIs_shape hv with ⟨i, t, rfl, rfl⟩ | ⟨x, t, rfl, rfl⟩
    · exact wpAny_pyHash_int h
    · exact wpAny_pyHash_str h
  eqBool := fun hu hv h => by
    rcases keyIs_shape hu with ⟨i, t, rfl, rfl⟩ | ⟨x, t, rfl, rfl⟩
    · rcases keyIs_shape hv with ⟨j, u, rfl, rfl⟩ | ⟨y, u, rfl, rfl⟩
      · rw [key_ll] at h; exact wpAny_eqBool_int h
      · rw [key_lr] at h; exact SeqAt.EqAt.int_str i t y u _ _ _ _ h
    · rcases keyIs_shape hv with ⟨j, u, rfl, rfl⟩ | ⟨y, u, rfl, rfl⟩
      · rw [key_rl] at h; exact SeqAt.EqAt.str_int x t j u _ _ _ _ h
      · rw [key_rr] at h; exact wpAny_eqBool_str h
  «strs» := fun k x t v h => by
    rcases keyIs_shape h with ⟨i, u, rfl, e⟩ | ⟨y, u, rfl, e⟩
    · exact nomatch e
    · injection e with e1 _
      subst e1
      cases v <;> rfl
theorem mixKind_int (prog : Program) (w : World) (i : Int) (t : Tok) : (mixKind prog w).is (.inl i) (.int i t) = true := keyIs_int i t
theorem mixKind_str (prog : Program) (w : World) (x : Str) (t : Tok) : (mixKind prog w).is (.inr x) (.str x t) = true := keyIs_str x t
end L2
namespace L2
open PySem PySem.Spec PyProof.Rows
inductive V where
  | non | bl (b : Bool) | int (i : Int) | str (x : Str) | byt (b : Array UInt8) | flt (b : UInt64) | ref (a : Addr) | ty (n : String)
  deriving DecidableEq
def RelV : V → Value → Prop
  | .non, u => u = Value.none
  | .bl b, u => u = Value.bool b
  | .int i, u => ∃ t, u = Value.int i t
  | .str x, u => ∃ t, u = Value.str x t
  | .byt b, u => ∃ t, u = Value.bytes b t
  | .flt b, u => ∃ t, u = Value.float b t
  | .ref a, u => u = Value.ref a
  | .ty n, u => u = Value.type n
abbrev Vals : List V → List Value → Prop := Paired RelV
theorem Vals.length {xs : List V} {us : List Value} (r : Vals xs us) : xs.length = us.length := Paired.length r
theorem Vals.get : ∀ {xs : List V} {us : List Value} {i : Nat} {x : V}, Vals xs us → xs[i]? = some x → ∃ u, us[i]? = some u ∧ RelV x u
  | _, _, _, _, .nil, e => by simp at e
  | _, _, 0, _, .cons r _, e => by simp at e; subst e; exact ⟨_, rfl, r⟩
  | _, _, i + 1, x, .cons _ t, e => by
    obtain ⟨u, h1, h2⟩ := Vals.get (i := i) (x := x) t (by simpa using e)
    exact ⟨u, by simpa using h1, h2⟩
theorem Vals.set {x : V} {u : Value} (r : RelV x u) : ∀ {xs : List V} {us : List Value} (i : Nat), Vals xs us → Vals (xs.set i x) (us.set i u)
  | _, _, _, .nil => .nil
  | _, _, 0, .cons _ t => .cons r t
  | _, _, i + 1, .cons q t => .cons q (Vals.set r i t)
theorem Vals.append : ∀ {xs ys : List V} {us ws : List Value}, Vals xs us → Vals ys ws → Vals (xs ++ ys) (us ++ ws)
  | _, _, _, _, .nil, s => s
  | _, _, _, _, .cons r t, s => .cons r (Vals.append t s)
theorem Vals.take : ∀ {xs : List V} {us : List Value} (n : Nat), Vals xs us → Vals (xs.take n) (us.take n)
  | _, _, 0, _ => .nil
  | _, _, _ + 1, .nil => .nil
  | _, _, n + 1, .cons r t => .cons r (Vals.take n t)
theorem Vals.drop : ∀ {xs : List V} {us : List Value} (n : Nat), Vals xs us → Vals (xs.drop n) (us.drop n)
  | _, _, 0, r => r
  | _, _, _ + 1, .nil => .nil
  | _, _, n + 1, .cons _ t => Vals.drop n t
theorem Vals.none_of : ∀ {xs : List V} {us : List Value} {i : Nat}, Vals xs us → xs[i]? = none → us[i]? = none := fun {xs us i} r e => by
  have h1 := r.length
  have h2 : xs.length ≤ i := List.getElem?_eq_none_iff.mp e
  exact List.getElem?_eq_none_iff.mpr (by omega)
def RelO : Option V → Option Value → Prop
  | some v, some u => RelV v u
  | none, none => True
  | _, _ => False
def KV {κ : Type} : List (κ × V) → List (κ × Value) → Prop := Paired fun (p : κ × V) (q : κ × Value) => p.1 = q.1 ∧ RelV p.2 q.2
def kV : Key → V
  | .inl i => .int i
  | .inr x => .str x
inductive HO where
  | lst (xs : List V)
  | tup (xs : List V)
  | dK (kvs : List (Key × V)) | dT (kvs : List (List Key × V))
  | set (S : Int → Bool) (n : Nat)
  | ins (C dx : Addr) (fs : List (Str × V))
  | own (x : Addr)
  | xd (fs : List (Str × V))
  | met (f x : Addr)
  | rng (lo hi : Int)
  | frz (o : Obj) (u : HO)
  | tbl (ps : Array Value)
  | ext (φ : Heap → Prop)
abbrev Hp := Addr → Option HO
def upd (H : Hp) (a : Addr) (o : HO) : Hp := fun b => if b = a then some o else H b
theorem upd_same {H : Hp} {a : Addr} {o : HO} : upd H a o a = some o := by unfold upd; rw [if_pos rfl]
theorem upd_ne {H : Hp} {a b : Addr} {o : HO} (h : b ≠ a) : upd H a o b = H b := by unfold upd; rw [if_neg h]
theorem ne_of {H : Hp} {a b : Addr} {o u : HO} (h : H a = some o) (h' : H b = some u) (d : o ≠ u) : a ≠ b := by
  intro e; subst e; rw [h] at h'; exact d (Option.some.inj h')
theorem ne_of_none {H : Hp} {a b : Addr} {o : HO} (h : H a = some o) (h' : H b = none) : a ≠ b := by
  intro e; subst e; rw [h] at h'; cases h'
section
variable (P : Program) (w : World)
def ObjOk (H : Hp) (h : Heap) (a : Addr) : HO → Prop
  | .lst xs => xs.length ≤ sizeLine ∧ ∃ (its : List Value) (n : Nat), Vals xs its ∧ h.get? a = some { cls := .type "list", data := .seq its.toArray n }
  | .tup xs => xs.length ≤ sizeLine ∧ ∃ its : List Value, Vals xs its ∧ IsTup h a its.toArray
  | .dK kvs => kvs.length ≤ sizeLine ∧ (a == sysModules) = false ∧ ∃ vs, KV kvs vs ∧ h.DictOf (mixKind P w) a vs
  | .dT kvs => kvs.length ≤ sizeLine ∧ (a == sysModules) = false ∧ ∃ xs : List (List Key × Addr × Value),
      Paired (fun (p : List Key × V) (q : List Key × Addr × Value) => p.1 = q.1 ∧ H q.2.1 = some (.tup (p.1.map kV)) ∧ RelV p.2 q.2.2) kvs xs ∧
      ∃ o es ep, h.get? a = some o ∧ o.ExactDict ∧ o.data = .dict es ep ∧ es.toList = xs.map (entryOfKey (tupleKind (mixKind P w))) ∧ (xs.map (·.1)).Nodup
  | .set S n => h.SetOf (intKind P w) a S n
  | .ins C dx fs => H dx = some (.own a) ∧ fs.length ≤ 1000 ∧ dx ≠ a ∧ h.get? a = some (PySem.W.instObj C dx) ∧
      ∃ mA, h.Ns1 dx mA ∧ (∀ f, RelO (fs.lookup f) (mA f)) ∧ PySem.Within mA (fs.map (·.1))
  | .own _ => ∃ o, h.get? a = some o
  | .xd fs => ∃ mA, h.Ns1 a mA ∧ ∀ f, RelO (fs.lookup f) (mA f)
  | .rng lo hi => ∃ t u v, h.get? a = some { cls := .type "range", data := .fields #[.int lo t, .int hi u, .int 1 v] }
  | .frz o u => h.get? a = some o ∧ ObjOk H h a u
  | .tbl ps => h.get? a = some { cls := .none, data := .fields ps }
  | .met f x => h.get? a = some (PySem.W.methodObj (.ref f) (.ref x))
  | .ext φ => φ h ∧ (∃ o, h.get? a = some o) ∧ ∀ h1 h2 : Heap, φ h1 → (∀ o, h1.get? a = some o → h2.get? a = some o) → φ h2
def HOk (H : Hp) (h : Heap) : Prop := ∀ a o, H a = some o → ObjOk P w H h a o
end
section
variable {P : Program} {w : World} {H H' : Hp} {h h' : Heap} {a : Addr} {o : HO}
theorem ObjOk.lt (x : ObjOk P w H h a o) : a < h.objs.size := by
  cases o with
  | lst xs => obtain ⟨_, _, _, _, e⟩ := x; exact Heap.lt_size e
  | tup xs => obtain ⟨_, _, _, p⟩ := x; exact p.lt
  | dK kvs => obtain ⟨_, _, _, _, o, _, _, e, _⟩ := x; exact Heap.lt_size e
  | dT kvs => obtain ⟨_, _, _, _, o, _, _, e, _⟩ := x; exact Heap.lt_size e
  | set S n => obtain ⟨o, _, _, _, e, _⟩ := x; exact Heap.lt_size e
  | ins C dx fs => obtain ⟨_, _, _, e, _⟩ := x; exact Heap.lt_size e
  | own y => obtain ⟨_, e⟩ := x; exact Heap.lt_size e
  | xd fs => obtain ⟨_, ⟨_, _, _, e, _⟩, _⟩ := x; exact Heap.lt_size e
  | rng lo hi => obtain ⟨_, _, _, e⟩ := x; exact Heap.lt_size e
  | frz ob u => obtain ⟨e, _⟩ := x; exact Heap.lt_size e
  | tbl ps => exact Heap.lt_size (show h.get? a = some _ from x)
  | met f y => exact Heap.lt_size (show h.get? a = some _ from x)
  | ext φ => obtain ⟨_, ⟨_, e⟩, _⟩ := x; exact Heap.lt_size e
theorem Paired.mapP {α β : Type} {F G : α → β → Prop} : ∀ {l₁ : List α} {l₂ : List β}, Paired F l₁ l₂ → (∀ a b, F a b → G a b) → Paired G l₁ l₂
  | _, _, .nil, _ => .nil
  | _, _, .cons r t, f => .cons (f _ _ r) (Paired.mapP t f)
theorem ObjOk.stay (x : ObjOk P w H h a o) (k : ∀ b u, (b = a ∨ H b = some (.own a)) → h.get? b = some u → h'.get? b = some u)
    (ho : ∀ b, H b = some (.own a) → H' b = some (.own a)) (ht : ∀ b xs, H b = some (.tup xs) → H' b = some (.tup xs)) : ObjOk P w H' h' a o := by
  induction o with
  | lst xs => obtain ⟨z, its, n, r, e⟩ := x; exact ⟨z, its, n, r, k _ _ (.inl rfl) e⟩
  | tup xs => obtain ⟨z, its, r, ob, e, c⟩ := x; exact ⟨z, its, r, ob, k _ _ (.inl rfl) e, c⟩
  | dK kvs => obtain ⟨z, y, vs, r, ob, es, ep, e, c⟩ := x; exact ⟨z, y, vs, r, ob, es, ep, k _ _ (.inl rfl) e, c⟩
  | dT kvs =>
    obtain ⟨z, y, xs, r, ob, es, ep, e, c⟩ := x
    exact ⟨z, y, xs, Paired.mapP r fun p q z => ⟨z.1, ht _ _ z.2.1, z.2.2⟩, ob, es, ep, k _ _ (.inl rfl) e, c⟩
  | set S n => obtain ⟨ob, es, ep, t, e, c⟩ := x; exact ⟨ob, es, ep, t, k _ _ (.inl rfl) e, c⟩
  | ins C dx fs =>
    obtain ⟨d, z, ne, e, mA, ⟨od, es, ep, e2, c⟩, r⟩ := x
    exact ⟨ho _ d, z, ne, k _ _ (.inl rfl) e, mA, ⟨od, es, ep, k _ _ (.inr d) e2, c⟩, r⟩
  | own y => obtain ⟨ob, e⟩ := x; exact ⟨ob, k _ _ (.inl rfl) e⟩
  | xd fs => obtain ⟨mA, ⟨od, es, ep, e, c⟩, r⟩ := x; exact ⟨mA, ⟨od, es, ep, k _ _ (.inl rfl) e, c⟩, r⟩
  | rng lo hi => obtain ⟨t, u, v, e⟩ := x; exact ⟨t, u, v, k _ _ (.inl rfl) e⟩
  | frz ob u ih => obtain ⟨e, q⟩ := x; exact ⟨k _ _ (.inl rfl) e, ih q⟩
  | tbl ps =>
    have e : h.get? a = some { cls := .none, data := .fields ps } := x
    show h'.get? a = some { cls := .none, data := .fields ps }
    exact k a _ (.inl rfl) e
  | met f y =>
    have e : h.get? a = some (PySem.W.methodObj (.ref f) (.ref y)) := x
    show h'.get? a = some (PySem.W.methodObj (.ref f) (.ref y))
    exact k a _ (.inl rfl) e
  | ext φ => obtain ⟨p, ⟨o, e⟩, st⟩ := x; exact ⟨st _ _ p fun o q => k _ _ (.inl rfl) q, ⟨o, k _ _ (.inl rfl) e⟩, st⟩
theorem HOk.lt (x : HOk P w H h) (e : H a = some o) : a < h.objs.size := (x a o e).lt
theorem HOk.fresh (x : HOk P w H h) (e : h.objs.size ≤ a) : H a = none := by
  cases q : H a with
  | none => rfl
  | some u => exact absurd (Nat.lt_of_lt_of_le (x.lt q) e) (Nat.lt_irrefl _)
theorem HOk.kept (x : HOk P w H h) (k : ∀ b u, h.get? b = some u → h'.get? b = some u) : HOk P w H h' := fun a o e =>
  (x a o e).stay (fun b u _ q => k b u q) (fun _ q => q) fun _ _ q => q
theorem HOk.laid (x : HOk P w H h) (k : ∀ b u, h.get? b = some u → h'.get? b = some u) (hp : h.objs.size ≤ a) (new : ObjOk P w (upd H a o) h' a o) : HOk P w (upd H a o) h' := fun b u e => by
  have hn := x.fresh hp
  by_cases hb : b = a
  · subst hb; rw [upd_same] at e; cases e; exact new
  · rw [upd_ne hb] at e
    exact (x b u e).stay (fun c v _ q => k c v q) (fun c q => by rw [upd_ne (ne_of_none q hn)]; exact q) fun c xs q => by rw [upd_ne (ne_of_none q hn)]; exact q
end
def Rd (H : Hp) (a : Addr) (u : HO) : Prop := H a = some u ∨ ∃ o, H a = some (.frz o u)
theorem Rd.of {H : Hp} {a : Addr} {u : HO} (h : H a = some u) : Rd H a u := .inl h
theorem Rd.ok {P : Program} {w : World} {H : Hp} {h : Heap} {a : Addr} {u : HO} (r : Rd H a u) (x : HOk P w H h) : ObjOk P w H h a u := by
  rcases r with r | ⟨o, r⟩
  · exact x a u r
  · obtain ⟨_, q⟩ := x a _ r
    exact q
def Mut : Option HO → Prop
  | some (.lst _) => True
  | some (.dK _) => True
  | some (.dT _) => True
  | some (.set _ _) => True
  | some (.ins _ _ _) => True
  | some (.ext _) => True
  | _ => False
section
variable {P : Program} {w : World} {H : Hp} {h h' : Heap} {x e : Addr} {o' : HO}
theorem HOk.write (ok : HOk P w H h) (mu : Mut (H x)) (he : e = x ∨ H e = some (.own x)) (k : ∀ b u, b ≠ e → h.get? b = some u → h'.get? b = some u) (heo : ∃ u, h'.get? e = some u)
    (new : ObjOk P w (upd H x o') h' x o') : HOk P w (upd H x o') h' := fun b u q => by
  have nown : ∀ c y, H c = some (.own y) → c ≠ x := fun c y r z => by subst z; rw [r] at mu; exact mu
  have ntup : ∀ c xs, H c = some (.tup xs) → c ≠ x := fun c xs r z => by subst z; rw [r] at mu; exact mu
  by_cases hb : b = x
  · subst hb; rw [upd_same] at q; cases q; exact new
  · rw [upd_ne hb] at q
    by_cases hbe : b = e
    · have q' : H b = some (.own x) := by
        rcases he with z | z
        · exact absurd (hbe.trans z) hb
        · rw [hbe]; exact z
      rw [q] at q'; cases q'
      obtain ⟨v, hv⟩ := heo
      exact ⟨v, by rw [hbe]; exact hv⟩
    · refine (ok b u q).stay (fun c v hc r => k c v ?_ r) (fun c r => by rw [upd_ne (nown c b r)]; exact r) fun c xs r => by rw [upd_ne (ntup c xs r)]; exact r
      rcases hc with rfl | hc
      · exact hbe
      · rintro rfl
        rcases he with z | z
        · exact nown c b hc z
        · rw [hc] at z; cases z; exact hb rfl
end
structure Un (fs ex : List Addr) (H H' : Hp) (h h' : Heap) : Prop where
  keep : ∀ b o, h.get? b = some o → H b = none → b ∉ fs → b ∉ ex → h'.get? b = some o
  slot : ∀ b o, h.get? b = some o → H b = none → b ∈ fs → b ∉ ex → ∃ sl, h'.get? b = some { o with slots := sl }
  free : ∀ b o, h.get? b = some o → H b = none → b ∉ ex → H' b = none
  there : ∀ b o, h.get? b = some o → b ∉ ex → ∃ o', h'.get? b = some o'
  tups : ∀ b xs, H b = some (.tup xs) → H' b = some (.tup xs)
  frzs : ∀ b o u, H b = some (.frz o u) → H' b = some (.frz o u)
  tbls : ∀ b ps, H b = some (.tbl ps) → ∃ more, H' b = some (.tbl (ps ++ more))
section
variable {fs fs' ex ex' : List Addr} {H H1 H2 : Hp} {h h1 h2 h' : Heap} {a x e : Addr} {o : HO}
theorem Un.any (u : Un fs ex H H1 h h1) {b : Addr} {ob : Obj} (q : h.get? b = some ob) (n : H b = none) (hx : b ∉ ex) : ∃ sl, h1.get? b = some { ob with slots := sl } := by
  by_cases hb : b ∈ fs
  · exact u.slot b ob q n hb hx
  · exact ⟨ob.slots, u.keep b ob q n hb hx⟩
theorem Un.trans (a : Un fs ex H H1 h h1) (b : Un fs ex H1 H2 h1 h2) : Un fs ex H H2 h h2 where
  keep := fun c ob q n hc hx => b.keep c ob (a.keep c ob q n hc hx) (a.free c ob q n hx) hc hx
  slot := fun c ob q n hc hx => by
    obtain ⟨sl, e1⟩ := a.slot c ob q n hc hx
    obtain ⟨sl', e2⟩ := b.slot c _ e1 (a.free c ob q n hx) hc hx
    exact ⟨sl', e2⟩
  free := fun c ob q n hx => by
    obtain ⟨o', e1⟩ := a.there c ob q hx
    exact b.free c o' e1 (a.free c ob q n hx) hx
  there := fun c ob q hx => by
    obtain ⟨o', e1⟩ := a.there c ob q hx
    exact b.there c o' e1 hx
  tups := fun c xs q => b.tups c xs (a.tups c xs q)
  frzs := fun c ob xs q => b.frzs c ob xs (a.frzs c ob xs q)
  tbls := fun c ps q => by
    obtain ⟨m1, e1⟩ := a.tbls c ps q
    obtain ⟨m2, e2⟩ := b.tbls c _ e1
    exact ⟨m1 ++ m2, by rw [e2, Array.append_assoc]⟩
theorem Un.kept (k : ∀ b u, h.get? b = some u → h'.get? b = some u) : Un fs ex H H h h' :=
  ⟨fun b ob q _ _ _ => k b ob q, fun b ob q _ _ _ => ⟨ob.slots, k b ob q⟩, fun _ _ _ n _ => n, fun b ob q _ => ⟨ob, k b ob q⟩, fun _ _ q => q, fun _ _ _ q => q, fun _ ps q => ⟨#[], by rw [q]; simp⟩⟩
theorem Un.refl : Un fs ex H H h h := Un.kept fun _ _ q => q
theorem Un.laid (k : ∀ b u, h.get? b = some u → h'.get? b = some u) (hp : h.objs.size ≤ a) (hn : H a = none) : Un fs ex H (upd H a o) h h' where
  keep := fun b u q _ _ _ => k b u q
  slot := fun b u q _ _ _ => ⟨u.slots, k b u q⟩
  free := fun b u q n _ => by rw [upd_ne (Nat.ne_of_lt (Nat.lt_of_lt_of_le (Heap.lt_size q) hp))]; exact n
  there := fun b u q _ => ⟨u, k b u q⟩
  tups := fun b xs q => by rw [upd_ne (ne_of_none q hn)]; exact q
  frzs := fun b u xs q => by rw [upd_ne (ne_of_none q hn)]; exact q
  tbls := fun b ps q => ⟨#[], by rw [upd_ne (ne_of_none q hn), q]; simp⟩
theorem Un.write (mu : Mut (H x)) (he : e = x ∨ H e = some (.own x)) (k : ∀ b u, b ≠ e → h.get? b = some u → h'.get? b = some u) (heo : ∃ u, h'.get? e = some u) : Un fs ex H (upd H x o) h h' := by
  have hx : ∀ b, H b = none → b ≠ x := fun b n z => by subst z; rw [n] at mu; exact mu
  have hb : ∀ b, H b = none → b ≠ e := fun b n z => by
    subst z
    rcases he with r | r
    · exact hx b n r
    · rw [n] at r; cases r
  have hm : ∀ b u, H b = some u → ¬ Mut (some u) → b ≠ x := fun b u q nm z => by subst z; rw [q] at mu; exact nm mu
  refine ⟨fun b u q n _ _ => k b u (hb b n) q, fun b u q n _ _ => ⟨u.slots, k b u (hb b n) q⟩, fun b u q n _ => by rw [upd_ne (hx b n)]; exact n, fun b u q _ => ?_,
    fun b xs q => by rw [upd_ne (hm b _ q fun z => z)]; exact q, fun b u xs q => by rw [upd_ne (hm b _ q fun z => z)]; exact q, fun b ps q => ⟨#[], by rw [upd_ne (hm b _ q fun z => z), q]; simp⟩⟩
  by_cases hbe : b = e
  · subst hbe; exact heo
  · exact ⟨u, k b u hbe q⟩
theorem Un.mono (u : Un fs ex H H1 h h1) (hs : ∀ b ∈ fs, b ∈ fs') (hx : ∀ b ∈ ex, b ∈ ex') : Un fs' ex' H H1 h h1 :=
  ⟨fun b ob q n hb he => u.keep b ob q n (fun z => hb (hs b z)) fun z => he (hx b z), fun _ _ q n _ he => u.any q n fun z => he (hx _ z), fun b ob q n he => u.free b ob q n fun z => he (hx b z), fun b ob q he => u.there b ob q fun z => he (hx b z), u.tups, u.frzs, u.tbls⟩
end
def trk (h : Heap) (H : Hp) : List Addr := (List.range h.objs.size).filter fun a => (H a).isSome
def hidT (h : Heap) (H : Hp) : Heap := PySem.W.hideAll h (trk h H)
theorem hidT_size (h : Heap) (H : Hp) : (hidT h H).objs.size = h.objs.size := PySem.W.hideAll_size _ _
theorem hidT_get {h : Heap} {H : Hp} {b : Addr} {o : Obj} (e : h.get? b = some o) (n : H b = none) : (hidT h H).get? b = some o :=
  PySem.W.hideAll_get _ e fun hm => by
    have q : (H b).isSome = true := (List.mem_filter.mp hm).2
    rw [n] at q; simp at q
theorem of_hidT {h : Heap} {H : Hp} {b : Addr} {o : Obj} (e : (hidT h H).get? b = some o) : h.get? b = some o ∧ H b = none := by
  have e' : h.get? b = some o := PySem.W.of_hideAll (trk h H) e
  refine ⟨e', ?_⟩
  cases q : H b with
  | none => rfl
  | some x =>
    have hm : b ∈ trk h H := List.mem_filter.mpr ⟨List.mem_range.mpr (Heap.lt_size e'), by simp [q]⟩
    have z : (hidT h H).get? b = none := PySem.W.hideAll_none (trk h H) hm
    rw [z] at e; cases e
def allNews (g h : Heap) (L : Addr) : List (Addr × Obj) := (List.range h.objs.size).filterMap fun a => if a = L ∨ (g.get? a).isSome = true then none else (h.get? a).map fun o => (a, o)
def rest (g h : Heap) (L d : Addr) : List (Addr × Obj) := (allNews g h L).filter fun p => decide (p.1 ≠ d)
end L2
namespace L2
open PySem PySem.Spec PyProof.Rows
structure Mod (K : PySem.W.Frag) (mg : Str → Option Value) (base : Heap) : Prop where
  kin : K.In base
  glob : base.Ns mainGlobals mg
  blt : ∃ mb, base.Ns builtinsNs mb ∧ ∀ x : Str, x ≠ "__name__" → mb x = bootBuiltins x
  nolimit : base.NoLimit
structure Cx where
  prog : Program
  w : World
  K : PySem.W.Frag
  mg : Str → Option Value
  base : Heap
  A : Around
  N : List Str
  s₀ : Shared
  H₀ : Hp
  env : Env
  outer : List Env
  stack : List Env
  ex : List Addr
  fn : Str → Bool
  calm : Bool
  pn : List (Addr × Obj)
  xe : Value → Shared → Prop
def frs (l : List Env) : List Addr := l.filterMap (·.frame)
abbrev Cx.fs (X : Cx) : List Addr := frs X.outer
def Vis (sc : Scope) (x : Str) : Prop := sc.names.lookup x = some .local ∨ sc.names.lookup x = some .cell ∨ sc.names.lookup x = some .free
def Loc (sc : Scope) (x : Str) : Prop := sc.names.lookup x = some .local ∨ sc.names.lookup x = some .cell
def Look (env : Env) (h : Heap) (m : Str → Option Value) (x : Str) (u : Value) : Prop :=
  (env.kindOf x = some .local ∧ m x = some u) ∨ ((env.kindOf x = some .cell ∨ env.kindOf x = some .free) ∧ ∃ c, env.cells.lookup x = some c ∧ h.IsCell c (some u))
structure Cx.Ok (X : Cx) : Prop where
  mod : Mod X.K X.mg X.base
  kind : X.env.scope.kind = .function
  glob : X.env.globals = mainGlobals
  blt : X.env.builtins = builtinsNs
  above : X.s₀.heap.objs.size ≤ X.env.locals
  inj : ∀ x y c, X.env.cells.lookup x = some c → X.env.cells.lookup y = some c → x = y
  has : ∀ x, (X.env.kindOf x = some .cell ∨ X.env.kindOf x = some .free) → ∃ c, X.env.cells.lookup x = some c
  cab : ∀ x c, X.fn x = true → X.env.cells.lookup x = some c → X.s₀.heap.objs.size ≤ c
  hd : X.calm = true → X.A.handled = none
  frames : X.A.frames = some X.stack
  stk : X.stack = X.outer ∨ (X.stack = X.env :: X.outer ∧ X.env.frame = some X.env.locals)
  exf : ∀ b ∈ X.ex, b ≠ X.env.locals ∧ ∀ x c, X.env.cells.lookup x = some c → c ≠ b
  bs : ∀ b o, X.base.get? b = some o → X.s₀.heap.get? b = some o ∧ X.H₀ b = none
  bsz : X.base.objs.size ≤ X.s₀.heap.objs.size
  noex : ∀ b o, X.base.get? b = some o → b ∉ X.ex
  exfs : ∀ b ∈ X.ex, b ∉ X.fs
  funs : X.s₀.heap.FunFrames X.base X.outer
  frf : ∀ b ∈ X.fs, X.H₀ b = none
structure Inv (X : Cx) (pins : List (Addr × Obj)) (σ : List (Option V)) (H : Hp) (s : Shared) : Prop where
  ok : X.Ok
  os : s.os = X.s₀.os
  bare : AllBare s.gens
  base : Un X.fs X.ex X.H₀ H X.s₀.heap s.heap
  loc : ∃ m, s.heap.Ns X.env.locals m ∧ ∀ (i : Nat) (x : Str) (v : V), X.N[i]? = some x → σ[i]? = some (some v) → Vis X.env.scope x → ∃ u, RelV v u ∧ Look X.env s.heap m x u
  cell : ∀ x c, X.env.cells.lookup x = some c → ∃ v, s.heap.IsCell c v
  free : H X.env.locals = none
  freeC : ∀ x c, X.env.cells.lookup x = some c → H c = none
  pin : ∀ p ∈ X.pn ++ pins, s.heap.get? p.1 = some p.2 ∧ H p.1 = none ∧ p.1 ≠ X.env.locals ∧ p.1 ∉ X.fs ∧ ∀ v, p.2.data ≠ .cell v
  hok : HOk X.prog X.w H s.heap
  len : σ.length = X.N.length
section
variable {X : Cx} {pins : List (Addr × Obj)} {σ : List (Option V)} {H H' : Hp} {s : Shared} {h' : Heap}
theorem Cx.Ok.nofr (ok : X.Ok) {b : Addr} {o : Obj} (e : X.base.get? b = some o) : b ∉ X.fs := fun hb => by
  have := (ok.funs.mem hb).1
  rw [e] at this; cases this
theorem Inv.bs (I : Inv X pins σ H s) : ∀ b o, X.base.get? b = some o → s.heap.get? b = some o ∧ H b = none := fun b o e =>
  ⟨I.base.keep b o (I.ok.bs b o e).1 (I.ok.bs b o e).2 (I.ok.nofr e) (I.ok.noex b o e), I.base.free b o (I.ok.bs b o e).1 (I.ok.bs b o e).2 (I.ok.noex b o e)⟩
theorem Inv.bk (I : Inv X pins σ H s) : ∀ b o, X.base.get? b = some o → s.heap.get? b = some o := fun b o e => (I.bs b o e).1
theorem Inv.mod (I : Inv X pins σ H s) : Mod X.K X.mg X.base := I.ok.mod
theorem Inv.kIn (I : Inv X pins σ H s) : X.K.In s.heap := I.ok.mod.kin.keeps I.bk
theorem Inv.nolimit (I : Inv X pins σ H s) : s.heap.NoLimit := I.ok.mod.nolimit.keeps I.bk
theorem Inv.fr (I : Inv X pins σ H s) : ∃ m, Fr X.base X.env.locals s.heap m :=
  let ⟨m, hn, _⟩ := I.loc
  ⟨m, hn, I.bk, Nat.le_trans I.ok.bsz I.ok.above⟩
theorem Inv.lt (I : Inv X pins σ H s) : X.env.locals < s.heap.objs.size := let ⟨_, hn, _⟩ := I.loc; hn.lt
theorem Inv.sz (I : Inv X pins σ H s) : X.s₀.heap.objs.size ≤ s.heap.objs.size := Nat.le_trans I.ok.above (Nat.le_of_lt I.lt)
theorem Inv.nofs (I : Inv X pins σ H s) {a : Addr} (h : s.heap.objs.size ≤ a) : a ∉ X.fs := fun hb => by
  obtain ⟨_, o, ho, _⟩ := I.ok.funs.mem hb
  exact absurd (Nat.lt_of_lt_of_le (Heap.lt_size ho) (Nat.le_trans I.sz h)) (Nat.lt_irrefl _)
theorem Inv.cne (I : Inv X pins σ H s) : ∀ x c, X.env.cells.lookup x = some c → c ≠ X.env.locals := fun x c e z => by
  obtain ⟨v, o, ho, hd⟩ := I.cell x c e
  obtain ⟨m, ⟨o', es, ep, ho', hd', _⟩, _⟩ := I.loc
  rw [z, ho'] at ho; cases ho; rw [hd'] at hd; cases hd
theorem Inv.funs (I : Inv X pins σ H s) : s.heap.FunFrames X.base X.outer := by
  have all : ∀ (l : List Env), (∀ b ∈ frs l, b ∈ X.fs) → X.s₀.heap.FunFrames X.base l → s.heap.FunFrames X.base l := by
    intro l
    induction l with
    | nil => intro _ _; trivial
    | cons env r ih =>
      intro hs hl
      obtain ⟨hk, ⟨L, o, hf, hn, ho, hd⟩, hr⟩ := hl
      have hL : L ∈ X.fs := hs L (by unfold frs; rw [List.filterMap_cons, hf]; exact List.mem_cons_self)
      obtain ⟨sl, e⟩ := I.base.slot L o ho (I.ok.frf L hL) hL fun z => I.ok.exfs L z hL
      exact ⟨hk, ⟨L, _, hf, hn, e, hd⟩, ih (fun b hb => hs b (by unfold frs; rw [List.filterMap_cons, hf]; exact List.mem_cons_of_mem _ hb)) hr⟩
  exact all X.outer (fun _ hb => hb) I.ok.funs
theorem Inv.stack (I : Inv X pins σ H s) : s.heap.FunFrames X.base X.stack := by
  rcases I.ok.stk with e | ⟨e, hf⟩
  · rw [e]; exact I.funs
  · rw [e]
    obtain ⟨m, hn, _⟩ := I.loc
    refine .cons (by rw [I.ok.kind]; decide) hf hn ?_ I.funs
    exact Heap.get?_none_of_le (Nat.le_trans I.ok.bsz I.ok.above)
theorem Inv.stkSub (I : Inv X pins σ H s) : ∀ b ∈ frs X.stack, b ∈ X.env.locals :: X.fs := fun b hb => by
  rcases I.ok.stk with e | ⟨e, hf⟩
  · rw [e] at hb; exact List.mem_cons_of_mem _ hb
  · rw [e] at hb
    unfold frs at hb
    rw [List.filterMap_cons, hf] at hb
    exact hb
theorem Inv.stkFree (I : Inv X pins σ H s) : ∀ b ∈ frs X.stack, H b = none := fun b hb => by
  rcases List.mem_cons.mp (I.stkSub b hb) with e | hb
  · rw [e]; exact I.free
  · obtain ⟨_, o, ho, _⟩ := I.ok.funs.mem hb
    exact I.base.free b o ho (I.ok.frf b hb) fun z => I.ok.exfs b z hb
theorem Inv.step {g' : Array GenState} {t' : Nat} {d' : Drawn} {ch : List Addr} (I : Inv X pins σ H s)
    (hch : ∀ b ∈ ch, (b ∈ X.ex ∨ X.s₀.heap.objs.size ≤ b) ∧ b ≠ X.env.locals ∧ (∀ x c, X.env.cells.lookup x = some c → c ≠ b) ∧ ∀ p ∈ X.pn ++ pins, p.1 ≠ b)
    (keep : ∀ b o, b ≠ X.env.locals → b ∉ X.fs → b ∉ ch → s.heap.get? b = some o → H b = none → h'.get? b = some o)
    (slot : ∀ b o, b ≠ X.env.locals → b ∈ X.fs → b ∉ ch → s.heap.get? b = some o → H b = none → ∃ sl, h'.get? b = some { o with slots := sl }) (free : ∀ b o, b ∉ ch → s.heap.get? b = some o → H b = none → H' b = none)
    (there : ∀ b o, b ∉ ch → s.heap.get? b = some o → ∃ o', h'.get? b = some o')
    (tups : ∀ b xs, H b = some (.tup xs) → H' b = some (.tup xs)) (frzs : ∀ b o u, H b = some (.frz o u) → H' b = some (.frz o u)) (tbls : ∀ b ps, H b = some (.tbl ps) → ∃ more, H' b = some (.tbl (ps ++ more)))
    (ns : ∀ m, s.heap.Ns X.env.locals m → h'.Ns X.env.locals m) (hok : HOk X.prog X.w H' h') (hg : AllBare g') :
    Inv X pins σ H' { s with heap := h', gens := g', drawn := d', toks := t' } := by
  have neL : ∀ b o, X.s₀.heap.get? b = some o → b ≠ X.env.locals := fun b o e => Nat.ne_of_lt (Nat.lt_of_lt_of_le (Heap.lt_size e) I.ok.above)
  have neC : ∀ b o, X.s₀.heap.get? b = some o → b ∉ X.ex → b ∉ ch := fun b o e hx hb => by
    rcases (hch b hb).1 with z | z
    · exact hx z
    · exact absurd (Nat.lt_of_lt_of_le (Heap.lt_size e) z) (Nat.lt_irrefl _)
  have cellK : ∀ x c, X.env.cells.lookup x = some c → ∀ v, s.heap.IsCell c v → h'.IsCell c v := fun x c e v ⟨o, ho, hd⟩ => by
    have nch : c ∉ ch := fun z => (hch c z).2.2.1 x c e rfl
    by_cases hc : c ∈ X.fs
    · obtain ⟨sl, q⟩ := slot c o (I.cne x c e) hc nch ho (I.freeC x c e)
      exact ⟨_, q, hd⟩
    · exact ⟨o, keep c o (I.cne x c e) hc nch ho (I.freeC x c e), hd⟩
  refine ⟨I.ok, I.os, hg, ⟨fun b o e n hb hx => ?_, fun b o e n hb hx => ?_, fun b o e n hx => ?_, fun b o e hx => ?_, fun b xs e => tups b xs (I.base.tups b xs e), fun b o xs e => frzs b o xs (I.base.frzs b o xs e), fun b ps e => ?_⟩, ?_, fun x c e => ?_, ?_, fun x c e => ?_, fun p hp => ?_, hok, I.len⟩
  · exact keep b o (neL b o e) hb (neC b o e hx) (I.base.keep b o e n hb hx) (I.base.free b o e n hx)
  · obtain ⟨sl, e1⟩ := I.base.slot b o e n hb hx
    obtain ⟨sl', e2⟩ := slot b _ (neL b o e) hb (neC b o e hx) e1 (I.base.free b o e n hx)
    exact ⟨sl', e2⟩
  · obtain ⟨o', e1⟩ := I.base.there b o e hx
    exact free b o' (neC b o e hx) e1 (I.base.free b o e n hx)
  · obtain ⟨o', e1⟩ := I.base.there b o e hx
    exact there b o' (neC b o e hx) e1
  · obtain ⟨m1, e1⟩ := I.base.tbls b ps e
    obtain ⟨m2, e2⟩ := tbls b _ e1
    exact ⟨m1 ++ m2, by rw [e2, Array.append_assoc]⟩
  · obtain ⟨m, hn, hl⟩ := I.loc
    refine ⟨m, ns m hn, fun i x v e1 e2 e3 => ?_⟩
    obtain ⟨u, r, l⟩ := hl i x v e1 e2 e3
    refine ⟨u, r, ?_⟩
    rcases l with l | ⟨k, c, e, z⟩
    · exact .inl l
    · exact .inr ⟨k, c, e, cellK x c e _ z⟩
  · obtain ⟨v, z⟩ := I.cell x c e
    exact ⟨v, cellK x c e v z⟩
  · obtain ⟨m, ⟨o, _, _, ho, _⟩, _⟩ := I.loc
    exact free _ o (fun z => (hch _ z).2.1 rfl) ho I.free
  · obtain ⟨v, o, ho, hd⟩ := I.cell x c e
    exact free c o (fun z => (hch c z).2.2.1 x c e rfl) ho (I.freeC x c e)
  · obtain ⟨e, n, ne, nf, d⟩ := I.pin p hp
    have nch : p.1 ∉ ch := fun z => (hch p.1 z).2.2.2 p hp rfl
    exact ⟨keep p.1 p.2 ne nf nch e n, free p.1 p.2 nch e n, ne, nf, d⟩
theorem Inv.un {t' : Nat} (I : Inv X pins σ H s) (u : Un X.fs [] H H' s.heap h') (hok : HOk X.prog X.w H' h') : Inv X pins σ H' { s with heap := h', toks := t' } := by
  obtain ⟨m, ⟨o, es, ep, ho, r⟩, _⟩ := id I.loc
  obtain ⟨sl, hL⟩ := u.any ho I.free (by simp)
  exact I.step (g' := s.gens) (d' := s.drawn) (ch := []) (fun _ z => nomatch z) (fun b o _ hb _ e n => u.keep b o e n hb (by simp)) (fun b o _ hb _ e n => u.slot b o e n hb (by simp)) (fun b o _ e n => u.free b o e n (by simp)) (fun b o _ e => u.there b o e (by simp)) u.tups u.frzs u.tbls (fun m' hm => by
    obtain ⟨o', es', ep', ho', r'⟩ := hm
    rw [ho] at ho'; cases ho'
    exact ⟨_, es', ep', hL, r'⟩) hok I.bare
theorem Inv.call {g' : Array GenState} {t' : Nat} {d' : Drawn} {ch : List Addr} (I : Inv X pins σ H s) (u : Un (frs X.stack) ch H H' s.heap h') (hok : HOk X.prog X.w H' h') (hg : AllBare g')
    (hch : ∀ b ∈ ch, (b ∈ X.ex ∨ X.s₀.heap.objs.size ≤ b) ∧ b ≠ X.env.locals ∧ (∀ x c, X.env.cells.lookup x = some c → c ≠ b) ∧ ∀ p ∈ X.pn ++ pins, p.1 ≠ b) :
    Inv X pins σ H' { s with heap := h', gens := g', drawn := d', toks := t' } := by
  obtain ⟨m, ⟨o, es, ep, ho, r⟩, _⟩ := id I.loc
  obtain ⟨sl, hL⟩ := u.any ho I.free fun z => (hch _ z).2.1 rfl
  exact I.step (ch := ch) hch (fun b o hL hb hc e n => u.keep b o e n (fun z => (List.mem_cons.mp (I.stkSub b z)).elim hL hb) hc) (fun b o _ _ hc e n => u.any e n hc) (fun b o hc e n => u.free b o e n hc) (fun b o hc e => u.there b o e hc) u.tups u.frzs u.tbls (fun m' hm => by
    obtain ⟨o', es', ep', ho', r'⟩ := hm
    rw [ho] at ho'; cases ho'
    exact ⟨_, es', ep', hL, r'⟩) hok hg
theorem Inv.turned {t' : Nat} {it : Addr} (I : Inv X pins σ H s) (k : ∀ b o, b ≠ it → s.heap.get? b = some o → h'.get? b = some o) (hn : H it = none) (hL : it ≠ X.env.locals)
    (h1 : it ∈ X.ex ∨ X.s₀.heap.objs.size ≤ it) (h2 : ∀ x c, X.env.cells.lookup x = some c → c ≠ it) (h3 : ∀ p ∈ X.pn ++ pins, p.1 ≠ it) : Inv X pins σ H { s with heap := h', toks := t' } := by
  have nit : ∀ b u, H b = some u → b ≠ it := fun b u e z => by rw [z, hn] at e; cases e
  refine I.step (g' := s.gens) (d' := s.drawn) (ch := [it]) (fun b hb => ?_) (fun b o _ _ hc e _ => k b o (fun z => hc (by simp [z])) e) (fun b o _ _ hc e _ => ⟨o.slots, k b o (fun z => hc (by simp [z])) e⟩) (fun _ _ _ _ n => n)
    (fun b o hc e => ⟨o, k b o (fun z => hc (by simp [z])) e⟩) (fun _ _ e => e) (fun _ _ _ e => e) (fun b ps e => ⟨#[], by rw [e]; simp⟩) (fun m hm => ?_) (fun b u e => ?_) I.bare
  · have e : b = it := by simpa using hb
    subst e
    exact ⟨h1, hL, h2, h3⟩
  · obtain ⟨o, es, ep, ho, r⟩ := hm
    exact ⟨o, es, ep, k _ o (Ne.symm hL) ho, r⟩
  · refine (I.hok b u e).stay (fun c v hc q => k c v ?_ q) (fun _ q => q) fun _ _ q => q
    rcases hc with z | z
    · rw [z]; exact nit b u e
    · exact nit c _ z
theorem Inv.tok (I : Inv X pins σ H s) (t : Nat) : Inv X pins σ H { s with toks := t } := I.un (h' := s.heap) (t' := t) Un.refl I.hok
theorem Inv.kept {t' : Nat} (I : Inv X pins σ H s) (k : ∀ b u, s.heap.get? b = some u → h'.get? b = some u) : Inv X pins σ H { s with heap := h', toks := t' } := I.un (Un.kept k) (I.hok.kept k)
theorem Inv.laid {a : Addr} {o : HO} {t' : Nat} (I : Inv X pins σ H s) (k : ∀ b u, s.heap.get? b = some u → h'.get? b = some u) (hp : s.heap.objs.size ≤ a) (new : ObjOk X.prog X.w (upd H a o) h' a o) :
    Inv X pins σ (upd H a o) { s with heap := h', toks := t' } := I.un (Un.laid k hp (I.hok.fresh hp)) (I.hok.laid k hp new)
theorem Inv.write {x e : Addr} {o : HO} {t' : Nat} (I : Inv X pins σ H s) (mu : Mut (H x)) (he : e = x ∨ H e = some (.own x)) (k : ∀ b u, b ≠ e → s.heap.get? b = some u → h'.get? b = some u) (heo : ∃ u, h'.get? e = some u)
    (new : ObjOk X.prog X.w (upd H x o) h' x o) : Inv X pins σ (upd H x o) { s with heap := h', toks := t' } := I.un (Un.write mu he k heo) (I.hok.write mu he k heo new)
theorem Inv.weak {σ' : List (Option V)} (I : Inv X pins σ H s) (hl : σ'.length = σ.length) (w : ∀ (i : Nat) v, σ'[i]? = some (some v) → σ[i]? = some (some v)) : Inv X pins σ' H s :=
  ⟨I.ok, I.os, I.bare, I.base, let ⟨m, hn, hl'⟩ := I.loc; ⟨m, hn, fun i x v e1 e2 e3 => hl' i x v e1 (w i v e2) e3⟩, I.cell, I.free, I.freeC, I.pin, I.hok, hl.trans I.len⟩
theorem Inv.pins_of {pins' : List (Addr × Obj)} (I : Inv X pins σ H s) (h : ∀ p ∈ pins', s.heap.get? p.1 = some p.2 ∧ H p.1 = none ∧ p.1 ≠ X.env.locals ∧ p.1 ∉ X.fs ∧ ∀ v, p.2.data ≠ .cell v) : Inv X pins' σ H s :=
  ⟨I.ok, I.os, I.bare, I.base, I.loc, I.cell, I.free, I.freeC, fun p hp => (List.mem_append.mp hp).elim (fun z => I.pin p (List.mem_append_left _ z)) (h p), I.hok, I.len⟩
theorem nodup_ix {N : List Str} (hN : N.Nodup) {i j : Nat} {x : Str} (a : N[i]? = some x) (b : N[j]? = some x) : i = j := by
  obtain ⟨h1, e1⟩ := List.getElem?_eq_some_iff.mp a
  obtain ⟨h2, e2⟩ := List.getElem?_eq_some_iff.mp b
  exact (List.getElem_inj hN).mp (e1.trans e2.symm)
theorem store_ok2 {M : Model} {A : Around} {E : Value → Shared → Prop} {i : Nat} {x : Str} {v : V} {u : Value} {Q : Unit → Shared → Prop} (I : Inv X pins σ H s) (hN : X.N.Nodup) (hi : X.N[i]? = some x) (hx : Loc X.env.scope x) (r : RelV v u)
    (h : ∀ s', Inv X pins (σ.set i (some v)) H s' → (∃ a, Heap.SameBut a s.heap s'.heap ∧ (a = X.env.locals ∨ X.env.cells.lookup x = some a)) → Q () s') (hf : X.fn x = true ∨ X.env.scope.names.lookup x = some .local := by first | exact .inl rfl | exact .inr rfl | assumption) : wpAny M A (storeName X.env x u) Q E s := by
  obtain ⟨m, hn, hl⟩ := id I.loc
  have hcls : (X.env.scope.kind == .class || (X.env.scope.kind == .module && X.env.locals != X.env.globals)) = false := by rw [I.ok.kind]; rfl
  have hiσ : i < σ.length := by rw [I.len]; exact (List.getElem?_eq_some_iff.mp hi).1
  have cne := I.cne
  have tracked : ∀ {a : Addr} {h' : Heap}, (∃ o, s.heap.get? a = some o ∧ H a = none) → Heap.SameBut a s.heap h' → HOk X.prog X.w H h' := fun {a h'} ha hs b ob e => by
    obtain ⟨_, _, hfree⟩ := ha
    refine (I.hok b ob e).stay (fun c w' hc q => (hs.2 c ?_).trans q) (fun _ q => q) fun _ _ q => q
    rintro rfl
    rcases hc with rfl | hc
    · rw [hfree] at e; cases e
    · rw [hfree] at hc; cases hc
  rcases hx with hk | hk
  · refine wpAny_storeName_local hk hn (fun h' hn' hs => ?_) hcls
    obtain ⟨oL, _, _, hoL, _⟩ := id hn
    refine h _ ⟨I.ok, I.os, I.bare, ⟨fun b o e n hb hx => ?_, fun b o e n hb hx => ?_, I.base.free, fun b o e hx => ?_, I.base.tups, I.base.frzs, I.base.tbls⟩, ⟨_, hn', fun j y v' e1 e2 e3 => ?_⟩, fun y c e => ?_, I.free, I.freeC, fun p hp => ?_, tracked ⟨oL, hoL, I.free⟩ hs, by simpa using I.len⟩ ⟨_, hs, .inl rfl⟩
    · exact (hs.2 b (Nat.ne_of_lt (Nat.lt_of_lt_of_le (Heap.lt_size e) I.ok.above))).trans (I.base.keep b o e n hb hx)
    · obtain ⟨sl, e1⟩ := I.base.slot b o e n hb hx
      exact ⟨sl, (hs.2 b (Nat.ne_of_lt (Nat.lt_of_lt_of_le (Heap.lt_size e) I.ok.above))).trans e1⟩
    · obtain ⟨o', e1⟩ := I.base.there b o e hx
      exact ⟨o', (hs.2 b (Nat.ne_of_lt (Nat.lt_of_lt_of_le (Heap.lt_size e) I.ok.above))).trans e1⟩
    · by_cases hj : j = i
      · subst hj
        rw [hi] at e1; cases e1
        rw [List.getElem?_set_self hiσ] at e2
        cases e2
        exact ⟨u, r, .inl ⟨hk, by simp⟩⟩
      · rw [List.getElem?_set_ne (Ne.symm hj)] at e2
        obtain ⟨u', r', q⟩ := hl j y v' e1 e2 e3
        refine ⟨u', r', ?_⟩
        rcases q with ⟨k, e⟩ | ⟨k, c, e, z⟩
        · refine .inl ⟨k, ?_⟩
          have : y ≠ x := fun e => hj (nodup_ix hN e1 (e ▸ hi))
          simp [this, e]
        · exact .inr ⟨k, c, e, z.sameBut hs (cne y c e)⟩
    · obtain ⟨w', z⟩ := I.cell y c e
      exact ⟨w', z.sameBut hs (cne y c e)⟩
    · obtain ⟨e, n, ne, nf, d⟩ := I.pin p hp
      exact ⟨(hs.2 p.1 ne).trans e, n, ne, nf, d⟩
  · have hfn : X.fn x = true := by
      rcases hf with z | z
      · exact z
      · rw [z] at hk; cases hk
    obtain ⟨c, hc⟩ := I.ok.has x (.inl hk)
    obtain ⟨w', z⟩ := I.cell x c hc
    refine wpAny_storeName_cell I.ok.kind hk hc z (fun h' hc' hs => ?_)
    obtain ⟨oc, hoc, hocd⟩ := id z
    refine h { s with heap := h' } ⟨I.ok, I.os, I.bare, ⟨fun b o e n hb hx => ?_, fun b o e n hb hx => ?_, I.base.free, fun b o e hx => ?_, I.base.tups, I.base.frzs, I.base.tbls⟩, ⟨m, hn.sameBut hs (Ne.symm (cne x c hc)), fun j y v' e1 e2 e3 => ?_⟩, fun y c' e => ?_, I.free, I.freeC, fun p hp => ?_, tracked ⟨oc, hoc, I.freeC x c hc⟩ hs, by simpa using I.len⟩ ⟨c, hs, .inr hc⟩
    · exact (hs.2 b (Nat.ne_of_lt (Nat.lt_of_lt_of_le (Heap.lt_size e) (I.ok.cab x c hfn hc)))).trans (I.base.keep b o e n hb hx)
    · obtain ⟨sl, e1⟩ := I.base.slot b o e n hb hx
      exact ⟨sl, (hs.2 b (Nat.ne_of_lt (Nat.lt_of_lt_of_le (Heap.lt_size e) (I.ok.cab x c hfn hc)))).trans e1⟩
    · obtain ⟨o', e1⟩ := I.base.there b o e hx
      exact ⟨o', (hs.2 b (Nat.ne_of_lt (Nat.lt_of_lt_of_le (Heap.lt_size e) (I.ok.cab x c hfn hc)))).trans e1⟩
    · by_cases hj : j = i
      · subst hj
        rw [hi] at e1; cases e1
        rw [List.getElem?_set_self hiσ] at e2
        cases e2
        exact ⟨u, r, .inr ⟨.inl hk, c, hc, hc'⟩⟩
      · rw [List.getElem?_set_ne (Ne.symm hj)] at e2
        obtain ⟨u', r', q⟩ := hl j y v' e1 e2 e3
        refine ⟨u', r', ?_⟩
        rcases q with q | ⟨k, c', e, z'⟩
        · exact .inl q
        · refine .inr ⟨k, c', e, z'.sameBut hs ?_⟩
          rintro rfl
          exact hj (nodup_ix hN e1 (I.ok.inj _ _ _ e hc ▸ hi))
    · by_cases hcc : c' = c
      · subst hcc; exact ⟨_, hc'⟩
      · obtain ⟨w2, z2⟩ := I.cell y c' e
        exact ⟨w2, z2.sameBut hs hcc⟩
    · obtain ⟨e, n, ne, nf, d⟩ := I.pin p hp
      refine ⟨(hs.2 p.1 ?_).trans e, n, ne, nf, d⟩
      intro q
      rw [q, hoc] at e
      have q' : oc = p.2 := Option.some.inj e
      exact d w' (by rw [← q']; exact hocd)
theorem store_ok {M : Model} {A : Around} {E : Value → Shared → Prop} {i : Nat} {x : Str} {v : V} {u : Value} {Q : Unit → Shared → Prop} (I : Inv X pins σ H s) (hN : X.N.Nodup) (hi : X.N[i]? = some x) (hx : Loc X.env.scope x) (r : RelV v u)
    (h : ∀ s', Inv X pins (σ.set i (some v)) H s' → Q () s') (hf : X.fn x = true ∨ X.env.scope.names.lookup x = some .local := by first | exact .inl rfl | exact .inr rfl | assumption) : wpAny M A (storeName X.env x u) Q E s :=
  store_ok2 I hN hi hx r (fun s' I' _ => h s' I') hf
theorem Inv.call' {s' : Shared} {ch : List Addr} (I : Inv X pins σ H s) (ho : s'.os = s.os) (u : Un (frs X.stack) ch H H' s.heap s'.heap) (hok : HOk X.prog X.w H' s'.heap) (hg : AllBare s'.gens)
    (hch : ∀ b ∈ ch, (b ∈ X.ex ∨ X.s₀.heap.objs.size ≤ b) ∧ b ≠ X.env.locals ∧ (∀ x c, X.env.cells.lookup x = some c → c ≠ b) ∧ ∀ p ∈ X.pn ++ pins, p.1 ≠ b) : Inv X pins σ H' s' := by
  obtain ⟨h', g', d', t', o'⟩ := s'
  have e : o' = s.os := ho
  subst e
  exact I.call (g' := g') (t' := t') (d' := d') u hok hg hch
end
abbrev XK := Value → Option Addr → Hp → Prop
abbrev St := List (Option V)
abbrev VK := V → Hp → Prop
abbrev TE := St → Hp → VK → Prop
abbrev TT := St → Hp → (Bool → Hp → Prop) → Prop
abbrev TA := St → Hp → (List V → Hp → Prop) → Prop
structure Ends where
  nx : St → Hp → Prop
  rt : VK
  bk : St → Hp → Prop := fun _ _ => False
  ct : St → Hp → Prop := fun _ _ => False
abbrev TS := Ends → St → Hp → Prop
def EP (X : Cx) (pins : List (Addr × Obj)) (σ : St) (Q : VK) (u : Value) (s' : Shared) : Prop := ∃ v H', Inv X pins σ H' s' ∧ RelV v u ∧ Q v H'
def TP (X : Cx) (pins : List (Addr × Obj)) (σ : St) (Q : Bool → Hp → Prop) (b : Bool) (s' : Shared) : Prop := ∃ H', Inv X pins σ H' s' ∧ Q b H'
def AP (X : Cx) (pins : List (Addr × Obj)) (σ : St) (Q : List V → Hp → Prop) (us : List Value) (s' : Shared) : Prop := ∃ vs H', Inv X pins σ H' s' ∧ Vals vs us ∧ Q vs H'
def SP (X : Cx) (pins : List (Addr × Obj)) (D : Ends) (f : Flow) (s' : Shared) : Prop :=
  match f with
  | .next => ∃ σ' H', Inv X pins σ' H' s' ∧ D.nx σ' H'
  | .brk => ∃ σ' H', Inv X pins σ' H' s' ∧ D.bk σ' H'
  | .cont => ∃ σ' H', Inv X pins σ' H' s' ∧ D.ct σ' H'
  | .ret u => ∃ v σ' H', Inv X pins σ' H' s' ∧ RelV v u ∧ D.rt v H'
def PE (X : Cx) (e : Expr) (t : TE) : Prop :=
  ∀ (pins : List (Addr × Obj)) (s : Shared) (σ : St) (H : Hp) (Q : VK), Inv X pins σ H s → t σ H Q → wpAny (model X.prog X.w) X.A (eval e X.env) (EP X pins σ Q) X.xe s
def PT (X : Cx) (e : Expr) (t : TT) : Prop :=
  ∀ (pins : List (Addr × Obj)) (s : Shared) (σ : St) (H : Hp) (Q : Bool → Hp → Prop), Inv X pins σ H s → t σ H Q → wpAny (model X.prog X.w) X.A (isTrue e X.env (eval e X.env)) (TP X pins σ Q) X.xe s
def PW (X : Cx) (e : Expr) (t : TT) : Prop :=
  ∀ (whole : Sem Value) (pins : List (Addr × Obj)) (s : Shared) (σ : St) (H : Hp) (Q : Bool → Hp → Prop), Inv X pins σ H s → t σ H Q → wpAny (model X.prog X.w) X.A (isTrue e X.env whole) (TP X pins σ Q) X.xe s
theorem PW.pt {X : Cx} {e : Expr} {t : TT} (h : PW X e t) : PT X e t := h _
def PA (X : Cx) (es : List Expr) (t : TA) : Prop :=
  ∀ (pos : Pos) (pins : List (Addr × Obj)) (s : Shared) (σ : St) (H : Hp) (Q : List V → Hp → Prop), Inv X pins σ H s → t σ H Q → wpAny (model X.prog X.w) X.A (spliced (backTo pos (starEach es X.env))) (AP X pins σ Q) X.xe s
def PS (X : Cx) (st : Stmt) (t : TS) : Prop :=
  ∀ (pins : List (Addr × Obj)) (s : Shared) (σ : St) (H : Hp) (D : Ends), Inv X pins σ H s → t D σ H → wpAny (model X.prog X.w) X.A (exec st X.env) (SP X pins D) X.xe s
def PSs (X : Cx) (st : List Stmt) (t : TS) : Prop :=
  ∀ (pins : List (Addr × Obj)) (s : Shared) (σ : St) (H : Hp) (D : Ends), Inv X pins σ H s → t D σ H → wpAny (model X.prog X.w) X.A (execs st X.env) (SP X pins D) X.xe s
theorem thn {α : Type} {t : Sem α} {Q Q' : α → Shared → Prop} {M : Model} {A : Around} {E : Value → Shared → Prop} {s : Shared} (h : wpAny M A t Q E s) (hQ : ∀ a s, Q a s → Q' a s) : wpAny M A t Q' E s := wpAny_mono h hQ fun _ _ x => x
end L2
namespace L2
open PySem PySem.Spec PyProof.Rows
section
variable {X : Cx}
def tVar (i : Nat) : TE := fun σ H Q => ∃ v, σ[i]? = some (some v) ∧ Q v H
def tC (v : V) : TE := fun _ H Q => Q v H
theorem pe_var {i : Nat} {x : Str} {pos : Pos} (hN : X.N[i]? = some x) (hv : Vis X.env.scope x) (hd : (x == ("__debug__" : Str)) = false := by decide) (hcd : (x == ("__classdict__" : Str)) = false := by decide) : PE X (.Name x pos) (tVar i) := by
  intro pins s σ H Q I h
  obtain ⟨v, e, h⟩ := h
  obtain ⟨m, hn, hl⟩ := I.loc
  obtain ⟨u, r, l⟩ := hl i x v hN e hv
  have fin : EP X pins σ Q u s := ⟨v, H, I, r, h⟩
  rcases l with ⟨hk, hm⟩ | ⟨hk, c, hc, hcell⟩
  · exact wpAny_Name (wpAny_loadName_local I.ok.kind hk hn hm fin) hd
  · rcases hk with hk | hk
    · exact wpAny_Name (wpAny_loadName_cell I.ok.kind hk hc hcell fin) hd
    · exact wpAny_Name (wpAny_loadName_free I.ok.kind hk hc hcell fin hcd) hd
theorem pe_int {i j pos} : PE X (.Constant (.int i) j pos) (tC (.int i)) := fun _ _ _ H _ I h => wpAny_Constant_int ⟨.int i, H, I.tok _, ⟨_, rfl⟩, h⟩
theorem pe_bl {b j pos} : PE X (.Constant (.bool b) j pos) (tC (.bl b)) := fun _ _ _ H _ I h => Constant_bool ⟨.bl b, H, I, rfl, h⟩
theorem pe_non {j pos} : PE X (.Constant .none j pos) (tC .non) := fun _ _ _ H _ I h => Constant_none ⟨.non, H, I, rfl, h⟩
theorem pe_str {x j pos} : PE X (.Constant (.str x) j pos) (tC (.str x)) := fun _ _ _ H _ I h => Calls.Constant_str ⟨.str x, H, I.tok _, ⟨_, rfl⟩, h⟩
def Gl (X : Cx) (x : Str) : Prop := X.env.kindOf x = some .globalImplicit
theorem ld_glob {E : Value → Shared → Prop} {pins : List (Addr × Obj)} {s : Shared} {σ : St} {H : Hp} {x : Str} {u : Value} {pos : Pos} {Q : Value → Shared → Prop} (I : Inv X pins σ H s) (hg : Gl X x) (hm : X.mg x = some u) (h : Q u s)
    (hd : (x == ("__debug__" : Str)) = false := by decide) : wpAny (model X.prog X.w) X.A (eval (.Name x pos) X.env) Q E s :=
  Calls.Name_function_global I.ok.kind hg (Calls.loadGlobal_global (by rw [I.ok.glob]; exact I.mod.glob.keeps I.bk) hm h) hd
theorem ld_blt {E : Value → Shared → Prop} {pins : List (Addr × Obj)} {s : Shared} {σ : St} {H : Hp} {x : Str} {u : Value} {pos : Pos} {Q : Value → Shared → Prop} (I : Inv X pins σ H s) (hg : Gl X x) (hm : X.mg x = none) (hv : bootBuiltins x = some u) (h : Q u s)
    (hn : x ≠ "__name__" := by decide) (hd : (x == ("__debug__" : Str)) = false := by decide) : wpAny (model X.prog X.w) X.A (eval (.Name x pos) X.env) Q E s := by
  obtain ⟨mb, h1, h2⟩ := I.mod.blt
  exact Calls.Name_function_global I.ok.kind hg (Calls.loadGlobal_builtin (by rw [I.ok.glob]; exact I.mod.glob.keeps I.bk) hm (by rw [I.ok.blt]; exact h1.keeps I.bk) ((h2 x hn).trans hv) h) hd
theorem pe_glob {x : Str} {v : V} {u : Value} {pos : Pos} (hg : Gl X x) (hm : X.mg x = some u) (r : RelV v u) (hd : (x == ("__debug__" : Str)) = false := by decide) : PE X (.Name x pos) (tC v) :=
  fun _ _ _ H _ I h => ld_glob I hg hm ⟨v, H, I, r, h⟩ hd
theorem pe_bltn {x : Str} {v : V} {u : Value} {pos : Pos} (hg : Gl X x) (hm : X.mg x = none) (hv : bootBuiltins x = some u) (r : RelV v u) (hn : x ≠ "__name__" := by decide) (hd : (x == ("__debug__" : Str)) = false := by decide) : PE X (.Name x pos) (tC v) :=
  fun _ _ _ H _ I h => ld_blt I hg hm hv ⟨v, H, I, r, h⟩ hn hd
variable {a b : Expr} {ta tb : TE} {pos : Pos}
def PC (X : Cx) (op : CmpOp) (a b : Expr) (t : TE) : Prop :=
  ∀ (pins : List (Addr × Obj)) (s : Shared) (σ : St) (H : Hp) (Q : VK), Inv X pins σ H s → t σ H Q →
    wpAny (model X.prog X.w) X.A (eval a X.env) (fun v s₁ => wpAny (model X.prog X.w) X.A (eval b X.env) (fun u s₂ => wpAny (model X.prog X.w) X.A (compareOp op v u) (EP X pins σ Q) X.xe s₂) X.xe s₁) X.xe s
theorem nobehind (b : Expr) {op : CmpOp} (h : op ≠ .In) (h2 : op ≠ .NotIn) : behindInMarks op b = false := by
  have e1 : (op == CmpOp.In) = false := by cases op <;> first | rfl | exact absurd rfl h
  have e2 : (op == CmpOp.NotIn) = false := by cases op <;> first | rfl | exact absurd rfl h2
  cases b <;> simp [behindInMarks, e1, e2]
def tB (t : TE) : TT := fun σ H Q => t σ H fun x H1 => ∃ c, x = .bl c ∧ Q c H1
theorem pt_cmp {op : CmpOp} {t : TE} (h : PC X op a b t) (h1 : behindInMarks op b = false := by first | exact nobehind _ (by decide) (by decide) | rfl) : PT X (.Compare a [op] [b] pos) (tB t) := by
  intro pins s σ H Q I hw
  refine wpAny_isTrue_Compare1 (thn (h pins s σ H _ I hw) fun v s1 h1 => thn h1 fun u s2 h2 => thn h2 fun c s3 hq__ => ?_) h1
  obtain ⟨x, H1, I1, r1, q1⟩ := hq__
  obtain ⟨d, rfl, q⟩ := q1
  cases r1
  exact wpAny_truthy_bool ⟨H1, I1, q⟩
theorem pt_val {e : Expr} {t : TE} (h : PE X e t) (he : ∀ whole, isTrue e X.env whole = (do let v ← whole; standAt e.pos; holding [v] (truthy v)) := by intro _; rfl) : PT X e (tB t) := by
  intro pins s σ H Q I hw
  refine isTrue_plain (thn (h pins s σ H _ I hw) fun v s1 hq__ => ?_) (he _)
  obtain ⟨x, H1, I1, r1, q1⟩ := hq__
  obtain ⟨d, rfl, q⟩ := q1
  cases r1
  exact wpAny_truthy_bool ⟨H1, I1, q⟩
variable {tA tB' : TT} {rest : List Expr}
def tAnd (t u : TT) : TT := fun σ H Q => t σ H fun c H1 => if c = true then u σ H1 Q else Q false H1
def tOr (t u : TT) : TT := fun σ H Q => t σ H fun c H1 => if c = true then Q true H1 else u σ H1 Q
def tNot (t : TT) : TT := fun σ H Q => t σ H fun c H1 => Q (!c) H1
theorem pw_and1 (ha : PT X a tA) : PW X (.BoolOp .And [a] pos) tA := by
  intro wh pins s σ H Q I h
  refine isTrue_and (thn (ha pins s σ H Q I h) fun c s1 e => ?_)
  cases c with
  | true => exact isTrue_and_nil e
  | false => exact e
theorem pw_or1 (ha : PT X a tA) : PW X (.BoolOp .Or [a] pos) tA := by
  intro wh pins s σ H Q I h
  refine isTrue_or (thn (ha pins s σ H Q I h) fun c s1 e => ?_)
  cases c with
  | false => exact isTrue_or_nil e
  | true => exact e
theorem pw_and (ha : PT X a tA) (hb : PW X (.BoolOp .And (b :: rest) pos) tB') : PW X (.BoolOp .And (a :: b :: rest) pos) (tAnd tA tB') := by
  intro wh pins s σ H Q I h
  refine isTrue_and (thn (ha pins s σ H _ I h) fun c s1 hq__ => ?_)
  obtain ⟨H1, I1, q1⟩ := hq__
  cases c with
  | true => exact hb wh pins s1 σ H1 Q I1 q1
  | false => exact ⟨H1, I1, q1⟩
theorem pw_or (ha : PT X a tA) (hb : PW X (.BoolOp .Or (b :: rest) pos) tB') : PW X (.BoolOp .Or (a :: b :: rest) pos) (tOr tA tB') := by
  intro wh pins s σ H Q I h
  refine isTrue_or (thn (ha pins s σ H _ I h) fun c s1 hq__ => ?_)
  obtain ⟨H1, I1, q1⟩ := hq__
  cases c with
  | true => exact ⟨H1, I1, q1⟩
  | false => exact hb wh pins s1 σ H1 Q I1 q1
theorem pt_not (ha : PT X a tA) : PT X (.UnaryOp .Not a pos) (tNot tA) := by
  intro pins s σ H Q I h
  exact isTrue_not (ha pins s σ H (fun c H1 => Q (!c) H1) I h)
def tAndV (ta tb : TE) : TE := fun σ H Q => ta σ H fun x H1 => ∃ c, x = .bl c ∧ if c = true then tb σ H1 Q else Q (.bl false) H1
def tNotV (ta : TE) : TE := fun σ H Q => ta σ H fun x H1 => ∃ c, x = .bl c ∧ Q (.bl (!c)) H1
theorem pe_one {op} {t : TE} (h : PE X a t) : PE X (.BoolOp op [a] pos) t := fun pins s σ H Q I hw => BoolOp_one (h pins s σ H Q I hw)
theorem pe_and (ha : PE X a ta) (hb : PE X (.BoolOp .And (b :: rest) pos) tb) : PE X (.BoolOp .And (a :: b :: rest) pos) (tAndV ta tb) := by
  intro pins s σ H Q I h
  refine BoolOp_and (thn (ha pins s σ H _ I h) fun v s1 hq__ => ?_)
  obtain ⟨x, H1, I1, r1, q1⟩ := hq__
  obtain ⟨c, rfl, q1⟩ := q1
  cases r1
  refine wpAny_truthy_bool ?_
  cases c with
  | true => exact hb pins s1 σ H1 Q I1 q1
  | false => exact ⟨.bl false, H1, I1, rfl, q1⟩
theorem pe_not (ha : PE X a ta) : PE X (.UnaryOp .Not a pos) (tNotV ta) := by
  intro pins s σ H Q I h
  refine UnaryOp_ (thn (ha pins s σ H _ I h) fun v s1 hq__ => ?_)
  obtain ⟨x, H1, I1, r1, q1⟩ := hq__
  obtain ⟨c, rfl, q1⟩ := q1
  cases r1
  exact not_of (wpAny_truthy_bool ⟨.bl (!c), H1, I1, rfl, q1⟩)
def tIf (t : TT) (ta tb : TE) : TE := fun σ H Q => t σ H fun c H1 => if c = true then ta σ H1 Q else tb σ H1 Q
theorem pe_ifExp {c : Expr} (hc : PT X c tA) (ha : PE X a ta) (hb : PE X b tb) : PE X (.IfExp c a b pos) (tIf tA ta tb) := by
  intro pins s σ H Q I h
  refine wpAny_IfExp (thn (hc pins s σ H _ I h) fun d s1 hq__ => ?_)
  obtain ⟨H1, I1, q1⟩ := hq__
  cases d with
  | true => exact ha pins s1 σ H1 Q I1 q1
  | false => exact hb pins s1 σ H1 Q I1 q1
end
end L2
namespace L2
open PySem PySem.Spec PyProof.Rows
def SqL (K : PySem.W.Frag) (H : Hp) (a : Addr) (xs : List V) : Prop :=
  Rd H a (.lst xs) ∨
    ∃ (o : Obj) (its : Array Value) (n : Nat), K.lookup a = some o ∧ o.cls = .type "list" ∧ o.dict = none ∧ o.data = .seq its n ∧ its.size ≤ sizeLine ∧ Vals xs its.toList
def SqT (K : PySem.W.Frag) (H : Hp) (a : Addr) (xs : List V) : Prop :=
  Rd H a (.tup xs) ∨
    ∃ (o : Obj) (its : Array Value) (n : Nat), K.lookup a = some o ∧ o.cls = .type "tuple" ∧ o.data = .seq its n ∧ its.size ≤ sizeLine ∧ Vals xs its.toList
def absV : Value → Option V
  | .none => some .non
  | .bool b => some (.bl b)
  | .int i _ => some (.int i)
  | .str x _ => some (.str x)
  | .bytes b _ => some (.byt b)
  | .float b _ => some (.flt b)
  | .ref a => some (.ref a)
  | .type n => some (.ty n)
  | _ => none
theorem RelV.abs {x : V} {u : Value} (r : RelV x u) : absV u = some x := by
  cases x with
  | non => cases r; rfl
  | bl _ => cases r; rfl
  | int _ => obtain ⟨t, rfl⟩ := r; rfl
  | str _ => obtain ⟨t, rfl⟩ := r; rfl
  | byt _ => obtain ⟨t, rfl⟩ := r; rfl
  | flt _ => obtain ⟨t, rfl⟩ := r; rfl
  | ref _ => cases r; rfl
  | ty _ => cases r; rfl
theorem RelV.inj {x y : V} {u : Value} (r : RelV x u) (q : RelV y u) : x = y := Option.some.inj (r.abs.symm.trans q.abs)
theorem Vals.inj : ∀ {xs ys : List V} {us : List Value}, Vals xs us → Vals ys us → xs = ys
  | _, _, _, .nil, .nil => rfl
  | _, _, _, .cons r t, .cons r' t' => by rw [r.inj r', Vals.inj t t']
section
variable {X : Cx} {pins : List (Addr × Obj)} {σ : St} {H : Hp} {s : Shared} {a : Addr} {xs ys : List V}
theorem SqL.of {K : PySem.W.Frag} (h : H a = some (.lst xs)) : SqL K H a xs := .inl (.inl h)
theorem SqT.of {K : PySem.W.Frag} (h : H a = some (.tup xs)) : SqT K H a xs := .inl (.inl h)
theorem Inv.list (I : Inv X pins σ H s) (h : SqL X.K H a xs) : ∃ its : List Value, Vals xs its ∧ PlainL s.heap a its.toArray ∧ xs.length ≤ sizeLine := by
  rcases h with h | ⟨o, its, n, hk, hc, hd, hs, hz, r⟩
  · obtain ⟨z, its, n, r, e⟩ := h.ok I.hok
    exact ⟨its, r, ⟨_, n, e, rfl, rfl, rfl⟩, z⟩
  · refine ⟨its.toList, r, ⟨o, n, I.kIn a o hk, hc, hd, by simpa using hs⟩, ?_⟩
    have e := r.length
    simp only [Array.length_toList] at e
    omega
theorem Inv.tuple (I : Inv X pins σ H s) (h : SqT X.K H a xs) : ∃ its : List Value, Vals xs its ∧ IsTup s.heap a its.toArray ∧ xs.length ≤ sizeLine := by
  rcases h with h | ⟨o, its, n, hk, hc, hs, hz, r⟩
  · obtain ⟨z, its, r, p⟩ := h.ok I.hok
    exact ⟨its, r, p, z⟩
  · refine ⟨its.toList, r, ⟨o, I.kIn a o hk, hc, n, by simpa using hs⟩, ?_⟩
    have e := r.length
    simp only [Array.length_toList] at e
    omega
theorem Inv.list_inj (I : Inv X pins σ H s) (h : SqL X.K H a xs) (h' : SqL X.K H a ys) : xs = ys := by
  obtain ⟨its, r, ⟨o, n, e, _, _, d⟩, _⟩ := I.list h
  obtain ⟨its', r', ⟨o', n', e', _, _, d'⟩, _⟩ := I.list h'
  rw [e] at e'; cases e'
  rw [d] at d'
  injection d' with d1 _
  have : its = its' := by simpa using congrArg Array.toList d1
  subst this
  exact r.inj r'
end
abbrev Cx.wish (X : Cx) (E : Value → Shared → Prop) : Cx := { X with xe := E }
abbrev Cx.nox (X : Cx) : Cx := X.wish fun _ _ => False
theorem Cx.Ok.wish {X : Cx} (ok : X.Ok) (E : Value → Shared → Prop) : (X.wish E).Ok :=
  ⟨ok.mod, ok.kind, ok.glob, ok.blt, ok.above, ok.inj, ok.has, ok.cab, ok.hd, ok.frames, ok.stk, ok.exf, ok.bs, ok.bsz, ok.noex, ok.exfs, ok.funs, ok.frf⟩
theorem Cx.Ok.unwish {X : Cx} {E : Value → Shared → Prop} (ok : (X.wish E).Ok) : X.Ok :=
  ⟨ok.mod, ok.kind, ok.glob, ok.blt, ok.above, ok.inj, ok.has, ok.cab, ok.hd, ok.frames, ok.stk, ok.exf, ok.bs, ok.bsz, ok.noex, ok.exfs, ok.funs, ok.frf⟩
section
variable {X : Cx} {pins : List (Addr × Obj)} {σ : St} {H : Hp} {s : Shared} {E : Value → Shared → Prop}
theorem Inv.wish (I : Inv X pins σ H s) (E : Value → Shared → Prop) : Inv (X.wish E) pins σ H s := ⟨I.ok.wish E, I.os, I.bare, I.base, I.loc, I.cell, I.free, I.freeC, I.pin, I.hok, I.len⟩
theorem Inv.unwish (I : Inv (X.wish E) pins σ H s) : Inv X pins σ H s := ⟨I.ok.unwish, I.os, I.bare, I.base, I.loc, I.cell, I.free, I.freeC, I.pin, I.hok, I.len⟩
theorem SP.unwish {D : Ends} {f : Flow} {s' : Shared} (h : SP (X.wish E) pins D f s') : SP X pins D f s' := by
  cases f with
  | next => obtain ⟨σ', H', I, q⟩ := h; exact ⟨σ', H', I.unwish, q⟩
  | brk => obtain ⟨σ', H', I, q⟩ := h; exact ⟨σ', H', I.unwish, q⟩
  | cont => obtain ⟨σ', H', I, q⟩ := h; exact ⟨σ', H', I.unwish, q⟩
  | ret u => obtain ⟨v, σ', H', I, r, q⟩ := h; exact ⟨v, σ', H', I.unwish, r, q⟩
theorem PE.nox {e : Expr} {t : TE} (h : PE X.nox e t) : PE X e t := fun pins s σ H Q I hw =>
  wpAny_mono (h pins s σ H Q (I.wish _) hw) (fun _ _ ⟨v, H', I', r, q⟩ => ⟨v, H', I'.unwish, r, q⟩) fun _ _ z => False.elim z
theorem PT.nox {e : Expr} {t : TT} (h : PT X.nox e t) : PT X e t := fun pins s σ H Q I hw =>
  wpAny_mono (h pins s σ H Q (I.wish _) hw) (fun _ _ ⟨H', I', q⟩ => ⟨H', I'.unwish, q⟩) fun _ _ z => False.elim z
theorem PSs.nox {st : List Stmt} {t : TS} (h : PSs X.nox st t) : PSs X st t := fun pins s σ H D I hw =>
  wpAny_mono (h pins s σ H D (I.wish _) hw) (fun _ _ q => q.unwish) fun _ _ z => False.elim z
end
section
variable {X : Cx} {st : Stmt} {rest : List Stmt} {t u : TS} {e : Expr} {te : TE} {pos : Pos}
def tNext : TS := fun D σ H => D.nx σ H
def tSeq (t u : TS) : TS := fun D σ H => t { D with nx := u D } σ H
theorem pss_nil : PSs X [] tNext := fun _ _ σ H _ I h => wpAny_execs_nil ⟨σ, H, I, h⟩
theorem pss_cons (h1 : PS X st t) (h2 : PSs X rest u) : PSs X (st :: rest) (tSeq t u) := by
  intro pins s σ H D I h
  refine wpAny_execs_cons (thn (h1 pins s σ H { D with nx := u D } I h) fun f s1 q => ?_)
  cases f with
  | next =>
    obtain ⟨σ', H', I', q⟩ := q
    exact h2 pins s1 σ' H' D I' q
  | ret v => exact q
  | brk => exact q
  | cont => exact q
theorem pss_one (h1 : PS X st t) : PSs X [st] t := by
  intro pins s σ H D I h
  refine wpAny_execs_cons (thn (h1 pins s σ H D I h) fun f s1 q => ?_)
  cases f with
  | next => exact wpAny_execs_nil q
  | ret v => exact q
  | brk => exact q
  | cont => exact q
theorem Inv.quiet {pins : List (Addr × Obj)} {σ : St} {H : Hp} {s : Shared} (I : Inv X pins σ H s) : interactive X.env = false := by simp [interactive, I.ok.kind]
def tDrop (te : TE) : TS := fun D σ H => te σ H fun _ H1 => D.nx σ H1
theorem ps_expr (he : PE X e te) (hs : swapsWith e none pos.line X.env = pure false := by rfl) : PS X (.Expr e pos) (tDrop te) := by
  intro pins s σ H D I h
  exact wpAny_Expr_any (thn (he pins s σ H _ I h) fun v s1 ⟨x, H1, I1, r1, q1⟩ => ⟨σ, H1, I1, q1⟩) I.quiet hs
def tRet (te : TE) : TS := fun D σ H => te σ H D.rt
theorem ps_ret (he : PE X e te) : PS X (.Return (some e) pos) (tRet te) := by
  intro pins s σ H D I h
  exact wpAny_Return_some (thn (he pins s σ H _ I h) fun v s1 ⟨x, H1, I1, r1, q1⟩ => ⟨x, σ, H1, I1, r1, q1⟩)
def tRetN : TS := fun D _ H => D.rt .non H
theorem ps_retN : PS X (.Return none pos) tRetN := fun _ _ σ H _ I h => wpAny_Return_none ⟨.non, σ, H, I, rfl, h⟩
def tIfS (c : TT) (t u : TS) : TS := fun D σ H => c σ H fun b H1 => if b = true then t D σ H1 else u D σ H1
theorem ps_if {c : Expr} {a b : List Stmt} {tc : TT} (hc : PT X c tc) (ha : PSs X a t) (hb : PSs X b u) : PS X (.If c a b pos) (tIfS tc t u) := by
  intro pins s σ H D I h
  refine wpAny_If (thn (hc pins s σ H _ I h) fun d s1 hq__ => ?_)
  obtain ⟨H1, I1, q1⟩ := hq__
  cases d with
  | true => exact ha pins s1 σ H1 D I1 q1
  | false => exact hb pins s1 σ H1 D I1 q1
def tNever : TS := fun _ _ _ => False
theorem ps_never : PS X st tNever := fun _ _ _ _ _ _ h => h.elim
end
abbrev TG := V → St → Hp → (St → Hp → Prop) → Prop
abbrev TGs := List V → St → Hp → (St → Hp → Prop) → Prop
def PG (X : Cx) (target : Expr) (t : TG) : Prop :=
  ∀ (pins : List (Addr × Obj)) (s : Shared) (σ : St) (H : Hp) (v : V) (u : Value) (Q : St → Hp → Prop), Inv X pins σ H s → RelV v u → t v σ H Q →
    wpAny (model X.prog X.w) X.A (assign target X.env u) (fun _ s' => ∃ σ' H', Inv X pins σ' H' s' ∧ Q σ' H') X.xe s
def PGs (X : Cx) (ts : List Expr) (t : TGs) : Prop :=
  ∀ (pins : List (Addr × Obj)) (s : Shared) (σ : St) (H : Hp) (vs : List V) (us : List Value) (Q : St → Hp → Prop), Inv X pins σ H s → Vals vs us → t vs σ H Q →
    wpAny (model X.prog X.w) X.A (assignInOrder ((assignEach ts X.env).map (·.2)) us) (fun _ s' => ∃ σ' H', Inv X pins σ' H' s' ∧ Q σ' H') X.xe s
section
variable {X : Cx} {pos : Pos}
def gName (i : Nat) : TG := fun v σ H Q => Q (σ.set i (some v)) H
theorem pg_name {i : Nat} {x : Str} (hN : X.N.Nodup) (hi : X.N[i]? = some x) (hx : Loc X.env.scope x) (hf : X.fn x = true ∨ X.env.scope.names.lookup x = some .local := by first | exact .inl rfl | exact .inr rfl | assumption) : PG X (.Name x pos) (gName i) := by
  intro pins s σ H v u Q I r h
  exact wpAny_assign_Name (store_ok I hN hi hx r (fun s' I' => ⟨_, H, I', h⟩) hf)
def gNil : TGs := fun vs σ H Q => vs = [] ∧ Q σ H
def gCons (t : TG) (u : TGs) : TGs := fun vs σ H Q => ∃ v r, vs = v :: r ∧ t v σ H fun σ' H' => u r σ' H' Q
theorem pgs_nil : PGs X [] gNil := by
  intro pins s σ H vs us Q I r h
  obtain ⟨e, h⟩ := h
  subst e
  cases r
  exact assignInOrder_nil ⟨σ, H, I, h⟩
theorem pgs_cons {e : Expr} {es : List Expr} {t : TG} {u : TGs} (h1 : PG X e t) (h2 : PGs X es u)
    (hs : (assignEach (e :: es) X.env).map (·.2) = assign e X.env :: (assignEach es X.env).map (·.2) := by rfl) : PGs X (e :: es) (gCons t u) := by
  intro pins s σ H vs us Q I r h
  obtain ⟨v, vr, e1, h⟩ := h
  subst e1
  cases r with
  | cons r rr =>
    rw [hs]
    refine assignInOrder_cons (thn (h1 pins s σ H _ _ _ I r h) fun _ s1 hq__ => ?_)
    obtain ⟨σ1, H1, I1, q1⟩ := hq__
    exact h2 pins s1 σ1 H1 _ _ Q I1 rr q1
def gTup (K : PySem.W.Frag) (n : Nat) (t : TGs) : TG := fun v σ H Q => ∃ a xs, v = .ref a ∧ SqT K H a xs ∧ xs.length = n ∧ t xs σ H Q
theorem pg_tup {es : List Expr} {k : Nat} {t : TGs} {n : Nat} (hc : X.calm = true) (h : PGs X es t)
    (hn : (assignEach es X.env).length = n := by rfl) (hst : (assignEach es X.env).findIdx? (·.1) = none := by rfl) : PG X (.Tuple es k pos) (gTup X.K n t) := by
  intro pins s σ H v u Q I r hw
  obtain ⟨a, xs, e1, hq, hl, hw⟩ := hw
  subst e1
  cases r
  obtain ⟨its, rv, ht, hz⟩ := I.tuple hq
  refine assign_Tuple_tuple (I.ok.hd hc) ht (by simp [hn, ← hl, rv.length]) hst fun h' hx => ?_
  have I1 : Inv X pins σ H { s with heap := h' } := I.kept (t' := s.toks) fun b o e => hx b o (Nat.ne_of_lt (Heap.lt_size e)) e
  exact h pins _ σ H xs _ Q I1 (by simpa using rv) hw
def tAsg (te : TE) (g : TG) : TS := fun D σ H => te σ H fun x H1 => g x σ H1 D.nx
theorem ps_asg {tg e : Expr} {te : TE} {g : TG} (he : PE X e te) (hg : PG X tg g) (hs : swapsWithSole [tg] e pos.line X.env = pure false := by rfl) (hw : swappedStores [tg] e X.env = pure none := by rfl)
    (h1 : (assignEach [tg] X.env).map (·.2) = [assign tg X.env] := by rfl) : PS X (.Assign [tg] e pos) (tAsg te g) := by
  intro pins s σ H D I h
  refine wpAny_Assign_stores (thn (he pins s σ H _ I h) fun v s1 hq__ => ?_) hs hw
  obtain ⟨x, H1, I1, r1, q1⟩ := hq__
  rw [h1]
  exact thn (hg pins s1 σ H1 x v _ I1 r1 q1) fun _ s2 q => q
theorem ps_set {i : Nat} {x : Str} {e : Expr} {te : TE} {pos' : Pos} (hN : X.N.Nodup) (hi : X.N[i]? = some x) (hx : Loc X.env.scope x) (he : PE X e te) (hs : swapsWith e (some (.Name x pos')) pos.line X.env = pure false := by rfl) (hf : X.fn x = true ∨ X.env.scope.names.lookup x = some .local := by first | exact .inl rfl | exact .inr rfl | assumption) :
    PS X (.Assign [.Name x pos'] e pos) (tAsg te (gName i)) := by
  intro pins s σ H D I h
  refine wpAny_Assign_Name (thn (he pins s σ H _ I h) fun v s1 hq__ => ?_) hs
  obtain ⟨y, H1, I1, r1, q1⟩ := hq__
  exact store_ok I1 hN hi hx r1 (fun s2 I2 => ⟨_, H1, I2, q1⟩) hf
end
section
variable {X : Cx} {pos : Pos}
end
structure It where
  go : Nat → Hp → Prop
  yld : Nat → Hp → V → Hp → Prop
  stop : Nat → Hp → Prop
def FpOk (X : Cx) (pins : List (Addr × Obj)) (H : Hp) (b : Addr) : Prop :=
  H b = none ∧ b ≠ X.env.locals ∧ b ∉ X.fs ∧ (b ∈ X.ex ∨ X.s₀.heap.objs.size ≤ b) ∧ (∀ x c, X.env.cells.lookup x = some c → c ≠ b) ∧ ∀ p ∈ X.pn ++ pins, p.1 ≠ b
theorem Inv.fpOk {X : Cx} {pins : List (Addr × Obj)} {σ : St} {H H' : Hp} {s : Shared} {b : Addr} (I : Inv X pins σ H s) (hb : s.heap.objs.size ≤ b) (hn : H' b = none) : FpOk X pins H' b := by
  refine ⟨hn, Nat.ne_of_gt (Nat.lt_of_lt_of_le I.lt hb), I.nofs hb, .inr (Nat.le_trans I.sz hb), fun x c e z => ?_, fun p hp z => ?_⟩
  · obtain ⟨v, q⟩ := I.cell x c e
    exact absurd (Nat.lt_of_lt_of_le q.lt (by rw [z]; exact hb)) (Nat.lt_irrefl _)
  · exact absurd (Nat.lt_of_lt_of_le (Heap.lt_size (I.pin p hp).1) (by rw [z]; exact hb)) (Nat.lt_irrefl _)
structure Turn (P : Program) (w : World) (K : PySem.W.Frag) (tg : Expr) (J : It) (fp : List Addr) (it : Addr) (tn : Nat → Heap → Prop) : Prop where
  mem : it ∈ fp
  obj : ∀ i h, tn i h → ∀ b ∈ fp, ∃ o, h.get? b = some o ∧ ∀ v, o.data ≠ .cell v
  keep : ∀ i h h', tn i h → (∀ b ∈ fp, ∀ o, h.get? b = some o → h'.get? b = some o) → tn i h'
  item : ∀ (X : Cx), X.prog = P → X.w = w → X.K = K → X.calm = true → ∀ (i : Nat) (pins : List (Addr × Obj)) (s : Shared) (σ : St) (H : Hp) (E : Value → Shared → Prop), Inv X pins σ H s → (∀ b ∈ fp, FpOk X pins H b) → tn i s.heap → J.go i H →
    wpAny (model P w) X.A (pyNext (.ref it)) (fun r s1 => ∃ u, r = some u ∧
      wpAny (model P w) X.A (letOwnedTupleGo tg (.ref it) u) (fun _ s2 => ∃ x H', Inv X pins σ H' s2 ∧ RelV x u ∧ J.yld i H x H' ∧ tn (i + 1) s2.heap ∧ ∀ b ∈ fp, H' b = none) E s1) E s
  done : ∀ (X : Cx), X.prog = P → X.w = w → X.K = K → X.calm = true → ∀ (i : Nat) (pins : List (Addr × Obj)) (s : Shared) (σ : St) (H : Hp) (E : Value → Shared → Prop), Inv X pins σ H s → (∀ b ∈ fp, FpOk X pins H b) → tn i s.heap → J.stop i H →
    wpAny (model P w) X.A (pyNext (.ref it)) (fun r s1 => r = none ∧ Inv X pins σ H s1) E s
  self : ∀ (A : Around) (i : Nat) (s : Shared) (Q : Value → Shared → Prop) (E : Value → Shared → Prop), tn i s.heap → Q (.ref it) s → wpAny (model P w) A (pyIter (.ref it)) Q E s
abbrev TI := St → Hp → (It → Hp → Prop) → Prop
def PIE (X : Cx) (pins : List (Addr × Obj)) (σ : St) (tg : Expr) (R : It → Hp → Prop) (itv : Value) (s2 : Shared) : Prop :=
  ∃ (it : Addr) (fp : List Addr) (tn : Nat → Heap → Prop) (J : It) (H' : Hp), itv = .ref it ∧ Inv X pins σ H' s2 ∧ Turn X.prog X.w X.K tg J fp it tn ∧ tn 0 s2.heap ∧ (∀ b ∈ fp, FpOk X pins H' b) ∧ R J H'
def PI (X : Cx) (tg iter : Expr) (wi : TI) : Prop :=
  ∀ (pins : List (Addr × Obj)) (s : Shared) (σ : St) (H : Hp) (R : It → Hp → Prop), Inv X pins σ H s → wi σ H R →
    wpAny (model X.prog X.w) X.A (eval iter X.env) (fun v s1 => wpAny (model X.prog X.w) X.A (pyIter v) (PIE X pins σ tg R) X.xe s1) X.xe s
theorem go_of {M : Model} {A : Around} {E : Value → Shared → Prop} {s : Shared} {tg : Expr} {it : Addr} {u : Value} {o : Obj} {n : String} {vs : Array Value} {Q : Unit → Shared → Prop} (ho : s.heap.get? it = some o) (hc : o.cls = .type n) (hd : o.data = .fields vs)
    (hn : ["enumerate", "zip", "dict_itemiterator", "dict_reverseitemiterator", "odict_iterator", "itertools.zip_longest", "itertools.pairwise"].contains n = false) (hQ : Q () s) : wpAny M A (letOwnedTupleGo tg (.ref it) u) Q E s := by
  unfold letOwnedTupleGo
  cases tg <;> first
    | exact wpAny_pure hQ
    | (cases u <;> first
        | exact wpAny_pure hQ
        | (refine wpAny_bind (wpAny_load ho ?_)
           rw [hc, hd]
           show wpAny M A (if (["enumerate", "zip", "dict_itemiterator", "dict_reverseitemiterator", "odict_iterator", "itertools.zip_longest", "itertools.pairwise"].contains n && vs[0]? == some (rawInt _)) = true then _ else _) Q E s
           rw [if_neg (by intro h; rw [hn, Bool.false_and] at h; cases h)]
           exact wpAny_pure hQ))
def Itl (K : PySem.W.Frag) (a : Addr) : It :=
  ⟨fun i H => ∃ xs x, SqL K H a xs ∧ xs[i]? = some x, fun i H x H' => H' = H ∧ ∀ xs, SqL K H a xs → xs[i]? = some x, fun i H => ∃ xs, SqL K H a xs ∧ xs.length ≤ i⟩
def Itr (lo : Int) (n : Nat) : It := ⟨fun i _ => i < n, fun i H x H' => H' = H ∧ x = .int (lo + i), fun i _ => n ≤ i⟩
theorem turn_list {P : Program} {w : World} {K : PySem.W.Frag} {tg : Expr} (a it : Addr) : Turn P w K tg (Itl K a) [it] it (fun i h => h.IsListIter it a i) where
  mem := by simp
  obj := fun i h st b hb => by
    have e : b = it := by simpa using hb
    subst e
    obtain ⟨o, e, c, d⟩ := st
    exact ⟨o, e, fun v z => by rw [d] at z; cases z⟩
  keep := fun i h h' st k => st.at fun o e => k it (by simp) o e
  item := by
    intro X hP hw hK hc i pins s σ H E I hf st hg
    subst hP hw hK
    obtain ⟨xs, x, hq, hx⟩ := hg
    obtain ⟨its, rv, p, hz⟩ := I.list hq
    obtain ⟨u, hu, ru⟩ := rv.get hx
    obtain ⟨f0, f1, f2, f3, f4, f5⟩ := hf it (by simp)
    refine wpAny_pyNext_list_item st p.isList (x := u) (by simpa using hu) fun h' st' sb => ?_
    have I1 : Inv X pins σ H { s with heap := h' } := I.turned (t' := s.toks) (fun b o hb e => (sb.2 b hb).trans e) f0 f1 f3 f4 f5
    obtain ⟨o, e, c, d⟩ := id st'
    exact ⟨u, rfl, go_of (s := { s with heap := h' }) e c d (by decide) ⟨x, H, I1, ru, ⟨rfl, fun ys hy => by rw [I.list_inj hy hq]; exact hx⟩, st', fun b hb => (hf b hb).1⟩⟩
  done := by
    intro X hP hw hK hc i pins s σ H E I hf st hg
    subst hP hw hK
    obtain ⟨xs, hq, hx⟩ := hg
    obtain ⟨its, rv, p, hz⟩ := I.list hq
    obtain ⟨f0, f1, f2, f3, f4, f5⟩ := hf it (by simp)
    have hl := rv.length
    exact wpAny_pyNext_list_end (I.ok.hd hc) st p.isList (by simp; omega) fun h' eb => ⟨rfl, I.turned (t' := s.toks) (fun b o hb e => eb b o hb e) f0 f1 f3 f4 f5⟩
  self := fun _ _ _ _ _ st h => wpAny_pyIter_listiter st h
theorem turn_range {P : Program} {w : World} {K : PySem.W.Frag} {tg : Expr} (it : Addr) (lo : Int) (n : Nat) : Turn P w K tg (Itr lo n) [it] it (fun i h => IsRangeIter h it (lo + (i : Nat) * 1) ((n : Int) - (i : Nat)) 1) where
  mem := by simp
  obj := fun i h st b hb => by
    have e : b = it := by simpa using hb
    subst e
    exact ⟨_, st, fun v z => by
      have z' : Data.fields _ = Data.cell v := z
      cases z'⟩
  keep := fun i h h' st k => k it (by simp) _ st
  item := by
    intro X hP hw hK hc i pins s σ H E I hf st hg
    subst hP hw hK
    obtain ⟨f0, f1, f2, f3, f4, f5⟩ := hf it (by simp)
    have W := Walks.range (prog := X.prog) (w := X.w) (I.ok.hd hc) it lo 1 n
    refine W.item i s _ _ hg st fun v h' tk hv st' kk => ?_
    obtain ⟨t, rfl⟩ := hv
    have I1 : Inv X pins σ H { s with heap := h', toks := tk } := I.turned (fun b o hb e => kk b o (by simpa using hb) e) f0 f1 f3 f4 f5
    refine ⟨_, rfl, go_of (s := { s with heap := h', toks := tk }) (n := "range_iterator") st' rfl rfl (by decide) ⟨.int (lo + i), H, I1, ⟨t, ?_⟩, ⟨rfl, rfl⟩, st', fun b hb => (hf b hb).1⟩⟩
    rw [Int.mul_one]
  done := by
    intro X hP hw hK hc i pins s σ H E I hf st hg
    subst hP hw hK
    obtain ⟨f0, f1, f2, f3, f4, f5⟩ := hf it (by simp)
    exact wpAny_pyNext_range_end (I.ok.hd hc) st (by have : n ≤ i := hg; omega) fun h' eb => ⟨rfl, I.turned (t' := s.toks) (fun b o hb e => eb b o hb e) f0 f1 f3 f4 f5⟩
  self := fun _ _ _ _ _ st h => wpAny_pyIter_rangeiter st h
end L2
namespace L2
open PySem PySem.Spec PyProof.Rows
section
variable {X : Cx} {tg : Expr}
def iList (K : PySem.W.Frag) (tl : TE) : TI := fun σ H R => tl σ H fun x H1 => ∃ a, x = .ref a ∧ (∃ xs, SqL K H1 a xs) ∧ R (Itl K a) H1
theorem pi_list {l : Expr} {tl : TE} (hl : PE X l tl) : PI X tg l (iList X.K tl) := by
  intro pins s σ H R I h
  refine thn (hl pins s σ H _ I h) fun v s1 hq__ => ?_
  obtain ⟨x, H1, I1, r1, q1⟩ := hq__
  obtain ⟨a, e, ⟨xs, hq⟩, q⟩ := q1
  subst e
  cases r1
  obtain ⟨its, rv, p, hz⟩ := I1.list hq
  refine wpAny_pyIter_list p.isList ?_
  refine ⟨s1.heap.objs.size, [s1.heap.objs.size], _, _, H1, rfl, I1.kept (t' := s1.toks) fun b o e => Heap.get?_push_of_some _ e, turn_list a _, ⟨_, Heap.get?_push_size _ rfl, rfl, rfl⟩, fun b hb => ?_, q⟩
  have e : b = s1.heap.objs.size := by simpa using hb
  subst e
  exact I1.fpOk (Nat.le_refl _) (I1.hok.fresh (Nat.le_refl _))
theorem range_it {pins : List (Addr × Obj)} {σ : St} {H : Hp} {s : Shared} {R : It → Hp → Prop} {E : Value → Shared → Prop} {lo hi : Int} {t u v : Tok} {tk : Nat} (I : Inv X pins σ H s) (h1 : -(2 ^ 62) ≤ lo) (h2 : lo < 2 ^ 62) (h3 : -(2 ^ 62) ≤ hi) (h4 : hi < 2 ^ 62)
    (q : R (Itr lo (hi - lo).toNat) H) : wpAny (model X.prog X.w) X.A (pyIter (.ref s.heap.objs.size)) (PIE X pins σ tg R) E { s with heap := s.heap.push { cls := .type "range", data := .fields #[.int lo t, .int hi u, .int 1 v] }, toks := tk } := by
  refine wpAny_pyIter_range (IsRange.new ..) (small_one h1 h2 h3 h4) ?_
  have I1 : Inv X pins σ H { s with heap := s.heap.push { cls := .type "range", data := .fields #[.int lo t, .int hi u, .int 1 v] }, toks := tk } := I.kept fun b o e => Heap.get?_push_of_some _ e
  refine ⟨(s.heap.push { cls := .type "range", data := .fields #[.int lo t, .int hi u, .int 1 v] }).objs.size, [(s.heap.push { cls := .type "range", data := .fields #[.int lo t, .int hi u, .int 1 v] }).objs.size], _, _, H, rfl,
    I1.kept (t' := tk) fun b o e => Heap.get?_push_of_some _ e, turn_range _ lo (hi - lo).toNat, ?_, fun b hb => ?_, q⟩
  · have e1 : lo + ((0 : Nat) : Int) * 1 = lo := by simp
    have e2 : (((hi - lo).toNat : Nat) : Int) - ((0 : Nat) : Int) = Builtin.Range.rangeSize lo hi 1 := by rw [rangeSize_one]; split <;> omega
    show IsRangeIter _ _ (lo + ((0 : Nat) : Int) * 1) ((((hi - lo).toNat : Nat) : Int) - ((0 : Nat) : Int)) 1
    rw [e1, e2]
    exact Heap.get?_push_size _ rfl
  · have e : b = (s.heap.push { cls := .type "range", data := .fields #[.int lo t, .int hi u, .int 1 v] }).objs.size := by simpa using hb
    subst e
    exact I1.fpOk (Nat.le_refl _) (I1.hok.fresh (Nat.le_refl _))
def iRng1 (ta : TA) : TI := fun σ H R => ta σ H fun vs H1 => ∃ j : Int, vs = [.int j] ∧ -(2 ^ 62) ≤ j ∧ j < 2 ^ 62 ∧ R (Itr 0 j.toNat) H1
theorem pi_range1 {a : Expr} {ta : TA} {p pos : Pos} (hg : Gl X "range") (hm : X.mg "range" = none) (ha : PA X [a] ta) (hs : starEach [a] X.env = [(false, eval a X.env)] := by rfl) : PI X tg (.Call (.Name "range" p) [a] [] pos) (iRng1 ta) := by
  intro pins s σ H R I h
  refine Call_ (ld_blt I hg hm boot_range (PyProof.Rows.callWith_type1 (thn (ha pos pins s σ H _ I h) fun us s1 hq__ => ?_) hs rfl))
  obtain ⟨vs, H1, I1, r1, q1⟩ := hq__
  obtain ⟨j, e, q1, q2, q⟩ := q1
  subst e
  cases r1 with
  | cons r rr =>
    cases rr
    obtain ⟨t, rfl⟩ := r
    exact call_range_1 (range_it I1 (by omega) (by omega) q1 q2 (by simpa using q))
def tFor (wi : TI) (g : TG) (tb : TS) : TS := fun D σ H => wi σ H fun J H1 => ∃ W : Nat → Nat → St → Hp → Prop, (∃ m, W 0 m σ H1) ∧ ∀ i m σ H, W i m σ H →
  (J.stop i H ∧ D.nx σ H) ∨ (J.go i H ∧ ∃ N : St → Hp → Prop, (∀ σ' H', N σ' H' → ∃ m', m' < m ∧ W (i + 1) m' σ' H') ∧ ∀ x H', J.yld i H x H' → g x σ H' fun σ2 H2 => tb { D with nx := N, ct := N, bk := D.nx } σ2 H2)
def pinsAt (fp : List Addr) (h : Heap) : List (Addr × Obj) := fp.filterMap fun b => (h.get? b).map fun o => (b, o)
theorem mem_pinsAt {fp : List Addr} {h : Heap} {b : Addr} {o : Obj} (hb : b ∈ fp) (e : h.get? b = some o) : (b, o) ∈ pinsAt fp h := List.mem_filterMap.mpr ⟨b, hb, by rw [e]; rfl⟩
theorem of_pinsAt {fp : List Addr} {h : Heap} {p : Addr × Obj} (hp : p ∈ pinsAt fp h) : p.1 ∈ fp ∧ h.get? p.1 = some p.2 := by
  obtain ⟨b, hb, e⟩ := List.mem_filterMap.mp hp
  cases q : h.get? b with
  | none => rw [q] at e; cases e
  | some o =>
    rw [q] at e
    have e' : (b, o) = p := Option.some.inj e
    subst e'
    exact ⟨hb, q⟩
theorem Inv.pinned {pins : List (Addr × Obj)} {σ : St} {H : Hp} {s : Shared} {fp : List Addr} (I : Inv X pins σ H s) (hf : ∀ b ∈ fp, FpOk X pins H b) (ho : ∀ b ∈ fp, ∃ o, s.heap.get? b = some o ∧ ∀ v, o.data ≠ .cell v) : Inv X (pins ++ pinsAt fp s.heap) σ H s :=
  I.pins_of fun p hp => (List.mem_append.mp hp).elim (fun z => I.pin p (List.mem_append_right _ z)) fun z => by
    obtain ⟨hb, e⟩ := of_pinsAt z
    obtain ⟨f0, f1, f2, _⟩ := hf p.1 hb
    obtain ⟨o, e', d⟩ := ho p.1 hb
    rw [e] at e'; cases e'
    exact ⟨e, f0, f1, f2, d⟩
theorem Inv.unpinned {pins pl : List (Addr × Obj)} {σ : St} {H : Hp} {s : Shared} (I : Inv X (pins ++ pl) σ H s) : Inv X pins σ H s := I.pins_of fun p hp => I.pin p (List.mem_append_right _ (List.mem_append_left _ hp))
theorem ps_for {iter : Expr} {body : List Stmt} {wi : TI} {g : TG} {tb : TS} {pos : Pos} (hp : PassesOwn (model X.prog X.w) X.A X.env X.xe) (hc : X.calm = true) (hi : PI X tg iter wi) (hg : PG X tg g) (hb : PSs X body tb)
    (hs : ∀ x, foldedSetIterable iter X.env x = pure x := by intro _; rfl) : PS X (.For tg iter body [] pos) (tFor wi g tb) := by
  intro pins s σ H D I h
  refine wpAny_For (thn (hi pins s σ H _ I h) fun v s1 h1 => thn h1 fun itv s2 h2 => ?_) hs
  obtain ⟨it, fp, tn, J, H2, e, I2, T, st2, f2, W, ⟨m0, w0⟩, turn⟩ := h2
  subst e
  have stat : ∀ {H' : Hp}, (∀ b ∈ fp, H' b = none) → ∀ b ∈ fp, FpOk X pins H' b := fun hn b hb => ⟨hn b hb, (f2 b hb).2⟩
  refine codeAny_forLoop_any (fun n s' => ∃ i σ' H', Inv X pins σ' H' s' ∧ tn i s'.heap ∧ (∀ b ∈ fp, H' b = none) ∧ W i n σ' H') ?_ m0 ⟨0, σ, H2, I2, st2, fun b hb => (f2 b hb).1, w0⟩
  rintro n s3 ⟨i, σ3, H3, I3, st3, fr3, w3⟩
  rcases turn i n σ3 H3 w3 with ⟨stop, qn⟩ | ⟨go, N, hN, step⟩
  · refine wpAny_passesOwn hp (thn (T.done X rfl rfl rfl hc i pins s3 σ3 H3 X.xe I3 (stat fr3) st3 stop) fun r s4 hq__ => ?_)
    obtain ⟨hr, I4⟩ := hq__
    subst hr
    exact wpAny_execs_nil ⟨σ3, H3, I4, qn⟩
  · refine wpAny_passesOwn hp (thn (T.item X rfl rfl rfl hc i pins s3 σ3 H3 X.xe I3 (stat fr3) st3 go) fun r s4 hq__ => ?_)
    obtain ⟨u, hr, h4⟩ := hq__
    subst hr
    refine wpAny_passesOwn hp (thn h4 fun _ s5 hq__ => ?_)
    obtain ⟨x, H5, I5, r5, y5, st5, fr5⟩ := hq__
    have I5' := I5.pinned (stat fr5) (T.obj _ _ st5)
    refine wpAny_passesOwn hp (thn (hg _ s5 σ3 H5 x u _ I5' r5 (step x H5 y5)) fun _ s6 hq__ => ?_)
    obtain ⟨σ6, H6, I6, q6⟩ := hq__
    refine wpAny_passesOwn hp (thn (hb _ s6 σ6 H6 _ I6 q6) fun f s7 q7 => ?_)
    have again : ∀ {σ7 : St} {H7 : Hp}, Inv X (pins ++ pinsAt fp s5.heap) σ7 H7 s7 → N σ7 H7 → ∃ m, m < n ∧ ∃ i σ' H', Inv X pins σ' H' s7 ∧ tn i s7.heap ∧ (∀ b ∈ fp, H' b = none) ∧ W i m σ' H' := fun {σ7 H7} I7 n7 => by
      obtain ⟨m', hm, w7⟩ := hN σ7 H7 n7
      refine ⟨m', hm, i + 1, σ7, H7, I7.unpinned, T.keep _ _ _ st5 fun b hb o e => (I7.pin (b, o) (List.mem_append_right _ (List.mem_append_right _ (mem_pinsAt hb e)))).1, fun b hb => ?_, w7⟩
      obtain ⟨o, e, d⟩ := T.obj _ _ st5 b hb
      exact (I7.pin (b, o) (List.mem_append_right _ (List.mem_append_right _ (mem_pinsAt hb e)))).2.1
    cases f with
    | next => obtain ⟨σ7, H7, I7, n7⟩ := q7; exact again I7 n7
    | cont => obtain ⟨σ7, H7, I7, n7⟩ := q7; exact again I7 n7
    | brk => obtain ⟨σ7, H7, I7, q7⟩ := q7; exact ⟨σ7, H7, I7.unpinned, q7⟩
    | ret v => obtain ⟨x7, σ7, H7, I7, r7, q7⟩ := q7; exact ⟨x7, σ7, H7, I7.unpinned, r7, q7⟩
end
theorem for_list {K : PySem.W.Frag} {a : Addr} {xs : List V} {g : TG} {tb : TS} {D : Ends} {σ : St} {H : Hp} (Pv : Nat → St → Hp → Prop) (h0 : Pv 0 σ H) (hl : ∀ i σ H, i ≤ xs.length → Pv i σ H → SqL K H a xs)
    (hs : ∀ i x σ H, xs[i]? = some x → Pv i σ H → g x σ H fun σ2 H2 => tb { D with nx := Pv (i + 1), ct := Pv (i + 1), bk := D.nx } σ2 H2) (hd : ∀ σ H, Pv xs.length σ H → D.nx σ H) :
    ∃ W : Nat → Nat → St → Hp → Prop, (∃ m, W 0 m σ H) ∧ ∀ i m σ H, W i m σ H →
      ((Itl K a).stop i H ∧ D.nx σ H) ∨ ((Itl K a).go i H ∧ ∃ N : St → Hp → Prop, (∀ σ' H', N σ' H' → ∃ m', m' < m ∧ W (i + 1) m' σ' H') ∧ ∀ x H', (Itl K a).yld i H x H' → g x σ H' fun σ2 H2 => tb { D with nx := N, ct := N, bk := D.nx } σ2 H2) := by
  refine ⟨fun i m σ H => m = xs.length - i ∧ i ≤ xs.length ∧ Pv i σ H, ⟨xs.length, by simp, Nat.zero_le _, h0⟩, ?_⟩
  rintro i m σ H ⟨rfl, hi, p⟩
  have q := hl i σ H hi p
  by_cases hlt : i < xs.length
  · refine .inr ⟨⟨xs, xs[i], q, by simp [hlt]⟩, Pv (i + 1), fun σ' H' p' => ⟨xs.length - (i + 1), by omega, rfl, hlt, p'⟩, fun x H' y => ?_⟩
    obtain ⟨e, y⟩ := y
    subst e
    exact hs i x σ _ (y xs q) p
  · have e : i = xs.length := by omega
    subst e
    exact .inl ⟨⟨xs, q, Nat.le_refl _⟩, hd σ H p⟩
theorem for_range {lo : Int} {n : Nat} {g : TG} {tb : TS} {D : Ends} {σ : St} {H : Hp} (Pv : Nat → St → Hp → Prop) (h0 : Pv 0 σ H)
    (hs : ∀ i σ H, i < n → Pv i σ H → g (.int (lo + i)) σ H fun σ2 H2 => tb { D with nx := Pv (i + 1), ct := Pv (i + 1), bk := D.nx } σ2 H2) (hd : ∀ σ H, Pv n σ H → D.nx σ H) :
    ∃ W : Nat → Nat → St → Hp → Prop, (∃ m, W 0 m σ H) ∧ ∀ i m σ H, W i m σ H →
      ((Itr lo n).stop i H ∧ D.nx σ H) ∨ ((Itr lo n).go i H ∧ ∃ N : St → Hp → Prop, (∀ σ' H', N σ' H' → ∃ m', m' < m ∧ W (i + 1) m' σ' H') ∧ ∀ x H', (Itr lo n).yld i H x H' → g x σ H' fun σ2 H2 => tb { D with nx := N, ct := N, bk := D.nx } σ2 H2) := by
  refine ⟨fun i m σ H => m = n - i ∧ i ≤ n ∧ Pv i σ H, ⟨n, by simp, Nat.zero_le _, h0⟩, ?_⟩
  rintro i m σ H ⟨rfl, hi, p⟩
  by_cases hlt : i < n
  · refine .inr ⟨hlt, Pv (i + 1), fun σ' H' p' => ⟨n - (i + 1), by omega, rfl, hlt, p'⟩, fun x H' y => ?_⟩
    obtain ⟨e, y⟩ := y
    subst e y
    exact hs i σ _ hlt p
  · have e : i = n := by omega
    subst e
    exact .inl ⟨Nat.le_refl _, hd σ H p⟩
end L2
namespace L2
open PySem PySem.Spec PyProof.Rows
abbrev R2 := V → V → Hp → VK → Prop
def OpR (X : Cx) (f : Value → Value → Sem Value) (r : R2) : Prop :=
  ∀ (pins : List (Addr × Obj)) (s : Shared) (σ : St) (H : Hp) (x y : V) (v u : Value) (Q : VK), Inv X pins σ H s → RelV x v → RelV y u → r x y H Q →
    wpAny (model X.prog X.w) X.A (f v u) (EP X pins σ Q) X.xe s
def UnR (X : Cx) (f : Value → Sem Value) (r : V → Hp → VK → Prop) : Prop :=
  ∀ (pins : List (Addr × Obj)) (s : Shared) (σ : St) (H : Hp) (x : V) (v : Value) (Q : VK), Inv X pins σ H s → RelV x v → r x H Q →
    wpAny (model X.prog X.w) X.A (f v) (EP X pins σ Q) X.xe s
def CallR (X : Cx) (f : Value) (r : List V → Hp → VK → Prop) : Prop :=
  ∀ (pins : List (Addr × Obj)) (s : Shared) (σ : St) (H : Hp) (xs : List V) (us : List Value) (Q : VK), Inv X pins σ H s → Vals xs us → r xs H Q →
    wpAny (model X.prog X.w) X.A (call f us) (EP X pins σ Q) X.xe s
def tOp (r : R2) (ta tb : TE) : TE := fun σ H Q => ta σ H fun x H1 => tb σ H1 fun y H2 => r x y H2 Q
def tUn (r : V → Hp → VK → Prop) (ta : TE) : TE := fun σ H Q => ta σ H fun x H1 => r x H1 Q
def rI (C : Int → Int → Prop) (g : Int → Int → V) : R2 := fun x y H Q => ∃ i j, x = .int i ∧ y = .int j ∧ C i j ∧ Q (g i j) H
def rI0 (g : Int → Int → V) : R2 := fun x y H Q => ∃ i j, x = .int i ∧ y = .int j ∧ Q (g i j) H
def rU (g : Int → V) : V → Hp → VK → Prop := fun x H Q => ∃ i, x = .int i ∧ Q (g i) H
section
variable {X : Cx} {a b c : Expr} {ta tb tc : TE} {pos : Pos}
theorem binT (ha : PE X a ta) (hb : PE X b tb) {pins : List (Addr × Obj)} {s : Shared} {σ : St} {H : Hp} {R : V → V → Hp → Prop} (I : Inv X pins σ H s)
    (h : ta σ H fun x H1 => tb σ H1 fun y H2 => R x y H2) {Q : Value → Shared → Prop} {f : Value → Value → Sem Value}
    (hf : ∀ v u s2 x y H2, Inv X pins σ H2 s2 → RelV x v → RelV y u → R x y H2 → wpAny (model X.prog X.w) X.A (f v u) Q X.xe s2) :
    wpAny (model X.prog X.w) X.A (eval a X.env) (fun v s₁ => wpAny (model X.prog X.w) X.A (eval b X.env) (fun u s₂ => wpAny (model X.prog X.w) X.A (f v u) Q X.xe s₂) X.xe s₁) X.xe s := by
  refine thn (ha pins s σ H _ I h) fun v s1 hq__ => ?_
  obtain ⟨x, H1, I1, r1, q1⟩ := hq__
  refine thn (hb pins s1 σ H1 _ I1 q1) fun u s2 hq__ => ?_
  obtain ⟨y, H2, I2, r2, q2⟩ := hq__
  exact hf v u s2 x y H2 I2 r1 r2 q2
theorem pe_op {op : Operator} {r : R2} (ho : OpR X (binaryOp op) r) (ha : PE X a ta) (hb : PE X b tb) : PE X (.BinOp a op b pos) (tOp r ta tb) := by
  intro pins s σ H Q I h
  exact wpAny_BinOp (binT ha hb I h fun v u s2 x y H2 I2 rx ry q => ho pins s2 σ H2 x y v u Q I2 rx ry q)
theorem pe_un {op : UnaryOp} {r : V → Hp → VK → Prop} (ho : UnR X (unaryOp op) r) (ha : PE X a ta) : PE X (.UnaryOp op a pos) (tUn r ta) := by
  intro pins s σ H Q I h
  exact UnaryOp_ (thn (ha pins s σ H _ I h) fun v s1 ⟨x, H1, I1, r1, q1⟩ => ho pins s1 σ H1 x v Q I1 r1 q1)
theorem opI {f : Value → Value → Sem Value} {C : Int → Int → Prop} {g : Int → Int → Int}
    (rule : ∀ (i j : Int) (t u : Tok) (s : Shared) (Q : Value → Shared → Prop) (E : Value → Shared → Prop), C i j → Q (.int (g i j) s.toks) { s with toks := s.toks + 1 } → wpAny (model X.prog X.w) X.A (f (.int i t) (.int j u)) Q E s) :
    OpR X f (rI C fun i j => .int (g i j)) := by
  intro pins s σ H x y v u Q I rx ry h
  obtain ⟨i, j, rfl, rfl, hc, q⟩ := h
  obtain ⟨t, rfl⟩ := rx
  obtain ⟨t', rfl⟩ := ry
  exact rule i j t t' s _ _ hc ⟨.int (g i j), H, I.tok _, ⟨_, rfl⟩, q⟩
theorem opI0 {f : Value → Value → Sem Value} {g : Int → Int → Int}
    (rule : ∀ (i j : Int) (t u : Tok) (s : Shared) (Q : Value → Shared → Prop) (E : Value → Shared → Prop), Q (.int (g i j) s.toks) { s with toks := s.toks + 1 } → wpAny (model X.prog X.w) X.A (f (.int i t) (.int j u)) Q E s) :
    OpR X f (rI0 fun i j => .int (g i j)) := by
  intro pins s σ H x y v u Q I rx ry h
  obtain ⟨i, j, rfl, rfl, q⟩ := h
  obtain ⟨t, rfl⟩ := rx
  obtain ⟨t', rfl⟩ := ry
  exact rule i j t t' s _ _ ⟨.int (g i j), H, I.tok _, ⟨_, rfl⟩, q⟩
theorem opB0 {f : Value → Value → Sem Value} {g : Int → Int → Bool}
    (rule : ∀ (i j : Int) (t u : Tok) (s : Shared) (Q : Value → Shared → Prop) (E : Value → Shared → Prop), Q (.bool (g i j)) s → wpAny (model X.prog X.w) X.A (f (.int i t) (.int j u)) Q E s) :
    OpR X f (rI0 fun i j => .bl (g i j)) := by
  intro pins s σ H x y v u Q I rx ry h
  obtain ⟨i, j, rfl, rfl, q⟩ := h
  obtain ⟨t, rfl⟩ := rx
  obtain ⟨t', rfl⟩ := ry
  exact rule i j t t' s _ _ ⟨.bl (g i j), H, I, rfl, q⟩
def CDiv (i j : Int) : Prop := 0 < j ∧ j < 1073741824
def CPow (i j : Int) : Prop := 0 ≤ j ∧ j ≤ 1000000 ∧ i.natAbs < 2 ^ 64
def CMul (i j : Int) : Prop := (-(2 ^ 64) < i ∧ i < 2 ^ 64) ∨ (-(2 ^ 64) < j ∧ j < 2 ^ 64)
theorem CMul.ok {i j : Int} (h : CMul i j) : IntMulOk i j := by
  rcases h with ⟨h1, h2⟩ | ⟨h1, h2⟩
  · exact .of_left (intBits_le_64 h1 h2)
  · exact .of_right (intBits_le_64 h1 h2)
theorem op_add : OpR X (binaryOp .Add) (rI0 fun i j => .int (i + j)) := opI0 fun _ _ _ _ _ _ _ q => add_int q
theorem op_sub : OpR X (binaryOp .Sub) (rI0 fun i j => .int (i - j)) := opI0 fun _ _ _ _ _ _ _ q => sub_int q
theorem op_mul : OpR X (binaryOp .Mult) (rI CMul fun i j => .int (i * j)) := opI fun _ _ _ _ _ _ _ hc q => mul_int q hc.ok
theorem op_fdiv : OpR X (binaryOp .FloorDiv) (rI CDiv fun i j => .int (i / j)) := opI fun i j _ _ _ _ _ hc q => by
  have h1 : (0 : Int) < j := hc.1
  have h2 : j < 1073741824 := hc.2
  exact floordiv_int (by omega) (by rw [Int.fdiv_eq_ediv_of_nonneg i (by omega)]; exact q) (.inl (PyProof.noPylong_small (by omega)))
theorem op_mod : OpR X (binaryOp .Mod) (rI (fun _ j => 0 < j) fun i j => .int (i % j)) := opI fun i j _ _ _ _ _ hc q => by
  have h1 : (0 : Int) < j := hc
  exact mod_int' (by omega) (by rw [Int.fmod_eq_emod_of_nonneg i (by omega)]; exact q)
theorem op_pow : OpR X (binaryOp .Pow) (rI CPow fun i j => .int (i ^ j.toNat)) := opI fun _ _ _ _ _ _ _ hc q => pow_int_small hc.1 hc.2.1 hc.2.2 q
theorem unI {f : Value → Sem Value} {g : Int → Int}
    (rule : ∀ (i : Int) (t : Tok) (s : Shared) (Q : Value → Shared → Prop) (E : Value → Shared → Prop), Q (.int (g i) s.toks) { s with toks := s.toks + 1 } → wpAny (model X.prog X.w) X.A (f (.int i t)) Q E s) :
    UnR X f (rU fun i => .int (g i)) := by
  intro pins s σ H x v Q I rx h
  obtain ⟨i, rfl, q⟩ := h
  obtain ⟨t, rfl⟩ := rx
  exact rule i t s _ _ ⟨.int (g i), H, I.tok _, ⟨_, rfl⟩, q⟩
theorem un_neg : UnR X (unaryOp .USub) (rU fun i => .int (-i)) := unI fun _ _ _ _ _ q => neg_int q
end
def scal : V → V → Bool
  | .non, .non => true | .non, .int _ => true | .int _, .non => true | .non, .bl _ => true | .bl _, .non => true | .non, .str _ => true | .str _, .non => true
  | .int _, .int _ => true | .bl _, .bl _ => true | .str _, .str _ => true | .byt _, .byt _ => true
  | .int _, .str _ => true | .str _, .int _ => true | .bl _, .str _ => true | .str _, .bl _ => true
  | _, _ => false
def rEq : R2 := fun x y H Q => scal x y = true ∧ Q (.bl (decide (x = y))) H
def rNe : R2 := fun x y H Q => scal x y = true ∧ Q (.bl (!decide (x = y))) H
theorem dec_int {i j : Int} : decide (V.int i = V.int j) = (i == j) := by
  rw [Bool.eq_iff_iff]
  simp
theorem dec_bl {i j : Bool} : decide (V.bl i = V.bl j) = (i == j) := by
  rw [Bool.eq_iff_iff]
  simp
theorem dec_str {i j : Str} : decide (V.str i = V.str j) = (i == j) := by
  rw [Bool.eq_iff_iff]
  simp
theorem dec_byt {i j : Array UInt8} : decide (V.byt i = V.byt j) = (i.toList == j.toList) := by
  rw [Bool.eq_iff_iff]
  cases i
  cases j
  simp
section
variable {X : Cx} {a b c : Expr} {ta tb tc : TE} {pos : Pos}
theorem fin_bl {pins : List (Addr × Obj)} {σ : St} {H : Hp} {s : Shared} {Q : VK} {k k' : Bool} (I : Inv X pins σ H s) (q : Q (.bl k) H) (e : k = k') : EP X pins σ Q (.bool k') s := by
  subst e
  exact ⟨.bl k, H, I, rfl, q⟩
theorem op_eq : OpR X (compareOp .Eq) rEq := by
  intro pins s σ H x y v u Q I rx ry h
  obtain ⟨hs, q⟩ := h
  cases x with
  | non =>
    cases rx
    cases y with
    | non => cases ry; exact PySem.EqNone.eq_none_none (fin_bl I q (by simp))
    | bl j => cases ry; exact PySem.EqNone.eq_none_bool (fin_bl I q (by simp))
    | int j => obtain ⟨t', rfl⟩ := ry; exact PySem.EqNone.eq_none_int (fin_bl I q (by simp))
    | str j => obtain ⟨t', rfl⟩ := ry; exact PySem.EqNone.eq_none_str (fin_bl I q (by simp))
    | _ => exact absurd (show false = true from hs) Bool.false_ne_true
  | bl i =>
    cases rx
    cases y with
    | non => cases ry; exact PySem.EqNone.eq_bool_none (fin_bl I q (by simp))
    | bl j => cases ry; exact eq_bool (fin_bl I q dec_bl)
    | str j => obtain ⟨t', rfl⟩ := ry; exact PySem.EqMixed.eq_bool_str (fin_bl I q (by simp))
    | _ => exact absurd (show false = true from hs) Bool.false_ne_true
  | int i =>
    obtain ⟨t, rfl⟩ := rx
    cases y with
    | non => cases ry; exact PySem.EqNone.eq_int_none (fin_bl I q (by simp))
    | int j => obtain ⟨t', rfl⟩ := ry; exact eq_int (fin_bl I q dec_int)
    | str j => obtain ⟨t', rfl⟩ := ry; exact PySem.EqMixed.eq_int_str (fin_bl I q (by simp))
    | _ => exact absurd (show false = true from hs) Bool.false_ne_true
  | str i =>
    obtain ⟨t, rfl⟩ := rx
    cases y with
    | non => cases ry; exact PySem.EqNone.eq_str_none (fin_bl I q (by simp))
    | bl j => cases ry; exact PySem.EqMixed.eq_str_bool (fin_bl I q (by simp))
    | int j => obtain ⟨t', rfl⟩ := ry; exact PySem.EqMixed.eq_str_int (fin_bl I q (by simp))
    | str j => obtain ⟨t', rfl⟩ := ry; exact eq_str (fin_bl I q dec_str)
    | _ => exact absurd (show false = true from hs) Bool.false_ne_true
  | byt i =>
    obtain ⟨t, rfl⟩ := rx
    cases y with
    | byt j => obtain ⟨t', rfl⟩ := ry; exact PySem.W.eq_bytes (fin_bl I q dec_byt)
    | _ => exact absurd (show false = true from hs) Bool.false_ne_true
  | _ => cases y <;> exact absurd (show false = true from hs) Bool.false_ne_true
theorem op_ne : OpR X (compareOp .NotEq) rNe := by
  intro pins s σ H x y v u Q I rx ry h
  obtain ⟨hs, q⟩ := h
  cases x with
  | non =>
    cases rx
    cases y with
    | non => cases ry; exact PySem.EqNone.ne_none_none (fin_bl I q (by simp))
    | bl j => cases ry; exact PySem.EqNone.ne_none_bool (fin_bl I q (by simp))
    | int j => obtain ⟨t', rfl⟩ := ry; exact PySem.EqNone.ne_none_int (fin_bl I q (by simp))
    | str j => obtain ⟨t', rfl⟩ := ry; exact PySem.EqNone.ne_none_str (fin_bl I q (by simp))
    | _ => exact absurd (show false = true from hs) Bool.false_ne_true
  | bl i =>
    cases rx
    cases y with
    | non => cases ry; exact PySem.EqNone.ne_bool_none (fin_bl I q (by simp))
    | bl j => cases ry; exact ne_bool (fin_bl I q (congrArg not dec_bl))
    | str j => obtain ⟨t', rfl⟩ := ry; exact PySem.EqMixed.ne_bool_str (fin_bl I q (by simp))
    | _ => exact absurd (show false = true from hs) Bool.false_ne_true
  | int i =>
    obtain ⟨t, rfl⟩ := rx
    cases y with
    | non => cases ry; exact PySem.EqNone.ne_int_none (fin_bl I q (by simp))
    | int j => obtain ⟨t', rfl⟩ := ry; exact ne_int (fin_bl I q (congrArg not dec_int))
    | str j => obtain ⟨t', rfl⟩ := ry; exact PySem.EqMixed.ne_int_str (fin_bl I q (by simp))
    | _ => exact absurd (show false = true from hs) Bool.false_ne_true
  | str i =>
    obtain ⟨t, rfl⟩ := rx
    cases y with
    | non => cases ry; exact PySem.EqNone.ne_str_none (fin_bl I q (by simp))
    | bl j => cases ry; exact PySem.EqMixed.ne_str_bool (fin_bl I q (by simp))
    | int j => obtain ⟨t', rfl⟩ := ry; exact PySem.EqMixed.ne_str_int (fin_bl I q (by simp))
    | str j => obtain ⟨t', rfl⟩ := ry; exact ne_str (fin_bl I q (congrArg not dec_str))
    | _ => exact absurd (show false = true from hs) Bool.false_ne_true
  | byt i =>
    obtain ⟨t, rfl⟩ := rx
    cases y with
    | byt j => obtain ⟨t', rfl⟩ := ry; exact PySem.W.ne_bytes (fin_bl I q (congrArg not dec_byt))
    | _ => exact absurd (show false = true from hs) Bool.false_ne_true
  | _ => cases y <;> exact absurd (show false = true from hs) Bool.false_ne_true
theorem op_lt : OpR X (compareOp .Lt) (rI0 fun i j => .bl (decide (i < j))) := opB0 fun _ _ _ _ _ _ _ q => lt_int q
theorem op_gt : OpR X (compareOp .Gt) (rI0 fun i j => .bl (decide (j < i))) := opB0 fun _ _ _ _ _ _ _ q => gt_int q
theorem op_ge : OpR X (compareOp .GtE) (rI0 fun i j => .bl (decide (j ≤ i))) := opB0 fun _ _ _ _ _ _ _ q => ge_int q
theorem op_isN : OpR X (compareOp .Is) (fun x y H Q => y = .non ∧ Q (.bl (decide (x = .non))) H) := by
  intro pins s σ H x y v u Q I rx ry h
  obtain ⟨rfl, q⟩ := h
  cases ry
  refine is_none_gen (fin_bl I q ?_)
  cases x <;> first
    | (cases rx; rfl)
    | (obtain ⟨t, rfl⟩ := rx; rfl)
theorem op_notN : OpR X (compareOp .IsNot) (fun x y H Q => y = .non ∧ Q (.bl (!decide (x = .non))) H) := by
  intro pins s σ H x y v u Q I rx ry h
  obtain ⟨rfl, q⟩ := h
  cases ry
  refine isnot_none_gen (fin_bl I q ?_)
  cases x <;> first
    | (cases rx; rfl)
    | (obtain ⟨t, rfl⟩ := rx; rfl)
theorem OpR.or {f : Value → Value → Sem Value} {r r' : R2} (h : OpR X f r) (h' : OpR X f r') : OpR X f (fun x y H Q => r x y H Q ∨ r' x y H Q) := by
  intro pins s σ H x y v u Q I rx ry q
  rcases q with q | q
  · exact h pins s σ H x y v u Q I rx ry q
  · exact h' pins s σ H x y v u Q I rx ry q
theorem nomark (b : Expr) {op : CmpOp} (h : op ≠ .In := by decide) (h2 : op ≠ .NotIn := by decide) : behindInMarks op b = false := by
  have e1 : (op == CmpOp.In) = false := by cases op <;> first | rfl | exact absurd rfl h
  have e2 : (op == CmpOp.NotIn) = false := by cases op <;> first | rfl | exact absurd rfl h2
  cases b <;> simp [behindInMarks, e1, e2]
theorem pe_cmpR {op : CmpOp} {r : R2} (ho : OpR X (compareOp op) r) (ha : PE X a ta) (hb : PE X b tb) (hm : behindInMarks op b = false) : PE X (.Compare a [op] [b] pos) (tOp r ta tb) := by
  intro pins s σ H Q I h
  exact wpAny_Compare1 (binT ha hb I h fun v u s2 x y H2 I2 rx ry q => ho pins s2 σ H2 x y v u Q I2 rx ry q) hm
def tTest (t : TE) : TT := fun σ H Q => t σ H fun x H' => ∃ k, x = .bl k ∧ Q k H'
theorem pt_cmpR {op : CmpOp} {r : R2} (ho : OpR X (compareOp op) r) (ha : PE X a ta) (hb : PE X b tb) (hm : behindInMarks op b = false) : PT X (.Compare a [op] [b] pos) (tTest (tOp r ta tb)) := by
  intro pins s σ H Q I h
  refine wpAny_isTrue_Compare1 (thn (ha pins s σ H _ I h) fun v s1 ⟨x, H1, I1, r1, q1⟩ => thn (hb pins s1 σ H1 _ I1 q1) fun u s2 ⟨y, H2, I2, r2, q2⟩ =>
    thn (ho pins s2 σ H2 x y v u _ I2 r1 r2 q2) fun c s3 ⟨z, H3, I3, r3, k, e, q3⟩ => ?_) hm
  subst e
  cases r3
  exact wpAny_truthy_bool ⟨H3, I3, q3⟩
theorem line63 : (sizeLine : Nat) < 2 ^ 63 := by rw [sizeLine_eq]; decide
theorem vals1 {x : V} {us : List Value} (r : Vals [x] us) : ∃ u, us = [u] ∧ RelV x u := by
  cases r with
  | cons r1 r2 => cases r2; exact ⟨_, rfl, r1⟩
theorem vals2 {x y : V} {us : List Value} (r : Vals [x, y] us) : ∃ u w', us = [u, w'] ∧ RelV x u ∧ RelV y w' := by
  cases r with
  | cons r1 r2 =>
    cases r2 with
    | cons r3 r4 => cases r4; exact ⟨_, _, rfl, r1, r3⟩
theorem call_max2 (hc : X.calm = true) : CallR X (.builtin "max") (fun xs H Q => ∃ i j, xs = [.int i, .int j] ∧ Q (.int (if j > i then j else i)) H) := by
  intro pins s σ H xs us Q I r h
  obtain ⟨i, j, rfl, q⟩ := h
  obtain ⟨u, w', rfl, ⟨t, rfl⟩, ⟨t', rfl⟩⟩ := vals2 r
  refine max_two_ints (I.ok.hd hc) fun h' tk k => ⟨_, H, I.kept k, ?_, q⟩
  by_cases hj : j > i
  · rw [if_pos hj, if_pos hj]; exact ⟨_, rfl⟩
  · rw [if_neg hj, if_neg hj]; exact ⟨_, rfl⟩
theorem call_min2 (hc : X.calm = true) : CallR X (.builtin "min") (fun xs H Q => ∃ i j, xs = [.int i, .int j] ∧ Q (.int (if j < i then j else i)) H) := by
  intro pins s σ H xs us Q I r h
  obtain ⟨i, j, rfl, q⟩ := h
  obtain ⟨u, w', rfl, ⟨t, rfl⟩, ⟨t', rfl⟩⟩ := vals2 r
  refine min_two_ints (I.ok.hd hc) fun h' tk k => ⟨_, H, I.kept k, ?_, q⟩
  by_cases hj : j < i
  · rw [if_pos hj, if_pos hj]; exact ⟨_, rfl⟩
  · rw [if_neg hj, if_neg hj]; exact ⟨_, rfl⟩
end
end L2
namespace L2
open PySem PySem.Spec PyProof.Rows
structure ObjM (h : Heap) (x dx C : Addr) (mA : Str → Option Value) : Prop where
  obj : h.get? x = some (PySem.W.instObj C dx)
  ns : h.Ns1 dx mA
  ne : dx ≠ x
theorem lookIn_ns {h : Heap} {dx : Addr} {mA : Str → Option Value} (n : h.Ns1 dx mA) : ∃ od, h.get? dx = some od ∧ ∀ name, PySem.W.lookIn name od = some (mA name) := by
  obtain ⟨o, es, ep, ho, hd, hk, _, hm⟩ := n
  refine ⟨o, ho, fun name => ?_⟩
  have e := hm name
  unfold nsFind findBy at e
  rw [← Array.find?_toList] at e
  unfold PySem.W.lookIn
  rw [hd]
  dsimp only
  split
  · rename_i y q
    rw [q] at e
    exact congrArg some e
  · rename_i q
    rw [q] at e
    have a : es.toList.any (·.refKey) = false := by
      rw [List.any_eq_false]
      intro y hy
      obtain ⟨z, t, hkey⟩ := hk y (Array.mem_toList_iff.mp hy)
      simp [DictEntry.refKey, hkey]
    have a' : ¬ es.toList.any (·.refKey) = true := by rw [a]; exact Bool.false_ne_true
    rw [if_neg a']
    exact congrArg some e
theorem ObjM.look {h : Heap} {x dx C : Addr} {mA : Str → Option Value} (I : ObjM h x dx C mA) : ∃ od, PySem.W.InstAt h x (PySem.W.instObj C dx) C (some od) ∧ ∀ name, PySem.W.lookIn name od = some (mA name) :=
  let ⟨od, ho, hl⟩ := lookIn_ns I.ns
  ⟨od, ⟨I.obj, rfl, rfl, ho⟩, hl⟩
section
variable {prog : Program} {w : World} {A : Around} {E : Value → Shared → Prop} {s : Shared} {K : PySem.W.Frag} {x dx C f : Addr} {mA : Str → Option Value} {name : Str} {v : Value}
theorem get_map {expr : Bool} {Q : Value → Shared → Prop} (X : K.In s.heap) (I : ObjM s.heap x dx C mA) (hg : PySem.W.plainGet K C name = true) (hh : PySem.W.hasDictIn K C = true)
    (ha : PySem.W.findIn K (.ref C) name = some none) (hv : mA name = some v) (hv' : PySem.W.handedIn v = true) (h : Q v { s with toks := s.toks + 1 }) :
    wpAny (model prog w) A (getAttr (.ref x) name expr) Q E s := by
  obtain ⟨od, J, hl⟩ := I.look
  exact PySem.W.get_value X J (PySem.W.plainGet_of hg).1 (PySem.W.findObj_own hh ha rfl (by rw [hl, hv])) hv' h
theorem get_meth {pl : Sem Bool} {Q : Value × List Value → Shared → Prop} (X : K.In s.heap) (I : ObjM s.heap x dx C mA) (hg : PySem.W.plainGet K C name = true)
    (hf : PySem.W.findIn K (.ref C) name = some (some (.ref f))) (ht : PySem.W.isFn K (.ref f) = true) (hv : mA name = none) (h : Q (.ref f, [.ref x]) s) :
    wpAny (model prog w) A (getMethod (.ref x) name pl) Q E s := by
  obtain ⟨od, J, hl⟩ := I.look
  exact PySem.W.method_fn X J (PySem.W.plainGet_of hg).1 (PySem.W.plainGet_of hg).2 hf (beq_iff_eq.mp ht) (by show (PySem.W.lookIn name od).map (·.isSome) = some false; rw [hl, hv]; rfl) h
theorem set_map {ns : List Str} {Q : Unit → Shared → Prop} (X : K.In s.heap) (I : ObjM s.heap x dx C mA)
    (hs : PySem.W.findIn K (.ref C) "__setattr__" = some (some (.builtin "object.__setattr__"))) (hp : PySem.W.plainOver K C = true) (ht : PySem.W.takerIn K C name = some none) (hh : PySem.W.hasDictIn K C = true)
    (hw : PySem.Within mA ns) (hsz : ns.length ≤ sizeLine)
    (h : ∀ h', ObjM h' x dx C (fun y => if y = name then some v else mA y) → Heap.SameBut dx s.heap h' → Q () { s with heap := h', toks := s.toks + 2 }) :
    wpAny (model prog w) A (setAttr (.ref x) name v) Q E s := by
  obtain ⟨od, J, hl⟩ := I.look
  refine PySem.W.set_plain X J hs (PySem.W.osa_open (s := { s with toks := s.toks + 1 }) (r := none) X J hp ht fun b => ?_)
  obtain ⟨cd, hc, hd'⟩ := PySem.W.any_some hh
  have hx : s.heap.get? x = some ⟨.ref C, some dx, .plain, #[]⟩ := I.obj
  refine wpAny_bind (wpAny_pure (wpAny_bind (wpAny_bind (wpAny_loadPart hx (wpAny_bind (PySem.W.Looks.here (s := { s with toks := s.toks + 1 }) (PySem.W.looks_clsIn X hc) ?_))))))
  rw [hd']
  refine wpAny_pure (a := some dx) (wpAny_bind (wpAny_pure (wpAny_bind ?_)))
  refine wpAny_nsSet1 (s := { s with toks := s.toks + 1 }) I.ns fun h' hn2 hs2 => ?_
  obtain ⟨oD, esD, epD, hoD, hdD, hcD⟩ := hn2.count (PySem.Within.cons name v hw)
  refine wpAny_bind (wpAny_lookBehind hoD (by rw [hdD]; exact pastItsLine_dict (Nat.le_trans hcD (by rw [List.length_cons]; omega))) ?_)
  exact wpAny_pure (h _ ⟨(hs2.2 _ (Ne.symm I.ne)).trans I.obj, hn2, I.ne⟩ hs2)
theorem make_map {R : Result → Shared → Prop} {vs : List Value} {kw : List (Str × Value)} (X : K.In s.heap) (hm : PySem.W.makesIn K C = true)
    (hi : PySem.W.findIn K (.ref C) "__init__" = some (some (.ref f))) (hf : PySem.W.typeIn K (.ref f) = some (.type "function"))
    (h : codeAny (model prog w) (A.under (.builtin "type.__call__" ⟨.ref C :: vs, kw⟩)) (.call (.ref f) ⟨.ref (s.heap.objs.size + 1) :: vs, kw⟩) (PySem.W.InitBack (s.heap.objs.size + 1) R)
      { s with heap := (s.heap.push PySem.W.emptyDict).push (PySem.W.instObj C s.heap.objs.size) }) :
    codeAny (model prog w) A (.call (.ref C) ⟨vs, kw⟩) R s := by
  obtain ⟨hh, g, d, t, os⟩ := s
  exact PySem.W.make_core (PySem.W.makes_of X hm) (PySem.W.looks_findIn X hi) (fun self => PySem.W.bind_fn X self hf) (.inl rfl) h
end
def putF (f : Str) (v : V) : List (Str × V) → List (Str × V)
  | [] => [(f, v)]
  | (g, x) :: r => if g = f then (g, v) :: r else (g, x) :: putF f v r
theorem lookup_putF (f g : Str) (v : V) : ∀ fs : List (Str × V), (putF f v fs).lookup g = if g = f then some v else fs.lookup g
  | [] => by
    show List.lookup g [(f, v)] = _
    by_cases h : g = f
    · have hb : (g == f) = true := beq_iff_eq.mpr h
      simp only [List.lookup, hb, if_pos h]
    · have hb : (g == f) = false := beq_eq_false_iff_ne.mpr h
      simp only [List.lookup, hb, if_neg h]
  | (k, x) :: r => by
    have ih := lookup_putF f g v r
    rw [show putF f v ((k, x) :: r) = (if k = f then (k, v) :: r else (k, x) :: putF f v r) from rfl]
    by_cases hk : k = f
    · rw [if_pos hk]
      by_cases h : g = k
      · have hb : (g == k) = true := beq_iff_eq.mpr h
        simp only [List.lookup, hb, if_pos (h.trans hk)]
      · have hb : (g == k) = false := beq_eq_false_iff_ne.mpr h
        simp only [List.lookup, hb, if_neg (fun e : g = f => h (e.trans hk.symm))]
    · rw [if_neg hk]
      by_cases h : g = k
      · have hb : (g == k) = true := beq_iff_eq.mpr h
        simp only [List.lookup, hb, if_neg (fun e : g = f => hk (h.symm.trans e))]
      · have hb : (g == k) = false := beq_eq_false_iff_ne.mpr h
        simp only [List.lookup, hb]
        exact ih
theorem keys_putF (f : Str) (v : V) : ∀ fs : List (Str × V), f ∈ (putF f v fs).map (·.1) ∧ ∀ g, g ∈ fs.map (·.1) → g ∈ (putF f v fs).map (·.1)
  | [] => ⟨by simp [putF], fun g h => by simp at h⟩
  | (k, x) :: r => by
    obtain ⟨i1, i2⟩ := keys_putF f v r
    rw [show putF f v ((k, x) :: r) = (if k = f then (k, v) :: r else (k, x) :: putF f v r) from rfl]
    by_cases hk : k = f
    · rw [if_pos hk]
      subst hk
      exact ⟨by simp, fun g h => by simpa using h⟩
    · rw [if_neg hk]
      refine ⟨?_, fun g h => ?_⟩
      · rw [List.map_cons]
        exact List.mem_cons_of_mem _ i1
      · rw [List.map_cons] at h ⊢
        rcases List.mem_cons.mp h with e | e
        · exact List.mem_cons.mpr (.inl e)
        · exact List.mem_cons_of_mem _ (i2 g e)
theorem length_putF (f : Str) (v : V) : ∀ fs : List (Str × V), (putF f v fs).length ≤ fs.length + 1
  | [] => by simp [putF]
  | (k, x) :: r => by
    have ih := length_putF f v r
    rw [show putF f v ((k, x) :: r) = (if k = f then (k, v) :: r else (k, x) :: putF f v r) from rfl]
    by_cases hk : k = f
    · rw [if_pos hk, List.length_cons, List.length_cons]; omega
    · rw [if_neg hk, List.length_cons, List.length_cons]; omega
theorem RelO.some_of {v : V} {o : Option Value} (r : RelO (some v) o) : ∃ u, o = some u ∧ RelV v u := by
  cases o with
  | none => exact (show False from r).elim
  | some u => exact ⟨u, rfl, r⟩
theorem RelO.none_of {o : Option Value} (r : RelO none o) : o = none := by
  cases o with
  | none => rfl
  | some u => exact (show False from r).elim
theorem handed_of {v : V} {u : Value} (r : RelV v u) : PySem.W.handedIn u = true := by
  cases v with
  | non => cases (show u = Value.none from r); rfl
  | bl b => cases (show u = Value.bool b from r); rfl
  | int i => obtain ⟨t, e⟩ := (show ∃ t, u = Value.int i t from r); cases e; rfl
  | str x => obtain ⟨t, e⟩ := (show ∃ t, u = Value.str x t from r); cases e; rfl
  | byt b => obtain ⟨t, e⟩ := (show ∃ t, u = Value.bytes b t from r); cases e; rfl
  | flt b => obtain ⟨t, e⟩ := (show ∃ t, u = Value.float b t from r); cases e; rfl
  | ref a => cases (show u = Value.ref a from r); rfl
  | ty n => cases (show u = Value.type n from r); rfl
section
variable {P : Program} {w : World} {H H' : Hp} {h h' : Heap} {a C dx : Addr} {fs fs' : List (Str × V)}
theorem ins_get (hok : HOk P w H h) (e : H a = some (.ins C dx fs)) : ∃ mA, ObjM h a dx C mA ∧ (∀ f, RelO (fs.lookup f) (mA f)) ∧ PySem.Within mA (fs.map (·.1)) ∧ fs.length ≤ 1000 ∧ H dx = some (.own a) := by
  obtain ⟨d, z, ne, ob, mA, n, r, q⟩ := (show ObjOk P w H h a (.ins C dx fs) from hok a _ e)
  exact ⟨mA, ⟨ob, n, ne⟩, r, q, z, d⟩
end
structure Cls (K : PySem.W.Frag) (C : Addr) : Prop where
  pg : PySem.W.plainGet K C Str.empty = true
  hd : PySem.W.hasDictIn K C = true
  po : PySem.W.plainOver K C = true
  sa : PySem.W.findIn K (.ref C) "__setattr__" = some (some (.builtin "object.__setattr__"))
theorem Cls.get {K : PySem.W.Frag} {C : Addr} (c : Cls K C) (f : Str) : PySem.W.plainGet K C f = true := c.pg
def NoAttr (K : PySem.W.Frag) (C : Addr) (f : Str) : Prop := PySem.W.findIn K (.ref C) f = some none
theorem NoAttr.taker {K : PySem.W.Frag} {C : Addr} {f : Str} (n : NoAttr K C f) : PySem.W.takerIn K C f = some none := by
  unfold PySem.W.takerIn
  rw [show PySem.W.findIn K (.ref C) f = some none from n]
  rfl
structure Con (K : PySem.W.Frag) (C : Addr) (f : Str) (v : V) (u : Value) : Prop where
  at_ : PySem.W.findIn K (.ref C) f = some (some u)
  rel : RelV v u
  get : PySem.W.specialIn K u "__get__" = some none
  cp : PySem.W.copiedNames.contains f = false
structure Meth (K : PySem.W.Frag) (C : Addr) (m : Str) (f : Addr) : Prop where
  at_ : PySem.W.findIn K (.ref C) m = some (some (.ref f))
  fn : PySem.W.isFn K (.ref f) = true
  kp : PySem.W.keepIn K (.ref f) = true
section
variable {X : Cx} {pins : List (Addr × Obj)} {σ : St} {H : Hp} {s : Shared} {a C dx : Addr} {fs : List (Str × V)} {f : Str} {v : V} {A : Around} {E : Value → Shared → Prop}
theorem getattr_ok {b : Bool} {Q : Value → Shared → Prop} (I : Inv X pins σ H s) (e : H a = some (.ins C dx fs)) (c : Cls X.K C) (n : NoAttr X.K C f) (l : fs.lookup f = some v)
    (h : ∀ u s', Inv X pins σ H s' → RelV v u → Q u s') : wpAny (model X.prog X.w) A (getAttr (.ref a) f b) Q E s := by
  obtain ⟨mA, O, r, _, _, _⟩ := ins_get I.hok e
  obtain ⟨u, hu, ru⟩ := RelO.some_of (v := v) (o := mA f) (by rw [← l]; exact r f)
  exact get_map I.kIn O (c.get f) c.hd n hu (handed_of ru) (h u _ (I.tok _) ru)
theorem getmeth_ok {m : Str} {g : Addr} {pl : Sem Bool} {Q : Value × List Value → Shared → Prop} (I : Inv X pins σ H s) (e : H a = some (.ins C dx fs)) (c : Cls X.K C) (k : Meth X.K C m g) (l : fs.lookup m = none)
    (h : Q (.ref g, [.ref a]) s) : wpAny (model X.prog X.w) A (getMethod (.ref a) m pl) Q E s := by
  obtain ⟨mA, O, r, _, _, _⟩ := ins_get I.hok e
  have hn : mA m = none := RelO.none_of (by rw [← l]; exact r m)
  exact get_meth I.kIn O (c.get m) k.at_ k.fn hn h
theorem setattr_ok {y : V} {u : Value} {Q : Unit → Shared → Prop} (I : Inv X pins σ H s) (e : H a = some (.ins C dx fs)) (c : Cls X.K C) (n : NoAttr X.K C f) (hl : fs.length < 1000) (ry : RelV y u)
    (h : ∀ s', Inv X pins σ (upd H a (.ins C dx (putF f y fs))) s' → Q () s') : wpAny (model X.prog X.w) A (setAttr (.ref a) f u) Q E s := by
  obtain ⟨mA, O, r, wi, _, ho⟩ := ins_get I.hok e
  have hz : (fs.map (·.1)).length ≤ sizeLine := by rw [List.length_map, sizeLine_eq]; omega
  refine set_map I.kIn O c.sa c.po n.taker c.hd wi hz fun h' O' sb => h _ ?_
  have hd : ∃ o, h'.get? dx = some o := let ⟨o, _, _, e', _⟩ := O'.ns; ⟨o, e'⟩
  refine I.write (x := a) (e := dx) (by rw [e]; exact True.intro) (.inr ho) (fun b q hb z => (sb.2 b hb).trans z) hd ?_
  refine ⟨by rw [upd_ne O.ne]; exact ho, ?_, O.ne, O'.obj, _, O'.ns, fun g => ?_, fun g hg => ?_⟩
  · have := length_putF f y fs; omega
  · show RelO ((putF f y fs).lookup g) (if g = f then some u else mA g)
    rw [lookup_putF]
    by_cases q : g = f
    · rw [if_pos q, if_pos q]; exact ry
    · rw [if_neg q, if_neg q]; exact r g
  · by_cases q : g = f
    · rw [q]; exact (keys_putF f y fs).1
    · refine (keys_putF f y fs).2 g (wi g fun z => hg ?_)
      show (if g = f then some u else mA g) = none
      rw [if_neg q]; exact z
theorem Inv.made (I : Inv X pins σ H s) : Inv X pins σ (upd (upd H s.heap.objs.size (.own (s.heap.objs.size + 1))) (s.heap.objs.size + 1) (.ins C s.heap.objs.size []))
    { s with heap := (s.heap.push PySem.W.emptyDict).push (PySem.W.instObj C s.heap.objs.size) } := by
  have e1 : (s.heap.push PySem.W.emptyDict).get? s.heap.objs.size = some PySem.W.emptyDict := Heap.get?_push_size s.heap rfl
  have e2 : ((s.heap.push PySem.W.emptyDict).push (PySem.W.instObj C s.heap.objs.size)).get? (s.heap.objs.size + 1) = some (PySem.W.instObj C s.heap.objs.size) := by
    have := Heap.get?_push_size (s.heap.push PySem.W.emptyDict) (o := PySem.W.instObj C s.heap.objs.size) rfl
    rwa [Heap.size_push] at this
  have e3 : (s.heap.push PySem.W.emptyDict).Ns s.heap.objs.size (fun _ => none) := ⟨PySem.W.emptyDict, #[], _, e1, rfl, (fun e he => absurd he (by simp)), fun _ => rfl⟩
  have I1 := I.laid (a := s.heap.objs.size) (o := .own (s.heap.objs.size + 1)) (h' := s.heap.push PySem.W.emptyDict) (t' := s.toks) (fun b u q => Heap.get?_push_of_some _ q) (Nat.le_refl _) ⟨_, e1⟩
  refine I1.laid (a := s.heap.objs.size + 1) (o := .ins C s.heap.objs.size []) (t' := s.toks) (fun b u q => Heap.get?_push_of_some _ q) (Nat.le_of_eq (Heap.size_push _ _)) ?_
  have ne : s.heap.objs.size ≠ s.heap.objs.size + 1 := Nat.ne_of_lt (Nat.lt_succ_self _)
  refine ⟨by rw [upd_ne ne, upd_same], Nat.zero_le _, ne, e2, fun _ => none, (Heap.Ns1.of_empty e3).at fun o q => Heap.get?_push_of_some _ q, fun _ => True.intro, fun y hy => absurd rfl hy⟩
theorem attr_of {prog : Program} {w : World} {env : Env} {e : Expr} {f : Str} {pos : Pos} {s : Shared} {Q : Value → Shared → Prop} (hb : attributeBase e f env (eval e env) = eval e env)
    (h : wpAny (model prog w) A (eval e env) (fun o s₁ => wpAny (model prog w) A (getAttr o f true) Q E s₁) E s) : wpAny (model prog w) A (eval (.Attribute e f pos) env) Q E s :=
  Attribute_any_ h (by rw [arm_eval_Attribute, hb])
end
def tFld (K : PySem.W.Frag) (ta : TE) (f : Str) : TE := fun σ H Q => ta σ H fun x H1 => ∃ a C dx fs v, x = .ref a ∧ H1 a = some (.ins C dx fs) ∧ Cls K C ∧ NoAttr K C f ∧ fs.lookup f = some v ∧ Q v H1
section
variable {X : Cx} {o e value : Expr} {f : Str} {pos pos' tpos : Pos} {ta tv : TE}
theorem pe_fld (he : PE X e ta) (hb : attributeBase e f X.env (eval e X.env) = eval e X.env) : PE X (.Attribute e f pos) (tFld X.K ta f) := by
  intro pins s σ H Q I h
  refine attr_of hb (thn (he pins s σ H _ I h) fun u s1 hq__ => ?_)
  obtain ⟨x, H1, I1, rx, a, C, dx, fs, v, ex, ea, c, n, l, q⟩ := hq__
  subst ex
  obtain rfl : u = Value.ref a := rx
  exact getattr_ok I1 ea c n l fun u' s2 I2 ru => ⟨v, H1, I2, ru, q⟩
end
section
variable {X : Cx} {pins : List (Addr × Obj)} {σ : St} {H : Hp} {s : Shared} {A : Around} {E : Value → Shared → Prop} {Q : Value → Shared → Prop} {c : Value} {b : Bool}
inductive TyOf (K : PySem.W.Frag) (H : Hp) : V → Value → Prop where
  | non : TyOf K H .non (.type "NoneType")
  | bl (x : Bool) : TyOf K H (.bl x) (.type "bool")
  | int (i : Int) : TyOf K H (.int i) (.type "int")
  | str (x : Str) : TyOf K H (.str x) (.type "str")
  | flt (x : UInt64) : TyOf K H (.flt x) (.type "float")
  | lst {a : Addr} {xs : List V} (e : H a = some (.lst xs)) : TyOf K H (.ref a) (.type "list")
  | frz {a : Addr} {o : Obj} {xs : List V} (e : H a = some (.frz o (.lst xs))) : TyOf K H (.ref a) (.type "list")
  | tup {a : Addr} {xs : List V} (e : H a = some (.tup xs)) : TyOf K H (.ref a) (.type "tuple")
  | dK {a : Addr} {kvs : List (Key × V)} (e : H a = some (.dK kvs)) : TyOf K H (.ref a) (.type "dict")
  | dT {a : Addr} {kvs : List (List Key × V)} (e : H a = some (.dT kvs)) : TyOf K H (.ref a) (.type "dict")
  | ins {a C dx : Addr} {fs : List (Str × V)} (e : H a = some (.ins C dx fs)) (cl : Cls K C) (ha : PySem.W.findIn K (.ref C) "__class__" = some (some (.builtin "object.__class__")))
      (hn : PySem.W.specialIn K (.builtin "object.__class__") "__get__" = some (some (.builtin "getset_descriptor.__get__"))) (htk : PySem.W.takesIn K (.builtin "object.__class__") = some true)
      (hm : PySem.W.mroIn K C (.type "object") = some true) : TyOf K H (.ref a) (.ref C)
theorem isinst_ok {x : V} {u t : Value} (I : Inv X pins σ H s) (rx : RelV x u) (ty : TyOf X.K H x t) (e : PySem.W.kitOne X.K t c = some b) (h : ∀ tk, Q (.bool b) { s with toks := tk }) :
    wpAny (model X.prog X.w) A (call (.builtin "isinstance") [u, c]) Q E s := by
  cases ty with
  | non => cases (show u = Value.none from rx); exact PySem.W.kia_one PySem.W.kitx_none I.kIn True.intro e (fun z => nomatch z) h
  | bl y => cases (show u = Value.bool y from rx); exact PySem.W.kia_one PySem.W.kitx_bool I.kIn True.intro e (fun z => nomatch z) h
  | int i => obtain ⟨t, q⟩ := (show ∃ t, u = Value.int i t from rx); cases q; exact PySem.W.kia_one PySem.W.kitx_int I.kIn True.intro e (fun z => nomatch z) h
  | str y => obtain ⟨t, q⟩ := (show ∃ t, u = Value.str y t from rx); cases q; exact PySem.W.kia_one PySem.W.kitx_str I.kIn True.intro e (fun z => nomatch z) h
  | flt y => obtain ⟨t, q⟩ := (show ∃ t, u = Value.float y t from rx); cases q; exact PySem.W.kia_one PySem.W.kitx_float I.kIn True.intro e (fun z => nomatch z) h
  | @lst a xs ea =>
    cases (show u = Value.ref a from rx)
    obtain ⟨_, _, n, _, h1⟩ := (show ObjOk X.prog X.w H s.heap a (.lst xs) from I.hok a _ ea)
    exact PySem.W.kia_one PySem.W.kitx_list I.kIn ⟨_, h1, rfl⟩ e (fun z => nomatch z) h
  | @frz a ob xs ea =>
    cases (show u = Value.ref a from rx)
    obtain ⟨_, _, _, n, _, h1⟩ := (show ObjOk X.prog X.w H s.heap a (.frz ob (.lst xs)) from I.hok a _ ea)
    exact PySem.W.kia_one PySem.W.kitx_list I.kIn ⟨_, h1, rfl⟩ e (fun z => nomatch z) h
  | @tup a xs ea =>
    cases (show u = Value.ref a from rx)
    obtain ⟨_, _, _, p⟩ := (show ObjOk X.prog X.w H s.heap a (.tup xs) from I.hok a _ ea)
    obtain ⟨o, h1, h2, _⟩ := p
    exact PySem.W.kia_one PySem.W.kitx_tuple I.kIn ⟨o, h1, h2⟩ e (fun z => nomatch z) h
  | @dK a kvs ea =>
    cases (show u = Value.ref a from rx)
    obtain ⟨_, _, vs, _, p⟩ := (show ObjOk X.prog X.w H s.heap a (.dK kvs) from I.hok a _ ea)
    obtain ⟨o, es, ep, h1, h2, _⟩ := p
    exact PySem.W.kia_one PySem.W.kitx_dict I.kIn ⟨o, h1, h2.1⟩ e (fun z => nomatch z) h
  | @dT a kvs ea =>
    cases (show u = Value.ref a from rx)
    obtain ⟨_, _, xs, _, o, es, ep, h1, h2, _⟩ := (show ObjOk X.prog X.w H s.heap a (.dT kvs) from I.hok a _ ea)
    exact PySem.W.kia_one PySem.W.kitx_dict I.kIn ⟨o, h1, h2.1⟩ e (fun z => nomatch z) h
  | @ins a C dx fs ea cl ha hn htk hm =>
    cases (show u = Value.ref a from rx)
    obtain ⟨mA, O, _⟩ := ins_get I.hok ea
    obtain ⟨od, J, _⟩ := O.look
    exact PySem.W.kia_one (PySem.W.kitx_own (cl.get _) cl.hd ha hn htk hm) I.kIn J e (fun z => nomatch z) h
end
end L2
namespace L2
open PySem PySem.Spec PyProof.Rows
structure Room (k : Nat) (A : Around) : Prop where
  hd : A.handled = none
  dp : A.depth + 3 * k + 5 < recursionLimit
  un : A.units + 16 * k + 200 < cLine
theorem Room.mono {j k : Nat} {A : Around} (r : Room k A) (h : j ≤ k) : Room j A := ⟨r.hd, by have := r.dp; omega, by have := r.un; omega⟩
theorem Room.deeper {k : Nat} {A : Around} (r : Room (k + 1) A) (env : Env) : Room k (A.deeper env) :=
  ⟨r.hd, by have := r.dp; show A.depth + 1 + 3 * k + 5 < _; omega, by have := r.un; show A.units + 3 + 16 * k + 200 < _; omega⟩
theorem Room.in1 {k : Nat} {A : Around} (r : Room (k + 1) A) : Room k A.in1 :=
  ⟨r.hd, by have := r.dp; show A.depth + 3 * k + 5 < _; omega, by have := r.un; show A.units + 1 + 16 * k + 200 < _; omega⟩
theorem make_depth {A : Around} {C : Addr} {us : List Value} {kw : List (Str × Value)} : (A.under (.builtin "type.__call__" ⟨.ref C :: us, kw⟩)).depth = A.depth + 1 := by
  first | rfl | simp [Around.under, Code.weight, Code.isCreation, Code.isGuard, Code.isCaller, Code.frames, Code.isFrame, guardIds]
theorem make_units {A : Around} {C : Addr} {us : List Value} {kw : List (Str × Value)} : (A.under (.builtin "type.__call__" ⟨.ref C :: us, kw⟩)).units = A.units + 1 := by
  first | rfl | simp [Around.under, Code.cUnits, Code.frames, Code.isFrame]
theorem Room.make {k : Nat} {A : Around} (r : Room (k + 1) A) (C : Addr) (us : List Value) (kw : List (Str × Value)) : Room k (A.under (.builtin "type.__call__" ⟨.ref C :: us, kw⟩)) :=
  ⟨r.hd, by have := r.dp; rw [make_depth]; omega, by have := r.un; rw [make_units]; omega⟩
theorem Room.depth {k : Nat} {A : Around} (r : Room k A) : A.depth < recursionLimit := by have := r.dp; omega
theorem Room.units {k : Nat} {A : Around} (r : Room k A) : A.units + 64 < cLine := by have := r.un; omega
def tNil : TA := fun _ H Q => Q [] H
def tCons (ta : TE) (tr : TA) : TA := fun σ H Q => ta σ H fun x H1 => tr σ H1 fun xs H2 => Q (x :: xs) H2
section
variable {X : Cx} {e : Expr} {es : List Expr} {te : TE} {t : TA} {pos : Pos}
theorem pa_nil : PA X [] tNil := fun _ _ _ _ H Q I h => Calls.spliced_nil ⟨[], H, I, .nil, h⟩
theorem pa_cons (ha : PE X e te) (hr : PA X es t) (hs : starEach (e :: es) X.env = (false, eval e X.env) :: starEach es X.env := by rfl) : PA X (e :: es) (tCons te t) := by
  intro pos pins s σ H Q I h
  rw [hs]
  show wpAny _ _ (spliced ((false, eval e X.env) :: backTo pos (starEach es X.env))) _ _ s
  refine Calls.spliced_cons (thn (ha pins s σ H _ I h) fun u s1 hq__ => ?_)
  obtain ⟨x, H1, I1, r1, q1⟩ := hq__
  exact thn (hr pos pins s1 σ H1 _ I1 q1) fun us s2 ⟨xs, H2, I2, r2, q2⟩ => ⟨x :: xs, H2, I2, .cons r1 r2, q2⟩
end
abbrev Sp := List V → Hp → VK → XK → Prop
abbrev CXT := List Env → Hp → Shared → XK → Value → Shared → Prop
structure Env0 (P : Program) (w : World) (K : PySem.W.Frag) (mg : Str → Option Value) (base : Heap) (A : Around) (outer : List Env) (s : Shared) (H : Hp) : Prop where
  frames : A.frames = some outer
  mod : Mod K mg base
  bs : ∀ b o, base.get? b = some o → s.heap.get? b = some o ∧ H b = none
  bsz : base.objs.size ≤ s.heap.objs.size
  funs : s.heap.FunFrames base outer
  frf : ∀ b ∈ frs outer, H b = none
  hok : HOk P w H s.heap
  bare : AllBare s.gens
def CE (outer : List Env) (P : Program) (w : World) (H : Hp) (s : Shared) (Q : VK) (u : Value) (s' : Shared) : Prop :=
  ∃ v H', s'.os = s.os ∧ AllBare s'.gens ∧ Un (frs outer) [] H H' s.heap s'.heap ∧ HOk P w H' s'.heap ∧ RelV v u ∧ Q v H'
def CR (CX : CXT) (outer : List Env) (P : Program) (w : World) (H : Hp) (s : Shared) (Q : VK) (E : XK) (r : Result) (s' : Shared) : Prop :=
  match r with
  | .ok (.ret u) => CE outer P w H s Q u s'
  | .ok _ => False
  | .error e => CX outer H s E e s'
structure FnOk (P : Program) (w : World) (K : PySem.W.Frag) (mg : Str → Option Value) (base : Heap) (CX : CXT) (k : Nat) (f : Addr) (fd : FuncData) (ps : List Str) (sp : Sp) : Prop where
  len : ∀ vs H Q E, sp vs H Q E → vs.length = ps.length
  run : ∀ (A : Around) (outer : List Env) (s : Shared) (H : Hp) (args : Args) (us : List Value) (vs : List V) (Q : VK) (E : XK), Room k A → Env0 P w K mg base A outer s H → BindsTo s fd args (ps.zip us) → Vals vs us → sp vs H Q E →
    codeAny (model P w) A (.call (.ref f) args) (CR CX outer P w H s Q E) s
theorem FnOk.mono {P : Program} {w : World} {K : PySem.W.Frag} {mg : Str → Option Value} {base : Heap} {CX : CXT} {j k : Nat} {f : Addr} {fd : FuncData} {ps : List Str} {sp : Sp} (F : FnOk P w K mg base CX j f fd ps sp) (h : j ≤ k) :
    FnOk P w K mg base CX k f fd ps sp := ⟨F.len, fun A outer s H args us vs Q E hr => F.run A outer s H args us vs Q E (hr.mono h)⟩
theorem FnOk.imp {P : Program} {w : World} {K : PySem.W.Frag} {mg : Str → Option Value} {base : Heap} {CX : CXT} {k : Nat} {f : Addr} {fd : FuncData} {ps : List Str} {sp sp' : Sp} (F : FnOk P w K mg base CX k f fd ps sp)
    (h : ∀ vs H Q E, sp' vs H Q E → sp vs H Q E) : FnOk P w K mg base CX k f fd ps sp' :=
  ⟨fun vs H Q E q => F.len vs H Q E (h _ _ _ _ q), fun A outer s H args us vs Q E hr he hb hv hs => F.run A outer s H args us vs Q E hr he hb hv (h _ _ _ _ hs)⟩
theorem Env0.make {P : Program} {w : World} {K : PySem.W.Frag} {mg : Str → Option Value} {base : Heap} {A : Around} {outer : List Env} {s : Shared} {H : Hp} (e : Env0 P w K mg base A outer s H) (C : Addr) (us : List Value) (kw : List (Str × Value)) :
    Env0 P w K mg base (A.under (.builtin "type.__call__" ⟨.ref C :: us, kw⟩)) outer s H := ⟨by first | exact e.frames | (simpa [Around.under, Code.envs, Code.isFrame, pushEnvs] using e.frames), e.mod, e.bs, e.bsz, e.funs, e.frf, e.hok, e.bare⟩
theorem Env0.in1 {P : Program} {w : World} {K : PySem.W.Frag} {mg : Str → Option Value} {base : Heap} {A : Around} {outer : List Env} {s : Shared} {H : Hp} (e : Env0 P w K mg base A outer s H) :
    Env0 P w K mg base A.in1 outer s H := ⟨e.frames, e.mod, e.bs, e.bsz, e.funs, e.frf, e.hok, e.bare⟩
section
variable {X : Cx} {pins : List (Addr × Obj)} {σ : St} {H : Hp} {s s' : Shared}
theorem Inv.env0 (I : Inv X pins σ H s) : Env0 X.prog X.w X.K X.mg X.base X.A X.stack s H :=
  ⟨I.ok.frames, I.ok.mod, I.bs, Nat.le_trans I.ok.bsz I.sz, I.stack, I.stkFree, I.hok, I.bare⟩
theorem Inv.after {Q : VK} {u : Value} (I : Inv X pins σ H s) (h : CE X.stack X.prog X.w H s Q u s') : EP X pins σ Q u s' := by
  obtain ⟨v, H', os, bare, un, hok, r, q⟩ := h
  obtain ⟨hh, g, d, t, os'⟩ := s'
  obtain rfl : os' = s.os := os
  exact ⟨v, H', I.call (h' := hh) (g' := g) (d' := d) (t' := t) (ch := []) un hok bare (fun b z => absurd z (by simp)), r, q⟩
end
def tCall (sp : Sp) (dvs : List V) (E : XK) (t : TA) : TE := fun σ H Q => t σ H fun vs H1 => sp (vs ++ dvs) H1 Q E
def tMeth (C : Addr) (m : Str) (sp : Sp) (dvs : List V) (E : XK) (ta : TE) (t : TA) : TE := fun σ H Q => ta σ H fun x H1 => ∃ a dx fs, x = .ref a ∧ H1 a = some (.ins C dx fs) ∧ fs.lookup m = none ∧
  t σ H1 fun vs H2 => sp (x :: (vs ++ dvs)) H2 Q E
def Binds (K : PySem.W.Frag) (fd : FuncData) (ps : List Str) (ds : List Value) : Prop :=
  ∀ (s : Shared) (us : List Value), K.In s.heap → (us ++ ds).length = ps.length → BindsTo s fd ⟨us, []⟩ (ps.zip (us ++ ds))
theorem Binds.all {K : PySem.W.Frag} {fd : FuncData} {ps : List Str} (h : ∀ us : List Value, us.length = ps.length → bindArgs fd ⟨us, []⟩ = pure (ps.zip us)) : Binds K fd ps [] := fun s us _ hl => by
  rw [List.append_nil] at hl ⊢
  exact .of_eq (h us hl)
def Passes (CX : CXT) (X : Cx) (E : XK) : Prop := ∀ (pins : List (Addr × Obj)) (σ : St) (H : Hp) (s : Shared) (e : Value) (s' : Shared), Inv X pins σ H s → CX X.stack H s E e s' → X.xe e s'
section
variable {X : Cx} {CX : CXT} {k : Nat} {f C : Addr} {fd : FuncData} {ps : List Str} {sp : Sp} {dvs : List V} {ds : List Value} {E : XK} {x m : Str} {p pos apos : Pos} {e o : Expr} {es : List Expr} {ta : TE} {t : TA}
theorem run_fn {pins : List (Addr × Obj)} {σ : St} {H : Hp} {s : Shared} {Q : VK} {us : List Value} {vs : List V} (F : FnOk X.prog X.w X.K X.mg X.base CX k f fd ps sp) (hr : Room k X.A) (hb : Binds X.K fd ps ds) (hd : Vals dvs ds) (hx : Passes CX X E)
    (I : Inv X pins σ H s) (r : Vals vs us) (h : sp (vs ++ dvs) H Q E) : wpAny (model X.prog X.w) X.A (call (.ref f) us) (EP X pins σ Q) X.xe s := by
  have r2 : Vals (vs ++ dvs) (us ++ ds) := r.append hd
  have hl : (us ++ ds).length = ps.length := by rw [← r2.length]; exact F.len _ _ _ _ h
  refine wpAny_call (codeAny_mono (F.run X.A X.stack s H ⟨us, []⟩ (us ++ ds) (vs ++ dvs) Q E hr I.env0 (hb s us I.kIn hl) r2 h) fun r s' hq => ?_)
  cases r with
  | error e => exact hx pins σ H s e s' I hq
  | ok fl =>
    cases fl with
    | ret u => exact I.after hq
    | next => exact False.elim hq
    | brk => exact False.elim hq
    | cont => exact False.elim hq
theorem pe_call (F : FnOk X.prog X.w X.K X.mg X.base CX k f fd ps sp) (hr : Room k X.A) (hg : Gl X x) (hm : X.mg x = some (.ref f)) (hk : PySem.W.keepIn X.K (.ref f) = true) (hb : Binds X.K fd ps ds) (hd : Vals dvs ds) (hx : Passes CX X E)
    (ha : PA X (e :: es) t) (hdb : (x == ("__debug__" : Str)) = false := by decide) (he : starEach (e :: es) X.env = (false, eval e X.env) :: starEach es X.env := by rfl) (hpl : (backTo pos (starEach es X.env)).any (·.1) = false := by rfl) :
    PE X (.Call (.Name x p) (e :: es) [] pos) (tCall sp dvs E t) := by
  intro pins s σ H Q I h
  refine wpAny_Call_Name_kw (ld_glob I hg hm ?_ hdb)
  refine PySem.W.callWith_K (h₀ := X.base) I.ok.mod.kin hk (thn (ha pos pins s σ H _ I h) fun us s1 ⟨vs, H1, I1, r, q⟩ => ⟨I1.kIn, ?_⟩) he hpl
  exact run_fn F hr hb hd hx I1 r q
theorem pe_meth {pl : Sem Bool} (he : PE X o ta) (c : Cls X.K C) (hm : Meth X.K C m f) (F : FnOk X.prog X.w X.K X.mg X.base CX k f fd ps sp) (hr : Room k X.A) (hb : Binds X.K fd ps ds) (hd : Vals dvs ds) (hx : Passes CX X E) (ha : PA X (e :: es) t)
    (hst : starEach (e :: es) X.env = (false, eval e X.env) :: starEach es X.env := by rfl) (hpl : (backTo pos (starEach es X.env)).any (·.1) = false := by rfl)
    (ht : eval (.Call (.Attribute o m apos) (e :: es) [] pos) X.env = (do
      let ov ← eval o X.env
      standAt apos.atName
      let (f, first) ← holding [ov] (getMethod ov m pl)
      callWith pos f first (backTo pos (starEach (e :: es) X.env)) (backToKw pos (keywordEach [] X.env))) := by rfl) :
    PE X (.Call (.Attribute o m apos) (e :: es) [] pos) (tMeth C m sp dvs E ta t) := by
  intro pins s σ H Q I h
  refine PySem.W.methodCall_KW (pl := pl) (thn (he pins s σ H _ I h) fun u s1 hq__ => ?_) ht
  obtain ⟨x, H1, I1, rx, a, dx, fs, ex, ea, l, q⟩ := hq__
  subst ex
  obtain rfl : u = Value.ref a := rx
  refine getmeth_ok I1 ea c hm l ?_
  refine PySem.W.callWith_K (first := [.ref a]) (h₀ := X.base) I.ok.mod.kin hm.kp (thn (ha pos pins s1 σ H1 _ I1 q) fun us s2 ⟨vs, H2, I2, r, q2⟩ => ⟨I2.kIn, ?_⟩) hst hpl
  exact run_fn (us := .ref a :: us) (vs := .ref a :: vs) F hr hb hd hx I2 (.cons rfl r) q2
theorem pe_meth0 {pl : Sem Bool} (he : PE X o ta) (c : Cls X.K C) (hm : Meth X.K C m f) (F : FnOk X.prog X.w X.K X.mg X.base CX k f fd ps sp) (hr : Room k X.A) (hb : Binds X.K fd ps ds) (hd : Vals dvs ds) (hx : Passes CX X E)
    (ht : eval (.Call (.Attribute o m apos) [] [] pos) X.env = (do
      let ov ← eval o X.env
      standAt apos.atName
      let (f, first) ← holding [ov] (getMethod ov m pl)
      callWith pos f first (backTo pos (starEach [] X.env)) (backToKw pos (keywordEach [] X.env))) := by rfl) :
    PE X (.Call (.Attribute o m apos) [] [] pos) (tMeth C m sp dvs E ta tNil) := by
  intro pins s σ H Q I h
  refine PySem.W.methodCall_KW (pl := pl) (thn (he pins s σ H _ I h) fun u s1 hq__ => ?_) ht
  obtain ⟨x, H1, I1, rx, a, dx, fs, ex, ea, l, q⟩ := hq__
  subst ex
  obtain rfl : u = Value.ref a := rx
  refine getmeth_ok I1 ea c hm l ?_
  exact PySem.W.callWith_K0 (first := [.ref a]) I1.kIn hm.kp (run_fn (us := [.ref a]) (vs := [.ref a]) F hr hb hd hx I1 (.cons rfl .nil) q)
structure Mk (K : PySem.W.Frag) (C f : Addr) : Prop where
  makes : PySem.W.makesIn K C = true
  init : PySem.W.findIn K (.ref C) "__init__" = some (some (.ref f))
  fn : PySem.W.isFn K (.ref f) = true
  kp : PySem.W.keepIn K (.ref C) = true
theorem run_make {pins : List (Addr × Obj)} {σ : St} {H : Hp} {s : Shared} {Q : VK} {us : List Value} {vs : List V} (M : Mk X.K C f) (F : FnOk X.prog X.w X.K X.mg X.base CX k f fd ps sp) (hr : Room (k + 1) X.A) (hb : Binds X.K fd ps ds) (hd : Vals dvs ds)
    (hx : Passes CX X E) (I : Inv X pins σ H s) (r : Vals vs us)
    (h : ∀ x dx, H x = none → H dx = none → dx ≠ x → sp (.ref x :: (vs ++ dvs)) (upd (upd H dx (.own x)) x (.ins C dx [])) (fun v H2 => v = .non ∧ Q (.ref x) H2) E) :
    wpAny (model X.prog X.w) X.A (call (.ref C) us) (EP X pins σ Q) X.xe s := by
  have hq := h (s.heap.objs.size + 1) s.heap.objs.size (I.hok.fresh (Nat.le_succ _)) (I.hok.fresh (Nat.le_refl _)) (Nat.ne_of_lt (Nat.lt_succ_self _))
  have I2 := Inv.made (C := C) I
  have r2 : Vals (V.ref (s.heap.objs.size + 1) :: (vs ++ dvs)) (Value.ref (s.heap.objs.size + 1) :: (us ++ ds)) := .cons rfl (r.append hd)
  have hl : (Value.ref (s.heap.objs.size + 1) :: us ++ ds).length = ps.length := by
    have e := r2.length
    rw [F.len _ _ _ _ hq] at e
    exact e.symm
  refine wpAny_call (make_map (f := f) I.kIn M.makes M.init (beq_iff_eq.mp M.fn) (codeAny_mono (F.run _ X.stack _ _ ⟨Value.ref (s.heap.objs.size + 1) :: us, []⟩ (Value.ref (s.heap.objs.size + 1) :: (us ++ ds)) _ _ E (hr.make C us [])
    (I2.env0.make C us []) (hb _ (Value.ref (s.heap.objs.size + 1) :: us) I2.kIn hl) r2 hq) fun r s' hq' => ?_))
  cases r with
  | error e => exact hx pins σ _ _ e s' I2 hq'
  | ok fl =>
    cases fl with
    | ret u =>
      obtain ⟨v, H', I3, rv, ev, q3⟩ := I2.after hq'
      subst ev
      exact ⟨rv, ⟨V.ref (s.heap.objs.size + 1), H', I3, rfl, q3⟩⟩
    | next => exact False.elim hq'
    | brk => exact False.elim hq'
    | cont => exact False.elim hq'
end
section
variable {X : Cx} {CX : CXT} {k : Nat} {f C : Addr} {fd : FuncData} {ps ks : List Str} {sp : Sp} {E : XK} {x m : Str} {p pos apos kpos : Pos} {e o : Expr} {es : List Expr} {kws : List Keyword} {te ta : TE} {t tk : TA} {nm : Option Str}
structure KBinds (K : PySem.W.Frag) (fd : FuncData) (ps ks : List Str) (g : List Value → List Value → List Value) (gV : List V → List V → List V) : Prop where
  to : ∀ (s : Shared) (us ws : List Value), K.In s.heap → (g us ws).length = ps.length → BindsTo s fd ⟨us, ks.zip ws⟩ (ps.zip (g us ws))
  rel : ∀ {vs : List V} {us : List Value} {zs : List V} {ws : List Value}, Vals vs us → Vals zs ws → Vals (gV vs zs) (g us ws)
variable {g : List Value → List Value → List Value} {gV : List V → List V → List V}
end
structure FnScope (N P : List Str) (sc : Scope) : Prop where
  kind : sc.kind = .function
  co : sc.isCoroutine = false
  gen : sc.isGenerator = false
  nd : N.Nodup
  pre : N.take P.length = P
  par : ∀ x ∈ P, sc.names.lookup x = some .local ∨ sc.names.lookup x = some .cell
  nofree : ∀ y ∈ sc.names, y.2 ≠ .free
theorem bindL_out {kindOf : Str → Option NameKind} {x : Str} : ∀ {binds : List (Str × Value)} {m : Str → Option Value}, (∀ v, (x, v) ∉ binds) → bindL kindOf binds m x = m x
  | [], _, _ => rfl
  | (n, v) :: r, m, h => by
    unfold bindL
    rw [bindL_out fun w hw => h w (List.mem_cons_of_mem _ hw)]
    split
    · have : x ≠ n := by rintro rfl; exact h v List.mem_cons_self
      simp [this]
    · rfl
theorem bindC_out {kindOf : Str → Option NameKind} {x : Str} : ∀ {binds : List (Str × Value)} {m : Str → Option Value}, (∀ v, (x, v) ∉ binds) → bindC kindOf binds m x = m x
  | [], _, _ => rfl
  | (n, v) :: r, m, h => by
    unfold bindC
    rw [bindC_out fun w hw => h w (List.mem_cons_of_mem _ hw)]
    split
    · rfl
    · have : x ≠ n := by rintro rfl; exact h v List.mem_cons_self
      simp [this]
theorem bindL_get {kindOf : Str → Option NameKind} {x : Str} {v : Value} : ∀ {P : List Str} {vs : List Value} {i : Nat} {m : Str → Option Value}, P.Nodup → P[i]? = some x → vs[i]? = some v → kindOf x = some .local →
    bindL kindOf (P.zip vs) m x = some v
  | [], _, _, _, _, h, _, _ => by simp at h
  | _ :: _, [], _, _, _, _, h, _ => by simp at h
  | p :: P, w :: vs, 0, m, nd, h1, h2, hk => by
    simp at h1 h2; subst h1; subst h2
    show bindL kindOf ((p, w) :: P.zip vs) m p = _
    unfold bindL
    rw [bindL_out fun v hv => (List.nodup_cons.mp nd).1 (List.of_mem_zip hv).1, if_pos hk]
    simp
  | p :: P, w :: vs, i + 1, m, nd, h1, h2, hk => by
    show bindL kindOf ((p, w) :: P.zip vs) m x = _
    unfold bindL
    exact bindL_get (i := i) (List.nodup_cons.mp nd).2 (by simpa using h1) (by simpa using h2) hk
theorem bindC_get {kindOf : Str → Option NameKind} {x : Str} {v : Value} : ∀ {P : List Str} {vs : List Value} {i : Nat} {m : Str → Option Value}, P.Nodup → P[i]? = some x → vs[i]? = some v → kindOf x ≠ some .local →
    bindC kindOf (P.zip vs) m x = some v
  | [], _, _, _, _, h, _, _ => by simp at h
  | _ :: _, [], _, _, _, _, h, _ => by simp at h
  | p :: P, w :: vs, 0, m, nd, h1, h2, hk => by
    simp at h1 h2; subst h1; subst h2
    show bindC kindOf ((p, w) :: P.zip vs) m p = _
    unfold bindC
    rw [bindC_out fun v hv => (List.nodup_cons.mp nd).1 (List.of_mem_zip hv).1, if_neg hk]
    simp
  | p :: P, w :: vs, i + 1, m, nd, h1, h2, hk => by
    show bindC kindOf ((p, w) :: P.zip vs) m x = _
    unfold bindC
    exact bindC_get (i := i) (List.nodup_cons.mp nd).2 (by simpa using h1) (by simpa using h2) hk
def start (N : List Str) (vs : List V) : St := vs.map some ++ List.replicate (N.length - vs.length) none
def cxOf (CX : CXT) (P : Program) (w : World) (K : PySem.W.Frag) (mg : Str → Option Value) (base : Heap) (N : List Str) (qual : Str) (scope : Scope) (f : Addr) (cd : Value) (A : Around) (outer : List Env) (s : Shared) (H : Hp) (E : XK) : Cx where
  prog := P
  w := w
  K := K
  mg := mg
  base := base
  A := A.deeper (envOfC qual scope s.heap.objs.size f cd)
  N := N
  s₀ := s
  H₀ := H
  env := envOfC qual scope s.heap.objs.size f cd
  outer := outer
  stack := envOfC qual scope s.heap.objs.size f cd :: outer
  ex := []
  calm := true
  fn := fun _ => true
  pn := []
  xe := fun e s' => wpAny (model P w) (A.deeper (envOfC qual scope s.heap.objs.size f cd)) (leaving (envOfC qual scope s.heap.objs.size f cd) e) (fun _ s'' => CX outer H s E e s'') (fun e' s'' => CX outer H s E e' s'') s'
theorem cell_has {sc : Scope} {n : Nat} {x : Str} (h : sc.names.lookup x = some .cell) : ∃ c, (cellsFrom n sc.names []).lookup x = some c := by
  have q := PySem.W.cellsFrom_some sc.names n [] (.inl h)
  exact Option.isSome_iff_exists.mp q
theorem inv_start {CX : CXT} {P : Program} {w : World} {K : PySem.W.Frag} {mg : Str → Option Value} {base : Heap} {N ps : List Str} {qual : Str} {scope : Scope} {f : Addr} {cd : Value} {A : Around} {outer : List Env} {s s1 : Shared} {H : Hp} {E : XK} {us : List Value} {vs : List V}
    (S : FnScope N ps scope) (hd : A.handled = none) (e0 : Env0 P w K mg base A outer s H) (hl : vs.length = ps.length) (r : Vals vs us)
    (x : InCallC s s.heap.objs.size (bindL (envOfC qual scope s.heap.objs.size f cd).kindOf (ps.zip us) fun _ => none) (cellsFrom (s.heap.objs.size + 1) scope.names []) (bindC (envOfC qual scope s.heap.objs.size f cd).kindOf (ps.zip us) fun _ => none) s1) :
    Inv (cxOf CX P w K mg base N qual scope f cd A outer s H E) [] (start N vs) H s1 := by
  have hpl : ps.length ≤ N.length := by have := congrArg List.length S.pre; rw [List.length_take] at this; omega
  obtain ⟨h1, tk, rfl, hk⟩ := x.done
  have noA : ∀ b : Addr, b ∉ (cxOf CX P w K mg base N qual scope f cd A outer s H E).ex := fun b z => absurd (show b ∈ ([] : List Addr) from z) (by simp)
  refine ⟨⟨e0.mod, S.kind, rfl, rfl, Nat.le_refl _, fun y z c h1 h2 => ?_, fun y hy => ?_, fun y c _ h => ?_, fun _ => hd, Around.frames_deeper e0.frames, .inr ⟨rfl, rfl⟩, fun b z => absurd z (noA b), e0.bs, e0.bsz, fun b _ _ => noA b, fun b z => absurd z (noA b), e0.funs, e0.frf⟩,
    rfl, e0.bare, Un.kept hk, ⟨_, x.toInCall.ns, fun i y v h1 h2 h3 => ?_⟩, fun y c h => ⟨_, x.cell y c h⟩, e0.hok.fresh (Nat.le_refl _), fun y c h => ?_, fun p hp => absurd (show p ∈ ([] : List (Addr × Obj)) from hp) (by simp), e0.hok.kept hk, ?_⟩
  · exact name_of_addr x.apart (PySem.mem_of_lookup h1) (PySem.mem_of_lookup h2)
  · have hy : scope.names.lookup y = some .cell ∨ scope.names.lookup y = some .free := hy
    rcases hy with hy | hy
    · exact cell_has hy
    · exact absurd rfl (S.nofree _ (PySem.mem_of_lookup hy))
  · exact Nat.le_of_lt (x.above y c (PySem.mem_of_lookup h))
  · have hi : i < vs.length := by
      unfold start at h2
      by_cases hi : i < vs.length
      · exact hi
      · rw [List.getElem?_append_right (by simpa using hi)] at h2
        rw [List.getElem?_replicate] at h2
        split at h2 <;> cases h2
    have ha : vs[i]? = some v := by
      unfold start at h2
      rw [List.getElem?_append_left (by simpa using hi), List.getElem?_map] at h2
      cases e : vs[i]? with
      | none => rw [e] at h2; cases h2
      | some a => rw [e] at h2; cases h2; rfl
    obtain ⟨u, hu, rv⟩ := r.get ha
    have hp : ps[i]? = some y := by
      rw [← S.pre, List.getElem?_take_of_lt (by omega)]; exact h1
    have ndP : ps.Nodup := by rw [← S.pre]; exact S.nd.sublist (List.take_sublist _ _)
    refine ⟨u, rv, ?_⟩
    rcases S.par y (List.mem_of_getElem? hp) with k | k
    · exact .inl ⟨k, bindL_get ndP hp hu k⟩
    · obtain ⟨c, e⟩ := cell_has (n := s.heap.objs.size + 1) k
      refine .inr ⟨.inl k, c, e, ?_⟩
      have q := x.cell y c e
      rw [bindC_get ndP hp hu (by show scope.names.lookup y ≠ _; rw [k]; decide)] at q
      exact q
  · exact e0.hok.fresh (Nat.le_of_lt (x.above y c (PySem.mem_of_lookup h)))
  · unfold start
    show _ = N.length
    rw [List.length_append, List.length_map, List.length_replicate]
    omega
theorem fn_of {CX : CXT} {P : Program} {w : World} {K : PySem.W.Frag} {mg : Str → Option Value} {base : Heap} {k : Nat} {f : Addr} {name qual : Str} {params : Arguments} {body : List Stmt} {scope : Scope} {dV kV doc pm cdv ct oc : Value} {an od : Option Addr}
    {osl : Array (Option Value)} {N ps : List Str} {sp : Sp} (lk : K.lookup f = some ⟨oc, od, .func (PySem.W.fnOf name qual params body scope dV kV doc pm an cdv ct), osl⟩) (hcd : PySem.W.codeIn K cdv qual = true) (S : FnScope N ps scope)
    (len : ∀ vs H Q E, sp vs H Q E → vs.length = ps.length)
    (hbody : ∀ (A : Around) (outer : List Env) (s : Shared) (H : Hp) (vs : List V) (Q : VK) (E : XK), Room k (A.deeper (envOfC qual scope s.heap.objs.size f cdv)) → sp vs H Q E →
      ∃ t, PSs (cxOf CX P w K mg base N qual scope f cdv A outer s H E) body t ∧ t { nx := fun _ H' => Q .non H', rt := Q } (start N vs) H) :
    FnOk P w K mg base CX (k + 1) f (PySem.W.fnOf name qual params body scope dV kV doc pm an cdv ct) ps sp := by
  refine ⟨len, fun A outer s H args us vs Q E hr e0 hb r hsp => ?_⟩
  have hl := len _ _ _ _ hsp
  have KX : K.In s.heap := e0.mod.kin.keeps fun b o e => (e0.bs b o e).1
  have lim : s.heap.NoLimit := e0.mod.nolimit.keeps fun b o e => (e0.bs b o e).1
  have hkind : ∀ y ∈ ps.zip us, scope.names.lookup y.1 = some .local ∨ (scope.names.lookup y.1 = some .cell ∧ ((cellsFrom (s.heap.objs.size + 1) scope.names []).lookup y.1).isSome = true) := fun ⟨n, v⟩ hy => by
    rcases S.par n (List.of_mem_zip hy).1 with q | q
    · exact .inl q
    · exact .inr ⟨q, PySem.W.cellsFrom_some _ _ _ (.inl q)⟩
  refine codeAny_call_function hr.depth (KX _ _ lk) rfl S.co S.gen rfl (PySem.W.codeRec_of KX hcd) (hb _ _ _ _ ?_)
  refine wpAny_newFunctionEnv_cells S.kind hkind fun env he s1 x => ?_
  subst he
  refine ⟨lim.keeps x.toInCall.keep, codeAny_func ?_⟩
  obtain ⟨t, ht, hq⟩ := hbody A outer s H vs Q E (hr.deeper _) hsp
  have I : Inv (cxOf CX P w K mg base N qual scope f cdv A outer s H E) [] (start N vs) H s1 := inv_start S hr.hd e0 hl r x
  refine wpAny_mono (ht [] s1 (start N vs) H _ I hq) (fun fl s' hs => ?_) fun e s' hs => hs
  have fin : ∀ {σ' : St} {H' : Hp} {v : V} {u : Value}, Inv (cxOf CX P w K mg base N qual scope f cdv A outer s H E) [] σ' H' s' → RelV v u → Q v H' → CE outer P w H s Q u s' :=
    fun {σ' H' v u} J rv q => ⟨v, H', J.os, J.bare, J.base, J.hok, rv, q⟩
  cases fl with
  | ret u =>
    obtain ⟨v, σ', H', J, rv, q⟩ := hs
    exact fin J rv q
  | next =>
    obtain ⟨σ', H', J, q⟩ := hs
    exact fin (v := V.non) (u := Value.none) J rfl q
  | brk =>
    obtain ⟨_, _, _, q⟩ := hs
    exact False.elim q
  | cont =>
    obtain ⟨_, _, _, q⟩ := hs
    exact False.elim q
end L2
namespace L2
open PySem PySem.Spec PyProof.Rows
section
variable {X : Cx} {x : Str} {p pos : Pos} {e : Expr} {es : List Expr} {t : TA} {id T : String} {r : List V → Hp → VK → Prop}
def tCB (r : List V → Hp → VK → Prop) (t : TA) : TE := fun σ H Q => t σ H fun vs H1 => r vs H1 Q
theorem pe_callB (hc : CallR X (.builtin id) r) (hg : Gl X x) (hm : X.mg x = none) (hv : bootBuiltins x = some (.builtin id)) (ha : PA X (e :: es) t) (hn : x ≠ "__name__" := by decide) (hdb : (x == ("__debug__" : Str)) = false := by decide)
    (he : starEach (e :: es) X.env = (false, eval e X.env) :: starEach es X.env := by rfl) (hpl : (backTo pos (starEach es X.env)).any (·.1) = false := by rfl) : PE X (.Call (.Name x p) (e :: es) [] pos) (tCB r t) := by
  intro pins s σ H Q I h
  refine wpAny_Call_Name_kw (ld_blt I hg hm hv ?_ hn hdb)
  exact PyProof.Rows.callWith_builtin1 (thn (ha pos pins s σ H _ I h) fun us s1 ⟨vs, H1, I1, r1, q1⟩ => hc pins s1 σ H1 vs us Q I1 r1 q1) he hpl
theorem pe_callTy (hc : CallR X (.type T) r) (hg : Gl X x) (hm : X.mg x = none) (hv : bootBuiltins x = some (.type T)) (ha : PA X (e :: es) t) (hn : x ≠ "__name__" := by decide) (hdb : (x == ("__debug__" : Str)) = false := by decide)
    (he : starEach (e :: es) X.env = (false, eval e X.env) :: starEach es X.env := by rfl) (hpl : (backTo pos (starEach es X.env)).any (·.1) = false := by rfl) : PE X (.Call (.Name x p) (e :: es) [] pos) (tCB r t) := by
  intro pins s σ H Q I h
  refine wpAny_Call_Name_kw (ld_blt I hg hm hv ?_ hn hdb)
  exact PyProof.Rows.callWith_type1 (thn (ha pos pins s σ H _ I h) fun us s1 ⟨vs, H1, I1, r1, q1⟩ => hc pins s1 σ H1 vs us Q I1 r1 q1) he hpl
end
end L2
namespace HT
open PySem PyProof.Rows
section
open PySem.SeqAt
open PySem.AutoSeq1 (wpAny_loadPart')
open PySem.MeetsSeq PySem.MeetsSeq2 PySem.MeetsSeq3
end
section
variable {prog : Program} {w : World} {A : Around} {E : Value → Shared → Prop} {s : Shared}
theorem cat_tup {t b : Addr} {vs ws : List Value} {Q : Value → Shared → Prop} (ht : IsTup s.heap t vs.toArray) (hb : IsTup s.heap b ws.toArray) (hv : vs ≠ [])
    (h1 : ws = [] → Q (.ref t) s) (h2 : ws ≠ [] → Q (.ref s.heap.objs.size) { s with heap := s.heap.push { cls := .type "tuple", data := .seq (vs ++ ws).toArray } })
    (hsz : vs.length + ws.length ≤ sizeLine) : wpAny (model prog w) A (binaryOp .Add (.ref t) (.ref b)) Q E s := by
  obtain ⟨⟨cls, dd, data, sl⟩, ho, hc, n, hd⟩ := id ht
  obtain ⟨⟨cls2, dd2, data2, sl2⟩, ho2, hc2, n2, hd2⟩ := id hb
  simp only at hc hd hc2 hd2
  subst hc hd hc2 hd2
  have e : vs.toArray ++ ws.toArray = (vs ++ ws).toArray := by simp
  by_cases hw : ws = []
  · exact concat_meets ⟨_, ho, rfl⟩ ⟨_, ho2, rfl⟩ noFill_tuple_add seq_tuple_add PySem.F.slot_tuple_add PySem.F.entry_tuple_add (PySem.F.args_tuple_add_2 _ _)
      (tuple_addW1 t b vs.toArray ws.toArray n n2 dd dd2 sl sl2 (by simpa using hv) (by simp [hw])) ⟨ho, ho2, h1 hw⟩
  · refine concat_meets ⟨_, ho, rfl⟩ ⟨_, ho2, rfl⟩ noFill_tuple_add seq_tuple_add PySem.F.slot_tuple_add PySem.F.entry_tuple_add (PySem.F.args_tuple_add_2 _ _)
      (tuple_addW2 t b vs.toArray ws.toArray n n2 dd dd2 sl sl2 (by simpa using hv) (by simpa using hw) (by rw [List.size_toArray, List.size_toArray]; exact hsz)) ⟨ho, ho2, ?_⟩
    rw [e]
    exact h2 hw
def sIx (n d : Nat) : Option Int → Nat
  | none => d
  | some v => if v < 0 then (v + (n : Int)).toNat else min v.toNat n
theorem sIx_none (n d : Nat) : sIx n d none = d := rfl
theorem sIx_nat (n d k : Nat) : sIx n d (some (k : Int)) = min k n := by
  show (if (k : Int) < 0 then ((k : Int) + (n : Int)).toNat else min (k : Int).toNat n) = min k n
  rw [if_neg (by omega), Int.toNat_natCast]
theorem sIx_le (n d : Nat) (hd : d ≤ n) (o : Option Int) : sIx n d o ≤ n := by
  cases o with
  | none => exact hd
  | some v =>
    show (if v < 0 then (v + (n : Int)).toNat else min v.toNat n) ≤ n
    by_cases hv : v < 0
    · rw [if_pos hv]; omega
    · rw [if_neg hv]; exact Nat.min_le_right _ _
theorem clip_eq (v : Int) (n d : Nat) : (if v < 0 then max (v + (n : Int)) 0 else min v (n : Int)) = ((sIx n d (some v) : Nat) : Int) := by
  show (if v < 0 then max (v + (n : Int)) 0 else min v (n : Int)) = (((if v < 0 then (v + (n : Int)).toNat else min v.toNat n) : Nat) : Int)
  by_cases hv : v < 0
  · simp only [if_pos hv]; omega
  · simp only [if_neg hv]; omega
theorem adjust_gen (lo hi : Option Int) (n : Nat) : Builtin.Slice.sliceAdjust lo hi 1 (n : Int) = (((sIx n 0 lo : Nat) : Int), ((sIx n n hi : Nat) : Int)) := by
  have h1 : ¬ ((1 : Int) < 0) := by omega
  unfold Builtin.Slice.sliceAdjust
  simp only [h1, if_false]
  refine Prod.ext ?_ ?_
  · cases lo with
    | none => rfl
    | some v => exact clip_eq v n 0
  · cases hi with
    | none => rfl
    | some v => exact clip_eq v n n
theorem places_gen (i j : Nat) : Builtin.Slice.slicePlaces (i : Int) (j : Int) 1 = j - i := by
  unfold Builtin.Slice.slicePlaces
  have h1 : (1 : Int) > 0 := by omega
  simp only [h1, if_true, Int.ediv_one]
  split <;> omega
theorem slicePart_ {v : Value} {o : Option Int} {Q : Option Int → Shared → Prop} (p : IsPart v o) (h : Q o s) : wpAny (model prog w) A (Builtin.Slice.slicePartIndex v) Q E s := by
  cases p with
  | none => exact slicePart_none h
  | int i t => exact slicePart_int h
theorem sliceApplied_gen {sl : Addr} {vl vu : Value} {lo hi : Option Int} {n : Nat} {Q : Int × Int × Nat → Shared → Prop} (hs : s.heap.IsSliceOf sl vl vu .none) (pl : IsPart vl lo) (pu : IsPart vu hi)
    (h : Q (((sIx n 0 lo : Nat) : Int), 1, sIx n n hi - sIx n 0 lo) s) : wpAny (model prog w) A (Builtin.Slice.sliceApplied (.ref sl) (pure (n : Int))) Q E s := by
  obtain ⟨os, hos, hcs, hds⟩ := id hs
  unfold Builtin.Slice.sliceApplied Builtin.Slice.sliceFields
  refine wpAny_bind (wpAny_bind (wpAny_field hos hds (x := vl) rfl (wpAny_bind (wpAny_field hos hds (x := vu) rfl (wpAny_bind (wpAny_field hos hds (x := .none) rfl (wpAny_pure ?_)))))))
  refine wpAny_bind (slicePart_none ?_)
  show wpAny _ _ (if ((1 : Int) == 0) = true then _ else _) _ _ s
  rw [if_neg (by decide)]
  refine wpAny_bind (slicePart_ pl (wpAny_bind (slicePart_ pu (wpAny_bind (wpAny_pure ?_)))))
  show wpAny _ _ (match Builtin.Slice.sliceAdjust lo hi 1 (n : Int) with | (lo, hi) => pure (lo, (1 : Int), Builtin.Slice.slicePlaces lo hi 1)) _ _ s
  rw [adjust_gen lo hi n]
  show wpAny _ _ (pure (((sIx n 0 lo : Nat) : Int), (1 : Int), Builtin.Slice.slicePlaces ((sIx n 0 lo : Nat) : Int) ((sIx n n hi : Nat) : Int) 1)) _ _ s
  rw [places_gen]
  exact wpAny_pure h
theorem pick_gen (xs : Array Value) (i k : Nat) : ((List.range k).filterMap fun (m : Nat) => xs[((i : Int) + (m : Int) * 1).toNat]?).toArray = ((xs.toList.drop i).take k).toArray := by
  have e : (fun (m : Nat) => xs[((i : Int) + (m : Int) * 1).toNat]?) = fun m => xs[i + m]? := by
    funext m
    have : ((i : Int) + (m : Int) * 1).toNat = i + m := by omega
    rw [this]
  rw [e]
  have := pick_run xs i k
  rw [List.filterMap_map] at this
  have e2 : ((fun x => xs[x]?) ∘ fun x => i + x) = fun m => xs[i + m]? := rfl
  rw [e2] at this
  rw [this]
theorem getItem_tuple_cut {t sl : Addr} {items : Array Value} {vl vu : Value} {lo hi : Option Int} {Q : Value → Shared → Prop} (ht : IsTup s.heap t items) (hs : s.heap.IsSliceOf sl vl vu .none) (pl : IsPart vl lo) (pu : IsPart vu hi)
    (hw : ¬ (sIx items.size 0 lo = 0 ∧ sIx items.size items.size hi = items.size))
    (h : Q (.ref s.heap.objs.size) { s with heap := s.heap.push { cls := .type "tuple", data := .seq ((items.toList.drop (sIx items.size 0 lo)).take (sIx items.size items.size hi - sIx items.size 0 lo)).toArray } })
    (hsz : items.size ≤ sizeLine) : wpAny (model prog w) A (getItem (.ref t) (.ref sl)) Q E s := by
  have htake : sizeOk (.seq ((items.toList.drop (sIx items.size 0 lo)).take (sIx items.size items.size hi - sIx items.size 0 lo)).toArray) := by
    show ((items.toList.drop (sIx items.size 0 lo)).take (sIx items.size items.size hi - sIx items.size 0 lo)).toArray.size ≤ sizeLine
    rw [List.size_toArray, List.length_take, List.length_drop, Array.length_toList]
    omega
  have hj : sIx items.size items.size hi ≤ items.size := sIx_le _ _ (Nat.le_refl _) hi
  obtain ⟨os, hos, hcs, hds⟩ := id hs
  have hTs : s.TypeIs (.ref sl) "slice" := ⟨os, hos, hcs⟩
  unfold getItem
  try with_reducible refine wpAny_holding ?_
  first | refine wpAny_bind (wpAny_pure ?_) | skip
  refine wpAny_bind (wpAny_sequenceKey ht.typeIs (by decide) ?_)
  refine wpAny_bind (wpAny_callSpecial?_slot (name := Str.ofString "__getitem__") ht.typeIs PyProof.Rows.slot_tuple_getitem
    (wpAny_call_entry PyProof.Rows.slot_tuple_getitem ht.typeIs entry_tuple_getitem ?_ (args_tuple_getitem _ _)))
  show wpAny _ _ (Builtin.Tuple.tupleItemsOf (.ref t) >>= _) _ _ s
  refine wpAny_bind (tupleItemsOf_ ht ?_)
  refine wpAny_bind (wpAny_typeOf hTs ?_)
  rw [if_pos (by decide)]
  refine wpAny_bind (sliceApplied_gen hs pl pu ?_)
  have hno : ¬ ((((sIx items.size 0 lo : Nat) : Int) == 0 && (1 : Int) == 1 && (sIx items.size items.size hi - sIx items.size 0 lo) == items.size) = true) := by
    intro q
    rw [Bool.and_eq_true, Bool.and_eq_true] at q
    have q1 : ((sIx items.size 0 lo : Nat) : Int) = 0 := eq_of_beq q.1.1
    have q2 : sIx items.size items.size hi - sIx items.size 0 lo = items.size := eq_of_beq q.2
    exact hw ⟨by omega, by omega⟩
  show wpAny _ _ (if (((sIx items.size 0 lo : Nat) : Int) == 0 && (1 : Int) == 1 && (sIx items.size items.size hi - sIx items.size 0 lo) == items.size) = true then _ else _) _ _ s
  rw [if_neg hno, pick_gen]
  first
    | exact wpAny_bind (m := Builtin.Tuple.tupleExact _) (wpAny_newObj_type (wpAny_pure ⟨_, rfl, wpAny_pure h⟩) htake)
    | exact wpAny_bind (m := Builtin.Tuple.tupleExact _) (wpAny_newObj_type (wpAny_bind (wpAny_pure (wpAny_pure ⟨_, rfl, wpAny_pure h⟩))) htake)
    | exact wpAny_bind (wpAny_bind (m := Builtin.Tuple.tupleExact _) (wpAny_newObj_type (wpAny_pure (wpAny_pure ⟨_, rfl, wpAny_pure h⟩)) htake))
    | exact wpAny_bind (wpAny_bind (m := Builtin.Tuple.tupleExact _) (wpAny_newObj_type (wpAny_pure ⟨_, rfl, wpAny_pure h⟩) htake))
end
end HT
namespace L2
open PySem PySem.Spec PyProof.Rows
abbrev TO := St → Hp → (Option Int → Hp → Prop) → Prop
def PO (X : Cx) (e : Option Expr) (t : TO) : Prop :=
  ∀ (pins : List (Addr × Obj)) (s : Shared) (σ : St) (H : Hp) (Q : Option Int → Hp → Prop), Inv X pins σ H s → t σ H Q →
    wpAny (model X.prog X.w) X.A (evalPart e X.env) (fun u s' => ∃ o H', Inv X pins σ H' s' ∧ IsPart u o ∧ Q o H') X.xe s
def tNoPart : TO := fun _ H Q => Q none H
def tPart (t : TE) : TO := fun σ H Q => t σ H fun x H1 => ∃ i, x = .int i ∧ Q (some i) H1
theorem intsAre_of {ns : List Int} : ∀ {us : List Value}, Vals (ns.map V.int) us → IntsAre us ns := by
  induction ns with
  | nil => intro us r; rw [List.map_nil] at r; cases r; exact .nil
  | cons n ns ih =>
    intro us r
    rw [List.map_cons] at r
    cases r with
    | cons r1 r2 =>
      obtain ⟨t, e⟩ := r1
      subst e
      exact .cons n t (ih r2)
section
variable {X : Cx} {e : Expr} {te : TE} {lo hi : Option Expr} {tl th : TO} {pos p2 : Pos}
theorem po_none : PO X none tNoPart := by
  intro pins s σ H Q I h
  rw [evalPart_none]
  exact wpAny_pure ⟨none, H, I, .none, h⟩
theorem po_some (h : PE X e te) : PO X (some e) (tPart te) := by
  intro pins s σ H Q I hw
  rw [evalPart_some]
  refine thn (h pins s σ H _ I hw) fun u s1 hq__ => ?_
  obtain ⟨x, H1, I1, r1, q1⟩ := hq__
  obtain ⟨i, rfl, q⟩ := q1
  obtain ⟨t, rfl⟩ := r1
  exact ⟨some i, H1, I1, .int i t, q⟩
def SlR (X : Cx) (r : V → Option Int → Option Int → Hp → VK → Prop) : Prop :=
  ∀ (pins : List (Addr × Obj)) (s : Shared) (σ : St) (H : Hp) (x : V) (v vl vu : Value) (lo hi : Option Int) (sl : Addr) (Q : VK), Inv X pins σ H s → RelV x v → s.heap.IsSliceOf sl vl vu .none → IsPart vl lo → IsPart vu hi → r x lo hi H Q →
    ∃ T id, typeLookup (.type T) "__getitem__" = pure (some (.builtin id)) ∧ s.TypeIs v T ∧ wpAny (model X.prog X.w) X.A (getItem v (.ref sl)) (EP X pins σ Q) X.xe s
theorem SlR.or {r r' : V → Option Int → Option Int → Hp → VK → Prop} (h : SlR X r) (h' : SlR X r') : SlR X (fun x lo hi H Q => r x lo hi H Q ∨ r' x lo hi H Q) := by
  intro pins s σ H x v vl vu lo hi sl Q I rx hs pl pu q
  rcases q with q | q
  · exact h pins s σ H x v vl vu lo hi sl Q I rx hs pl pu q
  · exact h' pins s σ H x v vl vu lo hi sl Q I rx hs pl pu q
def tSl (r : V → Option Int → Option Int → Hp → VK → Prop) (te : TE) (tl th : TO) : TE := fun σ H Q => te σ H fun x H1 => tl σ H1 fun l H2 => th σ H2 fun u H3 => r x l u H3 Q
theorem pe_slice {r : V → Option Int → Option Int → Hp → VK → Prop} (hr : SlR X r) (he : PE X e te) (hl : PO X lo tl) (hu : PO X hi th) : PE X (.Subscript e (.Slice lo hi none p2) pos) (tSl r te tl th) := by
  intro pins s σ H Q I h
  refine Subscript_ (thn (he pins s σ H _ I h) fun v s1 hq__ => ?_)
  obtain ⟨x, H1, I1, r1, q1⟩ := hq__
  refine wpAny_Slice (thn (hl pins s1 σ H1 _ I1 q1) fun vl s2 ⟨l, H2, I2, pl, q2⟩ => thn (hu pins s2 σ H2 _ I2 q2) fun vu s3 hq__ => ?_)
  obtain ⟨u, H3, I3, pu, q3⟩ := hq__
  rw [evalPart_none]
  refine wpAny_pure ?_
  have I4 : Inv X pins σ H3 { s3 with heap := s3.heap.push { cls := .type "slice", data := .fields #[vl, vu, .none] } } := I3.kept (t' := s3.toks) fun b ob q => Heap.get?_push_of_some _ q
  obtain ⟨T, id, hT, ht, hg⟩ := hr pins { s3 with heap := s3.heap.push { cls := .type "slice", data := .fields #[vl, vu, .none] } } σ H3 x v vl vu l u s3.heap.objs.size Q I4 r1 (Heap.IsSliceOf.new ..) pl pu q3
  show wpAny (model X.prog X.w) X.A (subscriptTail e (.Slice lo hi none p2) v (.ref s3.heap.objs.size)) (EP X pins σ Q) X.xe { s3 with heap := s3.heap.push { cls := .type "slice", data := .fields #[vl, vu, .none] } }
  exact tail_any (ops := [.ref s3.heap.objs.size, v]) ht hT hg (by with_unfolding_all rfl)
def cutV (xs : List V) (lo hi : Option Int) : List V := (xs.drop (HT.sIx xs.length 0 lo)).take (HT.sIx xs.length xs.length hi - HT.sIx xs.length 0 lo)
theorem cutV_length (xs : List V) (lo hi : Option Int) : (cutV xs lo hi).length ≤ xs.length := by
  unfold cutV
  rw [List.length_take, List.length_drop]
  omega
def rSlT (K : PySem.W.Frag) : V → Option Int → Option Int → Hp → VK → Prop := fun x lo hi H Q => ∃ a xs, x = .ref a ∧ SqT K H a xs ∧
  ¬ (HT.sIx xs.length 0 lo = 0 ∧ HT.sIx xs.length xs.length hi = xs.length) ∧ ∀ p, H p = none → Q (.ref p) (upd H p (.tup (cutV xs lo hi)))
theorem sl_tup : SlR X (rSlT X.K) := by
  intro pins s σ H x v vl vu lo hi sl Q I rx hs pl pu h
  obtain ⟨a, xs, rfl, hx, hw, q⟩ := h
  cases rx
  obtain ⟨its, r, ht, hz⟩ := I.tuple hx
  have hlen : its.toArray.size = xs.length := by rw [List.size_toArray]; exact r.length.symm
  refine ⟨"tuple", _, PyProof.Rows.slot_tuple_getitem.lookup, ht.typeIs, ?_⟩
  refine HT.getItem_tuple_cut ht hs pl pu (by rw [hlen]; exact hw) ?_ (by rw [hlen]; exact hz)
  rw [hlen]
  refine ⟨.ref s.heap.objs.size, _, I.laid (t' := s.toks) (o := .tup (cutV xs lo hi)) (fun b ob q => Heap.get?_push_of_some _ q) (Nat.le_refl _) ?_, rfl, q _ (I.hok.fresh (Nat.le_refl _))⟩
  exact ⟨Nat.le_trans (cutV_length xs lo hi) hz, _, (r.drop (HT.sIx xs.length 0 lo)).take (HT.sIx xs.length xs.length hi - HT.sIx xs.length 0 lo), IsTup.new _ _⟩
def rCatT (K : PySem.W.Frag) : R2 := fun x y H Q => ∃ a b xs ys, x = .ref a ∧ y = .ref b ∧ SqT K H a xs ∧ SqT K H b ys ∧ xs ≠ [] ∧ xs.length + ys.length ≤ sizeLine ∧
  (ys = [] → Q (.ref a) H) ∧ (ys ≠ [] → ∀ p, H p = none → Q (.ref p) (upd H p (.tup (xs ++ ys))))
theorem Vals.nil_iff {xs : List V} {us : List Value} (r : Vals xs us) : us = [] ↔ xs = [] := by
  cases r with
  | nil => simp
  | cons _ _ => simp
theorem op_catT : OpR X (binaryOp .Add) (rCatT X.K) := by
  intro pins s σ H x y v u Q I rx ry h
  obtain ⟨a, b, xs, ys, rfl, rfl, ha, hb, hx, hz, q1, q2⟩ := h
  cases rx
  cases ry
  obtain ⟨its, r1, p1, _⟩ := I.tuple ha
  obtain ⟨its2, r2, p2, _⟩ := I.tuple hb
  refine HT.cat_tup p1 p2 (fun z => hx (r1.nil_iff.mp z)) (fun z => ⟨.ref a, H, I, rfl, q1 (r2.nil_iff.mp z)⟩) (fun z => ?_) (by rw [← r1.length, ← r2.length]; exact hz)
  refine ⟨.ref s.heap.objs.size, _, I.laid (t' := s.toks) (o := .tup (xs ++ ys)) (fun b ob q => Heap.get?_push_of_some _ q) (Nat.le_refl _) ?_, rfl, q2 (fun w => z (r2.nil_iff.mpr w)) _ (I.hok.fresh (Nat.le_refl _))⟩
  exact ⟨by rw [List.length_append]; exact hz, _, r1.append r2, IsTup.new _ _⟩
end
end L2
namespace L2
open PySem PySem.Spec PyProof.Rows
def ixN (n : Nat) (i : Int) : Option Nat := if 0 ≤ i then (if i < n then some i.toNat else none) else if -(n : Int) ≤ i then some (i + n).toNat else none
def atI {α : Type} (xs : List α) (i : Int) : Option α := (ixN xs.length i).bind fun j => xs[j]?
theorem ixN_seq {n : Nat} {i : Int} {j : Nat} (h : ixN n i = some j) : seqIndex? i n = some j ∧ j < n ∧ -(n : Int) ≤ i ∧ i < n := by
  unfold ixN at h
  by_cases h0 : 0 ≤ i
  · rw [if_pos h0] at h
    by_cases h1 : i < n
    · rw [if_pos h1] at h
      have e : i.toNat = j := Option.some.inj h
      exact ⟨by rw [seqIndex_of h0 h1, e], by omega, by omega, h1⟩
    · rw [if_neg h1] at h; cases h
  · rw [if_neg h0] at h
    by_cases h1 : -(n : Int) ≤ i
    · rw [if_pos h1] at h
      have e : (i + n).toNat = j := Option.some.inj h
      exact ⟨by rw [seqIndex_neg (by omega) h1, e], by omega, h1, by omega⟩
    · rw [if_neg h1] at h; cases h
theorem atI_get {α : Type} {xs : List α} {i : Int} {v : α} (h : atI xs i = some v) : ∃ j, seqIndex? i xs.length = some j ∧ xs[j]? = some v ∧ j < xs.length ∧ -(xs.length : Int) ≤ i ∧ i < xs.length := by
  unfold atI at h
  cases e : ixN xs.length i with
  | none => rw [e] at h; cases h
  | some j =>
    rw [e] at h
    obtain ⟨h1, h2, h3, h4⟩ := ixN_seq e
    exact ⟨j, h1, h, h2, h3, h4⟩
theorem atI_nat {α : Type} {xs : List α} {j : Nat} {v : α} (h : xs[j]? = some v) : atI xs (j : Int) = some v := by
  have hj : j < xs.length := (List.getElem?_eq_some_iff.mp h).1
  have e : ixN xs.length (j : Int) = some j := by
    unfold ixN
    rw [if_pos (by omega), if_pos (by omega)]; simp
  unfold atI; rw [e]; exact h
def PlainIx (b : Expr) : Prop := ∀ o i, subscripted b false o i = operate [o, i] (getItem o i)
def IxR (X : Cx) (r : R2) : Prop :=
  ∀ (value slice : Expr) (pins : List (Addr × Obj)) (s : Shared) (σ : St) (H : Hp) (x y : V) (v u : Value) (Q : VK), Inv X pins σ H s → RelV x v → RelV y u → r x y H Q →
    subscripted slice false v u = operate [v, u] (getItem v u) → wpAny (model X.prog X.w) X.A (subscriptTail value slice v u) (EP X pins σ Q) X.xe s
def MtR (X : Cx) (id : String) (r : V → List V → Hp → VK → Prop) : Prop :=
  ∀ (pins : List (Addr × Obj)) (s : Shared) (σ : St) (H : Hp) (x : V) (xs : List V) (v : Value) (us : List Value) (Q : VK), Inv X pins σ H s → RelV x v → Vals xs us → r x xs H Q →
    wpAny (model X.prog X.w) X.A (call (.builtin id) (v :: us)) (EP X pins σ Q) X.xe s
section
variable {X : Cx} {a b : Expr} {ta tb : TE} {pos : Pos}
theorem IxR.or {r r' : R2} (h : IxR X r) (h' : IxR X r') : IxR X (fun x y H Q => r x y H Q ∨ r' x y H Q) := by
  intro value slice pins s σ H x y v u Q I rx ry q hs
  rcases q with q | q
  · exact h value slice pins s σ H x y v u Q I rx ry q hs
  · exact h' value slice pins s σ H x y v u Q I rx ry q hs
theorem MtR.or {id : String} {r r' : V → List V → Hp → VK → Prop} (h : MtR X id r) (h' : MtR X id r') : MtR X id (fun x xs H Q => r x xs H Q ∨ r' x xs H Q) := by
  intro pins s σ H x xs v us Q I rx rs q
  rcases q with q | q
  · exact h pins s σ H x xs v us Q I rx rs q
  · exact h' pins s σ H x xs v us Q I rx rs q
theorem pe_ix {r : R2} (hr : IxR X r) (ha : PE X a ta) (hb : PE X b tb) (hs : PlainIx b) : PE X (.Subscript a b pos) (tOp r ta tb) := by
  intro pins s σ H Q I h
  exact Subscript_ (binT ha hb I h fun v u s2 x y H2 I2 rx ry q => hr a b pins s2 σ H2 x y v u Q I2 rx ry q (hs _ _))
def rIxL (K : PySem.W.Frag) : R2 := fun x y H Q => ∃ p xs i v, x = .ref p ∧ y = .int i ∧ SqL K H p xs ∧ atI xs i = some v ∧ Q v H
def rIxT (K : PySem.W.Frag) : R2 := fun x y H Q => ∃ p xs i v, x = .ref p ∧ y = .int i ∧ SqT K H p xs ∧ atI xs i = some v ∧ Q v H
theorem ix_list : IxR X (rIxL X.K) := by
  intro value slice pins s σ H x y v u Q I rx ry h hs
  obtain ⟨p, xs, i, z, rfl, rfl, hq, he, q⟩ := h
  cases rx
  obtain ⟨t, rfl⟩ := ry
  obtain ⟨its, r, pl, hz⟩ := I.list hq
  obtain ⟨j, h1, h2, h3, h4, h5⟩ := atI_get he
  obtain ⟨w, ew, rw'⟩ := r.get h2
  have hl := r.length
  have hn := line63
  have fin : EP X pins σ Q w s := ⟨z, H, I, rw', q⟩
  by_cases h0 : 0 ≤ i
  · have hj : i.toNat = j := by
      rw [seqIndex_of h0 h5] at h1
      exact Option.some.inj h1
    exact item_listR pl.isList h0 (by omega) (by rw [hj]; simpa using ew) fin hs
  · have hj : (i + (its.toArray.size : Int)).toNat = j := by
      rw [seqIndex_neg (by omega) h4] at h1
      rw [List.size_toArray, ← hl]
      exact Option.some.inj h1
    exact subscriptTail_builtinR (x := w) pl.isList.typeIs slot_list_getitem.lookup
      (wpAny_getItem_list_neg (Q := fun r s' => r = w ∧ EP X pins σ Q r s') pl.isList (by omega) (by rw [List.size_toArray] <;> omega) (by omega) (by rw [hj]; simpa using ew) ⟨rfl, fin⟩) hs
theorem ix_tup : IxR X (rIxT X.K) := by
  intro value slice pins s σ H x y v u Q I rx ry h hs
  obtain ⟨p, xs, i, z, rfl, rfl, hq, he, q⟩ := h
  cases rx
  obtain ⟨t, rfl⟩ := ry
  obtain ⟨its, r, pl, hz⟩ := I.tuple hq
  obtain ⟨j, h1, h2, h3, h4, h5⟩ := atI_get he
  obtain ⟨w, ew, rw'⟩ := r.get h2
  have hl := r.length
  have hn := line63
  have fin : EP X pins σ Q w s := ⟨z, H, I, rw', q⟩
  exact subscriptTail_builtinR (x := w) pl.typeIs slot_tuple_getitem.lookup
    (getItem_tuple (j := j) (Q := fun r s' => r = w ∧ EP X pins σ Q r s') pl (by omega) (by omega) (by rw [List.size_toArray, ← hl]; exact h1) (by simpa using ew) ⟨rfl, fin⟩) hs
theorem Inv.lst {pins : List (Addr × Obj)} {σ : St} {H : Hp} {s : Shared} {p : Addr} {xs : List V} (I : Inv X pins σ H s) (h : H p = some (.lst xs)) :
    ∃ (its : List Value) (n : Nat), Vals xs its ∧ s.heap.get? p = some { cls := .type "list", data := .seq its.toArray n } ∧ xs.length ≤ sizeLine := by
  obtain ⟨z, its, n, r, e⟩ := I.hok p _ h
  exact ⟨its, n, r, e, z⟩
theorem slice_bounds (lo hi : Option Int) (n : Nat) : (sliceBounds lo hi none n).1 = ((HT.sIx n 0 lo : Nat) : Int) ∧ (sliceBounds lo hi none n).2.1 = ((HT.sIx n n hi : Nat) : Int) ∧ (sliceBounds lo hi none n).2.2 = 1 := by
  refine ⟨?_, ?_, rfl⟩
  · cases lo with
    | none => simp [sliceBounds, HT.sIx]
    | some i =>
      simp only [sliceBounds, HT.sIx, Option.getD_none, show (1 : Int) > 0 by decide, if_true]
      by_cases h : i < 0
      · simp only [h, if_true] <;> omega
      · simp only [h, if_false] <;> omega
  · cases hi with
    | none => simp [sliceBounds, HT.sIx]
    | some i =>
      simp only [sliceBounds, HT.sIx, Option.getD_none, show (1 : Int) > 0 by decide, if_true]
      by_cases h : i < 0
      · simp only [h, if_true] <;> omega
      · simp only [h, if_false] <;> omega
theorem slicePick_cut (its : List Value) (lo hi : Option Int) : slicePick its.toArray lo hi none = ((its.drop (HT.sIx its.length 0 lo)).take (HT.sIx its.length its.length hi - HT.sIx its.length 0 lo)).toArray := by
  obtain ⟨h1, h2, h3⟩ := slice_bounds lo hi its.toArray.size
  unfold slicePick
  rw [h1, h2, h3]
  simp only [sliceRange_one, pick_run, List.size_toArray] <;> rfl
def rSlL (K : PySem.W.Frag) : V → Option Int → Option Int → Hp → VK → Prop := fun x lo hi H Q => ∃ a xs, x = .ref a ∧ SqL K H a xs ∧ ∀ p, H p = none → Q (.ref p) (upd H p (.lst (cutV xs lo hi)))
theorem sl_list : SlR X (rSlL X.K) := by
  intro pins s σ H x v vl vu lo hi sl Q I rx hs pl pu h
  obtain ⟨a, xs, rfl, hx, q⟩ := h
  cases rx
  obtain ⟨its, r, ht, hz⟩ := I.list hx
  have hlen := r.length
  refine ⟨"list", _, slot_list_getitem.lookup, ht.isList.typeIs, ?_⟩
  refine wpAny_getItem_list_slice ht.isList hs pl pu .none (by simp) ?_ (by rw [List.size_toArray] <;> omega)
  rw [slicePick_cut, ← hlen]
  refine ⟨.ref s.heap.objs.size, _, I.laid (t' := s.toks) (o := .lst (cutV xs lo hi)) (fun b ob q => Heap.get?_push_of_some _ q) (Nat.le_refl _) ?_, rfl, q _ (I.hok.fresh (Nat.le_refl _))⟩
  exact ⟨Nat.le_trans (cutV_length xs lo hi) hz, _, 0, (r.drop (HT.sIx xs.length 0 lo)).take (HT.sIx xs.length xs.length hi - HT.sIx xs.length 0 lo), Heap.get?_push_size _ rfl⟩
theorem call_len_seq : CallR X (.builtin "len") (fun xs H Q => ∃ p ys, xs = [.ref p] ∧ (SqL X.K H p ys ∨ SqT X.K H p ys) ∧ Q (.int ys.length) H) := by
  intro pins s σ H xs us Q I r h
  obtain ⟨p, ys, rfl, hq, q⟩ := h
  obtain ⟨u, rfl, rx⟩ := vals1 r
  cases rx
  have hn := line63
  rcases hq with hq | hq
  · obtain ⟨its, r', pl, hz⟩ := I.list hq
    have hlen := r'.length
    exact Calls.call_len_list pl.isList (by simp only [List.size_toArray] <;> omega) ⟨.int ys.length, H, I.tok _, ⟨s.toks + 1, by rw [List.size_toArray, hlen]⟩, q⟩
  · obtain ⟨its, r', pl, hz⟩ := I.tuple hq
    have hlen := r'.length
    exact len_tuple pl (by simp only [List.size_toArray] <;> omega) ⟨.int ys.length, H, I.tok _, ⟨s.toks + 1, by rw [List.size_toArray, hlen]⟩, q⟩
theorem CallR.or {f : Value} {r r' : List V → Hp → VK → Prop} (h : CallR X f r) (h' : CallR X f r') : CallR X f (fun xs H Q => r xs H Q ∨ r' xs H Q) := by
  intro pins s σ H xs us Q I rs q
  rcases q with q | q
  · exact h pins s σ H xs us Q I rs q
  · exact h' pins s σ H xs us Q I rs q
theorem call_list_of : CallR X (.type "list") (fun xs H Q => ∃ p ys, xs = [.ref p] ∧ (SqL X.K H p ys ∨ SqT X.K H p ys) ∧ ∀ l, H l = none → Q (.ref l) (upd H l (.lst ys))) := by
  intro pins s σ H xs us Q I r h
  obtain ⟨p, ys, rfl, hq, q⟩ := h
  obtain ⟨u, rfl, rx⟩ := vals1 r
  cases rx
  have fin : ∀ (its : List Value), Vals ys its → ys.length ≤ sizeLine → ∀ (h' : Heap) (c' : Nat), (∀ b o', s.heap.get? b = some o' → h'.get? b = some o') →
      h'.get? s.heap.objs.size = some { cls := .type "list", dict := none, data := .seq its.toArray c', slots := #[] } → EP X pins σ Q (.ref s.heap.objs.size) { s with heap := h' } := fun its r' hz h' c' kp e =>
    ⟨.ref s.heap.objs.size, _, I.laid (t' := s.toks) kp (Nat.le_refl _) (show ObjOk X.prog X.w _ h' _ (.lst ys) from ⟨hz, its, c', r', e⟩), rfl, q _ (I.hok.fresh (Nat.le_refl _))⟩
  rcases hq with hq | hq
  · obtain ⟨its, r', pl, hz⟩ := I.list hq
    have hlen := r'.length
    obtain ⟨o, ho, hc, n, hd⟩ := pl.isList
    exact call_list_seq p (.inl rfl) ho hc hd (fun h' c' kp e => fin its r' hz h' c' kp e) (by simp only [List.size_toArray] <;> omega)
  · obtain ⟨its, r', pl, hz⟩ := I.tuple hq
    have hlen := r'.length
    obtain ⟨o, ho, hc, n, hd⟩ := pl
    exact call_list_seq p (.inr rfl) ho hc hd (fun h' c' kp e => fin its r' hz h' c' kp e) (by simp only [List.size_toArray] <;> omega)
def tyV (K : PySem.W.Frag) (T : String) (x : V) (H : Hp) : Prop := match x with
  | .str _ => T = "str"
  | .int _ => T = "int"
  | .ref p => (T = "list" ∧ ∃ xs, SqL K H p xs) ∨ (T = "tuple" ∧ ∃ o, K.lookup p = some o ∧ o.cls = .type "tuple" ∧ o.dict = none) ∨
      (T = "dict" ∧ ((∃ kvs, H p = some (.dK kvs)) ∨ ∃ kvs, H p = some (.dT kvs))) ∨ (T = "set" ∧ ∃ S n, H p = some (.set S n))
  | _ => False
theorem tyV_is {pins : List (Addr × Obj)} {σ : St} {H : Hp} {s : Shared} {T : String} {x : V} {v : Value} (I : Inv X pins σ H s) (r : RelV x v) (ty : tyV X.K T x H) :
    s.TypeIs v T ∧ ∀ a, v = .ref a → ∃ ob, s.heap.get? a = some ob ∧ ob.dict = none := by
  cases x with
  | str z =>
    obtain ⟨t, rfl⟩ := r
    cases (show T = "str" from ty)
    exact ⟨typeIs_str s z t, fun _ e => nomatch e⟩
  | int i =>
    obtain ⟨t, rfl⟩ := r
    cases (show T = "int" from ty)
    exact ⟨typeIs_int s i t, fun _ e => nomatch e⟩
  | ref p =>
    cases r
    rcases ty with ⟨rfl, xs, hq⟩ | ⟨rfl, o, hk, hc, hd⟩ | ⟨rfl, hk⟩ | ⟨rfl, S, n, hk⟩
    · obtain ⟨its, _, pl, _⟩ := I.list hq
      refine ⟨pl.isList.typeIs, fun a e => ?_⟩
      cases e
      obtain ⟨o, n, e, c, hd, _⟩ := pl
      exact ⟨o, e, hd⟩
    · refine ⟨⟨o, I.kIn p o hk, hc⟩, fun a e => ?_⟩
      cases e
      exact ⟨o, I.kIn _ o hk, hd⟩
    · have z : ∃ o, s.heap.get? p = some o ∧ o.ExactDict := by
        rcases hk with ⟨kvs, hk⟩ | ⟨kvs, hk⟩
        · obtain ⟨_, _, _, _, o, _, _, e, ex, _⟩ := I.hok p _ hk
          exact ⟨o, e, ex⟩
        · obtain ⟨_, _, _, _, o, _, _, e, ex, _⟩ := I.hok p _ hk
          exact ⟨o, e, ex⟩
      obtain ⟨o, e, ex⟩ := z
      refine ⟨⟨o, e, ex.1⟩, fun a e2 => ?_⟩
      cases e2
      exact ⟨o, e, ex.2.1⟩
    · obtain ⟨o, _, _, _, e, ex, _⟩ := I.hok p _ hk
      refine ⟨⟨o, e, ex.1⟩, fun a e2 => ?_⟩
      cases e2
      exact ⟨o, e, ex.2.1⟩
  | _ => exact False.elim ty
def tBM0 (K : PySem.W.Frag) (T : String) (r : V → List V → Hp → VK → Prop) (to : TE) : TE := fun σ H Q => to σ H fun x H1 => tyV K T x H1 ∧ r x [] H1 Q
def tBM (K : PySem.W.Frag) (T : String) (r : V → List V → Hp → VK → Prop) (to : TE) (t : TA) : TE := fun σ H Q => to σ H fun x H1 => tyV K T x H1 ∧ t σ H1 fun xs H2 => r x xs H2 Q
variable {o e : Expr} {es : List Expr} {to : TE} {t : TA} {name : Str} {apos cpos : Pos} {T id : String} {r : V → List V → Hp → VK → Prop}
theorem pe_bm0 (pa : PlainAttrs T) (slot : Slot T name id) (hty : typeOf (.builtin id) = pure (.type "method_descriptor")) (hm : MtR X id r) (ho : PE X o to)
    (hbase : attributeBase o name X.env (eval o X.env) = eval o X.env := by rfl) (hline : (apos.endLine == cpos.line) = true := by rfl) : PE X (.Call (.Attribute o name apos) [] [] cpos) (tBM0 X.K T r to) := by
  intro pins s σ H Q I h
  refine wpAny_Call_method0_late hbase hline (thn (ho pins s σ H _ I h) fun v s1 hq__ => ?_)
  obtain ⟨x, H1, I1, r1, ty, q1⟩ := hq__
  obtain ⟨h1, h2⟩ := tyV_is I1 r1 ty
  exact ⟨T, id, pa, slot, hty, h1, h2, Calls.callWith_builtin rfl (PySem.evalArgs_none (hm pins s1 σ H1 x [] v [] Q I1 r1 .nil q1))⟩
theorem pe_bm (pa : PlainAttrs T) (slot : Slot T name id) (hty : typeOf (.builtin id) = pure (.type "method_descriptor")) (hm : MtR X id r) (ho : PE X o to) (ha : PA X (e :: es) t)
    (hbase : attributeBase o name X.env (eval o X.env) = eval o X.env := by rfl)
    (hfew : ((backTo cpos (starEach (e :: es) X.env)).all (fun x => !x.1) && (backToKw cpos (keywordEach [] X.env)).all (fun x => x.1.isSome)
      && decide ((e :: es).length + ([] : List Keyword).length + (if ([] : List Keyword).isEmpty then 0 else 1) < 30)) = true := by rfl)
    (hline : (apos.endLine == cpos.line) = true := by rfl) (hs : starEach (e :: es) X.env = (false, eval e X.env) :: starEach es X.env := by rfl) (hplain : (backTo cpos (starEach es X.env)).any (·.1) = false := by rfl) :
    PE X (.Call (.Attribute o name apos) (e :: es) [] cpos) (tBM X.K T r to t) := by
  intro pins s σ H Q I h
  refine wpAny_Call_method_late hbase hfew hline rfl (thn (ho pins s σ H _ I h) fun v s1 hq__ => ?_)
  obtain ⟨x, H1, I1, r1, ty, q1⟩ := hq__
  obtain ⟨h1, h2⟩ := tyV_is I1 r1 ty
  refine ⟨T, id, pa, slot, hty, h1, h2, ?_⟩
  have hA := ha cpos pins s1 σ H1 _ I1 q1
  rw [hs] at hA ⊢
  refine Calls.callWith_builtin (by show (false || (backTo cpos (starEach es X.env)).any (·.1)) = false; rw [hplain] <;> rfl) (Calls.evalArgs_plain ?_)
  exact thn hA fun us s2 ⟨vs, H2, I2, r2, q2⟩ => hm pins s2 σ H2 x vs v us Q I2 r1 r2 q2
end
end L2
namespace L2
open PySem PySem.Spec PyProof.Rows
def MtM (X : Cx) (id : String) (r : V → List V → Hp → VK → Prop) : Prop :=
  ∀ (pins : List (Addr × Obj)) (s : Shared) (σ : St) (H : Hp) (x : V) (xs : List V) (v : Value) (us : List Value) (Q : VK), Inv X pins σ H s → RelV x v → Vals xs us → r x xs H Q →
    wpAny (model X.prog X.w) X.A (call (.builtin id) (v :: us)) (EP X pins σ Q) X.xe s
theorem Vals.one : ∀ {x : V} {us : List Value}, Vals [x] us → ∃ u, us = [u] ∧ RelV x u
  | _, _, .cons r .nil => ⟨_, rfl, r⟩
theorem Vals.two : ∀ {x y : V} {us : List Value}, Vals [x, y] us → ∃ u v, us = [u, v] ∧ RelV x u ∧ RelV y v
  | _, _, _, .cons r (.cons q .nil) => ⟨_, _, rfl, r, q⟩
theorem Vals.zero : ∀ {us : List Value}, Vals [] us → us = []
  | _, .nil => rfl
theorem Vals.rep {xs : List V} {us : List Value} (h : Vals xs us) : ∀ k : Nat, Vals (List.replicate k xs).flatten (List.replicate k us).flatten
  | 0 => .nil
  | k + 1 => by
    rw [List.replicate_succ, List.replicate_succ, List.flatten_cons, List.flatten_cons]
    exact Vals.append h (Vals.rep h k)
section
variable {X : Cx} {pins : List (Addr × Obj)} {σ : St} {H : Hp} {s : Shared} {l b : Addr} {xs ys zs : List V}
theorem Inv.lset {its its' : List Value} {n : Nat} {f : Array Value → Array Value} {t' : Nat} (I : Inv X pins σ H s) (hH : H l = some (.lst xs))
    (e : s.heap.get? l = some { cls := .type "list", data := .seq its.toArray n }) (hf : f its.toArray = its'.toArray) (hv : Vals ys its') (hz : ys.length ≤ sizeLine) :
    Inv X pins σ (upd H l (.lst ys)) { s with heap := s.heap.update l (Obj.mapSeq f), toks := t' } := by
  have q := PySem.IsL.update e f
  rw [hf] at q
  refine I.write (x := l) (e := l) (by rw [hH]; exact trivial) (.inl rfl) (fun b' u hb hu => (Heap.get?_update_other s.heap (Obj.mapSeq f) (Ne.symm hb)).trans hu) ⟨_, q⟩ ?_
  exact ⟨hz, its', _, hv, q⟩
theorem Inv.lnew {its : List Value} {t' : Nat} (I : Inv X pins σ H s) (hv : Vals ys its) (hz : ys.length ≤ sizeLine) :
    Inv X pins σ (upd H s.heap.objs.size (.lst ys)) { s with heap := s.heap.push { cls := .type "list", data := .seq its.toArray }, toks := t' } :=
  I.laid (fun _ _ q => Heap.get?_push_of_some _ q) (Nat.le_refl _) ⟨hz, its, 0, hv, Heap.get?_push_size _ rfl⟩
theorem Inv.fresh (I : Inv X pins σ H s) : H s.heap.objs.size = none := I.hok.fresh (Nat.le_refl _)
theorem Inv.lstM (I : Inv X pins σ H s) (hH : H l = some (.lst xs)) : xs.length ≤ sizeLine ∧ ∃ (its : List Value) (n : Nat), Vals xs its ∧ xs.length = its.length ∧ s.heap.get? l = some { cls := .type "list", data := .seq its.toArray n } := by
  obtain ⟨z, its, n, r, e⟩ := I.hok l _ hH
  exact ⟨z, its, n, r, r.length, e⟩
end
section
variable {X : Cx}
def rAppend : V → List V → Hp → VK → Prop := fun x vs H Q => ∃ l xs y, x = .ref l ∧ vs = [y] ∧ H l = some (.lst xs) ∧ xs.length < sizeLine ∧ Q .non (upd H l (.lst (xs ++ [y])))
theorem mt_append : MtM X "list.append" rAppend := by
  intro pins s σ H x vs v us Q I rx rv h
  obtain ⟨l, xs, y, rfl, rfl, hH, hz, q⟩ := h
  cases rx
  obtain ⟨u, rfl, ru⟩ := rv.one
  obtain ⟨z, its, n, r, hl, e⟩ := I.lstM hH
  refine call_meets F.slot_list_append ⟨_, e, rfl⟩ F.entry_list_append (F.args_list_append_2 _ _) (PySem.list_append l its.toArray n u (by rw [List.size_toArray]; omega)) ⟨e, ?_⟩
  refine ⟨.non, _, I.lset (its' := its ++ [u]) hH e (by simp) (r.append (.cons ru .nil)) ?_, rfl, q⟩
  rw [List.length_append, List.length_singleton]
  omega
def rClear : V → List V → Hp → VK → Prop := fun x vs H Q => ∃ l xs, x = .ref l ∧ vs = [] ∧ H l = some (.lst xs) ∧ Q .non (upd H l (.lst []))
theorem mt_clear : MtM X "list.clear" rClear := by
  intro pins s σ H x vs v us Q I rx rv h
  obtain ⟨l, xs, rfl, rfl, hH, q⟩ := h
  cases rx
  have hus := rv.zero
  subst hus
  obtain ⟨z, its, n, r, hl, e⟩ := I.lstM hH
  refine call_meets F.slot_list_clear ⟨_, e, rfl⟩ F.entry_list_clear (F.args_list_clear_1 _) (AutoSeq1.list_clear_list_0 l its.toArray n (by rw [List.size_toArray]; omega)) ⟨e, ?_⟩
  exact ⟨.non, _, I.lset (its' := []) (ys := []) hH e rfl .nil (Nat.zero_le _), rfl, q⟩
def rCat : R2 := fun x y H Q => ∃ l b xs zs, x = .ref l ∧ y = .ref b ∧ H l = some (.lst xs) ∧ H b = some (.lst zs) ∧ xs.length + zs.length ≤ sizeLine ∧ ∀ p, H p = none → Q (.ref p) (upd H p (.lst (xs ++ zs)))
theorem op_cat : OpR X (binaryOp .Add) rCat := by
  intro pins s σ H x y v u Q I rx ry h
  obtain ⟨l, b, xs, zs, rfl, rfl, hH, hB, hz, q⟩ := h
  cases rx
  cases ry
  obtain ⟨z, its, n, r, hl, e⟩ := I.lstM hH
  obtain ⟨z2, its2, n2, r2, hl2, e2⟩ := I.lstM hB
  refine PySem.P.add_list e e2 ?_ (by rw [List.size_toArray, List.size_toArray]; omega)
  have ea : its.toArray ++ its2.toArray = (its ++ its2).toArray := by simp
  rw [ea]
  exact ⟨.ref _, _, I.lnew (t' := s.toks) (r.append r2) (by rw [List.length_append]; omega), rfl, q _ I.fresh⟩
end
section
variable {prog : Program} {w : World} {A : Around} {E : Value → Shared → Prop} {s : Shared}
end
section
variable {X : Cx}
end
end L2
namespace L2
open PySem PySem.Spec PyProof.Rows
section
variable {κ : Type} [DecidableEq κ]
def valV (kvs : List (κ × V)) (k : κ) : Option V := (kvs.find? fun kv => decide (kv.1 = k)).map (·.2)
def putK (kvs : List (κ × V)) (k : κ) (v : V) : List (κ × V) :=
  if (kvs.any fun kv => decide (kv.1 = k)) = true then kvs.map (fun kv => if kv.1 = k then (kv.1, v) else kv) else kvs ++ [(k, v)]
def dropK (kvs : List (κ × V)) (k : κ) : List (κ × V) := kvs.filter fun kv => decide (kv.1 ≠ k)
theorem valV_pos {p : κ × V} {r : List (κ × V)} {k : κ} (e : p.1 = k) : valV (p :: r) k = some p.2 := by simp [valV, List.find?_cons, e]
theorem valV_neg {p : κ × V} {r : List (κ × V)} {k : κ} (e : ¬ p.1 = k) : valV (p :: r) k = valV r k := by simp [valV, List.find?_cons, e]
theorem valV_any (k : κ) : ∀ kvs : List (κ × V), (kvs.any fun kv => decide (kv.1 = k)) = (valV kvs k).isSome
  | [] => rfl
  | p :: r => by
    rw [List.any_cons]
    by_cases e : p.1 = k
    · simp only [valV_pos e, decide_eq_true e, Bool.true_or, Option.isSome_some]
    · rw [valV_neg e, decide_eq_false e, Bool.false_or]; exact valV_any k r
theorem valV_map (k j : κ) (y : V) : ∀ kvs : List (κ × V), valV (kvs.map fun kv => if kv.1 = k then (kv.1, y) else kv) j = (valV kvs j).map fun x => if j = k then y else x
  | [] => rfl
  | p :: r => by
    have ih := valV_map k j y r
    rw [List.map_cons]
    by_cases h : p.1 = k
    · rw [if_pos h]
      by_cases e : p.1 = j
      · rw [valV_pos (p := (p.1, y)) e, valV_pos e, Option.map_some, if_pos (e.symm.trans h)]
      · rw [valV_neg (p := (p.1, y)) e, valV_neg e, ih]
    · rw [if_neg h]
      by_cases e : p.1 = j
      · rw [valV_pos (p := p) e, valV_pos e, Option.map_some, if_neg (fun z => h (e.trans z))]
      · rw [valV_neg (p := p) e, valV_neg e, ih]
theorem valV_snoc (k j : κ) (y : V) : ∀ kvs : List (κ × V), valV kvs k = none → valV (kvs ++ [(k, y)]) j = if j = k then some y else valV kvs j
  | [], _ => by
    by_cases e : k = j
    · rw [if_pos e.symm]; exact valV_pos (p := (k, y)) e
    · rw [if_neg (fun z => e z.symm)]; exact valV_neg (p := (k, y)) e
  | p :: r, hn => by
    rw [List.cons_append]
    have hk : ¬ p.1 = k := fun z => by rw [valV_pos z] at hn; cases hn
    rw [valV_neg hk] at hn
    have ih := valV_snoc k j y r hn
    by_cases e : p.1 = j
    · rw [valV_pos e, valV_pos e, if_neg (fun z => hk (e.trans z))]
    · rw [valV_neg e, valV_neg e, ih]
theorem valV_put (kvs : List (κ × V)) (k j : κ) (y : V) : valV (putK kvs k y) j = if j = k then some y else valV kvs j := by
  unfold putK
  by_cases a : (kvs.any fun kv => decide (kv.1 = k)) = true
  · rw [if_pos a, valV_map]
    rw [valV_any] at a
    by_cases e : j = k
    · obtain ⟨x, hx⟩ := Option.isSome_iff_exists.mp a
      rw [if_pos e, e, hx, Option.map_some, if_pos rfl]
    · rw [if_neg e]
      cases valV kvs j with
      | none => rfl
      | some x => rw [Option.map_some, if_neg e]
  · rw [if_neg a]
    refine valV_snoc k j y kvs ?_
    rw [valV_any] at a
    cases q : valV kvs k with
    | none => rfl
    | some x => rw [q] at a; exact (a rfl).elim
theorem length_putK (kvs : List (κ × V)) (k : κ) (v : V) : (putK kvs k v).length ≤ kvs.length + 1 := by
  unfold putK
  split
  · rw [List.length_map]; omega
  · rw [List.length_append, List.length_cons, List.length_nil]; omega
theorem RelO.isSome_eq {o : Option V} {u : Option Value} (r : RelO o u) : o.isSome = u.isSome := by
  cases o with
  | none => cases u with
    | none => rfl
    | some _ => exact (show False from r).elim
  | some _ => cases u with
    | none => exact (show False from r).elim
    | some _ => rfl
theorem RelO.getD {o : Option V} {u : Option Value} {d : V} {d' : Value} (r : RelO o u) (rd : RelV d d') : RelV (o.getD d) (u.getD d') := by
  cases o with
  | none => cases u with
    | none => exact rd
    | some _ => exact (show False from r).elim
  | some _ => cases u with
    | none => exact (show False from r).elim
    | some _ => exact r
theorem KV.val {kvs : List (κ × V)} {vs : List (κ × Value)} (r : KV kvs vs) (k : κ) : RelO (valV kvs k) (valueAt vs k) := by
  unfold KV at r
  induction r with
  | nil => exact True.intro
  | @cons p q ps qs h t ih =>
    obtain ⟨h1, h2⟩ := h
    by_cases e : p.1 = k
    · have e' : q.1 = k := h1.symm.trans e
      have b : valueAt (q :: qs) k = some q.2 := by simp [valueAt, List.find?_cons, e']
      rw [valV_pos e, b]; exact h2
    · have e' : ¬ q.1 = k := fun z => e (h1.trans z)
      have b : valueAt (q :: qs) k = valueAt qs k := by simp [valueAt, List.find?_cons, e']
      rw [valV_neg e, b]; exact ih
theorem KV.any {kvs : List (κ × V)} {vs : List (κ × Value)} (r : KV kvs vs) (k : κ) : (kvs.any fun kv => decide (kv.1 = k)) = vs.any fun kv => decide (kv.1 = k) := by
  unfold KV at r
  induction r with
  | nil => rfl
  | cons h t ih => rw [List.any_cons, List.any_cons, ih, h.1]
theorem KV.repl {kvs : List (κ × V)} {vs : List (κ × Value)} (r : KV kvs vs) (k : κ) {y : V} {u : Value} (ry : RelV y u) :
    KV (kvs.map fun kv => if kv.1 = k then (kv.1, y) else kv) (vs.map fun kv => if kv.1 = k then (kv.1, u) else kv) := by
  unfold KV at r ⊢
  induction r with
  | nil => exact .nil
  | @cons p q ps qs h t ih =>
    rw [List.map_cons, List.map_cons]
    refine .cons ?_ ih
    obtain ⟨h1, h2⟩ := h
    by_cases e : p.1 = k
    · rw [if_pos e, if_pos (h1.symm.trans e)]; exact ⟨h1, ry⟩
    · rw [if_neg e, if_neg (fun z => e (h1.trans z))]; exact ⟨h1, h2⟩
theorem KV.put {kvs : List (κ × V)} {vs : List (κ × Value)} (r : KV kvs vs) (k : κ) {y : V} {u : Value} (ry : RelV y u) : KV (putK kvs k y) (stored vs k u) := by
  unfold putK stored
  rw [r.any k]
  by_cases e : (vs.any fun kv => decide (kv.1 = k)) = true
  · rw [if_pos e, if_pos e]; exact r.repl k ry
  · rw [if_neg e, if_neg e]; exact Paired.snoc r ⟨rfl, ry⟩
theorem KV.drop {kvs : List (κ × V)} {vs : List (κ × Value)} (r : KV kvs vs) (k : κ) : KV (dropK kvs k) (without vs k) := by
  unfold KV at r ⊢
  unfold dropK without
  induction r with
  | nil => exact .nil
  | @cons p q ps qs h t ih =>
    obtain ⟨h1, h2⟩ := h
    rw [List.filter_cons, List.filter_cons]
    by_cases e : p.1 = k
    · have a : ¬ decide (p.1 ≠ k) = true := by simp [e]
      have b : ¬ decide (q.1 ≠ k) = true := by simp [h1.symm.trans e]
      rw [if_neg a, if_neg b]; exact ih
    · have e' : ¬ q.1 = k := fun z => e (h1.trans z)
      have a : decide (p.1 ≠ k) = true := by simp [e]
      have b : decide (q.1 ≠ k) = true := by simp [e']
      rw [if_pos a, if_pos b]; exact .cons ⟨h1, h2⟩ ih
theorem KV.keys {kvs : List (κ × V)} {vs : List (κ × Value)} (r : KV kvs vs) : kvs.map (·.1) = vs.map (·.1) := by
  unfold KV at r
  induction r with
  | nil => rfl
  | cons h t ih => rw [List.map_cons, List.map_cons, ih, h.1]
theorem KV.length {kvs : List (κ × V)} {vs : List (κ × Value)} (r : KV kvs vs) : kvs.length = vs.length := Paired.length r
end
theorem kV_is {P : Program} {w : World} {k : Key} {u : Value} (r : RelV (kV k) u) : (mixKind P w).is k u = true := by
  cases k with
  | inl i => obtain ⟨t, e⟩ := (show ∃ t, u = Value.int i t from r); subst e; exact mixKind_int P w i t
  | inr x => obtain ⟨t, e⟩ := (show ∃ t, u = Value.str x t from r); subst e; exact mixKind_str P w x t
theorem items_are {P : Program} {w : World} : ∀ {ks : List Key} {us : List Value}, Vals (ks.map kV) us → ItemsAre (mixKind P w) ks us
  | [], _, r => by rw [List.map_nil] at r; cases r; exact .nil
  | k :: ks, _, r => by
    rw [List.map_cons] at r
    cases r with
    | cons h t => exact .cons (kV_is h) (items_are t)
abbrev KT (H : Hp) : List (List Key × V) → List (List Key × Addr × Value) → Prop := Paired fun p q => p.1 = q.1 ∧ H q.2.1 = some (.tup (p.1.map kV)) ∧ RelV p.2 q.2.2
theorem KT.val {H : Hp} {kvs : List (List Key × V)} {xs : List (List Key × Addr × Value)} (r : KT H kvs xs) (k : List Key) : RelO (valV kvs k) ((atKey xs k).map (·.2)) := by
  induction r with
  | nil => exact True.intro
  | @cons p q ps qs h t ih =>
    obtain ⟨h1, _, h2⟩ := h
    by_cases e : p.1 = k
    · have e' : q.1 = k := h1.symm.trans e
      have b : atKey (q :: qs) k = some q.2 := by simp [atKey, List.find?_cons, e']
      rw [valV_pos e, b]; exact h2
    · have e' : ¬ q.1 = k := fun z => e (h1.trans z)
      have b : atKey (q :: qs) k = atKey qs k := by simp [atKey, List.find?_cons, e']
      rw [valV_neg e, b]; exact ih
theorem KT.repl {H : Hp} {kvs : List (List Key × V)} {xs : List (List Key × Addr × Value)} (r : KT H kvs xs) (k : List Key) {y : V} {u : Value} (ry : RelV y u) :
    KT H (kvs.map fun kv => if kv.1 = k then (kv.1, y) else kv) (xs.map (putAt k u)) := by
  induction r with
  | nil => exact .nil
  | @cons p q ps qs h t ih =>
    rw [List.map_cons, List.map_cons]
    refine .cons ?_ ih
    obtain ⟨h1, h2, h3⟩ := h
    unfold putAt
    by_cases e : p.1 = k
    · rw [if_pos e, if_pos (h1.symm.trans e)]; exact ⟨h1, h2, ry⟩
    · rw [if_neg e, if_neg (fun z => e (h1.trans z))]; exact ⟨h1, h2, h3⟩
theorem KT.put {H : Hp} {kvs : List (List Key × V)} {xs : List (List Key × Addr × Value)} (r : KT H kvs xs) (k : List Key) {b : Addr} {y : V} {u : Value} (hb : H b = some (.tup (k.map kV))) (ry : RelV y u) :
    KT H (putK kvs k y) (storedH xs k b u) := by
  have e : (kvs.any fun kv => decide (kv.1 = k)) = (atKey xs k).isSome := by
    rw [valV_any, (r.val k).isSome_eq, Option.isSome_map]
  unfold putK storedH
  rw [e]
  by_cases q : (atKey xs k).isSome = true
  · rw [if_pos q, if_pos q]; exact r.repl k ry
  · rw [if_neg q, if_neg q]; exact Paired.snoc r ⟨rfl, hb, ry⟩
theorem KT.keeps {H H' : Hp} {kvs : List (List Key × V)} {xs : List (List Key × Addr × Value)} (r : KT H kvs xs) (ht : ∀ b ys, H b = some (.tup ys) → H' b = some (.tup ys)) : KT H' kvs xs :=
  Paired.mapP r fun _ _ z => ⟨z.1, ht _ _ z.2.1, z.2.2⟩
section
variable {P : Program} {w : World} {H : Hp} {h : Heap} {a : Addr}
theorem rd_of {u : HO} (ok : HOk P w H h) (e : Rd H a u) : ObjOk P w H h a u := e.ok ok
theorem dk_rd {kvs : List (Key × V)} (ok : HOk P w H h) (e : Rd H a (.dK kvs)) : kvs.length ≤ sizeLine ∧ (a == sysModules) = false ∧ ∃ vs, KV kvs vs ∧ h.DictOf (mixKind P w) a vs :=
  show ObjOk P w H h a (.dK kvs) from rd_of ok e
theorem dk_of {kvs : List (Key × V)} (ok : HOk P w H h) (e : H a = some (.dK kvs)) : kvs.length ≤ sizeLine ∧ (a == sysModules) = false ∧ ∃ vs, KV kvs vs ∧ h.DictOf (mixKind P w) a vs := dk_rd ok (.inl e)
theorem key_of {ks : List Key} (ok : HOk P w H h) (e : H a = some (.tup (ks.map kV))) : (tupleKind (mixKind P w)).is h ks a := by
  obtain ⟨_, its, r, o, h1, h2, n, h3⟩ := (show ObjOk P w H h a (.tup (ks.map kV)) from ok a _ e)
  exact ⟨o, its.toArray, n, h1, h2, h3, by simpa using items_are r⟩
theorem dt_rd {kvs : List (List Key × V)} (ok : HOk P w H h) (e : Rd H a (.dT kvs)) : kvs.length ≤ sizeLine ∧ (a == sysModules) = false ∧
    ∃ xs, KT H kvs xs ∧ h.DictOfH (tupleKind (mixKind P w)) a xs := by
  obtain ⟨z, y, xs, r, o, es, ep, h1, h2, h3, h4, h5⟩ := (show ObjOk P w H h a (.dT kvs) from rd_of ok e)
  refine ⟨z, y, xs, r, o, es, ep, h1, h2, h3, h4, fun x hx => ?_, h5⟩
  have all : ∀ {l : List (List Key × V)} {m : List (List Key × Addr × Value)}, KT H l m → ∀ x ∈ m, (tupleKind (mixKind P w)).is h x.1 x.2.1 := by
    intro l m q
    induction q with
    | nil => intro x hx; exact nomatch hx
    | @cons p q ps qs hq t ih =>
      intro x hx
      rcases List.mem_cons.mp hx with e | hx
      · subst e
        exact key_of ok (by rw [← hq.1]; exact hq.2.1)
      · exact ih x hx
  exact all r x hx
theorem dt_of {kvs : List (List Key × V)} (ok : HOk P w H h) (e : H a = some (.dT kvs)) : kvs.length ≤ sizeLine ∧ (a == sysModules) = false ∧
    ∃ xs, KT H kvs xs ∧ h.DictOfH (tupleKind (mixKind P w)) a xs := dt_rd ok (.inl e)
end
def DGet (H : Hp) (a : Addr) (y : V) (r : Option V) : Prop :=
  (∃ kvs k, Rd H a (.dK kvs) ∧ y = kV k ∧ r = valV kvs k) ∨ ∃ kvs k b, Rd H a (.dT kvs) ∧ y = .ref b ∧ H b = some (.tup (k.map kV)) ∧ r = valV kvs k
def DPut (H : Hp) (a : Addr) (y v : V) (H' : Hp) : Prop :=
  (∃ kvs k, H a = some (.dK kvs) ∧ y = kV k ∧ kvs.length < sizeLine ∧ H' = upd H a (.dK (putK kvs k v))) ∨
  ∃ kvs k b, H a = some (.dT kvs) ∧ y = .ref b ∧ H b = some (.tup (k.map kV)) ∧ kvs.length < sizeLine ∧ H' = upd H a (.dT (putK kvs k v))
theorem DGet.k {H : Hp} {a : Addr} {kvs : List (Key × V)} {k : Key} (e : H a = some (.dK kvs)) : DGet H a (kV k) (valV kvs k) := .inl ⟨kvs, k, .inl e, rfl, rfl⟩
theorem DGet.t {H : Hp} {a b : Addr} {kvs : List (List Key × V)} {k : List Key} (e : H a = some (.dT kvs)) (eb : H b = some (.tup (k.map kV))) : DGet H a (.ref b) (valV kvs k) := .inr ⟨kvs, k, b, .inl e, rfl, eb, rfl⟩
theorem DPut.k {H : Hp} {a : Addr} {kvs : List (Key × V)} {k : Key} {v : V} (e : H a = some (.dK kvs)) (hl : kvs.length < sizeLine) : DPut H a (kV k) v (upd H a (.dK (putK kvs k v))) := .inl ⟨kvs, k, e, rfl, hl, rfl⟩
theorem DPut.t {H : Hp} {a b : Addr} {kvs : List (List Key × V)} {k : List Key} {v : V} (e : H a = some (.dT kvs)) (eb : H b = some (.tup (k.map kV))) (hl : kvs.length < sizeLine) :
    DPut H a (.ref b) v (upd H a (.dT (putK kvs k v))) := .inr ⟨kvs, k, b, e, rfl, eb, hl, rfl⟩
section
variable {X : Cx} {pins : List (Addr × Obj)} {σ : St} {H : Hp} {s : Shared} {a : Addr} {y v : V} {u r : Value} {o : Option V} {A : Around} {E : Value → Shared → Prop}
theorem Inv.big (I : Inv X pins σ H s) : sysModules < s.heap.objs.size := by
  have h : mainGlobals < s.heap.objs.size := (I.mod.glob.keeps I.bk).lt
  exact Nat.lt_trans (by decide) h
theorem d_getItem {Q : Value → Shared → Prop} (hu : A.units + 1 < cLine) (I : Inv X pins σ H s) (g : DGet H a y (some v)) (ry : RelV y u) (h : ∀ w' s', Inv X pins σ H s' → RelV v w' → Q w' s') :
    wpAny (model X.prog X.w) A (getItem (.ref a) u) Q E s := by
  rcases g with ⟨kvs, k, e, ey, l⟩ | ⟨kvs, k, b, e, ey, eb, l⟩
  · subst ey
    obtain ⟨z, hd, vs, rel, dd⟩ := dk_rd I.hok e
    obtain ⟨w', hw, rw'⟩ := RelO.some_of (v := v) (o := valueAt vs k) (by rw [l]; exact rel.val k)
    exact wpAny_getItem_of (kV_is ry) dd.mapOf hw (h w' _ (I.tok _) rw')
  · subst ey
    cases (show u = Value.ref b from ry)
    obtain ⟨z, hd, xs, rel, dd⟩ := dt_rd I.hok e
    obtain ⟨w', hw, rw'⟩ := RelO.some_of (v := v) (o := (atKey xs k).map (·.2)) (by rw [l]; exact rel.val k)
    obtain ⟨p, hp, hp2⟩ := Option.map_eq_some_iff.mp hw
    refine wpAny_getItem_heap (tupleKind_room_in1 hu) (key_of I.hok eb) dd hp ?_
    rw [hp2]
    exact h w' _ (I.tok _) rw'
theorem d_in {Q : Value → Shared → Prop} (hu : A.units + 1 < cLine) (I : Inv X pins σ H s) (g : DGet H a y o) (ry : RelV y u) (h : ∀ s', Inv X pins σ H s' → Q (.bool o.isSome) s') :
    wpAny (model X.prog X.w) A (compareOp .In u (.ref a)) Q E s := by
  rcases g with ⟨kvs, k, e, ey, l⟩ | ⟨kvs, k, b, e, ey, eb, l⟩
  · subst ey
    obtain ⟨z, hd, vs, rel, dd⟩ := dk_rd I.hok e
    refine wpAny_in_of (kV_is ry) hd dd.mapOf ?_
    rw [← (rel.val k).isSome_eq, ← l]
    exact h _ (I.tok _)
  · subst ey
    cases (show u = Value.ref b from ry)
    obtain ⟨z, hd, xs, rel, dd⟩ := dt_rd I.hok e
    refine wpAny_in_heap (tupleKind_room_in1 hu) (key_of I.hok eb) hd dd ?_
    have q := (rel.val k).isSome_eq
    rw [Option.isSome_map] at q
    rw [← q, ← l]
    exact h _ (I.tok _)
theorem d_write {h' : Heap} {t' : Nat} {ob : HO} (I : Inv X pins σ H s) (mu : Mut (H a)) (hs : Heap.SameBut a s.heap h') (he : ∃ q, h'.get? a = some q) (new : ObjOk X.prog X.w (upd H a ob) h' a ob) :
    Inv X pins σ (upd H a ob) { s with heap := h', toks := t' } :=
  I.write (x := a) (e := a) mu (.inl rfl) (fun b q hb z => (hs.2 b hb).trans z) he new
theorem dk_new {P : Program} {w : World} {H' : Hp} {h' : Heap} {kvs : List (Key × V)} {vs : List (Key × Value)} (z : kvs.length ≤ sizeLine) (hd : (a == sysModules) = false) (rel : KV kvs vs) (dd : h'.DictOf (mixKind P w) a vs) :
    ObjOk P w H' h' a (.dK kvs) := ⟨z, hd, vs, rel, dd⟩
theorem d_setItem {H' : Hp} {Q : Unit → Shared → Prop} (hu : A.units + 1 < cLine) (I : Inv X pins σ H s) (g : DPut H a y v H') (ry : RelV y u) (rv : RelV v r) (h : ∀ s', Inv X pins σ H' s' → Q () s') :
    wpAny (model X.prog X.w) A (setItem (.ref a) u r) Q E s := by
  rcases g with ⟨kvs, k, e, ey, l, eH⟩ | ⟨kvs, k, b, e, ey, eb, l, eH⟩
  · subst ey eH
    obtain ⟨z, hd, vs, rel, dd⟩ := dk_of I.hok e
    have hz : vs.length ≤ sizeLine := by rw [← rel.length]; exact z
    have hl : (putK kvs k v).length ≤ sizeLine := by have := length_putK kvs k v; omega
    refine wpAny_setItem_pairs (hsz := hz) (kV_is ry) dd fun h' dd' hs => h _ ?_
    have he : ∃ q, h'.get? a = some q := let ⟨q, _, _, hq, _⟩ := dd'; ⟨q, hq⟩
    exact d_write I (by rw [e]; exact True.intro) hs he (dk_new hl hd (rel.put k rv) dd')
  · subst ey eH
    cases (show u = Value.ref b from ry)
    obtain ⟨z, hd, xs, rel, dd⟩ := dt_of I.hok e
    have hz : xs.length ≤ sizeLine := by rw [← Paired.length rel]; exact z
    have hl : (putK kvs k v).length ≤ sizeLine := by have := length_putK kvs k v; omega
    refine wpAny_setItem_heap (hsz := hz) (tupleKind_room_in1 hu) (key_of I.hok eb) dd fun h' dd' hs => h _ ?_
    obtain ⟨q, es, ep, hq, h2, h3, h4, _, h5⟩ := dd'
    refine d_write I (by rw [e]; exact True.intro) hs ⟨q, hq⟩ ⟨hl, hd, _, (rel.put k eb rv).keeps fun c ys ec => ?_, q, es, ep, hq, h2, h3, h4, h5⟩
    rw [upd_ne (ne_of ec e (fun z => nomatch z))]
    exact ec
end
section
variable {X : Cx} {pins : List (Addr × Obj)} {σ : St} {H : Hp} {s : Shared} {a : Addr} {kvs : List (Key × V)} {k : Key} {u : Value} {A : Around} {E : Value → Shared → Prop}
end
def NoSl (i : Expr) : Prop := ∀ ov iv, subscripted i false ov iv = operate [ov, iv] (getItem ov iv)
theorem subD_of {prog : Program} {w : World} {A : Around} {E : Value → Shared → Prop} {s : Shared} {env : Env} {value slice : Expr} {pos : Pos} {T id : String} {Q : Value → Shared → Prop}
    (hl : typeLookup (.type T) "__getitem__" = pure (some (.builtin id))) (hs : NoSl slice)
    (h : wpAny (model prog w) A (eval value env) (fun o s₁ => wpAny (model prog w) A (eval slice env) (fun i s₂ => s₂.TypeIs o T ∧ wpAny (model prog w) A (getItem o i) Q E s₂) E s₁) E s) :
    wpAny (model prog w) A (eval (.Subscript value slice pos) env) Q E s := by
  refine Subscript_ (wpAny_mono h (fun o s₁ h₁ => wpAny_mono h₁ (fun i s₂ h₂ => ?_) fun _ _ x => x) fun _ _ x => x)
  obtain ⟨hT, h₂⟩ := h₂
  unfold subscriptTail
  refine wpAny_bind ?_
  rw [getitemInPython_of_ne hT.not_modules]
  refine wpAny_bind (wpAny_specialOf hT hl ?_)
  have fin : wpAny (model prog w) A (subscripted slice false o i) (fun r s₃ => wpAny (model prog w) A (letTemporaryGo value o r >>= fun _ => pure r) Q E s₃) E s₂ := by
    rw [hs o i]
    exact wpAny_operating (wpAny_mono h₂ (fun r s₃ h₃ => wpAny_bind (wpAny_letTemporaryGo (wpAny_pure h₃))) fun _ _ x => x)
  first
    | exact wpAny_pure (wpAny_bind fin)
    | exact wpAny_bind (wpAny_pure (wpAny_bind fin))
    | exact wpAny_bind fin
theorem dict_typeIs {X : Cx} {pins : List (Addr × Obj)} {σ : St} {H : Hp} {s : Shared} {a : Addr} {y : V} {o : Option V} (I : Inv X pins σ H s) (g : DGet H a y o) : s.TypeIs (.ref a) "dict" := by
  rcases g with ⟨kvs, k, e, _, _⟩ | ⟨kvs, k, b, e, _, _, _⟩
  · obtain ⟨_, _, vs, _, dd⟩ := dk_rd I.hok e
    exact dd.typeIs
  · obtain ⟨_, _, xs, _, dd⟩ := dt_rd I.hok e
    exact dd.typeIs
def tDGet (td ty : TE) : TE := fun σ H Q => td σ H fun x H1 => ty σ H1 fun y H2 => ∃ a v, x = .ref a ∧ DGet H2 a y (some v) ∧ Q v H2
def tDIn (ty td : TE) : TE := fun σ H Q => ty σ H fun y H1 => td σ H1 fun x H2 => ∃ a o, x = .ref a ∧ DGet H2 a y o ∧ Q (.bl o.isSome) H2
def sDPut (td ty tv : TE) : TS := fun D σ H => tv σ H fun v H1 => td σ H1 fun x H2 => ty σ H2 fun y H3 => ∃ a H4, x = .ref a ∧ DPut H3 a y v H4 ∧ D.nx σ H4
section
variable {X : Cx} {o i e value : Expr} {pos pos' tpos : Pos} {td ty tv : TE}
theorem pe_dget (hu : X.A.units + 1 < cLine) (ho : PE X o td) (hi : PE X i ty) (hs : NoSl i) : PE X (.Subscript o i pos) (tDGet td ty) := by
  intro pins s σ H Q I h
  refine subD_of PySem.F.slot_dict_getitem.lookup hs (thn (ho pins s σ H _ I h) fun u s1 ⟨x, H1, I1, rx, q1⟩ => thn (hi pins s1 σ H1 _ I1 q1) fun iv s2 hq__ => ?_)
  obtain ⟨y, H2, I2, ry, a, v, ex, g, q2⟩ := hq__
  subst ex
  obtain rfl : u = Value.ref a := rx
  exact ⟨dict_typeIs I2 g, d_getItem hu I2 g ry fun w' s3 I3 rw' => ⟨v, H2, I3, rw', q2⟩⟩
theorem pc_din (hu : X.A.units + 1 < cLine) (hi : PE X i ty) (ho : PE X o td) : PC X .In i o (tDIn ty td) := by
  intro pins s σ H Q I h
  refine thn (hi pins s σ H _ I h) fun iv s1 ⟨y, H1, I1, ry, q1⟩ => thn (ho pins s1 σ H1 _ I1 q1) fun u s2 hq__ => ?_
  obtain ⟨x, H2, I2, rx, a, ov, ex, g, q2⟩ := hq__
  subst ex
  obtain rfl : u = Value.ref a := rx
  exact d_in hu I2 g ry fun s3 I3 => ⟨.bl ov.isSome, H2, I3, rfl, q2⟩
theorem ps_dput (hu : X.A.units + 1 < cLine) (ho : PE X o td) (hi : PE X i ty) (hv : PE X value tv) (hs : swapsWith value (some (.Subscript o i pos')) pos.line X.env = pure false) :
    PS X (.Assign [.Subscript o i pos'] value pos) (sDPut td ty tv) := by
  intro pins s σ H D I h
  refine wpAny_Assign_Subscript (thn (hv pins s σ H _ I h) fun r s1 ⟨v, H1, I1, rv, q1⟩ => thn (ho pins s1 σ H1 _ I1 q1) fun u s2 ⟨x, H2, I2, rx, q2⟩ => thn (hi pins s2 σ H2 _ I2 q2) fun iv s3 hq__ => ?_) hs
  obtain ⟨y, H3, I3, ry, a, H4, ex, g, q3⟩ := hq__
  subst ex
  obtain rfl : u = Value.ref a := rx
  exact d_setItem hu I3 g ry rv fun s4 I4 => ⟨σ, H4, I4, q3⟩
end
theorem dt_empty {P : Program} {w : World} {H : Hp} (h : Heap) (hb : sysModules < h.objs.size) : ObjOk P w H (h.push { cls := .type "dict", data := .dict #[] }) h.objs.size (.dT []) :=
  ⟨Nat.zero_le _, beq_eq_false_iff_ne.mpr (Ne.symm (Nat.ne_of_lt hb)), [], .nil, _, #[], 0, Heap.get?_push_size _ rfl, ⟨rfl, rfl, rfl⟩, rfl, rfl, List.nodup_nil⟩
def tDNewT : TE := fun _ H Q => ∀ p, H p = none → Q (.ref p) (upd H p (.dT []))
section
variable {X : Cx} {pos : Pos}
theorem pe_dnewT : PE X (.Dict [] [] pos) tDNewT := fun pins s σ H Q I h =>
  wpAny_Dict_empty ⟨.ref s.heap.objs.size, _, I.laid (a := s.heap.objs.size) (o := .dT []) (t' := s.toks) (fun _ _ q => Heap.get?_push_of_some _ q) (Nat.le_refl _) (dt_empty s.heap I.big), rfl, h _ (I.hok.fresh (Nat.le_refl _))⟩
end
structure M1 (X : Cx) (o : Expr) (m : Str) (apos : Pos) (e : Expr) (cpos : Pos) : Prop where
  base : attributeBase o m X.env (eval o X.env) = eval o X.env
  few : ((backTo cpos (starEach [e] X.env)).all (fun x => !x.1) && (backToKw cpos (keywordEach [] X.env)).all (fun x => x.1.isSome)
    && decide (([e] : List Expr).length + ([] : List Keyword).length + (if ([] : List Keyword).isEmpty then 0 else 1) < 30)) = true
  line : (apos.endLine == cpos.line) = true
  trees : backTo cpos (starEach [e] X.env) = [(false, eval e X.env)]
structure M2 (X : Cx) (o : Expr) (m : Str) (apos : Pos) (e f : Expr) (cpos : Pos) : Prop where
  base : attributeBase o m X.env (eval o X.env) = eval o X.env
  few : ((backTo cpos (starEach [e, f] X.env)).all (fun x => !x.1) && (backToKw cpos (keywordEach [] X.env)).all (fun x => x.1.isSome)
    && decide (([e, f] : List Expr).length + ([] : List Keyword).length + (if ([] : List Keyword).isEmpty then 0 else 1) < 30)) = true
  line : (apos.endLine == cpos.line) = true
  trees : backTo cpos (starEach [e, f] X.env) = [(false, eval e X.env), (false, eval f X.env)]
def IsD (H : Hp) (a : Addr) : Prop := (∃ kvs, Rd H a (.dK kvs)) ∨ ∃ kvs, Rd H a (.dT kvs)
theorem isD_at {X : Cx} {pins : List (Addr × Obj)} {σ : St} {H : Hp} {s : Shared} {a : Addr} (I : Inv X pins σ H s) (d : IsD H a) :
    s.TypeIs (.ref a) "dict" ∧ (∀ b, Value.ref a = .ref b → ∃ ob, s.heap.get? b = some ob ∧ ob.dict = none) ∧ (a == sysModules) = false := by
  rcases d with ⟨kvs, e⟩ | ⟨kvs, e⟩
  · obtain ⟨_, hd, vs, _, dd⟩ := dk_rd I.hok e
    refine ⟨dd.typeIs, fun b q => ?_, hd⟩
    cases q
    obtain ⟨ob, _, _, h1, h2, _⟩ := dd
    exact ⟨ob, h1, h2.2.1⟩
  · obtain ⟨_, hd, xs, _, dd⟩ := dt_rd I.hok e
    refine ⟨dd.typeIs, fun b q => ?_, hd⟩
    cases q
    obtain ⟨ob, _, _, h1, h2, _⟩ := dd
    exact ⟨ob, h1, h2.2.1⟩
section
variable {X : Cx} {pins : List (Addr × Obj)} {σ : St} {H : Hp} {s : Shared} {a : Addr} {y d : V} {u r : Value} {o : Option V} {A : Around} {E : Value → Shared → Prop}
theorem d_get2 {Q : Value → Shared → Prop} (hu : A.units + 1 < cLine) (I : Inv X pins σ H s) (g : DGet H a y o) (ry : RelV y u) (rd : RelV d r) (h : ∀ w' s', Inv X pins σ H s' → RelV (o.getD d) w' → Q w' s') :
    wpAny (model X.prog X.w) A (call (.builtin "dict.get") [.ref a, u, r]) Q E s := by
  rcases g with ⟨kvs, k, e, ey, l⟩ | ⟨kvs, k, b, e, ey, eb, l⟩
  · subst ey
    obtain ⟨z, hd, vs, rel, dd⟩ := dk_rd I.hok e
    refine call_meetsIn PySem.F.slot_dict_get dd.typeIs PySem.F.entry_dict_get (PySem.F.args_dict_get_3 _ _ _) (meets_dict_get_default (mixKind X.prog X.w) a (kV_is ry) hd r) ⟨_, dd.mapOf, h _ _ (I.tok _) ?_⟩
    rw [l]
    exact (rel.val k).getD rd
  · subst ey
    cases (show u = Value.ref b from ry)
    obtain ⟨z, hd, xs, rel, dd⟩ := dt_rd I.hok e
    refine call_meetsIn PySem.F.slot_dict_get dd.typeIs PySem.F.entry_dict_get (PySem.F.args_dict_get_3 _ _ _) (meetsH_dict_get_default (tupleKind (mixKind X.prog X.w)) a b hd r) ⟨tupleKind_room_in1 hu, k, xs, key_of I.hok eb, dd, h _ _ (I.tok _) ?_⟩
    rw [l]
    exact (rel.val k).getD rd
end
def tDGet2 (td ty tx : TE) : TE := fun σ H Q => td σ H fun x H1 => ∃ a, x = .ref a ∧ IsD H1 a ∧ ty σ H1 fun y H2 => tx σ H2 fun z H3 => ∃ o, DGet H3 a y o ∧ Q (o.getD z) H3
section
variable {X : Cx} {o e f : Expr} {apos cpos : Pos} {td ty tx : TE}
theorem pe_dget2 (hu : X.A.units + 1 < cLine) (ho : PE X o td) (he : PE X e ty) (hf : PE X f tx) (m : M2 X o "get" apos e f cpos) : PE X (.Call (.Attribute o "get" apos) [e, f] [] cpos) (tDGet2 td ty tx) := by
  intro pins s σ H Q I h
  refine wpAny_Call_method m.base m.few m.line PySem.F.plainAttrs_dict PySem.F.slot_dict_get PySem.F.type_dict_get (thn (ho pins s σ H _ I h) fun u s1 hq__ => ?_)
  obtain ⟨x, H1, I1, rx, a, ex, d, q1⟩ := hq__
  subst ex
  obtain rfl : u = Value.ref a := rx
  obtain ⟨t1, t2, _⟩ := isD_at I1 d
  refine ⟨t1, t2, ?_⟩
  rw [m.trees]
  refine Calls.callWith_builtin rfl (Calls.evalArgs_plain (Calls.spliced_cons (thn (he pins s1 σ H1 _ I1 q1) fun iv s2 ⟨y, H2, I2, ry, q2⟩ =>
    Calls.spliced_cons (thn (hf pins s2 σ H2 _ I2 q2) fun fv s3 ⟨z, H3, I3, rz, ov, g, q3⟩ => Calls.spliced_nil ?_))))
  exact d_get2 hu I3 g ry rz fun w' s4 I4 rw' => ⟨_, H3, I4, rw', q3⟩
end
section
variable {X : Cx} {pins : List (Addr × Obj)} {σ : St} {H : Hp} {s : Shared} {a : Addr} {kvs : List (Key × V)} {A : Around} {E : Value → Shared → Prop}
end
section
variable {X : Cx} {pins : List (Addr × Obj)} {σ : St} {H : Hp} {s : Shared} {a : Addr} {y : V} {u : Value} {A : Around} {E : Value → Shared → Prop}
end
end L2
namespace Att
open PySem PySem.W PySem.Calls PyProof.Rows
theorem ints_of_wellAll {P : Params} {h : Heap} : ∀ (ns : List Int) (vs : List Value), WellAll P h vs (ns.map WData.int) → IntsAre vs ns := by
  intro ns
  induction ns with
  | nil =>
    intro vs w
    rw [List.map_nil] at w
    cases w
    exact .nil
  | cons n ns ih =>
    intro vs w
    rw [List.map_cons] at w
    cases w with
    | cons a b =>
      cases a
      exact .cons _ _ (ih _ b)
theorem script_of {l : OpenLaw} {n : Nat} (hn : l.most = some n) {P : Params} {h : Heap} {args : List WData} {vals : List Value}
    (hpre : l.row.toRowW.claim.pre args = true) (hwl : WellAll P h vals args) :
    ∃ a vs ns, vals = [Value.ref a] ∧ args = [WData.list (ns.map WData.int)] ∧ h.get? a = some { cls := .type "list", data := .seq vs.toArray } ∧ IntsAre vs ns ∧ ns.length ≤ n := by
  have hsh : WShape.hasAll [] args [.list .int] = true := (pre_splitW hpre).1
  have hc : l.pre.holds [] { args := args } = true := (pre_splitW hpre).2
  obtain ⟨d, r, rfl, h1, h2⟩ := hasAllW_cons hsh
  obtain rfl := hasAllW_nil h2
  obtain ⟨xs, rfl, h3⟩ := hasW_list h1
  obtain ⟨ns, rfl⟩ := items_int h3
  have hlen : ns.length ≤ n := by
    unfold OpenLaw.pre at hc
    have h4 : (WTm.not (.lt (.lit (.int (n : Int))) (.len (.arg 0)))).holds [] { args := [.list (ns.map .int)] } = true := by
      have h4 := (holds_andW hc).1
      rw [hn] at h4
      exact h4
    have h5 := condW_of h4 (w_not (w_lt w_lit (w_len_list (w_arg rfl))))
    rw [List.length_map] at h5
    refine Nat.le_of_not_lt fun q => ?_
    have q' : (n : Int) < ((ns.length : Nat) : Int) := by omega
    first
      | (rw [decide_eq_true q'] at h5; exact absurd h5 (by decide))
      | (simp at h5; omega)
  cases hwl with
  | cons w1 w2 =>
    cases w2
    cases w1 with
    | list ho hall => exact ⟨_, _, ns, rfl, rfl, ho, ints_of_wellAll ns _ hall, hlen⟩
theorem post_true (l : OpenLaw) (args : List WData) : l.row.toRowW.claim.post args (.bool true) args = true :=
  postW_of (r := l.row.toRowW) (X := (true == true))
    (show WShape.has [] (.bool true) .bool = true by first | rfl | decide | simp [WShape.has, WShape.arms, WShape.armsAll])
    (show (WTm.eq .res (.lit (.bool true))).value [] { args := args, res := some (.bool true), after := args } = some (.bool (true == true)) from w_eq_bool (w_res rfl) w_lit) rfl
theorem attach_call {l : OpenLaw} {n : Nat} {q : Program} {loose : List Str} {XP : (Str → Option Value) → Heap → Prop} {YP : World → Heap → Prop} {d : DefRec}
    (hn : l.most = some n) (hdf : d.params.defaults = [])
    (call : ∀ (w : World) (s₀ s₁ : Shared) (mg mb : Str → Option Value) (fa : Addr) (o : Obj) (pm cd doc : Value) (a : Addr) (vs : List Value) (ns : List Int),
      Ground q loose [] XP w s₀ mg mb s₁.heap → YP w s₁.heap →
      s₁.heap.get? fa = some o → o.data = .func (docDef d.name d.params d.body d.scope pm cd doc) → s₁.heap.CodeRec cd d.name → mg d.name = some (.ref fa) →
      s₁.heap.get? a = some { cls := .type "list", data := .seq vs.toArray } → IntsAre vs ns → ns.length ≤ n → s₁.gens = #[] →
      codeAny (model l.prog w) callerA (.call (.ref fa) ⟨[.ref a], []⟩) (fun r s' => r = .ok (.ret (.bool true)) ∧ OldK s₁.heap s'.heap ∧ s'.os = s₁.os ∧ AllBare s'.gens) s₁) :
    WalkO q loose XP YP l.row.toRowW d [] (fun f vs => PySem.call f vs) := by
  intro w s₀ s₁ mg mb G Y fa o pm cd doc dV kV ho hd hcd hD hmg hg args vals as hpre hlay hrd hwl hlo
  obtain rfl : dV = .none := Dflts.none hD hdf
  obtain rfl : kV = .none := Dflts.noKw hD
  obtain ⟨a, vs, ns, rfl, rfl, hobj, hints, hlen⟩ := script_of hn hpre hwl
  refine enter_call (codeAny_mono (call w s₀ s₁ mg mb fa o pm cd doc a vs ns G Y ho (fd_plain hd) hcd hmg hobj hints hlen hg) fun r s' hq => ?_)
  obtain ⟨rfl, h2, h3, h4⟩ := hq
  exact ⟨.inl ⟨.bool true, .bool true, [], rfl, fun _ => rfl, .bool true, post_true l _, fun _ => ⟨List.Pairwise.nil, fun _ hm => (nomatch hm)⟩⟩, h2, h3, h4⟩
section
variable {prog : Program} {w : World} {A : Around} {E : Value → Shared → Prop} {s : Shared} {K : Frag}
def ledger (h : Heap) (L d : Addr) : List (Addr × Obj) := (List.range h.objs.size).filterMap fun a => if a = L ∨ a = d then none else (h.get? a).map fun o => (a, o)
end
end Att
namespace L2
open PySem PySem.Spec PyProof.Rows
theorem vals_ints : ∀ {vs : List Value} {ns : List Int}, IntsAre vs ns → Vals (ns.map V.int) vs
  | _, _, .nil => .nil
  | _, _, .cons n t h => .cons ⟨t, rfl⟩ (vals_ints h)
def Only (H : Hp) : Prop := ∀ b, H b = none ∨ ∃ o xs, H b = some (.frz o (.lst xs))
theorem law_call {P : Program} {w : World} {K : PySem.W.Frag} {mg mb : Str → Option Value} {CX : CXT} {k : Nat} {fa a : Addr} {fd : FuncData} {x : Str} {sp : Sp} {s₁ : Shared} {vs : List Value} {ns : List Int}
    (KX : K.In s₁.heap) (hns : s₁.heap.Ns mainGlobals mg) (hb : s₁.heap.Ns builtinsNs mb) (hbb : ∀ x : Str, x ≠ "__name__" → mb x = bootBuiltins x) (hlim : s₁.heap.NoLimit) (hg : s₁.gens = #[])
    (ha : s₁.heap.get? a = some { cls := .type "list", data := .seq vs.toArray }) (hi : IntsAre vs ns) (hl : ns.length ≤ sizeLine) (hr : Room k callerA)
    (F : ∀ base : Heap, K.In base → base.Ns mainGlobals mg → FnOk P w K mg base CX k fa fd [x] sp) (hbind : ∀ (s : Shared) (u : Value), BindsTo s fd ⟨[u], []⟩ [(x, u)])
    (hsp : ∀ H : Hp, Only H → SqL K H a (ns.map V.int) → sp [.ref a] H (fun v _ => v = .bl true) fun _ _ _ => False)
    (hCX : ∀ H e s', CX [] H s₁ (fun _ _ _ => False) e s' → False) :
    codeAny (model P w) callerA (.call (.ref fa) ⟨[.ref a], []⟩) (fun r s' => r = .ok (.ret (.bool true)) ∧ OldK s₁.heap s'.heap ∧ s'.os = s₁.os ∧ AllBare s'.gens) s₁ := by
  have rv := vals_ints hi
  have lenV := hi.length
  have core : ∀ H : Hp, Only H → SqL K H a (ns.map V.int) → HOk P w H s₁.heap → (∀ b, H b ≠ none → b = a) → (H a ≠ none → K.lookup a = none) →
      codeAny (model P w) callerA (.call (.ref fa) ⟨[.ref a], []⟩) (fun r s' => r = .ok (.ret (.bool true)) ∧ OldK s₁.heap s'.heap ∧ s'.os = s₁.os ∧ AllBare s'.gens) s₁ := by
    intro H hO hS hok hA hK
    have base_of : ∀ {b : Addr} {o : Obj}, s₁.heap.get? b = some o → H b = none → (hidT s₁.heap H).get? b = some o := fun e n => hidT_get e n
    have noA : ∀ {b : Addr} {o : Obj} {es : Array DictEntry} {ep : Nat}, s₁.heap.get? b = some o → o.data = .dict es ep → H b = none := fun {b o es ep} e d => by
      cases q : H b with
      | none => rfl
      | some u =>
        have e' : b = a := hA b (by rw [q]; simp)
        subst e'
        rw [ha] at e; cases e
        have d' : Data.seq vs.toArray _ = Data.dict es ep := d
        cases d'
    have nsK : ∀ {b : Addr} {m : Str → Option Value}, s₁.heap.Ns b m → (hidT s₁.heap H).Ns b m := fun {b m} ⟨o, es, ep, e, d, r⟩ => ⟨o, es, ep, base_of e (noA e d), d, r⟩
    have hKb : K.In (hidT s₁.heap H) := fun b o e => base_of (KX b o e) (by
      cases q : H b with
      | none => rfl
      | some u =>
        have e' : b = a := hA b (by rw [q]; simp)
        subst e'
        rw [hK (by rw [q]; simp)] at e; cases e)
    have hM : Mod K mg (hidT s₁.heap H) := ⟨hKb, nsK hns, ⟨mb, nsK hb, hbb⟩, let ⟨mc, h1, h2⟩ := hlim; ⟨mc, nsK h1, h2⟩⟩
    have e0 : Env0 P w K mg (hidT s₁.heap H) callerA [] s₁ H := ⟨rfl, hM, fun b o e => of_hidT e, Nat.le_of_eq (hidT_size _ _), trivial, fun b hb => absurd (show b ∈ ([] : List Addr) from hb) (by simp), hok, .of_eq hg⟩
    refine codeAny_mono ((F _ hKb (nsK hns)).run callerA [] s₁ H ⟨[.ref a], []⟩ [.ref a] [.ref a] _ _ hr e0 (hbind s₁ (.ref a)) (.cons rfl .nil) (hsp H hO hS)) fun r s' h => ?_
    cases r with
    | error e => exact (hCX H e s' h).elim
    | ok fl =>
      cases fl with
      | next => exact False.elim h
      | brk => exact False.elim h
      | cont => exact False.elim h
      | ret u =>
        obtain ⟨v, H', os, bare, un, hok', r', q⟩ := h
        have q' : v = .bl true := q
        subst q'
        obtain rfl : u = Value.bool true := r'
        refine ⟨rfl, OldK.of_keep fun b o e => ?_, os, bare⟩
        cases q : H b with
        | none => exact un.keep b o e q (by intro z; exact absurd (show b ∈ ([] : List Addr) from z) (by simp)) (by simp)
        | some u =>
          rcases hO b with z | ⟨ob, xs, z⟩
          · rw [q] at z; cases z
          · have z2 := un.frzs b ob _ z
            obtain ⟨e1, _⟩ := hok b _ z
            obtain ⟨e2, _⟩ := hok' b _ z2
            rw [e] at e1; cases e1
            exact e2
  cases hk : K.lookup a with
  | some o =>
    have e := KX a o hk
    rw [ha] at e
    cases e
    refine core (fun _ => none) (fun _ => .inl rfl) (.inr ⟨_, vs.toArray, _, hk, rfl, rfl, rfl, by rw [List.size_toArray, lenV]; exact hl, by simpa using rv⟩) (fun b u z => by have z' : (none : Option HO) = some u := z; cases z') (fun b z => absurd rfl z) fun z => absurd rfl z
  | none =>
    refine core (fun b => if b = a then some (.frz { cls := .type "list", data := .seq vs.toArray } (.lst (ns.map V.int))) else none) (fun b => ?_) (.inl (.inr ⟨{ cls := .type "list", data := .seq vs.toArray }, if_pos rfl⟩)) (fun b u z => ?_) (fun b z => ?_) fun _ => hk
    · by_cases hb : b = a
      · exact .inr ⟨_, _, if_pos hb⟩
      · exact .inl (if_neg hb)
    · by_cases hb : b = a
      · have z' := (if_pos hb).symm.trans z
        cases z'
        subst hb
        exact ⟨ha, by rw [List.length_map]; exact hl, vs, _, rv, ha⟩
      · have z' := (if_neg hb).symm.trans z
        cases z'
    · by_cases hb : b = a
      · exact hb
      · exact absurd (if_neg hb) z
end L2
namespace L2
open PySem PySem.Spec PyProof.Rows
abbrev KOf {K : PySem.W.Frag} {h : Heap} (_ : K.In h) : PySem.W.Frag := K
theorem walk_of {l : PySem.W.OpenLaw} {n k : Nat} {q : Program} {loose : List Str} {XP : (Str → Option Value) → Heap → Prop} {YP : World → Heap → Prop} {d : DefRec} {K : Params → PySem.W.Frag} {CX : World → CXT} {sp : World → Sp} {x : Str}
    (hn : l.most = some n) (hn2 : n ≤ sizeLine) (hdf : d.params.defaults = []) (hr : Room k callerA)
    (hY : ∀ (w : World) (h : Heap), YP w h → (K w.params).In h)
    (F : ∀ (w : World) (mg : Str → Option Value) (fa : Addr) (h : Heap), (K w.params).In h → h.Ns mainGlobals mg → mg d.name = some (.ref fa) →
      ∃ fd : FuncData, (∀ (s : Shared) (u : Value), BindsTo s fd ⟨[u], []⟩ [(x, u)]) ∧
        ∀ base : Heap, (K w.params).In base → base.Ns mainGlobals mg → FnOk l.prog w (K w.params) mg base (CX w) k fa fd [x] (sp w))
    (hsp : ∀ (w : World) (H : Hp) (a : Addr) (ns : List Int), ns.length ≤ n → Only H → SqL (K w.params) H a (ns.map V.int) → sp w [.ref a] H (fun v _ => v = .bl true) fun _ _ _ => False)
    (hCX : ∀ (w : World) (H : Hp) (s : Shared) (e : Value) (s' : Shared), CX w [] H s (fun _ _ _ => False) e s' → False) :
    PySem.W.WalkO q loose XP YP l.row.toRowW d [] (fun f vs => PySem.call f vs) := by
  refine Att.attach_call hn hdf fun w s₀ s₁ mg mb fa o pm cd doc a vs ns G Y ho hd hcd hmg hobj hints hlen hg => ?_
  have KX := hY w _ Y
  obtain ⟨fd, hb, hF⟩ := F w mg fa _ KX G.T.g hmg
  exact law_call KX G.T.g G.T.b G.T.builtins G.T.nolimit hg hobj hints (Nat.le_trans hlen hn2) hr hF hb (fun H hO hS => hsp w H a ns hlen hO hS) fun H e s' => hCX w H s₁ e s'
end L2
namespace L2
open PySem PySem.Spec PyProof.Rows
def inClass (s : Stmt) (j : Nat) : Stmt := match s with
  | .ClassDef _ _ _ body _ _ _ _ _ _ _ => body.getD j (.Pass ⟨0, 0, 0, 0⟩)
  | _ => .Pass ⟨0, 0, 0, 0⟩
def defArgs (s : Stmt) : Arguments := match s with
  | .FunctionDef _ a _ _ _ _ _ _ _ _ => a
  | _ => { posonlyargs := [], args := [], vararg := none, kwonlyargs := [], kw_defaults := [], kwarg := none, defaults := [] }
def defBody (s : Stmt) : List Stmt := match s with
  | .FunctionDef _ _ b _ _ _ _ _ _ _ => b
  | _ => []
def defScope (s : Stmt) : Scope := match s with
  | .FunctionDef _ _ _ _ _ _ sc _ _ _ => sc
  | _ => { kind := .function, names := [], isGenerator := false, isCoroutine := false }
abbrev CX0 : CXT := fun _ _ _ _ _ _ => False
abbrev E0 : XK := fun _ _ _ => False
theorem pass0 {X : Cx} : Passes CX0 X E0 := fun _ _ _ _ _ _ _ h => h.elim
structure Fun (K : PySem.W.Frag) (x qual : Str) (st : Stmt) (f : Addr) (fd : FuncData) : Prop where
  ex : ∃ (oc : Value) (od : Option Addr) (kV doc pm : Value) (an : Option Addr) (cdv ct : Value) (osl : Array (Option Value)),
    fd = PySem.W.fnOf x qual (defArgs st) (defBody st) (defScope st) .none kV doc pm an cdv ct ∧ K.lookup f = some ⟨oc, od, .func fd, osl⟩ ∧ PySem.W.codeIn K cdv qual = true
  kp : PySem.W.keepIn K (.ref f) = true
section
variable {P : Program} {w : World} {K : PySem.W.Frag} {mg : Str → Option Value} {base : Heap}
theorem Fun.ok {x qual : Str} {st : Stmt} {f : Addr} {fd : FuncData} {N ps : List Str} {k : Nat} {sp : Sp} (F : Fun K x qual st f fd) (S : FnScope N ps (defScope st)) (len : ∀ vs H Q E, sp vs H Q E → vs.length = ps.length)
    (hbody : ∀ (cdv : Value) (A : Around) (outer : List Env) (s : Shared) (H : Hp) (vs : List V) (Q : VK) (E : XK), Room k (A.deeper (envOfC qual (defScope st) s.heap.objs.size f cdv)) → sp vs H Q E →
      ∃ t, PSs (cxOf CX0 P w K mg base N qual (defScope st) f cdv A outer s H E).nox (defBody st) t ∧ t { nx := fun _ H' => Q .non H', rt := Q } (start N vs) H) : FnOk P w K mg base CX0 (k + 1) f fd ps sp := by
  obtain ⟨oc, od, kV, doc, pm, an, cdv, ct, osl, rfl, lk, hcd⟩ := F.ex
  refine fn_of lk hcd S len fun A outer s H vs Q E hr hsp => ?_
  obtain ⟨t, h, q⟩ := hbody cdv A outer s H vs Q E hr hsp
  exact ⟨t, h.nox, q⟩
theorem Fun.binds {x qual : Str} {st : Stmt} {f : Addr} {fd : FuncData} {ps : List Str} (F : Fun K x qual st f fd)
    (h : ∀ (kV doc pm : Value) (an : Option Addr) (cdv ct : Value) (us : List Value), us.length = ps.length → bindArgs (PySem.W.fnOf x qual (defArgs st) (defBody st) (defScope st) .none kV doc pm an cdv ct) ⟨us, []⟩ = pure (ps.zip us)) : Binds K fd ps [] := by
  obtain ⟨oc, od, kV, doc, pm, an, cdv, ct, osl, rfl, lk, hcd⟩ := F.ex
  exact .all (h kV doc pm an cdv ct)
theorem fun_mk {x qual : Str} {st : Stmt} {f : Addr} {oc : Value} {od an : Option Addr} {osl : Array (Option Value)} {kV doc pm cdv ct : Value} (l : K.lookup f = some ⟨oc, od, .func (PySem.W.fnOf x qual (defArgs st) (defBody st) (defScope st) .none kV doc pm an cdv ct), osl⟩)
    (c : PySem.W.codeIn K cdv qual = true) (k : PySem.W.keepIn K (.ref f) = true) : Fun K x qual st f (PySem.W.fnOf x qual (defArgs st) (defBody st) (defScope st) .none kV doc pm an cdv ct) := ⟨⟨oc, od, kV, doc, pm, an, cdv, ct, osl, rfl, l, c⟩, k⟩
end
theorem hu_of {A : Around} {k : Nat} (hr : Room k A) : A.units + 1 < cLine := Nat.lt_of_le_of_lt (Nat.add_le_add_left (by decide : 1 ≤ 64) _) hr.units
theorem small1000 {n : Nat} (h : n ≤ 1000) : n < sizeLine := Nat.lt_of_le_of_lt h (by decide)
section
variable {X : Cx}
theorem pv (i : Nat) {x : Str} {pos : Pos} (hN : X.N[i]? = some x := by rfl) (hv : Vis X.env.scope x := by first | exact Or.inl rfl | exact Or.inr (Or.inl rfl) | exact Or.inr (Or.inr rfl)) (hd : (x == ("__debug__" : Str)) = false := by decide)
    (hcd : (x == ("__classdict__" : Str)) = false := by decide) : PE X (.Name x pos) (tVar i) := pe_var hN hv hd hcd
end
theorem iteF {A B : Prop} (h : B) : if false = true then A else B := by
  rw [if_neg Bool.false_ne_true]
  exact h
theorem iteT {A B : Prop} (h : A) : if true = true then A else B := by
  rw [if_pos rfl]
  exact h
theorem ite2 {c A B : Prop} [Decidable c] (h1 : c → A) (h2 : ¬ c → B) : if c then A else B := by
  by_cases h : c
  · rw [if_pos h]
    exact h1 h
  · rw [if_neg h]
    exact h2 h
theorem iteNS {c A B : Prop} [Decidable c] (hc : c) (h : B) : if (!decide c) = true then A else B := by
  rw [decide_eq_true hc]
  exact iteF h
def Same (H H' : Hp) : Prop := ∀ b o, H b = some o → H' b = some o
theorem Same.refl (H : Hp) : Same H H := fun _ _ h => h
theorem Same.trans {H H1 H2 : Hp} (a : Same H H1) (b : Same H1 H2) : Same H H2 := fun c o h => b c o (a c o h)
theorem Same.free {H H' : Hp} (e : Same H H') {l : Addr} (h : H' l = Option.none) : H l = Option.none := by
  cases q : H l with
  | none => rfl
  | some o =>
    rw [e l o q] at h
    cases h
theorem Same.seq {K : PySem.W.Frag} {H H' : Hp} {a : Addr} {xs : List V} (e : Same H H') (h : SqL K H a xs) : SqL K H' a xs := by
  rcases h with (h | ⟨o, h⟩) | h
  · exact .inl (.inl (e _ _ h))
  · exact .inl (.inr ⟨o, e _ _ h⟩)
  · exact .inr h
section
variable {κ : Type} [DecidableEq κ]
end
end L2
set_option maxHeartbeats 4000000
namespace L2
open PySem PySem.Spec PyProof.Rows
section
variable {X : Cx}
theorem big_lt : (10 : Nat) ^ 100 < 2 ^ 400 := by decide +kernel
theorem log2_big {j : Int} (h : j.natAbs < 10 ^ 100) : j.natAbs.log2 < 400 := by
  by_cases h0 : j.natAbs = 0
  · rw [h0]; decide +kernel
  · exact (Nat.log2_lt h0).mpr (Nat.lt_trans h big_lt)
def CDivB (_ j : Int) : Prop := 0 < j ∧ j < 10 ^ 100
theorem op_fdivB : OpR X (binaryOp .FloorDiv) (rI CDivB fun i j => .int (i / j)) := opI fun i j _ _ _ _ _ hc q => by
  have h1 : (0 : Int) < j := hc.1
  have h2 : j < 10 ^ 100 := hc.2
  have h3 : j.natAbs < 10 ^ 100 := by omega
  exact floordiv_int (by omega) (by rw [Int.fdiv_eq_ediv_of_nonneg i (by omega)]; exact q) (.inl (PyProof.noPylong_of_log2 (Nat.lt_trans (log2_big h3) (by decide))))
def CMulB (i j : Int) : Prop := (-(10 ^ 100) < i ∧ i < 10 ^ 100) ∧ (-(10 ^ 100) < j ∧ j < 10 ^ 100)
theorem bits_big {j : Int} (h : j.natAbs < 10 ^ 100) : Builtin.Int.intBits j ≤ 400 := by
  unfold Builtin.Int.intBits
  split
  · exact Nat.zero_le _
  · have := log2_big h
    omega
theorem CMulB.ok {i j : Int} (h : CMulB i j) : IntMulOk i j := by
  obtain ⟨⟨h1, h2⟩, h3, h4⟩ := h
  have e1 := bits_big (j := i) (by omega)
  have e2 := bits_big (j := j) (by omega)
  have e3 : Builtin.Int.intTooBig (Builtin.Int.intBits i + Builtin.Int.intBits j) = false := by
    unfold Builtin.Int.intTooBig
    rw [decide_eq_false]
    have : (bitsLine : Int) = 134217728 := by decide +kernel
    omega
  unfold IntMulOk
  rw [e3]
  simp
theorem op_mulB : OpR X (binaryOp .Mult) (rI CMulB fun i j => .int (i * j)) := opI fun _ _ _ _ _ _ _ hc q => mul_int q hc.ok
end
section
variable {X : Cx}
theorem call_isi : CallR X (.builtin "isinstance") (fun xs H Q => ∃ x T t b, xs = [x, .ty T] ∧ TyOf X.K H x t ∧ PySem.W.kitOne X.K t (.type T) = some b ∧ Q (.bl b) H) := by
  intro pins s σ H xs us Q I r h
  obtain ⟨x, T, t, b, rfl, ty, e, q⟩ := h
  obtain ⟨u, w', rfl, ru, rw'⟩ := vals2 r
  cases (show w' = Value.type T from rw')
  exact isinst_ok I ru ty e fun tk => ⟨.bl b, H, I.tok tk, rfl, q⟩
end
mutual
inductive Rep (K : PySem.W.Frag) (H : Hp) : V → PyData → Prop where
  | non : Rep K H .non .none
  | bl (b : Bool) : Rep K H (.bl b) (.bool b)
  | int (i : Int) : Rep K H (.int i) (.int i)
  | str (x : Str) : Rep K H (.str x) (.str x)
  | lst {a : Addr} {xs : List V} {ds : List PyData} : SqL K H a xs → Reps K H xs ds → Rep K H (.ref a) (.list ds)
  | tup {a : Addr} {xs : List V} {ds : List PyData} : SqT K H a xs → Reps K H xs ds → Rep K H (.ref a) (.tuple ds)
inductive Reps (K : PySem.W.Frag) (H : Hp) : List V → List PyData → Prop where
  | nil : Reps K H [] []
  | cons {v : V} {vs : List V} {d : PyData} {ds : List PyData} : Rep K H v d → Reps K H vs ds → Reps K H (v :: vs) (d :: ds)
end
section
variable {X : Cx} {pins : List (Addr × Obj)} {σ : St} {H : Hp} {s : Shared}
mutual
theorem rep_reads (I : Inv X pins σ H s) : ∀ (d : PyData) (v : V) (u : Value), Rep X.K H v d → RelV v u → ∃ as, Reads s.heap u d as
  | .none, v, u, r, q => by cases r; cases (show u = Value.none from q); exact ⟨_, .none⟩
  | .bool b, v, u, r, q => by cases r; cases (show u = Value.bool b from q); exact ⟨_, .bool b⟩
  | .int i, v, u, r, q => by cases r; obtain ⟨t, e⟩ := (show ∃ t, u = Value.int i t from q); cases e; exact ⟨_, .int i t⟩
  | .str x, v, u, r, q => by cases r; obtain ⟨t, e⟩ := (show ∃ t, u = Value.str x t from q); cases e; exact ⟨_, .str x t⟩
  | .list ds, v, u, r, q => by
    cases r with
    | @lst a xs _ hq rs =>
      cases (show u = Value.ref a from q)
      obtain ⟨its, rv, ⟨o, n, e, c, _, d⟩, hz⟩ := I.list hq
      obtain ⟨as, ra⟩ := reps_reads I ds xs its rs rv
      exact ⟨_, .list e c d (by simpa using ra)⟩
  | .tuple ds, v, u, r, q => by
    cases r with
    | @tup a xs _ hq rs =>
      cases (show u = Value.ref a from q)
      obtain ⟨its, rv, ⟨o, e, c, n, d⟩, hz⟩ := I.tuple hq
      obtain ⟨as, ra⟩ := reps_reads I ds xs its rs rv
      exact ⟨_, .tuple e c d (by simpa using ra)⟩
  | .dict _, v, u, r, q => by cases r
theorem reps_reads (I : Inv X pins σ H s) : ∀ (ds : List PyData) (vs : List V) (us : List Value), Reps X.K H vs ds → Vals vs us → ∃ as, ReadsAll s.heap us ds as
  | [], vs, us, r, q => by cases r; cases q; exact ⟨_, .nil⟩
  | d :: ds, vs, us, r, q => by
    cases r with
    | cons r1 r2 =>
      cases q with
      | cons q1 q2 =>
        obtain ⟨as, a1⟩ := rep_reads I d _ _ r1 q1
        obtain ⟨bs, a2⟩ := reps_reads I ds _ _ r2 q2
        exact ⟨_, .cons a1 a2⟩
end
end
def rEqD (K : PySem.W.Frag) (neg : Bool) : R2 := fun x y H Q => ∃ d e, Rep K H x d ∧ Rep K H y e ∧ d.canLay0 = true ∧ e.canLay0 = true ∧ d.depth ≤ 20 ∧ Q (.bl (if neg then !PyData.eqv d e else PyData.eqv d e)) H
section
variable {X : Cx}
theorem op_eqD (hu : X.A.units + 64 < cLine) : OpR X (compareOp .Eq) (rEqD X.K false) := by
  intro pins s σ H x y v u Q I rx ry h
  obtain ⟨d, e, rd, re, cd, ce, hd, q⟩ := h
  obtain ⟨as, ra⟩ := rep_reads I d x v rd rx
  obtain ⟨bs, rb⟩ := rep_reads I e y u re ry
  have hm : min d.depth e.depth ≤ d.depth := Nat.min_le_left _ _
  exact SeqAt.compareEq_reads ra rb cd ce (by omega) ⟨.bl _, H, I, rfl, q⟩
theorem op_neD (hu : X.A.units + 64 < cLine) : OpR X (compareOp .NotEq) (rEqD X.K true) := by
  intro pins s σ H x y v u Q I rx ry h
  obtain ⟨d, e, rd, re, cd, ce, hd, q⟩ := h
  obtain ⟨as, ra⟩ := rep_reads I d x v rd rx
  obtain ⟨bs, rb⟩ := rep_reads I e y u re ry
  have hm : min d.depth e.depth ≤ d.depth := Nat.min_le_left _ _
  exact SeqAt.rcNeAt_reads ra rb cd ce (by omega) X.prog X.w X.xe _ ⟨.bl _, H, I, rfl, q⟩
end
section
variable {X : Cx} {pins : List (Addr × Obj)} {σ : St} {H : Hp} {s : Shared} {h' : Heap}
theorem Inv.turnedLaid {t' : Nat} {ch : List Addr} {a : Addr} {o : HO} (I : Inv X pins σ H s) (hf : ∀ b ∈ ch, FpOk X pins H b) (k : ∀ b u, b ∉ ch → s.heap.get? b = some u → h'.get? b = some u)
    (hp : s.heap.objs.size ≤ a) (new : ObjOk X.prog X.w (upd H a o) h' a o) : Inv X pins σ (upd H a o) { s with heap := h', toks := t' } := by
  have hna : H a = none := I.hok.fresh hp
  have nch : ∀ b u, H b = some u → b ∉ ch := fun b u e z => by rw [(hf b z).1] at e; cases e
  have nea : ∀ b u, s.heap.get? b = some u → b ≠ a := fun b u e z => absurd (Nat.lt_of_lt_of_le (Heap.lt_size e) (by rw [z]; exact hp)) (Nat.lt_irrefl _)
  refine I.step (g' := s.gens) (d' := s.drawn) (ch := ch) (fun b hb => ⟨(hf b hb).2.2.2.1, (hf b hb).2.1, (hf b hb).2.2.2.2.1, (hf b hb).2.2.2.2.2⟩) (fun b o _ _ hc e _ => k b o hc e) (fun b o _ _ hc e _ => ⟨o.slots, k b o hc e⟩)
    (fun b o hc e n => by rw [upd_ne (nea b o e)]; exact n) (fun b o hc e => ⟨o, k b o hc e⟩) (fun b xs e => by rw [upd_ne (ne_of_none e hna)]; exact e) (fun b o u e => by rw [upd_ne (ne_of_none e hna)]; exact e)
    (fun b ps e => ⟨#[], by rw [upd_ne (ne_of_none e hna), e]; simp⟩) (fun m hm => ?_) (fun b u e => ?_) I.bare
  · obtain ⟨o, es, ep, ho, r⟩ := hm
    exact ⟨o, es, ep, k _ o (fun z => (hf _ z).2.1 rfl) ho, r⟩
  · by_cases hb : b = a
    · subst hb; rw [upd_same] at e; cases e; exact new
    · rw [upd_ne hb] at e
      refine (I.hok b u e).stay (fun c v hc q => k c v ?_ q) (fun c q => by rw [upd_ne (ne_of_none q hna)]; exact q) fun c xs q => by rw [upd_ne (ne_of_none q hna)]; exact q
      rcases hc with z | z
      · rw [z]; exact nch b u e
      · exact nch c _ z
theorem Inv.turnedL {t' : Nat} {ch : List Addr} (I : Inv X pins σ H s) (hf : ∀ b ∈ ch, FpOk X pins H b) (k : ∀ b u, b ∉ ch → s.heap.get? b = some u → h'.get? b = some u) : Inv X pins σ H { s with heap := h', toks := t' } := by
  have nch : ∀ b u, H b = some u → b ∉ ch := fun b u e z => by rw [(hf b z).1] at e; cases e
  refine I.step (g' := s.gens) (d' := s.drawn) (ch := ch) (fun b hb => ⟨(hf b hb).2.2.2.1, (hf b hb).2.1, (hf b hb).2.2.2.2.1, (hf b hb).2.2.2.2.2⟩) (fun b o _ _ hc e _ => k b o hc e) (fun b o _ _ hc e _ => ⟨o.slots, k b o hc e⟩)
    (fun _ _ _ _ n => n) (fun b o hc e => ⟨o, k b o hc e⟩) (fun _ _ e => e) (fun _ _ _ e => e) (fun b ps e => ⟨#[], by rw [e]; simp⟩) (fun m hm => ?_) (fun b u e => ?_) I.bare
  · obtain ⟨o, es, ep, ho, r⟩ := hm
    exact ⟨o, es, ep, k _ o (fun z => (hf _ z).2.1 rfl) ho, r⟩
  · refine (I.hok b u e).stay (fun c v hc q => k c v ?_ q) (fun _ q => q) fun _ _ q => q
    rcases hc with z | z
    · rw [z]; exact nch b u e
    · exact nch c _ z
end
def Itz (K : PySem.W.Frag) (a b : Addr) : It :=
  ⟨fun i H => ∃ xs ys x y, SqL K H a xs ∧ SqL K H b ys ∧ xs[i]? = some x ∧ ys[i]? = some y,
   fun i H v H' => ∃ p, v = .ref p ∧ H p = none ∧ ∀ xs ys x y, SqL K H a xs → SqL K H b ys → xs[i]? = some x → ys[i]? = some y → H' = upd H p (.tup [x, y]),
   fun i H => ∃ xs ys, SqL K H a xs ∧ SqL K H b ys ∧ (xs.length ≤ i ∨ ys.length ≤ i)⟩
theorem ne_cls {h : Heap} {a b : Addr} {o u : Obj} (e : h.get? a = some o) (e' : h.get? b = some u) (d : o.cls ≠ u.cls) : a ≠ b := fun z => by
  subst z; rw [e] at e'; exact d (congrArg Obj.cls (Option.some.inj e'))
theorem n_tz : Value.type "tuple" ≠ Value.type "zip" := by decide
theorem n_iz : Value.type "list_iterator" ≠ Value.type "zip" := by decide
theorem n_ti : Value.type "tuple" ≠ Value.type "list_iterator" := by decide
theorem n_lz : Value.type "list" ≠ Value.type "zip" := by decide
theorem n_lt : Value.type "list" ≠ Value.type "tuple" := by decide
theorem n_li : Value.type "list" ≠ Value.type "list_iterator" := by decide
theorem turn_zip {P : Program} {w : World} {K : PySem.W.Frag} {elts : List Expr} {ek : Nat} {epos : Pos} (a b z TI TO i1 i2 : Addr) (d1 : TI ≠ TO) (d2 : i1 ≠ i2) :
    Turn P w K (.Tuple elts ek epos) (Itz K a b) [z, TI, TO, i1, i2] z (fun i h => IsZip h z TI TO .none ∧ IsPair h TI (.ref i1) (.ref i2) ∧ (∃ x y, IsPair h TO x y) ∧ h.IsListIter i1 a i ∧ h.IsListIter i2 b i) where
  mem := by simp
  obj := fun i h st c hc => by
    obtain ⟨hz, hTI, ⟨x, y, hTO⟩, ⟨o1, e1, c1, f1⟩, ⟨o2, e2, c2, f2⟩⟩ := st
    simp only [List.mem_cons, List.not_mem_nil, or_false] at hc
    rcases hc with rfl | rfl | rfl | rfl | rfl
    · exact ⟨_, hz, fun v q => by have q' : Data.fields _ = Data.cell v := q; cases q'⟩
    · exact ⟨_, hTI, fun v q => by have q' : Data.seq _ _ = Data.cell v := q; cases q'⟩
    · exact ⟨_, hTO, fun v q => by have q' : Data.seq _ _ = Data.cell v := q; cases q'⟩
    · exact ⟨_, e1, fun v q => by rw [f1] at q; cases q⟩
    · exact ⟨_, e2, fun v q => by rw [f2] at q; cases q⟩
  keep := fun i h h' st k => by
    obtain ⟨hz, hTI, ⟨x, y, hTO⟩, h1, h2⟩ := st
    exact ⟨k z (by simp) _ hz, k TI (by simp) _ hTI, ⟨x, y, k TO (by simp) _ hTO⟩, h1.at fun o e => k i1 (by simp) o e, h2.at fun o e => k i2 (by simp) o e⟩
  item := by
    intro X hP hw hK hc i pins s σ H E I hf st hg
    subst hP hw hK
    obtain ⟨xs, ys, x, y, qa, qb, hx, hy⟩ := hg
    obtain ⟨hz, hTI, ⟨x0, y0, hTO⟩, h1, h2⟩ := st
    obtain ⟨itsA, rA, pA, zA⟩ := I.list qa
    obtain ⟨itsB, rB, pB, zB⟩ := I.list qb
    obtain ⟨u, hu, ru⟩ := rA.get hx
    obtain ⟨u', hu', ru'⟩ := rB.get hy
    have D : ZipApart z TI TO i1 i2 a b := by
      obtain ⟨o1, e1, c1, f1⟩ := id h1
      obtain ⟨o2, e2, c2, f2⟩ := id h2
      obtain ⟨oa, na, ea, ca, _, fa⟩ := id pA
      obtain ⟨ob, nb, eb, cb, _, fb⟩ := id pB
      exact ⟨ne_cls hTI hz n_tz, ne_cls hTO hz n_tz, ne_cls e1 hz (by rw [c1]; exact n_iz), ne_cls e2 hz (by rw [c2]; exact n_iz), d1, ne_cls hTI e1 (by rw [c1]; exact n_ti), ne_cls hTI e2 (by rw [c2]; exact n_ti),
        ne_cls hTO e1 (by rw [c1]; exact n_ti), ne_cls hTO e2 (by rw [c2]; exact n_ti), d2, ne_cls ea hz (by rw [ca]; exact n_lz), ne_cls ea hTO (by rw [ca]; exact n_lt), ne_cls ea e1 (by rw [ca, c1]; exact n_li), ne_cls ea e2 (by rw [ca, c2]; exact n_li),
        ne_cls eb hz (by rw [cb]; exact n_lz), ne_cls eb hTO (by rw [cb]; exact n_lt), ne_cls eb e1 (by rw [cb, c1]; exact n_li), ne_cls eb e2 (by rw [cb, c2]; exact n_li)⟩
    refine wpAny_pyNext_zip_item D hz hTI hTO h1 h2 pA.isList pB.isList (x := u) (y := u') (by simpa using hu) (by simpa using hu') fun h' a1 a2 a3 a4 a5 a6 hk => ?_
    refine ⟨.ref s.heap.objs.size, rfl, wpAny_letOwnedTupleGo_zip a1 fun h'' hz'' sb => ?_⟩
    have lz : z < s.heap.objs.size := Heap.lt_size hz
    have nz : s.heap.objs.size ≠ z := Nat.ne_of_gt lz
    have k2 : ∀ c o, c ∉ [z, TI, TO, i1, i2] → s.heap.get? c = some o → h''.get? c = some o := fun c o hc e => by
      simp only [List.mem_cons, List.not_mem_nil, or_false, not_or] at hc
      exact sb.extBut _ _ hc.1 (hk c o hc.1 hc.2.2.1 hc.2.2.2.1 hc.2.2.2.2 e)
    have T2 : IsPair h'' s.heap.objs.size u u' := sb.extBut _ _ nz a5
    refine ⟨.ref s.heap.objs.size, upd H s.heap.objs.size (.tup [x, y]), I.turnedLaid (t' := s.toks) (ch := [z, TI, TO, i1, i2]) hf k2 (Nat.le_refl _) ⟨by show 2 ≤ sizeLine; decide, [u, u'], .cons ru (.cons ru' .nil), _, T2, rfl, _, rfl⟩, rfl, ⟨_, rfl, I.hok.fresh (Nat.le_refl _), fun xs' ys' x' y' qa' qb' hx' hy' => ?_⟩, ⟨hz'', sb.extBut _ _ D.TIz (hk _ _ D.TIz D.TITO D.TIi1 D.TIi2 hTI), ⟨_, _, sb.extBut _ _ D.TOz a2⟩, a3.extBut sb.extBut D.i1z, a4.extBut sb.extBut D.i2z⟩, fun b hb => ?_⟩
    · rw [I.list_inj qa' qa, hx] at hx'
      rw [I.list_inj qb' qb, hy] at hy'
      cases hx'; cases hy'; rfl
    · have e : b ≠ s.heap.objs.size := fun q => by
        have : ∃ o, s.heap.get? b = some o := by
          simp only [List.mem_cons, List.not_mem_nil, or_false] at hb
          obtain ⟨o1, e1, _⟩ := id h1
          obtain ⟨o2, e2, _⟩ := id h2
          rcases hb with rfl | rfl | rfl | rfl | rfl
          · exact ⟨_, hz⟩
          · exact ⟨_, hTI⟩
          · exact ⟨_, hTO⟩
          · exact ⟨_, e1⟩
          · exact ⟨_, e2⟩
        obtain ⟨o, e⟩ := this
        exact absurd (Heap.lt_size e) (by rw [q]; exact Nat.lt_irrefl _)
      rw [upd_ne e]
      exact (hf b hb).1
  done := by
    intro X hP hw hK hc i pins s σ H E I hf st hg
    subst hP hw hK
    obtain ⟨xs, ys, qa, qb, hx⟩ := hg
    obtain ⟨hz, hTI, ⟨x0, y0, hTO⟩, h1, h2⟩ := st
    obtain ⟨itsA, rA, pA, zA⟩ := I.list qa
    obtain ⟨itsB, rB, pB, zB⟩ := I.list qb
    have D : ZipApart z TI TO i1 i2 a b := by
      obtain ⟨o1, e1, c1, f1⟩ := id h1
      obtain ⟨o2, e2, c2, f2⟩ := id h2
      obtain ⟨oa, na, ea, ca, _, fa⟩ := id pA
      obtain ⟨ob, nb, eb, cb, _, fb⟩ := id pB
      exact ⟨ne_cls hTI hz n_tz, ne_cls hTO hz n_tz, ne_cls e1 hz (by rw [c1]; exact n_iz), ne_cls e2 hz (by rw [c2]; exact n_iz), d1, ne_cls hTI e1 (by rw [c1]; exact n_ti), ne_cls hTI e2 (by rw [c2]; exact n_ti),
        ne_cls hTO e1 (by rw [c1]; exact n_ti), ne_cls hTO e2 (by rw [c2]; exact n_ti), d2, ne_cls ea hz (by rw [ca]; exact n_lz), ne_cls ea hTO (by rw [ca]; exact n_lt), ne_cls ea e1 (by rw [ca, c1]; exact n_li), ne_cls ea e2 (by rw [ca, c2]; exact n_li),
        ne_cls eb hz (by rw [cb]; exact n_lz), ne_cls eb hTO (by rw [cb]; exact n_lt), ne_cls eb e1 (by rw [cb, c1]; exact n_li), ne_cls eb e2 (by rw [cb, c2]; exact n_li)⟩
    have lA := rA.length
    have lB := rB.length
    refine wpAny_pyNext_zip_end (I.ok.hd hc) D hz hTI hTO h1 h2 pA.isList pB.isList (hx.imp (fun q => by simp; omega) fun q => by simp; omega) fun h' hk => ⟨rfl, I.turnedL (t' := s.toks) (ch := [z, TI, TO, i1, i2]) hf fun c o hc e => ?_⟩
    simp only [List.mem_cons, List.not_mem_nil, or_false, not_or] at hc
    exact hk c o hc.1 hc.2.2.1 hc.2.2.2.1 hc.2.2.2.2 e
  self := fun _ _ _ _ _ st h => wpAny_pyIter_zip st.1 h
section
variable {X : Cx}
def iZip (K : PySem.W.Frag) (ta : TA) : TI := fun σ H R => ta σ H fun vs H1 => ∃ a b xs ys, vs = [.ref a, .ref b] ∧ SqL K H1 a xs ∧ SqL K H1 b ys ∧ R (Itz K a b) H1
theorem pi_zip {elts : List Expr} {ek : Nat} {epos : Pos} {e1 e2 : Expr} {ta : TA} {p pos : Pos} (hg : Gl X "zip") (hm : X.mg "zip" = none) (ha : PA X [e1, e2] ta)
    (hs : starEach [e1, e2] X.env = [(false, eval e1 X.env), (false, eval e2 X.env)] := by rfl) (hs2 : starEach [e2] X.env = [(false, eval e2 X.env)] := by rfl) :
    PI X (.Tuple elts ek epos) (.Call (.Name "zip" p) [e1, e2] [] pos) (iZip X.K ta) := by
  intro pins s σ H R I h
  refine Call_ (ld_blt I hg hm (show bootBuiltins "zip" = some (.type "zip") by decide +kernel) (PyProof.Rows.callWith_type1 (thn (ha pos pins s σ H _ I h) fun us s1 ⟨vs, H1, I1, r1, q1⟩ => ?_) (by rw [hs, hs2]) (by rw [hs2]; rfl)))
  obtain ⟨a, b, xs, ys, rfl, qa, qb, q⟩ := q1
  obtain ⟨u, u', rfl, ru, ru'⟩ := vals2 r1
  cases (show u = Value.ref a from ru)
  cases (show u' = Value.ref b from ru')
  obtain ⟨itsA, rA, pA, zA⟩ := I1.list qa
  obtain ⟨itsB, rB, pB, zB⟩ := I1.list qb
  refine call_zip_2 pA.isList pB.isList fun h' hz hTI hTO h1 h2 hsz hk => wpAny_pyIter_zip hz ?_
  refine ⟨s1.heap.objs.size + 4, _, _, _, H1, rfl, I1.kept (t' := s1.toks) hk, turn_zip a b _ (s1.heap.objs.size + 2) (s1.heap.objs.size + 3) s1.heap.objs.size (s1.heap.objs.size + 1) (Nat.ne_of_lt (Nat.lt_succ_self _)) (Nat.ne_of_lt (Nat.lt_succ_self _)), ⟨hz, hTI, ⟨_, _, hTO⟩, h1, h2⟩, fun c hc => ?_, q⟩
  have e : s1.heap.objs.size ≤ c := by
    simp only [List.mem_cons, List.not_mem_nil, or_false] at hc
    rcases hc with rfl | rfl | rfl | rfl | rfl
    · exact Nat.le_add_right _ _
    · exact Nat.le_add_right _ _
    · exact Nat.le_add_right _ _
    · exact Nat.le_refl _
    · exact Nat.le_add_right _ _
  exact I1.fpOk e (I1.hok.fresh e)
end
theorem for_zip {K : PySem.W.Frag} {a b : Addr} {xs ys : List V} {g : TG} {tb : TS} {D : Ends} {σ : St} {H : Hp} (Pv : Nat → St → Hp → Prop) (h0 : Pv 0 σ H) (hl : ∀ i σ H, Pv i σ H → SqL K H a xs ∧ SqL K H b ys)
    (hs : ∀ i x y σ H p, xs[i]? = some x → ys[i]? = some y → H p = none → Pv i σ H → g (.ref p) σ (upd H p (.tup [x, y])) fun σ2 H2 => tb { D with nx := Pv (i + 1), ct := Pv (i + 1), bk := D.nx } σ2 H2)
    (hd : ∀ i σ H, i = min xs.length ys.length → Pv i σ H → D.nx σ H) :
    ∃ W : Nat → Nat → St → Hp → Prop, (∃ m, W 0 m σ H) ∧ ∀ i m σ H, W i m σ H →
      ((Itz K a b).stop i H ∧ D.nx σ H) ∨ ((Itz K a b).go i H ∧ ∃ N : St → Hp → Prop, (∀ σ' H', N σ' H' → ∃ m', m' < m ∧ W (i + 1) m' σ' H') ∧ ∀ x H', (Itz K a b).yld i H x H' → g x σ H' fun σ2 H2 => tb { D with nx := N, ct := N, bk := D.nx } σ2 H2) := by
  refine ⟨fun i m σ H => m = min xs.length ys.length - i ∧ i ≤ min xs.length ys.length ∧ Pv i σ H, ⟨min xs.length ys.length, by simp, Nat.zero_le _, h0⟩, ?_⟩
  rintro i m σ H ⟨rfl, hi, p⟩
  obtain ⟨qa, qb⟩ := hl i σ H p
  by_cases hlt : i < min xs.length ys.length
  · have ha : i < xs.length := by omega
    have hb : i < ys.length := by omega
    refine .inr ⟨⟨xs, ys, xs[i], ys[i], qa, qb, by simp [ha], by simp [hb]⟩, Pv (i + 1), fun σ' H' p' => ⟨min xs.length ys.length - (i + 1), by omega, rfl, hlt, p'⟩, fun x H' y => ?_⟩
    obtain ⟨t, rfl, ht, y⟩ := y
    have ea : xs[i]? = some xs[i] := by simp [ha]
    have eb : ys[i]? = some ys[i] := by simp [hb]
    rw [y xs ys xs[i] ys[i] qa qb ea eb]
    exact hs i xs[i] ys[i] σ H t ea eb ht p
  · exact .inl ⟨⟨xs, ys, qa, qb, by omega⟩, hd i σ H (by omega) p⟩
structure FunD (K : PySem.W.Frag) (x qual : Str) (st : Stmt) (dV : Value) (f : Addr) (fd : FuncData) : Prop where
  ex : ∃ (oc : Value) (od : Option Addr) (kV doc pm : Value) (an : Option Addr) (cdv ct : Value) (osl : Array (Option Value)),
    fd = PySem.W.fnOf x qual (defArgs st) (defBody st) (defScope st) dV kV doc pm an cdv ct ∧ K.lookup f = some ⟨oc, od, .func fd, osl⟩ ∧ PySem.W.codeIn K cdv qual = true
  kp : PySem.W.keepIn K (.ref f) = true
section
variable {P : Program} {w : World} {K : PySem.W.Frag} {mg : Str → Option Value} {base : Heap}
theorem FunD.ok {x qual : Str} {st : Stmt} {dV : Value} {f : Addr} {fd : FuncData} {N ps : List Str} {k : Nat} {sp : Sp} (F : FunD K x qual st dV f fd) (S : FnScope N ps (defScope st)) (len : ∀ vs H Q E, sp vs H Q E → vs.length = ps.length)
    (hbody : ∀ (cdv : Value) (A : Around) (outer : List Env) (s : Shared) (H : Hp) (vs : List V) (Q : VK) (E : XK), Room k (A.deeper (envOfC qual (defScope st) s.heap.objs.size f cdv)) → sp vs H Q E →
      ∃ t, PSs (cxOf CX0 P w K mg base N qual (defScope st) f cdv A outer s H E).nox (defBody st) t ∧ t { nx := fun _ H' => Q .non H', rt := Q } (start N vs) H) : FnOk P w K mg base CX0 (k + 1) f fd ps sp := by
  obtain ⟨oc, od, kV, doc, pm, an, cdv, ct, osl, rfl, lk, hcd⟩ := F.ex
  refine fn_of lk hcd S len fun A outer s H vs Q E hr hsp => ?_
  obtain ⟨t, h, q⟩ := hbody cdv A outer s H vs Q E hr hsp
  exact ⟨t, h.nox, q⟩
theorem binds_d {fd : FuncData} {ps : List Str} {ds : List Value} {T : Addr} {o : Obj} {items : Array Value} {n : Nat} (hd : fd.defaults = .ref T) (lk : K.lookup T = some o) (hs : o.data = .seq items n)
    (h : ∀ us : List Value, (us ++ ds).length = ps.length → ∃ k, bindArgs fd ⟨us, []⟩ = seqItems? fd.defaults >>= k ∧ k (some items) = pure (ps.zip (us ++ ds))) : Binds K fd ps ds := fun s us kin hl => by
  obtain ⟨k, h1, h2⟩ := h us hl
  exact .of_defaults hd (kin _ _ lk) hs h1 h2
end
def DefOk (P : Program) (w : World) (K : PySem.W.Frag) (mg : Str → Option Value) (base : Heap) (k : Nat) (x : Str) (ps : List Str) (sp : Sp) : Prop :=
  ∃ f fd, FnOk P w K mg base CX0 k f fd ps sp ∧ mg x = some (.ref f) ∧ PySem.W.keepIn K (.ref f) = true ∧ Binds K fd ps []
def MetOk (P : Program) (w : World) (K : PySem.W.Frag) (mg : Str → Option Value) (base : Heap) (C : Addr) (k : Nat) (m : Str) (ps : List Str) (sp : Sp) : Prop :=
  ∃ f fd, FnOk P w K mg base CX0 k f fd ps sp ∧ Meth K C m f ∧ Binds K fd ps []
def MkOk (P : Program) (w : World) (K : PySem.W.Frag) (mg : Str → Option Value) (base : Heap) (C : Addr) (k : Nat) (x : Str) (ps : List Str) (ds : List Value) (sp : Sp) : Prop :=
  ∃ f fd, FnOk P w K mg base CX0 k f fd ps sp ∧ mg x = some (.ref C) ∧ Mk K C f ∧ Binds K fd ps ds
section
variable {X : Cx} {k : Nat} {C : Addr} {ps : List Str} {sp : Sp} {dvs : List V} {ds : List Value} {x m : Str} {p pos apos : Pos} {e o : Expr} {es : List Expr} {ta : TE} {t : TA}
theorem pe_fn (D : DefOk X.prog X.w X.K X.mg X.base k x ps sp) (hr : Room k X.A) (hg : Gl X x) (ha : PA X (e :: es) t) (hdb : (x == ("__debug__" : Str)) = false := by decide)
    (he : starEach (e :: es) X.env = (false, eval e X.env) :: starEach es X.env := by rfl) (hpl : (backTo pos (starEach es X.env)).any (·.1) = false := by rfl) : PE X (.Call (.Name x p) (e :: es) [] pos) (tCall sp [] E0 t) := by
  obtain ⟨f, fd, F, hm, hk, hb⟩ := D
  exact pe_call F hr hg hm hk hb .nil pass0 ha hdb he hpl
end
end L2
namespace L2
open PySem PySem.Spec PyProof.Rows
section
variable {X : Cx} {k : Nat} {C : Addr} {ps : List Str} {sp : Sp} {x m : Str} {p pos apos : Pos} {e o : Expr} {es : List Expr} {ta : TE} {t : TA}
theorem pe_mt {pl : Sem Bool} (he : PE X o ta) (c : Cls X.K C) (D : MetOk X.prog X.w X.K X.mg X.base C k m ps sp) (hr : Room k X.A) (ha : PA X (e :: es) t)
    (hst : starEach (e :: es) X.env = (false, eval e X.env) :: starEach es X.env := by rfl) (hpl : (backTo pos (starEach es X.env)).any (·.1) = false := by rfl)
    (ht : eval (.Call (.Attribute o m apos) (e :: es) [] pos) X.env = (do
      let ov ← eval o X.env
      standAt apos.atName
      let (f, first) ← holding [ov] (getMethod ov m pl)
      callWith pos f first (backTo pos (starEach (e :: es) X.env)) (backToKw pos (keywordEach [] X.env))) := by rfl) :
    PE X (.Call (.Attribute o m apos) (e :: es) [] pos) (tMeth C m sp [] E0 ta t) := by
  obtain ⟨f, fd, F, hm, hb⟩ := D
  exact pe_meth (pl := pl) he c hm F hr hb .nil pass0 ha hst hpl ht
theorem pe_mt0 {pl : Sem Bool} (he : PE X o ta) (c : Cls X.K C) (D : MetOk X.prog X.w X.K X.mg X.base C k m ps sp) (hr : Room k X.A)
    (ht : eval (.Call (.Attribute o m apos) [] [] pos) X.env = (do
      let ov ← eval o X.env
      standAt apos.atName
      let (f, first) ← holding [ov] (getMethod ov m pl)
      callWith pos f first (backTo pos (starEach [] X.env)) (backToKw pos (keywordEach [] X.env))) := by rfl) :
    PE X (.Call (.Attribute o m apos) [] [] pos) (tMeth C m sp [] E0 ta tNil) := by
  obtain ⟨f, fd, F, hm, hb⟩ := D
  exact pe_meth0 (pl := pl) he c hm F hr hb .nil pass0 ht
end
section
variable {P : Program} {w : World} {K : PySem.W.Frag} {mg : Str → Option Value} {base : Heap}
theorem Fun.def_ {x : Str} {st : Stmt} {f : Addr} {fd : FuncData} {ps : List Str} {k : Nat} {sp : Sp} (F : Fun K x x st f fd) (hm : mg x = some (.ref f)) (hf : FnOk P w K mg base CX0 k f fd ps sp) (hb : Binds K fd ps []) : DefOk P w K mg base k x ps sp :=
  ⟨f, fd, hf, hm, F.kp, hb⟩
end
theorem bt_len : bootBuiltins "len" = some (.builtin "len") := by decide +kernel
theorem bt_isinstance : bootBuiltins "isinstance" = some (.builtin "isinstance") := by decide +kernel
theorem bt_sum : bootBuiltins "sum" = some (.builtin "sum") := by decide +kernel
theorem bt_list : bootBuiltins "list" = some (.type "list") := by decide +kernel
theorem bt_tuple : bootBuiltins "tuple" = some (.type "tuple") := by decide +kernel
theorem bt_int : bootBuiltins "int" = some (.type "int") := by decide +kernel
theorem bt_bool : bootBuiltins "bool" = some (.type "bool") := by decide +kernel
theorem kit_int_int (K : PySem.W.Frag) : PySem.W.kitOne K (.type "int") (.type "int") = some true := by rfl
theorem kit_int_bool (K : PySem.W.Frag) : PySem.W.kitOne K (.type "int") (.type "bool") = some false := by rfl
theorem kit_list (K : PySem.W.Frag) : PySem.W.kitOne K (.type "list") (.type "list") = some true := by rfl
theorem kit_tuple (K : PySem.W.Frag) : PySem.W.kitOne K (.type "tuple") (.type "tuple") = some true := by rfl
theorem Same.get {H H' : Hp} (s : Same H H') {b : Addr} {o : HO} (h : H b = some o) : H' b = some o := s b o h
theorem same_upd {H : Hp} {p : Addr} {o : HO} (h : H p = none) : Same H (upd H p o) := fun b u e => by rw [upd_ne (ne_of_none e h)]; exact e
end L2
namespace L2
open PySem PySem.Spec PyProof.Rows
def blk (X : Cx) (Nc : List Str) (scope : Scope) (cl : List (Str × Addr)) (C : Addr) (s : Shared) (H : Hp) (ex : List Addr) : Cx where
  prog := X.prog
  w := X.w
  K := X.K
  mg := X.mg
  base := X.base
  A := X.A
  N := Nc
  s₀ := s
  H₀ := H
  env := compEnvC scope cl C X.env
  outer := X.stack
  stack := X.stack
  ex := ex
  fn := fun _ => false
  calm := X.calm
  pn := []
  xe := fun _ _ => False
structure LcOk (X : Cx) (scope : Scope) (cl : List (Str × Addr)) : Prop where
  clos : closureFor scope X.env = pure cl
  kind : scope.kind = .function
  nocell : ∀ y ∈ scope.names, y.2 ≠ .cell
  names : ∀ y ∈ scope.names, y.2 = .local → scope.names.lookup y.1 = some .local
  sub : ∀ x c, cl.lookup x = some c → X.env.cells.lookup x = some c
  has : ∀ x, ((relabel scope X.env).names.lookup x = some .cell ∨ (relabel scope X.env).names.lookup x = some .free) → ∃ c, cl.lookup x = some c
def FvOk (X : Cx) (scope : Scope) (cl : List (Str × Addr)) : List Str → List Nat → Prop
  | [], [] => True
  | x :: xs, j :: js => (X.N[j]? = some x ∧ (X.env.kindOf x = some .cell ∨ X.env.kindOf x = some .free) ∧ cl.lookup x = X.env.cells.lookup x ∧
      ((relabel scope X.env).names.lookup x = some .cell ∨ (relabel scope X.env).names.lookup x = some .free)) ∧ FvOk X scope cl xs js
  | _, _ => False
def lcσ (nv : Nat) (fv : List Nat) (σ : St) : St := List.replicate nv none ++ fv.map fun j => (σ[j]?).join
theorem FvOk.len {X : Cx} {scope : Scope} {cl : List (Str × Addr)} : ∀ {xs : List Str} {js : List Nat}, FvOk X scope cl xs js → xs.length = js.length
  | [], [], _ => rfl
  | _ :: _, _ :: _, h => by simp [FvOk.len h.2]
  | [], _ :: _, h => h.elim
  | _ :: _, [], h => h.elim
theorem FvOk.get {X : Cx} {scope : Scope} {cl : List (Str × Addr)} : ∀ {xs : List Str} {js : List Nat} {k : Nat} {x : Str} {j : Nat}, FvOk X scope cl xs js → xs[k]? = some x → js[k]? = some j →
    X.N[j]? = some x ∧ (X.env.kindOf x = some .cell ∨ X.env.kindOf x = some .free) ∧ cl.lookup x = X.env.cells.lookup x ∧ ((relabel scope X.env).names.lookup x = some .cell ∨ (relabel scope X.env).names.lookup x = some .free)
  | [], [], _, _, _, _, e, _ => by simp at e
  | _ :: _, _ :: _, 0, _, _, h, e, e' => by simp at e e'; subst e; subst e'; exact h.1
  | _ :: _, _ :: _, k + 1, x, j, h, e, e' => FvOk.get (k := k) h.2 (by simpa using e) (by simpa using e')
  | [], _ :: _, _, _, _, h, _, _ => h.elim
  | _ :: _, [], _, _, _, h, _, _ => h.elim
abbrev emptyList : Obj := { cls := .type "list", dict := none, data := .seq ([] : List Value).toArray }
theorem ltS {h : Heap} {b : Addr} {o : Obj} (e : h.get? b = some o) : b ≠ (h.push emptyList).objs.size := Nat.ne_of_lt (by rw [Heap.size_push]; exact Nat.lt_succ_of_lt (Heap.lt_size e))
theorem neS {h : Heap} : h.objs.size ≠ (h.push emptyList).objs.size := Nat.ne_of_lt (by rw [Heap.size_push]; exact Nat.lt_succ_self _)
theorem leS {h : Heap} : h.objs.size ≤ (h.push emptyList).objs.size := by rw [Heap.size_push]; exact Nat.le_succ _
theorem neZ {h : Heap} {b : Addr} {o : Obj} (e : h.get? b = some o) : b ≠ h.objs.size := Nat.ne_of_lt (Heap.lt_size e)
section
variable {X : Cx} {pins : List (Addr × Obj)} {σ : St} {H : Hp} {s : Shared} {scope : Scope} {cl : List (Str × Addr)} {vars frees : List Str} {fv : List Nat} {fp : List Addr}
theorem inv_blk {h' : Heap} {t' : Nat} (I : Inv X pins σ H s) (L : LcOk X scope cl) (fo : FvOk X scope cl frees fv) (hf : ∀ b ∈ fp, FpOk X pins H b) (ho : ∀ b ∈ fp, ∃ o, s.heap.get? b = some o)
    (hns : h'.Ns (s.heap.push emptyList).objs.size (fun _ => none)) (hsb : ∀ b o, b ≠ (s.heap.push emptyList).objs.size → (s.heap.push emptyList).get? b = some o → h'.get? b = some o) :
    Inv (blk X (vars ++ frees) scope cl (s.heap.push emptyList).objs.size { s with heap := s.heap.push emptyList } H (s.heap.objs.size :: fp)) [(s.heap.objs.size, emptyList)] (lcσ vars.length fv σ) H { s with heap := h', toks := t' } := by
  have hC : (s.heap.push emptyList).objs.size = s.heap.objs.size + 1 := Heap.size_push ..
  have hlt : ∀ {b : Addr} {o : Obj}, s.heap.get? b = some o → b < s.heap.objs.size := fun e => Heap.lt_size e
  have old : ∀ b o, s.heap.get? b = some o → h'.get? b = some o := fun b o e => hsb b o (ltS e) (Heap.get?_push_of_some _ e)
  have hD : h'.get? s.heap.objs.size = some emptyList := hsb _ _ neS (Heap.get?_push_size _ rfl)
  have stk : ∀ b ∈ frs X.stack, b < s.heap.objs.size ∧ b ∉ fp := fun b hb => by
    rcases List.mem_cons.mp (I.stkSub b hb) with z | z
    · exact ⟨by rw [z]; exact I.lt, fun q => (hf b q).2.1 z⟩
    · refine ⟨?_, fun q => (hf b q).2.2.1 z⟩
      apply Nat.lt_of_not_le
      intro q
      exact I.nofs q z
  have cellL : ∀ x c, cl.lookup x = some c → c < s.heap.objs.size := fun x c e => by
    obtain ⟨v, q⟩ := I.cell x c (L.sub x c e)
    exact q.lt
  refine ⟨⟨I.ok.mod, L.kind, I.ok.glob, I.ok.blt, Nat.le_refl _, fun x y c e1 e2 => I.ok.inj x y c (L.sub x c e1) (L.sub y c e2), fun x h => L.has x h, (fun x c z => nomatch z), I.ok.hd, I.ok.frames, .inl rfl, fun b hb => ?_, fun b o e => ?_, ?_, fun b o e hb => ?_, fun b hb hq => ?_, ?_, fun b hb => I.stkFree b hb⟩,
    rfl, I.bare, Un.kept fun b u e => ?_, ⟨_, hns, fun i x v e1 e2 e3 => ?_⟩, fun x c e => ?_, ?_, fun x c e => I.freeC x c (L.sub x c e), fun p hp => ?_, I.hok.kept old, ?_⟩
  ·
    refine ⟨?_, fun x c e z => ?_⟩
    · show b ≠ (s.heap.push emptyList).objs.size
      rcases List.mem_cons.mp hb with z | z
      · rw [z]; exact neS
      · obtain ⟨o, e⟩ := ho b z
        exact ltS e
    · rcases List.mem_cons.mp hb with q | q
      · exact Nat.ne_of_lt (cellL x c e) (z.trans q)
      · exact (hf b q).2.2.2.2.1 x c (L.sub x c e) z
  · exact ⟨Heap.get?_push_of_some _ (I.bs b o e).1, (I.bs b o e).2⟩
  · exact Nat.le_trans (Nat.le_trans I.ok.bsz I.sz) leS
  ·
    rcases List.mem_cons.mp hb with q | q
    · exact neZ (I.bs b o e).1 q
    · rcases (hf b q).2.2.2.1 with z | z
      · exact I.ok.noex b o e z
      · exact absurd (Nat.lt_of_lt_of_le (Heap.lt_size (I.ok.bs b o e).1) z) (Nat.lt_irrefl _)
  ·
    obtain ⟨h1, h2⟩ := stk b hq
    rcases List.mem_cons.mp hb with q | q
    · exact Nat.ne_of_lt h1 q
    · exact h2 q
  · exact Heap.FunFrames.of_keeps (fun b o e _ => ⟨o, Heap.get?_push_of_some _ e, rfl⟩) I.stack
  · exact hsb b u (Nat.ne_of_lt (Heap.lt_size e)) e
  ·
    obtain ⟨m, hn, hl⟩ := I.loc
    have hi : vars.length ≤ i := by
      apply Nat.le_of_not_lt
      intro z
      rw [show lcσ vars.length fv σ = List.replicate vars.length none ++ fv.map fun j => (σ[j]?).join from rfl, List.getElem?_append_left (by simpa using z), List.getElem?_replicate_of_lt (by simpa using z)] at e2
      cases e2
    obtain ⟨k, rfl⟩ : ∃ k, i = vars.length + k := ⟨i - vars.length, by omega⟩
    have e1' : frees[k]? = some x := by
      have e1'' : (vars ++ frees)[vars.length + k]? = some x := e1
      rw [List.getElem?_append_right (by omega)] at e1''
      simpa using e1''
    have e2' : (fv.map fun j => (σ[j]?).join)[k]? = some (some v) := by
      rw [show lcσ vars.length fv σ = List.replicate vars.length none ++ fv.map fun j => (σ[j]?).join from rfl, List.getElem?_append_right (by simp)] at e2
      simpa using e2
    rw [List.getElem?_map] at e2'
    obtain ⟨j, hj, ej⟩ := Option.map_eq_some_iff.mp e2'
    have ej' : σ[j]? = some (some v) := by
      cases q : σ[j]? with
      | none => rw [q] at ej; cases ej
      | some y => rw [q] at ej; exact congrArg some ej
    obtain ⟨f1, f2, f3, f4⟩ := fo.get e1' hj
    obtain ⟨u, ru, lk⟩ := hl j x v f1 ej' (f2.elim (fun z => .inr (.inl z)) fun z => .inr (.inr z))
    refine ⟨u, ru, .inr ⟨f4, ?_⟩⟩
    rcases lk with ⟨z, _⟩ | ⟨_, c, hc, o, q, d⟩
    · rcases f2 with y | y <;> rw [y] at z <;> cases z
    · exact ⟨c, f3.trans hc, o, old c o q, d⟩
  · obtain ⟨v, o, q, d⟩ := I.cell x c (L.sub x c e)
    exact ⟨v, o, old c o q, d⟩
  · exact I.hok.fresh leS
  · have e : p = (s.heap.objs.size, emptyList) := by
      have hp' : p ∈ ([] : List (Addr × Obj)) ++ [(s.heap.objs.size, emptyList)] := hp
      simpa using hp'
    subst e
    refine ⟨hD, I.hok.fresh (Nat.le_refl _), neS, fun q => ?_, fun v q => by have q' : Data.seq _ _ = Data.cell v := q; cases q'⟩
    exact Nat.lt_irrefl _ (stk _ q).1
  · show (lcσ vars.length fv σ).length = (vars ++ frees).length
    simp [lcσ, fo.len]
end
def PIfs (X : Cx) (ifs : List Expr) (t : TT) : Prop :=
  ∀ (pins : List (Addr × Obj)) (s : Shared) (σ : St) (H : Hp) (Q : Bool → Hp → Prop), Inv X pins σ H s → t σ H Q →
    wpAny (model X.prog X.w) X.A (forIn ifs true fun c r => if r = true then do let ok ← isTrue c X.env (eval c X.env); pure (ForInStep.yield ok) else pure (ForInStep.yield r)) (TP X pins σ Q) X.xe s
def tYes : TT := fun _ H Q => Q true H
theorem yes_ {σ : St} {H : Hp} {Q : Bool → Hp → Prop} (h : Q true H) : tYes σ H Q := h
theorem pif_none {X : Cx} : PIfs X [] tYes := fun _ _ _ H _ I h => wpAny_tests_nil ⟨H, I, h⟩
theorem pif_one {X : Cx} {c : Expr} {t : TT} (h : PT X c t) : PIfs X [c] t := fun pins s σ H Q I q => wpAny_tests_one (h pins s σ H Q I q)
def lcGoal (J : It) (Q : VK) (g : TG) (tc : TT) (te : TE) (σc : St) (H1 : Hp) : Prop := ∃ W : Nat → Nat → List V → Hp → Prop, (∃ m, W 0 m [] H1) ∧ ∀ i m ys H2, W i m ys H2 →
  (J.stop i H2 ∧ ys.length ≤ sizeLine ∧ ∀ p, H2 p = none → Q (.ref p) (upd H2 p (.lst ys))) ∨
  (J.go i H2 ∧ ys.length < sizeLine ∧ ∃ N : List V → Hp → Prop, (∀ zs H', N zs H' → ∃ m', m' < m ∧ W (i + 1) m' zs H') ∧ ∀ x H3, J.yld i H2 x H3 → g x σc H3 fun σ4 H4 => tc σ4 H4 fun b H5 => if b = true then te σ4 H5 fun v H6 => N (ys ++ [v]) H6 else N ys H5)
def tLC (nv : Nat) (fv : List Nat) (wi : TI) (g : TG) (tc : TT) (te : TE) : TE := fun σ H Q => wi σ H fun J H1 => lcGoal J Q g tc te (lcσ nv fv σ) H1
theorem codeAny_lc {prog : Program} {w : World} {A : Around} {R : Result → Shared → Prop} {s : Shared} {elt target iter : Expr} {ifs : List Expr} {scope : Scope} {pos : Pos} {it acc : Value} {env : Env} (I : Nat → Shared → Prop)
    (turn : ∀ n s, I n s → wpAny (model prog w) A (pyNext it) (fun r s₁ => match r with
      | none => R (.ok .next) s₁
      | some v => wpAny (model prog w) A (letOwnedTupleGo target it v) (fun _ s₁' => wpAny (model prog w) A (assign target env v) (fun _ s₂ =>
          wpAny (model prog w) A (forIn ifs true fun c r => if r = true then do let ok ← isTrue c env (eval c env); pure (ForInStep.yield ok) else pure (ForInStep.yield r)) (fun ok s₃ =>
            if ok = true then wpAny (model prog w) A (eval elt env) (fun x s₄ =>
              wpAny (model prog w) A (call (.builtin "list.append") [acc, x]) (fun _ s₅ => ∃ m, m < n ∧ I m s₅) (notedBy (model prog w) A env fun e s' => R (.error e) s') s₄) (notedBy (model prog w) A env fun e s' => R (.error e) s') s₃
            else ∃ m, m < n ∧ I m s₃) (notedBy (model prog w) A env fun e s' => R (.error e) s') s₂) (notedBy (model prog w) A env fun e s' => R (.error e) s') s₁') (notedBy (model prog w) A env fun e s' => R (.error e) s') s₁) (notedBy (model prog w) A env fun e s' => R (.error e) s') s)
    (n : Nat) (h : I n s) : codeAny (model prog w) A (.compLoop (.ListComp elt [⟨target, iter, ifs, 0⟩] scope pos) 0 it acc env) R s := by
  refine codeAny_loop rfl I (fun n s hI => ?_) n h
  show wpAny _ A ((compTurn (.ListComp elt [⟨target, iter, ifs, 0⟩] scope pos) 0 it acc env).onRaise (fun x => do noteFrame x env; theTreesLotGoes x)) _ _ s
  refine wpAny_noted ?_
  rw [compTurn_list]
  refine wpAny_bind (wpAny_standAt (wpAny_bind (wpAny_mono (turn n s hI) (fun r s₁ h₁ => ?_) fun _ _ h' => h')))
  cases r with
  | none => exact wpAny_pure h₁
  | some v =>
    refine wpAny_bind (wpAny_mono h₁ (fun _ s₁' h₁' => ?_) fun _ _ h' => h')
    refine wpAny_bind (wpAny_mono h₁' (fun _ s₂ h₂ => wpAny_bind (wpAny_mono h₂ (fun ok s₃ h₃ => ?_) fun _ _ h' => h')) fun _ _ h' => h')
    cases ok with
    | false => exact wpAny_pure ⟨rfl, h₃⟩
    | true =>
      exact wpAny_bind (wpAny_bind (wpAny_mono h₃ (fun x s₄ h₄ => wpAny_bind (wpAny_mono h₄ (fun _ s₅ h₅ => wpAny_pure (wpAny_pure ⟨rfl, h₅⟩)) fun _ _ h' => h')) fun _ _ h' => h'))
def GKeep (nv : Nat) (g : TG) : Prop := ∀ x σ H (K : St → Hp → Prop), g x σ H K → g x σ H fun σ' H' => K σ' H' ∧ σ'.length = σ.length ∧ ∀ i, nv ≤ i → σ'[i]? = σ[i]?
theorem gk_name {nv i : Nat} (h : i < nv) : GKeep nv (gName i) := fun x σ H K q => ⟨q, by simp, fun j hj => by rw [List.getElem?_set_ne (by omega)]⟩
theorem gk_pair {F : PySem.W.Frag} {nv i j : Nat} (hi : i < nv) (hj : j < nv) : GKeep nv (gTup F 2 (gCons (gName i) (gCons (gName j) gNil))) := fun x σ H K ⟨a, xs, e, hq, hl, v, r, e1, v2, r2, e2, e3, q⟩ =>
  ⟨a, xs, e, hq, hl, v, r, e1, v2, r2, e2, e3, q, by simp, fun k hk => by rw [List.getElem?_set_ne (by omega), List.getElem?_set_ne (by omega)]⟩
abbrev lobj (us : List Value) (n : Nat) : Obj := { cls := .type "list", data := .seq us.toArray n }
theorem lc_loop {Y : Cx} {D it : Addr} {J : It} {fp : List Addr} {tn : Nat → Heap → Prop} {g : TG} {tc : TT} {te : TE} {Q : VK} {W : Nat → Nat → List V → Hp → Prop} {nv n0 m0 : Nat} {σc : St} {H : Hp} {s : Shared}
    {elt target iter : Expr} {ifs : List Expr} {scope : Scope} {pos : Pos} {R : Result → Shared → Prop} (hx : Y.xe = fun _ _ => False)
    (hc : Y.calm = true) (hg : PG Y target g) (hk : GKeep nv g) (hi : PIfs Y ifs tc) (he : PE Y elt te) (T : Turn Y.prog Y.w Y.K target J fp it tn)
    (hnv : ∀ i, i < nv → ∀ v, σc[i]? ≠ some (some v))
    (d1 : D ≠ Y.env.locals) (d2 : D ∈ Y.ex) (d3 : D ∉ Y.fs) (d4 : ∀ x c, Y.env.cells.lookup x = some c → c ≠ D) (d5 : D ∉ fp) (d6 : Y.pn = [])
    (hf : ∀ b ∈ fp, b ≠ Y.env.locals ∧ b ∉ Y.fs ∧ (b ∈ Y.ex ∨ Y.s₀.heap.objs.size ≤ b) ∧ (∀ x c, Y.env.cells.lookup x = some c → c ≠ b))
    (I0 : Inv Y [(D, lobj [] n0)] σc H s) (st : tn 0 s.heap) (fr : ∀ b ∈ fp, H b = none) (w0 : W 0 m0 [] H)
    (turn : ∀ i m ys H2, W i m ys H2 → (J.stop i H2 ∧ ys.length ≤ sizeLine ∧ ∀ p, H2 p = none → Q (.ref p) (upd H2 p (.lst ys))) ∨
      (J.go i H2 ∧ ys.length < sizeLine ∧ ∃ N : List V → Hp → Prop, (∀ zs H', N zs H' → ∃ m', m' < m ∧ W (i + 1) m' zs H') ∧ ∀ x H3, J.yld i H2 x H3 → g x σc H3 fun σ4 H4 => tc σ4 H4 fun b H5 => if b = true then te σ4 H5 fun v H6 => N (ys ++ [v]) H6 else N ys H5))
    (hend : ∀ ys us n H' s', Inv Y [(D, lobj us n)] σc H' s' → Vals ys us → ys.length ≤ sizeLine → (∀ p, H' p = none → Q (.ref p) (upd H' p (.lst ys))) → R (.ok .next) s') :
    codeAny (model Y.prog Y.w) Y.A (.compLoop (.ListComp elt [⟨target, iter, ifs, 0⟩] scope pos) 0 (.ref it) (.ref D) Y.env) R s := by
  have fpok : ∀ {H' : Hp} {o : Obj}, (∀ b ∈ fp, H' b = none) → ∀ b ∈ fp, FpOk Y [(D, o)] H' b := fun {H' o} hn b hb => by
    obtain ⟨f1, f2, f3, f4⟩ := hf b hb
    refine ⟨hn b hb, f1, f2, f3, f4, fun p hp => ?_⟩
    rw [d6] at hp
    have e : p = (D, o) := by simpa using hp
    rw [e]
    exact fun z => d5 (by rw [show D = b from z]; exact hb)
  refine codeAny_lc (fun n s' => ∃ i ys us k H', Inv Y [(D, lobj us k)] σc H' s' ∧ Vals ys us ∧ tn i s'.heap ∧ (∀ b ∈ fp, H' b = none) ∧ W i n ys H') ?_ m0 ⟨0, [], [], n0, H, I0, .nil, st, fr, w0⟩
  rintro n s3 ⟨i, ys, us, k, H3, I3, rv, st3, fr3, w3⟩
  have ex0 : ∀ {E' : Value → Shared → Prop} {e : Value} {s' : Shared}, Y.xe e s' → E' e s' := fun {E' e s'} z => by rw [hx] at z; exact z.elim
  rcases turn i n ys H3 w3 with ⟨stop, hz, q⟩ | ⟨go, hz, N, hN, step⟩
  · refine thn (T.done Y rfl rfl rfl hc i _ s3 σc H3 _ I3 (fpok fr3) st3 stop) fun r s4 hq__ => ?_
    obtain ⟨hr, I4⟩ := hq__
    subst hr
    exact hend ys us k H3 s4 I4 rv hz q
  · refine thn (T.item Y rfl rfl rfl hc i _ s3 σc H3 _ I3 (fpok fr3) st3 go) fun r s4 hq__ => ?_
    obtain ⟨u, hr, h4⟩ := hq__
    subst hr
    refine thn h4 fun _ s5 hq__ => ?_
    obtain ⟨x, H5, I5, r5, y5, st5, fr5⟩ := hq__
    have I5' := I5.pinned (fpok fr5) (T.obj _ _ st5)
    refine wpAny_mono (hg _ s5 σc H5 x u _ I5' r5 (hk x σc H5 _ (step x H5 y5))) (fun _ s6 hq__ => ?_) fun _ _ z => ex0 z
    obtain ⟨σ6, H6, I6, q6, l6, e6⟩ := hq__
    have wk : ∀ (i : Nat) v, σc[i]? = some (some v) → σ6[i]? = some (some v) := fun i v e => by
      by_cases h : nv ≤ i
      · rw [e6 i h]; exact e
      · exact absurd e (hnv i (by omega) v)
    have back : ∀ {o : Obj} {H' : Hp} {s' : Shared}, Inv Y ([(D, o)] ++ pinsAt fp s5.heap) σ6 H' s' → Inv Y [(D, o)] σc H' s' ∧ tn (i + 1) s'.heap ∧ ∀ b ∈ fp, H' b = none := fun {o H' s'} I' => by
      refine ⟨(I'.unpinned).weak (by rw [← l6]) wk, T.keep _ _ _ st5 fun b hb o e => (I'.pin (b, o) (List.mem_append_right _ (List.mem_append_right _ (mem_pinsAt hb e)))).1, fun b hb => ?_⟩
      obtain ⟨o, e, _⟩ := T.obj _ _ st5 b hb
      exact (I'.pin (b, o) (List.mem_append_right _ (List.mem_append_right _ (mem_pinsAt hb e)))).2.1
    refine wpAny_mono (hi _ s6 σ6 H6 _ I6 q6) (fun b s7 hq__ => ?_) fun _ _ z => ex0 z
    obtain ⟨H7, I7, q7⟩ := hq__
    cases b with
    | false =>
      obtain ⟨m', hm, w7⟩ := hN ys H7 q7
      obtain ⟨I8, st8, fr8⟩ := back I7
      exact ⟨m', hm, i + 1, ys, us, k, H7, I8, rv, st8, fr8, w7⟩
    | true =>
      refine wpAny_mono (he _ s7 σ6 H7 _ I7 q7) (fun u2 s8 hq__ => ?_) fun _ _ z => ex0 z
      obtain ⟨v, H8, I8, r8, n8⟩ := hq__
      obtain ⟨m', hm, w8⟩ := hN _ H8 n8
      obtain ⟨I9, st9, fr9⟩ := back I8
      obtain ⟨eD, nD, _, _, _⟩ := I9.pin (D, lobj us k) (by simp)
      have hlen := rv.length
      refine call_meets F.slot_list_append ⟨_, eD, rfl⟩ F.entry_list_append (F.args_list_append_2 _ _) (PySem.list_append D us.toArray k u2 (by rw [List.size_toArray]; omega)) ⟨eD, ?_⟩
      have q := PySem.IsL.update eD (fun x_1 => x_1.push u2)
      have eq : us.toArray.push u2 = (us ++ [u2]).toArray := by simp
      rw [eq] at q
      obtain ⟨n', q⟩ : ∃ n', (s8.heap.update D (Obj.mapSeq fun x_1 => x_1.push u2)).get? D = some (lobj (us ++ [u2]) n') := ⟨_, q⟩
      have I10 : Inv Y [] σc H8 s8 := I9.pins_of fun p hp => by cases hp
      have I11 : Inv Y [] σc H8 { s8 with heap := s8.heap.update D (Obj.mapSeq fun x_1 => x_1.push u2), toks := s8.toks } :=
        I10.turned (it := D) (fun b o hb e => (Heap.get?_update_other s8.heap (Obj.mapSeq _) (Ne.symm hb)).trans e) nD d1 (.inl d2) d4 (fun p hp => by rw [d6] at hp; cases hp)
      refine ⟨m', hm, i + 1, ys ++ [v], us ++ [u2], n', H8, I11.pins_of (fun p hp => ?_), rv.append (.cons r8 .nil), ?_, fr9, w8⟩
      · have e : p = (D, lobj (us ++ [u2]) n') := by simpa using hp
        subst e
        exact ⟨q, nD, d1, d3, fun v z => by have z' : Data.seq _ _ = Data.cell v := z; cases z'⟩
      · refine T.keep _ _ _ st9 fun b hb o e => ?_
        exact (Heap.get?_update_other s8.heap (Obj.mapSeq _) (fun z => d5 (by rw [z]; exact hb))).trans e
section
variable {X : Cx} {pins : List (Addr × Obj)} {σ : St} {H : Hp} {s : Shared} {scope : Scope} {cl : List (Str × Addr)} {vars frees : List Str} {fv : List Nat} {elt target iter : Expr} {ifs : List Expr} {pos : Pos}
def LcEnd (X : Cx) (pins : List (Addr × Obj)) (σ : St) (Q : VK) (D C : Addr) (s' : Shared) : Prop :=
  ∃ (ys : List V) (H' : Hp) (oC : Obj) (m : Str → Option Value), Inv X (pins ++ [(C, oC)]) σ (upd H' D (.lst ys)) s' ∧ s'.heap.Ns C m ∧ FpOk X pins (upd H' D (.lst ys)) C ∧ Q (.ref D) (upd H' D (.lst ys))
theorem lc_core {J : It} {fp : List Addr} {it : Addr} {tn : Nat → Heap → Prop} {g : TG} {tc : TT} {te : TE} {Q : VK} {W : Nat → Nat → List V → Hp → Prop} {m0 : Nat} {E : Value → Shared → Prop} {E2 : Value → Addr → Value → Shared → Prop}
    (hc : X.calm = true) (L : LcOk X scope cl) (fo : FvOk X scope cl frees fv) (hk : GKeep vars.length g)
    (hg : ∀ C s H ex, PG (blk X (vars ++ frees) scope cl C s H ex) target g) (hi : ∀ C s H ex, PIfs (blk X (vars ++ frees) scope cl C s H ex) ifs tc) (he : ∀ C s H ex, PE (blk X (vars ++ frees) scope cl C s H ex) elt te)
    (I : Inv X pins σ H s) (T : Turn X.prog X.w X.K target J fp it tn) (st : tn 0 s.heap) (hf : ∀ b ∈ fp, FpOk X pins H b) (w0 : W 0 m0 [] H)
    (turn : ∀ i m ys H2, W i m ys H2 → (J.stop i H2 ∧ ys.length ≤ sizeLine ∧ ∀ p, H2 p = none → Q (.ref p) (upd H2 p (.lst ys))) ∨
      (J.go i H2 ∧ ys.length < sizeLine ∧ ∃ N : List V → Hp → Prop, (∀ zs H', N zs H' → ∃ m', m' < m ∧ W (i + 1) m' zs H') ∧ ∀ x H3, J.yld i H2 x H3 → g x (lcσ vars.length fv σ) H3 fun σ4 H4 => tc σ4 H4 fun b H5 => if b = true then te σ4 H5 fun v H6 => N (ys ++ [v]) H6 else N ys H5)) :
    wpAny (model X.prog X.w) X.A (newList []) (fun acc s₃ => wpAny (model X.prog X.w) X.A (newFunctionEnv scope X.env.globals cl [] X.env.qual none .none (some X.env)) (fun cenv s₄ =>
      codeAny (model X.prog X.w) X.A (.compStart (.ListComp elt [⟨target, iter, ifs, 0⟩] scope pos) 0 (.ref it) acc { cenv with scope := relabel scope X.env })
        (fun r s' => match r with | .ok _ => ∃ D, acc = .ref D ∧ LcEnd X pins σ Q D cenv.locals s' | .error x => E2 acc cenv.locals x s') s₄) E s₃) E s := by
  have hoo : ∀ b ∈ fp, ∃ o, s.heap.get? b = some o := fun b hb => let ⟨o, e, _⟩ := T.obj 0 _ st b hb; ⟨o, e⟩
  refine wpAny_newObj_type (wpAny_newFunctionEnv L.nocell (by intro y hy; simp at hy) (fun h₁ hns hsb => ?_) L.kind)
  dsimp only at hns hsb ⊢
  have hC : (s.heap.push emptyList).objs.size = s.heap.objs.size + 1 := Heap.size_push ..
  have keep1 : ∀ b o, b ≠ (s.heap.push emptyList).objs.size → (s.heap.push emptyList).get? b = some o → h₁.get? b = some o := fun b o hb e => hsb.extBut b o hb (Heap.get?_push_of_some _ e)
  have I0 : Inv (blk X (vars ++ frees) scope cl (s.heap.push emptyList).objs.size { s with heap := s.heap.push emptyList } H (s.heap.objs.size :: fp)) [(s.heap.objs.size, emptyList)] (lcσ vars.length fv σ) H { s with heap := h₁, toks := s.toks + ([] : List (Str × Value)).length } :=
    inv_blk I L fo hf hoo (by simpa using hns) keep1
  have st1 : tn 0 h₁ := T.keep 0 _ _ st fun b hb o e => keep1 b o (ltS e) (Heap.get?_push_of_some _ e)
  have loop : codeAny (model X.prog X.w) X.A (.compLoop (.ListComp elt [⟨target, iter, ifs, 0⟩] scope pos) 0 (.ref it) (.ref s.heap.objs.size) (compEnvC scope cl (s.heap.push emptyList).objs.size X.env))
      (fun r s' => match r with | .ok _ => ∃ D, Value.ref s.heap.objs.size = .ref D ∧ LcEnd X pins σ Q D (s.heap.push emptyList).objs.size s' | .error x => E2 (.ref s.heap.objs.size) (s.heap.push emptyList).objs.size x s') { s with heap := h₁, toks := s.toks + ([] : List (Str × Value)).length } := by
    refine lc_loop (Y := blk X (vars ++ frees) scope cl (s.heap.push emptyList).objs.size { s with heap := s.heap.push emptyList } H (s.heap.objs.size :: fp)) (nv := vars.length) (n0 := 0) rfl hc (hg _ _ _ _) hk (hi _ _ _ _) (he _ _ _ _) T (fun i hi v e => ?_)
      neS (by show s.heap.objs.size ∈ s.heap.objs.size :: fp; simp) ?_ (fun x c e => ?_) (fun z => ?_) rfl (fun b hb => ?_) I0 st1 (fun b hb => (hf b hb).1) w0 turn ?_
    · rw [show lcσ vars.length fv σ = List.replicate vars.length none ++ fv.map fun j => (σ[j]?).join from rfl, List.getElem?_append_left (by simpa using hi), List.getElem?_replicate_of_lt (by simpa using hi)] at e
      cases e
    · exact (I0.pin (s.heap.objs.size, emptyList) (by simp)).2.2.2.1
    · obtain ⟨v, q⟩ := I.cell x c (L.sub x c e)
      exact Nat.ne_of_lt q.lt
    · obtain ⟨o, e⟩ := hoo _ z
      exact absurd (Heap.lt_size e) (Nat.lt_irrefl _)
    · exact ⟨(I0.ok.exf b (List.mem_cons_of_mem _ hb)).1, I0.ok.exfs b (List.mem_cons_of_mem _ hb), .inl (List.mem_cons_of_mem _ hb), (I0.ok.exf b (List.mem_cons_of_mem _ hb)).2⟩
    · intro ys us n H' s' I' rv hz q
      obtain ⟨eD, nD, _, fD, _⟩ := I'.pin (s.heap.objs.size, lobj us n) (by simp)
      obtain ⟨mC, hnC, _⟩ := I'.loc
      obtain ⟨oC, es, ep, eC, dC, r1, r2⟩ := id hnC
      have nC : H' (s.heap.push emptyList).objs.size = none := I'.free
      have neDC : (s.heap.push emptyList).objs.size ≠ s.heap.objs.size := neS.symm
      have lt : ∀ {b : Addr} {o : Obj}, s.heap.get? b = some o → b ≠ s.heap.objs.size ∧ b ≠ (s.heap.push emptyList).objs.size := fun e => ⟨neZ e, ltS e⟩
      have nex : ∀ {b : Addr} {o : Obj}, s.heap.get? b = some o → b ∉ fp → b ∉ s.heap.objs.size :: fp := fun e hb z => by
        rcases List.mem_cons.mp z with z | z
        · exact (lt e).1 z
        · exact hb z
      have upn : ∀ {b : Addr} {u : HO}, H' b = some u → upd H' s.heap.objs.size (.lst ys) b = some u := fun e => by rw [upd_ne (ne_of_none e nD)]; exact e
      have un : Un (frs X.stack) fp H (upd H' s.heap.objs.size (.lst ys)) s.heap s'.heap :=
        { keep := fun b o e n hb hx => I'.base.keep b o (Heap.get?_push_of_some _ e) n hb (nex e hx)
          slot := fun b o e n hb hx => I'.base.slot b o (Heap.get?_push_of_some _ e) n hb (nex e hx)
          free := fun b o e n hx => by rw [upd_ne (lt e).1]; exact I'.base.free b o (Heap.get?_push_of_some _ e) n (nex e hx)
          there := fun b o e hx => I'.base.there b o (Heap.get?_push_of_some _ e) (nex e hx)
          tups := fun b xs e => upn (I'.base.tups b xs e)
          frzs := fun b o u e => upn (I'.base.frzs b o u e)
          tbls := fun b ps e => let ⟨more, z⟩ := I'.base.tbls b ps e; ⟨more, upn z⟩ }
      have hok : HOk X.prog X.w (upd H' s.heap.objs.size (.lst ys)) s'.heap := fun b u e => by
        by_cases hb : b = s.heap.objs.size
        · subst hb; rw [upd_same] at e; cases e
          exact ⟨hz, us, n, rv, eD⟩
        · rw [upd_ne hb] at e
          exact (I'.hok b u e).stay (fun c v _ z => z) (fun c z => upn z) fun c xs z => upn z
      have J1 : Inv X pins σ (upd H' s.heap.objs.size (.lst ys)) s' := I.call' (ch := fp) I'.os un hok I'.bare fun b hb => ⟨(hf b hb).2.2.2.1, (hf b hb).2.1, (hf b hb).2.2.2.2.1, (hf b hb).2.2.2.2.2⟩
      have fC : FpOk X pins (upd H' s.heap.objs.size (.lst ys)) (s.heap.push emptyList).objs.size := I.fpOk leS (by rw [upd_ne neDC]; exact nC)
      refine ⟨_, rfl, ys, H', oC, mC, J1.pins_of (fun p hp => ?_), hnC, fC, q _ nD⟩
      rcases List.mem_append.mp hp with z | z
      · exact J1.pin p (List.mem_append_right _ z)
      · have e : p = ((s.heap.push emptyList).objs.size, oC) := by simpa using z
        subst e
        exact ⟨eC, fC.1, fC.2.1, fC.2.2.1, fun v z => by rw [dC] at z; cases z⟩
  exact codeAny_compStart_list loop (T.self _ 0 _ _ _ st1 loop)
theorem pe_lc {wi : TI} {g : TG} {tc : TT} {te : TE} (hc : X.calm = true) (L : LcOk X scope cl) (fo : FvOk X scope cl frees fv) (hit : PI X target iter wi) (hk : GKeep vars.length g)
    (hg : ∀ C s H ex, PG (blk X (vars ++ frees) scope cl C s H ex) target g) (hi : ∀ C s H ex, PIfs (blk X (vars ++ frees) scope cl C s H ex) ifs tc) (he : ∀ C s H ex, PE (blk X (vars ++ frees) scope cl C s H ex) elt te)
    (hs : ∀ x, foldedSetIterable iter X.env x = pure x := by intro _; rfl) : PE X (.ListComp elt [⟨target, iter, ifs, 0⟩] scope pos) (tLC vars.length fv wi g tc te) := by
  intro pins s σ H Q I h
  rw [eval_ListComp]
  refine wpAny_comprehension_free (use := none) rfl hs L.clos L.kind L.names (thn (hit pins s σ H _ I h) fun v s1 h1 => thn h1 fun itv s2 h2 => ?_)
  obtain ⟨it, fp, tn, J, H2, e, I2, T, st2, f2, W, ⟨m0, w0⟩, turn⟩ := h2
  subst e
  refine wpAny_mono (lc_core (E := X.xe) (E2 := fun acc C x s' => compPost (model X.prog X.w) X.A X.xe none (EP X pins σ Q) acc C (.error x) s') hc L fo hk hg hi he I2 T st2 f2 w0 turn) (fun acc s3 h3 => thn h3 fun cenv s4 h4 => codeAny_mono h4 fun r s' h5 => ?_) fun _ _ z => z
  cases r with
  | error x => exact h5
  | ok f =>
    obtain ⟨D, rfl, ys, H', oC, m, J1, hn, fC, q⟩ := h5
    refine ⟨m, hn, fun h' sb => ⟨.ref D, _, ?_, rfl, q⟩⟩
    exact J1.unpinned.turned (t' := s'.toks) (it := cenv.locals) (fun b o hb e => (sb.2 b hb).trans e) fC.1 fC.2.1 fC.2.2.2.1 fC.2.2.2.2.1 fC.2.2.2.2.2
theorem ps_setLC {wi : TI} {g : TG} {tc : TT} {te : TE} {i : Nat} {x : Str} {spos pos' : Pos} (hN : X.N.Nodup) (hix : X.N[i]? = some x) (hlx : Loc X.env.scope x) (hc : X.calm = true) (L : LcOk X scope cl) (fo : FvOk X scope cl frees fv) (hit : PI X target iter wi) (hk : GKeep vars.length g)
    (hg : ∀ C s H ex, PG (blk X (vars ++ frees) scope cl C s H ex) target g) (hi : ∀ C s H ex, PIfs (blk X (vars ++ frees) scope cl C s H ex) ifs tc) (he : ∀ C s H ex, PE (blk X (vars ++ frees) scope cl C s H ex) elt te)
    (hsw : swapsWith (.ListComp elt [⟨target, iter, ifs, 0⟩] scope pos) (some (.Name x pos')) spos.line X.env = pure true := by rfl)
    (hs : ∀ x, foldedSetIterable iter X.env x = pure x := by intro _; rfl) (hf : X.fn x = true ∨ X.env.scope.names.lookup x = some .local := by first | exact .inl rfl | exact .inr rfl | assumption) :
    PS X (.Assign [.Name x pos'] (.ListComp elt [⟨target, iter, ifs, 0⟩] scope pos) spos) (tAsg (tLC vars.length fv wi g tc te) (gName i)) := by
  intro pins s σ H Dn I h
  rw [exec_Assign_Name_used _ _ _ _ hsw]
  refine wpAny_bind (wpAny_standAt (wpAny_bind ?_))
  show wpAny _ X.A (do let _ ← comprehension (.ListComp elt [⟨target, iter, ifs, 0⟩] scope pos) scope X.env _ (newList []) false (eval iter X.env) (some (assign (.Name x pos') X.env))) _ _ s
  refine wpAny_bind (wpAny_mono (wpAny_comprehension_free (use := some (assign (.Name x pos') X.env)) (Q := fun _ s' => SP X pins Dn .next s') rfl hs L.clos L.kind L.names (thn (hit pins s σ H _ I h) fun v s1 h1 => thn h1 fun itv s2 h2 => ?_)) (fun _ s' hq => wpAny_pure (wpAny_pure hq)) fun _ _ e => e)
  obtain ⟨it, fp, tn, J, H2, e, I2, T, st2, f2, W, ⟨m0, w0⟩, turn⟩ := h2
  subst e
  refine wpAny_mono (lc_core (Q := fun x H1 => gName i x σ H1 Dn.nx) (E := X.xe) (E2 := fun acc C y s' => compPost (model X.prog X.w) X.A X.xe (some (assign (.Name x pos') X.env)) (fun _ s' => SP X pins Dn .next s') acc C (.error y) s') hc L fo hk hg hi he I2 T st2 f2 w0 turn) (fun acc s3 h3 => thn h3 fun cenv s4 h4 => codeAny_mono h4 fun r s' h5 => ?_) fun _ _ z => z
  cases r with
  | error y => exact h5
  | ok f =>
    obtain ⟨D, rfl, ys, H', oC, m, J1, hn, fC, q⟩ := h5
    show wpAny (model X.prog X.w) X.A (assign (.Name x pos') X.env (.ref D)) (fun _ s'' => ∃ m, s''.heap.Ns cenv.locals m ∧ ∀ h', Heap.SameBut cenv.locals s''.heap h' → SP X pins Dn .next { s'' with heap := h' }) X.xe s'
    refine thn (pg_name (i := i) hN hix hlx hf _ s' σ _ (.ref D) (.ref D) (fun σ' H'' => Dn.nx σ' H'' ∧ H'' = upd H' D (.lst ys)) J1 rfl ⟨q, rfl⟩) fun _ s6 hq__ => ?_
    obtain ⟨σ6, H6, I6, q6, e6⟩ := hq__
    subst e6
    have eC := (I6.pin (cenv.locals, oC) (by simp)).1
    have eC' := (J1.pin (cenv.locals, oC) (by simp)).1
    obtain ⟨o, es, ep, ho, r1⟩ := hn
    rw [eC'] at ho
    cases ho
    refine ⟨m, ⟨oC, es, ep, eC, r1⟩, fun h' sb => ⟨σ6, _, ?_, q6⟩⟩
    exact I6.unpinned.turned (t' := s6.toks) (it := cenv.locals) (fun b o hb e => (sb.2 b hb).trans e) fC.1 fC.2.1 fC.2.2.2.1 fC.2.2.2.2.1 fC.2.2.2.2.2
end
end L2
namespace L2
open PySem PySem.Spec PyProof.Rows
theorem lc_list {K : PySem.W.Frag} {a : Addr} {xs : List V} {g : TG} {tc : TT} {te : TE} {Q : VK} {σ : St} {H : Hp} (Pv : Nat → List V → Hp → Prop) (hz : xs.length ≤ sizeLine) (h0 : Pv 0 [] H) (hl : ∀ i ys H, Pv i ys H → SqL K H a xs ∧ ys.length ≤ i)
    (hs : ∀ i x ys H, xs[i]? = some x → Pv i ys H → g x σ H fun σ4 H4 => tc σ4 H4 fun b H5 => if b = true then te σ4 H5 fun v H6 => Pv (i + 1) (ys ++ [v]) H6 else Pv (i + 1) ys H5)
    (hd : ∀ ys H p, Pv xs.length ys H → H p = none → Q (.ref p) (upd H p (.lst ys))) :
    lcGoal (Itl K a) Q g tc te σ H := by
  refine ⟨fun i m ys H => m = xs.length - i ∧ i ≤ xs.length ∧ Pv i ys H, ⟨xs.length, by simp, Nat.zero_le _, h0⟩, ?_⟩
  rintro i m ys H2 ⟨rfl, hi, p⟩
  obtain ⟨q, hy⟩ := hl i ys H2 p
  by_cases hlt : i < xs.length
  · refine .inr ⟨⟨xs, xs[i], q, by simp [hlt]⟩, by omega, Pv (i + 1), fun zs H' p' => ⟨xs.length - (i + 1), by omega, rfl, hlt, p'⟩, fun x H3 y => ?_⟩
    obtain ⟨e, y⟩ := y
    subst e
    exact hs i x ys _ (y xs q) p
  · have e : i = xs.length := by omega
    subst e
    exact .inl ⟨⟨xs, q, Nat.le_refl _⟩, by omega, fun p' hp' => hd ys H2 p' p hp'⟩
theorem lc_zip {K : PySem.W.Frag} {a b : Addr} {xs ys : List V} {g : TG} {tc : TT} {te : TE} {Q : VK} {σ : St} {H : Hp} (Pv : Nat → List V → Hp → Prop) (hz : xs.length ≤ sizeLine) (h0 : Pv 0 [] H) (hl : ∀ i zs H, Pv i zs H → SqL K H a xs ∧ SqL K H b ys ∧ zs.length ≤ i)
    (hs : ∀ i x y zs H p, xs[i]? = some x → ys[i]? = some y → H p = none → Pv i zs H → g (.ref p) σ (upd H p (.tup [x, y])) fun σ4 H4 => tc σ4 H4 fun b H5 => if b = true then te σ4 H5 fun v H6 => Pv (i + 1) (zs ++ [v]) H6 else Pv (i + 1) zs H5)
    (hd : ∀ i zs H p, i = min xs.length ys.length → Pv i zs H → H p = none → Q (.ref p) (upd H p (.lst zs))) :
    lcGoal (Itz K a b) Q g tc te σ H := by
  refine ⟨fun i m zs H => m = min xs.length ys.length - i ∧ i ≤ min xs.length ys.length ∧ Pv i zs H, ⟨min xs.length ys.length, by simp, Nat.zero_le _, h0⟩, ?_⟩
  rintro i m zs H2 ⟨rfl, hi, p⟩
  obtain ⟨qa, qb, hy⟩ := hl i zs H2 p
  by_cases hlt : i < min xs.length ys.length
  · have ha : i < xs.length := by omega
    have hb : i < ys.length := by omega
    refine .inr ⟨⟨xs, ys, xs[i], ys[i], qa, qb, by simp [ha], by simp [hb]⟩, by omega, Pv (i + 1), fun zs H' p' => ⟨min xs.length ys.length - (i + 1), by omega, rfl, hlt, p'⟩, fun x H3 y => ?_⟩
    obtain ⟨t, rfl, ht, y⟩ := y
    have ea : xs[i]? = some xs[i] := by simp [ha]
    have eb : ys[i]? = some ys[i] := by simp [hb]
    rw [y xs ys xs[i] ys[i] qa qb ea eb]
    exact hs i xs[i] ys[i] zs H2 t ea eb ht p
  · exact .inl ⟨⟨xs, ys, qa, qb, by omega⟩, by omega, fun p' hp' => hd i zs H2 p' (by omega) p hp'⟩
end L2
namespace L2
open PySem PySem.Spec PyProof.Rows
structure New (H H' : Hp) (p : Addr) (o : HO) : Prop where
  same : Same H H'
  fresh : H p = none
  at_ : H' p = some o
theorem new_upd {H : Hp} {p : Addr} {o : HO} (h : H p = none) : New H (upd H p o) p o := ⟨same_upd h, h, upd_same⟩
def But (l : Addr) (H H' : Hp) : Prop := ∀ b o, H b = some o → b ≠ l → H' b = some o
theorem but_upd {H : Hp} {l : Addr} {o : HO} : But l H (upd H l o) := fun b u e n => by rw [upd_ne n]; exact e
theorem But.same {H0 H H' : Hp} {l : Addr} (b : But l H H') (s : Same H0 H) (h : H0 l = none) : Same H0 H' := fun c o e => b c o (s c o e) (ne_of_none e h)
theorem But.tup {H H' : Hp} {l : Addr} {o : HO} (b : But l H H') (h : H l = some o) (n : ∀ xs, o ≠ .tup xs) : ∀ c xs, H c = some (.tup xs) → H' c = some (.tup xs) := fun c xs e => b c _ e (ne_of e h (fun z => n xs z.symm))
section
variable {X : Cx} {e : Expr} {es : List Expr} {te : TE} {t : TA} {pos : Pos}
def tTupN (t : TA) : TE := fun σ H Q => t σ H fun xs H1 => xs.length ≤ sizeLine ∧ ∀ p H', New H1 H' p (.tup xs) → Q (.ref p) H'
def tLstN (t : TA) : TE := fun σ H Q => t σ H fun xs H1 => xs.length ≤ sizeLine ∧ ∀ p H', New H1 H' p (.lst xs) → Q (.ref p) H'
theorem pe_tupN {x1} (h : PA X es t) : PE X (.Tuple es x1 pos) (tTupN t) := by
  intro pins s σ H Q I hq
  refine wpAny_Tuple_spliced (thn (h pos pins s σ H _ I hq) fun us s1 ⟨xs, H1, I1, r, z, q⟩ => ⟨by rw [← r.length]; exact z, ?_⟩)
  have hf : H1 s1.heap.objs.size = none := I1.hok.fresh (Nat.le_refl _)
  refine ⟨.ref s1.heap.objs.size, upd H1 s1.heap.objs.size (.tup xs), I1.laid (t' := s1.toks) (fun b u e => Heap.get?_push_of_some _ e) (Nat.le_refl _) ?_, rfl, q _ _ (new_upd hf)⟩
  exact ⟨z, us, r, ⟨_, Heap.get?_push_size _ rfl, rfl, _, rfl⟩⟩
theorem pe_lstN (h : PA X es t) : PE X (.List es pos) (tLstN t) := by
  intro pins s σ H Q I hq
  refine wpAny_List_spliced (thn (h pos pins s σ H _ I hq) fun us s1 ⟨xs, H1, I1, r, z, q⟩ => ⟨by rw [← r.length]; exact z, ?_⟩)
  have hf : H1 s1.heap.objs.size = none := I1.hok.fresh (Nat.le_refl _)
  refine ⟨.ref s1.heap.objs.size, upd H1 s1.heap.objs.size (.lst xs), I1.laid (t' := s1.toks) (fun b u e => Heap.get?_push_of_some _ e) (Nat.le_refl _) ?_, rfl, q _ _ (new_upd hf)⟩
  exact ⟨z, us, 0, r, Heap.get?_push_size _ rfl⟩
theorem CallR.imp {f : Value} {r r' : List V → Hp → VK → Prop} (h : CallR X f r) (i : ∀ xs H Q, r' xs H Q → r xs H Q) : CallR X f r' := fun pins s σ H xs us Q I v q => h pins s σ H xs us Q I v (i xs H Q q)
theorem OpR.imp {f : Value → Value → Sem Value} {r r' : R2} (h : OpR X f r) (i : ∀ x y H Q, r' x y H Q → r x y H Q) : OpR X f r' := fun pins s σ H x y v u Q I rx ry q => h pins s σ H x y v u Q I rx ry (i x y H Q q)
theorem MtM.imp {id : String} {r r' : V → List V → Hp → VK → Prop} (h : MtM X id r) (i : ∀ x xs H Q, r' x xs H Q → r x xs H Q) : MtM X id r' := fun pins s σ H x xs v us Q I rx rv q => h pins s σ H x xs v us Q I rx rv (i x xs H Q q)
theorem call_listN : CallR X (.type "list") (fun xs H Q => ∃ p ys, xs = [.ref p] ∧ (SqL X.K H p ys ∨ SqT X.K H p ys) ∧ ∀ l H', New H H' l (.lst ys) → Q (.ref l) H') :=
  call_list_of.imp fun _ _ _ ⟨p, ys, e, h, q⟩ => ⟨p, ys, e, h, fun l hl => q l _ (new_upd hl)⟩
def rSlLN (K : PySem.W.Frag) : V → Option Int → Option Int → Hp → VK → Prop := fun x lo hi H Q => ∃ a xs, x = .ref a ∧ SqL K H a xs ∧ ∀ p H', New H H' p (.lst (cutV xs lo hi)) → Q (.ref p) H'
theorem sl_listN : SlR X (rSlLN X.K) := fun pins s σ H x v vl vu lo hi sl Q I rx hs p1 p2 ⟨a, xs, e, h, q⟩ => sl_list pins s σ H x v vl vu lo hi sl Q I rx hs p1 p2 ⟨a, xs, e, h, fun p hp => q p _ (new_upd hp)⟩
def rCatN : R2 := fun x y H Q => ∃ l b xs zs, x = .ref l ∧ y = .ref b ∧ H l = some (.lst xs) ∧ H b = some (.lst zs) ∧ xs.length + zs.length ≤ sizeLine ∧ ∀ p H', New H H' p (.lst (xs ++ zs)) → Q (.ref p) H'
theorem op_catN : OpR X (binaryOp .Add) rCatN := op_cat.imp fun _ _ _ _ ⟨l, b, xs, zs, e1, e2, h1, h2, z, q⟩ => ⟨l, b, xs, zs, e1, e2, h1, h2, z, fun p hp => q p _ (new_upd hp)⟩
def rAppendN : V → List V → Hp → VK → Prop := fun x vs H Q => ∃ l xs y, x = .ref l ∧ vs = [y] ∧ H l = some (.lst xs) ∧ xs.length < sizeLine ∧ ∀ H', But l H H' → H' l = some (.lst (xs ++ [y])) → Q .non H'
theorem mt_appendN : MtM X "list.append" rAppendN := mt_append.imp fun _ _ _ _ ⟨l, xs, y, e1, e2, h, z, q⟩ => ⟨l, xs, y, e1, e2, h, z, q _ but_upd upd_same⟩
def rClearN : V → List V → Hp → VK → Prop := fun x vs H Q => ∃ l xs, x = .ref l ∧ vs = [] ∧ H l = some (.lst xs) ∧ ∀ H', But l H H' → H' l = some (.lst []) → Q .non H'
theorem mt_clearN : MtM X "list.clear" rClearN := mt_clear.imp fun _ _ _ _ ⟨l, xs, e1, e2, h, q⟩ => ⟨l, xs, e1, e2, h, q _ but_upd upd_same⟩
end
section
variable {X : Cx} {k : Nat} {C : Addr} {ps : List Str} {sp : Sp} {dvs : List V} {ds : List Value} {x f : Str} {p pos pos' : Pos} {e o value : Expr} {es : List Expr} {ta tv : TE} {t : TA}
def tMakeN (C : Addr) (sp : Sp) (dvs : List V) (E : XK) (t : TA) : TE := fun σ H Q => t σ H fun vs H1 => ∀ x dx H', Same H1 H' → H1 x = none → H' x = some (.ins C dx []) → sp (.ref x :: (vs ++ dvs)) H' (fun v H2 => v = .non ∧ Q (.ref x) H2) E
theorem pe_mkN (D : MkOk X.prog X.w X.K X.mg X.base C k x ps ds sp) (hr : Room (k + 1) X.A) (hg : Gl X x) (hd : Vals dvs ds) (ha : PA X (e :: es) t) (hdb : (x == ("__debug__" : Str)) = false := by decide)
    (he : starEach (e :: es) X.env = (false, eval e X.env) :: starEach es X.env := by rfl) (hpl : (backTo pos (starEach es X.env)).any (·.1) = false := by rfl) : PE X (.Call (.Name x p) (e :: es) [] pos) (tMakeN C sp dvs E0 t) := by
  obtain ⟨f, fd, F, hm, M, hb⟩ := D
  intro pins s σ H Q I h
  refine wpAny_Call_Name_kw (ld_glob I hg hm ?_ hdb)
  refine PySem.W.callWith_K (h₀ := X.base) I.ok.mod.kin M.kp (thn (ha pos pins s σ H _ I h) fun us s1 ⟨vs, H1, I1, r, q⟩ => ⟨I1.kIn, ?_⟩) he hpl
  refine run_make M F hr hb hd pass0 I1 r fun y dx h1 h2 h3 => q y dx _ ?_ h1 upd_same
  exact (same_upd h2).trans (same_upd (by rw [upd_ne h3.symm]; exact h1))
def sFldN (K : PySem.W.Frag) (ta tv : TE) (f : Str) : TS := fun D σ H => tv σ H fun y H1 => ta σ H1 fun x H2 => ∃ a C dx fs, x = .ref a ∧ H2 a = some (.ins C dx fs) ∧ Cls K C ∧ NoAttr K C f ∧ fs.length < 1000 ∧
  ∀ H', But a H2 H' → H' a = some (.ins C dx (putF f y fs)) → D.nx σ H'
theorem ps_fldN (ha : PE X o ta) (hv : PE X value tv) (hs : swapsWith value (some (.Attribute o f pos')) pos.line X.env = pure false) : PS X (.Assign [.Attribute o f pos'] value pos) (sFldN X.K ta tv f) := by
  intro pins s σ H D I h
  refine plainObj_wpAny_Assign_Attribute (thn (hv pins s σ H _ I h) fun u s1 ⟨y, H1, I1, ry, q⟩ => thn (ha pins s1 σ H1 _ I1 q) fun ov s2 hq__ => ?_) hs
  obtain ⟨x, H2, I2, rx, a, C, dx, fs, ex, ea, c, n, l, q2⟩ := hq__
  subst ex
  obtain rfl : ov = Value.ref a := rx
  exact setattr_ok I2 ea c n l ry fun s3 I3 => ⟨σ, _, I3, q2 _ but_upd upd_same⟩
end
theorem for_zipN {K : PySem.W.Frag} {a b : Addr} {xs ys : List V} {g : TG} {tb : TS} {D : Ends} {σ : St} {H : Hp} (Pv : Nat → St → Hp → Prop) (h0 : Pv 0 σ H) (hl : ∀ i σ H, Pv i σ H → SqL K H a xs ∧ SqL K H b ys)
    (hs : ∀ i x y σ H p H', xs[i]? = some x → ys[i]? = some y → New H H' p (.tup [x, y]) → Pv i σ H → g (.ref p) σ H' fun σ2 H2 => tb { D with nx := Pv (i + 1), ct := Pv (i + 1), bk := D.nx } σ2 H2)
    (hd : ∀ i σ H, i = min xs.length ys.length → Pv i σ H → D.nx σ H) :
    ∃ W : Nat → Nat → St → Hp → Prop, (∃ m, W 0 m σ H) ∧ ∀ i m σ H, W i m σ H →
      ((Itz K a b).stop i H ∧ D.nx σ H) ∨ ((Itz K a b).go i H ∧ ∃ N : St → Hp → Prop, (∀ σ' H', N σ' H' → ∃ m', m' < m ∧ W (i + 1) m' σ' H') ∧ ∀ x H', (Itz K a b).yld i H x H' → g x σ H' fun σ2 H2 => tb { D with nx := N, ct := N, bk := D.nx } σ2 H2) :=
  for_zip Pv h0 hl (fun i x y σ H p e1 e2 hn p' => hs i x y σ H p _ e1 e2 (new_upd hn) p') hd
theorem lcOk {X : Cx} {scope : Scope} {cl : List (Str × Addr)} (clos : closureFor scope X.env = pure cl) (kind : scope.kind = .function) (nocell : ∀ y ∈ scope.names, y.2 ≠ .cell)
    (names : ∀ y ∈ scope.names, y.2 = .local → scope.names.lookup y.1 = some .local) (sub : ∀ p ∈ cl, X.env.cells.lookup p.1 = some p.2)
    (has : ((relabel scope X.env).names.all fun y => (y.2 != .cell && y.2 != .free) || (cl.lookup y.1).isSome) = true) : LcOk X scope cl := by
  refine ⟨clos, kind, nocell, names, fun x c e => ?_, fun x h => ?_⟩
  · have : ∀ l : List (Str × Addr), l.lookup x = some c → (x, c) ∈ l := fun l => by
      induction l with
      | nil => intro z; simp at z
      | cons p r ih =>
        intro z
        obtain ⟨y, d⟩ := p
        rw [List.lookup_cons] at z
        by_cases q : (x == y) = true
        · rw [q] at z
          have e1 : x = y := by simpa using q
          have e2 : d = c := Option.some.inj z
          subst e1 e2
          exact List.mem_cons_self
        · have q' : (x == y) = false := by simpa using q
          rw [q'] at z
          exact List.mem_cons_of_mem _ (ih z)
    exact sub (x, c) (this cl e)
  · have : ∀ (l : List (Str × NameKind)) (k : NameKind), l.lookup x = some k → (x, k) ∈ l := fun l k => by
      induction l with
      | nil => intro z; simp at z
      | cons p r ih =>
        intro z
        obtain ⟨y, d⟩ := p
        rw [List.lookup_cons] at z
        by_cases q : (x == y) = true
        · rw [q] at z
          have e1 : x = y := by simpa using q
          have e2 : d = k := Option.some.inj z
          subst e1 e2
          exact List.mem_cons_self
        · have q' : (x == y) = false := by simpa using q
          rw [q'] at z
          exact List.mem_cons_of_mem _ (ih z)
    rw [List.all_eq_true] at has
    cases e : cl.lookup x with
    | some c => exact ⟨c, rfl⟩
    | none =>
      rcases h with h | h
      · have := has _ (this _ _ h)
        rw [e] at this
        simp at this
      · have := has _ (this _ _ h)
        rw [e] at this
        simp at this
end L2
namespace L2
open PySem PySem.Spec PyProof.Rows
section
variable {X : Cx}
theorem call_sum (hc : X.calm = true) : CallR X (.builtin "sum") (fun xs H Q => ∃ (p : Addr) (ns : List Int), xs = [.ref p] ∧ SqL X.K H p (ns.map V.int) ∧ Q (.int ns.sum) H) := by
  intro pins s σ H xs us Q I r h
  obtain ⟨p, ns, rfl, hq, q⟩ := h
  obtain ⟨u, rfl, ru⟩ := vals1 r
  cases (show u = Value.ref p from ru)
  obtain ⟨its, rv, pl, hz⟩ := I.list hq
  have hi : IntsAre its ns := L2.intsAre_of rv
  have hn := hi.numsOf
  obtain ⟨ys, e⟩ := hi.allInts.items
  have hl := pl.isList
  rw [e] at hl
  refine sum_intListG (I.ok.hd hc) hl fun h' tk t' hk => ⟨.int ns.sum, H, I.kept hk, ⟨t', ?_⟩, q⟩
  have e3 : its = (intItems ys).toList := by rw [← e]
  rw [e3, nums_intItems] at hn
  rw [preSum_eq, List.take_of_length_le (by simp), hn]
end
end L2
namespace L2
open PySem PySem.Spec PyProof.Rows
def FlT (h : Heap) (e T : Addr) (cls : Value) (dd : Option Addr) (fl : Value) : Prop :=
  ∃ oe vs oT ts, h.get? e = some oe ∧ oe.cls = cls ∧ oe.dict = dd ∧ oe.data = .fields vs ∧ vs[1]? = some (.ref T) ∧ T ≠ e ∧ h.get? T = some oT ∧ oT.data = .fields ts ∧ ts[3]? = some fl
def Fl0 (h : Heap) (e : Addr) (cls : Value) (dd : Option Addr) : Prop :=
  ∃ oe vs, h.get? e = some oe ∧ oe.cls = cls ∧ oe.dict = dd ∧ oe.data = .fields vs ∧ vs[1]? = some .none
def FpX (X : Cx) (H : Hp) (b : Addr) : Prop :=
  H b = none ∧ b ≠ X.env.locals ∧ b ∉ X.fs ∧ X.s₀.heap.get? b = none ∧ (∀ x c, X.env.cells.lookup x = some c → c ≠ b) ∧ ∀ p ∈ X.pn, p.1 ≠ b
def Fly (X : Cx) (H : Hp) (h : Heap) (e : Addr) (cls : Value) (dd : Option Addr) : Prop :=
  FpX X H e ∧ (Fl0 h e cls dd ∨ ∃ T fl, FpX X H T ∧ FlT h e T cls dd fl)
abbrev XW := Value → Option Addr → St → Hp → Prop
def XE (X : Cx) (W : XW) (ev : Value) (s : Shared) : Prop :=
  ∃ e cls dd σ H, ev = .ref e ∧ Inv X [] σ H s ∧ Fly X H s.heap e cls dd ∧ W cls dd σ H
def OnStk (X : Cx) : Prop := X.stack = X.env :: X.outer ∧ X.env.frame = some X.env.locals ∧ X.ex = []
section
variable {X : Cx} {σ : St} {H : Hp} {s : Shared} {h' : Heap} {M : Model} {A : Around} {E : Value → Shared → Prop} {e T : Addr} {cls fl : Value} {dd : Option Addr}
theorem ObjOk.there {P : Program} {w : World} {H : Hp} {h : Heap} {a : Addr} {o : HO} (x : ObjOk P w H h a o) : ∃ u, h.get? a = some u := by
  induction o with
  | lst xs => obtain ⟨_, _, _, _, e⟩ := x; exact ⟨_, e⟩
  | tup xs => obtain ⟨_, _, _, u, e, _⟩ := x; exact ⟨u, e⟩
  | dK kvs => obtain ⟨_, _, _, _, u, _, _, e, _⟩ := x; exact ⟨u, e⟩
  | dT kvs => obtain ⟨_, _, _, _, u, _, _, e, _⟩ := x; exact ⟨u, e⟩
  | set S n => obtain ⟨u, _, _, _, e, _⟩ := x; exact ⟨u, e⟩
  | ins C dx fs => obtain ⟨_, _, _, e, _⟩ := x; exact ⟨_, e⟩
  | own y => exact x
  | xd fs => obtain ⟨_, ⟨u, _, _, e, _⟩, _⟩ := x; exact ⟨u, e⟩
  | met f y => exact ⟨_, x⟩
  | rng lo hi => obtain ⟨_, _, _, e⟩ := x; exact ⟨_, e⟩
  | frz u v _ => obtain ⟨e, _⟩ := x; exact ⟨_, e⟩
  | tbl ps => exact ⟨_, x⟩
  | ext φ => exact x.2.1
theorem Inv.fpX {H' : Hp} {pins : List (Addr × Obj)} (hs : OnStk X) (I : Inv X pins σ H s) (hb : s.heap.get? e = none) (hn : H' e = none) : FpX X H' e := by
  refine ⟨hn, fun z => ?_, fun z => ?_, ?_, fun x c q z => ?_, fun p hp z => ?_⟩
  · obtain ⟨m, ⟨o, _, _, ho, _⟩, _⟩ := I.loc
    rw [← z, hb] at ho; cases ho
  · obtain ⟨_, o, ho, _⟩ := I.funs.mem z
    rw [hb] at ho; cases ho
  · cases q : X.s₀.heap.get? e with
    | none => rfl
    | some o =>
      obtain ⟨o', ho'⟩ := I.base.there e o q (by rw [hs.2.2]; simp)
      rw [hb] at ho'; cases ho'
  · obtain ⟨v, o, ho, _⟩ := I.cell x c q
    rw [z, hb] at ho; cases ho
  · have := (I.pin p (List.mem_append_left _ hp)).1
    rw [z, hb] at this; cases this
theorem Inv.turnR {H' : Hp} {t' : Nat} {ch : List Addr} (I : Inv X [] σ H s) (hf : ∀ b ∈ ch, FpX X H b) (k : ∀ b u, b ∉ ch → b ∉ frs X.stack → s.heap.get? b = some u → h'.get? b = some u)
    (k2 : ∀ b u, b ∉ ch → s.heap.get? b = some u → ∃ sl, h'.get? b = some { u with slots := sl }) (hH : ∀ b, b ∉ ch → H' b = H b) (hok : HOk X.prog X.w H' h') : Inv X [] σ H' { s with heap := h', toks := t' } := by
  have sup : ∀ b o, H b = some o → H' b = some o := fun b o q => by rw [hH b (fun z => by rw [(hf b z).1] at q; cases q)]; exact q
  have nosl : ∀ b, b ≠ X.env.locals → b ∉ X.fs → b ∉ frs X.stack := fun b h1 h2 z => (List.mem_cons.mp (I.stkSub b z)).elim h1 h2
  have neL : ∀ b o, X.s₀.heap.get? b = some o → b ≠ X.env.locals := fun b o q => Nat.ne_of_lt (Nat.lt_of_lt_of_le (Heap.lt_size q) I.ok.above)
  have neC : ∀ b o, X.s₀.heap.get? b = some o → b ∉ ch := fun b o q hb => by rw [(hf b hb).2.2.2.1] at q; cases q
  have cellK : ∀ x c, X.env.cells.lookup x = some c → ∀ v, s.heap.IsCell c v → h'.IsCell c v := fun x c q v ⟨o, ho, hd⟩ => by
    obtain ⟨sl, q'⟩ := k2 c o (fun z => (hf c z).2.2.2.2.1 x c q rfl) ho
    exact ⟨_, q', hd⟩
  refine ⟨I.ok, I.os, I.bare, ⟨fun b o q n hb hx => ?_, fun b o q n hb hx => ?_, fun b o q n hx => ?_, fun b o q hx => ?_, fun b xs q => sup _ _ (I.base.tups b xs q), fun b o xs q => sup _ _ (I.base.frzs b o xs q), fun b ps q => ?_⟩, ?_, fun x c q => ?_, ?_, fun x c q => ?_, fun p hp => ?_, hok, I.len⟩
  · exact k b o (neC b o q) (nosl b (neL b o q) hb) (I.base.keep b o q n hb hx)
  · obtain ⟨sl, e1⟩ := I.base.slot b o q n hb hx
    obtain ⟨sl', e2⟩ := k2 b _ (neC b o q) e1
    exact ⟨sl', e2⟩
  · rw [hH b (neC b o q)]
    exact I.base.free b o q n hx
  · obtain ⟨o', e1⟩ := I.base.there b o q hx
    obtain ⟨sl', e2⟩ := k2 b _ (neC b o q) e1
    exact ⟨_, e2⟩
  · obtain ⟨m1, e1⟩ := I.base.tbls b ps q
    exact ⟨m1, sup _ _ e1⟩
  · obtain ⟨m, hn, hl⟩ := I.loc
    refine ⟨m, ?_, fun i x v e1 e2 e3 => ?_⟩
    · obtain ⟨o, es, ep, ho, r⟩ := hn
      obtain ⟨sl, q⟩ := k2 _ o (fun z => (hf _ z).2.1 rfl) ho
      exact ⟨_, es, ep, q, r⟩
    · obtain ⟨u, r, l⟩ := hl i x v e1 e2 e3
      refine ⟨u, r, ?_⟩
      rcases l with l | ⟨kk, c, q, z⟩
      · exact .inl l
      · exact .inr ⟨kk, c, q, cellK x c q _ z⟩
  · obtain ⟨v, z⟩ := I.cell x c q
    exact ⟨v, cellK x c q v z⟩
  · rw [hH _ (fun z => (hf _ z).2.1 rfl)]; exact I.free
  · rw [hH _ (fun z => (hf _ z).2.2.2.2.1 x c q rfl)]; exact I.freeC x c q
  · obtain ⟨q, n, ne, nf, d⟩ := I.pin p hp
    have hp' : p ∈ X.pn := by
      have : p ∈ X.pn ++ ([] : List (Addr × Obj)) := hp
      simpa using this
    have nch : p.1 ∉ ch := fun z => (hf p.1 z).2.2.2.2.2 p hp' rfl
    exact ⟨k p.1 p.2 nch (nosl p.1 ne nf) q, by rw [hH _ nch]; exact n, ne, nf, d⟩
theorem Inv.turnS {t' : Nat} {ch : List Addr} (I : Inv X [] σ H s) (hf : ∀ b ∈ ch, FpX X H b) (k : ∀ b u, b ∉ ch → b ∉ frs X.stack → s.heap.get? b = some u → h'.get? b = some u)
    (k2 : ∀ b u, b ∉ ch → s.heap.get? b = some u → ∃ sl, h'.get? b = some { u with slots := sl }) : Inv X [] σ H { s with heap := h', toks := t' } := by
  have nch : ∀ b u, H b = some u → b ∉ ch := fun b u e z => by rw [(hf b z).1] at e; cases e
  have nst : ∀ b u, H b = some u → b ∉ frs X.stack := fun b u e z => by rw [I.stkFree b z] at e; cases e
  refine I.turnR hf k k2 (fun _ _ => rfl) fun b u e => ?_
  refine (I.hok b u e).stay (fun c v hc q => ?_) (fun _ q => q) fun _ _ q => q
  rcases hc with z | z
  · subst z; exact k _ v (nch _ u e) (nst _ u e) q
  · exact k c v (nch c _ z) (nst c _ z) q
theorem Inv.track {o : HO} (I : Inv X [] σ H s) (hf : FpX X H e) (ok : ObjOk X.prog X.w (upd H e o) s.heap e o) : Inv X [] σ (upd H e o) s := by
  refine I.turnR (h' := s.heap) (t' := s.toks) (ch := [e]) (fun b hb => by rw [List.mem_singleton.mp hb]; exact hf) (fun _ _ _ _ q => q) (fun b u _ q => ⟨u.slots, q⟩) (fun b hb => upd_ne (fun z => hb (by simp [z]))) fun b u q => ?_
  by_cases hb : b = e
  · subst hb; rw [upd_same] at q; cases q; exact ok
  · rw [upd_ne hb] at q
    exact (I.hok b u q).stay (fun _ _ _ q => q) (fun c q => by rw [upd_ne (ne_of_none q hf.1)]; exact q) fun c xs q => by rw [upd_ne (ne_of_none q hf.1)]; exact q
theorem entry_ok {oe : Obj} {vs : Array Value} {head : Value} {hadNext : Bool} {Q : Unit → Shared → Prop} (hs : OnStk X) (hA : A.frames = some X.stack) (I : Inv X [] σ H s) (hp : FpX X H e)
    (he : s.heap.get? e = some oe) (hc : oe.cls = cls) (hdd : oe.dict = dd) (hd : oe.data = .fields vs) (hsz : 1 < vs.size)
    (k : ∀ h' T, Inv X [] σ H { s with heap := h' } → FpX X H T → FlT h' e T cls dd (rawInt X.env.locals) → Q () { s with heap := h' }) :
    wpAny M A (do let a ← frameOf X.env; let pl ← entryPlaceOf X.env.locals hadNext; let b ← EntryCells.newEntry head a .none (rawInt X.env.locals) .none pl; setField (.ref e) 1 b) Q E s := by
  have hs0 := hs
  obtain ⟨hst, hfr, _⟩ := hs
  have hl := I.stack
  rw [hst] at hl hA
  have hene : e ∉ frs X.stack := fun hm => by
    rcases List.mem_cons.mp (I.stkSub e hm) with z | z
    · exact hp.2.1 z
    · exact hp.2.2.1 z
  refine wpAny_bind (wpAny_frameOf_fun hA hl hfr fun h₁ hs₁ => ?_)
  refine wpAny_bind (wpAny_entryPlaceOf fun pl hpl => ?_)
  unfold EntryCells.newEntry newFields
  refine wpAny_bind (wpAny_newObj_type ?_ (hpl.sizeOk5 _ _ _ _ _))
  have S : (X.env :: X.outer).filterMap (·.frame) = frs X.stack := by rw [hst]; rfl
  rw [S] at hs₁
  have he₁ : h₁.get? e = some oe := (hs₁.2.1 e hene).trans he
  generalize hob : ({ cls := .type "traceback", dict := none, data := .fields ([head, .ref X.env.locals, .none, rawInt X.env.locals, .none] ++ (if pl.isEmpty then List.replicate 6 Value.none else pl)).toArray } : Obj) = ob
  have hobd : ob.data = .fields ([head, .ref X.env.locals, .none, rawInt X.env.locals, .none] ++ (if pl.isEmpty then List.replicate 6 Value.none else pl)).toArray := by rw [← hob]
  have he₂ := Heap.get?_push_of_some (h := h₁) ob he₁
  refine wpAny_setField he₂ hd hsz ?_
  have hTe : h₁.objs.size ≠ e := Nat.ne_of_gt (Heap.lt_size he₁)
  have hd₃ := Obj.data_mapFields hd (·.setIfInBounds 1 (Value.ref h₁.objs.size))
  have he₃ := Heap.get?_update_self (Obj.mapFields (·.setIfInBounds 1 (Value.ref h₁.objs.size))) he₂ (Obj.isFreed_of_fields hd₃)
  have hT₃ := (Heap.get?_update_other (h₁.push ob) (Obj.mapFields (·.setIfInBounds 1 (Value.ref h₁.objs.size))) (Ne.symm hTe)).trans (Heap.get?_push_size h₁ (by rw [← hob]; rfl))
  have kk : ∀ b o, b ≠ e → h₁.get? b = some o → ((h₁.push ob).update e (Obj.mapFields (·.setIfInBounds 1 (Value.ref h₁.objs.size)))).get? b = some o := fun b o hb q => by
    rw [Heap.get?_update_other _ _ (Ne.symm hb)]
    exact Heap.get?_push_of_some _ q
  refine k _ h₁.objs.size (I.turnS (t' := s.toks) (ch := [e]) (fun b hb => by rw [List.mem_singleton.mp hb]; exact hp) (fun b u hb hn q => ?_) fun b u hb q => ?_) (I.fpX hs0 (by rw [hs₁.1]; exact Heap.get?_none_of_le (Nat.le_refl _)) (I.hok.fresh (by rw [hs₁.1]; exact Nat.le_refl _))) ?_
  · exact kk b u (fun z => hb (by simp [z])) ((hs₁.2.1 b hn).trans q)
  · obtain ⟨sl, q'⟩ := hs₁.2.2 b u q
    exact ⟨sl, kk b _ (fun z => hb (by simp [z])) q'⟩
  · refine ⟨_, _, _, _, he₃, (Obj.cls_mapFields _ _).trans hc, ?_, hd₃, by simp [hsz], hTe, hT₃, hobd, by simp⟩
    rw [← hdd]
    obtain ⟨c9, d9, dt9, sl9⟩ := oe
    cases dt9 <;> rfl
theorem note_ok {Q : Unit → Shared → Prop} (hs : OnStk X) (hA : A.frames = some X.stack) (I : Inv X [] σ H s) (F : Fly X H s.heap e cls dd)
    (k : ∀ h' T, Inv X [] σ H { s with heap := h' } → FpX X H T → FlT h' e T cls dd (rawInt X.env.locals) → Q () { s with heap := h' }) : wpAny M A (noteFrame (.ref e) X.env) Q E s := by
  obtain ⟨hp, F⟩ := F
  unfold noteFrame
  simp only [hs.2.1]
  rcases F with ⟨oe, vs, he, hc, hdd, hd, h1⟩ | ⟨T, fl, hT, oe, vs, oT, ts, he, hc, hdd, hd, h1, hTe, hoT, hdT, h3⟩
  · refine wpAny_bind (wpAny_field he hd h1 ?_)
    rw [if_neg (by decide)]
    exact entry_ok hs hA I hp he hc hdd hd (Array.getElem?_eq_some_iff.mp h1).1 k
  · refine wpAny_bind (wpAny_field he hd h1 ?_)
    rw [if_pos (show (Value.ref T != Value.none) = true from by simp)]
    refine wpAny_bind (wpAny_field hoT hdT h3 ?_)
    by_cases hfl : (fl == rawInt X.env.locals) = true
    · rw [if_pos hfl]
      have := k s.heap T I hT ⟨oe, vs, oT, ts, he, hc, hdd, hd, h1, hTe, hoT, hdT, by rw [h3, beq_iff_eq.mp hfl]⟩
      exact wpAny_pure this
    · rw [if_neg hfl]
      refine wpAny_bind (wpAny_setField hoT hdT (Array.getElem?_eq_some_iff.mp h3).1 ?_)
      have other : ∀ b, b ≠ T → (s.heap.update T (Obj.mapFields (·.setIfInBounds 3 Value.none))).get? b = s.heap.get? b := fun b hb => Heap.get?_update_other _ _ (Ne.symm hb)
      have I2 : Inv X [] σ H { s with heap := s.heap.update T (Obj.mapFields (·.setIfInBounds 3 Value.none)) } :=
        I.turnS (t' := s.toks) (ch := [T]) (fun b hb => by rw [List.mem_singleton.mp hb]; exact hT) (fun b u hb _ q => (other b (fun z => hb (by simp [z]))).trans q) fun b u hb q => ⟨u.slots, (other b (fun z => hb (by simp [z]))).trans q⟩
      exact entry_ok hs hA I2 hp ((other e (Ne.symm hTe)).trans he) hc hdd hd (Array.getElem?_eq_some_iff.mp h1).1 k
theorem flight_ok {Q : Unit → Shared → Prop} (fr : Option Addr) (I : Inv X [] σ H s) (hT : FpX X H T) (F : FlT s.heap e T cls dd fl)
    (k : ∀ h', Inv X [] σ H { s with heap := h' } → FlT h' e T cls dd (fr.elim .none fun f => rawInt f) → Q () { s with heap := h' }) : wpAny M A (setFlight (.ref e) fr) Q E s := by
  obtain ⟨oe, vs, oT, ts, he, hc, hdd, hd, h1, hTe, hoT, hdT, h3⟩ := F
  have hsz3 : 3 < ts.size := (Array.getElem?_eq_some_iff.mp h3).1
  have other : ∀ b, b ≠ T → (s.heap.update T (Obj.mapFields (·.setIfInBounds 3 (fr.elim .none fun f => rawInt f)))).get? b = s.heap.get? b := fun b hb => Heap.get?_update_other _ _ (Ne.symm hb)
  unfold setFlight
  refine wpAny_bind (wpAny_field he hd h1 ?_)
  rw [if_pos (show (Value.ref T != Value.none) = true from by simp)]
  refine wpAny_setField hoT hdT hsz3 (k _ ?_ ?_)
  · exact I.turnS (t' := s.toks) (ch := [T]) (fun b hb => by rw [List.mem_singleton.mp hb]; exact hT) (fun b u hb _ q => (other b (fun z => hb (by simp [z]))).trans q) fun b u hb q => ⟨u.slots, (other b (fun z => hb (by simp [z]))).trans q⟩
  · exact ⟨oe, vs, _, _, (other e (Ne.symm hTe)).trans he, hc, hdd, hd, h1, hTe, Heap.get?_update_self _ hoT (Obj.isFreed_of_fields (Obj.data_mapFields hdT _)), Obj.data_mapFields hdT _, by simp [hsz3]⟩
theorem passes_own {W : XW} (hs : OnStk X) : PassesOwn (model X.prog X.w) X.A X.env (XE X W) := by
  rintro ev s ⟨e, cls, dd, σ, H, rfl, I, F, hw⟩
  refine note_ok hs I.ok.frames I F fun h1 T I1 hT F1 => ?_
  unfold cameBackBy
  obtain ⟨oe, vs, oT, ts, he, hc, hdd, hd, h1', hTe, hoT, hdT, h3⟩ := id F1
  refine wpAny_bind (wpAny_field he hd h1' ?_)
  rw [if_neg (show ¬ (Value.ref T == Value.none) = true from by simp)]
  exact flight_ok _ I1 hT F1 fun h2 I2 F2 => ⟨e, cls, dd, σ, H, rfl, I2, ⟨F.1, .inr ⟨T, _, hT, F2⟩⟩, hw⟩
end
def CX1 (P : Program) (w : World) : CXT := fun outer H s E ev s' => ∃ e T cls dd H', ev = .ref e ∧ s'.os = s.os ∧ AllBare s'.gens ∧ Un (frs outer) [] H H' s.heap s'.heap ∧ HOk P w H' s'.heap ∧ FlT s'.heap e T cls dd .none ∧ H' e = none ∧ H' T = none ∧
  s.heap.get? e = none ∧ s.heap.get? T = none ∧ E cls dd H'
theorem CX1.xe {X : Cx} {W : XW} {pins : List (Addr × Obj)} {σ : St} {H : Hp} {s s' : Shared} {ev : Value} (hs : OnStk X) (I : Inv X pins σ H s) (h : CX1 X.prog X.w X.stack H s (fun c d H' => W c d σ H') ev s') : XE X W ev s' := by
  obtain ⟨e, T, cls, dd, H', rfl, os, bare, un, hok, F, he, hT, le, lT, q⟩ := h
  have J : Inv X [] σ H s := I.pins_of (by simp)
  have J' : Inv X [] σ H' s' := by
    obtain ⟨hh, g, d, t, os'⟩ := s'
    obtain rfl : os' = s.os := os
    exact J.call (h' := hh) (g' := g) (d' := d) (t' := t) (ch := []) un hok bare (fun b z => absurd z (by simp))
  exact ⟨e, cls, dd, σ, H', rfl, J', ⟨J.fpX hs le he, .inr ⟨T, _, J.fpX hs lT hT, F⟩⟩, q⟩
theorem xe_out {P : Program} {w : World} {K : PySem.W.Frag} {mg : Str → Option Value} {base : Heap} {N : List Str} {qual : Str} {scope : Scope} {f : Addr} {cd : Value} {A : Around} {outer : List Env} {s : Shared} {H : Hp} {E : XK} {ev : Value} {s' : Shared}
    (h : XE (cxOf (CX1 P w) P w K mg base N qual scope f cd A outer s H E) (fun c d _ H' => E c d H') ev s') : (cxOf (CX1 P w) P w K mg base N qual scope f cd A outer s H E).xe ev s' := by
  obtain ⟨e, cls, dd, σ, H', rfl, I, F, q⟩ := h
  show wpAny _ _ (leaving _ _) _ _ _
  unfold leaving
  refine wpAny_bind (note_ok (X := cxOf (CX1 P w) P w K mg base N qual scope f cd A outer s H E) ⟨rfl, rfl, rfl⟩ I.ok.frames I F fun h1 T I1 hT F1 => ?_)
  refine flight_ok none I1 hT F1 fun h2 I2 F2 => ?_
  exact ⟨e, T, cls, dd, H', rfl, I2.os, I2.bare, I2.base, I2.hok, F2, F.1.1, hT.1, F.1.2.2.2.1, hT.2.2.2.1, q⟩
def Wants (X : Cx) (W : XW) : Prop := OnStk X ∧ ∀ ev s, XE X W ev s → X.xe ev s
theorem XE.unwish {X : Cx} {E : Value → Shared → Prop} {W : XW} {ev : Value} {s : Shared} (h : XE (X.wish E) W ev s) : XE X W ev s :=
  let ⟨e, cls, dd, σ, H, q, I, F, w⟩ := h; ⟨e, cls, dd, σ, H, q, I.unwish, F, w⟩
theorem XE.wish {X : Cx} {E : Value → Shared → Prop} {W : XW} {ev : Value} {s : Shared} (h : XE X W ev s) : XE (X.wish E) W ev s :=
  let ⟨e, cls, dd, σ, H, q, I, F, w⟩ := h; ⟨e, cls, dd, σ, H, q, I.wish _, F, w⟩
theorem wants_wish {X : Cx} {W : XW} (hs : OnStk X) : Wants (X.wish (XE X W)) W := ⟨hs, fun _ _ h => h.unwish⟩
theorem own_wish {X : Cx} {W : XW} (hs : OnStk X) : PassesOwn (model X.prog X.w) X.A X.env (X.wish (XE X W)).xe := passes_own hs
theorem PSs.imp {X : Cx} {E : Value → Shared → Prop} {st : List Stmt} {t : TS} (hE : ∀ ev s, E ev s → X.xe ev s) (h : PSs (X.wish E) st t) : PSs X st t := fun pins s σ H D I hw =>
  wpAny_mono (h pins s σ H D (I.wish _) hw) (fun _ _ q => q.unwish) fun e s z => hE e s z
section
variable {P : Program} {w : World} {K : PySem.W.Frag} {mg : Str → Option Value} {base : Heap}
abbrev bx (P : Program) (w : World) (K : PySem.W.Frag) (mg : Str → Option Value) (base : Heap) (N : List Str) (qual : Str) (scope : Scope) (f : Addr) (cd : Value) (A : Around) (outer : List Env) (s : Shared) (H : Hp) (E : XK) : Cx :=
  (cxOf (CX1 P w) P w K mg base N qual scope f cd A outer s H E).wish (XE (cxOf (CX1 P w) P w K mg base N qual scope f cd A outer s H E) (fun c d _ H' => E c d H'))
theorem Fun.okX {x qual : Str} {st : Stmt} {f : Addr} {fd : FuncData} {N ps : List Str} {k : Nat} {sp : Sp} (F : Fun K x qual st f fd) (S : FnScope N ps (defScope st)) (len : ∀ vs H Q E, sp vs H Q E → vs.length = ps.length)
    (hbody : ∀ (cdv : Value) (A : Around) (outer : List Env) (s : Shared) (H : Hp) (vs : List V) (Q : VK) (E : XK), Room k (A.deeper (envOfC qual (defScope st) s.heap.objs.size f cdv)) → sp vs H Q E →
      ∃ t, PSs (bx P w K mg base N qual (defScope st) f cdv A outer s H E) (defBody st) t ∧ t { nx := fun _ H' => Q .non H', rt := Q } (start N vs) H) : FnOk P w K mg base (CX1 P w) (k + 1) f fd ps sp := by
  obtain ⟨oc, od, kV, doc, pm, an, cdv, ct, osl, rfl, lk, hcd⟩ := F.ex
  refine fn_of lk hcd S len fun A outer s H vs Q E hr hsp => ?_
  obtain ⟨t, h, q⟩ := hbody cdv A outer s H vs Q E hr hsp
  exact ⟨t, h.imp fun _ _ z => xe_out z, q⟩
theorem FunD.okX {x qual : Str} {st : Stmt} {dV : Value} {f : Addr} {fd : FuncData} {N ps : List Str} {k : Nat} {sp : Sp} (F : FunD K x qual st dV f fd) (S : FnScope N ps (defScope st)) (len : ∀ vs H Q E, sp vs H Q E → vs.length = ps.length)
    (hbody : ∀ (cdv : Value) (A : Around) (outer : List Env) (s : Shared) (H : Hp) (vs : List V) (Q : VK) (E : XK), Room k (A.deeper (envOfC qual (defScope st) s.heap.objs.size f cdv)) → sp vs H Q E →
      ∃ t, PSs (bx P w K mg base N qual (defScope st) f cdv A outer s H E) (defBody st) t ∧ t { nx := fun _ H' => Q .non H', rt := Q } (start N vs) H) : FnOk P w K mg base (CX1 P w) (k + 1) f fd ps sp := by
  obtain ⟨oc, od, kV, doc, pm, an, cdv, ct, osl, rfl, lk, hcd⟩ := F.ex
  refine fn_of lk hcd S len fun A outer s H vs Q E hr hsp => ?_
  obtain ⟨t, h, q⟩ := hbody cdv A outer s H vs Q E hr hsp
  exact ⟨t, h.imp fun _ _ z => xe_out z, q⟩
end
def DefX (P : Program) (w : World) (K : PySem.W.Frag) (mg : Str → Option Value) (base : Heap) (k : Nat) (x : Str) (ps : List Str) (ds : List Value) (sp : Sp) : Prop :=
  ∃ f fd, FnOk P w K mg base (CX1 P w) k f fd ps sp ∧ mg x = some (.ref f) ∧ PySem.W.keepIn K (.ref f) = true ∧ Binds K fd ps ds
def tCallX (sp : Sp) (dvs : List V) (W : XW) (t : TA) : TE := fun σ H Q => t σ H fun vs H1 => sp (vs ++ dvs) H1 Q fun c d H' => W c d σ H'
section
variable {X : Cx} {W : XW} {k : Nat} {f C : Addr} {fd : FuncData} {ps : List Str} {sp : Sp} {dvs : List V} {ds : List Value} {x m : Str} {p pos apos : Pos} {e o : Expr} {es : List Expr} {ta : TE} {t : TA}
theorem run_fnX {pins : List (Addr × Obj)} {σ : St} {H : Hp} {s : Shared} {Q : VK} {us : List Value} {vs : List V} (hW : Wants X W) (F : FnOk X.prog X.w X.K X.mg X.base (CX1 X.prog X.w) k f fd ps sp) (hr : Room k X.A) (hb : Binds X.K fd ps ds) (hd : Vals dvs ds)
    (I : Inv X pins σ H s) (r : Vals vs us) (h : sp (vs ++ dvs) H Q fun c d H' => W c d σ H') : wpAny (model X.prog X.w) X.A (call (.ref f) us) (EP X pins σ Q) X.xe s := by
  have r2 : Vals (vs ++ dvs) (us ++ ds) := r.append hd
  have hl : (us ++ ds).length = ps.length := by rw [← r2.length]; exact F.len _ _ _ _ h
  refine wpAny_call (codeAny_mono (F.run X.A X.stack s H ⟨us, []⟩ (us ++ ds) (vs ++ dvs) Q _ hr I.env0 (hb s us I.kIn hl) r2 h) fun r s' hq => ?_)
  cases r with
  | error e => exact hW.2 _ _ (CX1.xe hW.1 I hq)
  | ok fl =>
    cases fl with
    | ret u => exact I.after hq
    | next => exact False.elim hq
    | brk => exact False.elim hq
    | cont => exact False.elim hq
theorem pe_fnX (hW : Wants X W) (D : DefX X.prog X.w X.K X.mg X.base k x ps ds sp) (hr : Room k X.A) (hg : Gl X x) (hd : Vals dvs ds) (ha : PA X (e :: es) t) (hdb : (x == ("__debug__" : Str)) = false := by decide)
    (he : starEach (e :: es) X.env = (false, eval e X.env) :: starEach es X.env := by rfl) (hpl : (backTo pos (starEach es X.env)).any (·.1) = false := by rfl) : PE X (.Call (.Name x p) (e :: es) [] pos) (tCallX sp dvs W t) := by
  obtain ⟨f, fd, F, hm, hk, hb⟩ := D
  intro pins s σ H Q I h
  refine wpAny_Call_Name_kw (ld_glob I hg hm ?_ hdb)
  refine PySem.W.callWith_K (h₀ := X.base) I.ok.mod.kin hk (thn (ha pos pins s σ H _ I h) fun us s1 ⟨vs, H1, I1, r, q⟩ => ⟨I1.kIn, ?_⟩) he hpl
  exact run_fnX hW F hr hb hd I1 r q
end
def veMro : List Value := [.type "ValueError", .type "Exception", .type "BaseException", .type "object"]
def ExcC (K : PySem.W.Frag) (C : Addr) : Prop := PySem.W.excIn K C veMro "ValueError.__new__" = true
theorem ns_bk {h h' : Heap} {N : Addr} {m : Str → Option Value} (k : ∀ b o, h.get? b = some o → h'.get? b = some o) (n : h.Ns N m) : h'.Ns N m :=
  let ⟨o, es, ep, e, r⟩ := n; ⟨o, es, ep, k _ _ e, r⟩
end L2
namespace L2
open PySem PySem.Spec PyProof.Rows
def excO (a : Addr) (cls : Value) (dd : Option Addr) : HO := .ext fun h => ∃ oe vs, h.get? a = some oe ∧ oe.cls = cls ∧ oe.dict = dd ∧ oe.data = .fields vs
abbrev hnd (X : Cx) (e : Addr) : Cx := { X with A := X.A.mark (some (.ref e)), calm := false, xe := fun _ _ => False }
abbrev pnd (X : Cx) (pn : List (Addr × Obj)) : Cx := { X with pn := pn }
section
variable {X : Cx} {pins : List (Addr × Obj)} {σ : St} {H : Hp} {s : Shared} {e : Addr}
theorem Inv.hnd (I : Inv X pins σ H s) (e : Addr) : Inv (hnd X e) pins σ H s :=
  ⟨⟨I.ok.mod, I.ok.kind, I.ok.glob, I.ok.blt, I.ok.above, I.ok.inj, I.ok.has, I.ok.cab, (fun z => nomatch z), I.ok.frames, I.ok.stk, I.ok.exf, I.ok.bs, I.ok.bsz, I.ok.noex, I.ok.exfs, I.ok.funs, I.ok.frf⟩, I.os, I.bare, I.base, I.loc, I.cell, I.free, I.freeC, I.pin, I.hok, I.len⟩
theorem Inv.unhnd (hd : X.calm = true → X.A.handled = none) (I : Inv (L2.hnd X e) pins σ H s) : Inv X pins σ H s :=
  ⟨⟨I.ok.mod, I.ok.kind, I.ok.glob, I.ok.blt, I.ok.above, I.ok.inj, I.ok.has, I.ok.cab, hd, I.ok.frames, I.ok.stk, I.ok.exf, I.ok.bs, I.ok.bsz, I.ok.noex, I.ok.exfs, I.ok.funs, I.ok.frf⟩, I.os, I.bare, I.base, I.loc, I.cell, I.free, I.freeC, I.pin, I.hok, I.len⟩
theorem Inv.pnd (I : Inv X pins σ H s) : Inv (pnd X (X.pn ++ pins)) [] σ H s :=
  ⟨⟨I.ok.mod, I.ok.kind, I.ok.glob, I.ok.blt, I.ok.above, I.ok.inj, I.ok.has, I.ok.cab, I.ok.hd, I.ok.frames, I.ok.stk, I.ok.exf, I.ok.bs, I.ok.bsz, I.ok.noex, I.ok.exfs, I.ok.funs, I.ok.frf⟩, I.os, I.bare, I.base, I.loc, I.cell, I.free, I.freeC, fun p hp => I.pin p (by
    have : p ∈ (X.pn ++ pins) ++ ([] : List (Addr × Obj)) := hp
    simpa using this), I.hok, I.len⟩
theorem Inv.unpnd (I : Inv (L2.pnd X (X.pn ++ pins)) [] σ H s) : Inv X pins σ H s :=
  ⟨⟨I.ok.mod, I.ok.kind, I.ok.glob, I.ok.blt, I.ok.above, I.ok.inj, I.ok.has, I.ok.cab, I.ok.hd, I.ok.frames, I.ok.stk, I.ok.exf, I.ok.bs, I.ok.bsz, I.ok.noex, I.ok.exfs, I.ok.funs, I.ok.frf⟩, I.os, I.bare, I.base, I.loc, I.cell, I.free, I.freeC, fun p hp => I.pin p (by
    show p ∈ (X.pn ++ pins) ++ ([] : List (Addr × Obj))
    simpa using hp), I.hok, I.len⟩
theorem SP.unpnd {E : Value → Shared → Prop} {D : Ends} {f : Flow} {s' : Shared} (h : SP ((L2.pnd X (X.pn ++ pins)).wish E) [] D f s') : SP X pins D f s' := by
  cases f with
  | next => obtain ⟨σ', H', I, q⟩ := h; exact ⟨σ', H', I.unwish.unpnd, q⟩
  | brk => obtain ⟨σ', H', I, q⟩ := h; exact ⟨σ', H', I.unwish.unpnd, q⟩
  | cont => obtain ⟨σ', H', I, q⟩ := h; exact ⟨σ', H', I.unwish.unpnd, q⟩
  | ret u => obtain ⟨v, σ', H', I, r, q⟩ := h; exact ⟨v, σ', H', I.unwish.unpnd, r, q⟩
theorem Inv.gone {h' : Heap} {t' : Nat} {n : Str} {j : Nat} {m : Str → Option Value} {v : Option Value} (I : Inv X pins σ H s) (hN : X.N.Nodup) (hj : X.N[j]? = some n) (hm : s.heap.Ns X.env.locals m)
    (hl : ∀ (i : Nat) (x : Str) (v : V), X.N[i]? = some x → σ[i]? = some (some v) → Vis X.env.scope x → ∃ u, RelV v u ∧ Look X.env s.heap m x u)
    (hn : h'.Ns X.env.locals (fun x => if x = n then v else m x)) (hs : Heap.SameBut X.env.locals s.heap h') : Inv X pins (σ.set j none) H { s with heap := h', toks := t' } := by
  have ne0 : ∀ b o, X.s₀.heap.get? b = some o → b ≠ X.env.locals := fun b o q => Nat.ne_of_lt (Nat.lt_of_lt_of_le (Heap.lt_size q) I.ok.above)
  refine ⟨I.ok, I.os, I.bare, ⟨fun b o q n hb hx => ?_, fun b o q n hb hx => ?_, I.base.free, fun b o q hx => ?_, I.base.tups, I.base.frzs, I.base.tbls⟩, ⟨_, hn, fun i y v' e1 e2 e3 => ?_⟩, fun y c q => ?_, I.free, I.freeC, fun p hp => ?_, fun b u q => ?_, by simpa using I.len⟩
  · exact (hs.2 b (ne0 b o q)).trans (I.base.keep b o q n hb hx)
  · obtain ⟨sl, e1⟩ := I.base.slot b o q n hb hx
    exact ⟨sl, (hs.2 b (ne0 b o q)).trans e1⟩
  · obtain ⟨o', e1⟩ := I.base.there b o q hx
    exact ⟨o', (hs.2 b (ne0 b o q)).trans e1⟩
  · by_cases hij : i = j
    · subst hij
      have hi : i < σ.length := by rw [I.len]; exact (List.getElem?_eq_some_iff.mp hj).1
      rw [List.getElem?_set_self hi] at e2
      cases e2
    · rw [List.getElem?_set_ne (Ne.symm hij)] at e2
      obtain ⟨u', r', q⟩ := hl i y v' e1 e2 e3
      refine ⟨u', r', ?_⟩
      rcases q with ⟨k, q⟩ | ⟨k, c, q, z⟩
      · have ny : y ≠ n := fun z => hij (nodup_ix hN e1 (z ▸ hj))
        exact .inl ⟨k, by simp [ny, q]⟩
      · exact .inr ⟨k, c, q, z.sameBut hs (I.cne y c q)⟩
  · obtain ⟨w', z⟩ := I.cell y c q
    exact ⟨w', z.sameBut hs (I.cne y c q)⟩
  · obtain ⟨q, n, ne, nf, d⟩ := I.pin p hp
    exact ⟨(hs.2 p.1 ne).trans q, n, ne, nf, d⟩
  · refine (I.hok b u q).stay (fun c w' hc q' => (hs.2 c ?_).trans q') (fun _ q => q) fun _ _ q => q
    rintro rfl
    rcases hc with z | z
    · rw [← z, I.free] at q; cases q
    · rw [I.free] at z; cases z
theorem goes_ok {M : Model} {A : Around} {E : Value → Shared → Prop} {n : Str} {j : Nat} {pos : Pos} {Q : Unit → Shared → Prop} (I : Inv X pins σ H s) (hN : X.N.Nodup) (hj : X.N[j]? = some n) (hl : X.env.kindOf n = some .local)
    (k : ∀ s', Inv X pins (σ.set j none) H s' → Q () s') : wpAny M A (do bindName X.env n .none; unbindBehindTheSuite X.env n pos) Q E s := by
  obtain ⟨m, hm, hl'⟩ := id I.loc
  exact wpAny_nameGoes_keeps hl hm (by rw [I.ok.kind]; rfl) fun h' v hn hs => k _ (I.gone hN hj hm hl' hn hs)
end
def Hits (K : PySem.W.Frag) (C : Addr) (cls : Value) : Prop := ∃ D, cls = .ref D ∧ PySem.W.ktsIn K D "BaseException" = true ∧ PySem.W.mroIn K D (.ref C) = some true
theorem mro_of {K : PySem.W.Frag} {h : Heap} {C : Addr} {base : Value} {r : Bool} {nm q : Str} {N : Addr} {bs bm : List Value} {hdct : Bool} {sn : List Str} {sub : List Value} {ab : Bool} {col : Option Bool} {dd : Option Addr} {k0 k1 k2 k3 k5 : Option Value} {newId : String}
    (X : K.In h) (e : PySem.W.mroIn K C base = some r) (hC : h.get? C = some (excClassObj nm q C N bs bm hdct sn sub ab col dd k0 k1 k2 k3 k5 newId)) : (Value.ref C :: bm).contains base = r := by
  unfold PySem.W.mroIn PySem.W.clsIn at e
  split at e
  case h_1 ho =>
    have := X _ _ ho
    rw [hC] at this
    cases this
    simpa using e
  case h_2 => simp at e
theorem excMatches_own {M : Model} {A : Around} {E : Value → Shared → Prop} {K : PySem.W.Frag} {s : Shared} {e C D : Addr} {oe : Obj} {Q : Bool → Shared → Prop} (X : K.In s.heap) (he : s.heap.get? e = some oe) (hcls : oe.cls = .ref D)
    (hC : PySem.W.ktsIn K C "BaseException" = true) (hD : PySem.W.ktsIn K D "BaseException" = true) (hs : PySem.W.mroIn K D (.ref C) = some true) (hq : Q true s) : wpAny M A (excMatches (.ref e) (.ref C)) Q E s := by
  obtain ⟨nm, qn, N, bs, bm, hdct, sn, sub, ab, col, dd, k0, k1, k2, k3, k5, newId, gC, hb, _⟩ := PySem.W.kts_cls X hC
  obtain ⟨nm', qn', N', bs', bm', hdct', sn', sub', ab', col', dd', k0', k1', k2', k3', k5', newId', gD, hb', _⟩ := PySem.W.kts_cls X hD
  have hcB : (Value.ref C :: bm).contains (.type "BaseException") = true := by rw [List.contains_cons, hb, Bool.or_true]
  have hcC := mro_of X hs gD
  have f := tc_notTuple
  obtain ⟨hp, g, d, tk, os⟩ := s
  unfold excMatches
  repeat (first | (with_reducible refine wpAny_loadPart_at he ?_; rw [hcls]) | with_reducible refine wpAny_loadPart_at gC ?_ | (with_reducible refine wpAny_isSubtype_exc gC ?_; rw [hcB]) | (with_reducible refine wpAny_isSubtype_exc gD ?_; rw [hcC]) | wp_step)
  exact hq
def hEnds (D : Ends) (j : Nat) : Ends := { nx := fun σ H => D.nx (σ.set j none) H, rt := D.rt, bk := fun σ H => D.bk (σ.set j none) H, ct := fun σ H => D.ct (σ.set j none) H }
def hW (K : PySem.W.Frag) (C : Addr) (th : TS) (j : Nat) (D : Ends) : XW := fun cls dd σ H => Hits K C cls ∧ ∀ e H', New H H' e (excO e cls dd) → th (hEnds D j) (σ.set j (some (.ref e))) H'
def sTry (K : PySem.W.Frag) (C : Addr) (tb : XW → TS) (th : TS) (j : Nat) : TS := fun D σ H => tb (hW K C th j D) D σ H
theorem ps_try {X : Cx} {C : Addr} {x n : Str} {j : Nat} {np hpos pos : Pos} {body suite : List Stmt} {b₀ : Stmt} {tb : XW → TS} {th : TS} (hs : OnStk X) (hN : X.N.Nodup) (hj : X.N[j]? = some n) (hl : X.env.kindOf n = some .local) (hx : X.env.scope.names.lookup n = some .local)
    (hg : Gl X x) (hm : X.mg x = some (.ref C)) (hC : PySem.W.ktsIn X.K C "BaseException" = true)
    (hb : ∀ pn W, PSs ((pnd X pn).wish (XE (pnd X pn) W)) body (tb W)) (hh : ∀ pn e, PSs (hnd (pnd X pn) e) (b₀ :: suite) th) (hdb : (x == ("__debug__" : Str)) = false := by decide) :
    PS X (.Try body [.ExceptHandler (some (.Name x np)) (some n) (b₀ :: suite) hpos] [] [] pos) (sTry X.K C tb th j) := by
  intro pins s σ H D I h
  have I0 : Inv (pnd X (X.pn ++ pins)) [] σ H s := I.pnd
  refine wpAny_Try_except (wpAny_mono (hb (X.pn ++ pins) _ [] s σ H D (I0.wish _) h) (fun f s1 q => ?_) fun ev s1 q => ?_)
  · cases f with
    | next => exact wpAny_execs_nil q.unpnd
    | brk => exact q.unpnd
    | cont => exact q.unpnd
    | ret u => exact q.unpnd
  · obtain ⟨e, cls, dd, σ1, H1, rfl, I1, F1, ⟨DC, rfl, hD, hDC⟩, w1⟩ := q
    have hs' : OnStk (pnd X (X.pn ++ pins)) := hs
    refine note_ok (X := pnd X (X.pn ++ pins)) hs' I1.ok.frames I1 F1 fun h2 T I2 hT F2 => ?_
    refine flight_ok none I2 hT F2 fun h3 I3 F3 => ?_
    obtain ⟨oe, vs, oT, ts, he, hc, _⟩ := id F3
    refine wpAny_handleBy_cons (codeAny_handlers_test (ld_glob (X := hnd (pnd X (X.pn ++ pins)) e) (I3.hnd e) hg hm ?_ hdb)) (by intro q; cases q)
    refine excMatches_own (s := { s1 with heap := h3 }) I3.kIn he hc hC hD hDC (codeAny_handlers_suite_as ?_)
    refine flight_ok none I3 hT F3 fun h4 I4 F4 => ?_
    obtain ⟨oe, vs, oT, ts, he, hc, hdd, hd, _⟩ := id F4
    have I5 : Inv (pnd X (X.pn ++ pins)) [] σ1 (upd H1 e (excO e (.ref DC) dd)) { s1 with heap := h4 } := I4.track F1.1 ⟨⟨oe, vs, he, hc, hdd, hd⟩, ⟨oe, he⟩, fun g1 g2 ⟨o', v', q1, q2, q3, q4⟩ k => ⟨o', v', k _ q1, q2, q3, q4⟩⟩
    refine store_ok (X := pnd X (X.pn ++ pins)) (v := .ref e) I5 hN hj (.inl hx) rfl (fun s6 I6 => ?_) (.inr hx)
    have w2 := w1 e _ (new_upd F1.1.1)
    refine wpAny_mono (hh (X.pn ++ pins) e [] s6 _ _ _ (I6.hnd e) w2) (fun f s7 q => ?_) fun _ _ z => False.elim z
    have go : ∀ {σ7 H7}, Inv (hnd (pnd X (X.pn ++ pins)) e) [] σ7 H7 s7 → ∀ {Q : Unit → Shared → Prop}, (∀ s', Inv X pins (σ7.set j none) H7 s' → Q () s') → wpAny (model X.prog X.w) X.A (do bindName X.env n .none; unbindBehindTheSuite X.env n hpos) Q X.xe s7 := fun {σ7 H7} J {Q} k =>
      goes_ok (Inv.unpnd (Inv.unhnd I.ok.hd J)) hN hj hl k
    cases f with
    | next => obtain ⟨σ7, H7, J, q7⟩ := q; exact go J fun s' J' => ⟨_, _, J', q7⟩
    | brk => obtain ⟨σ7, H7, J, q7⟩ := q; exact go J fun s' J' => ⟨_, _, J', q7⟩
    | cont => obtain ⟨σ7, H7, J, q7⟩ := q; exact go J fun s' J' => ⟨_, _, J', q7⟩
    | ret u => obtain ⟨v, σ7, H7, J, r, q7⟩ := q; exact go J fun s' J' => ⟨v, _, _, J', r, q7⟩
end L2
namespace L2
open PySem PySem.Spec PyProof.Rows
structure ExcK (K : PySem.W.Frag) (D : Addr) : Prop where
  ga : PySem.W.findIn K (.ref D) "__getattribute__" = some (some (.builtin "BaseException.__getattribute__"))
  gt : PySem.W.findIn K (.ref D) "__getattr__" = some none
  cl : PySem.W.findIn K (.ref D) "__class__" = some (some (.builtin "object.__class__"))
  ob : PySem.W.mroIn K D (.type "object") = some true
  be : PySem.W.mroIn K D (.type "BaseException") = some true
  kt : PySem.W.ktsIn K D "BaseException" = true
section
variable {prog : Program} {w : World} {A : Around} {E : Value → Shared → Prop} {s : Shared} {K : PySem.W.Frag} {a D : Addr} {oe : Obj} {vs : Array Value}
theorem exc_class {Q : Option Value → Shared → Prop} (X : K.In s.heap) (F : ExcK K D) (he : s.heap.get? a = some oe) (hc : oe.cls = .ref D) (hd : oe.data = .fields vs) (hdx : ∀ dx, oe.dict = some dx → ∃ o, s.heap.get? dx = some o) (h : Q (some (.ref D)) { s with toks := s.toks + 1 }) :
    wpAny (model prog w) A (getAttr? (.ref a) "__class__") Q E s := by
  obtain ⟨hh, g, d, t, os⟩ := s
  have L0 : PySem.W.Looks (model prog w) hh (typeOf (.ref a)) (.ref D) := hc ▸ (PySem.W.Looks.ld he).andThen .now
  have L1 := PySem.W.looks_findIn (M := model prog w) X F.ga
  have L2' := PySem.W.looks_findIn (M := model prog w) X F.gt
  have L3 := PySem.W.looks_findIn (M := model prog w) X F.cl
  have L4 := PySem.W.looks_mroIn (M := model prog w) X F.be
  have f3 := (PySem.F.attr_ValueError).ga.bind (.ref a)
  have hx2 : (Value.builtin "BaseException.__getattribute__" == Value.builtin "object.__getattribute__") = false := by decide +kernel
  unfold getAttr? getAttrBy? getAttrBy
  refine wpAny_bind (wpAny_mkText (wpAny_bind (wpAny_attempt (wpAny_holding (wpAny_bind (L0.at (wpAny_bind (L1.at ?_))))))))
  have hsel : (onTheHeap (Value.ref D) && Value.builtin "BaseException.__getattribute__" == Value.builtin "object.__getattribute__") = false := by rw [hx2]; rfl
  dsimp only
  rw [if_neg (by rw [hsel]; decide)]
  unfold getAttrByItsOwn
  have hx0 : (false && onTheHeap (Value.builtin "BaseException.__getattribute__")) = false := rfl
  unfold hookBefore
  refine wpAny_bind ?_
  rw [if_pos (show onTheHeap (Value.ref D) = true from rfl)]
  refine L2'.at ?_
  refine wpAny_bind (wpAny_attempt (wpAny_holding ?_))
  unfold callGetattribute
  rw [if_neg (by decide)]
  unfold boundAndCalled
  rw [f3]
  refine wpAny_bind (wpAny_pure ?_)
  refine wpAny_call (codeAny_call_builtin PySem.F.attr_ValueError.ga.plain PySem.F.entry_bexc_ga ?_)
  have hk : builtinKind "BaseException.__getattribute__" = some .slot := by decide +kernel
  have hsplit : splitId "BaseException.__getattribute__" = some ("BaseException", "__getattribute__") := by decide +kernel
  have ha := PySem.F.args_bexc_ga (.ref a) (.str "__class__" t)
  have hT5 : (⟨hh, g, d, t, os⟩ : Shared).TypeIs (.builtin "object.__class__") "getset_descriptor" := PySem.F.typeOf_object_class
  have f5 := PySem.F.typeOf_object_class
  have f6 := PySem.F.slot_gs_get.lookup
  have f7 := PySem.F.slot_gs_set.lookup
  simp only [checkBuiltinCall, hk, hsplit]
  refine wpAny_bind ?_
  unfold isInstance
  repeat (first | with_reducible refine L0.at ?_ | with_reducible refine L4.at ?_ | wp_step)
  refine L3.at ?_
  repeat (any_goals (first | assumption | with_reducible refine L0.at ?_ | wp_step))
  obtain ⟨od, I⟩ : ∃ od, PySem.W.InstAt hh a oe D od := by
    cases q : oe.dict with
    | none => exact ⟨none, he, hc, by unfold PySem.W.notCls; rw [hd], by rw [q]; trivial⟩
    | some dx =>
      obtain ⟨o, ho⟩ := hdx dx q
      exact ⟨some o, he, hc, by unfold PySem.W.notCls; rw [hd], by rw [q]; exact ho⟩
  refine PySem.W.class_get (s := ⟨hh, g, d, t + 1, os⟩) (od := od) X I F.ob ?_
  refine wpAny_pure ?_
  exact PySem.W.handed_on rfl (wpAny_pure h)
def ExAt (a D : Addr) (h : Heap) : Prop := ∃ oe vs, h.get? a = some oe ∧ oe.cls = .ref D ∧ oe.data = .fields vs ∧ ∀ dx, oe.dict = some dx → ∃ o, h.get? dx = some o
theorem kitx_exc (F : ExcK K D) : PySem.W.KitX K (.ref a) (.ref D) (ExAt a D) where
  ty := fun M h _ ⟨oe, vs, he, hc, _⟩ => hc ▸ (PySem.W.Looks.ld he).andThen .now
  it := fun _ _ X _ => by
    obtain ⟨nm, qn, N, bs, bm, hdct, sn, sub, ab, col, dd, k0, k1, k2, k3, k5, newId, gD, _⟩ := PySem.W.kts_cls X F.kt
    intro A' Q' E' s' k q
    unfold isType loadHead
    exact wpAny_bind (wpAny_loadPart (k _ _ gD) (wpAny_pure q))
  ne := fun h tp dd its n sl X htp => by
    obtain ⟨nm, qn, N, bs, bm, hdct, sn, sub, ab, col, dd, k0, k1, k2, k3, k5, newId, gD, _⟩ := PySem.W.kts_cls X F.kt
    refine Bool.eq_false_iff.mpr fun q => ?_
    have e : D = tp := Value.ref.inj (beq_iff_eq.mp q)
    subst e
    rw [gD] at htp
    have h2 := congrArg (Option.map Obj.cls) htp
    simp at h2
  ca := fun X ⟨oe, vs, he, hc, hd, hdx⟩ k => exc_class X F he hc hd hdx k
end
def clsV : V → Value
  | .ref C => .ref C
  | .ty T => .type T
  | _ => .none
theorem call_isiX {X : Cx} {K : PySem.W.Frag} (hK : X.K = K) : CallR X (.builtin "isinstance") (fun xs H Q => ∃ a D dd c b, xs = [.ref a, c] ∧ H a = some (excO a (.ref D) dd) ∧ ExcK K D ∧ (∀ dx, dd = some dx → ∃ fs, H dx = some (.xd fs)) ∧ PySem.W.kitOne K (.ref D) (clsV c) = some b ∧ Q (.bl b) H) := by
  subst hK
  intro pins s σ H xs us Q I r h
  obtain ⟨a, D, dd, c, b, rfl, ha, F, hdd, e, q⟩ := h
  obtain ⟨u, w', rfl, ru, rw'⟩ := vals2 r
  cases (show u = Value.ref a from ru)
  have hw : w' = clsV c := by
    cases c <;> first | exact rw' | (exfalso; simp [PySem.W.kitOne, PySem.W.kitCls, clsV] at e)
  subst hw
  obtain ⟨⟨oe, vs, he, hc, hdc, hd⟩, _⟩ := (show ObjOk X.prog X.w H s.heap a (excO a (.ref D) dd) from I.hok a _ ha)
  refine PySem.W.kia_one (kitx_exc F) I.kIn ⟨oe, vs, he, hc, hd, fun dx z => ?_⟩ e (fun z => nomatch z) fun tk => ⟨.bl b, H, I.tok tk, rfl, q⟩
  obtain ⟨fs, hx⟩ := hdd dx (hdc.symm.trans z)
  exact (I.hok dx _ hx).there
end L2
namespace L2
open PySem PySem.Spec PyProof.Rows
section
variable {X : Cx}
theorem call_maxL (hc : X.calm = true) : CallR X (.builtin "max") (fun xs H Q => ∃ (p : Addr) (ns : List Int), xs = [.ref p] ∧ SqL X.K H p (ns.map V.int) ∧ 0 < ns.length ∧ ∀ m, m ∈ ns → (∀ a ∈ ns, a ≤ m) → Q (.int m) H) := by
  intro pins s σ H xs us Q I r h
  obtain ⟨p, ns, rfl, hq, hne, q⟩ := h
  obtain ⟨u, rfl, ru⟩ := vals1 r
  cases (show u = Value.ref p from ru)
  obtain ⟨its, rv, pl, hz⟩ := I.list hq
  have hi : IntsAre its ns := L2.intsAre_of rv
  obtain ⟨ys, e⟩ := hi.allInts.items
  have hns : ns = ys.toList.map (·.1) := by rw [← hi.numsOf, ← nums_intItems, ← e]
  have hl := pl.isList
  rw [e] at hl
  have hsz : 0 < ys.size := by have h3 := hne; rw [hns, List.length_map, Array.length_toList] at h3; exact h3
  refine max_intList (I.ok.hd hc) hl hsz fun v h' tk hv hk => ?_
  obtain ⟨t, rfl⟩ := intItems_at hv
  obtain ⟨h1, h2⟩ := argBest_gt (numAt ys) (ys.size - 1)
  refine ⟨.int _, H, I.kept hk, ⟨t, rfl⟩, q _ ?_ fun a ha => ?_⟩
  · rw [hns, numAt_eq]; exact getD_mem (by rw [List.length_map, Array.length_toList]; omega)
  · rw [hns] at ha
    obtain ⟨j, hj, rfl⟩ := mem_getD ha
    rw [List.length_map, Array.length_toList] at hj
    rw [← numAt_eq]; exact h2 j (by omega)
theorem call_minL (hc : X.calm = true) : CallR X (.builtin "min") (fun xs H Q => ∃ (p : Addr) (ns : List Int), xs = [.ref p] ∧ SqL X.K H p (ns.map V.int) ∧ 0 < ns.length ∧ ∀ m, m ∈ ns → (∀ a ∈ ns, m ≤ a) → Q (.int m) H) := by
  intro pins s σ H xs us Q I r h
  obtain ⟨p, ns, rfl, hq, hne, q⟩ := h
  obtain ⟨u, rfl, ru⟩ := vals1 r
  cases (show u = Value.ref p from ru)
  obtain ⟨its, rv, pl, hz⟩ := I.list hq
  have hi : IntsAre its ns := L2.intsAre_of rv
  obtain ⟨ys, e⟩ := hi.allInts.items
  have hns : ns = ys.toList.map (·.1) := by rw [← hi.numsOf, ← nums_intItems, ← e]
  have hl := pl.isList
  rw [e] at hl
  have hsz : 0 < ys.size := by have h3 := hne; rw [hns, List.length_map, Array.length_toList] at h3; exact h3
  refine min_intList (I.ok.hd hc) hl hsz fun v h' tk hv hk => ?_
  obtain ⟨t, rfl⟩ := intItems_at hv
  obtain ⟨h1, h2⟩ := argBest_lt (numAt ys) (ys.size - 1)
  refine ⟨.int _, H, I.kept hk, ⟨t, rfl⟩, q _ ?_ fun a ha => ?_⟩
  · rw [hns, numAt_eq]; exact getD_mem (by rw [List.length_map, Array.length_toList]; omega)
  · rw [hns] at ha
    obtain ⟨j, hj, rfl⟩ := mem_getD ha
    rw [List.length_map, Array.length_toList] at hj
    rw [← numAt_eq]; exact h2 j (by omega)
end
theorem bt_max : bootBuiltins "max" = some (.builtin "max") := by decide +kernel
theorem bt_min : bootBuiltins "min" = some (.builtin "min") := by decide +kernel
theorem bt_sorted : bootBuiltins "sorted" = some (.builtin "sorted") := by decide +kernel
theorem wants_nox {X : Cx} (hs : OnStk X) : Wants X.nox (fun _ _ _ _ => False) := ⟨hs, fun _ _ ⟨_, _, _, _, _, _, _, _, w⟩ => w⟩
end L2
namespace L2
open PySem PySem.Spec PyProof.Rows
theorem up_same {H H' : Hp} {a : Addr} {o : HO} (s : Same H H') (h : H a = some o) : H' a = some o := s _ _ h
theorem up_new {H H' : Hp} {p a : Addr} {u o : HO} (n : New H H' p u) (h : H a = some o) : H' a = some o := n.same _ _ h
theorem same_by {H H1 H2 : Hp} {p : Addr} {u : HO} (a : Same H H1) (n : New H1 H2 p u) : Same H H2 := a.trans n.same
end L2
namespace L2
open PySem PySem.Spec PyProof.Rows
section
variable {X : Cx} {e e1 : Expr} {te t1 : TE} {pos p2 : Pos}
end
def tCut (J : St → Hp → Prop) (t u : TS) : TS := fun D σ H => t { D with nx := J } σ H ∧ ∀ σ' H', J σ' H' → u D σ' H'
theorem pss_cut {X : Cx} {st : Stmt} {rest : List Stmt} {t u : TS} (J : St → Hp → Prop) (h1 : PS X st t) (h2 : PSs X rest u) : PSs X (st :: rest) (tCut J t u) := by
  intro pins s σ H D I h
  refine wpAny_execs_cons (thn (h1 pins s σ H { D with nx := J } I h.1) fun f s1 q => ?_)
  cases f with
  | next =>
    obtain ⟨σ', H', I', q⟩ := q
    exact h2 pins s1 σ' H' D I' (h.2 σ' H' q)
  | ret v => exact q
  | brk => exact q
  | cont => exact q
end L2
namespace L2
open PySem PySem.Spec PyProof.Rows
section
variable {prog : Program} {w : World} {A : Around} {R : Result → Shared → Prop} {I : Addr} {fp wr : List Addr} {n : Nat} {P : Nat → Value → Prop} {St : Nat → Heap → Prop} {d : Value}
end
section
variable {X : Cx}
end
end L2
namespace L2
open PySem PyProof PyProof.Rows
section
variable {X : Cx}
end
end L2
namespace L2
open PySem PySem.Spec PyProof.Rows
section
variable {prog : Program} {w : World} {A : Around} {E : Value → Shared → Prop} {s : Shared}
end
section
variable {X : Cx}
end
end L2
namespace L2
open PySem PySem.Spec PyProof.Rows
def RawD (h : Heap) (d : Addr) (es : Array DictEntry) (ep : Nat) : Prop := ∃ o, h.get? d = some o ∧ o.ExactDict ∧ o.data = .dict es ep
theorem RawD.ty {s : Shared} {d : Addr} {es : Array DictEntry} {ep : Nat} (x : RawD s.heap d es ep) : s.TypeIs (.ref d) "dict" := let ⟨o, a, b, _⟩ := x; ⟨o, a, b.1⟩
theorem RawD.up {h h' : Heap} {d : Addr} {es : Array DictEntry} {ep : Nat} (x : RawD h d es ep) (e : ∀ o, h.get? d = some o → h'.get? d = some o) : RawD h' d es ep := let ⟨o, a, b⟩ := x; ⟨o, e o a, b⟩
theorem RawD.lt {h : Heap} {d : Addr} {es : Array DictEntry} {ep : Nat} (x : RawD h d es ep) : d < h.objs.size := let ⟨_, a, _⟩ := x; Heap.lt_size a
section
variable {prog : Program} {w : World} {A : Around} {E : Value → Shared → Prop} {s : Shared}
abbrev keyIt (d : Addr) (n ep : Nat) : Obj := { cls := .type "dict_keyiterator", data := .fields #[.ref d, .int 0 0, .int n 0, .int ep 0] }
theorem rd_iter {d : Addr} {es : Array DictEntry} {ep : Nat} {Q : Value → Shared → Prop} (lo : (d == sysModules) = false) (hm : RawD s.heap d es ep) (hQ : Q (.ref s.heap.objs.size) { s with heap := s.heap.push (keyIt d es.size ep) }) :
    wpAny (model prog w) A (pyIter (.ref d)) Q E s := by
  have ty := hm.ty
  obtain ⟨o, h1, h2, h3⟩ := hm
  refine wpAny_pyIter_slot ty F.slot_dict_iter (wpAny_call_entry F.slot_dict_iter ty F.entry_dict_iter ?_ (F.args_dict_iter_1 _))
  unfold Builtin.«dict.__iter__»; refine wpAny_bind ?_
  unfold Builtin.Dict.dictSlotNone; refine wpAny_bind (wpAny_notOrdered_dict ty ?_)
  show wpAny _ _ (pure (Value.ref d)) _ _ s; refine wpAny_pure ?_
  show wpAny _ _ (Builtin.Dict.showsAll d >>= _) _ _ s; unfold Builtin.Dict.showsAll
  rw [if_neg (by rw [lo]; exact Bool.false_ne_true)]; refine wpAny_bind (wpAny_pure ?_)
  refine wpAny_bind (wpAny_dictEntries h1 h3 ?_); refine wpAny_bind (wpAny_dictEpoch h1 h3 ?_)
  refine wpAny_bind (wpAny_newObj_type (wpAny_pure ⟨_, rfl, "dict_keyiterator", _, ⟨_, Heap.get?_push_size _ rfl, rfl⟩, F.slot_dict_keyiterator_next.lookup, ?_⟩)); simpa [rawInt] using hQ
theorem rd_item {it d : Addr} {i ep : Nat} {es : Array DictEntry} {Q : Option Value → Shared → Prop} (hJ : s.heap.IsKeyIter it d i es.size ep) (hm : RawD s.heap d es ep) (hx : i < es.size)
    (hQ : ∀ h', h'.IsKeyIter it d (i + 1) es.size ep → Heap.SameBut it s.heap h' → Q (some es[i].key) { s with heap := h' }) : wpAny (model prog w) A (pyNext (.ref it)) Q E s := by
  obtain ⟨o, ho, hc, hd⟩ := id hJ
  obtain ⟨od, h1, h2, h3⟩ := hm
  have ty := hJ.typeIs
  unfold pyNext
  refine wpAny_bind (wpAny_attempt (wpAny_callSpecial?_slot (name := Str.ofString "__next__") ty F.slot_dict_keyiterator_next (wpAny_call_entry F.slot_dict_keyiterator_next ty F.entry_dict_keyiterator_next ?_ (F.args_dict_keyiterator_next_1 _))))
  refine wpAny_bind (wpAny_pure ?_); refine wpAny_bind ?_; refine wpAny_bind ?_
  first | refine wpAny_bind (wpAny_typeNameOfWhole_keyiter ty (wpAny_pure ?_)) | refine wpAny_bind (wpAny_typeNameOf_keyiter ty (wpAny_pure ?_))
  refine wpAny_bind (wpAny_fieldsOf ho hd ?_)
  simp only [show Builtin.Dict_items.ownsTuple "dict_keyiterator" = false by decide, Bool.false_eq_true, if_false]
  show wpAny _ _ (if (Value.ref d == Value.none) = true then _ else _) _ _ s; rw [if_neg (show ¬ ((Value.ref d == Value.none) = true) from Bool.false_ne_true)]
  refine wpAny_bind (wpAny_pure ?_); refine wpAny_bind (wpAny_dictEntries h1 h3 ?_)
  rw [if_neg (by simp)]; refine wpAny_bind (wpAny_pure ?_); refine wpAny_bind (wpAny_dictEpoch h1 h3 ?_); rw [if_neg (by simp)]; refine wpAny_pure ?_
  simp only [show ¬ ((i : Int) < 0) from by omega, if_false, Int.toNat_natCast, Array.getElem?_eq_getElem hx]
  refine wpAny_bind ?_
  first | refine wpAny_bind (wpAny_typeNameOfWhole_keyiter ty (wpAny_pure ?_)) | refine wpAny_bind (wpAny_typeNameOf_keyiter ty (wpAny_pure ?_))
  refine wpAny_bind (wpAny_isOneOf_keyiter ty ?_)
  show wpAny _ _ (setField (.ref it) 1 (rawInt ((i : Int) + 1)) >>= _) _ _ s; refine wpAny_bind (wpAny_setField ho hd (by simp) ?_)
  have hJ' : (s.heap.update it (Obj.mapFields (·.setIfInBounds 1 (rawInt ((i : Int) + 1))))).IsKeyIter it d (i + 1) es.size ep := ⟨_, Heap.get?_update_self _ ho (Obj.isFreed_of_fields (Obj.data_mapFields hd _)), (Obj.cls_mapFields ..).trans hc, by rw [Obj.data_mapFields hd]; simp [rawInt]⟩
  refine wpAny_bind (wpAny_holding ?_); refine wpAny_bind (wpAny_isOneOf_keyiter (s := { s with heap := s.heap.update it (Obj.mapFields (·.setIfInBounds 1 (rawInt ((i : Int) + 1)))) }) hJ'.typeIs ?_)
  show wpAny _ _ (pure es[i].key) _ _ _
  exact wpAny_pure (wpAny_pure ⟨_, rfl, wpAny_pure (hQ _ hJ' (Heap.SameBut.update ..))⟩)
theorem rd_end {it d : Addr} {ep : Nat} {es : Array DictEntry} {Q : Option Value → Shared → Prop} (hh : A.handled = none) (hJ : s.heap.IsKeyIter it d es.size es.size ep) (hm : RawD s.heap d es ep)
    (hQ : ∀ h', Heap.ExtBut it s.heap h' → Q none { s with heap := h' }) : wpAny (model prog w) A (pyNext (.ref it)) Q E s := by
  obtain ⟨o, ho, hc, hd⟩ := id hJ
  obtain ⟨od, h1, h2, h3⟩ := hm
  have ty := hJ.typeIs
  unfold pyNext
  refine wpAny_bind (wpAny_attempt (wpAny_callSpecial?_slot (name := Str.ofString "__next__") ty F.slot_dict_keyiterator_next (wpAny_call_entry F.slot_dict_keyiterator_next ty F.entry_dict_keyiterator_next ?_ (F.args_dict_keyiterator_next_1 _))))
  refine wpAny_bind (wpAny_pure ?_); refine wpAny_bind ?_; refine wpAny_bind ?_
  first | refine wpAny_bind (wpAny_typeNameOfWhole_keyiter ty (wpAny_pure ?_)) | refine wpAny_bind (wpAny_typeNameOf_keyiter ty (wpAny_pure ?_))
  refine wpAny_bind (wpAny_fieldsOf ho hd ?_)
  simp only [show Builtin.Dict_items.ownsTuple "dict_keyiterator" = false by decide, Bool.false_eq_true, if_false]
  show wpAny _ _ (if (Value.ref d == Value.none) = true then _ else _) _ _ s; rw [if_neg (show ¬ ((Value.ref d == Value.none) = true) from Bool.false_ne_true)]
  refine wpAny_bind (wpAny_pure ?_); refine wpAny_bind (wpAny_dictEntries h1 h3 ?_)
  rw [if_neg (by simp)]; refine wpAny_bind (wpAny_pure ?_); refine wpAny_bind (wpAny_dictEpoch h1 h3 ?_); rw [if_neg (by simp)]; refine wpAny_pure ?_
  simp only [show ¬ ((es.size : Int) < 0) from by omega, if_false, Int.toNat_natCast, Array.getElem?_eq_none (Nat.le_refl _)]
  refine wpAny_bind ?_
  first | refine wpAny_bind (wpAny_typeNameOfWhole_keyiter ty (wpAny_pure ?_)) | refine wpAny_bind (wpAny_typeNameOf_keyiter ty (wpAny_pure ?_))
  show wpAny _ _ (setField (.ref it) 0 .none >>= _) _ _ s; refine wpAny_bind (wpAny_setField ho hd (by simp) ?_)
  show wpAny _ _ (newExc (.type "StopIteration") [] >>= _) _ _ _; refine wpAny_bind ?_
  simp only [newExc, newTuple]; refine wpAny_bind (wpAny_newObj_type ?_ (by size_fits))
  refine wpAny_bind (m := firstArgMember _ _) (wpAny_of_eq (a := Value.none) (by first | rfl | (simp only [firstArgMember]; rfl)) ?_); refine wpAny_newObj_type ?_ (by size_fits)
  simp only [raiseNew]; refine wpAny_bind (wpAny_handled ?_); rw [show A.in1.handled = none from hh]; refine wpAny_bind (wpAny_pure (wpAny_throw ?_))
  refine wpAny_bind (wpAny_isInstance (T := "StopIteration") (b := true) ⟨_, Heap.get?_push_size _ rfl, rfl⟩ isSubtype_stop ?_); exact wpAny_pure (hQ _ (((Heap.SameBut.update ..).extBut.push _).push _))
theorem rd_walks (hh : A.handled = none) (J d : Addr) (hne : d ≠ J) (es : Array DictEntry) (ep : Nat) :
    Walks prog w A J [J, d] [J] es.size (fun i v => ∃ e, es[i]? = some e ∧ v = e.key) (fun i h => h.IsKeyIter J d i es.size ep ∧ RawD h d es ep) where
  sub := fun b hb => by simp at hb; simp [hb]
  frame := fun _ _ _ st hk => ⟨st.1.at fun o e => hk J (by simp) o e, st.2.up fun o e => hk d (by simp) o e⟩
  item := fun i s Q E hi st hQ => by
    refine rd_item st.1 st.2 hi fun h' hJ' hs' => ?_
    exact hQ _ h' s.toks ⟨es[i], by simp [hi], rfl⟩ ⟨hJ', st.2.up fun o e => hs'.extBut d o hne e⟩ fun b o hb e => hs'.extBut b o (fun h => hb (by simp [h])) e
  done := fun s Q E st hQ => rd_end hh st.1 st.2 fun h' he' => hQ h' s.toks fun b o hb e => he' b o (fun h => hb (by simp [h])) e
  self := fun _ _ _ _ st hQ => wpAny_pyIter_keyiter st.1 hQ
theorem rd_src {d : Addr} {es : Array DictEntry} {ep : Nat} (lo : (d == sysModules) = false) : PySem.W.KdlSrc prog w "dict" d d es.size (fun i v => ∃ e, es[i]? = some e ∧ v = e.key) (fun h => RawD h d es ep) where
  type := fun _ hm => hm.ty
  there := fun _ hm => ⟨hm.lt, hm.lt⟩
  keep := fun _ _ hm hk => hm.up fun o e => hk d (.inl rfl) o e
  notList := by decide
  notTuple := by decide
  hint := fun _ _ _ _ hm hq => PySem.W.kdl_hint_dict hm.ty hq
  iter := fun _ _ hh hm => ⟨_, _, (fun _ _ hq => rd_iter lo hm hq), rd_walks hh _ d (Nat.ne_of_lt hm.lt) es ep, ⟨⟨_, Heap.get?_push_size _ rfl, rfl, rfl⟩, hm.up fun _ e => Heap.get?_push_of_some _ e⟩⟩
end
end L2
namespace L2
open PySem PySem.Spec PyProof.Rows
section
variable {prog : Program} {w : World} {A : Around} {E : Value → Shared → Prop} {s : Shared}
theorem sort_short {a : Addr} {vs : List Value} {n : Nat} {P : Fin → Shared → Prop} (ho : s.heap.get? a = some (seqObj "list" vs.toArray n)) (h2 : vs.length < 2)
    (h : P (.done (.ret .none)) { s with heap := sortedHeap s.heap a vs ((vs.toArray.zip vs.toArray).map (·.2)) }) : wpAny (model prog w) A (Builtin.«list.sort» ⟨[.ref a], []⟩) P E s := by
  rw [list_sort_plain]
  have la : a < s.heap.objs.size := Heap.lt_size ho
  refine wpAny_bind (listItems_at ho rfl ?_); refine wpAny_bind (listUpdate_at ho rfl ?_)
  obtain ⟨e1, h1⟩ : ∃ e1, (s.heap.update a (Obj.mapSeq fun _ => #[])).get? a = some (seqObj "list" #[] e1) := ⟨_, get?_update_seq ho (fun _ => #[])⟩
  refine wpAny_bind (seqEpoch_at h1 rfl ?_); refine wpAny_bind (wpAny_newTuple ?_); refine wpAny_bind (wpAny_newList ?_); refine wpAny_holding ?_
  have h6 : (((s.heap.update a (Obj.mapSeq fun _ => #[])).push (seqObj "tuple" vs.toArray 0)).push (seqObj "list" #[] 0)).get? a = some (seqObj "list" #[] e1) := by
    rw [Heap.get?_push_ne _ _ _ (by rw [size_push', Heap.size_update]; exact Nat.ne_of_lt (Nat.lt_succ_of_lt la)), Heap.get?_push_ne _ _ _ (by rw [Heap.size_update]; exact Nat.ne_of_lt la)]; exact h1
  show wpAny (model prog w) A _ P E { s with heap := ((s.heap.update a (Obj.mapSeq fun _ => #[])).push (seqObj "tuple" vs.toArray 0)).push (seqObj "list" #[] 0) }
  dsimp only
  have z2 : vs.toArray.size < 2 := by simpa using h2
  rw [if_pos z2, if_pos z2]; refine wpAny_bind (wpAny_pure ?_)
  rw [StateT.run_pure]; refine wpAny_bind (wpAny_pure ?_); dsimp only
  refine wpAny_bind (seqEpoch_at h6 rfl ?_); refine wpAny_bind (listUpdate_at h6 rfl ?_ (hsz2 := by rw [Array.size_map]; show (pairsOf vs).size ≤ _; rw [pairsOf_size, sizeLine_eq]; omega))
  simp only [bne_self_eq_false, Bool.false_eq_true, if_false]; exact wpAny_pure h
end
theorem zip_snd (vs : List Value) : (vs.toArray.zip vs.toArray).map (·.2) = vs.toArray := by
  apply Array.ext'
  simpa using List.map_snd_zip (l₁ := vs) (l₂ := vs) (Nat.le_refl _)
section
variable {X : Cx}
end
end L2
namespace L2
open PySem PySem.Spec PyProof.Rows
section
variable {X : Cx} {tg : Expr}
end
section
variable {X : Cx}
def rCatTN (K : PySem.W.Frag) : R2 := fun x y H Q => ∃ a b xs ys, x = .ref a ∧ y = .ref b ∧ SqT K H a xs ∧ SqT K H b ys ∧ xs ≠ [] ∧ ys ≠ [] ∧ xs.length + ys.length ≤ sizeLine ∧ ∀ p H', New H H' p (.tup (xs ++ ys)) → Q (.ref p) H'
theorem op_catTN : OpR X (binaryOp .Add) (rCatTN X.K) := op_catT.imp fun _ _ _ _ ⟨a, b, xs, ys, e1, e2, h1, h2, z, zy, hz, q⟩ => ⟨a, b, xs, ys, e1, e2, h1, h2, z, hz, fun e => absurd e zy, fun _ p hp => q p _ (new_upd hp)⟩
def tDNewN : TE := fun _ H Q => ∀ p H', New H H' p (.dT []) → Q (.ref p) H'
theorem pe_dnewN {pos : Pos} : PE X (.Dict [] [] pos) tDNewN := fun pins s σ H Q I h => pe_dnewT pins s σ H Q I fun p hp => h p _ (new_upd hp)
end
end L2
namespace L2
open PySem PySem.Spec PyProof.Rows
end L2
namespace L2
theorem lq1 {α : Type} {us : List α} (h : us.length = 1) : ∃ a, us = [a] := by
  cases us with
  | nil => cases h
  | cons a r => exact ⟨a, by rw [List.length_eq_zero_iff.mp (Nat.succ.inj h)]⟩
theorem lq2 {α : Type} {us : List α} (h : us.length = 2) : ∃ a0 a1, us = [a0, a1] := by
  cases us with
  | nil => cases h
  | cons a r => obtain ⟨a1, e⟩ := lq1 (Nat.succ.inj h); exact ⟨a, a1, by rw [e]⟩
theorem lq3 {α : Type} {us : List α} (h : us.length = 3) : ∃ a0 a1 a2, us = [a0, a1, a2] := by
  cases us with
  | nil => cases h
  | cons a r => obtain ⟨a1, a2, e⟩ := lq2 (Nat.succ.inj h); exact ⟨a, a1, a2, by rw [e]⟩
theorem lq4 {α : Type} {us : List α} (h : us.length = 4) : ∃ a0 a1 a2 a3, us = [a0, a1, a2, a3] := by
  cases us with
  | nil => cases h
  | cons a r => obtain ⟨a1, a2, a3, e⟩ := lq3 (Nat.succ.inj h); exact ⟨a, a1, a2, a3, by rw [e]⟩
end L2
namespace L2
open PySem PySem.Spec PyProof.Rows PySem.W
def KW (lt : Nat → Nat → Bool) (n : Nat) {α : Type} : KasT α → (α → Prop) → Prop
  | .ret a, Q => Q a
  | .ask i j k, Q => i < n ∧ j < n ∧ KW lt n (k (lt i j)) Q
theorem KW.bind {lt : Nat → Nat → Bool} {n : Nat} {α β : Type} {f : α → KasT β} {Q : β → Prop} : ∀ {t : KasT α}, KW lt n t (fun a => KW lt n (f a) Q) → KW lt n (t.bind f) Q
  | .ret a, h => by rw [KasT.bind.eq_1]; exact h
  | .ask i j k, h => by
    rw [KasT.bind.eq_2]
    exact ⟨h.1, h.2.1, KW.bind h.2.2⟩
theorem KW.mono {lt : Nat → Nat → Bool} {n : Nat} {α : Type} {Q Q' : α → Prop} (hq : ∀ a, Q a → Q' a) : ∀ {t : KasT α}, KW lt n t Q → KW lt n t Q'
  | .ret a, h => hq a h
  | .ask i j k, h => ⟨h.1, h.2.1, KW.mono hq h.2.2⟩
theorem KW.run {lt : Nat → Nat → Bool} {n : Nat} {α : Type} {Q : α → Prop} {cmp : Nat → Nat → (Bool → Shared → Prop) → Shared → Prop} {s : Shared} (hc : ∀ i j (C : Bool → Shared → Prop), i < n → j < n → C (lt i j) s → cmp i j C s) :
    ∀ {t : KasT α}, KW lt n t Q → KasT.kasWp cmp t (fun a s' => s' = s ∧ Q a) s
  | .ret a, h => by rw [KasT.kasWp.eq_1]; exact ⟨rfl, h⟩
  | .ask i j k, h => by
    rw [KasT.kasWp.eq_2]
    exact hc i j _ h.1 h.2.1 (KW.run hc h.2.2)
structure OrdN (n : Nat) (lt : Nat → Nat → Bool) : Prop where
  tot : ∀ i j, i < n → j < n → i ≠ j → lt i j = false → lt j i = true
  tr : ∀ i j k, i < n → j < n → k < n → lt i j = true → lt j k = true → lt i k = true
structure PermA (n : Nat) (p : Array Nat) : Prop where
  sz : p.size = n
  perm : p.toList.Perm (List.range n)
theorem PermA.lt {n : Nat} {p : Array Nat} (h : PermA n p) {x : Nat} (hx : x < n) : p.getD x 0 < n := by
  have hs := h.sz
  rw [Array.getD_eq_getD_getElem?, Array.getElem?_eq_getElem (by omega)]
  have : p[x] ∈ p.toList := by simp
  exact List.mem_range.mp (h.perm.mem_iff.mp this)
theorem PermA.inj {n : Nat} {p : Array Nat} (h : PermA n p) {x y : Nat} (hx : x < n) (hy : y < n) (hne : x ≠ y) : p.getD x 0 ≠ p.getD y 0 := by
  have hs := h.sz
  have nd : p.toList.Nodup := h.perm.nodup_iff.mpr List.nodup_range
  rw [Array.getD_eq_getD_getElem?, Array.getElem?_eq_getElem (by omega), Array.getD_eq_getD_getElem?, Array.getElem?_eq_getElem (by omega)]
  intro e
  have e' : p.toList[x]'(by simpa using by omega) = p.toList[y]'(by simpa using by omega) := by simpa using e
  have pw := List.pairwise_iff_getElem.mp nd
  rcases Nat.lt_or_gt_of_ne hne with h1 | h1
  · exact pw x y (by simpa using by omega) (by simpa using by omega) h1 e'
  · exact pw y x (by simpa using by omega) (by simpa using by omega) h1 e'.symm
theorem PermA.of {n : Nat} {p q : Array Nat} (h : PermA n p) (hq : q.Perm p) : PermA n q := by
  have e : q.toList.Perm p.toList := Array.perm_iff_toList_perm.mp hq
  exact ⟨by have := e.length_eq; simpa [h.sz] using this, e.trans h.perm⟩
def Asc (lt : Nat → Nat → Bool) (p : Array Nat) (b : Nat) : Prop := ∀ x y, x < y → y < b → lt (p.getD x 0) (p.getD y 0) = true
def Dsc (lt : Nat → Nat → Bool) (p : Array Nat) (b : Nat) : Prop := ∀ x y, x < y → y < b → lt (p.getD y 0) (p.getD x 0) = true
section
variable {lt : Nat → Nat → Bool} {n : Nat}
theorem asc_kw (O : OrdN n lt) {p : Array Nat} (hp : PermA n p) : ∀ (f x : Nat), 1 ≤ x → x + f ≤ n → Asc lt p x → KW lt n (kas_asc p f x) (fun m => x ≤ m ∧ m ≤ x + f ∧ Asc lt p m ∧ (m = x + f ∨ lt (p.getD m 0) (p.getD (m - 1) 0) = true))
  | 0, x, h1, hx, ha => by rw [kas_asc.eq_1]; exact ⟨Nat.le_refl _, Nat.le_refl _, ha, .inl rfl⟩
  | f + 1, x, h1, hx, ha => by
    rw [kas_asc.eq_2]
    refine ⟨hp.lt (by omega), hp.lt (by omega), ?_⟩
    cases e : lt (p.getD x 0) (p.getD (x - 1) 0) with
    | true => dsimp only; rw [if_pos rfl]; exact ⟨Nat.le_refl _, by omega, ha, .inr e⟩
    | false =>
      dsimp only
      rw [if_neg Bool.false_ne_true]
      have e2 := O.tot _ _ (hp.lt (by omega)) (hp.lt (by omega)) (hp.inj (by omega) (by omega) (by omega)) e
      refine KW.mono (fun m hm => ?_) (asc_kw O hp f (x + 1) (by omega) (by omega) ?_)
      · obtain ⟨m1, m2, m3, m4⟩ := hm
        exact ⟨by omega, by omega, m3, m4.imp (fun z => by omega) id⟩
      · intro a b hab hb
        by_cases hbx : b = x
        · subst hbx
          by_cases hax : a = b - 1
          · subst hax; exact e2
          · exact O.tr _ _ _ (hp.lt (by omega)) (hp.lt (by omega)) (hp.lt (by omega)) (ha a (b - 1) (by omega) (by omega)) e2
        · exact ha a b hab (by omega)
theorem desc_kw (O : OrdN n lt) {p : Array Nat} (hp : PermA n p) : ∀ (f x : Nat), 2 ≤ x → x + f ≤ n → Dsc lt p x → KW lt n (kas_desc f p x 0) (fun r => r.1 = p ∧ r.2.2 = 0 ∧ x ≤ r.2.1 ∧ r.2.1 ≤ x + f ∧ Dsc lt p r.2.1)
  | 0, x, h1, hx, ha => by rw [kas_desc.eq_1]; exact ⟨rfl, rfl, Nat.le_refl _, Nat.le_refl _, ha⟩
  | f + 1, x, h1, hx, ha => by
    rw [kas_desc.eq_2]
    refine ⟨hp.lt (by omega), hp.lt (by omega), ?_⟩
    cases e : lt (p.getD x 0) (p.getD (x - 1) 0) with
    | true =>
      dsimp only
      rw [if_pos rfl, if_neg (by omega)]
      refine KW.mono (fun m hm => ?_) (desc_kw O hp f (x + 1) (by omega) (by omega) ?_)
      · obtain ⟨m1, m2, m3, m4, m5⟩ := hm
        exact ⟨m1, m2, by omega, by omega, m5⟩
      · intro a b hab hb
        by_cases hbx : b = x
        · subst hbx
          by_cases hax : a = b - 1
          · subst hax; exact e
          · exact O.tr _ _ _ (hp.lt (by omega)) (hp.lt (by omega)) (hp.lt (by omega)) e (ha a (b - 1) (by omega) (by omega))
        · exact ha a b hab (by omega)
    | false =>
      dsimp only
      rw [if_neg Bool.false_ne_true]
      have e2 := O.tot _ _ (hp.lt (by omega)) (hp.lt (by omega)) (hp.inj (by omega) (by omega) (by omega)) e
      refine ⟨hp.lt (by omega), hp.lt (by omega), ?_⟩
      rw [e2]
      dsimp only
      rw [if_pos rfl]
      exact ⟨rfl, rfl, Nat.le_refl _, (show x ≤ x + (f + 1) by omega), ha⟩
theorem rev_perm {p : Array Nat} (hp : PermA n p) (m : Nat) : PermA n (kas_rev p 0 m) := hp.of (mirror_perm _ _ _ _)
theorem rev_get {p : Array Nat} (hp : PermA n p) {m x : Nat} (hm : m ≤ n) (hx : x < m) : (kas_rev p 0 m).getD x 0 = p.getD (m - 1 - x) 0 := by
  have hs := hp.sz
  unfold kas_rev
  rw [Array.getD_eq_getD_getElem?, Array.getD_eq_getD_getElem?, getElem?_mirror_all (by omega), if_pos ⟨Nat.zero_le _, hx⟩, Nat.zero_add]
theorem count_kw (O : OrdN n lt) {p : Array Nat} (hp : PermA n p) (hn : 2 ≤ n) : KW lt n (kas_count n p) (fun r => PermA n r.2 ∧ 1 ≤ r.1 ∧ r.1 ≤ n ∧ Asc lt r.2 r.1) := by
  rw [kas_count.eq_1]
  refine KW.bind (KW.mono (fun m hm => ?_) (asc_kw O hp (n - 1) 1 (Nat.le_refl _) (by omega) (fun x y h1 h2 => by omega)))
  obtain ⟨m1, m2, m3, m4⟩ := hm
  by_cases hmn : m = n
  · rw [if_pos (by simpa using hmn)]
    exact ⟨hp, by omega, by omega, m3⟩
  · rw [if_neg (by simpa using hmn)]
    by_cases h1 : m > 1
    · rw [if_pos h1]
      refine ⟨hp.lt (by omega), hp.lt (by omega), ?_⟩
      rw [m3 0 (m - 1) (by omega) (by omega)]
      dsimp only
      rw [if_pos rfl]
      exact ⟨hp, by omega, by omega, m3⟩
    · rw [if_neg h1]
      have em : m = 1 := by omega
      subst em
      have d0 : lt (p.getD 1 0) (p.getD 0 0) = true := by
        rcases m4 with z | z
        · omega
        · exact z
      unfold kas_descPart
      refine KW.bind (KW.mono (fun r hr => ?_) (desc_kw O hp (n - (1 + 1)) (1 + 1) (by omega) (by omega) (fun x y h1 h2 => ?_)))
      · obtain ⟨r1, r2, r3, r4, r5⟩ := hr
        rw [if_neg (by omega), r1]
        unfold kas_tail3
        have hq := rev_perm hp r.2.1
        refine KW.bind (KW.mono (fun m' hm' => ?_) (asc_kw O hq (n - r.2.1) r.2.1 (by omega) (by omega) ?_))
        · obtain ⟨a1, a2, a3, _⟩ := hm'
          exact ⟨hq, by show 1 ≤ m'; omega, by show m' ≤ n; omega, a3⟩
        · intro x y hxy hy
          rw [rev_get hp (by omega) (by omega), rev_get hp (by omega) hy]
          exact r5 _ _ (by omega) (by omega)
      · have : x = 0 := by omega
        have : y = 1 := by omega
        subst_vars
        exact d0
theorem place_kw (O : OrdN n lt) {p : Array Nat} (hp : PermA n p) {k : Nat} (hk : k < n) (ha : Asc lt p k) : ∀ (f lo hi : Nat), lo ≤ hi → hi ≤ k → hi - lo ≤ f → (∀ j, j < lo → lt (p.getD j 0) (p.getD k 0) = true) → (∀ j, hi ≤ j → j < k → lt (p.getD k 0) (p.getD j 0) = true) →
    KW lt n (kas_place p k f lo hi) (fun l => l ≤ k ∧ (∀ j, j < l → lt (p.getD j 0) (p.getD k 0) = true) ∧ ∀ j, l ≤ j → j < k → lt (p.getD k 0) (p.getD j 0) = true)
  | 0, lo, hi, h1, h2, h3, h4, h5 => by
    rw [kas_place.eq_1]
    exact ⟨by omega, h4, fun j hj => h5 j (by omega)⟩
  | f + 1, lo, hi, h1, h2, h3, h4, h5 => by
    rw [kas_place.eq_2]
    by_cases hlt : lo ≥ hi
    · rw [if_pos hlt]
      exact ⟨by omega, h4, fun j hj => h5 j (by omega)⟩
    · rw [if_neg hlt]
      refine ⟨hp.lt hk, hp.lt (by omega), ?_⟩
      cases e : lt (p.getD k 0) (p.getD ((lo + hi) / 2) 0) with
      | true =>
        dsimp only
        rw [if_pos rfl]
        refine place_kw O hp hk ha f lo ((lo + hi) / 2) (by omega) (by omega) (by omega) h4 fun j hj hjk => ?_
        by_cases hj2 : j = (lo + hi) / 2
        · rw [hj2]; exact e
        · exact O.tr _ _ _ (hp.lt hk) (hp.lt (by omega)) (hp.lt (by omega)) e (ha _ j (by omega) hjk)
      | false =>
        dsimp only
        rw [if_neg Bool.false_ne_true]
        have e2 := O.tot _ _ (hp.lt hk) (hp.lt (by omega)) (hp.inj hk (by omega) (by omega)) e
        refine place_kw O hp hk ha f ((lo + hi) / 2 + 1) hi (by omega) h2 (by omega) (fun j hj => ?_) h5
        by_cases hj2 : j = (lo + hi) / 2
        · rw [hj2]; exact e2
        · exact O.tr _ _ _ (hp.lt (by omega)) (hp.lt (by omega)) (hp.lt hk) (ha j _ (by omega) (by omega)) e2
theorem bin_kw (O : OrdN n lt) : ∀ (f : Nat) (p : Array Nat) (k : Nat), PermA n p → 1 ≤ k → k + f = n → Asc lt p k → KW lt n (kas_bin f p k) (fun q => PermA n q ∧ Asc lt q n)
  | 0, p, k, hp, h1, hk, ha => by
    rw [kas_bin.eq_1]
    have : k = n := by omega
    subst this
    exact ⟨hp, ha⟩
  | f + 1, p, k, hp, h1, hk, ha => by
    rw [kas_bin.eq_2]
    have hkn : k < n := by omega
    have hs := hp.sz
    refine KW.bind (KW.mono (fun l hl => ?_) (place_kw O hp hkn ha k 0 k (Nat.zero_le _) (Nat.le_refl _) (by omega) (fun j hj => by omega) (fun j h1 h2 => by omega)))
    obtain ⟨l1, l2, l3⟩ := hl
    have hq : PermA n (bubble p k (k - l)) := hp.of (bubble_perm _ _ _)
    refine bin_kw O f _ (k + 1) hq (by omega) (by omega) ?_
    have hg : ∀ x, (bubble p k (k - l)).getD x 0 = if x = l then p.getD k 0 else if l < x ∧ x ≤ k then p.getD (x - 1) 0 else p.getD x 0 := fun x => by
      rw [Array.getD_eq_getD_getElem?, getElem?_bubble (by omega) (k - l) (by omega), show k - (k - l) = l by omega]
      split
      · rw [Array.getD_eq_getD_getElem?]
      · split <;> rw [Array.getD_eq_getD_getElem?]
    intro x y hxy hy
    rw [hg, hg]
    by_cases hx : x = l
    · rw [if_pos hx, if_neg (by omega), if_pos ⟨by omega, by omega⟩]
      exact l3 _ (by omega) (by omega)
    · rw [if_neg hx]
      by_cases hy2 : y = l
      · rw [if_pos hy2, if_neg (by omega)]
        exact l2 _ (by omega)
      · rw [if_neg hy2]
        split
        · rw [if_pos ⟨by omega, by omega⟩]
          exact ha _ _ (by omega) (by omega)
        · split
          · exact ha _ _ (by omega) (by omega)
          · exact ha _ _ hxy (by omega)
theorem sort_kw (O : OrdN n lt) (hn : 2 ≤ n) : KW lt n (kas_sort n) (fun q => PermA n q ∧ Asc lt q n) := by
  unfold kas_sort
  have hp : PermA n (List.range n).toArray := ⟨by simp, by simp⟩
  refine KW.bind (KW.mono (fun r hr => ?_) (count_kw O hp hn))
  obtain ⟨r1, r2, r3, r4⟩ := hr
  by_cases h : r.1 < n
  · rw [if_pos h, Nat.max_eq_left r2]
    exact bin_kw O _ _ _ r1 r2 (by omega) r4
  · rw [if_neg h]
    have e : r.1 = n := by omega
    rw [e] at r4
    exact ⟨r1, r4⟩
end
end L2
namespace L2
open PySem PySem.Spec PyProof.Rows PySem.W
def blt : List Int → List Int → Bool
  | [], [] => false
  | [], _ :: _ => true
  | _ :: _, [] => false
  | a :: r, b :: t => if a = b then blt r t else decide (a < b)
theorem blt_tot : ∀ (k l : List Int), k ≠ l → blt k l = false → blt l k = true
  | [], [], h, _ => absurd rfl h
  | [], _ :: _, _, h => by simp [blt] at h
  | _ :: _, [], _, _ => rfl
  | a :: r, b :: t, h, e => by
    unfold blt at e ⊢
    by_cases hab : a = b
    · subst hab
      rw [if_pos rfl] at e ⊢
      exact blt_tot r t (fun z => h (by rw [z])) e
    · rw [if_neg hab] at e
      rw [if_neg (fun z => hab z.symm)]
      simp at e ⊢
      omega
theorem blt_tr : ∀ (k l m : List Int), blt k l = true → blt l m = true → blt k m = true
  | [], [], _, h, _ => by simp [blt] at h
  | _ :: _, [], _, h, _ => by simp [blt] at h
  | [], _ :: _, [], _, h => by simp [blt] at h
  | _ :: _, _ :: _, [], _, h => by simp [blt] at h
  | [], _ :: _, _ :: _, _, _ => rfl
  | a :: r, b :: t, c :: u, h1, h2 => by
    unfold blt at h1 h2 ⊢
    by_cases hab : a = b
    · subst hab
      rw [if_pos rfl] at h1
      by_cases hbc : a = c
      · subst hbc
        rw [if_pos rfl] at h2 ⊢
        exact blt_tr r t u h1 h2
      · rw [if_neg hbc] at h2 ⊢
        exact h2
    · rw [if_neg hab] at h1
      by_cases hbc : b = c
      · subst hbc
        rw [if_neg hab]
        exact h1
      · rw [if_neg hbc] at h2
        simp at h1 h2
        rw [if_neg (by omega)]
        simp; omega
theorem blt_irr : ∀ k : List Int, blt k k = false
  | [] => rfl
  | a :: r => by unfold blt; rw [if_pos rfl]; exact blt_irr r
def ltK (ks : List (List Int)) (i j : Nat) : Bool := blt (ks.getD i []) (ks.getD j [])
theorem ordK (ks : List (List Int)) (nd : ks.Nodup) : OrdN ks.length (ltK ks) where
  tot := fun i j hi hj hne e => by
    refine blt_tot _ _ (fun z => ?_) e
    rw [List.getD_eq_getElem?_getD, List.getD_eq_getElem?_getD, List.getElem?_eq_getElem hi, List.getElem?_eq_getElem hj] at z
    have pw := List.pairwise_iff_getElem.mp nd
    rcases Nat.lt_or_gt_of_ne hne with h | h
    · exact pw i j hi hj h z
    · exact pw j i hj hi h z.symm
  tr := fun i j k _ _ _ h1 h2 => blt_tr _ _ _ h1 h2
def TupV (h : Heap) (v : Value) (k : List Int) : Prop := ∃ b o xs e, v = .ref b ∧ h.get? b = some o ∧ o.cls = .type "tuple" ∧ o.data = .seq xs e ∧ Vals (k.map V.int) xs.toList
section
variable {prog : Program} {w : World} {A : Around} {E : Value → Shared → Prop} {s : Shared}
theorem lex_ints {b fin : Bool} {Q : Bool → Shared → Prop} : ∀ (k l : List Int) (us ws : List Value) (i : Nat), Vals (k.map V.int) us → Vals (l.map V.int) ws → fin = decide (k.length < l.length) → Q (blt k l) s → KatLex prog w A b fin Q (us.zip ws) i s
  | [], l, us, ws, i, hu, hw, hf, q => by
    cases us with
    | cons _ _ => exact absurd hu.length (by simp)
    | nil =>
      rw [List.zip_nil_left]
      refine kat_nil ?_
      rw [hf]
      cases l with
      | nil => exact q
      | cons _ _ => exact q
  | x :: k, [], us, ws, i, hu, hw, hf, q => by
    cases ws with
    | cons _ _ => exact absurd hw.length (by simp)
    | nil =>
      rw [List.zip_nil_right]
      refine kat_nil ?_
      rw [hf]
      exact q
  | x :: k, y :: l, us, ws, i, hu, hw, hf, q => by
    cases us with
    | nil => exact absurd hu.length (by simp)
    | cons u us =>
      cases ws with
      | nil => exact absurd hw.length (by simp)
      | cons v ws =>
        rw [List.map_cons] at hu hw
        cases hu with
        | cons hx hu =>
          cases hw with
          | cons hy hw =>
            obtain ⟨t, rfl⟩ := (show ∃ t, u = Value.int x t from hx)
            obtain ⟨t', rfl⟩ := (show ∃ t, v = Value.int y t from hy)
            rw [List.zip_cons_cons]
            refine kat_cons (wpAny_eqBool_int ?_)
            by_cases hxy : x = y
            · subst hxy
              rw [show (x == x) = true by simp]
              refine kat_yes (lex_ints k l us ws (i + 1) hu hw (by rw [hf]; simp) ?_)
              unfold blt at q
              rwa [if_pos rfl] at q
            · rw [show (x == y) = false by simpa using hxy]
              unfold blt at q
              rw [if_neg hxy] at q
              refine kat_no ?_
              cases (b && i == 0) with
              | true => exact oneLt_int q
              | false => exact kat_one _ _ (lt_int q)
theorem tup_lt {b : Bool} {Q : Bool → Shared → Prop} {x y : Value} {k l : List Int} (hx : TupV s.heap x k) (hy : TupV s.heap y l) (q : Q (blt k l) s) : wpAny (model prog w) A (keyLt' (tuples' b) x y) Q E s := by
  obtain ⟨a, o, xs, e, rfl, h1, h2, h3, h4⟩ := hx
  obtain ⟨a', o', xs', e', rfl, h1', h2', h3', h4'⟩ := hy
  refine kat_lt h1 h3 h1' h3' (lex_ints k l _ _ 0 h4 h4' ?_ q)
  have e1 : k.length = xs.size := by have := h4.length; simpa using this
  have e2 : l.length = xs'.size := by have := h4'.length; simpa using this
  rw [e1, e2]
theorem kat_of {h : Heap} : ∀ {vs : List Value} {ks : List (List Int)}, vs.length = ks.length → (∀ (i : Nat) v k, vs[i]? = some v → ks[i]? = some k → TupV h v k ∧ k ≠ []) → ∃ fs, KatTups h vs fs ∧ fs.length = vs.length ∧ ∀ v ∈ fs, ∃ i t, v = Value.int i t
  | [], [], _, _ => ⟨[], .nil, rfl, fun v hv => by cases hv⟩
  | v :: vs, k :: ks, hl, H => by
    obtain ⟨fs, f1, f2, f3⟩ := kat_of (vs := vs) (ks := ks) (by simpa using hl) (fun i v k e1 e2 => H (i + 1) v k (by simpa using e1) (by simpa using e2))
    obtain ⟨⟨b, o, xs, e, rfl, h1, h2, h3, h4⟩, hne⟩ := H 0 v k rfl rfl
    cases k with
    | nil => exact absurd rfl hne
    | cons i r =>
      obtain ⟨u, us, eu, hu⟩ : ∃ u us, xs.toList = u :: us ∧ RelV (.int i) u := by
        generalize xs.toList = ys at h4
        cases h4 with
        | cons hx _ => exact ⟨_, _, rfl, hx⟩
      obtain ⟨t, rfl⟩ := (show ∃ t, u = Value.int i t from hu)
      refine ⟨Value.int i t :: fs, ?_, by simp [f2], fun v hv => ?_⟩
      · rw [KatTups.eq_2]
        refine ⟨⟨b, o, xs, e, rfl, h1, h2, h3, ?_⟩, f1⟩
        rw [← Array.getElem?_toList, eu]; rfl
      · rcases List.mem_cons.mp hv with h | h
        · exact ⟨i, t, h⟩
        · exact f3 v h
theorem sort_tups {a : Addr} {vs : List Value} {n : Nat} {P : Fin → Shared → Prop} {ks : List (List Int)} (ho : s.heap.get? a = some (seqObj "list" vs.toArray n)) (h2 : 2 ≤ vs.length) (h64 : vs.length < 64) (hl : vs.length = ks.length) (nd : ks.Nodup)
    (hT : ∀ (i : Nat) v k, vs[i]? = some v → ks[i]? = some k → TupV s.heap v k ∧ k ≠ [])
    (h : ∀ p : Array Nat, PermA ks.length p → Asc (ltK ks) p ks.length → P (.done (.ret .none)) { s with heap := sortedHeap s.heap a vs (p.map fun i => vs.getD i .none) }) : wpAny (model prog w) A (Builtin.«list.sort» ⟨[.ref a], []⟩) P E s := by
  rw [list_sort_plain]
  have la : a < s.heap.objs.size := Heap.lt_size ho
  refine wpAny_bind (listItems_at ho rfl ?_); refine wpAny_bind (listUpdate_at ho rfl ?_)
  obtain ⟨e1, h1⟩ : ∃ e1, (s.heap.update a (Obj.mapSeq fun _ => #[])).get? a = some (seqObj "list" #[] e1) := ⟨_, get?_update_seq ho (fun _ => #[])⟩
  refine wpAny_bind (seqEpoch_at h1 rfl ?_); refine wpAny_bind (wpAny_newTuple ?_ (by simp only [List.toList_toArray]; rw [sizeLine_eq]; omega)); refine wpAny_bind (wpAny_newList ?_); refine wpAny_holding ?_
  have h6 : (((s.heap.update a (Obj.mapSeq fun _ => #[])).push (seqObj "tuple" vs.toArray 0)).push (seqObj "list" #[] 0)).get? a = some (seqObj "list" #[] e1) := by
    rw [Heap.get?_push_ne _ _ _ (by rw [size_push', Heap.size_update]; exact Nat.ne_of_lt (Nat.lt_succ_of_lt la)), Heap.get?_push_ne _ _ _ (by rw [Heap.size_update]; exact Nat.ne_of_lt la)]; exact h1
  show wpAny (model prog w) A _ P E { s with heap := ((s.heap.update a (Obj.mapSeq fun _ => #[])).push (seqObj "tuple" vs.toArray 0)).push (seqObj "list" #[] 0) }
  obtain ⟨s3, es3⟩ : ∃ s3 : Shared, s3 = { s with heap := ((s.heap.update a (Obj.mapSeq fun _ => #[])).push (seqObj "tuple" vs.toArray 0)).push (seqObj "list" #[] 0) } := ⟨_, rfl⟩
  have hT3 : ∀ (i : Nat) v k, vs[i]? = some v → ks[i]? = some k → TupV s3.heap v k ∧ k ≠ [] := fun i v k q1 q2 => by
    obtain ⟨⟨b, o, xs, e, rfl, g1, g2, g3, g4⟩, hne⟩ := hT i v k q1 q2
    refine ⟨⟨b, o, xs, e, rfl, ?_, g2, g3, g4⟩, hne⟩
    have hba : b ≠ a := fun z => by
      subst z
      rw [ho] at g1
      cases g1
      have g2' : (Value.type "list" : Value) = Value.type "tuple" := g2
      injection g2' with e'
      exact absurd e' (by decide)
    rw [es3]
    exact Heap.get?_push_of_some _ (Heap.get?_push_of_some _ ((Heap.SameBut.update s.heap a _).extBut b o hba g1))
  obtain ⟨fs, f1, f2, f3⟩ := kat_of hl hT3
  have z2 : ¬ vs.toArray.size < 2 := by simpa using by omega
  dsimp only
  rw [if_neg z2, if_neg z2, ← es3]
  refine wpAny_bind (kat_kind (T := .type "int") f1 (by omega) (fun v hv => ?_) (by decide) ?_)
  · obtain ⟨i, t, rfl⟩ := f3 v hv
    exact Looks.of_pure rfl
  have hrun := kas_runs (prog := prog) (w := w) (A := A) (E := E) (κ := tuples' true) (it := pairsOf vs) (n := ks.length) (s := s3) (G := fun p s' => s' = s3 ∧ PermA ks.length p ∧ Asc (ltK ks) p ks.length)
    (Q := fun _ st' s' => s' = s3 ∧ failedOf st' = none ∧ ∃ p, arrOf st' = p.map (kas_item (pairsOf vs)) ∧ PermA ks.length p ∧ Asc (ltK ks) p ks.length) (by omega) (by omega)
    (fun p st' s' hz ha hf hG => ⟨hG.1, hf, p, ha, hG.2⟩)
    (KW.run (fun i j C hi hj hC => by
      unfold kas_cmp
      rw [kas_item_eq, kas_item_eq]
      have q1 : vs[i]? = some (vs.getD i .none) := by rw [List.getD_eq_getElem?_getD, List.getElem?_eq_getElem (by omega)]; rfl
      have q2 : vs[j]? = some (vs.getD j .none) := by rw [List.getD_eq_getElem?_getD, List.getElem?_eq_getElem (by omega)]; rfl
      have q3 : ks[i]? = some (ks.getD i []) := by rw [List.getD_eq_getElem?_getD, List.getElem?_eq_getElem hi]; rfl
      have q4 : ks[j]? = some (ks.getD j []) := by rw [List.getD_eq_getElem?_getD, List.getElem?_eq_getElem hj]; rfl
      exact tup_lt (hT3 i _ _ q1 q3).1 (hT3 j _ _ q2 q4).1 hC) (sort_kw (ordK ks nd) (by omega)))
  have est : kas_st (tuples' true) (pairsOf vs) (List.range ks.length).toArray = SortSt.mk' (tuples' true) (vs.toArray.zip vs.toArray) #[] 7 none := by
    unfold kas_st
    have := kas_range (pairsOf vs)
    rw [pairsOf_size, hl] at this
    rw [this]; rfl
  rw [est] at hrun
  show wpAny (model prog w) A (sortRuns'.run (SortSt.mk' (tuples' true) (vs.toArray.zip vs.toArray) #[] 7 none) >>= _) P E s3
  refine wpAny_bind (wpAny_mono hrun (fun r s' hq => ?_) fun _ _ z => z)
  obtain ⟨rfl, hf, p, hp, hq⟩ := hq
  have h6' : s'.heap.get? a = some (seqObj "list" #[] e1) := by rw [es3]; exact h6
  have hz : ((arrOf r.2).map (·.2)).size ≤ sizeLine := by rw [Array.size_map, hp, Array.size_map, hq.1.sz, sizeLine_eq]; omega
  refine wpAny_bind (seqEpoch_at h6' rfl ?_); refine wpAny_bind (listUpdate_at h6' rfl ?_ (hsz2 := Nat.le_succ_of_le hz))
  rw [hf]
  simp only [bne_self_eq_false, Bool.false_eq_true, if_false]
  refine wpAny_pure ?_
  have := h p hq.1 hq.2
  rw [es3]
  rw [hp, Array.map_map]
  have ef : ((fun x : Keyed => x.2) ∘ kas_item (pairsOf vs)) = fun i => vs.getD i .none := by
    funext i
    show (kas_item (pairsOf vs) i).2 = _
    rw [kas_item_eq]
  rw [ef]
  exact this
end
end L2
namespace L2
open PySem PySem.Spec PyProof.Rows PySem.W
def pick {α : Type} (idx : List Nat) (xs : List α) (d : α) : List α := idx.map fun i => xs.getD i d
theorem pick_range {α : Type} (xs : List α) (d : α) : pick (List.range xs.length) xs d = xs := by
  unfold pick
  apply List.ext_getElem?
  intro i
  rw [List.getElem?_map]
  by_cases h : i < xs.length
  · rw [List.getElem?_range h, List.getElem?_eq_getElem h]
    simp [List.getD_eq_getElem?_getD, List.getElem?_eq_getElem h]
  · rw [List.getElem?_eq_none (by simpa using by omega), List.getElem?_eq_none (by omega)]; rfl
theorem pick_perm {α : Type} {idx : List Nat} {xs : List α} {d : α} (h : idx.Perm (List.range xs.length)) : (pick idx xs d).Perm xs := by
  have := h.map (fun i => xs.getD i d)
  have e := pick_range xs d
  unfold pick at e
  rw [e] at this
  exact this
def TupsH (H : Hp) (xs : List V) (ks : List (List Int)) : Prop := Paired (fun v r => ∃ a, v = V.ref a ∧ H a = some (.tup (r.map V.int))) xs ks
theorem TupsH.len {H : Hp} : ∀ {xs : List V} {ks : List (List Int)}, TupsH H xs ks → xs.length = ks.length
  | _, _, .nil => rfl
  | _, _, .cons _ t => by simp [TupsH.len t]
theorem TupsH.get {H : Hp} : ∀ {xs : List V} {ks : List (List Int)} {i : Nat} {x : V} {k : List Int}, TupsH H xs ks → xs[i]? = some x → ks[i]? = some k → ∃ a, x = .ref a ∧ H a = some (.tup (k.map V.int))
  | _, _, _, _, _, .nil, e, _ => by simp at e
  | _, _, 0, _, _, .cons r _, e, f => by simp at e f; subst e f; exact r
  | _, _, i + 1, x, k, .cons _ t, e, f => TupsH.get (i := i) t (by simpa using e) (by simpa using f)
theorem TupsH.pick {H : Hp} {xs : List V} {ks : List (List Int)} (h : TupsH H xs ks) : ∀ {idx : List Nat}, (∀ i ∈ idx, i < ks.length) → TupsH H (pick idx xs .non) (pick idx ks [])
  | [], _ => .nil
  | i :: r, hi => by
    have h0 := hi i List.mem_cons_self
    have hl := h.len
    refine .cons (h.get (i := i) ?_ ?_) (TupsH.pick h fun j hj => hi j (List.mem_cons_of_mem _ hj))
    · show xs[i]? = some (xs.getD i .non)
      rw [List.getD_eq_getElem?_getD, List.getElem?_eq_getElem (by omega)]; rfl
    · show ks[i]? = some (ks.getD i [])
      rw [List.getD_eq_getElem?_getD, List.getElem?_eq_getElem h0]; rfl
theorem vals_pick {xs : List V} {vs : List Value} (h : Vals xs vs) : ∀ {idx : List Nat}, (∀ i ∈ idx, i < xs.length) → Vals (pick idx xs .non) (pick idx vs .none)
  | [], _ => .nil
  | i :: r, hi => by
    have h0 := hi i List.mem_cons_self
    have hl := h.length
    refine .cons ?_ (vals_pick h fun j hj => hi j (List.mem_cons_of_mem _ hj))
    show RelV (xs.getD i .non) (vs.getD i .none)
    rw [List.getD_eq_getElem?_getD, List.getElem?_eq_getElem h0, List.getD_eq_getElem?_getD, List.getElem?_eq_getElem (by omega)]
    exact vals_ix h h0 (by omega)
where
  vals_ix : ∀ {xs : List V} {vs : List Value} {i : Nat}, Vals xs vs → (h1 : i < xs.length) → (h2 : i < vs.length) → RelV xs[i] vs[i]
    | _, _, 0, .cons r _, _, _ => r
    | _, _, i + 1, .cons _ t, h1, h2 => vals_ix (i := i) t (by simpa using h1) (by simpa using h2)
section
variable {prog : Program} {w : World} {A : Around} {E : Value → Shared → Prop} {s : Shared}
theorem sort_any {a : Addr} {vs : List Value} {n : Nat} {P : Fin → Shared → Prop} {ks : List (List Int)} (ho : s.heap.get? a = some (seqObj "list" vs.toArray n)) (h64 : vs.length < 64) (hl : vs.length = ks.length) (nd : ks.Nodup)
    (hT : ∀ (i : Nat) v k, vs[i]? = some v → ks[i]? = some k → TupV s.heap v k ∧ k ≠ [])
    (h : ∀ idx : List Nat, idx.Perm (List.range ks.length) → (pick idx ks []).Pairwise (fun k l => blt k l = true) → P (.done (.ret .none)) { s with heap := sortedHeap s.heap a vs (pick idx vs .none).toArray }) : wpAny (model prog w) A (Builtin.«list.sort» ⟨[.ref a], []⟩) P E s := by
  by_cases h2 : vs.length < 2
  · refine sort_short ho h2 ?_
    have := h (List.range ks.length) (.refl _) (by
      rw [pick_range]
      match ks, hl with
      | [], _ => exact .nil
      | [k], _ => exact List.pairwise_singleton _ _
      | _ :: _ :: _, hl => simp at hl; omega)
    rw [← hl, pick_range] at this
    rw [zip_snd]
    exact this
  · refine sort_tups ho (by omega) h64 hl nd hT fun p hp ha => ?_
    have e : (p.map fun i => vs.getD i .none) = (pick p.toList vs .none).toArray := by
      apply Array.ext'
      simp [pick]
    rw [e]
    refine h p.toList hp.perm ?_
    rw [List.pairwise_iff_getElem]
    intro i j hi hj hij
    have hs := hp.sz
    have li : i < p.size := by simpa [pick] using hi
    have lj : j < p.size := by simpa [pick] using hj
    have := ha i j hij (by omega)
    unfold ltK at this
    rw [Array.getD_eq_getD_getElem?, Array.getElem?_eq_getElem li, Array.getD_eq_getD_getElem?, Array.getElem?_eq_getElem lj] at this
    simpa [pick] using this
theorem sorted_list {l : Addr} {vs : List Value} {ks : List (List Int)} {Q : Value → Shared → Prop} (hL : s.heap.IsList l vs.toArray) (h64 : vs.length < 64) (hl : vs.length = ks.length) (nd : ks.Nodup)
    (hT : ∀ (i : Nat) v k, vs[i]? = some v → ks[i]? = some k → TupV s.heap v k ∧ k ≠ [])
    (h : ∀ idx : List Nat, idx.Perm (List.range ks.length) → (pick idx ks []).Pairwise (fun k l => blt k l = true) → Q (.ref (s.heap.objs.size + 1)) { s with heap := sortedAll s.heap vs (pick idx vs .none).toArray }) : wpAny (model prog w) A (call (.builtin "sorted") [.ref l]) Q E s := by
  refine Calls.call_function_entry kind_sorted plain_sorted entry_sorted (args_sorted1 _) ?_
  unfold Builtin.«sorted»; refine wpAny_bind (m := checkCount "sorted" 1 1 _) (wpAny_pure ?_)
  refine wpAny_bind (collect_list hL ?_ (by rw [sizeLine_eq]; omega))
  refine wpAny_bind (wpAny_newList ?_ (by rw [sizeLine_eq]; omega))
  have hsz : ((s.heap.push (seqObj "list" #[] 0)).update s.heap.objs.size (Obj.mapSeq fun x => x ++ vs.toArray)).objs.size = s.heap.objs.size + 1 := by rw [Heap.size_update, size_push']
  have hS : (((s.heap.push (seqObj "list" #[] 0)).update s.heap.objs.size (Obj.mapSeq fun x => x ++ vs.toArray)).push (seqObj "list" vs.toArray 0)).get? (s.heap.objs.size + 1) = some (seqObj "list" vs.toArray 0) := by
    rw [← hsz]; exact Heap.get?_push_size _ rfl
  dsimp only
  rw [hsz]
  have kp : ∀ b ob, s.heap.get? b = some ob → (((s.heap.push (seqObj "list" #[] 0)).update s.heap.objs.size (Obj.mapSeq fun x => x ++ vs.toArray)).push (seqObj "list" vs.toArray 0)).get? b = some ob := fun b ob hb => by
    refine Heap.get?_push_of_some _ ((Heap.SameBut.update _ s.heap.objs.size _).extBut b ob (Nat.ne_of_lt (Heap.lt_size hb)) (Heap.get?_push_of_some _ hb))
  refine wpAny_bind (wpAny_holding (wpAny_call_entry slot_list_sort ⟨_, hS, rfl⟩ entry_list_sort (sort_any (s := { s with heap := ((s.heap.push (seqObj "list" #[] 0)).update s.heap.objs.size (Obj.mapSeq fun x => x ++ vs.toArray)).push (seqObj "list" vs.toArray 0) }) hS h64 hl nd (fun i v k q1 q2 => ?_) fun idx i1 i2 => ⟨_, rfl, ?_⟩) (args_list_sort _)))
  · obtain ⟨⟨b, o, xs, e, e1, g1, g2⟩, hne⟩ := hT i v k q1 q2
    exact ⟨⟨b, o, xs, e, e1, kp _ _ g1, g2⟩, hne⟩
  · exact wpAny_pure ⟨_, rfl, h idx i1 i2⟩
end
section
variable {X : Cx}
theorem tupV_of {pins : List (Addr × Obj)} {σ : St} {H : Hp} {s : Shared} {a : Addr} {k : List Int} (I : Inv X pins σ H s) (h : H a = some (.tup (k.map V.int))) : TupV s.heap (.ref a) k := by
  obtain ⟨its, rv, p, _⟩ := I.tuple (SqT.of h)
  obtain ⟨o, h1, h2, n, h3⟩ := (show s.heap.IsTuple a its.toArray from p)
  exact ⟨a, o, its.toArray, n, rfl, h1, h2, h3, by simpa using rv⟩
def rSortL (K : PySem.W.Frag) : List V → Hp → VK → Prop := fun xs H Q => ∃ (p : Addr) (ys : List V) (ks : List (List Int)), xs = [.ref p] ∧ SqL K H p ys ∧ TupsH H ys ks ∧ ks.length < 64 ∧ ks.Nodup ∧ (∀ k ∈ ks, k ≠ []) ∧
  ∀ ms zs l H', ms.Perm ks → ms.Pairwise (fun k l => blt k l = true) → TupsH H zs ms → New H H' l (.lst zs) → Q (.ref l) H'
theorem call_sortedL : CallR X (.builtin "sorted") (rSortL X.K) := by
  intro pins s σ H xs us Q I r h
  obtain ⟨p, ys, ks, rfl, hq, hT, h64, nd, hne, q⟩ := h
  obtain ⟨u, rfl, ru⟩ := vals1 r
  cases (show u = Value.ref p from ru)
  obtain ⟨its, rv, pl, hz⟩ := I.list hq
  have l1 := hT.len
  have l2 := rv.length
  refine sorted_list pl.isList (by omega) (ks := ks) (by omega) nd (fun i v k q1 q2 => ?_) fun idx i1 i2 => ?_
  · obtain ⟨x, qx⟩ : ∃ x, ys[i]? = some x := ⟨_, List.getElem?_eq_getElem (by have := (List.getElem?_eq_some_iff.mp q2).1; omega)⟩
    obtain ⟨a, rfl, ha⟩ := hT.get qx q2
    have hv : v = Value.ref a := by
      have hx := (List.getElem?_eq_some_iff.mp qx)
      have hvv := (List.getElem?_eq_some_iff.mp q1)
      have := vals_pick.vals_ix rv hx.1 hvv.1
      rw [hx.2, hvv.2] at this
      exact this
    subst hv
    exact ⟨tupV_of I ha, hne k (List.mem_of_getElem? q2)⟩
  · have hi : ∀ i ∈ idx, i < ks.length := fun i h => List.mem_range.mp (i1.mem_iff.mp h)
    obtain ⟨e, he⟩ := sortedAll_at s.heap its (pick idx its .none).toArray
    have vp : Vals (pick idx ys .non) (pick idx its .none) := vals_pick rv (fun i h => by have := hi i h; omega)
    refine ⟨.ref _, _, I.laid (t' := s.toks) (o := .lst (pick idx ys .non)) (fun _ _ => sortedAll_old) (Nat.le_succ _) ⟨?_, pick idx its .none, e, vp, he⟩, rfl, q (pick idx ks []) (pick idx ys .non) _ _ (pick_perm i1) i2 (hT.pick hi) (new_upd (I.hok.fresh (Nat.le_succ _)))⟩
    have := i1.length_eq
    rw [List.length_range] at this
    show (pick idx ys .non).length ≤ _
    unfold pick
    rw [List.length_map, sizeLine_eq]; omega
def rSortD : List V → Hp → VK → Prop := fun xs H Q => ∃ (a : Addr) (kvs : List (List Key × V)) (ks : List (List Int)), xs = [.ref a] ∧ H a = some (.dT kvs) ∧ kvs.map (·.1) = ks.map (fun k => k.map Sum.inl) ∧ ks.length < 64 ∧ ks.Nodup ∧ (∀ k ∈ ks, k ≠ []) ∧
  ∀ ms zs l H', ms.Perm ks → ms.Pairwise (fun k l => blt k l = true) → TupsH H zs ms → New H H' l (.lst zs) → Q (.ref l) H'
theorem kt_tups {H : Hp} : ∀ {kvs : List (List Key × V)} {ys : List (List Key × Addr × Value)} {ks : List (List Int)}, KT H kvs ys → kvs.map (·.1) = ks.map (fun k => k.map Sum.inl) → TupsH H (ys.map fun y => V.ref y.2.1) ks
  | [], _, ks, .nil, e => by
    cases ks with
    | nil => exact .nil
    | cons _ _ => cases e
  | p :: r, _, ks, .cons (b := y) hy t, e => by
    cases ks with
    | nil => cases e
    | cons k ks =>
      rw [List.map_cons, List.map_cons] at e
      injection e with e1 e2
      refine .cons ⟨y.2.1, rfl, ?_⟩ (kt_tups t e2)
      have := hy.2.1
      rw [e1] at this
      rw [this, List.map_map]; rfl
theorem refs_vals : ∀ ys : List (List Key × Addr × Value), Vals (ys.map fun y => V.ref y.2.1) (ys.map fun y => Value.ref y.2.1)
  | [] => .nil
  | _ :: r => .cons rfl (refs_vals r)
theorem call_sortedD (hc : X.calm = true) : CallR X (.builtin "sorted") rSortD := by
  intro pins s σ H xs us Q I r h
  obtain ⟨a, kvs, ks, rfl, ha, ek, h64, nd, hne, q⟩ := h
  obtain ⟨u, rfl, rx⟩ := vals1 r
  cases (show u = Value.ref a from rx)
  obtain ⟨hz, lo, ys, kt, o, es, ep, e1, e2, e3, e4, _⟩ := dt_of I.hok ha
  have hR : RawD s.heap a es ep := ⟨o, e1, e2, e3⟩
  have hT := kt_tups kt ek
  have lk : kvs.length = ks.length := by have := congrArg List.length ek; simpa using this
  have ly : ys.length = ks.length := by have := hT.len; simpa using this
  have hl : es.size = ys.length := by rw [← Array.length_toList, e4, List.length_map]
  refine Calls.call_function_entry kind_sorted plain_sorted entry_sorted (args_sorted1 _) ?_
  unfold Builtin.«sorted»; refine wpAny_bind (m := checkCount "sorted" 1 1 _) (wpAny_pure ?_)
  refine wpAny_bind (PySem.W.kdu_collect (rd_src lo) (I.ok.hd hc) hR (by rw [sizeLine_eq]; omega) fun h' tk acc hk hacc => ?_)
  have hlen : acc.toList.length = ks.length := by rw [Array.length_toList, hacc.1, hl, ly]
  have hacc' : acc.toList = ys.map fun y => Value.ref y.2.1 := by
    apply List.ext_getElem?
    intro i
    by_cases hi : i < ys.length
    · obtain ⟨v, hv⟩ : ∃ v, acc.toList[i]? = some v := ⟨_, List.getElem?_eq_getElem (by omega)⟩
      obtain ⟨e, he, hve⟩ := hacc.2 i v (by rw [← Array.getElem?_toList]; exact hv)
      rw [← Array.getElem?_toList, e4, List.getElem?_map, List.getElem?_eq_getElem hi] at he
      cases he
      rw [hv, List.getElem?_map, List.getElem?_eq_getElem hi, hve]; rfl
    · rw [List.getElem?_eq_none (by omega), List.getElem?_eq_none (by simpa using by omega)]
  have I' : Inv X pins σ H { s with heap := h', toks := tk } := I.kept hk
  have rv : Vals (ys.map fun y => V.ref y.2.1) acc.toList := by
    rw [hacc']
    exact refs_vals ys
  refine wpAny_bind (wpAny_newList ?_ (by rw [hlen, sizeLine_eq]; omega))
  have hS : (h'.push (seqObj "list" acc.toList.toArray 0)).get? h'.objs.size = some (seqObj "list" acc.toList.toArray 0) := Heap.get?_push_size _ rfl
  refine wpAny_bind (wpAny_holding (wpAny_call_entry slot_list_sort ⟨_, hS, rfl⟩ entry_list_sort (sort_any (s := { s with heap := h'.push (seqObj "list" acc.toList.toArray 0), toks := tk }) (ks := ks) hS (by omega) hlen nd (fun i v k q1 q2 => ?_) fun idx i1 i2 => ⟨_, rfl, ?_⟩) (args_list_sort _)))
  · obtain ⟨y, hy⟩ : ∃ y, ys[i]? = some y := ⟨_, List.getElem?_eq_getElem (by have := (List.getElem?_eq_some_iff.mp q2).1; omega)⟩
    obtain ⟨b, eb, hb⟩ := hT.get (i := i) (by rw [List.getElem?_map, hy]; rfl) q2
    cases eb
    have hv : v = Value.ref y.2.1 := by
      rw [hacc', List.getElem?_map, hy] at q1
      exact (Option.some.inj q1).symm
    subst hv
    obtain ⟨b, o, xs, e, e1, g1, g2⟩ := tupV_of I' hb
    exact ⟨⟨b, o, xs, e, e1, Heap.get?_push_of_some _ g1, g2⟩, hne k (List.mem_of_getElem? q2)⟩
  · refine wpAny_pure ⟨_, rfl, ?_⟩
    have hi : ∀ i ∈ idx, i < ks.length := fun i h => List.mem_range.mp (i1.mem_iff.mp h)
    have hil := i1.length_eq
    rw [List.length_range] at hil
    obtain ⟨c, hat⟩ : ∃ c, (sortedHeap (h'.push (seqObj "list" acc.toList.toArray 0)) h'.objs.size acc.toList (pick idx acc.toList .none).toArray).get? h'.objs.size = some (seqObj "list" (pick idx acc.toList .none).toArray c) := sortedHeap_at hS
    have kp : ∀ b ob, h'.get? b = some ob → (sortedHeap (h'.push (seqObj "list" acc.toList.toArray 0)) h'.objs.size acc.toList (pick idx acc.toList .none).toArray).get? b = some ob := fun b ob hb => by
      have lb := Heap.lt_size hb
      rw [sortedHeap_old (Nat.ne_of_lt lb) (by rw [size_push']; exact Nat.lt_succ_of_lt lb)]
      exact Heap.get?_push_of_some _ hb
    have vp : Vals (pick idx (ys.map fun y => V.ref y.2.1) .non) (pick idx acc.toList .none) := vals_pick rv (fun i h => by have := hi i h; simp; omega)
    refine ⟨.ref h'.objs.size, _, I'.laid (t' := tk) (o := .lst (pick idx (ys.map fun y => V.ref y.2.1) .non)) kp (Nat.le_refl _) ⟨?_, pick idx acc.toList .none, c, vp, hat⟩, rfl, q (pick idx ks []) _ _ _ (pick_perm i1) i2 (hT.pick hi) (new_upd (I'.hok.fresh (Nat.le_refl _)))⟩
    show (pick idx _ V.non).length ≤ _
    unfold pick
    rw [List.length_map, sizeLine_eq]; omega
end
end L2
namespace L2
open PySem PySem.Spec PyProof.Rows
def MetD (P : Program) (w : World) (K : PySem.W.Frag) (mg : Str → Option Value) (base : Heap) (C : Addr) (k : Nat) (m : Str) (ps : List Str) (ds : List Value) (sp : Sp) : Prop :=
  ∃ f fd, FnOk P w K mg base CX0 k f fd ps sp ∧ Meth K C m f ∧ Binds K fd ps ds
section
variable {X : Cx} {k : Nat} {C : Addr} {ps : List Str} {sp : Sp} {dvs : List V} {ds : List Value} {m : Str} {pos apos : Pos} {e o : Expr} {es : List Expr} {ta : TE} {t : TA}
theorem pe_mtD {pl : Sem Bool} (he : PE X o ta) (c : Cls X.K C) (D : MetD X.prog X.w X.K X.mg X.base C k m ps ds sp) (hr : Room k X.A) (hd : Vals dvs ds) (ha : PA X (e :: es) t)
    (hst : starEach (e :: es) X.env = (false, eval e X.env) :: starEach es X.env := by rfl) (hpl : (backTo pos (starEach es X.env)).any (·.1) = false := by rfl)
    (ht : eval (.Call (.Attribute o m apos) (e :: es) [] pos) X.env = (do
      let ov ← eval o X.env
      standAt apos.atName
      let (f, first) ← holding [ov] (getMethod ov m pl)
      callWith pos f first (backTo pos (starEach (e :: es) X.env)) (backToKw pos (keywordEach [] X.env))) := by rfl) :
    PE X (.Call (.Attribute o m apos) (e :: es) [] pos) (tMeth C m sp dvs E0 ta t) := by
  obtain ⟨f, fd, F, hm, hb⟩ := D
  exact pe_meth (pl := pl) he c hm F hr hb hd pass0 ha hst hpl ht
end
end L2
namespace L2
open PySem PySem.Spec PyProof.Rows PySem.W
section
variable {prog : Program} {w : World} {A : Around} {E : Value → Shared → Prop} {s : Shared}
end
section
variable {X : Cx} {pos : Pos}
end
end L2
namespace L2
open PySem PySem.Spec PyProof.Rows
section
variable {prog : Program} {w : World} {A : Around} {E : Value → Shared → Prop} {s : Shared}
abbrev itemIt (d : Addr) (n ep : Nat) : Obj := { cls := .type "dict_itemiterator", data := .fields #[.none, .bool false, .ref d, .int 0 0, .int n 0, .int ep 0, .none, .none] }
theorem ri_view {d : Addr} {es : Array DictEntry} {ep : Nat} {Q : Value → Shared → Prop} (lo : (d == sysModules) = false) (hm : RawD s.heap d es ep)
    (hQ : Q (.ref s.heap.objs.size) { s with heap := s.heap.push { cls := .type "dict_items", data := .fields #[.ref d] } }) : wpAny (model prog w) A (call (.builtin "dict.items") [.ref d]) Q E s := by
  have ty := hm.ty
  refine wpAny_call_entry F.slot_dict_items ty F.entry_dict_items ?_ (F.args_dict_items_1 _)
  unfold Builtin.«dict.items»; refine wpAny_bind ?_; unfold Builtin.Dict.noArgs
  refine wpAny_bind (wpAny_notOrdered_dict ty ?_); show wpAny _ _ (pure d) _ _ s; refine wpAny_pure ?_
  show wpAny _ _ (Builtin.Dict.showsAll d >>= _) _ _ s; unfold Builtin.Dict.showsAll; rw [if_neg (by rw [lo]; exact Bool.false_ne_true)]
  refine wpAny_bind (wpAny_pure ?_); exact wpAny_bind (wpAny_newObj_type (wpAny_pure ⟨_, rfl, hQ⟩))
theorem ri_iter {v d : Addr} {es : Array DictEntry} {ep : Nat} {Q : Value → Shared → Prop} (hv : s.heap.IsItemsView v d) (hm : RawD s.heap d es ep)
    (hQ : Q (.ref s.heap.objs.size) { s with heap := s.heap.push (itemIt d es.size ep) }) : wpAny (model prog w) A (pyIter (.ref v)) Q E s := by
  have ty := hv.typeIs
  obtain ⟨u, e1, e2, e3⟩ := hv
  obtain ⟨o, h1, h2, h3⟩ := hm
  refine wpAny_pyIter_slot ty F.slot_dict_items_iter (wpAny_call_entry F.slot_dict_items_iter ty F.entry_dict_items_iter ?_ (F.args_dict_items_iter_1 _))
  unfold Builtin.«dict_items.__iter__»; refine wpAny_bind (wpAny_pure ?_); refine wpAny_bind ?_
  unfold Builtin.Dict_items.dictOf; refine wpAny_bind (wpAny_field e1 e3 (x := .ref d) rfl (wpAny_pure ?_)); refine wpAny_bind ?_
  unfold Builtin.Dict_items.newIterator; refine wpAny_bind (wpAny_dictEntries h1 h3 ?_); refine wpAny_bind (wpAny_dictEpoch h1 h3 ?_)
  simp only [show Builtin.Dict_items.ownsTuple "dict_itemiterator" = true by decide, if_true]
  refine wpAny_newObj_type (wpAny_pure ⟨_, rfl, "dict_itemiterator", _, ⟨_, Heap.get?_push_size _ rfl, rfl⟩, F.slot_dict_itemiterator_next.lookup, ?_⟩) (by simp only [sizeOk, Builtin.Dict_items.ownedTupleFields, List.size_toArray, List.length_append, List.length_cons, List.length_nil, sizeLine_eq]; omega)
  simpa [rawInt, Builtin.Dict_items.ownedTupleFields] using hQ
theorem ri_item {it d : Addr} {i ep : Nat} {es : Array DictEntry} {ok ov : Value} {Q : Option Value → Shared → Prop} (hJ : IsItemIter s.heap it d i es.size ep ok ov) (hm : RawD s.heap d es ep) (hx : i < es.size)
    (hQ : ∀ h', IsItemIterOut h' it d (i + 1) es.size ep es[i].key es[i].val s.heap.objs.size → h'.get? s.heap.objs.size = some { cls := .type "tuple", data := .seq #[es[i].key, es[i].val] } →
      (∀ b o, b ≠ it → s.heap.get? b = some o → h'.get? b = some o) → Q (some (.ref s.heap.objs.size)) { s with heap := h' }) : wpAny (model prog w) A (pyNext (.ref it)) Q E s := by
  obtain ⟨hp, g, dr, tk, os⟩ := s
  obtain ⟨od, h1, h2, h3⟩ := hm
  have ty : Shared.TypeIs ⟨hp, g, dr, tk, os⟩ (.ref it) "dict_itemiterator" := ⟨_, hJ, rfl⟩
  unfold pyNext
  refine wpAny_bind (wpAny_attempt (wpAny_callSpecial?_slot (name := Str.ofString "__next__") ty F.slot_dict_itemiterator_next (wpAny_call_entry F.slot_dict_itemiterator_next ty F.entry_dict_itemiterator_next ?_ (F.args_dict_itemiterator_next_1 _))))
  refine wpAny_bind (wpAny_pure ?_); refine wpAny_bind ?_; refine wpAny_bind ?_
  first | refine wpAny_bind (wpAny_typeNameOfWhole_itemiter ty (wpAny_pure ?_)) | refine wpAny_bind (wpAny_typeNameOf_itemiter ty (wpAny_pure ?_))
  refine wpAny_bind (wpAny_fieldsOf hJ rfl ?_); simp only [show Builtin.Dict_items.ownsTuple "dict_itemiterator" = true by decide, if_true]
  show wpAny _ _ (if (Value.ref d == Value.none) = true then _ else _) _ _ _; rw [if_neg (show ¬ ((Value.ref d == Value.none) = true) from Bool.false_ne_true)]
  refine wpAny_bind (wpAny_pure ?_); refine wpAny_bind (wpAny_dictEntries h1 h3 ?_)
  rw [if_neg (by simp)]; refine wpAny_bind (wpAny_pure ?_); refine wpAny_bind (wpAny_dictEpoch h1 h3 ?_); rw [if_neg (by simp)]; refine wpAny_pure ?_
  simp only [show ¬ ((i : Int) < 0) from by omega, if_false, Int.toNat_natCast, Array.getElem?_eq_getElem hx]; refine wpAny_bind ?_
  first | refine wpAny_bind (wpAny_typeNameOfWhole_itemiter ty (wpAny_pure ?_)) | refine wpAny_bind (wpAny_typeNameOf_itemiter ty (wpAny_pure ?_))
  refine wpAny_bind (wpAny_isOneOf_itemiter ty ?_)
  show wpAny _ _ (setField (.ref it) 3 (rawInt ((i : Int) + 1)) >>= _) _ _ ⟨hp, g, dr, tk, os⟩; refine wpAny_bind (wpAny_setField_rec hJ (by simp) fun g1 j1 b1 => ?_)
  replace b1 : Heap.SameBut it hp g1 := b1
  replace j1 : IsItemIter g1 it d (i + 1) es.size ep ok ov := by
    unfold IsItemIter; rw [show ((i + 1 : Nat) : Int) = (i : Int) + 1 by omega]; simpa [rawInt] using j1
  have ty1 : Shared.TypeIs ⟨g1, g, dr, tk, os⟩ (.ref it) "dict_itemiterator" := ⟨_, j1, rfl⟩
  refine wpAny_bind (wpAny_holding ?_); refine wpAny_bind (wpAny_isOneOf_itemiter ty1 ?_); refine wpAny_bind (wpAny_isOneOf_itemiter ty1 ?_)
  show wpAny _ _ (Builtin.Dict_items.pairFromOwner (.ref it) 6 es[i].key es[i].val) _ _ ⟨g1, g, dr, tk, os⟩; unfold Builtin.Dict_items.pairFromOwner; refine wpAny_bind (wpAny_newTuple ?_)
  have j2 : IsItemIter (g1.push { cls := .type "tuple", data := .seq #[es[i].key, es[i].val] }) it d (i + 1) es.size ep ok ov := Heap.get?_push_of_some _ j1
  have z1 : g1.objs.size = hp.objs.size := b1.1
  have il : it ≠ hp.objs.size := Nat.ne_of_lt (Heap.lt_size hJ)
  have t2 : (g1.push { cls := .type "tuple", data := .seq #[es[i].key, es[i].val] }).get? hp.objs.size = some { cls := .type "tuple", data := .seq #[es[i].key, es[i].val] } := by rw [← z1]; exact Heap.get?_push_size _ rfl
  have k2 : ∀ b o, b ≠ it → hp.get? b = some o → (g1.push { cls := .type "tuple", data := .seq #[es[i].key, es[i].val] }).get? b = some o := fun b o hb e => Heap.get?_push_of_some _ (b1.extBut b o hb e)
  generalize (g1.push { cls := .type "tuple", data := .seq #[es[i].key, es[i].val] }) = g2 at j2 t2 k2 ⊢
  show wpAny _ _ (Builtin.Dict_items.ownedTupleIsFree (.ref it) >>= _) _ _ ⟨g2, g, dr, tk, os⟩; rw [z1]; refine wpAny_bind ?_
  unfold Builtin.Dict_items.ownedTupleIsFree; refine wpAny_bind (wpAny_field j2 rfl (x := .none) rfl (wpAny_pure ?_)); simp only [if_true]
  refine wpAny_bind (wpAny_field j2 rfl (x := ok) rfl ?_); refine wpAny_bind (wpAny_field j2 rfl (x := ov) rfl ?_)
  refine wpAny_bind (wpAny_setField_rec j2 (by simp) fun g3 j3 b3 => ?_); replace b3 : Heap.SameBut it g2 g3 := b3; replace j3 : IsItemIter g3 it d (i + 1) es.size ep es[i].key ov := j3
  refine wpAny_bind (wpAny_setField_rec j3 (by simp) fun g4 j4 b4 => ?_); replace b4 : Heap.SameBut it g3 g4 := b4; replace j4 : IsItemIter g4 it d (i + 1) es.size ep es[i].key es[i].val := j4
  refine wpAny_bind (wpAny_setField_rec j4 (by simp) fun g5 j5 b5 => ?_); replace b5 : Heap.SameBut it g4 g5 := b5; replace j5 : IsItemIterOut g5 it d (i + 1) es.size ep es[i].key es[i].val hp.objs.size := j5
  refine wpAny_bind (wpAny_setField_rec j5 (by simp) fun g6 j6 b6 => ?_); replace b6 : Heap.SameBut it g5 g6 := b6; replace j6 : IsItemIterOut g6 it d (i + 1) es.size ep es[i].key es[i].val hp.objs.size := j6
  have k6 : ∀ b o, b ≠ it → g2.get? b = some o → g6.get? b = some o := fun b o hb e => b6.extBut b o hb (b5.extBut b o hb (b4.extBut b o hb (b3.extBut b o hb e)))
  exact wpAny_bind (wpAny_letGo (wpAny_pure (wpAny_pure ⟨_, rfl, wpAny_pure (hQ g6 j6 (k6 _ _ il.symm t2) fun b o hb e => k6 b o hb (k2 b o hb e))⟩)))
theorem ri_end {it d : Addr} {i ep : Nat} {es : Array DictEntry} {ok ov : Value} {Q : Option Value → Shared → Prop} (hh : A.handled = none) (hJ : IsItemIter s.heap it d i es.size ep ok ov) (hm : RawD s.heap d es ep) (hx : es.size ≤ i)
    (hQ : ∀ h', Heap.ExtBut it s.heap h' → Q none { s with heap := h' }) : wpAny (model prog w) A (pyNext (.ref it)) Q E s := by
  obtain ⟨od, h1, h2, h3⟩ := hm
  have ty : s.TypeIs (.ref it) "dict_itemiterator" := ⟨_, hJ, rfl⟩
  unfold pyNext
  refine wpAny_bind (wpAny_attempt (wpAny_callSpecial?_slot (name := Str.ofString "__next__") ty F.slot_dict_itemiterator_next (wpAny_call_entry F.slot_dict_itemiterator_next ty F.entry_dict_itemiterator_next ?_ (F.args_dict_itemiterator_next_1 _))))
  refine wpAny_bind (wpAny_pure ?_); refine wpAny_bind ?_; refine wpAny_bind ?_
  first | refine wpAny_bind (wpAny_typeNameOfWhole_itemiter ty (wpAny_pure ?_)) | refine wpAny_bind (wpAny_typeNameOf_itemiter ty (wpAny_pure ?_))
  refine wpAny_bind (wpAny_fieldsOf hJ rfl ?_); simp only [show Builtin.Dict_items.ownsTuple "dict_itemiterator" = true by decide, if_true]
  show wpAny _ _ (if (Value.ref d == Value.none) = true then _ else _) _ _ s; rw [if_neg (show ¬ ((Value.ref d == Value.none) = true) from Bool.false_ne_true)]
  refine wpAny_bind (wpAny_pure ?_); refine wpAny_bind (wpAny_dictEntries h1 h3 ?_)
  rw [if_neg (by simp)]; refine wpAny_bind (wpAny_pure ?_); refine wpAny_bind (wpAny_dictEpoch h1 h3 ?_); rw [if_neg (by simp)]; refine wpAny_pure ?_
  simp only [show ¬ ((i : Int) < 0) from by omega, if_false, Int.toNat_natCast, Array.getElem?_eq_none hx]; refine wpAny_bind ?_
  first | refine wpAny_bind (wpAny_typeNameOfWhole_itemiter ty (wpAny_pure ?_)) | refine wpAny_bind (wpAny_typeNameOf_itemiter ty (wpAny_pure ?_))
  show wpAny _ _ (setField (.ref it) 2 .none >>= _) _ _ s; refine wpAny_bind (wpAny_setField hJ rfl (by simp) ?_)
  show wpAny _ _ (newExc (.type "StopIteration") [] >>= _) _ _ _; refine wpAny_bind ?_
  simp only [newExc, newTuple]; refine wpAny_bind (wpAny_newObj_type ?_ (by size_fits))
  refine wpAny_bind (m := firstArgMember _ _) (wpAny_of_eq (a := Value.none) (by first | rfl | (simp only [firstArgMember]; rfl)) ?_); refine wpAny_newObj_type ?_ (by size_fits)
  simp only [raiseNew]; refine wpAny_bind (wpAny_handled ?_); rw [show A.in1.handled = none from hh]; refine wpAny_bind (wpAny_pure (wpAny_throw ?_))
  refine wpAny_bind (wpAny_isInstance (T := "StopIteration") (b := true) ⟨_, Heap.get?_push_size _ rfl, rfl⟩ isSubtype_stop ?_); exact wpAny_pure (hQ _ (((Heap.SameBut.update ..).extBut.push _).push _))
theorem ri_entry : entryFor table "dict_itemiterator.__iter__" = some Builtin.«dict_keyiterator.__iter__» :=
  entryFor_alias (id' := "dict_keyiterator.__iter__") (by rw [fastTable_eq_tree]; kernel_rfl) (by first | rfl | decide +kernel) (by decide +kernel) (by rw [fastTable_eq_tree]; kernel_rfl)
theorem ri_self {it d : Addr} {i n ep : Nat} {ok ov : Value} {Q : Value → Shared → Prop} (hJ : IsItemIter s.heap it d i n ep ok ov) (h : Q (.ref it) s) : wpAny (model prog w) A (pyIter (.ref it)) Q E s := by
  have ty : s.TypeIs (.ref it) "dict_itemiterator" := ⟨_, hJ, rfl⟩
  refine wpAny_pyIter_slot ty F.slot_dict_itemiterator_iter (wpAny_call_entry F.slot_dict_itemiterator_iter ty ri_entry ?_ (F.args_dict_itemiterator_iter_1 _)); show wpAny _ _ (ret (.ref it)) _ _ s
  exact wpAny_pure ⟨_, rfl, "dict_itemiterator", _, ty, F.slot_dict_itemiterator_next.lookup, h⟩
end
end L2
namespace L2
open PySem PySem.Spec PyProof.Rows
def NoF (X : Cx) (d : Addr) : Prop := (∀ xs, X.H₀ d ≠ some (.tup xs)) ∧ (∀ o u, X.H₀ d ≠ some (.frz o u)) ∧ ∀ ps, X.H₀ d ≠ some (.tbl ps)
section
variable {X : Cx} {pins : List (Addr × Obj)} {σ : St} {H : Hp} {s : Shared} {d : Addr}
theorem Inv.noF {kvs : List (List Key × V)} (I : Inv X pins σ H s) (hd : H d = some (.dT kvs)) : NoF X d := by
  refine ⟨fun xs q => ?_, fun o u q => ?_, fun ps q => ?_⟩
  · have := I.base.tups d xs q; rw [hd] at this; cases this
  · have := I.base.frzs d o u q; rw [hd] at this; cases this
  · obtain ⟨m, e⟩ := I.base.tbls d ps q; rw [hd] at e; cases e
theorem Inv.swap {o1 o2 : HO} (I : Inv X pins σ H s) (hd : H d = some o1) (n1 : ∀ xs, o1 ≠ .tup xs) (n2 : ∀ b, o1 ≠ .own b) (nf : NoF X d) (ok : ObjOk X.prog X.w (upd H d o2) s.heap d o2) : Inv X pins σ (upd H d o2) s := by
  have ne : ∀ {b}, H b = none → b ≠ d := fun h z => by rw [z, hd] at h; cases h
  refine ⟨I.ok, I.os, I.bare, ⟨I.base.keep, I.base.slot, fun b o q n hx => ?_, I.base.there, fun b xs q => ?_, fun b o u q => ?_, fun b ps q => ?_⟩, I.loc, I.cell, ?_, fun x c q => ?_, fun p hp => ?_, fun b u q => ?_, I.len⟩
  · have h0 := I.base.free b o q n hx
    rw [upd_ne (ne h0)]; exact h0
  · have hb : b ≠ d := fun z => nf.1 xs (by rw [← z]; exact q)
    rw [upd_ne hb]; exact I.base.tups b xs q
  · have hb : b ≠ d := fun z => nf.2.1 o u (by rw [← z]; exact q)
    rw [upd_ne hb]; exact I.base.frzs b o u q
  · have hb : b ≠ d := fun z => nf.2.2 ps (by rw [← z]; exact q)
    rw [upd_ne hb]; exact I.base.tbls b ps q
  · rw [upd_ne (ne I.free)]; exact I.free
  · rw [upd_ne (ne (I.freeC x c q))]; exact I.freeC x c q
  · obtain ⟨e, n, r⟩ := I.pin p hp
    exact ⟨e, by rw [upd_ne (ne n)]; exact n, r⟩
  · by_cases hb : b = d
    · subst hb; rw [upd_same] at q; cases q; exact ok
    · rw [upd_ne hb] at q
      refine (I.hok b u q).stay (fun _ _ _ q => q) (fun c q => ?_) fun c xs q => ?_
      · rw [upd_ne (fun z => by rw [z, hd] at q; exact n2 _ (Option.some.inj q))]; exact q
      · rw [upd_ne (fun z => by rw [z, hd] at q; exact n1 _ (Option.some.inj q))]; exact q
theorem dT_stay {P : Program} {w : World} {h : Heap} {o1 o2 : HO} {kvs : List (List Key × V)} (hd : H d = some o1) (n1 : ∀ xs, o1 ≠ .tup xs) (n2 : ∀ b, o1 ≠ .own b) (x : ObjOk P w H h d (.dT kvs)) : ObjOk P w (upd H d o2) h d (.dT kvs) :=
  x.stay (fun _ _ _ q => q) (fun c q => by rw [upd_ne (fun z => by rw [z, hd] at q; exact n2 _ (Option.some.inj q))]; exact q) fun c xs q => by rw [upd_ne (fun z => by rw [z, hd] at q; exact n1 _ (Option.some.inj q))]; exact q
theorem Inv.freeze {kvs : List (List Key × V)} {ob : Obj} (I : Inv X pins σ H s) (hd : H d = some (.dT kvs)) (e : s.heap.get? d = some ob) : Inv X pins σ (upd H d (.frz ob (.dT kvs))) s :=
  I.swap hd (fun _ z => nomatch z) (fun _ z => nomatch z) (I.noF hd) ⟨e, dT_stay hd (fun _ z => nomatch z) (fun _ z => nomatch z) (I.hok d _ hd)⟩
theorem Inv.thaw {kvs : List (List Key × V)} {ob : Obj} (I : Inv X pins σ H s) (hd : H d = some (.frz ob (.dT kvs))) (nf : NoF X d) : Inv X pins σ (upd H d (.dT kvs)) s :=
  I.swap hd (fun _ z => nomatch z) (fun _ z => nomatch z) nf (dT_stay hd (fun _ z => nomatch z) (fun _ z => nomatch z) (I.hok d _ hd).2)
end
def Iti (d : Addr) (ob : Obj) (kvs : List (List Key × V)) : It :=
  ⟨fun i H => H d = some (.frz ob (.dT kvs)) ∧ i < kvs.length,
   fun i H x H' => ∃ p b k v, kvs[i]? = some (k, v) ∧ x = .ref p ∧ H p = none ∧ H b = some (.tup (k.map kV)) ∧ H' = upd H p (.tup [.ref b, v]),
   fun i H => H d = some (.frz ob (.dT kvs)) ∧ kvs.length ≤ i⟩
theorem paired_at {α β : Type} {R : α → β → Prop} : ∀ {xs : List α} {ys : List β} {i : Nat} {x : α}, Paired R xs ys → xs[i]? = some x → ∃ y, ys[i]? = some y ∧ R x y
  | _, _, _, _, .nil, e => by simp at e
  | _, _, 0, _, .cons r _, e => by simp at e; subst e; exact ⟨_, rfl, r⟩
  | _, _, i + 1, x, .cons _ t, e => by
    obtain ⟨u, h1, h2⟩ := paired_at (i := i) (x := x) t (by simpa using e)
    exact ⟨u, by simpa using h1, h2⟩
theorem frz_raw {P : Program} {w : World} {H : Hp} {h : Heap} {d : Addr} {ob : Obj} {kvs : List (List Key × V)} {es : Array DictEntry} {ep : Nat} (x : ObjOk P w H h d (.frz ob (.dT kvs))) (he : ob.data = .dict es ep) :
    RawD h d es ep ∧ es.size = kvs.length ∧ ∀ (i : Nat) k v, kvs[i]? = some (k, v) → ∃ (hi : i < es.size) (b : Addr), es[i].key = .ref b ∧ H b = some (.tup (k.map kV)) ∧ RelV v es[i].val := by
  obtain ⟨e0, hz, lo, xs, pr, o, es', ep', e1, e2, e3, e4, nd⟩ := x
  rw [e0] at e1
  cases e1
  rw [he] at e3
  cases e3
  have hl : es.size = kvs.length := by rw [← Array.length_toList, e4, List.length_map]; exact pr.length.symm
  refine ⟨⟨ob, e0, e2, he⟩, hl, fun i k v hk => ?_⟩
  obtain ⟨⟨k', b, u⟩, hq, hk', hb, hv⟩ := paired_at pr hk
  have hi : i < es.size := by rw [hl]; exact (List.getElem?_eq_some_iff.mp hk).1
  have ei : es.toList[i]? = some (entryOfKey (tupleKind (mixKind P w)) (k', b, u)) := by rw [e4, List.getElem?_map, hq]; rfl
  have ei' : es[i] = entryOfKey (tupleKind (mixKind P w)) (k', b, u) := by
    rw [Array.getElem?_toList, Array.getElem?_eq_getElem hi] at ei
    exact Option.some.inj ei
  refine ⟨hi, b, by rw [ei']; rfl, hb, by rw [ei']; exact hv⟩
theorem turn_items {P : Program} {w : World} {K : PySem.W.Frag} {elts : List Expr} {ek : Nat} {epos : Pos} (d it : Addr) (ob : Obj) (kvs : List (List Key × V)) (es : Array DictEntry) (ep : Nat) (he : ob.data = .dict es ep) :
    Turn P w K (.Tuple elts ek epos) (Iti d ob kvs) [it] it (fun i h => ∃ ok ov, IsItemIter h it d i es.size ep ok ov) where
  mem := by simp
  obj := fun i h st b hb => by
    have e : b = it := by simpa using hb
    subst e
    obtain ⟨ok, ov, st⟩ := st
    exact ⟨_, st, fun v z => by
      have z' : Data.fields _ = Data.cell v := z
      cases z'⟩
  keep := fun i h h' st k => let ⟨ok, ov, st⟩ := st; ⟨ok, ov, k it (by simp) _ st⟩
  item := by
    intro X hP hw hK hc i pins s σ H E I hf st hg
    subst hP hw hK
    obtain ⟨hd, hi⟩ := hg
    obtain ⟨ok, ov, st⟩ := st
    obtain ⟨hR, hl, at_⟩ := frz_raw (I.hok d _ hd) he
    have hkv : kvs[i]? = some (kvs[i].1, kvs[i].2) := by rw [List.getElem?_eq_getElem hi]
    obtain ⟨hi', b, ek', hb, hv⟩ := at_ i _ _ hkv
    refine ri_item st hR hi' fun h' a1 a2 a3 => ?_
    refine ⟨.ref s.heap.objs.size, rfl, wpAny_letOwnedTupleGo_items a1 fun h'' j'' sb => ?_⟩
    have nz : s.heap.objs.size ≠ it := Nat.ne_of_gt (Heap.lt_size st)
    have T2 := sb.extBut _ _ nz a2
    rw [ek'] at T2
    refine ⟨.ref s.heap.objs.size, upd H s.heap.objs.size (.tup [.ref b, kvs[i].2]), I.turnedLaid (t' := s.toks) (ch := [it]) hf (fun c o hc e => ?_) (Nat.le_refl _) ⟨by show 2 ≤ sizeLine; decide, [.ref b, es[i].val], .cons rfl (.cons hv .nil), _, T2, rfl, _, rfl⟩, rfl, ⟨_, b, _, _, hkv, rfl, I.hok.fresh (Nat.le_refl _), hb, rfl⟩, ⟨_, _, j''⟩, fun c hc => ?_⟩
    · have hne : c ≠ it := fun z => hc (by simp [z])
      exact sb.extBut _ _ hne (a3 c o hne e)
    · have e : c = it := by simpa using hc
      subst e
      rw [upd_ne (Ne.symm nz)]; exact (hf c (by simp)).1
  done := by
    intro X hP hw hK hc i pins s σ H E I hf st hg
    subst hP hw hK
    obtain ⟨hd, hi⟩ := hg
    obtain ⟨ok, ov, st⟩ := st
    obtain ⟨hR, hl, at_⟩ := frz_raw (I.hok d _ hd) he
    obtain ⟨f0, f1, f2, f3, f4, f5⟩ := hf it (by simp)
    exact ri_end (I.ok.hd hc) st hR (by omega) fun h' eb => ⟨rfl, I.turned (t' := s.toks) (fun b o hb e => eb b o hb e) f0 f1 f3 f4 f5⟩
  self := fun _ _ _ _ _ st h => let ⟨_, _, st⟩ := st; ri_self st h
section
variable {X : Cx}
def iItems (X : Cx) (to : TE) : TI := fun σ H R => to σ H fun x H1 => ∃ d kvs, x = .ref d ∧ H1 d = some (.dT kvs) ∧ ∀ ob, NoF X d → R (Iti d ob kvs) (upd H1 d (.frz ob (.dT kvs)))
theorem pi_items {elts : List Expr} {ek : Nat} {epos : Pos} {o : Expr} {to : TE} {apos cpos : Pos} (ho : PE X o to)
    (hbase : attributeBase o (Str.ofString "items") X.env (eval o X.env) = eval o X.env := by rfl) (hline : (apos.endLine == cpos.line) = true := by rfl) :
    PI X (.Tuple elts ek epos) (.Call (.Attribute o (Str.ofString "items") apos) [] [] cpos) (iItems X to) := by
  intro pins s σ H R I h
  refine wpAny_Call_method0_late hbase hline (thn (ho pins s σ H _ I h) fun v s1 hq__ => ?_)
  obtain ⟨x, H1, I1, r1, d, kvs, ex, hd, q⟩ := hq__
  subst ex
  cases (show v = Value.ref d from r1)
  obtain ⟨hz, lo, xs, pr, ob, es, ep, e1, e2, e3, e4, nd⟩ := I1.hok d _ hd
  have hR : RawD s1.heap d es ep := ⟨ob, e1, e2, e3⟩
  refine ⟨"dict", "dict.items", F.plainAttrs_dict, F.slot_dict_items, F.type_dict_items, hR.ty, (fun a ea => by cases ea; exact ⟨ob, e1, e2.2.1⟩), Calls.callWith_builtin rfl (PySem.evalArgs_none (ri_view lo hR ?_))⟩
  refine ri_iter (s := { s1 with heap := s1.heap.push { cls := .type "dict_items", data := .fields #[.ref d] } }) ⟨_, Heap.get?_push_size _ rfl, rfl, rfl⟩ (hR.up fun _ e => Heap.get?_push_of_some _ e) ?_
  have k2 : ∀ b o, s1.heap.get? b = some o → ((s1.heap.push { cls := .type "dict_items", data := .fields #[.ref d] }).push (itemIt d es.size ep)).get? b = some o := fun b o e => Heap.get?_push_of_some _ (Heap.get?_push_of_some _ e)
  have I2 := (I1.kept (t' := s1.toks) k2).freeze hd (k2 _ _ e1)
  have hsz : s1.heap.objs.size ≤ (s1.heap.push { cls := .type "dict_items", data := .fields #[.ref d] }).objs.size := by rw [Heap.size_push]; exact Nat.le_succ _
  refine ⟨_, [_], _, _, _, rfl, I2, turn_items d _ ob kvs es ep e3, ⟨_, _, Heap.get?_push_size _ rfl⟩, fun b hb => ?_, q ob (I1.noF hd)⟩
  have e : b = (s1.heap.push { cls := .type "dict_items", data := .fields #[.ref d] }).objs.size := by simpa using hb
  subst e
  refine I1.fpOk hsz ?_
  have hne : (s1.heap.push { cls := .type "dict_items", data := .fields #[.ref d] }).objs.size ≠ d := Nat.ne_of_gt (Nat.lt_of_lt_of_le (Heap.lt_size e1) hsz)
  rw [upd_ne hne]; exact I1.hok.fresh hsz
def thawQ (X : Cx) (Q : VK) : VK := fun v H2 => ∃ d kvs ob, H2 d = some (.frz ob (.dT kvs)) ∧ NoF X d ∧ Q v (upd H2 d (.dT kvs))
def tLCI (X : Cx) (nv : Nat) (fv : List Nat) (to : TE) (g : TG) (tc : TT) (te : TE) : TE := fun σ H Q => tLC nv fv (iItems X to) g tc te σ H (thawQ X Q)
theorem pe_thaw {e : Expr} {nv : Nat} {fv : List Nat} {to : TE} {g : TG} {tc : TT} {te : TE} (h : PE X e (tLC nv fv (iItems X to) g tc te)) : PE X e (tLCI X nv fv to g tc te) := by
  intro pins s σ H Q I q
  exact thn (h pins s σ H _ I q) fun u s' ⟨v, H2, I2, r, d, kvs, ob, hd, nf, q⟩ => ⟨v, _, I2.thaw hd nf, r, q⟩
end
theorem lc_items {X : Cx} {d : Addr} {ob : Obj} {kvs : List (List Key × V)} {g : TG} {tc : TT} {te : TE} {Q : VK} {σ : St} {H : Hp} (Pv : Nat → List V → Hp → Prop) (hz : kvs.length ≤ sizeLine) (nf : NoF X d) (h0 : Pv 0 [] (upd H d (.frz ob (.dT kvs))))
    (hl : ∀ i ys H2, Pv i ys H2 → H2 d = some (.frz ob (.dT kvs)) ∧ ys.length ≤ i)
    (hs : ∀ i k v b p ys H2 H3, kvs[i]? = some (k, v) → H2 b = some (.tup (k.map kV)) → New H2 H3 p (.tup [.ref b, v]) → Pv i ys H2 → g (.ref p) σ H3 fun σ4 H4 => tc σ4 H4 fun bb H5 => if bb = true then te σ4 H5 fun v H6 => Pv (i + 1) (ys ++ [v]) H6 else Pv (i + 1) ys H5)
    (hd : ∀ ys H2 p H3, Pv kvs.length ys H2 → New H2 H3 p (.lst ys) → H3 d = some (.frz ob (.dT kvs)) → Q (.ref p) (upd H3 d (.dT kvs))) : lcGoal (Iti d ob kvs) (thawQ X Q) g tc te σ (upd H d (.frz ob (.dT kvs))) := by
  refine ⟨fun i m ys H2 => m = kvs.length - i ∧ i ≤ kvs.length ∧ Pv i ys H2, ⟨kvs.length, by simp, Nat.zero_le _, h0⟩, ?_⟩
  rintro i m ys H2 ⟨rfl, hi, p⟩
  obtain ⟨hd2, hy⟩ := hl i ys H2 p
  by_cases hlt : i < kvs.length
  · refine .inr ⟨⟨hd2, hlt⟩, by omega, Pv (i + 1), fun zs H' p' => ⟨kvs.length - (i + 1), by omega, rfl, hlt, p'⟩, fun x H3 y => ?_⟩
    obtain ⟨q, b, k, v, e1, rfl, e3, e4, rfl⟩ := y
    exact hs i k v b q ys H2 _ e1 e4 (new_upd e3) p
  · have e : i = kvs.length := by omega
    subst e
    refine .inl ⟨⟨hd2, Nat.le_refl _⟩, by omega, fun p' hp' => ?_⟩
    have hne : d ≠ p' := fun z => by rw [← z, hd2] at hp'; cases hp'
    have h3 : upd H2 p' (.lst ys) d = some (.frz ob (.dT kvs)) := by rw [upd_ne hne]; exact hd2
    exact ⟨d, kvs, ob, h3, nf, hd ys H2 p' _ p (new_upd hp') h3⟩
end L2
namespace L2
open PySem PySem.Spec PyProof.Rows
section
variable {prog : Program} {w : World} {A : Around} {E : Value → Shared → Prop} {h : Heap} {g : Array GenState} {d : Drawn} {t : Nat} {os : OsState}
variable {nm q : Str} {C N x : Addr} {bs bm : List Value} {hdct : Bool} {sn : List Str} {sub : List Value} {ab : Bool} {col : Option Bool} {dd : Option Addr} {k0 k1 k2 k3 k5 : Option Value}
theorem type_call_excI (T : OwnTail h veMro bm) {mN : Str → Option Value} {rest : List Value} {fI : Addr} {oI : Obj} {Q : Fin → Shared → Prop}
    (hC : h.get? C = some (excClassObj nm q C N bs bm hdct sn sub ab col dd k0 k1 k2 k3 k5 "ValueError.__new__")) (hn : h.Ns N mN) (hi : mN "__init__" = some (.ref fI))
    (hfI : h.get? fI = some oI) (hfc : oI.cls = .type "function")
    (hq : ∀ h', (∀ b o, h.get? b = some o → h'.get? b = some o) → h'.get? (h.objs.size + 1) = some { cls := .ref C, data := .fields #[.ref h.objs.size, .none, .none, .none, .bool false, .none] } →
      wpAny (model prog w) A (call (.ref fI) (.ref (h.objs.size + 1) :: rest)) (fun r s' => r = .none ∧ Q (.done (.ret (.ref (h.objs.size + 1)))) s') E ⟨h', g, d, t, os⟩) (hrest : rest.length ≤ sizeLine) :
    wpAny (model prog w) A (Builtin.«type.__call__» ⟨.ref C :: rest, []⟩) Q E ⟨h, g, d, t, os⟩ := by
  have F := PySem.F.excBase_ValueError
  have hBn : veMro.contains (.type "ValueError") = true := by decide +kernel
  repeat (first | with_reducible refine wpAny_loadPart_at hC ?_ | with_reducible refine wpAny_madeBy_exc hC ?_ | wp_step)
  refine codeAny_call_builtin_code (Code.quiet_builtin _ F.quiet) (wpAny_check_new_subU F hBn T hC ?_)
  refine codeAny_exc_new_subU F hBn F T hC ?_ hrest
  show wpAny _ _ _ _ _ _
  have hC₁ := Heap.get?_push_of_some { cls := .ref C, data := .fields #[.ref h.objs.size, .none, .none, .none, .bool false, .none] }
    (Heap.get?_push_of_some { cls := .type "tuple", data := .seq rest.toArray } hC)
  have hfI₁ := Heap.get?_push_of_some { cls := .ref C, data := .fields #[.ref h.objs.size, .none, .none, .none, .bool false, .none] }
    (Heap.get?_push_of_some { cls := .type "tuple", data := .seq rest.toArray } hfI)
  have hn₁ : ((h.push { cls := .type "tuple", data := .seq rest.toArray }).push { cls := .ref C, data := .fields #[.ref h.objs.size, .none, .none, .none, .bool false, .none] }).Ns N mN :=
    let ⟨o, es, ep, e, r⟩ := hn; ⟨o, es, ep, Heap.get?_push_of_some _ (Heap.get?_push_of_some _ e), r⟩
  have hget : ((h.push { cls := .type "tuple", data := .seq rest.toArray }).push
      { cls := .ref C, data := .fields #[.ref h.objs.size, .none, .none, .none, .bool false, .none] }).get? (h.objs.size + 1) = some
      { cls := .ref C, data := .fields #[.ref h.objs.size, .none, .none, .none, .bool false, .none] } := by heap_get
  have hcC : (Value.ref C :: bm).contains (.ref C) = true := by simp
  have T₁ := T.keeps (h' := (h.push { cls := .type "tuple", data := .seq rest.toArray }).push { cls := .ref C, data := .fields #[.ref h.objs.size, .none, .none, .none, .bool false, .none] })
    fun b o e => Heap.get?_push_of_some _ (Heap.get?_push_of_some _ e)
  unfold isInstance
  repeat (first | with_reducible refine wpAny_loadPart_at hget ?_ | (with_reducible refine wpAny_isSubtype_exc hC₁ ?_; rw [hcC]) | wp_step)
  show wpAny _ _ (typeLookup (.ref C) _) _ _ _
  refine wpAny_typeLookup_tail hC₁ hn₁ T₁ F.mroIs F.init.lookup ?_
  rw [hi]
  refine wpAny_holding (wpAny_bind ?_)
  unfold bindSpecial
  refine wpAny_bind (wpAny_typeOf (T := "function") ⟨_, hfI₁, hfc⟩ ?_)
  rw [if_pos (by decide)]
  refine wpAny_pure (wpAny_bind (wpAny_mono (hq _ (fun b o hb => Heap.get?_push_of_some _ (Heap.get?_push_of_some _ hb)) hget) (fun r s' hr => ?_) fun _ _ x => x))
  obtain ⟨rfl, hQ⟩ := hr
  wp_walk
  exact hQ
theorem call_excI (T : OwnTail h veMro bm) {mN : Str → Option Value} {rest : List Value} {fI : Addr} {oI : Obj} {Q : Value → Shared → Prop}
    (hC : h.get? C = some (excClassObj nm q C N bs bm hdct sn sub ab col dd k0 k1 k2 k3 k5 "ValueError.__new__")) (hn : h.Ns N mN) (hi : mN "__init__" = some (.ref fI))
    (hfI : h.get? fI = some oI) (hfc : oI.cls = .type "function")
    (hq : ∀ h', (∀ b o, h.get? b = some o → h'.get? b = some o) → h'.get? (h.objs.size + 1) = some { cls := .ref C, data := .fields #[.ref h.objs.size, .none, .none, .none, .bool false, .none] } →
      wpAny (model prog w) (A.under (.builtin "type.__call__" ⟨.ref C :: rest, []⟩)) (call (.ref fI) (.ref (h.objs.size + 1) :: rest)) (fun r s' => r = .none ∧ Q (.ref (h.objs.size + 1)) s') E ⟨h', g, d, t, os⟩) (hrest : rest.length ≤ sizeLine) :
    wpAny (model prog w) A (call (.ref C) rest) Q E ⟨h, g, d, t, os⟩ := by
  have f1 := tc_lookup
  have f2 := tc_bind (.ref C)
  have hT : (⟨h, g, d, t, os⟩ : Shared).TypeIs (.ref C) "type" := ⟨_, hC, rfl⟩
  refine wpAny_call (codeAny_of_tree ?_)
  show wpAny _ _ (callAny (.ref C) _) _ _ _
  repeat (any_goals (first | assumption | with_reducible refine wpAny_loadPart_at hC ?_ | wp_step))
  refine ⟨rfl, ?_⟩
  refine codeAny_call_builtin_at (Code.quiet_builtin _ (by decide +kernel)) entry_typeCall (wpAny_check_type_call_sub hC (type_call_excI T hC hn hi hfI hfc (fun h' hk he => ?_) hrest))
  exact hq h' hk he
theorem raise_made {M : Model} {s : Shared} {env : Env} {y : Sem Value} {newId : String} {Q : Flow → Shared → Prop} (hbase : bm.contains (.type "BaseException") = true) (hh : A.handled = none)
    (h : wpAny M A y (fun v s₁ => ∃ e dx vs sl, v = .ref e ∧ s₁.heap.get? C = some (excClassObj nm q C N bs bm hdct sn sub ab col dd k0 k1 k2 k3 k5 newId) ∧
      s₁.heap.get? e = some ⟨.ref C, dx, .fields vs, sl⟩ ∧ vs[1]? = some .none ∧ E (.ref e) s₁) E s) : wpAny M A (raiseStmt env (some y) none) Q E s := by
  have hcB : (Value.ref C :: bm).contains (.type "BaseException") = true := by rw [List.contains_cons, hbase, Bool.or_true]
  unfold raiseStmt
  refine wpAny_bind (wpAny_mono h (fun v s₁ h₁ => ?_) fun _ _ x => x)
  obtain ⟨e, dx, vs, sl, rfl, hC, he, h1, hE⟩ := h₁
  obtain ⟨hp, g, d, tk, os⟩ := s₁
  repeat (first | with_reducible refine wpAny_field he rfl h1 ?_ | with_reducible refine wpAny_loadPart_at he ?_ | with_reducible refine wpAny_loadPart_at hC ?_ | (with_reducible refine wpAny_isSubtype_exc hC ?_; rw [hcB]) | wp_step)
  exact wpAny_raiseNew_none hh hE
theorem refuse_tail {self : Value} {what : Str} : ∀ {bm : List Value}, OwnTail h veMro bm → refuseLoop self what bm = refuseLoop self what veMro := by
  intro bm T
  induction T with
  | base => rfl
  | own _ _ _ _ ih => rw [refuseLoop_ref]; exact ih
end
def excN (a : Addr) (cls : Value) (dd : Option Addr) : HO := .ext fun h => ∃ oe vs, h.get? a = some oe ∧ oe.cls = cls ∧ oe.dict = dd ∧ oe.data = .fields vs ∧ vs.size = 6 ∧ vs[1]? = some .none
def excInI (K : PySem.W.Frag) (C f : Addr) : Bool := match K.lookup C with
  | some ⟨.type "type", _, .cls cd, sl⟩ => (match cd.mro, sl.toList with
    | .ref C' :: bm, [_, _, _, _, some (.builtin n), _] => C' == C && n == "ValueError.__new__" && !cd.hasDel && PySem.W.tailIn K veMro bm && PySem.W.nsOkIn K cd.ns && PySem.W.nsIn K cd.ns "__init__" == some (some (.ref f)) && cd.hasDict
    | _, _ => false)
  | _ => false
structure ExcI (K : PySem.W.Frag) (C f : Addr) (fld : Str) : Prop where
  e : excInI K C f = true
  fn : PySem.W.isFn K (.ref f) = true
  x : ExcK K C
  hd : PySem.W.hasDictIn K C = true
  sa : PySem.W.findIn K (.ref C) "__setattr__" = some (some (.builtin "object.__setattr__"))
  na : PySem.W.findIn K (.ref C) fld = some none
theorem nsx_of {K : PySem.W.Frag} {h : Heap} {N : Addr} {mg : Str → Option Value} {n : Str} {v : Value} (X : K.In h) (G : h.Ns N mg) (e : PySem.W.nsIn K N n = some (some v)) : mg n = some v := by
  obtain ⟨o, es, ep, ho, hd, _, hf⟩ := G
  unfold PySem.W.nsIn at e
  split at e
  · rename_i c d es' n' sl q
    have := X _ _ q
    rw [ho] at this
    cases this
    cases hd
    split at e
    · rename_i en he
      cases e
      rw [← hf]
      unfold nsFind findBy
      rw [← Array.find?_toList, he]
      rfl
    · split at e <;> cases e
  · cases e
structure ExcAtI (h : Heap) (C f : Addr) : Prop where
  e : ∃ bm N nm qn bs sn sub ab col dd k0 k1 k2 k3 k5 mN, h.get? C = some (excClassObj nm qn C N bs bm true sn sub ab col dd k0 k1 k2 k3 k5 "ValueError.__new__") ∧ h.Ns N mN ∧ mN "__init__" = some (.ref f) ∧ OwnTail h veMro bm
theorem exc_atI {K : PySem.W.Frag} {h : Heap} {C f : Addr} (X : K.In h) (q : excInI K C f = true) : ExcAtI h C f := by
  unfold excInI at q
  split at q
  case h_2 => cases q
  case h_1 dd cd sl ho =>
    split at q
    case h_2 => cases q
    case h_1 C' bm k0 k1 k2 k3 n k5 hm hsl =>
      simp only [Bool.and_eq_true, beq_iff_eq, Bool.not_eq_true'] at q
      obtain ⟨⟨⟨⟨⟨⟨q1, q2⟩, q3⟩, q4⟩, q5⟩, q6⟩, q7⟩ := q
      subst q1 q2
      cases cd with
      | mk nm bs mro ns qn hd sn sub ab col del =>
        cases sl with
        | mk l =>
          have hm' : mro = _ := hm
          have hl' : l = _ := hsl
          have q3' : del = false := q3
          have q7' : hd = true := q7
          subst hm' hl' q3' q7'
          have hN := PySem.Heap.Ns.of_isNs (PySem.W.isNs_of_in X q5)
          exact ⟨bm, ns, nm, qn, bs, sn, sub, ab, col, dd, k0, k1, k2, k3, k5, _, X _ _ ho, hN, nsx_of X hN q6, PySem.W.tail_of_in X q4⟩
section
variable {prog : Program} {w : World} {A : Around} {E : Value → Shared → Prop} {K : PySem.W.Frag} {h : Heap} {g : Array GenState} {d : Drawn} {t : Nat} {os : OsState} {C f x : Addr} {o : Obj} {vs : Array Value}
theorem exc_store {name : Str} {v : Value} {Q : Unit → Shared → Prop} (X : K.In h) (hE : ExcAtI h C f) (hsa : PySem.W.findIn K (.ref C) "__setattr__" = some (some (.builtin "object.__setattr__"))) (hna : PySem.W.findIn K (.ref C) name = some none)
    (hob : PySem.W.mroIn K C (.type "object") = some true) (hx : h.get? x = some o) (hc : o.cls = .ref C) (hd : o.data = .fields vs) (hdn : o.dict = none)
    (hq : ∀ h' tk', h'.get? x = some { o with dict := some h.objs.size } → h'.Ns1 h.objs.size (fun y => if y = name then some v else none) → (∀ b ob, b ≠ x → h.get? b = some ob → h'.get? b = some ob) → Q () ⟨h', g, d, tk', os⟩) :
    wpAny (model prog w) A (setAttr (.ref x) name v) Q E ⟨h, g, d, t, os⟩ := by
  obtain ⟨bm, N, nm, qn, bs, sn, sub, ab, col, dd, k0, k1, k2, k3, k5, mN, hC, hn, hi, T⟩ := hE
  have SF := PySem.F.store_ValueError
  have I : PySem.W.InstAt h x o C none := ⟨hx, hc, by unfold PySem.W.notCls; rw [hd], by rw [hdn]; trivial⟩
  refine PySem.W.set_plain (s := ⟨h, g, d, t, os⟩) X I hsa ?_
  have L3 := PySem.W.looks_findIn (M := model prog w) X hna
  have sub' : PySem.W.Looks (model prog w) h (isInstance (.ref x) (.type "object")) true := I.type.andThen (PySem.W.looks_mroIn X hob)
  refine codeAny_call_builtin SF.slot.plain SF.entry (@PySem.W.check_slot (model prog w) _ _ ⟨h, g, d, t + 1, os⟩ "object.__setattr__" "object" "__setattr__" (.ref x) [.str name t, v] [] _ SF.kind SF.split sub' (SF.args (.ref x) (.str name t) v) ?_)
  have hpass : refuseLoop (.ref x) "__setattr__" (.ref C :: bm) = pure () := by rw [refuseLoop_ref, refuse_tail T]; exact SF.passes _
  unfold Builtin.«object.__setattr__»
  repeat (first | rw [refuse_eq] | rw [hpass] | (with_reducible refine wpAny_loadPart_at hx ?_; rw [hc]) | with_reducible refine wpAny_mroOf_exc hC ?_ | with_reducible refine L3.at ?_ | wp_step)
  rw [hdn, if_neg (by simp [typeHasDict])]
  split
  · rename_i hcd
    cases hcd
  split
  · rename_i c hcd
    rw [hd] at hcd; cases hcd
  · have hx₁ : (h.push { cls := .type "dict", data := .dict #[] }).get? x = some o := Heap.get?_push_of_some _ hx
    have hxs : x ≠ h.objs.size := Nat.ne_of_lt (Heap.lt_size hx)
    refine wpAny_bind (wpAny_alloc' ?_)
    refine wpAny_bind (wpAny_update' hx₁ ?_)
    refine wpAny_pure ?_
    have hgd : ((h.push { cls := .type "dict", data := .dict #[] }).update x fun o => { cls := o.cls, dict := some h.objs.size, data := o.data, slots := o.slots }).get? h.objs.size
        = some { cls := .type "dict", data := .dict #[] } :=
      (Heap.get?_update_ne _ _ _ _ hxs.symm).trans (Heap.get?_push_at rfl rfl)
    have hnd : ((h.push { cls := .type "dict", data := .dict #[] }).update x fun o => { cls := o.cls, dict := some h.objs.size, data := o.data, slots := o.slots }).Ns h.objs.size (fun _ => none) :=
      ⟨_, #[], _, hgd, rfl, fun e he => absurd he (by simp), fun _ => rfl⟩
    show wpAny _ _ (Builtin.ObjectAttr.storeInDict h.objs.size (.str name t) name v) _ _ _
    unfold Builtin.ObjectAttr.storeInDict Builtin.ObjectAttr.newKeyGuard
    refine wpAny_bind (wpAny_pure (wpAny_bind (wpAny_nsSet1 (Heap.Ns1.of_empty hnd) fun h' hn' hs => ?_)))
    obtain ⟨oD, esD, epD, hoD, hdD, hcD⟩ := hn'.count (Within.cons name v Within.nil)
    refine wpAny_bind (wpAny_lookBehind hoD (by rw [hdD]; exact pastItsLine_dict (Nat.le_trans hcD (by rw [List.length_cons, List.length_nil, sizeLine_eq]; omega))) ?_)
    wp_walk
    refine hq h' _ ?_ hn' (fun b ob hbx hb => ?_)
    · refine (hs.2 x hxs).trans (Heap.get?_update_self _ hx₁ ?_)
      have hfr := (Heap.get?_some_iff.mp hx).2
      obtain ⟨oc, od, odt, osl⟩ := o
      cases odt <;> first | rfl | exact hfr
    · exact (hs.2 b (Nat.ne_of_lt (Heap.lt_size hb))).trans ((Heap.get?_update_ne _ _ _ _ hbx).trans (Heap.get?_push_of_some _ hb))
theorem exc_base_init {rest : List Value} {Q : Value → Shared → Prop} (hE : ExcAtI h C f) (hx : h.get? x = some o) (hc : o.cls = .ref C) (hd : o.data = .fields vs) (h0 : 0 < vs.size) (hrest : rest.length ≤ sizeLine)
    (hq : ∀ h' v0, (∀ b ob, b ≠ x → h.get? b = some ob → h'.get? b = some ob) → h'.get? x = some { o with data := .fields (vs.setIfInBounds 0 v0) } → Q .none ⟨h', g, d, t, os⟩) :
    wpAny (model prog w) A (call (.builtin "ValueError.__init__") (.ref x :: rest)) Q E ⟨h, g, d, t, os⟩ := by
  obtain ⟨bm, N, nm, qn, bs, sn, sub, ab, col, dd, k0, k1, k2, k3, k5, mN, hC, hn, hi, T⟩ := hE
  have F := PySem.F.excBase_ValueError
  refine wpAny_call (codeAny_call_builtin F.init.plain F.initEntry (wpAny_check_init_subU F T hC hx hc ?_))
  have hx₁ : (h.push { cls := .type "tuple", data := .seq rest.toArray }).get? x = some o := Heap.get?_push_of_some _ hx
  obtain ⟨oc, od, odt, osl⟩ := o
  dsimp only at hd hc
  subst hd
  have e0 : vs[0]? = some vs[0] := Array.getElem?_eq_getElem h0
  wp_walk
  dsimp only
  rw [e0]
  refine wpAny_pure ?_
  refine wpAny_bind (wpAny_setField hx₁ rfl h0 ?_)
  have fin : Q .none ⟨(h.push { cls := .type "tuple", data := .seq rest.toArray }).update x (Obj.mapFields (·.setIfInBounds 0 (Value.ref h.objs.size))), g, d, t, os⟩ := by
    refine hq _ (Value.ref h.objs.size) (fun b ob hb q => ?_) ?_
    · rw [Heap.get?_update_other _ _ (Ne.symm hb)]
      exact Heap.get?_push_of_some _ q
    · exact Heap.get?_update_self _ hx₁ rfl
  generalize vs[0] = old
  cases old <;> first | exact wpAny_pure (wpAny_pure fin) | exact wpAny_letGo (wpAny_pure fin)
end
end L2
namespace L2
open PySem PySem.Spec PyProof.Rows
section
variable {prog : Program} {w : World} {A : Around} {E : Value → Shared → Prop} {s : Shared} {K : PySem.W.Frag} {a D : Addr} {oe : Obj} {od : Option Obj}
theorem exc_get {name : Str} {v : Value} {expr : Bool} {Q : Value → Shared → Prop} (X : K.In s.heap) (F : ExcK K D) (I : PySem.W.InstAt s.heap a oe D od) (hf : PySem.W.findObj K D od name = some (.value v)) (hv : PySem.W.handedIn v = true)
    (h : Q v { s with toks := s.toks + 1 }) : wpAny (model prog w) A (getAttr (.ref a) name expr) Q E s := by
  obtain ⟨hh, g, d, t, os⟩ := s
  have L0 := I.type (M := model prog w)
  have L1 := PySem.W.looks_findIn (M := model prog w) X F.ga
  have L2' := PySem.W.looks_findIn (M := model prog w) X F.gt
  have Lf := PySem.W.looks_find (M := model prog w) X I hf
  have sub' : PySem.W.Looks (model prog w) hh (isInstance (.ref a) (.type "BaseException")) true := L0.andThen (PySem.W.looks_mroIn X F.be)
  have f3 := (PySem.F.attr_ValueError).ga.bind (.ref a)
  have hx2 : (Value.builtin "BaseException.__getattribute__" == Value.builtin "object.__getattribute__") = false := by decide +kernel
  have hsel : (onTheHeap (Value.ref D) && Value.builtin "BaseException.__getattribute__" == Value.builtin "object.__getattribute__") = false := by rw [hx2]; rfl
  refine wpAny_bind (wpAny_mkText (wpAny_holding (wpAny_bind (L0.at (wpAny_bind (L1.at ?_))))))
  dsimp only
  rw [if_neg (by rw [hsel]; decide)]
  unfold getAttrByItsOwn hookBefore
  refine wpAny_bind ?_
  rw [if_pos (show onTheHeap (Value.ref D) = true from rfl)]
  refine L2'.at ?_
  refine wpAny_bind (wpAny_attempt (wpAny_holding ?_))
  unfold callGetattribute
  rw [show (expr && onTheHeap (Value.builtin "BaseException.__getattribute__")) = false from Bool.and_false _, if_neg (by decide)]
  unfold boundAndCalled
  rw [f3]
  refine wpAny_bind (wpAny_pure ?_)
  refine wpAny_call (codeAny_call_builtin PySem.F.attr_ValueError.ga.plain PySem.F.entry_bexc_ga ?_)
  refine @PySem.W.check_slot (model prog w) _ _ ⟨hh, g, d, t + 1, os⟩ "BaseException.__getattribute__" "BaseException" "__getattribute__" (.ref a) [.str name t] [] _ (by decide +kernel) (by decide +kernel) sub' (PySem.F.args_bexc_ga (.ref a) (.str name t)) ?_
  repeat (first | with_reducible refine L0.at ?_ | with_reducible refine Lf.at ?_ | wp_step)
  exact PySem.W.handed_on (M := model prog w) hv h
end
def tFldX (K : PySem.W.Frag) (ta : TE) (f : Str) : TE := fun σ H Q => ta σ H fun x H1 => ∃ a D dx fs v, x = .ref a ∧ H1 a = some (excO a (.ref D) (some dx)) ∧ H1 dx = some (.xd fs) ∧ ExcK K D ∧ PySem.W.hasDictIn K D = true ∧ PySem.W.findIn K (.ref D) f = some none ∧ fs.lookup f = some v ∧ Q v H1
theorem pe_fldX {X : Cx} {K : PySem.W.Frag} {e : Expr} {f : Str} {pos : Pos} {ta : TE} (hK : X.K = K) (he : PE X e ta) (hb : attributeBase e f X.env (eval e X.env) = eval e X.env) : PE X (.Attribute e f pos) (tFldX K ta f) := by
  subst hK
  intro pins s σ H Q I h
  refine attr_of hb (thn (he pins s σ H _ I h) fun u s1 hq => ?_)
  obtain ⟨x, H1, I1, rx, a, D, dx, fs, v, ex, ea, edx, F, hdi, hna, l, q⟩ := hq
  subst ex
  obtain rfl : u = Value.ref a := rx
  obtain ⟨⟨oe, vs, h1, hc, hdc, hd⟩, _⟩ := (show ObjOk X.prog X.w H1 s1.heap a (excO a (.ref D) (some dx)) from I1.hok a _ ea)
  obtain ⟨mA, hN, hr⟩ := (show ObjOk X.prog X.w H1 s1.heap dx (.xd fs) from I1.hok dx _ edx)
  obtain ⟨u', hu, ru⟩ := RelO.some_of (v := v) (o := mA f) (by rw [← l]; exact hr f)
  obtain ⟨od, ho, hl⟩ := lookIn_ns hN
  have J : PySem.W.InstAt s1.heap a oe D (some od) := ⟨h1, hc, by unfold PySem.W.notCls; rw [hd], by rw [hdc]; exact ho⟩
  exact exc_get I1.kIn F J (PySem.W.findObj_own hdi hna rfl (by rw [hl, hu])) (handed_of ru) ⟨v, H1, I1.tok _, ru, q⟩
theorem excN_ok {P : Program} {w : World} {H : Hp} {h : Heap} {a : Addr} {cls : Value} {dd : Option Addr} {oe : Obj} {vs : Array Value} (h1 : h.get? a = some oe) (h2 : oe.cls = cls) (h3 : oe.dict = dd) (h4 : oe.data = .fields vs) (h5 : vs.size = 6) (h6 : vs[1]? = some .none) : ObjOk P w H h a (excN a cls dd) :=
  ⟨⟨oe, vs, h1, h2, h3, h4, h5, h6⟩, ⟨oe, h1⟩, fun _ _ ⟨o', v', q1, q2, q3, q4, q5, q6⟩ k => ⟨o', v', k _ q1, q2, q3, q4, q5, q6⟩⟩
def sFldX (K : PySem.W.Frag) (ta tv : TE) (f : Str) : TS := fun D σ H => tv σ H fun y H1 => ta σ H1 fun x H2 => ∃ a C fI, x = .ref a ∧ H2 a = some (excN a (.ref C) none) ∧ ExcI K C fI f ∧
  ∀ dx H3, H2 dx = none → dx ≠ a → H3 a = some (excN a (.ref C) (some dx)) → H3 dx = some (.xd [(f, y)]) → (∀ b o, H2 b = some o → b ≠ a → H3 b = some o) → D.nx σ H3
theorem ps_fldX {X : Cx} {o value : Expr} {f : Str} {pos pos' : Pos} {ta tv : TE} (ha : PE X o ta) (hv : PE X value tv) (hs : swapsWith value (some (.Attribute o f pos')) pos.line X.env = pure false) : PS X (.Assign [.Attribute o f pos'] value pos) (sFldX X.K ta tv f) := by
  intro pins s σ H D I h
  refine plainObj_wpAny_Assign_Attribute (thn (hv pins s σ H _ I h) fun u s1 hq1 => ?_) hs
  obtain ⟨y, H1, I1, ry, q⟩ := hq1
  refine thn (ha pins s1 σ H1 _ I1 q) fun ov s2 hq2 => ?_
  obtain ⟨x, H2, I2, rx, a, C, fI, ex, ea, hE, q2⟩ := hq2
  subst ex
  obtain rfl : ov = Value.ref a := rx
  obtain ⟨⟨oe, vs, h1, hc, hdn, hd, h6, hv1⟩, _⟩ := (show ObjOk X.prog X.w H2 s2.heap a (excN a (.ref C) none) from I2.hok a _ ea)
  obtain ⟨hh, g, d, t, os⟩ := s2
  refine exc_store I2.kIn (exc_atI I2.kIn hE.e) hE.sa hE.na hE.x.ob h1 hc hd hdn fun h' tk' hx' hn' hk => ?_
  have h1' : hh.get? a = some oe := h1
  have hne : hh.objs.size ≠ a := Nat.ne_of_gt (Heap.lt_size h1')
  have hfree : H2 hh.objs.size = none := I2.hok.fresh (Nat.le_refl _)
  obtain ⟨oD, esD, epD, hoD, _⟩ := id hn'
  have hpush : (hh.push oD).get? hh.objs.size = some oD := Heap.get?_push_size hh (Heap.get?_some_iff.mp hoD).2
  have I3 := I2.laid (a := hh.objs.size) (o := .xd [(f, y)]) (h' := hh.push oD) (t' := tk') (fun b u q => Heap.get?_push_of_some _ q) (Nat.le_refl _) ⟨_, hn'.at (fun o q => by rw [hoD] at q; cases q; exact hpush), fun g => by
    show RelO (List.lookup g [(f, y)]) (if g = f then some u else none)
    by_cases e : g = f
    · subst e
      rw [if_pos rfl, List.lookup_cons]
      simp only [beq_self_eq_true]
      exact ry
    · rw [if_neg e, List.lookup_cons]
      have : (g == f) = false := by simpa using e
      rw [this]
      exact True.intro⟩
  have I4 := I3.write (x := a) (e := a) (o := excN a (.ref C) (some hh.objs.size)) (h' := h') (t' := tk') (by rw [upd_ne (Ne.symm hne), ea]; exact True.intro) (.inl rfl) (fun b u hb q => ?_) ⟨_, hx'⟩ (excN_ok hx' hc rfl hd h6 hv1)
  · refine ⟨σ, _, I4, q2 hh.objs.size _ hfree hne upd_same (by rw [upd_ne hne]; exact upd_same) fun b o e hb => ?_⟩
    rw [upd_ne hb, upd_ne (ne_of_none e hfree)]; exact e
  · rcases Heap.get?_push_cases q with ⟨rfl, rfl⟩ | q
    · exact hoD
    · exact hk b u hb q
structure BaseI (K : PySem.W.Frag) (B : Addr) : Prop where
  sp : PySem.W.specialIn K (.ref B) "__getattribute__" = some (some (.builtin "type.__getattribute__"))
  rd : PySem.W.readsIn K B (.type "type") = true
  fi : PySem.W.findCls K (.ref B) (.type "type") "__init__" = some (.val (.builtin "ValueError.__init__"))
def tXBase (K : PySem.W.Frag) (t : TA) : TE := fun σ H Q => t σ H fun vs H1 => ∃ a C fI fld dd rest, vs = .ref a :: rest ∧ rest.length ≤ 1000 ∧ ExcI K C fI fld ∧ H1 a = some (excN a (.ref C) dd) ∧ Q .non H1
theorem upd_id {H : Hp} {a : Addr} {o : HO} (h : H a = some o) : upd H a o = H := by
  funext b
  by_cases e : b = a
  · subst e; rw [upd_same, h]
  · rw [upd_ne e]
theorem pe_xbase {X : Cx} {B : Addr} {x : Str} {np apos pos : Pos} {e : Expr} {es : List Expr} {t : TA} {pl : Sem Bool} (hg : Gl X x) (hm : X.mg x = some (.ref B)) (hB : BaseI X.K B) (ha : PA X (e :: es) t) (hdb : (x == ("__debug__" : Str)) = false := by decide)
    (he : starEach (e :: es) X.env = (false, eval e X.env) :: starEach es X.env := by rfl) (hpl : (backTo pos (starEach es X.env)).any (·.1) = false := by rfl)
    (ht : eval (.Call (.Attribute (.Name x np) "__init__" apos) (e :: es) [] pos) X.env = (do
      let ov ← eval (.Name x np) X.env
      standAt apos.atName
      let (f, first) ← holding [ov] (getMethod ov "__init__" pl)
      callWith pos f first (backTo pos (starEach (e :: es) X.env)) (backToKw pos (keywordEach [] X.env))) := by rfl) :
    PE X (.Call (.Attribute (.Name x np) "__init__" apos) (e :: es) [] pos) (tXBase X.K t) := by
  intro pins s σ H Q I h
  refine PySem.W.methodCall_KW (pl := pl) (ld_glob I hg hm ?_ hdb) ht
  refine PySem.W.method_cls I.kIn hB.sp (PySem.W.cls_value I.kIn hB.rd hB.fi rfl ?_)
  refine PyProof.Rows.callWith_builtin1 (thn (ha pos pins _ σ H _ (I.tok _) h) fun us s1 hq => ?_) he hpl
  obtain ⟨vs, H1, I1, r1, a, C, fI, fld, dd, rest, ev, hl, hE, hx, q⟩ := hq
  subst ev
  cases us with
  | nil => cases r1
  | cons u us =>
    cases r1 with
    | cons r0 r1 =>
      cases (show u = Value.ref a from r0)
      obtain ⟨⟨oe, ws, h1, hc, hdn, hd, h6, hv1⟩, _⟩ := (show ObjOk X.prog X.w H1 s1.heap a (excN a (.ref C) dd) from I1.hok a _ hx)
      obtain ⟨hh, g, d, t, os⟩ := s1
      refine exc_base_init (exc_atI I1.kIn hE.e) h1 hc hd (by omega) (by rw [← r1.length, sizeLine_eq]; omega) fun h' v0 hk hx' => ?_
      have I2 := I1.write (x := a) (e := a) (o := excN a (.ref C) dd) (h' := h') (t' := t) (by rw [hx]; exact True.intro) (.inl rfl) (fun b u hb q => hk b u hb q) ⟨_, hx'⟩ (excN_ok hx' hc hdn rfl (by simp [h6]) (by rw [Array.getElem?_setIfInBounds_ne (by decide)]; exact hv1))
      rw [upd_id hx] at I2
      exact ⟨.non, H1, I2, rfl, q⟩
theorem fn_at {K : PySem.W.Frag} {h : Heap} {f : Addr} (X : K.In h) (e : PySem.W.isFn K (.ref f) = true) : ∃ o, h.get? f = some o ∧ o.cls = .type "function" := by
  unfold PySem.W.isFn PySem.W.typeIn at e
  obtain ⟨o, ho, hc⟩ := Option.map_eq_some_iff.mp (beq_iff_eq.mp e)
  exact ⟨o, X _ _ ho, hc⟩
def dropH (H : Hp) (e : Addr) : Hp := fun b => if b = e then none else H b
theorem drop_ne {H : Hp} {e b : Addr} (h : b ≠ e) : dropH H e b = H b := if_neg h
theorem drop_at {H : Hp} {e : Addr} : dropH H e e = none := if_pos rfl
theorem Inv.drop {X : Cx} {σ : St} {H : Hp} {s : Shared} {e : Addr} {φ : Heap → Prop} (I : Inv X [] σ H s) (he : H e = some (.ext φ)) : Inv X [] σ (dropH H e) s := by
  have key : ∀ b o, H b = some o → (∀ ψ, o ≠ .ext ψ) → dropH H e b = some o := fun b o q n => by
    rw [drop_ne (fun z => by rw [z, he] at q; cases q; exact n _ rfl)]; exact q
  have no : ∀ b, H b = none → dropH H e b = none := fun b q => by
    by_cases z : b = e
    · rw [z]; exact drop_at
    · rw [drop_ne z]; exact q
  refine ⟨I.ok, I.os, I.bare, ⟨I.base.keep, I.base.slot, fun b o q n hx => no b (I.base.free b o q n hx), I.base.there, fun b xs q => key _ _ (I.base.tups b xs q) (by intro ψ z; cases z), fun b o xs q => key _ _ (I.base.frzs b o xs q) (by intro ψ z; cases z), fun b ps q => ?_⟩, I.loc, I.cell, no _ I.free, fun x c q => no _ (I.freeC x c q), fun p hp => ?_, fun b u q => ?_, I.len⟩
  · obtain ⟨m1, e1⟩ := I.base.tbls b ps q
    exact ⟨m1, key _ _ e1 (by intro ψ z; cases z)⟩
  · obtain ⟨q, n, ne, nf, d⟩ := I.pin p hp
    exact ⟨q, no _ n, ne, nf, d⟩
  · by_cases z : b = e
    · rw [z, drop_at] at q; cases q
    · rw [drop_ne z] at q
      exact (I.hok b u q).stay (fun _ _ _ q => q) (fun c q => key _ _ q (by intro ψ z; cases z)) fun c xs q => key _ _ q (by intro ψ z; cases z)
def sp_xinit (C : Addr) (fld : Str) : Sp := fun vs H Q _ => ∃ ex v, vs = [.ref ex, v] ∧ H ex = some (excN ex (.ref C) none) ∧ ∀ dx H', H dx = none → dx ≠ ex → H' ex = some (excN ex (.ref C) (some dx)) → H' dx = some (.xd [(fld, v)]) → (∀ b o, H b = some o → b ≠ ex → H' b = some o) → Q .non H'
structure XcOk (P : Program) (w : World) (K : PySem.W.Frag) (mg : Str → Option Value) (base : Heap) (C : Addr) (k : Nat) (x : Str) (ps : List Str) (fld : Str) : Prop where
  ex : ∃ f fd, FnOk P w K mg base CX0 k f fd ps (sp_xinit C fld) ∧ mg x = some (.ref C) ∧ ExcI K C f fld ∧ Binds K fd ps []
def tRaiseI (W : XW) (C : Addr) (fld : Str) (t : TA) : TS := fun _ σ H => t σ H fun vs H1 => ∃ v, vs = [v] ∧ ∀ dx H2, New H1 H2 dx (.xd [(fld, v)]) → W (.ref C) (some dx) σ H2
theorem ps_raiseI {X : Cx} {W : XW} {C : Addr} {k : Nat} {x fld : Str} {ps : List Str} {np cpos pos : Pos} {e : Expr} {es : List Expr} {t : TA} (hW : Wants X W) (hc : X.calm = true) (D : XcOk X.prog X.w X.K X.mg X.base C k x ps fld) (hr : Room (k + 1) X.A) (hg : Gl X x) (ha : PA X (e :: es) t)
    (hdb : (x == ("__debug__" : Str)) = false := by decide) (he : starEach (e :: es) X.env = (false, eval e X.env) :: starEach es X.env := by rfl) (hpl : (backTo cpos (starEach es X.env)).any (·.1) = false := by rfl) :
    PS X (.Raise (some (.Call (.Name x np) (e :: es) [] cpos)) none pos) (tRaiseI W C fld t) := by
  intro pins s σ H D' I h
  obtain ⟨f, fd, F, hm, hE, hb⟩ := D.ex
  obtain ⟨bm, N, nm, qn, bs, sn, sub, ab, col, dd, k0, k1, k2, k3, k5, mN, hC, hN, hi, hT⟩ := (exc_atI I.ok.mod.kin hE.e).e
  rw [arm_exec_Raise]
  have hplain : (backTo cpos (starEach (e :: es) X.env)).any (·.1) = false := by rw [he]; show (false || (backTo cpos (starEach es X.env)).any (·.1)) = false; rw [hpl]; rfl
  have main : wpAny (model X.prog X.w) X.A (eval (.Call (.Name x np) (e :: es) [] cpos) X.env) (fun v s₁ => ∃ ex dx vs sl, v = .ref ex ∧ s₁.heap.get? C = some (excClassObj nm qn C N bs bm true sn sub ab col dd k0 k1 k2 k3 k5 "ValueError.__new__") ∧
      s₁.heap.get? ex = some ⟨.ref C, dx, .fields vs, sl⟩ ∧ vs[1]? = some .none ∧ X.xe (.ref ex) s₁) X.xe s := by
    refine wpAny_Call_ofName (ld_glob I hg hm ?_ hdb)
    unfold callWith
    have h2 := ha cpos pins s σ H _ I h
    rw [he] at h2 ⊢
    refine wpAny_bind (wpAny_holding (Calls.evalArgs_plain (thn h2 fun us s1 hq => wpAny_bind (wpAny_standAt ?_))))
    obtain ⟨vs, H1, I1, r, v, ev, q⟩ := hq
    subst ev
    obtain ⟨u, rfl, ru⟩ := vals1 r
    rw [← he]
    simp only [hplain]
    have hC1 := I1.bk _ _ hC
    refine wpAny_bind (wpAny_keeperOf_exc hC1 ?_)
    have J : Inv X [] σ H1 s1 := I1.pins_of (by simp)
    obtain ⟨oI, hfI, hfc⟩ : ∃ oI, s1.heap.get? f = some oI ∧ oI.cls = .type "function" := fn_at I1.kIn hE.fn
    obtain ⟨hh, g, d, tk, os⟩ := s1
    refine wpAny_bind (call_excI (hT.keeps I1.bk) hC1 (ns_bk I1.bk hN) hi hfI hfc (fun h' hk hx => ?_) (by show 1 ≤ sizeLine; rw [sizeLine_eq]; omega))
    have hfree : H1 (hh.objs.size + 1) = none := J.hok.fresh (Nat.le_succ _)
    have J2 := J.laid (a := hh.objs.size + 1) (o := excN (hh.objs.size + 1) (.ref C) none) (h' := h') (t' := tk) hk (Nat.le_succ _) (excN_ok hx rfl rfl rfl rfl rfl)
    have r2 : Vals [V.ref (hh.objs.size + 1), v] [Value.ref (hh.objs.size + 1), u] := .cons rfl (.cons ru .nil)
    have hsp : sp_xinit C fld [V.ref (hh.objs.size + 1), v] (upd H1 (hh.objs.size + 1) (excN (hh.objs.size + 1) (.ref C) none)) (fun w' H3 => w' = .non ∧ ∃ dx, H3 (hh.objs.size + 1) = some (excN (hh.objs.size + 1) (.ref C) (some dx)) ∧ W (.ref C) (some dx) σ (dropH H3 (hh.objs.size + 1))) (fun _ _ _ => False) := by
      refine ⟨_, v, rfl, upd_same, fun dx H3 f1 ne h3 h4 h5 => ⟨rfl, dx, h3, q dx _ ⟨fun b o e => ?_, ?_, by rw [drop_ne ne]; exact h4⟩⟩⟩
      · have hb : b ≠ hh.objs.size + 1 := ne_of_none e hfree
        rw [drop_ne hb]
        exact h5 b o (by rw [upd_ne hb]; exact e) hb
      · rw [upd_ne ne] at f1; exact f1
    have hl : [Value.ref (hh.objs.size + 1), u].length = ps.length := by rw [← r2.length]; exact F.len _ _ _ _ hsp
    refine wpAny_call (codeAny_mono (F.run _ X.stack _ _ ⟨[Value.ref (hh.objs.size + 1), u], []⟩ [Value.ref (hh.objs.size + 1), u] _ _ _ (hr.make C [u] []) (J2.env0.make C [u] []) (hb _ [Value.ref (hh.objs.size + 1), u] J2.kIn (by rw [List.append_nil]; exact hl)) r2 hsp) fun r s' hq' => ?_)
    cases r with
    | error e => exact False.elim hq'
    | ok fl =>
      cases fl with
      | ret u' =>
        obtain ⟨w', H3, I3, rv, ev, dx, h3, hw⟩ := J2.after hq'
        subst ev
        refine ⟨rv, wpAny_bind (wpAny_holding (wpAny_point (wpAny_pure ?_)))⟩
        obtain ⟨⟨oe, ws, g1, gc, gd, gf, g6, gv1⟩, _⟩ := (show ObjOk X.prog X.w H3 s'.heap _ (excN (hh.objs.size + 1) (.ref C) (some dx)) from I3.hok _ _ h3)
        have I4 := I3.drop h3
        refine ⟨_, oe.dict, ws, oe.slots, rfl, I3.bk _ _ hC, ?_, gv1, hW.2 _ _ ⟨_, .ref C, some dx, σ, _, rfl, I4, ⟨J.fpX hW.1 (Heap.get?_none_of_le (Nat.le_succ _)) drop_at, .inl ⟨oe, ws, g1, gc, gd, gf, gv1⟩⟩, hw⟩⟩
        rw [g1, ← gc, ← gf]
      | next => exact False.elim hq'
      | brk => exact False.elim hq'
      | cont => exact False.elim hq'
  exact wpAny_bind (wpAny_standAt (raise_made (hT.hasType (by decide +kernel)) (I.ok.hd hc) (wpAny_bind (wpAny_mono main (fun v s₃ h₃ => wpAny_bind (wpAny_standAt (wpAny_pure h₃))) fun _ _ x => x))))
end L2
namespace TB
structure Good (ps : List (Int × Int)) : Prop where
  lo : 1 ≤ ps.length
  hi : ps.length ≤ 5
  each : ∀ (i : Nat) p, ps[i]? = some p → 0 ≤ p.1 ∧ 1 ≤ p.2
  next : ∀ (i : Nat) p q, ps[i]? = some p → ps[i + 1]? = some q → p.1 ≤ q.1 ∧ q.2 % p.2 = 0
def GoneOk (g : Option Int) (last : Int) : Prop := ∀ z, g = some z → last ≤ z
end TB
namespace TB
def cut (d a w : Int) : Int := (d - a) / w * w
def Bd (x : Int) : Prop := -(10 ^ 45) < x ∧ x < 10 ^ 45
def Sized (ps : List (Int × Int)) : Prop := ∀ (i : Nat) p, ps[i]? = some p → 0 ≤ p.1 ∧ p.1 < 10 ^ 45 ∧ 1 ≤ p.2 ∧ p.2 < 10 ^ 45
theorem div_b {x w B : Int} (hw : 1 ≤ w) (hB : 0 ≤ B) (h1 : -B ≤ x) (h2 : x < B) : -B ≤ x / w ∧ x / w < B := by
  have hBw : B * 1 ≤ B * w := Int.mul_le_mul_of_nonneg_left hw hB
  constructor
  · refine Int.le_ediv_of_mul_le (by omega) ?_
    have : -B * w = -(B * w) := Int.neg_mul _ _
    omega
  · exact Int.ediv_lt_of_lt_mul (by omega) (by omega)
theorem cut_le {d a w : Int} (hw : 1 ≤ w) : cut d a w ≤ d - a := by
  have h := Int.emod_add_mul_ediv (d - a) w
  have h1 := Int.emod_nonneg (d - a) (show w ≠ 0 by omega)
  unfold cut
  rw [Int.mul_comm] at h
  omega
theorem cut_gt {d a w : Int} (hw : 1 ≤ w) : d - a < cut d a w + w := by
  have h := Int.emod_add_mul_ediv (d - a) w
  have h1 := Int.emod_lt_of_pos (d - a) (show 0 < w by omega)
  unfold cut
  rw [Int.mul_comm] at h
  omega
theorem cut_bd {d a w : Int} (hd : Bd d) (ha : 0 ≤ a) (ha' : a < 10 ^ 45) (hw : 1 ≤ w) (hw' : w < 10 ^ 45) : -(4 * 10 ^ 45) < cut d a w ∧ cut d a w < 4 * 10 ^ 45 := by
  have h1 := cut_le (d := d) (a := a) hw
  have h2 := cut_gt (d := d) (a := a) hw
  unfold Bd at hd
  omega
theorem last_get {ps : List (Int × Int)} {p : Int × Int} (h : ps[ps.length - 1]? = some p) : ps.getLast?.getD (0, 1) = p := by
  rw [List.getLast?_eq_getElem?, h]; rfl
end TB
namespace TB
end TB
namespace TB
open PySem L2
def PairAt (H : Hp) (v : V) (p : Int × Int) : Prop := ∃ a, v = .ref a ∧ H a = some (.tup [.int p.1, .int p.2])
def Pairs (H : Hp) (xs : List V) (ps : List (Int × Int)) : Prop := Paired (PairAt H) xs ps
theorem PairAt.same {H H' : Hp} (s : Same H H') {v : V} {p : Int × Int} : PairAt H v p → PairAt H' v p := fun ⟨a, e, h⟩ => ⟨a, e, s _ _ h⟩
def TupS (H H' : Hp) : Prop := ∀ b xs, H b = some (.tup xs) → H' b = some (.tup xs)
theorem Same.tup {H H' : Hp} (s : Same H H') : TupS H H' := fun b xs h => s b _ h
theorem TupS.refl (H : Hp) : TupS H H := fun _ _ h => h
theorem TupS.trans {H H1 H2 : Hp} (a : TupS H H1) (b : TupS H1 H2) : TupS H H2 := fun c o h => b c o (a c o h)
theorem PairAt.tupS {H H' : Hp} (s : TupS H H') {v : V} {p : Int × Int} : PairAt H v p → PairAt H' v p := fun ⟨a, e, h⟩ => ⟨a, e, s _ _ h⟩
theorem Pairs.tupS {H H' : Hp} (s : TupS H H') : ∀ {xs : List V} {ps : List (Int × Int)}, Pairs H xs ps → Pairs H' xs ps
  | _, _, .nil => .nil
  | _, _, .cons r t => .cons (r.tupS s) (Pairs.tupS s t)
theorem Pairs.same {H H' : Hp} (s : Same H H') {xs : List V} {ps : List (Int × Int)} (h : Pairs H xs ps) : Pairs H' xs ps := Pairs.tupS (Same.tup s) h
theorem Pairs.length {H : Hp} : ∀ {xs : List V} {ps : List (Int × Int)}, Pairs H xs ps → xs.length = ps.length
  | _, _, .nil => rfl
  | _, _, .cons _ t => by simp [Pairs.length t]
theorem Pairs.get {H : Hp} : ∀ {xs : List V} {ps : List (Int × Int)} {i : Nat} {x : V}, Pairs H xs ps → xs[i]? = some x → ∃ p, ps[i]? = some p ∧ PairAt H x p
  | _, _, _, _, .nil, e => by simp at e
  | _, _, 0, _, .cons r _, e => by simp at e; subst e; exact ⟨_, rfl, r⟩
  | _, _, i + 1, x, .cons _ t, e => by
    obtain ⟨u, h1, h2⟩ := Pairs.get (i := i) (x := x) t (by simpa using e)
    exact ⟨u, by simpa using h1, h2⟩
theorem Pairs.get' {H : Hp} : ∀ {xs : List V} {ps : List (Int × Int)} {i : Nat} {p : Int × Int}, Pairs H xs ps → ps[i]? = some p → ∃ x, xs[i]? = some x ∧ PairAt H x p
  | _, _, _, _, .nil, e => by simp at e
  | _, _, 0, _, .cons r _, e => by simp at e; subst e; exact ⟨_, rfl, r⟩
  | _, _, i + 1, x, .cons _ t, e => by
    obtain ⟨u, h1, h2⟩ := Pairs.get' (i := i) (p := x) t (by simpa using e)
    exact ⟨u, by simpa using h1, h2⟩
theorem Pairs.snoc {H : Hp} {v : V} {p : Int × Int} (r : PairAt H v p) : ∀ {xs : List V} {ps : List (Int × Int)}, Pairs H xs ps → Pairs H (xs ++ [v]) (ps ++ [p])
  | _, _, .nil => .cons r .nil
  | _, _, .cons q t => .cons q (Pairs.snoc r t)
def dPair (p : Int × Int) : PyData := .tuple [.int p.1, .int p.2]
def dPairs (ps : List (Int × Int)) : PyData := .list (ps.map dPair)
theorem Pairs.reps {K : PySem.W.Frag} {H : Hp} : ∀ {xs : List V} {ps : List (Int × Int)}, Pairs H xs ps → Reps K H xs (ps.map dPair)
  | _, _, .nil => .nil
  | _, _, .cons ⟨a, e, h⟩ t => by
    subst e
    exact .cons (.tup (SqT.of h) (.cons (.int _) (.cons (.int _) .nil))) (Pairs.reps t)
theorem Pairs.rep {K : PySem.W.Frag} {H : Hp} {l : Addr} {xs : List V} {ps : List (Int × Int)} (h : H l = some (.lst xs)) (r : Pairs H xs ps) : Rep K H (.ref l) (dPairs ps) := .lst (SqL.of h) r.reps
theorem reps_ints {K : PySem.W.Frag} {H : Hp} : ∀ ns : List Int, Reps K H (ns.map V.int) (ns.map PyData.int)
  | [] => .nil
  | n :: r => .cons (.int n) (reps_ints r)
theorem lay_intsA : ∀ ns : List Int, PyData.canLayAll0 (ns.map PyData.int) = true
  | [] => rfl
  | n :: r => by simp [PyData.canLayAll0, PyData.canLay0, lay_intsA r]
theorem dep_intsA : ∀ ns : List Int, PyData.depthAll (ns.map PyData.int) = 0
  | [] => rfl
  | n :: r => by simp [PyData.depthAll, PyData.depth, dep_intsA r]
def gv : Option Int → V
  | none => .non
  | some i => .int i
theorem ks_ga : ¬ (("kept_steps" : Str) = "gone_age") := by decide +kernel
def rf (l : Addr) (g : V) : List (Str × V) := putF "gone_age" g (putF "kept_steps" (.ref l) [])
theorem rf_ks (l : Addr) (g : V) : (rf l g).lookup ("kept_steps" : Str) = some (.ref l) := by
  unfold rf
  rw [lookup_putF, if_neg ks_ga, lookup_putF, if_pos rfl]
theorem rf_ga (l : Addr) (g : V) : (rf l g).lookup ("gone_age" : Str) = some g := by
  unfold rf
  rw [lookup_putF, if_pos rfl]
theorem rf_no (l : Addr) (g : V) {m : Str} (h1 : ¬ m = "gone_age") (h2 : ¬ m = "kept_steps") : (rf l g).lookup m = none := by
  unfold rf
  rw [lookup_putF, if_neg h1, lookup_putF, if_neg h2]
  rfl
structure RuleAt (C : Addr) (H : Hp) (r l : Addr) (ps : List (Int × Int)) (g : Option Int) : Prop where
  ob : ∃ dx, H r = some (.ins C dx (rf l (gv g)))
  ls : ∃ xs, H l = some (.lst xs) ∧ Pairs H xs ps
theorem RuleAt.same {C : Addr} {H H' : Hp} {r l : Addr} {ps : List (Int × Int)} {g : Option Int} (s : Same H H') (h : RuleAt C H r l ps g) : RuleAt C H' r l ps g :=
  ⟨let ⟨dx, e⟩ := h.ob; ⟨dx, s _ _ e⟩, let ⟨xs, e, p⟩ := h.ls; ⟨xs, s _ _ e, p.same s⟩⟩
theorem atI_m1 {xs : List V} {v : V} (h : xs[xs.length - 1]? = some v) : atI xs (-1) = some v := by
  have hl : xs.length - 1 < xs.length := (List.getElem?_eq_some_iff.mp h).1
  have e : ixN xs.length (-1) = some (xs.length - 1) := by
    unfold ixN
    rw [if_neg (by decide), if_pos (by omega)]
    congr 1; omega
  unfold atI
  rw [e]; exact h
theorem at3 (x a b c : Int) : atI [V.int a, V.int b, V.int c] (x % 3) = some (.int (if x % 3 = 0 then a else if x % 3 = 1 then b else c)) := by
  have h : x % 3 = 0 ∨ x % 3 = 1 ∨ x % 3 = 2 := by omega
  rcases h with h | h | h <;> rw [h] <;> rfl
theorem cut1 (xs : List V) : cutV xs (some 1) none = xs.drop 1 := by
  unfold cutV
  rw [HT.sIx_none, show (some (1 : Int)) = some ((1 : Nat) : Int) from rfl, HT.sIx_nat]
  by_cases h : 1 ≤ xs.length
  · rw [Nat.min_eq_left h]
    exact List.take_of_length_le (by simp)
  · have e : xs = [] := by cases xs with | nil => rfl | cons _ _ => simp at h
    subst e; rfl
def sp_is_whole : Sp := fun vs H Q _ => ∃ x, vs = [x] ∧ ((∃ i, x = .int i ∧ Q (.bl true) H))
def sp_is_step : Sp := fun vs H Q _ => ∃ x p, vs = [x] ∧ PairAt H x p ∧ Q (.bl true) H
def sp_check_one_step : Sp := fun vs H Q _ => ∃ x p, vs = [x] ∧ PairAt H x p ∧ 0 ≤ p.1 ∧ 1 ≤ p.2 ∧ Q .non H
def sp_check_next_step : Sp := fun vs H Q _ => ∃ x y p q, vs = [x, y] ∧ PairAt H x p ∧ PairAt H y q ∧ 1 ≤ p.2 ∧ p.1 ≤ q.1 ∧ q.2 % p.2 = 0 ∧ Q .non H
def sp_check_steps : Sp := fun vs H Q _ => ∃ l xs ps, vs = [.ref l] ∧ H l = some (.lst xs) ∧ Pairs H xs ps ∧ Good ps ∧ ∀ H', Same H H' → Q .non H'
def sp_check_gone : Sp := fun vs H Q _ => ∃ g last, vs = [gv g, .int last] ∧ GoneOk g last ∧ Q .non H
def sp_gone (C : Addr) : Sp := fun vs H Q _ => ∃ r l ps g, vs = [.ref r] ∧ RuleAt C H r l ps g ∧ Q (gv g) H
def sp_law (K : PySem.W.Frag) : Sp := fun vs H Q _ => ∃ (a : Addr) (ns : List Int), vs = [.ref a] ∧ SqL K H a (ns.map V.int) ∧ ns.length ≤ 63 ∧ ∀ H', Q (.bl true) H'
end TB
namespace TB
open PySem L2
theorem New.after {H H1 H2 : Hp} {p : Addr} {o : HO} (s : Same H H1) (n : New H1 H2 p o) : New H H2 p o := ⟨s.trans n.same, s.free n.fresh, n.at_⟩
def lw (ps : List (Int × Int)) : Int := (ps.getLast?.getD (0, 1)).2
def eV (ps : List (Int × Int)) (g : Option Int) (d : Int) : List V := (ps.map fun p => V.int (cut d p.1 p.2)) ++ [gv (g.map fun z => cut d z (lw ps))]
def GBd (g : Option Int) : Prop := ∀ z, g = some z → 0 ≤ z ∧ z < 10 ^ 45
structure Pr (ps : List (Int × Int)) (g : Option Int) : Prop where
  good : Good ps
  size : Sized ps
  gone : ∀ p, ps[ps.length - 1]? = some p → GoneOk g p.1
  gb : GBd g
theorem Pr.last {ps : List (Int × Int)} {g : Option Int} (P : Pr ps g) : ∃ p, ps[ps.length - 1]? = some p ∧ lw ps = p.2 := by
  have hl := P.good.lo
  refine ⟨ps[ps.length - 1]'(by omega), List.getElem?_eq_getElem _, ?_⟩
  unfold lw
  rw [last_get (List.getElem?_eq_getElem _)]
theorem RuleAt.but {C : Addr} {H H' : Hp} {r l m : Addr} {o : HO} {ps : List (Int × Int)} {g : Option Int} (h : RuleAt C H r l ps g) (b : But m H H') (hm : H m = some o) (nt : ∀ xs, o ≠ .tup xs) (n1 : r ≠ m) (n2 : l ≠ m) : RuleAt C H' r l ps g :=
  ⟨let ⟨dx, e⟩ := h.ob; ⟨dx, b _ _ e n1⟩, let ⟨xs, e, p⟩ := h.ls; ⟨xs, b _ _ e n2, p.tupS (b.tup hm nt)⟩⟩
theorem Pairs.but {H H' : Hp} {m : Addr} {o : HO} {xs : List V} {ps : List (Int × Int)} (h : Pairs H xs ps) (b : But m H H') (hm : H m = some o) (nt : ∀ xs, o ≠ .tup xs) : Pairs H' xs ps := h.tupS (b.tup hm nt)
theorem lst_nt {xs : List V} : ∀ ys, (HO.lst xs) ≠ .tup ys := fun _ z => by cases z
theorem ins_nt {C dx : Addr} {fs : List (Str × V)} : ∀ ys, (HO.ins C dx fs) ≠ .tup ys := fun _ z => by cases z
def sp2_init (C : Addr) : Sp := fun vs H Q _ => ∃ r dx l xs ps g, vs = [.ref r, .ref l, gv g] ∧ H r = some (.ins C dx []) ∧ H l = some (.lst xs) ∧ Pairs H xs ps ∧ Good ps ∧ (∀ p, ps[ps.length - 1]? = some p → GoneOk g p.1) ∧
  ∀ l' H', H l' = none → RuleAt C H' r l' ps g → But r H H' → Q .non H'
def sp2_steps (C : Addr) : Sp := fun vs H Q _ => ∃ r l ps g xs, vs = [.ref r] ∧ RuleAt C H r l ps g ∧ H l = some (.lst xs) ∧ ∀ p H', New H H' p (.lst xs) → Q (.ref p) H'
def sp_floored : Sp := fun vs H Q _ => ∃ n w, vs = [.int n, .int w] ∧ 1 ≤ w ∧ w < 10 ^ 45 ∧ -(10 ^ 46) ≤ n ∧ n < 10 ^ 46 ∧ Q (.int (n / w * w)) H
def sp_gone_cut (C : Addr) : Sp := fun vs H Q _ => ∃ r l ps g d, vs = [.ref r, .int d] ∧ RuleAt C H r l ps g ∧ Pr ps g ∧ Bd d ∧ ∀ H', Same H H' → Q (gv (g.map fun z => cut d z (lw ps))) H'
def sp_edges_at (C : Addr) : Sp := fun vs H Q _ => ∃ r l ps g d, vs = [.ref r, .int d] ∧ RuleAt C H r l ps g ∧ Pr ps g ∧ Bd d ∧ ∀ p H', New H H' p (.lst (eV ps g d)) → Q (.ref p) H'
def dV : V → PyData
  | .int i => .int i
  | _ => .none
def Ed (v : V) : Prop := v = .non ∨ ∃ i, v = .int i
theorem mapN {α β : Type} (f : α → β) (xs : List α) (i : Nat) (x : α) (h : xs[i]? = some x) : (xs.take (i + 1)).map f = (xs.take i).map f ++ [f x] := by
  rw [List.take_succ, h]
  simp
end TB
namespace TB
open PySem L2
end TB
namespace TB
def mc (p e : Int × Int) : Int := (e.1 - p.1 + e.2 - 1) / p.2
end TB
namespace TB
open PySem L2
theorem gname_ {i : Nat} {v : V} {σ : St} {H : Hp} {K : St → Hp → Prop} (h : K (σ.set i (some v)) H) : gName i v σ H K := h
theorem Pairs.drop {H : Hp} {xs : List V} {ps : List (Int × Int)} (h : Pairs H xs ps) (n : Nat) : Pairs H (xs.drop n) (ps.drop n) := by
  induction n generalizing xs ps with
  | zero => exact h
  | succ n ih =>
    cases h with
    | nil => exact .nil
    | cons r t => exact ih t
theorem lc_zipN {K : PySem.W.Frag} {a b : Addr} {xs ys : List V} {g : TG} {tc : TT} {te : TE} {Q : VK} {σ : St} {H : Hp} (Pv : Nat → List V → Hp → Prop) (hz : xs.length ≤ sizeLine) (h0 : Pv 0 [] H) (hl : ∀ i zs H, Pv i zs H → SqL K H a xs ∧ SqL K H b ys ∧ zs.length ≤ i)
    (hs : ∀ i x y zs H p H', xs[i]? = some x → ys[i]? = some y → New H H' p (.tup [x, y]) → Pv i zs H → g (.ref p) σ H' fun σ4 H4 => tc σ4 H4 fun b H5 => if b = true then te σ4 H5 fun v H6 => Pv (i + 1) (zs ++ [v]) H6 else Pv (i + 1) zs H5)
    (hd : ∀ i zs H p H', i = min xs.length ys.length → Pv i zs H → New H H' p (.lst zs) → Q (.ref p) H') : lcGoal (Itz K a b) Q g tc te σ H :=
  lc_zip Pv hz h0 hl (fun i x y zs H p e1 e2 hn p' => hs i x y zs H p _ e1 e2 (new_upd hn) p') fun i zs H p e p' hp => hd i zs H p _ e p' (new_upd hp)
end TB
namespace TB
open PySem L2
end TB
namespace TB
open PySem L2
def gE : V → V → V
  | .non, y => y
  | .int i, .int j => .int (if j > i then j else i)
  | x, _ => x
theorem takeN {α : Type} (xs : List α) (i : Nat) (x : α) (h : xs[i]? = some x) : xs.take (i + 1) = xs.take i ++ [x] := by
  rw [List.take_succ, h]; rfl
def EdL (xs : List V) : Prop := ∃ (ns : List Int) (g : Option Int), xs = ns.map V.int ++ [gv g] ∧ 1 ≤ ns.length ∧ ns.length ≤ 5
theorem gv_ed (g : Option Int) : Ed (gv g) := by cases g with
  | none => exact .inl rfl
  | some z => exact .inr ⟨z, rfl⟩
theorem EdL.ed {xs : List V} (h : EdL xs) : ∀ v ∈ xs, Ed v := by
  obtain ⟨ns, g, rfl, _, _⟩ := h
  intro v hv
  rcases List.mem_append.mp hv with z | z
  · obtain ⟨i, _, e⟩ := List.mem_map.mp z; exact .inr ⟨i, e.symm⟩
  · rw [List.mem_singleton.mp z]; exact gv_ed g
theorem EdL.len {xs : List V} (h : EdL xs) : 2 ≤ xs.length ∧ xs.length ≤ 6 := by
  obtain ⟨ns, g, rfl, h1, h2⟩ := h
  simp only [List.length_append, List.length_map, List.length_singleton]; omega
def notN (v : V) : Bool := !decide (v = V.non)
theorem filt_t {xs : List V} {i : Nat} {x : V} (h : xs[i]? = some x) (hn : notN x = true) : (xs.take (i + 1)).filter notN = (xs.take i).filter notN ++ [x] := by
  rw [takeN xs i x h, List.filter_append]; simp [hn]
theorem filt_f {xs : List V} {i : Nat} {x : V} (h : xs[i]? = some x) (hn : ¬ notN x = true) : (xs.take (i + 1)).filter notN = (xs.take i).filter notN := by
  rw [takeN xs i x h, List.filter_append]; simp [hn]
theorem filt_len (xs : List V) (i : Nat) : ((xs.take i).filter notN).length ≤ i := Nat.le_trans (List.length_filter_le _ _) (by rw [List.length_take]; omega)
end TB
namespace TB
open PySem L2
def EB (x : Int) : Prop := -(4 * 10 ^ 45) < x ∧ x < 4 * 10 ^ 45
structure EdS (EV : List V) (es : List Int) (ge : Option Int) : Prop where
  eq : EV = es.map V.int ++ [gv ge]
  bd : ∀ x ∈ es, EB x
  gb : ∀ z, ge = some z → EB z
theorem EdS.ed {EV : List V} {es : List Int} {ge : Option Int} (h : EdS EV es ge) : ∀ v ∈ EV, Ed v := by
  intro v hv
  rw [h.eq] at hv
  rcases List.mem_append.mp hv with z | z
  · obtain ⟨i, _, e⟩ := List.mem_map.mp z; exact .inr ⟨i, e.symm⟩
  · rw [List.mem_singleton.mp z]; exact gv_ed ge
theorem EdS.of {ps : List (Int × Int)} {g : Option Int} {d : Int} (P : Pr ps g) (hd : Bd d) : EdS (eV ps g d) (ps.map fun p => cut d p.1 p.2) (g.map fun z => cut d z (lw ps)) := by
  refine ⟨by unfold eV; rw [List.map_map]; rfl, fun x hx => ?_, fun z hz => ?_⟩
  · obtain ⟨p, hp, rfl⟩ := List.mem_map.mp hx
    obtain ⟨i, hi, e⟩ := List.getElem_of_mem hp
    have hs := P.size i p (by rw [← e]; exact List.getElem?_eq_getElem hi)
    exact cut_bd hd hs.1 hs.2.1 hs.2.2.1 hs.2.2.2
  · cases g with
    | none => cases hz
    | some y =>
      cases hz
      obtain ⟨p, hp, ep⟩ := P.last
      have hs := P.size _ p hp
      have hg := P.gb y rfl
      rw [ep]
      exact cut_bd hd hg.1 hg.2 hs.2.2.1 hs.2.2.2
def gmax : Option Int → Option Int → Option Int
  | none, y => y
  | some i, some j => some (if j > i then j else i)
  | x, none => x
theorem gE_gv (x y : Option Int) : gE (gv x) (gv y) = gv (gmax x y) := by cases x <;> cases y <;> rfl
theorem EdS.max {E1 E2 : List V} {a b : List Int} {g1 g2 : Option Int} (h1 : EdS E1 a g1) (h2 : EdS E2 b g2) (hl : a.length = b.length) : EdS (List.zipWith gE E1 E2) (List.zipWith (fun i j => if j > i then j else i) a b) (gmax g1 g2) := by
  refine ⟨?_, fun x hx => ?_, fun z hz => ?_⟩
  · rw [h1.eq, h2.eq, List.zipWith_append (by simpa using hl)]
    congr 1
    · rw [List.zipWith_map_left, List.zipWith_map_right, List.map_zipWith]; rfl
    · show [gE (gv g1) (gv g2)] = _
      rw [gE_gv]
  · obtain ⟨i, hi, e⟩ := List.getElem_of_mem hx
    have hi' := hi
    rw [List.length_zipWith] at hi'
    have hia : i < a.length := by omega
    have hib : i < b.length := by omega
    rw [List.getElem_zipWith] at e
    have e1 := h1.bd a[i] (List.getElem_mem _)
    have e2 := h2.bd b[i] (List.getElem_mem _)
    rw [← e]
    split
    · exact e2
    · exact e1
  · cases g1 with
    | none => exact h2.gb z hz
    | some i =>
      cases g2 with
      | none => exact h1.gb z hz
      | some j =>
        have e1 := h1.gb i rfl
        have e2 := h2.gb j rfl
        simp only [gmax, Option.some.injEq] at hz
        rw [← hz]
        split
        · exact e2
        · exact e1
def wl (ws es : List Int) (t : Int) : List Int := ((ws.zip es).filter fun x => decide (t < x.2)).map (·.1)
def goneB (ge : Option Int) (t : Int) : Prop := ∃ z, ge = some z ∧ t < z
def CellOf (ws es : List Int) (ge : Option Int) (t : Int) (o : Option (Int × Int)) : Prop :=
  (∀ e0, es[0]? = some e0 → (e0 ≤ t → o = some (t, 0)) ∧ (t < e0 → (goneB ge t → o = none) ∧ (¬ goneB ge t → ∃ w, (wl ws es t)[(wl ws es t).length - 1]? = some w ∧ o = some (t / w * w, w))))
theorem wl_ne {ws es : List Int} {t w0 e0 : Int} (h1 : ws[0]? = some w0) (h2 : es[0]? = some e0) (h : t < e0) : 1 ≤ (wl ws es t).length := by
  cases ws with
  | nil => simp at h1
  | cons w r =>
    cases es with
    | nil => simp at h2
    | cons e s =>
      simp at h2
      subst h2
      unfold wl
      rw [List.zip_cons_cons, List.filter_cons_of_pos (by simpa using h)]
      simp
theorem wl_mem {ws es : List Int} {t w : Int} (h : w ∈ wl ws es t) : w ∈ ws := by
  unfold wl at h
  obtain ⟨x, hx, rfl⟩ := List.mem_map.mp h
  exact (List.of_mem_zip (List.mem_filter.mp hx).1).1
theorem wl_t {ws es : List Int} {t : Int} {i : Nat} {w e : Int} (h1 : ws[i]? = some w) (h2 : es[i]? = some e) (h : t < e) : ((((ws.zip es).take (i + 1)).filter fun x => decide (t < x.2)).map (·.1)) = ((((ws.zip es).take i).filter fun x => decide (t < x.2)).map (·.1)) ++ [w] := by
  have hz : (ws.zip es)[i]? = some (w, e) := by rw [List.getElem?_zip_eq_some]; exact ⟨h1, h2⟩
  rw [takeN _ i _ hz, List.filter_append, List.map_append]
  simp [h]
theorem wl_f {ws es : List Int} {t : Int} {i : Nat} {w e : Int} (h1 : ws[i]? = some w) (h2 : es[i]? = some e) (h : ¬ t < e) : ((((ws.zip es).take (i + 1)).filter fun x => decide (t < x.2)).map (·.1)) = ((((ws.zip es).take i).filter fun x => decide (t < x.2)).map (·.1)) := by
  have hz : (ws.zip es)[i]? = some (w, e) := by rw [List.getElem?_zip_eq_some]; exact ⟨h1, h2⟩
  rw [takeN _ i _ hz, List.filter_append, List.map_append]
  simp [h]
theorem wl_all {ws es : List Int} {t : Int} {i : Nat} (h : (ws.zip es).length ≤ i) : ((((ws.zip es).take i).filter fun x => decide (t < x.2)).map (·.1)) = wl ws es t := by
  rw [List.take_of_length_le h]; rfl
theorem wl_len (ws es : List Int) (t : Int) (i : Nat) : ((((ws.zip es).take i).filter fun x => decide (t < x.2)).map (·.1)).length ≤ i := by
  rw [List.length_map]
  exact Nat.le_trans (List.length_filter_le _ _) (by rw [List.length_take]; omega)
def CellAt (H : Hp) (v : V) (o : Option (Int × Int)) : Prop := match o with
  | none => v = .non
  | some p => PairAt H v p
theorem CellAt.same {H H' : Hp} {v : V} {o : Option (Int × Int)} (s : Same H H') (h : CellAt H v o) : CellAt H' v o := by
  cases o with
  | none => exact h
  | some p => exact PairAt.same s h
theorem CellOf.uniq {ws es : List Int} {ge : Option Int} {t : Int} {o o' : Option (Int × Int)} {e0 : Int} (h0 : es[0]? = some e0) (h : CellOf ws es ge t o) (h' : CellOf ws es ge t o') : o = o' := by
  obtain ⟨a1, a2⟩ := h e0 h0
  obtain ⟨b1, b2⟩ := h' e0 h0
  by_cases hc : e0 ≤ t
  · rw [a1 hc, b1 hc]
  · have hlt : t < e0 := by omega
    by_cases hg : goneB ge t
    · rw [(a2 hlt).1 hg, (b2 hlt).1 hg]
    · obtain ⟨w, hw, rfl⟩ := (a2 hlt).2 hg
      obtain ⟨w', hw', rfl⟩ := (b2 hlt).2 hg
      rw [hw] at hw'
      cases hw'
      rfl
def sp_is_gone : Sp := fun vs H Q _ => ∃ (e : Addr) (es : List Int) (ge : Option Int) (t : Int), vs = [.ref e, .int t] ∧ H e = some (.lst (es.map V.int ++ [gv ge])) ∧ (goneB ge t → Q (.bl true) H) ∧ (¬ goneB ge t → Q (.bl false) H)
def sp_width_at (C : Addr) : Sp := fun vs H Q _ => ∃ (r l : Addr) (ps : List (Int × Int)) (g : Option Int) (e : Addr) (es : List Int) (ge : Option Int) (t e0 : Int), vs = [.ref r, .ref e, .int t] ∧ RuleAt C H r l ps g ∧ H e = some (.lst (es.map V.int ++ [gv ge])) ∧ es.length = ps.length ∧ 1 ≤ ps.length ∧ ps.length ≤ 5 ∧ es[0]? = some e0 ∧ t < e0 ∧
  ∀ w H', (wl (ps.map (·.2)) es t)[(wl (ps.map (·.2)) es t).length - 1]? = some w → Same H H' → Q (.int w) H'
def TB46 (t : Int) : Prop := -(10 ^ 46) ≤ t ∧ t < 10 ^ 46
def sp_cell_at (C : Addr) : Sp := fun vs H Q _ => ∃ (r l : Addr) (ps : List (Int × Int)) (g : Option Int) (e : Addr) (es : List Int) (ge : Option Int) (t : Int), vs = [.ref r, .ref e, .int t] ∧ RuleAt C H r l ps g ∧ H e = some (.lst (es.map V.int ++ [gv ge])) ∧ es.length = ps.length ∧ 1 ≤ ps.length ∧ ps.length ≤ 5 ∧ Sized ps ∧ TB46 t ∧
  ∀ v o H', CellOf (ps.map (·.2)) es ge t o → CellAt H' v o → Same H H' → Q v H'
def sp_lcell (K : PySem.W.Frag) : Sp := fun vs H Q _ => ∃ (a : Addr) (ns : List Int) (k : Int), vs = [.ref a, .int k] ∧ SqL K H a (List.map V.int ns) ∧ 0 ≤ k ∧ ∀ i, Q (.int i) H
theorem CellOf.a {ws es : List Int} {ge : Option Int} {t e0 : Int} (h0 : es[0]? = some e0) (h : e0 ≤ t) : CellOf ws es ge t (some (t, 0)) := fun x hx => by
  rw [h0] at hx; cases hx
  exact ⟨fun _ => rfl, fun h' => absurd h (by omega)⟩
theorem CellOf.b {ws es : List Int} {ge : Option Int} {t e0 : Int} (h0 : es[0]? = some e0) (h : t < e0) (hg : goneB ge t) : CellOf ws es ge t none := fun x hx => by
  rw [h0] at hx; cases hx
  exact ⟨fun h' => absurd h (by omega), fun _ => ⟨fun _ => rfl, fun n => absurd hg n⟩⟩
theorem CellOf.c {ws es : List Int} {ge : Option Int} {t e0 w : Int} (h0 : es[0]? = some e0) (h : t < e0) (hg : ¬ goneB ge t) (hw : (wl ws es t)[(wl ws es t).length - 1]? = some w) : CellOf ws es ge t (some (t / w * w, w)) := fun x hx => by
  rw [h0] at hx; cases hx
  exact ⟨fun h' => absurd h (by omega), fun _ => ⟨fun n => absurd n hg, fun _ => ⟨w, hw, rfl⟩⟩⟩
theorem sq_mono {K : PySem.W.Frag} {H H' : Hp} {a : Addr} {xs : List V} (s : Same H H') (h : SqL K H a xs) : SqL K H' a xs := by
  rcases h with (h | ⟨o, h⟩) | h
  · exact .inl (.inl (s _ _ h))
  · exact .inl (.inr ⟨o, s _ _ h⟩)
  · exact .inr h
theorem at_in (ns : List Int) (h : 0 < ns.length) (x : Int) : ∃ m, m ∈ ns ∧ atI (ns.map V.int) (x % ((ns.map V.int).length : Int)) = some (V.int m) := by
  rw [List.length_map]
  have h1 := Int.emod_nonneg x (show (ns.length : Int) ≠ 0 by omega)
  have h2 := Int.emod_lt_of_pos x (show (0 : Int) < ns.length by omega)
  have hl : (x % (ns.length : Int)).toNat < ns.length := by omega
  refine ⟨ns[(x % (ns.length : Int)).toNat], List.getElem_mem _, ?_⟩
  have := atI_nat (xs := ns.map V.int) (j := (x % (ns.length : Int)).toNat) (v := V.int ns[(x % (ns.length : Int)).toNat]) (by simp [hl])
  rwa [Int.toNat_of_nonneg h1] at this
theorem notN_ints : ∀ es : List Int, (es.map V.int).filter notN = es.map V.int
  | [] => rfl
  | e :: r => by rw [List.map_cons, List.filter_cons_of_pos (by rfl), notN_ints r]
theorem known (es : List Int) (ge : Option Int) : (es.map V.int ++ [gv ge]).filter notN = (es ++ ge.toList).map V.int := by
  rw [List.filter_append, notN_ints, List.map_append]
  cases ge <;> rfl
theorem known_b {EV : List V} {es : List Int} {ge : Option Int} (E : EdS EV es ge) : ∀ x ∈ es ++ ge.toList, EB x := by
  intro x hx
  rcases List.mem_append.mp hx with h | h
  · exact E.bd x h
  · cases ge with
    | none => cases h
    | some y => simp at h; subst h; exact E.gb _ rfl
theorem lc_listN {K : PySem.W.Frag} {a : Addr} {xs : List V} {g : TG} {tc : TT} {te : TE} {Q : VK} {σ : St} {H : Hp} (Pv : Nat → List V → Hp → Prop) (hz : xs.length ≤ sizeLine) (h0 : Pv 0 [] H) (hl : ∀ i ys H, Pv i ys H → SqL K H a xs ∧ ys.length ≤ i)
    (hs : ∀ i x ys H, xs[i]? = some x → Pv i ys H → g x σ H fun σ4 H4 => tc σ4 H4 fun b H5 => if b = true then te σ4 H5 fun v H6 => Pv (i + 1) (ys ++ [v]) H6 else Pv (i + 1) ys H5)
    (hd : ∀ ys H p H', Pv xs.length ys H → New H H' p (.lst ys) → Q (.ref p) H') : lcGoal (Itl K a) Q g tc te σ H :=
  lc_list Pv hz h0 hl hs fun ys H p p' hp => hd ys H p _ p' (new_upd hp)
end TB
namespace TB
open PySem L2
def RunOk (p : Int × Int) : Prop := (-(10 ^ 40) < p.1 ∧ p.1 < 10 ^ 40) ∧ 1 ≤ p.2 ∧ p.2 < 10 ^ 40
def RunsOk (rs : List (Int × Int)) : Prop := ∀ p ∈ rs, RunOk p
def RunT (p : Int × Int) : Prop := (-(10 ^ 31) < p.1 ∧ p.1 < 10 ^ 31) ∧ 1 ≤ p.2 ∧ p.2 < 10 ^ 31
def RunsT (rs : List (Int × Int)) : Prop := ∀ p ∈ rs, RunT p
theorem RunT.ok {p : Int × Int} (h : RunT p) : RunOk p := by unfold RunT at h; unfold RunOk; omega
theorem RunsT.ok {rs : List (Int × Int)} (h : RunsT rs) : RunsOk rs := fun p hp => (h p hp).ok
def vals (rs : List (Int × Int)) : List Int := rs.map fun p => p.1
def cnts (rs : List (Int × Int)) : List Int := rs.map fun p => p.2
def prds (rs : List (Int × Int)) : List Int := rs.map fun p => p.1 * p.2
def rN (rs : List (Int × Int)) : Int := (cnts rs).sum
def rT (rs : List (Int × Int)) : Int := (prds rs).sum
structure HeapOf (rs : List (Int × Int)) (vm vt vl vg : Int) : Prop where
  m : vm = rN rs
  t : vt = rT rs
  lo : vl ∈ vals rs
  lo' : ∀ a ∈ vals rs, vl ≤ a
  hi : vg ∈ vals rs
  hi' : ∀ a ∈ vals rs, a ≤ vg
theorem HeapOf.uniq {rs : List (Int × Int)} {m t lo hi m' t' lo' hi' : Int} (a : HeapOf rs m t lo hi) (b : HeapOf rs m' t' lo' hi') : m = m' ∧ t = t' ∧ lo = lo' ∧ hi = hi' := by
  have h1 := a.lo' _ b.lo
  have h2 := b.lo' _ a.lo
  have h3 := a.hi' _ b.hi
  have h4 := b.hi' _ a.hi
  exact ⟨a.m.trans b.m.symm, a.t.trans b.t.symm, by omega, by omega⟩
theorem rN_cons (p : Int × Int) (rs : List (Int × Int)) : rN (p :: rs) = p.2 + rN rs := by simp [rN, cnts]
theorem rT_cons (p : Int × Int) (rs : List (Int × Int)) : rT (p :: rs) = p.1 * p.2 + rT rs := by simp [rT, prds]
theorem rN_app (rs qs : List (Int × Int)) : rN (rs ++ qs) = rN rs + rN qs := by
  induction rs with
  | nil => simp [rN, cnts]
  | cons p r ih => rw [List.cons_append, rN_cons, rN_cons, ih]; omega
theorem rT_app (rs qs : List (Int × Int)) : rT (rs ++ qs) = rT rs + rT qs := by
  induction rs with
  | nil => simp [rT, prds]
  | cons p r ih => rw [List.cons_append, rT_cons, rT_cons, ih]; omega
theorem vals_app (rs qs : List (Int × Int)) : vals (rs ++ qs) = vals rs ++ vals qs := by simp [vals]
theorem HeapOf.app {rs qs : List (Int × Int)} {m t lo hi m' t' lo' hi' : Int} (a : HeapOf rs m t lo hi) (b : HeapOf qs m' t' lo' hi') : HeapOf (rs ++ qs) (m + m') (t + t') (if lo' < lo then lo' else lo) (if hi' > hi then hi' else hi) := by
  refine ⟨by rw [rN_app, a.m, b.m], by rw [rT_app, a.t, b.t], ?_, ?_, ?_, ?_⟩
  · rw [vals_app]
    split
    · exact List.mem_append_right _ b.lo
    · exact List.mem_append_left _ a.lo
  · intro x hx
    rw [vals_app] at hx
    rcases List.mem_append.mp hx with h | h
    · have := a.lo' x h
      split <;> omega
    · have := b.lo' x h
      split <;> omega
  · rw [vals_app]
    split
    · exact List.mem_append_right _ b.hi
    · exact List.mem_append_left _ a.hi
  · intro x hx
    rw [vals_app] at hx
    rcases List.mem_append.mp hx with h | h
    · have := a.hi' x h
      split <;> omega
    · have := b.hi' x h
      split <;> omega
theorem RunsOk.sub {rs qs : List (Int × Int)} (h : RunsOk rs) (s : ∀ p ∈ qs, p ∈ rs) : RunsOk qs := fun p hp => h p (s p hp)
def dTup (ns : List Int) : PyData := .tuple (ns.map PyData.int)
theorem lay_tup (ns : List Int) : (dTup ns).canLay0 = true := by simp [dTup, PyData.canLay0, lay_intsA]
theorem rep_tup {K : PySem.W.Frag} {H : Hp} {a : Addr} {ns : List Int} (h : H a = some (.tup (ns.map V.int))) : Rep K H (.ref a) (dTup ns) := .tup (SqT.of h) (reps_ints ns)
theorem Pairs.app {H : Hp} : ∀ {xs ys : List V} {ps qs : List (Int × Int)}, Pairs H xs ps → Pairs H ys qs → Pairs H (xs ++ ys) (ps ++ qs)
  | _, _, _, _, .nil, h => h
  | _, _, _, _, .cons r t, h => .cons r (Pairs.app t h)
theorem Pairs.take {H : Hp} : ∀ {xs : List V} {ps : List (Int × Int)} (k : Nat), Pairs H xs ps → Pairs H (xs.take k) (ps.take k)
  | _, _, 0, _ => by simp; exact .nil
  | _, _, k + 1, .nil => by simp; exact .nil
  | _, _, k + 1, .cons r t => .cons r (Pairs.take k t)
theorem cutFrom (xs : List V) (k : Nat) (h : k ≤ xs.length) : cutV xs (some (k : Int)) none = xs.drop k := by
  unfold cutV
  rw [HT.sIx_none, HT.sIx_nat, Nat.min_eq_left h]
  exact List.take_of_length_le (by simp)
theorem mapN' (f : Int × Int → Int) (rs : List (Int × Int)) {i : Nat} {p : Int × Int} (h : rs[i]? = some p) : ((rs.take (i + 1)).map f).map V.int = ((rs.take i).map f).map V.int ++ [V.int (f p)] := by
  rw [List.take_succ, h]
  simp
theorem lc_pairs {K : PySem.W.Frag} {l : Addr} {xs : List V} {rs : List (Int × Int)} {te : TE} {Q : VK} {σ : St} {H : Hp} (f : Int × Int → Int) (hl : H l = some (.lst xs)) (hp : Pairs H xs rs) (hz : rs.length ≤ 200)
    (hs : ∀ p ∈ rs, ∀ Q' : VK, Q' (.int (f p)) H → te ((σ.set 0 (some (.int p.1))).set 1 (some (.int p.2))) H Q')
    (hd : ∀ a H', New H H' a (.lst ((rs.map f).map V.int)) → Q (.ref a) H') : lcGoal (Itl K l) Q (gTup K 2 (gCons (gName 0) (gCons (gName 1) gNil))) tYes te σ H := by
  have hlen := hp.length
  refine lc_listN (xs := xs) (fun i ys H2 => H2 = H ∧ ys = ((rs.take i).map f).map V.int) (Nat.le_of_lt (small1000 (by omega))) ⟨rfl, rfl⟩ (fun i ys H2 h2 => ⟨SqL.of (by rw [h2.1]; exact hl), by rw [h2.2]; simp; omega⟩) ?_ ?_
  · rintro i x ys H2 hi ⟨rfl, rfl⟩
    obtain ⟨p, hpi, a, rfl, ha⟩ := hp.get hi
    refine ⟨a, _, rfl, SqT.of ha, rfl, _, _, rfl, _, _, rfl, rfl, yes_ (iteT ?_)⟩
    refine hs p (List.mem_of_getElem? hpi) _ ⟨rfl, ?_⟩
    rw [mapN' f rs hpi]
  · rintro ys H2 a H' ⟨rfl, rfl⟩ n
    rw [hlen, List.take_length] at n
    exact hd a H' n
theorem len3 {xs : List Int} (h : xs.length = 3) : ∃ a b c, xs = [a, b, c] := by
  match xs, h with
  | [a, b, c], _ => exact ⟨a, b, c, rfl⟩
def XB (x : Int) : Prop := 0 ≤ x ∧ x < 10 ^ 41
def sp_run : Sp := fun vs H Q _ => ∃ c k, vs = [.int c, .int k] ∧ 0 ≤ k ∧ k < 6 ∧ ∀ a p H', New H H' a (.tup [.int p.1, .int p.2]) → RunT p → Q (.ref a) H'
def sp_lheap : Sp := fun vs H Q _ => ∃ l xs rs, vs = [.ref l] ∧ H l = some (.lst xs) ∧ Pairs H xs rs ∧ RunsOk rs ∧ 1 ≤ rs.length ∧ rs.length ≤ 200 ∧ ∀ a m t lo hi H', HeapOf rs m t lo hi → New H H' a (.tup [.int m, .int t, .int lo, .int hi]) → Q (.ref a) H'
def sp_poured : Sp := fun vs H Q _ => ∃ a b m t lo hi m' t' lo' hi', vs = [.ref a, .ref b] ∧ H a = some (.tup [.int m, .int t, .int lo, .int hi]) ∧ H b = some (.tup [.int m', .int t', .int lo', .int hi']) ∧
  ∀ p H', New H H' p (.tup [.int (m + m'), .int (t + t'), .int (if lo' < lo then lo' else lo), .int (if hi' > hi then hi' else hi)]) → Q (.ref p) H'
end TB
namespace TB
open PySem L2
def rof (ru : Addr) (day : Int) (le dy dh : Addr) : List (Str × V) := putF "cell_heaps" (.ref dh) (putF "whole_ones" (.ref dy) (putF "kept_edges" (.ref le) (putF "kept_day" (.int day) (putF "kept_rule" (.ref ru) []))))
section
variable (ru : Addr) (day : Int) (le dy dh : Addr)
theorem rof_kr : (rof ru day le dy dh).lookup ("kept_rule" : Str) = some (.ref ru) := by
  unfold rof; rw [lookup_putF, if_neg (by decide +kernel), lookup_putF, if_neg (by decide +kernel), lookup_putF, if_neg (by decide +kernel), lookup_putF, if_neg (by decide +kernel), lookup_putF, if_pos rfl]
theorem rof_ke : (rof ru day le dy dh).lookup ("kept_edges" : Str) = some (.ref le) := by
  unfold rof; rw [lookup_putF, if_neg (by decide +kernel), lookup_putF, if_neg (by decide +kernel), lookup_putF, if_pos rfl]
theorem rof_wo : (rof ru day le dy dh).lookup ("whole_ones" : Str) = some (.ref dy) := by
  unfold rof; rw [lookup_putF, if_neg (by decide +kernel), lookup_putF, if_pos rfl]
theorem rof_ch : (rof ru day le dy dh).lookup ("cell_heaps" : Str) = some (.ref dh) := by
  unfold rof; rw [lookup_putF, if_pos rfl]
theorem rof_no {m : Str} (h1 : ¬ m = "cell_heaps") (h2 : ¬ m = "whole_ones") (h3 : ¬ m = "kept_edges") (h4 : ¬ m = "kept_day") (h5 : ¬ m = "kept_rule") : (rof ru day le dy dh).lookup m = none := by
  unfold rof; rw [lookup_putF, if_neg h1, lookup_putF, if_neg h2, lookup_putF, if_neg h3, lookup_putF, if_neg h4, lookup_putF, if_neg h5]; rfl
theorem rof_put : (rof ru day le dy dh).lookup ("put" : Str) = none := rof_no _ _ _ _ _ (by decide +kernel) (by decide +kernel) (by decide +kernel) (by decide +kernel) (by decide +kernel)
theorem rof_pour : (rof ru day le dy dh).lookup ("pour_into_cell" : Str) = none := rof_no _ _ _ _ _ (by decide +kernel) (by decide +kernel) (by decide +kernel) (by decide +kernel) (by decide +kernel)
theorem rof_edges : (rof ru day le dy dh).lookup ("edges" : Str) = none := rof_no _ _ _ _ _ (by decide +kernel) (by decide +kernel) (by decide +kernel) (by decide +kernel) (by decide +kernel)
theorem rof_young : (rof ru day le dy dh).lookup ("young" : Str) = none := rof_no _ _ _ _ _ (by decide +kernel) (by decide +kernel) (by decide +kernel) (by decide +kernel) (by decide +kernel)
theorem rof_heaps : (rof ru day le dy dh).lookup ("heaps" : Str) = none := rof_no _ _ _ _ _ (by decide +kernel) (by decide +kernel) (by decide +kernel) (by decide +kernel) (by decide +kernel)
end
abbrev KV := List (List Key × V)
structure RollD where
  ru : Addr
  rl : Addr
  le : Addr
  dy : Addr
  dh : Addr
  ps : List (Int × Int)
  g : Option Int
  day : Int
  es : List Int
  ge : Option Int
  Y : KV
  Z : KV
structure RollAt (C R : Addr) (H : Hp) (ro : Addr) (D : RollD) : Prop where
  ob : ∃ dx, H ro = some (.ins C dx (rof D.ru D.day D.le D.dy D.dh))
  rule : RuleAt R H D.ru D.rl D.ps D.g
  ed : H D.le = some (.lst (D.es.map V.int ++ [gv D.ge]))
  yo : H D.dy = some (.dT D.Y)
  he : H D.dh = some (.dT D.Z)
  ne : D.dy ≠ D.dh
theorem RollAt.same {C R : Addr} {H H' : Hp} {ro : Addr} {D : RollD} (s : Same H H') (h : RollAt C R H ro D) : RollAt C R H' ro D :=
  ⟨let ⟨dx, e⟩ := h.ob; ⟨dx, s _ _ e⟩, h.rule.same s, s _ _ h.ed, s _ _ h.yo, s _ _ h.he, h.ne⟩
theorem dT_nt {kvs : KV} : ∀ xs, HO.dT kvs ≠ .tup xs := fun _ z => by cases z
theorem RuleAt.but2 {C : Addr} {H H' : Hp} {r l a : Addr} {ps : List (Int × Int)} {g : Option Int} {o : HO} (h : RuleAt C H r l ps g) (b : But a H H') (ha : H a = some o) (nt : ∀ xs, o ≠ .tup xs) (nl : ∀ xs, o ≠ .lst xs) (hr : r ≠ a) : RuleAt C H' r l ps g := by
  obtain ⟨dx, e⟩ := h.ob
  obtain ⟨xs, e2, p⟩ := h.ls
  exact ⟨⟨dx, b _ _ e hr⟩, xs, b _ _ e2 (ne_of e2 ha (fun z => nl xs z.symm)), p.but b ha nt⟩
theorem RollAt.putY {C R : Addr} {H H' : Hp} {ro : Addr} {D : RollD} {Y' : KV} (A : RollAt C R H ro D) (b : But D.dy H H') (h : H' D.dy = some (.dT Y')) : RollAt C R H' ro { D with Y := Y' } := by
  obtain ⟨dx, e⟩ := A.ob
  obtain ⟨dx2, e2⟩ := A.rule.ob
  exact ⟨⟨dx, b _ _ e (ne_of e A.yo (by intro z; cases z))⟩, A.rule.but2 b A.yo dT_nt (by intro xs z; cases z) (ne_of e2 A.yo (by intro z; cases z)), b _ _ A.ed (ne_of A.ed A.yo (by intro z; cases z)), h, b _ _ A.he A.ne.symm, A.ne⟩
theorem RollAt.putZ {C R : Addr} {H H' : Hp} {ro : Addr} {D : RollD} {Z' : KV} (A : RollAt C R H ro D) (b : But D.dh H H') (h : H' D.dh = some (.dT Z')) : RollAt C R H' ro { D with Z := Z' } := by
  obtain ⟨dx, e⟩ := A.ob
  obtain ⟨dx2, e2⟩ := A.rule.ob
  exact ⟨⟨dx, b _ _ e (ne_of e A.he (by intro z; cases z))⟩, A.rule.but2 b A.he dT_nt (by intro xs z; cases z) (ne_of e2 A.he (by intro z; cases z)), b _ _ A.ed (ne_of A.ed A.he (by intro z; cases z)), b _ _ A.yo A.ne, h, A.ne⟩
def But2 (a b : Addr) (H H' : Hp) : Prop := ∀ c o, H c = some o → c ≠ a → c ≠ b → H' c = some o
structure RollOk (D : RollD) : Prop where
  pr : Pr D.ps D.g
  es : D.es.length = D.ps.length
def newD (ru rl le dy dh : Addr) (ps : List (Int × Int)) (g : Option Int) (day : Int) : RollD := ⟨ru, rl, le, dy, dh, ps, g, day, ps.map (fun p => cut day p.1 p.2), g.map (fun z => cut day z (lw ps)), [], []⟩
def YOk (Y : KV) : Prop := ∀ k x, valV Y k = some x → ∃ n, x = V.int n
def ZOk (H : Hp) (Z : KV) : Prop := ∀ k x, valV Z k = some x → ∃ (h : Addr) (m t lo hi : Int), x = .ref h ∧ H h = some (.tup [.int m, .int t, .int lo, .int hi])
theorem ZOk.same {H H' : Hp} {Z : KV} (s : Same H H') (h : ZOk H Z) : ZOk H' Z := fun k x e => by
  obtain ⟨a, m, t, lo, hi, e1, e2⟩ := h k x e
  exact ⟨a, m, t, lo, hi, e1, s _ _ e2⟩
def yv (Y : KV) (k : List Key) : Int := match valV Y k with
  | some (.int n) => n
  | _ => 0
def kk (a b : Int) : List Key := [.inl a, .inl b]
theorem yv_get {Y : KV} (h : YOk Y) (k : List Key) : (valV Y k).getD (V.int 0) = V.int (yv Y k) := by
  unfold yv
  cases e : valV Y k with
  | none => rfl
  | some x =>
    obtain ⟨n, rfl⟩ := h k x e
    rfl
def Poured (H : Hp) (Z : KV) (k : List Key) (v m a b lo hi : Int) : Prop :=
  (valV Z k = none ∧ HeapOf [(v, m)] a b lo hi) ∨ ∃ (h0 : Addr) (m0 t0 lo0 hi0 a' b' lo' hi' : Int), valV Z k = some (.ref h0) ∧ H h0 = some (.tup [.int m0, .int t0, .int lo0, .int hi0]) ∧ HeapOf [(v, m)] a' b' lo' hi' ∧ a = m0 + a' ∧ b = t0 + b' ∧ lo = (if lo' < lo0 then lo' else lo0) ∧ hi = (if hi' > hi0 then hi' else hi0)
def Puts (H H' : Hp) (D D' : RollD) (o : Option (Int × Int)) (t v m : Int) : Prop :=
  (o = none ∧ D' = D) ∨ (o = some (t, 0) ∧ D' = { D with Y := putK D.Y (kk t v) (.int (yv D.Y (kk t v) + m)) }) ∨
  ∃ (s w : Int) (h : Addr) (a b lo hi : Int), o = some (s, w) ∧ 1 ≤ w ∧ D' = { D with Z := putK D.Z (kk s w) (.ref h) } ∧ H' h = some (.tup [.int a, .int b, .int lo, .int hi]) ∧ Poured H D.Z (kk s w) v m a b lo hi
theorem CellOf.some_ {ws es : List Int} {ge : Option Int} {t : Int} {p : Int × Int} (h : CellOf ws es ge t (some p)) (hl : 1 ≤ es.length) (hw : ∀ w ∈ ws, 1 ≤ w) : p = (t, 0) ∨ 1 ≤ p.2 := by
  obtain ⟨h1, h2⟩ := h es[0] (List.getElem?_eq_getElem (by omega))
  by_cases c : es[0] ≤ t
  · exact .inl (Option.some.inj (h1 c))
  · obtain ⟨g1, g2⟩ := h2 (by omega)
    by_cases hg : goneB ge t
    · cases g1 hg
    · obtain ⟨w, e1, e2⟩ := g2 hg
      cases e2
      exact .inr (hw w (wl_mem (List.mem_of_getElem? e1)))
theorem Pr.w1 {ps : List (Int × Int)} {g : Option Int} (P : Pr ps g) {w : Int} (h : w ∈ ps.map (·.2)) : 1 ≤ w := by
  obtain ⟨p, hp, rfl⟩ := List.mem_map.mp h
  obtain ⟨i, hi, e⟩ := List.getElem_of_mem hp
  exact (P.size i p (by rw [← e]; exact List.getElem?_eq_getElem hi)).2.2.1
def RunB (p : Int × Int) : Prop := (-(10 ^ 45) < p.1 ∧ p.1 < 10 ^ 45) ∧ 1 ≤ p.2 ∧ p.2 < 10 ^ 45
def sp_heap_ofB : Sp := fun vs H Q _ => ∃ l xs rs, vs = [.ref l] ∧ H l = some (.lst xs) ∧ Pairs H xs rs ∧ (∀ p ∈ rs, RunB p) ∧ rs.length ≤ 200 ∧ (rs = [] → Q .non H) ∧ (rs ≠ [] → ∀ a m t lo hi H', HeapOf rs m t lo hi → New H H' a (.tup [.int m, .int t, .int lo, .int hi]) → Q (.ref a) H')
def sp_roll_init (C R : Addr) : Sp := fun vs H Q _ => ∃ (ro dx ru rl : Addr) (ps : List (Int × Int)) (g : Option Int) (day : Int), vs = [.ref ro, .ref ru, .int day] ∧ H ro = some (.ins C dx []) ∧ RuleAt R H ru rl ps g ∧ Pr ps g ∧ Bd day ∧
  ∀ le dy dh H', H le = none → H dy = none → H dh = none → RollAt C R H' ro (newD ru rl le dy dh ps g day) → But ro H H' → Q .non H'
def sp_rpour (C R : Addr) : Sp := fun vs H Q _ => ∃ (ro : Addr) (D : RollD) (c h : Addr) (s w v m a' b' lo' hi' : Int), vs = [.ref ro, .ref c, .ref h] ∧ RollAt C R H ro D ∧ H c = some (.tup [.int s, .int w]) ∧ H h = some (.tup [.int a', .int b', .int lo', .int hi']) ∧ HeapOf [(v, m)] a' b' lo' hi' ∧ ZOk H D.Z ∧ D.Z.length ≤ 900 ∧
  ∀ h2 a b lo hi H', H' h2 = some (.tup [.int a, .int b, .int lo, .int hi]) → Poured H D.Z (kk s w) v m a b lo hi → RollAt C R H' ro { D with Z := putK D.Z (kk s w) (.ref h2) } → But D.dh H H' → Q .non H'
def sp_redges (C R : Addr) : Sp := fun vs H Q _ => ∃ (ro : Addr) (D : RollD), vs = [.ref ro] ∧ RollAt C R H ro D ∧ ∀ p H', New H H' p (.lst (D.es.map V.int ++ [gv D.ge])) → Q (.ref p) H'
def TupAt (H : Hp) (v : V) (r : List Int) : Prop := ∃ a, v = .ref a ∧ H a = some (.tup (r.map V.int))
def Tups (H : Hp) (xs : List V) (rs : List (List Int)) : Prop := Paired (TupAt H) xs rs
theorem TupAt.same {H H' : Hp} (s : Same H H') {v : V} {r : List Int} : TupAt H v r → TupAt H' v r := fun ⟨a, e, h⟩ => ⟨a, e, s _ _ h⟩
theorem Tups.same {H H' : Hp} (s : Same H H') : ∀ {xs : List V} {rs : List (List Int)}, Tups H xs rs → Tups H' xs rs
  | _, _, .nil => .nil
  | _, _, .cons r t => .cons (r.same s) (Tups.same s t)
theorem Tups.length {H : Hp} : ∀ {xs : List V} {rs : List (List Int)}, Tups H xs rs → xs.length = rs.length
  | _, _, .nil => rfl
  | _, _, .cons _ t => by simp [Tups.length t]
theorem Tups.get {H : Hp} : ∀ {xs : List V} {rs : List (List Int)} {i : Nat} {x : V}, Tups H xs rs → xs[i]? = some x → ∃ r, rs[i]? = some r ∧ TupAt H x r
  | _, _, _, _, .nil, e => by simp at e
  | _, _, 0, _, .cons r _, e => by simp at e; subst e; exact ⟨_, rfl, r⟩
  | _, _, i + 1, x, .cons _ t, e => by
    obtain ⟨u, h1, h2⟩ := Tups.get (i := i) (x := x) t (by simpa using e)
    exact ⟨u, by simpa using h1, h2⟩
def dTups (rs : List (List Int)) : PyData := .list (rs.map dTup)
theorem lay_tupsA : ∀ rs : List (List Int), PyData.canLayAll0 (rs.map dTup) = true
  | [] => rfl
  | r :: t => by simp [PyData.canLayAll0, lay_tup, lay_tupsA t]
theorem lay_tups (rs : List (List Int)) : (dTups rs).canLay0 = true := by simp [dTups, PyData.canLay0, lay_tupsA]
theorem dep_tupsA : ∀ rs : List (List Int), PyData.depthAll (rs.map dTup) ≤ 1
  | [] => by simp [PyData.depthAll]
  | r :: t => by
    have := dep_tupsA t
    simp [PyData.depthAll, dTup, PyData.depth, dep_intsA]
    omega
theorem dep_tups (rs : List (List Int)) : (dTups rs).depth ≤ 20 := by
  have := dep_tupsA rs
  simp [dTups, PyData.depth]; omega
theorem Tups.reps {K : PySem.W.Frag} {H : Hp} : ∀ {xs : List V} {rs : List (List Int)}, Tups H xs rs → Reps K H xs (rs.map dTup)
  | _, _, .nil => .nil
  | _, _, .cons ⟨a, e, h⟩ t => by
    subst e
    exact .cons (rep_tup h) (Tups.reps t)
theorem Tups.rep {K : PySem.W.Frag} {H : Hp} {l : Addr} {xs : List V} {rs : List (List Int)} (h : H l = some (.lst xs)) (r : Tups H xs rs) : Rep K H (.ref l) (dTups rs) := .lst (SqL.of h) r.reps
end TB
namespace TB
open PySem L2
abbrev HP4 := Int × Int × Int × Int
structure Abs where
  y : List Int → Option Int
  z : List Int → Option HP4
def mg4 (a b : HP4) : HP4 := (a.1 + b.1, a.2.1 + b.2.1, (if b.2.2.1 < a.2.2.1 then b.2.2.1 else a.2.2.1), (if b.2.2.2 > a.2.2.2 then b.2.2.2 else a.2.2.2))
def one4 (v m : Int) : HP4 := (m, v * m, v, v)
def updA {α : Type} (f : List Int → Option α) (k : List Int) (x : α) : List Int → Option α := fun j => if j = k then some x else f j
theorem updA_same {α : Type} (f : List Int → Option α) (k : List Int) (x : α) : updA f k x k = some x := if_pos rfl
theorem updA_ne {α : Type} (f : List Int → Option α) {k j : List Int} (x : α) (h : j ≠ k) : updA f k x j = f j := if_neg h
def pour4 (o : Option HP4) (b : HP4) : HP4 := match o with
  | none => b
  | some a => mg4 a b
abbrev Rd3 := Int × Int × Int
def putA (cell : Int → Option (Int × Int)) (s : Abs) (r : Rd3) : Abs := match cell r.1 with
  | none => s
  | some (a, w) => if w = 0 then { s with y := updA s.y [r.1, r.2.1] ((s.y [r.1, r.2.1]).getD 0 + r.2.2) } else { s with z := updA s.z [a, w] (pour4 (s.z [a, w]) (one4 r.2.1 r.2.2)) }
def abs0 : Abs := ⟨fun _ => none, fun _ => none⟩
def absOf (cell : Int → Option (Int × Int)) (rs : List Rd3) : Abs := rs.foldl (putA cell) abs0
theorem absOf_snoc (cell : Int → Option (Int × Int)) (rs : List Rd3) (r : Rd3) : absOf cell (rs ++ [r]) = putA cell (absOf cell rs) r := by
  unfold absOf; rw [List.foldl_append]; rfl
structure SKeys {α : Type} (f : List Int → Option α) (ms : List (List Int)) : Prop where
  srt : ms.Pairwise (fun k l => blt k l = true)
  mem : ∀ k, k ∈ ms ↔ f k ≠ none
theorem blt_asym {k l : List Int} (h1 : blt k l = true) (h2 : blt l k = true) : False := by
  have := blt_tr k l k h1 h2
  rw [blt_irr] at this; cases this
theorem SKeys.uniq {α : Type} {f : List Int → Option α} {ms ms' : List (List Int)} (a : SKeys f ms) (b : SKeys f ms') : ms = ms' := by
  have nd : ∀ {l : List (List Int)}, l.Pairwise (fun k l => blt k l = true) → l.Nodup := fun h => h.imp fun {k l} hb e => by rw [e, blt_irr] at hb; cases hb
  refine List.Perm.eq_of_pairwise (le := fun k l => blt k l = true) (fun k l _ _ h1 h2 => (blt_asym h1 h2).elim) a.srt b.srt ?_
  rw [List.perm_ext_iff_of_nodup (nd a.srt) (nd b.srt)]
  intro k
  rw [a.mem, b.mem]
def kI (k : List Int) : List Key := k.map Sum.inl
theorem kI_inj {k l : List Int} (h : kI k = kI l) : k = l := by
  induction k generalizing l with
  | nil => cases l with
    | nil => rfl
    | cons _ _ => cases h
  | cons a r ih => cases l with
    | nil => cases h
    | cons b t =>
      unfold kI at h
      rw [List.map_cons, List.map_cons] at h
      injection h with h1 h2
      injection h1 with h1
      rw [h1, ih h2]
theorem kI_kV (k : List Int) : (kI k).map kV = k.map V.int := by
  unfold kI; rw [List.map_map]; rfl
theorem keys_put (kvs : KV) (k : List Key) (v : V) : (k ∈ kvs.map (·.1) → (putK kvs k v).map (·.1) = kvs.map (·.1)) ∧ (k ∉ kvs.map (·.1) → (putK kvs k v).map (·.1) = kvs.map (·.1) ++ [k]) := by
  unfold putK
  by_cases h : (kvs.any fun kv => decide (kv.1 = k)) = true
  · have hm : k ∈ kvs.map (·.1) := by
      obtain ⟨x, hx, e⟩ := List.any_eq_true.mp h
      exact List.mem_map.mpr ⟨x, hx, by simpa using e⟩
    refine ⟨fun _ => ?_, fun n => absurd hm n⟩
    rw [if_pos h, List.map_map]
    apply List.map_congr_left
    intro x hx
    show (if x.1 = k then (x.1, v) else x).1 = x.1
    split <;> rfl
  · have hm : k ∉ kvs.map (·.1) := fun hm => h (by
      obtain ⟨x, hx, e⟩ := List.mem_map.mp hm
      exact List.any_eq_true.mpr ⟨x, hx, by simpa using e⟩)
    refine ⟨fun n => absurd n hm, fun _ => ?_⟩
    rw [if_neg h, List.map_append]; rfl
theorem valV_mem {kvs : KV} {k : List Key} : valV kvs k ≠ none ↔ k ∈ kvs.map (·.1) := by
  unfold valV
  constructor
  · intro h
    cases e : kvs.find? fun kv => decide (kv.1 = k) with
    | none => rw [e] at h; exact absurd rfl h
    | some x =>
      have := List.find?_some e
      exact List.mem_map.mpr ⟨x, List.mem_of_find?_eq_some e, by simpa using this⟩
  · intro h z
    obtain ⟨x, hx, e⟩ := List.mem_map.mp h
    rw [Option.map_eq_none_iff, List.find?_eq_none] at z
    exact z x hx (by simpa using e)
structure DKeys (kvs : KV) (ks : List (List Int)) : Prop where
  eq : kvs.map (·.1) = ks.map kI
  nd : ks.Nodup
  ne : ∀ k ∈ ks, k.length = 2
theorem DKeys.nil : DKeys [] [] := ⟨rfl, .nil, fun k h => by cases h⟩
theorem DKeys.put {kvs : KV} {ks : List (List Int)} (h : DKeys kvs ks) (k : List Int) (hk : k.length = 2) (v : V) : ∃ ks', DKeys (putK kvs (kI k) v) ks' ∧ ∀ j, j ∈ ks' ↔ j ∈ ks ∨ j = k := by
  have hm : kI k ∈ kvs.map (·.1) ↔ k ∈ ks := by
    rw [h.eq]
    constructor
    · intro z
      obtain ⟨j, hj, e⟩ := List.mem_map.mp z
      rw [← kI_inj e]; exact hj
    · exact fun z => List.mem_map.mpr ⟨k, z, rfl⟩
  by_cases hin : k ∈ ks
  · refine ⟨ks, ⟨by rw [(keys_put _ _ _).1 (hm.mpr hin)]; exact h.eq, h.nd, h.ne⟩, fun j => ⟨.inl, fun z => z.elim id fun e => by rw [e]; exact hin⟩⟩
  · refine ⟨ks ++ [k], ⟨by rw [(keys_put _ _ _).2 (fun z => hin (hm.mp z)), h.eq, List.map_append]; rfl, ?_, ?_⟩, fun j => by simp⟩
    · rw [List.nodup_append]
      exact ⟨h.nd, List.pairwise_singleton _ _, fun a ha b hb e => by
        rw [List.mem_singleton.mp hb] at e
        exact hin (by rw [← e]; exact ha)⟩
    · intro j hj
      rcases List.mem_append.mp hj with z | z
      · exact h.ne j z
      · rw [List.mem_singleton.mp z]; exact hk
theorem DKeys.ne' {kvs : KV} {ks : List (List Int)} (h : DKeys kvs ks) : ∀ k ∈ ks, k ≠ [] := fun k hk z => by
  have := h.ne k hk
  rw [z] at this; cases this
theorem DKeys.mem {kvs : KV} {ks : List (List Int)} (h : DKeys kvs ks) (k : List Int) : k ∈ ks ↔ valV kvs (kI k) ≠ none := by
  rw [valV_mem, h.eq]
  constructor
  · exact fun z => List.mem_map.mpr ⟨k, z, rfl⟩
  · intro z
    obtain ⟨j, hj, e⟩ := List.mem_map.mp z
    rw [← kI_inj e]; exact hj
def v4 (h : HP4) : List V := [.int h.1, .int h.2.1, .int h.2.2.1, .int h.2.2.2]
structure RAbs (H : Hp) (D : RollD) (s : Abs) (LY LZ : List (List Int)) : Prop where
  yv : ∀ k, valV D.Y (kI k) = (s.y k).map V.int
  yk : ∃ ks, DKeys D.Y ks ∧ ks ⊆ LY
  zn : ∀ k, s.z k = none → valV D.Z (kI k) = none
  zs : ∀ k h, s.z k = some h → ∃ a, valV D.Z (kI k) = some (.ref a) ∧ H a = some (.tup (v4 h))
  zk : ∃ ks, DKeys D.Z ks ∧ ks ⊆ LZ
theorem RAbs.same {H H' : Hp} {D : RollD} {s : Abs} {LY LZ : List (List Int)} (e : Same H H') (h : RAbs H D s LY LZ) : RAbs H' D s LY LZ :=
  ⟨h.yv, h.yk, h.zn, fun k x q => (h.zs k x q).imp fun _ z => ⟨z.1, e _ _ z.2⟩, h.zk⟩
theorem RAbs.tups {H H' : Hp} {D : RollD} {s : Abs} {LY LZ : List (List Int)} (e : TupS H H') (h : RAbs H D s LY LZ) : RAbs H' D s LY LZ :=
  ⟨h.yv, h.yk, h.zn, fun k x q => (h.zs k x q).imp fun _ z => ⟨z.1, e _ _ z.2⟩, h.zk⟩
theorem RAbs.mono {H : Hp} {D : RollD} {s : Abs} {LY LZ LY' LZ' : List (List Int)} (h : RAbs H D s LY LZ) (a : LY ⊆ LY') (b : LZ ⊆ LZ') : RAbs H D s LY' LZ' :=
  ⟨h.yv, h.yk.imp fun _ z => ⟨z.1, fun _ y => a (z.2 y)⟩, h.zn, h.zs, h.zk.imp fun _ z => ⟨z.1, fun _ y => b (z.2 y)⟩⟩
theorem RAbs.zero {H : Hp} {D : RollD} {LY LZ : List (List Int)} (eY : D.Y = []) (eZ : D.Z = []) : RAbs H D abs0 LY LZ where
  yv := fun k => by rw [eY]; rfl
  yk := ⟨[], by rw [eY]; exact DKeys.nil, fun _ z => by cases z⟩
  zn := fun k _ => by rw [eZ]; rfl
  zs := fun k x z => by cases z
  zk := ⟨[], by rw [eZ]; exact DKeys.nil, fun _ z => by cases z⟩
theorem RAbs.yok {H : Hp} {D : RollD} {s : Abs} {LY LZ : List (List Int)} (h : RAbs H D s LY LZ) : ∀ k x, valV D.Y (kI k) = some x → ∃ n, x = V.int n := fun k x e => by
  rw [h.yv] at e
  cases e2 : s.y k with
  | none => rw [e2] at e; cases e
  | some n => rw [e2] at e; exact ⟨n, (Option.some.inj e).symm⟩
theorem dk_len {kvs : KV} {ks L : List (List Int)} (h : DKeys kvs ks) (hs : ks ⊆ L) : kvs.length ≤ L.length := by
  have := congrArg List.length h.eq
  rw [List.length_map, List.length_map] at this
  rw [this]
  exact List.Nodup.length_le_of_subset h.nd hs
end TB
namespace TB
open PySem L2
theorem heap_one {v m a b lo hi : Int} (h : HeapOf [(v, m)] a b lo hi) : a = m ∧ b = v * m ∧ lo = v ∧ hi = v := by
  refine ⟨by rw [h.m]; simp [rN, cnts], by rw [h.t]; simp [rT, prds], ?_, ?_⟩
  · have := h.lo; simpa [vals] using this
  · have := h.hi; simpa [vals] using this
theorem dk_key {kvs : KV} {ks : List (List Int)} (h : DKeys kvs ks) {k : List Key} {x : V} (e : valV kvs k = some x) : ∃ j, k = kI j := by
  have : k ∈ kvs.map (·.1) := valV_mem.mp (by rw [e]; simp)
  rw [h.eq] at this
  obtain ⟨j, _, e⟩ := List.mem_map.mp this
  exact ⟨j, e.symm⟩
theorem RAbs.YOk {H : Hp} {D : RollD} {s : Abs} {LY LZ : List (List Int)} (h : RAbs H D s LY LZ) : YOk D.Y := fun k x e => by
  obtain ⟨ks, d, _⟩ := h.yk
  obtain ⟨j, rfl⟩ := dk_key d e
  exact h.yok j x e
theorem RAbs.ZOk {H : Hp} {D : RollD} {s : Abs} {LY LZ : List (List Int)} (h : RAbs H D s LY LZ) : ZOk H D.Z := fun k x e => by
  obtain ⟨ks, d, _⟩ := h.zk
  obtain ⟨j, rfl⟩ := dk_key d e
  cases ez : s.z j with
  | none => rw [h.zn j ez] at e; cases e
  | some p =>
    obtain ⟨a, e1, e2⟩ := h.zs j p ez
    rw [e] at e1
    cases e1
    exact ⟨a, p.1, p.2.1, p.2.2.1, p.2.2.2, rfl, e2⟩
theorem RAbs.ylen {H : Hp} {D : RollD} {s : Abs} {LY LZ : List (List Int)} (h : RAbs H D s LY LZ) : D.Y.length ≤ LY.length := by
  obtain ⟨ks, d, e⟩ := h.yk; exact dk_len d e
theorem RAbs.zlen {H : Hp} {D : RollD} {s : Abs} {LY LZ : List (List Int)} (h : RAbs H D s LY LZ) : D.Z.length ≤ LZ.length := by
  obtain ⟨ks, d, e⟩ := h.zk; exact dk_len d e
def yKey (r : Rd3) : List Int := [r.1, r.2.1]
def zKey (cell : Int → Option (Int × Int)) (r : Rd3) : List Int := match cell r.1 with
  | none => []
  | some (a, w) => [a, w]
theorem RAbs.put {H H' : Hp} {D D' : RollD} {o : Option (Int × Int)} {t v m : Int} {s : Abs} {LY LZ : List (List Int)} {cell : Int → Option (Int × Int)} (h : RAbs H D s LY LZ) (hp : Puts H H' D D' o t v m) (eo : cell t = o) (ts : TupS H H')
    (hy : [t, v] ∈ LY) (hz : ∀ a w, o = some (a, w) → [a, w] ∈ LZ) : RAbs H' D' (putA cell s (t, v, m)) LY LZ := by
  have h2 := h.tups ts
  unfold putA
  dsimp only
  rcases hp with ⟨rfl, rfl⟩ | ⟨rfl, rfl⟩ | ⟨a, w, b, m1, t1, lo1, hi1, rfl, hw, rfl, hb, po⟩
  · rw [eo]; exact h2
  · rw [eo]
    dsimp only
    rw [if_pos rfl]
    have ey : TB.yv D.Y (kk t v) = (s.y [t, v]).getD 0 := by
      unfold TB.yv
      have := h.yv [t, v]
      rw [show kk t v = kI [t, v] from rfl, this]
      cases s.y [t, v] <;> rfl
    refine ⟨fun k => ?_, ?_, h2.zn, h2.zs, h2.zk⟩
    · show valV (putK D.Y (kI [t, v]) _) (kI k) = (updA s.y [t, v] ((s.y [t, v]).getD 0 + m) k).map V.int
      rw [valV_put, ey]
      by_cases hk : k = [t, v]
      · subst hk; rw [if_pos rfl, updA_same]; rfl
      · rw [if_neg (fun z => hk (kI_inj z)), updA_ne _ _ hk]; exact h.yv k
    · obtain ⟨ks, d, e⟩ := h.yk
      obtain ⟨ks', d', e'⟩ := d.put [t, v] rfl (V.int (TB.yv D.Y (kk t v) + m))
      exact ⟨ks', d', fun j hj => (e' j).mp hj |>.elim (fun z => e z) fun z => by rw [z]; exact hy⟩
  · rw [eo]
    dsimp only
    rw [if_neg (by omega)]
    have ev : (m1, t1, lo1, hi1) = pour4 (s.z [a, w]) (one4 v m) := by
      rcases po with ⟨p1, p2⟩ | ⟨h0, m0, t0, lo0, hi0, a', b', lo', hi', p1, p2, p3, rfl, rfl, rfl, rfl⟩
      · obtain ⟨rfl, rfl, rfl, rfl⟩ := heap_one p2
        cases ez : s.z [a, w] with
        | none => rfl
        | some q =>
          obtain ⟨_, e1, _⟩ := h.zs _ q ez
          rw [show kk a w = kI [a, w] from rfl, e1] at p1; cases p1
      · obtain ⟨rfl, rfl, rfl, rfl⟩ := heap_one p3
        cases ez : s.z [a, w] with
        | none =>
          have := h.zn _ ez
          rw [show kk a w = kI [a, w] from rfl, this] at p1; cases p1
        | some q =>
          obtain ⟨_, e1, e2⟩ := h.zs _ q ez
          rw [show kk a w = kI [a, w] from rfl, e1] at p1
          cases p1
          rw [p2] at e2
          have e3 : [V.int m0, V.int t0, V.int lo0, V.int hi0] = v4 q := by injection e2 with e2; injection e2
          unfold v4 at e3
          injection e3 with c1 e3
          injection e3 with c2 e3
          injection e3 with c3 e3
          injection e3 with c4 e3
          injection c1 with c1
          injection c2 with c2
          injection c3 with c3
          injection c4 with c4
          subst c1 c2 c3 c4
          rfl
    have hb' : H' b = some (.tup (v4 (pour4 (s.z [a, w]) (one4 v m)))) := by rw [← ev]; exact hb
    refine ⟨h2.yv, h2.yk, fun k hk => ?_, fun k q hk => ?_, ?_⟩
    · have hk : updA s.z [a, w] (pour4 (s.z [a, w]) (one4 v m)) k = none := hk
      show valV (putK D.Z (kI [a, w]) _) (kI k) = _
      rw [valV_put]
      by_cases hk2 : k = [a, w]
      · subst hk2; rw [updA_same] at hk; cases hk
      · rw [if_neg (fun z => hk2 (kI_inj z))]
        rw [updA_ne _ _ hk2] at hk
        exact h.zn k hk
    · have hk : updA s.z [a, w] (pour4 (s.z [a, w]) (one4 v m)) k = some q := hk
      show ∃ c, valV (putK D.Z (kI [a, w]) (.ref b)) (kI k) = some (.ref c) ∧ _
      rw [valV_put]
      by_cases hk2 : k = [a, w]
      · subst hk2
        rw [updA_same] at hk
        cases hk
        exact ⟨b, if_pos rfl, hb'⟩
      · rw [updA_ne _ _ hk2] at hk
        rw [if_neg (fun z => hk2 (kI_inj z))]
        exact h2.zs k q hk
    · obtain ⟨ks, d, e⟩ := h.zk
      obtain ⟨ks', d', e'⟩ := d.put [a, w] rfl (V.ref b)
      exact ⟨ks', d', fun j hj => (e' j).mp hj |>.elim (fun z => e z) fun z => by rw [z]; exact hz a w rfl⟩
def sp_rput2 (C R : Addr) : Sp := fun vs H Q _ => ∃ (ro : Addr) (D : RollD) (t v m : Int), vs = [.ref ro, .int t, .int v, .int m] ∧ RollAt C R H ro D ∧ RollOk D ∧ TB46 t ∧ 1 ≤ m ∧ RunB (v, m) ∧ TB.YOk D.Y ∧ TB.ZOk H D.Z ∧ D.Y.length ≤ 900 ∧ D.Z.length ≤ 900 ∧
  ∀ o, CellOf (D.ps.map (·.2)) D.es D.ge t o → ∀ D' H', Puts H H' D D' o t v m → RollAt C R H' ro D' → But2 D.dy D.dh H H' → Q (.bl o.isSome) H'
def yRow (s : Abs) (k : List Int) : List Int := k ++ [(s.y k).getD 0]
def i4 (h : HP4) : List Int := [h.1, h.2.1, h.2.2.1, h.2.2.2]
def zRow (s : Abs) (k : List Int) : List Int := k ++ i4 ((s.z k).getD (0, 0, 0, 0))
def sp_ryoung (C R : Addr) : Sp := fun vs H Q _ => ∃ (ro : Addr) (D : RollD) (s : Abs) (LY LZ : List (List Int)), vs = [.ref ro] ∧ RollAt C R H ro D ∧ RAbs H D s LY LZ ∧ LY.length < 64 ∧ ∀ l xs ms H', Same H H' → H l = none → H' l = some (.lst xs) → SKeys s.y ms → ms.length < 64 → Tups H' xs (ms.map (yRow s)) → Q (.ref l) H'
def sp_rheaps (C R : Addr) : Sp := fun vs H Q _ => ∃ (ro : Addr) (D : RollD) (s : Abs) (LY LZ : List (List Int)), vs = [.ref ro] ∧ RollAt C R H ro D ∧ RAbs H D s LY LZ ∧ LZ.length < 64 ∧ ∀ l xs ms H', Same H H' → H l = none → H' l = some (.lst xs) → SKeys s.z ms → ms.length < 64 → Tups H' xs (ms.map (zRow s)) → Q (.ref l) H'
theorem Tups.snoc {H : Hp} {v : V} {r : List Int} (h : TupAt H v r) : ∀ {xs : List V} {rs : List (List Int)}, Tups H xs rs → Tups H (xs ++ [v]) (rs ++ [r])
  | _, _, .nil => .cons h .nil
  | _, _, .cons q t => .cons q (Tups.snoc h t)
theorem SKeys.ofD {kvs : KV} {ks ms : List (List Int)} {α : Type} {f : List Int → Option α} (d : DKeys kvs ks) (hf : ∀ k, valV kvs (kI k) ≠ none ↔ f k ≠ none) (p : ms.Perm ks) (hs : ms.Pairwise (fun k l => blt k l = true)) : SKeys f ms :=
  ⟨hs, fun k => by rw [p.mem_iff, d.mem, hf]⟩
end TB
namespace TB
open PySem L2
def l3 (r : Rd3) : List Int := [r.1, r.2.1, r.2.2]
open Classical in
noncomputable def cellF (ws es : List Int) (ge : Option Int) (t : Int) : Option (Int × Int) := if h : ∃ o, CellOf ws es ge t o then h.choose else none
theorem cellF_eq {ws es : List Int} {ge : Option Int} {t : Int} {o : Option (Int × Int)} (hl : 1 ≤ es.length) (h : CellOf ws es ge t o) : cellF ws es ge t = o := by
  have hx : ∃ o, CellOf ws es ge t o := ⟨o, h⟩
  unfold cellF
  rw [dif_pos hx]
  exact CellOf.uniq (e0 := es[0]) (List.getElem?_eq_getElem (by omega)) hx.choose_spec h
def dd (Y Z : KV) : RollD := ⟨0, 0, 0, 0, 0, [], none, 0, [], none, Y, Z⟩
def LA (H : Hp) (dY dZ : Addr) (s : Abs) (LY LZ : List (List Int)) : Prop := ∃ Y Z, H dY = some (.dT Y) ∧ H dZ = some (.dT Z) ∧ RAbs H (dd Y Z) s LY LZ
theorem LA.same {H H' : Hp} {dY dZ : Addr} {s : Abs} {LY LZ : List (List Int)} (e : Same H H') (h : LA H dY dZ s LY LZ) : LA H' dY dZ s LY LZ :=
  let ⟨Y, Z, a, b, c⟩ := h; ⟨Y, Z, e _ _ a, e _ _ b, c.same e⟩
theorem blt_app : ∀ {k l : List Int} (a b : List Int), k.length = l.length → blt k l = true → blt (k ++ a) (l ++ b) = true
  | [], [], _, _, _, h => by rw [blt_irr] at h; cases h
  | [], _ :: _, _, _, e, _ => by simp at e
  | _ :: _, [], _, _, e, _ => by simp at e
  | x :: k, y :: l, a, b, e, h => by
    have e' : k.length = l.length := by simpa using e
    rw [List.cons_append, List.cons_append]
    unfold blt at h ⊢
    by_cases h1 : x = y
    · subst h1
      rw [if_pos rfl] at h ⊢
      exact blt_app a b e' h
    · rw [if_neg h1] at h ⊢
      exact h
theorem sort_rows {ms ks : List (List Int)} {R : List (List Int)} (f : List Int → List Int) (hf : ∀ k, ∃ t, f k = k ++ t) (hk : ∀ k ∈ ms, k.length = 2) (sm : ms.Pairwise fun k l => blt k l = true) (pm : ms.Perm ks) (pR : R.Perm (ks.map f)) (sR : R.Pairwise fun k l => blt k l = true) : R = ms.map f := by
  have s2 : (ms.map f).Pairwise fun k l => blt k l = true := by
    rw [List.pairwise_map]
    refine sm.imp_of_mem fun {k l} h1 h2 hb => ?_
    obtain ⟨t, e1⟩ := hf k
    obtain ⟨u, e2⟩ := hf l
    rw [e1, e2]
    exact blt_app _ _ ((hk k h1).trans (hk l h2).symm) hb
  exact List.Perm.eq_of_pairwise (le := fun k l => blt k l = true) (fun k l _ _ h1 h2 => (blt_asym h1 h2).elim) sR s2 (pR.trans (pm.map f).symm)
end TB
namespace TB
open PySem L2
def RR (C R : Addr) (H : Hp) (ro : Addr) (c : RollD) (s : Abs) (LY LZ : List (List Int)) : Prop :=
  ∃ Y Z, RollAt C R H ro { c with Y := Y, Z := Z } ∧ RAbs H { c with Y := Y, Z := Z } s LY LZ
theorem RR.same {C R : Addr} {H H' : Hp} {ro : Addr} {c : RollD} {s : Abs} {LY LZ : List (List Int)} (e : Same H H') (h : RR C R H ro c s LY LZ) : RR C R H' ro c s LY LZ :=
  let ⟨Y, Z, a, b⟩ := h; ⟨Y, Z, a.same e, b.same e⟩
theorem But2.tups {H H' : Hp} {a b : Addr} {Y Z : KV} (h : But2 a b H H') (ha : H a = some (.dT Y)) (hb : H b = some (.dT Z)) : TupS H H' := fun x xs e =>
  h x _ e (ne_of e ha (by intro z; cases z)) (ne_of e hb (by intro z; cases z))
theorem But2.keep {H H' : Hp} {a b : Addr} {Y Z : KV} (h : But2 a b H H') (ha : H a = some (.dT Y)) (hb : H b = some (.dT Z)) {x : Addr} {o : HO} (e : H x = some o) (n : ∀ K, o ≠ .dT K) : H' x = some o :=
  h x _ e (ne_of e ha (n _)) (ne_of e hb (n _))
theorem But2.trans {H H1 H2 : Hp} {a b : Addr} (h : But2 a b H H1) (h2 : But2 a b H1 H2) : But2 a b H H2 := fun x o e n m => h2 x o (h x o e n m) n m
theorem But2.refl (a b : Addr) (H : Hp) : But2 a b H H := fun _ _ e _ _ => e
theorem Same.but2 {H H' : Hp} (s : Same H H') (a b : Addr) : But2 a b H H' := fun x o e _ _ => s x o e
theorem RuleAt.keep2 {C : Addr} {H H' : Hp} {r l a b : Addr} {ps : List (Int × Int)} {g : Option Int} {Y Z : KV} (h : RuleAt C H r l ps g) (e : But2 a b H H') (ha : H a = some (.dT Y)) (hb : H b = some (.dT Z)) : RuleAt C H' r l ps g := by
  obtain ⟨dx, e1⟩ := h.ob
  obtain ⟨xs, e2, p⟩ := h.ls
  exact ⟨⟨dx, e.keep ha hb e1 (by intro K z; cases z)⟩, xs, e.keep ha hb e2 (by intro K z; cases z), p.tupS (e.tups ha hb)⟩
theorem RR.frame {C R : Addr} {H H' : Hp} {ro : Addr} {c : RollD} {s : Abs} {LY LZ : List (List Int)} {a b : Addr} {Y Z : KV} (h : RR C R H ro c s LY LZ) (e : But2 a b H H') (ha : H a = some (.dT Y)) (hb : H b = some (.dT Z))
    (n1 : c.dy ≠ a) (n2 : c.dy ≠ b) (n3 : c.dh ≠ a) (n4 : c.dh ≠ b) : RR C R H' ro c s LY LZ := by
  obtain ⟨Y', Z', A, B⟩ := h
  obtain ⟨dx, e1⟩ := A.ob
  exact ⟨Y', Z', ⟨⟨dx, e.keep ha hb e1 (by intro K z; cases z)⟩, A.rule.keep2 e ha hb, e.keep ha hb A.ed (by intro K z; cases z), e _ _ A.yo n1 n2, e _ _ A.he n3 n4, A.ne⟩, B.tups (e.tups ha hb)⟩
theorem RR.dicts {C R : Addr} {H : Hp} {ro : Addr} {c : RollD} {s : Abs} {LY LZ : List (List Int)} (h : RR C R H ro c s LY LZ) : (∃ Y, H c.dy = some (.dT Y)) ∧ ∃ Z, H c.dh = some (.dT Z) :=
  let ⟨_, _, A, _⟩ := h; ⟨⟨_, A.yo⟩, ⟨_, A.he⟩⟩
theorem RR.obj {C R : Addr} {H : Hp} {ro : Addr} {c : RollD} {s : Abs} {LY LZ : List (List Int)} (h : RR C R H ro c s LY LZ) : ∃ dx, H ro = some (.ins C dx (rof c.ru c.day c.le c.dy c.dh)) :=
  let ⟨_, _, A, _⟩ := h; A.ob
noncomputable abbrev cellD (c : RollD) : Int → Option (Int × Int) := cellF (c.ps.map (·.2)) c.es c.ge
theorem RR.put {C R : Addr} {H : Hp} {ro : Addr} {c : RollD} {s : Abs} {LY LZ : List (List Int)} {t v m : Int} {Q : VK} {E : XK} (h : RR C R H ro c s LY LZ) (ok : RollOk c) (hr : TB46 t) (h1 : 1 ≤ m) (hb : RunB (v, m)) (ly : LY.length < 64) (lz : LZ.length < 64)
    (hy : [t, v] ∈ LY) (hz : ∀ a w, cellD c t = some (a, w) → [a, w] ∈ LZ)
    (q : ∀ H', RR C R H' ro c (putA (cellD c) s (t, v, m)) LY LZ → But2 c.dy c.dh H H' → Q (.bl (cellD c t).isSome) H') : sp_rput2 C R [.ref ro, .int t, .int v, .int m] H Q E := by
  obtain ⟨Y, Z, A, B⟩ := h
  have hes : 1 ≤ c.es.length := by rw [ok.es]; exact ok.pr.good.lo
  refine ⟨ro, _, t, v, m, rfl, A, ⟨ok.pr, ok.es⟩, hr, h1, hb, B.YOk, B.ZOk, Nat.le_trans B.ylen (by omega), Nat.le_trans B.zlen (by omega), fun o hc D' H' pu A' b' => ?_⟩
  have eo : cellD c t = o := cellF_eq hes hc
  rw [← eo]
  have B' := B.put pu eo (b'.tups A.yo A.he) hy (fun a w e => hz a w (eo.trans e))
  refine q H' ?_ b'
  rcases pu with ⟨_, rfl⟩ | ⟨_, rfl⟩ | ⟨_, _, _, _, _, _, _, _, _, rfl, _, _⟩
  · exact ⟨Y, Z, A', B'⟩
  · exact ⟨_, Z, A', B'⟩
  · exact ⟨Y, _, A', B'⟩
open Classical in
noncomputable def yRows (s : Abs) : List (List Int) := if h : ∃ ms, SKeys s.y ms then h.choose.map (yRow s) else []
open Classical in
noncomputable def zRows (s : Abs) : List (List Int) := if h : ∃ ms, SKeys s.z ms then h.choose.map (zRow s) else []
theorem yRows_eq {s : Abs} {ms : List (List Int)} (h : SKeys s.y ms) : ms.map (yRow s) = yRows s := by
  have hx : ∃ ms, SKeys s.y ms := ⟨ms, h⟩
  unfold yRows
  rw [dif_pos hx, SKeys.uniq h hx.choose_spec]
theorem zRows_eq {s : Abs} {ms : List (List Int)} (h : SKeys s.z ms) : ms.map (zRow s) = zRows s := by
  have hx : ∃ ms, SKeys s.z ms := ⟨ms, h⟩
  unfold zRows
  rw [dif_pos hx, SKeys.uniq h hx.choose_spec]
def RowsOk (rs : List (List Int)) : Prop := rs.length ≤ 900 ∧ ∀ r ∈ rs, r.length ≤ 10
theorem RR.young {C R : Addr} {H : Hp} {ro : Addr} {c : RollD} {s : Abs} {LY LZ : List (List Int)} {Q : VK} {E : XK} (h : RR C R H ro c s LY LZ) (ly : LY.length < 64)
    (q : ∀ l xs H', Same H H' → H l = none → H' l = some (.lst xs) → Tups H' xs (yRows s) → RowsOk (yRows s) → Q (.ref l) H') : sp_ryoung C R [.ref ro] H Q E := by
  obtain ⟨Y, Z, A, B⟩ := h
  refine ⟨ro, _, s, LY, LZ, rfl, A, B, ly, fun l xs ms H' e f hl sk hm tu => ?_⟩
  rw [yRows_eq sk] at tu
  refine q l xs H' e f hl tu ?_
  rw [← yRows_eq sk]
  obtain ⟨ks, dk, _⟩ := B.yk
  refine ⟨by rw [List.length_map]; omega, fun r hr => ?_⟩
  obtain ⟨k, hk, rfl⟩ := List.mem_map.mp hr
  have : k ∈ ks := (dk.mem k).mpr (by rw [B.yv]; have := (sk.mem k).mp hk; cases z : s.y k with | none => exact absurd z this | some _ => simp)
  have := dk.ne k this
  unfold yRow
  rw [List.length_append, this]; simp
theorem RR.heaps {C R : Addr} {H : Hp} {ro : Addr} {c : RollD} {s : Abs} {LY LZ : List (List Int)} {Q : VK} {E : XK} (h : RR C R H ro c s LY LZ) (lz : LZ.length < 64)
    (q : ∀ l xs H', Same H H' → H l = none → H' l = some (.lst xs) → Tups H' xs (zRows s) → RowsOk (zRows s) → Q (.ref l) H') : sp_rheaps C R [.ref ro] H Q E := by
  obtain ⟨Y, Z, A, B⟩ := h
  refine ⟨ro, _, s, LY, LZ, rfl, A, B, lz, fun l xs ms H' e f hl sk hm tu => ?_⟩
  rw [zRows_eq sk] at tu
  refine q l xs H' e f hl tu ?_
  rw [← zRows_eq sk]
  obtain ⟨ks, dk, _⟩ := B.zk
  refine ⟨by rw [List.length_map]; omega, fun r hr => ?_⟩
  obtain ⟨k, hk, rfl⟩ := List.mem_map.mp hr
  have : k ∈ ks := (dk.mem k).mpr (by
    have := (sk.mem k).mp hk
    cases z : s.z k with
    | none => exact absurd z this
    | some h4 => obtain ⟨a, e1, _⟩ := B.zs k h4 z; rw [e1]; simp)
  have := dk.ne k this
  unfold zRow i4
  rw [List.length_append, this]; simp
def dTwo (a b : List (List Int)) : PyData := .tuple [dTups a, dTups b]
theorem lay_two (a b : List (List Int)) : (dTwo a b).canLay0 = true := by simp [dTwo, PyData.canLay0, PyData.canLayAll0, lay_tups]
theorem dep_two (a b : List (List Int)) : (dTwo a b).depth ≤ 20 := by
  have := dep_tupsA a
  have := dep_tupsA b
  simp [dTwo, dTups, PyData.depth, PyData.depthAll]; omega
theorem rep_two {K : PySem.W.Frag} {H : Hp} {t l1 l2 : Addr} {xs ys : List V} {a b : List (List Int)} (h : H t = some (.tup [.ref l1, .ref l2])) (h1 : H l1 = some (.lst xs)) (t1 : Tups H xs a) (h2 : H l2 = some (.lst ys)) (t2 : Tups H ys b) : Rep K H (.ref t) (dTwo a b) :=
  .tup (SqT.of h) (.cons (t1.rep h1) (.cons (t2.rep h2) .nil))
theorem Tups.tupS {H H' : Hp} (s : TupS H H') : ∀ {xs : List V} {rs : List (List Int)}, Tups H xs rs → Tups H' xs rs
  | _, _, .nil => .nil
  | _, _, .cons ⟨a, e, h⟩ t => .cons ⟨a, e, s _ _ h⟩ (Tups.tupS s t)
end TB
namespace TB
open PySem L2
structure Fall (ws es : List Int) (ge : Option Int) : Prop where
  len : ws.length = es.length
  pos : ∀ (i : Nat) w, ws[i]? = some w → 1 ≤ w
  dv : ∀ (i j : Nat) a b, i ≤ j → ws[i]? = some a → ws[j]? = some b → a ∣ b
  ml : ∀ (i : Nat) w e, ws[i]? = some w → es[i]? = some e → w ∣ e
  gl : ∀ (i : Nat) w z, ws[i]? = some w → ge = some z → w ∣ z
  dn : ∀ (i j : Nat) a b, i ≤ j → es[i]? = some a → es[j]? = some b → b ≤ a
structure StepAt (ws es : List Int) (t : Int) (i : Nat) (w e : Int) : Prop where
  gw : ws[i]? = some w
  ge : es[i]? = some e
  lt : t < e
  nx : ∀ e', es[i + 1]? = some e' → e' ≤ t
theorem wl_no {ws es : List Int} {t : Int} (h : ∀ x ∈ es, x ≤ t) : wl ws es t = [] := by
  unfold wl
  rw [List.filter_eq_nil_iff.mpr, List.map_nil]
  intro x hx
  have := h x.2 (List.of_mem_zip hx).2
  simp; omega
theorem step_last : ∀ {i : Nat} {ws es : List Int} {t w e : Int}, (∀ (i j : Nat) a b, i ≤ j → es[i]? = some a → es[j]? = some b → b ≤ a) → StepAt ws es t i w e → (wl ws es t).getLast? = some w
  | 0, ws, es, t, w, e, F, S => by
    cases ws with
    | nil => have := S.gw; simp at this
    | cons w1 wr =>
      cases es with
      | nil => have := S.ge; simp at this
      | cons e1 er =>
        have ew := S.gw; have ee := S.ge
        simp at ew ee
        subst ew; subst ee
        have hr : ∀ x ∈ er, x ≤ t := fun x hx => by
          obtain ⟨k, hk, rfl⟩ := List.getElem_of_mem hx
          have h0 : 0 < er.length := by omega
          have a := S.nx er[0] (by simp [h0])
          have b := F 1 (k + 1) er[0] er[k] (by omega) (by simp [h0]) (by simp [hk])
          omega
        have e1 : wl (w1 :: wr) (e1 :: er) t = w1 :: wl wr er t := by
          unfold wl
          rw [List.zip_cons_cons, List.filter_cons_of_pos (by simpa using S.lt)]; rfl
        rw [e1, wl_no hr]; rfl
  | i + 1, ws, es, t, w, e, F, S => by
    cases ws with
    | nil => have := S.gw; simp at this
    | cons w1 wr =>
      cases es with
      | nil => have := S.ge; simp at this
      | cons e1 er =>
        have S' : StepAt wr er t i w e := ⟨by simpa using S.gw, by simpa using S.ge, S.lt, fun e' h => S.nx e' (by simpa using h)⟩
        have ih := step_last (fun a b x y h h1 h2 => F (a + 1) (b + 1) x y (by omega) (by simpa using h1) (by simpa using h2)) S'
        have hlt : t < e1 := by
          have := F 0 (i + 1) e1 e (by omega) (by simp) S.ge
          have := S.lt
          omega
        have e2 : wl (w1 :: wr) (e1 :: er) t = w1 :: wl wr er t := by
          unfold wl
          rw [List.zip_cons_cons, List.filter_cons_of_pos (by simpa using hlt)]; rfl
        rw [e2, List.getLast?_cons, ih]; rfl
theorem step_ex : ∀ {es ws : List Int} {t e0 : Int}, ws.length = es.length → es[0]? = some e0 → t < e0 → ∃ i w e, StepAt ws es t i w e
  | [], ws, t, e0, _, h, _ => by simp at h
  | e1 :: er, [], t, e0, hl, _, _ => by simp at hl
  | e1 :: er, w1 :: wr, t, e0, hl, h, hlt => by
    simp at h
    subst h
    by_cases hc : ∃ e2, er[0]? = some e2 ∧ t < e2
    · obtain ⟨e2, he2, h2⟩ := hc
      obtain ⟨i, w, e, S⟩ := step_ex (es := er) (ws := wr) (by simpa using hl) he2 h2
      exact ⟨i + 1, w, e, by simpa using S.gw, by simpa using S.ge, S.lt, fun e' h => S.nx e' (by simpa using h)⟩
    · refine ⟨0, w1, e1, by simp, by simp, hlt, fun e' h => ?_⟩
      have h' : er[0]? = some e' := by simpa using h
      by_cases z : t < e'
      · exact absurd ⟨e', h', z⟩ hc
      · omega
theorem dvd_lt {w t e : Int} (hw : 1 ≤ w) (hd : w ∣ e) (h : t < e) : t / w * w + w ≤ e := by
  obtain ⟨k, rfl⟩ := hd
  have h1 : t / w < k := Int.ediv_lt_of_lt_mul (by omega) (by rwa [Int.mul_comm] at h)
  have h2 := Int.mul_le_mul_of_nonneg_left (show t / w + 1 ≤ k by omega) (show 0 ≤ w by omega)
  rw [Int.mul_add, Int.mul_one, Int.mul_comm w (t / w)] at h2
  exact h2
theorem dvd_le {w t e : Int} (hw : 1 ≤ w) (hd : w ∣ e) (h : e ≤ t) : e ≤ t / w * w := by
  obtain ⟨k, rfl⟩ := hd
  have h1 : k ≤ t / w := (Int.le_ediv_iff_mul_le (by omega)).mpr (by rwa [Int.mul_comm] at h)
  have h2 := Int.mul_le_mul_of_nonneg_left h1 (show 0 ≤ w by omega)
  rw [Int.mul_comm w (t / w)] at h2
  exact h2
theorem fl_le {w : Int} (t : Int) (hw : 1 ≤ w) : t / w * w ≤ t ∧ t < t / w * w + w := by
  have a := Int.mul_ediv_add_emod t w
  have b := Int.emod_nonneg t (show w ≠ 0 by omega)
  have c := Int.emod_lt_of_pos t (show 0 < w by omega)
  rw [Int.mul_comm] at a
  omega
theorem fl_dvd (t w : Int) : w ∣ t / w * w := ⟨t / w, Int.mul_comm _ _⟩
theorem fl_of {w s x : Int} (hw : 1 ≤ w) (hd : w ∣ x) (h1 : x ≤ s) (h2 : s < x + w) : s / w * w = x := by
  have a := dvd_le hw hd h1
  have b := fl_le s hw
  obtain ⟨k, rfl⟩ := hd
  have c := dvd_lt hw (show w ∣ w * (k + 1) from ⟨k + 1, rfl⟩) (show s < w * (k + 1) by rw [Int.mul_add, Int.mul_one]; exact h2)
  rw [Int.mul_add, Int.mul_one] at c
  omega
theorem StepAt.cell {ws es : List Int} {ge : Option Int} {t s w e : Int} {i : Nat} (F : Fall ws es ge) (S : StepAt ws es t i w e) (h1 : t / w * w ≤ s) (h2 : s < t / w * w + w) : StepAt ws es s i w e ∧ (goneB ge s ↔ goneB ge t) ∧ s / w * w = t / w * w := by
  have hw := F.pos i w S.gw
  refine ⟨⟨S.gw, S.ge, ?_, fun e' he' => ?_⟩, ?_, fl_of hw (fl_dvd t w) h1 h2⟩
  · have := dvd_lt hw (F.ml i w e S.gw S.ge) S.lt
    omega
  · have hl : i + 1 < ws.length := by rw [F.len]; exact (List.getElem?_eq_some_iff.mp he').1
    have hd : w ∣ e' := Int.dvd_trans (F.dv i (i + 1) w ws[i + 1] (by omega) S.gw (List.getElem?_eq_getElem hl)) (F.ml (i + 1) _ e' (List.getElem?_eq_getElem hl) he')
    have := dvd_le hw hd (S.nx e' he')
    omega
  · constructor
    · rintro ⟨z, hz, h⟩
      have hd := F.gl i w z S.gw hz
      refine ⟨z, hz, ?_⟩
      by_cases c : t < z
      · exact c
      · have := dvd_le hw hd (show z ≤ t by omega); omega
    · rintro ⟨z, hz, h⟩
      have hd := F.gl i w z S.gw hz
      exact ⟨z, hz, by have := dvd_lt hw hd h; omega⟩
theorem StepAt.idx {ws es : List Int} {ge : Option Int} {t : Int} {i j : Nat} {w e w' e' : Int} (F : Fall ws es ge) (S : StepAt ws es t i w e) (h : es[j]? = some e') (hlt : t < e') : j ≤ i := by
  by_cases c : j ≤ i
  · exact c
  · have hl : i + 1 < es.length := by have := (List.getElem?_eq_some_iff.mp h).1; omega
    have a := S.nx es[i + 1] (List.getElem?_eq_getElem hl)
    have b := F.dn (i + 1) j _ e' (by omega) (List.getElem?_eq_getElem hl) h
    omega
end TB
namespace TB
open PySem L2
theorem cell_mk {ws es : List Int} {ge : Option Int} {t w e e0 : Int} {i : Nat} (F : Fall ws es ge) (h0 : es[0]? = some e0) (S : StepAt ws es t i w e) (hg : ¬ goneB ge t) : CellOf ws es ge t (some (t / w * w, w)) := by
  have hlt : t < e0 := by have := F.dn 0 i e0 e (by omega) h0 S.ge; have := S.lt; omega
  exact CellOf.c h0 hlt hg (by rw [← List.getLast?_eq_getElem?]; exact step_last F.dn S)
theorem cell_cases {ws es : List Int} {ge : Option Int} {t e0 : Int} {o : Option (Int × Int)} (F : Fall ws es ge) (h0 : es[0]? = some e0) (C : CellOf ws es ge t o) :
    (e0 ≤ t ∧ o = some (t, 0)) ∨ (t < e0 ∧ goneB ge t ∧ o = none) ∨ (t < e0 ∧ ¬ goneB ge t ∧ ∃ i w e, StepAt ws es t i w e ∧ o = some (t / w * w, w)) := by
  by_cases hc : e0 ≤ t
  · exact .inl ⟨hc, C.uniq h0 (CellOf.a h0 hc)⟩
  · have hlt : t < e0 := by omega
    by_cases hg : goneB ge t
    · exact .inr (.inl ⟨hlt, hg, C.uniq h0 (CellOf.b h0 hlt hg)⟩)
    · obtain ⟨i, w, e, S⟩ := step_ex F.len h0 hlt
      exact .inr (.inr ⟨hlt, hg, i, w, e, S, C.uniq h0 (cell_mk F h0 S hg)⟩)
theorem behind {ws es : List Int} {ge : Option Int} {t w e e0 : Int} {i : Nat} {o : Option (Int × Int)} (F : Fall ws es ge) (h0 : es[0]? = some e0) (S : StepAt ws es t i w e) (hg : ¬ goneB ge t) (C : CellOf ws es ge (t / w * w + w) o) : ∃ p, o = some p ∧ p.1 = t / w * w + w := by
  have hw := F.pos i w S.gw
  have h1 := fl_le t hw
  rcases cell_cases F h0 C with ⟨_, rfl⟩ | ⟨_, ⟨z, hz, h⟩, rfl⟩ | ⟨_, _, j, w', e', S', rfl⟩
  · exact ⟨_, rfl, rfl⟩
  · exact absurd ⟨z, hz, by omega⟩ hg
  · refine ⟨_, rfl, ?_⟩
    have hji : j ≤ i := StepAt.idx (w' := w') (e' := e') F S S'.ge (by have := S'.lt; omega)
    have hd : w' ∣ w := F.dv j i w' w hji S'.gw S.gw
    have hw' := F.pos j w' S'.gw
    exact fl_of hw' (Int.dvd_add (Int.dvd_trans hd (fl_dvd t w)) hd) (by omega) (by omega)
structure Later (es es' : List Int) (ge ge' : Option Int) : Prop where
  len : es'.length = es.length
  up : ∀ (i : Nat) a b, es[i]? = some a → es'[i]? = some b → a ≤ b
  gn : ∀ z, ge = some z → ∃ z', ge' = some z' ∧ z ≤ z'
theorem Later.gone {es es' : List Int} {ge ge' : Option Int} {t : Int} (L : Later es es' ge ge') (h : goneB ge t) : goneB ge' t := by
  obtain ⟨z, hz, h⟩ := h
  obtain ⟨z', hz', h'⟩ := L.gn z hz
  exact ⟨z', hz', by omega⟩
end TB
namespace TB
open PySem L2
theorem good_le {ps : List (Int × Int)} (G : Good ps) : ∀ (k i : Nat) p q, ps[i]? = some p → ps[i + k]? = some q → p.1 ≤ q.1 ∧ p.2 ∣ q.2
  | 0, i, p, q, hp, hq => by rw [Nat.add_zero, hp] at hq; cases hq; exact ⟨Int.le_refl _, Int.dvd_refl _⟩
  | k + 1, i, p, q, hp, hq => by
    have hl : i + k < ps.length := by have := (List.getElem?_eq_some_iff.mp hq).1; omega
    obtain ⟨a, b⟩ := good_le G k i p ps[i + k] hp (List.getElem?_eq_getElem hl)
    obtain ⟨c, d⟩ := G.next (i + k) ps[i + k] q (List.getElem?_eq_getElem hl) (by rw [Nat.add_assoc]; exact hq)
    exact ⟨by omega, Int.dvd_trans b (Int.dvd_of_emod_eq_zero d)⟩
theorem Fall.of {ps : List (Int × Int)} {g : Option Int} (P : Pr ps g) (d : Int) : Fall (ps.map (·.2)) (ps.map fun p => cut d p.1 p.2) (g.map fun z => cut d z (lw ps)) where
  len := by rw [List.length_map, List.length_map]
  pos := fun i w h => by
    rw [List.getElem?_map] at h
    obtain ⟨p, hp, rfl⟩ := Option.map_eq_some_iff.mp h
    exact (P.good.each i p hp).2
  dv := fun i j a b hij ha hb => by
    rw [List.getElem?_map] at ha hb
    obtain ⟨p, hp, rfl⟩ := Option.map_eq_some_iff.mp ha
    obtain ⟨q, hq, rfl⟩ := Option.map_eq_some_iff.mp hb
    exact (good_le P.good (j - i) i p q hp (by rw [show i + (j - i) = j by omega]; exact hq)).2
  ml := fun i w e hw he => by
    rw [List.getElem?_map] at hw he
    obtain ⟨p, hp, rfl⟩ := Option.map_eq_some_iff.mp hw
    rw [hp] at he
    cases he
    exact fl_dvd _ _
  gl := fun i w z hw hz => by
    rw [List.getElem?_map] at hw
    obtain ⟨p, hp, rfl⟩ := Option.map_eq_some_iff.mp hw
    obtain ⟨y, rfl, rfl⟩ := Option.map_eq_some_iff.mp hz
    obtain ⟨q, hq, eq⟩ := P.last
    have hi := (List.getElem?_eq_some_iff.mp hp).1
    have := (good_le P.good (ps.length - 1 - i) i p q hp (by rw [show i + (ps.length - 1 - i) = ps.length - 1 by omega]; exact hq)).2
    rw [eq]
    exact Int.dvd_trans this (fl_dvd _ _)
  dn := fun i j a b hij ha hb => by
    rw [List.getElem?_map] at ha hb
    obtain ⟨p, hp, rfl⟩ := Option.map_eq_some_iff.mp ha
    obtain ⟨q, hq, rfl⟩ := Option.map_eq_some_iff.mp hb
    obtain ⟨h1, h2⟩ := good_le P.good (j - i) i p q hp (by rw [show i + (j - i) = j by omega]; exact hq)
    have wp := (P.good.each i p hp).2
    have wq := (P.good.each j q hq).2
    have a := (fl_le (d - q.1) wq).1
    exact dvd_le wp (Int.dvd_trans h2 (fl_dvd _ _)) (show (d - q.1) / q.2 * q.2 ≤ d - p.1 by omega)
def mx (i j : Int) : Int := if j > i then j else i
theorem mx_b (i j : Int) : i ≤ mx i j ∧ j ≤ mx i j ∧ (mx i j = i ∨ mx i j = j) := by unfold mx; split <;> omega
theorem zw_of {a b : List Int} {i : Nat} {x : Int} (h : (List.zipWith mx a b)[i]? = some x) : ∃ u v, a[i]? = some u ∧ b[i]? = some v ∧ x = mx u v := by
  rw [List.getElem?_zipWith] at h
  split at h
  · rename_i u v hu hv; exact ⟨u, v, hu, hv, (Option.some.inj h).symm⟩
  · cases h
theorem gmax_of {g1 g2 : Option Int} {z : Int} (h : gmax g1 g2 = some z) : g1 = some z ∨ g2 = some z := by
  cases g1 with
  | none => exact .inr h
  | some i =>
    cases g2 with
    | none => exact .inl h
    | some j =>
      simp only [gmax, Option.some.injEq] at h
      rw [← h]
      split
      · exact .inr rfl
      · exact .inl rfl
theorem Fall.max {ws a b : List Int} {g1 g2 : Option Int} (F : Fall ws a g1) (G : Fall ws b g2) : Fall ws (List.zipWith mx a b) (gmax g1 g2) where
  len := by rw [List.length_zipWith, ← F.len, ← G.len]; omega
  pos := F.pos
  dv := F.dv
  ml := fun i w e hw he => by
    obtain ⟨u, v, hu, hv, rfl⟩ := zw_of he
    rcases (mx_b u v).2.2 with h | h
    · rw [h]; exact F.ml i w u hw hu
    · rw [h]; exact G.ml i w v hw hv
  gl := fun i w z hw hz => by
    rcases gmax_of hz with h | h
    · exact F.gl i w z hw h
    · exact G.gl i w z hw h
  dn := fun i j x y hij hx hy => by
    obtain ⟨u, v, hu, hv, rfl⟩ := zw_of hx
    obtain ⟨u', v', hu', hv', rfl⟩ := zw_of hy
    have c := F.dn i j u u' hij hu hu'
    have d := G.dn i j v v' hij hv hv'
    have e := mx_b u v
    rcases (mx_b u' v').2.2 with h | h <;> omega
theorem Later.max {a b : List Int} (g1 g2 : Option Int) (h : a.length = b.length) : Later a (List.zipWith mx a b) g1 (gmax g1 g2) where
  len := by rw [List.length_zipWith]; omega
  up := fun i x y hx hy => by
    obtain ⟨u, v, hu, hv, rfl⟩ := zw_of hy
    rw [hx] at hu; cases hu
    exact (mx_b x v).1
  gn := fun z hz => by
    subst hz
    cases g2 with
    | none => exact ⟨z, rfl, Int.le_refl _⟩
    | some j => exact ⟨mx z j, rfl, (mx_b z j).1⟩
theorem Later.trans {a b c : List Int} {g1 g2 g3 : Option Int} (h : Later a b g1 g2) (h' : Later b c g2 g3) : Later a c g1 g3 where
  len := by rw [h'.len, h.len]
  up := fun i x y hx hy => by
    have hi : i < b.length := by rw [h.len]; exact (List.getElem?_eq_some_iff.mp hx).1
    have a1 := h.up i x b[i] hx (List.getElem?_eq_getElem hi)
    have a2 := h'.up i b[i] y (List.getElem?_eq_getElem hi) hy
    omega
  gn := fun z hz => by
    obtain ⟨z1, e1, l1⟩ := h.gn z hz
    obtain ⟨z2, e2, l2⟩ := h'.gn z1 e1
    exact ⟨z2, e2, by omega⟩
end TB
namespace TB
open PySem L2
def sp_stream41 : Sp := fun vs H Q _ => ∃ (c : Int) (k : Nat), vs = [.int c, .int (k : Int)] ∧ k ≤ 20 ∧ ∀ l (xs : List Int) H', New H H' l (.lst (xs.map V.int)) → xs.length = k → (∀ x ∈ xs, XB x) → Q (.ref l) H'
def fstW (a : Option Int) (st : Int) : Int := match a with
  | none => st
  | some x => if st > x then st else x
def endW (b : Option Int) (e : Int) : Int := match b with
  | none => e
  | some y => if e < y then e else y
def tWin (a b : Option Int) (st w : Int) : Int := if endW b (st + w) - fstW a st > 0 then endW b (st + w) - fstW a st else 0
def sp_tw : Sp := fun vs H Q _ => ∃ (a b : Option Int) (st w : Int), vs = [gv a, gv b, .int st, .int w] ∧ Q (.int (tWin a b st w)) H
def sp_iscut : Sp := fun vs H Q _ => ∃ (a b : Option Int) (st w : Int), vs = [gv a, gv b, .int st, .int w] ∧ Q (.bl (decide (0 < tWin a b st w) && decide (tWin a b st w < w))) H
def BadB (e a : Option Int) : Prop := ∃ z, e = some z ∧ ∀ x, a = some x → x < z
def sp_cb (C : Addr) : Sp := fun vs H Q E => ∃ (e a : Option Int), vs = [gv e, gv a] ∧ (BadB e a → ∀ dx H', New H H' dx (.xd [("edge", gv e)]) → E (.ref C) (some dx) H') ∧ (¬ BadB e a → Q .non H)
structure St41 (i : Nat) (age w : Int) (ps : List (Int × Int)) : Prop where
  len : ps.length = i
  a0 : 0 ≤ age
  a1 : age ≤ 5 * 10 ^ 12 + 40 * 10 ^ 12 * i
  w0 : 1 ≤ w
  w1 : w ≤ 3 * 10 ^ 12 * 5 ^ i
  each : ∀ (k : Nat) p, ps[k]? = some p → 0 ≤ p.1 ∧ p.1 ≤ age ∧ 1 ≤ p.2 ∧ p.2 ≤ w
  next : ∀ (k : Nat) p q, ps[k]? = some p → ps[k + 1]? = some q → p.1 ≤ q.1 ∧ q.2 % p.2 = 0
  last : ∀ p, ps[ps.length - 1]? = some p → w % p.2 = 0
theorem St41.zero {age w : Int} (h0 : 0 ≤ age) (h1 : age ≤ 5 * 10 ^ 12) (w0 : 1 ≤ w) (w1 : w ≤ 3 * 10 ^ 12) : St41 0 age w [] :=
  ⟨rfl, h0, by omega, w0, by omega, (fun k p h => by rw [List.getElem?_nil] at h; cases h), (fun k p q h => by rw [List.getElem?_nil] at h; cases h), (fun p h => by rw [List.getElem?_nil] at h; cases h)⟩
theorem snoc_at {α : Type} {xs : List α} {x : α} {k : Nat} {y : α} (h : (xs ++ [x])[k]? = some y) : (k < xs.length ∧ xs[k]? = some y) ∨ (k = xs.length ∧ y = x) := by
  by_cases c : k < xs.length
  · rw [List.getElem?_append_left c] at h; exact .inl ⟨c, h⟩
  · have hk := (List.getElem?_eq_some_iff.mp h).1
    rw [List.length_append, List.length_singleton] at hk
    have e : k = xs.length := by omega
    rw [e, List.getElem?_append_right (Nat.le_refl _), Nat.sub_self] at h
    cases h
    exact .inr ⟨e, rfl⟩
theorem St41.step {i : Nat} {age w d m : Int} {ps : List (Int × Int)} (h : St41 i age w ps) (d0 : 0 ≤ d) (d1 : d ≤ 40 * 10 ^ 12) (m1 : 1 ≤ m) (m5 : m ≤ 5) : St41 (i + 1) (age + d) (w * m) (ps ++ [(age, w)]) := by
  have a0 := h.a0
  have a1 := h.a1
  have w0 := h.w0
  have w1 := h.w1
  have hw : w ≤ w * m := by have := Int.mul_le_mul_of_nonneg_left m1 (show 0 ≤ w by omega); rwa [Int.mul_one] at this
  refine ⟨by rw [List.length_append, h.len]; rfl, by omega, (by have e : ((i + 1 : Nat) : Int) = (i : Int) + 1 := (by omega); rw [e]; omega), by omega, ?_, ?_, ?_, ?_⟩
  · have := Int.mul_le_mul_of_nonneg_left m5 (show 0 ≤ w by omega)
    have e : (3 * 10 ^ 12 * 5 ^ (i + 1) : Int) = 3 * 10 ^ 12 * 5 ^ i * 5 := by rw [Int.pow_succ (5 : Int) i, ← Int.mul_assoc]
    rw [e]; omega
  · intro k p hk
    rcases snoc_at hk with ⟨_, hk'⟩ | ⟨_, rfl⟩
    · have := h.each k p hk'
      exact ⟨this.1, by omega, this.2.2.1, by omega⟩
    · exact ⟨a0, by show age ≤ age + d; omega, w0, hw⟩
  · intro k p q hp hq
    rcases snoc_at hq with ⟨c, hq'⟩ | ⟨c, rfl⟩
    · rw [List.getElem?_append_left (by omega)] at hp
      exact h.next k p q hp hq'
    · rw [List.getElem?_append_left (by omega)] at hp
      refine ⟨(h.each k p hp).2.1, h.last p ?_⟩
      rw [← c]; exact hp
  · intro p hp
    rcases snoc_at hp with ⟨c, _⟩ | ⟨_, rfl⟩
    · rw [List.length_append, List.length_singleton] at c; omega
    · exact Int.mul_emod_right w m
structure Dr41 (ps : List (Int × Int)) (g : Option Int) : Prop where
  pr : Pr ps g
  each : ∀ (k : Nat) p, ps[k]? = some p → p.1 ≤ 10 ^ 15 ∧ p.2 ≤ 10 ^ 16
  gone : ∀ z, g = some z → z ≤ 10 ^ 15
theorem St41.dr {i : Nat} {age w : Int} {ps : List (Int × Int)} (h : St41 i age w ps) (h1 : 1 ≤ i) (h5 : i ≤ 5) {g : Option Int} (hg : ∀ z p, g = some z → ps[ps.length - 1]? = some p → p.1 ≤ z ∧ z ≤ 10 ^ 15) : Dr41 ps g := by
  have hl := h.len
  have a1 := h.a1
  have w1 := h.w1
  have w2 : w ≤ 10 ^ 16 := by
    have hc : i = 1 ∨ i = 2 ∨ i = 3 ∨ i = 4 ∨ i = 5 := by omega
    rcases hc with rfl | rfl | rfl | rfl | rfl <;> omega
  obtain ⟨pl, hpl⟩ : ∃ pl, ps[ps.length - 1]? = some pl := ⟨_, List.getElem?_eq_getElem (by omega)⟩
  refine ⟨⟨⟨by omega, by omega, fun k p hk => ⟨(h.each k p hk).1, (h.each k p hk).2.2.1⟩, h.next⟩, fun k p hk => ?_, fun p hp => ?_, fun z hz => ?_⟩, fun k p hk => ?_, fun z hz => (hg z pl hz hpl).2⟩
  · have := h.each k p hk
    exact ⟨this.1, by omega, this.2.2.1, by omega⟩
  · intro z hz
    exact (hg z p hz hp).1
  · have h1 := hg z pl hz hpl
    have h2 := h.each _ pl hpl
    omega
  · have := h.each k p hk
    omega
def sp_rule41 : Sp := fun vs H Q _ => ∃ c, vs = [.int c] ∧ ∀ t l xs ps g H', Same H H' → H' t = some (.tup [.ref l, gv g]) → H' l = some (.lst xs) → Pairs H' xs ps → Dr41 ps g → Q (.ref t) H'
def sp_edg41 : Sp := fun vs H Q _ => ∃ (t l : Addr) (xs : List V) (ps : List (Int × Int)) (g : Option Int) (d : Int), vs = [.ref t, .int d] ∧ H t = some (.tup [.ref l, gv g]) ∧ H l = some (.lst xs) ∧ Pairs H xs ps ∧ Pr ps g ∧ Bd d ∧ ∀ p H', New H H' p (.lst (eV ps g d)) → Q (.ref p) H'
end TB
namespace TB
open PySem L2
theorem valV_at : ∀ {kvs : KV} {i : Nat} {k : List Key} {v : V}, (kvs.map (·.1)).Nodup → kvs[i]? = some (k, v) → valV kvs k = some v
  | [], _, _, _, _, h => by simp at h
  | (k', v') :: t, 0, k, v, _, h => by
    simp at h
    obtain ⟨rfl, rfl⟩ := h
    simp [valV]
  | (k', v') :: t, i + 1, k, v, nd, h => by
    have h' : t[i]? = some (k, v) := by simpa using h
    rw [List.map_cons, List.nodup_cons] at nd
    have hk : k' ≠ k := fun z => nd.1 (by rw [z]; exact List.mem_map.mpr ⟨(k, v), List.mem_of_getElem? h', rfl⟩)
    have := valV_at nd.2 h'
    unfold valV at this ⊢
    rw [List.find?_cons_of_neg (by simpa using hk)]
    exact this
theorem kI_nodup {ks : List (List Int)} (h : ks.Nodup) : (ks.map kI).Nodup := by
  rw [List.nodup_iff_pairwise_ne, List.pairwise_map]
  exact h.imp fun hne e => hne (kI_inj e)
theorem sk_perm {α : Type} {f : List Int → Option α} {ms ks : List (List Int)} {kvs : KV} (sk : SKeys f ms) (dk : DKeys kvs ks) (h : ∀ k, valV kvs (kI k) ≠ none ↔ f k ≠ none) : ms.Perm ks := by
  have nd : ms.Nodup := sk.srt.imp fun {k l} hb e => by rw [e, blt_irr] at hb; cases hb
  rw [List.perm_ext_iff_of_nodup nd dk.nd]
  intro k
  rw [sk.mem, dk.mem, h]
theorem rows_nodup {ks : List (List Int)} {f : List Int → List Int} (hf : ∀ k, ∃ t, f k = k ++ t) (h2 : ∀ k ∈ ks, k.length = 2) (nd : ks.Nodup) : (ks.map f).Nodup := by
  rw [List.nodup_iff_pairwise_ne, List.pairwise_map]
  refine List.Pairwise.imp_of_mem (fun {k l} hk hl hne e => ?_) nd
  obtain ⟨t, e1⟩ := hf k
  obtain ⟨u, e2⟩ := hf l
  rw [e1, e2] at e
  exact hne (List.append_inj_left e ((h2 k hk).trans (h2 l hl).symm))
theorem same_thaw {H H3 : Hp} {d : Addr} {kvs : KV} (b : But d H H3) (h : H d = some (.dT kvs)) : Same H (upd H3 d (.dT kvs)) := fun x o e => by
  by_cases hx : x = d
  · subst hx; rw [upd_same, ← h]; exact e
  · rw [upd_ne hx]; exact b x o e hx
theorem yRow_app (s : Abs) (k : List Int) : ∃ t, yRow s k = k ++ t := ⟨_, rfl⟩
theorem zRow_app (s : Abs) (k : List Int) : ∃ t, zRow s k = k ++ t := ⟨_, rfl⟩
theorem TupS.frz {H : Hp} {d : Addr} {o : HO} {u : Obj} {v : HO} (h : H d = some (.frz u v)) : TupS H (upd H d o) := fun b xs e => by
  rw [upd_ne (ne_of e h (by intro z; cases z))]; exact e
theorem skeys_ex {α : Type} {f : List Int → Option α} {ks : List (List Int)} (nd : ks.Nodup) (h : ∀ k, k ∈ ks ↔ f k ≠ none) : ∃ ms, SKeys f ms ∧ ms.length = ks.length := by
  have tot : ∀ a b : List Int, (!blt b a || !blt a b) = true := fun a b => by
    cases h1 : blt b a <;> cases h2 : blt a b <;> simp
    exact blt_asym h1 h2
  have tr : ∀ a b c : List Int, (!blt b a) = true → (!blt c b) = true → (!blt c a) = true := fun a b c h1 h2 => by
    simp at h1 h2 ⊢
    by_cases e1 : a = b
    · subst e1; exact h2
    · by_cases e2 : b = c
      · subst e2; exact h1
      · have a1 := blt_tot b a (fun z => e1 z.symm) h1
        have a2 := blt_tot c b (fun z => e2 z.symm) h2
        have a3 := blt_tr _ _ _ a1 a2
        cases h3 : blt c a with
        | false => rfl
        | true => exact (blt_asym a3 h3).elim
  have pm := List.mergeSort_perm ks (fun a b => !blt b a)
  refine ⟨ks.mergeSort (fun a b => !blt b a), ⟨?_, fun k => by rw [pm.mem_iff, h]⟩, pm.length_eq⟩
  have srt := List.pairwise_mergeSort tr tot ks
  have nd' := pm.nodup_iff.mpr nd
  rw [List.nodup_iff_pairwise_ne] at nd'
  refine (srt.and nd').imp fun {a b} hab => ?_
  obtain ⟨h1, h2⟩ := hab
  simp at h1
  exact blt_tot b a (fun z => h2 z.symm) h1
end TB
namespace TB
open PySem L2
def kZ (a b : Option Int) (r : List Int) : Bool := decide (tWin a b (r.getD 0 0) (r.getD 1 0) = r.getD 1 0)
def cZ (a b : Option Int) (r : List Int) : Bool := decide (0 < tWin a b (r.getD 0 0) (r.getD 1 0)) && decide (tWin a b (r.getD 0 0) (r.getD 1 0) < r.getD 1 0)
def kY (a b : Option Int) (r : List Int) : Bool := decide (tWin a b (r.getD 0 0) 1 = 1)
def yH (r : List Int) : List Int := [r.getD 2 0, r.getD 1 0 * r.getD 2 0, r.getD 1 0, r.getD 1 0]
def knownR (a b : Option Int) (Y Z : List (List Int)) : List (List Int) := (Z.filter (kZ a b)).map (List.drop 2) ++ (Y.filter (kY a b)).map yH
def partsR (a b : Option Int) (Z : List (List Int)) : List (List Int) := Z.filter (cZ a b)
def ZSh (r : List Int) : Prop := ∃ st w m t lo hi, r = [st, w, m, t, lo, hi] ∧ 1 ≤ w
def YSh (r : List Int) : Prop := ∃ t v m, r = [t, v, m] ∧ RunB (v, m)
theorem fl_t {α : Type} {xs : List α} {p : α → Bool} {i : Nat} {x : α} (h : xs[i]? = some x) (z : p x = true) : (xs.take (i + 1)).filter p = (xs.take i).filter p ++ [x] := by
  rw [takeN xs i x h, List.filter_append]; simp [z]
theorem fl_f {α : Type} {xs : List α} {p : α → Bool} {i : Nat} {x : α} (h : xs[i]? = some x) (z : ¬ p x = true) : (xs.take (i + 1)).filter p = (xs.take i).filter p := by
  rw [takeN xs i x h, List.filter_append]; simp [z]
theorem fl_len {α : Type} (xs : List α) (p : α → Bool) (i : Nat) : ((xs.take i).filter p).length ≤ i := Nat.le_trans (List.length_filter_le _ _) (by rw [List.length_take]; omega)
def PartAt (H : Hp) (v : V) (r : List Int) : Prop := ∃ p q, v = .ref p ∧ H p = some (.tup [.int (r.getD 0 0), .int (r.getD 1 0), .ref q]) ∧ H q = some (.tup ((r.drop 2).map V.int))
def Parts (H : Hp) (xs : List V) (rs : List (List Int)) : Prop := Paired (PartAt H) xs rs
theorem PartAt.tupS {H H' : Hp} (s : TupS H H') {v : V} {r : List Int} : PartAt H v r → PartAt H' v r := fun ⟨p, q, e, h1, h2⟩ => ⟨p, q, e, s _ _ h1, s _ _ h2⟩
theorem Parts.tupS {H H' : Hp} (s : TupS H H') : ∀ {xs : List V} {rs : List (List Int)}, Parts H xs rs → Parts H' xs rs
  | _, _, .nil => .nil
  | _, _, .cons r t => .cons (r.tupS s) (Parts.tupS s t)
theorem Parts.same {H H' : Hp} (s : Same H H') {xs : List V} {rs : List (List Int)} (h : Parts H xs rs) : Parts H' xs rs := h.tupS fun _ _ e => s _ _ e
theorem Parts.snoc {H : Hp} {v : V} {r : List Int} (h : PartAt H v r) : ∀ {xs : List V} {rs : List (List Int)}, Parts H xs rs → Parts H (xs ++ [v]) (rs ++ [r])
  | _, _, .nil => .cons h .nil
  | _, _, .cons q t => .cons q (Parts.snoc h t)
theorem Parts.length {H : Hp} : ∀ {xs : List V} {rs : List (List Int)}, Parts H xs rs → xs.length = rs.length
  | _, _, .nil => rfl
  | _, _, .cons _ t => by simp [Parts.length t]
def dPart (r : List Int) : PyData := .tuple [.int (r.getD 0 0), .int (r.getD 1 0), dTup (r.drop 2)]
def dParts (rs : List (List Int)) : PyData := .list (rs.map dPart)
theorem Parts.reps {K : PySem.W.Frag} {H : Hp} : ∀ {xs : List V} {rs : List (List Int)}, Parts H xs rs → Reps K H xs (rs.map dPart)
  | _, _, .nil => .nil
  | _, _, .cons ⟨p, q, e, h1, h2⟩ t => by
    subst e
    exact .cons (.tup (SqT.of h1) (.cons (.int _) (.cons (.int _) (.cons (rep_tup h2) .nil)))) (Parts.reps t)
theorem lay_partsA : ∀ rs : List (List Int), PyData.canLayAll0 (rs.map dPart) = true
  | [] => rfl
  | r :: t => by simp [PyData.canLayAll0, dPart, PyData.canLay0, lay_tup, lay_partsA t]
theorem dep_part (r : List Int) : (dPart r).depth ≤ 2 := by
  have e := dep_intsA (r.drop 2)
  unfold dPart dTup
  simp only [PyData.depth, PyData.depthAll, e]
  omega
theorem dep_partsA : ∀ rs : List (List Int), PyData.depthAll (rs.map dPart) ≤ 2
  | [] => by simp [PyData.depthAll]
  | r :: t => by
    have := dep_partsA t
    have := dep_part r
    simp only [List.map_cons, PyData.depthAll]
    omega
def dKP (a b : List (List Int)) : PyData := .tuple [dTups a, dParts b]
theorem lay_kp (a b : List (List Int)) : (dKP a b).canLay0 = true := by simp [dKP, PyData.canLay0, PyData.canLayAll0, lay_tups, dParts, lay_partsA]
theorem dep_kp (a b : List (List Int)) : (dKP a b).depth ≤ 20 := by
  have := dep_tupsA a
  have := dep_partsA b
  simp [dKP, dTups, dParts, PyData.depth, PyData.depthAll]; omega
theorem rep_kp {K : PySem.W.Frag} {H : Hp} {t l1 l2 : Addr} {xs ys : List V} {a b : List (List Int)} (h : H t = some (.tup [.ref l1, .ref l2])) (h1 : H l1 = some (.lst xs)) (t1 : Tups H xs a) (h2 : H l2 = some (.lst ys)) (t2 : Parts H ys b) : Rep K H (.ref t) (dKP a b) :=
  .tup (SqT.of h) (.cons (t1.rep h1) (.cons (.lst (SqL.of h2) t2.reps) .nil))
structure AOk (n : Nat) (s : Abs) : Prop where
  y : ∀ k x, s.y k = some x → ∃ t v, k = [t, v] ∧ (-(10 ^ 40) < v ∧ v < 10 ^ 40) ∧ 1 ≤ x ∧ x ≤ n * 10 ^ 40
  z : ∀ k x, s.z k = some x → ∃ a w, k = [a, w] ∧ 1 ≤ w
theorem AOk.zero : AOk 0 abs0 := ⟨fun k x e => (by cases e), fun k x e => (by cases e)⟩
theorem AOk.mono {n m : Nat} {s : Abs} (h : AOk n s) (e : n ≤ m) : AOk m s := ⟨fun k x ex => by
  obtain ⟨t, v, e1, e2, e3, e4⟩ := h.y k x ex
  exact ⟨t, v, e1, e2, e3, by omega⟩, h.z⟩
theorem AOk.put {n : Nat} {s : Abs} {cell : Int → Option (Int × Int)} {r : Rd3} (h : AOk n s) (hc : ∀ a w, cell r.1 = some (a, w) → w = 0 ∨ 1 ≤ w) (ok : RunOk r.2) : AOk (n + 1) (putA cell s r) := by
  have h' := h.mono (Nat.le_succ n)
  have ok1 : (-(10 ^ 40) < r.2.1 ∧ r.2.1 < 10 ^ 40) ∧ 1 ≤ r.2.2 ∧ r.2.2 < 10 ^ 40 := ok
  unfold putA
  cases e : cell r.1 with
  | none => exact h'
  | some p =>
    obtain ⟨a, w⟩ := p
    dsimp only
    by_cases hw : w = 0
    · rw [if_pos hw]
      refine ⟨fun k x ek => ?_, h'.z⟩
      have ek : updA s.y [r.1, r.2.1] _ k = some x := ek
      by_cases hk : k = [r.1, r.2.1]
      · rw [hk, updA_same] at ek
        have ek := Option.some.inj ek
        refine ⟨r.1, r.2.1, hk, ok1.1, ?_⟩
        cases e2 : s.y [r.1, r.2.1] with
        | none => rw [e2] at ek; simp at ek; omega
        | some y =>
          obtain ⟨_, _, _, _, h1, h2⟩ := h.y _ y e2
          rw [e2] at ek
          simp at ek
          omega
      · rw [updA_ne _ _ hk] at ek
        exact h'.y k x ek
    · rw [if_neg hw]
      refine ⟨h'.y, fun k x ek => ?_⟩
      have ek : updA s.z [a, w] _ k = some x := ek
      by_cases hk : k = [a, w]
      · exact ⟨a, w, hk, (hc a w e).resolve_left hw⟩
      · rw [updA_ne _ _ hk] at ek
        exact h'.z k x ek
theorem AOk.of {cell : Int → Option (Int × Int)} (hc : ∀ t a w, cell t = some (a, w) → w = 0 ∨ 1 ≤ w) (rs : List Rd3) (hr : ∀ r ∈ rs, RunOk r.2) : ∀ n, n ≤ rs.length → AOk n (absOf cell (rs.take n))
  | 0, _ => AOk.zero
  | n + 1, h => by
    have hn : n < rs.length := by omega
    have e : rs[n]? = some rs[n] := List.getElem?_eq_getElem hn
    rw [takeN rs n _ e, absOf_snoc]
    exact (AOk.of hc rs hr n (by omega)).put (fun a w => hc _ a w) (hr _ (List.getElem_mem hn))
theorem AOk.all {cell : Int → Option (Int × Int)} (hc : ∀ t a w, cell t = some (a, w) → w = 0 ∨ 1 ≤ w) (rs : List Rd3) (hr : ∀ r ∈ rs, RunOk r.2) : AOk rs.length (absOf cell rs) := by
  have := AOk.of hc rs hr rs.length (Nat.le_refl _)
  rwa [List.take_length] at this
theorem AOk.ysh {n : Nat} {s : Abs} (h : AOk n s) (hn : n ≤ 1000) : ∀ r ∈ yRows s, YSh r := by
  intro r hr
  unfold yRows at hr
  split at hr
  · rename_i hx
    obtain ⟨k, hk, rfl⟩ := List.mem_map.mp hr
    have hm := (hx.choose_spec.mem k).mp hk
    cases e : s.y k with
    | none => exact absurd e hm
    | some x =>
      obtain ⟨t, v, rfl, h1, h2, h3⟩ := h.y k x e
      refine ⟨t, v, x, by unfold yRow; rw [e]; rfl, ?_⟩
      unfold RunB
      have h3' : x ≤ 1000 * 10 ^ 40 := by omega
      dsimp only
      omega
  · cases hr
theorem AOk.zsh {n : Nat} {s : Abs} (h : AOk n s) : ∀ r ∈ zRows s, ZSh r := by
  intro r hr
  unfold zRows at hr
  split at hr
  · rename_i hx
    obtain ⟨k, hk, rfl⟩ := List.mem_map.mp hr
    have hm := (hx.choose_spec.mem k).mp hk
    cases e : s.z k with
    | none => exact absurd e hm
    | some x =>
      obtain ⟨a, w, rfl, h1⟩ := h.z k x e
      exact ⟨a, w, x.1, x.2.1, x.2.2.1, x.2.2.2, by unfold zRow; rw [e]; rfl, h1⟩
  · cases hr
def sp_pieces (C R G : Addr) : Sp := fun vs H Q E => ∃ (ro : Addr) (c : RollD) (s : Abs) (LY LZ : List (List Int)) (n : Nat) (a b : Option Int), vs = [.ref ro, gv a, gv b] ∧ RR C R H ro c s LY LZ ∧ LY.length < 64 ∧ LZ.length < 64 ∧ AOk n s ∧ n ≤ 1000 ∧
  (BadB c.ge a → ∀ dx H', New H H' dx (.xd [("edge", gv c.ge)]) → E (.ref G) (some dx) H') ∧
  (¬ BadB c.ge a → ∀ t l1 l2 xs ys H', Same H H' → H l1 = none → H l2 = none → l1 ≠ l2 → H' t = some (.tup [.ref l1, .ref l2]) → H' l1 = some (.lst xs) → Tups H' xs (knownR a b (yRows s) (zRows s)) → H' l2 = some (.lst ys) → Parts H' ys (partsR a b (zRows s)) → Q (.ref t) H')
def sp_due41 : Sp := fun vs H Q _ => ∃ (tt l1 l2 : Addr) (xs ys : List V) (Y Z : List (List Int)) (a b : Option Int), vs = [.ref tt, gv a, gv b] ∧ H tt = some (.tup [.ref l1, .ref l2]) ∧ H l1 = some (.lst xs) ∧ Tups H xs Y ∧ H l2 = some (.lst ys) ∧ Tups H ys Z ∧ (∀ r ∈ Y, YSh r) ∧ (∀ r ∈ Z, ZSh r) ∧ Y.length ≤ 200 ∧ Z.length ≤ 200 ∧
  ∀ t lk lp xk xp H', Same H H' → H' t = some (.tup [.ref lk, .ref lp]) → H' lk = some (.lst xk) → Tups H' xk (knownR a b Y Z) → H' lp = some (.lst xp) → Parts H' xp (partsR a b Z) → Q (.ref t) H'
theorem win_all {a b : Option Int} {st w : Int} (hw : 1 ≤ w) : tWin a b st w = w ↔ endW b (st + w) - fstW a st = w := by
  unfold tWin; split <;> omega
theorem win_le {a b : Option Int} {st w : Int} : endW b (st + w) - fstW a st ≤ w := by
  have h1 : endW b (st + w) ≤ st + w := by cases b with | none => exact Int.le_refl _ | some y => (show (if st + w < y then st + w else y) ≤ st + w); split <;> omega
  have h2 : st ≤ fstW a st := by cases a with | none => exact Int.le_refl _ | some x => (show st ≤ if st > x then st else x); split <;> omega
  omega
theorem win_cut {a b : Option Int} {st w : Int} (hw : 1 ≤ w) (n : ¬ endW b (st + w) - fstW a st = w) : (0 < tWin a b st w ∧ tWin a b st w < w) ↔ fstW a st < endW b (st + w) := by
  have := win_le (a := a) (b := b) (st := st) (w := w)
  unfold tWin; split <;> omega
end TB
namespace TB
open PySem L2
def KpL (H H' : Hp) : Prop := ∀ x o, H x = some o → (∀ K, o ≠ .dT K) → H' x = some o
theorem KpL.of {H H' : Hp} (s : Same H H') : KpL H H' := fun x o e _ => s x o e
theorem KpL.but {H H' : Hp} {d : Addr} {Z : KV} (b : But d H H') (h : H d = some (.dT Z)) : KpL H H' := fun _ _ e n => b _ _ e (ne_of e h (n _))
theorem KpL.tups {H H' : Hp} (k : KpL H H') : TupS H H' := fun _ _ e => k _ _ e (by intro K z; cases z)
theorem KpL.lst {H H' : Hp} (k : KpL H H') {l : Addr} {xs : List V} (h : H l = some (.lst xs)) : H' l = some (.lst xs) := k _ _ h (by intro K z; cases z)
structure LR (H : Hp) (Y Z : KV) (s : Abs) (f : List Int → List (Int × Int)) (n : Nat) : Prop where
  yv : ∀ k, valV Y (kI k) = (s.y k).map V.int
  yk : ∃ ks, DKeys Y ks ∧ ks.length ≤ n
  zn : ∀ k, f k = [] → valV Z (kI k) = none
  zs : ∀ k, f k ≠ [] → ∃ a xs, valV Z (kI k) = some (.ref a) ∧ H a = some (.lst xs) ∧ Pairs H xs (f k)
  zk : ∃ ks, DKeys Z ks ∧ ks.length ≤ n
  ln : ∀ k, f k = [] → s.z k = none
  lh : ∀ k, f k ≠ [] → ∃ m t lo hi, HeapOf (f k) m t lo hi ∧ s.z k = some (m, t, lo, hi)
  fl : ∀ k, (f k).length ≤ n
  fo : ∀ k, RunsOk (f k)
section
variable {H H' : Hp} {Y Z : KV} {s : Abs} {f : List Int → List (Int × Int)} {n : Nat}
theorem LR.kp (k : KpL H H') (h : LR H Y Z s f n) : LR H' Y Z s f n :=
  ⟨h.yv, h.yk, h.zn, fun j hj => let ⟨a, xs, e1, e2, e3⟩ := h.zs j hj; ⟨a, xs, e1, k.lst e2, e3.tupS k.tups⟩, h.zk, h.ln, h.lh, h.fl, h.fo⟩
theorem LR.mono {m : Nat} (h : LR H Y Z s f n) (e : n ≤ m) : LR H Y Z s f m :=
  ⟨h.yv, h.yk.imp fun _ z => ⟨z.1, Nat.le_trans z.2 e⟩, h.zn, h.zs, h.zk.imp fun _ z => ⟨z.1, Nat.le_trans z.2 e⟩, h.ln, h.lh, fun k => Nat.le_trans (h.fl k) e, h.fo⟩
theorem LR.zero : LR H [] [] abs0 (fun _ => []) 0 :=
  ⟨fun _ => rfl, ⟨[], DKeys.nil, Nat.le_refl _⟩, fun _ _ => rfl, fun _ z => absurd rfl z, ⟨[], DKeys.nil, Nat.le_refl _⟩, fun _ _ => rfl, fun _ z => absurd rfl z, fun _ => Nat.le_refl _, fun _ p hp => by cases hp⟩
theorem LR.yok (h : LR H Y Z s f n) : YOk Y := fun k x e => by
  obtain ⟨ks, d, _⟩ := h.yk
  obtain ⟨j, rfl⟩ := dk_key d e
  rw [h.yv] at e
  cases e2 : s.y j with
  | none => rw [e2] at e; cases e
  | some n => rw [e2] at e; exact ⟨n, (Option.some.inj e).symm⟩
theorem dk_size {kvs : KV} {ks : List (List Int)} (h : DKeys kvs ks) : kvs.length = ks.length := by
  have := congrArg List.length h.eq
  rwa [List.length_map, List.length_map] at this
theorem LR.ylen (h : LR H Y Z s f n) : Y.length ≤ n := by obtain ⟨ks, d, e⟩ := h.yk; rw [dk_size d]; exact e
theorem LR.zlen (h : LR H Y Z s f n) : Z.length ≤ n := by obtain ⟨ks, d, e⟩ := h.zk; rw [dk_size d]; exact e
theorem dk_put {kvs : KV} {ks : List (List Int)} (h : DKeys kvs ks) (hn : ks.length ≤ n) (k : List Int) (hk : k.length = 2) (v : V) : ∃ ks', DKeys (putK kvs (kI k) v) ks' ∧ ks'.length ≤ n + 1 := by
  obtain ⟨ks', d', e'⟩ := h.put k hk v
  refine ⟨ks', d', Nat.le_trans (List.Nodup.length_le_of_subset (l₂ := k :: ks) d'.nd fun j hj => ?_) (by rw [List.length_cons]; omega)⟩
  rcases (e' j).mp hj with z | z
  · exact List.mem_cons_of_mem _ z
  · rw [z]; exact List.mem_cons_self
theorem LR.putY (h : LR H Y Z s f n) (t v m : Int) : LR H (putK Y (kk t v) (.int (TB.yv Y (kk t v) + m))) Z { s with y := updA s.y [t, v] ((s.y [t, v]).getD 0 + m) } f (n + 1) := by
  have h' := h.mono (Nat.le_succ n)
  have ey : TB.yv Y (kk t v) = (s.y [t, v]).getD 0 := by
    unfold TB.yv
    rw [show kk t v = kI [t, v] from rfl, h.yv]
    cases s.y [t, v] <;> rfl
  refine ⟨fun k => ?_, ?_, h'.zn, h'.zs, h'.zk, h'.ln, h'.lh, h'.fl, h'.fo⟩
  · show valV (putK Y (kI [t, v]) _) (kI k) = (updA s.y [t, v] ((s.y [t, v]).getD 0 + m) k).map V.int
    rw [valV_put, ey]
    by_cases hk : k = [t, v]
    · subst hk; rw [if_pos rfl, updA_same]; rfl
    · rw [if_neg (fun z => hk (kI_inj z)), updA_ne _ _ hk]; exact h.yv k
  · obtain ⟨ks, d, e⟩ := h.yk
    exact dk_put d e [t, v] rfl _
theorem LR.putZ (h : LR H Y Z s f n) {a w v m : Int} {p : Addr} {xs : List V} (hp : H p = some (.lst xs)) (pp : Pairs H xs (f [a, w] ++ [(v, m)])) (ok : RunOk (v, m)) :
    LR H Y (putK Z (kk a w) (.ref p)) { s with z := updA s.z [a, w] (pour4 (s.z [a, w]) (one4 v m)) } (fun k => if k = [a, w] then f [a, w] ++ [(v, m)] else f k) (n + 1) := by
  have h' := h.mono (Nat.le_succ n)
  have one : HeapOf [(v, m)] m (v * m) v v := ⟨by simp [rN, cnts], by simp [rT, prds], by simp [vals], by simp [vals], by simp [vals], by simp [vals]⟩
  refine ⟨h'.yv, h'.yk, fun k hk => ?_, fun k hk => ?_, ?_, fun k hk => ?_, fun k hk => ?_, fun k => ?_, fun k => ?_⟩
  · show valV (putK Z (kI [a, w]) _) (kI k) = _
    rw [valV_put]
    by_cases e : k = [a, w]
    · rw [if_pos e] at hk; simp at hk
    · rw [if_neg e] at hk
      rw [if_neg (fun z => e (kI_inj z))]; exact h.zn k hk
  · show ∃ c ys, valV (putK Z (kI [a, w]) (.ref p)) (kI k) = _ ∧ _
    rw [valV_put]
    by_cases e : k = [a, w]
    · rw [if_pos e, if_pos (by rw [e])]
      exact ⟨p, xs, rfl, hp, pp⟩
    · rw [if_neg e] at hk ⊢
      rw [if_neg (fun z => e (kI_inj z))]; exact h.zs k hk
  · obtain ⟨ks, d, e⟩ := h.zk
    exact dk_put d e [a, w] rfl _
  · show updA s.z [a, w] _ k = none
    by_cases e : k = [a, w]
    · rw [if_pos e] at hk; simp at hk
    · rw [if_neg e] at hk
      rw [updA_ne _ _ e]; exact h.ln k hk
  · show ∃ m' t lo hi, HeapOf _ m' t lo hi ∧ updA s.z [a, w] _ k = some _
    by_cases e : k = [a, w]
    · rw [if_pos e, e, updA_same]
      by_cases ef : f [a, w] = []
      · rw [ef, h.ln _ ef]
        exact ⟨m, v * m, v, v, one, rfl⟩
      · obtain ⟨m0, t0, lo0, hi0, h0, e0⟩ := h.lh _ ef
        rw [e0]
        exact ⟨_, _, _, _, h0.app one, rfl⟩
    · rw [if_neg e] at hk ⊢
      rw [updA_ne _ _ e]; exact h.lh k hk
  · show (if k = [a, w] then f [a, w] ++ [(v, m)] else f k).length ≤ n + 1
    split
    · rw [List.length_append]; have := h.fl [a, w]; simp; omega
    · exact h'.fl k
  · show RunsOk (if k = [a, w] then f [a, w] ++ [(v, m)] else f k)
    split
    · intro q hq
      rcases List.mem_append.mp hq with z | z
      · exact h.fo _ q z
      · rw [List.mem_singleton.mp z]; exact ok
    · exact h.fo k
theorem LR.zv (h : LR H Y Z s f n) (k : List Int) : valV Z (kI k) ≠ none ↔ s.z k ≠ none := by
  by_cases e : f k = []
  · rw [h.zn k e, h.ln k e]; simp
  · obtain ⟨a, xs, e1, _⟩ := h.zs k e
    obtain ⟨m, t, lo, hi, _, e2⟩ := h.lh k e
    rw [e1, e2]; simp
theorem LR.yv' (h : LR H Y Z s f n) (k : List Int) : valV Y (kI k) ≠ none ↔ s.y k ≠ none := by
  rw [h.yv]; cases s.y k <;> simp
end
theorem sort_y {s : Abs} {ks : List (List Int)} {kvs : KV} (dk : DKeys kvs ks) (h : ∀ k, valV kvs (kI k) ≠ none ↔ s.y k ≠ none) {R : List (List Int)} (pR : R.Perm (ks.map (yRow s))) (sR : R.Pairwise fun k l => blt k l = true) : R = yRows s := by
  obtain ⟨ms, sk, _⟩ := skeys_ex (f := s.y) dk.nd fun k => by rw [dk.mem, h]
  have pm := sk_perm sk dk h
  rw [← yRows_eq sk]
  exact sort_rows (yRow s) (yRow_app s) (fun k hk => dk.ne k (pm.mem_iff.mp hk)) sk.srt pm pR sR
theorem sort_z {s : Abs} {ks : List (List Int)} {kvs : KV} (dk : DKeys kvs ks) (h : ∀ k, valV kvs (kI k) ≠ none ↔ s.z k ≠ none) {R : List (List Int)} (pR : R.Perm (ks.map (zRow s))) (sR : R.Pairwise fun k l => blt k l = true) : R = zRows s := by
  obtain ⟨ms, sk, _⟩ := skeys_ex (f := s.z) dk.nd fun k => by rw [dk.mem, h]
  have pm := sk_perm sk dk h
  rw [← zRows_eq sk]
  exact sort_rows (zRow s) (zRow_app s) (fun k hk => dk.ne k (pm.mem_iff.mp hk)) sk.srt pm pR sR
noncomputable abbrev cell41 (ps : List (Int × Int)) (g : Option Int) (d : Int) : Int → Option (Int × Int) := cellF (ps.map (·.2)) (ps.map fun p => cut d p.1 p.2) (g.map fun z => cut d z (lw ps))
def sp_rows41 : Sp := fun vs H Q _ => ∃ (t l : Addr) (xs : List V) (ps : List (Int × Int)) (g : Option Int) (e : Addr) (d : Int) (lr : Addr) (ys : List V) (rs : List Rd3), vs = [.ref t, .ref e, .ref lr] ∧ H t = some (.tup [.ref l, gv g]) ∧ H l = some (.lst xs) ∧ Pairs H xs ps ∧ Pr ps g ∧ Bd d ∧ H e = some (.lst (eV ps g d)) ∧ H lr = some (.lst ys) ∧ Tups H ys (rs.map l3) ∧ rs.length ≤ 60 ∧ (∀ r ∈ rs, TB46 r.1 ∧ RunOk r.2) ∧
  ∀ p l1 l2 xs1 xs2 H', Same H H' → H' p = some (.tup [.ref l1, .ref l2]) → H' l1 = some (.lst xs1) → Tups H' xs1 (yRows (absOf (cell41 ps g d) rs)) → H' l2 = some (.lst xs2) → Tups H' xs2 (zRows (absOf (cell41 ps g d) rs)) → (yRows (absOf (cell41 ps g d) rs)).length ≤ 60 → (zRows (absOf (cell41 ps g d) rs)).length ≤ 60 → Q (.ref p) H'
end TB
local macro_rules | `(tactic| walk_at "same") => `(tactic| first | exact L2.Same.refl _ | assumption | exact L2.New.same (by assumption) | (refine L2.same_by ?_ (by assumption); walk_at "same") | (refine L2.Same.trans ?_ (by assumption); walk_at "same"))
local macro_rules | `(tactic| walk_at "fact") => `(tactic| first | assumption | exact L2.New.at_ (by assumption) | (refine L2.up_new (by assumption) ?_; walk_at "fact") | (refine L2.up_same (by assumption) ?_; walk_at "fact"))
local macro_rules | `(tactic| walk_at "sq") => `(tactic| first | assumption | exact L2.SqL.of (by walk_at "fact") | exact L2.SqT.of (by walk_at "fact") | exact Or.inl (L2.SqL.of (by walk_at "fact")) | exact Or.inr (L2.SqT.of (by walk_at "fact")) | exact Or.inl (by assumption) | walk_at "fact")
local macro_rules | `(tactic| walk_at "c") => `(tactic| first
  | ((with_reducible show _ ≤ PySem.sizeLine); first | exact Nat.le_of_lt (L2.small1000 (Nat.le_of_ble_eq_true rfl)) | exact Nat.le_of_lt (L2.small1000 (by omega)) | exact Nat.le_of_lt (L2.small1000 (by simp only [List.length_map, List.length_append, List.length_cons, List.length_nil]; omega)))
  | ((with_reducible show _ < PySem.sizeLine); first | exact L2.small1000 (by omega) | exact L2.small1000 (by simp only [List.length_map, List.length_append, List.length_cons, List.length_nil]; omega))
  | decide | omega | (dsimp only; first | decide | omega) | (simp only [List.length_map, List.length_append, List.length_cons, List.length_nil]; omega)
  | ((with_reducible refine And.intro ?_ ?_) <;> walk_at "c")
  | (refine And.intro ?_ ?_ <;> walk_at "c") | (refine Or.inl ?_; walk_at "c") | (refine Or.inr ?_; walk_at "c"))
local macro_rules | `(tactic| walk_at "at") => `(tactic| first | rfl | assumption | exact L2.atI_nat (by assumption) | exact TB.atI_m1 (by assumption))
local macro_rules | `(tactic| walk_at "ty") => `(tactic| first | exact L2.TyOf.int _ | exact L2.TyOf.bl _ | exact L2.TyOf.non | exact L2.TyOf.str _ | exact L2.TyOf.lst (by walk_at "fact") | exact L2.TyOf.tup (by walk_at "fact"))
local macro_rules | `(tactic| walk_at "kit") => `(tactic| first | exact L2.kit_int_int _ | exact L2.kit_int_bool _ | exact L2.kit_list _ | exact L2.kit_tuple _ | rfl)
local macro_rules | `(tactic| walk_at "r1") => `(tactic| first
  | refine Exists.intro _ (And.intro rfl ?_)
  | refine Exists.intro _ (Exists.intro _ (And.intro rfl (And.intro rfl ?_)))
  | refine And.intro rfl ?_
  | refine Exists.intro _ (Exists.intro _ (And.intro rfl (And.intro (by walk_at "sq") ?_)))
  | refine Exists.intro _ (Exists.intro _ (Exists.intro _ (Exists.intro _ (And.intro rfl (And.intro rfl (And.intro (by walk_at "sq") (And.intro (by walk_at "at") ?_)))))))
  | refine And.intro (Or.inl ⟨rfl, _, L2.SqL.of (by walk_at "fact")⟩) ?_
  | refine Exists.intro _ (Exists.intro _ (Exists.intro _ (And.intro rfl (And.intro rfl (And.intro (by walk_at "fact") (And.intro (by walk_at "c") ?_))))))
  | refine Exists.intro _ (Exists.intro _ (Exists.intro _ (Exists.intro _ (And.intro rfl (And.intro (by walk_at "ty") (And.intro (by walk_at "kit") ?_))))))
  | refine Exists.intro _ (Exists.intro _ (And.intro rfl ?_))
  | refine And.intro (by walk_at "c") ?_
  | refine L2.iteT ?_
  | refine L2.iteF ?_)
local macro_rules | `(tactic| walk_at "r") => `(tactic| (walk_at "r1"; repeat walk_at "r1"))
namespace TB
open PySem L2
def top (i : Nat) : Stmt := PySem.Challenge.pw_thinbook_k41_pieces_of_a_roll.main.body.getD i (.Pass ⟨0, 0, 0, 0⟩)
abbrev s_is_whole : Stmt := (top 8)
abbrev s_floored : Stmt := (top 9)
abbrev s_gone_cut : Stmt := (top 11)
abbrev s_edges_at : Stmt := (top 12)
abbrev s_is_gone : Stmt := (top 13)
abbrev s_width_at : Stmt := (top 14)
abbrev s_cell_at : Stmt := (top 15)
abbrev s_heap_of : Stmt := (top 17)
abbrev s_poured : Stmt := (top 18)
abbrev s_times_within : Stmt := (top 20)
abbrev s_is_cut : Stmt := (top 21)
abbrev s_check_begin : Stmt := (top 22)
abbrev s_pieces : Stmt := (top 23)
abbrev s_Roll_init : Stmt := (inClass (top 25) 0)
abbrev s_Roll_put : Stmt := (inClass (top 25) 1)
abbrev s_Roll_pour_into_cell : Stmt := (inClass (top 25) 2)
abbrev s_Roll_rule : Stmt := (inClass (top 25) 5)
abbrev s_Roll_day : Stmt := (inClass (top 25) 6)
abbrev s_Roll_edges : Stmt := (inClass (top 25) 7)
abbrev s_Roll_young : Stmt := (inClass (top 25) 8)
abbrev s_Roll_heaps : Stmt := (inClass (top 25) 9)
abbrev s_is_step : Stmt := (top 28)
abbrev s_check_one_step : Stmt := (top 29)
abbrev s_check_next_step : Stmt := (top 30)
abbrev s_check_steps : Stmt := (top 31)
abbrev s_check_gone : Stmt := (top 32)
abbrev s_Rule_init : Stmt := (inClass (top 33) 0)
abbrev s_Rule_steps : Stmt := (inClass (top 33) 1)
abbrev s_Rule_gone : Stmt := (inClass (top 33) 2)
abbrev s__law_cell_at : Stmt := (top 35)
abbrev s__law_stream : Stmt := (top 36)
abbrev s__law_run : Stmt := (top 37)
abbrev s__law_heap : Stmt := (top 38)
abbrev s__law_rule : Stmt := (top 39)
abbrev s__law_edges : Stmt := (top 40)
abbrev s__law_cell : Stmt := (top 41)
abbrev s__law_rows : Stmt := (top 42)
abbrev s__law_time : Stmt := (top 43)
abbrev s__law_reading : Stmt := (top 44)
abbrev s__law_due : Stmt := (top 45)
abbrev s__law_gone : Stmt := (top 46)
abbrev s__law_end : Stmt := (top 47)
abbrev s_law : Stmt := (top 48)
abbrev s_Gone_init : Stmt := (inClass (top 5) 0)
theorem sc_is_whole : FnScope ["thing"] ["thing"] (defScope s_is_whole) := ⟨rfl, rfl, rfl, by decide +kernel, rfl, by decide +kernel, by decide +kernel⟩
theorem sc_floored : FnScope ["number", "width"] ["number", "width"] (defScope s_floored) := ⟨rfl, rfl, rfl, by decide +kernel, rfl, by decide +kernel, by decide +kernel⟩
theorem sc_gone_cut : FnScope ["rule", "day", "gone"] ["rule", "day"] (defScope s_gone_cut) := ⟨rfl, rfl, rfl, by decide +kernel, rfl, by decide +kernel, by decide +kernel⟩
theorem sc_edges_at : FnScope ["rule", "day", "cuts"] ["rule", "day"] (defScope s_edges_at) := ⟨rfl, rfl, rfl, by decide +kernel, rfl, by decide +kernel, by decide +kernel⟩
theorem sc_is_gone : FnScope ["edges", "time"] ["edges", "time"] (defScope s_is_gone) := ⟨rfl, rfl, rfl, by decide +kernel, rfl, by decide +kernel, by decide +kernel⟩
theorem sc_width_at : FnScope ["rule", "edges", "time", "widths"] ["rule", "edges", "time"] (defScope s_width_at) := ⟨rfl, rfl, rfl, by decide +kernel, rfl, by decide +kernel, by decide +kernel⟩
theorem sc_cell_at : FnScope ["rule", "edges", "time", "width"] ["rule", "edges", "time"] (defScope s_cell_at) := ⟨rfl, rfl, rfl, by decide +kernel, rfl, by decide +kernel, by decide +kernel⟩
theorem sc_heap_of : FnScope ["runs", "values", "how_many", "total"] ["runs"] (defScope s_heap_of) := ⟨rfl, rfl, rfl, by decide +kernel, rfl, by decide +kernel, by decide +kernel⟩
theorem sc_poured : FnScope ["one", "other"] ["one", "other"] (defScope s_poured) := ⟨rfl, rfl, rfl, by decide +kernel, rfl, by decide +kernel, by decide +kernel⟩
theorem sc_times_within : FnScope ["a", "b", "start", "width", "first", "end"] ["a", "b", "start", "width"] (defScope s_times_within) := ⟨rfl, rfl, rfl, by decide +kernel, rfl, by decide +kernel, by decide +kernel⟩
theorem sc_is_cut : FnScope ["a", "b", "start", "width", "within"] ["a", "b", "start", "width"] (defScope s_is_cut) := ⟨rfl, rfl, rfl, by decide +kernel, rfl, by decide +kernel, by decide +kernel⟩
theorem sc_check_begin : FnScope ["edge", "a"] ["edge", "a"] (defScope s_check_begin) := ⟨rfl, rfl, rfl, by decide +kernel, rfl, by decide +kernel, by decide +kernel⟩
theorem sc_pieces : FnScope ["roll", "a", "b", "rows", "known", "time", "value", "many", "parts"] ["roll", "a", "b"] (defScope s_pieces) := ⟨rfl, rfl, rfl, by decide +kernel, rfl, by decide +kernel, by decide +kernel⟩
theorem sc_Roll_init : FnScope ["self", "rule", "day"] ["self", "rule", "day"] (defScope s_Roll_init) := ⟨rfl, rfl, rfl, by decide +kernel, rfl, by decide +kernel, by decide +kernel⟩
theorem sc_Roll_put : FnScope ["self", "time", "value", "many", "cell"] ["self", "time", "value", "many"] (defScope s_Roll_put) := ⟨rfl, rfl, rfl, by decide +kernel, rfl, by decide +kernel, by decide +kernel⟩
theorem sc_Roll_pour_into_cell : FnScope ["self", "cell", "heap"] ["self", "cell", "heap"] (defScope s_Roll_pour_into_cell) := ⟨rfl, rfl, rfl, by decide +kernel, rfl, by decide +kernel, by decide +kernel⟩
theorem sc_Roll_edges : FnScope ["self"] ["self"] (defScope s_Roll_edges) := ⟨rfl, rfl, rfl, by decide +kernel, rfl, by decide +kernel, by decide +kernel⟩
theorem sc_Roll_young : FnScope ["self"] ["self"] (defScope s_Roll_young) := ⟨rfl, rfl, rfl, by decide +kernel, rfl, by decide +kernel, by decide +kernel⟩
theorem sc_Roll_heaps : FnScope ["self"] ["self"] (defScope s_Roll_heaps) := ⟨rfl, rfl, rfl, by decide +kernel, rfl, by decide +kernel, by decide +kernel⟩
theorem sc_is_step : FnScope ["thing"] ["thing"] (defScope s_is_step) := ⟨rfl, rfl, rfl, by decide +kernel, rfl, by decide +kernel, by decide +kernel⟩
theorem sc_check_one_step : FnScope ["step"] ["step"] (defScope s_check_one_step) := ⟨rfl, rfl, rfl, by decide +kernel, rfl, by decide +kernel, by decide +kernel⟩
theorem sc_check_next_step : FnScope ["step", "behind"] ["step", "behind"] (defScope s_check_next_step) := ⟨rfl, rfl, rfl, by decide +kernel, rfl, by decide +kernel, by decide +kernel⟩
theorem sc_check_steps : FnScope ["steps", "step", "behind"] ["steps"] (defScope s_check_steps) := ⟨rfl, rfl, rfl, by decide +kernel, rfl, by decide +kernel, by decide +kernel⟩
theorem sc_check_gone : FnScope ["gone", "last_age"] ["gone", "last_age"] (defScope s_check_gone) := ⟨rfl, rfl, rfl, by decide +kernel, rfl, by decide +kernel, by decide +kernel⟩
theorem sc_Rule_init : FnScope ["self", "steps", "gone", "kept"] ["self", "steps", "gone"] (defScope s_Rule_init) := ⟨rfl, rfl, rfl, by decide +kernel, rfl, by decide +kernel, by decide +kernel⟩
theorem sc_Rule_steps : FnScope ["self"] ["self"] (defScope s_Rule_steps) := ⟨rfl, rfl, rfl, by decide +kernel, rfl, by decide +kernel, by decide +kernel⟩
theorem sc_Rule_gone : FnScope ["self"] ["self"] (defScope s_Rule_gone) := ⟨rfl, rfl, rfl, by decide +kernel, rfl, by decide +kernel, by decide +kernel⟩
theorem sc__law_cell_at : FnScope ["_law_script", "_law_k"] ["_law_script", "_law_k"] (defScope s__law_cell_at) := ⟨rfl, rfl, rfl, by decide +kernel, rfl, by decide +kernel, by decide +kernel⟩
theorem sc__law_stream : FnScope ["_law_cell_here", "_law_many", "_law_found", "_law_number", "_law_k"] ["_law_cell_here", "_law_many"] (defScope s__law_stream) := ⟨rfl, rfl, rfl, by decide +kernel, rfl, by decide +kernel, by decide +kernel⟩
theorem sc__law_run : FnScope ["_law_cell_here", "_law_kind", "_law_xs", "_law_value"] ["_law_cell_here", "_law_kind"] (defScope s__law_run) := ⟨rfl, rfl, rfl, by decide +kernel, rfl, by decide +kernel, by decide +kernel⟩
theorem sc__law_heap : FnScope ["_law_runs", "_law_many", "_law_total"] ["_law_runs"] (defScope s__law_heap) := ⟨rfl, rfl, rfl, by decide +kernel, rfl, by decide +kernel, by decide +kernel⟩
theorem sc__law_rule : FnScope ["_law_cell_here", "_law_xs", "_law_scale", "_law_age", "_law_width", "_law_steps", "_law_x"] ["_law_cell_here"] (defScope s__law_rule) := ⟨rfl, rfl, rfl, by decide +kernel, rfl, by decide +kernel, by decide +kernel⟩
theorem sc__law_edges : FnScope ["_law_rule_here", "_law_day", "_law_edges_here"] ["_law_rule_here", "_law_day"] (defScope s__law_edges) := ⟨rfl, rfl, rfl, by decide +kernel, rfl, by decide +kernel, by decide +kernel⟩
theorem sc__law_cell : FnScope ["_law_rule_here", "_law_edges_here", "_law_time_here", "_law_wide", "_law_step", "_law_edge"] ["_law_rule_here", "_law_edges_here", "_law_time_here"] (defScope s__law_cell) := ⟨rfl, rfl, rfl, by decide +kernel, rfl, by decide +kernel, by decide +kernel⟩
theorem sc__law_rows : FnScope ["_law_rule_here", "_law_edges_here", "_law_readings", "_law_young", "_law_heaps", "_law_time_here", "_law_value", "_law_many", "_law_here"] ["_law_rule_here", "_law_edges_here", "_law_readings"] (defScope s__law_rows) := ⟨rfl, rfl, rfl, by decide +kernel, rfl, by decide +kernel, by decide +kernel⟩
theorem sc__law_time : FnScope ["_law_rule_here", "_law_day", "_law_x", "_law_edges_here", "_law_edge", "_law_wide", "_law_span"] ["_law_rule_here", "_law_day", "_law_x"] (defScope s__law_time) := ⟨rfl, rfl, rfl, by decide +kernel, rfl, by decide +kernel, by decide +kernel⟩
theorem sc__law_reading : FnScope ["_law_rule_here", "_law_day", "_law_cell_here", "_law_kind", "_law_x"] ["_law_rule_here", "_law_day", "_law_cell_here", "_law_kind"] (defScope s__law_reading) := ⟨rfl, rfl, rfl, by decide +kernel, rfl, by decide +kernel, by decide +kernel⟩
theorem sc__law_due : FnScope ["_law_rows_here", "_law_a", "_law_b", "_law_young", "_law_heaps", "_law_known", "_law_parts", "_law_start", "_law_width", "_law_many", "_law_total", "_law_least", "_law_greatest", "_law_first", "_law_last", "_law_time_here", "_law_value"] ["_law_rows_here", "_law_a", "_law_b"] (defScope s__law_due) := ⟨rfl, rfl, rfl, by decide +kernel, rfl, by decide +kernel, by decide +kernel⟩
theorem sc__law_gone : FnScope ["_law_roll", "_law_a", "_law_b", "_law_word", "e"] ["_law_roll", "_law_a", "_law_b"] (defScope s__law_gone) := ⟨rfl, rfl, rfl, by decide +kernel, rfl, by decide +kernel, by decide +kernel⟩
theorem sc__law_end : FnScope ["_law_rule_here", "_law_day", "_law_readings", "_law_cell_here", "_law_x"] ["_law_rule_here", "_law_day", "_law_readings", "_law_cell_here"] (defScope s__law_end) := ⟨rfl, rfl, rfl, by decide +kernel, rfl, by decide +kernel, by decide +kernel⟩
theorem sc_law : FnScope ["_law_script", "_law_rule_here", "_law_day", "_law_readings", "_law_roll", "_law_time_here", "_law_value", "_law_many", "_law_a", "_law_b", "_law_edges_here", "_law_rows_here", "_law_known", "_law_parts", "_law_found"] ["_law_script"] (defScope s_law) := ⟨rfl, rfl, rfl, by decide +kernel, rfl, by decide +kernel, by decide +kernel⟩
theorem sc_Gone_init : FnScope ["self", "edge"] ["self", "edge"] (defScope s_Gone_init) := ⟨rfl, rfl, rfl, by decide +kernel, rfl, by decide +kernel, by decide +kernel⟩
structure Txt (K : PySem.W.Frag) (mg : Str → Option Value) (C_Roll : Addr) (C_Rule : Addr) (C_BookError : Addr) (C_NoNumber : Addr) (C_NoRule : Addr) (C_Gone : Addr) (C_NoAsk : Addr) : Prop where
  f_is_whole : ∃ f fd, Fun K "is_whole" "is_whole" s_is_whole f fd ∧ mg "is_whole" = some (.ref f)
  f_floored : ∃ f fd, Fun K "floored" "floored" s_floored f fd ∧ mg "floored" = some (.ref f)
  f_gone_cut : ∃ f fd, Fun K "gone_cut" "gone_cut" s_gone_cut f fd ∧ mg "gone_cut" = some (.ref f)
  f_edges_at : ∃ f fd, Fun K "edges_at" "edges_at" s_edges_at f fd ∧ mg "edges_at" = some (.ref f)
  f_is_gone : ∃ f fd, Fun K "is_gone" "is_gone" s_is_gone f fd ∧ mg "is_gone" = some (.ref f)
  f_width_at : ∃ f fd, Fun K "width_at" "width_at" s_width_at f fd ∧ mg "width_at" = some (.ref f)
  f_cell_at : ∃ f fd, Fun K "cell_at" "cell_at" s_cell_at f fd ∧ mg "cell_at" = some (.ref f)
  f_heap_of : ∃ f fd, Fun K "heap_of" "heap_of" s_heap_of f fd ∧ mg "heap_of" = some (.ref f)
  f_poured : ∃ f fd, Fun K "poured" "poured" s_poured f fd ∧ mg "poured" = some (.ref f)
  f_times_within : ∃ f fd, Fun K "times_within" "times_within" s_times_within f fd ∧ mg "times_within" = some (.ref f)
  f_is_cut : ∃ f fd, Fun K "is_cut" "is_cut" s_is_cut f fd ∧ mg "is_cut" = some (.ref f)
  f_check_begin : ∃ f fd, Fun K "check_begin" "check_begin" s_check_begin f fd ∧ mg "check_begin" = some (.ref f)
  f_pieces : ∃ f fd, Fun K "pieces" "pieces" s_pieces f fd ∧ mg "pieces" = some (.ref f)
  f_Roll_init : ∃ f fd, Fun K "__init__" "Roll.__init__" s_Roll_init f fd ∧ Mk K C_Roll f
  f_Roll_put : ∃ f fd dT o n t, FunD K "put" "Roll.put" s_Roll_put (.ref dT) f fd ∧ Meth K C_Roll "put" f ∧ fd.defaults = .ref dT ∧ K.lookup dT = some o ∧ o.data = .seq #[.int 1 t] n
  f_Roll_pour_into_cell : ∃ f fd, Fun K "pour_into_cell" "Roll.pour_into_cell" s_Roll_pour_into_cell f fd ∧ Meth K C_Roll "pour_into_cell" f
  f_Roll_rule : ∃ f fd, Fun K "rule" "Roll.rule" s_Roll_rule f fd ∧ Meth K C_Roll "rule" f
  f_Roll_day : ∃ f fd, Fun K "day" "Roll.day" s_Roll_day f fd ∧ Meth K C_Roll "day" f
  f_Roll_edges : ∃ f fd, Fun K "edges" "Roll.edges" s_Roll_edges f fd ∧ Meth K C_Roll "edges" f
  f_Roll_young : ∃ f fd, Fun K "young" "Roll.young" s_Roll_young f fd ∧ Meth K C_Roll "young" f
  f_Roll_heaps : ∃ f fd, Fun K "heaps" "Roll.heaps" s_Roll_heaps f fd ∧ Meth K C_Roll "heaps" f
  f_is_step : ∃ f fd, Fun K "is_step" "is_step" s_is_step f fd ∧ mg "is_step" = some (.ref f)
  f_check_one_step : ∃ f fd, Fun K "check_one_step" "check_one_step" s_check_one_step f fd ∧ mg "check_one_step" = some (.ref f)
  f_check_next_step : ∃ f fd, Fun K "check_next_step" "check_next_step" s_check_next_step f fd ∧ mg "check_next_step" = some (.ref f)
  f_check_steps : ∃ f fd, Fun K "check_steps" "check_steps" s_check_steps f fd ∧ mg "check_steps" = some (.ref f)
  f_check_gone : ∃ f fd, Fun K "check_gone" "check_gone" s_check_gone f fd ∧ mg "check_gone" = some (.ref f)
  f_Rule_init : ∃ f fd dT o n, FunD K "__init__" "Rule.__init__" s_Rule_init (.ref dT) f fd ∧ Mk K C_Rule f ∧ fd.defaults = .ref dT ∧ K.lookup dT = some o ∧ o.data = .seq #[.none] n
  f_Rule_steps : ∃ f fd, Fun K "steps" "Rule.steps" s_Rule_steps f fd ∧ Meth K C_Rule "steps" f
  f_Rule_gone : ∃ f fd, Fun K "gone" "Rule.gone" s_Rule_gone f fd ∧ Meth K C_Rule "gone" f
  f__law_cell_at : ∃ f fd, Fun K "_law_cell_at" "_law_cell_at" s__law_cell_at f fd ∧ mg "_law_cell_at" = some (.ref f)
  f__law_stream : ∃ f fd, Fun K "_law_stream" "_law_stream" s__law_stream f fd ∧ mg "_law_stream" = some (.ref f)
  f__law_run : ∃ f fd, Fun K "_law_run" "_law_run" s__law_run f fd ∧ mg "_law_run" = some (.ref f)
  f__law_heap : ∃ f fd, Fun K "_law_heap" "_law_heap" s__law_heap f fd ∧ mg "_law_heap" = some (.ref f)
  f__law_rule : ∃ f fd, Fun K "_law_rule" "_law_rule" s__law_rule f fd ∧ mg "_law_rule" = some (.ref f)
  f__law_edges : ∃ f fd, Fun K "_law_edges" "_law_edges" s__law_edges f fd ∧ mg "_law_edges" = some (.ref f)
  f__law_cell : ∃ f fd, Fun K "_law_cell" "_law_cell" s__law_cell f fd ∧ mg "_law_cell" = some (.ref f)
  f__law_rows : ∃ f fd, Fun K "_law_rows" "_law_rows" s__law_rows f fd ∧ mg "_law_rows" = some (.ref f)
  f__law_time : ∃ f fd, Fun K "_law_time" "_law_time" s__law_time f fd ∧ mg "_law_time" = some (.ref f)
  f__law_reading : ∃ f fd, Fun K "_law_reading" "_law_reading" s__law_reading f fd ∧ mg "_law_reading" = some (.ref f)
  f__law_due : ∃ f fd, Fun K "_law_due" "_law_due" s__law_due f fd ∧ mg "_law_due" = some (.ref f)
  f__law_gone : ∃ f fd, Fun K "_law_gone" "_law_gone" s__law_gone f fd ∧ mg "_law_gone" = some (.ref f)
  f__law_end : ∃ f fd, Fun K "_law_end" "_law_end" s__law_end f fd ∧ mg "_law_end" = some (.ref f)
  f_law : ∃ f fd, Fun K "law" "law" s_law f fd ∧ mg "law" = some (.ref f)
  f_Gone_init : ∃ f fd, Fun K "__init__" "Gone.__init__" s_Gone_init f fd ∧ ExcI K C_Gone f "edge"
  cl_Roll : Cls K C_Roll
  mg_Roll : mg "Roll" = some (.ref C_Roll)
  na_Roll_kept_rule : NoAttr K C_Roll "kept_rule"
  na_Roll_kept_day : NoAttr K C_Roll "kept_day"
  na_Roll_kept_edges : NoAttr K C_Roll "kept_edges"
  na_Roll_whole_ones : NoAttr K C_Roll "whole_ones"
  na_Roll_cell_heaps : NoAttr K C_Roll "cell_heaps"
  cl_Rule : Cls K C_Rule
  mg_Rule : mg "Rule" = some (.ref C_Rule)
  na_Rule_kept_steps : NoAttr K C_Rule "kept_steps"
  na_Rule_gone_age : NoAttr K C_Rule "gone_age"
  mg_BookError : mg "BookError" = some (.ref C_BookError)
  mg_NoNumber : mg "NoNumber" = some (.ref C_NoNumber)
  mg_NoRule : mg "NoRule" = some (.ref C_NoRule)
  mg_Gone : mg "Gone" = some (.ref C_Gone)
  mg_NoAsk : mg "NoAsk" = some (.ref C_NoAsk)
  ex_BookError : ExcC K C_BookError
  kx_BookError : ExcK K C_BookError
  hit_BookError_BookError : PySem.W.mroIn K C_BookError (.ref C_BookError) = some true
  is_BookError_BookError : PySem.W.kitOne K (.ref C_BookError) (.ref C_BookError) = some true
  is_BookError_NoNumber : PySem.W.kitOne K (.ref C_BookError) (.ref C_NoNumber) = some false
  is_BookError_NoRule : PySem.W.kitOne K (.ref C_BookError) (.ref C_NoRule) = some false
  is_BookError_Gone : PySem.W.kitOne K (.ref C_BookError) (.ref C_Gone) = some false
  is_BookError_NoAsk : PySem.W.kitOne K (.ref C_BookError) (.ref C_NoAsk) = some false
  is_BookError_ValueError : PySem.W.kitOne K (.ref C_BookError) (.type "ValueError") = some true
  ex_NoNumber : ExcC K C_NoNumber
  kx_NoNumber : ExcK K C_NoNumber
  hit_NoNumber_BookError : PySem.W.mroIn K C_NoNumber (.ref C_BookError) = some true
  is_NoNumber_BookError : PySem.W.kitOne K (.ref C_NoNumber) (.ref C_BookError) = some true
  hit_NoNumber_NoNumber : PySem.W.mroIn K C_NoNumber (.ref C_NoNumber) = some true
  is_NoNumber_NoNumber : PySem.W.kitOne K (.ref C_NoNumber) (.ref C_NoNumber) = some true
  is_NoNumber_NoRule : PySem.W.kitOne K (.ref C_NoNumber) (.ref C_NoRule) = some false
  is_NoNumber_Gone : PySem.W.kitOne K (.ref C_NoNumber) (.ref C_Gone) = some false
  is_NoNumber_NoAsk : PySem.W.kitOne K (.ref C_NoNumber) (.ref C_NoAsk) = some false
  is_NoNumber_ValueError : PySem.W.kitOne K (.ref C_NoNumber) (.type "ValueError") = some true
  ex_NoRule : ExcC K C_NoRule
  kx_NoRule : ExcK K C_NoRule
  hit_NoRule_BookError : PySem.W.mroIn K C_NoRule (.ref C_BookError) = some true
  is_NoRule_BookError : PySem.W.kitOne K (.ref C_NoRule) (.ref C_BookError) = some true
  is_NoRule_NoNumber : PySem.W.kitOne K (.ref C_NoRule) (.ref C_NoNumber) = some false
  hit_NoRule_NoRule : PySem.W.mroIn K C_NoRule (.ref C_NoRule) = some true
  is_NoRule_NoRule : PySem.W.kitOne K (.ref C_NoRule) (.ref C_NoRule) = some true
  is_NoRule_Gone : PySem.W.kitOne K (.ref C_NoRule) (.ref C_Gone) = some false
  is_NoRule_NoAsk : PySem.W.kitOne K (.ref C_NoRule) (.ref C_NoAsk) = some false
  is_NoRule_ValueError : PySem.W.kitOne K (.ref C_NoRule) (.type "ValueError") = some true
  kx_Gone : ExcK K C_Gone
  hit_Gone_BookError : PySem.W.mroIn K C_Gone (.ref C_BookError) = some true
  is_Gone_BookError : PySem.W.kitOne K (.ref C_Gone) (.ref C_BookError) = some true
  is_Gone_NoNumber : PySem.W.kitOne K (.ref C_Gone) (.ref C_NoNumber) = some false
  is_Gone_NoRule : PySem.W.kitOne K (.ref C_Gone) (.ref C_NoRule) = some false
  hit_Gone_Gone : PySem.W.mroIn K C_Gone (.ref C_Gone) = some true
  is_Gone_Gone : PySem.W.kitOne K (.ref C_Gone) (.ref C_Gone) = some true
  is_Gone_NoAsk : PySem.W.kitOne K (.ref C_Gone) (.ref C_NoAsk) = some false
  is_Gone_ValueError : PySem.W.kitOne K (.ref C_Gone) (.type "ValueError") = some true
  ex_NoAsk : ExcC K C_NoAsk
  kx_NoAsk : ExcK K C_NoAsk
  hit_NoAsk_BookError : PySem.W.mroIn K C_NoAsk (.ref C_BookError) = some true
  is_NoAsk_BookError : PySem.W.kitOne K (.ref C_NoAsk) (.ref C_BookError) = some true
  is_NoAsk_NoNumber : PySem.W.kitOne K (.ref C_NoAsk) (.ref C_NoNumber) = some false
  is_NoAsk_NoRule : PySem.W.kitOne K (.ref C_NoAsk) (.ref C_NoRule) = some false
  is_NoAsk_Gone : PySem.W.kitOne K (.ref C_NoAsk) (.ref C_Gone) = some false
  hit_NoAsk_NoAsk : PySem.W.mroIn K C_NoAsk (.ref C_NoAsk) = some true
  is_NoAsk_NoAsk : PySem.W.kitOne K (.ref C_NoAsk) (.ref C_NoAsk) = some true
  is_NoAsk_ValueError : PySem.W.kitOne K (.ref C_NoAsk) (.type "ValueError") = some true
  bi_BookError : BaseI K C_BookError
  b_bool : mg "bool" = none
  b_int : mg "int" = none
  b_isinstance : mg "isinstance" = none
  b_len : mg "len" = none
  b_list : mg "list" = none
  b_max : mg "max" = none
  b_min : mg "min" = none
  b_range : mg "range" = none
  b_sorted : mg "sorted" = none
  b_sum : mg "sum" = none
  b_tuple : mg "tuple" = none
  b_zip : mg "zip" = none
  c_MOST_STEPS : ∃ t, mg "MOST_STEPS" = some (.int 5 t)
theorem txt_mk {K : PySem.W.Frag} {h : Heap} {mg : Str → Option Value} (X : K.In h) (G : h.Ns mainGlobals mg) {C_Roll C_Rule C_Gone f0 f1 f2 f3 f4 f5 f6 f7 f8 f9 f10 f11 f12 f13 f14 dT14 f15 f16 f17 f18 f19 f20 f21 f22 f23 f24 f25 f26 dT26 f27 f28 f29 f30 f31 f32 f33 f34 f35 f36 f37 f38 f39 f40 f41 f42 f43 C_BookError C_NoNumber C_NoRule C_NoAsk : Addr} {od0 an0 od1 an1 od2 an2 od3 an3 od4 an4 od5 an5 od6 an6 od7 an7 od8 an8 od9 an9 od10 an10 od11 an11 od12 an12 od13 an13 od14 an14 dd14 od15 an15 od16 an16 od17 an17 od18 an18 od19 an19 od20 an20 od21 an21 od22 an22 od23 an23 od24 an24 od25 an25 od26 an26 dd26 od27 an27 od28 an28 od29 an29 od30 an30 od31 an31 od32 an32 od33 an33 od34 an34 od35 an35 od36 an36 od37 an37 od38 an38 od39 an39 od40 an40 od41 an41 od42 an42 od43 an43 : Option Addr} {sl0 sl1 sl2 sl3 sl4 sl5 sl6 sl7 sl8 sl9 sl10 sl11 sl12 sl13 sl14 ds14 sl15 sl16 sl17 sl18 sl19 sl20 sl21 sl22 sl23 sl24 sl25 sl26 ds26 sl27 sl28 sl29 sl30 sl31 sl32 sl33 sl34 sl35 sl36 sl37 sl38 sl39 sl40 sl41 sl42 sl43 : Array (Option Value)} {oc0 kV0 dc0 pm0 cd0 ct0 oc1 kV1 dc1 pm1 cd1 ct1 oc2 kV2 dc2 pm2 cd2 ct2 oc3 kV3 dc3 pm3 cd3 ct3 oc4 kV4 dc4 pm4 cd4 ct4 oc5 kV5 dc5 pm5 cd5 ct5 oc6 kV6 dc6 pm6 cd6 ct6 oc7 kV7 dc7 pm7 cd7 ct7 oc8 kV8 dc8 pm8 cd8 ct8 oc9 kV9 dc9 pm9 cd9 ct9 oc10 kV10 dc10 pm10 cd10 ct10 oc11 kV11 dc11 pm11 cd11 ct11 oc12 kV12 dc12 pm12 cd12 ct12 oc13 kV13 dc13 pm13 cd13 ct13 oc14 kV14 dc14 pm14 cd14 ct14 dk14 oc15 kV15 dc15 pm15 cd15 ct15 oc16 kV16 dc16 pm16 cd16 ct16 oc17 kV17 dc17 pm17 cd17 ct17 oc18 kV18 dc18 pm18 cd18 ct18 oc19 kV19 dc19 pm19 cd19 ct19 oc20 kV20 dc20 pm20 cd20 ct20 oc21 kV21 dc21 pm21 cd21 ct21 oc22 kV22 dc22 pm22 cd22 ct22 oc23 kV23 dc23 pm23 cd23 ct23 oc24 kV24 dc24 pm24 cd24 ct24 oc25 kV25 dc25 pm25 cd25 ct25 oc26 kV26 dc26 pm26 cd26 ct26 dk26 oc27 kV27 dc27 pm27 cd27 ct27 oc28 kV28 dc28 pm28 cd28 ct28 oc29 kV29 dc29 pm29 cd29 ct29 oc30 kV30 dc30 pm30 cd30 ct30 oc31 kV31 dc31 pm31 cd31 ct31 oc32 kV32 dc32 pm32 cd32 ct32 oc33 kV33 dc33 pm33 cd33 ct33 oc34 kV34 dc34 pm34 cd34 ct34 oc35 kV35 dc35 pm35 cd35 ct35 oc36 kV36 dc36 pm36 cd36 ct36 oc37 kV37 dc37 pm37 cd37 ct37 oc38 kV38 dc38 pm38 cd38 ct38 oc39 kV39 dc39 pm39 cd39 ct39 oc40 kV40 dc40 pm40 cd40 ct40 oc41 kV41 dc41 pm41 cd41 ct41 oc42 kV42 dc42 pm42 cd42 ct42 oc43 kV43 dc43 pm43 cd43 ct43 : Value} {dn14 dn26 : Nat} {dt14 t_MOST_STEPS : Tok}
    (aCRoll : PySem.W.nsIn K mainGlobals "Roll" = some (some (.ref C_Roll)))
    (aCRule : PySem.W.nsIn K mainGlobals "Rule" = some (some (.ref C_Rule)))
    (xCGone : PySem.W.nsIn K mainGlobals "Gone" = some (some (.ref C_Gone)))
    (a0 : PySem.W.nsIn K mainGlobals "is_whole" = some (some (.ref f0)))
    (l0 : K.lookup f0 = some ⟨oc0, od0, .func (PySem.W.fnOf "is_whole" "is_whole" (defArgs s_is_whole) (defBody s_is_whole) (defScope s_is_whole) .none kV0 dc0 pm0 an0 cd0 ct0), sl0⟩)
    (c0 : PySem.W.codeIn K cd0 "is_whole" = true)
    (k0 : PySem.W.keepIn K (.ref f0) = true)
    (a1 : PySem.W.nsIn K mainGlobals "floored" = some (some (.ref f1)))
    (l1 : K.lookup f1 = some ⟨oc1, od1, .func (PySem.W.fnOf "floored" "floored" (defArgs s_floored) (defBody s_floored) (defScope s_floored) .none kV1 dc1 pm1 an1 cd1 ct1), sl1⟩)
    (c1 : PySem.W.codeIn K cd1 "floored" = true)
    (k1 : PySem.W.keepIn K (.ref f1) = true)
    (a2 : PySem.W.nsIn K mainGlobals "gone_cut" = some (some (.ref f2)))
    (l2 : K.lookup f2 = some ⟨oc2, od2, .func (PySem.W.fnOf "gone_cut" "gone_cut" (defArgs s_gone_cut) (defBody s_gone_cut) (defScope s_gone_cut) .none kV2 dc2 pm2 an2 cd2 ct2), sl2⟩)
    (c2 : PySem.W.codeIn K cd2 "gone_cut" = true)
    (k2 : PySem.W.keepIn K (.ref f2) = true)
    (a3 : PySem.W.nsIn K mainGlobals "edges_at" = some (some (.ref f3)))
    (l3 : K.lookup f3 = some ⟨oc3, od3, .func (PySem.W.fnOf "edges_at" "edges_at" (defArgs s_edges_at) (defBody s_edges_at) (defScope s_edges_at) .none kV3 dc3 pm3 an3 cd3 ct3), sl3⟩)
    (c3 : PySem.W.codeIn K cd3 "edges_at" = true)
    (k3 : PySem.W.keepIn K (.ref f3) = true)
    (a4 : PySem.W.nsIn K mainGlobals "is_gone" = some (some (.ref f4)))
    (l4 : K.lookup f4 = some ⟨oc4, od4, .func (PySem.W.fnOf "is_gone" "is_gone" (defArgs s_is_gone) (defBody s_is_gone) (defScope s_is_gone) .none kV4 dc4 pm4 an4 cd4 ct4), sl4⟩)
    (c4 : PySem.W.codeIn K cd4 "is_gone" = true)
    (k4 : PySem.W.keepIn K (.ref f4) = true)
    (a5 : PySem.W.nsIn K mainGlobals "width_at" = some (some (.ref f5)))
    (l5 : K.lookup f5 = some ⟨oc5, od5, .func (PySem.W.fnOf "width_at" "width_at" (defArgs s_width_at) (defBody s_width_at) (defScope s_width_at) .none kV5 dc5 pm5 an5 cd5 ct5), sl5⟩)
    (c5 : PySem.W.codeIn K cd5 "width_at" = true)
    (k5 : PySem.W.keepIn K (.ref f5) = true)
    (a6 : PySem.W.nsIn K mainGlobals "cell_at" = some (some (.ref f6)))
    (l6 : K.lookup f6 = some ⟨oc6, od6, .func (PySem.W.fnOf "cell_at" "cell_at" (defArgs s_cell_at) (defBody s_cell_at) (defScope s_cell_at) .none kV6 dc6 pm6 an6 cd6 ct6), sl6⟩)
    (c6 : PySem.W.codeIn K cd6 "cell_at" = true)
    (k6 : PySem.W.keepIn K (.ref f6) = true)
    (a7 : PySem.W.nsIn K mainGlobals "heap_of" = some (some (.ref f7)))
    (l7 : K.lookup f7 = some ⟨oc7, od7, .func (PySem.W.fnOf "heap_of" "heap_of" (defArgs s_heap_of) (defBody s_heap_of) (defScope s_heap_of) .none kV7 dc7 pm7 an7 cd7 ct7), sl7⟩)
    (c7 : PySem.W.codeIn K cd7 "heap_of" = true)
    (k7 : PySem.W.keepIn K (.ref f7) = true)
    (a8 : PySem.W.nsIn K mainGlobals "poured" = some (some (.ref f8)))
    (l8 : K.lookup f8 = some ⟨oc8, od8, .func (PySem.W.fnOf "poured" "poured" (defArgs s_poured) (defBody s_poured) (defScope s_poured) .none kV8 dc8 pm8 an8 cd8 ct8), sl8⟩)
    (c8 : PySem.W.codeIn K cd8 "poured" = true)
    (k8 : PySem.W.keepIn K (.ref f8) = true)
    (a9 : PySem.W.nsIn K mainGlobals "times_within" = some (some (.ref f9)))
    (l9 : K.lookup f9 = some ⟨oc9, od9, .func (PySem.W.fnOf "times_within" "times_within" (defArgs s_times_within) (defBody s_times_within) (defScope s_times_within) .none kV9 dc9 pm9 an9 cd9 ct9), sl9⟩)
    (c9 : PySem.W.codeIn K cd9 "times_within" = true)
    (k9 : PySem.W.keepIn K (.ref f9) = true)
    (a10 : PySem.W.nsIn K mainGlobals "is_cut" = some (some (.ref f10)))
    (l10 : K.lookup f10 = some ⟨oc10, od10, .func (PySem.W.fnOf "is_cut" "is_cut" (defArgs s_is_cut) (defBody s_is_cut) (defScope s_is_cut) .none kV10 dc10 pm10 an10 cd10 ct10), sl10⟩)
    (c10 : PySem.W.codeIn K cd10 "is_cut" = true)
    (k10 : PySem.W.keepIn K (.ref f10) = true)
    (a11 : PySem.W.nsIn K mainGlobals "check_begin" = some (some (.ref f11)))
    (l11 : K.lookup f11 = some ⟨oc11, od11, .func (PySem.W.fnOf "check_begin" "check_begin" (defArgs s_check_begin) (defBody s_check_begin) (defScope s_check_begin) .none kV11 dc11 pm11 an11 cd11 ct11), sl11⟩)
    (c11 : PySem.W.codeIn K cd11 "check_begin" = true)
    (k11 : PySem.W.keepIn K (.ref f11) = true)
    (a12 : PySem.W.nsIn K mainGlobals "pieces" = some (some (.ref f12)))
    (l12 : K.lookup f12 = some ⟨oc12, od12, .func (PySem.W.fnOf "pieces" "pieces" (defArgs s_pieces) (defBody s_pieces) (defScope s_pieces) .none kV12 dc12 pm12 an12 cd12 ct12), sl12⟩)
    (c12 : PySem.W.codeIn K cd12 "pieces" = true)
    (k12 : PySem.W.keepIn K (.ref f12) = true)
    (a13 : PySem.W.findIn K (.ref C_Roll) "__init__" = some (some (.ref f13)))
    (i13 : PySem.W.isFn K (.ref f13) = true)
    (l13 : K.lookup f13 = some ⟨oc13, od13, .func (PySem.W.fnOf "__init__" "Roll.__init__" (defArgs s_Roll_init) (defBody s_Roll_init) (defScope s_Roll_init) .none kV13 dc13 pm13 an13 cd13 ct13), sl13⟩)
    (c13 : PySem.W.codeIn K cd13 "Roll.__init__" = true)
    (k13 : PySem.W.keepIn K (.ref f13) = true)
    (a14 : PySem.W.findIn K (.ref C_Roll) "put" = some (some (.ref f14)))
    (i14 : PySem.W.isFn K (.ref f14) = true)
    (l14 : K.lookup f14 = some ⟨oc14, od14, .func (PySem.W.fnOf "put" "Roll.put" (defArgs s_Roll_put) (defBody s_Roll_put) (defScope s_Roll_put) (.ref dT14) kV14 dc14 pm14 an14 cd14 ct14), sl14⟩)
    (c14 : PySem.W.codeIn K cd14 "Roll.put" = true)
    (k14 : PySem.W.keepIn K (.ref f14) = true)
    (d14 : K.lookup dT14 = some ⟨dk14, dd14, .seq #[.int 1 dt14] dn14, ds14⟩)
    (a15 : PySem.W.findIn K (.ref C_Roll) "pour_into_cell" = some (some (.ref f15)))
    (i15 : PySem.W.isFn K (.ref f15) = true)
    (l15 : K.lookup f15 = some ⟨oc15, od15, .func (PySem.W.fnOf "pour_into_cell" "Roll.pour_into_cell" (defArgs s_Roll_pour_into_cell) (defBody s_Roll_pour_into_cell) (defScope s_Roll_pour_into_cell) .none kV15 dc15 pm15 an15 cd15 ct15), sl15⟩)
    (c15 : PySem.W.codeIn K cd15 "Roll.pour_into_cell" = true)
    (k15 : PySem.W.keepIn K (.ref f15) = true)
    (a16 : PySem.W.findIn K (.ref C_Roll) "rule" = some (some (.ref f16)))
    (i16 : PySem.W.isFn K (.ref f16) = true)
    (l16 : K.lookup f16 = some ⟨oc16, od16, .func (PySem.W.fnOf "rule" "Roll.rule" (defArgs s_Roll_rule) (defBody s_Roll_rule) (defScope s_Roll_rule) .none kV16 dc16 pm16 an16 cd16 ct16), sl16⟩)
    (c16 : PySem.W.codeIn K cd16 "Roll.rule" = true)
    (k16 : PySem.W.keepIn K (.ref f16) = true)
    (a17 : PySem.W.findIn K (.ref C_Roll) "day" = some (some (.ref f17)))
    (i17 : PySem.W.isFn K (.ref f17) = true)
    (l17 : K.lookup f17 = some ⟨oc17, od17, .func (PySem.W.fnOf "day" "Roll.day" (defArgs s_Roll_day) (defBody s_Roll_day) (defScope s_Roll_day) .none kV17 dc17 pm17 an17 cd17 ct17), sl17⟩)
    (c17 : PySem.W.codeIn K cd17 "Roll.day" = true)
    (k17 : PySem.W.keepIn K (.ref f17) = true)
    (a18 : PySem.W.findIn K (.ref C_Roll) "edges" = some (some (.ref f18)))
    (i18 : PySem.W.isFn K (.ref f18) = true)
    (l18 : K.lookup f18 = some ⟨oc18, od18, .func (PySem.W.fnOf "edges" "Roll.edges" (defArgs s_Roll_edges) (defBody s_Roll_edges) (defScope s_Roll_edges) .none kV18 dc18 pm18 an18 cd18 ct18), sl18⟩)
    (c18 : PySem.W.codeIn K cd18 "Roll.edges" = true)
    (k18 : PySem.W.keepIn K (.ref f18) = true)
    (a19 : PySem.W.findIn K (.ref C_Roll) "young" = some (some (.ref f19)))
    (i19 : PySem.W.isFn K (.ref f19) = true)
    (l19 : K.lookup f19 = some ⟨oc19, od19, .func (PySem.W.fnOf "young" "Roll.young" (defArgs s_Roll_young) (defBody s_Roll_young) (defScope s_Roll_young) .none kV19 dc19 pm19 an19 cd19 ct19), sl19⟩)
    (c19 : PySem.W.codeIn K cd19 "Roll.young" = true)
    (k19 : PySem.W.keepIn K (.ref f19) = true)
    (a20 : PySem.W.findIn K (.ref C_Roll) "heaps" = some (some (.ref f20)))
    (i20 : PySem.W.isFn K (.ref f20) = true)
    (l20 : K.lookup f20 = some ⟨oc20, od20, .func (PySem.W.fnOf "heaps" "Roll.heaps" (defArgs s_Roll_heaps) (defBody s_Roll_heaps) (defScope s_Roll_heaps) .none kV20 dc20 pm20 an20 cd20 ct20), sl20⟩)
    (c20 : PySem.W.codeIn K cd20 "Roll.heaps" = true)
    (k20 : PySem.W.keepIn K (.ref f20) = true)
    (a21 : PySem.W.nsIn K mainGlobals "is_step" = some (some (.ref f21)))
    (l21 : K.lookup f21 = some ⟨oc21, od21, .func (PySem.W.fnOf "is_step" "is_step" (defArgs s_is_step) (defBody s_is_step) (defScope s_is_step) .none kV21 dc21 pm21 an21 cd21 ct21), sl21⟩)
    (c21 : PySem.W.codeIn K cd21 "is_step" = true)
    (k21 : PySem.W.keepIn K (.ref f21) = true)
    (a22 : PySem.W.nsIn K mainGlobals "check_one_step" = some (some (.ref f22)))
    (l22 : K.lookup f22 = some ⟨oc22, od22, .func (PySem.W.fnOf "check_one_step" "check_one_step" (defArgs s_check_one_step) (defBody s_check_one_step) (defScope s_check_one_step) .none kV22 dc22 pm22 an22 cd22 ct22), sl22⟩)
    (c22 : PySem.W.codeIn K cd22 "check_one_step" = true)
    (k22 : PySem.W.keepIn K (.ref f22) = true)
    (a23 : PySem.W.nsIn K mainGlobals "check_next_step" = some (some (.ref f23)))
    (l23 : K.lookup f23 = some ⟨oc23, od23, .func (PySem.W.fnOf "check_next_step" "check_next_step" (defArgs s_check_next_step) (defBody s_check_next_step) (defScope s_check_next_step) .none kV23 dc23 pm23 an23 cd23 ct23), sl23⟩)
    (c23 : PySem.W.codeIn K cd23 "check_next_step" = true)
    (k23 : PySem.W.keepIn K (.ref f23) = true)
    (a24 : PySem.W.nsIn K mainGlobals "check_steps" = some (some (.ref f24)))
    (l24 : K.lookup f24 = some ⟨oc24, od24, .func (PySem.W.fnOf "check_steps" "check_steps" (defArgs s_check_steps) (defBody s_check_steps) (defScope s_check_steps) .none kV24 dc24 pm24 an24 cd24 ct24), sl24⟩)
    (c24 : PySem.W.codeIn K cd24 "check_steps" = true)
    (k24 : PySem.W.keepIn K (.ref f24) = true)
    (a25 : PySem.W.nsIn K mainGlobals "check_gone" = some (some (.ref f25)))
    (l25 : K.lookup f25 = some ⟨oc25, od25, .func (PySem.W.fnOf "check_gone" "check_gone" (defArgs s_check_gone) (defBody s_check_gone) (defScope s_check_gone) .none kV25 dc25 pm25 an25 cd25 ct25), sl25⟩)
    (c25 : PySem.W.codeIn K cd25 "check_gone" = true)
    (k25 : PySem.W.keepIn K (.ref f25) = true)
    (a26 : PySem.W.findIn K (.ref C_Rule) "__init__" = some (some (.ref f26)))
    (i26 : PySem.W.isFn K (.ref f26) = true)
    (l26 : K.lookup f26 = some ⟨oc26, od26, .func (PySem.W.fnOf "__init__" "Rule.__init__" (defArgs s_Rule_init) (defBody s_Rule_init) (defScope s_Rule_init) (.ref dT26) kV26 dc26 pm26 an26 cd26 ct26), sl26⟩)
    (c26 : PySem.W.codeIn K cd26 "Rule.__init__" = true)
    (k26 : PySem.W.keepIn K (.ref f26) = true)
    (d26 : K.lookup dT26 = some ⟨dk26, dd26, .seq #[.none] dn26, ds26⟩)
    (a27 : PySem.W.findIn K (.ref C_Rule) "steps" = some (some (.ref f27)))
    (i27 : PySem.W.isFn K (.ref f27) = true)
    (l27 : K.lookup f27 = some ⟨oc27, od27, .func (PySem.W.fnOf "steps" "Rule.steps" (defArgs s_Rule_steps) (defBody s_Rule_steps) (defScope s_Rule_steps) .none kV27 dc27 pm27 an27 cd27 ct27), sl27⟩)
    (c27 : PySem.W.codeIn K cd27 "Rule.steps" = true)
    (k27 : PySem.W.keepIn K (.ref f27) = true)
    (a28 : PySem.W.findIn K (.ref C_Rule) "gone" = some (some (.ref f28)))
    (i28 : PySem.W.isFn K (.ref f28) = true)
    (l28 : K.lookup f28 = some ⟨oc28, od28, .func (PySem.W.fnOf "gone" "Rule.gone" (defArgs s_Rule_gone) (defBody s_Rule_gone) (defScope s_Rule_gone) .none kV28 dc28 pm28 an28 cd28 ct28), sl28⟩)
    (c28 : PySem.W.codeIn K cd28 "Rule.gone" = true)
    (k28 : PySem.W.keepIn K (.ref f28) = true)
    (a29 : PySem.W.nsIn K mainGlobals "_law_cell_at" = some (some (.ref f29)))
    (l29 : K.lookup f29 = some ⟨oc29, od29, .func (PySem.W.fnOf "_law_cell_at" "_law_cell_at" (defArgs s__law_cell_at) (defBody s__law_cell_at) (defScope s__law_cell_at) .none kV29 dc29 pm29 an29 cd29 ct29), sl29⟩)
    (c29 : PySem.W.codeIn K cd29 "_law_cell_at" = true)
    (k29 : PySem.W.keepIn K (.ref f29) = true)
    (a30 : PySem.W.nsIn K mainGlobals "_law_stream" = some (some (.ref f30)))
    (l30 : K.lookup f30 = some ⟨oc30, od30, .func (PySem.W.fnOf "_law_stream" "_law_stream" (defArgs s__law_stream) (defBody s__law_stream) (defScope s__law_stream) .none kV30 dc30 pm30 an30 cd30 ct30), sl30⟩)
    (c30 : PySem.W.codeIn K cd30 "_law_stream" = true)
    (k30 : PySem.W.keepIn K (.ref f30) = true)
    (a31 : PySem.W.nsIn K mainGlobals "_law_run" = some (some (.ref f31)))
    (l31 : K.lookup f31 = some ⟨oc31, od31, .func (PySem.W.fnOf "_law_run" "_law_run" (defArgs s__law_run) (defBody s__law_run) (defScope s__law_run) .none kV31 dc31 pm31 an31 cd31 ct31), sl31⟩)
    (c31 : PySem.W.codeIn K cd31 "_law_run" = true)
    (k31 : PySem.W.keepIn K (.ref f31) = true)
    (a32 : PySem.W.nsIn K mainGlobals "_law_heap" = some (some (.ref f32)))
    (l32 : K.lookup f32 = some ⟨oc32, od32, .func (PySem.W.fnOf "_law_heap" "_law_heap" (defArgs s__law_heap) (defBody s__law_heap) (defScope s__law_heap) .none kV32 dc32 pm32 an32 cd32 ct32), sl32⟩)
    (c32 : PySem.W.codeIn K cd32 "_law_heap" = true)
    (k32 : PySem.W.keepIn K (.ref f32) = true)
    (a33 : PySem.W.nsIn K mainGlobals "_law_rule" = some (some (.ref f33)))
    (l33 : K.lookup f33 = some ⟨oc33, od33, .func (PySem.W.fnOf "_law_rule" "_law_rule" (defArgs s__law_rule) (defBody s__law_rule) (defScope s__law_rule) .none kV33 dc33 pm33 an33 cd33 ct33), sl33⟩)
    (c33 : PySem.W.codeIn K cd33 "_law_rule" = true)
    (k33 : PySem.W.keepIn K (.ref f33) = true)
    (a34 : PySem.W.nsIn K mainGlobals "_law_edges" = some (some (.ref f34)))
    (l34 : K.lookup f34 = some ⟨oc34, od34, .func (PySem.W.fnOf "_law_edges" "_law_edges" (defArgs s__law_edges) (defBody s__law_edges) (defScope s__law_edges) .none kV34 dc34 pm34 an34 cd34 ct34), sl34⟩)
    (c34 : PySem.W.codeIn K cd34 "_law_edges" = true)
    (k34 : PySem.W.keepIn K (.ref f34) = true)
    (a35 : PySem.W.nsIn K mainGlobals "_law_cell" = some (some (.ref f35)))
    (l35 : K.lookup f35 = some ⟨oc35, od35, .func (PySem.W.fnOf "_law_cell" "_law_cell" (defArgs s__law_cell) (defBody s__law_cell) (defScope s__law_cell) .none kV35 dc35 pm35 an35 cd35 ct35), sl35⟩)
    (c35 : PySem.W.codeIn K cd35 "_law_cell" = true)
    (k35 : PySem.W.keepIn K (.ref f35) = true)
    (a36 : PySem.W.nsIn K mainGlobals "_law_rows" = some (some (.ref f36)))
    (l36 : K.lookup f36 = some ⟨oc36, od36, .func (PySem.W.fnOf "_law_rows" "_law_rows" (defArgs s__law_rows) (defBody s__law_rows) (defScope s__law_rows) .none kV36 dc36 pm36 an36 cd36 ct36), sl36⟩)
    (c36 : PySem.W.codeIn K cd36 "_law_rows" = true)
    (k36 : PySem.W.keepIn K (.ref f36) = true)
    (a37 : PySem.W.nsIn K mainGlobals "_law_time" = some (some (.ref f37)))
    (l37 : K.lookup f37 = some ⟨oc37, od37, .func (PySem.W.fnOf "_law_time" "_law_time" (defArgs s__law_time) (defBody s__law_time) (defScope s__law_time) .none kV37 dc37 pm37 an37 cd37 ct37), sl37⟩)
    (c37 : PySem.W.codeIn K cd37 "_law_time" = true)
    (k37 : PySem.W.keepIn K (.ref f37) = true)
    (a38 : PySem.W.nsIn K mainGlobals "_law_reading" = some (some (.ref f38)))
    (l38 : K.lookup f38 = some ⟨oc38, od38, .func (PySem.W.fnOf "_law_reading" "_law_reading" (defArgs s__law_reading) (defBody s__law_reading) (defScope s__law_reading) .none kV38 dc38 pm38 an38 cd38 ct38), sl38⟩)
    (c38 : PySem.W.codeIn K cd38 "_law_reading" = true)
    (k38 : PySem.W.keepIn K (.ref f38) = true)
    (a39 : PySem.W.nsIn K mainGlobals "_law_due" = some (some (.ref f39)))
    (l39 : K.lookup f39 = some ⟨oc39, od39, .func (PySem.W.fnOf "_law_due" "_law_due" (defArgs s__law_due) (defBody s__law_due) (defScope s__law_due) .none kV39 dc39 pm39 an39 cd39 ct39), sl39⟩)
    (c39 : PySem.W.codeIn K cd39 "_law_due" = true)
    (k39 : PySem.W.keepIn K (.ref f39) = true)
    (a40 : PySem.W.nsIn K mainGlobals "_law_gone" = some (some (.ref f40)))
    (l40 : K.lookup f40 = some ⟨oc40, od40, .func (PySem.W.fnOf "_law_gone" "_law_gone" (defArgs s__law_gone) (defBody s__law_gone) (defScope s__law_gone) .none kV40 dc40 pm40 an40 cd40 ct40), sl40⟩)
    (c40 : PySem.W.codeIn K cd40 "_law_gone" = true)
    (k40 : PySem.W.keepIn K (.ref f40) = true)
    (a41 : PySem.W.nsIn K mainGlobals "_law_end" = some (some (.ref f41)))
    (l41 : K.lookup f41 = some ⟨oc41, od41, .func (PySem.W.fnOf "_law_end" "_law_end" (defArgs s__law_end) (defBody s__law_end) (defScope s__law_end) .none kV41 dc41 pm41 an41 cd41 ct41), sl41⟩)
    (c41 : PySem.W.codeIn K cd41 "_law_end" = true)
    (k41 : PySem.W.keepIn K (.ref f41) = true)
    (a42 : PySem.W.nsIn K mainGlobals "law" = some (some (.ref f42)))
    (l42 : K.lookup f42 = some ⟨oc42, od42, .func (PySem.W.fnOf "law" "law" (defArgs s_law) (defBody s_law) (defScope s_law) .none kV42 dc42 pm42 an42 cd42 ct42), sl42⟩)
    (c42 : PySem.W.codeIn K cd42 "law" = true)
    (k42 : PySem.W.keepIn K (.ref f42) = true)
    (a43 : PySem.W.findIn K (.ref C_Gone) "__init__" = some (some (.ref f43)))
    (i43 : PySem.W.isFn K (.ref f43) = true)
    (xi43 : excInI K C_Gone f43 = true)
    (xh43 : PySem.W.hasDictIn K C_Gone = true)
    (xs43 : PySem.W.findIn K (.ref C_Gone) "__setattr__" = some (some (.builtin "object.__setattr__")))
    (xn43 : PySem.W.findIn K (.ref C_Gone) "edge" = some none)
    (l43 : K.lookup f43 = some ⟨oc43, od43, .func (PySem.W.fnOf "__init__" "Gone.__init__" (defArgs s_Gone_init) (defBody s_Gone_init) (defScope s_Gone_init) .none kV43 dc43 pm43 an43 cd43 ct43), sl43⟩)
    (c43 : PySem.W.codeIn K cd43 "Gone.__init__" = true)
    (k43 : PySem.W.keepIn K (.ref f43) = true)
    (pgRoll : PySem.W.plainGet K C_Roll Str.empty = true)
    (hdRoll : PySem.W.hasDictIn K C_Roll = true)
    (poRoll : PySem.W.plainOver K C_Roll = true)
    (saRoll : PySem.W.findIn K (.ref C_Roll) "__setattr__" = some (some (.builtin "object.__setattr__")))
    (mkRoll : PySem.W.makesIn K C_Roll = true)
    (kcRoll : PySem.W.keepIn K (.ref C_Roll) = true)
    (nRoll_kept_rule : PySem.W.findIn K (.ref C_Roll) "kept_rule" = some none)
    (nRoll_kept_day : PySem.W.findIn K (.ref C_Roll) "kept_day" = some none)
    (nRoll_kept_edges : PySem.W.findIn K (.ref C_Roll) "kept_edges" = some none)
    (nRoll_whole_ones : PySem.W.findIn K (.ref C_Roll) "whole_ones" = some none)
    (nRoll_cell_heaps : PySem.W.findIn K (.ref C_Roll) "cell_heaps" = some none)
    (pgRule : PySem.W.plainGet K C_Rule Str.empty = true)
    (hdRule : PySem.W.hasDictIn K C_Rule = true)
    (poRule : PySem.W.plainOver K C_Rule = true)
    (saRule : PySem.W.findIn K (.ref C_Rule) "__setattr__" = some (some (.builtin "object.__setattr__")))
    (mkRule : PySem.W.makesIn K C_Rule = true)
    (kcRule : PySem.W.keepIn K (.ref C_Rule) = true)
    (nRule_kept_steps : PySem.W.findIn K (.ref C_Rule) "kept_steps" = some none)
    (nRule_gone_age : PySem.W.findIn K (.ref C_Rule) "gone_age" = some none)
    (xCBookError : PySem.W.nsIn K mainGlobals "BookError" = some (some (.ref C_BookError)))
    (xCNoNumber : PySem.W.nsIn K mainGlobals "NoNumber" = some (some (.ref C_NoNumber)))
    (xCNoRule : PySem.W.nsIn K mainGlobals "NoRule" = some (some (.ref C_NoRule)))
    (xCNoAsk : PySem.W.nsIn K mainGlobals "NoAsk" = some (some (.ref C_NoAsk)))
    (xEBookError : PySem.W.excIn K C_BookError veMro "ValueError.__new__" = true)
    (xKBookError0 : PySem.W.findIn K (.ref C_BookError) "__getattribute__" = some (some (.builtin "BaseException.__getattribute__")))
    (xKBookError1 : PySem.W.findIn K (.ref C_BookError) "__getattr__" = some none)
    (xKBookError2 : PySem.W.findIn K (.ref C_BookError) "__class__" = some (some (.builtin "object.__class__")))
    (xKBookError3 : PySem.W.mroIn K C_BookError (.type "object") = some true)
    (xKBookError4 : PySem.W.mroIn K C_BookError (.type "BaseException") = some true)
    (xKBookError5 : PySem.W.ktsIn K C_BookError "BaseException" = true)
    (xHBookError_BookError : PySem.W.mroIn K C_BookError (.ref C_BookError) = some true)
    (xIBookError_BookError : PySem.W.kitOne K (.ref C_BookError) (.ref C_BookError) = some true)
    (xIBookError_NoNumber : PySem.W.kitOne K (.ref C_BookError) (.ref C_NoNumber) = some false)
    (xIBookError_NoRule : PySem.W.kitOne K (.ref C_BookError) (.ref C_NoRule) = some false)
    (xIBookError_Gone : PySem.W.kitOne K (.ref C_BookError) (.ref C_Gone) = some false)
    (xIBookError_NoAsk : PySem.W.kitOne K (.ref C_BookError) (.ref C_NoAsk) = some false)
    (xVBookError : PySem.W.kitOne K (.ref C_BookError) (.type "ValueError") = some true)
    (xENoNumber : PySem.W.excIn K C_NoNumber veMro "ValueError.__new__" = true)
    (xKNoNumber0 : PySem.W.findIn K (.ref C_NoNumber) "__getattribute__" = some (some (.builtin "BaseException.__getattribute__")))
    (xKNoNumber1 : PySem.W.findIn K (.ref C_NoNumber) "__getattr__" = some none)
    (xKNoNumber2 : PySem.W.findIn K (.ref C_NoNumber) "__class__" = some (some (.builtin "object.__class__")))
    (xKNoNumber3 : PySem.W.mroIn K C_NoNumber (.type "object") = some true)
    (xKNoNumber4 : PySem.W.mroIn K C_NoNumber (.type "BaseException") = some true)
    (xKNoNumber5 : PySem.W.ktsIn K C_NoNumber "BaseException" = true)
    (xHNoNumber_BookError : PySem.W.mroIn K C_NoNumber (.ref C_BookError) = some true)
    (xINoNumber_BookError : PySem.W.kitOne K (.ref C_NoNumber) (.ref C_BookError) = some true)
    (xHNoNumber_NoNumber : PySem.W.mroIn K C_NoNumber (.ref C_NoNumber) = some true)
    (xINoNumber_NoNumber : PySem.W.kitOne K (.ref C_NoNumber) (.ref C_NoNumber) = some true)
    (xINoNumber_NoRule : PySem.W.kitOne K (.ref C_NoNumber) (.ref C_NoRule) = some false)
    (xINoNumber_Gone : PySem.W.kitOne K (.ref C_NoNumber) (.ref C_Gone) = some false)
    (xINoNumber_NoAsk : PySem.W.kitOne K (.ref C_NoNumber) (.ref C_NoAsk) = some false)
    (xVNoNumber : PySem.W.kitOne K (.ref C_NoNumber) (.type "ValueError") = some true)
    (xENoRule : PySem.W.excIn K C_NoRule veMro "ValueError.__new__" = true)
    (xKNoRule0 : PySem.W.findIn K (.ref C_NoRule) "__getattribute__" = some (some (.builtin "BaseException.__getattribute__")))
    (xKNoRule1 : PySem.W.findIn K (.ref C_NoRule) "__getattr__" = some none)
    (xKNoRule2 : PySem.W.findIn K (.ref C_NoRule) "__class__" = some (some (.builtin "object.__class__")))
    (xKNoRule3 : PySem.W.mroIn K C_NoRule (.type "object") = some true)
    (xKNoRule4 : PySem.W.mroIn K C_NoRule (.type "BaseException") = some true)
    (xKNoRule5 : PySem.W.ktsIn K C_NoRule "BaseException" = true)
    (xHNoRule_BookError : PySem.W.mroIn K C_NoRule (.ref C_BookError) = some true)
    (xINoRule_BookError : PySem.W.kitOne K (.ref C_NoRule) (.ref C_BookError) = some true)
    (xINoRule_NoNumber : PySem.W.kitOne K (.ref C_NoRule) (.ref C_NoNumber) = some false)
    (xHNoRule_NoRule : PySem.W.mroIn K C_NoRule (.ref C_NoRule) = some true)
    (xINoRule_NoRule : PySem.W.kitOne K (.ref C_NoRule) (.ref C_NoRule) = some true)
    (xINoRule_Gone : PySem.W.kitOne K (.ref C_NoRule) (.ref C_Gone) = some false)
    (xINoRule_NoAsk : PySem.W.kitOne K (.ref C_NoRule) (.ref C_NoAsk) = some false)
    (xVNoRule : PySem.W.kitOne K (.ref C_NoRule) (.type "ValueError") = some true)
    (xKGone0 : PySem.W.findIn K (.ref C_Gone) "__getattribute__" = some (some (.builtin "BaseException.__getattribute__")))
    (xKGone1 : PySem.W.findIn K (.ref C_Gone) "__getattr__" = some none)
    (xKGone2 : PySem.W.findIn K (.ref C_Gone) "__class__" = some (some (.builtin "object.__class__")))
    (xKGone3 : PySem.W.mroIn K C_Gone (.type "object") = some true)
    (xKGone4 : PySem.W.mroIn K C_Gone (.type "BaseException") = some true)
    (xKGone5 : PySem.W.ktsIn K C_Gone "BaseException" = true)
    (xHGone_BookError : PySem.W.mroIn K C_Gone (.ref C_BookError) = some true)
    (xIGone_BookError : PySem.W.kitOne K (.ref C_Gone) (.ref C_BookError) = some true)
    (xIGone_NoNumber : PySem.W.kitOne K (.ref C_Gone) (.ref C_NoNumber) = some false)
    (xIGone_NoRule : PySem.W.kitOne K (.ref C_Gone) (.ref C_NoRule) = some false)
    (xHGone_Gone : PySem.W.mroIn K C_Gone (.ref C_Gone) = some true)
    (xIGone_Gone : PySem.W.kitOne K (.ref C_Gone) (.ref C_Gone) = some true)
    (xIGone_NoAsk : PySem.W.kitOne K (.ref C_Gone) (.ref C_NoAsk) = some false)
    (xVGone : PySem.W.kitOne K (.ref C_Gone) (.type "ValueError") = some true)
    (xENoAsk : PySem.W.excIn K C_NoAsk veMro "ValueError.__new__" = true)
    (xKNoAsk0 : PySem.W.findIn K (.ref C_NoAsk) "__getattribute__" = some (some (.builtin "BaseException.__getattribute__")))
    (xKNoAsk1 : PySem.W.findIn K (.ref C_NoAsk) "__getattr__" = some none)
    (xKNoAsk2 : PySem.W.findIn K (.ref C_NoAsk) "__class__" = some (some (.builtin "object.__class__")))
    (xKNoAsk3 : PySem.W.mroIn K C_NoAsk (.type "object") = some true)
    (xKNoAsk4 : PySem.W.mroIn K C_NoAsk (.type "BaseException") = some true)
    (xKNoAsk5 : PySem.W.ktsIn K C_NoAsk "BaseException" = true)
    (xHNoAsk_BookError : PySem.W.mroIn K C_NoAsk (.ref C_BookError) = some true)
    (xINoAsk_BookError : PySem.W.kitOne K (.ref C_NoAsk) (.ref C_BookError) = some true)
    (xINoAsk_NoNumber : PySem.W.kitOne K (.ref C_NoAsk) (.ref C_NoNumber) = some false)
    (xINoAsk_NoRule : PySem.W.kitOne K (.ref C_NoAsk) (.ref C_NoRule) = some false)
    (xINoAsk_Gone : PySem.W.kitOne K (.ref C_NoAsk) (.ref C_Gone) = some false)
    (xHNoAsk_NoAsk : PySem.W.mroIn K C_NoAsk (.ref C_NoAsk) = some true)
    (xINoAsk_NoAsk : PySem.W.kitOne K (.ref C_NoAsk) (.ref C_NoAsk) = some true)
    (xVNoAsk : PySem.W.kitOne K (.ref C_NoAsk) (.type "ValueError") = some true)
    (xBBookError0 : PySem.W.specialIn K (.ref C_BookError) "__getattribute__" = some (some (.builtin "type.__getattribute__")))
    (xBBookError1 : PySem.W.readsIn K C_BookError (.type "type") = true)
    (xBBookError2 : PySem.W.findCls K (.ref C_BookError) (.type "type") "__init__" = some (.val (.builtin "ValueError.__init__")))
    (z_bool : PySem.W.nsIn K mainGlobals "bool" = some none)
    (z_int : PySem.W.nsIn K mainGlobals "int" = some none)
    (z_isinstance : PySem.W.nsIn K mainGlobals "isinstance" = some none)
    (z_len : PySem.W.nsIn K mainGlobals "len" = some none)
    (z_list : PySem.W.nsIn K mainGlobals "list" = some none)
    (z_max : PySem.W.nsIn K mainGlobals "max" = some none)
    (z_min : PySem.W.nsIn K mainGlobals "min" = some none)
    (z_range : PySem.W.nsIn K mainGlobals "range" = some none)
    (z_sorted : PySem.W.nsIn K mainGlobals "sorted" = some none)
    (z_sum : PySem.W.nsIn K mainGlobals "sum" = some none)
    (z_tuple : PySem.W.nsIn K mainGlobals "tuple" = some none)
    (z_zip : PySem.W.nsIn K mainGlobals "zip" = some none)
    (y_MOST_STEPS : PySem.W.nsIn K mainGlobals "MOST_STEPS" = some (some (.int 5 t_MOST_STEPS))) : ∃ C_Roll C_Rule C_BookError C_NoNumber C_NoRule C_Gone C_NoAsk, Txt K mg C_Roll C_Rule C_BookError C_NoNumber C_NoRule C_Gone C_NoAsk := by
  refine ⟨C_Roll, C_Rule, C_BookError, C_NoNumber, C_NoRule, C_Gone, C_NoAsk, ?_⟩
  exact ⟨⟨f0, _, fun_mk l0 c0 k0, PySem.W.mg_of X G a0⟩,
    ⟨f1, _, fun_mk l1 c1 k1, PySem.W.mg_of X G a1⟩,
    ⟨f2, _, fun_mk l2 c2 k2, PySem.W.mg_of X G a2⟩,
    ⟨f3, _, fun_mk l3 c3 k3, PySem.W.mg_of X G a3⟩,
    ⟨f4, _, fun_mk l4 c4 k4, PySem.W.mg_of X G a4⟩,
    ⟨f5, _, fun_mk l5 c5 k5, PySem.W.mg_of X G a5⟩,
    ⟨f6, _, fun_mk l6 c6 k6, PySem.W.mg_of X G a6⟩,
    ⟨f7, _, fun_mk l7 c7 k7, PySem.W.mg_of X G a7⟩,
    ⟨f8, _, fun_mk l8 c8 k8, PySem.W.mg_of X G a8⟩,
    ⟨f9, _, fun_mk l9 c9 k9, PySem.W.mg_of X G a9⟩,
    ⟨f10, _, fun_mk l10 c10 k10, PySem.W.mg_of X G a10⟩,
    ⟨f11, _, fun_mk l11 c11 k11, PySem.W.mg_of X G a11⟩,
    ⟨f12, _, fun_mk l12 c12 k12, PySem.W.mg_of X G a12⟩,
    ⟨f13, _, fun_mk l13 c13 k13, ⟨mkRoll, a13, i13, kcRoll⟩⟩,
    ⟨f14, _, dT14, _, _, dt14, ⟨⟨_, _, _, _, _, _, _, _, _, rfl, l14, c14⟩, k14⟩, ⟨a14, i14, k14⟩, rfl, d14, rfl⟩,
    ⟨f15, _, fun_mk l15 c15 k15, ⟨a15, i15, k15⟩⟩,
    ⟨f16, _, fun_mk l16 c16 k16, ⟨a16, i16, k16⟩⟩,
    ⟨f17, _, fun_mk l17 c17 k17, ⟨a17, i17, k17⟩⟩,
    ⟨f18, _, fun_mk l18 c18 k18, ⟨a18, i18, k18⟩⟩,
    ⟨f19, _, fun_mk l19 c19 k19, ⟨a19, i19, k19⟩⟩,
    ⟨f20, _, fun_mk l20 c20 k20, ⟨a20, i20, k20⟩⟩,
    ⟨f21, _, fun_mk l21 c21 k21, PySem.W.mg_of X G a21⟩,
    ⟨f22, _, fun_mk l22 c22 k22, PySem.W.mg_of X G a22⟩,
    ⟨f23, _, fun_mk l23 c23 k23, PySem.W.mg_of X G a23⟩,
    ⟨f24, _, fun_mk l24 c24 k24, PySem.W.mg_of X G a24⟩,
    ⟨f25, _, fun_mk l25 c25 k25, PySem.W.mg_of X G a25⟩,
    ⟨f26, _, dT26, _, _, ⟨⟨_, _, _, _, _, _, _, _, _, rfl, l26, c26⟩, k26⟩, ⟨mkRule, a26, i26, kcRule⟩, rfl, d26, rfl⟩,
    ⟨f27, _, fun_mk l27 c27 k27, ⟨a27, i27, k27⟩⟩,
    ⟨f28, _, fun_mk l28 c28 k28, ⟨a28, i28, k28⟩⟩,
    ⟨f29, _, fun_mk l29 c29 k29, PySem.W.mg_of X G a29⟩,
    ⟨f30, _, fun_mk l30 c30 k30, PySem.W.mg_of X G a30⟩,
    ⟨f31, _, fun_mk l31 c31 k31, PySem.W.mg_of X G a31⟩,
    ⟨f32, _, fun_mk l32 c32 k32, PySem.W.mg_of X G a32⟩,
    ⟨f33, _, fun_mk l33 c33 k33, PySem.W.mg_of X G a33⟩,
    ⟨f34, _, fun_mk l34 c34 k34, PySem.W.mg_of X G a34⟩,
    ⟨f35, _, fun_mk l35 c35 k35, PySem.W.mg_of X G a35⟩,
    ⟨f36, _, fun_mk l36 c36 k36, PySem.W.mg_of X G a36⟩,
    ⟨f37, _, fun_mk l37 c37 k37, PySem.W.mg_of X G a37⟩,
    ⟨f38, _, fun_mk l38 c38 k38, PySem.W.mg_of X G a38⟩,
    ⟨f39, _, fun_mk l39 c39 k39, PySem.W.mg_of X G a39⟩,
    ⟨f40, _, fun_mk l40 c40 k40, PySem.W.mg_of X G a40⟩,
    ⟨f41, _, fun_mk l41 c41 k41, PySem.W.mg_of X G a41⟩,
    ⟨f42, _, fun_mk l42 c42 k42, PySem.W.mg_of X G a42⟩,
    ⟨f43, _, fun_mk l43 c43 k43, ⟨xi43, i43, ⟨xKGone0, xKGone1, xKGone2, xKGone3, xKGone4, xKGone5⟩, xh43, xs43, xn43⟩⟩,
    ⟨pgRoll, hdRoll, poRoll, saRoll⟩,
    PySem.W.mg_of X G aCRoll,
    nRoll_kept_rule,
    nRoll_kept_day,
    nRoll_kept_edges,
    nRoll_whole_ones,
    nRoll_cell_heaps,
    ⟨pgRule, hdRule, poRule, saRule⟩,
    PySem.W.mg_of X G aCRule,
    nRule_kept_steps,
    nRule_gone_age,
    PySem.W.mg_of X G xCBookError,
    PySem.W.mg_of X G xCNoNumber,
    PySem.W.mg_of X G xCNoRule,
    PySem.W.mg_of X G xCGone,
    PySem.W.mg_of X G xCNoAsk,
    xEBookError,
    ⟨xKBookError0, xKBookError1, xKBookError2, xKBookError3, xKBookError4, xKBookError5⟩,
    xHBookError_BookError,
    xIBookError_BookError,
    xIBookError_NoNumber,
    xIBookError_NoRule,
    xIBookError_Gone,
    xIBookError_NoAsk,
    xVBookError,
    xENoNumber,
    ⟨xKNoNumber0, xKNoNumber1, xKNoNumber2, xKNoNumber3, xKNoNumber4, xKNoNumber5⟩,
    xHNoNumber_BookError,
    xINoNumber_BookError,
    xHNoNumber_NoNumber,
    xINoNumber_NoNumber,
    xINoNumber_NoRule,
    xINoNumber_Gone,
    xINoNumber_NoAsk,
    xVNoNumber,
    xENoRule,
    ⟨xKNoRule0, xKNoRule1, xKNoRule2, xKNoRule3, xKNoRule4, xKNoRule5⟩,
    xHNoRule_BookError,
    xINoRule_BookError,
    xINoRule_NoNumber,
    xHNoRule_NoRule,
    xINoRule_NoRule,
    xINoRule_Gone,
    xINoRule_NoAsk,
    xVNoRule,
    ⟨xKGone0, xKGone1, xKGone2, xKGone3, xKGone4, xKGone5⟩,
    xHGone_BookError,
    xIGone_BookError,
    xIGone_NoNumber,
    xIGone_NoRule,
    xHGone_Gone,
    xIGone_Gone,
    xIGone_NoAsk,
    xVGone,
    xENoAsk,
    ⟨xKNoAsk0, xKNoAsk1, xKNoAsk2, xKNoAsk3, xKNoAsk4, xKNoAsk5⟩,
    xHNoAsk_BookError,
    xINoAsk_BookError,
    xINoAsk_NoNumber,
    xINoAsk_NoRule,
    xINoAsk_Gone,
    xHNoAsk_NoAsk,
    xINoAsk_NoAsk,
    xVNoAsk,
    ⟨xBBookError0, xBBookError1, xBBookError2⟩,
    PySem.W.mg_none_of X G z_bool,
    PySem.W.mg_none_of X G z_int,
    PySem.W.mg_none_of X G z_isinstance,
    PySem.W.mg_none_of X G z_len,
    PySem.W.mg_none_of X G z_list,
    PySem.W.mg_none_of X G z_max,
    PySem.W.mg_none_of X G z_min,
    PySem.W.mg_none_of X G z_range,
    PySem.W.mg_none_of X G z_sorted,
    PySem.W.mg_none_of X G z_sum,
    PySem.W.mg_none_of X G z_tuple,
    PySem.W.mg_none_of X G z_zip,
    ⟨_, PySem.W.mg_of X G y_MOST_STEPS⟩⟩
section
variable {P : Program} {w : World} {K : PySem.W.Frag} {mg : Str → Option Value} {base : Heap} {C_Roll C_Rule C_BookError C_NoNumber C_NoRule C_Gone C_NoAsk : Addr}
theorem D_is_whole (T : Txt K mg C_Roll C_Rule C_BookError C_NoNumber C_NoRule C_Gone C_NoAsk) : DefOk P w K mg base 1 "is_whole" ["thing"] sp_is_whole := by
  obtain ⟨f, fd, F, hm⟩ := T.f_is_whole
  have nd := sc_is_whole.nd
  refine F.def_ hm (F.ok sc_is_whole (fun vs H Q E h => ?_) (fun cdv A outer s H vs Q E hr h => ?_)) (F.binds fun _ _ _ _ _ _ us hl => by obtain ⟨_, rfl⟩ := L2.lq1 hl; rfl)
  · obtain ⟨x, rfl, _⟩ := h; rfl
  · obtain ⟨x, rfl, i, rfl, q⟩ := h
    refine ⟨_, (pss_one (ps_ret (pe_and (pe_callB call_isi rfl T.b_isinstance bt_isinstance (pa_cons (pv 0) (pa_cons (pe_bltn (v := .ty "int") rfl T.b_int bt_int rfl) pa_nil))) (pe_one (pe_not (pe_callB call_isi rfl T.b_isinstance bt_isinstance (pa_cons (pv 0) (pa_cons (pe_bltn (v := .ty "bool") rfl T.b_bool bt_bool rfl) pa_nil)))))))), ?_⟩
    refine ⟨_, rfl, _, _, _, true, rfl, .int i, kit_int_int _, _, rfl, iteT ?_⟩
    exact ⟨_, rfl, _, _, _, false, rfl, .int i, kit_int_bool _, _, rfl, q⟩
theorem D_is_step (T : Txt K mg C_Roll C_Rule C_BookError C_NoNumber C_NoRule C_Gone C_NoAsk) : DefOk P w K mg base 2 "is_step" ["thing"] sp_is_step := by
  obtain ⟨f, fd, F, hm⟩ := T.f_is_step
  have nd := sc_is_step.nd
  refine F.def_ hm (F.ok sc_is_step (fun vs H Q E h => ?_) (fun cdv A outer s H vs Q E hr h => ?_)) (F.binds fun _ _ _ _ _ _ us hl => by obtain ⟨_, rfl⟩ := L2.lq1 hl; rfl)
  · obtain ⟨x, p, rfl, _⟩ := h; rfl
  · obtain ⟨x, p, rfl, ⟨a, rfl, ha⟩, q⟩ := h
    refine ⟨_, (pss_one (ps_ret (pe_and (pe_callB call_isi rfl T.b_isinstance bt_isinstance (pa_cons (pv 0) (pa_cons (pe_bltn (v := .ty "tuple") rfl T.b_tuple bt_tuple rfl) pa_nil))) (pe_and (pe_cmpR op_eq (pe_callB call_len_seq rfl T.b_len bt_len (pa_cons (pv 0) pa_nil)) pe_int (nomark _)) (pe_and (pe_fn (D_is_whole T) (hr.mono (by decide)) rfl (pa_cons (pe_ix ix_tup (pv 0) pe_int (fun _ _ => rfl)) pa_nil)) (pe_one (pe_fn (D_is_whole T) (hr.mono (by decide)) rfl (pa_cons (pe_ix ix_tup (pv 0) pe_int (fun _ _ => rfl)) pa_nil)))))))), ?_⟩
    refine ⟨_, rfl, _, _, _, true, rfl, .tup ha, kit_tuple _, _, rfl, iteT ?_⟩
    refine ⟨_, rfl, a, _, rfl, .inr (SqT.of ha), rfl, _, rfl, iteT ?_⟩
    refine ⟨_, rfl, a, _, 0, _, rfl, rfl, SqT.of ha, rfl, _, rfl, _, rfl, _, rfl, iteT ?_⟩
    exact ⟨_, rfl, a, _, 1, _, rfl, rfl, SqT.of ha, rfl, _, rfl, _, rfl, q⟩
theorem D_check_one_step (T : Txt K mg C_Roll C_Rule C_BookError C_NoNumber C_NoRule C_Gone C_NoAsk) : DefOk P w K mg base 3 "check_one_step" ["step"] sp_check_one_step := by
  obtain ⟨f, fd, F, hm⟩ := T.f_check_one_step
  have nd := sc_check_one_step.nd
  refine F.def_ hm (F.ok sc_check_one_step (fun vs H Q E h => ?_) (fun cdv A outer s H vs Q E hr h => ?_)) (F.binds fun _ _ _ _ _ _ us hl => by obtain ⟨_, rfl⟩ := L2.lq1 hl; rfl)
  · obtain ⟨x, p, rfl, _⟩ := h; rfl
  · obtain ⟨x, p, rfl, hp, h1, h2, q⟩ := h
    obtain ⟨a, rfl, ha⟩ := id hp
    refine ⟨_, (pss_cons (ps_if (pt_not (pt_val (pe_fn (D_is_step T) (hr.mono (by decide)) rfl (pa_cons (pv 0) pa_nil))))
        (pss_one ps_never)
        pss_nil)
      (pss_cons (ps_if (pt_cmpR op_lt (pe_ix ix_tup (pv 0) pe_int (fun _ _ => rfl)) pe_int (nomark _))
        (pss_one ps_never)
        pss_nil)
      (pss_one (ps_if (pt_cmpR op_lt (pe_ix ix_tup (pv 0) pe_int (fun _ _ => rfl)) pe_int (nomark _))
        (pss_one ps_never)
        pss_nil)))), ?_⟩
    refine ⟨_, rfl, _, p, rfl, hp, _, rfl, iteF ?_⟩
    refine ⟨_, rfl, a, _, 0, _, rfl, rfl, SqT.of ha, rfl, _, _, rfl, rfl, _, rfl, ite2 (fun z => ?_) fun _ => ?_⟩
    · exact absurd (of_decide_eq_true z) (by omega)
    refine ⟨_, rfl, a, _, 1, _, rfl, rfl, SqT.of ha, rfl, _, _, rfl, rfl, _, rfl, ite2 (fun z => ?_) fun _ => q⟩
    exact absurd (of_decide_eq_true z) (by omega)
theorem D_check_next_step (T : Txt K mg C_Roll C_Rule C_BookError C_NoNumber C_NoRule C_Gone C_NoAsk) : DefOk P w K mg base 1 "check_next_step" ["step", "behind"] sp_check_next_step := by
  obtain ⟨f, fd, F, hm⟩ := T.f_check_next_step
  have nd := sc_check_next_step.nd
  refine F.def_ hm (F.ok sc_check_next_step (fun vs H Q E h => ?_) (fun cdv A outer s H vs Q E hr h => ?_)) (F.binds fun _ _ _ _ _ _ us hl => by obtain ⟨_, _, rfl⟩ := L2.lq2 hl; rfl)
  · obtain ⟨x, y, p, p', rfl, _⟩ := h; rfl
  · obtain ⟨x, y, p, p', rfl, ⟨a, rfl, ha⟩, ⟨b, rfl, hb⟩, h0, h1, h2, q⟩ := h
    refine ⟨_, (pss_cons (ps_if (pt_cmpR op_lt (pe_ix ix_tup (pv 1) pe_int (fun _ _ => rfl)) (pe_ix ix_tup (pv 0) pe_int (fun _ _ => rfl)) (nomark _))
        (pss_one ps_never)
        pss_nil)
      (pss_one (ps_if (pt_cmpR op_ne (pe_op op_mod (pe_ix ix_tup (pv 1) pe_int (fun _ _ => rfl)) (pe_ix ix_tup (pv 0) pe_int (fun _ _ => rfl))) pe_int (nomark _))
        (pss_one ps_never)
        pss_nil))), ?_⟩
    refine ⟨_, rfl, b, _, 0, _, rfl, rfl, SqT.of hb, rfl, _, rfl, a, _, 0, _, rfl, rfl, SqT.of ha, rfl, _, _, rfl, rfl, _, rfl, ite2 (fun z => ?_) fun _ => ?_⟩
    · exact absurd (of_decide_eq_true z) (by omega)
    refine ⟨_, rfl, b, _, 1, _, rfl, rfl, SqT.of hb, rfl, _, rfl, a, _, 1, _, rfl, rfl, SqT.of ha, rfl, _, _, rfl, rfl, (by show 0 < p.2; omega), rfl, _, rfl, ?_⟩
    refine iteNS ?_ q
    exact congrArg V.int h2
theorem D_check_steps (T : Txt K mg C_Roll C_Rule C_BookError C_NoNumber C_NoRule C_Gone C_NoAsk) : DefOk P w K mg base 4 "check_steps" ["steps"] sp_check_steps := by
  obtain ⟨f, fd, F, hm⟩ := T.f_check_steps
  have nd := sc_check_steps.nd
  refine F.def_ hm (F.ok sc_check_steps (fun vs H Q E h => ?_) (fun cdv A outer s H vs Q E hr h => ?_)) (F.binds fun _ _ _ _ _ _ us hl => by obtain ⟨_, rfl⟩ := L2.lq1 hl; rfl)
  · obtain ⟨l, xs, ps, rfl, _⟩ := h; rfl
  · obtain ⟨l, xs, ps, rfl, hl, hp, G, q⟩ := h
    have hlen := hp.length
    have g1 := G.lo
    have g2 := G.hi
    refine ⟨_, (pss_cons (ps_if (PW.pt (pw_or (pt_cmpR op_lt (pe_callB call_len_seq rfl T.b_len bt_len (pa_cons (pv 0) pa_nil)) pe_int (nomark _)) (pw_or1 (pt_cmpR op_gt (pe_callB call_len_seq rfl T.b_len bt_len (pa_cons (pv 0) pa_nil)) (pe_glob (v := .int 5) rfl T.c_MOST_STEPS.choose_spec ⟨_, rfl⟩) (nomark _)))))
        (pss_one ps_never)
        pss_nil)
      (pss_cons (ps_for PassesOwn.never rfl (pi_list (pv 0)) (pg_name (i := 1) nd rfl (Or.inl rfl))
        (pss_one (ps_expr (pe_fn (D_check_one_step T) (hr.mono (by decide)) rfl (pa_cons (pv 1) pa_nil)))))
      (pss_one (ps_for PassesOwn.never rfl (pi_zip rfl T.b_zip (pa_cons (pv 0) (pa_cons (pe_slice sl_listN (pv 0) (po_some pe_int) po_none) pa_nil))) (pg_tup rfl (pgs_cons (pg_name (i := 1) nd rfl (Or.inl rfl)) (pgs_cons (pg_name (i := 2) nd rfl (Or.inl rfl)) pgs_nil)))
        (pss_one (ps_expr (pe_fn (D_check_next_step T) (hr.mono (by decide)) rfl (pa_cons (pv 1) (pa_cons (pv 2) pa_nil))))))))), ?_⟩
    refine ⟨_, rfl, l, xs, rfl, .inl (SqL.of hl), _, _, rfl, rfl, _, rfl, ite2 (fun z => ?_) fun _ => ?_⟩
    · exact absurd (of_decide_eq_true z) (by omega)
    refine ⟨_, rfl, l, xs, rfl, .inl (SqL.of hl), _, _, rfl, rfl, _, rfl, ite2 (fun z => ?_) fun _ => ?_⟩
    · exact absurd (of_decide_eq_true z) (by omega)
    refine ⟨_, rfl, l, rfl, ⟨_, SqL.of hl⟩, for_list (xs := xs) (fun i σ H2 => H2 = H ∧ ∃ v, σ = [some (.ref l), v, none]) ⟨rfl, none, rfl⟩ (fun i σ H2 _ h2 => by rw [h2.1]; exact SqL.of hl) ?_ ?_⟩
    · rintro i x σ H2 hi ⟨rfl, v, rfl⟩
      obtain ⟨p, hpi, hx⟩ := hp.get hi
      obtain ⟨e1, e2⟩ := G.each i p hpi
      exact ⟨_, rfl, _, p, rfl, hx, e1, e2, rfl, _, rfl⟩
    · rintro σ H2 ⟨rfl, v, rfl⟩
      refine ⟨_, rfl, _, rfl, _, rfl, _, xs, rfl, SqL.of hl, fun l2 H3 n3 => ?_⟩
      refine ⟨l, l2, xs, _, rfl, SqL.of (n3.same _ _ hl), SqL.of n3.at_, for_zipN (xs := xs) (ys := cutV xs (some 1) none) (fun i σ H4 => Same H3 H4 ∧ ∃ u v, σ = [some (.ref l), u, v]) ⟨Same.refl _, _, _, rfl⟩
        (fun i σ H4 h4 => ⟨SqL.of (h4.1 _ _ (n3.same _ _ hl)), SqL.of (h4.1 _ _ n3.at_)⟩) ?_ ?_⟩
      · rintro i x y σ H4 p H5 hx hy n5 ⟨s4, u, v', rfl⟩
        obtain ⟨p1, hp1, hx1⟩ := hp.get hx
        have hy' : xs[i + 1]? = some y := by
          have : cutV xs (some 1) none = xs.drop 1 := cut1 xs
          rw [this, List.getElem?_drop] at hy
          rwa [Nat.add_comm] at hy
        obtain ⟨p2, hp2, hx2⟩ := hp.get hy'
        obtain ⟨e1, e2⟩ := G.next i p1 p2 hp1 hp2
        obtain ⟨_, e3⟩ := G.each i p1 hp1
        have s5 : Same H2 H5 := n3.same.trans (s4.trans n5.same)
        refine ⟨p, _, rfl, SqT.of n5.at_, rfl, _, _, rfl, _, _, rfl, rfl, ?_⟩
        exact ⟨_, rfl, _, rfl, x, y, p1, p2, rfl, hx1.same s5, hx2.same s5, e3, e1, e2, s4.trans n5.same, _, _, rfl⟩
      · rintro i σ H4 _ ⟨s4, _, _, _⟩
        exact q H4 (n3.same.trans s4)
theorem D_check_gone (T : Txt K mg C_Roll C_Rule C_BookError C_NoNumber C_NoRule C_Gone C_NoAsk) : DefOk P w K mg base 2 "check_gone" ["gone", "last_age"] sp_check_gone := by
  obtain ⟨f, fd, F, hm⟩ := T.f_check_gone
  have nd := sc_check_gone.nd
  refine F.def_ hm (F.ok sc_check_gone (fun vs H Q E h => ?_) (fun cdv A outer s H vs Q E hr h => ?_)) (F.binds fun _ _ _ _ _ _ us hl => by obtain ⟨_, _, rfl⟩ := L2.lq2 hl; rfl)
  · obtain ⟨g, last, rfl, _⟩ := h; rfl
  · obtain ⟨g, last, rfl, hg, q⟩ := h
    refine ⟨_, (pss_cons (ps_if (pt_cmpR op_isN (pv 0) pe_non (nomark _))
        (pss_one ps_retN)
        pss_nil)
      (pss_one (ps_if (PW.pt (pw_or (pt_not (pt_val (pe_fn (D_is_whole T) (hr.mono (by decide)) rfl (pa_cons (pv 0) pa_nil)))) (pw_or1 (pt_cmpR op_lt (pv 0) (pv 1) (nomark _)))))
        (pss_one ps_never)
        pss_nil))), ?_⟩
    cases g with
    | none => exact ⟨_, rfl, rfl, _, rfl, iteT q⟩
    | some z =>
      refine ⟨_, rfl, rfl, _, rfl, iteF ?_⟩
      refine ⟨_, rfl, _, rfl, z, rfl, _, rfl, iteF ?_⟩
      refine ⟨_, rfl, _, rfl, _, _, rfl, rfl, _, rfl, ite2 (fun y => ?_) fun _ => q⟩
      exact absurd (of_decide_eq_true y) (by have := hg z rfl; omega)
theorem G_Rule_init (T : Txt K mg C_Roll C_Rule C_BookError C_NoNumber C_NoRule C_Gone C_NoAsk) : ∃ f fd dT o n, FnOk P w K mg base CX0 5 f fd ["self", "steps", "gone"] (sp2_init C_Rule) ∧ FunD K "__init__" "Rule.__init__" s_Rule_init (.ref dT) f fd ∧ Mk K C_Rule f ∧ fd.defaults = .ref dT ∧ K.lookup dT = some o ∧ o.data = .seq #[.none] n := by
  obtain ⟨f, fd, dT, o, n, F, M, h1, h2, h3⟩ := T.f_Rule_init
  have nd := sc_Rule_init.nd
  refine ⟨f, fd, dT, o, n, (F.ok sc_Rule_init (fun vs H Q E h => ?_) (fun cdv A outer s H vs Q E hr h => ?_)), F, M, h1, h2, h3⟩
  · obtain ⟨r, dx, l, xs, ps, g, rfl, _⟩ := h; rfl
  · obtain ⟨r, dx, l, xs, ps, g, rfl, hro, hl, hp, G, hg, k⟩ := h
    have g1 := G.lo
    refine ⟨_, (pss_cons (ps_set (i := 3) nd rfl (Or.inl rfl) (pe_callTy call_listN rfl T.b_list bt_list (pa_cons (pv 1) pa_nil)))
      (pss_cons (ps_expr (pe_fn (D_check_steps T) (hr.mono (by decide)) rfl (pa_cons (pv 3) pa_nil)))
      (pss_cons (ps_expr (pe_fn (D_check_gone T) (hr.mono (by decide)) rfl (pa_cons (pv 2) (pa_cons (pe_ix ix_tup (pe_ix ix_list (pv 3) (pe_un un_neg pe_int) (fun _ _ => rfl)) pe_int (fun _ _ => rfl)) pa_nil))))
      (pss_cons (ps_fldN (pv 0) (pv 3) rfl)
      (pss_one (ps_fldN (pv 0) (pv 2) rfl)))))), ?_⟩
    refine ⟨_, rfl, l, xs, rfl, .inl (SqL.of hl), fun l' H1 n1 => ?_⟩
    refine ⟨_, rfl, l', xs, ps, rfl, n1.at_, hp.same n1.same, G, fun H2 s2 => ?_⟩
    have hl2 := s2 _ _ n1.at_
    have hp2 := (hp.same n1.same).same s2
    have hlen := hp.length
    obtain ⟨v, hv⟩ : ∃ v, xs[xs.length - 1]? = some v := ⟨xs[xs.length - 1]'(by omega), List.getElem?_eq_getElem _⟩
    obtain ⟨p, hpv, a, rfl, ha⟩ := hp2.get hv
    refine ⟨_, rfl, _, rfl, _, rfl, l', xs, -1, _, rfl, rfl, SqL.of hl2, atI_m1 hv, a, _, 0, _, rfl, rfl, SqT.of ha, rfl, g, p.1, rfl, hg p (by rw [← hlen]; exact hpv), ?_⟩
    have hr2 := s2 _ _ (n1.same _ _ hro)
    have nrl : r ≠ l' := ne_of_none hro n1.fresh
    refine ⟨_, rfl, _, rfl, r, C_Rule, dx, [], rfl, hr2, T.cl_Rule, T.na_Rule_kept_steps, (by show 0 < 1000; decide), fun H3 b3 h3 => ?_⟩
    refine ⟨_, rfl, _, rfl, r, C_Rule, dx, _, rfl, h3, T.cl_Rule, T.na_Rule_gone_age, (by show 1 < 1000; decide), fun H4 b4 h4 => ?_⟩
    refine k l' _ n1.fresh ⟨⟨dx, h4⟩, xs, b4 _ _ (b3 _ _ hl2 nrl.symm) nrl.symm, (hp2.but b3 hr2 ins_nt).but b4 h3 ins_nt⟩ fun b o e hb => ?_
    exact b4 _ _ (b3 _ _ (s2 _ _ (n1.same _ _ e)) hb) hb
theorem D_Rule_2 (T : Txt K mg C_Roll C_Rule C_BookError C_NoNumber C_NoRule C_Gone C_NoAsk) : MkOk P w K mg base C_Rule 5 "Rule" ["self", "steps", "gone"] [] (sp2_init C_Rule) := by
  obtain ⟨f, fd, dT, o, n, hf, F, M, h1, h2, h3⟩ := G_Rule_init (P := P) (w := w) (base := base) T
  refine ⟨f, fd, hf, T.mg_Rule, M, binds_d h1 h2 h3 fun us hl => ?_⟩
  obtain ⟨oc, od, kV, doc, pm, an, cdv, ct, osl, rfl, lk, hcd⟩ := F.ex
  obtain ⟨_, _, _, rfl⟩ := L2.lq3 (us := us) (by simpa using hl)
  exact ⟨_, rfl, rfl⟩
theorem D_Rule_steps (T : Txt K mg C_Roll C_Rule C_BookError C_NoNumber C_NoRule C_Gone C_NoAsk) : MetOk P w K mg base C_Rule 1 "steps" ["self"] (sp2_steps C_Rule) := by
  obtain ⟨f, fd, F, hm⟩ := T.f_Rule_steps
  have nd := sc_Rule_steps.nd
  refine ⟨f, fd, (F.ok sc_Rule_steps (fun vs H Q E h => ?_) (fun cdv A outer s H vs Q E hr h => ?_)), hm, (F.binds fun _ _ _ _ _ _ us hl => by obtain ⟨_, rfl⟩ := L2.lq1 hl; rfl)⟩
  · obtain ⟨r, l, ps, g, xs, rfl, _⟩ := h; rfl
  · obtain ⟨r, l, ps, g, xs, rfl, R, hl, k⟩ := h
    obtain ⟨dx, hob⟩ := R.ob
    refine ⟨_, (pss_one (ps_ret (pe_callTy call_listN rfl T.b_list bt_list (pa_cons (pe_fld (pv 0) rfl) pa_nil)))), ?_⟩
    exact ⟨_, rfl, r, C_Rule, dx, _, _, rfl, hob, T.cl_Rule, T.na_Rule_kept_steps, rf_ks _ _, l, xs, rfl, .inl (SqL.of hl), k⟩
end
section
variable {P : Program} {w : World} {K : PySem.W.Frag} {mg : Str → Option Value} {base : Heap} {C_Roll C_Rule C_BookError C_NoNumber C_NoRule C_Gone C_NoAsk : Addr}
theorem D_Rule_gone (T : Txt K mg C_Roll C_Rule C_BookError C_NoNumber C_NoRule C_Gone C_NoAsk) : MetOk P w K mg base C_Rule 1 "gone" ["self"] (sp_gone C_Rule) := by
  obtain ⟨f, fd, F, hm⟩ := T.f_Rule_gone
  have nd := sc_Rule_gone.nd
  refine ⟨f, fd, (F.ok sc_Rule_gone (fun vs H Q E h => ?_) (fun cdv A outer s H vs Q E hr h => ?_)), hm, (F.binds fun _ _ _ _ _ _ us hl => by obtain ⟨_, rfl⟩ := L2.lq1 hl; rfl)⟩
  · obtain ⟨r, l, ps, g, rfl, _⟩ := h; rfl
  · obtain ⟨r, l, ps, g, rfl, R, q⟩ := h
    obtain ⟨dx, hob⟩ := R.ob
    refine ⟨_, (pss_one (ps_ret (pe_fld (pv 0) rfl))), ?_⟩
    exact ⟨_, rfl, r, C_Rule, dx, _, _, rfl, hob, T.cl_Rule, T.na_Rule_gone_age, rf_ga _ _, q⟩
end
section
variable {P : Program} {w : World} {K : PySem.W.Frag} {mg : Str → Option Value} {base : Heap} {C_Roll C_Rule C_BookError C_NoNumber C_NoRule C_Gone C_NoAsk : Addr}
theorem D_floored (T : Txt K mg C_Roll C_Rule C_BookError C_NoNumber C_NoRule C_Gone C_NoAsk) : DefOk P w K mg base 1 "floored" ["number", "width"] sp_floored := by
  obtain ⟨f, fd, F, hm⟩ := T.f_floored
  have nd := sc_floored.nd
  refine F.def_ hm (F.ok sc_floored (fun vs H Q E h => ?_) (fun cdv A outer s H vs Q E hr h => ?_)) (F.binds fun _ _ _ _ _ _ us hl => by obtain ⟨_, _, rfl⟩ := L2.lq2 hl; rfl)
  · obtain ⟨n, w', rfl, _⟩ := h; rfl
  · obtain ⟨n, w', rfl, h1, h2, h3, h4, q⟩ := h
    have hb := div_b h1 (by decide : (0 : Int) ≤ 10 ^ 46) h3 h4
    refine ⟨_, (pss_one (ps_ret (pe_op op_mulB (pe_op op_fdivB (pv 0) (pv 1)) (pv 1)))), ?_⟩
    exact ⟨_, rfl, _, rfl, _, _, rfl, rfl, ⟨by omega, by omega⟩, _, rfl, _, _, rfl, rfl, ⟨⟨by omega, by omega⟩, by omega, by omega⟩, q⟩
theorem D_gone_cut (T : Txt K mg C_Roll C_Rule C_BookError C_NoNumber C_NoRule C_Gone C_NoAsk) : DefOk P w K mg base 2 "gone_cut" ["rule", "day"] (sp_gone_cut C_Rule) := by
  obtain ⟨f, fd, F, hm⟩ := T.f_gone_cut
  have nd := sc_gone_cut.nd
  refine F.def_ hm (F.ok sc_gone_cut (fun vs H Q E h => ?_) (fun cdv A outer s H vs Q E hr h => ?_)) (F.binds fun _ _ _ _ _ _ us hl => by obtain ⟨_, _, rfl⟩ := L2.lq2 hl; rfl)
  · obtain ⟨r, l, ps, g, d, rfl, _⟩ := h; rfl
  · obtain ⟨r, l, ps, g, d, rfl, R, Pg, hd, q⟩ := h
    obtain ⟨dx, hob⟩ := R.ob
    obtain ⟨xs, hl, hx⟩ := R.ls
    have n1 : (rf l (gv g)).lookup ("gone" : Str) = none := rf_no _ _ (by decide +kernel) (by decide +kernel)
    have n2 : (rf l (gv g)).lookup ("steps" : Str) = none := rf_no _ _ (by decide +kernel) (by decide +kernel)
    obtain ⟨p, hp, ep⟩ := Pg.last
    have hlen := hx.length
    refine ⟨_, (pss_cons (ps_set (i := 2) nd rfl (Or.inl rfl) (pe_mt0 (pv 0) T.cl_Rule (D_Rule_gone T) (hr.mono (by decide))))
      (pss_cons (ps_if (pt_cmpR op_isN (pv 2) pe_non (nomark _))
        (pss_one (ps_ret pe_non))
        pss_nil)
      (pss_one (ps_ret (pe_fn (D_floored T) (hr.mono (by decide)) rfl (pa_cons (pe_op op_sub (pv 1) (pv 2)) (pa_cons (pe_ix ix_tup (pe_ix ix_list (pe_mt0 (pv 0) T.cl_Rule (D_Rule_steps T) (hr.mono (by decide))) (pe_un un_neg pe_int) (fun _ _ => rfl)) pe_int (fun _ _ => rfl)) pa_nil))))))), ?_⟩
    refine ⟨_, rfl, r, dx, _, rfl, hob, n1, r, l, ps, g, rfl, R, ?_⟩
    cases g with
    | none => exact ⟨_, rfl, rfl, _, rfl, iteT (q H (Same.refl _))⟩
    | some z =>
      refine ⟨_, rfl, rfl, _, rfl, iteF ?_⟩
      refine ⟨_, rfl, _, rfl, _, _, rfl, rfl, ?_⟩
      refine ⟨_, rfl, r, dx, _, rfl, hob, n2, r, l, ps, _, xs, rfl, R, hl, fun p1 H1 m1 => ?_⟩
      obtain ⟨v, hv, a, rfl, ha⟩ := hx.get' hp
      have hz := Pg.gb z rfl
      have hs := Pg.size _ p hp
      unfold Bd at hd
      refine ⟨_, rfl, p1, xs, -1, _, rfl, rfl, SqL.of m1.at_, atI_m1 (by rw [hlen]; exact hv), a, _, 1, _, rfl, rfl, SqT.of (m1.same _ _ ha), rfl, d - z, p.2, rfl, hs.2.2.1, hs.2.2.2, by omega, by omega, ?_⟩
      have := q H1 m1.same
      rw [ep] at this
      exact this
theorem D_edges_at (T : Txt K mg C_Roll C_Rule C_BookError C_NoNumber C_NoRule C_Gone C_NoAsk) : DefOk P w K mg base 3 "edges_at" ["rule", "day"] (sp_edges_at C_Rule) := by
  obtain ⟨f, fd, F, hm⟩ := T.f_edges_at
  have nd := sc_edges_at.nd
  refine F.def_ hm (F.ok sc_edges_at (fun vs H Q E h => ?_) (fun cdv A outer s H vs Q E hr h => ?_)) (F.binds fun _ _ _ _ _ _ us hl => by obtain ⟨_, _, rfl⟩ := L2.lq2 hl; rfl)
  · obtain ⟨r, l, ps, g, d, rfl, _⟩ := h; rfl
  · obtain ⟨r, l, ps, g, d, rfl, R, Pg, hd, q⟩ := h
    obtain ⟨dx, hob⟩ := R.ob
    obtain ⟨xs, hl, hx⟩ := R.ls
    have n2 : (rf l (gv g)).lookup ("steps" : Str) = none := rf_no _ _ (by decide +kernel) (by decide +kernel)
    have hlen := hx.length
    have h5 := Pg.good.hi
    refine ⟨_, (pss_cons (ps_setLC (i := 2) (vars := ["age", "width"]) (frees := ["day"]) (fv := [1]) nd rfl (Or.inl rfl) rfl (lcOk rfl rfl (by decide +kernel) (by decide +kernel) (by intro p hp; simp only [List.mem_cons, List.not_mem_nil, or_false] at hp; rcases hp with rfl <;> rfl) rfl) ⟨⟨rfl, .inl rfl, rfl, .inl rfl⟩, trivial⟩ (pi_list (pe_mt0 (pv 0) T.cl_Rule (D_Rule_steps T) (hr.mono (by decide)))) (gk_pair (by decide) (by decide)) (fun _ _ _ _ => (pg_tup rfl (pgs_cons (pg_name (i := 0) (show (["age", "width", "day"] : List Str).Nodup by decide +kernel) rfl (Or.inl rfl)) (pgs_cons (pg_name (i := 1) (show (["age", "width", "day"] : List Str).Nodup by decide +kernel) rfl (Or.inl rfl)) pgs_nil)))) (fun _ _ _ _ => pif_none) (fun _ _ _ _ => (pe_fn (D_floored T) (hr.mono (by decide)) rfl (pa_cons (pe_op op_sub (pv 2) (pv 0)) (pa_cons (pv 1) pa_nil)))))
      (pss_one (ps_ret (pe_op op_catN (pv 2) (pe_lstN (pa_cons (pe_fn (D_gone_cut T) (hr.mono (by decide)) rfl (pa_cons (pv 0) (pa_cons (pv 1) pa_nil))) pa_nil)))))), ?_⟩
    refine ⟨_, rfl, r, dx, _, rfl, hob, n2, r, l, ps, g, xs, rfl, R, hl, fun p1 H1 m1 => ?_⟩
    refine ⟨p1, rfl, ⟨_, SqL.of m1.at_⟩, lc_list (xs := xs) (fun i ys H2 => Same H1 H2 ∧ ys = (ps.take i).map fun p => V.int (cut d p.1 p.2)) (Nat.le_of_lt (small1000 (by omega))) ⟨Same.refl _, rfl⟩ (fun i ys H2 h2 => ⟨SqL.of (h2.1 _ _ m1.at_), by rw [h2.2]; simp; omega⟩) ?_ ?_⟩
    · rintro i x ys H2 hi ⟨s2, rfl⟩
      obtain ⟨p, hpi, a, rfl, ha⟩ := hx.get hi
      have hs := Pg.size i p hpi
      unfold Bd at hd
      refine ⟨a, _, rfl, SqT.of (s2 _ _ (m1.same _ _ ha)), rfl, _, _, rfl, _, _, rfl, rfl, yes_ (iteT ?_)⟩
      refine ⟨_, rfl, _, rfl, _, _, rfl, rfl, _, rfl, d - p.1, p.2, rfl, hs.2.2.1, hs.2.2.2, by omega, by omega, s2, ?_⟩
      exact (mapN _ ps i p hpi).symm
    · rintro ys H2 c1 ⟨s2, rfl⟩ hc
      have nc := new_upd (o := .lst ((ps.take xs.length).map fun p => V.int (cut d p.1 p.2))) hc
      generalize upd H2 c1 _ = H3 at nc ⊢
      have s3 : Same H H3 := m1.same.trans (s2.trans nc.same)
      rw [hlen, List.take_length] at nc
      refine ⟨_, rfl, _, rfl, _, rfl, r, l, ps, g, d, rfl, R.same s3, Pg, hd, fun H4 s4 => ⟨by show 1 ≤ sizeLine; decide, fun c2 H5 n5 => ?_⟩⟩
      refine ⟨c1, c2, _, _, rfl, rfl, n5.same _ _ (s4 _ _ nc.at_), n5.at_, Nat.le_of_lt (small1000 (by simp; omega)), fun z H6 n6 => ?_⟩
      exact q z H6 (New.after (s3.trans (s4.trans n5.same)) n6)
end
section
variable {P : Program} {w : World} {K : PySem.W.Frag} {mg : Str → Option Value} {base : Heap} {C_Roll C_Rule C_BookError C_NoNumber C_NoRule C_Gone C_NoAsk : Addr}
theorem D_is_gone (T : Txt K mg C_Roll C_Rule C_BookError C_NoNumber C_NoRule C_Gone C_NoAsk) : DefOk P w K mg base 1 "is_gone" ["edges", "time"] sp_is_gone := by
  obtain ⟨f, fd, F, hm⟩ := T.f_is_gone
  have nd := sc_is_gone.nd
  refine F.def_ hm (F.ok sc_is_gone (fun vs H Q E h => ?_) (fun cdv A outer s H vs Q E hr h => ?_)) (F.binds fun _ _ _ _ _ _ us hl => by obtain ⟨_, _, rfl⟩ := L2.lq2 hl; rfl)
  · obtain ⟨e, es, ge, t, rfl, _⟩ := h; rfl
  · obtain ⟨e, es, ge, t, rfl, he, q1, q2⟩ := h
    have hlast : (es.map V.int ++ [gv ge])[(es.map V.int ++ [gv ge]).length - 1]? = some (gv ge) := by simp
    refine ⟨_, (pss_one (ps_ret (pe_and (pe_cmpR op_notN (pe_ix ix_list (pv 0) (pe_un un_neg pe_int) (fun _ _ => rfl)) pe_non (nomark _)) (pe_one (pe_cmpR op_lt (pv 1) (pe_ix ix_list (pv 0) (pe_un un_neg pe_int) (fun _ _ => rfl)) (nomark _)))))), ?_⟩
    cases ge with
    | none =>
      walk_at "r"
      exact q2 fun ⟨z, e, _⟩ => by cases e
    | some y =>
      walk_at "r"
      show Q (.bl (decide (t < y))) H
      by_cases h : t < y
      · rw [decide_eq_true h]; exact q1 ⟨y, rfl, h⟩
      · rw [decide_eq_false h]; exact q2 fun ⟨z, e, h'⟩ => by cases e; exact h h'
theorem D_width_at (T : Txt K mg C_Roll C_Rule C_BookError C_NoNumber C_NoRule C_Gone C_NoAsk) : DefOk P w K mg base 2 "width_at" ["rule", "edges", "time"] (sp_width_at C_Rule) := by
  obtain ⟨f, fd, F, hm⟩ := T.f_width_at
  have nd := sc_width_at.nd
  refine F.def_ hm (F.ok sc_width_at (fun vs H Q E h => ?_) (fun cdv A outer s H vs Q E hr h => ?_)) (F.binds fun _ _ _ _ _ _ us hl => by obtain ⟨_, _, _, rfl⟩ := L2.lq3 hl; rfl)
  · obtain ⟨r, l, ps, g, e, es, ge, t, e0, rfl, _⟩ := h; rfl
  · obtain ⟨r, l, ps, g, e, es, ge, t, e0, rfl, R, he, hl, h1, h5, h0, hlt, q⟩ := h
    obtain ⟨dx, hob⟩ := R.ob
    obtain ⟨xs, hxl, hx⟩ := R.ls
    have n2 : (rf l (gv g)).lookup ("steps" : Str) = none := rf_no _ _ (by decide +kernel) (by decide +kernel)
    have hlen := hx.length
    refine ⟨_, (pss_cons (ps_setLC (i := 3) (vars := ["step", "edge"]) (frees := ["time"]) (fv := [2]) nd rfl (Or.inl rfl) rfl (lcOk rfl rfl (by decide +kernel) (by decide +kernel) (by intro p hp; simp only [List.mem_cons, List.not_mem_nil, or_false] at hp; rcases hp with rfl <;> rfl) rfl) ⟨⟨rfl, .inl rfl, rfl, .inl rfl⟩, trivial⟩ (pi_zip rfl T.b_zip (pa_cons (pe_mt0 (pv 0) T.cl_Rule (D_Rule_steps T) (hr.mono (by decide))) (pa_cons (pv 1) pa_nil))) (gk_pair (by decide) (by decide)) (fun _ _ _ _ => (pg_tup rfl (pgs_cons (pg_name (i := 0) (show (["step", "edge", "time"] : List Str).Nodup by decide +kernel) rfl (Or.inl rfl)) (pgs_cons (pg_name (i := 1) (show (["step", "edge", "time"] : List Str).Nodup by decide +kernel) rfl (Or.inl rfl)) pgs_nil)))) (fun _ _ _ _ => (pif_one (pt_cmpR op_gt (pv 1) (pv 2) (nomark _)))) (fun _ _ _ _ => (pe_ix (show IxR _ (rIxT K) from ix_tup) (pv 0) pe_int (fun _ _ => rfl))))
      (pss_one (ps_ret (pe_ix ix_list (pv 3) (pe_un un_neg pe_int) (fun _ _ => rfl))))), ?_⟩
    refine ⟨_, rfl, r, dx, _, rfl, hob, n2, r, l, ps, g, xs, rfl, R, hxl, fun p1 H1 m1 => ?_⟩
    have he1 := m1.same _ _ he
    refine ⟨_, rfl, p1, e, xs, _, rfl, SqL.of m1.at_, SqL.of he1, ?_⟩
    refine lc_zipN (xs := xs) (fun i zs H2 => Same H1 H2 ∧ zs = ((((((ps.map (·.2)).zip es).take i).filter fun x => decide (t < x.2)).map (·.1)).map V.int)) (Nat.le_of_lt (small1000 (by omega))) ⟨Same.refl _, rfl⟩ (fun i zs H2 h2 => ⟨SqL.of (h2.1 _ _ m1.at_), SqL.of (h2.1 _ _ he1), by rw [h2.2, List.length_map]; exact wl_len _ _ _ _⟩) ?_ ?_
    · rintro i x y zs H2 p H3 hxi hyi n3 ⟨s2, rfl⟩
      obtain ⟨pi, hpi, a, rfl, ha⟩ := hx.get hxi
      have hi : i < es.length := by have := (List.getElem?_eq_some_iff.mp hpi).1; omega
      have hy : y = V.int es[i] := by
        rw [List.getElem?_append_left (by simpa using hi), List.getElem?_map, List.getElem?_eq_getElem hi] at hyi
        exact (Option.some.inj hyi).symm
      subst hy
      have hw : (ps.map (·.2))[i]? = some pi.2 := by rw [List.getElem?_map, hpi]; rfl
      have ha3 : H3 a = some (.tup [.int pi.1, .int pi.2]) := n3.same _ _ (s2 _ _ (m1.same _ _ ha))
      walk_at "r"
      refine ite2 (fun z => ?_) fun z => ?_
      · walk_at "r"
        refine ⟨s2.trans n3.same, ?_⟩
        have := wl_t hw (List.getElem?_eq_getElem hi) (by simpa using z : t < es[i])
        rw [this, List.map_append]; rfl
      · refine ⟨s2.trans n3.same, ?_⟩
        rw [wl_f hw (List.getElem?_eq_getElem hi) (by simpa using z)]
    · rintro i zs H2 p H3 hi ⟨s2, rfl⟩ n3
      have ez : ((((ps.map (·.2)).zip es).take i).filter fun x => decide (t < x.2)).map (·.1) = wl (ps.map (·.2)) es t := wl_all (by rw [hi]; simp only [List.length_zip, List.length_map, List.length_append, List.length_singleton]; omega)
      rw [ez] at n3
      have hne : 1 ≤ (wl (ps.map (·.2)) es t).length := wl_ne (w0 := (ps[0]'(by omega)).2) (by rw [List.getElem?_map, List.getElem?_eq_getElem (by omega : 0 < ps.length)]; rfl) h0 hlt
      obtain ⟨w', hw'⟩ : ∃ w', (wl (ps.map (·.2)) es t)[(wl (ps.map (·.2)) es t).length - 1]? = some w' := ⟨_, List.getElem?_eq_getElem (by omega)⟩
      have hlast : ((wl (ps.map (·.2)) es t).map V.int)[((wl (ps.map (·.2)) es t).map V.int).length - 1]? = some (V.int w') := by rw [List.length_map, List.getElem?_map, hw']; rfl
      walk_at "r"
      exact q w' H3 hw' (m1.same.trans (s2.trans n3.same))
theorem D_cell_at (T : Txt K mg C_Roll C_Rule C_BookError C_NoNumber C_NoRule C_Gone C_NoAsk) : DefOk P w K mg base 3 "cell_at" ["rule", "edges", "time"] (sp_cell_at C_Rule) := by
  obtain ⟨f, fd, F, hm⟩ := T.f_cell_at
  have nd := sc_cell_at.nd
  refine F.def_ hm (F.ok sc_cell_at (fun vs H Q E h => ?_) (fun cdv A outer s H vs Q E hr h => ?_)) (F.binds fun _ _ _ _ _ _ us hl => by obtain ⟨_, _, _, rfl⟩ := L2.lq3 hl; rfl)
  · obtain ⟨r, l, ps, g, e, es, ge, t, rfl, _⟩ := h; rfl
  · obtain ⟨r, l, ps, g, e, es, ge, t, rfl, R, he, hl, h1, h5, hsz, ht, q⟩ := h
    obtain ⟨e0, h0⟩ : ∃ e0, es[0]? = some e0 := ⟨_, List.getElem?_eq_getElem (by omega)⟩
    have hi0 : atI (es.map V.int ++ [gv ge]) 0 = some (.int e0) := atI_nat (j := 0) (by rw [List.getElem?_append_left (by simp; omega), List.getElem?_map, h0]; rfl)
    refine ⟨_, (pss_cons (ps_if (pt_cmpR op_ge (pv 2) (pe_ix ix_list (pv 1) pe_int (fun _ _ => rfl)) (nomark _))
        (pss_one (ps_ret (pe_tupN (pa_cons (pv 2) (pa_cons pe_int pa_nil)))))
        pss_nil)
      (pss_cons (ps_if (pt_val (pe_fn (D_is_gone T) (hr.mono (by decide)) rfl (pa_cons (pv 1) (pa_cons (pv 2) pa_nil))))
        (pss_one (ps_ret pe_non))
        pss_nil)
      (pss_cons (ps_set (i := 3) nd rfl (Or.inl rfl) (pe_fn (D_width_at T) (hr.mono (by decide)) rfl (pa_cons (pv 0) (pa_cons (pv 1) (pa_cons (pv 2) pa_nil)))))
      (pss_one (ps_ret (pe_tupN (pa_cons (pe_fn (D_floored T) (hr.mono (by decide)) rfl (pa_cons (pv 2) (pa_cons (pv 3) pa_nil))) (pa_cons (pv 3) pa_nil)))))))), ?_⟩
    walk_at "r"
    refine ite2 (fun z => ?_) fun z => ?_
    · simp at z
      walk_at "r"; intro p H1 n1
      refine q (.ref p) (some (t, 0)) H1 (fun x hx => ?_) ⟨p, rfl, n1.at_⟩ n1.same
      rw [h0] at hx; cases hx
      exact ⟨fun _ => rfl, fun h => absurd z (by omega)⟩
    · simp at z
      walk_at "r"
      refine ⟨e, es, ge, t, rfl, he, fun hg => ?_, fun hg => ?_⟩
      · walk_at "r"
        refine q .non none H (fun x hx => ?_) rfl (Same.refl _)
        rw [h0] at hx; cases hx
        exact ⟨fun h => absurd z (by omega), fun _ => ⟨fun _ => rfl, fun n => absurd hg n⟩⟩
      · walk_at "r"
        refine ⟨r, l, ps, g, e, es, ge, t, e0, rfl, R, he, hl, h1, h5, h0, z, fun w' H1 hw' s1 => ?_⟩
        have hwm : w' ∈ ps.map (·.2) := wl_mem (List.mem_of_getElem? hw')
        obtain ⟨pi, hpi, rfl⟩ := List.mem_map.mp hwm
        obtain ⟨i, hi, ei⟩ := List.getElem_of_mem hpi
        have hs := hsz i pi (by rw [← ei]; exact List.getElem?_eq_getElem hi)
        refine ⟨_, rfl, _, rfl, t, pi.2, rfl, hs.2.2.1, hs.2.2.2, ht.1, ht.2, ?_⟩
        walk_at "r"; intro p H2 n2
        refine q (.ref p) (some (t / pi.2 * pi.2, pi.2)) H2 (fun x hx => ?_) ⟨p, rfl, n2.at_⟩ (s1.trans n2.same)
        rw [h0] at hx; cases hx
        exact ⟨fun h => absurd z (by omega), fun _ => ⟨fun n => absurd n hg, fun _ => ⟨pi.2, hw', rfl⟩⟩⟩
end
section
variable {P : Program} {w : World} {K : PySem.W.Frag} {mg : Str → Option Value} {base : Heap} {C_Roll C_Rule C_BookError C_NoNumber C_NoRule C_Gone C_NoAsk : Addr}
theorem D_heap_of (T : Txt K mg C_Roll C_Rule C_BookError C_NoNumber C_NoRule C_Gone C_NoAsk) : DefOk P w K mg base 1 "heap_of" ["runs"] sp_heap_ofB := by
  obtain ⟨f, fd, F, hm⟩ := T.f_heap_of
  have nd := sc_heap_of.nd
  refine F.def_ hm (F.ok sc_heap_of (fun vs H Q E h => ?_) (fun cdv A outer s H vs Q E hr h => ?_)) (F.binds fun _ _ _ _ _ _ us hl => by obtain ⟨_, rfl⟩ := L2.lq1 hl; rfl)
  · obtain ⟨l, xs, rs, rfl, _⟩ := h; rfl
  · obtain ⟨l, xs, rs, rfl, hl, hp, ok, h2, q0, q⟩ := h
    have hlen := hp.length
    refine ⟨_, (pss_cons (ps_if (pt_cmpR op_eq (pe_callB call_len_seq rfl T.b_len bt_len (pa_cons (pv 0) pa_nil)) pe_int (nomark _))
        (pss_one (ps_ret pe_non))
        pss_nil)
      (pss_cons (ps_setLC (i := 1) (vars := ["value", "many"]) (frees := []) (fv := []) nd rfl (Or.inl rfl) rfl (lcOk rfl rfl (by decide +kernel) (by decide +kernel) (by intro p hp; cases hp) rfl) trivial (pi_list (pv 0)) (gk_pair (by decide) (by decide)) (fun _ _ _ _ => (pg_tup rfl (pgs_cons (pg_name (i := 0) (show (["value", "many"] : List Str).Nodup by decide +kernel) rfl (Or.inl rfl)) (pgs_cons (pg_name (i := 1) (show (["value", "many"] : List Str).Nodup by decide +kernel) rfl (Or.inl rfl)) pgs_nil)))) (fun _ _ _ _ => pif_none) (fun _ _ _ _ => (pv 0)))
      (pss_cons (ps_set (i := 2) nd rfl (Or.inl rfl) (pe_callB (call_sum rfl) rfl T.b_sum bt_sum (pa_cons (pe_lc (vars := ["value", "many"]) (frees := []) (fv := []) rfl (lcOk rfl rfl (by decide +kernel) (by decide +kernel) (by intro p hp; cases hp) rfl) trivial (pi_list (pv 0)) (gk_pair (by decide) (by decide)) (fun _ _ _ _ => (pg_tup rfl (pgs_cons (pg_name (i := 0) (show (["value", "many"] : List Str).Nodup by decide +kernel) rfl (Or.inl rfl)) (pgs_cons (pg_name (i := 1) (show (["value", "many"] : List Str).Nodup by decide +kernel) rfl (Or.inl rfl)) pgs_nil)))) (fun _ _ _ _ => pif_none) (fun _ _ _ _ => (pv 1))) pa_nil)))
      (pss_cons (ps_set (i := 3) nd rfl (Or.inl rfl) (pe_callB (call_sum rfl) rfl T.b_sum bt_sum (pa_cons (pe_lc (vars := ["value", "many"]) (frees := []) (fv := []) rfl (lcOk rfl rfl (by decide +kernel) (by decide +kernel) (by intro p hp; cases hp) rfl) trivial (pi_list (pv 0)) (gk_pair (by decide) (by decide)) (fun _ _ _ _ => (pg_tup rfl (pgs_cons (pg_name (i := 0) (show (["value", "many"] : List Str).Nodup by decide +kernel) rfl (Or.inl rfl)) (pgs_cons (pg_name (i := 1) (show (["value", "many"] : List Str).Nodup by decide +kernel) rfl (Or.inl rfl)) pgs_nil)))) (fun _ _ _ _ => pif_none) (fun _ _ _ _ => (pe_op op_mulB (pv 0) (pv 1)))) pa_nil)))
      (pss_one (ps_ret (pe_tupN (pa_cons (pv 2) (pa_cons (pv 3) (pa_cons (pe_callB (call_minL rfl) rfl T.b_min bt_min (pa_cons (pv 1) pa_nil)) (pa_cons (pe_callB (call_maxL rfl) rfl T.b_max bt_max (pa_cons (pv 1) pa_nil)) pa_nil))))))))))), ?_⟩
    walk_at "r"
    refine ite2 (fun z => ?_) fun z => ?_
    · have z' : xs.length = 0 := by simpa using z
      exact q0 (List.length_eq_zero_iff.mp (by omega))
    · have z' : ¬ xs.length = 0 := by simpa using z
      have hne : rs ≠ [] := fun e => z' (by rw [hlen, e]; rfl)
      have h1 : 1 ≤ rs.length := by omega
      have mulB : ∀ p ∈ rs, CMulB p.1 p.2 := fun p hp => by
        have := ok p hp
        unfold RunB at this
        exact ⟨⟨by omega, by omega⟩, by omega, by omega⟩
      refine ⟨_, rfl, l, rfl, ⟨_, SqL.of hl⟩, lc_pairs (fun p => p.1) hl hp h2 (fun p hp Q' hq => ⟨_, rfl, hq⟩) fun a1 H1 n1 => ?_⟩
      have hl1 := n1.same _ _ hl
      have hp1 := hp.same n1.same
      refine ⟨_, rfl, l, rfl, ⟨_, SqL.of hl1⟩, lc_pairs (fun p => p.2) hl1 hp1 h2 (fun p hp Q' hq => ⟨_, rfl, hq⟩) fun a2 H2 n2 => ⟨a2, _, rfl, SqL.of n2.at_, ?_⟩⟩
      have hl2 := n2.same _ _ hl1
      have hp2 := hp1.same n2.same
      refine ⟨_, rfl, l, rfl, ⟨_, SqL.of hl2⟩, lc_pairs (fun p => p.1 * p.2) hl2 hp2 h2 (fun p hp Q' hq => ⟨_, rfl, _, rfl, _, _, rfl, rfl, mulB p hp, hq⟩) fun a3 H3 n3 => ⟨a3, _, rfl, SqL.of n3.at_, ?_⟩⟩
      have hv := n3.same _ _ (n2.same _ _ n1.at_)
      refine ⟨_, rfl, _, rfl, _, rfl, a1, _, rfl, SqL.of hv, by simp; omega, fun lo hlo hlo' => ?_⟩
      refine ⟨_, rfl, a1, _, rfl, SqL.of hv, by simp; omega, fun hi hhi hhi' => ?_⟩
      walk_at "r"; intro a H5 n5
      exact q hne a _ _ lo hi H5 ⟨rfl, rfl, hlo, hlo', hhi, hhi'⟩ (New.after (n1.same.trans (n2.same.trans n3.same)) n5)
theorem D_poured (T : Txt K mg C_Roll C_Rule C_BookError C_NoNumber C_NoRule C_Gone C_NoAsk) : DefOk P w K mg base 1 "poured" ["one", "other"] sp_poured := by
  obtain ⟨f, fd, F, hm⟩ := T.f_poured
  have nd := sc_poured.nd
  refine F.def_ hm (F.ok sc_poured (fun vs H Q E h => ?_) (fun cdv A outer s H vs Q E hr h => ?_)) (F.binds fun _ _ _ _ _ _ us hl => by obtain ⟨_, _, rfl⟩ := L2.lq2 hl; rfl)
  · obtain ⟨a, b, m, t, lo, hi, m', t', lo', hi', rfl, _⟩ := h; rfl
  · obtain ⟨a, b, m, t, lo, hi, m', t', lo', hi', rfl, ha, hb, q⟩ := h
    refine ⟨_, (pss_one (ps_ret (pe_tupN (pa_cons (pe_op op_add (pe_ix ix_tup (pv 0) pe_int (fun _ _ => rfl)) (pe_ix ix_tup (pv 1) pe_int (fun _ _ => rfl))) (pa_cons (pe_op op_add (pe_ix ix_tup (pv 0) pe_int (fun _ _ => rfl)) (pe_ix ix_tup (pv 1) pe_int (fun _ _ => rfl))) (pa_cons (pe_callB (call_min2 rfl) rfl T.b_min bt_min (pa_cons (pe_ix ix_tup (pv 0) pe_int (fun _ _ => rfl)) (pa_cons (pe_ix ix_tup (pv 1) pe_int (fun _ _ => rfl)) pa_nil))) (pa_cons (pe_callB (call_max2 rfl) rfl T.b_max bt_max (pa_cons (pe_ix ix_tup (pv 0) pe_int (fun _ _ => rfl)) (pa_cons (pe_ix ix_tup (pv 1) pe_int (fun _ _ => rfl)) pa_nil))) pa_nil))))))), ?_⟩
    walk_at "r"; intro p H1 n1
    exact q p H1 n1
end
section
variable {P : Program} {w : World} {K : PySem.W.Frag} {mg : Str → Option Value} {base : Heap} {C_Roll C_Rule C_BookError C_NoNumber C_NoRule C_Gone C_NoAsk : Addr}
theorem D_Roll_2 (T : Txt K mg C_Roll C_Rule C_BookError C_NoNumber C_NoRule C_Gone C_NoAsk) : MkOk P w K mg base C_Roll 4 "Roll" ["self", "rule", "day"] [] (sp_roll_init C_Roll C_Rule) := by
  obtain ⟨f, fd, F, M⟩ := T.f_Roll_init
  have nd := sc_Roll_init.nd
  refine ⟨f, fd, (F.ok sc_Roll_init (fun vs H Q E h => ?_) (fun cdv A outer s H vs Q E hr h => ?_)), T.mg_Roll, M, (F.binds fun _ _ _ _ _ _ us hl => by obtain ⟨_, _, _, rfl⟩ := L2.lq3 hl; rfl)⟩
  · obtain ⟨ro, dx, ru, rl, ps, g, day, rfl, _⟩ := h; rfl
  · obtain ⟨ro, dx, ru, rl, ps, g, day, rfl, hro, R, Pg, hd, q⟩ := h
    obtain ⟨dx2, hru⟩ := R.ob
    have nru : ru ≠ ro := ne_of hru hro (by intro z; injection z with _ _ z; have := rf_ks rl (gv g); rw [z] at this; cases this)
    refine ⟨_, (pss_cons (ps_fldN (pv 0) (pv 1) rfl)
      (pss_cons (ps_fldN (pv 0) (pv 2) rfl)
      (pss_cons (ps_fldN (pv 0) (pe_fn (D_edges_at T) (hr.mono (by decide)) rfl (pa_cons (pv 1) (pa_cons (pv 2) pa_nil))) rfl)
      (pss_cons (ps_fldN (pv 0) pe_dnewN rfl)
      (pss_one (ps_fldN (pv 0) pe_dnewN rfl)))))), ?_⟩
    refine ⟨_, rfl, _, rfl, ro, C_Roll, dx, [], rfl, hro, T.cl_Roll, T.na_Roll_kept_rule, (by show 0 < 1000; decide), fun H1 b1 h1 => ?_⟩
    refine ⟨_, rfl, _, rfl, ro, C_Roll, dx, _, rfl, h1, T.cl_Roll, T.na_Roll_kept_day, (by show 1 < 1000; decide), fun H2 b2 h2 => ?_⟩
    have R2 := (R.but2 b1 hro ins_nt (by intro xs z; cases z) nru).but2 b2 h1 ins_nt (by intro xs z; cases z) nru
    refine ⟨_, rfl, _, rfl, ru, rl, ps, g, day, rfl, R2, Pg, hd, fun le H3 n3 => ?_⟩
    refine ⟨_, rfl, ro, C_Roll, dx, _, rfl, n3.same _ _ h2, T.cl_Roll, T.na_Roll_kept_edges, (by show 2 < 1000; decide), fun H4 b4 h4 => ?_⟩
    intro dy H5 n5
    refine ⟨_, rfl, ro, C_Roll, dx, _, rfl, n5.same _ _ h4, T.cl_Roll, T.na_Roll_whole_ones, (by show 3 < 1000; decide), fun H6 b6 h6 => ?_⟩
    intro dh H7 n7
    refine ⟨_, rfl, ro, C_Roll, dx, _, rfl, n7.same _ _ h6, T.cl_Roll, T.na_Roll_cell_heaps, (by show 4 < 1000; decide), fun H8 b8 h8 => ?_⟩
    have R8 := ((((R2.same n3.same).but2 b4 (n3.same _ _ h2) ins_nt (by intro xs z; cases z) nru).same n5.same |>.but2 b6 (n5.same _ _ h4) ins_nt (by intro xs z; cases z) nru).same n7.same).but2 b8 (n7.same _ _ h6) ins_nt (by intro xs z; cases z) nru
    have bb : But ro H H8 := fun b o e hb => b8 _ _ (n7.same _ _ (b6 _ _ (n5.same _ _ (b4 _ _ (n3.same _ _ (b2 _ _ (b1 _ _ e hb) hb)) hb)) hb)) hb
    have fr : ∀ b, b ≠ ro → H8 b = none → H b = none := fun b hb h0 => by
      cases e : H b with
      | none => rfl
      | some o => rw [bb b o e hb] at h0; cases h0
    have e4 : H4 le = some (.lst (eV ps g day)) := b4 _ _ n3.at_ (ne_of n3.at_ (n3.same _ _ h2) (by intro z; cases z))
    have e6 : H6 dy = some (.dT []) := b6 _ _ n5.at_ (ne_of n5.at_ (n5.same _ _ h4) (by intro z; cases z))
    have up2 : ∀ b o, H b = some o → b ≠ ro → H2 b = some o := fun b o e hb => b2 _ _ (b1 _ _ e hb) hb
    have fr2 : ∀ b, H2 b = none → H b = none := fun b h0 => by
      cases e : H b with
      | none => rfl
      | some o =>
        by_cases hb : b = ro
        · subst hb; rw [h2] at h0; cases h0
        · rw [up2 b o e hb] at h0; cases h0
    have fr4 : ∀ b, H4 b = none → H2 b = none := fun b h0 => by
      cases e : H2 b with
      | none => rfl
      | some o =>
        by_cases hb : b = ro
        · subst hb; rw [h4] at h0; cases h0
        · rw [b4 _ _ (n3.same _ _ e) hb] at h0; cases h0
    have fr6 : ∀ b, H6 b = none → H4 b = none := fun b h0 => by
      cases e : H4 b with
      | none => rfl
      | some o =>
        by_cases hb : b = ro
        · subst hb; rw [h6] at h0; cases h0
        · rw [b6 _ _ (n5.same _ _ e) hb] at h0; cases h0
    refine q le dy dh H8 (fr2 _ n3.fresh) (fr2 _ (fr4 _ n5.fresh)) (fr2 _ (fr4 _ (fr6 _ n7.fresh))) ⟨⟨dx, h8⟩, R8, ?_, ?_, ?_, ne_of_none e6 n7.fresh⟩ bb
    · have e8 := b8 _ _ (n7.same _ _ (b6 _ _ (n5.same _ _ e4) (ne_of (n5.same _ _ e4) (n5.same _ _ h4) (by intro z; cases z)))) (ne_of (n7.same _ _ (b6 _ _ (n5.same _ _ e4) (ne_of (n5.same _ _ e4) (n5.same _ _ h4) (by intro z; cases z)))) (n7.same _ _ h6) (by intro z; cases z))
      show H8 le = some (.lst (((ps.map fun p => cut day p.1 p.2).map V.int) ++ [gv (g.map fun z => cut day z (lw ps))]))
      rw [← (EdS.of Pg hd).eq]
      exact e8
    · exact b8 _ _ (n7.same _ _ e6) (ne_of (n7.same _ _ e6) (n7.same _ _ h6) (by intro z; cases z))
    · exact b8 _ _ n7.at_ (ne_of n7.at_ (n7.same _ _ h6) (by intro z; cases z))
theorem D_Roll_pour_into_cell (T : Txt K mg C_Roll C_Rule C_BookError C_NoNumber C_NoRule C_Gone C_NoAsk) : MetOk P w K mg base C_Roll 2 "pour_into_cell" ["self", "cell", "heap"] (sp_rpour C_Roll C_Rule) := by
  obtain ⟨f, fd, F, hm⟩ := T.f_Roll_pour_into_cell
  have nd := sc_Roll_pour_into_cell.nd
  refine ⟨f, fd, (F.ok sc_Roll_pour_into_cell (fun vs H Q E h => ?_) (fun cdv A outer s H vs Q E hr h => ?_)), hm, (F.binds fun _ _ _ _ _ _ us hl => by obtain ⟨_, _, _, rfl⟩ := L2.lq3 hl; rfl)⟩
  · obtain ⟨ro, D, c, h, s, w', v, m, a', b', lo', hi', rfl, _⟩ := h; rfl
  · obtain ⟨ro, D, c, h, s', w', v, m, a', b', lo', hi', rfl, A', hc, hh, HO', hZ, hl, q⟩ := h
    obtain ⟨dx, hob⟩ := A'.ob
    refine ⟨_, (pss_one (ps_if (pt_cmp (pc_din (hu_of hr) (pv 1) (pe_fld (pv 0) rfl)))
        (pss_one (ps_dput (hu_of hr) (pe_fld (pv 0) rfl) (pv 1) (pe_fn (D_poured T) (hr.mono (by decide)) rfl (pa_cons (pe_dget (hu_of hr) (pe_fld (pv 0) rfl) (pv 1) (fun _ _ => rfl)) (pa_cons (pv 2) pa_nil))) rfl))
        (pss_one (ps_dput (hu_of hr) (pe_fld (pv 0) rfl) (pv 1) (pv 2) rfl)))), ?_⟩
    refine ⟨_, rfl, _, rfl, ro, C_Roll, dx, _, _, rfl, hob, T.cl_Roll, T.na_Roll_cell_heaps, rof_ch _ _ _ _ _, D.dh, _, rfl, DGet.t (k := kk s' w') A'.he hc, _, rfl, ?_⟩
    cases e : valV D.Z (kk s' w') with
    | none =>
      refine iteF ?_
      refine ⟨_, rfl, _, rfl, ro, C_Roll, dx, _, _, rfl, hob, T.cl_Roll, T.na_Roll_cell_heaps, rof_ch _ _ _ _ _, _, rfl, D.dh, _, rfl, DPut.t (k := kk s' w') A'.he hc (small1000 (by omega)), ?_⟩
      exact q h a' b' lo' hi' _ (but_upd _ _ hh (ne_of hh A'.he (by intro z; cases z))) (.inl ⟨e, HO'⟩) (A'.putZ but_upd upd_same) but_upd
    | some x =>
      obtain ⟨h0, m0, t0, lo0, hi0, rfl, hh0⟩ := hZ _ _ e
      refine iteT ?_
      refine ⟨_, rfl, ro, C_Roll, dx, _, _, rfl, hob, T.cl_Roll, T.na_Roll_cell_heaps, rof_ch _ _ _ _ _, _, rfl, D.dh, _, rfl, (by have := DGet.t (k := kk s' w') A'.he hc; rwa [e] at this), _, rfl, ?_⟩
      refine ⟨h0, h, m0, t0, lo0, hi0, a', b', lo', hi', rfl, hh0, hh, fun p H1 n1 => ?_⟩
      have A1 := A'.same n1.same
      refine ⟨_, rfl, ro, C_Roll, dx, _, _, rfl, n1.same _ _ hob, T.cl_Roll, T.na_Roll_cell_heaps, rof_ch _ _ _ _ _, _, rfl, D.dh, _, rfl, DPut.t (k := kk s' w') A1.he (n1.same _ _ hc) (small1000 (by omega)), ?_⟩
      refine q p _ _ _ _ _ (but_upd _ _ n1.at_ (ne_of n1.at_ A1.he (by intro z; cases z))) (.inr ⟨h0, m0, t0, lo0, hi0, a', b', lo', hi', e, hh0, HO', rfl, rfl, rfl, rfl⟩) (A1.putZ but_upd upd_same) fun b o eo hb => but_upd _ _ (n1.same _ _ eo) hb
theorem G_Roll_put (T : Txt K mg C_Roll C_Rule C_BookError C_NoNumber C_NoRule C_Gone C_NoAsk) : ∃ f fd dT o n t, FnOk P w K mg base CX0 4 f fd ["self", "time", "value", "many"] (sp_rput2 C_Roll C_Rule) ∧ FunD K "put" "Roll.put" s_Roll_put (.ref dT) f fd ∧ Meth K C_Roll "put" f ∧ fd.defaults = .ref dT ∧ K.lookup dT = some o ∧ o.data = .seq #[.int 1 t] n := by
  obtain ⟨f, fd, dT, o, n, t, F, M, h1, h2, h3⟩ := T.f_Roll_put
  have nd := sc_Roll_put.nd
  refine ⟨f, fd, dT, o, n, t, (F.ok sc_Roll_put (fun vs H Q E h => ?_) (fun cdv A outer s H vs Q E hr h => ?_)), F, M, h1, h2, h3⟩
  · obtain ⟨ro, D, t, v, m, rfl, _⟩ := h; rfl
  · obtain ⟨ro, D, t, v, m, rfl, A', ok, ht, z1, rok, hY, hZ, ly, lz, q⟩ := h
    obtain ⟨dx, hob⟩ := A'.ob
    refine ⟨_, (pss_cons (ps_if (pt_cmpR op_lt (pv 3) pe_int (nomark _))
        (pss_one ps_never)
        pss_nil)
      (pss_cons (ps_set (i := 4) nd rfl (Or.inl rfl) (pe_fn (D_cell_at T) (hr.mono (by decide)) rfl (pa_cons (pe_fld (pv 0) rfl) (pa_cons (pe_fld (pv 0) rfl) (pa_cons (pv 1) pa_nil)))))
      (pss_cons (ps_if (pt_cmpR op_isN (pv 4) pe_non (nomark _))
        (pss_one (ps_ret pe_bl))
        pss_nil)
      (pss_cons (ps_if (pt_cmpR op_eq (pe_ix ix_tup (pv 4) pe_int (fun _ _ => rfl)) pe_int (nomark _))
        (pss_one (ps_dput (hu_of hr) (pe_fld (pv 0) rfl) (pe_tupN (pa_cons (pv 1) (pa_cons (pv 2) pa_nil))) (pe_op op_add (pe_dget2 (hu_of hr) (pe_fld (pv 0) rfl) (pe_tupN (pa_cons (pv 1) (pa_cons (pv 2) pa_nil))) pe_int ⟨rfl, rfl, rfl, rfl⟩) (pv 3)) rfl))
        (pss_one (ps_expr (pe_mt (pv 0) T.cl_Roll (D_Roll_pour_into_cell T) (hr.mono (by decide)) (pa_cons (pv 4) (pa_cons (pe_fn (D_heap_of T) (hr.mono (by decide)) rfl (pa_cons (pe_lstN (pa_cons (pe_tupN (pa_cons (pv 2) (pa_cons (pv 3) pa_nil))) pa_nil)) pa_nil)) pa_nil))))))
      (pss_one (ps_ret pe_bl)))))), ?_⟩
    walk_at "r"
    refine ite2 (fun z => ?_) fun z => ?_
    · exact absurd (of_decide_eq_true z) (by omega)
    have lo := ok.pr.good.lo
    refine ⟨_, rfl, ro, C_Roll, dx, _, _, rfl, hob, T.cl_Roll, T.na_Roll_kept_rule, rof_kr _ _ _ _ _, _, rfl, ro, C_Roll, dx, _, _, rfl, hob, T.cl_Roll, T.na_Roll_kept_edges, rof_ke _ _ _ _ _, _, rfl, D.ru, D.rl, D.ps, D.g, D.le, D.es, D.ge, t, rfl, A'.rule, A'.ed, ok.es, lo, ok.pr.good.hi, ok.pr.size, ht, fun cv o H1 hc cat s1 => ?_⟩
    have hob1 := s1 _ _ hob
    have A1 := A'.same s1
    cases o with
    | none =>
      cases (show cv = .non from cat)
      walk_at "r"
      exact q none hc D H1 (.inl ⟨rfl, rfl⟩) A1 fun c o e _ _ => s1 _ _ e
    | some p =>
      obtain ⟨c, rfl, hcv⟩ := cat
      have hp := CellOf.some_ hc (by rw [ok.es]; exact lo) fun w' hw' => ok.pr.w1 hw'
      rcases hp with rfl | hp
      · walk_at "r"
        refine ⟨ro, C_Roll, dx, _, _, rfl, hob1, T.cl_Roll, T.na_Roll_whole_ones, rof_wo _ _ _ _ _, D.dy, rfl, .inr ⟨_, .inl A1.yo⟩, ?_⟩
        walk_at "r"; intro p2 H2 n2
        have A2 := A1.same n2.same
        refine ⟨_, DGet.t (k := kk t v) A2.yo n2.at_, ?_⟩
        rw [yv_get hY]
        walk_at "r"
        refine ⟨ro, C_Roll, dx, _, _, rfl, n2.same _ _ hob1, T.cl_Roll, T.na_Roll_whole_ones, rof_wo _ _ _ _ _, ?_⟩
        walk_at "r"; intro p3 H3 n3
        have A3 := A2.same n3.same
        refine ⟨D.dy, _, rfl, DPut.t (k := kk t v) A3.yo n3.at_ (small1000 (by omega)), ?_⟩
        show Q _ _
        exact q (some (t, 0)) hc _ _ (.inr (.inl ⟨rfl, rfl⟩)) (A3.putY but_upd upd_same) fun c o e hc1 _ => but_upd _ _ (n3.same _ _ (n2.same _ _ (s1 _ _ e))) hc1
      · walk_at "r"
        refine ite2 (fun z => ?_) fun z => ?_
        · exact absurd z (by simp; omega)
        refine ⟨_, rfl, ro, dx, _, rfl, hob1, rof_pour _ _ _ _ _, _, rfl, ?_⟩
        walk_at "r"; intro p2 H2 n2
        walk_at "r"; intro p3 H3 n3
        refine ⟨p3, _, [(v, m)], rfl, n3.at_, .cons ⟨p2, rfl, n3.same _ _ n2.at_⟩ .nil, (fun q hq => by rw [List.mem_singleton.mp hq]; exact rok), by simp, (fun e => by cases e), fun _ h4 a' b' lo' hi' H4 hof n4 => ?_⟩
        have s4 : Same H1 H4 := n2.same.trans (n3.same.trans n4.same)
        refine ⟨ro, D, c, h4, p.1, p.2, v, m, a', b', lo', hi', rfl, A1.same s4, s4 _ _ hcv, n4.at_, hof, hZ.same (s1.trans s4), lz, fun h5 a b lo hi H5 e5 po A5 b5 => ?_⟩
        show Q _ _
        refine q (some p) hc _ H5 (.inr (.inr ⟨p.1, p.2, h5, a, b, lo, hi, rfl, hp, rfl, e5, ?_⟩)) A5 fun c o e _ hc2 => b5 _ _ (s4 _ _ (s1 _ _ e)) hc2
        rcases po with ⟨po1, po2⟩ | ⟨h0, m0, t0, lo0, hi0, x1, x2, x3, x4, e1, e2, e3⟩
        · exact .inl ⟨po1, po2⟩
        · obtain ⟨h0', m0', t0', lo0', hi0', e4, e5⟩ := hZ _ _ e1
          cases e4
          rw [s4 _ _ (s1 _ _ e5)] at e2
          cases e2
          exact .inr ⟨h0, m0, t0, lo0, hi0, x1, x2, x3, x4, e1, e5, e3⟩
theorem D_Roll_put_3 (T : Txt K mg C_Roll C_Rule C_BookError C_NoNumber C_NoRule C_Gone C_NoAsk) : MetD P w K mg base C_Roll 4 "put" ["self", "time", "value", "many"] [] (sp_rput2 C_Roll C_Rule) := by
  obtain ⟨f, fd, dT, o, n, t, hf, F, M, h1, h2, h3⟩ := G_Roll_put (P := P) (w := w) (base := base) T
  refine ⟨f, fd, hf, M, binds_d h1 h2 h3 fun us hl => ?_⟩
  obtain ⟨oc, od, kV, doc, pm, an, cdv, ct, osl, rfl, lk, hcd⟩ := F.ex
  obtain ⟨_, _, _, _, rfl⟩ := L2.lq4 (us := us) (by simpa using hl)
  exact ⟨_, rfl, rfl⟩
end
section
variable {P : Program} {w : World} {K : PySem.W.Frag} {mg : Str → Option Value} {base : Heap} {C_Roll C_Rule C_BookError C_NoNumber C_NoRule C_Gone C_NoAsk : Addr}
theorem D_Roll_edges (T : Txt K mg C_Roll C_Rule C_BookError C_NoNumber C_NoRule C_Gone C_NoAsk) : MetOk P w K mg base C_Roll 1 "edges" ["self"] (sp_redges C_Roll C_Rule) := by
  obtain ⟨f, fd, F, hm⟩ := T.f_Roll_edges
  have nd := sc_Roll_edges.nd
  refine ⟨f, fd, (F.ok sc_Roll_edges (fun vs H Q E h => ?_) (fun cdv A outer s H vs Q E hr h => ?_)), hm, (F.binds fun _ _ _ _ _ _ us hl => by obtain ⟨_, rfl⟩ := L2.lq1 hl; rfl)⟩
  · obtain ⟨ro, D, rfl, _⟩ := h; rfl
  · obtain ⟨ro, D, rfl, A', q⟩ := h
    obtain ⟨dx, hob⟩ := A'.ob
    refine ⟨_, (pss_one (ps_ret (pe_callTy call_listN rfl T.b_list bt_list (pa_cons (pe_fld (pv 0) rfl) pa_nil)))), ?_⟩
    exact ⟨_, rfl, ro, C_Roll, dx, _, _, rfl, hob, T.cl_Roll, T.na_Roll_kept_edges, rof_ke _ _ _ _ _, D.le, _, rfl, .inl (SqL.of A'.ed), q⟩
end
section
variable {P : Program} {w : World} {K : PySem.W.Frag} {mg : Str → Option Value} {base : Heap} {C_Roll C_Rule C_BookError C_NoNumber C_NoRule C_Gone C_NoAsk : Addr}
theorem zv_iff {H : Hp} {D : RollD} {s : Abs} {LY LZ : List (List Int)} (h : RAbs H D s LY LZ) (k : List Int) : valV D.Z (kI k) ≠ none ↔ s.z k ≠ none := by
  cases e : s.z k with
  | none => simp [h.zn k e]
  | some p => obtain ⟨a, e1, _⟩ := h.zs k p e; rw [e1]; simp
theorem D_Roll_young (T : Txt K mg C_Roll C_Rule C_BookError C_NoNumber C_NoRule C_Gone C_NoAsk) : MetOk P w K mg base C_Roll 1 "young" ["self"] (sp_ryoung C_Roll C_Rule) := by
  obtain ⟨f, fd, F, hm⟩ := T.f_Roll_young
  have nd := sc_Roll_young.nd
  refine ⟨f, fd, (F.ok sc_Roll_young (fun vs H Q E h => ?_) (fun cdv A outer s H vs Q E hr h => ?_)), hm, (F.binds fun _ _ _ _ _ _ us hl => by obtain ⟨_, rfl⟩ := L2.lq1 hl; rfl)⟩
  · obtain ⟨ro, D, ab, LY, LZ, rfl, _⟩ := h; rfl
  · obtain ⟨ro, D, ab, LY, LZ, rfl, A', RA, hL, q⟩ := h
    obtain ⟨dx, hob⟩ := A'.ob
    obtain ⟨ks, dk, hks⟩ := RA.yk
    have hkl : ks.length < 64 := Nat.lt_of_le_of_lt (List.Nodup.length_le_of_subset dk.nd hks) hL
    refine ⟨_, (pss_one (ps_ret (pe_lc (vars := ["key"]) (frees := ["self"]) (fv := [0]) rfl (lcOk rfl rfl (by decide +kernel) (by decide +kernel) (by intro p hp; simp only [List.mem_cons, List.not_mem_nil, or_false] at hp; rcases hp with rfl <;> rfl) rfl) ⟨⟨rfl, .inl rfl, rfl, .inl rfl⟩, trivial⟩ (pi_list (pe_callB (call_sortedD rfl) rfl T.b_sorted bt_sorted (pa_cons (pe_fld (pv 0) rfl) pa_nil))) (gk_name (by decide)) (fun _ _ _ _ => (pg_name (i := 0) (show (["key", "self"] : List Str).Nodup by decide +kernel) rfl (Or.inl rfl))) (fun _ _ _ _ => pif_none) (fun _ _ _ _ => (pe_op (show OpR _ _ (rCatTN K) from op_catTN) (pv 0) (pe_tupN (pa_cons (pe_dget (by exact hu_of hr) (show PE _ _ (tFld K _ _) from pe_fld (pv 1) rfl) (pv 0) (fun _ _ => rfl)) pa_nil))))))), ?_⟩
    refine ⟨_, rfl, ro, C_Roll, dx, _, _, rfl, hob, T.cl_Roll, T.na_Roll_whole_ones, rof_wo _ _ _ _ _, D.dy, D.Y, ks, rfl, A'.yo, dk.eq, hkl, dk.nd, dk.ne', fun ms zs l1 H1 pm sm tz n1 => ?_⟩
    have sk : SKeys ab.y ms := SKeys.ofD dk (fun k => by rw [RA.yv]; cases ab.y k <;> simp) pm sm
    have hml : ms.length = ks.length := pm.length_eq
    have tz1 : Tups H1 zs ms := Tups.same n1.same (show Tups H zs ms from tz)
    have hzl := tz1.length
    refine ⟨l1, rfl, ⟨_, SqL.of n1.at_⟩, lc_listN (xs := zs) (fun i ys H2 => Same H1 H2 ∧ Tups H2 ys ((ms.take i).map (yRow ab))) (Nat.le_of_lt (small1000 (by omega))) ⟨Same.refl _, .nil⟩ (fun i ys H2 h2 => ⟨SqL.of (h2.1 _ _ n1.at_), by have := h2.2.length; rw [this, List.length_map, List.length_take]; omega⟩) ?_ ?_⟩
    · rintro i x ys H2 hi ⟨s2, ty⟩
      obtain ⟨k, hki, b, rfl, hb⟩ := tz1.get hi
      have hkm : k ∈ ms := List.mem_of_getElem? hki
      have hk2 := dk.ne k (pm.mem_iff.mp hkm)
      have s02 := n1.same.trans s2
      have A2 := A'.same s02
      have hb2 := s2 _ _ hb
      obtain ⟨n, hn⟩ : ∃ n, ab.y k = some n := by
        cases e : ab.y k with
        | none => exact absurd e ((sk.mem k).mp hkm)
        | some n => exact ⟨n, rfl⟩
      have hv : valV D.Y (kI k) = some (.int n) := by rw [RA.yv, hn]; rfl
      refine gname_ (yes_ (iteT ?_))
      refine ⟨_, rfl, _, rfl, ro, C_Roll, dx, _, _, rfl, s02 _ _ hob, T.cl_Roll, T.na_Roll_whole_ones, rof_wo _ _ _ _ _, _, rfl, D.dy, .int n, rfl, ?_, (by show 1 ≤ sizeLine; decide), fun p3 H3 n3 => ?_⟩
      · have := DGet.t (k := kI k) A2.yo (by rw [kI_kV]; exact hb2)
        rw [hv] at this
        exact this
      · refine ⟨b, p3, _, _, rfl, rfl, SqT.of (n3.same _ _ hb2), SqT.of n3.at_, (by intro z; have := congrArg List.length z; rw [List.length_map, hk2] at this; cases this), (by intro z; cases z), (by rw [List.length_map, hk2]; show 2 + 1 ≤ sizeLine; decide), fun p4 H4 n4 => ?_⟩
        have s4 := n3.same.trans n4.same
        refine ⟨s2.trans s4, ?_⟩
        rw [takeN _ i _ hki, List.map_append]
        refine Tups.snoc ⟨p4, rfl, ?_⟩ (ty.same s4)
        rw [n4.at_]
        show some (HO.tup (k.map V.int ++ [V.int n])) = some (.tup ((k ++ [(ab.y k).getD 0]).map V.int))
        rw [hn, List.map_append]; rfl
    · rintro ys H2 l3 H3 ⟨s2, ty⟩ n3
      rw [hzl, List.take_length] at ty
      exact q l3 ys ms H3 (n1.same.trans (s2.trans n3.same)) ((n1.same.trans s2).free n3.fresh) n3.at_ sk (by omega) (ty.same n3.same)
theorem D_Roll_heaps (T : Txt K mg C_Roll C_Rule C_BookError C_NoNumber C_NoRule C_Gone C_NoAsk) : MetOk P w K mg base C_Roll 1 "heaps" ["self"] (sp_rheaps C_Roll C_Rule) := by
  obtain ⟨f, fd, F, hm⟩ := T.f_Roll_heaps
  have nd := sc_Roll_heaps.nd
  refine ⟨f, fd, (F.ok sc_Roll_heaps (fun vs H Q E h => ?_) (fun cdv A outer s H vs Q E hr h => ?_)), hm, (F.binds fun _ _ _ _ _ _ us hl => by obtain ⟨_, rfl⟩ := L2.lq1 hl; rfl)⟩
  · obtain ⟨ro, D, ab, LY, LZ, rfl, _⟩ := h; rfl
  · obtain ⟨ro, D, ab, LY, LZ, rfl, A', RA, hL, q⟩ := h
    obtain ⟨dx, hob⟩ := A'.ob
    obtain ⟨ks, dk, hks⟩ := RA.zk
    have hkl : ks.length < 64 := Nat.lt_of_le_of_lt (List.Nodup.length_le_of_subset dk.nd hks) hL
    refine ⟨_, (pss_one (ps_ret (pe_lc (vars := ["cell"]) (frees := ["self"]) (fv := [0]) rfl (lcOk rfl rfl (by decide +kernel) (by decide +kernel) (by intro p hp; simp only [List.mem_cons, List.not_mem_nil, or_false] at hp; rcases hp with rfl <;> rfl) rfl) ⟨⟨rfl, .inl rfl, rfl, .inl rfl⟩, trivial⟩ (pi_list (pe_callB (call_sortedD rfl) rfl T.b_sorted bt_sorted (pa_cons (pe_fld (pv 0) rfl) pa_nil))) (gk_name (by decide)) (fun _ _ _ _ => (pg_name (i := 0) (show (["cell", "self"] : List Str).Nodup by decide +kernel) rfl (Or.inl rfl))) (fun _ _ _ _ => pif_none) (fun _ _ _ _ => (pe_op (show OpR _ _ (rCatTN K) from op_catTN) (pv 0) (pe_dget (by exact hu_of hr) (show PE _ _ (tFld K _ _) from pe_fld (pv 1) rfl) (pv 0) (fun _ _ => rfl))))))), ?_⟩
    refine ⟨_, rfl, ro, C_Roll, dx, _, _, rfl, hob, T.cl_Roll, T.na_Roll_cell_heaps, rof_ch _ _ _ _ _, D.dh, D.Z, ks, rfl, A'.he, dk.eq, hkl, dk.nd, dk.ne', fun ms zs l1 H1 pm sm tz n1 => ?_⟩
    have sk : SKeys ab.z ms := SKeys.ofD dk (fun k => zv_iff RA k) pm sm
    have hml : ms.length = ks.length := pm.length_eq
    have tz1 : Tups H1 zs ms := Tups.same n1.same (show Tups H zs ms from tz)
    have hzl := tz1.length
    refine ⟨l1, rfl, ⟨_, SqL.of n1.at_⟩, lc_listN (xs := zs) (fun i ys H2 => Same H1 H2 ∧ Tups H2 ys ((ms.take i).map (zRow ab))) (Nat.le_of_lt (small1000 (by omega))) ⟨Same.refl _, .nil⟩ (fun i ys H2 h2 => ⟨SqL.of (h2.1 _ _ n1.at_), by have := h2.2.length; rw [this, List.length_map, List.length_take]; omega⟩) ?_ ?_⟩
    · rintro i x ys H2 hi ⟨s2, ty⟩
      obtain ⟨k, hki, b, rfl, hb⟩ := tz1.get hi
      have hkm : k ∈ ms := List.mem_of_getElem? hki
      have hk2 := dk.ne k (pm.mem_iff.mp hkm)
      have s02 := n1.same.trans s2
      have A2 := A'.same s02
      have hb2 := s2 _ _ hb
      obtain ⟨n, hn⟩ : ∃ n, ab.z k = some n := by
        cases e : ab.z k with
        | none => exact absurd e ((sk.mem k).mp hkm)
        | some n => exact ⟨n, rfl⟩
      obtain ⟨hh, hv, hht⟩ := RA.zs k n hn
      refine gname_ (yes_ (iteT ?_))
      refine ⟨_, rfl, _, rfl, ro, C_Roll, dx, _, _, rfl, s02 _ _ hob, T.cl_Roll, T.na_Roll_cell_heaps, rof_ch _ _ _ _ _, ?_⟩
      refine ⟨_, rfl, D.dh, .ref hh, rfl, ?_, ?_⟩
      · have := DGet.t (k := kI k) A2.he (by rw [kI_kV]; exact hb2)
        rw [hv] at this
        exact this
      · refine ⟨b, hh, _, _, rfl, rfl, SqT.of hb2, SqT.of (s02 _ _ hht), (by intro z; have := congrArg List.length z; rw [List.length_map, hk2] at this; cases this), (by intro z; cases z), (by rw [List.length_map, hk2]; show 2 + 4 ≤ sizeLine; decide), fun p4 H4 n4 => ?_⟩
        refine ⟨s2.trans n4.same, ?_⟩
        rw [takeN _ i _ hki, List.map_append]
        refine Tups.snoc ⟨p4, rfl, ?_⟩ (ty.same n4.same)
        rw [n4.at_]
        show some (HO.tup (k.map V.int ++ v4 n)) = some (.tup ((k ++ i4 ((ab.z k).getD (0, 0, 0, 0))).map V.int))
        rw [hn, List.map_append]; rfl
    · rintro ys H2 l3 H3 ⟨s2, ty⟩ n3
      rw [hzl, List.take_length] at ty
      exact q l3 ys ms H3 (n1.same.trans (s2.trans n3.same)) ((n1.same.trans s2).free n3.fresh) n3.at_ sk (by omega) (ty.same n3.same)
end
section
variable {P : Program} {w : World} {K : PySem.W.Frag} {mg : Str → Option Value} {base : Heap} {C_Roll C_Rule C_BookError C_NoNumber C_NoRule C_Gone C_NoAsk : Addr}
theorem D__law_cell_at (T : Txt K mg C_Roll C_Rule C_BookError C_NoNumber C_NoRule C_Gone C_NoAsk) : DefOk P w K mg base 1 "_law_cell_at" ["_law_script", "_law_k"] (sp_lcell K) := by
  obtain ⟨f, fd, F, hm⟩ := T.f__law_cell_at
  have nd := sc__law_cell_at.nd
  refine F.def_ hm (F.ok sc__law_cell_at (fun vs H Q E h => ?_) (fun cdv A outer s H vs Q E hr h => ?_)) (F.binds fun _ _ _ _ _ _ us hl => by obtain ⟨_, _, rfl⟩ := L2.lq2 hl; rfl)
  · obtain ⟨a, ns, k, rfl, _⟩ := h; rfl
  · obtain ⟨a, ns, k, rfl, hS, h0, q⟩ := h
    refine ⟨_, (pss_cons (ps_if (pt_cmpR op_lt (pv 1) (pe_callB call_len_seq rfl T.b_len bt_len (pa_cons (pv 0) pa_nil)) (nomark _))
        (pss_one (ps_ret (pe_ix ix_list (pv 0) (pv 1) (fun _ _ => rfl))))
        pss_nil)
      (pss_one (ps_ret pe_int))), ?_⟩
    walk_at "r"
    refine ite2 (fun z => ?_) fun z => ?_
    · have z' : k < ns.length := by simpa using z
      have hk : k.toNat < ns.length := by omega
      have hi : atI (ns.map V.int) k = some (.int ns[k.toNat]) := by
        have := atI_nat (xs := ns.map V.int) (j := k.toNat) (v := V.int ns[k.toNat]) (by simp [hk])
        rwa [Int.toNat_of_nonneg h0] at this
      walk_at "r"; exact q _
    · exact q 0
theorem D__law_stream (T : Txt K mg C_Roll C_Rule C_BookError C_NoNumber C_NoRule C_Gone C_NoAsk) : DefOk P w K mg base 1 "_law_stream" ["_law_cell_here", "_law_many"] sp_stream41 := by
  obtain ⟨f, fd, F, hm⟩ := T.f__law_stream
  have nd := sc__law_stream.nd
  refine F.def_ hm (F.ok sc__law_stream (fun vs H Q E h => ?_) (fun cdv A outer s H vs Q E hr h => ?_)) (F.binds fun _ _ _ _ _ _ us hl => by obtain ⟨_, _, rfl⟩ := L2.lq2 hl; rfl)
  · obtain ⟨c, k, rfl, _⟩ := h; rfl
  · obtain ⟨c, k, rfl, hk, q⟩ := h
    refine ⟨_, (pss_cons (ps_set (i := 2) nd rfl (Or.inl rfl) (pe_lstN pa_nil))
      (pss_cons (ps_set (i := 3) nd rfl (Or.inl rfl) (pe_op op_add (pe_op op_mod (pv 0) (pe_op op_add (pe_op op_pow pe_int pe_int) pe_int)) pe_int))
      (pss_cons (ps_for PassesOwn.never rfl (pi_range1 rfl T.b_range (pa_cons (pe_op op_add (pv 1) pe_int) pa_nil)) (pg_name (i := 4) nd rfl (Or.inl rfl))
        (pss_cons (ps_set (i := 3) nd rfl (Or.inl rfl) (pe_op op_mod (pe_op op_add (pe_op op_add (pe_op op_mulB (pv 3) (pv 3)) (pe_op op_mulB pe_int (pv 3))) (pv 4)) (pe_op op_add (pe_op op_pow pe_int pe_int) pe_int)))
      (pss_one (ps_expr (pe_bm PySem.F.plainAttrs_list PySem.F.slot_list_append PySem.F.type_list_append mt_appendN (pv 2) (pa_cons (pv 3) pa_nil))))))
      (pss_one (ps_ret (pe_slice sl_listN (pv 2) (po_some pe_int) po_none)))))), ?_⟩
    walk_at "r"; intro l H1 n1
    walk_at "r"
    refine for_range (n := k + 4) (fun i σ H2 => Same H H2 ∧ ∃ (xs : List Int) (n : Int) (v4 : Option V), H2 l = some (.lst (xs.map V.int)) ∧ xs.length = i ∧ (∀ x ∈ xs, XB x) ∧ XB n ∧ σ = [some (.int c), some (.int (k : Int)), some (.ref l), some (.int n), v4]) ⟨n1.same, [], _, none, n1.at_, rfl, (fun x hx => by cases hx), (by show XB (c % (10 ^ 40 + 121) + 48271); unfold XB; omega), rfl⟩ ?_ ?_
    · rintro i σ H2 hi ⟨s2, xs, n, v4, hl2, hx, hb, hn, rfl⟩
      unfold XB at hn
      rw [Int.zero_add]
      walk_at "r"
      intro H3 b3 h3
      have hm : XB ((n * n + 48271 * n + (i : Int)) % (10 ^ 40 + 121)) := ⟨Int.emod_nonneg _ (by decide), Int.lt_of_lt_of_le (Int.emod_lt_of_pos _ (by decide)) (by decide)⟩
      refine ⟨b3.same s2 n1.fresh, xs ++ [(n * n + 48271 * n + (i : Int)) % (10 ^ 40 + 121)], _, _, by rw [List.map_append]; exact h3, by simp [hx], fun x hx' => ?_, hm, rfl⟩
      rcases List.mem_append.mp hx' with z | z
      · exact hb x z
      · rw [List.mem_singleton.mp z]; exact hm
    · rintro σ H2 ⟨s2, xs, n, v4, hl2, hx, hb, hn, rfl⟩
      walk_at "r"; intro l3 H3 n3
      have ec : cutV (xs.map V.int) (some 4) none = (xs.drop 4).map V.int := by
        have := cutFrom (xs.map V.int) 4 (by simp; omega)
        rw [List.map_drop]; exact this
      rw [ec] at n3
      exact q l3 (xs.drop 4) H3 (New.after s2 n3) (by rw [List.length_drop]; omega) fun x hx => hb x (List.mem_of_mem_drop hx)
theorem D__law_run (T : Txt K mg C_Roll C_Rule C_BookError C_NoNumber C_NoRule C_Gone C_NoAsk) : DefOk P w K mg base 2 "_law_run" ["_law_cell_here", "_law_kind"] sp_run := by
  obtain ⟨f, fd, F, hm⟩ := T.f__law_run
  have nd := sc__law_run.nd
  refine F.def_ hm (F.ok sc__law_run (fun vs H Q E h => ?_) (fun cdv A outer s H vs Q E hr h => ?_)) (F.binds fun _ _ _ _ _ _ us hl => by obtain ⟨_, _, rfl⟩ := L2.lq2 hl; rfl)
  · obtain ⟨c, k, rfl, _⟩ := h; rfl
  · obtain ⟨c, k, rfl, h0, h6, q⟩ := h
    obtain ⟨J, eJ⟩ : ∃ J : St → Hp → Prop, J = fun σ H' => ∃ (k : Int) (l : Addr) (x0 x1 x2 : Int), 0 ≤ k ∧ k < 4 ∧ XB x0 ∧ XB x1 ∧ XB x2 ∧ Same H H' ∧ H' l = some (.lst [.int x0, .int x1, .int x2]) ∧ σ = [some (.int c), some (.int k), some (.ref l), none] := ⟨_, rfl⟩
    refine ⟨_, (pss_cons (ps_set (i := 2) nd rfl (Or.inl rfl) (pe_fn (D__law_stream T) (hr.mono (by decide)) rfl (pa_cons (pv 0) (pa_cons pe_int pa_nil))))
      (pss_cut J (ps_if (pt_cmpR op_gt (pv 1) pe_int (nomark _))
        (pss_one (ps_set (i := 1) nd rfl (Or.inl rfl) (pe_op op_mod (pe_op op_fdiv (pe_ix ix_list (pv 2) pe_int (fun _ _ => rfl)) pe_int) pe_int)))
        pss_nil)
      (pss_cons (ps_set (i := 3) nd rfl (Or.inl rfl) (pe_ix ix_list (pe_lstN (pa_cons (pe_op op_sub (pe_op op_mod (pe_ix ix_list (pv 2) pe_int (fun _ _ => rfl)) pe_int) pe_int) (pa_cons (pe_op op_mod (pe_ix ix_list (pv 2) pe_int (fun _ _ => rfl)) pe_int) (pa_cons (pe_op op_sub (pe_op op_mod (pe_ix ix_list (pv 2) pe_int (fun _ _ => rfl)) (pe_op op_mul pe_int (pe_op op_pow pe_int pe_int))) (pe_op op_pow pe_int pe_int)) (pa_cons (pe_op op_sub (pe_op op_mod (pe_ix ix_list (pv 2) pe_int (fun _ _ => rfl)) (pe_op op_mul pe_int (pe_op op_pow pe_int pe_int))) (pe_op op_pow pe_int pe_int)) pa_nil))))) (pv 1) (fun _ _ => rfl)))
      (pss_one (ps_ret (pe_tupN (pa_cons (pv 3) (pa_cons (pe_ix ix_list (pe_lstN (pa_cons pe_int (pa_cons pe_int (pa_cons (pe_op op_add pe_int (pe_op op_mod (pe_ix ix_list (pv 2) pe_int (fun _ _ => rfl)) pe_int)) (pa_cons (pe_op op_add pe_int (pe_op op_mod (pe_ix ix_list (pv 2) pe_int (fun _ _ => rfl)) (pe_op op_pow pe_int pe_int))) pa_nil))))) (pe_op op_mod (pe_ix ix_list (pv 2) pe_int (fun _ _ => rfl)) pe_int) (fun _ _ => rfl)) pa_nil)))))))), ?_⟩
    walk_at "r"
    intro l xs H1 n1 hx hb
    obtain ⟨x0, x1, x2, rfl⟩ := len3 hx
    have b0 := hb x0 (by simp)
    have b1 := hb x1 (by simp)
    have b2 := hb x2 (by simp)
    have hl : H1 l = some (.lst [.int x0, .int x1, .int x2]) := n1.at_
    refine And.intro ?_ ?_
    · walk_at "r"
      refine ite2 (fun z => ?_) fun z => ?_
      · walk_at "r"
        show J _ _
        rw [eJ]
        exact ⟨_, l, x0, x1, x2, by omega, by omega, b0, b1, b2, n1.same, hl, rfl⟩
      · have z' : ¬ (3 < k) := by simpa using z
        show J _ _
        rw [eJ]
        exact ⟨_, l, x0, x1, x2, h0, by omega, b0, b1, b2, n1.same, hl, rfl⟩
    clear hl n1 b0 b1 b2 hb hx h0 h6
    intro σ' H' j
    rw [eJ] at j
    clear eJ
    obtain ⟨k, l, x0, x1, x2, k0, k4, b0, b1, b2, s', hl, rfl⟩ := j
    unfold XB at b0 b1 b2
    walk_at "r"; intro p1 H2 n2
    obtain ⟨v, hv, v1, v2⟩ : ∃ v, atI [V.int (x0 % 9 - 4), V.int (x0 % 3), V.int (x0 % (2 * 10 ^ 9) - 10 ^ 9), V.int (x0 % (2 * 10 ^ 30) - 10 ^ 30)] k = some (V.int v) ∧ -(10 ^ 31) < v ∧ v < 10 ^ 31 := by
      have hk : k = 0 ∨ k = 1 ∨ k = 2 ∨ k = 3 := by omega
      rcases hk with rfl | rfl | rfl | rfl
      · exact ⟨_, rfl, by omega, by omega⟩
      · exact ⟨_, rfl, by omega, by omega⟩
      · exact ⟨_, rfl, by omega, by omega⟩
      · exact ⟨_, rfl, by omega, by omega⟩
    walk_at "r"; intro p3 H3 n3
    obtain ⟨m, hm, m1, m2⟩ : ∃ m, atI [V.int 1, V.int 1, V.int (1 + x2 % 5), V.int (1 + x2 % 10 ^ 12)] (x1 % 4) = some (V.int m) ∧ 1 ≤ m ∧ m < 10 ^ 31 := by
      have hk : x1 % 4 = 0 ∨ x1 % 4 = 1 ∨ x1 % 4 = 2 ∨ x1 % 4 = 3 := by omega
      rcases hk with e | e | e | e <;> rw [e]
      · exact ⟨_, rfl, by omega, by omega⟩
      · exact ⟨_, rfl, by omega, by omega⟩
      · exact ⟨_, rfl, by omega, by omega⟩
      · exact ⟨_, rfl, by omega, by omega⟩
    walk_at "r"; intro a H4 n4
    exact q a (v, m) H4 (New.after (s'.trans (n2.same.trans n3.same)) n4) ⟨⟨v1, v2⟩, m1, m2⟩
theorem D__law_heap (T : Txt K mg C_Roll C_Rule C_BookError C_NoNumber C_NoRule C_Gone C_NoAsk) : DefOk P w K mg base 1 "_law_heap" ["_law_runs"] sp_lheap := by
  obtain ⟨f, fd, F, hm⟩ := T.f__law_heap
  have nd := sc__law_heap.nd
  refine F.def_ hm (F.ok sc__law_heap (fun vs H Q E h => ?_) (fun cdv A outer s H vs Q E hr h => ?_)) (F.binds fun _ _ _ _ _ _ us hl => by obtain ⟨_, rfl⟩ := L2.lq1 hl; rfl)
  · obtain ⟨l, xs, rs, rfl, _⟩ := h; rfl
  · obtain ⟨l, xs, rs, rfl, hl, hp, ok, h1, h2, q⟩ := h
    refine ⟨_, (pss_cons (ps_set (i := 1) nd rfl (Or.inl rfl) (pe_callB (call_sum rfl) rfl T.b_sum bt_sum (pa_cons (pe_lc (vars := ["_law_value", "_law_count"]) (frees := []) (fv := []) rfl (lcOk rfl rfl (by decide +kernel) (by decide +kernel) (by intro p hp; cases hp) rfl) trivial (pi_list (pv 0)) (gk_pair (by decide) (by decide)) (fun _ _ _ _ => (pg_tup rfl (pgs_cons (pg_name (i := 0) (show (["_law_value", "_law_count"] : List Str).Nodup by decide +kernel) rfl (Or.inl rfl)) (pgs_cons (pg_name (i := 1) (show (["_law_value", "_law_count"] : List Str).Nodup by decide +kernel) rfl (Or.inl rfl)) pgs_nil)))) (fun _ _ _ _ => pif_none) (fun _ _ _ _ => (pv 1))) pa_nil)))
      (pss_cons (ps_set (i := 2) nd rfl (Or.inl rfl) (pe_callB (call_sum rfl) rfl T.b_sum bt_sum (pa_cons (pe_lc (vars := ["_law_value", "_law_count"]) (frees := []) (fv := []) rfl (lcOk rfl rfl (by decide +kernel) (by decide +kernel) (by intro p hp; cases hp) rfl) trivial (pi_list (pv 0)) (gk_pair (by decide) (by decide)) (fun _ _ _ _ => (pg_tup rfl (pgs_cons (pg_name (i := 0) (show (["_law_value", "_law_count"] : List Str).Nodup by decide +kernel) rfl (Or.inl rfl)) (pgs_cons (pg_name (i := 1) (show (["_law_value", "_law_count"] : List Str).Nodup by decide +kernel) rfl (Or.inl rfl)) pgs_nil)))) (fun _ _ _ _ => pif_none) (fun _ _ _ _ => (pe_op op_mulB (pv 0) (pv 1)))) pa_nil)))
      (pss_one (ps_ret (pe_tupN (pa_cons (pv 1) (pa_cons (pv 2) (pa_cons (pe_callB (call_minL rfl) rfl T.b_min bt_min (pa_cons (pe_lc (vars := ["_law_value", "_law_count"]) (frees := []) (fv := []) rfl (lcOk rfl rfl (by decide +kernel) (by decide +kernel) (by intro p hp; cases hp) rfl) trivial (pi_list (pv 0)) (gk_pair (by decide) (by decide)) (fun _ _ _ _ => (pg_tup rfl (pgs_cons (pg_name (i := 0) (show (["_law_value", "_law_count"] : List Str).Nodup by decide +kernel) rfl (Or.inl rfl)) (pgs_cons (pg_name (i := 1) (show (["_law_value", "_law_count"] : List Str).Nodup by decide +kernel) rfl (Or.inl rfl)) pgs_nil)))) (fun _ _ _ _ => pif_none) (fun _ _ _ _ => (pv 0))) pa_nil)) (pa_cons (pe_callB (call_maxL rfl) rfl T.b_max bt_max (pa_cons (pe_lc (vars := ["_law_value", "_law_count"]) (frees := []) (fv := []) rfl (lcOk rfl rfl (by decide +kernel) (by decide +kernel) (by intro p hp; cases hp) rfl) trivial (pi_list (pv 0)) (gk_pair (by decide) (by decide)) (fun _ _ _ _ => (pg_tup rfl (pgs_cons (pg_name (i := 0) (show (["_law_value", "_law_count"] : List Str).Nodup by decide +kernel) rfl (Or.inl rfl)) (pgs_cons (pg_name (i := 1) (show (["_law_value", "_law_count"] : List Str).Nodup by decide +kernel) rfl (Or.inl rfl)) pgs_nil)))) (fun _ _ _ _ => pif_none) (fun _ _ _ _ => (pv 0))) pa_nil)) pa_nil))))))))), ?_⟩
    have mulB : ∀ p ∈ rs, CMulB p.1 p.2 := fun p hp => by
      have := ok p hp
      unfold RunOk at this
      exact ⟨⟨by omega, by omega⟩, by omega, by omega⟩
    refine ⟨_, rfl, l, rfl, ⟨_, SqL.of hl⟩, lc_pairs (fun p => p.2) hl hp h2 (fun p hp Q' hq => ⟨_, rfl, hq⟩) fun a1 H1 n1 => ⟨a1, _, rfl, SqL.of n1.at_, ?_⟩⟩
    have hl1 := n1.same _ _ hl
    have hp1 := hp.same n1.same
    refine ⟨_, rfl, l, rfl, ⟨_, SqL.of hl1⟩, lc_pairs (fun p => p.1 * p.2) hl1 hp1 h2 (fun p hp Q' hq => ⟨_, rfl, _, rfl, _, _, rfl, rfl, mulB p hp, hq⟩) fun a2 H2 n2 => ⟨a2, _, rfl, SqL.of n2.at_, ?_⟩⟩
    have hl2 := n2.same _ _ hl1
    have hp2 := hp1.same n2.same
    refine ⟨_, rfl, _, rfl, _, rfl, l, rfl, ⟨_, SqL.of hl2⟩, lc_pairs (fun p => p.1) hl2 hp2 h2 (fun p hp Q' hq => ⟨_, rfl, hq⟩) fun a3 H3 n3 => ⟨a3, _, rfl, SqL.of n3.at_, by simp; omega, fun lo hlo hlo' => ?_⟩⟩
    have hl3 := n3.same _ _ hl2
    have hp3 := hp2.same n3.same
    refine ⟨_, rfl, l, rfl, ⟨_, SqL.of hl3⟩, lc_pairs (fun p => p.1) hl3 hp3 h2 (fun p hp Q' hq => ⟨_, rfl, hq⟩) fun a4 H4 n4 => ⟨a4, _, rfl, SqL.of n4.at_, by simp; omega, fun hi hhi hhi' => ?_⟩⟩
    walk_at "r"; intro a H5 n5
    exact q a _ _ lo hi H5 ⟨rfl, rfl, hlo, hlo', hhi, hhi'⟩ (New.after (n1.same.trans (n2.same.trans (n3.same.trans n4.same))) n5)
theorem D_times_within (T : Txt K mg C_Roll C_Rule C_BookError C_NoNumber C_NoRule C_Gone C_NoAsk) : DefOk P w K mg base 1 "times_within" ["a", "b", "start", "width"] sp_tw := by
  obtain ⟨f, fd, F, hm⟩ := T.f_times_within
  have nd := sc_times_within.nd
  refine F.def_ hm (F.ok sc_times_within (fun vs H Q E h => ?_) (fun cdv A outer s H vs Q E hr h => ?_)) (F.binds fun _ _ _ _ _ _ us hl => by obtain ⟨_, _, _, _, rfl⟩ := L2.lq4 hl; rfl)
  · obtain ⟨a, b, st, w, rfl, _⟩ := h; rfl
  · obtain ⟨a, b, st, w, rfl, q⟩ := h
    refine ⟨_, (pss_cons (ps_set (i := 4) nd rfl (Or.inl rfl) (pe_ifExp (pt_cmpR op_isN (pv 0) pe_non (nomark _)) (pv 2) (pe_callB (call_max2 rfl) rfl T.b_max bt_max (pa_cons (pv 0) (pa_cons (pv 2) pa_nil)))))
      (pss_cons (ps_set (i := 5) nd rfl (Or.inl rfl) (pe_ifExp (pt_cmpR op_isN (pv 1) pe_non (nomark _)) (pe_op op_add (pv 2) (pv 3)) (pe_callB (call_min2 rfl) rfl T.b_min bt_min (pa_cons (pv 1) (pa_cons (pe_op op_add (pv 2) (pv 3)) pa_nil)))))
      (pss_one (ps_ret (pe_callB (call_max2 rfl) rfl T.b_max bt_max (pa_cons pe_int (pa_cons (pe_op op_sub (pv 5) (pv 4)) pa_nil))))))), ?_⟩
    cases a with
    | none =>
      cases b with
      | none => walk_at "r"; exact q
      | some y => walk_at "r"; exact q
    | some x =>
      cases b with
      | none => walk_at "r"; exact q
      | some y => walk_at "r"; exact q
theorem D_is_cut (T : Txt K mg C_Roll C_Rule C_BookError C_NoNumber C_NoRule C_Gone C_NoAsk) : DefOk P w K mg base 2 "is_cut" ["a", "b", "start", "width"] sp_iscut := by
  obtain ⟨f, fd, F, hm⟩ := T.f_is_cut
  have nd := sc_is_cut.nd
  refine F.def_ hm (F.ok sc_is_cut (fun vs H Q E h => ?_) (fun cdv A outer s H vs Q E hr h => ?_)) (F.binds fun _ _ _ _ _ _ us hl => by obtain ⟨_, _, _, _, rfl⟩ := L2.lq4 hl; rfl)
  · obtain ⟨a, b, st, w, rfl, _⟩ := h; rfl
  · obtain ⟨a, b, st, w, rfl, q⟩ := h
    refine ⟨_, (pss_cons (ps_set (i := 4) nd rfl (Or.inl rfl) (pe_fn (D_times_within T) (hr.mono (by decide)) rfl (pa_cons (pv 0) (pa_cons (pv 1) (pa_cons (pv 2) (pa_cons (pv 3) pa_nil))))))
      (pss_one (ps_ret (pe_and (pe_cmpR op_lt pe_int (pv 4) (nomark _)) (pe_one (pe_cmpR op_lt (pv 4) (pv 3) (nomark _))))))), ?_⟩
    walk_at "r"
    refine ⟨a, b, st, w, rfl, ?_⟩
    generalize tWin a b st w = n at q
    walk_at "r"
    refine ite2 (fun z => ?_) fun z => ?_
    · rw [z, Bool.true_and] at q
      walk_at "r"; exact q
    · have z' : decide (0 < n) = false := by simpa using z
      rw [z', Bool.false_and] at q
      exact q
theorem D_Gone_init (T : Txt K mg C_Roll C_Rule C_BookError C_NoNumber C_NoRule C_Gone C_NoAsk) : XcOk P w K mg base C_Gone 1 "Gone" ["self", "edge"] "edge" := by
  obtain ⟨f, fd, F, hE⟩ := T.f_Gone_init
  have nd := sc_Gone_init.nd
  refine ⟨f, fd, (F.ok sc_Gone_init (fun vs H Q E h => ?_) (fun cdv A outer s H vs Q E hr h => ?_)), T.mg_Gone, hE, (F.binds fun _ _ _ _ _ _ us hl => by obtain ⟨_, _, rfl⟩ := L2.lq2 hl; rfl)⟩
  · obtain ⟨ex, v, rfl, _⟩ := h; rfl
  · obtain ⟨ex, v, rfl, hx, q⟩ := h
    refine ⟨_, (pss_cons (ps_expr (pe_xbase rfl T.mg_BookError T.bi_BookError (pa_cons (pv 0) (pa_cons pe_str pa_nil))))
      (pss_one (ps_fldX (pv 0) (pv 1) rfl))), ?_⟩
    refine ⟨_, rfl, ex, C_Gone, f, "edge", none, _, rfl, by decide, hE, hx, ?_⟩
    exact ⟨_, rfl, _, rfl, ex, C_Gone, f, rfl, hx, hE, fun dx H3 f1 ne h3 h4 h5 => q dx H3 f1 ne h3 h4 h5⟩
theorem D_check_begin (T : Txt K mg C_Roll C_Rule C_BookError C_NoNumber C_NoRule C_Gone C_NoAsk) : DefX P w K mg base 3 "check_begin" ["edge", "a"] [] (sp_cb C_Gone) := by
  obtain ⟨f, fd, F, hm⟩ := T.f_check_begin
  have nd := sc_check_begin.nd
  refine ⟨f, fd, (F.okX sc_check_begin (fun vs H Q E h => ?_) (fun cdv A outer s H vs Q E hr h => ?_)), hm, F.kp, (F.binds fun _ _ _ _ _ _ us hl => by obtain ⟨_, _, rfl⟩ := L2.lq2 hl; rfl)⟩
  · obtain ⟨e, a, rfl, _⟩ := h; rfl
  · obtain ⟨e, a, rfl, qE, q⟩ := h
    refine ⟨_, (pss_one (ps_if (PW.pt (pw_and (pt_cmpR op_notN (pv 0) pe_non (nomark _)) (pw_and1 (PW.pt (pw_or (pt_cmpR op_isN (pv 1) pe_non (nomark _)) (pw_or1 (pt_cmpR op_lt (pv 1) (pv 0) (nomark _))))))))
        (pss_one (ps_raiseI (wants_wish ⟨rfl, rfl, rfl⟩) rfl (D_Gone_init T) (hr.mono (by decide)) rfl (pa_cons (pv 0) pa_nil)))
        pss_nil)), ?_⟩
    cases e with
    | none =>
      walk_at "r"
      exact q fun ⟨z, e, _⟩ => by cases e
    | some z =>
      cases a with
      | none =>
        walk_at "r"
        exact fun dx H2 n2 => qE ⟨z, rfl, fun x e => by cases e⟩ dx H2 n2
      | some x =>
        walk_at "r"
        refine ite2 (fun y => ?_) fun y => ?_
        · walk_at "r"
          exact fun dx H2 n2 => qE ⟨z, rfl, fun x' e => by cases e; simpa using y⟩ dx H2 n2
        · exact q fun ⟨z', e, h'⟩ => by cases e; exact absurd (h' x rfl) (by simpa using y)
end
section
variable {P : Program} {w : World} {K : PySem.W.Frag} {mg : Str → Option Value} {base : Heap} {C_Roll C_Rule C_BookError C_NoNumber C_NoRule C_Gone C_NoAsk : Addr}
theorem D__law_edges (T : Txt K mg C_Roll C_Rule C_BookError C_NoNumber C_NoRule C_Gone C_NoAsk) : DefOk P w K mg base 1 "_law_edges" ["_law_rule_here", "_law_day"] sp_edg41 := by
  obtain ⟨f, fd, F, hm⟩ := T.f__law_edges
  have nd := sc__law_edges.nd
  refine F.def_ hm (F.ok sc__law_edges (fun vs H Q E h => ?_) (fun cdv A outer s H vs Q E hr h => ?_)) (F.binds fun _ _ _ _ _ _ us hl => by obtain ⟨_, _, rfl⟩ := L2.lq2 hl; rfl)
  · obtain ⟨t, l, xs, ps, g, d, rfl, _⟩ := h; rfl
  · obtain ⟨t, l, xs, ps, g, d, rfl, ht, hl, hx, Pg, hd, q⟩ := h
    have hlen := hx.length
    have h5 := Pg.good.hi
    obtain ⟨p, hp, ep⟩ := Pg.last
    refine ⟨_, (pss_cons (ps_setLC (i := 2) (vars := ["_law_age", "_law_width"]) (frees := ["_law_day"]) (fv := [1]) nd rfl (Or.inl rfl) rfl (lcOk rfl rfl (by decide +kernel) (by decide +kernel) (by intro p hp; simp only [List.mem_cons, List.not_mem_nil, or_false] at hp; rcases hp with rfl <;> rfl) rfl) ⟨⟨rfl, .inl rfl, rfl, .inl rfl⟩, trivial⟩ (pi_list (pe_ix ix_tup (pv 0) pe_int (fun _ _ => rfl))) (gk_pair (by decide) (by decide)) (fun _ _ _ _ => (pg_tup rfl (pgs_cons (pg_name (i := 0) (show (["_law_age", "_law_width", "_law_day"] : List Str).Nodup by decide +kernel) rfl (Or.inl rfl)) (pgs_cons (pg_name (i := 1) (show (["_law_age", "_law_width", "_law_day"] : List Str).Nodup by decide +kernel) rfl (Or.inl rfl)) pgs_nil)))) (fun _ _ _ _ => pif_none) (fun _ _ _ _ => (pe_op op_mulB (pe_op op_fdivB (pe_op op_sub (pv 2) (pv 0)) (pv 1)) (pv 1))))
      (pss_cons (ps_if (pt_cmpR op_isN (pe_ix ix_tup (pv 0) pe_int (fun _ _ => rfl)) pe_non (nomark _))
        (pss_one (ps_ret (pe_op op_catN (pv 2) (pe_lstN (pa_cons pe_non pa_nil)))))
        pss_nil)
      (pss_one (ps_ret (pe_op op_catN (pv 2) (pe_lstN (pa_cons (pe_op op_mulB (pe_op op_fdivB (pe_op op_sub (pv 1) (pe_ix ix_tup (pv 0) pe_int (fun _ _ => rfl))) (pe_ix ix_tup (pe_ix ix_list (pe_ix ix_tup (pv 0) pe_int (fun _ _ => rfl)) (pe_un un_neg pe_int) (fun _ _ => rfl)) pe_int (fun _ _ => rfl))) (pe_ix ix_tup (pe_ix ix_list (pe_ix ix_tup (pv 0) pe_int (fun _ _ => rfl)) (pe_un un_neg pe_int) (fun _ _ => rfl)) pe_int (fun _ _ => rfl))) pa_nil))))))), ?_⟩
    walk_at "r"
    refine ⟨⟨_, SqL.of hl⟩, lc_listN (xs := xs) (fun i ys H2 => Same H H2 ∧ ys = (ps.take i).map fun p => V.int (cut d p.1 p.2)) (Nat.le_of_lt (small1000 (by omega))) ⟨Same.refl _, rfl⟩ (fun i ys H2 h2 => ⟨SqL.of (h2.1 _ _ hl), by rw [h2.2]; simp; omega⟩) ?_ ?_⟩
    · rintro i x ys H2 hi ⟨s2, rfl⟩
      obtain ⟨p, hpi, a, rfl, ha⟩ := hx.get hi
      have hs := Pg.size i p hpi
      unfold Bd at hd
      have hb := div_b (x := d - p.1) (B := 10 ^ 46) hs.2.2.1 (by decide) (by omega) (by omega)
      refine ⟨a, _, rfl, SqT.of (s2 _ _ ha), rfl, _, _, rfl, _, _, rfl, rfl, yes_ (iteT ?_)⟩
      refine ⟨_, rfl, _, rfl, _, _, rfl, rfl, _, rfl, _, _, rfl, rfl, ⟨by show 0 < p.2; omega, by show p.2 < _; omega⟩, _, rfl, _, _, rfl, rfl, ⟨⟨by omega, by omega⟩, by omega, by omega⟩, s2, ?_⟩
      exact (mapN _ ps i p hpi).symm
    · rintro ys H2 c1 H3 ⟨s2, rfl⟩ n3
      rw [hlen, List.take_length] at n3
      have s3 : Same H H3 := s2.trans n3.same
      have ht3 := s3 _ _ ht
      have hl3 := s3 _ _ hl
      cases g with
      | none =>
        walk_at "r"; intro c2 H4 n4
        refine ⟨c1, c2, _, _, rfl, rfl, n4.same _ _ n3.at_, n4.at_, Nat.le_of_lt (small1000 (by simp; omega)), fun z H6 n6 => ?_⟩
        exact q z H6 (New.after (s3.trans n4.same) n6)
      | some z =>
        obtain ⟨v, hv, a, rfl, ha⟩ := hx.get' hp
        have hz := Pg.gb z rfl
        have hs := Pg.size _ p hp
        unfold Bd at hd
        have hb := div_b (x := d - z) (B := 10 ^ 46) hs.2.2.1 (by decide) (by omega) (by omega)
        have hat : atI xs (-1) = some (.ref a) := atI_m1 (by rw [hlen]; exact hv)
        have ha3 := s3 _ _ ha
        walk_at "r"; intro c2 H4 n4
        refine ⟨c1, c2, _, _, rfl, rfl, n4.same _ _ n3.at_, n4.at_, Nat.le_of_lt (small1000 (by simp; omega)), fun y H6 n6 => ?_⟩
        have e : eV ps (some z) d = (ps.map fun p => V.int (cut d p.1 p.2)) ++ [V.int ((d - z) / p.2 * p.2)] := by
          show (ps.map fun p => V.int (cut d p.1 p.2)) ++ [V.int (cut d z (lw ps))] = _
          rw [ep]; rfl
        refine q y H6 ?_
        rw [e]
        exact New.after (s3.trans n4.same) n6
end
section
variable {P : Program} {w : World} {K : PySem.W.Frag} {mg : Str → Option Value} {base : Heap} {C_Roll C_Rule C_BookError C_NoNumber C_NoRule C_Gone C_NoAsk : Addr}
def lastI (xs : List Int) : Int := xs.getLast?.getD 0
theorem lastI_snoc (xs : List Int) (w : Int) : lastI (xs ++ [w]) = w := by unfold lastI; rw [List.getLast?_concat]; rfl
def sp_cell41 : Sp := fun vs H Q _ => ∃ (t l : Addr) (xs : List V) (ps : List (Int × Int)) (g : Option Int) (e : Addr) (d tm : Int), vs = [.ref t, .ref e, .int tm] ∧ H t = some (.tup [.ref l, gv g]) ∧ H l = some (.lst xs) ∧ Pairs H xs ps ∧ Pr ps g ∧ Bd d ∧ H e = some (.lst (eV ps g d)) ∧ TB46 tm ∧ ∀ v o H', CellOf (ps.map (·.2)) (ps.map fun p => cut d p.1 p.2) (g.map fun z => cut d z (lw ps)) tm o → CellAt H' v o → Same H H' → Q v H'
theorem gone_first {ps : List (Int × Int)} {g : Option Int} (P : Pr ps g) (d : Int) {z e0 : Int} (hz : (g.map fun z => cut d z (lw ps)) = some z) (h0 : (ps.map fun p => cut d p.1 p.2)[0]? = some e0) : z ≤ e0 := by
  obtain ⟨y, rfl, rfl⟩ := Option.map_eq_some_iff.mp hz
  rw [List.getElem?_map] at h0
  obtain ⟨p, hp, rfl⟩ := Option.map_eq_some_iff.mp h0
  obtain ⟨q, hq, eq⟩ := P.last
  have lo := P.good.lo
  have h1 := good_le P.good (ps.length - 1) 0 p q hp (by rw [Nat.zero_add]; exact hq)
  have h2 := P.gone q hq y rfl
  have hp1 := (P.good.each 0 p hp).2
  have hq1 := (P.good.each _ q hq).2
  rw [eq]
  unfold cut
  have f1 := fl_le (d - y) hq1
  have f2 := fl_le (d - p.1) hp1
  have dv : p.2 ∣ (d - y) / q.2 * q.2 := Int.dvd_trans h1.2 (fl_dvd _ _)
  exact Decidable.byContradiction fun n => by
    have := dvd_lt hp1 dv (show (d - p.1) / p.2 * p.2 < (d - y) / q.2 * q.2 by omega)
    have e : (d - p.1) / p.2 * p.2 / p.2 * p.2 = (d - p.1) / p.2 * p.2 := by rw [Int.mul_ediv_cancel _ (by omega)]
    rw [e] at this
    omega
theorem D__law_cell (T : Txt K mg C_Roll C_Rule C_BookError C_NoNumber C_NoRule C_Gone C_NoAsk) : DefOk P w K mg base 1 "_law_cell" ["_law_rule_here", "_law_edges_here", "_law_time_here"] sp_cell41 := by
  obtain ⟨f, fd, F, hm⟩ := T.f__law_cell
  have nd := sc__law_cell.nd
  refine F.def_ hm (F.ok sc__law_cell (fun vs H Q E h => ?_) (fun cdv A outer s H vs Q E hr h => ?_)) (F.binds fun _ _ _ _ _ _ us hl => by obtain ⟨_, _, _, rfl⟩ := L2.lq3 hl; rfl)
  · obtain ⟨t, l, xs, ps, g, e, d, tm, rfl, _⟩ := h; rfl
  · obtain ⟨t, l, xs, ps, g, e, d, tm, rfl, ht, hl, hx, P, hd, he, htm, q⟩ := h
    have Ex := EdS.of P hd
    have F := Fall.of P d
    have gf := fun z e0 => gone_first P d (z := z) (e0 := e0)
    rw [Ex.eq] at he
    have hlen := hx.length
    have lo := P.good.lo
    have h5 := P.good.hi
    have hel : (ps.map fun p => cut d p.1 p.2).length = ps.length := by rw [List.length_map]
    generalize (ps.map fun p => cut d p.1 p.2) = es at he F gf hel q
    generalize (g.map fun z => cut d z (lw ps)) = ge at he F gf q
    obtain ⟨e0, h0⟩ : ∃ e0, es[0]? = some e0 := ⟨_, List.getElem?_eq_getElem (by omega)⟩
    have hlast : (es.map V.int ++ [gv ge])[(es.map V.int ++ [gv ge]).length - 1]? = some (gv ge) := by simp
    obtain ⟨J, eJ⟩ : ∃ J : St → Hp → Prop, J = fun σ H' => H' = H ∧ ¬ goneB ge tm ∧ σ = [some (.ref t), some (.ref e), some (.int tm), none, none, none] := ⟨_, rfl⟩
    refine ⟨_, (pss_cut J (ps_if (PW.pt (pw_and (pt_cmpR op_notN (pe_ix ix_list (pv 1) (pe_un un_neg pe_int) (fun _ _ => rfl)) pe_non (nomark _)) (pw_and1 (pt_cmpR op_lt (pv 2) (pe_ix ix_list (pv 1) (pe_un un_neg pe_int) (fun _ _ => rfl)) (nomark _)))))
        (pss_one (ps_ret pe_non))
        pss_nil)
      (pss_cons (ps_set (i := 3) nd rfl (Or.inl rfl) pe_int)
      (pss_cons (ps_for PassesOwn.never rfl (pi_zip rfl T.b_zip (pa_cons (pe_ix ix_tup (pv 0) pe_int (fun _ _ => rfl)) (pa_cons (pv 1) pa_nil))) (pg_tup rfl (pgs_cons (pg_name (i := 4) nd rfl (Or.inl rfl)) (pgs_cons (pg_name (i := 5) nd rfl (Or.inl rfl)) pgs_nil)))
        (pss_one (ps_if (pt_cmpR op_lt (pv 2) (pv 5) (nomark _))
        (pss_one (ps_set (i := 3) nd rfl (Or.inl rfl) (pe_ix ix_tup (pv 4) pe_int (fun _ _ => rfl))))
        pss_nil)))
      (pss_cons (ps_if (pt_cmpR op_eq (pv 3) pe_int (nomark _))
        (pss_one (ps_ret (pe_tupN (pa_cons (pv 2) (pa_cons pe_int pa_nil)))))
        pss_nil)
      (pss_one (ps_ret (pe_tupN (pa_cons (pe_op op_mulB (pe_op op_fdivB (pv 2) (pv 3)) (pv 3)) (pa_cons (pv 3) pa_nil))))))))), ?_⟩
    refine And.intro ?_ ?_
    · cases ge with
      | none =>
        walk_at "r"
        show J _ _
        rw [eJ]; exact ⟨rfl, fun ⟨z, e, _⟩ => (by cases e), rfl⟩
      | some y =>
        walk_at "r"
        refine ite2 (fun z => ?_) fun z => ?_
        · have z2 : tm < y := by simpa using z
          have := gf y e0 rfl h0
          exact q .non none H (CellOf.b h0 (by omega) ⟨y, rfl, z2⟩) rfl (Same.refl _)
        · have z2 : ¬ tm < y := by simpa using z
          show J _ _
          rw [eJ]; exact ⟨rfl, fun ⟨z, e, h'⟩ => (by cases e; exact z2 h'), rfl⟩
    intro σ' H' j
    rw [eJ] at j
    obtain ⟨rfl, hg, rfl⟩ := j
    walk_at "r"
    refine ⟨l, e, xs, _, rfl, SqL.of hl, SqL.of he, for_zipN (xs := xs) (fun i σ H2 => Same H' H2 ∧ ∃ v4 v5 : Option V, σ = [some (.ref t), some (.ref e), some (.int tm), some (.int (lastI (((((ps.map (·.2)).zip es).take i).filter fun x => decide (tm < x.2)).map (·.1)))), v4, v5]) ⟨Same.refl _, none, none, rfl⟩ (fun i σ H2 h2 => ⟨SqL.of (h2.1 _ _ hl), SqL.of (h2.1 _ _ he)⟩) ?_ ?_⟩
    · rintro i x y σ H2 pa H3 hxi hyi n3 ⟨s2, v4, v5, rfl⟩
      obtain ⟨pi, hpi, a, rfl, ha⟩ := hx.get hxi
      have hil : i < es.length := by have := (List.getElem?_eq_some_iff.mp hxi).1; omega
      have hei : es[i]? = some es[i] := List.getElem?_eq_getElem hil
      have hwi : (ps.map (·.2))[i]? = some pi.2 := by rw [List.getElem?_map, hpi]; rfl
      rw [List.getElem?_append_left (by rw [List.length_map]; exact hil), List.getElem?_map, hei] at hyi
      cases hyi
      have s3 := s2.trans n3.same
      have ha3 := s3 _ _ ha
      refine ⟨pa, _, rfl, SqT.of n3.at_, rfl, _, _, rfl, _, _, rfl, rfl, ?_⟩
      walk_at "r"
      refine ite2 (fun z => ?_) fun z => ?_
      · have z2 : tm < es[i] := by simpa using z
        refine ⟨_, rfl, a, _, 1, _, rfl, rfl, SqT.of ha3, rfl, ?_⟩
        exact ⟨s3, _, _, by rw [wl_t hwi hei z2, lastI_snoc]; rfl⟩
      · have z2 : ¬ tm < es[i] := by simpa using z
        exact ⟨s3, _, _, by rw [wl_f hwi hei z2]; rfl⟩
    · rintro i σ H2 hi ⟨s2, v4, v5, rfl⟩
      rw [wl_all (by rw [List.length_zip, List.length_map, hi, List.length_append, List.length_map]; omega)]
      have hmem := fun w => wl_mem (ws := ps.map (·.2)) (es := es) (t := tm) (w := w)
      by_cases c : e0 ≤ tm
      · have hno : wl (ps.map (·.2)) es tm = [] := wl_no fun x hx' => by
          obtain ⟨k, hk, ek⟩ := List.getElem_of_mem hx'
          have := F.dn 0 k e0 x (Nat.zero_le _) h0 (by rw [← ek]; exact List.getElem?_eq_getElem hk)
          omega
        rw [hno]
        walk_at "r"
        intro p4 H4 n4
        exact q (.ref p4) _ H4 (CellOf.a h0 c) ⟨p4, rfl, n4.at_⟩ (s2.trans n4.same)
      · have hne := wl_ne (ws := ps.map (·.2)) (w0 := (ps[0]'(by omega)).2) (by rw [List.getElem?_map, List.getElem?_eq_getElem (by omega : 0 < ps.length)]; rfl) h0 (show tm < e0 by omega)
        obtain ⟨w', hw'⟩ : ∃ w', (wl (ps.map (·.2)) es tm)[(wl (ps.map (·.2)) es tm).length - 1]? = some w' := ⟨_, List.getElem?_eq_getElem (by omega)⟩
        have el : lastI (wl (ps.map (·.2)) es tm) = w' := by unfold lastI; rw [List.getLast?_eq_getElem?, hw']; rfl
        obtain ⟨pp, hpp, hpw⟩ := List.mem_map.mp (hmem w' (List.mem_of_getElem? hw'))
        obtain ⟨k, hk, ek⟩ := List.getElem_of_mem hpp
        have hs := P.size k pp (by rw [← ek]; exact List.getElem?_eq_getElem hk)
        rw [hpw] at hs
        rw [el]
        unfold TB46 at htm
        have hb := div_b (x := tm) (B := 10 ^ 46) hs.2.2.1 (by decide) (by omega) (by omega)
        walk_at "r"
        refine ite2 (fun z => ?_) fun z => ?_
        · have : w' = 0 := by simpa using z
          omega
        · walk_at "r"; intro p4 H4 n4
          exact q (.ref p4) _ H4 (CellOf.c h0 (by omega) hg hw') ⟨p4, rfl, n4.at_⟩ (s2.trans n4.same)
end
section
variable {P : Program} {w : World} {K : PySem.W.Frag} {mg : Str → Option Value} {base : Heap} {C_Roll C_Rule C_BookError C_NoNumber C_NoRule C_Gone C_NoAsk : Addr}
def T5 (t : Int) : Prop := -(5 * 10 ^ 45) ≤ t ∧ t ≤ 5 * 10 ^ 45
def sp_time41 : Sp := fun vs H Q _ => ∃ (t l : Addr) (xs : List V) (ps : List (Int × Int)) (g : Option Int) (d x : Int), vs = [.ref t, .int d, .int x] ∧ H t = some (.tup [.ref l, gv g]) ∧ H l = some (.lst xs) ∧ Pairs H xs ps ∧ Dr41 ps g ∧ Bd d ∧ ∀ tm H', T5 tm → Same H H' → Q (.int tm) H'
theorem D__law_time (T : Txt K mg C_Roll C_Rule C_BookError C_NoNumber C_NoRule C_Gone C_NoAsk) : DefOk P w K mg base 2 "_law_time" ["_law_rule_here", "_law_day", "_law_x"] sp_time41 := by
  obtain ⟨f, fd, F, hm⟩ := T.f__law_time
  have nd := sc__law_time.nd
  refine F.def_ hm (F.ok sc__law_time (fun vs H Q E h => ?_) (fun cdv A outer s H vs Q E hr h => ?_)) (F.binds fun _ _ _ _ _ _ us hl => by obtain ⟨_, _, _, rfl⟩ := L2.lq3 hl; rfl)
  · obtain ⟨t, l, xs, ps, g, d, x, rfl, _⟩ := h; rfl
  · obtain ⟨t, l, xs, ps, g, d, x, rfl, ht, hl, hx, D, hd, q⟩ := h
    have P := D.pr
    obtain ⟨p, hp, ep⟩ := P.last
    obtain ⟨v, hv, a, rfl, ha⟩ := hx.get' hp
    have hlen := hx.length
    have lo := P.good.lo
    have h5 := P.good.hi
    have hat : atI xs (-1) = some (.ref a) := atI_m1 (by rw [hlen]; exact hv)
    have E0 := EdS.of P hd
    have hs := P.size _ p hp
    have hb := D.each _ p hp
    have hel : (ps.map fun p => cut d p.1 p.2).length = ps.length := by rw [List.length_map]
    have hEl : (eV ps g d).length = ps.length + 1 := by rw [E0.eq]; simp
    refine ⟨_, (pss_cons (ps_setLC (i := 3) (vars := ["_law_edge"]) (frees := []) (fv := []) nd rfl (Or.inl rfl) rfl (lcOk rfl rfl (by decide +kernel) (by decide +kernel) (by intro p hp; cases hp) rfl) trivial (pi_list (pe_fn (D__law_edges T) (hr.mono (by decide)) rfl (pa_cons (pv 0) (pa_cons (pv 1) pa_nil)))) (gk_name (by decide)) (fun _ _ _ _ => (pg_name (i := 0) (show (["_law_edge"] : List Str).Nodup by decide +kernel) rfl (Or.inl rfl))) (fun _ _ _ _ => (pif_one (pt_cmpR op_notN (pv 0) pe_non (nomark _)))) (fun _ _ _ _ => (pv 0)))
      (pss_cons (ps_set (i := 4) nd rfl (Or.inl rfl) (pe_ix ix_list (pv 3) (pe_op op_mod (pe_op op_fdiv (pv 2) pe_int) (pe_callB call_len_seq rfl T.b_len bt_len (pa_cons (pv 3) pa_nil))) (fun _ _ => rfl)))
      (pss_cons (ps_set (i := 5) nd rfl (Or.inl rfl) (pe_ix ix_tup (pe_ix ix_list (pe_ix ix_tup (pv 0) pe_int (fun _ _ => rfl)) (pe_un un_neg pe_int) (fun _ _ => rfl)) pe_int (fun _ _ => rfl)))
      (pss_cons (ps_set (i := 6) nd rfl (Or.inl rfl) (pe_op op_add (pe_op op_add (pe_ix ix_tup (pe_ix ix_list (pe_ix ix_tup (pv 0) pe_int (fun _ _ => rfl)) (pe_un un_neg pe_int) (fun _ _ => rfl)) pe_int (fun _ _ => rfl)) (pe_op op_mul pe_int (pv 5))) pe_int))
      (pss_cons (ps_if (pt_cmpR op_eq (pe_op op_mod (pv 2) pe_int) pe_int (nomark _))
        (pss_one (ps_ret (pe_op op_sub (pe_op op_add (pv 4) (pe_op op_mod (pe_op op_fdiv (pv 2) pe_int) pe_int)) pe_int)))
        pss_nil)
      (pss_cons (ps_if (pt_cmpR op_eq (pe_op op_mod (pv 2) pe_int) pe_int (nomark _))
        (pss_one (ps_ret (pe_op op_add (pe_op op_sub (pv 4) (pe_op op_mod (pe_op op_fdiv (pv 2) pe_int) (pe_op op_mul pe_int (pv 5)))) pe_int)))
        pss_nil)
      (pss_one (ps_ret (pe_op op_sub (pe_op op_add (pv 1) pe_int) (pe_op op_mod (pe_op op_fdiv (pv 2) pe_int) (pv 6))))))))))), ?_⟩
    walk_at "r"
    refine ⟨t, l, xs, ps, g, d, rfl, ht, hl, hx, P, hd, fun le H1 n1 => ?_⟩
    refine ⟨le, rfl, ⟨_, SqL.of n1.at_⟩, lc_listN (xs := eV ps g d) (fun i ys H3 => Same H1 H3 ∧ ys = ((eV ps g d).take i).filter notN) (Nat.le_of_lt (small1000 (by omega))) ⟨Same.refl _, rfl⟩ (fun i ys H3 h3 => ⟨SqL.of (h3.1 _ _ n1.at_), by rw [h3.2]; exact filt_len _ _⟩) ?_ ?_⟩
    · rintro i x ys H3 hi ⟨s3, rfl⟩
      refine ⟨_, rfl, rfl, _, rfl, ite2 (fun z => ?_) fun z => ?_⟩
      · exact ⟨_, rfl, s3, (filt_t hi z).symm⟩
      · exact ⟨s3, (filt_f hi z).symm⟩
    · rintro ys H3 kl H4 ⟨s3, rfl⟩ n4
      rw [List.take_length] at n4
      rw [E0.eq, known] at n4
      have kb := known_b E0
      generalize (ps.map fun p => cut d p.1 p.2) = es at n4 kb hel
      generalize (g.map fun z => cut d z (lw ps)) = ge at n4 kb
      obtain ⟨ed, hed, hat2⟩ := at_in (es ++ ge.toList) (by rw [List.length_append]; omega) (x / 4)
      have hb2 := kb ed hed
      unfold EB at hb2
      have hkl : 0 < ((es ++ ge.toList).map V.int).length := by rw [List.length_map, List.length_append]; omega
      have s4 : Same H H4 := n1.same.trans (s3.trans n4.same)
      have ht4 := s4 _ _ ht
      have hl4 := s4 _ _ hl
      have ha4 := s4 _ _ ha
      have hk4 := n4.at_
      clear n1 s3 n4
      unfold Bd at hd
      have m0 := Int.emod_nonneg (x / 64) (show 3 * p.2 ≠ 0 by omega)
      have m1 := Int.emod_lt_of_pos (x / 64) (show 0 < 3 * p.2 by omega)
      have k0 := Int.emod_nonneg (x / 64) (show p.1 + 3 * p.2 + 9 ≠ 0 by omega)
      have k1 := Int.emod_lt_of_pos (x / 64) (show 0 < p.1 + 3 * p.2 + 9 by omega)
      walk_at "r"
      refine ite2 (fun z => ?_) fun z => ?_
      · walk_at "r"
        exact q _ H4 (by unfold T5; omega) s4
      walk_at "r"
      refine ite2 (fun z => ?_) fun z => ?_
      · walk_at "r"
        exact q _ H4 (by unfold T5; omega) s4
      walk_at "r"
      exact q _ H4 (by unfold T5; omega) s4
def sp_read41 : Sp := fun vs H Q _ => ∃ (t l : Addr) (xs : List V) (ps : List (Int × Int)) (g : Option Int) (d c k : Int), vs = [.ref t, .int d, .int c, .int k] ∧ H t = some (.tup [.ref l, gv g]) ∧ H l = some (.lst xs) ∧ Pairs H xs ps ∧ Dr41 ps g ∧ Bd d ∧ 0 ≤ k ∧ k < 6 ∧ ∀ a (r : Rd3) H', T5 r.1 → RunT r.2 → Same H H' → H' a = some (.tup [.int r.1, .int r.2.1, .int r.2.2]) → Q (.ref a) H'
theorem D__law_reading (T : Txt K mg C_Roll C_Rule C_BookError C_NoNumber C_NoRule C_Gone C_NoAsk) : DefOk P w K mg base 3 "_law_reading" ["_law_rule_here", "_law_day", "_law_cell_here", "_law_kind"] sp_read41 := by
  obtain ⟨f, fd, F, hm⟩ := T.f__law_reading
  have nd := sc__law_reading.nd
  refine F.def_ hm (F.ok sc__law_reading (fun vs H Q E h => ?_) (fun cdv A outer s H vs Q E hr h => ?_)) (F.binds fun _ _ _ _ _ _ us hl => by obtain ⟨_, _, _, _, rfl⟩ := L2.lq4 hl; rfl)
  · obtain ⟨t, l, xs, ps, g, d, c, k, rfl, _⟩ := h; rfl
  · obtain ⟨t, l, xs, ps, g, d, c, k, rfl, ht, hl, hx, D, hd, k0, k6, q⟩ := h
    refine ⟨_, (pss_cons (ps_set (i := 4) nd rfl (Or.inl rfl) (pe_ix ix_list (pe_fn (D__law_stream T) (hr.mono (by decide)) rfl (pa_cons (pv 2) (pa_cons pe_int pa_nil))) pe_int (fun _ _ => rfl)))
      (pss_one (ps_ret (pe_op (show OpR _ _ (rCatTN K) from op_catTN) (pe_tupN (pa_cons (pe_fn (D__law_time T) (hr.mono (by decide)) rfl (pa_cons (pv 0) (pa_cons (pv 1) (pa_cons (pv 4) pa_nil)))) pa_nil)) (pe_fn (D__law_run T) (hr.mono (by decide)) rfl (pa_cons (pv 2) (pa_cons (pv 3) pa_nil))))))), ?_⟩
    walk_at "r"; intro ls ys H1 n1 hy hb
    have hy : ys.length = 4 := hy
    obtain ⟨x, hx3⟩ : ∃ x, ys[3]? = some x := ⟨_, List.getElem?_eq_getElem (by omega)⟩
    have at3 : atI (ys.map V.int) 3 = some (.int x) := atI_nat (j := 3) (by rw [List.getElem?_map, hx3]; rfl)
    have hls := n1.at_
    walk_at "r"
    refine ⟨t, l, xs, ps, g, d, x, rfl, n1.same _ _ ht, n1.same _ _ hl, hx.same n1.same, D, hd, fun tm H2 htm s2 => ?_⟩
    have s02 := n1.same.trans s2
    walk_at "r"; intro p3 H3 n3
    refine ⟨_, rfl, _, rfl, c, k, rfl, k0, k6, fun b r H4 n4 hr4 => ?_⟩
    refine ⟨p3, b, _, _, rfl, rfl, SqT.of (n4.same _ _ n3.at_), SqT.of n4.at_, (by intro z; cases z), (by intro z; cases z), (by show 1 + 2 ≤ sizeLine; decide), fun a H5 n5 => ?_⟩
    exact q a (tm, r) H5 htm hr4 (s02.trans (n3.same.trans (n4.same.trans n5.same))) n5.at_
end
section
variable {P : Program} {w : World} {K : PySem.W.Frag} {mg : Str → Option Value} {base : Heap} {C_Roll C_Rule C_BookError C_NoNumber C_NoRule C_Gone C_NoAsk : Addr}
theorem tnil_ {σ : St} {H : Hp} {K : List V → Hp → Prop} (h : K [] H) : tNil σ H K := h
theorem slice6 {a b c d e f : Int} {H : Hp} {p : Addr} (hp : H p = none) : New H (upd H p (.tup (cutV [V.int a, .int b, .int c, .int d, .int e, .int f] (some 2) none))) p (.tup [V.int c, .int d, .int e, .int f]) := new_upd hp
theorem slice_ok (h : HT.sIx 6 0 (some 2) = 0 ∧ HT.sIx 6 6 none = 6) : False := by
  have z1 : HT.sIx 6 0 (some 2) = 0 := h.1
  revert z1; decide
theorem D_pieces (T : Txt K mg C_Roll C_Rule C_BookError C_NoNumber C_NoRule C_Gone C_NoAsk) : DefX P w K mg base 4 "pieces" ["roll", "a", "b"] [] (sp_pieces C_Roll C_Rule C_Gone) := by
  obtain ⟨f, fd, F, hm⟩ := T.f_pieces
  have nd := sc_pieces.nd
  refine ⟨f, fd, (F.okX sc_pieces (fun vs H Q E h => ?_) (fun cdv A outer s H vs Q E hr h => ?_)), hm, F.kp, (F.binds fun _ _ _ _ _ _ us hl => by obtain ⟨_, _, _, rfl⟩ := L2.lq3 hl; rfl)⟩
  · obtain ⟨ro, c, s', LY, LZ, n, a, b, rfl, _⟩ := h; rfl
  · obtain ⟨ro, c, s', LY, LZ, n, a, b, rfl, R0, ly, lz, ao, hn, qE, q⟩ := h
    obtain ⟨dx, hob⟩ := R0.obj
    obtain ⟨Y0, Z0, A0, B0⟩ := id R0
    have ysh := ao.ysh hn
    have zsh := ao.zsh
    refine ⟨_, (pss_cons (ps_expr (pe_fnX (wants_wish ⟨rfl, rfl, rfl⟩) (D_check_begin T) (hr.mono (by decide)) rfl .nil (pa_cons (pe_ix ix_list (pe_mt0 (pv 0) T.cl_Roll (D_Roll_edges T) (hr.mono (by decide))) (pe_un un_neg pe_int) (fun _ _ => rfl)) (pa_cons (pv 1) pa_nil))))
      (pss_cons (ps_set (i := 3) nd rfl (Or.inl rfl) (pe_mt0 (pv 0) T.cl_Roll (D_Roll_heaps T) (hr.mono (by decide))))
      (pss_cons (ps_setLC (i := 4) (vars := ["row"]) (frees := ["a", "b"]) (fv := [1, 2]) nd rfl (Or.inl rfl) rfl (lcOk rfl rfl (by decide +kernel) (by decide +kernel) (by intro p hp; simp only [List.mem_cons, List.not_mem_nil, or_false] at hp; rcases hp with rfl | rfl <;> rfl) rfl) ⟨⟨rfl, .inl rfl, rfl, .inl rfl⟩, ⟨⟨rfl, .inl rfl, rfl, .inl rfl⟩, trivial⟩⟩ (pi_list (pv 3)) (gk_name (by decide)) (fun _ _ _ _ => (pg_name (i := 0) (show (["row", "a", "b"] : List Str).Nodup by decide +kernel) rfl (Or.inl rfl))) (fun _ _ _ _ => (pif_one (pt_cmpR op_eq (pe_fn (D_times_within T) (hr.mono (by decide)) rfl (pa_cons (pv 1) (pa_cons (pv 2) (pa_cons (pe_ix (show IxR _ (rIxT K) from ix_tup) (pv 0) pe_int (fun _ _ => rfl)) (pa_cons (pe_ix (show IxR _ (rIxT K) from ix_tup) (pv 0) pe_int (fun _ _ => rfl)) pa_nil))))) (pe_ix (show IxR _ (rIxT K) from ix_tup) (pv 0) pe_int (fun _ _ => rfl)) (nomark _)))) (fun _ _ _ _ => (pe_slice (show SlR _ (rSlT K) from sl_tup) (pv 0) (po_some pe_int) po_none)))
      (pss_cons (ps_for (own_wish ⟨rfl, rfl, rfl⟩) rfl (pi_list (pe_mt0 (pv 0) T.cl_Roll (D_Roll_young T) (hr.mono (by decide)))) (pg_tup rfl (pgs_cons (pg_name (i := 5) nd rfl (Or.inl rfl)) (pgs_cons (pg_name (i := 6) nd rfl (Or.inl rfl)) (pgs_cons (pg_name (i := 7) nd rfl (Or.inl rfl)) pgs_nil))))
        (pss_one (ps_if (pt_cmpR op_eq (pe_fn (D_times_within T) (hr.mono (by decide)) rfl (pa_cons (pv 1) (pa_cons (pv 2) (pa_cons (pv 5) (pa_cons pe_int pa_nil))))) pe_int (nomark _))
        (pss_one (ps_expr (pe_bm PySem.F.plainAttrs_list PySem.F.slot_list_append PySem.F.type_list_append mt_appendN (pv 4) (pa_cons (pe_fn (D_heap_of T) (hr.mono (by decide)) rfl (pa_cons (pe_lstN (pa_cons (pe_tupN (pa_cons (pv 6) (pa_cons (pv 7) pa_nil))) pa_nil)) pa_nil)) pa_nil))))
        pss_nil)))
      (pss_cons (ps_setLC (i := 8) (vars := ["row"]) (frees := ["a", "b"]) (fv := [1, 2]) nd rfl (Or.inl rfl) rfl (lcOk rfl rfl (by decide +kernel) (by decide +kernel) (by intro p hp; simp only [List.mem_cons, List.not_mem_nil, or_false] at hp; rcases hp with rfl | rfl <;> rfl) rfl) ⟨⟨rfl, .inl rfl, rfl, .inl rfl⟩, ⟨⟨rfl, .inl rfl, rfl, .inl rfl⟩, trivial⟩⟩ (pi_list (pv 3)) (gk_name (by decide)) (fun _ _ _ _ => (pg_name (i := 0) (show (["row", "a", "b"] : List Str).Nodup by decide +kernel) rfl (Or.inl rfl))) (fun _ _ _ _ => (pif_one (pt_val (pe_fn (D_is_cut T) (hr.mono (by decide)) rfl (pa_cons (pv 1) (pa_cons (pv 2) (pa_cons (pe_ix (show IxR _ (rIxT K) from ix_tup) (pv 0) pe_int (fun _ _ => rfl)) (pa_cons (pe_ix (show IxR _ (rIxT K) from ix_tup) (pv 0) pe_int (fun _ _ => rfl)) pa_nil)))))))) (fun _ _ _ _ => (pe_tupN (pa_cons (pe_ix (show IxR _ (rIxT K) from ix_tup) (pv 0) pe_int (fun _ _ => rfl)) (pa_cons (pe_ix (show IxR _ (rIxT K) from ix_tup) (pv 0) pe_int (fun _ _ => rfl)) (pa_cons (pe_slice (show SlR _ (rSlT K) from sl_tup) (pv 0) (po_some pe_int) po_none) pa_nil))))))
      (pss_one (ps_ret (pe_tupN (pa_cons (pv 4) (pa_cons (pv 8) pa_nil)))))))))), ?_⟩
    walk_at "r"
    refine ⟨ro, dx, _, rfl, hob, rof_edges _ _ _ _ _, ro, _, rfl, A0, fun le H1 n1 => ?_⟩
    have hat : atI (c.es.map V.int ++ [gv c.ge]) (-1) = some (gv c.ge) := atI_m1 (by simp)
    have hle : H1 le = some (.lst (c.es.map V.int ++ [gv c.ge])) := n1.at_
    refine ⟨_, rfl, le, _, _, _, rfl, rfl, SqL.of hle, hat, _, rfl, ?_⟩
    refine ⟨c.ge, a, rfl, fun bd dx2 H2 n2 => qE bd dx2 H2 (New.after n1.same n2), fun nb => ?_⟩
    have q := q nb
    clear qE hat hle
    have s01 := n1.same
    clear n1
    walk_at "r"
    refine ⟨ro, dx, _, rfl, s01 _ _ hob, rof_heaps _ _ _ _ _, tnil_ ?_⟩
    refine (R0.same s01).heaps lz fun l2 xs2 H2 s2 f2 h2 t2 ok2 => ?_
    have hzl := t2.length
    obtain ⟨o1, o2⟩ := ok2
    have s02 := s01.trans s2
    have fl2 : H l2 = none := s01.free f2
    clear s01 s2 f2
    refine ⟨_, rfl, l2, rfl, ⟨_, SqL.of h2⟩, lc_listN (xs := xs2) (fun i ys H3 => Same H2 H3 ∧ Tups H3 ys ((((zRows s').take i).filter (kZ a b)).map (List.drop 2))) (Nat.le_of_lt (small1000 (by omega))) ⟨Same.refl _, .nil⟩ (fun i ys H3 h3 => ⟨SqL.of (h3.1 _ _ h2), by rw [h3.2.length, List.length_map]; exact fl_len _ _ _⟩) ?_ ?_⟩
    · rintro i x ys H3 hi ⟨s3, ty⟩
      obtain ⟨r, hri, p, rfl, hp⟩ := t2.get hi
      obtain ⟨st, w, m, t, lo, hi', rfl, hw⟩ := zsh r (List.mem_of_getElem? hri)
      have hp3 : H3 p = some (.tup [.int st, .int w, .int m, .int t, .int lo, .int hi']) := s3 _ _ hp
      refine gname_ ?_
      walk_at "r"
      refine ⟨a, b, st, w, rfl, ?_⟩
      walk_at "r"
      refine ite2 (fun z => ?_) fun z => ?_
      · have z2 : kZ a b [st, w, m, t, lo, hi'] = true := by unfold kZ; simpa using z
        walk_at "r"
        refine ⟨fun y => slice_ok y, fun p5 hp5 => ?_⟩
        have n5 := slice6 (a := st) (b := w) (c := m) (d := t) (e := lo) (f := hi') hp5
        refine ⟨s3.trans n5.same, ?_⟩
        rw [fl_t hri z2, List.map_append]
        exact Tups.snoc ⟨p5, rfl, n5.at_⟩ (ty.same n5.same)
      · have z2 : ¬ kZ a b [st, w, m, t, lo, hi'] = true := by unfold kZ; simpa using z
        rw [fl_f hri z2]
        exact ⟨s3, ty⟩
    rintro ys H3 lk H4 ⟨s3, ty⟩ n4
    rw [hzl, List.take_length] at ty
    have s04 := s02.trans (s3.trans n4.same)
    have flk : H lk = none := (s02.trans s3).free n4.fresh
    have h24 := n4.same _ _ (s3 _ _ h2)
    have t24 := t2.same (s3.trans n4.same)
    have hk4 := n4.at_
    have ty4 := ty.same n4.same
    have nk2 : l2 ≠ lk := ne_of_none (s3 _ _ h2) n4.fresh
    clear s3 n4 ty h2 t2 s02
    walk_at "r"
    refine ⟨ro, dx, _, rfl, s04 _ _ hob, rof_young _ _ _ _ _, tnil_ ?_⟩
    refine (R0.same s04).young ly fun l5 xs5 H5 s5 f5 h5 t5 ok5 => ?_
    have hyl := t5.length
    obtain ⟨o3, o4⟩ := ok5
    have nk5 : l5 ≠ lk := (ne_of_none hk4 f5).symm
    have hk5 := s5 _ _ hk4
    have h25 := s5 _ _ h24
    have t25 := t24.same s5
    have ty5 := ty4.same s5
    have s05 := s04.trans s5
    clear s5 f5 hk4 h24 t24 ty4 s04
    refine ⟨l5, rfl, ⟨_, SqL.of h5⟩, for_list (xs := xs5) (fun i σ H6 => But lk H5 H6 ∧ ∃ (ks : List V) (v5 v6 v7 : Option V), H6 lk = some (.lst ks) ∧ Tups H6 ks (((zRows s').filter (kZ a b)).map (List.drop 2) ++ (((yRows s').take i).filter (kY a b)).map yH) ∧ σ = [some (.ref ro), some (gv a), some (gv b), some (.ref l2), some (.ref lk), v5, v6, v7, none]) ⟨fun _ _ e _ => e, ys, none, none, none, hk5, by simpa using ty5, rfl⟩ (fun i σ H6 _ h6 => SqL.of (h6.1 _ _ h5 nk5)) ?_ ?_⟩
    · rintro i x σ H6 hi ⟨b6, ks, v5, v6, v7, hk6, tk6, rfl⟩
      obtain ⟨r, hri, p, rfl, hp⟩ := t5.get hi
      obtain ⟨t, v, m, rfl, rb⟩ := ysh r (List.mem_of_getElem? hri)
      have hp6 : H6 p = some (.tup [.int t, .int v, .int m]) := b6 _ _ hp (ne_of hp hk5 (by intro z; cases z))
      have lk6 := tk6.length
      have lfl := fl_len (yRows s') (kY a b) i
      have lfz := List.length_filter_le (kZ a b) (zRows s')
      have li : i < xs5.length := (List.getElem?_eq_some_iff.mp hi).1
      rw [List.length_append, List.length_map, List.length_map] at lk6
      refine ⟨p, _, rfl, SqT.of hp6, rfl, _, _, rfl, _, _, rfl, _, _, rfl, rfl, ?_⟩
      walk_at "r"
      refine ⟨a, b, t, 1, rfl, ?_⟩
      walk_at "r"
      refine ite2 (fun z => ?_) fun z => ?_
      · have z2 : kY a b [t, v, m] = true := by unfold kY; simpa using z
        walk_at "r"; intro p7 H7 n7
        walk_at "r"; intro p8 H8 n8
        refine ⟨p8, _, [(v, m)], rfl, n8.at_, .cons ⟨p7, rfl, n8.same _ _ n7.at_⟩ .nil, (fun q hq => by rw [List.mem_singleton.mp hq]; exact rb), by simp, (fun z => by cases z), fun _ h9 a1 b1 lo hi' H9 ho n9 => ?_⟩
        obtain ⟨e1, e2, e3, e4⟩ := heap_one ho
        rw [e1, e2, e3, e4] at n9
        have s69 := n7.same.trans (n8.same.trans n9.same)
        have hk9 := s69 _ _ hk6
        refine ⟨lk, _, _, rfl, rfl, hk9, (by rw [sizeLine_eq]; omega), fun H10 b10 hk10 => ?_⟩
        refine ⟨fun x o e hx => b10 _ _ (s69 _ _ (b6 _ _ e hx)) hx, _, _, _, _, hk10, ?_, rfl⟩
        rw [fl_t hri z2, List.map_append, ← List.append_assoc]
        have ts : TupS H9 H10 := fun x xs e => b10 _ _ e (ne_of e hk9 (by intro z; cases z))
        exact Tups.snoc ⟨h9, rfl, ts _ _ (show H9 h9 = some (.tup ((yH [t, v, m]).map V.int)) from n9.at_)⟩ ((tk6.same s69).tupS ts)
      · have z2 : ¬ kY a b [t, v, m] = true := by unfold kY; simpa using z
        rw [fl_f hri z2]
        exact ⟨b6, ks, _, _, _, hk6, tk6, rfl⟩
    rintro σ H6 ⟨b6, ks, v5, v6, v7, hk6, tk6, rfl⟩
    rw [hyl, List.take_length] at tk6
    have h26 := b6 _ _ h25 nk2
    have t26 : Tups H6 xs2 (zRows s') := t25.tupS fun x xs e => b6 _ _ e (ne_of e hk5 (by intro z; cases z))
    have s06 : Same H H6 := b6.same s05 flk
    clear b6 t25 h25 ty5 hk5 s05 h5 t5
    refine ⟨_, rfl, l2, rfl, ⟨_, SqL.of h26⟩, lc_listN (xs := xs2) (fun i ys H3 => Same H6 H3 ∧ Parts H3 ys (((zRows s').take i).filter (cZ a b))) (Nat.le_of_lt (small1000 (by omega))) ⟨Same.refl _, .nil⟩ (fun i ys H3 h3 => ⟨SqL.of (h3.1 _ _ h26), by rw [h3.2.length]; exact fl_len _ _ _⟩) ?_ ?_⟩
    · rintro i x ys H7 hi ⟨s7, ty⟩
      obtain ⟨r, hri, p, rfl, hp⟩ := t26.get hi
      obtain ⟨st, w, m, t, lo, hi', rfl, hw⟩ := zsh r (List.mem_of_getElem? hri)
      have hp7 : H7 p = some (.tup [.int st, .int w, .int m, .int t, .int lo, .int hi']) := s7 _ _ hp
      refine gname_ ?_
      walk_at "r"
      refine ⟨a, b, st, w, rfl, ?_⟩
      have ec : (decide (0 < tWin a b st w) && decide (tWin a b st w < w)) = cZ a b [st, w, m, t, lo, hi'] := rfl
      rw [ec]
      refine ⟨_, rfl, ite2 (fun z => ?_) fun z => ?_⟩
      · walk_at "r"
        refine ⟨fun y => slice_ok y, fun p8 hp8 => ?_⟩
        have n8 := slice6 (a := st) (b := w) (c := m) (d := t) (e := lo) (f := hi') hp8
        generalize upd H7 p8 (.tup (cutV [V.int st, .int w, .int m, .int t, .int lo, .int hi'] (some 2) none)) = H8 at n8 ⊢
        walk_at "r"; intro p9 H9 n9
        have s79 := n8.same.trans n9.same
        refine ⟨s7.trans s79, ?_⟩
        rw [fl_t hri z]
        exact Parts.snoc (r := [st, w, m, t, lo, hi']) ⟨p9, p8, rfl, n9.at_, n9.same _ _ n8.at_⟩ (ty.same s79)
      · rw [fl_f hri z]
        exact ⟨s7, ty⟩
    rintro zs H7 lp H8 ⟨s7, ty⟩ n8
    rw [hzl, List.take_length] at ty
    walk_at "r"; intro tt H9 n9
    have s69 := s7.trans (n8.same.trans n9.same)
    have hk9 := s69 _ _ hk6
    exact q tt lk lp ks zs H9 (s06.trans s69) flk ((s06.trans s7).free n8.fresh) (ne_of_none (s7 _ _ hk6) n8.fresh) n9.at_ hk9 (tk6.same s69) (n9.same _ _ n8.at_) (ty.same (n8.same.trans n9.same))
end
section
variable {P : Program} {w : World} {K : PySem.W.Frag} {mg : Str → Option Value} {base : Heap} {C_Roll C_Rule C_BookError C_NoNumber C_NoRule C_Gone C_NoAsk : Addr}
theorem items_key {kvs : KV} {ks : List (List Int)} (d : DKeys kvs ks) {i : Nat} {k : List Key} {v : V} (h : kvs[i]? = some (k, v)) : ∃ key, ks[i]? = some key ∧ k = kI key ∧ key.length = 2 ∧ valV kvs (kI key) = some v := by
  have this : (kvs.map (·.1))[i]? = (ks.map kI)[i]? := congrArg (fun z => z[i]?) d.eq
  have e1 : (kvs.map (·.1))[i]? = some k := by rw [List.getElem?_map, h]; rfl
  rw [e1, List.getElem?_map] at this
  obtain ⟨key, h1, h2⟩ := Option.map_eq_some_iff.mp this.symm
  have nd : (kvs.map (·.1)).Nodup := by rw [d.eq]; exact kI_nodup d.nd
  exact ⟨key, h1, h2.symm, d.ne key (List.mem_of_getElem? h1), by rw [h2]; exact valV_at nd h⟩
theorem putA_n {cell : Int → Option (Int × Int)} {s : Abs} {r : Rd3} (e : cell r.1 = none) : putA cell s r = s := by unfold putA; rw [e]
theorem putA_y {cell : Int → Option (Int × Int)} {s : Abs} {r : Rd3} {a : Int} (e : cell r.1 = some (a, 0)) : putA cell s r = { s with y := updA s.y [r.1, r.2.1] ((s.y [r.1, r.2.1]).getD 0 + r.2.2) } := by unfold putA; rw [e]; exact if_pos rfl
theorem putA_z {cell : Int → Option (Int × Int)} {s : Abs} {r : Rd3} {a w : Int} (e : cell r.1 = some (a, w)) (h : w ≠ 0) : putA cell s r = { s with z := updA s.z [a, w] (pour4 (s.z [a, w]) (one4 r.2.1 r.2.2)) } := by unfold putA; rw [e]; exact if_neg h
theorem yRow_len {s : Abs} {ks : List (List Int)} : ∀ k ∈ ks.map (yRow s), k ≠ [] := fun k hk => by obtain ⟨j, hj, rfl⟩ := List.mem_map.mp hk; unfold yRow; simp
theorem zRow_len {s : Abs} {ks : List (List Int)} : ∀ k ∈ ks.map (zRow s), k ≠ [] := fun k hk => by obtain ⟨j, hj, rfl⟩ := List.mem_map.mp hk; unfold zRow i4; simp
theorem D__law_rows (T : Txt K mg C_Roll C_Rule C_BookError C_NoNumber C_NoRule C_Gone C_NoAsk) : DefOk P w K mg base 2 "_law_rows" ["_law_rule_here", "_law_edges_here", "_law_readings"] sp_rows41 := by
  obtain ⟨f, fd, F, hm⟩ := T.f__law_rows
  have nd := sc__law_rows.nd
  refine F.def_ hm (F.ok sc__law_rows (fun vs H Q E h => ?_) (fun cdv A outer s H vs Q E hr h => ?_)) (F.binds fun _ _ _ _ _ _ us hl => by obtain ⟨_, _, _, rfl⟩ := L2.lq3 hl; rfl)
  · obtain ⟨t, l, xs, ps, g, e, d, lr, ys, rs, rfl, _⟩ := h; rfl
  · obtain ⟨t, l, xs, ps, g, e, d, lr, ys, rs, rfl, ht, hl, hx, P, hd, he, hlr, hy, hn, hrd, q⟩ := h
    have g1 := P.good.lo
    have hes : 1 ≤ (ps.map fun p => cut d p.1 p.2).length := by rw [List.length_map]; exact g1
    have hyl : ys.length = rs.length := by rw [hy.length, List.length_map]
    refine ⟨_, (pss_cons (ps_set (i := 3) nd rfl (Or.inl rfl) pe_dnewN)
      (pss_cons (ps_set (i := 4) nd rfl (Or.inl rfl) pe_dnewN)
      (pss_cons (ps_for PassesOwn.never rfl (pi_list (pv 2)) (pg_tup rfl (pgs_cons (pg_name (i := 5) nd rfl (Or.inl rfl)) (pgs_cons (pg_name (i := 6) nd rfl (Or.inl rfl)) (pgs_cons (pg_name (i := 7) nd rfl (Or.inl rfl)) pgs_nil))))
        (pss_cons (ps_set (i := 8) nd rfl (Or.inl rfl) (pe_fn (D__law_cell T) (hr.mono (by decide)) rfl (pa_cons (pv 0) (pa_cons (pv 1) (pa_cons (pv 5) pa_nil)))))
      (pss_one (ps_if (PW.pt (pw_and (pt_cmpR op_notN (pv 8) pe_non (nomark _)) (pw_and1 (pt_cmpR op_eq (pe_ix ix_tup (pv 8) pe_int (fun _ _ => rfl)) pe_int (nomark _)))))
        (pss_one (ps_dput (hu_of hr) (pv 3) (pe_tupN (pa_cons (pv 5) (pa_cons (pv 6) pa_nil))) (pe_op op_add (pe_dget2 (hu_of hr) (pv 3) (pe_tupN (pa_cons (pv 5) (pa_cons (pv 6) pa_nil))) pe_int ⟨rfl, rfl, rfl, rfl⟩) (pv 7)) rfl))
        (pss_one (ps_if (pt_cmpR op_notN (pv 8) pe_non (nomark _))
        (pss_one (ps_dput (hu_of hr) (pv 4) (pv 8) (pe_op op_catN (pe_dget2 (hu_of hr) (pv 4) (pv 8) (pe_lstN pa_nil) ⟨rfl, rfl, rfl, rfl⟩) (pe_lstN (pa_cons (pe_tupN (pa_cons (pv 6) (pa_cons (pv 7) pa_nil))) pa_nil))) rfl))
        pss_nil))))))
      (pss_one (ps_ret (pe_tupN (pa_cons (pe_callB call_sortedL rfl T.b_sorted bt_sorted (pa_cons (pe_thaw (pe_lc (vars := ["_law_key", "_law_many"]) (frees := []) (fv := []) rfl (lcOk rfl rfl (by decide +kernel) (by decide +kernel) (by intro p hp; cases hp) rfl) trivial (pi_items (pv 3)) (gk_pair (by decide) (by decide)) (fun _ _ _ _ => (pg_tup rfl (pgs_cons (pg_name (i := 0) (show (["_law_key", "_law_many"] : List Str).Nodup by decide +kernel) rfl (Or.inl rfl)) (pgs_cons (pg_name (i := 1) (show (["_law_key", "_law_many"] : List Str).Nodup by decide +kernel) rfl (Or.inl rfl)) pgs_nil)))) (fun _ _ _ _ => pif_none) (fun _ _ _ _ => (pe_op (show OpR _ _ (rCatTN K) from op_catTN) (pv 0) (pe_tupN (pa_cons (pv 1) pa_nil)))))) pa_nil)) (pa_cons (pe_callB call_sortedL rfl T.b_sorted bt_sorted (pa_cons (pe_thaw (pe_lc (vars := ["_law_key", "_law_runs"]) (frees := []) (fv := []) rfl (lcOk rfl rfl (by decide +kernel) (by decide +kernel) (by intro p hp; cases hp) rfl) trivial (pi_items (pv 4)) (gk_pair (by decide) (by decide)) (fun _ _ _ _ => (pg_tup rfl (pgs_cons (pg_name (i := 0) (show (["_law_key", "_law_runs"] : List Str).Nodup by decide +kernel) rfl (Or.inl rfl)) (pgs_cons (pg_name (i := 1) (show (["_law_key", "_law_runs"] : List Str).Nodup by decide +kernel) rfl (Or.inl rfl)) pgs_nil)))) (fun _ _ _ _ => pif_none) (fun _ _ _ _ => (pe_op (show OpR _ _ (rCatTN K) from op_catTN) (pv 0) (pe_fn (D__law_heap T) (hr.mono (by decide)) rfl (pa_cons (pv 1) pa_nil)))))) pa_nil)) pa_nil)))))))), ?_⟩
    intro dY H1 n1
    intro dZ H2 n2
    have s02 := n1.same.trans n2.same
    have fY : H dY = none := n1.fresh
    have fZ : H dZ = none := n1.same.free n2.fresh
    have nYZ : dY ≠ dZ := ne_of_none n1.at_ n2.fresh
    have hY2 := n2.same _ _ n1.at_
    have hZ2 := n2.at_
    clear n1 n2
    refine ⟨_, rfl, lr, rfl, ⟨_, SqL.of (s02 _ _ hlr)⟩, for_list (xs := ys) (fun i σ H3 => Same H H3 ∧ ∃ (Y Z : KV) (f : List Int → List (Int × Int)) (v5 v6 v7 v8 : Option V), H3 dY = some (.dT Y) ∧ H3 dZ = some (.dT Z) ∧ LR H3 Y Z (absOf (cell41 ps g d) (rs.take i)) f i ∧ σ = [some (.ref t), some (.ref e), some (.ref lr), some (.ref dY), some (.ref dZ), v5, v6, v7, v8]) ⟨s02, [], [], _, none, none, none, none, hY2, hZ2, LR.zero, rfl⟩ (fun i σ H3 _ h3 => SqL.of (h3.1 _ _ hlr)) ?_ ?_⟩
    · rintro i x σ H3 hi ⟨s3, Y, Z, f, v5, v6, v7, v8, hY, hZ, L, rfl⟩
      have hil : i < ys.length := (List.getElem?_eq_some_iff.mp hi).1
      obtain ⟨r3, hri, p, rfl, hp⟩ := hy.get hi
      rw [List.getElem?_map] at hri
      obtain ⟨r, hr', rfl⟩ := Option.map_eq_some_iff.mp hri
      obtain ⟨tm, v, m⟩ := r
      have hp3 : H3 p = some (.tup [.int tm, .int v, .int m]) := s3 _ _ hp
      obtain ⟨htm, rok⟩ := hrd _ (List.mem_of_getElem? hr')
      have htm : TB46 tm := htm
      have rok : RunOk (v, m) := rok
      rw [takeN rs i _ hr', absOf_snoc]
      generalize absOf (cell41 ps g d) (rs.take i) = sa at L ⊢
      refine ⟨p, _, rfl, SqT.of hp3, rfl, _, _, rfl, _, _, rfl, _, _, rfl, rfl, ?_⟩
      walk_at "r"
      refine ⟨t, l, xs, ps, g, e, d, tm, rfl, s3 _ _ ht, s3 _ _ hl, hx.same s3, P, hd, s3 _ _ he, htm, fun hv o H4 hc cat s4 => ?_⟩
      have eo : cell41 ps g d tm = o := cellF_eq hes hc
      have L4 := L.kp (KpL.of s4)
      have hY4 := s4 _ _ hY
      have hZ4 := s4 _ _ hZ
      have s04 := s3.trans s4
      have yl := L.ylen
      have zl := L.zlen
      clear L hY hZ s3 s4 hp3 hp
      generalize cell41 ps g d = cell at eo
      cases o with
      | none =>
        cases (show hv = .non from cat)
        rw [putA_n (r := (tm, v, m)) eo]
        walk_at "r"
        exact ⟨Y, Z, f, _, _, _, _, hY4, hZ4, L4.mono (Nat.le_succ i), rfl⟩
      | some pr =>
        obtain ⟨c, rfl, hcv⟩ := cat
        have hcs := CellOf.some_ hc hes (fun w hw => P.w1 hw)
        obtain ⟨a, w⟩ := pr
        clear hc
        rcases hcs with z | hw
        · cases z
          rw [putA_y (r := (tm, v, m)) eo]
          walk_at "r"
          refine ⟨.inr ⟨_, .inl hY4⟩, ?_⟩
          walk_at "r"; intro p5 H5 n5
          refine ⟨_, DGet.t (k := kk tm v) (n5.same _ _ hY4) n5.at_, ?_⟩
          rw [yv_get L4.yok]
          walk_at "r"; intro p6 H6 n6
          have s46 := n5.same.trans n6.same
          have s06 := s04.trans s46
          have hY6 := s46 _ _ hY4
          refine ⟨dY, _, rfl, DPut.t (k := kk tm v) hY6 n6.at_ (small1000 (by omega)), ?_⟩
          refine ⟨but_upd.same s06 fY, _, Z, f, _, _, _, _, upd_same, by rw [upd_ne nYZ.symm]; exact s46 _ _ hZ4, ?_, rfl⟩
          exact ((L4.kp (KpL.of s46)).putY tm v m).kp (KpL.but but_upd hY6)
        · have hw : 1 ≤ w := hw
          rw [putA_z (r := (tm, v, m)) eo (by omega)]
          walk_at "r"
          refine ite2 (fun z => ?_) fun z => ?_
          · have z2 : w = 0 := by simpa using z
            omega
          have hcv' : H4 c = some (.tup ((kk a w).map kV)) := hcv
          walk_at "r"
          refine ⟨.inr ⟨_, .inl hZ4⟩, ?_⟩
          walk_at "r"; intro p5 H5 n5
          have hZ5 := n5.same _ _ hZ4
          have L5 := L4.kp (KpL.of n5.same)
          refine ⟨_, DGet.t (k := kk a w) hZ5 (n5.same _ _ hcv'), ?_⟩
          obtain ⟨pa, xa, ea, hpa, ppa⟩ : ∃ pa xa, (valV Z (kk a w)).getD (.ref p5) = .ref pa ∧ H5 pa = some (.lst xa) ∧ Pairs H5 xa (f [a, w]) := by
            by_cases ef : f [a, w] = []
            · rw [show kk a w = kI [a, w] from rfl, L5.zn _ ef, ef]
              exact ⟨p5, [], rfl, n5.at_, .nil⟩
            · obtain ⟨pa, xa, e1, e2, e3⟩ := L5.zs _ ef
              rw [show kk a w = kI [a, w] from rfl, e1]
              exact ⟨pa, xa, rfl, e2, e3⟩
          rw [ea]
          have lxa := ppa.length
          have lfa := L5.fl [a, w]
          walk_at "r"; intro p6 H6 n6
          walk_at "r"; intro p7 H7 n7
          have s57 := n6.same.trans n7.same
          refine ⟨pa, p7, _, _, rfl, rfl, s57 _ _ hpa, n7.at_, Nat.le_of_lt (small1000 (by simp; omega)), fun p8 H8 n8 => ?_⟩
          have s58 := s57.trans n8.same
          have hZ8 := s58 _ _ hZ5
          have s08 := s04.trans (n5.same.trans s58)
          refine ⟨_, rfl, _, rfl, dZ, _, rfl, DPut.t (k := kk a w) hZ8 (s58 _ _ (n5.same _ _ hcv')) (small1000 (by omega)), ?_⟩
          have pp8 := Pairs.app (ppa.same s58) (.cons (show PairAt H8 (.ref p6) (v, m) from ⟨p6, rfl, n8.same _ _ (n7.same _ _ n6.at_)⟩) .nil)
          have L8 := ((L5.kp (KpL.of s58)).putZ n8.at_ pp8 rok).kp (KpL.but (but_upd (o := .dT (putK Z (kk a w) (.ref p8)))) hZ8)
          exact ⟨but_upd.same s08 fZ, Y, _, _, _, _, _, _, by rw [upd_ne nYZ]; exact s58 _ _ (n5.same _ _ hY4), upd_same, L8, rfl⟩
    rintro σ H3 ⟨s3, Y, Z, f, v5, v6, v7, v8, hY, hZ, L, rfl⟩
    rw [hyl, List.take_length] at L
    have fn : ∀ k, (f k).length ≤ 60 := fun k => Nat.le_trans (L.fl k) (by omega)
    generalize absOf (cell41 ps g d) rs = sa at L q
    obtain ⟨ks, dk, hkl⟩ := L.yk
    obtain ⟨js, dj, hjl⟩ := L.zk
    have yl := dk_size dk
    have zl := dk_size dj
    clear hrd hy hlr
    refine ⟨_, rfl, dY, Y, rfl, hY, fun ob nf => lc_items (H := H3) (fun i ys H4 => But dY H3 H4 ∧ H4 dY = some (.frz ob (.dT Y)) ∧ Tups H4 ys ((ks.take i).map (yRow sa))) (Nat.le_of_lt (small1000 (by omega))) nf ⟨but_upd, upd_same, .nil⟩ (fun i ys H4 h4 => ⟨h4.2.1, by rw [h4.2.2.length, List.length_map, List.length_take]; omega⟩) ?_ ?_⟩
    · rintro i k v b p ys H4 H5 hkv hb n5 ⟨b4, f4, ty⟩
      obtain ⟨key, hki, rfl, hk2, hval⟩ := items_key dk hkv
      obtain ⟨n, hn', ev⟩ : ∃ n, sa.y key = some n ∧ v = .int n := by
        rw [L.yv] at hval
        obtain ⟨n, h1, h2⟩ := Option.map_eq_some_iff.mp hval
        exact ⟨n, h1, h2.symm⟩
      subst ev
      rw [kI_kV] at hb
      have hb5 := n5.same _ _ hb
      refine ⟨p, _, rfl, SqT.of n5.at_, rfl, _, _, rfl, _, _, rfl, rfl, ?_⟩
      refine yes_ (iteT ?_)
      refine ⟨_, rfl, _, rfl, by show 1 ≤ sizeLine; decide, fun p6 H6 n6 => ?_⟩
      refine ⟨b, p6, _, _, rfl, rfl, SqT.of (n6.same _ _ hb5), SqT.of n6.at_, (by intro z; have := congrArg List.length z; rw [List.length_map, hk2] at this; cases this), (by intro z; cases z), (by rw [List.length_map, hk2]; show 2 + 1 ≤ sizeLine; decide), fun p7 H7 n7 => ?_⟩
      have s47 : Same H4 H7 := n5.same.trans (n6.same.trans n7.same)
      refine ⟨fun x o e hx => s47 _ _ (b4 x o e hx), s47 _ _ f4, ?_⟩
      rw [takeN _ i _ hki, List.map_append]
      refine Tups.snoc ⟨p7, rfl, ?_⟩ (ty.same s47)
      rw [n7.at_]
      show some (HO.tup (key.map V.int ++ [V.int n])) = some (.tup ((key ++ [(sa.y key).getD 0]).map V.int))
      rw [hn', List.map_append]; rfl
    rintro ys4 H4 p H5 ⟨b4, f4, ty⟩ n5 f5
    rw [yl, List.take_length] at ty
    have sT : Same H3 (upd H5 dY (.dT Y)) := same_thaw (fun x o e hx => n5.same _ _ (b4 x o e hx)) hY
    have tT : Tups (upd H5 dY (.dT Y)) ys4 (ks.map (yRow sa)) := (ty.same n5.same).tupS (TupS.frz f5)
    have hpT : upd H5 dY (.dT Y) p = some (.lst ys4) := by rw [upd_ne (ne_of n5.at_ f5 (by intro z; cases z))]; exact n5.at_
    generalize upd H5 dY (.dT Y) = H6 at sT tT hpT ⊢
    clear b4 f4 ty n5 f5
    refine ⟨p, ys4, ks.map (yRow sa), rfl, SqL.of hpT, tT, by rw [List.length_map]; omega, rows_nodup (yRow_app sa) dk.ne dk.nd, yRow_len, fun Rw zs l7 H7 pR sR tz n7 => ?_⟩
    have eR := sort_y dk L.yv' pR sR
    have lR : Rw.length ≤ 60 := by rw [pR.length_eq, List.length_map]; omega
    subst eR
    have t7 : Tups H7 zs (yRows sa) := Tups.same n7.same (show Tups H6 zs (yRows sa) from tz)
    have h7 := n7.at_
    have s37 := sT.trans n7.same
    have L7 := L.kp (KpL.of s37)
    have hZ7 := s37 _ _ hZ
    have s07 := s3.trans s37
    clear n7 tz pR sR sT tT hpT L hY hZ s37 s3
    refine ⟨_, rfl, dZ, Z, rfl, hZ7, fun ob nf => lc_items (H := H7) (fun i ys H4 => But dZ H7 H4 ∧ H4 dZ = some (.frz ob (.dT Z)) ∧ Tups H4 ys ((js.take i).map (zRow sa))) (Nat.le_of_lt (small1000 (by omega))) nf ⟨but_upd, upd_same, .nil⟩ (fun i ys H4 h4 => ⟨h4.2.1, by rw [h4.2.2.length, List.length_map, List.length_take]; omega⟩) ?_ ?_⟩
    · rintro i k v b p ys H8 H9 hkv hb n9 ⟨b8, f8, ty⟩
      obtain ⟨key, hki, rfl, hk2, hval⟩ := items_key dj hkv
      have hf : f key ≠ [] := fun z => by rw [L7.zn key z] at hval; cases hval
      obtain ⟨la, xa, e1, hla, pla⟩ := L7.zs key hf
      obtain ⟨m0, t0, lo0, hi0, ho, ez⟩ := L7.lh key hf
      rw [hval] at e1
      cases e1
      rw [kI_kV] at hb
      have hb9 := n9.same _ _ hb
      have hne : la ≠ dZ := ne_of hla hZ7 (by intro z; cases z)
      have hla9 := n9.same _ _ (b8 _ _ hla hne)
      have pla9 : Pairs H9 xa (f key) := pla.tupS fun x xs e => n9.same _ _ (b8 _ _ e (ne_of e hZ7 (by intro z; cases z)))
      refine ⟨p, _, rfl, SqT.of n9.at_, rfl, _, _, rfl, _, _, rfl, rfl, ?_⟩
      refine yes_ (iteT ?_)
      refine ⟨_, rfl, _, rfl, ?_⟩
      refine ⟨la, xa, f key, rfl, hla9, pla9, L7.fo key, List.length_pos_iff.mpr hf, Nat.le_trans (fn key) (by omega), fun h6 m t lo hi H10 ho' n10 => ?_⟩
      obtain ⟨rfl, rfl, rfl, rfl⟩ := ho'.uniq ho
      refine ⟨b, h6, _, _, rfl, rfl, SqT.of (n10.same _ _ hb9), SqT.of n10.at_, (by intro z; have := congrArg List.length z; rw [List.length_map, hk2] at this; cases this), (by intro z; cases z), (by rw [List.length_map, hk2]; show 2 + 4 ≤ sizeLine; decide), fun p7 H11 n11 => ?_⟩
      have s8 : Same H8 H11 := n9.same.trans (n10.same.trans n11.same)
      refine ⟨fun x o e hx => s8 _ _ (b8 x o e hx), s8 _ _ f8, ?_⟩
      rw [takeN _ i _ hki, List.map_append]
      refine Tups.snoc ⟨p7, rfl, ?_⟩ (ty.same s8)
      rw [n11.at_]
      show some (HO.tup (key.map V.int ++ v4 (m, t, lo, hi))) = some (.tup ((key ++ i4 ((sa.z key).getD (0, 0, 0, 0))).map V.int))
      rw [ez, List.map_append]; rfl
    rintro ys8 H8 p H9 ⟨b8, f8, ty⟩ n9 f9
    rw [zl, List.take_length] at ty
    have sT : Same H7 (upd H9 dZ (.dT Z)) := same_thaw (fun x o e hx => n9.same _ _ (b8 x o e hx)) hZ7
    have tT : Tups (upd H9 dZ (.dT Z)) ys8 (js.map (zRow sa)) := (ty.same n9.same).tupS (TupS.frz f9)
    have hpT : upd H9 dZ (.dT Z) p = some (.lst ys8) := by rw [upd_ne (ne_of n9.at_ f9 (by intro z; cases z))]; exact n9.at_
    generalize upd H9 dZ (.dT Z) = H10 at sT tT hpT ⊢
    clear b8 f8 ty n9 f9
    refine ⟨p, ys8, js.map (zRow sa), rfl, SqL.of hpT, tT, by rw [List.length_map]; omega, rows_nodup (zRow_app sa) dj.ne dj.nd, zRow_len, fun Rz zz l11 H11 pR sR tz n11 => ?_⟩
    have eR := sort_z dj L7.zv pR sR
    have lZ : Rz.length ≤ 60 := by rw [pR.length_eq, List.length_map]; omega
    subst eR
    have s711 := sT.trans n11.same
    walk_at "r"; intro tt H12 n12
    exact q tt l7 l11 zs zz H12 (s07.trans (s711.trans n12.same)) n12.at_ (n12.same _ _ (s711 _ _ h7)) (t7.same (s711.trans n12.same)) (n12.same _ _ n11.at_) ((show Tups H10 zz (zRows sa) from tz).same (n11.same.trans n12.same)) lR lZ
end
section
variable {P : Program} {w : World} {K : PySem.W.Frag} {mg : Str → Option Value} {base : Heap} {C_Roll C_Rule C_BookError C_NoNumber C_NoRule C_Gone C_NoAsk : Addr}
theorem join1 {C : TT} {F REST : TS} {D : Ends} {σ : St} {H : Hp} (Jn : St → Hp → Prop) (h : ∀ D' : Ends, (∀ σ' H', Jn σ' H' → D'.nx σ' H') → tIfS C F tNext D' σ H) (hR : ∀ σ' H', Jn σ' H' → REST D σ' H') : tSeq (tIfS C F tNext) REST D σ H := h _ hR
theorem condJ {C : TT} {F : TS} {D : Ends} {σ : St} {H : Hp} (c : Bool) (hC : ∀ Q : Bool → Hp → Prop, Q c H → C σ H Q) (h1 : c = true → F D σ H) (h2 : ¬ c = true → D.nx σ H) : tIfS C F tNext D σ H := hC _ (ite2 h1 h2)
theorem kY_nn {t v m : Int} : kY none none [t, v, m] = true := by
  simp only [kY, tWin, endW, fstW, decide_eq_true_eq, List.getD_cons_zero]
  repeat' split
  all_goals omega
theorem kY_ns {t v m y : Int} : kY none (some y) [t, v, m] = decide (t < y) := by
  rw [Bool.eq_iff_iff]; simp only [kY, tWin, endW, fstW, decide_eq_true_eq, List.getD_cons_zero]
  repeat' split
  all_goals omega
theorem kY_sn {t v m x : Int} : kY (some x) none [t, v, m] = decide (t ≥ x) := by
  rw [Bool.eq_iff_iff]; simp only [kY, tWin, endW, fstW, decide_eq_true_eq, List.getD_cons_zero]
  repeat' split
  all_goals omega
theorem kY_ss {t v m x y : Int} : kY (some x) (some y) [t, v, m] = (decide (t ≥ x) && decide (t < y)) := by
  rw [Bool.eq_iff_iff]; simp only [kY, tWin, endW, fstW, decide_eq_true_eq, List.getD_cons_zero, Bool.and_eq_true]
  repeat' split
  all_goals omega
theorem D__law_due (T : Txt K mg C_Roll C_Rule C_BookError C_NoNumber C_NoRule C_Gone C_NoAsk) : DefOk P w K mg base 1 "_law_due" ["_law_rows_here", "_law_a", "_law_b"] sp_due41 := by
  obtain ⟨f, fd, F, hm⟩ := T.f__law_due
  have nd := sc__law_due.nd
  refine F.def_ hm (F.ok sc__law_due (fun vs H Q E h => ?_) (fun cdv A outer s H vs Q E hr h => ?_)) (F.binds fun _ _ _ _ _ _ us hl => by obtain ⟨_, _, _, rfl⟩ := L2.lq3 hl; rfl)
  · obtain ⟨tt, l1, l2, xs, ys, Y, Z, a, b, rfl, _⟩ := h; rfl
  · obtain ⟨tt, l1, l2, xs, ys, Y, Z, a, b, rfl, htt, h1, t1, h2, t2, ysh, zsh, lY, lZ, q⟩ := h
    have hyl := t1.length
    have hzl := t2.length
    refine ⟨_, (pss_cons (ps_asg (pv 0) (pg_tup rfl (pgs_cons (pg_name (i := 3) nd rfl (Or.inl rfl)) (pgs_cons (pg_name (i := 4) nd rfl (Or.inl rfl)) pgs_nil))))
      (pss_cons (ps_set (i := 5) nd rfl (Or.inl rfl) (pe_lstN pa_nil))
      (pss_cons (ps_set (i := 6) nd rfl (Or.inl rfl) (pe_lstN pa_nil))
      (pss_cons (ps_for PassesOwn.never rfl (pi_list (pv 4)) (pg_tup rfl (pgs_cons (pg_name (i := 7) nd rfl (Or.inl rfl)) (pgs_cons (pg_name (i := 8) nd rfl (Or.inl rfl)) (pgs_cons (pg_name (i := 9) nd rfl (Or.inl rfl)) (pgs_cons (pg_name (i := 10) nd rfl (Or.inl rfl)) (pgs_cons (pg_name (i := 11) nd rfl (Or.inl rfl)) (pgs_cons (pg_name (i := 12) nd rfl (Or.inl rfl)) pgs_nil)))))))
        (pss_cons (ps_set (i := 13) nd rfl (Or.inl rfl) (pv 7))
      (pss_cons (ps_if (pt_cmpR op_notN (pv 1) pe_non (nomark _))
        (pss_one (ps_set (i := 13) nd rfl (Or.inl rfl) (pe_callB (call_max2 rfl) rfl T.b_max bt_max (pa_cons (pv 7) (pa_cons (pv 1) pa_nil)))))
        pss_nil)
      (pss_cons (ps_set (i := 14) nd rfl (Or.inl rfl) (pe_op op_add (pv 7) (pv 8)))
      (pss_cons (ps_if (pt_cmpR op_notN (pv 2) pe_non (nomark _))
        (pss_one (ps_set (i := 14) nd rfl (Or.inl rfl) (pe_callB (call_min2 rfl) rfl T.b_min bt_min (pa_cons (pv 14) (pa_cons (pv 2) pa_nil)))))
        pss_nil)
      (pss_one (ps_if (pt_cmpR op_eq (pe_op op_sub (pv 14) (pv 13)) (pv 8) (nomark _))
        (pss_one (ps_expr (pe_bm PySem.F.plainAttrs_list PySem.F.slot_list_append PySem.F.type_list_append mt_appendN (pv 5) (pa_cons (pe_tupN (pa_cons (pv 9) (pa_cons (pv 10) (pa_cons (pv 11) (pa_cons (pv 12) pa_nil))))) pa_nil))))
        (pss_one (ps_if (pt_cmpR op_gt (pv 14) (pv 13) (nomark _))
        (pss_one (ps_expr (pe_bm PySem.F.plainAttrs_list PySem.F.slot_list_append PySem.F.type_list_append mt_appendN (pv 6) (pa_cons (pe_tupN (pa_cons (pv 7) (pa_cons (pv 8) (pa_cons (pe_tupN (pa_cons (pv 9) (pa_cons (pv 10) (pa_cons (pv 11) (pa_cons (pv 12) pa_nil))))) pa_nil)))) pa_nil))))
        pss_nil)))))))))
      (pss_cons (ps_for PassesOwn.never rfl (pi_list (pv 3)) (pg_tup rfl (pgs_cons (pg_name (i := 15) nd rfl (Or.inl rfl)) (pgs_cons (pg_name (i := 16) nd rfl (Or.inl rfl)) (pgs_cons (pg_name (i := 9) nd rfl (Or.inl rfl)) pgs_nil))))
        (pss_one (ps_if (PW.pt (pw_and (PW.pt (pw_or (pt_cmpR op_isN (pv 1) pe_non (nomark _)) (pw_or1 (pt_cmpR op_ge (pv 15) (pv 1) (nomark _))))) (pw_and1 (PW.pt (pw_or (pt_cmpR op_isN (pv 2) pe_non (nomark _)) (pw_or1 (pt_cmpR op_lt (pv 15) (pv 2) (nomark _))))))))
        (pss_one (ps_expr (pe_bm PySem.F.plainAttrs_list PySem.F.slot_list_append PySem.F.type_list_append mt_appendN (pv 5) (pa_cons (pe_tupN (pa_cons (pv 9) (pa_cons (pe_op op_mulB (pv 16) (pv 9)) (pa_cons (pv 16) (pa_cons (pv 16) pa_nil))))) pa_nil))))
        pss_nil)))
      (pss_one (ps_ret (pe_tupN (pa_cons (pv 5) (pa_cons (pv 6) pa_nil)))))))))), ?_⟩
    refine ⟨_, rfl, tt, _, rfl, SqT.of htt, rfl, _, _, rfl, _, _, rfl, rfl, ?_⟩
    walk_at "r"; intro lk H1 n1
    walk_at "r"; intro lp H2 n2
    have s02 := n1.same.trans n2.same
    have flk : H lk = none := n1.fresh
    have flp : H lp = none := n1.same.free n2.fresh
    have nkp : lk ≠ lp := ne_of_none n1.at_ n2.fresh
    have hk2 := n2.same _ _ n1.at_
    have hp2 := n2.at_
    clear n1 n2
    refine ⟨_, rfl, l2, rfl, ⟨_, SqL.of (s02 _ _ h2)⟩, for_list (xs := ys) (fun i σ H3 => Same H H3 ∧ ∃ (xk xp : List V) (v7 v8 v9 v10 v11 v12 v13 v14 : Option V), H3 lk = some (.lst xk) ∧ H3 lp = some (.lst xp) ∧ Tups H3 xk (((Z.take i).filter (kZ a b)).map (List.drop 2)) ∧ Parts H3 xp ((Z.take i).filter (cZ a b)) ∧ σ = [some (.ref tt), some (gv a), some (gv b), some (.ref l1), some (.ref l2), some (.ref lk), some (.ref lp), v7, v8, v9, v10, v11, v12, v13, v14, none, none]) ⟨s02, [], [], none, none, none, none, none, none, none, none, hk2, hp2, .nil, .nil, rfl⟩ (fun i σ H3 _ h3 => SqL.of (h3.1 _ _ h2)) ?_ ?_⟩
    · rintro i x σ H3 hi ⟨s3, xk, xp, v7, v8, v9, v10, v11, v12, v13, v14, hk, hp, tk, tp, rfl⟩
      have hil : i < ys.length := (List.getElem?_eq_some_iff.mp hi).1
      obtain ⟨r, hri, p, rfl, hp0⟩ := t2.get hi
      obtain ⟨st, w, m, t, lo, hi', rfl, hw⟩ := zsh r (List.mem_of_getElem? hri)
      have hp3 : H3 p = some (.tup [.int st, .int w, .int m, .int t, .int lo, .int hi']) := s3 _ _ hp0
      have lk6 := tk.length
      rw [List.length_map] at lk6
      have lp6 := tp.length
      have lfk := fl_len Z (kZ a b) i
      have lfp := fl_len Z (cZ a b) i
      refine ⟨p, _, rfl, SqT.of hp3, rfl, _, _, rfl, _, _, rfl, _, _, rfl, _, _, rfl, _, _, rfl, _, _, rfl, rfl, ?_⟩
      refine ⟨_, rfl, ?_⟩
      refine gname_ ?_
      dsimp only
      refine join1 (fun σ' H' => H' = H3 ∧ σ' = [some (.ref tt), some (gv a), some (gv b), some (.ref l1), some (.ref l2), some (.ref lk), some (.ref lp), some (.int st), some (.int w), some (.int m), some (.int t), some (.int lo), some (.int hi'), some (.int (fstW a st)), v14, none, none]) (fun D' hD => ?_) ?_
      · cases a with
        | none => walk_at "r"; exact hD _ _ ⟨rfl, rfl⟩
        | some x =>
          have e : (if x > st then x else st) = fstW (some x) st := by
            show (if x > st then x else st) = (if st > x then st else x)
            split <;> split <;> omega
          walk_at "r"
          rw [e]
          exact hD _ _ ⟨rfl, rfl⟩
      rintro σ' H' ⟨rfl, rfl⟩
      refine ⟨_, rfl, _, rfl, _, _, rfl, rfl, ?_⟩
      refine gname_ ?_
      dsimp only
      refine join1 (fun σ' H2 => H2 = H' ∧ σ' = [some (.ref tt), some (gv a), some (gv b), some (.ref l1), some (.ref l2), some (.ref lk), some (.ref lp), some (.int st), some (.int w), some (.int m), some (.int t), some (.int lo), some (.int hi'), some (.int (fstW a st)), some (.int (endW b (st + w))), none, none]) (fun D' hD => ?_) ?_
      · cases b with
        | none => walk_at "r"; exact hD _ _ ⟨rfl, rfl⟩
        | some y =>
          have e : (if y < st + w then y else st + w) = endW (some y) (st + w) := by
            show (if y < st + w then y else st + w) = (if st + w < y then st + w else y)
            split <;> split <;> omega
          walk_at "r"
          rw [e]
          exact hD _ _ ⟨rfl, rfl⟩
      rintro σ' H2 ⟨rfl, rfl⟩
      have wa := win_all (a := a) (b := b) (st := st) hw
      have wc := win_cut (a := a) (b := b) (st := st) hw
      have ek : kZ a b [st, w, m, t, lo, hi'] = decide (tWin a b st w = w) := rfl
      have ec : cZ a b [st, w, m, t, lo, hi'] = (decide (0 < tWin a b st w) && decide (tWin a b st w < w)) := rfl
      generalize tWin a b st w = n at wa wc ek ec
      generalize fstW a st = fs at wa wc ⊢
      generalize endW b (st + w) = en at wa wc ⊢
      walk_at "r"
      refine ite2 (fun z => ?_) fun z => ?_
      · have z2 : en - fs = w := by simpa using z
        have z3 : n = w := wa.mpr z2
        walk_at "r"; intro p7 H7 n7
        have hk7 := n7.same _ _ hk
        refine ⟨lk, _, _, rfl, rfl, hk7, small1000 (by omega), fun H8 b8 hk8 => ?_⟩
        have ts : TupS H7 H8 := fun x xs e => b8 _ _ e (ne_of e hk7 (by intro z; cases z))
        refine ⟨b8.same (s3.trans n7.same) flk, _, xp, _, _, _, _, _, _, _, _, hk8, b8 _ _ (n7.same _ _ hp) nkp.symm, ?_, ?_, rfl⟩
        · rw [fl_t hri (by rw [ek]; simpa using z3), List.map_append]
          exact Tups.snoc ⟨p7, rfl, ts _ _ (show H7 p7 = some (.tup ((List.drop 2 [st, w, m, t, lo, hi']).map V.int)) from n7.at_)⟩ ((tk.same n7.same).tupS ts)
        · rw [fl_f hri (by rw [ec]; simp; omega)]
          exact (tp.same n7.same).tupS ts
      · have z2 : ¬ en - fs = w := by simpa using z
        have z3 : ¬ n = w := fun y => z2 (wa.mp y)
        have z4 := wc z2
        walk_at "r"
        refine ite2 (fun y => ?_) fun y => ?_
        · have y2 : fs < en := by simpa using y
          obtain ⟨y3, y4⟩ := z4.mpr y2
          walk_at "r"; intro p7 H7 n7
          walk_at "r"; intro p8 H8 n8
          have s38 := n7.same.trans n8.same
          have hp8 := s38 _ _ hp
          refine ⟨lp, _, _, rfl, rfl, hp8, small1000 (by omega), fun H9 b9 hp9 => ?_⟩
          have ts : TupS H8 H9 := fun x xs e => b9 _ _ e (ne_of e hp8 (by intro z; cases z))
          refine ⟨b9.same (s3.trans s38) flp, xk, _, _, _, _, _, _, _, _, _, b9 _ _ (s38 _ _ hk) nkp, hp9, ?_, ?_, rfl⟩
          · rw [fl_f hri (by rw [ek]; simpa using z3)]
            exact (tk.same s38).tupS ts
          · rw [fl_t hri (by rw [ec]; simp; omega)]
            exact Parts.snoc (r := [st, w, m, t, lo, hi']) ⟨p8, p7, rfl, ts _ _ n8.at_, ts _ _ (n8.same _ _ n7.at_)⟩ ((tp.same s38).tupS ts)
        · have y2 : ¬ fs < en := by simpa using y
          refine ⟨s3, xk, xp, _, _, _, _, _, _, _, _, hk, hp, ?_, ?_, rfl⟩
          · rw [fl_f hri (by rw [ek]; simpa using z3)]; exact tk
          · rw [fl_f hri (by rw [ec]; simp; omega)]; exact tp
    rintro σ H3 ⟨s3, xk, xp, v7, v8, v9, v10, v11, v12, v13, v14, hk, hp, tk, tp, rfl⟩
    rw [hzl, List.take_length] at tk tp
    have lk6 := tk.length
    rw [List.length_map] at lk6
    have lfk := List.length_filter_le (kZ a b) Z
    refine ⟨_, rfl, l1, rfl, ⟨_, SqL.of (s3 _ _ h1)⟩, for_list (xs := xs) (fun i σ H4 => Same H H4 ∧ ∃ (xk : List V) (v9 v15 v16 : Option V), H4 lk = some (.lst xk) ∧ H4 lp = some (.lst xp) ∧ Tups H4 xk ((Z.filter (kZ a b)).map (List.drop 2) ++ ((Y.take i).filter (kY a b)).map yH) ∧ Parts H4 xp (Z.filter (cZ a b)) ∧ σ = [some (.ref tt), some (gv a), some (gv b), some (.ref l1), some (.ref l2), some (.ref lk), some (.ref lp), v7, v8, v9, v10, v11, v12, v13, v14, v15, v16]) ⟨s3, xk, _, none, none, hk, hp, by simpa using tk, tp, rfl⟩ (fun i σ H4 _ h4 => SqL.of (h4.1 _ _ h1)) ?_ ?_⟩
    · clear hk hp tk tp lk6 s3
      rintro i x σ H4 hi ⟨s4, xk, v9, v15, v16, hk, hp, tk, tp, rfl⟩
      have hil : i < xs.length := (List.getElem?_eq_some_iff.mp hi).1
      obtain ⟨r, hri, p, rfl, hp0⟩ := t1.get hi
      obtain ⟨t, v, m, rfl, rb⟩ := ysh r (List.mem_of_getElem? hri)
      have hp4 : H4 p = some (.tup [.int t, .int v, .int m]) := s4 _ _ hp0
      have lk6 := tk.length
      have lfl := fl_len Y (kY a b) i
      rw [List.length_append, List.length_map, List.length_map] at lk6
      have cm : CMulB v m := by unfold RunB at rb; unfold CMulB; dsimp only at rb; omega
      refine ⟨p, _, rfl, SqT.of hp4, rfl, _, _, rfl, _, _, rfl, _, _, rfl, rfl, ?_⟩
      refine condJ (kY a b [t, v, m]) (fun Q hQ => ?_) (fun z => ?_) fun z => ?_
      · cases a with
        | none =>
          cases b with
          | none => rw [kY_nn] at hQ; walk_at "r"; exact hQ
          | some y => rw [kY_ns] at hQ; walk_at "r"; exact hQ
        | some x =>
          cases b with
          | none =>
            rw [kY_sn] at hQ; walk_at "r"
            refine ite2 (fun y => ?_) fun y => ?_
            · rw [y] at hQ; walk_at "r"; exact hQ
            · rw [Bool.not_eq_true] at y; rw [y] at hQ; exact hQ
          | some y =>
            rw [kY_ss] at hQ; walk_at "r"
            refine ite2 (fun y => ?_) fun y => ?_
            · rw [y, Bool.true_and] at hQ; walk_at "r"; exact hQ
            · rw [Bool.not_eq_true] at y; rw [y, Bool.false_and] at hQ; exact hQ
      · walk_at "r"; intro p7 H7 n7
        have hk7 := n7.same _ _ hk
        refine ⟨lk, _, _, rfl, rfl, hk7, small1000 (by omega), fun H8 b8 hk8 => ?_⟩
        have ts : TupS H7 H8 := fun x xs e => b8 _ _ e (ne_of e hk7 (by intro z; cases z))
        refine ⟨b8.same (s4.trans n7.same) flk, _, _, _, _, hk8, b8 _ _ (n7.same _ _ hp) nkp.symm, ?_, (tp.same n7.same).tupS ts, rfl⟩
        rw [fl_t hri z, List.map_append, ← List.append_assoc]
        exact Tups.snoc ⟨p7, rfl, ts _ _ (show H7 p7 = some (.tup ((yH [t, v, m]).map V.int)) from n7.at_)⟩ ((tk.same n7.same).tupS ts)
      · refine ⟨s4, xk, _, _, _, hk, hp, ?_, tp, rfl⟩
        rw [fl_f hri z]; exact tk
    clear hk hp tk tp lk6 s3
    rintro σ H4 ⟨s4, xk, v9, v15, v16, hk, hp, tk, tp, rfl⟩
    rw [hyl, List.take_length] at tk
    walk_at "r"; intro t9 H9 n9
    exact q t9 lk lp xk xp H9 (s4.trans n9.same) n9.at_ (n9.same _ _ hk) (tk.same n9.same) (n9.same _ _ hp) (tp.same n9.same)
theorem lk1 (f : Str) (v : V) : [(f, v)].lookup f = some v := by rw [List.lookup_cons]; simp
def sp_gone41 (C R : Addr) : Sp := fun vs H Q _ => ∃ (ro : Addr) (c : RollD) (s : Abs) (LY LZ : List (List Int)) (n : Nat) (a b : Option Int), vs = [.ref ro, gv a, gv b] ∧ RR C R H ro c s LY LZ ∧ LY.length < 64 ∧ LZ.length < 64 ∧ AOk n s ∧ n ≤ 1000 ∧ BadB c.ge a ∧ ∀ H', Same H H' → Q (gv c.ge) H'
theorem D__law_gone (T : Txt K mg C_Roll C_Rule C_BookError C_NoNumber C_NoRule C_Gone C_NoAsk) : DefOk P w K mg base 5 "_law_gone" ["_law_roll", "_law_a", "_law_b"] (sp_gone41 C_Roll C_Rule) := by
  obtain ⟨f, fd, F, hm⟩ := T.f__law_gone
  have nd := sc__law_gone.nd
  refine F.def_ hm (F.ok sc__law_gone (fun vs H Q E h => ?_) (fun cdv A outer s H vs Q E hr h => ?_)) (F.binds fun _ _ _ _ _ _ us hl => by obtain ⟨_, _, _, rfl⟩ := L2.lq3 hl; rfl)
  · obtain ⟨ro, c, s', LY, LZ, n, a, b, rfl, _⟩ := h; rfl
  · obtain ⟨ro, c, s', LY, LZ, n, a, b, rfl, R0, ly, lz, ao, hn, bd, q⟩ := h
    obtain ⟨fB, fdB, FB, hE⟩ := T.f_Gone_init
    refine ⟨_, (pss_cons (ps_set (i := 3) nd rfl (Or.inl rfl) pe_non)
      (pss_cons (ps_try (j := 4) ⟨rfl, rfl, rfl⟩ nd rfl rfl rfl rfl T.mg_Gone T.kx_Gone.kt (fun _ _ => (pss_one (ps_expr (pe_fnX (wants_wish ⟨rfl, rfl, rfl⟩) (D_pieces T) (hr.mono (by decide)) rfl .nil (pa_cons (pv 0) (pa_cons (pv 1) (pa_cons (pv 2) pa_nil)))))))
        (fun _ _ => (pss_one (ps_set (i := 3) nd rfl (Or.inl rfl) (pv 4)))))
      (pss_cons (ps_if (PW.pt (pw_or (pt_not (pt_val (pe_callB (call_isiX (K := K) rfl) rfl T.b_isinstance bt_isinstance (pa_cons (pv 3) (pa_cons (pe_glob (v := .ref C_BookError) rfl T.mg_BookError rfl) pa_nil))))) (pw_or1 (pt_val (pe_callB (call_isiX (K := K) rfl) rfl T.b_isinstance bt_isinstance (pa_cons (pv 3) (pa_cons (pe_glob (v := .ref C_NoAsk) rfl T.mg_NoAsk rfl) pa_nil)))))))
        (pss_one (ps_ret pe_non))
        pss_nil)
      (pss_one (ps_ret (pe_fldX (K := K) rfl (pv 3) rfl)))))), ?_⟩
    walk_at "r"
    refine ⟨ro, c, s', LY, LZ, n, a, b, rfl, R0, ly, lz, ao, hn, fun _ dx H1 n1 => ⟨⟨C_Gone, rfl, T.kx_Gone.kt, T.hit_Gone_Gone⟩, fun ex H2 n2 => ?_⟩, fun nb => absurd bd nb⟩
    have hdx := n2.same _ _ n1.at_
    refine ⟨_, rfl, ?_⟩
    refine ⟨_, rfl, ex, C_Gone, some dx, .ref C_BookError, true, rfl, n2.at_, T.kx_Gone, (fun _ z => by cases z; exact ⟨_, hdx⟩), T.is_Gone_BookError, _, rfl, iteF ?_⟩
    refine ⟨_, rfl, ex, C_Gone, some dx, .ref C_NoAsk, false, rfl, n2.at_, T.kx_Gone, (fun _ z => by cases z; exact ⟨_, hdx⟩), T.is_Gone_NoAsk, _, rfl, iteF ?_⟩
    refine ⟨_, rfl, ex, C_Gone, dx, _, _, rfl, n2.at_, hdx, T.kx_Gone, hE.hd, hE.na, lk1 _ _, ?_⟩
    exact q H2 (n1.same.trans n2.same)
def sp_end41 : Sp := fun vs H Q _ => ∃ (t l : Addr) (xs : List V) (ps : List (Int × Int)) (g : Option Int) (d : Int) (lr : Addr) (ys : List V) (rs : List Rd3) (c : Int), vs = [.ref t, .int d, .ref lr, .int c] ∧ H t = some (.tup [.ref l, gv g]) ∧ H l = some (.lst xs) ∧ Pairs H xs ps ∧ Dr41 ps g ∧ Bd d ∧ H lr = some (.lst ys) ∧ Tups H ys (rs.map l3) ∧ rs.length ≤ 60 ∧ ∀ (o : Option Int) H', Same H H' → Q (gv o) H'
theorem at_mod {xs : List V} (h : 0 < xs.length) (x : Int) : ∃ (k : Nat) (y : V), xs[k]? = some y ∧ atI xs (x % (xs.length : Int)) = some y := by
  have h0 := Int.emod_nonneg x (show (xs.length : Int) ≠ 0 by omega)
  have h1 := Int.emod_lt_of_pos x (show (0 : Int) < xs.length by omega)
  have hk : (x % (xs.length : Int)).toNat < xs.length := by omega
  refine ⟨(x % (xs.length : Int)).toNat, _, List.getElem?_eq_getElem hk, ?_⟩
  have := atI_nat (xs := xs) (j := (x % (xs.length : Int)).toNat) (List.getElem?_eq_getElem hk)
  rwa [Int.toNat_of_nonneg h0] at this
theorem D__law_end (T : Txt K mg C_Roll C_Rule C_BookError C_NoNumber C_NoRule C_Gone C_NoAsk) : DefOk P w K mg base 3 "_law_end" ["_law_rule_here", "_law_day", "_law_readings", "_law_cell_here"] sp_end41 := by
  obtain ⟨f, fd, F, hm⟩ := T.f__law_end
  have nd := sc__law_end.nd
  refine F.def_ hm (F.ok sc__law_end (fun vs H Q E h => ?_) (fun cdv A outer s H vs Q E hr h => ?_)) (F.binds fun _ _ _ _ _ _ us hl => by obtain ⟨_, _, _, _, rfl⟩ := L2.lq4 hl; rfl)
  · obtain ⟨t, l, xs, ps, g, d, lr, ys, rs, c, rfl, _⟩ := h; rfl
  · obtain ⟨t, l, xs, ps, g, d, lr, ys, rs, c, rfl, ht, hl, hx, D, hd, hlr, hy, hn, q⟩ := h
    have hyl : ys.length = rs.length := by rw [hy.length, List.length_map]
    refine ⟨_, (pss_cons (ps_set (i := 4) nd rfl (Or.inl rfl) (pe_ix ix_list (pe_fn (D__law_stream T) (hr.mono (by decide)) rfl (pa_cons (pv 3) (pa_cons pe_int pa_nil))) pe_int (fun _ _ => rfl)))
      (pss_cons (ps_if (pt_cmpR op_eq (pe_op op_mod (pv 4) pe_int) pe_int (nomark _))
        (pss_one (ps_ret pe_non))
        pss_nil)
      (pss_cons (ps_if (PW.pt (pw_and (pt_cmpR op_lt (pe_op op_mod (pv 4) pe_int) pe_int (nomark _)) (pw_and1 (pt_cmpR (op_neD hr.units) (pv 2) (pe_lstN pa_nil) (nomark _)))))
        (pss_one (ps_ret (pe_op op_add (pe_ix ix_tup (pe_ix ix_list (pv 2) (pe_op op_mod (pe_op op_fdiv (pv 4) pe_int) (pe_callB call_len_seq rfl T.b_len bt_len (pa_cons (pv 2) pa_nil))) (fun _ _ => rfl)) pe_int (fun _ _ => rfl)) (pe_op op_mod (pe_op op_fdiv (pv 4) pe_int) pe_int))))
        pss_nil)
      (pss_one (ps_ret (pe_fn (D__law_time T) (hr.mono (by decide)) rfl (pa_cons (pv 0) (pa_cons (pv 1) (pa_cons (pe_op op_fdiv (pv 4) pe_int) pa_nil))))))))), ?_⟩
    walk_at "r"; intro ls zs H1 n1 hz hb
    have hz : zs.length = 2 := hz
    obtain ⟨x, hx1⟩ : ∃ x, zs[1]? = some x := ⟨_, List.getElem?_eq_getElem (by omega)⟩
    have at1 : atI (zs.map V.int) 1 = some (.int x) := atI_nat (j := 1) (by rw [List.getElem?_map, hx1]; rfl)
    have hls := n1.at_
    have s01 := n1.same
    clear n1 hz hb hx1
    refine ⟨ls, _, _, _, rfl, rfl, SqL.of hls, at1, ?_⟩
    walk_at "r"
    refine ite2 (fun z => ?_) fun z => ?_
    · exact q none H1 s01
    have hlr1 := s01 _ _ hlr
    have hy1 := hy.same s01
    walk_at "r"
    refine ite2 (fun z2 => ?_) fun z2 => ?_
    · walk_at "r"; intro p2 H2 n2
      have hlr2 := n2.same _ _ hlr1
      have hy2 := hy1.same n2.same
      refine ⟨dTups (rs.map l3), dTups [], hy2.rep hlr2, Tups.rep n2.at_ .nil, lay_tups _, lay_tups _, dep_tups _, _, rfl, ?_⟩
      cases rs with
      | nil =>
        refine iteF ?_
        walk_at "r"
        refine ⟨t, l, xs, ps, g, d, x / 9, rfl, n2.same _ _ (s01 _ _ ht), n2.same _ _ (s01 _ _ hl), hx.same (s01.trans n2.same), D, hd, fun tm H3 _ s3 => ?_⟩
        exact q (some tm) H3 (s01.trans (n2.same.trans s3))
      | cons r0 rt =>
        refine iteT ?_
        have hpos : 0 < ys.length := by rw [hyl]; simp
        obtain ⟨k, y, hk, hat⟩ := at_mod hpos (x / 9)
        obtain ⟨r3, hri, p, rfl, hp⟩ := hy2.get hk
        rw [List.getElem?_map] at hri
        obtain ⟨r, hr', rfl⟩ := Option.map_eq_some_iff.mp hri
        have hp2 : H2 p = some (.tup [.int r.1, .int r.2.1, .int r.2.2]) := hp
        walk_at "r"
        exact q (some _) H2 (s01.trans n2.same)
    · walk_at "r"
      refine ⟨t, l, xs, ps, g, d, x / 9, rfl, s01 _ _ ht, s01 _ _ hl, hx.same s01, D, hd, fun tm H3 _ s3 => ?_⟩
      exact q (some tm) H3 (s01.trans s3)
end
section
variable {P : Program} {w : World} {K : PySem.W.Frag} {mg : Str → Option Value} {base : Heap} {C_Roll C_Rule C_BookError C_NoNumber C_NoRule C_Gone C_NoAsk : Addr}
theorem cut_some {xs : List Int} (h : xs.length = 12) {n : Int} (h0 : 0 ≤ n) (h5 : n < 5) : ∃ ms : List Int, cutV (xs.map V.int) (some 4) (some (5 + n)) = ms.map V.int ∧ 1 ≤ ms.length ∧ ms.length ≤ 5 := by
  unfold cutV
  rw [show (some (4 : Int)) = some ((4 : Nat) : Int) from rfl, show (some (5 + n)) = some (((5 + n.toNat : Nat)) : Int) by congr 1; omega, HT.sIx_nat, HT.sIx_nat]
  simp only [← List.map_take, ← List.map_drop]
  exact ⟨_, rfl, by simp only [List.length_take, List.length_drop, List.length_map]; omega, by simp only [List.length_take, List.length_drop, List.length_map]; omega⟩
theorem D__law_rule (T : Txt K mg C_Roll C_Rule C_BookError C_NoNumber C_NoRule C_Gone C_NoAsk) : DefOk P w K mg base 2 "_law_rule" ["_law_cell_here"] sp_rule41 := by
  obtain ⟨f, fd, F, hm⟩ := T.f__law_rule
  have nd := sc__law_rule.nd
  refine F.def_ hm (F.ok sc__law_rule (fun vs H Q E h => ?_) (fun cdv A outer s H vs Q E hr h => ?_)) (F.binds fun _ _ _ _ _ _ us hl => by obtain ⟨_, rfl⟩ := L2.lq1 hl; rfl)
  · obtain ⟨c, rfl, _⟩ := h; rfl
  · obtain ⟨c, rfl, q⟩ := h
    refine ⟨_, (pss_cons (ps_set (i := 1) nd rfl (Or.inl rfl) (pe_fn (D__law_stream T) (hr.mono (by decide)) rfl (pa_cons (pv 0) (pa_cons pe_int pa_nil))))
      (pss_cons (ps_set (i := 2) nd rfl (Or.inl rfl) (pe_ix ix_list (pe_lstN (pa_cons pe_int (pa_cons pe_int (pa_cons pe_int (pa_cons (pe_op op_pow pe_int pe_int) pa_nil))))) (pe_op op_mod (pe_ix ix_list (pv 1) pe_int (fun _ _ => rfl)) pe_int) (fun _ _ => rfl)))
      (pss_cons (ps_set (i := 3) nd rfl (Or.inl rfl) (pe_op op_mul (pe_op op_mod (pe_ix ix_list (pv 1) pe_int (fun _ _ => rfl)) pe_int) (pv 2)))
      (pss_cons (ps_set (i := 4) nd rfl (Or.inl rfl) (pe_ix ix_list (pe_lstN (pa_cons pe_int (pa_cons (pe_op op_mul (pv 2) (pe_op op_add pe_int (pe_op op_mod (pe_ix ix_list (pv 1) pe_int (fun _ _ => rfl)) pe_int))) pa_nil))) (pe_op op_fdiv (pe_op op_mod (pe_op op_fdiv (pe_ix ix_list (pv 1) pe_int (fun _ _ => rfl)) pe_int) pe_int) pe_int) (fun _ _ => rfl)))
      (pss_cons (ps_set (i := 5) nd rfl (Or.inl rfl) (pe_lstN pa_nil))
      (pss_cons (ps_for PassesOwn.never rfl (pi_list (pe_slice sl_listN (pv 1) (po_some pe_int) (po_some (pe_op op_add pe_int (pe_op op_mod (pe_ix ix_list (pv 1) pe_int (fun _ _ => rfl)) pe_int))))) (pg_name (i := 6) nd rfl (Or.inl rfl))
        (pss_cons (ps_expr (pe_bm PySem.F.plainAttrs_list PySem.F.slot_list_append PySem.F.type_list_append mt_appendN (pv 5) (pa_cons (pe_tupN (pa_cons (pv 3) (pa_cons (pv 4) pa_nil))) pa_nil)))
      (pss_cons (ps_set (i := 3) nd rfl (Or.inl rfl) (pe_op op_add (pv 3) (pe_ix ix_list (pe_lstN (pa_cons pe_int (pa_cons (pe_op op_mul (pe_op op_mod (pe_op op_fdiv (pv 6) pe_int) pe_int) (pv 2)) (pa_cons (pe_op op_mul (pe_op op_mod (pe_op op_fdiv (pv 6) pe_int) pe_int) (pv 2)) (pa_cons (pe_op op_add pe_int (pe_op op_mod (pe_op op_fdiv (pv 6) pe_int) pe_int)) pa_nil))))) (pe_op op_mod (pv 6) pe_int) (fun _ _ => rfl))))
      (pss_one (ps_set (i := 4) nd rfl (Or.inl rfl) (pe_op op_mul (pv 4) (pe_ix ix_list (pe_lstN (pa_cons pe_int (pa_cons pe_int (pa_cons pe_int (pa_cons pe_int pa_nil))))) (pe_op op_mod (pe_op op_fdiv (pv 6) pe_int) pe_int) (fun _ _ => rfl))))))))
      (pss_cons (ps_if (pt_cmpR op_eq (pe_op op_mod (pe_ix ix_list (pv 1) pe_int (fun _ _ => rfl)) pe_int) pe_int (nomark _))
        (pss_one (ps_ret (pe_tupN (pa_cons (pv 5) (pa_cons pe_non pa_nil)))))
        pss_nil)
      (pss_one (ps_ret (pe_tupN (pa_cons (pv 5) (pa_cons (pe_op op_add (pe_ix ix_tup (pe_ix ix_list (pv 5) (pe_un un_neg pe_int) (fun _ _ => rfl)) pe_int (fun _ _ => rfl)) (pe_ix ix_list (pe_lstN (pa_cons pe_int (pa_cons (pe_op op_mul (pe_op op_mod (pe_ix ix_list (pv 1) pe_int (fun _ _ => rfl)) pe_int) (pv 2)) (pa_cons pe_int pa_nil)))) (pe_op op_mod (pe_op op_fdiv (pe_ix ix_list (pv 1) pe_int (fun _ _ => rfl)) pe_int) pe_int) (fun _ _ => rfl))) pa_nil)))))))))))), ?_⟩
    walk_at "r"
    intro l xs H1 n1 hx hb
    have hx : xs.length = 12 := hx
    have g : ∀ k : Nat, k < 12 → ∃ x, atI (xs.map V.int) (k : Int) = some (.int x) ∧ 0 ≤ x := fun k hk => by
      have e : xs[k]? = some (xs[k]'(by omega)) := List.getElem?_eq_getElem (by omega)
      exact ⟨_, atI_nat (by rw [List.getElem?_map, e]; rfl), (hb _ (List.mem_of_getElem? e)).1⟩
    obtain ⟨x0, at0, _⟩ := g 0 (by omega)
    obtain ⟨x1, at1, _⟩ := g 1 (by omega)
    obtain ⟨x2, at2, _⟩ := g 2 (by omega)
    obtain ⟨x3, at3, _⟩ := g 3 (by omega)
    obtain ⟨x9, at9, _⟩ := g 9 (by omega)
    obtain ⟨x10, at10, _⟩ := g 10 (by omega)
    have hl := n1.at_
    have at0' : atI (xs.map V.int) 0 = some (.int x0) := at0
    have at1' : atI (xs.map V.int) 1 = some (.int x1) := at1
    have at2' : atI (xs.map V.int) 2 = some (.int x2) := at2
    have at3' : atI (xs.map V.int) 3 = some (.int x3) := at3
    have at9' : atI (xs.map V.int) 9 = some (.int x9) := at9
    have at10' : atI (xs.map V.int) 10 = some (.int x10) := at10
    walk_at "r"; intro p2 H2 n2
    obtain ⟨sc, hsc, sc1, sc2⟩ : ∃ sc, atI [V.int 1, V.int 1, V.int 60, V.int (10 ^ 12)] (x0 % 4) = some (V.int sc) ∧ 1 ≤ sc ∧ sc ≤ 10 ^ 12 := by
      have hk : x0 % 4 = 0 ∨ x0 % 4 = 1 ∨ x0 % 4 = 2 ∨ x0 % 4 = 3 := by omega
      rcases hk with e | e | e | e <;> rw [e]
      · exact ⟨_, rfl, by omega, by omega⟩
      · exact ⟨_, rfl, by omega, by omega⟩
      · exact ⟨_, rfl, by omega, by omega⟩
      · exact ⟨_, rfl, by omega, by omega⟩
    have hl2 := n2.same _ _ hl
    have h2 := n2.at_
    have mB : ∀ {x n : Int}, 0 ≤ x → x ≤ n → n ≤ 1000 → 0 ≤ x * sc ∧ x * sc ≤ n * 10 ^ 12 := fun {x n} h0 h1 hn => ⟨Int.mul_nonneg h0 (by omega), Int.le_trans (Int.mul_le_mul_of_nonneg_right h1 (by omega)) (Int.mul_le_mul_of_nonneg_left sc2 (by omega))⟩
    have m6 := mB (x := x1 % 6) (n := 5) (by omega) (by omega) (by omega)
    have m3 := mB (x := 1 + x2 % 3) (n := 3) (by omega) (by omega) (by omega)
    rw [Int.mul_comm] at m3
    walk_at "r"; intro p3 H3 n3
    obtain ⟨w, hw, w1, w2⟩ : ∃ w, atI [V.int 1, V.int (sc * (1 + x2 % 3))] (x2 / 3 % 3 / 2) = some (V.int w) ∧ 1 ≤ w ∧ w ≤ 3 * 10 ^ 12 := by
      have hk : x2 / 3 % 3 / 2 = 0 ∨ x2 / 3 % 3 / 2 = 1 := by omega
      have h1 : sc ≤ sc * (1 + x2 % 3) := by have := Int.mul_le_mul_of_nonneg_left (show 1 ≤ 1 + x2 % 3 by omega) (show 0 ≤ sc by omega); rwa [Int.mul_one] at this
      rcases hk with e | e <;> rw [e]
      · exact ⟨_, rfl, by omega, by omega⟩
      · exact ⟨_, rfl, by omega, by omega⟩
    have hl3 := n3.same _ _ hl2
    walk_at "r"; intro ls H4 n4
    have s14 := n2.same.trans (n3.same.trans n4.same)
    have hl4 := s14 _ _ hl
    obtain ⟨ms, ec, ms1, ms5⟩ := cut_some hx (n := x3 % 5) (by omega) (by omega)
    have fls : H ls = none := (n1.same.trans (n2.same.trans n3.same)).free n4.fresh
    have nl : l ≠ ls := ne_of_none hl3 n4.fresh
    walk_at "r"; intro lz H5 n5
    have nlz : lz ≠ ls := (ne_of_none n4.at_ n5.fresh).symm
    rw [ec] at n5
    have s15 := s14.trans n5.same
    refine ⟨lz, rfl, ⟨_, SqL.of n5.at_⟩, for_list (xs := ms.map V.int) (fun i σ H' => Same H H' ∧ H' lz = some (.lst (ms.map V.int)) ∧ H' l = some (.lst (xs.map V.int)) ∧ ∃ (age w : Int) (ys : List V) (ps : List (Int × Int)) (v6 : Option V), H' ls = some (.lst ys) ∧ Pairs H' ys ps ∧ St41 i age w ps ∧ σ = [some (.int c), some (.ref l), some (.int sc), some (.int age), some (.int w), some (.ref ls), v6]) ⟨n1.same.trans s15, n5.at_, s15 _ _ hl, _, w, [], [], none, n5.same _ _ n4.at_, .nil, St41.zero m6.1 m6.2 w1 w2, rfl⟩ (fun i σ H' _ h => SqL.of h.2.1) ?_ ?_⟩
    · rintro i v σ H' hvi ⟨s', hz, hl', age, w, ys, ps, v6, hls, hp, St, rfl⟩
      rw [List.getElem?_map] at hvi
      obtain ⟨x, hxi, rfl⟩ := Option.map_eq_some_iff.mp hvi
      have hi5 : i < 5 := by have := (List.getElem?_eq_some_iff.mp hxi).1; omega
      have hlen := hp.length
      have hSl := St.len
      have hw0 := St.w0
      have hwb : w ≤ 10 ^ 16 := by
        have w1 := St.w1
        have hc : i = 0 ∨ i = 1 ∨ i = 2 ∨ i = 3 ∨ i = 4 := by omega
        rcases hc with rfl | rfl | rfl | rfl | rfl <;> omega
      have mA := mB (x := x / 8 % 7) (n := 6) (by omega) (by omega) (by omega)
      have mC := mB (x := x / 8 % 40) (n := 39) (by omega) (by omega) (by omega)
      walk_at "r"; intro t1 G1 k1
      have hls1 := k1.same _ _ hls
      walk_at "r"; intro G2 b2 h2'
      have sG : Same H G2 := b2.same (s'.trans k1.same) fls
      have hzG := b2 _ _ (k1.same _ _ hz) nlz
      have hlG := b2 _ _ (k1.same _ _ hl') nl
      have hpG := Pairs.but (Pairs.snoc (show PairAt G1 (.ref t1) (age, w) from ⟨t1, rfl, k1.at_⟩) (hp.same k1.same)) b2 hls1 lst_nt
      clear b2 hls1 k1 hls hp hz hl' s'
      walk_at "r"; intro p3 G3 k3
      obtain ⟨dd, hdd, d0, d1⟩ : ∃ dd, atI [V.int 0, V.int (x / 8 % 7 * sc), V.int (x / 8 % 40 * sc), V.int (1 + x / 8 % 9)] (x % 4) = some (V.int dd) ∧ 0 ≤ dd ∧ dd ≤ 40 * 10 ^ 12 := by
        have hk : x % 4 = 0 ∨ x % 4 = 1 ∨ x % 4 = 2 ∨ x % 4 = 3 := by omega
        rcases hk with e | e | e | e <;> rw [e]
        · exact ⟨_, rfl, by omega, by omega⟩
        · exact ⟨_, rfl, by omega, by omega⟩
        · exact ⟨_, rfl, by omega, by omega⟩
        · exact ⟨_, rfl, by omega, by omega⟩
      walk_at "r"; intro p4 G4 k4
      obtain ⟨m, hm, mm1, mm5⟩ : ∃ m, atI [V.int 1, V.int 2, V.int 3, V.int 5] (x / 1000 % 4) = some (V.int m) ∧ 1 ≤ m ∧ m ≤ 5 := by
        have hk : x / 1000 % 4 = 0 ∨ x / 1000 % 4 = 1 ∨ x / 1000 % 4 = 2 ∨ x / 1000 % 4 = 3 := by omega
        rcases hk with e | e | e | e <;> rw [e]
        · exact ⟨_, rfl, by omega, by omega⟩
        · exact ⟨_, rfl, by omega, by omega⟩
        · exact ⟨_, rfl, by omega, by omega⟩
        · exact ⟨_, rfl, by omega, by omega⟩
      walk_at "r"
      have s24 := k3.same.trans k4.same
      exact ⟨sG.trans s24, s24 _ _ hzG, s24 _ _ hlG, _, _, _, _, _, s24 _ _ h2', hpG.same s24, St.step d0 d1 mm1 mm5, rfl⟩
    · rintro σ H' ⟨s', hz, hl', age, w, ys, ps, v6, hls, hp, St, rfl⟩
      rw [List.length_map] at St
      have hlen := hp.length
      have hSl := St.len
      walk_at "r"
      refine ite2 (fun z => ?_) fun z => ?_
      · walk_at "r"; intro t Ht nt
        exact q t ls ys ps none Ht (s'.trans nt.same) nt.at_ (nt.same _ _ hls) (hp.same nt.same) (St.dr ms1 ms5 fun z p e => by cases e)
      · obtain ⟨pl, hpl⟩ : ∃ pl, ps[ps.length - 1]? = some pl := ⟨_, List.getElem?_eq_getElem (by omega)⟩
        obtain ⟨v, hv, ap, rfl, hap⟩ := hp.get' hpl
        have hat : atI ys (-1) = some (.ref ap) := atI_m1 (by rw [hlen]; exact hv)
        have mE := mB (x := x10 % 50) (n := 49) (by omega) (by omega) (by omega)
        walk_at "r"; intro p3 G3 k3
        obtain ⟨e, he, e0, e1⟩ : ∃ e, atI [V.int 0, V.int (x10 % 50 * sc), V.int 1] (x9 / 3 % 3) = some (V.int e) ∧ 0 ≤ e ∧ e ≤ 50 * 10 ^ 12 := by
          have hk : x9 / 3 % 3 = 0 ∨ x9 / 3 % 3 = 1 ∨ x9 / 3 % 3 = 2 := by omega
          rcases hk with e | e | e <;> rw [e]
          · exact ⟨_, rfl, by omega, by omega⟩
          · exact ⟨_, rfl, by omega, by omega⟩
          · exact ⟨_, rfl, by omega, by omega⟩
        have hl3' := k3.same _ _ hl'
        walk_at "r"; intro t Ht nt
        have s2 := k3.same.trans nt.same
        have hb1 := St.each _ pl hpl
        have ha1 := St.a1
        exact q t ls ys ps (some (pl.1 + e)) Ht (s'.trans s2) nt.at_ (s2 _ _ hls) (hp.same s2) (St.dr ms1 ms5 fun z p ez hp' => by cases ez; rw [hpl] at hp'; cases hp'; omega)
end
section
variable {P : Program} {w : World} {K : PySem.W.Frag} {mg : Str → Option Value} {base : Heap} {C_Roll C_Rule C_BookError C_NoNumber C_NoRule C_Gone C_NoAsk : Addr}
theorem sq_kp {K : PySem.W.Frag} {H H' : Hp} {a : Addr} {xs : List V} (k : KpL H H') (h : SqL K H a xs) : SqL K H' a xs := by
  rcases h with (h | ⟨o, h⟩) | h
  · exact .inl (.inl (k.lst h))
  · exact .inl (.inr ⟨o, k _ _ h (by intro K z; cases z)⟩)
  · exact .inr h
structure S41 (C R : Addr) (H : Hp) (t l lr ro : Addr) (xs ys : List V) (ps : List (Int × Int)) (g : Option Int) (d : Int) (rs : List Rd3) (c : RollD) (LY LZ : List (List Int)) : Prop where
  ht : H t = some (.tup [.ref l, gv g])
  hl : H l = some (.lst xs)
  hx : Pairs H xs ps
  D : Dr41 ps g
  hd : Bd d
  hlr : H lr = some (.lst ys)
  hy : Tups H ys (rs.map l3)
  hn : rs.length ≤ 20
  hr : ∀ r ∈ rs, T5 r.1 ∧ RunT r.2
  R : RR C R H ro c (absOf (cell41 ps g d) rs) LY LZ
  ly : LY.length ≤ 20
  lz : LZ.length ≤ 20
  ge : c.ge = g.map fun z => cut d z (lw ps)
section
variable {C R : Addr} {H H' : Hp} {t l lr ro : Addr} {xs ys : List V} {ps : List (Int × Int)} {g : Option Int} {d : Int} {rs : List Rd3} {c : RollD} {LY LZ : List (List Int)}
theorem S41.same (e : Same H H') (h : S41 C R H t l lr ro xs ys ps g d rs c LY LZ) : S41 C R H' t l lr ro xs ys ps g d rs c LY LZ :=
  ⟨e _ _ h.ht, e _ _ h.hl, h.hx.same e, h.D, h.hd, e _ _ h.hlr, h.hy.same e, h.hn, h.hr, h.R.same e, h.ly, h.lz, h.ge⟩
end
theorem cell41_w {ps : List (Int × Int)} {g : Option Int} (P : Pr ps g) (d : Int) : ∀ t a w, cell41 ps g d t = some (a, w) → w = 0 ∨ 1 ≤ w := by
  intro t a w e
  have hl : 1 ≤ (ps.map fun p => cut d p.1 p.2).length := by rw [List.length_map]; exact P.good.lo
  unfold cell41 cellF at e
  split at e
  · rename_i h
    have hc := h.choose_spec
    rw [e] at hc
    rcases CellOf.some_ hc hl (fun w' hw' => P.w1 hw') with z | z
    · cases z; exact .inl rfl
    · exact .inr z
  · cases e
theorem S41.ok {C R : Addr} {H : Hp} {t l lr ro : Addr} {xs ys : List V} {ps : List (Int × Int)} {g : Option Int} {d : Int} {rs : List Rd3} {c : RollD} {LY LZ : List (List Int)} (h : S41 C R H t l lr ro xs ys ps g d rs c LY LZ) : AOk rs.length (absOf (cell41 ps g d) rs) :=
  AOk.all (cell41_w h.D.pr d) rs fun r hr => (h.hr r hr).2.ok
def badb (e a : Option Int) : Bool := match e, a with
  | none, _ => false
  | some _, none => true
  | some z, some x => decide (x < z)
theorem badb_iff {e a : Option Int} : badb e a = true ↔ BadB e a := by
  cases e with
  | none => exact ⟨fun h => (by cases h), fun ⟨z, h, _⟩ => (by cases h)⟩
  | some z => cases a with
    | none => exact ⟨fun _ => ⟨z, rfl, fun x h => (by cases h)⟩, fun _ => rfl⟩
    | some x => exact ⟨fun h => ⟨z, rfl, fun y e => (by cases e; exact of_decide_eq_true h)⟩, fun ⟨y, e, h⟩ => (by cases e; exact decide_eq_true (h x rfl))⟩
theorem condS {C : TT} {F REST : TS} {D : Ends} {σ : St} {H : Hp} (c : Bool) (hC : ∀ Q : Bool → Hp → Prop, Q c H → C σ H Q) (h1 : c = true → F { D with nx := REST D } σ H) (h2 : ¬ c = true → REST D σ H) : tSeq (tIfS C F tNext) REST D σ H := hC _ (ite2 h1 h2)
theorem cut23 (ns : List Int) : ∃ ms : List Int, cutV (ns.map V.int) (some 3) (some 23) = ms.map V.int ∧ ms.length ≤ 20 := by
  unfold cutV
  rw [show (some (3 : Int)) = some ((3 : Nat) : Int) from rfl, show (some (23 : Int)) = some ((23 : Nat) : Int) from rfl, HT.sIx_nat, HT.sIx_nat]
  refine ⟨(ns.drop (min 3 ns.length)).take (min 23 ns.length - min 3 ns.length), ?_, by rw [List.length_take, List.length_drop]; omega⟩
  simp [List.map_take, List.map_drop]
theorem G_law (T : Txt K mg C_Roll C_Rule C_BookError C_NoNumber C_NoRule C_Gone C_NoAsk) {f : Addr} {fd : FuncData} (F : Fun K "law" "law" s_law f fd) : FnOk P w K mg base CX0 9 f fd ["_law_script"] (sp_law K) := by
  have nd := sc_law.nd
  refine F.ok sc_law (fun vs H Q E h => ?_) (fun cdv A outer s H vs Q E hr h => ?_)
  · obtain ⟨a, ns, rfl, _⟩ := h; rfl
  · obtain ⟨a, ns, rfl, hS, hn, k⟩ := h
    obtain ⟨J, eJ⟩ : ∃ J : St → Hp → Prop, J = fun σ H' => SqL K H' a (ns.map V.int) ∧ ∃ (t l lr ro : Addr) (xs ys : List V) (ps : List (Int × Int)) (g : Option Int) (d : Int) (rs : List Rd3) (c : RollD) (LY LZ : List (List Int)) (v5 v6 v7 : Option V), S41 C_Roll C_Rule H' t l lr ro xs ys ps g d rs c LY LZ ∧ σ = [some (.ref a), some (.ref t), some (.int d), some (.ref lr), some (.ref ro), v5, v6, v7, none, none, none, none, none, none, none] := ⟨_, rfl⟩
    obtain ⟨J2, eJ2⟩ : ∃ J2 : St → Hp → Prop, J2 = fun σ H' => ∃ (t l lr ro le pr q1 q2 : Addr) (xs ys x1 x2 : List V) (ps : List (Int × Int)) (g : Option Int) (d : Int) (rs : List Rd3) (c : RollD) (LY LZ : List (List Int)) (oa ob : Option Int) (v5 v6 v7 : Option V), S41 C_Roll C_Rule H' t l lr ro xs ys ps g d rs c LY LZ ∧ H' le = some (.lst (eV ps g d)) ∧ H' pr = some (.tup [.ref q1, .ref q2]) ∧ H' q1 = some (.lst x1) ∧ Tups H' x1 (yRows (absOf (cell41 ps g d) rs)) ∧ H' q2 = some (.lst x2) ∧ Tups H' x2 (zRows (absOf (cell41 ps g d) rs)) ∧ (yRows (absOf (cell41 ps g d) rs)).length ≤ 60 ∧ (zRows (absOf (cell41 ps g d) rs)).length ≤ 60 ∧
      σ = [some (.ref a), some (.ref t), some (.int d), some (.ref lr), some (.ref ro), v5, v6, v7, some (gv oa), some (gv ob), some (.ref le), some (.ref pr), none, none, none] := ⟨_, rfl⟩
    refine ⟨_, (pss_cons (ps_set (i := 1) nd rfl (Or.inr rfl) (pe_fn (D__law_rule T) (hr.mono (by decide)) rfl (pa_cons (pe_fn (D__law_cell_at T) (hr.mono (by decide)) rfl (pa_cons (pv 0) (pa_cons pe_int pa_nil))) pa_nil)))
      (pss_cons (ps_set (i := 2) nd rfl (Or.inr rfl) (pe_op op_sub (pe_op op_mod (pe_fn (D__law_cell_at T) (hr.mono (by decide)) rfl (pa_cons (pv 0) (pa_cons pe_int pa_nil))) (pe_op op_mul pe_int (pe_op op_pow pe_int pe_int))) (pe_ix ix_list (pe_lstN (pa_cons pe_int (pa_cons (pe_op op_pow pe_int pe_int) pa_nil))) (pe_op op_mod (pe_fn (D__law_cell_at T) (hr.mono (by decide)) rfl (pa_cons (pv 0) (pa_cons pe_int pa_nil))) pe_int) (fun _ _ => rfl))))
      (pss_cons (ps_setLC (i := 3) (vars := ["_law_cell_here"]) (frees := ["_law_rule_here", "_law_day", "_law_script"]) (fv := [1, 2, 0]) nd rfl (Or.inl rfl) rfl (lcOk rfl rfl (by decide +kernel) (by decide +kernel) (by intro p hp; simp only [List.mem_cons, List.not_mem_nil, or_false] at hp; rcases hp with rfl | rfl | rfl <;> rfl) rfl) ⟨⟨rfl, .inl rfl, rfl, .inl rfl⟩, ⟨⟨rfl, .inl rfl, rfl, .inl rfl⟩, ⟨⟨rfl, .inl rfl, rfl, .inl rfl⟩, trivial⟩⟩⟩ (pi_list (pe_slice sl_listN (pv 0) (po_some pe_int) (po_some pe_int))) (gk_name (by decide)) (fun _ _ _ _ => (pg_name (i := 0) (show (["_law_cell_here", "_law_rule_here", "_law_day", "_law_script"] : List Str).Nodup by decide +kernel) rfl (Or.inl rfl))) (fun _ _ _ _ => pif_none) (fun _ _ _ _ => (pe_fn (D__law_reading T) (hr.mono (by decide)) rfl (pa_cons (pv 1) (pa_cons (pv 2) (pa_cons (pv 0) (pa_cons (pe_op op_mod (pe_fn (D__law_cell_at T) (hr.mono (by decide)) rfl (pa_cons (pv 3) (pa_cons pe_int pa_nil))) pe_int) pa_nil)))))))
      (pss_cons (ps_set (i := 4) nd rfl (Or.inl rfl) (pe_mkN (D_Roll_2 T) (hr.mono (by decide)) rfl .nil (pa_cons (pe_mkN (D_Rule_2 T) (hr.mono (by decide)) rfl .nil (pa_cons (pe_callTy call_listN rfl T.b_list bt_list (pa_cons (pe_ix ix_tup (pv 1) pe_int (fun _ _ => rfl)) pa_nil)) (pa_cons (pe_ix ix_tup (pv 1) pe_int (fun _ _ => rfl)) pa_nil))) (pa_cons (pv 2) pa_nil))))
      (pss_cut J (ps_for PassesOwn.never rfl (pi_list (pv 3)) (pg_tup rfl (pgs_cons (pg_name (i := 5) nd rfl (Or.inl rfl)) (pgs_cons (pg_name (i := 6) nd rfl (Or.inl rfl)) (pgs_cons (pg_name (i := 7) nd rfl (Or.inl rfl)) pgs_nil))))
        (pss_one (ps_expr (pe_mtD (pv 4) T.cl_Roll (D_Roll_put_3 T) (hr.mono (by decide)) .nil (pa_cons (pv 5) (pa_cons (pv 6) (pa_cons (pv 7) pa_nil)))))))
      (pss_cons (ps_set (i := 8) nd rfl (Or.inl rfl) (pe_fn (D__law_end T) (hr.mono (by decide)) rfl (pa_cons (pv 1) (pa_cons (pv 2) (pa_cons (pv 3) (pa_cons (pe_op op_add (pe_fn (D__law_cell_at T) (hr.mono (by decide)) rfl (pa_cons (pv 0) (pa_cons pe_int pa_nil))) pe_int) pa_nil))))))
      (pss_cons (ps_set (i := 9) nd rfl (Or.inl rfl) (pe_fn (D__law_end T) (hr.mono (by decide)) rfl (pa_cons (pv 1) (pa_cons (pv 2) (pa_cons (pv 3) (pa_cons (pe_op op_add (pe_fn (D__law_cell_at T) (hr.mono (by decide)) rfl (pa_cons (pv 0) (pa_cons pe_int pa_nil))) pe_int) pa_nil))))))
      (pss_cons (ps_set (i := 10) nd rfl (Or.inl rfl) (pe_fn (D__law_edges T) (hr.mono (by decide)) rfl (pa_cons (pv 1) (pa_cons (pv 2) pa_nil))))
      (pss_cut J2 (ps_set (i := 11) nd rfl (Or.inl rfl) (pe_fn (D__law_rows T) (hr.mono (by decide)) rfl (pa_cons (pv 1) (pa_cons (pv 10) (pa_cons (pv 3) pa_nil)))))
      (pss_cons (ps_if (PW.pt (pw_and (pt_cmpR op_notN (pe_ix ix_list (pv 10) (pe_un un_neg pe_int) (fun _ _ => rfl)) pe_non (nomark _)) (pw_and1 (PW.pt (pw_or (pt_cmpR op_isN (pv 8) pe_non (nomark _)) (pw_or1 (pt_cmpR op_lt (pv 8) (pe_ix ix_list (pv 10) (pe_un un_neg pe_int) (fun _ _ => rfl)) (nomark _))))))))
        (pss_one (ps_ret (pe_cmpR op_eq (pe_fn (D__law_gone T) (hr.mono (by decide)) rfl (pa_cons (pv 4) (pa_cons (pv 8) (pa_cons (pv 9) pa_nil)))) (pe_ix ix_list (pv 10) (pe_un un_neg pe_int) (fun _ _ => rfl)) (nomark _))))
        pss_nil)
      (pss_cons (ps_asg (pe_fn (D__law_due T) (hr.mono (by decide)) rfl (pa_cons (pv 11) (pa_cons (pv 8) (pa_cons (pv 9) pa_nil)))) (pg_tup rfl (pgs_cons (pg_name (i := 12) nd rfl (Or.inl rfl)) (pgs_cons (pg_name (i := 13) nd rfl (Or.inl rfl)) pgs_nil))))
      (pss_cons (ps_set (i := 14) nd rfl (Or.inl rfl) (pe_fnX (wants_nox ⟨rfl, rfl, rfl⟩) (D_pieces T) (hr.mono (by decide)) rfl .nil (pa_cons (pv 4) (pa_cons (pv 8) (pa_cons (pv 9) pa_nil)))))
      (pss_cons (ps_if (PW.pt (pw_or (pt_not (pt_val (pe_callB call_isi rfl T.b_isinstance bt_isinstance (pa_cons (pv 14) (pa_cons (pe_bltn (v := .ty "tuple") rfl T.b_tuple bt_tuple rfl) pa_nil))))) (pw_or (pt_cmpR op_ne (pe_callB call_len_seq rfl T.b_len bt_len (pa_cons (pv 14) pa_nil)) pe_int (nomark _)) (pw_or1 (pt_cmpR (op_neD hr.units) (pv 14) (pe_tupN (pa_cons (pv 12) (pa_cons (pv 13) pa_nil))) (nomark _))))))
        (pss_one (ps_ret pe_bl))
        pss_nil)
      (pss_cons (ps_if (PW.pt (pw_or (pt_not (pt_val (pe_callB call_isi rfl T.b_isinstance bt_isinstance (pa_cons (pe_ix ix_tup (pv 14) pe_int (fun _ _ => rfl)) (pa_cons (pe_bltn (v := .ty "list") rfl T.b_list bt_list rfl) pa_nil))))) (pw_or1 (pt_not (pt_val (pe_callB call_isi rfl T.b_isinstance bt_isinstance (pa_cons (pe_ix ix_tup (pv 14) pe_int (fun _ _ => rfl)) (pa_cons (pe_bltn (v := .ty "list") rfl T.b_list bt_list rfl) pa_nil))))))))
        (pss_one (ps_ret pe_bl))
        pss_nil)
      (pss_cons (ps_expr (pe_bm0 PySem.F.plainAttrs_list PySem.F.slot_list_clear PySem.F.type_list_clear mt_clearN (pe_ix ix_tup (pv 14) pe_int (fun _ _ => rfl))))
      (pss_cons (ps_expr (pe_bm PySem.F.plainAttrs_list PySem.F.slot_list_append PySem.F.type_list_append mt_appendN (pe_ix ix_tup (pv 14) pe_int (fun _ _ => rfl)) (pa_cons pe_non pa_nil)))
      (pss_one (ps_ret (pe_and (pe_cmpR (op_eqD hr.units) (pe_tupN (pa_cons (pe_mt0 (pv 4) T.cl_Roll (D_Roll_young T) (hr.mono (by decide))) (pa_cons (pe_mt0 (pv 4) T.cl_Roll (D_Roll_heaps T) (hr.mono (by decide))) pa_nil))) (pv 11) (nomark _)) (pe_one (pe_cmpR (op_eqD hr.units) (pe_fnX (wants_nox ⟨rfl, rfl, rfl⟩) (D_pieces T) (hr.mono (by decide)) rfl .nil (pa_cons (pv 4) (pa_cons (pv 8) (pa_cons (pv 9) pa_nil)))) (pe_tupN (pa_cons (pv 12) (pa_cons (pv 13) pa_nil))) (nomark _)))))))))))))))))))))), ?_⟩
    walk_at "r"
    refine ⟨a, ns, 0, rfl, hS, by decide, fun c0 => ?_⟩
    walk_at "r"; intro t l xs ps g H1 s1 ht hl hx D
    have hS1 := sq_mono s1 hS
    clear hS s1
    walk_at "r"
    refine ⟨a, ns, 1, rfl, hS1, by decide, fun c1 => ?_⟩
    walk_at "r"; intro p2 H2 n2
    have hS2 := sq_mono n2.same hS1
    walk_at "r"
    refine ⟨a, ns, 1, rfl, hS2, by decide, fun c2 => ?_⟩
    obtain ⟨e, he, e0, e1⟩ : ∃ e, atI [V.int 0, V.int (10 ^ 15)] (c2 % 2) = some (V.int e) ∧ 0 ≤ e ∧ e ≤ 10 ^ 15 := by
      have hk : c2 % 2 = 0 ∨ c2 % 2 = 1 := by omega
      rcases hk with z | z <;> rw [z]
      · exact ⟨_, rfl, by omega, by omega⟩
      · exact ⟨_, rfl, by omega, by omega⟩
    have h2 := n2.at_
    have ht2 := n2.same _ _ ht
    have hl2 := n2.same _ _ hl
    have hx2 := hx.same n2.same
    clear hS1 ht hl hx n2
    walk_at "r"
    generalize ed : (fun i j : Int => V.int (i - j)) (c1 % (2 * 10 ^ Int.toNat 15)) e = vd
    obtain ⟨d, rfl, hd⟩ : ∃ d, vd = V.int d ∧ Bd d := ⟨c1 % (2 * 10 ^ 15) - e, ed.symm, by unfold Bd; omega⟩
    clear ed he e0 e1 h2
    obtain ⟨ms, ec, hms⟩ := cut23 ns
    intro lz H3 n3
    rw [ec] at n3
    have hS3 := sq_mono n3.same hS2
    have ht3 := n3.same _ _ ht2
    have hl3 := n3.same _ _ hl2
    have hx3 := hx2.same n3.same
    have hz3 := n3.at_
    clear n3 ec hS2 ht2 hl2 hx2
    refine ⟨lz, rfl, ⟨_, SqL.of hz3⟩, lc_listN (xs := ms.map V.int) (fun i zs H4 => Same H3 H4 ∧ ∃ rs : List Rd3, rs.length = i ∧ Tups H4 zs (rs.map l3) ∧ ∀ r ∈ rs, T5 r.1 ∧ RunT r.2) (Nat.le_of_lt (small1000 (by rw [List.length_map]; omega))) ⟨Same.refl _, [], rfl, .nil, fun r hr => by cases hr⟩ (fun i zs H4 h4 => ⟨SqL.of (h4.1 _ _ hz3), by obtain ⟨_, rs, e1, e2, _⟩ := h4; rw [e2.length, List.length_map]; omega⟩) ?_ ?_⟩
    · rintro i x zs H4 hi ⟨s4, rs, hrl, tz, hr⟩
      rw [List.getElem?_map] at hi
      obtain ⟨m, _, rfl⟩ := Option.map_eq_some_iff.mp hi
      refine gname_ (yes_ (iteT ?_))
      walk_at "r"
      refine ⟨a, ns, 2, rfl, sq_mono s4 hS3, by decide, fun c3 => ?_⟩
      walk_at "r"
      refine ⟨t, l, xs, ps, g, d, m, _, rfl, s4 _ _ ht3, s4 _ _ hl3, hx3.same s4, D, hd, by omega, by omega, fun p r H5 h5 hr5 s5 hp => ?_⟩
      refine ⟨s4.trans s5, rs ++ [r], by simp [hrl], ?_, fun r' hr' => ?_⟩
      · rw [List.map_append]
        exact Tups.snoc ⟨p, rfl, hp⟩ (tz.same s5)
      · rcases List.mem_append.mp hr' with z | z
        · exact hr r' z
        · rw [List.mem_singleton.mp z]; exact ⟨h5, hr5⟩
    rintro ys H4 lr H5 ⟨s4, rs, hrl, hy, hr⟩ n5
    have hrn : rs.length ≤ 20 := by rw [hrl, List.length_map]; exact hms
    have s35 := s4.trans n5.same
    have hS5 := sq_mono s35 hS3
    have ht5 := s35 _ _ ht3
    have hl5 := s35 _ _ hl3
    have hx5 := hx3.same s35
    have hlr5 := n5.at_
    have hy5 := hy.same n5.same
    have hyl : ys.length = rs.length := by rw [hy.length, List.length_map]
    clear s4 n5 hy s35 hS3 ht3 hl3 hx3 hz3 hms
    refine ⟨_, rfl, t, _, _, _, rfl, rfl, SqT.of ht5, rfl, l, xs, rfl, .inl (SqL.of hl5), fun lc H6 n6 => ?_⟩
    refine ⟨_, rfl, t, _, _, _, rfl, rfl, SqT.of (n6.same _ _ ht5), rfl, fun ru dx H7 s7 f7 d7 => ?_⟩
    refine ⟨ru, dx, lc, xs, ps, g, rfl, d7, s7 _ _ n6.at_, (hx5.same n6.same).same s7, D.pr.good, D.pr.gone, fun rl H8 hrl' R8 b8 => ⟨rfl, ?_⟩⟩
    refine ⟨_, rfl, fun ro dx' H9 s9 f9 d9 => ?_⟩
    refine ⟨ro, dx', ru, rl, ps, g, d, rfl, d9, R8.same s9, D.pr, hd, fun le dy dh H10 z1 z2 z3 A10 b10 => ⟨rfl, ?_⟩⟩
    have s510 : Same H5 H10 := n6.same.trans ((b8.same s7 f7).trans (b10.same s9 f9))
    have hS10 := sq_mono s510 hS5
    have ht10 := s510 _ _ ht5
    have hl10 := s510 _ _ hl5
    have hx10 := hx5.same s510
    have hlr10 := s510 _ _ hlr5
    have hy10 := hy5.same s510
    clear s510 hS5 ht5 hl5 hx5 hlr5 hy5 n6 s7 f7 d7 b8 R8 s9 f9 d9 b10 z1 z2 z3
    have ok : RollOk (newD ru rl le dy dh ps g d) := ⟨D.pr, by show (ps.map _).length = ps.length; rw [List.length_map]⟩
    obtain ⟨LY, eLY⟩ : ∃ LY : List (List Int), LY = rs.map yKey := ⟨_, rfl⟩
    obtain ⟨LZ, eLZ⟩ : ∃ LZ : List (List Int), LZ = rs.map (zKey (cell41 ps g d)) := ⟨_, rfl⟩
    have lly : LY.length ≤ 20 := by rw [eLY, List.length_map]; exact hrn
    have llz : LZ.length ≤ 20 := by rw [eLZ, List.length_map]; exact hrn
    have R10 : RR C_Roll C_Rule H10 ro (newD ru rl le dy dh ps g d) abs0 LY LZ := ⟨[], [], A10, RAbs.zero rfl rfl⟩
    clear A10
    generalize ecc : newD ru rl le dy dh ps g d = c at R10 ok
    have ecell : cellD c = cell41 ps g d := by rw [← ecc]; rfl
    have ege : c.ge = g.map fun z => cut d z (lw ps) := by rw [← ecc]; rfl
    clear ecc
    refine And.intro ?_ ?_
    · refine ⟨_, rfl, lr, rfl, ⟨_, SqL.of hlr10⟩, for_list (xs := ys) (fun i σ H' => KpL H10 H' ∧ RR C_Roll C_Rule H' ro c (absOf (cell41 ps g d) (rs.take i)) LY LZ ∧ ∃ (v5 v6 v7 : Option V), σ = [some (.ref a), some (.ref t), some (.int d), some (.ref lr), some (.ref ro), v5, v6, v7, none, none, none, none, none, none, none]) ⟨KpL.of (Same.refl _), R10, none, none, none, rfl⟩ (fun i σ H' _ h' => SqL.of (h'.1.lst hlr10)) ?_ ?_⟩
      · rintro i x σ H' hi ⟨kp, R', v5, v6, v7, rfl⟩
        obtain ⟨r3, hri, p, rfl, hp⟩ := hy10.get hi
        rw [List.getElem?_map] at hri
        obtain ⟨r, hr', rfl⟩ := Option.map_eq_some_iff.mp hri
        obtain ⟨h5, hrt⟩ := hr r (List.mem_of_getElem? hr')
        have hp' : H' p = some (.tup [.int r.1, .int r.2.1, .int r.2.2]) := kp.tups _ _ hp
        obtain ⟨dxr, hob⟩ := R'.obj
        obtain ⟨⟨Yd, hYd⟩, ⟨Zd, hZd⟩⟩ := R'.dicts
        have hmem := List.mem_of_getElem? hr'
        rw [takeN rs i _ hr', absOf_snoc]
        refine ⟨p, _, rfl, SqT.of hp', rfl, _, _, rfl, _, _, rfl, _, _, rfl, rfl, ?_⟩
        refine ⟨_, rfl, ro, dxr, _, rfl, hob, rof_put _ _ _ _ _, _, rfl, _, rfl, _, rfl, ?_⟩
        simp only [tNil, List.cons_append, List.nil_append, List.append_nil]
        refine R'.put ok (by unfold T5 at h5; unfold TB46; omega) hrt.2.1 (by unfold RunT at hrt; unfold RunB; dsimp only; omega) (by omega) (by omega) (by rw [eLY]; exact List.mem_map.mpr ⟨r, hmem, rfl⟩) (fun a w e => by rw [eLZ]; refine List.mem_map.mpr ⟨r, hmem, ?_⟩; unfold zKey; rw [← ecell, e]) fun H'' R'' b'' => ?_
        rw [ecell] at R''
        refine ⟨fun x o e n => b''.keep hYd hZd (kp _ _ e n) n, R'', _, _, _, rfl⟩
      · rintro σ H' ⟨kp, R', v5, v6, v7, rfl⟩
        rw [hyl, List.take_length] at R'
        show J _ _
        rw [eJ]
        exact ⟨sq_kp kp hS10, t, l, lr, ro, xs, ys, ps, g, d, rs, c, LY, LZ, v5, v6, v7, ⟨kp.tups _ _ ht10, kp.lst hl10, hx10.tupS kp.tups, D, hd, kp.lst hlr10, hy10.tupS kp.tups, hrn, hr, R', lly, llz, ege⟩, rfl⟩
    clear R10 ok lly llz eLY eLZ ecell ege hS10 ht10 hl10 hx10 hlr10 hy10 hr hrn hyl hd D
    intro σ' H' j
    rw [eJ] at j
    clear eJ
    obtain ⟨hS', t, l, lr, ro, xs, ys, ps, g, d, rs, c, LY, LZ, v5, v6, v7, S, rfl⟩ := j
    walk_at "r"
    refine ⟨a, ns, 2, rfl, hS', by decide, fun c4 => ?_⟩
    walk_at "r"
    have hn60 := S.hn
    refine ⟨t, l, xs, ps, g, d, lr, ys, rs, _, rfl, S.ht, S.hl, S.hx, S.D, S.hd, S.hlr, S.hy, by omega, fun oa G1 s1 => ?_⟩
    have S := S.same s1
    have hS' := sq_mono s1 hS'
    clear s1
    walk_at "r"
    refine ⟨a, ns, 2, rfl, hS', by decide, fun c5 => ?_⟩
    walk_at "r"
    refine ⟨t, l, xs, ps, g, d, lr, ys, rs, _, rfl, S.ht, S.hl, S.hx, S.D, S.hd, S.hlr, S.hy, by omega, fun ob G2 s2 => ?_⟩
    have S := S.same s2
    clear s2 hS'
    refine ⟨_, rfl, _, rfl, ?_⟩
    refine ⟨t, l, xs, ps, g, d, rfl, S.ht, S.hl, S.hx, S.D.pr, S.hd, fun le G3 n3 => ?_⟩
    have S := S.same n3.same
    have hle := n3.at_
    clear n3
    refine And.intro ?_ ?_
    · refine ⟨_, rfl, _, rfl, _, rfl, ?_⟩
      refine ⟨t, l, xs, ps, g, le, d, lr, ys, rs, rfl, S.ht, S.hl, S.hx, S.D.pr, S.hd, hle, S.hlr, S.hy, by omega, (fun r hr => ⟨by have := (S.hr r hr).1; unfold T5 at this; unfold TB46; omega, (S.hr r hr).2.ok⟩), fun pr q1 q2 x1 x2 G4 s4 hpr h1 t1 h2 t2 ly lz => ?_⟩
      show J2 _ _
      rw [eJ2]
      exact ⟨t, l, lr, ro, le, pr, q1, q2, xs, ys, x1, x2, ps, g, d, rs, c, LY, LZ, oa, ob, v5, v6, v7, S.same s4, s4 _ _ hle, hpr, h1, t1, h2, t2, ly, lz, rfl⟩
    clear S hle hn60
    intro σ' G j
    rw [eJ2] at j
    clear eJ2
    obtain ⟨t, l, lr, ro, le, pr, q1, q2, xs, ys, x1, x2, ps, g, d, rs, c, LY, LZ, oa, ob, v5, v6, v7, S, hle, hpr, h1, t1, h2, t2, ly, lz, rfl⟩ := j
    have ao := S.ok
    have hn := S.hn
    have hly := S.ly
    have hlz := S.lz
    have ege := S.ge
    have Ed := EdS.of S.D.pr S.hd
    have R0 := S.R
    rw [Ed.eq] at hle
    have hat : atI ((ps.map fun p => cut d p.1 p.2).map V.int ++ [gv (g.map fun z => cut d z (lw ps))]) (-1) = some (gv (g.map fun z => cut d z (lw ps))) := atI_m1 (by simp)
    clear S Ed
    generalize (ps.map fun p => cut d p.1 p.2).map V.int ++ [gv (g.map fun z => cut d z (lw ps))] = EV at hle hat
    rw [← ege] at hat
    generalize absOf (cell41 ps g d) rs = sa at ao R0 t1 t2 ly lz
    refine condS (badb c.ge oa) (fun Q hQ => ?_) (fun z => ?_) fun z => ?_
    · cases ec : c.ge with
      | none =>
        rw [ec] at hat hQ
        refine ⟨_, rfl, _, rfl, le, _, _, _, rfl, rfl, SqL.of hle, hat, ?_⟩
        walk_at "r"; exact hQ
      | some z =>
        rw [ec] at hat hQ
        refine ⟨_, rfl, _, rfl, le, _, _, _, rfl, rfl, SqL.of hle, hat, ?_⟩
        cases oa with
        | none => walk_at "r"; exact hQ
        | some x => walk_at "r"; exact hQ
    · have bd := badb_iff.mp z
      obtain ⟨z0, ez, _⟩ := id bd
      refine ⟨_, rfl, _, rfl, _, rfl, ?_⟩
      refine ⟨ro, c, sa, LY, LZ, rs.length, oa, ob, rfl, R0, by omega, by omega, ao, by omega, bd, fun G1 s1 => ?_⟩
      refine ⟨_, rfl, _, rfl, le, _, _, _, rfl, rfl, SqL.of (s1 _ _ hle), hat, ?_⟩
      rw [ez]
      refine ⟨rfl, ?_⟩
      rw [decide_eq_true rfl]
      exact k G1
    have nb : ¬ BadB c.ge oa := fun y => z (badb_iff.mpr y)
    refine ⟨_, rfl, _, rfl, _, rfl, ?_⟩
    refine ⟨pr, q1, q2, x1, x2, _, _, oa, ob, rfl, hpr, h1, t1, h2, t2, ao.ysh (by omega), ao.zsh, by omega, by omega, fun td lk lp xk xp G1 s1 htd hk tk hp tp => ?_⟩
    refine ⟨td, _, rfl, SqT.of htd, rfl, _, _, rfl, _, _, rfl, rfl, ?_⟩
    refine ⟨_, rfl, _, rfl, _, rfl, ?_⟩
    refine ⟨ro, c, sa, LY, LZ, rs.length, oa, ob, rfl, R0.same s1, by omega, by omega, ao, by omega, fun bd => absurd bd nb, fun _ tf l1 l2 y1 y2 G2 s2 f1 f2 n12 htf hy1 ty1 hy2 ty2 => ?_⟩
    have R2 := R0.same (s1.trans s2)
    have hpr2 := s2 _ _ (s1 _ _ hpr)
    have h12 := s2 _ _ (s1 _ _ h1)
    have t12 := t1.same (s1.trans s2)
    have h22 := s2 _ _ (s1 _ _ h2)
    have t22 := t2.same (s1.trans s2)
    have hk2 := s2 _ _ hk
    have tk2 := tk.same s2
    have hp2 := s2 _ _ hp
    have tp2 := tp.same s2
    have ty2l := ty2.length
    have lfp := List.length_filter_le (cZ oa ob) (zRows sa)
    have ty2l : y2.length = ((zRows sa).filter (cZ oa ob)).length := ty2l
    refine ⟨_, rfl, _, _, _, true, rfl, .tup htf, kit_tuple _, _, rfl, iteF ?_⟩
    refine ⟨_, rfl, tf, _, rfl, .inr (SqT.of htf), rfl, _, rfl, iteF ?_⟩
    refine ⟨_, rfl, _, rfl, _, rfl, by show 2 ≤ sizeLine; decide, fun p3 G3 n3 => ?_⟩
    refine ⟨dKP _ _, dKP _ _, rep_kp (n3.same _ _ htf) (n3.same _ _ hy1) (ty1.same n3.same) (n3.same _ _ hy2) (ty2.same n3.same), rep_kp n3.at_ (n3.same _ _ hk2) (tk2.same n3.same) (n3.same _ _ hp2) (tp2.same n3.same), lay_kp _ _, lay_kp _ _, dep_kp _ _, _, rfl, ?_⟩
    show if (!PyData.eqv _ _) = true then _ else _
    rw [SeqAt.eqv_refl _ (lay_kp _ _)]
    refine iteF ?_
    have s13 := s2.trans n3.same
    have htf3 := n3.same _ _ htf
    have hy13 := n3.same _ _ hy1
    have hy23 := n3.same _ _ hy2
    clear n3 hk2 tk2 hp2 tp2 hpr2 h12 t12 h22 t22 R2 htf hy1 ty1 hy2 ty2 s2
    refine ⟨_, rfl, tf, _, _, _, rfl, rfl, SqT.of htf3, rfl, _, _, _, true, rfl, .lst hy13, kit_list _, _, rfl, iteF ?_⟩
    refine ⟨_, rfl, tf, _, _, _, rfl, rfl, SqT.of htf3, rfl, _, _, _, true, rfl, .lst hy23, kit_list _, _, rfl, iteF ?_⟩
    refine ⟨_, rfl, tf, _, _, _, rfl, rfl, SqT.of htf3, rfl, .inl ⟨rfl, _, SqL.of hy13⟩, l1, _, rfl, rfl, hy13, fun G4 b4 hl4 => ?_⟩
    have htf4 := b4 _ _ htf3 (ne_of htf3 hy13 (by intro z; cases z))
    have hy24 := b4 _ _ hy23 n12.symm
    have s14 : Same G1 G4 := b4.same s13 f1
    have lt2 : y2.length < sizeLine := small1000 (by rw [ty2l]; omega)
    refine ⟨_, rfl, tf, _, _, _, rfl, rfl, SqT.of htf4, rfl, .inl ⟨rfl, _, SqL.of hy24⟩, l2, _, _, rfl, rfl, hy24, lt2, fun G5 b5 hl5 => ?_⟩
    have s15 : Same G1 G5 := b5.same s14 f2
    have s05 := s1.trans s15
    clear b4 b5 htf4 hy24 s14 htf3 hy13 hy23 s13 hl4 hl5 lt2
    have R5 := R0.same s05
    obtain ⟨dx, hob⟩ := R5.obj
    refine ⟨_, rfl, ro, dx, _, rfl, hob, rof_young _ _ _ _ _, tnil_ ?_⟩
    refine R5.young (by omega) fun ya xa G6 s6 fa ha ta oka => ?_
    refine ⟨_, rfl, ro, dx, _, rfl, s6 _ _ hob, rof_heaps _ _ _ _ _, tnil_ ?_⟩
    refine (R5.same s6).heaps (by omega) fun yb xb G7 s7 fb hb tb okb => ?_
    refine ⟨by show 2 ≤ sizeLine; decide, fun p8 G8 n8 => ?_⟩
    have s08 := s05.trans (s6.trans (s7.trans n8.same))
    refine ⟨_, rfl, dTwo _ _, dTwo _ _, rep_two n8.at_ (n8.same _ _ (s7 _ _ ha)) (ta.same (s7.trans n8.same)) (n8.same _ _ hb) (tb.same n8.same), rep_two (s08 _ _ hpr) (s08 _ _ h1) (t1.same s08) (s08 _ _ h2) (t2.same s08), lay_two _ _, lay_two _ _, dep_two _ _, ?_⟩
    show ∃ c, V.bl (PyData.eqv _ _) = V.bl c ∧ _
    rw [SeqAt.eqv_refl _ (lay_two _ _)]
    refine ⟨true, rfl, ?_⟩
    have s18 := s15.trans (s6.trans (s7.trans n8.same))
    refine ⟨_, rfl, _, rfl, _, rfl, ?_⟩
    refine ⟨ro, c, sa, LY, LZ, rs.length, oa, ob, rfl, R0.same s08, by omega, by omega, ao, by omega, fun bd => absurd bd nb, fun _ tf l1 l2 y1 y2 G9 s9 f1 f2 n12 htf hy1 ty1 hy2 ty2 => ?_⟩
    have s19 := s18.trans s9
    refine ⟨_, rfl, _, rfl, by show 2 ≤ sizeLine; decide, fun p3 G3 n3 => ?_⟩
    refine ⟨dKP _ _, dKP _ _, rep_kp (n3.same _ _ htf) (n3.same _ _ hy1) (ty1.same n3.same) (n3.same _ _ hy2) (ty2.same n3.same), rep_kp n3.at_ (n3.same _ _ (s19 _ _ hk)) (tk.same (s19.trans n3.same)) (n3.same _ _ (s19 _ _ hp)) (tp.same (s19.trans n3.same)), lay_kp _ _, lay_kp _ _, dep_kp _ _, ?_⟩
    show Q (V.bl (PyData.eqv _ _)) _
    rw [SeqAt.eqv_refl _ (lay_kp _ _)]
    exact k G3
end
theorem walk {l : PySem.W.OpenLaw} {q : Program} {loose : List Str} {XP : (Str → Option Value) → Heap → Prop} {YP : World → Heap → Prop} {d : DefRec} {K : Params → PySem.W.Frag} (hn : l.most = some 63) (hdf : d.params.defaults = []) (hdn : d.name = "law")
    (hY : ∀ (w : World) (h : Heap), YP w h → (K w.params).In h)
    (F : ∀ (w : World) (mg : Str → Option Value) (h : Heap), (K w.params).In h → h.Ns mainGlobals mg → ∃ C_Roll C_Rule C_BookError C_NoNumber C_NoRule C_Gone C_NoAsk, Txt (K w.params) mg C_Roll C_Rule C_BookError C_NoNumber C_NoRule C_Gone C_NoAsk) :
    PySem.W.WalkO q loose XP YP l.row.toRowW d [] (fun f vs => PySem.call f vs) := by
  refine L2.walk_of (n := 63) (k := 9) (x := "_law_script") (CX := fun _ => CX0) (sp := fun w => sp_law (K w.params)) hn (by decide) hdf ⟨rfl, by decide, by decide⟩ hY (fun w mg fa h kin ns hm => ?_) (fun _ _ a ns hl _ hS => ⟨a, ns, rfl, hS, hl, fun _ => rfl⟩) fun _ _ _ _ _ z => z
  obtain ⟨C_Roll, C_Rule, C_BookError, C_NoNumber, C_NoRule, C_Gone, C_NoAsk, T⟩ := F w mg h kin ns
  obtain ⟨f, fd, Fu, hm'⟩ := T.f_law
  rw [hdn, hm'] at hm
  cases hm
  refine ⟨fd, ?_, fun base kb nb => G_law T Fu⟩
  obtain ⟨oc, od, kV, doc, pm, an, cdv, ct, osl, rfl, lk, hcd⟩ := Fu.ex
  exact fun s u => .of_eq rfl
end TB
def PySem.W.Fast.tw14980880811888973404 : Unit := ()
def PySem.W.Fast.tw1563956360534317231 : Unit := ()
def PySem.W.Fast.tw17771222872561535793 : Unit := ()
def PySem.W.Fast.tw4593191452771680889 : Unit := ()
def PySem.W.Fast.tw10295260615059778515 : Unit := ()
def PySem.W.Fast.tw7671452461660611865 : Unit := ()
def PySem.W.Fast.tw5386755233533914131 : Unit := ()
def PySem.W.Fast.tw591163397153578205 : Unit := ()
def PySem.W.Fast.tw15222429276769047331 : Unit := ()
def PySem.W.Fast.tw16638053111552190973 : Unit := ()
def PySem.W.Fast.tw11694567533813946999 : Unit := ()
def PySem.W.Fast.tw6938224662313616232 : Unit := ()
def PySem.W.Fast.tw12574218125974350398 : Unit := ()
def PySem.W.Fast.tw17318899175889493323 : Unit := ()
def PySem.W.Fast.tw12367276368264498058 : Unit := ()
def PySem.W.Fast.tw15411855110390853414 : Unit := ()
def PySem.W.Fast.tw16848108127661420308 : Unit := ()
def PySem.W.Fast.tw11970568386160248075 : Unit := ()
def PySem.W.Fast.tw2783316405312050165 : Unit := ()
def PySem.W.Fast.tw3886975119932444802 : Unit := ()
def PySem.W.Fast.tw2015202418672821305 : Unit := ()
def PySem.W.Fast.tw16516507786519898720 : Unit := ()
def PySem.W.Fast.tw9124675937938598485 : Unit := ()
def PySem.W.Fast.tw1273186945344739634 : Unit := ()
def PySem.W.Fast.tw16054729363425217629 : Unit := ()
def PySem.W.Fast.tw6979433631654763061 : Unit := ()
def PySem.W.Fast.tw10076915421223129342 : Unit := ()
def PySem.W.Fast.tw468221873449419086 : Unit := ()
def PySem.W.Fast.tw10267745082004253362 : Unit := ()
def PySem.W.Fast.tw15292068323824856389 : Unit := ()
def PySem.W.Fast.tw12538278720039926262 : Unit := ()
def PySem.W.Fast.tw790391917578969148 : Unit := ()
def PySem.W.Fast.tw7578705394040987848 : Unit := ()
def PySem.W.Fast.tw9993374307477012630 : Unit := ()
def PySem.W.Fast.tw2074355032503264479 : Unit := ()
def PySem.W.Fast.tw856643165652374609 : Unit := ()
def PySem.W.Fast.tw12855232403969393721 : Unit := ()
def PySem.W.Fast.tw5270368038139436555 : Unit := ()
def PySem.W.Fast.tw2679144705324671148 : Unit := ()
def PySem.W.Fast.tw14857302044951860967 : Unit := ()
def PySem.W.Fast.tw1302518495413127136 : Unit := ()
def PySem.W.Fast.tw13887832116442867422 : Unit := ()
def PySem.W.Fast.tw14724538278778306932 : Unit := ()
def PySem.W.Fast.tw4348979714363284408 : Unit := ()
def PySem.W.Fast.tw16722493453607428958 : Unit := ()
def PySem.W.Fast.tw4584159631419674349 : Unit := ()
def PySem.W.Fast.tw17850330016921211099 : Unit := ()
def PySem.W.Fast.tw12685682575353258256 : Unit := ()
def PySem.W.Fast.tw2502366228203227033 : Unit := ()
def PySem.W.Fast.tw5303111573208591035 : Unit := ()
def PySem.W.Fast.tw4693774038894453775 : Unit := ()
def PySem.W.Fast.tw7267959666094884829 : Unit := ()
def PySem.W.Fast.tw9132695400019385505 : Unit := ()
def PySem.W.Fast.tw10849101664263132863 : Unit := ()
def PySem.W.Fast.tw816322620709016406 : Unit := ()
def PySem.W.Fast.tw1547170670210224613 : Unit := ()
def PySem.W.Fast.tw1369576628082795608 : Unit := ()
def PySem.W.Fast.tw7278540024957069175 : Unit := ()
def PySem.W.Fast.tw13950976812457674868 : Unit := ()
def PySem.W.Fast.tw7818806019021778400 : Unit := ()
def PySem.W.Fast.tw677145786144937173 : Unit := ()
def PySem.W.Fast.tw16022585020313668436 : Unit := ()
def PySem.W.Fast.tw411640781765634171 : Unit := ()
def PySem.W.Fast.tw6689600693334387672 : Unit := ()
def PySem.W.Fast.tw16632470501626489926 : Unit := ()
def PySem.W.Fast.tw3122053865184001347 : Unit := ()
def PySem.W.Fast.tw16200516337653605742 : Unit := ()
def PySem.W.Fast.tw3323335506188469876 : Unit := ()
def PySem.W.Fast.tw4213638811757735015 : Unit := ()
def PySem.W.Fast.tw17639206816267731580 : Unit := ()
def PySem.W.Fast.tw6526282694840951547 : Unit := ()
def PySem.W.Fast.tw1516209843263208341 : Unit := ()
def PySem.W.Fast.tw7247580711247144249 : Unit := ()
def PySem.W.Fast.tw8838494226784305345 : Unit := ()
def PySem.W.Fast.tw12360226420352945031 : Unit := ()
def PySem.W.Fast.tw15455327815588716181 : Unit := ()
def PySem.W.Fast.tw11859897903751541623 : Unit := ()
def PySem.W.Fast.tw944936082317820317 : Unit := ()
def PySem.W.Fast.tw8715447245535480814 : Unit := ()
def PySem.W.Fast.tw13623968479254449334 : Unit := ()
def PySem.W.Fast.tw9687740147613890663 : Unit := ()
def PySem.W.Fast.tw7993357843697857174 : Unit := ()
def PySem.W.Fast.tw3659826035475764225 : Unit := ()
def PySem.W.Fast.tw204639827701749101 : Unit := ()
def PySem.W.Fast.tw7554071432902579761 : Unit := ()
def PySem.W.Fast.tw668976995269099977 : Unit := ()
def PySem.W.Fast.tw10905105907404586030 : Unit := ()
def PySem.W.Fast.tw5416119193871926062 : Unit := ()
def PySem.W.Fast.tw2102378611134753723 : Unit := ()
def PySem.W.Fast.tw6206198390603213897 : Unit := ()
def PySem.W.Fast.tw13092144790483615823 : Unit := ()
def PySem.W.Fast.tw9921232841563701451 : Unit := ()
def PySem.W.Fast.tw4679036044422337706 : Unit := ()
def PySem.W.Fast.tw16996760602420801689 : Unit := ()
def PySem.W.Fast.tw7203910550145751630 : Unit := ()
def PySem.W.Fast.tw3753647746804016627 : Unit := ()
def PySem.W.Fast.tw2817846198796982577 : Unit := ()
def PySem.W.Fast.tw10538209019040204539 : Unit := ()
def PySem.W.Fast.tw7514848453166969855 : Unit := ()
def PySem.W.Fast.tw2339874381146917032 : Unit := ()
def PySem.W.Fast.tw4680668486498164398 : Unit := ()
def PySem.W.Fast.tw8472613970045541560 : Unit := ()
def PySem.W.Fast.tw14351420177746330658 : Unit := ()
def PySem.W.Fast.tw10959464357730021111 : Unit := ()
def PySem.W.Fast.tw14753076920519644572 : Unit := ()
def PySem.W.Fast.tw15627459435551634168 : Unit := ()
def PySem.W.Fast.tw2073602670903531609 : Unit := ()
def PySem.W.Fast.tw158116463108746412 : Unit := ()
def PySem.W.Fast.tw18048111089393694769 : Unit := ()
def PySem.W.Fast.tw4880665663478107800 : Unit := ()
def PySem.W.Fast.tw2090466000883608699 : Unit := ()
def PySem.W.Fast.tw1945206566739370729 : Unit := ()
def PySem.W.Fast.tw18155136895675270080 : Unit := ()
def PySem.W.Fast.tw3120267044188725457 : Unit := ()
def PySem.W.Fast.tw6408627654933884437 : Unit := ()
def PySem.W.Fast.tw17181831706595612244 : Unit := ()
def PySem.W.Fast.tw14287157731702159017 : Unit := ()
def PySem.W.Fast.tw740726479786053486 : Unit := ()
def PySem.W.Fast.tw3132674873840071471 : Unit := ()
def PySem.W.Fast.tw18320766275966466766 : Unit := ()
def PySem.W.Fast.tw14456803056400786872 : Unit := ()
def PySem.W.Fast.tw15520939899845140851 : Unit := ()
def PySem.W.Fast.tw6710401774282685063 : Unit := ()
def PySem.W.Fast.tw4507588689397569058 : Unit := ()
def PySem.W.Fast.tw6880014864879939842 : Unit := ()
def PySem.W.Fast.tw16651324910675423866 : Unit := ()
def PySem.W.Fast.tw3405916295003607119 : Unit := ()
def PySem.W.Fast.tw3330419029654364252 : Unit := ()
def PySem.W.Fast.tw17898824373966660150 : Unit := ()
def PySem.W.Fast.tw17909720625412321396 : Unit := ()
def PySem.W.Fast.tw11656916252155617306 : Unit := ()
def PySem.W.Fast.tw17265162553208441484 : Unit := ()
def PySem.W.Fast.tw11848607891785075197 : Unit := ()
def PySem.W.Fast.tw1183395917888024435 : Unit := ()
def PySem.W.Fast.tw13881503407326029572 : Unit := ()
def PySem.W.Fast.tw11398132345163883488 : Unit := ()
def PySem.W.Fast.tw10650484133380209646 : Unit := ()
def PySem.W.Fast.tw12105029726665938783 : Unit := ()
def PySem.W.Fast.tw17584408998888767851 : Unit := ()
def PySem.W.Fast.tw1577078180637864394 : Unit := ()
def PySem.W.Fast.tw10616815081881115746 : Unit := ()
def PySem.W.Fast.tw13430956948061992886 : Unit := ()
def PySem.W.Fast.tw15851261154151151460 : Unit := ()
def PySem.W.Fast.tw16780915604455127276 : Unit := ()
def PySem.W.Fast.tw3302436604281745677 : Unit := ()
def PySem.W.Fast.tw17856596154941908955 : Unit := ()
def PySem.W.Fast.tw5579462609771415432 : Unit := ()
def PySem.W.Fast.tw1029990538862460152 : Unit := ()
def PySem.W.Fast.tw12319863556676968950 : Unit := ()
def PySem.W.Fast.tw271841230133780608 : Unit := ()
def PySem.W.Fast.tw12145949221228984993 : Unit := ()
def PySem.W.Fast.tw5728835050889770157 : Unit := ()
def PySem.W.Fast.tw5990371573910100819 : Unit := ()
def PySem.W.Fast.tw10365398073004666336 : Unit := ()
def PySem.W.Fast.tw6609811574380344039 : Unit := ()
def PySem.W.Fast.tw4323314827147287157 : Unit := ()
def PySem.W.Fast.tw8697752939642169112 : Unit := ()
def PySem.W.Fast.tw16618028298581649519 : Unit := ()
def PySem.W.Fast.tw4193475254693109531 : Unit := ()
def PySem.W.Fast.tw17575191592506016743 : Unit := ()
def PySem.W.Fast.tw14367082606985146649 : Unit := ()
def PySem.W.Fast.tw4328416322623329696 : Unit := ()
def PySem.W.Fast.tw10884838115857635861 : Unit := ()
def PySem.W.Fast.tw11130446909147651529 : Unit := ()
def PySem.W.Fast.tw15067936998947829280 : Unit := ()
def PySem.W.Fast.tw6812973628172495185 : Unit := ()
def PySem.W.Fast.tw8963751487856684726 : Unit := ()
def PySem.W.Fast.tw8977268443975341169 : Unit := ()
def PySem.W.Fast.tw13631770127892680610 : Unit := ()
def PySem.W.Fast.tw5735335096446587290 : Unit := ()
def PySem.W.Fast.tw15273803620577749242 : Unit := ()
def PySem.W.Fast.tw18150429724722009035 : Unit := ()
def PySem.W.Fast.tw12198009108004393257 : Unit := ()
def PySem.W.Fast.tw3428630752421718848 : Unit := ()
def PySem.W.Fast.tw4421456966180776757 : Unit := ()
def PySem.W.Fast.tw17028364790639949224 : Unit := ()
def PySem.W.Fast.tw9863974778358402537 : Unit := ()
def PySem.W.Fast.tw312658096709515684 : Unit := ()
def PySem.W.Fast.tw13098315120536553768 : Unit := ()
def PySem.W.Fast.tw16890032589320876652 : Unit := ()
def PySem.W.Fast.tw15333025476409424529 : Unit := ()
def PySem.W.Fast.tw704671575237735190 : Unit := ()
def PySem.W.Fast.tw15163172783218319086 : Unit := ()
def PySem.W.Fast.tw16632025612321727027 : Unit := ()
def PySem.W.Fast.tw17397408586833384582 : Unit := ()
def PySem.W.Fast.tw17823616633087205566 : Unit := ()
def PySem.W.Fast.tw7217869891081361243 : Unit := ()
def PySem.W.Fast.tw4440810933774485936 : Unit := ()
def PySem.W.Fast.tw1036768021732711769 : Unit := ()
def PySem.W.Fast.tw8577491757798650963 : Unit := ()
def PySem.W.Fast.tw13655289411620987271 : Unit := ()
def PySem.W.Fast.tw13223266069807661059 : Unit := ()
def PySem.W.Fast.tw5313101344887386606 : Unit := ()
def PySem.W.Fast.tw15910798305415828755 : Unit := ()
def PySem.W.Fast.tw2860233800707689172 : Unit := ()
def PySem.W.Fast.tw1262305228329253219 : Unit := ()
def PySem.W.Fast.tw18284757148039550430 : Unit := ()
def PySem.W.Fast.tw18192880812221187734 : Unit := ()
def PySem.W.Fast.tw5157974016565730442 : Unit := ()
def PySem.W.Fast.tw13852786272475191776 : Unit := ()
def PySem.W.Fast.tw94094547204623965 : Unit := ()
def PySem.W.Fast.tw12880389623111717034 : Unit := ()
def PySem.W.Fast.tw14754483442090116736 : Unit := ()
def PySem.W.Fast.tw1113491753990290981 : Unit := ()
def PySem.W.Fast.tw10680612082101920096 : Unit := ()
def PySem.W.Fast.tw11149219310427880754 : Unit := ()
def PySem.W.Fast.tw18335160353463022554 : Unit := ()
def PySem.W.Fast.tw1974484599741264409 : Unit := ()
def PySem.W.Fast.tw17352551144469484745 : Unit := ()
def PySem.W.Fast.tw17643844454789683394 : Unit := ()
def PySem.W.Fast.tw7787386278740686245 : Unit := ()
def PySem.W.Fast.tw16866630806294543912 : Unit := ()
def PySem.W.Fast.tw120254537153241504 : Unit := ()
def PySem.W.Fast.tw7314532799053842679 : Unit := ()
def PySem.W.Fast.tw10857322284277799534 : Unit := ()
def PySem.W.Fast.tw7981708718825932357 : Unit := ()
def PySem.W.Fast.tw17659309539558369880 : Unit := ()
def PySem.W.Fast.tw2424958726849949393 : Unit := ()
def PySem.W.Fast.tw12694981943713647509 : Unit := ()
def PySem.W.Fast.tw2089740117110480296 : Unit := ()
def PySem.W.Fast.tw11204551395683375799 : Unit := ()
def PySem.W.Fast.tw3957126144211123179 : Unit := ()
def PySem.W.Fast.tw6802889888429774778 : Unit := ()
def PySem.W.Fast.tw16623319349683176097 : Unit := ()
def PySem.W.Fast.tw6856101253242224417 : Unit := ()
def PySem.W.Fast.tw17348613412065320919 : Unit := ()
def PySem.W.Fast.tw559348958212849451 : Unit := ()
def PySem.W.Fast.tw4494063212037469525 : Unit := ()
def PySem.W.Fast.tw4040496455668457571 : Unit := ()
def PySem.W.Fast.tw2862627256962557250 : Unit := ()
def PySem.W.Fast.tw13206444328836347179 : Unit := ()
def PySem.W.Fast.tw4802483975952306516 : Unit := ()
def PySem.W.Fast.tw539509250337158466 : Unit := ()
def PySem.W.Fast.tw1185845317086715559 : Unit := ()
def PySem.W.Fast.tw9360019761778543207 : Unit := ()
def PySem.W.Fast.tw4327298923200888261 : Unit := ()
def PySem.W.Fast.tw1747505221667672013 : Unit := ()
def PySem.W.Fast.tw7875779418510039324 : Unit := ()
def PySem.W.Fast.tw14105410647839606871 : Unit := ()
def PySem.W.Fast.tw5764169074348365300 : Unit := ()
def PySem.W.Fast.tw12107880415452368216 : Unit := ()
def PySem.W.Fast.tw9310937015111787970 : Unit := ()
def PySem.W.Fast.tw16363552354234562485 : Unit := ()
def PySem.W.Fast.tw9797971041694108626 : Unit := ()
def PySem.W.Fast.tw6280317656257017498 : Unit := ()
def PySem.W.Fast.tw4809900593491247909 : Unit := ()
def PySem.W.Fast.tw10657892647298746353 : Unit := ()
def PySem.W.Fast.tw6927904770460859681 : Unit := ()
def PySem.W.Fast.tw17205423721036188168 : Unit := ()
def PySem.W.Fast.tw285195004760384745 : Unit := ()
def PySem.W.Fast.tw14022642239514814068 : Unit := ()
def PySem.W.Fast.tw17722973260600689694 : Unit := ()
def PySem.W.Fast.tw11149805864676685949 : Unit := ()
def PySem.W.Fast.tw16846743342381379588 : Unit := ()
def PySem.W.Fast.tw8347224810651249193 : Unit := ()
def PySem.W.Fast.tw10069987230553405441 : Unit := ()
def PySem.W.Fast.tw13783295473723144155 : Unit := ()
def PySem.W.Fast.tw2750941245892224948 : Unit := ()
def PySem.W.Fast.tw2088270809806754705 : Unit := ()
def PySem.W.Fast.tw13293286879980215904 : Unit := ()
def PySem.W.Fast.tw8785498265361295981 : Unit := ()
def PySem.W.Fast.tw6285276181359469605 : Unit := ()
def PySem.W.Fast.tw10616362469745812654 : Unit := ()
def PySem.W.Fast.tw4288571667594520126 : Unit := ()
def PySem.W.Fast.tw3711300552711590870 : Unit := ()
def PySem.W.Fast.tw15988799673571477453 : Unit := ()
def PySem.W.Fast.tw11449710478997318281 : Unit := ()
def PySem.W.Fast.tw10912844953796800315 : Unit := ()
def PySem.W.Fast.tw707942716996130669 : Unit := ()
def PySem.W.Fast.tw7560280805696221733 : Unit := ()
def PySem.W.Fast.tw12115527333977909281 : Unit := ()
def PySem.W.Fast.tw11570369097000571607 : Unit := ()
def PySem.W.Fast.tw5218500343314313393 : Unit := ()
def PySem.W.Fast.tw12069320168938518446 : Unit := ()
def PySem.W.Fast.tw15516256979148170291 : Unit := ()
def PySem.W.Fast.tw1588011098516097248 : Unit := ()
def PySem.W.Fast.tw11742042907900667350 : Unit := ()
def PySem.W.Fast.tw2131699673454891586 : Unit := ()
def PySem.W.Fast.tw10743872658519671284 : Unit := ()
def PySem.W.Fast.tw17880914642200169395 : Unit := ()
def PySem.W.Fast.tw6252320570422023166 : Unit := ()
def PySem.W.Fast.tw11571051072239882719 : Unit := ()
def PySem.W.Fast.tw10699404784543810525 : Unit := ()
def PySem.W.Fast.tw3904834800961693025 : Unit := ()
def PySem.W.Fast.tw6200788465771681159 : Unit := ()
def PySem.W.Fast.tw15872457590710854353 : Unit := ()
def PySem.W.Fast.tw6410654972594585616 : Unit := ()
def PySem.W.Fast.tw4997544974763035188 : Unit := ()
def PySem.W.Fast.tw5746018259749470757 : Unit := ()
def PySem.W.Fast.tw1370572077478544819 : Unit := ()
def PySem.W.Fast.tw15185918891310294358 : Unit := ()
def PySem.W.Fast.tw12727814141042306291 : Unit := ()
def PySem.W.Fast.tw631169346684682735 : Unit := ()
def PySem.W.Fast.tw485446021144124671 : Unit := ()
def PySem.W.Fast.tw4456228960431705565 : Unit := ()
def PySem.W.Fast.tw17754588013166922905 : Unit := ()
def PySem.W.Fast.tw12017270958148557970 : Unit := ()
def PySem.W.Fast.tw2699088663937003504 : Unit := ()
def PySem.W.Fast.tw17906619299118361426 : Unit := ()
def PySem.W.Fast.tw1559584832125076620 : Unit := ()
def PySem.W.Fast.tw15176951964824501033 : Unit := ()
def PySem.W.Fast.tw15968658772242189327 : Unit := ()
def PySem.W.Fast.tw13596586663513469428 : Unit := ()
def PySem.W.Fast.tw17175333435898773921 : Unit := ()
def PySem.W.Fast.tw10554038076282071555 : Unit := ()
def PySem.W.Fast.tw12982881517386393645 : Unit := ()
def PySem.W.Fast.tw861102824261152592 : Unit := ()
def PySem.W.Fast.tw13348059815855498004 : Unit := ()
def PySem.W.Fast.tw15722151982895119917 : Unit := ()
def PySem.W.Fast.tw1027429075465853513 : Unit := ()
def PySem.W.Fast.tw17341994614337629056 : Unit := ()
def PySem.W.Fast.tw4795999439278771635 : Unit := ()
def PySem.W.Fast.tw12612964024509581040 : Unit := ()
def PySem.W.Fast.tw169648667103117428 : Unit := ()
def PySem.W.Fast.tw3291474282166264226 : Unit := ()
def PySem.W.Fast.tw10430243193009290935 : Unit := ()
def PySem.W.Fast.tw13711121891915783784 : Unit := ()
def PySem.W.Fast.tw1541451836679803129 : Unit := ()
def PySem.W.Fast.tw2274147675925031323 : Unit := ()
def PySem.W.Fast.tw10564011581491922159 : Unit := ()
def PySem.W.Fast.tw7902095399036596304 : Unit := ()
def PySem.W.Fast.tw15985816732447061479 : Unit := ()
def PySem.W.Fast.tw13457743661721547069 : Unit := ()
def PySem.W.Fast.tw5184179571263379506 : Unit := ()
def PySem.W.Fast.tw12510156898239117346 : Unit := ()
def PySem.W.Fast.tw2154204776090649550 : Unit := ()
def PySem.W.Fast.tw7367888783972814718 : Unit := ()
def PySem.W.Fast.tw1703230573563447812 : Unit := ()
def PySem.W.Fast.tw17259795440426734954 : Unit := ()
def PySem.W.Fast.tw15742408356249379694 : Unit := ()
def PySem.W.Fast.tw11852492017535982912 : Unit := ()
def PySem.W.Fast.tw2429879205110229093 : Unit := ()
def PySem.W.Fast.tw6828825547537184122 : Unit := ()
def PySem.W.Fast.tw14564377024663084477 : Unit := ()
def PySem.W.Fast.tw9968636153979970122 : Unit := ()
def PySem.W.Fast.tw10436643069788518605 : Unit := ()
def PySem.W.Fast.tw15968043107751458208 : Unit := ()
def PySem.W.Fast.tw572160850239506161 : Unit := ()
def PySem.W.Fast.tw9863745453021032372 : Unit := ()
def PySem.W.Fast.tw580232439810071624 : Unit := ()
def PySem.W.Fast.tw15808094606490948879 : Unit := ()
def PySem.W.Fast.tw13460290932030039341 : Unit := ()
def PySem.W.Fast.tw9029311101732495596 : Unit := ()
def PySem.W.Fast.tw3882285633462013377 : Unit := ()
def PySem.W.Fast.tw15656370179646223856 : Unit := ()
def PySem.W.Fast.tw6946721964608703176 : Unit := ()
def PySem.W.Fast.tw282040760506223496 : Unit := ()
def PySem.W.Fast.tw10483584880281747648 : Unit := ()
def PySem.W.Fast.tw11629097763400671760 : Unit := ()
def PySem.W.Fast.tw7204609285834166382 : Unit := ()
def PySem.W.Fast.tw11985135869939898551 : Unit := ()
def PySem.W.Fast.tw7108587308676885549 : Unit := ()
def PySem.W.Fast.tw3239096943353282878 : Unit := ()
def PySem.W.Fast.tw2728524014662340376 : Unit := ()
def PySem.W.Fast.tw13077865472587633904 : Unit := ()
def PySem.W.Fast.tw2373706772308409872 : Unit := ()
def PySem.W.Fast.tw14577899454998002117 : Unit := ()
def PySem.W.Fast.tw11881553823009584244 : Unit := ()
def PySem.W.Fast.tw5422584738259400417 : Unit := ()
def PySem.W.Fast.tw14451286007456673964 : Unit := ()
def PySem.W.Fast.tw7545904966978147157 : Unit := ()
def PySem.W.Fast.tw15685371538439122332 : Unit := ()
def PySem.W.Fast.tw13095148375028267648 : Unit := ()
def PySem.W.Fast.tw14315417126015008558 : Unit := ()
def PySem.W.Fast.tw10441457497519901591 : Unit := ()
def PySem.W.Fast.tw16835392566965718081 : Unit := ()
def PySem.W.Fast.tw8712998448798641013 : Unit := ()
def PySem.W.Fast.tw18098005839142957173 : Unit := ()
def PySem.W.Fast.tw7240738477515147765 : Unit := ()
def PySem.W.Fast.tw17586136392166184749 : Unit := ()
def PySem.W.Fast.tw4853281557853095098 : Unit := ()
def PySem.W.Fast.tw4537245808647058787 : Unit := ()
def PySem.W.Fast.tw14746085216258604280 : Unit := ()
def PySem.W.Fast.tw16991970438337143622 : Unit := ()
def PySem.W.Fast.tw7326619933560327032 : Unit := ()
def PySem.W.Fast.tw4036591985143206404 : Unit := ()
def PySem.W.Fast.tw18357012965969021297 : Unit := ()
def PySem.W.Fast.tw11006897961000464482 : Unit := ()
def PySem.W.Fast.tw12688307018839826579 : Unit := ()
def PySem.W.Fast.tw12770476250507686703 : Unit := ()
def PySem.W.Fast.tw4558718193734634398 : Unit := ()
def PySem.W.Fast.tw2860075749688234009 : Unit := ()
def PySem.W.Fast.tw16913115767876885517 : Unit := ()
def PySem.W.Fast.tw910587069204941493 : Unit := ()
def PySem.W.Fast.tw13577455200838914793 : Unit := ()
def PySem.W.Fast.tw15359062832392564164 : Unit := ()
def PySem.W.Fast.tw11191430504082620265 : Unit := ()
def PySem.W.Fast.tw11347048217082088067 : Unit := ()
def PySem.W.Fast.tw9452495820252423365 : Unit := ()
def PySem.W.Fast.tw17206487794076287161 : Unit := ()
def PySem.W.Fast.tw15859316541570092307 : Unit := ()
def PySem.W.Fast.tw17866420999402643632 : Unit := ()
def PySem.W.Fast.tw8517581830798515575 : Unit := ()
def PySem.W.Fast.tw4108417310360534236 : Unit := ()
def PySem.W.Fast.tw17630203669623108224 : Unit := ()
open PySem PySem.W PyProof.Rows
set_option maxRecDepth 100000 in
set_option maxHeartbeats 0 in
theorem PySem.Challenge.cw_thinbook_k41_pieces_of_a_roll_holds : PySem.Challenge.rw_thinbook_k41_pieces_of_a_roll.Holds := by
  w_on; o_law; k_head; (case hw => w_witness2)
  k_fill
  refine TB.walk (l := PySem.Challenge.rw_thinbook_k41_pieces_of_a_roll) rfl rfl rfl (fun w h Y => PySem.W.kIn_of Y) ?F
  case F =>
    intro w mg h KX G
    refine' TB.txt_mk KX G ?aCRoll ?aCRule ?xCGone ?a0 ?l0 ?c0 ?k0 ?a1 ?l1 ?c1 ?k1 ?a2 ?l2 ?c2 ?k2 ?a3 ?l3 ?c3 ?k3 ?a4 ?l4 ?c4 ?k4 ?a5 ?l5 ?c5 ?k5 ?a6 ?l6 ?c6 ?k6 ?a7 ?l7 ?c7 ?k7 ?a8 ?l8 ?c8 ?k8 ?a9 ?l9 ?c9 ?k9 ?a10 ?l10 ?c10 ?k10 ?a11 ?l11 ?c11 ?k11 ?a12 ?l12 ?c12 ?k12 ?a13 ?i13 ?l13 ?c13 ?k13 ?a14 ?i14 ?l14 ?c14 ?k14 ?d14 ?a15 ?i15 ?l15 ?c15 ?k15 ?a16 ?i16 ?l16 ?c16 ?k16 ?a17 ?i17 ?l17 ?c17 ?k17 ?a18 ?i18 ?l18 ?c18 ?k18 ?a19 ?i19 ?l19 ?c19 ?k19 ?a20 ?i20 ?l20 ?c20 ?k20 ?a21 ?l21 ?c21 ?k21 ?a22 ?l22 ?c22 ?k22 ?a23 ?l23 ?c23 ?k23 ?a24 ?l24 ?c24 ?k24 ?a25 ?l25 ?c25 ?k25 ?a26 ?i26 ?l26 ?c26 ?k26 ?d26 ?a27 ?i27 ?l27 ?c27 ?k27 ?a28 ?i28 ?l28 ?c28 ?k28 ?a29 ?l29 ?c29 ?k29 ?a30 ?l30 ?c30 ?k30 ?a31 ?l31 ?c31 ?k31 ?a32 ?l32 ?c32 ?k32 ?a33 ?l33 ?c33 ?k33 ?a34 ?l34 ?c34 ?k34 ?a35 ?l35 ?c35 ?k35 ?a36 ?l36 ?c36 ?k36 ?a37 ?l37 ?c37 ?k37 ?a38 ?l38 ?c38 ?k38 ?a39 ?l39 ?c39 ?k39 ?a40 ?l40 ?c40 ?k40 ?a41 ?l41 ?c41 ?k41 ?a42 ?l42 ?c42 ?k42 ?a43 ?i43 ?xi43 ?xh43 ?xs43 ?xn43 ?l43 ?c43 ?k43 ?pgRoll ?hdRoll ?poRoll ?saRoll ?mkRoll ?kcRoll ?nRoll_kept_rule ?nRoll_kept_day ?nRoll_kept_edges ?nRoll_whole_ones ?nRoll_cell_heaps ?pgRule ?hdRule ?poRule ?saRule ?mkRule ?kcRule ?nRule_kept_steps ?nRule_gone_age ?xCBookError ?xCNoNumber ?xCNoRule ?xCNoAsk ?xEBookError ?xKBookError0 ?xKBookError1 ?xKBookError2 ?xKBookError3 ?xKBookError4 ?xKBookError5 ?xHBookError_BookError ?xIBookError_BookError ?xIBookError_NoNumber ?xIBookError_NoRule ?xIBookError_Gone ?xIBookError_NoAsk ?xVBookError ?xENoNumber ?xKNoNumber0 ?xKNoNumber1 ?xKNoNumber2 ?xKNoNumber3 ?xKNoNumber4 ?xKNoNumber5 ?xHNoNumber_BookError ?xINoNumber_BookError ?xHNoNumber_NoNumber ?xINoNumber_NoNumber ?xINoNumber_NoRule ?xINoNumber_Gone ?xINoNumber_NoAsk ?xVNoNumber ?xENoRule ?xKNoRule0 ?xKNoRule1 ?xKNoRule2 ?xKNoRule3 ?xKNoRule4 ?xKNoRule5 ?xHNoRule_BookError ?xINoRule_BookError ?xINoRule_NoNumber ?xHNoRule_NoRule ?xINoRule_NoRule ?xINoRule_Gone ?xINoRule_NoAsk ?xVNoRule ?xKGone0 ?xKGone1 ?xKGone2 ?xKGone3 ?xKGone4 ?xKGone5 ?xHGone_BookError ?xIGone_BookError ?xIGone_NoNumber ?xIGone_NoRule ?xHGone_Gone ?xIGone_Gone ?xIGone_NoAsk ?xVGone ?xENoAsk ?xKNoAsk0 ?xKNoAsk1 ?xKNoAsk2 ?xKNoAsk3 ?xKNoAsk4 ?xKNoAsk5 ?xHNoAsk_BookError ?xINoAsk_BookError ?xINoAsk_NoNumber ?xINoAsk_NoRule ?xINoAsk_Gone ?xHNoAsk_NoAsk ?xINoAsk_NoAsk ?xVNoAsk ?xBBookError0 ?xBBookError1 ?xBBookError2 ?z_bool ?z_int ?z_isinstance ?z_len ?z_list ?z_max ?z_min ?z_range ?z_sorted ?z_sum ?z_tuple ?z_zip ?y_MOST_STEPS
    (case aCRoll | aCRule | xCGone | a0 | l0 | c0 | k0 | a1 | l1 | c1 | k1 | a2 | l2 | c2 | k2 | a3 | l3 | c3 | k3 | a4 | l4 | c4 | k4 | a5 | l5 | c5 | k5 | a6 | l6 | c6 | k6 | a7 | l7 | c7 | k7 | a8 | l8 | c8 | k8 | a9 | l9 | c9 | k9 | a10 | l10 | c10 | k10 | a11 | l11 | c11 | k11 | a12 | l12 | c12 | k12 | a13 | i13 | l13 | c13 | k13 | a14 | i14 | l14 | c14 | k14 | d14 | a15 | i15 | l15 | c15 | k15 | a16 | i16 | l16 | c16 | k16 | a17 | i17 | l17 | c17 | k17 | a18 | i18 | l18 | c18 | k18 | a19 | i19 | l19 | c19 | k19 | a20 | i20 | l20 | c20 | k20 | a21 | l21 | c21 | k21 | a22 | l22 | c22 | k22 | a23 | l23 | c23 | k23 | a24 | l24 | c24 | k24 | a25 | l25 | c25 | k25 | a26 | i26 | l26 | c26 | k26 | d26 | a27 | i27 | l27 | c27 | k27 | a28 | i28 | l28 | c28 | k28 | a29 | l29 | c29 | k29 | a30 | l30 | c30 | k30 | a31 | l31 | c31 | k31 | a32 | l32 | c32 | k32 | a33 | l33 | c33 | k33 | a34 | l34 | c34 | k34 | a35 | l35 | c35 | k35 | a36 | l36 | c36 | k36 | a37 | l37 | c37 | k37 | a38 | l38 | c38 | k38 | a39 | l39 | c39 | k39 | a40 | l40 | c40 | k40 | a41 | l41 | c41 | k41 | a42 | l42 | c42 | k42 | a43 | i43 | xh43 | xs43 | xn43 | l43 | c43 | k43 | pgRoll | hdRoll | poRoll | saRoll | mkRoll | kcRoll | nRoll_kept_rule | nRoll_kept_day | nRoll_kept_edges | nRoll_whole_ones | nRoll_cell_heaps | pgRule | hdRule | poRule | saRule | mkRule | kcRule | nRule_kept_steps | nRule_gone_age | xCBookError | xCNoNumber | xCNoRule | xCNoAsk | xKBookError0 | xKBookError1 | xKBookError2 | xKBookError3 | xKBookError4 | xHBookError_BookError | xKNoNumber0 | xKNoNumber1 | xKNoNumber2 | xKNoNumber3 | xKNoNumber4 | xHNoNumber_BookError | xHNoNumber_NoNumber | xKNoRule0 | xKNoRule1 | xKNoRule2 | xKNoRule3 | xKNoRule4 | xHNoRule_BookError | xHNoRule_NoRule | xKGone0 | xKGone1 | xKGone2 | xKGone3 | xKGone4 | xHGone_BookError | xHGone_Gone | xKNoAsk0 | xKNoAsk1 | xKNoAsk2 | xKNoAsk3 | xKNoAsk4 | xHNoAsk_BookError | xHNoAsk_NoAsk | z_bool | z_int | z_isinstance | z_len | z_list | z_max | z_min | z_range | z_sorted | z_sum | z_tuple | z_zip | y_MOST_STEPS => k_is)
    (case xi43 | xBBookError0 | xBBookError1 | xBBookError2 => kernel_rfl)
    (case xEBookError | xENoNumber | xENoRule | xENoAsk => k_exc)
    (case xKBookError5 | xKNoNumber5 | xKNoRule5 | xKGone5 | xKNoAsk5 => kts_isx)
    (case xIBookError_BookError | xIBookError_NoNumber | xIBookError_NoRule | xIBookError_Gone | xIBookError_NoAsk | xVBookError | xINoNumber_BookError | xINoNumber_NoNumber | xINoNumber_NoRule | xINoNumber_Gone | xINoNumber_NoAsk | xVNoNumber | xINoRule_BookError | xINoRule_NoNumber | xINoRule_NoRule | xINoRule_Gone | xINoRule_NoAsk | xVNoRule | xIGone_BookError | xIGone_NoNumber | xIGone_NoRule | xIGone_Gone | xIGone_NoAsk | xVGone | xINoAsk_BookError | xINoAsk_NoNumber | xINoAsk_NoRule | xINoAsk_Gone | xINoAsk_NoAsk | xVNoAsk => kit_is)
