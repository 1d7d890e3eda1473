import PyProof.Rows.All
import Wide.All
import OpenK.AllK
import Wide.FinOn
import Lean
import PyProof.EqAt
import PyProof.EqKinds
import PyProof.TupleCall
import PySem.Challenge.RW_thinbook_k71_a_book_aged
abbrev Aa:=@PySem.wpAny_bind
abbrev Ab:=@PySem.Heap.get?_push_of_some
abbrev Ac:=@List.getElem?_eq_getElem
abbrev Ad:=@List.length_map
abbrev Ae:=@PySem.wpAny_pure
abbrev Af:=@List.mem_map
abbrev Ag:=@Nat.le_refl
abbrev Ah:=@if_neg
abbrev Ai:=@List.mem_cons
abbrev Aj:=@List.mem_singleton
abbrev Ak:=@if_pos
abbrev Al:=@PySem.Heap.lt_size
abbrev Am:=@List.getElem?_eq_some_iff
abbrev An:=@List.mem_cons_of_mem
abbrev Ao:=@PySem.Heap.get?_push_size
abbrev Ap:=@List.mem_cons_self
abbrev Aq:=@List.mem_of_getElem?
abbrev As:=@List.not_mem_nil
abbrev Au:=@List.length_take
abbrev Av:=@Nat.ne_of_lt
abbrev Aw:=@List.map_cons
abbrev Ax:=@List.size_toArray
abbrev Ay:=@List.getElem?_map
abbrev Az:=@List.length_append
abbrev AA:=@Bool.false_ne_true
abbrev AB:=@List.length_cons
abbrev AD:=@List.mem_append
abbrev AE:=@of_decide_eq_true
abbrev AF:=@decide_eq_true
abbrev AG:=@List.map_map
abbrev AH:=@Option.some.inj
abbrev AI:=@List.map_append
abbrev AJ:=@Nat.lt_of_lt_of_le
abbrev AK:=@List.mem_append_right
abbrev AL:=@Option.map_eq_some_iff
abbrev AM:=@List.getD_eq_getElem?_getD
abbrev AN:=@Int.emod_lt_of_pos
abbrev AO:=@List.take_length
abbrev AQ:=@Array.getD_eq_getD_getElem?
abbrev AR:=@PySem.W.mg_none_of
abbrev AS:=@List.getElem_of_mem
abbrev AU:=@Int.emod_nonneg
abbrev AV:=@Nat.le_trans
abbrev AW:=@Nat.zero_le
abbrev AX:=@Ne.symm
abbrev AY:=@PySem.wpAny_mono
abbrev AZ:=@List.map_congr_left
abbrev A0:=@Array.length_toList
abbrev A7:=@or_false
abbrev A8:=@Nat.le_of_lt
abbrev Ba:=@decide_eq_false
abbrev Bb:=@PySem.PassesOwn.never
abbrev Bc:=@List.nodup_cons
abbrev Be:=@List.append_nil
abbrev Bf:=@PySem.W.mg_of
abbrev Bg:=@PySem.wpAny_holding
abbrev Bh:=@PySem.sizeLine_eq
abbrev Bk:=@PySem.mem_of_lookup
abbrev Bl:=@PySem.W.kia_one
abbrev Bm:=@PySem.Heap.get?_update_other
abbrev Bn:=@List.getElem?_append_left
abbrev Bo:=@Array.getElem?_eq_getElem
abbrev Bp:=@PySem.wpAny_field
abbrev Bq:=@PySem.Heap.size_push
abbrev Br:=@List.cons_append
abbrev Bt:=@Nat.lt_irrefl
abbrev Bu:=@PySem.wpAny_newObj_type
abbrev Bv:=@List.take_of_length_le
abbrev Bw:=@List.getElem?_append_right
abbrev Bx:=@List.nil_append
abbrev By:=@List.length_singleton
abbrev Bz:=@Nat.le_add_right
abbrev BA:=@PySem.W.looks_findIn
abbrev BC:=@PySem.wpAny_loadPart_at
abbrev BD:=@List.take_add_one
abbrev BE:=@PySem.F.slot_dict_keyiterator_next
abbrev BF:=@PySem.codeAny_mono
abbrev BG:=@PySem.wpAny_call_entry
abbrev BH:=@List.getElem?_eq_none
abbrev BI:=@PySem.Heap.get?_update_self
abbrev BJ:=@List.mem_of_mem_drop
abbrev BK:=@List.getElem?_set_ne
abbrev BL:=@beq_eq_false_iff_ne
abbrev BM:=@List.mem_range
abbrev BN:=@List.length_drop
abbrev BO:=@List.Nodup.length_le_of_subset
abbrev BP:=@PySem.wpAny_typeNameOfWhole_keyiter
abbrev BQ:=@List.pairwise_cons
abbrev BR:=@List.find?_cons
abbrev BS:=@PySem.W.methodCall_KW
abbrev BU:=@Array.getElem?_toList
abbrev BV:=@PySem.wpAny_truthy_bool
abbrev BW:=@PySem.wpAny_pyIter_list
abbrev BX:=@PyProof.Rows.callWith_type1
abbrev BY:=@PySem.wpAny_call
abbrev BZ:=@PySem.codeAny_call_builtin
abbrev B5:=@beq_iff_eq
abbrev Ca:=@PySem.SeqAt.eqv_refl
abbrev Cb:=@PySem.F.excBase_ValueError
abbrev Cc:=@List.mem_of_mem_take
abbrev Cd:=@List.mem_append_left
abbrev Ce:=@Array.getElem?_eq_some_iff
abbrev Cf:=@Int.mul_comm
abbrev Cg:=@PySem.F.called_set
abbrev Ci:=@List.length_zipWith
abbrev Cj:=@PySem.wpAny_typeNameOf_keyiter
abbrev Ck:=@PySem.wpAny_attempt
abbrev Cm:=@List.of_mem_zip
abbrev Cn:=@List.length_nil
abbrev Co:=@PySem.wpAny_setField_rec
abbrev Cp:=@PySem.wpAny_Call_Name_kw
abbrev Cq:=@PySem.tupleKind_room_in1
abbrev Cr:=@PySem.W.callWith_K
abbrev Cs:=@PySem.Obj.data_mapFields
abbrev Ct:=@List.filter_append
abbrev Cu:=@Bool.false_eq_true
abbrev Cv:=@PySem.F.attr_ValueError
abbrev Cw:=@List.length_eq_zero_iff
abbrev Cy:=@List.filter_cons_of_pos
abbrev Cz:=@Int.eq_ofNat_of_zero_le
abbrev CA:=@PySem.wpAny_setField
abbrev CB:=@PySem.wpAny_seqItems
abbrev CC:=@not_false_eq_true
abbrev CD:=@Nat.ne_of_gt
abbrev CF:=@Nat.lt_succ_of_lt
abbrev CG:=@List.pairwise_map
abbrev CH:=@PyProof.Rows.slot_tuple_getitem
abbrev CI:=@Nat.lt_succ_self
abbrev CJ:=@List.lookup_cons
abbrev CK:=@Bool.and_eq_true
abbrev CL:=@Int.dvd_trans
abbrev CM:=@if_false
abbrev CN:=@Nat.le_succ
abbrev CO:=@List.pairwise_append
abbrev CP:=@PySem.Calls.evalArgs_plain
abbrev CQ:=@PySem.wpAny_passesOwn
abbrev CS:=@List.foldl_cons
abbrev CT:=@Bool.eq_iff_iff
abbrev CU:=@PySem.wpAny_isSubtype_exc
abbrev CV:=@PySem.Heap.SameBut.update
abbrev CW:=@Nat.succ.inj
abbrev CY:=@Int.zero_add
abbrev CZ:=@not_or
abbrev C0:=@Nat.lt_of_le_of_lt
abbrev C1:=@List.zip_cons_cons
abbrev C3:=@List.nodup_nil
abbrev C4:=@List.nodup_iff_pairwise_ne
abbrev C5:=@List.pairwise_iff_getElem
abbrev C6:=@List.foldl_append
abbrev C7:=@List.append_assoc
abbrev C8:=@PySem.Heap.get?_push_ne
abbrev C9:=@PySem.wpAny_standAt
abbrev Dc:=@PySem.F.type_list_append
abbrev Dd:=@PySem.F.slot_list_append
abbrev De:=@PySem.wpAny_pyIter_zip
abbrev Df:=@PySem.F.plainAttrs_list
abbrev Dg:=@Option.getD_some
abbrev Dh:=@List.pairwise_singleton
abbrev Di:=@List.getElem_inj
abbrev Dj:=@List.all_eq_true
abbrev Dk:=@PySem.Heap.size_update
abbrev Dl:=@PySem.wpAny_nextOf_list_item
abbrev Dm:=@PySem.W.cellsFrom_some
abbrev Dp:=@List.zipWith_cons_cons
abbrev Dq:=@List.map_nil
abbrev Dr:=@List.getElem?_set_self
abbrev Ds:=@PySem.wpAny_execs_nil
abbrev Dt:=@PySem.codeAny_builtin
abbrev Du:=@PySem.W.kts_cls
abbrev Dv:=@Option.map_some
abbrev Dw:=@PySem.F.slot_zip_next
abbrev Dx:=@PySem.F.slot_dict_get
abbrev Dy:=@PySem.Obj.isFreed_of_fields
abbrev Dz:=@List.take_succ
abbrev DA:=@Int.le_refl
abbrev DB:=@PySem.Heap.get?_none_of_le
abbrev DE:=@PySem.Around.under_plainId
abbrev DF:=@PySem.W.plainGet_of
abbrev DG:=@PySem.W.looks_mroIn
abbrev DH:=@List.filterMap_cons
abbrev DI:=@PySem.wpAny_onRaise
abbrev DJ:=@PySem.wpAny_newList
abbrev DK:=@PyProof.Rows.listUpdate_at
abbrev DL:=@PySem.Code.quiet_builtin
abbrev DM:=@PySem.Calls.spliced_cons
abbrev DN:=@PySem.wpAny_dictEntries
abbrev DO:=@if_true
abbrev DP:=@Option.isSome_map
abbrev DQ:=@List.getElem_take
abbrev DR:=@Int.toNat_natCast
abbrev DS:=@PySem.plainObj_wpAny_Assign_Attribute
abbrev DT:=@PySem.wpAny_isInstance
abbrev DU:=@PyProof.Rows.callWith_builtin1
abbrev DV:=@List.getElem_mem
abbrev DW:=@List.any_eq_true
abbrev DX:=@Int.mul_le_mul_of_nonneg_right
abbrev DY:=@PySem.Heap.IsList.push
abbrev DZ:=@PySem.F.args_dict_keyiterator_next_1
abbrev D0:=@PySem.wpAny_letGo
abbrev D1:=@PyProof.Rows.seqEpoch_at
abbrev D2:=@List.getElem?_replicate_of_lt
abbrev D4:=@Int.mul_one
abbrev D5:=@Int.mul_le_mul_of_nonneg_left
abbrev D6:=@Int.mul_add
abbrev D7:=@PySem.F.entry_dict_keyiterator_next
abbrev D8:=@PySem.wpAny_dictEpoch
abbrev D9:=@PySem.codeAny_of_tree
abbrev Ea:=@Nat.min_eq_left
abbrev Eb:=@List.mem_filter
abbrev Eg:=@PySem.F.typeOf_object_class
abbrev Eh:=@PySem.wpAny_newTuple
abbrev Ei:=@PySem.wpAny_newFunctionEnv_cells
abbrev Ej:=@PyProof.Rows.size_push'
abbrev Ek:=@List.perm_ext_iff_of_nodup
abbrev El:=@List.Perm.refl
abbrev Em:=@Int.mul_le_mul
abbrev En:=@Int.fdiv_eq_ediv_of_nonneg
abbrev Eo:=@PySem.Calls.Name_function_global
abbrev Ep:=@Array.size_map
abbrev Er:=@PySem.wpAny_letOwnedTupleGo_zip
abbrev Es:=@List.getLast?_eq_getElem?
abbrev Et:=@List.getElem?_zip_eq_some
abbrev Eu:=@PySem.Calls.call_function_entry
abbrev Ew:=@PySem.wpAny_comprehension_free
abbrev Ey:=@PySem.nums_intItems
abbrev Ez:=@PySem.F.args_tuple_add_2
abbrev EA:=@PySem.Paired.length
abbrev EC:=@Option.isSome_iff_exists
abbrev ED:=@List.map_take
abbrev EE:=@List.getElem?_take_of_lt
abbrev EF:=@List.any_cons
abbrev EG:=@PySem.F.entry_tuple_add
abbrev EH:=@PySem.F.args_dict_get_3
abbrev EI:=@List.pairwise_mergeSort
abbrev EJ:=@List.getElem?_replicate
abbrev EL:=@PySem.wpAny_typeOf
abbrev EM:=@PyProof.Rows.subscriptTail_builtinR
abbrev EN:=@PySem.F.slot_tuple_add
abbrev EO:=@PySem.F.plainAttrs_str
abbrev ER:=@PySem.F.entry_dict_get
abbrev ES:=@Nat.lt_trans
abbrev ET:=@List.drop_eq_nil_of_le
abbrev EU:=@PySem.Calls.callWith_builtin
abbrev EW:=@Bool.or_true
abbrev EX:=@PySem.wpAny_isTrue_Compare1
abbrev EY:=@PySem.wpAny_isOneOf_keyiter
abbrev EZ:=@PySem.codeAny_call_function
abbrev E3:=@PySem.F.type_str_join
abbrev E4:=@PySem.F.slot_str_join
abbrev E5:=@PySem.F.entry_bexc_ga
abbrev E6:=@List.take_append_drop
abbrev E7:=@List.subset_cons_self
abbrev E8:=@List.length_replicate
abbrev E9:=@List.length_filter_le
abbrev Fb:=@List.getElem?_zipWith
abbrev Fc:=@Int.emod_add_mul_ediv
abbrev Fd:=@Int.ediv_lt_of_lt_mul
abbrev Fe:=@PySem.numAt_eq
abbrev Ff:=@PySem.W.kas_item_eq
abbrev Fg:=@PyProof.Rows.join_one
abbrev Fh:=@and_true
abbrev Fi:=@PySem.F.args_bexc_ga
abbrev Fj:=@Prod.mk.inj
abbrev Fl:=@List.map_id
abbrev Fm:=@List.getElem?_append
abbrev Fn:=@PySem.F.args_list_append_2
abbrev Fo:=@PySem.Around.frames_deeper
set_option Elab.async false
set_option linter.all false
set_option maxRecDepth 100000
open PySem.W (Frag nsIn fnOf codeIn keepIn mg_of)
namespace L2
open PySem PySem.Spec PyProof.Rows
abbrev Key:=Sum Int Str
def qon:Key->Value->Bool
 | .inl k,v=>Value.isInt k v
 | .inr x,v=>Value.isStrOf x v
def qCb (w:World):Key->Int
 | .inl k=>hashInt k
 | .inr x=>hashStr w x
theorem qbo:∀ {k:Key} {v:Value},qon k v=true->(∃ i t,k=Sum.inl i/\v=Value.int i t)\/(∃ x t,k=Sum.inr x/\v=Value.str x t)
 | .inl i,v,h=>by
  obtain ⟨t,e⟩:=Value.isInt_shape (k:=i) (v:=v) h;exact .inl ⟨i,t,rfl,e⟩
 | .inr x,v,h=>by
  obtain ⟨t,e⟩:=Value.isStrOf_shape (x:=x) (v:=v) h;exact .inr ⟨x,t,rfl,e⟩
theorem qpu (i:Int) (t:Tok):qon (.inl i) (.int i t)=true:=by simp[qon,Value.isInt]
theorem qpv (x:Str) (t:Tok):qon (.inr x) (.str x t)=true:=by simp[qon,Value.isStrOf]
theorem qxx (a b:Int):decide ((Sum.inl a:Key)=Sum.inl b)=(a == b):=by
 by_cases e:a=b
 ·subst e;simp
 ·have h:¬ (Sum.inl a:Key)=Sum.inl b:=λq=>e (Sum.inl.inj q)
  rw[Ba h];exact (BL.mpr e).symm
theorem qxy (a b:Str):decide ((Sum.inr a:Key)=Sum.inr b)=decide (a=b):=by
 by_cases e:a=b
 ·subst e;simp
 ·have h:¬ (Sum.inr a:Key)=Sum.inr b:=λq=>e (Sum.inr.inj q)
  rw[Ba h,Ba e]
theorem qxz (a:Int) (b:Str):decide ((Sum.inl a:Key)=Sum.inr b)=false:=Ba (λq=>nomatch q)
theorem qx0 (a:Str) (b:Int):decide ((Sum.inr a:Key)=Sum.inl b)=false:=Ba (λq=>nomatch q)
def qcd (prog:Program) (w:World):PySem.KeyKind prog w Key where
 is:=qon
 hash:=qCb w
 inj:=λv a b ha hb=>by
  rcases qbo ha with ⟨i,t,rfl,rfl⟩|⟨x,t,rfl,rfl⟩
  ·rcases qbo hb with ⟨j,u,rfl,e⟩|⟨y,u,rfl,e⟩
   ·injection e with e1 _;rw[e1]
   ·exact nomatch e
  ·rcases qbo hb with ⟨j,u,rfl,e⟩|⟨y,u,rfl,e⟩
   ·exact nomatch e
   ·injection e with e1 _;rw[e1]
 byValue:=λk v h=>by
  rcases qbo h with ⟨i,t,rfl,rfl⟩|⟨x,t,rfl,rfl⟩<;>rfl
 pyHash:=λhv h=>by
  rcases qbo hv with ⟨i,t,rfl,rfl⟩|⟨x,t,rfl,rfl⟩
  ·exact wpAny_pyHash_int h
  ·exact wpAny_pyHash_str h
 eqBool:=λhu hv h=>by
  rcases qbo hu with ⟨i,t,rfl,rfl⟩|⟨x,t,rfl,rfl⟩
  ·rcases qbo hv with ⟨j,u,rfl,rfl⟩|⟨y,u,rfl,rfl⟩
   ·rw[qxx] at h;exact wpAny_eqBool_int h
   ·rw[qxz] at h;exact SeqAt.EqAt.int_str i t y u _ _ _ _ h
  ·rcases qbo hv with ⟨j,u,rfl,rfl⟩|⟨y,u,rfl,rfl⟩
   ·rw[qx0] at h;exact SeqAt.EqAt.str_int x t j u _ _ _ _ h
   ·rw[qxy] at h;exact wpAny_eqBool_str h
 «strs» :=λk x t v h=>by
  rcases qbo h with ⟨i,u,rfl,e⟩|⟨y,u,rfl,e⟩
  ·exact nomatch e
  ·injection e with e1 _
   subst e1
   cases v<;>rfl
theorem qme (prog:Program) (w:World) (i:Int) (t:Tok):(qcd prog w).is (.inl i) (.int i t)=true:=qpu i t
theorem qmf (prog:Program) (w:World) (x:Str) (t:Tok):(qcd prog w).is (.inr x) (.str x t)=true:=qpv x t
open PySem PySem.Spec PyProof.Rows
inductive V where
 | non|bl (b:Bool)|int (i:Int)|str (x:Str)|byt (b:Array UInt8)|flt (b:UInt64)|ref (a:Addr)|ty (n:String)
 deriving DecidableEq
def RelV:V->Value->Prop
 | .non,u=>u=Value.none
 | .bl b,u=>u=Value.bool b
 | .int i,u=>∃ t,u=Value.int i t
 | .str x,u=>∃ t,u=Value.str x t
 | .byt b,u=>∃ t,u=Value.bytes b t
 | .flt b,u=>∃ t,u=Value.float b t
 | .ref a,u=>u=Value.ref a
 | .ty n,u=>u=Value.type n
abbrev Vals:List V->List Value->Prop:=Paired RelV
theorem Vals.length {xs:List V} {us:List Value} (r:Vals xs us):xs.length=us.length:=EA r
theorem Vals.get:∀ {xs:List V} {us:List Value} {i:Nat} {x:V},Vals xs us->xs[i]?=some x->∃ u,us[i]?=some u/\RelV x u
 | _,_,_,_,.nil,e=>by simp at e
 | _,_,0,_,.cons r _,e=>by simp at e;subst e;exact ⟨_,rfl,r⟩
 | _,_,i+1,x,.cons _ t,e=>by
  obtain ⟨u,h1,h2⟩:=Vals.get (i:=i) (x:=x) t (by simpa using e);exact ⟨u,by simpa using h1,h2⟩
theorem Vals.append:∀ {xs ys:List V} {us ws:List Value},Vals xs us->Vals ys ws->Vals (xs ++ ys) (us ++ ws)
 | _,_,_,_,.nil,s=>s
 | _,_,_,_,.cons r t,s=>.cons r (Vals.append t s)
theorem Vals.take:∀ {xs:List V} {us:List Value} (n:Nat),Vals xs us->Vals (xs.take n) (us.take n)
 | _,_,0,_=>.nil
 | _,_,_+1,.nil=>.nil
 | _,_,n+1,.cons r t=>.cons r (Vals.take n t)
theorem Vals.drop:∀ {xs:List V} {us:List Value} (n:Nat),Vals xs us->Vals (xs.drop n) (us.drop n)
 | _,_,0,r=>r
 | _,_,_+1,.nil=>.nil
 | _,_,n+1,.cons _ t=>Vals.drop n t
def RelO:Option V->Option Value->Prop
 | some v,some u=>RelV v u
 | none,none=>True
 | _,_=>False
def KV {κ:Type}:List (κ×V)->List (κ×Value)->Prop:=Paired fun (p:κ×V) (q:κ×Value)=>p.1=q.1/\RelV p.2 q.2
def kV:Key->V
 | .inl i=>.int i
 | .inr x=>.str x
inductive HO where
 | lst (xs:List V)
 | tup (xs:List V)
 | dK (kvs:List (Key×V))|dT (kvs:List (List Key×V))
 | set (S:Int->Bool) (n:Nat)
 | ins (C dx:Addr) (fs:List (Str×V))
 | own (x:Addr)
 | xd (fs:List (Str×V))
 | met (f x:Addr)
 | rng (lo hi:Int)
 | frz (o:Obj) (u:HO)
 | tbl (ps:Array Value)
 | ext (φ:Heap->Prop)
abbrev Hp:=Addr->Option HO
def upd (H:Hp) (a:Addr) (o:HO):Hp:=λb=>if b=a then some o else H b
theorem qbh {H:Hp} {a:Addr} {o:HO}:upd H a o a=some o:=by unfold upd;rw[Ak rfl]
theorem qa1 {H:Hp} {a b:Addr} {o:HO} (h:b≠a):upd H a o b=H b:=by unfold upd;rw[Ah h]
theorem qa0 {H:Hp} {a b:Addr} {o u:HO} (h:H a=some o) (h':H b=some u) (d:o≠u):a≠b:=by
 intro e;subst e;rw[h] at h';exact d (AH h')
theorem qag {H:Hp} {a b:Addr} {o:HO} (h:H a=some o) (h':H b=none):a≠b:=by
 intro e;subst e;rw[h] at h';cases h'
section
variable (P:Program) (w:World)
def ObjOk (H:Hp) (h:Heap) (a:Addr):HO->Prop
 | .lst xs=>xs.length<=sizeLine/\∃ (its:List Value) (n:Nat),Vals xs its/\h.get? a=some { cls:=.type "list",data:=.seq its.toArray n }
 | .tup xs=>xs.length<=sizeLine/\∃ its:List Value,Vals xs its/\IsTup h a its.toArray
 | .dK kvs=>kvs.length<=sizeLine/\(a == sysModules)=false/\∃ vs,KV kvs vs/\h.DictOf (qcd P w) a vs
 | .dT kvs=>kvs.length<=sizeLine/\(a == sysModules)=false/\∃ xs:List (List Key×Addr×Value),
   Paired (fun (p:List Key×V) (q:List Key×Addr×Value)=>p.1=q.1/\H q.2.1=some (.tup (p.1.map kV))/\RelV p.2 q.2.2) kvs xs /\
   ∃ o es ep,h.get? a=some o/\o.ExactDict/\o.data=.dict es ep/\es.toList=xs.map (entryOfKey (tupleKind (qcd P w)))/\(xs.map (·.1)).Nodup
 | .set S n=>h.SetOf (intKind P w) a S n
 | .ins C dx fs=>H dx=some (.own a)/\fs.length<=1000/\dx≠a/\h.get? a=some (PySem.W.instObj C dx) /\
   ∃ mA,h.Ns1 dx mA/\(∀ f,RelO (fs.lookup f) (mA f))/\PySem.Within mA (fs.map (·.1))
 | .own _=>∃ o,h.get? a=some o
 | .xd fs=>∃ mA,h.Ns1 a mA/\∀ f,RelO (fs.lookup f) (mA f)
 | .rng lo hi=>∃ t u v,h.get? a=some { cls:=.type "range",data:=.fields #[.int lo t,.int hi u,.int 1 v] }
 | .frz o u=>h.get? a=some o/\ObjOk H h a u
 | .tbl ps=>h.get? a=some { cls:=.none,data:=.fields ps }
 | .met f x=>h.get? a=some (PySem.W.methodObj (.ref f) (.ref x))
 | .ext φ=>φ h/\(∃ o,h.get? a=some o)/\∀ h1 h2:Heap,φ h1->(∀ o,h1.get? a=some o->h2.get? a=some o)->φ h2
def HOk (H:Hp) (h:Heap):Prop:=∀ a o,H a=some o->ObjOk P w H h a o
end
section
variable {P:Program} {w:World} {H H':Hp} {h h':Heap} {a:Addr} {o:HO}
theorem ObjOk.lt (x:ObjOk P w H h a o):a<h.objs.size:=by
 cases o with
 | lst xs=>obtain ⟨_,_,_,_,e⟩:=x;exact Al e
 | tup xs=>obtain ⟨_,_,_,p⟩:=x;exact p.lt
 | dK kvs=>obtain ⟨_,_,_,_,o,_,_,e,_⟩:=x;exact Al e
 | dT kvs=>obtain ⟨_,_,_,_,o,_,_,e,_⟩:=x;exact Al e
 | set S n=>obtain ⟨o,_,_,_,e,_⟩:=x;exact Al e
 | ins C dx fs=>obtain ⟨_,_,_,e,_⟩:=x;exact Al e
 | own y=>obtain ⟨_,e⟩:=x;exact Al e
 | xd fs=>obtain ⟨_,⟨_,_,_,e,_⟩,_⟩:=x;exact Al e
 | rng lo hi=>obtain ⟨_,_,_,e⟩:=x;exact Al e
 | frz ob u=>obtain ⟨e,_⟩:=x;exact Al e
 | tbl ps=>exact Al (show h.get? a=some _ from x)
 | met f y=>exact Al (show h.get? a=some _ from x)
 | ext φ=>obtain ⟨_,⟨_,e⟩,_⟩:=x;exact Al e
theorem Paired.mapP {α β:Type} {F G:α->β->Prop}:∀ {l₁:List α} {l₂:List β},Paired F l₁ l₂->(∀ a b,F a b->G a b)->Paired G l₁ l₂
 | _,_,.nil,_=>.nil
 | _,_,.cons r t,f=>.cons (f _ _ r) (Paired.mapP t f)
theorem ObjOk.stay (x:ObjOk P w H h a o) (k:∀ b u,(b=a\/H b=some (.own a))->h.get? b=some u->h'.get? b=some u)
  (ho:∀ b,H b=some (.own a)->H' b=some (.own a)) (ht:∀ b xs,H b=some (.tup xs)->H' b=some (.tup xs)):ObjOk P w H' h' a o:=by
 induction o with
 | lst xs=>obtain ⟨z,its,n,r,e⟩:=x;exact ⟨z,its,n,r,k _ _ (.inl rfl) e⟩
 | tup xs=>obtain ⟨z,its,r,ob,e,c⟩:=x;exact ⟨z,its,r,ob,k _ _ (.inl rfl) e,c⟩
 | dK kvs=>obtain ⟨z,y,vs,r,ob,es,ep,e,c⟩:=x;exact ⟨z,y,vs,r,ob,es,ep,k _ _ (.inl rfl) e,c⟩
 | dT kvs =>
  obtain ⟨z,y,xs,r,ob,es,ep,e,c⟩:=x;exact ⟨z,y,xs,Paired.mapP r λp q z=>⟨z.1,ht _ _ z.2.1,z.2.2⟩,ob,es,ep,k _ _ (.inl rfl) e,c⟩
 | set S n=>obtain ⟨ob,es,ep,t,e,c⟩:=x;exact ⟨ob,es,ep,t,k _ _ (.inl rfl) e,c⟩
 | ins C dx fs =>
  obtain ⟨d,z,ne,e,mA,⟨od,es,ep,e2,c⟩,r⟩:=x;exact ⟨ho _ d,z,ne,k _ _ (.inl rfl) e,mA,⟨od,es,ep,k _ _ (.inr d) e2,c⟩,r⟩
 | own y=>obtain ⟨ob,e⟩:=x;exact ⟨ob,k _ _ (.inl rfl) e⟩
 | xd fs=>obtain ⟨mA,⟨od,es,ep,e,c⟩,r⟩:=x;exact ⟨mA,⟨od,es,ep,k _ _ (.inl rfl) e,c⟩,r⟩
 | rng lo hi=>obtain ⟨t,u,v,e⟩:=x;exact ⟨t,u,v,k _ _ (.inl rfl) e⟩
 | frz ob u ih=>obtain ⟨e,q⟩:=x;exact ⟨k _ _ (.inl rfl) e,ih q⟩
 | tbl ps =>
  have e:h.get? a=some { cls:=.none,data:=.fields ps }:=x
  show h'.get? a=some { cls:=.none,data:=.fields ps }
  exact k a _ (.inl rfl) e
 | met f y =>
  have e:h.get? a=some (PySem.W.methodObj (.ref f) (.ref y)):=x
  show h'.get? a=some (PySem.W.methodObj (.ref f) (.ref y))
  exact k a _ (.inl rfl) e
 | ext φ=>obtain ⟨p,⟨o,e⟩,st⟩:=x;exact ⟨st _ _ p λo q=>k _ _ (.inl rfl) q,⟨o,k _ _ (.inl rfl) e⟩,st⟩
theorem HOk.lt (x:HOk P w H h) (e:H a=some o):a<h.objs.size:=(x a o e).lt
theorem HOk.fresh (x:HOk P w H h) (e:h.objs.size<=a):H a=none:=by
 cases q:H a with
 | none=>rfl
 | some u=>exact absurd (AJ (x.lt q) e) (Bt _)
theorem HOk.kept (x:HOk P w H h) (k:∀ b u,h.get? b=some u->h'.get? b=some u):HOk P w H h':=λa o e =>
 (x a o e).stay (λb u _ q=>k b u q) (λ_ q=>q) λ_ _ q=>q
theorem HOk.laid (x:HOk P w H h) (k:∀ b u,h.get? b=some u->h'.get? b=some u) (hp:h.objs.size<=a) (new:ObjOk P w (upd H a o) h' a o):HOk P w (upd H a o) h':=λb u e=>by
 have hn:=x.fresh hp
 by_cases hb:b=a
 ·subst hb;rw[qbh] at e;cases e;exact new
 ·rw[qa1 hb] at e
  exact (x b u e).stay (λc v _ q=>k c v q) (λc q=>by rw[qa1 (qag q hn)];exact q) λc xs q=>by rw[qa1 (qag q hn)];exact q
end
def Rd (H:Hp) (a:Addr) (u:HO):Prop:=H a=some u\/∃ o,H a=some (.frz o u)
theorem Rd.ok {P:Program} {w:World} {H:Hp} {h:Heap} {a:Addr} {u:HO} (r:Rd H a u) (x:HOk P w H h):ObjOk P w H h a u:=by
 rcases r with r|⟨o,r⟩
 ·exact x a u r
 ·obtain ⟨_,q⟩:=x a _ r
  exact q
def Mut:Option HO->Prop
 | some (.lst _)=>True
 | some (.dK _)=>True
 | some (.dT _)=>True
 | some (.set _ _)=>True
 | some (.ins _ _ _)=>True
 | some (.ext _)=>True
 | _=>False
section
variable {P:Program} {w:World} {H:Hp} {h h':Heap} {x e:Addr} {o':HO}
theorem HOk.write (ok:HOk P w H h) (mu:Mut (H x)) (he:e=x\/H e=some (.own x)) (k:∀ b u,b≠e->h.get? b=some u->h'.get? b=some u) (heo:∃ u,h'.get? e=some u)
  (new:ObjOk P w (upd H x o') h' x o'):HOk P w (upd H x o') h':=λb u q=>by
 have nown:∀ c y,H c=some (.own y)->c≠x:=λc y r z=>by subst z;rw[r] at mu;exact mu
 have ntup:∀ c xs,H c=some (.tup xs)->c≠x:=λc xs r z=>by subst z;rw[r] at mu;exact mu
 by_cases hb:b=x
 ·subst hb;rw[qbh] at q;cases q;exact new
 ·rw[qa1 hb] at q
  by_cases hbe:b=e
  ·have q':H b=some (.own x):=by
    rcases he with z|z
    ·exact absurd (hbe.trans z) hb
    ·rw[hbe];exact z
   rw[q] at q';cases q';obtain ⟨v,hv⟩:=heo;exact ⟨v,by rw[hbe];exact hv⟩
  ·refine (ok b u q).stay (λc v hc r=>k c v ?_ r) (λc r=>by rw[qa1 (nown c b r)];exact r) λc xs r=>by rw[qa1 (ntup c xs r)];exact r
   rcases hc with rfl|hc
   ·exact hbe
   ·rintro rfl
    rcases he with z|z
    ·exact nown c b hc z
    ·rw[hc] at z;cases z;exact hb rfl
end
structure Un (fs ex:List Addr) (H H':Hp) (h h':Heap):Prop where
 keep:∀ b o,h.get? b=some o->H b=none->b ∉ fs->b ∉ ex->h'.get? b=some o
 slot:∀ b o,h.get? b=some o->H b=none->b∈fs->b ∉ ex->∃ sl,h'.get? b=some { o with slots:=sl }
 free:∀ b o,h.get? b=some o->H b=none->b ∉ ex->H' b=none
 there:∀ b o,h.get? b=some o->b ∉ ex->∃ o',h'.get? b=some o'
 tups:∀ b xs,H b=some (.tup xs)->H' b=some (.tup xs)
 frzs:∀ b o u,H b=some (.frz o u)->H' b=some (.frz o u)
 tbls:∀ b ps,H b=some (.tbl ps)->∃ more,H' b=some (.tbl (ps ++ more))
section
variable {fs fs' ex ex':List Addr} {H H1 H2:Hp} {h h1 h2 h':Heap} {a x e:Addr} {o:HO}
theorem Un.any (u:Un fs ex H H1 h h1) {b:Addr} {ob:Obj} (q:h.get? b=some ob) (n:H b=none) (hx:b ∉ ex):∃ sl,h1.get? b=some { ob with slots:=sl }:=by
 by_cases hb:b∈fs
 ·exact u.slot b ob q n hb hx
 ·exact ⟨ob.slots,u.keep b ob q n hb hx⟩
theorem Un.kept (k:∀ b u,h.get? b=some u->h'.get? b=some u):Un fs ex H H h h':=
 ⟨λb ob q _ _ _=>k b ob q,λb ob q _ _ _=>⟨ob.slots,k b ob q⟩,λ_ _ _ n _=>n,λb ob q _=>⟨ob,k b ob q⟩,λ_ _ q=>q,λ_ _ _ q=>q,λ_ ps q=>⟨#[],by rw[q];simp⟩⟩
theorem Un.refl:Un fs ex H H h h:=Un.kept λ_ _ q=>q
theorem Un.laid (k:∀ b u,h.get? b=some u->h'.get? b=some u) (hp:h.objs.size<=a) (hn:H a=none):Un fs ex H (upd H a o) h h' where
 keep:=λb u q _ _ _=>k b u q
 slot:=λb u q _ _ _=>⟨u.slots,k b u q⟩
 free:=λb u q n _=>by rw[qa1 (Av (AJ (Al q) hp))];exact n
 there:=λb u q _=>⟨u,k b u q⟩
 tups:=λb xs q=>by rw[qa1 (qag q hn)];exact q
 frzs:=λb u xs q=>by rw[qa1 (qag q hn)];exact q
 tbls:=λb ps q=>⟨#[],by rw[qa1 (qag q hn),q];simp⟩
theorem Un.write (mu:Mut (H x)) (he:e=x\/H e=some (.own x)) (k:∀ b u,b≠e->h.get? b=some u->h'.get? b=some u) (heo:∃ u,h'.get? e=some u):Un fs ex H (upd H x o) h h':=by
 have hx:∀ b,H b=none->b≠x:=λb n z=>by subst z;rw[n] at mu;exact mu
 have hb:∀ b,H b=none->b≠e:=λb n z=>by
  subst z
  rcases he with r|r
  ·exact hx b n r
  ·rw[n] at r;cases r
 have hm:∀ b u,H b=some u->¬ Mut (some u)->b≠x:=λb u q nm z=>by subst z;rw[q] at mu;exact nm mu
 refine ⟨λb u q n _ _=>k b u (hb b n) q,λb u q n _ _=>⟨u.slots,k b u (hb b n) q⟩,λb u q n _=>by rw[qa1 (hx b n)];exact n,λb u q _=>?_,
  λb xs q=>by rw[qa1 (hm b _ q λz=>z)];exact q,λb u xs q=>by rw[qa1 (hm b _ q λz=>z)];exact q,λb ps q=>⟨#[],by rw[qa1 (hm b _ q λz=>z),q];simp⟩⟩
 by_cases hbe:b=e
 ·subst hbe;exact heo
 ·exact ⟨u,k b u hbe q⟩
end
def trk (h:Heap) (H:Hp):List Addr:=(List.range h.objs.size).filter λa=>(H a).isSome
def qst (h:Heap) (H:Hp):Heap:=PySem.W.hideAll h (trk h H)
theorem qpw (h:Heap) (H:Hp):(qst h H).objs.size=h.objs.size:=PySem.W.hideAll_size _ _
theorem qsu {h:Heap} {H:Hp} {b:Addr} {o:Obj} (e:h.get? b=some o) (n:H b=none):(qst h H).get? b=some o:=
 PySem.W.hideAll_get _ e λhm=>by
  have q:(H b).isSome=true:=(Eb.mp hm).2;rw[n] at q;simp at q
theorem qvd {h:Heap} {H:Hp} {b:Addr} {o:Obj} (e:(qst h H).get? b=some o):h.get? b=some o/\H b=none:=by
 have e':h.get? b=some o:=PySem.W.of_hideAll (trk h H) e;refine ⟨e',?_⟩
 cases q:H b with
 | none=>rfl
 | some x =>
  have hm:b∈trk h H:=Eb.mpr ⟨BM.mpr (Al e'),by simp[q]⟩;have z:(qst h H).get? b=none:=PySem.W.hideAll_none (trk h H) hm;rw[z] at e;cases e
def qve (g h:Heap) (L:Addr):List (Addr×Obj):=(List.range h.objs.size).filterMap λa=>if a=L\/(g.get? a).isSome=true then none else (h.get? a).map λo=>(a,o)
def rest (g h:Heap) (L d:Addr):List (Addr×Obj):=(qve g h L).filter λp=>decide (p.1≠d)
open PySem PySem.Spec PyProof.Rows
structure Mod (K:Frag) (mg:Str->Option Value) (base:Heap):Prop where
 kin:K.In base
 glob:base.Ns mainGlobals mg
 blt:∃ mb,base.Ns builtinsNs mb/\∀ x:Str,x ≠ "__name__" -> mb x=bootBuiltins x
 nolimit:base.NoLimit
 nodig:base.NoDigits
structure Cx where
 prog:Program
 w:World
 K:Frag
 mg:Str->Option Value
 base:Heap
 A:Around
 N:List Str
 s₀:Shared
 H₀:Hp
 env:Env
 outer:List Env
 stack:List Env
 ex:List Addr
 fn:Str->Bool
 calm:Bool
 pn:List (Addr×Obj)
 xe:Value->Shared->Prop
def frs (l:List Env):List Addr:=l.filterMap (·.frame)
abbrev Cx.fs (X:Cx):List Addr:=frs X.outer
def Vis (sc:Scope) (x:Str):Prop:=sc.names.lookup x=some .local\/sc.names.lookup x=some .cell\/sc.names.lookup x=some .free
def Loc (sc:Scope) (x:Str):Prop:=sc.names.lookup x=some .local\/sc.names.lookup x=some .cell
def Look (env:Env) (h:Heap) (m:Str->Option Value) (x:Str) (u:Value):Prop:=
 (env.kindOf x=some .local/\m x=some u)\/((env.kindOf x=some .cell\/env.kindOf x=some .free)/\∃ c,env.cells.lookup x=some c/\h.IsCell c (some u))
structure Cx.Ok (X:Cx):Prop where
 mod:Mod X.K X.mg X.base
 kind:X.env.scope.kind=.function
 glob:X.env.globals=mainGlobals
 blt:X.env.builtins=builtinsNs
 above:X.s₀.heap.objs.size<=X.env.locals
 inj:∀ x y c,X.env.cells.lookup x=some c->X.env.cells.lookup y=some c->x=y
 has:∀ x,(X.env.kindOf x=some .cell\/X.env.kindOf x=some .free)->∃ c,X.env.cells.lookup x=some c
 cab:∀ x c,X.fn x=true->X.env.cells.lookup x=some c->X.s₀.heap.objs.size<=c
 hd:X.calm=true->X.A.handled=none
 frames:X.A.frames=some X.stack
 stk:X.stack=X.outer\/(X.stack=X.env :: X.outer/\X.env.frame=some X.env.locals)
 exf:∀ b∈X.ex,b≠X.env.locals/\∀ x c,X.env.cells.lookup x=some c->c≠b
 bs:∀ b o,X.base.get? b=some o->X.s₀.heap.get? b=some o/\X.H₀ b=none
 bsz:X.base.objs.size<=X.s₀.heap.objs.size
 noex:∀ b o,X.base.get? b=some o->b ∉ X.ex
 exfs:∀ b∈X.ex,b ∉ X.fs
 funs:X.s₀.heap.FunFrames X.base X.outer
 frf:∀ b∈X.fs,X.H₀ b=none
structure Inv (X:Cx) (pins:List (Addr×Obj)) (σ:List (Option V)) (H:Hp) (s:Shared):Prop where
 ok:X.Ok
 os:s.os=X.s₀.os
 bare:AllBare s.gens
 base:Un X.fs X.ex X.H₀ H X.s₀.heap s.heap
 loc:∃ m,s.heap.Ns X.env.locals m/\∀ (i:Nat) (x:Str) (v:V),X.N[i]?=some x->σ[i]?=some (some v)->Vis X.env.scope x->∃ u,RelV v u/\Look X.env s.heap m x u
 cell:∀ x c,X.env.cells.lookup x=some c->∃ v,s.heap.IsCell c v
 free:H X.env.locals=none
 freeC:∀ x c,X.env.cells.lookup x=some c->H c=none
 pin:∀ p∈X.pn ++ pins,s.heap.get? p.1=some p.2/\H p.1=none/\p.1≠X.env.locals/\p.1 ∉ X.fs/\∀ v,p.2.data≠.cell v
 hok:HOk X.prog X.w H s.heap
 len:σ.length=X.N.length
section
variable {X:Cx} {pins:List (Addr×Obj)} {σ:List (Option V)} {H H':Hp} {s:Shared} {h':Heap}
theorem Cx.Ok.nofr (ok:X.Ok) {b:Addr} {o:Obj} (e:X.base.get? b=some o):b ∉ X.fs:=λhb=>by
 have:=(ok.funs.mem hb).1;rw[e] at this;cases this
theorem Inv.bs (I:Inv X pins σ H s):∀ b o,X.base.get? b=some o->s.heap.get? b=some o/\H b=none:=λb o e =>
 ⟨I.base.keep b o (I.ok.bs b o e).1 (I.ok.bs b o e).2 (I.ok.nofr e) (I.ok.noex b o e),I.base.free b o (I.ok.bs b o e).1 (I.ok.bs b o e).2 (I.ok.noex b o e)⟩
theorem Inv.bk (I:Inv X pins σ H s):∀ b o,X.base.get? b=some o->s.heap.get? b=some o:=λb o e=>(I.bs b o e).1
theorem Inv.mod (I:Inv X pins σ H s):Mod X.K X.mg X.base:=I.ok.mod
theorem Inv.kIn (I:Inv X pins σ H s):X.K.In s.heap:=I.ok.mod.kin.keeps I.bk
theorem Inv.lt (I:Inv X pins σ H s):X.env.locals<s.heap.objs.size:=let ⟨_,hn,_⟩:=I.loc;hn.lt
theorem Inv.sz (I:Inv X pins σ H s):X.s₀.heap.objs.size<=s.heap.objs.size:=AV I.ok.above (A8 I.lt)
theorem Inv.nofs (I:Inv X pins σ H s) {a:Addr} (h:s.heap.objs.size<=a):a ∉ X.fs:=λhb=>by
 obtain ⟨_,o,ho,_⟩:=I.ok.funs.mem hb;exact absurd (AJ (Al ho) (AV I.sz h)) (Bt _)
theorem Inv.cne (I:Inv X pins σ H s):∀ x c,X.env.cells.lookup x=some c->c≠X.env.locals:=λx c e z=>by
 obtain ⟨v,o,ho,hd⟩:=I.cell x c e;obtain ⟨m,⟨o',es,ep,ho',hd',_⟩,_⟩:=I.loc;rw[z,ho'] at ho;cases ho;rw[hd'] at hd;cases hd
theorem Inv.funs (I:Inv X pins σ H s):s.heap.FunFrames X.base X.outer:=by
 have all:∀ (l:List Env),(∀ b∈frs l,b∈X.fs)->X.s₀.heap.FunFrames X.base l->s.heap.FunFrames X.base l:=by
  intro l
  induction l with
  | nil=>intro _ _;trivial
  | cons env r ih =>
   intro hs hl;obtain ⟨hk,⟨L,o,hf,hn,ho,hd⟩,hr⟩:=hl;have hL:L∈X.fs:=hs L (by unfold frs;rw[DH,hf];exact Ap);obtain ⟨sl,e⟩:=I.base.slot L o ho (I.ok.frf L hL) hL λz=>I.ok.exfs L z hL
   exact ⟨hk,⟨L,_,hf,hn,e,hd⟩,ih (λb hb=>hs b (by unfold frs;rw[DH,hf];exact An _ hb)) hr⟩
 exact all X.outer (λ_ hb=>hb) I.ok.funs
theorem Inv.stack (I:Inv X pins σ H s):s.heap.FunFrames X.base X.stack:=by
 rcases I.ok.stk with e|⟨e,hf⟩
 ·rw[e];exact I.funs
 ·rw[e]
  obtain ⟨m,hn,_⟩:=I.loc;refine .cons (by rw[I.ok.kind];decide) hf hn ?_ I.funs;exact DB (AV I.ok.bsz I.ok.above)
theorem Inv.stkSub (I:Inv X pins σ H s):∀ b∈frs X.stack,b∈X.env.locals :: X.fs:=λb hb=>by
 rcases I.ok.stk with e|⟨e,hf⟩
 ·rw[e] at hb;exact An _ hb
 ·rw[e] at hb
  unfold frs at hb;rw[DH,hf] at hb;exact hb
theorem Inv.stkFree (I:Inv X pins σ H s):∀ b∈frs X.stack,H b=none:=λb hb=>by
 rcases Ai.mp (I.stkSub b hb) with e|hb
 ·rw[e];exact I.free
 ·obtain ⟨_,o,ho,_⟩:=I.ok.funs.mem hb
  exact I.base.free b o ho (I.ok.frf b hb) λz=>I.ok.exfs b z hb
theorem Inv.step {g':Array GenState} {t':Nat} {d':Drawn} {ch:List Addr} (I:Inv X pins σ H s)
  (hch:∀ b∈ch,(b∈X.ex\/X.s₀.heap.objs.size<=b)/\b≠X.env.locals/\(∀ x c,X.env.cells.lookup x=some c->c≠b)/\∀ p∈X.pn ++ pins,p.1≠b)
  (keep:∀ b o,b≠X.env.locals->b ∉ X.fs->b ∉ ch->s.heap.get? b=some o->H b=none->h'.get? b=some o)
  (slot:∀ b o,b≠X.env.locals->b∈X.fs->b ∉ ch->s.heap.get? b=some o->H b=none->∃ sl,h'.get? b=some { o with slots:=sl }) (free:∀ b o,b ∉ ch->s.heap.get? b=some o->H b=none->H' b=none)
  (there:∀ b o,b ∉ ch->s.heap.get? b=some o->∃ o',h'.get? b=some o')
  (tups:∀ b xs,H b=some (.tup xs)->H' b=some (.tup xs)) (frzs:∀ b o u,H b=some (.frz o u)->H' b=some (.frz o u)) (tbls:∀ b ps,H b=some (.tbl ps)->∃ more,H' b=some (.tbl (ps ++ more)))
  (ns:∀ m,s.heap.Ns X.env.locals m->h'.Ns X.env.locals m) (hok:HOk X.prog X.w H' h') (hg:AllBare g') :
  Inv X pins σ H' { s with heap:=h',gens:=g',drawn:=d',toks:=t' }:=by
 have neL:∀ b o,X.s₀.heap.get? b=some o->b≠X.env.locals:=λb o e=>Av (AJ (Al e) I.ok.above)
 have neC:∀ b o,X.s₀.heap.get? b=some o->b ∉ X.ex->b ∉ ch:=λb o e hx hb=>by
  rcases (hch b hb).1 with z|z
  ·exact hx z
  ·exact absurd (AJ (Al e) z) (Bt _)
 have cellK:∀ x c,X.env.cells.lookup x=some c->∀ v,s.heap.IsCell c v->h'.IsCell c v:=λx c e v ⟨o,ho,hd⟩=>by
  have nch:c ∉ ch:=λz=>(hch c z).2.2.1 x c e rfl
  by_cases hc:c∈X.fs
  ·obtain ⟨sl,q⟩:=slot c o (I.cne x c e) hc nch ho (I.freeC x c e)
   exact ⟨_,q,hd⟩
  ·exact ⟨o,keep c o (I.cne x c e) hc nch ho (I.freeC x c e),hd⟩
 refine ⟨I.ok,I.os,hg,⟨λb o e n hb hx=>?_,λb o e n hb hx=>?_,λb o e n hx=>?_,λb o e hx=>?_,λb xs e=>tups b xs (I.base.tups b xs e),λb o xs e=>frzs b o xs (I.base.frzs b o xs e),λb ps e=>?_⟩,?_,λx c e=>?_,?_,λx c e=>?_,λp hp=>?_,hok,I.len⟩
 ·exact keep b o (neL b o e) hb (neC b o e hx) (I.base.keep b o e n hb hx) (I.base.free b o e n hx)
 ·obtain ⟨sl,e1⟩:=I.base.slot b o e n hb hx
  obtain ⟨sl',e2⟩:=slot b _ (neL b o e) hb (neC b o e hx) e1 (I.base.free b o e n hx);exact ⟨sl',e2⟩
 ·obtain ⟨o',e1⟩:=I.base.there b o e hx
  exact free b o' (neC b o e hx) e1 (I.base.free b o e n hx)
 ·obtain ⟨o',e1⟩:=I.base.there b o e hx
  exact there b o' (neC b o e hx) e1
 ·obtain ⟨m1,e1⟩:=I.base.tbls b ps e
  obtain ⟨m2,e2⟩:=tbls b _ e1;exact ⟨m1 ++ m2,by rw[e2,Array.append_assoc]⟩
 ·obtain ⟨m,hn,hl⟩:=I.loc
  refine ⟨m,ns m hn,λi x v e1 e2 e3=>?_⟩;obtain ⟨u,r,l⟩:=hl i x v e1 e2 e3;refine ⟨u,r,?_⟩
  rcases l with l|⟨k,c,e,z⟩
  ·exact .inl l
  ·exact .inr ⟨k,c,e,cellK x c e _ z⟩
 ·obtain ⟨v,z⟩:=I.cell x c e
  exact ⟨v,cellK x c e v z⟩
 ·obtain ⟨m,⟨o,_,_,ho,_⟩,_⟩:=I.loc
  exact free _ o (λz=>(hch _ z).2.1 rfl) ho I.free
 ·obtain ⟨v,o,ho,hd⟩:=I.cell x c e
  exact free c o (λz=>(hch c z).2.2.1 x c e rfl) ho (I.freeC x c e)
 ·obtain ⟨e,n,ne,nf,d⟩:=I.pin p hp
  have nch:p.1 ∉ ch:=λz=>(hch p.1 z).2.2.2 p hp rfl
  exact ⟨keep p.1 p.2 ne nf nch e n,free p.1 p.2 nch e n,ne,nf,d⟩
theorem Inv.un {t':Nat} (I:Inv X pins σ H s) (u:Un X.fs [] H H' s.heap h') (hok:HOk X.prog X.w H' h'):Inv X pins σ H' { s with heap:=h',toks:=t' }:=by
 obtain ⟨m,⟨o,es,ep,ho,r⟩,_⟩:=id I.loc;obtain ⟨sl,hL⟩:=u.any ho I.free (by simp);exact I.step (g':=s.gens) (d':=s.drawn) (ch:=[]) (λ_ z=>nomatch z) (λb o _ hb _ e n=>u.keep b o e n hb (by simp)) (λb o _ hb _ e n=>u.slot b o e n hb (by simp)) (λb o _ e n=>u.free b o e n (by simp)) (λb o _ e=>u.there b o e (by simp)) u.tups u.frzs u.tbls (λm' hm=>by
  obtain ⟨o',es',ep',ho',r'⟩:=hm;rw[ho] at ho';cases ho';exact ⟨_,es',ep',hL,r'⟩) hok I.bare
theorem Inv.call {g':Array GenState} {t':Nat} {d':Drawn} {ch:List Addr} (I:Inv X pins σ H s) (u:Un (frs X.stack) ch H H' s.heap h') (hok:HOk X.prog X.w H' h') (hg:AllBare g')
  (hch:∀ b∈ch,(b∈X.ex\/X.s₀.heap.objs.size<=b)/\b≠X.env.locals/\(∀ x c,X.env.cells.lookup x=some c->c≠b)/\∀ p∈X.pn ++ pins,p.1≠b) :
  Inv X pins σ H' { s with heap:=h',gens:=g',drawn:=d',toks:=t' }:=by
 obtain ⟨m,⟨o,es,ep,ho,r⟩,_⟩:=id I.loc;obtain ⟨sl,hL⟩:=u.any ho I.free λz=>(hch _ z).2.1 rfl
 exact I.step (ch:=ch) hch (λb o hL hb hc e n=>u.keep b o e n (λz=>(Ai.mp (I.stkSub b z)).elim hL hb) hc) (λb o _ _ hc e n=>u.any e n hc) (λb o hc e n=>u.free b o e n hc) (λb o hc e=>u.there b o e hc) u.tups u.frzs u.tbls (λm' hm=>by
  obtain ⟨o',es',ep',ho',r'⟩:=hm;rw[ho] at ho';cases ho';exact ⟨_,es',ep',hL,r'⟩) hok hg
theorem Inv.turned {t':Nat} {it:Addr} (I:Inv X pins σ H s) (k:∀ b o,b≠it->s.heap.get? b=some o->h'.get? b=some o) (hn:H it=none) (hL:it≠X.env.locals)
  (h1:it∈X.ex\/X.s₀.heap.objs.size<=it) (h2:∀ x c,X.env.cells.lookup x=some c->c≠it) (h3:∀ p∈X.pn ++ pins,p.1≠it):Inv X pins σ H { s with heap:=h',toks:=t' }:=by
 have nit:∀ b u,H b=some u->b≠it:=λb u e z=>by rw[z,hn] at e;cases e
 refine I.step (g':=s.gens) (d':=s.drawn) (ch:=[it]) (λb hb=>?_) (λb o _ _ hc e _=>k b o (λz=>hc (by simp[z])) e) (λb o _ _ hc e _=>⟨o.slots,k b o (λz=>hc (by simp[z])) e⟩) (λ_ _ _ _ n=>n)
  (λb o hc e=>⟨o,k b o (λz=>hc (by simp[z])) e⟩) (λ_ _ e=>e) (λ_ _ _ e=>e) (λb ps e=>⟨#[],by rw[e];simp⟩) (λm hm=>?_) (λb u e=>?_) I.bare
 ·have e:b=it:=by simpa using hb
  subst e;exact ⟨h1,hL,h2,h3⟩
 ·obtain ⟨o,es,ep,ho,r⟩:=hm
  exact ⟨o,es,ep,k _ o (AX hL) ho,r⟩
 ·refine (I.hok b u e).stay (λc v hc q=>k c v ?_ q) (λ_ q=>q) λ_ _ q=>q
  rcases hc with z|z
  ·rw[z];exact nit b u e
  ·exact nit c _ z
theorem Inv.tok (I:Inv X pins σ H s) (t:Nat):Inv X pins σ H { s with toks:=t }:=I.un (h':=s.heap) (t':=t) Un.refl I.hok
theorem Inv.kept {t':Nat} (I:Inv X pins σ H s) (k:∀ b u,s.heap.get? b=some u->h'.get? b=some u):Inv X pins σ H { s with heap:=h',toks:=t' }:=I.un (Un.kept k) (I.hok.kept k)
theorem Inv.laid {a:Addr} {o:HO} {t':Nat} (I:Inv X pins σ H s) (k:∀ b u,s.heap.get? b=some u->h'.get? b=some u) (hp:s.heap.objs.size<=a) (new:ObjOk X.prog X.w (upd H a o) h' a o) :
  Inv X pins σ (upd H a o) { s with heap:=h',toks:=t' }:=I.un (Un.laid k hp (I.hok.fresh hp)) (I.hok.laid k hp new)
theorem Inv.write {x e:Addr} {o:HO} {t':Nat} (I:Inv X pins σ H s) (mu:Mut (H x)) (he:e=x\/H e=some (.own x)) (k:∀ b u,b≠e->s.heap.get? b=some u->h'.get? b=some u) (heo:∃ u,h'.get? e=some u)
  (new:ObjOk X.prog X.w (upd H x o) h' x o):Inv X pins σ (upd H x o) { s with heap:=h',toks:=t' }:=I.un (Un.write mu he k heo) (I.hok.write mu he k heo new)
theorem Inv.weak {σ':List (Option V)} (I:Inv X pins σ H s) (hl:σ'.length=σ.length) (w:∀ (i:Nat) v,σ'[i]?=some (some v)->σ[i]?=some (some v)):Inv X pins σ' H s:=
 ⟨I.ok,I.os,I.bare,I.base,let ⟨m,hn,hl'⟩:=I.loc;⟨m,hn,λi x v e1 e2 e3=>hl' i x v e1 (w i v e2) e3⟩,I.cell,I.free,I.freeC,I.pin,I.hok,hl.trans I.len⟩
theorem Inv.pins_of {pins':List (Addr×Obj)} (I:Inv X pins σ H s) (h:∀ p∈pins',s.heap.get? p.1=some p.2/\H p.1=none/\p.1≠X.env.locals/\p.1 ∉ X.fs/\∀ v,p.2.data≠.cell v):Inv X pins' σ H s:=
 ⟨I.ok,I.os,I.bare,I.base,I.loc,I.cell,I.free,I.freeC,λp hp=>(AD.mp hp).elim (λz=>I.pin p (Cd _ z)) (h p),I.hok,I.len⟩
theorem qjo {N:List Str} (hN:N.Nodup) {i j:Nat} {x:Str} (a:N[i]?=some x) (b:N[j]?=some x):i=j:=by
 obtain ⟨h1,e1⟩:=Am.mp a;obtain ⟨h2,e2⟩:=Am.mp b;exact (Di hN).mp (e1.trans e2.symm)
theorem qpx {M:Model} {A:Around} {E:Value->Shared->Prop} {i:Nat} {x:Str} {v:V} {u:Value} {Q:Unit->Shared->Prop} (I:Inv X pins σ H s) (hN:X.N.Nodup) (hi:X.N[i]?=some x) (hx:Loc X.env.scope x) (r:RelV v u)
  (h:∀ s',Inv X pins (σ.set i (some v)) H s'->(∃ a,Heap.SameBut a s.heap s'.heap/\(a=X.env.locals\/X.env.cells.lookup x=some a))->Q () s') (hf:X.fn x=true\/X.env.scope.names.lookup x=some .local:=by first|exact .inl rfl|exact .inr rfl|assumption):wpAny M A (storeName X.env x u) Q E s:=by
 obtain ⟨m,hn,hl⟩:=id I.loc;have hcls:(X.env.scope.kind == .class || (X.env.scope.kind == .module && X.env.locals != X.env.globals))=false:=by rw[I.ok.kind];rfl
 have hiσ:i<σ.length:=by rw[I.len];exact (Am.mp hi).1
 have cne:=I.cne;have tracked:∀ {a:Addr} {h':Heap},(∃ o,s.heap.get? a=some o/\H a=none)->Heap.SameBut a s.heap h'->HOk X.prog X.w H h':=fun {a h'} ha hs b ob e=>by
  obtain ⟨_,_,hfree⟩:=ha;refine (I.hok b ob e).stay (λc w' hc q=>(hs.2 c ?_).trans q) (λ_ q=>q) λ_ _ q=>q
  rintro rfl
  rcases hc with rfl|hc
  ·rw[hfree] at e;cases e
  ·rw[hfree] at hc;cases hc
 rcases hx with hk|hk
 ·refine wpAny_storeName_local hk hn (λh' hn' hs=>?_) hcls
  obtain ⟨oL,_,_,hoL,_⟩:=id hn;refine h _ ⟨I.ok,I.os,I.bare,⟨λb o e n hb hx=>?_,λb o e n hb hx=>?_,I.base.free,λb o e hx=>?_,I.base.tups,I.base.frzs,I.base.tbls⟩,⟨_,hn',λj y v' e1 e2 e3=>?_⟩,λy c e=>?_,I.free,I.freeC,λp hp=>?_,tracked ⟨oL,hoL,I.free⟩ hs,by simpa using I.len⟩ ⟨_,hs,.inl rfl⟩
  ·exact (hs.2 b (Av (AJ (Al e) I.ok.above))).trans (I.base.keep b o e n hb hx)
  ·obtain ⟨sl,e1⟩:=I.base.slot b o e n hb hx
   exact ⟨sl,(hs.2 b (Av (AJ (Al e) I.ok.above))).trans e1⟩
  ·obtain ⟨o',e1⟩:=I.base.there b o e hx
   exact ⟨o',(hs.2 b (Av (AJ (Al e) I.ok.above))).trans e1⟩
  ·by_cases hj:j=i
   ·subst hj
    rw[hi] at e1;cases e1;rw[Dr hiσ] at e2;cases e2;exact ⟨u,r,.inl ⟨hk,by simp⟩⟩
   ·rw[BK (AX hj)] at e2
    obtain ⟨u',r',q⟩:=hl j y v' e1 e2 e3;refine ⟨u',r',?_⟩
    rcases q with ⟨k,e⟩|⟨k,c,e,z⟩
    ·refine .inl ⟨k,?_⟩
     have:y≠x:=λe=>hj (qjo hN e1 (e ▸ hi))
     simp[this,e]
    ·exact .inr ⟨k,c,e,z.sameBut hs (cne y c e)⟩
  ·obtain ⟨w',z⟩:=I.cell y c e
   exact ⟨w',z.sameBut hs (cne y c e)⟩
  ·obtain ⟨e,n,ne,nf,d⟩:=I.pin p hp
   exact ⟨(hs.2 p.1 ne).trans e,n,ne,nf,d⟩
 ·have hfn:X.fn x=true:=by
   rcases hf with z|z
   ·exact z
   ·rw[z] at hk;cases hk
  obtain ⟨c,hc⟩:=I.ok.has x (.inl hk);obtain ⟨w',z⟩:=I.cell x c hc;refine wpAny_storeName_cell I.ok.kind hk hc z (λh' hc' hs=>?_);obtain ⟨oc,hoc,hocd⟩:=id z;refine h { s with heap:=h' } ⟨I.ok,I.os,I.bare,⟨λb o e n hb hx=>?_,λb o e n hb hx=>?_,I.base.free,λb o e hx=>?_,I.base.tups,I.base.frzs,I.base.tbls⟩,⟨m,hn.sameBut hs (AX (cne x c hc)),λj y v' e1 e2 e3=>?_⟩,λy c' e=>?_,I.free,I.freeC,λp hp=>?_,tracked ⟨oc,hoc,I.freeC x c hc⟩ hs,by simpa using I.len⟩ ⟨c,hs,.inr hc⟩
  ·exact (hs.2 b (Av (AJ (Al e) (I.ok.cab x c hfn hc)))).trans (I.base.keep b o e n hb hx)
  ·obtain ⟨sl,e1⟩:=I.base.slot b o e n hb hx
   exact ⟨sl,(hs.2 b (Av (AJ (Al e) (I.ok.cab x c hfn hc)))).trans e1⟩
  ·obtain ⟨o',e1⟩:=I.base.there b o e hx
   exact ⟨o',(hs.2 b (Av (AJ (Al e) (I.ok.cab x c hfn hc)))).trans e1⟩
  ·by_cases hj:j=i
   ·subst hj
    rw[hi] at e1;cases e1;rw[Dr hiσ] at e2;cases e2;exact ⟨u,r,.inr ⟨.inl hk,c,hc,hc'⟩⟩
   ·rw[BK (AX hj)] at e2
    obtain ⟨u',r',q⟩:=hl j y v' e1 e2 e3;refine ⟨u',r',?_⟩
    rcases q with q|⟨k,c',e,z'⟩
    ·exact .inl q
    ·refine .inr ⟨k,c',e,z'.sameBut hs ?_⟩
     rintro rfl;exact hj (qjo hN e1 (I.ok.inj _ _ _ e hc ▸ hi))
  ·by_cases hcc:c'=c
   ·subst hcc;exact ⟨_,hc'⟩
   ·obtain ⟨w2,z2⟩:=I.cell y c' e
    exact ⟨w2,z2.sameBut hs hcc⟩
  ·obtain ⟨e,n,ne,nf,d⟩:=I.pin p hp
   refine ⟨(hs.2 p.1 ?_).trans e,n,ne,nf,d⟩;intro q;rw[q,hoc] at e;have q':oc=p.2:=AH e;exact d w' (by rw[<- q'];exact hocd)
theorem qjp {M:Model} {A:Around} {E:Value->Shared->Prop} {i:Nat} {x:Str} {v:V} {u:Value} {Q:Unit->Shared->Prop} (I:Inv X pins σ H s) (hN:X.N.Nodup) (hi:X.N[i]?=some x) (hx:Loc X.env.scope x) (r:RelV v u)
  (h:∀ s',Inv X pins (σ.set i (some v)) H s'->Q () s') (hf:X.fn x=true\/X.env.scope.names.lookup x=some .local:=by first|exact .inl rfl|exact .inr rfl|assumption):wpAny M A (storeName X.env x u) Q E s:=
 qpx I hN hi hx r (λs' I' _=>h s' I') hf
theorem Inv.call' {s':Shared} {ch:List Addr} (I:Inv X pins σ H s) (ho:s'.os=s.os) (u:Un (frs X.stack) ch H H' s.heap s'.heap) (hok:HOk X.prog X.w H' s'.heap) (hg:AllBare s'.gens)
  (hch:∀ b∈ch,(b∈X.ex\/X.s₀.heap.objs.size<=b)/\b≠X.env.locals/\(∀ x c,X.env.cells.lookup x=some c->c≠b)/\∀ p∈X.pn ++ pins,p.1≠b):Inv X pins σ H' s':=by
 obtain ⟨h',g',d',t',o'⟩:=s';have e:o'=s.os:=ho;subst e;exact I.call (g':=g') (t':=t') (d':=d') u hok hg hch
end
abbrev XK:=Value->Option Addr->Hp->Prop
abbrev St:=List (Option V)
abbrev VK:=V->Hp->Prop
abbrev TE:=St->Hp->VK->Prop
abbrev TT:=St->Hp->(Bool->Hp->Prop)->Prop
abbrev TA:=St->Hp->(List V->Hp->Prop)->Prop
structure Ends where
 nx:St->Hp->Prop
 rt:VK
 bk:St->Hp->Prop:=λ_ _=>False
 ct:St->Hp->Prop:=λ_ _=>False
abbrev TS:=Ends->St->Hp->Prop
def EP (X:Cx) (pins:List (Addr×Obj)) (σ:St) (Q:VK) (u:Value) (s':Shared):Prop:=∃ v H',Inv X pins σ H' s'/\RelV v u/\Q v H'
def TP (X:Cx) (pins:List (Addr×Obj)) (σ:St) (Q:Bool->Hp->Prop) (b:Bool) (s':Shared):Prop:=∃ H',Inv X pins σ H' s'/\Q b H'
def AP (X:Cx) (pins:List (Addr×Obj)) (σ:St) (Q:List V->Hp->Prop) (us:List Value) (s':Shared):Prop:=∃ vs H',Inv X pins σ H' s'/\Vals vs us/\Q vs H'
def SP (X:Cx) (pins:List (Addr×Obj)) (D:Ends) (f:Flow) (s':Shared):Prop:=
 match f with
 | .next=>∃ σ' H',Inv X pins σ' H' s'/\D.nx σ' H'
 | .brk=>∃ σ' H',Inv X pins σ' H' s'/\D.bk σ' H'
 | .cont=>∃ σ' H',Inv X pins σ' H' s'/\D.ct σ' H'
 | .ret u=>∃ v σ' H',Inv X pins σ' H' s'/\RelV v u/\D.rt v H'
def PE (X:Cx) (e:Expr) (t:TE):Prop:=
 ∀ (pins:List (Addr×Obj)) (s:Shared) (σ:St) (H:Hp) (Q:VK),Inv X pins σ H s->t σ H Q->wpAny (model X.prog X.w) X.A (eval e X.env) (EP X pins σ Q) X.xe s
def PT (X:Cx) (e:Expr) (t:TT):Prop:=
 ∀ (pins:List (Addr×Obj)) (s:Shared) (σ:St) (H:Hp) (Q:Bool->Hp->Prop),Inv X pins σ H s->t σ H Q->wpAny (model X.prog X.w) X.A (isTrue e X.env (eval e X.env)) (TP X pins σ Q) X.xe s
def PW (X:Cx) (e:Expr) (t:TT):Prop:=
 ∀ (whole:Sem Value) (pins:List (Addr×Obj)) (s:Shared) (σ:St) (H:Hp) (Q:Bool->Hp->Prop),Inv X pins σ H s->t σ H Q->wpAny (model X.prog X.w) X.A (isTrue e X.env whole) (TP X pins σ Q) X.xe s
theorem PW.pt {X:Cx} {e:Expr} {t:TT} (h:PW X e t):PT X e t:=h _
def PA (X:Cx) (es:List Expr) (t:TA):Prop:=
 ∀ (pos:Pos) (pins:List (Addr×Obj)) (s:Shared) (σ:St) (H:Hp) (Q:List V->Hp->Prop),Inv X pins σ H s->t σ H Q->wpAny (model X.prog X.w) X.A (spliced (backTo pos (starEach es X.env))) (AP X pins σ Q) X.xe s
def PS (X:Cx) (st:Stmt) (t:TS):Prop:=
 ∀ (pins:List (Addr×Obj)) (s:Shared) (σ:St) (H:Hp) (D:Ends),Inv X pins σ H s->t D σ H->wpAny (model X.prog X.w) X.A (exec st X.env) (SP X pins D) X.xe s
def PSs (X:Cx) (st:List Stmt) (t:TS):Prop:=
 ∀ (pins:List (Addr×Obj)) (s:Shared) (σ:St) (H:Hp) (D:Ends),Inv X pins σ H s->t D σ H->wpAny (model X.prog X.w) X.A (execs st X.env) (SP X pins D) X.xe s
theorem thn {α:Type} {t:Sem α} {Q Q':α->Shared->Prop} {M:Model} {A:Around} {E:Value->Shared->Prop} {s:Shared} (h:wpAny M A t Q E s) (hQ:∀ a s,Q a s->Q' a s):wpAny M A t Q' E s:=AY h hQ λ_ _ x=>x
open PySem PySem.Spec PyProof.Rows
section
variable {X:Cx}
inductive tVarS (i:Nat) (σ:St) (H:Hp) (Q:VK):Prop
 | mk (v:V) (h:σ[i]?=some (some v)) (k:Q v H)
def qAe (i:Nat):TE:=λσ H Q=>tVarS i σ H Q
def tC (v:V):TE:=λ_ H Q=>Q v H
theorem qx1 {i:Nat} {x:Str} {pos:Pos} (hN:X.N[i]?=some x) (hv:Vis X.env.scope x) (hd:(x == ("__debug__" : Str))=false:=by decide) (hcd:(x == ("__classdict__" : Str))=false:=by decide):PE X (.Name x pos) (qAe i):=by
 intro pins s σ H Q I h;obtain ⟨v,e,h⟩:=h;obtain ⟨m,hn,hl⟩:=I.loc;obtain ⟨u,r,l⟩:=hl i x v hN e hv;have fin:EP X pins σ Q u s:=⟨v,H,I,r,h⟩
 rcases l with ⟨hk,hm⟩|⟨hk,c,hc,hcell⟩
 ·exact wpAny_Name (wpAny_loadName_local I.ok.kind hk hn hm fin) hd
 ·rcases hk with hk|hk
  ·exact wpAny_Name (wpAny_loadName_cell I.ok.kind hk hc hcell fin) hd
  ·exact wpAny_Name (wpAny_loadName_free I.ok.kind hk hc hcell fin hcd) hd
theorem qae {i j pos}:PE X (.Constant (.int i) j pos) (tC (.int i)):=λ_ _ _ H _ I h=>wpAny_Constant_int ⟨.int i,H,I.tok _,⟨_,rfl⟩,h⟩
theorem qgl {b j pos}:PE X (.Constant (.bool b) j pos) (tC (.bl b)):=λ_ _ _ H _ I h=>Constant_bool ⟨.bl b,H,I,rfl,h⟩
theorem qdx {j pos}:PE X (.Constant .none j pos) (tC .non):=λ_ _ _ H _ I h=>Constant_none ⟨.non,H,I,rfl,h⟩
theorem qdr {x j pos}:PE X (.Constant (.str x) j pos) (tC (.str x)):=λ_ _ _ H _ I h=>Calls.Constant_str ⟨.str x,H,I.tok _,⟨_,rfl⟩,h⟩
def Gl (X:Cx) (x:Str):Prop:=X.env.kindOf x=some .globalImplicit
theorem qe4 {E:Value->Shared->Prop} {pins:List (Addr×Obj)} {s:Shared} {σ:St} {H:Hp} {x:Str} {u:Value} {pos:Pos} {Q:Value->Shared->Prop} (I:Inv X pins σ H s) (hg:Gl X x) (hm:X.mg x=some u) (h:Q u s)
  (hd:(x == ("__debug__" : Str))=false:=by decide):wpAny (model X.prog X.w) X.A (eval (.Name x pos) X.env) Q E s:=
 Eo I.ok.kind hg (Calls.loadGlobal_global (by rw[I.ok.glob];exact I.mod.glob.keeps I.bk) hm h) hd
theorem qi6 {E:Value->Shared->Prop} {pins:List (Addr×Obj)} {s:Shared} {σ:St} {H:Hp} {x:Str} {u:Value} {pos:Pos} {Q:Value->Shared->Prop} (I:Inv X pins σ H s) (hg:Gl X x) (hm:X.mg x=none) (hv:bootBuiltins x=some u) (h:Q u s)
  (hn:x ≠ "__name__" :=by decide) (hd:(x == ("__debug__" : Str))=false:=by decide):wpAny (model X.prog X.w) X.A (eval (.Name x pos) X.env) Q E s:=by
 obtain ⟨mb,h1,h2⟩:=I.mod.blt;exact Eo I.ok.kind hg (Calls.loadGlobal_builtin (by rw[I.ok.glob];exact I.mod.glob.keeps I.bk) hm (by rw[I.ok.blt];exact h1.keeps I.bk) ((h2 x hn).trans hv) h) hd
theorem qfz {x:Str} {v:V} {u:Value} {pos:Pos} (hg:Gl X x) (hm:X.mg x=some u) (r:RelV v u) (hd:(x == ("__debug__" : Str))=false:=by decide):PE X (.Name x pos) (tC v):=
 λ_ _ _ H _ I h=>qe4 I hg hm ⟨v,H,I,r,h⟩ hd
theorem qjq {x:Str} {v:V} {u:Value} {pos:Pos} (hg:Gl X x) (hm:X.mg x=none) (hv:bootBuiltins x=some u) (r:RelV v u) (hn:x ≠ "__name__" :=by decide) (hd:(x == ("__debug__" : Str))=false:=by decide):PE X (.Name x pos) (tC v):=
 λ_ _ _ H _ I h=>qi6 I hg hm hv ⟨v,H,I,r,h⟩ hn hd
variable {a b:Expr} {ta tb:TE} {pos:Pos}
def PC (X:Cx) (op:CmpOp) (a b:Expr) (t:TE):Prop:=
 ∀ (pins:List (Addr×Obj)) (s:Shared) (σ:St) (H:Hp) (Q:VK),Inv X pins σ H s->t σ H Q ->
  wpAny (model X.prog X.w) X.A (eval a X.env) (λv s₁=>wpAny (model X.prog X.w) X.A (eval b X.env) (λu s₂=>wpAny (model X.prog X.w) X.A (compareOp op v u) (EP X pins σ Q) X.xe s₂) X.xe s₁) X.xe s
theorem qsv (b:Expr) {op:CmpOp} (h:op≠.In) (h2:op≠.NotIn):behindInMarks op b=false:=by
 have e1:(op == CmpOp.In)=false:=by cases op<;>first|rfl|exact absurd rfl h
 have e2:(op == CmpOp.NotIn)=false:=by cases op<;>first|rfl|exact absurd rfl h2
 cases b<;>simp[behindInMarks,e1,e2]
inductive tBS (x:V) (H:Hp) (Q:Bool->Hp->Prop):Prop
 | mk (c:Bool) (h:x=.bl c) (k:Q c H)
def tB (t:TE):TT:=λσ H Q=>t σ H λx H1=>tBS x H1 Q
theorem qpy {op:CmpOp} {t:TE} (h:PC X op a b t) (h1:behindInMarks op b=false:=by first|exact qsv _ (by decide) (by decide)|rfl):PT X (.Compare a [op] [b] pos) (tB t):=by
 intro pins s σ H Q I hw;refine EX (thn (h pins s σ H _ I hw) λv s1 h1=>thn h1 λu s2 h2=>thn h2 λc s3 hq__=>?_) h1;obtain ⟨x,H1,I1,r1,q1⟩:=hq__;obtain ⟨d,rfl,q⟩:=q1;cases r1;exact BV ⟨H1,I1,q⟩
theorem qez {e:Expr} {t:TE} (h:PE X e t) (he:∀ whole,isTrue e X.env whole=(do let v <- whole;standAt e.pos;holding [v] (truthy v)):=by intro _;rfl):PT X e (tB t):=by
 intro pins s σ H Q I hw;refine isTrue_plain (thn (h pins s σ H _ I hw) λv s1 hq__=>?_) (he _);obtain ⟨x,H1,I1,r1,q1⟩:=hq__;obtain ⟨d,rfl,q⟩:=q1;cases r1;exact BV ⟨H1,I1,q⟩
variable {tA tB':TT} {rest:List Expr}
def qCc (t u:TT):TT:=λσ H Q=>t σ H λc H1=>if c=true then u σ H1 Q else Q false H1
def tOr (t u:TT):TT:=λσ H Q=>t σ H λc H1=>if c=true then Q true H1 else u σ H1 Q
def qCd (t:TT):TT:=λσ H Q=>t σ H λc H1=>Q (!c) H1
theorem qvf (ha:PT X a tA):PW X (.BoolOp .And [a] pos) tA:=by
 intro wh pins s σ H Q I h;refine isTrue_and (thn (ha pins s σ H Q I h) λc s1 e=>?_)
 cases c with
 | true=>exact isTrue_and_nil e
 | false=>exact e
theorem qhl (ha:PT X a tA):PW X (.BoolOp .Or [a] pos) tA:=by
 intro wh pins s σ H Q I h;refine isTrue_or (thn (ha pins s σ H Q I h) λc s1 e=>?_)
 cases c with
 | false=>exact isTrue_or_nil e
 | true=>exact e
theorem qx2 (ha:PT X a tA) (hb:PW X (.BoolOp .And (b :: rest) pos) tB'):PW X (.BoolOp .And (a :: b :: rest) pos) (qCc tA tB'):=by
 intro wh pins s σ H Q I h;refine isTrue_and (thn (ha pins s σ H _ I h) λc s1 hq__=>?_);obtain ⟨H1,I1,q1⟩:=hq__
 cases c with
 | true=>exact hb wh pins s1 σ H1 Q I1 q1
 | false=>exact ⟨H1,I1,q1⟩
theorem qkn (ha:PT X a tA) (hb:PW X (.BoolOp .Or (b :: rest) pos) tB'):PW X (.BoolOp .Or (a :: b :: rest) pos) (tOr tA tB'):=by
 intro wh pins s σ H Q I h;refine isTrue_or (thn (ha pins s σ H _ I h) λc s1 hq__=>?_);obtain ⟨H1,I1,q1⟩:=hq__
 cases c with
 | true=>exact ⟨H1,I1,q1⟩
 | false=>exact hb wh pins s1 σ H1 Q I1 q1
theorem qe5 (ha:PT X a tA):PT X (.UnaryOp .Not a pos) (qCd tA):=by
 intro pins s σ H Q I h;exact isTrue_not (ha pins s σ H (λc H1=>Q (!c) H1) I h)
inductive tAndVS (tb:TE) (σ:St) (x:V) (H:Hp) (Q:VK):Prop
 | mk (c:Bool) (h:x=.bl c) (k:if c=true then tb σ H Q else Q (.bl false) H)
def qAo (ta tb:TE):TE:=λσ H Q=>ta σ H λx H1=>tAndVS tb σ x H1 Q
inductive tOrVS (tb:TE) (σ:St) (x:V) (H:Hp) (Q:VK):Prop
 | mk (c:Bool) (h:x=.bl c) (k:if c=true then Q (.bl true) H else tb σ H Q)
inductive tNotVS (x:V) (H:Hp) (Q:VK):Prop
 | mk (c:Bool) (h:x=.bl c) (k:Q (.bl (!c)) H)
def qAp (ta:TE):TE:=λσ H Q=>ta σ H λx H1=>tNotVS x H1 Q
theorem qi7 {op} {t:TE} (h:PE X a t):PE X (.BoolOp op [a] pos) t:=λpins s σ H Q I hw=>BoolOp_one (h pins s σ H Q I hw)
theorem qfx (ha:PE X a ta) (hb:PE X (.BoolOp .And (b :: rest) pos) tb):PE X (.BoolOp .And (a :: b :: rest) pos) (qAo ta tb):=by
 intro pins s σ H Q I h;refine BoolOp_and (thn (ha pins s σ H _ I h) λv s1 hq__=>?_);obtain ⟨x,H1,I1,r1,q1⟩:=hq__;obtain ⟨c,rfl,q1⟩:=q1;cases r1;refine BV ?_
 cases c with
 | true=>exact hb pins s1 σ H1 Q I1 q1
 | false=>exact ⟨.bl false,H1,I1,rfl,q1⟩
theorem qud (ha:PE X a ta):PE X (.UnaryOp .Not a pos) (qAp ta):=by
 intro pins s σ H Q I h;refine UnaryOp_ (thn (ha pins s σ H _ I h) λv s1 hq__=>?_);obtain ⟨x,H1,I1,r1,q1⟩:=hq__;obtain ⟨c,rfl,q1⟩:=q1;cases r1;exact not_of (BV ⟨.bl (!c),H1,I1,rfl,q1⟩)
def tIf (t:TT) (ta tb:TE):TE:=λσ H Q=>t σ H λc H1=>if c=true then ta σ H1 Q else tb σ H1 Q
theorem qsw {c:Expr} (hc:PT X c tA) (ha:PE X a ta) (hb:PE X b tb):PE X (.IfExp c a b pos) (tIf tA ta tb):=by
 intro pins s σ H Q I h;refine wpAny_IfExp (thn (hc pins s σ H _ I h) λd s1 hq__=>?_);obtain ⟨H1,I1,q1⟩:=hq__
 cases d with
 | true=>exact ha pins s1 σ H1 Q I1 q1
 | false=>exact hb pins s1 σ H1 Q I1 q1
end
open PySem PySem.Spec PyProof.Rows
def SqL (K:Frag) (H:Hp) (a:Addr) (xs:List V):Prop:=
 Rd H a (.lst xs) \/
  ∃ (o:Obj) (its:Array Value) (n:Nat),K.lookup a=some o/\o.cls=.type "list" /\ o.dict=none/\o.data=.seq its n/\its.size<=sizeLine/\Vals xs its.toList
def SqT (K:Frag) (H:Hp) (a:Addr) (xs:List V):Prop:=
 Rd H a (.tup xs) \/
  ∃ (o:Obj) (its:Array Value) (n:Nat),K.lookup a=some o/\o.cls=.type "tuple" /\ o.data=.seq its n/\its.size<=sizeLine/\Vals xs its.toList
def qCe:Value->Option V
 | .none=>some .non
 | .bool b=>some (.bl b)
 | .int i _=>some (.int i)
 | .str x _=>some (.str x)
 | .bytes b _=>some (.byt b)
 | .float b _=>some (.flt b)
 | .ref a=>some (.ref a)
 | .type n=>some (.ty n)
 | _=>none
theorem RelV.abs {x:V} {u:Value} (r:RelV x u):qCe u=some x:=by
 cases x with
 | non=>cases r;rfl
 | bl _=>cases r;rfl
 | int _=>obtain ⟨t,rfl⟩:=r;rfl
 | str _=>obtain ⟨t,rfl⟩:=r;rfl
 | byt _=>obtain ⟨t,rfl⟩:=r;rfl
 | flt _=>obtain ⟨t,rfl⟩:=r;rfl
 | ref _=>cases r;rfl
 | ty _=>cases r;rfl
theorem RelV.inj {x y:V} {u:Value} (r:RelV x u) (q:RelV y u):x=y:=AH (r.abs.symm.trans q.abs)
theorem Vals.inj:∀ {xs ys:List V} {us:List Value},Vals xs us->Vals ys us->xs=ys
 | _,_,_,.nil,.nil=>rfl
 | _,_,_,.cons r t,.cons r' t'=>by rw[r.inj r',Vals.inj t t']
section
variable {X:Cx} {pins:List (Addr×Obj)} {σ:St} {H:Hp} {s:Shared} {a:Addr} {xs ys:List V}
theorem SqL.of {K:Frag} (h:H a=some (.lst xs)):SqL K H a xs:=.inl (.inl h)
theorem SqT.of {K:Frag} (h:H a=some (.tup xs)):SqT K H a xs:=.inl (.inl h)
theorem Inv.list (I:Inv X pins σ H s) (h:SqL X.K H a xs):∃ its:List Value,Vals xs its/\PlainL s.heap a its.toArray/\xs.length<=sizeLine:=by
 rcases h with h|⟨o,its,n,hk,hc,hd,hs,hz,r⟩
 ·obtain ⟨z,its,n,r,e⟩:=h.ok I.hok
  exact ⟨its,r,⟨_,n,e,rfl,rfl,rfl⟩,z⟩
 ·refine ⟨its.toList,r,⟨o,n,I.kIn a o hk,hc,hd,by simpa using hs⟩,?_⟩
  have e:=r.length;simp only[A0] at e;omega
theorem Inv.tuple (I:Inv X pins σ H s) (h:SqT X.K H a xs):∃ its:List Value,Vals xs its/\IsTup s.heap a its.toArray/\xs.length<=sizeLine:=by
 rcases h with h|⟨o,its,n,hk,hc,hs,hz,r⟩
 ·obtain ⟨z,its,r,p⟩:=h.ok I.hok
  exact ⟨its,r,p,z⟩
 ·refine ⟨its.toList,r,⟨o,I.kIn a o hk,hc,n,by simpa using hs⟩,?_⟩
  have e:=r.length;simp only[A0] at e;omega
theorem Inv.list_inj (I:Inv X pins σ H s) (h:SqL X.K H a xs) (h':SqL X.K H a ys):xs=ys:=by
 obtain ⟨its,r,⟨o,n,e,_,_,d⟩,_⟩:=I.list h;obtain ⟨its',r',⟨o',n',e',_,_,d'⟩,_⟩:=I.list h';rw[e] at e';cases e';rw[d] at d';injection d' with d1 _
 have:its=its':=by simpa using congrArg Array.toList d1
 subst this;exact r.inj r'
end
abbrev Cx.wish (X:Cx) (E:Value->Shared->Prop):Cx:={ X with xe:=E }
abbrev Cx.nox (X:Cx):Cx:=X.wish λ_ _=>False
theorem Cx.Ok.wish {X:Cx} (ok:X.Ok) (E:Value->Shared->Prop):(X.wish E).Ok:=
 ⟨ok.mod,ok.kind,ok.glob,ok.blt,ok.above,ok.inj,ok.has,ok.cab,ok.hd,ok.frames,ok.stk,ok.exf,ok.bs,ok.bsz,ok.noex,ok.exfs,ok.funs,ok.frf⟩
theorem Cx.Ok.unwish {X:Cx} {E:Value->Shared->Prop} (ok:(X.wish E).Ok):X.Ok:=
 ⟨ok.mod,ok.kind,ok.glob,ok.blt,ok.above,ok.inj,ok.has,ok.cab,ok.hd,ok.frames,ok.stk,ok.exf,ok.bs,ok.bsz,ok.noex,ok.exfs,ok.funs,ok.frf⟩
section
variable {X:Cx} {pins:List (Addr×Obj)} {σ:St} {H:Hp} {s:Shared} {E:Value->Shared->Prop}
theorem Inv.wish (I:Inv X pins σ H s) (E:Value->Shared->Prop):Inv (X.wish E) pins σ H s:=⟨I.ok.wish E,I.os,I.bare,I.base,I.loc,I.cell,I.free,I.freeC,I.pin,I.hok,I.len⟩
theorem Inv.unwish (I:Inv (X.wish E) pins σ H s):Inv X pins σ H s:=⟨I.ok.unwish,I.os,I.bare,I.base,I.loc,I.cell,I.free,I.freeC,I.pin,I.hok,I.len⟩
theorem SP.unwish {D:Ends} {f:Flow} {s':Shared} (h:SP (X.wish E) pins D f s'):SP X pins D f s':=by
 cases f with
 | next=>obtain ⟨σ',H',I,q⟩:=h;exact ⟨σ',H',I.unwish,q⟩
 | brk=>obtain ⟨σ',H',I,q⟩:=h;exact ⟨σ',H',I.unwish,q⟩
 | cont=>obtain ⟨σ',H',I,q⟩:=h;exact ⟨σ',H',I.unwish,q⟩
 | ret u=>obtain ⟨v,σ',H',I,r,q⟩:=h;exact ⟨v,σ',H',I.unwish,r,q⟩
theorem PSs.nox {st:List Stmt} {t:TS} (h:PSs X.nox st t):PSs X st t:=λpins s σ H D I hw =>
 AY (h pins s σ H D (I.wish _) hw) (λ_ _ q=>q.unwish) λ_ _ z=>False.elim z
end
section
variable {X:Cx} {st:Stmt} {rest:List Stmt} {t u:TS} {e:Expr} {te:TE} {pos:Pos}
def qAq:TS:=λD σ H=>D.nx σ H
def qB0 (t u:TS):TS:=λD σ H=>t { D with nx:=u D } σ H
theorem qau:PSs X [] qAq:=λ_ _ σ H _ I h=>Ds ⟨σ,H,I,h⟩
theorem qad (h1:PS X st t) (h2:PSs X rest u):PSs X (st :: rest) (qB0 t u):=by
 intro pins s σ H D I h;refine wpAny_execs_cons (thn (h1 pins s σ H { D with nx:=u D } I h) λf s1 q=>?_)
 cases f with
 | next =>
  obtain ⟨σ',H',I',q⟩:=q;exact h2 pins s1 σ' H' D I' q
 | ret v=>exact q
 | brk=>exact q
 | cont=>exact q
theorem qaf (h1:PS X st t):PSs X [st] t:=by
 intro pins s σ H D I h;refine wpAny_execs_cons (thn (h1 pins s σ H D I h) λf s1 q=>?_)
 cases f with
 | next=>exact Ds q
 | ret v=>exact q
 | brk=>exact q
 | cont=>exact q
theorem Inv.quiet {pins:List (Addr×Obj)} {σ:St} {H:Hp} {s:Shared} (I:Inv X pins σ H s):interactive X.env=false:=by simp[interactive,I.ok.kind]
def qAr (te:TE):TS:=λD σ H=>te σ H λ_ H1=>D.nx σ H1
theorem qa9 (he:PE X e te) (hs:swapsWith e none pos.line X.env=pure false:=by rfl):PS X (.Expr e pos) (qAr te):=by
 intro pins s σ H D I h;exact wpAny_Expr_any (thn (he pins s σ H _ I h) λv s1 ⟨x,H1,I1,r1,q1⟩=>⟨σ,H1,I1,q1⟩) I.quiet hs
def qCf (te:TE):TS:=λD σ H=>te σ H D.rt
theorem qan (he:PE X e te):PS X (.Return (some e) pos) (qCf te):=by
 intro pins s σ H D I h;exact wpAny_Return_some (thn (he pins s σ H _ I h) λv s1 ⟨x,H1,I1,r1,q1⟩=>⟨x,σ,H1,I1,r1,q1⟩)
def qAs:TS:=λD _ H=>D.rt .non H
theorem qvg:PS X (.Return none pos) qAs:=λ_ _ σ H _ I h=>wpAny_Return_none ⟨.non,σ,H,I,rfl,h⟩
def qCg (c:TT) (t u:TS):TS:=λD σ H=>c σ H λb H1=>if b=true then t D σ H1 else u D σ H1
theorem qbs {c:Expr} {a b:List Stmt} {tc:TT} (hc:PT X c tc) (ha:PSs X a t) (hb:PSs X b u):PS X (.If c a b pos) (qCg tc t u):=by
 intro pins s σ H D I h;refine wpAny_If (thn (hc pins s σ H _ I h) λd s1 hq__=>?_);obtain ⟨H1,I1,q1⟩:=hq__
 cases d with
 | true=>exact ha pins s1 σ H1 D I1 q1
 | false=>exact hb pins s1 σ H1 D I1 q1
def qx3:TS:=λ_ _ _=>False
theorem qeb:PS X st qx3:=λ_ _ _ _ _ _ h=>h.elim
end
abbrev TG:=V->St->Hp->(St->Hp->Prop)->Prop
abbrev TGs:=List V->St->Hp->(St->Hp->Prop)->Prop
def PG (X:Cx) (target:Expr) (t:TG):Prop:=
 ∀ (pins:List (Addr×Obj)) (s:Shared) (σ:St) (H:Hp) (v:V) (u:Value) (Q:St->Hp->Prop),Inv X pins σ H s->RelV v u->t v σ H Q ->
  wpAny (model X.prog X.w) X.A (assign target X.env u) (λ_ s'=>∃ σ' H',Inv X pins σ' H' s'/\Q σ' H') X.xe s
def PGs (X:Cx) (ts:List Expr) (t:TGs):Prop:=
 ∀ (pins:List (Addr×Obj)) (s:Shared) (σ:St) (H:Hp) (vs:List V) (us:List Value) (Q:St->Hp->Prop),Inv X pins σ H s->Vals vs us->t vs σ H Q ->
  wpAny (model X.prog X.w) X.A (assignInOrder ((assignEach ts X.env).map (·.2)) us) (λ_ s'=>∃ σ' H',Inv X pins σ' H' s'/\Q σ' H') X.xe s
section
variable {X:Cx} {pos:Pos}
def qiz (i:Nat):TG:=λv σ H Q=>Q (σ.set i (some v)) H
theorem qam {i:Nat} {x:Str} (hN:X.N.Nodup) (hi:X.N[i]?=some x) (hx:Loc X.env.scope x) (hf:X.fn x=true\/X.env.scope.names.lookup x=some .local:=by first|exact .inl rfl|exact .inr rfl|assumption):PG X (.Name x pos) (qiz i):=by
 intro pins s σ H v u Q I r h;exact wpAny_assign_Name (qjp I hN hi hx r (λs' I'=>⟨_,H,I',h⟩) hf)
def qAt:TGs:=λvs σ H Q=>vs=[]/\Q σ H
def qpz (t:TG) (u:TGs):TGs:=λvs σ H Q=>∃ v r,vs=v :: r/\t v σ H λσ' H'=>u r σ' H' Q
theorem qb1:PGs X [] qAt:=by
 intro pins s σ H vs us Q I r h;obtain ⟨e,h⟩:=h;subst e;cases r;exact assignInOrder_nil ⟨σ,H,I,h⟩
theorem qap {e:Expr} {es:List Expr} {t:TG} {u:TGs} (h1:PG X e t) (h2:PGs X es u)
  (hs:(assignEach (e :: es) X.env).map (·.2)=assign e X.env :: (assignEach es X.env).map (·.2):=by rfl):PGs X (e :: es) (qpz t u):=by
 intro pins s σ H vs us Q I r h;obtain ⟨v,vr,e1,h⟩:=h;subst e1
 cases r with
 | cons r rr =>
  rw[hs];refine assignInOrder_cons (thn (h1 pins s σ H _ _ _ I r h) λ_ s1 hq__=>?_);obtain ⟨σ1,H1,I1,q1⟩:=hq__;exact h2 pins s1 σ1 H1 _ _ Q I1 rr q1
def qAu (K:Frag) (n:Nat) (t:TGs):TG:=λv σ H Q=>∃ a xs,v=.ref a/\SqT K H a xs/\xs.length=n/\t xs σ H Q
theorem qcx {es:List Expr} {k:Nat} {t:TGs} {n:Nat} (hc:X.calm=true) (h:PGs X es t)
  (hn:(assignEach es X.env).length=n:=by rfl) (hst:(assignEach es X.env).findIdx? (·.1)=none:=by rfl):PG X (.Tuple es k pos) (qAu X.K n t):=by
 intro pins s σ H v u Q I r hw;obtain ⟨a,xs,e1,hq,hl,hw⟩:=hw;subst e1;cases r;obtain ⟨its,rv,ht,hz⟩:=I.tuple hq;refine assign_Tuple_tuple (I.ok.hd hc) ht (by simp[hn,<- hl,rv.length]) hst λh' hx=>?_
 have I1:Inv X pins σ H { s with heap:=h' }:=I.kept (t':=s.toks) λb o e=>hx b o (Av (Al e)) e
 exact h pins _ σ H xs _ Q I1 (by simpa using rv) hw
def qAv (te:TE) (g:TG):TS:=λD σ H=>te σ H λx H1=>g x σ H1 D.nx
theorem qx4 {tg e:Expr} {te:TE} {g:TG} (he:PE X e te) (hg:PG X tg g) (hs:swapsWithSole [tg] e pos.line X.env=pure false:=by rfl) (hw:swappedStores [tg] e X.env=pure none:=by rfl)
  (h1:(assignEach [tg] X.env).map (·.2)=[assign tg X.env]:=by rfl):PS X (.Assign [tg] e pos) (qAv te g):=by
 intro pins s σ H D I h;refine wpAny_Assign_stores (thn (he pins s σ H _ I h) λv s1 hq__=>?_) hs hw;obtain ⟨x,H1,I1,r1,q1⟩:=hq__;rw[h1];exact thn (hg pins s1 σ H1 x v _ I1 r1 q1) λ_ s2 q=>q
theorem qaw {i:Nat} {x:Str} {e:Expr} {te:TE} {pos':Pos} (hN:X.N.Nodup) (hi:X.N[i]?=some x) (hx:Loc X.env.scope x) (he:PE X e te) (hs:swapsWith e (some (.Name x pos')) pos.line X.env=pure false:=by rfl) (hf:X.fn x=true\/X.env.scope.names.lookup x=some .local:=by first|exact .inl rfl|exact .inr rfl|assumption) :
  PS X (.Assign [.Name x pos'] e pos) (qAv te (qiz i)):=by
 intro pins s σ H D I h;refine wpAny_Assign_Name (thn (he pins s σ H _ I h) λv s1 hq__=>?_) hs;obtain ⟨y,H1,I1,r1,q1⟩:=hq__;exact qjp I1 hN hi hx r1 (λs2 I2=>⟨_,H1,I2,q1⟩) hf
end
section
variable {X:Cx} {pos:Pos}
end
structure It where
 go:Nat->Hp->Prop
 yld:Nat->Hp->V->Hp->Prop
 stop:Nat->Hp->Prop
def qm6 (X:Cx) (pins:List (Addr×Obj)) (H:Hp) (b:Addr):Prop:=
 H b=none/\b≠X.env.locals/\b ∉ X.fs/\(b∈X.ex\/X.s₀.heap.objs.size<=b)/\(∀ x c,X.env.cells.lookup x=some c->c≠b)/\∀ p∈X.pn ++ pins,p.1≠b
theorem Inv.fpOk {X:Cx} {pins:List (Addr×Obj)} {σ:St} {H H':Hp} {s:Shared} {b:Addr} (I:Inv X pins σ H s) (hb:s.heap.objs.size<=b) (hn:H' b=none):qm6 X pins H' b:=by
 refine ⟨hn,CD (AJ I.lt hb),I.nofs hb,.inr (AV I.sz hb),λx c e z=>?_,λp hp z=>?_⟩
 ·obtain ⟨v,q⟩:=I.cell x c e
  exact absurd (AJ q.lt (by rw[z];exact hb)) (Bt _)
 ·exact absurd (AJ (Al (I.pin p hp).1) (by rw[z];exact hb)) (Bt _)
structure Turn (P:Program) (w:World) (K:Frag) (tg:Expr) (J:It) (fp:List Addr) (it:Addr) (tn:Nat->Heap->Prop):Prop where
 mem:it∈fp
 obj:∀ i h,tn i h->∀ b∈fp,∃ o,h.get? b=some o/\∀ v,o.data≠.cell v
 keep:∀ i h h',tn i h->(∀ b∈fp,∀ o,h.get? b=some o->h'.get? b=some o)->tn i h'
 item:∀ (X:Cx),X.prog=P->X.w=w->X.K=K->X.calm=true->∀ (i:Nat) (pins:List (Addr×Obj)) (s:Shared) (σ:St) (H:Hp) (E:Value->Shared->Prop),Inv X pins σ H s->(∀ b∈fp,qm6 X pins H b)->tn i s.heap->J.go i H ->
  wpAny (model P w) X.A (pyNext (.ref it)) (λr s1=>∃ u,r=some u /\
   wpAny (model P w) X.A (letOwnedTupleGo tg (.ref it) u) (λ_ s2=>∃ x H',Inv X pins σ H' s2/\RelV x u/\J.yld i H x H'/\tn (i+1) s2.heap/\∀ b∈fp,H' b=none) E s1) E s
 done:∀ (X:Cx),X.prog=P->X.w=w->X.K=K->X.calm=true->∀ (i:Nat) (pins:List (Addr×Obj)) (s:Shared) (σ:St) (H:Hp) (E:Value->Shared->Prop),Inv X pins σ H s->(∀ b∈fp,qm6 X pins H b)->tn i s.heap->J.stop i H ->
  wpAny (model P w) X.A (pyNext (.ref it)) (λr s1=>r=none/\Inv X pins σ H s1) E s
 self:∀ (A:Around) (i:Nat) (s:Shared) (Q:Value->Shared->Prop) (E:Value->Shared->Prop),tn i s.heap->Q (.ref it) s->wpAny (model P w) A (pyIter (.ref it)) Q E s
abbrev TI:=St->Hp->(It->Hp->Prop)->Prop
def PIE (X:Cx) (pins:List (Addr×Obj)) (σ:St) (tg:Expr) (R:It->Hp->Prop) (itv:Value) (s2:Shared):Prop:=
 ∃ (it:Addr) (fp:List Addr) (tn:Nat->Heap->Prop) (J:It) (H':Hp),itv=.ref it/\Inv X pins σ H' s2/\Turn X.prog X.w X.K tg J fp it tn/\tn 0 s2.heap/\(∀ b∈fp,qm6 X pins H' b)/\R J H'
def PI (X:Cx) (tg iter:Expr) (wi:TI):Prop:=
 ∀ (pins:List (Addr×Obj)) (s:Shared) (σ:St) (H:Hp) (R:It->Hp->Prop),Inv X pins σ H s->wi σ H R ->
  wpAny (model X.prog X.w) X.A (eval iter X.env) (λv s1=>wpAny (model X.prog X.w) X.A (pyIter v) (PIE X pins σ tg R) X.xe s1) X.xe s
theorem qvh {M:Model} {A:Around} {E:Value->Shared->Prop} {s:Shared} {tg:Expr} {it:Addr} {u:Value} {o:Obj} {n:String} {vs:Array Value} {Q:Unit->Shared->Prop} (ho:s.heap.get? it=some o) (hc:o.cls=.type n) (hd:o.data=.fields vs)
  (hn:["enumerate", "zip", "dict_itemiterator", "dict_reverseitemiterator", "odict_iterator", "itertools.zip_longest", "itertools.pairwise"].contains n=false) (hQ:Q () s):wpAny M A (letOwnedTupleGo tg (.ref it) u) Q E s:=by
 unfold letOwnedTupleGo
 cases tg<;>first
  | exact Ae hQ
  | (cases u<;>first
    | exact Ae hQ
    | (refine Aa (wpAny_load ho ?_)
       rw[hc,hd]
       show wpAny M A (if (["enumerate", "zip", "dict_itemiterator", "dict_reverseitemiterator", "odict_iterator", "itertools.zip_longest", "itertools.pairwise"].contains n && vs[0]? == some (rawInt _))=true then _ else _) Q E s
       rw[Ah (by intro h;rw[hn,Bool.false_and] at h;cases h)];exact Ae hQ))
def Itl (K:Frag) (a:Addr):It:=
 ⟨λi H=>∃ xs x,SqL K H a xs/\xs[i]?=some x,λi H x H'=>H'=H/\∀ xs,SqL K H a xs->xs[i]?=some x,λi H=>∃ xs,SqL K H a xs/\xs.length<=i⟩
def Itr (lo:Int) (n:Nat):It:=⟨λi _=>i<n,λi H x H'=>H'=H/\x=.int (lo+i),λi _=>n<=i⟩
theorem qp0 {P:Program} {w:World} {K:Frag} {tg:Expr} (a it:Addr):Turn P w K tg (Itl K a) [it] it (λi h=>h.IsListIter it a i) where
 mem:=by simp
 obj:=λi h st b hb=>by
  have e:b=it:=by simpa using hb
  subst e;obtain ⟨o,e,c,d⟩:=st;exact ⟨o,e,λv z=>by rw[d] at z;cases z⟩
 keep:=λi h h' st k=>st.at λo e=>k it (by simp) o e
 item:=by
  intro X hP hw hK hc i pins s σ H E I hf st hg;subst hP hw hK;obtain ⟨xs,x,hq,hx⟩:=hg;obtain ⟨its,rv,p,hz⟩:=I.list hq;obtain ⟨u,hu,ru⟩:=rv.get hx;obtain ⟨f0,f1,f2,f3,f4,f5⟩:=hf it (by simp);refine wpAny_pyNext_list_item st p.isList (x:=u) (by simpa using hu) λh' st' sb=>?_
  have I1:Inv X pins σ H { s with heap:=h' }:=I.turned (t':=s.toks) (λb o hb e=>(sb.2 b hb).trans e) f0 f1 f3 f4 f5;obtain ⟨o,e,c,d⟩:=id st';exact ⟨u,rfl,qvh (s:={ s with heap:=h' }) e c d (by decide) ⟨x,H,I1,ru,⟨rfl,λys hy=>by rw[I.list_inj hy hq];exact hx⟩,st',λb hb=>(hf b hb).1⟩⟩
 done:=by
  intro X hP hw hK hc i pins s σ H E I hf st hg;subst hP hw hK;obtain ⟨xs,hq,hx⟩:=hg;obtain ⟨its,rv,p,hz⟩:=I.list hq;obtain ⟨f0,f1,f2,f3,f4,f5⟩:=hf it (by simp);have hl:=rv.length;exact wpAny_pyNext_list_end (I.ok.hd hc) st p.isList (by simp;omega) λh' eb=>⟨rfl,I.turned (t':=s.toks) (λb o hb e=>eb b o hb e) f0 f1 f3 f4 f5⟩
 self:=λ_ _ _ _ _ st h=>wpAny_pyIter_listiter st h
theorem qoo {P:Program} {w:World} {K:Frag} {tg:Expr} (it:Addr) (lo:Int) (n:Nat):Turn P w K tg (Itr lo n) [it] it (λi h=>IsRangeIter h it (lo+(i:Nat)*1) ((n:Int)-(i:Nat)) 1) where
 mem:=by simp
 obj:=λi h st b hb=>by
  have e:b=it:=by simpa using hb
  subst e;exact ⟨_,st,λv z=>by
   have z':Data.fields _=Data.cell v:=z
   cases z'⟩
 keep:=λi h h' st k=>k it (by simp) _ st
 item:=by
  intro X hP hw hK hc i pins s σ H E I hf st hg;subst hP hw hK;obtain ⟨f0,f1,f2,f3,f4,f5⟩:=hf it (by simp);have W:=Walks.range (prog:=X.prog) (w:=X.w) (I.ok.hd hc) it lo 1 n;refine W.item i s _ _ hg st λv h' tk hv st' kk=>?_
  obtain ⟨t,rfl⟩:=hv;have I1:Inv X pins σ H { s with heap:=h',toks:=tk }:=I.turned (λb o hb e=>kk b o (by simpa using hb) e) f0 f1 f3 f4 f5;refine ⟨_,rfl,qvh (s:={ s with heap:=h',toks:=tk }) (n:= "range_iterator") st' rfl rfl (by decide) ⟨.int (lo+i),H,I1,⟨t,?_⟩,⟨rfl,rfl⟩,st',λb hb=>(hf b hb).1⟩⟩;rw[D4]
 done:=by
  intro X hP hw hK hc i pins s σ H E I hf st hg;subst hP hw hK;obtain ⟨f0,f1,f2,f3,f4,f5⟩:=hf it (by simp);exact wpAny_pyNext_range_end (I.ok.hd hc) st (by have:n<=i:=hg;omega) λh' eb=>⟨rfl,I.turned (t':=s.toks) (λb o hb e=>eb b o hb e) f0 f1 f3 f4 f5⟩
 self:=λ_ _ _ _ _ st h=>wpAny_pyIter_rangeiter st h
open PySem PySem.Spec PyProof.Rows
section
variable {X:Cx} {tg:Expr}
def qAw (K:Frag) (tl:TE):TI:=λσ H R=>tl σ H λx H1=>∃ a,x=.ref a/\(∃ xs,SqL K H1 a xs)/\R (Itl K a) H1
theorem qbp {l:Expr} {tl:TE} (hl:PE X l tl):PI X tg l (qAw X.K tl):=by
 intro pins s σ H R I h;refine thn (hl pins s σ H _ I h) λv s1 hq__=>?_
 obtain ⟨x,H1,I1,r1,q1⟩:=hq__;obtain ⟨a,e,⟨xs,hq⟩,q⟩:=q1;subst e;cases r1;obtain ⟨its,rv,p,hz⟩:=I1.list hq;refine BW p.isList ?_;refine ⟨s1.heap.objs.size,[s1.heap.objs.size],_,_,H1,rfl,I1.kept (t':=s1.toks) λb o e=>Ab _ e,qp0 a _,⟨_,Ao _ rfl,rfl,rfl⟩,λb hb=>?_,q⟩;have e:b=s1.heap.objs.size:=by simpa using hb
 subst e;exact I1.fpOk (Ag _) (I1.hok.fresh (Ag _))
theorem qsx {pins:List (Addr×Obj)} {σ:St} {H:Hp} {s:Shared} {R:It->Hp->Prop} {E:Value->Shared->Prop} {lo hi:Int} {t u v:Tok} {tk:Nat} (I:Inv X pins σ H s) (h1:-(2 ^ 62)<=lo) (h2:lo<2 ^ 62) (h3:-(2 ^ 62)<=hi) (h4:hi<2 ^ 62)
  (q:R (Itr lo (hi-lo).toNat) H):wpAny (model X.prog X.w) X.A (pyIter (.ref s.heap.objs.size)) (PIE X pins σ tg R) E { s with heap:=s.heap.push { cls:=.type "range",data:=.fields #[.int lo t,.int hi u,.int 1 v] },toks:=tk }:=by
 refine wpAny_pyIter_range (IsRange.new ..) (small_one h1 h2 h3 h4) ?_;have I1:Inv X pins σ H { s with heap:=s.heap.push { cls:=.type "range",data:=.fields #[.int lo t,.int hi u,.int 1 v] },toks:=tk }:=I.kept λb o e=>Ab _ e
 refine ⟨(s.heap.push { cls:=.type "range",data:=.fields #[.int lo t,.int hi u,.int 1 v] }).objs.size,[(s.heap.push { cls:=.type "range",data:=.fields #[.int lo t,.int hi u,.int 1 v] }).objs.size],_,_,H,rfl,
  I1.kept (t':=tk) λb o e=>Ab _ e,qoo _ lo (hi-lo).toNat,?_,λb hb=>?_,q⟩
 ·have e1:lo+((0:Nat):Int)*1=lo:=by simp
  have e2:(((hi-lo).toNat:Nat):Int)-((0:Nat):Int)=Builtin.Range.rangeSize lo hi 1:=by rw[rangeSize_one];split<;>omega
  show IsRangeIter _ _ (lo+((0:Nat):Int)*1) ((((hi-lo).toNat:Nat):Int)-((0:Nat):Int)) 1
  rw[e1,e2];exact Ao _ rfl
 ·have e:b=(s.heap.push { cls:=.type "range",data:=.fields #[.int lo t,.int hi u,.int 1 v] }).objs.size:=by simpa using hb
  subst e;exact I1.fpOk (Ag _) (I1.hok.fresh (Ag _))
def qAx (ta:TA):TI:=λσ H R=>ta σ H λvs H1=>∃ j:Int,vs=[.int j] /\ -(2 ^ 62)<=j/\j<2 ^ 62/\R (Itr 0 j.toNat) H1
theorem qf9 {a:Expr} {ta:TA} {p pos:Pos} (hg:Gl X "range") (hm:X.mg "range" = none) (ha:PA X [a] ta) (hs:starEach [a] X.env=[(false,eval a X.env)]:=by rfl):PI X tg (.Call (.Name "range" p) [a] [] pos) (qAx ta):=by
 intro pins s σ H R I h;refine Call_ (qi6 I hg hm boot_range (BX (thn (ha pos pins s σ H _ I h) λus s1 hq__=>?_) hs rfl));obtain ⟨vs,H1,I1,r1,q1⟩:=hq__;obtain ⟨j,e,q1,q2,q⟩:=q1;subst e
 cases r1 with
 | cons r rr =>
  cases rr;obtain ⟨t,rfl⟩:=r;exact call_range_1 (qsx I1 (by omega) (by omega) q1 q2 (by simpa using q))
def qCh (wi:TI) (g:TG) (tb:TS):TS:=λD σ H=>wi σ H λJ H1=>∃ W:Nat->Nat->St->Hp->Prop,(∃ m,W 0 m σ H1)/\∀ i m σ H,W i m σ H ->
 (J.stop i H/\D.nx σ H)\/(J.go i H/\∃ N:St->Hp->Prop,(∀ σ' H',N σ' H'->∃ m',m'<m/\W (i+1) m' σ' H')/\∀ x H',J.yld i H x H'->g x σ H' λσ2 H2=>tb { D with nx:=N,ct:=N,bk:=D.nx } σ2 H2)
def qko (fp:List Addr) (h:Heap):List (Addr×Obj):=fp.filterMap λb=>(h.get? b).map λo=>(b,o)
theorem qfp {fp:List Addr} {h:Heap} {b:Addr} {o:Obj} (hb:b∈fp) (e:h.get? b=some o):(b,o)∈qko fp h:=List.mem_filterMap.mpr ⟨b,hb,by rw[e];rfl⟩
theorem qp1 {fp:List Addr} {h:Heap} {p:Addr×Obj} (hp:p∈qko fp h):p.1∈fp/\h.get? p.1=some p.2:=by
 obtain ⟨b,hb,e⟩:=List.mem_filterMap.mp hp
 cases q:h.get? b with
 | none=>rw[q] at e;cases e
 | some o =>
  rw[q] at e;have e':(b,o)=p:=AH e;subst e';exact ⟨hb,q⟩
theorem Inv.pinned {pins:List (Addr×Obj)} {σ:St} {H:Hp} {s:Shared} {fp:List Addr} (I:Inv X pins σ H s) (hf:∀ b∈fp,qm6 X pins H b) (ho:∀ b∈fp,∃ o,s.heap.get? b=some o/\∀ v,o.data≠.cell v):Inv X (pins ++ qko fp s.heap) σ H s:=
 I.pins_of λp hp=>(AD.mp hp).elim (λz=>I.pin p (AK _ z)) λz=>by
  obtain ⟨hb,e⟩:=qp1 z;obtain ⟨f0,f1,f2,_⟩:=hf p.1 hb;obtain ⟨o,e',d⟩:=ho p.1 hb;rw[e] at e';cases e';exact ⟨e,f0,f1,f2,d⟩
theorem Inv.unpinned {pins pl:List (Addr×Obj)} {σ:St} {H:Hp} {s:Shared} (I:Inv X (pins ++ pl) σ H s):Inv X pins σ H s:=I.pins_of λp hp=>I.pin p (AK _ (Cd _ hp))
theorem qec {iter:Expr} {body:List Stmt} {wi:TI} {g:TG} {tb:TS} {pos:Pos} (hp:PassesOwn (model X.prog X.w) X.A X.env X.xe) (hc:X.calm=true) (hi:PI X tg iter wi) (hg:PG X tg g) (hb:PSs X body tb)
  (hs:∀ x,foldedSetIterable iter X.env x=pure x:=by intro _;rfl):PS X (.For tg iter body [] pos) (qCh wi g tb):=by
 intro pins s σ H D I h;refine wpAny_For (thn (hi pins s σ H _ I h) λv s1 h1=>thn h1 λitv s2 h2=>?_) hs;obtain ⟨it,fp,tn,J,H2,e,I2,T,st2,f2,W,⟨m0,w0⟩,turn⟩:=h2;subst e;have stat:∀ {H':Hp},(∀ b∈fp,H' b=none)->∀ b∈fp,qm6 X pins H' b:=λhn b hb=>⟨hn b hb,(f2 b hb).2⟩
 refine codeAny_forLoop_any (λn s'=>∃ i σ' H',Inv X pins σ' H' s'/\tn i s'.heap/\(∀ b∈fp,H' b=none)/\W i n σ' H') ?_ m0 ⟨0,σ,H2,I2,st2,λb hb=>(f2 b hb).1,w0⟩;rintro n s3 ⟨i,σ3,H3,I3,st3,fr3,w3⟩
 rcases turn i n σ3 H3 w3 with ⟨stop,qn⟩|⟨go,N,hN,step⟩
 ·refine CQ hp (thn (T.done X rfl rfl rfl hc i pins s3 σ3 H3 X.xe I3 (stat fr3) st3 stop) λr s4 hq__=>?_)
  obtain ⟨hr,I4⟩:=hq__;subst hr;exact Ds ⟨σ3,H3,I4,qn⟩
 ·refine CQ hp (thn (T.item X rfl rfl rfl hc i pins s3 σ3 H3 X.xe I3 (stat fr3) st3 go) λr s4 hq__=>?_)
  obtain ⟨u,hr,h4⟩:=hq__;subst hr;refine CQ hp (thn h4 λ_ s5 hq__=>?_);obtain ⟨x,H5,I5,r5,y5,st5,fr5⟩:=hq__;have I5':=I5.pinned (stat fr5) (T.obj _ _ st5);refine CQ hp (thn (hg _ s5 σ3 H5 x u _ I5' r5 (step x H5 y5)) λ_ s6 hq__=>?_);obtain ⟨σ6,H6,I6,q6⟩:=hq__;refine CQ hp (thn (hb _ s6 σ6 H6 _ I6 q6) λf s7 q7=>?_);have again:∀ {σ7:St} {H7:Hp},Inv X (pins ++ qko fp s5.heap) σ7 H7 s7->N σ7 H7->∃ m,m<n/\∃ i σ' H',Inv X pins σ' H' s7/\tn i s7.heap/\(∀ b∈fp,H' b=none)/\W i m σ' H':=fun {σ7 H7} I7 n7=>by
   obtain ⟨m',hm,w7⟩:=hN σ7 H7 n7;refine ⟨m',hm,i+1,σ7,H7,I7.unpinned,T.keep _ _ _ st5 λb hb o e=>(I7.pin (b,o) (AK _ (AK _ (qfp hb e)))).1,λb hb=>?_,w7⟩;obtain ⟨o,e,d⟩:=T.obj _ _ st5 b hb;exact (I7.pin (b,o) (AK _ (AK _ (qfp hb e)))).2.1
  cases f with
  | next=>obtain ⟨σ7,H7,I7,n7⟩:=q7;exact again I7 n7
  | cont=>obtain ⟨σ7,H7,I7,n7⟩:=q7;exact again I7 n7
  | brk=>obtain ⟨σ7,H7,I7,q7⟩:=q7;exact ⟨σ7,H7,I7.unpinned,q7⟩
  | ret v=>obtain ⟨x7,σ7,H7,I7,r7,q7⟩:=q7;exact ⟨x7,σ7,H7,I7.unpinned,r7,q7⟩
end
theorem qc2 {K:Frag} {a:Addr} {xs:List V} {g:TG} {tb:TS} {D:Ends} {σ:St} {H:Hp} (Pv:Nat->St->Hp->Prop) (h0:Pv 0 σ H) (hl:∀ i σ H,i<=xs.length->Pv i σ H->SqL K H a xs)
  (hs:∀ i x σ H,xs[i]?=some x->Pv i σ H->g x σ H λσ2 H2=>tb { D with nx:=Pv (i+1),ct:=Pv (i+1),bk:=D.nx } σ2 H2) (hd:∀ σ H,Pv xs.length σ H->D.nx σ H) :
  ∃ W:Nat->Nat->St->Hp->Prop,(∃ m,W 0 m σ H)/\∀ i m σ H,W i m σ H ->
   ((Itl K a).stop i H/\D.nx σ H)\/((Itl K a).go i H/\∃ N:St->Hp->Prop,(∀ σ' H',N σ' H'->∃ m',m'<m/\W (i+1) m' σ' H')/\∀ x H',(Itl K a).yld i H x H'->g x σ H' λσ2 H2=>tb { D with nx:=N,ct:=N,bk:=D.nx } σ2 H2):=by
 refine ⟨λi m σ H=>m=xs.length-i/\i<=xs.length/\Pv i σ H,⟨xs.length,by simp,AW _,h0⟩,?_⟩;rintro i m σ H ⟨rfl,hi,p⟩;have q:=hl i σ H hi p
 by_cases hlt:i<xs.length
 ·refine .inr ⟨⟨xs,xs[i],q,by simp[hlt]⟩,Pv (i+1),λσ' H' p'=>⟨xs.length-(i+1),by omega,rfl,hlt,p'⟩,λx H' y=>?_⟩
  obtain ⟨e,y⟩:=y;subst e;exact hs i x σ _ (y xs q) p
 ·have e:i=xs.length:=by omega
  subst e;exact .inl ⟨⟨xs,q,Ag _⟩,hd σ H p⟩
theorem qp2 {lo:Int} {n:Nat} {g:TG} {tb:TS} {D:Ends} {σ:St} {H:Hp} (Pv:Nat->St->Hp->Prop) (h0:Pv 0 σ H)
  (hs:∀ i σ H,i<n->Pv i σ H->g (.int (lo+i)) σ H λσ2 H2=>tb { D with nx:=Pv (i+1),ct:=Pv (i+1),bk:=D.nx } σ2 H2) (hd:∀ σ H,Pv n σ H->D.nx σ H) :
  ∃ W:Nat->Nat->St->Hp->Prop,(∃ m,W 0 m σ H)/\∀ i m σ H,W i m σ H ->
   ((Itr lo n).stop i H/\D.nx σ H)\/((Itr lo n).go i H/\∃ N:St->Hp->Prop,(∀ σ' H',N σ' H'->∃ m',m'<m/\W (i+1) m' σ' H')/\∀ x H',(Itr lo n).yld i H x H'->g x σ H' λσ2 H2=>tb { D with nx:=N,ct:=N,bk:=D.nx } σ2 H2):=by
 refine ⟨λi m σ H=>m=n-i/\i<=n/\Pv i σ H,⟨n,by simp,AW _,h0⟩,?_⟩;rintro i m σ H ⟨rfl,hi,p⟩
 by_cases hlt:i<n
 ·refine .inr ⟨hlt,Pv (i+1),λσ' H' p'=>⟨n-(i+1),by omega,rfl,hlt,p'⟩,λx H' y=>?_⟩
  obtain ⟨e,y⟩:=y;subst e y;exact hs i σ _ hlt p
 ·have e:i=n:=by omega
  subst e;exact .inl ⟨Ag _,hd σ H p⟩
open PySem PySem.Spec PyProof.Rows
abbrev R2:=V->V->Hp->VK->Prop
def OpR (X:Cx) (f:Value->Value->Sem Value) (r:R2):Prop:=
 ∀ (pins:List (Addr×Obj)) (s:Shared) (σ:St) (H:Hp) (x y:V) (v u:Value) (Q:VK),Inv X pins σ H s->RelV x v->RelV y u->r x y H Q ->
  wpAny (model X.prog X.w) X.A (f v u) (EP X pins σ Q) X.xe s
def UnR (X:Cx) (f:Value->Sem Value) (r:V->Hp->VK->Prop):Prop:=
 ∀ (pins:List (Addr×Obj)) (s:Shared) (σ:St) (H:Hp) (x:V) (v:Value) (Q:VK),Inv X pins σ H s->RelV x v->r x H Q ->
  wpAny (model X.prog X.w) X.A (f v) (EP X pins σ Q) X.xe s
def CallR (X:Cx) (f:Value) (r:List V->Hp->VK->Prop):Prop:=
 ∀ (pins:List (Addr×Obj)) (s:Shared) (σ:St) (H:Hp) (xs:List V) (us:List Value) (Q:VK),Inv X pins σ H s->Vals xs us->r xs H Q ->
  wpAny (model X.prog X.w) X.A (call f us) (EP X pins σ Q) X.xe s
def tOp (r:R2) (ta tb:TE):TE:=λσ H Q=>ta σ H λx H1=>tb σ H1 λy H2=>r x y H2 Q
def tUn (r:V->Hp->VK->Prop) (ta:TE):TE:=λσ H Q=>ta σ H λx H1=>r x H1 Q
inductive rIS (C:Int->Int->Prop) (g:Int->Int->V) (x y:V) (H:Hp) (Q:VK):Prop
 | mk (i j:Int) (hx:x=.int i) (hy:y=.int j) (hc:C i j) (k:Q (g i j) H)
def rI (C:Int->Int->Prop) (g:Int->Int->V):R2:=λx y H Q=>rIS C g x y H Q
inductive rI0S (g:Int->Int->V) (x y:V) (H:Hp) (Q:VK):Prop
 | mk (i j:Int) (hx:x=.int i) (hy:y=.int j) (k:Q (g i j) H)
def rI0 (g:Int->Int->V):R2:=λx y H Q=>rI0S g x y H Q
inductive rUS (g:Int->V) (x:V) (H:Hp) (Q:VK):Prop
 | mk (i:Int) (h:x=.int i) (k:Q (g i) H)
def rU (g:Int->V):V->Hp->VK->Prop:=λx H Q=>rUS g x H Q
section
variable {X:Cx} {a b c:Expr} {ta tb tc:TE} {pos:Pos}
theorem qAf (ha:PE X a ta) (hb:PE X b tb) {pins:List (Addr×Obj)} {s:Shared} {σ:St} {H:Hp} {R:V->V->Hp->Prop} (I:Inv X pins σ H s)
  (h:ta σ H λx H1=>tb σ H1 λy H2=>R x y H2) {Q:Value->Shared->Prop} {f:Value->Value->Sem Value}
  (hf:∀ v u s2 x y H2,Inv X pins σ H2 s2->RelV x v->RelV y u->R x y H2->wpAny (model X.prog X.w) X.A (f v u) Q X.xe s2) :
  wpAny (model X.prog X.w) X.A (eval a X.env) (λv s₁=>wpAny (model X.prog X.w) X.A (eval b X.env) (λu s₂=>wpAny (model X.prog X.w) X.A (f v u) Q X.xe s₂) X.xe s₁) X.xe s:=by
 refine thn (ha pins s σ H _ I h) λv s1 hq__=>?_
 obtain ⟨x,H1,I1,r1,q1⟩:=hq__;refine thn (hb pins s1 σ H1 _ I1 q1) λu s2 hq__=>?_
 obtain ⟨y,H2,I2,r2,q2⟩:=hq__;exact hf v u s2 x y H2 I2 r1 r2 q2
theorem qai {op:Operator} {r:R2} (ho:OpR X (binaryOp op) r) (ha:PE X a ta) (hb:PE X b tb):PE X (.BinOp a op b pos) (tOp r ta tb):=by
 intro pins s σ H Q I h;exact wpAny_BinOp (qAf ha hb I h λv u s2 x y H2 I2 rx ry q=>ho pins s2 σ H2 x y v u Q I2 rx ry q)
theorem qgm {op:UnaryOp} {r:V->Hp->VK->Prop} (ho:UnR X (unaryOp op) r) (ha:PE X a ta):PE X (.UnaryOp op a pos) (tUn r ta):=by
 intro pins s σ H Q I h;exact UnaryOp_ (thn (ha pins s σ H _ I h) λv s1 ⟨x,H1,I1,r1,q1⟩=>ho pins s1 σ H1 x v Q I1 r1 q1)
theorem opI {f:Value->Value->Sem Value} {C:Int->Int->Prop} {g:Int->Int->Int}
  (rule:∀ (i j:Int) (t u:Tok) (s:Shared) (Q:Value->Shared->Prop) (E:Value->Shared->Prop),C i j->Q (.int (g i j) s.toks) { s with toks:=s.toks+1 }->wpAny (model X.prog X.w) X.A (f (.int i t) (.int j u)) Q E s) :
  OpR X f (rI C λi j=>.int (g i j)):=by
 intro pins s σ H x y v u Q I rx ry h;obtain ⟨i,j,rfl,rfl,hc,q⟩:=h;obtain ⟨t,rfl⟩:=rx;obtain ⟨t',rfl⟩:=ry;exact rule i j t t' s _ _ hc ⟨.int (g i j),H,I.tok _,⟨_,rfl⟩,q⟩
theorem qB1 {f:Value->Value->Sem Value} {g:Int->Int->Int}
  (rule:∀ (i j:Int) (t u:Tok) (s:Shared) (Q:Value->Shared->Prop) (E:Value->Shared->Prop),Q (.int (g i j) s.toks) { s with toks:=s.toks+1 }->wpAny (model X.prog X.w) X.A (f (.int i t) (.int j u)) Q E s) :
  OpR X f (rI0 λi j=>.int (g i j)):=by
 intro pins s σ H x y v u Q I rx ry h;obtain ⟨i,j,rfl,rfl,q⟩:=h;obtain ⟨t,rfl⟩:=rx;obtain ⟨t',rfl⟩:=ry;exact rule i j t t' s _ _ ⟨.int (g i j),H,I.tok _,⟨_,rfl⟩,q⟩
theorem qAg {f:Value->Value->Sem Value} {g:Int->Int->Bool}
  (rule:∀ (i j:Int) (t u:Tok) (s:Shared) (Q:Value->Shared->Prop) (E:Value->Shared->Prop),Q (.bool (g i j)) s->wpAny (model X.prog X.w) X.A (f (.int i t) (.int j u)) Q E s) :
  OpR X f (rI0 λi j=>.bl (g i j)):=by
 intro pins s σ H x y v u Q I rx ry h;obtain ⟨i,j,rfl,rfl,q⟩:=h;obtain ⟨t,rfl⟩:=rx;obtain ⟨t',rfl⟩:=ry;exact rule i j t t' s _ _ ⟨.bl (g i j),H,I,rfl,q⟩
def qCi (i j:Int):Prop:=0<j/\j<1073741824
def qCj (i j:Int):Prop:=0<=j/\j<=1000000/\i.natAbs<2 ^ 64
def CMul (i j:Int):Prop:=(-(2 ^ 64)<i/\i<2 ^ 64)\/(-(2 ^ 64)<j/\j<2 ^ 64)
theorem CMul.ok {i j:Int} (h:CMul i j):IntMulOk i j:=by
 rcases h with ⟨h1,h2⟩|⟨h1,h2⟩
 ·exact .of_left (intBits_le_64 h1 h2)
 ·exact .of_right (intBits_le_64 h1 h2)
theorem qba:OpR X (binaryOp .Add) (rI0 λi j=>.int (i+j)):=qB1 λ_ _ _ _ _ _ _ q=>add_int q
theorem qed:OpR X (binaryOp .Sub) (rI0 λi j=>.int (i-j)):=qB1 λ_ _ _ _ _ _ _ q=>sub_int q
theorem qga:OpR X (binaryOp .Mult) (rI CMul λi j=>.int (i*j)):=opI λ_ _ _ _ _ _ _ hc q=>mul_int q hc.ok
theorem qcy:OpR X (binaryOp .FloorDiv) (rI qCi λi j=>.int (i / j)):=opI λi j _ _ _ _ _ hc q=>by
 have h1:(0:Int)<j:=hc.1;have h2:j<1073741824:=hc.2;exact floordiv_int (by omega) (by rw[En i (by omega)];exact q) (.inl (PyProof.noPylong_small (by omega)))
theorem qa2:OpR X (binaryOp .Mod) (rI (λ_ j=>0<j) λi j=>.int (i % j)):=opI λi j _ _ _ _ _ hc q=>by
 have h1:(0:Int)<j:=hc;exact mod_int' (by omega) (by rw[Int.fmod_eq_emod_of_nonneg i (by omega)];exact q)
theorem qgb:OpR X (binaryOp .Pow) (rI qCj λi j=>.int (i ^ j.toNat)):=opI λ_ _ _ _ _ _ _ hc q=>pow_int_small hc.1 hc.2.1 hc.2.2 q
theorem unI {f:Value->Sem Value} {g:Int->Int}
  (rule:∀ (i:Int) (t:Tok) (s:Shared) (Q:Value->Shared->Prop) (E:Value->Shared->Prop),Q (.int (g i) s.toks) { s with toks:=s.toks+1 }->wpAny (model X.prog X.w) X.A (f (.int i t)) Q E s) :
  UnR X f (rU λi=>.int (g i)):=by
 intro pins s σ H x v Q I rx h;obtain ⟨i,rfl,q⟩:=h;obtain ⟨t,rfl⟩:=rx;exact rule i t s _ _ ⟨.int (g i),H,I.tok _,⟨_,rfl⟩,q⟩
theorem qep:UnR X (unaryOp .USub) (rU λi=>.int (-i)):=unI λ_ _ _ _ _ q=>neg_int q
end
def qAy:V->V->Bool
 | .non,.non=>true|.non,.int _=>true|.int _,.non=>true|.non,.bl _=>true|.bl _,.non=>true|.non,.str _=>true|.str _,.non=>true
 | .int _,.int _=>true|.bl _,.bl _=>true|.str _,.str _=>true|.byt _,.byt _=>true
 | .int _,.str _=>true|.str _,.int _=>true|.bl _,.str _=>true|.str _,.bl _=>true
 | _,_=>false
def rEq:R2:=λx y H Q=>qAy x y=true/\Q (.bl (decide (x=y))) H
def rNe:R2:=λx y H Q=>qAy x y=true/\Q (.bl (!decide (x=y))) H
theorem qp3 {i j:Int}:decide (V.int i=V.int j)=(i == j):=by
 rw[CT]
 simp
theorem que {i j:Bool}:decide (V.bl i=V.bl j)=(i == j):=by
 rw[CT]
 simp
theorem qp4 {i j:Str}:decide (V.str i=V.str j)=(i == j):=by
 rw[CT]
 simp
theorem qp5 {i j:Array UInt8}:decide (V.byt i=V.byt j)=(i.toList == j.toList):=by
 rw[CT];cases i;cases j
 simp
section
variable {X:Cx} {a b c:Expr} {ta tb tc:TE} {pos:Pos}
theorem qbg {pins:List (Addr×Obj)} {σ:St} {H:Hp} {s:Shared} {Q:VK} {k k':Bool} (I:Inv X pins σ H s) (q:Q (.bl k) H) (e:k=k'):EP X pins σ Q (.bool k') s:=by
 subst e;exact ⟨.bl k,H,I,rfl,q⟩
theorem qjr:OpR X (compareOp .Eq) rEq:=by
 intro pins s σ H x y v u Q I rx ry h;obtain ⟨hs,q⟩:=h
 cases x with
 | non =>
  cases rx
  cases y with
  | non=>cases ry;exact PySem.EqNone.eq_none_none (qbg I q (by simp))
  | bl j=>cases ry;exact PySem.EqNone.eq_none_bool (qbg I q (by simp))
  | int j=>obtain ⟨t',rfl⟩:=ry;exact PySem.EqNone.eq_none_int (qbg I q (by simp))
  | str j=>obtain ⟨t',rfl⟩:=ry;exact PySem.EqNone.eq_none_str (qbg I q (by simp))
  | _=>exact absurd (show false=true from hs) AA
 | bl i =>
  cases rx
  cases y with
  | non=>cases ry;exact PySem.EqNone.eq_bool_none (qbg I q (by simp))
  | bl j=>cases ry;exact eq_bool (qbg I q que)
  | str j=>obtain ⟨t',rfl⟩:=ry;exact PySem.EqMixed.eq_bool_str (qbg I q (by simp))
  | _=>exact absurd (show false=true from hs) AA
 | int i =>
  obtain ⟨t,rfl⟩:=rx
  cases y with
  | non=>cases ry;exact PySem.EqNone.eq_int_none (qbg I q (by simp))
  | int j=>obtain ⟨t',rfl⟩:=ry;exact eq_int (qbg I q qp3)
  | str j=>obtain ⟨t',rfl⟩:=ry;exact PySem.EqMixed.eq_int_str (qbg I q (by simp))
  | _=>exact absurd (show false=true from hs) AA
 | str i =>
  obtain ⟨t,rfl⟩:=rx
  cases y with
  | non=>cases ry;exact PySem.EqNone.eq_str_none (qbg I q (by simp))
  | bl j=>cases ry;exact PySem.EqMixed.eq_str_bool (qbg I q (by simp))
  | int j=>obtain ⟨t',rfl⟩:=ry;exact PySem.EqMixed.eq_str_int (qbg I q (by simp))
  | str j=>obtain ⟨t',rfl⟩:=ry;exact eq_str (qbg I q qp4)
  | _=>exact absurd (show false=true from hs) AA
 | byt i =>
  obtain ⟨t,rfl⟩:=rx
  cases y with
  | byt j=>obtain ⟨t',rfl⟩:=ry;exact PySem.W.eq_bytes (qbg I q qp5)
  | _=>exact absurd (show false=true from hs) AA
 | _=>cases y<;>exact absurd (show false=true from hs) AA
theorem qop:OpR X (compareOp .NotEq) rNe:=by
 intro pins s σ H x y v u Q I rx ry h;obtain ⟨hs,q⟩:=h
 cases x with
 | non =>
  cases rx
  cases y with
  | non=>cases ry;exact PySem.EqNone.ne_none_none (qbg I q (by simp))
  | bl j=>cases ry;exact PySem.EqNone.ne_none_bool (qbg I q (by simp))
  | int j=>obtain ⟨t',rfl⟩:=ry;exact PySem.EqNone.ne_none_int (qbg I q (by simp))
  | str j=>obtain ⟨t',rfl⟩:=ry;exact PySem.EqNone.ne_none_str (qbg I q (by simp))
  | _=>exact absurd (show false=true from hs) AA
 | bl i =>
  cases rx
  cases y with
  | non=>cases ry;exact PySem.EqNone.ne_bool_none (qbg I q (by simp))
  | bl j=>cases ry;exact ne_bool (qbg I q (congrArg not que))
  | str j=>obtain ⟨t',rfl⟩:=ry;exact PySem.EqMixed.ne_bool_str (qbg I q (by simp))
  | _=>exact absurd (show false=true from hs) AA
 | int i =>
  obtain ⟨t,rfl⟩:=rx
  cases y with
  | non=>cases ry;exact PySem.EqNone.ne_int_none (qbg I q (by simp))
  | int j=>obtain ⟨t',rfl⟩:=ry;exact ne_int (qbg I q (congrArg not qp3))
  | str j=>obtain ⟨t',rfl⟩:=ry;exact PySem.EqMixed.ne_int_str (qbg I q (by simp))
  | _=>exact absurd (show false=true from hs) AA
 | str i =>
  obtain ⟨t,rfl⟩:=rx
  cases y with
  | non=>cases ry;exact PySem.EqNone.ne_str_none (qbg I q (by simp))
  | bl j=>cases ry;exact PySem.EqMixed.ne_str_bool (qbg I q (by simp))
  | int j=>obtain ⟨t',rfl⟩:=ry;exact PySem.EqMixed.ne_str_int (qbg I q (by simp))
  | str j=>obtain ⟨t',rfl⟩:=ry;exact ne_str (qbg I q (congrArg not qp4))
  | _=>exact absurd (show false=true from hs) AA
 | byt i =>
  obtain ⟨t,rfl⟩:=rx
  cases y with
  | byt j=>obtain ⟨t',rfl⟩:=ry;exact PySem.W.ne_bytes (qbg I q (congrArg not qp5))
  | _=>exact absurd (show false=true from hs) AA
 | _=>cases y<;>exact absurd (show false=true from hs) AA
theorem qjs:OpR X (compareOp .Lt) (rI0 λi j=>.bl (decide (i<j))):=qAg λ_ _ _ _ _ _ _ q=>lt_int q
theorem qx5:OpR X (compareOp .LtE) (rI0 λi j=>.bl (decide (i<=j))):=qAg λ_ _ _ _ _ _ _ q=>le_int q
theorem qvi:OpR X (compareOp .Gt) (rI0 λi j=>.bl (decide (j<i))):=qAg λ_ _ _ _ _ _ _ q=>gt_int q
theorem qAz:OpR X (compareOp .GtE) (rI0 λi j=>.bl (decide (j<=i))):=qAg λ_ _ _ _ _ _ _ q=>ge_int q
theorem qp6:OpR X (compareOp .In) (λx y H Q=>∃ i j,x=.str i/\y=.str j/\Q (.bl (!(Builtin.Str.occurrences j i 0 j.length 1).isEmpty)) H):=by
 intro pins s σ H x y v u Q I rx ry h;obtain ⟨i,j,rfl,rfl,q⟩:=h;obtain ⟨t,rfl⟩:=rx;obtain ⟨t',rfl⟩:=ry;exact in_str (qbg I q rfl)
theorem qhm:OpR X (compareOp .Is) (λx y H Q=>y=.non/\Q (.bl (decide (x=.non))) H):=by
 intro pins s σ H x y v u Q I rx ry h;obtain ⟨rfl,q⟩:=h;cases ry;refine is_none_gen (qbg I q ?_)
 cases x<;>first
  | (cases rx;rfl)
  | (obtain ⟨t,rfl⟩:=rx;rfl)
theorem qmg:OpR X (compareOp .IsNot) (λx y H Q=>y=.non/\Q (.bl (!decide (x=.non))) H):=by
 intro pins s σ H x y v u Q I rx ry h;obtain ⟨rfl,q⟩:=h;cases ry;refine isnot_none_gen (qbg I q ?_)
 cases x<;>first
  | (cases rx;rfl)
  | (obtain ⟨t,rfl⟩:=rx;rfl)
theorem qay (b:Expr) {op:CmpOp} (h:op≠.In:=by decide) (h2:op≠.NotIn:=by decide):behindInMarks op b=false:=by
 have e1:(op == CmpOp.In)=false:=by cases op<;>first|rfl|exact absurd rfl h
 have e2:(op == CmpOp.NotIn)=false:=by cases op<;>first|rfl|exact absurd rfl h2
 cases b<;>simp[behindInMarks,e1,e2]
theorem qew {op:CmpOp} {r:R2} (ho:OpR X (compareOp op) r) (ha:PE X a ta) (hb:PE X b tb) (hm:behindInMarks op b=false):PE X (.Compare a [op] [b] pos) (tOp r ta tb):=by
 intro pins s σ H Q I h;exact wpAny_Compare1 (qAf ha hb I h λv u s2 x y H2 I2 rx ry q=>ho pins s2 σ H2 x y v u Q I2 rx ry q) hm
def qx6 (t:TE):TT:=λσ H Q=>t σ H λx H'=>∃ k,x=.bl k/\Q k H'
theorem qav {op:CmpOp} {r:R2} (ho:OpR X (compareOp op) r) (ha:PE X a ta) (hb:PE X b tb) (hm:behindInMarks op b=false):PT X (.Compare a [op] [b] pos) (qx6 (tOp r ta tb)):=by
 intro pins s σ H Q I h;refine EX (thn (ha pins s σ H _ I h) λv s1 ⟨x,H1,I1,r1,q1⟩=>thn (hb pins s1 σ H1 _ I1 q1) λu s2 ⟨y,H2,I2,r2,q2⟩ =>
  thn (ho pins s2 σ H2 x y v u _ I2 r1 r2 q2) λc s3 ⟨z,H3,I3,r3,k,e,q3⟩=>?_) hm
 subst e;cases r3;exact BV ⟨H3,I3,q3⟩
theorem qm7:(sizeLine:Nat)<2 ^ 63:=by rw[Bh];decide
theorem qfq:OpR X (binaryOp .Add) (λx y H Q=>∃ i j,x=.str i/\y=.str j/\i.length+j.length<=sizeLine/\Q (.str (i ++ j)) H):=by
 intro pins s σ H x y v u Q I rx ry h;obtain ⟨i,j,rfl,rfl,hz,q⟩:=h;obtain ⟨t,rfl⟩:=rx;obtain ⟨t',rfl⟩:=ry;exact add_str (λt' tk=>⟨.str (i ++ j),H,I.tok _,⟨_,rfl⟩,q⟩) hz
def qsy (b:Expr):Prop:=∀ o i,subscripted b false o i=operate [o,i] (getItem o i)
theorem vals1 {x:V} {us:List Value} (r:Vals [x] us):∃ u,us=[u]/\RelV x u:=by
 cases r with
 | cons r1 r2=>cases r2;exact ⟨_,rfl,r1⟩
theorem vals2 {x y:V} {us:List Value} (r:Vals [x,y] us):∃ u w',us=[u,w']/\RelV x u/\RelV y w':=by
 cases r with
 | cons r1 r2 =>
  cases r2 with
  | cons r3 r4=>cases r4;exact ⟨_,_,rfl,r1,r3⟩
theorem qkp (hc:X.calm=true):CallR X (.builtin "max") (λxs H Q=>∃ i j,xs=[.int i,.int j]/\Q (.int (if j>i then j else i)) H):=by
 intro pins s σ H xs us Q I r h;obtain ⟨i,j,rfl,q⟩:=h;obtain ⟨u,w',rfl,⟨t,rfl⟩,⟨t',rfl⟩⟩:=vals2 r;refine max_two_ints (I.ok.hd hc) λh' tk k=>⟨_,H,I.kept k,?_,q⟩
 by_cases hj:j>i
 ·rw[Ak hj,Ak hj];exact ⟨_,rfl⟩
 ·rw[Ah hj,Ah hj];exact ⟨_,rfl⟩
theorem qp7 (hc:X.calm=true):CallR X (.builtin "min") (λxs H Q=>∃ i j,xs=[.int i,.int j]/\Q (.int (if j<i then j else i)) H):=by
 intro pins s σ H xs us Q I r h;obtain ⟨i,j,rfl,q⟩:=h;obtain ⟨u,w',rfl,⟨t,rfl⟩,⟨t',rfl⟩⟩:=vals2 r;refine min_two_ints (I.ok.hd hc) λh' tk k=>⟨_,H,I.kept k,?_,q⟩
 by_cases hj:j<i
 ·rw[Ak hj,Ak hj];exact ⟨_,rfl⟩
 ·rw[Ah hj,Ah hj];exact ⟨_,rfl⟩
def qCk (K:Frag) (x:V) (H:Hp) (n:Nat):Prop:=
 match x with
 | .str y=>y.length<=sizeLine/\n=y.length
 | .byt y=>y.size<=sizeLine/\n=y.size
 | .ref p=>(∃ xs,SqL K H p xs/\n=xs.length)\/∃ xs,SqT K H p xs/\n=xs.length
 | _=>False
theorem qsz:CallR X (.builtin "len") (λxs H Q=>∃ x n,xs=[x]/\qCk X.K x H n/\Q (.int n) H):=by
 intro pins s σ H xs us Q I r h;obtain ⟨x,n,rfl,e,q⟩:=h;obtain ⟨u,rfl,rx⟩:=vals1 r;have hl:=qm7;have hs:sizeLine=16777216:=Bh
 cases x with
 | str y =>
  obtain ⟨t,rfl⟩:=rx;obtain ⟨hy,e'⟩:y.length<=sizeLine/\n=y.length:=e;subst e';exact len_str (by omega) ⟨.int _,H,I.tok _,⟨_,rfl⟩,q⟩
 | byt y =>
  obtain ⟨t,rfl⟩:=rx;obtain ⟨hy,e'⟩:y.size<=sizeLine/\n=y.size:=e;subst e';exact PySem.W.len_bytes (by omega) ⟨.int _,H,I.tok _,⟨_,rfl⟩,q⟩
 | ref p =>
  cases rx;have e':(∃ xs,SqL X.K H p xs/\n=xs.length)\/∃ xs,SqT X.K H p xs/\n=xs.length:=e
  rcases e' with ⟨xs,hx,e'⟩|⟨xs,hx,e'⟩
  ·subst e'
   obtain ⟨its,r',pl,hz⟩:=I.list hx;have hlen:=r'.length;exact Calls.call_len_list pl.isList (by simp only[Ax];omega) ⟨.int xs.length,H,I.tok _,⟨_,by simp only[Ax];rw[hlen]⟩,q⟩
  ·subst e'
   obtain ⟨its,r',pl,hz⟩:=I.tuple hx;have hlen:=r'.length;exact len_tuple pl (by simp only[Ax];omega) ⟨.int xs.length,H,I.tok _,⟨_,by simp only[Ax];rw[hlen]⟩,q⟩
 | _=>exact (show False from e).elim
end
open PySem PySem.Spec PyProof.Rows
structure ObjM (h:Heap) (x dx C:Addr) (mA:Str->Option Value):Prop where
 obj:h.get? x=some (PySem.W.instObj C dx)
 ns:h.Ns1 dx mA
 ne:dx≠x
theorem qkq {h:Heap} {dx:Addr} {mA:Str->Option Value} (n:h.Ns1 dx mA):∃ od,h.get? dx=some od/\∀ name,PySem.W.lookIn name od=some (mA name):=by
 obtain ⟨o,es,ep,ho,hd,hk,_,hm⟩:=n;refine ⟨o,ho,λname=>?_⟩;have e:=hm name;unfold nsFind findBy at e;rw[<- Array.find?_toList] at e;unfold PySem.W.lookIn;rw[hd];dsimp only
 split
 ·rename_i y q
  rw[q] at e;exact congrArg some e
 ·rename_i q
  rw[q] at e;have a:es.toList.any (·.refKey)=false:=by
   rw[List.any_eq_false];intro y hy;obtain ⟨z,t,hkey⟩:=hk y (Array.mem_toList_iff.mp hy)
   simp[DictEntry.refKey,hkey]
  have a':¬ es.toList.any (·.refKey)=true:=by rw[a];exact AA
  rw[Ah a'];exact congrArg some e
theorem ObjM.look {h:Heap} {x dx C:Addr} {mA:Str->Option Value} (I:ObjM h x dx C mA):∃ od,PySem.W.InstAt h x (PySem.W.instObj C dx) C (some od)/\∀ name,PySem.W.lookIn name od=some (mA name):=
 let ⟨od,ho,hl⟩:=qkq I.ns
 ⟨od,⟨I.obj,rfl,rfl,ho⟩,hl⟩
section
variable {prog:Program} {w:World} {A:Around} {E:Value->Shared->Prop} {s:Shared} {K:Frag} {x dx C f:Addr} {mA:Str->Option Value} {name:Str} {v:Value}
theorem qvj {expr:Bool} {Q:Value->Shared->Prop} (X:K.In s.heap) (I:ObjM s.heap x dx C mA) (hg:PySem.W.plainGet K C name=true) (hh:PySem.W.hasDictIn K C=true)
  (ha:PySem.W.findIn K (.ref C) name=some none) (hv:mA name=some v) (hv':PySem.W.handedIn v=true) (h:Q v { s with toks:=s.toks+1 }) :
  wpAny (model prog w) A (getAttr (.ref x) name expr) Q E s:=by
 obtain ⟨od,J,hl⟩:=I.look;exact PySem.W.get_value X J (DF hg).1 (PySem.W.findObj_own hh ha rfl (by rw[hl,hv])) hv' h
theorem qs0 {pl:Sem Bool} {Q:Value×List Value->Shared->Prop} (X:K.In s.heap) (I:ObjM s.heap x dx C mA) (hg:PySem.W.plainGet K C name=true)
  (hf:PySem.W.findIn K (.ref C) name=some (some (.ref f))) (ht:PySem.W.isFn K (.ref f)=true) (hv:mA name=none) (h:Q (.ref f,[.ref x]) s) :
  wpAny (model prog w) A (getMethod (.ref x) name pl) Q E s:=by
 obtain ⟨od,J,hl⟩:=I.look;exact PySem.W.method_fn X J (DF hg).1 (DF hg).2 hf (B5.mp ht) (by show (PySem.W.lookIn name od).map (·.isSome)=some false;rw[hl,hv];rfl) h
theorem qvk {ns:List Str} {Q:Unit->Shared->Prop} (X:K.In s.heap) (I:ObjM s.heap x dx C mA)
  (hs:PySem.W.findIn K (.ref C) "__setattr__" = some (some (.builtin "object.__setattr__"))) (hp:PySem.W.plainOver K C=true) (ht:PySem.W.takerIn K C name=some none) (hh:PySem.W.hasDictIn K C=true)
  (hw:PySem.Within mA ns) (hsz:ns.length<=sizeLine)
  (h:∀ h',ObjM h' x dx C (λy=>if y=name then some v else mA y)->Heap.SameBut dx s.heap h'->Q () { s with heap:=h',toks:=s.toks+2 }) :
  wpAny (model prog w) A (setAttr (.ref x) name v) Q E s:=by
 obtain ⟨od,J,hl⟩:=I.look;refine PySem.W.set_plain X J hs (PySem.W.osa_open (s:={ s with toks:=s.toks+1 }) (r:=none) X J hp ht λb=>?_);obtain ⟨cd,hc,hd'⟩:=PySem.W.any_some hh;have hx:s.heap.get? x=some ⟨.ref C,some dx,.plain,#[]⟩:=I.obj;refine Aa (Ae (Aa (Aa (wpAny_loadPart hx (Aa (PySem.W.Looks.here (s:={ s with toks:=s.toks+1 }) (PySem.W.looks_clsIn X hc) ?_))))));rw[hd'];refine Ae (a:=some dx) (Aa (Ae (Aa ?_)));refine wpAny_nsSet1 (s:={ s with toks:=s.toks+1 }) I.ns λh' hn2 hs2=>?_
 obtain ⟨oD,esD,epD,hoD,hdD,hcD⟩:=hn2.count (PySem.Within.cons name v hw);refine Aa (wpAny_lookBehind hoD (by rw[hdD];exact pastItsLine_dict (AV hcD (by rw[AB];omega))) ?_);exact Ae (h _ ⟨(hs2.2 _ (AX I.ne)).trans I.obj,hn2,I.ne⟩ hs2)
theorem qs1 {R:Result->Shared->Prop} {vs:List Value} {kw:List (Str×Value)} (X:K.In s.heap) (hm:PySem.W.makesIn K C=true)
  (hi:PySem.W.findIn K (.ref C) "__init__" = some (some (.ref f))) (hf:PySem.W.typeIn K (.ref f)=some (.type "function"))
  (h:codeAny (model prog w) (A.under (.builtin "type.__call__" ⟨.ref C :: vs,kw⟩)) (.call (.ref f) ⟨.ref (s.heap.objs.size+1) :: vs,kw⟩) (PySem.W.InitBack (s.heap.objs.size+1) R)
   {s with heap:=(s.heap.push PySem.W.emptyDict).push (PySem.W.instObj C s.heap.objs.size) }) :
  codeAny (model prog w) A (.call (.ref C) ⟨vs,kw⟩) R s:=by
 obtain ⟨hh,g,d,t,os⟩:=s;exact PySem.W.make_core (PySem.W.makes_of X hm) (BA X hi) (λself=>PySem.W.bind_fn X self hf) (.inl rfl) h
end
def qf8 (f:Str) (v:V):List (Str×V)->List (Str×V)
 | []=>[(f,v)]
 | (g,x) :: r=>if g=f then (g,v) :: r else (g,x) :: qf8 f v r
theorem qah (f g:Str) (v:V):∀ fs:List (Str×V),(qf8 f v fs).lookup g=if g=f then some v else fs.lookup g
 | []=>by
  show List.lookup g [(f,v)]=_
  by_cases h:g=f
  ·have hb:(g == f)=true:=B5.mpr h
   simp only[List.lookup,hb,Ak h]
  ·have hb:(g == f)=false:=BL.mpr h
   simp only[List.lookup,hb,Ah h]
 | (k,x) :: r=>by
  have ih:=qah f g v r;rw[show qf8 f v ((k,x) :: r)=(if k=f then (k,v) :: r else (k,x) :: qf8 f v r) from rfl]
  by_cases hk:k=f
  ·rw[Ak hk]
   by_cases h:g=k
   ·have hb:(g == k)=true:=B5.mpr h
    simp only[List.lookup,hb,Ak (h.trans hk)]
   ·have hb:(g == k)=false:=BL.mpr h
    simp only[List.lookup,hb,Ah (λe:g=f=>h (e.trans hk.symm))]
  ·rw[Ah hk]
   by_cases h:g=k
   ·have hb:(g == k)=true:=B5.mpr h
    simp only[List.lookup,hb,Ah (λe:g=f=>hk (h.symm.trans e))]
   ·have hb:(g == k)=false:=BL.mpr h
    simp only[List.lookup,hb];exact ih
theorem qhn (f:Str) (v:V):∀ fs:List (Str×V),f∈(qf8 f v fs).map (·.1)/\∀ g,g∈fs.map (·.1)->g∈(qf8 f v fs).map (·.1)
 | []=>⟨by simp[qf8],λg h=>by simp at h⟩
 | (k,x) :: r=>by
  obtain ⟨i1,i2⟩:=qhn f v r;rw[show qf8 f v ((k,x) :: r)=(if k=f then (k,v) :: r else (k,x) :: qf8 f v r) from rfl]
  by_cases hk:k=f
  ·rw[Ak hk]
   subst hk;exact ⟨by simp,λg h=>by simpa using h⟩
  ·rw[Ah hk]
   refine ⟨?_,λg h=>?_⟩
   ·rw[Aw]
    exact An _ i1
   ·rw[Aw] at h ⊢
    rcases Ai.mp h with e|e
    ·exact Ai.mpr (.inl e)
    ·exact An _ (i2 g e)
theorem qho (f:Str) (v:V):∀ fs:List (Str×V),(qf8 f v fs).length<=fs.length+1
 | []=>by simp[qf8]
 | (k,x) :: r=>by
  have ih:=qho f v r;rw[show qf8 f v ((k,x) :: r)=(if k=f then (k,v) :: r else (k,x) :: qf8 f v r) from rfl]
  by_cases hk:k=f
  ·rw[Ak hk,AB,AB];omega
  ·rw[Ah hk,AB,AB];omega
theorem RelO.some_of {v:V} {o:Option Value} (r:RelO (some v) o):∃ u,o=some u/\RelV v u:=by
 cases o with
 | none=>exact (show False from r).elim
 | some u=>exact ⟨u,rfl,r⟩
theorem RelO.none_of {o:Option Value} (r:RelO none o):o=none:=by
 cases o with
 | none=>rfl
 | some u=>exact (show False from r).elim
theorem qkr {v:V} {u:Value} (r:RelV v u):PySem.W.handedIn u=true:=by
 cases v with
 | non=>cases (show u=Value.none from r);rfl
 | bl b=>cases (show u=Value.bool b from r);rfl
 | int i=>obtain ⟨t,e⟩:=(show ∃ t,u=Value.int i t from r);cases e;rfl
 | str x=>obtain ⟨t,e⟩:=(show ∃ t,u=Value.str x t from r);cases e;rfl
 | byt b=>obtain ⟨t,e⟩:=(show ∃ t,u=Value.bytes b t from r);cases e;rfl
 | flt b=>obtain ⟨t,e⟩:=(show ∃ t,u=Value.float b t from r);cases e;rfl
 | ref a=>cases (show u=Value.ref a from r);rfl
 | ty n=>cases (show u=Value.type n from r);rfl
section
variable {P:Program} {w:World} {H H':Hp} {h h':Heap} {a C dx:Addr} {fs fs':List (Str×V)}
theorem qjt (hok:HOk P w H h) (e:H a=some (.ins C dx fs)):∃ mA,ObjM h a dx C mA/\(∀ f,RelO (fs.lookup f) (mA f))/\PySem.Within mA (fs.map (·.1))/\fs.length<=1000/\H dx=some (.own a):=by
 obtain ⟨d,z,ne,ob,mA,n,r,q⟩:=(show ObjOk P w H h a (.ins C dx fs) from hok a _ e);exact ⟨mA,⟨ob,n,ne⟩,r,q,z,d⟩
end
structure Cls (K:Frag) (C:Addr):Prop where
 pg:PySem.W.plainGet K C Str.empty=true
 hd:PySem.W.hasDictIn K C=true
 po:PySem.W.plainOver K C=true
 sa:PySem.W.findIn K (.ref C) "__setattr__" = some (some (.builtin "object.__setattr__"))
theorem Cls.get {K:Frag} {C:Addr} (c:Cls K C) (f:Str):PySem.W.plainGet K C f=true:=c.pg
def NoAttr (K:Frag) (C:Addr) (f:Str):Prop:=PySem.W.findIn K (.ref C) f=some none
theorem NoAttr.taker {K:Frag} {C:Addr} {f:Str} (n:NoAttr K C f):PySem.W.takerIn K C f=some none:=by
 unfold PySem.W.takerIn;rw[show PySem.W.findIn K (.ref C) f=some none from n]
 rfl
structure qgz (K:Frag) (C:Addr) (m:Str) (f:Addr):Prop where
 at_:PySem.W.findIn K (.ref C) m=some (some (.ref f))
 fn:PySem.W.isFn K (.ref f)=true
 kp:keepIn K (.ref f)=true
section
variable {X:Cx} {pins:List (Addr×Obj)} {σ:St} {H:Hp} {s:Shared} {a C dx:Addr} {fs:List (Str×V)} {f:Str} {v:V} {A:Around} {E:Value->Shared->Prop}
theorem qoq {b:Bool} {Q:Value->Shared->Prop} (I:Inv X pins σ H s) (e:H a=some (.ins C dx fs)) (c:Cls X.K C) (n:NoAttr X.K C f) (l:fs.lookup f=some v)
  (h:∀ u s',Inv X pins σ H s'->RelV v u->Q u s'):wpAny (model X.prog X.w) A (getAttr (.ref a) f b) Q E s:=by
 obtain ⟨mA,O,r,_,_,_⟩:=qjt I.hok e;obtain ⟨u,hu,ru⟩:=RelO.some_of (v:=v) (o:=mA f) (by rw[<- l];exact r f);exact qvj I.kIn O (c.get f) c.hd n hu (qkr ru) (h u _ (I.tok _) ru)
theorem qfr {m:Str} {g:Addr} {pl:Sem Bool} {Q:Value×List Value->Shared->Prop} (I:Inv X pins σ H s) (e:H a=some (.ins C dx fs)) (c:Cls X.K C) (k:qgz X.K C m g) (l:fs.lookup m=none)
  (h:Q (.ref g,[.ref a]) s):wpAny (model X.prog X.w) A (getMethod (.ref a) m pl) Q E s:=by
 obtain ⟨mA,O,r,_,_,_⟩:=qjt I.hok e;have hn:mA m=none:=RelO.none_of (by rw[<- l];exact r m);exact qs0 I.kIn O (c.get m) k.at_ k.fn hn h
theorem qor {y:V} {u:Value} {Q:Unit->Shared->Prop} (I:Inv X pins σ H s) (e:H a=some (.ins C dx fs)) (c:Cls X.K C) (n:NoAttr X.K C f) (hl:fs.length<1000) (ry:RelV y u)
  (h:∀ s',Inv X pins σ (upd H a (.ins C dx (qf8 f y fs))) s'->Q () s'):wpAny (model X.prog X.w) A (setAttr (.ref a) f u) Q E s:=by
 obtain ⟨mA,O,r,wi,_,ho⟩:=qjt I.hok e;have hz:(fs.map (·.1)).length<=sizeLine:=by rw[Ad,Bh];omega
 refine qvk I.kIn O c.sa c.po n.taker c.hd wi hz λh' O' sb=>h _ ?_
 have hd:∃ o,h'.get? dx=some o:=let ⟨o,_,_,e',_⟩:=O'.ns;⟨o,e'⟩
 refine I.write (x:=a) (e:=dx) (by rw[e];exact True.intro) (.inr ho) (λb q hb z=>(sb.2 b hb).trans z) hd ?_;refine ⟨by rw[qa1 O.ne];exact ho,?_,O.ne,O'.obj,_,O'.ns,λg=>?_,λg hg=>?_⟩
 ·have:=qho f y fs;omega
 ·show RelO ((qf8 f y fs).lookup g) (if g=f then some u else mA g)
  rw[qah]
  by_cases q:g=f
  ·rw[Ak q,Ak q];exact ry
  ·rw[Ah q,Ah q];exact r g
 ·by_cases q:g=f
  ·rw[q];exact (qhn f y fs).1
  ·refine (qhn f y fs).2 g (wi g λz=>hg ?_)
   show (if g=f then some u else mA g)=none
   rw[Ah q];exact z
theorem Inv.made (I:Inv X pins σ H s):Inv X pins σ (upd (upd H s.heap.objs.size (.own (s.heap.objs.size+1))) (s.heap.objs.size+1) (.ins C s.heap.objs.size []))
  {s with heap:=(s.heap.push PySem.W.emptyDict).push (PySem.W.instObj C s.heap.objs.size) }:=by
 have e1:(s.heap.push PySem.W.emptyDict).get? s.heap.objs.size=some PySem.W.emptyDict:=Ao s.heap rfl;have e2:((s.heap.push PySem.W.emptyDict).push (PySem.W.instObj C s.heap.objs.size)).get? (s.heap.objs.size+1)=some (PySem.W.instObj C s.heap.objs.size):=by
  have:=Ao (s.heap.push PySem.W.emptyDict) (o:=PySem.W.instObj C s.heap.objs.size) rfl
  rwa [Bq] at this
 have e3:(s.heap.push PySem.W.emptyDict).Ns s.heap.objs.size (λ_=>none):=⟨PySem.W.emptyDict,#[],_,e1,rfl,(λe he=>absurd he (by simp)),λ_=>rfl⟩;have I1:=I.laid (a:=s.heap.objs.size) (o:=.own (s.heap.objs.size+1)) (h':=s.heap.push PySem.W.emptyDict) (t':=s.toks) (λb u q=>Ab _ q) (Ag _) ⟨_,e1⟩;refine I1.laid (a:=s.heap.objs.size+1) (o:=.ins C s.heap.objs.size []) (t':=s.toks) (λb u q=>Ab _ q) (Nat.le_of_eq (Bq _ _)) ?_;have ne:s.heap.objs.size≠s.heap.objs.size+1:=Av (CI _);refine ⟨by rw[qa1 ne,qbh],AW _,ne,e2,λ_=>none,(Heap.Ns1.of_empty e3).at λo q=>Ab _ q,λ_=>True.intro,λy hy=>absurd rfl hy⟩
theorem qp8 {prog:Program} {w:World} {env:Env} {e:Expr} {f:Str} {pos:Pos} {s:Shared} {Q:Value->Shared->Prop} (hb:attributeBase e f env (eval e env)=eval e env)
  (h:wpAny (model prog w) A (eval e env) (λo s₁=>wpAny (model prog w) A (getAttr o f true) Q E s₁) E s):wpAny (model prog w) A (eval (.Attribute e f pos) env) Q E s:=
 Attribute_any_ h (by rw[arm_eval_Attribute,hb])
end
inductive qA0 (K:Frag) (f:Str) (x:V) (H1:Hp) (Q:VK):Prop
 | mk (a C dx:Addr) (fs:List (Str×V)) (v:V) (hx:x=.ref a) (ho:H1 a=some (.ins C dx fs)) (hc:Cls K C) (hn:NoAttr K C f) (hl:fs.lookup f=some v) (k:Q v H1)
def qA1 (K:Frag) (ta:TE) (f:Str):TE:=λσ H Q=>ta σ H λx H1=>qA0 K f x H1 Q
section
variable {X:Cx} {o e value:Expr} {f:Str} {pos pos' tpos:Pos} {ta tv:TE}
theorem qbj (he:PE X e ta) (hb:attributeBase e f X.env (eval e X.env)=eval e X.env):PE X (.Attribute e f pos) (qA1 X.K ta f):=by
 intro pins s σ H Q I h;refine qp8 hb (thn (he pins s σ H _ I h) λu s1 hq__=>?_);obtain ⟨x,H1,I1,rx,a,C,dx,fs,v,ex,ea,c,n,l,q⟩:=hq__;subst ex;obtain rfl:u=Value.ref a:=rx;exact qoq I1 ea c n l λu' s2 I2 ru=>⟨v,H1,I2,ru,q⟩
end
section
variable {X:Cx} {pins:List (Addr×Obj)} {σ:St} {H:Hp} {s:Shared} {A:Around} {E:Value->Shared->Prop} {Q:Value->Shared->Prop} {c:Value} {b:Bool}
inductive TyOf (K:Frag) (H:Hp):V->Value->Prop where
 | non:TyOf K H .non (.type "NoneType")
 | bl (x:Bool):TyOf K H (.bl x) (.type "bool")
 | int (i:Int):TyOf K H (.int i) (.type "int")
 | str (x:Str):TyOf K H (.str x) (.type "str")
 | flt (x:UInt64):TyOf K H (.flt x) (.type "float")
 | lst {a:Addr} {xs:List V} (e:H a=some (.lst xs)):TyOf K H (.ref a) (.type "list")
 | frz {a:Addr} {o:Obj} {xs:List V} (e:H a=some (.frz o (.lst xs))):TyOf K H (.ref a) (.type "list")
 | tup {a:Addr} {xs:List V} (e:H a=some (.tup xs)):TyOf K H (.ref a) (.type "tuple")
 | dK {a:Addr} {kvs:List (Key×V)} (e:H a=some (.dK kvs)):TyOf K H (.ref a) (.type "dict")
 | dT {a:Addr} {kvs:List (List Key×V)} (e:H a=some (.dT kvs)):TyOf K H (.ref a) (.type "dict")
 | ins {a C dx:Addr} {fs:List (Str×V)} (e:H a=some (.ins C dx fs)) (cl:Cls K C) (ha:PySem.W.findIn K (.ref C) "__class__" = some (some (.builtin "object.__class__")))
   (hn:PySem.W.specialIn K (.builtin "object.__class__") "__get__" = some (some (.builtin "getset_descriptor.__get__"))) (htk:PySem.W.takesIn K (.builtin "object.__class__")=some true)
   (hm:PySem.W.mroIn K C (.type "object")=some true):TyOf K H (.ref a) (.ref C)
theorem qp9 {x:V} {u t:Value} (I:Inv X pins σ H s) (rx:RelV x u) (ty:TyOf X.K H x t) (e:PySem.W.kitOne X.K t c=some b) (h:∀ tk,Q (.bool b) { s with toks:=tk }) :
  wpAny (model X.prog X.w) A (call (.builtin "isinstance") [u,c]) Q E s:=by
 cases ty with
 | non=>cases (show u=Value.none from rx);exact Bl PySem.W.kitx_none I.kIn True.intro e (λz=>nomatch z) h
 | bl y=>cases (show u=Value.bool y from rx);exact Bl PySem.W.kitx_bool I.kIn True.intro e (λz=>nomatch z) h
 | int i=>obtain ⟨t,q⟩:=(show ∃ t,u=Value.int i t from rx);cases q;exact Bl PySem.W.kitx_int I.kIn True.intro e (λz=>nomatch z) h
 | str y=>obtain ⟨t,q⟩:=(show ∃ t,u=Value.str y t from rx);cases q;exact Bl PySem.W.kitx_str I.kIn True.intro e (λz=>nomatch z) h
 | flt y=>obtain ⟨t,q⟩:=(show ∃ t,u=Value.float y t from rx);cases q;exact Bl PySem.W.kitx_float I.kIn True.intro e (λz=>nomatch z) h
 | @lst a xs ea =>
  cases (show u=Value.ref a from rx)
  obtain ⟨_,_,n,_,h1⟩:=(show ObjOk X.prog X.w H s.heap a (.lst xs) from I.hok a _ ea);exact Bl PySem.W.kitx_list I.kIn ⟨_,h1,rfl⟩ e (λz=>nomatch z) h
 | @frz a ob xs ea =>
  cases (show u=Value.ref a from rx)
  obtain ⟨_,_,_,n,_,h1⟩:=(show ObjOk X.prog X.w H s.heap a (.frz ob (.lst xs)) from I.hok a _ ea);exact Bl PySem.W.kitx_list I.kIn ⟨_,h1,rfl⟩ e (λz=>nomatch z) h
 | @tup a xs ea =>
  cases (show u=Value.ref a from rx)
  obtain ⟨_,_,_,p⟩:=(show ObjOk X.prog X.w H s.heap a (.tup xs) from I.hok a _ ea);obtain ⟨o,h1,h2,_⟩:=p;exact Bl PySem.W.kitx_tuple I.kIn ⟨o,h1,h2⟩ e (λz=>nomatch z) h
 | @dK a kvs ea =>
  cases (show u=Value.ref a from rx)
  obtain ⟨_,_,vs,_,p⟩:=(show ObjOk X.prog X.w H s.heap a (.dK kvs) from I.hok a _ ea);obtain ⟨o,es,ep,h1,h2,_⟩:=p;exact Bl PySem.W.kitx_dict I.kIn ⟨o,h1,h2.1⟩ e (λz=>nomatch z) h
 | @dT a kvs ea =>
  cases (show u=Value.ref a from rx)
  obtain ⟨_,_,xs,_,o,es,ep,h1,h2,_⟩:=(show ObjOk X.prog X.w H s.heap a (.dT kvs) from I.hok a _ ea);exact Bl PySem.W.kitx_dict I.kIn ⟨o,h1,h2.1⟩ e (λz=>nomatch z) h
 | @ins a C dx fs ea cl ha hn htk hm =>
  cases (show u=Value.ref a from rx)
  obtain ⟨mA,O,_⟩:=qjt I.hok ea;obtain ⟨od,J,_⟩:=O.look;exact Bl (PySem.W.kitx_own (cl.get _) cl.hd ha hn htk hm) I.kIn J e (λz=>nomatch z) h
end
open PySem PySem.Spec PyProof.Rows
structure Room (k:Nat) (A:Around):Prop where
 hd:A.handled=none
 dp:A.depth+3*k+5<recursionLimit
 un:A.units+16*k+200<cLine
theorem Room.mono {j k:Nat} {A:Around} (r:Room k A) (h:j<=k):Room j A:=⟨r.hd,by have:=r.dp;omega,by have:=r.un;omega⟩
theorem Room.deeper {k:Nat} {A:Around} (r:Room (k+1) A) (env:Env):Room k (A.deeper env):=
 ⟨r.hd,by have:=r.dp;show A.depth+1+3*k+5<_;omega,by have:=r.un;show A.units+3+16*k+200<_;omega⟩
theorem qos {A:Around} {C:Addr} {us:List Value} {kw:List (Str×Value)}:(A.under (.builtin "type.__call__" ⟨.ref C :: us,kw⟩)).depth=A.depth+1:=by
 first|rfl|simp[Around.under,Code.weight,Code.isCreation,Code.isGuard,Code.isCaller,Code.frames,Code.isFrame,guardIds]
theorem qot {A:Around} {C:Addr} {us:List Value} {kw:List (Str×Value)}:(A.under (.builtin "type.__call__" ⟨.ref C :: us,kw⟩)).units=A.units+1:=by
 first|rfl|simp[Around.under,Code.cUnits,Code.frames,Code.isFrame]
theorem Room.make {k:Nat} {A:Around} (r:Room (k+1) A) (C:Addr) (us:List Value) (kw:List (Str×Value)):Room k (A.under (.builtin "type.__call__" ⟨.ref C :: us,kw⟩)):=
 ⟨r.hd,by have:=r.dp;rw[qos];omega,by have:=r.un;rw[qot];omega⟩
theorem Room.depth {k:Nat} {A:Around} (r:Room k A):A.depth<recursionLimit:=by have:=r.dp;omega
theorem Room.units {k:Nat} {A:Around} (r:Room k A):A.units+64<cLine:=by have:=r.un;omega
def qm8:TA:=λ_ H Q=>Q [] H
def qA2 (ta:TE) (tr:TA):TA:=λσ H Q=>ta σ H λx H1=>tr σ H1 λxs H2=>Q (x :: xs) H2
section
variable {X:Cx} {e:Expr} {es:List Expr} {te:TE} {t:TA} {pos:Pos}
theorem qac:PA X [] qm8:=λ_ _ _ _ H Q I h=>Calls.spliced_nil ⟨[],H,I,.nil,h⟩
theorem qaa (ha:PE X e te) (hr:PA X es t) (hs:starEach (e :: es) X.env=(false,eval e X.env) :: starEach es X.env:=by rfl):PA X (e :: es) (qA2 te t):=by
 intro pos pins s σ H Q I h;rw[hs]
 show wpAny _ _ (spliced ((false,eval e X.env) :: backTo pos (starEach es X.env))) _ _ s
 refine DM (thn (ha pins s σ H _ I h) λu s1 hq__=>?_);obtain ⟨x,H1,I1,r1,q1⟩:=hq__;exact thn (hr pos pins s1 σ H1 _ I1 q1) λus s2 ⟨xs,H2,I2,r2,q2⟩=>⟨x :: xs,H2,I2,.cons r1 r2,q2⟩
end
abbrev Sp:=List V->Hp->VK->XK->Prop
abbrev CXT:=List Env->Hp->Shared->XK->Value->Shared->Prop
structure Env0 (P:Program) (w:World) (K:Frag) (mg:Str->Option Value) (base:Heap) (A:Around) (outer:List Env) (s:Shared) (H:Hp):Prop where
 frames:A.frames=some outer
 mod:Mod K mg base
 bs:∀ b o,base.get? b=some o->s.heap.get? b=some o/\H b=none
 bsz:base.objs.size<=s.heap.objs.size
 funs:s.heap.FunFrames base outer
 frf:∀ b∈frs outer,H b=none
 hok:HOk P w H s.heap
 bare:AllBare s.gens
def CE (outer:List Env) (P:Program) (w:World) (H:Hp) (s:Shared) (Q:VK) (u:Value) (s':Shared):Prop:=
 ∃ v H',s'.os=s.os/\AllBare s'.gens/\Un (frs outer) [] H H' s.heap s'.heap/\HOk P w H' s'.heap/\RelV v u/\Q v H'
def CR (CX:CXT) (outer:List Env) (P:Program) (w:World) (H:Hp) (s:Shared) (Q:VK) (E:XK) (r:Result) (s':Shared):Prop:=
 match r with
 | .ok (.ret u)=>CE outer P w H s Q u s'
 | .ok _=>False
 | .error e=>CX outer H s E e s'
structure qhd (P:Program) (w:World) (K:Frag) (mg:Str->Option Value) (base:Heap) (CX:CXT) (k:Nat) (f:Addr) (fd:FuncData) (ps:List Str) (sp:Sp):Prop where
 len:∀ vs H Q E,sp vs H Q E->vs.length=ps.length
 run:∀ (A:Around) (outer:List Env) (s:Shared) (H:Hp) (args:Args) (us:List Value) (vs:List V) (Q:VK) (E:XK),Room k A->Env0 P w K mg base A outer s H->BindsTo s fd args (ps.zip us)->Vals vs us->sp vs H Q E ->
  codeAny (model P w) A (.call (.ref f) args) (CR CX outer P w H s Q E) s
theorem Env0.make {P:Program} {w:World} {K:Frag} {mg:Str->Option Value} {base:Heap} {A:Around} {outer:List Env} {s:Shared} {H:Hp} (e:Env0 P w K mg base A outer s H) (C:Addr) (us:List Value) (kw:List (Str×Value)) :
  Env0 P w K mg base (A.under (.builtin "type.__call__" ⟨.ref C :: us,kw⟩)) outer s H:=⟨by first|exact e.frames|(simpa [Around.under,Code.envs,Code.isFrame,pushEnvs] using e.frames),e.mod,e.bs,e.bsz,e.funs,e.frf,e.hok,e.bare⟩
section
variable {X:Cx} {pins:List (Addr×Obj)} {σ:St} {H:Hp} {s s':Shared}
theorem Inv.env0 (I:Inv X pins σ H s):Env0 X.prog X.w X.K X.mg X.base X.A X.stack s H:=
 ⟨I.ok.frames,I.ok.mod,I.bs,AV I.ok.bsz I.sz,I.stack,I.stkFree,I.hok,I.bare⟩
theorem Inv.after {Q:VK} {u:Value} (I:Inv X pins σ H s) (h:CE X.stack X.prog X.w H s Q u s'):EP X pins σ Q u s':=by
 obtain ⟨v,H',os,bare,un,hok,r,q⟩:=h;obtain ⟨hh,g,d,t,os'⟩:=s';obtain rfl:os'=s.os:=os;exact ⟨v,H',I.call (h':=hh) (g':=g) (d':=d) (t':=t) (ch:=[]) un hok bare (λb z=>absurd z (by simp)),r,q⟩
end
def qx7 (sp:Sp) (dvs:List V) (E:XK) (t:TA):TE:=λσ H Q=>t σ H λvs H1=>sp (vs ++ dvs) H1 Q E
inductive quf (C:Addr) (m:Str) (x:V) (H:Hp) (k:Prop):Prop
 | mk (a dx:Addr) (fs:List (Str×V)) (hx:x=.ref a) (ho:H a=some (.ins C dx fs)) (hl:fs.lookup m=none) (hk:k)
def qqa (C:Addr) (m:Str) (sp:Sp) (dvs:List V) (E:XK) (ta:TE) (t:TA):TE:=λσ H Q=>ta σ H λx H1=>quf C m x H1 (t σ H1 λvs H2=>sp (x :: (vs ++ dvs)) H2 Q E)
def Binds (K:Frag) (fd:FuncData) (ps:List Str) (ds:List Value):Prop:=
 ∀ (s:Shared) (us:List Value),K.In s.heap->(us ++ ds).length=ps.length->BindsTo s fd ⟨us,[]⟩ (ps.zip (us ++ ds))
theorem Binds.all {K:Frag} {fd:FuncData} {ps:List Str} (h:∀ us:List Value,us.length=ps.length->bindArgs fd ⟨us,[]⟩=pure (ps.zip us)):Binds K fd ps []:=λs us _ hl=>by
 rw[Be] at hl ⊢;exact .of_eq (h us hl)
def qi8 (CX:CXT) (X:Cx) (E:XK):Prop:=∀ (pins:List (Addr×Obj)) (σ:St) (H:Hp) (s:Shared) (e:Value) (s':Shared),Inv X pins σ H s->CX X.stack H s E e s'->X.xe e s'
section
variable {X:Cx} {CX:CXT} {k:Nat} {f C:Addr} {fd:FuncData} {ps:List Str} {sp:Sp} {dvs:List V} {ds:List Value} {E:XK} {x m:Str} {p pos apos:Pos} {e o:Expr} {es:List Expr} {ta:TE} {t:TA}
theorem qqb {pins:List (Addr×Obj)} {σ:St} {H:Hp} {s:Shared} {Q:VK} {us:List Value} {vs:List V} (F:qhd X.prog X.w X.K X.mg X.base CX k f fd ps sp) (hr:Room k X.A) (hb:Binds X.K fd ps ds) (hd:Vals dvs ds) (hx:qi8 CX X E)
  (I:Inv X pins σ H s) (r:Vals vs us) (h:sp (vs ++ dvs) H Q E):wpAny (model X.prog X.w) X.A (call (.ref f) us) (EP X pins σ Q) X.xe s:=by
 have r2:Vals (vs ++ dvs) (us ++ ds):=r.append hd;have hl:(us ++ ds).length=ps.length:=by rw[<- r2.length];exact F.len _ _ _ _ h
 refine BY (BF (F.run X.A X.stack s H ⟨us,[]⟩ (us ++ ds) (vs ++ dvs) Q E hr I.env0 (hb s us I.kIn hl) r2 h) λr s' hq=>?_)
 cases r with
 | error e=>exact hx pins σ H s e s' I hq
 | ok fl =>
  cases fl with
  | ret u=>exact I.after hq
  | next=>exact False.elim hq
  | brk=>exact False.elim hq
  | cont=>exact False.elim hq
theorem qvl (F:qhd X.prog X.w X.K X.mg X.base CX k f fd ps sp) (hr:Room k X.A) (hg:Gl X x) (hm:X.mg x=some (.ref f)) (hk:keepIn X.K (.ref f)=true) (hb:Binds X.K fd ps ds) (hd:Vals dvs ds) (hx:qi8 CX X E)
  (ha:PA X (e :: es) t) (hdb:(x == ("__debug__" : Str))=false:=by decide) (he:starEach (e :: es) X.env=(false,eval e X.env) :: starEach es X.env:=by rfl) (hpl:(backTo pos (starEach es X.env)).any (·.1)=false:=by rfl) :
  PE X (.Call (.Name x p) (e :: es) [] pos) (qx7 sp dvs E t):=by
 intro pins s σ H Q I h;refine Cp (qe4 I hg hm ?_ hdb);refine Cr (h₀:=X.base) I.ok.mod.kin hk (thn (ha pos pins s σ H _ I h) λus s1 ⟨vs,H1,I1,r,q⟩=>⟨I1.kIn,?_⟩) he hpl;exact qqb F hr hb hd hx I1 r q
theorem qvm {pl:Sem Bool} (he:PE X o ta) (c:Cls X.K C) (hm:qgz X.K C m f) (F:qhd X.prog X.w X.K X.mg X.base CX k f fd ps sp) (hr:Room k X.A) (hb:Binds X.K fd ps ds) (hd:Vals dvs ds) (hx:qi8 CX X E) (ha:PA X (e :: es) t)
  (hst:starEach (e :: es) X.env=(false,eval e X.env) :: starEach es X.env:=by rfl) (hpl:(backTo pos (starEach es X.env)).any (·.1)=false:=by rfl)
  (ht:eval (.Call (.Attribute o m apos) (e :: es) [] pos) X.env=(do
   let ov <- eval o X.env
   standAt apos.atName
   let (f,first) <- holding [ov] (getMethod ov m pl)
   callWith pos f first (backTo pos (starEach (e :: es) X.env)) (backToKw pos (keywordEach [] X.env))):=by rfl) :
  PE X (.Call (.Attribute o m apos) (e :: es) [] pos) (qqa C m sp dvs E ta t):=by
 intro pins s σ H Q I h;refine BS (pl:=pl) (thn (he pins s σ H _ I h) λu s1 hq__=>?_) ht;obtain ⟨x,H1,I1,rx,a,dx,fs,ex,ea,l,q⟩:=hq__;subst ex;obtain rfl:u=Value.ref a:=rx;refine qfr I1 ea c hm l ?_;refine Cr (first:=[.ref a]) (h₀:=X.base) I.ok.mod.kin hm.kp (thn (ha pos pins s1 σ H1 _ I1 q) λus s2 ⟨vs,H2,I2,r,q2⟩=>⟨I2.kIn,?_⟩) hst hpl;exact qqb (us:=.ref a :: us) (vs:=.ref a :: vs) F hr hb hd hx I2 (.cons rfl r) q2
theorem qs2 {pl:Sem Bool} (he:PE X o ta) (c:Cls X.K C) (hm:qgz X.K C m f) (F:qhd X.prog X.w X.K X.mg X.base CX k f fd ps sp) (hr:Room k X.A) (hb:Binds X.K fd ps ds) (hd:Vals dvs ds) (hx:qi8 CX X E)
  (ht:eval (.Call (.Attribute o m apos) [] [] pos) X.env=(do
   let ov <- eval o X.env
   standAt apos.atName
   let (f,first) <- holding [ov] (getMethod ov m pl)
   callWith pos f first (backTo pos (starEach [] X.env)) (backToKw pos (keywordEach [] X.env))):=by rfl) :
  PE X (.Call (.Attribute o m apos) [] [] pos) (qqa C m sp dvs E ta qm8):=by
 intro pins s σ H Q I h;refine BS (pl:=pl) (thn (he pins s σ H _ I h) λu s1 hq__=>?_) ht;obtain ⟨x,H1,I1,rx,a,dx,fs,ex,ea,l,q⟩:=hq__;subst ex;obtain rfl:u=Value.ref a:=rx;refine qfr I1 ea c hm l ?_;exact PySem.W.callWith_K0 (first:=[.ref a]) I1.kIn hm.kp (qqb (us:=[.ref a]) (vs:=[.ref a]) F hr hb hd hx I1 (.cons rfl .nil) q)
structure Mk (K:Frag) (C f:Addr):Prop where
 makes:PySem.W.makesIn K C=true
 init:PySem.W.findIn K (.ref C) "__init__" = some (some (.ref f))
 fn:PySem.W.isFn K (.ref f)=true
 kp:keepIn K (.ref C)=true
theorem qs3 {pins:List (Addr×Obj)} {σ:St} {H:Hp} {s:Shared} {Q:VK} {us:List Value} {vs:List V} (M:Mk X.K C f) (F:qhd X.prog X.w X.K X.mg X.base CX k f fd ps sp) (hr:Room (k+1) X.A) (hb:Binds X.K fd ps ds) (hd:Vals dvs ds)
  (hx:qi8 CX X E) (I:Inv X pins σ H s) (r:Vals vs us)
  (h:∀ x dx,H x=none->H dx=none->dx≠x->sp (.ref x :: (vs ++ dvs)) (upd (upd H dx (.own x)) x (.ins C dx [])) (λv H2=>v=.non/\Q (.ref x) H2) E) :
  wpAny (model X.prog X.w) X.A (call (.ref C) us) (EP X pins σ Q) X.xe s:=by
 have hq:=h (s.heap.objs.size+1) s.heap.objs.size (I.hok.fresh (CN _)) (I.hok.fresh (Ag _)) (Av (CI _));have I2:=Inv.made (C:=C) I;have r2:Vals (V.ref (s.heap.objs.size+1) :: (vs ++ dvs)) (Value.ref (s.heap.objs.size+1) :: (us ++ ds)):=.cons rfl (r.append hd);have hl:(Value.ref (s.heap.objs.size+1) :: us ++ ds).length=ps.length:=by
  have e:=r2.length;rw[F.len _ _ _ _ hq] at e;exact e.symm
 refine BY (qs1 (f:=f) I.kIn M.makes M.init (B5.mp M.fn) (BF (F.run _ X.stack _ _ ⟨Value.ref (s.heap.objs.size+1) :: us,[]⟩ (Value.ref (s.heap.objs.size+1) :: (us ++ ds)) _ _ E (hr.make C us [])
  (I2.env0.make C us []) (hb _ (Value.ref (s.heap.objs.size+1) :: us) I2.kIn hl) r2 hq) λr s' hq'=>?_))
 cases r with
 | error e=>exact hx pins σ _ _ e s' I2 hq'
 | ok fl =>
  cases fl with
  | ret u =>
   obtain ⟨v,H',I3,rv,ev,q3⟩:=I2.after hq';subst ev;exact ⟨rv,⟨V.ref (s.heap.objs.size+1),H',I3,rfl,q3⟩⟩
  | next=>exact False.elim hq'
  | brk=>exact False.elim hq'
  | cont=>exact False.elim hq'
end
section
variable {X:Cx} {CX:CXT} {k:Nat} {f C:Addr} {fd:FuncData} {ps ks:List Str} {sp:Sp} {E:XK} {x m:Str} {p pos apos kpos:Pos} {e o:Expr} {es:List Expr} {kws:List Keyword} {te ta:TE} {t tk:TA} {nm:Option Str}
variable {g:List Value->List Value->List Value} {gV:List V->List V->List V}
end
structure qak (N P:List Str) (sc:Scope):Prop where
 kind:sc.kind=.function
 co:sc.isCoroutine=false
 gen:sc.isGenerator=false
 nd:N.Nodup
 pre:N.take P.length=P
 par:∀ x∈P,sc.names.lookup x=some .local\/sc.names.lookup x=some .cell
 nofree:∀ y∈sc.names,y.2≠.free
theorem qks {kindOf:Str->Option NameKind} {x:Str}:∀ {binds:List (Str×Value)} {m:Str->Option Value},(∀ v,(x,v) ∉ binds)->bindL kindOf binds m x=m x
 | [],_,_=>rfl
 | (n,v) :: r,m,h=>by
  unfold bindL;rw[qks λw hw=>h w (An _ hw)]
  split
  ·have:x≠n:=by rintro rfl;exact h v Ap
   simp[this]
  ·rfl
theorem qkt {kindOf:Str->Option NameKind} {x:Str}:∀ {binds:List (Str×Value)} {m:Str->Option Value},(∀ v,(x,v) ∉ binds)->bindC kindOf binds m x=m x
 | [],_,_=>rfl
 | (n,v) :: r,m,h=>by
  unfold bindC;rw[qkt λw hw=>h w (An _ hw)]
  split
  ·rfl
  ·have:x≠n:=by rintro rfl;exact h v Ap
   simp[this]
theorem qhp {kindOf:Str->Option NameKind} {x:Str} {v:Value}:∀ {P:List Str} {vs:List Value} {i:Nat} {m:Str->Option Value},P.Nodup->P[i]?=some x->vs[i]?=some v->kindOf x=some .local ->
  bindL kindOf (P.zip vs) m x=some v
 | [],_,_,_,_,h,_,_=>by simp at h
 | _ :: _,[],_,_,_,_,h,_=>by simp at h
 | p :: P,w :: vs,0,m,nd,h1,h2,hk=>by
  simp at h1 h2;subst h1;subst h2
  show bindL kindOf ((p,w) :: P.zip vs) m p=_
  unfold bindL;rw[qks λv hv=>(Bc.mp nd).1 (Cm hv).1,Ak hk]
  simp
 | p :: P,w :: vs,i+1,m,nd,h1,h2,hk=>by
  show bindL kindOf ((p,w) :: P.zip vs) m x=_
  unfold bindL;exact qhp (i:=i) (Bc.mp nd).2 (by simpa using h1) (by simpa using h2) hk
theorem qhq {kindOf:Str->Option NameKind} {x:Str} {v:Value}:∀ {P:List Str} {vs:List Value} {i:Nat} {m:Str->Option Value},P.Nodup->P[i]?=some x->vs[i]?=some v->kindOf x≠some .local ->
  bindC kindOf (P.zip vs) m x=some v
 | [],_,_,_,_,h,_,_=>by simp at h
 | _ :: _,[],_,_,_,_,h,_=>by simp at h
 | p :: P,w :: vs,0,m,nd,h1,h2,hk=>by
  simp at h1 h2;subst h1;subst h2
  show bindC kindOf ((p,w) :: P.zip vs) m p=_
  unfold bindC;rw[qkt λv hv=>(Bc.mp nd).1 (Cm hv).1,Ah hk]
  simp
 | p :: P,w :: vs,i+1,m,nd,h1,h2,hk=>by
  show bindC kindOf ((p,w) :: P.zip vs) m x=_
  unfold bindC;exact qhq (i:=i) (Bc.mp nd).2 (by simpa using h1) (by simpa using h2) hk
def start (N:List Str) (vs:List V):St:=vs.map some ++ List.replicate (N.length-vs.length) none
def qou (CX:CXT) (P:Program) (w:World) (K:Frag) (mg:Str->Option Value) (base:Heap) (N:List Str) (qual:Str) (scope:Scope) (f:Addr) (cd:Value) (A:Around) (outer:List Env) (s:Shared) (H:Hp) (E:XK):Cx where
 prog:=P
 w:=w
 K:=K
 mg:=mg
 base:=base
 A:=A.deeper (envOfC qual scope s.heap.objs.size f cd)
 N:=N
 s₀:=s
 H₀:=H
 env:=envOfC qual scope s.heap.objs.size f cd
 outer:=outer
 stack:=envOfC qual scope s.heap.objs.size f cd :: outer
 ex:=[]
 calm:=true
 fn:=λ_=>true
 pn:=[]
 xe:=λe s'=>wpAny (model P w) (A.deeper (envOfC qual scope s.heap.objs.size f cd)) (leaving (envOfC qual scope s.heap.objs.size f cd) e) (λ_ s''=>CX outer H s E e s'') (λe' s''=>CX outer H s E e' s'') s'
theorem qhh {sc:Scope} {n:Nat} {x:Str} (h:sc.names.lookup x=some .cell):∃ c,(cellsFrom n sc.names []).lookup x=some c:=by
 have q:=Dm sc.names n [] (.inl h);exact EC.mp q
theorem qqc {CX:CXT} {P:Program} {w:World} {K:Frag} {mg:Str->Option Value} {base:Heap} {N ps:List Str} {qual:Str} {scope:Scope} {f:Addr} {cd:Value} {A:Around} {outer:List Env} {s s1:Shared} {H:Hp} {E:XK} {us:List Value} {vs:List V}
  (S:qak N ps scope) (hd:A.handled=none) (e0:Env0 P w K mg base A outer s H) (hl:vs.length=ps.length) (r:Vals vs us)
  (x:InCallC s s.heap.objs.size (bindL (envOfC qual scope s.heap.objs.size f cd).kindOf (ps.zip us) λ_=>none) (cellsFrom (s.heap.objs.size+1) scope.names []) (bindC (envOfC qual scope s.heap.objs.size f cd).kindOf (ps.zip us) λ_=>none) s1) :
  Inv (qou CX P w K mg base N qual scope f cd A outer s H E) [] (start N vs) H s1:=by
 have hpl:ps.length<=N.length:=by have:=congrArg List.length S.pre;rw[Au] at this;omega
 obtain ⟨h1,tk,rfl,hk⟩:=x.done;have noA:∀ b:Addr,b ∉ (qou CX P w K mg base N qual scope f cd A outer s H E).ex:=λb z=>absurd (show b∈([]:List Addr) from z) (by simp)
 refine ⟨⟨e0.mod,S.kind,rfl,rfl,Ag _,λy z c h1 h2=>?_,λy hy=>?_,λy c _ h=>?_,λ_=>hd,Fo e0.frames,.inr ⟨rfl,rfl⟩,λb z=>absurd z (noA b),e0.bs,e0.bsz,λb _ _=>noA b,λb z=>absurd z (noA b),e0.funs,e0.frf⟩,
  rfl,e0.bare,Un.kept hk,⟨_,x.toInCall.ns,λi y v h1 h2 h3=>?_⟩,λy c h=>⟨_,x.cell y c h⟩,e0.hok.fresh (Ag _),λy c h=>?_,λp hp=>absurd (show p∈([]:List (Addr×Obj)) from hp) (by simp),e0.hok.kept hk,?_⟩
 ·exact name_of_addr x.apart (Bk h1) (Bk h2)
 ·have hy:scope.names.lookup y=some .cell\/scope.names.lookup y=some .free:=hy
  rcases hy with hy|hy
  ·exact qhh hy
  ·exact absurd rfl (S.nofree _ (Bk hy))
 ·exact A8 (x.above y c (Bk h))
 ·have hi:i<vs.length:=by
   unfold start at h2
   by_cases hi:i<vs.length
   ·exact hi
   ·rw[Bw (by simpa using hi)] at h2
    rw[EJ] at h2
    split at h2<;>cases h2
  have ha:vs[i]?=some v:=by
   unfold start at h2;rw[Bn (by simpa using hi),Ay] at h2
   cases e:vs[i]? with
   | none=>rw[e] at h2;cases h2
   | some a=>rw[e] at h2;cases h2;rfl
  obtain ⟨u,hu,rv⟩:=r.get ha;have hp:ps[i]?=some y:=by
   rw[<- S.pre,EE (by omega)];exact h1
  have ndP:ps.Nodup:=by rw[<- S.pre];exact S.nd.sublist (List.take_sublist _ _)
  refine ⟨u,rv,?_⟩
  rcases S.par y (Aq hp) with k|k
  ·exact .inl ⟨k,qhp ndP hp hu k⟩
  ·obtain ⟨c,e⟩:=qhh (n:=s.heap.objs.size+1) k
   refine .inr ⟨.inl k,c,e,?_⟩;have q:=x.cell y c e;rw[qhq ndP hp hu (by show scope.names.lookup y≠_;rw[k];decide)] at q;exact q
 ·exact e0.hok.fresh (A8 (x.above y c (Bk h)))
 ·unfold start
  show _=N.length
  rw[Az,Ad,E8];omega
theorem qs4 {CX:CXT} {P:Program} {w:World} {K:Frag} {mg:Str->Option Value} {base:Heap} {k:Nat} {f:Addr} {name qual:Str} {params:Arguments} {body:List Stmt} {scope:Scope} {dV kV doc pm cdv ct oc:Value} {an od:Option Addr}
  {osl:Array (Option Value)} {N ps:List Str} {sp:Sp} (lk:K.lookup f=some ⟨oc,od,.func (fnOf name qual params body scope dV kV doc pm an cdv ct),osl⟩) (hcd:codeIn K cdv qual=true) (S:qak N ps scope)
  (len:∀ vs H Q E,sp vs H Q E->vs.length=ps.length)
  (hbody:∀ (A:Around) (outer:List Env) (s:Shared) (H:Hp) (vs:List V) (Q:VK) (E:XK),Room k (A.deeper (envOfC qual scope s.heap.objs.size f cdv))->sp vs H Q E ->
   ∃ t,PSs (qou CX P w K mg base N qual scope f cdv A outer s H E) body t/\t { nx:=λ_ H'=>Q .non H',rt:=Q } (start N vs) H) :
  qhd P w K mg base CX (k+1) f (fnOf name qual params body scope dV kV doc pm an cdv ct) ps sp:=by
 refine ⟨len,λA outer s H args us vs Q E hr e0 hb r hsp=>?_⟩;have hl:=len _ _ _ _ hsp;have KX:K.In s.heap:=e0.mod.kin.keeps λb o e=>(e0.bs b o e).1
 have lim:s.heap.NoLimit:=e0.mod.nolimit.keeps λb o e=>(e0.bs b o e).1
 have hkind:∀ y∈ps.zip us,scope.names.lookup y.1=some .local\/(scope.names.lookup y.1=some .cell/\((cellsFrom (s.heap.objs.size+1) scope.names []).lookup y.1).isSome=true):=fun ⟨n,v⟩ hy=>by
  rcases S.par n (Cm hy).1 with q|q
  ·exact .inl q
  ·exact .inr ⟨q,Dm _ _ _ (.inl q)⟩
 refine EZ hr.depth (KX _ _ lk) rfl S.co S.gen rfl (PySem.W.codeRec_of KX hcd) (hb _ _ _ _ ?_);refine Ei S.kind hkind λenv he s1 x=>?_
 subst he;refine ⟨lim.keeps x.toInCall.keep,codeAny_func ?_⟩;obtain ⟨t,ht,hq⟩:=hbody A outer s H vs Q E (hr.deeper _) hsp;have I:Inv (qou CX P w K mg base N qual scope f cdv A outer s H E) [] (start N vs) H s1:=qqc S hr.hd e0 hl r x;refine AY (ht [] s1 (start N vs) H _ I hq) (λfl s' hs=>?_) λe s' hs=>hs
 have fin:∀ {σ':St} {H':Hp} {v:V} {u:Value},Inv (qou CX P w K mg base N qual scope f cdv A outer s H E) [] σ' H' s'->RelV v u->Q v H'->CE outer P w H s Q u s':=
  fun {σ' H' v u} J rv q=>⟨v,H',J.os,J.bare,J.base,J.hok,rv,q⟩
 cases fl with
 | ret u =>
  obtain ⟨v,σ',H',J,rv,q⟩:=hs;exact fin J rv q
 | next =>
  obtain ⟨σ',H',J,q⟩:=hs;exact fin (v:=V.non) (u:=Value.none) J rfl q
 | brk =>
  obtain ⟨_,_,_,q⟩:=hs;exact False.elim q
 | cont =>
  obtain ⟨_,_,_,q⟩:=hs;exact False.elim q
open PySem PySem.Spec PyProof.Rows
section
variable {X:Cx} {x:Str} {p pos:Pos} {e:Expr} {es:List Expr} {t:TA} {id T:String} {r:List V->Hp->VK->Prop}
def tCB (r:List V->Hp->VK->Prop) (t:TA):TE:=λσ H Q=>t σ H λvs H1=>r vs H1 Q
theorem qas (hc:CallR X (.builtin id) r) (hg:Gl X x) (hm:X.mg x=none) (hv:bootBuiltins x=some (.builtin id)) (ha:PA X (e :: es) t) (hn:x ≠ "__name__" :=by decide) (hdb:(x == ("__debug__" : Str))=false:=by decide)
  (he:starEach (e :: es) X.env=(false,eval e X.env) :: starEach es X.env:=by rfl) (hpl:(backTo pos (starEach es X.env)).any (·.1)=false:=by rfl):PE X (.Call (.Name x p) (e :: es) [] pos) (tCB r t):=by
 intro pins s σ H Q I h;refine Cp (qi6 I hg hm hv ?_ hn hdb);exact DU (thn (ha pos pins s σ H _ I h) λus s1 ⟨vs,H1,I1,r1,q1⟩=>hc pins s1 σ H1 vs us Q I1 r1 q1) he hpl
theorem qb3 (hc:CallR X (.type T) r) (hg:Gl X x) (hm:X.mg x=none) (hv:bootBuiltins x=some (.type T)) (ha:PA X (e :: es) t) (hn:x ≠ "__name__" :=by decide) (hdb:(x == ("__debug__" : Str))=false:=by decide)
  (he:starEach (e :: es) X.env=(false,eval e X.env) :: starEach es X.env:=by rfl) (hpl:(backTo pos (starEach es X.env)).any (·.1)=false:=by rfl):PE X (.Call (.Name x p) (e :: es) [] pos) (tCB r t):=by
 intro pins s σ H Q I h;refine Cp (qi6 I hg hm hv ?_ hn hdb);exact BX (thn (ha pos pins s σ H _ I h) λus s1 ⟨vs,H1,I1,r1,q1⟩=>hc pins s1 σ H1 vs us Q I1 r1 q1) he hpl
end
end L2
namespace HT
open PySem PyProof.Rows
section
open PySem.SeqAt
open PySem.AutoSeq1 (wpAny_loadPart')
open PySem.MeetsSeq PySem.MeetsSeq2 PySem.MeetsSeq3
end
section
variable {prog:Program} {w:World} {A:Around} {E:Value->Shared->Prop} {s:Shared}
theorem cat_tup {t b:Addr} {vs ws:List Value} {Q:Value->Shared->Prop} (ht:IsTup s.heap t vs.toArray) (hb:IsTup s.heap b ws.toArray) (hv:vs≠[])
  (h1:ws=[]->Q (.ref t) s) (h2:ws≠[]->Q (.ref s.heap.objs.size) { s with heap:=s.heap.push { cls:=.type "tuple",data:=.seq (vs ++ ws).toArray } })
  (hsz:vs.length+ws.length<=sizeLine):wpAny (model prog w) A (binaryOp .Add (.ref t) (.ref b)) Q E s:=by
 obtain ⟨⟨cls,dd,data,sl⟩,ho,hc,n,hd⟩:=id ht;obtain ⟨⟨cls2,dd2,data2,sl2⟩,ho2,hc2,n2,hd2⟩:=id hb;simp only at hc hd hc2 hd2;subst hc hd hc2 hd2;have e:vs.toArray ++ ws.toArray=(vs ++ ws).toArray:=by simp
 by_cases hw:ws=[]
 ·exact concat_meets ⟨_,ho,rfl⟩ ⟨_,ho2,rfl⟩ noFill_tuple_add seq_tuple_add EN EG (Ez _ _)
   (tuple_addW1 t b vs.toArray ws.toArray n n2 dd dd2 sl sl2 (by simpa using hv) (by simp[hw])) ⟨ho,ho2,h1 hw⟩
 ·refine concat_meets ⟨_,ho,rfl⟩ ⟨_,ho2,rfl⟩ noFill_tuple_add seq_tuple_add EN EG (Ez _ _)
   (tuple_addW2 t b vs.toArray ws.toArray n n2 dd dd2 sl sl2 (by simpa using hv) (by simpa using hw) (by rw[Ax,Ax];exact hsz)) ⟨ho,ho2,?_⟩
  rw[e];exact h2 hw
def sIx (n d:Nat):Option Int->Nat
 | none=>d
 | some v=>if v<0 then (v+(n:Int)).toNat else min v.toNat n
theorem sIx_none (n d:Nat):sIx n d none=d:=rfl
theorem sIx_nat (n d k:Nat):sIx n d (some (k:Int))=min k n:=by
 show (if (k:Int)<0 then ((k:Int)+(n:Int)).toNat else min (k:Int).toNat n)=min k n
 rw[Ah (by omega),DR]
theorem qx8 (n d:Nat) (hd:d<=n) (o:Option Int):sIx n d o<=n:=by
 cases o with
 | none=>exact hd
 | some v =>
  show (if v<0 then (v+(n:Int)).toNat else min v.toNat n)<=n
  by_cases hv:v<0
  ·rw[Ak hv];omega
  ·rw[Ah hv];exact Nat.min_le_right _ _
theorem qqd (v:Int) (n d:Nat):(if v<0 then max (v+(n:Int)) 0 else min v (n:Int))=((sIx n d (some v):Nat):Int):=by
 show (if v<0 then max (v+(n:Int)) 0 else min v (n:Int))=(((if v<0 then (v+(n:Int)).toNat else min v.toNat n):Nat):Int)
 by_cases hv:v<0
 ·simp only[Ak hv];omega
 ·simp only[Ah hv];omega
theorem qov (lo hi:Option Int) (n:Nat):Builtin.Slice.sliceAdjust lo hi 1 (n:Int)=(((sIx n 0 lo:Nat):Int),((sIx n n hi:Nat):Int)):=by
 have h1:¬ ((1:Int)<0):=by omega
 unfold Builtin.Slice.sliceAdjust;simp only[h1,CM];refine Prod.ext ?_ ?_
 ·cases lo with
  | none=>rfl
  | some v=>exact qqd v n 0
 ·cases hi with
  | none=>rfl
  | some v=>exact qqd v n n
theorem qow (i j:Nat):Builtin.Slice.slicePlaces (i:Int) (j:Int) 1=j-i:=by
 unfold Builtin.Slice.slicePlaces;have h1:(1:Int)>0:=by omega
 simp only[h1,DO,Int.ediv_one]
 split<;>omega
theorem qi9 {v:Value} {o:Option Int} {Q:Option Int->Shared->Prop} (p:IsPart v o) (h:Q o s):wpAny (model prog w) A (Builtin.Slice.slicePartIndex v) Q E s:=by
 cases p with
 | none=>exact slicePart_none h
 | int i t=>exact slicePart_int h
theorem qhe {sl:Addr} {vl vu:Value} {lo hi:Option Int} {n:Nat} {Q:Int×Int×Nat->Shared->Prop} (hs:s.heap.IsSliceOf sl vl vu .none) (pl:IsPart vl lo) (pu:IsPart vu hi)
  (h:Q (((sIx n 0 lo:Nat):Int),1,sIx n n hi-sIx n 0 lo) s):wpAny (model prog w) A (Builtin.Slice.sliceApplied (.ref sl) (pure (n:Int))) Q E s:=by
 obtain ⟨os,hos,hcs,hds⟩:=id hs;unfold Builtin.Slice.sliceApplied Builtin.Slice.sliceFields;refine Aa (Aa (Bp hos hds (x:=vl) rfl (Aa (Bp hos hds (x:=vu) rfl (Aa (Bp hos hds (x:=.none) rfl (Ae ?_)))))));refine Aa (slicePart_none ?_)
 show wpAny _ _ (if ((1:Int) == 0)=true then _ else _) _ _ s
 rw[Ah (by decide)];refine Aa (qi9 pl (Aa (qi9 pu (Aa (Ae ?_)))))
 show wpAny _ _ (match Builtin.Slice.sliceAdjust lo hi 1 (n:Int) with|(lo,hi)=>pure (lo,(1:Int),Builtin.Slice.slicePlaces lo hi 1)) _ _ s
 rw[qov lo hi n]
 show wpAny _ _ (pure (((sIx n 0 lo:Nat):Int),(1:Int),Builtin.Slice.slicePlaces ((sIx n 0 lo:Nat):Int) ((sIx n n hi:Nat):Int) 1)) _ _ s
 rw[qow];exact Ae h
theorem qs5 (xs:Array Value) (i k:Nat):((List.range k).filterMap fun (m:Nat)=>xs[((i:Int)+(m:Int)*1).toNat]?).toArray=((xs.toList.drop i).take k).toArray:=by
 have e:(fun (m:Nat)=>xs[((i:Int)+(m:Int)*1).toNat]?)=λm=>xs[i+m]?:=by
  funext m
  have:((i:Int)+(m:Int)*1).toNat=i+m:=by omega
  rw[this]
 rw[e];have:=pick_run xs i k;rw[List.filterMap_map] at this;have e2:((λx=>xs[x]?) ∘ λx=>i+x)=λm=>xs[i+m]?:=rfl
 rw[e2] at this;rw[this]
theorem getItem_tuple_cut {t sl:Addr} {items:Array Value} {vl vu:Value} {lo hi:Option Int} {Q:Value->Shared->Prop} (ht:IsTup s.heap t items) (hs:s.heap.IsSliceOf sl vl vu .none) (pl:IsPart vl lo) (pu:IsPart vu hi)
  (hw:¬ (sIx items.size 0 lo=0/\sIx items.size items.size hi=items.size))
  (h:Q (.ref s.heap.objs.size) { s with heap:=s.heap.push { cls:=.type "tuple",data:=.seq ((items.toList.drop (sIx items.size 0 lo)).take (sIx items.size items.size hi-sIx items.size 0 lo)).toArray } })
  (hsz:items.size<=sizeLine):wpAny (model prog w) A (getItem (.ref t) (.ref sl)) Q E s:=by
 have htake:sizeOk (.seq ((items.toList.drop (sIx items.size 0 lo)).take (sIx items.size items.size hi-sIx items.size 0 lo)).toArray):=by
  show ((items.toList.drop (sIx items.size 0 lo)).take (sIx items.size items.size hi-sIx items.size 0 lo)).toArray.size<=sizeLine
  rw[Ax,Au,BN,A0];omega
 have hj:sIx items.size items.size hi<=items.size:=qx8 _ _ (Ag _) hi;obtain ⟨os,hos,hcs,hds⟩:=id hs;have hTs:s.TypeIs (.ref sl) "slice" :=⟨os,hos,hcs⟩;unfold getItem
 try with_reducible refine Bg ?_
 first|refine Aa (Ae ?_)|skip
 refine Aa (wpAny_sequenceKey ht.typeIs (by decide) ?_);refine Aa (wpAny_callSpecial?_slot (name:=Str.ofString "__getitem__") ht.typeIs CH
  (BG CH ht.typeIs entry_tuple_getitem ?_ (args_tuple_getitem _ _)))
 show wpAny _ _ (Builtin.Tuple.tupleItemsOf (.ref t) >>= _) _ _ s
 refine Aa (tupleItemsOf_ ht ?_);refine Aa (EL hTs ?_);rw[Ak (by decide)];refine Aa (qhe hs pl pu ?_);have hno:¬ ((((sIx items.size 0 lo:Nat):Int) == 0 && (1:Int) == 1 && (sIx items.size items.size hi-sIx items.size 0 lo) == items.size)=true):=by
  intro q;rw[CK,CK] at q;have q1:((sIx items.size 0 lo:Nat):Int)=0:=eq_of_beq q.1.1;have q2:sIx items.size items.size hi-sIx items.size 0 lo=items.size:=eq_of_beq q.2;exact hw ⟨by omega,by omega⟩
 show wpAny _ _ (if (((sIx items.size 0 lo:Nat):Int) == 0 && (1:Int) == 1 && (sIx items.size items.size hi-sIx items.size 0 lo) == items.size)=true then _ else _) _ _ s
 rw[Ah hno,qs5]
 first
  | exact Aa (m:=Builtin.Tuple.tupleExact _) (Bu (Ae ⟨_,rfl,Ae h⟩) htake)
  | exact Aa (m:=Builtin.Tuple.tupleExact _) (Bu (Aa (Ae (Ae ⟨_,rfl,Ae h⟩))) htake)
  | exact Aa (Aa (m:=Builtin.Tuple.tupleExact _) (Bu (Ae (Ae ⟨_,rfl,Ae h⟩)) htake))
  | exact Aa (Aa (m:=Builtin.Tuple.tupleExact _) (Bu (Ae ⟨_,rfl,Ae h⟩) htake))
end
end HT
namespace L2
open PySem PySem.Spec PyProof.Rows
abbrev TO:=St->Hp->(Option Int->Hp->Prop)->Prop
def PO (X:Cx) (e:Option Expr) (t:TO):Prop:=
 ∀ (pins:List (Addr×Obj)) (s:Shared) (σ:St) (H:Hp) (Q:Option Int->Hp->Prop),Inv X pins σ H s->t σ H Q ->
  wpAny (model X.prog X.w) X.A (evalPart e X.env) (λu s'=>∃ o H',Inv X pins σ H' s'/\IsPart u o/\Q o H') X.xe s
def qvn:TO:=λ_ H Q=>Q none H
inductive tPartS (x:V) (H:Hp) (Q:Option Int->Hp->Prop):Prop
 | mk (i:Int) (h:x=.int i) (k:Q (some i) H)
def qA3 (t:TE):TO:=λσ H Q=>t σ H λx H1=>tPartS x H1 Q
theorem intsAre_of {ns:List Int}:∀ {us:List Value},Vals (ns.map V.int) us->IntsAre us ns:=by
 induction ns with
 | nil=>intro us r;rw[Dq] at r;cases r;exact .nil
 | cons n ns ih =>
  intro us r;rw[Aw] at r
  cases r with
  | cons r1 r2 =>
   obtain ⟨t,e⟩:=r1;subst e;exact .cons n t (ih r2)
section
variable {X:Cx} {e:Expr} {te:TE} {lo hi:Option Expr} {tl th:TO} {pos p2:Pos}
theorem qdo:PO X none qvn:=by
 intro pins s σ H Q I h;rw[evalPart_none];exact Ae ⟨none,H,I,.none,h⟩
theorem qco (h:PE X e te):PO X (some e) (qA3 te):=by
 intro pins s σ H Q I hw;rw[evalPart_some];refine thn (h pins s σ H _ I hw) λu s1 hq__=>?_
 obtain ⟨x,H1,I1,r1,q1⟩:=hq__;obtain ⟨i,rfl,q⟩:=q1;obtain ⟨t,rfl⟩:=r1;exact ⟨some i,H1,I1,.int i t,q⟩
def SlR (X:Cx) (r:V->Option Int->Option Int->Hp->VK->Prop):Prop:=
 ∀ (pins:List (Addr×Obj)) (s:Shared) (σ:St) (H:Hp) (x:V) (v vl vu:Value) (lo hi:Option Int) (sl:Addr) (Q:VK),Inv X pins σ H s->RelV x v->s.heap.IsSliceOf sl vl vu .none->IsPart vl lo->IsPart vu hi->r x lo hi H Q ->
  ∃ T id,typeLookup (.type T) "__getitem__" = pure (some (.builtin id))/\s.TypeIs v T/\wpAny (model X.prog X.w) X.A (getItem v (.ref sl)) (EP X pins σ Q) X.xe s
def tSl (r:V->Option Int->Option Int->Hp->VK->Prop) (te:TE) (tl th:TO):TE:=λσ H Q=>te σ H λx H1=>tl σ H1 λl H2=>th σ H2 λu H3=>r x l u H3 Q
theorem qcb {r:V->Option Int->Option Int->Hp->VK->Prop} (hr:SlR X r) (he:PE X e te) (hl:PO X lo tl) (hu:PO X hi th):PE X (.Subscript e (.Slice lo hi none p2) pos) (tSl r te tl th):=by
 intro pins s σ H Q I h;refine Subscript_ (thn (he pins s σ H _ I h) λv s1 hq__=>?_);obtain ⟨x,H1,I1,r1,q1⟩:=hq__;refine wpAny_Slice (thn (hl pins s1 σ H1 _ I1 q1) λvl s2 ⟨l,H2,I2,pl,q2⟩=>thn (hu pins s2 σ H2 _ I2 q2) λvu s3 hq__=>?_);obtain ⟨u,H3,I3,pu,q3⟩:=hq__;rw[evalPart_none];refine Ae ?_;have I4:Inv X pins σ H3 { s3 with heap:=s3.heap.push { cls:=.type "slice",data:=.fields #[vl,vu,.none] } }:=I3.kept (t':=s3.toks) λb ob q=>Ab _ q
 obtain ⟨T,id,hT,ht,hg⟩:=hr pins { s3 with heap:=s3.heap.push { cls:=.type "slice",data:=.fields #[vl,vu,.none] } } σ H3 x v vl vu l u s3.heap.objs.size Q I4 r1 (Heap.IsSliceOf.new ..) pl pu q3
 show wpAny (model X.prog X.w) X.A (subscriptTail e (.Slice lo hi none p2) v (.ref s3.heap.objs.size)) (EP X pins σ Q) X.xe { s3 with heap:=s3.heap.push { cls:=.type "slice",data:=.fields #[vl,vu,.none] } }
 exact tail_any (ops:=[.ref s3.heap.objs.size,v]) ht hT hg (by with_unfolding_all rfl)
def qju (xs:List V) (lo hi:Option Int):List V:=(xs.drop (HT.sIx xs.length 0 lo)).take (HT.sIx xs.length xs.length hi-HT.sIx xs.length 0 lo)
theorem qhr (xs:List V) (lo hi:Option Int):(qju xs lo hi).length<=xs.length:=by
 unfold qju;rw[Au,BN];omega
def qCl (K:Frag):V->Option Int->Option Int->Hp->VK->Prop:=λx lo hi H Q=>∃ a xs,x=.ref a/\SqT K H a xs /\
 ¬ (HT.sIx xs.length 0 lo=0/\HT.sIx xs.length xs.length hi=xs.length)/\∀ p,H p=none->Q (.ref p) (upd H p (.tup (qju xs lo hi)))
theorem qx9:SlR X (qCl X.K):=by
 intro pins s σ H x v vl vu lo hi sl Q I rx hs pl pu h;obtain ⟨a,xs,rfl,hx,hw,q⟩:=h;cases rx;obtain ⟨its,r,ht,hz⟩:=I.tuple hx;have hlen:its.toArray.size=xs.length:=by rw[Ax];exact r.length.symm
 refine ⟨"tuple",_,CH.lookup,ht.typeIs,?_⟩;refine HT.getItem_tuple_cut ht hs pl pu (by rw[hlen];exact hw) ?_ (by rw[hlen];exact hz);rw[hlen];refine ⟨.ref s.heap.objs.size,_,I.laid (t':=s.toks) (o:=.tup (qju xs lo hi)) (λb ob q=>Ab _ q) (Ag _) ?_,rfl,q _ (I.hok.fresh (Ag _))⟩;exact ⟨AV (qhr xs lo hi) hz,_,(r.drop (HT.sIx xs.length 0 lo)).take (HT.sIx xs.length xs.length hi-HT.sIx xs.length 0 lo),IsTup.new _ _⟩
def qA4 (K:Frag):R2:=λx y H Q=>∃ a b xs ys,x=.ref a/\y=.ref b/\SqT K H a xs/\SqT K H b ys/\xs≠[]/\xs.length+ys.length<=sizeLine /\
 (ys=[]->Q (.ref a) H)/\(ys≠[]->∀ p,H p=none->Q (.ref p) (upd H p (.tup (xs ++ ys))))
theorem Vals.nil_iff {xs:List V} {us:List Value} (r:Vals xs us):us=[]↔xs=[]:=by
 cases r with
 | nil=>simp
 | cons _ _=>simp
theorem op_catT:OpR X (binaryOp .Add) (qA4 X.K):=by
 intro pins s σ H x y v u Q I rx ry h;obtain ⟨a,b,xs,ys,rfl,rfl,ha,hb,hx,hz,q1,q2⟩:=h;cases rx;cases ry;obtain ⟨its,r1,p1,_⟩:=I.tuple ha;obtain ⟨its2,r2,p2,_⟩:=I.tuple hb;refine HT.cat_tup p1 p2 (λz=>hx (r1.nil_iff.mp z)) (λz=>⟨.ref a,H,I,rfl,q1 (r2.nil_iff.mp z)⟩) (λz=>?_) (by rw[<- r1.length,<- r2.length];exact hz);refine ⟨.ref s.heap.objs.size,_,I.laid (t':=s.toks) (o:=.tup (xs ++ ys)) (λb ob q=>Ab _ q) (Ag _) ?_,rfl,q2 (λw=>z (r2.nil_iff.mpr w)) _ (I.hok.fresh (Ag _))⟩;exact ⟨by rw[Az];exact hz,_,r1.append r2,IsTup.new _ _⟩
end
open PySem PySem.Spec PyProof.Rows
def ixN (n:Nat) (i:Int):Option Nat:=if 0<=i then (if i<n then some i.toNat else none) else if -(n:Int)<=i then some (i+n).toNat else none
def atI {α:Type} (xs:List α) (i:Int):Option α:=(ixN xs.length i).bind λj=>xs[j]?
theorem qvo {n:Nat} {i:Int} {j:Nat} (h:ixN n i=some j):seqIndex? i n=some j/\j<n /\ -(n:Int)<=i/\i<n:=by
 unfold ixN at h
 by_cases h0:0<=i
 ·rw[Ak h0] at h
  by_cases h1:i<n
  ·rw[Ak h1] at h
   have e:i.toNat=j:=AH h;exact ⟨by rw[seqIndex_of h0 h1,e],by omega,by omega,h1⟩
  ·rw[Ah h1] at h;cases h
 ·rw[Ah h0] at h
  by_cases h1:-(n:Int)<=i
  ·rw[Ak h1] at h
   have e:(i+n).toNat=j:=AH h;exact ⟨by rw[seqIndex_neg (by omega) h1,e],by omega,h1,by omega⟩
  ·rw[Ah h1] at h;cases h
theorem qqe {α:Type} {xs:List α} {i:Int} {v:α} (h:atI xs i=some v):∃ j,seqIndex? i xs.length=some j/\xs[j]?=some v/\j<xs.length /\ -(xs.length:Int)<=i/\i<xs.length:=by
 unfold atI at h
 cases e:ixN xs.length i with
 | none=>rw[e] at h;cases h
 | some j =>
  rw[e] at h;obtain ⟨h1,h2,h3,h4⟩:=qvo e;exact ⟨j,h1,h,h2,h3,h4⟩
theorem qhs {α:Type} {xs:List α} {j:Nat} {v:α} (h:xs[j]?=some v):atI xs (j:Int)=some v:=by
 have hj:j<xs.length:=(Am.mp h).1;have e:ixN xs.length (j:Int)=some j:=by
  unfold ixN;rw[Ak (by omega),Ak (by omega)];simp
 unfold atI;rw[e];exact h
def qvp (b:Expr):Prop:=∀ o i,subscripted b false o i=operate [o,i] (getItem o i)
def IxR (X:Cx) (r:R2):Prop:=
 ∀ (value slice:Expr) (pins:List (Addr×Obj)) (s:Shared) (σ:St) (H:Hp) (x y:V) (v u:Value) (Q:VK),Inv X pins σ H s->RelV x v->RelV y u->r x y H Q ->
  subscripted slice false v u=operate [v,u] (getItem v u)->wpAny (model X.prog X.w) X.A (subscriptTail value slice v u) (EP X pins σ Q) X.xe s
def MtR (X:Cx) (id:String) (r:V->List V->Hp->VK->Prop):Prop:=
 ∀ (pins:List (Addr×Obj)) (s:Shared) (σ:St) (H:Hp) (x:V) (xs:List V) (v:Value) (us:List Value) (Q:VK),Inv X pins σ H s->RelV x v->Vals xs us->r x xs H Q ->
  wpAny (model X.prog X.w) X.A (call (.builtin id) (v :: us)) (EP X pins σ Q) X.xe s
section
variable {X:Cx} {a b:Expr} {ta tb:TE} {pos:Pos}
theorem qbb {r:R2} (hr:IxR X r) (ha:PE X a ta) (hb:PE X b tb) (hs:qvp b):PE X (.Subscript a b pos) (tOp r ta tb):=by
 intro pins s σ H Q I h;exact Subscript_ (qAf ha hb I h λv u s2 x y H2 I2 rx ry q=>hr a b pins s2 σ H2 x y v u Q I2 rx ry q (hs _ _))
inductive rIxLS (K:Frag) (x y:V) (H:Hp) (Q:VK):Prop
 | mk (p:Addr) (xs:List V) (i:Int) (v:V) (hx:x=.ref p) (hy:y=.int i) (hs:SqL K H p xs) (ha:atI xs i=some v) (k:Q v H)
def qCm (K:Frag):R2:=λx y H Q=>rIxLS K x y H Q
inductive rIxTS (K:Frag) (x y:V) (H:Hp) (Q:VK):Prop
 | mk (p:Addr) (xs:List V) (i:Int) (v:V) (hx:x=.ref p) (hy:y=.int i) (hs:SqT K H p xs) (ha:atI xs i=some v) (k:Q v H)
def qB2 (K:Frag):R2:=λx y H Q=>rIxTS K x y H Q
theorem qbn:IxR X (qCm X.K):=by
 intro value slice pins s σ H x y v u Q I rx ry h hs;obtain ⟨p,xs,i,z,rfl,rfl,hq,he,q⟩:=h;cases rx;obtain ⟨t,rfl⟩:=ry;obtain ⟨its,r,pl,hz⟩:=I.list hq;obtain ⟨j,h1,h2,h3,h4,h5⟩:=qqe he;obtain ⟨w,ew,rw'⟩:=r.get h2;have hl:=r.length;have hn:=qm7;have fin:EP X pins σ Q w s:=⟨z,H,I,rw',q⟩
 by_cases h0:0<=i
 ·have hj:i.toNat=j:=by
   rw[seqIndex_of h0 h5] at h1;exact AH h1
  exact item_listR pl.isList h0 (by omega) (by rw[hj];simpa using ew) fin hs
 ·have hj:(i+(its.toArray.size:Int)).toNat=j:=by
   rw[seqIndex_neg (by omega) h4] at h1;rw[Ax,<- hl];exact AH h1
  exact EM (x:=w) pl.isList.typeIs slot_list_getitem.lookup
   (wpAny_getItem_list_neg (Q:=λr s'=>r=w/\EP X pins σ Q r s') pl.isList (by omega) (by rw[Ax]<;>omega) (by omega) (by rw[hj];simpa using ew) ⟨rfl,fin⟩) hs
theorem qbl:IxR X (qB2 X.K):=by
 intro value slice pins s σ H x y v u Q I rx ry h hs;obtain ⟨p,xs,i,z,rfl,rfl,hq,he,q⟩:=h;cases rx;obtain ⟨t,rfl⟩:=ry;obtain ⟨its,r,pl,hz⟩:=I.tuple hq;obtain ⟨j,h1,h2,h3,h4,h5⟩:=qqe he;obtain ⟨w,ew,rw'⟩:=r.get h2;have hl:=r.length;have hn:=qm7;have fin:EP X pins σ Q w s:=⟨z,H,I,rw',q⟩;exact EM (x:=w) pl.typeIs slot_tuple_getitem.lookup
  (getItem_tuple (j:=j) (Q:=λr s'=>r=w/\EP X pins σ Q r s') pl (by omega) (by omega) (by rw[Ax,<- hl];exact h1) (by simpa using ew) ⟨rfl,fin⟩) hs
theorem qku (lo hi:Option Int) (n:Nat):(sliceBounds lo hi none n).1=((HT.sIx n 0 lo:Nat):Int)/\(sliceBounds lo hi none n).2.1=((HT.sIx n n hi:Nat):Int)/\(sliceBounds lo hi none n).2.2=1:=by
 refine ⟨?_,?_,rfl⟩
 ·cases lo with
  | none=>simp[sliceBounds,HT.sIx]
  | some i =>
   simp only[sliceBounds,HT.sIx,Option.getD_none,show (1:Int)>0 by decide,DO]
   by_cases h:i<0
   ·simp only[h,DO]<;>omega
   ·simp only[h,CM]<;>omega
 ·cases hi with
  | none=>simp[sliceBounds,HT.sIx]
  | some i =>
   simp only[sliceBounds,HT.sIx,Option.getD_none,show (1:Int)>0 by decide,DO]
   by_cases h:i<0
   ·simp only[h,DO]<;>omega
   ·simp only[h,CM]<;>omega
theorem qjv (its:List Value) (lo hi:Option Int):slicePick its.toArray lo hi none=((its.drop (HT.sIx its.length 0 lo)).take (HT.sIx its.length its.length hi-HT.sIx its.length 0 lo)).toArray:=by
 obtain ⟨h1,h2,h3⟩:=qku lo hi its.toArray.size;unfold slicePick;rw[h1,h2,h3];simp only[sliceRange_one,pick_run,Ax]<;>rfl
def qCn (K:Frag):V->Option Int->Option Int->Hp->VK->Prop:=λx lo hi H Q=>∃ a xs,x=.ref a/\SqL K H a xs/\∀ p,H p=none->Q (.ref p) (upd H p (.lst (qju xs lo hi)))
theorem qvq:SlR X (qCn X.K):=by
 intro pins s σ H x v vl vu lo hi sl Q I rx hs pl pu h;obtain ⟨a,xs,rfl,hx,q⟩:=h;cases rx;obtain ⟨its,r,ht,hz⟩:=I.list hx;have hlen:=r.length;refine ⟨"list",_,slot_list_getitem.lookup,ht.isList.typeIs,?_⟩;refine wpAny_getItem_list_slice ht.isList hs pl pu .none (by simp) ?_ (by rw[Ax]<;>omega);rw[qjv,<- hlen];refine ⟨.ref s.heap.objs.size,_,I.laid (t':=s.toks) (o:=.lst (qju xs lo hi)) (λb ob q=>Ab _ q) (Ag _) ?_,rfl,q _ (I.hok.fresh (Ag _))⟩;exact ⟨AV (qhr xs lo hi) hz,_,0,(r.drop (HT.sIx xs.length 0 lo)).take (HT.sIx xs.length xs.length hi-HT.sIx xs.length 0 lo),Ao _ rfl⟩
theorem qbc:CallR X (.builtin "len") (λxs H Q=>∃ p ys,xs=[.ref p]/\(SqL X.K H p ys\/SqT X.K H p ys)/\Q (.int ys.length) H):=by
 intro pins s σ H xs us Q I r h;obtain ⟨p,ys,rfl,hq,q⟩:=h;obtain ⟨u,rfl,rx⟩:=vals1 r;cases rx;have hn:=qm7
 rcases hq with hq|hq
 ·obtain ⟨its,r',pl,hz⟩:=I.list hq
  have hlen:=r'.length;exact Calls.call_len_list pl.isList (by simp only[Ax]<;>omega) ⟨.int ys.length,H,I.tok _,⟨s.toks+1,by rw[Ax,hlen]⟩,q⟩
 ·obtain ⟨its,r',pl,hz⟩:=I.tuple hq
  have hlen:=r'.length;exact len_tuple pl (by simp only[Ax]<;>omega) ⟨.int ys.length,H,I.tok _,⟨s.toks+1,by rw[Ax,hlen]⟩,q⟩
theorem call_list_of:CallR X (.type "list") (λxs H Q=>∃ p ys,xs=[.ref p]/\(SqL X.K H p ys\/SqT X.K H p ys)/\∀ l,H l=none->Q (.ref l) (upd H l (.lst ys))):=by
 intro pins s σ H xs us Q I r h;obtain ⟨p,ys,rfl,hq,q⟩:=h;obtain ⟨u,rfl,rx⟩:=vals1 r;cases rx;have fin:∀ (its:List Value),Vals ys its->ys.length<=sizeLine->∀ (h':Heap) (c':Nat),(∀ b o',s.heap.get? b=some o'->h'.get? b=some o') ->
   h'.get? s.heap.objs.size=some { cls:=.type "list",dict:=none,data:=.seq its.toArray c',slots:=#[] }->EP X pins σ Q (.ref s.heap.objs.size) { s with heap:=h' }:=λits r' hz h' c' kp e =>
  ⟨.ref s.heap.objs.size,_,I.laid (t':=s.toks) kp (Ag _) (show ObjOk X.prog X.w _ h' _ (.lst ys) from ⟨hz,its,c',r',e⟩),rfl,q _ (I.hok.fresh (Ag _))⟩
 rcases hq with hq|hq
 ·obtain ⟨its,r',pl,hz⟩:=I.list hq
  have hlen:=r'.length;obtain ⟨o,ho,hc,n,hd⟩:=pl.isList;exact call_list_seq p (.inl rfl) ho hc hd (λh' c' kp e=>fin its r' hz h' c' kp e) (by simp only[Ax]<;>omega)
 ·obtain ⟨its,r',pl,hz⟩:=I.tuple hq
  have hlen:=r'.length;obtain ⟨o,ho,hc,n,hd⟩:=pl;exact call_list_seq p (.inr rfl) ho hc hd (λh' c' kp e=>fin its r' hz h' c' kp e) (by simp only[Ax]<;>omega)
def tyV (K:Frag) (T:String) (x:V) (H:Hp):Prop:=match x with
 | .str _=>T = "str"
 | .int _=>T = "int"
 | .ref p=>(T = "list" /\ ∃ xs,SqL K H p xs)\/(T = "tuple" /\ ∃ o,K.lookup p=some o/\o.cls=.type "tuple" /\ o.dict=none) \/
   (T = "dict" /\ ((∃ kvs,H p=some (.dK kvs))\/∃ kvs,H p=some (.dT kvs)))\/(T = "set" /\ ∃ S n,H p=some (.set S n))
 | _=>False
theorem qya {pins:List (Addr×Obj)} {σ:St} {H:Hp} {s:Shared} {T:String} {x:V} {v:Value} (I:Inv X pins σ H s) (r:RelV x v) (ty:tyV X.K T x H) :
  s.TypeIs v T/\∀ a,v=.ref a->∃ ob,s.heap.get? a=some ob/\ob.dict=none:=by
 cases x with
 | str z =>
  obtain ⟨t,rfl⟩:=r
  cases (show T = "str" from ty)
  exact ⟨typeIs_str s z t,λ_ e=>nomatch e⟩
 | int i =>
  obtain ⟨t,rfl⟩:=r
  cases (show T = "int" from ty)
  exact ⟨typeIs_int s i t,λ_ e=>nomatch e⟩
 | ref p =>
  cases r
  rcases ty with ⟨rfl,xs,hq⟩|⟨rfl,o,hk,hc,hd⟩|⟨rfl,hk⟩|⟨rfl,S,n,hk⟩
  ·obtain ⟨its,_,pl,_⟩:=I.list hq
   refine ⟨pl.isList.typeIs,λa e=>?_⟩;cases e;obtain ⟨o,n,e,c,hd,_⟩:=pl;exact ⟨o,e,hd⟩
  ·refine ⟨⟨o,I.kIn p o hk,hc⟩,λa e=>?_⟩
   cases e;exact ⟨o,I.kIn _ o hk,hd⟩
  ·have z:∃ o,s.heap.get? p=some o/\o.ExactDict:=by
    rcases hk with ⟨kvs,hk⟩|⟨kvs,hk⟩
    ·obtain ⟨_,_,_,_,o,_,_,e,ex,_⟩:=I.hok p _ hk
     exact ⟨o,e,ex⟩
    ·obtain ⟨_,_,_,_,o,_,_,e,ex,_⟩:=I.hok p _ hk
     exact ⟨o,e,ex⟩
   obtain ⟨o,e,ex⟩:=z;refine ⟨⟨o,e,ex.1⟩,λa e2=>?_⟩;cases e2;exact ⟨o,e,ex.2.1⟩
  ·obtain ⟨o,_,_,_,e,ex,_⟩:=I.hok p _ hk
   refine ⟨⟨o,e,ex.1⟩,λa e2=>?_⟩;cases e2;exact ⟨o,e,ex.2.1⟩
 | _=>exact False.elim ty
def tBM (K:Frag) (T:String) (r:V->List V->Hp->VK->Prop) (to:TE) (t:TA):TE:=λσ H Q=>to σ H λx H1=>tyV K T x H1/\t σ H1 λxs H2=>r x xs H2 Q
variable {o e:Expr} {es:List Expr} {to:TE} {t:TA} {name:Str} {apos cpos:Pos} {T id:String} {r:V->List V->Hp->VK->Prop}
theorem qqf (pa:PlainAttrs T) (slot:Slot T name id) (hty:typeOf (.builtin id)=pure (.type "method_descriptor")) (hm:MtR X id r) (ho:PE X o to) (ha:PA X (e :: es) t)
  (hbase:attributeBase o name X.env (eval o X.env)=eval o X.env:=by rfl)
  (hfew:((backTo cpos (starEach (e :: es) X.env)).all (λx=>!x.1) && (backToKw cpos (keywordEach [] X.env)).all (λx=>x.1.isSome)
   && decide ((e :: es).length+([]:List Keyword).length+(if ([]:List Keyword).isEmpty then 0 else 1)<30))=true:=by rfl)
  (hline:(apos.endLine == cpos.line)=true:=by rfl) (hs:starEach (e :: es) X.env=(false,eval e X.env) :: starEach es X.env:=by rfl) (hplain:(backTo cpos (starEach es X.env)).any (·.1)=false:=by rfl) :
  PE X (.Call (.Attribute o name apos) (e :: es) [] cpos) (tBM X.K T r to t):=by
 intro pins s σ H Q I h;refine wpAny_Call_method_late hbase hfew hline rfl (thn (ho pins s σ H _ I h) λv s1 hq__=>?_);obtain ⟨x,H1,I1,r1,ty,q1⟩:=hq__;obtain ⟨h1,h2⟩:=qya I1 r1 ty;refine ⟨T,id,pa,slot,hty,h1,h2,?_⟩;have hA:=ha cpos pins s1 σ H1 _ I1 q1;rw[hs] at hA ⊢;refine EU (by show (false || (backTo cpos (starEach es X.env)).any (·.1))=false;rw[hplain]<;>rfl) (CP ?_);exact thn hA λus s2 ⟨vs,H2,I2,r2,q2⟩=>hm pins s2 σ H2 x vs v us Q I2 r1 r2 q2
end
open PySem PySem.Spec PyProof.Rows
def MtM (X:Cx) (id:String) (r:V->List V->Hp->VK->Prop):Prop:=
 ∀ (pins:List (Addr×Obj)) (s:Shared) (σ:St) (H:Hp) (x:V) (xs:List V) (v:Value) (us:List Value) (Q:VK),Inv X pins σ H s->RelV x v->Vals xs us->r x xs H Q ->
  wpAny (model X.prog X.w) X.A (call (.builtin id) (v :: us)) (EP X pins σ Q) X.xe s
theorem Vals.one:∀ {x:V} {us:List Value},Vals [x] us->∃ u,us=[u]/\RelV x u
 | _,_,.cons r .nil=>⟨_,rfl,r⟩
section
variable {X:Cx} {pins:List (Addr×Obj)} {σ:St} {H:Hp} {s:Shared} {l b:Addr} {xs ys zs:List V}
theorem Inv.lset {its its':List Value} {n:Nat} {f:Array Value->Array Value} {t':Nat} (I:Inv X pins σ H s) (hH:H l=some (.lst xs))
  (e:s.heap.get? l=some { cls:=.type "list",data:=.seq its.toArray n }) (hf:f its.toArray=its'.toArray) (hv:Vals ys its') (hz:ys.length<=sizeLine) :
  Inv X pins σ (upd H l (.lst ys)) { s with heap:=s.heap.update l (Obj.mapSeq f),toks:=t' }:=by
 have q:=PySem.IsL.update e f;rw[hf] at q;refine I.write (x:=l) (e:=l) (by rw[hH];exact trivial) (.inl rfl) (λb' u hb hu=>(Bm s.heap (Obj.mapSeq f) (AX hb)).trans hu) ⟨_,q⟩ ?_;exact ⟨hz,its',_,hv,q⟩
theorem Inv.lnew {its:List Value} {t':Nat} (I:Inv X pins σ H s) (hv:Vals ys its) (hz:ys.length<=sizeLine) :
  Inv X pins σ (upd H s.heap.objs.size (.lst ys)) { s with heap:=s.heap.push { cls:=.type "list",data:=.seq its.toArray },toks:=t' }:=
 I.laid (λ_ _ q=>Ab _ q) (Ag _) ⟨hz,its,0,hv,Ao _ rfl⟩
theorem Inv.fresh (I:Inv X pins σ H s):H s.heap.objs.size=none:=I.hok.fresh (Ag _)
theorem Inv.lstM (I:Inv X pins σ H s) (hH:H l=some (.lst xs)):xs.length<=sizeLine/\∃ (its:List Value) (n:Nat),Vals xs its/\xs.length=its.length/\s.heap.get? l=some { cls:=.type "list",data:=.seq its.toArray n }:=by
 obtain ⟨z,its,n,r,e⟩:=I.hok l _ hH;exact ⟨z,its,n,r,r.length,e⟩
end
section
variable {X:Cx}
def qvr:V->List V->Hp->VK->Prop:=λx vs H Q=>∃ l xs y,x=.ref l/\vs=[y]/\H l=some (.lst xs)/\xs.length<sizeLine/\Q .non (upd H l (.lst (xs ++ [y])))
theorem mt_append:MtM X "list.append" qvr:=by
 intro pins s σ H x vs v us Q I rx rv h;obtain ⟨l,xs,y,rfl,rfl,hH,hz,q⟩:=h;cases rx;obtain ⟨u,rfl,ru⟩:=rv.one;obtain ⟨z,its,n,r,hl,e⟩:=I.lstM hH;refine call_meets F.slot_list_append ⟨_,e,rfl⟩ F.entry_list_append (Fn _ _) (PySem.list_append l its.toArray n u (by rw[Ax];omega)) ⟨e,?_⟩;refine ⟨.non,_,I.lset (its':=its ++ [u]) hH e (by simp) (r.append (.cons ru .nil)) ?_,rfl,q⟩;rw[Az,By];omega
def qCo:R2:=λx y H Q=>∃ l b xs zs,x=.ref l/\y=.ref b/\H l=some (.lst xs)/\H b=some (.lst zs)/\xs.length+zs.length<=sizeLine/\∀ p,H p=none->Q (.ref p) (upd H p (.lst (xs ++ zs)))
theorem op_cat:OpR X (binaryOp .Add) qCo:=by
 intro pins s σ H x y v u Q I rx ry h;obtain ⟨l,b,xs,zs,rfl,rfl,hH,hB,hz,q⟩:=h;cases rx;cases ry;obtain ⟨z,its,n,r,hl,e⟩:=I.lstM hH;obtain ⟨z2,its2,n2,r2,hl2,e2⟩:=I.lstM hB;refine PySem.P.add_list e e2 ?_ (by rw[Ax,Ax];omega);have ea:its.toArray ++ its2.toArray=(its ++ its2).toArray:=by simp
 rw[ea];exact ⟨.ref _,_,I.lnew (t':=s.toks) (r.append r2) (by rw[Az];omega),rfl,q _ I.fresh⟩
end
section
variable {prog:Program} {w:World} {A:Around} {E:Value->Shared->Prop} {s:Shared}
end
section
variable {X:Cx}
end
open PySem PySem.Spec PyProof.Rows
section
variable {κ:Type} [DecidableEq κ]
def qdn (kvs:List (κ×V)) (k:κ):Option V:=(kvs.find? λkv=>decide (kv.1=k)).map (·.2)
def putK (kvs:List (κ×V)) (k:κ) (v:V):List (κ×V):=
 if (kvs.any λkv=>decide (kv.1=k))=true then kvs.map (λkv=>if kv.1=k then (kv.1,v) else kv) else kvs ++ [(k,v)]
theorem qcp {p:κ×V} {r:List (κ×V)} {k:κ} (e:p.1=k):qdn (p :: r) k=some p.2:=by simp[qdn,BR,e]
theorem qcq {p:κ×V} {r:List (κ×V)} {k:κ} (e:¬ p.1=k):qdn (p :: r) k=qdn r k:=by simp[qdn,BR,e]
theorem qhi (k:κ):∀ kvs:List (κ×V),(kvs.any λkv=>decide (kv.1=k))=(qdn kvs k).isSome
 | []=>rfl
 | p :: r=>by
  rw[EF]
  by_cases e:p.1=k
  ·simp only[qcp e,AF e,Bool.true_or,Option.isSome_some]
  ·rw[qcq e,Ba e,Bool.false_or];exact qhi k r
theorem qm9 (k j:κ) (y:V):∀ kvs:List (κ×V),qdn (kvs.map λkv=>if kv.1=k then (kv.1,y) else kv) j=(qdn kvs j).map λx=>if j=k then y else x
 | []=>rfl
 | p :: r=>by
  have ih:=qm9 k j y r;rw[Aw]
  by_cases h:p.1=k
  ·rw[Ak h]
   by_cases e:p.1=j
   ·rw[qcp (p:=(p.1,y)) e,qcp e,Dv,Ak (e.symm.trans h)]
   ·rw[qcq (p:=(p.1,y)) e,qcq e,ih]
  ·rw[Ah h]
   by_cases e:p.1=j
   ·rw[qcp (p:=p) e,qcp e,Dv,Ah (λz=>h (e.trans z))]
   ·rw[qcq (p:=p) e,qcq e,ih]
theorem qkv (k j:κ) (y:V):∀ kvs:List (κ×V),qdn kvs k=none->qdn (kvs ++ [(k,y)]) j=if j=k then some y else qdn kvs j
 | [],_=>by
  by_cases e:k=j
  ·rw[Ak e.symm];exact qcp (p:=(k,y)) e
  ·rw[Ah (λz=>e z.symm)];exact qcq (p:=(k,y)) e
 | p :: r,hn=>by
  rw[Br];have hk:¬ p.1=k:=λz=>by rw[qcp z] at hn;cases hn
  rw[qcq hk] at hn;have ih:=qkv k j y r hn
  by_cases e:p.1=j
  ·rw[qcp e,qcp e,Ah (λz=>hk (e.trans z))]
  ·rw[qcq e,qcq e,ih]
theorem qgc (kvs:List (κ×V)) (k j:κ) (y:V):qdn (putK kvs k y) j=if j=k then some y else qdn kvs j:=by
 unfold putK
 by_cases a:(kvs.any λkv=>decide (kv.1=k))=true
 ·rw[Ak a,qm9]
  rw[qhi] at a
  by_cases e:j=k
  ·obtain ⟨x,hx⟩:=EC.mp a
   rw[Ak e,e,hx,Dv,Ak rfl]
  ·rw[Ah e]
   cases qdn kvs j with
   | none=>rfl
   | some x=>rw[Dv,Ah e]
 ·rw[Ah a]
  refine qkv k j y kvs ?_;rw[qhi] at a
  cases q:qdn kvs k with
  | none=>rfl
  | some x=>rw[q] at a;exact (a rfl).elim
theorem qht (kvs:List (κ×V)) (k:κ) (v:V):(putK kvs k v).length<=kvs.length+1:=by
 unfold putK
 split
 ·rw[Ad];omega
 ·rw[Az,AB,Cn];omega
theorem RelO.isSome_eq {o:Option V} {u:Option Value} (r:RelO o u):o.isSome=u.isSome:=by
 cases o with
 | none=>cases u with
  | none=>rfl
  | some _=>exact (show False from r).elim
 | some _=>cases u with
  | none=>exact (show False from r).elim
  | some _=>rfl
theorem RelO.getD {o:Option V} {u:Option Value} {d:V} {d':Value} (r:RelO o u) (rd:RelV d d'):RelV (o.getD d) (u.getD d'):=by
 cases o with
 | none=>cases u with
  | none=>exact rd
  | some _=>exact (show False from r).elim
 | some _=>cases u with
  | none=>exact (show False from r).elim
  | some _=>exact r
theorem KV.val {kvs:List (κ×V)} {vs:List (κ×Value)} (r:KV kvs vs) (k:κ):RelO (qdn kvs k) (valueAt vs k):=by
 unfold KV at r
 induction r with
 | nil=>exact True.intro
 | @cons p q ps qs h t ih =>
  obtain ⟨h1,h2⟩:=h
  by_cases e:p.1=k
  ·have e':q.1=k:=h1.symm.trans e
   have b:valueAt (q :: qs) k=some q.2:=by simp[valueAt,BR,e']
   rw[qcp e,b];exact h2
  ·have e':¬ q.1=k:=λz=>e (h1.trans z)
   have b:valueAt (q :: qs) k=valueAt qs k:=by simp[valueAt,BR,e']
   rw[qcq e,b];exact ih
theorem KV.any {kvs:List (κ×V)} {vs:List (κ×Value)} (r:KV kvs vs) (k:κ):(kvs.any λkv=>decide (kv.1=k))=vs.any λkv=>decide (kv.1=k):=by
 unfold KV at r
 induction r with
 | nil=>rfl
 | cons h t ih=>rw[EF,EF,ih,h.1]
theorem KV.repl {kvs:List (κ×V)} {vs:List (κ×Value)} (r:KV kvs vs) (k:κ) {y:V} {u:Value} (ry:RelV y u) :
  KV (kvs.map λkv=>if kv.1=k then (kv.1,y) else kv) (vs.map λkv=>if kv.1=k then (kv.1,u) else kv):=by
 unfold KV at r ⊢
 induction r with
 | nil=>exact .nil
 | @cons p q ps qs h t ih =>
  rw[Aw,Aw];refine .cons ?_ ih;obtain ⟨h1,h2⟩:=h
  by_cases e:p.1=k
  ·rw[Ak e,Ak (h1.symm.trans e)];exact ⟨h1,ry⟩
  ·rw[Ah e,Ah (λz=>e (h1.trans z))];exact ⟨h1,h2⟩
theorem KV.put {kvs:List (κ×V)} {vs:List (κ×Value)} (r:KV kvs vs) (k:κ) {y:V} {u:Value} (ry:RelV y u):KV (putK kvs k y) (stored vs k u):=by
 unfold putK stored;rw[r.any k]
 by_cases e:(vs.any λkv=>decide (kv.1=k))=true
 ·rw[Ak e,Ak e];exact r.repl k ry
 ·rw[Ah e,Ah e];exact Paired.snoc r ⟨rfl,ry⟩
theorem KV.length {kvs:List (κ×V)} {vs:List (κ×Value)} (r:KV kvs vs):kvs.length=vs.length:=EA r
end
theorem qox {P:Program} {w:World} {k:Key} {u:Value} (r:RelV (kV k) u):(qcd P w).is k u=true:=by
 cases k with
 | inl i=>obtain ⟨t,e⟩:=(show ∃ t,u=Value.int i t from r);subst e;exact qme P w i t
 | inr x=>obtain ⟨t,e⟩:=(show ∃ t,u=Value.str x t from r);subst e;exact qmf P w x t
theorem qkw {P:Program} {w:World}:∀ {ks:List Key} {us:List Value},Vals (ks.map kV) us->ItemsAre (qcd P w) ks us
 | [],_,r=>by rw[Dq] at r;cases r;exact .nil
 | k :: ks,_,r=>by
  rw[Aw] at r
  cases r with
  | cons h t=>exact .cons (qox h) (qkw t)
abbrev KT (H:Hp):List (List Key×V)->List (List Key×Addr×Value)->Prop:=Paired λp q=>p.1=q.1/\H q.2.1=some (.tup (p.1.map kV))/\RelV p.2 q.2.2
theorem KT.val {H:Hp} {kvs:List (List Key×V)} {xs:List (List Key×Addr×Value)} (r:KT H kvs xs) (k:List Key):RelO (qdn kvs k) ((atKey xs k).map (·.2)):=by
 induction r with
 | nil=>exact True.intro
 | @cons p q ps qs h t ih =>
  obtain ⟨h1,_,h2⟩:=h
  by_cases e:p.1=k
  ·have e':q.1=k:=h1.symm.trans e
   have b:atKey (q :: qs) k=some q.2:=by simp[atKey,BR,e']
   rw[qcp e,b];exact h2
  ·have e':¬ q.1=k:=λz=>e (h1.trans z)
   have b:atKey (q :: qs) k=atKey qs k:=by simp[atKey,BR,e']
   rw[qcq e,b];exact ih
theorem KT.repl {H:Hp} {kvs:List (List Key×V)} {xs:List (List Key×Addr×Value)} (r:KT H kvs xs) (k:List Key) {y:V} {u:Value} (ry:RelV y u) :
  KT H (kvs.map λkv=>if kv.1=k then (kv.1,y) else kv) (xs.map (putAt k u)):=by
 induction r with
 | nil=>exact .nil
 | @cons p q ps qs h t ih =>
  rw[Aw,Aw];refine .cons ?_ ih;obtain ⟨h1,h2,h3⟩:=h;unfold putAt
  by_cases e:p.1=k
  ·rw[Ak e,Ak (h1.symm.trans e)];exact ⟨h1,h2,ry⟩
  ·rw[Ah e,Ah (λz=>e (h1.trans z))];exact ⟨h1,h2,h3⟩
theorem KT.put {H:Hp} {kvs:List (List Key×V)} {xs:List (List Key×Addr×Value)} (r:KT H kvs xs) (k:List Key) {b:Addr} {y:V} {u:Value} (hb:H b=some (.tup (k.map kV))) (ry:RelV y u) :
  KT H (putK kvs k y) (storedH xs k b u):=by
 have e:(kvs.any λkv=>decide (kv.1=k))=(atKey xs k).isSome:=by
  rw[qhi,(r.val k).isSome_eq,DP]
 unfold putK storedH;rw[e]
 by_cases q:(atKey xs k).isSome=true
 ·rw[Ak q,Ak q];exact r.repl k ry
 ·rw[Ah q,Ah q];exact Paired.snoc r ⟨rfl,hb,ry⟩
theorem KT.keeps {H H':Hp} {kvs:List (List Key×V)} {xs:List (List Key×Addr×Value)} (r:KT H kvs xs) (ht:∀ b ys,H b=some (.tup ys)->H' b=some (.tup ys)):KT H' kvs xs:=
 Paired.mapP r λ_ _ z=>⟨z.1,ht _ _ z.2.1,z.2.2⟩
section
variable {P:Program} {w:World} {H:Hp} {h:Heap} {a:Addr}
theorem qyb {u:HO} (ok:HOk P w H h) (e:Rd H a u):ObjOk P w H h a u:=e.ok ok
theorem qkx {kvs:List (Key×V)} (ok:HOk P w H h) (e:Rd H a (.dK kvs)):kvs.length<=sizeLine/\(a == sysModules)=false/\∃ vs,KV kvs vs/\h.DictOf (qcd P w) a vs:=
 show ObjOk P w H h a (.dK kvs) from qyb ok e
theorem qA5 {kvs:List (Key×V)} (ok:HOk P w H h) (e:H a=some (.dK kvs)):kvs.length<=sizeLine/\(a == sysModules)=false/\∃ vs,KV kvs vs/\h.DictOf (qcd P w) a vs:=qkx ok (.inl e)
theorem qja {ks:List Key} (ok:HOk P w H h) (e:H a=some (.tup (ks.map kV))):(tupleKind (qcd P w)).is h ks a:=by
 obtain ⟨_,its,r,o,h1,h2,n,h3⟩:=(show ObjOk P w H h a (.tup (ks.map kV)) from ok a _ e);exact ⟨o,its.toArray,n,h1,h2,h3,by simpa using qkw r⟩
theorem qmh {kvs:List (List Key×V)} (ok:HOk P w H h) (e:Rd H a (.dT kvs)):kvs.length<=sizeLine/\(a == sysModules)=false /\
  ∃ xs,KT H kvs xs/\h.DictOfH (tupleKind (qcd P w)) a xs:=by
 obtain ⟨z,y,xs,r,o,es,ep,h1,h2,h3,h4,h5⟩:=(show ObjOk P w H h a (.dT kvs) from qyb ok e);refine ⟨z,y,xs,r,o,es,ep,h1,h2,h3,h4,λx hx=>?_,h5⟩;have all:∀ {l:List (List Key×V)} {m:List (List Key×Addr×Value)},KT H l m->∀ x∈m,(tupleKind (qcd P w)).is h x.1 x.2.1:=by
  intro l m q
  induction q with
  | nil=>intro x hx;exact nomatch hx
  | @cons p q ps qs hq t ih =>
   intro x hx
   rcases Ai.mp hx with e|hx
   ·subst e
    exact qja ok (by rw[<- hq.1];exact hq.2.1)
   ·exact ih x hx
 exact all r x hx
theorem qyc {kvs:List (List Key×V)} (ok:HOk P w H h) (e:H a=some (.dT kvs)):kvs.length<=sizeLine/\(a == sysModules)=false /\
  ∃ xs,KT H kvs xs/\h.DictOfH (tupleKind (qcd P w)) a xs:=qmh ok (.inl e)
end
def DGet (H:Hp) (a:Addr) (y:V) (r:Option V):Prop:=
 (∃ kvs k,Rd H a (.dK kvs)/\y=kV k/\r=qdn kvs k)\/∃ kvs k b,Rd H a (.dT kvs)/\y=.ref b/\H b=some (.tup (k.map kV))/\r=qdn kvs k
def DPut (H:Hp) (a:Addr) (y v:V) (H':Hp):Prop:=
 (∃ kvs k,H a=some (.dK kvs)/\y=kV k/\kvs.length<sizeLine/\H'=upd H a (.dK (putK kvs k v))) \/
 ∃ kvs k b,H a=some (.dT kvs)/\y=.ref b/\H b=some (.tup (k.map kV))/\kvs.length<sizeLine/\H'=upd H a (.dT (putK kvs k v))
theorem DGet.k {H:Hp} {a:Addr} {kvs:List (Key×V)} {k:Key} (e:H a=some (.dK kvs)):DGet H a (kV k) (qdn kvs k):=.inl ⟨kvs,k,.inl e,rfl,rfl⟩
theorem DGet.t {H:Hp} {a b:Addr} {kvs:List (List Key×V)} {k:List Key} (e:H a=some (.dT kvs)) (eb:H b=some (.tup (k.map kV))):DGet H a (.ref b) (qdn kvs k):=.inr ⟨kvs,k,b,.inl e,rfl,eb,rfl⟩
theorem DPut.k {H:Hp} {a:Addr} {kvs:List (Key×V)} {k:Key} {v:V} (e:H a=some (.dK kvs)) (hl:kvs.length<sizeLine):DPut H a (kV k) v (upd H a (.dK (putK kvs k v))):=.inl ⟨kvs,k,e,rfl,hl,rfl⟩
theorem DPut.t {H:Hp} {a b:Addr} {kvs:List (List Key×V)} {k:List Key} {v:V} (e:H a=some (.dT kvs)) (eb:H b=some (.tup (k.map kV))) (hl:kvs.length<sizeLine) :
  DPut H a (.ref b) v (upd H a (.dT (putK kvs k v))):=.inr ⟨kvs,k,b,e,rfl,eb,hl,rfl⟩
section
variable {X:Cx} {pins:List (Addr×Obj)} {σ:St} {H:Hp} {s:Shared} {a:Addr} {y v:V} {u r:Value} {o:Option V} {A:Around} {E:Value->Shared->Prop}
theorem Inv.big (I:Inv X pins σ H s):sysModules<s.heap.objs.size:=by
 have h:mainGlobals<s.heap.objs.size:=(I.mod.glob.keeps I.bk).lt;exact ES (by decide) h
theorem qqg {Q:Value->Shared->Prop} (hu:A.units+1<cLine) (I:Inv X pins σ H s) (g:DGet H a y (some v)) (ry:RelV y u) (h:∀ w' s',Inv X pins σ H s'->RelV v w'->Q w' s') :
  wpAny (model X.prog X.w) A (getItem (.ref a) u) Q E s:=by
 rcases g with ⟨kvs,k,e,ey,l⟩|⟨kvs,k,b,e,ey,eb,l⟩
 ·subst ey
  obtain ⟨z,hd,vs,rel,dd⟩:=qkx I.hok e;obtain ⟨w',hw,rw'⟩:=RelO.some_of (v:=v) (o:=valueAt vs k) (by rw[l];exact rel.val k);exact wpAny_getItem_of (qox ry) dd.mapOf hw (h w' _ (I.tok _) rw')
 ·subst ey
  cases (show u=Value.ref b from ry)
  obtain ⟨z,hd,xs,rel,dd⟩:=qmh I.hok e;obtain ⟨w',hw,rw'⟩:=RelO.some_of (v:=v) (o:=(atKey xs k).map (·.2)) (by rw[l];exact rel.val k);obtain ⟨p,hp,hp2⟩:=AL.mp hw;refine wpAny_getItem_heap (Cq hu) (qja I.hok eb) dd hp ?_;rw[hp2];exact h w' _ (I.tok _) rw'
theorem qCp {Q:Value->Shared->Prop} (hu:A.units+1<cLine) (I:Inv X pins σ H s) (g:DGet H a y o) (ry:RelV y u) (h:∀ s',Inv X pins σ H s'->Q (.bool o.isSome) s') :
  wpAny (model X.prog X.w) A (compareOp .In u (.ref a)) Q E s:=by
 rcases g with ⟨kvs,k,e,ey,l⟩|⟨kvs,k,b,e,ey,eb,l⟩
 ·subst ey
  obtain ⟨z,hd,vs,rel,dd⟩:=qkx I.hok e;refine wpAny_in_of (qox ry) hd dd.mapOf ?_;rw[<- (rel.val k).isSome_eq,<- l];exact h _ (I.tok _)
 ·subst ey
  cases (show u=Value.ref b from ry)
  obtain ⟨z,hd,xs,rel,dd⟩:=qmh I.hok e;refine wpAny_in_heap (Cq hu) (qja I.hok eb) hd dd ?_;have q:=(rel.val k).isSome_eq;rw[DP] at q;rw[<- q,<- l];exact h _ (I.tok _)
theorem qvs {Q:Value->Shared->Prop} (hu:A.units+1<cLine) (I:Inv X pins σ H s) (g:DGet H a y o) (ry:RelV y u) (h:∀ s',Inv X pins σ H s'->Q (.bool (!o.isSome)) s') :
  wpAny (model X.prog X.w) A (compareOp .NotIn u (.ref a)) Q E s:=by
 rcases g with ⟨kvs,k,e,ey,l⟩|⟨kvs,k,b,e,ey,eb,l⟩
 ·subst ey
  obtain ⟨z,hd,vs,rel,dd⟩:=qkx I.hok e;refine wpAny_notIn_of (qox ry) hd dd.mapOf ?_;rw[<- (rel.val k).isSome_eq,<- l];exact h _ (I.tok _)
 ·subst ey
  cases (show u=Value.ref b from ry)
  obtain ⟨z,hd,xs,rel,dd⟩:=qmh I.hok e;refine wpAny_notIn_heap (Cq hu) (qja I.hok eb) hd dd ?_;have q:=(rel.val k).isSome_eq;rw[DP] at q;rw[<- q,<- l];exact h _ (I.tok _)
theorem qqh {h':Heap} {t':Nat} {ob:HO} (I:Inv X pins σ H s) (mu:Mut (H a)) (hs:Heap.SameBut a s.heap h') (he:∃ q,h'.get? a=some q) (new:ObjOk X.prog X.w (upd H a ob) h' a ob) :
  Inv X pins σ (upd H a ob) { s with heap:=h',toks:=t' }:=
 I.write (x:=a) (e:=a) mu (.inl rfl) (λb q hb z=>(hs.2 b hb).trans z) he new
theorem qyd {P:Program} {w:World} {H':Hp} {h':Heap} {kvs:List (Key×V)} {vs:List (Key×Value)} (z:kvs.length<=sizeLine) (hd:(a == sysModules)=false) (rel:KV kvs vs) (dd:h'.DictOf (qcd P w) a vs) :
  ObjOk P w H' h' a (.dK kvs):=⟨z,hd,vs,rel,dd⟩
theorem qqi {H':Hp} {Q:Unit->Shared->Prop} (hu:A.units+1<cLine) (I:Inv X pins σ H s) (g:DPut H a y v H') (ry:RelV y u) (rv:RelV v r) (h:∀ s',Inv X pins σ H' s'->Q () s') :
  wpAny (model X.prog X.w) A (setItem (.ref a) u r) Q E s:=by
 rcases g with ⟨kvs,k,e,ey,l,eH⟩|⟨kvs,k,b,e,ey,eb,l,eH⟩
 ·subst ey eH
  obtain ⟨z,hd,vs,rel,dd⟩:=qA5 I.hok e;have hz:vs.length<=sizeLine:=by rw[<- rel.length];exact z
  have hl:(putK kvs k v).length<=sizeLine:=by have:=qht kvs k v;omega
  refine wpAny_setItem_pairs (hsz:=hz) (qox ry) dd λh' dd' hs=>h _ ?_
  have he:∃ q,h'.get? a=some q:=let ⟨q,_,_,hq,_⟩:=dd';⟨q,hq⟩
  exact qqh I (by rw[e];exact True.intro) hs he (qyd hl hd (rel.put k rv) dd')
 ·subst ey eH
  cases (show u=Value.ref b from ry)
  obtain ⟨z,hd,xs,rel,dd⟩:=qyc I.hok e;have hz:xs.length<=sizeLine:=by rw[<- EA rel];exact z
  have hl:(putK kvs k v).length<=sizeLine:=by have:=qht kvs k v;omega
  refine wpAny_setItem_heap (hsz:=hz) (Cq hu) (qja I.hok eb) dd λh' dd' hs=>h _ ?_
  obtain ⟨q,es,ep,hq,h2,h3,h4,_,h5⟩:=dd';refine qqh I (by rw[e];exact True.intro) hs ⟨q,hq⟩ ⟨hl,hd,_,(rel.put k eb rv).keeps λc ys ec=>?_,q,es,ep,hq,h2,h3,h4,h5⟩;rw[qa1 (qa0 ec e (λz=>nomatch z))];exact ec
end
section
variable {X:Cx} {pins:List (Addr×Obj)} {σ:St} {H:Hp} {s:Shared} {a:Addr} {kvs:List (Key×V)} {k:Key} {u:Value} {A:Around} {E:Value->Shared->Prop}
end
def qB3 (i:Expr):Prop:=∀ ov iv,subscripted i false ov iv=operate [ov,iv] (getItem ov iv)
theorem qvt {prog:Program} {w:World} {A:Around} {E:Value->Shared->Prop} {s:Shared} {env:Env} {value slice:Expr} {pos:Pos} {T id:String} {Q:Value->Shared->Prop}
  (hl:typeLookup (.type T) "__getitem__" = pure (some (.builtin id))) (hs:qB3 slice)
  (h:wpAny (model prog w) A (eval value env) (λo s₁=>wpAny (model prog w) A (eval slice env) (λi s₂=>s₂.TypeIs o T/\wpAny (model prog w) A (getItem o i) Q E s₂) E s₁) E s) :
  wpAny (model prog w) A (eval (.Subscript value slice pos) env) Q E s:=by
 refine Subscript_ (AY h (λo s₁ h₁=>AY h₁ (λi s₂ h₂=>?_) λ_ _ x=>x) λ_ _ x=>x);obtain ⟨hT,h₂⟩:=h₂;unfold subscriptTail;refine Aa ?_;rw[getitemInPython_of_ne hT.not_modules];refine Aa (wpAny_specialOf hT hl ?_);have fin:wpAny (model prog w) A (subscripted slice false o i) (λr s₃=>wpAny (model prog w) A (letTemporaryGo value o r >>= λ_=>pure r) Q E s₃) E s₂:=by
  rw[hs o i];exact wpAny_operating (AY h₂ (λr s₃ h₃=>Aa (wpAny_letTemporaryGo (Ae h₃))) λ_ _ x=>x)
 first
  | exact Ae (Aa fin)
  | exact Aa (Ae (Aa fin))
  | exact Aa fin
theorem qmi {X:Cx} {pins:List (Addr×Obj)} {σ:St} {H:Hp} {s:Shared} {a:Addr} {y:V} {o:Option V} (I:Inv X pins σ H s) (g:DGet H a y o):s.TypeIs (.ref a) "dict" :=by
 rcases g with ⟨kvs,k,e,_,_⟩|⟨kvs,k,b,e,_,_,_⟩
 ·obtain ⟨_,_,vs,_,dd⟩:=qkx I.hok e
  exact dd.typeIs
 ·obtain ⟨_,_,xs,_,dd⟩:=qmh I.hok e
  exact dd.typeIs
def qA6 (td ty:TE):TE:=λσ H Q=>td σ H λx H1=>ty σ H1 λy H2=>∃ a v,x=.ref a/\DGet H2 a y (some v)/\Q v H2
def qCq (ty td:TE):TE:=λσ H Q=>ty σ H λy H1=>td σ H1 λx H2=>∃ a o,x=.ref a/\DGet H2 a y o/\Q (.bl o.isSome) H2
def qvu (ty td:TE):TE:=λσ H Q=>ty σ H λy H1=>td σ H1 λx H2=>∃ a o,x=.ref a/\DGet H2 a y o/\Q (.bl (!o.isSome)) H2
def qA7 (td ty tv:TE):TS:=λD σ H=>tv σ H λv H1=>td σ H1 λx H2=>ty σ H2 λy H3=>∃ a H4,x=.ref a/\DPut H3 a y v H4/\D.nx σ H4
section
variable {X:Cx} {o i e value:Expr} {pos pos' tpos:Pos} {td ty tv:TE}
theorem qhu (hu:X.A.units+1<cLine) (ho:PE X o td) (hi:PE X i ty) (hs:qB3 i):PE X (.Subscript o i pos) (qA6 td ty):=by
 intro pins s σ H Q I h;refine qvt PySem.F.slot_dict_getitem.lookup hs (thn (ho pins s σ H _ I h) λu s1 ⟨x,H1,I1,rx,q1⟩=>thn (hi pins s1 σ H1 _ I1 q1) λiv s2 hq__=>?_);obtain ⟨y,H2,I2,ry,a,v,ex,g,q2⟩:=hq__;subst ex;obtain rfl:u=Value.ref a:=rx;exact ⟨qmi I2 g,qqg hu I2 g ry λw' s3 I3 rw'=>⟨v,H2,I3,rw',q2⟩⟩
theorem qug (hu:X.A.units+1<cLine) (hi:PE X i ty) (ho:PE X o td):PC X .In i o (qCq ty td):=by
 intro pins s σ H Q I h;refine thn (hi pins s σ H _ I h) λiv s1 ⟨y,H1,I1,ry,q1⟩=>thn (ho pins s1 σ H1 _ I1 q1) λu s2 hq__=>?_
 obtain ⟨x,H2,I2,rx,a,ov,ex,g,q2⟩:=hq__;subst ex;obtain rfl:u=Value.ref a:=rx;exact qCp hu I2 g ry λs3 I3=>⟨.bl ov.isSome,H2,I3,rfl,q2⟩
theorem qqj (hu:X.A.units+1<cLine) (hi:PE X i ty) (ho:PE X o td):PC X .NotIn i o (qvu ty td):=by
 intro pins s σ H Q I h;refine thn (hi pins s σ H _ I h) λiv s1 ⟨y,H1,I1,ry,q1⟩=>thn (ho pins s1 σ H1 _ I1 q1) λu s2 hq__=>?_
 obtain ⟨x,H2,I2,rx,a,ov,ex,g,q2⟩:=hq__;subst ex;obtain rfl:u=Value.ref a:=rx;exact qvs hu I2 g ry λs3 I3=>⟨.bl (!ov.isSome),H2,I3,rfl,q2⟩
theorem qhv (hu:X.A.units+1<cLine) (ho:PE X o td) (hi:PE X i ty) (hv:PE X value tv) (hs:swapsWith value (some (.Subscript o i pos')) pos.line X.env=pure false) :
  PS X (.Assign [.Subscript o i pos'] value pos) (qA7 td ty tv):=by
 intro pins s σ H D I h;refine wpAny_Assign_Subscript (thn (hv pins s σ H _ I h) λr s1 ⟨v,H1,I1,rv,q1⟩=>thn (ho pins s1 σ H1 _ I1 q1) λu s2 ⟨x,H2,I2,rx,q2⟩=>thn (hi pins s2 σ H2 _ I2 q2) λiv s3 hq__=>?_) hs;obtain ⟨y,H3,I3,ry,a,H4,ex,g,q3⟩:=hq__;subst ex;obtain rfl:u=Value.ref a:=rx;exact qqi hu I3 g ry rv λs4 I4=>⟨σ,H4,I4,q3⟩
end
theorem qs6 {P:Program} {w:World} {H:Hp} (h:Heap) (hb:sysModules<h.objs.size):ObjOk P w H (h.push { cls:=.type "dict",data:=.dict #[] }) h.objs.size (.dK []):=
 ⟨AW _,BL.mpr (AX (Av hb)),[],.nil,Heap.DictOf.new h⟩
theorem qs7 {P:Program} {w:World} {H:Hp} (h:Heap) (hb:sysModules<h.objs.size):ObjOk P w H (h.push { cls:=.type "dict",data:=.dict #[] }) h.objs.size (.dT []):=
 ⟨AW _,BL.mpr (AX (Av hb)),[],.nil,_,#[],0,Ao _ rfl,⟨rfl,rfl,rfl⟩,rfl,rfl,C3⟩
def qye:TE:=λ_ H Q=>∀ p,H p=none->Q (.ref p) (upd H p (.dK []))
def qyf:TE:=λ_ H Q=>∀ p,H p=none->Q (.ref p) (upd H p (.dT []))
section
variable {X:Cx} {pos:Pos}
theorem qs8:PE X (.Dict [] [] pos) qye:=λpins s σ H Q I h =>
 wpAny_Dict_empty ⟨.ref s.heap.objs.size,_,I.laid (a:=s.heap.objs.size) (o:=.dK []) (t':=s.toks) (λ_ _ q=>Ab _ q) (Ag _) (qs6 s.heap I.big),rfl,h _ (I.hok.fresh (Ag _))⟩
theorem qs9:PE X (.Dict [] [] pos) qyf:=λpins s σ H Q I h =>
 wpAny_Dict_empty ⟨.ref s.heap.objs.size,_,I.laid (a:=s.heap.objs.size) (o:=.dT []) (t':=s.toks) (λ_ _ q=>Ab _ q) (Ag _) (qs7 s.heap I.big),rfl,h _ (I.hok.fresh (Ag _))⟩
end
structure M2 (X:Cx) (o:Expr) (m:Str) (apos:Pos) (e f:Expr) (cpos:Pos):Prop where
 base:attributeBase o m X.env (eval o X.env)=eval o X.env
 few:((backTo cpos (starEach [e,f] X.env)).all (λx=>!x.1) && (backToKw cpos (keywordEach [] X.env)).all (λx=>x.1.isSome)
  && decide (([e,f]:List Expr).length+([]:List Keyword).length+(if ([]:List Keyword).isEmpty then 0 else 1)<30))=true
 line:(apos.endLine == cpos.line)=true
 trees:backTo cpos (starEach [e,f] X.env)=[(false,eval e X.env),(false,eval f X.env)]
def IsD (H:Hp) (a:Addr):Prop:=(∃ kvs,Rd H a (.dK kvs))\/∃ kvs,Rd H a (.dT kvs)
theorem qyg {X:Cx} {pins:List (Addr×Obj)} {σ:St} {H:Hp} {s:Shared} {a:Addr} (I:Inv X pins σ H s) (d:IsD H a) :
  s.TypeIs (.ref a) "dict" /\ (∀ b,Value.ref a=.ref b->∃ ob,s.heap.get? b=some ob/\ob.dict=none)/\(a == sysModules)=false:=by
 rcases d with ⟨kvs,e⟩|⟨kvs,e⟩
 ·obtain ⟨_,hd,vs,_,dd⟩:=qkx I.hok e
  refine ⟨dd.typeIs,λb q=>?_,hd⟩;cases q;obtain ⟨ob,_,_,h1,h2,_⟩:=dd;exact ⟨ob,h1,h2.2.1⟩
 ·obtain ⟨_,hd,xs,_,dd⟩:=qmh I.hok e
  refine ⟨dd.typeIs,λb q=>?_,hd⟩;cases q;obtain ⟨ob,_,_,h1,h2,_⟩:=dd;exact ⟨ob,h1,h2.2.1⟩
section
variable {X:Cx} {pins:List (Addr×Obj)} {σ:St} {H:Hp} {s:Shared} {a:Addr} {y d:V} {u r:Value} {o:Option V} {A:Around} {E:Value->Shared->Prop}
theorem qyh {Q:Value->Shared->Prop} (hu:A.units+1<cLine) (I:Inv X pins σ H s) (g:DGet H a y o) (ry:RelV y u) (rd:RelV d r) (h:∀ w' s',Inv X pins σ H s'->RelV (o.getD d) w'->Q w' s') :
  wpAny (model X.prog X.w) A (call (.builtin "dict.get") [.ref a,u,r]) Q E s:=by
 rcases g with ⟨kvs,k,e,ey,l⟩|⟨kvs,k,b,e,ey,eb,l⟩
 ·subst ey
  obtain ⟨z,hd,vs,rel,dd⟩:=qkx I.hok e;refine call_meetsIn Dx dd.typeIs ER (EH _ _ _) (meets_dict_get_default (qcd X.prog X.w) a (qox ry) hd r) ⟨_,dd.mapOf,h _ _ (I.tok _) ?_⟩;rw[l];exact (rel.val k).getD rd
 ·subst ey
  cases (show u=Value.ref b from ry)
  obtain ⟨z,hd,xs,rel,dd⟩:=qmh I.hok e;refine call_meetsIn Dx dd.typeIs ER (EH _ _ _) (meetsH_dict_get_default (tupleKind (qcd X.prog X.w)) a b hd r) ⟨Cq hu,k,xs,qja I.hok eb,dd,h _ _ (I.tok _) ?_⟩;rw[l];exact (rel.val k).getD rd
end
def qyi (td ty tx:TE):TE:=λσ H Q=>td σ H λx H1=>∃ a,x=.ref a/\IsD H1 a/\ty σ H1 λy H2=>tx σ H2 λz H3=>∃ o,DGet H3 a y o/\Q (o.getD z) H3
section
variable {X:Cx} {o e f:Expr} {apos cpos:Pos} {td ty tx:TE}
theorem qta (hu:X.A.units+1<cLine) (ho:PE X o td) (he:PE X e ty) (hf:PE X f tx) (m:M2 X o "get" apos e f cpos):PE X (.Call (.Attribute o "get" apos) [e,f] [] cpos) (qyi td ty tx):=by
 intro pins s σ H Q I h;refine wpAny_Call_method m.base m.few m.line PySem.F.plainAttrs_dict Dx PySem.F.type_dict_get (thn (ho pins s σ H _ I h) λu s1 hq__=>?_);obtain ⟨x,H1,I1,rx,a,ex,d,q1⟩:=hq__;subst ex;obtain rfl:u=Value.ref a:=rx;obtain ⟨t1,t2,_⟩:=qyg I1 d;refine ⟨t1,t2,?_⟩;rw[m.trees];refine EU rfl (CP (DM (thn (he pins s1 σ H1 _ I1 q1) λiv s2 ⟨y,H2,I2,ry,q2⟩ =>
  DM (thn (hf pins s2 σ H2 _ I2 q2) λfv s3 ⟨z,H3,I3,rz,ov,g,q3⟩=>Calls.spliced_nil ?_))))
 exact qyh hu I3 g ry rz λw' s4 I4 rw'=>⟨_,H3,I4,rw',q3⟩
end
section
variable {X:Cx} {pins:List (Addr×Obj)} {σ:St} {H:Hp} {s:Shared} {a:Addr} {kvs:List (Key×V)} {A:Around} {E:Value->Shared->Prop}
end
section
variable {X:Cx} {pins:List (Addr×Obj)} {σ:St} {H:Hp} {s:Shared} {a:Addr} {y:V} {u:Value} {A:Around} {E:Value->Shared->Prop}
end
end L2
namespace Att
open PySem PySem.W PySem.Calls PyProof.Rows
theorem qhw {P:Params} {h:Heap}:∀ (ns:List Int) (vs:List Value),WellAll P h vs (ns.map WData.int)->IntsAre vs ns:=by
 intro ns
 induction ns with
 | nil =>
  intro vs w;rw[Dq] at w;cases w;exact .nil
 | cons n ns ih =>
  intro vs w;rw[Aw] at w
  cases w with
  | cons a b =>
   cases a;exact .cons _ _ (ih _ b)
theorem qqk {l:OpenLaw} {n:Nat} (hn:l.most=some n) {P:Params} {h:Heap} {args:List WData} {qsq:List Value}
  (hpre:l.row.toRowW.claim.pre args=true) (hwl:WellAll P h qsq args) :
  ∃ a vs ns,qsq=[Value.ref a]/\args=[WData.list (ns.map WData.int)]/\h.get? a=some { cls:=.type "list",data:=.seq vs.toArray }/\IntsAre vs ns/\ns.length<=n:=by
 have hsh:WShape.hasAll [] args [.list .int]=true:=(pre_splitW hpre).1;have hc:l.pre.holds [] { args:=args }=true:=(pre_splitW hpre).2;obtain ⟨d,r,rfl,h1,h2⟩:=hasAllW_cons hsh;obtain rfl:=hasAllW_nil h2;obtain ⟨xs,rfl,h3⟩:=hasW_list h1;obtain ⟨ns,rfl⟩:=items_int h3;have hlen:ns.length<=n:=by
  unfold OpenLaw.pre at hc;have h4:(WTm.not (.lt (.lit (.int (n:Int))) (.len (.arg 0)))).holds [] { args:=[.list (ns.map .int)] }=true:=by
   have h4:=(holds_andW hc).1;rw[hn] at h4;exact h4
  have h5:=condW_of h4 (w_not (w_lt w_lit (w_len_list (w_arg rfl))));rw[Ad] at h5;refine Nat.le_of_not_lt λq=>?_
  have q':(n:Int)<((ns.length:Nat):Int):=by omega
  first
   | (rw[AF q'] at h5;exact absurd h5 (by decide))
   | (simp at h5;omega)
 cases hwl with
 | cons w1 w2 =>
  cases w2
  cases w1 with
  | list ho hall=>exact ⟨_,_,ns,rfl,rfl,ho,qhw ns _ hall,hlen⟩
theorem qql (l:OpenLaw) (args:List WData):l.row.toRowW.claim.post args (.bool true) args=true:=
 postW_of (r:=l.row.toRowW) (X:=(true == true))
  (show WShape.has [] (.bool true) .bool=true by first|rfl|decide|simp[WShape.has,WShape.arms,WShape.armsAll])
  (show (WTm.eq .res (.lit (.bool true))).value [] { args:=args,res:=some (.bool true),after:=args }=some (.bool (true == true)) from w_eq_bool (w_res rfl) w_lit) rfl
theorem attach_call {l:OpenLaw} {n:Nat} {q:Program} {loose:List Str} {XP:(Str->Option Value)->Heap->Prop} {YP:World->Heap->Prop} {d:DefRec}
  (hn:l.most=some n) (hdf:d.params.defaults=[])
  (call:∀ (w:World) (s₀ s₁:Shared) (mg mb:Str->Option Value) (fa:Addr) (o:Obj) (pm cd doc:Value) (a:Addr) (vs:List Value) (ns:List Int),
   Ground q loose [] XP w s₀ mg mb s₁.heap->YP w s₁.heap ->
   s₁.heap.get? fa=some o->o.data=.func (docDef d.name d.params d.body d.scope pm cd doc)->s₁.heap.CodeRec cd d.name->mg d.name=some (.ref fa) ->
   s₁.heap.get? a=some { cls:=.type "list",data:=.seq vs.toArray }->IntsAre vs ns->ns.length<=n->s₁.gens = #[] ->
   codeAny (model l.prog w) callerA (.call (.ref fa) ⟨[.ref a],[]⟩) (λr s'=>r=.ok (.ret (.bool true))/\OldK s₁.heap s'.heap/\s'.os=s₁.os/\AllBare s'.gens) s₁) :
  WalkO q loose XP YP l.row.toRowW d [] (λf vs=>PySem.call f vs):=by
 intro w s₀ s₁ mg mb G Y fa o pm cd doc dV kV ho hd hcd hD hmg hg args qsq as hpre hlay hrd hwl hlo;obtain rfl:dV=.none:=Dflts.none hD hdf;obtain rfl:kV=.none:=Dflts.noKw hD;obtain ⟨a,vs,ns,rfl,rfl,hobj,hints,hlen⟩:=qqk hn hpre hwl;refine enter_call (BF (call w s₀ s₁ mg mb fa o pm cd doc a vs ns G Y ho (fd_plain hd) hcd hmg hobj hints hlen hg) λr s' hq=>?_);obtain ⟨rfl,h2,h3,h4⟩:=hq;exact ⟨.inl ⟨.bool true,.bool true,[],rfl,λ_=>rfl,.bool true,qql l _,λ_=>⟨List.Pairwise.nil,λ_ hm=>(nomatch hm)⟩⟩,h2,h3,h4⟩
section
variable {prog:Program} {w:World} {A:Around} {E:Value->Shared->Prop} {s:Shared} {K:Frag}
def ledger (h:Heap) (L d:Addr):List (Addr×Obj):=(List.range h.objs.size).filterMap λa=>if a=L\/a=d then none else (h.get? a).map λo=>(a,o)
end
end Att
namespace L2
open PySem PySem.Spec PyProof.Rows
theorem qky:∀ {vs:List Value} {ns:List Int},IntsAre vs ns->Vals (ns.map V.int) vs
 | _,_,.nil=>.nil
 | _,_,.cons n t h=>.cons ⟨t,rfl⟩ (qky h)
def qA8 (H:Hp):Prop:=∀ b,H b=none\/∃ o xs,H b=some (.frz o (.lst xs))
theorem qtb {P:Program} {w:World} {K:Frag} {mg mb:Str->Option Value} {CX:CXT} {k:Nat} {fa a:Addr} {fd:FuncData} {x:Str} {sp:Sp} {s₁:Shared} {vs:List Value} {ns:List Int}
  (KX:K.In s₁.heap) (hns:s₁.heap.Ns mainGlobals mg) (hb:s₁.heap.Ns builtinsNs mb) (hbb:∀ x:Str,x ≠ "__name__" -> mb x=bootBuiltins x) (hlim:s₁.heap.NoLimit) (hnd:s₁.heap.NoDigits) (hg:s₁.gens = #[])
  (ha:s₁.heap.get? a=some { cls:=.type "list",data:=.seq vs.toArray }) (hi:IntsAre vs ns) (hl:ns.length<=sizeLine) (hr:Room k callerA)
  (F:∀ base:Heap,K.In base->base.Ns mainGlobals mg->qhd P w K mg base CX k fa fd [x] sp) (hbind:∀ (s:Shared) (u:Value),BindsTo s fd ⟨[u],[]⟩ [(x,u)])
  (hsp:∀ H:Hp,qA8 H->SqL K H a (ns.map V.int)->sp [.ref a] H (λv _=>v=.bl true) λ_ _ _=>False)
  (hCX:∀ H e s',CX [] H s₁ (λ_ _ _=>False) e s'->False) :
  codeAny (model P w) callerA (.call (.ref fa) ⟨[.ref a],[]⟩) (λr s'=>r=.ok (.ret (.bool true))/\OldK s₁.heap s'.heap/\s'.os=s₁.os/\AllBare s'.gens) s₁:=by
 have rv:=qky hi;have lenV:=hi.length;have core:∀ H:Hp,qA8 H->SqL K H a (ns.map V.int)->HOk P w H s₁.heap->(∀ b,H b≠none->b=a)->(H a≠none->K.lookup a=none) ->
   codeAny (model P w) callerA (.call (.ref fa) ⟨[.ref a],[]⟩) (λr s'=>r=.ok (.ret (.bool true))/\OldK s₁.heap s'.heap/\s'.os=s₁.os/\AllBare s'.gens) s₁:=by
  intro H hO hS hok hA hK;have base_of:∀ {b:Addr} {o:Obj},s₁.heap.get? b=some o->H b=none->(qst s₁.heap H).get? b=some o:=λe n=>qsu e n
  have noA:∀ {b:Addr} {o:Obj} {es:Array DictEntry} {ep:Nat},s₁.heap.get? b=some o->o.data=.dict es ep->H b=none:=fun {b o es ep} e d=>by
   cases q:H b with
   | none=>rfl
   | some u =>
    have e':b=a:=hA b (by rw[q];simp);subst e';rw[ha] at e;cases e;have d':Data.seq vs.toArray _=Data.dict es ep:=d
    cases d'
  have nsK:∀ {b:Addr} {m:Str->Option Value},s₁.heap.Ns b m->(qst s₁.heap H).Ns b m:=fun {b m} ⟨o,es,ep,e,d,r⟩=>⟨o,es,ep,base_of e (noA e d),d,r⟩
  have hKb:K.In (qst s₁.heap H):=λb o e=>base_of (KX b o e) (by
   cases q:H b with
   | none=>rfl
   | some u =>
    have e':b=a:=hA b (by rw[q];simp);subst e';rw[hK (by rw[q];simp)] at e;cases e)
  have hM:Mod K mg (qst s₁.heap H):=⟨hKb,nsK hns,⟨mb,nsK hb,hbb⟩,let ⟨mc,h1,h2⟩:=hlim;⟨mc,nsK h1,h2⟩,let ⟨mc,h1,h2⟩:=hnd;⟨mc,nsK h1,h2⟩⟩;have e0:Env0 P w K mg (qst s₁.heap H) callerA [] s₁ H:=⟨rfl,hM,λb o e=>qvd e,Nat.le_of_eq (qpw _ _),trivial,λb hb=>absurd (show b∈([]:List Addr) from hb) (by simp),hok,.of_eq hg⟩;refine BF ((F _ hKb (nsK hns)).run callerA [] s₁ H ⟨[.ref a],[]⟩ [.ref a] [.ref a] _ _ hr e0 (hbind s₁ (.ref a)) (.cons rfl .nil) (hsp H hO hS)) λr s' h=>?_
  cases r with
  | error e=>exact (hCX H e s' h).elim
  | ok fl =>
   cases fl with
   | next=>exact False.elim h
   | brk=>exact False.elim h
   | cont=>exact False.elim h
   | ret u =>
    obtain ⟨v,H',os,bare,un,hok',r',q⟩:=h;have q':v=.bl true:=q;subst q';obtain rfl:u=Value.bool true:=r';refine ⟨rfl,OldK.of_keep λb o e=>?_,os,bare⟩
    cases q:H b with
    | none=>exact un.keep b o e q (by intro z;exact absurd (show b∈([]:List Addr) from z) (by simp)) (by simp)
    | some u =>
     rcases hO b with z|⟨ob,xs,z⟩
     ·rw[q] at z;cases z
     ·have z2:=un.frzs b ob _ z
      obtain ⟨e1,_⟩:=hok b _ z;obtain ⟨e2,_⟩:=hok' b _ z2;rw[e] at e1;cases e1;exact e2
 cases hk:K.lookup a with
 | some o =>
  have e:=KX a o hk;rw[ha] at e;cases e;refine core (λ_=>none) (λ_=>.inl rfl) (.inr ⟨_,vs.toArray,_,hk,rfl,rfl,rfl,by rw[Ax,lenV];exact hl,by simpa using rv⟩) (λb u z=>by have z':(none:Option HO)=some u:=z;cases z') (λb z=>absurd rfl z) λz=>absurd rfl z
 | none =>
  refine core (λb=>if b=a then some (.frz { cls:=.type "list",data:=.seq vs.toArray } (.lst (ns.map V.int))) else none) (λb=>?_) (.inl (.inr ⟨{ cls:=.type "list",data:=.seq vs.toArray },Ak rfl⟩)) (λb u z=>?_) (λb z=>?_) λ_=>hk
  ·by_cases hb:b=a
   ·exact .inr ⟨_,_,Ak hb⟩
   ·exact .inl (Ah hb)
  ·by_cases hb:b=a
   ·have z':=(Ak hb).symm.trans z
    cases z'
    subst hb;exact ⟨ha,by rw[Ad];exact hl,vs,_,rv,ha⟩
   ·have z':=(Ah hb).symm.trans z
    cases z'
  ·by_cases hb:b=a
   ·exact hb
   ·exact absurd (Ah hb) z
open PySem PySem.Spec PyProof.Rows
abbrev KOf {K:Frag} {h:Heap} (_:K.In h):Frag:=K
theorem qvv {l:PySem.W.OpenLaw} {n k:Nat} {q:Program} {loose:List Str} {XP:(Str->Option Value)->Heap->Prop} {YP:World->Heap->Prop} {d:DefRec} {K:Params->Frag} {CX:World->CXT} {sp:World->Sp} {x:Str}
  (hn:l.most=some n) (hn2:n<=sizeLine) (hdf:d.params.defaults=[]) (hr:Room k callerA)
  (hY:∀ (w:World) (h:Heap),YP w h->(K w.params).In h)
  (F:∀ (w:World) (mg:Str->Option Value) (fa:Addr) (h:Heap),(K w.params).In h->h.Ns mainGlobals mg->mg d.name=some (.ref fa) ->
   ∃ fd:FuncData,(∀ (s:Shared) (u:Value),BindsTo s fd ⟨[u],[]⟩ [(x,u)]) /\
    ∀ base:Heap,(K w.params).In base->base.Ns mainGlobals mg->qhd l.prog w (K w.params) mg base (CX w) k fa fd [x] (sp w))
  (hsp:∀ (w:World) (H:Hp) (a:Addr) (ns:List Int),ns.length<=n->qA8 H->SqL (K w.params) H a (ns.map V.int)->sp w [.ref a] H (λv _=>v=.bl true) λ_ _ _=>False)
  (hCX:∀ (w:World) (H:Hp) (s:Shared) (e:Value) (s':Shared),CX w [] H s (λ_ _ _=>False) e s'->False) :
  PySem.W.WalkO q loose XP YP l.row.toRowW d [] (λf vs=>PySem.call f vs):=by
 refine Att.attach_call hn hdf λw s₀ s₁ mg mb fa o pm cd doc a vs ns G Y ho hd hcd hmg hobj hints hlen hg=>?_
 have KX:=hY w _ Y;obtain ⟨fd,hb,hF⟩:=F w mg fa _ KX G.T.g hmg;exact qtb KX G.T.g G.T.b G.T.builtins G.T.nolimit G.T.nodigits hg hobj hints (AV hlen hn2) hr hF hb (λH hO hS=>hsp w H a ns hlen hO hS) λH e s'=>hCX w H s₁ e s'
open PySem PySem.Spec PyProof.Rows
def inClass (s:Stmt) (j:Nat):Stmt:=match s with
 | .ClassDef _ _ _ body _ _ _ _ _ _ _=>body.getD j (.Pass ⟨0,0,0,0⟩)
 | _=>.Pass ⟨0,0,0,0⟩
def qal (s:Stmt):Arguments:=match s with
 | .FunctionDef _ a _ _ _ _ _ _ _ _=>a
 | _=>{ posonlyargs:=[],args:=[],vararg:=none,kwonlyargs:=[],kw_defaults:=[],kwarg:=none,defaults:=[] }
def qaj (s:Stmt):List Stmt:=match s with
 | .FunctionDef _ _ b _ _ _ _ _ _ _=>b
 | _=>[]
def qab (s:Stmt):Scope:=match s with
 | .FunctionDef _ _ _ _ _ _ sc _ _ _=>sc
 | _=>{ kind:=.function,names:=[],isGenerator:=false,isCoroutine:=false }
abbrev CX0:CXT:=λ_ _ _ _ _ _=>False
abbrev E0:XK:=λ_ _ _=>False
theorem qqm {X:Cx}:qi8 CX0 X E0:=λ_ _ _ _ _ _ _ h=>h.elim
structure Fun (K:Frag) (x qual:Str) (st:Stmt) (f:Addr) (fd:FuncData):Prop where
 ex:∃ (oc:Value) (od:Option Addr) (kV doc pm:Value) (an:Option Addr) (cdv ct:Value) (osl:Array (Option Value)),
  fd=fnOf x qual (qal st) (qaj st) (qab st) .none kV doc pm an cdv ct/\K.lookup f=some ⟨oc,od,.func fd,osl⟩/\codeIn K cdv qual=true
 kp:keepIn K (.ref f)=true
section
variable {P:Program} {w:World} {K:Frag} {mg:Str->Option Value} {base:Heap}
theorem Fun.ok {x qual:Str} {st:Stmt} {f:Addr} {fd:FuncData} {N ps:List Str} {k:Nat} {sp:Sp} (F:Fun K x qual st f fd) (S:qak N ps (qab st)) (len:∀ vs H Q E,sp vs H Q E->vs.length=ps.length)
  (hbody:∀ (cdv:Value) (A:Around) (outer:List Env) (s:Shared) (H:Hp) (vs:List V) (Q:VK) (E:XK),Room k (A.deeper (envOfC qual (qab st) s.heap.objs.size f cdv))->sp vs H Q E ->
   ∃ t,PSs (qou CX0 P w K mg base N qual (qab st) f cdv A outer s H E).nox (qaj st) t/\t { nx:=λ_ H'=>Q .non H',rt:=Q } (start N vs) H):qhd P w K mg base CX0 (k+1) f fd ps sp:=by
 obtain ⟨oc,od,kV,doc,pm,an,cdv,ct,osl,rfl,lk,hcd⟩:=F.ex;refine qs4 lk hcd S len λA outer s H vs Q E hr hsp=>?_
 obtain ⟨t,h,q⟩:=hbody cdv A outer s H vs Q E hr hsp;exact ⟨t,h.nox,q⟩
theorem Fun.binds {x qual:Str} {st:Stmt} {f:Addr} {fd:FuncData} {ps:List Str} (F:Fun K x qual st f fd)
  (h:∀ (kV doc pm:Value) (an:Option Addr) (cdv ct:Value) (us:List Value),us.length=ps.length->bindArgs (fnOf x qual (qal st) (qaj st) (qab st) .none kV doc pm an cdv ct) ⟨us,[]⟩=pure (ps.zip us)):Binds K fd ps []:=by
 obtain ⟨oc,od,kV,doc,pm,an,cdv,ct,osl,rfl,lk,hcd⟩:=F.ex;exact .all (h kV doc pm an cdv ct)
theorem qar {x qual:Str} {st:Stmt} {f:Addr} {oc:Value} {od an:Option Addr} {osl:Array (Option Value)} {kV doc pm cdv ct:Value} (l:K.lookup f=some ⟨oc,od,.func (fnOf x qual (qal st) (qaj st) (qab st) .none kV doc pm an cdv ct),osl⟩)
  (c:codeIn K cdv qual=true) (k:keepIn K (.ref f)=true):Fun K x qual st f (fnOf x qual (qal st) (qaj st) (qab st) .none kV doc pm an cdv ct):=⟨⟨oc,od,kV,doc,pm,an,cdv,ct,osl,rfl,l,c⟩,k⟩
end
theorem qgd {A:Around} {k:Nat} (hr:Room k A):A.units+1<cLine:=C0 (Nat.add_le_add_left (by decide:1<=64) _) hr.units
theorem qa3 {n:Nat} (h:n<=1000):n<sizeLine:=C0 h (by decide)
section
variable {X:Cx}
theorem pv (i:Nat) {x:Str} {pos:Pos} (hN:X.N[i]?=some x:=by rfl) (hv:Vis X.env.scope x:=by first|exact Or.inl rfl|exact Or.inr (Or.inl rfl)|exact Or.inr (Or.inr rfl)) (hd:(x == ("__debug__" : Str))=false:=by decide)
  (hcd:(x == ("__classdict__" : Str))=false:=by decide):PE X (.Name x pos) (qAe i):=qx1 hN hv hd hcd
end
theorem qf0 {A B:Prop} (h:B):if false=true then A else B:=by
 rw[Ah AA];exact h
theorem qe1 {A B:Prop} (h:A):if true=true then A else B:=by
 rw[Ak rfl];exact h
theorem qjw {c A B:Prop} [Decidable c] (h1:c->A) (h2:¬ c->B):if c then A else B:=by
 by_cases h:c
 ·rw[Ak h]
  exact h1 h
 ·rw[Ah h]
  exact h2 h
theorem qyj {c A B:Prop} [Decidable c] (hc:c) (h:B):if (!decide c)=true then A else B:=by
 rw[AF hc];exact qf0 h
def Same (H H':Hp):Prop:=∀ b o,H b=some o->H' b=some o
theorem Same.refl (H:Hp):Same H H:=λ_ _ h=>h
theorem Same.trans {H H1 H2:Hp} (a:Same H H1) (b:Same H1 H2):Same H H2:=λc o h=>b c o (a c o h)
theorem Same.free {H H':Hp} (e:Same H H') {l:Addr} (h:H' l=Option.none):H l=Option.none:=by
 cases q:H l with
 | none=>rfl
 | some o =>
  rw[e l o q] at h;cases h
section
variable {κ:Type} [DecidableEq κ]
end
end L2
set_option maxHeartbeats 4000000
namespace L2
open PySem PySem.Spec PyProof.Rows
section
variable {X:Cx}
theorem qyk:(10:Nat) ^ 100<2 ^ 400:=by decide +kernel
theorem qna {j:Int} (h:j.natAbs<10 ^ 100):j.natAbs.log2<400:=by
 by_cases h0:j.natAbs=0
 ·rw[h0];decide +kernel
 ·exact (Nat.log2_lt h0).mpr (ES h qyk)
def qA9 (_ j:Int):Prop:=0<j/\j<10 ^ 100
theorem qjx:OpR X (binaryOp .FloorDiv) (rI qA9 λi j=>.int (i / j)):=opI λi j _ _ _ _ _ hc q=>by
 have h1:(0:Int)<j:=hc.1;have h2:j<10 ^ 100:=hc.2;have h3:j.natAbs<10 ^ 100:=by omega
 exact floordiv_int (by omega) (by rw[En i (by omega)];exact q) (.inl (PyProof.noPylong_of_log2 (ES (qna h3) (by decide))))
def CMulB (i j:Int):Prop:=(-(10 ^ 100)<i/\i<10 ^ 100)/\(-(10 ^ 100)<j/\j<10 ^ 100)
theorem qnb {j:Int} (h:j.natAbs<10 ^ 100):Builtin.Int.intBits j<=400:=by
 unfold Builtin.Int.intBits
 split
 ·exact AW _
 ·have:=qna h
  omega
theorem CMulB.ok {i j:Int} (h:CMulB i j):IntMulOk i j:=by
 obtain ⟨⟨h1,h2⟩,h3,h4⟩:=h;have e1:=qnb (j:=i) (by omega);have e2:=qnb (j:=j) (by omega);have e3:Builtin.Int.intTooBig (Builtin.Int.intBits i+Builtin.Int.intBits j)=false:=by
  unfold Builtin.Int.intTooBig;rw[Ba];have:(bitsLine:Int)=134217728:=by decide +kernel
  omega
 unfold IntMulOk;rw[e3]
 simp
theorem qcj:OpR X (binaryOp .Mult) (rI CMulB λi j=>.int (i*j)):=opI λ_ _ _ _ _ _ _ hc q=>mul_int q hc.ok
end
section
variable {X:Cx}
theorem qhj:CallR X (.builtin "isinstance") (λxs H Q=>∃ x T t b,xs=[x,.ty T]/\TyOf X.K H x t/\PySem.W.kitOne X.K t (.type T)=some b/\Q (.bl b) H):=by
 intro pins s σ H xs us Q I r h;obtain ⟨x,T,t,b,rfl,ty,e,q⟩:=h;obtain ⟨u,w',rfl,ru,rw'⟩:=vals2 r
 cases (show w'=Value.type T from rw')
 exact qp9 I ru ty e λtk=>⟨.bl b,H,I.tok tk,rfl,q⟩
end
mutual
inductive Rep (K:Frag) (H:Hp):V->PyData->Prop where
 | non:Rep K H .non .none
 | bl (b:Bool):Rep K H (.bl b) (.bool b)
 | int (i:Int):Rep K H (.int i) (.int i)
 | str (x:Str):Rep K H (.str x) (.str x)
 | lst {a:Addr} {xs:List V} {ds:List PyData}:SqL K H a xs->qps K H xs ds->Rep K H (.ref a) (.list ds)
 | tup {a:Addr} {xs:List V} {ds:List PyData}:SqT K H a xs->qps K H xs ds->Rep K H (.ref a) (.tuple ds)
inductive qps (K:Frag) (H:Hp):List V->List PyData->Prop where
 | nil:qps K H [] []
 | cons {v:V} {vs:List V} {d:PyData} {ds:List PyData}:Rep K H v d->qps K H vs ds->qps K H (v :: vs) (d :: ds)
end
section
variable {X:Cx} {pins:List (Addr×Obj)} {σ:St} {H:Hp} {s:Shared}
mutual
theorem qe6 (I:Inv X pins σ H s):∀ (d:PyData) (v:V) (u:Value),Rep X.K H v d->RelV v u->∃ as,Reads s.heap u d as
 | .none,v,u,r,q=>by cases r;cases (show u=Value.none from q);exact ⟨_,.none⟩
 | .bool b,v,u,r,q=>by cases r;cases (show u=Value.bool b from q);exact ⟨_,.bool b⟩
 | .int i,v,u,r,q=>by cases r;obtain ⟨t,e⟩:=(show ∃ t,u=Value.int i t from q);cases e;exact ⟨_,.int i t⟩
 | .str x,v,u,r,q=>by cases r;obtain ⟨t,e⟩:=(show ∃ t,u=Value.str x t from q);cases e;exact ⟨_,.str x t⟩
 | .list ds,v,u,r,q=>by
  cases r with
  | @lst a xs _ hq rs =>
   cases (show u=Value.ref a from q)
   obtain ⟨its,rv,⟨o,n,e,c,_,d⟩,hz⟩:=I.list hq;obtain ⟨as,ra⟩:=qgn I ds xs its rs rv;exact ⟨_,.list e c d (by simpa using ra)⟩
 | .tuple ds,v,u,r,q=>by
  cases r with
  | @tup a xs _ hq rs =>
   cases (show u=Value.ref a from q)
   obtain ⟨its,rv,⟨o,e,c,n,d⟩,hz⟩:=I.tuple hq;obtain ⟨as,ra⟩:=qgn I ds xs its rs rv;exact ⟨_,.tuple e c d (by simpa using ra)⟩
 | .dict _,v,u,r,q=>by cases r
theorem qgn (I:Inv X pins σ H s):∀ (ds:List PyData) (vs:List V) (us:List Value),qps X.K H vs ds->Vals vs us->∃ as,ReadsAll s.heap us ds as
 | [],vs,us,r,q=>by cases r;cases q;exact ⟨_,.nil⟩
 | d :: ds,vs,us,r,q=>by
  cases r with
  | cons r1 r2 =>
   cases q with
   | cons q1 q2 =>
    obtain ⟨as,a1⟩:=qe6 I d _ _ r1 q1;obtain ⟨bs,a2⟩:=qgn I ds _ _ r2 q2;exact ⟨_,.cons a1 a2⟩
end
end
def qvw (K:Frag) (neg:Bool):R2:=λx y H Q=>∃ d e,Rep K H x d/\Rep K H y e/\d.canLay0=true/\e.canLay0=true/\d.depth<=20/\Q (.bl (if neg then !PyData.eqv d e else PyData.eqv d e)) H
section
variable {X:Cx}
theorem quh (hu:X.A.units+64<cLine):OpR X (compareOp .Eq) (qvw X.K false):=by
 intro pins s σ H x y v u Q I rx ry h;obtain ⟨d,e,rd,re,cd,ce,hd,q⟩:=h;obtain ⟨as,ra⟩:=qe6 I d x v rd rx;obtain ⟨bs,rb⟩:=qe6 I e y u re ry;have hm:min d.depth e.depth<=d.depth:=Nat.min_le_left _ _;exact SeqAt.compareEq_reads ra rb cd ce (by omega) ⟨.bl _,H,I,rfl,q⟩
theorem qnc (hu:X.A.units+64<cLine):OpR X (compareOp .NotEq) (qvw X.K true):=by
 intro pins s σ H x y v u Q I rx ry h;obtain ⟨d,e,rd,re,cd,ce,hd,q⟩:=h;obtain ⟨as,ra⟩:=qe6 I d x v rd rx;obtain ⟨bs,rb⟩:=qe6 I e y u re ry;have hm:min d.depth e.depth<=d.depth:=Nat.min_le_left _ _;exact SeqAt.rcNeAt_reads ra rb cd ce (by omega) X.prog X.w X.xe _ ⟨.bl _,H,I,rfl,q⟩
end
section
variable {X:Cx} {pins:List (Addr×Obj)} {σ:St} {H:Hp} {s:Shared} {h':Heap}
theorem Inv.turnedLaid {t':Nat} {ch:List Addr} {a:Addr} {o:HO} (I:Inv X pins σ H s) (hf:∀ b∈ch,qm6 X pins H b) (k:∀ b u,b ∉ ch->s.heap.get? b=some u->h'.get? b=some u)
  (hp:s.heap.objs.size<=a) (new:ObjOk X.prog X.w (upd H a o) h' a o):Inv X pins σ (upd H a o) { s with heap:=h',toks:=t' }:=by
 have hna:H a=none:=I.hok.fresh hp;have nch:∀ b u,H b=some u->b ∉ ch:=λb u e z=>by rw[(hf b z).1] at e;cases e
 have nea:∀ b u,s.heap.get? b=some u->b≠a:=λb u e z=>absurd (AJ (Al e) (by rw[z];exact hp)) (Bt _)
 refine I.step (g':=s.gens) (d':=s.drawn) (ch:=ch) (λb hb=>⟨(hf b hb).2.2.2.1,(hf b hb).2.1,(hf b hb).2.2.2.2.1,(hf b hb).2.2.2.2.2⟩) (λb o _ _ hc e _=>k b o hc e) (λb o _ _ hc e _=>⟨o.slots,k b o hc e⟩)
  (λb o hc e n=>by rw[qa1 (nea b o e)];exact n) (λb o hc e=>⟨o,k b o hc e⟩) (λb xs e=>by rw[qa1 (qag e hna)];exact e) (λb o u e=>by rw[qa1 (qag e hna)];exact e)
  (λb ps e=>⟨#[],by rw[qa1 (qag e hna),e];simp⟩) (λm hm=>?_) (λb u e=>?_) I.bare
 ·obtain ⟨o,es,ep,ho,r⟩:=hm
  exact ⟨o,es,ep,k _ o (λz=>(hf _ z).2.1 rfl) ho,r⟩
 ·by_cases hb:b=a
  ·subst hb;rw[qbh] at e;cases e;exact new
  ·rw[qa1 hb] at e
   refine (I.hok b u e).stay (λc v hc q=>k c v ?_ q) (λc q=>by rw[qa1 (qag q hna)];exact q) λc xs q=>by rw[qa1 (qag q hna)];exact q
   rcases hc with z|z
   ·rw[z];exact nch b u e
   ·exact nch c _ z
theorem Inv.turnedL {t':Nat} {ch:List Addr} (I:Inv X pins σ H s) (hf:∀ b∈ch,qm6 X pins H b) (k:∀ b u,b ∉ ch->s.heap.get? b=some u->h'.get? b=some u):Inv X pins σ H { s with heap:=h',toks:=t' }:=by
 have nch:∀ b u,H b=some u->b ∉ ch:=λb u e z=>by rw[(hf b z).1] at e;cases e
 refine I.step (g':=s.gens) (d':=s.drawn) (ch:=ch) (λb hb=>⟨(hf b hb).2.2.2.1,(hf b hb).2.1,(hf b hb).2.2.2.2.1,(hf b hb).2.2.2.2.2⟩) (λb o _ _ hc e _=>k b o hc e) (λb o _ _ hc e _=>⟨o.slots,k b o hc e⟩)
  (λ_ _ _ _ n=>n) (λb o hc e=>⟨o,k b o hc e⟩) (λ_ _ e=>e) (λ_ _ _ e=>e) (λb ps e=>⟨#[],by rw[e];simp⟩) (λm hm=>?_) (λb u e=>?_) I.bare
 ·obtain ⟨o,es,ep,ho,r⟩:=hm
  exact ⟨o,es,ep,k _ o (λz=>(hf _ z).2.1 rfl) ho,r⟩
 ·refine (I.hok b u e).stay (λc v hc q=>k c v ?_ q) (λ_ q=>q) λ_ _ q=>q
  rcases hc with z|z
  ·rw[z];exact nch b u e
  ·exact nch c _ z
end
def Itz (K:Frag) (a b:Addr):It:=
 ⟨λi H=>∃ xs ys x y,SqL K H a xs/\SqL K H b ys/\xs[i]?=some x/\ys[i]?=some y,
   λi H v H'=>∃ p,v=.ref p/\H p=none/\∀ xs ys x y,SqL K H a xs->SqL K H b ys->xs[i]?=some x->ys[i]?=some y->H'=upd H p (.tup [x,y]),
   λi H=>∃ xs ys,SqL K H a xs/\SqL K H b ys/\(xs.length<=i\/ys.length<=i)⟩
theorem qax {h:Heap} {a b:Addr} {o u:Obj} (e:h.get? a=some o) (e':h.get? b=some u) (d:o.cls≠u.cls):a≠b:=λz=>by
 subst z;rw[e] at e';exact d (congrArg Obj.cls (AH e'))
theorem qxq:Value.type "tuple" ≠ Value.type "zip" :=by decide
theorem qvx:Value.type "list_iterator" ≠ Value.type "zip" :=by decide
theorem qnd:Value.type "tuple" ≠ Value.type "list_iterator" :=by decide
theorem qyl:Value.type "list" ≠ Value.type "zip" :=by decide
theorem qym:Value.type "list" ≠ Value.type "tuple" :=by decide
theorem qqn:Value.type "list" ≠ Value.type "list_iterator" :=by decide
theorem qtc {P:Program} {w:World} {K:Frag} {elts:List Expr} {ek:Nat} {epos:Pos} (a b z TI TO i1 i2:Addr) (d1:TI≠TO) (d2:i1≠i2) :
  Turn P w K (.Tuple elts ek epos) (Itz K a b) [z,TI,TO,i1,i2] z (λi h=>IsZip h z TI TO .none/\IsPair h TI (.ref i1) (.ref i2)/\(∃ x y,IsPair h TO x y)/\h.IsListIter i1 a i/\h.IsListIter i2 b i) where
 mem:=by simp
 obj:=λi h st c hc=>by
  obtain ⟨hz,hTI,⟨x,y,hTO⟩,⟨o1,e1,c1,f1⟩,⟨o2,e2,c2,f2⟩⟩:=st;simp only[Ai,As,A7] at hc
  rcases hc with rfl|rfl|rfl|rfl|rfl
  ·exact ⟨_,hz,λv q=>by have q':Data.fields _=Data.cell v:=q;cases q'⟩
  ·exact ⟨_,hTI,λv q=>by have q':Data.seq _ _=Data.cell v:=q;cases q'⟩
  ·exact ⟨_,hTO,λv q=>by have q':Data.seq _ _=Data.cell v:=q;cases q'⟩
  ·exact ⟨_,e1,λv q=>by rw[f1] at q;cases q⟩
  ·exact ⟨_,e2,λv q=>by rw[f2] at q;cases q⟩
 keep:=λi h h' st k=>by
  obtain ⟨hz,hTI,⟨x,y,hTO⟩,h1,h2⟩:=st;exact ⟨k z (by simp) _ hz,k TI (by simp) _ hTI,⟨x,y,k TO (by simp) _ hTO⟩,h1.at λo e=>k i1 (by simp) o e,h2.at λo e=>k i2 (by simp) o e⟩
 item:=by
  intro X hP hw hK hc i pins s σ H E I hf st hg;subst hP hw hK;obtain ⟨xs,ys,x,y,qa,qb,hx,hy⟩:=hg;obtain ⟨hz,hTI,⟨x0,y0,hTO⟩,h1,h2⟩:=st;obtain ⟨itsA,rA,pA,zA⟩:=I.list qa;obtain ⟨itsB,rB,pB,zB⟩:=I.list qb;obtain ⟨u,hu,ru⟩:=rA.get hx;obtain ⟨u',hu',ru'⟩:=rB.get hy;have D:ZipApart z TI TO i1 i2 a b:=by
   obtain ⟨o1,e1,c1,f1⟩:=id h1;obtain ⟨o2,e2,c2,f2⟩:=id h2;obtain ⟨oa,na,ea,ca,_,fa⟩:=id pA;obtain ⟨ob,nb,eb,cb,_,fb⟩:=id pB;exact ⟨qax hTI hz qxq,qax hTO hz qxq,qax e1 hz (by rw[c1];exact qvx),qax e2 hz (by rw[c2];exact qvx),d1,qax hTI e1 (by rw[c1];exact qnd),qax hTI e2 (by rw[c2];exact qnd),
    qax hTO e1 (by rw[c1];exact qnd),qax hTO e2 (by rw[c2];exact qnd),d2,qax ea hz (by rw[ca];exact qyl),qax ea hTO (by rw[ca];exact qym),qax ea e1 (by rw[ca,c1];exact qqn),qax ea e2 (by rw[ca,c2];exact qqn),
    qax eb hz (by rw[cb];exact qyl),qax eb hTO (by rw[cb];exact qym),qax eb e1 (by rw[cb,c1];exact qqn),qax eb e2 (by rw[cb,c2];exact qqn)⟩
  refine wpAny_pyNext_zip_item D hz hTI hTO h1 h2 pA.isList pB.isList (x:=u) (y:=u') (by simpa using hu) (by simpa using hu') λh' a1 a2 a3 a4 a5 a6 hk=>?_
  refine ⟨.ref s.heap.objs.size,rfl,Er a1 λh'' hz'' sb=>?_⟩;have lz:z<s.heap.objs.size:=Al hz;have nz:s.heap.objs.size≠z:=CD lz;have k2:∀ c o,c ∉ [z,TI,TO,i1,i2]->s.heap.get? c=some o->h''.get? c=some o:=λc o hc e=>by
   simp only[Ai,As,A7,CZ] at hc;exact sb.extBut _ _ hc.1 (hk c o hc.1 hc.2.2.1 hc.2.2.2.1 hc.2.2.2.2 e)
  have T2:IsPair h'' s.heap.objs.size u u':=sb.extBut _ _ nz a5;refine ⟨.ref s.heap.objs.size,upd H s.heap.objs.size (.tup [x,y]),I.turnedLaid (t':=s.toks) (ch:=[z,TI,TO,i1,i2]) hf k2 (Ag _) ⟨by show 2<=sizeLine;decide,[u,u'],.cons ru (.cons ru' .nil),_,T2,rfl,_,rfl⟩,rfl,⟨_,rfl,I.hok.fresh (Ag _),λxs' ys' x' y' qa' qb' hx' hy'=>?_⟩,⟨hz'',sb.extBut _ _ D.TIz (hk _ _ D.TIz D.TITO D.TIi1 D.TIi2 hTI),⟨_,_,sb.extBut _ _ D.TOz a2⟩,a3.extBut sb.extBut D.i1z,a4.extBut sb.extBut D.i2z⟩,λb hb=>?_⟩
  ·rw[I.list_inj qa' qa,hx] at hx'
   rw[I.list_inj qb' qb,hy] at hy'
   cases hx';cases hy';rfl
  ·have e:b≠s.heap.objs.size:=λq=>by
    have:∃ o,s.heap.get? b=some o:=by
     simp only[Ai,As,A7] at hb;obtain ⟨o1,e1,_⟩:=id h1;obtain ⟨o2,e2,_⟩:=id h2
     rcases hb with rfl|rfl|rfl|rfl|rfl
     ·exact ⟨_,hz⟩
     ·exact ⟨_,hTI⟩
     ·exact ⟨_,hTO⟩
     ·exact ⟨_,e1⟩
     ·exact ⟨_,e2⟩
    obtain ⟨o,e⟩:=this;exact absurd (Al e) (by rw[q];exact Bt _)
   rw[qa1 e];exact (hf b hb).1
 done:=by
  intro X hP hw hK hc i pins s σ H E I hf st hg;subst hP hw hK;obtain ⟨xs,ys,qa,qb,hx⟩:=hg;obtain ⟨hz,hTI,⟨x0,y0,hTO⟩,h1,h2⟩:=st;obtain ⟨itsA,rA,pA,zA⟩:=I.list qa;obtain ⟨itsB,rB,pB,zB⟩:=I.list qb;have D:ZipApart z TI TO i1 i2 a b:=by
   obtain ⟨o1,e1,c1,f1⟩:=id h1;obtain ⟨o2,e2,c2,f2⟩:=id h2;obtain ⟨oa,na,ea,ca,_,fa⟩:=id pA;obtain ⟨ob,nb,eb,cb,_,fb⟩:=id pB;exact ⟨qax hTI hz qxq,qax hTO hz qxq,qax e1 hz (by rw[c1];exact qvx),qax e2 hz (by rw[c2];exact qvx),d1,qax hTI e1 (by rw[c1];exact qnd),qax hTI e2 (by rw[c2];exact qnd),
    qax hTO e1 (by rw[c1];exact qnd),qax hTO e2 (by rw[c2];exact qnd),d2,qax ea hz (by rw[ca];exact qyl),qax ea hTO (by rw[ca];exact qym),qax ea e1 (by rw[ca,c1];exact qqn),qax ea e2 (by rw[ca,c2];exact qqn),
    qax eb hz (by rw[cb];exact qyl),qax eb hTO (by rw[cb];exact qym),qax eb e1 (by rw[cb,c1];exact qqn),qax eb e2 (by rw[cb,c2];exact qqn)⟩
  have lA:=rA.length;have lB:=rB.length;refine wpAny_pyNext_zip_end (I.ok.hd hc) D hz hTI hTO h1 h2 pA.isList pB.isList (hx.imp (λq=>by simp;omega) λq=>by simp;omega) λh' hk=>⟨rfl,I.turnedL (t':=s.toks) (ch:=[z,TI,TO,i1,i2]) hf λc o hc e=>?_⟩
  simp only[Ai,As,A7,CZ] at hc;exact hk c o hc.1 hc.2.2.1 hc.2.2.2.1 hc.2.2.2.2 e
 self:=λ_ _ _ _ _ st h=>De st.1 h
section
variable {X:Cx}
def qCr (K:Frag) (ta:TA):TI:=λσ H R=>ta σ H λvs H1=>∃ a b xs ys,vs=[.ref a,.ref b]/\SqL K H1 a xs/\SqL K H1 b ys/\R (Itz K a b) H1
theorem qne {elts:List Expr} {ek:Nat} {epos:Pos} {e1 e2:Expr} {ta:TA} {p pos:Pos} (hg:Gl X "zip") (hm:X.mg "zip" = none) (ha:PA X [e1,e2] ta)
  (hs:starEach [e1,e2] X.env=[(false,eval e1 X.env),(false,eval e2 X.env)]:=by rfl) (hs2:starEach [e2] X.env=[(false,eval e2 X.env)]:=by rfl) :
  PI X (.Tuple elts ek epos) (.Call (.Name "zip" p) [e1,e2] [] pos) (qCr X.K ta):=by
 intro pins s σ H R I h;refine Call_ (qi6 I hg hm (show bootBuiltins "zip" = some (.type "zip") by decide +kernel) (BX (thn (ha pos pins s σ H _ I h) λus s1 ⟨vs,H1,I1,r1,q1⟩=>?_) (by rw[hs,hs2]) (by rw[hs2];rfl)));obtain ⟨a,b,xs,ys,rfl,qa,qb,q⟩:=q1;obtain ⟨u,u',rfl,ru,ru'⟩:=vals2 r1
 cases (show u=Value.ref a from ru)
 cases (show u'=Value.ref b from ru')
 obtain ⟨itsA,rA,pA,zA⟩:=I1.list qa;obtain ⟨itsB,rB,pB,zB⟩:=I1.list qb;refine call_zip_2 pA.isList pB.isList λh' hz hTI hTO h1 h2 hsz hk=>De hz ?_
 refine ⟨s1.heap.objs.size+4,_,_,_,H1,rfl,I1.kept (t':=s1.toks) hk,qtc a b _ (s1.heap.objs.size+2) (s1.heap.objs.size+3) s1.heap.objs.size (s1.heap.objs.size+1) (Av (CI _)) (Av (CI _)),⟨hz,hTI,⟨_,_,hTO⟩,h1,h2⟩,λc hc=>?_,q⟩;have e:s1.heap.objs.size<=c:=by
  simp only[Ai,As,A7] at hc
  rcases hc with rfl|rfl|rfl|rfl|rfl
  ·exact Bz _ _
  ·exact Bz _ _
  ·exact Bz _ _
  ·exact Ag _
  ·exact Bz _ _
 exact I1.fpOk e (I1.hok.fresh e)
end
theorem qvy {K:Frag} {a b:Addr} {xs ys:List V} {g:TG} {tb:TS} {D:Ends} {σ:St} {H:Hp} (Pv:Nat->St->Hp->Prop) (h0:Pv 0 σ H) (hl:∀ i σ H,Pv i σ H->SqL K H a xs/\SqL K H b ys)
  (hs:∀ i x y σ H p,xs[i]?=some x->ys[i]?=some y->H p=none->Pv i σ H->g (.ref p) σ (upd H p (.tup [x,y])) λσ2 H2=>tb { D with nx:=Pv (i+1),ct:=Pv (i+1),bk:=D.nx } σ2 H2)
  (hd:∀ i σ H,i=min xs.length ys.length->Pv i σ H->D.nx σ H) :
  ∃ W:Nat->Nat->St->Hp->Prop,(∃ m,W 0 m σ H)/\∀ i m σ H,W i m σ H ->
   ((Itz K a b).stop i H/\D.nx σ H)\/((Itz K a b).go i H/\∃ N:St->Hp->Prop,(∀ σ' H',N σ' H'->∃ m',m'<m/\W (i+1) m' σ' H')/\∀ x H',(Itz K a b).yld i H x H'->g x σ H' λσ2 H2=>tb { D with nx:=N,ct:=N,bk:=D.nx } σ2 H2):=by
 refine ⟨λi m σ H=>m=min xs.length ys.length-i/\i<=min xs.length ys.length/\Pv i σ H,⟨min xs.length ys.length,by simp,AW _,h0⟩,?_⟩;rintro i m σ H ⟨rfl,hi,p⟩;obtain ⟨qa,qb⟩:=hl i σ H p
 by_cases hlt:i<min xs.length ys.length
 ·have ha:i<xs.length:=by omega
  have hb:i<ys.length:=by omega
  refine .inr ⟨⟨xs,ys,xs[i],ys[i],qa,qb,by simp[ha],by simp[hb]⟩,Pv (i+1),λσ' H' p'=>⟨min xs.length ys.length-(i+1),by omega,rfl,hlt,p'⟩,λx H' y=>?_⟩;obtain ⟨t,rfl,ht,y⟩:=y;have ea:xs[i]?=some xs[i]:=by simp[ha]
  have eb:ys[i]?=some ys[i]:=by simp[hb]
  rw[y xs ys xs[i] ys[i] qa qb ea eb];exact hs i xs[i] ys[i] σ H t ea eb ht p
 ·exact .inl ⟨⟨xs,ys,qa,qb,by omega⟩,hd i σ H (by omega) p⟩
structure FunD (K:Frag) (x qual:Str) (st:Stmt) (dV:Value) (f:Addr) (fd:FuncData):Prop where
 ex:∃ (oc:Value) (od:Option Addr) (kV doc pm:Value) (an:Option Addr) (cdv ct:Value) (osl:Array (Option Value)),
  fd=fnOf x qual (qal st) (qaj st) (qab st) dV kV doc pm an cdv ct/\K.lookup f=some ⟨oc,od,.func fd,osl⟩/\codeIn K cdv qual=true
 kp:keepIn K (.ref f)=true
section
variable {P:Program} {w:World} {K:Frag} {mg:Str->Option Value} {base:Heap}
theorem FunD.ok {x qual:Str} {st:Stmt} {dV:Value} {f:Addr} {fd:FuncData} {N ps:List Str} {k:Nat} {sp:Sp} (F:FunD K x qual st dV f fd) (S:qak N ps (qab st)) (len:∀ vs H Q E,sp vs H Q E->vs.length=ps.length)
  (hbody:∀ (cdv:Value) (A:Around) (outer:List Env) (s:Shared) (H:Hp) (vs:List V) (Q:VK) (E:XK),Room k (A.deeper (envOfC qual (qab st) s.heap.objs.size f cdv))->sp vs H Q E ->
   ∃ t,PSs (qou CX0 P w K mg base N qual (qab st) f cdv A outer s H E).nox (qaj st) t/\t { nx:=λ_ H'=>Q .non H',rt:=Q } (start N vs) H):qhd P w K mg base CX0 (k+1) f fd ps sp:=by
 obtain ⟨oc,od,kV,doc,pm,an,cdv,ct,osl,rfl,lk,hcd⟩:=F.ex;refine qs4 lk hcd S len λA outer s H vs Q E hr hsp=>?_
 obtain ⟨t,h,q⟩:=hbody cdv A outer s H vs Q E hr hsp;exact ⟨t,h.nox,q⟩
theorem qjy {fd:FuncData} {ps:List Str} {ds:List Value} {T:Addr} {o:Obj} {items:Array Value} {n:Nat} (hd:fd.defaults=.ref T) (lk:K.lookup T=some o) (hs:o.data=.seq items n)
  (h:∀ us:List Value,(us ++ ds).length=ps.length->∃ k,bindArgs fd ⟨us,[]⟩=seqItems? fd.defaults >>= k/\k (some items)=pure (ps.zip (us ++ ds))):Binds K fd ps ds:=λs us kin hl=>by
 obtain ⟨k,h1,h2⟩:=h us hl;exact .of_defaults hd (kin _ _ lk) hs h1 h2
end
def qbv (P:Program) (w:World) (K:Frag) (mg:Str->Option Value) (base:Heap) (k:Nat) (x:Str) (ps:List Str) (sp:Sp):Prop:=
 ∃ f fd,qhd P w K mg base CX0 k f fd ps sp/\mg x=some (.ref f)/\keepIn K (.ref f)=true/\Binds K fd ps []
def qgo (P:Program) (w:World) (K:Frag) (mg:Str->Option Value) (base:Heap) (C:Addr) (k:Nat) (m:Str) (ps:List Str) (sp:Sp):Prop:=
 ∃ f fd,qhd P w K mg base CX0 k f fd ps sp/\qgz K C m f/\Binds K fd ps []
def qAh (P:Program) (w:World) (K:Frag) (mg:Str->Option Value) (base:Heap) (C:Addr) (k:Nat) (x:Str) (ps:List Str) (ds:List Value) (sp:Sp):Prop:=
 ∃ f fd,qhd P w K mg base CX0 k f fd ps sp/\mg x=some (.ref C)/\Mk K C f/\Binds K fd ps ds
section
variable {X:Cx} {k:Nat} {C:Addr} {ps:List Str} {sp:Sp} {dvs:List V} {ds:List Value} {x m:Str} {p pos apos:Pos} {e o:Expr} {es:List Expr} {ta:TE} {t:TA}
theorem qat (D:qbv X.prog X.w X.K X.mg X.base k x ps sp) (hr:Room k X.A) (hg:Gl X x) (ha:PA X (e :: es) t) (hdb:(x == ("__debug__" : Str))=false:=by decide)
  (he:starEach (e :: es) X.env=(false,eval e X.env) :: starEach es X.env:=by rfl) (hpl:(backTo pos (starEach es X.env)).any (·.1)=false:=by rfl):PE X (.Call (.Name x p) (e :: es) [] pos) (qx7 sp [] E0 t):=by
 obtain ⟨f,fd,F,hm,hk,hb⟩:=D;exact qvl F hr hg hm hk hb .nil qqm ha hdb he hpl
end
open PySem PySem.Spec PyProof.Rows
section
variable {X:Cx} {k:Nat} {C:Addr} {ps:List Str} {sp:Sp} {x m:Str} {p pos apos:Pos} {e o:Expr} {es:List Expr} {ta:TE} {t:TA}
theorem qtd {pl:Sem Bool} (he:PE X o ta) (c:Cls X.K C) (D:qgo X.prog X.w X.K X.mg X.base C k m ps sp) (hr:Room k X.A) (ha:PA X (e :: es) t)
  (hst:starEach (e :: es) X.env=(false,eval e X.env) :: starEach es X.env:=by rfl) (hpl:(backTo pos (starEach es X.env)).any (·.1)=false:=by rfl)
  (ht:eval (.Call (.Attribute o m apos) (e :: es) [] pos) X.env=(do
   let ov <- eval o X.env
   standAt apos.atName
   let (f,first) <- holding [ov] (getMethod ov m pl)
   callWith pos f first (backTo pos (starEach (e :: es) X.env)) (backToKw pos (keywordEach [] X.env))):=by rfl) :
  PE X (.Call (.Attribute o m apos) (e :: es) [] pos) (qqa C m sp [] E0 ta t):=by
 obtain ⟨f,fd,F,hm,hb⟩:=D;exact qvm (pl:=pl) he c hm F hr hb .nil qqm ha hst hpl ht
theorem qbw {pl:Sem Bool} (he:PE X o ta) (c:Cls X.K C) (D:qgo X.prog X.w X.K X.mg X.base C k m ps sp) (hr:Room k X.A)
  (ht:eval (.Call (.Attribute o m apos) [] [] pos) X.env=(do
   let ov <- eval o X.env
   standAt apos.atName
   let (f,first) <- holding [ov] (getMethod ov m pl)
   callWith pos f first (backTo pos (starEach [] X.env)) (backToKw pos (keywordEach [] X.env))):=by rfl) :
  PE X (.Call (.Attribute o m apos) [] [] pos) (qqa C m sp [] E0 ta qm8):=by
 obtain ⟨f,fd,F,hm,hb⟩:=D;exact qs2 (pl:=pl) he c hm F hr hb .nil qqm ht
end
section
variable {P:Program} {w:World} {K:Frag} {mg:Str->Option Value} {base:Heap}
theorem Fun.def_ {x:Str} {st:Stmt} {f:Addr} {fd:FuncData} {ps:List Str} {k:Nat} {sp:Sp} (F:Fun K x x st f fd) (hm:mg x=some (.ref f)) (hf:qhd P w K mg base CX0 k f fd ps sp) (hb:Binds K fd ps []):qbv P w K mg base k x ps sp:=
 ⟨f,fd,hf,hm,F.kp,hb⟩
end
theorem qee:bootBuiltins "len" = some (.builtin "len"):=by decide +kernel
theorem qcc:bootBuiltins "isinstance" = some (.builtin "isinstance"):=by decide +kernel
theorem qui:bootBuiltins "sum" = some (.builtin "sum"):=by decide +kernel
theorem qen:bootBuiltins "list" = some (.type "list"):=by decide +kernel
theorem qte:bootBuiltins "tuple" = some (.type "tuple"):=by decide +kernel
theorem qyn:bootBuiltins "int" = some (.type "int"):=by decide +kernel
theorem qvz:bootBuiltins "bool" = some (.type "bool"):=by decide +kernel
theorem qyo:bootBuiltins "str" = some (.type "str"):=by decide +kernel
theorem qhx (K:Frag):PySem.W.kitOne K (.type "int") (.type "int")=some true:=by rfl
theorem qg0 (K:Frag):PySem.W.kitOne K (.type "int") (.type "bool")=some false:=by rfl
theorem qtf (K:Frag):PySem.W.kitOne K (.type "list") (.type "list")=some true:=by rfl
theorem kit_tuple (K:Frag):PySem.W.kitOne K (.type "tuple") (.type "tuple")=some true:=by rfl
theorem qjz {H:Hp} {p:Addr} {o:HO} (h:H p=none):Same H (upd H p o):=λb u e=>by rw[qa1 (qag e h)];exact e
open PySem PySem.Spec PyProof.Rows
def blk (X:Cx) (Nc:List Str) (scope:Scope) (cl:List (Str×Addr)) (C:Addr) (s:Shared) (H:Hp) (ex:List Addr):Cx where
 prog:=X.prog
 w:=X.w
 K:=X.K
 mg:=X.mg
 base:=X.base
 A:=X.A
 N:=Nc
 s₀:=s
 H₀:=H
 env:=compEnvC scope cl C X.env
 outer:=X.stack
 stack:=X.stack
 ex:=ex
 fn:=λ_=>false
 calm:=X.calm
 pn:=[]
 xe:=λ_ _=>False
structure qyp (X:Cx) (scope:Scope) (cl:List (Str×Addr)):Prop where
 clos:closureFor scope X.env=pure cl
 kind:scope.kind=.function
 nocell:∀ y∈scope.names,y.2≠.cell
 names:∀ y∈scope.names,y.2=.local->scope.names.lookup y.1=some .local
 sub:∀ x c,cl.lookup x=some c->X.env.cells.lookup x=some c
 has:∀ x,((relabel scope X.env).names.lookup x=some .cell\/(relabel scope X.env).names.lookup x=some .free)->∃ c,cl.lookup x=some c
def FvOk (X:Cx) (scope:Scope) (cl:List (Str×Addr)):List Str->List Nat->Prop
 | [],[]=>True
 | x :: xs,j :: js=>(X.N[j]?=some x/\(X.env.kindOf x=some .cell\/X.env.kindOf x=some .free)/\cl.lookup x=X.env.cells.lookup x /\
   ((relabel scope X.env).names.lookup x=some .cell\/(relabel scope X.env).names.lookup x=some .free))/\FvOk X scope cl xs js
 | _,_=>False
def lcσ (nv:Nat) (fv:List Nat) (σ:St):St:=List.replicate nv none ++ fv.map λj=>(σ[j]?).join
theorem FvOk.len {X:Cx} {scope:Scope} {cl:List (Str×Addr)}:∀ {xs:List Str} {js:List Nat},FvOk X scope cl xs js->xs.length=js.length
 | [],[],_=>rfl
 | _ :: _,_ :: _,h=>by simp[FvOk.len h.2]
 | [],_ :: _,h=>h.elim
 | _ :: _,[],h=>h.elim
theorem FvOk.get {X:Cx} {scope:Scope} {cl:List (Str×Addr)}:∀ {xs:List Str} {js:List Nat} {k:Nat} {x:Str} {j:Nat},FvOk X scope cl xs js->xs[k]?=some x->js[k]?=some j ->
  X.N[j]?=some x/\(X.env.kindOf x=some .cell\/X.env.kindOf x=some .free)/\cl.lookup x=X.env.cells.lookup x/\((relabel scope X.env).names.lookup x=some .cell\/(relabel scope X.env).names.lookup x=some .free)
 | [],[],_,_,_,_,e,_=>by simp at e
 | _ :: _,_ :: _,0,_,_,h,e,e'=>by simp at e e';subst e;subst e';exact h.1
 | _ :: _,_ :: _,k+1,x,j,h,e,e'=>FvOk.get (k:=k) h.2 (by simpa using e) (by simpa using e')
 | [],_ :: _,_,_,_,h,_,_=>h.elim
 | _ :: _,[],_,_,_,h,_,_=>h.elim
abbrev qaq:Obj:={ cls:=.type "list",dict:=none,data:=.seq ([]:List Value).toArray }
theorem ltS {h:Heap} {b:Addr} {o:Obj} (e:h.get? b=some o):b≠(h.push qaq).objs.size:=Av (by rw[Bq];exact CF (Al e))
theorem neS {h:Heap}:h.objs.size≠(h.push qaq).objs.size:=Av (by rw[Bq];exact CI _)
theorem leS {h:Heap}:h.objs.size<=(h.push qaq).objs.size:=by rw[Bq];exact CN _
theorem neZ {h:Heap} {b:Addr} {o:Obj} (e:h.get? b=some o):b≠h.objs.size:=Av (Al e)
section
variable {X:Cx} {pins:List (Addr×Obj)} {σ:St} {H:Hp} {s:Shared} {scope:Scope} {cl:List (Str×Addr)} {vars frees:List Str} {fv:List Nat} {fp:List Addr}
theorem qv0 {h':Heap} {t':Nat} (I:Inv X pins σ H s) (L:qyp X scope cl) (fo:FvOk X scope cl frees fv) (hf:∀ b∈fp,qm6 X pins H b) (ho:∀ b∈fp,∃ o,s.heap.get? b=some o)
  (hns:h'.Ns (s.heap.push qaq).objs.size (λ_=>none)) (hsb:∀ b o,b≠(s.heap.push qaq).objs.size->(s.heap.push qaq).get? b=some o->h'.get? b=some o) :
  Inv (blk X (vars ++ frees) scope cl (s.heap.push qaq).objs.size { s with heap:=s.heap.push qaq } H (s.heap.objs.size :: fp)) [(s.heap.objs.size,qaq)] (lcσ vars.length fv σ) H { s with heap:=h',toks:=t' }:=by
 have hC:(s.heap.push qaq).objs.size=s.heap.objs.size+1:=Bq ..;have hlt:∀ {b:Addr} {o:Obj},s.heap.get? b=some o->b<s.heap.objs.size:=λe=>Al e
 have old:∀ b o,s.heap.get? b=some o->h'.get? b=some o:=λb o e=>hsb b o (ltS e) (Ab _ e)
 have hD:h'.get? s.heap.objs.size=some qaq:=hsb _ _ neS (Ao _ rfl);have stk:∀ b∈frs X.stack,b<s.heap.objs.size/\b ∉ fp:=λb hb=>by
  rcases Ai.mp (I.stkSub b hb) with z|z
  ·exact ⟨by rw[z];exact I.lt,λq=>(hf b q).2.1 z⟩
  ·refine ⟨?_,λq=>(hf b q).2.2.1 z⟩
   apply Nat.lt_of_not_le
   intro q;exact I.nofs q z
 have cellL:∀ x c,cl.lookup x=some c->c<s.heap.objs.size:=λx c e=>by
  obtain ⟨v,q⟩:=I.cell x c (L.sub x c e);exact q.lt
 refine ⟨⟨I.ok.mod,L.kind,I.ok.glob,I.ok.blt,Ag _,λx y c e1 e2=>I.ok.inj x y c (L.sub x c e1) (L.sub y c e2),λx h=>L.has x h,(λx c z=>nomatch z),I.ok.hd,I.ok.frames,.inl rfl,λb hb=>?_,λb o e=>?_,?_,λb o e hb=>?_,λb hb hq=>?_,?_,λb hb=>I.stkFree b hb⟩,
  rfl,I.bare,Un.kept λb u e=>?_,⟨_,hns,λi x v e1 e2 e3=>?_⟩,λx c e=>?_,?_,λx c e=>I.freeC x c (L.sub x c e),λp hp=>?_,I.hok.kept old,?_⟩
 ·
  refine ⟨?_,λx c e z=>?_⟩
  ·show b≠(s.heap.push qaq).objs.size
   rcases Ai.mp hb with z|z
   ·rw[z];exact neS
   ·obtain ⟨o,e⟩:=ho b z
    exact ltS e
  ·rcases Ai.mp hb with q|q
   ·exact Av (cellL x c e) (z.trans q)
   ·exact (hf b q).2.2.2.2.1 x c (L.sub x c e) z
 ·exact ⟨Ab _ (I.bs b o e).1,(I.bs b o e).2⟩
 ·exact AV (AV I.ok.bsz I.sz) leS
 ·
  rcases Ai.mp hb with q|q
  ·exact neZ (I.bs b o e).1 q
  ·rcases (hf b q).2.2.2.1 with z|z
   ·exact I.ok.noex b o e z
   ·exact absurd (AJ (Al (I.ok.bs b o e).1) z) (Bt _)
 ·
  obtain ⟨h1,h2⟩:=stk b hq
  rcases Ai.mp hb with q|q
  ·exact Av h1 q
  ·exact h2 q
 ·exact Heap.FunFrames.of_keeps (λb o e _=>⟨o,Ab _ e,rfl⟩) I.stack
 ·exact hsb b u (Av (Al e)) e
 ·
  obtain ⟨m,hn,hl⟩:=I.loc;have hi:vars.length<=i:=by
   apply Nat.le_of_not_lt
   intro z;rw[show lcσ vars.length fv σ=List.replicate vars.length none ++ fv.map λj=>(σ[j]?).join from rfl,Bn (by simpa using z),D2 (by simpa using z)] at e2;cases e2
  obtain ⟨k,rfl⟩:∃ k,i=vars.length+k:=⟨i-vars.length,by omega⟩;have e1':frees[k]?=some x:=by
   have e1'':(vars ++ frees)[vars.length+k]?=some x:=e1;rw[Bw (by omega)] at e1''
   simpa using e1''
  have e2':(fv.map λj=>(σ[j]?).join)[k]?=some (some v):=by
   rw[show lcσ vars.length fv σ=List.replicate vars.length none ++ fv.map λj=>(σ[j]?).join from rfl,Bw (by simp)] at e2
   simpa using e2
  rw[Ay] at e2';obtain ⟨j,hj,ej⟩:=AL.mp e2';have ej':σ[j]?=some (some v):=by
   cases q:σ[j]? with
   | none=>rw[q] at ej;cases ej
   | some y=>rw[q] at ej;exact congrArg some ej
  obtain ⟨f1,f2,f3,f4⟩:=fo.get e1' hj;obtain ⟨u,ru,lk⟩:=hl j x v f1 ej' (f2.elim (λz=>.inr (.inl z)) λz=>.inr (.inr z));refine ⟨u,ru,.inr ⟨f4,?_⟩⟩
  rcases lk with ⟨z,_⟩|⟨_,c,hc,o,q,d⟩
  ·rcases f2 with y|y<;>rw[y] at z<;>cases z
  ·exact ⟨c,f3.trans hc,o,old c o q,d⟩
 ·obtain ⟨v,o,q,d⟩:=I.cell x c (L.sub x c e)
  exact ⟨v,o,old c o q,d⟩
 ·exact I.hok.fresh leS
 ·have e:p=(s.heap.objs.size,qaq):=by
   have hp':p∈([]:List (Addr×Obj)) ++ [(s.heap.objs.size,qaq)]:=hp
   simpa using hp'
  subst e;refine ⟨hD,I.hok.fresh (Ag _),neS,λq=>?_,λv q=>by have q':Data.seq _ _=Data.cell v:=q;cases q'⟩;exact Bt _ (stk _ q).1
 ·show (lcσ vars.length fv σ).length=(vars ++ frees).length
  simp[lcσ,fo.len]
end
def qxr (X:Cx) (ifs:List Expr) (t:TT):Prop:=
 ∀ (pins:List (Addr×Obj)) (s:Shared) (σ:St) (H:Hp) (Q:Bool->Hp->Prop),Inv X pins σ H s->t σ H Q ->
  wpAny (model X.prog X.w) X.A (forIn ifs true λc r=>if r=true then do let ok <- isTrue c X.env (eval c X.env);pure (ForInStep.yield ok) else pure (ForInStep.yield r)) (TP X pins σ Q) X.xe s
def qBa:TT:=λ_ H Q=>Q true H
theorem qnf {σ:St} {H:Hp} {Q:Bool->Hp->Prop} (h:Q true H):qBa σ H Q:=h
theorem qbt {X:Cx}:qxr X [] qBa:=λ_ _ _ H _ I h=>wpAny_tests_nil ⟨H,I,h⟩
theorem qv1 {X:Cx} {c:Expr} {t:TT} (h:PT X c t):qxr X [c] t:=λpins s σ H Q I q=>wpAny_tests_one (h pins s σ H Q I q)
def qge (J:It) (Q:VK) (g:TG) (tc:TT) (te:TE) (σc:St) (H1:Hp):Prop:=∃ W:Nat->Nat->List V->Hp->Prop,(∃ m,W 0 m [] H1)/\∀ i m ys H2,W i m ys H2 ->
 (J.stop i H2/\ys.length<=sizeLine/\∀ p,H2 p=none->Q (.ref p) (upd H2 p (.lst ys))) \/
 (J.go i H2/\ys.length<sizeLine/\∃ N:List V->Hp->Prop,(∀ zs H',N zs H'->∃ m',m'<m/\W (i+1) m' zs H')/\∀ x H3,J.yld i H2 x H3->g x σc H3 λσ4 H4=>tc σ4 H4 λb H5=>if b=true then te σ4 H5 λv H6=>N (ys ++ [v]) H6 else N ys H5)
def tLC (nv:Nat) (fv:List Nat) (wi:TI) (g:TG) (tc:TT) (te:TE):TE:=λσ H Q=>wi σ H λJ H1=>qge J Q g tc te (lcσ nv fv σ) H1
theorem qoy {prog:Program} {w:World} {A:Around} {R:Result->Shared->Prop} {s:Shared} {elt target iter:Expr} {ifs:List Expr} {scope:Scope} {pos:Pos} {it acc:Value} {env:Env} (I:Nat->Shared->Prop)
  (turn:∀ n s,I n s->wpAny (model prog w) A (pyNext it) (λr s₁=>match r with
   | none=>R (.ok .next) s₁
   | some v=>wpAny (model prog w) A (letOwnedTupleGo target it v) (λ_ s₁'=>wpAny (model prog w) A (assign target env v) (λ_ s₂ =>
     wpAny (model prog w) A (forIn ifs true λc r=>if r=true then do let ok <- isTrue c env (eval c env);pure (ForInStep.yield ok) else pure (ForInStep.yield r)) (λok s₃ =>
      if ok=true then wpAny (model prog w) A (eval elt env) (λx s₄ =>
       wpAny (model prog w) A (call (.builtin "list.append") [acc,x]) (λ_ s₅=>∃ m,m<n/\I m s₅) (notedBy (model prog w) A env λe s'=>R (.error e) s') s₄) (notedBy (model prog w) A env λe s'=>R (.error e) s') s₃
      else ∃ m,m<n/\I m s₃) (notedBy (model prog w) A env λe s'=>R (.error e) s') s₂) (notedBy (model prog w) A env λe s'=>R (.error e) s') s₁') (notedBy (model prog w) A env λe s'=>R (.error e) s') s₁) (notedBy (model prog w) A env λe s'=>R (.error e) s') s)
  (n:Nat) (h:I n s):codeAny (model prog w) A (.compLoop (.ListComp elt [⟨target,iter,ifs,0⟩] scope pos) 0 it acc env) R s:=by
 refine codeAny_loop rfl I (λn s hI=>?_) n h
 show wpAny _ A ((compTurn (.ListComp elt [⟨target,iter,ifs,0⟩] scope pos) 0 it acc env).onRaise (λx=>do noteFrame x env;theTreesLotGoes x)) _ _ s
 refine wpAny_noted ?_;rw[compTurn_list];refine Aa (C9 (Aa (AY (turn n s hI) (λr s₁ h₁=>?_) λ_ _ h'=>h')))
 cases r with
 | none=>exact Ae h₁
 | some v =>
  refine Aa (AY h₁ (λ_ s₁' h₁'=>?_) λ_ _ h'=>h');refine Aa (AY h₁' (λ_ s₂ h₂=>Aa (AY h₂ (λok s₃ h₃=>?_) λ_ _ h'=>h')) λ_ _ h'=>h')
  cases ok with
  | false=>exact Ae ⟨rfl,h₃⟩
  | true =>
   exact Aa (Aa (AY h₃ (λx s₄ h₄=>Aa (AY h₄ (λ_ s₅ h₅=>Ae (Ae ⟨rfl,h₅⟩)) λ_ _ h'=>h')) λ_ _ h'=>h'))
def qoz (nv:Nat) (g:TG):Prop:=∀ x σ H (K:St->Hp->Prop),g x σ H K->g x σ H λσ' H'=>K σ' H'/\σ'.length=σ.length/\∀ i,nv<=i->σ'[i]?=σ[i]?
theorem qe7 {nv i:Nat} (h:i<nv):qoz nv (qiz i):=λx σ H K q=>⟨q,by simp,λj hj=>by rw[BK (by omega)]⟩
theorem qex {F:Frag} {nv i j:Nat} (hi:i<nv) (hj:j<nv):qoz nv (qAu F 2 (qpz (qiz i) (qpz (qiz j) qAt))):=λx σ H K ⟨a,xs,e,hq,hl,v,r,e1,v2,r2,e2,e3,q⟩ =>
 ⟨a,xs,e,hq,hl,v,r,e1,v2,r2,e2,e3,q,by simp,λk hk=>by rw[BK (by omega),BK (by omega)]⟩
abbrev lobj (us:List Value) (n:Nat):Obj:={ cls:=.type "list",data:=.seq us.toArray n }
theorem qv2 {Y:Cx} {D it:Addr} {J:It} {fp:List Addr} {tn:Nat->Heap->Prop} {g:TG} {tc:TT} {te:TE} {Q:VK} {W:Nat->Nat->List V->Hp->Prop} {nv n0 m0:Nat} {σc:St} {H:Hp} {s:Shared}
  {elt target iter:Expr} {ifs:List Expr} {scope:Scope} {pos:Pos} {R:Result->Shared->Prop} (hx:Y.xe=λ_ _=>False)
  (hc:Y.calm=true) (hg:PG Y target g) (hk:qoz nv g) (hi:qxr Y ifs tc) (he:PE Y elt te) (T:Turn Y.prog Y.w Y.K target J fp it tn)
  (hnv:∀ i,i<nv->∀ v,σc[i]?≠some (some v))
  (d1:D≠Y.env.locals) (d2:D∈Y.ex) (d3:D ∉ Y.fs) (d4:∀ x c,Y.env.cells.lookup x=some c->c≠D) (d5:D ∉ fp) (d6:Y.pn=[])
  (hf:∀ b∈fp,b≠Y.env.locals/\b ∉ Y.fs/\(b∈Y.ex\/Y.s₀.heap.objs.size<=b)/\(∀ x c,Y.env.cells.lookup x=some c->c≠b))
  (I0:Inv Y [(D,lobj [] n0)] σc H s) (st:tn 0 s.heap) (fr:∀ b∈fp,H b=none) (w0:W 0 m0 [] H)
  (turn:∀ i m ys H2,W i m ys H2->(J.stop i H2/\ys.length<=sizeLine/\∀ p,H2 p=none->Q (.ref p) (upd H2 p (.lst ys))) \/
   (J.go i H2/\ys.length<sizeLine/\∃ N:List V->Hp->Prop,(∀ zs H',N zs H'->∃ m',m'<m/\W (i+1) m' zs H')/\∀ x H3,J.yld i H2 x H3->g x σc H3 λσ4 H4=>tc σ4 H4 λb H5=>if b=true then te σ4 H5 λv H6=>N (ys ++ [v]) H6 else N ys H5))
  (hend:∀ ys us n H' s',Inv Y [(D,lobj us n)] σc H' s'->Vals ys us->ys.length<=sizeLine->(∀ p,H' p=none->Q (.ref p) (upd H' p (.lst ys)))->R (.ok .next) s') :
  codeAny (model Y.prog Y.w) Y.A (.compLoop (.ListComp elt [⟨target,iter,ifs,0⟩] scope pos) 0 (.ref it) (.ref D) Y.env) R s:=by
 have fpok:∀ {H':Hp} {o:Obj},(∀ b∈fp,H' b=none)->∀ b∈fp,qm6 Y [(D,o)] H' b:=fun {H' o} hn b hb=>by
  obtain ⟨f1,f2,f3,f4⟩:=hf b hb;refine ⟨hn b hb,f1,f2,f3,f4,λp hp=>?_⟩;rw[d6] at hp;have e:p=(D,o):=by simpa using hp
  rw[e];exact λz=>d5 (by rw[show D=b from z];exact hb)
 refine qoy (λn s'=>∃ i ys us k H',Inv Y [(D,lobj us k)] σc H' s'/\Vals ys us/\tn i s'.heap/\(∀ b∈fp,H' b=none)/\W i n ys H') ?_ m0 ⟨0,[],[],n0,H,I0,.nil,st,fr,w0⟩;rintro n s3 ⟨i,ys,us,k,H3,I3,rv,st3,fr3,w3⟩;have ex0:∀ {E':Value->Shared->Prop} {e:Value} {s':Shared},Y.xe e s'->E' e s':=fun {E' e s'} z=>by rw[hx] at z;exact z.elim
 rcases turn i n ys H3 w3 with ⟨stop,hz,q⟩|⟨go,hz,N,hN,step⟩
 ·refine thn (T.done Y rfl rfl rfl hc i _ s3 σc H3 _ I3 (fpok fr3) st3 stop) λr s4 hq__=>?_
  obtain ⟨hr,I4⟩:=hq__;subst hr;exact hend ys us k H3 s4 I4 rv hz q
 ·refine thn (T.item Y rfl rfl rfl hc i _ s3 σc H3 _ I3 (fpok fr3) st3 go) λr s4 hq__=>?_
  obtain ⟨u,hr,h4⟩:=hq__;subst hr;refine thn h4 λ_ s5 hq__=>?_
  obtain ⟨x,H5,I5,r5,y5,st5,fr5⟩:=hq__;have I5':=I5.pinned (fpok fr5) (T.obj _ _ st5);refine AY (hg _ s5 σc H5 x u _ I5' r5 (hk x σc H5 _ (step x H5 y5))) (λ_ s6 hq__=>?_) λ_ _ z=>ex0 z
  obtain ⟨σ6,H6,I6,q6,l6,e6⟩:=hq__;have wk:∀ (i:Nat) v,σc[i]?=some (some v)->σ6[i]?=some (some v):=λi v e=>by
   by_cases h:nv<=i
   ·rw[e6 i h];exact e
   ·exact absurd e (hnv i (by omega) v)
  have back:∀ {o:Obj} {H':Hp} {s':Shared},Inv Y ([(D,o)] ++ qko fp s5.heap) σ6 H' s'->Inv Y [(D,o)] σc H' s'/\tn (i+1) s'.heap/\∀ b∈fp,H' b=none:=fun {o H' s'} I'=>by
   refine ⟨(I'.unpinned).weak (by rw[<- l6]) wk,T.keep _ _ _ st5 λb hb o e=>(I'.pin (b,o) (AK _ (AK _ (qfp hb e)))).1,λb hb=>?_⟩;obtain ⟨o,e,_⟩:=T.obj _ _ st5 b hb;exact (I'.pin (b,o) (AK _ (AK _ (qfp hb e)))).2.1
  refine AY (hi _ s6 σ6 H6 _ I6 q6) (λb s7 hq__=>?_) λ_ _ z=>ex0 z
  obtain ⟨H7,I7,q7⟩:=hq__
  cases b with
  | false =>
   obtain ⟨m',hm,w7⟩:=hN ys H7 q7;obtain ⟨I8,st8,fr8⟩:=back I7;exact ⟨m',hm,i+1,ys,us,k,H7,I8,rv,st8,fr8,w7⟩
  | true =>
   refine AY (he _ s7 σ6 H7 _ I7 q7) (λu2 s8 hq__=>?_) λ_ _ z=>ex0 z
   obtain ⟨v,H8,I8,r8,n8⟩:=hq__;obtain ⟨m',hm,w8⟩:=hN _ H8 n8;obtain ⟨I9,st9,fr9⟩:=back I8;obtain ⟨eD,nD,_,_,_⟩:=I9.pin (D,lobj us k) (by simp);have hlen:=rv.length;refine call_meets F.slot_list_append ⟨_,eD,rfl⟩ F.entry_list_append (Fn _ _) (PySem.list_append D us.toArray k u2 (by rw[Ax];omega)) ⟨eD,?_⟩;have q:=PySem.IsL.update eD (λx_1=>x_1.push u2);have eq:us.toArray.push u2=(us ++ [u2]).toArray:=by simp
   rw[eq] at q;obtain ⟨n',q⟩:∃ n',(s8.heap.update D (Obj.mapSeq λx_1=>x_1.push u2)).get? D=some (lobj (us ++ [u2]) n'):=⟨_,q⟩;have I10:Inv Y [] σc H8 s8:=I9.pins_of λp hp=>by cases hp
   have I11:Inv Y [] σc H8 { s8 with heap:=s8.heap.update D (Obj.mapSeq λx_1=>x_1.push u2),toks:=s8.toks }:=
    I10.turned (it:=D) (λb o hb e=>(Bm s8.heap (Obj.mapSeq _) (AX hb)).trans e) nD d1 (.inl d2) d4 (λp hp=>by rw[d6] at hp;cases hp)
   refine ⟨m',hm,i+1,ys ++ [v],us ++ [u2],n',H8,I11.pins_of (λp hp=>?_),rv.append (.cons r8 .nil),?_,fr9,w8⟩
   ·have e:p=(D,lobj (us ++ [u2]) n'):=by simpa using hp
    subst e;exact ⟨q,nD,d1,d3,λv z=>by have z':Data.seq _ _=Data.cell v:=z;cases z'⟩
   ·refine T.keep _ _ _ st9 λb hb o e=>?_
    exact (Bm s8.heap (Obj.mapSeq _) (λz=>d5 (by rw[z];exact hb))).trans e
section
variable {X:Cx} {pins:List (Addr×Obj)} {σ:St} {H:Hp} {s:Shared} {scope:Scope} {cl:List (Str×Addr)} {vars frees:List Str} {fv:List Nat} {elt target iter:Expr} {ifs:List Expr} {pos:Pos}
def qyq (X:Cx) (pins:List (Addr×Obj)) (σ:St) (Q:VK) (D C:Addr) (s':Shared):Prop:=
 ∃ (ys:List V) (H':Hp) (oC:Obj) (m:Str->Option Value),Inv X (pins ++ [(C,oC)]) σ (upd H' D (.lst ys)) s'/\s'.heap.Ns C m/\qm6 X pins (upd H' D (.lst ys)) C/\Q (.ref D) (upd H' D (.lst ys))
theorem qqo {J:It} {fp:List Addr} {it:Addr} {tn:Nat->Heap->Prop} {g:TG} {tc:TT} {te:TE} {Q:VK} {W:Nat->Nat->List V->Hp->Prop} {m0:Nat} {E:Value->Shared->Prop} {E2:Value->Addr->Value->Shared->Prop}
  (hc:X.calm=true) (L:qyp X scope cl) (fo:FvOk X scope cl frees fv) (hk:qoz vars.length g)
  (hg:∀ C s H ex,PG (blk X (vars ++ frees) scope cl C s H ex) target g) (hi:∀ C s H ex,qxr (blk X (vars ++ frees) scope cl C s H ex) ifs tc) (he:∀ C s H ex,PE (blk X (vars ++ frees) scope cl C s H ex) elt te)
  (I:Inv X pins σ H s) (T:Turn X.prog X.w X.K target J fp it tn) (st:tn 0 s.heap) (hf:∀ b∈fp,qm6 X pins H b) (w0:W 0 m0 [] H)
  (turn:∀ i m ys H2,W i m ys H2->(J.stop i H2/\ys.length<=sizeLine/\∀ p,H2 p=none->Q (.ref p) (upd H2 p (.lst ys))) \/
   (J.go i H2/\ys.length<sizeLine/\∃ N:List V->Hp->Prop,(∀ zs H',N zs H'->∃ m',m'<m/\W (i+1) m' zs H')/\∀ x H3,J.yld i H2 x H3->g x (lcσ vars.length fv σ) H3 λσ4 H4=>tc σ4 H4 λb H5=>if b=true then te σ4 H5 λv H6=>N (ys ++ [v]) H6 else N ys H5)) :
  wpAny (model X.prog X.w) X.A (newList []) (λacc s₃=>wpAny (model X.prog X.w) X.A (newFunctionEnv scope X.env.globals cl [] X.env.qual none .none (some X.env)) (λcenv s₄ =>
   codeAny (model X.prog X.w) X.A (.compStart (.ListComp elt [⟨target,iter,ifs,0⟩] scope pos) 0 (.ref it) acc { cenv with scope:=relabel scope X.env })
    (λr s'=>match r with|.ok _=>∃ D,acc=.ref D/\qyq X pins σ Q D cenv.locals s'|.error x=>E2 acc cenv.locals x s') s₄) E s₃) E s:=by
 have hoo:∀ b∈fp,∃ o,s.heap.get? b=some o:=λb hb=>let ⟨o,e,_⟩:=T.obj 0 _ st b hb;⟨o,e⟩
 refine Bu (wpAny_newFunctionEnv L.nocell (by intro y hy;simp at hy) (λh₁ hns hsb=>?_) L.kind);dsimp only at hns hsb ⊢;have hC:(s.heap.push qaq).objs.size=s.heap.objs.size+1:=Bq ..;have keep1:∀ b o,b≠(s.heap.push qaq).objs.size->(s.heap.push qaq).get? b=some o->h₁.get? b=some o:=λb o hb e=>hsb.extBut b o hb (Ab _ e)
 have I0:Inv (blk X (vars ++ frees) scope cl (s.heap.push qaq).objs.size { s with heap:=s.heap.push qaq } H (s.heap.objs.size :: fp)) [(s.heap.objs.size,qaq)] (lcσ vars.length fv σ) H { s with heap:=h₁,toks:=s.toks+([]:List (Str×Value)).length }:=
  qv0 I L fo hf hoo (by simpa using hns) keep1
 have st1:tn 0 h₁:=T.keep 0 _ _ st λb hb o e=>keep1 b o (ltS e) (Ab _ e)
 have loop:codeAny (model X.prog X.w) X.A (.compLoop (.ListComp elt [⟨target,iter,ifs,0⟩] scope pos) 0 (.ref it) (.ref s.heap.objs.size) (compEnvC scope cl (s.heap.push qaq).objs.size X.env))
   (λr s'=>match r with|.ok _=>∃ D,Value.ref s.heap.objs.size=.ref D/\qyq X pins σ Q D (s.heap.push qaq).objs.size s'|.error x=>E2 (.ref s.heap.objs.size) (s.heap.push qaq).objs.size x s') { s with heap:=h₁,toks:=s.toks+([]:List (Str×Value)).length }:=by
  refine qv2 (Y:=blk X (vars ++ frees) scope cl (s.heap.push qaq).objs.size { s with heap:=s.heap.push qaq } H (s.heap.objs.size :: fp)) (nv:=vars.length) (n0:=0) rfl hc (hg _ _ _ _) hk (hi _ _ _ _) (he _ _ _ _) T (λi hi v e=>?_)
   neS (by show s.heap.objs.size∈s.heap.objs.size :: fp;simp) ?_ (λx c e=>?_) (λz=>?_) rfl (λb hb=>?_) I0 st1 (λb hb=>(hf b hb).1) w0 turn ?_
  ·rw[show lcσ vars.length fv σ=List.replicate vars.length none ++ fv.map λj=>(σ[j]?).join from rfl,Bn (by simpa using hi),D2 (by simpa using hi)] at e
   cases e
  ·exact (I0.pin (s.heap.objs.size,qaq) (by simp)).2.2.2.1
  ·obtain ⟨v,q⟩:=I.cell x c (L.sub x c e)
   exact Av q.lt
  ·obtain ⟨o,e⟩:=hoo _ z
   exact absurd (Al e) (Bt _)
  ·exact ⟨(I0.ok.exf b (An _ hb)).1,I0.ok.exfs b (An _ hb),.inl (An _ hb),(I0.ok.exf b (An _ hb)).2⟩
  ·intro ys us n H' s' I' rv hz q
   obtain ⟨eD,nD,_,fD,_⟩:=I'.pin (s.heap.objs.size,lobj us n) (by simp);obtain ⟨mC,hnC,_⟩:=I'.loc;obtain ⟨oC,es,ep,eC,dC,r1,r2⟩:=id hnC;have nC:H' (s.heap.push qaq).objs.size=none:=I'.free;have neDC:(s.heap.push qaq).objs.size≠s.heap.objs.size:=neS.symm;have lt:∀ {b:Addr} {o:Obj},s.heap.get? b=some o->b≠s.heap.objs.size/\b≠(s.heap.push qaq).objs.size:=λe=>⟨neZ e,ltS e⟩
   have nex:∀ {b:Addr} {o:Obj},s.heap.get? b=some o->b ∉ fp->b ∉ s.heap.objs.size :: fp:=λe hb z=>by
    rcases Ai.mp z with z|z
    ·exact (lt e).1 z
    ·exact hb z
   have upn:∀ {b:Addr} {u:HO},H' b=some u->upd H' s.heap.objs.size (.lst ys) b=some u:=λe=>by rw[qa1 (qag e nD)];exact e
   have un:Un (frs X.stack) fp H (upd H' s.heap.objs.size (.lst ys)) s.heap s'.heap:=
    {keep:=λb o e n hb hx=>I'.base.keep b o (Ab _ e) n hb (nex e hx)
     slot:=λb o e n hb hx=>I'.base.slot b o (Ab _ e) n hb (nex e hx)
     free:=λb o e n hx=>by rw[qa1 (lt e).1];exact I'.base.free b o (Ab _ e) n (nex e hx)
     there:=λb o e hx=>I'.base.there b o (Ab _ e) (nex e hx)
     tups:=λb xs e=>upn (I'.base.tups b xs e)
     frzs:=λb o u e=>upn (I'.base.frzs b o u e)
     tbls:=λb ps e=>let ⟨more,z⟩:=I'.base.tbls b ps e;⟨more,upn z⟩ }
   have hok:HOk X.prog X.w (upd H' s.heap.objs.size (.lst ys)) s'.heap:=λb u e=>by
    by_cases hb:b=s.heap.objs.size
    ·subst hb;rw[qbh] at e;cases e
     exact ⟨hz,us,n,rv,eD⟩
    ·rw[qa1 hb] at e
     exact (I'.hok b u e).stay (λc v _ z=>z) (λc z=>upn z) λc xs z=>upn z
   have J1:Inv X pins σ (upd H' s.heap.objs.size (.lst ys)) s':=I.call' (ch:=fp) I'.os un hok I'.bare λb hb=>⟨(hf b hb).2.2.2.1,(hf b hb).2.1,(hf b hb).2.2.2.2.1,(hf b hb).2.2.2.2.2⟩
   have fC:qm6 X pins (upd H' s.heap.objs.size (.lst ys)) (s.heap.push qaq).objs.size:=I.fpOk leS (by rw[qa1 neDC];exact nC);refine ⟨_,rfl,ys,H',oC,mC,J1.pins_of (λp hp=>?_),hnC,fC,q _ nD⟩
   rcases AD.mp hp with z|z
   ·exact J1.pin p (AK _ z)
   ·have e:p=((s.heap.push qaq).objs.size,oC):=by simpa using z
    subst e;exact ⟨eC,fC.1,fC.2.1,fC.2.2.1,λv z=>by rw[dC] at z;cases z⟩
 exact codeAny_compStart_list loop (T.self _ 0 _ _ _ st1 loop)
theorem qhy {wi:TI} {g:TG} {tc:TT} {te:TE} (hc:X.calm=true) (L:qyp X scope cl) (fo:FvOk X scope cl frees fv) (hit:PI X target iter wi) (hk:qoz vars.length g)
  (hg:∀ C s H ex,PG (blk X (vars ++ frees) scope cl C s H ex) target g) (hi:∀ C s H ex,qxr (blk X (vars ++ frees) scope cl C s H ex) ifs tc) (he:∀ C s H ex,PE (blk X (vars ++ frees) scope cl C s H ex) elt te)
  (hs:∀ x,foldedSetIterable iter X.env x=pure x:=by intro _;rfl):PE X (.ListComp elt [⟨target,iter,ifs,0⟩] scope pos) (tLC vars.length fv wi g tc te):=by
 intro pins s σ H Q I h;rw[eval_ListComp];refine Ew (use:=none) rfl hs L.clos L.kind L.names (thn (hit pins s σ H _ I h) λv s1 h1=>thn h1 λitv s2 h2=>?_);obtain ⟨it,fp,tn,J,H2,e,I2,T,st2,f2,W,⟨m0,w0⟩,turn⟩:=h2;subst e;refine AY (qqo (E:=X.xe) (E2:=λacc C x s'=>compPost (model X.prog X.w) X.A X.xe none (EP X pins σ Q) acc C (.error x) s') hc L fo hk hg hi he I2 T st2 f2 w0 turn) (λacc s3 h3=>thn h3 λcenv s4 h4=>BF h4 λr s' h5=>?_) λ_ _ z=>z
 cases r with
 | error x=>exact h5
 | ok f =>
  obtain ⟨D,rfl,ys,H',oC,m,J1,hn,fC,q⟩:=h5;refine ⟨m,hn,λh' sb=>⟨.ref D,_,?_,rfl,q⟩⟩;exact J1.unpinned.turned (t':=s'.toks) (it:=cenv.locals) (λb o hb e=>(sb.2 b hb).trans e) fC.1 fC.2.1 fC.2.2.2.1 fC.2.2.2.2.1 fC.2.2.2.2.2
theorem qfs {wi:TI} {g:TG} {tc:TT} {te:TE} {i:Nat} {x:Str} {spos pos':Pos} (hN:X.N.Nodup) (hix:X.N[i]?=some x) (hlx:Loc X.env.scope x) (hc:X.calm=true) (L:qyp X scope cl) (fo:FvOk X scope cl frees fv) (hit:PI X target iter wi) (hk:qoz vars.length g)
  (hg:∀ C s H ex,PG (blk X (vars ++ frees) scope cl C s H ex) target g) (hi:∀ C s H ex,qxr (blk X (vars ++ frees) scope cl C s H ex) ifs tc) (he:∀ C s H ex,PE (blk X (vars ++ frees) scope cl C s H ex) elt te)
  (hsw:swapsWith (.ListComp elt [⟨target,iter,ifs,0⟩] scope pos) (some (.Name x pos')) spos.line X.env=pure true:=by rfl)
  (hs:∀ x,foldedSetIterable iter X.env x=pure x:=by intro _;rfl) (hf:X.fn x=true\/X.env.scope.names.lookup x=some .local:=by first|exact .inl rfl|exact .inr rfl|assumption) :
  PS X (.Assign [.Name x pos'] (.ListComp elt [⟨target,iter,ifs,0⟩] scope pos) spos) (qAv (tLC vars.length fv wi g tc te) (qiz i)):=by
 intro pins s σ H Dn I h;rw[exec_Assign_Name_used _ _ _ _ hsw];refine Aa (C9 (Aa ?_))
 show wpAny _ X.A (do let _ <- comprehension (.ListComp elt [⟨target,iter,ifs,0⟩] scope pos) scope X.env _ (newList []) false (eval iter X.env) (some (assign (.Name x pos') X.env))) _ _ s
 refine Aa (AY (Ew (use:=some (assign (.Name x pos') X.env)) (Q:=λ_ s'=>SP X pins Dn .next s') rfl hs L.clos L.kind L.names (thn (hit pins s σ H _ I h) λv s1 h1=>thn h1 λitv s2 h2=>?_)) (λ_ s' hq=>Ae (Ae hq)) λ_ _ e=>e);obtain ⟨it,fp,tn,J,H2,e,I2,T,st2,f2,W,⟨m0,w0⟩,turn⟩:=h2;subst e;refine AY (qqo (Q:=λx H1=>qiz i x σ H1 Dn.nx) (E:=X.xe) (E2:=λacc C y s'=>compPost (model X.prog X.w) X.A X.xe (some (assign (.Name x pos') X.env)) (λ_ s'=>SP X pins Dn .next s') acc C (.error y) s') hc L fo hk hg hi he I2 T st2 f2 w0 turn) (λacc s3 h3=>thn h3 λcenv s4 h4=>BF h4 λr s' h5=>?_) λ_ _ z=>z
 cases r with
 | error y=>exact h5
 | ok f =>
  obtain ⟨D,rfl,ys,H',oC,m,J1,hn,fC,q⟩:=h5
  show wpAny (model X.prog X.w) X.A (assign (.Name x pos') X.env (.ref D)) (λ_ s''=>∃ m,s''.heap.Ns cenv.locals m/\∀ h',Heap.SameBut cenv.locals s''.heap h'->SP X pins Dn .next { s'' with heap:=h' }) X.xe s'
  refine thn (qam (i:=i) hN hix hlx hf _ s' σ _ (.ref D) (.ref D) (λσ' H''=>Dn.nx σ' H''/\H''=upd H' D (.lst ys)) J1 rfl ⟨q,rfl⟩) λ_ s6 hq__=>?_
  obtain ⟨σ6,H6,I6,q6,e6⟩:=hq__;subst e6;have eC:=(I6.pin (cenv.locals,oC) (by simp)).1;have eC':=(J1.pin (cenv.locals,oC) (by simp)).1;obtain ⟨o,es,ep,ho,r1⟩:=hn;rw[eC'] at ho;cases ho;refine ⟨m,⟨oC,es,ep,eC,r1⟩,λh' sb=>⟨σ6,_,?_,q6⟩⟩;exact I6.unpinned.turned (t':=s6.toks) (it:=cenv.locals) (λb o hb e=>(sb.2 b hb).trans e) fC.1 fC.2.1 fC.2.2.2.1 fC.2.2.2.2.1 fC.2.2.2.2.2
end
open PySem PySem.Spec PyProof.Rows
theorem qqp {K:Frag} {a:Addr} {xs:List V} {g:TG} {tc:TT} {te:TE} {Q:VK} {σ:St} {H:Hp} (Pv:Nat->List V->Hp->Prop) (hz:xs.length<=sizeLine) (h0:Pv 0 [] H) (hl:∀ i ys H,Pv i ys H->SqL K H a xs/\ys.length<=i)
  (hs:∀ i x ys H,xs[i]?=some x->Pv i ys H->g x σ H λσ4 H4=>tc σ4 H4 λb H5=>if b=true then te σ4 H5 λv H6=>Pv (i+1) (ys ++ [v]) H6 else Pv (i+1) ys H5)
  (hd:∀ ys H p,Pv xs.length ys H->H p=none->Q (.ref p) (upd H p (.lst ys))) :
  qge (Itl K a) Q g tc te σ H:=by
 refine ⟨λi m ys H=>m=xs.length-i/\i<=xs.length/\Pv i ys H,⟨xs.length,by simp,AW _,h0⟩,?_⟩;rintro i m ys H2 ⟨rfl,hi,p⟩;obtain ⟨q,hy⟩:=hl i ys H2 p
 by_cases hlt:i<xs.length
 ·refine .inr ⟨⟨xs,xs[i],q,by simp[hlt]⟩,by omega,Pv (i+1),λzs H' p'=>⟨xs.length-(i+1),by omega,rfl,hlt,p'⟩,λx H3 y=>?_⟩
  obtain ⟨e,y⟩:=y;subst e;exact hs i x ys _ (y xs q) p
 ·have e:i=xs.length:=by omega
  subst e;exact .inl ⟨⟨xs,q,Ag _⟩,by omega,λp' hp'=>hd ys H2 p' p hp'⟩
theorem qtg {lo:Int} {n:Nat} {g:TG} {tc:TT} {te:TE} {Q:VK} {σ:St} {H:Hp} (Pv:Nat->List V->Hp->Prop) (hz:n<=sizeLine) (h0:Pv 0 [] H) (hl:∀ i ys H,Pv i ys H->ys.length<=i)
  (hs:∀ i ys H,i<n->Pv i ys H->g (.int (lo+i)) σ H λσ4 H4=>tc σ4 H4 λb H5=>if b=true then te σ4 H5 λv H6=>Pv (i+1) (ys ++ [v]) H6 else Pv (i+1) ys H5)
  (hd:∀ ys H p,Pv n ys H->H p=none->Q (.ref p) (upd H p (.lst ys))) :
  qge (Itr lo n) Q g tc te σ H:=by
 refine ⟨λi m ys H=>m=n-i/\i<=n/\Pv i ys H,⟨n,by simp,AW _,h0⟩,?_⟩;rintro i m ys H2 ⟨rfl,hi,p⟩;have hy:=hl i ys H2 p
 by_cases hlt:i<n
 ·refine .inr ⟨hlt,by omega,Pv (i+1),λzs H' p'=>⟨n-(i+1),by omega,rfl,hlt,p'⟩,λx H3 y=>?_⟩
  obtain ⟨e,y⟩:=y;subst e y;exact hs i ys _ hlt p
 ·have e:i=n:=by omega
  subst e;exact .inl ⟨Ag _,by omega,λp' hp'=>hd ys H2 p' p hp'⟩
theorem quj {K:Frag} {a b:Addr} {xs ys:List V} {g:TG} {tc:TT} {te:TE} {Q:VK} {σ:St} {H:Hp} (Pv:Nat->List V->Hp->Prop) (hz:xs.length<=sizeLine) (h0:Pv 0 [] H) (hl:∀ i zs H,Pv i zs H->SqL K H a xs/\SqL K H b ys/\zs.length<=i)
  (hs:∀ i x y zs H p,xs[i]?=some x->ys[i]?=some y->H p=none->Pv i zs H->g (.ref p) σ (upd H p (.tup [x,y])) λσ4 H4=>tc σ4 H4 λb H5=>if b=true then te σ4 H5 λv H6=>Pv (i+1) (zs ++ [v]) H6 else Pv (i+1) zs H5)
  (hd:∀ i zs H p,i=min xs.length ys.length->Pv i zs H->H p=none->Q (.ref p) (upd H p (.lst zs))) :
  qge (Itz K a b) Q g tc te σ H:=by
 refine ⟨λi m zs H=>m=min xs.length ys.length-i/\i<=min xs.length ys.length/\Pv i zs H,⟨min xs.length ys.length,by simp,AW _,h0⟩,?_⟩;rintro i m zs H2 ⟨rfl,hi,p⟩;obtain ⟨qa,qb,hy⟩:=hl i zs H2 p
 by_cases hlt:i<min xs.length ys.length
 ·have ha:i<xs.length:=by omega
  have hb:i<ys.length:=by omega
  refine .inr ⟨⟨xs,ys,xs[i],ys[i],qa,qb,by simp[ha],by simp[hb]⟩,by omega,Pv (i+1),λzs H' p'=>⟨min xs.length ys.length-(i+1),by omega,rfl,hlt,p'⟩,λx H3 y=>?_⟩;obtain ⟨t,rfl,ht,y⟩:=y;have ea:xs[i]?=some xs[i]:=by simp[ha]
  have eb:ys[i]?=some ys[i]:=by simp[hb]
  rw[y xs ys xs[i] ys[i] qa qb ea eb];exact hs i xs[i] ys[i] zs H2 t ea eb ht p
 ·exact .inl ⟨⟨xs,ys,qa,qb,by omega⟩,by omega,λp' hp'=>hd i zs H2 p' (by omega) p hp'⟩
open PySem PySem.Spec PyProof.Rows
structure New (H H':Hp) (p:Addr) (o:HO):Prop where
 same:Same H H'
 fresh:H p=none
 at_:H' p=some o
theorem qbi {H:Hp} {p:Addr} {o:HO} (h:H p=none):New H (upd H p o) p o:=⟨qjz h,h,qbh⟩
def But (l:Addr) (H H':Hp):Prop:=∀ b o,H b=some o->b≠l->H' b=some o
theorem qdp {H:Hp} {l:Addr} {o:HO}:But l H (upd H l o):=λb u e n=>by rw[qa1 n];exact e
theorem But.same {H0 H H':Hp} {l:Addr} (b:But l H H') (s:Same H0 H) (h:H0 l=none):Same H0 H':=λc o e=>b c o (s c o e) (qag e h)
theorem But.tup {H H':Hp} {l:Addr} {o:HO} (b:But l H H') (h:H l=some o) (n:∀ xs,o≠.tup xs):∀ c xs,H c=some (.tup xs)->H' c=some (.tup xs):=λc xs e=>b c _ e (qa0 e h (λz=>n xs z.symm))
section
variable {X:Cx} {e:Expr} {es:List Expr} {te:TE} {t:TA} {pos:Pos}
def qBb (t:TA):TE:=λσ H Q=>t σ H λxs H1=>xs.length<=sizeLine/\∀ p H',New H1 H' p (.tup xs)->Q (.ref p) H'
def qyr (t:TA):TE:=λσ H Q=>t σ H λxs H1=>xs.length<=sizeLine/\∀ p H',New H1 H' p (.lst xs)->Q (.ref p) H'
theorem qck {x1} (h:PA X es t):PE X (.Tuple es x1 pos) (qBb t):=by
 intro pins s σ H Q I hq;refine wpAny_Tuple_spliced (thn (h pos pins s σ H _ I hq) λus s1 ⟨xs,H1,I1,r,z,q⟩=>⟨by rw[<- r.length];exact z,?_⟩);have hf:H1 s1.heap.objs.size=none:=I1.hok.fresh (Ag _);refine ⟨.ref s1.heap.objs.size,upd H1 s1.heap.objs.size (.tup xs),I1.laid (t':=s1.toks) (λb u e=>Ab _ e) (Ag _) ?_,rfl,q _ _ (qbi hf)⟩;exact ⟨z,us,r,⟨_,Ao _ rfl,rfl,_,rfl⟩⟩
theorem qbx (h:PA X es t):PE X (.List es pos) (qyr t):=by
 intro pins s σ H Q I hq;refine wpAny_List_spliced (thn (h pos pins s σ H _ I hq) λus s1 ⟨xs,H1,I1,r,z,q⟩=>⟨by rw[<- r.length];exact z,?_⟩);have hf:H1 s1.heap.objs.size=none:=I1.hok.fresh (Ag _);refine ⟨.ref s1.heap.objs.size,upd H1 s1.heap.objs.size (.lst xs),I1.laid (t':=s1.toks) (λb u e=>Ab _ e) (Ag _) ?_,rfl,q _ _ (qbi hf)⟩;exact ⟨z,us,0,r,Ao _ rfl⟩
theorem CallR.imp {f:Value} {r r':List V->Hp->VK->Prop} (h:CallR X f r) (i:∀ xs H Q,r' xs H Q->r xs H Q):CallR X f r':=λpins s σ H xs us Q I v q=>h pins s σ H xs us Q I v (i xs H Q q)
theorem OpR.imp {f:Value->Value->Sem Value} {r r':R2} (h:OpR X f r) (i:∀ x y H Q,r' x y H Q->r x y H Q):OpR X f r':=λpins s σ H x y v u Q I rx ry q=>h pins s σ H x y v u Q I rx ry (i x y H Q q)
theorem MtM.imp {id:String} {r r':V->List V->Hp->VK->Prop} (h:MtM X id r) (i:∀ x xs H Q,r' x xs H Q->r x xs H Q):MtM X id r':=λpins s σ H x xs v us Q I rx rv q=>h pins s σ H x xs v us Q I rx rv (i x xs H Q q)
theorem qb0:CallR X (.type "list") (λxs H Q=>∃ p ys,xs=[.ref p]/\(SqL X.K H p ys\/SqT X.K H p ys)/\∀ l H',New H H' l (.lst ys)->Q (.ref l) H'):=
 call_list_of.imp λ_ _ _ ⟨p,ys,e,h,q⟩=>⟨p,ys,e,h,λl hl=>q l _ (qbi hl)⟩
inductive rSlLNS (K:Frag) (x:V) (lo hi:Option Int) (H:Hp) (Q:VK):Prop
 | mk:∀ a xs,x=.ref a->SqL K H a xs->(∀ p H',New H H' p (.lst (qju xs lo hi))->Q (.ref p) H')->rSlLNS K x lo hi H Q
def qys (K:Frag):V->Option Int->Option Int->Hp->VK->Prop:=λx lo hi H Q=>rSlLNS K x lo hi H Q
theorem qef:SlR X (qys X.K):=λpins s σ H x v vl vu lo hi sl Q I rx hs p1 p2 ⟨a,xs,e,h,q⟩=>qvq pins s σ H x v vl vu lo hi sl Q I rx hs p1 p2 ⟨a,xs,e,h,λp hp=>q p _ (qbi hp)⟩
inductive quk  (x y:V) (H:Hp) (Q:VK):Prop
 | mk:∀ l b xs zs,x=.ref l->y=.ref b->H l=some (.lst xs)->H b=some (.lst zs)->xs.length+zs.length<=sizeLine->(∀ p H',New H H' p (.lst (xs ++ zs))->Q (.ref p) H')->quk x y H Q
def qBc:R2:=λx y H Q=>quk x y H Q
theorem qj0:OpR X (binaryOp .Add) qBc:=op_cat.imp λ_ _ _ _ ⟨l,b,xs,zs,e1,e2,h1,h2,z,q⟩=>⟨l,b,xs,zs,e1,e2,h1,h2,z,λp hp=>q p _ (qbi hp)⟩
inductive rAppendNS  (x:V) (vs:List V) (H:Hp) (Q:VK):Prop
 | mk:∀ l xs y,x=.ref l->vs=[y]->H l=some (.lst xs)->xs.length<sizeLine->(∀ H',But l H H'->H' l=some (.lst (xs ++ [y]))->Q .non H')->rAppendNS x vs H Q
def qth:V->List V->Hp->VK->Prop:=λx vs H Q=>rAppendNS x vs H Q
theorem qgp:MtM X "list.append" qth:=mt_append.imp λ_ _ _ _ ⟨l,xs,y,e1,e2,h,z,q⟩=>⟨l,xs,y,e1,e2,h,z,q _ qdp qbh⟩
end
section
variable {X:Cx} {k:Nat} {C:Addr} {ps:List Str} {sp:Sp} {dvs:List V} {ds:List Value} {x f:Str} {p pos pos':Pos} {e o value:Expr} {es:List Expr} {ta tv:TE} {t:TA}
def qyt (C:Addr) (sp:Sp) (dvs:List V) (E:XK) (t:TA):TE:=λσ H Q=>t σ H λvs H1=>∀ x dx H',Same H1 H'->H1 x=none->H' x=some (.ins C dx [])->sp (.ref x :: (vs ++ dvs)) H' (λv H2=>v=.non/\Q (.ref x) H2) E
theorem qng (D:qAh X.prog X.w X.K X.mg X.base C k x ps ds sp) (hr:Room (k+1) X.A) (hg:Gl X x) (hd:Vals dvs ds) (ha:PA X (e :: es) t) (hdb:(x == ("__debug__" : Str))=false:=by decide)
  (he:starEach (e :: es) X.env=(false,eval e X.env) :: starEach es X.env:=by rfl) (hpl:(backTo pos (starEach es X.env)).any (·.1)=false:=by rfl):PE X (.Call (.Name x p) (e :: es) [] pos) (qyt C sp dvs E0 t):=by
 obtain ⟨f,fd,F,hm,M,hb⟩:=D;intro pins s σ H Q I h;refine Cp (qe4 I hg hm ?_ hdb);refine Cr (h₀:=X.base) I.ok.mod.kin M.kp (thn (ha pos pins s σ H _ I h) λus s1 ⟨vs,H1,I1,r,q⟩=>⟨I1.kIn,?_⟩) he hpl;refine qs3 M F hr hb hd qqm I1 r λy dx h1 h2 h3=>q y dx _ ?_ h1 qbh
 exact (qjz h2).trans (qjz (by rw[qa1 h3.symm];exact h1))
def qBd (K:Frag) (ta tv:TE) (f:Str):TS:=λD σ H=>tv σ H λy H1=>ta σ H1 λx H2=>∃ a C dx fs,x=.ref a/\H2 a=some (.ins C dx fs)/\Cls K C/\NoAttr K C f/\fs.length<1000 /\
 ∀ H',But a H2 H'->H' a=some (.ins C dx (qf8 f y fs))->D.nx σ H'
theorem qcr (ha:PE X o ta) (hv:PE X value tv) (hs:swapsWith value (some (.Attribute o f pos')) pos.line X.env=pure false):PS X (.Assign [.Attribute o f pos'] value pos) (qBd X.K ta tv f):=by
 intro pins s σ H D I h;refine DS (thn (hv pins s σ H _ I h) λu s1 ⟨y,H1,I1,ry,q⟩=>thn (ha pins s1 σ H1 _ I1 q) λov s2 hq__=>?_) hs;obtain ⟨x,H2,I2,rx,a,C,dx,fs,ex,ea,c,n,l,q2⟩:=hq__;subst ex;obtain rfl:ov=Value.ref a:=rx;exact qor I2 ea c n l ry λs3 I3=>⟨σ,_,I3,q2 _ qdp qbh⟩
end
theorem qnh {K:Frag} {a b:Addr} {xs ys:List V} {g:TG} {tb:TS} {D:Ends} {σ:St} {H:Hp} (Pv:Nat->St->Hp->Prop) (h0:Pv 0 σ H) (hl:∀ i σ H,Pv i σ H->SqL K H a xs/\SqL K H b ys)
  (hs:∀ i x y σ H p H',xs[i]?=some x->ys[i]?=some y->New H H' p (.tup [x,y])->Pv i σ H->g (.ref p) σ H' λσ2 H2=>tb { D with nx:=Pv (i+1),ct:=Pv (i+1),bk:=D.nx } σ2 H2)
  (hd:∀ i σ H,i=min xs.length ys.length->Pv i σ H->D.nx σ H) :
  ∃ W:Nat->Nat->St->Hp->Prop,(∃ m,W 0 m σ H)/\∀ i m σ H,W i m σ H ->
   ((Itz K a b).stop i H/\D.nx σ H)\/((Itz K a b).go i H/\∃ N:St->Hp->Prop,(∀ σ' H',N σ' H'->∃ m',m'<m/\W (i+1) m' σ' H')/\∀ x H',(Itz K a b).yld i H x H'->g x σ H' λσ2 H2=>tb { D with nx:=N,ct:=N,bk:=D.nx } σ2 H2):=
 qvy Pv h0 hl (λi x y σ H p e1 e2 hn p'=>hs i x y σ H p _ e1 e2 (qbi hn) p') hd
theorem qkz {X:Cx} {scope:Scope} {cl:List (Str×Addr)} (clos:closureFor scope X.env=pure cl) (kind:scope.kind=.function) (nocell:∀ y∈scope.names,y.2≠.cell)
  (names:∀ y∈scope.names,y.2=.local->scope.names.lookup y.1=some .local) (sub:∀ p∈cl,X.env.cells.lookup p.1=some p.2)
  (has:((relabel scope X.env).names.all λy=>(y.2 != .cell && y.2 != .free) || (cl.lookup y.1).isSome)=true):qyp X scope cl:=by
 refine ⟨clos,kind,nocell,names,λx c e=>?_,λx h=>?_⟩
 ·have:∀ l:List (Str×Addr),l.lookup x=some c->(x,c)∈l:=λl=>by
   induction l with
   | nil=>intro z;simp at z
   | cons p r ih =>
    intro z;obtain ⟨y,d⟩:=p;rw[CJ] at z
    by_cases q:(x == y)=true
    ·rw[q] at z
     have e1:x=y:=by simpa using q
     have e2:d=c:=AH z;subst e1 e2;exact Ap
    ·have q':(x == y)=false:=by simpa using q
     rw[q'] at z;exact An _ (ih z)
  exact sub (x,c) (this cl e)
 ·have:∀ (l:List (Str×NameKind)) (k:NameKind),l.lookup x=some k->(x,k)∈l:=λl k=>by
   induction l with
   | nil=>intro z;simp at z
   | cons p r ih =>
    intro z;obtain ⟨y,d⟩:=p;rw[CJ] at z
    by_cases q:(x == y)=true
    ·rw[q] at z
     have e1:x=y:=by simpa using q
     have e2:d=k:=AH z;subst e1 e2;exact Ap
    ·have q':(x == y)=false:=by simpa using q
     rw[q'] at z;exact An _ (ih z)
  rw[Dj] at has
  cases e:cl.lookup x with
  | some c=>exact ⟨c,rfl⟩
  | none =>
   rcases h with h|h
   ·have:=has _ (this _ _ h)
    rw[e] at this
    simp at this
   ·have:=has _ (this _ _ h)
    rw[e] at this
    simp at this
open PySem PySem.Spec PyProof.Rows
section
variable {X:Cx}
theorem qni (hc:X.calm=true):CallR X (.builtin "sum") (λxs H Q=>∃ (p:Addr) (ns:List Int),xs=[.ref p]/\SqL X.K H p (ns.map V.int)/\Q (.int ns.sum) H):=by
 intro pins s σ H xs us Q I r h;obtain ⟨p,ns,rfl,hq,q⟩:=h;obtain ⟨u,rfl,ru⟩:=vals1 r
 cases (show u=Value.ref p from ru)
 obtain ⟨its,rv,pl,hz⟩:=I.list hq;have hi:IntsAre its ns:=L2.intsAre_of rv;have hn:=hi.numsOf;obtain ⟨ys,e⟩:=hi.allInts.items;have hl:=pl.isList;rw[e] at hl;refine sum_intListG (I.ok.hd hc) hl λh' tk t' hk=>⟨.int ns.sum,H,I.kept hk,⟨t',?_⟩,q⟩
 have e3:its=(intItems ys).toList:=by rw[<- e]
 rw[e3,Ey] at hn;rw[preSum_eq,Bv (by simp),hn]
end
open PySem PySem.Spec PyProof.Rows
def FlT (h:Heap) (e T:Addr) (cls:Value) (dd:Option Addr) (fl:Value):Prop:=
 ∃ oe vs oT ts,h.get? e=some oe/\oe.cls=cls/\oe.dict=dd/\oe.data=.fields vs/\vs[1]?=some (.ref T)/\T≠e/\h.get? T=some oT/\oT.data=.fields ts/\ts[3]?=some fl
def Fl0 (h:Heap) (e:Addr) (cls:Value) (dd:Option Addr):Prop:=
 ∃ oe vs,h.get? e=some oe/\oe.cls=cls/\oe.dict=dd/\oe.data=.fields vs/\vs[1]?=some .none
def FpX (X:Cx) (H:Hp) (b:Addr):Prop:=
 H b=none/\b≠X.env.locals/\b ∉ X.fs/\X.s₀.heap.get? b=none/\(∀ x c,X.env.cells.lookup x=some c->c≠b)/\∀ p∈X.pn,p.1≠b
def Fly (X:Cx) (H:Hp) (h:Heap) (e:Addr) (cls:Value) (dd:Option Addr):Prop:=
 FpX X H e/\(Fl0 h e cls dd\/∃ T fl,FpX X H T/\FlT h e T cls dd fl)
abbrev XW:=Value->Option Addr->St->Hp->Prop
def XE (X:Cx) (W:XW) (ev:Value) (s:Shared):Prop:=
 ∃ e cls dd σ H,ev=.ref e/\Inv X [] σ H s/\Fly X H s.heap e cls dd/\W cls dd σ H
def qj1 (X:Cx):Prop:=X.stack=X.env :: X.outer/\X.env.frame=some X.env.locals/\X.ex=[]
section
variable {X:Cx} {σ:St} {H:Hp} {s:Shared} {h':Heap} {M:Model} {A:Around} {E:Value->Shared->Prop} {e T:Addr} {cls fl:Value} {dd:Option Addr}
theorem ObjOk.there {P:Program} {w:World} {H:Hp} {h:Heap} {a:Addr} {o:HO} (x:ObjOk P w H h a o):∃ u,h.get? a=some u:=by
 induction o with
 | lst xs=>obtain ⟨_,_,_,_,e⟩:=x;exact ⟨_,e⟩
 | tup xs=>obtain ⟨_,_,_,u,e,_⟩:=x;exact ⟨u,e⟩
 | dK kvs=>obtain ⟨_,_,_,_,u,_,_,e,_⟩:=x;exact ⟨u,e⟩
 | dT kvs=>obtain ⟨_,_,_,_,u,_,_,e,_⟩:=x;exact ⟨u,e⟩
 | set S n=>obtain ⟨u,_,_,_,e,_⟩:=x;exact ⟨u,e⟩
 | ins C dx fs=>obtain ⟨_,_,_,e,_⟩:=x;exact ⟨_,e⟩
 | own y=>exact x
 | xd fs=>obtain ⟨_,⟨u,_,_,e,_⟩,_⟩:=x;exact ⟨u,e⟩
 | met f y=>exact ⟨_,x⟩
 | rng lo hi=>obtain ⟨_,_,_,e⟩:=x;exact ⟨_,e⟩
 | frz u v _=>obtain ⟨e,_⟩:=x;exact ⟨_,e⟩
 | tbl ps=>exact ⟨_,x⟩
 | ext φ=>exact x.2.1
theorem Inv.fpX {H':Hp} {pins:List (Addr×Obj)} (hs:qj1 X) (I:Inv X pins σ H s) (hb:s.heap.get? e=none) (hn:H' e=none):FpX X H' e:=by
 refine ⟨hn,λz=>?_,λz=>?_,?_,λx c q z=>?_,λp hp z=>?_⟩
 ·obtain ⟨m,⟨o,_,_,ho,_⟩,_⟩:=I.loc
  rw[<- z,hb] at ho;cases ho
 ·obtain ⟨_,o,ho,_⟩:=I.funs.mem z
  rw[hb] at ho;cases ho
 ·cases q:X.s₀.heap.get? e with
  | none=>rfl
  | some o =>
   obtain ⟨o',ho'⟩:=I.base.there e o q (by rw[hs.2.2];simp);rw[hb] at ho';cases ho'
 ·obtain ⟨v,o,ho,_⟩:=I.cell x c q
  rw[z,hb] at ho;cases ho
 ·have:=(I.pin p (Cd _ hp)).1
  rw[z,hb] at this;cases this
theorem Inv.noneOf {pins:List (Addr×Obj)} (I:Inv X pins σ H s) (hb:s.heap.get? e=none):H e=none:=by
 cases q:H e with
 | none=>rfl
 | some o =>
  obtain ⟨u,hu⟩:=(I.hok e o q).there;rw[hb] at hu;cases hu
theorem Inv.turnR {H':Hp} {t':Nat} {ch:List Addr} (I:Inv X [] σ H s) (hf:∀ b∈ch,FpX X H b) (k:∀ b u,b ∉ ch->b ∉ frs X.stack->s.heap.get? b=some u->h'.get? b=some u)
  (k2:∀ b u,b ∉ ch->s.heap.get? b=some u->∃ sl,h'.get? b=some { u with slots:=sl }) (hH:∀ b,b ∉ ch->H' b=H b) (hok:HOk X.prog X.w H' h'):Inv X [] σ H' { s with heap:=h',toks:=t' }:=by
 have sup:∀ b o,H b=some o->H' b=some o:=λb o q=>by rw[hH b (λz=>by rw[(hf b z).1] at q;cases q)];exact q
 have nosl:∀ b,b≠X.env.locals->b ∉ X.fs->b ∉ frs X.stack:=λb h1 h2 z=>(Ai.mp (I.stkSub b z)).elim h1 h2
 have neL:∀ b o,X.s₀.heap.get? b=some o->b≠X.env.locals:=λb o q=>Av (AJ (Al q) I.ok.above)
 have neC:∀ b o,X.s₀.heap.get? b=some o->b ∉ ch:=λb o q hb=>by rw[(hf b hb).2.2.2.1] at q;cases q
 have cellK:∀ x c,X.env.cells.lookup x=some c->∀ v,s.heap.IsCell c v->h'.IsCell c v:=λx c q v ⟨o,ho,hd⟩=>by
  obtain ⟨sl,q'⟩:=k2 c o (λz=>(hf c z).2.2.2.2.1 x c q rfl) ho;exact ⟨_,q',hd⟩
 refine ⟨I.ok,I.os,I.bare,⟨λb o q n hb hx=>?_,λb o q n hb hx=>?_,λb o q n hx=>?_,λb o q hx=>?_,λb xs q=>sup _ _ (I.base.tups b xs q),λb o xs q=>sup _ _ (I.base.frzs b o xs q),λb ps q=>?_⟩,?_,λx c q=>?_,?_,λx c q=>?_,λp hp=>?_,hok,I.len⟩
 ·exact k b o (neC b o q) (nosl b (neL b o q) hb) (I.base.keep b o q n hb hx)
 ·obtain ⟨sl,e1⟩:=I.base.slot b o q n hb hx
  obtain ⟨sl',e2⟩:=k2 b _ (neC b o q) e1;exact ⟨sl',e2⟩
 ·rw[hH b (neC b o q)]
  exact I.base.free b o q n hx
 ·obtain ⟨o',e1⟩:=I.base.there b o q hx
  obtain ⟨sl',e2⟩:=k2 b _ (neC b o q) e1;exact ⟨_,e2⟩
 ·obtain ⟨m1,e1⟩:=I.base.tbls b ps q
  exact ⟨m1,sup _ _ e1⟩
 ·obtain ⟨m,hn,hl⟩:=I.loc
  refine ⟨m,?_,λi x v e1 e2 e3=>?_⟩
  ·obtain ⟨o,es,ep,ho,r⟩:=hn
   obtain ⟨sl,q⟩:=k2 _ o (λz=>(hf _ z).2.1 rfl) ho;exact ⟨_,es,ep,q,r⟩
  ·obtain ⟨u,r,l⟩:=hl i x v e1 e2 e3
   refine ⟨u,r,?_⟩
   rcases l with l|⟨kk,c,q,z⟩
   ·exact .inl l
   ·exact .inr ⟨kk,c,q,cellK x c q _ z⟩
 ·obtain ⟨v,z⟩:=I.cell x c q
  exact ⟨v,cellK x c q v z⟩
 ·rw[hH _ (λz=>(hf _ z).2.1 rfl)];exact I.free
 ·rw[hH _ (λz=>(hf _ z).2.2.2.2.1 x c q rfl)];exact I.freeC x c q
 ·obtain ⟨q,n,ne,nf,d⟩:=I.pin p hp
  have hp':p∈X.pn:=by
   have:p∈X.pn ++ ([]:List (Addr×Obj)):=hp
   simpa using this
  have nch:p.1 ∉ ch:=λz=>(hf p.1 z).2.2.2.2.2 p hp' rfl
  exact ⟨k p.1 p.2 nch (nosl p.1 ne nf) q,by rw[hH _ nch];exact n,ne,nf,d⟩
theorem Inv.turnS {t':Nat} {ch:List Addr} (I:Inv X [] σ H s) (hf:∀ b∈ch,FpX X H b) (k:∀ b u,b ∉ ch->b ∉ frs X.stack->s.heap.get? b=some u->h'.get? b=some u)
  (k2:∀ b u,b ∉ ch->s.heap.get? b=some u->∃ sl,h'.get? b=some { u with slots:=sl }):Inv X [] σ H { s with heap:=h',toks:=t' }:=by
 have nch:∀ b u,H b=some u->b ∉ ch:=λb u e z=>by rw[(hf b z).1] at e;cases e
 have nst:∀ b u,H b=some u->b ∉ frs X.stack:=λb u e z=>by rw[I.stkFree b z] at e;cases e
 refine I.turnR hf k k2 (λ_ _=>rfl) λb u e=>?_
 refine (I.hok b u e).stay (λc v hc q=>?_) (λ_ q=>q) λ_ _ q=>q
 rcases hc with z|z
 ·subst z;exact k _ v (nch _ u e) (nst _ u e) q
 ·exact k c v (nch c _ z) (nst c _ z) q
theorem Inv.track {o:HO} (I:Inv X [] σ H s) (hf:FpX X H e) (ok:ObjOk X.prog X.w (upd H e o) s.heap e o):Inv X [] σ (upd H e o) s:=by
 refine I.turnR (h':=s.heap) (t':=s.toks) (ch:=[e]) (λb hb=>by rw[Aj.mp hb];exact hf) (λ_ _ _ _ q=>q) (λb u _ q=>⟨u.slots,q⟩) (λb hb=>qa1 (λz=>hb (by simp[z]))) λb u q=>?_
 by_cases hb:b=e
 ·subst hb;rw[qbh] at q;cases q;exact ok
 ·rw[qa1 hb] at q
  exact (I.hok b u q).stay (λ_ _ _ q=>q) (λc q=>by rw[qa1 (qag q hf.1)];exact q) λc xs q=>by rw[qa1 (qag q hf.1)];exact q
theorem qnj {oe:Obj} {vs:Array Value} {head:Value} {hadNext:Bool} {Q:Unit->Shared->Prop} (hs:qj1 X) (hA:A.frames=some X.stack) (I:Inv X [] σ H s) (hp:FpX X H e)
  (he:s.heap.get? e=some oe) (hc:oe.cls=cls) (hdd:oe.dict=dd) (hd:oe.data=.fields vs) (hsz:1<vs.size)
  (k:∀ h' T,Inv X [] σ H { s with heap:=h' }->FpX X H T->FlT h' e T cls dd (rawInt X.env.locals)->Q () { s with heap:=h' }) :
  wpAny M A (do let a <- frameOf X.env;let pl <- entryPlaceOf X.env.locals hadNext;let b <- EntryCells.newEntry head a .none (rawInt X.env.locals) .none pl;setField (.ref e) 1 b) Q E s:=by
 have hs0:=hs;obtain ⟨hst,hfr,_⟩:=hs;have hl:=I.stack;rw[hst] at hl hA;have hene:e ∉ frs X.stack:=λhm=>by
  rcases Ai.mp (I.stkSub e hm) with z|z
  ·exact hp.2.1 z
  ·exact hp.2.2.1 z
 refine Aa (wpAny_frameOf_fun hA hl hfr λh₁ hs₁=>?_);refine Aa (wpAny_entryPlaceOf λpl hpl=>?_);unfold EntryCells.newEntry newFields;refine Aa (Bu ?_ (hpl.sizeOk5 _ _ _ _ _));have S:(X.env :: X.outer).filterMap (·.frame)=frs X.stack:=by rw[hst];rfl
 rw[S] at hs₁;have he₁:h₁.get? e=some oe:=(hs₁.2.1 e hene).trans he
 generalize hob:({ cls:=.type "traceback",dict:=none,data:=.fields ([head,.ref X.env.locals,.none,rawInt X.env.locals,.none] ++ (if pl.isEmpty then List.replicate 6 Value.none else pl)).toArray }:Obj)=ob
 have hobd:ob.data=.fields ([head,.ref X.env.locals,.none,rawInt X.env.locals,.none] ++ (if pl.isEmpty then List.replicate 6 Value.none else pl)).toArray:=by rw[<- hob]
 have he₂:=Ab (h:=h₁) ob he₁;refine CA he₂ hd hsz ?_;have hTe:h₁.objs.size≠e:=CD (Al he₁);have hd₃:=Cs hd (·.setIfInBounds 1 (Value.ref h₁.objs.size));have he₃:=BI (Obj.mapFields (·.setIfInBounds 1 (Value.ref h₁.objs.size))) he₂ (Dy hd₃);have hT₃:=(Bm (h₁.push ob) (Obj.mapFields (·.setIfInBounds 1 (Value.ref h₁.objs.size))) (AX hTe)).trans (Ao h₁ (by rw[<- hob];rfl));have kk:∀ b o,b≠e->h₁.get? b=some o->((h₁.push ob).update e (Obj.mapFields (·.setIfInBounds 1 (Value.ref h₁.objs.size)))).get? b=some o:=λb o hb q=>by
  rw[Bm _ _ (AX hb)];exact Ab _ q
 refine k _ h₁.objs.size (I.turnS (t':=s.toks) (ch:=[e]) (λb hb=>by rw[Aj.mp hb];exact hp) (λb u hb hn q=>?_) λb u hb q=>?_) (I.fpX hs0 (by rw[hs₁.1];exact DB (Ag _)) (I.hok.fresh (by rw[hs₁.1];exact Ag _))) ?_
 ·exact kk b u (λz=>hb (by simp[z])) ((hs₁.2.1 b hn).trans q)
 ·obtain ⟨sl,q'⟩:=hs₁.2.2 b u q
  exact ⟨sl,kk b _ (λz=>hb (by simp[z])) q'⟩
 ·refine ⟨_,_,_,_,he₃,(Obj.cls_mapFields _ _).trans hc,?_,hd₃,by simp[hsz],hTe,hT₃,hobd,by simp⟩
  rw[<- hdd];obtain ⟨c9,d9,dt9,sl9⟩:=oe
  cases dt9<;>rfl
theorem qqq {Q:Unit->Shared->Prop} (hs:qj1 X) (hA:A.frames=some X.stack) (I:Inv X [] σ H s) (F:Fly X H s.heap e cls dd)
  (k:∀ h' T,Inv X [] σ H { s with heap:=h' }->FpX X H T->FlT h' e T cls dd (rawInt X.env.locals)->Q () { s with heap:=h' }):wpAny M A (noteFrame (.ref e) X.env) Q E s:=by
 obtain ⟨hp,F⟩:=F;unfold noteFrame;simp only[hs.2.1]
 rcases F with ⟨oe,vs,he,hc,hdd,hd,h1⟩|⟨T,fl,hT,oe,vs,oT,ts,he,hc,hdd,hd,h1,hTe,hoT,hdT,h3⟩
 ·refine Aa (Bp he hd h1 ?_)
  rw[Ah (by decide)];exact qnj hs hA I hp he hc hdd hd (Ce.mp h1).1 k
 ·refine Aa (Bp he hd h1 ?_)
  rw[Ak (show (Value.ref T != Value.none)=true from by simp)];refine Aa (Bp hoT hdT h3 ?_)
  by_cases hfl:(fl == rawInt X.env.locals)=true
  ·rw[Ak hfl]
   have:=k s.heap T I hT ⟨oe,vs,oT,ts,he,hc,hdd,hd,h1,hTe,hoT,hdT,by rw[h3,B5.mp hfl]⟩;exact Ae this
  ·rw[Ah hfl]
   refine Aa (CA hoT hdT (Ce.mp h3).1 ?_);have other:∀ b,b≠T->(s.heap.update T (Obj.mapFields (·.setIfInBounds 3 Value.none))).get? b=s.heap.get? b:=λb hb=>Bm _ _ (AX hb)
   have I2:Inv X [] σ H { s with heap:=s.heap.update T (Obj.mapFields (·.setIfInBounds 3 Value.none)) }:=
    I.turnS (t':=s.toks) (ch:=[T]) (λb hb=>by rw[Aj.mp hb];exact hT) (λb u hb _ q=>(other b (λz=>hb (by simp[z]))).trans q) λb u hb q=>⟨u.slots,(other b (λz=>hb (by simp[z]))).trans q⟩
   exact qnj hs hA I2 hp ((other e (AX hTe)).trans he) hc hdd hd (Ce.mp h1).1 k
theorem qhz {Q:Unit->Shared->Prop} (fr:Option Addr) (I:Inv X [] σ H s) (hT:FpX X H T) (F:FlT s.heap e T cls dd fl)
  (k:∀ h',Inv X [] σ H { s with heap:=h' }->FlT h' e T cls dd (fr.elim .none λf=>rawInt f)->Q () { s with heap:=h' }):wpAny M A (setFlight (.ref e) fr) Q E s:=by
 obtain ⟨oe,vs,oT,ts,he,hc,hdd,hd,h1,hTe,hoT,hdT,h3⟩:=F;have hsz3:3<ts.size:=(Ce.mp h3).1;have other:∀ b,b≠T->(s.heap.update T (Obj.mapFields (·.setIfInBounds 3 (fr.elim .none λf=>rawInt f)))).get? b=s.heap.get? b:=λb hb=>Bm _ _ (AX hb)
 unfold setFlight;refine Aa (Bp he hd h1 ?_);rw[Ak (show (Value.ref T != Value.none)=true from by simp)];refine CA hoT hdT hsz3 (k _ ?_ ?_)
 ·exact I.turnS (t':=s.toks) (ch:=[T]) (λb hb=>by rw[Aj.mp hb];exact hT) (λb u hb _ q=>(other b (λz=>hb (by simp[z]))).trans q) λb u hb q=>⟨u.slots,(other b (λz=>hb (by simp[z]))).trans q⟩
 ·exact ⟨oe,vs,_,_,(other e (AX hTe)).trans he,hc,hdd,hd,h1,hTe,BI _ hoT (Dy (Cs hdT _)),Cs hdT _,by simp[hsz3]⟩
end
def CX1 (P:Program) (w:World):CXT:=λouter H s E ev s'=>∃ e T cls dd H',ev=.ref e/\s'.os=s.os/\AllBare s'.gens/\Un (frs outer) [] H H' s.heap s'.heap/\HOk P w H' s'.heap/\FlT s'.heap e T cls dd .none/\H' e=none/\H' T=none /\
 s.heap.get? e=none/\s.heap.get? T=none/\E cls dd H'
theorem CX1.xe {X:Cx} {W:XW} {pins:List (Addr×Obj)} {σ:St} {H:Hp} {s s':Shared} {ev:Value} (hs:qj1 X) (I:Inv X pins σ H s) (h:CX1 X.prog X.w X.stack H s (λc d H'=>W c d σ H') ev s'):XE X W ev s':=by
 obtain ⟨e,T,cls,dd,H',rfl,os,bare,un,hok,F,he,hT,le,lT,q⟩:=h;have J:Inv X [] σ H s:=I.pins_of (by simp);have J':Inv X [] σ H' s':=by
  obtain ⟨hh,g,d,t,os'⟩:=s';obtain rfl:os'=s.os:=os;exact J.call (h':=hh) (g':=g) (d':=d) (t':=t) (ch:=[]) un hok bare (λb z=>absurd z (by simp))
 exact ⟨e,cls,dd,σ,H',rfl,J',⟨J.fpX hs le he,.inr ⟨T,_,J.fpX hs lT hT,F⟩⟩,q⟩
theorem qul {P:Program} {w:World} {K:Frag} {mg:Str->Option Value} {base:Heap} {N:List Str} {qual:Str} {scope:Scope} {f:Addr} {cd:Value} {A:Around} {outer:List Env} {s:Shared} {H:Hp} {E:XK} {ev:Value} {s':Shared}
  (h:XE (qou (CX1 P w) P w K mg base N qual scope f cd A outer s H E) (λc d _ H'=>E c d H') ev s'):(qou (CX1 P w) P w K mg base N qual scope f cd A outer s H E).xe ev s':=by
 obtain ⟨e,cls,dd,σ,H',rfl,I,F,q⟩:=h
 show wpAny _ _ (leaving _ _) _ _ _
 unfold leaving;refine Aa (qqq (X:=qou (CX1 P w) P w K mg base N qual scope f cd A outer s H E) ⟨rfl,rfl,rfl⟩ I.ok.frames I F λh1 T I1 hT F1=>?_);refine qhz none I1 hT F1 λh2 I2 F2=>?_
 exact ⟨e,T,cls,dd,H',rfl,I2.os,I2.bare,I2.base,I2.hok,F2,F.1.1,hT.1,F.1.2.2.2.1,hT.2.2.2.1,q⟩
def qmj (X:Cx) (W:XW):Prop:=qj1 X/\∀ ev s,XE X W ev s->X.xe ev s
theorem XE.unwish {X:Cx} {E:Value->Shared->Prop} {W:XW} {ev:Value} {s:Shared} (h:XE (X.wish E) W ev s):XE X W ev s:=
 let ⟨e,cls,dd,σ,H,q,I,F,w⟩:=h;⟨e,cls,dd,σ,H,q,I.unwish,F,w⟩
theorem qbk {X:Cx} {W:XW} (hs:qj1 X):qmj (X.wish (XE X W)) W:=⟨hs,λ_ _ h=>h.unwish⟩
theorem PSs.imp {X:Cx} {E:Value->Shared->Prop} {st:List Stmt} {t:TS} (hE:∀ ev s,E ev s->X.xe ev s) (h:PSs (X.wish E) st t):PSs X st t:=λpins s σ H D I hw =>
 AY (h pins s σ H D (I.wish _) hw) (λ_ _ q=>q.unwish) λe s z=>hE e s z
section
variable {P:Program} {w:World} {K:Frag} {mg:Str->Option Value} {base:Heap}
abbrev bx (P:Program) (w:World) (K:Frag) (mg:Str->Option Value) (base:Heap) (N:List Str) (qual:Str) (scope:Scope) (f:Addr) (cd:Value) (A:Around) (outer:List Env) (s:Shared) (H:Hp) (E:XK):Cx:=
 (qou (CX1 P w) P w K mg base N qual scope f cd A outer s H E).wish (XE (qou (CX1 P w) P w K mg base N qual scope f cd A outer s H E) (λc d _ H'=>E c d H'))
theorem Fun.okX {x qual:Str} {st:Stmt} {f:Addr} {fd:FuncData} {N ps:List Str} {k:Nat} {sp:Sp} (F:Fun K x qual st f fd) (S:qak N ps (qab st)) (len:∀ vs H Q E,sp vs H Q E->vs.length=ps.length)
  (hbody:∀ (cdv:Value) (A:Around) (outer:List Env) (s:Shared) (H:Hp) (vs:List V) (Q:VK) (E:XK),Room k (A.deeper (envOfC qual (qab st) s.heap.objs.size f cdv))->sp vs H Q E ->
   ∃ t,PSs (bx P w K mg base N qual (qab st) f cdv A outer s H E) (qaj st) t/\t { nx:=λ_ H'=>Q .non H',rt:=Q } (start N vs) H):qhd P w K mg base (CX1 P w) (k+1) f fd ps sp:=by
 obtain ⟨oc,od,kV,doc,pm,an,cdv,ct,osl,rfl,lk,hcd⟩:=F.ex;refine qs4 lk hcd S len λA outer s H vs Q E hr hsp=>?_
 obtain ⟨t,h,q⟩:=hbody cdv A outer s H vs Q E hr hsp;exact ⟨t,h.imp λ_ _ z=>qul z,q⟩
theorem FunD.okX {x qual:Str} {st:Stmt} {dV:Value} {f:Addr} {fd:FuncData} {N ps:List Str} {k:Nat} {sp:Sp} (F:FunD K x qual st dV f fd) (S:qak N ps (qab st)) (len:∀ vs H Q E,sp vs H Q E->vs.length=ps.length)
  (hbody:∀ (cdv:Value) (A:Around) (outer:List Env) (s:Shared) (H:Hp) (vs:List V) (Q:VK) (E:XK),Room k (A.deeper (envOfC qual (qab st) s.heap.objs.size f cdv))->sp vs H Q E ->
   ∃ t,PSs (bx P w K mg base N qual (qab st) f cdv A outer s H E) (qaj st) t/\t { nx:=λ_ H'=>Q .non H',rt:=Q } (start N vs) H):qhd P w K mg base (CX1 P w) (k+1) f fd ps sp:=by
 obtain ⟨oc,od,kV,doc,pm,an,cdv,ct,osl,rfl,lk,hcd⟩:=F.ex;refine qs4 lk hcd S len λA outer s H vs Q E hr hsp=>?_
 obtain ⟨t,h,q⟩:=hbody cdv A outer s H vs Q E hr hsp;exact ⟨t,h.imp λ_ _ z=>qul z,q⟩
end
def qBe (P:Program) (w:World) (K:Frag) (mg:Str->Option Value) (base:Heap) (k:Nat) (x:Str) (ps:List Str) (ds:List Value) (sp:Sp):Prop:=
 ∃ f fd,qhd P w K mg base (CX1 P w) k f fd ps sp/\mg x=some (.ref f)/\keepIn K (.ref f)=true/\Binds K fd ps ds
def qv3 (P:Program) (w:World) (K:Frag) (mg:Str->Option Value) (base:Heap) (C:Addr) (k:Nat) (m:Str) (ps:List Str) (ds:List Value) (sp:Sp):Prop:=
 ∃ f fd,qhd P w K mg base (CX1 P w) k f fd ps sp/\qgz K C m f/\Binds K fd ps ds
def qyu (sp:Sp) (dvs:List V) (W:XW) (t:TA):TE:=λσ H Q=>t σ H λvs H1=>sp (vs ++ dvs) H1 Q λc d H'=>W c d σ H'
def qyv (C:Addr) (m:Str) (sp:Sp) (dvs:List V) (W:XW) (ta:TE) (t:TA):TE:=λσ H Q=>ta σ H λx H1=>quf C m x H1 (t σ H1 λvs H2=>sp (x :: (vs ++ dvs)) H2 Q λc d H'=>W c d σ H')
section
variable {X:Cx} {W:XW} {k:Nat} {f C:Addr} {fd:FuncData} {ps:List Str} {sp:Sp} {dvs:List V} {ds:List Value} {x m:Str} {p pos apos:Pos} {e o:Expr} {es:List Expr} {ta:TE} {t:TA}
theorem qqr {pins:List (Addr×Obj)} {σ:St} {H:Hp} {s:Shared} {Q:VK} {us:List Value} {vs:List V} (hW:qmj X W) (F:qhd X.prog X.w X.K X.mg X.base (CX1 X.prog X.w) k f fd ps sp) (hr:Room k X.A) (hb:Binds X.K fd ps ds) (hd:Vals dvs ds)
  (I:Inv X pins σ H s) (r:Vals vs us) (h:sp (vs ++ dvs) H Q λc d H'=>W c d σ H'):wpAny (model X.prog X.w) X.A (call (.ref f) us) (EP X pins σ Q) X.xe s:=by
 have r2:Vals (vs ++ dvs) (us ++ ds):=r.append hd;have hl:(us ++ ds).length=ps.length:=by rw[<- r2.length];exact F.len _ _ _ _ h
 refine BY (BF (F.run X.A X.stack s H ⟨us,[]⟩ (us ++ ds) (vs ++ dvs) Q _ hr I.env0 (hb s us I.kIn hl) r2 h) λr s' hq=>?_)
 cases r with
 | error e=>exact hW.2 _ _ (CX1.xe hW.1 I hq)
 | ok fl =>
  cases fl with
  | ret u=>exact I.after hq
  | next=>exact False.elim hq
  | brk=>exact False.elim hq
  | cont=>exact False.elim hq
theorem qg1 (hW:qmj X W) (D:qBe X.prog X.w X.K X.mg X.base k x ps ds sp) (hr:Room k X.A) (hg:Gl X x) (hd:Vals dvs ds) (ha:PA X (e :: es) t) (hdb:(x == ("__debug__" : Str))=false:=by decide)
  (he:starEach (e :: es) X.env=(false,eval e X.env) :: starEach es X.env:=by rfl) (hpl:(backTo pos (starEach es X.env)).any (·.1)=false:=by rfl):PE X (.Call (.Name x p) (e :: es) [] pos) (qyu sp dvs W t):=by
 obtain ⟨f,fd,F,hm,hk,hb⟩:=D;intro pins s σ H Q I h;refine Cp (qe4 I hg hm ?_ hdb);refine Cr (h₀:=X.base) I.ok.mod.kin hk (thn (ha pos pins s σ H _ I h) λus s1 ⟨vs,H1,I1,r,q⟩=>⟨I1.kIn,?_⟩) he hpl;exact qqr hW F hr hb hd I1 r q
theorem qc4 {pl:Sem Bool} (hW:qmj X W) (he:PE X o ta) (c:Cls X.K C) (D:qv3 X.prog X.w X.K X.mg X.base C k m ps ds sp) (hr:Room k X.A) (hd:Vals dvs ds) (ha:PA X (e :: es) t)
  (hst:starEach (e :: es) X.env=(false,eval e X.env) :: starEach es X.env:=by rfl) (hpl:(backTo pos (starEach es X.env)).any (·.1)=false:=by rfl)
  (ht:eval (.Call (.Attribute o m apos) (e :: es) [] pos) X.env=(do
   let ov <- eval o X.env
   standAt apos.atName
   let (f,first) <- holding [ov] (getMethod ov m pl)
   callWith pos f first (backTo pos (starEach (e :: es) X.env)) (backToKw pos (keywordEach [] X.env))):=by rfl) :
  PE X (.Call (.Attribute o m apos) (e :: es) [] pos) (qyv C m sp dvs W ta t):=by
 obtain ⟨f,fd,F,hm,hb⟩:=D;intro pins s σ H Q I h;refine BS (pl:=pl) (thn (he pins s σ H _ I h) λu s1 hq__=>?_) ht;obtain ⟨x,H1,I1,rx,a,dx,fs,ex,ea,l,q⟩:=hq__;subst ex;obtain rfl:u=Value.ref a:=rx;refine qfr I1 ea c hm l ?_;refine Cr (first:=[.ref a]) (h₀:=X.base) I.ok.mod.kin hm.kp (thn (ha pos pins s1 σ H1 _ I1 q) λus s2 ⟨vs,H2,I2,r,q2⟩=>⟨I2.kIn,?_⟩) hst hpl;exact qqr (us:=.ref a :: us) (vs:=.ref a :: vs) hW F hr hb hd I2 (.cons rfl r) q2
end
def veMro:List Value:=[.type "ValueError",.type "Exception",.type "BaseException",.type "object"]
def qxs (K:Frag) (C:Addr):Prop:=PySem.W.excIn K C veMro "ValueError.__new__" = true
theorem qyw {K:Frag} {h:Heap} {C:Addr} {bmB:List Value} {newId:String} (X:K.In h) (q:PySem.W.excIn K C bmB newId=true) :
  ∃ bm N nm qn bs hd sn sub ab col dd k0 k1 k2 k3 k5 mN,h.get? C=some (excClassObj nm qn C N bs bm hd sn sub ab col dd k0 k1 k2 k3 k5 newId)/\h.Ns N mN/\mN "__init__" = none/\OwnTail h bmB bm:=by
 unfold PySem.W.excIn at q
 split at q
 case h_2=>cases q
 case h_1 dd cd sl ho =>
  split at q
  case h_2=>cases q
  case h_1 C' bm k0 k1 k2 k3 n k5 hm hsl =>
   simp only[CK,B5,Bool.not_eq_true'] at q;obtain ⟨⟨⟨⟨⟨q1,q2⟩,q3⟩,q4⟩,q5⟩,q6⟩:=q;subst q1 q2
   cases cd with
   | mk nm bs mro ns qn hd sn sub ab col del =>
    cases sl with
    | mk l =>
     have hm':mro=_:=hm;have hl':l=_:=hsl;have q3':del=false:=q3;subst hm' hl' q3';exact ⟨bm,ns,nm,qn,bs,hd,sn,sub,ab,col,dd,k0,k1,k2,k3,k5,_,X _ _ ho,.of_isNs (PySem.W.isNs_of_in X q5),PySem.W.nsMap_none_of_in X q5 q6,PySem.W.tail_of_in X q4⟩
def qyx (W:XW) (C:Addr) (t:TA):TS:=λ_ σ H=>t σ H λvs H1=>vs.length<=sizeLine/\W (.ref C) none σ H1
theorem qyy {h h':Heap} {N:Addr} {m:Str->Option Value} (k:∀ b o,h.get? b=some o->h'.get? b=some o) (n:h.Ns N m):h'.Ns N m:=
 let ⟨o,es,ep,e,r⟩:=n;⟨o,es,ep,k _ _ e,r⟩
theorem qft {X:Cx} {W:XW} {C:Addr} {x:Str} {np cpos pos:Pos} {e:Expr} {es:List Expr} {t:TA} (hW:qmj X W) (hc:X.calm=true) (hE:qxs X.K C) (hg:Gl X x) (hm:X.mg x=some (.ref C)) (ha:PA X (e :: es) t)
  (hdb:(x == ("__debug__" : Str))=false:=by decide) (he:starEach (e :: es) X.env=(false,eval e X.env) :: starEach es X.env:=by rfl) (hpl:(backTo cpos (starEach es X.env)).any (·.1)=false:=by rfl) :
  PS X (.Raise (some (.Call (.Name x np) (e :: es) [] cpos)) none pos) (qyx W C t):=by
 intro pins s σ H D I h;obtain ⟨bm,N,nm,qn,bs,hd,sn,sub,ab,col,dd,k0,k1,k2,k3,k5,mN,hC,hN,hni,hT⟩:=qyw I.ok.mod.kin hE;refine wpAny_Raise_call_subU Cb (by decide +kernel) Cb (C:=C) (nm:=nm) (q:=qn) (N:=N) (bs:=bs) (hdct:=hd) (sn:=sn) (sub:=sub) (ab:=ab) (col:=col) (dd:=dd) (k0:=k0) (k1:=k1) (k2:=k2) (k3:=k3) (k5:=k5) (hT.hasType (by decide +kernel)) (I.ok.hd hc) (by rw[he];show (false || (backTo cpos (starEach es X.env)).any (·.1))=false;rw[hpl];rfl) hni (qe4 I hg hm ⟨rfl,?_⟩ hdb);have h2:=ha cpos pins s σ H _ I h;rw[he] at h2 ⊢;refine CP (thn h2 λus s1 ⟨vs,H1,I1,r,q1,q2⟩=>⟨rfl,by rw[<- r.length];exact q1,I1.bk _ _ hC,qyy I1.bk hN,hT.keeps I1.bk,λh' ex hx=>hW.2 _ _ ?_⟩);obtain ⟨tt,hex,_,_⟩:=hx.there;have J:Inv X [] σ H1 s1:=I1.pins_of (by simp);exact ⟨ex,.ref C,none,σ,H1,rfl,J.kept (t':=s1.toks) hx.keeps,⟨J.fpX hW.1 hx.new (J.noneOf hx.new),.inl ⟨_,_,hex,rfl,rfl,rfl,rfl⟩⟩,q2⟩
open PySem PySem.Spec PyProof.Rows
def qxt (a:Addr) (cls:Value) (dd:Option Addr):HO:=.ext λh=>∃ oe vs,h.get? a=some oe/\oe.cls=cls/\oe.dict=dd/\oe.data=.fields vs
abbrev hnd (X:Cx) (e:Addr):Cx:={ X with A:=X.A.mark (some (.ref e)),calm:=false,xe:=λ_ _=>False }
abbrev pnd (X:Cx) (pn:List (Addr×Obj)):Cx:={ X with pn:=pn }
section
variable {X:Cx} {pins:List (Addr×Obj)} {σ:St} {H:Hp} {s:Shared} {e:Addr}
theorem Inv.hnd (I:Inv X pins σ H s) (e:Addr):Inv (hnd X e) pins σ H s:=
 ⟨⟨I.ok.mod,I.ok.kind,I.ok.glob,I.ok.blt,I.ok.above,I.ok.inj,I.ok.has,I.ok.cab,(λz=>nomatch z),I.ok.frames,I.ok.stk,I.ok.exf,I.ok.bs,I.ok.bsz,I.ok.noex,I.ok.exfs,I.ok.funs,I.ok.frf⟩,I.os,I.bare,I.base,I.loc,I.cell,I.free,I.freeC,I.pin,I.hok,I.len⟩
theorem Inv.unhnd (hd:X.calm=true->X.A.handled=none) (I:Inv (L2.hnd X e) pins σ H s):Inv X pins σ H s:=
 ⟨⟨I.ok.mod,I.ok.kind,I.ok.glob,I.ok.blt,I.ok.above,I.ok.inj,I.ok.has,I.ok.cab,hd,I.ok.frames,I.ok.stk,I.ok.exf,I.ok.bs,I.ok.bsz,I.ok.noex,I.ok.exfs,I.ok.funs,I.ok.frf⟩,I.os,I.bare,I.base,I.loc,I.cell,I.free,I.freeC,I.pin,I.hok,I.len⟩
theorem Inv.pnd (I:Inv X pins σ H s):Inv (pnd X (X.pn ++ pins)) [] σ H s:=
 ⟨⟨I.ok.mod,I.ok.kind,I.ok.glob,I.ok.blt,I.ok.above,I.ok.inj,I.ok.has,I.ok.cab,I.ok.hd,I.ok.frames,I.ok.stk,I.ok.exf,I.ok.bs,I.ok.bsz,I.ok.noex,I.ok.exfs,I.ok.funs,I.ok.frf⟩,I.os,I.bare,I.base,I.loc,I.cell,I.free,I.freeC,λp hp=>I.pin p (by
  have:p∈(X.pn ++ pins) ++ ([]:List (Addr×Obj)):=hp
  simpa using this),I.hok,I.len⟩
theorem Inv.unpnd (I:Inv (L2.pnd X (X.pn ++ pins)) [] σ H s):Inv X pins σ H s:=
 ⟨⟨I.ok.mod,I.ok.kind,I.ok.glob,I.ok.blt,I.ok.above,I.ok.inj,I.ok.has,I.ok.cab,I.ok.hd,I.ok.frames,I.ok.stk,I.ok.exf,I.ok.bs,I.ok.bsz,I.ok.noex,I.ok.exfs,I.ok.funs,I.ok.frf⟩,I.os,I.bare,I.base,I.loc,I.cell,I.free,I.freeC,λp hp=>I.pin p (by
  show p∈(X.pn ++ pins) ++ ([]:List (Addr×Obj))
  simpa using hp),I.hok,I.len⟩
theorem SP.unpnd {E:Value->Shared->Prop} {D:Ends} {f:Flow} {s':Shared} (h:SP ((L2.pnd X (X.pn ++ pins)).wish E) [] D f s'):SP X pins D f s':=by
 cases f with
 | next=>obtain ⟨σ',H',I,q⟩:=h;exact ⟨σ',H',I.unwish.unpnd,q⟩
 | brk=>obtain ⟨σ',H',I,q⟩:=h;exact ⟨σ',H',I.unwish.unpnd,q⟩
 | cont=>obtain ⟨σ',H',I,q⟩:=h;exact ⟨σ',H',I.unwish.unpnd,q⟩
 | ret u=>obtain ⟨v,σ',H',I,r,q⟩:=h;exact ⟨v,σ',H',I.unwish.unpnd,r,q⟩
theorem Inv.gone {h':Heap} {t':Nat} {n:Str} {j:Nat} {m:Str->Option Value} {v:Option Value} (I:Inv X pins σ H s) (hN:X.N.Nodup) (hj:X.N[j]?=some n) (hm:s.heap.Ns X.env.locals m)
  (hl:∀ (i:Nat) (x:Str) (v:V),X.N[i]?=some x->σ[i]?=some (some v)->Vis X.env.scope x->∃ u,RelV v u/\Look X.env s.heap m x u)
  (hn:h'.Ns X.env.locals (λx=>if x=n then v else m x)) (hs:Heap.SameBut X.env.locals s.heap h'):Inv X pins (σ.set j none) H { s with heap:=h',toks:=t' }:=by
 have ne0:∀ b o,X.s₀.heap.get? b=some o->b≠X.env.locals:=λb o q=>Av (AJ (Al q) I.ok.above)
 refine ⟨I.ok,I.os,I.bare,⟨λb o q n hb hx=>?_,λb o q n hb hx=>?_,I.base.free,λb o q hx=>?_,I.base.tups,I.base.frzs,I.base.tbls⟩,⟨_,hn,λi y v' e1 e2 e3=>?_⟩,λy c q=>?_,I.free,I.freeC,λp hp=>?_,λb u q=>?_,by simpa using I.len⟩
 ·exact (hs.2 b (ne0 b o q)).trans (I.base.keep b o q n hb hx)
 ·obtain ⟨sl,e1⟩:=I.base.slot b o q n hb hx
  exact ⟨sl,(hs.2 b (ne0 b o q)).trans e1⟩
 ·obtain ⟨o',e1⟩:=I.base.there b o q hx
  exact ⟨o',(hs.2 b (ne0 b o q)).trans e1⟩
 ·by_cases hij:i=j
  ·subst hij
   have hi:i<σ.length:=by rw[I.len];exact (Am.mp hj).1
   rw[Dr hi] at e2;cases e2
  ·rw[BK (AX hij)] at e2
   obtain ⟨u',r',q⟩:=hl i y v' e1 e2 e3;refine ⟨u',r',?_⟩
   rcases q with ⟨k,q⟩|⟨k,c,q,z⟩
   ·have ny:y≠n:=λz=>hij (qjo hN e1 (z ▸ hj))
    exact .inl ⟨k,by simp[ny,q]⟩
   ·exact .inr ⟨k,c,q,z.sameBut hs (I.cne y c q)⟩
 ·obtain ⟨w',z⟩:=I.cell y c q
  exact ⟨w',z.sameBut hs (I.cne y c q)⟩
 ·obtain ⟨q,n,ne,nf,d⟩:=I.pin p hp
  exact ⟨(hs.2 p.1 ne).trans q,n,ne,nf,d⟩
 ·refine (I.hok b u q).stay (λc w' hc q'=>(hs.2 c ?_).trans q') (λ_ q=>q) λ_ _ q=>q
  rintro rfl
  rcases hc with z|z
  ·rw[<- z,I.free] at q;cases q
  ·rw[I.free] at z;cases z
theorem qv4 {M:Model} {A:Around} {E:Value->Shared->Prop} {n:Str} {j:Nat} {pos:Pos} {Q:Unit->Shared->Prop} (I:Inv X pins σ H s) (hN:X.N.Nodup) (hj:X.N[j]?=some n) (hl:X.env.kindOf n=some .local)
  (k:∀ s',Inv X pins (σ.set j none) H s'->Q () s'):wpAny M A (do bindName X.env n .none;unbindBehindTheSuite X.env n pos) Q E s:=by
 obtain ⟨m,hm,hl'⟩:=id I.loc;exact wpAny_nameGoes_keeps hl hm (by rw[I.ok.kind];rfl) λh' v hn hs=>k _ (I.gone hN hj hm hl' hn hs)
end
def qCs (K:Frag) (C:Addr) (cls:Value):Prop:=∃ D,cls=.ref D/\PySem.W.ktsIn K D "BaseException" = true/\PySem.W.mroIn K D (.ref C)=some true
theorem qyz {K:Frag} {h:Heap} {C:Addr} {base:Value} {r:Bool} {nm q:Str} {N:Addr} {bs bm:List Value} {hdct:Bool} {sn:List Str} {sub:List Value} {ab:Bool} {col:Option Bool} {dd:Option Addr} {k0 k1 k2 k3 k5:Option Value} {newId:String}
  (X:K.In h) (e:PySem.W.mroIn K C base=some r) (hC:h.get? C=some (excClassObj nm q C N bs bm hdct sn sub ab col dd k0 k1 k2 k3 k5 newId)):(Value.ref C :: bm).contains base=r:=by
 unfold PySem.W.mroIn PySem.W.clsIn at e
 split at e
 case h_1 ho =>
  have:=X _ _ ho;rw[hC] at this;cases this
  simpa using e
 case h_2=>simp at e
theorem qi0 {M:Model} {A:Around} {E:Value->Shared->Prop} {K:Frag} {s:Shared} {e C D:Addr} {oe:Obj} {Q:Bool->Shared->Prop} (X:K.In s.heap) (he:s.heap.get? e=some oe) (hcls:oe.cls=.ref D)
  (hC:PySem.W.ktsIn K C "BaseException" = true) (hD:PySem.W.ktsIn K D "BaseException" = true) (hs:PySem.W.mroIn K D (.ref C)=some true) (hq:Q true s):wpAny M A (excMatches (.ref e) (.ref C)) Q E s:=by
 obtain ⟨nm,qn,N,bs,bm,hdct,sn,sub,ab,col,dd,k0,k1,k2,k3,k5,newId,gC,hb,_⟩:=Du X hC;obtain ⟨nm',qn',N',bs',bm',hdct',sn',sub',ab',col',dd',k0',k1',k2',k3',k5',newId',gD,hb',_⟩:=Du X hD;have hcB:(Value.ref C :: bm).contains (.type "BaseException")=true:=by rw[List.contains_cons,hb,EW]
 have hcC:=qyz X hs gD;have f:=tc_notTuple;obtain ⟨hp,g,d,tk,os⟩:=s;unfold excMatches
 repeat (first|(with_reducible refine BC he ?_;rw[hcls])|with_reducible refine BC gC ?_|(with_reducible refine CU gC ?_;rw[hcB])|(with_reducible refine CU gD ?_;rw[hcC])|wp_step)
 exact hq
def qBf (D:Ends) (j:Nat):Ends:={ nx:=λσ H=>D.nx (σ.set j none) H,rt:=D.rt,bk:=λσ H=>D.bk (σ.set j none) H,ct:=λσ H=>D.ct (σ.set j none) H }
def hW (K:Frag) (C:Addr) (th:TS) (j:Nat) (D:Ends):XW:=λcls dd σ H=>qCs K C cls/\∀ e H',New H H' e (qxt e cls dd)->th (qBf D j) (σ.set j (some (.ref e))) H'
def qCt (K:Frag) (C:Addr) (tb:XW->TS) (th:TS) (j:Nat):TS:=λD σ H=>tb (hW K C th j D) D σ H
theorem qy0 {X:Cx} {C:Addr} {x n:Str} {j:Nat} {np hpos pos:Pos} {body suite:List Stmt} {b₀:Stmt} {tb:XW->TS} {th:TS} (hs:qj1 X) (hN:X.N.Nodup) (hj:X.N[j]?=some n) (hl:X.env.kindOf n=some .local) (hx:X.env.scope.names.lookup n=some .local)
  (hg:Gl X x) (hm:X.mg x=some (.ref C)) (hC:PySem.W.ktsIn X.K C "BaseException" = true)
  (hb:∀ pn W,PSs ((pnd X pn).wish (XE (pnd X pn) W)) body (tb W)) (hh:∀ pn e,PSs (hnd (pnd X pn) e) (b₀ :: suite) th) (hdb:(x == ("__debug__" : Str))=false:=by decide) :
  PS X (.Try body [.ExceptHandler (some (.Name x np)) (some n) (b₀ :: suite) hpos] [] [] pos) (qCt X.K C tb th j):=by
 intro pins s σ H D I h;have I0:Inv (pnd X (X.pn ++ pins)) [] σ H s:=I.pnd;refine wpAny_Try_except (AY (hb (X.pn ++ pins) _ [] s σ H D (I0.wish _) h) (λf s1 q=>?_) λev s1 q=>?_)
 ·cases f with
  | next=>exact Ds q.unpnd
  | brk=>exact q.unpnd
  | cont=>exact q.unpnd
  | ret u=>exact q.unpnd
 ·obtain ⟨e,cls,dd,σ1,H1,rfl,I1,F1,⟨DC,rfl,hD,hDC⟩,w1⟩:=q
  have hs':qj1 (pnd X (X.pn ++ pins)):=hs;refine qqq (X:=pnd X (X.pn ++ pins)) hs' I1.ok.frames I1 F1 λh2 T I2 hT F2=>?_
  refine qhz none I2 hT F2 λh3 I3 F3=>?_
  obtain ⟨oe,vs,oT,ts,he,hc,_⟩:=id F3;refine wpAny_handleBy_cons (codeAny_handlers_test (qe4 (X:=hnd (pnd X (X.pn ++ pins)) e) (I3.hnd e) hg hm ?_ hdb)) (by intro q;cases q);refine qi0 (s:={ s1 with heap:=h3 }) I3.kIn he hc hC hD hDC (codeAny_handlers_suite_as ?_);refine qhz none I3 hT F3 λh4 I4 F4=>?_
  obtain ⟨oe,vs,oT,ts,he,hc,hdd,hd,_⟩:=id F4;have I5:Inv (pnd X (X.pn ++ pins)) [] σ1 (upd H1 e (qxt e (.ref DC) dd)) { s1 with heap:=h4 }:=I4.track F1.1 ⟨⟨oe,vs,he,hc,hdd,hd⟩,⟨oe,he⟩,λg1 g2 ⟨o',v',q1,q2,q3,q4⟩ k=>⟨o',v',k _ q1,q2,q3,q4⟩⟩;refine qjp (X:=pnd X (X.pn ++ pins)) (v:=.ref e) I5 hN hj (.inl hx) rfl (λs6 I6=>?_) (.inr hx);have w2:=w1 e _ (qbi F1.1.1);refine AY (hh (X.pn ++ pins) e [] s6 _ _ _ (I6.hnd e) w2) (λf s7 q=>?_) λ_ _ z=>False.elim z
  have go:∀ {σ7 H7},Inv (hnd (pnd X (X.pn ++ pins)) e) [] σ7 H7 s7->∀ {Q:Unit->Shared->Prop},(∀ s',Inv X pins (σ7.set j none) H7 s'->Q () s')->wpAny (model X.prog X.w) X.A (do bindName X.env n .none;unbindBehindTheSuite X.env n hpos) Q X.xe s7:=fun {σ7 H7} J {Q} k =>
   qv4 (Inv.unpnd (Inv.unhnd I.ok.hd J)) hN hj hl k
  cases f with
  | next=>obtain ⟨σ7,H7,J,q7⟩:=q;exact go J λs' J'=>⟨_,_,J',q7⟩
  | brk=>obtain ⟨σ7,H7,J,q7⟩:=q;exact go J λs' J'=>⟨_,_,J',q7⟩
  | cont=>obtain ⟨σ7,H7,J,q7⟩:=q;exact go J λs' J'=>⟨_,_,J',q7⟩
  | ret u=>obtain ⟨v,σ7,H7,J,r,q7⟩:=q;exact go J λs' J'=>⟨v,_,_,J',r,q7⟩
open PySem PySem.Spec PyProof.Rows
structure qpt (K:Frag) (D:Addr):Prop where
 ga:PySem.W.findIn K (.ref D) "__getattribute__" = some (some (.builtin "BaseException.__getattribute__"))
 gt:PySem.W.findIn K (.ref D) "__getattr__" = some none
 cl:PySem.W.findIn K (.ref D) "__class__" = some (some (.builtin "object.__class__"))
 ob:PySem.W.mroIn K D (.type "object")=some true
 be:PySem.W.mroIn K D (.type "BaseException")=some true
 kt:PySem.W.ktsIn K D "BaseException" = true
section
variable {prog:Program} {w:World} {A:Around} {E:Value->Shared->Prop} {s:Shared} {K:Frag} {a D:Addr} {oe:Obj} {vs:Array Value}
theorem qqs {Q:Option Value->Shared->Prop} (X:K.In s.heap) (F:qpt K D) (he:s.heap.get? a=some oe) (hc:oe.cls=.ref D) (hd:oe.data=.fields vs) (hdx:∀ dx,oe.dict=some dx->∃ o,s.heap.get? dx=some o) (h:Q (some (.ref D)) { s with toks:=s.toks+1 }) :
  wpAny (model prog w) A (getAttr? (.ref a) "__class__") Q E s:=by
 obtain ⟨hh,g,d,t,os⟩:=s;have L0:PySem.W.Looks (model prog w) hh (typeOf (.ref a)) (.ref D):=hc ▸ (PySem.W.Looks.ld he).andThen .now;have L1:=BA (M:=model prog w) X F.ga;have L2':=BA (M:=model prog w) X F.gt;have L3:=BA (M:=model prog w) X F.cl;have L4:=DG (M:=model prog w) X F.be;have f3:=(Cv).ga.bind (.ref a);have hx2:(Value.builtin "BaseException.__getattribute__" == Value.builtin "object.__getattribute__")=false:=by decide +kernel
 unfold getAttr? getAttrBy? getAttrBy;refine Aa (wpAny_mkText (Aa (Ck (Bg (Aa (L0.at (Aa (L1.at ?_))))))));have hsel:(onTheHeap (Value.ref D) && Value.builtin "BaseException.__getattribute__" == Value.builtin "object.__getattribute__")=false:=by rw[hx2];rfl
 dsimp only;rw[Ah (by rw[hsel];decide)];unfold getAttrByItsOwn;have hx0:(false && onTheHeap (Value.builtin "BaseException.__getattribute__"))=false:=rfl;unfold hookBefore;refine Aa ?_;rw[Ak (show onTheHeap (Value.ref D)=true from rfl)];refine L2'.at ?_;refine Aa (Ck (Bg ?_));unfold callGetattribute;rw[Ah (by decide)];unfold boundAndCalled;rw[f3];refine Aa (Ae ?_);refine BY (BZ Cv.ga.plain E5 ?_);have hk:builtinKind "BaseException.__getattribute__" = some .slot:=by decide +kernel
 have hsplit:splitId "BaseException.__getattribute__" = some ("BaseException", "__getattribute__"):=by decide +kernel
 have ha:=Fi (.ref a) (.str "__class__" t);have hT5:(⟨hh,g,d,t,os⟩:Shared).TypeIs (.builtin "object.__class__") "getset_descriptor" :=Eg;have f5:=Eg;have f6:=PySem.F.slot_gs_get.lookup;have f7:=PySem.F.slot_gs_set.lookup;simp only[checkBuiltinCall,hk,hsplit];refine Aa ?_;unfold isInstance
 repeat (first|with_reducible refine L0.at ?_|with_reducible refine L4.at ?_|wp_step)
 refine L3.at ?_
 repeat (any_goals (first|assumption|with_reducible refine L0.at ?_|wp_step))
 obtain ⟨od,I⟩:∃ od,PySem.W.InstAt hh a oe D od:=by
  cases q:oe.dict with
  | none=>exact ⟨none,he,hc,by unfold PySem.W.notCls;rw[hd],by rw[q];trivial⟩
  | some dx =>
   obtain ⟨o,ho⟩:=hdx dx q;exact ⟨some o,he,hc,by unfold PySem.W.notCls;rw[hd],by rw[q];exact ho⟩
 refine PySem.W.class_get (s:=⟨hh,g,d,t+1,os⟩) (od:=od) X I F.ob ?_;refine Ae ?_;exact PySem.W.handed_on rfl (Ae h)
def qCu (a D:Addr) (h:Heap):Prop:=∃ oe vs,h.get? a=some oe/\oe.cls=.ref D/\oe.data=.fields vs/\∀ dx,oe.dict=some dx->∃ o,h.get? dx=some o
theorem qti (F:qpt K D):PySem.W.KitX K (.ref a) (.ref D) (qCu a D) where
 ty:=λM h _ ⟨oe,vs,he,hc,_⟩=>hc ▸ (PySem.W.Looks.ld he).andThen .now
 it:=λ_ _ X _=>by
  obtain ⟨nm,qn,N,bs,bm,hdct,sn,sub,ab,col,dd,k0,k1,k2,k3,k5,newId,gD,_⟩:=Du X F.kt;intro A' Q' E' s' k q;unfold isType loadHead;exact Aa (wpAny_loadPart (k _ _ gD) (Ae q))
 ne:=λh tp dd its n sl X htp=>by
  obtain ⟨nm,qn,N,bs,bm,hdct,sn,sub,ab,col,dd,k0,k1,k2,k3,k5,newId,gD,_⟩:=Du X F.kt;refine Bool.eq_false_iff.mpr λq=>?_
  have e:D=tp:=Value.ref.inj (B5.mp q);subst e;rw[gD] at htp;have h2:=congrArg (Option.map Obj.cls) htp
  simp at h2
 ca:=λX ⟨oe,vs,he,hc,hd,hdx⟩ k=>qqs X F he hc hd hdx k
end
def qBg:V->Value
 | .ref C=>.ref C
 | .ty T=>.type T
 | _=>.none
theorem qk0 {X:Cx} {K:Frag} (hK:X.K=K):CallR X (.builtin "isinstance") (λxs H Q=>∃ a D dd c b,xs=[.ref a,c]/\H a=some (qxt a (.ref D) dd)/\qpt K D/\(∀ dx,dd=some dx->∃ fs,H dx=some (.xd fs))/\PySem.W.kitOne K (.ref D) (qBg c)=some b/\Q (.bl b) H):=by
 subst hK;intro pins s σ H xs us Q I r h;obtain ⟨a,D,dd,c,b,rfl,ha,F,hdd,e,q⟩:=h;obtain ⟨u,w',rfl,ru,rw'⟩:=vals2 r
 cases (show u=Value.ref a from ru)
 have hw:w'=qBg c:=by
  cases c<;>first|exact rw'|(exfalso;simp[PySem.W.kitOne,PySem.W.kitCls,qBg] at e)
 subst hw;obtain ⟨⟨oe,vs,he,hc,hdc,hd⟩,_⟩:=(show ObjOk X.prog X.w H s.heap a (qxt a (.ref D) dd) from I.hok a _ ha);refine Bl (qti F) I.kIn ⟨oe,vs,he,hc,hd,λdx z=>?_⟩ e (λz=>nomatch z) λtk=>⟨.bl b,H,I.tok tk,rfl,q⟩
 obtain ⟨fs,hx⟩:=hdd dx (hdc.symm.trans z);exact (I.hok dx _ hx).there
open PySem PySem.Spec PyProof.Rows
section
variable {X:Cx}
theorem qqt (hc:X.calm=true):CallR X (.builtin "max") (λxs H Q=>∃ (p:Addr) (ns:List Int),xs=[.ref p]/\SqL X.K H p (ns.map V.int)/\0<ns.length/\∀ m,m∈ns->(∀ a∈ns,a<=m)->Q (.int m) H):=by
 intro pins s σ H xs us Q I r h;obtain ⟨p,ns,rfl,hq,hne,q⟩:=h;obtain ⟨u,rfl,ru⟩:=vals1 r
 cases (show u=Value.ref p from ru)
 obtain ⟨its,rv,pl,hz⟩:=I.list hq;have hi:IntsAre its ns:=L2.intsAre_of rv;obtain ⟨ys,e⟩:=hi.allInts.items;have hns:ns=ys.toList.map (·.1):=by rw[<- hi.numsOf,<- Ey,<- e]
 have hl:=pl.isList;rw[e] at hl;have hsz:0<ys.size:=by have h3:=hne;rw[hns,Ad,A0] at h3;exact h3
 refine max_intList (I.ok.hd hc) hl hsz λv h' tk hv hk=>?_
 obtain ⟨t,rfl⟩:=intItems_at hv;obtain ⟨h1,h2⟩:=argBest_gt (numAt ys) (ys.size-1);refine ⟨.int _,H,I.kept hk,⟨t,rfl⟩,q _ ?_ λa ha=>?_⟩
 ·rw[hns,Fe];exact getD_mem (by rw[Ad,A0];omega)
 ·rw[hns] at ha
  obtain ⟨j,hj,rfl⟩:=mem_getD ha;rw[Ad,A0] at hj;rw[<- Fe];exact h2 j (by omega)
theorem qqu (hc:X.calm=true):CallR X (.builtin "min") (λxs H Q=>∃ (p:Addr) (ns:List Int),xs=[.ref p]/\SqL X.K H p (ns.map V.int)/\0<ns.length/\∀ m,m∈ns->(∀ a∈ns,m<=a)->Q (.int m) H):=by
 intro pins s σ H xs us Q I r h;obtain ⟨p,ns,rfl,hq,hne,q⟩:=h;obtain ⟨u,rfl,ru⟩:=vals1 r
 cases (show u=Value.ref p from ru)
 obtain ⟨its,rv,pl,hz⟩:=I.list hq;have hi:IntsAre its ns:=L2.intsAre_of rv;obtain ⟨ys,e⟩:=hi.allInts.items;have hns:ns=ys.toList.map (·.1):=by rw[<- hi.numsOf,<- Ey,<- e]
 have hl:=pl.isList;rw[e] at hl;have hsz:0<ys.size:=by have h3:=hne;rw[hns,Ad,A0] at h3;exact h3
 refine min_intList (I.ok.hd hc) hl hsz λv h' tk hv hk=>?_
 obtain ⟨t,rfl⟩:=intItems_at hv;obtain ⟨h1,h2⟩:=argBest_lt (numAt ys) (ys.size-1);refine ⟨.int _,H,I.kept hk,⟨t,rfl⟩,q _ ?_ λa ha=>?_⟩
 ·rw[hns,Fe];exact getD_mem (by rw[Ad,A0];omega)
 ·rw[hns] at ha
  obtain ⟨j,hj,rfl⟩:=mem_getD ha;rw[Ad,A0] at hj;rw[<- Fe];exact h2 j (by omega)
end
theorem qqv:bootBuiltins "max" = some (.builtin "max"):=by decide +kernel
theorem qum:bootBuiltins "min" = some (.builtin "min"):=by decide +kernel
theorem qe8:bootBuiltins "sorted" = some (.builtin "sorted"):=by decide +kernel
theorem qa5 {X:Cx} (hs:qj1 X):qmj X.nox (λ_ _ _ _=>False):=⟨hs,λ_ _ ⟨_,_,_,_,_,_,_,_,w⟩=>w⟩
open PySem PySem.Spec PyProof.Rows
theorem qv5 {H H':Hp} {a:Addr} {o:HO} (s:Same H H') (h:H a=some o):H' a=some o:=s _ _ h
theorem qy1 {H H':Hp} {p a:Addr} {u o:HO} (n:New H H' p u) (h:H a=some o):H' a=some o:=n.same _ _ h
theorem qv6 {H H1 H2:Hp} {p:Addr} {u:HO} (a:Same H H1) (n:New H1 H2 p u):Same H H2:=a.trans n.same
open PySem PySem.Spec PyProof.Rows
section
variable {X:Cx} {e e1:Expr} {te t1:TE} {pos p2:Pos}
end
open PySem PySem.Spec PyProof.Rows
section
variable {prog:Program} {w:World} {A:Around} {R:Result->Shared->Prop} {I:Addr} {fp wr:List Addr} {n:Nat} {P:Nat->Value->Prop} {St:Nat->Heap->Prop} {d:Value}
end
section
variable {X:Cx}
theorem qh0:∀ {bs:List Bool} {us:List Value},Vals (bs.map V.bl) us->us=bs.map Value.bool
 | [],_,.nil=>rfl
 | b :: r,_,.cons h t=>by cases (show _=Value.bool b from h);rw[qh0 t];rfl
theorem qnk (hc:X.calm=true):CallR X (.builtin "all") (λxs H Q=>∃ (p:Addr) (bs:List Bool),xs=[.ref p]/\SqL X.K H p (bs.map V.bl)/\Q (.bl (bs.all id)) H):=by
 intro pins s σ H xs us Q I r h;obtain ⟨p,bs,rfl,hq,q⟩:=h;obtain ⟨u,rfl,ru⟩:=vals1 r
 cases (show u=Value.ref p from ru)
 obtain ⟨its,rv,pl,hz⟩:=I.list hq;have hl:=pl.isList;have hlt:p<s.heap.objs.size:=by obtain ⟨_,e,_⟩:=hl;exact Al e
 have hb:=qh0 rv;refine call_all_walk (BW hl ?_);refine ⟨s.heap.objs.size,[s.heap.objs.size,p],[s.heap.objs.size],its.toArray.size,_,_,λi=>(bs[i]?).getD true,rfl,Walks.list (A:=X.A.in1) (I.ok.hd hc) _ p (Av hlt) its.toArray,
  ⟨⟨_,Ao _ rfl,rfl,rfl⟩,hl.push _⟩,λi v s' Q' E' hP hQ=>?_,λh' tk hk=>?_⟩
 ·rw[hb] at hP
  have hP':(bs.map Value.bool)[i]?=some v:=by simpa using hP
  rw[Ay] at hP';obtain ⟨b,e1,e2⟩:=AL.mp hP';subst e2;simp only[e1,Dg] at hQ;exact BV hQ
 ·have e:((List.range its.toArray.size).all λi=>(bs[i]?).getD true)=bs.all id:=by
   rw[Ax,hb,Ad];exact PyProof.Rows.LSm.range_all bs
  rw[e];refine ⟨.bl _,H,I.kept λb o q=>hk b o (λhm=>?_) (Ab _ q),rfl,q⟩;rw[Aj.mp hm] at q;exact absurd (Al q) (Bt _)
end
theorem qun:bootBuiltins "all" = some (.builtin "all"):=by decide +kernel
open PySem PyProof PyProof.Rows
section
variable {X:Cx}
end
open PySem PySem.Spec PyProof.Rows
section
variable {prog:Program} {w:World} {A:Around} {E:Value->Shared->Prop} {s:Shared}
end
section
variable {X:Cx}
end
open PySem PySem.Spec PyProof.Rows
def RawD (h:Heap) (d:Addr) (es:Array DictEntry) (ep:Nat):Prop:=∃ o,h.get? d=some o/\o.ExactDict/\o.data=.dict es ep
theorem RawD.ty {s:Shared} {d:Addr} {es:Array DictEntry} {ep:Nat} (x:RawD s.heap d es ep):s.TypeIs (.ref d) "dict" :=let ⟨o,a,b,_⟩:=x;⟨o,a,b.1⟩
theorem RawD.up {h h':Heap} {d:Addr} {es:Array DictEntry} {ep:Nat} (x:RawD h d es ep) (e:∀ o,h.get? d=some o->h'.get? d=some o):RawD h' d es ep:=let ⟨o,a,b⟩:=x;⟨o,e o a,b⟩
theorem RawD.lt {h:Heap} {d:Addr} {es:Array DictEntry} {ep:Nat} (x:RawD h d es ep):d<h.objs.size:=let ⟨_,a,_⟩:=x;Al a
section
variable {prog:Program} {w:World} {A:Around} {E:Value->Shared->Prop} {s:Shared}
abbrev qBh (d:Addr) (n ep:Nat):Obj:={ cls:=.type "dict_keyiterator",data:=.fields #[.ref d,.int 0 0,.int n 0,.int ep 0] }
theorem qv7 {d:Addr} {es:Array DictEntry} {ep:Nat} {Q:Value->Shared->Prop} (lo:(d == sysModules)=false) (hm:RawD s.heap d es ep) (hQ:Q (.ref s.heap.objs.size) { s with heap:=s.heap.push (qBh d es.size ep) }) :
  wpAny (model prog w) A (pyIter (.ref d)) Q E s:=by
 have ty:=hm.ty;obtain ⟨o,h1,h2,h3⟩:=hm;refine wpAny_pyIter_slot ty F.slot_dict_iter (BG F.slot_dict_iter ty F.entry_dict_iter ?_ (F.args_dict_iter_1 _));unfold Builtin.«dict.__iter__»;refine Aa ?_;unfold Builtin.Dict.dictSlotNone;refine Aa (wpAny_notOrdered_dict ty ?_)
 show wpAny _ _ (pure (Value.ref d)) _ _ s;refine Ae ?_
 show wpAny _ _ (Builtin.Dict.showsAll d >>= _) _ _ s;unfold Builtin.Dict.showsAll
 rw[Ah (by rw[lo];exact AA)];refine Aa (Ae ?_);refine Aa (DN h1 h3 ?_);refine Aa (D8 h1 h3 ?_);refine Aa (Bu (Ae ⟨_,rfl, "dict_keyiterator",_,⟨_,Ao _ rfl,rfl⟩,BE.lookup,?_⟩));simpa [rawInt] using hQ
theorem qv8 {it d:Addr} {i ep:Nat} {es:Array DictEntry} {Q:Option Value->Shared->Prop} (hJ:s.heap.IsKeyIter it d i es.size ep) (hm:RawD s.heap d es ep) (hx:i<es.size)
  (hQ:∀ h',h'.IsKeyIter it d (i+1) es.size ep->Heap.SameBut it s.heap h'->Q (some es[i].key) { s with heap:=h' }):wpAny (model prog w) A (pyNext (.ref it)) Q E s:=by
 obtain ⟨o,ho,hc,hd⟩:=id hJ;obtain ⟨od,h1,h2,h3⟩:=hm;have ty:=hJ.typeIs;unfold pyNext;refine Aa (Ck (wpAny_callSpecial?_slot (name:=Str.ofString "__next__") ty BE (BG BE ty D7 ?_ (DZ _))));refine Aa (Ae ?_);refine Aa ?_;refine Aa ?_
 first|refine Aa (BP ty (Ae ?_))|refine Aa (Cj ty (Ae ?_))
 refine Aa (wpAny_fieldsOf ho hd ?_);simp only[show Builtin.Dict_items.ownsTuple "dict_keyiterator" = false by decide,Cu,CM]
 show wpAny _ _ (if (Value.ref d == Value.none)=true then _ else _) _ _ s;rw[Ah (show ¬ ((Value.ref d == Value.none)=true) from AA)]
 refine Aa (Ae ?_);refine Aa (DN h1 h3 ?_);rw[Ah (by simp)];refine Aa (Ae ?_);refine Aa (D8 h1 h3 ?_);rw[Ah (by simp)];refine Ae ?_;simp only[show ¬ ((i:Int)<0) from by omega,CM,DR,Bo hx];refine Aa ?_
 first|refine Aa (BP ty (Ae ?_))|refine Aa (Cj ty (Ae ?_))
 refine Aa (EY ty ?_)
 show wpAny _ _ (setField (.ref it) 1 (rawInt ((i:Int)+1)) >>= _) _ _ s;refine Aa (CA ho hd (by simp) ?_)
 have hJ':(s.heap.update it (Obj.mapFields (·.setIfInBounds 1 (rawInt ((i:Int)+1))))).IsKeyIter it d (i+1) es.size ep:=⟨_,BI _ ho (Dy (Cs hd _)),(Obj.cls_mapFields ..).trans hc,by rw[Cs hd];simp[rawInt]⟩;refine Aa (Bg ?_);refine Aa (EY (s:={ s with heap:=s.heap.update it (Obj.mapFields (·.setIfInBounds 1 (rawInt ((i:Int)+1)))) }) hJ'.typeIs ?_)
 show wpAny _ _ (pure es[i].key) _ _ _
 exact Ae (Ae ⟨_,rfl,Ae (hQ _ hJ' (CV ..))⟩)
theorem qy2 {it d:Addr} {ep:Nat} {es:Array DictEntry} {Q:Option Value->Shared->Prop} (hh:A.handled=none) (hJ:s.heap.IsKeyIter it d es.size es.size ep) (hm:RawD s.heap d es ep)
  (hQ:∀ h',Heap.ExtBut it s.heap h'->Q none { s with heap:=h' }):wpAny (model prog w) A (pyNext (.ref it)) Q E s:=by
 obtain ⟨o,ho,hc,hd⟩:=id hJ;obtain ⟨od,h1,h2,h3⟩:=hm;have ty:=hJ.typeIs;unfold pyNext;refine Aa (Ck (wpAny_callSpecial?_slot (name:=Str.ofString "__next__") ty BE (BG BE ty D7 ?_ (DZ _))));refine Aa (Ae ?_);refine Aa ?_;refine Aa ?_
 first|refine Aa (BP ty (Ae ?_))|refine Aa (Cj ty (Ae ?_))
 refine Aa (wpAny_fieldsOf ho hd ?_);simp only[show Builtin.Dict_items.ownsTuple "dict_keyiterator" = false by decide,Cu,CM]
 show wpAny _ _ (if (Value.ref d == Value.none)=true then _ else _) _ _ s;rw[Ah (show ¬ ((Value.ref d == Value.none)=true) from AA)]
 refine Aa (Ae ?_);refine Aa (DN h1 h3 ?_);rw[Ah (by simp)];refine Aa (Ae ?_);refine Aa (D8 h1 h3 ?_);rw[Ah (by simp)];refine Ae ?_;simp only[show ¬ ((es.size:Int)<0) from by omega,CM,DR,Array.getElem?_eq_none (Ag _)];refine Aa ?_
 first|refine Aa (BP ty (Ae ?_))|refine Aa (Cj ty (Ae ?_))
 show wpAny _ _ (setField (.ref it) 0 .none >>= _) _ _ s;refine Aa (CA ho hd (by simp) ?_)
 show wpAny _ _ (newExc (.type "StopIteration") [] >>= _) _ _ _;refine Aa ?_
 simp only[newExc,newTuple];refine Aa (Bu ?_ (by size_fits));refine Aa (m:=firstArgMember _ _) (wpAny_of_eq (a:=Value.none) (by first|rfl|(simp only[firstArgMember];rfl)) ?_);refine Bu ?_ (by size_fits);simp only[raiseNew];refine Aa (wpAny_handled ?_);rw[show A.in1.handled=none from hh];refine Aa (Ae (wpAny_throw ?_));refine Aa (DT (T:= "StopIteration") (b:=true) ⟨_,Ao _ rfl,rfl⟩ isSubtype_stop ?_);exact Ae (hQ _ (((CV ..).extBut.push _).push _))
theorem qtj (hh:A.handled=none) (J d:Addr) (hne:d≠J) (es:Array DictEntry) (ep:Nat) :
  Walks prog w A J [J,d] [J] es.size (λi v=>∃ e,es[i]?=some e/\v=e.key) (λi h=>h.IsKeyIter J d i es.size ep/\RawD h d es ep) where
 sub:=λb hb=>by simp at hb;simp[hb]
 frame:=λ_ _ _ st hk=>⟨st.1.at λo e=>hk J (by simp) o e,st.2.up λo e=>hk d (by simp) o e⟩
 item:=λi s Q E hi st hQ=>by
  refine qv8 st.1 st.2 hi λh' hJ' hs'=>?_
  exact hQ _ h' s.toks ⟨es[i],by simp[hi],rfl⟩ ⟨hJ',st.2.up λo e=>hs'.extBut d o hne e⟩ λb o hb e=>hs'.extBut b o (λh=>hb (by simp[h])) e
 done:=λs Q E st hQ=>qy2 hh st.1 st.2 λh' he'=>hQ h' s.toks λb o hb e=>he' b o (λh=>hb (by simp[h])) e
 self:=λ_ _ _ _ st hQ=>wpAny_pyIter_keyiter st.1 hQ
theorem quo {d:Addr} {es:Array DictEntry} {ep:Nat} (lo:(d == sysModules)=false):PySem.W.KdlSrc prog w "dict" d d es.size (λi v=>∃ e,es[i]?=some e/\v=e.key) (λh=>RawD h d es ep) where
 type:=λ_ hm=>hm.ty
 there:=λ_ hm=>⟨hm.lt,hm.lt⟩
 keep:=λ_ _ hm hk=>hm.up λo e=>hk d (.inl rfl) o e
 notList:=by decide
 notTuple:=by decide
 hint:=λ_ _ _ _ hm hq=>PySem.W.kdl_hint_dict hm.ty hq
 iter:=λ_ _ hh hm=>⟨_,_,(λ_ _ hq=>qv7 lo hm hq),qtj hh _ d (Av hm.lt) es ep,⟨⟨_,Ao _ rfl,rfl,rfl⟩,hm.up λ_ e=>Ab _ e⟩⟩
end
open PySem PySem.Spec PyProof.Rows
section
variable {prog:Program} {w:World} {A:Around} {E:Value->Shared->Prop} {s:Shared}
theorem qo0 {a:Addr} {vs:List Value} {n:Nat} {P:Fin->Shared->Prop} (ho:s.heap.get? a=some (seqObj "list" vs.toArray n)) (h2:vs.length<2)
  (h:P (.done (.ret .none)) { s with heap:=sortedHeap s.heap a vs ((vs.toArray.zip vs.toArray).map (·.2)) }):wpAny (model prog w) A (Builtin.«list.sort» ⟨[.ref a],[]⟩) P E s:=by
 rw[list_sort_plain];have la:a<s.heap.objs.size:=Al ho;refine Aa (listItems_at ho rfl ?_);refine Aa (DK ho rfl ?_);obtain ⟨e1,h1⟩:∃ e1,(s.heap.update a (Obj.mapSeq λ_=>#[])).get? a=some (seqObj "list" #[] e1):=⟨_,get?_update_seq ho (λ_=>#[])⟩;refine Aa (D1 h1 rfl ?_);refine Aa (Eh ?_);refine Aa (DJ ?_);refine Bg ?_;have h6:(((s.heap.update a (Obj.mapSeq λ_=>#[])).push (seqObj "tuple" vs.toArray 0)).push (seqObj "list" #[] 0)).get? a=some (seqObj "list" #[] e1):=by
  rw[C8 _ _ _ (by rw[Ej,Dk];exact Av (CF la)),C8 _ _ _ (by rw[Dk];exact Av la)];exact h1
 show wpAny (model prog w) A _ P E { s with heap:=((s.heap.update a (Obj.mapSeq λ_=>#[])).push (seqObj "tuple" vs.toArray 0)).push (seqObj "list" #[] 0) }
 dsimp only;have z2:vs.toArray.size<2:=by simpa using h2
 rw[Ak z2,Ak z2];refine Aa (Ae ?_);rw[StateT.run_pure];refine Aa (Ae ?_);dsimp only;refine Aa (D1 h6 rfl ?_);refine Aa (DK h6 rfl ?_ (hsz2:=by rw[Ep];show (pairsOf vs).size<=_;rw[pairsOf_size,Bh];omega));simp only[bne_self_eq_false,Cu,CM];exact Ae h
end
theorem qv9 (vs:List Value):(vs.toArray.zip vs.toArray).map (·.2)=vs.toArray:=by
 apply Array.ext'
 simpa using List.map_snd_zip (l₁:=vs) (l₂:=vs) (Ag _)
section
variable {X:Cx}
end
open PySem PySem.Spec PyProof.Rows
section
variable {X:Cx} {tg:Expr}
end
section
variable {X:Cx}
inductive qqw (K:Frag) (x y:V) (H:Hp) (Q:VK):Prop
 | mk:∀ a b xs ys,x=.ref a->y=.ref b->SqT K H a xs->SqT K H b ys->xs≠[]->ys≠[]->xs.length+ys.length<=sizeLine->(∀ p H',New H H' p (.tup (xs ++ ys))->Q (.ref p) H')->qqw K x y H Q
def qqx (K:Frag):R2:=λx y H Q=>qqw K x y H Q
theorem qnl:OpR X (binaryOp .Add) (qqx X.K):=op_catT.imp λ_ _ _ _ ⟨a,b,xs,ys,e1,e2,h1,h2,z,zy,hz,q⟩=>⟨a,b,xs,ys,e1,e2,h1,h2,z,hz,λe=>absurd e zy,λ_ p hp=>q p _ (qbi hp)⟩
def qy3:TE:=λ_ H Q=>∀ p H',New H H' p (.dT [])->Q (.ref p) H'
theorem qnm {pos:Pos}:PE X (.Dict [] [] pos) qy3:=λpins s σ H Q I h=>qs9 pins s σ H Q I λp hp=>h p _ (qbi hp)
end
open PySem PySem.Spec PyProof.Rows
end L2
namespace L2
theorem lq1 {α:Type} {us:List α} (h:us.length=1):∃ a,us=[a]:=by
 cases us with
 | nil=>cases h
 | cons a r=>exact ⟨a,by rw[Cw.mp (CW h)]⟩
theorem lq2 {α:Type} {us:List α} (h:us.length=2):∃ a0 a1,us=[a0,a1]:=by
 cases us with
 | nil=>cases h
 | cons a r=>obtain ⟨a1,e⟩:=lq1 (CW h);exact ⟨a,a1,by rw[e]⟩
theorem lq3 {α:Type} {us:List α} (h:us.length=3):∃ a0 a1 a2,us=[a0,a1,a2]:=by
 cases us with
 | nil=>cases h
 | cons a r=>obtain ⟨a1,a2,e⟩:=lq2 (CW h);exact ⟨a,a1,a2,by rw[e]⟩
theorem lq4 {α:Type} {us:List α} (h:us.length=4):∃ a0 a1 a2 a3,us=[a0,a1,a2,a3]:=by
 cases us with
 | nil=>cases h
 | cons a r=>obtain ⟨a1,a2,a3,e⟩:=lq3 (CW h);exact ⟨a,a1,a2,a3,by rw[e]⟩
theorem lq5 {α:Type} {us:List α} (h:us.length=5):∃ a0 a1 a2 a3 a4,us=[a0,a1,a2,a3,a4]:=by
 cases us with
 | nil=>cases h
 | cons a r=>obtain ⟨a1,a2,a3,a4,e⟩:=lq4 (CW h);exact ⟨a,a1,a2,a3,a4,by rw[e]⟩
theorem lq6 {α:Type} {us:List α} (h:us.length=6):∃ a0 a1 a2 a3 a4 a5,us=[a0,a1,a2,a3,a4,a5]:=by
 cases us with
 | nil=>cases h
 | cons a r=>obtain ⟨a1,a2,a3,a4,a5,e⟩:=lq5 (CW h);exact ⟨a,a1,a2,a3,a4,a5,by rw[e]⟩
open PySem PySem.Spec PyProof.Rows PySem.W
def KW (lt:Nat->Nat->Bool) (n:Nat) {α:Type}:KasT α->(α->Prop)->Prop
 | .ret a,Q=>Q a
 | .ask i j k,Q=>i<n/\j<n/\KW lt n (k (lt i j)) Q
theorem KW.bind {lt:Nat->Nat->Bool} {n:Nat} {α β:Type} {f:α->KasT β} {Q:β->Prop}:∀ {t:KasT α},KW lt n t (λa=>KW lt n (f a) Q)->KW lt n (t.bind f) Q
 | .ret a,h=>by rw[KasT.bind.eq_1];exact h
 | .ask i j k,h=>by
  rw[KasT.bind.eq_2];exact ⟨h.1,h.2.1,KW.bind h.2.2⟩
theorem KW.mono {lt:Nat->Nat->Bool} {n:Nat} {α:Type} {Q Q':α->Prop} (hq:∀ a,Q a->Q' a):∀ {t:KasT α},KW lt n t Q->KW lt n t Q'
 | .ret a,h=>hq a h
 | .ask i j k,h=>⟨h.1,h.2.1,KW.mono hq h.2.2⟩
theorem KW.run {lt:Nat->Nat->Bool} {n:Nat} {α:Type} {Q:α->Prop} {cmp:Nat->Nat->(Bool->Shared->Prop)->Shared->Prop} {s:Shared} (hc:∀ i j (C:Bool->Shared->Prop),i<n->j<n->C (lt i j) s->cmp i j C s) :
  ∀ {t:KasT α},KW lt n t Q->KasT.kasWp cmp t (λa s'=>s'=s/\Q a) s
 | .ret a,h=>by rw[KasT.kasWp.eq_1];exact ⟨rfl,h⟩
 | .ask i j k,h=>by
  rw[KasT.kasWp.eq_2];exact hc i j _ h.1 h.2.1 (KW.run hc h.2.2)
structure qB4 (n:Nat) (lt:Nat->Nat->Bool):Prop where
 tot:∀ i j,i<n->j<n->i≠j->lt i j=false->lt j i=true
 tr:∀ i j k,i<n->j<n->k<n->lt i j=true->lt j k=true->lt i k=true
structure PermA (n:Nat) (p:Array Nat):Prop where
 sz:p.size=n
 perm:p.toList.Perm (List.range n)
theorem PermA.lt {n:Nat} {p:Array Nat} (h:PermA n p) {x:Nat} (hx:x<n):p.getD x 0<n:=by
 have hs:=h.sz;rw[AQ,Bo (by omega)];have:p[x]∈p.toList:=by simp
 exact BM.mp (h.perm.mem_iff.mp this)
theorem PermA.inj {n:Nat} {p:Array Nat} (h:PermA n p) {x y:Nat} (hx:x<n) (hy:y<n) (hne:x≠y):p.getD x 0≠p.getD y 0:=by
 have hs:=h.sz;have nd:p.toList.Nodup:=h.perm.nodup_iff.mpr List.nodup_range;rw[AQ,Bo (by omega),AQ,Bo (by omega)];intro e;have e':p.toList[x]'(by simpa using by omega)=p.toList[y]'(by simpa using by omega):=by simpa using e
 have pw:=C5.mp nd
 rcases Nat.lt_or_gt_of_ne hne with h1|h1
 ·exact pw x y (by simpa using by omega) (by simpa using by omega) h1 e'
 ·exact pw y x (by simpa using by omega) (by simpa using by omega) h1 e'.symm
theorem PermA.of {n:Nat} {p q:Array Nat} (h:PermA n p) (hq:q.Perm p):PermA n q:=by
 have e:q.toList.Perm p.toList:=Array.perm_iff_toList_perm.mp hq;exact ⟨by have:=e.length_eq;simpa [h.sz] using this,e.trans h.perm⟩
def Asc (lt:Nat->Nat->Bool) (p:Array Nat) (b:Nat):Prop:=∀ x y,x<y->y<b->lt (p.getD x 0) (p.getD y 0)=true
structure OrdW (n:Nat) (lt:Nat->Nat->Bool):Prop where
 as_:∀ i j,i<n->j<n->lt i j=true->lt j i=false
 tr:∀ i j k,i<n->j<n->k<n->lt j i=false->lt k j=false->lt k i=false
theorem OrdW.irr {n:Nat} {lt:Nat->Nat->Bool} (O:OrdW n lt) {i:Nat} (h:i<n):lt i i=false:=by
 cases e:lt i i with
 | false=>rfl
 | true=>rw[<- e];exact O.as_ i i h h e
def qtk (lt:Nat->Nat->Bool) (p:Array Nat) (b:Nat):Prop:=∀ x y,x<y->y<b->lt (p.getD y 0) (p.getD x 0)=false
def qsr (lt:Nat->Nat->Bool) (p:Array Nat) (b:Nat):Prop:=∀ x y,x<y->y<b->lt (p.getD x 0) (p.getD y 0)=false
def qj2 (lt:Nat->Nat->Bool) (p:Array Nat) (i j:Nat):Prop:=∀ a b,i<=a->a<j->i<=b->b<j->lt (p.getD a 0) (p.getD b 0)=false
section
variable {lt:Nat->Nat->Bool} {n:Nat}
theorem qmk (O:OrdW n lt) {p:Array Nat} (hp:PermA n p):∀ (f x:Nat),1<=x->x+f<=n->qtk lt p x->KW lt n (kas_asc p f x) (λm=>x<=m/\m<=x+f/\qtk lt p m/\(m=x+f\/lt (p.getD m 0) (p.getD (m-1) 0)=true))
 | 0,x,h1,hx,ha=>by rw[kas_asc.eq_1];exact ⟨Ag _,Ag _,ha,.inl rfl⟩
 | f+1,x,h1,hx,ha=>by
  rw[kas_asc.eq_2];refine ⟨hp.lt (by omega),hp.lt (by omega),?_⟩
  cases e:lt (p.getD x 0) (p.getD (x-1) 0) with
  | true=>dsimp only;rw[Ak rfl];exact ⟨Ag _,by omega,ha,.inr e⟩
  | false =>
   dsimp only;rw[Ah AA];refine KW.mono (λm hm=>?_) (qmk O hp f (x+1) (by omega) (by omega) ?_)
   ·obtain ⟨m1,m2,m3,m4⟩:=hm
    exact ⟨by omega,by omega,m3,m4.imp (λz=>by omega) id⟩
   ·intro a b hab hb
    by_cases hbx:b=x
    ·subst hbx
     by_cases hax:a=b-1
     ·subst hax;exact e
     ·exact O.tr _ _ _ (hp.lt (by omega)) (hp.lt (by omega)) (hp.lt (by omega)) (ha a (b-1) (by omega) (by omega)) e
    ·exact ha a b hab (by omega)
theorem qj3 {p:Array Nat} (hp:PermA n p) {i m x:Nat} (hm:m<=n):(kas_rev p i m).getD x 0=if i<=x/\x<m then p.getD (i+m-1-x) 0 else p.getD x 0:=by
 have hs:=hp.sz;unfold kas_rev;rw[AQ,getElem?_mirror_all (by omega)]
 split<;>rw[AQ]
theorem qe9 {p:Array Nat} (hp:PermA n p) (i m:Nat):PermA n (kas_rev p i m):=hp.of (mirror_perm _ _ _ _)
theorem qnn (O:OrdW n lt) {p:Array Nat} (hp:PermA n p) {i m:Nat} (hm:m<=n) (hs:qj2 lt p i m) {a:Nat} (ha:a<n):lt ((kas_rev p i m).getD a 0) (p.getD a 0)=false/\lt (p.getD a 0) ((kas_rev p i m).getD a 0)=false:=by
 rw[qj3 hp hm]
 split
 ·exact ⟨hs _ _ (by omega) (by omega) (by omega) (by omega),hs _ _ (by omega) (by omega) (by omega) (by omega)⟩
 ·exact ⟨O.irr (hp.lt ha),O.irr (hp.lt ha)⟩
theorem qqy (O:OrdW n lt) {p:Array Nat} (hp:PermA n p) {i m:Nat} (hm:m<=n) (hs:qj2 lt p i m) {a b:Nat} (ha:a<n) (hb:b<n) (h:lt (p.getD a 0) (p.getD b 0)=false):lt ((kas_rev p i m).getD a 0) ((kas_rev p i m).getD b 0)=false:=by
 have hq:=qe9 hp i m;have h1:=qnn O hp hm hs ha;have h2:=qnn O hp hm hs hb;exact O.tr _ _ _ (hq.lt hb) (hp.lt ha) (hq.lt ha) (O.tr _ _ _ (hq.lt hb) (hp.lt hb) (hp.lt ha) h2.2 h) h1.1
theorem qqz (O:OrdW n lt) {p:Array Nat} (hp:PermA n p) {i m x:Nat} (hm:m<=n) (hx:x<=n) (hs:qj2 lt p i m) (h:qsr lt p x):qsr lt (kas_rev p i m) x:=
 λa b hab hb=>qqy O hp hm hs (by omega) (by omega) (h a b hab hb)
theorem qhk (O:OrdW n lt):∀ (f:Nat) (p:Array Nat) (x q:Nat),PermA n p->2<=x->x+f<=n->q+1<=x->qsr lt p x->qj2 lt p (x-(q+1)) x ->
  KW lt n (kas_desc f p x q) (λr=>PermA n r.1/\x<=r.2.1/\r.2.1<=x+f/\r.2.2+1<=r.2.1/\qsr lt r.1 r.2.1/\qj2 lt r.1 (r.2.1-(r.2.2+1)) r.2.1)
 | 0,p,x,q,hp,h1,hx,hq,ha,hs=>by rw[kas_desc.eq_1];exact ⟨hp,Ag _,Ag _,hq,ha,hs⟩
 | f+1,p,x,q,hp,h1,hx,hq,ha,hs=>by
  rw[kas_desc.eq_2];refine ⟨hp.lt (by omega),hp.lt (by omega),?_⟩;have fin:∀ {t:KasT (Array Nat×Nat×Nat)},KW lt n t (λr=>PermA n r.1/\x+1<=r.2.1/\r.2.1<=x+1+f/\r.2.2+1<=r.2.1/\qsr lt r.1 r.2.1/\qj2 lt r.1 (r.2.1-(r.2.2+1)) r.2.1)->KW lt n t (λr=>PermA n r.1/\x<=r.2.1/\r.2.1<=x+(f+1)/\r.2.2+1<=r.2.1/\qsr lt r.1 r.2.1/\qj2 lt r.1 (r.2.1-(r.2.2+1)) r.2.1):=λh=>KW.mono (λr ⟨r1,r2,r3,r4,r5,r6⟩=>⟨r1,by omega,by omega,r4,r5,r6⟩) h
  have one:∀ (p':Array Nat),PermA n p'->qsr lt p' x->lt (p'.getD (x-1) 0) (p'.getD x 0)=false->qsr lt p' (x+1):=λp' hp' hd e a b hab hb=>by
   by_cases hbx:b=x
   ·subst hbx
    by_cases hax:a=b-1
    ·subst hax;exact e
    ·exact O.tr _ _ _ (hp'.lt (by omega)) (hp'.lt (by omega)) (hp'.lt (by omega)) e (hd a (b-1) (by omega) (by omega))
   ·exact hd a b hab (by omega)
  have seg1:∀ (p':Array Nat),PermA n p'->qj2 lt p' (x+1-(0+1)) (x+1):=λp' hp' a b h1 h2 h3 h4=>by
   have ea:a=x:=by omega
   have eb:b=x:=by omega
   rw[ea,eb];exact O.irr (hp'.lt (by omega))
  cases e:lt (p.getD x 0) (p.getD (x-1) 0) with
  | true =>
   have e2:=O.as_ _ _ (hp.lt (by omega)) (hp.lt (by omega)) e;dsimp only;rw[Ak rfl]
   by_cases hq0:q>0
   ·rw[Ak hq0]
    have hp':=qe9 hp (x-(q+1)) x;refine fin (qhk O f _ (x+1) 0 hp' (by omega) (by omega) (by omega) (one _ hp' (qqz O hp (by omega) (by omega) hs ha) ?_) (seg1 _ hp'));exact qqy O hp (by omega) hs (by omega) (by omega) e2
   ·rw[Ah hq0]
    exact fin (qhk O f _ (x+1) 0 hp (by omega) (by omega) (by omega) (one _ hp ha e2) (seg1 _ hp))
  | false =>
   dsimp only;rw[Ah AA];refine ⟨hp.lt (by omega),hp.lt (by omega),?_⟩
   cases e2:lt (p.getD (x-1) 0) (p.getD x 0) with
   | true =>
    dsimp only;rw[Ak rfl];exact ⟨hp,Ag _,(show x<=x+(f+1) by omega),hq,ha,hs⟩
   | false =>
    dsimp only;rw[Ah AA];refine fin (qhk O f _ (x+1) (q+1) hp (by omega) (by omega) (by omega) (one _ hp ha e2) ?_);have key:∀ a,x-(q+1)<=a->a<=x->lt (p.getD a 0) (p.getD x 0)=false/\lt (p.getD x 0) (p.getD a 0)=false:=λa h1 h2=>by
     by_cases hax:a=x
     ·rw[hax];exact ⟨O.irr (hp.lt (by omega)),O.irr (hp.lt (by omega))⟩
     ·have f1:=hs a (x-1) (by omega) (by omega) (by omega) (by omega)
      have f2:=hs (x-1) a (by omega) (by omega) (by omega) (by omega);exact ⟨O.tr _ _ _ (hp.lt (by omega)) (hp.lt (by omega)) (hp.lt (by omega)) e2 f1,O.tr _ _ _ (hp.lt (by omega)) (hp.lt (by omega)) (hp.lt (by omega)) f2 e⟩
    intro a b h1 h2 h3 h4;exact O.tr _ _ _ (hp.lt (by omega)) (hp.lt (show x<n by omega)) (hp.lt (by omega)) (key b (by omega) (by omega)).2 (key a (by omega) (by omega)).1
theorem qg2 (O:OrdW n lt) {p:Array Nat} (hp:PermA n p) {m:Nat} (h1:1<=m) (hm:m<n) (hd:qsr lt p (m+1)):KW lt n (kas_descPart m n p) (λr=>PermA n r.2/\1<=r.1/\r.1<=n/\qtk lt r.2 r.1):=by
 unfold kas_descPart;have tail:∀ {q:Array Nat} {x:Nat},PermA n q->1<=x->x<=n->qsr lt q x->KW lt n (kas_tail3 x n q) (λr=>PermA n r.2/\1<=r.1/\r.1<=n/\qtk lt r.2 r.1):=fun {q x} hq hx1 hxn hdq=>by
  unfold kas_tail3;have hq':=qe9 hq 0 x;refine KW.bind (KW.mono (λm' hm'=>?_) (qmk O hq' (n-x) x hx1 (by omega) ?_))
  ·obtain ⟨a1,a2,a3,_⟩:=hm'
   exact ⟨hq',by show 1<=m';omega,by show m'<=n;omega,a3⟩
  ·intro a b hab hb
   rw[qj3 hq hxn,qj3 hq hxn,Ak ⟨AW _,hb⟩,Ak ⟨AW _,by omega⟩];exact hdq _ _ (by omega) (by omega)
 refine KW.bind (KW.mono (λr hr=>?_) (qhk O (n-(m+1)) p (m+1) 0 hp (by omega) (by omega) (by omega) hd (λa b h1 h2 h3 h4=>?_)))
 ·obtain ⟨r1,r2,r3,r4,r5,r6⟩:=hr
  by_cases hq:r.2.2>0
  ·rw[Ak hq]
   exact tail (qe9 r1 _ _) (by omega) (by omega) (qqz O r1 (by omega) (by omega) r6 r5)
  ·rw[Ah hq]
   exact tail r1 (by omega) (by omega) r5
 ·have ea:a=m:=by omega
  have eb:b=m:=by omega
  rw[ea,eb];exact O.irr (hp.lt hm)
theorem qq0 (O:OrdW n lt) {p:Array Nat} (hp:PermA n p) (hn:2<=n):KW lt n (kas_count n p) (λr=>PermA n r.2/\1<=r.1/\r.1<=n/\qtk lt r.2 r.1):=by
 rw[kas_count.eq_1];refine KW.bind (KW.mono (λm hm=>?_) (qmk O hp (n-1) 1 (Ag _) (by omega) (λx y h1 h2=>by omega)));obtain ⟨m1,m2,m3,m4⟩:=hm
 by_cases hmn:m=n
 ·rw[Ak (by simpa using hmn)]
  exact ⟨hp,by omega,by omega,m3⟩
 ·rw[Ah (by simpa using hmn)]
  have d0:lt (p.getD m 0) (p.getD (m-1) 0)=true:=by
   rcases m4 with z|z
   ·omega
   ·exact z
  have d1:=O.as_ _ _ (hp.lt (by omega)) (hp.lt (by omega)) d0
  by_cases h1:m>1
  ·rw[Ak h1]
   refine ⟨hp.lt (by omega),hp.lt (by omega),?_⟩
   cases e:lt (p.getD 0 0) (p.getD (m-1) 0) with
   | true =>
    dsimp only;rw[Ak rfl];exact ⟨hp,by omega,by omega,m3⟩
   | false =>
    dsimp only;rw[Ah AA];have le:∀ a b,a<=b->b<m->lt (p.getD b 0) (p.getD a 0)=false:=λa b hab hb=>by
     by_cases z:a=b
     ·rw[z];exact O.irr (hp.lt (by omega))
     ·exact m3 a b (by omega) hb
    have hs:qj2 lt p 0 m:=λa b _ ha _ hb=>by
     exact O.tr _ _ _ (hp.lt (by omega)) (hp.lt (show 0<n by omega)) (hp.lt (by omega)) (O.tr _ _ _ (hp.lt (by omega)) (hp.lt (show m-1<n by omega)) (hp.lt (by omega)) (le b (m-1) (by omega) (by omega)) e) (le 0 a (by omega) ha)
    refine qg2 O (qe9 hp 0 m) (by omega) (by omega) λa b hab hb=>qqy O hp (by omega) hs (by omega) (by omega) ?_
    by_cases hbm:b=m
    ·rw[hbm]
     exact O.tr _ _ _ (hp.lt (by omega)) (hp.lt (show m-1<n by omega)) (hp.lt (by omega)) d1 (hs a (m-1) (by omega) (by omega) (by omega) (by omega))
    ·exact hs a b (by omega) (by omega) (by omega) (by omega)
  ·rw[Ah h1]
   have em:m=1:=by omega
   subst em;refine qg2 O hp (Ag _) (by omega) λa b hab hb=>?_
   have ea:a=0:=by omega
   have eb:b=1:=by omega
   rw[ea,eb];exact d1
theorem qh1 (O:OrdW n lt) {p:Array Nat} (hp:PermA n p) {k:Nat} (hk:k<n) (ha:qtk lt p k):∀ (f lo hi:Nat),lo<=hi->hi<=k->hi-lo<=f->(∀ j,j<lo->lt (p.getD k 0) (p.getD j 0)=false)->(∀ j,hi<=j->j<k->lt (p.getD j 0) (p.getD k 0)=false) ->
  KW lt n (kas_place p k f lo hi) (λl=>l<=k/\(∀ j,j<l->lt (p.getD k 0) (p.getD j 0)=false)/\∀ j,l<=j->j<k->lt (p.getD j 0) (p.getD k 0)=false)
 | 0,lo,hi,h1,h2,h3,h4,h5=>by
  rw[kas_place.eq_1];exact ⟨by omega,h4,λj hj=>h5 j (by omega)⟩
 | f+1,lo,hi,h1,h2,h3,h4,h5=>by
  rw[kas_place.eq_2]
  by_cases hlt:lo ≥ hi
  ·rw[Ak hlt]
   exact ⟨by omega,h4,λj hj=>h5 j (by omega)⟩
  ·rw[Ah hlt]
   refine ⟨hp.lt hk,hp.lt (by omega),?_⟩;have le:∀ a b,a<=b->b<k->lt (p.getD b 0) (p.getD a 0)=false:=λa b hab hb=>by
    by_cases z:a=b
    ·rw[z];exact O.irr (hp.lt (by omega))
    ·exact ha a b (by omega) hb
   cases e:lt (p.getD k 0) (p.getD ((lo+hi) / 2) 0) with
   | true =>
    dsimp only;rw[Ak rfl];have e2:=O.as_ _ _ (hp.lt hk) (hp.lt (by omega)) e;refine qh1 O hp hk ha f lo ((lo+hi) / 2) (by omega) (by omega) (by omega) h4 λj hj hjk=>?_
    exact O.tr _ _ _ (hp.lt hk) (hp.lt (by omega)) (hp.lt (by omega)) e2 (le _ j hj hjk)
   | false =>
    dsimp only;rw[Ah AA];refine qh1 O hp hk ha f ((lo+hi) / 2+1) hi (by omega) h2 (by omega) (λj hj=>?_) h5;exact O.tr _ _ _ (hp.lt (by omega)) (hp.lt (show (lo+hi) / 2<n by omega)) (hp.lt hk) (le j _ (by omega) (by omega)) e
theorem qq1 (O:OrdW n lt):∀ (f:Nat) (p:Array Nat) (k:Nat),PermA n p->1<=k->k+f=n->qtk lt p k->KW lt n (kas_bin f p k) (λq=>PermA n q/\qtk lt q n)
 | 0,p,k,hp,h1,hk,ha=>by
  rw[kas_bin.eq_1];have:k=n:=by omega
  subst this;exact ⟨hp,ha⟩
 | f+1,p,k,hp,h1,hk,ha=>by
  rw[kas_bin.eq_2];have hkn:k<n:=by omega
  have hs:=hp.sz;refine KW.bind (KW.mono (λl hl=>?_) (qh1 O hp hkn ha k 0 k (AW _) (Ag _) (by omega) (λj hj=>by omega) (λj h1 h2=>by omega)));obtain ⟨l1,l2,l3⟩:=hl;have hq:PermA n (bubble p k (k-l)):=hp.of (bubble_perm _ _ _);refine qq1 O f _ (k+1) hq (by omega) (by omega) ?_;have hg:∀ x,(bubble p k (k-l)).getD x 0=if x=l then p.getD k 0 else if l<x/\x<=k then p.getD (x-1) 0 else p.getD x 0:=λx=>by
   rw[AQ,getElem?_bubble (by omega) (k-l) (by omega),show k-(k-l)=l by omega]
   split
   ·rw[AQ]
   ·split<;>rw[AQ]
  intro x y hxy hy;rw[hg x,hg y]
  by_cases hx:x=l
  ·rw[Ak hx,Ah (by omega),Ak ⟨by omega,by omega⟩]
   exact l3 _ (by omega) (by omega)
  ·rw[Ah hx]
   by_cases hy2:y=l
   ·rw[Ak hy2,Ah (by omega)]
    exact l2 _ (by omega)
   ·rw[Ah hy2]
    by_cases hx3:l<x/\x<=k
    ·rw[Ak hx3,Ak ⟨by omega,by omega⟩]
     exact ha _ _ (by omega) (by omega)
    ·rw[Ah hx3]
     by_cases hy3:l<y/\y<=k
     ·rw[Ak hy3]
      exact ha _ _ (by omega) (by omega)
     ·rw[Ah hy3]
      exact ha _ _ hxy (by omega)
theorem qtl (O:OrdW n lt) (hn:2<=n):KW lt n (kas_sort n) (λq=>PermA n q/\qtk lt q n):=by
 unfold kas_sort;have hp:PermA n (List.range n).toArray:=⟨by simp,by simp⟩;refine KW.bind (KW.mono (λr hr=>?_) (qq0 O hp hn));obtain ⟨r1,r2,r3,r4⟩:=hr
 by_cases h:r.1<n
 ·rw[Ak h,Nat.max_eq_left r2]
  exact qq1 O _ _ _ r1 r2 (by omega) r4
 ·rw[Ah h]
  have e:r.1=n:=by omega
  rw[e] at r4;exact ⟨r1,r4⟩
end
theorem qwa {lt:Nat->Nat->Bool} {n:Nat} (O:qB4 n lt) (W:OrdW n lt) (hn:2<=n):KW lt n (kas_sort n) (λq=>PermA n q/\Asc lt q n):=KW.mono (λ_ h=>⟨h.1,λx y hxy hy=>O.tot _ _ (h.1.lt hy) (h.1.lt (by omega)) (h.1.inj hy (by omega) (by omega)) (h.2 x y hxy hy)⟩) (qtl W hn)
open PySem PySem.Spec PyProof.Rows PySem.W
def blt:List Int->List Int->Bool
 | [],[]=>false
 | [],_ :: _=>true
 | _ :: _,[]=>false
 | a :: r,b :: t=>if a=b then blt r t else decide (a<b)
theorem qf1:∀ (k l:List Int),k≠l->blt k l=false->blt l k=true
 | [],[],h,_=>absurd rfl h
 | [],_ :: _,_,h=>by simp[blt] at h
 | _ :: _,[],_,_=>rfl
 | a :: r,b :: t,h,e=>by
  unfold blt at e ⊢
  by_cases hab:a=b
  ·subst hab
   rw[Ak rfl] at e ⊢;exact qf1 r t (λz=>h (by rw[z])) e
  ·rw[Ah hab] at e
   rw[Ah (λz=>hab z.symm)]
   simp at e ⊢
   omega
theorem qjb:∀ (k l m:List Int),blt k l=true->blt l m=true->blt k m=true
 | [],[],_,h,_=>by simp[blt] at h
 | _ :: _,[],_,h,_=>by simp[blt] at h
 | [],_ :: _,[],_,h=>by simp[blt] at h
 | _ :: _,_ :: _,[],_,h=>by simp[blt] at h
 | [],_ :: _,_ :: _,_,_=>rfl
 | a :: r,b :: t,c :: u,h1,h2=>by
  unfold blt at h1 h2 ⊢
  by_cases hab:a=b
  ·subst hab
   rw[Ak rfl] at h1
   by_cases hbc:a=c
   ·subst hbc
    rw[Ak rfl] at h2 ⊢;exact qjb r t u h1 h2
   ·rw[Ah hbc] at h2 ⊢
    exact h2
  ·rw[Ah hab] at h1
   by_cases hbc:b=c
   ·subst hbc
    rw[Ah hab];exact h1
   ·rw[Ah hbc] at h2
    simp at h1 h2
    rw[Ah (by omega)]
    simp;omega
theorem qh2:∀ k:List Int,blt k k=false
 | []=>rfl
 | a :: r=>by unfold blt;rw[Ak rfl];exact qh2 r
def ltK (ks:List (List Int)) (i j:Nat):Bool:=blt (ks.getD i []) (ks.getD j [])
theorem qCv (ks:List (List Int)) (nd:ks.Nodup):qB4 ks.length (ltK ks) where
 tot:=λi j hi hj hne e=>by
  refine qf1 _ _ (λz=>?_) e;rw[AM,AM,Ac hi,Ac hj] at z;have pw:=C5.mp nd
  rcases Nat.lt_or_gt_of_ne hne with h|h
  ·exact pw i j hi hj h z
  ·exact pw j i hj hi h z.symm
 tr:=λi j k _ _ _ h1 h2=>qjb _ _ _ h1 h2
theorem qup {k l:List Int} (h:blt k l=true):blt l k=false:=by
 cases e:blt l k with
 | false=>rfl
 | true =>
  have:=qjb k l k h e;rw[qh2] at this;cases this
theorem qy4 {k l m:List Int} (h1:blt l k=false) (h2:blt m l=false):blt m k=false:=by
 by_cases e1:k=l
 ·rw[e1];exact h2
 ·by_cases e2:l=m
  ·rw[<- e2];exact h1
  ·exact qup (qjb _ _ _ (qf1 _ _ (λz=>e1 z.symm) h1) (qf1 _ _ (λz=>e2 z.symm) h2))
theorem qBi (ks:List (List Int)):OrdW ks.length (ltK ks):=⟨λ_ _ _ _ h=>qup h,λ_ _ _ _ _ _ h1 h2=>qy4 h1 h2⟩
def qwb (h:Heap) (v:Value) (k:List Int):Prop:=∃ b o xs e,v=.ref b/\h.get? b=some o/\o.cls=.type "tuple" /\ o.data=.seq xs e/\Vals (k.map V.int) xs.toList
section
variable {prog:Program} {w:World} {A:Around} {E:Value->Shared->Prop} {s:Shared}
theorem qno {b fin:Bool} {Q:Bool->Shared->Prop}:∀ (k l:List Int) (us ws:List Value) (i:Nat),Vals (k.map V.int) us->Vals (l.map V.int) ws->fin=decide (k.length<l.length)->Q (blt k l) s->KatLex prog w A b fin Q (us.zip ws) i s
 | [],l,us,ws,i,hu,hw,hf,q=>by
  cases us with
  | cons _ _=>exact absurd hu.length (by simp)
  | nil =>
   rw[List.zip_nil_left];refine kat_nil ?_;rw[hf]
   cases l with
   | nil=>exact q
   | cons _ _=>exact q
 | x :: k,[],us,ws,i,hu,hw,hf,q=>by
  cases ws with
  | cons _ _=>exact absurd hw.length (by simp)
  | nil =>
   rw[List.zip_nil_right];refine kat_nil ?_;rw[hf];exact q
 | x :: k,y :: l,us,ws,i,hu,hw,hf,q=>by
  cases us with
  | nil=>exact absurd hu.length (by simp)
  | cons u us =>
   cases ws with
   | nil=>exact absurd hw.length (by simp)
   | cons v ws =>
    rw[Aw] at hu hw
    cases hu with
    | cons hx hu =>
     cases hw with
     | cons hy hw =>
      obtain ⟨t,rfl⟩:=(show ∃ t,u=Value.int x t from hx);obtain ⟨t',rfl⟩:=(show ∃ t,v=Value.int y t from hy);rw[C1];refine kat_cons (wpAny_eqBool_int ?_)
      by_cases hxy:x=y
      ·subst hxy
       rw[show (x == x)=true by simp];refine kat_yes (qno k l us ws (i+1) hu hw (by rw[hf];simp) ?_);unfold blt at q
       rwa [Ak rfl] at q
      ·rw[show (x == y)=false by simpa using hxy]
       unfold blt at q;rw[Ah hxy] at q;refine kat_no ?_
       cases (b && i == 0) with
       | true=>exact oneLt_int q
       | false=>exact kat_one _ _ (lt_int q)
theorem qy5 {b:Bool} {Q:Bool->Shared->Prop} {x y:Value} {k l:List Int} (hx:qwb s.heap x k) (hy:qwb s.heap y l) (q:Q (blt k l) s):wpAny (model prog w) A (keyLt' (tuples' b) x y) Q E s:=by
 obtain ⟨a,o,xs,e,rfl,h1,h2,h3,h4⟩:=hx;obtain ⟨a',o',xs',e',rfl,h1',h2',h3',h4'⟩:=hy;refine kat_lt h1 h3 h1' h3' (qno k l _ _ 0 h4 h4' ?_ q);have e1:k.length=xs.size:=by have:=h4.length;simpa using this
 have e2:l.length=xs'.size:=by have:=h4'.length;simpa using this
 rw[e1,e2]
theorem quq {h:Heap}:∀ {vs:List Value} {ks:List (List Int)},vs.length=ks.length->(∀ (i:Nat) v k,vs[i]?=some v->ks[i]?=some k->qwb h v k/\k≠[])->∃ fs,KatTups h vs fs/\fs.length=vs.length/\∀ v∈fs,∃ i t,v=Value.int i t
 | [],[],_,_=>⟨[],.nil,rfl,λv hv=>by cases hv⟩
 | v :: vs,k :: ks,hl,H=>by
  obtain ⟨fs,f1,f2,f3⟩:=quq (vs:=vs) (ks:=ks) (by simpa using hl) (λi v k e1 e2=>H (i+1) v k (by simpa using e1) (by simpa using e2));obtain ⟨⟨b,o,xs,e,rfl,h1,h2,h3,h4⟩,hne⟩:=H 0 v k rfl rfl
  cases k with
  | nil=>exact absurd rfl hne
  | cons i r =>
   obtain ⟨u,us,eu,hu⟩:∃ u us,xs.toList=u :: us/\RelV (.int i) u:=by
    generalize xs.toList=ys at h4
    cases h4 with
    | cons hx _=>exact ⟨_,_,rfl,hx⟩
   obtain ⟨t,rfl⟩:=(show ∃ t,u=Value.int i t from hu);refine ⟨Value.int i t :: fs,?_,by simp[f2],λv hv=>?_⟩
   ·rw[KatTups.eq_2]
    refine ⟨⟨b,o,xs,e,rfl,h1,h2,h3,?_⟩,f1⟩;rw[<- BU,eu];rfl
   ·rcases Ai.mp hv with h|h
    ·exact ⟨i,t,h⟩
    ·exact f3 v h
theorem qq2 {a:Addr} {vs:List Value} {n:Nat} {P:Fin->Shared->Prop} {ks:List (List Int)} (ho:s.heap.get? a=some (seqObj "list" vs.toArray n)) (h2:2<=vs.length) (h64:vs.length<64) (hl:vs.length=ks.length) (nd:ks.Nodup)
  (hT:∀ (i:Nat) v k,vs[i]?=some v->ks[i]?=some k->qwb s.heap v k/\k≠[])
  (h:∀ p:Array Nat,PermA ks.length p->Asc (ltK ks) p ks.length->P (.done (.ret .none)) { s with heap:=sortedHeap s.heap a vs (p.map λi=>vs.getD i .none) }):wpAny (model prog w) A (Builtin.«list.sort» ⟨[.ref a],[]⟩) P E s:=by
 rw[list_sort_plain];have la:a<s.heap.objs.size:=Al ho;refine Aa (listItems_at ho rfl ?_);refine Aa (DK ho rfl ?_);obtain ⟨e1,h1⟩:∃ e1,(s.heap.update a (Obj.mapSeq λ_=>#[])).get? a=some (seqObj "list" #[] e1):=⟨_,get?_update_seq ho (λ_=>#[])⟩;refine Aa (D1 h1 rfl ?_);refine Aa (Eh ?_ (by simp only[List.toList_toArray];rw[Bh];omega));refine Aa (DJ ?_);refine Bg ?_;have h6:(((s.heap.update a (Obj.mapSeq λ_=>#[])).push (seqObj "tuple" vs.toArray 0)).push (seqObj "list" #[] 0)).get? a=some (seqObj "list" #[] e1):=by
  rw[C8 _ _ _ (by rw[Ej,Dk];exact Av (CF la)),C8 _ _ _ (by rw[Dk];exact Av la)];exact h1
 show wpAny (model prog w) A _ P E { s with heap:=((s.heap.update a (Obj.mapSeq λ_=>#[])).push (seqObj "tuple" vs.toArray 0)).push (seqObj "list" #[] 0) }
 obtain ⟨s3,es3⟩:∃ s3:Shared,s3={ s with heap:=((s.heap.update a (Obj.mapSeq λ_=>#[])).push (seqObj "tuple" vs.toArray 0)).push (seqObj "list" #[] 0) }:=⟨_,rfl⟩;have hT3:∀ (i:Nat) v k,vs[i]?=some v->ks[i]?=some k->qwb s3.heap v k/\k≠[]:=λi v k q1 q2=>by
  obtain ⟨⟨b,o,xs,e,rfl,g1,g2,g3,g4⟩,hne⟩:=hT i v k q1 q2;refine ⟨⟨b,o,xs,e,rfl,?_,g2,g3,g4⟩,hne⟩;have hba:b≠a:=λz=>by
   subst z;rw[ho] at g1;cases g1;have g2':(Value.type "list" : Value)=Value.type "tuple" :=g2;injection g2' with e'
   exact absurd e' (by decide)
  rw[es3];exact Ab _ (Ab _ ((CV s.heap a _).extBut b o hba g1))
 obtain ⟨fs,f1,f2,f3⟩:=quq hl hT3;have z2:¬ vs.toArray.size<2:=by simpa using by omega
 dsimp only;rw[Ah z2,Ah z2,<- es3];refine Aa (kat_kind (T:=.type "int") f1 (by omega) (λv hv=>?_) (by decide) ?_)
 ·obtain ⟨i,t,rfl⟩:=f3 v hv
  exact Looks.of_pure rfl
 have hrun:=kas_runs (prog:=prog) (w:=w) (A:=A) (E:=E) (κ:=tuples' true) (it:=pairsOf vs) (n:=ks.length) (s:=s3) (G:=λp s'=>s'=s3/\PermA ks.length p/\Asc (ltK ks) p ks.length)
  (Q:=λ_ st' s'=>s'=s3/\failedOf st'=none/\∃ p,arrOf st'=p.map (kas_item (pairsOf vs))/\PermA ks.length p/\Asc (ltK ks) p ks.length) (by omega) (by omega)
  (λp st' s' hz ha hf hG=>⟨hG.1,hf,p,ha,hG.2⟩)
  (KW.run (λi j C hi hj hC=>by
   unfold kas_cmp;rw[Ff,Ff];have q1:vs[i]?=some (vs.getD i .none):=by rw[AM,Ac (by omega)];rfl
   have q2:vs[j]?=some (vs.getD j .none):=by rw[AM,Ac (by omega)];rfl
   have q3:ks[i]?=some (ks.getD i []):=by rw[AM,Ac hi];rfl
   have q4:ks[j]?=some (ks.getD j []):=by rw[AM,Ac hj];rfl
   exact qy5 (hT3 i _ _ q1 q3).1 (hT3 j _ _ q2 q4).1 hC) (qwa (qCv ks nd) (qBi ks) (by omega)))
 have est:kas_st (tuples' true) (pairsOf vs) (List.range ks.length).toArray=SortSt.mk' (tuples' true) (vs.toArray.zip vs.toArray) #[] 7 none:=by
  unfold kas_st;have:=kas_range (pairsOf vs);rw[pairsOf_size,hl] at this;rw[this];rfl
 rw[est] at hrun
 show wpAny (model prog w) A (sortRuns'.run (SortSt.mk' (tuples' true) (vs.toArray.zip vs.toArray) #[] 7 none) >>= _) P E s3
 refine Aa (AY hrun (λr s' hq=>?_) λ_ _ z=>z);obtain ⟨rfl,hf,p,hp,hq⟩:=hq;have h6':s'.heap.get? a=some (seqObj "list" #[] e1):=by rw[es3];exact h6
 have hz:((arrOf r.2).map (·.2)).size<=sizeLine:=by rw[Ep,hp,Ep,hq.1.sz,Bh];omega
 refine Aa (D1 h6' rfl ?_);refine Aa (DK h6' rfl ?_ (hsz2:=Nat.le_succ_of_le hz));rw[hf];simp only[bne_self_eq_false,Cu,CM];refine Ae ?_;have:=h p hq.1 hq.2;rw[es3];rw[hp,Array.map_map];have ef:((λx:Keyed=>x.2) ∘ kas_item (pairsOf vs))=λi=>vs.getD i .none:=by
  funext i
  show (kas_item (pairsOf vs) i).2=_
  rw[Ff]
 rw[ef];exact this
end
open PySem PySem.Spec PyProof.Rows PySem.W
def pick {α:Type} (idx:List Nat) (xs:List α) (d:α):List α:=idx.map λi=>xs.getD i d
theorem qgq {α:Type} (xs:List α) (d:α):pick (List.range xs.length) xs d=xs:=by
 unfold pick
 apply List.ext_getElem?
 intro i;rw[Ay]
 by_cases h:i<xs.length
 ·rw[List.getElem?_range h,Ac h]
  simp[AM,Ac h]
 ·rw[BH (by simpa using by omega),BH (by omega)];rfl
theorem qq3 {α:Type} {idx:List Nat} {xs:List α} {d:α} (h:idx.Perm (List.range xs.length)):(pick idx xs d).Perm xs:=by
 have:=h.map (λi=>xs.getD i d);have e:=qgq xs d;unfold pick at e;rw[e] at this;exact this
def TupsH (H:Hp) (xs:List V) (ks:List (List Int)):Prop:=Paired (λv r=>∃ a,v=V.ref a/\H a=some (.tup (r.map V.int))) xs ks
theorem TupsH.len {H:Hp}:∀ {xs:List V} {ks:List (List Int)},TupsH H xs ks->xs.length=ks.length
 | _,_,.nil=>rfl
 | _,_,.cons _ t=>by simp[TupsH.len t]
theorem TupsH.get {H:Hp}:∀ {xs:List V} {ks:List (List Int)} {i:Nat} {x:V} {k:List Int},TupsH H xs ks->xs[i]?=some x->ks[i]?=some k->∃ a,x=.ref a/\H a=some (.tup (k.map V.int))
 | _,_,_,_,_,.nil,e,_=>by simp at e
 | _,_,0,_,_,.cons r _,e,f=>by simp at e f;subst e f;exact r
 | _,_,i+1,x,k,.cons _ t,e,f=>TupsH.get (i:=i) t (by simpa using e) (by simpa using f)
theorem TupsH.pick {H:Hp} {xs:List V} {ks:List (List Int)} (h:TupsH H xs ks):∀ {idx:List Nat},(∀ i∈idx,i<ks.length)->TupsH H (pick idx xs .non) (pick idx ks [])
 | [],_=>.nil
 | i :: r,hi=>by
  have h0:=hi i Ap;have hl:=h.len;refine .cons (h.get (i:=i) ?_ ?_) (TupsH.pick h λj hj=>hi j (An _ hj))
  ·show xs[i]?=some (xs.getD i .non)
   rw[AM,Ac (by omega)];rfl
  ·show ks[i]?=some (ks.getD i [])
   rw[AM,Ac h0];rfl
theorem qk1 {xs:List V} {vs:List Value} (h:Vals xs vs):∀ {idx:List Nat},(∀ i∈idx,i<xs.length)->Vals (pick idx xs .non) (pick idx vs .none)
 | [],_=>.nil
 | i :: r,hi=>by
  have h0:=hi i Ap;have hl:=h.length;refine .cons ?_ (qk1 h λj hj=>hi j (An _ hj))
  show RelV (xs.getD i .non) (vs.getD i .none)
  rw[AM,Ac h0,AM,Ac (by omega)];exact qh3 h h0 (by omega)
where
 qh3:∀ {xs:List V} {vs:List Value} {i:Nat},Vals xs vs->(h1:i<xs.length)->(h2:i<vs.length)->RelV xs[i] vs[i]
  | _,_,0,.cons r _,_,_=>r
  | _,_,i+1,.cons _ t,h1,h2=>qh3 (i:=i) t (by simpa using h1) (by simpa using h2)
section
variable {prog:Program} {w:World} {A:Around} {E:Value->Shared->Prop} {s:Shared}
theorem qtm {a:Addr} {vs:List Value} {n:Nat} {P:Fin->Shared->Prop} {ks:List (List Int)} (ho:s.heap.get? a=some (seqObj "list" vs.toArray n)) (h64:vs.length<64) (hl:vs.length=ks.length) (nd:ks.Nodup)
  (hT:∀ (i:Nat) v k,vs[i]?=some v->ks[i]?=some k->qwb s.heap v k/\k≠[])
  (h:∀ idx:List Nat,idx.Perm (List.range ks.length)->(pick idx ks []).Pairwise (λk l=>blt k l=true)->P (.done (.ret .none)) { s with heap:=sortedHeap s.heap a vs (pick idx vs .none).toArray }):wpAny (model prog w) A (Builtin.«list.sort» ⟨[.ref a],[]⟩) P E s:=by
 by_cases h2:vs.length<2
 ·refine qo0 ho h2 ?_
  have:=h (List.range ks.length) (.refl _) (by
   rw[qgq]
   match ks,hl with
   | [],_=>exact .nil
   | [k],_=>exact Dh _ _
   | _ :: _ :: _,hl=>simp at hl;omega)
  rw[<- hl,qgq] at this;rw[qv9];exact this
 ·refine qq2 ho (by omega) h64 hl nd hT λp hp ha=>?_
  have e:(p.map λi=>vs.getD i .none)=(pick p.toList vs .none).toArray:=by
   apply Array.ext'
   simp[pick]
  rw[e];refine h p.toList hp.perm ?_;rw[C5];intro i j hi hj hij;have hs:=hp.sz;have li:i<p.size:=by simpa [pick] using hi
  have lj:j<p.size:=by simpa [pick] using hj
  have:=ha i j hij (by omega);unfold ltK at this;rw[AQ,Bo li,AQ,Bo lj] at this
  simpa [pick] using this
end
section
variable {X:Cx}
theorem qwc {pins:List (Addr×Obj)} {σ:St} {H:Hp} {s:Shared} {a:Addr} {k:List Int} (I:Inv X pins σ H s) (h:H a=some (.tup (k.map V.int))):qwb s.heap (.ref a) k:=by
 obtain ⟨its,rv,p,_⟩:=I.tuple (SqT.of h);obtain ⟨o,h1,h2,n,h3⟩:=(show s.heap.IsTuple a its.toArray from p);exact ⟨a,o,its.toArray,n,rfl,h1,h2,h3,by simpa using rv⟩
def qy6:List V->Hp->VK->Prop:=λxs H Q=>∃ (a:Addr) (kvs:List (List Key×V)) (ks:List (List Int)),xs=[.ref a]/\H a=some (.dT kvs)/\kvs.map (·.1)=ks.map (λk=>k.map Sum.inl)/\ks.length<64/\ks.Nodup/\(∀ k∈ks,k≠[]) /\
 ∀ ms zs l H',ms.Perm ks->ms.Pairwise (λk l=>blt k l=true)->TupsH H zs ms->New H H' l (.lst zs)->Q (.ref l) H'
theorem qq4 {H:Hp}:∀ {kvs:List (List Key×V)} {ys:List (List Key×Addr×Value)} {ks:List (List Int)},KT H kvs ys->kvs.map (·.1)=ks.map (λk=>k.map Sum.inl)->TupsH H (ys.map λy=>V.ref y.2.1) ks
 | [],_,ks,.nil,e=>by
  cases ks with
  | nil=>exact .nil
  | cons _ _=>cases e
 | p :: r,_,ks,.cons (b:=y) hy t,e=>by
  cases ks with
  | nil=>cases e
  | cons k ks =>
   rw[Aw,Aw] at e;injection e with e1 e2
   refine .cons ⟨y.2.1,rfl,?_⟩ (qq4 t e2);have:=hy.2.1;rw[e1] at this;rw[this,AG];rfl
theorem qk2:∀ ys:List (List Key×Addr×Value),Vals (ys.map λy=>V.ref y.2.1) (ys.map λy=>Value.ref y.2.1)
 | []=>.nil
 | _ :: r=>.cons rfl (qk2 r)
theorem qg3 (hc:X.calm=true):CallR X (.builtin "sorted") qy6:=by
 intro pins s σ H xs us Q I r h;obtain ⟨a,kvs,ks,rfl,ha,ek,h64,nd,hne,q⟩:=h;obtain ⟨u,rfl,rx⟩:=vals1 r
 cases (show u=Value.ref a from rx)
 obtain ⟨hz,lo,ys,kt,o,es,ep,e1,e2,e3,e4,_⟩:=qyc I.hok ha;have hR:RawD s.heap a es ep:=⟨o,e1,e2,e3⟩;have hT:=qq4 kt ek;have lk:kvs.length=ks.length:=by have:=congrArg List.length ek;simpa using this
 have ly:ys.length=ks.length:=by have:=hT.len;simpa using this
 have hl:es.size=ys.length:=by rw[<- A0,e4,Ad]
 refine Eu kind_sorted plain_sorted entry_sorted (args_sorted1 _) ?_;unfold Builtin.«sorted»;refine Aa (m:=checkCount "sorted" 1 1 _) (Ae ?_);refine Aa (PySem.W.kdu_collect (quo lo) (I.ok.hd hc) hR (by rw[Bh];omega) λh' tk acc hk hacc=>?_);have hlen:acc.toList.length=ks.length:=by rw[A0,hacc.1,hl,ly]
 have hacc':acc.toList=ys.map λy=>Value.ref y.2.1:=by
  apply List.ext_getElem?
  intro i
  by_cases hi:i<ys.length
  ·obtain ⟨v,hv⟩:∃ v,acc.toList[i]?=some v:=⟨_,Ac (by omega)⟩
   obtain ⟨e,he,hve⟩:=hacc.2 i v (by rw[<- BU];exact hv);rw[<- BU,e4,Ay,Ac hi] at he;cases he;rw[hv,Ay,Ac hi,hve];rfl
  ·rw[BH (by omega),BH (by simpa using by omega)]
 have I':Inv X pins σ H { s with heap:=h',toks:=tk }:=I.kept hk;have rv:Vals (ys.map λy=>V.ref y.2.1) acc.toList:=by
  rw[hacc'];exact qk2 ys
 refine Aa (DJ ?_ (by rw[hlen,Bh];omega));have hS:(h'.push (seqObj "list" acc.toList.toArray 0)).get? h'.objs.size=some (seqObj "list" acc.toList.toArray 0):=Ao _ rfl;refine Aa (Bg (BG slot_list_sort ⟨_,hS,rfl⟩ entry_list_sort (qtm (s:={ s with heap:=h'.push (seqObj "list" acc.toList.toArray 0),toks:=tk }) (ks:=ks) hS (by omega) hlen nd (λi v k q1 q2=>?_) λidx i1 i2=>⟨_,rfl,?_⟩) (args_list_sort _)))
 ·obtain ⟨y,hy⟩:∃ y,ys[i]?=some y:=⟨_,Ac (by have:=(Am.mp q2).1;omega)⟩
  obtain ⟨b,eb,hb⟩:=hT.get (i:=i) (by rw[Ay,hy];rfl) q2;cases eb;have hv:v=Value.ref y.2.1:=by
   rw[hacc',Ay,hy] at q1;exact (AH q1).symm
  subst hv;obtain ⟨b,o,xs,e,e1,g1,g2⟩:=qwc I' hb;exact ⟨⟨b,o,xs,e,e1,Ab _ g1,g2⟩,hne k (Aq q2)⟩
 ·refine Ae ⟨_,rfl,?_⟩
  have hi:∀ i∈idx,i<ks.length:=λi h=>BM.mp (i1.mem_iff.mp h)
  have hil:=i1.length_eq;rw[List.length_range] at hil;obtain ⟨c,hat⟩:∃ c,(sortedHeap (h'.push (seqObj "list" acc.toList.toArray 0)) h'.objs.size acc.toList (pick idx acc.toList .none).toArray).get? h'.objs.size=some (seqObj "list" (pick idx acc.toList .none).toArray c):=sortedHeap_at hS;have kp:∀ b ob,h'.get? b=some ob->(sortedHeap (h'.push (seqObj "list" acc.toList.toArray 0)) h'.objs.size acc.toList (pick idx acc.toList .none).toArray).get? b=some ob:=λb ob hb=>by
   have lb:=Al hb;rw[sortedHeap_old (Av lb) (by rw[Ej];exact CF lb)];exact Ab _ hb
  have vp:Vals (pick idx (ys.map λy=>V.ref y.2.1) .non) (pick idx acc.toList .none):=qk1 rv (λi h=>by have:=hi i h;simp;omega);refine ⟨.ref h'.objs.size,_,I'.laid (t':=tk) (o:=.lst (pick idx (ys.map λy=>V.ref y.2.1) .non)) kp (Ag _) ⟨?_,pick idx acc.toList .none,c,vp,hat⟩,rfl,q (pick idx ks []) _ _ _ (qq3 i1) i2 (hT.pick hi) (qbi (I'.hok.fresh (Ag _)))⟩
  show (pick idx _ V.non).length<=_
  unfold pick;rw[Ad,Bh];omega
end
open PySem PySem.Spec PyProof.Rows
section
variable {X:Cx} {k:Nat} {C:Addr} {ps:List Str} {sp:Sp} {dvs:List V} {ds:List Value} {m:Str} {pos apos:Pos} {e o:Expr} {es:List Expr} {ta:TE} {t:TA}
end
open PySem PySem.Spec PyProof.Rows PySem.W
section
variable {prog:Program} {w:World} {A:Around} {E:Value->Shared->Prop} {s:Shared}
end
section
variable {X:Cx} {pos:Pos}
end
open PySem PySem.Spec PyProof.Rows
section
variable {prog:Program} {w:World} {A:Around} {E:Value->Shared->Prop} {s:Shared}
end
open PySem PySem.Spec PyProof.Rows
section
variable {X:Cx} {pins:List (Addr×Obj)} {σ:St} {H:Hp} {s:Shared} {d:Addr}
end
section
variable {X:Cx}
end
open PySem PySem.Spec PyProof.Rows
section
variable {prog:Program} {w:World} {A:Around} {E:Value->Shared->Prop} {h:Heap} {g:Array GenState} {d:Drawn} {t:Nat} {os:OsState}
variable {nm q:Str} {C N x:Addr} {bs bm:List Value} {hdct:Bool} {sn:List Str} {sub:List Value} {ab:Bool} {col:Option Bool} {dd:Option Addr} {k0 k1 k2 k3 k5:Option Value}
theorem qi1 (T:OwnTail h veMro bm) {mN:Str->Option Value} {rest:List Value} {fI:Addr} {oI:Obj} {Q:Fin->Shared->Prop}
  (hC:h.get? C=some (excClassObj nm q C N bs bm hdct sn sub ab col dd k0 k1 k2 k3 k5 "ValueError.__new__")) (hn:h.Ns N mN) (hi:mN "__init__" = some (.ref fI))
  (hfI:h.get? fI=some oI) (hfc:oI.cls=.type "function")
  (hq:∀ h',(∀ b o,h.get? b=some o->h'.get? b=some o)->h'.get? (h.objs.size+1)=some { cls:=.ref C,data:=.fields #[.ref h.objs.size,.none,.none,.none,.bool false,.none] } ->
   wpAny (model prog w) A (call (.ref fI) (.ref (h.objs.size+1) :: rest)) (λr s'=>r=.none/\Q (.done (.ret (.ref (h.objs.size+1)))) s') E ⟨h',g,d,t,os⟩) (hrest:rest.length<=sizeLine) :
  wpAny (model prog w) A (Builtin.«type.__call__» ⟨.ref C :: rest,[]⟩) Q E ⟨h,g,d,t,os⟩:=by
 have F:=Cb;have hBn:veMro.contains (.type "ValueError")=true:=by decide +kernel
 repeat (first|with_reducible refine BC hC ?_|with_reducible refine wpAny_madeBy_exc hC ?_|wp_step)
 refine codeAny_call_builtin_code (DL _ F.quiet) (wpAny_check_new_subU F hBn T hC ?_);refine codeAny_exc_new_subU F hBn F T hC ?_ hrest
 show wpAny _ _ _ _ _ _
 have hC₁:=Ab { cls:=.ref C,data:=.fields #[.ref h.objs.size,.none,.none,.none,.bool false,.none] }
  (Ab { cls:=.type "tuple",data:=.seq rest.toArray } hC)
 have hfI₁:=Ab { cls:=.ref C,data:=.fields #[.ref h.objs.size,.none,.none,.none,.bool false,.none] }
  (Ab { cls:=.type "tuple",data:=.seq rest.toArray } hfI)
 have hn₁:((h.push { cls:=.type "tuple",data:=.seq rest.toArray }).push { cls:=.ref C,data:=.fields #[.ref h.objs.size,.none,.none,.none,.bool false,.none] }).Ns N mN:=
  let ⟨o,es,ep,e,r⟩:=hn;⟨o,es,ep,Ab _ (Ab _ e),r⟩
 have hget:((h.push { cls:=.type "tuple",data:=.seq rest.toArray }).push
   {cls:=.ref C,data:=.fields #[.ref h.objs.size,.none,.none,.none,.bool false,.none] }).get? (h.objs.size+1)=some
   {cls:=.ref C,data:=.fields #[.ref h.objs.size,.none,.none,.none,.bool false,.none] }:=by heap_get
 have hcC:(Value.ref C :: bm).contains (.ref C)=true:=by simp
 have T₁:=T.keeps (h':=(h.push { cls:=.type "tuple",data:=.seq rest.toArray }).push { cls:=.ref C,data:=.fields #[.ref h.objs.size,.none,.none,.none,.bool false,.none] })
  λb o e=>Ab _ (Ab _ e)
 unfold isInstance
 repeat (first|with_reducible refine BC hget ?_|(with_reducible refine CU hC₁ ?_;rw[hcC])|wp_step)
 show wpAny _ _ (typeLookup (.ref C) _) _ _ _
 refine wpAny_typeLookup_tail hC₁ hn₁ T₁ F.mroIs F.init.lookup ?_;rw[hi];refine Bg (Aa ?_);unfold bindSpecial;refine Aa (EL (T:= "function") ⟨_,hfI₁,hfc⟩ ?_);rw[Ak (by decide)];refine Ae (Aa (AY (hq _ (λb o hb=>Ab _ (Ab _ hb)) hget) (λr s' hr=>?_) λ_ _ x=>x));obtain ⟨rfl,hQ⟩:=hr
 wp_walk
 exact hQ
theorem qq5 (T:OwnTail h veMro bm) {mN:Str->Option Value} {rest:List Value} {fI:Addr} {oI:Obj} {Q:Value->Shared->Prop}
  (hC:h.get? C=some (excClassObj nm q C N bs bm hdct sn sub ab col dd k0 k1 k2 k3 k5 "ValueError.__new__")) (hn:h.Ns N mN) (hi:mN "__init__" = some (.ref fI))
  (hfI:h.get? fI=some oI) (hfc:oI.cls=.type "function")
  (hq:∀ h',(∀ b o,h.get? b=some o->h'.get? b=some o)->h'.get? (h.objs.size+1)=some { cls:=.ref C,data:=.fields #[.ref h.objs.size,.none,.none,.none,.bool false,.none] } ->
   wpAny (model prog w) (A.under (.builtin "type.__call__" ⟨.ref C :: rest,[]⟩)) (call (.ref fI) (.ref (h.objs.size+1) :: rest)) (λr s'=>r=.none/\Q (.ref (h.objs.size+1)) s') E ⟨h',g,d,t,os⟩) (hrest:rest.length<=sizeLine) :
  wpAny (model prog w) A (call (.ref C) rest) Q E ⟨h,g,d,t,os⟩:=by
 have f1:=tc_lookup;have f2:=tc_bind (.ref C);have hT:(⟨h,g,d,t,os⟩:Shared).TypeIs (.ref C) "type" :=⟨_,hC,rfl⟩;refine BY (D9 ?_)
 show wpAny _ _ (callAny (.ref C) _) _ _ _
 repeat (any_goals (first|assumption|with_reducible refine BC hC ?_|wp_step))
 refine ⟨rfl,?_⟩;refine codeAny_call_builtin_at (DL _ (by decide +kernel)) entry_typeCall (wpAny_check_type_call_sub hC (qi1 T hC hn hi hfI hfc (λh' hk he=>?_) hrest));exact hq h' hk he
theorem qo1 {M:Model} {s:Shared} {env:Env} {y:Sem Value} {newId:String} {Q:Flow->Shared->Prop} (hbase:bm.contains (.type "BaseException")=true) (hh:A.handled=none)
  (h:wpAny M A y (λv s₁=>∃ e dx vs sl,v=.ref e/\s₁.heap.get? C=some (excClassObj nm q C N bs bm hdct sn sub ab col dd k0 k1 k2 k3 k5 newId) /\
   s₁.heap.get? e=some ⟨.ref C,dx,.fields vs,sl⟩/\vs[1]?=some .none/\E (.ref e) s₁) E s):wpAny M A (raiseStmt env (some y) none) Q E s:=by
 have hcB:(Value.ref C :: bm).contains (.type "BaseException")=true:=by rw[List.contains_cons,hbase,EW]
 unfold raiseStmt;refine Aa (AY h (λv s₁ h₁=>?_) λ_ _ x=>x);obtain ⟨e,dx,vs,sl,rfl,hC,he,h1,hE⟩:=h₁;obtain ⟨hp,g,d,tk,os⟩:=s₁
 repeat (first|with_reducible refine Bp he rfl h1 ?_|with_reducible refine BC he ?_|with_reducible refine BC hC ?_|(with_reducible refine CU hC ?_;rw[hcB])|wp_step)
 exact wpAny_raiseNew_none hh hE
theorem qml {self:Value} {what:Str}:∀ {bm:List Value},OwnTail h veMro bm->refuseLoop self what bm=refuseLoop self what veMro:=by
 intro bm T
 induction T with
 | base=>rfl
 | own _ _ _ _ ih=>rw[refuseLoop_ref];exact ih
end
def qnp (a:Addr) (cls:Value) (dd:Option Addr):HO:=.ext λh=>∃ oe vs,h.get? a=some oe/\oe.cls=cls/\oe.dict=dd/\oe.data=.fields vs/\vs.size=6/\vs[1]?=some .none
def qnq (K:Frag) (C f:Addr):Bool:=match K.lookup C with
 | some ⟨.type "type",_,.cls cd,sl⟩=>(match cd.mro,sl.toList with
  | .ref C' :: bm,[_,_,_,_,some (.builtin n),_]=>C' == C && n == "ValueError.__new__" && !cd.hasDel && PySem.W.tailIn K veMro bm && PySem.W.nsOkIn K cd.ns && nsIn K cd.ns "__init__" == some (some (.ref f)) && cd.hasDict
  | _,_=>false)
 | _=>false
structure qAi (K:Frag) (C f:Addr) (fld:Str):Prop where
 e:qnq K C f=true
 fn:PySem.W.isFn K (.ref f)=true
 x:qpt K C
 hd:PySem.W.hasDictIn K C=true
 sa:PySem.W.findIn K (.ref C) "__setattr__" = some (some (.builtin "object.__setattr__"))
 na:PySem.W.findIn K (.ref C) fld=some none
theorem qy7 {K:Frag} {h:Heap} {N:Addr} {mg:Str->Option Value} {n:Str} {v:Value} (X:K.In h) (G:h.Ns N mg) (e:nsIn K N n=some (some v)):mg n=some v:=by
 obtain ⟨o,es,ep,ho,hd,_,hf⟩:=G;unfold nsIn at e
 split at e
 ·rename_i c d es' n' sl q
  have:=X _ _ q;rw[ho] at this;cases this;cases hd
  split at e
  ·rename_i en he
   cases e;rw[<- hf];unfold nsFind findBy;rw[<- Array.find?_toList,he]
   rfl
  ·split at e<;>cases e
 ·cases e
structure qq6 (h:Heap) (C f:Addr):Prop where
 e:∃ bm N nm qn bs sn sub ab col dd k0 k1 k2 k3 k5 mN,h.get? C=some (excClassObj nm qn C N bs bm true sn sub ab col dd k0 k1 k2 k3 k5 "ValueError.__new__")/\h.Ns N mN/\mN "__init__" = some (.ref f)/\OwnTail h veMro bm
theorem qmm {K:Frag} {h:Heap} {C f:Addr} (X:K.In h) (q:qnq K C f=true):qq6 h C f:=by
 unfold qnq at q
 split at q
 case h_2=>cases q
 case h_1 dd cd sl ho =>
  split at q
  case h_2=>cases q
  case h_1 C' bm k0 k1 k2 k3 n k5 hm hsl =>
   simp only[CK,B5,Bool.not_eq_true'] at q;obtain ⟨⟨⟨⟨⟨⟨q1,q2⟩,q3⟩,q4⟩,q5⟩,q6⟩,q7⟩:=q;subst q1 q2
   cases cd with
   | mk nm bs mro ns qn hd sn sub ab col del =>
    cases sl with
    | mk l =>
     have hm':mro=_:=hm;have hl':l=_:=hsl;have q3':del=false:=q3;have q7':hd=true:=q7;subst hm' hl' q3' q7';have hN:=PySem.Heap.Ns.of_isNs (PySem.W.isNs_of_in X q5);exact ⟨bm,ns,nm,qn,bs,sn,sub,ab,col,dd,k0,k1,k2,k3,k5,_,X _ _ ho,hN,qy7 X hN q6,PySem.W.tail_of_in X q4⟩
section
variable {prog:Program} {w:World} {A:Around} {E:Value->Shared->Prop} {K:Frag} {h:Heap} {g:Array GenState} {d:Drawn} {t:Nat} {os:OsState} {C f x:Addr} {o:Obj} {vs:Array Value}
theorem qq7 {name:Str} {v:Value} {Q:Unit->Shared->Prop} (X:K.In h) (hE:qq6 h C f) (hsa:PySem.W.findIn K (.ref C) "__setattr__" = some (some (.builtin "object.__setattr__"))) (hna:PySem.W.findIn K (.ref C) name=some none)
  (hob:PySem.W.mroIn K C (.type "object")=some true) (hx:h.get? x=some o) (hc:o.cls=.ref C) (hd:o.data=.fields vs) (hdn:o.dict=none)
  (hq:∀ h' tk',h'.get? x=some { o with dict:=some h.objs.size }->h'.Ns1 h.objs.size (λy=>if y=name then some v else none)->(∀ b ob,b≠x->h.get? b=some ob->h'.get? b=some ob)->Q () ⟨h',g,d,tk',os⟩) :
  wpAny (model prog w) A (setAttr (.ref x) name v) Q E ⟨h,g,d,t,os⟩:=by
 obtain ⟨bm,N,nm,qn,bs,sn,sub,ab,col,dd,k0,k1,k2,k3,k5,mN,hC,hn,hi,T⟩:=hE;have SF:=PySem.F.store_ValueError;have I:PySem.W.InstAt h x o C none:=⟨hx,hc,by unfold PySem.W.notCls;rw[hd],by rw[hdn];trivial⟩;refine PySem.W.set_plain (s:=⟨h,g,d,t,os⟩) X I hsa ?_;have L3:=BA (M:=model prog w) X hna;have sub':PySem.W.Looks (model prog w) h (isInstance (.ref x) (.type "object")) true:=I.type.andThen (DG X hob);refine BZ SF.slot.plain SF.entry (@PySem.W.check_slot (model prog w) _ _ ⟨h,g,d,t+1,os⟩ "object.__setattr__" "object" "__setattr__" (.ref x) [.str name t,v] [] _ SF.kind SF.split sub' (SF.args (.ref x) (.str name t) v) ?_);have hpass:refuseLoop (.ref x) "__setattr__" (.ref C :: bm)=pure ():=by rw[refuseLoop_ref,qml T];exact SF.passes _
 unfold Builtin.«object.__setattr__»
 repeat (first|rw[refuse_eq]|rw[hpass]|(with_reducible refine BC hx ?_;rw[hc])|with_reducible refine wpAny_mroOf_exc hC ?_|with_reducible refine L3.at ?_|wp_step)
 rw[hdn,Ah (by simp[typeHasDict])]
 split
 ·rename_i hcd
  cases hcd
 split
 ·rename_i c hcd
  rw[hd] at hcd;cases hcd
 ·have hx₁:(h.push { cls:=.type "dict",data:=.dict #[] }).get? x=some o:=Ab _ hx
  have hxs:x≠h.objs.size:=Av (Al hx);refine Aa (wpAny_alloc' ?_);refine Aa (wpAny_update' hx₁ ?_);refine Ae ?_;have hgd:((h.push { cls:=.type "dict",data:=.dict #[] }).update x λo=>{ cls:=o.cls,dict:=some h.objs.size,data:=o.data,slots:=o.slots }).get? h.objs.size
    = some { cls:=.type "dict",data:=.dict #[] }:=
   (Heap.get?_update_ne _ _ _ _ hxs.symm).trans (Heap.get?_push_at rfl rfl)
  have hnd:((h.push { cls:=.type "dict",data:=.dict #[] }).update x λo=>{ cls:=o.cls,dict:=some h.objs.size,data:=o.data,slots:=o.slots }).Ns h.objs.size (λ_=>none):=
   ⟨_,#[],_,hgd,rfl,λe he=>absurd he (by simp),λ_=>rfl⟩
  show wpAny _ _ (Builtin.ObjectAttr.storeInDict h.objs.size (.str name t) name v) _ _ _
  unfold Builtin.ObjectAttr.storeInDict Builtin.ObjectAttr.newKeyGuard;refine Aa (Ae (Aa (wpAny_nsSet1 (Heap.Ns1.of_empty hnd) λh' hn' hs=>?_)));obtain ⟨oD,esD,epD,hoD,hdD,hcD⟩:=hn'.count (Within.cons name v Within.nil);refine Aa (wpAny_lookBehind hoD (by rw[hdD];exact pastItsLine_dict (AV hcD (by rw[AB,Cn,Bh];omega))) ?_)
  wp_walk
  refine hq h' _ ?_ hn' (λb ob hbx hb=>?_)
  ·refine (hs.2 x hxs).trans (BI _ hx₁ ?_)
   have hfr:=(Heap.get?_some_iff.mp hx).2;obtain ⟨oc,od,odt,osl⟩:=o
   cases odt<;>first|rfl|exact hfr
  ·exact (hs.2 b (Av (Al hb))).trans ((Heap.get?_update_ne _ _ _ _ hbx).trans (Ab _ hb))
theorem qj4 {rest:List Value} {Q:Value->Shared->Prop} (hE:qq6 h C f) (hx:h.get? x=some o) (hc:o.cls=.ref C) (hd:o.data=.fields vs) (h0:0<vs.size) (hrest:rest.length<=sizeLine)
  (hq:∀ h' v0,(∀ b ob,b≠x->h.get? b=some ob->h'.get? b=some ob)->h'.get? x=some { o with data:=.fields (vs.setIfInBounds 0 v0) }->Q .none ⟨h',g,d,t,os⟩) :
  wpAny (model prog w) A (call (.builtin "ValueError.__init__") (.ref x :: rest)) Q E ⟨h,g,d,t,os⟩:=by
 obtain ⟨bm,N,nm,qn,bs,sn,sub,ab,col,dd,k0,k1,k2,k3,k5,mN,hC,hn,hi,T⟩:=hE;have F:=Cb;refine BY (BZ F.init.plain F.initEntry (wpAny_check_init_subU F T hC hx hc ?_));have hx₁:(h.push { cls:=.type "tuple",data:=.seq rest.toArray }).get? x=some o:=Ab _ hx;obtain ⟨oc,od,odt,osl⟩:=o;dsimp only at hd hc;subst hd;have e0:vs[0]?=some vs[0]:=Bo h0
 wp_walk
 dsimp only;rw[e0];refine Ae ?_;refine Aa (CA hx₁ rfl h0 ?_);have fin:Q .none ⟨(h.push { cls:=.type "tuple",data:=.seq rest.toArray }).update x (Obj.mapFields (·.setIfInBounds 0 (Value.ref h.objs.size))),g,d,t,os⟩:=by
  refine hq _ (Value.ref h.objs.size) (λb ob hb q=>?_) ?_
  ·rw[Bm _ _ (AX hb)]
   exact Ab _ q
  ·exact BI _ hx₁ rfl
 generalize vs[0]=old
 cases old<;>first|exact Ae (Ae fin)|exact D0 (Ae fin)
end
open PySem PySem.Spec PyProof.Rows
section
variable {prog:Program} {w:World} {A:Around} {E:Value->Shared->Prop} {s:Shared} {K:Frag} {a D:Addr} {oe:Obj} {od:Option Obj}
theorem qwd {name:Str} {v:Value} {expr:Bool} {Q:Value->Shared->Prop} (X:K.In s.heap) (F:qpt K D) (I:PySem.W.InstAt s.heap a oe D od) (hf:PySem.W.findObj K D od name=some (.value v)) (hv:PySem.W.handedIn v=true)
  (h:Q v { s with toks:=s.toks+1 }):wpAny (model prog w) A (getAttr (.ref a) name expr) Q E s:=by
 obtain ⟨hh,g,d,t,os⟩:=s;have L0:=I.type (M:=model prog w);have L1:=BA (M:=model prog w) X F.ga;have L2':=BA (M:=model prog w) X F.gt;have Lf:=PySem.W.looks_find (M:=model prog w) X I hf;have sub':PySem.W.Looks (model prog w) hh (isInstance (.ref a) (.type "BaseException")) true:=L0.andThen (DG X F.be);have f3:=(Cv).ga.bind (.ref a);have hx2:(Value.builtin "BaseException.__getattribute__" == Value.builtin "object.__getattribute__")=false:=by decide +kernel
 have hsel:(onTheHeap (Value.ref D) && Value.builtin "BaseException.__getattribute__" == Value.builtin "object.__getattribute__")=false:=by rw[hx2];rfl
 refine Aa (wpAny_mkText (Bg (Aa (L0.at (Aa (L1.at ?_))))));dsimp only;rw[Ah (by rw[hsel];decide)];unfold getAttrByItsOwn hookBefore;refine Aa ?_;rw[Ak (show onTheHeap (Value.ref D)=true from rfl)];refine L2'.at ?_;refine Aa (Ck (Bg ?_));unfold callGetattribute;rw[show (expr && onTheHeap (Value.builtin "BaseException.__getattribute__"))=false from Bool.and_false _,Ah (by decide)];unfold boundAndCalled;rw[f3];refine Aa (Ae ?_);refine BY (BZ Cv.ga.plain E5 ?_);refine @PySem.W.check_slot (model prog w) _ _ ⟨hh,g,d,t+1,os⟩ "BaseException.__getattribute__" "BaseException" "__getattribute__" (.ref a) [.str name t] [] _ (by decide +kernel) (by decide +kernel) sub' (Fi (.ref a) (.str name t)) ?_
 repeat (first|with_reducible refine L0.at ?_|with_reducible refine Lf.at ?_|wp_step)
 exact PySem.W.handed_on (M:=model prog w) hv h
end
def qBj (K:Frag) (ta:TE) (f:Str):TE:=λσ H Q=>ta σ H λx H1=>∃ a D dx fs v,x=.ref a/\H1 a=some (qxt a (.ref D) (some dx))/\H1 dx=some (.xd fs)/\qpt K D/\PySem.W.hasDictIn K D=true/\PySem.W.findIn K (.ref D) f=some none/\fs.lookup f=some v/\Q v H1
theorem qwe {X:Cx} {K:Frag} {e:Expr} {f:Str} {pos:Pos} {ta:TE} (hK:X.K=K) (he:PE X e ta) (hb:attributeBase e f X.env (eval e X.env)=eval e X.env):PE X (.Attribute e f pos) (qBj K ta f):=by
 subst hK;intro pins s σ H Q I h;refine qp8 hb (thn (he pins s σ H _ I h) λu s1 hq=>?_);obtain ⟨x,H1,I1,rx,a,D,dx,fs,v,ex,ea,edx,F,hdi,hna,l,q⟩:=hq;subst ex;obtain rfl:u=Value.ref a:=rx;obtain ⟨⟨oe,vs,h1,hc,hdc,hd⟩,_⟩:=(show ObjOk X.prog X.w H1 s1.heap a (qxt a (.ref D) (some dx)) from I1.hok a _ ea);obtain ⟨mA,hN,hr⟩:=(show ObjOk X.prog X.w H1 s1.heap dx (.xd fs) from I1.hok dx _ edx);obtain ⟨u',hu,ru⟩:=RelO.some_of (v:=v) (o:=mA f) (by rw[<- l];exact hr f);obtain ⟨od,ho,hl⟩:=qkq hN;have J:PySem.W.InstAt s1.heap a oe D (some od):=⟨h1,hc,by unfold PySem.W.notCls;rw[hd],by rw[hdc];exact ho⟩;exact qwd I1.kIn F J (PySem.W.findObj_own hdi hna rfl (by rw[hl,hu])) (qkr ru) ⟨v,H1,I1.tok _,ru,q⟩
theorem qmn {P:Program} {w:World} {H:Hp} {h:Heap} {a:Addr} {cls:Value} {dd:Option Addr} {oe:Obj} {vs:Array Value} (h1:h.get? a=some oe) (h2:oe.cls=cls) (h3:oe.dict=dd) (h4:oe.data=.fields vs) (h5:vs.size=6) (h6:vs[1]?=some .none):ObjOk P w H h a (qnp a cls dd):=
 ⟨⟨oe,vs,h1,h2,h3,h4,h5,h6⟩,⟨oe,h1⟩,λ_ _ ⟨o',v',q1,q2,q3,q4,q5,q6⟩ k=>⟨o',v',k _ q1,q2,q3,q4,q5,q6⟩⟩
def qBk (K:Frag) (ta tv:TE) (f:Str):TS:=λD σ H=>tv σ H λy H1=>ta σ H1 λx H2=>∃ a C fI,x=.ref a/\H2 a=some (qnp a (.ref C) none)/\qAi K C fI f /\
 ∀ dx H3,H2 dx=none->dx≠a->H3 a=some (qnp a (.ref C) (some dx))->H3 dx=some (.xd [(f,y)])->(∀ b o,H2 b=some o->b≠a->H3 b=some o)->D.nx σ H3
theorem qwf {X:Cx} {o value:Expr} {f:Str} {pos pos':Pos} {ta tv:TE} (ha:PE X o ta) (hv:PE X value tv) (hs:swapsWith value (some (.Attribute o f pos')) pos.line X.env=pure false):PS X (.Assign [.Attribute o f pos'] value pos) (qBk X.K ta tv f):=by
 intro pins s σ H D I h;refine DS (thn (hv pins s σ H _ I h) λu s1 hq1=>?_) hs;obtain ⟨y,H1,I1,ry,q⟩:=hq1;refine thn (ha pins s1 σ H1 _ I1 q) λov s2 hq2=>?_
 obtain ⟨x,H2,I2,rx,a,C,fI,ex,ea,hE,q2⟩:=hq2;subst ex;obtain rfl:ov=Value.ref a:=rx;obtain ⟨⟨oe,vs,h1,hc,hdn,hd,h6,hv1⟩,_⟩:=(show ObjOk X.prog X.w H2 s2.heap a (qnp a (.ref C) none) from I2.hok a _ ea);obtain ⟨hh,g,d,t,os⟩:=s2;refine qq7 I2.kIn (qmm I2.kIn hE.e) hE.sa hE.na hE.x.ob h1 hc hd hdn λh' tk' hx' hn' hk=>?_
 have h1':hh.get? a=some oe:=h1;have hne:hh.objs.size≠a:=CD (Al h1');have hfree:H2 hh.objs.size=none:=I2.hok.fresh (Ag _);obtain ⟨oD,esD,epD,hoD,_⟩:=id hn';have hpush:(hh.push oD).get? hh.objs.size=some oD:=Ao hh (Heap.get?_some_iff.mp hoD).2;have I3:=I2.laid (a:=hh.objs.size) (o:=.xd [(f,y)]) (h':=hh.push oD) (t':=tk') (λb u q=>Ab _ q) (Ag _) ⟨_,hn'.at (λo q=>by rw[hoD] at q;cases q;exact hpush),λg=>by
  show RelO (List.lookup g [(f,y)]) (if g=f then some u else none)
  by_cases e:g=f
  ·subst e
   rw[Ak rfl,CJ];simp only[beq_self_eq_true];exact ry
  ·rw[Ah e,CJ]
   have:(g == f)=false:=by simpa using e
   rw[this];exact True.intro⟩
 have I4:=I3.write (x:=a) (e:=a) (o:=qnp a (.ref C) (some hh.objs.size)) (h':=h') (t':=tk') (by rw[qa1 (AX hne),ea];exact True.intro) (.inl rfl) (λb u hb q=>?_) ⟨_,hx'⟩ (qmn hx' hc rfl hd h6 hv1)
 ·refine ⟨σ,_,I4,q2 hh.objs.size _ hfree hne qbh (by rw[qa1 hne];exact qbh) λb o e hb=>?_⟩
  rw[qa1 hb,qa1 (qag e hfree)];exact e
 ·rcases Heap.get?_push_cases q with ⟨rfl,rfl⟩|q
  ·exact hoD
  ·exact hk b u hb q
structure qy8 (K:Frag) (B:Addr):Prop where
 sp:PySem.W.specialIn K (.ref B) "__getattribute__" = some (some (.builtin "type.__getattribute__"))
 rd:PySem.W.readsIn K B (.type "type")=true
 fi:PySem.W.findCls K (.ref B) (.type "type") "__init__" = some (.val (.builtin "ValueError.__init__"))
def qy9 (K:Frag) (t:TA):TE:=λσ H Q=>t σ H λvs H1=>∃ a C fI fld dd rest,vs=.ref a :: rest/\rest.length<=1000/\qAi K C fI fld/\H1 a=some (qnp a (.ref C) dd)/\Q .non H1
theorem qza {H:Hp} {a:Addr} {o:HO} (h:H a=some o):upd H a o=H:=by
 funext b
 by_cases e:b=a
 ·subst e;rw[qbh,h]
 ·rw[qa1 e]
theorem qtn {X:Cx} {B:Addr} {x:Str} {np apos pos:Pos} {e:Expr} {es:List Expr} {t:TA} {pl:Sem Bool} (hg:Gl X x) (hm:X.mg x=some (.ref B)) (hB:qy8 X.K B) (ha:PA X (e :: es) t) (hdb:(x == ("__debug__" : Str))=false:=by decide)
  (he:starEach (e :: es) X.env=(false,eval e X.env) :: starEach es X.env:=by rfl) (hpl:(backTo pos (starEach es X.env)).any (·.1)=false:=by rfl)
  (ht:eval (.Call (.Attribute (.Name x np) "__init__" apos) (e :: es) [] pos) X.env=(do
   let ov <- eval (.Name x np) X.env
   standAt apos.atName
   let (f,first) <- holding [ov] (getMethod ov "__init__" pl)
   callWith pos f first (backTo pos (starEach (e :: es) X.env)) (backToKw pos (keywordEach [] X.env))):=by rfl) :
  PE X (.Call (.Attribute (.Name x np) "__init__" apos) (e :: es) [] pos) (qy9 X.K t):=by
 intro pins s σ H Q I h;refine BS (pl:=pl) (qe4 I hg hm ?_ hdb) ht;refine PySem.W.method_cls I.kIn hB.sp (PySem.W.cls_value I.kIn hB.rd hB.fi rfl ?_);refine DU (thn (ha pos pins _ σ H _ (I.tok _) h) λus s1 hq=>?_) he hpl;obtain ⟨vs,H1,I1,r1,a,C,fI,fld,dd,rest,ev,hl,hE,hx,q⟩:=hq;subst ev
 cases us with
 | nil=>cases r1
 | cons u us =>
  cases r1 with
  | cons r0 r1 =>
   cases (show u=Value.ref a from r0)
   obtain ⟨⟨oe,ws,h1,hc,hdn,hd,h6,hv1⟩,_⟩:=(show ObjOk X.prog X.w H1 s1.heap a (qnp a (.ref C) dd) from I1.hok a _ hx);obtain ⟨hh,g,d,t,os⟩:=s1;refine qj4 (qmm I1.kIn hE.e) h1 hc hd (by omega) (by rw[<- r1.length,Bh];omega) λh' v0 hk hx'=>?_
   have I2:=I1.write (x:=a) (e:=a) (o:=qnp a (.ref C) dd) (h':=h') (t':=t) (by rw[hx];exact True.intro) (.inl rfl) (λb u hb q=>hk b u hb q) ⟨_,hx'⟩ (qmn hx' hc hdn rfl (by simp[h6]) (by rw[Array.getElem?_setIfInBounds_ne (by decide)];exact hv1));rw[qza hx] at I2;exact ⟨.non,H1,I2,rfl,q⟩
theorem qBl {K:Frag} {h:Heap} {f:Addr} (X:K.In h) (e:PySem.W.isFn K (.ref f)=true):∃ o,h.get? f=some o/\o.cls=.type "function" :=by
 unfold PySem.W.isFn PySem.W.typeIn at e;obtain ⟨o,ho,hc⟩:=AL.mp (B5.mp e);exact ⟨o,X _ _ ho,hc⟩
def qo2 (H:Hp) (e:Addr):Hp:=λb=>if b=e then none else H b
theorem qh4 {H:Hp} {e b:Addr} (h:b≠e):qo2 H e b=H b:=Ah h
theorem qmo {H:Hp} {e:Addr}:qo2 H e e=none:=Ak rfl
theorem Inv.drop {X:Cx} {σ:St} {H:Hp} {s:Shared} {e:Addr} {φ:Heap->Prop} (I:Inv X [] σ H s) (he:H e=some (.ext φ)):Inv X [] σ (qo2 H e) s:=by
 have key:∀ b o,H b=some o->(∀ ψ,o≠.ext ψ)->qo2 H e b=some o:=λb o q n=>by
  rw[qh4 (λz=>by rw[z,he] at q;cases q;exact n _ rfl)];exact q
 have no:∀ b,H b=none->qo2 H e b=none:=λb q=>by
  by_cases z:b=e
  ·rw[z];exact qmo
  ·rw[qh4 z];exact q
 refine ⟨I.ok,I.os,I.bare,⟨I.base.keep,I.base.slot,λb o q n hx=>no b (I.base.free b o q n hx),I.base.there,λb xs q=>key _ _ (I.base.tups b xs q) (by intro ψ z;cases z),λb o xs q=>key _ _ (I.base.frzs b o xs q) (by intro ψ z;cases z),λb ps q=>?_⟩,I.loc,I.cell,no _ I.free,λx c q=>no _ (I.freeC x c q),λp hp=>?_,λb u q=>?_,I.len⟩
 ·obtain ⟨m1,e1⟩:=I.base.tbls b ps q
  exact ⟨m1,key _ _ e1 (by intro ψ z;cases z)⟩
 ·obtain ⟨q,n,ne,nf,d⟩:=I.pin p hp
  exact ⟨q,no _ n,ne,nf,d⟩
 ·by_cases z:b=e
  ·rw[z,qmo] at q;cases q
  ·rw[qh4 z] at q
   exact (I.hok b u q).stay (λ_ _ _ q=>q) (λc q=>key _ _ q (by intro ψ z;cases z)) λc xs q=>key _ _ q (by intro ψ z;cases z)
def qnr (C:Addr) (fld:Str):Sp:=λvs H Q _=>∃ ex v,vs=[.ref ex,v]/\H ex=some (qnp ex (.ref C) none)/\∀ dx H',H dx=none->dx≠ex->H' ex=some (qnp ex (.ref C) (some dx))->H' dx=some (.xd [(fld,v)])->(∀ b o,H b=some o->b≠ex->H' b=some o)->Q .non H'
structure qB5 (P:Program) (w:World) (K:Frag) (mg:Str->Option Value) (base:Heap) (C:Addr) (k:Nat) (x:Str) (ps:List Str) (fld:Str):Prop where
 ex:∃ f fd,qhd P w K mg base CX0 k f fd ps (qnr C fld)/\mg x=some (.ref C)/\qAi K C f fld/\Binds K fd ps []
def qwg (W:XW) (C:Addr) (fld:Str) (t:TA):TS:=λ_ σ H=>t σ H λvs H1=>∃ v,vs=[v]/\∀ dx H2,New H1 H2 dx (.xd [(fld,v)])->W (.ref C) (some dx) σ H2
theorem qq8 {X:Cx} {W:XW} {C:Addr} {k:Nat} {x fld:Str} {ps:List Str} {np cpos pos:Pos} {e:Expr} {es:List Expr} {t:TA} (hW:qmj X W) (hc:X.calm=true) (D:qB5 X.prog X.w X.K X.mg X.base C k x ps fld) (hr:Room (k+1) X.A) (hg:Gl X x) (ha:PA X (e :: es) t)
  (hdb:(x == ("__debug__" : Str))=false:=by decide) (he:starEach (e :: es) X.env=(false,eval e X.env) :: starEach es X.env:=by rfl) (hpl:(backTo cpos (starEach es X.env)).any (·.1)=false:=by rfl) :
  PS X (.Raise (some (.Call (.Name x np) (e :: es) [] cpos)) none pos) (qwg W C fld t):=by
 intro pins s σ H D' I h;obtain ⟨f,fd,F,hm,hE,hb⟩:=D.ex;obtain ⟨bm,N,nm,qn,bs,sn,sub,ab,col,dd,k0,k1,k2,k3,k5,mN,hC,hN,hi,hT⟩:=(qmm I.ok.mod.kin hE.e).e;rw[arm_exec_Raise];have hplain:(backTo cpos (starEach (e :: es) X.env)).any (·.1)=false:=by rw[he];show (false || (backTo cpos (starEach es X.env)).any (·.1))=false;rw[hpl];rfl
 have main:wpAny (model X.prog X.w) X.A (eval (.Call (.Name x np) (e :: es) [] cpos) X.env) (λv s₁=>∃ ex dx vs sl,v=.ref ex/\s₁.heap.get? C=some (excClassObj nm qn C N bs bm true sn sub ab col dd k0 k1 k2 k3 k5 "ValueError.__new__") /\
   s₁.heap.get? ex=some ⟨.ref C,dx,.fields vs,sl⟩/\vs[1]?=some .none/\X.xe (.ref ex) s₁) X.xe s:=by
  refine wpAny_Call_ofName (qe4 I hg hm ?_ hdb);unfold callWith;have h2:=ha cpos pins s σ H _ I h;rw[he] at h2 ⊢;refine Aa (Bg (CP (thn h2 λus s1 hq=>Aa (C9 ?_))));obtain ⟨vs,H1,I1,r,v,ev,q⟩:=hq;subst ev;obtain ⟨u,rfl,ru⟩:=vals1 r;rw[<- he];simp only[hplain];have hC1:=I1.bk _ _ hC;refine Aa (wpAny_keeperOf_exc hC1 ?_);have J:Inv X [] σ H1 s1:=I1.pins_of (by simp);obtain ⟨oI,hfI,hfc⟩:∃ oI,s1.heap.get? f=some oI/\oI.cls=.type "function" :=qBl I1.kIn hE.fn;obtain ⟨hh,g,d,tk,os⟩:=s1;refine Aa (qq5 (hT.keeps I1.bk) hC1 (qyy I1.bk hN) hi hfI hfc (λh' hk hx=>?_) (by show 1<=sizeLine;rw[Bh];omega));have hfree:H1 (hh.objs.size+1)=none:=J.hok.fresh (CN _);have J2:=J.laid (a:=hh.objs.size+1) (o:=qnp (hh.objs.size+1) (.ref C) none) (h':=h') (t':=tk) hk (CN _) (qmn hx rfl rfl rfl rfl rfl);have r2:Vals [V.ref (hh.objs.size+1),v] [Value.ref (hh.objs.size+1),u]:=.cons rfl (.cons ru .nil);have hsp:qnr C fld [V.ref (hh.objs.size+1),v] (upd H1 (hh.objs.size+1) (qnp (hh.objs.size+1) (.ref C) none)) (λw' H3=>w'=.non/\∃ dx,H3 (hh.objs.size+1)=some (qnp (hh.objs.size+1) (.ref C) (some dx))/\W (.ref C) (some dx) σ (qo2 H3 (hh.objs.size+1))) (λ_ _ _=>False):=by
   refine ⟨_,v,rfl,qbh,λdx H3 f1 ne h3 h4 h5=>⟨rfl,dx,h3,q dx _ ⟨λb o e=>?_,?_,by rw[qh4 ne];exact h4⟩⟩⟩
   ·have hb:b≠hh.objs.size+1:=qag e hfree
    rw[qh4 hb];exact h5 b o (by rw[qa1 hb];exact e) hb
   ·rw[qa1 ne] at f1;exact f1
  have hl:[Value.ref (hh.objs.size+1),u].length=ps.length:=by rw[<- r2.length];exact F.len _ _ _ _ hsp
  refine BY (BF (F.run _ X.stack _ _ ⟨[Value.ref (hh.objs.size+1),u],[]⟩ [Value.ref (hh.objs.size+1),u] _ _ _ (hr.make C [u] []) (J2.env0.make C [u] []) (hb _ [Value.ref (hh.objs.size+1),u] J2.kIn (by rw[Be];exact hl)) r2 hsp) λr s' hq'=>?_)
  cases r with
  | error e=>exact False.elim hq'
  | ok fl =>
   cases fl with
   | ret u' =>
    obtain ⟨w',H3,I3,rv,ev,dx,h3,hw⟩:=J2.after hq';subst ev;refine ⟨rv,Aa (Bg (wpAny_point (Ae ?_)))⟩;obtain ⟨⟨oe,ws,g1,gc,gd,gf,g6,gv1⟩,_⟩:=(show ObjOk X.prog X.w H3 s'.heap _ (qnp (hh.objs.size+1) (.ref C) (some dx)) from I3.hok _ _ h3);have I4:=I3.drop h3;refine ⟨_,oe.dict,ws,oe.slots,rfl,I3.bk _ _ hC,?_,gv1,hW.2 _ _ ⟨_,.ref C,some dx,σ,_,rfl,I4,⟨J.fpX hW.1 (DB (CN _)) qmo,.inl ⟨oe,ws,g1,gc,gd,gf,gv1⟩⟩,hw⟩⟩;rw[g1,<- gc,<- gf]
   | next=>exact False.elim hq'
   | brk=>exact False.elim hq'
   | cont=>exact False.elim hq'
 exact Aa (C9 (qo1 (hT.hasType (by decide +kernel)) (I.ok.hd hc) (Aa (AY main (λv s₃ h₃=>Aa (C9 (Ae h₃))) λ_ _ x=>x))))
open PySem PySem.Spec PyProof.Rows
end L2
namespace L2
open PySem PySem.Spec PyProof.Rows PySem.Builtin PySem.Builtin.Str
def slS (x:Str) (lo hi:Option Int):Str:=
 if ((strSliceIndices lo hi 1 x.length).length == x.length)=true then x else ⟨((strSliceIndices lo hi 1 x.length).filterMap (x.cps[·]?)).toArray⟩
def qCw:V->Option Int->Option Int->Hp->VK->Prop:=λx lo hi H Q=>∃ z,x=.str z/\(slS z lo hi).length<=sizeLine/\Q (.str (slS z lo hi)) H
theorem qns {X:Cx}:SlR X qCw:=by
 intro pins s σ H x v vl vu lo hi sl Q I rx hs pl pu h;obtain ⟨z,rfl,hz,q⟩:=h;obtain ⟨t,rfl⟩:=rx;obtain ⟨l,el,el2⟩:∃ l:Option (Int×Tok),vl=partValue l/\l.map (·.1)=lo:=by
  cases pl with
  | none=>exact ⟨none,rfl,rfl⟩
  | int i t=>exact ⟨some (i,t),rfl,rfl⟩
 obtain ⟨u,eu,eu2⟩:∃ u:Option (Int×Tok),vu=partValue u/\u.map (·.1)=hi:=by
  cases pu with
  | none=>exact ⟨none,rfl,rfl⟩
  | int i t=>exact ⟨some (i,t),rfl,rfl⟩
 subst el eu el2 eu2;have hs':s.heap.IsSlice sl l u none:=hs;refine ⟨"str",_,F.slot_str_getitem.lookup,typeIs_str _ _ _,wpAny_getItem_str_slice (l:=l) (u:=u) (st:=none) hs' rfl ?_⟩;unfold slS at q hz;unfold sliceMade slicePicked
 by_cases c:((strSliceIndices (l.map (·.1)) (u.map (·.1)) 1 z.length).length == z.length)=true
 ·rw[Ak c] at q
  rw[Ak (by simpa using c)];exact ⟨.str z,H,I,⟨_,rfl⟩,q⟩
 ·rw[Ah c] at q hz
  rw[Ah (by simpa using c)];exact ⟨hz,⟨.str _,H,I.tok _,⟨_,rfl⟩,q⟩⟩
open PySem PySem.Spec PyProof.Rows PySem.W
end L2
namespace L2
open PySem PySem.Spec PyProof.Rows PySem.W
section
variable {prog:Program} {w:World} {A:Around} {E:Value->Shared->Prop} {s:Shared}
end
section
variable {X:Cx}
end
open PySem PySem.Spec PyProof.Rows
section
variable {prog:Program} {w:World} {A:Around} {R:Result->Shared->Prop} {I:Addr} {fp wr:List Addr} {n:Nat} {P:Nat->Value->Prop} {St:Nat->Heap->Prop} {K:Type} [DecidableEq K] {knd:KeyKind prog w K}
end
open PySem PySem.Spec PyProof.Rows
section
variable {prog:Program} {w:World} {A:Around} {E:Value->Shared->Prop} {s:Shared} {K:Type} [DecidableEq K] {knd:KeyKind prog w K}
end
open PySem PySem.Spec PyProof.Rows
section
variable {X:Cx} {k:Nat} {ps:List Str} {sp:Sp} {dvs:List V} {ds:List Value} {x:Str} {p pos:Pos} {e:Expr} {es:List Expr} {t:TA}
end
open PySem
end L2
namespace L2
open PySem
def qwh:TE:=λ_ H Q=>∀ p H',New H H' p (.dK [])->Q (.ref p) H'
theorem qk3 {X:Cx} {pos:Pos}:PE X (.Dict [] [] pos) qwh:=λpins s σ H Q I h=>qs8 pins s σ H Q I λp hp=>h p _ (qbi hp)
open PySem
section
variable {X:Cx}
end
open PySem PyProof PyProof.Rows
section
variable {X:Cx}
end
open PySem PySem.Calls PySem.NumText PyProof.Rows
section
variable {prog:Program} {w:World} {A:Around} {E:Value->Shared->Prop} {s:Shared} {Q:Value->Shared->Prop} {x:PySem.Str} {t:Tok} {n:Int}
end
open PySem PySem.Spec PyProof.Rows PySem.Builtin PySem.Builtin.Str
def S (l:List Nat):Str:=⟨l.toArray⟩
theorem qea (l:List Nat):(S l).length=l.length:=by show l.toArray.size=_;simp
theorem qwi {a b:List Nat} (h:S a=S b):a=b:=by
 have:=congrArg (λx:Str=>x.cps.toList) h
 simpa [S] using this
theorem qto (a b:List Nat):S a ++ S b=S (a ++ b):=by
 show (⟨a.toArray ++ b.toArray⟩:Str)=⟨(a ++ b).toArray⟩
 simp
theorem qk4 {X:Cx}:CallR X (.builtin "len") (λxs H Q=>∃ z,xs=[.str (S z)]/\z.length<=sizeLine/\Q (.int z.length) H):=by
 intro pins s σ H xs us Q I r h;obtain ⟨z,rfl,hz,q⟩:=h;exact qsz pins s σ H _ us Q I r ⟨_,_,rfl,⟨by rw[qea];exact hz,rfl⟩,by rw[qea];exact q⟩
theorem qnt {X:Cx} {a b:Expr} {ta tb:TE} {pos:Pos} (ha:PE X a ta) (hb:PE X b tb) (hs:qsy b) :
  PE X (.Subscript a b pos) (tOp (λx y H Q=>∃ z i c,x=.str (S z)/\y=.int i/\0<=i/\i<2 ^ 63/\z[i.toNat]?=some c/\Q (.str (S [c])) H) ta tb):=by
 intro pins s σ H Q I h;refine Subscript_ (qAf ha hb I h λv u s2 x y H2 I2 rx ry q=>?_);obtain ⟨z,i,c,rfl,rfl,h0,h63,hc,q⟩:=q;obtain ⟨t,rfl⟩:=rx;obtain ⟨t',rfl⟩:=ry;have hl:=(Am.mp hc).1;have e:seqIndex? i (S z).length=some i.toNat:=PySem.StrLaws.seqIndex_nonneg h0 (by rw[qea];omega);exact tail_any (typeIs_str s2 (S z) t) PySem.F.slot_str_getitem.lookup (getItem_str (c:=c) (by
  have e1:decide (i < -(2 ^ 63:Int))=false:=Ba (by omega);have e2:decide (i ≥ 2 ^ 63)=false:=Ba (by omega);rw[e1,e2]<;>rfl) (by rw[e];simpa [S] using hc) ⟨.str (S [c]),H2,I2.tok _,⟨_,rfl⟩,q⟩) (hs _ _)
def Its (x:List Nat):It:=⟨λi _=>i<x.length,λi H v H'=>H'=H/\∃ c,x[i]?=some c/\v=.str (S [c]),λi _=>i=x.length⟩
theorem qnu {P:Program} {w:World} {K:Frag} {tg:Expr} (it:Addr) (x:List Nat) (t:Tok) (ty:String) (hty:ty = "str_ascii_iterator" \/ ty = "str_iterator"):Turn P w K tg (Its x) [it] it (λi h=>h.IsStrIter it ty (S x) t i) where
 mem:=by simp
 obj:=λi h st b hb=>by
  have e:b=it:=by simpa using hb
  subst e;obtain ⟨o,e,c,d⟩:=st;exact ⟨o,e,λv z=>by rw[d] at z;cases z⟩
 keep:=λi h h' st k=>by
  obtain ⟨o,ho,r⟩:=st;exact ⟨o,k it (by simp) o ho,r⟩
 item:=by
  intro X hP hw hK hc i pins s σ H E I hf st hg;subst hP hw hK;obtain ⟨f0,f1,f2,f3,f4,f5⟩:=hf it (by simp);have W:Walks X.prog X.w X.A it [it] [it] (S x).cps.size (SignAt (S x)) (λi h=>h.IsStrIter it ty (S x) t i):=by
   rcases hty with rfl|rfl
   ·exact Walks.strAscii (I.ok.hd hc) it (S x) t
   ·exact Walks.strWide (I.ok.hd hc) it (S x) t
  refine W.item i s _ _ (by have hg':i<x.length:=hg;show i<x.toArray.size;simpa using hg') st λv h' tk hv st' kk=>?_
  obtain ⟨c,u,hx,rfl⟩:=hv;have I1:Inv X pins σ H { s with heap:=h',toks:=tk }:=I.turned (λb o hb e=>kk b o (by simpa using hb) e) f0 f1 f3 f4 f5;obtain ⟨o,e,hcl,d⟩:=id st';exact ⟨_,rfl,qvh (s:={ s with heap:=h',toks:=tk }) e hcl d (by rcases hty with rfl|rfl<;>decide) ⟨.str (S [c]),H,I1,⟨u,rfl⟩,⟨rfl,c,by simpa [S] using hx,rfl⟩,st',λb hb=>(hf b hb).1⟩⟩
 done:=by
  intro X hP hw hK hc i pins s σ H E I hf st hg;subst hP hw hK;obtain ⟨f0,f1,f2,f3,f4,f5⟩:=hf it (by simp);have W:Walks X.prog X.w X.A it [it] [it] (S x).cps.size (SignAt (S x)) (λi h=>h.IsStrIter it ty (S x) t i):=by
   rcases hty with rfl|rfl
   ·exact Walks.strAscii (I.ok.hd hc) it (S x) t
   ·exact Walks.strWide (I.ok.hd hc) it (S x) t
  have e:i=(S x).cps.size:=by
   have h2:i=x.length:=hg;rw[h2];show x.length=x.toArray.size;simp
  subst e;exact W.done s _ _ st λh' tk kk=>⟨rfl,I.turned (λb o hb e=>kk b o (by simpa using hb) e) f0 f1 f3 f4 f5⟩
 self:=λA i s Q E st h=>by
  rcases hty with rfl|rfl
  ·exact wpAny_pyIter_striter_ascii st h
  ·exact wpAny_pyIter_striter_wide st h
def qCx (tl:TE):TI:=λσ H R=>tl σ H λx H1=>∃ z,x=.str (S z)/\R (Its z) H1
theorem qzb {X:Cx} {tg l:Expr} {tl:TE} (hl:PE X l tl):PI X tg l (qCx tl):=by
 intro pins s σ H R I h;refine thn (hl pins s σ H _ I h) λv s1 hq__=>?_
 obtain ⟨x,H1,I1,r1,q1⟩:=hq__;obtain ⟨z,e,q⟩:=q1;subst e;obtain ⟨t,rfl⟩:=r1;have fin:∀ b∈[s1.heap.objs.size],qm6 X pins H1 b:=λb hb=>by
  have e:b=s1.heap.objs.size:=by simpa using hb
  subst e;exact I1.fpOk (Ag _) (I1.hok.fresh (Ag _))
 cases ha:(S z).cps.all (· < 128)
 ·exact wpAny_pyIter_wide ha ⟨s1.heap.objs.size,[s1.heap.objs.size],_,_,H1,rfl,I1.kept (t':=s1.toks) λb o e=>Ab _ e,qnu _ z t "str_iterator" (.inr rfl),⟨_,Ao _ rfl,rfl,rfl⟩,fin,q⟩
 ·exact wpAny_pyIter_ascii ha ⟨s1.heap.objs.size,[s1.heap.objs.size],_,_,H1,rfl,I1.kept (t':=s1.toks) λb o e=>Ab _ e,qnu _ z t "str_ascii_iterator" (.inl rfl),⟨_,Ao _ rfl,rfl,rfl⟩,fin,q⟩
theorem qzc {x:List Nat} {g:TG} {tc:TT} {te:TE} {Q:VK} {σ:St} {H:Hp} (Pv:Nat->List V->Hp->Prop) (hz:x.length<=sizeLine) (h0:Pv 0 [] H) (hl:∀ i ys H,Pv i ys H->ys.length<=i)
  (hs:∀ i c ys H,x[i]?=some c->Pv i ys H->g (.str (S [c])) σ H λσ4 H4=>tc σ4 H4 λb H5=>if b=true then te σ4 H5 λv H6=>Pv (i+1) (ys ++ [v]) H6 else Pv (i+1) ys H5)
  (hd:∀ ys H p H',Pv x.length ys H->New H H' p (.lst ys)->Q (.ref p) H'):qge (Its x) Q g tc te σ H:=by
 refine ⟨λi m ys H=>m=x.length-i/\i<=x.length/\Pv i ys H,⟨x.length,by simp,AW _,h0⟩,?_⟩;rintro i m ys H2 ⟨rfl,hi,p⟩;have hy:=hl i ys H2 p
 by_cases hlt:i<x.length
 ·refine .inr ⟨hlt,by omega,Pv (i+1),λzs H' p'=>⟨x.length-(i+1),by omega,rfl,hlt,p'⟩,λv H3 y=>?_⟩
  obtain ⟨e,c,y,z⟩:=y;subst e z;exact hs i c ys _ y p
 ·have e:i=x.length:=by omega
  subst e;exact .inl ⟨rfl,by omega,λp' hp'=>hd ys H2 p' _ p (qbi hp')⟩
theorem qwj (K:Frag):PySem.W.kitOne K (.type "str") (.type "str")=some true:=by rfl
theorem qzd {X:Cx}:OpR X (compareOp .In) (λx y H Q=>∃ c j,x=.str (S [c])/\y=.str j/\Q (.bl (decide (c∈j.cps.toList))) H):=by
 intro pins s σ H x y v u Q I rx ry h;obtain ⟨c,j,rfl,rfl,q⟩:=h;exact qp6 pins s σ H _ _ v u Q I rx ry ⟨_,j,rfl,rfl,by rw[show S [c]=⟨#[c]⟩ from rfl,PySem.StrLaws.found_one];exact q⟩
theorem qur (x:List Nat) {a b:Nat} (hab:a<=b) (hb:b<=x.length) {lo hi:Option Int} (h:strSliceIndices lo hi 1 (S x).length=strSliceIndices (some (a:Int)) (some (b:Int)) 1 (S x).length):slS (S x) lo hi=S ((x.drop a).take (b-a)):=by
 have hb':b<=(S x).length:=by rw[qea];exact hb
 have e:=PySem.StrLaws.sliced_plain (S x) hab hb';unfold slS;rw[h]
 by_cases c:((strSliceIndices (some (a:Int)) (some (b:Int)) 1 (S x).length).length == (S x).length)=true
 ·rw[Ak c]
  have hl:b-a=x.length:=by
   have:=eq_of_beq c;rw[PySem.StrLaws.strSliceIndices_plain hab hb',qea] at this
   simpa using this
  have h1:a=0:=by omega
  rw[h1,List.drop_zero,Nat.sub_zero,Bv (by omega)]
 ·rw[Ah c,e]
  show (⟨_⟩:Str)=⟨_⟩
  simp[S]
theorem qq9 (x:List Nat) {k:Nat} (h:k<=x.length):slS (S x) none (some (k:Int))=S (x.take k):=by
 have e:=qur x (AW k) h (lo:=none) (hi:=some (k:Int)) (by
  unfold strSliceIndices;have:max (0:Int) (min (0:Int) ((S x).length:Int))=0:=by omega
  simp[this])
 simpa using e
theorem qra (x:List Nat) (k:Nat):slS (S x) (some (k:Int)) none=S (x.drop k):=by
 have key:∀ k:Nat,k<=x.length->slS (S x) (some (k:Int)) none=S (x.drop k):=λk hk=>by
  have e:=qur x hk (Ag _) (lo:=some (k:Int)) (hi:=none) (by
   rw[qea];unfold strSliceIndices;have h1:max (0:Int) (min (x.length:Int) (x.length:Int))=x.length:=by omega
   have h2:¬ (x.length:Int)<0:=by omega
   simp[h1,h2])
  rw[e,Bv (by simp)]
 by_cases hk:k<=x.length
 ·exact key k hk
 ·have h1:=key x.length (Ag _)
  rw[ET (by omega)];rw[ET (by omega)] at h1;rw[<- h1];unfold slS;rw[indices_beyond (n:=(S x).length) (i:=(k:Int)) (by rw[qea];omega),qea]
open PySem PySem.Spec PyProof.Rows PySem.Builtin PySem.Builtin.Str
def qi2 (sep:List Nat):List (List Nat)->List Nat
 | []=>[]
 | [p]=>p
 | p :: ps=>p ++ sep ++ qi2 sep ps
theorem qus (sep:List Nat):∀ (ps:List (List Nat)) (a:List Nat),(ps.map S).foldl (λacc p=>acc ++ (S sep).cps ++ p.cps) a.toArray=(match ps with|[]=>a|_=>a ++ sep ++ qi2 sep ps).toArray
 | [],a=>rfl
 | [p],a=>by
  show (a.toArray ++ sep.toArray ++ p.toArray)=_
  simp[qi2]
 | p :: r :: ps,a=>by
  have ih:=qus sep (r :: ps) (a ++ sep ++ p);rw[Aw,CS];have e:a.toArray ++ (S sep).cps ++ (S p).cps=(a ++ sep ++ p).toArray:=by show a.toArray ++ sep.toArray ++ p.toArray=_;simp
  rw[e,ih]
  simp[qi2]
theorem qze (sep:List Nat) (ps:List (List Nat)):PySem.Txt.join (S sep) (ps.map S)=S (qi2 sep ps):=by
 unfold PySem.Txt.join glued
 cases ps with
 | nil=>rfl
 | cons p ps =>
  show (⟨(ps.map S).foldl (λacc p=>acc ++ (S sep).cps ++ p.cps) p.toArray⟩:Str)=_
  rw[qus]
  cases ps with
  | nil=>rfl
  | cons r ps=>simp[qi2,S]
def rJoin (K:Frag) (x:V) (vs:List V) (H:Hp) (Q:VK):Prop:=∃ sep ps p,x=.str (S sep)/\vs=[.ref p]/\SqL K H p (ps.map λq=>V.str (S q))/\(ps.map List.length).sum+ps.length*sep.length<=1000000/\Q (.str (S (qi2 sep ps))) H
theorem qnv:∀ {ps:List (List Nat)} {us:List Value},Vals (ps.map λq=>V.str (S q)) us->StrsAre us (ps.map S)
 | [],_,.nil=>.nil
 | p :: ps,_,.cons ⟨t,e⟩ r=>by subst e;exact .cons _ _ (qnv r)
theorem qrb {X:Cx}:MtR X "str.join" (rJoin X.K):=by
 intro pins s σ H x xs v us Q I rx r h;obtain ⟨sep,ps,p,rfl,rfl,hq,hz,q⟩:=h;obtain ⟨t,rfl⟩:=rx;obtain ⟨u,rfl,ru⟩:=vals1 r
 cases (show u=Value.ref p from ru)
 obtain ⟨its,rv,pl,_⟩:=I.list hq;refine join_list (ys:=ps.map S) pl.isList (by simpa using qnv rv) ?_ λt' k=>⟨.str (S (qi2 sep ps)),H,I.tok _,⟨t',by rw[qze]⟩,q⟩
 have e:((ps.map S).map (·.length))=ps.map List.length:=by
  rw[AG];exact AZ λl _=>qea l
 rw[e,Ad,qea];omega
open PySem PySem.Spec PyProof.Rows
section
variable {X:Cx} {pins:List (Addr×Obj)} {σ:St} {H:Hp} {s:Shared} {scope:Scope} {cl:List (Str×Addr)} {vars frees:List Str} {fv:List Nat} {elt target iter:Expr} {ifs:List Expr} {pos:Pos}
end
section
variable {X:Cx} {σ:St} {EK:XK} {C:Addr} {k:Nat} {x:Str} {ps:List Str} {ds:List Value} {dvs:List V} {sp:Sp} {e:Expr} {es:List Expr} {t:TA} {p pos:Pos} {Nc:List Str} {scope:Scope} {cl:List (Str×Addr)} {s0:Shared} {H0:Hp} {ex:List Addr}
end
open PySem PySem.Spec PyProof.Rows
theorem qgr:∀ {ss:List Str} {us:List Value},Vals (ss.map V.str) us->StrsAre us ss
 | [],_,.nil=>.nil
 | s :: ss,_,.cons ⟨t,e⟩ r=>by subst e;exact .cons _ _ (qgr r)
theorem qh5:∀ {ss:List Str} {us:List Value},StrsAre us ss->Vals (ss.map V.str) us
 | _,_,.nil=>.nil
 | _,_,.cons y t r=>.cons ⟨t,rfl⟩ (qh5 r)
theorem qk5 {X:Cx}:CallR X (.builtin "sorted") (λxs H Q=>∃ (p:Addr) (ss:List Str),xs=[.ref p]/\SqL X.K H p (ss.map V.str)/\ss.length<64/\∀ (ms:List Str) l H',ms.Perm ss->sortedS ms=true->New H H' l (.lst (ms.map V.str))->Q (.ref l) H'):=by
 intro pins s σ H xs us Q I r h;obtain ⟨p,ss,rfl,hq,h64,q⟩:=h;obtain ⟨u,rfl,ru⟩:=vals1 r
 cases (show u=Value.ref p from ru)
 obtain ⟨its,rv,pl,hz⟩:=I.list hq;have hi:StrsAre its ss:=qgr rv;have hln:its.length=ss.length:=by have:=rv.length;simpa using this.symm
 refine sorted_strs pl.isList hi (by omega) λout ms a1 a2 a3=>?_
 obtain ⟨e,he⟩:=sortedAll_at s.heap its out;have hl:ms.length<=sizeLine:=by rw[a2.length_eq];simpa using hz
 refine ⟨.ref (s.heap.objs.size+1),upd H (s.heap.objs.size+1) (.lst (ms.map V.str)),I.laid (t':=s.toks) (λ_ _=>sortedAll_old) (CN _) ⟨by simpa using hl,out.toList,e,qh5 a1,?_⟩,rfl,q ms _ _ a2 a3 (qbi (I.hok.fresh (CN _)))⟩;rw[he]
open PySem PySem.Spec PyProof.Rows
theorem qj5:plainId "set.update.loop" = true:=by decide +kernel
theorem qnw:entryFor table "set.update.loop" = some Builtin.«set.update.loop» :=entryFor_of_fast (by kernel_rfl)
theorem qmp (a:Value):checkTypeCall "set" ⟨[a],[]⟩=pure ():=by kernel_rfl
theorem qo3 (a:Value):checkBuiltinCall "set.__new__" ⟨[.type "set",a],[]⟩=pure ():=by kernel_rfl
section
variable {prog:Program} {w:World} {A:Around} {E:Value->Shared->Prop} {s:Shared}
theorem qtp {M:Model} {self a:Value} {Q:Unit->Shared->Prop} (hT:s.TypeIs self "set") (hQ:Q () s) :
  wpAny M A (checkBuiltinCall "set.__init__" ⟨[self,a],[]⟩) Q E s:=by
 simp only[checkBuiltinCall,kind_set_init,split_set_init,sig_set_init];refine Aa (DT hT sub_set_self ?_);simp only[Bool.not_true,Cu,CM];unfold Bind.checkArgs;dsimp only;refine Aa (m:=Bind.printed "set" true _ _) (PyProof.Rows.printed_name (by decide) ?_);refine Aa (m:=Bind.printed "*" false _ _) (PyProof.Rows.printed_star (self:=self) rfl hT λshort=>?_);have hrn:(Manifest.Receiver.self == Manifest.Receiver.none)=false:=by decide
 have hn:(if (Manifest.Receiver.self == Manifest.Receiver.none)=true then [self,a].length else [self,a].length-1)=1:=by simp[hrn]
 rw[hn];simp only[Dq];have hc:Bind.check ⟨.positional, "set", "*",.self,[⟨"iterable",.posOnly,false⟩]⟩ "set" short 1 []=pure ():=by
  simp[Bind.check,Bind.checkCount,Bind.isPositional]
  intro h;exact absurd h (by decide)
 rw[hc];exact Ae hQ
theorem qzf (a:Value) {Q₁:Value->Shared->Prop}
  (h:∀ led:Bool,Q₁ (.ref s.heap.objs.size) { s with heap:=s.heap.push { cls:=.type "set",dict:=none,data:=.set #[] 0 (.fresh 0 0 led) } }) :
  codeAny (model prog w) A (.call (.builtin "set.__new__") ⟨[.type "set",a],[]⟩) (wants Q₁ E) s:=by
 refine D9 ?_
 show wpAny _ A.in1 (do checkBuiltinCall "set.__new__" ⟨[.type "set",a],[]⟩;again (.builtin "set.__new__" ⟨[.type "set",a],[]⟩)) _ _ s
 refine Aa (wpAny_of_eq (qo3 a) (Ae ⟨plainId_quiet F.plain_set_new _,Dt F.entry_set_new ?_⟩));rw[DE F.plain_set_new _];unfold Builtin.«set.__new__» Builtin.Frozenset.newClass;have hsub:=sub_set_self;obtain ⟨hp,g,d,tk,os⟩:=s;dsimp only
 wp_walk
 refine wpAny_askSetting (Ae ?_);dsimp only;simp only[newObj];refine Aa (wpAny_alloc (Ae ?_));exact Ae (h _)
end
section
variable {prog:Program} {w:World} {A:Around} {R:Result->Shared->Prop} {I:Addr} {fp wr:List Addr} {n:Nat} {P:Nat->Value->Prop} {St:Nat->Heap->Prop} {K:Type} [DecidableEq K] {knd:KeyKind prog w K}
def qfa:List K->Nat
 | []=>0
 | k :: l=>if k∈l then qfa l else qfa l+1
theorem qj6 (l:List K):qfa l<=l.length:=by
 induction l with
 | nil=>exact Ag _
 | cons k l ih=>unfold qfa;split<;>simp<;>omega
theorem qwk (W:Walks prog w A.in1 I fp wr n P St) (D:Addr) (hDf:D ∉ fp) (rs:List K) (hn:n<=1000)
  (hP:∀ i v,P i v->∃ k,knd.is k v=true/\v.scannable=true/\rs[i]?=some k) (hl:rs.length=n) :
  ∀ (k i:Nat) (s:Shared) (m:Nat),n-i=k->i<=n->St i s.heap->s.heap.SetOf knd D (λq=>decide (q∈(rs.take i).reverse)) m->m=qfa (rs.take i).reverse ->
  (∀ h' tk,h'.SetOf knd D (λq=>decide (q∈rs.reverse)) (qfa rs.reverse)->(∀ b o,b ∉ wr->b≠D->s.heap.get? b=some o->h'.get? b=some o)->R (.ok (.ret .none)) { s with heap:=h',toks:=tk }) ->
  codeAny (model prog w) A (.builtin "set.update.loop" ⟨[.ref D,.ref I],[]⟩) R s:=by
 have hDw:D ∉ wr:=λh=>hDf (W.sub _ h)
 intro k
 induction k with
 | zero =>
  intro i s m hk hi hst hd hm hR;have hin:i=n:=by omega
  subst hin;rw[<- hl,AO] at hd hm;refine Dt qnw ?_;rw[DE qj5 _]
  show wpAny _ A.in1 (pyNext (.ref I) >>= _) _ _ s
  refine Aa (W.done s _ _ hst λh' tk hm'=>?_);refine Ae (hR h' tk ?_ λb o hb _ e=>hm' b o hb e);obtain ⟨o,es,ep,t,ho,r⟩:=hd;exact ⟨o,es,ep,t,hm' D o hDw ho,hm ▸ r⟩
 | succ k ih =>
  intro i s m hk hi hst hd hm hR;have hlt:i<n:=by omega
  refine Dt qnw ?_;rw[DE qj5 _]
  show wpAny _ A.in1 (pyNext (.ref I) >>= _) _ _ s
  refine Aa (W.item i s _ _ hlt hst λv h' tk hp hst' hmk=>?_);obtain ⟨kk,hkey,hsc,hrs⟩:=hP i v hp;obtain ⟨o1,es,ep,t,ho1,rr⟩:=hd;have hd':h'.SetOf knd D (λq=>decide (q∈(rs.take i).reverse)) m:=⟨o1,es,ep,t,hmk D o1 hDw ho1,rr⟩;have ml:m<=1000:=by
   have:=qj6 (rs.take i).reverse;rw[List.length_reverse,Au] at this;omega
  show wpAny _ A.in1 (holding [v] _ >>= _) _ _ _
  refine Aa (Bg ?_);unfold setAdd;refine Bg (Aa (knd.pyHash hkey ?_));refine wpAny_setAddHashed_of (s:={ s with heap:=h',toks:=_ }) hkey hsc hd' (by unfold scanBound;omega) λh2 hs2 hd2=>?_
  have et:rs.take (i+1)=rs.take i ++ [kk]:=by rw[Dz,hrs];rfl
  refine Ae ⟨plainId_quiet qj5 _,ih (i+1) _ _ (by omega) hlt (W.frame _ _ _ hst' λb hb o e=>?_) ?_ rfl λh3 tk3 hd3 hk3=>?_⟩
  ·exact (hs2.2 b (λh:b=D=>hDf (by rw[<- h];exact hb))).trans e
  ·rw[et]
   have e1:(λq=>decide (q∈(rs.take i ++ [kk]).reverse))=(λk'=>decide (k'∈(rs.take i).reverse) || decide (k'=kk)):=by
    funext q
    simp[Bool.or_comm]
   have e2:qfa (rs.take i ++ [kk]).reverse=(if decide (kk∈(rs.take i).reverse)=true then m else m+1):=by
    rw[List.reverse_append,hm]
    show qfa (kk :: (rs.take i).reverse)=_
    unfold qfa
    by_cases e:kk∈(rs.take i).reverse
    ·rw[Ak e,Ak (AF e)]
     cases hq:(rs.take i).reverse<;>rfl
    ·rw[Ah e,Ah (by simpa using e)]
     cases hq:(rs.take i).reverse<;>rfl
   rw[e1,e2];exact hd2
  ·exact hR h3 tk3 hd3 λb o hb hbD e=>hk3 b o hb hbD ((hs2.2 b hbD).trans (hmk b o hb e))
end
section
variable {prog:Program} {w:World} {A:Around} {E:Value->Shared->Prop} {s:Shared} {K:Type} [DecidableEq K] {knd:KeyKind prog w K}
theorem qrc {p:Addr} {Q:Bool->Shared->Prop} (hT:s.TypeIs (.ref p) "list") (h:Q false s):wpAny (model prog w) A (Builtin.Frozenset.isAnySet (.ref p)) Q E s:=by
 have f1:=F.sub_list_set;have f2:=F.sub_list_frozenset;unfold Builtin.Frozenset.isAnySet
 wp_walk
 exact h
theorem qwl {id:String} {D p:Addr} {its:List Value} {rs:List K} {Q:Unit->Shared->Prop} (hl:PlainL s.heap p its.toArray) (hpD:p≠D) (hA:A.handled=none) (hn:its.length<=1000) (hlen:rs.length=its.length)
  (hP:∀ (i:Nat) v,its[i]?=some v->∃ k,knd.is k v=true/\v.scannable=true/\rs[i]?=some k) (hD:s.heap.SetOf knd D (λ_=>false) 0)
  (h:∀ h' tk,h'.SetOf knd D (λq=>decide (q∈rs.reverse)) (qfa rs.reverse)->(∀ b o,b≠D->s.heap.get? b=some o->h'.get? b=some o)->Q () { s with heap:=h',toks:=tk }) :
  wpAny (model prog w) A (Builtin.Frozenset.updateFrom id D (.ref p)) Q E s:=by
 obtain ⟨ol,nl,e1,e2,e3,e4⟩:=hl;have hpl:p<s.heap.objs.size:=Al e1;have hT:s.TypeIs (.ref p) "list" :=⟨ol,e1,e2⟩;have hDl:D<s.heap.objs.size:=by obtain ⟨o,_,_,_,ho,_⟩:=hD;exact Al ho
 unfold Builtin.Frozenset.updateFrom;refine Aa (qrc hT ?_);rw[Ah (by decide)];refine Aa (EL hT ?_);rw[Ah (by decide)];refine Aa (BW (PlainL.isList ⟨ol,nl,e1,e2,e3,e4⟩) ?_);have W:=Walks.list (prog:=prog) (w:=w) (A:=A.in1) hA s.heap.objs.size p (Av hpl) its.toArray;have keep:∀ b o,s.heap.get? b=some o->(s.heap.push { cls:=Value.type "list_iterator",data:=Data.fields #[Value.ref p,Value.int 0 0] }).get? b=some o:=λb o q=>Ab _ q
 refine Aa (wpAny_runValue (qwk (A:=A) (knd:=knd) W D ?_ rs (by simpa using hn) (λi v q=>?_) (by simpa using hlen) _ 0 _ 0 rfl (AW _) ⟨⟨_,Ao _ rfl,rfl,rfl⟩,?_⟩ ?_ rfl λh' tk hd' hk=>Ae ?_))
 ·intro hm
  simp only[Ai,As,A7] at hm
  rcases hm with e|e
  ·exact absurd e (Av hDl)
  ·exact absurd e.symm hpD
 ·exact hP i v (by simpa using q)
 ·exact PlainL.isList ⟨ol,nl,keep _ _ e1,e2,e3,e4⟩
 ·obtain ⟨o,es,ep,t,ho,r⟩:=hD
  exact ⟨o,es,ep,t,keep _ _ ho,r⟩
 ·refine h h' tk hd' λb o hb q=>?_
  have lt:=Al q;exact hk b o (λhm=>absurd (Aj.mp hm) (Av lt)) hb (keep b o q)
theorem qwm {p:Addr} {its:List Value} {rs:List K} {Q:Value->Shared->Prop} (hl:PlainL s.heap p its.toArray) (hA:A.handled=none) (hn:its.length<=1000) (hlen:rs.length=its.length)
  (hP:∀ (i:Nat) v,its[i]?=some v->∃ k,knd.is k v=true/\v.scannable=true/\rs[i]?=some k)
  (h:∀ h' tk,h'.SetOf knd s.heap.objs.size (λq=>decide (q∈rs.reverse)) (qfa rs.reverse)->(∀ b o,s.heap.get? b=some o->h'.get? b=some o)->Q (.ref s.heap.objs.size) { s with heap:=h',toks:=tk }) :
  wpAny (model prog w) A (call (.type "set") [.ref p]) Q E s:=by
 obtain ⟨c,tl,hmro⟩:=Cg.mro;have hmade:=Cg.made;have hsub:=Cg.sub;refine BY (D9 ?_)
 show wpAny _ _ (callAny (.type "set") _) _ _ _
 refine Ae ⟨DL _ (by decide +kernel),Dt F.entry_type_call ?_⟩;rw[Around.under_plain (weight_type_call_type "set" [.ref p] []) rfl];have h1:=Cg.notType;have h2:=Cg.canCreate;have hct:=qmp (.ref p)
 repeat (any_goals (first|assumption|wp_step))
 refine BF (qzf (E:=E) (.ref p) (Q₁:=λobj s₁=>∃ led:Bool,obj=.ref s.heap.objs.size/\s₁={ s with heap:=s.heap.push { cls:=.type "set",dict:=none,data:=.set #[] 0 (.fresh 0 0 led) } }) λled=>⟨led,rfl,rfl⟩) λr s₁ hr=>?_
 cases r with
 | error e=>exact hr
 | ok fl =>
  cases fl with
  | ret obj =>
   obtain ⟨led,rfl,rfl⟩:=hr;have hS:(s.heap.push { cls:=.type "set",dict:=none,data:=.set #[] 0 (.fresh 0 0 led) }).get? s.heap.objs.size=some { cls:=.type "set",dict:=none,data:=.set #[] 0 (.fresh 0 0 led) }:=Ao _ rfl;have hT:Shared.TypeIs { s with heap:=s.heap.push { cls:=.type "set",dict:=none,data:=.set #[] 0 (.fresh 0 0 led) } } (.ref s.heap.objs.size) "set" :=⟨_,hS,rfl⟩;have hli:=Cg.init.lookup;have hbi:=Cg.init.bind (.ref s.heap.objs.size)
   repeat (any_goals (first|assumption|wp_step))
   refine BF (BZ (R:=wants (λr s₂=>r=.none/\Q (.ref s.heap.objs.size) s₂) E) Cg.init.plain F.entry_set_init (qtp hT ?_)) λr₂ s₂ hr₂=>?_
   ·unfold Builtin.«set.__init__» noKeywords
    have hl':PlainL (s.heap.push { cls:=.type "set",dict:=none,data:=.set #[] 0 (.fresh 0 0 led) }) p its.toArray:=by
     obtain ⟨ol,nl,e1,e2,e3,e4⟩:=hl;exact ⟨ol,nl,Ab _ e1,e2,e3,e4⟩
    have hpD:p≠s.heap.objs.size:=by
     obtain ⟨ol,nl,e1,e2,e3,e4⟩:=hl;exact Av (Al e1)
    have hnew:(s.heap.push { cls:=.type "set",dict:=none,data:=.set #[] 0 (.fresh 0 0 led) }).SetOf knd s.heap.objs.size (λ_=>false) 0:=(setObjOf_fresh (knd:=knd) led).setOf hS (by decide)
    repeat (any_goals (first|(refine qwl hl' hpD hA hn hlen hP hnew (λh' tk hd hk=>?_))|assumption|wp_step))
    exact ⟨rfl,h h' tk hd λb o q=>hk b o (Av (Al q)) (Ab _ q)⟩
   ·cases r₂ with
    | error e=>exact hr₂
    | ok fl₂ =>
     cases fl₂ with
     | ret r =>
      obtain ⟨rfl,hq⟩:=hr₂
      repeat (any_goals (first|assumption|wp_step))
     | _=>exact hr₂.elim
  | _=>exact hr.elim
end
def qBm (a:Addr) (n:Nat):HO:=.ext λh=>∃ o es ep t,h.get? a=some o/\o.ExactSet/\o.data=.set es ep t/\t.fits es.size=true/\es.size=n
theorem qrd:∀ {ss:List Str} {us:List Value},Vals (ss.map V.str) us->ss.length=us.length/\∀ (i:Nat) v,us[i]?=some v->∃ k t,v=.str k t/\ss[i]?=some k
 | [],_,.nil=>⟨rfl,λi v h=>by simp at h⟩
 | x :: ss,_,.cons ⟨t,e⟩ r=>by
  subst e;obtain ⟨h1,h2⟩:=qrd r;refine ⟨by simp[h1],λi v h=>?_⟩
  cases i with
  | zero=>cases h;exact ⟨x,t,rfl,rfl⟩
  | succ i=>exact h2 i v h
theorem qre {X:Cx} (hc:X.calm=true):CallR X (.type "set") (λxs H Q=>∃ (p:Addr) (ss:List Str),xs=[.ref p]/\SqL X.K H p (ss.map V.str)/\ss.length<=1000/\∀ a H',New H H' a (qBm a (qfa ss.reverse))->Q (.ref a) H'):=by
 intro pins s σ H xs us Q I r h;obtain ⟨p,ss,rfl,hq,hz,q⟩:=h;obtain ⟨u,rfl,ru⟩:=vals1 r
 cases (show u=Value.ref p from ru)
 obtain ⟨its,rv,pl,_⟩:=I.list hq;obtain ⟨hl,hP⟩:=qrd rv;refine qwm (knd:=PySem.strKind X.prog X.w) pl (I.ok.hd hc) (by omega) hl (λi v e=>?_) λh' tk hd hk'=>?_
 ·obtain ⟨k,t,rfl,e'⟩:=hP i v e
  exact ⟨k,by simp[PySem.strKind,Value.isStrOf],rfl,e'⟩
 ·obtain ⟨o,es,ep,t,ho,hex,hdt,_,_,_,hf,hn⟩:=hd
  refine ⟨.ref s.heap.objs.size,_,I.laid (a:=s.heap.objs.size) (o:=qBm s.heap.objs.size (qfa ss.reverse)) (h':=h') (t':=tk) hk' (Ag _) ?_,rfl,q _ _ (qbi (I.hok.fresh (Ag _)))⟩;refine ⟨⟨o,es,ep,t,ho,hex,hdt,hf,hn⟩,⟨o,ho⟩,λh1 h2 x y=>?_⟩;obtain ⟨o,es,ep,t,ho,r⟩:=x;exact ⟨o,es,ep,t,y _ ho,r⟩
theorem qrf {X:Cx}:CallR X (.builtin "len") (λxs H Q=>∃ (a:Addr) (n:Nat),xs=[.ref a]/\H a=some (qBm a n)/\n<=1000/\Q (.int n) H):=by
 intro pins s σ H xs us Q I r h;obtain ⟨a,n,rfl,ha,hz,q⟩:=h;obtain ⟨u,rfl,ru⟩:=vals1 r
 cases (show u=Value.ref a from ru)
 obtain ⟨⟨o,es,ep,t,ho,hex,hdt,hf,hn⟩,_⟩:=I.hok a _ ha;refine call_len_set ho hex hdt hf (by omega) ?_;exact ⟨.int n,H,I.tok (s.toks+1+1),⟨_,by rw[hn]⟩,q⟩
theorem qzg:bootBuiltins "set" = some (.type "set"):=by decide +kernel
open PySem PySem.Spec PyProof.Rows
def leT (a b:List Nat):Bool:=decide (¬ b<a)
def qbm (l:List (List Nat)):List (List Nat):=l.mergeSort leT
theorem qk6 (a b c:List Nat) (h1:leT a b=true) (h2:leT b c=true):leT a c=true:=by
 unfold leT at *
 have h1:=AE h1;have h2:=AE h2;exact AF (List.le_trans h1 h2)
theorem qrg (a b:List Nat):(leT a b || leT b a)=true:=by
 unfold leT
 rcases List.le_total a b with h|h
 ·rw[show decide (¬ b<a)=true from AF h];rfl
 ·rw[show decide (¬ a<b)=true from AF h,EW]
theorem qtq {a b:List Nat} (h1:leT a b=true) (h2:leT b a=true):a=b:=List.le_antisymm (AE h1) (AE h2)
theorem qa8 (l:List (List Nat)):(qbm l).Perm l:=List.mergeSort_perm l leT
theorem qnx (l:List (List Nat)):(qbm l).Pairwise (λa b=>leT a b=true):=EI qk6 qrg l
theorem qzh:∀ {a b:List (List Nat)},a.Perm b->a.Pairwise (λa b=>leT a b=true)->b.Pairwise (λa b=>leT a b=true)->a=b
 | [],b,p,_,_=>p.nil_eq
 | x :: a,[],p,_,_=>absurd p.symm.nil_eq (by simp)
 | x :: a,y :: b,p,h1,h2=>by
  have h1':=BQ.mp h1;have h2':=BQ.mp h2;have e:x=y:=by
   rcases Ai.mp (p.mem_iff.mp (Ap (a:=x) (l:=a))) with e|e
   ·exact e
   ·rcases Ai.mp (p.symm.mem_iff.mp (Ap (a:=y) (l:=b))) with e'|e'
    ·exact e'.symm
    ·exact qtq (h1'.1 y e') (h2'.1 x e)
  subst e;rw[qzh (List.Perm.cons_inv p) h1'.2 h2'.2]
theorem qj7 {a b:List (List Nat)} (p:a.Perm b) (h:a.Pairwise (λa b=>leT a b=true)):a=qbm b:=qzh (p.trans (qa8 b).symm) h (qnx b)
theorem qf2 {a b:List (List Nat)} (p:a.Perm b):qbm a=qbm b:=qj7 ((qa8 a).trans p) (qnx a)
theorem qk7:∀ (x:List Nat) (l:List (List Nat)),risingS (S x) (l.map S)=true->(x :: l).Pairwise (λa b=>leT a b=true)
 | x,[],_=>Dh ..
 | x,y :: l,h=>by
  have h:(!ltCps (S y).cps.toList (S x).cps.toList && risingS (S y) (l.map S))=true:=h;rw[CK] at h;have t:=qk7 y l h.2;have e:leT x y=true:=by
   have h1:=h.1;rw[ltCps_eq] at h1;unfold leT S at *
   simpa using h1
  refine BQ.mpr ⟨λz hz=>?_,t⟩
  rcases Ai.mp hz with rfl|hz
  ·exact e
  ·exact qk6 _ _ _ e ((BQ.mp t).1 z hz)
theorem qo4:∀ {l:List (List Nat)},sortedS (l.map S)=true->l.Pairwise (λa b=>leT a b=true)
 | [],_=>.nil
 | x :: l,h=>qk7 x l h
theorem qB6 (x:Str):S x.cps.toList=x:=by unfold S;simp
theorem qny {ss:List (List Nat)} {ms:List Str} (p:ms.Perm (ss.map S)) (h:sortedS ms=true):ms=(qbm ss).map S:=by
 have e:ms=(ms.map λx=>x.cps.toList).map S:=by
  rw[AG]
  conv=>lhs;rw[<- Fl ms]
  exact AZ λx _=>(qB6 x).symm
 have e2:(ss.map S).map (λx=>x.cps.toList)=ss:=by
  rw[AG]
  conv=>rhs;rw[<- Fl ss]
  exact AZ λx _=>by show (S x).cps.toList=x;unfold S;simp
 rw[e] at h;have p':=p.map (λx=>x.cps.toList);rw[e2] at p';rw[e,qj7 p' (qo4 h)]
theorem qgf {X:Cx}:CallR X (.builtin "sorted") (λxs H Q=>∃ (p:Addr) (ss:List (List Nat)),xs=[.ref p]/\SqL X.K H p (ss.map λq=>V.str (S q))/\ss.length<64/\∀ l H',New H H' l (.lst ((qbm ss).map λq=>V.str (S q)))->Q (.ref l) H'):=by
 intro pins s σ H xs us Q I r h;obtain ⟨p,ss,rfl,hq,h64,q⟩:=h;refine qk5 pins s σ H _ us Q I r ⟨p,ss.map S,rfl,by rw[AG];exact hq,by simpa using h64,λms l H' h1 h2 n=>q l H' ?_⟩;rw[qny h1 h2,AG] at n;exact n
section
variable {X:Cx}
theorem qrh {P:Program} {w:World}:∀ {kvs:List (Key×V)} {vs:List (Key×Value)} {es:List DictEntry},KV kvs vs->PySem.Pairs (qcd P w) es vs->kvs.length=es.length/\∀ (i:Nat) k v,kvs[i]?=some (k,v)->∃ e,es[i]?=some e/\RelV (kV k) e.key/\RelV v e.val
 | _,_,_,.nil,.nil=>⟨rfl,λi k v h=>by simp at h⟩
 | _,_,_,.cons (a:=p) (b:=q) ⟨h1,h2⟩ t,.cons (e:=e) hk hv r=>by
  obtain ⟨hl,at_⟩:=qrh t r;refine ⟨by simp[hl],λi k v h=>?_⟩
  cases i with
  | zero =>
   cases h;refine ⟨e,rfl,?_,?_⟩
   ·subst h1
    rcases qbo hk with ⟨i,t,e1,e2⟩|⟨x,t,e1,e2⟩
    ·rw[e1,e2];exact ⟨t,rfl⟩
    ·rw[e1,e2];exact ⟨t,rfl⟩
   ·rw[hv];exact h2
  | succ i=>exact at_ i k v h
theorem qh3:∀ {xs:List V} {us:List Value},xs.length=us.length->(∀ (i:Nat) x v,xs[i]?=some x->us[i]?=some v->RelV x v)->Vals xs us
 | [],[],_,_=>.nil
 | [],_ :: _,h,_=>by simp at h
 | _ :: _,[],h,_=>by simp at h
 | x :: xs,u :: us,h,g=>.cons (g 0 x u rfl rfl) (qh3 (by simpa using h) λi y v hy hv=>g (i+1) y v hy hv)
theorem qi3 (hc:X.calm=true):CallR X (.builtin "sorted") (λxs H Q=>∃ (a:Addr) (kvs:List (Key×V)) (ss:List (List Nat)),xs=[.ref a]/\Rd H a (.dK kvs)/\kvs.map (·.1)=ss.map (λq=>Sum.inr (S q))/\ss.length<64/\∀ l H',New H H' l (.lst ((qbm ss).map λq=>V.str (S q)))->Q (.ref l) H'):=by
 intro pins s σ H xs us Q I r h;obtain ⟨a,kvs,ss,rfl,ha,ek,h64,q⟩:=h;obtain ⟨u,rfl,rx⟩:=vals1 r
 cases (show u=Value.ref a from rx)
 obtain ⟨hz,lo,vs,kt,o,es,ep,e1,e2,e3,ek',e4,_⟩:=qkx I.hok ha;have hR:RawD s.heap a es ep:=⟨o,e1,e2,e3⟩;obtain ⟨hl,at_⟩:=qrh kt e4;have hl:kvs.length=es.size:=by simpa using hl
 have lk:kvs.length=ss.length:=by have:=congrArg List.length ek;simpa using this
 refine Eu kind_sorted plain_sorted entry_sorted (args_sorted1 _) ?_;unfold Builtin.«sorted»;refine Aa (m:=checkCount "sorted" 1 1 _) (Ae ?_);refine Aa (PySem.W.kdu_collect (quo lo) (I.ok.hd hc) hR (by rw[Bh];omega) λh' tk acc hk hacc=>?_);have hlen:acc.toList.length=ss.length:=by rw[A0,hacc.1];omega
 have rv:Vals ((ss.map S).map V.str) acc.toList:=by
  refine qh3 (by simpa using hlen.symm) λi x v hx hv=>?_
  obtain ⟨e,he,hve⟩:=hacc.2 i v (by rw[<- BU];exact hv);have hi:i<kvs.length:=by have:=(Am.mp hv).1;omega
  obtain ⟨e',he',hk',_⟩:=at_ i kvs[i].1 kvs[i].2 (by rw[Ac hi]);rw[BU,he] at he'
  cases he'
  have e5:(kvs.map (·.1))[i]?=some kvs[i].1:=by simp[hi]
  rw[ek,Ay] at e5;rw[AG,Ay] at hx
  cases hq:ss[i]? with
  | none=>rw[hq] at hx;cases hx
  | some z =>
   rw[hq] at hx e5;cases hx;have e6:=AH e5;rw[<- e6] at hk';rw[hve];exact hk'
 have hS:StrsAre acc.toList (ss.map S):=qgr rv;have I':Inv X pins σ H { s with heap:=h',toks:=tk }:=I.kept hk;refine Aa (DJ ?_ (by rw[hlen,Bh];omega));have hoL:(h'.push (seqObj "list" acc.toList.toArray 0)).get? h'.objs.size=some (seqObj "list" acc.toList.toArray 0):=Ao _ rfl;refine Aa (Bg (BG slot_list_sort ⟨_,hoL,rfl⟩ entry_list_sort (list_sort_treeK (s:={ s with heap:=h'.push (seqObj "list" acc.toList.toArray 0),toks:=tk }) strKind_oneLt hoL hS.keysOf (λv₁ v₂ rest e=>keyKind_strs (by rw[<- e];exact hS)) (by omega) λst' a1 a2=>⟨_,rfl,?_⟩) (args_list_sort _)));refine Ae ⟨_,rfl,?_⟩;obtain ⟨ms,m1,m2,m3⟩:=sorted_out_str hS a1 a2;have em:=qny m2 m3;subst em;obtain ⟨c,hat⟩:∃ c,(sortedHeap (h'.push (seqObj "list" acc.toList.toArray 0)) h'.objs.size acc.toList ((arrOf st').map (·.2))).get? h'.objs.size=some (seqObj "list" ((arrOf st').map (·.2)) c):=sortedHeap_at hoL;have kp:∀ b ob,h'.get? b=some ob->(sortedHeap (h'.push (seqObj "list" acc.toList.toArray 0)) h'.objs.size acc.toList ((arrOf st').map (·.2))).get? b=some ob:=λb ob hb=>by
  have lb:=Al hb;rw[sortedHeap_old (Av lb) (by rw[Ej];exact CF lb)];exact Ab _ hb
 have hl2:((qbm ss).map S).length<=sizeLine:=by rw[Ad,(qa8 ss).length_eq,Bh];omega
 have vv:=qh5 m1;rw[AG] at vv;exact ⟨.ref h'.objs.size,upd H h'.objs.size (.lst ((qbm ss).map λq=>V.str (S q))),I'.laid (t':=tk) kp (Ag _) ⟨by simpa using hl2,_,c,vv,by rw[hat]⟩,rfl,q _ _ (qbi (I'.hok.fresh (Ag _)))⟩
end
open PySem PySem.Spec PyProof.Rows
end L2
namespace L2
open PySem PySem.Spec PyProof.Rows
open PySem PySem.Spec PyProof.Rows
def cxU (CX:CXT) (P:Program) (w:World) (K:Frag) (mg:Str->Option Value) (base:Heap) (N:List Str) (qual:Str) (scope:Scope) (f:Addr) (cd:Value) (A:Around) (outer:List Env) (s:Shared) (H:Hp) (E:XK):Cx:=
 {qou CX P w K mg base N qual scope f cd A outer s H E with calm:=false }
structure RoomU (k:Nat) (A:Around):Prop where
 dp:A.depth+3*k+5<recursionLimit
 un:A.units+16*k+200<cLine
theorem Room.markU {k:Nat} {A:Around} (r:Room k A) (h:Option Value):RoomU k (A.mark h):=⟨r.dp,r.un⟩
theorem RoomU.deeper {k:Nat} {A:Around} (r:RoomU (k+1) A) (env:Env):RoomU k (A.deeper env):=
 ⟨by have:=r.dp;show A.depth+1+3*k+5<_;omega,by have:=r.un;show A.units+3+16*k+200<_;omega⟩
theorem RoomU.depth {k:Nat} {A:Around} (r:RoomU k A):A.depth<recursionLimit:=by have:=r.dp;omega
structure qtr (P:Program) (w:World) (K:Frag) (mg:Str->Option Value) (base:Heap) (CX:CXT) (k:Nat) (f:Addr) (fd:FuncData) (ps:List Str) (sp:Sp):Prop where
 len:∀ vs H Q E,sp vs H Q E->vs.length=ps.length
 run:∀ (A:Around) (outer:List Env) (s:Shared) (H:Hp) (args:Args) (us:List Value) (vs:List V) (Q:VK) (E:XK),RoomU k A->Env0 P w K mg base A outer s H->BindsTo s fd args (ps.zip us)->Vals vs us->sp vs H Q E ->
  codeAny (model P w) A (.call (.ref f) args) (CR CX outer P w H s Q E) s
theorem qo5 {CX:CXT} {P:Program} {w:World} {K:Frag} {mg:Str->Option Value} {base:Heap} {N ps:List Str} {qual:Str} {scope:Scope} {f:Addr} {cd:Value} {A:Around} {outer:List Env} {s s1:Shared} {H:Hp} {E:XK} {us:List Value} {vs:List V}
  (S:qak N ps scope) (e0:Env0 P w K mg base A outer s H) (hl:vs.length=ps.length) (r:Vals vs us)
  (x:InCallC s s.heap.objs.size (bindL (envOfC qual scope s.heap.objs.size f cd).kindOf (ps.zip us) λ_=>none) (cellsFrom (s.heap.objs.size+1) scope.names []) (bindC (envOfC qual scope s.heap.objs.size f cd).kindOf (ps.zip us) λ_=>none) s1) :
  Inv (cxU CX P w K mg base N qual scope f cd A outer s H E) [] (start N vs) H s1:=by
 have hpl:ps.length<=N.length:=by have:=congrArg List.length S.pre;rw[Au] at this;omega
 obtain ⟨h1,tk,rfl,hk⟩:=x.done;have noA:∀ b:Addr,b ∉ (cxU CX P w K mg base N qual scope f cd A outer s H E).ex:=λb z=>absurd (show b∈([]:List Addr) from z) (by simp)
 refine ⟨⟨e0.mod,S.kind,rfl,rfl,Ag _,λy z c h1 h2=>?_,λy hy=>?_,λy c _ h=>?_,λz=>Bool.noConfusion z,Fo e0.frames,.inr ⟨rfl,rfl⟩,λb z=>absurd z (noA b),e0.bs,e0.bsz,λb _ _=>noA b,λb z=>absurd z (noA b),e0.funs,e0.frf⟩,
  rfl,e0.bare,Un.kept hk,⟨_,x.toInCall.ns,λi y v h1 h2 h3=>?_⟩,λy c h=>⟨_,x.cell y c h⟩,e0.hok.fresh (Ag _),λy c h=>?_,λp hp=>absurd (show p∈([]:List (Addr×Obj)) from hp) (by simp),e0.hok.kept hk,?_⟩
 ·exact name_of_addr x.apart (Bk h1) (Bk h2)
 ·have hy:scope.names.lookup y=some .cell\/scope.names.lookup y=some .free:=hy
  rcases hy with hy|hy
  ·exact qhh hy
  ·exact absurd rfl (S.nofree _ (Bk hy))
 ·exact A8 (x.above y c (Bk h))
 ·have hi:i<vs.length:=by
   unfold start at h2
   by_cases hi:i<vs.length
   ·exact hi
   ·rw[Bw (by simpa using hi)] at h2
    rw[EJ] at h2
    split at h2<;>cases h2
  have ha:vs[i]?=some v:=by
   unfold start at h2;rw[Bn (by simpa using hi),Ay] at h2
   cases e:vs[i]? with
   | none=>rw[e] at h2;cases h2
   | some a=>rw[e] at h2;cases h2;rfl
  obtain ⟨u,hu,rv⟩:=r.get ha;have hp:ps[i]?=some y:=by
   rw[<- S.pre,EE (by omega)];exact h1
  have ndP:ps.Nodup:=by rw[<- S.pre];exact S.nd.sublist (List.take_sublist _ _)
  refine ⟨u,rv,?_⟩
  rcases S.par y (Aq hp) with k|k
  ·exact .inl ⟨k,qhp ndP hp hu k⟩
  ·obtain ⟨c,e⟩:=qhh (n:=s.heap.objs.size+1) k
   refine .inr ⟨.inl k,c,e,?_⟩;have q:=x.cell y c e;rw[qhq ndP hp hu (by show scope.names.lookup y≠_;rw[k];decide)] at q;exact q
 ·exact e0.hok.fresh (A8 (x.above y c (Bk h)))
 ·unfold start
  show _=N.length
  rw[Az,Ad,E8];omega
theorem qzi {CX:CXT} {P:Program} {w:World} {K:Frag} {mg:Str->Option Value} {base:Heap} {k:Nat} {f:Addr} {name qual:Str} {params:Arguments} {body:List Stmt} {scope:Scope} {dV kV doc pm cdv ct oc:Value} {an od:Option Addr}
  {osl:Array (Option Value)} {N ps:List Str} {sp:Sp} (lk:K.lookup f=some ⟨oc,od,.func (fnOf name qual params body scope dV kV doc pm an cdv ct),osl⟩) (hcd:codeIn K cdv qual=true) (S:qak N ps scope)
  (len:∀ vs H Q E,sp vs H Q E->vs.length=ps.length)
  (hbody:∀ (A:Around) (outer:List Env) (s:Shared) (H:Hp) (vs:List V) (Q:VK) (E:XK),RoomU k (A.deeper (envOfC qual scope s.heap.objs.size f cdv))->sp vs H Q E ->
   ∃ t,PSs (cxU CX P w K mg base N qual scope f cdv A outer s H E) body t/\t { nx:=λ_ H'=>Q .non H',rt:=Q } (start N vs) H) :
  qtr P w K mg base CX (k+1) f (fnOf name qual params body scope dV kV doc pm an cdv ct) ps sp:=by
 refine ⟨len,λA outer s H args us vs Q E hr e0 hb r hsp=>?_⟩;have hl:=len _ _ _ _ hsp;have KX:K.In s.heap:=e0.mod.kin.keeps λb o e=>(e0.bs b o e).1
 have lim:s.heap.NoLimit:=e0.mod.nolimit.keeps λb o e=>(e0.bs b o e).1
 have hkind:∀ y∈ps.zip us,scope.names.lookup y.1=some .local\/(scope.names.lookup y.1=some .cell/\((cellsFrom (s.heap.objs.size+1) scope.names []).lookup y.1).isSome=true):=fun ⟨n,v⟩ hy=>by
  rcases S.par n (Cm hy).1 with q|q
  ·exact .inl q
  ·exact .inr ⟨q,Dm _ _ _ (.inl q)⟩
 refine EZ hr.depth (KX _ _ lk) rfl S.co S.gen rfl (PySem.W.codeRec_of KX hcd) (hb _ _ _ _ ?_);refine Ei S.kind hkind λenv he s1 x=>?_
 subst he;refine ⟨lim.keeps x.toInCall.keep,codeAny_func ?_⟩;obtain ⟨t,ht,hq⟩:=hbody A outer s H vs Q E (hr.deeper _) hsp;have I:Inv (cxU CX P w K mg base N qual scope f cdv A outer s H E) [] (start N vs) H s1:=qo5 S e0 hl r x;refine AY (ht [] s1 (start N vs) H _ I hq) (λfl s' hs=>?_) λe s' hs=>hs
 have fin:∀ {σ':St} {H':Hp} {v:V} {u:Value},Inv (cxU CX P w K mg base N qual scope f cdv A outer s H E) [] σ' H' s'->RelV v u->Q v H'->CE outer P w H s Q u s':=
  fun {σ' H' v u} J rv q=>⟨v,H',J.os,J.bare,J.base,J.hok,rv,q⟩
 cases fl with
 | ret u =>
  obtain ⟨v,σ',H',J,rv,q⟩:=hs;exact fin J rv q
 | next =>
  obtain ⟨σ',H',J,q⟩:=hs;exact fin (v:=V.non) (u:=Value.none) J rfl q
 | brk =>
  obtain ⟨_,_,_,q⟩:=hs;exact False.elim q
 | cont =>
  obtain ⟨_,_,_,q⟩:=hs;exact False.elim q
section
variable {P:Program} {w:World} {K:Frag} {mg:Str->Option Value} {base:Heap}
theorem Fun.okU {x qual:Str} {st:Stmt} {f:Addr} {fd:FuncData} {N ps:List Str} {k:Nat} {sp:Sp} (F:Fun K x qual st f fd) (S:qak N ps (qab st)) (len:∀ vs H Q E,sp vs H Q E->vs.length=ps.length)
  (hbody:∀ (cdv:Value) (A:Around) (outer:List Env) (s:Shared) (H:Hp) (vs:List V) (Q:VK) (E:XK),RoomU k (A.deeper (envOfC qual (qab st) s.heap.objs.size f cdv))->sp vs H Q E ->
   ∃ t,PSs (cxU CX0 P w K mg base N qual (qab st) f cdv A outer s H E).nox (qaj st) t/\t { nx:=λ_ H'=>Q .non H',rt:=Q } (start N vs) H):qtr P w K mg base CX0 (k+1) f fd ps sp:=by
 obtain ⟨oc,od,kV,doc,pm,an,cdv,ct,osl,rfl,lk,hcd⟩:=F.ex;refine qzi lk hcd S len λA outer s H vs Q E hr hsp=>?_
 obtain ⟨t,h,q⟩:=hbody cdv A outer s H vs Q E hr hsp;exact ⟨t,h.nox,q⟩
end
open PySem PySem.Spec PyProof.Rows
def qut (P:Program) (w:World) (K:Frag) (mg:Str->Option Value) (base:Heap) (C:Addr) (k:Nat) (m:Str) (ps:List Str) (sp:Sp):Prop:=
 ∃ f fd,qtr P w K mg base CX0 k f fd ps sp/\qgz K C m f/\Binds K fd ps []
section
variable {X:Cx} {k:Nat} {f C:Addr} {fd:FuncData} {ps:List Str} {sp:Sp} {m:Str} {pos apos:Pos} {o:Expr} {ta:TE}
theorem qwn {pins:List (Addr×Obj)} {σ:St} {H:Hp} {s:Shared} {Q:VK} {us:List Value} {vs:List V} (F:qtr X.prog X.w X.K X.mg X.base CX0 k f fd ps sp) (hr:RoomU k X.A) (hb:Binds X.K fd ps [])
  (I:Inv X pins σ H s) (r:Vals vs us) (h:sp vs H Q E0):wpAny (model X.prog X.w) X.A (call (.ref f) us) (EP X pins σ Q) X.xe s:=by
 have hl:(us ++ []).length=ps.length:=by rw[Be,<- r.length];exact F.len _ _ _ _ h
 have hb':=hb s us I.kIn hl;rw[Be] at hb';refine BY (BF (F.run X.A X.stack s H ⟨us,[]⟩ us vs Q E0 hr I.env0 hb' r h) λr s' hq=>?_)
 cases r with
 | error e=>exact qqm pins σ H s e s' I hq
 | ok fl =>
  cases fl with
  | ret u=>exact I.after hq
  | next=>exact False.elim hq
  | brk=>exact False.elim hq
  | cont=>exact False.elim hq
theorem qwo {pl:Sem Bool} (he:PE X o ta) (c:Cls X.K C) (D:qut X.prog X.w X.K X.mg X.base C k m ps sp) (hr:RoomU k X.A)
  (ht:eval (.Call (.Attribute o m apos) [] [] pos) X.env=(do
   let ov <- eval o X.env
   standAt apos.atName
   let (f,first) <- holding [ov] (getMethod ov m pl)
   callWith pos f first (backTo pos (starEach [] X.env)) (backToKw pos (keywordEach [] X.env))):=by rfl) :
  PE X (.Call (.Attribute o m apos) [] [] pos) (qqa C m sp [] E0 ta qm8):=by
 obtain ⟨f,fd,F,hm,hb⟩:=D;intro pins s σ H Q I h;refine BS (pl:=pl) (thn (he pins s σ H _ I h) λu s1 hq__=>?_) ht;obtain ⟨x,H1,I1,rx,a,dx,fs,ex,ea,l,q⟩:=hq__;subst ex;obtain rfl:u=Value.ref a:=rx;refine qfr I1 ea c hm l ?_;exact PySem.W.callWith_K0 (first:=[.ref a]) I1.kIn hm.kp (qwn (us:=[.ref a]) (vs:=[.ref a]) F hr hb I1 (.cons rfl .nil) q)
end
open PySem PySem.Spec PyProof.Rows
abbrev qdq (h:Heap) (T:Addr) (a b c:Value):Prop:=h.get? T=some { cls:=.type "tuple",data:=.seq #[a,b,c] }
structure Z3 (z TI TO i1 i2 i3 l1 l2 l3:Addr):Prop where
 nd:[z,TO,i1,i2,i3].Nodup
 fx:∀ c∈[TI,l1,l2,l3],c ∉ [z,TO,i1,i2,i3]
section
variable {prog:Program} {w:World} {A:Around} {E:Value->Shared->Prop} {s:Shared}
theorem qmq {T:Addr} {a b c x:Value} {k:Nat} {Q:Unit->Shared->Prop} (hT:qdq s.heap T a b c)
  (h:∀ h',h'.get? T=some { cls:=.type "tuple",data:=.seq ((#[a,b,c]:Array Value).setIfInBounds k x) }->Heap.SameBut T s.heap h'->Q () { s with heap:=h' }) :
  wpAny (model prog w) A (updateSeq T (·.setIfInBounds k x)) Q E s:=by
 refine wpAny_updateSeq hT rfl (h _ ?_ (CV ..));rw[BI _ hT rfl]
 simp[Obj.mapSeq]
theorem qwp {z TI TO i1 i2 i3 l1 l2 l3:Addr} {k:Nat} {xs ys us:Array Value} {x y u a b c:Value} {Q:Value->Shared->Prop} (D:Z3 z TI TO i1 i2 i3 l1 l2 l3)
  (hz:IsZip s.heap z TI TO .none) (hTI:qdq s.heap TI (.ref i1) (.ref i2) (.ref i3)) (hTO:qdq s.heap TO a b c)
  (h1:s.heap.IsListIter i1 l1 k) (h2:s.heap.IsListIter i2 l2 k) (h3:s.heap.IsListIter i3 l3 k) (hl1:s.heap.IsList l1 xs) (hl2:s.heap.IsList l2 ys) (hl3:s.heap.IsList l3 us) (hx:xs[k]?=some x) (hy:ys[k]?=some y) (hu:us[k]?=some u)
  (hQ:∀ h',IsZip h' z TI TO (rawInt s.heap.objs.size)->qdq h' TO x y u->h'.IsListIter i1 l1 (k+1)->h'.IsListIter i2 l2 (k+1)->h'.IsListIter i3 l3 (k+1)->qdq h' s.heap.objs.size x y u ->
   (∀ c o,c ∉ [z,TO,i1,i2,i3]->s.heap.get? c=some o->h'.get? c=some o)->Q (.ref s.heap.objs.size) { s with heap:=h' }) :
  wpAny (model prog w) A (Builtin.«zip.__next__» ⟨[.ref z],[]⟩) (λfin s'=>∃ v,fin=.done (.ret v)/\Q v s') E s:=by
 have nd:=D.nd;simp only[Bc,Ai,As,A7,CZ,C3,Fh,CC] at nd;obtain ⟨⟨zT,z1,z2,z3⟩,⟨T1,T2,T3⟩,⟨i12,i13⟩,i23⟩:=nd;have f1:=D.fx l1 (by simp);have f2:=D.fx l2 (by simp);have f3:=D.fx l3 (by simp);simp only[Ai,As,A7,CZ] at f1 f2 f3
 show wpAny _ _ (field (.ref z) 2 >>= _) _ _ _
 refine Aa (Bp hz rfl (x:=.bool false) rfl ?_)
 show wpAny _ _ (field (.ref z) 3 >>= _) _ _ _
 refine Aa (Bp hz rfl (x:=.ref TI) rfl ?_);refine Aa (CB hTI rfl ?_)
 show wpAny _ _ (Builtin.SmallTypes.ownedTupleIsFree (.ref z) >>= _) _ _ _
 refine Aa ?_;unfold Builtin.SmallTypes.ownedTupleIsFree;refine Aa (Bp hz rfl (x:=.none) rfl (Ae ?_));simp only[DO];refine Aa (wpAny_rule ?_);refine Aa (Bp hz rfl (x:=.ref TO) rfl ?_);refine Aa (Co hz (by simp) λg1 hz1 s1=>?_)
 replace hz1:IsZip g1 z TI TO .ellipsis:=hz1
 refine Aa ?_;simp only[List.zipIdx_cons,List.zipIdx_nil,List.forIn_cons,List.forIn_nil];refine Aa (Aa (DI ?_))
 show wpAny _ _ (Builtin.SmallTypes.nextOf (.ref i1) >>= _) _ _ _
 refine Aa (Dl (h1.extBut s1.extBut (AX z1)) (hl1.extBut s1.extBut f1.1) hx λg2 q1 s2=>Ae ?_);have k2:∀ c o,c≠z->c≠i1->s.heap.get? c=some o->g2.get? c=some o:=λc o a b e=>s2.extBut _ _ b (s1.extBut _ _ a e)
 have t2:qdq g2 TO a b c:=k2 _ _ (AX zT) T1 hTO;refine Aa (CB t2 rfl ?_);refine Aa (qmq t2 λg3 t3 s3=>?_)
 replace t3:qdq g3 TO x b c:=t3
 have k3:∀ c o,c≠z->c≠i1->c≠TO->s.heap.get? c=some o->g3.get? c=some o:=λc o a b d e=>s3.extBut _ _ d (k2 c o a b e)
 refine Aa (D0 (Ae ?_));refine Aa (Aa (DI ?_))
 show wpAny _ _ (Builtin.SmallTypes.nextOf (.ref i2) >>= _) _ _ _
 refine Aa (Dl (h2.at λo e=>k3 _ o (AX z2) (AX i12) (AX T2) e) (hl2.at λo e=>k3 _ o f2.1 f2.2.2.1 f2.2.1 e) hy λg4 q2 s4=>Ae ?_);have t4:qdq g4 TO x b c:=s4.extBut _ _ T2 t3;refine Aa (CB t4 rfl ?_);refine Aa (qmq t4 λg5 t5 s5=>?_)
 replace t5:qdq g5 TO x y c:=t5
 have k5:∀ c o,c≠z->c≠i1->c≠TO->c≠i2->s.heap.get? c=some o->g5.get? c=some o:=λc o a b d f e=>s5.extBut _ _ d (s4.extBut _ _ f (k3 c o a b d e))
 refine Aa (D0 (Ae ?_));refine Aa (Aa (DI ?_))
 show wpAny _ _ (Builtin.SmallTypes.nextOf (.ref i3) >>= _) _ _ _
 refine Aa (Dl (h3.at λo e=>k5 _ o (AX z3) (AX i13) (AX T3) (AX i23) e) (hl3.at λo e=>k5 _ o f3.1 f3.2.2.1 f3.2.1 f3.2.2.2.1 e) hu λg6 q3 s6=>Ae ?_);have t6:qdq g6 TO x y c:=s6.extBut _ _ T3 t5;refine Aa (CB t6 rfl ?_);refine Aa (qmq t6 λg7 t7 s7=>?_)
 replace t7:qdq g7 TO x y u:=t7
 have k7:∀ c o,c≠z->c≠i1->c≠TO->c≠i2->c≠i3->s.heap.get? c=some o->g7.get? c=some o:=λc o a b d f g e=>s7.extBut _ _ d (s6.extBut _ _ g (k5 c o a b d f e))
 refine Aa (D0 (Ae (Ae ?_)));refine Aa (CB t7 rfl ?_);refine Aa (Eh ?_);have hsz:g7.objs.size=s.heap.objs.size:=by rw[s7.1,s6.1,s5.1,s4.1,s3.1,s2.1,s1.1]
 have hz7:IsZip g7 z TI TO .ellipsis:=s7.extBut _ _ zT (s6.extBut _ _ z3 (s5.extBut _ _ zT (s4.extBut _ _ z2 (s3.extBut _ _ zT (s2.extBut _ _ z1 hz1)))));have p1:g7.IsListIter i1 l1 (k+1):=q1.at λo e=>s7.extBut _ _ (AX T1) (s6.extBut _ _ i13 (s5.extBut _ _ (AX T1) (s4.extBut _ _ i12 (s3.extBut _ _ (AX T1) e))))
 have p2:g7.IsListIter i2 l2 (k+1):=q2.at λo e=>s7.extBut _ _ (AX T2) (s6.extBut _ _ i23 (s5.extBut _ _ (AX T2) e))
 have p3:g7.IsListIter i3 l3 (k+1):=q3.at λo e=>s7.extBut _ _ (AX T3) e
 have hzlt:z<g7.objs.size:=Al hz7
 show wpAny _ _ (Builtin.SmallTypes.ownedTupleHandOut (.ref z) (.ref g7.objs.size) >>= _) _ _ _
 refine Aa ?_;unfold Builtin.SmallTypes.ownedTupleHandOut;have hz8:IsZip (g7.push { cls:=.type "tuple",data:=.seq #[x,y,u] }) z TI TO .ellipsis:=Ab _ hz7;refine Aa (Co hz8 (by simp) λg8 hz8 s8=>?_)
 replace hz8:IsZip g8 z TI TO (rawInt g7.objs.size):=hz8
 refine Co hz8 (by simp) λg9 hz9 s9=>?_
 replace hz9:IsZip g9 z TI TO (rawInt g7.objs.size):=hz9
 have up:∀ c o,c≠z->g7.get? c=some o->g9.get? c=some o:=λc o c1 e=>s9.extBut _ _ c1 (s8.extBut _ _ c1 (Ab _ e))
 have hT9:qdq g9 g7.objs.size x y u:=s9.extBut _ _ (CD hzlt) (s8.extBut _ _ (CD hzlt) (Ao _ rfl));rw[hsz] at hz9 hT9;refine Ae ⟨_,rfl,?_⟩
 show Q (.ref g7.objs.size) _
 rw[hsz];refine hQ g9 hz9 (up _ _ (AX zT) t7) (p1.at λo e=>up _ o (AX z1) e) (p2.at λo e=>up _ o (AX z2) e) (p3.at λo e=>up _ o (AX z3) e) hT9 λc o n e=>?_
 simp only[Ai,As,A7,CZ] at n;exact up c o n.1 (k7 c o n.1 n.2.2.1 n.2.1 n.2.2.2.1 n.2.2.2.2 e)
theorem qzj {z TI TO i1 i2 i3 l1 l2 l3:Addr} {k:Nat} {xs:Array Value} {Q:Fin->Shared->Prop} (hh:A.handled=none) (D:Z3 z TI TO i1 i2 i3 l1 l2 l3)
  (hz:IsZip s.heap z TI TO .none) (hTI:qdq s.heap TI (.ref i1) (.ref i2) (.ref i3)) (h1:s.heap.IsListIter i1 l1 k) (hl1:s.heap.IsList l1 xs) (hx:xs[k]?=none)
  (hE:∀ h' e,(∀ c o,c ∉ [z,TO,i1,i2,i3]->s.heap.get? c=some o->h'.get? c=some o)->(∃ o,h'.get? e=some o/\o.cls=.type "StopIteration")->E (.ref e) { s with heap:=h' }) :
  wpAny (model prog w) A (Builtin.«zip.__next__» ⟨[.ref z],[]⟩) Q E s:=by
 have nd:=D.nd;simp only[Bc,Ai,As,A7,CZ,C3,Fh,CC] at nd;obtain ⟨⟨zT,z1,z2,z3⟩,_⟩:=nd;have f1:=D.fx l1 (by simp);simp only[Ai,As,A7,CZ] at f1
 show wpAny _ _ (field (.ref z) 2 >>= _) _ _ _
 refine Aa (Bp hz rfl (x:=.bool false) rfl ?_)
 show wpAny _ _ (field (.ref z) 3 >>= _) _ _ _
 refine Aa (Bp hz rfl (x:=.ref TI) rfl ?_);refine Aa (CB hTI rfl ?_)
 show wpAny _ _ (Builtin.SmallTypes.ownedTupleIsFree (.ref z) >>= _) _ _ _
 refine Aa ?_;unfold Builtin.SmallTypes.ownedTupleIsFree;refine Aa (Bp hz rfl (x:=.none) rfl (Ae ?_));simp only[DO];refine Aa (wpAny_rule ?_);refine Aa (Bp hz rfl (x:=.ref TO) rfl ?_);refine Aa (Co hz (by simp) λg1 hz1 s1=>?_)
 replace hz1:IsZip g1 z TI TO .ellipsis:=hz1
 refine Aa ?_;simp only[List.zipIdx_cons,List.zipIdx_nil,List.forIn_cons,List.forIn_nil];refine Aa (Aa (DI ?_))
 show wpAny _ _ (Builtin.SmallTypes.nextOf (.ref i1) >>= _) _ _ _
 refine Aa (wpAny_nextOf_list_end hh (h1.extBut s1.extBut (AX z1)) (hl1.extBut s1.extBut f1.1) hx λg2 e s2 he=>?_);obtain ⟨oe,hoe,hce⟩:=he;have hz2:IsZip g2 z TI TO .ellipsis:=s2 _ _ z1 hz1;have hez:e≠z:=λx=>by subst x;rw[hz2] at hoe;cases hoe;simp at hce
 refine Co hz2 (by simp) λg3 _ s3=>hE g3 e (λc o n x=>?_) ⟨oe,s3.extBut _ _ hez hoe,hce⟩
 simp only[Ai,As,A7,CZ] at n;exact s3.extBut _ _ n.1 (s2 _ _ n.2.2.1 (s1.extBut _ _ n.1 x))
theorem qwq {z TI TO i1 i2 i3 l1 l2 l3:Addr} {k:Nat} {xs ys us:Array Value} {x y u a b c:Value} {Q:Option Value->Shared->Prop} (D:Z3 z TI TO i1 i2 i3 l1 l2 l3)
  (hz:IsZip s.heap z TI TO .none) (hTI:qdq s.heap TI (.ref i1) (.ref i2) (.ref i3)) (hTO:qdq s.heap TO a b c)
  (h1:s.heap.IsListIter i1 l1 k) (h2:s.heap.IsListIter i2 l2 k) (h3:s.heap.IsListIter i3 l3 k) (hl1:s.heap.IsList l1 xs) (hl2:s.heap.IsList l2 ys) (hl3:s.heap.IsList l3 us) (hx:xs[k]?=some x) (hy:ys[k]?=some y) (hu:us[k]?=some u)
  (hQ:∀ h',IsZip h' z TI TO (rawInt s.heap.objs.size)->qdq h' TO x y u->h'.IsListIter i1 l1 (k+1)->h'.IsListIter i2 l2 (k+1)->h'.IsListIter i3 l3 (k+1)->qdq h' s.heap.objs.size x y u ->
   (∀ c o,c ∉ [z,TO,i1,i2,i3]->s.heap.get? c=some o->h'.get? c=some o)->Q (some (.ref s.heap.objs.size)) { s with heap:=h' }) :
  wpAny (model prog w) A (pyNext (.ref z)) Q E s:=by
 have hT:s.TypeIs (.ref z) "zip" :=⟨_,hz,rfl⟩;unfold pyNext;exact Aa (Ck (wpAny_callSpecial?_slot (name:=Str.ofString "__next__") hT Dw
  (BG Dw hT F.entry_zip_next
   (qwp D hz hTI hTO h1 h2 h3 hl1 hl2 hl3 hx hy hu λh' a1 a2 a3 a4 a5 a6 a7=>Ae (hQ h' a1 a2 a3 a4 a5 a6 a7)) (F.args_zip_next_1 _))))
theorem qwr {z TI TO i1 i2 i3 l1 l2 l3:Addr} {k:Nat} {xs:Array Value} {Q:Option Value->Shared->Prop} (hh:A.handled=none) (D:Z3 z TI TO i1 i2 i3 l1 l2 l3)
  (hz:IsZip s.heap z TI TO .none) (hTI:qdq s.heap TI (.ref i1) (.ref i2) (.ref i3)) (h1:s.heap.IsListIter i1 l1 k) (hl1:s.heap.IsList l1 xs) (hx:xs[k]?=none)
  (hQ:∀ h',(∀ c o,c ∉ [z,TO,i1,i2,i3]->s.heap.get? c=some o->h'.get? c=some o)->Q none { s with heap:=h' }):wpAny (model prog w) A (pyNext (.ref z)) Q E s:=by
 have hT:s.TypeIs (.ref z) "zip" :=⟨_,hz,rfl⟩;unfold pyNext;refine Aa (Ck (wpAny_callSpecial?_slot (name:=Str.ofString "__next__") hT Dw
  (BG Dw hT F.entry_zip_next (qzj hh D hz hTI h1 hl1 hx λh' e hk he=>?_) (F.args_zip_next_1 _))))
 obtain ⟨o,ho,hc⟩:=he;refine Aa (DT (T:= "StopIteration") (b:=true) ⟨o,ho,hc⟩ isSubtype_stop ?_);exact Ae (hQ _ hk)
end
open PySem PySem.Spec PyProof.Rows
theorem qws (a b c:Value):checkTypeCall "zip" ⟨[a,b,c],[]⟩=pure ():=by kernel_rfl
theorem qwt (a b c:Value):checkBuiltinCall "zip.__new__" ⟨[.type "zip",a,b,c],[]⟩=pure ():=by kernel_rfl
theorem qCy (a b c d:Value):argsOk "object.__init__" ⟨[a,b,c,d],[]⟩:=by
 unfold argsOk;rw[signature?_of (id:= "object.__init__") (n:=['_','_','t','i','n','i','_','_']) (o:=['t','c','e','j','b','o']) (by kernel_rfl) F.owner_object];kernel_rfl
abbrev qmr (l:Addr):Obj:={ cls:=.type "list_iterator",data:=.fields #[.ref l,.int 0 0] }
abbrev z3a (h:Heap) (l1 l2 l3:Addr):Heap:=((h.push (qmr l1)).push (qmr l2)).push (qmr l3)
abbrev z3b (h:Heap) (l1 l2 l3:Addr):Heap:=(z3a h l1 l2 l3).push { cls:=.type "tuple",data:=.seq #[.ref h.objs.size,.ref (h.push (qmr l1)).objs.size,.ref ((h.push (qmr l1)).push (qmr l2)).objs.size] }
abbrev z3c (h:Heap) (l1 l2 l3:Addr):Heap:=(z3b h l1 l2 l3).push { cls:=.type "tuple",data:=.seq #[.none,.none,.none] }
abbrev z3d (h:Heap) (l1 l2 l3:Addr):Heap:=(z3c h l1 l2 l3).push { cls:=.type "zip",data:=.fields #[.none,.bool false,.bool false,.ref (z3a h l1 l2 l3).objs.size,.ref (z3b h l1 l2 l3).objs.size] }
theorem qwu (l1 l2 l3:Addr) (xs ys us:Array Value) :
  Meets (Builtin.«zip.__new__» ⟨[.type "zip",.ref l1,.ref l2,.ref l3],[]⟩) (λ_ R s=>s.heap.IsList l1 xs/\s.heap.IsList l2 ys/\s.heap.IsList l3 us /\
   R (.ok (.ret (.ref (z3c s.heap l1 l2 l3).objs.size))) { s with heap:=z3d s.heap l1 l2 l3 }):=
 .of_wp λprog w A R s h=>by
  obtain ⟨hp,g,d,tk,os⟩:=s;obtain ⟨hl1,hl2,hl3,h⟩:=h;have hsub:=sub_zip;have hL1:Heap.IsList (Shared.heap ⟨hp,g,d,tk,os⟩) l1 xs:=hl1;have hL2:Heap.IsList (Shared.heap ⟨hp.push (qmr l1),g,d,tk,os⟩) l2 ys:=DY hl2 _;have hL3:Heap.IsList (Shared.heap ⟨(hp.push (qmr l1)).push (qmr l2),g,d,tk,os⟩) l3 us:=DY (DY hl3 _) _
  wp_walk using BW hL1,BW hL2,BW hL3
  exact ⟨_,rfl,h⟩
section
variable {prog:Program} {w:World} {A:Around} {E:Value->Shared->Prop} {s:Shared}
theorem qri {l1 l2 l3:Addr} {xs ys us:Array Value} {Q:Value->Shared->Prop} (hl1:s.heap.IsList l1 xs) (hl2:s.heap.IsList l2 ys) (hl3:s.heap.IsList l3 us)
  (h:∀ h',IsZip h' (s.heap.objs.size+5) (s.heap.objs.size+3) (s.heap.objs.size+4) .none->qdq h' (s.heap.objs.size+3) (.ref s.heap.objs.size) (.ref (s.heap.objs.size+1)) (.ref (s.heap.objs.size+2)) ->
   qdq h' (s.heap.objs.size+4) .none .none .none->h'.IsListIter s.heap.objs.size l1 0->h'.IsListIter (s.heap.objs.size+1) l2 0->h'.IsListIter (s.heap.objs.size+2) l3 0 ->
   (∀ c o,s.heap.get? c=some o->h'.get? c=some o)->Q (.ref (s.heap.objs.size+5)) { s with heap:=h' }) :
  wpAny (model prog w) A (call (.type "zip") [.ref l1,.ref l2,.ref l3]) Q E s:=by
 refine callType_new F.called_zip (by decide) (qws _ _ _) (qwt _ _ _) (λobj=>qCy obj _ _ _) F.entry_zip_new
  (qwu l1 l2 l3 xs ys us) ⟨hl1,hl2,hl3,?_⟩
 have y1:(s.heap.push (qmr l1)).objs.size=s.heap.objs.size+1:=Bq ..;have y2:((s.heap.push (qmr l1)).push (qmr l2)).objs.size=s.heap.objs.size+2:=by rw[Bq,y1]
 have y3:(z3a s.heap l1 l2 l3).objs.size=s.heap.objs.size+3:=by rw[Bq,y2]
 have y4:(z3b s.heap l1 l2 l3).objs.size=s.heap.objs.size+4:=by rw[Bq,y3]
 have y5:(z3c s.heap l1 l2 l3).objs.size=s.heap.objs.size+5:=by rw[Bq,y4]
 have g6:(z3d s.heap l1 l2 l3).get? (z3c s.heap l1 l2 l3).objs.size=some _:=Ao _ rfl;have g5:(z3d s.heap l1 l2 l3).get? (z3b s.heap l1 l2 l3).objs.size=some _:=Ab _ (Ao _ rfl);have g4:(z3d s.heap l1 l2 l3).get? (z3a s.heap l1 l2 l3).objs.size=some _:=Ab _ (Ab _ (Ao _ rfl));have g3:(z3d s.heap l1 l2 l3).get? ((s.heap.push (qmr l1)).push (qmr l2)).objs.size=some _:=Ab _ (Ab _ (Ab _ (Ao _ rfl)));have g2:(z3d s.heap l1 l2 l3).get? (s.heap.push (qmr l1)).objs.size=some _:=Ab _ (Ab _ (Ab _ (Ab _ (Ao _ rfl))));have g1:(z3d s.heap l1 l2 l3).get? s.heap.objs.size=some _:=Ab _ (Ab _ (Ab _ (Ab _ (Ab _ (Ao _ rfl)))))
 show _/\_
 rw[y3,y4,y5] at g6;rw[y4] at g5;rw[y1,y2,y3] at g4;rw[y2] at g3;rw[y1] at g2;rw[y5];exact ⟨⟨_,g6,rfl⟩,h _ g6 g4 g5 ⟨_,g1,rfl,rfl⟩ ⟨_,g2,rfl,rfl⟩ ⟨_,g3,rfl,rfl⟩ λc o x =>
  Ab _ (Ab _ (Ab _ (Ab _ (Ab _ (Ab _ x)))))⟩
end
def It3 (K:Frag) (a b c:Addr):It:=
 ⟨λi H=>∃ xs ys us x y u,SqL K H a xs/\SqL K H b ys/\SqL K H c us/\xs[i]?=some x/\ys[i]?=some y/\us[i]?=some u,
   λi H v H'=>∃ p,v=.ref p/\H p=none/\∀ xs ys us x y u,SqL K H a xs->SqL K H b ys->SqL K H c us->xs[i]?=some x->ys[i]?=some y->us[i]?=some u->H'=upd H p (.tup [x,y,u]),
   λi H=>∃ xs ys us,SqL K H a xs/\SqL K H b ys/\SqL K H c us/\xs.length<=i⟩
theorem qwv {P:Program} {w:World} {K:Frag} {elts:List Expr} {ek:Nat} {epos:Pos} (a b c z TI TO i1 i2 i3:Addr) (d1:TI≠TO) (d2:i1≠i2) (d3:i1≠i3) (d4:i2≠i3) :
  Turn P w K (.Tuple elts ek epos) (It3 K a b c) [z,TI,TO,i1,i2,i3] z (λi h=>IsZip h z TI TO .none/\qdq h TI (.ref i1) (.ref i2) (.ref i3)/\(∃ x y u,qdq h TO x y u)/\h.IsListIter i1 a i/\h.IsListIter i2 b i/\h.IsListIter i3 c i):=by
 have DD:∀ {h:Heap} {i:Nat} {xs ys us:Array Value} {x y u:Value},IsZip h z TI TO .none->qdq h TI (.ref i1) (.ref i2) (.ref i3)->qdq h TO x y u->h.IsListIter i1 a i->h.IsListIter i2 b i->h.IsListIter i3 c i->h.IsList a xs->h.IsList b ys->h.IsList c us->Z3 z TI TO i1 i2 i3 a b c:=by
  intro h i xs ys us x y u hz hTI hTO h1 h2 h3 pA pB pC;obtain ⟨o1,e1,c1,_⟩:=h1;obtain ⟨o2,e2,c2,_⟩:=h2;obtain ⟨o3,e3,c3,_⟩:=h3;have nl:∀ {l:Addr} {vs:Array Value},h.IsList l vs->l ∉ [z,TO,i1,i2,i3]:=fun {l vs} p=>by
   obtain ⟨ol,el,cl,_⟩:=p;simp only[Ai,As,A7,CZ];exact ⟨qax el hz (by rw[cl];exact qyl),qax el hTO (by rw[cl];exact qym),qax el e1 (by rw[cl,c1];exact qqn),qax el e2 (by rw[cl,c2];exact qqn),qax el e3 (by rw[cl,c3];exact qqn)⟩
  refine ⟨?_,λd hd=>?_⟩
  ·simp only[Bc,Ai,As,A7,CZ,C3,Fh,CC]
   exact ⟨⟨(qax hTO hz qxq).symm,(qax e1 hz (by rw[c1];exact qvx)).symm,(qax e2 hz (by rw[c2];exact qvx)).symm,(qax e3 hz (by rw[c3];exact qvx)).symm⟩,⟨qax hTO e1 (by rw[c1];exact qnd),qax hTO e2 (by rw[c2];exact qnd),qax hTO e3 (by rw[c3];exact qnd)⟩,⟨d2,d3⟩,d4⟩
  ·simp only[Ai,As,A7] at hd
   rcases hd with rfl|rfl|rfl|rfl
   ·simp only[Ai,As,A7,CZ]
    exact ⟨qax hTI hz qxq,d1,qax hTI e1 (by rw[c1];exact qnd),qax hTI e2 (by rw[c2];exact qnd),qax hTI e3 (by rw[c3];exact qnd)⟩
   ·exact nl pA
   ·exact nl pB
   ·exact nl pC
 have sub:∀ {d:Addr},d ∉ [z,TI,TO,i1,i2,i3]->d ∉ [z,TO,i1,i2,i3]:=fun {d} h q=>h (by
  simp only[Ai,As,A7] at q ⊢
  rcases q with q|q|q|q|q<;>simp[q])
 refine ⟨by simp,?_,?_,?_,?_,λ_ _ _ _ _ st h=>De st.1 h⟩
 ·intro i h st d hc
  obtain ⟨hz,hTI,⟨x,y,u,hTO⟩,⟨o1,e1,c1,f1⟩,⟨o2,e2,c2,f2⟩,⟨o3,e3,c3,f3⟩⟩:=st;simp only[Ai,As,A7] at hc
  rcases hc with rfl|rfl|rfl|rfl|rfl|rfl
  ·exact ⟨_,hz,λv q=>by have q':Data.fields _=Data.cell v:=q;cases q'⟩
  ·exact ⟨_,hTI,λv q=>by have q':Data.seq _ _=Data.cell v:=q;cases q'⟩
  ·exact ⟨_,hTO,λv q=>by have q':Data.seq _ _=Data.cell v:=q;cases q'⟩
  ·exact ⟨_,e1,λv q=>by rw[f1] at q;cases q⟩
  ·exact ⟨_,e2,λv q=>by rw[f2] at q;cases q⟩
  ·exact ⟨_,e3,λv q=>by rw[f3] at q;cases q⟩
 ·intro i h h' st k
  obtain ⟨hz,hTI,⟨x,y,u,hTO⟩,h1,h2,h3⟩:=st;exact ⟨k z (by simp) _ hz,k TI (by simp) _ hTI,⟨x,y,u,k TO (by simp) _ hTO⟩,h1.at λo e=>k i1 (by simp) o e,h2.at λo e=>k i2 (by simp) o e,h3.at λo e=>k i3 (by simp) o e⟩
 ·intro X hP hw hK hc i pins s σ H E I hf st hg
  subst hP hw hK;obtain ⟨xs,ys,us,x,y,u,qa,qb,qc,hx,hy,hu⟩:=hg;obtain ⟨hz,hTI,⟨x0,y0,u0,hTO⟩,h1,h2,h3⟩:=st;obtain ⟨itsA,rA,pA,zA⟩:=I.list qa;obtain ⟨itsB,rB,pB,zB⟩:=I.list qb;obtain ⟨itsC,rC,pC,zC⟩:=I.list qc;obtain ⟨v1,hv1,r1⟩:=rA.get hx;obtain ⟨v2,hv2,r2⟩:=rB.get hy;obtain ⟨v3,hv3,r3⟩:=rC.get hu;have D:=DD hz hTI hTO h1 h2 h3 pA.isList pB.isList pC.isList;have nd:=D.nd;simp only[Bc,Ai,As,A7,CZ,C3,Fh,CC] at nd;obtain ⟨⟨zT,z1,z2,z3⟩,_⟩:=nd;have fT:=D.fx TI (by simp);refine qwq D hz hTI hTO h1 h2 h3 pA.isList pB.isList pC.isList (x:=v1) (y:=v2) (u:=v3) (by simpa using hv1) (by simpa using hv2) (by simpa using hv3) λh' a1 a2 a3 a4 a5 a6 hk=>?_
  refine ⟨.ref s.heap.objs.size,rfl,Er a1 λh'' hz'' sb=>?_⟩;have nz:s.heap.objs.size≠z:=CD (Al hz);have k2:∀ d o,d ∉ [z,TI,TO,i1,i2,i3]->s.heap.get? d=some o->h''.get? d=some o:=λd o hd e=>sb.extBut _ _ (λq=>hd (by rw[q];simp)) (hk d o (sub hd) e)
  have T2:qdq h'' s.heap.objs.size v1 v2 v3:=sb.extBut _ _ nz a6;refine ⟨.ref s.heap.objs.size,upd H s.heap.objs.size (.tup [x,y,u]),I.turnedLaid (t':=s.toks) (ch:=[z,TI,TO,i1,i2,i3]) hf k2 (Ag _) ⟨by show 3<=sizeLine;decide,[v1,v2,v3],.cons r1 (.cons r2 (.cons r3 .nil)),_,T2,rfl,_,rfl⟩,rfl,⟨_,rfl,I.hok.fresh (Ag _),λxs' ys' us' x' y' u' qa' qb' qc' hx' hy' hu'=>?_⟩,⟨hz'',sb.extBut _ _ (λq=>fT (by rw[q];simp)) (hk _ _ fT hTI),⟨_,_,_,sb.extBut _ _ (AX zT) a2⟩,a3.extBut sb.extBut (AX z1),a4.extBut sb.extBut (AX z2),a5.extBut sb.extBut (AX z3)⟩,λd hd=>?_⟩
  ·rw[I.list_inj qa' qa,hx] at hx'
   rw[I.list_inj qb' qb,hy] at hy';rw[I.list_inj qc' qc,hu] at hu'
   cases hx';cases hy';cases hu';rfl
  ·have e:d≠s.heap.objs.size:=λq=>by
    have:∃ o,s.heap.get? d=some o:=by
     simp only[Ai,As,A7] at hd;obtain ⟨o1,e1,_⟩:=id h1;obtain ⟨o2,e2,_⟩:=id h2;obtain ⟨o3,e3,_⟩:=id h3
     rcases hd with rfl|rfl|rfl|rfl|rfl|rfl
     ·exact ⟨_,hz⟩
     ·exact ⟨_,hTI⟩
     ·exact ⟨_,hTO⟩
     ·exact ⟨_,e1⟩
     ·exact ⟨_,e2⟩
     ·exact ⟨_,e3⟩
    obtain ⟨o,e⟩:=this;exact absurd (Al e) (by rw[q];exact Bt _)
   rw[qa1 e];exact (hf d hd).1
 ·intro X hP hw hK hc i pins s σ H E I hf st hg
  subst hP hw hK;obtain ⟨xs,ys,us,qa,qb,qc,hx⟩:=hg;obtain ⟨hz,hTI,⟨x0,y0,u0,hTO⟩,h1,h2,h3⟩:=st;obtain ⟨itsA,rA,pA,zA⟩:=I.list qa;obtain ⟨itsB,rB,pB,zB⟩:=I.list qb;obtain ⟨itsC,rC,pC,zC⟩:=I.list qc;have D:=DD hz hTI hTO h1 h2 h3 pA.isList pB.isList pC.isList;have lA:=rA.length;exact qwr (I.ok.hd hc) D hz hTI h1 pA.isList (by simp;omega) λh' hk=>⟨rfl,I.turnedL (t':=s.toks) (ch:=[z,TI,TO,i1,i2,i3]) hf λd o hd e=>hk d o (sub hd) e⟩
section
variable {X:Cx}
def qBn (K:Frag) (ta:TA):TI:=λσ H R=>ta σ H λvs H1=>∃ a b c xs ys us,vs=[.ref a,.ref b,.ref c]/\SqL K H1 a xs/\SqL K H1 b ys/\SqL K H1 c us/\R (It3 K a b c) H1
theorem vals3 {a b c:V} {us:List Value} (h:Vals [a,b,c] us):∃ u v x,us=[u,v,x]/\RelV a u/\RelV b v/\RelV c x:=by
 cases h with|cons r1 t=>cases t with|cons r2 t=>cases t with|cons r3 t=>cases t;exact ⟨_,_,_,rfl,r1,r2,r3⟩
theorem qww {elts:List Expr} {ek:Nat} {epos:Pos} {e1 e2 e3:Expr} {ta:TA} {p pos:Pos} (hg:Gl X "zip") (hm:X.mg "zip" = none) (ha:PA X [e1,e2,e3] ta)
  (hs:starEach [e1,e2,e3] X.env=[(false,eval e1 X.env),(false,eval e2 X.env),(false,eval e3 X.env)]:=by rfl) (hs2:starEach [e2,e3] X.env=[(false,eval e2 X.env),(false,eval e3 X.env)]:=by rfl) :
  PI X (.Tuple elts ek epos) (.Call (.Name "zip" p) [e1,e2,e3] [] pos) (qBn X.K ta):=by
 intro pins s σ H R I h;refine Call_ (qi6 I hg hm (show bootBuiltins "zip" = some (.type "zip") by decide +kernel) (BX (thn (ha pos pins s σ H _ I h) λus s1 ⟨vs,H1,I1,r1,q1⟩=>?_) (by rw[hs,hs2]) (by rw[hs2];rfl)));obtain ⟨a,b,c,xs,ys,us',rfl,qa,qb,qc,q⟩:=q1;obtain ⟨u,u',u'',rfl,ru,ru',ru''⟩:=vals3 r1
 cases (show u=Value.ref a from ru)
 cases (show u'=Value.ref b from ru')
 cases (show u''=Value.ref c from ru'')
 obtain ⟨itsA,rA,pA,zA⟩:=I1.list qa;obtain ⟨itsB,rB,pB,zB⟩:=I1.list qb;obtain ⟨itsC,rC,pC,zC⟩:=I1.list qc;refine qri pA.isList pB.isList pC.isList λh' hz hTI hTO h1 h2 h3 hk=>De hz ?_
 refine ⟨s1.heap.objs.size+5,_,_,_,H1,rfl,I1.kept (t':=s1.toks) hk,qwv a b c _ (s1.heap.objs.size+3) (s1.heap.objs.size+4) s1.heap.objs.size (s1.heap.objs.size+1) (s1.heap.objs.size+2) (by simp) (by simp) (by simp) (by simp),⟨hz,hTI,⟨_,_,_,hTO⟩,h1,h2,h3⟩,λd hd=>?_,q⟩;have e:s1.heap.objs.size<=d:=by
  simp only[Ai,As,A7] at hd
  rcases hd with rfl|rfl|rfl|rfl|rfl|rfl
  ·exact Bz _ _
  ·exact Bz _ _
  ·exact Bz _ _
  ·exact Ag _
  ·exact Bz _ _
  ·exact Bz _ _
 exact I1.fpOk e (I1.hok.fresh e)
end
theorem qts {K:Frag} {a b c:Addr} {xs ys us:List V} {g:TG} {tb:TS} {D:Ends} {σ:St} {H:Hp} (Pv:Nat->St->Hp->Prop) (l1:xs.length<=ys.length) (l2:xs.length<=us.length) (h0:Pv 0 σ H) (hl:∀ i σ H,Pv i σ H->SqL K H a xs/\SqL K H b ys/\SqL K H c us)
  (hs:∀ i x y u σ H p,xs[i]?=some x->ys[i]?=some y->us[i]?=some u->H p=none->Pv i σ H->g (.ref p) σ (upd H p (.tup [x,y,u])) λσ2 H2=>tb { D with nx:=Pv (i+1),ct:=Pv (i+1),bk:=D.nx } σ2 H2)
  (hd:∀ σ H,Pv xs.length σ H->D.nx σ H) :
  ∃ W:Nat->Nat->St->Hp->Prop,(∃ m,W 0 m σ H)/\∀ i m σ H,W i m σ H ->
   ((It3 K a b c).stop i H/\D.nx σ H)\/((It3 K a b c).go i H/\∃ N:St->Hp->Prop,(∀ σ' H',N σ' H'->∃ m',m'<m/\W (i+1) m' σ' H')/\∀ x H',(It3 K a b c).yld i H x H'->g x σ H' λσ2 H2=>tb { D with nx:=N,ct:=N,bk:=D.nx } σ2 H2):=by
 refine ⟨λi m σ H=>m=xs.length-i/\i<=xs.length/\Pv i σ H,⟨xs.length,by simp,AW _,h0⟩,?_⟩;rintro i m σ H ⟨rfl,hi,p⟩;obtain ⟨qa,qb,qc⟩:=hl i σ H p
 by_cases ha:i<xs.length
 ·have hb:i<ys.length:=by omega
  have hc:i<us.length:=by omega
  have ea:xs[i]?=some xs[i]:=by simp[ha]
  have eb:ys[i]?=some ys[i]:=by simp[hb]
  have ec:us[i]?=some us[i]:=by simp[hc]
  refine .inr ⟨⟨xs,ys,us,xs[i],ys[i],us[i],qa,qb,qc,ea,eb,ec⟩,Pv (i+1),λσ' H' p'=>⟨xs.length-(i+1),by omega,rfl,ha,p'⟩,λx H' y=>?_⟩;obtain ⟨t,rfl,ht,y⟩:=y;rw[y xs ys us xs[i] ys[i] us[i] qa qb qc ea eb ec];exact hs i xs[i] ys[i] us[i] σ H t ea eb ec ht p
 ·have ei:i=xs.length:=by omega
  subst ei;exact .inl ⟨⟨xs,ys,us,qa,qb,qc,Ag _⟩,hd σ H p⟩
end L2
namespace TB
structure Good (ps:List (Int×Int)):Prop where
 lo:1<=ps.length
 hi:ps.length<=5
 each:∀ (i:Nat) p,ps[i]?=some p->0<=p.1/\1<=p.2
 next:∀ (i:Nat) p q,ps[i]?=some p->ps[i+1]?=some q->p.1<=q.1/\q.2 % p.2=0
def qrj (g:Option Int) (last:Int):Prop:=∀ z,g=some z->last<=z
end TB
namespace TB
def cut (d a w:Int):Int:=(d-a) / w*w
def Bd (x:Int):Prop:=-(10 ^ 45)<x/\x<10 ^ 45
def qzk (ps:List (Int×Int)):Prop:=∀ (i:Nat) p,ps[i]?=some p->0<=p.1/\p.1<10 ^ 45/\1<=p.2/\p.2<10 ^ 45
theorem qwx {x w B:Int} (hw:1<=w) (hB:0<=B) (h1:-B<=x) (h2:x<B):-B<=x / w/\x / w<B:=by
 have hBw:B*1<=B*w:=D5 hw hB
 constructor
 ·refine Int.le_ediv_of_mul_le (by omega) ?_
  have:-B*w = -(B*w):=Int.neg_mul _ _;omega
 ·exact Fd (by omega) (by omega)
theorem qzl {d a w:Int} (hw:1<=w):cut d a w<=d-a:=by
 have h:=Fc (d-a) w;have h1:=AU (d-a) (show w≠0 by omega);unfold cut;rw[Cf] at h;omega
theorem qzm {d a w:Int} (hw:1<=w):d-a<cut d a w+w:=by
 have h:=Fc (d-a) w;have h1:=AN (d-a) (show 0<w by omega);unfold cut;rw[Cf] at h;omega
theorem quu {d a w:Int} (hd:Bd d) (ha:0<=a) (ha':a<10 ^ 45) (hw:1<=w) (hw':w<10 ^ 45):-(4*10 ^ 45)<cut d a w/\cut d a w<4*10 ^ 45:=by
 have h1:=qzl (d:=d) (a:=a) hw;have h2:=qzm (d:=d) (a:=a) hw;unfold Bd at hd;omega
theorem qtt {ps:List (Int×Int)} {p:Int×Int} (h:ps[ps.length-1]?=some p):ps.getLast?.getD (0,1)=p:=by
 rw[Es,h];rfl
end TB
namespace TB
open PySem L2
def PairAt (H:Hp) (v:V) (p:Int×Int):Prop:=∃ a,v=.ref a/\H a=some (.tup [.int p.1,.int p.2])
def Pairs (H:Hp) (xs:List V) (ps:List (Int×Int)):Prop:=Paired (PairAt H) xs ps
theorem PairAt.same {H H':Hp} (s:Same H H') {v:V} {p:Int×Int}:PairAt H v p->PairAt H' v p:=fun ⟨a,e,h⟩=>⟨a,e,s _ _ h⟩
def qtu (H H':Hp):Prop:=∀ b xs,H b=some (.tup xs)->H' b=some (.tup xs)
theorem Same.tup {H H':Hp} (s:Same H H'):qtu H H':=λb xs h=>s b _ h
theorem PairAt.tupS {H H':Hp} (s:qtu H H') {v:V} {p:Int×Int}:PairAt H v p->PairAt H' v p:=fun ⟨a,e,h⟩=>⟨a,e,s _ _ h⟩
theorem Pairs.tupS {H H':Hp} (s:qtu H H'):∀ {xs:List V} {ps:List (Int×Int)},Pairs H xs ps->Pairs H' xs ps
 | _,_,.nil=>.nil
 | _,_,.cons r t=>.cons (r.tupS s) (Pairs.tupS s t)
theorem Pairs.same {H H':Hp} (s:Same H H') {xs:List V} {ps:List (Int×Int)} (h:Pairs H xs ps):Pairs H' xs ps:=Pairs.tupS (Same.tup s) h
theorem Pairs.length {H:Hp}:∀ {xs:List V} {ps:List (Int×Int)},Pairs H xs ps->xs.length=ps.length
 | _,_,.nil=>rfl
 | _,_,.cons _ t=>by simp[Pairs.length t]
theorem Pairs.get {H:Hp}:∀ {xs:List V} {ps:List (Int×Int)} {i:Nat} {x:V},Pairs H xs ps->xs[i]?=some x->∃ p,ps[i]?=some p/\PairAt H x p
 | _,_,_,_,.nil,e=>by simp at e
 | _,_,0,_,.cons r _,e=>by simp at e;subst e;exact ⟨_,rfl,r⟩
 | _,_,i+1,x,.cons _ t,e=>by
  obtain ⟨u,h1,h2⟩:=Pairs.get (i:=i) (x:=x) t (by simpa using e);exact ⟨u,by simpa using h1,h2⟩
theorem Pairs.get' {H:Hp}:∀ {xs:List V} {ps:List (Int×Int)} {i:Nat} {p:Int×Int},Pairs H xs ps->ps[i]?=some p->∃ x,xs[i]?=some x/\PairAt H x p
 | _,_,_,_,.nil,e=>by simp at e
 | _,_,0,_,.cons r _,e=>by simp at e;subst e;exact ⟨_,rfl,r⟩
 | _,_,i+1,x,.cons _ t,e=>by
  obtain ⟨u,h1,h2⟩:=Pairs.get' (i:=i) (p:=x) t (by simpa using e);exact ⟨u,by simpa using h1,h2⟩
theorem Pairs.snoc {H:Hp} {v:V} {p:Int×Int} (r:PairAt H v p):∀ {xs:List V} {ps:List (Int×Int)},Pairs H xs ps->Pairs H (xs ++ [v]) (ps ++ [p])
 | _,_,.nil=>.cons r .nil
 | _,_,.cons q t=>.cons q (Pairs.snoc r t)
def qo6 (p:Int×Int):PyData:=.tuple [.int p.1,.int p.2]
def qk8 (ps:List (Int×Int)):PyData:=.list (ps.map qo6)
theorem qrk:∀ ps:List (Int×Int),PyData.canLayAll0 (ps.map qo6)=true
 | []=>rfl
 | p :: r=>by simp[PyData.canLayAll0,qo6,PyData.canLay0,qrk r]
theorem qh6 (ps:List (Int×Int)):(qk8 ps).canLay0=true:=by simp[qk8,PyData.canLay0,qrk]
theorem qrl:∀ ps:List (Int×Int),PyData.depthAll (ps.map qo6)<=1
 | []=>by simp[PyData.depthAll]
 | p :: r=>by
  have:=qrl r
  simp[PyData.depthAll,qo6,PyData.depth]
  omega
theorem qrm (ps:List (Int×Int)):(qk8 ps).depth<=20:=by
 have:=qrl ps
 simp[qk8,PyData.depth];omega
theorem Pairs.reps {K:Frag} {H:Hp}:∀ {xs:List V} {ps:List (Int×Int)},Pairs H xs ps->qps K H xs (ps.map qo6)
 | _,_,.nil=>.nil
 | _,_,.cons ⟨a,e,h⟩ t=>by
  subst e;exact .cons (.tup (SqT.of h) (.cons (.int _) (.cons (.int _) .nil))) (Pairs.reps t)
theorem Pairs.rep {K:Frag} {H:Hp} {l:Addr} {xs:List V} {ps:List (Int×Int)} (h:H l=some (.lst xs)) (r:Pairs H xs ps):Rep K H (.ref l) (qk8 ps):=.lst (SqL.of h) r.reps
theorem qk9 {K:Frag} {H:Hp}:∀ ns:List Int,qps K H (ns.map V.int) (ns.map PyData.int)
 | []=>.nil
 | n :: r=>.cons (.int n) (qk9 r)
theorem qla:∀ ns:List Int,PyData.canLayAll0 (ns.map PyData.int)=true
 | []=>rfl
 | n :: r=>by simp[PyData.canLayAll0,PyData.canLay0,qla r]
theorem qlb:∀ ns:List Int,PyData.depthAll (ns.map PyData.int)=0
 | []=>rfl
 | n :: r=>by simp[PyData.depthAll,PyData.depth,qlb r]
def gv:Option Int->V
 | none=>.non
 | some i=>.int i
theorem qBo:¬ (("kept_steps" : Str) = "gone_age"):=by decide +kernel
def rf (l:Addr) (g:V):List (Str×V):=qf8 "gone_age" g (qf8 "kept_steps" (.ref l) [])
theorem qrn (l:Addr) (g:V):(rf l g).lookup ("kept_steps" : Str)=some (.ref l):=by
 unfold rf;rw[qah,Ah qBo,qah,Ak rfl]
theorem qBp (l:Addr) (g:V):(rf l g).lookup ("gone_age" : Str)=some g:=by
 unfold rf;rw[qah,Ak rfl]
theorem qro (l:Addr) (g:V) {m:Str} (h1:¬ m = "gone_age") (h2:¬ m = "kept_steps"):(rf l g).lookup m=none:=by
 unfold rf;rw[qah,Ah h1,qah,Ah h2]
 rfl
structure RuleAt (C:Addr) (H:Hp) (r l:Addr) (ps:List (Int×Int)) (g:Option Int):Prop where
 ob:∃ dx,H r=some (.ins C dx (rf l (gv g)))
 ls:∃ xs,H l=some (.lst xs)/\Pairs H xs ps
theorem RuleAt.same {C:Addr} {H H':Hp} {r l:Addr} {ps:List (Int×Int)} {g:Option Int} (s:Same H H') (h:RuleAt C H r l ps g):RuleAt C H' r l ps g:=
 ⟨let ⟨dx,e⟩:=h.ob;⟨dx,s _ _ e⟩,let ⟨xs,e,p⟩:=h.ls;⟨xs,s _ _ e,p.same s⟩⟩
theorem qlc {xs:List V} {v:V} (h:xs[xs.length-1]?=some v):atI xs (-1)=some v:=by
 have hl:xs.length-1<xs.length:=(Am.mp h).1;have e:ixN xs.length (-1)=some (xs.length-1):=by
  unfold ixN;rw[Ah (by decide),Ak (by omega)]
  congr 1;omega
 unfold atI;rw[e];exact h
theorem qCz (xs:List V):qju xs (some 1) none=xs.drop 1:=by
 unfold qju;rw[HT.sIx_none,show (some (1:Int))=some ((1:Nat):Int) from rfl,HT.sIx_nat]
 by_cases h:1<=xs.length
 ·rw[Ea h]
  exact Bv (by simp)
 ·have e:xs=[]:=by cases xs with|nil=>rfl|cons _ _=>simp at h
  subst e;rfl
def qms:Sp:=λvs H Q _=>∃ x,vs=[x]/\((∃ i,x=.int i/\Q (.bl true) H))
def qo7:Sp:=λvs H Q _=>∃ x p,vs=[x]/\PairAt H x p/\Q (.bl true) H
def qgs:Sp:=λvs H Q _=>∃ x p,vs=[x]/\PairAt H x p/\0<=p.1/\1<=p.2/\Q .non H
inductive qeg (vs:List V) (H:Hp) (Q:VK) (E_:XK):Prop
 | mk:∀ x y p q,vs=[x,y]->PairAt H x p->PairAt H y q->1<=p.2->p.1<=q.1->q.2 % p.2=0->Q .non H->qeg vs H Q E_
inductive qfy (vs:List V) (H:Hp) (Q:VK) (E_:XK):Prop
 | mk:∀ l xs ps,vs=[.ref l]->H l=some (.lst xs)->Pairs H xs ps->Good ps->(∀ H',Same H H'->Q .non H')->qfy vs H Q E_
def qj8:Sp:=λvs H Q _=>∃ g last,vs=[gv g,.int last]/\qrj g last/\Q .non H
inductive qrp (C:Addr) (vs:List V) (H:Hp) (Q:VK) (E_:XK):Prop
 | mk:∀ r l ps g,vs=[.ref r]->RuleAt C H r l ps g->Q (gv g) H->qrp C vs H Q E_
def quv (K:Frag):Sp:=λvs H Q _=>∃ (a:Addr) (ns:List Int),vs=[.ref a]/\SqL K H a (ns.map V.int)/\ns.length<=63/\∀ H',Q (.bl true) H'
open PySem L2
theorem New.after {H H1 H2:Hp} {p:Addr} {o:HO} (s:Same H H1) (n:New H1 H2 p o):New H H2 p o:=⟨s.trans n.same,s.free n.fresh,n.at_⟩
def lw (ps:List (Int×Int)):Int:=(ps.getLast?.getD (0,1)).2
def eV (ps:List (Int×Int)) (g:Option Int) (d:Int):List V:=(ps.map λp=>V.int (cut d p.1 p.2)) ++ [gv (g.map λz=>cut d z (lw ps))]
def GBd (g:Option Int):Prop:=∀ z,g=some z->0<=z/\z<10 ^ 45
structure Pr (ps:List (Int×Int)) (g:Option Int):Prop where
 good:Good ps
 size:qzk ps
 gone:∀ p,ps[ps.length-1]?=some p->qrj g p.1
 gb:GBd g
theorem Pr.last {ps:List (Int×Int)} {g:Option Int} (P:Pr ps g):∃ p,ps[ps.length-1]?=some p/\lw ps=p.2:=by
 have hl:=P.good.lo;refine ⟨ps[ps.length-1]'(by omega),Ac _,?_⟩;unfold lw;rw[qtt (Ac _)]
theorem Pairs.but {H H':Hp} {m:Addr} {o:HO} {xs:List V} {ps:List (Int×Int)} (h:Pairs H xs ps) (b:But m H H') (hm:H m=some o) (nt:∀ xs,o≠.tup xs):Pairs H' xs ps:=h.tupS (b.tup hm nt)
theorem quw {xs:List V}:∀ ys,(HO.lst xs)≠.tup ys:=λ_ z=>by cases z
theorem qeh {C dx:Addr} {fs:List (Str×V)}:∀ ys,(HO.ins C dx fs)≠.tup ys:=λ_ z=>by cases z
inductive qj9 (C:Addr) (vs:List V) (H:Hp) (Q:VK) (E_:XK):Prop
 | mk:∀ r dx l xs ps g,vs=[.ref r,.ref l,gv g]->H r=some (.ins C dx [])->H l=some (.lst xs)->Pairs H xs ps->Good ps->(∀ p,ps[ps.length-1]?=some p->qrj g p.1)->(∀ l' H',H l'=none->RuleAt C H' r l' ps g->But r H H'->Q .non H')->qj9 C vs H Q E_
inductive qld (C:Addr) (vs:List V) (H:Hp) (Q:VK) (E_:XK):Prop
 | mk:∀ r l ps g xs,vs=[.ref r]->RuleAt C H r l ps g->H l=some (.lst xs)->(∀ p H',New H H' p (.lst xs)->Q (.ref p) H')->qld C vs H Q E_
def qo8:Sp:=λvs H Q _=>∃ n w,vs=[.int n,.int w]/\1<=w/\w<10 ^ 45 /\ -(10 ^ 46)<=n/\n<10 ^ 46/\Q (.int (n / w*w)) H
inductive qh7 (C:Addr) (vs:List V) (H:Hp) (Q:VK) (E_:XK):Prop
 | mk:∀ r l ps g d,vs=[.ref r,.int d]->RuleAt C H r l ps g->Pr ps g->Bd d->(∀ H',Same H H'->Q (gv (g.map λz=>cut d z (lw ps))) H')->qh7 C vs H Q E_
inductive qh8 (C:Addr) (vs:List V) (H:Hp) (Q:VK) (E_:XK):Prop
 | mk:∀ r l ps g d,vs=[.ref r,.int d]->RuleAt C H r l ps g->Pr ps g->Bd d->(∀ p H',New H H' p (.lst (eV ps g d))->Q (.ref p) H')->qh8 C vs H Q E_
def dV:V->PyData
 | .int i=>.int i
 | _=>.none
def Ed (v:V):Prop:=v=.non\/∃ i,v=.int i
theorem qh9 {K:Frag} {H:Hp}:∀ {vs:List V},(∀ v∈vs,Ed v)->qps K H vs (vs.map dV)
 | [],_=>.nil
 | v :: r,h=>by
  refine .cons ?_ (qh9 λu hu=>h u (An _ hu))
  rcases h v Ap with e|⟨i,e⟩
  ·subst e;exact .non
  ·subst e;exact .int i
theorem qux:∀ vs:List V,PyData.canLayAll0 (vs.map dV)=true
 | []=>rfl
 | v :: r=>by
  have:(dV v).canLay0=true:=by cases v<;>rfl
  simp[PyData.canLayAll0,this,qux r]
theorem ed_lay' (vs:List V):(PyData.list (vs.map dV)).canLay0=true:=by simp[PyData.canLay0,qux]
theorem qAj {α β:Type} (f:α->β) (xs:List α) (i:Nat) (x:α) (h:xs[i]?=some x):(xs.take (i+1)).map f=(xs.take i).map f ++ [f x]:=by
 rw[Dz,h]
 simp
open PySem L2
end TB
namespace TB
def mc (p e:Int×Int):Int:=(e.1-p.1+e.2-1) / p.2
open PySem L2
theorem qaz {i:Nat} {v:V} {σ:St} {H:Hp} {K:St->Hp->Prop} (h:K (σ.set i (some v)) H):qiz i v σ H K:=h
theorem qwy {K:Frag} {a b:Addr} {xs ys:List V} {g:TG} {tc:TT} {te:TE} {Q:VK} {σ:St} {H:Hp} (Pv:Nat->List V->Hp->Prop) (hz:xs.length<=sizeLine) (h0:Pv 0 [] H) (hl:∀ i zs H,Pv i zs H->SqL K H a xs/\SqL K H b ys/\zs.length<=i)
  (hs:∀ i x y zs H p H',xs[i]?=some x->ys[i]?=some y->New H H' p (.tup [x,y])->Pv i zs H->g (.ref p) σ H' λσ4 H4=>tc σ4 H4 λb H5=>if b=true then te σ4 H5 λv H6=>Pv (i+1) (zs ++ [v]) H6 else Pv (i+1) zs H5)
  (hd:∀ i zs H p H',i=min xs.length ys.length->Pv i zs H->New H H' p (.lst zs)->Q (.ref p) H'):qge (Itz K a b) Q g tc te σ H:=
 quj Pv hz h0 hl (λi x y zs H p e1 e2 hn p'=>hs i x y zs H p _ e1 e2 (qbi hn) p') λi zs H p e p' hp=>hd i zs H p _ e p' (qbi hp)
theorem qia {lo:Int} {n:Nat} {g:TG} {tc:TT} {te:TE} {Q:VK} {σ:St} {H:Hp} (Pv:Nat->List V->Hp->Prop) (hz:n<=sizeLine) (h0:Pv 0 [] H) (hl:∀ i ys H,Pv i ys H->ys.length<=i)
  (hs:∀ i ys H,i<n->Pv i ys H->g (.int (lo+i)) σ H λσ4 H4=>tc σ4 H4 λb H5=>if b=true then te σ4 H5 λv H6=>Pv (i+1) (ys ++ [v]) H6 else Pv (i+1) ys H5)
  (hd:∀ ys H p H',Pv n ys H->New H H' p (.lst ys)->Q (.ref p) H'):qge (Itr lo n) Q g tc te σ H:=
 qtg Pv hz h0 hl hs λys H p p' hp=>hd ys H p _ p' (qbi hp)
open PySem L2
end TB
namespace TB
open PySem L2
def gE:V->V->V
 | .non,y=>y
 | .int i,.int j=>.int (if j>i then j else i)
 | x,_=>x
theorem zip_get {xs ys:List V} {i:Nat} {x y:V} (h1:xs[i]?=some x) (h2:ys[i]?=some y):(List.zipWith gE xs ys)[i]?=some (gE x y):=by
 rw[Fb,h1,h2]
theorem qmt {α:Type} (xs:List α) (i:Nat) (x:α) (h:xs[i]?=some x):xs.take (i+1)=xs.take i ++ [x]:=by
 rw[Dz,h];rfl
def qib:Sp:=λvs H Q _=>∃ x y,vs=[x,y]/\Ed x/\Ed y/\Q (gE x y) H
theorem qBq (g:Option Int):Ed (gv g):=by cases g with
 | none=>exact .inl rfl
 | some z=>exact .inr ⟨z,rfl⟩
def qB7 (v:V):Bool:=!decide (v=V.non)
open PySem L2
def EB (x:Int):Prop:=-(4*10 ^ 45)<x/\x<4*10 ^ 45
structure EdS (EV:List V) (es:List Int) (ge:Option Int):Prop where
 eq:EV=es.map V.int ++ [gv ge]
 bd:∀ x∈es,EB x
 gb:∀ z,ge=some z->EB z
theorem EdS.ed {EV:List V} {es:List Int} {ge:Option Int} (h:EdS EV es ge):∀ v∈EV,Ed v:=by
 intro v hv;rw[h.eq] at hv
 rcases AD.mp hv with z|z
 ·obtain ⟨i,_,e⟩:=Af.mp z;exact .inr ⟨i,e.symm⟩
 ·rw[Aj.mp z];exact qBq ge
theorem EdS.of {ps:List (Int×Int)} {g:Option Int} {d:Int} (P:Pr ps g) (hd:Bd d):EdS (eV ps g d) (ps.map λp=>cut d p.1 p.2) (g.map λz=>cut d z (lw ps)):=by
 refine ⟨by unfold eV;rw[AG];rfl,λx hx=>?_,λz hz=>?_⟩
 ·obtain ⟨p,hp,rfl⟩:=Af.mp hx
  obtain ⟨i,hi,e⟩:=AS hp;have hs:=P.size i p (by rw[<- e];exact Ac hi);exact quu hd hs.1 hs.2.1 hs.2.2.1 hs.2.2.2
 ·cases g with
  | none=>cases hz
  | some y =>
   cases hz;obtain ⟨p,hp,ep⟩:=P.last;have hs:=P.size _ p hp;have hg:=P.gb y rfl;rw[ep];exact quu hd hg.1 hg.2 hs.2.2.1 hs.2.2.2
def qwz:Option Int->Option Int->Option Int
 | none,y=>y
 | some i,some j=>some (if j>i then j else i)
 | x,none=>x
theorem qBr (x y:Option Int):gE (gv x) (gv y)=gv (qwz x y):=by cases x<;>cases y<;>rfl
theorem EdS.max {E1 E2:List V} {a b:List Int} {g1 g2:Option Int} (h1:EdS E1 a g1) (h2:EdS E2 b g2) (hl:a.length=b.length):EdS (List.zipWith gE E1 E2) (List.zipWith (λi j=>if j>i then j else i) a b) (qwz g1 g2):=by
 refine ⟨?_,λx hx=>?_,λz hz=>?_⟩
 ·rw[h1.eq,h2.eq,List.zipWith_append (by simpa using hl)]
  congr 1
  ·rw[List.zipWith_map_left,List.zipWith_map_right,List.map_zipWith];rfl
  ·show [gE (gv g1) (gv g2)]=_
   rw[qBr]
 ·obtain ⟨i,hi,e⟩:=AS hx
  have hi':=hi;rw[Ci] at hi';have hia:i<a.length:=by omega
  have hib:i<b.length:=by omega
  rw[List.getElem_zipWith] at e;have e1:=h1.bd a[i] (DV _);have e2:=h2.bd b[i] (DV _);rw[<- e]
  split
  ·exact e2
  ·exact e1
 ·cases g1 with
  | none=>exact h2.gb z hz
  | some i =>
   cases g2 with
   | none=>exact h1.gb z hz
   | some j =>
    have e1:=h1.gb i rfl;have e2:=h2.gb j rfl;simp only[qwz,Option.some.injEq] at hz;rw[<- hz]
    split
    ·exact e2
    ·exact e1
def wl (ws es:List Int) (t:Int):List Int:=((ws.zip es).filter λx=>decide (t<x.2)).map (·.1)
def qc5 (ge:Option Int) (t:Int):Prop:=∃ z,ge=some z/\t<z
def CellOf (ws es:List Int) (ge:Option Int) (t:Int) (o:Option (Int×Int)):Prop:=
 (∀ e0,es[0]?=some e0->(e0<=t->o=some (t,0))/\(t<e0->(qc5 ge t->o=none)/\(¬ qc5 ge t->∃ w,(wl ws es t)[(wl ws es t).length-1]?=some w/\o=some (t / w*w,w))))
theorem qzn {ws es:List Int} {t w0 e0:Int} (h1:ws[0]?=some w0) (h2:es[0]?=some e0) (h:t<e0):1<=(wl ws es t).length:=by
 cases ws with
 | nil=>simp at h1
 | cons w r =>
  cases es with
  | nil=>simp at h2
  | cons e s =>
   simp at h2
   subst h2;unfold wl;rw[C1,Cy (by simpa using h)]
   simp
theorem qrq {ws es:List Int} {t w:Int} (h:w∈wl ws es t):w∈ws:=by
 unfold wl at h;obtain ⟨x,hx,rfl⟩:=Af.mp h;exact (Cm (Eb.mp hx).1).1
theorem qC0 {ws es:List Int} {t:Int} {i:Nat} {w e:Int} (h1:ws[i]?=some w) (h2:es[i]?=some e) (h:t<e):((((ws.zip es).take (i+1)).filter λx=>decide (t<x.2)).map (·.1))=((((ws.zip es).take i).filter λx=>decide (t<x.2)).map (·.1)) ++ [w]:=by
 have hz:(ws.zip es)[i]?=some (w,e):=by rw[Et];exact ⟨h1,h2⟩
 rw[qmt _ i _ hz,Ct,AI]
 simp[h]
theorem qC1 {ws es:List Int} {t:Int} {i:Nat} {w e:Int} (h1:ws[i]?=some w) (h2:es[i]?=some e) (h:¬ t<e):((((ws.zip es).take (i+1)).filter λx=>decide (t<x.2)).map (·.1))=((((ws.zip es).take i).filter λx=>decide (t<x.2)).map (·.1)):=by
 have hz:(ws.zip es)[i]?=some (w,e):=by rw[Et];exact ⟨h1,h2⟩
 rw[qmt _ i _ hz,Ct,AI]
 simp[h]
theorem qzo {ws es:List Int} {t:Int} {i:Nat} (h:(ws.zip es).length<=i):((((ws.zip es).take i).filter λx=>decide (t<x.2)).map (·.1))=wl ws es t:=by
 rw[Bv h];rfl
theorem qzp (ws es:List Int) (t:Int) (i:Nat):((((ws.zip es).take i).filter λx=>decide (t<x.2)).map (·.1)).length<=i:=by
 rw[Ad];exact AV (E9 _ _) (by rw[Au];omega)
def qzq (H:Hp) (v:V) (o:Option (Int×Int)):Prop:=match o with
 | none=>v=.non
 | some p=>PairAt H v p
theorem CellOf.uniq {ws es:List Int} {ge:Option Int} {t:Int} {o o':Option (Int×Int)} {e0:Int} (h0:es[0]?=some e0) (h:CellOf ws es ge t o) (h':CellOf ws es ge t o'):o=o':=by
 obtain ⟨a1,a2⟩:=h e0 h0;obtain ⟨b1,b2⟩:=h' e0 h0
 by_cases hc:e0<=t
 ·rw[a1 hc,b1 hc]
 ·have hlt:t<e0:=by omega
  by_cases hg:qc5 ge t
  ·rw[(a2 hlt).1 hg,(b2 hlt).1 hg]
  ·obtain ⟨w,hw,rfl⟩:=(a2 hlt).2 hg
   obtain ⟨w',hw',rfl⟩:=(b2 hlt).2 hg;rw[hw] at hw'
   cases hw'
   rfl
inductive qjc (vs:List V) (H:Hp) (Q:VK) (E_:XK):Prop
 | mk:∀ (e:Addr) (es:List Int) (ge:Option Int) (t:Int),vs=[.ref e,.int t]->H e=some (.lst (es.map V.int ++ [gv ge]))->(qc5 ge t->Q (.bl true) H)->(¬ qc5 ge t->Q (.bl false) H)->qjc vs H Q E_
inductive qic (C:Addr) (vs:List V) (H:Hp) (Q:VK) (E_:XK):Prop
 | mk:∀ (r l:Addr) (ps:List (Int×Int)) (g:Option Int) (e:Addr) (es:List Int) (ge:Option Int) (t e0:Int),vs=[.ref r,.ref e,.int t]->RuleAt C H r l ps g->H e=some (.lst (es.map V.int ++ [gv ge]))->es.length=ps.length->1<=ps.length->ps.length<=5->es[0]?=some e0->t<e0->(∀ w H',(wl (ps.map (·.2)) es t)[(wl (ps.map (·.2)) es t).length-1]?=some w->Same H H'->Q (.int w) H')->qic C vs H Q E_
def qmu (t:Int):Prop:=-(10 ^ 46)<=t/\t<10 ^ 46
inductive qjd (C:Addr) (vs:List V) (H:Hp) (Q:VK) (E_:XK):Prop
 | mk:∀ (r l:Addr) (ps:List (Int×Int)) (g:Option Int) (e:Addr) (es:List Int) (ge:Option Int) (t:Int),vs=[.ref r,.ref e,.int t]->RuleAt C H r l ps g->H e=some (.lst (es.map V.int ++ [gv ge]))->es.length=ps.length->1<=ps.length->ps.length<=5->qzk ps->qmu t->(∀ v o H',CellOf (ps.map (·.2)) es ge t o->qzq H' v o->Same H H'->Q v H')->qjd C vs H Q E_
inductive qrr (vs:List V) (H:Hp) (Q:VK) (E_:XK):Prop
 | mk:∀ (l:Addr) (xs:List V) (ps:List (Int×Int)) (g:Option Int) (d:Int),vs=[.ref l,gv g,.int d]->H l=some (.lst xs)->Pairs H xs ps->Pr ps g->Bd d->(∀ p H',New H H' p (.lst (eV ps g d))->Q (.ref p) H')->qrr vs H Q E_
inductive qid (vs:List V) (H:Hp) (Q:VK) (E_:XK):Prop
 | mk:∀ (a b:Addr) (xs ys:List V),vs=[.ref a,.ref b]->H a=some (.lst xs)->H b=some (.lst ys)->(∀ v∈xs,Ed v)->(∀ v∈ys,Ed v)->xs.length=ys.length->xs.length<=1000->(∀ p H',New H H' p (.lst (List.zipWith gE xs ys))->Q (.ref p) H')->qid vs H Q E_
theorem CellOf.a {ws es:List Int} {ge:Option Int} {t e0:Int} (h0:es[0]?=some e0) (h:e0<=t):CellOf ws es ge t (some (t,0)):=λx hx=>by
 rw[h0] at hx;cases hx;exact ⟨λ_=>rfl,λh'=>absurd h (by omega)⟩
theorem CellOf.b {ws es:List Int} {ge:Option Int} {t e0:Int} (h0:es[0]?=some e0) (h:t<e0) (hg:qc5 ge t):CellOf ws es ge t none:=λx hx=>by
 rw[h0] at hx;cases hx;exact ⟨λh'=>absurd h (by omega),λ_=>⟨λ_=>rfl,λn=>absurd hg n⟩⟩
theorem CellOf.c {ws es:List Int} {ge:Option Int} {t e0 w:Int} (h0:es[0]?=some e0) (h:t<e0) (hg:¬ qc5 ge t) (hw:(wl ws es t)[(wl ws es t).length-1]?=some w):CellOf ws es ge t (some (t / w*w,w)):=λx hx=>by
 rw[h0] at hx;cases hx;exact ⟨λh'=>absurd h (by omega),λ_=>⟨λn=>absurd n hg,λ_=>⟨w,hw,rfl⟩⟩⟩
theorem qie {K:Frag} {H H':Hp} {a:Addr} {xs:List V} (s:Same H H') (h:SqL K H a xs):SqL K H' a xs:=by
 rcases h with (h|⟨o,h⟩)|h
 ·exact .inl (.inl (s _ _ h))
 ·exact .inl (.inr ⟨o,s _ _ h⟩)
 ·exact .inr h
theorem qle:∀ es:List Int,(es.map V.int).filter qB7=es.map V.int
 | []=>rfl
 | e :: r=>by rw[Aw,Cy (by rfl),qle r]
theorem known (es:List Int) (ge:Option Int):(es.map V.int ++ [gv ge]).filter qB7=(es ++ ge.toList).map V.int:=by
 rw[Ct,qle,AI]
 cases ge<;>rfl
theorem qei {K:Frag} {a:Addr} {xs:List V} {g:TG} {tc:TT} {te:TE} {Q:VK} {σ:St} {H:Hp} (Pv:Nat->List V->Hp->Prop) (hz:xs.length<=sizeLine) (h0:Pv 0 [] H) (hl:∀ i ys H,Pv i ys H->SqL K H a xs/\ys.length<=i)
  (hs:∀ i x ys H,xs[i]?=some x->Pv i ys H->g x σ H λσ4 H4=>tc σ4 H4 λb H5=>if b=true then te σ4 H5 λv H6=>Pv (i+1) (ys ++ [v]) H6 else Pv (i+1) ys H5)
  (hd:∀ ys H p H',Pv xs.length ys H->New H H' p (.lst ys)->Q (.ref p) H'):qge (Itl K a) Q g tc te σ H:=
 qqp Pv hz h0 hl hs λys H p p' hp=>hd ys H p _ p' (qbi hp)
open PySem L2
def qsq (rs:List (Int×Int)):List Int:=rs.map λp=>p.1
def qB8 (rs:List (Int×Int)):List Int:=rs.map λp=>p.2
def qB9 (rs:List (Int×Int)):List Int:=rs.map λp=>p.1*p.2
def rN (rs:List (Int×Int)):Int:=(qB8 rs).sum
def rT (rs:List (Int×Int)):Int:=(qB9 rs).sum
structure qnz (rs:List (Int×Int)) (vm vt vl vg:Int):Prop where
 m:vm=rN rs
 t:vt=rT rs
 lo:vl∈qsq rs
 lo':∀ a∈qsq rs,vl<=a
 hi:vg∈qsq rs
 hi':∀ a∈qsq rs,a<=vg
def dTup (ns:List Int):PyData:=.tuple (ns.map PyData.int)
theorem qw0 (ns:List Int):(dTup ns).canLay0=true:=by simp[dTup,PyData.canLay0,qla]
theorem qw1 {K:Frag} {H:Hp} {a:Addr} {ns:List Int} (h:H a=some (.tup (ns.map V.int))):Rep K H (.ref a) (dTup ns):=.tup (SqT.of h) (qk9 ns)
theorem qw2 (xs:List V) (k:Nat) (h:k<=xs.length):qju xs none (some (k:Int))=xs.take k:=by
 unfold qju;rw[HT.sIx_none,HT.sIx_nat,Ea h]
 simp
theorem qrs (xs:List V) (k:Nat) (h:k<=xs.length):qju xs (some (k:Int)) none=xs.drop k:=by
 unfold qju;rw[HT.sIx_none,HT.sIx_nat,Ea h];exact Bv (by simp)
theorem mapN' (f:Int×Int->Int) (rs:List (Int×Int)) {i:Nat} {p:Int×Int} (h:rs[i]?=some p):((rs.take (i+1)).map f).map V.int=((rs.take i).map f).map V.int ++ [V.int (f p)]:=by
 rw[Dz,h]
 simp
theorem qka {K:Frag} {l:Addr} {xs:List V} {rs:List (Int×Int)} {te:TE} {Q:VK} {σ:St} {H:Hp} (f:Int×Int->Int) (hl:H l=some (.lst xs)) (hp:Pairs H xs rs) (hz:rs.length<=200)
  (hs:∀ p∈rs,∀ Q':VK,Q' (.int (f p)) H->te ((σ.set 0 (some (.int p.1))).set 1 (some (.int p.2))) H Q')
  (hd:∀ a H',New H H' a (.lst ((rs.map f).map V.int))->Q (.ref a) H'):qge (Itl K l) Q (qAu K 2 (qpz (qiz 0) (qpz (qiz 1) qAt))) qBa te σ H:=by
 have hlen:=hp.length;refine qei (xs:=xs) (λi ys H2=>H2=H/\ys=((rs.take i).map f).map V.int) (A8 (qa3 (by omega))) ⟨rfl,rfl⟩ (λi ys H2 h2=>⟨SqL.of (by rw[h2.1];exact hl),by rw[h2.2];simp;omega⟩) ?_ ?_
 ·rintro i x ys H2 hi ⟨rfl,rfl⟩
  obtain ⟨p,hpi,a,rfl,ha⟩:=hp.get hi;refine ⟨a,_,rfl,SqT.of ha,rfl,_,_,rfl,_,_,rfl,rfl,qnf (qe1 ?_)⟩;refine hs p (Aq hpi) _ ⟨rfl,?_⟩;rw[mapN' f rs hpi]
 ·rintro ys H2 a H' ⟨rfl,rfl⟩ n
  rw[hlen,AO] at n;exact hd a H' n
inductive qlf (vs:List V) (H:Hp) (Q:VK) (E_:XK):Prop
 | mk:∀ a b m t lo hi m' t' lo' hi',vs=[.ref a,.ref b]->H a=some (.tup [.int m,.int t,.int lo,.int hi])->H b=some (.tup [.int m',.int t',.int lo',.int hi'])->(∀ p H',New H H' p (.tup [.int (m+m'),.int (t+t'),.int (if lo'<lo then lo' else lo),.int (if hi'>hi then hi' else hi)])->Q (.ref p) H')->qlf vs H Q E_
open PySem L2
def rof (ru:Addr) (day:Int) (le dy dh:Addr):List (Str×V):=qf8 "cell_heaps" (.ref dh) (qf8 "whole_ones" (.ref dy) (qf8 "kept_edges" (.ref le) (qf8 "kept_day" (.int day) (qf8 "kept_rule" (.ref ru) []))))
section
variable (ru:Addr) (day:Int) (le dy dh:Addr)
theorem quy:(rof ru day le dy dh).lookup ("kept_rule" : Str)=some (.ref ru):=by
 unfold rof;rw[qah,Ah (by decide +kernel),qah,Ah (by decide +kernel),qah,Ah (by decide +kernel),qah,Ah (by decide +kernel),qah,Ak rfl]
theorem qrt:(rof ru day le dy dh).lookup ("kept_edges" : Str)=some (.ref le):=by
 unfold rof;rw[qah,Ah (by decide +kernel),qah,Ah (by decide +kernel),qah,Ak rfl]
theorem qn0:(rof ru day le dy dh).lookup ("whole_ones" : Str)=some (.ref dy):=by
 unfold rof;rw[qah,Ah (by decide +kernel),qah,Ak rfl]
theorem qje:(rof ru day le dy dh).lookup ("cell_heaps" : Str)=some (.ref dh):=by
 unfold rof;rw[qah,Ak rfl]
theorem qjf {m:Str} (h1:¬ m = "cell_heaps") (h2:¬ m = "whole_ones") (h3:¬ m = "kept_edges") (h4:¬ m = "kept_day") (h5:¬ m = "kept_rule"):(rof ru day le dy dh).lookup m=none:=by
 unfold rof;rw[qah,Ah h1,qah,Ah h2,qah,Ah h3,qah,Ah h4,qah,Ah h5];rfl
theorem qru:(rof ru day le dy dh).lookup ("put" : Str)=none:=qjf _ _ _ _ _ (by decide +kernel) (by decide +kernel) (by decide +kernel) (by decide +kernel) (by decide +kernel)
theorem qn1:(rof ru day le dy dh).lookup ("pour_into_cell" : Str)=none:=qjf _ _ _ _ _ (by decide +kernel) (by decide +kernel) (by decide +kernel) (by decide +kernel) (by decide +kernel)
theorem qlg:(rof ru day le dy dh).lookup ("young" : Str)=none:=qjf _ _ _ _ _ (by decide +kernel) (by decide +kernel) (by decide +kernel) (by decide +kernel) (by decide +kernel)
theorem qlh:(rof ru day le dy dh).lookup ("heaps" : Str)=none:=qjf _ _ _ _ _ (by decide +kernel) (by decide +kernel) (by decide +kernel) (by decide +kernel) (by decide +kernel)
end
abbrev KV:=List (List Key×V)
structure qa7 where
 ru:Addr
 rl:Addr
 le:Addr
 dy:Addr
 dh:Addr
 ps:List (Int×Int)
 g:Option Int
 day:Int
 es:List Int
 ge:Option Int
 Y:KV
 Z:KV
structure RollAt (C R:Addr) (H:Hp) (ro:Addr) (D:qa7):Prop where
 ob:∃ dx,H ro=some (.ins C dx (rof D.ru D.day D.le D.dy D.dh))
 rule:RuleAt R H D.ru D.rl D.ps D.g
 ed:H D.le=some (.lst (D.es.map V.int ++ [gv D.ge]))
 yo:H D.dy=some (.dT D.Y)
 he:H D.dh=some (.dT D.Z)
 ne:D.dy≠D.dh
theorem RollAt.same {C R:Addr} {H H':Hp} {ro:Addr} {D:qa7} (s:Same H H') (h:RollAt C R H ro D):RollAt C R H' ro D:=
 ⟨let ⟨dx,e⟩:=h.ob;⟨dx,s _ _ e⟩,h.rule.same s,s _ _ h.ed,s _ _ h.yo,s _ _ h.he,h.ne⟩
theorem qzr {kvs:KV}:∀ xs,HO.dT kvs≠.tup xs:=λ_ z=>by cases z
theorem RuleAt.but2 {C:Addr} {H H':Hp} {r l a:Addr} {ps:List (Int×Int)} {g:Option Int} {o:HO} (h:RuleAt C H r l ps g) (b:But a H H') (ha:H a=some o) (nt:∀ xs,o≠.tup xs) (nl:∀ xs,o≠.lst xs) (hr:r≠a):RuleAt C H' r l ps g:=by
 obtain ⟨dx,e⟩:=h.ob;obtain ⟨xs,e2,p⟩:=h.ls;exact ⟨⟨dx,b _ _ e hr⟩,xs,b _ _ e2 (qa0 e2 ha (λz=>nl xs z.symm)),p.but b ha nt⟩
theorem RollAt.putY {C R:Addr} {H H':Hp} {ro:Addr} {D:qa7} {Y':KV} (A:RollAt C R H ro D) (b:But D.dy H H') (h:H' D.dy=some (.dT Y')):RollAt C R H' ro { D with Y:=Y' }:=by
 obtain ⟨dx,e⟩:=A.ob;obtain ⟨dx2,e2⟩:=A.rule.ob;exact ⟨⟨dx,b _ _ e (qa0 e A.yo (by intro z;cases z))⟩,A.rule.but2 b A.yo qzr (by intro xs z;cases z) (qa0 e2 A.yo (by intro z;cases z)),b _ _ A.ed (qa0 A.ed A.yo (by intro z;cases z)),h,b _ _ A.he A.ne.symm,A.ne⟩
theorem RollAt.putZ {C R:Addr} {H H':Hp} {ro:Addr} {D:qa7} {Z':KV} (A:RollAt C R H ro D) (b:But D.dh H H') (h:H' D.dh=some (.dT Z')):RollAt C R H' ro { D with Z:=Z' }:=by
 obtain ⟨dx,e⟩:=A.ob;obtain ⟨dx2,e2⟩:=A.rule.ob;exact ⟨⟨dx,b _ _ e (qa0 e A.he (by intro z;cases z))⟩,A.rule.but2 b A.he qzr (by intro xs z;cases z) (qa0 e2 A.he (by intro z;cases z)),b _ _ A.ed (qa0 A.ed A.he (by intro z;cases z)),b _ _ A.yo A.ne,h,A.ne⟩
def But2 (a b:Addr) (H H':Hp):Prop:=∀ c o,H c=some o->c≠a->c≠b->H' c=some o
structure qg4 (D:qa7):Prop where
 pr:Pr D.ps D.g
 es:D.es.length=D.ps.length
def newD (ru rl le dy dh:Addr) (ps:List (Int×Int)) (g:Option Int) (day:Int):qa7:=⟨ru,rl,le,dy,dh,ps,g,day,ps.map (λp=>cut day p.1 p.2),g.map (λz=>cut day z (lw ps)),[],[]⟩
def YOk (Y:KV):Prop:=∀ k x,qdn Y k=some x->∃ n,x=V.int n
def ZOk (H:Hp) (Z:KV):Prop:=∀ k x,qdn Z k=some x->∃ (h:Addr) (m t lo hi:Int),x=.ref h/\H h=some (.tup [.int m,.int t,.int lo,.int hi])
theorem ZOk.same {H H':Hp} {Z:KV} (s:Same H H') (h:ZOk H Z):ZOk H' Z:=λk x e=>by
 obtain ⟨a,m,t,lo,hi,e1,e2⟩:=h k x e;exact ⟨a,m,t,lo,hi,e1,s _ _ e2⟩
def yv (Y:KV) (k:List Key):Int:=match qdn Y k with
 | some (.int n)=>n
 | _=>0
def kk (a b:Int):List Key:=[.inl a,.inl b]
theorem qzs {Y:KV} (h:YOk Y) (k:List Key):(qdn Y k).getD (V.int 0)=V.int (yv Y k):=by
 unfold yv
 cases e:qdn Y k with
 | none=>rfl
 | some x =>
  obtain ⟨n,rfl⟩:=h k x e
  rfl
def qzt (H:Hp) (Z:KV) (k:List Key) (v m a b lo hi:Int):Prop:=
 (qdn Z k=none/\qnz [(v,m)] a b lo hi)\/∃ (h0:Addr) (m0 t0 lo0 hi0 a' b' lo' hi':Int),qdn Z k=some (.ref h0)/\H h0=some (.tup [.int m0,.int t0,.int lo0,.int hi0])/\qnz [(v,m)] a' b' lo' hi'/\a=m0+a'/\b=t0+b'/\lo=(if lo'<lo0 then lo' else lo0)/\hi=(if hi'>hi0 then hi' else hi0)
def Puts (H H':Hp) (D D':qa7) (o:Option (Int×Int)) (t v m:Int):Prop:=
 (o=none/\D'=D)\/(o=some (t,0)/\D'={ D with Y:=putK D.Y (kk t v) (.int (yv D.Y (kk t v)+m)) }) \/
 ∃ (s w:Int) (h:Addr) (a b lo hi:Int),o=some (s,w)/\1<=w/\D'={ D with Z:=putK D.Z (kk s w) (.ref h) }/\H' h=some (.tup [.int a,.int b,.int lo,.int hi])/\qzt H D.Z (kk s w) v m a b lo hi
theorem CellOf.some_ {ws es:List Int} {ge:Option Int} {t:Int} {p:Int×Int} (h:CellOf ws es ge t (some p)) (hl:1<=es.length) (hw:∀ w∈ws,1<=w):p=(t,0)\/1<=p.2:=by
 obtain ⟨h1,h2⟩:=h es[0] (Ac (by omega))
 by_cases c:es[0]<=t
 ·exact .inl (AH (h1 c))
 ·obtain ⟨g1,g2⟩:=h2 (by omega)
  by_cases hg:qc5 ge t
  ·cases g1 hg
  ·obtain ⟨w,e1,e2⟩:=g2 hg
   cases e2;exact .inr (hw w (qrq (Aq e1)))
theorem Pr.w1 {ps:List (Int×Int)} {g:Option Int} (P:Pr ps g) {w:Int} (h:w∈ps.map (·.2)):1<=w:=by
 obtain ⟨p,hp,rfl⟩:=Af.mp h;obtain ⟨i,hi,e⟩:=AS hp;exact (P.size i p (by rw[<- e];exact Ac hi)).2.2.1
def qtv (p:Int×Int):Prop:=(-(10 ^ 51)<p.1/\p.1<10 ^ 51)/\1<=p.2/\p.2<10 ^ 45
inductive qif (vs:List V) (H:Hp) (Q:VK) (E_:XK):Prop
 | mk:∀ l xs rs,vs=[.ref l]->H l=some (.lst xs)->Pairs H xs rs->(∀ p∈rs,qtv p)->rs.length<=200->(rs=[]->Q .non H)->(rs≠[]->∀ a m t lo hi H',qnz rs m t lo hi->New H H' a (.tup [.int m,.int t,.int lo,.int hi])->Q (.ref a) H')->qif vs H Q E_
inductive qg5 (C R:Addr) (vs:List V) (H:Hp) (Q:VK) (E_:XK):Prop
 | mk:∀ (ro dx ru rl:Addr) (ps:List (Int×Int)) (g:Option Int) (day:Int),vs=[.ref ro,.ref ru,.int day]->H ro=some (.ins C dx [])->RuleAt R H ru rl ps g->Pr ps g->Bd day->(∀ le dy dh H',H le=none->H dy=none->H dh=none->RollAt C R H' ro (newD ru rl le dy dh ps g day)->But ro H H'->Q .non H')->qg5 C R vs H Q E_
inductive qgt (C R N:Addr) (vs:List V) (H:Hp) (Q:VK) (E:XK):Prop
 | mk:∀ (ro:Addr) (D:qa7) (t v m:Int),vs=[.ref ro,.int t,.int v,.int m]->RollAt C R H ro D->qg4 D->qmu t->(1<=m->qtv (v,m))->YOk D.Y->ZOk H D.Z->D.Y.length<=900->D.Z.length<=900->(m<1->E (.ref N) none H)->(1<=m->∀ o,CellOf (D.ps.map (·.2)) D.es D.ge t o->∀ D' H',Puts H H' D D' o t v m->RollAt C R H' ro D'->But2 D.dy D.dh H H'->Q (.bl o.isSome) H')->qgt C R N vs H Q E
def TupAt (H:Hp) (v:V) (r:List Int):Prop:=∃ a,v=.ref a/\H a=some (.tup (r.map V.int))
def Tups (H:Hp) (xs:List V) (rs:List (List Int)):Prop:=Paired (TupAt H) xs rs
theorem TupAt.same {H H':Hp} (s:Same H H') {v:V} {r:List Int}:TupAt H v r->TupAt H' v r:=fun ⟨a,e,h⟩=>⟨a,e,s _ _ h⟩
theorem Tups.same {H H':Hp} (s:Same H H'):∀ {xs:List V} {rs:List (List Int)},Tups H xs rs->Tups H' xs rs
 | _,_,.nil=>.nil
 | _,_,.cons r t=>.cons (r.same s) (Tups.same s t)
theorem Tups.length {H:Hp}:∀ {xs:List V} {rs:List (List Int)},Tups H xs rs->xs.length=rs.length
 | _,_,.nil=>rfl
 | _,_,.cons _ t=>by simp[Tups.length t]
theorem Tups.get {H:Hp}:∀ {xs:List V} {rs:List (List Int)} {i:Nat} {x:V},Tups H xs rs->xs[i]?=some x->∃ r,rs[i]?=some r/\TupAt H x r
 | _,_,_,_,.nil,e=>by simp at e
 | _,_,0,_,.cons r _,e=>by simp at e;subst e;exact ⟨_,rfl,r⟩
 | _,_,i+1,x,.cons _ t,e=>by
  obtain ⟨u,h1,h2⟩:=Tups.get (i:=i) (x:=x) t (by simpa using e);exact ⟨u,by simpa using h1,h2⟩
def qli (rs:List (List Int)):PyData:=.list (rs.map dTup)
theorem qlj:∀ rs:List (List Int),PyData.canLayAll0 (rs.map dTup)=true
 | []=>rfl
 | r :: t=>by simp[PyData.canLayAll0,qw0,qlj t]
theorem qn2 (rs:List (List Int)):(qli rs).canLay0=true:=by simp[qli,PyData.canLay0,qlj]
theorem qig:∀ rs:List (List Int),PyData.depthAll (rs.map dTup)<=1
 | []=>by simp[PyData.depthAll]
 | r :: t=>by
  have:=qig t
  simp[PyData.depthAll,dTup,PyData.depth,qlb]
  omega
theorem Tups.reps {K:Frag} {H:Hp}:∀ {xs:List V} {rs:List (List Int)},Tups H xs rs->qps K H xs (rs.map dTup)
 | _,_,.nil=>.nil
 | _,_,.cons ⟨a,e,h⟩ t=>by
  subst e;exact .cons (qw1 h) (Tups.reps t)
theorem Tups.rep {K:Frag} {H:Hp} {l:Addr} {xs:List V} {rs:List (List Int)} (h:H l=some (.lst xs)) (r:Tups H xs rs):Rep K H (.ref l) (qli rs):=.lst (SqL.of h) r.reps
open PySem L2
abbrev HP4:=Int×Int×Int×Int
structure Abs where
 y:List Int->Option Int
 z:List Int->Option HP4
def mg4 (a b:HP4):HP4:=(a.1+b.1,a.2.1+b.2.1,(if b.2.2.1<a.2.2.1 then b.2.2.1 else a.2.2.1),(if b.2.2.2>a.2.2.2 then b.2.2.2 else a.2.2.2))
def qg6 (v m:Int):HP4:=(m,v*m,v,v)
def qe3 {α:Type} (f:List Int->Option α) (k:List Int) (x:α):List Int->Option α:=λj=>if j=k then some x else f j
theorem qa4 {α:Type} (f:List Int->Option α) (k:List Int) (x:α):qe3 f k x k=some x:=Ak rfl
theorem qbq {α:Type} (f:List Int->Option α) {k j:List Int} (x:α) (h:j≠k):qe3 f k x j=f j:=Ah h
theorem qb4 {α:Type} (f:List Int->Option α) (k:List Int) (x y:α):qe3 (qe3 f k x) k y=qe3 f k y:=by
 funext j;unfold qe3;split<;>rfl
theorem qgg {α:Type} (f:List Int->Option α) {k l:List Int} (x y:α) (h:k≠l):qe3 (qe3 f k x) l y=qe3 (qe3 f l y) k x:=by
 funext j;unfold qe3
 by_cases h1:j=k
 ·subst h1;rw[Ah h,Ak rfl]
  simp
 ·by_cases h2:j=l
  ·subst h2;simp[h1]
  ·simp[h1,h2]
def qcv (o:Option HP4) (b:HP4):HP4:=match o with
 | none=>b
 | some a=>mg4 a b
theorem qxu {a b:HP4} (h1:a.1=b.1) (h2:a.2.1=b.2.1) (h3:a.2.2.1=b.2.2.1) (h4:a.2.2.2=b.2.2.2):a=b:=by
 obtain ⟨_,_,_,_⟩:=a;obtain ⟨_,_,_,_⟩:=b
 simp at h1 h2 h3 h4
 simp[h1,h2,h3,h4]
theorem qtw (a b:HP4):mg4 a b=mg4 b a:=by
 unfold mg4;refine qxu ?_ ?_ ?_ ?_<;>dsimp only
 ·omega
 ·omega
 ·split<;>split<;>omega
 ·split<;>split<;>omega
theorem qrv (h a b:HP4):mg4 (mg4 h a) b=mg4 (mg4 h b) a:=by
 unfold mg4;refine qxu ?_ ?_ ?_ ?_<;>dsimp only
 ·omega
 ·omega
 ·repeat' split
  all_goals omega
 ·repeat' split
  all_goals omega
theorem qgu (o:Option HP4) (a b:HP4):qcv (some (qcv o a)) b=qcv (some (qcv o b)) a:=by
 cases o with
 | none=>exact qtw a b
 | some h=>exact qrv h a b
theorem qo9 (o:Option HP4) (v m n:Int):qcv (some (qcv o (qg6 v m))) (qg6 v n)=qcv o (qg6 v (m+n)):=by
 have e:v*m+v*n=v*(m+n):=(D6 v m n).symm
 cases o with
 | none =>
  show mg4 (qg6 v m) (qg6 v n)=qg6 v (m+n)
  unfold mg4 qg6;refine qxu ?_ ?_ ?_ ?_<;>dsimp only
  ·exact e
  ·split<;>rfl
  ·split<;>rfl
 | some h =>
  show mg4 (mg4 h (qg6 v m)) (qg6 v n)=mg4 h (qg6 v (m+n))
  unfold mg4 qg6;refine qxu ?_ ?_ ?_ ?_<;>dsimp only
  ·omega
  ·rw[Int.add_assoc,e]
  ·repeat' split
   all_goals omega
  ·repeat' split
   all_goals omega
abbrev Rd3:=Int×Int×Int
def qds (cell:Int->Option (Int×Int)) (s:Abs) (r:Rd3):Abs:=match cell r.1 with
 | none=>s
 | some (a,w)=>if w=0 then { s with y:=qe3 s.y [r.1,r.2.1] ((s.y [r.1,r.2.1]).getD 0+r.2.2) } else { s with z:=qe3 s.z [a,w] (qcv (s.z [a,w]) (qg6 r.2.1 r.2.2)) }
theorem qrw (cell:Int->Option (Int×Int)) (s:Abs) (r q:Rd3):qds cell (qds cell s r) q=qds cell (qds cell s q) r:=by
 unfold qds
 cases e1:cell r.1 with
 | none=>cases e2:cell q.1<;>rfl
 | some p =>
  obtain ⟨a,w⟩:=p
  cases e2:cell q.1 with
  | none=>rfl
  | some p2 =>
   obtain ⟨b,u⟩:=p2;dsimp only
   by_cases hw:w=0
   ·by_cases hu:u=0
    ·rw[Ak hw,Ak hu,Ak hu,Ak hw]
     dsimp only
     by_cases hk:[r.1,r.2.1]=[q.1,q.2.1]
     ·rw[hk,qa4,qb4,qa4,qb4]
      simp only[Dg]
      congr 2
      omega
     ·rw[qbq _ _ (λz=>hk z.symm),qbq _ _ hk,qgg _ _ _ hk]
    ·rw[Ak hw,Ah hu,Ah hu,Ak hw]
   ·by_cases hu:u=0
    ·rw[Ah hw,Ak hu,Ak hu,Ah hw]
    ·rw[Ah hw,Ah hu,Ah hu,Ah hw]
     dsimp only
     by_cases hk:[a,w]=[b,u]
     ·rw[hk,qa4,qb4,qa4,qb4,qgu]
     ·rw[qbq _ _ (λz=>hk z.symm),qbq _ _ hk,qgg _ _ _ hk]
theorem qpa (cell:Int->Option (Int×Int)) (s:Abs) (t v m n:Int):qds cell (qds cell s (t,v,m)) (t,v,n)=qds cell s (t,v,m+n):=by
 unfold qds;dsimp only
 cases e1:cell t with
 | none=>rfl
 | some p =>
  obtain ⟨a,w⟩:=p;dsimp only
  by_cases hw:w=0
  ·rw[Ak hw,Ak hw,Ak hw]
   dsimp only;rw[qa4,qb4];simp only[Dg]
   congr 2
   omega
  ·rw[Ah hw,Ah hw,Ah hw]
   dsimp only;rw[qa4,qb4,qo9]
def qss:Abs:=⟨λ_=>none,λ_=>none⟩
def qe2 (cell:Int->Option (Int×Int)) (rs:List Rd3):Abs:=rs.foldl (qds cell) qss
theorem qpb (cell:Int->Option (Int×Int)) (rs:List Rd3) (r:Rd3):qe2 cell (rs ++ [r])=qds cell (qe2 cell rs) r:=by
 unfold qe2;rw[C6];rfl
structure SKeys {α:Type} (f:List Int->Option α) (ms:List (List Int)):Prop where
 srt:ms.Pairwise (λk l=>blt k l=true)
 mem:∀ k,k∈ms↔f k≠none
theorem qkb {k l:List Int} (h1:blt k l=true) (h2:blt l k=true):False:=by
 have:=qjb k l k h1 h2;rw[qh2] at this;cases this
theorem SKeys.uniq {α:Type} {f:List Int->Option α} {ms ms':List (List Int)} (a:SKeys f ms) (b:SKeys f ms'):ms=ms':=by
 have nd:∀ {l:List (List Int)},l.Pairwise (λk l=>blt k l=true)->l.Nodup:=λh=>h.imp fun {k l} hb e=>by rw[e,qh2] at hb;cases hb
 refine List.Perm.eq_of_pairwise (le:=λk l=>blt k l=true) (λk l _ _ h1 h2=>(qkb h1 h2).elim) a.srt b.srt ?_;rw[Ek (nd a.srt) (nd b.srt)];intro k;rw[a.mem,b.mem]
def kI (k:List Int):List Key:=k.map Sum.inl
theorem qih {k l:List Int} (h:kI k=kI l):k=l:=by
 induction k generalizing l with
 | nil=>cases l with
  | nil=>rfl
  | cons _ _=>cases h
 | cons a r ih=>cases l with
  | nil=>cases h
  | cons b t =>
   unfold kI at h;rw[Aw,Aw] at h;injection h with h1 h2
   injection h1 with h1
   rw[h1,ih h2]
theorem qzu (k:List Int):(kI k).map kV=k.map V.int:=by
 unfold kI;rw[AG];rfl
theorem qn3 (kvs:KV) (k:List Key) (v:V):(k∈kvs.map (·.1)->(putK kvs k v).map (·.1)=kvs.map (·.1))/\(k ∉ kvs.map (·.1)->(putK kvs k v).map (·.1)=kvs.map (·.1) ++ [k]):=by
 unfold putK
 by_cases h:(kvs.any λkv=>decide (kv.1=k))=true
 ·have hm:k∈kvs.map (·.1):=by
   obtain ⟨x,hx,e⟩:=DW.mp h;exact Af.mpr ⟨x,hx,by simpa using e⟩
  refine ⟨λ_=>?_,λn=>absurd hm n⟩;rw[Ak h,AG]
  apply AZ
  intro x hx
  show (if x.1=k then (x.1,v) else x).1=x.1
  split<;>rfl
 ·have hm:k ∉ kvs.map (·.1):=λhm=>h (by
   obtain ⟨x,hx,e⟩:=Af.mp hm;exact DW.mpr ⟨x,hx,by simpa using e⟩)
  refine ⟨λn=>absurd n hm,λ_=>?_⟩;rw[Ah h,AI];rfl
theorem valV_mem {kvs:KV} {k:List Key}:qdn kvs k≠none↔k∈kvs.map (·.1):=by
 unfold qdn
 constructor
 ·intro h
  cases e:kvs.find? λkv=>decide (kv.1=k) with
  | none=>rw[e] at h;exact absurd rfl h
  | some x =>
   have:=List.find?_some e;exact Af.mpr ⟨x,List.mem_of_find?_eq_some e,by simpa using this⟩
 ·intro h z
  obtain ⟨x,hx,e⟩:=Af.mp h;rw[Option.map_eq_none_iff,List.find?_eq_none] at z;exact z x hx (by simpa using e)
structure DKeys (kvs:KV) (ks:List (List Int)):Prop where
 eq:kvs.map (·.1)=ks.map kI
 nd:ks.Nodup
 ne:∀ k∈ks,k.length=2
theorem DKeys.nil:DKeys [] []:=⟨rfl,.nil,λk h=>by cases h⟩
theorem DKeys.put {kvs:KV} {ks:List (List Int)} (h:DKeys kvs ks) (k:List Int) (hk:k.length=2) (v:V):∃ ks',DKeys (putK kvs (kI k) v) ks'/\∀ j,j∈ks'↔j∈ks\/j=k:=by
 have hm:kI k∈kvs.map (·.1)↔k∈ks:=by
  rw[h.eq]
  constructor
  ·intro z
   obtain ⟨j,hj,e⟩:=Af.mp z;rw[<- qih e];exact hj
  ·exact λz=>Af.mpr ⟨k,z,rfl⟩
 by_cases hin:k∈ks
 ·refine ⟨ks,⟨by rw[(qn3 _ _ _).1 (hm.mpr hin)];exact h.eq,h.nd,h.ne⟩,λj=>⟨.inl,λz=>z.elim id λe=>by rw[e];exact hin⟩⟩
 ·refine ⟨ks ++ [k],⟨by rw[(qn3 _ _ _).2 (λz=>hin (hm.mp z)),h.eq,AI];rfl,?_,?_⟩,λj=>by simp⟩
  ·rw[List.nodup_append]
   exact ⟨h.nd,Dh _ _,λa ha b hb e=>by
    rw[Aj.mp hb] at e;exact hin (by rw[<- e];exact ha)⟩
  ·intro j hj
   rcases AD.mp hj with z|z
   ·exact h.ne j z
   ·rw[Aj.mp z];exact hk
theorem DKeys.ne' {kvs:KV} {ks:List (List Int)} (h:DKeys kvs ks):∀ k∈ks,k≠[]:=λk hk z=>by
 have:=h.ne k hk;rw[z] at this;cases this
theorem DKeys.mem {kvs:KV} {ks:List (List Int)} (h:DKeys kvs ks) (k:List Int):k∈ks↔qdn kvs (kI k)≠none:=by
 rw[valV_mem,h.eq]
 constructor
 ·exact λz=>Af.mpr ⟨k,z,rfl⟩
 ·intro z
  obtain ⟨j,hj,e⟩:=Af.mp z;rw[<- qih e];exact hj
def v4 (h:HP4):List V:=[.int h.1,.int h.2.1,.int h.2.2.1,.int h.2.2.2]
structure RAbs (H:Hp) (D:qa7) (s:Abs) (LY LZ:List (List Int)):Prop where
 yv:∀ k,qdn D.Y (kI k)=(s.y k).map V.int
 yk:∃ ks,DKeys D.Y ks/\ks ⊆ LY
 zn:∀ k,s.z k=none->qdn D.Z (kI k)=none
 zs:∀ k h,s.z k=some h->∃ a,qdn D.Z (kI k)=some (.ref a)/\H a=some (.tup (v4 h))
 zk:∃ ks,DKeys D.Z ks/\ks ⊆ LZ
theorem RAbs.same {H H':Hp} {D:qa7} {s:Abs} {LY LZ:List (List Int)} (e:Same H H') (h:RAbs H D s LY LZ):RAbs H' D s LY LZ:=
 ⟨h.yv,h.yk,h.zn,λk x q=>(h.zs k x q).imp λ_ z=>⟨z.1,e _ _ z.2⟩,h.zk⟩
theorem RAbs.tups {H H':Hp} {D:qa7} {s:Abs} {LY LZ:List (List Int)} (e:qtu H H') (h:RAbs H D s LY LZ):RAbs H' D s LY LZ:=
 ⟨h.yv,h.yk,h.zn,λk x q=>(h.zs k x q).imp λ_ z=>⟨z.1,e _ _ z.2⟩,h.zk⟩
theorem RAbs.mono {H:Hp} {D:qa7} {s:Abs} {LY LZ LY' LZ':List (List Int)} (h:RAbs H D s LY LZ) (a:LY ⊆ LY') (b:LZ ⊆ LZ'):RAbs H D s LY' LZ':=
 ⟨h.yv,h.yk.imp λ_ z=>⟨z.1,λ_ y=>a (z.2 y)⟩,h.zn,h.zs,h.zk.imp λ_ z=>⟨z.1,λ_ y=>b (z.2 y)⟩⟩
theorem RAbs.zero {H:Hp} {D:qa7} {LY LZ:List (List Int)} (eY:D.Y=[]) (eZ:D.Z=[]):RAbs H D qss LY LZ where
 yv:=λk=>by rw[eY];rfl
 yk:=⟨[],by rw[eY];exact DKeys.nil,λ_ z=>by cases z⟩
 zn:=λk _=>by rw[eZ];rfl
 zs:=λk x z=>by cases z
 zk:=⟨[],by rw[eZ];exact DKeys.nil,λ_ z=>by cases z⟩
theorem RAbs.yok {H:Hp} {D:qa7} {s:Abs} {LY LZ:List (List Int)} (h:RAbs H D s LY LZ):∀ k x,qdn D.Y (kI k)=some x->∃ n,x=V.int n:=λk x e=>by
 rw[h.yv] at e
 cases e2:s.y k with
 | none=>rw[e2] at e;cases e
 | some n=>rw[e2] at e;exact ⟨n,(AH e).symm⟩
theorem quz {kvs:KV} {ks L:List (List Int)} (h:DKeys kvs ks) (hs:ks ⊆ L):kvs.length<=L.length:=by
 have:=congrArg List.length h.eq;rw[Ad,Ad] at this;rw[this];exact BO h.nd hs
open PySem L2
theorem qn4 {v m a b lo hi:Int} (h:qnz [(v,m)] a b lo hi):a=m/\b=v*m/\lo=v/\hi=v:=by
 refine ⟨by rw[h.m];simp[rN,qB8],by rw[h.t];simp[rT,qB9],?_,?_⟩
 ·have:=h.lo;simpa [qsq] using this
 ·have:=h.hi;simpa [qsq] using this
theorem qu0 {kvs:KV} {ks:List (List Int)} (h:DKeys kvs ks) {k:List Key} {x:V} (e:qdn kvs k=some x):∃ j,k=kI j:=by
 have:k∈kvs.map (·.1):=valV_mem.mp (by rw[e];simp);rw[h.eq] at this;obtain ⟨j,_,e⟩:=Af.mp this;exact ⟨j,e.symm⟩
theorem RAbs.YOk {H:Hp} {D:qa7} {s:Abs} {LY LZ:List (List Int)} (h:RAbs H D s LY LZ):YOk D.Y:=λk x e=>by
 obtain ⟨ks,d,_⟩:=h.yk;obtain ⟨j,rfl⟩:=qu0 d e;exact h.yok j x e
theorem RAbs.ZOk {H:Hp} {D:qa7} {s:Abs} {LY LZ:List (List Int)} (h:RAbs H D s LY LZ):ZOk H D.Z:=λk x e=>by
 obtain ⟨ks,d,_⟩:=h.zk;obtain ⟨j,rfl⟩:=qu0 d e
 cases ez:s.z j with
 | none=>rw[h.zn j ez] at e;cases e
 | some p =>
  obtain ⟨a,e1,e2⟩:=h.zs j p ez;rw[e] at e1;cases e1;exact ⟨a,p.1,p.2.1,p.2.2.1,p.2.2.2,rfl,e2⟩
theorem RAbs.ylen {H:Hp} {D:qa7} {s:Abs} {LY LZ:List (List Int)} (h:RAbs H D s LY LZ):D.Y.length<=LY.length:=by
 obtain ⟨ks,d,e⟩:=h.yk;exact quz d e
theorem RAbs.zlen {H:Hp} {D:qa7} {s:Abs} {LY LZ:List (List Int)} (h:RAbs H D s LY LZ):D.Z.length<=LZ.length:=by
 obtain ⟨ks,d,e⟩:=h.zk;exact quz d e
def qBs (cell:Int->Option (Int×Int)) (r:Rd3):List Int:=match cell r.1 with
 | none=>[]
 | some (a,w)=>[a,w]
theorem RAbs.put {H H':Hp} {D D':qa7} {o:Option (Int×Int)} {t v m:Int} {s:Abs} {LY LZ:List (List Int)} {cell:Int->Option (Int×Int)} (h:RAbs H D s LY LZ) (hp:Puts H H' D D' o t v m) (eo:cell t=o) (ts:qtu H H')
  (hy:[t,v]∈LY) (hz:∀ a w,o=some (a,w)->[a,w]∈LZ):RAbs H' D' (qds cell s (t,v,m)) LY LZ:=by
 have h2:=h.tups ts;unfold qds;dsimp only
 rcases hp with ⟨rfl,rfl⟩|⟨rfl,rfl⟩|⟨a,w,b,m1,t1,lo1,hi1,rfl,hw,rfl,hb,po⟩
 ·rw[eo];exact h2
 ·rw[eo]
  dsimp only;rw[Ak rfl];have ey:TB.yv D.Y (kk t v)=(s.y [t,v]).getD 0:=by
   unfold TB.yv;have:=h.yv [t,v];rw[show kk t v=kI [t,v] from rfl,this]
   cases s.y [t,v]<;>rfl
  refine ⟨λk=>?_,?_,h2.zn,h2.zs,h2.zk⟩
  ·show qdn (putK D.Y (kI [t,v]) _) (kI k)=(qe3 s.y [t,v] ((s.y [t,v]).getD 0+m) k).map V.int
   rw[qgc,ey]
   by_cases hk:k=[t,v]
   ·subst hk;rw[Ak rfl,qa4];rfl
   ·rw[Ah (λz=>hk (qih z)),qbq _ _ hk];exact h.yv k
  ·obtain ⟨ks,d,e⟩:=h.yk
   obtain ⟨ks',d',e'⟩:=d.put [t,v] rfl (V.int (TB.yv D.Y (kk t v)+m));exact ⟨ks',d',λj hj=>(e' j).mp hj |>.elim (λz=>e z) λz=>by rw[z];exact hy⟩
 ·rw[eo]
  dsimp only;rw[Ah (by omega)];have ev:(m1,t1,lo1,hi1)=qcv (s.z [a,w]) (qg6 v m):=by
   rcases po with ⟨p1,p2⟩|⟨h0,m0,t0,lo0,hi0,a',b',lo',hi',p1,p2,p3,rfl,rfl,rfl,rfl⟩
   ·obtain ⟨rfl,rfl,rfl,rfl⟩:=qn4 p2
    cases ez:s.z [a,w] with
    | none=>rfl
    | some q =>
     obtain ⟨_,e1,_⟩:=h.zs _ q ez;rw[show kk a w=kI [a,w] from rfl,e1] at p1;cases p1
   ·obtain ⟨rfl,rfl,rfl,rfl⟩:=qn4 p3
    cases ez:s.z [a,w] with
    | none =>
     have:=h.zn _ ez;rw[show kk a w=kI [a,w] from rfl,this] at p1;cases p1
    | some q =>
     obtain ⟨_,e1,e2⟩:=h.zs _ q ez;rw[show kk a w=kI [a,w] from rfl,e1] at p1;cases p1;rw[p2] at e2;have e3:[V.int m0,V.int t0,V.int lo0,V.int hi0]=v4 q:=by injection e2 with e2;injection e2
     unfold v4 at e3;injection e3 with c1 e3
     injection e3 with c2 e3
     injection e3 with c3 e3
     injection e3 with c4 e3
     injection c1 with c1
     injection c2 with c2
     injection c3 with c3
     injection c4 with c4
     subst c1 c2 c3 c4
     rfl
  have hb':H' b=some (.tup (v4 (qcv (s.z [a,w]) (qg6 v m)))):=by rw[<- ev];exact hb
  refine ⟨h2.yv,h2.yk,λk hk=>?_,λk q hk=>?_,?_⟩
  ·have hk:qe3 s.z [a,w] (qcv (s.z [a,w]) (qg6 v m)) k=none:=hk
   show qdn (putK D.Z (kI [a,w]) _) (kI k)=_
   rw[qgc]
   by_cases hk2:k=[a,w]
   ·subst hk2;rw[qa4] at hk;cases hk
   ·rw[Ah (λz=>hk2 (qih z))]
    rw[qbq _ _ hk2] at hk;exact h.zn k hk
  ·have hk:qe3 s.z [a,w] (qcv (s.z [a,w]) (qg6 v m)) k=some q:=hk
   show ∃ c,qdn (putK D.Z (kI [a,w]) (.ref b)) (kI k)=some (.ref c)/\_
   rw[qgc]
   by_cases hk2:k=[a,w]
   ·subst hk2
    rw[qa4] at hk;cases hk;exact ⟨b,Ak rfl,hb'⟩
   ·rw[qbq _ _ hk2] at hk
    rw[Ah (λz=>hk2 (qih z))];exact h2.zs k q hk
  ·obtain ⟨ks,d,e⟩:=h.zk
   obtain ⟨ks',d',e'⟩:=d.put [a,w] rfl (V.ref b);exact ⟨ks',d',λj hj=>(e' j).mp hj |>.elim (λz=>e z) λz=>by rw[z];exact hz a w rfl⟩
inductive qn5 (C R:Addr) (vs:List V) (H:Hp) (Q:VK) (E_:XK):Prop
 | mk:∀ (ro:Addr) (D:qa7) (t v m:Int),vs=[.ref ro,.int t,.int v,.int m]->RollAt C R H ro D->qg4 D->qmu t->1<=m->qtv (v,m)->TB.YOk D.Y->TB.ZOk H D.Z->D.Y.length<=900->D.Z.length<=900->(∀ o,CellOf (D.ps.map (·.2)) D.es D.ge t o->∀ D' H',Puts H H' D D' o t v m->RollAt C R H' ro D'->But2 D.dy D.dh H H'->Q (.bl o.isSome) H')->qn5 C R vs H Q E_
def qmv (s:Abs) (k:List Int):List Int:=k ++ [(s.y k).getD 0]
def i4 (h:HP4):List Int:=[h.1,h.2.1,h.2.2.1,h.2.2.2]
def qn6 (s:Abs) (k:List Int):List Int:=k ++ i4 ((s.z k).getD (0,0,0,0))
inductive qii (C R:Addr) (vs:List V) (H:Hp) (Q:VK) (E_:XK):Prop
 | mk:∀ (ro:Addr) (D:qa7) (s:Abs) (LY LZ:List (List Int)),vs=[.ref ro]->RollAt C R H ro D->RAbs H D s LY LZ->LY.length<64->(∀ l xs ms H',Same H H'->H l=none->H' l=some (.lst xs)->SKeys s.y ms->ms.length<64->Tups H' xs (ms.map (qmv s))->Q (.ref l) H')->qii C R vs H Q E_
inductive qij (C R:Addr) (vs:List V) (H:Hp) (Q:VK) (E_:XK):Prop
 | mk:∀ (ro:Addr) (D:qa7) (s:Abs) (LY LZ:List (List Int)),vs=[.ref ro]->RollAt C R H ro D->RAbs H D s LY LZ->LZ.length<64->(∀ l xs ms H',Same H H'->H l=none->H' l=some (.lst xs)->SKeys s.z ms->ms.length<64->Tups H' xs (ms.map (qn6 s))->Q (.ref l) H')->qij C R vs H Q E_
theorem Tups.snoc {H:Hp} {v:V} {r:List Int} (h:TupAt H v r):∀ {xs:List V} {rs:List (List Int)},Tups H xs rs->Tups H (xs ++ [v]) (rs ++ [r])
 | _,_,.nil=>.cons h .nil
 | _,_,.cons q t=>.cons q (Tups.snoc h t)
theorem SKeys.ofD {kvs:KV} {ks ms:List (List Int)} {α:Type} {f:List Int->Option α} (d:DKeys kvs ks) (hf:∀ k,qdn kvs (kI k)≠none↔f k≠none) (p:ms.Perm ks) (hs:ms.Pairwise (λk l=>blt k l=true)):SKeys f ms:=
 ⟨hs,λk=>by rw[p.mem_iff,d.mem,hf]⟩
open PySem L2
def ROk (r:Rd3):Prop:=qmu r.1/\qtv (r.2.1,r.2.2)
def l3 (r:Rd3):List Int:=[r.1,r.2.1,r.2.2]
open Classical in
noncomputable def qdy (ws es:List Int) (ge:Option Int) (t:Int):Option (Int×Int):=if h:∃ o,CellOf ws es ge t o then h.choose else none
theorem qkc {ws es:List Int} {ge:Option Int} {t:Int} {o:Option (Int×Int)} (hl:1<=es.length) (h:CellOf ws es ge t o):qdy ws es ge t=o:=by
 have hx:∃ o,CellOf ws es ge t o:=⟨o,h⟩;unfold qdy;rw[dif_pos hx];exact CellOf.uniq (e0:=es[0]) (Ac (by omega)) hx.choose_spec h
def dd (Y Z:KV):qa7:=⟨0,0,0,0,0,[],none,0,[],none,Y,Z⟩
open PySem L2
def RR (C R:Addr) (H:Hp) (ro:Addr) (c:qa7) (s:Abs) (LY LZ:List (List Int)):Prop:=
 ∃ Y Z,RollAt C R H ro { c with Y:=Y,Z:=Z }/\RAbs H { c with Y:=Y,Z:=Z } s LY LZ
theorem RR.same {C R:Addr} {H H':Hp} {ro:Addr} {c:qa7} {s:Abs} {LY LZ:List (List Int)} (e:Same H H') (h:RR C R H ro c s LY LZ):RR C R H' ro c s LY LZ:=
 let ⟨Y,Z,a,b⟩:=h;⟨Y,Z,a.same e,b.same e⟩
theorem But2.tups {H H':Hp} {a b:Addr} {Y Z:KV} (h:But2 a b H H') (ha:H a=some (.dT Y)) (hb:H b=some (.dT Z)):qtu H H':=λx xs e =>
 h x _ e (qa0 e ha (by intro z;cases z)) (qa0 e hb (by intro z;cases z))
theorem But2.keep {H H':Hp} {a b:Addr} {Y Z:KV} (h:But2 a b H H') (ha:H a=some (.dT Y)) (hb:H b=some (.dT Z)) {x:Addr} {o:HO} (e:H x=some o) (n:∀ K,o≠.dT K):H' x=some o:=
 h x _ e (qa0 e ha (n _)) (qa0 e hb (n _))
theorem But2.trans {H H1 H2:Hp} {a b:Addr} (h:But2 a b H H1) (h2:But2 a b H1 H2):But2 a b H H2:=λx o e n m=>h2 x o (h x o e n m) n m
theorem But2.refl (a b:Addr) (H:Hp):But2 a b H H:=λ_ _ e _ _=>e
theorem RuleAt.keep2 {C:Addr} {H H':Hp} {r l a b:Addr} {ps:List (Int×Int)} {g:Option Int} {Y Z:KV} (h:RuleAt C H r l ps g) (e:But2 a b H H') (ha:H a=some (.dT Y)) (hb:H b=some (.dT Z)):RuleAt C H' r l ps g:=by
 obtain ⟨dx,e1⟩:=h.ob;obtain ⟨xs,e2,p⟩:=h.ls;exact ⟨⟨dx,e.keep ha hb e1 (by intro K z;cases z)⟩,xs,e.keep ha hb e2 (by intro K z;cases z),p.tupS (e.tups ha hb)⟩
theorem RR.frame {C R:Addr} {H H':Hp} {ro:Addr} {c:qa7} {s:Abs} {LY LZ:List (List Int)} {a b:Addr} {Y Z:KV} (h:RR C R H ro c s LY LZ) (e:But2 a b H H') (ha:H a=some (.dT Y)) (hb:H b=some (.dT Z))
  (n1:c.dy≠a) (n2:c.dy≠b) (n3:c.dh≠a) (n4:c.dh≠b):RR C R H' ro c s LY LZ:=by
 obtain ⟨Y',Z',A,B⟩:=h;obtain ⟨dx,e1⟩:=A.ob;exact ⟨Y',Z',⟨⟨dx,e.keep ha hb e1 (by intro K z;cases z)⟩,A.rule.keep2 e ha hb,e.keep ha hb A.ed (by intro K z;cases z),e _ _ A.yo n1 n2,e _ _ A.he n3 n4,A.ne⟩,B.tups (e.tups ha hb)⟩
theorem RR.dicts {C R:Addr} {H:Hp} {ro:Addr} {c:qa7} {s:Abs} {LY LZ:List (List Int)} (h:RR C R H ro c s LY LZ):(∃ Y,H c.dy=some (.dT Y))/\∃ Z,H c.dh=some (.dT Z):=
 let ⟨_,_,A,_⟩:=h;⟨⟨_,A.yo⟩,⟨_,A.he⟩⟩
theorem RR.obj {C R:Addr} {H:Hp} {ro:Addr} {c:qa7} {s:Abs} {LY LZ:List (List Int)} (h:RR C R H ro c s LY LZ):∃ dx,H ro=some (.ins C dx (rof c.ru c.day c.le c.dy c.dh)):=
 let ⟨_,_,A,_⟩:=h;A.ob
noncomputable abbrev cellD (c:qa7):Int->Option (Int×Int):=qdy (c.ps.map (·.2)) c.es c.ge
theorem RR.put {C R:Addr} {H:Hp} {ro:Addr} {c:qa7} {s:Abs} {LY LZ:List (List Int)} {t v m:Int} {Q:VK} {E:XK} (h:RR C R H ro c s LY LZ) (ok:qg4 c) (hr:qmu t) (h1:1<=m) (hb:qtv (v,m)) (ly:LY.length<64) (lz:LZ.length<64)
  (hy:[t,v]∈LY) (hz:∀ a w,cellD c t=some (a,w)->[a,w]∈LZ)
  (q:∀ H',RR C R H' ro c (qds (cellD c) s (t,v,m)) LY LZ->But2 c.dy c.dh H H'->Q (.bl (cellD c t).isSome) H'):qn5 C R [.ref ro,.int t,.int v,.int m] H Q E:=by
 obtain ⟨Y,Z,A,B⟩:=h;have hes:1<=c.es.length:=by rw[ok.es];exact ok.pr.good.lo
 refine ⟨ro,_,t,v,m,rfl,A,⟨ok.pr,ok.es⟩,hr,h1,hb,B.YOk,B.ZOk,AV B.ylen (by omega),AV B.zlen (by omega),λo hc D' H' pu A' b'=>?_⟩;have eo:cellD c t=o:=qkc hes hc;rw[<- eo];have B':=B.put pu eo (b'.tups A.yo A.he) hy (λa w e=>hz a w (eo.trans e));refine q H' ?_ b'
 rcases pu with ⟨_,rfl⟩|⟨_,rfl⟩|⟨_,_,_,_,_,_,_,_,_,rfl,_,_⟩
 ·exact ⟨Y,Z,A',B'⟩
 ·exact ⟨_,Z,A',B'⟩
 ·exact ⟨Y,_,A',B'⟩
open Classical in
noncomputable def qcw (s:Abs):List (List Int):=if h:∃ ms,SKeys s.y ms then h.choose.map (qmv s) else []
open Classical in
noncomputable def qcz (s:Abs):List (List Int):=if h:∃ ms,SKeys s.z ms then h.choose.map (qn6 s) else []
theorem qej {s:Abs} {ms:List (List Int)} (h:SKeys s.y ms):ms.map (qmv s)=qcw s:=by
 have hx:∃ ms,SKeys s.y ms:=⟨ms,h⟩;unfold qcw;rw[dif_pos hx,SKeys.uniq h hx.choose_spec]
theorem qek {s:Abs} {ms:List (List Int)} (h:SKeys s.z ms):ms.map (qn6 s)=qcz s:=by
 have hx:∃ ms,SKeys s.z ms:=⟨ms,h⟩;unfold qcz;rw[dif_pos hx,SKeys.uniq h hx.choose_spec]
def qu1 (rs:List (List Int)):Prop:=rs.length<=900/\∀ r∈rs,r.length<=10
theorem RR.young {C R:Addr} {H:Hp} {ro:Addr} {c:qa7} {s:Abs} {LY LZ:List (List Int)} {Q:VK} {E:XK} (h:RR C R H ro c s LY LZ) (ly:LY.length<64)
  (q:∀ l xs H',Same H H'->H l=none->H' l=some (.lst xs)->Tups H' xs (qcw s)->qu1 (qcw s)->Q (.ref l) H'):qii C R [.ref ro] H Q E:=by
 obtain ⟨Y,Z,A,B⟩:=h;refine ⟨ro,_,s,LY,LZ,rfl,A,B,ly,λl xs ms H' e f hl sk hm tu=>?_⟩;rw[qej sk] at tu;refine q l xs H' e f hl tu ?_;rw[<- qej sk];obtain ⟨ks,dk,_⟩:=B.yk;refine ⟨by rw[Ad];omega,λr hr=>?_⟩;obtain ⟨k,hk,rfl⟩:=Af.mp hr;have:k∈ks:=(dk.mem k).mpr (by rw[B.yv];have:=(sk.mem k).mp hk;cases z:s.y k with|none=>exact absurd z this|some _=>simp);have:=dk.ne k this;unfold qmv;rw[Az,this];simp
theorem RR.heaps {C R:Addr} {H:Hp} {ro:Addr} {c:qa7} {s:Abs} {LY LZ:List (List Int)} {Q:VK} {E:XK} (h:RR C R H ro c s LY LZ) (lz:LZ.length<64)
  (q:∀ l xs H',Same H H'->H l=none->H' l=some (.lst xs)->Tups H' xs (qcz s)->qu1 (qcz s)->Q (.ref l) H'):qij C R [.ref ro] H Q E:=by
 obtain ⟨Y,Z,A,B⟩:=h;refine ⟨ro,_,s,LY,LZ,rfl,A,B,lz,λl xs ms H' e f hl sk hm tu=>?_⟩;rw[qek sk] at tu;refine q l xs H' e f hl tu ?_;rw[<- qek sk];obtain ⟨ks,dk,_⟩:=B.zk;refine ⟨by rw[Ad];omega,λr hr=>?_⟩;obtain ⟨k,hk,rfl⟩:=Af.mp hr;have:k∈ks:=(dk.mem k).mpr (by
  have:=(sk.mem k).mp hk
  cases z:s.z k with
  | none=>exact absurd z this
  | some h4=>obtain ⟨a,e1,_⟩:=B.zs k h4 z;rw[e1];simp)
 have:=dk.ne k this;unfold qn6 i4;rw[Az,this];simp
theorem Tups.tupS {H H':Hp} (s:qtu H H'):∀ {xs:List V} {rs:List (List Int)},Tups H xs rs->Tups H' xs rs
 | _,_,.nil=>.nil
 | _,_,.cons ⟨a,e,h⟩ t=>.cons ⟨a,e,s _ _ h⟩ (Tups.tupS s t)
open PySem L2
def qeq (cell:Int->Option (Int×Int)) (s:Abs) (a:Int) (x:HP4):Abs:=match cell a with
 | none=>s
 | some (b,w)=>{ s with z:=qe3 s.z [b,w] (qcv (s.z [b,w]) x) }
def qrx (H:Hp) (Z:KV) (k:List Key) (x y:HP4):Prop:=
 (qdn Z k=none/\y=x)\/∃ (h0:Addr) (x0:HP4),qdn Z k=some (.ref h0)/\H h0=some (.tup (v4 x0))/\y=mg4 x0 x
theorem qu2 {x y:HP4} (h:v4 x=v4 y):x=y:=by
 unfold v4 at h;injection h with h1 h
 injection h with h2 h
 injection h with h3 h
 injection h with h4 _
 injection h1 with h1
 injection h2 with h2
 injection h3 with h3
 injection h4 with h4
 exact qxu h1 h2 h3 h4
theorem RAbs.pour {H H':Hp} {D:qa7} {a w:Int} {b:Addr} {x y:HP4} {s:Abs} {LY LZ:List (List Int)} (h:RAbs H D s LY LZ) (po:qrx H D.Z (kk a w) x y) (hb:H' b=some (.tup (v4 y))) (ts:qtu H H') (hz:[a,w]∈LZ) :
  RAbs H' { D with Z:=putK D.Z (kk a w) (.ref b) } { s with z:=qe3 s.z [a,w] (qcv (s.z [a,w]) x) } LY LZ:=by
 have h2:=h.tups ts;have ev:y=qcv (s.z [a,w]) x:=by
  rcases po with ⟨p1,p2⟩|⟨h0,x0,p1,p2,p3⟩
  ·cases ez:s.z [a,w] with
   | none=>exact p2
   | some q =>
    obtain ⟨_,e1,_⟩:=h.zs _ q ez;rw[show kk a w=kI [a,w] from rfl,e1] at p1;cases p1
  ·cases ez:s.z [a,w] with
   | none =>
    have:=h.zn _ ez;rw[show kk a w=kI [a,w] from rfl,this] at p1;cases p1
   | some q =>
    obtain ⟨_,e1,e2⟩:=h.zs _ q ez;rw[show kk a w=kI [a,w] from rfl,e1] at p1;cases p1;rw[p2] at e2;have e3:v4 x0=v4 q:=by injection e2 with e2;injection e2
    rw[p3,qu2 e3]
    rfl
 subst ev;refine ⟨h2.yv,h2.yk,λk hk=>?_,λk q hk=>?_,?_⟩
 ·have hk:qe3 s.z [a,w] (qcv (s.z [a,w]) x) k=none:=hk
  show qdn (putK D.Z (kI [a,w]) _) (kI k)=_
  rw[qgc]
  by_cases hk2:k=[a,w]
  ·subst hk2;rw[qa4] at hk;cases hk
  ·rw[Ah (λz=>hk2 (qih z))]
   rw[qbq _ _ hk2] at hk;exact h.zn k hk
 ·have hk:qe3 s.z [a,w] (qcv (s.z [a,w]) x) k=some q:=hk
  show ∃ c,qdn (putK D.Z (kI [a,w]) (.ref b)) (kI k)=some (.ref c)/\_
  rw[qgc]
  by_cases hk2:k=[a,w]
  ·subst hk2
   rw[qa4] at hk;cases hk;exact ⟨b,Ak rfl,hb⟩
  ·rw[qbq _ _ hk2] at hk
   rw[Ah (λz=>hk2 (qih z))];exact h2.zs k q hk
 ·obtain ⟨ks,d,e⟩:=h.zk
  obtain ⟨ks',d',e'⟩:=d.put [a,w] rfl (V.ref b);exact ⟨ks',d',λj hj=>(e' j).mp hj |>.elim (λz=>e z) λz=>by rw[z];exact hz⟩
def qdt (cell:Int->Option (Int×Int)) (s:Abs):List Int->Abs
 | [t,v,m]=>qds cell s (t,v,m)
 | _=>s
def qcl (cell:Int->Option (Int×Int)) (s:Abs):List Int->Abs
 | [a,_,m,t,lo,hi]=>qeq cell s a (m,t,lo,hi)
 | _=>s
def qgv (cell:Int->Option (Int×Int)) (s:Abs) (Y Z:List (List Int)):Abs:=Z.foldl (qcl cell) (Y.foldl (qdt cell) s)
inductive qlk (C R:Addr) (vs:List V) (H:Hp) (Q:VK) (E_:XK):Prop
 | mk:∀ (ro:Addr) (D:qa7) (c h:Addr) (s w:Int) (x:HP4),vs=[.ref ro,.ref c,.ref h]->RollAt C R H ro D->H c=some (.tup [.int s,.int w])->H h=some (.tup (v4 x))->ZOk H D.Z->D.Z.length<=900->(∀ h2 y H',H' h2=some (.tup (v4 y))->qrx H D.Z (kk s w) x y->RollAt C R H' ro { D with Z:=putK D.Z (kk s w) (.ref h2) }->But D.dh H H'->Q .non H')->qlk C R vs H Q E_
inductive qn7 (C R:Addr) (vs:List V) (H:Hp) (Q:VK) (E_:XK):Prop
 | mk:∀ (ro:Addr) (c:qa7) (s:Abs) (LY LZ:List (List Int)) (a:Int) (h:Addr) (x:HP4),vs=[.ref ro,.int a,.ref h]->RR C R H ro c s LY LZ->qg4 c->qmu a->H h=some (.tup (v4 x))->LZ.length<64->(∀ b w,cellD c a=some (b,w)->[b,w]∈LZ)->(∀ H',RR C R H' ro c (qeq (cellD c) s a x) LY LZ->But2 c.dy c.dh H H'->Q .non H')->qn7 C R vs H Q E_
structure qry (cell:Int->Option (Int×Int)) (LY LZ Y Z:List (List Int)):Prop where
 y:∀ r∈Y,∃ t v m,r=[t,v,m]/\ROk (t,v,m)/\[t,v]∈LY/\∀ a w,cell t=some (a,w)->[a,w]∈LZ
 z:∀ r∈Z,∃ a w m t lo hi,r=[a,w,m,t,lo,hi]/\qmu a/\∀ b w,cell a=some (b,w)->[b,w]∈LZ
def ApartD (c d:qa7):Prop:=c.dy≠d.dy/\c.dy≠d.dh/\c.dh≠d.dy/\c.dh≠d.dh
inductive qf3 (C R:Addr) (vs:List V) (H:Hp) (Q:VK) (E_:XK):Prop
 | mk:∀ (ro r2:Addr) (c c2:qa7) (s s2:Abs) (LY LZ LY2 LZ2:List (List Int)),vs=[.ref ro,.ref r2]->RR C R H ro c s LY LZ->RR C R H r2 c2 s2 LY2 LZ2->qg4 c->ApartD c2 c->LY.length<64->LZ.length<64->LY2.length<64->LZ2.length<64->qry (cellD c) LY LZ (qcw s2) (qcz s2)->(∀ H',RR C R H' ro c (qgv (cellD c) s (qcw s2) (qcz s2)) LY LZ->But2 c.dy c.dh H H'->Q .non H')->qf3 C R vs H Q E_
open PySem L2
theorem SKeys.nd {α:Type} {f:List Int->Option α} {ms:List (List Int)} (h:SKeys f ms):ms.Nodup:=h.srt.imp fun {k l} hb e=>by rw[e,qh2] at hb;cases hb
open PySem L2
theorem qf4 {ws es:List Int} {ge:Option Int} (hw:1<=ws.length) (he:1<=es.length) (t:Int):CellOf ws es ge t (qdy ws es ge t):=by
 obtain ⟨o,h⟩:∃ o,CellOf ws es ge t o:=by
  by_cases c:es[0]<=t
  ·exact ⟨some (t,0),λe0 h0=>⟨λ_=>rfl,λz=>by rw[Ac (by omega)] at h0;have:=AH h0;omega⟩⟩
  ·by_cases hg:qc5 ge t
   ·exact ⟨none,λe0 h0=>⟨λz=>by rw[Ac (by omega)] at h0;have:=AH h0;omega,λ_=>⟨λ_=>rfl,λz=>absurd hg z⟩⟩⟩
   ·have hn:=qzn (ws:=ws) (es:=es) (t:=t) (w0:=ws[0]) (e0:=es[0]) (Ac (by omega)) (Ac (by omega)) (by omega)
    refine ⟨some (t / (wl ws es t)[(wl ws es t).length-1]*(wl ws es t)[(wl ws es t).length-1],(wl ws es t)[(wl ws es t).length-1]),λe0 h0=>⟨λz=>by rw[Ac (by omega)] at h0;have:=AH h0;omega,λ_=>⟨λz=>absurd z hg,λ_=>⟨_,Ac (by omega),rfl⟩⟩⟩⟩
 rw[qkc he h];exact h
theorem qn8 {e t w:Int} (hw:1<=w) (h:w ∣ e) (hl:e<=t):e<=t / w*w:=by
 obtain ⟨k,rfl⟩:=h;have:k<=t / w:=(Int.le_ediv_iff_mul_le (by omega)).mpr (by rw[Cf];exact hl);rw[Cf w k];exact DX this (by omega)
def qAk (W:Int) (cell:Int->Option (Int×Int)):Prop:=∀ t a w,cell t=some (a,w)->a<=t/\t-W<=a
theorem qrz {ws es:List Int} {ge:Option Int} {W:Int} (hw:1<=ws.length) (he:1<=es.length) (hW:0<=W) (hb:∀ w∈ws,1<=w/\w<=W):qAk W (qdy ws es ge):=λt a w e=>by
 have h:=qf4 (ge:=ge) hw he t;rw[e] at h;obtain ⟨h1,h2⟩:=h es[0] (Ac (by omega))
 by_cases c:es[0]<=t
 ·have:=h1 c
  cases this;omega
 ·obtain ⟨g1,g2⟩:=h2 (by omega)
  by_cases hg:qc5 ge t
  ·cases g1 hg
  ·obtain ⟨w',hl,e2⟩:=g2 hg
   cases e2;have:=hb w (qrq (Aq hl));have h1:=Int.ediv_mul_le t (b:=w) (by omega);have h2:=Int.lt_ediv_add_one_mul_self t (b:=w) (by omega);rw[Int.add_mul,Int.one_mul] at h2;omega
open PySem L2
def qw3 (cell:Int->Option (Int×Int)) (r:Rd3):List Int:=match cell r.1 with
 | none=>[]
 | some (a,w)=>if w=0 then [0,r.1,r.2.1] else [1,a,w]
def Tags (cell:Int->Option (Int×Int)) (s:Abs) (L:List Rd3):Prop:=(∀ k,s.y k≠none->∃ r∈L,qw3 cell r=0 :: k)/\∀ k,s.z k≠none->∃ r∈L,qw3 cell r=1 :: k
theorem Tags.put {cell:Int->Option (Int×Int)} {s:Abs} {L:List Rd3} (h:Tags cell s L) (r:Rd3):Tags cell (qds cell s r) (L ++ [r]):=by
 have up:∀ {x:List Int},(∃ r∈L,qw3 cell r=x)->∃ q∈L ++ [r],qw3 cell q=x:=fun ⟨q,hq,e⟩=>⟨q,Cd _ hq,e⟩
 have me:r∈L ++ [r]:=AK _ Ap;unfold qds
 rcases e:cell r.1 with _|⟨a,w⟩
 ·exact ⟨λk hk=>up (h.1 k hk),λk hk=>up (h.2 k hk)⟩
 ·dsimp only
  split
  ·rename_i hw
   refine ⟨λk hk=>?_,λk hk=>up (h.2 k hk)⟩
   by_cases ek:k=[r.1,r.2.1]
   ·exact ⟨r,me,by unfold qw3;rw[e];dsimp only;rw[Ak hw,ek]⟩
   ·have hk:qe3 s.y [r.1,r.2.1] _ k≠none:=hk
    rw[qbq _ _ ek] at hk;exact up (h.1 k hk)
  ·rename_i hw
   refine ⟨λk hk=>up (h.1 k hk),λk hk=>?_⟩
   by_cases ek:k=[a,w]
   ·exact ⟨r,me,by unfold qw3;rw[e];dsimp only;rw[Ah hw,ek]⟩
   ·have hk:qe3 s.z [a,w] _ k≠none:=hk
    rw[qbq _ _ ek] at hk;exact up (h.2 k hk)
theorem Tags.puts {cell:Int->Option (Int×Int)}:∀ (rs:List Rd3) {s:Abs} {L:List Rd3},Tags cell s L->Tags cell (rs.foldl (qds cell) s) (L ++ rs)
 | [],_,L,h=>by rw[Be];exact h
 | r :: t,s,L,h=>by
  have:=Tags.puts t (h.put r);rw[C7] at this;exact this
theorem qw4 (cell:Int->Option (Int×Int)) (rs:List Rd3):Tags cell (qe2 cell rs) rs:=Tags.puts rs (L:=[]) ⟨λ_ h=>absurd rfl h,λ_ h=>absurd rfl h⟩
structure AbsB (B N:Int) (s:Abs):Prop where
 y:∀ k n,s.y k=some n->∃ t v,k=[t,v]/\(-B<=t/\t<=B)/\(-(10 ^ 45)<v/\v<10 ^ 45)/\1<=n/\n<=N
 z:∀ k x,s.z k=some x->∃ a w,k=[a,w] /\ -B<=a/\a<=B
theorem qBt {B N:Int}:AbsB B N qss:=⟨(λ_ _ h=>by cases h),(λ_ _ h=>by cases h)⟩
theorem AbsB.put {B W N M:Int} {cell:Int->Option (Int×Int)} (cn:qAk W cell) {s:Abs} (h:AbsB B N s) (hN:0<=N) (hM:0<=M) {r:Rd3} (ht:-B<=r.1-W/\r.1<=B) (hW:0<=W) (hv:-(10 ^ 45)<r.2.1/\r.2.1<10 ^ 45) (hm:1<=r.2.2/\r.2.2<=M):AbsB B (N+M) (qds cell s r):=by
 have h':AbsB B (N+M) s:=⟨λk n e=>by obtain ⟨t,v,e1,e2,e3,e4,e5⟩:=h.y k n e;exact ⟨t,v,e1,e2,e3,e4,by omega⟩,h.z⟩;unfold qds
 rcases e:cell r.1 with _|⟨a,w⟩
 ·exact h'
 ·dsimp only
  split
  ·refine ⟨λk n hk=>?_,h'.z⟩
   have hk:qe3 s.y [r.1,r.2.1] _ k=some n:=hk
   by_cases ek:k=[r.1,r.2.1]
   ·rw[ek,qa4] at hk
    have hk:=AH hk;refine ⟨r.1,r.2.1,ek,by omega,hv,?_⟩
    cases e2:s.y [r.1,r.2.1] with
    | none=>rw[e2] at hk;simp at hk;omega
    | some n0 =>
     obtain ⟨_,_,_,_,_,e4,e5⟩:=h.y _ _ e2;rw[e2] at hk
     simp at hk
     omega
   ·rw[qbq _ _ ek] at hk;exact h'.y k n hk
  ·refine ⟨h'.y,λk x hk=>?_⟩
   have hk:qe3 s.z [a,w] _ k=some x:=hk
   by_cases ek:k=[a,w]
   ·have:=cn _ _ _ e
    exact ⟨a,w,ek,by omega,by omega⟩
   ·rw[qbq _ _ ek] at hk;exact h'.z k x hk
def RLt (r:Rd3):Prop:=(-(5*10 ^ 45)<=r.1/\r.1<=5*10 ^ 45)/\(-(10 ^ 45)<r.2.1/\r.2.1<10 ^ 45)/\1<=r.2.2/\r.2.2<=10 ^ 31
theorem qr0 {cell:Int->Option (Int×Int)} (cn:qAk (10 ^ 36) cell):∀ (rs:List Rd3) {s:Abs} {N:Int},AbsB (5*10 ^ 45+10 ^ 36) N s->0<=N->(∀ r∈rs,RLt r)->AbsB (5*10 ^ 45+10 ^ 36) (N+10 ^ 31*rs.length) (rs.foldl (qds cell) s)
 | [],s,N,h,_,_=>by simpa using h
 | r :: t,s,N,h,hN,hr=>by
  obtain ⟨h1,h2,h3,h4⟩:=hr r Ap;have a:=h.put cn hN (M:=10 ^ 31) (by omega) (r:=r) (by omega) (by omega) h2 ⟨h3,h4⟩;have:=qr0 cn t a (by omega) λq hq=>hr q (An _ hq)
  rw[CS];have e:N+10 ^ 31+10 ^ 31*(t.length:Int)=N+10 ^ 31*((r :: t).length:Int):=by
   rw[AB];push_cast;omega
  rw[<- e];exact this
theorem qkd {α:Type} {f:List Int->Option α} {ks:List (List Int)} (nd:ks.Nodup) (h:∀ k,k∈ks↔f k≠none):∃ ms,SKeys f ms/\ms.length=ks.length:=by
 have tot:∀ a b:List Int,(!blt b a || !blt a b)=true:=λa b=>by
  cases h1:blt b a<;>cases h2:blt a b<;>simp
  exact qkb h1 h2
 have tr:∀ a b c:List Int,(!blt b a)=true->(!blt c b)=true->(!blt c a)=true:=λa b c h1 h2=>by
  simp at h1 h2 ⊢
  by_cases e1:a=b
  ·subst e1;exact h2
  ·by_cases e2:b=c
   ·subst e2;exact h1
   ·have a1:=qf1 b a (λz=>e1 z.symm) h1
    have a2:=qf1 c b (λz=>e2 z.symm) h2;have a3:=qjb _ _ _ a1 a2
    cases h3:blt c a with
    | false=>rfl
    | true=>exact (qkb a3 h3).elim
 have pm:=List.mergeSort_perm ks (λa b=>!blt b a);refine ⟨ks.mergeSort (λa b=>!blt b a),⟨?_,λk=>by rw[pm.mem_iff,h]⟩,pm.length_eq⟩;have srt:=EI tr tot ks;have nd':=pm.nodup_iff.mpr nd;rw[C4] at nd';refine (srt.and nd').imp fun {a b} hab=>?_
 obtain ⟨h1,h2⟩:=hab
 simp at h1
 exact qf1 b a (λz=>h2 z.symm) h1
open PySem L2
structure Fall (ws es:List Int) (ge:Option Int):Prop where
 len:ws.length=es.length
 pos:∀ (i:Nat) w,ws[i]?=some w->1<=w
 dv:∀ (i j:Nat) a b,i<=j->ws[i]?=some a->ws[j]?=some b->a ∣ b
 ml:∀ (i:Nat) w e,ws[i]?=some w->es[i]?=some e->w ∣ e
 gl:∀ (i:Nat) w z,ws[i]?=some w->ge=some z->w ∣ z
 dn:∀ (i j:Nat) a b,i<=j->es[i]?=some a->es[j]?=some b->b<=a
structure StepAt (ws es:List Int) (t:Int) (i:Nat) (w e:Int):Prop where
 gw:ws[i]?=some w
 ge:es[i]?=some e
 lt:t<e
 nx:∀ e',es[i+1]?=some e'->e'<=t
theorem qBu {ws es:List Int} {t:Int} (h:∀ x∈es,x<=t):wl ws es t=[]:=by
 unfold wl;rw[List.filter_eq_nil_iff.mpr,Dq];intro x hx;have:=h x.2 (Cm hx).2
 simp;omega
theorem qll:∀ {i:Nat} {ws es:List Int} {t w e:Int},(∀ (i j:Nat) a b,i<=j->es[i]?=some a->es[j]?=some b->b<=a)->StepAt ws es t i w e->(wl ws es t).getLast?=some w
 | 0,ws,es,t,w,e,F,S=>by
  cases ws with
  | nil=>have:=S.gw;simp at this
  | cons w1 wr =>
   cases es with
   | nil=>have:=S.ge;simp at this
   | cons e1 er =>
    have ew:=S.gw;have ee:=S.ge
    simp at ew ee
    subst ew;subst ee;have hr:∀ x∈er,x<=t:=λx hx=>by
     obtain ⟨k,hk,rfl⟩:=AS hx;have h0:0<er.length:=by omega
     have a:=S.nx er[0] (by simp[h0]);have b:=F 1 (k+1) er[0] er[k] (by omega) (by simp[h0]) (by simp[hk]);omega
    have e1:wl (w1 :: wr) (e1 :: er) t=w1 :: wl wr er t:=by
     unfold wl;rw[C1,Cy (by simpa using S.lt)];rfl
    rw[e1,qBu hr];rfl
 | i+1,ws,es,t,w,e,F,S=>by
  cases ws with
  | nil=>have:=S.gw;simp at this
  | cons w1 wr =>
   cases es with
   | nil=>have:=S.ge;simp at this
   | cons e1 er =>
    have S':StepAt wr er t i w e:=⟨by simpa using S.gw,by simpa using S.ge,S.lt,λe' h=>S.nx e' (by simpa using h)⟩;have ih:=qll (λa b x y h h1 h2=>F (a+1) (b+1) x y (by omega) (by simpa using h1) (by simpa using h2)) S';have hlt:t<e1:=by
     have:=F 0 (i+1) e1 e (by omega) (by simp) S.ge;have:=S.lt;omega
    have e2:wl (w1 :: wr) (e1 :: er) t=w1 :: wl wr er t:=by
     unfold wl;rw[C1,Cy (by simpa using hlt)];rfl
    rw[e2,List.getLast?_cons,ih];rfl
theorem qik:∀ {es ws:List Int} {t e0:Int},ws.length=es.length->es[0]?=some e0->t<e0->∃ i w e,StepAt ws es t i w e
 | [],ws,t,e0,_,h,_=>by simp at h
 | e1 :: er,[],t,e0,hl,_,_=>by simp at hl
 | e1 :: er,w1 :: wr,t,e0,hl,h,hlt=>by
  simp at h
  subst h
  by_cases hc:∃ e2,er[0]?=some e2/\t<e2
  ·obtain ⟨e2,he2,h2⟩:=hc
   obtain ⟨i,w,e,S⟩:=qik (es:=er) (ws:=wr) (by simpa using hl) he2 h2;exact ⟨i+1,w,e,by simpa using S.gw,by simpa using S.ge,S.lt,λe' h=>S.nx e' (by simpa using h)⟩
  ·refine ⟨0,w1,e1,by simp,by simp,hlt,λe' h=>?_⟩
   have h':er[0]?=some e':=by simpa using h
   by_cases z:t<e'
   ·exact absurd ⟨e',h',z⟩ hc
   ·omega
theorem qlm {w t e:Int} (hw:1<=w) (hd:w ∣ e) (h:t<e):t / w*w+w<=e:=by
 obtain ⟨k,rfl⟩:=hd;have h1:t / w<k:=Fd (by omega) (by rwa [Cf] at h);have h2:=D5 (show t / w+1<=k by omega) (show 0<=w by omega);rw[D6,D4,Cf w (t / w)] at h2;exact h2
theorem qpc {w:Int} (t:Int) (hw:1<=w):t / w*w<=t/\t<t / w*w+w:=by
 have a:=Int.mul_ediv_add_emod t w;have b:=AU t (show w≠0 by omega);have c:=AN t (show 0<w by omega);rw[Cf] at a;omega
theorem qil (t w:Int):w ∣ t / w*w:=⟨t / w,Cf _ _⟩
theorem qw5 {w s x:Int} (hw:1<=w) (hd:w ∣ x) (h1:x<=s) (h2:s<x+w):s / w*w=x:=by
 have a:=qn8 hw hd h1;have b:=qpc s hw;obtain ⟨k,rfl⟩:=hd;have c:=qlm hw (show w ∣ w*(k+1) from ⟨k+1,rfl⟩) (show s<w*(k+1) by rw[D6,D4];exact h2);rw[D6,D4] at c;omega
theorem StepAt.cell {ws es:List Int} {ge:Option Int} {t s w e:Int} {i:Nat} (F:Fall ws es ge) (S:StepAt ws es t i w e) (h1:t / w*w<=s) (h2:s<t / w*w+w):StepAt ws es s i w e/\(qc5 ge s↔qc5 ge t)/\s / w*w=t / w*w:=by
 have hw:=F.pos i w S.gw;refine ⟨⟨S.gw,S.ge,?_,λe' he'=>?_⟩,?_,qw5 hw (qil t w) h1 h2⟩
 ·have:=qlm hw (F.ml i w e S.gw S.ge) S.lt
  omega
 ·have hl:i+1<ws.length:=by rw[F.len];exact (Am.mp he').1
  have hd:w ∣ e':=CL (F.dv i (i+1) w ws[i+1] (by omega) S.gw (Ac hl)) (F.ml (i+1) _ e' (Ac hl) he');have:=qn8 hw hd (S.nx e' he');omega
 ·constructor
  ·rintro ⟨z,hz,h⟩
   have hd:=F.gl i w z S.gw hz;refine ⟨z,hz,?_⟩
   by_cases c:t<z
   ·exact c
   ·have:=qn8 hw hd (show z<=t by omega);omega
  ·rintro ⟨z,hz,h⟩
   have hd:=F.gl i w z S.gw hz;exact ⟨z,hz,by have:=qlm hw hd h;omega⟩
theorem StepAt.idx {ws es:List Int} {ge:Option Int} {t:Int} {i j:Nat} {w e w' e':Int} (F:Fall ws es ge) (S:StepAt ws es t i w e) (h:es[j]?=some e') (hlt:t<e'):j<=i:=by
 by_cases c:j<=i
 ·exact c
 ·have hl:i+1<es.length:=by have:=(Am.mp h).1;omega
  have a:=S.nx es[i+1] (Ac hl);have b:=F.dn (i+1) j _ e' (by omega) (Ac hl) h;omega
open PySem L2
theorem qke {ws es:List Int} {ge:Option Int} {t w e e0:Int} {i:Nat} (F:Fall ws es ge) (h0:es[0]?=some e0) (S:StepAt ws es t i w e) (hg:¬ qc5 ge t):CellOf ws es ge t (some (t / w*w,w)):=by
 have hlt:t<e0:=by have:=F.dn 0 i e0 e (by omega) h0 S.ge;have:=S.lt;omega
 exact CellOf.c h0 hlt hg (by rw[<- Es];exact qll F.dn S)
theorem qpd {ws es:List Int} {ge:Option Int} {t e0:Int} {o:Option (Int×Int)} (F:Fall ws es ge) (h0:es[0]?=some e0) (C:CellOf ws es ge t o) :
  (e0<=t/\o=some (t,0))\/(t<e0/\qc5 ge t/\o=none)\/(t<e0/\¬ qc5 ge t/\∃ i w e,StepAt ws es t i w e/\o=some (t / w*w,w)):=by
 by_cases hc:e0<=t
 ·exact .inl ⟨hc,C.uniq h0 (CellOf.a h0 hc)⟩
 ·have hlt:t<e0:=by omega
  by_cases hg:qc5 ge t
  ·exact .inr (.inl ⟨hlt,hg,C.uniq h0 (CellOf.b h0 hlt hg)⟩)
  ·obtain ⟨i,w,e,S⟩:=qik F.len h0 hlt
   exact .inr (.inr ⟨hlt,hg,i,w,e,S,C.uniq h0 (qke F h0 S hg)⟩)
theorem behind {ws es:List Int} {ge:Option Int} {t w e e0:Int} {i:Nat} {o:Option (Int×Int)} (F:Fall ws es ge) (h0:es[0]?=some e0) (S:StepAt ws es t i w e) (hg:¬ qc5 ge t) (C:CellOf ws es ge (t / w*w+w) o):∃ p,o=some p/\p.1=t / w*w+w:=by
 have hw:=F.pos i w S.gw;have h1:=qpc t hw
 rcases qpd F h0 C with ⟨_,rfl⟩|⟨_,⟨z,hz,h⟩,rfl⟩|⟨_,_,j,w',e',S',rfl⟩
 ·exact ⟨_,rfl,rfl⟩
 ·exact absurd ⟨z,hz,by omega⟩ hg
 ·refine ⟨_,rfl,?_⟩
  have hji:j<=i:=StepAt.idx (w':=w') (e':=e') F S S'.ge (by have:=S'.lt;omega);have hd:w' ∣ w:=F.dv j i w' w hji S'.gw S.gw;have hw':=F.pos j w' S'.gw;exact qw5 hw' (Int.dvd_add (CL hd (qil t w)) hd) (by omega) (by omega)
structure Later (es es':List Int) (ge ge':Option Int):Prop where
 len:es'.length=es.length
 up:∀ (i:Nat) a b,es[i]?=some a->es'[i]?=some b->a<=b
 gn:∀ z,ge=some z->∃ z',ge'=some z'/\z<=z'
theorem Later.gone {es es':List Int} {ge ge':Option Int} {t:Int} (L:Later es es' ge ge') (h:qc5 ge t):qc5 ge' t:=by
 obtain ⟨z,hz,h⟩:=h;obtain ⟨z',hz',h'⟩:=L.gn z hz;exact ⟨z',hz',by omega⟩
theorem qpe {ws es es':List Int} {ge ge':Option Int} {t e0 e0':Int} {o:Option (Int×Int)} (L:Later es es' ge ge') (h0:es[0]?=some e0) (h0':es'[0]?=some e0') (hlt:t<e0) (hg:qc5 ge t) (C:CellOf ws es' ge' t o):o=none:=
 C.uniq h0' (CellOf.b h0' (by have:=L.up 0 e0 e0' h0 h0';omega) (L.gone hg))
theorem qpf {ws es es':List Int} {ge ge':Option Int} {t w e e0':Int} {i:Nat} (F:Fall ws es ge) (F':Fall ws es' ge') (L:Later es es' ge ge') (h0':es'[0]?=some e0') (S:StepAt ws es t i w e) :
  ∃ o,(∀ s,t / w*w<=s->s<t / w*w+w->∀ o',CellOf ws es' ge' s o'->o'=o)/\∀ p,o=some p->p.1<=t / w*w/\t / w*w+w<=p.1+p.2:=by
 have hw:=F.pos i w S.gw;have h1:=qpc t hw;have hle:i<es'.length:=by rw[L.len];exact (Am.mp S.ge).1
 have hu:=L.up i e es'[i] S.ge (Ac hle);have hend:=qlm hw (F.ml i w e S.gw S.ge) S.lt;have hlt0:t / w*w<e0':=by
  have:=F'.dn 0 i e0' es'[i] (by omega) h0' (Ac hle);omega
 obtain ⟨j,w',e',S'⟩:=qik F'.len h0' hlt0;have hij:i<=j:=StepAt.idx (w':=w') (e':=es'[i]) F' S' (Ac hle) (by omega);have hd:w ∣ w':=F.dv i j w w' hij S.gw S'.gw;have hw':=F'.pos j w' S'.gw;have h2:=qpc (t / w*w) hw';have h3:t / w*w+w<=t / w*w / w'*w'+w':=by
  have hdd:w ∣ t / w*w / w'*w'+w':=Int.dvd_add (CL hd (qil _ w')) hd;have:=qlm hw hdd (show t / w*w<t / w*w / w'*w'+w' by omega);have e:t / w*w / w*w=t / w*w:=qw5 hw (qil t w) (by omega) (by omega);omega
 have all:∀ s,t / w*w<=s->s<t / w*w+w->StepAt ws es' s j w' e'/\(qc5 ge' s↔qc5 ge' (t / w*w))/\s / w'*w'=t / w*w / w'*w':=
  λs a b=>StepAt.cell F' S' (by omega) (by omega)
 by_cases hg:qc5 ge' (t / w*w)
 ·refine ⟨none,λs a b o' C=>?_,λp h=>by cases h⟩
  obtain ⟨S2,g2,_⟩:=all s a b;have:s<e0':=by have:=F'.dn 0 j e0' e' (by omega) h0' S2.ge;have:=S2.lt;omega
  exact C.uniq h0' (CellOf.b h0' this (g2.mpr hg))
 ·refine ⟨some (t / w*w / w'*w',w'),λs a b o' C=>?_,λp h=>?_⟩
  ·obtain ⟨S2,g2,e2⟩:=all s a b
   have:=C.uniq h0' (qke F' h0' S2 λg=>hg (g2.mp g));rw[this,e2]
  ·cases h
   exact ⟨h2.1,h3⟩
open PySem L2
theorem qkf {ps:List (Int×Int)} (G:Good ps):∀ (k i:Nat) p q,ps[i]?=some p->ps[i+k]?=some q->p.1<=q.1/\p.2 ∣ q.2
 | 0,i,p,q,hp,hq=>by rw[Nat.add_zero,hp] at hq;cases hq;exact ⟨DA _,Int.dvd_refl _⟩
 | k+1,i,p,q,hp,hq=>by
  have hl:i+k<ps.length:=by have:=(Am.mp hq).1;omega
  obtain ⟨a,b⟩:=qkf G k i p ps[i+k] hp (Ac hl);obtain ⟨c,d⟩:=G.next (i+k) ps[i+k] q (Ac hl) (by rw[Nat.add_assoc];exact hq);exact ⟨by omega,CL b (Int.dvd_of_emod_eq_zero d)⟩
theorem Fall.of {ps:List (Int×Int)} {g:Option Int} (P:Pr ps g) (d:Int):Fall (ps.map (·.2)) (ps.map λp=>cut d p.1 p.2) (g.map λz=>cut d z (lw ps)) where
 len:=by rw[Ad,Ad]
 pos:=λi w h=>by
  rw[Ay] at h;obtain ⟨p,hp,rfl⟩:=AL.mp h;exact (P.good.each i p hp).2
 dv:=λi j a b hij ha hb=>by
  rw[Ay] at ha hb;obtain ⟨p,hp,rfl⟩:=AL.mp ha;obtain ⟨q,hq,rfl⟩:=AL.mp hb;exact (qkf P.good (j-i) i p q hp (by rw[show i+(j-i)=j by omega];exact hq)).2
 ml:=λi w e hw he=>by
  rw[Ay] at hw he;obtain ⟨p,hp,rfl⟩:=AL.mp hw;rw[hp] at he;cases he;exact qil _ _
 gl:=λi w z hw hz=>by
  rw[Ay] at hw;obtain ⟨p,hp,rfl⟩:=AL.mp hw;obtain ⟨y,rfl,rfl⟩:=AL.mp hz;obtain ⟨q,hq,eq⟩:=P.last;have hi:=(Am.mp hp).1;have:=(qkf P.good (ps.length-1-i) i p q hp (by rw[show i+(ps.length-1-i)=ps.length-1 by omega];exact hq)).2;rw[eq];exact CL this (qil _ _)
 dn:=λi j a b hij ha hb=>by
  rw[Ay] at ha hb;obtain ⟨p,hp,rfl⟩:=AL.mp ha;obtain ⟨q,hq,rfl⟩:=AL.mp hb;obtain ⟨h1,h2⟩:=qkf P.good (j-i) i p q hp (by rw[show i+(j-i)=j by omega];exact hq);have wp:=(P.good.each i p hp).2;have wq:=(P.good.each j q hq).2;have a:=(qpc (d-q.1) wq).1;exact qn8 wp (CL h2 (qil _ _)) (show (d-q.1) / q.2*q.2<=d-p.1 by omega)
def mx (i j:Int):Int:=if j>i then j else i
theorem qzv (i j:Int):i<=mx i j/\j<=mx i j/\(mx i j=i\/mx i j=j):=by unfold mx;split<;>omega
theorem qtx {a b:List Int} {i:Nat} {x:Int} (h:(List.zipWith mx a b)[i]?=some x):∃ u v,a[i]?=some u/\b[i]?=some v/\x=mx u v:=by
 rw[Fb] at h
 split at h
 ·rename_i u v hu hv;exact ⟨u,v,hu,hv,(AH h).symm⟩
 ·cases h
theorem qw6 {g1 g2:Option Int} {z:Int} (h:qwz g1 g2=some z):g1=some z\/g2=some z:=by
 cases g1 with
 | none=>exact .inr h
 | some i =>
  cases g2 with
  | none=>exact .inl h
  | some j =>
   simp only[qwz,Option.some.injEq] at h;rw[<- h]
   split
   ·exact .inr rfl
   ·exact .inl rfl
theorem Fall.max {ws a b:List Int} {g1 g2:Option Int} (F:Fall ws a g1) (G:Fall ws b g2):Fall ws (List.zipWith mx a b) (qwz g1 g2) where
 len:=by rw[Ci,<- F.len,<- G.len];omega
 pos:=F.pos
 dv:=F.dv
 ml:=λi w e hw he=>by
  obtain ⟨u,v,hu,hv,rfl⟩:=qtx he
  rcases (qzv u v).2.2 with h|h
  ·rw[h];exact F.ml i w u hw hu
  ·rw[h];exact G.ml i w v hw hv
 gl:=λi w z hw hz=>by
  rcases qw6 hz with h|h
  ·exact F.gl i w z hw h
  ·exact G.gl i w z hw h
 dn:=λi j x y hij hx hy=>by
  obtain ⟨u,v,hu,hv,rfl⟩:=qtx hx;obtain ⟨u',v',hu',hv',rfl⟩:=qtx hy;have c:=F.dn i j u u' hij hu hu';have d:=G.dn i j v v' hij hv hv';have e:=qzv u v
  rcases (qzv u' v').2.2 with h|h<;>omega
open PySem L2
theorem qkg (cell:Int->Option (Int×Int)) (s:Abs) (r:Rd3) (b:Int) (x:HP4):qeq cell (qds cell s r) b x=qds cell (qeq cell s b x) r:=by
 unfold qds qeq
 rcases e1:cell r.1 with _|⟨a,w⟩
 ·rcases e2:cell b with _|⟨c,u⟩<;>rfl
 ·rcases e2:cell b with _|⟨c,u⟩
  ·rfl
  ·dsimp only
   by_cases hw:w=0
   ·rw[Ak hw,Ak hw]
   ·rw[Ah hw,Ah hw]
    dsimp only
    by_cases hk:[a,w]=[c,u]
    ·rw[hk,qa4,qb4,qa4,qb4,qgu]
    ·rw[qbq _ _ (λz=>hk z.symm),qbq _ _ hk,qgg _ _ _ hk]
theorem qr1 (cell:Int->Option (Int×Int)) (s:Abs) (r z:List Int):qcl cell (qdt cell s r) z=qdt cell (qcl cell s z) r:=by
 unfold qcl qdt
 split<;>split<;>first|rfl|exact qkg _ _ _ _ _
theorem qln (cell:Int->Option (Int×Int)):∀ (Z:List (List Int)) (s:Abs) (r:List Int),Z.foldl (qcl cell) (qdt cell s r)=qdt cell (Z.foldl (qcl cell) s) r
 | [],_,_=>rfl
 | z :: t,s,r=>by rw[CS,CS,qr1,qln cell t]
open PySem L2
theorem qdz {S A:Type} {op:S->A->S} (comm:∀ s r q,op (op s r) q=op (op s q) r) {l l':List A} (p:l.Perm l'):∀ s,l.foldl op s=l'.foldl op s:=by
 induction p with
 | nil=>intro s;rfl
 | cons x _ ih=>intro s;exact ih _
 | swap x y l=>intro s;simp only[CS];rw[comm]
 | trans _ _ ih1 ih2=>intro s;rw[ih1,ih2]
theorem qey {S A:Type} {op:S->A->S} (comm:∀ s r q,op (op s r) q=op (op s q) r) (x:A) (l:List A) (s:S):(x :: l).foldl op s=op (l.foldl op s) x:=by
 have h:=qdz comm (List.perm_append_comm (l₁:=[x]) (l₂:=l)) s;have e:(l ++ [x]).foldl op s=op (l.foldl op s) x:=by rw[C6];rfl
 rw[<- e,<- h];rfl
theorem qlo {S:Type} {op:S->List Int->S} (comm:∀ s r q,op (op s r) q=op (op s q) r) {ms:List (List Int)} (nd:ms.Nodup) {f g:List Int->List Int} {k:List Int} (hk:k∈ms) (hfg:∀ j,j≠k->f j=g j) (s:S):∃ X,(ms.map f).foldl op s=op X (f k)/\(ms.map g).foldl op s=op X (g k):=by
 have p:=List.perm_cons_erase hk;have nd':=p.nodup_iff.mp nd;rw[Bc] at nd';have e:(ms.erase k).map f=(ms.erase k).map g:=AZ λj hj=>hfg j λz=>nd'.1 (z ▸ hj)
 refine ⟨((ms.erase k).map f).foldl op s,?_,?_⟩
 ·rw[qdz comm (p.map f) s,Aw,qey comm]
 ·rw[qdz comm (p.map g) s,Aw,qey comm,e]
theorem qf5 (cell:Int->Option (Int×Int)) (s:Abs) (r q:List Int):qdt cell (qdt cell s r) q=qdt cell (qdt cell s q) r:=by
 unfold qdt
 split<;>split<;>first|rfl|exact qrw _ _ _ _
theorem qpg (cell:Int->Option (Int×Int)) (s:Abs) (a b:Int) (x y:HP4):qeq cell (qeq cell s a x) b y=qeq cell (qeq cell s b y) a x:=by
 unfold qeq
 rcases e1:cell a with _|⟨c,u⟩
 ·rcases e2:cell b with _|⟨d,w⟩<;>rfl
 ·rcases e2:cell b with _|⟨d,w⟩
  ·rfl
  ·dsimp only
   by_cases hk:[c,u]=[d,w]
   ·rw[hk,qa4,qb4,qa4,qb4,qgu]
   ·rw[qbq _ _ (λz=>hk z.symm),qbq _ _ hk,qgg _ _ _ hk]
theorem qfb (cell:Int->Option (Int×Int)) (s:Abs) (r q:List Int):qcl cell (qcl cell s r) q=qcl cell (qcl cell s q) r:=by
 unfold qcl
 split<;>split<;>first|rfl|exact qpg _ _ _ _ _ _
structure qlp (cell cell':Int->Option (Int×Int)):Prop where
 n:∀ t,cell t=none->cell' t=none
 h:∀ t a w,cell t=some (a,w)->w≠0->cell' t=cell' a/\∀ b u,cell' a=some (b,u)->u≠0
structure KF (s:Abs):Prop where
 y:∃ my,SKeys s.y my/\∀ k∈my,k.length=2
 z:∃ mz,SKeys s.z mz/\∀ k∈mz,k.length=2
theorem qgh {α:Type} {f:List Int->Option α} {ms:List (List Int)} (h:SKeys f ms) (h2:∀ k∈ms,k.length=2) {k:List Int} (hk:k.length=2) (x:α):∃ ms',SKeys (qe3 f k x) ms'/\(∀ j∈ms',j.length=2)/\((k∈ms->ms'=ms)/\(k ∉ ms->ms'.Perm (k :: ms))):=by
 by_cases c:k∈ms
 ·refine ⟨ms,⟨h.srt,λj=>?_⟩,h2,λ_=>rfl,λz=>absurd c z⟩
  by_cases e:j=k
  ·subst e;rw[qa4];simp[c]
  ·rw[qbq _ _ e];exact h.mem j
 ·have nd:(k :: ms).Nodup:=Bc.mpr ⟨c,h.nd⟩
  have mem:∀ j,j∈k :: ms↔qe3 f k x j≠none:=λj=>by
   by_cases e:j=k
   ·subst e;rw[qa4];simp
   ·rw[qbq _ _ e,Ai]
    exact ⟨λz=>(h.mem j).mp (z.resolve_left e),λz=>.inr ((h.mem j).mpr z)⟩
  obtain ⟨ms',s',_⟩:=qkd nd mem;have pm:ms'.Perm (k :: ms):=by
   rw[Ek s'.nd nd];intro j;rw[s'.mem,mem]
  refine ⟨ms',s',λj hj=>?_,λz=>absurd z c,λ_=>pm⟩
  rcases Ai.mp (pm.mem_iff.mp hj) with e|e
  ·rw[e];exact hk
  ·exact h2 j e
theorem qph {S0:Abs} {cell':Int->Option (Int×Int)} {s:Abs} {my mz:List (List Int)} (sy:SKeys s.y my) (h2:∀ k∈my,k.length=2) (sz:SKeys s.z mz) (t v m:Int) :
  qgv cell' S0 (qcw { s with y:=qe3 s.y [t,v] ((s.y [t,v]).getD 0+m) }) (qcz { s with y:=qe3 s.y [t,v] ((s.y [t,v]).getD 0+m) })=qds cell' (qgv cell' S0 (qcw s) (qcz s)) (t,v,m):=by
 obtain ⟨my',sy',_,hin,hout⟩:=qgh sy h2 (k:=[t,v]) rfl ((s.y [t,v]).getD 0+m)
 generalize es:({ s with y:=qe3 s.y [t,v] ((s.y [t,v]).getD 0+m) }:Abs)=s'
 have ey':s'.y=qe3 s.y [t,v] ((s.y [t,v]).getD 0+m):=by rw[<- es]
 have ez':s'.z=s.z:=by rw[<- es]
 have sy'':SKeys s'.y my':=by rw[ey'];exact sy'
 have ezr:qcz s'=qcz s:=by
  have:SKeys s'.z mz:=by rw[ez'];exact sz
  rw[<- qek this,<- qek sz];refine AZ λk _=>?_
  unfold qn6;rw[ez']
 rw[ezr,<- qej sy'',<- qej sy];unfold qgv
 show _=qdt cell' ((qcz s).foldl (qcl cell') ((my.map (qmv s)).foldl (qdt cell') S0)) [t,v,m]
 rw[<- qln]
 congr 1
 have ne:∀ j,j≠[t,v]->qmv s' j=qmv s j:=λj hj=>by unfold qmv;rw[ey',qbq _ _ hj]
 have at_:qmv s' [t,v]=[t,v,(s.y [t,v]).getD 0+m]:=by unfold qmv;rw[ey',qa4];rfl
 by_cases c:[t,v]∈my
 ·rw[hin c]
  obtain ⟨X,e1,e2⟩:=qlo (qf5 cell') sy.nd c ne S0;rw[e1,e2,at_]
  show qds cell' X (t,v,_)=qds cell' (qds cell' X (t,v,(s.y [t,v]).getD 0)) (t,v,m)
  rw[qpa]
 ·rw[qdz (qf5 cell') ((hout c).map _) S0,Aw,qey (qf5 cell'),at_]
  have e:my.map (qmv s')=my.map (qmv s):=AZ λj hj=>ne j λz=>c (by rw[<- z];exact hj)
  have en:s.y [t,v]=none:=by
   cases q:s.y [t,v] with
   | none=>rfl
   | some n=>exact absurd ((sy.mem _).mpr (by rw[q];simp)) c
  rw[e,en]
  show qds cell' _ (t,v,0+m)=qds cell' _ (t,v,m)
  rw[CY]
theorem qr2 (a b c:HP4):mg4 (mg4 a b) c=mg4 a (mg4 b c):=by
 unfold mg4;refine qxu ?_ ?_ ?_ ?_<;>dsimp only
 ·omega
 ·omega
 ·repeat' split
  all_goals omega
 ·repeat' split
  all_goals omega
theorem qmw (o:Option HP4) (b c:HP4):qcv (some (qcv o b)) c=qcv o (mg4 b c):=by
 cases o with
 | none=>rfl
 | some a=>exact qr2 a b c
theorem qty {cell':Int->Option (Int×Int)} {t a:Int} (hc:cell' t=cell' a) (hu:∀ b u,cell' a=some (b,u)->u≠0) (X:Abs) (v m:Int):qeq cell' X a (qg6 v m)=qds cell' X (t,v,m):=by
 unfold qeq qds;dsimp only;rw[hc]
 rcases e:cell' a with _|⟨b,u⟩
 ·rfl
 ·dsimp only
  rw[Ah (hu b u e)]
theorem qw7 (cell':Int->Option (Int×Int)) (X:Abs) (a:Int) (x y:HP4):qeq cell' (qeq cell' X a x) a y=qeq cell' X a (mg4 x y):=by
 unfold qeq
 rcases e:cell' a with _|⟨b,u⟩
 ·rfl
 ·dsimp only
  rw[qa4,qb4,qmw]
theorem take_heap {S0:Abs} {cell':Int->Option (Int×Int)} {s:Abs} {my mz:List (List Int)} (sy:SKeys s.y my) (sz:SKeys s.z mz) (h2:∀ k∈mz,k.length=2) {t a:Int} (hc:cell' t=cell' a) (hu:∀ b u,cell' a=some (b,u)->u≠0) (w v m:Int) :
  qgv cell' S0 (qcw { s with z:=qe3 s.z [a,w] (qcv (s.z [a,w]) (qg6 v m)) }) (qcz { s with z:=qe3 s.z [a,w] (qcv (s.z [a,w]) (qg6 v m)) })=qds cell' (qgv cell' S0 (qcw s) (qcz s)) (t,v,m):=by
 obtain ⟨mz',sz',_,hin,hout⟩:=qgh sz h2 (k:=[a,w]) rfl (qcv (s.z [a,w]) (qg6 v m))
 generalize es:({ s with z:=qe3 s.z [a,w] (qcv (s.z [a,w]) (qg6 v m)) }:Abs)=s'
 have ez':s'.z=qe3 s.z [a,w] (qcv (s.z [a,w]) (qg6 v m)):=by rw[<- es]
 have ey':s'.y=s.y:=by rw[<- es]
 have sz'':SKeys s'.z mz':=by rw[ez'];exact sz'
 have eyr:qcw s'=qcw s:=by
  have:SKeys s'.y my:=by rw[ey'];exact sy
  rw[<- qej this,<- qej sy];refine AZ λk _=>?_
  unfold qmv;rw[ey']
 rw[eyr,<- qek sz'',<- qek sz,<- qty hc hu];unfold qgv
 generalize (qcw s).foldl (qdt cell') S0=S1
 have ne:∀ j,j≠[a,w]->qn6 s' j=qn6 s j:=λj hj=>by unfold qn6;rw[ez',qbq _ _ hj]
 have at_:qn6 s' [a,w]=[a,w] ++ i4 (qcv (s.z [a,w]) (qg6 v m)):=by unfold qn6;rw[ez',qa4];rfl
 have pr:∀ (X:Abs) (x:HP4),qcl cell' X ([a,w] ++ i4 x)=qeq cell' X a x:=λX x=>rfl
 by_cases c:[a,w]∈mz
 ·rw[hin c]
  obtain ⟨X,e1,e2⟩:=qlo (qfb cell') sz.nd c ne S1;rw[e1,e2,at_,pr]
  show _=qeq cell' (qcl cell' X ([a,w] ++ i4 ((s.z [a,w]).getD (0,0,0,0)))) a (qg6 v m)
  rw[pr]
  cases q:s.z [a,w] with
  | none=>exact absurd q ((sz.mem _).mp c)
  | some x=>rw[Dg,qw7];rfl
 ·rw[qdz (qfb cell') ((hout c).map _) S1,Aw,qey (qfb cell'),at_,pr]
  have e:mz.map (qn6 s')=mz.map (qn6 s):=AZ λj hj=>ne j λz=>c (by rw[<- z];exact hj)
  have en:s.z [a,w]=none:=by
   cases q:s.z [a,w] with
   | none=>rfl
   | some n=>exact absurd ((sz.mem _).mpr (by rw[q];simp)) c
  rw[e,en];rfl
theorem qtz {S0:Abs} {cell cell':Int->Option (Int×Int)} (co:qlp cell cell') {s:Abs} (kf:KF s) (r:Rd3) :
  qgv cell' S0 (qcw (qds cell s r)) (qcz (qds cell s r))=qds cell' (qgv cell' S0 (qcw s) (qcz s)) r/\KF (qds cell s r):=by
 obtain ⟨my,sy,hy⟩:=kf.y;obtain ⟨mz,sz,hz⟩:=kf.z;obtain ⟨t,v,m⟩:=r
 rcases e:cell t with _|⟨a,w⟩
 ·have e1:qds cell s (t,v,m)=s:=by unfold qds;dsimp only;rw[e]
  have e2:∀ X,qds cell' X (t,v,m)=X:=λX=>by unfold qds;dsimp only;rw[co.n t e]
  rw[e1,e2];exact ⟨rfl,kf⟩
 ·by_cases hw:w=0
  ·have e1:qds cell s (t,v,m)={ s with y:=qe3 s.y [t,v] ((s.y [t,v]).getD 0+m) }:=by unfold qds;dsimp only;rw[e];dsimp only;rw[Ak hw]
   rw[e1];refine ⟨qph sy hy sz t v m,?_,⟨mz,sz,hz⟩⟩;obtain ⟨my',sy',h',_⟩:=qgh sy hy (k:=[t,v]) rfl ((s.y [t,v]).getD 0+m);exact ⟨my',sy',h'⟩
  ·have e1:qds cell s (t,v,m)={ s with z:=qe3 s.z [a,w] (qcv (s.z [a,w]) (qg6 v m)) }:=by unfold qds;dsimp only;rw[e];dsimp only;rw[Ah hw]
   rw[e1];obtain ⟨c1,c2⟩:=co.h t a w e hw;refine ⟨take_heap sy sz hz c1 c2 w v m,⟨my,sy,hy⟩,?_⟩;obtain ⟨mz',sz',h',_⟩:=qgh sz hz (k:=[a,w]) rfl (qcv (s.z [a,w]) (qg6 v m));exact ⟨mz',sz',h'⟩
theorem kf0:KF qss:=⟨⟨[],⟨.nil,λk=>⟨(λh=>by cases h),λh=>absurd rfl h⟩⟩,(λk h=>by cases h)⟩,⟨[],⟨.nil,λk=>⟨(λh=>by cases h),λh=>absurd rfl h⟩⟩,(λk h=>by cases h)⟩⟩
theorem qlq {S0:Abs} {cell cell':Int->Option (Int×Int)} (co:qlp cell cell'):∀ (rs:List Rd3) {s s':Abs},KF s->qgv cell' S0 (qcw s) (qcz s)=s'->qgv cell' S0 (qcw (rs.foldl (qds cell) s)) (qcz (rs.foldl (qds cell) s))=rs.foldl (qds cell') s'
 | [],_,_,_,e=>e
 | r :: t,s,s',kf,e=>by
  obtain ⟨h1,h2⟩:=qtz co kf r;exact qlq co t h2 (by rw[h1,e])
theorem qw8 {cell cell':Int->Option (Int×Int)} (co:qlp cell cell') (rs:List Rd3) (S0:Abs):qgv cell' S0 (qcw (qe2 cell rs)) (qcz (qe2 cell rs))=rs.foldl (qds cell') S0:=by
 refine qlq co rs kf0 ?_;have hy:qcw qss=[]:=(qej (ms:=[]) ⟨.nil,λk=>⟨(λh=>by cases h),λh=>absurd rfl h⟩⟩).symm;have hz:qcz qss=[]:=(qek (ms:=[]) ⟨.nil,λk=>⟨(λh=>by cases h),λh=>absurd rfl h⟩⟩).symm;rw[hy,hz];rfl
theorem qw9 {cell cell':Int->Option (Int×Int)} (co:qlp cell cell') (rs:List Rd3):qgv cell' qss (qcw (qe2 cell rs)) (qcz (qe2 cell rs))=qe2 cell' rs:=qw8 co rs qss
theorem qr3 {ws es es':List Int} {ge ge':Option Int} (F:Fall ws es ge) (F':Fall ws es' ge') (L:Later es es' ge ge') (hl:1<=es.length):qlp (qdy ws es ge) (qdy ws es' ge'):=by
 have hl':1<=es'.length:=by rw[L.len];exact hl
 have hw:1<=ws.length:=by rw[F.len];exact hl
 have h0:es[0]?=some es[0]:=Ac (by omega);have h0':es'[0]?=some es'[0]:=Ac (by omega);have up:=L.up 0 _ _ h0 h0';refine ⟨λt e=>?_,λt a w e hw0=>?_⟩
 ·have C:=qf4 (ge:=ge) hw hl t
  have C':=qf4 (ge:=ge') hw hl' t;rw[e] at C
  by_cases c:es[0]<=t
  ·cases (C es[0] h0).1 c
  ·by_cases hg:qc5 ge t
   ·exact qpe L h0 h0' (by omega) hg C'
   ·obtain ⟨w,_,e2⟩:=((C es[0] h0).2 (by omega)).2 hg
    cases e2
 ·have C:=qf4 (ge:=ge) hw hl t
  rw[e] at C;have hlt:t<es[0]:=by
   by_cases c:es[0]<=t
   ·have:=(C es[0] h0).1 c
    cases this;exact absurd rfl hw0
   ·omega
  obtain ⟨i,w',e',S⟩:=qik F.len h0 hlt;have hg:¬ qc5 ge t:=λg=>by cases ((C es[0] h0).2 hlt).1 g
  have:=C.uniq h0 (qke F h0 S hg);cases this;have hw1:=F.pos i w S.gw;have fl:=qpc t hw1;obtain ⟨o,ho,_⟩:=qpf F F' L h0' S;have a1:=ho t fl.1 fl.2 _ (qf4 hw hl' t);have a2:=ho (t / w*w) (DA _) (by omega) _ (qf4 hw hl' (t / w*w));refine ⟨a1.trans a2.symm,λb u eb hu=>?_⟩;have C2:=qf4 (ge:=ge') hw hl' (t / w*w);rw[eb] at C2;have lt2:t / w*w<es'[0]:=by omega
  obtain ⟨j,w2,e2,S2⟩:=qik F'.len h0' lt2;have hg2:¬ qc5 ge' (t / w*w):=λg=>by cases ((C2 es'[0] h0').2 lt2).1 g
  have:=C2.uniq h0' (qke F' h0' S2 hg2);cases this;have:=F'.pos j _ S2.gw;omega
open PySem L2
theorem RR.putX {C R N:Addr} {H:Hp} {ro:Addr} {c:qa7} {s:Abs} {LY LZ:List (List Int)} {t v m:Int} {Q:VK} {E:XK} (h:RR C R H ro c s LY LZ) (ok:qg4 c) (hr:qmu t) (h1:1<=m) (hb:qtv (v,m)) (ly:LY.length<64) (lz:LZ.length<64)
  (hy:[t,v]∈LY) (hz:∀ a w,cellD c t=some (a,w)->[a,w]∈LZ)
  (q:∀ H',RR C R H' ro c (qds (cellD c) s (t,v,m)) LY LZ->But2 c.dy c.dh H H'->Q (.bl (cellD c t).isSome) H'):qgt C R N [.ref ro,.int t,.int v,.int m] H Q E:=by
 obtain ⟨ro',D',t',v',m',e,A,ok',ht',h1',hb',y,z,l1,l2,k⟩:=RR.put (Q:=Q) (E:=E) h ok hr h1 hb ly lz hy hz q;exact ⟨ro',D',t',v',m',e,A,ok',ht',λ_=>hb',y,z,l1,l2,λz=>absurd z (by omega),λ_=>k⟩
theorem RR.putN {C R N:Addr} {H:Hp} {ro:Addr} {c:qa7} {s:Abs} {LY LZ:List (List Int)} {t v m:Int} {Q:VK} {E:XK} (h:RR C R H ro c s LY LZ) (ok:qg4 c) (hr:qmu t) (h1:m<1) (ly:LY.length<64) (lz:LZ.length<64)
  (q:E (.ref N) none H):qgt C R N [.ref ro,.int t,.int v,.int m] H Q E:=by
 obtain ⟨Y,Z,A,B⟩:=h;exact ⟨ro,_,t,v,m,rfl,A,⟨ok.pr,ok.es⟩,hr,λz=>absurd z (by omega),B.YOk,B.ZOk,AV B.ylen (by omega),AV B.zlen (by omega),λ_=>q,λz=>absurd z (by omega)⟩
end TB
namespace TX
def sg (n:Int):List Nat:=(toString n).toList.map Char.toNat
def qAl (x:List Nat):List Nat:=if x.take 1=[45] then x.drop 1 else x
def qxa (c:Nat):Prop:=48<=c/\c<=57
instance (c:Nat):Decidable (qxa c):=inferInstanceAs (Decidable (_/\_))
def Good (x:List Nat):Prop:=qAl x≠[]/\(qAl x).length<=1000/\¬ ((qAl x).head?=some 48/\x≠[48])/\∀ c∈qAl x,qxa c
instance (x:List Nat):Decidable (Good x):=inferInstanceAs (Decidable (_/\_/\_/\_))
end TX
namespace TX
open L2
end TX
namespace TB
open PySem L2 TX
def OddV (H:Hp) (v:V):Prop:=v=.non\/(∃ i,v=.int i)\/(∃ b,v=.bl b)\/(∃ p xs,v=.ref p/\H p=some (.tup xs))\/∃ p xs,v=.ref p/\H p=some (.lst xs)
def TextV (H:Hp) (v:V):Prop:=(∃ x,v=.str (S x)/\x.length<=3000)\/OddV H v
theorem TextV.same {H H':Hp} {v:V} (h:TextV H v) (s:Same H H'):TextV H' v:=by
 rcases h with h|h|h|h|⟨p,xs,e,h⟩|⟨p,xs,e,h⟩
 ·exact .inl h
 ·exact .inr (.inl h)
 ·exact .inr (.inr (.inl h))
 ·exact .inr (.inr (.inr (.inl h)))
 ·exact .inr (.inr (.inr (.inr (.inl ⟨p,xs,e,s _ _ h⟩))))
 ·exact .inr (.inr (.inr (.inr (.inr ⟨p,xs,e,s _ _ h⟩))))
theorem OddV.ty {K:Frag} {H:Hp} {v:V} (h:OddV H v):∃ t,TyOf K H v t/\PySem.W.kitOne K t (.type "str")=some false:=by
 rcases h with rfl|⟨i,rfl⟩|⟨b,rfl⟩|⟨p,xs,rfl,h⟩|⟨p,xs,rfl,h⟩
 ·exact ⟨_,.non,rfl⟩
 ·exact ⟨_,.int _,rfl⟩
 ·exact ⟨_,.bl _,rfl⟩
 ·exact ⟨_,.tup h,rfl⟩
 ·exact ⟨_,.lst h,rfl⟩
open PySem L2 TX
def qC2 (x:List Nat):Prop:=1<=x.length/\x.length<=1000/\(x=[48]\/(x.head?≠some 48/\∀ c∈x,qxa c))
instance (x:List Nat):Decidable (qC2 x):=inferInstanceAs (Decidable (_/\_/\_))
open PySem L2
abbrev tS (w:List Nat):V:=V.str (S w)
def kS (x:List Nat):Key:=Sum.inr (S x)
theorem qr4 {a b:List Nat} (h:kS a=kS b):a=b:=qwi (Sum.inr.inj h)
def Ents {α:Type} (R:V->α->Prop) (kvs:List (Key×V)) (E:List (List Nat×α)):Prop:=Paired (fun (p:Key×V) (e:List Nat×α)=>p.1=kS e.1/\R p.2 e.2) kvs E
section
variable {α:Type} {R R':V->α->Prop} {kvs:List (Key×V)} {E:List (List Nat×α)}
theorem Ents.keys (h:Ents R kvs E):kvs.map (·.1)=(E.map (·.1)).map (λq=>Sum.inr (S q)):=by
 unfold Ents at h
 induction h with
 | nil=>rfl
 | cons a t ih=>rw[Aw,Aw,Aw,ih,a.1];rfl
theorem Ents.len (h:Ents R kvs E):kvs.length=E.length:=by have:=congrArg List.length h.keys;simpa using this
theorem Ents.imp (h:Ents R kvs E) (f:∀ v a,R v a->R' v a):Ents R' kvs E:=by
 unfold Ents at h ⊢
 induction h with
 | nil=>exact .nil
 | cons a t ih=>exact .cons ⟨a.1,f _ _ a.2⟩ ih
theorem qlr (p:Key×V) (l:List (Key×V)) (k:Key):qdn (p :: l) k=if p.1=k then some p.2 else qdn l k:=by
 unfold qdn;rw[BR]
 by_cases e:p.1=k
 ·rw[Ak e,AF e];rfl
 ·rw[Ah e,Ba e]
theorem Ents.hasn (h:Ents R kvs E) {x:List Nat} (hx:x ∉ E.map (·.1)):qdn kvs (kS x)=none:=by
 unfold Ents at h
 induction h with
 | nil=>rfl
 | @cons p e ps es a t ih =>
  rw[Aw,Ai,CZ] at hx;rw[qlr,Ah (λz=>hx.1 (qr4 (z.symm.trans a.1))),ih hx.2]
theorem Ents.has (h:Ents R kvs E) {x:List Nat} (hx:x∈E.map (·.1)):∃ v a,qdn kvs (kS x)=some v/\(x,a)∈E/\R v a:=by
 unfold Ents at h
 induction h with
 | nil=>cases hx
 | @cons p e ps es a t ih =>
  rw[qlr]
  by_cases z:p.1=kS x
  ·have ex:e.1=x:=qr4 (a.1.symm.trans z)
   rw[Ak z];exact ⟨_,e.2,rfl,by rw[<- ex];exact Ap,a.2⟩
  ·rw[Aw,Ai] at hx
   rcases hx with e'|hx
   ·exact absurd (by rw[a.1,e']) z
   ·rw[Ah z]
    obtain ⟨v,b,h1,h2,h3⟩:=ih hx;exact ⟨v,b,h1,An _ h2,h3⟩
theorem Ents.snoc {v:V} {a:α} {x:List Nat} (r:R v a):∀ {kvs:List (Key×V)} {E:List (List Nat×α)},Ents R kvs E->Ents R (kvs ++ [(kS x,v)]) (E ++ [(x,a)])
 | _,_,.nil=>.cons ⟨rfl,r⟩ .nil
 | _,_,.cons b t=>.cons b (Ents.snoc r t)
theorem Ents.put (h:Ents R kvs E) {x:List Nat} (hx:x ∉ E.map (·.1)) {v:V} {a:α} (r:R v a):Ents R (putK kvs (kS x) v) (E ++ [(x,a)]):=by
 have e:putK kvs (kS x) v=kvs ++ [(kS x,v)]:=by
  unfold putK;rw[Ah];intro z;obtain ⟨p,hp,hk⟩:=DW.mp z;have:p.1∈kvs.map (·.1):=Af.mpr ⟨p,hp,rfl⟩;rw[h.keys,AE hk] at this;obtain ⟨y,hy,ey⟩:=Af.mp this;exact hx ((qr4 (show kS y=kS x from ey)) ▸ hy)
 rw[e];exact h.snoc r
end
def bof (ru:Addr) (day:Int) (le dm dr:Addr):List (Str×V):=qf8 "kept_rolls" (.ref dr) (qf8 "kept_marks" (.ref dm) (qf8 "kept_edges" (.ref le) (qf8 "kept_day" (.int day) (qf8 "kept_rule" (.ref ru) []))))
section
variable (ru:Addr) (day:Int) (le dm dr:Addr)
theorem qu3:(bof ru day le dm dr).lookup ("kept_rule" : Str)=some (.ref ru):=by
 unfold bof;rw[qah,Ah (by decide +kernel),qah,Ah (by decide +kernel),qah,Ah (by decide +kernel),qah,Ah (by decide +kernel),qah,Ak rfl]
theorem qr5:(bof ru day le dm dr).lookup ("kept_day" : Str)=some (.int day):=by
 unfold bof;rw[qah,Ah (by decide +kernel),qah,Ah (by decide +kernel),qah,Ah (by decide +kernel),qah,Ak rfl]
theorem qr6:(bof ru day le dm dr).lookup ("kept_edges" : Str)=some (.ref le):=by
 unfold bof;rw[qah,Ah (by decide +kernel),qah,Ah (by decide +kernel),qah,Ak rfl]
theorem qu4:(bof ru day le dm dr).lookup ("kept_marks" : Str)=some (.ref dm):=by
 unfold bof;rw[qah,Ah (by decide +kernel),qah,Ak rfl]
theorem qls:(bof ru day le dm dr).lookup ("kept_rolls" : Str)=some (.ref dr):=by
 unfold bof;rw[qah,Ak rfl]
theorem qe0 {m:Str} (h1:¬ m = "kept_rolls") (h2:¬ m = "kept_marks") (h3:¬ m = "kept_edges") (h4:¬ m = "kept_day") (h5:¬ m = "kept_rule"):(bof ru day le dm dr).lookup m=none:=by
 unfold bof;rw[qah,Ah h1,qah,Ah h2,qah,Ah h3,qah,Ah h4,qah,Ah h5];rfl
end
structure qbr where
 ru:Addr
 rl:Addr
 le:Addr
 dm:Addr
 dr:Addr
 ps:List (Int×Int)
 g:Option Int
 day:Int
def TxtL (H:Hp) (v:V) (ms:List (List Nat)):Prop:=∃ a,v=.ref a/\H a=some (.lst (ms.map tS))
theorem TxtL.same {H H':Hp} {v:V} {ms:List (List Nat)} (h:TxtL H v ms) (s:Same H H'):TxtL H' v ms:=let ⟨a,e,q⟩:=h;⟨a,e,s _ _ q⟩
end TB
local macro_rules | `(tactic| walk_at "same") => `(tactic| first | exact L2.Same.refl _ | assumption | exact L2.New.same (by assumption) | (refine L2.qv6 ?_ (by assumption); walk_at "same") | (refine L2.Same.trans ?_ (by assumption); walk_at "same"))
local macro_rules | `(tactic| walk_at "fact") => `(tactic| first | assumption | exact L2.New.at_ (by assumption) | (refine L2.qy1 (by assumption) ?_; walk_at "fact") | (refine L2.qv5 (by assumption) ?_; walk_at "fact"))
local macro_rules | `(tactic| walk_at "sq") => `(tactic| first | assumption | exact L2.SqL.of (by walk_at "fact") | exact L2.SqT.of (by walk_at "fact") | exact Or.inl (L2.SqL.of (by walk_at "fact")) | exact Or.inr (L2.SqT.of (by walk_at "fact")) | exact Or.inl (by assumption) | walk_at "fact")
local macro_rules | `(tactic| walk_at "c") => `(tactic| first
 | ((with_reducible show _<=PySem.sizeLine);first|exact A8 (L2.qa3 (Nat.le_of_ble_eq_true rfl))|exact A8 (L2.qa3 (by omega))|exact A8 (L2.qa3 (by simp only[Ad,Az,AB,Cn];omega)))
 | ((with_reducible show _<PySem.sizeLine);first|exact L2.qa3 (by omega)|exact L2.qa3 (by simp only[Ad,Az,AB,Cn];omega))
 | decide|omega|(dsimp only;first|decide|omega)|(simp only[Ad,Az,AB,Cn];omega)
 | ((with_reducible refine And.intro ?_ ?_)<;>walk_at "c")
 | (refine And.intro ?_ ?_<;>walk_at "c")|(refine Or.inl ?_;walk_at "c")|(refine Or.inr ?_;walk_at "c"))
local macro_rules | `(tactic| walk_at "at") => `(tactic| first | rfl | assumption | exact L2.qhs (by assumption) | exact TB.qlc (by assumption))
local macro_rules | `(tactic| walk_at "ty") => `(tactic| first | exact L2.TyOf.int _ | exact L2.TyOf.bl _ | exact L2.TyOf.non | exact L2.TyOf.str _ | exact L2.TyOf.lst (by walk_at "fact") | exact L2.TyOf.tup (by walk_at "fact"))
local macro_rules | `(tactic| walk_at "kit") => `(tactic| first | exact L2.qhx _ | exact L2.qg0 _ | exact L2.qtf _ | exact L2.kit_tuple _ | rfl)
local macro_rules | `(tactic| walk_at "r1") => `(tactic| first
 | refine L2.tVarS.mk _ rfl ?_
 | refine L2.rI0S.mk _ _ rfl rfl ?_
 | refine L2.rIxLS.mk _ _ _ _ rfl rfl (by walk_at "sq") (by walk_at "at") ?_
 | refine L2.rIxTS.mk _ _ _ _ rfl rfl (by walk_at "sq") (by walk_at "at") ?_
 | refine L2.rIS.mk _ _ rfl rfl (by walk_at "c") ?_
 | refine L2.tBS.mk _ rfl ?_
 | refine L2.tAndVS.mk _ rfl ?_
 | refine L2.tOrVS.mk _ rfl ?_
 | refine L2.tNotVS.mk _ rfl ?_
 | refine L2.rUS.mk _ rfl ?_
 | refine L2.tPartS.mk _ rfl ?_
 | refine L2.rSlLNS.mk _ _ rfl (by walk_at "sq") ?_
 | refine L2.rAppendNS.mk _ _ _ rfl rfl (by walk_at "fact") (by walk_at "c") ?_
 | refine Exists.intro _ (And.intro rfl ?_)
 | refine Exists.intro _ (Exists.intro _ (And.intro rfl (And.intro rfl ?_)))
 | refine And.intro rfl ?_
 | refine Exists.intro _ (Exists.intro _ (And.intro rfl (And.intro (by walk_at "sq") ?_)))
 | refine Exists.intro _ (Exists.intro _ (Exists.intro _ (Exists.intro _ (And.intro rfl (And.intro rfl (And.intro (by walk_at "sq") (And.intro (by walk_at "at") ?_)))))))
 | refine And.intro (Or.inl ⟨rfl,_,L2.SqL.of (by walk_at "fact")⟩) ?_
 | refine Exists.intro _ (Exists.intro _ (Exists.intro _ (And.intro rfl (And.intro rfl (And.intro (by walk_at "fact") (And.intro (by walk_at "c") ?_))))))
 | refine Exists.intro _ (Exists.intro _ (Exists.intro _ (Exists.intro _ (And.intro rfl (And.intro (by walk_at "ty") (And.intro (by walk_at "kit") ?_))))))
 | refine Exists.intro _ (Exists.intro _ (And.intro rfl ?_))
 | refine And.intro (by walk_at "c") ?_
 | refine L2.qe1 ?_
 | refine L2.qf0 ?_)
local macro_rules | `(tactic| walk_at "n") => `(tactic| simp only [L2.tNil, List.cons_append, List.nil_append, List.append_nil])
local macro_rules | `(tactic| walk_at "r") => `(tactic| (walk_at "r1"; repeat walk_at "r1"))
namespace TB
open PySem L2
def top (i:Nat):Stmt:=PySem.Challenge.pw_thinbook_k71_a_book_aged.main.body.getD i (.Pass ⟨0,0,0,0⟩)
abbrev qer:Stmt:=(top 9)
abbrev qfc:Stmt:=(top 10)
abbrev qes:Stmt:=(top 12)
abbrev qet:Stmt:=(top 13)
abbrev qce:Stmt:=(top 14)
abbrev qfd:Stmt:=(top 15)
abbrev qfe:Stmt:=(top 16)
abbrev qeu:Stmt:=(top 17)
abbrev qff:Stmt:=(top 18)
abbrev qfg:Stmt:=(top 20)
abbrev qgi:Stmt:=(top 21)
abbrev qd0:Stmt:=(inClass (top 23) 0)
abbrev qdv:Stmt:=(inClass (top 23) 1)
abbrev qbd:Stmt:=(inClass (top 23) 2)
abbrev qby:Stmt:=(inClass (top 23) 3)
abbrev qb5:Stmt:=(inClass (top 23) 4)
abbrev qc6:Stmt:=(inClass (top 23) 8)
abbrev qc7:Stmt:=(inClass (top 23) 9)
abbrev qim:Stmt:=(top 24)
abbrev qfh:Stmt:=(top 27)
abbrev qbz:Stmt:=(top 28)
abbrev qbu:Stmt:=(top 29)
abbrev qcs:Stmt:=(top 30)
abbrev qc8:Stmt:=(top 31)
abbrev qc0:Stmt:=(inClass (top 32) 0)
abbrev qc9:Stmt:=(inClass (top 32) 1)
abbrev qd1:Stmt:=(inClass (top 32) 2)
abbrev qb6:Stmt:=(top 39)
abbrev qfi:Stmt:=(top 40)
abbrev qfj:Stmt:=(top 41)
abbrev qct:Stmt:=(top 44)
abbrev qd2:Stmt:=(inClass (top 45) 0)
abbrev qcn:Stmt:=(inClass (top 45) 1)
abbrev qbe:Stmt:=(inClass (top 45) 2)
abbrev qb7:Stmt:=(inClass (top 45) 3)
abbrev qdw:Stmt:=(inClass (top 45) 4)
abbrev qd3:Stmt:=(inClass (top 45) 11)
abbrev qev:Stmt:=(inClass (top 45) 12)
abbrev qda:Stmt:=(inClass (top 45) 13)
abbrev qdb:Stmt:=(inClass (top 45) 14)
abbrev qdc:Stmt:=(inClass (top 45) 15)
abbrev qdd:Stmt:=(top 46)
abbrev qin:Stmt:=(top 48)
abbrev qd4:Stmt:=(top 49)
abbrev qfk:Stmt:=(top 50)
abbrev qlt:Stmt:=(top 51)
abbrev qcf:Stmt:=(top 53)
abbrev qde:Stmt:=(top 54)
abbrev qd5:Stmt:=(top 55)
abbrev qd6:Stmt:=(top 56)
abbrev qd7:Stmt:=(top 57)
abbrev qd8:Stmt:=(top 58)
abbrev qdf:Stmt:=(top 59)
abbrev qd9:Stmt:=(top 60)
abbrev qb8:Stmt:=(top 61)
abbrev qdg:Stmt:=(top 62)
abbrev qb9:Stmt:=(top 64)
abbrev qdh:Stmt:=(top 65)
abbrev qcg:Stmt:=(top 66)
abbrev qdi:Stmt:=(top 67)
abbrev qpi:Stmt:=(top 68)
abbrev qca:Stmt:=(inClass (top 5) 0)
theorem sc_is_whole:qak ["thing"] ["thing"] (qab qer):=⟨rfl,rfl,rfl,by decide +kernel,rfl,by decide +kernel,by decide +kernel⟩
theorem sc_floored:qak ["number", "width"] ["number", "width"] (qab qfc):=⟨rfl,rfl,rfl,by decide +kernel,rfl,by decide +kernel,by decide +kernel⟩
theorem sc_gone_cut:qak ["rule", "day", "gone"] ["rule", "day"] (qab qes):=⟨rfl,rfl,rfl,by decide +kernel,rfl,by decide +kernel,by decide +kernel⟩
theorem sc_edges_at:qak ["rule", "day", "cuts"] ["rule", "day"] (qab qet):=⟨rfl,rfl,rfl,by decide +kernel,rfl,by decide +kernel,by decide +kernel⟩
theorem sc_greater_edge:qak ["one", "other"] ["one", "other"] (qab qce):=⟨rfl,rfl,rfl,by decide +kernel,rfl,by decide +kernel,by decide +kernel⟩
theorem sc_greater:qak ["one", "other"] ["one", "other"] (qab qfd):=⟨rfl,rfl,rfl,by decide +kernel,rfl,by decide +kernel,by decide +kernel⟩
theorem sc_is_gone:qak ["edges", "time"] ["edges", "time"] (qab qfe):=⟨rfl,rfl,rfl,by decide +kernel,rfl,by decide +kernel,by decide +kernel⟩
theorem sc_width_at:qak ["rule", "edges", "time", "widths"] ["rule", "edges", "time"] (qab qeu):=⟨rfl,rfl,rfl,by decide +kernel,rfl,by decide +kernel,by decide +kernel⟩
theorem sc_cell_at:qak ["rule", "edges", "time", "width"] ["rule", "edges", "time"] (qab qff):=⟨rfl,rfl,rfl,by decide +kernel,rfl,by decide +kernel,by decide +kernel⟩
theorem sc_heap_of:qak ["runs", "values", "how_many", "total"] ["runs"] (qab qfg):=⟨rfl,rfl,rfl,by decide +kernel,rfl,by decide +kernel,by decide +kernel⟩
theorem sc_poured:qak ["one", "other"] ["one", "other"] (qab qgi):=⟨rfl,rfl,rfl,by decide +kernel,rfl,by decide +kernel,by decide +kernel⟩
theorem sc_Roll_init:qak ["self", "rule", "day"] ["self", "rule", "day"] (qab qd0):=⟨rfl,rfl,rfl,by decide +kernel,rfl,by decide +kernel,by decide +kernel⟩
theorem sc_Roll_put:qak ["self", "time", "value", "many", "cell"] ["self", "time", "value", "many"] (qab qdv):=⟨rfl,rfl,rfl,by decide +kernel,rfl,by decide +kernel,by decide +kernel⟩
theorem sc_Roll_pour_into_cell:qak ["self", "cell", "heap"] ["self", "cell", "heap"] (qab qbd):=⟨rfl,rfl,rfl,by decide +kernel,rfl,by decide +kernel,by decide +kernel⟩
theorem sc_Roll_take_heap:qak ["self", "start", "heap", "cell"] ["self", "start", "heap"] (qab qby):=⟨rfl,rfl,rfl,by decide +kernel,rfl,by decide +kernel,by decide +kernel⟩
theorem sc_Roll_take_all:qak ["self", "roll", "time", "value", "many", "row"] ["self", "roll"] (qab qb5):=⟨rfl,rfl,rfl,by decide +kernel,rfl,by decide +kernel,by decide +kernel⟩
theorem sc_Roll_young:qak ["self"] ["self"] (qab qc6):=⟨rfl,rfl,rfl,by decide +kernel,rfl,by decide +kernel,by decide +kernel⟩
theorem sc_Roll_heaps:qak ["self"] ["self"] (qab qc7):=⟨rfl,rfl,rfl,by decide +kernel,rfl,by decide +kernel,by decide +kernel⟩
theorem sc_begun:qak ["rule", "day", "edges", "roll"] ["rule", "day", "edges"] (qab qim):=⟨rfl,rfl,rfl,by decide +kernel,rfl,by decide +kernel,by decide +kernel⟩
theorem sc_is_step:qak ["thing"] ["thing"] (qab qfh):=⟨rfl,rfl,rfl,by decide +kernel,rfl,by decide +kernel,by decide +kernel⟩
theorem sc_check_one_step:qak ["step"] ["step"] (qab qbz):=⟨rfl,rfl,rfl,by decide +kernel,rfl,by decide +kernel,by decide +kernel⟩
theorem sc_check_next_step:qak ["step", "behind"] ["step", "behind"] (qab qbu):=⟨rfl,rfl,rfl,by decide +kernel,rfl,by decide +kernel,by decide +kernel⟩
theorem sc_check_steps:qak ["steps", "step", "behind"] ["steps"] (qab qcs):=⟨rfl,rfl,rfl,by decide +kernel,rfl,by decide +kernel,by decide +kernel⟩
theorem sc_check_gone:qak ["gone", "last_age"] ["gone", "last_age"] (qab qc8):=⟨rfl,rfl,rfl,by decide +kernel,rfl,by decide +kernel,by decide +kernel⟩
theorem sc_Rule_init:qak ["self", "steps", "gone", "kept"] ["self", "steps", "gone"] (qab qc0):=⟨rfl,rfl,rfl,by decide +kernel,rfl,by decide +kernel,by decide +kernel⟩
theorem sc_Rule_steps:qak ["self"] ["self"] (qab qc9):=⟨rfl,rfl,rfl,by decide +kernel,rfl,by decide +kernel,by decide +kernel⟩
theorem sc_Rule_gone:qak ["self"] ["self"] (qab qd1):=⟨rfl,rfl,rfl,by decide +kernel,rfl,by decide +kernel,by decide +kernel⟩
theorem sc_is_small_word:qak ["thing", "longest"] ["thing", "longest"] (qab qb6):=⟨rfl,rfl,rfl,by decide +kernel,rfl,by decide +kernel,by decide +kernel⟩
theorem sc_is_name:qak ["thing"] ["thing"] (qab qfi):=⟨rfl,rfl,rfl,by decide +kernel,rfl,by decide +kernel,by decide +kernel⟩
theorem sc_is_mark:qak ["thing"] ["thing"] (qab qfj):=⟨rfl,rfl,rfl,by decide +kernel,rfl,by decide +kernel,by decide +kernel⟩
theorem sc_check_marks:qak ["marks"] ["marks"] (qab qct):=⟨rfl,rfl,rfl,by decide +kernel,rfl,by decide +kernel,by decide +kernel⟩
theorem sc_Book_init:qak ["self", "rule", "day"] ["self", "rule", "day"] (qab qd2):=⟨rfl,rfl,rfl,by decide +kernel,rfl,by decide +kernel,by decide +kernel⟩
theorem sc_Book_enrol:qak ["self", "name", "marks", "told"] ["self", "name", "marks"] (qab qcn):=⟨rfl,rfl,rfl,by decide +kernel,rfl,by decide +kernel,by decide +kernel⟩
theorem sc_Book_check_enrolled:qak ["self", "name"] ["self", "name"] (qab qbe):=⟨rfl,rfl,rfl,by decide +kernel,rfl,by decide +kernel,by decide +kernel⟩
theorem sc_Book_own_roll:qak ["self", "name"] ["self", "name"] (qab qb7):=⟨rfl,rfl,rfl,by decide +kernel,rfl,by decide +kernel,by decide +kernel⟩
theorem sc_Book_put:qak ["self", "name", "time", "value", "many"] ["self", "name", "time", "value", "many"] (qab qdw):=⟨rfl,rfl,rfl,by decide +kernel,rfl,by decide +kernel,by decide +kernel⟩
theorem sc_Book_rule:qak ["self"] ["self"] (qab qd3):=⟨rfl,rfl,rfl,by decide +kernel,rfl,by decide +kernel,by decide +kernel⟩
theorem sc_Book_day:qak ["self"] ["self"] (qab qev):=⟨rfl,rfl,rfl,by decide +kernel,rfl,by decide +kernel,by decide +kernel⟩
theorem sc_Book_edges:qak ["self"] ["self"] (qab qda):=⟨rfl,rfl,rfl,by decide +kernel,rfl,by decide +kernel,by decide +kernel⟩
theorem sc_Book_names:qak ["self"] ["self"] (qab qdb):=⟨rfl,rfl,rfl,by decide +kernel,rfl,by decide +kernel,by decide +kernel⟩
theorem sc_Book_marks:qak ["self", "name"] ["self", "name"] (qab qdc):=⟨rfl,rfl,rfl,by decide +kernel,rfl,by decide +kernel,by decide +kernel⟩
theorem sc_begun_book:qak ["rule", "day", "edges", "book"] ["rule", "day", "edges"] (qab qdd):=⟨rfl,rfl,rfl,by decide +kernel,rfl,by decide +kernel,by decide +kernel⟩
theorem sc_moved:qak ["book", "rule", "day", "new", "name"] ["book", "rule", "day"] (qab qin):=⟨rfl,rfl,rfl,by decide +kernel,rfl,by decide +kernel,by decide +kernel⟩
theorem sc_aged_book:qak ["book", "day"] ["book", "day"] (qab qd4):=⟨rfl,rfl,rfl,by decide +kernel,rfl,by decide +kernel,by decide +kernel⟩
theorem sc_book_of:qak ["rule", "day", "edges", "names", "readings", "new", "name", "marks", "time", "value", "many"] ["rule", "day", "edges", "names", "readings"] (qab qfk):=⟨rfl,rfl,rfl,by decide +kernel,rfl,by decide +kernel,by decide +kernel⟩
theorem sc_told:qak ["book", "rows", "name", "roll"] ["book"] (qab qlt):=⟨rfl,rfl,rfl,by decide +kernel,rfl,by decide +kernel,by decide +kernel⟩
theorem sc__law_cell_at:qak ["_law_script", "_law_k"] ["_law_script", "_law_k"] (qab qcf):=⟨rfl,rfl,rfl,by decide +kernel,rfl,by decide +kernel,by decide +kernel⟩
theorem sc__law_mixed:qak ["_law_draw", "_law_k", "_law_number"] ["_law_draw", "_law_k"] (qab qde):=⟨rfl,rfl,rfl,by decide +kernel,rfl,by decide +kernel,by decide +kernel⟩
theorem sc__law_name:qak ["_law_draw", "_law_k", "_law_some", "_law_length", "_law_body", "_law_at"] ["_law_draw", "_law_k"] (qab qd5):=⟨rfl,rfl,rfl,by decide +kernel,rfl,by decide +kernel,by decide +kernel⟩
theorem sc__law_mark:qak ["_law_draw", "_law_k", "_law_some", "_law_length", "_law_body", "_law_at"] ["_law_draw", "_law_k"] (qab qd6):=⟨rfl,rfl,rfl,by decide +kernel,rfl,by decide +kernel,by decide +kernel⟩
theorem sc__law_rule:qak ["_law_draw", "_law_wide", "_law_age", "_law_width", "_law_steps", "_law_k"] ["_law_draw"] (qab qd7):=⟨rfl,rfl,rfl,by decide +kernel,rfl,by decide +kernel,by decide +kernel⟩
theorem sc__law_time:qak ["_law_steps", "_law_gone", "_law_day", "_law_draw", "_law_last", "_law_far", "_law_back"] ["_law_steps", "_law_gone", "_law_day", "_law_draw"] (qab qd8):=⟨rfl,rfl,rfl,by decide +kernel,rfl,by decide +kernel,by decide +kernel⟩
theorem sc__law_value:qak ["_law_draw", "_law_number"] ["_law_draw"] (qab qdf):=⟨rfl,rfl,rfl,by decide +kernel,rfl,by decide +kernel,by decide +kernel⟩
theorem sc__law_many:qak ["_law_draw", "_law_number"] ["_law_draw"] (qab qd9):=⟨rfl,rfl,rfl,by decide +kernel,rfl,by decide +kernel,by decide +kernel⟩
theorem sc__law_readings:qak ["_law_cells", "_law_names", "_law_steps", "_law_gone", "_law_day", "_law_found", "_law_draw", "_law_name_here"] ["_law_cells", "_law_names", "_law_steps", "_law_gone", "_law_day"] (qab qb8):=⟨rfl,rfl,rfl,by decide +kernel,rfl,by decide +kernel,by decide +kernel⟩
theorem sc__law_edges:qak ["_law_steps", "_law_gone", "_law_day", "_law_found"] ["_law_steps", "_law_gone", "_law_day"] (qab qdg):=⟨rfl,rfl,rfl,by decide +kernel,rfl,by decide +kernel,by decide +kernel⟩
theorem sc__law_backward:qak ["_law_book", "_law_day", "e"] ["_law_book", "_law_day"] (qab qb9):=⟨rfl,rfl,rfl,by decide +kernel,rfl,by decide +kernel,by decide +kernel⟩
theorem sc__law_right:qak ["_law_book", "_law_made", "_law_day", "_law_edges_here", "_law_names", "_law_readings_here", "_law_due"] ["_law_book", "_law_made", "_law_day", "_law_edges_here", "_law_names", "_law_readings_here"] (qab qdh):=⟨rfl,rfl,rfl,by decide +kernel,rfl,by decide +kernel,by decide +kernel⟩
theorem sc__law_all_put:qak ["_law_book", "_law_readings_here", "_law_name_here", "_law_time_here", "_law_value_here", "_law_many_here"] ["_law_book", "_law_readings_here"] (qab qcg):=⟨rfl,rfl,rfl,by decide +kernel,rfl,by decide +kernel,by decide +kernel⟩
theorem sc__law_apart:qak ["_law_books", "_law_strange", "_law_signs", "_law_before", "_law_book", "_law_marks", "_law_names"] ["_law_books", "_law_strange"] (qab qdi):=⟨rfl,rfl,rfl,by decide +kernel,rfl,by decide +kernel,by decide +kernel⟩
theorem sc_law:qak ["_law_script", "_law_steps", "_law_gone", "_law_made", "_law_day", "_law_one", "_law_names", "_law_far", "_law_later", "_law_readings_here", "_law_mid", "_law_book", "_law_name_here", "_law_marks", "_law_half", "_law_aged_on", "_law_edges_here"] ["_law_script"] (qab qpi):=⟨rfl,rfl,rfl,by decide +kernel,rfl,by decide +kernel,by decide +kernel⟩
theorem sc_Backward_init:qak ["self", "last"] ["self", "last"] (qab qca):=⟨rfl,rfl,rfl,by decide +kernel,rfl,by decide +kernel,by decide +kernel⟩
structure Txt (K:Frag) (mg:Str->Option Value) (C_Roll:Addr) (C_Rule:Addr) (C_Book:Addr) (C_BookError:Addr) (C_NoNumber:Addr) (C_NoRule:Addr) (C_Backward:Addr) (C_NoName:Addr) (C_NoMark:Addr):Prop where
 f_is_whole:∃ f fd,Fun K "is_whole" "is_whole" qer f fd/\mg "is_whole" = some (.ref f)
 f_floored:∃ f fd,Fun K "floored" "floored" qfc f fd/\mg "floored" = some (.ref f)
 f_gone_cut:∃ f fd,Fun K "gone_cut" "gone_cut" qes f fd/\mg "gone_cut" = some (.ref f)
 f_edges_at:∃ f fd,Fun K "edges_at" "edges_at" qet f fd/\mg "edges_at" = some (.ref f)
 f_greater_edge:∃ f fd,Fun K "greater_edge" "greater_edge" qce f fd/\mg "greater_edge" = some (.ref f)
 f_greater:∃ f fd,Fun K "greater" "greater" qfd f fd/\mg "greater" = some (.ref f)
 f_is_gone:∃ f fd,Fun K "is_gone" "is_gone" qfe f fd/\mg "is_gone" = some (.ref f)
 f_width_at:∃ f fd,Fun K "width_at" "width_at" qeu f fd/\mg "width_at" = some (.ref f)
 f_cell_at:∃ f fd,Fun K "cell_at" "cell_at" qff f fd/\mg "cell_at" = some (.ref f)
 f_heap_of:∃ f fd,Fun K "heap_of" "heap_of" qfg f fd/\mg "heap_of" = some (.ref f)
 f_poured:∃ f fd,Fun K "poured" "poured" qgi f fd/\mg "poured" = some (.ref f)
 f_Roll_init:∃ f fd,Fun K "__init__" "Roll.__init__" qd0 f fd/\Mk K C_Roll f
 f_Roll_put:∃ f fd dT o n t,FunD K "put" "Roll.put" qdv (.ref dT) f fd/\qgz K C_Roll "put" f/\fd.defaults=.ref dT/\K.lookup dT=some o/\o.data=.seq #[.int 1 t] n
 f_Roll_pour_into_cell:∃ f fd,Fun K "pour_into_cell" "Roll.pour_into_cell" qbd f fd/\qgz K C_Roll "pour_into_cell" f
 f_Roll_take_heap:∃ f fd,Fun K "take_heap" "Roll.take_heap" qby f fd/\qgz K C_Roll "take_heap" f
 f_Roll_take_all:∃ f fd,Fun K "take_all" "Roll.take_all" qb5 f fd/\qgz K C_Roll "take_all" f
 f_Roll_young:∃ f fd,Fun K "young" "Roll.young" qc6 f fd/\qgz K C_Roll "young" f
 f_Roll_heaps:∃ f fd,Fun K "heaps" "Roll.heaps" qc7 f fd/\qgz K C_Roll "heaps" f
 f_begun:∃ f fd,Fun K "begun" "begun" qim f fd/\mg "begun" = some (.ref f)
 f_is_step:∃ f fd,Fun K "is_step" "is_step" qfh f fd/\mg "is_step" = some (.ref f)
 f_check_one_step:∃ f fd,Fun K "check_one_step" "check_one_step" qbz f fd/\mg "check_one_step" = some (.ref f)
 f_check_next_step:∃ f fd,Fun K "check_next_step" "check_next_step" qbu f fd/\mg "check_next_step" = some (.ref f)
 f_check_steps:∃ f fd,Fun K "check_steps" "check_steps" qcs f fd/\mg "check_steps" = some (.ref f)
 f_check_gone:∃ f fd,Fun K "check_gone" "check_gone" qc8 f fd/\mg "check_gone" = some (.ref f)
 f_Rule_init:∃ f fd dT o n,FunD K "__init__" "Rule.__init__" qc0 (.ref dT) f fd/\Mk K C_Rule f/\fd.defaults=.ref dT/\K.lookup dT=some o/\o.data=.seq #[.none] n
 f_Rule_steps:∃ f fd,Fun K "steps" "Rule.steps" qc9 f fd/\qgz K C_Rule "steps" f
 f_Rule_gone:∃ f fd,Fun K "gone" "Rule.gone" qd1 f fd/\qgz K C_Rule "gone" f
 f_is_small_word:∃ f fd,Fun K "is_small_word" "is_small_word" qb6 f fd/\mg "is_small_word" = some (.ref f)
 f_is_name:∃ f fd,Fun K "is_name" "is_name" qfi f fd/\mg "is_name" = some (.ref f)
 f_is_mark:∃ f fd,Fun K "is_mark" "is_mark" qfj f fd/\mg "is_mark" = some (.ref f)
 f_check_marks:∃ f fd,Fun K "check_marks" "check_marks" qct f fd/\mg "check_marks" = some (.ref f)
 f_Book_init:∃ f fd,Fun K "__init__" "Book.__init__" qd2 f fd/\Mk K C_Book f
 f_Book_enrol:∃ f fd dT o n,FunD K "enrol" "Book.enrol" qcn (.ref dT) f fd/\qgz K C_Book "enrol" f/\fd.defaults=.ref dT/\K.lookup dT=some o/\o.data=.seq #[.none] n
 f_Book_check_enrolled:∃ f fd,Fun K "check_enrolled" "Book.check_enrolled" qbe f fd/\qgz K C_Book "check_enrolled" f
 f_Book_own_roll:∃ f fd,Fun K "own_roll" "Book.own_roll" qb7 f fd/\qgz K C_Book "own_roll" f
 f_Book_put:∃ f fd dT o n t,FunD K "put" "Book.put" qdw (.ref dT) f fd/\qgz K C_Book "put" f/\fd.defaults=.ref dT/\K.lookup dT=some o/\o.data=.seq #[.int 1 t] n
 f_Book_rule:∃ f fd,Fun K "rule" "Book.rule" qd3 f fd/\qgz K C_Book "rule" f
 f_Book_day:∃ f fd,Fun K "day" "Book.day" qev f fd/\qgz K C_Book "day" f
 f_Book_edges:∃ f fd,Fun K "edges" "Book.edges" qda f fd/\qgz K C_Book "edges" f
 f_Book_names:∃ f fd,Fun K "names" "Book.names" qdb f fd/\qgz K C_Book "names" f
 f_Book_marks:∃ f fd,Fun K "marks" "Book.marks" qdc f fd/\qgz K C_Book "marks" f
 f_begun_book:∃ f fd,Fun K "begun_book" "begun_book" qdd f fd/\mg "begun_book" = some (.ref f)
 f_moved:∃ f fd,Fun K "moved" "moved" qin f fd/\mg "moved" = some (.ref f)
 f_aged_book:∃ f fd,Fun K "aged_book" "aged_book" qd4 f fd/\mg "aged_book" = some (.ref f)
 f_book_of:∃ f fd,Fun K "book_of" "book_of" qfk f fd/\mg "book_of" = some (.ref f)
 f_told:∃ f fd,Fun K "told" "told" qlt f fd/\mg "told" = some (.ref f)
 f__law_cell_at:∃ f fd,Fun K "_law_cell_at" "_law_cell_at" qcf f fd/\mg "_law_cell_at" = some (.ref f)
 f__law_mixed:∃ f fd,Fun K "_law_mixed" "_law_mixed" qde f fd/\mg "_law_mixed" = some (.ref f)
 f__law_name:∃ f fd,Fun K "_law_name" "_law_name" qd5 f fd/\mg "_law_name" = some (.ref f)
 f__law_mark:∃ f fd,Fun K "_law_mark" "_law_mark" qd6 f fd/\mg "_law_mark" = some (.ref f)
 f__law_rule:∃ f fd,Fun K "_law_rule" "_law_rule" qd7 f fd/\mg "_law_rule" = some (.ref f)
 f__law_time:∃ f fd,Fun K "_law_time" "_law_time" qd8 f fd/\mg "_law_time" = some (.ref f)
 f__law_value:∃ f fd,Fun K "_law_value" "_law_value" qdf f fd/\mg "_law_value" = some (.ref f)
 f__law_many:∃ f fd,Fun K "_law_many" "_law_many" qd9 f fd/\mg "_law_many" = some (.ref f)
 f__law_readings:∃ f fd,Fun K "_law_readings" "_law_readings" qb8 f fd/\mg "_law_readings" = some (.ref f)
 f__law_edges:∃ f fd,Fun K "_law_edges" "_law_edges" qdg f fd/\mg "_law_edges" = some (.ref f)
 f__law_backward:∃ f fd,Fun K "_law_backward" "_law_backward" qb9 f fd/\mg "_law_backward" = some (.ref f)
 f__law_right:∃ f fd,Fun K "_law_right" "_law_right" qdh f fd/\mg "_law_right" = some (.ref f)
 f__law_all_put:∃ f fd,Fun K "_law_all_put" "_law_all_put" qcg f fd/\mg "_law_all_put" = some (.ref f)
 f__law_apart:∃ f fd,Fun K "_law_apart" "_law_apart" qdi f fd/\mg "_law_apart" = some (.ref f)
 f_law:∃ f fd,Fun K "law" "law" qpi f fd/\mg "law" = some (.ref f)
 f_Backward_init:∃ f fd,Fun K "__init__" "Backward.__init__" qca f fd/\qAi K C_Backward f "last"
 cl_Roll:Cls K C_Roll
 mg_Roll:mg "Roll" = some (.ref C_Roll)
 na_Roll_kept_rule:NoAttr K C_Roll "kept_rule"
 na_Roll_kept_day:NoAttr K C_Roll "kept_day"
 na_Roll_kept_edges:NoAttr K C_Roll "kept_edges"
 na_Roll_whole_ones:NoAttr K C_Roll "whole_ones"
 na_Roll_cell_heaps:NoAttr K C_Roll "cell_heaps"
 cl_Rule:Cls K C_Rule
 mg_Rule:mg "Rule" = some (.ref C_Rule)
 na_Rule_kept_steps:NoAttr K C_Rule "kept_steps"
 na_Rule_gone_age:NoAttr K C_Rule "gone_age"
 cl_Book:Cls K C_Book
 mg_Book:mg "Book" = some (.ref C_Book)
 na_Book_kept_rule:NoAttr K C_Book "kept_rule"
 na_Book_kept_day:NoAttr K C_Book "kept_day"
 na_Book_kept_edges:NoAttr K C_Book "kept_edges"
 na_Book_kept_marks:NoAttr K C_Book "kept_marks"
 na_Book_kept_rolls:NoAttr K C_Book "kept_rolls"
 mg_BookError:mg "BookError" = some (.ref C_BookError)
 mg_NoNumber:mg "NoNumber" = some (.ref C_NoNumber)
 mg_NoRule:mg "NoRule" = some (.ref C_NoRule)
 mg_Backward:mg "Backward" = some (.ref C_Backward)
 mg_NoName:mg "NoName" = some (.ref C_NoName)
 mg_NoMark:mg "NoMark" = some (.ref C_NoMark)
 ex_BookError:qxs K C_BookError
 kx_BookError:qpt K C_BookError
 hit_BookError_BookError:PySem.W.mroIn K C_BookError (.ref C_BookError)=some true
 is_BookError_BookError:PySem.W.kitOne K (.ref C_BookError) (.ref C_BookError)=some true
 is_BookError_NoNumber:PySem.W.kitOne K (.ref C_BookError) (.ref C_NoNumber)=some false
 is_BookError_NoRule:PySem.W.kitOne K (.ref C_BookError) (.ref C_NoRule)=some false
 is_BookError_Backward:PySem.W.kitOne K (.ref C_BookError) (.ref C_Backward)=some false
 is_BookError_NoName:PySem.W.kitOne K (.ref C_BookError) (.ref C_NoName)=some false
 is_BookError_NoMark:PySem.W.kitOne K (.ref C_BookError) (.ref C_NoMark)=some false
 is_BookError_ValueError:PySem.W.kitOne K (.ref C_BookError) (.type "ValueError")=some true
 ex_NoNumber:qxs K C_NoNumber
 kx_NoNumber:qpt K C_NoNumber
 hit_NoNumber_BookError:PySem.W.mroIn K C_NoNumber (.ref C_BookError)=some true
 is_NoNumber_BookError:PySem.W.kitOne K (.ref C_NoNumber) (.ref C_BookError)=some true
 hit_NoNumber_NoNumber:PySem.W.mroIn K C_NoNumber (.ref C_NoNumber)=some true
 is_NoNumber_NoNumber:PySem.W.kitOne K (.ref C_NoNumber) (.ref C_NoNumber)=some true
 is_NoNumber_NoRule:PySem.W.kitOne K (.ref C_NoNumber) (.ref C_NoRule)=some false
 is_NoNumber_Backward:PySem.W.kitOne K (.ref C_NoNumber) (.ref C_Backward)=some false
 is_NoNumber_NoName:PySem.W.kitOne K (.ref C_NoNumber) (.ref C_NoName)=some false
 is_NoNumber_NoMark:PySem.W.kitOne K (.ref C_NoNumber) (.ref C_NoMark)=some false
 is_NoNumber_ValueError:PySem.W.kitOne K (.ref C_NoNumber) (.type "ValueError")=some true
 ex_NoRule:qxs K C_NoRule
 kx_NoRule:qpt K C_NoRule
 hit_NoRule_BookError:PySem.W.mroIn K C_NoRule (.ref C_BookError)=some true
 is_NoRule_BookError:PySem.W.kitOne K (.ref C_NoRule) (.ref C_BookError)=some true
 is_NoRule_NoNumber:PySem.W.kitOne K (.ref C_NoRule) (.ref C_NoNumber)=some false
 hit_NoRule_NoRule:PySem.W.mroIn K C_NoRule (.ref C_NoRule)=some true
 is_NoRule_NoRule:PySem.W.kitOne K (.ref C_NoRule) (.ref C_NoRule)=some true
 is_NoRule_Backward:PySem.W.kitOne K (.ref C_NoRule) (.ref C_Backward)=some false
 is_NoRule_NoName:PySem.W.kitOne K (.ref C_NoRule) (.ref C_NoName)=some false
 is_NoRule_NoMark:PySem.W.kitOne K (.ref C_NoRule) (.ref C_NoMark)=some false
 is_NoRule_ValueError:PySem.W.kitOne K (.ref C_NoRule) (.type "ValueError")=some true
 kx_Backward:qpt K C_Backward
 hit_Backward_BookError:PySem.W.mroIn K C_Backward (.ref C_BookError)=some true
 is_Backward_BookError:PySem.W.kitOne K (.ref C_Backward) (.ref C_BookError)=some true
 is_Backward_NoNumber:PySem.W.kitOne K (.ref C_Backward) (.ref C_NoNumber)=some false
 is_Backward_NoRule:PySem.W.kitOne K (.ref C_Backward) (.ref C_NoRule)=some false
 hit_Backward_Backward:PySem.W.mroIn K C_Backward (.ref C_Backward)=some true
 is_Backward_Backward:PySem.W.kitOne K (.ref C_Backward) (.ref C_Backward)=some true
 is_Backward_NoName:PySem.W.kitOne K (.ref C_Backward) (.ref C_NoName)=some false
 is_Backward_NoMark:PySem.W.kitOne K (.ref C_Backward) (.ref C_NoMark)=some false
 is_Backward_ValueError:PySem.W.kitOne K (.ref C_Backward) (.type "ValueError")=some true
 ex_NoName:qxs K C_NoName
 kx_NoName:qpt K C_NoName
 hit_NoName_BookError:PySem.W.mroIn K C_NoName (.ref C_BookError)=some true
 is_NoName_BookError:PySem.W.kitOne K (.ref C_NoName) (.ref C_BookError)=some true
 is_NoName_NoNumber:PySem.W.kitOne K (.ref C_NoName) (.ref C_NoNumber)=some false
 is_NoName_NoRule:PySem.W.kitOne K (.ref C_NoName) (.ref C_NoRule)=some false
 is_NoName_Backward:PySem.W.kitOne K (.ref C_NoName) (.ref C_Backward)=some false
 hit_NoName_NoName:PySem.W.mroIn K C_NoName (.ref C_NoName)=some true
 is_NoName_NoName:PySem.W.kitOne K (.ref C_NoName) (.ref C_NoName)=some true
 is_NoName_NoMark:PySem.W.kitOne K (.ref C_NoName) (.ref C_NoMark)=some false
 is_NoName_ValueError:PySem.W.kitOne K (.ref C_NoName) (.type "ValueError")=some true
 ex_NoMark:qxs K C_NoMark
 kx_NoMark:qpt K C_NoMark
 hit_NoMark_BookError:PySem.W.mroIn K C_NoMark (.ref C_BookError)=some true
 is_NoMark_BookError:PySem.W.kitOne K (.ref C_NoMark) (.ref C_BookError)=some true
 is_NoMark_NoNumber:PySem.W.kitOne K (.ref C_NoMark) (.ref C_NoNumber)=some false
 is_NoMark_NoRule:PySem.W.kitOne K (.ref C_NoMark) (.ref C_NoRule)=some false
 is_NoMark_Backward:PySem.W.kitOne K (.ref C_NoMark) (.ref C_Backward)=some false
 is_NoMark_NoName:PySem.W.kitOne K (.ref C_NoMark) (.ref C_NoName)=some false
 hit_NoMark_NoMark:PySem.W.mroIn K C_NoMark (.ref C_NoMark)=some true
 is_NoMark_NoMark:PySem.W.kitOne K (.ref C_NoMark) (.ref C_NoMark)=some true
 is_NoMark_ValueError:PySem.W.kitOne K (.ref C_NoMark) (.type "ValueError")=some true
 bi_BookError:qy8 K C_BookError
 b_all:mg "all" = none
 b_bool:mg "bool" = none
 b_int:mg "int" = none
 b_isinstance:mg "isinstance" = none
 b_len:mg "len" = none
 b_list:mg "list" = none
 b_max:mg "max" = none
 b_min:mg "min" = none
 b_range:mg "range" = none
 b_set:mg "set" = none
 b_sorted:mg "sorted" = none
 b_str:mg "str" = none
 b_sum:mg "sum" = none
 b_tuple:mg "tuple" = none
 b_zip:mg "zip" = none
 c_MOST_STEPS:∃ t,mg "MOST_STEPS" = some (.int 5 t)
 c_LETTERS:∃ t,mg "LETTERS" = some (.str "abcdefghijklmnopqrstuvwxyz" t)
 c_LONGEST_NAME:∃ t,mg "LONGEST_NAME" = some (.int 12 t)
 c_LONGEST_MARK:∃ t,mg "LONGEST_MARK" = some (.int 8 t)
 c_MOST_MARKS:∃ t,mg "MOST_MARKS" = some (.int 8 t)
theorem qzw {K:Frag} {h:Heap} {mg:Str->Option Value} (X:K.In h) (G:h.Ns mainGlobals mg) {C_Roll C_Rule C_Book C_Backward f0 f1 f2 f3 f4 f5 f6 f7 f8 f9 f10 f11 f12 dT12 f13 f14 f15 f16 f17 f18 f19 f20 f21 f22 f23 f24 dT24 f25 f26 f27 f28 f29 f30 f31 f32 dT32 f33 f34 f35 dT35 f36 f37 f38 f39 f40 f41 f42 f43 f44 f45 f46 f47 f48 f49 f50 f51 f52 f53 f54 f55 f56 f57 f58 f59 f60 f61 C_BookError C_NoNumber C_NoRule C_NoName C_NoMark:Addr} {od0 an0 od1 an1 od2 an2 od3 an3 od4 an4 od5 an5 od6 an6 od7 an7 od8 an8 od9 an9 od10 an10 od11 an11 od12 an12 dd12 od13 an13 od14 an14 od15 an15 od16 an16 od17 an17 od18 an18 od19 an19 od20 an20 od21 an21 od22 an22 od23 an23 od24 an24 dd24 od25 an25 od26 an26 od27 an27 od28 an28 od29 an29 od30 an30 od31 an31 od32 an32 dd32 od33 an33 od34 an34 od35 an35 dd35 od36 an36 od37 an37 od38 an38 od39 an39 od40 an40 od41 an41 od42 an42 od43 an43 od44 an44 od45 an45 od46 an46 od47 an47 od48 an48 od49 an49 od50 an50 od51 an51 od52 an52 od53 an53 od54 an54 od55 an55 od56 an56 od57 an57 od58 an58 od59 an59 od60 an60 od61 an61:Option Addr} {sl0 sl1 sl2 sl3 sl4 sl5 sl6 sl7 sl8 sl9 sl10 sl11 sl12 ds12 sl13 sl14 sl15 sl16 sl17 sl18 sl19 sl20 sl21 sl22 sl23 sl24 ds24 sl25 sl26 sl27 sl28 sl29 sl30 sl31 sl32 ds32 sl33 sl34 sl35 ds35 sl36 sl37 sl38 sl39 sl40 sl41 sl42 sl43 sl44 sl45 sl46 sl47 sl48 sl49 sl50 sl51 sl52 sl53 sl54 sl55 sl56 sl57 sl58 sl59 sl60 sl61:Array (Option Value)} {oc0 kV0 dc0 pm0 cd0 ct0 oc1 kV1 dc1 pm1 cd1 ct1 oc2 kV2 dc2 pm2 cd2 ct2 oc3 kV3 dc3 pm3 cd3 ct3 oc4 kV4 dc4 pm4 cd4 ct4 oc5 kV5 dc5 pm5 cd5 ct5 oc6 kV6 dc6 pm6 cd6 ct6 oc7 kV7 dc7 pm7 cd7 ct7 oc8 kV8 dc8 pm8 cd8 ct8 oc9 kV9 dc9 pm9 cd9 ct9 oc10 kV10 dc10 pm10 cd10 ct10 oc11 kV11 dc11 pm11 cd11 ct11 oc12 kV12 dc12 pm12 cd12 ct12 dk12 oc13 kV13 dc13 pm13 cd13 ct13 oc14 kV14 dc14 pm14 cd14 ct14 oc15 kV15 dc15 pm15 cd15 ct15 oc16 kV16 dc16 pm16 cd16 ct16 oc17 kV17 dc17 pm17 cd17 ct17 oc18 kV18 dc18 pm18 cd18 ct18 oc19 kV19 dc19 pm19 cd19 ct19 oc20 kV20 dc20 pm20 cd20 ct20 oc21 kV21 dc21 pm21 cd21 ct21 oc22 kV22 dc22 pm22 cd22 ct22 oc23 kV23 dc23 pm23 cd23 ct23 oc24 kV24 dc24 pm24 cd24 ct24 dk24 oc25 kV25 dc25 pm25 cd25 ct25 oc26 kV26 dc26 pm26 cd26 ct26 oc27 kV27 dc27 pm27 cd27 ct27 oc28 kV28 dc28 pm28 cd28 ct28 oc29 kV29 dc29 pm29 cd29 ct29 oc30 kV30 dc30 pm30 cd30 ct30 oc31 kV31 dc31 pm31 cd31 ct31 oc32 kV32 dc32 pm32 cd32 ct32 dk32 oc33 kV33 dc33 pm33 cd33 ct33 oc34 kV34 dc34 pm34 cd34 ct34 oc35 kV35 dc35 pm35 cd35 ct35 dk35 oc36 kV36 dc36 pm36 cd36 ct36 oc37 kV37 dc37 pm37 cd37 ct37 oc38 kV38 dc38 pm38 cd38 ct38 oc39 kV39 dc39 pm39 cd39 ct39 oc40 kV40 dc40 pm40 cd40 ct40 oc41 kV41 dc41 pm41 cd41 ct41 oc42 kV42 dc42 pm42 cd42 ct42 oc43 kV43 dc43 pm43 cd43 ct43 oc44 kV44 dc44 pm44 cd44 ct44 oc45 kV45 dc45 pm45 cd45 ct45 oc46 kV46 dc46 pm46 cd46 ct46 oc47 kV47 dc47 pm47 cd47 ct47 oc48 kV48 dc48 pm48 cd48 ct48 oc49 kV49 dc49 pm49 cd49 ct49 oc50 kV50 dc50 pm50 cd50 ct50 oc51 kV51 dc51 pm51 cd51 ct51 oc52 kV52 dc52 pm52 cd52 ct52 oc53 kV53 dc53 pm53 cd53 ct53 oc54 kV54 dc54 pm54 cd54 ct54 oc55 kV55 dc55 pm55 cd55 ct55 oc56 kV56 dc56 pm56 cd56 ct56 oc57 kV57 dc57 pm57 cd57 ct57 oc58 kV58 dc58 pm58 cd58 ct58 oc59 kV59 dc59 pm59 cd59 ct59 oc60 kV60 dc60 pm60 cd60 ct60 oc61 kV61 dc61 pm61 cd61 ct61:Value} {dn12 dn24 dn32 dn35:Nat} {dt12 dt35 t_MOST_STEPS t_LETTERS t_LONGEST_NAME t_LONGEST_MARK t_MOST_MARKS:Tok}
  (aCRoll:nsIn K mainGlobals "Roll" = some (some (.ref C_Roll)))
  (aCRule:nsIn K mainGlobals "Rule" = some (some (.ref C_Rule)))
  (aCBook:nsIn K mainGlobals "Book" = some (some (.ref C_Book)))
  (xCBackward:nsIn K mainGlobals "Backward" = some (some (.ref C_Backward)))
  (a0:nsIn K mainGlobals "is_whole" = some (some (.ref f0)))
  (l0:K.lookup f0=some ⟨oc0,od0,.func (fnOf "is_whole" "is_whole" (qal qer) (qaj qer) (qab qer) .none kV0 dc0 pm0 an0 cd0 ct0),sl0⟩)
  (c0:codeIn K cd0 "is_whole" = true)
  (k0:keepIn K (.ref f0)=true)
  (a1:nsIn K mainGlobals "floored" = some (some (.ref f1)))
  (l1:K.lookup f1=some ⟨oc1,od1,.func (fnOf "floored" "floored" (qal qfc) (qaj qfc) (qab qfc) .none kV1 dc1 pm1 an1 cd1 ct1),sl1⟩)
  (c1:codeIn K cd1 "floored" = true)
  (k1:keepIn K (.ref f1)=true)
  (a2:nsIn K mainGlobals "gone_cut" = some (some (.ref f2)))
  (l2:K.lookup f2=some ⟨oc2,od2,.func (fnOf "gone_cut" "gone_cut" (qal qes) (qaj qes) (qab qes) .none kV2 dc2 pm2 an2 cd2 ct2),sl2⟩)
  (c2:codeIn K cd2 "gone_cut" = true)
  (k2:keepIn K (.ref f2)=true)
  (a3:nsIn K mainGlobals "edges_at" = some (some (.ref f3)))
  (l3:K.lookup f3=some ⟨oc3,od3,.func (fnOf "edges_at" "edges_at" (qal qet) (qaj qet) (qab qet) .none kV3 dc3 pm3 an3 cd3 ct3),sl3⟩)
  (c3:codeIn K cd3 "edges_at" = true)
  (k3:keepIn K (.ref f3)=true)
  (a4:nsIn K mainGlobals "greater_edge" = some (some (.ref f4)))
  (l4:K.lookup f4=some ⟨oc4,od4,.func (fnOf "greater_edge" "greater_edge" (qal qce) (qaj qce) (qab qce) .none kV4 dc4 pm4 an4 cd4 ct4),sl4⟩)
  (c4:codeIn K cd4 "greater_edge" = true)
  (k4:keepIn K (.ref f4)=true)
  (a5:nsIn K mainGlobals "greater" = some (some (.ref f5)))
  (l5:K.lookup f5=some ⟨oc5,od5,.func (fnOf "greater" "greater" (qal qfd) (qaj qfd) (qab qfd) .none kV5 dc5 pm5 an5 cd5 ct5),sl5⟩)
  (c5:codeIn K cd5 "greater" = true)
  (k5:keepIn K (.ref f5)=true)
  (a6:nsIn K mainGlobals "is_gone" = some (some (.ref f6)))
  (l6:K.lookup f6=some ⟨oc6,od6,.func (fnOf "is_gone" "is_gone" (qal qfe) (qaj qfe) (qab qfe) .none kV6 dc6 pm6 an6 cd6 ct6),sl6⟩)
  (c6:codeIn K cd6 "is_gone" = true)
  (k6:keepIn K (.ref f6)=true)
  (a7:nsIn K mainGlobals "width_at" = some (some (.ref f7)))
  (l7:K.lookup f7=some ⟨oc7,od7,.func (fnOf "width_at" "width_at" (qal qeu) (qaj qeu) (qab qeu) .none kV7 dc7 pm7 an7 cd7 ct7),sl7⟩)
  (c7:codeIn K cd7 "width_at" = true)
  (k7:keepIn K (.ref f7)=true)
  (a8:nsIn K mainGlobals "cell_at" = some (some (.ref f8)))
  (l8:K.lookup f8=some ⟨oc8,od8,.func (fnOf "cell_at" "cell_at" (qal qff) (qaj qff) (qab qff) .none kV8 dc8 pm8 an8 cd8 ct8),sl8⟩)
  (c8:codeIn K cd8 "cell_at" = true)
  (k8:keepIn K (.ref f8)=true)
  (a9:nsIn K mainGlobals "heap_of" = some (some (.ref f9)))
  (l9:K.lookup f9=some ⟨oc9,od9,.func (fnOf "heap_of" "heap_of" (qal qfg) (qaj qfg) (qab qfg) .none kV9 dc9 pm9 an9 cd9 ct9),sl9⟩)
  (c9:codeIn K cd9 "heap_of" = true)
  (k9:keepIn K (.ref f9)=true)
  (a10:nsIn K mainGlobals "poured" = some (some (.ref f10)))
  (l10:K.lookup f10=some ⟨oc10,od10,.func (fnOf "poured" "poured" (qal qgi) (qaj qgi) (qab qgi) .none kV10 dc10 pm10 an10 cd10 ct10),sl10⟩)
  (c10:codeIn K cd10 "poured" = true)
  (k10:keepIn K (.ref f10)=true)
  (a11:PySem.W.findIn K (.ref C_Roll) "__init__" = some (some (.ref f11)))
  (i11:PySem.W.isFn K (.ref f11)=true)
  (l11:K.lookup f11=some ⟨oc11,od11,.func (fnOf "__init__" "Roll.__init__" (qal qd0) (qaj qd0) (qab qd0) .none kV11 dc11 pm11 an11 cd11 ct11),sl11⟩)
  (c11:codeIn K cd11 "Roll.__init__" = true)
  (k11:keepIn K (.ref f11)=true)
  (a12:PySem.W.findIn K (.ref C_Roll) "put" = some (some (.ref f12)))
  (i12:PySem.W.isFn K (.ref f12)=true)
  (l12:K.lookup f12=some ⟨oc12,od12,.func (fnOf "put" "Roll.put" (qal qdv) (qaj qdv) (qab qdv) (.ref dT12) kV12 dc12 pm12 an12 cd12 ct12),sl12⟩)
  (c12:codeIn K cd12 "Roll.put" = true)
  (k12:keepIn K (.ref f12)=true)
  (d12:K.lookup dT12=some ⟨dk12,dd12,.seq #[.int 1 dt12] dn12,ds12⟩)
  (a13:PySem.W.findIn K (.ref C_Roll) "pour_into_cell" = some (some (.ref f13)))
  (i13:PySem.W.isFn K (.ref f13)=true)
  (l13:K.lookup f13=some ⟨oc13,od13,.func (fnOf "pour_into_cell" "Roll.pour_into_cell" (qal qbd) (qaj qbd) (qab qbd) .none kV13 dc13 pm13 an13 cd13 ct13),sl13⟩)
  (c13:codeIn K cd13 "Roll.pour_into_cell" = true)
  (k13:keepIn K (.ref f13)=true)
  (a14:PySem.W.findIn K (.ref C_Roll) "take_heap" = some (some (.ref f14)))
  (i14:PySem.W.isFn K (.ref f14)=true)
  (l14:K.lookup f14=some ⟨oc14,od14,.func (fnOf "take_heap" "Roll.take_heap" (qal qby) (qaj qby) (qab qby) .none kV14 dc14 pm14 an14 cd14 ct14),sl14⟩)
  (c14:codeIn K cd14 "Roll.take_heap" = true)
  (k14:keepIn K (.ref f14)=true)
  (a15:PySem.W.findIn K (.ref C_Roll) "take_all" = some (some (.ref f15)))
  (i15:PySem.W.isFn K (.ref f15)=true)
  (l15:K.lookup f15=some ⟨oc15,od15,.func (fnOf "take_all" "Roll.take_all" (qal qb5) (qaj qb5) (qab qb5) .none kV15 dc15 pm15 an15 cd15 ct15),sl15⟩)
  (c15:codeIn K cd15 "Roll.take_all" = true)
  (k15:keepIn K (.ref f15)=true)
  (a16:PySem.W.findIn K (.ref C_Roll) "young" = some (some (.ref f16)))
  (i16:PySem.W.isFn K (.ref f16)=true)
  (l16:K.lookup f16=some ⟨oc16,od16,.func (fnOf "young" "Roll.young" (qal qc6) (qaj qc6) (qab qc6) .none kV16 dc16 pm16 an16 cd16 ct16),sl16⟩)
  (c16:codeIn K cd16 "Roll.young" = true)
  (k16:keepIn K (.ref f16)=true)
  (a17:PySem.W.findIn K (.ref C_Roll) "heaps" = some (some (.ref f17)))
  (i17:PySem.W.isFn K (.ref f17)=true)
  (l17:K.lookup f17=some ⟨oc17,od17,.func (fnOf "heaps" "Roll.heaps" (qal qc7) (qaj qc7) (qab qc7) .none kV17 dc17 pm17 an17 cd17 ct17),sl17⟩)
  (c17:codeIn K cd17 "Roll.heaps" = true)
  (k17:keepIn K (.ref f17)=true)
  (a18:nsIn K mainGlobals "begun" = some (some (.ref f18)))
  (l18:K.lookup f18=some ⟨oc18,od18,.func (fnOf "begun" "begun" (qal qim) (qaj qim) (qab qim) .none kV18 dc18 pm18 an18 cd18 ct18),sl18⟩)
  (c18:codeIn K cd18 "begun" = true)
  (k18:keepIn K (.ref f18)=true)
  (a19:nsIn K mainGlobals "is_step" = some (some (.ref f19)))
  (l19:K.lookup f19=some ⟨oc19,od19,.func (fnOf "is_step" "is_step" (qal qfh) (qaj qfh) (qab qfh) .none kV19 dc19 pm19 an19 cd19 ct19),sl19⟩)
  (c19:codeIn K cd19 "is_step" = true)
  (k19:keepIn K (.ref f19)=true)
  (a20:nsIn K mainGlobals "check_one_step" = some (some (.ref f20)))
  (l20:K.lookup f20=some ⟨oc20,od20,.func (fnOf "check_one_step" "check_one_step" (qal qbz) (qaj qbz) (qab qbz) .none kV20 dc20 pm20 an20 cd20 ct20),sl20⟩)
  (c20:codeIn K cd20 "check_one_step" = true)
  (k20:keepIn K (.ref f20)=true)
  (a21:nsIn K mainGlobals "check_next_step" = some (some (.ref f21)))
  (l21:K.lookup f21=some ⟨oc21,od21,.func (fnOf "check_next_step" "check_next_step" (qal qbu) (qaj qbu) (qab qbu) .none kV21 dc21 pm21 an21 cd21 ct21),sl21⟩)
  (c21:codeIn K cd21 "check_next_step" = true)
  (k21:keepIn K (.ref f21)=true)
  (a22:nsIn K mainGlobals "check_steps" = some (some (.ref f22)))
  (l22:K.lookup f22=some ⟨oc22,od22,.func (fnOf "check_steps" "check_steps" (qal qcs) (qaj qcs) (qab qcs) .none kV22 dc22 pm22 an22 cd22 ct22),sl22⟩)
  (c22:codeIn K cd22 "check_steps" = true)
  (k22:keepIn K (.ref f22)=true)
  (a23:nsIn K mainGlobals "check_gone" = some (some (.ref f23)))
  (l23:K.lookup f23=some ⟨oc23,od23,.func (fnOf "check_gone" "check_gone" (qal qc8) (qaj qc8) (qab qc8) .none kV23 dc23 pm23 an23 cd23 ct23),sl23⟩)
  (c23:codeIn K cd23 "check_gone" = true)
  (k23:keepIn K (.ref f23)=true)
  (a24:PySem.W.findIn K (.ref C_Rule) "__init__" = some (some (.ref f24)))
  (i24:PySem.W.isFn K (.ref f24)=true)
  (l24:K.lookup f24=some ⟨oc24,od24,.func (fnOf "__init__" "Rule.__init__" (qal qc0) (qaj qc0) (qab qc0) (.ref dT24) kV24 dc24 pm24 an24 cd24 ct24),sl24⟩)
  (c24:codeIn K cd24 "Rule.__init__" = true)
  (k24:keepIn K (.ref f24)=true)
  (d24:K.lookup dT24=some ⟨dk24,dd24,.seq #[.none] dn24,ds24⟩)
  (a25:PySem.W.findIn K (.ref C_Rule) "steps" = some (some (.ref f25)))
  (i25:PySem.W.isFn K (.ref f25)=true)
  (l25:K.lookup f25=some ⟨oc25,od25,.func (fnOf "steps" "Rule.steps" (qal qc9) (qaj qc9) (qab qc9) .none kV25 dc25 pm25 an25 cd25 ct25),sl25⟩)
  (c25:codeIn K cd25 "Rule.steps" = true)
  (k25:keepIn K (.ref f25)=true)
  (a26:PySem.W.findIn K (.ref C_Rule) "gone" = some (some (.ref f26)))
  (i26:PySem.W.isFn K (.ref f26)=true)
  (l26:K.lookup f26=some ⟨oc26,od26,.func (fnOf "gone" "Rule.gone" (qal qd1) (qaj qd1) (qab qd1) .none kV26 dc26 pm26 an26 cd26 ct26),sl26⟩)
  (c26:codeIn K cd26 "Rule.gone" = true)
  (k26:keepIn K (.ref f26)=true)
  (a27:nsIn K mainGlobals "is_small_word" = some (some (.ref f27)))
  (l27:K.lookup f27=some ⟨oc27,od27,.func (fnOf "is_small_word" "is_small_word" (qal qb6) (qaj qb6) (qab qb6) .none kV27 dc27 pm27 an27 cd27 ct27),sl27⟩)
  (c27:codeIn K cd27 "is_small_word" = true)
  (k27:keepIn K (.ref f27)=true)
  (a28:nsIn K mainGlobals "is_name" = some (some (.ref f28)))
  (l28:K.lookup f28=some ⟨oc28,od28,.func (fnOf "is_name" "is_name" (qal qfi) (qaj qfi) (qab qfi) .none kV28 dc28 pm28 an28 cd28 ct28),sl28⟩)
  (c28:codeIn K cd28 "is_name" = true)
  (k28:keepIn K (.ref f28)=true)
  (a29:nsIn K mainGlobals "is_mark" = some (some (.ref f29)))
  (l29:K.lookup f29=some ⟨oc29,od29,.func (fnOf "is_mark" "is_mark" (qal qfj) (qaj qfj) (qab qfj) .none kV29 dc29 pm29 an29 cd29 ct29),sl29⟩)
  (c29:codeIn K cd29 "is_mark" = true)
  (k29:keepIn K (.ref f29)=true)
  (a30:nsIn K mainGlobals "check_marks" = some (some (.ref f30)))
  (l30:K.lookup f30=some ⟨oc30,od30,.func (fnOf "check_marks" "check_marks" (qal qct) (qaj qct) (qab qct) .none kV30 dc30 pm30 an30 cd30 ct30),sl30⟩)
  (c30:codeIn K cd30 "check_marks" = true)
  (k30:keepIn K (.ref f30)=true)
  (a31:PySem.W.findIn K (.ref C_Book) "__init__" = some (some (.ref f31)))
  (i31:PySem.W.isFn K (.ref f31)=true)
  (l31:K.lookup f31=some ⟨oc31,od31,.func (fnOf "__init__" "Book.__init__" (qal qd2) (qaj qd2) (qab qd2) .none kV31 dc31 pm31 an31 cd31 ct31),sl31⟩)
  (c31:codeIn K cd31 "Book.__init__" = true)
  (k31:keepIn K (.ref f31)=true)
  (a32:PySem.W.findIn K (.ref C_Book) "enrol" = some (some (.ref f32)))
  (i32:PySem.W.isFn K (.ref f32)=true)
  (l32:K.lookup f32=some ⟨oc32,od32,.func (fnOf "enrol" "Book.enrol" (qal qcn) (qaj qcn) (qab qcn) (.ref dT32) kV32 dc32 pm32 an32 cd32 ct32),sl32⟩)
  (c32:codeIn K cd32 "Book.enrol" = true)
  (k32:keepIn K (.ref f32)=true)
  (d32:K.lookup dT32=some ⟨dk32,dd32,.seq #[.none] dn32,ds32⟩)
  (a33:PySem.W.findIn K (.ref C_Book) "check_enrolled" = some (some (.ref f33)))
  (i33:PySem.W.isFn K (.ref f33)=true)
  (l33:K.lookup f33=some ⟨oc33,od33,.func (fnOf "check_enrolled" "Book.check_enrolled" (qal qbe) (qaj qbe) (qab qbe) .none kV33 dc33 pm33 an33 cd33 ct33),sl33⟩)
  (c33:codeIn K cd33 "Book.check_enrolled" = true)
  (k33:keepIn K (.ref f33)=true)
  (a34:PySem.W.findIn K (.ref C_Book) "own_roll" = some (some (.ref f34)))
  (i34:PySem.W.isFn K (.ref f34)=true)
  (l34:K.lookup f34=some ⟨oc34,od34,.func (fnOf "own_roll" "Book.own_roll" (qal qb7) (qaj qb7) (qab qb7) .none kV34 dc34 pm34 an34 cd34 ct34),sl34⟩)
  (c34:codeIn K cd34 "Book.own_roll" = true)
  (k34:keepIn K (.ref f34)=true)
  (a35:PySem.W.findIn K (.ref C_Book) "put" = some (some (.ref f35)))
  (i35:PySem.W.isFn K (.ref f35)=true)
  (l35:K.lookup f35=some ⟨oc35,od35,.func (fnOf "put" "Book.put" (qal qdw) (qaj qdw) (qab qdw) (.ref dT35) kV35 dc35 pm35 an35 cd35 ct35),sl35⟩)
  (c35:codeIn K cd35 "Book.put" = true)
  (k35:keepIn K (.ref f35)=true)
  (d35:K.lookup dT35=some ⟨dk35,dd35,.seq #[.int 1 dt35] dn35,ds35⟩)
  (a36:PySem.W.findIn K (.ref C_Book) "rule" = some (some (.ref f36)))
  (i36:PySem.W.isFn K (.ref f36)=true)
  (l36:K.lookup f36=some ⟨oc36,od36,.func (fnOf "rule" "Book.rule" (qal qd3) (qaj qd3) (qab qd3) .none kV36 dc36 pm36 an36 cd36 ct36),sl36⟩)
  (c36:codeIn K cd36 "Book.rule" = true)
  (k36:keepIn K (.ref f36)=true)
  (a37:PySem.W.findIn K (.ref C_Book) "day" = some (some (.ref f37)))
  (i37:PySem.W.isFn K (.ref f37)=true)
  (l37:K.lookup f37=some ⟨oc37,od37,.func (fnOf "day" "Book.day" (qal qev) (qaj qev) (qab qev) .none kV37 dc37 pm37 an37 cd37 ct37),sl37⟩)
  (c37:codeIn K cd37 "Book.day" = true)
  (k37:keepIn K (.ref f37)=true)
  (a38:PySem.W.findIn K (.ref C_Book) "edges" = some (some (.ref f38)))
  (i38:PySem.W.isFn K (.ref f38)=true)
  (l38:K.lookup f38=some ⟨oc38,od38,.func (fnOf "edges" "Book.edges" (qal qda) (qaj qda) (qab qda) .none kV38 dc38 pm38 an38 cd38 ct38),sl38⟩)
  (c38:codeIn K cd38 "Book.edges" = true)
  (k38:keepIn K (.ref f38)=true)
  (a39:PySem.W.findIn K (.ref C_Book) "names" = some (some (.ref f39)))
  (i39:PySem.W.isFn K (.ref f39)=true)
  (l39:K.lookup f39=some ⟨oc39,od39,.func (fnOf "names" "Book.names" (qal qdb) (qaj qdb) (qab qdb) .none kV39 dc39 pm39 an39 cd39 ct39),sl39⟩)
  (c39:codeIn K cd39 "Book.names" = true)
  (k39:keepIn K (.ref f39)=true)
  (a40:PySem.W.findIn K (.ref C_Book) "marks" = some (some (.ref f40)))
  (i40:PySem.W.isFn K (.ref f40)=true)
  (l40:K.lookup f40=some ⟨oc40,od40,.func (fnOf "marks" "Book.marks" (qal qdc) (qaj qdc) (qab qdc) .none kV40 dc40 pm40 an40 cd40 ct40),sl40⟩)
  (c40:codeIn K cd40 "Book.marks" = true)
  (k40:keepIn K (.ref f40)=true)
  (a41:nsIn K mainGlobals "begun_book" = some (some (.ref f41)))
  (l41:K.lookup f41=some ⟨oc41,od41,.func (fnOf "begun_book" "begun_book" (qal qdd) (qaj qdd) (qab qdd) .none kV41 dc41 pm41 an41 cd41 ct41),sl41⟩)
  (c41:codeIn K cd41 "begun_book" = true)
  (k41:keepIn K (.ref f41)=true)
  (a42:nsIn K mainGlobals "moved" = some (some (.ref f42)))
  (l42:K.lookup f42=some ⟨oc42,od42,.func (fnOf "moved" "moved" (qal qin) (qaj qin) (qab qin) .none kV42 dc42 pm42 an42 cd42 ct42),sl42⟩)
  (c42:codeIn K cd42 "moved" = true)
  (k42:keepIn K (.ref f42)=true)
  (a43:nsIn K mainGlobals "aged_book" = some (some (.ref f43)))
  (l43:K.lookup f43=some ⟨oc43,od43,.func (fnOf "aged_book" "aged_book" (qal qd4) (qaj qd4) (qab qd4) .none kV43 dc43 pm43 an43 cd43 ct43),sl43⟩)
  (c43:codeIn K cd43 "aged_book" = true)
  (k43:keepIn K (.ref f43)=true)
  (a44:nsIn K mainGlobals "book_of" = some (some (.ref f44)))
  (l44:K.lookup f44=some ⟨oc44,od44,.func (fnOf "book_of" "book_of" (qal qfk) (qaj qfk) (qab qfk) .none kV44 dc44 pm44 an44 cd44 ct44),sl44⟩)
  (c44:codeIn K cd44 "book_of" = true)
  (k44:keepIn K (.ref f44)=true)
  (a45:nsIn K mainGlobals "told" = some (some (.ref f45)))
  (l45:K.lookup f45=some ⟨oc45,od45,.func (fnOf "told" "told" (qal qlt) (qaj qlt) (qab qlt) .none kV45 dc45 pm45 an45 cd45 ct45),sl45⟩)
  (c45:codeIn K cd45 "told" = true)
  (k45:keepIn K (.ref f45)=true)
  (a46:nsIn K mainGlobals "_law_cell_at" = some (some (.ref f46)))
  (l46:K.lookup f46=some ⟨oc46,od46,.func (fnOf "_law_cell_at" "_law_cell_at" (qal qcf) (qaj qcf) (qab qcf) .none kV46 dc46 pm46 an46 cd46 ct46),sl46⟩)
  (c46:codeIn K cd46 "_law_cell_at" = true)
  (k46:keepIn K (.ref f46)=true)
  (a47:nsIn K mainGlobals "_law_mixed" = some (some (.ref f47)))
  (l47:K.lookup f47=some ⟨oc47,od47,.func (fnOf "_law_mixed" "_law_mixed" (qal qde) (qaj qde) (qab qde) .none kV47 dc47 pm47 an47 cd47 ct47),sl47⟩)
  (c47:codeIn K cd47 "_law_mixed" = true)
  (k47:keepIn K (.ref f47)=true)
  (a48:nsIn K mainGlobals "_law_name" = some (some (.ref f48)))
  (l48:K.lookup f48=some ⟨oc48,od48,.func (fnOf "_law_name" "_law_name" (qal qd5) (qaj qd5) (qab qd5) .none kV48 dc48 pm48 an48 cd48 ct48),sl48⟩)
  (c48:codeIn K cd48 "_law_name" = true)
  (k48:keepIn K (.ref f48)=true)
  (a49:nsIn K mainGlobals "_law_mark" = some (some (.ref f49)))
  (l49:K.lookup f49=some ⟨oc49,od49,.func (fnOf "_law_mark" "_law_mark" (qal qd6) (qaj qd6) (qab qd6) .none kV49 dc49 pm49 an49 cd49 ct49),sl49⟩)
  (c49:codeIn K cd49 "_law_mark" = true)
  (k49:keepIn K (.ref f49)=true)
  (a50:nsIn K mainGlobals "_law_rule" = some (some (.ref f50)))
  (l50:K.lookup f50=some ⟨oc50,od50,.func (fnOf "_law_rule" "_law_rule" (qal qd7) (qaj qd7) (qab qd7) .none kV50 dc50 pm50 an50 cd50 ct50),sl50⟩)
  (c50:codeIn K cd50 "_law_rule" = true)
  (k50:keepIn K (.ref f50)=true)
  (a51:nsIn K mainGlobals "_law_time" = some (some (.ref f51)))
  (l51:K.lookup f51=some ⟨oc51,od51,.func (fnOf "_law_time" "_law_time" (qal qd8) (qaj qd8) (qab qd8) .none kV51 dc51 pm51 an51 cd51 ct51),sl51⟩)
  (c51:codeIn K cd51 "_law_time" = true)
  (k51:keepIn K (.ref f51)=true)
  (a52:nsIn K mainGlobals "_law_value" = some (some (.ref f52)))
  (l52:K.lookup f52=some ⟨oc52,od52,.func (fnOf "_law_value" "_law_value" (qal qdf) (qaj qdf) (qab qdf) .none kV52 dc52 pm52 an52 cd52 ct52),sl52⟩)
  (c52:codeIn K cd52 "_law_value" = true)
  (k52:keepIn K (.ref f52)=true)
  (a53:nsIn K mainGlobals "_law_many" = some (some (.ref f53)))
  (l53:K.lookup f53=some ⟨oc53,od53,.func (fnOf "_law_many" "_law_many" (qal qd9) (qaj qd9) (qab qd9) .none kV53 dc53 pm53 an53 cd53 ct53),sl53⟩)
  (c53:codeIn K cd53 "_law_many" = true)
  (k53:keepIn K (.ref f53)=true)
  (a54:nsIn K mainGlobals "_law_readings" = some (some (.ref f54)))
  (l54:K.lookup f54=some ⟨oc54,od54,.func (fnOf "_law_readings" "_law_readings" (qal qb8) (qaj qb8) (qab qb8) .none kV54 dc54 pm54 an54 cd54 ct54),sl54⟩)
  (c54:codeIn K cd54 "_law_readings" = true)
  (k54:keepIn K (.ref f54)=true)
  (a55:nsIn K mainGlobals "_law_edges" = some (some (.ref f55)))
  (l55:K.lookup f55=some ⟨oc55,od55,.func (fnOf "_law_edges" "_law_edges" (qal qdg) (qaj qdg) (qab qdg) .none kV55 dc55 pm55 an55 cd55 ct55),sl55⟩)
  (c55:codeIn K cd55 "_law_edges" = true)
  (k55:keepIn K (.ref f55)=true)
  (a56:nsIn K mainGlobals "_law_backward" = some (some (.ref f56)))
  (l56:K.lookup f56=some ⟨oc56,od56,.func (fnOf "_law_backward" "_law_backward" (qal qb9) (qaj qb9) (qab qb9) .none kV56 dc56 pm56 an56 cd56 ct56),sl56⟩)
  (c56:codeIn K cd56 "_law_backward" = true)
  (k56:keepIn K (.ref f56)=true)
  (a57:nsIn K mainGlobals "_law_right" = some (some (.ref f57)))
  (l57:K.lookup f57=some ⟨oc57,od57,.func (fnOf "_law_right" "_law_right" (qal qdh) (qaj qdh) (qab qdh) .none kV57 dc57 pm57 an57 cd57 ct57),sl57⟩)
  (c57:codeIn K cd57 "_law_right" = true)
  (k57:keepIn K (.ref f57)=true)
  (a58:nsIn K mainGlobals "_law_all_put" = some (some (.ref f58)))
  (l58:K.lookup f58=some ⟨oc58,od58,.func (fnOf "_law_all_put" "_law_all_put" (qal qcg) (qaj qcg) (qab qcg) .none kV58 dc58 pm58 an58 cd58 ct58),sl58⟩)
  (c58:codeIn K cd58 "_law_all_put" = true)
  (k58:keepIn K (.ref f58)=true)
  (a59:nsIn K mainGlobals "_law_apart" = some (some (.ref f59)))
  (l59:K.lookup f59=some ⟨oc59,od59,.func (fnOf "_law_apart" "_law_apart" (qal qdi) (qaj qdi) (qab qdi) .none kV59 dc59 pm59 an59 cd59 ct59),sl59⟩)
  (c59:codeIn K cd59 "_law_apart" = true)
  (k59:keepIn K (.ref f59)=true)
  (a60:nsIn K mainGlobals "law" = some (some (.ref f60)))
  (l60:K.lookup f60=some ⟨oc60,od60,.func (fnOf "law" "law" (qal qpi) (qaj qpi) (qab qpi) .none kV60 dc60 pm60 an60 cd60 ct60),sl60⟩)
  (c60:codeIn K cd60 "law" = true)
  (k60:keepIn K (.ref f60)=true)
  (a61:PySem.W.findIn K (.ref C_Backward) "__init__" = some (some (.ref f61)))
  (i61:PySem.W.isFn K (.ref f61)=true)
  (xi61:qnq K C_Backward f61=true)
  (xh61:PySem.W.hasDictIn K C_Backward=true)
  (xs61:PySem.W.findIn K (.ref C_Backward) "__setattr__" = some (some (.builtin "object.__setattr__")))
  (xn61:PySem.W.findIn K (.ref C_Backward) "last" = some none)
  (l61:K.lookup f61=some ⟨oc61,od61,.func (fnOf "__init__" "Backward.__init__" (qal qca) (qaj qca) (qab qca) .none kV61 dc61 pm61 an61 cd61 ct61),sl61⟩)
  (c61:codeIn K cd61 "Backward.__init__" = true)
  (k61:keepIn K (.ref f61)=true)
  (pgRoll:PySem.W.plainGet K C_Roll Str.empty=true)
  (hdRoll:PySem.W.hasDictIn K C_Roll=true)
  (poRoll:PySem.W.plainOver K C_Roll=true)
  (saRoll:PySem.W.findIn K (.ref C_Roll) "__setattr__" = some (some (.builtin "object.__setattr__")))
  (mkRoll:PySem.W.makesIn K C_Roll=true)
  (kcRoll:keepIn K (.ref C_Roll)=true)
  (nRoll_kept_rule:PySem.W.findIn K (.ref C_Roll) "kept_rule" = some none)
  (nRoll_kept_day:PySem.W.findIn K (.ref C_Roll) "kept_day" = some none)
  (nRoll_kept_edges:PySem.W.findIn K (.ref C_Roll) "kept_edges" = some none)
  (nRoll_whole_ones:PySem.W.findIn K (.ref C_Roll) "whole_ones" = some none)
  (nRoll_cell_heaps:PySem.W.findIn K (.ref C_Roll) "cell_heaps" = some none)
  (pgRule:PySem.W.plainGet K C_Rule Str.empty=true)
  (hdRule:PySem.W.hasDictIn K C_Rule=true)
  (poRule:PySem.W.plainOver K C_Rule=true)
  (saRule:PySem.W.findIn K (.ref C_Rule) "__setattr__" = some (some (.builtin "object.__setattr__")))
  (mkRule:PySem.W.makesIn K C_Rule=true)
  (kcRule:keepIn K (.ref C_Rule)=true)
  (nRule_kept_steps:PySem.W.findIn K (.ref C_Rule) "kept_steps" = some none)
  (nRule_gone_age:PySem.W.findIn K (.ref C_Rule) "gone_age" = some none)
  (pgBook:PySem.W.plainGet K C_Book Str.empty=true)
  (hdBook:PySem.W.hasDictIn K C_Book=true)
  (poBook:PySem.W.plainOver K C_Book=true)
  (saBook:PySem.W.findIn K (.ref C_Book) "__setattr__" = some (some (.builtin "object.__setattr__")))
  (mkBook:PySem.W.makesIn K C_Book=true)
  (kcBook:keepIn K (.ref C_Book)=true)
  (nBook_kept_rule:PySem.W.findIn K (.ref C_Book) "kept_rule" = some none)
  (nBook_kept_day:PySem.W.findIn K (.ref C_Book) "kept_day" = some none)
  (nBook_kept_edges:PySem.W.findIn K (.ref C_Book) "kept_edges" = some none)
  (nBook_kept_marks:PySem.W.findIn K (.ref C_Book) "kept_marks" = some none)
  (nBook_kept_rolls:PySem.W.findIn K (.ref C_Book) "kept_rolls" = some none)
  (xCBookError:nsIn K mainGlobals "BookError" = some (some (.ref C_BookError)))
  (xCNoNumber:nsIn K mainGlobals "NoNumber" = some (some (.ref C_NoNumber)))
  (xCNoRule:nsIn K mainGlobals "NoRule" = some (some (.ref C_NoRule)))
  (xCNoName:nsIn K mainGlobals "NoName" = some (some (.ref C_NoName)))
  (xCNoMark:nsIn K mainGlobals "NoMark" = some (some (.ref C_NoMark)))
  (xEBookError:PySem.W.excIn K C_BookError veMro "ValueError.__new__" = true)
  (xKBookError0:PySem.W.findIn K (.ref C_BookError) "__getattribute__" = some (some (.builtin "BaseException.__getattribute__")))
  (xKBookError1:PySem.W.findIn K (.ref C_BookError) "__getattr__" = some none)
  (xKBookError2:PySem.W.findIn K (.ref C_BookError) "__class__" = some (some (.builtin "object.__class__")))
  (xKBookError3:PySem.W.mroIn K C_BookError (.type "object")=some true)
  (xKBookError4:PySem.W.mroIn K C_BookError (.type "BaseException")=some true)
  (xKBookError5:PySem.W.ktsIn K C_BookError "BaseException" = true)
  (xHBookError_BookError:PySem.W.mroIn K C_BookError (.ref C_BookError)=some true)
  (xIBookError_BookError:PySem.W.kitOne K (.ref C_BookError) (.ref C_BookError)=some true)
  (xIBookError_NoNumber:PySem.W.kitOne K (.ref C_BookError) (.ref C_NoNumber)=some false)
  (xIBookError_NoRule:PySem.W.kitOne K (.ref C_BookError) (.ref C_NoRule)=some false)
  (xIBookError_Backward:PySem.W.kitOne K (.ref C_BookError) (.ref C_Backward)=some false)
  (xIBookError_NoName:PySem.W.kitOne K (.ref C_BookError) (.ref C_NoName)=some false)
  (xIBookError_NoMark:PySem.W.kitOne K (.ref C_BookError) (.ref C_NoMark)=some false)
  (xVBookError:PySem.W.kitOne K (.ref C_BookError) (.type "ValueError")=some true)
  (xENoNumber:PySem.W.excIn K C_NoNumber veMro "ValueError.__new__" = true)
  (xKNoNumber0:PySem.W.findIn K (.ref C_NoNumber) "__getattribute__" = some (some (.builtin "BaseException.__getattribute__")))
  (xKNoNumber1:PySem.W.findIn K (.ref C_NoNumber) "__getattr__" = some none)
  (xKNoNumber2:PySem.W.findIn K (.ref C_NoNumber) "__class__" = some (some (.builtin "object.__class__")))
  (xKNoNumber3:PySem.W.mroIn K C_NoNumber (.type "object")=some true)
  (xKNoNumber4:PySem.W.mroIn K C_NoNumber (.type "BaseException")=some true)
  (xKNoNumber5:PySem.W.ktsIn K C_NoNumber "BaseException" = true)
  (xHNoNumber_BookError:PySem.W.mroIn K C_NoNumber (.ref C_BookError)=some true)
  (xINoNumber_BookError:PySem.W.kitOne K (.ref C_NoNumber) (.ref C_BookError)=some true)
  (xHNoNumber_NoNumber:PySem.W.mroIn K C_NoNumber (.ref C_NoNumber)=some true)
  (xINoNumber_NoNumber:PySem.W.kitOne K (.ref C_NoNumber) (.ref C_NoNumber)=some true)
  (xINoNumber_NoRule:PySem.W.kitOne K (.ref C_NoNumber) (.ref C_NoRule)=some false)
  (xINoNumber_Backward:PySem.W.kitOne K (.ref C_NoNumber) (.ref C_Backward)=some false)
  (xINoNumber_NoName:PySem.W.kitOne K (.ref C_NoNumber) (.ref C_NoName)=some false)
  (xINoNumber_NoMark:PySem.W.kitOne K (.ref C_NoNumber) (.ref C_NoMark)=some false)
  (xVNoNumber:PySem.W.kitOne K (.ref C_NoNumber) (.type "ValueError")=some true)
  (xENoRule:PySem.W.excIn K C_NoRule veMro "ValueError.__new__" = true)
  (xKNoRule0:PySem.W.findIn K (.ref C_NoRule) "__getattribute__" = some (some (.builtin "BaseException.__getattribute__")))
  (xKNoRule1:PySem.W.findIn K (.ref C_NoRule) "__getattr__" = some none)
  (xKNoRule2:PySem.W.findIn K (.ref C_NoRule) "__class__" = some (some (.builtin "object.__class__")))
  (xKNoRule3:PySem.W.mroIn K C_NoRule (.type "object")=some true)
  (xKNoRule4:PySem.W.mroIn K C_NoRule (.type "BaseException")=some true)
  (xKNoRule5:PySem.W.ktsIn K C_NoRule "BaseException" = true)
  (xHNoRule_BookError:PySem.W.mroIn K C_NoRule (.ref C_BookError)=some true)
  (xINoRule_BookError:PySem.W.kitOne K (.ref C_NoRule) (.ref C_BookError)=some true)
  (xINoRule_NoNumber:PySem.W.kitOne K (.ref C_NoRule) (.ref C_NoNumber)=some false)
  (xHNoRule_NoRule:PySem.W.mroIn K C_NoRule (.ref C_NoRule)=some true)
  (xINoRule_NoRule:PySem.W.kitOne K (.ref C_NoRule) (.ref C_NoRule)=some true)
  (xINoRule_Backward:PySem.W.kitOne K (.ref C_NoRule) (.ref C_Backward)=some false)
  (xINoRule_NoName:PySem.W.kitOne K (.ref C_NoRule) (.ref C_NoName)=some false)
  (xINoRule_NoMark:PySem.W.kitOne K (.ref C_NoRule) (.ref C_NoMark)=some false)
  (xVNoRule:PySem.W.kitOne K (.ref C_NoRule) (.type "ValueError")=some true)
  (xKBackward0:PySem.W.findIn K (.ref C_Backward) "__getattribute__" = some (some (.builtin "BaseException.__getattribute__")))
  (xKBackward1:PySem.W.findIn K (.ref C_Backward) "__getattr__" = some none)
  (xKBackward2:PySem.W.findIn K (.ref C_Backward) "__class__" = some (some (.builtin "object.__class__")))
  (xKBackward3:PySem.W.mroIn K C_Backward (.type "object")=some true)
  (xKBackward4:PySem.W.mroIn K C_Backward (.type "BaseException")=some true)
  (xKBackward5:PySem.W.ktsIn K C_Backward "BaseException" = true)
  (xHBackward_BookError:PySem.W.mroIn K C_Backward (.ref C_BookError)=some true)
  (xIBackward_BookError:PySem.W.kitOne K (.ref C_Backward) (.ref C_BookError)=some true)
  (xIBackward_NoNumber:PySem.W.kitOne K (.ref C_Backward) (.ref C_NoNumber)=some false)
  (xIBackward_NoRule:PySem.W.kitOne K (.ref C_Backward) (.ref C_NoRule)=some false)
  (xHBackward_Backward:PySem.W.mroIn K C_Backward (.ref C_Backward)=some true)
  (xIBackward_Backward:PySem.W.kitOne K (.ref C_Backward) (.ref C_Backward)=some true)
  (xIBackward_NoName:PySem.W.kitOne K (.ref C_Backward) (.ref C_NoName)=some false)
  (xIBackward_NoMark:PySem.W.kitOne K (.ref C_Backward) (.ref C_NoMark)=some false)
  (xVBackward:PySem.W.kitOne K (.ref C_Backward) (.type "ValueError")=some true)
  (xENoName:PySem.W.excIn K C_NoName veMro "ValueError.__new__" = true)
  (xKNoName0:PySem.W.findIn K (.ref C_NoName) "__getattribute__" = some (some (.builtin "BaseException.__getattribute__")))
  (xKNoName1:PySem.W.findIn K (.ref C_NoName) "__getattr__" = some none)
  (xKNoName2:PySem.W.findIn K (.ref C_NoName) "__class__" = some (some (.builtin "object.__class__")))
  (xKNoName3:PySem.W.mroIn K C_NoName (.type "object")=some true)
  (xKNoName4:PySem.W.mroIn K C_NoName (.type "BaseException")=some true)
  (xKNoName5:PySem.W.ktsIn K C_NoName "BaseException" = true)
  (xHNoName_BookError:PySem.W.mroIn K C_NoName (.ref C_BookError)=some true)
  (xINoName_BookError:PySem.W.kitOne K (.ref C_NoName) (.ref C_BookError)=some true)
  (xINoName_NoNumber:PySem.W.kitOne K (.ref C_NoName) (.ref C_NoNumber)=some false)
  (xINoName_NoRule:PySem.W.kitOne K (.ref C_NoName) (.ref C_NoRule)=some false)
  (xINoName_Backward:PySem.W.kitOne K (.ref C_NoName) (.ref C_Backward)=some false)
  (xHNoName_NoName:PySem.W.mroIn K C_NoName (.ref C_NoName)=some true)
  (xINoName_NoName:PySem.W.kitOne K (.ref C_NoName) (.ref C_NoName)=some true)
  (xINoName_NoMark:PySem.W.kitOne K (.ref C_NoName) (.ref C_NoMark)=some false)
  (xVNoName:PySem.W.kitOne K (.ref C_NoName) (.type "ValueError")=some true)
  (xENoMark:PySem.W.excIn K C_NoMark veMro "ValueError.__new__" = true)
  (xKNoMark0:PySem.W.findIn K (.ref C_NoMark) "__getattribute__" = some (some (.builtin "BaseException.__getattribute__")))
  (xKNoMark1:PySem.W.findIn K (.ref C_NoMark) "__getattr__" = some none)
  (xKNoMark2:PySem.W.findIn K (.ref C_NoMark) "__class__" = some (some (.builtin "object.__class__")))
  (xKNoMark3:PySem.W.mroIn K C_NoMark (.type "object")=some true)
  (xKNoMark4:PySem.W.mroIn K C_NoMark (.type "BaseException")=some true)
  (xKNoMark5:PySem.W.ktsIn K C_NoMark "BaseException" = true)
  (xHNoMark_BookError:PySem.W.mroIn K C_NoMark (.ref C_BookError)=some true)
  (xINoMark_BookError:PySem.W.kitOne K (.ref C_NoMark) (.ref C_BookError)=some true)
  (xINoMark_NoNumber:PySem.W.kitOne K (.ref C_NoMark) (.ref C_NoNumber)=some false)
  (xINoMark_NoRule:PySem.W.kitOne K (.ref C_NoMark) (.ref C_NoRule)=some false)
  (xINoMark_Backward:PySem.W.kitOne K (.ref C_NoMark) (.ref C_Backward)=some false)
  (xINoMark_NoName:PySem.W.kitOne K (.ref C_NoMark) (.ref C_NoName)=some false)
  (xHNoMark_NoMark:PySem.W.mroIn K C_NoMark (.ref C_NoMark)=some true)
  (xINoMark_NoMark:PySem.W.kitOne K (.ref C_NoMark) (.ref C_NoMark)=some true)
  (xVNoMark:PySem.W.kitOne K (.ref C_NoMark) (.type "ValueError")=some true)
  (xBBookError0:PySem.W.specialIn K (.ref C_BookError) "__getattribute__" = some (some (.builtin "type.__getattribute__")))
  (xBBookError1:PySem.W.readsIn K C_BookError (.type "type")=true)
  (xBBookError2:PySem.W.findCls K (.ref C_BookError) (.type "type") "__init__" = some (.val (.builtin "ValueError.__init__")))
  (z_all:nsIn K mainGlobals "all" = some none)
  (z_bool:nsIn K mainGlobals "bool" = some none)
  (z_int:nsIn K mainGlobals "int" = some none)
  (z_isinstance:nsIn K mainGlobals "isinstance" = some none)
  (z_len:nsIn K mainGlobals "len" = some none)
  (z_list:nsIn K mainGlobals "list" = some none)
  (z_max:nsIn K mainGlobals "max" = some none)
  (z_min:nsIn K mainGlobals "min" = some none)
  (z_range:nsIn K mainGlobals "range" = some none)
  (z_set:nsIn K mainGlobals "set" = some none)
  (z_sorted:nsIn K mainGlobals "sorted" = some none)
  (z_str:nsIn K mainGlobals "str" = some none)
  (z_sum:nsIn K mainGlobals "sum" = some none)
  (z_tuple:nsIn K mainGlobals "tuple" = some none)
  (z_zip:nsIn K mainGlobals "zip" = some none)
  (y_MOST_STEPS:nsIn K mainGlobals "MOST_STEPS" = some (some (.int 5 t_MOST_STEPS)))
  (y_LETTERS:nsIn K mainGlobals "LETTERS" = some (some (.str "abcdefghijklmnopqrstuvwxyz" t_LETTERS)))
  (y_LONGEST_NAME:nsIn K mainGlobals "LONGEST_NAME" = some (some (.int 12 t_LONGEST_NAME)))
  (y_LONGEST_MARK:nsIn K mainGlobals "LONGEST_MARK" = some (some (.int 8 t_LONGEST_MARK)))
  (y_MOST_MARKS:nsIn K mainGlobals "MOST_MARKS" = some (some (.int 8 t_MOST_MARKS))):∃ C_Roll C_Rule C_Book C_BookError C_NoNumber C_NoRule C_Backward C_NoName C_NoMark,Txt K mg C_Roll C_Rule C_Book C_BookError C_NoNumber C_NoRule C_Backward C_NoName C_NoMark:=by
 refine ⟨C_Roll,C_Rule,C_Book,C_BookError,C_NoNumber,C_NoRule,C_Backward,C_NoName,C_NoMark,?_⟩;exact ⟨⟨f0,_,qar l0 c0 k0,Bf X G a0⟩,
  ⟨f1,_,qar l1 c1 k1,Bf X G a1⟩,
  ⟨f2,_,qar l2 c2 k2,Bf X G a2⟩,
  ⟨f3,_,qar l3 c3 k3,Bf X G a3⟩,
  ⟨f4,_,qar l4 c4 k4,Bf X G a4⟩,
  ⟨f5,_,qar l5 c5 k5,Bf X G a5⟩,
  ⟨f6,_,qar l6 c6 k6,Bf X G a6⟩,
  ⟨f7,_,qar l7 c7 k7,Bf X G a7⟩,
  ⟨f8,_,qar l8 c8 k8,Bf X G a8⟩,
  ⟨f9,_,qar l9 c9 k9,Bf X G a9⟩,
  ⟨f10,_,qar l10 c10 k10,Bf X G a10⟩,
  ⟨f11,_,qar l11 c11 k11,⟨mkRoll,a11,i11,kcRoll⟩⟩,
  ⟨f12,_,dT12,_,_,dt12,⟨⟨_,_,_,_,_,_,_,_,_,rfl,l12,c12⟩,k12⟩,⟨a12,i12,k12⟩,rfl,d12,rfl⟩,
  ⟨f13,_,qar l13 c13 k13,⟨a13,i13,k13⟩⟩,
  ⟨f14,_,qar l14 c14 k14,⟨a14,i14,k14⟩⟩,
  ⟨f15,_,qar l15 c15 k15,⟨a15,i15,k15⟩⟩,
  ⟨f16,_,qar l16 c16 k16,⟨a16,i16,k16⟩⟩,
  ⟨f17,_,qar l17 c17 k17,⟨a17,i17,k17⟩⟩,
  ⟨f18,_,qar l18 c18 k18,Bf X G a18⟩,
  ⟨f19,_,qar l19 c19 k19,Bf X G a19⟩,
  ⟨f20,_,qar l20 c20 k20,Bf X G a20⟩,
  ⟨f21,_,qar l21 c21 k21,Bf X G a21⟩,
  ⟨f22,_,qar l22 c22 k22,Bf X G a22⟩,
  ⟨f23,_,qar l23 c23 k23,Bf X G a23⟩,
  ⟨f24,_,dT24,_,_,⟨⟨_,_,_,_,_,_,_,_,_,rfl,l24,c24⟩,k24⟩,⟨mkRule,a24,i24,kcRule⟩,rfl,d24,rfl⟩,
  ⟨f25,_,qar l25 c25 k25,⟨a25,i25,k25⟩⟩,
  ⟨f26,_,qar l26 c26 k26,⟨a26,i26,k26⟩⟩,
  ⟨f27,_,qar l27 c27 k27,Bf X G a27⟩,
  ⟨f28,_,qar l28 c28 k28,Bf X G a28⟩,
  ⟨f29,_,qar l29 c29 k29,Bf X G a29⟩,
  ⟨f30,_,qar l30 c30 k30,Bf X G a30⟩,
  ⟨f31,_,qar l31 c31 k31,⟨mkBook,a31,i31,kcBook⟩⟩,
  ⟨f32,_,dT32,_,_,⟨⟨_,_,_,_,_,_,_,_,_,rfl,l32,c32⟩,k32⟩,⟨a32,i32,k32⟩,rfl,d32,rfl⟩,
  ⟨f33,_,qar l33 c33 k33,⟨a33,i33,k33⟩⟩,
  ⟨f34,_,qar l34 c34 k34,⟨a34,i34,k34⟩⟩,
  ⟨f35,_,dT35,_,_,dt35,⟨⟨_,_,_,_,_,_,_,_,_,rfl,l35,c35⟩,k35⟩,⟨a35,i35,k35⟩,rfl,d35,rfl⟩,
  ⟨f36,_,qar l36 c36 k36,⟨a36,i36,k36⟩⟩,
  ⟨f37,_,qar l37 c37 k37,⟨a37,i37,k37⟩⟩,
  ⟨f38,_,qar l38 c38 k38,⟨a38,i38,k38⟩⟩,
  ⟨f39,_,qar l39 c39 k39,⟨a39,i39,k39⟩⟩,
  ⟨f40,_,qar l40 c40 k40,⟨a40,i40,k40⟩⟩,
  ⟨f41,_,qar l41 c41 k41,Bf X G a41⟩,
  ⟨f42,_,qar l42 c42 k42,Bf X G a42⟩,
  ⟨f43,_,qar l43 c43 k43,Bf X G a43⟩,
  ⟨f44,_,qar l44 c44 k44,Bf X G a44⟩,
  ⟨f45,_,qar l45 c45 k45,Bf X G a45⟩,
  ⟨f46,_,qar l46 c46 k46,Bf X G a46⟩,
  ⟨f47,_,qar l47 c47 k47,Bf X G a47⟩,
  ⟨f48,_,qar l48 c48 k48,Bf X G a48⟩,
  ⟨f49,_,qar l49 c49 k49,Bf X G a49⟩,
  ⟨f50,_,qar l50 c50 k50,Bf X G a50⟩,
  ⟨f51,_,qar l51 c51 k51,Bf X G a51⟩,
  ⟨f52,_,qar l52 c52 k52,Bf X G a52⟩,
  ⟨f53,_,qar l53 c53 k53,Bf X G a53⟩,
  ⟨f54,_,qar l54 c54 k54,Bf X G a54⟩,
  ⟨f55,_,qar l55 c55 k55,Bf X G a55⟩,
  ⟨f56,_,qar l56 c56 k56,Bf X G a56⟩,
  ⟨f57,_,qar l57 c57 k57,Bf X G a57⟩,
  ⟨f58,_,qar l58 c58 k58,Bf X G a58⟩,
  ⟨f59,_,qar l59 c59 k59,Bf X G a59⟩,
  ⟨f60,_,qar l60 c60 k60,Bf X G a60⟩,
  ⟨f61,_,qar l61 c61 k61,⟨xi61,i61,⟨xKBackward0,xKBackward1,xKBackward2,xKBackward3,xKBackward4,xKBackward5⟩,xh61,xs61,xn61⟩⟩,
  ⟨pgRoll,hdRoll,poRoll,saRoll⟩,
  Bf X G aCRoll,
  nRoll_kept_rule,
  nRoll_kept_day,
  nRoll_kept_edges,
  nRoll_whole_ones,
  nRoll_cell_heaps,
  ⟨pgRule,hdRule,poRule,saRule⟩,
  Bf X G aCRule,
  nRule_kept_steps,
  nRule_gone_age,
  ⟨pgBook,hdBook,poBook,saBook⟩,
  Bf X G aCBook,
  nBook_kept_rule,
  nBook_kept_day,
  nBook_kept_edges,
  nBook_kept_marks,
  nBook_kept_rolls,
  Bf X G xCBookError,
  Bf X G xCNoNumber,
  Bf X G xCNoRule,
  Bf X G xCBackward,
  Bf X G xCNoName,
  Bf X G xCNoMark,
  xEBookError,
  ⟨xKBookError0,xKBookError1,xKBookError2,xKBookError3,xKBookError4,xKBookError5⟩,
  xHBookError_BookError,
  xIBookError_BookError,
  xIBookError_NoNumber,
  xIBookError_NoRule,
  xIBookError_Backward,
  xIBookError_NoName,
  xIBookError_NoMark,
  xVBookError,
  xENoNumber,
  ⟨xKNoNumber0,xKNoNumber1,xKNoNumber2,xKNoNumber3,xKNoNumber4,xKNoNumber5⟩,
  xHNoNumber_BookError,
  xINoNumber_BookError,
  xHNoNumber_NoNumber,
  xINoNumber_NoNumber,
  xINoNumber_NoRule,
  xINoNumber_Backward,
  xINoNumber_NoName,
  xINoNumber_NoMark,
  xVNoNumber,
  xENoRule,
  ⟨xKNoRule0,xKNoRule1,xKNoRule2,xKNoRule3,xKNoRule4,xKNoRule5⟩,
  xHNoRule_BookError,
  xINoRule_BookError,
  xINoRule_NoNumber,
  xHNoRule_NoRule,
  xINoRule_NoRule,
  xINoRule_Backward,
  xINoRule_NoName,
  xINoRule_NoMark,
  xVNoRule,
  ⟨xKBackward0,xKBackward1,xKBackward2,xKBackward3,xKBackward4,xKBackward5⟩,
  xHBackward_BookError,
  xIBackward_BookError,
  xIBackward_NoNumber,
  xIBackward_NoRule,
  xHBackward_Backward,
  xIBackward_Backward,
  xIBackward_NoName,
  xIBackward_NoMark,
  xVBackward,
  xENoName,
  ⟨xKNoName0,xKNoName1,xKNoName2,xKNoName3,xKNoName4,xKNoName5⟩,
  xHNoName_BookError,
  xINoName_BookError,
  xINoName_NoNumber,
  xINoName_NoRule,
  xINoName_Backward,
  xHNoName_NoName,
  xINoName_NoName,
  xINoName_NoMark,
  xVNoName,
  xENoMark,
  ⟨xKNoMark0,xKNoMark1,xKNoMark2,xKNoMark3,xKNoMark4,xKNoMark5⟩,
  xHNoMark_BookError,
  xINoMark_BookError,
  xINoMark_NoNumber,
  xINoMark_NoRule,
  xINoMark_Backward,
  xINoMark_NoName,
  xHNoMark_NoMark,
  xINoMark_NoMark,
  xVNoMark,
  ⟨xBBookError0,xBBookError1,xBBookError2⟩,
  AR X G z_all,
  AR X G z_bool,
  AR X G z_int,
  AR X G z_isinstance,
  AR X G z_len,
  AR X G z_list,
  AR X G z_max,
  AR X G z_min,
  AR X G z_range,
  AR X G z_set,
  AR X G z_sorted,
  AR X G z_str,
  AR X G z_sum,
  AR X G z_tuple,
  AR X G z_zip,
  ⟨_,Bf X G y_MOST_STEPS⟩,
  ⟨_,Bf X G y_LETTERS⟩,
  ⟨_,Bf X G y_LONGEST_NAME⟩,
  ⟨_,Bf X G y_LONGEST_MARK⟩,
  ⟨_,Bf X G y_MOST_MARKS⟩⟩
section
variable {P:Program} {w:World} {K:Frag} {mg:Str->Option Value} {base:Heap} {C_Roll C_Rule C_Book C_BookError C_NoNumber C_NoRule C_Backward C_NoName C_NoMark:Addr}
theorem qgw (T:Txt K mg C_Roll C_Rule C_Book C_BookError C_NoNumber C_NoRule C_Backward C_NoName C_NoMark):qbv P w K mg base 1 "is_whole" ["thing"] qms:=by
 obtain ⟨f,fd,F,hm⟩:=T.f_is_whole;have nd:=sc_is_whole.nd;refine F.def_ hm (F.ok sc_is_whole (λvs H Q E h=>?_) (λcdv A outer s H vs Q E hr h=>?_)) (F.binds λ_ _ _ _ _ _ us hl=>by obtain ⟨_,rfl⟩:=L2.lq1 hl;rfl)
 ·obtain ⟨x,rfl,_⟩:=h;rfl
 ·obtain ⟨x,rfl,i,rfl,q⟩:=h
  refine ⟨_,(qaf (qan (qfx (qas qhj rfl T.b_isinstance qcc (qaa (pv 0) (qaa (qjq (v:=.ty "int") rfl T.b_int qyn rfl) qac))) (qi7 (qud (qas qhj rfl T.b_isinstance qcc (qaa (pv 0) (qaa (qjq (v:=.ty "bool") rfl T.b_bool qvz rfl) qac)))))))),?_⟩;refine ⟨_,rfl,_,_,_,true,rfl,.int i,qhx _,_,rfl,qe1 ?_⟩;exact ⟨_,rfl,_,_,_,false,rfl,.int i,qg0 _,_,rfl,q⟩
theorem qr7 (T:Txt K mg C_Roll C_Rule C_Book C_BookError C_NoNumber C_NoRule C_Backward C_NoName C_NoMark):qbv P w K mg base 2 "is_step" ["thing"] qo7:=by
 obtain ⟨f,fd,F,hm⟩:=T.f_is_step;have nd:=sc_is_step.nd;refine F.def_ hm (F.ok sc_is_step (λvs H Q E h=>?_) (λcdv A outer s H vs Q E hr h=>?_)) (F.binds λ_ _ _ _ _ _ us hl=>by obtain ⟨_,rfl⟩:=L2.lq1 hl;rfl)
 ·obtain ⟨x,p,rfl,_⟩:=h;rfl
 ·obtain ⟨x,p,rfl,⟨a,rfl,ha⟩,q⟩:=h
  refine ⟨_,(qaf (qan (qfx (qas qhj rfl T.b_isinstance qcc (qaa (pv 0) (qaa (qjq (v:=.ty "tuple") rfl T.b_tuple qte rfl) qac))) (qfx (qew qjr (qas qbc rfl T.b_len qee (qaa (pv 0) qac)) qae (qay _)) (qfx (qat (qgw T) (hr.mono (by decide)) rfl (qaa (qbb qbl (pv 0) qae (λ_ _=>rfl)) qac)) (qi7 (qat (qgw T) (hr.mono (by decide)) rfl (qaa (qbb qbl (pv 0) qae (λ_ _=>rfl)) qac)))))))),?_⟩;refine ⟨_,rfl,_,_,_,true,rfl,.tup ha,kit_tuple _,_,rfl,qe1 ?_⟩;refine ⟨_,rfl,a,_,rfl,.inr (SqT.of ha),rfl,_,rfl,qe1 ?_⟩;refine ⟨_,rfl,a,_,0,_,rfl,rfl,SqT.of ha,rfl,_,rfl,_,rfl,_,rfl,qe1 ?_⟩;exact ⟨_,rfl,a,_,1,_,rfl,rfl,SqT.of ha,rfl,_,rfl,_,rfl,q⟩
theorem qhf (T:Txt K mg C_Roll C_Rule C_Book C_BookError C_NoNumber C_NoRule C_Backward C_NoName C_NoMark):qbv P w K mg base 3 "check_one_step" ["step"] qgs:=by
 obtain ⟨f,fd,F,hm⟩:=T.f_check_one_step;have nd:=sc_check_one_step.nd;refine F.def_ hm (F.ok sc_check_one_step (λvs H Q E h=>?_) (λcdv A outer s H vs Q E hr h=>?_)) (F.binds λ_ _ _ _ _ _ us hl=>by obtain ⟨_,rfl⟩:=L2.lq1 hl;rfl)
 ·obtain ⟨x,p,rfl,_⟩:=h;rfl
 ·obtain ⟨x,p,rfl,hp,h1,h2,q⟩:=h
  obtain ⟨a,rfl,ha⟩:=id hp;refine ⟨_,(qad (qbs (qe5 (qez (qat (qr7 T) (hr.mono (by decide)) rfl (qaa (pv 0) qac))))
    (qaf qeb)
    qau)
   (qad (qbs (qav qjs (qbb qbl (pv 0) qae (λ_ _=>rfl)) qae (qay _))
    (qaf qeb)
    qau)
   (qaf (qbs (qav qjs (qbb qbl (pv 0) qae (λ_ _=>rfl)) qae (qay _))
    (qaf qeb)
    qau)))),?_⟩
  refine ⟨_,rfl,_,p,rfl,hp,_,rfl,qf0 ?_⟩;refine ⟨_,rfl,a,_,0,_,rfl,rfl,SqT.of ha,rfl,_,_,rfl,rfl,_,rfl,qjw (λz=>?_) λ_=>?_⟩
  ·exact absurd (AE z) (by omega)
  refine ⟨_,rfl,a,_,1,_,rfl,rfl,SqT.of ha,rfl,_,_,rfl,rfl,_,rfl,qjw (λz=>?_) λ_=>q⟩;exact absurd (AE z) (by omega)
theorem qgx (T:Txt K mg C_Roll C_Rule C_Book C_BookError C_NoNumber C_NoRule C_Backward C_NoName C_NoMark):qbv P w K mg base 1 "check_next_step" ["step", "behind"] qeg:=by
 obtain ⟨f,fd,F,hm⟩:=T.f_check_next_step;have nd:=sc_check_next_step.nd;refine F.def_ hm (F.ok sc_check_next_step (λvs H Q E h=>?_) (λcdv A outer s H vs Q E hr h=>?_)) (F.binds λ_ _ _ _ _ _ us hl=>by obtain ⟨_,_,rfl⟩:=L2.lq2 hl;rfl)
 ·obtain ⟨x,y,p,p',rfl,_⟩:=h;rfl
 ·obtain ⟨x,y,p,p',rfl,⟨a,rfl,ha⟩,⟨b,rfl,hb⟩,h0,h1,h2,q⟩:=h
  refine ⟨_,(qad (qbs (qav qjs (qbb qbl (pv 1) qae (λ_ _=>rfl)) (qbb qbl (pv 0) qae (λ_ _=>rfl)) (qay _))
    (qaf qeb)
    qau)
   (qaf (qbs (qav qop (qai qa2 (qbb qbl (pv 1) qae (λ_ _=>rfl)) (qbb qbl (pv 0) qae (λ_ _=>rfl))) qae (qay _))
    (qaf qeb)
    qau))),?_⟩
  refine ⟨_,rfl,b,_,0,_,rfl,rfl,SqT.of hb,rfl,_,rfl,a,_,0,_,rfl,rfl,SqT.of ha,rfl,_,_,rfl,rfl,_,rfl,qjw (λz=>?_) λ_=>?_⟩
  ·exact absurd (AE z) (by omega)
  refine ⟨_,rfl,b,_,1,_,rfl,rfl,SqT.of hb,rfl,_,rfl,a,_,1,_,rfl,rfl,SqT.of ha,rfl,_,_,rfl,rfl,(by show 0<p.2;omega),rfl,_,rfl,?_⟩;refine qyj ?_ q;exact congrArg V.int h2
theorem qkh (T:Txt K mg C_Roll C_Rule C_Book C_BookError C_NoNumber C_NoRule C_Backward C_NoName C_NoMark):qbv P w K mg base 4 "check_steps" ["steps"] qfy:=by
 obtain ⟨f,fd,F,hm⟩:=T.f_check_steps;have nd:=sc_check_steps.nd;refine F.def_ hm (F.ok sc_check_steps (λvs H Q E h=>?_) (λcdv A outer s H vs Q E hr h=>?_)) (F.binds λ_ _ _ _ _ _ us hl=>by obtain ⟨_,rfl⟩:=L2.lq1 hl;rfl)
 ·obtain ⟨l,xs,ps,rfl,_⟩:=h;rfl
 ·obtain ⟨l,xs,ps,rfl,hl,hp,G,q⟩:=h
  have hlen:=hp.length;have g1:=G.lo;have g2:=G.hi;refine ⟨_,(qad (qbs (PW.pt (qkn (qav qjs (qas qbc rfl T.b_len qee (qaa (pv 0) qac)) qae (qay _)) (qhl (qav qvi (qas qbc rfl T.b_len qee (qaa (pv 0) qac)) (qfz (v:=.int 5) rfl T.c_MOST_STEPS.choose_spec ⟨_,rfl⟩) (qay _)))))
    (qaf qeb)
    qau)
   (qad (qec Bb rfl (qbp (pv 0)) (qam (i:=1) nd rfl (Or.inl rfl))
    (qaf (qa9 (qat (qhf T) (hr.mono (by decide)) rfl (qaa (pv 1) qac)))))
   (qaf (qec Bb rfl (qne rfl T.b_zip (qaa (pv 0) (qaa (qcb qef (pv 0) (qco qae) qdo) qac))) (qcx rfl (qap (qam (i:=1) nd rfl (Or.inl rfl)) (qap (qam (i:=2) nd rfl (Or.inl rfl)) qb1)))
    (qaf (qa9 (qat (qgx T) (hr.mono (by decide)) rfl (qaa (pv 1) (qaa (pv 2) qac))))))))),?_⟩
  refine ⟨_,rfl,l,xs,rfl,.inl (SqL.of hl),_,_,rfl,rfl,_,rfl,qjw (λz=>?_) λ_=>?_⟩
  ·exact absurd (AE z) (by omega)
  refine ⟨_,rfl,l,xs,rfl,.inl (SqL.of hl),_,_,rfl,rfl,_,rfl,qjw (λz=>?_) λ_=>?_⟩
  ·exact absurd (AE z) (by omega)
  refine ⟨_,rfl,l,rfl,⟨_,SqL.of hl⟩,qc2 (xs:=xs) (λi σ H2=>H2=H/\∃ v,σ=[some (.ref l),v,none]) ⟨rfl,none,rfl⟩ (λi σ H2 _ h2=>by rw[h2.1];exact SqL.of hl) ?_ ?_⟩
  ·rintro i x σ H2 hi ⟨rfl,v,rfl⟩
   obtain ⟨p,hpi,hx⟩:=hp.get hi;obtain ⟨e1,e2⟩:=G.each i p hpi;exact ⟨_,rfl,_,p,rfl,hx,e1,e2,rfl,_,rfl⟩
  ·rintro σ H2 ⟨rfl,v,rfl⟩
   refine ⟨_,rfl,_,rfl,_,rfl,_,xs,rfl,SqL.of hl,λl2 H3 n3=>?_⟩;refine ⟨l,l2,xs,_,rfl,SqL.of (n3.same _ _ hl),SqL.of n3.at_,qnh (xs:=xs) (ys:=qju xs (some 1) none) (λi σ H4=>Same H3 H4/\∃ u v,σ=[some (.ref l),u,v]) ⟨Same.refl _,_,_,rfl⟩
    (λi σ H4 h4=>⟨SqL.of (h4.1 _ _ (n3.same _ _ hl)),SqL.of (h4.1 _ _ n3.at_)⟩) ?_ ?_⟩
   ·rintro i x y σ H4 p H5 hx hy n5 ⟨s4,u,v',rfl⟩
    obtain ⟨p1,hp1,hx1⟩:=hp.get hx;have hy':xs[i+1]?=some y:=by
     have:qju xs (some 1) none=xs.drop 1:=qCz xs;rw[this,List.getElem?_drop] at hy
     rwa [Nat.add_comm] at hy
    obtain ⟨p2,hp2,hx2⟩:=hp.get hy';obtain ⟨e1,e2⟩:=G.next i p1 p2 hp1 hp2;obtain ⟨_,e3⟩:=G.each i p1 hp1;have s5:Same H2 H5:=n3.same.trans (s4.trans n5.same);refine ⟨p,_,rfl,SqT.of n5.at_,rfl,_,_,rfl,_,_,rfl,rfl,?_⟩;exact ⟨_,rfl,_,rfl,x,y,p1,p2,rfl,hx1.same s5,hx2.same s5,e3,e1,e2,s4.trans n5.same,_,_,rfl⟩
   ·rintro i σ H4 _ ⟨s4,_,_,_⟩
    exact q H4 (n3.same.trans s4)
theorem qlu (T:Txt K mg C_Roll C_Rule C_Book C_BookError C_NoNumber C_NoRule C_Backward C_NoName C_NoMark):qbv P w K mg base 2 "check_gone" ["gone", "last_age"] qj8:=by
 obtain ⟨f,fd,F,hm⟩:=T.f_check_gone;have nd:=sc_check_gone.nd;refine F.def_ hm (F.ok sc_check_gone (λvs H Q E h=>?_) (λcdv A outer s H vs Q E hr h=>?_)) (F.binds λ_ _ _ _ _ _ us hl=>by obtain ⟨_,_,rfl⟩:=L2.lq2 hl;rfl)
 ·obtain ⟨g,last,rfl,_⟩:=h;rfl
 ·obtain ⟨g,last,rfl,hg,q⟩:=h
  refine ⟨_,(qad (qbs (qav qhm (pv 0) qdx (qay _))
    (qaf qvg)
    qau)
   (qaf (qbs (PW.pt (qkn (qe5 (qez (qat (qgw T) (hr.mono (by decide)) rfl (qaa (pv 0) qac)))) (qhl (qav qjs (pv 0) (pv 1) (qay _)))))
    (qaf qeb)
    qau))),?_⟩
  cases g with
  | none=>exact ⟨_,rfl,rfl,_,rfl,qe1 q⟩
  | some z =>
   refine ⟨_,rfl,rfl,_,rfl,qf0 ?_⟩;refine ⟨_,rfl,_,rfl,z,rfl,_,rfl,qf0 ?_⟩;refine ⟨_,rfl,_,rfl,_,_,rfl,rfl,_,rfl,qjw (λy=>?_) λ_=>q⟩;exact absurd (AE y) (by have:=hg z rfl;omega)
theorem qmx (T:Txt K mg C_Roll C_Rule C_Book C_BookError C_NoNumber C_NoRule C_Backward C_NoName C_NoMark):∃ f fd dT o n,qhd P w K mg base CX0 5 f fd ["self", "steps", "gone"] (qj9 C_Rule)/\FunD K "__init__" "Rule.__init__" qc0 (.ref dT) f fd/\Mk K C_Rule f/\fd.defaults=.ref dT/\K.lookup dT=some o/\o.data=.seq #[.none] n:=by
 obtain ⟨f,fd,dT,o,n,F,M,h1,h2,h3⟩:=T.f_Rule_init;have nd:=sc_Rule_init.nd;refine ⟨f,fd,dT,o,n,(F.ok sc_Rule_init (λvs H Q E h=>?_) (λcdv A outer s H vs Q E hr h=>?_)),F,M,h1,h2,h3⟩
 ·obtain ⟨r,dx,l,xs,ps,g,rfl,_⟩:=h;rfl
 ·obtain ⟨r,dx,l,xs,ps,g,rfl,hro,hl,hp,G,hg,k⟩:=h
  have g1:=G.lo;refine ⟨_,(qad (qaw (i:=3) nd rfl (Or.inl rfl) (qb3 qb0 rfl T.b_list qen (qaa (pv 1) qac)))
   (qad (qa9 (qat (qkh T) (hr.mono (by decide)) rfl (qaa (pv 3) qac)))
   (qad (qa9 (qat (qlu T) (hr.mono (by decide)) rfl (qaa (pv 2) (qaa (qbb qbl (qbb qbn (pv 3) (qgm qep qae) (λ_ _=>rfl)) qae (λ_ _=>rfl)) qac))))
   (qad (qcr (pv 0) (pv 3) rfl)
   (qaf (qcr (pv 0) (pv 2) rfl)))))),?_⟩
  refine ⟨_,rfl,l,xs,rfl,.inl (SqL.of hl),λl' H1 n1=>?_⟩;refine ⟨_,rfl,l',xs,ps,rfl,n1.at_,hp.same n1.same,G,λH2 s2=>?_⟩;have hl2:=s2 _ _ n1.at_;have hp2:=(hp.same n1.same).same s2;have hlen:=hp.length;obtain ⟨v,hv⟩:∃ v,xs[xs.length-1]?=some v:=⟨xs[xs.length-1]'(by omega),Ac _⟩;obtain ⟨p,hpv,a,rfl,ha⟩:=hp2.get hv;refine ⟨_,rfl,_,rfl,_,rfl,l',xs,-1,_,rfl,rfl,SqL.of hl2,qlc hv,a,_,0,_,rfl,rfl,SqT.of ha,rfl,g,p.1,rfl,hg p (by rw[<- hlen];exact hpv),?_⟩;have hr2:=s2 _ _ (n1.same _ _ hro);have nrl:r≠l':=qag hro n1.fresh;refine ⟨_,rfl,_,rfl,r,C_Rule,dx,[],rfl,hr2,T.cl_Rule,T.na_Rule_kept_steps,(by show 0<1000;decide),λH3 b3 h3=>?_⟩;refine ⟨_,rfl,_,rfl,r,C_Rule,dx,_,rfl,h3,T.cl_Rule,T.na_Rule_gone_age,(by show 1<1000;decide),λH4 b4 h4=>?_⟩;refine k l' _ n1.fresh ⟨⟨dx,h4⟩,xs,b4 _ _ (b3 _ _ hl2 nrl.symm) nrl.symm,(hp2.but b3 hr2 qeh).but b4 h3 qeh⟩ λb o e hb=>?_
  exact b4 _ _ (b3 _ _ (s2 _ _ (n1.same _ _ e)) hb) hb
theorem qt0 (T:Txt K mg C_Roll C_Rule C_Book C_BookError C_NoNumber C_NoRule C_Backward C_NoName C_NoMark):qAh P w K mg base C_Rule 5 "Rule" ["self", "steps", "gone"] [] (qj9 C_Rule):=by
 obtain ⟨f,fd,dT,o,n,hf,F,M,h1,h2,h3⟩:=qmx (P:=P) (w:=w) (base:=base) T;refine ⟨f,fd,hf,T.mg_Rule,M,qjy h1 h2 h3 λus hl=>?_⟩;obtain ⟨oc,od,kV,doc,pm,an,cdv,ct,osl,rfl,lk,hcd⟩:=F.ex;obtain ⟨_,_,_,rfl⟩:=L2.lq3 (us:=us) (by simpa using hl);exact ⟨_,rfl,rfl⟩
theorem qdj (T:Txt K mg C_Roll C_Rule C_Book C_BookError C_NoNumber C_NoRule C_Backward C_NoName C_NoMark):qgo P w K mg base C_Rule 1 "steps" ["self"] (qld C_Rule):=by
 obtain ⟨f,fd,F,hm⟩:=T.f_Rule_steps;have nd:=sc_Rule_steps.nd;refine ⟨f,fd,(F.ok sc_Rule_steps (λvs H Q E h=>?_) (λcdv A outer s H vs Q E hr h=>?_)),hm,(F.binds λ_ _ _ _ _ _ us hl=>by obtain ⟨_,rfl⟩:=L2.lq1 hl;rfl)⟩
 ·obtain ⟨r,l,ps,g,xs,rfl,_⟩:=h;rfl
 ·obtain ⟨r,l,ps,g,xs,rfl,R,hl,k⟩:=h
  obtain ⟨dx,hob⟩:=R.ob;refine ⟨_,(qaf (qan (qb3 qb0 rfl T.b_list qen (qaa (qbj (pv 0) rfl) qac)))),?_⟩;exact ⟨_,rfl,r,C_Rule,dx,_,_,rfl,hob,T.cl_Rule,T.na_Rule_kept_steps,qrn _ _,l,xs,rfl,.inl (SqL.of hl),k⟩
end
section
variable {P:Program} {w:World} {K:Frag} {mg:Str->Option Value} {base:Heap} {C_Roll C_Rule C_Book C_BookError C_NoNumber C_NoRule C_Backward C_NoName C_NoMark:Addr}
theorem qf6 (T:Txt K mg C_Roll C_Rule C_Book C_BookError C_NoNumber C_NoRule C_Backward C_NoName C_NoMark):qgo P w K mg base C_Rule 1 "gone" ["self"] (qrp C_Rule):=by
 obtain ⟨f,fd,F,hm⟩:=T.f_Rule_gone;have nd:=sc_Rule_gone.nd;refine ⟨f,fd,(F.ok sc_Rule_gone (λvs H Q E h=>?_) (λcdv A outer s H vs Q E hr h=>?_)),hm,(F.binds λ_ _ _ _ _ _ us hl=>by obtain ⟨_,rfl⟩:=L2.lq1 hl;rfl)⟩
 ·obtain ⟨r,l,ps,g,rfl,_⟩:=h;rfl
 ·obtain ⟨r,l,ps,g,rfl,R,q⟩:=h
  obtain ⟨dx,hob⟩:=R.ob;refine ⟨_,(qaf (qan (qbj (pv 0) rfl))),?_⟩;exact ⟨_,rfl,r,C_Rule,dx,_,_,rfl,hob,T.cl_Rule,T.na_Rule_gone_age,qBp _ _,q⟩
end
section
variable {P:Program} {w:World} {K:Frag} {mg:Str->Option Value} {base:Heap} {C_Roll C_Rule C_Book C_BookError C_NoNumber C_NoRule C_Backward C_NoName C_NoMark:Addr}
theorem qio (T:Txt K mg C_Roll C_Rule C_Book C_BookError C_NoNumber C_NoRule C_Backward C_NoName C_NoMark):qbv P w K mg base 1 "floored" ["number", "width"] qo8:=by
 obtain ⟨f,fd,F,hm⟩:=T.f_floored;have nd:=sc_floored.nd;refine F.def_ hm (F.ok sc_floored (λvs H Q E h=>?_) (λcdv A outer s H vs Q E hr h=>?_)) (F.binds λ_ _ _ _ _ _ us hl=>by obtain ⟨_,_,rfl⟩:=L2.lq2 hl;rfl)
 ·obtain ⟨n,w',rfl,_⟩:=h;rfl
 ·obtain ⟨n,w',rfl,h1,h2,h3,h4,q⟩:=h
  have hb:=qwx h1 (by decide:(0:Int)<=10 ^ 46) h3 h4;refine ⟨_,(qaf (qan (qai qcj (qai qjx (pv 0) (pv 1)) (pv 1)))),?_⟩;exact ⟨_,rfl,_,rfl,_,_,rfl,rfl,⟨by omega,by omega⟩,_,rfl,_,_,rfl,rfl,⟨⟨by omega,by omega⟩,by omega,by omega⟩,q⟩
theorem qpj (T:Txt K mg C_Roll C_Rule C_Book C_BookError C_NoNumber C_NoRule C_Backward C_NoName C_NoMark):qbv P w K mg base 2 "gone_cut" ["rule", "day"] (qh7 C_Rule):=by
 obtain ⟨f,fd,F,hm⟩:=T.f_gone_cut;have nd:=sc_gone_cut.nd;refine F.def_ hm (F.ok sc_gone_cut (λvs H Q E h=>?_) (λcdv A outer s H vs Q E hr h=>?_)) (F.binds λ_ _ _ _ _ _ us hl=>by obtain ⟨_,_,rfl⟩:=L2.lq2 hl;rfl)
 ·obtain ⟨r,l,ps,g,d,rfl,_⟩:=h;rfl
 ·obtain ⟨r,l,ps,g,d,rfl,R,Pg,hd,q⟩:=h
  obtain ⟨dx,hob⟩:=R.ob;obtain ⟨xs,hl,hx⟩:=R.ls;have n1:(rf l (gv g)).lookup ("gone" : Str)=none:=qro _ _ (by decide +kernel) (by decide +kernel);have n2:(rf l (gv g)).lookup ("steps" : Str)=none:=qro _ _ (by decide +kernel) (by decide +kernel);obtain ⟨p,hp,ep⟩:=Pg.last;have hlen:=hx.length;refine ⟨_,(qad (qaw (i:=2) nd rfl (Or.inl rfl) (qbw (pv 0) T.cl_Rule (qf6 T) (hr.mono (by decide))))
   (qad (qbs (qav qhm (pv 2) qdx (qay _))
    (qaf (qan qdx))
    qau)
   (qaf (qan (qat (qio T) (hr.mono (by decide)) rfl (qaa (qai qed (pv 1) (pv 2)) (qaa (qbb qbl (qbb qbn (qbw (pv 0) T.cl_Rule (qdj T) (hr.mono (by decide))) (qgm qep qae) (λ_ _=>rfl)) qae (λ_ _=>rfl)) qac))))))),?_⟩
  refine ⟨_,rfl,r,dx,_,rfl,hob,n1,r,l,ps,g,rfl,R,?_⟩
  cases g with
  | none=>exact ⟨_,rfl,rfl,_,rfl,qe1 (q H (Same.refl _))⟩
  | some z =>
   refine ⟨_,rfl,rfl,_,rfl,qf0 ?_⟩;refine ⟨_,rfl,_,rfl,_,_,rfl,rfl,?_⟩;refine ⟨_,rfl,r,dx,_,rfl,hob,n2,r,l,ps,_,xs,rfl,R,hl,λp1 H1 m1=>?_⟩;obtain ⟨v,hv,a,rfl,ha⟩:=hx.get' hp;have hz:=Pg.gb z rfl;have hs:=Pg.size _ p hp;unfold Bd at hd;refine ⟨_,rfl,p1,xs,-1,_,rfl,rfl,SqL.of m1.at_,qlc (by rw[hlen];exact hv),a,_,1,_,rfl,rfl,SqT.of (m1.same _ _ ha),rfl,d-z,p.2,rfl,hs.2.2.1,hs.2.2.2,by omega,by omega,?_⟩;have:=q H1 m1.same;rw[ep] at this;exact this
theorem qjg (T:Txt K mg C_Roll C_Rule C_Book C_BookError C_NoNumber C_NoRule C_Backward C_NoName C_NoMark):qbv P w K mg base 3 "edges_at" ["rule", "day"] (qh8 C_Rule):=by
 obtain ⟨f,fd,F,hm⟩:=T.f_edges_at;have nd:=sc_edges_at.nd;refine F.def_ hm (F.ok sc_edges_at (λvs H Q E h=>?_) (λcdv A outer s H vs Q E hr h=>?_)) (F.binds λ_ _ _ _ _ _ us hl=>by obtain ⟨_,_,rfl⟩:=L2.lq2 hl;rfl)
 ·obtain ⟨r,l,ps,g,d,rfl,_⟩:=h;rfl
 ·obtain ⟨r,l,ps,g,d,rfl,R,Pg,hd,q⟩:=h
  obtain ⟨dx,hob⟩:=R.ob;obtain ⟨xs,hl,hx⟩:=R.ls;have n2:(rf l (gv g)).lookup ("steps" : Str)=none:=qro _ _ (by decide +kernel) (by decide +kernel);have hlen:=hx.length;have h5:=Pg.good.hi;refine ⟨_,(qad (qfs (i:=2) (vars:=["age", "width"]) (frees:=["day"]) (fv:=[1]) nd rfl (Or.inl rfl) rfl (qkz rfl rfl (by decide +kernel) (by decide +kernel) (by intro p hp;simp only[Ai,As,A7] at hp;rcases hp with rfl<;>rfl) rfl) ⟨⟨rfl,.inl rfl,rfl,.inl rfl⟩,trivial⟩ (qbp (qbw (pv 0) T.cl_Rule (qdj T) (hr.mono (by decide)))) (qex (by decide) (by decide)) (λ_ _ _ _=>(qcx rfl (qap (qam (i:=0) (show (["age", "width", "day"]:List Str).Nodup by decide +kernel) rfl (Or.inl rfl)) (qap (qam (i:=1) (show (["age", "width", "day"]:List Str).Nodup by decide +kernel) rfl (Or.inl rfl)) qb1)))) (λ_ _ _ _=>qbt) (λ_ _ _ _=>(qat (qio T) (hr.mono (by decide)) rfl (qaa (qai qed (pv 2) (pv 0)) (qaa (pv 1) qac)))))
   (qaf (qan (qai qj0 (pv 2) (qbx (qaa (qat (qpj T) (hr.mono (by decide)) rfl (qaa (pv 0) (qaa (pv 1) qac))) qac)))))),?_⟩
  refine ⟨_,rfl,r,dx,_,rfl,hob,n2,r,l,ps,g,xs,rfl,R,hl,λp1 H1 m1=>?_⟩;refine ⟨p1,rfl,⟨_,SqL.of m1.at_⟩,qqp (xs:=xs) (λi ys H2=>Same H1 H2/\ys=(ps.take i).map λp=>V.int (cut d p.1 p.2)) (A8 (qa3 (by omega))) ⟨Same.refl _,rfl⟩ (λi ys H2 h2=>⟨SqL.of (h2.1 _ _ m1.at_),by rw[h2.2];simp;omega⟩) ?_ ?_⟩
  ·rintro i x ys H2 hi ⟨s2,rfl⟩
   obtain ⟨p,hpi,a,rfl,ha⟩:=hx.get hi;have hs:=Pg.size i p hpi;unfold Bd at hd;refine ⟨a,_,rfl,SqT.of (s2 _ _ (m1.same _ _ ha)),rfl,_,_,rfl,_,_,rfl,rfl,qnf (qe1 ?_)⟩;refine ⟨_,rfl,_,rfl,_,_,rfl,rfl,_,rfl,d-p.1,p.2,rfl,hs.2.2.1,hs.2.2.2,by omega,by omega,s2,?_⟩;exact (qAj _ ps i p hpi).symm
  ·rintro ys H2 c1 ⟨s2,rfl⟩ hc
   have nc:=qbi (o:=.lst ((ps.take xs.length).map λp=>V.int (cut d p.1 p.2))) hc
   generalize upd H2 c1 _=H3 at nc ⊢
   have s3:Same H H3:=m1.same.trans (s2.trans nc.same);rw[hlen,AO] at nc;refine ⟨_,rfl,_,rfl,_,rfl,r,l,ps,g,d,rfl,R.same s3,Pg,hd,λH4 s4=>⟨by show 1<=sizeLine;decide,λc2 H5 n5=>?_⟩⟩;refine ⟨c1,c2,_,_,rfl,rfl,n5.same _ _ (s4 _ _ nc.at_),n5.at_,A8 (qa3 (by simp;omega)),λz H6 n6=>?_⟩;exact q z H6 (New.after (s3.trans (s4.trans n5.same)) n6)
end
section
variable {P:Program} {w:World} {K:Frag} {mg:Str->Option Value} {base:Heap} {C_Roll C_Rule C_Book C_BookError C_NoNumber C_NoRule C_Backward C_NoName C_NoMark:Addr}
theorem qr8 (T:Txt K mg C_Roll C_Rule C_Book C_BookError C_NoNumber C_NoRule C_Backward C_NoName C_NoMark):qbv P w K mg base 1 "is_gone" ["edges", "time"] qjc:=by
 obtain ⟨f,fd,F,hm⟩:=T.f_is_gone;have nd:=sc_is_gone.nd;refine F.def_ hm (F.ok sc_is_gone (λvs H Q E h=>?_) (λcdv A outer s H vs Q E hr h=>?_)) (F.binds λ_ _ _ _ _ _ us hl=>by obtain ⟨_,_,rfl⟩:=L2.lq2 hl;rfl)
 ·obtain ⟨e,es,ge,t,rfl,_⟩:=h;rfl
 ·obtain ⟨e,es,ge,t,rfl,he,q1,q2⟩:=h
  have hlast:(es.map V.int ++ [gv ge])[(es.map V.int ++ [gv ge]).length-1]?=some (gv ge):=by simp
  refine ⟨_,(qaf (qan (qfx (qew qmg (qbb qbn (pv 0) (qgm qep qae) (λ_ _=>rfl)) qdx (qay _)) (qi7 (qew qjs (pv 1) (qbb qbn (pv 0) (qgm qep qae) (λ_ _=>rfl)) (qay _)))))),?_⟩
  cases ge with
  | none =>
   walk_at "r"
   exact q2 fun ⟨z,e,_⟩=>by cases e
  | some y =>
   walk_at "r"
   show Q (.bl (decide (t<y))) H
   by_cases h:t<y
   ·rw[AF h];exact q1 ⟨y,rfl,h⟩
   ·rw[Ba h];exact q2 fun ⟨z,e,h'⟩=>by cases e;exact h h'
theorem qpk (T:Txt K mg C_Roll C_Rule C_Book C_BookError C_NoNumber C_NoRule C_Backward C_NoName C_NoMark):qbv P w K mg base 2 "width_at" ["rule", "edges", "time"] (qic C_Rule):=by
 obtain ⟨f,fd,F,hm⟩:=T.f_width_at;have nd:=sc_width_at.nd;refine F.def_ hm (F.ok sc_width_at (λvs H Q E h=>?_) (λcdv A outer s H vs Q E hr h=>?_)) (F.binds λ_ _ _ _ _ _ us hl=>by obtain ⟨_,_,_,rfl⟩:=L2.lq3 hl;rfl)
 ·obtain ⟨r,l,ps,g,e,es,ge,t,e0,rfl,_⟩:=h;rfl
 ·obtain ⟨r,l,ps,g,e,es,ge,t,e0,rfl,R,he,hl,h1,h5,h0,hlt,q⟩:=h
  obtain ⟨dx,hob⟩:=R.ob;obtain ⟨xs,hxl,hx⟩:=R.ls;have n2:(rf l (gv g)).lookup ("steps" : Str)=none:=qro _ _ (by decide +kernel) (by decide +kernel);have hlen:=hx.length;refine ⟨_,(qad (qfs (i:=3) (vars:=["step", "edge"]) (frees:=["time"]) (fv:=[2]) nd rfl (Or.inl rfl) rfl (qkz rfl rfl (by decide +kernel) (by decide +kernel) (by intro p hp;simp only[Ai,As,A7] at hp;rcases hp with rfl<;>rfl) rfl) ⟨⟨rfl,.inl rfl,rfl,.inl rfl⟩,trivial⟩ (qne rfl T.b_zip (qaa (qbw (pv 0) T.cl_Rule (qdj T) (hr.mono (by decide))) (qaa (pv 1) qac))) (qex (by decide) (by decide)) (λ_ _ _ _=>(qcx rfl (qap (qam (i:=0) (show (["step", "edge", "time"]:List Str).Nodup by decide +kernel) rfl (Or.inl rfl)) (qap (qam (i:=1) (show (["step", "edge", "time"]:List Str).Nodup by decide +kernel) rfl (Or.inl rfl)) qb1)))) (λ_ _ _ _=>(qv1 (qav qvi (pv 1) (pv 2) (qay _)))) (λ_ _ _ _=>(qbb (show IxR _ (qB2 K) from qbl) (pv 0) qae (λ_ _=>rfl))))
   (qaf (qan (qbb qbn (pv 3) (qgm qep qae) (λ_ _=>rfl))))),?_⟩
  refine ⟨_,rfl,r,dx,_,rfl,hob,n2,r,l,ps,g,xs,rfl,R,hxl,λp1 H1 m1=>?_⟩;have he1:=m1.same _ _ he;refine ⟨_,rfl,p1,e,xs,_,rfl,SqL.of m1.at_,SqL.of he1,?_⟩;refine qwy (xs:=xs) (λi zs H2=>Same H1 H2/\zs=((((((ps.map (·.2)).zip es).take i).filter λx=>decide (t<x.2)).map (·.1)).map V.int)) (A8 (qa3 (by omega))) ⟨Same.refl _,rfl⟩ (λi zs H2 h2=>⟨SqL.of (h2.1 _ _ m1.at_),SqL.of (h2.1 _ _ he1),by rw[h2.2,Ad];exact qzp _ _ _ _⟩) ?_ ?_
  ·rintro i x y zs H2 p H3 hxi hyi n3 ⟨s2,rfl⟩
   obtain ⟨pi,hpi,a,rfl,ha⟩:=hx.get hxi;have hi:i<es.length:=by have:=(Am.mp hpi).1;omega
   have hy:y=V.int es[i]:=by
    rw[Bn (by simpa using hi),Ay,Ac hi] at hyi;exact (AH hyi).symm
   subst hy;have hw:(ps.map (·.2))[i]?=some pi.2:=by rw[Ay,hpi];rfl
   have ha3:H3 a=some (.tup [.int pi.1,.int pi.2]):=n3.same _ _ (s2 _ _ (m1.same _ _ ha))
   walk_at "r"
   refine qjw (λz=>?_) λz=>?_
   ·walk_at "r"
    refine ⟨s2.trans n3.same,?_⟩;have:=qC0 hw (Ac hi) (by simpa using z:t<es[i]);rw[this,AI];rfl
   ·refine ⟨s2.trans n3.same,?_⟩
    rw[qC1 hw (Ac hi) (by simpa using z)]
  ·rintro i zs H2 p H3 hi ⟨s2,rfl⟩ n3
   have ez:((((ps.map (·.2)).zip es).take i).filter λx=>decide (t<x.2)).map (·.1)=wl (ps.map (·.2)) es t:=qzo (by rw[hi];simp only[List.length_zip,Ad,Az,By];omega);rw[ez] at n3;have hne:1<=(wl (ps.map (·.2)) es t).length:=qzn (w0:=(ps[0]'(by omega)).2) (by rw[Ay,Ac (by omega:0<ps.length)];rfl) h0 hlt;obtain ⟨w',hw'⟩:∃ w',(wl (ps.map (·.2)) es t)[(wl (ps.map (·.2)) es t).length-1]?=some w':=⟨_,Ac (by omega)⟩;have hlast:((wl (ps.map (·.2)) es t).map V.int)[((wl (ps.map (·.2)) es t).map V.int).length-1]?=some (V.int w'):=by rw[Ad,Ay,hw'];rfl
   walk_at "r"
   exact q w' H3 hw' (m1.same.trans (s2.trans n3.same))
theorem qlv (T:Txt K mg C_Roll C_Rule C_Book C_BookError C_NoNumber C_NoRule C_Backward C_NoName C_NoMark):qbv P w K mg base 3 "cell_at" ["rule", "edges", "time"] (qjd C_Rule):=by
 obtain ⟨f,fd,F,hm⟩:=T.f_cell_at;have nd:=sc_cell_at.nd;refine F.def_ hm (F.ok sc_cell_at (λvs H Q E h=>?_) (λcdv A outer s H vs Q E hr h=>?_)) (F.binds λ_ _ _ _ _ _ us hl=>by obtain ⟨_,_,_,rfl⟩:=L2.lq3 hl;rfl)
 ·obtain ⟨r,l,ps,g,e,es,ge,t,rfl,_⟩:=h;rfl
 ·obtain ⟨r,l,ps,g,e,es,ge,t,rfl,R,he,hl,h1,h5,hsz,ht,q⟩:=h
  obtain ⟨e0,h0⟩:∃ e0,es[0]?=some e0:=⟨_,Ac (by omega)⟩;have hi0:atI (es.map V.int ++ [gv ge]) 0=some (.int e0):=qhs (j:=0) (by rw[Bn (by simp;omega),Ay,h0];rfl);refine ⟨_,(qad (qbs (qav qAz (pv 2) (qbb qbn (pv 1) qae (λ_ _=>rfl)) (qay _))
    (qaf (qan (qck (qaa (pv 2) (qaa qae qac)))))
    qau)
   (qad (qbs (qez (qat (qr8 T) (hr.mono (by decide)) rfl (qaa (pv 1) (qaa (pv 2) qac))))
    (qaf (qan qdx))
    qau)
   (qad (qaw (i:=3) nd rfl (Or.inl rfl) (qat (qpk T) (hr.mono (by decide)) rfl (qaa (pv 0) (qaa (pv 1) (qaa (pv 2) qac)))))
   (qaf (qan (qck (qaa (qat (qio T) (hr.mono (by decide)) rfl (qaa (pv 2) (qaa (pv 3) qac))) (qaa (pv 3) qac)))))))),?_⟩
  walk_at "r"
  refine qjw (λz=>?_) λz=>?_
  ·simp at z
   walk_at "r";intro p H1 n1
   refine q (.ref p) (some (t,0)) H1 (λx hx=>?_) ⟨p,rfl,n1.at_⟩ n1.same;rw[h0] at hx;cases hx;exact ⟨λ_=>rfl,λh=>absurd z (by omega)⟩
  ·simp at z
   walk_at "r"
   refine ⟨e,es,ge,t,rfl,he,λhg=>?_,λhg=>?_⟩
   ·walk_at "r"
    refine q .non none H (λx hx=>?_) rfl (Same.refl _);rw[h0] at hx;cases hx;exact ⟨λh=>absurd z (by omega),λ_=>⟨λ_=>rfl,λn=>absurd hg n⟩⟩
   ·walk_at "r"
    refine ⟨r,l,ps,g,e,es,ge,t,e0,rfl,R,he,hl,h1,h5,h0,z,λw' H1 hw' s1=>?_⟩;have hwm:w'∈ps.map (·.2):=qrq (Aq hw');obtain ⟨pi,hpi,rfl⟩:=Af.mp hwm;obtain ⟨i,hi,ei⟩:=AS hpi;have hs:=hsz i pi (by rw[<- ei];exact Ac hi);refine ⟨_,rfl,_,rfl,t,pi.2,rfl,hs.2.2.1,hs.2.2.2,ht.1,ht.2,?_⟩
    walk_at "r";intro p H2 n2
    refine q (.ref p) (some (t / pi.2*pi.2,pi.2)) H2 (λx hx=>?_) ⟨p,rfl,n2.at_⟩ (s1.trans n2.same);rw[h0] at hx;cases hx;exact ⟨λh=>absurd z (by omega),λ_=>⟨λn=>absurd n hg,λ_=>⟨pi.2,hw',rfl⟩⟩⟩
end
section
variable {P:Program} {w:World} {K:Frag} {mg:Str->Option Value} {base:Heap} {C_Roll C_Rule C_Book C_BookError C_NoNumber C_NoRule C_Backward C_NoName C_NoMark:Addr}
theorem qr9 (T:Txt K mg C_Roll C_Rule C_Book C_BookError C_NoNumber C_NoRule C_Backward C_NoName C_NoMark):qbv P w K mg base 1 "heap_of" ["runs"] qif:=by
 obtain ⟨f,fd,F,hm⟩:=T.f_heap_of;have nd:=sc_heap_of.nd;refine F.def_ hm (F.ok sc_heap_of (λvs H Q E h=>?_) (λcdv A outer s H vs Q E hr h=>?_)) (F.binds λ_ _ _ _ _ _ us hl=>by obtain ⟨_,rfl⟩:=L2.lq1 hl;rfl)
 ·obtain ⟨l,xs,rs,rfl,_⟩:=h;rfl
 ·obtain ⟨l,xs,rs,rfl,hl,hp,ok,h2,q0,q⟩:=h
  have hlen:=hp.length;refine ⟨_,(qad (qbs (qav qjr (qas qbc rfl T.b_len qee (qaa (pv 0) qac)) qae (qay _))
    (qaf (qan qdx))
    qau)
   (qad (qfs (i:=1) (vars:=["value", "many"]) (frees:=[]) (fv:=[]) nd rfl (Or.inl rfl) rfl (qkz rfl rfl (by decide +kernel) (by decide +kernel) (by intro p hp;cases hp) rfl) trivial (qbp (pv 0)) (qex (by decide) (by decide)) (λ_ _ _ _=>(qcx rfl (qap (qam (i:=0) (show (["value", "many"]:List Str).Nodup by decide +kernel) rfl (Or.inl rfl)) (qap (qam (i:=1) (show (["value", "many"]:List Str).Nodup by decide +kernel) rfl (Or.inl rfl)) qb1)))) (λ_ _ _ _=>qbt) (λ_ _ _ _=>(pv 0)))
   (qad (qaw (i:=2) nd rfl (Or.inl rfl) (qas (qni rfl) rfl T.b_sum qui (qaa (qhy (vars:=["value", "many"]) (frees:=[]) (fv:=[]) rfl (qkz rfl rfl (by decide +kernel) (by decide +kernel) (by intro p hp;cases hp) rfl) trivial (qbp (pv 0)) (qex (by decide) (by decide)) (λ_ _ _ _=>(qcx rfl (qap (qam (i:=0) (show (["value", "many"]:List Str).Nodup by decide +kernel) rfl (Or.inl rfl)) (qap (qam (i:=1) (show (["value", "many"]:List Str).Nodup by decide +kernel) rfl (Or.inl rfl)) qb1)))) (λ_ _ _ _=>qbt) (λ_ _ _ _=>(pv 1))) qac)))
   (qad (qaw (i:=3) nd rfl (Or.inl rfl) (qas (qni rfl) rfl T.b_sum qui (qaa (qhy (vars:=["value", "many"]) (frees:=[]) (fv:=[]) rfl (qkz rfl rfl (by decide +kernel) (by decide +kernel) (by intro p hp;cases hp) rfl) trivial (qbp (pv 0)) (qex (by decide) (by decide)) (λ_ _ _ _=>(qcx rfl (qap (qam (i:=0) (show (["value", "many"]:List Str).Nodup by decide +kernel) rfl (Or.inl rfl)) (qap (qam (i:=1) (show (["value", "many"]:List Str).Nodup by decide +kernel) rfl (Or.inl rfl)) qb1)))) (λ_ _ _ _=>qbt) (λ_ _ _ _=>(qai qcj (pv 0) (pv 1)))) qac)))
   (qaf (qan (qck (qaa (pv 2) (qaa (pv 3) (qaa (qas (qqu rfl) rfl T.b_min qum (qaa (pv 1) qac)) (qaa (qas (qqt rfl) rfl T.b_max qqv (qaa (pv 1) qac)) qac))))))))))),?_⟩
  walk_at "r"
  refine qjw (λz=>?_) λz=>?_
  ·have z':xs.length=0:=by simpa using z
   exact q0 (Cw.mp (by omega))
  ·have z':¬ xs.length=0:=by simpa using z
   have hne:rs≠[]:=λe=>z' (by rw[hlen,e];rfl)
   have h1:1<=rs.length:=by omega
   have mulB:∀ p∈rs,CMulB p.1 p.2:=λp hp=>by
    have:=ok p hp;unfold qtv at this;exact ⟨⟨by omega,by omega⟩,by omega,by omega⟩
   refine ⟨_,rfl,l,rfl,⟨_,SqL.of hl⟩,qka (λp=>p.1) hl hp h2 (λp hp Q' hq=>⟨_,rfl,hq⟩) λa1 H1 n1=>?_⟩;have hl1:=n1.same _ _ hl;have hp1:=hp.same n1.same;refine ⟨_,rfl,l,rfl,⟨_,SqL.of hl1⟩,qka (λp=>p.2) hl1 hp1 h2 (λp hp Q' hq=>⟨_,rfl,hq⟩) λa2 H2 n2=>⟨a2,_,rfl,SqL.of n2.at_,?_⟩⟩;have hl2:=n2.same _ _ hl1;have hp2:=hp1.same n2.same;refine ⟨_,rfl,l,rfl,⟨_,SqL.of hl2⟩,qka (λp=>p.1*p.2) hl2 hp2 h2 (λp hp Q' hq=>⟨_,rfl,_,rfl,_,_,rfl,rfl,mulB p hp,hq⟩) λa3 H3 n3=>⟨a3,_,rfl,SqL.of n3.at_,?_⟩⟩;have hv:=n3.same _ _ (n2.same _ _ n1.at_);refine ⟨_,rfl,_,rfl,_,rfl,a1,_,rfl,SqL.of hv,by simp;omega,λlo hlo hlo'=>?_⟩;refine ⟨_,rfl,a1,_,rfl,SqL.of hv,by simp;omega,λhi hhi hhi'=>?_⟩
   walk_at "r";intro a H5 n5
   exact q hne a _ _ lo hi H5 ⟨rfl,rfl,hlo,hlo',hhi,hhi'⟩ (New.after (n1.same.trans (n2.same.trans n3.same)) n5)
theorem qt1 (T:Txt K mg C_Roll C_Rule C_Book C_BookError C_NoNumber C_NoRule C_Backward C_NoName C_NoMark):qbv P w K mg base 1 "poured" ["one", "other"] qlf:=by
 obtain ⟨f,fd,F,hm⟩:=T.f_poured;have nd:=sc_poured.nd;refine F.def_ hm (F.ok sc_poured (λvs H Q E h=>?_) (λcdv A outer s H vs Q E hr h=>?_)) (F.binds λ_ _ _ _ _ _ us hl=>by obtain ⟨_,_,rfl⟩:=L2.lq2 hl;rfl)
 ·obtain ⟨a,b,m,t,lo,hi,m',t',lo',hi',rfl,_⟩:=h;rfl
 ·obtain ⟨a,b,m,t,lo,hi,m',t',lo',hi',rfl,ha,hb,q⟩:=h
  refine ⟨_,(qaf (qan (qck (qaa (qai qba (qbb qbl (pv 0) qae (λ_ _=>rfl)) (qbb qbl (pv 1) qae (λ_ _=>rfl))) (qaa (qai qba (qbb qbl (pv 0) qae (λ_ _=>rfl)) (qbb qbl (pv 1) qae (λ_ _=>rfl))) (qaa (qas (qp7 rfl) rfl T.b_min qum (qaa (qbb qbl (pv 0) qae (λ_ _=>rfl)) (qaa (qbb qbl (pv 1) qae (λ_ _=>rfl)) qac))) (qaa (qas (qkp rfl) rfl T.b_max qqv (qaa (qbb qbl (pv 0) qae (λ_ _=>rfl)) (qaa (qbb qbl (pv 1) qae (λ_ _=>rfl)) qac))) qac))))))),?_⟩
  walk_at "r";intro p H1 n1
  exact q p H1 n1
end
section
variable {P:Program} {w:World} {K:Frag} {mg:Str->Option Value} {base:Heap} {C_Roll C_Rule C_Book C_BookError C_NoNumber C_NoRule C_Backward C_NoName C_NoMark:Addr}
theorem qi4 (T:Txt K mg C_Roll C_Rule C_Book C_BookError C_NoNumber C_NoRule C_Backward C_NoName C_NoMark):qbv P w K mg base 1 "greater_edge" ["one", "other"] qib:=by
 obtain ⟨f,fd,F,hm⟩:=T.f_greater_edge;have nd:=sc_greater_edge.nd;refine F.def_ hm (F.ok sc_greater_edge (λvs H Q E h=>?_) (λcdv A outer s H vs Q E hr h=>?_)) (F.binds λ_ _ _ _ _ _ us hl=>by obtain ⟨_,_,rfl⟩:=L2.lq2 hl;rfl)
 ·obtain ⟨x,y,rfl,_⟩:=h;rfl
 ·obtain ⟨x,y,rfl,hx,hy,q⟩:=h
  refine ⟨_,(qad (qbs (qav qhm (pv 0) qdx (qay _))
    (qaf (qan (pv 1)))
    qau)
   (qad (qbs (qav qhm (pv 1) qdx (qay _))
    (qaf (qan (pv 0)))
    qau)
   (qaf (qan (qas (qkp rfl) rfl T.b_max qqv (qaa (pv 0) (qaa (pv 1) qac))))))),?_⟩
  rcases hx with rfl|⟨i,rfl⟩
  ·exact ⟨_,rfl,rfl,_,rfl,qe1 ⟨_,rfl,q⟩⟩
  ·refine ⟨_,rfl,rfl,_,rfl,qf0 ?_⟩
   rcases hy with rfl|⟨j,rfl⟩
   ·exact ⟨_,rfl,rfl,_,rfl,qe1 ⟨_,rfl,q⟩⟩
   ·exact ⟨_,rfl,rfl,_,rfl,qf0 ⟨_,rfl,_,rfl,_,_,rfl,q⟩⟩
theorem qlw (T:Txt K mg C_Roll C_Rule C_Book C_BookError C_NoNumber C_NoRule C_Backward C_NoName C_NoMark):qbv P w K mg base 2 "greater" ["one", "other"] qid:=by
 obtain ⟨f,fd,F,hm⟩:=T.f_greater;have nd:=sc_greater.nd;refine F.def_ hm (F.ok sc_greater (λvs H Q E h=>?_) (λcdv A outer s H vs Q E hr h=>?_)) (F.binds λ_ _ _ _ _ _ us hl=>by obtain ⟨_,_,rfl⟩:=L2.lq2 hl;rfl)
 ·obtain ⟨a,b,xs,ys,rfl,_⟩:=h;rfl
 ·obtain ⟨a,b,xs,ys,rfl,ha,hb,hx,hy,he,hz,q⟩:=h
  refine ⟨_,(qad (qbs (qav qop (qas qbc rfl T.b_len qee (qaa (pv 0) qac)) (qas qbc rfl T.b_len qee (qaa (pv 1) qac)) (qay _))
    (qaf qeb)
    qau)
   (qaf (qan (qhy (vars:=["left", "right"]) (frees:=[]) (fv:=[]) rfl (qkz rfl rfl (by decide +kernel) (by decide +kernel) (by intro p hp;cases hp) rfl) trivial (qne rfl T.b_zip (qaa (pv 0) (qaa (pv 1) qac))) (qex (by decide) (by decide)) (λ_ _ _ _=>(qcx rfl (qap (qam (i:=0) (show (["left", "right"]:List Str).Nodup by decide +kernel) rfl (Or.inl rfl)) (qap (qam (i:=1) (show (["left", "right"]:List Str).Nodup by decide +kernel) rfl (Or.inl rfl)) qb1)))) (λ_ _ _ _=>qbt) (λ_ _ _ _=>(qat (qi4 T) (hr.mono (by decide)) rfl (qaa (pv 0) (qaa (pv 1) qac)))))))),?_⟩
  refine ⟨_,rfl,a,xs,rfl,.inl (SqL.of ha),_,rfl,b,ys,rfl,.inl (SqL.of hb),rfl,_,rfl,?_⟩;refine qyj (by rw[he]) ?_;refine ⟨_,rfl,_,rfl,a,b,xs,ys,rfl,SqL.of ha,SqL.of hb,?_⟩;refine quj (xs:=xs) (λi zs H2=>Same H H2/\zs=(List.zipWith gE xs ys).take i) (A8 (qa3 hz)) ⟨Same.refl _,rfl⟩ (λi zs H2 h2=>⟨SqL.of (h2.1 _ _ ha),SqL.of (h2.1 _ _ hb),by rw[h2.2];simp;omega⟩) ?_ ?_
  ·rintro i x y zs H2 p h1 h2 hn ⟨s2,rfl⟩
   have n:=qbi (o:=.tup [x,y]) hn
   generalize upd H2 p _=H3 at n ⊢
   refine ⟨p,_,rfl,SqT.of n.at_,rfl,_,_,rfl,_,_,rfl,rfl,qnf (qe1 ?_)⟩;exact ⟨_,rfl,_,rfl,x,y,rfl,hx x (Aq h1),hy y (Aq h2),s2.trans n.same,(qmt _ i _ (zip_get h1 h2)).symm⟩
  ·rintro i zs H2 p hi ⟨s2,rfl⟩ hn
   have n:=qbi (o:=.lst ((List.zipWith gE xs ys).take i)) hn;have e:(List.zipWith gE xs ys).take i=List.zipWith gE xs ys:=Bv (by rw[Ci,hi];exact Ag _);rw[e] at n ⊢;exact q p _ (New.after s2 n)
end
section
variable {P:Program} {w:World} {K:Frag} {mg:Str->Option Value} {base:Heap} {C_Roll C_Rule C_Book C_BookError C_NoNumber C_NoRule C_Backward C_NoName C_NoMark:Addr}
theorem qt2 (T:Txt K mg C_Roll C_Rule C_Book C_BookError C_NoNumber C_NoRule C_Backward C_NoName C_NoMark):qAh P w K mg base C_Roll 4 "Roll" ["self", "rule", "day"] [] (qg5 C_Roll C_Rule):=by
 obtain ⟨f,fd,F,M⟩:=T.f_Roll_init;have nd:=sc_Roll_init.nd;refine ⟨f,fd,(F.ok sc_Roll_init (λvs H Q E h=>?_) (λcdv A outer s H vs Q E hr h=>?_)),T.mg_Roll,M,(F.binds λ_ _ _ _ _ _ us hl=>by obtain ⟨_,_,_,rfl⟩:=L2.lq3 hl;rfl)⟩
 ·obtain ⟨ro,dx,ru,rl,ps,g,day,rfl,_⟩:=h;rfl
 ·obtain ⟨ro,dx,ru,rl,ps,g,day,rfl,hro,R,Pg,hd,q⟩:=h
  obtain ⟨dx2,hru⟩:=R.ob;have nru:ru≠ro:=qa0 hru hro (by intro z;injection z with _ _ z;have:=qrn rl (gv g);rw[z] at this;cases this);refine ⟨_,(qad (qcr (pv 0) (pv 1) rfl)
   (qad (qcr (pv 0) (pv 2) rfl)
   (qad (qcr (pv 0) (qat (qjg T) (hr.mono (by decide)) rfl (qaa (pv 1) (qaa (pv 2) qac))) rfl)
   (qad (qcr (pv 0) qnm rfl)
   (qaf (qcr (pv 0) qnm rfl)))))),?_⟩
  refine ⟨_,rfl,_,rfl,ro,C_Roll,dx,[],rfl,hro,T.cl_Roll,T.na_Roll_kept_rule,(by show 0<1000;decide),λH1 b1 h1=>?_⟩;refine ⟨_,rfl,_,rfl,ro,C_Roll,dx,_,rfl,h1,T.cl_Roll,T.na_Roll_kept_day,(by show 1<1000;decide),λH2 b2 h2=>?_⟩;have R2:=(R.but2 b1 hro qeh (by intro xs z;cases z) nru).but2 b2 h1 qeh (by intro xs z;cases z) nru;refine ⟨_,rfl,_,rfl,ru,rl,ps,g,day,rfl,R2,Pg,hd,λle H3 n3=>?_⟩;refine ⟨_,rfl,ro,C_Roll,dx,_,rfl,n3.same _ _ h2,T.cl_Roll,T.na_Roll_kept_edges,(by show 2<1000;decide),λH4 b4 h4=>?_⟩;intro dy H5 n5;refine ⟨_,rfl,ro,C_Roll,dx,_,rfl,n5.same _ _ h4,T.cl_Roll,T.na_Roll_whole_ones,(by show 3<1000;decide),λH6 b6 h6=>?_⟩;intro dh H7 n7;refine ⟨_,rfl,ro,C_Roll,dx,_,rfl,n7.same _ _ h6,T.cl_Roll,T.na_Roll_cell_heaps,(by show 4<1000;decide),λH8 b8 h8=>?_⟩;have R8:=((((R2.same n3.same).but2 b4 (n3.same _ _ h2) qeh (by intro xs z;cases z) nru).same n5.same |>.but2 b6 (n5.same _ _ h4) qeh (by intro xs z;cases z) nru).same n7.same).but2 b8 (n7.same _ _ h6) qeh (by intro xs z;cases z) nru;have bb:But ro H H8:=λb o e hb=>b8 _ _ (n7.same _ _ (b6 _ _ (n5.same _ _ (b4 _ _ (n3.same _ _ (b2 _ _ (b1 _ _ e hb) hb)) hb)) hb)) hb
  have fr:∀ b,b≠ro->H8 b=none->H b=none:=λb hb h0=>by
   cases e:H b with
   | none=>rfl
   | some o=>rw[bb b o e hb] at h0;cases h0
  have e4:H4 le=some (.lst (eV ps g day)):=b4 _ _ n3.at_ (qa0 n3.at_ (n3.same _ _ h2) (by intro z;cases z));have e6:H6 dy=some (.dT []):=b6 _ _ n5.at_ (qa0 n5.at_ (n5.same _ _ h4) (by intro z;cases z));have up2:∀ b o,H b=some o->b≠ro->H2 b=some o:=λb o e hb=>b2 _ _ (b1 _ _ e hb) hb
  have fr2:∀ b,H2 b=none->H b=none:=λb h0=>by
   cases e:H b with
   | none=>rfl
   | some o =>
    by_cases hb:b=ro
    ·subst hb;rw[h2] at h0;cases h0
    ·rw[up2 b o e hb] at h0;cases h0
  have fr4:∀ b,H4 b=none->H2 b=none:=λb h0=>by
   cases e:H2 b with
   | none=>rfl
   | some o =>
    by_cases hb:b=ro
    ·subst hb;rw[h4] at h0;cases h0
    ·rw[b4 _ _ (n3.same _ _ e) hb] at h0;cases h0
  have fr6:∀ b,H6 b=none->H4 b=none:=λb h0=>by
   cases e:H4 b with
   | none=>rfl
   | some o =>
    by_cases hb:b=ro
    ·subst hb;rw[h6] at h0;cases h0
    ·rw[b6 _ _ (n5.same _ _ e) hb] at h0;cases h0
  refine q le dy dh H8 (fr2 _ n3.fresh) (fr2 _ (fr4 _ n5.fresh)) (fr2 _ (fr4 _ (fr6 _ n7.fresh))) ⟨⟨dx,h8⟩,R8,?_,?_,?_,qag e6 n7.fresh⟩ bb
  ·have e8:=b8 _ _ (n7.same _ _ (b6 _ _ (n5.same _ _ e4) (qa0 (n5.same _ _ e4) (n5.same _ _ h4) (by intro z;cases z)))) (qa0 (n7.same _ _ (b6 _ _ (n5.same _ _ e4) (qa0 (n5.same _ _ e4) (n5.same _ _ h4) (by intro z;cases z)))) (n7.same _ _ h6) (by intro z;cases z))
   show H8 le=some (.lst (((ps.map λp=>cut day p.1 p.2).map V.int) ++ [gv (g.map λz=>cut day z (lw ps))]))
   rw[<- (EdS.of Pg hd).eq];exact e8
  ·exact b8 _ _ (n7.same _ _ e6) (qa0 (n7.same _ _ e6) (n7.same _ _ h6) (by intro z;cases z))
  ·exact b8 _ _ n7.at_ (qa0 n7.at_ (n7.same _ _ h6) (by intro z;cases z))
theorem qdk (T:Txt K mg C_Roll C_Rule C_Book C_BookError C_NoNumber C_NoRule C_Backward C_NoName C_NoMark):qgo P w K mg base C_Roll 2 "pour_into_cell" ["self", "cell", "heap"] (qlk C_Roll C_Rule):=by
 obtain ⟨f,fd,F,hm⟩:=T.f_Roll_pour_into_cell;have nd:=sc_Roll_pour_into_cell.nd;refine ⟨f,fd,(F.ok sc_Roll_pour_into_cell (λvs H Q E h=>?_) (λcdv A outer s H vs Q E hr h=>?_)),hm,(F.binds λ_ _ _ _ _ _ us hl=>by obtain ⟨_,_,_,rfl⟩:=L2.lq3 hl;rfl)⟩
 ·obtain ⟨ro,D,c,h,s,w',x,rfl,_⟩:=h;rfl
 ·obtain ⟨ro,D,c,h,s',w',x,rfl,A',hc,hh,hZ,hl,q⟩:=h
  obtain ⟨dx,hob⟩:=A'.ob;refine ⟨_,(qaf (qbs (qpy (qug (qgd hr) (pv 1) (qbj (pv 0) rfl)))
    (qaf (qhv (qgd hr) (qbj (pv 0) rfl) (pv 1) (qat (qt1 T) (hr.mono (by decide)) rfl (qaa (qhu (qgd hr) (qbj (pv 0) rfl) (pv 1) (λ_ _=>rfl)) (qaa (pv 2) qac))) rfl))
    (qaf (qhv (qgd hr) (qbj (pv 0) rfl) (pv 1) (pv 2) rfl)))),?_⟩
  refine ⟨_,rfl,_,rfl,ro,C_Roll,dx,_,_,rfl,hob,T.cl_Roll,T.na_Roll_cell_heaps,qje _ _ _ _ _,D.dh,_,rfl,DGet.t (k:=kk s' w') A'.he hc,_,rfl,?_⟩
  cases e:qdn D.Z (kk s' w') with
  | none =>
   refine qf0 ?_;refine ⟨_,rfl,_,rfl,ro,C_Roll,dx,_,_,rfl,hob,T.cl_Roll,T.na_Roll_cell_heaps,qje _ _ _ _ _,_,rfl,D.dh,_,rfl,DPut.t (k:=kk s' w') A'.he hc (qa3 (by omega)),?_⟩;exact q h x _ (qdp _ _ hh (qa0 hh A'.he (by intro z;cases z))) (.inl ⟨e,rfl⟩) (A'.putZ qdp qbh) qdp
  | some xx =>
   obtain ⟨h0,m0,t0,lo0,hi0,rfl,hh0⟩:=hZ _ _ e;refine qe1 ?_;refine ⟨_,rfl,ro,C_Roll,dx,_,_,rfl,hob,T.cl_Roll,T.na_Roll_cell_heaps,qje _ _ _ _ _,_,rfl,D.dh,_,rfl,(by have:=DGet.t (k:=kk s' w') A'.he hc;rwa [e] at this),_,rfl,?_⟩;refine ⟨h0,h,m0,t0,lo0,hi0,x.1,x.2.1,x.2.2.1,x.2.2.2,rfl,hh0,hh,λp H1 n1=>?_⟩;have A1:=A'.same n1.same;refine ⟨_,rfl,ro,C_Roll,dx,_,_,rfl,n1.same _ _ hob,T.cl_Roll,T.na_Roll_cell_heaps,qje _ _ _ _ _,_,rfl,D.dh,_,rfl,DPut.t (k:=kk s' w') A1.he (n1.same _ _ hc) (qa3 (by omega)),?_⟩;refine q p (mg4 (m0,t0,lo0,hi0) x) _ (qdp _ _ n1.at_ (qa0 n1.at_ A1.he (by intro z;cases z))) (.inr ⟨h0,(m0,t0,lo0,hi0),e,hh0,rfl⟩) (A1.putZ qdp qbh) λb o eo hb=>qdp _ _ (n1.same _ _ eo) hb
theorem qpl (T:Txt K mg C_Roll C_Rule C_Book C_BookError C_NoNumber C_NoRule C_Backward C_NoName C_NoMark):∃ f fd dT o n t,qhd P w K mg base (CX1 P w) 4 f fd ["self", "time", "value", "many"] (qgt C_Roll C_Rule C_NoNumber)/\FunD K "put" "Roll.put" qdv (.ref dT) f fd/\qgz K C_Roll "put" f/\fd.defaults=.ref dT/\K.lookup dT=some o/\o.data=.seq #[.int 1 t] n:=by
 obtain ⟨f,fd,dT,o,n,t,F,M,h1,h2,h3⟩:=T.f_Roll_put;have nd:=sc_Roll_put.nd;refine ⟨f,fd,dT,o,n,t,(F.okX sc_Roll_put (λvs H Q E h=>?_) (λcdv A outer s H vs Q E hr h=>?_)),F,M,h1,h2,h3⟩
 ·obtain ⟨ro,D,t,v,m,rfl,_⟩:=h;rfl
 ·obtain ⟨ro,D,t,v,m,rfl,A',ok,ht,hm,hY,hZ,ly,lz,hE,q⟩:=h
  obtain ⟨dx,hob⟩:=A'.ob;refine ⟨_,(qad (qbs (qav qjs (pv 3) qae (qay _))
    (qaf (qft (qbk ⟨rfl,rfl,rfl⟩) rfl T.ex_NoNumber rfl T.mg_NoNumber (qaa qdr qac)))
    qau)
   (qad (qaw (i:=4) nd rfl (Or.inl rfl) (qat (qlv T) (hr.mono (by decide)) rfl (qaa (qbj (pv 0) rfl) (qaa (qbj (pv 0) rfl) (qaa (pv 1) qac)))))
   (qad (qbs (qav qhm (pv 4) qdx (qay _))
    (qaf (qan qgl))
    qau)
   (qad (qbs (qav qjr (qbb qbl (pv 4) qae (λ_ _=>rfl)) qae (qay _))
    (qaf (qhv (qgd hr) (qbj (pv 0) rfl) (qck (qaa (pv 1) (qaa (pv 2) qac))) (qai qba (qta (qgd hr) (qbj (pv 0) rfl) (qck (qaa (pv 1) (qaa (pv 2) qac))) qae ⟨rfl,rfl,rfl,rfl⟩) (pv 3)) rfl))
    (qaf (qa9 (qtd (pv 0) T.cl_Roll (qdk T) (hr.mono (by decide)) (qaa (pv 4) (qaa (qat (qr9 T) (hr.mono (by decide)) rfl (qaa (qbx (qaa (qck (qaa (pv 2) (qaa (pv 3) qac))) qac)) qac)) qac))))))
   (qaf (qan qgl)))))),?_⟩
  walk_at "r"
  refine qjw (λz=>?_) λz=>?_
  ·exact ⟨by walk_at "c",hE (by simpa using z)⟩
  have z1:1<=m:=by
   have:¬ m<1:=by simpa using z
   omega
  have rok:=hm z1;have lo:=ok.pr.good.lo;refine ⟨_,rfl,ro,C_Roll,dx,_,_,rfl,hob,T.cl_Roll,T.na_Roll_kept_rule,quy _ _ _ _ _,_,rfl,ro,C_Roll,dx,_,_,rfl,hob,T.cl_Roll,T.na_Roll_kept_edges,qrt _ _ _ _ _,_,rfl,D.ru,D.rl,D.ps,D.g,D.le,D.es,D.ge,t,rfl,A'.rule,A'.ed,ok.es,lo,ok.pr.good.hi,ok.pr.size,ht,λcv o H1 hc cat s1=>?_⟩;have hob1:=s1 _ _ hob;have A1:=A'.same s1
  cases o with
  | none =>
   cases (show cv=.non from cat)
   walk_at "r"
   exact q z1 none hc D H1 (.inl ⟨rfl,rfl⟩) A1 λc o e _ _=>s1 _ _ e
  | some p =>
   obtain ⟨c,rfl,hcv⟩:=cat;have hp:=CellOf.some_ hc (by rw[ok.es];exact lo) λw' hw'=>ok.pr.w1 hw'
   rcases hp with rfl|hp
   ·walk_at "r"
    refine ⟨ro,C_Roll,dx,_,_,rfl,hob1,T.cl_Roll,T.na_Roll_whole_ones,qn0 _ _ _ _ _,D.dy,rfl,.inr ⟨_,.inl A1.yo⟩,?_⟩
    walk_at "r";intro p2 H2 n2
    have A2:=A1.same n2.same;refine ⟨_,DGet.t (k:=kk t v) A2.yo n2.at_,?_⟩;rw[qzs hY]
    walk_at "r"
    refine ⟨ro,C_Roll,dx,_,_,rfl,n2.same _ _ hob1,T.cl_Roll,T.na_Roll_whole_ones,qn0 _ _ _ _ _,?_⟩
    walk_at "r";intro p3 H3 n3
    have A3:=A2.same n3.same;refine ⟨D.dy,_,rfl,DPut.t (k:=kk t v) A3.yo n3.at_ (qa3 (by omega)),?_⟩
    show Q _ _
    exact q z1 (some (t,0)) hc _ _ (.inr (.inl ⟨rfl,rfl⟩)) (A3.putY qdp qbh) λc o e hc1 _=>qdp _ _ (n3.same _ _ (n2.same _ _ (s1 _ _ e))) hc1
   ·walk_at "r"
    refine qjw (λz=>?_) λz=>?_
    ·exact absurd z (by simp;omega)
    refine ⟨_,rfl,ro,dx,_,rfl,hob1,qn1 _ _ _ _ _,_,rfl,?_⟩
    walk_at "r";intro p2 H2 n2
    walk_at "r";intro p3 H3 n3
    refine ⟨p3,_,[(v,m)],rfl,n3.at_,.cons ⟨p2,rfl,n3.same _ _ n2.at_⟩ .nil,(λq hq=>by rw[Aj.mp hq];exact rok),by simp,(λe=>by cases e),λ_ h4 a' b' lo' hi' H4 hof n4=>?_⟩;have s4:Same H1 H4:=n2.same.trans (n3.same.trans n4.same);refine ⟨ro,D,c,h4,p.1,p.2,(a',b',lo',hi'),rfl,A1.same s4,s4 _ _ hcv,n4.at_,hZ.same (s1.trans s4),lz,λh5 y H5 e5 po A5 b5=>?_⟩
    show Q _ _
    refine q z1 (some p) hc _ H5 (.inr (.inr ⟨p.1,p.2,h5,y.1,y.2.1,y.2.2.1,y.2.2.2,rfl,hp,rfl,e5,?_⟩)) A5 λc o e _ hc2=>b5 _ _ (s4 _ _ (s1 _ _ e)) hc2
    rcases po with ⟨po1,rfl⟩|⟨h0,x0,e1,e2,rfl⟩
    ·exact .inl ⟨po1,hof⟩
    ·obtain ⟨h0',m0',t0',lo0',hi0',e4,e9⟩:=hZ _ _ e1
     cases e4;rw[s4 _ _ (s1 _ _ e9)] at e2;have e6:v4 (m0',t0',lo0',hi0')=v4 x0:=by injection e2 with e2;injection e2
     have e7:=qu2 e6;subst e7;exact .inr ⟨h0,m0',t0',lo0',hi0',a',b',lo',hi',e1,e9,hof,rfl,rfl,rfl,rfl⟩
theorem qg7 (T:Txt K mg C_Roll C_Rule C_Book C_BookError C_NoNumber C_NoRule C_Backward C_NoName C_NoMark):qv3 P w K mg base C_Roll 4 "put" ["self", "time", "value", "many"] [] (qgt C_Roll C_Rule C_NoNumber):=by
 obtain ⟨f,fd,dT,o,n,t,hf,F,M,h1,h2,h3⟩:=qpl (P:=P) (w:=w) (base:=base) T;refine ⟨f,fd,hf,M,qjy h1 h2 h3 λus hl=>?_⟩;obtain ⟨oc,od,kV,doc,pm,an,cdv,ct,osl,rfl,lk,hcd⟩:=F.ex;obtain ⟨_,_,_,_,rfl⟩:=L2.lq4 (us:=us) (by simpa using hl);exact ⟨_,rfl,rfl⟩
end
section
variable {P:Program} {w:World} {K:Frag} {mg:Str->Option Value} {base:Heap} {C_Roll C_Rule C_Book C_BookError C_NoNumber C_NoRule C_Backward C_NoName C_NoMark:Addr}
theorem qu5 {H:Hp} {D:qa7} {s:Abs} {LY LZ:List (List Int)} (h:RAbs H D s LY LZ) (k:List Int):qdn D.Z (kI k)≠none↔s.z k≠none:=by
 cases e:s.z k with
 | none=>simp[h.zn k e]
 | some p=>obtain ⟨a,e1,_⟩:=h.zs k p e;rw[e1];simp
theorem qg8 (T:Txt K mg C_Roll C_Rule C_Book C_BookError C_NoNumber C_NoRule C_Backward C_NoName C_NoMark):qgo P w K mg base C_Roll 1 "young" ["self"] (qii C_Roll C_Rule):=by
 obtain ⟨f,fd,F,hm⟩:=T.f_Roll_young;have nd:=sc_Roll_young.nd;refine ⟨f,fd,(F.ok sc_Roll_young (λvs H Q E h=>?_) (λcdv A outer s H vs Q E hr h=>?_)),hm,(F.binds λ_ _ _ _ _ _ us hl=>by obtain ⟨_,rfl⟩:=L2.lq1 hl;rfl)⟩
 ·obtain ⟨ro,D,ab,LY,LZ,rfl,_⟩:=h;rfl
 ·obtain ⟨ro,D,ab,LY,LZ,rfl,A',RA,hL,q⟩:=h
  obtain ⟨dx,hob⟩:=A'.ob;obtain ⟨ks,dk,hks⟩:=RA.yk;have hkl:ks.length<64:=C0 (BO dk.nd hks) hL;refine ⟨_,(qaf (qan (qhy (vars:=["key"]) (frees:=["self"]) (fv:=[0]) rfl (qkz rfl rfl (by decide +kernel) (by decide +kernel) (by intro p hp;simp only[Ai,As,A7] at hp;rcases hp with rfl<;>rfl) rfl) ⟨⟨rfl,.inl rfl,rfl,.inl rfl⟩,trivial⟩ (qbp (qas (qg3 rfl) rfl T.b_sorted qe8 (qaa (qbj (pv 0) rfl) qac))) (qe7 (by decide)) (λ_ _ _ _=>(qam (i:=0) (show (["key", "self"]:List Str).Nodup by decide +kernel) rfl (Or.inl rfl))) (λ_ _ _ _=>qbt) (λ_ _ _ _=>(qai (show OpR _ _ (qqx K) from qnl) (pv 0) (qck (qaa (qhu (by exact qgd hr) (show PE _ _ (qA1 K _ _) from qbj (pv 1) rfl) (pv 0) (λ_ _=>rfl)) qac))))))),?_⟩;refine ⟨_,rfl,ro,C_Roll,dx,_,_,rfl,hob,T.cl_Roll,T.na_Roll_whole_ones,qn0 _ _ _ _ _,D.dy,D.Y,ks,rfl,A'.yo,dk.eq,hkl,dk.nd,dk.ne',λms zs l1 H1 pm sm tz n1=>?_⟩;have sk:SKeys ab.y ms:=SKeys.ofD dk (λk=>by rw[RA.yv];cases ab.y k<;>simp) pm sm;have hml:ms.length=ks.length:=pm.length_eq;have tz1:Tups H1 zs ms:=Tups.same n1.same (show Tups H zs ms from tz);have hzl:=tz1.length;refine ⟨l1,rfl,⟨_,SqL.of n1.at_⟩,qei (xs:=zs) (λi ys H2=>Same H1 H2/\Tups H2 ys ((ms.take i).map (qmv ab))) (A8 (qa3 (by omega))) ⟨Same.refl _,.nil⟩ (λi ys H2 h2=>⟨SqL.of (h2.1 _ _ n1.at_),by have:=h2.2.length;rw[this,Ad,Au];omega⟩) ?_ ?_⟩
  ·rintro i x ys H2 hi ⟨s2,ty⟩
   obtain ⟨k,hki,b,rfl,hb⟩:=tz1.get hi;have hkm:k∈ms:=Aq hki;have hk2:=dk.ne k (pm.mem_iff.mp hkm);have s02:=n1.same.trans s2;have A2:=A'.same s02;have hb2:=s2 _ _ hb;obtain ⟨n,hn⟩:∃ n,ab.y k=some n:=by
    cases e:ab.y k with
    | none=>exact absurd e ((sk.mem k).mp hkm)
    | some n=>exact ⟨n,rfl⟩
   have hv:qdn D.Y (kI k)=some (.int n):=by rw[RA.yv,hn];rfl
   refine qaz (qnf (qe1 ?_));refine ⟨_,rfl,_,rfl,ro,C_Roll,dx,_,_,rfl,s02 _ _ hob,T.cl_Roll,T.na_Roll_whole_ones,qn0 _ _ _ _ _,_,rfl,D.dy,.int n,rfl,?_,(by show 1<=sizeLine;decide),λp3 H3 n3=>?_⟩
   ·have:=DGet.t (k:=kI k) A2.yo (by rw[qzu];exact hb2)
    rw[hv] at this;exact this
   ·refine ⟨b,p3,_,_,rfl,rfl,SqT.of (n3.same _ _ hb2),SqT.of n3.at_,(by intro z;have:=congrArg List.length z;rw[Ad,hk2] at this;cases this),(by intro z;cases z),(by rw[Ad,hk2];show 2+1<=sizeLine;decide),λp4 H4 n4=>?_⟩
    have s4:=n3.same.trans n4.same;refine ⟨s2.trans s4,?_⟩;rw[qmt _ i _ hki,AI];refine Tups.snoc ⟨p4,rfl,?_⟩ (ty.same s4);rw[n4.at_]
    show some (HO.tup (k.map V.int ++ [V.int n]))=some (.tup ((k ++ [(ab.y k).getD 0]).map V.int))
    rw[hn,AI];rfl
  ·rintro ys H2 l3 H3 ⟨s2,ty⟩ n3
   rw[hzl,AO] at ty;exact q l3 ys ms H3 (n1.same.trans (s2.trans n3.same)) ((n1.same.trans s2).free n3.fresh) n3.at_ sk (by omega) (ty.same n3.same)
theorem qg9 (T:Txt K mg C_Roll C_Rule C_Book C_BookError C_NoNumber C_NoRule C_Backward C_NoName C_NoMark):qgo P w K mg base C_Roll 1 "heaps" ["self"] (qij C_Roll C_Rule):=by
 obtain ⟨f,fd,F,hm⟩:=T.f_Roll_heaps;have nd:=sc_Roll_heaps.nd;refine ⟨f,fd,(F.ok sc_Roll_heaps (λvs H Q E h=>?_) (λcdv A outer s H vs Q E hr h=>?_)),hm,(F.binds λ_ _ _ _ _ _ us hl=>by obtain ⟨_,rfl⟩:=L2.lq1 hl;rfl)⟩
 ·obtain ⟨ro,D,ab,LY,LZ,rfl,_⟩:=h;rfl
 ·obtain ⟨ro,D,ab,LY,LZ,rfl,A',RA,hL,q⟩:=h
  obtain ⟨dx,hob⟩:=A'.ob;obtain ⟨ks,dk,hks⟩:=RA.zk;have hkl:ks.length<64:=C0 (BO dk.nd hks) hL;refine ⟨_,(qaf (qan (qhy (vars:=["cell"]) (frees:=["self"]) (fv:=[0]) rfl (qkz rfl rfl (by decide +kernel) (by decide +kernel) (by intro p hp;simp only[Ai,As,A7] at hp;rcases hp with rfl<;>rfl) rfl) ⟨⟨rfl,.inl rfl,rfl,.inl rfl⟩,trivial⟩ (qbp (qas (qg3 rfl) rfl T.b_sorted qe8 (qaa (qbj (pv 0) rfl) qac))) (qe7 (by decide)) (λ_ _ _ _=>(qam (i:=0) (show (["cell", "self"]:List Str).Nodup by decide +kernel) rfl (Or.inl rfl))) (λ_ _ _ _=>qbt) (λ_ _ _ _=>(qai (show OpR _ _ (qqx K) from qnl) (pv 0) (qhu (by exact qgd hr) (show PE _ _ (qA1 K _ _) from qbj (pv 1) rfl) (pv 0) (λ_ _=>rfl))))))),?_⟩;refine ⟨_,rfl,ro,C_Roll,dx,_,_,rfl,hob,T.cl_Roll,T.na_Roll_cell_heaps,qje _ _ _ _ _,D.dh,D.Z,ks,rfl,A'.he,dk.eq,hkl,dk.nd,dk.ne',λms zs l1 H1 pm sm tz n1=>?_⟩;have sk:SKeys ab.z ms:=SKeys.ofD dk (λk=>qu5 RA k) pm sm;have hml:ms.length=ks.length:=pm.length_eq;have tz1:Tups H1 zs ms:=Tups.same n1.same (show Tups H zs ms from tz);have hzl:=tz1.length;refine ⟨l1,rfl,⟨_,SqL.of n1.at_⟩,qei (xs:=zs) (λi ys H2=>Same H1 H2/\Tups H2 ys ((ms.take i).map (qn6 ab))) (A8 (qa3 (by omega))) ⟨Same.refl _,.nil⟩ (λi ys H2 h2=>⟨SqL.of (h2.1 _ _ n1.at_),by have:=h2.2.length;rw[this,Ad,Au];omega⟩) ?_ ?_⟩
  ·rintro i x ys H2 hi ⟨s2,ty⟩
   obtain ⟨k,hki,b,rfl,hb⟩:=tz1.get hi;have hkm:k∈ms:=Aq hki;have hk2:=dk.ne k (pm.mem_iff.mp hkm);have s02:=n1.same.trans s2;have A2:=A'.same s02;have hb2:=s2 _ _ hb;obtain ⟨n,hn⟩:∃ n,ab.z k=some n:=by
    cases e:ab.z k with
    | none=>exact absurd e ((sk.mem k).mp hkm)
    | some n=>exact ⟨n,rfl⟩
   obtain ⟨hh,hv,hht⟩:=RA.zs k n hn;refine qaz (qnf (qe1 ?_));refine ⟨_,rfl,_,rfl,ro,C_Roll,dx,_,_,rfl,s02 _ _ hob,T.cl_Roll,T.na_Roll_cell_heaps,qje _ _ _ _ _,?_⟩;refine ⟨_,rfl,D.dh,.ref hh,rfl,?_,?_⟩
   ·have:=DGet.t (k:=kI k) A2.he (by rw[qzu];exact hb2)
    rw[hv] at this;exact this
   ·refine ⟨b,hh,_,_,rfl,rfl,SqT.of hb2,SqT.of (s02 _ _ hht),(by intro z;have:=congrArg List.length z;rw[Ad,hk2] at this;cases this),(by intro z;cases z),(by rw[Ad,hk2];show 2+4<=sizeLine;decide),λp4 H4 n4=>?_⟩
    refine ⟨s2.trans n4.same,?_⟩;rw[qmt _ i _ hki,AI];refine Tups.snoc ⟨p4,rfl,?_⟩ (ty.same n4.same);rw[n4.at_]
    show some (HO.tup (k.map V.int ++ v4 n))=some (.tup ((k ++ i4 ((ab.z k).getD (0,0,0,0))).map V.int))
    rw[hn,AI];rfl
  ·rintro ys H2 l3 H3 ⟨s2,ty⟩ n3
   rw[hzl,AO] at ty;exact q l3 ys ms H3 (n1.same.trans (s2.trans n3.same)) ((n1.same.trans s2).free n3.fresh) n3.at_ sk (by omega) (ty.same n3.same)
end
section
variable {P:Program} {w:World} {K:Frag} {mg:Str->Option Value} {base:Heap} {C_Roll C_Rule C_Book C_BookError C_NoNumber C_NoRule C_Backward C_NoName C_NoMark:Addr}
theorem qhg (T:Txt K mg C_Roll C_Rule C_Book C_BookError C_NoNumber C_NoRule C_Backward C_NoName C_NoMark):qgo P w K mg base C_Roll 4 "take_heap" ["self", "start", "heap"] (qn7 C_Roll C_Rule):=by
 obtain ⟨f,fd,F,hm⟩:=T.f_Roll_take_heap;have nd:=sc_Roll_take_heap.nd;refine ⟨f,fd,(F.ok sc_Roll_take_heap (λvs H Q E h=>?_) (λcdv A outer s H vs Q E hr h=>?_)),hm,(F.binds λ_ _ _ _ _ _ us hl=>by obtain ⟨_,_,_,rfl⟩:=L2.lq3 hl;rfl)⟩
 ·obtain ⟨ro,c,s,LY,LZ,a,h,x,rfl,_⟩:=h;rfl
 ·obtain ⟨ro,c,s',LY,LZ,a,h,x,rfl,⟨Y,Z,A',B'⟩,ok,ha,hh,lz,hz,q⟩:=h
  obtain ⟨dx,hob⟩:=A'.ob;refine ⟨_,(qad (qaw (i:=3) nd rfl (Or.inl rfl) (qat (qlv T) (hr.mono (by decide)) rfl (qaa (qbj (pv 0) rfl) (qaa (qbj (pv 0) rfl) (qaa (pv 1) qac)))))
   (qaf (qbs (qav qmg (pv 3) qdx (qay _))
    (qaf (qa9 (qtd (pv 0) T.cl_Roll (qdk T) (hr.mono (by decide)) (qaa (pv 3) (qaa (pv 2) qac)))))
    qau))),?_⟩
  have lo:=ok.pr.good.lo;refine ⟨_,rfl,ro,C_Roll,dx,_,_,rfl,hob,T.cl_Roll,T.na_Roll_kept_rule,quy _ _ _ _ _,_,rfl,ro,C_Roll,dx,_,_,rfl,hob,T.cl_Roll,T.na_Roll_kept_edges,qrt _ _ _ _ _,_,rfl,c.ru,c.rl,c.ps,c.g,c.le,c.es,c.ge,a,rfl,A'.rule,A'.ed,ok.es,lo,ok.pr.good.hi,ok.pr.size,ha,λcv o H1 hc cat s1=>?_⟩;have hob1:=s1 _ _ hob;have A1:=A'.same s1;have eo:cellD c a=o:=qkc (by rw[ok.es];exact lo) hc
  cases o with
  | none =>
   cases (show cv=.non from cat)
   walk_at "r"
   refine q H1 ?_ λb o e _ _=>s1 _ _ e
   unfold qeq;rw[eo];exact ⟨Y,Z,A1,B'.same s1⟩
  | some p =>
   obtain ⟨cc,rfl,hcv⟩:=cat;obtain ⟨b,w'⟩:=p;have B1:=B'.same s1
   walk_at "r"
   refine ⟨ro,dx,_,rfl,hob1,qn1 _ _ _ _ _,_,rfl,_,rfl,?_⟩;simp only[qm8,Br,Bx,Be];refine ⟨ro,_,cc,h,b,w',x,rfl,A1,hcv,s1 _ _ hh,B1.ZOk,AV B1.zlen (by omega),λh2 y H2 hh2 po A2 b2=>?_⟩
   show Q _ _
   have bb:But2 c.dy c.dh H H2:=λz o e _ n2=>b2 _ _ (s1 _ _ e) n2
   refine q H2 ?_ bb;unfold qeq;rw[eo];exact ⟨Y,_,A2,B1.pour po hh2 (λz xs e=>b2 _ _ e (qa0 e A1.he (by intro z;cases z))) (hz b w' eo)⟩
abbrev IvT (C_Roll C_Rule:Addr) (H1:Hp) (ro r2:Addr) (c:qa7) (s2 s':Abs) (LY LZ:List (List Int)) (i:Nat) (σ:St) (H3:Hp):Prop:=But2 c.dy c.dh H1 H3/\RR C_Roll C_Rule H3 ro c (((qcw s2).take i).foldl (qdt (cellD c)) s') LY LZ/\∃ v3 v4 v5:Option V,σ=[some (.ref ro),some (.ref r2),v3,v4,v5,none]
abbrev IvU (C_Roll C_Rule:Addr) (H4:Hp) (ro r2:Addr) (c:qa7) (s2 s':Abs) (LY LZ:List (List Int)) (v3 v4 v5:Option V) (i:Nat) (σ:St) (H5:Hp):Prop:=But2 c.dy c.dh H4 H5/\RR C_Roll C_Rule H5 ro c (((qcz s2).take i).foldl (qcl (cellD c)) ((qcw s2).foldl (qdt (cellD c)) s')) LY LZ/\∃ v6:Option V,σ=[some (.ref ro),some (.ref r2),v3,v4,v5,v6]
theorem qip (T:Txt K mg C_Roll C_Rule C_Book C_BookError C_NoNumber C_NoRule C_Backward C_NoName C_NoMark):qgo P w K mg base C_Roll 5 "take_all" ["self", "roll"] (qf3 C_Roll C_Rule):=by
 obtain ⟨f,fd,F,hm⟩:=T.f_Roll_take_all;have nd:=sc_Roll_take_all.nd;refine ⟨f,fd,(F.ok sc_Roll_take_all (λvs H Q E h=>?_) (λcdv A outer s H vs Q E hr h=>?_)),hm,(F.binds λ_ _ _ _ _ _ us hl=>by obtain ⟨_,_,rfl⟩:=L2.lq2 hl;rfl)⟩
 ·obtain ⟨ro,r2,c,c2,s,s2,LY,LZ,LY2,LZ2,rfl,_⟩:=h;rfl
 ·obtain ⟨ro,r2,c,c2,s',s2,LY,LZ,LY2,LZ2,rfl,R1,R2,ok,ap,ly,lz,ly2,lz2,tk,q⟩:=h
  obtain ⟨dx,hob⟩:=R1.obj;obtain ⟨dx2,hob2⟩:=R2.obj;refine ⟨_,(qad (qec Bb rfl (qbp (qbw (pv 1) T.cl_Roll (qg8 T) (hr.mono (by decide)))) (qcx rfl (qap (qam (i:=2) nd rfl (Or.inl rfl)) (qap (qam (i:=3) nd rfl (Or.inl rfl)) (qap (qam (i:=4) nd rfl (Or.inl rfl)) qb1))))
    (qaf (qa9 (qc4 (qa5 ⟨rfl,rfl,rfl⟩) (pv 0) T.cl_Roll (qg7 T) (hr.mono (by decide)) .nil (qaa (pv 2) (qaa (pv 3) (qaa (pv 4) qac)))))))
   (qaf (qec Bb rfl (qbp (qbw (pv 1) T.cl_Roll (qg9 T) (hr.mono (by decide)))) (qam (i:=5) nd rfl (Or.inl rfl))
    (qaf (qa9 (qtd (pv 0) T.cl_Roll (qhg T) (hr.mono (by decide)) (qaa (qbb qbl (pv 5) qae (λ_ _=>rfl)) (qaa (qcb qx9 (pv 5) (qco qae) qdo) qac)))))))),?_⟩
  refine ⟨_,rfl,r2,dx2,_,rfl,hob2,qlg _ _ _ _ _,?_⟩;simp only[qm8,Br,Bx,Be];refine R2.young ly2 λl xs H1 s1 f1 hl tl kl=>?_
  have R1a:=R1.same s1;obtain ⟨⟨Y1,hY1⟩,⟨Z1,hZ1⟩⟩:=R1a.dicts;refine ⟨l,rfl,⟨_,SqL.of hl⟩,qc2 (D:={ nx:=_,rt:=Q }) (xs:=xs) (λi σ H3=>IvT C_Roll C_Rule H1 ro r2 c s2 s' LY LZ i σ H3) ⟨But2.refl _ _ _,R1a,none,none,none,rfl⟩ (λi σ H3 _ h3=>SqL.of (h3.1.keep hY1 hZ1 hl (by intro K z;cases z))) ?_ ?_⟩
  ·rintro i x σ H3 hxi ⟨b3,R3,v3,v4,v5,rfl⟩
   obtain ⟨r',hr',ta,rfl,hta⟩:=tl.get hxi;obtain ⟨t,v,m,rfl,rok,hy,hz⟩:=tk.y r' (Aq hr');have hta3:=b3.keep hY1 hZ1 hta (by intro K z;cases z);obtain ⟨dx3,hob3⟩:=R3.obj;refine ⟨ta,_,rfl,SqT.of hta3,rfl,_,_,rfl,_,_,rfl,_,_,rfl,rfl,?_⟩;refine ⟨_,rfl,ro,dx3,_,rfl,hob3,qru _ _ _ _ _,_,rfl,_,rfl,_,rfl,?_⟩;simp only[qm8,Br,Bx,Be];refine R3.putX ok rok.1 rok.2.2.1 rok.2 ly lz hy hz λH4 R4 b4=>?_
   refine ⟨b3.trans b4,?_,_,_,_,rfl⟩;rw[qmt _ i _ hr',C6];exact R4
  ·rintro σ H3 ⟨b3,R3,v3,v4,v5,rfl⟩
   rw[tl.length,AO] at R3;have R2':=(R2.same s1).frame b3 hY1 hZ1 ap.1 ap.2.1 ap.2.2.1 ap.2.2.2;obtain ⟨dx4,hob4⟩:=R2'.obj;refine ⟨_,rfl,r2,dx4,_,rfl,hob4,qlh _ _ _ _ _,?_⟩;simp only[qm8,Br,Bx,Be];refine R2'.heaps lz2 λl4 xs4 H4 s4 f4 hl4 tl4 kl4=>?_
   have R4:=R3.same s4;obtain ⟨⟨Y4,hY4⟩,⟨Z4,hZ4⟩⟩:=R4.dicts;have b04:But2 c.dy c.dh H H4:=λz o e n1 n2=>s4 _ _ (b3 _ _ (s1 _ _ e) n1 n2)
   refine ⟨l4,rfl,⟨_,SqL.of hl4⟩,qc2 (D:={ nx:=_,rt:=Q }) (xs:=xs4) (λi σ H5=>IvU C_Roll C_Rule H4 ro r2 c s2 s' LY LZ v3 v4 v5 i σ H5) ⟨But2.refl _ _ _,R4,none,rfl⟩ (λi σ H5 _ h5=>SqL.of (h5.1.keep hY4 hZ4 hl4 (by intro K z;cases z))) ?_ ?_⟩
   ·rintro i x σ H5 hxi ⟨b5,R5,v6,rfl⟩
    obtain ⟨r',hr',ta,rfl,hta⟩:=tl4.get hxi;obtain ⟨a,w',m,t,lo,hi,rfl,ha,hz⟩:=tk.z r' (Aq hr');have hta5:=b5.keep hY4 hZ4 hta (by intro K z;cases z);obtain ⟨dx5,hob5⟩:=R5.obj
    walk_at "r"
    refine ⟨ro,dx5,_,rfl,hob5,qjf _ _ _ _ _ (by decide +kernel) (by decide +kernel) (by decide +kernel) (by decide +kernel) (by decide +kernel),?_⟩
    walk_at "r"
    refine ⟨λz=>by have z1:HT.sIx 6 0 (some 2)=0:=z.1;revert z1;decide,λp hp=>?_⟩;have n6:New H5 (upd H5 p (.tup (qju (List.map V.int [a,w',m,t,lo,hi]) (some 2) none))) p (.tup (TB.v4 (m,t,lo,hi))):=qbi hp;simp only[qm8,Br,Bx,Be];refine ⟨ro,c,_,LY,LZ,a,p,(m,t,lo,hi),rfl,R5.same n6.same,ok,ha,n6.at_,lz,hz,λH7 R7 b7=>?_⟩;refine ⟨λz o e n1 n2=>b7 _ _ (n6.same _ _ (b5 _ _ e n1 n2)) n1 n2,?_,_,rfl⟩;rw[qmt _ i _ hr',C6];exact R7
   ·rintro σ H5 ⟨b5,R5,v6,rfl⟩
    rw[tl4.length,AO] at R5;exact q H5 R5 (b04.trans b5)
end
section
variable {P:Program} {w:World} {K:Frag} {mg:Str->Option Value} {base:Heap} {C_Roll C_Rule C_Book C_BookError C_NoNumber C_NoRule C_Backward C_NoName C_NoMark:Addr}
theorem qxb (ru:Addr) (day:Int) (le dy dh p:Addr):qf8 "kept_edges" (.ref p) (rof ru day le dy dh)=rof ru day p dy dh:=by rfl
inductive qlx (C R:Addr) (vs:List V) (H:Hp) (Q:VK) (E_:XK):Prop
 | mk:∀ (ru rl e:Addr) (ps:List (Int×Int)) (g:Option Int) (day:Int) (EV:List V) (es:List Int) (ge:Option Int),vs=[.ref ru,.int day,.ref e]->RuleAt R H ru rl ps g->Pr ps g->Bd day->H e=some (.lst EV)->(∀ v∈EV,Ed v)->EV.length<=10->EV.length=ps.length+1->EdS EV es ge->es.length=ps.length->(∀ ro c H',RollAt C R H' ro c->c.ps=ps->c.g=g->c.day=day->c.Y=[]->c.Z=[]->EdS (List.zipWith gE (eV ps g day) EV) c.es c.ge->c.es.length=ps.length->Same H H'->H c.dy=none->H c.dh=none->(c.ru=ru/\c.rl=rl/\H c.le=none)->Q (.ref ro) H')->qlx C R vs H Q E_
theorem qxc (T:Txt K mg C_Roll C_Rule C_Book C_BookError C_NoNumber C_NoRule C_Backward C_NoName C_NoMark):qbv P w K mg base 6 "begun" ["rule", "day", "edges"] (qlx C_Roll C_Rule):=by
 obtain ⟨f,fd,F,hm⟩:=T.f_begun;have nd:=sc_begun.nd;refine F.def_ hm (F.ok sc_begun (λvs H Q E h=>?_) (λcdv A outer s H vs Q E hr h=>?_)) (F.binds λ_ _ _ _ _ _ us hl=>by obtain ⟨_,_,_,rfl⟩:=L2.lq3 hl;rfl)
 ·obtain ⟨ru,rl,e,ps,g,day,EV,es,ge,rfl,_⟩:=h;rfl
 ·obtain ⟨ru,rl,e,ps,g,day,EV,es,ge,rfl,R,Pg,hd,he,hEd,h10,hEl,Ee,hln,q⟩:=h
  refine ⟨_,(qad (qaw (i:=3) nd rfl (Or.inl rfl) (qng (qt2 T) (hr.mono (by decide)) rfl .nil (qaa (pv 0) (qaa (pv 1) qac))))
   (qad (qcr (pv 3) (qat (qlw T) (hr.mono (by decide)) rfl (qaa (qbj (pv 3) rfl) (qaa (pv 2) qac))) rfl)
   (qaf (qan (pv 3))))),?_⟩
  refine ⟨_,rfl,_,rfl,λro dx H1 s1 f1 d1=>?_⟩;refine ⟨ro,dx,ru,rl,ps,g,day,rfl,d1,R.same s1,Pg,hd,λle dy dh H2 z1 z2 z3 A2 b2=>⟨rfl,?_⟩⟩;have s2:Same H H2:=b2.same s1 f1;obtain ⟨dx2,hob⟩:=A2.ob;have E0':=EdS.of Pg hd;have hob':H2 ro=some (.ins C_Roll dx2 (rof ru day le dy dh)):=hob;have hed:H2 le=some (.lst (eV ps g day)):=by rw[E0'.eq];exact A2.ed
  have l0:(eV ps g day).length=ps.length+1:=by rw[E0'.eq];simp
  have g5:=Pg.good.hi;refine ⟨_,rfl,ro,C_Roll,dx2,_,_,rfl,hob',T.cl_Roll,T.na_Roll_kept_edges,qrt _ _ _ _ _,_,rfl,le,e,_,EV,rfl,hed,s2 _ _ he,E0'.ed,hEd,by rw[l0,hEl],by omega,λp H3 n3=>?_⟩;refine ⟨_,rfl,ro,C_Roll,dx2,_,rfl,n3.same _ _ hob',T.cl_Roll,T.na_Roll_kept_edges,(by show 5<1000;decide),λH4 b4 h4=>?_⟩;rw[qxb] at h4;have A3:=A2.same n3.same;have M:=E0'.max Ee (by rw[Ad];exact hln.symm);have hro3:=n3.same _ _ hob';have hp4:H4 p=some (.lst (List.zipWith gE (eV ps g day) EV)):=b4 _ _ n3.at_ (qa0 n3.at_ hro3 (by intro z;cases z));obtain ⟨dxr,hru⟩:=A3.rule.ob;have nru:ru≠ro:=qa0 hru hro3 (by intro z;injection z with _ _ z;have:=qrn rl (gv g);have z':rf rl (gv g)=rof ru day le dy dh:=z;rw[z'] at this;cases this);have s04:Same H H4:=b4.same (s2.trans n3.same) f1;refine ⟨_,rfl,q ro { newD ru rl p dy dh ps g day with es:=_,ge:=_ } H4 ⟨⟨dx2,h4⟩,A3.rule.but2 b4 hro3 qeh (by intro xs z;cases z) nru,?_,b4 _ _ A3.yo (qa0 A3.yo hro3 (by intro z;cases z)),b4 _ _ A3.he (qa0 A3.he hro3 (by intro z;cases z)),A3.ne⟩ rfl rfl rfl rfl rfl M ?_ s04 (s1.free z2) (s1.free z3) ⟨rfl,rfl,s2.free n3.fresh⟩⟩
  ·rw[M.eq] at hp4;exact hp4
  ·show (List.zipWith _ _ _).length=ps.length
   rw[Ci,Ad];omega
end
section
variable {P:Program} {w:World} {K:Frag} {mg:Str->Option Value} {base:Heap} {C_Roll C_Rule C_Book C_BookError C_NoNumber C_NoRule C_Backward C_NoName C_NoMark:Addr}
theorem EdS.uniq {E:List V} {a b:List Int} {g h:Option Int} (x:EdS E a g) (y:EdS E b h):a=b/\g=h:=by
 have e:=x.eq.symm.trans y.eq;have hl:(a.map V.int).length=(b.map V.int).length:=by have:=congrArg List.length e;simp only[Az,By] at this;omega
 obtain ⟨e1,e2⟩:=List.append_inj e hl;refine ⟨?_,?_⟩
 ·have:∀ {a b:List Int},a.map V.int=b.map V.int->a=b:=fun {a b} e=>by
   induction a generalizing b with
   | nil=>cases b with
    | nil=>rfl
    | cons _ _=>cases e
   | cons x t ih=>cases b with
    | nil=>cases e
    | cons y u=>injection e with h1 h2;injection h1 with h1;rw[h1,ih h2]
  exact this e1
 ·injection e2 with h1 _
  cases g<;>cases h<;>first|rfl|(injection h1 with h1;rw[h1])|cases h1
end
section
variable {P:Program} {w:World} {K:Frag} {mg:Str->Option Value} {base:Heap} {C_Roll C_Rule C_Book C_BookError C_NoNumber C_NoRule C_Backward C_NoName C_NoMark:Addr}
def qt3 (cell:Int->Option (Int×Int)) (r:List Int):List Int:=match cell (r.headD 0) with
 | none=>[]
 | some p=>[p.1,p.2]
theorem qxd {x y:V} (hx:Ed x) (hy:Ed y):gE x (gE x y)=gE x y:=by
 rcases hx with rfl|⟨i,rfl⟩<;>rcases hy with rfl|⟨j,rfl⟩<;>try rfl
 ·show V.int (if i>i then i else i)=V.int i
  split<;>rfl
 ·show V.int (if (if j>i then j else i)>i then (if j>i then j else i) else i)=V.int (if j>i then j else i)
  congr 1
  repeat' split
  all_goals omega
theorem qn9:∀ {xs ys:List V},(∀ v∈xs,Ed v)->(∀ v∈ys,Ed v)->List.zipWith gE xs (List.zipWith gE xs ys)=List.zipWith gE xs ys
 | [],ys,_,_=>by simp
 | x :: xs,[],_,_=>rfl
 | x :: xs,y :: ys,h1,h2=>by
  simp only[Dp];rw[qxd (h1 x Ap) (h2 y Ap),qn9 (λv hv=>h1 v (An _ hv)) λv hv=>h2 v (An _ hv)]
theorem RR.skeys {C R:Addr} {H:Hp} {ro:Addr} {c:qa7} {s:Abs} {LY LZ:List (List Int)} (h:RR C R H ro c s LY LZ):∃ my mz,SKeys s.y my/\SKeys s.z mz/\(∀ k∈my,k.length=2)/\∀ k∈mz,k.length=2:=by
 obtain ⟨Y,Z,A,B⟩:=h;obtain ⟨ks,dk,_⟩:=B.yk;obtain ⟨js,dj,_⟩:=B.zk;have hy:∀ k,k∈ks↔s.y k≠none:=λk=>by rw[dk.mem,B.yv];cases s.y k<;>simp
 have hz:∀ k,k∈js↔s.z k≠none:=λk=>by rw[dj.mem];exact qu5 B k
 obtain ⟨my,sy,_⟩:=qkd dk.nd hy;obtain ⟨mz,sz,_⟩:=qkd dj.nd hz;exact ⟨my,mz,sy,sz,λk hk=>dk.ne k ((hy k).mpr ((sy.mem k).mp hk)),λk hk=>dj.ne k ((hz k).mpr ((sz.mem k).mp hk))⟩
def TagL (s:Abs) (T:List (List Int)):Prop:=(∀ k,s.y k≠none->(0 :: k)∈T)/\∀ k,s.z k≠none->(1 :: k)∈T
theorem TagL.of {cell:Int->Option (Int×Int)} {s:Abs} {rs:List Rd3} (h:Tags cell s rs):TagL s (rs.map (qw3 cell)):=
 ⟨λk hk=>let ⟨r,hr,e⟩:=h.1 k hk;Af.mpr ⟨r,hr,e⟩,λk hk=>let ⟨r,hr,e⟩:=h.2 k hk;Af.mpr ⟨r,hr,e⟩⟩
theorem qt4 {s:Abs} {T:List (List Int)} {my mz:List (List Int)} (tg:TagL s T) (hy:SKeys s.y my) (hz:SKeys s.z mz):my.length+mz.length<=T.length:=by
 have nd:(my.map (λk=>(0:Int) :: k) ++ mz.map (λk=>(1:Int) :: k)).Nodup:=by
  rw[List.nodup_append];refine ⟨?_,?_,λa ha b hb e=>?_⟩
  ·rw[C4,CG];exact hy.nd.imp λhne e=>hne (by injection e)
  ·rw[C4,CG];exact hz.nd.imp λhne e=>hne (by injection e)
  ·obtain ⟨k,_,rfl⟩:=Af.mp ha
   obtain ⟨l,_,rfl⟩:=Af.mp hb;injection e with e _
   omega
 have sub:(my.map (λk=>(0:Int) :: k) ++ mz.map (λk=>(1:Int) :: k)) ⊆ T:=λx hx=>by
  rcases AD.mp hx with h|h
  ·obtain ⟨k,hk,rfl⟩:=Af.mp h
   exact tg.1 k ((hy.mem k).mp hk)
  ·obtain ⟨k,hk,rfl⟩:=Af.mp h
   exact tg.2 k ((hz.mem k).mp hk)
 have:=BO nd sub
 simpa using this
theorem qxe {cell:Int->Option (Int×Int)} {s:Abs} {my mz:List (List Int)} {B N:Int} (h:AbsB B N s) (hB:B<10 ^ 46) (hN:N<10 ^ 45) (sy:SKeys s.y my) (sz:SKeys s.z mz):qry cell my (my.map (qt3 cell) ++ mz.map (qt3 cell)) (qcw s) (qcz s):=by
 refine ⟨λr hr=>?_,λr hr=>?_⟩
 ·rw[<- qej sy] at hr
  obtain ⟨k,hk,rfl⟩:=Af.mp hr
  cases e:s.y k with
  | none=>exact absurd e ((sy.mem k).mp hk)
  | some n =>
   obtain ⟨t,v,rfl,h1,h2,h3,h4⟩:=h.y k n e;refine ⟨t,v,n,by unfold qmv;rw[e];rfl,⟨by unfold qmu;dsimp only;omega,by unfold qtv;dsimp only;omega⟩,hk,λa w ec=>Cd _ (Af.mpr ⟨_,hk,?_⟩)⟩;unfold qt3;dsimp only [List.headD];rw[ec]
 ·rw[<- qek sz] at hr
  obtain ⟨k,hk,rfl⟩:=Af.mp hr
  cases e:s.z k with
  | none=>exact absurd e ((sz.mem k).mp hk)
  | some x =>
   obtain ⟨a,w,rfl,h1,h2⟩:=h.z k x e;refine ⟨a,w,x.1,x.2.1,x.2.2.1,x.2.2.2,by unfold qn6 i4;rw[e];rfl,by unfold qmu;omega,λb w' ec=>AK _ (Af.mpr ⟨_,hk,?_⟩)⟩;unfold qt3;dsimp only [List.headD];rw[ec]
end
section
variable {P:Program} {w:World} {K:Frag} {mg:Str->Option Value} {base:Heap} {C_Roll C_Rule C_Book C_BookError C_NoNumber C_NoRule C_Backward C_NoName C_NoMark:Addr}
theorem qxf {x:V} (hx:Ed x):gE x x=x:=by
 rcases hx with rfl|⟨i,rfl⟩
 ·rfl
 ·show V.int (if i>i then i else i)=V.int i
  split<;>rfl
theorem qoa:∀ {xs:List V},(∀ v∈xs,Ed v)->List.zipWith gE xs xs=xs
 | [],_=>rfl
 | x :: xs,h=>by
  rw[Dp,qxf (h x Ap),qoa λv hv=>h v (An _ hv)]
theorem qxg {a b:List Int} (g1 g2:Option Int) (h:a.length=b.length):Later b (List.zipWith mx a b) g2 (qwz g1 g2) where
 len:=by rw[Ci];omega
 up:=λi x y hx hy=>by
  obtain ⟨u,v,hu,hv,rfl⟩:=qtx hy;rw[hx] at hv;cases hv;exact (qzv u x).2.1
 gn:=λz hz=>by
  subst hz
  cases g1 with
  | none=>exact ⟨z,rfl,DA _⟩
  | some j=>exact ⟨mx j z,rfl,(qzv j z).2.1⟩
theorem RR.mono {C R:Addr} {H:Hp} {ro:Addr} {c:qa7} {s:Abs} {LY LZ LY' LZ':List (List Int)} (h:RR C R H ro c s LY LZ) (a:LY ⊆ LY') (b:LZ ⊆ LZ'):RR C R H ro c s LY' LZ':=
 let ⟨Y,Z,A,B⟩:=h;⟨Y,Z,A,B.mono a b⟩
structure R63 (C R:Addr) (H:Hp) (r:Addr) (q:qa7) (ps:List (Int×Int)) (g:Option Int) (d:Int) (es:List Int) (ge:Option Int) (rs:List Rd3) (LY LZ:List (List Int)):Prop where
 R:RR C R H r q (qe2 (qdy (ps.map (·.2)) es ge) rs) LY LZ
 ok:qg4 q
 qp:q.ps=ps
 qg:q.g=g
 qd:q.day=d
 qe:q.es=es
 qh:q.ge=ge
 P:Pr ps g
 wb:∀ p∈ps,p.2<=10 ^ 35
 E:EdS (es.map V.int ++ [gv ge]) es ge
 F:Fall (ps.map (·.2)) es ge
 dom:List.zipWith gE (eV ps g d) (es.map V.int ++ [gv ge])=es.map V.int ++ [gv ge]
 hd:Bd d
 hr:∀ r∈rs,RLt r
 ly:LY.length<=rs.length
 lz:LZ.length<=rs.length
structure qxh (ps:List (Int×Int)) (g:Option Int) (D:Int) (EV:List V) (es:List Int) (ge:Option Int) (fs:List Int) (fg:Option Int):Prop where
 Ef:EdS (List.zipWith gE (eV ps g D) EV) fs fg
 F:Fall (ps.map (·.2)) fs fg
 L:Later es fs ge fg
 eq:List.zipWith gE (eV ps g D) EV=fs.map V.int ++ [gv fg]
 dom:List.zipWith gE (eV ps g D) (fs.map V.int ++ [gv fg])=fs.map V.int ++ [gv fg]
 E:EdS (fs.map V.int ++ [gv fg]) fs fg
theorem qxv {ps:List (Int×Int)} {g:Option Int} (P:Pr ps g) {D:Int} (hD:Bd D) {es:List Int} {ge:Option Int} {EV:List V} (E:EdS EV es ge) (F:Fall (ps.map (·.2)) es ge):∃ fs fg,qxh ps g D EV es ge fs fg:=by
 have l1:(ps.map λp=>cut D p.1 p.2).length=es.length:=by have:=F.len;rw[Ad] at this ⊢;exact this
 have M:=(EdS.of P hD).max E l1;have M':=M;rw[M.eq] at M';refine ⟨_,_,M,(Fall.of P D).max F,qxg _ _ l1,M.eq,?_,M'⟩;rw[<- M.eq];exact qn9 (EdS.of P hD).ed E.ed
section
variable {C R N:Addr} {H H':Hp} {r ru rl:Addr} {q:qa7} {ps ps2:List (Int×Int)} {g g2:Option Int} {d D:Int} {es fs:List Int} {ge fg:Option Int} {rs:List Rd3} {LY LZ:List (List Int)} {Q:VK} {E:XK}
theorem R63.same (e:Same H H') (h:R63 C R H r q ps g d es ge rs LY LZ):R63 C R H' r q ps g d es ge rs LY LZ:={ h with R:=h.R.same e }
theorem R63.cellD (h:R63 C R H r q ps g d es ge rs LY LZ):TB.cellD q=qdy (ps.map (·.2)) es ge:=by unfold TB.cellD;rw[h.qp,h.qe,h.qh]
theorem R63.len (h:R63 C R H r q ps g d es ge rs LY LZ):1<=es.length:=by have:=h.F.len;have:=h.P.good.lo;rw[Ad] at *;omega
theorem R63.take (h:R63 C R H r q ps g d es ge rs LY LZ) (h50:rs.length<=50) (cell':Int->Option (Int×Int)) :
  ∃ LY' LZ',LY'.length<=rs.length/\LZ'.length<=rs.length/\qry cell' LY' LZ' (qcw (qe2 (qdy (ps.map (·.2)) es ge) rs)) (qcz (qe2 (qdy (ps.map (·.2)) es ge) rs)):=by
 obtain ⟨my,mz,sy,sz,h2,hz2⟩:=h.R.skeys;have nr:qAk (10 ^ 36) (qdy (ps.map (·.2)) es ge):=qrz (by rw[Ad];exact h.P.good.lo) h.len (by decide) λw hw=>by
  obtain ⟨p,hp,rfl⟩:=Af.mp hw;obtain ⟨i,hi,e⟩:=AS hp;have:=h.wb p hp;exact ⟨(h.P.good.each i p (by rw[<- e];exact Ac hi)).2,by omega⟩
 have hab:=qr0 nr rs (s:=qss) (N:=0) qBt (by omega) λr hr=>h.hr r hr
 have hN:0+10 ^ 31*(rs.length:Int)<=10 ^ 33:=by omega
 have hab':AbsB (5*10 ^ 45+10 ^ 36) (10 ^ 33) (qe2 (qdy (ps.map (·.2)) es ge) rs):=⟨λk n e=>by obtain ⟨t,v,e1,e2,e3,e4,e5⟩:=hab.y k n e;exact ⟨t,v,e1,e2,e3,e4,by omega⟩,hab.z⟩;have cnt:=qt4 (TagL.of (qw4 (qdy (ps.map (·.2)) es ge) rs)) sy sz;rw[Ad] at cnt;have tk:=qxe (cell:=cell') hab' (by omega) (by omega) sy sz;exact ⟨_,_,by omega,by rw[Az,Ad,Ad];omega,tk⟩
theorem R63.put {t:Rd3} (h:R63 C R H r q ps g d es ge rs LY LZ) (h50:rs.length<50) (ht:RLt t) (k:∀ H',R63 C R H' r q ps g d es ge (rs ++ [t]) ([t.1,t.2.1] :: LY) (qBs (qdy (ps.map (·.2)) es ge) t :: LZ)->But2 q.dy q.dh H H'->Q (.bl (qdy (ps.map (·.2)) es ge t.1).isSome) H'):qgt C R N [.ref r,.int t.1,.int t.2.1,.int t.2.2] H Q E:=by
 have l1:=h.ly;have l2:=h.lz;have ht':=ht;obtain ⟨t1,t2⟩:=ht;have ec:=h.cellD;refine (h.R.mono (E7 [t.1,t.2.1] _) (E7 (qBs (qdy (ps.map (·.2)) es ge) t) _)).putX h.ok (by unfold qmu;omega) t2.2.1 (by unfold qtv;dsimp only;omega) (by rw[AB];omega) (by rw[AB];omega) Ap (λa w e=>by rw[ec] at e;unfold qBs;rw[e];exact Ap) λH3 R3 b3=>?_
 rw[ec] at R3 ⊢;refine k H3 { h with R:=?_,hr:=λr hr=>(AD.mp hr).elim (h.hr r) λz=>by rw[Aj.mp z];exact ht',ly:=by rw[AB,Az,By];omega,lz:=by rw[AB,Az,By];omega } b3;rw[qpb];exact R3
end
end
section
variable {P:Program} {w:World} {K:Frag} {mg:Str->Option Value} {base:Heap} {C_Roll C_Rule C_Book C_BookError C_NoNumber C_NoRule C_Backward C_NoName C_NoMark:Addr}
theorem qfw {n:Nat} (h:n<=20000):n<=sizeLine:=by rw[Bh];omega
def qa6 (n:Int) (x:List Nat):Prop:=1<=x.length/\(x.length:Int)<=n/\∀ c∈x,97<=c/\c<=122
instance (n:Int) (x:List Nat):Decidable (qa6 n x):=inferInstanceAs (Decidable (_/\_/\_))
def qdl (n:Int):V->Bool
 | .str s=>decide (qa6 n s.cps.toList)
 | _=>false
theorem qc1 (n:Int) (x:List Nat):qdl n (.str (S x))=decide (qa6 n x):=rfl
theorem qzx (c:Nat):decide (c∈(Str.ofString "abcdefghijklmnopqrstuvwxyz").cps.toList)=decide (97<=c/\c<=122):=by
 have e:(Str.ofString "abcdefghijklmnopqrstuvwxyz").cps.toList=[97,98,99,100,101,102,103,104,105,106,107,108,109,110,111,112,113,114,115,116,117,118,119,120,121,122]:=by decide +kernel
 rw[e,decide_eq_decide]
 simp
 omega
def qt5:Sp:=λvs H Q _=>∃ v n,vs=[v,.int n]/\TextV H v/\∀ H',Same H H'->Q (.bl (qdl n v)) H'
theorem qfl (T:Txt K mg C_Roll C_Rule C_Book C_BookError C_NoNumber C_NoRule C_Backward C_NoName C_NoMark):qbv P w K mg base 1 "is_small_word" ["thing", "longest"] qt5:=by
 obtain ⟨f,fd,F,hm⟩:=T.f_is_small_word;have nd:=sc_is_small_word.nd;refine F.def_ hm (F.ok sc_is_small_word (λvs H Q E h=>?_) (λcdv A outer s H vs Q E hr h=>?_)) (F.binds λ_ _ _ _ _ _ us hl=>by obtain ⟨_,_,rfl⟩:=L2.lq2 hl;rfl)
 ·obtain ⟨v,n,rfl,_⟩:=h;rfl
 ·obtain ⟨v,n,rfl,hv,q⟩:=h
  refine ⟨_,(qad (qbs (qe5 (qez (qas qhj rfl T.b_isinstance qcc (qaa (pv 0) (qaa (qjq (v:=.ty "str") rfl T.b_str qyo rfl) qac)))))
    (qaf (qan qgl))
    qau)
   (qaf (qan (qfx (qew qx5 qae (qas qk4 rfl T.b_len qee (qaa (pv 0) qac)) (qay _)) (qfx (qew qx5 (qas qk4 rfl T.b_len qee (qaa (pv 0) qac)) (pv 1) (qay _)) (qi7 (qas (qnk rfl) rfl T.b_all qun (qaa (qhy (vars:=["sign"]) (frees:=[]) (fv:=[]) rfl (qkz rfl rfl (by decide +kernel) (by decide +kernel) (by intro p hp;cases hp) rfl) trivial (qzb (pv 0)) (qe7 (by decide)) (λ_ _ _ _=>(qam (i:=0) (show (["sign"]:List Str).Nodup by decide +kernel) rfl (Or.inl rfl))) (λ_ _ _ _=>qbt) (λ_ _ _ _=>(qew qzd (pv 0) (qfz (v:=.str "abcdefghijklmnopqrstuvwxyz") rfl T.c_LETTERS.choose_spec ⟨_,rfl⟩) rfl))) qac)))))))),?_⟩
  rcases hv with ⟨x,rfl,hx⟩|hv
  ·have no:¬ qa6 n x->Q (V.bl false) H:=λz=>by
    have:=q H (Same.refl _);rw[qc1,Ba z] at this;exact this
   refine ⟨_,rfl,_,_,_,_,rfl,.str _,qwj K,_,rfl,qf0 ?_⟩
   walk_at "r"
   refine ⟨qfw (by omega),?_⟩
   walk_at "r"
   by_cases l1:(1:Int)<=x.length
   ·rw[Ak (AF l1)]
    walk_at "r"
    refine ⟨qfw (by omega),?_⟩
    walk_at "r"
    by_cases l2:(x.length:Int)<=n
    ·rw[Ak (AF l2)]
     refine ⟨_,rfl,_,rfl,qzc (x:=x) (λi ys H2=>Same H H2/\ys=(x.take i).map λd=>V.bl (decide (97<=d/\d<=122))) (qfw (by omega)) ⟨Same.refl _,rfl⟩ (λi ys H2 h2=>by rw[h2.2,Ad,Au];omega) ?_ ?_⟩
     ·rintro i d ys H2 hi ⟨s2,rfl⟩
      refine qaz (qnf (qe1 ?_));refine ⟨_,rfl,d,_,rfl,rfl,s2,?_⟩;rw[qzx];exact (qAj _ x i d hi).symm
     ·rintro ys H2 p H3 ⟨s2,rfl⟩ n3
      rw[AO] at n3;refine ⟨p,x.map λd=>decide (97<=d/\d<=122),rfl,SqL.of (by rw[AG];exact n3.at_),?_⟩;have:=q H3 (s2.trans n3.same);have ef:decide (qa6 n x)=(x.map λd=>decide (97<=d/\d<=122)).all id:=by
       rw[CT,decide_eq_true_iff,Dj]
       constructor
       ·intro h b hb
        obtain ⟨d,hd,rfl⟩:=Af.mp hb;exact AF (h.2.2 d hd)
       ·intro h
        refine ⟨by omega,l2,λd hd=>?_⟩;exact AE (h _ (Af.mpr ⟨d,hd,rfl⟩))
      rw[qc1,ef] at this;exact this
    ·rw[Ah (λy=>l2 (AE y))]
     exact no λh=>l2 h.2.1
   ·rw[Ah (λy=>l1 (AE y))]
    exact no λh=>l1 (by have:=h.1;omega)
  ·obtain ⟨t,ty,kt⟩:=OddV.ty (K:=K) hv
   refine ⟨_,rfl,_,_,_,_,rfl,ty,kt,_,rfl,qe1 ?_⟩;have:=q H (Same.refl _)
   rcases hv with rfl|⟨i,rfl⟩|⟨b,rfl⟩|⟨p,xs,rfl,h⟩|⟨p,xs,rfl,h⟩<;>exact this
def qly (n:Int):Sp:=λvs H Q _=>∃ v,vs=[v]/\TextV H v/\∀ H',Same H H'->Q (.bl (qdl n v)) H'
theorem qlz (T:Txt K mg C_Roll C_Rule C_Book C_BookError C_NoNumber C_NoRule C_Backward C_NoName C_NoMark):qbv P w K mg base 2 "is_name" ["thing"] (qly 12):=by
 obtain ⟨f,fd,F,hm⟩:=T.f_is_name;have nd:=sc_is_name.nd;refine F.def_ hm (F.ok sc_is_name (λvs H Q E h=>?_) (λcdv A outer s H vs Q E hr h=>?_)) (F.binds λ_ _ _ _ _ _ us hl=>by obtain ⟨_,rfl⟩:=L2.lq1 hl;rfl)
 ·obtain ⟨v,rfl,_⟩:=h;rfl
 ·obtain ⟨v,rfl,hv,q⟩:=h
  refine ⟨_,(qaf (qan (qat (qfl T) (hr.mono (by decide)) rfl (qaa (pv 0) (qaa (qfz (v:=.int 12) rfl T.c_LONGEST_NAME.choose_spec ⟨_,rfl⟩) qac))))),?_⟩;exact ⟨_,rfl,v,12,rfl,hv,q⟩
theorem qsa (T:Txt K mg C_Roll C_Rule C_Book C_BookError C_NoNumber C_NoRule C_Backward C_NoName C_NoMark):qbv P w K mg base 2 "is_mark" ["thing"] (qly 8):=by
 obtain ⟨f,fd,F,hm⟩:=T.f_is_mark;have nd:=sc_is_mark.nd;refine F.def_ hm (F.ok sc_is_mark (λvs H Q E h=>?_) (λcdv A outer s H vs Q E hr h=>?_)) (F.binds λ_ _ _ _ _ _ us hl=>by obtain ⟨_,rfl⟩:=L2.lq1 hl;rfl)
 ·obtain ⟨v,rfl,_⟩:=h;rfl
 ·obtain ⟨v,rfl,hv,q⟩:=h
  refine ⟨_,(qaf (qan (qat (qfl T) (hr.mono (by decide)) rfl (qaa (pv 0) (qaa (qfz (v:=.int 8) rfl T.c_LONGEST_MARK.choose_spec ⟨_,rfl⟩) qac))))),?_⟩;exact ⟨_,rfl,v,8,rfl,hv,q⟩
theorem qsb:(Str.ofString "")=S []:=by decide +kernel
theorem small_iff {n:Int} {v:V}:qdl n v=true↔∃ x,v=tS x/\qa6 n x:=by
 constructor
 ·intro h
  obtain ⟨s,rfl⟩:∃ s,v=.str s:=by
   cases v<;>first|exact ⟨_,rfl⟩|exact Bool.noConfusion h
  exact ⟨s.cps.toList,by rw[show tS s.cps.toList=V.str (S s.cps.toList) from rfl,qB6],AE h⟩
 ·rintro ⟨x,rfl,h⟩
  rw[qc1];exact AF h
def qb2 (vs:List V):Prop:=(∀ v∈vs,qdl 8 v=true)/\vs.Nodup/\vs.length<=8
theorem qki {n:Int}:∀ {vs:List V},(∀ v∈vs,qdl n v=true)->∃ ms:List (List Nat),vs=ms.map tS/\∀ m∈ms,qa6 n m
 | [],_=>⟨[],rfl,by simp⟩
 | v :: vs,h=>by
  obtain ⟨x,rfl,hx⟩:=small_iff.mp (h v Ap);obtain ⟨ms,rfl,hm⟩:=qki (vs:=vs) λv hv=>h v (An _ hv)
  exact ⟨x :: ms,rfl,λm hm'=>by
   rcases Ai.mp hm' with rfl|z
   ·exact hx
   ·exact hm m z⟩
theorem qch {a b:List Nat} (h:tS a=tS b):a=b:=qwi (V.str.inj h)
theorem qiq {α β:Type} {f:α->β} (inj:∀ a b,f a=f b->a=b):∀ {l:List α},(l.map f).Nodup↔l.Nodup
 | []=>by simp
 | x :: l=>by
  rw[Aw,Bc,Bc,qiq inj];refine and_congr ⟨λh z=>h (Af.mpr ⟨x,z,rfl⟩),λh z=>?_⟩ Iff.rfl;obtain ⟨y,hy,e⟩:=Af.mp z;exact h (inj _ _ e ▸ hy)
theorem ql0 {α:Type} [DecidableEq α]:∀ l:List α,qfa l=l.length↔l.Nodup
 | []=>by simp[qfa]
 | x :: l=>by
  have:=qj6 l;have ih:=ql0 l;unfold qfa;rw[Bc]
  by_cases e:x∈l
  ·rw[Ak e,AB]
   exact ⟨λh=>by omega,λh=>absurd e h.1⟩
  ·rw[Ah e,AB]
   exact ⟨λh=>⟨e,ih.mp (by omega)⟩,λh=>by have:=ih.mpr h.2;omega⟩
def qsc (N:Addr):Sp:=λvs H Q E=>∃ (l:Addr) (us:List V),vs=[.ref l]/\H l=some (.lst us)/\(∀ v∈us,TextV H v)/\us.length<=60/\(qb2 us->∀ H',Same H H'->Q .non H')/\(¬ qb2 us->∀ H',Same H H'->E (.ref N) none H')
theorem qkj (T:Txt K mg C_Roll C_Rule C_Book C_BookError C_NoNumber C_NoRule C_Backward C_NoName C_NoMark):qBe P w K mg base 3 "check_marks" ["marks"] [] (qsc C_NoMark):=by
 obtain ⟨f,fd,F,hm⟩:=T.f_check_marks;have nd:=sc_check_marks.nd;refine ⟨f,fd,(F.okX sc_check_marks (λvs H Q E h=>?_) (λcdv A outer s H vs Q E hr h=>?_)),hm,F.kp,(F.binds λ_ _ _ _ _ _ us hl=>by obtain ⟨_,rfl⟩:=L2.lq1 hl;rfl)⟩
 ·obtain ⟨l,us,rfl,_⟩:=h;rfl
 ·obtain ⟨l,us,rfl,hl,hv,hz,q1,q2⟩:=h
  refine ⟨_,(qad (qbs (qe5 (qez (qas (qnk rfl) rfl T.b_all qun (qaa (qhy (vars:=["mark"]) (frees:=[]) (fv:=[]) rfl (qkz rfl rfl (by decide +kernel) (by decide +kernel) (by intro p hp;cases hp) rfl) trivial (qbp (pv 0)) (qe7 (by decide)) (λ_ _ _ _=>(qam (i:=0) (show (["mark"]:List Str).Nodup by decide +kernel) rfl (Or.inl rfl))) (λ_ _ _ _=>qbt) (λ_ _ _ _=>(qat (qsa T) (hr.mono (by decide)) rfl (qaa (pv 0) qac)))) qac))))
    (qaf (qft (qbk ⟨rfl,rfl,rfl⟩) rfl T.ex_NoMark rfl T.mg_NoMark (qaa qdr qac)))
    qau)
   (qad (qbs (qav qop (qas qrf rfl T.b_len qee (qaa (qb3 (qre rfl) rfl T.b_set qzg (qaa (pv 0) qac)) qac)) (qas qbc rfl T.b_len qee (qaa (pv 0) qac)) (qay _))
    (qaf (qft (qbk ⟨rfl,rfl,rfl⟩) rfl T.ex_NoMark rfl T.mg_NoMark (qaa qdr qac)))
    qau)
   (qaf (qbs (qav qvi (qas qbc rfl T.b_len qee (qaa (pv 0) qac)) (qfz (v:=.int 8) rfl T.c_MOST_MARKS.choose_spec ⟨_,rfl⟩) (qay _))
    (qaf (qft (qbk ⟨rfl,rfl,rfl⟩) rfl T.ex_NoMark rfl T.mg_NoMark (qaa qdr qac)))
    qau)))),?_⟩
  refine ⟨_,rfl,l,rfl,⟨_,SqL.of hl⟩,qei (xs:=us) (λi ys H2=>Same H H2/\ys=(us.take i).map λv=>V.bl (qdl 8 v)) (qfw (by omega)) ⟨Same.refl _,rfl⟩ (λi ys H2 h2=>⟨SqL.of (h2.1 _ _ hl),by rw[h2.2,Ad,Au];omega⟩) ?_ ?_⟩
  ·rintro i v ys H2 hi ⟨s2,rfl⟩
   refine qaz (qnf (qe1 ?_));refine ⟨_,rfl,v,rfl,(hv v (Aq hi)).same s2,λH3 s3=>⟨s2.trans s3,?_⟩⟩;exact (qAj _ us i v hi).symm
  ·rintro ys H2 p H3 ⟨s2,rfl⟩ n3
   rw[AO] at n3;have s03:=s2.trans n3.same;refine ⟨p,us.map λv=>qdl 8 v,rfl,SqL.of (by rw[AG];exact n3.at_),_,rfl,?_⟩
   by_cases a1:∀ v∈us,qdl 8 v=true
   ·have e1:(us.map λv=>qdl 8 v).all id=true:=by
     rw[Dj];intro b hb;obtain ⟨v,hv,rfl⟩:=Af.mp hb;exact a1 v hv
    rw[e1];refine qf0 ?_;obtain ⟨ms,rfl,hm⟩:=qki a1;have hl3:=s03 _ _ hl;rw[show (ms.map tS)=(ms.map S).map V.str by rw[AG];rfl] at hl3;refine ⟨_,rfl,l,ms.map S,rfl,SqL.of hl3,by simp at hz ⊢;omega,λst H4 n4=>?_⟩;have hl4:=n4.same _ _ hl3;have su:=qj6 (ms.map S).reverse;rw[List.length_reverse,Ad] at su;rw[Ad] at hz;refine ⟨st,_,rfl,n4.at_,by omega,_,rfl,l,_,rfl,.inl (SqL.of hl4),rfl,_,rfl,?_⟩;have s04:=s03.trans n4.same;have ed:(!decide (V.int (qfa (ms.map S).reverse:Nat)=V.int (((ms.map S).map V.str).length:Nat))) = !decide (ms.map tS).Nodup:=by
     congr 1
     rw[decide_eq_decide];rw[qiq (λ_ _=>qch),<- qiq (f:=S) (λ_ _=>qwi),<- (List.reverse_perm (ms.map S)).nodup_iff,<- ql0]
     simp
     omega
    rw[ed]
    by_cases a2:(ms.map tS).Nodup
    ·rw[AF a2]
     refine qf0 ?_;refine ⟨_,rfl,l,_,rfl,.inl (SqL.of hl4),_,_,rfl,rfl,_,rfl,?_⟩;refine qjw (λz=>?_) λz=>?_
     ·walk_at "r"
      refine q2 (λh=>?_) H4 s04;have:=AE z;have:=h.2.2
      simp at *
      omega
     ·refine q1 ⟨a1,a2,?_⟩ H4 s04
      have:=of_decide_eq_false (Bool.not_eq_true _ ▸ z)
      simp at *
      omega
    ·rw[Ba a2]
     refine qe1 ?_
     walk_at "r"
     exact q2 (λh=>a2 h.2.1) H4 s04
   ·have e1:(us.map λv=>qdl 8 v).all id=false:=by
     rw[Bool.eq_false_iff];intro h;rw[Dj] at h;exact a1 λv hv=>h _ (Af.mpr ⟨v,hv,rfl⟩)
    rw[e1];refine qe1 ?_
    walk_at "r"
    exact q2 (λh=>a1 h.1) H3 s03
end
section
variable {P:Program} {w:World} {K:Frag} {mg:Str->Option Value} {base:Heap} {C_Roll C_Rule C_Book C_BookError C_NoNumber C_NoRule C_Backward C_NoName C_NoMark:Addr}
abbrev RC:=Addr×qa7×List Rd3×List (List Nat)
abbrev qbf:=List (List Nat×RC)
structure EdOk (B:qbr) (es:List Int) (ge:Option Int):Prop where
 P:Pr B.ps B.g
 wb:∀ p∈B.ps,p.2<=10 ^ 35
 E:EdS (es.map V.int ++ [gv ge]) es ge
 F:Fall (B.ps.map (·.2)) es ge
 dom:List.zipWith gE (eV B.ps B.g B.day) (es.map V.int ++ [gv ge])=es.map V.int ++ [gv ge]
 hd:Bd B.day
structure RB (CR R:Addr) (H:Hp) (B:qbr) (es:List Int) (ge:Option Int) (e:RC):Prop where
 ex:∃ LY LZ,R63 CR R H e.1 e.2.1 B.ps B.g B.day es ge e.2.2.1 LY LZ
 ru:e.2.1.ru=B.ru
 rl:e.2.1.rl=B.rl
 n50:e.2.2.1.length<=50
structure BkC (C CR R:Addr) (H:Hp) (b:Addr) (B:qbr) (es:List Int) (ge:Option Int) (X:qbf):Prop where
 ob:∃ dx,H b=some (.ins C dx (bof B.ru B.day B.le B.dm B.dr))
 rule:RuleAt R H B.ru B.rl B.ps B.g
 ed:H B.le=some (.lst (es.map V.int ++ [gv ge]))
 ms:∃ kvs,H B.dm=some (.dK kvs)/\Ents (λv (e:RC)=>TxtL H v (qbm e.2.2.2)) kvs X
 rs:∃ kvs,H B.dr=some (.dK kvs)/\Ents (λv e=>v=.ref e.1/\RB CR R H B es ge e) kvs X
 ne:B.dm≠B.dr
 ok:EdOk B es ge
section
variable {C CR R b:Addr} {B:qbr} {es:List Int} {ge:Option Int} {X:qbf} {H H':Hp}
theorem RB.same {e:RC} (h:RB CR R H B es ge e) (s:Same H H'):RB CR R H' B es ge e:=⟨let ⟨a,b,r⟩:=h.ex;⟨a,b,r.same s⟩,h.ru,h.rl,h.n50⟩
theorem BkC.same (h:BkC C CR R H b B es ge X) (s:Same H H'):BkC C CR R H' b B es ge X:=
 ⟨let ⟨dx,e⟩:=h.ob;⟨dx,s _ _ e⟩,h.rule.same s,s _ _ h.ed,let ⟨k,e,r⟩:=h.ms;⟨k,s _ _ e,r.imp λ_ _ q=>q.same s⟩,let ⟨k,e,r⟩:=h.rs;⟨k,s _ _ e,r.imp λ_ _ ⟨e1,e2⟩=>⟨e1,e2.same s⟩⟩,h.ne,h.ok⟩
theorem RB.frame {e:RC} {q:qa7} {Y Z:KV} (h:RB CR R H B es ge e) (bu:But2 q.dy q.dh H H') (hy:H q.dy=some (.dT Y)) (hz:H q.dh=some (.dT Z)) (ap:ApartD e.2.1 q):RB CR R H' B es ge e:=
 ⟨let ⟨a,b,r⟩:=h.ex;⟨a,b,{ r with R:=r.R.frame bu hy hz ap.1 ap.2.1 ap.2.2.1 ap.2.2.2 }⟩,h.ru,h.rl,h.n50⟩
theorem TxtL.but2 {v:V} {ms:List (List Nat)} {a c:Addr} {Y Z:KV} (h:TxtL H v ms) (bu:But2 a c H H') (hy:H a=some (.dT Y)) (hz:H c=some (.dT Z)):TxtL H' v ms:=
 let ⟨x,e,q⟩:=h;⟨x,e,bu.keep hy hz q (by intro K z;cases z)⟩
theorem Ents.imp2 {α:Type} {R1 R2:V->α->Prop} {kvs:List (Key×V)} {E:List (List Nat×α)} (h:Ents R1 kvs E) (f:∀ x v a,(x,a)∈E->R1 v a->R2 v a):Ents R2 kvs E:=by
 unfold Ents at h ⊢
 induction h with
 | nil=>exact .nil
 | cons a t ih=>exact .cons ⟨a.1,f _ _ _ Ap a.2⟩ (ih λx v a m=>f x v a (An _ m))
theorem BkC.frame {q:qa7} {Y Z:KV} (h:BkC C CR R H b B es ge X) (bu:But2 q.dy q.dh H H') (hy:H q.dy=some (.dT Y)) (hz:H q.dh=some (.dT Z)) (ap:∀ x e,(x,e)∈X->ApartD e.2.1 q):BkC C CR R H' b B es ge X:=
 ⟨let ⟨dx,e⟩:=h.ob;⟨dx,bu.keep hy hz e (by intro K z;cases z)⟩,h.rule.keep2 bu hy hz,bu.keep hy hz h.ed (by intro K z;cases z),
  let ⟨k,e,r⟩:=h.ms;⟨k,bu.keep hy hz e (by intro K z;cases z),r.imp λ_ _ z=>z.but2 bu hy hz⟩,let ⟨k,e,r⟩:=h.rs;⟨k,bu.keep hy hz e (by intro K z;cases z),r.imp2 λx v a m ⟨e1,e2⟩=>⟨e1,e2.frame bu hy hz (ap x a m)⟩⟩,h.ne,h.ok⟩
def XOk (X:qbf):Prop:=X.Pairwise λp p'=>p.1≠p'.1/\ApartD p.2.2.1 p'.2.2.1
theorem ApartD.symm {a b:qa7} (h:ApartD a b):ApartD b a:=⟨h.1.symm,h.2.2.1.symm,h.2.1.symm,h.2.2.2.symm⟩
theorem XOk.one (h:XOk X) {x:List Nat} {e e':RC} (h1:(x,e)∈X) (h2:(x,e')∈X):e=e':=by
 unfold XOk at h
 induction X with
 | nil=>cases h1
 | cons p X ih =>
  rw[BQ] at h
  rcases Ai.mp h1 with z1|z1<;>rcases Ai.mp h2 with z2|z2
  ·exact (Fj (z1.trans z2.symm)).2
  ·exact absurd (show p.1=x by rw[<- z1]) (h.1 _ z2).1
  ·exact absurd (show p.1=x by rw[<- z2]) (h.1 _ z1).1
  ·exact ih h.2 z1 z2
theorem XOk.apart (h:XOk X) {x y:List Nat} {e e':RC} (h1:(x,e)∈X) (h2:(y,e')∈X) (n:y≠x):ApartD e'.2.1 e.2.1:=by
 unfold XOk at h
 induction X with
 | nil=>cases h1
 | cons p X ih =>
  rw[BQ] at h
  rcases Ai.mp h1 with z1|z1<;>rcases Ai.mp h2 with z2|z2
  ·exact absurd (Fj (z1.trans z2.symm)).1.symm n
  ·have:=(h.1 _ z2).2;rw[<- z1] at this;exact this.symm
  ·have:=(h.1 _ z1).2;rw[<- z2] at this;exact this
  ·exact ih h.2 z1 z2
def qiy (x:List Nat) (r:Rd3) (p:List Nat×RC):List Nat×RC:=if p.1=x then (p.1,p.2.1,p.2.2.1,p.2.2.2.1 ++ [r],p.2.2.2.2) else p
theorem qgj (x:List Nat) (r:Rd3) (p:List Nat×RC):(qiy x r p).1=p.1:=by unfold qiy;split<;>rfl
theorem qob (x:List Nat) (r:Rd3) (p:List Nat×RC):(qiy x r p).2.2.1=p.2.2.1:=by unfold qiy;split<;>rfl
theorem qu6 (x:List Nat) (r:Rd3) (p:List Nat×RC):(qiy x r p).2.1=p.2.1:=by unfold qiy;split<;>rfl
theorem qsd (x:List Nat) (r:Rd3) (p:List Nat×RC):(qiy x r p).2.2.2.2=p.2.2.2.2:=by unfold qiy;split<;>rfl
theorem XOk.add (h:XOk X) (x:List Nat) (r:Rd3):XOk (X.map (qiy x r)):=by
 unfold XOk at h ⊢;rw[CG];exact h.imp fun {p p'} z=>by rw[qgj,qgj,qob,qob];exact z
theorem Ents.map2 {α β:Type} {R1:V->α->Prop} {R2:V->β->Prop} {kvs:List (Key×V)} {E:List (List Nat×α)} {f:List Nat×α->List Nat×β} (h:Ents R1 kvs E) (h1:∀ p,(f p).1=p.1) (g:∀ p∈E,∀ v,R1 v p.2->R2 v (f p).2):Ents R2 kvs (E.map f):=by
 unfold Ents at h ⊢
 induction h with
 | nil=>exact .nil
 | cons a t ih=>exact .cons ⟨by rw[h1];exact a.1,g _ Ap _ a.2⟩ (ih λp m=>g p (An _ m))
theorem BkC.put {x:List Nat} {e:RC} {r:Rd3} {Y Z:KV} (h:BkC C CR R H b B es ge X) (ok:XOk X) (hx:(x,e)∈X) (bu:But2 e.2.1.dy e.2.1.dh H H') (hy:H e.2.1.dy=some (.dT Y)) (hz:H e.2.1.dh=some (.dT Z)) (R':RB CR R H' B es ge (e.1,e.2.1,e.2.2.1 ++ [r],e.2.2.2)):BkC C CR R H' b B es ge (X.map (qiy x r)):=by
 refine ⟨let ⟨dx,e⟩:=h.ob;⟨dx,bu.keep hy hz e (by intro K z;cases z)⟩,h.rule.keep2 bu hy hz,bu.keep hy hz h.ed (by intro K z;cases z),?_,?_,h.ne,h.ok⟩
 ·obtain ⟨k,e1,q⟩:=h.ms
  exact ⟨k,bu.keep hy hz e1 (by intro K z;cases z),q.map2 (qgj x r) λp _ v z=>by rw[qsd];exact z.but2 bu hy hz⟩
 ·obtain ⟨k,e1,q⟩:=h.rs
  refine ⟨k,bu.keep hy hz e1 (by intro K z;cases z),q.map2 (qgj x r) λp hp v z=>⟨by rw[qu6];exact z.1,?_⟩⟩
  by_cases n:p.1=x
  ·have ep:p.2=e:=ok.one (x:=x) (by rw[<- n];exact hp) hx
   unfold qiy;rw[Ak n,ep];exact R'
  ·unfold qiy
   rw[Ah n];exact z.2.frame bu hy hz (ok.apart hx (y:=p.1) hp n)
end
theorem qpm (es:List Int) (ge:Option Int):Later es es ge ge where
 len:=rfl
 up:=λi x y hx hy=>by rw[hx] at hy;cases hy;exact DA _
 gn:=λz hz=>⟨z,hz,DA _⟩
theorem EdOk.up {B:qbr} {es:List Int} {ge:Option Int} (h:EdOk B es ge):qxh B.ps B.g B.day (es.map V.int ++ [gv ge]) es ge es ge:=
 ⟨by rw[h.dom];exact h.E,h.F,qpm _ _,h.dom,h.dom,h.E⟩
theorem EdOk.of {ru rl le dm dr:Addr} {ps:List (Int×Int)} {g:Option Int} {day:Int} (P:Pr ps g) (wb:∀ p∈ps,p.2<=10 ^ 35) (hd:Bd day):EdOk ⟨ru,rl,le,dm,dr,ps,g,day⟩ (ps.map λp=>cut day p.1 p.2) (g.map λz=>cut day z (lw ps)):=by
 have Ex:=EdS.of P hd;have Ex':=Ex;rw[Ex.eq] at Ex';refine ⟨P,wb,Ex',Fall.of P day,?_,hd⟩
 show List.zipWith gE (eV ps g day) _=_
 rw[<- Ex.eq];exact qoa Ex.ed
inductive ql1 (C CR R:Addr) (vs:List V) (H:Hp) (Q:VK) (E_:XK):Prop
 | mk:∀ (b dx ru rl:Addr) (ps:List (Int×Int)) (g:Option Int) (day:Int),vs=[.ref b,.ref ru,.int day]->H b=some (.ins C dx [])->RuleAt R H ru rl ps g->Pr ps g->(∀ p∈ps,p.2<=10 ^ 35)->Bd day->(∀ le dm dr H',BkC C CR R H' b ⟨ru,rl,le,dm,dr,ps,g,day⟩ (ps.map λp=>cut day p.1 p.2) (g.map λz=>cut day z (lw ps)) []->H le=none->H dm=none->H dr=none->But b H H'->Q .non H')->ql1 C CR R vs H Q E_
theorem qoc (T:Txt K mg C_Roll C_Rule C_Book C_BookError C_NoNumber C_NoRule C_Backward C_NoName C_NoMark):qAh P w K mg base C_Book 4 "Book" ["self", "rule", "day"] [] (ql1 C_Book C_Roll C_Rule):=by
 obtain ⟨f,fd,F,M⟩:=T.f_Book_init;have nd:=sc_Book_init.nd;refine ⟨f,fd,(F.ok sc_Book_init (λvs H Q E h=>?_) (λcdv A outer s H vs Q E hr h=>?_)),T.mg_Book,M,(F.binds λ_ _ _ _ _ _ us hl=>by obtain ⟨_,_,_,rfl⟩:=L2.lq3 hl;rfl)⟩
 ·obtain ⟨ro,dx,ru,rl,ps,g,day,rfl,_⟩:=h;rfl
 ·obtain ⟨ro,dx,ru,rl,ps,g,day,rfl,hro,R,Pg,wb,hd,q⟩:=h
  obtain ⟨dx2,hru⟩:=R.ob;have nru:ru≠ro:=qa0 hru hro (by intro z;injection z with _ _ z;have:=qrn rl (gv g);rw[z] at this;cases this);refine ⟨_,(qad (qcr (pv 0) (pv 1) rfl)
   (qad (qcr (pv 0) (pv 2) rfl)
   (qad (qcr (pv 0) (qat (qjg T) (hr.mono (by decide)) rfl (qaa (pv 1) (qaa (pv 2) qac))) rfl)
   (qad (qcr (pv 0) qk3 rfl)
   (qaf (qcr (pv 0) qk3 rfl)))))),?_⟩
  refine ⟨_,rfl,_,rfl,ro,C_Book,dx,[],rfl,hro,T.cl_Book,T.na_Book_kept_rule,(by show 0<1000;decide),λH1 b1 h1=>?_⟩;refine ⟨_,rfl,_,rfl,ro,C_Book,dx,_,rfl,h1,T.cl_Book,T.na_Book_kept_day,(by show 1<1000;decide),λH2 b2 h2=>?_⟩;have R2:=(R.but2 b1 hro qeh (by intro xs z;cases z) nru).but2 b2 h1 qeh (by intro xs z;cases z) nru;refine ⟨_,rfl,_,rfl,ru,rl,ps,g,day,rfl,R2,Pg,hd,λle H3 n3=>?_⟩;refine ⟨_,rfl,ro,C_Book,dx,_,rfl,n3.same _ _ h2,T.cl_Book,T.na_Book_kept_edges,(by show 2<1000;decide),λH4 b4 h4=>?_⟩;intro dy H5 n5;refine ⟨_,rfl,ro,C_Book,dx,_,rfl,n5.same _ _ h4,T.cl_Book,T.na_Book_kept_marks,(by show 3<1000;decide),λH6 b6 h6=>?_⟩;intro dh H7 n7;refine ⟨_,rfl,ro,C_Book,dx,_,rfl,n7.same _ _ h6,T.cl_Book,T.na_Book_kept_rolls,(by show 4<1000;decide),λH8 b8 h8=>?_⟩;have R8:=((((R2.same n3.same).but2 b4 (n3.same _ _ h2) qeh (by intro xs z;cases z) nru).same n5.same |>.but2 b6 (n5.same _ _ h4) qeh (by intro xs z;cases z) nru).same n7.same).but2 b8 (n7.same _ _ h6) qeh (by intro xs z;cases z) nru;have bb:But ro H H8:=λb o e hb=>b8 _ _ (n7.same _ _ (b6 _ _ (n5.same _ _ (b4 _ _ (n3.same _ _ (b2 _ _ (b1 _ _ e hb) hb)) hb)) hb)) hb
  have e4:H4 le=some (.lst (eV ps g day)):=b4 _ _ n3.at_ (qa0 n3.at_ (n3.same _ _ h2) (by intro z;cases z));have e6:H6 dy=some (.dK []):=b6 _ _ n5.at_ (qa0 n5.at_ (n5.same _ _ h4) (by intro z;cases z));have fb:∀ {G G':Hp} {o:HO},(∀ b o,G b=some o->b≠ro->G' b=some o)->G' ro=some o->∀ b,G' b=none->G b=none:=fun {G G' o} k1 k2 b h0=>by
   cases e:G b with
   | none=>rfl
   | some u =>
    by_cases hb:b=ro
    ·subst hb;rw[k2] at h0;cases h0
    ·rw[k1 b u e hb] at h0;cases h0
  have fr2:=fb (G:=H) (G':=H2) (λb o e hb=>b2 _ _ (b1 _ _ e hb) hb) h2;have fr4:=fb (G:=H2) (G':=H4) (λb o e hb=>b4 _ _ (n3.same _ _ e) hb) h4;have fr6:=fb (G:=H4) (G':=H6) (λb o e hb=>b6 _ _ (n5.same _ _ e) hb) h6;refine q le dy dh H8 ⟨⟨dx,h8⟩,R8,?_,⟨[],?_,.nil⟩,⟨[],?_,.nil⟩,qag e6 n7.fresh,EdOk.of Pg wb hd⟩ (fr2 _ n3.fresh) (fr2 _ (fr4 _ n5.fresh)) (fr2 _ (fr4 _ (fr6 _ n7.fresh))) bb
  ·have e8:=b8 _ _ (n7.same _ _ (b6 _ _ (n5.same _ _ e4) (qa0 (n5.same _ _ e4) (n5.same _ _ h4) (by intro z;cases z)))) (qa0 (n7.same _ _ (b6 _ _ (n5.same _ _ e4) (qa0 (n5.same _ _ e4) (n5.same _ _ h4) (by intro z;cases z)))) (n7.same _ _ h6) (by intro z;cases z))
   show H8 le=some (.lst (((ps.map λp=>cut day p.1 p.2).map V.int) ++ [gv (g.map λz=>cut day z (lw ps))]))
   rw[<- (EdS.of Pg hd).eq];exact e8
  ·exact b8 _ _ (n7.same _ _ e6) (qa0 (n7.same _ _ e6) (n7.same _ _ h6) (by intro z;cases z))
  ·exact b8 _ _ n7.at_ (qa0 n7.at_ (n7.same _ _ h6) (by intro z;cases z))
inductive qjh (C CR R:Addr) (vs:List V) (H:Hp) (Q:VK) (E_:XK):Prop
 | mk:∀ (b:Addr) (B:qbr) (es:List Int) (ge:Option Int) (X:qbf),vs=[.ref b]->BkC C CR R H b B es ge X->X.length<64->(∀ l H',New H H' l (.lst ((qbm (X.map (·.1))).map tS))->Q (.ref l) H')->qjh C CR R vs H Q E_
theorem qel (T:Txt K mg C_Roll C_Rule C_Book C_BookError C_NoNumber C_NoRule C_Backward C_NoName C_NoMark):qgo P w K mg base C_Book 1 "names" ["self"] (qjh C_Book C_Roll C_Rule):=by
 obtain ⟨f,fd,F,hm⟩:=T.f_Book_names;have nd:=sc_Book_names.nd;refine ⟨f,fd,(F.ok sc_Book_names (λvs H Q E h=>?_) (λcdv A outer s H vs Q E hr h=>?_)),hm,(F.binds λ_ _ _ _ _ _ us hl=>by obtain ⟨_,rfl⟩:=L2.lq1 hl;rfl)⟩
 ·obtain ⟨b,B,es,ge,X,rfl,_⟩:=h;rfl
 ·obtain ⟨b,B,es,ge,X,rfl,A',hz,q⟩:=h
  obtain ⟨dx,hob⟩:=A'.ob;obtain ⟨kvs,hk,en⟩:=A'.rs;refine ⟨_,(qaf (qan (qas (qi3 rfl) rfl T.b_sorted qe8 (qaa (qbj (pv 0) rfl) qac)))),?_⟩;exact ⟨_,rfl,b,C_Book,dx,_,_,rfl,hob,T.cl_Book,T.na_Book_kept_rolls,qls _ _ _ _ _,B.dr,kvs,X.map (·.1),rfl,.inl hk,en.keys,by simpa using hz,q⟩
inductive ql2 (C CR R:Addr) (vs:List V) (H:Hp) (Q:VK) (E_:XK):Prop
 | mk:∀ (b:Addr) (B:qbr) (es:List Int) (ge:Option Int) (X:qbf),vs=[.ref b]->BkC C CR R H b B es ge X->Q (.ref B.ru) H->ql2 C CR R vs H Q E_
inductive qkk (C CR R:Addr) (vs:List V) (H:Hp) (Q:VK) (E_:XK):Prop
 | mk:∀ (b:Addr) (B:qbr) (es:List Int) (ge:Option Int) (X:qbf),vs=[.ref b]->BkC C CR R H b B es ge X->Q (.int B.day) H->qkk C CR R vs H Q E_
inductive qji (C CR R:Addr) (vs:List V) (H:Hp) (Q:VK) (E_:XK):Prop
 | mk:∀ (b:Addr) (B:qbr) (es:List Int) (ge:Option Int) (X:qbf),vs=[.ref b]->BkC C CR R H b B es ge X->(∀ p H',New H H' p (.lst (es.map V.int ++ [gv ge]))->Q (.ref p) H')->qji C CR R vs H Q E_
theorem qf7 (T:Txt K mg C_Roll C_Rule C_Book C_BookError C_NoNumber C_NoRule C_Backward C_NoName C_NoMark):qgo P w K mg base C_Book 1 "rule" ["self"] (ql2 C_Book C_Roll C_Rule):=by
 obtain ⟨f,fd,F,hm⟩:=T.f_Book_rule;have nd:=sc_Book_rule.nd;refine ⟨f,fd,(F.ok sc_Book_rule (λvs H Q E h=>?_) (λcdv A outer s H vs Q E hr h=>?_)),hm,(F.binds λ_ _ _ _ _ _ us hl=>by obtain ⟨_,rfl⟩:=L2.lq1 hl;rfl)⟩
 ·obtain ⟨b,B,es,ge,X,rfl,_⟩:=h;rfl
 ·obtain ⟨b,B,es,ge,X,rfl,A',q⟩:=h
  obtain ⟨dx,hob⟩:=A'.ob;refine ⟨_,(qaf (qan (qbj (pv 0) rfl))),?_⟩;exact ⟨_,rfl,b,C_Book,dx,_,_,rfl,hob,T.cl_Book,T.na_Book_kept_rule,qu3 _ _ _ _ _,q⟩
theorem qfu (T:Txt K mg C_Roll C_Rule C_Book C_BookError C_NoNumber C_NoRule C_Backward C_NoName C_NoMark):qgo P w K mg base C_Book 1 "day" ["self"] (qkk C_Book C_Roll C_Rule):=by
 obtain ⟨f,fd,F,hm⟩:=T.f_Book_day;have nd:=sc_Book_day.nd;refine ⟨f,fd,(F.ok sc_Book_day (λvs H Q E h=>?_) (λcdv A outer s H vs Q E hr h=>?_)),hm,(F.binds λ_ _ _ _ _ _ us hl=>by obtain ⟨_,rfl⟩:=L2.lq1 hl;rfl)⟩
 ·obtain ⟨b,B,es,ge,X,rfl,_⟩:=h;rfl
 ·obtain ⟨b,B,es,ge,X,rfl,A',q⟩:=h
  obtain ⟨dx,hob⟩:=A'.ob;refine ⟨_,(qaf (qan (qbj (pv 0) rfl))),?_⟩;exact ⟨_,rfl,b,C_Book,dx,_,_,rfl,hob,T.cl_Book,T.na_Book_kept_day,qr5 _ _ _ _ _,q⟩
theorem qfm (T:Txt K mg C_Roll C_Rule C_Book C_BookError C_NoNumber C_NoRule C_Backward C_NoName C_NoMark):qgo P w K mg base C_Book 1 "edges" ["self"] (qji C_Book C_Roll C_Rule):=by
 obtain ⟨f,fd,F,hm⟩:=T.f_Book_edges;have nd:=sc_Book_edges.nd;refine ⟨f,fd,(F.ok sc_Book_edges (λvs H Q E h=>?_) (λcdv A outer s H vs Q E hr h=>?_)),hm,(F.binds λ_ _ _ _ _ _ us hl=>by obtain ⟨_,rfl⟩:=L2.lq1 hl;rfl)⟩
 ·obtain ⟨b,B,es,ge,X,rfl,_⟩:=h;rfl
 ·obtain ⟨b,B,es,ge,X,rfl,A',q⟩:=h
  obtain ⟨dx,hob⟩:=A'.ob;refine ⟨_,(qaf (qan (qb3 qb0 rfl T.b_list qen (qaa (qbj (pv 0) rfl) qac)))),?_⟩;exact ⟨_,rfl,b,C_Book,dx,_,_,rfl,hob,T.cl_Book,T.na_Book_kept_edges,qr6 _ _ _ _ _,B.le,_,rfl,.inl (SqL.of A'.ed),q⟩
def qi5 (X:qbf) (v:V):Prop:=∃ x,v=tS x/\qa6 12 x/\x∈X.map (·.1)
inductive qjj (C CR R N:Addr) (vs:List V) (H:Hp) (Q:VK) (E:XK):Prop
 | mk:∀ (b:Addr) (B:qbr) (es:List Int) (ge:Option Int) (X:qbf) (v:V),vs=[.ref b,v]->BkC C CR R H b B es ge X->TextV H v->(qi5 X v->∀ H',Same H H'->Q .non H')->(¬ qi5 X v->∀ H',Same H H'->E (.ref N) none H')->qjj C CR R N vs H Q E
theorem qdm (T:Txt K mg C_Roll C_Rule C_Book C_BookError C_NoNumber C_NoRule C_Backward C_NoName C_NoMark):qv3 P w K mg base C_Book 3 "check_enrolled" ["self", "name"] [] (qjj C_Book C_Roll C_Rule C_NoName):=by
 obtain ⟨f,fd,F,hm⟩:=T.f_Book_check_enrolled;have nd:=sc_Book_check_enrolled.nd;refine ⟨f,fd,(F.okX sc_Book_check_enrolled (λvs H Q E h=>?_) (λcdv A outer s H vs Q E hr h=>?_)),hm,(F.binds λ_ _ _ _ _ _ us hl=>by obtain ⟨_,_,rfl⟩:=L2.lq2 hl;rfl)⟩
 ·obtain ⟨b,B,es,ge,X,v,rfl,_⟩:=h;rfl
 ·obtain ⟨b,B,es,ge,X,v,rfl,A',hv,q1,q2⟩:=h
  obtain ⟨dx,hob⟩:=A'.ob;obtain ⟨kvs,hk,en⟩:=A'.rs;refine ⟨_,(qaf (qbs (PW.pt (qkn (qe5 (qez (qat (qlz T) (hr.mono (by decide)) rfl (qaa (pv 1) qac)))) (qhl (qpy (qqj (qgd hr) (pv 1) (qbj (pv 0) rfl))))))
    (qaf (qft (qbk ⟨rfl,rfl,rfl⟩) rfl T.ex_NoName rfl T.mg_NoName (qaa qdr qac)))
    qau)),?_⟩
  refine ⟨_,rfl,v,rfl,hv,λH1 s1=>⟨_,rfl,?_⟩⟩
  cases hs:qdl 12 v with
  | false =>
   refine qe1 ?_
   walk_at "r"
   refine q2 (fun ⟨x,e,hx,_⟩=>?_) H1 s1;rw[small_iff.mpr ⟨x,e,hx⟩] at hs;cases hs
  | true =>
   refine qf0 ?_;obtain ⟨x,rfl,hx⟩:=small_iff.mp hs;refine ⟨_,rfl,_,rfl,b,C_Book,dx,_,_,rfl,s1 _ _ hob,T.cl_Book,T.na_Book_kept_rolls,qls _ _ _ _ _,B.dr,_,rfl,DGet.k (k:=kS x) (s1 _ _ hk),_,rfl,?_⟩
   by_cases hin:x∈X.map (·.1)
   ·obtain ⟨u,a,e1,_,_⟩:=en.has hin
    rw[e1];refine qf0 ?_;exact q1 ⟨x,rfl,hx,hin⟩ H1 s1
   ·rw[en.hasn hin]
    refine qe1 ?_
    walk_at "r"
    refine q2 (fun ⟨y,e,_,hy⟩=>hin ?_) H1 s1;rw[qch e];exact hy
inductive qod (C CR R N:Addr) (vs:List V) (H:Hp) (Q:VK) (E:XK):Prop
 | mk:∀ (b:Addr) (B:qbr) (es:List Int) (ge:Option Int) (X:qbf) (v:V),vs=[.ref b,v]->BkC C CR R H b B es ge X->TextV H v->(∀ x e,v=tS x->qa6 12 x->(x,e)∈X->RB CR R H B es ge e->∀ H',Same H H'->Q (.ref e.1) H')->(¬ qi5 X v->∀ H',Same H H'->E (.ref N) none H')->qod C CR R N vs H Q E
theorem qcu (T:Txt K mg C_Roll C_Rule C_Book C_BookError C_NoNumber C_NoRule C_Backward C_NoName C_NoMark):qv3 P w K mg base C_Book 4 "own_roll" ["self", "name"] [] (qod C_Book C_Roll C_Rule C_NoName):=by
 obtain ⟨f,fd,F,hm⟩:=T.f_Book_own_roll;have nd:=sc_Book_own_roll.nd;refine ⟨f,fd,(F.okX sc_Book_own_roll (λvs H Q E h=>?_) (λcdv A outer s H vs Q E hr h=>?_)),hm,(F.binds λ_ _ _ _ _ _ us hl=>by obtain ⟨_,_,rfl⟩:=L2.lq2 hl;rfl)⟩
 ·obtain ⟨b,B,es,ge,X,v,rfl,_⟩:=h;rfl
 ·obtain ⟨b,B,es,ge,X,v,rfl,A',hv,q1,q2⟩:=h
  obtain ⟨dx,hob⟩:=A'.ob;refine ⟨_,(qad (qa9 (qc4 (qbk ⟨rfl,rfl,rfl⟩) (pv 0) T.cl_Book (qdm T) (hr.mono (by decide)) .nil (qaa (pv 1) qac)))
   (qaf (qan (qhu (qgd hr) (qbj (pv 0) rfl) (pv 1) (λ_ _=>rfl))))),?_⟩
  refine ⟨_,rfl,b,dx,_,rfl,hob,qe0 _ _ _ _ _ (by decide +kernel) (by decide +kernel) (by decide +kernel) (by decide +kernel) (by decide +kernel),_,rfl,b,B,es,ge,X,v,rfl,A',hv,λhin H1 s1=>?_,λhn H1 s1=>q2 hn H1 s1⟩;obtain ⟨x,rfl,hx,hxE⟩:=hin;obtain ⟨kvs,hk,en⟩:=A'.rs;obtain ⟨u,a,e1,e2,rfl,re⟩:=en.has hxE;have g:=DGet.k (k:=kS x) (s1 _ _ hk);rw[e1] at g;exact ⟨_,rfl,b,C_Book,dx,_,_,rfl,s1 _ _ hob,T.cl_Book,T.na_Book_kept_rolls,qls _ _ _ _ _,_,rfl,B.dr,_,rfl,g,q1 x a rfl hx e2 re H1 s1⟩
end
section
variable {P:Program} {w:World} {K:Frag} {mg:Str->Option Value} {base:Heap} {C_Roll C_Rule C_Book C_BookError C_NoNumber C_NoRule C_Backward C_NoName C_NoMark:Addr}
inductive qkl (C CR R N M:Addr) (vs:List V) (H:Hp) (Q:VK) (E:XK):Prop
 | mk:∀ (b:Addr) (B:qbr) (es:List Int) (ge:Option Int) (X:qbf) (v:V) (t va m:Int),vs=[.ref b,v,.int t,.int va,.int m]->BkC C CR R H b B es ge X->TextV H v->qmu t->(1<=m->RLt (t,va,m))->(∀ x e,(x,e)∈X->e.2.2.1.length<50)->(¬ qi5 X v->∀ H',Same H H'->E (.ref N) none H')->(∀ x e,v=tS x->qa6 12 x->(x,e)∈X->m<1->∀ H',Same H H'->E (.ref M) none H')->(∀ x e,v=tS x->qa6 12 x->(x,e)∈X->1<=m->∀ H',But2 e.2.1.dy e.2.1.dh H H'->RB CR R H' B es ge (e.1,e.2.1,e.2.2.1 ++ [(t,va,m)],e.2.2.2)->Q (.bl (qdy (B.ps.map (·.2)) es ge t).isSome) H')->qkl C CR R N M vs H Q E
theorem qpn (T:Txt K mg C_Roll C_Rule C_Book C_BookError C_NoNumber C_NoRule C_Backward C_NoName C_NoMark):∃ f fd dT o n t,qhd P w K mg base (CX1 P w) 5 f fd ["self", "name", "time", "value", "many"] (qkl C_Book C_Roll C_Rule C_NoName C_NoNumber)/\FunD K "put" "Book.put" qdw (.ref dT) f fd/\qgz K C_Book "put" f/\fd.defaults=.ref dT/\K.lookup dT=some o/\o.data=.seq #[.int 1 t] n:=by
 obtain ⟨f,fd,dT,o,n,t,F,M,h1,h2,h3⟩:=T.f_Book_put;have nd:=sc_Book_put.nd;refine ⟨f,fd,dT,o,n,t,(F.okX sc_Book_put (λvs H Q E h=>?_) (λcdv A outer s H vs Q E hr h=>?_)),F,M,h1,h2,h3⟩
 ·obtain ⟨b,B,es,ge,X,v,t,va,m,rfl,_⟩:=h;rfl
 ·obtain ⟨b,B,es,ge,X,v,t,va,m,rfl,A',hv,ht,hrl,h50,q1,q2,q3⟩:=h
  obtain ⟨dx,hob⟩:=A'.ob;refine ⟨_,(qaf (qan (qc4 (qbk ⟨rfl,rfl,rfl⟩) (qc4 (qbk ⟨rfl,rfl,rfl⟩) (pv 0) T.cl_Book (qcu T) (hr.mono (by decide)) .nil (qaa (pv 1) qac)) T.cl_Roll (qg7 T) (hr.mono (by decide)) .nil (qaa (pv 2) (qaa (pv 3) (qaa (pv 4) qac)))))),?_⟩;refine ⟨_,rfl,b,dx,_,rfl,hob,qe0 _ _ _ _ _ (by decide +kernel) (by decide +kernel) (by decide +kernel) (by decide +kernel) (by decide +kernel),_,rfl,b,B,es,ge,X,v,rfl,A',hv,λx e ev hx hm re H1 s1=>?_,λhn H1 s1=>q1 hn H1 s1⟩;obtain ⟨LY,LZ,r⟩:=re.ex;have r1:=r.same s1;obtain ⟨dx1,hob1⟩:=r1.R.obj;have l1:=r1.ly;have l2:=r1.lz;have l5:=h50 x e hm;refine ⟨e.1,dx1,_,rfl,hob1,qru _ _ _ _ _,_,rfl,_,rfl,_,rfl,?_⟩;simp only[qm8,Br,Bx,Be]
  by_cases hm1:1<=m
  ·refine r1.put (t:=(t,va,m)) l5 (hrl hm1) λH2 R2 b2=>?_
   exact q3 x e ev hx hm hm1 H2 (λc o z n1 n2=>b2 _ _ (s1 _ _ z) n1 n2) ⟨⟨_,_,R2⟩,re.ru,re.rl,by show (e.2.2.1 ++ [_]).length<=50;rw[Az,By];omega⟩
  ·exact r1.R.putN r1.ok ht (by omega) (by omega) (by omega) (q2 x e ev hx hm (by omega) H1 s1)
theorem qha (T:Txt K mg C_Roll C_Rule C_Book C_BookError C_NoNumber C_NoRule C_Backward C_NoName C_NoMark):qv3 P w K mg base C_Book 5 "put" ["self", "name", "time", "value", "many"] [] (qkl C_Book C_Roll C_Rule C_NoName C_NoNumber):=by
 obtain ⟨f,fd,dT,o,n,t,hf,F,M,h1,h2,h3⟩:=qpn (P:=P) (w:=w) (base:=base) T;refine ⟨f,fd,hf,M,qjy h1 h2 h3 λus hl=>?_⟩;obtain ⟨oc,od,kV,doc,pm,an,cdv,ct,osl,rfl,lk,hcd⟩:=F.ex;obtain ⟨_,_,_,_,_,rfl⟩:=L2.lq5 (us:=us) (by simpa using hl);exact ⟨_,rfl,rfl⟩
def rmS (H:Hp) (L:List Addr):Hp:=λc=>if c∈L then none else H c
section
variable {H H':Hp} {L:List Addr}
theorem qdu {c:Addr} {o:HO} (h:H c=some o) (n:c ∉ L):rmS H L c=some o:=by unfold rmS;rw[Ah n];exact h
theorem qfn {c:Addr} {o:HO} (h:rmS H L c=some o):H c=some o/\c ∉ L:=by
 unfold rmS at h
 split at h
 ·cases h
 ·rename_i n;exact ⟨h,n⟩
theorem qxi:Same (rmS H L) H:=λc o e=>(qfn e).1
theorem qoe (s:Same H H'):Same (rmS H L) (rmS H' L):=λc o e=>qdu (s _ _ (qfn e).1) (qfn e).2
theorem qse {d:Addr} (b:But d H H'):But d (rmS H L) (rmS H' L):=λc o e n=>qdu (b _ _ (qfn e).1 n) (qfn e).2
end
def LsL (H:Hp) (L:List Addr):Prop:=∀ l∈L,∃ zs,H l=some (.lst zs)
theorem LsL.no {H:Hp} {L:List Addr} (h:LsL H L) {c:Addr} {o:HO} (e:H c=some o) (n:∀ zs,o≠.lst zs):c ∉ L:=λz=>by
 obtain ⟨zs,q⟩:=h c z;rw[q] at e;exact n zs (AH e).symm
theorem LsL.same {H H':Hp} {L:List Addr} (h:LsL H L) (s:Same H H'):LsL H' L:=λl hl=>let ⟨zs,e⟩:=h l hl;⟨zs,s _ _ e⟩
section
variable {H:Hp} {L:List Addr}
theorem Pairs.rmS (hL:LsL H L):∀ {xs:List V} {ps:List (Int×Int)},Pairs H xs ps->Pairs (TB.rmS H L) xs ps
 | _,_,.nil=>.nil
 | _,_,.cons ⟨a,e,q⟩ t=>.cons ⟨a,e,qdu q (hL.no q (by intro zs z;cases z))⟩ (Pairs.rmS hL t)
theorem RuleAt.rmS {R r l:Addr} {ps:List (Int×Int)} {g:Option Int} (hL:LsL H L) (h:RuleAt R H r l ps g) (n:l ∉ L):RuleAt R (TB.rmS H L) r l ps g:=
 ⟨let ⟨dx,e⟩:=h.ob;⟨dx,qdu e (hL.no e (by intro zs z;cases z))⟩,let ⟨xs,e,p⟩:=h.ls;⟨xs,qdu e n,Pairs.rmS hL p⟩⟩
theorem RR.rmS {C R ro:Addr} {c:qa7} {s:Abs} {LY LZ:List (List Int)} (hL:LsL H L) (h:RR C R H ro c s LY LZ) (n1:c.le ∉ L) (n2:c.rl ∉ L):RR C R (TB.rmS H L) ro c s LY LZ:=by
 obtain ⟨Y,Z,A,Bs⟩:=h;obtain ⟨dx,e⟩:=A.ob;refine ⟨Y,Z,⟨⟨dx,qdu e (hL.no e (by intro zs z;cases z))⟩,A.rule.rmS hL n2,qdu A.ed n1,qdu A.yo (hL.no A.yo (by intro zs z;cases z)),qdu A.he (hL.no A.he (by intro zs z;cases z)),A.ne⟩,⟨Bs.yv,Bs.yk,Bs.zn,λk x q=>(Bs.zs k x q).imp λ_ z=>⟨z.1,qdu z.2 (hL.no z.2 (by intro zs y;cases y))⟩,Bs.zk⟩⟩
theorem RB.rmS {CR R:Addr} {B:qbr} {es:List Int} {ge:Option Int} {e:RC} (hL:LsL H L) (h:RB CR R H B es ge e) (n1:e.2.1.le ∉ L) (n2:e.2.1.rl ∉ L):RB CR R (TB.rmS H L) B es ge e:=
 ⟨let ⟨a,b,r⟩:=h.ex;⟨a,b,{ r with R:=r.R.rmS hL n1 n2 }⟩,h.ru,h.rl,h.n50⟩
end
theorem Ents.mem {α:Type} {R1:V->α->Prop} {kvs:List (Key×V)} {E:List (List Nat×α)} {x:List Nat} {a:α} (h:Ents R1 kvs E) (hx:(x,a)∈E):∃ v,R1 v a:=by
 unfold Ents at h
 induction h with
 | nil=>cases hx
 | cons b t ih =>
  rcases Ai.mp hx with z|z
  ·rw[<- z] at b;exact ⟨_,b.2⟩
  ·exact ih z
section
variable {C CR R b:Addr} {B:qbr} {es:List Int} {ge:Option Int} {X:qbf} {H H':Hp} {L:List Addr}
theorem BkC.dicts (h:BkC C CR R H b B es ge X) {x:List Nat} {e:RC} (hx:(x,e)∈X):(∃ Y,H e.2.1.dy=some (.dT Y))/\∃ Z,H e.2.1.dh=some (.dT Z):=by
 obtain ⟨k,_,q⟩:=h.rs;obtain ⟨v,_,re⟩:=q.mem hx;obtain ⟨_,_,r⟩:=re.ex;exact r.R.dicts
theorem R63.begun {ro:Addr} {c:qa7} (A:RollAt CR R H ro c) (ok:EdOk B es ge) (e1:c.ps=B.ps) (e2:c.g=B.g) (e3:c.day=B.day) (eY:c.Y=[]) (eZ:c.Z=[]) (Ec:EdS (List.zipWith gE (eV B.ps B.g B.day) (es.map V.int ++ [gv ge])) c.es c.ge) (hcl:c.es.length=B.ps.length):R63 CR R H ro c B.ps B.g B.day es ge [] [] []:=by
 have ec:{ c with Y:=[],Z:=[] }=c:=by
  cases c;simp only at eY eZ;rw[eY,eZ]
 rw[ok.dom] at Ec;obtain ⟨z1,z2⟩:=EdS.uniq Ec ok.E;exact ⟨⟨[],[],by rw[ec];exact A,RAbs.zero rfl rfl⟩,⟨by rw[e1,e2];exact ok.P,by rw[hcl,e1]⟩,e1,e2,e3,z1,z2,ok.P,ok.wb,ok.E,ok.F,ok.dom,ok.hd,(by intro r h;cases h),Ag _,Ag _⟩
end
theorem RuleAt.butK {C:Addr} {H H':Hp} {r l a:Addr} {ps:List (Int×Int)} {g:Option Int} {kvs:List (Key×V)} (h:RuleAt C H r l ps g) (b:But a H H') (ha:H a=some (.dK kvs)):RuleAt C H' r l ps g:=
 h.but2 b ha (by intro xs z;cases z) (by intro xs z;cases z) (by obtain ⟨dx,e⟩:=h.ob;exact qa0 e ha (by intro z;cases z))
theorem TxtL.butK {H H':Hp} {a:Addr} {kvs:List (Key×V)} {v:V} {ms:List (List Nat)} (h:TxtL H v ms) (b:But a H H') (ha:H a=some (.dK kvs)):TxtL H' v ms:=
 let ⟨c,e,q⟩:=h;⟨c,e,b _ _ q (qa0 q ha (by intro z;cases z))⟩
theorem RR.butK {C R ro a:Addr} {H H':Hp} {c:qa7} {s:Abs} {LY LZ:List (List Int)} {kvs:List (Key×V)} (h:RR C R H ro c s LY LZ) (b:But a H H') (ha:H a=some (.dK kvs)):RR C R H' ro c s LY LZ:=by
 obtain ⟨Y,Z,A,Bs⟩:=h;obtain ⟨dx,e⟩:=A.ob;exact ⟨Y,Z,⟨⟨dx,b _ _ e (qa0 e ha (by intro z;cases z))⟩,A.rule.butK b ha,b _ _ A.ed (qa0 A.ed ha (by intro z;cases z)),b _ _ A.yo (qa0 A.yo ha (by intro z;cases z)),b _ _ A.he (qa0 A.he ha (by intro z;cases z)),A.ne⟩,Bs.tups λx xs e=>b _ _ e (qa0 e ha (by intro z;cases z))⟩
theorem RB.butK {CR R a:Addr} {H H':Hp} {B:qbr} {es:List Int} {ge:Option Int} {e:RC} {kvs:List (Key×V)} (h:RB CR R H B es ge e) (b:But a H H') (ha:H a=some (.dK kvs)):RB CR R H' B es ge e:=
 ⟨let ⟨x,y,r⟩:=h.ex;⟨x,y,{ r with R:=r.R.butK b ha }⟩,h.ru,h.rl,h.n50⟩
theorem ql3 {C CR R:Addr} {G4 G5 G6 G7:Hp} {b l2 ro:Addr} {B:qbr} {es:List Int} {ge:Option Int} {X:qbf} {c:qa7} {x:List Nat} {ms:List (List Nat)} {km kr:List (Key×V)} (A4:BkC C CR R G4 b B es ge X) (hin:x ∉ X.map (·.1)) (hkm:G4 B.dm=some (.dK km)) (hkr:G4 B.dr=some (.dK kr)) (b5:But B.dm G4 G5) (d5:G5 B.dm=some (.dK (putK km (kS x) (.ref l2)))) (s6:Same G5 G6)
  (b7:But B.dr G6 G7) (d7:G7 B.dr=some (.dK (putK kr (kS x) (.ref ro)))) (tl:TxtL G4 (.ref l2) (qbm ms)) (re:RB CR R G6 B es ge (ro,c,[],ms)):BkC C CR R G7 b B es ge (X ++ [(x,(ro,c,[],ms))]):=by
 obtain ⟨dx,hob⟩:=A4.ob;obtain ⟨km',hkm',enm⟩:=A4.ms;obtain ⟨kr',hkr',enr⟩:=A4.rs;rw[hkm] at hkm'
 cases hkm'
 rw[hkr] at hkr'
 cases hkr'
 have hkr6:=s6 _ _ (b5 _ _ hkr (λz=>A4.ne z.symm));have hob6:=s6 _ _ (b5 _ _ hob (qa0 hob hkm (by intro z;cases z)));refine ⟨⟨dx,b7 _ _ hob6 (qa0 hob6 hkr6 (by intro z;cases z))⟩,((A4.rule.butK b5 hkm).same s6).butK b7 hkr6,?_,⟨_,b7 _ _ (s6 _ _ d5) A4.ne,(enm.put hin (a:=(ro,c,[],ms)) tl).imp λv e q=>((q.butK b5 hkm).same s6).butK b7 hkr6⟩,⟨_,d7,?_⟩,A4.ne,A4.ok⟩
 ·have e:=s6 _ _ (b5 _ _ A4.ed (qa0 A4.ed hkm (by intro z;cases z)))
  exact b7 _ _ e (qa0 e hkr6 (by intro z;cases z))
 ·have en6:Ents (λv (e:RC)=>v=.ref e.1/\RB CR R G6 B es ge e) kr X:=enr.imp λv _ ⟨e,q⟩=>⟨e,(q.butK b5 hkm).same s6⟩
  exact (en6.put hin (a:=(ro,c,[],ms)) ⟨rfl,re⟩).imp λv _ ⟨e,q⟩=>⟨e,q.butK b7 hkr6⟩
def MkV (H:Hp) (v:V) (us:List V):Prop:=(v=.non/\us=[])\/∃ l,v=.ref l/\H l=some (.lst us)
theorem qxj {us:List V} {m:V} {σ:St} {H:Hp} {Kt:VK} (hσ:σ[2]?=some (some m)) (hm:MkV H m us) (k:∀ l H2,Same H H2->H2 l=some (.lst us)->Kt (.ref l) H2) :
  tIf (qx6 (tOp (λx y H Q=>y=V.non/\Q (V.bl (decide (x=V.non))) H) (qAe 2) (tC V.non))) (qyr qm8) (qAe 2) σ H Kt:=by
 rcases hm with ⟨rfl,rfl⟩|⟨l,rfl,hl⟩
 ·exact ⟨_,hσ,rfl,_,rfl,qe1 ⟨AW _,λl H2 n2=>k l H2 n2.same n2.at_⟩⟩
 ·exact ⟨_,hσ,rfl,_,rfl,qf0 ⟨_,hσ,k l H (Same.refl _) hl⟩⟩
inductive qir (C CR R N M:Addr) (vs:List V) (H:Hp) (Q:VK) (E:XK):Prop
 | mk:∀ (b:Addr) (B:qbr) (es:List Int) (ge:Option Int) (X:qbf) (v m:V) (us:List V),vs=[.ref b,v,m]->BkC C CR R H b B es ge X->TextV H v->MkV H m us->(∀ u∈us,TextV H u)->us.length<=60->X.length<=60->((qdl 12 v=false\/qi5 X v)->∀ H',Same H H'->E (.ref N) none H')->(¬ (qdl 12 v=false\/qi5 X v)->¬ qb2 us->∀ H',Same H H'->E (.ref M) none H')->(∀ x ms,v=tS x->qa6 12 x->x ∉ X.map (·.1)->us=ms.map tS->qb2 us->∀ ro c H',But2 B.dm B.dr H H'->H c.dy=none->H c.dh=none->BkC C CR R H' b B es ge (X ++ [(x,(ro,c,[],ms))])->(∀ L,LsL H L->BkC C CR R (rmS H L) b B es ge X->BkC C CR R (rmS H' L) b B es ge (X ++ [(x,(ro,c,[],ms))]))->Q .non H')->qir C CR R N M vs H Q E
theorem ql4 (T:Txt K mg C_Roll C_Rule C_Book C_BookError C_NoNumber C_NoRule C_Backward C_NoName C_NoMark):∃ f fd dT o n,qhd P w K mg base (CX1 P w) 7 f fd ["self", "name", "marks"] (qir C_Book C_Roll C_Rule C_NoName C_NoMark)/\FunD K "enrol" "Book.enrol" qcn (.ref dT) f fd/\qgz K C_Book "enrol" f/\fd.defaults=.ref dT/\K.lookup dT=some o/\o.data=.seq #[.none] n:=by
 obtain ⟨f,fd,dT,o,n,F,M,h1,h2,h3⟩:=T.f_Book_enrol;have nd:=sc_Book_enrol.nd;refine ⟨f,fd,dT,o,n,(F.okX sc_Book_enrol (λvs H Q E h=>?_) (λcdv A outer s H vs Q E hr h=>?_)),F,M,h1,h2,h3⟩
 ·obtain ⟨b,B,es,ge,X,v,m,us,rfl,_⟩:=h;rfl
 ·obtain ⟨b,B,es,ge,X,v,m,us,rfl,A',hv,hm,hu,hz,hE,q1,q2,q3⟩:=h
  obtain ⟨dx,hob⟩:=A'.ob;obtain ⟨kr,hkr,enr⟩:=A'.rs;refine ⟨_,(qad (qbs (PW.pt (qkn (qe5 (qez (qat (qlz T) (hr.mono (by decide)) rfl (qaa (pv 1) qac)))) (qhl (qpy (qug (qgd hr) (pv 1) (qbj (pv 0) rfl))))))
    (qaf (qft (qbk ⟨rfl,rfl,rfl⟩) rfl T.ex_NoName rfl T.mg_NoName (qaa qdr qac)))
    qau)
   (qad (qaw (i:=3) nd rfl (Or.inl rfl) (qsw (qav qhm (pv 2) qdx (qay _)) (qbx qac) (pv 2)))
   (qad (qa9 (qg1 (qbk ⟨rfl,rfl,rfl⟩) (qkj T) (hr.mono (by decide)) rfl .nil (qaa (pv 3) qac)))
   (qad (qhv (qgd hr) (qbj (pv 0) rfl) (pv 1) (qas qgf rfl T.b_sorted qe8 (qaa (pv 3) qac)) rfl)
   (qaf (qhv (qgd hr) (qbj (pv 0) rfl) (pv 1) (qat (qxc T) (hr.mono (by decide)) rfl (qaa (qbj (pv 0) rfl) (qaa (qbj (pv 0) rfl) (qaa (qbj (pv 0) rfl) qac)))) rfl)))))),?_⟩
  refine ⟨_,rfl,v,rfl,hv,λH1 s1=>⟨_,rfl,?_⟩⟩
  cases hs:qdl 12 v with
  | false =>
   refine qe1 ?_
   walk_at "r"
   exact q1 (.inl hs) H1 s1
  | true =>
   refine qf0 ?_;obtain ⟨x,rfl,hx⟩:=small_iff.mp hs;refine ⟨_,rfl,_,rfl,b,C_Book,dx,_,_,rfl,s1 _ _ hob,T.cl_Book,T.na_Book_kept_rolls,qls _ _ _ _ _,B.dr,_,rfl,DGet.k (k:=kS x) (s1 _ _ hkr),_,rfl,?_⟩
   by_cases hin:x∈X.map (·.1)
   ·obtain ⟨u,a,e1,_,_⟩:=enr.has hin
    rw[e1];refine qe1 ?_
    walk_at "r"
    exact q1 (.inr ⟨x,rfl,hx,hin⟩) H1 s1
   ·rw[enr.hasn hin]
    refine qf0 ?_;have hm1:MkV H1 m us:=by
     rcases hm with h|⟨l,e,hl⟩
     ·exact .inl h
     ·exact .inr ⟨l,e,s1 _ _ hl⟩
    refine qxj rfl hm1 λl H2 s2 hl=>qaz ?_
    have s02:=s1.trans s2;refine ⟨_,rfl,l,us,rfl,hl,λu hu'=>(hu u hu').same s02,hz,λok H3 s3=>?_,λbad H3 s3=>q2 (λh=>?_) bad H3 (s02.trans s3)⟩
    case refine_2 =>
     rcases h with h|⟨y,e,_,hy⟩
     ·rw[hs] at h;cases h
     ·exact hin (qch e ▸ hy)
    obtain ⟨ms,rfl,_⟩:=qki ok.1;have s03:=s02.trans s3;rw[Ad] at hz;refine ⟨_,rfl,l,ms,rfl,SqL.of (s3 _ _ hl),by omega,λl2 H4 n4=>?_⟩;have s04:=s03.trans n4.same;have A4:=A'.same s04;obtain ⟨km,hkm,enm⟩:=A4.ms;obtain ⟨kr4,hkr4,enr4⟩:=A4.rs;have lm:=enm.len;have lr:=enr4.len;refine ⟨_,rfl,b,C_Book,dx,_,_,rfl,s04 _ _ hob,T.cl_Book,T.na_Book_kept_marks,qu4 _ _ _ _ _,_,rfl,B.dm,_,rfl,DPut.k (k:=kS x) hkm (by rw[Bh];omega),?_⟩
    generalize h5:upd H4 B.dm (.dK (putK km (kS x) (.ref l2)))=H5
    have b5:But B.dm H4 H5:=by rw[<- h5];exact qdp
    have d5:H5 B.dm=some (.dK (putK km (kS x) (.ref l2))):=by rw[<- h5];exact qbh
    have hob5:=b5 _ _ (s04 _ _ hob) (qa0 (s04 _ _ hob) hkm (by intro z;cases z));have E0':=A'.ok.E;have l0:(es.map V.int ++ [gv ge]).length=B.ps.length+1:=by have:=A'.ok.F.len;rw[Ad] at this;simp;omega
    have l9:es.length=B.ps.length:=by have:=A'.ok.F.len;rw[Ad] at this;omega
    have g5:=A'.ok.P.good.hi;refine ⟨_,rfl,b,C_Book,dx,_,_,rfl,hob5,T.cl_Book,T.na_Book_kept_rule,qu3 _ _ _ _ _,_,rfl,b,C_Book,dx,_,_,rfl,hob5,T.cl_Book,T.na_Book_kept_day,qr5 _ _ _ _ _,_,rfl,b,C_Book,dx,_,_,rfl,hob5,T.cl_Book,T.na_Book_kept_edges,qr6 _ _ _ _ _,B.ru,B.rl,B.le,B.ps,B.g,B.day,_,_,_,rfl,A4.rule.butK b5 hkm,A'.ok.P,A'.ok.hd,b5 _ _ A4.ed (qa0 A4.ed hkm (by intro z;cases z)),E0'.ed,by omega,l0,E0',l9,λro c H6 A6 e1 e2 e3 eY eZ Ec hcl s6 f1 f2 w1=>?_⟩;have hkr6:=s6 _ _ (b5 _ _ hkr4 (λz=>A'.ne z.symm));refine ⟨_,rfl,b,C_Book,dx,_,_,rfl,s6 _ _ hob5,T.cl_Book,T.na_Book_kept_rolls,qls _ _ _ _ _,_,rfl,B.dr,_,rfl,DPut.k (k:=kS x) hkr6 (by rw[Bh];omega),?_⟩
    generalize h7:upd H6 B.dr (.dK (putK kr4 (kS x) (.ref ro)))=H7
    have b7:But B.dr H6 H7:=by rw[<- h7];exact qdp
    have d7:H7 B.dr=some (.dK (putK kr4 (kS x) (.ref ro))):=by rw[<- h7];exact qbh
    have re:RB C_Roll C_Rule H6 B es ge (ro,c,[],ms):=⟨⟨[],[],R63.begun A6 A'.ok e1 e2 e3 eY eZ Ec hcl⟩,w1.1,w1.2.1,AW _⟩;have tl:TxtL H4 (.ref l2) (qbm ms):=⟨l2,rfl,n4.at_⟩;have fr:∀ a,H5 a=none->H a=none:=λa z=>by
     cases e:H a with
     | none=>rfl
     | some o =>
      by_cases na:a=B.dm
      ·rw[na,d5] at z;cases z
      ·rw[b5 _ _ (s04 _ _ e) na] at z;cases z
    refine q3 x ms rfl hx hin rfl ok ro c H7 (λc' o e n1 n2=>b7 _ _ (s6 _ _ (b5 _ _ (s04 _ _ e) n1)) n2) (fr _ f1) (fr _ f2) (ql3 A4 hin hkm hkr4 b5 d5 s6 b7 d7 tl re) λL hL Ar=>?_
    have hL4:=hL.same s04;have nd1:B.dm ∉ L:=hL4.no hkm (by intro zs z;cases z);have nd2:B.dr ∉ L:=hL4.no hkr4 (by intro zs z;cases z);have hL5:LsL H5 L:=λl hl=>let ⟨zs,e⟩:=hL4 l hl;⟨zs,b5 _ _ e (λz=>nd1 (z ▸ hl))⟩
    have A4r:=Ar.same (qoe s04);have nl2:l2 ∉ L:=λz=>by obtain ⟨zs,e⟩:=hL.same s03 l2 z;rw[n4.fresh] at e;cases e
    have nle:c.le ∉ L:=λz=>by obtain ⟨zs,e⟩:=hL5 c.le z;rw[w1.2.2] at e;cases e
    have nrl:c.rl ∉ L:=by rw[w1.2.1];obtain ⟨xs,e,_⟩:=Ar.rule.ls;exact (qfn e).2
    exact ql3 A4r hin (qdu hkm nd1) (qdu hkr4 nd2) (qse b5) (qdu d5 nd1) (qoe s6) (qse b7) (qdu d7 nd2) ⟨l2,rfl,qdu n4.at_ nl2⟩ (re.rmS (hL5.same s6) nle nrl)
end
section
variable {P:Program} {w:World} {K:Frag} {mg:Str->Option Value} {base:Heap} {C_Roll C_Rule C_Book C_BookError C_NoNumber C_NoRule C_Backward C_NoName C_NoMark:Addr}
inductive qjk (C CR R N:Addr) (vs:List V) (H:Hp) (Q:VK) (E:XK):Prop
 | mk:∀ (b:Addr) (B:qbr) (es:List Int) (ge:Option Int) (X:qbf) (v:V),vs=[.ref b,v]->BkC C CR R H b B es ge X->TextV H v->(∀ x e,v=tS x->qa6 12 x->(x,e)∈X->∀ l H',Same H H'->H l=none->H' l=some (.lst ((qbm e.2.2.2).map tS))->Q (.ref l) H')->(¬ qi5 X v->∀ H',Same H H'->E (.ref N) none H')->qjk C CR R N vs H Q E
theorem qfo (T:Txt K mg C_Roll C_Rule C_Book C_BookError C_NoNumber C_NoRule C_Backward C_NoName C_NoMark):qv3 P w K mg base C_Book 4 "marks" ["self", "name"] [] (qjk C_Book C_Roll C_Rule C_NoName):=by
 obtain ⟨f,fd,F,hm⟩:=T.f_Book_marks;have nd:=sc_Book_marks.nd;refine ⟨f,fd,(F.okX sc_Book_marks (λvs H Q E h=>?_) (λcdv A outer s H vs Q E hr h=>?_)),hm,(F.binds λ_ _ _ _ _ _ us hl=>by obtain ⟨_,_,rfl⟩:=L2.lq2 hl;rfl)⟩
 ·obtain ⟨b,B,es,ge,X,v,rfl,_⟩:=h;rfl
 ·obtain ⟨b,B,es,ge,X,v,rfl,A',hv,q1,q2⟩:=h
  obtain ⟨dx,hob⟩:=A'.ob;refine ⟨_,(qad (qa9 (qc4 (qbk ⟨rfl,rfl,rfl⟩) (pv 0) T.cl_Book (qdm T) (hr.mono (by decide)) .nil (qaa (pv 1) qac)))
   (qaf (qan (qb3 qb0 rfl T.b_list qen (qaa (qhu (qgd hr) (qbj (pv 0) rfl) (pv 1) (λ_ _=>rfl)) qac))))),?_⟩
  refine ⟨_,rfl,b,dx,_,rfl,hob,qe0 _ _ _ _ _ (by decide +kernel) (by decide +kernel) (by decide +kernel) (by decide +kernel) (by decide +kernel),_,rfl,b,B,es,ge,X,v,rfl,A',hv,λhin H1 s1=>?_,λhn H1 s1=>q2 hn H1 s1⟩;obtain ⟨x,rfl,hx,hxE⟩:=hin;obtain ⟨kvs,hk,en⟩:=A'.ms;obtain ⟨u,a,e1,e2,l,rfl,hl⟩:=en.has hxE;have g:=DGet.k (k:=kS x) (s1 _ _ hk);rw[e1] at g;exact ⟨_,rfl,b,C_Book,dx,_,_,rfl,s1 _ _ hob,T.cl_Book,T.na_Book_kept_marks,qu4 _ _ _ _ _,_,rfl,B.dm,_,rfl,g,l,_,rfl,.inl (SqL.of (s1 _ _ hl)),λl2 H2 n2=>q1 x a rfl hx e2 l2 H2 (s1.trans n2.same) (s1.free n2.fresh) n2.at_⟩
theorem qxk (ru:Addr) (day:Int) (le dm dr p:Addr):qf8 "kept_edges" (.ref p) (bof ru day le dm dr)=bof ru day p dm dr:=by rfl
inductive ql5 (C CR R:Addr) (vs:List V) (H:Hp) (Q:VK) (E_:XK):Prop
 | mk:∀ (ru rl e:Addr) (ps:List (Int×Int)) (g:Option Int) (day:Int) (es fs:List Int) (ge fg:Option Int),vs=[.ref ru,.int day,.ref e]->RuleAt R H ru rl ps g->Pr ps g->(∀ p∈ps,p.2<=10 ^ 35)->Bd day->H e=some (.lst (es.map V.int ++ [gv ge]))->EdS (es.map V.int ++ [gv ge]) es ge->es.length=ps.length->qxh ps g day (es.map V.int ++ [gv ge]) es ge fs fg->(∀ b le dm dr H',BkC C CR R H' b ⟨ru,rl,le,dm,dr,ps,g,day⟩ fs fg []->Same H H'->H b=none->H le=none->H dm=none->H dr=none->Q (.ref b) H')->ql5 C CR R vs H Q E_
theorem qhb (T:Txt K mg C_Roll C_Rule C_Book C_BookError C_NoNumber C_NoRule C_Backward C_NoName C_NoMark):qbv P w K mg base 6 "begun_book" ["rule", "day", "edges"] (ql5 C_Book C_Roll C_Rule):=by
 obtain ⟨f,fd,F,hm⟩:=T.f_begun_book;have nd:=sc_begun_book.nd;refine F.def_ hm (F.ok sc_begun_book (λvs H Q E h=>?_) (λcdv A outer s H vs Q E hr h=>?_)) (F.binds λ_ _ _ _ _ _ us hl=>by obtain ⟨_,_,_,rfl⟩:=L2.lq3 hl;rfl)
 ·obtain ⟨ru,rl,e,ps,g,day,es,fs,ge,fg,rfl,_⟩:=h;rfl
 ·obtain ⟨ru,rl,e,ps,g,day,es,fs,ge,fg,rfl,R,Pg,wb,hd,he,Ee,hln,U,q⟩:=h
  refine ⟨_,(qad (qaw (i:=3) nd rfl (Or.inl rfl) (qng (qoc T) (hr.mono (by decide)) rfl .nil (qaa (pv 0) (qaa (pv 1) qac))))
   (qad (qcr (pv 3) (qat (qlw T) (hr.mono (by decide)) rfl (qaa (qbj (pv 3) rfl) (qaa (pv 2) qac))) rfl)
   (qaf (qan (pv 3))))),?_⟩
  refine ⟨_,rfl,_,rfl,λb dx H1 s1 f1 d1=>?_⟩;refine ⟨b,dx,ru,rl,ps,g,day,rfl,d1,R.same s1,Pg,wb,hd,λle dm dr H2 A2 z1 z2 z3 b2=>⟨rfl,?_⟩⟩;have s2:Same H H2:=b2.same s1 f1;obtain ⟨dx2,hob⟩:=A2.ob;have E0':=EdS.of Pg hd;have g5:=Pg.good.hi;have l0:(eV ps g day).length=ps.length+1:=by rw[E0'.eq];simp
  have hEl:(es.map V.int ++ [gv ge]).length=ps.length+1:=by simp[hln]
  have hed:H2 le=some (.lst (eV ps g day)):=by rw[E0'.eq];exact A2.ed
  refine qaz ?_;refine ⟨_,rfl,b,C_Book,dx2,_,_,rfl,hob,T.cl_Book,T.na_Book_kept_edges,qr6 _ _ _ _ _,_,rfl,le,e,_,_,rfl,hed,s2 _ _ he,E0'.ed,Ee.ed,by rw[l0,hEl],by omega,λp H3 n3=>?_⟩;refine ⟨_,rfl,b,C_Book,dx2,_,rfl,n3.same _ _ hob,T.cl_Book,T.na_Book_kept_edges,(by show 5<1000;decide),λH4 b4 h4=>?_⟩;rw[qxk] at h4;have A3:=A2.same n3.same;have hb3:=n3.same _ _ hob;obtain ⟨dxr,hru⟩:=A3.rule.ob;have nru:ru≠b:=qa0 hru hb3 (by intro z;injection z with _ _ z;have:=qrn rl (gv g);have z':rf rl (gv g)=bof ru day le dm dr:=z;rw[z'] at this;cases this);have s04:Same H H4:=b4.same (s2.trans n3.same) f1;have hp4:H4 p=some (.lst (List.zipWith gE (eV ps g day) (es.map V.int ++ [gv ge]))):=b4 _ _ n3.at_ (qa0 n3.at_ hb3 (by intro z;cases z));rw[U.eq] at hp4;obtain ⟨km,hkm,enm⟩:=A3.ms;obtain ⟨kr,hkr,enr⟩:=A3.rs;refine ⟨_,rfl,q b p dm dr H4 ⟨⟨dx2,h4⟩,A3.rule.but2 b4 hb3 qeh (by intro xs z;cases z) nru,hp4,⟨km,b4 _ _ hkm (qa0 hkm hb3 (by intro z;cases z)),?_⟩,⟨kr,b4 _ _ hkr (qa0 hkr hb3 (by intro z;cases z)),?_⟩,A3.ne,⟨Pg,wb,U.E,U.F,U.dom,hd⟩⟩ s04 f1 (s2.free n3.fresh) (s1.free z2) (s1.free z3)⟩
  ·cases enm;exact .nil
  ·cases enr;exact .nil
end
section
variable {P:Program} {w:World} {K:Frag} {mg:Str->Option Value} {base:Heap} {C_Roll C_Rule C_Book C_BookError C_NoNumber C_NoRule C_Backward C_NoName C_NoMark:Addr}
theorem qof {F:St->Hp->Prop} {σ σ':St} {H:Hp} (e:σ=σ') (h:F σ' H):F σ H:=e ▸ h
theorem qc3 (T:Txt K mg C_Roll C_Rule C_Book C_BookError C_NoNumber C_NoRule C_Backward C_NoName C_NoMark):qv3 P w K mg base C_Book 7 "enrol" ["self", "name", "marks"] [] (qir C_Book C_Roll C_Rule C_NoName C_NoMark):=by
 obtain ⟨f,fd,dT,o,n,hf,F,M,h1,h2,h3⟩:=ql4 (P:=P) (w:=w) (base:=base) T;refine ⟨f,fd,hf,M,qjy h1 h2 h3 λus hl=>?_⟩;obtain ⟨oc,od,kV,doc,pm,an,cdv,ct,osl,rfl,lk,hcd⟩:=F.ex;obtain ⟨_,_,_,rfl⟩:=L2.lq3 (us:=us) (by simpa using hl);exact ⟨_,rfl,rfl⟩
theorem R63.moved {C R:Addr} {H:Hp} {r ro:Addr} {q c:qa7} {ps ps2:List (Int×Int)} {g g2:Option Int} {d D:Int} {es fs:List Int} {ge fg:Option Int} {rs:List Rd3} {LY LZ:List (List Int)} {Q:VK} {E:XK} (h:R63 C R H r q ps g d es ge rs LY LZ) (N:R63 C R H ro c ps2 g2 D fs fg [] [] []) (h50:rs.length<=50) (hw:ps2.map (·.2)=ps.map (·.2)) (L:Later es fs ge fg) (ap:ApartD q c)
  (k:∀ LY' LZ' H',R63 C R H' ro c ps2 g2 D fs fg rs LY' LZ'->But2 c.dy c.dh H H'->Q .non H'):qf3 C R [.ref ro,.ref r] H Q E:=by
 have l1:=h.ly;have l2:=h.lz;obtain ⟨LY',LZ',l3,l4,tk⟩:=h.take h50 (qdy (ps2.map (·.2)) fs fg);have ec:=N.cellD;refine ⟨ro,r,c,q,qss,_,LY',LZ',LY,LZ,rfl,N.R.mono (List.nil_subset _) (List.nil_subset _),h.R,N.ok,ap,by omega,by omega,by omega,by omega,by rw[ec];exact tk,λH' R' b'=>?_⟩;have F0:=h.F;rw[<- hw] at F0;have hT:=qw9 (qr3 F0 N.F L h.len) rs;rw[hw] at hT;rw[ec,hw,hT,<- hw] at R';exact k LY' LZ' H' { N with R:=R',hr:=h.hr,ly:=l3,lz:=l4 } b'
def qog (x:List Nat) (rs:List Rd3) (p:List Nat×RC):List Nat×RC:=if p.1=x then (p.1,p.2.1,p.2.2.1,rs,p.2.2.2.2) else p
theorem qu7 (x:List Nat) (rs:List Rd3) (p:List Nat×RC):(qog x rs p).1=p.1:=by unfold qog;split<;>rfl
theorem qzy (x:List Nat) (rs:List Rd3) (p:List Nat×RC):(qog x rs p).2.1=p.2.1:=by unfold qog;split<;>rfl
theorem qzz (x:List Nat) (rs:List Rd3) (p:List Nat×RC):(qog x rs p).2.2.2.2=p.2.2.2.2:=by unfold qog;split<;>rfl
theorem BkC.set {C CR R b:Addr} {B:qbr} {es:List Int} {ge:Option Int} {X:qbf} {H H':Hp} {x:List Nat} {e:RC} {rs:List Rd3} {Y Z:KV} (h:BkC C CR R H b B es ge X) (ok:XOk X) (hx:(x,e)∈X) (bu:But2 e.2.1.dy e.2.1.dh H H') (hy:H e.2.1.dy=some (.dT Y)) (hz:H e.2.1.dh=some (.dT Z)) (R':RB CR R H' B es ge (e.1,e.2.1,rs,e.2.2.2)):BkC C CR R H' b B es ge (X.map (qog x rs)):=by
 refine ⟨let ⟨dx,e⟩:=h.ob;⟨dx,bu.keep hy hz e (by intro K z;cases z)⟩,h.rule.keep2 bu hy hz,bu.keep hy hz h.ed (by intro K z;cases z),?_,?_,h.ne,h.ok⟩
 ·obtain ⟨k,e1,q⟩:=h.ms
  exact ⟨k,bu.keep hy hz e1 (by intro K z;cases z),q.map2 (qu7 x rs) λp _ v z=>by rw[qzz];exact z.but2 bu hy hz⟩
 ·obtain ⟨k,e1,q⟩:=h.rs
  refine ⟨k,bu.keep hy hz e1 (by intro K z;cases z),q.map2 (qu7 x rs) λp hp v z=>⟨by rw[qzy];exact z.1,?_⟩⟩
  by_cases n:p.1=x
  ·have ep:p.2=e:=ok.one (x:=x) (by rw[<- n];exact hp) hx
   unfold qog;rw[Ak n,ep];exact R'
  ·unfold qog
   rw[Ah n];exact z.2.frame bu hy hz (ok.apart hx (y:=p.1) hp n)
theorem qsf {X:qbf} {x:List Nat} {ro:Addr} {c:qa7} {rs:List Rd3} {ms:List (List Nat)} (hn:x ∉ X.map (·.1)):(X ++ [(x,(ro,c,[],ms))]).map (qog x rs)=X ++ [(x,(ro,c,rs,ms))]:=by
 rw[AI]
 congr 1
 ·have:X.map (qog x rs)=X.map id:=AZ λp hp=>by
   unfold qog;rw[Ah (λe=>hn (Af.mpr ⟨p,hp,e⟩))];rfl
  rw[this,Fl]
 ·show [qog x rs (x,(ro,c,[],ms))]=_
  unfold qog;rw[Ak rfl]
theorem ql6:∀ {a b:List (List Nat)},a.map tS=b.map tS->a=b
 | [],[],_=>rfl
 | [],_ :: _,e=>by cases e
 | _ :: _,[],e=>by cases e
 | u :: a,w :: b,e=>by
  rw[Aw,Aw] at e;injection e with e1 e2
  rw[qch e1,ql6 e2]
theorem qpo {a b:List (List Nat)} (p:a.Perm b) (h:qb2 (b.map tS)):qb2 (a.map tS):=by
 have pm:=p.map tS;exact ⟨λv hv=>h.1 v (pm.mem_iff.mp hv),pm.nodup_iff.mpr h.2.1,by rw[pm.length_eq];exact h.2.2⟩
structure qmy (X:qbf) (n:Nat):Prop where
 ok:XOk X
 sm:∀ p∈X,qa6 12 p.1
 mm:∀ p∈X,qb2 (p.2.2.2.2.map tS)
 ln:X.length<=20
 rs:∀ p∈X,p.2.2.2.1.length<=n
structure qBv (X X':qbf):Prop where
 nm:X'.map (·.1)=qbm (X.map (·.1))
 en:∀ p∈X',∃ e:RC,(p.1,e)∈X/\p.2.2.2.1=e.2.2.1/\p.2.2.2.2=qbm e.2.2.2
inductive qoh (C CR R:Addr) (vs:List V) (H:Hp) (Q:VK) (E_:XK):Prop
 | mk:∀ (b:Addr) (B:qbr) (es:List Int) (ge:Option Int) (X:qbf) (ru rl:Addr) (ps:List (Int×Int)) (g:Option Int) (day:Int) (fs:List Int) (fg:Option Int),vs=[.ref b,.ref ru,.int day]->BkC C CR R H b B es ge X->qmy X 50->RuleAt R H ru rl ps g->Pr ps g->(∀ p∈ps,p.2<=10 ^ 35)->ps.map (·.2)=B.ps.map (·.2)->Bd day->qxh ps g day (es.map V.int ++ [gv ge]) es ge fs fg->(∀ b' le dm dr X' H',BkC C CR R H' b' ⟨ru,rl,le,dm,dr,ps,g,day⟩ fs fg X'->XOk X'->qBv X X'->(∀ p∈X',H p.2.2.1.dy=none/\H p.2.2.1.dh=none)->Same H H'->H b'=none->H le=none->H dm=none->H dr=none->Q (.ref b') H')->qoh C CR R vs H Q E_
theorem qxl (T:Txt K mg C_Roll C_Rule C_Book C_BookError C_NoNumber C_NoRule C_Backward C_NoName C_NoMark):qbv P w K mg base 8 "moved" ["book", "rule", "day"] (qoh C_Book C_Roll C_Rule):=by
 obtain ⟨f,fd,F,hm⟩:=T.f_moved;have nd:=sc_moved.nd;refine F.def_ hm (F.ok sc_moved (λvs H Q E h=>?_) (λcdv A outer s H vs Q E hr h=>?_)) (F.binds λ_ _ _ _ _ _ us hl=>by obtain ⟨_,_,_,rfl⟩:=L2.lq3 hl;rfl)
 ·obtain ⟨b,B,es,ge,X,ru,rl,ps,g,day,fs,fg,rfl,_⟩:=h;rfl
 ·obtain ⟨b,B,es,ge,X,ru,rl,ps,g,day,fs,fg,rfl,A',XG,R,Pg,wb,hw,hd,U,q⟩:=h
  obtain ⟨dx,hob⟩:=A'.ob;have no:∀ (B:qbr) {m:Str},¬ m = "kept_rolls" -> ¬ m = "kept_marks" -> ¬ m = "kept_edges" -> ¬ m = "kept_day" -> ¬ m = "kept_rule" -> (bof B.ru B.day B.le B.dm B.dr).lookup m=none:=λB _ a b c d e=>qe0 _ _ _ _ _ a b c d e
  have hln:es.length=ps.length:=by have:=A'.ok.F.len;have e:=congrArg List.length hw;rw[Ad,Ad] at e;rw[Ad] at this;omega
  have x20:=XG.ln;refine ⟨_,(qad (qaw (i:=3) nd rfl (Or.inl rfl) (qat (qhb T) (hr.mono (by decide)) rfl (qaa (pv 1) (qaa (pv 2) (qaa (qbw (pv 0) T.cl_Book (qfm T) (hr.mono (by decide))) qac)))))
   (qad (qec Bb rfl (qbp (qbw (pv 0) T.cl_Book (qel T) (hr.mono (by decide)))) (qam (i:=4) nd rfl (Or.inl rfl))
    (qad (qa9 (qc4 (qa5 ⟨rfl,rfl,rfl⟩) (pv 3) T.cl_Book (qc3 T) (hr.mono (by decide)) .nil (qaa (pv 4) (qaa (qc4 (qa5 ⟨rfl,rfl,rfl⟩) (pv 0) T.cl_Book (qfo T) (hr.mono (by decide)) .nil (qaa (pv 4) qac)) qac))))
   (qaf (qa9 (qtd (qc4 (qa5 ⟨rfl,rfl,rfl⟩) (pv 3) T.cl_Book (qcu T) (hr.mono (by decide)) .nil (qaa (pv 4) qac)) T.cl_Roll (qip T) (hr.mono (by decide)) (qaa (qc4 (qa5 ⟨rfl,rfl,rfl⟩) (pv 0) T.cl_Book (qcu T) (hr.mono (by decide)) .nil (qaa (pv 4) qac)) qac))))))
   (qaf (qan (pv 3))))),?_⟩
  refine ⟨_,rfl,_,rfl,_,rfl,b,dx,_,rfl,hob,no B (by decide +kernel) (by decide +kernel) (by decide +kernel) (by decide +kernel) (by decide +kernel),b,B,es,ge,X,rfl,A',λe H1 n1=>?_⟩;refine ⟨ru,rl,e,ps,g,day,es,fs,ge,fg,rfl,R.same n1.same,Pg,wb,hd,n1.at_,A'.ok.E,hln,U,λb' le dm dr H2 B2 s2 f1 f2 f3 f4=>qaz ?_⟩;refine qof (σ':=[some (.ref b),some (.ref ru),some (.int day),some (.ref b'),none]) rfl ?_;have s02:=n1.same.trans s2;have A2:=A'.same s02;refine ⟨_,rfl,b,dx,_,rfl,s02 _ _ hob,no B (by decide +kernel) (by decide +kernel) (by decide +kernel) (by decide +kernel) (by decide +kernel),b,B,es,ge,X,rfl,A2,by omega,λln H3 n3=>?_⟩;have s03:=s02.trans n3.same;have g1:H b'=none:=n1.same.free f1;have g2:H le=none:=n1.same.free f2;have g3:H dm=none:=n1.same.free f3;have g4:H dr=none:=n1.same.free f4;have snm:∀ y∈qbm (X.map (·.1)),y∈X.map (·.1):=λy hy=>(qa8 _).mem_iff.mp hy
  have snd:(qbm (X.map (·.1))).Nodup:=(qa8 _).nodup_iff.mpr (by unfold List.Nodup;rw[CG];exact XG.ok.imp λz=>z.1);refine ⟨ln,rfl,⟨_,SqL.of n3.at_⟩,qc2 (xs:=(qbm (X.map (·.1))).map tS) (λj σ H'=>∃ (X':qbf) (v4:Option V),Same H H'/\H' ln=some (.lst ((qbm (X.map (·.1))).map tS))/\BkC C_Book C_Roll C_Rule H' b' ⟨ru,rl,le,dm,dr,ps,g,day⟩ fs fg X'/\XOk X'/\X'.map (·.1)=(qbm (X.map (·.1))).take j/\(∀ p∈X',∃ e:RC,(p.1,e)∈X/\p.2.2.2.1=e.2.2.1/\p.2.2.2.2=qbm e.2.2.2)/\(∀ p∈X',H p.2.2.1.dy=none/\H p.2.2.1.dh=none)/\σ=[some (.ref b),some (.ref ru),some (.int day),some (.ref b'),v4]) ⟨[],_,s03,n3.at_,B2.same n3.same,.nil,rfl,(by intro p h;cases h),(by intro p h;cases h),rfl⟩ (λj σ H' _ ⟨_,_,_,z,_⟩=>SqL.of z) ?_ ?_⟩
  ·rintro j x' σ H4 hxj ⟨X',v4,s4,hln4,B4,xk,nm,en,fr,rfl⟩
   obtain ⟨x,hxs,rfl⟩:∃ x,(qbm (X.map (·.1)))[j]?=some x/\x'=tS x:=by
    rw[Ay] at hxj;obtain ⟨x,e1,e2⟩:=AL.mp hxj;exact ⟨x,e1,e2.symm⟩
   obtain ⟨⟨x0,e0⟩,he0,ex0⟩:=Af.mp (snm x (Aq hxs));have ex0:x0=x:=ex0;subst ex0;have hsx:=XG.sm _ he0;have hmk:=XG.mm _ he0;have tx:∀ {H:Hp},TextV H (tS x0):=.inl ⟨x0,rfl,by have:=hsx.2.1;dsimp only at this;omega⟩;have inx:qi5 X (tS x0):=⟨x0,rfl,hsx,Af.mpr ⟨_,he0,rfl⟩⟩;have hni:x0 ∉ X'.map (·.1):=by
    rw[nm];intro z;obtain ⟨i,hi,ei⟩:=AS z;rw[Au] at hi;rw[DQ] at ei;have jl:=(Am.mp hxs).1;have ej:=(Am.mp hxs).2;have:=(Di (xs:=qbm (X.map (·.1))) (i:=i) (j:=j) (h₀:=by omega) (h₁:=jl) snd).mp (by rw[ei,ej]);omega
   have lX':X'.length<=20:=by
    have:=congrArg List.length nm;rw[Ad,Au,(qa8 _).length_eq,Ad] at this;omega
   refine qaz ?_;refine qof (σ':=[some (.ref b),some (.ref ru),some (.int day),some (.ref b'),some (tS x0)]) rfl ?_;obtain ⟨dx',hob'⟩:=B4.ob;refine ⟨_,rfl,b',dx',_,rfl,hob',no _ (by decide +kernel) (by decide +kernel) (by decide +kernel) (by decide +kernel) (by decide +kernel),_,rfl,_,rfl,b,dx,_,rfl,s4 _ _ hob,no B (by decide +kernel) (by decide +kernel) (by decide +kernel) (by decide +kernel) (by decide +kernel),_,rfl,b,B,es,ge,X,tS x0,rfl,A'.same s4,tx,λy e' ey hy hm l H5 s5 f5 h5=>?_,λz=>absurd inx z⟩;have ey:=qch ey;subst ey;have ee:=XG.ok.one hm he0;subst ee;have ok5:qb2 ((qbm e'.2.2.2).map tS):=qpo (qa8 _) hmk;have l8:=ok5.2.2;refine ⟨b',_,fs,fg,X',tS x0,.ref l,_,rfl,B4.same s5,tx,.inr ⟨l,rfl,h5⟩,λu hu=>?_,by omega,by omega,λz=>?_,λ_ z=>absurd ok5 z,λy2 ms ey2 hy2 hn2 eu ok ro c H6 b6 c1 c2 B6 _=>?_⟩
   ·obtain ⟨m,hm',rfl⟩:=Af.mp hu
    have:=ok5.1 (tS m) hu;rw[qc1] at this;exact .inl ⟨m,rfl,by have:=(AE this).2.1;omega⟩
   ·rcases z with z|⟨y,e,_,hy'⟩
    ·rw[qc1,AF hsx] at z;cases z
    ·exact absurd (qch e ▸ hy') hni
   have ey2:=qch ey2;subst ey2;have ems:qbm e'.2.2.2=ms:=ql6 eu;have s45:Same H H5:=s4.trans s5;have s06:Same H H6:=λz o e=>b6 _ _ (s45 _ _ e) (qag e g3) (qag e g4)
   have xk6:XOk (X' ++ [(x0,(ro,c,[],ms))]):=by
    unfold XOk;rw[CO];refine ⟨xk,by simp,λp hp p' hp'=>?_⟩;rw[Aj.mp hp'];obtain ⟨⟨Y,hY⟩,⟨Z,hZ⟩⟩:=(B4.same s5).dicts (x:=p.1) (e:=p.2) hp;exact ⟨λe=>hni (Af.mpr ⟨p,hp,e⟩),qag hY c1,qag hY c2,qag hZ c1,qag hZ c2⟩
   have m6:(x0,((ro,c,[],ms):RC))∈X' ++ [(x0,((ro,c,[],ms):RC))]:=AK _ (Aj.mpr rfl);obtain ⟨dx6,hob6⟩:=B6.ob;have inx6:qi5 (X' ++ [(x0,((ro,c,[],ms):RC))]) (tS x0):=⟨x0,rfl,hsx,Af.mpr ⟨_,m6,rfl⟩⟩;refine ⟨_,rfl,b',dx6,_,rfl,hob6,no _ (by decide +kernel) (by decide +kernel) (by decide +kernel) (by decide +kernel) (by decide +kernel),_,rfl,b',_,fs,fg,_,tS x0,rfl,B6,tx,λy3 e3 ey3 hy3 hm3 re3 H7 s7=>?_,λz=>absurd inx6 z⟩;have ey3:=qch ey3;subst ey3;have ee3:=xk6.one hm3 m6;subst ee3;obtain ⟨LY6,LZ6,N6⟩:=re3.ex;have N7:=N6.same s7;obtain ⟨dxo,hro⟩:=N7.R.obj;refine ⟨ro,dxo,_,rfl,hro,qjf _ _ _ _ _ (by decide +kernel) (by decide +kernel) (by decide +kernel) (by decide +kernel) (by decide +kernel),_,rfl,b,dx,_,rfl,s7 _ _ (s06 _ _ hob),no B (by decide +kernel) (by decide +kernel) (by decide +kernel) (by decide +kernel) (by decide +kernel),_,rfl,b,B,es,ge,X,tS x0,rfl,(A'.same s06).same s7,tx,λy4 e4 ey4 hy4 hm4 re4 H8 s8=>?_,λz=>absurd inx z⟩;have ey4:=qch ey4;subst ey4;have ee4:=XG.ok.one hm4 he0;subst ee4;obtain ⟨LY4,LZ4,R4⟩:=re4.ex;simp only[qm8,Br,Bx,Be];have N8:=N7.same s8;have e1:LY6=[]:=Cw.mp (by have:=N8.ly;simpa using this);have e2:LZ6=[]:=Cw.mp (by have:=N8.lz;simpa using this);subst e1;subst e2;have N8':R63 C_Roll C_Rule H8 ro c ps g day fs fg [] [] []:=N8;obtain ⟨⟨Yo,hYo⟩,⟨Zo,hZo⟩⟩:=(A'.same s45).dicts he0;refine (R4.same s8).moved N8' (XG.rs _ he0) hw U.L ⟨qag hYo c1,qag hYo c2,qag hZo c1,qag hZo c2⟩ λLY9 LZ9 H9 R9 b9=>?_
   have s68:=s7.trans s8;obtain ⟨⟨Y8,hY8⟩,⟨Z8,hZ8⟩⟩:=N8.R.dicts;have B9:=(B6.same s68).set xk6 m6 b9 hY8 hZ8 (rs:=e4.2.2.1) ⟨⟨_,_,R9⟩,re3.ru,re3.rl,XG.rs _ he0⟩;rw[qsf hni] at B9;have g5:H c.dy=none:=s45.free c1;have g6:H c.dh=none:=s45.free c2;refine ⟨X' ++ [(x0,(ro,c,e4.2.2.1,ms))],_,λz o e=>b9 _ _ (s68 _ _ (s06 _ _ e)) (qag e g5) (qag e g6),?_,B9,?_,?_,λp hp=>?_,λp hp=>?_,rfl⟩
   ·obtain ⟨km,hkm,_⟩:=(B4.same s5).ms
    obtain ⟨kr,hkr,_⟩:=(B4.same s5).rs;have e5:=s5 _ _ hln4;have e6:=s68 _ _ (b6 _ _ e5 (qa0 e5 hkm (by intro z;cases z)) (qa0 e5 hkr (by intro z;cases z)));exact b9.keep hY8 hZ8 e6 (by intro K z;cases z)
   ·have:=xk6
    unfold XOk at this ⊢;rw[CO] at this ⊢;refine ⟨this.1,by simp,λp hp p' hp'=>?_⟩;have z:=this.2.2 p hp _ (Aj.mpr rfl);rw[Aj.mp hp'];exact z
   ·rw[AI,nm,BD,hxs];rfl
   ·rcases AD.mp hp with z|z
    ·exact en p z
    ·rw[Aj.mp z];exact ⟨e4,he0,rfl,ems.symm⟩
   ·rcases AD.mp hp with z|z
    ·exact fr p z
    ·rw[Aj.mp z];exact ⟨g5,g6⟩
  ·rintro σ H4 ⟨X',v4,s4,hln4,B4,xk,nm,en,fr,rfl⟩
   rw[Ad,AO] at nm;exact ⟨_,rfl,q b' le dm dr X' H4 B4 xk ⟨nm,en⟩ fr s4 g1 g2 g3 g4⟩
end
section
variable {P:Program} {w:World} {K:Frag} {mg:Str->Option Value} {base:Heap} {C_Roll C_Rule C_Book C_BookError C_NoNumber C_NoRule C_Backward C_NoName C_NoMark:Addr}
theorem lk1 (f:Str) (v:V):[(f,v)].lookup f=some v:=by rw[CJ];simp
theorem qis (T:Txt K mg C_Roll C_Rule C_Book C_BookError C_NoNumber C_NoRule C_Backward C_NoName C_NoMark):qB5 P w K mg base C_Backward 1 "Backward" ["self", "last"] "last" :=by
 obtain ⟨f,fd,F,hE⟩:=T.f_Backward_init;have nd:=sc_Backward_init.nd;refine ⟨f,fd,(F.ok sc_Backward_init (λvs H Q E h=>?_) (λcdv A outer s H vs Q E hr h=>?_)),T.mg_Backward,hE,(F.binds λ_ _ _ _ _ _ us hl=>by obtain ⟨_,_,rfl⟩:=L2.lq2 hl;rfl)⟩
 ·obtain ⟨ex,v,rfl,_⟩:=h;rfl
 ·obtain ⟨ex,v,rfl,hx,q⟩:=h
  refine ⟨_,(qad (qa9 (qtn rfl T.mg_BookError T.bi_BookError (qaa (pv 0) (qaa qdr qac))))
   (qaf (qwf (pv 0) (pv 1) rfl))),?_⟩
  refine ⟨_,rfl,ex,C_Backward,f, "last",none,_,rfl,by decide,hE,hx,?_⟩;exact ⟨_,rfl,_,rfl,ex,C_Backward,f,rfl,hx,hE,λdx H3 f1 ne h3 h4 h5=>q dx H3 f1 ne h3 h4 h5⟩
inductive qoi (C CR R N:Addr) (vs:List V) (H:Hp) (Q:VK) (E:XK):Prop
 | mk:∀ (b:Addr) (B:qbr) (es:List Int) (ge:Option Int) (X:qbf) (d:Int),vs=[.ref b,.int d]->BkC C CR R H b B es ge X->qmy X 50->Bd d->(d<B.day->∀ dx H',New H H' dx (.xd [("last",.int B.day)])->E (.ref N) (some dx) H')->(B.day<=d->∃ (fs:List Int) (fg:Option Int),qxh B.ps B.g d (es.map V.int ++ [gv ge]) es ge fs fg/\∀ b' le dm dr X' H',BkC C CR R H' b' ⟨B.ru,B.rl,le,dm,dr,B.ps,B.g,d⟩ fs fg X'->XOk X'->qBv X X'->(∀ p∈X',H p.2.2.1.dy=none/\H p.2.2.1.dh=none)->Same H H'->H b'=none->H le=none->H dm=none->H dr=none->Q (.ref b') H')->qoi C CR R N vs H Q E
theorem qcm (T:Txt K mg C_Roll C_Rule C_Book C_BookError C_NoNumber C_NoRule C_Backward C_NoName C_NoMark):qBe P w K mg base 9 "aged_book" ["book", "day"] [] (qoi C_Book C_Roll C_Rule C_Backward):=by
 obtain ⟨f,fd,F,hm⟩:=T.f_aged_book;have nd:=sc_aged_book.nd;refine ⟨f,fd,(F.okX sc_aged_book (λvs H Q E h=>?_) (λcdv A outer s H vs Q E hr h=>?_)),hm,F.kp,(F.binds λ_ _ _ _ _ _ us hl=>by obtain ⟨_,_,rfl⟩:=L2.lq2 hl;rfl)⟩
 ·obtain ⟨b,B,es,ge,X,d,rfl,_⟩:=h;rfl
 ·obtain ⟨b,B,es,ge,X,d,rfl,A',XG,hd,qE,q⟩:=h
  obtain ⟨dx,hob⟩:=A'.ob;have no:∀ {m:Str},¬ m = "kept_rolls" -> ¬ m = "kept_marks" -> ¬ m = "kept_edges" -> ¬ m = "kept_day" -> ¬ m = "kept_rule" -> (bof B.ru B.day B.le B.dm B.dr).lookup m=none:=λa b c d e=>qe0 _ _ _ _ _ a b c d e
  refine ⟨_,(qad (qbs (qav qjs (pv 1) (qbw (pv 0) T.cl_Book (qfu T) (hr.mono (by decide))) (qay _))
    (qaf (qq8 (qbk ⟨rfl,rfl,rfl⟩) rfl (qis T) (hr.mono (by decide)) rfl (qaa (qbw (pv 0) T.cl_Book (qfu T) (hr.mono (by decide))) qac)))
    qau)
   (qaf (qan (qat (qxl T) (hr.mono (by decide)) rfl (qaa (pv 0) (qaa (qbw (pv 0) T.cl_Book (qf7 T) (hr.mono (by decide))) (qaa (pv 1) qac))))))),?_⟩
  refine ⟨_,rfl,_,rfl,b,dx,_,rfl,hob,no (by decide +kernel) (by decide +kernel) (by decide +kernel) (by decide +kernel) (by decide +kernel),b,B,es,ge,X,rfl,A',_,_,rfl,rfl,_,rfl,?_⟩;refine qjw (λz=>?_) λz=>?_
  ·refine ⟨_,rfl,b,dx,_,rfl,hob,no (by decide +kernel) (by decide +kernel) (by decide +kernel) (by decide +kernel) (by decide +kernel),b,B,es,ge,X,rfl,A',?_⟩
   exact ⟨_,rfl,λdx H2 n2=>qE (AE z) dx H2 n2⟩
  have hle:B.day<=d:=by
   have:¬ d<B.day:=λy=>z (AF y)
   omega
  obtain ⟨fs,fg,U,q⟩:=q hle;refine ⟨_,rfl,_,rfl,b,dx,_,rfl,hob,no (by decide +kernel) (by decide +kernel) (by decide +kernel) (by decide +kernel) (by decide +kernel),b,B,es,ge,X,rfl,A',_,rfl,?_⟩;exact ⟨b,B,es,ge,X,B.ru,B.rl,B.ps,B.g,d,fs,fg,rfl,A',XG,A'.rule,A'.ok.P,A'.ok.wb,rfl,hd,U,q⟩
end
section
variable {P:Program} {w:World} {K:Frag} {mg:Str->Option Value} {base:Heap} {C_Roll C_Rule C_Book C_BookError C_NoNumber C_NoRule C_Backward C_NoName C_NoMark:Addr}
inductive ql7 (K:Frag) (vs:List V) (H:Hp) (Q:VK) (E_:XK):Prop
 | mk:∀ (a:Addr) (ns:List Int) (k:Int),vs=[.ref a,.int k]->SqL K H a (ns.map V.int)->0<=k->Q (.int (ns[k.toNat]?.getD 0)) H->ql7 K vs H Q E_
theorem qci (T:Txt K mg C_Roll C_Rule C_Book C_BookError C_NoNumber C_NoRule C_Backward C_NoName C_NoMark):qbv P w K mg base 1 "_law_cell_at" ["_law_script", "_law_k"] (ql7 K):=by
 obtain ⟨f,fd,F,hm⟩:=T.f__law_cell_at;have nd:=sc__law_cell_at.nd;refine F.def_ hm (F.ok sc__law_cell_at (λvs H Q E h=>?_) (λcdv A outer s H vs Q E hr h=>?_)) (F.binds λ_ _ _ _ _ _ us hl=>by obtain ⟨_,_,rfl⟩:=L2.lq2 hl;rfl)
 ·obtain ⟨a,ns,k,rfl,_⟩:=h;rfl
 ·obtain ⟨a,ns,k,rfl,hS,h0,q⟩:=h
  refine ⟨_,(qad (qbs (qav qjs (pv 1) (qas qbc rfl T.b_len qee (qaa (pv 0) qac)) (qay _))
    (qaf (qan (qbb qbn (pv 0) (pv 1) (λ_ _=>rfl))))
    qau)
   (qaf (qan qae))),?_⟩
  walk_at "r"
  refine qjw (λz=>?_) λz=>?_
  ·have z':k<ns.length:=by simpa using z
   have hk:k.toNat<ns.length:=by omega
   have hi:atI (ns.map V.int) k=some (.int ns[k.toNat]):=by
    have:=qhs (xs:=ns.map V.int) (j:=k.toNat) (v:=V.int ns[k.toNat]) (by simp[hk])
    rwa [Int.toNat_of_nonneg h0] at this
   walk_at "r"
   rw[Ac hk] at q;exact q
  ·have z':¬ k<ns.length:=by simpa using z
   rw[BH (by omega)] at q;exact q
def qxw (d k:Int):Int:=(d % 2147483629+69621*k+1)*48271 % 2147483629*((d % 2147483629+69621*k+1)*48271 % 2147483629 / 1009+69621) % 2147483629
def qt6:Sp:=λvs H Q _=>∃ d k,vs=[.int d,.int k]/\0<=k/\k<=200/\∀ m,(0<=m/\m=qxw d k)->m<2147483629->Q (.int m) H
theorem qao (T:Txt K mg C_Roll C_Rule C_Book C_BookError C_NoNumber C_NoRule C_Backward C_NoName C_NoMark):qbv P w K mg base 1 "_law_mixed" ["_law_draw", "_law_k"] qt6:=by
 obtain ⟨f,fd,F,hm⟩:=T.f__law_mixed;have nd:=sc__law_mixed.nd;refine F.def_ hm (F.ok sc__law_mixed (λvs H Q E h=>?_) (λcdv A outer s H vs Q E hr h=>?_)) (F.binds λ_ _ _ _ _ _ us hl=>by obtain ⟨_,_,rfl⟩:=L2.lq2 hl;rfl)
 ·obtain ⟨d,k,rfl,_⟩:=h;rfl
 ·obtain ⟨d,k,rfl,h1,h2,q⟩:=h
  refine ⟨_,(qad (qaw (i:=2) nd rfl (Or.inl rfl) (qai qa2 (qai qga (qai qba (qai qba (qai qa2 (pv 0) qae) (qai qga qae (pv 1))) qae) qae) qae))
   (qaf (qan (qai qa2 (qai qga (pv 2) (qai qba (qai qcy (pv 2) qae) qae)) qae)))),?_⟩
  have m1:0<=d % 2147483629/\d % 2147483629<2147483629:=by omega
  walk_at "r"
  exact q _ ⟨by omega,rfl⟩ (by omega)
theorem qz0:(Str.ofString "abcdefghijklmnopqrstuvwxyz")=S [97,98,99,100,101,102,103,104,105,106,107,108,109,110,111,112,113,114,115,116,117,118,119,120,121,122]:=by decide +kernel
theorem qoj {i:Int} (h0:0<=i) (h1:i<26):∃ c,[97,98,99,100,101,102,103,104,105,106,107,108,109,110,111,112,113,114,115,116,117,118,119,120,121,122][i.toNat]?=some c/\(97<=c/\c<=122)/\c=97+i.toNat:=by
 obtain ⟨j,rfl⟩:=Cz h0;have hj:j<26:=by omega
 have al:∀ j,j<26->[97,98,99,100,101,102,103,104,105,106,107,108,109,110,111,112,113,114,115,116,117,118,119,120,121,122][j]?=some (97+j):=by decide
 exact ⟨97+j,al j hj,by omega,rfl⟩
theorem Fg:∀ cs:List Nat,qi2 [] (cs.map λc=>[c])=cs
 | []=>rfl
 | [c]=>rfl
 | c :: d :: cs=>by
  have ih:=Fg (d :: cs)
  show [c] ++ [] ++ qi2 [] ((d :: cs).map λc=>[c])=_
  rw[ih];rfl
theorem qmz:∀ cs:List Nat,((cs.map λc=>[c]).map List.length).sum=cs.length
 | []=>rfl
 | c :: cs=>by
  have ih:=qmz cs;simp only[Aw,List.sum_cons,AB,Cn] at ih ⊢;omega
def qt7:Sp:=λvs H Q _=>∃ d k,vs=[.int d,.int k]/\∀ (x:List Nat) H',Same H H'->qa6 8 x->Q (.str (S x)) H'
theorem qm0 (T:Txt K mg C_Roll C_Rule C_Book C_BookError C_NoNumber C_NoRule C_Backward C_NoName C_NoMark):qbv P w K mg base 2 "_law_mark" ["_law_draw", "_law_k"] qt7:=by
 obtain ⟨f,fd,F,hm⟩:=T.f__law_mark;have nd:=sc__law_mark.nd;refine F.def_ hm (F.ok sc__law_mark (λvs H Q E h=>?_) (λcdv A outer s H vs Q E hr h=>?_)) (F.binds λ_ _ _ _ _ _ us hl=>by obtain ⟨_,_,rfl⟩:=L2.lq2 hl;rfl)
 ·obtain ⟨d,k,rfl,_⟩:=h;rfl
 ·obtain ⟨d,k,rfl,q⟩:=h
  refine ⟨_,(qad (qaw (i:=2) nd rfl (Or.inr rfl) qdr)
   (qad (qaw (i:=3) nd rfl (Or.inl rfl) (qai qa2 (qat (qao T) (hr.mono (by decide)) rfl (qaa (pv 0) (qaa qae qac))) qae))
   (qad (qaw (i:=4) nd rfl (Or.inl rfl) (qqf EO E4 E3 qrb qdr (qaa (qhy (vars:=["_law_j"]) (frees:=["_law_some", "_law_draw"]) (fv:=[2,0]) rfl (qkz rfl rfl (by decide +kernel) (by decide +kernel) (by intro p hp;simp only[Ai,As,A7] at hp;rcases hp with rfl|rfl<;>rfl) rfl) ⟨⟨rfl,.inl rfl,rfl,.inl rfl⟩,⟨⟨rfl,.inl rfl,rfl,.inl rfl⟩,trivial⟩⟩ (qf9 rfl T.b_range (qaa (pv 3) qac)) (qe7 (by decide)) (λ_ _ _ _=>(qam (i:=0) (show (["_law_j", "_law_some", "_law_draw"]:List Str).Nodup by decide +kernel) rfl (Or.inl rfl))) (λ_ _ _ _=>qbt) (λ_ _ _ _=>(qnt (pv 1) (qai qa2 (qat (qao T) (hr.mono (by decide)) rfl (qaa (pv 2) (qaa (qai qba qae (pv 0)) qac))) qae) (λ_ _=>rfl)))) qac)))
   (qad (qaw (i:=5) nd rfl (Or.inl rfl) (qai qa2 (qat (qao T) (hr.mono (by decide)) rfl (qaa (pv 0) (qaa qae qac))) (qai qba (pv 3) qae)))
   (qaf (qan (qai qfq (qai qfq (qcb qns (pv 4) qdo (qco (pv 5))) (qnt (pv 2) (qai qa2 (qai qba (qai qcy (pv 0) qae) (qai qga qae (pv 1))) qae) (λ_ _=>rfl))) (qcb qns (pv 4) (qco (pv 5)) qdo)))))))),?_⟩
  rw[qz0]
  walk_at "r"
  intro m m0 m1
  walk_at "r"
  have m8:0<=m % 8/\m % 8<8:=by omega
  refine qia (n:=(m % 8).toNat) (λi ys H2=>Same H H2/\∃ cs:List Nat,cs.length=i/\(∀ c∈cs,97<=c/\c<=122)/\ys=cs.map λc=>V.str (S [c])) (qfw (by omega)) ⟨Same.refl _,[],rfl,by simp,rfl⟩ (λi ys H2 h2=>by obtain ⟨_,cs,h3,_,h4⟩:=h2;rw[h4,Ad,h3];exact Ag _) ?_ ?_
  ·rintro i ys H2 hi ⟨s2,cs,hl,hc,rfl⟩
   refine qaz (qnf (qe1 ?_))
   walk_at "r"
   intro a a0 a1;have a26:0<=a % 26/\a % 26<26:=by omega
   obtain ⟨c,hca,hcb,_⟩:=qoj a26.1 a26.2
   walk_at "r"
   refine ⟨_,_,c,rfl,rfl,a26.1,by omega,hca,?_⟩;refine ⟨s2,cs ++ [c],by simp[hl],λx hx=>?_,by simp⟩
   rcases AD.mp hx with z|z
   ·exact hc x z
   ·rw[Aj.mp z];exact hcb
  ·rintro ys H2 p H3 ⟨s2,cs,hl,hc,rfl⟩ n3
   rw[qsb];have e3:H3 p=some (.lst ((cs.map λc=>[c]).map λq=>V.str (S q))):=by rw[AG];exact n3.at_
   refine ⟨[],cs.map λc=>[c],p,rfl,rfl,SqL.of e3,by rw[qmz];simp;omega,?_⟩;rw[Fg];have s3:=s2.trans n3.same
   walk_at "r"
   intro b b0 b1;obtain ⟨j,hj⟩:=Cz (AU b (show (m % 8+1)≠0 by omega));have hj1:=AN b (show (0:Int)<m % 8+1 by omega);rw[hj] at hj1;have lj:j<=cs.length:=by omega
   have lc8:cs.length<=7:=by omega
   have d26:0<=(d / 3+7*k) % 26/\(d / 3+7*k) % 26<26:=by omega
   obtain ⟨c,hca,hcb,_⟩:=qoj d26.1 d26.2
   walk_at "r"
   rw[hj,qq9 cs lj];refine ⟨qfw (by rw[qea,Au];omega),?_⟩
   walk_at "r"
   refine ⟨_,_,c,rfl,rfl,d26.1,by omega,hca,?_⟩
   walk_at "r"
   refine ⟨qfw (by rw[qea,qea,Au];simp;omega),?_⟩;rw[qto]
   walk_at "r"
   rw[qra cs j];refine ⟨qfw (by rw[qea,BN];omega),?_⟩
   walk_at "r"
   refine ⟨qfw (by rw[qea,qea];simp;omega),?_⟩;rw[qto];refine q _ _ s3 ⟨by simp;omega,by simp;omega,λx hx=>?_⟩
   rcases AD.mp hx with z|z
   ·rcases AD.mp z with z|z
    ·exact hc x (Cc z)
    ·rw[Aj.mp z];exact hcb
   ·exact hc x (BJ z)
def ltr (z:Int):Nat:=97+(z % 26).toNat
def qt8 (d:Int):List Nat:=(List.range (qxw d 1 % 12).toNat).map λj=>ltr (qxw d (3+(j:Nat)))
def atF (d:Int):Nat:=(qxw d 2 % (qxw d 1 % 12+1)).toNat
def nmF (d k:Int):List Nat:=(qt8 d).take (atF d) ++ [ltr (d+5*k)] ++ (qt8 d).drop (atF d)
theorem qz1 {d k l:Int} (h:k≠l) (h1:k<l+26) (h2:l<k+26):nmF d k≠nmF d l:=λe=>by
 unfold nmF at e;rw[C7,C7] at e;have e2:=List.append_cancel_left e;have e3:ltr (d+5*k)=ltr (d+5*l):=by injection e2
 unfold ltr at e3;have n1:=AU (d+5*k) (show (26:Int)≠0 by decide);have n2:=AU (d+5*l) (show (26:Int)≠0 by decide);have e4:(d+5*k) % 26=(d+5*l) % 26:=by omega
 omega
def qpp:Sp:=λvs H Q _=>∃ d k,vs=[.int d,.int k]/\∀ H',Same H H'->qa6 12 (nmF d k)->Q (.str (S (nmF d k))) H'
theorem qit (T:Txt K mg C_Roll C_Rule C_Book C_BookError C_NoNumber C_NoRule C_Backward C_NoName C_NoMark):qbv P w K mg base 2 "_law_name" ["_law_draw", "_law_k"] qpp:=by
 obtain ⟨f,fd,F,hm⟩:=T.f__law_name;have nd:=sc__law_name.nd;refine F.def_ hm (F.ok sc__law_name (λvs H Q E h=>?_) (λcdv A outer s H vs Q E hr h=>?_)) (F.binds λ_ _ _ _ _ _ us hl=>by obtain ⟨_,_,rfl⟩:=L2.lq2 hl;rfl)
 ·obtain ⟨d,k,rfl,_⟩:=h;rfl
 ·obtain ⟨d,k,rfl,q⟩:=h
  refine ⟨_,(qad (qaw (i:=2) nd rfl (Or.inr rfl) qdr)
   (qad (qaw (i:=3) nd rfl (Or.inl rfl) (qai qa2 (qat (qao T) (hr.mono (by decide)) rfl (qaa (pv 0) (qaa qae qac))) qae))
   (qad (qaw (i:=4) nd rfl (Or.inl rfl) (qqf EO E4 E3 qrb qdr (qaa (qhy (vars:=["_law_j"]) (frees:=["_law_some", "_law_draw"]) (fv:=[2,0]) rfl (qkz rfl rfl (by decide +kernel) (by decide +kernel) (by intro p hp;simp only[Ai,As,A7] at hp;rcases hp with rfl|rfl<;>rfl) rfl) ⟨⟨rfl,.inl rfl,rfl,.inl rfl⟩,⟨⟨rfl,.inl rfl,rfl,.inl rfl⟩,trivial⟩⟩ (qf9 rfl T.b_range (qaa (pv 3) qac)) (qe7 (by decide)) (λ_ _ _ _=>(qam (i:=0) (show (["_law_j", "_law_some", "_law_draw"]:List Str).Nodup by decide +kernel) rfl (Or.inl rfl))) (λ_ _ _ _=>qbt) (λ_ _ _ _=>(qnt (pv 1) (qai qa2 (qat (qao T) (hr.mono (by decide)) rfl (qaa (pv 2) (qaa (qai qba qae (pv 0)) qac))) qae) (λ_ _=>rfl)))) qac)))
   (qad (qaw (i:=5) nd rfl (Or.inl rfl) (qai qa2 (qat (qao T) (hr.mono (by decide)) rfl (qaa (pv 0) (qaa qae qac))) (qai qba (pv 3) qae)))
   (qaf (qan (qai qfq (qai qfq (qcb qns (pv 4) qdo (qco (pv 5))) (qnt (pv 2) (qai qa2 (qai qba (pv 0) (qai qga qae (pv 1))) qae) (λ_ _=>rfl))) (qcb qns (pv 4) (qco (pv 5)) qdo)))))))),?_⟩
  rw[qz0]
  walk_at "r"
  intro m m0 m1
  walk_at "r"
  have m12:0<=m % 12/\m % 12<12:=by omega
  refine qia (n:=(m % 12).toNat) (λi ys H2=>Same H H2/\∃ cs:List Nat,cs.length=i/\((∀ c∈cs,97<=c/\c<=122)/\cs=(List.range i).map λj=>ltr (qxw d (3+(j:Nat))))/\ys=cs.map λc=>V.str (S [c])) (qfw (by omega)) ⟨Same.refl _,[],rfl,⟨by simp,rfl⟩,rfl⟩ (λi ys H2 h2=>by obtain ⟨_,cs,h3,_,h4⟩:=h2;rw[h4,Ad,h3];exact Ag _) ?_ ?_
  ·rintro i ys H2 hi ⟨s2,cs,hl,⟨hc,hcs⟩,rfl⟩
   refine qaz (qnf (qe1 ?_))
   walk_at "r"
   intro a a0 a1;have a26:0<=a % 26/\a % 26<26:=by omega
   obtain ⟨c,hca,hcb,hcc⟩:=qoj a26.1 a26.2
   walk_at "r"
   refine ⟨_,_,c,rfl,rfl,a26.1,by omega,hca,?_⟩;refine ⟨s2,cs ++ [c],by simp[hl],⟨λx hx=>?_,?_⟩,by simp⟩
   case refine_2 =>
    rw[List.range_succ,AI,<- hcs,hcc,a0.2,List.map_singleton,CY];rfl
   rcases AD.mp hx with z|z
   ·exact hc x z
   ·rw[Aj.mp z];exact hcb
  ·rintro ys H2 p H3 ⟨s2,cs,hl,⟨hc,hcs⟩,rfl⟩ n3
   rw[qsb];have e3:H3 p=some (.lst ((cs.map λc=>[c]).map λq=>V.str (S q))):=by rw[AG];exact n3.at_
   refine ⟨[],cs.map λc=>[c],p,rfl,rfl,SqL.of e3,by rw[qmz];simp;omega,?_⟩;rw[Fg];have s3:=s2.trans n3.same
   walk_at "r"
   intro b b0 b1;obtain ⟨j,hj⟩:=Cz (AU b (show (m % 12+1)≠0 by omega));have hj1:=AN b (show (0:Int)<m % 12+1 by omega);rw[hj] at hj1;have lj:j<=cs.length:=by omega
   have lc8:cs.length<=11:=by omega
   have d26:0<=(d+5*k) % 26/\(d+5*k) % 26<26:=by omega
   obtain ⟨c,hca,hcb,hcc⟩:=qoj d26.1 d26.2
   walk_at "r"
   rw[hj,qq9 cs lj];refine ⟨qfw (by rw[qea,Au];omega),?_⟩
   walk_at "r"
   refine ⟨_,_,c,rfl,rfl,d26.1,by omega,hca,?_⟩
   walk_at "r"
   refine ⟨qfw (by rw[qea,qea,Au];simp;omega),?_⟩;rw[qto]
   walk_at "r"
   rw[qra cs j];refine ⟨qfw (by rw[qea,BN];omega),?_⟩
   walk_at "r"
   refine ⟨qfw (by rw[qea,qea];simp;omega),?_⟩;rw[qto];have eb:cs=qt8 d:=by rw[hcs];unfold qt8;rw[<- m0.2]
   have ej:j=atF d:=by unfold atF;rw[<- m0.2,<- b0.2,hj];rfl
   have ec:c=ltr (d+5*k):=hcc;have en:cs.take j ++ [c] ++ cs.drop j=nmF d k:=by unfold nmF;rw[<- eb,<- ej,<- ec]
   have sw:qa6 12 (cs.take j ++ [c] ++ cs.drop j):=⟨by simp;omega,by simp;omega,λx hx=>by
    rcases AD.mp hx with z|z
    ·rcases AD.mp z with z|z
     ·exact hc x (Cc z)
     ·rw[Aj.mp z];exact hcb
    ·exact hc x (BJ z)⟩
   rw[en] at sw ⊢;exact q _ s3 sw
end
section
variable {P:Program} {w:World} {K:Frag} {mg:Str->Option Value} {base:Heap} {C_Roll C_Rule C_Book C_BookError C_NoNumber C_NoRule C_Backward C_NoName C_NoMark:Addr}
theorem qC3 {s u:TS} {D:Ends} {σ:St} {H:Hp} (J:St->Hp->Prop) (h1:∀ N:St->Hp->Prop,(∀ σ' H',J σ' H'->N σ' H')->s { D with nx:=N } σ H) (h2:∀ σ' H',J σ' H'->u D σ' H'):qB0 s u D σ H:=h1 (u D) h2
theorem qgk {F:St->Hp->Prop} {σ σ':St} {H:Hp} (e:σ=σ') (h:F σ' H):F σ H:=e ▸ h
structure PrB (ps:List (Int×Int)) (g:Option Int):Prop where
 P:Pr ps g
 b:∀ p∈ps,p.1<10 ^ 23/\p.2<=3072
 gb:∀ z,g=some z->z<10 ^ 23
theorem PrB.wb {ps:List (Int×Int)} {g:Option Int} (h:PrB ps g):∀ p∈ps,p.2<=10 ^ 35:=λp hp=>Int.le_trans (h.b p hp).2 (by decide)
def wB:Nat->Int
 | 0=>3
 | n+1=>4*wB n
structure Chn (qs:List (Int×Int)) (age width:Int):Prop where
 each:∀ (i:Nat) p,qs[i]?=some p->(0<=p.1/\p.1<10 ^ 23)/\1<=p.2/\p.2<=3072
 next:∀ (i:Nat) p q,qs[i]?=some p->qs[i+1]?=some q->p.1<=q.1/\q.2 % p.2=0
 last:∀ p,qs[qs.length-1]?=some p->p.1<=age/\width % p.2=0
theorem Chn.nil (a w:Int):Chn [] a w:=⟨λi p h=>by simp at h,λi p q h=>by simp at h,λp h=>by simp at h⟩
theorem Chn.snoc {qs:List (Int×Int)} {a w a' k:Int} (h:Chn qs a w) (a0:0<=a) (a1:a<10 ^ 23) (w0:1<=w) (w1:w<=3072) (ha:a<=a'):Chn (qs ++ [(a,w)]) a' (w*k):=by
 refine ⟨λi p e=>?_,λi p q e e'=>?_,λp e=>?_⟩
 ·rw[Fm] at e
  split at e
  ·exact h.each i p e
  ·have:p=(a,w):=by
    have:=Aq e
    simpa using this
   subst this;exact ⟨⟨a0,a1⟩,w0,w1⟩
 ·rw[Fm] at e e'
  split at e'
  ·rw[Ak (by omega)] at e
   exact h.next i p q e e'
  ·have hq:q=(a,w):=by
    have:=Aq e'
    simpa using this
   have h0:i+1-qs.length=0:=by
    have:=(Am.mp e').1
    simp at this
    omega
   rw[Ak (by omega)] at e;rw[show i=qs.length-1 by omega] at e;subst hq;exact h.last p e
 ·rw[Az,By,Nat.add_sub_cancel,Bw (Ag _),Nat.sub_self] at e
  cases e;exact ⟨ha,Int.mul_emod_right _ _⟩
theorem Chn.pr {qs:List (Int×Int)} {a w:Int} {g:Option Int} (h:Chn qs a w) (h1:1<=qs.length) (h5:qs.length<=5) (hg:∀ z,g=some z->a<=z/\z<10 ^ 23):PrB qs g:=by
 refine ⟨⟨⟨h1,h5,λi p e=>⟨(h.each i p e).1.1,(h.each i p e).2.1⟩,h.next⟩,λi p e=>?_,λp e z ez=>Int.le_trans (h.last p e).1 (hg z ez).1,λz ez=>?_⟩,λp hp=>?_,λz ez=>(hg z ez).2⟩
 ·have:=h.each i p e
  exact ⟨this.1.1,by omega,this.2.1,by omega⟩
 ·have:=hg z ez
  obtain ⟨p,e⟩:∃ p,qs[qs.length-1]?=some p:=⟨_,Ac (by omega)⟩;have l:=h.last p e;have q:=h.each _ p e;exact ⟨by omega,by omega⟩
 ·obtain ⟨i,hi,e⟩:=AS hp
  have:=h.each i p (by rw[<- e];exact Ac hi);exact ⟨this.1.2,this.2.2⟩
theorem qC4 (m w:Int) (h0:1<=w) (h1:w<=10 ^ 20):∃ z,atI [V.int 1,V.int 1,V.int 10,V.int w] (m % 4)=some (.int z)/\1<=z/\z<=10 ^ 20:=by
 rcases (show m % 4=0\/m % 4=1\/m % 4=2\/m % 4=3 by omega) with e|e|e|e<;>rw[e]
 ·exact ⟨_,rfl,by decide,by decide⟩
 ·exact ⟨_,rfl,by decide,by decide⟩
 ·exact ⟨_,rfl,by decide,by decide⟩
 ·exact ⟨_,rfl,h0,h1⟩
theorem qxm {x k w:Int} (h0:0<=x) (h1:x<=k) (w0:1<=w) (w1:w<=10 ^ 20):0<=x*w/\x*w<=k*10 ^ 20:=
 ⟨Int.mul_nonneg h0 (by omega),Em h1 w1 (by omega) (by omega)⟩
theorem qBw {i:Nat} (h:i<=5):wB i<=3072:=by
 rcases (show i=0\/i=1\/i=2\/i=3\/i=4\/i=5 by omega) with rfl|rfl|rfl|rfl|rfl|rfl<;>decide
def qpq:Sp:=λvs H Q _=>∃ d,vs=[.int d]/\∀ t l xs ps g H',Same H H'->H l=none->H' t=some (.tup [.ref l,gv g])->H' l=some (.lst xs)->Pairs H' xs ps->PrB ps g->Q (.ref t) H'
theorem qm1 (T:Txt K mg C_Roll C_Rule C_Book C_BookError C_NoNumber C_NoRule C_Backward C_NoName C_NoMark):qbv P w K mg base 2 "_law_rule" ["_law_draw"] qpq:=by
 obtain ⟨f,fd,F,hm⟩:=T.f__law_rule;have nd:=sc__law_rule.nd;refine F.def_ hm (F.ok sc__law_rule (λvs H Q E h=>?_) (λcdv A outer s H vs Q E hr h=>?_)) (F.binds λ_ _ _ _ _ _ us hl=>by obtain ⟨_,rfl⟩:=L2.lq1 hl;rfl)
 ·obtain ⟨d,rfl,_⟩:=h;rfl
 ·obtain ⟨d,rfl,q⟩:=h
  refine ⟨_,(qad (qaw (i:=1) nd rfl (Or.inl rfl) (qbb qbn (qbx (qaa qae (qaa qae (qaa qae (qaa (qai qba qae (qai qa2 (qai qcy (pv 0) qae) (qai qgb qae qae))) qac))))) (qai qa2 (qat (qao T) (hr.mono (by decide)) rfl (qaa (pv 0) (qaa qae qac))) qae) (λ_ _=>rfl)))
   (qad (qaw (i:=2) nd rfl (Or.inl rfl) (qai qcj (qai qa2 (qat (qao T) (hr.mono (by decide)) rfl (qaa (pv 0) (qaa qae qac))) qae) (pv 1)))
   (qad (qaw (i:=3) nd rfl (Or.inl rfl) (qai qba qae (qai qa2 (qat (qao T) (hr.mono (by decide)) rfl (qaa (pv 0) (qaa qae qac))) qae)))
   (qad (qaw (i:=4) nd rfl (Or.inl rfl) (qbx qac))
   (qad (qec Bb rfl (qf9 rfl T.b_range (qaa (qai qba qae (qai qa2 (qat (qao T) (hr.mono (by decide)) rfl (qaa (pv 0) (qaa qae qac))) qae)) qac)) (qam (i:=5) nd rfl (Or.inl rfl))
    (qad (qa9 (qqf Df Dd Dc qgp (pv 4) (qaa (qck (qaa (pv 2) (qaa (pv 3) qac))) qac)))
   (qad (qaw (i:=2) nd rfl (Or.inl rfl) (qai qba (pv 2) (qai qcj (qai qa2 (qat (qao T) (hr.mono (by decide)) rfl (qaa (pv 0) (qaa (qai qba qae (qai qga qae (pv 5))) qac))) qae) (pv 1))))
   (qaf (qaw (i:=3) nd rfl (Or.inl rfl) (qai qcj (pv 3) (qai qba qae (qai qa2 (qat (qao T) (hr.mono (by decide)) rfl (qaa (pv 0) (qaa (qai qba qae (qai qga qae (pv 5))) qac))) qae))))))))
   (qad (qbs (qav qjr (qai qa2 (qat (qao T) (hr.mono (by decide)) rfl (qaa (pv 0) (qaa qae qac))) qae) qae (qay _))
    (qaf (qan (qck (qaa (pv 4) (qaa qdx qac)))))
    qau)
   (qaf (qan (qck (qaa (pv 4) (qaa (qai qba (pv 2) (qai qcj (qai qa2 (qat (qao T) (hr.mono (by decide)) rfl (qaa (pv 0) (qaa qae qac))) qae) (pv 1))) qac))))))))))),?_⟩
  have w20:0<=d / 7 % 10 ^ 20/\d / 7 % 10 ^ 20<10 ^ 20:=⟨AU _ (by decide),AN _ (by decide)⟩
  walk_at "r";intro p0 H0 n0
  walk_at "r";intro m0 m00 m01
  obtain ⟨z,hz,z0,z1⟩:=qC4 m0 (1+d / 7 % 10 ^ 20) (by omega) (by omega);refine ⟨_,_,rfl,rfl,by decide,p0,_,_,_,rfl,rfl,SqL.of n0.at_,hz,qaz ?_⟩;refine qgk (σ':=[some (.int d),some (.int z),none,none,none,none]) rfl ?_;refine ⟨_,rfl,d,41,rfl,by decide,by decide,λm1 m10 m11=>?_⟩;have ma:=qxm (x:=m1 % 4) (k:=3) (by omega) (by omega) z0 z1;refine ⟨_,_,rfl,rfl,by decide,_,rfl,_,_,rfl,rfl,⟨⟨by omega,by omega⟩,by omega,by omega⟩,qaz ?_⟩
  generalize m1 % 4*z=age0 at ma
  refine qgk (σ':=[some (.int d),some (.int z),some (.int age0),none,none,none]) rfl ?_;refine ⟨_,rfl,d,42,rfl,by decide,by decide,λm2 m20 m21=>?_⟩;refine ⟨_,_,rfl,rfl,by decide,_,_,rfl,rfl,qaz ?_⟩;refine qgk (σ':=[some (.int d),some (.int z),some (.int age0),some (.int (1+m2 % 3)),none,none]) rfl ?_;refine ⟨AW _,λl H1 n1=>qaz ?_⟩;refine qgk (σ':=[some (.int d),some (.int z),some (.int age0),some (.int (1+m2 % 3)),some (.ref l),none]) rfl ?_;refine ⟨_,rfl,d,43,rfl,by decide,by decide,λm3 m30 m31=>?_⟩;have fl:H l=none:=n0.same.free n1.fresh;refine ⟨_,_,rfl,rfl,by decide,_,_,rfl,rfl,_,rfl,by omega,by omega,qp2 (n:=(1+m3 % 5).toNat) (λi σ H2=>Same H H2/\∃ (qs:List (Int×Int)) (xs:List V) (a w':Int) (v5:Option V),H2 l=some (.lst xs)/\Pairs H2 xs qs/\qs.length=i/\Chn qs a w'/\(0<=a/\a<=(3+4*i)*10 ^ 20)/\(1<=w'/\w'<=wB i)/\σ=[some (.int d),some (.int z),some (.int a),some (.int w'),some (.ref l),v5]) ⟨n0.same.trans n1.same,[],[],age0,_,_,n1.at_,.nil,rfl,Chn.nil _ _,⟨ma.1,by have:=ma.2;simpa using this⟩,⟨by omega,by show 1+m2 % 3<=3;omega⟩,rfl⟩ ?_ ?_⟩
  ·rintro i σ H2 hi ⟨s2,qs,xs,a,w',v5,hl,hp,hq,ch,ab,wb,rfl⟩
   rw[CY];have i5:i<5:=by omega
   have w5:=qBw (i:=i) (by omega);have xl:=hp.length;refine qaz (qgk (σ':=[some (.int d),some (.int z),some (.int a),some (.int w'),some (.ref l),some (.int i)]) rfl ?_);refine ⟨_,rfl,.inl ⟨rfl,_,SqL.of hl⟩,_,rfl,_,rfl,qfw (by simp),λt H3 n3=>?_⟩;refine ⟨l,_,_,rfl,rfl,n3.same _ _ hl,qa3 (by omega),λH4 b4 h4=>?_⟩;refine ⟨_,rfl,_,rfl,_,rfl,_,_,rfl,rfl,by walk_at "c",_,_,rfl,rfl,d,_,rfl,by omega,by omega,λm4 m40 m41=>?_⟩;have mb:=qxm (x:=m4 % 5) (k:=4) (by omega) (by omega) z0 z1;refine ⟨_,_,rfl,rfl,by decide,_,rfl,_,_,rfl,rfl,⟨⟨by omega,by omega⟩,by omega,by omega⟩,_,_,rfl,rfl,qaz ?_⟩
   generalize m4 % 5*z=ad at mb
   refine qgk (σ':=[some (.int d),some (.int z),some (.int (a+ad)),some (.int w'),some (.ref l),some (.int i)]) rfl ?_;refine ⟨_,rfl,_,rfl,_,rfl,_,_,rfl,rfl,by walk_at "c",_,_,rfl,rfl,d,_,rfl,by omega,by omega,λm5 m50 m51=>?_⟩;refine ⟨_,_,rfl,rfl,by decide,_,_,rfl,rfl,_,_,rfl,rfl,⟨⟨by omega,by omega⟩,by omega,by omega⟩,qaz ?_⟩;have wn:w'*(1+m5 % 4)<=wB i*4:=Em wb.2 (by omega) (by omega) (by omega);have wp:1*1<=w'*(1+m5 % 4):=Em wb.1 (by omega) (by omega) (by omega);refine ⟨b4.same (s2.trans n3.same) fl,qs ++ [(a,w')],_,a+ad,w'*(1+m5 % 4),_,h4,?_,by simp[hq],ch.snoc ab.1 (by omega) wb.1 (by omega) (by omega),⟨by omega,by have:=mb.2;omega⟩,⟨by omega,by show _<=4*wB i;omega⟩,rfl⟩;exact ((hp.same n3.same).but b4 (n3.same _ _ hl) quw).snoc ⟨t,rfl,b4 _ _ n3.at_ (qa0 n3.at_ (n3.same _ _ hl) (by intro z;cases z))⟩
  ·rintro σ H2 ⟨s2,qs,xs,a,w',v5,hl,hp,hq,ch,ab,wb,rfl⟩
   have n5:1<=qs.length/\qs.length<=5:=by omega
   refine ⟨_,rfl,d,60,rfl,by decide,by decide,λm6 m60 m61=>?_⟩;refine ⟨_,_,rfl,rfl,by decide,rfl,_,rfl,?_⟩;refine qjw (λz=>?_) λz'=>?_
   ·refine ⟨_,rfl,qfw (by simp),λt H3 n3=>?_⟩
    exact q t l xs qs none H3 (s2.trans n3.same) fl n3.at_ (n3.same _ _ hl) (hp.same n3.same) (ch.pr n5.1 n5.2 λz e=>by cases e)
   ·refine ⟨_,rfl,_,rfl,_,rfl,d,61,rfl,by decide,by decide,λm7 m70 m71=>?_⟩
    have mb:=qxm (x:=m7 % 9) (k:=8) (by omega) (by omega) z0 z1;refine ⟨_,_,rfl,rfl,by decide,_,rfl,_,_,rfl,rfl,⟨⟨by omega,by omega⟩,by omega,by omega⟩,_,_,rfl,rfl,qfw (by simp),λt H3 n3=>?_⟩;refine q t l xs qs (some (a+m7 % 9*z)) H3 (s2.trans n3.same) fl n3.at_ (n3.same _ _ hl) (hp.same n3.same) (ch.pr n5.1 n5.2 λy e=>?_);cases e;have:=ab.2;exact ⟨by omega,by omega⟩
end
section
variable {P:Program} {w:World} {K:Frag} {mg:Str->Option Value} {base:Heap} {C_Roll C_Rule C_Book C_BookError C_NoNumber C_NoRule C_Backward C_NoName C_NoMark:Addr}
def T42 (t:Int):Prop:=-(10 ^ 42)<t/\t<10 ^ 42
theorem qC5 (m a b c d:Int) {W:Int} (ha:1<=a/\a<W) (hb:1<=b/\b<W) (hc:1<=c/\c<W) (hd:1<=d/\d<W):∃ z,atI [V.int a,V.int b,V.int c,V.int d] (m % 4)=some (.int z)/\1<=z/\z<W:=by
 rcases (show m % 4=0\/m % 4=1\/m % 4=2\/m % 4=3 by omega) with e|e|e|e<;>rw[e]
 ·exact ⟨_,rfl,ha⟩
 ·exact ⟨_,rfl,hb⟩
 ·exact ⟨_,rfl,hc⟩
 ·exact ⟨_,rfl,hd⟩
theorem Pairs.at {H:Hp} {xs:List V} {ps:List (Int×Int)} (h:Pairs H xs ps) {i:Nat} (hi:i<ps.length):∃ a p,xs[i]?=some (.ref a)/\p∈ps/\ps[i]?=some p/\H a=some (.tup [.int p.1,.int p.2]):=by
 have hl:=h.length;have e:xs[i]?=some xs[i]:=Ac (by omega);obtain ⟨p,hp,a,ea,q⟩:=h.get e;rw[ea] at e;exact ⟨a,p,e,Aq hp,hp,q⟩
inductive qjl (vs:List V) (H:Hp) (Q:VK) (E_:XK):Prop
 | mk:∀ (l:Addr) (xs:List V) (ps:List (Int×Int)) (g:Option Int) (day d:Int),vs=[.ref l,gv g,.int day,.int d]->H l=some (.lst xs)->Pairs H xs ps->PrB ps g->(-(10 ^ 31)<=day/\day<=10 ^ 31)->(∀ t H',Same H H'->T42 t->Q (.int t) H')->qjl vs H Q E_
theorem qm2 (T:Txt K mg C_Roll C_Rule C_Book C_BookError C_NoNumber C_NoRule C_Backward C_NoName C_NoMark):qbv P w K mg base 2 "_law_time" ["_law_steps", "_law_gone", "_law_day", "_law_draw"] qjl:=by
 obtain ⟨f,fd,F,hm⟩:=T.f__law_time;have nd:=sc__law_time.nd;refine F.def_ hm (F.ok sc__law_time (λvs H Q E h=>?_) (λcdv A outer s H vs Q E hr h=>?_)) (F.binds λ_ _ _ _ _ _ us hl=>by obtain ⟨_,_,_,_,rfl⟩:=L2.lq4 hl;rfl)
 ·obtain ⟨l,xs,ps,g,day,d,rfl,_⟩:=h;rfl
 ·obtain ⟨l,xs,ps,g,day,d,rfl,hl,hp,pb,hd,q⟩:=h
  have lo:=pb.P.good.lo;have xl:=hp.length;obtain ⟨aL,pL,eL,mL,_,hL⟩:=hp.at (i:=ps.length-1) (by omega);obtain ⟨a0,p0,e0,m0,_,h0⟩:=hp.at (i:=0) (by omega);rw[<- xl] at eL;have bL:=pb.b pL mL;have b0:=pb.b p0 m0;obtain ⟨iL,hiL,eiL⟩:=AS mL;have gL:=pb.P.good.each iL pL (by rw[<- eiL];exact Ac hiL);obtain ⟨i0,hi0,ei0⟩:=AS m0;have g0:=pb.P.good.each i0 p0 (by rw[<- ei0];exact Ac hi0);have i0':atI xs 0=some (.ref a0):=qhs (j:=0) e0;refine ⟨_,(qad (qaw (i:=4) nd rfl (Or.inl rfl) (qai qba (qbb qbl (qbb qbn (pv 0) (qgm qep qae) (λ_ _=>rfl)) qae (λ_ _=>rfl)) (qbb qbl (qbb qbn (pv 0) (qgm qep qae) (λ_ _=>rfl)) qae (λ_ _=>rfl))))
   (qad (qaw (i:=5) nd rfl (Or.inl rfl) (qbb qbn (qbx (qaa qae (qaa (qai qba (qai qba (qai qcj qae (qbb qbl (qbb qbn (pv 0) qae (λ_ _=>rfl)) qae (λ_ _=>rfl))) (qbb qbl (qbb qbn (pv 0) qae (λ_ _=>rfl)) qae (λ_ _=>rfl))) qae) (qaa (qai qba (qai qcj qae (pv 4)) qae) (qaa (qai qba (qai qcj qae (pv 4)) qae) qac))))) (qai qa2 (qat (qao T) (hr.mono (by decide)) rfl (qaa (pv 3) (qaa qae qac))) qae) (λ_ _=>rfl)))
   (qad (qbs (qav qjr (qai qa2 (qat (qao T) (hr.mono (by decide)) rfl (qaa (pv 3) (qaa qae qac))) qae) qae (qay _))
    (qaf (qan (qai qed (pv 2) (qai qa2 (qai qcy (pv 3) qae) (qai qgb qae qae)))))
    qau)
   (qad (qaw (i:=6) nd rfl (Or.inl rfl) (qai qcy (pv 3) qae))
   (qad (qbs (PW.pt (qx2 (qav qmg (pv 1) qdx (qay _)) (qvf (qav qjr (qai qa2 (qat (qao T) (hr.mono (by decide)) rfl (qaa (pv 3) (qaa qae qac))) qae) qae (qay _)))))
    (qaf (qan (qai qba (qai qed (qai qed (pv 2) (pv 1)) (qai qa2 (pv 6) (qai qba (qai qcj qae (qbb qbl (qbb qbn (pv 0) (qgm qep qae) (λ_ _=>rfl)) qae (λ_ _=>rfl))) qae))) (qbb qbl (qbb qbn (pv 0) (qgm qep qae) (λ_ _=>rfl)) qae (λ_ _=>rfl)))))
    qau)
   (qaf (qan (qai qed (qai qba (pv 2) qae) (qai qa2 (pv 6) (pv 5)))))))))),?_⟩
  walk_at "r"
  intro p1 H1 n1
  walk_at "r"
  intro m1 m10 m11;obtain ⟨f,hf,f0,f1⟩:=qC5 m1 4 (2*p0.2+p0.1+2) (2*(pL.1+pL.2)+9) (3*(pL.1+pL.2)+9) (W:=10 ^ 25) (by decide) (by omega) (by omega) (by omega);refine ⟨_,_,rfl,rfl,by decide,p1,_,_,_,rfl,rfl,SqL.of n1.at_,hf,qaz ?_⟩;refine qgk (σ':=[some (.ref l),some (gv g),some (.int day),some (.int d),some (.int (pL.1+pL.2)),some (.int f),none]) rfl ?_;have d40:0<=d / 5 % 10 ^ 40/\d / 5 % 10 ^ 40<10 ^ 40:=⟨AU _ (by decide),AN _ (by decide)⟩;refine ⟨_,rfl,d,72,rfl,by decide,by decide,λm2 _ _=>⟨_,_,rfl,rfl,by decide,rfl,_,rfl,?_⟩⟩;refine qjw (λz=>?_) λz=>?_
  ·walk_at "r"
   exact q (day-d / 5 % 10 ^ 40) H1 n1.same ⟨by omega,by omega⟩
  refine ⟨_,rfl,_,_,rfl,rfl,by walk_at "c",qaz ?_⟩;refine qgk (σ':=[some (.ref l),some (gv g),some (.int day),some (.int d),some (.int (pL.1+pL.2)),some (.int f),some (.int (d / 5))]) rfl ?_;have fin:T42 (day+3-d / 5 % f):=by
   have h1:=AU (d / 5) (show f≠0 by omega);have h2:=AN (d / 5) (show 0<f by omega);exact ⟨by omega,by omega⟩
  refine ⟨_,rfl,rfl,_,rfl,?_⟩
  cases g with
  | none =>
   refine qf0 ?_;refine ⟨_,rfl,_,_,rfl,rfl,_,rfl,_,rfl,_,_,rfl,rfl,by walk_at "c",_,_,rfl,rfl,q _ H1 n1.same fin⟩
  | some gz =>
   refine qe1 ?_;refine ⟨_,rfl,d,73,rfl,by decide,by decide,λm3 _ _=>⟨_,_,rfl,rfl,by decide,rfl,_,rfl,?_⟩⟩;have gzb:=pb.gb gz rfl;have gz0:=(pb.P.gb gz rfl).1;refine qjw (λz=>?_) λz=>?_
   ·have hl1:=n1.same _ _ hl
    have hL1:=n1.same _ _ hL;have h1:=AU (d / 5) (show 2*pL.2+3≠0 by omega);have h2:=AN (d / 5) (show 0<2*pL.2+3 by omega);have fin2:T42 (day-gz-d / 5 % (2*pL.2+3)+pL.2):=⟨by omega,by omega⟩;have e1:gv (some gz)=V.int gz:=rfl;refine qgk (σ':=[some (.ref l),some (.int gz),some (.int day),some (.int d),some (.int (pL.1+pL.2)),some (.int f),some (.int (d / 5))]) rfl ?_
    walk_at "r"
    exact q _ H1 n1.same fin2
   ·refine ⟨_,rfl,_,_,rfl,rfl,_,rfl,_,rfl,_,_,rfl,rfl,by walk_at "c",_,_,rfl,rfl,q _ H1 n1.same fin⟩
def qm3:Sp:=λvs H Q _=>∃ d,vs=[.int d]/\∀ v,-(10 ^ 40)<=v->v<=10 ^ 40->Q (.int v) H
theorem ql8 (T:Txt K mg C_Roll C_Rule C_Book C_BookError C_NoNumber C_NoRule C_Backward C_NoName C_NoMark):qbv P w K mg base 2 "_law_value" ["_law_draw"] qm3:=by
 obtain ⟨f,fd,F,hm⟩:=T.f__law_value;have nd:=sc__law_value.nd;refine F.def_ hm (F.ok sc__law_value (λvs H Q E h=>?_) (λcdv A outer s H vs Q E hr h=>?_)) (F.binds λ_ _ _ _ _ _ us hl=>by obtain ⟨_,rfl⟩:=L2.lq1 hl;rfl)
 ·obtain ⟨d,rfl,_⟩:=h;rfl
 ·obtain ⟨d,rfl,q⟩:=h
  refine ⟨_,(qad (qaw (i:=1) nd rfl (Or.inl rfl) (qat (qao T) (hr.mono (by decide)) rfl (qaa (pv 0) (qaa qae qac))))
   (qad (qbs (qav qjr (qai qa2 (pv 1) qae) qae (qay _))
    (qaf (qan (qai qed (qai qa2 (qai qcy (pv 0) qae) (qai qcj qae (qai qgb qae qae))) (qai qgb qae qae))))
    qau)
   (qaf (qan (qai qed (qai qa2 (qai qcy (pv 1) qae) qae) qae))))),?_⟩
  refine ⟨_,rfl,d,74,rfl,by decide,by decide,λm m0 m1=>qaz ?_⟩;refine qgk (σ':=[some (.int d),some (.int m)]) rfl ?_;have d40:0<=d / 3 % (2*10 ^ 40)/\d / 3 % (2*10 ^ 40)<2*10 ^ 40:=⟨AU _ (by decide),AN _ (by decide)⟩
  walk_at "r"
  refine qjw (λz=>?_) λz=>?_
  ·walk_at "r"
   exact q (d / 3 % (2*10 ^ 40)-10 ^ 40) (by omega) (by omega)
  ·walk_at "r"
   exact q (m / 4 % 19-9) (by omega) (by omega)
theorem qC6 (m n a:Int) (hn:0<=n) (ha:0<=a/\a<10 ^ 30):∃ z,atI [V.int 1,V.int 1,V.int (1+n / 5 % 5),V.int (1+a),V.int 2] (m % 5)=some (.int z)/\1<=z/\z<=10 ^ 31:=by
 rcases (show m % 5=0\/m % 5=1\/m % 5=2\/m % 5=3\/m % 5=4 by omega) with e|e|e|e|e<;>rw[e]
 ·exact ⟨_,rfl,by decide,by decide⟩
 ·exact ⟨_,rfl,by decide,by decide⟩
 ·exact ⟨_,rfl,by omega,by omega⟩
 ·exact ⟨_,rfl,by omega,by omega⟩
 ·exact ⟨_,rfl,by decide,by decide⟩
def qpr:Sp:=λvs H Q _=>∃ d,vs=[.int d]/\∀ m H',Same H H'->1<=m->m<=10 ^ 31->Q (.int m) H'
theorem qm4 (T:Txt K mg C_Roll C_Rule C_Book C_BookError C_NoNumber C_NoRule C_Backward C_NoName C_NoMark):qbv P w K mg base 2 "_law_many" ["_law_draw"] qpr:=by
 obtain ⟨f,fd,F,hm⟩:=T.f__law_many;have nd:=sc__law_many.nd;refine F.def_ hm (F.ok sc__law_many (λvs H Q E h=>?_) (λcdv A outer s H vs Q E hr h=>?_)) (F.binds λ_ _ _ _ _ _ us hl=>by obtain ⟨_,rfl⟩:=L2.lq1 hl;rfl)
 ·obtain ⟨d,rfl,_⟩:=h;rfl
 ·obtain ⟨d,rfl,q⟩:=h
  refine ⟨_,(qad (qaw (i:=1) nd rfl (Or.inl rfl) (qat (qao T) (hr.mono (by decide)) rfl (qaa (pv 0) (qaa qae qac))))
   (qaf (qan (qbb qbn (qbx (qaa qae (qaa qae (qaa (qai qba qae (qai qa2 (qai qcy (pv 1) qae) qae)) (qaa (qai qba qae (qai qa2 (qai qcy (pv 0) qae) (qai qgb qae qae))) (qaa qae qac)))))) (qai qa2 (pv 1) qae) (λ_ _=>rfl))))),?_⟩
  refine ⟨_,rfl,d,75,rfl,by decide,by decide,λm m0 m1=>qaz ?_⟩;refine qgk (σ':=[some (.int d),some (.int m)]) rfl ?_;have d30:0<=d / 3 % 10 ^ 30/\d / 3 % 10 ^ 30<10 ^ 30:=⟨AU _ (by decide),AN _ (by decide)⟩
  walk_at "r"
  intro p1 H1 n1;obtain ⟨z,hz,z0,z1⟩:=qC6 m m (d / 3 % 10 ^ 30) m0.1 d30
  walk_at "r"
  exact q z H1 n1.same z0 z1
def RdN (H:Hp) (v:V) (r:List Nat×Rd3):Prop:=∃ a,v=.ref a/\H a=some (.tup [tS r.1,.int r.2.1,.int r.2.2.1,.int r.2.2.2])
def RdNs (H:Hp) (ys:List V) (rs:List (List Nat×Rd3)):Prop:=Paired (RdN H) ys rs
theorem RdNs.tupS {H H':Hp} (s:qtu H H'):∀ {ys:List V} {rs:List (List Nat×Rd3)},RdNs H ys rs->RdNs H' ys rs
 | _,_,.nil=>.nil
 | _,_,.cons ⟨a,e,q⟩ t=>.cons ⟨a,e,s _ _ q⟩ (RdNs.tupS s t)
theorem RdNs.snoc {H:Hp} {v:V} {r:List Nat×Rd3} (h:RdN H v r):∀ {ys:List V} {rs:List (List Nat×Rd3)},RdNs H ys rs->RdNs H (ys ++ [v]) (rs ++ [r])
 | _,_,.nil=>.cons h .nil
 | _,_,.cons b t=>.cons b (RdNs.snoc h t)
theorem RdNs.length {H:Hp}:∀ {ys:List V} {rs:List (List Nat×Rd3)},RdNs H ys rs->ys.length=rs.length
 | _,_,.nil=>rfl
 | _,_,.cons _ t=>by rw[AB,AB,RdNs.length t]
def RL63 (r:Rd3):Prop:=T42 r.1/\(-(10 ^ 40)<=r.2.1/\r.2.1<=10 ^ 40)/\1<=r.2.2/\r.2.2<=10 ^ 31
inductive qiu (vs:List V) (H:Hp) (Q:VK) (E_:XK):Prop
 | mk:∀ (lc ln ls:Addr) (cs:List Int) (nms:List (List Nat)) (xs:List V) (ps:List (Int×Int)) (g:Option Int) (day:Int),vs=[.ref lc,.ref ln,.ref ls,gv g,.int day]->H lc=some (.lst (cs.map V.int))->cs.length<=63->H ln=some (.lst (nms.map tS))->1<=nms.length->nms.length<=60->H ls=some (.lst xs)->Pairs H xs ps->PrB ps g->(-(10 ^ 31)<=day/\day<=10 ^ 31)->(∀ l ys rs H',Same H H'->H l=none->H' l=some (.lst ys)->RdNs H' ys rs->rs.length=cs.length->(∀ r∈rs,r.1∈nms/\RL63 r.2)->Q (.ref l) H')->qiu vs H Q E_
theorem qiv (T:Txt K mg C_Roll C_Rule C_Book C_BookError C_NoNumber C_NoRule C_Backward C_NoName C_NoMark):qbv P w K mg base 3 "_law_readings" ["_law_cells", "_law_names", "_law_steps", "_law_gone", "_law_day"] qiu:=by
 obtain ⟨f,fd,F,hm⟩:=T.f__law_readings;have nd:=sc__law_readings.nd;refine F.def_ hm (F.ok sc__law_readings (λvs H Q E h=>?_) (λcdv A outer s H vs Q E hr h=>?_)) (F.binds λ_ _ _ _ _ _ us hl=>by obtain ⟨_,_,_,_,_,rfl⟩:=L2.lq5 hl;rfl)
 ·obtain ⟨lc,ln,ls,cs,nms,xs,ps,g,day,rfl,_⟩:=h;rfl
 ·obtain ⟨lc,ln,ls,cs,nms,xs,ps,g,day,rfl,hc,hcl,hn,n1',n60,hl,hp,pb,hd,q⟩:=h
  refine ⟨_,(qad (qaw (i:=5) nd rfl (Or.inl rfl) (qbx qac))
   (qad (qec Bb rfl (qbp (pv 0)) (qam (i:=6) nd rfl (Or.inl rfl))
    (qad (qaw (i:=7) nd rfl (Or.inl rfl) (qbb qbn (pv 1) (qai qa2 (qat (qao T) (hr.mono (by decide)) rfl (qaa (pv 6) (qaa qae qac))) (qas qbc rfl T.b_len qee (qaa (pv 1) qac))) (λ_ _=>rfl)))
   (qaf (qa9 (qqf Df Dd Dc qgp (pv 5) (qaa (qck (qaa (pv 7) (qaa (qat (qm2 T) (hr.mono (by decide)) rfl (qaa (pv 2) (qaa (pv 3) (qaa (pv 4) (qaa (pv 6) qac))))) (qaa (qat (ql8 T) (hr.mono (by decide)) rfl (qaa (pv 6) qac)) (qaa (qat (qm4 T) (hr.mono (by decide)) rfl (qaa (pv 6) qac)) qac))))) qac))))))
   (qaf (qan (pv 5))))),?_⟩
  refine ⟨AW _,λlf H1 n1=>qaz ?_⟩;refine qgk (σ':=[some (.ref lc),some (.ref ln),some (.ref ls),some (gv g),some (.int day),some (.ref lf),none,none]) rfl ?_;refine ⟨_,rfl,lc,rfl,⟨_,SqL.of (n1.same _ _ hc)⟩,qc2 (xs:=cs.map V.int) (λi σ H2=>Same H H2/\∃ (ys:List V) (rs:List (List Nat×Rd3)) (v6 v7:Option V),H2 lf=some (.lst ys)/\RdNs H2 ys rs/\rs.length=i/\(∀ r∈rs,r.1∈nms/\RL63 r.2)/\σ=[some (.ref lc),some (.ref ln),some (.ref ls),some (gv g),some (.int day),some (.ref lf),v6,v7]) ⟨n1.same,[],[],_,_,n1.at_,.nil,rfl,by simp,rfl⟩ (λi σ H2 _ h2=>SqL.of (h2.1 _ _ hc)) ?_ ?_⟩
  ·rintro i x σ H2 hi ⟨s2,ys,rs,v6,v7,hf,hr,hrl,hrs,rfl⟩
   obtain ⟨d,rfl⟩:∃ d,x=V.int d:=by
    obtain ⟨d,_,e⟩:=Af.mp (Aq hi);exact ⟨d,e.symm⟩
   have ic:i<cs.length:=by have:=(Am.mp hi).1;rw[Ad] at this;exact this
   refine qaz (qgk (σ':=[some (.ref lc),some (.ref ln),some (.ref ls),some (gv g),some (.int day),some (.ref lf),some (.int d),v7]) rfl ?_);refine ⟨_,rfl,_,rfl,d,76,rfl,by decide,by decide,λm m0 m1=>?_⟩;have hm1:=AU m (show (nms.length:Int)≠0 by omega);have hm2:=AN m (show (0:Int)<nms.length by omega);obtain ⟨j,hj⟩:=Cz hm1;have jl:j<nms.length:=by omega
   have hnj:(nms.map tS)[j]?=some (tS nms[j]):=by simp[jl]
   have hnm:nms[j]∈nms:=DV jl
   generalize nms[j]=nm at hnj hnm
   refine ⟨_,rfl,ln,_,rfl,.inl (SqL.of (s2 _ _ hn)),?_⟩;rw[Ad];refine ⟨_,_,rfl,rfl,by omega,?_⟩;rw[hj];refine ⟨ln,_,_,_,rfl,rfl,SqL.of (s2 _ _ hn),qhs hnj,qaz ?_⟩;refine qgk (σ':=[some (.ref lc),some (.ref ln),some (.ref ls),some (gv g),some (.int day),some (.ref lf),some (.int d),some (tS nm)]) rfl ?_;refine ⟨_,rfl,.inl ⟨rfl,_,SqL.of hf⟩,_,rfl,_,rfl,_,rfl,_,rfl,_,rfl,ls,xs,ps,g,day,d,rfl,s2 _ _ hl,hp.same s2,pb,hd,λt H3 s3 ht=>?_⟩;refine ⟨_,rfl,d,rfl,λva va0 va1=>⟨_,rfl,d,rfl,λmm H4 s4 mm0 mm1=>?_⟩⟩;refine ⟨qfw (by simp),λta H5 n5=>?_⟩;have s25:=s3.trans (s4.trans n5.same);have hf5:=s25 _ _ hf;refine ⟨lf,_,_,rfl,rfl,hf5,qa3 (by have:=hr.length;omega),λH6 b6 h6=>?_⟩;refine ⟨b6.same (s2.trans s25) n1.fresh,_,rs ++ [(nm,t,va,mm)],_,_,h6,?_,by simp[hrl],λr hr'=>?_,rfl⟩
   ·exact ((RdNs.tupS (Same.tup s25) hr).tupS (b6.tup hf5 quw)).snoc ⟨ta,rfl,b6 _ _ n5.at_ (qa0 n5.at_ hf5 (by intro z;cases z))⟩
   ·rcases AD.mp hr' with z|z
    ·exact hrs r z
    ·rw[Aj.mp z];exact ⟨hnm,ht,⟨va0,va1⟩,mm0,mm1⟩
  ·rintro σ H2 ⟨s2,ys,rs,v6,v7,hf,hr,hrl,hrs,rfl⟩
   rw[Ad] at hrl;exact ⟨_,rfl,q lf ys rs H2 s2 n1.fresh hf hr hrl hrs⟩
end
section
variable {P:Program} {w:World} {K:Frag} {mg:Str->Option Value} {base:Heap} {C_Roll C_Rule C_Book C_BookError C_NoNumber C_NoRule C_Backward C_NoName C_NoMark:Addr}
def qBx (H:Hp) (v:V) (n:List Nat×List (List Nat)):Prop:=∃ a l,v=.ref a/\H a=some (.tup [tS n.1,.ref l])/\H l=some (.lst (n.2.map tS))
def NmsAt (H:Hp) (ys:List V) (NM:List (List Nat×List (List Nat))):Prop:=Paired (qBx H) ys NM
theorem NmsAt.same {H H':Hp} (s:Same H H'):∀ {ys:List V} {NM:List (List Nat×List (List Nat))},NmsAt H ys NM->NmsAt H' ys NM
 | _,_,.nil=>.nil
 | _,_,.cons ⟨a,l,e,h1,h2⟩ t=>.cons ⟨a,l,e,s _ _ h1,s _ _ h2⟩ (NmsAt.same s t)
theorem NmsAt.length {H:Hp}:∀ {ys:List V} {NM:List (List Nat×List (List Nat))},NmsAt H ys NM->ys.length=NM.length
 | _,_,.nil=>rfl
 | _,_,.cons _ t=>by rw[AB,AB,NmsAt.length t]
theorem NmsAt.get {H:Hp}:∀ {ys:List V} {NM:List (List Nat×List (List Nat))} {i:Nat} {y:V},NmsAt H ys NM->ys[i]?=some y->∃ n,NM[i]?=some n/\qBx H y n
 | _,_,_,_,.nil,h=>by simp at h
 | _,_,0,_,.cons b t,h=>by cases h;exact ⟨_,rfl,b⟩
 | _,_,i+1,_,.cons b t,h=>NmsAt.get (i:=i) t h
theorem RdNs.get {H:Hp}:∀ {ys:List V} {rs:List (List Nat×Rd3)} {i:Nat} {y:V},RdNs H ys rs->ys[i]?=some y->∃ r,rs[i]?=some r/\RdN H y r
 | _,_,_,_,.nil,h=>by simp at h
 | _,_,0,_,.cons b t,h=>by cases h;exact ⟨_,rfl,b⟩
 | _,_,i+1,_,.cons b t,h=>RdNs.get (i:=i) t h
def qiw (RS:List (List Nat×Rd3)) (x:List Nat):List Rd3:=(RS.filter λr=>decide (r.1=x)).map (·.2)
theorem ql9 (RS:List (List Nat×Rd3)) (r:List Nat×Rd3) (x:List Nat):qiw (RS ++ [r]) x=if x=r.1 then qiw RS x ++ [r.2] else qiw RS x:=by
 unfold qiw;rw[Ct,AI]
 by_cases h:x=r.1
 ·rw[Ak h,List.filter_cons,AF h.symm];rfl
 ·rw[Ah h,List.filter_cons,Ba (λe=>h e.symm)];simp
theorem qfv (RS:List (List Nat×Rd3)) (x:List Nat):(qiw RS x).length<=RS.length:=by
 unfold qiw;rw[Ad];exact E9 _ _
structure qAm (NM:List (List Nat×List (List Nat))):Prop where
 nd:(NM.map (·.1)).Nodup
 sm:∀ n∈NM,qa6 12 n.1
 mm:∀ n∈NM,qb2 (n.2.map tS)
 ln:NM.length<=20
inductive qma (C CR R:Addr) (vs:List V) (H:Hp) (Q:VK) (E_:XK):Prop
 | mk:∀ (ru rl e lnm lrd:Addr) (ps:List (Int×Int)) (g:Option Int) (day:Int) (es fs:List Int) (ge fg:Option Int) (ys zs:List V) (NM:List (List Nat×List (List Nat))) (RS:List (List Nat×Rd3)),vs=[.ref ru,.int day,.ref e,.ref lnm,.ref lrd]->RuleAt R H ru rl ps g->Pr ps g->(∀ p∈ps,p.2<=10 ^ 35)->Bd day->H e=some (.lst (es.map V.int ++ [gv ge]))->EdS (es.map V.int ++ [gv ge]) es ge->es.length=ps.length->qxh ps g day (es.map V.int ++ [gv ge]) es ge fs fg->H lnm=some (.lst ys)->NmsAt H ys NM->qAm NM->H lrd=some (.lst zs)->RdNs H zs RS->(∀ r∈RS,r.1∈NM.map (·.1)/\RLt r.2)->RS.length<=40->(∀ b le dm dr X H',BkC C CR R H' b ⟨ru,rl,le,dm,dr,ps,g,day⟩ fs fg X->XOk X->X.map (λp=>(p.1,p.2.2.2.2))=NM->(∀ p∈X,p.2.2.2.1=qiw RS p.1)->(∀ p∈X,H p.2.2.1.dy=none/\H p.2.2.1.dh=none)->Same H H'->H b=none->H le=none->H dm=none->H dr=none->Q (.ref b) H')->qma C CR R vs H Q E_
theorem qsg (T:Txt K mg C_Roll C_Rule C_Book C_BookError C_NoNumber C_NoRule C_Backward C_NoName C_NoMark):qbv P w K mg base 8 "book_of" ["rule", "day", "edges", "names", "readings"] (qma C_Book C_Roll C_Rule):=by
 obtain ⟨f,fd,F,hm⟩:=T.f_book_of;have nd:=sc_book_of.nd;refine F.def_ hm (F.ok sc_book_of (λvs H Q E h=>?_) (λcdv A outer s H vs Q E hr h=>?_)) (F.binds λ_ _ _ _ _ _ us hl=>by obtain ⟨_,_,_,_,_,rfl⟩:=L2.lq5 hl;rfl)
 ·obtain ⟨ru,rl,e,lnm,lrd,ps,g,day,es,fs,ge,fg,ys,zs,NM,RS,rfl,_⟩:=h;rfl
 ·obtain ⟨ru,rl,e,lnm,lrd,ps,g,day,es,fs,ge,fg,ys,zs,NM,RS,rfl,R,Pg,wb,hd,he,Ee,hln,U,hnm,tnm,nk,hrd,trd,hR,r40,q⟩:=h
  have no:∀ (B:qbr) {m:Str},¬ m = "kept_rolls" -> ¬ m = "kept_marks" -> ¬ m = "kept_edges" -> ¬ m = "kept_day" -> ¬ m = "kept_rule" -> (bof B.ru B.day B.le B.dm B.dr).lookup m=none:=λB _ a b c d e=>qe0 _ _ _ _ _ a b c d e
  refine ⟨_,(qad (qaw (i:=5) nd rfl (Or.inl rfl) (qat (qhb T) (hr.mono (by decide)) rfl (qaa (pv 0) (qaa (pv 1) (qaa (pv 2) qac)))))
   (qad (qec Bb rfl (qbp (pv 3)) (qcx rfl (qap (qam (i:=6) nd rfl (Or.inl rfl)) (qap (qam (i:=7) nd rfl (Or.inl rfl)) qb1)))
    (qaf (qa9 (qc4 (qa5 ⟨rfl,rfl,rfl⟩) (pv 5) T.cl_Book (qc3 T) (hr.mono (by decide)) .nil (qaa (pv 6) (qaa (pv 7) qac))))))
   (qad (qec Bb rfl (qbp (pv 4)) (qcx rfl (qap (qam (i:=6) nd rfl (Or.inl rfl)) (qap (qam (i:=8) nd rfl (Or.inl rfl)) (qap (qam (i:=9) nd rfl (Or.inl rfl)) (qap (qam (i:=10) nd rfl (Or.inl rfl)) qb1)))))
    (qaf (qa9 (qc4 (qa5 ⟨rfl,rfl,rfl⟩) (pv 5) T.cl_Book (qha T) (hr.mono (by decide)) .nil (qaa (pv 6) (qaa (pv 8) (qaa (pv 9) (qaa (pv 10) qac))))))))
   (qaf (qan (pv 5)))))),?_⟩
  refine ⟨_,rfl,_,rfl,_,rfl,ru,rl,e,ps,g,day,es,fs,ge,fg,rfl,R,Pg,wb,hd,he,Ee,hln,U,λb le dm dr H1 B1 s1 g1 g2 g3 g4=>qaz ?_⟩;refine qof (σ':=[some (.ref ru),some (.int day),some (.ref e),some (.ref lnm),some (.ref lrd),some (.ref b),none,none,none,none,none]) rfl ?_;have k20:=nk.ln;refine ⟨_,rfl,lnm,rfl,⟨_,SqL.of (s1 _ _ hnm)⟩,qc2 (xs:=ys) (λj σ H'=>∃ (X:qbf) (v6 v7:Option V),Same H H'/\BkC C_Book C_Roll C_Rule H' b ⟨ru,rl,le,dm,dr,ps,g,day⟩ fs fg X/\XOk X/\X.map (λp=>(p.1,p.2.2.2.2))=NM.take j/\(∀ p∈X,p.2.2.2.1=[])/\(∀ p∈X,H p.2.2.1.dy=none/\H p.2.2.1.dh=none)/\σ=[some (.ref ru),some (.int day),some (.ref e),some (.ref lnm),some (.ref lrd),some (.ref b),v6,v7,none,none,none]) ⟨[],_,_,s1,B1,.nil,rfl,(by intro p h;cases h),(by intro p h;cases h),rfl⟩ (λj σ H' _ ⟨_,_,_,z,_⟩=>SqL.of (z _ _ hnm)) ?_ ?_⟩
  ·rintro j y σ H2 hyj ⟨X,v6,v7,s2,B2,xk,nm,r0,fr,rfl⟩
   obtain ⟨⟨x,ms⟩,hxn,a,l,rfl,ha,hl⟩:=tnm.get hyj;have hmem:=Aq hxn;have hsx:qa6 12 x:=nk.sm _ hmem;have hmk:qb2 (ms.map tS):=nk.mm _ hmem;have tx:∀ {H:Hp},TextV H (tS x):=.inl ⟨x,rfl,by have:=hsx.2.1;omega⟩;have nmf:X.map (·.1)=(NM.map (·.1)).take j:=by
    have:=congrArg (List.map Prod.fst) nm;rw[AG,ED] at this;exact this
   have hni:x ∉ X.map (·.1):=by
    rw[nmf];intro z;obtain ⟨i,hi,ei⟩:=AS z;rw[Au] at hi;rw[DQ] at ei;have jl:j<(NM.map (·.1)).length:=by rw[Ad];exact (Am.mp hxn).1
    have ej:(NM.map (·.1))[j]=x:=by rw[List.getElem_map,(Am.mp hxn).2]
    have:=(Di (xs:=NM.map (·.1)) (i:=i) (j:=j) (h₀:=by omega) (h₁:=jl) nk.nd).mp (by rw[ei,ej]);omega
   have lX:X.length<=20:=by
    have:=congrArg List.length nmf;rw[Ad,Au,Ad] at this;omega
   refine ⟨a,_,rfl,SqT.of (s2 _ _ ha),rfl,_,_,rfl,_,_,rfl,rfl,?_⟩;refine qof (σ':=[some (.ref ru),some (.int day),some (.ref e),some (.ref lnm),some (.ref lrd),some (.ref b),some (tS x),some (.ref l),none,none,none]) rfl ?_;obtain ⟨dx,hob⟩:=B2.ob;have l8:=hmk.2.2;refine ⟨_,rfl,b,dx,_,rfl,hob,no _ (by decide +kernel) (by decide +kernel) (by decide +kernel) (by decide +kernel) (by decide +kernel),_,rfl,_,rfl,b,_,fs,fg,X,tS x,.ref l,_,rfl,B2,tx,.inr ⟨l,rfl,s2 _ _ hl⟩,λu hu=>?_,AV l8 (by decide),by omega,λz=>?_,λ_ z=>absurd hmk z,λy2 ms2 ey2 hy2 hn2 eu ok ro c H3 b3 c1 c2 B3 _=>?_⟩
   ·obtain ⟨m,hm',rfl⟩:=Af.mp hu
    have:=hmk.1 (tS m) hu;rw[qc1] at this;exact .inl ⟨m,rfl,by have:=(AE this).2.1;omega⟩
   ·rcases z with z|⟨y,e,_,hy'⟩
    ·rw[qc1,AF hsx] at z;cases z
    ·exact absurd (qch e ▸ hy') hni
   have ey2:=qch ey2;subst ey2;have ems:ms=ms2:=ql6 eu;subst ems;refine ⟨X ++ [(x,(ro,c,[],ms))],_,_,λz o e=>b3 _ _ (s2 _ _ e) (qag e g3) (qag e g4),B3,?_,?_,λp hp=>?_,λp hp=>?_,rfl⟩
   ·unfold XOk
    rw[CO];refine ⟨xk,by simp,λp hp p' hp'=>?_⟩;rw[Aj.mp hp'];obtain ⟨⟨Y,hY⟩,⟨Z,hZ⟩⟩:=B2.dicts (x:=p.1) (e:=p.2) hp;exact ⟨λe=>hni (Af.mpr ⟨p,hp,e⟩),qag hY c1,qag hY c2,qag hZ c1,qag hZ c2⟩
   ·rw[AI,nm,BD,hxn];rfl
   ·rcases AD.mp hp with z|z
    ·exact r0 p z
    ·rw[Aj.mp z]
   ·rcases AD.mp hp with z|z
    ·exact fr p z
    ·rw[Aj.mp z];exact ⟨s2.free c1,s2.free c2⟩
  rintro σ H2 ⟨X,v6,v7,s2,B2,xk,nm,r0,fr,rfl⟩;rw[tnm.length,AO] at nm;refine ⟨_,rfl,lrd,rfl,⟨_,SqL.of (s2 _ _ hrd)⟩,qc2 (xs:=zs) (λj σ H'=>∃ (X:qbf) (v6 v8 v9 v10:Option V),Same H H'/\BkC C_Book C_Roll C_Rule H' b ⟨ru,rl,le,dm,dr,ps,g,day⟩ fs fg X/\XOk X/\X.map (λp=>(p.1,p.2.2.2.2))=NM/\(∀ p∈X,p.2.2.2.1=qiw (RS.take j) p.1)/\(∀ p∈X,H p.2.2.1.dy=none/\H p.2.2.1.dh=none)/\σ=[some (.ref ru),some (.int day),some (.ref e),some (.ref lnm),some (.ref lrd),some (.ref b),v6,v7,v8,v9,v10]) ⟨X,_,_,_,_,s2,B2,xk,nm,λp hp=>by rw[r0 p hp];rfl,fr,rfl⟩ (λj σ H' _ ⟨_,_,_,_,_,z,_⟩=>SqL.of (z _ _ hrd)) ?_ ?_⟩
  ·clear B2 xk nm r0 fr s2
   rintro j y σ H3 hyj ⟨X,v6,v8,v9,v10,s3,B3,xk,nm,rr,fr,rfl⟩;obtain ⟨⟨x,t,va,m⟩,hrj,a,rfl,ha⟩:=trd.get hyj;have hmem:=Aq hrj;obtain ⟨hxn,hlt⟩:=hR _ hmem;have nmf:X.map (·.1)=NM.map (·.1):=by
    have:=congrArg (List.map Prod.fst) nm;rw[AG] at this;exact this
   have hin:x∈X.map (·.1):=by rw[nmf];exact hxn
   obtain ⟨n0,hn0,en0⟩:=Af.mp hxn;have hsx:qa6 12 x:=by have:=nk.sm _ hn0;rw[en0] at this;exact this
   have tx:∀ {H:Hp},TextV H (tS x):=.inl ⟨x,rfl,by have:=hsx.2.1;omega⟩;refine ⟨a,_,rfl,SqT.of (s3 _ _ ha),rfl,_,_,rfl,_,_,rfl,_,_,rfl,_,_,rfl,rfl,?_⟩;refine qof (σ':=[some (.ref ru),some (.int day),some (.ref e),some (.ref lnm),some (.ref lrd),some (.ref b),some (tS x),v7,some (.int t),some (.int va),some (.int m)]) rfl ?_;obtain ⟨dx,hob⟩:=B3.ob;have m1:1<=m:=hlt.2.2.1;have tb:qmu t:=by have:=hlt.1;exact ⟨by dsimp only at this;omega,by dsimp only at this;omega⟩
   refine ⟨_,rfl,b,dx,_,rfl,hob,no _ (by decide +kernel) (by decide +kernel) (by decide +kernel) (by decide +kernel) (by decide +kernel),_,rfl,_,rfl,_,rfl,_,rfl,b,_,fs,fg,X,tS x,t,va,m,rfl,B3,tx,tb,λ_=>hlt,λy e' he'=>?_,λz=>absurd ⟨x,rfl,hsx,hin⟩ z,λy e' _ _ _ h1=>absurd h1 (by omega),λy e' ey hy he' _ H4 b4 R4=>?_⟩
   ·rw[show e'.2.2.1=qiw (RS.take j) y from rr (y,e') he']
    have:=qfv (RS.take j) y;rw[Au] at this;omega
   have ey:=qch ey;subst ey;obtain ⟨⟨Y,hY⟩,⟨Z,hZ⟩⟩:=B3.dicts he';have fe:=fr (x,e') he';refine ⟨X.map (qiy x (t,va,m)),_,_,_,_,λz o e=>b4 _ _ (s3 _ _ e) (qag e fe.1) (qag e fe.2),B3.put xk he' b4 hY hZ R4,xk.add x _,?_,λp hp=>?_,λp hp=>?_,rfl⟩
   ·rw[AG,<- nm]
    exact AZ λp _=>by show ((qiy x (t,va,m) p).1,(qiy x (t,va,m) p).2.2.2.2)=_;rw[qgj,qsd]
   ·obtain ⟨p0,h0,rfl⟩:=Af.mp hp
    rw[qgj,BD,hrj]
    show _=qiw (RS.take j ++ [(x,t,va,m)]) p0.1
    rw[ql9];unfold qiy
    by_cases h:p0.1=x
    ·rw[Ak h,Ak h]
     show p0.2.2.2.1 ++ [_]=_
     rw[rr p0 h0]
    ·rw[Ah h,Ah h];exact rr p0 h0
   ·obtain ⟨p0,h0,rfl⟩:=Af.mp hp
    rw[qob];exact fr p0 h0
  ·rintro σ H3 ⟨X,v6,v8,v9,v10,s3,B3,xk,nm,rr,fr,rfl⟩
   rw[trd.length,AO] at rr;exact ⟨_,rfl,q b le dm dr X H3 B3 xk nm rr fr s3 g1 g2 g3 g4⟩
end
section
variable {P:Program} {w:World} {K:Frag} {mg:Str->Option Value} {base:Heap} {C_Roll C_Rule C_Book C_BookError C_NoNumber C_NoRule C_Backward C_NoName C_NoMark:Addr}
abbrev TR:=List Nat×List (List Nat)×Abs
def TRow (H:Hp) (v:V) (r:TR):Prop:=∃ (a l1 l2 l3:Addr) (ys zs:List V),v=.ref a/\H a=some (.tup [tS r.1,.ref l1,.ref l2,.ref l3])/\H l1=some (.lst (r.2.1.map tS))/\H l2=some (.lst ys)/\Tups H ys (qcw r.2.2)/\H l3=some (.lst zs)/\Tups H zs (qcz r.2.2)
def TRows (H:Hp) (vs:List V) (rows:List TR):Prop:=Paired (TRow H) vs rows
theorem TRow.same {H H':Hp} {v:V} {r:TR} (h:TRow H v r) (s:Same H H'):TRow H' v r:=
 let ⟨a,l1,l2,l3,ys,zs,e,h0,h1,h2,t2,h3,t3⟩:=h;⟨a,l1,l2,l3,ys,zs,e,s _ _ h0,s _ _ h1,s _ _ h2,t2.same s,s _ _ h3,t3.same s⟩
theorem TRows.same {H H':Hp} (s:Same H H'):∀ {vs:List V} {rows:List TR},TRows H vs rows->TRows H' vs rows
 | _,_,.nil=>.nil
 | _,_,.cons h t=>.cons (h.same s) (TRows.same s t)
theorem TRows.snoc {H:Hp} {v:V} {r:TR} (h:TRow H v r):∀ {vs:List V} {rows:List TR},TRows H vs rows->TRows H (vs ++ [v]) (rows ++ [r])
 | _,_,.nil=>.cons h .nil
 | _,_,.cons b t=>.cons b (TRows.snoc h t)
theorem TRows.length {H:Hp}:∀ {vs:List V} {rows:List TR},TRows H vs rows->vs.length=rows.length
 | _,_,.nil=>rfl
 | _,_,.cons _ t=>by rw[AB,AB,TRows.length t]
def qsh (X:qbf) (cell:Int->Option (Int×Int)) (rows:List TR):Prop:=rows.map (·.1)=qbm (X.map (·.1))/\∀ r∈rows,∃ e:RC,(r.1,e)∈X/\r.2.1=qbm e.2.2.2/\r.2.2=qe2 cell e.2.2.1
inductive qok (C CR R:Addr) (vs:List V) (H:Hp) (Q:VK) (E_:XK):Prop
 | mk:∀ (b:Addr) (B:qbr) (es:List Int) (ge:Option Int) (X:qbf),vs=[.ref b]->BkC C CR R H b B es ge X->qmy X 50->(∀ l ws rows H',Same H H'->H l=none->H' l=some (.lst ws)->TRows H' ws rows->qsh X (qdy (B.ps.map (·.2)) es ge) rows->Q (.ref l) H')->qok C CR R vs H Q E_
theorem qu8 (T:Txt K mg C_Roll C_Rule C_Book C_BookError C_NoNumber C_NoRule C_Backward C_NoName C_NoMark):qbv P w K mg base 5 "told" ["book"] (qok C_Book C_Roll C_Rule):=by
 obtain ⟨f,fd,F,hm⟩:=T.f_told;have nd:=sc_told.nd;refine F.def_ hm (F.ok sc_told (λvs H Q E h=>?_) (λcdv A outer s H vs Q E hr h=>?_)) (F.binds λ_ _ _ _ _ _ us hl=>by obtain ⟨_,rfl⟩:=L2.lq1 hl;rfl)
 ·obtain ⟨b,B,es,ge,X,rfl,_⟩:=h;rfl
 ·obtain ⟨b,B,es,ge,X,rfl,A',XG,q⟩:=h
  obtain ⟨dx,hob⟩:=A'.ob;have no:∀ {m:Str},¬ m = "kept_rolls" -> ¬ m = "kept_marks" -> ¬ m = "kept_edges" -> ¬ m = "kept_day" -> ¬ m = "kept_rule" -> (bof B.ru B.day B.le B.dm B.dr).lookup m=none:=λa b c d e=>qe0 _ _ _ _ _ a b c d e
  have x20:=XG.ln;have snm:∀ y∈qbm (X.map (·.1)),y∈X.map (·.1):=λy hy=>(qa8 _).mem_iff.mp hy
  refine ⟨_,(qad (qaw (i:=1) nd rfl (Or.inl rfl) (qbx qac))
   (qad (qec Bb rfl (qbp (qbw (pv 0) T.cl_Book (qel T) (hr.mono (by decide)))) (qam (i:=2) nd rfl (Or.inl rfl))
    (qad (qaw (i:=3) nd rfl (Or.inl rfl) (qc4 (qa5 ⟨rfl,rfl,rfl⟩) (pv 0) T.cl_Book (qcu T) (hr.mono (by decide)) .nil (qaa (pv 2) qac)))
   (qaf (qa9 (qqf Df Dd Dc qgp (pv 1) (qaa (qck (qaa (pv 2) (qaa (qc4 (qa5 ⟨rfl,rfl,rfl⟩) (pv 0) T.cl_Book (qfo T) (hr.mono (by decide)) .nil (qaa (pv 2) qac)) (qaa (qbw (pv 3) T.cl_Roll (qg8 T) (hr.mono (by decide))) (qaa (qbw (pv 3) T.cl_Roll (qg9 T) (hr.mono (by decide))) qac))))) qac))))))
   (qaf (qan (pv 1))))),?_⟩
  refine ⟨AW _,λlf H1 n1=>qaz ?_⟩;refine qof (σ':=[some (.ref b),some (.ref lf),none,none]) rfl ?_;refine ⟨_,rfl,b,dx,_,rfl,n1.same _ _ hob,no (by decide +kernel) (by decide +kernel) (by decide +kernel) (by decide +kernel) (by decide +kernel),b,B,es,ge,X,rfl,A'.same n1.same,by omega,λln H2 n2=>?_⟩;have nlf:ln≠lf:=λz=>by have:=n2.fresh;rw[z,n1.at_] at this;cases this
  refine ⟨ln,rfl,⟨_,SqL.of n2.at_⟩,qc2 (xs:=(qbm (X.map (·.1))).map tS) (λj σ H'=>∃ (ws:List V) (rows:List TR) (v2 v3:Option V),Same H H'/\H' ln=some (.lst ((qbm (X.map (·.1))).map tS))/\H' lf=some (.lst ws)/\TRows (rmS H' [lf]) ws rows/\rows.map (·.1)=(qbm (X.map (·.1))).take j/\(∀ r∈rows,∃ e:RC,(r.1,e)∈X/\r.2.1=qbm e.2.2.2/\r.2.2=qe2 (qdy (B.ps.map (·.2)) es ge) e.2.2.1)/\σ=[some (.ref b),some (.ref lf),v2,v3]) ⟨[],[],_,_,n1.same.trans n2.same,n2.at_,n2.same _ _ n1.at_,.nil,rfl,(by intro p h;cases h),rfl⟩ (λj σ H' _ ⟨_,_,_,_,_,z,_⟩=>SqL.of z) ?_ ?_⟩
  ·rintro j x' σ H3 hxj ⟨ws,rows,v2,v3,s3,hln,hlf,tr,nm,en,rfl⟩
   obtain ⟨x,hxs,rfl⟩:∃ x,(qbm (X.map (·.1)))[j]?=some x/\x'=tS x:=by
    rw[Ay] at hxj;obtain ⟨x,e1,e2⟩:=AL.mp hxj;exact ⟨x,e1,e2.symm⟩
   obtain ⟨⟨x0,e0⟩,he0,ex0⟩:=Af.mp (snm x (Aq hxs));have ex0:x0=x:=ex0;subst ex0;have hsx:=XG.sm _ he0;have tx:∀ {H:Hp},TextV H (tS x0):=.inl ⟨x0,rfl,by have:=hsx.2.1;dsimp only at this;omega⟩;have inx:qi5 X (tS x0):=⟨x0,rfl,hsx,Af.mpr ⟨_,he0,rfl⟩⟩;have rl:rows.length<=20:=by
    have:=congrArg List.length nm;rw[Ad,Au,(qa8 _).length_eq,Ad] at this;omega
   refine qaz ?_;refine qof (σ':=[some (.ref b),some (.ref lf),some (tS x0),v3]) rfl ?_;refine ⟨_,rfl,b,dx,_,rfl,s3 _ _ hob,no (by decide +kernel) (by decide +kernel) (by decide +kernel) (by decide +kernel) (by decide +kernel),_,rfl,b,B,es,ge,X,tS x0,rfl,A'.same s3,tx,λy e' ey hy hm re H4 s4=>qaz ?_,λz=>absurd inx z⟩;have ey:=qch ey;subst ey;have ee:=XG.ok.one hm he0;subst ee;obtain ⟨LY,LZ,R3⟩:=re.ex;have R4:=R3.same s4;have l1:=R4.ly;have l2:=R4.lz;have l5:=XG.rs _ he0;dsimp only at l5;refine qof (σ':=[some (.ref b),some (.ref lf),some (tS x0),some (.ref e'.1)]) rfl ?_;have s04:=s3.trans s4;refine ⟨_,rfl,.inl ⟨rfl,_,SqL.of (s4 _ _ hlf)⟩,_,rfl,_,rfl,b,dx,_,rfl,s04 _ _ hob,no (by decide +kernel) (by decide +kernel) (by decide +kernel) (by decide +kernel) (by decide +kernel),_,rfl,b,B,es,ge,X,tS x0,rfl,A'.same s04,tx,λy5 e5 ey5 hy5 hm5 lm H5 s5 f5 h5=>?_,λz=>absurd inx z⟩;have ey5:=qch ey5;subst ey5;have ee5:=XG.ok.one hm5 he0;subst ee5;have R5:=R4.same s5;obtain ⟨dxo,hro⟩:=R5.R.obj;refine ⟨_,rfl,e5.1,dxo,_,rfl,hro,qlg _ _ _ _ _,?_⟩;simp only[qm8,Br,Bx,Be];refine R5.R.young (by omega) λa1 as1 H6 s6 g6 ha1 ta1 _=>?_
   refine ⟨_,rfl,e5.1,dxo,_,rfl,s6 _ _ hro,qlh _ _ _ _ _,?_⟩;simp only[qm8,Br,Bx,Be];refine (R5.R.same s6).heaps (by omega) λa2 as2 H7 s7 g7 ha2 ta2 _=>?_
   refine ⟨qfw (by simp),λta H8 n8=>?_⟩;have s38:=s4.trans (s5.trans (s6.trans (s7.trans n8.same)));have hlf8:=s38 _ _ hlf;refine ⟨lf,ws,_,rfl,rfl,hlf8,qa3 (by have:=tr.length;omega),λH9 b9 h9=>?_⟩;have nf:∀ {c:Addr} {G:Hp},Same H3 G->G c=none->c ∉ [lf]:=fun {c G} sg hc z=>by
    rw[Aj.mp z,sg _ _ hlf] at hc;cases hc
   have up:∀ {c:Addr} {o:HO},H8 c=some o->c ∉ [lf]->rmS H9 [lf] c=some o:=fun {c o} e n=>qdu (b9 _ _ e (λz=>n (Aj.mpr z))) n
   have tu:∀ {vs:List V} {rs:List (List Int)},Tups H8 vs rs->Tups (rmS H9 [lf]) vs rs:=λt=>t.tupS λc xs e=>up e (λz=>by rw[Aj.mp z,hlf8] at e;cases e)
   refine ⟨_,rows ++ [(x0,qbm e5.2.2.2,qe2 (qdy (B.ps.map (·.2)) es ge) e5.2.2.1)],_,_,b9.same (s3.trans s38) n1.fresh,?_,h9,?_,?_,λr hr=>?_,rfl⟩
   ·exact b9 _ _ (s38 _ _ hln) nlf
   ·refine TRows.snoc ⟨ta,lm,a1,a2,as1,as2,rfl,up n8.at_ (nf (s4.trans (s5.trans (s6.trans s7))) n8.fresh),up (n8.same _ _ (s7 _ _ (s6 _ _ h5))) (nf s4 f5),up (n8.same _ _ (s7 _ _ ha1)) (nf (s4.trans s5) g6),tu ((ta1.same s7).same n8.same),up (n8.same _ _ ha2) (nf (s4.trans (s5.trans s6)) g7),tu (ta2.same n8.same)⟩ (tr.same ?_)
    exact λc o e=>up (s38 _ _ (qfn e).1) (qfn e).2
   ·rw[AI,nm,BD,hxs];rfl
   ·rcases AD.mp hr with z|z
    ·exact en r z
    ·rw[Aj.mp z];exact ⟨e5,he0,rfl,rfl⟩
  ·rintro σ H3 ⟨ws,rows,v2,v3,s3,hln,hlf,tr,nm,en,rfl⟩
   rw[Ad,AO] at nm;exact ⟨_,rfl,q lf ws rows H3 s3 n1.fresh hlf (tr.same qxi) ⟨nm,en⟩⟩
end
section
variable {P:Program} {w:World} {K:Frag} {mg:Str->Option Value} {base:Heap} {C_Roll C_Rule C_Book C_BookError C_NoNumber C_NoRule C_Backward C_NoName C_NoMark:Addr}
theorem qhc (T:Txt K mg C_Roll C_Rule C_Book C_BookError C_NoNumber C_NoRule C_Backward C_NoName C_NoMark):qbv P w K mg base 1 "_law_edges" ["_law_steps", "_law_gone", "_law_day"] qrr:=by
 obtain ⟨f,fd,F,hm⟩:=T.f__law_edges;have nd:=sc__law_edges.nd;refine F.def_ hm (F.ok sc__law_edges (λvs H Q E h=>?_) (λcdv A outer s H vs Q E hr h=>?_)) (F.binds λ_ _ _ _ _ _ us hl=>by obtain ⟨_,_,_,rfl⟩:=L2.lq3 hl;rfl)
 ·obtain ⟨l,xs,ps,g,d,rfl,_⟩:=h;rfl
 ·obtain ⟨l,xs,ps,g,d,rfl,hl,hx,Pg,hd,q⟩:=h
  have hlen:=hx.length;have h5:=Pg.good.hi;obtain ⟨p,hp,ep⟩:=Pg.last;refine ⟨_,(qad (qfs (i:=3) (vars:=["_law_age", "_law_width"]) (frees:=["_law_day"]) (fv:=[2]) nd rfl (Or.inl rfl) rfl (qkz rfl rfl (by decide +kernel) (by decide +kernel) (by intro p hp;simp only[Ai,As,A7] at hp;rcases hp with rfl<;>rfl) rfl) ⟨⟨rfl,.inl rfl,rfl,.inl rfl⟩,trivial⟩ (qbp (pv 0)) (qex (by decide) (by decide)) (λ_ _ _ _=>(qcx rfl (qap (qam (i:=0) (show (["_law_age", "_law_width", "_law_day"]:List Str).Nodup by decide +kernel) rfl (Or.inl rfl)) (qap (qam (i:=1) (show (["_law_age", "_law_width", "_law_day"]:List Str).Nodup by decide +kernel) rfl (Or.inl rfl)) qb1)))) (λ_ _ _ _=>qbt) (λ_ _ _ _=>(qai qcj (qai qjx (qai qed (pv 2) (pv 0)) (pv 1)) (pv 1))))
   (qad (qbs (qav qhm (pv 1) qdx (qay _))
    (qaf (qan (qai qj0 (pv 3) (qbx (qaa qdx qac)))))
    qau)
   (qaf (qan (qai qj0 (pv 3) (qbx (qaa (qai qcj (qai qjx (qai qed (pv 2) (pv 1)) (qbb qbl (qbb qbn (pv 0) (qgm qep qae) (λ_ _=>rfl)) qae (λ_ _=>rfl))) (qbb qbl (qbb qbn (pv 0) (qgm qep qae) (λ_ _=>rfl)) qae (λ_ _=>rfl))) qac))))))),?_⟩
  refine ⟨_,rfl,l,rfl,⟨_,SqL.of hl⟩,qei (xs:=xs) (λi ys H2=>Same H H2/\ys=(ps.take i).map λp=>V.int (cut d p.1 p.2)) (A8 (qa3 (by omega))) ⟨Same.refl _,rfl⟩ (λi ys H2 h2=>⟨SqL.of (h2.1 _ _ hl),by rw[h2.2];simp;omega⟩) ?_ ?_⟩
  ·rintro i x ys H2 hi ⟨s2,rfl⟩
   obtain ⟨p,hpi,a,rfl,ha⟩:=hx.get hi;have hs:=Pg.size i p hpi;unfold Bd at hd;have hb:=qwx (x:=d-p.1) (B:=10 ^ 46) hs.2.2.1 (by decide) (by omega) (by omega);refine ⟨a,_,rfl,SqT.of (s2 _ _ ha),rfl,_,_,rfl,_,_,rfl,rfl,qnf (qe1 ?_)⟩;refine ⟨_,rfl,_,rfl,_,_,rfl,rfl,_,rfl,_,_,rfl,rfl,⟨by show 0<p.2;omega,by show p.2<_;omega⟩,_,rfl,_,_,rfl,rfl,⟨⟨by omega,by omega⟩,by omega,by omega⟩,s2,?_⟩;exact (qAj _ ps i p hpi).symm
  ·rintro ys H2 c1 H3 ⟨s2,rfl⟩ n3
   rw[hlen,AO] at n3;have s3:Same H H3:=s2.trans n3.same
   cases g with
   | none =>
    refine ⟨_,rfl,rfl,_,rfl,qe1 ?_⟩
    walk_at "r";intro c2 H4 n4
    refine ⟨c1,c2,_,_,rfl,rfl,n4.same _ _ n3.at_,n4.at_,A8 (qa3 (by simp;omega)),λz H6 n6=>?_⟩;exact q z H6 (New.after (s3.trans n4.same) n6)
   | some z =>
    refine ⟨_,rfl,rfl,_,rfl,qf0 ?_⟩;obtain ⟨v,hv,a,rfl,ha⟩:=hx.get' hp;have hz:=Pg.gb z rfl;have hs:=Pg.size _ p hp;unfold Bd at hd;have hb:=qwx (x:=d-z) (B:=10 ^ 46) hs.2.2.1 (by decide) (by omega) (by omega);have hat:atI xs (-1)=some (.ref a):=qlc (by rw[hlen];exact hv)
    walk_at "r";intro c2 H4 n4
    refine ⟨c1,c2,_,_,rfl,rfl,n4.same _ _ n3.at_,n4.at_,A8 (qa3 (by simp;omega)),λy H6 n6=>?_⟩;have e:eV ps (some z) d=(ps.map λp=>V.int (cut d p.1 p.2)) ++ [V.int ((d-z) / p.2*p.2)]:=by
     show (ps.map λp=>V.int (cut d p.1 p.2)) ++ [V.int (cut d z (lw ps))]=_
     rw[ep];rfl
    refine q y H6 ?_;rw[e];exact New.after (s3.trans n4.same) n6
end
section
variable {P:Program} {w:World} {K:Frag} {mg:Str->Option Value} {base:Heap} {C_Roll C_Rule C_Book C_BookError C_NoNumber C_NoRule C_Backward C_NoName C_NoMark:Addr}
inductive qjm (C CR R:Addr) (vs:List V) (H:Hp) (Q:VK) (E_:XK):Prop
 | mk:∀ (b lrd:Addr) (B:qbr) (es:List Int) (ge:Option Int) (X:qbf) (zs:List V) (RS:List (List Nat×Rd3)),vs=[.ref b,.ref lrd]->BkC C CR R H b B es ge X->XOk X->(∀ p∈X,qa6 12 p.1)->H lrd=some (.lst zs)->RdNs H zs RS->(∀ r∈RS,r.1∈X.map (·.1)/\RLt r.2)->(∀ p∈X,p.2.2.2.1.length+RS.length<=40)->(∀ X' H',BkC C CR R H' b B es ge X'->XOk X'->X'.map (λp=>(p.1,p.2.1,p.2.2.1,p.2.2.2.2))=X.map (λp=>(p.1,p.2.1,p.2.2.1,p.2.2.2.2))->(∀ p∈X',∃ e:RC,(p.1,e)∈X/\p.2.2.2.1=e.2.2.1 ++ qiw RS p.1)->(∀ c o,H c=some o->(∀ p∈X,c≠p.2.2.1.dy/\c≠p.2.2.1.dh)->H' c=some o)->Q .non H')->qjm C CR R vs H Q E_
theorem qeo (T:Txt K mg C_Roll C_Rule C_Book C_BookError C_NoNumber C_NoRule C_Backward C_NoName C_NoMark):qbv P w K mg base 6 "_law_all_put" ["_law_book", "_law_readings_here"] (qjm C_Book C_Roll C_Rule):=by
 obtain ⟨f,fd,F,hm⟩:=T.f__law_all_put;have nd:=sc__law_all_put.nd;refine F.def_ hm (F.ok sc__law_all_put (λvs H Q E h=>?_) (λcdv A outer s H vs Q E hr h=>?_)) (F.binds λ_ _ _ _ _ _ us hl=>by obtain ⟨_,_,rfl⟩:=L2.lq2 hl;rfl)
 ·obtain ⟨b,lrd,B,es,ge,X,zs,RS,rfl,_⟩:=h;rfl
 ·obtain ⟨b,lrd,B,es,ge,X0,zs,RS,rfl,A',xk0,hsm,hrd,trd,hR,h40,q⟩:=h
  have no:∀ {m:Str},¬ m = "kept_rolls" -> ¬ m = "kept_marks" -> ¬ m = "kept_edges" -> ¬ m = "kept_day" -> ¬ m = "kept_rule" -> (bof B.ru B.day B.le B.dm B.dr).lookup m=none:=λa b c d e=>qe0 _ _ _ _ _ a b c d e
  refine ⟨_,(qaf (qec Bb rfl (qbp (pv 1)) (qcx rfl (qap (qam (i:=2) nd rfl (Or.inl rfl)) (qap (qam (i:=3) nd rfl (Or.inl rfl)) (qap (qam (i:=4) nd rfl (Or.inl rfl)) (qap (qam (i:=5) nd rfl (Or.inl rfl)) qb1)))))
    (qaf (qa9 (qc4 (qa5 ⟨rfl,rfl,rfl⟩) (pv 0) T.cl_Book (qha T) (hr.mono (by decide)) .nil (qaa (pv 2) (qaa (pv 3) (qaa (pv 4) (qaa (pv 5) qac))))))))),?_⟩
  refine ⟨_,rfl,lrd,rfl,⟨_,SqL.of hrd⟩,qc2 (xs:=zs) (λj σ H'=>∃ (X:qbf) (v2 v3 v4 v5:Option V),(∀ c o,H c=some o->(∀ p∈X0,c≠p.2.2.1.dy/\c≠p.2.2.1.dh)->H' c=some o)/\BkC C_Book C_Roll C_Rule H' b B es ge X/\XOk X/\X.map (λp=>(p.1,p.2.1,p.2.2.1,p.2.2.2.2))=X0.map (λp=>(p.1,p.2.1,p.2.2.1,p.2.2.2.2))/\(∀ p∈X,∃ e:RC,(p.1,e)∈X0/\p.2.2.2.1=e.2.2.1 ++ qiw (RS.take j) p.1)/\σ=[some (.ref b),some (.ref lrd),v2,v3,v4,v5]) ⟨X0,_,_,_,_,λc o e _=>e,A',xk0,rfl,λp hp=>⟨p.2,hp,by simp[qiw]⟩,rfl⟩ (λj σ H' _ ⟨_,_,_,_,_,z,_⟩=>SqL.of (z _ _ hrd λp hp=>?_)) ?_ ?_⟩
  ·obtain ⟨⟨Y,hY⟩,⟨Z,hZ⟩⟩:=A'.dicts (x:=p.1) (e:=p.2) hp
   exact ⟨qa0 hrd hY (by intro z;cases z),qa0 hrd hZ (by intro z;cases z)⟩
  ·rintro j y σ H3 hyj ⟨X,v2,v3,v4,v5,kp,B3,xk,nm,rr,rfl⟩
   obtain ⟨⟨x,t,va,m⟩,hrj,a,rfl,ha⟩:=trd.get hyj;have hmem:=Aq hrj;obtain ⟨hxn,hlt⟩:=hR _ hmem;have nmf:X.map (·.1)=X0.map (·.1):=by
    have:=congrArg (List.map Prod.fst) nm;rw[AG,AG] at this;exact this
   have nmq:∀ p∈X,∃ p0∈X0,p.1=p0.1/\p.2.2.1=p0.2.2.1:=λp hp=>by
    have:(p.1,p.2.1,p.2.2.1,p.2.2.2.2)∈X0.map (λp=>(p.1,p.2.1,p.2.2.1,p.2.2.2.2)):=by rw[<- nm];exact Af.mpr ⟨p,hp,rfl⟩
    obtain ⟨p0,h0,e0⟩:=Af.mp this;injection e0 with z1 z2
    injection z2 with z2 z3
    injection z3 with z3 z4
    exact ⟨p0,h0,z1.symm,z3.symm⟩
   have hin:x∈X.map (·.1):=by rw[nmf];exact hxn
   obtain ⟨n0,hn0,en0⟩:=Af.mp hxn;have hsx:qa6 12 x:=by have:=hsm _ hn0;rw[en0] at this;exact this
   have tx:∀ {H:Hp},TextV H (tS x):=.inl ⟨x,rfl,by have:=hsx.2.1;omega⟩;have ha3:=kp _ _ ha λp hp=>by
    obtain ⟨⟨Y,hY⟩,⟨Z,hZ⟩⟩:=A'.dicts (x:=p.1) (e:=p.2) hp;exact ⟨qa0 ha hY (by intro z;cases z),qa0 ha hZ (by intro z;cases z)⟩
   refine ⟨a,_,rfl,SqT.of ha3,rfl,_,_,rfl,_,_,rfl,_,_,rfl,_,_,rfl,rfl,?_⟩;refine qof (σ':=[some (.ref b),some (.ref lrd),some (tS x),some (.int t),some (.int va),some (.int m)]) rfl ?_;obtain ⟨dx,hob⟩:=B3.ob;have m1:1<=m:=hlt.2.2.1;have tb:qmu t:=by have:=hlt.1;exact ⟨by dsimp only at this;omega,by dsimp only at this;omega⟩
   have jl:j<RS.length:=(Am.mp hrj).1;refine ⟨_,rfl,b,dx,_,rfl,hob,no (by decide +kernel) (by decide +kernel) (by decide +kernel) (by decide +kernel) (by decide +kernel),_,rfl,_,rfl,_,rfl,_,rfl,b,_,es,ge,X,tS x,t,va,m,rfl,B3,tx,tb,λ_=>hlt,λy e' he'=>?_,λz=>absurd ⟨x,rfl,hsx,hin⟩ z,λy e' _ _ _ h1=>absurd h1 (by omega),λy e' ey hy he' _ H4 b4 R4=>?_⟩
   ·obtain ⟨e0,he0,er0⟩:=rr (y,e') he'
    have l1:=h40 _ he0;have l2:=qfv (RS.take j) y;rw[Au] at l2;rw[show e'.2.2.1=e0.2.2.1 ++ qiw (RS.take j) y from er0,Az];dsimp only at l1;omega
   have ey:=qch ey;subst ey;obtain ⟨⟨Y,hY⟩,⟨Z,hZ⟩⟩:=B3.dicts he';obtain ⟨p0,hp0,_,eq0⟩:=nmq (x,e') he';have eq0:e'.2.1=p0.2.2.1:=eq0;refine ⟨X.map (qiy x (t,va,m)),_,_,_,_,λc o e nc=>?_,B3.put xk he' b4 hY hZ R4,xk.add x _,?_,λp hp=>?_,rfl⟩
   ·have:=nc p0 hp0
    rw[<- eq0] at this;exact b4 _ _ (kp c o e nc) this.1 this.2
   ·rw[AG,<- nm]
    exact AZ λp _=>by show ((qiy x (t,va,m) p).1,(qiy x (t,va,m) p).2.1,(qiy x (t,va,m) p).2.2.1,(qiy x (t,va,m) p).2.2.2.2)=_;rw[qgj,qu6,qob,qsd]
   ·obtain ⟨p1,h1,rfl⟩:=Af.mp hp
    obtain ⟨e1,he1,er1⟩:=rr p1 h1;refine ⟨e1,by rw[qgj];exact he1,?_⟩;rw[qgj,BD,hrj]
    show _=e1.2.2.1 ++ qiw (RS.take j ++ [(x,t,va,m)]) p1.1
    rw[ql9];unfold qiy
    by_cases h:p1.1=x
    ·rw[Ak h,Ak h,<- C7,<- er1]
    ·rw[Ah h,Ah h];exact er1
  ·rintro σ H3 ⟨X,v2,v3,v4,v5,kp,B3,xk,nm,rr,rfl⟩
   rw[trd.length,AO] at rr;exact q X H3 B3 xk nm rr kp
end
section
variable {P:Program} {w:World} {K:Frag} {mg:Str->Option Value} {base:Heap} {C_Roll C_Rule C_Book C_BookError C_NoNumber C_NoRule C_Backward C_NoName C_NoMark:Addr}
section
variable {K:Frag} {H:Hp} {p q:Addr} {xs ys:List V} {Q:VK}
theorem qsi:∀ vs:List V,PyData.depthAll (vs.map dV)<=0
 | []=>Ag _
 | v :: vs=>by
  show max (PyData.depth (dV v)) (PyData.depthAll (vs.map dV))<=0
  have:=qsi vs;have:PyData.depth (dV v)=0:=by cases v<;>rfl
  omega
theorem neE (hp:H p=some (.lst xs)) (hq:H q=some (.lst xs)) (he:∀ v∈xs,Ed v) (h:Q (.bl false) H):qvw K true (.ref p) (.ref q) H Q:=
 ⟨_,_,.lst (SqL.of hp) (qh9 he),.lst (SqL.of hq) (qh9 he),ed_lay' _,ed_lay' _,by show PyData.depthAll _+1<=20;have:=qsi xs;omega,by rw[Ak rfl,Ca _ (ed_lay' _)];exact h⟩
theorem eqE (hp:H p=some (.lst xs)) (hq:H q=some (.lst xs)) (he:∀ v∈xs,Ed v) (h:Q (.bl true) H):qvw K false (.ref p) (.ref q) H Q:=
 ⟨_,_,.lst (SqL.of hp) (qh9 he),.lst (SqL.of hq) (qh9 he),ed_lay' _,ed_lay' _,by show PyData.depthAll _+1<=20;have:=qsi xs;omega,by rw[Ah (by decide),Ca _ (ed_lay' _)];exact h⟩
theorem neP {ps:List (Int×Int)} (hp:H p=some (.lst xs)) (tp:Pairs H xs ps) (hq:H q=some (.lst ys)) (tq:Pairs H ys ps) (h:Q (.bl false) H):qvw K true (.ref p) (.ref q) H Q:=
 ⟨_,_,tp.rep hp,tq.rep hq,qh6 _,qh6 _,qrm _,by rw[Ak rfl,Ca _ (qh6 _)];exact h⟩
end
end
section
variable {P:Program} {w:World} {K:Frag} {mg:Str->Option Value} {base:Heap} {C_Roll C_Rule C_Book C_BookError C_NoNumber C_NoRule C_Backward C_NoName C_NoMark:Addr}
theorem qmb:∀ {a b:List TR},a.map (·.1)=b.map (·.1)->(∀ r1∈a,∀ r2∈b,r1.1=r2.1->r1=r2)->a=b
 | [],[],_,_=>rfl
 | [],_ :: _,e,_=>by cases e
 | _ :: _,[],e,_=>by cases e
 | x :: a,y :: b,e,f=>by
  rw[Aw,Aw] at e;injection e with e1 e2
  rw[f x Ap y Ap e1,qmb e2 λr1 h1 r2 h2=>f r1 (An _ h1) r2 (An _ h2)]
noncomputable def dTR (r:TR):PyData:=.tuple [.str (S r.1),.list (r.2.1.map λm=>.str (S m)),qli (qcw r.2.2),qli (qcz r.2.2)]
def qAn (r:TR):Prop:=qa6 12 r.1/\∀ m∈r.2.1,qa6 8 m
theorem qu9 {n:Int} {x:List Nat} (h:qa6 n x):(PyData.str (S x)).canLay0=true:=by
 show PyData.strOk (S x)=true
 unfold PyData.strOk;rw[Array.all_eq_true'];intro c hc;have:=h.2.2 c (by simpa [S] using hc)
 simp;omega
theorem qkm {K:Frag} {H:Hp}:∀ ms:List (List Nat),qps K H (ms.map tS) (ms.map λm=>PyData.str (S m))
 | []=>.nil
 | _ :: ms=>.cons (.str _) (qkm ms)
theorem qsj {n:Int}:∀ ms:List (List Nat),(∀ m∈ms,qa6 n m)->PyData.canLayAll0 (ms.map λm=>PyData.str (S m))=true
 | [],_=>rfl
 | m :: ms,h=>by
  show (PyData.canLay0 (.str (S m)) && PyData.canLayAll0 (ms.map λm=>PyData.str (S m)))=true
  rw[qu9 (h m Ap),qsj ms λx hx=>h x (An _ hx)];rfl
theorem qsk:∀ ms:List (List Nat),PyData.depthAll (ms.map λm=>PyData.str (S m))=0
 | []=>rfl
 | m :: ms=>by
  show max (PyData.depth (.str (S m))) (PyData.depthAll (ms.map λm=>PyData.str (S m)))=0
  rw[qsk ms];rfl
theorem qz2 {r:TR} (h:qAn r):(dTR r).canLay0=true:=by
 show (PyData.canLay0 (.str (S r.1)) && (PyData.canLayAll0 (r.2.1.map λm=>PyData.str (S m)) && (PyData.canLay0 (qli (qcw r.2.2)) && (PyData.canLay0 (qli (qcz r.2.2)) && true))))=true
 rw[qu9 h.1,qsj _ h.2,qn2,qn2];rfl
theorem qz3 (r:TR):(dTR r).depth<=4:=by
 have h1:=qig (qcw r.2.2);have h2:=qig (qcz r.2.2);have h3:=qsk r.2.1;simp only[dTR,qli,PyData.depth,PyData.depthAll];omega
theorem TRow.rep {K:Frag} {H:Hp} {v:V} {r:TR} (h:TRow H v r):Rep K H v (dTR r):=by
 obtain ⟨a,l1,l2,l3,ys,zs,rfl,h0,h1,h2,t2,h3,t3⟩:=h;exact .tup (SqT.of h0) (.cons (.str _) (.cons (.lst (SqL.of h1) (qkm _)) (.cons (t2.rep h2) (.cons (t3.rep h3) .nil))))
theorem TRows.reps {K:Frag} {H:Hp}:∀ {vs:List V} {rows:List TR},TRows H vs rows->qps K H vs (rows.map dTR)
 | _,_,.nil=>.nil
 | _,_,.cons h t=>.cons h.rep (TRows.reps t)
theorem qsl:∀ rows:List TR,(∀ r∈rows,qAn r)->PyData.canLayAll0 (rows.map dTR)=true
 | [],_=>rfl
 | r :: rows,h=>by
  show (PyData.canLay0 (dTR r) && PyData.canLayAll0 (rows.map dTR))=true
  rw[qz2 (h r Ap),qsl rows λx hx=>h x (An _ hx)];rfl
theorem qsm:∀ rows:List TR,PyData.depthAll (rows.map dTR)<=4
 | []=>AW _
 | r :: rows=>by
  show max (PyData.depth (dTR r)) (PyData.depthAll (rows.map dTR))<=4
  have:=qz3 r;have:=qsm rows;omega
theorem qC7 {K:Frag} {H:Hp} {p q:Addr} {xs ys:List V} {rows:List TR} {Q:VK} (hp:H p=some (.lst xs)) (tp:TRows H xs rows) (hq:H q=some (.lst ys)) (tq:TRows H ys rows) (hr:∀ r∈rows,qAn r) (h:Q (.bl true) H):qvw K false (.ref p) (.ref q) H Q:=by
 have c:(PyData.list (rows.map dTR)).canLay0=true:=qsl rows hr;refine ⟨_,_,.lst (SqL.of hp) tp.reps,.lst (SqL.of hq) tq.reps,c,c,?_,?_⟩
 ·show PyData.depthAll (rows.map dTR)+1<=20
  have:=qsm rows;omega
 ·rw[Ah (by decide),Ca _ c]
  exact h
theorem NmsAt.snoc {H:Hp} {v:V} {n:List Nat×List (List Nat)} (h:qBx H v n):∀ {ys:List V} {NM:List (List Nat×List (List Nat))},NmsAt H ys NM->NmsAt H (ys ++ [v]) (NM ++ [n])
 | _,_,.nil=>.cons h .nil
 | _,_,.cons b t=>.cons b (NmsAt.snoc h t)
theorem nmu:∀ {NM:List (List Nat×List (List Nat))} {x:List Nat} {a b:List (List Nat)},(NM.map (·.1)).Nodup->(x,a)∈NM->(x,b)∈NM->a=b
 | [],_,_,_,_,h,_=>by cases h
 | n :: NM,x,a,b,nd,h1,h2=>by
  rw[Aw,Bc] at nd
  rcases Ai.mp h1 with z1|z1<;>rcases Ai.mp h2 with z2|z2
  ·exact (Fj (z1.trans z2.symm)).2
  ·exact absurd (Af.mpr ⟨_,z2,by rw[<- z1]⟩) nd.1
  ·exact absurd (Af.mpr ⟨_,z1,by rw[<- z2]⟩) nd.1
  ·exact nmu nd.2 z1 z2
structure RelX (X:qbf) (NM:List (List Nat×List (List Nat))) (RS:List (List Nat×Rd3)) (cell:Int->Option (Int×Int)):Prop where
 nm:(X.map (·.1)).Perm (NM.map (·.1))
 en:∀ p∈X,∃ ms,(p.1,ms)∈NM/\qbm p.2.2.2.2=qbm ms/\qe2 cell p.2.2.2.1=qe2 cell (qiw RS p.1)
theorem RelX.rows {X X2:qbf} {NM:List (List Nat×List (List Nat))} {RS:List (List Nat×Rd3)} {cell:Int->Option (Int×Int)} (h:RelX X NM RS cell) (nd:(NM.map (·.1)).Nodup) (xk:XOk X) (n2:X2.map (λp=>(p.1,p.2.2.2.2))=NM) (r2:∀ p∈X2,p.2.2.2.1=qiw RS p.1) {ra rb:List TR} (ta:qsh X cell ra) (tb:qsh X2 cell rb):ra=rb:=by
 have e2:X2.map (·.1)=NM.map (·.1):=by
  have:=congrArg (List.map Prod.fst) n2;rw[AG] at this;exact this
 refine qmb ?_ λx hx y hy e=>?_
 ·rw[ta.1,tb.1,e2]
  exact qf2 h.nm
 ·obtain ⟨ea,ha,a1,a2⟩:=ta.2 x hx
  obtain ⟨eb,hb,b1,b2⟩:=tb.2 y hy;obtain ⟨ms,hm,m1,m2⟩:=h.en (x.1,ea) ha;have hb':(y.1,eb.2.2.2)∈NM:=by rw[<- n2];exact Af.mpr ⟨_,hb,rfl⟩
  have em:ms=eb.2.2.2:=by
   have hm':(y.1,ms)∈NM:=by rw[<- e];exact hm
   exact nmu nd hm' hb'
  have er:=r2 (y.1,eb) hb;obtain ⟨x1,x2,x3⟩:=x;obtain ⟨y1,y2,y3⟩:=y;dsimp only at *
  subst e;rw[a1,b1,a2,b2,er,m1,em,m2]
inductive qjn (C CR R:Addr) (vs:List V) (H:Hp) (Q:VK) (E_:XK):Prop
 | mk:∀ (b:Addr) (B:qbr) (es:List Int) (ge:Option Int) (X:qbf) (le lnm lrd:Addr) (ys zs:List V) (NM:List (List Nat×List (List Nat))) (RS:List (List Nat×Rd3)),vs=[.ref b,.ref B.ru,.int B.day,.ref le,.ref lnm,.ref lrd]->BkC C CR R H b B es ge X->qmy X 50->H le=some (.lst (es.map V.int ++ [gv ge]))->H lnm=some (.lst ys)->NmsAt H ys NM->qAm NM->H lrd=some (.lst zs)->RdNs H zs RS->(∀ r∈RS,r.1∈NM.map (·.1)/\RLt r.2)->RS.length<=40->RelX X NM RS (qdy (B.ps.map (·.2)) es ge)->(∀ H',Same H H'->Q (.bl true) H')->qjn C CR R vs H Q E_
theorem qt9 {n:Int} {ms:List (List Nat)} (h:qb2 (ms.map tS)) (hn:n=8):∀ m∈qbm ms,qa6 n m:=λm hm=>by
 have:=h.1 (tS m) (Af.mpr ⟨m,(qa8 _).mem_iff.mp hm,rfl⟩);rw[qc1] at this;rw[hn];exact AE this
theorem qem (T:Txt K mg C_Roll C_Rule C_Book C_BookError C_NoNumber C_NoRule C_Backward C_NoName C_NoMark):qbv P w K mg base 9 "_law_right" ["_law_book", "_law_made", "_law_day", "_law_edges_here", "_law_names", "_law_readings_here"] (qjn C_Book C_Roll C_Rule):=by
 obtain ⟨f,fd,F,hm⟩:=T.f__law_right;have nd:=sc__law_right.nd;refine F.def_ hm (F.ok sc__law_right (λvs H Q E h=>?_) (λcdv A outer s H vs Q E hr h=>?_)) (F.binds λ_ _ _ _ _ _ us hl=>by obtain ⟨_,_,_,_,_,_,rfl⟩:=L2.lq6 hl;rfl)
 ·obtain ⟨b,B,es,ge,X,le,lnm,lrd,ys,zs,NM,RS,rfl,_⟩:=h;rfl
 ·obtain ⟨b,B,es,ge,X,le,lnm,lrd,ys,zs,NM,RS,rfl,A',XG,hle,hnm,tnm,nk,hrd,trd,hR,r40,rel,q⟩:=h
  obtain ⟨dx,hob⟩:=A'.ob;obtain ⟨xs0,hxs0,pxs0⟩:=A'.rule.ls;obtain ⟨dxu,hu⟩:=A'.rule.ob;have no:∀ (B:qbr) {m:Str},¬ m = "kept_rolls" -> ¬ m = "kept_marks" -> ¬ m = "kept_edges" -> ¬ m = "kept_day" -> ¬ m = "kept_rule" -> (bof B.ru B.day B.le B.dm B.dr).lookup m=none:=λB _ a b c d e=>qe0 _ _ _ _ _ a b c d e
  have rno:∀ {m:Str},¬ m = "gone_age" -> ¬ m = "kept_steps" -> (rf B.rl (gv B.g)).lookup m=none:=λa b=>qro _ _ a b
  have hln:es.length=B.ps.length:=by have:=A'.ok.F.len;rw[Ad] at this;omega
  have k20:=nk.ln;refine ⟨_,(qad (qbs (PW.pt (qkn (qav qop (qbw (pv 0) T.cl_Book (qfu T) (hr.mono (by decide))) (pv 2) (qay _)) (qkn (qav (qnc hr.units) (qbw (pv 0) T.cl_Book (qfm T) (hr.mono (by decide))) (pv 3) (qay _)) (qhl (qav (qnc hr.units) (qbw (qbw (pv 0) T.cl_Book (qf7 T) (hr.mono (by decide))) T.cl_Rule (qdj T) (hr.mono (by decide))) (qbw (pv 1) T.cl_Rule (qdj T) (hr.mono (by decide))) (qay _))))))
    (qaf (qan qgl))
    qau)
   (qad (qbs (qav qop (qbw (qbw (pv 0) T.cl_Book (qf7 T) (hr.mono (by decide))) T.cl_Rule (qf6 T) (hr.mono (by decide))) (qbw (pv 1) T.cl_Rule (qf6 T) (hr.mono (by decide))) (qay _))
    (qaf (qan qgl))
    qau)
   (qad (qaw (i:=6) nd rfl (Or.inl rfl) (qat (qsg T) (hr.mono (by decide)) rfl (qaa (pv 1) (qaa (pv 2) (qaa (qb3 qb0 rfl T.b_list qen (qaa (pv 3) qac)) (qaa (qhy (vars:=["_law_name_here", "_law_marks"]) (frees:=[]) (fv:=[]) rfl (qkz rfl rfl (by decide +kernel) (by decide +kernel) (by intro p hp;cases hp) rfl) trivial (qbp (pv 4)) (qex (by decide) (by decide)) (λ_ _ _ _=>(qcx rfl (qap (qam (i:=0) (show (["_law_name_here", "_law_marks"]:List Str).Nodup by decide +kernel) rfl (Or.inl rfl)) (qap (qam (i:=1) (show (["_law_name_here", "_law_marks"]:List Str).Nodup by decide +kernel) rfl (Or.inl rfl)) qb1)))) (λ_ _ _ _=>qbt) (λ_ _ _ _=>(qck (qaa (pv 0) (qaa (qb3 (show CallR _ _ (λxs H Q=>∃ p ys,xs=[V.ref p]/\(SqL K H p ys\/SqT K H p ys)/\∀ (l:Addr) (H':Hp),New H H' l (HO.lst ys)->Q (V.ref l) H') from qb0) rfl T.b_list qen (qaa (pv 1) qac)) qac))))) (qaa (qb3 qb0 rfl T.b_list qen (qaa (pv 5) qac)) qac)))))))
   (qaf (qan (qfx (qew (quh hr.units) (qat (qu8 T) (hr.mono (by decide)) rfl (qaa (pv 0) qac)) (qat (qu8 T) (hr.mono (by decide)) rfl (qaa (pv 6) qac)) (qay _)) (qi7 (qew (quh hr.units) (qbw (pv 6) T.cl_Book (qfm T) (hr.mono (by decide))) (pv 3) (qay _))))))))),?_⟩
  refine ⟨_,rfl,b,dx,_,rfl,hob,no B (by decide +kernel) (by decide +kernel) (by decide +kernel) (by decide +kernel) (by decide +kernel),b,B,es,ge,X,rfl,A',_,rfl,rfl,_,rfl,?_⟩;rw[AF rfl];refine qf0 ?_;refine ⟨_,rfl,b,dx,_,rfl,hob,no B (by decide +kernel) (by decide +kernel) (by decide +kernel) (by decide +kernel) (by decide +kernel),b,B,es,ge,X,rfl,A',λp1 H1 n1=>⟨_,rfl,?_⟩⟩;refine neE n1.at_ (n1.same _ _ hle) A'.ok.E.ed ⟨_,rfl,qf0 ?_⟩;have A1:=A'.same n1.same;refine ⟨_,rfl,b,dx,_,rfl,n1.same _ _ hob,no B (by decide +kernel) (by decide +kernel) (by decide +kernel) (by decide +kernel) (by decide +kernel),b,B,es,ge,X,rfl,A1,?_⟩;refine ⟨B.ru,dxu,_,rfl,n1.same _ _ hu,rno (by decide +kernel) (by decide +kernel),B.ru,B.rl,B.ps,B.g,xs0,rfl,A1.rule,n1.same _ _ hxs0,λp3 H3 n3=>?_⟩;refine ⟨_,rfl,B.ru,dxu,_,rfl,n3.same _ _ (n1.same _ _ hu),rno (by decide +kernel) (by decide +kernel),B.ru,B.rl,B.ps,B.g,xs0,rfl,A1.rule.same n3.same,n3.same _ _ (n1.same _ _ hxs0),λp4 H4 n4=>?_⟩;have px4:=((pxs0.same n1.same).same n3.same).same n4.same;refine neP (n4.same _ _ n3.at_) px4 n4.at_ px4 ⟨_,rfl,qf0 ?_⟩;have s4:=n1.same.trans (n3.same.trans n4.same);have A4:=A'.same s4;refine ⟨_,rfl,b,dx,_,rfl,s4 _ _ hob,no B (by decide +kernel) (by decide +kernel) (by decide +kernel) (by decide +kernel) (by decide +kernel),b,B,es,ge,X,rfl,A4,?_⟩;refine ⟨B.ru,dxu,_,rfl,s4 _ _ hu,rno (by decide +kernel) (by decide +kernel),B.ru,B.rl,B.ps,B.g,rfl,A4.rule,?_⟩;refine ⟨_,rfl,B.ru,dxu,_,rfl,s4 _ _ hu,rno (by decide +kernel) (by decide +kernel),B.ru,B.rl,B.ps,B.g,rfl,A4.rule,?_⟩;have fl:qAy (gv B.g) (gv B.g)=true:=by cases B.g<;>rfl
  refine ⟨fl,_,rfl,?_⟩;rw[AF rfl];refine qf0 ?_;refine ⟨_,rfl,_,rfl,_,rfl,le,_,rfl,.inl (SqL.of (s4 _ _ hle)),λl5 H5 n5=>?_⟩;have s5:=s4.trans n5.same;refine ⟨_,rfl,lnm,rfl,⟨_,SqL.of (s5 _ _ hnm)⟩,qei (xs:=ys) (λi vs H2=>Same H5 H2/\NmsAt H2 vs (NM.take i)) (qfw (by have:=tnm.length;omega)) ⟨Same.refl _,.nil⟩ (λi vs H2 h2=>⟨SqL.of (h2.1 _ _ (s5 _ _ hnm)),by rw[h2.2.length,Au];omega⟩) ?_ ?_⟩
  ·rintro i y vs H6 hi ⟨s6,t6⟩
   obtain ⟨⟨x,ms⟩,hxn,a,l,rfl,ha,hl⟩:=tnm.get hi;have s06:=s5.trans s6;refine ⟨a,_,rfl,SqT.of (s06 _ _ ha),rfl,_,_,rfl,_,_,rfl,rfl,qnf (qe1 ?_)⟩;refine ⟨_,rfl,_,rfl,l,_,rfl,.inl (SqL.of (s06 _ _ hl)),λl7 H7 n7=>⟨qfw (by simp),λta H8 n8=>⟨s6.trans (n7.same.trans n8.same),?_⟩⟩⟩;rw[BD,hxn];exact (t6.same (n7.same.trans n8.same)).snoc ⟨ta,l7,rfl,n8.at_,n8.same _ _ n7.at_⟩
  ·rintro vs H6 pl H7 ⟨s6,t6⟩ n7
   rw[tnm.length,AO] at t6;have s7:=s5.trans (s6.trans n7.same);refine ⟨_,rfl,lrd,_,rfl,.inl (SqL.of (s7 _ _ hrd)),λl8 H8 n8=>?_⟩;have s8:=s7.trans n8.same;refine ⟨B.ru,B.rl,l5,pl,l8,B.ps,B.g,B.day,es,es,ge,ge,vs,zs,NM,RS,rfl,A'.rule.same s8,A'.ok.P,A'.ok.wb,A'.ok.hd,n8.same _ _ (n7.same _ _ (s6 _ _ n5.at_)),A'.ok.E,hln,A'.ok.up,n8.same _ _ n7.at_,(t6.same n7.same).same n8.same,nk,n8.at_,trd.tupS (Same.tup s8),hR,r40,λb2 le2 dm2 dr2 X2 H9 B9 xk9 nm9 rs9 fr9 s9 f1 f2 f3 f4=>qaz ?_⟩;refine qof (σ':=[some (.ref b),some (.ref B.ru),some (.int B.day),some (.ref le),some (.ref lnm),some (.ref lrd),some (.ref b2)]) rfl ?_;have s09:=s8.trans s9;have A9:=A'.same s09;have nmf:X2.map (·.1)=NM.map (·.1):=by
    have:=congrArg (List.map Prod.fst) nm9;rw[AG] at this;exact this
   have m9:∀ p∈X2,(p.1,p.2.2.2.2)∈NM:=λp hp=>by rw[<- nm9];exact Af.mpr ⟨p,hp,rfl⟩
   have XG2:qmy X2 50:=⟨xk9,λp hp=>nk.sm _ (m9 p hp),λp hp=>nk.mm _ (m9 p hp),by have:=congrArg List.length nmf;rw[Ad,Ad] at this;omega,λp hp=>by rw[rs9 p hp];exact AV (qfv _ _) (by omega)⟩;refine ⟨_,rfl,b,B,es,ge,X,rfl,A9,XG,λl10 ws10 ra H10 s10 f10 hl10 tr10 ta=>?_⟩;refine ⟨_,rfl,b2,_,es,ge,X2,rfl,B9.same s10,XG2,λl11 ws11 rb H11 s11 f11 hl11 tr11 tb=>?_⟩;have er:=rel.rows nk.nd XG.ok nm9 rs9 ta tb;subst er;have rk:∀ r∈ra,qAn r:=λr hr=>by
    obtain ⟨e,he,m1,_⟩:=ta.2 r hr;refine ⟨XG.sm _ he,λm hm=>?_⟩;rw[m1] at hm;exact qt9 (XG.mm _ he) rfl m hm
   refine qC7 (s11 _ _ hl10) (tr10.same s11) hl11 tr11 rk ⟨_,rfl,qe1 ?_⟩;have s911:=s10.trans s11;have B11:=B9.same s911;obtain ⟨dx2,hob2⟩:=B11.ob;refine ⟨_,rfl,b2,dx2,_,rfl,hob2,no _ (by decide +kernel) (by decide +kernel) (by decide +kernel) (by decide +kernel) (by decide +kernel),b2,_,es,ge,X2,rfl,B11,λp12 H12 n12=>⟨_,rfl,?_⟩⟩;refine eqE n12.at_ (n12.same _ _ (s911 _ _ (s09 _ _ hle))) A'.ok.E.ed ?_;exact q H12 (s09.trans (s911.trans n12.same))
end
section
variable {P:Program} {w:World} {K:Frag} {mg:Str->Option Value} {base:Heap} {C_Roll C_Rule C_Book C_BookError C_NoNumber C_NoRule C_Backward C_NoName C_NoMark:Addr}
inductive qol (C CR R:Addr) (vs:List V) (H:Hp) (Q:VK) (E_:XK):Prop
 | mk:∀ (b:Addr) (B:qbr) (es:List Int) (ge:Option Int) (X:qbf) (d:Int),vs=[.ref b,.int d]->BkC C CR R H b B es ge X->qmy X 50->Bd d->d<B.day->(∀ H',Same H H'->Q (.bl true) H')->qol C CR R vs H Q E_
theorem qm5 (T:Txt K mg C_Roll C_Rule C_Book C_BookError C_NoNumber C_NoRule C_Backward C_NoName C_NoMark):qut P w K mg base C_Book 1 "day" ["self"] (qkk C_Book C_Roll C_Rule):=by
 obtain ⟨f,fd,F,hm⟩:=T.f_Book_day;have nd:=sc_Book_day.nd;refine ⟨f,fd,(F.okU sc_Book_day (λvs H Q E h=>?_) (λcdv A outer s H vs Q E hr h=>?_)),hm,(F.binds λ_ _ _ _ _ _ us hl=>by obtain ⟨_,rfl⟩:=L2.lq1 hl;rfl)⟩
 ·obtain ⟨b,B,es,ge,X,rfl,_⟩:=h;rfl
 ·obtain ⟨b,B,es,ge,X,rfl,A',q⟩:=h
  obtain ⟨dx,hob⟩:=A'.ob;refine ⟨_,(qaf (qan (qbj (pv 0) rfl))),?_⟩;exact ⟨_,rfl,b,C_Book,dx,_,_,rfl,hob,T.cl_Book,T.na_Book_kept_day,qr5 _ _ _ _ _,q⟩
theorem qix (T:Txt K mg C_Roll C_Rule C_Book C_BookError C_NoNumber C_NoRule C_Backward C_NoName C_NoMark):qbv P w K mg base 10 "_law_backward" ["_law_book", "_law_day"] (qol C_Book C_Roll C_Rule):=by
 obtain ⟨f,fd,F,hm⟩:=T.f__law_backward;have nd:=sc__law_backward.nd;refine F.def_ hm (F.ok sc__law_backward (λvs H Q E h=>?_) (λcdv A outer s H vs Q E hr h=>?_)) (F.binds λ_ _ _ _ _ _ us hl=>by obtain ⟨_,_,rfl⟩:=L2.lq2 hl;rfl)
 ·obtain ⟨b,B,es,ge,X,d,rfl,_⟩:=h;rfl
 ·obtain ⟨b,B,es,ge,X,d,rfl,A',XG,hd,hlt,q⟩:=h
  obtain ⟨dx0,hob⟩:=A'.ob;have no:∀ {m:Str},¬ m = "kept_rolls" -> ¬ m = "kept_marks" -> ¬ m = "kept_edges" -> ¬ m = "kept_day" -> ¬ m = "kept_rule" -> (bof B.ru B.day B.le B.dm B.dr).lookup m=none:=λa b c d e=>qe0 _ _ _ _ _ a b c d e
  obtain ⟨fB,fdB,FB,hE⟩:=T.f_Backward_init;refine ⟨_,(qad (qy0 (j:=2) ⟨rfl,rfl,rfl⟩ nd rfl rfl rfl rfl T.mg_BookError T.kx_BookError.kt (λ_ _=>(qaf (qa9 (qg1 (qbk ⟨rfl,rfl,rfl⟩) (qcm T) (hr.mono (by decide)) rfl .nil (qaa (pv 0) (qaa (pv 1) qac))))))
    (λ_ _=>(qaf (qan (qfx (qas (qk0 (K:=K) rfl) rfl T.b_isinstance qcc (qaa (pv 2) (qaa (qfz (v:=.ref C_Backward) rfl T.mg_Backward rfl) qac))) (qfx (qud (qas (qk0 (K:=K) rfl) rfl T.b_isinstance qcc (qaa (pv 2) (qaa (qfz (v:=.ref C_NoRule) rfl T.mg_NoRule rfl) qac)))) (qi7 (qew qjr (qwe (K:=K) rfl (pv 2) rfl) (qwo (pv 0) T.cl_Book (qm5 T) ((hr.mono (by decide)).markU _)) (qay _)))))))))
   (qaf (qan qgl))),?_⟩
  refine ⟨_,rfl,_,rfl,b,B,es,ge,X,d,rfl,A',XG,hd,λ_ dx H1 n1=>⟨⟨C_Backward,rfl,T.kx_Backward.kt,T.hit_Backward_BookError⟩,λex H2 n2=>?_⟩,λz=>absurd z (by omega)⟩;have hdx:=n2.same _ _ n1.at_;have s2:=n1.same.trans n2.same;refine ⟨_,rfl,ex,C_Backward,some dx,.ref C_Backward,true,rfl,n2.at_,T.kx_Backward,(λ_ z=>by cases z;exact ⟨_,hdx⟩),T.is_Backward_Backward,_,rfl,qe1 ?_⟩;refine ⟨_,rfl,ex,C_Backward,some dx,.ref C_NoRule,false,rfl,n2.at_,T.kx_Backward,(λ_ z=>by cases z;exact ⟨_,hdx⟩),T.is_Backward_NoRule,_,rfl,_,rfl,qe1 ?_⟩;refine ⟨_,rfl,ex,C_Backward,dx,_,_,rfl,n2.at_,hdx,T.kx_Backward,hE.hd,hE.na,lk1 _ _,?_⟩;refine ⟨_,rfl,b,dx0,_,rfl,s2 _ _ hob,no (by decide +kernel) (by decide +kernel) (by decide +kernel) (by decide +kernel) (by decide +kernel),b,B,es,ge,X,rfl,A'.same s2,rfl,?_⟩;rw[AF rfl];exact q H2 s2
end
section
variable {P:Program} {w:World} {K:Frag} {mg:Str->Option Value} {base:Heap} {C_Roll C_Rule C_Book C_BookError C_NoNumber C_NoRule C_Backward C_NoName C_NoMark:Addr}
theorem BkC.butK7 {C CR R:Addr} {H H':Hp} {b a:Addr} {B:qbr} {es:List Int} {ge:Option Int} {X:qbf} {kvs:List (Key×V)} (h:BkC C CR R H b B es ge X) (bu:But a H H') (ha:H a=some (.dK kvs)) (n1:B.dm≠a) (n2:B.dr≠a):BkC C CR R H' b B es ge X:=
 ⟨let ⟨dx,e⟩:=h.ob;⟨dx,bu _ _ e (qa0 e ha (by intro z;cases z))⟩,h.rule.butK bu ha,bu _ _ h.ed (qa0 h.ed ha (by intro z;cases z)),
  let ⟨k,e,r⟩:=h.ms;⟨k,bu _ _ e n1,r.imp λ_ _ q=>q.butK bu ha⟩,let ⟨k,e,r⟩:=h.rs;⟨k,bu _ _ e n2,r.imp λ_ _ ⟨e1,e2⟩=>⟨e1,e2.butK bu ha⟩⟩,h.ne,h.ok⟩
theorem BkC.but7 {C CR R:Addr} {H H':Hp} {b a d:Addr} {B:qbr} {es:List Int} {ge:Option Int} {X:qbf} {k1 k2:List (Key×V)} (h:BkC C CR R H b B es ge X) (bu:But2 a d H H') (ha:H a=some (.dK k1)) (hd:H d=some (.dK k2)) (n1:B.dm≠a) (n2:B.dr≠a) (n3:B.dm≠d) (n4:B.dr≠d):BkC C CR R H' b B es ge X:=by
 have b1:But a H (λz=>if z=d then H d else H' z):=λz o e n=>by
  by_cases zd:z=d
  ·simp only[Ak zd];rw[<- zd];exact e
  ·simp only[Ah zd];exact bu _ _ e n zd
 have b2:But d (λz=>if z=d then H d else H' z) H':=λz o e n=>by simp only[Ah n] at e;exact e
 exact (h.butK7 b1 ha n1 n2).butK7 b2 (by simp only[Ak];exact hd) n3 n4
def sgn:Nat->List (List Nat)
 | 0=>[[111,108,100]]
 | 1=>[[110,101,119],[120]]
 | _=>[[101,118,101,110],[110,101,119]]
theorem qBy:(Str.ofString "old")=S [111,108,100]:=by decide +kernel
theorem qz4:(Str.ofString "new")=S [110,101,119]:=by decide +kernel
theorem w_x:(Str.ofString "x")=S [120]:=by decide +kernel
theorem qz5:(Str.ofString "even")=S [101,118,101,110]:=by decide +kernel
theorem lt3 {i:Nat} (h:i<3):i=0\/i=1\/i=2:=by omega
theorem qsn {i:Nat} (h:i<3):∀ m∈sgn i,qa6 8 m:=by
 rcases lt3 h with rfl|rfl|rfl<;>intro m hm<;>simp only[sgn,Ai,As,A7] at hm<;>rcases hm with rfl|rfl<;>(unfold qa6;decide)
theorem qz6 {i:Nat} (h:i<3):qb2 ((sgn i).map tS):=by
 refine ⟨λv hv=>?_,?_,?_⟩
 ·obtain ⟨m,hm,rfl⟩:=Af.mp hv
  show qdl 8 (.str (S m))=true
  rw[qc1];exact AF (qsn h m hm)
 ·have nd:(sgn i).Nodup:=by rcases lt3 h with rfl|rfl|rfl<;>(unfold sgn;decide)
  exact List.Pairwise.map _ (λa b n e=>n (qch e)) nd
 ·rw[Ad];rcases lt3 h with rfl|rfl|rfl<;>decide
theorem qua {i:Nat} (h:i<3):qbm (sgn i)=sgn i:=by
 refine (qj7 (El _) ?_).symm
 rcases lt3 h with rfl|rfl|rfl<;>(unfold sgn;decide)
theorem qCa {K:Frag} {H:Hp} {p q:Addr} {n:Int} {ms:List (List Nat)} {Q:VK} (hm:∀ m∈ms,qa6 n m) (hp:H p=some (.lst (ms.map tS))) (hq:H q=some (.lst (ms.map tS))) (h:Q (.bl false) H):qvw K true (.ref p) (.ref q) H Q:=by
 have c:(PyData.list (ms.map λm=>PyData.str (S m))).canLay0=true:=qsj ms hm;refine ⟨_,_,.lst (SqL.of hp) (qkm _),.lst (SqL.of hq) (qkm _),c,c,?_,by rw[Ak rfl,Ca _ c];exact h⟩
 show PyData.depthAll _+1<=20
 rw[qsk];decide
def D3 (BB:Nat->qbr):Prop:=∀ i j,i<3->j<3->i≠j->((BB i).dm≠(BB j).dm/\(BB i).dr≠(BB j).dm)/\(BB i).dm≠(BB j).dr/\(BB i).dr≠(BB j).dr
theorem qz7 {α:Type} {f:Nat->α} {i:Nat} {y:α} (h:[f 0,f 1,f 2][i]?=some y):i<3/\y=f i:=by
 match i,h with
 | 0,h=>exact ⟨by decide,by cases h;rfl⟩
 | 1,h=>exact ⟨by decide,by cases h;rfl⟩
 | 2,h=>exact ⟨by decide,by cases h;rfl⟩
structure L3 (H:Hp) (lb ls:Addr) (bs sl:Nat->Addr):Prop where
 hb:H lb=some (.lst [.ref (bs 0),.ref (bs 1),.ref (bs 2)])
 hs:H ls=some (.lst [.ref (sl 0),.ref (sl 1),.ref (sl 2)])
 hl:∀ i,i<3->H (sl i)=some (.lst ((sgn i).map tS))
theorem L3.up {H H':Hp} {lb ls:Addr} {bs sl:Nat->Addr} (h:L3 H lb ls bs sl) (k:∀ a xs,H a=some (.lst xs)->H' a=some (.lst xs)):L3 H' lb ls bs sl:=⟨k _ _ h.hb,k _ _ h.hs,λi hi=>k _ _ (h.hl i hi)⟩
theorem L3.same {H H':Hp} {lb ls:Addr} {bs sl:Nat->Addr} (h:L3 H lb ls bs sl) (s:Same H H'):L3 H' lb ls bs sl:=h.up λ_ _ e=>s _ _ e
def fA (a b c:Addr):Nat->Addr
 | 0=>a
 | 1=>b
 | _=>c
structure B3 (C CR R:Addr) (H:Hp) (bs:Nat->Addr) (BB:Nat->qbr) (eF:Nat->List Int) (gF:Nat->Option Int) (XX:Nat->qbf):Prop where
 bk:∀ i,i<3->BkC C CR R H (bs i) (BB i) (eF i) (gF i) (XX i)
theorem B3.same {C CR R:Addr} {H H':Hp} {bs:Nat->Addr} {BB:Nat->qbr} {eF:Nat->List Int} {gF:Nat->Option Int} {XX:Nat->qbf} (h:B3 C CR R H bs BB eF gF XX) (s:Same H H'):B3 C CR R H' bs BB eF gF XX:=⟨λi hi=>(h.bk i hi).same s⟩
def qC8 (x:List Nat) (XX:Nat->qbf) (j:Nat) (YY:Nat->qbf):Prop:=∀ i,i<3->(i<j->∃ ro c,YY i=XX i ++ [(x,(ro,c,[],sgn i))])/\(j<=i->YY i=XX i)
def NmL (H:Hp) (XX:Nat->qbf) (i:Nat) (v:V):Prop:=∃ l,v=.ref l/\H l=some (.lst ((qbm ((XX i).map (·.1))).map tS))
inductive qmc (C CR R:Addr) (vs:List V) (H:Hp) (Q:VK) (E_:XK):Prop
 | mk:∀ (lb:Addr) (x:List Nat) (bs:Nat->Addr) (BB:Nat->qbr) (eF:Nat->List Int) (gF:Nat->Option Int) (XX:Nat->qbf),vs=[.ref lb,tS x]->H lb=some (.lst [.ref (bs 0),.ref (bs 1),.ref (bs 2)])->B3 C CR R H bs BB eF gF XX->(∀ i,i<3->(XX i).length<=20/\(∀ p∈XX i,qa6 12 p.1)/\x ∉ (XX i).map (·.1))->qa6 12 x->D3 BB->(∀ H',Q (.bl true) H')->qmc C CR R vs H Q E_
theorem qmd (T:Txt K mg C_Roll C_Rule C_Book C_BookError C_NoNumber C_NoRule C_Backward C_NoName C_NoMark):qbv P w K mg base 10 "_law_apart" ["_law_books", "_law_strange"] (qmc C_Book C_Roll C_Rule):=by
 obtain ⟨f,fd,F,hm⟩:=T.f__law_apart;have nd:=sc__law_apart.nd;refine F.def_ hm (F.ok sc__law_apart (λvs H Q E h=>?_) (λcdv A outer s H vs Q E hr h=>?_)) (F.binds λ_ _ _ _ _ _ us hl=>by obtain ⟨_,_,rfl⟩:=L2.lq2 hl;rfl)
 ·obtain ⟨lb,x,bs,BB,eF,gF,XX,rfl,_⟩:=h;rfl
 ·obtain ⟨lb,x,bs,BB,eF,gF,XX,rfl,hlb,B0,xk,hx,dd,q⟩:=h
  have no:∀ (B:qbr) {m:Str},¬ m = "kept_rolls" -> ¬ m = "kept_marks" -> ¬ m = "kept_edges" -> ¬ m = "kept_day" -> ¬ m = "kept_rule" -> (bof B.ru B.day B.le B.dm B.dr).lookup m=none:=λB _ a b c d e=>qe0 _ _ _ _ _ a b c d e
  have tx:∀ {H:Hp},TextV H (tS x):=.inl ⟨x,rfl,by have:=hx.2.1;omega⟩;refine ⟨_,(qad (qaw (i:=2) nd rfl (Or.inl rfl) (qbx (qaa (qbx (qaa qdr qac)) (qaa (qbx (qaa qdr (qaa qdr qac))) (qaa (qbx (qaa qdr (qaa qdr qac))) qac)))))
   (qad (qfs (i:=3) (vars:=["_law_book"]) (frees:=[]) (fv:=[]) nd rfl (Or.inl rfl) rfl (qkz rfl rfl (by decide +kernel) (by decide +kernel) (by intro p hp;cases hp) rfl) trivial (qbp (pv 0)) (qe7 (by decide)) (λ_ _ _ _=>(qam (i:=0) (show (["_law_book"]:List Str).Nodup by decide +kernel) rfl (Or.inl rfl))) (λ_ _ _ _=>qbt) (λ_ _ _ _=>(qbw (pv 0) T.cl_Book (qel T) (hr.mono (by decide)))))
   (qad (qec Bb rfl (qne rfl T.b_zip (qaa (pv 0) (qaa (pv 2) qac))) (qcx rfl (qap (qam (i:=4) nd rfl (Or.inl rfl)) (qap (qam (i:=5) nd rfl (Or.inl rfl)) qb1)))
    (qaf (qa9 (qc4 (qa5 ⟨rfl,rfl,rfl⟩) (pv 4) T.cl_Book (qc3 T) (hr.mono (by decide)) .nil (qaa (pv 1) (qaa (qb3 qb0 rfl T.b_list qen (qaa (pv 5) qac)) qac))))))
   (qad (qec Bb rfl (qww rfl T.b_zip (qaa (pv 0) (qaa (pv 2) (qaa (pv 3) qac)))) (qcx rfl (qap (qam (i:=4) nd rfl (Or.inl rfl)) (qap (qam (i:=5) nd rfl (Or.inl rfl)) (qap (qam (i:=6) nd rfl (Or.inl rfl)) qb1))))
    (qaf (qbs (PW.pt (qkn (qav (qnc hr.units) (qc4 (qa5 ⟨rfl,rfl,rfl⟩) (pv 4) T.cl_Book (qfo T) (hr.mono (by decide)) .nil (qaa (pv 1) qac)) (pv 5) (qay _)) (qhl (qav (qnc hr.units) (qbw (pv 4) T.cl_Book (qel T) (hr.mono (by decide))) (qas qgf rfl T.b_sorted qe8 (qaa (qai qj0 (pv 6) (qbx (qaa (pv 1) qac))) qac)) (qay _)))))
    (qaf (qan qgl))
    qau)))
   (qaf (qan qgl)))))),?_⟩
  refine ⟨qfw (by simp),λs0 H1 n1=>⟨qfw (by simp),λs1 H2 n2=>⟨qfw (by simp),λs2 H3 n3=>⟨qfw (by simp),λls H4 n4=>qaz ?_⟩⟩⟩⟩;refine qof (σ':=[some (.ref lb),some (tS x),some (.ref ls),none,none,none,none]) rfl ?_;have s04:=n1.same.trans (n2.same.trans (n3.same.trans n4.same));have hl0:=n1.at_;have hl1:=n2.at_;have hl2:=n3.at_;rw[qBy] at hl0;rw[qz4,w_x] at hl1;rw[qz5,qz4] at hl2;have L4:L3 H4 lb ls bs (fA s0 s1 s2):=⟨s04 _ _ hlb,n4.at_,λi hi=>by
   rcases lt3 hi with rfl|rfl|rfl
   ·exact n4.same _ _ (n3.same _ _ (n2.same _ _ hl0))
   ·exact n4.same _ _ (n3.same _ _ hl1)
   ·exact n4.same _ _ hl2⟩
  have B4:=B0.same s04;clear hl0 hl1 hl2 n1 n2 n3 n4 s04;refine ⟨_,rfl,lb,rfl,⟨_,SqL.of L4.hb⟩,qei (xs:=[.ref (bs 0),.ref (bs 1),.ref (bs 2)]) (λi ws H2=>Same H4 H2/\ws.length=i/\∀ j v,ws[j]?=some v->NmL H2 XX j v) (qfw (by simp)) ⟨Same.refl _,rfl,λj v h=>by simp at h⟩ (λi ws H2 h2=>⟨SqL.of (h2.1 _ _ L4.hb),by rw[h2.2.1];exact Ag _⟩) ?_ ?_⟩
  ·rintro i y ws H5 hi ⟨s5,lw,nw⟩
   obtain ⟨i3,rfl⟩:=qz7 (f:=λi=>V.ref (bs i)) hi;have Bi:=(B4.same s5).bk i i3;obtain ⟨dx,hob⟩:=Bi.ob;refine qaz (qnf (qe1 ?_));refine ⟨_,rfl,bs i,dx,_,rfl,hob,no _ (by decide +kernel) (by decide +kernel) (by decide +kernel) (by decide +kernel) (by decide +kernel),bs i,_,_,_,XX i,rfl,Bi,by have:=(xk i i3).1;omega,λl H6 n6=>⟨s5.trans n6.same,by rw[Az,lw];rfl,λj v hj=>?_⟩⟩
   by_cases hjl:j<ws.length
   ·rw[Bn hjl] at hj
    obtain ⟨l',e1,e2⟩:=nw j v hj;exact ⟨l',e1,n6.same _ _ e2⟩
   ·rw[Bw (by omega)] at hj
    have ej:j-ws.length=0:=by
     by_cases z:j-ws.length=0
     ·exact z
     ·rw[BH (by simp;omega)] at hj;cases hj
    rw[ej] at hj;cases hj;have:j=i:=by omega
    subst this;exact ⟨l,rfl,n6.at_⟩
  rintro ws H5 pl H6 ⟨s5,lw,nw⟩ n6;have L6:=(L4.same s5).same n6.same;have B6:=(B4.same s5).same n6.same;have nw6:∀ j v,ws[j]?=some v->NmL H6 XX j v:=λj v h=>let ⟨l,e1,e2⟩:=nw j v h;⟨l,e1,n6.same _ _ e2⟩
  have hpl:=n6.at_;clear nw n6 s5 L4 B4;refine qaz ?_;refine qof (σ':=[some (.ref lb),some (tS x),some (.ref ls),some (.ref pl),none,none,none]) rfl ?_;refine ⟨_,rfl,_,rfl,lb,ls,_,_,rfl,SqL.of L6.hb,SqL.of L6.hs,qnh (xs:=[.ref (bs 0),.ref (bs 1),.ref (bs 2)]) (λj σ H'=>∃ (YY:Nat->qbf) (v4 v5:Option V),L3 H' lb ls bs (fA s0 s1 s2)/\B3 C_Book C_Roll C_Rule H' bs BB eF gF YY/\qC8 x XX j YY/\H' pl=some (.lst ws)/\(∀ j v,ws[j]?=some v->NmL H' XX j v)/\σ=[some (.ref lb),some (tS x),some (.ref ls),some (.ref pl),v4,v5,none]) ⟨XX,_,_,L6,B6,λi _=>⟨λh=>absurd h (Nat.not_lt_zero _),λ_=>rfl⟩,hpl,nw6,rfl⟩ (λj σ H' ⟨_,_,_,z,_⟩=>⟨SqL.of z.hb,SqL.of z.hs⟩) ?_ ?_⟩
  ·rintro j y y2 σ H7 p H8 hj hj2 n8 ⟨YY,v4,v5,L7,B7,io,hpl,nw,rfl⟩
   obtain ⟨i3,rfl⟩:=qz7 (f:=λi=>V.ref (bs i)) hj;obtain ⟨_,rfl⟩:=qz7 (f:=λi=>V.ref (fA s0 s1 s2 i)) hj2;refine ⟨p,_,rfl,SqT.of n8.at_,rfl,_,_,rfl,_,_,rfl,rfl,?_⟩;refine qof (σ':=[some (.ref lb),some (tS x),some (.ref ls),some (.ref pl),some (.ref (bs j)),some (.ref (fA s0 s1 s2 j)),none]) rfl ?_;have B8:=B7.same n8.same;have L8:=L7.same n8.same;have ey:YY j=XX j:=(io j i3).2 (Ag _);have Bj:=B8.bk j i3;obtain ⟨dx,hob⟩:=Bj.ob;rw[ey] at Bj;refine ⟨_,rfl,bs j,dx,_,rfl,hob,no _ (by decide +kernel) (by decide +kernel) (by decide +kernel) (by decide +kernel) (by decide +kernel),_,rfl,_,rfl,fA s0 s1 s2 j,_,rfl,.inl (SqL.of (L8.hl j i3)),λlm H9 n9=>?_⟩;have Bj9:=Bj.same n9.same;have mk:=qz6 i3;refine ⟨bs j,BB j,eF j,gF j,XX j,tS x,.ref lm,(sgn j).map tS,rfl,Bj9,tx,.inr ⟨lm,rfl,n9.at_⟩,λu hu=>?_,AV mk.2.2 (by decide),by have:=(xk j i3).1;omega,λz=>?_,λ_ z=>absurd mk z,λy2 ms2 ey2 hy2 hn2 eu ok ro c H10 b10 c1 c2 B10 _=>?_⟩
   ·obtain ⟨m,hm',rfl⟩:=Af.mp hu
    exact .inl ⟨m,rfl,by have:=(qsn i3 m hm').2.1;omega⟩
   ·rcases z with z|⟨y,e,_,hy'⟩
    ·rw[qc1,AF hx] at z;cases z
    ·exact absurd (qch e ▸ hy') (xk j i3).2.2
   have ey2:=qch ey2;subst ey2;have ems:sgn j=ms2:=ql6 eu;subst ems;obtain ⟨k1,hk1,_⟩:=Bj9.ms;obtain ⟨k2,hk2,_⟩:=Bj9.rs;have kl:∀ a xs,H9 a=some (.lst xs)->H10 a=some (.lst xs):=λa xs e=>b10 _ _ e (qa0 e hk1 (by intro z;cases z)) (qa0 e hk2 (by intro z;cases z))
   have s79:=n8.same.trans n9.same;refine ⟨λi=>if i=j then XX j ++ [(x,(ro,c,[],sgn j))] else YY i,_,_,(L8.same n9.same).up kl,⟨λi hi=>?_⟩,λi hi=>?_,kl _ _ (s79 _ _ hpl),λj' v' h=>let ⟨l,e1,e2⟩:=nw j' v' h;⟨l,e1,kl _ _ (s79 _ _ e2)⟩,rfl⟩
   ·by_cases e:i=j
    ·subst e;rw[Ak rfl];exact B10
    ·rw[Ah e]
     have d:=dd i j hi i3 e;exact ((B8.bk i hi).same n9.same).but7 b10 hk1 hk2 d.1.1 d.1.2 d.2.1 d.2.2
   ·by_cases e:i=j
    ·subst e;dsimp only;rw[Ak rfl];exact ⟨λ_=>⟨ro,c,rfl⟩,λz=>absurd z (by omega)⟩
    ·dsimp only;rw[Ah e];exact ⟨λz=>(io i hi).1 (by omega),λz=>(io i hi).2 (by omega)⟩
  ·rintro i σ H7 ei ⟨YY,v4,v5,L7,B7,io,hpl,nw,rfl⟩
   have ei:i=3:=ei;subst ei;have lw3:ws.length=3:=lw;refine ⟨_,rfl,_,rfl,_,rfl,lb,ls,pl,_,_,_,rfl,SqL.of L7.hb,SqL.of L7.hs,SqL.of hpl,qts (xs:=[.ref (bs 0),.ref (bs 1),.ref (bs 2)]) (ys:=[.ref (fA s0 s1 s2 0),.ref (fA s0 s1 s2 1),.ref (fA s0 s1 s2 2)]) (us:=ws) (λj σ H'=>∃ (v4 v5 v6:Option V),Same H7 H'/\σ=[some (.ref lb),some (tS x),some (.ref ls),some (.ref pl),v4,v5,v6]) (Ag _) (by rw[lw3];exact Ag _) ⟨_,_,_,Same.refl _,rfl⟩ (λj σ H' ⟨_,_,_,z,_⟩=>⟨SqL.of (z _ _ L7.hb),SqL.of (z _ _ L7.hs),SqL.of (z _ _ hpl)⟩) ?_ ?_⟩
   ·rintro j y y2 y3 σ H8 p hj hj2 hj3 hp ⟨v4,v5,v6,s8,rfl⟩
    obtain ⟨i3,rfl⟩:=qz7 (f:=λi=>V.ref (bs i)) hj;obtain ⟨_,rfl⟩:=qz7 (f:=λi=>V.ref (fA s0 s1 s2 i)) hj2;obtain ⟨ln,rfl,hln⟩:=nw j _ hj3;have n9:=qbi (o:=.tup [.ref (bs j),.ref (fA s0 s1 s2 j),.ref ln]) hp;refine ⟨p,_,rfl,SqT.of n9.at_,rfl,_,_,rfl,_,_,rfl,_,_,rfl,rfl,?_⟩;refine qof (σ':=[some (.ref lb),some (tS x),some (.ref ls),some (.ref pl),some (.ref (bs j)),some (.ref (fA s0 s1 s2 j)),some (.ref ln)]) rfl ?_;have s9:=s8.trans n9.same;obtain ⟨ro,c,ey⟩:=(io j i3).1 i3;have Bj:=B7.bk j i3;rw[ey] at Bj;have hmem:(x,((ro,c,[],sgn j):RC))∈XX j ++ [(x,(ro,c,[],sgn j))]:=AK _ (Aj.mpr rfl);have l21:=(xk j i3).1;have nin:=(xk j i3).2.2;obtain ⟨dx,hob⟩:=Bj.ob;refine ⟨_,rfl,bs j,dx,_,rfl,s9 _ _ hob,no _ (by decide +kernel) (by decide +kernel) (by decide +kernel) (by decide +kernel) (by decide +kernel),_,rfl,bs j,_,_,_,_,tS x,rfl,Bj.same s9,tx,λy' e' ey' hy' hm' lm H10 s10 f10 h10=>?_,λz=>absurd ⟨x,rfl,hx,Af.mpr ⟨_,hmem,rfl⟩⟩ z⟩;have ey':=qch ey';subst ey';have ee:e'.2.2.2=sgn j:=by
     rcases AD.mp hm' with z|z
     ·exact absurd (Af.mpr ⟨_,z,rfl⟩) nin
     ·injection Aj.mp z with _ z2
      rw[z2]
    rw[ee,qua i3] at h10;have s010:=s9.trans s10;refine ⟨_,rfl,qCa (qsn i3) h10 (s010 _ _ (L7.hl j i3)) ⟨_,rfl,qf0 ?_⟩⟩;refine ⟨_,rfl,bs j,dx,_,rfl,s010 _ _ hob,no _ (by decide +kernel) (by decide +kernel) (by decide +kernel) (by decide +kernel) (by decide +kernel),bs j,_,_,_,_,rfl,Bj.same s010,by rw[Az];simp;omega,λl11 H11 n11=>?_⟩;have s011:=s010.trans n11.same;have lns:(qbm ((XX j).map (·.1))).length=(XX j).length:=by rw[(qa8 _).length_eq,Ad]
    refine ⟨_,rfl,_,rfl,qfw (by simp),λl12 H12 n12=>⟨ln,l12,_,_,rfl,rfl,n12.same _ _ (s011 _ _ hln),n12.at_,qfw (by rw[Ad,lns];simp;omega),λl13 H13 n13=>?_⟩⟩;refine ⟨l13,qbm ((XX j).map (·.1)) ++ [x],rfl,SqL.of (by rw[AI];exact n13.at_),by rw[Az,lns];simp;omega,λl14 H14 n14=>?_⟩;have es:qbm (qbm ((XX j).map (·.1)) ++ [x])=qbm ((XX j ++ [(x,((ro,c,[],sgn j):RC))]).map (·.1)):=by
     rw[AI];exact qf2 ((qa8 _).append_right _)
    have h14:=n14.at_;rw[es] at h14;refine qCa (n:=12) (λm hm=>?_) (n14.same _ _ (n13.same _ _ (n12.same _ _ n11.at_))) h14 ⟨_,rfl,qf0 ⟨_,_,_,s8.trans (n9.same.trans (s10.trans (n11.same.trans (n12.same.trans (n13.same.trans n14.same))))),rfl⟩⟩;have hm:=(qa8 _).mem_iff.mp hm;obtain ⟨p0,h0,rfl⟩:=Af.mp hm
    rcases AD.mp h0 with z|z
    ·exact (xk j i3).2.1 p0 z
    ·rw[Aj.mp z];exact hx
   ·rintro σ H8 ⟨v4,v5,v6,s8,rfl⟩
    exact q H8
end
section
variable {P:Program} {w:World} {K:Frag} {mg:Str->Option Value} {base:Heap} {C_Roll C_Rule C_Book C_BookError C_NoNumber C_NoRule C_Backward C_NoName C_NoMark:Addr}
structure Hold (X:qbf) (NM:List (List Nat×List (List Nat))) (RS:List (List Nat×Rd3)):Prop where
 ok:XOk X
 nm:(X.map (·.1)).Perm (NM.map (·.1))
 en:∀ p∈X,∃ ms,(p.1,ms)∈NM/\p.2.2.2.2.Perm ms/\p.2.2.2.1=qiw RS p.1
theorem qub (A B:List (List Nat×Rd3)) (x:List Nat):qiw (A ++ B) x=qiw A x ++ qiw B x:=by
 unfold qiw;rw[Ct,AI]
section
variable {X X':qbf} {NM:List (List Nat×List (List Nat))} {RS R2:List (List Nat×Rd3)}
theorem Hold.rel (h:Hold X NM RS) (cell:Int->Option (Int×Int)):RelX X NM RS cell:=
 ⟨h.nm,λp hp=>let ⟨ms,m1,m2,m3⟩:=h.en p hp;⟨ms,m1,qf2 m2,by rw[m3]⟩⟩
theorem Hold.good (h:Hold X NM RS) (nk:qAm NM) (r:RS.length<=40):qmy X 50:=
 ⟨h.ok,λp hp=>let ⟨ms,m1,_,_⟩:=h.en p hp;nk.sm _ m1,λp hp=>by
  obtain ⟨ms,m1,m2,_⟩:=h.en p hp;have k:=nk.mm _ m1;have pm:=m2.map tS;exact ⟨λv hv=>k.1 v (pm.mem_iff.mp hv),pm.nodup_iff.mpr k.2.1,by rw[pm.length_eq];exact k.2.2⟩,
   by have:=h.nm.length_eq;rw[Ad,Ad] at this;have:=nk.ln;omega,λp hp=>by
  obtain ⟨_,_,_,m3⟩:=h.en p hp;rw[m3];exact AV (qfv _ _) (by omega)⟩
theorem Hold.mv (h:Hold X NM RS) (m:qBv X X') (ok:XOk X'):Hold X' NM RS:=
 ⟨ok,by rw[m.nm];exact (qa8 _).trans h.nm,λp hp=>by
  obtain ⟨e,he,e1,e2⟩:=m.en p hp;obtain ⟨ms,m1,m2,m3⟩:=h.en _ he;exact ⟨ms,m1,by rw[e2];exact (qa8 _).trans m2,by rw[e1];exact m3⟩⟩
theorem Hold.put (h:Hold X NM RS) (ok:XOk X') (em:X'.map (λp=>(p.1,p.2.1,p.2.2.1,p.2.2.2.2))=X.map (λp=>(p.1,p.2.1,p.2.2.1,p.2.2.2.2))) (er:∀ p∈X',∃ e:RC,(p.1,e)∈X/\p.2.2.2.1=e.2.2.1 ++ qiw R2 p.1):Hold X' NM (RS ++ R2):=by
 have en:X'.map (·.1)=X.map (·.1):=by
  have:=congrArg (List.map Prod.fst) em;rw[AG,AG] at this;exact this
 refine ⟨ok,by rw[en];exact h.nm,λp hp=>?_⟩;obtain ⟨e,he,e1⟩:=er p hp;have hq:(p.1,p.2.1,p.2.2.1,p.2.2.2.2)∈X.map (λp=>(p.1,p.2.1,p.2.2.1,p.2.2.2.2)):=by rw[<- em];exact Af.mpr ⟨p,hp,rfl⟩
 obtain ⟨q,hq,eq⟩:=Af.mp hq;injection eq with q1 eq
 injection eq with q2 eq
 injection eq with q3 q4
 obtain ⟨ms,m1,m2,m3⟩:=h.en q hq;have ee:q.2=e:=by
  have:(p.1,q.2)∈X:=by rw[<- q1];exact hq
  exact h.ok.one this he
 refine ⟨ms,by rw[<- q1];exact m1,by rw[<- q4];exact m2,?_⟩;rw[e1,qub,<- ee,m3,q1]
theorem Hold.names (ok:XOk X) (em:X.map (λp=>(p.1,p.2.2.2.2))=NM) (r0:∀ p∈X,p.2.2.2.1=[]):Hold X NM []:=
 ⟨ok,by rw[<- em,AG];exact El _,λp hp=>⟨p.2.2.2.2,by rw[<- em];exact Af.mpr ⟨p,hp,rfl⟩,El _,by rw[r0 p hp];rfl⟩⟩
theorem Hold.strange (h:Hold X NM RS) {x:List Nat} (n:x ∉ NM.map (·.1)):x ∉ X.map (·.1):=λz=>n (h.nm.mem_iff.mp z)
theorem Hold.memR (h:Hold X NM RS) (hR:∀ r∈R2,r.1∈NM.map (·.1)):∀ r∈R2,r.1∈X.map (·.1):=λr hr=>h.nm.mem_iff.mpr (hR r hr)
end
theorem BkC.frames {C CR R b:Addr} {B:qbr} {es:List Int} {ge:Option Int} {X:qbf}:∀ (L:List qa7) {H H':Hp},BkC C CR R H b B es ge X->(∀ c o,H c=some o->(∀ q∈L,c≠q.dy/\c≠q.dh)->H' c=some o)->(∀ q∈L,(∃ Y,H q.dy=some (.dT Y))/\∃ Z,H q.dh=some (.dT Z))->(∀ x e,(x,e)∈X->∀ q∈L,ApartD e.2.1 q)->BkC C CR R H' b B es ge X
 | [],_,_,h,kp,_,_=>h.same λc o e=>kp c o e λ_ z=>by cases z
 | q :: L,H,H',h,kp,hd,ap=>by
  obtain ⟨⟨Y,hY⟩,⟨Z,hZ⟩⟩:=hd q Ap;have hG:BkC C CR R (λz=>if z=q.dy\/z=q.dh then H z else H' z) b B es ge X:=by
   refine BkC.frames L h (λc o e n=>?_) (λr hr=>hd r (An _ hr)) λx e he r hr=>ap x e he r (An _ hr)
   by_cases z:c=q.dy\/c=q.dh
   ·simp only[Ak z];exact e
   ·simp only[Ah z]
    refine kp c o e λr hr=>?_
    rcases Ai.mp hr with rfl|hr
    ·exact ⟨λy=>z (.inl y),λy=>z (.inr y)⟩
    ·exact n r hr
  refine hG.frame (q:=q) (Y:=Y) (Z:=Z) (λz o e n1 n2=>?_) (by simp only[true_or,Ak];exact hY) (by simp only[or_true,Ak];exact hZ) λx e he=>ap x e he q Ap
  simp only[show ¬ (z=q.dy\/z=q.dh) from λy=>y.elim n1 n2,Ah,CC] at e
  simpa using e
end
section
variable {P:Program} {w:World} {K:Frag} {mg:Str->Option Value} {base:Heap} {C_Roll C_Rule C_Book C_BookError C_NoNumber C_NoRule C_Backward C_NoName C_NoMark:Addr}
theorem qso {d D a w:Int} (h:d<=D) (hw:1<=w):cut d a w<=cut D a w:=by
 unfold cut;exact DX (Int.ediv_le_ediv (by omega) (by omega)) (by omega)
theorem qz8 {x y:V} (h:∀ i j,x=.int i->y=.int j->j<=i) (hx:Ed x) (hy:Ed y) (hn:x=.non->y=.non):gE x y=x:=by
 rcases hx with rfl|⟨i,rfl⟩
 ·rw[hn rfl];rfl
 ·rcases hy with rfl|⟨j,rfl⟩
  ·rfl
  ·show V.int (if j>i then j else i)=V.int i
   rw[Ah (by have:=h i j rfl rfl;omega)]
theorem qva {α:Type} (f f':α->Int):∀ (l:List α),(∀ x∈l,f' x<=f x)->List.zipWith gE (l.map λx=>V.int (f x)) (l.map λx=>V.int (f' x))=l.map λx=>V.int (f x)
 | [],_=>rfl
 | x :: t,h=>by
  simp only[Aw,Dp];rw[qva f f' t λy hy=>h y (An _ hy),qz8 (λi j e1 e2=>by cases e1;cases e2;exact h x Ap) (.inr ⟨_,rfl⟩) (.inr ⟨_,rfl⟩) (by intro z;cases z)]
theorem quc {ps:List (Int×Int)} {g:Option Int} (P:Pr ps g) {d D:Int} (h:d<=D):List.zipWith gE (eV ps g D) (eV ps g d)=eV ps g D:=by
 unfold eV;rw[List.zipWith_append (by rw[Ad,Ad]),qva (λp:Int×Int=>cut D p.1 p.2) (λp=>cut d p.1 p.2) ps λp hp=>?_]
 ·congr 1
  cases g with
  | none=>rfl
  | some z =>
   obtain ⟨q,hq,eq⟩:=P.last
   show [gE (V.int _) (V.int _)]=[V.int _]
   rw[qz8 (λi j e1 e2=>by cases e1;cases e2;exact qso h (by rw[eq];exact (P.good.each _ q hq).2)) (.inr ⟨_,rfl⟩) (.inr ⟨_,rfl⟩) (by intro z;cases z)]
 ·obtain ⟨i,hi,e⟩:=AS hp
  exact qso h (P.good.each i p (by rw[<- e];exact Ac hi)).2
theorem qgy (ps:List (Int×Int)) (g:Option Int) (d:Int):(ps.map λp=>cut d p.1 p.2).map V.int ++ [gv (g.map λz=>cut d z (lw ps))]=eV ps g d:=by
 unfold eV;rw[AG];rfl
theorem qom {ps:List (Int×Int)} {g:Option Int} (P:Pr ps g) {d D:Int} (hD:Bd D) (h:d<=D) {es fs:List Int} {ge fg:Option Int} (U:qxh ps g D (eV ps g d) es ge fs fg):fs=(ps.map λp=>cut D p.1 p.2)/\fg=g.map λz=>cut D z (lw ps):=by
 have e:=U.Ef;rw[quc P h] at e;exact e.uniq (EdS.of P hD)
def qvb (d:Int) (n:Nat):List (List Nat):=(List.range n).map λj=>nmF d (j:Nat)
theorem qxn (d:Int) {n:Nat} (h:n<=20):(qvb d n).Nodup:=by
 unfold qvb List.Nodup;rw[CG];refine (List.pairwise_lt_range (n:=n)).imp_of_mem fun {i j} hi hj hij=>qz1 (by omega) ?_ ?_
 ·have:=BM.mp hi;have:=BM.mp hj;omega
 ·have:=BM.mp hi;have:=BM.mp hj;omega
theorem qz9 (d:Int) {n:Nat} (h:n<=9):nmF d 9 ∉ qvb d n:=λz=>by
 obtain ⟨j,hj,e⟩:=Af.mp z;have:=BM.mp hj;exact qz1 (d:=d) (k:=(j:Nat)) (l:=9) (by omega) (by omega) (by omega) e
structure NmC (d:Int) (j:Nat) (NM:List (List Nat×List (List Nat))):Prop where
 nm:NM.map (·.1)=qvb d j
 sm:∀ n∈NM,qa6 12 n.1
 mm:∀ n∈NM,qb2 (n.2.map tS)
theorem NmC.zero (d:Int):NmC d 0 []:=⟨rfl,(by intro n h;cases h),(by intro n h;cases h)⟩
theorem NmC.next {d:Int} {j:Nat} {NM:List (List Nat×List (List Nat))} (h:NmC d j NM) {ms:List (List Nat)} (s:qa6 12 (nmF d (j:Nat))) (m:qb2 (ms.map tS)):NmC d (j+1) (NM ++ [(nmF d (j:Nat),ms)]):=by
 refine ⟨?_,λn hn=>?_,λn hn=>?_⟩
 ·rw[AI,h.nm];unfold qvb;rw[List.range_succ,AI];rfl
 ·rcases AD.mp hn with z|z
  ·exact h.sm n z
  ·rw[Aj.mp z];exact s
 ·rcases AD.mp hn with z|z
  ·exact h.mm n z
  ·rw[Aj.mp z];exact m
theorem NmC.ok {d:Int} {j:Nat} {NM:List (List Nat×List (List Nat))} (h:NmC d j NM) (l:j<=20):qAm NM:=
 ⟨by rw[h.nm];exact qxn d l,h.sm,h.mm,by have:=congrArg List.length h.nm;unfold qvb at this;rw[Ad,Ad,List.length_range] at this;omega⟩
theorem NmC.no9 {d:Int} {j:Nat} {NM:List (List Nat×List (List Nat))} (h:NmC d j NM) (l:j<=9):nmF d 9 ∉ NM.map (·.1):=by rw[h.nm];exact qz9 d l
theorem qxo:qb2 (([]:List (List Nat)).map tS):=⟨(by intro v h;cases h),List.Pairwise.nil,AW _⟩
theorem qAa {m:List Nat} (h:qa6 8 m):qb2 ([m].map tS):=⟨λv hv=>by
 rw[Aj.mp (show v∈[tS m] from hv)]
 show qdl 8 (.str (S m))=true
 rw[qc1];exact AF h,by simp,by show 1<=8;decide⟩
theorem qsp {X:Cx} {K:Frag} (hK:X.K=K):SlR X (qys K):=by subst hK;exact qef
theorem qxp (x:List Nat) (i:Nat) (h:qa6 8 x):∃ ms:List (List Nat),qju [tS x] none (some ((0+(i:Int)) % 2))=ms.map tS/\qb2 (ms.map tS):=by
 rw[CY]
 rcases (show (i:Int) % 2=0\/(i:Int) % 2=1 by omega) with e|e<;>rw[e]
 ·exact ⟨[],rfl,qxo⟩
 ·exact ⟨[x],rfl,qAa h⟩
theorem qC9 (m a b c d:Int) {W:Int} (ha:0<=a/\a<W) (hb:0<=b/\b<W) (hc:0<=c/\c<W) (hd:0<=d/\d<W):∃ z,atI [V.int a,V.int b,V.int c,V.int d] (m % 4)=some (.int z)/\0<=z/\z<W:=by
 rcases (show m % 4=0\/m % 4=1\/m % 4=2\/m % 4=3 by omega) with e|e|e|e<;>rw[e]
 ·exact ⟨_,rfl,ha⟩
 ·exact ⟨_,rfl,hb⟩
 ·exact ⟨_,rfl,hc⟩
 ·exact ⟨_,rfl,hd⟩
theorem qAb (ns:List Int):∃ ms:List Int,qju (ns.map V.int) (some 5) (some 17)=ms.map V.int/\ms.length<=12:=by
 unfold qju;rw[show (some (5:Int))=some ((5:Nat):Int) from rfl,show (some (17:Int))=some ((17:Nat):Int) from rfl,HT.sIx_nat,HT.sIx_nat];simp only[<- ED,<- List.map_drop];exact ⟨_,rfl,by simp only[Au,BN];omega⟩
theorem RdNs.take {H:Hp}:∀ {ys:List V} {rs:List (List Nat×Rd3)} (n:Nat),RdNs H ys rs->RdNs H (ys.take n) (rs.take n)
 | _,_,0,_=>by rw[List.take_zero,List.take_zero];exact .nil
 | _,_,_+1,.nil=>.nil
 | _,_,n+1,.cons b t=>.cons b (RdNs.take n t)
theorem RdNs.drop {H:Hp}:∀ {ys:List V} {rs:List (List Nat×Rd3)} (n:Nat),RdNs H ys rs->RdNs H (ys.drop n) (rs.drop n)
 | _,_,0,h=>h
 | _,_,_+1,.nil=>.nil
 | _,_,n+1,.cons _ t=>RdNs.drop n t
theorem RL63.lt {r:Rd3} (h:RL63 r):RLt r:=by
 obtain ⟨⟨a,b⟩,⟨c,d⟩,e,f⟩:=h;exact ⟨⟨by omega,by omega⟩,⟨by omega,by omega⟩,e,f⟩
theorem qAc (D k:Int) (hD:0<=D) (h0:0<=k) (h5:k<5):0<=D*k / 5/\D*k / 5<=D:=by
 rcases (show k=0\/k=1\/k=2\/k=3\/k=4 by omega) with rfl|rfl|rfl|rfl|rfl<;>omega
theorem NmsAt.up {H H':Hp} (k:∀ c o,H c=some o->(∀ Y,o≠HO.dT Y)->H' c=some o):∀ {ys:List V} {NM:List (List Nat×List (List Nat))},NmsAt H ys NM->NmsAt H' ys NM
 | _,_,.nil=>.nil
 | _,_,.cons ⟨a,l,e,h1,h2⟩ t=>.cons ⟨a,l,e,k _ _ h1 (by intro Y z;cases z),k _ _ h2 (by intro Y z;cases z)⟩ (NmsAt.up k t)
theorem qAd {X X':qbf} (em:X'.map (λp=>(p.1,p.2.1,p.2.2.1,p.2.2.2.2))=X.map (λp=>(p.1,p.2.1,p.2.2.1,p.2.2.2.2))) {p:List Nat×RC} (hp:p∈X'):∃ q∈X,q.2.2.1=p.2.2.1:=by
 have h:(p.1,p.2.1,p.2.2.1,p.2.2.2.2)∈X.map (λp=>(p.1,p.2.1,p.2.2.1,p.2.2.2.2)):=by rw[<- em];exact Af.mpr ⟨p,hp,rfl⟩
 obtain ⟨q,hq,e⟩:=Af.mp h;injection e with _ e
 injection e with _ e
 injection e with e _
 exact ⟨q,hq,e⟩
end
section
variable {P:Program} {w:World} {K:Frag} {mg:Str->Option Value} {base:Heap} {C_Roll C_Rule C_Book C_BookError C_NoNumber C_NoRule C_Backward C_NoName C_NoMark:Addr}
def f3 {α:Type} (a b c:α):Nat->α
 | 0=>a
 | 1=>b
 | _=>c
theorem qvc {P:Nat->Prop} (h0:P 0) (h1:P 1) (h2:P 2):∀ i,i<3->P i:=λi hi=>by
 rcases lt3 hi with rfl|rfl|rfl
 ·exact h0
 ·exact h1
 ·exact h2
theorem qDa {C CR R:Addr} {H:Hp} {b0 b1 b2:Addr} {B0 B1 B2:qbr} {e0 e1 e2:List Int} {g0 g1 g2:Option Int} {X0 X1 X2:qbf} (h0:BkC C CR R H b0 B0 e0 g0 X0) (h1:BkC C CR R H b1 B1 e1 g1 X1) (h2:BkC C CR R H b2 B2 e2 g2 X2):∀ i,i<3->BkC C CR R H (fA b0 b1 b2 i) (f3 B0 B1 B2 i) (f3 e0 e1 e2 i) (f3 g0 g1 g2 i) (f3 X0 X1 X2 i):=
 qvc h0 h1 h2
theorem qDb {P:qbf->Prop} {X0 X1 X2:qbf} (h0:P X0) (h1:P X1) (h2:P X2):∀ i,i<3->P (f3 X0 X1 X2 i):=qvc h0 h1 h2
def DDs (a b:qbr):Prop:=(a.dm≠b.dm/\a.dr≠b.dm)/\a.dm≠b.dr/\a.dr≠b.dr
theorem DDs.symm {a b:qbr} (h:DDs a b):DDs b a:=⟨⟨h.1.1.symm,h.2.1.symm⟩,h.1.2.symm,h.2.2.symm⟩
theorem qDc {B0 B1 B2:qbr} (h01:DDs B0 B1) (h02:DDs B0 B2) (h12:DDs B1 B2):D3 (f3 B0 B1 B2):=λi j hi hj ne=>by
 rcases lt3 hi with rfl|rfl|rfl<;>rcases lt3 hj with rfl|rfl|rfl
 ·exact absurd rfl ne
 ·exact h01
 ·exact h02
 ·exact h01.symm
 ·exact absurd rfl ne
 ·exact h12
 ·exact h02.symm
 ·exact h12.symm
 ·exact absurd rfl ne
theorem BkC.newD {C CR R:Addr} {H:Hp} {b:Addr} {B:qbr} {es:List Int} {ge:Option Int} {X:qbf} (h:BkC C CR R H b B es ge X) {B2:qbr} (h3:H B2.dm=none) (h4:H B2.dr=none):DDs B B2:=by
 obtain ⟨_,e1,_⟩:=h.ms;obtain ⟨_,e2,_⟩:=h.rs;exact ⟨⟨qag e1 h3,qag e2 h3⟩,qag e1 h4,qag e2 h4⟩
theorem qBz (T:Txt K mg C_Roll C_Rule C_Book C_BookError C_NoNumber C_NoRule C_Backward C_NoName C_NoMark) {f:Addr} {fd:FuncData} (F:Fun K "law" "law" qpi f fd):qhd P w K mg base CX0 12 f fd ["_law_script"] (quv K):=by
 have nd:=sc_law.nd;refine F.ok sc_law (λvs H Q E h=>?_) (λcdv A outer s H vs Q E hr h=>?_)
 ·obtain ⟨a,ns,rfl,_⟩:=h;rfl
 ·obtain ⟨a,ns,rfl,hS,hn,k⟩:=h
  refine ⟨_,(qad (qx4 (qat (qm1 T) (hr.mono (by decide)) rfl (qaa (qat (qci T) (hr.mono (by decide)) rfl (qaa (pv 0) (qaa qae qac))) qac)) (qcx rfl (qap (qam (i:=1) nd rfl (Or.inl rfl)) (qap (qam (i:=2) nd rfl (Or.inl rfl)) qb1))))
   (qad (qaw (i:=3) nd rfl (Or.inl rfl) (qng (qt0 T) (hr.mono (by decide)) rfl .nil (qaa (qb3 qb0 rfl T.b_list qen (qaa (pv 1) qac)) (qaa (pv 2) qac))))
   (qad (qaw (i:=4) nd rfl (Or.inl rfl) (qai qed (qai qa2 (qat (qci T) (hr.mono (by decide)) rfl (qaa (pv 0) (qaa qae qac))) (qai qcj qae (qai qgb qae qae))) (qai qgb qae qae)))
   (qad (qaw (i:=5) nd rfl (Or.inr rfl) (qat (qci T) (hr.mono (by decide)) rfl (qaa (pv 0) (qaa qae qac))))
   (qad (qfs (i:=6) (vars:=["_law_k"]) (frees:=["_law_one"]) (fv:=[5]) nd rfl (Or.inl rfl) rfl (qkz rfl rfl (by decide +kernel) (by decide +kernel) (by intro p hp;simp only[Ai,As,A7] at hp;rcases hp with rfl<;>rfl) rfl) ⟨⟨rfl,.inl rfl,rfl,.inl rfl⟩,trivial⟩ (qf9 rfl T.b_range (qaa (qai qba qae (qai qa2 (qat (qci T) (hr.mono (by decide)) rfl (qaa (pv 0) (qaa qae qac))) qae)) qac)) (qe7 (by decide)) (λ_ _ _ _=>(qam (i:=0) (show (["_law_k", "_law_one"]:List Str).Nodup by decide +kernel) rfl (Or.inl rfl))) (λ_ _ _ _=>qbt) (λ_ _ _ _=>(qck (qaa (qat (qit T) (hr.mono (by decide)) rfl (qaa (pv 1) (qaa (pv 0) qac))) (qaa (qcb (qsp (K:=K) rfl) (qbx (qaa (qat (qm0 T) (hr.mono (by decide)) rfl (qaa (pv 1) (qaa (pv 0) qac))) qac)) qdo (qco (qai qa2 (pv 0) qae))) qac)))))
   (qad (qaw (i:=7) nd rfl (Or.inl rfl) (qat (qci T) (hr.mono (by decide)) rfl (qaa (pv 0) (qaa qae qac))))
   (qad (qaw (i:=8) nd rfl (Or.inl rfl) (qai qba (pv 4) (qbb qbn (qbx (qaa qae (qaa qae (qaa (qai qa2 (qai qcy (pv 7) qae) (qai qba (qai qba (qai qga qae (qbb qbl (qbb qbn (pv 1) (qgm qep qae) (λ_ _=>rfl)) qae (λ_ _=>rfl))) (qbb qbl (qbb qbn (pv 1) (qgm qep qae) (λ_ _=>rfl)) qae (λ_ _=>rfl))) qae)) (qaa (qai qa2 (qai qcy (pv 7) qae) (qai qgb qae qae)) qac))))) (qai qa2 (qat (qao T) (hr.mono (by decide)) rfl (qaa (pv 7) (qaa qae qac))) qae) (λ_ _=>rfl))))
   (qad (qaw (i:=9) nd rfl (Or.inl rfl) (qat (qiv T) (hr.mono (by decide)) rfl (qaa (qcb qef (pv 0) (qco qae) (qco qae)) (qaa (qhy (vars:=["_law_name_here", "_law_marks"]) (frees:=[]) (fv:=[]) rfl (qkz rfl rfl (by decide +kernel) (by decide +kernel) (by intro p hp;cases hp) rfl) trivial (qbp (pv 6)) (qex (by decide) (by decide)) (λ_ _ _ _=>(qcx rfl (qap (qam (i:=0) (show (["_law_name_here", "_law_marks"]:List Str).Nodup by decide +kernel) rfl (Or.inl rfl)) (qap (qam (i:=1) (show (["_law_name_here", "_law_marks"]:List Str).Nodup by decide +kernel) rfl (Or.inl rfl)) qb1)))) (λ_ _ _ _=>qbt) (λ_ _ _ _=>(pv 0))) (qaa (pv 1) (qaa (pv 2) (qaa (pv 4) qac)))))))
   (qad (qaw (i:=10) nd rfl (Or.inl rfl) (qai qcy (qai qga qae (qas qbc rfl T.b_len qee (qaa (pv 9) qac))) qae))
   (qad (qaw (i:=11) nd rfl (Or.inl rfl) (qng (qoc T) (hr.mono (by decide)) rfl .nil (qaa (pv 3) (qaa (pv 4) qac))))
   (qad (qec Bb rfl (qbp (pv 6)) (qcx rfl (qap (qam (i:=12) nd rfl (Or.inl rfl)) (qap (qam (i:=13) nd rfl (Or.inl rfl)) qb1)))
    (qaf (qa9 (qc4 (qa5 ⟨rfl,rfl,rfl⟩) (pv 11) T.cl_Book (qc3 T) (hr.mono (by decide)) .nil (qaa (pv 12) (qaa (qb3 qb0 rfl T.b_list qen (qaa (pv 13) qac)) qac))))))
   (qad (qa9 (qat (qeo T) (hr.mono (by decide)) rfl (qaa (pv 11) (qaa (qcb qef (pv 9) qdo (qco (pv 10))) qac))))
   (qad (qaw (i:=14) nd rfl (Or.inl rfl) (qai qba (pv 4) (qai qcy (qai qcj (qai qed (pv 8) (pv 4)) (qai qa2 (qat (qao T) (hr.mono (by decide)) rfl (qaa (pv 7) (qaa qae qac))) qae)) qae)))
   (qad (qaw (i:=15) nd rfl (Or.inl rfl) (qg1 (qa5 ⟨rfl,rfl,rfl⟩) (qcm T) (hr.mono (by decide)) rfl .nil (qaa (pv 11) (qaa (pv 8) qac))))
   (qad (qbs (qav qjr (qai qa2 (qat (qao T) (hr.mono (by decide)) rfl (qaa (pv 7) (qaa qae qac))) qae) qae (qay _))
    (qaf (qaw (i:=15) nd rfl (Or.inl rfl) (qg1 (qa5 ⟨rfl,rfl,rfl⟩) (qcm T) (hr.mono (by decide)) rfl .nil (qaa (qg1 (qa5 ⟨rfl,rfl,rfl⟩) (qcm T) (hr.mono (by decide)) rfl .nil (qaa (pv 11) (qaa (pv 14) qac))) (qaa (pv 8) qac)))))
    qau)
   (qad (qaw (i:=16) nd rfl (Or.inl rfl) (qat (qhc T) (hr.mono (by decide)) rfl (qaa (pv 1) (qaa (pv 2) (qaa (pv 8) qac)))))
   (qad (qbs (qe5 (qez (qat (qem T) (hr.mono (by decide)) rfl (qaa (pv 15) (qaa (pv 3) (qaa (pv 8) (qaa (pv 16) (qaa (pv 6) (qaa (qcb qef (pv 9) qdo (qco (pv 10))) qac)))))))))
    (qaf (qan qgl))
    qau)
   (qad (qa9 (qat (qeo T) (hr.mono (by decide)) rfl (qaa (pv 15) (qaa (qcb qef (pv 9) (qco (pv 10)) qdo) qac))))
   (qad (qbs (qe5 (qez (qat (qem T) (hr.mono (by decide)) rfl (qaa (pv 11) (qaa (pv 3) (qaa (pv 4) (qaa (qat (qhc T) (hr.mono (by decide)) rfl (qaa (pv 1) (qaa (pv 2) (qaa (pv 4) qac)))) (qaa (pv 6) (qaa (qcb qef (pv 9) qdo (qco (pv 10))) qac)))))))))
    (qaf (qan qgl))
    qau)
   (qad (qa9 (qat (qeo T) (hr.mono (by decide)) rfl (qaa (pv 11) (qaa (qcb qef (pv 9) (qco (pv 10)) qdo) qac))))
   (qad (qbs (qe5 (qez (qat (qem T) (hr.mono (by decide)) rfl (qaa (pv 15) (qaa (pv 3) (qaa (pv 8) (qaa (pv 16) (qaa (pv 6) (qaa (pv 9) qac)))))))))
    (qaf (qan qgl))
    qau)
   (qad (qbs (qe5 (qez (qat (qem T) (hr.mono (by decide)) rfl (qaa (qg1 (qa5 ⟨rfl,rfl,rfl⟩) (qcm T) (hr.mono (by decide)) rfl .nil (qaa (pv 11) (qaa (pv 8) qac))) (qaa (pv 3) (qaa (pv 8) (qaa (pv 16) (qaa (pv 6) (qaa (pv 9) qac)))))))))
    (qaf (qan qgl))
    qau)
   (qad (qbs (PW.pt (qkn (qe5 (qez (qat (qix T) (hr.mono (by decide)) rfl (qaa (pv 11) (qaa (qai qed (qai qed (pv 4) qae) (qai qa2 (pv 7) (qai qgb qae qae))) qac))))) (qhl (qav qop (qbw (qg1 (qa5 ⟨rfl,rfl,rfl⟩) (qcm T) (hr.mono (by decide)) rfl .nil (qaa (pv 11) (qaa (pv 4) qac))) T.cl_Book (qfu T) (hr.mono (by decide))) (pv 4) (qay _)))))
    (qaf (qan qgl))
    qau)
   (qaf (qan (qat (qmd T) (hr.mono (by decide)) rfl (qaa (qbx (qaa (pv 11) (qaa (pv 15) (qaa (qg1 (qa5 ⟨rfl,rfl,rfl⟩) (qcm T) (hr.mono (by decide)) rfl .nil (qaa (pv 11) (qaa (pv 8) qac))) qac)))) (qaa (qat (qit T) (hr.mono (by decide)) rfl (qaa (pv 5) (qaa qae qac))) qac)))))))))))))))))))))))))))),?_⟩
  refine ⟨_,rfl,a,ns,0,rfl,hS,by decide,_,rfl,λtt ls xs ps g H1 s1 fl htt hls hp pb=>?_⟩;refine ⟨tt,_,rfl,SqT.of htt,rfl,_,_,rfl,_,_,rfl,rfl,?_⟩;refine qgk (σ':=[some (.ref a),some (.ref ls),some (gv g),none,none,none,none,none,none,none,none,none,none,none,none,none,none]) rfl ?_
  replace hS:=qie s1 hS
  clear s1 fl htt;dsimp only;refine ⟨_,rfl,ls,_,rfl,.inl (SqL.of hls),λl2 H2 n2=>⟨_,rfl,λru dx H3 s3 f3 d3=>?_⟩⟩;refine ⟨ru,dx,l2,xs,ps,g,rfl,d3,s3 _ _ n2.at_,(hp.same n2.same).same s3,pb.P.good,pb.P.gone,λrl H4 f4 R4 b4=>⟨rfl,qaz ?_⟩⟩;have s14:Same H1 H4:=b4.same (n2.same.trans s3) (n2.same.free f3)
  replace hS:=qie s14 hS
  replace hls:=s14 _ _ hls
  replace hp:=hp.same s14
  clear s14 b4 f4 d3 f3 s3 n2;refine qgk (σ':=[some (.ref a),some (.ref ls),some (gv g),some (.ref ru),none,none,none,none,none,none,none,none,none,none,none,none,none]) rfl ?_;have d1:0<=(ns[(1:Int).toNat]?.getD 0) % (2*10 ^ 30)/\(ns[(1:Int).toNat]?.getD 0) % (2*10 ^ 30)<2*10 ^ 30:=⟨AU _ (by decide),AN _ (by decide)⟩;refine ⟨_,rfl,a,ns,1,rfl,hS,by decide,?_⟩
  generalize ns[(1:Int).toNat]?.getD 0=c1 at d1
  refine ⟨_,_,rfl,rfl,by walk_at "c",_,_,rfl,rfl,by walk_at "c",_,_,rfl,rfl,by walk_at "c",_,_,rfl,rfl,by walk_at "c",_,_,rfl,rfl,qaz ?_⟩;obtain ⟨day,eday⟩:∃ day,day=c1 % (2*10 ^ 30)-10 ^ 30:=⟨_,rfl⟩;have dB:-(10 ^ 31)<=day/\day<=10 ^ 31:=by omega
  refine qgk (σ':=[some (.ref a),some (.ref ls),some (gv g),some (.ref ru),some (.int day),none,none,none,none,none,none,none,none,none,none,none,none]) (by rw[eday];rfl) ?_;clear eday d1;have hd:Bd day:=⟨by omega,by omega⟩;refine ⟨_,rfl,a,ns,2,rfl,hS,by decide,qaz ?_⟩
  generalize ns[(2:Int).toNat]?.getD 0=dn
  refine qgk (σ':=[some (.ref a),some (.ref ls),some (gv g),some (.ref ru),some (.int day),some (.int dn),none,none,none,none,none,none,none,none,none,none,none]) rfl ?_;refine ⟨_,rfl,a,ns,3,rfl,hS,by decide,_,_,rfl,rfl,by decide,_,_,rfl,rfl,_,rfl,?_⟩;obtain ⟨N,hN⟩:∃ N:Nat,1+(ns[(3:Int).toNat]?.getD 0) % 3=N:=⟨(1+(ns[(3:Int).toNat]?.getD 0) % 3).toNat,by omega⟩;have N4:1<=N/\N<=3:=by omega
  rw[hN];refine ⟨by omega,by omega,qia (n:=N) (λi ys H5=>Same H4 H5/\∃ NM,NmsAt H5 ys NM/\NmC dn i NM) (qfw (by omega)) ⟨Same.refl _,[],.nil,NmC.zero dn⟩ (λi ys H5 h5=>by obtain ⟨_,NM,t,c⟩:=h5;rw[t.length];have:=congrArg List.length c.nm;simp[qvb] at this;omega) ?_ ?_⟩
  ·rintro i ys H5 hi ⟨s5,NM,tn,nc⟩
   refine qaz (qnf (qe1 ?_));refine ⟨_,rfl,_,rfl,_,_,rfl,λH6 s6 sw=>?_⟩;refine ⟨_,rfl,_,rfl,_,_,rfl,λx H7 s7 sx=>⟨qfw (by simp),λl8 H8 n8=>?_⟩⟩;obtain ⟨ms,ems,mok⟩:=qxp x i sx;refine ⟨_,rfl,_,_,rfl,rfl,by decide,_,rfl,l8,_,rfl,SqL.of n8.at_,λl9 H9 n9=>⟨qfw (by simp),λt10 H10 n10=>⟨s5.trans (s6.trans (s7.trans (n8.same.trans (n9.same.trans n10.same)))),NM ++ [(nmF dn i,ms)],?_,?_⟩⟩⟩
   ·have h9:=n9.at_
    rw[ems] at h9;refine (NmsAt.same (s6.trans (s7.trans (n8.same.trans (n9.same.trans n10.same)))) tn).snoc ⟨t10,l9,rfl,?_,n10.same _ _ h9⟩;have h10:=n10.at_;rw[CY] at h10;exact h10
   ·rw[CY] at sw
    exact nc.next sw mok
  rintro ys H5 lnm H6 ⟨s5,NM,tn,nc⟩ n6;refine qaz ?_;refine qgk (σ':=[some (.ref a),some (.ref ls),some (gv g),some (.ref ru),some (.int day),some (.int dn),some (.ref lnm),none,none,none,none,none,none,none,none,none,none]) rfl ?_;have s46:=s5.trans n6.same
  replace hS:=qie s46 hS
  replace hls:=s46 _ _ hls
  replace hp:=hp.same s46
  replace R4:=R4.same s46
  replace tn:=tn.same n6.same
  have hnm:=n6.at_;have nk:=nc.ok (show N<=20 by omega);clear s46 s5 n6;refine ⟨_,rfl,a,ns,4,rfl,hS,by decide,qaz ?_⟩
  generalize ns[(4:Int).toNat]?.getD 0=far
  refine qgk (σ':=[some (.ref a),some (.ref ls),some (gv g),some (.ref ru),some (.int day),some (.int dn),some (.ref lnm),some (.int far),none,none,none,none,none,none,none,none,none]) rfl ?_;have lo:=pb.P.good.lo;have xl:=hp.length;obtain ⟨aL,pL,eL,mL,_,hL⟩:=hp.at (i:=ps.length-1) (by omega);rw[<- xl] at eL;have bL:=pb.b pL mL;obtain ⟨iL,hiL,eiL⟩:=AS mL;have gL:=pb.P.good.each iL pL (by rw[<- eiL];exact Ac hiL);have hat:atI xs (-1)=some (.ref aL):=qlc eL
  walk_at "r"
  intro p7 H7 n7;have q1:=AU (far / 5) (show 3*pL.2+pL.1+9≠0 by omega);have q2:=AN (far / 5) (show 0<3*pL.2+pL.1+9 by omega);have q3:=AU (far / 5) (show (10:Int) ^ Int.toNat 30≠0 by decide);have q4:=AN (far / 5) (show (0:Int)<10 ^ Int.toNat 30 by decide);have e30:(10:Int) ^ Int.toNat 30=10 ^ 30:=rfl;refine ⟨_,rfl,far,1,rfl,by decide,by decide,λm1 _ _=>?_⟩;obtain ⟨f4,hf4,f0,f1⟩:=qC9 m1 0 1 (far / 5 % (3*pL.2+pL.1+9)) (far / 5 % 10 ^ Int.toNat 30) (W:=10 ^ 30+1) (by decide) (by decide) ⟨q1,by omega⟩ ⟨q3,by omega⟩;refine ⟨_,_,rfl,rfl,by decide,p7,_,_,_,rfl,rfl,SqL.of n7.at_,hf4,_,_,rfl,rfl,qaz ?_⟩;obtain ⟨later,elat⟩:∃ later,later=day+f4:=⟨_,rfl⟩;have hd2:Bd later:=⟨by omega,by omega⟩;have dle:day<=later:=by omega
  have dl30:later<=day+10 ^ 30:=by omega
  refine qgk (σ':=[some (.ref a),some (.ref ls),some (gv g),some (.ref ru),some (.int day),some (.int dn),some (.ref lnm),some (.int far),some (.int later),none,none,none,none,none,none,none,none]) (by rw[elat];rfl) ?_
  replace hS:=qie n7.same hS
  replace hls:=n7.same _ _ hls
  replace hp:=hp.same n7.same
  replace R4:=R4.same n7.same
  replace tn:=tn.same n7.same
  replace hnm:=n7.same _ _ hnm
  clear n7 hf4 elat f1 q1 q2 q3 q4 e30 eL hL hat;obtain ⟨cs,ec,hcs⟩:=qAb ns;refine ⟨_,rfl,_,rfl,_,rfl,a,_,rfl,hS,λlc H8 n8=>?_⟩;rw[ec] at n8;refine ⟨_,rfl,lnm,rfl,⟨_,SqL.of (n8.same _ _ hnm)⟩,qei (xs:=ys) (λi vs H2=>Same H8 H2/\vs=((NM.map (·.1)).take i).map tS) (qfw (by have:=tn.length;have:=nk.ln;omega)) ⟨Same.refl _,rfl⟩ (λi vs H2 h2=>⟨SqL.of (h2.1 _ _ (n8.same _ _ hnm)),by rw[h2.2,Ad,Au];omega⟩) ?_ ?_⟩
  ·rintro i y vs H9 hi ⟨s9,rfl⟩
   obtain ⟨⟨x,ms⟩,hxn,t,l,rfl,ha,hl⟩:=tn.get hi;refine ⟨t,_,rfl,SqT.of (s9 _ _ (n8.same _ _ ha)),rfl,_,_,rfl,_,_,rfl,rfl,qnf (qe1 ?_)⟩;refine ⟨_,rfl,s9,?_⟩;rw[BD,Ay,hxn]
   simp
  rintro vs H9 ln H10 ⟨s9,rfl⟩ n10;have tl:=tn.length;rw[tl,<- Ad (f:=λn:List Nat×List (List Nat)=>n.1),AO] at n10;have s810:=n8.same.trans (s9.trans n10.same);have nl3:(NM.map (·.1)).length=N:=by rw[nc.nm];simp[qvb]
  refine ⟨_,rfl,_,rfl,_,rfl,lc,ln,ls,cs,NM.map (·.1),xs,ps,g,day,rfl,n10.same _ _ (s9 _ _ n8.at_),by omega,n10.at_,by omega,by omega,s810 _ _ hls,hp.same s810,pb,dB,λlrd zs RS H11 s11 _ hrd trd lrs hR=>qaz ?_⟩;refine qgk (σ':=[some (.ref a),some (.ref ls),some (gv g),some (.ref ru),some (.int day),some (.int dn),some (.ref lnm),some (.int far),some (.int later),some (.ref lrd),none,none,none,none,none,none,none]) rfl ?_;have s711:=s810.trans s11
  replace hS:=qie s711 hS
  replace hls:=s711 _ _ hls
  replace hp:=hp.same s711
  replace R4:=R4.same s711
  replace tn:=tn.same s711
  replace hnm:=s711 _ _ hnm
  have zl:=trd.length;have rl12:RS.length<=12:=by omega
  clear s711 s810 s11 s9 n8 n10;refine ⟨_,rfl,lrd,zs,rfl,.inl (SqL.of hrd),_,_,rfl,rfl,by walk_at "c",_,_,rfl,rfl,by walk_at "c",qaz ?_⟩;obtain ⟨M,eM,M2⟩:∃ M:Nat,2*(zs.length:Int) / 3=M/\M<=zs.length:=⟨2*zs.length / 3,by omega,by omega⟩;refine qgk (σ':=[some (.ref a),some (.ref ls),some (gv g),some (.ref ru),some (.int day),some (.int dn),some (.ref lnm),some (.int far),some (.int later),some (.ref lrd),some (.int M),none,none,none,none,none,none]) (by rw[<- eM];rfl) ?_;refine ⟨_,rfl,_,rfl,λb dxb H12 s12 f12 d12=>?_⟩;refine ⟨b,dxb,ru,rl,ps,g,day,rfl,d12,R4.same s12,pb.P,pb.wb,hd,λle dm dr H13 B13 g2 g3 g4 b13=>⟨rfl,qaz ?_⟩⟩;have s13:Same H11 H13:=b13.same s12 f12;have fm:=s12.free g3;have fr:=s12.free g4;refine qgk (σ':=[some (.ref a),some (.ref ls),some (gv g),some (.ref ru),some (.int day),some (.int dn),some (.ref lnm),some (.int far),some (.int later),some (.ref lrd),some (.int M),some (.ref b),none,none,none,none,none]) rfl ?_;have k20:=nk.ln;have no:∀ (B:qbr) {m:Str},¬ m = "kept_rolls" -> ¬ m = "kept_marks" -> ¬ m = "kept_edges" -> ¬ m = "kept_day" -> ¬ m = "kept_rule" -> (bof B.ru B.day B.le B.dm B.dr).lookup m=none:=λB _ a b c d e=>qe0 _ _ _ _ _ a b c d e
  refine ⟨_,rfl,lnm,rfl,⟨_,SqL.of (s13 _ _ hnm)⟩,qc2 (xs:=ys) (λj σ H'=>∃ (X:qbf) (v6 v7:Option V),Same H11 H'/\BkC C_Book C_Roll C_Rule H' b ⟨ru,rl,le,dm,dr,ps,g,day⟩ (ps.map λp=>cut day p.1 p.2) (g.map λz=>cut day z (lw ps)) X/\XOk X/\X.map (λp=>(p.1,p.2.2.2.2))=NM.take j/\(∀ p∈X,p.2.2.2.1=[])/\(∀ p∈X,H11 p.2.2.1.dy=none/\H11 p.2.2.1.dh=none)/\σ=[some (.ref a),some (.ref ls),some (gv g),some (.ref ru),some (.int day),some (.int dn),some (.ref lnm),some (.int far),some (.int later),some (.ref lrd),some (.int M),some (.ref b),v6,v7,none,none,none]) ⟨[],_,_,s13,B13,.nil,rfl,(by intro p h;cases h),(by intro p h;cases h),rfl⟩ (λj σ H' _ ⟨_,_,_,z,_⟩=>SqL.of (z _ _ hnm)) ?_ ?_⟩
  ·rintro j y σ H2 hyj ⟨X,v6,v7,s2,B2,xk,nm,r0,frX,rfl⟩
   obtain ⟨⟨x,ms⟩,hxn,t,l,rfl,ha,hl⟩:=tn.get hyj;have hmem:=Aq hxn;have hsx:qa6 12 x:=nk.sm _ hmem;have hmk:qb2 (ms.map tS):=nk.mm _ hmem;have tx:∀ {H:Hp},TextV H (tS x):=.inl ⟨x,rfl,by have:=hsx.2.1;omega⟩;have nmf:X.map (·.1)=(NM.map (·.1)).take j:=by
    have:=congrArg (List.map Prod.fst) nm;rw[AG,ED] at this;exact this
   have hni:x ∉ X.map (·.1):=by
    rw[nmf];intro z;obtain ⟨i,hi,ei⟩:=AS z;rw[Au] at hi;rw[DQ] at ei;have jl:j<(NM.map (·.1)).length:=by rw[Ad];exact (Am.mp hxn).1
    have ej:(NM.map (·.1))[j]=x:=by rw[List.getElem_map,(Am.mp hxn).2]
    have:=(Di (xs:=NM.map (·.1)) (i:=i) (j:=j) (h₀:=by omega) (h₁:=jl) nk.nd).mp (by rw[ei,ej]);omega
   have lX:X.length<=20:=by
    have:=congrArg List.length nmf;rw[Ad,Au,Ad] at this;omega
   refine ⟨t,_,rfl,SqT.of (s2 _ _ ha),rfl,_,_,rfl,_,_,rfl,rfl,?_⟩;refine qgk (σ':=[some (.ref a),some (.ref ls),some (gv g),some (.ref ru),some (.int day),some (.int dn),some (.ref lnm),some (.int far),some (.int later),some (.ref lrd),some (.int M),some (.ref b),some (tS x),some (.ref l),none,none,none]) rfl ?_;obtain ⟨dx2,hob⟩:=B2.ob;have l8:=hmk.2.2;refine ⟨_,rfl,b,dx2,_,rfl,hob,no _ (by decide +kernel) (by decide +kernel) (by decide +kernel) (by decide +kernel) (by decide +kernel),_,rfl,_,rfl,l,_,rfl,.inl (SqL.of (s2 _ _ hl)),λlm H9 n9=>?_⟩;refine ⟨b,_,_,_,X,tS x,.ref lm,_,rfl,B2.same n9.same,tx,.inr ⟨lm,rfl,n9.at_⟩,λu hu=>?_,AV l8 (by decide),by omega,λz=>?_,λ_ z=>absurd hmk z,λy2 ms2 ey2 hy2 hn2 eu ok ro c H3 b3 c1 c2 B3 _=>?_⟩
   ·obtain ⟨m,hm',rfl⟩:=Af.mp hu
    have:=hmk.1 (tS m) hu;rw[qc1] at this;exact .inl ⟨m,rfl,by have:=(AE this).2.1;omega⟩
   ·rcases z with z|⟨y,e,_,hy'⟩
    ·rw[qc1,AF hsx] at z;cases z
    ·exact absurd (qch e ▸ hy') hni
   have ey2:=qch ey2;subst ey2;have ems:ms=ms2:=ql6 eu;subst ems;refine ⟨X ++ [(x,(ro,c,[],ms))],_,_,λz o e=>b3 _ _ (n9.same _ _ (s2 _ _ e)) (qag e fm) (qag e fr),B3,?_,?_,λp hp=>?_,λp hp=>?_,rfl⟩
   ·unfold XOk
    rw[CO];refine ⟨xk,by simp,λp hp p' hp'=>?_⟩;rw[Aj.mp hp'];obtain ⟨⟨Y,hY⟩,⟨Z,hZ⟩⟩:=(B2.same n9.same).dicts (x:=p.1) (e:=p.2) hp;exact ⟨λe=>hni (Af.mpr ⟨p,hp,e⟩),qag hY c1,qag hY c2,qag hZ c1,qag hZ c2⟩
   ·rw[AI,nm,BD,hxn];rfl
   ·rcases AD.mp hp with z|z
    ·exact r0 p z
    ·rw[Aj.mp z]
   ·rcases AD.mp hp with z|z
    ·exact frX p z
    ·rw[Aj.mp z];exact ⟨(s2.trans n9.same).free c1,(s2.trans n9.same).free c2⟩
  rintro σ H14 ⟨X,v6,v7,s14,B14,xk,nm,r0,frX,rfl⟩;rw[tn.length,AO] at nm;have hold:=Hold.names xk nm r0;have hR':∀ r∈RS,r.1∈NM.map (·.1)/\RLt r.2:=λr hr=>⟨(hR r hr).1,(hR r hr).2.lt⟩
  refine ⟨_,rfl,_,rfl,_,rfl,_,rfl,lrd,zs,rfl,SqL.of (s14 _ _ hrd),λlA H15 n15=>?_⟩;rw[qw2 zs M M2] at n15;refine ⟨b,lA,_,_,_,X,zs.take M,RS.take M,rfl,B14.same n15.same,xk,λp hp=>(hold.good nk (by simp)).sm p hp,n15.at_,RdNs.take M (RdNs.tupS (λz zs e=>n15.same _ _ (s14 _ _ e)) trd),λr hr=>⟨hold.memR (λr hr=>(hR' r (Cc hr)).1) r hr,(hR' r (Cc hr)).2⟩,λp hp=>?_,λX1 H16 B16 xk1 em1 er1 kp1=>?_⟩
  ·rw[r0 p hp,Au];simp;omega
  have hold1:=hold.put xk1 em1 er1;rw[Bx] at hold1;have s16:Same H11 H16:=λc o e=>kp1 _ _ (n15.same _ _ (s14 _ _ e)) λp hp=>⟨qag e (frX p hp).1,qag e (frX p hp).2⟩
  have tk12:(RS.take M).length<=40:=by rw[Au];omega
  have good1:=hold1.good nk tk12;refine ⟨_,rfl,_,rfl,_,rfl,_,_,rfl,rfl,_,rfl,far,2,rfl,by decide,by decide,λm2 _ _=>?_⟩;have k0:=AU m2 (show (5:Int)≠0 by decide);have k5:=AN m2 (show (0:Int)<5 by decide);have hb:=qAc (later-day) (m2 % 5) (by omega) k0 k5;refine ⟨_,_,rfl,rfl,by decide,_,_,rfl,rfl,⟨⟨by omega,by omega⟩,by omega,by omega⟩,_,_,rfl,rfl,by walk_at "c",_,_,rfl,rfl,qaz ?_⟩;obtain ⟨half,eh⟩:∃ half,half=day+(later-day)*(m2 % 5) / 5:=⟨_,rfl⟩;have hh:day<=half/\half<=later:=by omega
  refine qgk (σ':=[some (.ref a),some (.ref ls),some (gv g),some (.ref ru),some (.int day),some (.int dn),some (.ref lnm),some (.int far),some (.int later),some (.ref lrd),some (.int M),some (.ref b),v6,v7,some (.int half),none,none]) (by rw[eh];rfl) ?_;clear eh hb k0 k5;have hdh:Bd half:=⟨by have:=hd.1;omega,by have:=hd2.2;omega⟩;obtain ⟨fs,fg,U⟩:=qxv pb.P hd2 B16.ok.E B16.ok.F;refine ⟨_,rfl,_,rfl,b,_,_,_,X1,later,rfl,B16,good1,hd2,λz=>absurd z (by show ¬ later<day;omega),λ_=>⟨fs,fg,U,λb1 le1 dm1 dr1 Y1 H17 B17 yk1 mv1 fr1 s17 h1 h2 h3 h4=>qaz ?_⟩⟩;obtain ⟨rfl,rfl⟩:=qom pb.P hd2 dle (by rw[<- qgy];exact U);refine qgk (σ':=[some (.ref a),some (.ref ls),some (gv g),some (.ref ru),some (.int day),some (.int dn),some (.ref lnm),some (.int far),some (.int later),some (.ref lrd),some (.int M),some (.ref b),v6,v7,some (.int half),some (.ref b1),none]) rfl ?_;have holdA:=hold1.mv mv1 yk1;dsimp only;refine qC3 (λσ H'=>∃ (b2 le2 dm2 dr2:Addr) (Y2:qbf),Same H16 H'/\BkC C_Book C_Roll C_Rule H' b2 ⟨ru,rl,le2,dm2,dr2,ps,g,later⟩ (ps.map λp=>cut later p.1 p.2) (g.map λz=>cut later z (lw ps)) Y2/\Hold Y2 NM (RS.take M)/\(∀ p∈Y2,H16 p.2.2.1.dy=none/\H16 p.2.2.1.dh=none)/\H16 dm2=none/\H16 dr2=none/\σ=[some (.ref a),some (.ref ls),some (gv g),some (.ref ru),some (.int day),some (.int dn),some (.ref lnm),some (.int far),some (.int later),some (.ref lrd),some (.int M),some (.ref b),v6,v7,some (.int half),some (.ref b2),none]) (λN' hN'=>?_) ?_
  ·refine ⟨_,rfl,far,3,rfl,by decide,by decide,λm3 _ _=>⟨_,_,rfl,rfl,by decide,rfl,_,rfl,?_⟩⟩
   refine qjw (λz=>?_) λz=>hN' _ _ ⟨b1,le1,dm1,dr1,Y1,s17,B17,holdA,fr1,h3,h4,rfl⟩
   obtain ⟨fs2,fg2,U2⟩:=qxv pb.P hdh B16.ok.E B16.ok.F;refine ⟨_,rfl,_,rfl,b,_,_,_,X1,half,rfl,B16.same s17,good1,hdh,λz=>absurd z (by show ¬ half<day;omega),λ_=>⟨fs2,fg2,U2,λb3 le3 dm3 dr3 Y3 H18 B18 yk3 mv3 fr3 s18 _ _ j3 j4=>?_⟩⟩;obtain ⟨rfl,rfl⟩:=qom pb.P hdh hh.1 (by rw[<- qgy];exact U2);have hold3:=hold1.mv mv3 yk3;obtain ⟨fs4,fg4,U4⟩:=qxv pb.P hd2 B18.ok.E B18.ok.F;refine ⟨_,rfl,b3,_,_,_,Y3,later,rfl,B18,hold3.good nk tk12,hd2,λz=>absurd z (by show ¬ later<half;omega),λ_=>⟨fs4,fg4,U4,λb4 le4 dm4 dr4 Y4 H19 B19 yk4 mv4 fr4 s19 _ _ i3 i4=>qaz (hN' _ _ ⟨b4,le4,dm4,dr4,Y4,s17.trans (s18.trans s19),?_,hold3.mv mv4 yk4,λp hp=>⟨(s17.trans s18).free (fr4 p hp).1,(s17.trans s18).free (fr4 p hp).2⟩,(s17.trans s18).free i3,(s17.trans s18).free i4,rfl⟩)⟩⟩;obtain ⟨rfl,rfl⟩:=qom pb.P hd2 hh.2 (by rw[<- qgy];exact U4);exact B19
  clear U B17 holdA fr1 h1 h2 h3 h4 s17 mv1 yk1;rintro σ H17 ⟨b2,le2,dm2,dr2,Y2,s17,B17,hold2,fr2,h3,h4,rfl⟩;have s1117:=s16.trans s17;refine ⟨_,rfl,_,rfl,_,rfl,ls,xs,ps,g,later,rfl,s1117 _ _ hls,hp.same s1117,pb.P,hd2,λled H18 n18=>qaz ?_⟩;refine qgk (σ':=[some (.ref a),some (.ref ls),some (gv g),some (.ref ru),some (.int day),some (.int dn),some (.ref lnm),some (.int far),some (.int later),some (.ref lrd),some (.int M),some (.ref b),v6,v7,some (.int half),some (.ref b2),some (.ref led)]) rfl ?_;have he:=n18.at_;rw[<- qgy] at he;have hRt:∀ r∈RS.take M,r.1∈NM.map (·.1)/\RLt r.2:=λr hr=>hR' r (Cc hr)
  refine ⟨_,rfl,_,rfl,_,rfl,_,rfl,_,rfl,_,rfl,_,rfl,_,rfl,lrd,zs,rfl,SqL.of (n18.same _ _ (s1117 _ _ hrd)),λlB H19 n19=>?_⟩;rw[qw2 zs M M2] at n19;have s1119:=s1117.trans (n18.same.trans n19.same);refine ⟨b2,⟨ru,rl,le2,dm2,dr2,ps,g,later⟩,_,_,Y2,led,lnm,lB,ys,zs.take M,NM,RS.take M,rfl,B17.same (n18.same.trans n19.same),hold2.good nk tk12,n19.same _ _ he,s1119 _ _ hnm,tn.same s1119,nk,n19.at_,RdNs.take M (RdNs.tupS (λz zs e=>s1119 _ _ e) trd),hRt,tk12,hold2.rel _,λH20 s20=>⟨_,rfl,qf0 ?_⟩⟩;have s1720:=n18.same.trans (n19.same.trans s20);refine ⟨_,rfl,_,rfl,_,rfl,_,rfl,lrd,zs,rfl,SqL.of (s20 _ _ (s1119 _ _ hrd)),λlC H21 n21=>?_⟩;rw[qrs zs M M2] at n21;have s1121:=s1119.trans (s20.trans n21.same);have B21:=B17.same (s1720.trans n21.same);refine ⟨b2,lC,_,_,_,Y2,zs.drop M,RS.drop M,rfl,B21,hold2.ok,λp hp=>(hold2.good nk tk12).sm p hp,n21.at_,RdNs.drop M (RdNs.tupS (λz zs e=>s1121 _ _ e) trd),λr hr=>⟨hold2.memR (λr hr=>(hR' r (BJ hr)).1) r hr,(hR' r (BJ hr)).2⟩,λp hp=>?_,λY3 H22 B22 yk3 em3 er3 kp3=>?_⟩
  ·obtain ⟨_,_,_,e⟩:=hold2.en p hp
   have:=qfv (RS.take M) p.1;rw[Au] at this;rw[e,BN];omega
  have hold3:=hold2.put yk3 em3 er3;rw[E6] at hold3;have s22:Same H16 H22:=λc o e=>kp3 _ _ (n21.same _ _ (s1720 _ _ (s17 _ _ e))) λp hp=>⟨qag e (fr2 p hp).1,qag e (fr2 p hp).2⟩
  have s1122:=s16.trans s22;have he21:=n21.same _ _ (s20 _ _ (n19.same _ _ he));have he22:=kp3 _ _ he21 λp hp=>by
   obtain ⟨⟨Y,hY⟩,⟨Z,hZ⟩⟩:=B21.dicts (x:=p.1) (e:=p.2) hp;exact ⟨qa0 he21 hY (by intro z;cases z),qa0 he21 hZ (by intro z;cases z)⟩
  refine ⟨_,rfl,_,rfl,_,rfl,_,rfl,_,rfl,_,rfl,ls,xs,ps,g,day,rfl,s1122 _ _ hls,hp.same s1122,pb.P,hd,λle23 H23 n23=>?_⟩;refine ⟨_,rfl,_,rfl,_,rfl,_,rfl,lrd,zs,rfl,SqL.of (n23.same _ _ (s1122 _ _ hrd)),λlD H24 n24=>?_⟩;rw[qw2 zs M M2] at n24;have he3:=n23.at_;rw[<- qgy] at he3;have s2224:=n23.same.trans n24.same;have s1124:=s1122.trans s2224;refine ⟨b,⟨ru,rl,le,dm,dr,ps,g,day⟩,_,_,X1,le23,lnm,lD,ys,zs.take M,NM,RS.take M,rfl,B16.same (s22.trans s2224),good1,n24.same _ _ he3,s1124 _ _ hnm,tn.same s1124,nk,n24.at_,RdNs.take M (RdNs.tupS (λz zs e=>s1124 _ _ e) trd),hRt,tk12,hold1.rel _,λH25 s25=>⟨_,rfl,qf0 ?_⟩⟩;have B25:=B16.same (s22.trans (s2224.trans s25));have C25:=B22.same (s2224.trans s25);refine ⟨_,rfl,_,rfl,_,rfl,_,rfl,lrd,zs,rfl,SqL.of (s25 _ _ (s1124 _ _ hrd)),λlE H26 n26=>?_⟩;rw[qrs zs M M2] at n26;have s1126:=s1124.trans (s25.trans n26.same);have B26:=B25.same n26.same;have C26:=C25.same n26.same;refine ⟨b,lE,_,_,_,X1,zs.drop M,RS.drop M,rfl,B26,hold1.ok,λp hp=>good1.sm p hp,n26.at_,RdNs.drop M (RdNs.tupS (λz zs e=>s1126 _ _ e) trd),λr hr=>⟨hold1.memR (λr hr=>(hR' r (BJ hr)).1) r hr,(hR' r (BJ hr)).2⟩,λp hp=>?_,λX2 H27 B27 xk2 em2 er2 kp2=>?_⟩
  ·obtain ⟨_,_,_,e⟩:=hold1.en p hp
   have:=qfv (RS.take M) p.1;rw[Au] at this;rw[e,BN];omega
  have hold4:=hold1.put xk2 em2 er2;rw[E6] at hold4;have kn:∀ c o,H26 c=some o->(∀ Y,o≠HO.dT Y)->H27 c=some o:=λc o e n=>kp2 _ _ e λp hp=>by
   obtain ⟨⟨Y,hY⟩,⟨Z,hZ⟩⟩:=B26.dicts (x:=p.1) (e:=p.2) hp;exact ⟨qa0 e hY (n Y),qa0 e hZ (n Z)⟩
  have he27:=kn _ _ (n26.same _ _ (s25 _ _ (s2224 _ _ he22))) (by intro Y z;cases z);have hnm27:=kn _ _ (s1126 _ _ hnm) (by intro Y z;cases z);have hrd27:=kn _ _ (s1126 _ _ hrd) (by intro Y z;cases z);have tn27:=NmsAt.up kn (tn.same s1126);have trd27:=RdNs.tupS (λz zs e=>kn _ _ (s1126 _ _ e) (by intro Y z;cases z)) trd;have C27:BkC C_Book C_Roll C_Rule H27 b2 ⟨ru,rl,le2,dm2,dr2,ps,g,later⟩ (ps.map λp=>cut later p.1 p.2) (g.map λz=>cut later z (lw ps)) Y3:=by
   refine BkC.frames (X1.map (·.2.2.1)) C26 (λc o e n=>kp2 c o e λp hp=>n _ (Af.mpr ⟨p,hp,rfl⟩)) (λq hq=>?_) λy e he q hq=>?_
   ·obtain ⟨p,hp,rfl⟩:=Af.mp hq
    exact B26.dicts (x:=p.1) (e:=p.2) hp
   ·obtain ⟨p,hp,rfl⟩:=Af.mp hq
    obtain ⟨⟨Y,hY⟩,⟨Z,hZ⟩⟩:=B16.dicts (x:=p.1) (e:=p.2) hp;obtain ⟨q0,h0,e0⟩:=qAd em3 he;have f:=fr2 q0 h0;rw[e0] at f;exact ⟨(qag hY f.1).symm,(qag hZ f.1).symm,(qag hY f.2).symm,(qag hZ f.2).symm⟩
  have rs40:RS.length<=40:=by omega
  have good4:=hold4.good nk rs40;refine ⟨_,rfl,_,rfl,_,rfl,_,rfl,_,rfl,_,rfl,b2,⟨ru,rl,le2,dm2,dr2,ps,g,later⟩,_,_,Y3,led,lnm,lrd,ys,zs,NM,RS,rfl,C27,hold3.good nk rs40,he27,hnm27,tn27,nk,hrd27,trd27,hR',rs40,hold3.rel _,λH28 s28=>⟨_,rfl,qf0 ?_⟩⟩;have B28:=B27.same s28;obtain ⟨fs5,fg5,U5⟩:=qxv pb.P hd2 B28.ok.E B28.ok.F;refine ⟨_,rfl,_,rfl,b,_,_,_,X2,later,rfl,B28,good4,hd2,λz=>absurd z (by show ¬ later<day;omega),λ_=>⟨fs5,fg5,U5,λb5 le5 dm5 dr5 Y5 H29 B29 yk5 mv5 fr5 s29 _ _ k3 k4=>?_⟩⟩;obtain ⟨rfl,rfl⟩:=qom pb.P hd2 dle (by rw[<- qgy];exact U5);have hold5:=hold4.mv mv5 yk5;have s2729:=s28.trans s29;refine ⟨_,rfl,_,rfl,_,rfl,_,rfl,_,rfl,b5,⟨ru,rl,le5,dm5,dr5,ps,g,later⟩,_,_,Y5,led,lnm,lrd,ys,zs,NM,RS,rfl,B29,hold5.good nk rs40,s2729 _ _ he27,s2729 _ _ hnm27,tn27.same s2729,nk,s2729 _ _ hrd27,RdNs.tupS (λz zs e=>s2729 _ _ e) trd27,hR',rs40,hold5.rel _,λH30 s30=>⟨_,rfl,qf0 ?_⟩⟩;have s2730:=s2729.trans s30;have B30:=B27.same s2730;have f0:=AU far (show (10:Int) ^ Int.toNat 20≠0 by decide);have f20:=AN far (show (0:Int)<10 ^ Int.toNat 20 by decide);have e20:(10:Int) ^ Int.toNat 20=10 ^ 20:=rfl;refine ⟨_,rfl,_,rfl,_,_,rfl,rfl,_,rfl,_,_,rfl,rfl,by walk_at "c",_,_,rfl,rfl,by walk_at "c",_,_,rfl,rfl,b,⟨ru,rl,le,dm,dr,ps,g,day⟩,_,_,X2,_,rfl,B30,good4,⟨by omega,by omega⟩,(by show _<day;omega),λH31 s31=>⟨_,rfl,qf0 ?_⟩⟩;have B31:=B30.same s31;obtain ⟨fs6,fg6,U6⟩:=qxv pb.P hd B31.ok.E B31.ok.F;refine ⟨_,rfl,_,rfl,b,_,_,_,X2,day,rfl,B31,good4,hd,λz=>absurd z (by show ¬ day<day;omega),λ_=>⟨fs6,fg6,U6,λb6 le6 dm6 dr6 Y6 H32 B32 _ _ _ s32 _ _ _ _=>?_⟩⟩;obtain ⟨dx6,hob6⟩:=B32.ob;refine ⟨b6,dx6,_,rfl,hob6,no _ (by decide +kernel) (by decide +kernel) (by decide +kernel) (by decide +kernel) (by decide +kernel),b6,_,_,_,Y6,rfl,B32,_,rfl,rfl,_,rfl,?_⟩;rw[AF rfl];refine qf0 ?_;have s2732:=s2730.trans (s31.trans s32);have B33:=B27.same s2732;have C33:=C27.same s2732;obtain ⟨fs7,fg7,U7⟩:=qxv pb.P hd2 B33.ok.E B33.ok.F;refine ⟨_,rfl,_,rfl,_,rfl,_,rfl,b,_,_,_,X2,later,rfl,B33,good4,hd2,λz=>absurd z (by show ¬ later<day;omega),λ_=>⟨fs7,fg7,U7,λb7 le7 dm7 dr7 Y7 H34 B34 yk7 mv7 fr7 s34 _ _ m3 m4=>⟨qfw (by simp),λlb H35 n35=>?_⟩⟩⟩;refine ⟨_,rfl,_,_,rfl,λH36 s36 sw=>?_⟩;have hold7:=hold4.mv mv7 yk7;have s3536:=n35.same.trans s36;have a01:=B16.newD (B2:=⟨ru,rl,le2,dm2,dr2,ps,g,later⟩) h3 h4;have a02:=B33.newD (B2:=⟨ru,rl,le7,dm7,dr7,ps,g,later⟩) m3 m4;have a12:=C33.newD (B2:=⟨ru,rl,le7,dm7,dr7,ps,g,later⟩) m3 m4;have n9:=nc.no9 (show N<=9 by omega);have ok3:∀ {X:qbf},Hold X NM RS->X.length<=20/\(∀ p∈X,qa6 12 p.1)/\nmF dn 9 ∉ X.map (·.1):=fun {X} h=>⟨(by have:=h.nm.length_eq;rw[Ad,Ad] at this;omega),(h.good nk rs40).sm,h.strange n9⟩
  refine ⟨lb,nmF dn 9,fA b b2 b7,f3 ⟨ru,rl,le,dm,dr,ps,g,day⟩ ⟨ru,rl,le2,dm2,dr2,ps,g,later⟩ ⟨ru,rl,le7,dm7,dr7,ps,g,later⟩,f3 _ _ _,f3 _ _ _,f3 X2 Y3 Y7,rfl,s36 _ _ n35.at_,⟨qDa (B33.same (s34.trans s3536)) (C33.same (s34.trans s3536)) (B34.same s3536)⟩,qDb (P:=λX=>X.length<=20/\(∀ p∈X,qa6 12 p.1)/\nmF dn 9 ∉ X.map (·.1)) (ok3 hold4) (ok3 hold3) (ok3 hold7),sw,qDc a01 a02 a12,k⟩
end
theorem walk {l:PySem.W.OpenLaw} {q:Program} {loose:List Str} {XP:(Str->Option Value)->Heap->Prop} {YP:World->Heap->Prop} {d:DefRec} {K:Params->Frag} (hn:l.most=some 63) (hdf:d.params.defaults=[]) (hdn:d.name = "law")
  (hY:∀ (w:World) (h:Heap),YP w h->(K w.params).In h)
  (F:∀ (w:World) (mg:Str->Option Value) (h:Heap),(K w.params).In h->h.Ns mainGlobals mg->∃ C_Roll C_Rule C_Book C_BookError C_NoNumber C_NoRule C_Backward C_NoName C_NoMark,Txt (K w.params) mg C_Roll C_Rule C_Book C_BookError C_NoNumber C_NoRule C_Backward C_NoName C_NoMark) :
  PySem.W.WalkO q loose XP YP l.row.toRowW d [] (λf vs=>PySem.call f vs):=by
 refine L2.qvv (n:=63) (k:=12) (x:= "_law_script") (CX:=λ_=>CX0) (sp:=λw=>quv (K w.params)) hn (by decide) hdf ⟨rfl,by decide,by decide⟩ hY (λw mg fa h kin ns hm=>?_) (λ_ _ a ns hl _ hS=>⟨a,ns,rfl,hS,hl,λ_=>rfl⟩) λ_ _ _ _ _ z=>z
 obtain ⟨C_Roll,C_Rule,C_Book,C_BookError,C_NoNumber,C_NoRule,C_Backward,C_NoName,C_NoMark,T⟩:=F w mg h kin ns;obtain ⟨f,fd,Fu,hm'⟩:=T.f_law;rw[hdn,hm'] at hm;cases hm;refine ⟨fd,?_,λbase kb nb=>qBz T Fu⟩;obtain ⟨oc,od,kV,doc,pm,an,cdv,ct,osl,rfl,lk,hcd⟩:=Fu.ex;exact λs u=>.of_eq rfl
end TB
namespace PySem.W.Fast
theorem tw10710403991863288288:True:=⟨⟩
theorem tw2401728680803875002:True:=⟨⟩
theorem tw9238892656729082611:True:=⟨⟩
theorem tw13106152048647830614:True:=⟨⟩
theorem tw2692156362779526478:True:=⟨⟩
theorem tw17744574335722086681:True:=⟨⟩
theorem tw18357452350977405087:True:=⟨⟩
theorem tw11549753183178972963:True:=⟨⟩
theorem tw13878223890770752971:True:=⟨⟩
theorem tw16901862115715858621:True:=⟨⟩
theorem tw13706970489144593954:True:=⟨⟩
theorem tw616022788215734879:True:=⟨⟩
theorem tw14920058475090462172:True:=⟨⟩
theorem tw11623229728939370490:True:=⟨⟩
theorem tw12805626457727451220:True:=⟨⟩
theorem tw13207729157662682342:True:=⟨⟩
theorem tw11493895967666674834:True:=⟨⟩
theorem tw12780587393445440317:True:=⟨⟩
theorem tw7646163445059732803:True:=⟨⟩
theorem tw12169307290043614435:True:=⟨⟩
theorem tw16397058749592435594:True:=⟨⟩
theorem tw16026040702361627141:True:=⟨⟩
theorem tw5513922783477277390:True:=⟨⟩
theorem tw6506443020846105741:True:=⟨⟩
theorem tw6822129195052814621:True:=⟨⟩
theorem tw1232822892483776022:True:=⟨⟩
theorem tw8723501008394438362:True:=⟨⟩
theorem tw17277757369212717929:True:=⟨⟩
theorem tw5765619724061401047:True:=⟨⟩
theorem tw17939363003771727238:True:=⟨⟩
theorem tw7878159969694238732:True:=⟨⟩
theorem tw17616558429559681876:True:=⟨⟩
theorem tw4871572937714720177:True:=⟨⟩
theorem tw16369174046954631260:True:=⟨⟩
theorem tw1699787492121192862:True:=⟨⟩
theorem tw17472418374044300571:True:=⟨⟩
theorem tw16106045714750647966:True:=⟨⟩
theorem tw16702171097282622702:True:=⟨⟩
theorem tw5403020983449179600:True:=⟨⟩
theorem tw2667042809488278982:True:=⟨⟩
theorem tw16161366887930872488:True:=⟨⟩
theorem tw1090643648265613568:True:=⟨⟩
theorem tw5540066281423353480:True:=⟨⟩
theorem tw9691715709713686742:True:=⟨⟩
theorem tw10131958599461165256:True:=⟨⟩
theorem tw11590725359263580752:True:=⟨⟩
theorem tw3121005293113208994:True:=⟨⟩
theorem tw7081030834508441029:True:=⟨⟩
theorem tw11033070170489551284:True:=⟨⟩
theorem tw730752801406094978:True:=⟨⟩
theorem tw6763700469827958644:True:=⟨⟩
theorem tw4662530534602626598:True:=⟨⟩
theorem tw426215881082691648:True:=⟨⟩
theorem tw5690516419617181503:True:=⟨⟩
theorem tw17894706620154466941:True:=⟨⟩
theorem tw8672517709918571728:True:=⟨⟩
theorem tw13032020315276635361:True:=⟨⟩
theorem tw1012478422547524189:True:=⟨⟩
theorem tw8468705460095820873:True:=⟨⟩
theorem tw15864875186693971720:True:=⟨⟩
theorem tw12698884946429497218:True:=⟨⟩
theorem tw7995341349497945305:True:=⟨⟩
theorem tw9289997917482458104:True:=⟨⟩
theorem tw15357434238266645048:True:=⟨⟩
theorem tw12534439948900517148:True:=⟨⟩
theorem tw8853870196184439349:True:=⟨⟩
theorem tw16434334867936099877:True:=⟨⟩
theorem tw11936804764031231572:True:=⟨⟩
theorem tw16304123541717104183:True:=⟨⟩
theorem tw7435377258738320164:True:=⟨⟩
theorem tw13154617815124303971:True:=⟨⟩
theorem tw5843470213897098318:True:=⟨⟩
theorem tw11763589983678166671:True:=⟨⟩
theorem tw12964737996754905488:True:=⟨⟩
theorem tw13888415547267483633:True:=⟨⟩
theorem tw5769670530677249829:True:=⟨⟩
theorem tw4475997113300198349:True:=⟨⟩
theorem tw1083416658318334470:True:=⟨⟩
theorem tw9189977969130073280:True:=⟨⟩
theorem tw12246878578956575301:True:=⟨⟩
theorem tw11950866269625364431:True:=⟨⟩
theorem tw17092338570835921802:True:=⟨⟩
theorem tw17946648179248818714:True:=⟨⟩
theorem tw13575338822789537960:True:=⟨⟩
theorem tw13085469348026613721:True:=⟨⟩
theorem tw16379295097205637907:True:=⟨⟩
theorem tw13634969222048355391:True:=⟨⟩
theorem tw12366268498203441795:True:=⟨⟩
theorem tw5193277119635240524:True:=⟨⟩
theorem tw15567554491488636725:True:=⟨⟩
theorem tw1938336640240184081:True:=⟨⟩
theorem tw5115749920208815:True:=⟨⟩
theorem tw7022249034901662556:True:=⟨⟩
theorem tw4369748105460174024:True:=⟨⟩
theorem tw11066359426795456856:True:=⟨⟩
theorem tw11655898642101197132:True:=⟨⟩
theorem tw7418256712130088794:True:=⟨⟩
theorem tw7509437294422218607:True:=⟨⟩
theorem tw2761867936584363036:True:=⟨⟩
theorem tw5231834831888239677:True:=⟨⟩
theorem tw8409908011388765774:True:=⟨⟩
theorem tw12961352619185949011:True:=⟨⟩
theorem tw9577855052802226554:True:=⟨⟩
theorem tw6206656750526406841:True:=⟨⟩
theorem tw5426934991022769562:True:=⟨⟩
theorem tw12372590651252630493:True:=⟨⟩
theorem tw958366655272545468:True:=⟨⟩
theorem tw3592312041670531458:True:=⟨⟩
theorem tw201888770222700094:True:=⟨⟩
theorem tw12178705218883133775:True:=⟨⟩
theorem tw6580589712034658584:True:=⟨⟩
theorem tw10416451395615931906:True:=⟨⟩
theorem tw17305792018073318478:True:=⟨⟩
theorem tw14735910412555861407:True:=⟨⟩
theorem tw6729056504148873645:True:=⟨⟩
theorem tw12795644504517086872:True:=⟨⟩
theorem tw4604995703999170555:True:=⟨⟩
theorem tw5344754932461808470:True:=⟨⟩
theorem tw2785643548004594095:True:=⟨⟩
theorem tw16488904617590133701:True:=⟨⟩
theorem tw1154411138308333374:True:=⟨⟩
theorem tw661490043230745736:True:=⟨⟩
theorem tw7112897884176180796:True:=⟨⟩
theorem tw18310744826510960487:True:=⟨⟩
theorem tw12837349663261653214:True:=⟨⟩
theorem tw15005781531056285248:True:=⟨⟩
theorem tw661729258729089598:True:=⟨⟩
theorem tw15701135864408142291:True:=⟨⟩
theorem tw3438010864295990481:True:=⟨⟩
theorem tw7863112828983710953:True:=⟨⟩
theorem tw8185731618588264252:True:=⟨⟩
theorem tw9980522047963987061:True:=⟨⟩
theorem tw8848674304469794642:True:=⟨⟩
theorem tw10843391885880228014:True:=⟨⟩
theorem tw4078555413999525860:True:=⟨⟩
theorem tw5214264546564105041:True:=⟨⟩
theorem tw9414051715910388869:True:=⟨⟩
theorem tw17384272205944112514:True:=⟨⟩
theorem tw9370322954534621552:True:=⟨⟩
theorem tw10271505446104781592:True:=⟨⟩
theorem tw4202295357468404776:True:=⟨⟩
theorem tw11887226672922841172:True:=⟨⟩
theorem tw4865183637470079116:True:=⟨⟩
theorem tw14448175371797037393:True:=⟨⟩
theorem tw8896859230894835198:True:=⟨⟩
theorem tw9099147408208557578:True:=⟨⟩
theorem tw9610727535888645832:True:=⟨⟩
theorem tw13804769795640955708:True:=⟨⟩
theorem tw4127854495131249469:True:=⟨⟩
theorem tw13233705322965523705:True:=⟨⟩
theorem tw2884850115485621856:True:=⟨⟩
theorem tw4276560244111993790:True:=⟨⟩
theorem tw18055477175118616027:True:=⟨⟩
theorem tw9940678319545382249:True:=⟨⟩
theorem tw803914766303636473:True:=⟨⟩
theorem tw630799452312099566:True:=⟨⟩
theorem tw11740612955800761196:True:=⟨⟩
theorem tw3030791724726096174:True:=⟨⟩
theorem tw817489128969930796:True:=⟨⟩
theorem tw1441941932179597719:True:=⟨⟩
theorem tw5528364511730041236:True:=⟨⟩
theorem tw3747979982827946010:True:=⟨⟩
theorem tw5254581287231493870:True:=⟨⟩
theorem tw1176927490524089947:True:=⟨⟩
theorem tw14421859287348267054:True:=⟨⟩
theorem tw5724835338585284867:True:=⟨⟩
theorem tw3442139629571931975:True:=⟨⟩
theorem tw3270346763134809223:True:=⟨⟩
theorem tw11100909388636262903:True:=⟨⟩
theorem tw7418845830217454342:True:=⟨⟩
theorem tw16871445439120706171:True:=⟨⟩
theorem tw12942652348829539035:True:=⟨⟩
theorem tw11239476376159459302:True:=⟨⟩
theorem tw1123284049920970890:True:=⟨⟩
theorem tw651742719733098944:True:=⟨⟩
theorem tw12434618365160759718:True:=⟨⟩
theorem tw15907395744714023155:True:=⟨⟩
theorem tw13493851442035879876:True:=⟨⟩
theorem tw7709350922430900025:True:=⟨⟩
theorem tw11075014304870253534:True:=⟨⟩
theorem tw982054179336756631:True:=⟨⟩
theorem tw9550842932353843855:True:=⟨⟩
theorem tw12730093233848856733:True:=⟨⟩
theorem tw3268949327069652308:True:=⟨⟩
theorem tw16434752681175848456:True:=⟨⟩
theorem tw10993867085803710539:True:=⟨⟩
theorem tw18412619341001606131:True:=⟨⟩
theorem tw18023093490376952986:True:=⟨⟩
theorem tw2065697352831411033:True:=⟨⟩
theorem tw16086166608156863886:True:=⟨⟩
theorem tw11341814282023311937:True:=⟨⟩
theorem tw10795298148414306332:True:=⟨⟩
theorem tw7527244977537753026:True:=⟨⟩
theorem tw599768367405334907:True:=⟨⟩
theorem tw1837736884657359219:True:=⟨⟩
theorem tw17409221775216432129:True:=⟨⟩
theorem tw18130606939130349802:True:=⟨⟩
theorem tw10302987775929843679:True:=⟨⟩
theorem tw16016049443463817439:True:=⟨⟩
theorem tw17826619531988371577:True:=⟨⟩
theorem tw18288728067893600163:True:=⟨⟩
theorem tw9604713615166100965:True:=⟨⟩
theorem tw7029117834770406115:True:=⟨⟩
theorem tw16115033650191522047:True:=⟨⟩
theorem tw4699719955489782012:True:=⟨⟩
theorem tw14229207070991682057:True:=⟨⟩
theorem tw18371237621632985807:True:=⟨⟩
theorem tw14354710012383038206:True:=⟨⟩
theorem tw13330885159473259833:True:=⟨⟩
theorem tw13269633082250545110:True:=⟨⟩
theorem tw4327059200307943575:True:=⟨⟩
theorem tw6391193710521594963:True:=⟨⟩
theorem tw3420501267706986230:True:=⟨⟩
theorem tw1275344666388159143:True:=⟨⟩
theorem tw10247019473343366581:True:=⟨⟩
theorem tw408872932727201432:True:=⟨⟩
theorem tw16359631729862291482:True:=⟨⟩
theorem tw16083121103746133226:True:=⟨⟩
theorem tw14873283706076613053:True:=⟨⟩
theorem tw2368963588465092515:True:=⟨⟩
theorem tw3498974511211613318:True:=⟨⟩
theorem tw15779313370392681221:True:=⟨⟩
theorem tw6366561475553935172:True:=⟨⟩
theorem tw12088230651197284020:True:=⟨⟩
theorem tw17497847565214323090:True:=⟨⟩
theorem tw6590860822399029281:True:=⟨⟩
theorem tw973409370588967193:True:=⟨⟩
theorem tw3141049648331880039:True:=⟨⟩
theorem tw16784766503096628343:True:=⟨⟩
theorem tw8855525439259692114:True:=⟨⟩
theorem tw3122879820231259351:True:=⟨⟩
theorem tw12702957973769545575:True:=⟨⟩
theorem tw5546135969955992626:True:=⟨⟩
theorem tw14711706154251947729:True:=⟨⟩
theorem tw8403343497493404532:True:=⟨⟩
theorem tw16085849716589298934:True:=⟨⟩
theorem tw10469520243712527887:True:=⟨⟩
theorem tw9632873256952695215:True:=⟨⟩
theorem tw10652923603810373998:True:=⟨⟩
theorem tw792856553786732536:True:=⟨⟩
theorem tw14522497616415337738:True:=⟨⟩
theorem tw18205446923495117294:True:=⟨⟩
theorem tw9858440398732683001:True:=⟨⟩
theorem tw3973257313079532683:True:=⟨⟩
theorem tw9818609139025480502:True:=⟨⟩
theorem tw2794025344475661256:True:=⟨⟩
theorem tw2042100113242334102:True:=⟨⟩
theorem tw16400990784656131814:True:=⟨⟩
theorem tw16780012567993363251:True:=⟨⟩
theorem tw16712393310270468352:True:=⟨⟩
theorem tw12253949008057574176:True:=⟨⟩
theorem tw10472327088875605230:True:=⟨⟩
theorem tw10328165823481483712:True:=⟨⟩
theorem tw13449237644677815438:True:=⟨⟩
theorem tw15264449030875194087:True:=⟨⟩
theorem tw15814826305916263265:True:=⟨⟩
theorem tw15423439949081620799:True:=⟨⟩
theorem tw9503984708455445323:True:=⟨⟩
theorem tw7812153268066556138:True:=⟨⟩
theorem tw18159360959480473437:True:=⟨⟩
theorem tw6734309374068149028:True:=⟨⟩
theorem tw8797090923817197571:True:=⟨⟩
theorem tw16116807416576955737:True:=⟨⟩
theorem tw12387250541644410635:True:=⟨⟩
theorem tw2884138752298224047:True:=⟨⟩
theorem tw1991562415179849750:True:=⟨⟩
theorem tw11515051591139575339:True:=⟨⟩
theorem tw11394612725972249880:True:=⟨⟩
theorem tw3723830342227743400:True:=⟨⟩
theorem tw18416103092945379156:True:=⟨⟩
theorem tw10253638059146963086:True:=⟨⟩
theorem tw8091970974468304036:True:=⟨⟩
theorem tw3460221362375160141:True:=⟨⟩
theorem tw12271834430632505309:True:=⟨⟩
theorem tw4295208913404129280:True:=⟨⟩
theorem tw10349989885397189390:True:=⟨⟩
theorem tw508881136444354812:True:=⟨⟩
theorem tw2199923210891038042:True:=⟨⟩
theorem tw10460721382351294914:True:=⟨⟩
theorem tw6399534763822322652:True:=⟨⟩
theorem tw12942702092971946919:True:=⟨⟩
theorem tw10185278419880174732:True:=⟨⟩
theorem tw8013568569277137585:True:=⟨⟩
theorem tw4716686542149297179:True:=⟨⟩
theorem tw5759423104037518232:True:=⟨⟩
theorem tw4603031785108981451:True:=⟨⟩
theorem tw3783378292880392554:True:=⟨⟩
theorem tw15054873794152278900:True:=⟨⟩
theorem tw18097141671492524409:True:=⟨⟩
theorem tw18000743726937213135:True:=⟨⟩
theorem tw16966783785348443283:True:=⟨⟩
theorem tw15393181233905379867:True:=⟨⟩
theorem tw6565574611219711165:True:=⟨⟩
theorem tw14286416488676643671:True:=⟨⟩
theorem tw7900012734299337547:True:=⟨⟩
theorem tw328114913670264874:True:=⟨⟩
theorem tw15000927421725393657:True:=⟨⟩
theorem tw12977844239296856672:True:=⟨⟩
theorem tw12967384105556738162:True:=⟨⟩
theorem tw6172301068685783632:True:=⟨⟩
theorem tw3374665263995349841:True:=⟨⟩
theorem tw1941422903143190567:True:=⟨⟩
theorem tw17670275035304713706:True:=⟨⟩
theorem tw2130972968584170934:True:=⟨⟩
theorem tw13990553437881510550:True:=⟨⟩
theorem tw17914302204329918051:True:=⟨⟩
theorem tw10985920537795031514:True:=⟨⟩
theorem tw1166225338868679239:True:=⟨⟩
theorem tw3692521117250230233:True:=⟨⟩
theorem tw15070600292557812478:True:=⟨⟩
theorem tw12469862683666199270:True:=⟨⟩
theorem tw12047302850233209161:True:=⟨⟩
theorem tw11515698504025985315:True:=⟨⟩
theorem tw5592562225740487005:True:=⟨⟩
theorem tw3265046799019036152:True:=⟨⟩
theorem tw16929459634767820404:True:=⟨⟩
theorem tw9897444455299759636:True:=⟨⟩
theorem tw654970341281252561:True:=⟨⟩
theorem tw18096014786207207015:True:=⟨⟩
theorem tw16445161411572535554:True:=⟨⟩
theorem tw11932757575220366812:True:=⟨⟩
theorem tw3847601689848641657:True:=⟨⟩
theorem tw15571188478753005187:True:=⟨⟩
theorem tw13345409381565751951:True:=⟨⟩
theorem tw11489074242710228876:True:=⟨⟩
theorem tw11229460767031568591:True:=⟨⟩
theorem tw14665181493367771360:True:=⟨⟩
theorem tw759358012022947813:True:=⟨⟩
theorem tw6290594327923254183:True:=⟨⟩
theorem tw17125824981028980785:True:=⟨⟩
theorem tw661655472379545559:True:=⟨⟩
theorem tw3972426035521898053:True:=⟨⟩
theorem tw10678056750365969894:True:=⟨⟩
theorem tw4513654682725421454:True:=⟨⟩
theorem tw11592971320490531816:True:=⟨⟩
theorem tw15139909042056710794:True:=⟨⟩
theorem tw756423291112416082:True:=⟨⟩
theorem tw14854353678526364776:True:=⟨⟩
theorem tw10452027009395623932:True:=⟨⟩
theorem tw17459778804610951929:True:=⟨⟩
theorem tw10138086390169651496:True:=⟨⟩
theorem tw9330042140204195086:True:=⟨⟩
theorem tw14218561742802427311:True:=⟨⟩
theorem tw1041347683745116978:True:=⟨⟩
theorem tw658508109262964823:True:=⟨⟩
theorem tw12176983824902385060:True:=⟨⟩
theorem tw7666723996913939460:True:=⟨⟩
theorem tw7100275747253306245:True:=⟨⟩
theorem tw16188120549212494488:True:=⟨⟩
theorem tw14592167470393711277:True:=⟨⟩
theorem tw15828589621034991517:True:=⟨⟩
theorem tw9184364131943064204:True:=⟨⟩
theorem tw15732994634881466175:True:=⟨⟩
theorem tw15106129825867688832:True:=⟨⟩
theorem tw9292401482262078697:True:=⟨⟩
theorem tw5725926773063625795:True:=⟨⟩
theorem tw14695094743261929966:True:=⟨⟩
theorem tw11112200925242387357:True:=⟨⟩
theorem tw1090925884292757373:True:=⟨⟩
theorem tw5066424616333020565:True:=⟨⟩
theorem tw14005247021686424578:True:=⟨⟩
theorem tw2706552292651703098:True:=⟨⟩
theorem tw7761725906646257783:True:=⟨⟩
theorem tw17685779787956122157:True:=⟨⟩
theorem tw5292769764652649551:True:=⟨⟩
theorem tw1220878329208256291:True:=⟨⟩
theorem tw5103593139154609220:True:=⟨⟩
theorem tw15525718685974098287:True:=⟨⟩
theorem tw1420666868993638998:True:=⟨⟩
theorem tw11591367631813037106:True:=⟨⟩
theorem tw12579043198163395105:True:=⟨⟩
theorem tw10281084649842607690:True:=⟨⟩
theorem tw9321585664435028770:True:=⟨⟩
theorem tw13230390558759449463:True:=⟨⟩
theorem tw8420175888426702650:True:=⟨⟩
theorem tw13794027474901915389:True:=⟨⟩
theorem tw8589450389964952906:True:=⟨⟩
theorem tw17543108099739805611:True:=⟨⟩
theorem tw10293611268752207541:True:=⟨⟩
theorem tw4700836641097489995:True:=⟨⟩
theorem tw13012098183068374236:True:=⟨⟩
theorem tw5649455226867778208:True:=⟨⟩
theorem tw1393938400370134986:True:=⟨⟩
theorem tw9270163017746335954:True:=⟨⟩
theorem tw12693719455370166430:True:=⟨⟩
theorem tw13426109338951138299:True:=⟨⟩
theorem tw4560250907137348245:True:=⟨⟩
theorem tw9989935875048807375:True:=⟨⟩
theorem tw7291970764429545014:True:=⟨⟩
theorem tw5989979232133025444:True:=⟨⟩
theorem tw14160514797861621092:True:=⟨⟩
theorem tw18082098468326769507:True:=⟨⟩
theorem tw12992911010920412267:True:=⟨⟩
theorem tw12791805849850014484:True:=⟨⟩
theorem tw15072025716439389465:True:=⟨⟩
theorem tw3676226607915477756:True:=⟨⟩
theorem tw15602381656103971966:True:=⟨⟩
theorem tw5457634653378944717:True:=⟨⟩
theorem tw882169020558963238:True:=⟨⟩
theorem tw8309912919754839145:True:=⟨⟩
end PySem.W.Fast
open PySem PySem.W PyProof.Rows
set_option maxRecDepth 100000 in
set_option maxHeartbeats 0 in
theorem PySem.Challenge.cw_thinbook_k71_a_book_aged_holds : PySem.Challenge.rw_thinbook_k71_a_book_aged.Holds := by
 w_on;o_law;k_head;(case hw=>w_witness2)
 k_fill
 refine TB.walk (l:=PySem.Challenge.rw_thinbook_k71_a_book_aged) rfl rfl rfl (λw h Y=>PySem.W.kIn_of Y) ?F
 case F =>
  intro w mg h KX G;refine' TB.qzw KX G ?aCRoll ?aCRule ?aCBook ?xCBackward ?a0 ?l0 ?c0 ?k0 ?a1 ?l1 ?c1 ?k1 ?a2 ?l2 ?c2 ?k2 ?a3 ?l3 ?c3 ?k3 ?a4 ?l4 ?c4 ?k4 ?a5 ?l5 ?c5 ?k5 ?a6 ?l6 ?c6 ?k6 ?a7 ?l7 ?c7 ?k7 ?a8 ?l8 ?c8 ?k8 ?a9 ?l9 ?c9 ?k9 ?a10 ?l10 ?c10 ?k10 ?a11 ?i11 ?l11 ?c11 ?k11 ?a12 ?i12 ?l12 ?c12 ?k12 ?d12 ?a13 ?i13 ?l13 ?c13 ?k13 ?a14 ?i14 ?l14 ?c14 ?k14 ?a15 ?i15 ?l15 ?c15 ?k15 ?a16 ?i16 ?l16 ?c16 ?k16 ?a17 ?i17 ?l17 ?c17 ?k17 ?a18 ?l18 ?c18 ?k18 ?a19 ?l19 ?c19 ?k19 ?a20 ?l20 ?c20 ?k20 ?a21 ?l21 ?c21 ?k21 ?a22 ?l22 ?c22 ?k22 ?a23 ?l23 ?c23 ?k23 ?a24 ?i24 ?l24 ?c24 ?k24 ?d24 ?a25 ?i25 ?l25 ?c25 ?k25 ?a26 ?i26 ?l26 ?c26 ?k26 ?a27 ?l27 ?c27 ?k27 ?a28 ?l28 ?c28 ?k28 ?a29 ?l29 ?c29 ?k29 ?a30 ?l30 ?c30 ?k30 ?a31 ?i31 ?l31 ?c31 ?k31 ?a32 ?i32 ?l32 ?c32 ?k32 ?d32 ?a33 ?i33 ?l33 ?c33 ?k33 ?a34 ?i34 ?l34 ?c34 ?k34 ?a35 ?i35 ?l35 ?c35 ?k35 ?d35 ?a36 ?i36 ?l36 ?c36 ?k36 ?a37 ?i37 ?l37 ?c37 ?k37 ?a38 ?i38 ?l38 ?c38 ?k38 ?a39 ?i39 ?l39 ?c39 ?k39 ?a40 ?i40 ?l40 ?c40 ?k40 ?a41 ?l41 ?c41 ?k41 ?a42 ?l42 ?c42 ?k42 ?a43 ?l43 ?c43 ?k43 ?a44 ?l44 ?c44 ?k44 ?a45 ?l45 ?c45 ?k45 ?a46 ?l46 ?c46 ?k46 ?a47 ?l47 ?c47 ?k47 ?a48 ?l48 ?c48 ?k48 ?a49 ?l49 ?c49 ?k49 ?a50 ?l50 ?c50 ?k50 ?a51 ?l51 ?c51 ?k51 ?a52 ?l52 ?c52 ?k52 ?a53 ?l53 ?c53 ?k53 ?a54 ?l54 ?c54 ?k54 ?a55 ?l55 ?c55 ?k55 ?a56 ?l56 ?c56 ?k56 ?a57 ?l57 ?c57 ?k57 ?a58 ?l58 ?c58 ?k58 ?a59 ?l59 ?c59 ?k59 ?a60 ?l60 ?c60 ?k60 ?a61 ?i61 ?xi61 ?xh61 ?xs61 ?xn61 ?l61 ?c61 ?k61 ?pgRoll ?hdRoll ?poRoll ?saRoll ?mkRoll ?kcRoll ?nRoll_kept_rule ?nRoll_kept_day ?nRoll_kept_edges ?nRoll_whole_ones ?nRoll_cell_heaps ?pgRule ?hdRule ?poRule ?saRule ?mkRule ?kcRule ?nRule_kept_steps ?nRule_gone_age ?pgBook ?hdBook ?poBook ?saBook ?mkBook ?kcBook ?nBook_kept_rule ?nBook_kept_day ?nBook_kept_edges ?nBook_kept_marks ?nBook_kept_rolls ?xCBookError ?xCNoNumber ?xCNoRule ?xCNoName ?xCNoMark ?xEBookError ?xKBookError0 ?xKBookError1 ?xKBookError2 ?xKBookError3 ?xKBookError4 ?xKBookError5 ?xHBookError_BookError ?xIBookError_BookError ?xIBookError_NoNumber ?xIBookError_NoRule ?xIBookError_Backward ?xIBookError_NoName ?xIBookError_NoMark ?xVBookError ?xENoNumber ?xKNoNumber0 ?xKNoNumber1 ?xKNoNumber2 ?xKNoNumber3 ?xKNoNumber4 ?xKNoNumber5 ?xHNoNumber_BookError ?xINoNumber_BookError ?xHNoNumber_NoNumber ?xINoNumber_NoNumber ?xINoNumber_NoRule ?xINoNumber_Backward ?xINoNumber_NoName ?xINoNumber_NoMark ?xVNoNumber ?xENoRule ?xKNoRule0 ?xKNoRule1 ?xKNoRule2 ?xKNoRule3 ?xKNoRule4 ?xKNoRule5 ?xHNoRule_BookError ?xINoRule_BookError ?xINoRule_NoNumber ?xHNoRule_NoRule ?xINoRule_NoRule ?xINoRule_Backward ?xINoRule_NoName ?xINoRule_NoMark ?xVNoRule ?xKBackward0 ?xKBackward1 ?xKBackward2 ?xKBackward3 ?xKBackward4 ?xKBackward5 ?xHBackward_BookError ?xIBackward_BookError ?xIBackward_NoNumber ?xIBackward_NoRule ?xHBackward_Backward ?xIBackward_Backward ?xIBackward_NoName ?xIBackward_NoMark ?xVBackward ?xENoName ?xKNoName0 ?xKNoName1 ?xKNoName2 ?xKNoName3 ?xKNoName4 ?xKNoName5 ?xHNoName_BookError ?xINoName_BookError ?xINoName_NoNumber ?xINoName_NoRule ?xINoName_Backward ?xHNoName_NoName ?xINoName_NoName ?xINoName_NoMark ?xVNoName ?xENoMark ?xKNoMark0 ?xKNoMark1 ?xKNoMark2 ?xKNoMark3 ?xKNoMark4 ?xKNoMark5 ?xHNoMark_BookError ?xINoMark_BookError ?xINoMark_NoNumber ?xINoMark_NoRule ?xINoMark_Backward ?xINoMark_NoName ?xHNoMark_NoMark ?xINoMark_NoMark ?xVNoMark ?xBBookError0 ?xBBookError1 ?xBBookError2 ?z_all ?z_bool ?z_int ?z_isinstance ?z_len ?z_list ?z_max ?z_min ?z_range ?z_set ?z_sorted ?z_str ?z_sum ?z_tuple ?z_zip ?y_MOST_STEPS ?y_LETTERS ?y_LONGEST_NAME ?y_LONGEST_MARK ?y_MOST_MARKS
  (case aCRoll|aCRule|aCBook|xCBackward|a0|l0|c0|k0|a1|l1|c1|k1|a2|l2|c2|k2|a3|l3|c3|k3|a4|l4|c4|k4|a5|l5|c5|k5|a6|l6|c6|k6|a7|l7|c7|k7|a8|l8|c8|k8|a9|l9|c9|k9|a10|l10|c10|k10|a11|i11|l11|c11|k11|a12|i12|l12|c12|k12|d12|a13|i13|l13|c13|k13|a14|i14|l14|c14|k14|a15|i15|l15|c15|k15|a16|i16|l16|c16|k16|a17|i17|l17|c17|k17|a18|l18|c18|k18|a19|l19|c19|k19|a20|l20|c20|k20|a21|l21|c21|k21|a22|l22|c22|k22|a23|l23|c23|k23|a24|i24|l24|c24|k24|d24|a25|i25|l25|c25|k25|a26|i26|l26|c26|k26|a27|l27|c27|k27|a28|l28|c28|k28|a29|l29|c29|k29|a30|l30|c30|k30|a31|i31|l31|c31|k31|a32|i32|l32|c32|k32|d32|a33|i33|l33|c33|k33|a34|i34|l34|c34|k34|a35|i35|l35|c35|k35|d35|a36|i36|l36|c36|k36|a37|i37|l37|c37|k37|a38|i38|l38|c38|k38|a39|i39|l39|c39|k39|a40|i40|l40|c40|k40|a41|l41|c41|k41|a42|l42|c42|k42|a43|l43|c43|k43|a44|l44|c44|k44|a45|l45|c45|k45|a46|l46|c46|k46|a47|l47|c47|k47|a48|l48|c48|k48|a49|l49|c49|k49|a50|l50|c50|k50|a51|l51|c51|k51|a52|l52|c52|k52|a53|l53|c53|k53|a54|l54|c54|k54|a55|l55|c55|k55|a56|l56|c56|k56|a57|l57|c57|k57|a58|l58|c58|k58|a59|l59|c59|k59|a60|l60|c60|k60|a61|i61|xh61|xs61|xn61|l61|c61|k61|pgRoll|hdRoll|poRoll|saRoll|mkRoll|kcRoll|nRoll_kept_rule|nRoll_kept_day|nRoll_kept_edges|nRoll_whole_ones|nRoll_cell_heaps|pgRule|hdRule|poRule|saRule|mkRule|kcRule|nRule_kept_steps|nRule_gone_age|pgBook|hdBook|poBook|saBook|mkBook|kcBook|nBook_kept_rule|nBook_kept_day|nBook_kept_edges|nBook_kept_marks|nBook_kept_rolls|xCBookError|xCNoNumber|xCNoRule|xCNoName|xCNoMark|xKBookError0|xKBookError1|xKBookError2|xKBookError3|xKBookError4|xHBookError_BookError|xKNoNumber0|xKNoNumber1|xKNoNumber2|xKNoNumber3|xKNoNumber4|xHNoNumber_BookError|xHNoNumber_NoNumber|xKNoRule0|xKNoRule1|xKNoRule2|xKNoRule3|xKNoRule4|xHNoRule_BookError|xHNoRule_NoRule|xKBackward0|xKBackward1|xKBackward2|xKBackward3|xKBackward4|xHBackward_BookError|xHBackward_Backward|xKNoName0|xKNoName1|xKNoName2|xKNoName3|xKNoName4|xHNoName_BookError|xHNoName_NoName|xKNoMark0|xKNoMark1|xKNoMark2|xKNoMark3|xKNoMark4|xHNoMark_BookError|xHNoMark_NoMark|z_all|z_bool|z_int|z_isinstance|z_len|z_list|z_max|z_min|z_range|z_set|z_sorted|z_str|z_sum|z_tuple|z_zip|y_MOST_STEPS|y_LETTERS|y_LONGEST_NAME|y_LONGEST_MARK|y_MOST_MARKS=>k_is)
  (case xi61|xBBookError0|xBBookError1|xBBookError2=>kernel_rfl)
  (case xEBookError|xENoNumber|xENoRule|xENoName|xENoMark=>k_exc)
  (case xKBookError5|xKNoNumber5|xKNoRule5|xKBackward5|xKNoName5|xKNoMark5=>kts_isx)
  (case xIBookError_BookError|xIBookError_NoNumber|xIBookError_NoRule|xIBookError_Backward|xIBookError_NoName|xIBookError_NoMark|xVBookError|xINoNumber_BookError|xINoNumber_NoNumber|xINoNumber_NoRule|xINoNumber_Backward|xINoNumber_NoName|xINoNumber_NoMark|xVNoNumber|xINoRule_BookError|xINoRule_NoNumber|xINoRule_NoRule|xINoRule_Backward|xINoRule_NoName|xINoRule_NoMark|xVNoRule|xIBackward_BookError|xIBackward_NoNumber|xIBackward_NoRule|xIBackward_Backward|xIBackward_NoName|xIBackward_NoMark|xVBackward|xINoName_BookError|xINoName_NoNumber|xINoName_NoRule|xINoName_Backward|xINoName_NoName|xINoName_NoMark|xVNoName|xINoMark_BookError|xINoMark_NoNumber|xINoMark_NoRule|xINoMark_Backward|xINoMark_NoName|xINoMark_NoMark|xVNoMark=>kit_is)
