import PyProof.Rows.All
import Wide.All
import OpenK.AllK
import Wide.FinOn
import Lean
import PyProof.EqAt
import PyProof.EqKinds
import PyProof.TupleCall
import PySem.Challenge.RW_thinbook_k72_a_book_under_another_rule
abbrev Aa:=@PySem.wpAny_bind
abbrev Ab:=@PySem.Heap.get?_push_of_some
abbrev Ac:=@List.length_map
abbrev Ad:=@List.getElem?_eq_getElem
abbrev Ae:=@PySem.wpAny_pure
abbrev Af:=@List.mem_map
abbrev Ag:=@Nat.le_refl
abbrev Ah:=@if_neg
abbrev Ai:=@List.getElem?_eq_some_iff
abbrev Aj:=@List.mem_singleton
abbrev Ak:=@List.mem_cons
abbrev Al:=@if_pos
abbrev Am:=@PySem.Heap.lt_size
abbrev An:=@List.mem_of_getElem?
abbrev Ao:=@PySem.Heap.get?_push_size
abbrev Ap:=@List.mem_cons_of_mem
abbrev Aq:=@List.length_append
abbrev As:=@List.length_take
abbrev Au:=@List.mem_cons_self
abbrev Av:=@Nat.ne_of_lt
abbrev Aw:=@List.map_cons
abbrev Ax:=@List.size_toArray
abbrev Ay:=@List.getElem?_map
abbrev Az:=@List.length_cons
abbrev AA:=@List.mem_append
abbrev AB:=@List.map_append
abbrev AD:=@Bool.false_ne_true
abbrev AE:=@decide_eq_true
abbrev AF:=@List.not_mem_nil
abbrev AG:=@of_decide_eq_true
abbrev AH:=@Option.map_eq_some_iff
abbrev AI:=@List.map_map
abbrev AJ:=@Option.some.inj
abbrev AK:=@Nat.lt_of_lt_of_le
abbrev AL:=@List.take_length
abbrev AM:=@List.mem_append_right
abbrev AN:=@List.append_nil
abbrev AO:=@List.getD_eq_getElem?_getD
abbrev AQ:=@PySem.PassesOwn.never
abbrev AR:=@Nat.le_trans
abbrev AS:=@List.getElem?_append_left
abbrev AU:=@Array.getD_eq_getD_getElem?
abbrev AV:=@List.cons_append
abbrev AW:=@Nat.zero_le
abbrev AX:=@List.nil_append
abbrev AY:=@Ne.symm
abbrev AZ:=@List.getElem_of_mem
abbrev A7:=@PySem.wpAny_mono
abbrev A8:=@Int.emod_lt_of_pos
abbrev Ba:=@List.map_congr_left
abbrev Bb:=@Array.length_toList
abbrev Bc:=@decide_eq_false
abbrev Be:=@Int.emod_nonneg
abbrev Bf:=@List.nodup_cons
abbrev Bg:=@List.getElem?_set_ne
abbrev Bh:=@List.take_of_length_le
abbrev Bk:=@PySem.wpAny_holding
abbrev Bl:=@PySem.sizeLine_eq
abbrev Bm:=@List.length_singleton
abbrev Bn:=@Nat.le_of_lt
abbrev Bo:=@PySem.wpAny_field
abbrev Bp:=@PySem.Heap.size_push
abbrev Bq:=@PySem.W.kia_one
abbrev Bt:=@PySem.Heap.get?_update_other
abbrev Bu:=@or_false
abbrev Bv:=@Array.getElem?_eq_getElem
abbrev Bw:=@List.take_add_one
abbrev Bx:=@PySem.F.type_list_append
abbrev By:=@PySem.F.slot_list_append
abbrev Bz:=@PySem.W.looks_findIn
abbrev BA:=@PySem.F.plainAttrs_list
abbrev BC:=@Nat.lt_irrefl
abbrev BD:=@PySem.wpAny_newObj_type
abbrev BE:=@List.getElem?_append_right
abbrev BF:=@Nat.le_add_right
abbrev BG:=@PySem.wpAny_loadPart_at
abbrev BH:=@PySem.F.slot_dict_keyiterator_next
abbrev BI:=@List.length_zipWith
abbrev BJ:=@PySem.codeAny_mono
abbrev BK:=@PySem.wpAny_call_entry
abbrev BL:=@PySem.wpAny_Call_Name_kw
abbrev BM:=@List.getElem?_eq_none
abbrev BN:=@PySem.Heap.get?_update_self
abbrev BO:=@List.length_nil
abbrev BP:=@PySem.wpAny_truthy_bool
abbrev BQ:=@PySem.codeAny_call_builtin
abbrev BR:=@PySem.SeqAt.eqv_refl
abbrev BS:=@beq_eq_false_iff_ne
abbrev BU:=@Nat.lt_succ_self
abbrev BV:=@List.mem_range
abbrev BW:=@List.Nodup.length_le_of_subset
abbrev BX:=@PySem.wpAny_typeNameOfWhole_keyiter
abbrev BY:=@PySem.wpAny_call
abbrev BZ:=@beq_iff_eq
abbrev B5:=@PySem.W.callWith_K
abbrev Ca:=@List.pairwise_cons
abbrev Cb:=@Int.mul_comm
abbrev Cc:=@List.find?_cons
abbrev Cd:=@Array.getElem?_toList
abbrev Ce:=@PySem.wpAny_pyIter_list
abbrev Cf:=@PyProof.Rows.callWith_type1
abbrev Cg:=@PySem.F.excBase_ValueError
abbrev Ci:=@Nat.le_succ
abbrev Cj:=@List.mem_of_mem_take
abbrev Ck:=@List.mem_append_left
abbrev Cm:=@Array.getElem?_eq_some_iff
abbrev Cn:=@Nat.ne_of_gt
abbrev Co:=@List.length_drop
abbrev Cp:=@PySem.F.called_set
abbrev Cq:=@PySem.mem_of_lookup
abbrev Cr:=@PySem.wpAny_typeNameOf_keyiter
abbrev Cs:=@PySem.wpAny_attempt
abbrev Ct:=@Int.dvd_trans
abbrev Cu:=@PySem.wpAny_setField_rec
abbrev Cv:=@PySem.tupleKind_room_in1
abbrev Cw:=@PySem.Obj.data_mapFields
abbrev Cy:=@List.filter_append
abbrev Cz:=@Bool.false_eq_true
abbrev CA:=@PySem.F.attr_ValueError
abbrev CB:=@List.length_eq_zero_iff
abbrev CC:=@List.filter_cons_of_pos
abbrev CD:=@Int.eq_ofNat_of_zero_le
abbrev CF:=@PySem.wpAny_setField
abbrev CG:=@PySem.wpAny_seqItems
abbrev CH:=@Nat.lt_succ_of_lt
abbrev CI:=@List.pairwise_map
abbrev CJ:=@Int.zero_add
abbrev CK:=@PyProof.Rows.slot_tuple_getitem
abbrev CL:=@PySem.W.methodCall_KW
abbrev CM:=@List.lookup_cons
abbrev CN:=@Bool.and_eq_true
abbrev CO:=@if_false
abbrev CP:=@List.pairwise_append
abbrev CQ:=@List.mem_of_mem_drop
abbrev CS:=@Int.le_refl
abbrev CT:=@PySem.Calls.evalArgs_plain
abbrev CU:=@PySem.wpAny_passesOwn
abbrev CV:=@List.of_mem_zip
abbrev CW:=@List.foldl_cons
abbrev CY:=@Bool.eq_iff_iff
abbrev CZ:=@PySem.wpAny_isSubtype_exc
abbrev C0:=@PySem.Heap.SameBut.update
abbrev C1:=@Nat.succ.inj
abbrev C3:=@not_or
abbrev C4:=@Nat.lt_of_le_of_lt
abbrev C5:=@List.zip_cons_cons
abbrev C6:=@List.nodup_nil
abbrev C7:=@List.nodup_iff_pairwise_ne
abbrev C8:=@List.pairwise_iff_getElem
abbrev C9:=@not_false_eq_true
abbrev Dc:=@List.foldl_append
abbrev Dd:=@List.append_assoc
abbrev De:=@PySem.Heap.get?_push_ne
abbrev Df:=@PySem.wpAny_standAt
abbrev Dg:=@PySem.wpAny_pyIter_zip
abbrev Dh:=@Option.getD_some
abbrev Di:=@List.pairwise_singleton
abbrev Dj:=@List.getElem_inj
abbrev Dk:=@List.all_eq_true
abbrev Dl:=@Int.dvd_of_emod_eq_zero
abbrev Dm:=@PySem.Heap.size_update
abbrev Dp:=@PySem.wpAny_nextOf_list_item
abbrev Dq:=@List.zipWith_cons_cons
abbrev Dr:=@List.map_nil
abbrev Ds:=@List.getElem?_set_self
abbrev Dt:=@PySem.wpAny_execs_nil
abbrev Du:=@PySem.codeAny_builtin
abbrev Dv:=@PySem.W.kts_cls
abbrev Dw:=@Option.map_some
abbrev Dx:=@PySem.F.slot_zip_next
abbrev Dy:=@PySem.F.slot_dict_get
abbrev Dz:=@PySem.Obj.isFreed_of_fields
abbrev DA:=@List.take_succ
abbrev DB:=@PySem.Heap.get?_none_of_le
abbrev DE:=@PySem.Around.under_plainId
abbrev DF:=@PySem.W.plainGet_of
abbrev DG:=@PySem.W.looks_mroIn
abbrev DH:=@List.filterMap_cons
abbrev DI:=@PySem.wpAny_onRaise
abbrev DJ:=@PySem.wpAny_newList
abbrev DK:=@PyProof.Rows.listUpdate_at
abbrev DL:=@PySem.W.check_slot
abbrev DM:=@PySem.Code.quiet_builtin
abbrev DN:=@PySem.Calls.spliced_cons
abbrev DO:=@PySem.wpAny_dictEntries
abbrev DP:=@if_true
abbrev DQ:=@Option.isSome_map
abbrev DR:=@List.getElem_take
abbrev DS:=@Int.toNat_natCast
abbrev DT:=@PySem.plainObj_wpAny_Assign_Attribute
abbrev DU:=@PySem.wpAny_isInstance
abbrev DV:=@PySem.W.makes_of
abbrev DW:=@PySem.W.Looks.ld
abbrev DX:=@PyProof.Rows.callWith_builtin1
abbrev DY:=@List.getElem_mem
abbrev DZ:=@List.any_eq_true
abbrev D0:=@PySem.Heap.IsList.push
abbrev D1:=@PySem.F.args_dict_keyiterator_next_1
abbrev D2:=@PySem.wpAny_letGo
abbrev D4:=@PyProof.Rows.seqEpoch_at
abbrev D5:=@List.getElem?_replicate_of_lt
abbrev D6:=@Int.mul_one
abbrev D7:=@Int.mul_le_mul_of_nonneg_left
abbrev D8:=@Int.mul_add
abbrev D9:=@PySem.F.entry_dict_keyiterator_next
abbrev Ea:=@PySem.wpAny_dictEpoch
abbrev Eb:=@PySem.codeAny_of_tree
abbrev Eg:=@Nat.min_eq_left
abbrev Eh:=@List.mem_filter
abbrev Ei:=@PySem.F.typeOf_object_class
abbrev Ej:=@PySem.wpAny_newTuple
abbrev Ek:=@PyProof.Rows.size_push'
abbrev El:=@List.perm_ext_iff_of_nodup
abbrev Em:=@List.Perm.refl
abbrev En:=@Int.mul_le_mul
abbrev Eo:=@Int.fdiv_eq_ediv_of_nonneg
abbrev Ep:=@PySem.Calls.Name_function_global
abbrev Er:=@Array.size_map
abbrev Es:=@PySem.wpAny_letOwnedTupleGo_zip
abbrev Et:=@List.getLast?_eq_getElem?
abbrev Eu:=@List.getElem?_zip_eq_some
abbrev Ew:=@PySem.Calls.call_function_entry
abbrev Ey:=@PySem.wpAny_comprehension_free
abbrev Ez:=@PySem.nums_intItems
abbrev EA:=@PySem.F.args_tuple_add_2
abbrev EC:=@PySem.Paired.length
abbrev ED:=@Option.isSome_iff_exists
abbrev EE:=@List.map_take
abbrev EF:=@List.any_cons
abbrev EG:=@PySem.F.entry_tuple_add
abbrev EH:=@PySem.F.args_dict_get_3
abbrev EI:=@List.pairwise_mergeSort
abbrev EJ:=@List.append_cancel_left
abbrev EL:=@PySem.wpAny_typeOf
abbrev EM:=@PyProof.Rows.subscriptTail_builtinR
abbrev EN:=@PySem.W.cellsFrom_some
abbrev EO:=@PySem.F.slot_tuple_add
abbrev ER:=@PySem.F.plainAttrs_str
abbrev ES:=@PySem.F.entry_dict_get
abbrev ET:=@Nat.lt_trans
abbrev EU:=@Nat.le_of_eq
abbrev EW:=@List.drop_eq_nil_of_le
abbrev EX:=@PySem.Calls.callWith_builtin
abbrev EY:=@Bool.or_true
abbrev EZ:=@PySem.wpAny_isTrue_Compare1
abbrev E3:=@PySem.wpAny_isOneOf_keyiter
abbrev E4:=@PySem.F.type_str_join
abbrev E5:=@PySem.F.slot_str_join
abbrev E6:=@PySem.F.entry_bexc_ga
abbrev E7:=@Nat.le_of_ble_eq_true
abbrev E8:=@List.subset_cons_self
abbrev E9:=@List.length_filter_le
abbrev Fb:=@List.getElem?_zipWith
abbrev Fc:=@Int.emod_add_mul_ediv
abbrev Fd:=@Int.ediv_lt_of_lt_mul
abbrev Fe:=@PySem.numAt_eq
abbrev Ff:=@PySem.W.kas_item_eq
abbrev Fg:=@PyProof.Rows.join_one
abbrev Fh:=@and_true
abbrev Fi:=@PySem.F.args_bexc_ga
abbrev Fj:=@Prod.mk.inj
abbrev Fl:=@List.map_id
abbrev Fm:=@List.getElem?_append
abbrev Fn:=@PySem.F.args_list_append_2
local macro_rules | `(tactic| omega) => `(tactic| lia)
set_option Elab.async false
set_option linter.all false
set_option maxRecDepth 100000
open PySem.W (Frag nsIn fnOf codeIn keepIn mg_of)
namespace L2
open PySem PySem.Spec PyProof.Rows
abbrev Key:=Sum Int Str
def qp3:Key->Value->Bool
 | .inl k,v=>Value.isInt k v
 | .inr x,v=>Value.isStrOf x v
def qEb (w:World):Key->Int
 | .inl k=>hashInt k
 | .inr x=>hashStr w x
theorem qbh:∀ {k:Key} {v:Value},qp3 k v=true->(∃ i t,k=Sum.inl i/\v=Value.int i t)\/(∃ x t,k=Sum.inr x/\v=Value.str x t)
 | .inl i,v,h=>by
  obtain ⟨t,e⟩:=Value.isInt_shape (k:=i) (v:=v) h;exact .inl ⟨i,t,rfl,e⟩
 | .inr x,v,h=>by
  obtain ⟨t,e⟩:=Value.isStrOf_shape (x:=x) (v:=v) h;exact .inr ⟨x,t,rfl,e⟩
theorem qq7 (i:Int) (t:Tok):qp3 (.inl i) (.int i t)=true:=by simp[qp3,Value.isInt]
theorem qq8 (x:Str) (t:Tok):qp3 (.inr x) (.str x t)=true:=by simp[qp3,Value.isStrOf]
theorem qz1 (a b:Int):decide ((Sum.inl a:Key)=Sum.inl b)=(a == b):=by
 by_cases e:a=b
 ·subst e;simp
 ·have h:¬ (Sum.inl a:Key)=Sum.inl b:=λq=>e (Sum.inl.inj q)
  rw[Bc h];exact (BS.mpr e).symm
theorem qz2 (a b:Str):decide ((Sum.inr a:Key)=Sum.inr b)=decide (a=b):=by
 by_cases e:a=b
 ·subst e;simp
 ·have h:¬ (Sum.inr a:Key)=Sum.inr b:=λq=>e (Sum.inr.inj q)
  rw[Bc h,Bc e]
theorem qz3 (a:Int) (b:Str):decide ((Sum.inl a:Key)=Sum.inr b)=false:=Bc (λq=>nomatch q)
theorem qz4 (a:Str) (b:Int):decide ((Sum.inr a:Key)=Sum.inl b)=false:=Bc (λq=>nomatch q)
def qbw (prog:Program) (w:World):PySem.KeyKind prog w Key where
 is:=qp3
 hash:=qEb w
 inj:=λv a b ha hb=>by
  rcases qbh ha with ⟨i,t,rfl,rfl⟩|⟨x,t,rfl,rfl⟩
  ·rcases qbh hb with ⟨j,u,rfl,e⟩|⟨y,u,rfl,e⟩
   ·injection e with e1 _;rw[e1]
   ·exact nomatch e
  ·rcases qbh hb with ⟨j,u,rfl,e⟩|⟨y,u,rfl,e⟩
   ·exact nomatch e
   ·injection e with e1 _;rw[e1]
 byValue:=λk v h=>by
  rcases qbh h with ⟨i,t,rfl,rfl⟩|⟨x,t,rfl,rfl⟩<;>rfl
 pyHash:=λhv h=>by
  rcases qbh hv with ⟨i,t,rfl,rfl⟩|⟨x,t,rfl,rfl⟩
  ·exact wpAny_pyHash_int h
  ·exact wpAny_pyHash_str h
 eqBool:=λhu hv h=>by
  rcases qbh hu with ⟨i,t,rfl,rfl⟩|⟨x,t,rfl,rfl⟩
  ·rcases qbh hv with ⟨j,u,rfl,rfl⟩|⟨y,u,rfl,rfl⟩
   ·rw[qz1] at h;exact wpAny_eqBool_int h
   ·rw[qz3] at h;exact SeqAt.EqAt.int_str i t y u _ _ _ _ h
  ·rcases qbh hv with ⟨j,u,rfl,rfl⟩|⟨y,u,rfl,rfl⟩
   ·rw[qz4] at h;exact SeqAt.EqAt.str_int x t j u _ _ _ _ h
   ·rw[qz2] at h;exact wpAny_eqBool_str h
 «strs» :=λk x t v h=>by
  rcases qbh h with ⟨i,u,rfl,e⟩|⟨y,u,rfl,e⟩
  ·exact nomatch e
  ·injection e with e1 _
   subst e1
   cases v<;>rfl
theorem qnd (prog:Program) (w:World) (i:Int) (t:Tok):(qbw prog w).is (.inl i) (.int i t)=true:=qq7 i t
theorem qne (prog:Program) (w:World) (x:Str) (t:Tok):(qbw prog w).is (.inr x) (.str x t)=true:=qq8 x t
open PySem PySem.Spec PyProof.Rows
inductive V where
 | non|bl (b:Bool)|int (i:Int)|str (x:Str)|byt (b:Array UInt8)|flt (b:UInt64)|ref (a:Addr)|ty (n:String)
 deriving DecidableEq
def RelV:V->Value->Prop
 | .non,u=>u=Value.none
 | .bl b,u=>u=Value.bool b
 | .int i,u=>∃ t,u=Value.int i t
 | .str x,u=>∃ t,u=Value.str x t
 | .byt b,u=>∃ t,u=Value.bytes b t
 | .flt b,u=>∃ t,u=Value.float b t
 | .ref a,u=>u=Value.ref a
 | .ty n,u=>u=Value.type n
abbrev Vals:List V->List Value->Prop:=Paired RelV
theorem Vals.length {xs:List V} {us:List Value} (r:Vals xs us):xs.length=us.length:=EC r
theorem Vals.get:∀ {xs:List V} {us:List Value} {i:Nat} {x:V},Vals xs us->xs[i]?=some x->∃ u,us[i]?=some u/\RelV x u
 | _,_,_,_,.nil,e=>by simp at e
 | _,_,0,_,.cons r _,e=>by simp at e;subst e;exact ⟨_,rfl,r⟩
 | _,_,i+1,x,.cons _ t,e=>by
  obtain ⟨u,h1,h2⟩:=Vals.get (i:=i) (x:=x) t (by simpa using e);exact ⟨u,by simpa using h1,h2⟩
theorem Vals.append:∀ {xs ys:List V} {us ws:List Value},Vals xs us->Vals ys ws->Vals (xs ++ ys) (us ++ ws)
 | _,_,_,_,.nil,s=>s
 | _,_,_,_,.cons r t,s=>.cons r (Vals.append t s)
theorem Vals.take:∀ {xs:List V} {us:List Value} (n:Nat),Vals xs us->Vals (xs.take n) (us.take n)
 | _,_,0,_=>.nil
 | _,_,_+1,.nil=>.nil
 | _,_,n+1,.cons r t=>.cons r (Vals.take n t)
theorem Vals.drop:∀ {xs:List V} {us:List Value} (n:Nat),Vals xs us->Vals (xs.drop n) (us.drop n)
 | _,_,0,r=>r
 | _,_,_+1,.nil=>.nil
 | _,_,n+1,.cons _ t=>Vals.drop n t
def RelO:Option V->Option Value->Prop
 | some v,some u=>RelV v u
 | none,none=>True
 | _,_=>False
def KV {κ:Type}:List (κ×V)->List (κ×Value)->Prop:=Paired fun (p:κ×V) (q:κ×Value)=>p.1=q.1/\RelV p.2 q.2
def kV:Key->V
 | .inl i=>.int i
 | .inr x=>.str x
inductive HO where
 | lst (xs:List V)
 | tup (xs:List V)
 | dK (kvs:List (Key×V))|dT (kvs:List (List Key×V))
 | set (S:Int->Bool) (n:Nat)
 | ins (C dx:Addr) (fs:List (Str×V))
 | own (x:Addr)
 | xd (fs:List (Str×V))
 | met (f x:Addr)
 | rng (lo hi:Int)
 | frz (o:Obj) (u:HO)
 | tbl (ps:Array Value)
 | ext (φ:Heap->Prop)
abbrev Hp:=Addr->Option HO
def upd (H:Hp) (a:Addr) (o:HO):Hp:=λb=>if b=a then some o else H b
theorem qa5 {H:Hp} {a:Addr} {o:HO}:upd H a o a=some o:=by unfold upd;rw[Al rfl]
theorem qas {H:Hp} {a b:Addr} {o:HO} (h:b≠a):upd H a o b=H b:=by unfold upd;rw[Ah h]
theorem qaq {H:Hp} {a b:Addr} {o u:HO} (h:H a=some o) (h':H b=some u) (d:o≠u):a≠b:=by
 intro e;subst e;rw[h] at h';exact d (AJ h')
theorem qac {H:Hp} {a b:Addr} {o:HO} (h:H a=some o) (h':H b=none):a≠b:=by
 intro e;subst e;rw[h] at h';cases h'
section
variable (P:Program) (w:World)
def ObjOk (H:Hp) (h:Heap) (a:Addr):HO->Prop
 | .lst xs=>xs.length<=sizeLine/\∃ (its:List Value) (n:Nat),Vals xs its/\h.get? a=some { cls:=.type "list",data:=.seq its.toArray n }
 | .tup xs=>xs.length<=sizeLine/\∃ its:List Value,Vals xs its/\IsTup h a its.toArray
 | .dK kvs=>kvs.length<=sizeLine/\(a == sysModules)=false/\∃ vs,KV kvs vs/\h.DictOf (qbw P w) a vs
 | .dT kvs=>kvs.length<=sizeLine/\(a == sysModules)=false/\∃ xs:List (List Key×Addr×Value),
   Paired (fun (p:List Key×V) (q:List Key×Addr×Value)=>p.1=q.1/\H q.2.1=some (.tup (p.1.map kV))/\RelV p.2 q.2.2) kvs xs /\
   ∃ o es ep,h.get? a=some o/\o.ExactDict/\o.data=.dict es ep/\es.toList=xs.map (entryOfKey (tupleKind (qbw P w)))/\(xs.map (·.1)).Nodup
 | .set S n=>h.SetOf (intKind P w) a S n
 | .ins C dx fs=>H dx=some (.own a)/\fs.length<=1000/\dx≠a/\h.get? a=some (PySem.W.instObj C dx) /\
   ∃ mA,h.Ns1 dx mA/\(∀ f,RelO (fs.lookup f) (mA f))/\PySem.Within mA (fs.map (·.1))
 | .own _=>∃ o,h.get? a=some o
 | .xd fs=>∃ mA,h.Ns1 a mA/\∀ f,RelO (fs.lookup f) (mA f)
 | .rng lo hi=>∃ t u v,h.get? a=some { cls:=.type "range",data:=.fields #[.int lo t,.int hi u,.int 1 v] }
 | .frz o u=>h.get? a=some o/\ObjOk H h a u
 | .tbl ps=>h.get? a=some { cls:=.none,data:=.fields ps }
 | .met f x=>h.get? a=some (PySem.W.methodObj (.ref f) (.ref x))
 | .ext φ=>φ h/\(∃ o,h.get? a=some o)/\∀ h1 h2:Heap,φ h1->(∀ o,h1.get? a=some o->h2.get? a=some o)->φ h2
def HOk (H:Hp) (h:Heap):Prop:=∀ a o,H a=some o->ObjOk P w H h a o
end
section
variable {P:Program} {w:World} {H H':Hp} {h h':Heap} {a:Addr} {o:HO}
theorem ObjOk.lt (x:ObjOk P w H h a o):a<h.objs.size:=by
 cases o with
 | lst xs=>obtain ⟨_,_,_,_,e⟩:=x;exact Am e
 | tup xs=>obtain ⟨_,_,_,p⟩:=x;exact p.lt
 | dK kvs=>obtain ⟨_,_,_,_,o,_,_,e,_⟩:=x;exact Am e
 | dT kvs=>obtain ⟨_,_,_,_,o,_,_,e,_⟩:=x;exact Am e
 | set S n=>obtain ⟨o,_,_,_,e,_⟩:=x;exact Am e
 | ins C dx fs=>obtain ⟨_,_,_,e,_⟩:=x;exact Am e
 | own y=>obtain ⟨_,e⟩:=x;exact Am e
 | xd fs=>obtain ⟨_,⟨_,_,_,e,_⟩,_⟩:=x;exact Am e
 | rng lo hi=>obtain ⟨_,_,_,e⟩:=x;exact Am e
 | frz ob u=>obtain ⟨e,_⟩:=x;exact Am e
 | tbl ps=>exact Am (show h.get? a=some _ from x)
 | met f y=>exact Am (show h.get? a=some _ from x)
 | ext φ=>obtain ⟨_,⟨_,e⟩,_⟩:=x;exact Am e
theorem Paired.mapP {α β:Type} {F G:α->β->Prop}:∀ {l₁:List α} {l₂:List β},Paired F l₁ l₂->(∀ a b,F a b->G a b)->Paired G l₁ l₂
 | _,_,.nil,_=>.nil
 | _,_,.cons r t,f=>.cons (f _ _ r) (Paired.mapP t f)
theorem ObjOk.stay (x:ObjOk P w H h a o) (k:∀ b u,(b=a\/H b=some (.own a))->h.get? b=some u->h'.get? b=some u)
  (ho:∀ b,H b=some (.own a)->H' b=some (.own a)) (ht:∀ b xs,H b=some (.tup xs)->H' b=some (.tup xs)):ObjOk P w H' h' a o:=by
 induction o with
 | lst xs=>obtain ⟨z,its,n,r,e⟩:=x;exact ⟨z,its,n,r,k _ _ (.inl rfl) e⟩
 | tup xs=>obtain ⟨z,its,r,ob,e,c⟩:=x;exact ⟨z,its,r,ob,k _ _ (.inl rfl) e,c⟩
 | dK kvs=>obtain ⟨z,y,vs,r,ob,es,ep,e,c⟩:=x;exact ⟨z,y,vs,r,ob,es,ep,k _ _ (.inl rfl) e,c⟩
 | dT kvs =>
  obtain ⟨z,y,xs,r,ob,es,ep,e,c⟩:=x;exact ⟨z,y,xs,Paired.mapP r λp q z=>⟨z.1,ht _ _ z.2.1,z.2.2⟩,ob,es,ep,k _ _ (.inl rfl) e,c⟩
 | set S n=>obtain ⟨ob,es,ep,t,e,c⟩:=x;exact ⟨ob,es,ep,t,k _ _ (.inl rfl) e,c⟩
 | ins C dx fs =>
  obtain ⟨d,z,ne,e,mA,⟨od,es,ep,e2,c⟩,r⟩:=x;exact ⟨ho _ d,z,ne,k _ _ (.inl rfl) e,mA,⟨od,es,ep,k _ _ (.inr d) e2,c⟩,r⟩
 | own y=>obtain ⟨ob,e⟩:=x;exact ⟨ob,k _ _ (.inl rfl) e⟩
 | xd fs=>obtain ⟨mA,⟨od,es,ep,e,c⟩,r⟩:=x;exact ⟨mA,⟨od,es,ep,k _ _ (.inl rfl) e,c⟩,r⟩
 | rng lo hi=>obtain ⟨t,u,v,e⟩:=x;exact ⟨t,u,v,k _ _ (.inl rfl) e⟩
 | frz ob u ih=>obtain ⟨e,q⟩:=x;exact ⟨k _ _ (.inl rfl) e,ih q⟩
 | tbl ps =>
  have e:h.get? a=some { cls:=.none,data:=.fields ps }:=x
  show h'.get? a=some { cls:=.none,data:=.fields ps }
  exact k a _ (.inl rfl) e
 | met f y =>
  have e:h.get? a=some (PySem.W.methodObj (.ref f) (.ref y)):=x
  show h'.get? a=some (PySem.W.methodObj (.ref f) (.ref y))
  exact k a _ (.inl rfl) e
 | ext φ=>obtain ⟨p,⟨o,e⟩,st⟩:=x;exact ⟨st _ _ p λo q=>k _ _ (.inl rfl) q,⟨o,k _ _ (.inl rfl) e⟩,st⟩
theorem HOk.lt (x:HOk P w H h) (e:H a=some o):a<h.objs.size:=(x a o e).lt
theorem HOk.fresh (x:HOk P w H h) (e:h.objs.size<=a):H a=none:=by
 cases q:H a with
 | none=>rfl
 | some u=>exact absurd (AK (x.lt q) e) (BC _)
theorem HOk.kept (x:HOk P w H h) (k:∀ b u,h.get? b=some u->h'.get? b=some u):HOk P w H h':=λa o e =>
 (x a o e).stay (λb u _ q=>k b u q) (λ_ q=>q) λ_ _ q=>q
theorem HOk.laid (x:HOk P w H h) (k:∀ b u,h.get? b=some u->h'.get? b=some u) (hp:h.objs.size<=a) (new:ObjOk P w (upd H a o) h' a o):HOk P w (upd H a o) h':=λb u e=>by
 have hn:=x.fresh hp
 by_cases hb:b=a
 ·subst hb;rw[qa5] at e;cases e;exact new
 ·rw[qas hb] at e
  exact (x b u e).stay (λc v _ q=>k c v q) (λc q=>by rw[qas (qac q hn)];exact q) λc xs q=>by rw[qas (qac q hn)];exact q
end
def Rd (H:Hp) (a:Addr) (u:HO):Prop:=H a=some u\/∃ o,H a=some (.frz o u)
theorem Rd.ok {P:Program} {w:World} {H:Hp} {h:Heap} {a:Addr} {u:HO} (r:Rd H a u) (x:HOk P w H h):ObjOk P w H h a u:=by
 rcases r with r|⟨o,r⟩
 ·exact x a u r
 ·obtain ⟨_,q⟩:=x a _ r
  exact q
def Mut:Option HO->Prop
 | some (.lst _)=>True
 | some (.dK _)=>True
 | some (.dT _)=>True
 | some (.set _ _)=>True
 | some (.ins _ _ _)=>True
 | some (.ext _)=>True
 | _=>False
section
variable {P:Program} {w:World} {H:Hp} {h h':Heap} {x e:Addr} {o':HO}
theorem HOk.write (ok:HOk P w H h) (mu:Mut (H x)) (he:e=x\/H e=some (.own x)) (k:∀ b u,b≠e->h.get? b=some u->h'.get? b=some u) (heo:∃ u,h'.get? e=some u)
  (new:ObjOk P w (upd H x o') h' x o'):HOk P w (upd H x o') h':=λb u q=>by
 have nown:∀ c y,H c=some (.own y)->c≠x:=λc y r z=>by subst z;rw[r] at mu;exact mu
 have ntup:∀ c xs,H c=some (.tup xs)->c≠x:=λc xs r z=>by subst z;rw[r] at mu;exact mu
 by_cases hb:b=x
 ·subst hb;rw[qa5] at q;cases q;exact new
 ·rw[qas hb] at q
  by_cases hbe:b=e
  ·have q':H b=some (.own x):=by
    rcases he with z|z
    ·exact absurd (hbe.trans z) hb
    ·rw[hbe];exact z
   rw[q] at q';cases q';obtain ⟨v,hv⟩:=heo;exact ⟨v,by rw[hbe];exact hv⟩
  ·refine (ok b u q).stay (λc v hc r=>k c v ?_ r) (λc r=>by rw[qas (nown c b r)];exact r) λc xs r=>by rw[qas (ntup c xs r)];exact r
   rcases hc with rfl|hc
   ·exact hbe
   ·rintro rfl
    rcases he with z|z
    ·exact nown c b hc z
    ·rw[hc] at z;cases z;exact hb rfl
end
structure Un (fs ex:List Addr) (H H':Hp) (h h':Heap):Prop where
 keep:∀ b o,h.get? b=some o->H b=none->b ∉ fs->b ∉ ex->h'.get? b=some o
 slot:∀ b o,h.get? b=some o->H b=none->b∈fs->b ∉ ex->∃ sl,h'.get? b=some { o with slots:=sl }
 free:∀ b o,h.get? b=some o->H b=none->b ∉ ex->H' b=none
 there:∀ b o,h.get? b=some o->b ∉ ex->∃ o',h'.get? b=some o'
 tups:∀ b xs,H b=some (.tup xs)->H' b=some (.tup xs)
 frzs:∀ b o u,H b=some (.frz o u)->H' b=some (.frz o u)
 tbls:∀ b ps,H b=some (.tbl ps)->∃ more,H' b=some (.tbl (ps ++ more))
section
variable {fs fs' ex ex':List Addr} {H H1 H2:Hp} {h h1 h2 h':Heap} {a x e:Addr} {o:HO}
theorem Un.any (u:Un fs ex H H1 h h1) {b:Addr} {ob:Obj} (q:h.get? b=some ob) (n:H b=none) (hx:b ∉ ex):∃ sl,h1.get? b=some { ob with slots:=sl }:=by
 by_cases hb:b∈fs
 ·exact u.slot b ob q n hb hx
 ·exact ⟨ob.slots,u.keep b ob q n hb hx⟩
theorem Un.kept (k:∀ b u,h.get? b=some u->h'.get? b=some u):Un fs ex H H h h':=
 ⟨λb ob q _ _ _=>k b ob q,λb ob q _ _ _=>⟨ob.slots,k b ob q⟩,λ_ _ _ n _=>n,λb ob q _=>⟨ob,k b ob q⟩,λ_ _ q=>q,λ_ _ _ q=>q,λ_ ps q=>⟨#[],by rw[q];simp⟩⟩
theorem Un.refl:Un fs ex H H h h:=Un.kept λ_ _ q=>q
theorem Un.laid (k:∀ b u,h.get? b=some u->h'.get? b=some u) (hp:h.objs.size<=a) (hn:H a=none):Un fs ex H (upd H a o) h h' where
 keep:=λb u q _ _ _=>k b u q
 slot:=λb u q _ _ _=>⟨u.slots,k b u q⟩
 free:=λb u q n _=>by rw[qas (Av (AK (Am q) hp))];exact n
 there:=λb u q _=>⟨u,k b u q⟩
 tups:=λb xs q=>by rw[qas (qac q hn)];exact q
 frzs:=λb u xs q=>by rw[qas (qac q hn)];exact q
 tbls:=λb ps q=>⟨#[],by rw[qas (qac q hn),q];simp⟩
theorem Un.write (mu:Mut (H x)) (he:e=x\/H e=some (.own x)) (k:∀ b u,b≠e->h.get? b=some u->h'.get? b=some u) (heo:∃ u,h'.get? e=some u):Un fs ex H (upd H x o) h h':=by
 have hx:∀ b,H b=none->b≠x:=λb n z=>by subst z;rw[n] at mu;exact mu
 have hb:∀ b,H b=none->b≠e:=λb n z=>by
  subst z
  rcases he with r|r
  ·exact hx b n r
  ·rw[n] at r;cases r
 have hm:∀ b u,H b=some u->¬ Mut (some u)->b≠x:=λb u q nm z=>by subst z;rw[q] at mu;exact nm mu
 refine ⟨λb u q n _ _=>k b u (hb b n) q,λb u q n _ _=>⟨u.slots,k b u (hb b n) q⟩,λb u q n _=>by rw[qas (hx b n)];exact n,λb u q _=>?_,
  λb xs q=>by rw[qas (hm b _ q λz=>z)];exact q,λb u xs q=>by rw[qas (hm b _ q λz=>z)];exact q,λb ps q=>⟨#[],by rw[qas (hm b _ q λz=>z),q];simp⟩⟩
 by_cases hbe:b=e
 ·subst hbe;exact heo
 ·exact ⟨u,k b u hbe q⟩
end
def trk (h:Heap) (H:Hp):List Addr:=(List.range h.objs.size).filter λa=>(H a).isSome
def qum (h:Heap) (H:Hp):Heap:=PySem.W.hideAll h (trk h H)
theorem qq9 (h:Heap) (H:Hp):(qum h H).objs.size=h.objs.size:=PySem.W.hideAll_size _ _
theorem qun {h:Heap} {H:Hp} {b:Addr} {o:Obj} (e:h.get? b=some o) (n:H b=none):(qum h H).get? b=some o:=
 PySem.W.hideAll_get _ e λhm=>by
  have q:(H b).isSome=true:=(Eh.mp hm).2;rw[n] at q;simp at q
theorem qxd {h:Heap} {H:Hp} {b:Addr} {o:Obj} (e:(qum h H).get? b=some o):h.get? b=some o/\H b=none:=by
 have e':h.get? b=some o:=PySem.W.of_hideAll (trk h H) e;refine ⟨e',?_⟩
 cases q:H b with
 | none=>rfl
 | some x =>
  have hm:b∈trk h H:=Eh.mpr ⟨BV.mpr (Am e'),by simp[q]⟩;have z:(qum h H).get? b=none:=PySem.W.hideAll_none (trk h H) hm;rw[z] at e;cases e
def qxe (g h:Heap) (L:Addr):List (Addr×Obj):=(List.range h.objs.size).filterMap λa=>if a=L\/(g.get? a).isSome=true then none else (h.get? a).map λo=>(a,o)
def rest (g h:Heap) (L d:Addr):List (Addr×Obj):=(qxe g h L).filter λp=>decide (p.1≠d)
open PySem PySem.Spec PyProof.Rows
structure Mod (K:Frag) (mg:Str->Option Value) (base:Heap):Prop where
 kin:K.In base
 glob:base.Ns mainGlobals mg
 blt:∃ mb,base.Ns builtinsNs mb/\∀ x:Str,x ≠ "__name__" -> mb x=bootBuiltins x
 nolimit:base.NoLimit
 nodig:base.NoDigits
structure Cx where
 prog:Program
 w:World
 K:Frag
 mg:Str->Option Value
 base:Heap
 A:Around
 N:List Str
 s₀:Shared
 H₀:Hp
 env:Env
 outer:List Env
 stack:List Env
 ex:List Addr
 fn:Str->Bool
 calm:Bool
 pn:List (Addr×Obj)
 xe:Value->Shared->Prop
def frs (l:List Env):List Addr:=l.filterMap (·.frame)
abbrev Cx.fs (X:Cx):List Addr:=frs X.outer
def Vis (sc:Scope) (x:Str):Prop:=sc.names.lookup x=some .local\/sc.names.lookup x=some .cell\/sc.names.lookup x=some .free
def Loc (sc:Scope) (x:Str):Prop:=sc.names.lookup x=some .local\/sc.names.lookup x=some .cell
def Look (env:Env) (h:Heap) (m:Str->Option Value) (x:Str) (u:Value):Prop:=
 (env.kindOf x=some .local/\m x=some u)\/((env.kindOf x=some .cell\/env.kindOf x=some .free)/\∃ c,env.cells.lookup x=some c/\h.IsCell c (some u))
structure Cx.Ok (X:Cx):Prop where
 mod:Mod X.K X.mg X.base
 kind:X.env.scope.kind=.function
 glob:X.env.globals=mainGlobals
 blt:X.env.builtins=builtinsNs
 above:X.s₀.heap.objs.size<=X.env.locals
 inj:∀ x y c,X.env.cells.lookup x=some c->X.env.cells.lookup y=some c->x=y
 has:∀ x,(X.env.kindOf x=some .cell\/X.env.kindOf x=some .free)->∃ c,X.env.cells.lookup x=some c
 cab:∀ x c,X.fn x=true->X.env.cells.lookup x=some c->X.s₀.heap.objs.size<=c
 hd:X.calm=true->X.A.handled=none
 frames:X.A.frames=some X.stack
 stk:X.stack=X.outer\/(X.stack=X.env :: X.outer/\X.env.frame=some X.env.locals)
 exf:∀ b∈X.ex,b≠X.env.locals/\∀ x c,X.env.cells.lookup x=some c->c≠b
 bs:∀ b o,X.base.get? b=some o->X.s₀.heap.get? b=some o/\X.H₀ b=none
 bsz:X.base.objs.size<=X.s₀.heap.objs.size
 noex:∀ b o,X.base.get? b=some o->b ∉ X.ex
 exfs:∀ b∈X.ex,b ∉ X.fs
 funs:X.s₀.heap.FunFrames X.base X.outer
 frf:∀ b∈X.fs,X.H₀ b=none
structure Inv (X:Cx) (pins:List (Addr×Obj)) (σ:List (Option V)) (H:Hp) (s:Shared):Prop where
 ok:X.Ok
 os:s.os=X.s₀.os
 bare:AllBare s.gens
 base:Un X.fs X.ex X.H₀ H X.s₀.heap s.heap
 loc:∃ m,s.heap.Ns X.env.locals m/\∀ (i:Nat) (x:Str) (v:V),X.N[i]?=some x->σ[i]?=some (some v)->Vis X.env.scope x->∃ u,RelV v u/\Look X.env s.heap m x u
 cell:∀ x c,X.env.cells.lookup x=some c->∃ v,s.heap.IsCell c v
 free:H X.env.locals=none
 freeC:∀ x c,X.env.cells.lookup x=some c->H c=none
 pin:∀ p∈X.pn ++ pins,s.heap.get? p.1=some p.2/\H p.1=none/\p.1≠X.env.locals/\p.1 ∉ X.fs/\∀ v,p.2.data≠.cell v
 hok:HOk X.prog X.w H s.heap
 len:σ.length=X.N.length
section
variable {X:Cx} {pins:List (Addr×Obj)} {σ:List (Option V)} {H H':Hp} {s:Shared} {h':Heap}
theorem Cx.Ok.nofr (ok:X.Ok) {b:Addr} {o:Obj} (e:X.base.get? b=some o):b ∉ X.fs:=λhb=>by
 have:=(ok.funs.mem hb).1;rw[e] at this;cases this
theorem Inv.bs (I:Inv X pins σ H s):∀ b o,X.base.get? b=some o->s.heap.get? b=some o/\H b=none:=λb o e =>
 ⟨I.base.keep b o (I.ok.bs b o e).1 (I.ok.bs b o e).2 (I.ok.nofr e) (I.ok.noex b o e),I.base.free b o (I.ok.bs b o e).1 (I.ok.bs b o e).2 (I.ok.noex b o e)⟩
theorem Inv.bk (I:Inv X pins σ H s):∀ b o,X.base.get? b=some o->s.heap.get? b=some o:=λb o e=>(I.bs b o e).1
theorem Inv.mod (I:Inv X pins σ H s):Mod X.K X.mg X.base:=I.ok.mod
theorem Inv.kIn (I:Inv X pins σ H s):X.K.In s.heap:=I.ok.mod.kin.keeps I.bk
theorem Inv.lt (I:Inv X pins σ H s):X.env.locals<s.heap.objs.size:=let ⟨_,hn,_⟩:=I.loc;hn.lt
theorem Inv.sz (I:Inv X pins σ H s):X.s₀.heap.objs.size<=s.heap.objs.size:=AR I.ok.above (Bn I.lt)
theorem Inv.nofs (I:Inv X pins σ H s) {a:Addr} (h:s.heap.objs.size<=a):a ∉ X.fs:=λhb=>by
 obtain ⟨_,o,ho,_⟩:=I.ok.funs.mem hb;exact absurd (AK (Am ho) (AR I.sz h)) (BC _)
theorem Inv.cne (I:Inv X pins σ H s):∀ x c,X.env.cells.lookup x=some c->c≠X.env.locals:=λx c e z=>by
 obtain ⟨v,o,ho,hd⟩:=I.cell x c e;obtain ⟨m,⟨o',es,ep,ho',hd',_⟩,_⟩:=I.loc;rw[z,ho'] at ho;cases ho;rw[hd'] at hd;cases hd
theorem Inv.funs (I:Inv X pins σ H s):s.heap.FunFrames X.base X.outer:=by
 have all:∀ (l:List Env),(∀ b∈frs l,b∈X.fs)->X.s₀.heap.FunFrames X.base l->s.heap.FunFrames X.base l:=by
  intro l
  induction l with
  | nil=>intro _ _;trivial
  | cons env r ih =>
   intro hs hl;obtain ⟨hk,⟨L,o,hf,hn,ho,hd⟩,hr⟩:=hl;have hL:L∈X.fs:=hs L (by unfold frs;rw[DH,hf];exact Au);obtain ⟨sl,e⟩:=I.base.slot L o ho (I.ok.frf L hL) hL λz=>I.ok.exfs L z hL
   exact ⟨hk,⟨L,_,hf,hn,e,hd⟩,ih (λb hb=>hs b (by unfold frs;rw[DH,hf];exact Ap _ hb)) hr⟩
 exact all X.outer (λ_ hb=>hb) I.ok.funs
theorem Inv.stack (I:Inv X pins σ H s):s.heap.FunFrames X.base X.stack:=by
 rcases I.ok.stk with e|⟨e,hf⟩
 ·rw[e];exact I.funs
 ·rw[e]
  obtain ⟨m,hn,_⟩:=I.loc;refine .cons (by rw[I.ok.kind];decide) hf hn ?_ I.funs;exact DB (AR I.ok.bsz I.ok.above)
theorem Inv.stkSub (I:Inv X pins σ H s):∀ b∈frs X.stack,b∈X.env.locals :: X.fs:=λb hb=>by
 rcases I.ok.stk with e|⟨e,hf⟩
 ·rw[e] at hb;exact Ap _ hb
 ·rw[e] at hb
  unfold frs at hb;rw[DH,hf] at hb;exact hb
theorem Inv.stkFree (I:Inv X pins σ H s):∀ b∈frs X.stack,H b=none:=λb hb=>by
 rcases Ak.mp (I.stkSub b hb) with e|hb
 ·rw[e];exact I.free
 ·obtain ⟨_,o,ho,_⟩:=I.ok.funs.mem hb
  exact I.base.free b o ho (I.ok.frf b hb) λz=>I.ok.exfs b z hb
theorem Inv.step {g':Array GenState} {t':Nat} {d':Drawn} {ch:List Addr} (I:Inv X pins σ H s)
  (hch:∀ b∈ch,(b∈X.ex\/X.s₀.heap.objs.size<=b)/\b≠X.env.locals/\(∀ x c,X.env.cells.lookup x=some c->c≠b)/\∀ p∈X.pn ++ pins,p.1≠b)
  (keep:∀ b o,b≠X.env.locals->b ∉ X.fs->b ∉ ch->s.heap.get? b=some o->H b=none->h'.get? b=some o)
  (slot:∀ b o,b≠X.env.locals->b∈X.fs->b ∉ ch->s.heap.get? b=some o->H b=none->∃ sl,h'.get? b=some { o with slots:=sl }) (free:∀ b o,b ∉ ch->s.heap.get? b=some o->H b=none->H' b=none)
  (there:∀ b o,b ∉ ch->s.heap.get? b=some o->∃ o',h'.get? b=some o')
  (tups:∀ b xs,H b=some (.tup xs)->H' b=some (.tup xs)) (frzs:∀ b o u,H b=some (.frz o u)->H' b=some (.frz o u)) (tbls:∀ b ps,H b=some (.tbl ps)->∃ more,H' b=some (.tbl (ps ++ more)))
  (ns:∀ m,s.heap.Ns X.env.locals m->h'.Ns X.env.locals m) (hok:HOk X.prog X.w H' h') (hg:AllBare g') :
  Inv X pins σ H' { s with heap:=h',gens:=g',drawn:=d',toks:=t' }:=by
 have neL:∀ b o,X.s₀.heap.get? b=some o->b≠X.env.locals:=λb o e=>Av (AK (Am e) I.ok.above)
 have neC:∀ b o,X.s₀.heap.get? b=some o->b ∉ X.ex->b ∉ ch:=λb o e hx hb=>by
  rcases (hch b hb).1 with z|z
  ·exact hx z
  ·exact absurd (AK (Am e) z) (BC _)
 have cellK:∀ x c,X.env.cells.lookup x=some c->∀ v,s.heap.IsCell c v->h'.IsCell c v:=λx c e v ⟨o,ho,hd⟩=>by
  have nch:c ∉ ch:=λz=>(hch c z).2.2.1 x c e rfl
  by_cases hc:c∈X.fs
  ·obtain ⟨sl,q⟩:=slot c o (I.cne x c e) hc nch ho (I.freeC x c e)
   exact ⟨_,q,hd⟩
  ·exact ⟨o,keep c o (I.cne x c e) hc nch ho (I.freeC x c e),hd⟩
 refine ⟨I.ok,I.os,hg,⟨λb o e n hb hx=>?_,λb o e n hb hx=>?_,λb o e n hx=>?_,λb o e hx=>?_,λb xs e=>tups b xs (I.base.tups b xs e),λb o xs e=>frzs b o xs (I.base.frzs b o xs e),λb ps e=>?_⟩,?_,λx c e=>?_,?_,λx c e=>?_,λp hp=>?_,hok,I.len⟩
 ·exact keep b o (neL b o e) hb (neC b o e hx) (I.base.keep b o e n hb hx) (I.base.free b o e n hx)
 ·obtain ⟨sl,e1⟩:=I.base.slot b o e n hb hx
  obtain ⟨sl',e2⟩:=slot b _ (neL b o e) hb (neC b o e hx) e1 (I.base.free b o e n hx);exact ⟨sl',e2⟩
 ·obtain ⟨o',e1⟩:=I.base.there b o e hx
  exact free b o' (neC b o e hx) e1 (I.base.free b o e n hx)
 ·obtain ⟨o',e1⟩:=I.base.there b o e hx
  exact there b o' (neC b o e hx) e1
 ·obtain ⟨m1,e1⟩:=I.base.tbls b ps e
  obtain ⟨m2,e2⟩:=tbls b _ e1;exact ⟨m1 ++ m2,by rw[e2,Array.append_assoc]⟩
 ·obtain ⟨m,hn,hl⟩:=I.loc
  refine ⟨m,ns m hn,λi x v e1 e2 e3=>?_⟩;obtain ⟨u,r,l⟩:=hl i x v e1 e2 e3;refine ⟨u,r,?_⟩
  rcases l with l|⟨k,c,e,z⟩
  ·exact .inl l
  ·exact .inr ⟨k,c,e,cellK x c e _ z⟩
 ·obtain ⟨v,z⟩:=I.cell x c e
  exact ⟨v,cellK x c e v z⟩
 ·obtain ⟨m,⟨o,_,_,ho,_⟩,_⟩:=I.loc
  exact free _ o (λz=>(hch _ z).2.1 rfl) ho I.free
 ·obtain ⟨v,o,ho,hd⟩:=I.cell x c e
  exact free c o (λz=>(hch c z).2.2.1 x c e rfl) ho (I.freeC x c e)
 ·obtain ⟨e,n,ne,nf,d⟩:=I.pin p hp
  have nch:p.1 ∉ ch:=λz=>(hch p.1 z).2.2.2 p hp rfl
  exact ⟨keep p.1 p.2 ne nf nch e n,free p.1 p.2 nch e n,ne,nf,d⟩
theorem Inv.un {t':Nat} (I:Inv X pins σ H s) (u:Un X.fs [] H H' s.heap h') (hok:HOk X.prog X.w H' h'):Inv X pins σ H' { s with heap:=h',toks:=t' }:=by
 obtain ⟨m,⟨o,es,ep,ho,r⟩,_⟩:=id I.loc;obtain ⟨sl,hL⟩:=u.any ho I.free (by simp);exact I.step (g':=s.gens) (d':=s.drawn) (ch:=[]) (λ_ z=>nomatch z) (λb o _ hb _ e n=>u.keep b o e n hb (by simp)) (λb o _ hb _ e n=>u.slot b o e n hb (by simp)) (λb o _ e n=>u.free b o e n (by simp)) (λb o _ e=>u.there b o e (by simp)) u.tups u.frzs u.tbls (λm' hm=>by
  obtain ⟨o',es',ep',ho',r'⟩:=hm;rw[ho] at ho';cases ho';exact ⟨_,es',ep',hL,r'⟩) hok I.bare
theorem Inv.call {g':Array GenState} {t':Nat} {d':Drawn} {ch:List Addr} (I:Inv X pins σ H s) (u:Un (frs X.stack) ch H H' s.heap h') (hok:HOk X.prog X.w H' h') (hg:AllBare g')
  (hch:∀ b∈ch,(b∈X.ex\/X.s₀.heap.objs.size<=b)/\b≠X.env.locals/\(∀ x c,X.env.cells.lookup x=some c->c≠b)/\∀ p∈X.pn ++ pins,p.1≠b) :
  Inv X pins σ H' { s with heap:=h',gens:=g',drawn:=d',toks:=t' }:=by
 obtain ⟨m,⟨o,es,ep,ho,r⟩,_⟩:=id I.loc;obtain ⟨sl,hL⟩:=u.any ho I.free λz=>(hch _ z).2.1 rfl
 exact I.step (ch:=ch) hch (λb o hL hb hc e n=>u.keep b o e n (λz=>(Ak.mp (I.stkSub b z)).elim hL hb) hc) (λb o _ _ hc e n=>u.any e n hc) (λb o hc e n=>u.free b o e n hc) (λb o hc e=>u.there b o e hc) u.tups u.frzs u.tbls (λm' hm=>by
  obtain ⟨o',es',ep',ho',r'⟩:=hm;rw[ho] at ho';cases ho';exact ⟨_,es',ep',hL,r'⟩) hok hg
theorem Inv.turned {t':Nat} {it:Addr} (I:Inv X pins σ H s) (k:∀ b o,b≠it->s.heap.get? b=some o->h'.get? b=some o) (hn:H it=none) (hL:it≠X.env.locals)
  (h1:it∈X.ex\/X.s₀.heap.objs.size<=it) (h2:∀ x c,X.env.cells.lookup x=some c->c≠it) (h3:∀ p∈X.pn ++ pins,p.1≠it):Inv X pins σ H { s with heap:=h',toks:=t' }:=by
 have nit:∀ b u,H b=some u->b≠it:=λb u e z=>by rw[z,hn] at e;cases e
 refine I.step (g':=s.gens) (d':=s.drawn) (ch:=[it]) (λb hb=>?_) (λb o _ _ hc e _=>k b o (λz=>hc (by simp[z])) e) (λb o _ _ hc e _=>⟨o.slots,k b o (λz=>hc (by simp[z])) e⟩) (λ_ _ _ _ n=>n)
  (λb o hc e=>⟨o,k b o (λz=>hc (by simp[z])) e⟩) (λ_ _ e=>e) (λ_ _ _ e=>e) (λb ps e=>⟨#[],by rw[e];simp⟩) (λm hm=>?_) (λb u e=>?_) I.bare
 ·have e:b=it:=by simpa using hb
  subst e;exact ⟨h1,hL,h2,h3⟩
 ·obtain ⟨o,es,ep,ho,r⟩:=hm
  exact ⟨o,es,ep,k _ o (AY hL) ho,r⟩
 ·refine (I.hok b u e).stay (λc v hc q=>k c v ?_ q) (λ_ q=>q) λ_ _ q=>q
  rcases hc with z|z
  ·rw[z];exact nit b u e
  ·exact nit c _ z
theorem Inv.tok (I:Inv X pins σ H s) (t:Nat):Inv X pins σ H { s with toks:=t }:=I.un (h':=s.heap) (t':=t) Un.refl I.hok
theorem Inv.kept {t':Nat} (I:Inv X pins σ H s) (k:∀ b u,s.heap.get? b=some u->h'.get? b=some u):Inv X pins σ H { s with heap:=h',toks:=t' }:=I.un (Un.kept k) (I.hok.kept k)
theorem Inv.laid {a:Addr} {o:HO} {t':Nat} (I:Inv X pins σ H s) (k:∀ b u,s.heap.get? b=some u->h'.get? b=some u) (hp:s.heap.objs.size<=a) (new:ObjOk X.prog X.w (upd H a o) h' a o) :
  Inv X pins σ (upd H a o) { s with heap:=h',toks:=t' }:=I.un (Un.laid k hp (I.hok.fresh hp)) (I.hok.laid k hp new)
theorem Inv.write {x e:Addr} {o:HO} {t':Nat} (I:Inv X pins σ H s) (mu:Mut (H x)) (he:e=x\/H e=some (.own x)) (k:∀ b u,b≠e->s.heap.get? b=some u->h'.get? b=some u) (heo:∃ u,h'.get? e=some u)
  (new:ObjOk X.prog X.w (upd H x o) h' x o):Inv X pins σ (upd H x o) { s with heap:=h',toks:=t' }:=I.un (Un.write mu he k heo) (I.hok.write mu he k heo new)
theorem Inv.weak {σ':List (Option V)} (I:Inv X pins σ H s) (hl:σ'.length=σ.length) (w:∀ (i:Nat) v,σ'[i]?=some (some v)->σ[i]?=some (some v)):Inv X pins σ' H s:=
 ⟨I.ok,I.os,I.bare,I.base,let ⟨m,hn,hl'⟩:=I.loc;⟨m,hn,λi x v e1 e2 e3=>hl' i x v e1 (w i v e2) e3⟩,I.cell,I.free,I.freeC,I.pin,I.hok,hl.trans I.len⟩
theorem Inv.pins_of {pins':List (Addr×Obj)} (I:Inv X pins σ H s) (h:∀ p∈pins',s.heap.get? p.1=some p.2/\H p.1=none/\p.1≠X.env.locals/\p.1 ∉ X.fs/\∀ v,p.2.data≠.cell v):Inv X pins' σ H s:=
 ⟨I.ok,I.os,I.bare,I.base,I.loc,I.cell,I.free,I.freeC,λp hp=>(AA.mp hp).elim (λz=>I.pin p (Ck _ z)) (h p),I.hok,I.len⟩
theorem qke {N:List Str} (hN:N.Nodup) {i j:Nat} {x:Str} (a:N[i]?=some x) (b:N[j]?=some x):i=j:=by
 obtain ⟨h1,e1⟩:=Ai.mp a;obtain ⟨h2,e2⟩:=Ai.mp b;exact (Dj hN).mp (e1.trans e2.symm)
theorem qra {M:Model} {A:Around} {E:Value->Shared->Prop} {i:Nat} {x:Str} {v:V} {u:Value} {Q:Unit->Shared->Prop} (I:Inv X pins σ H s) (hN:X.N.Nodup) (hi:X.N[i]?=some x) (hx:Loc X.env.scope x) (r:RelV v u)
  (h:∀ s',Inv X pins (σ.set i (some v)) H s'->(∃ a,Heap.SameBut a s.heap s'.heap/\(a=X.env.locals\/X.env.cells.lookup x=some a))->Q () s') (hf:X.fn x=true\/X.env.scope.names.lookup x=some .local:=by first|exact .inl rfl|exact .inr rfl|assumption):wpAny M A (storeName X.env x u) Q E s:=by
 obtain ⟨m,hn,hl⟩:=id I.loc;have hcls:(X.env.scope.kind == .class || (X.env.scope.kind == .module && X.env.locals != X.env.globals))=false:=by rw[I.ok.kind];rfl
 have hiσ:i<σ.length:=by rw[I.len];exact (Ai.mp hi).1
 have cne:=I.cne;have tracked:∀ {a:Addr} {h':Heap},(∃ o,s.heap.get? a=some o/\H a=none)->Heap.SameBut a s.heap h'->HOk X.prog X.w H h':=fun {a h'} ha hs b ob e=>by
  obtain ⟨_,_,hfree⟩:=ha;refine (I.hok b ob e).stay (λc w' hc q=>(hs.2 c ?_).trans q) (λ_ q=>q) λ_ _ q=>q
  rintro rfl
  rcases hc with rfl|hc
  ·rw[hfree] at e;cases e
  ·rw[hfree] at hc;cases hc
 rcases hx with hk|hk
 ·refine wpAny_storeName_local hk hn (λh' hn' hs=>?_) hcls
  obtain ⟨oL,_,_,hoL,_⟩:=id hn;refine h _ ⟨I.ok,I.os,I.bare,⟨λb o e n hb hx=>?_,λb o e n hb hx=>?_,I.base.free,λb o e hx=>?_,I.base.tups,I.base.frzs,I.base.tbls⟩,⟨_,hn',λj y v' e1 e2 e3=>?_⟩,λy c e=>?_,I.free,I.freeC,λp hp=>?_,tracked ⟨oL,hoL,I.free⟩ hs,by simpa using I.len⟩ ⟨_,hs,.inl rfl⟩
  ·exact (hs.2 b (Av (AK (Am e) I.ok.above))).trans (I.base.keep b o e n hb hx)
  ·obtain ⟨sl,e1⟩:=I.base.slot b o e n hb hx
   exact ⟨sl,(hs.2 b (Av (AK (Am e) I.ok.above))).trans e1⟩
  ·obtain ⟨o',e1⟩:=I.base.there b o e hx
   exact ⟨o',(hs.2 b (Av (AK (Am e) I.ok.above))).trans e1⟩
  ·by_cases hj:j=i
   ·subst hj
    rw[hi] at e1;cases e1;rw[Ds hiσ] at e2;cases e2;exact ⟨u,r,.inl ⟨hk,by simp⟩⟩
   ·rw[Bg (AY hj)] at e2
    obtain ⟨u',r',q⟩:=hl j y v' e1 e2 e3;refine ⟨u',r',?_⟩
    rcases q with ⟨k,e⟩|⟨k,c,e,z⟩
    ·refine .inl ⟨k,?_⟩
     have:y≠x:=λe=>hj (qke hN e1 (e ▸ hi))
     simp[this,e]
    ·exact .inr ⟨k,c,e,z.sameBut hs (cne y c e)⟩
  ·obtain ⟨w',z⟩:=I.cell y c e
   exact ⟨w',z.sameBut hs (cne y c e)⟩
  ·obtain ⟨e,n,ne,nf,d⟩:=I.pin p hp
   exact ⟨(hs.2 p.1 ne).trans e,n,ne,nf,d⟩
 ·have hfn:X.fn x=true:=by
   rcases hf with z|z
   ·exact z
   ·rw[z] at hk;cases hk
  obtain ⟨c,hc⟩:=I.ok.has x (.inl hk);obtain ⟨w',z⟩:=I.cell x c hc;refine wpAny_storeName_cell I.ok.kind hk hc z (λh' hc' hs=>?_);obtain ⟨oc,hoc,hocd⟩:=id z;refine h { s with heap:=h' } ⟨I.ok,I.os,I.bare,⟨λb o e n hb hx=>?_,λb o e n hb hx=>?_,I.base.free,λb o e hx=>?_,I.base.tups,I.base.frzs,I.base.tbls⟩,⟨m,hn.sameBut hs (AY (cne x c hc)),λj y v' e1 e2 e3=>?_⟩,λy c' e=>?_,I.free,I.freeC,λp hp=>?_,tracked ⟨oc,hoc,I.freeC x c hc⟩ hs,by simpa using I.len⟩ ⟨c,hs,.inr hc⟩
  ·exact (hs.2 b (Av (AK (Am e) (I.ok.cab x c hfn hc)))).trans (I.base.keep b o e n hb hx)
  ·obtain ⟨sl,e1⟩:=I.base.slot b o e n hb hx
   exact ⟨sl,(hs.2 b (Av (AK (Am e) (I.ok.cab x c hfn hc)))).trans e1⟩
  ·obtain ⟨o',e1⟩:=I.base.there b o e hx
   exact ⟨o',(hs.2 b (Av (AK (Am e) (I.ok.cab x c hfn hc)))).trans e1⟩
  ·by_cases hj:j=i
   ·subst hj
    rw[hi] at e1;cases e1;rw[Ds hiσ] at e2;cases e2;exact ⟨u,r,.inr ⟨.inl hk,c,hc,hc'⟩⟩
   ·rw[Bg (AY hj)] at e2
    obtain ⟨u',r',q⟩:=hl j y v' e1 e2 e3;refine ⟨u',r',?_⟩
    rcases q with q|⟨k,c',e,z'⟩
    ·exact .inl q
    ·refine .inr ⟨k,c',e,z'.sameBut hs ?_⟩
     rintro rfl;exact hj (qke hN e1 (I.ok.inj _ _ _ e hc ▸ hi))
  ·by_cases hcc:c'=c
   ·subst hcc;exact ⟨_,hc'⟩
   ·obtain ⟨w2,z2⟩:=I.cell y c' e
    exact ⟨w2,z2.sameBut hs hcc⟩
  ·obtain ⟨e,n,ne,nf,d⟩:=I.pin p hp
   refine ⟨(hs.2 p.1 ?_).trans e,n,ne,nf,d⟩;intro q;rw[q,hoc] at e;have q':oc=p.2:=AJ e;exact d w' (by rw[<- q'];exact hocd)
theorem qkf {M:Model} {A:Around} {E:Value->Shared->Prop} {i:Nat} {x:Str} {v:V} {u:Value} {Q:Unit->Shared->Prop} (I:Inv X pins σ H s) (hN:X.N.Nodup) (hi:X.N[i]?=some x) (hx:Loc X.env.scope x) (r:RelV v u)
  (h:∀ s',Inv X pins (σ.set i (some v)) H s'->Q () s') (hf:X.fn x=true\/X.env.scope.names.lookup x=some .local:=by first|exact .inl rfl|exact .inr rfl|assumption):wpAny M A (storeName X.env x u) Q E s:=
 qra I hN hi hx r (λs' I' _=>h s' I') hf
theorem Inv.call' {s':Shared} {ch:List Addr} (I:Inv X pins σ H s) (ho:s'.os=s.os) (u:Un (frs X.stack) ch H H' s.heap s'.heap) (hok:HOk X.prog X.w H' s'.heap) (hg:AllBare s'.gens)
  (hch:∀ b∈ch,(b∈X.ex\/X.s₀.heap.objs.size<=b)/\b≠X.env.locals/\(∀ x c,X.env.cells.lookup x=some c->c≠b)/\∀ p∈X.pn ++ pins,p.1≠b):Inv X pins σ H' s':=by
 obtain ⟨h',g',d',t',o'⟩:=s';have e:o'=s.os:=ho;subst e;exact I.call (g':=g') (t':=t') (d':=d') u hok hg hch
end
abbrev XK:=Value->Option Addr->Hp->Prop
abbrev St:=List (Option V)
abbrev VK:=V->Hp->Prop
abbrev TE:=St->Hp->VK->Prop
abbrev TT:=St->Hp->(Bool->Hp->Prop)->Prop
abbrev TA:=St->Hp->(List V->Hp->Prop)->Prop
structure Ends where
 nx:St->Hp->Prop
 rt:VK
 bk:St->Hp->Prop:=λ_ _=>False
 ct:St->Hp->Prop:=λ_ _=>False
abbrev TS:=Ends->St->Hp->Prop
def EP (X:Cx) (pins:List (Addr×Obj)) (σ:St) (Q:VK) (u:Value) (s':Shared):Prop:=∃ v H',Inv X pins σ H' s'/\RelV v u/\Q v H'
def TP (X:Cx) (pins:List (Addr×Obj)) (σ:St) (Q:Bool->Hp->Prop) (b:Bool) (s':Shared):Prop:=∃ H',Inv X pins σ H' s'/\Q b H'
def AP (X:Cx) (pins:List (Addr×Obj)) (σ:St) (Q:List V->Hp->Prop) (us:List Value) (s':Shared):Prop:=∃ vs H',Inv X pins σ H' s'/\Vals vs us/\Q vs H'
def SP (X:Cx) (pins:List (Addr×Obj)) (D:Ends) (f:Flow) (s':Shared):Prop:=
 match f with
 | .next=>∃ σ' H',Inv X pins σ' H' s'/\D.nx σ' H'
 | .brk=>∃ σ' H',Inv X pins σ' H' s'/\D.bk σ' H'
 | .cont=>∃ σ' H',Inv X pins σ' H' s'/\D.ct σ' H'
 | .ret u=>∃ v σ' H',Inv X pins σ' H' s'/\RelV v u/\D.rt v H'
def PE (X:Cx) (e:Expr) (t:TE):Prop:=
 ∀ (pins:List (Addr×Obj)) (s:Shared) (σ:St) (H:Hp) (Q:VK),Inv X pins σ H s->t σ H Q->wpAny (model X.prog X.w) X.A (eval e X.env) (EP X pins σ Q) X.xe s
def PT (X:Cx) (e:Expr) (t:TT):Prop:=
 ∀ (pins:List (Addr×Obj)) (s:Shared) (σ:St) (H:Hp) (Q:Bool->Hp->Prop),Inv X pins σ H s->t σ H Q->wpAny (model X.prog X.w) X.A (isTrue e X.env (eval e X.env)) (TP X pins σ Q) X.xe s
def PW (X:Cx) (e:Expr) (t:TT):Prop:=
 ∀ (whole:Sem Value) (pins:List (Addr×Obj)) (s:Shared) (σ:St) (H:Hp) (Q:Bool->Hp->Prop),Inv X pins σ H s->t σ H Q->wpAny (model X.prog X.w) X.A (isTrue e X.env whole) (TP X pins σ Q) X.xe s
theorem PW.pt {X:Cx} {e:Expr} {t:TT} (h:PW X e t):PT X e t:=h _
def PA (X:Cx) (es:List Expr) (t:TA):Prop:=
 ∀ (pos:Pos) (pins:List (Addr×Obj)) (s:Shared) (σ:St) (H:Hp) (Q:List V->Hp->Prop),Inv X pins σ H s->t σ H Q->wpAny (model X.prog X.w) X.A (spliced (backTo pos (starEach es X.env))) (AP X pins σ Q) X.xe s
def PS (X:Cx) (st:Stmt) (t:TS):Prop:=
 ∀ (pins:List (Addr×Obj)) (s:Shared) (σ:St) (H:Hp) (D:Ends),Inv X pins σ H s->t D σ H->wpAny (model X.prog X.w) X.A (exec st X.env) (SP X pins D) X.xe s
def PSs (X:Cx) (st:List Stmt) (t:TS):Prop:=
 ∀ (pins:List (Addr×Obj)) (s:Shared) (σ:St) (H:Hp) (D:Ends),Inv X pins σ H s->t D σ H->wpAny (model X.prog X.w) X.A (execs st X.env) (SP X pins D) X.xe s
theorem thn {α:Type} {t:Sem α} {Q Q':α->Shared->Prop} {M:Model} {A:Around} {E:Value->Shared->Prop} {s:Shared} (h:wpAny M A t Q E s) (hQ:∀ a s,Q a s->Q' a s):wpAny M A t Q' E s:=A7 h hQ λ_ _ x=>x
open PySem PySem.Spec PyProof.Rows
section
variable {X:Cx}
inductive tVarS (i:Nat) (σ:St) (H:Hp) (Q:VK):Prop
 | mk (v:V) (h:σ[i]?=some (some v)) (k:Q v H)
def qCc (i:Nat):TE:=λσ H Q=>tVarS i σ H Q
def tC (v:V):TE:=λ_ H Q=>Q v H
theorem qz5 {i:Nat} {x:Str} {pos:Pos} (hN:X.N[i]?=some x) (hv:Vis X.env.scope x) (hd:(x == ("__debug__" : Str))=false:=by decide) (hcd:(x == ("__classdict__" : Str))=false:=by decide):PE X (.Name x pos) (qCc i):=by
 intro pins s σ H Q I h;obtain ⟨v,e,h⟩:=h;obtain ⟨m,hn,hl⟩:=I.loc;obtain ⟨u,r,l⟩:=hl i x v hN e hv;have fin:EP X pins σ Q u s:=⟨v,H,I,r,h⟩
 rcases l with ⟨hk,hm⟩|⟨hk,c,hc,hcell⟩
 ·exact wpAny_Name (wpAny_loadName_local I.ok.kind hk hn hm fin) hd
 ·rcases hk with hk|hk
  ·exact wpAny_Name (wpAny_loadName_cell I.ok.kind hk hc hcell fin) hd
  ·exact wpAny_Name (wpAny_loadName_free I.ok.kind hk hc hcell fin hcd) hd
theorem qaa {i j pos}:PE X (.Constant (.int i) j pos) (tC (.int i)):=λ_ _ _ H _ I h=>wpAny_Constant_int ⟨.int i,H,I.tok _,⟨_,rfl⟩,h⟩
theorem qd2 {b j pos}:PE X (.Constant (.bool b) j pos) (tC (.bl b)):=λ_ _ _ H _ I h=>Constant_bool ⟨.bl b,H,I,rfl,h⟩
theorem qbp {j pos}:PE X (.Constant .none j pos) (tC .non):=λ_ _ _ H _ I h=>Constant_none ⟨.non,H,I,rfl,h⟩
theorem qbr {x j pos}:PE X (.Constant (.str x) j pos) (tC (.str x)):=λ_ _ _ H _ I h=>Calls.Constant_str ⟨.str x,H,I.tok _,⟨_,rfl⟩,h⟩
def Gl (X:Cx) (x:Str):Prop:=X.env.kindOf x=some .globalImplicit
theorem qdg {E:Value->Shared->Prop} {pins:List (Addr×Obj)} {s:Shared} {σ:St} {H:Hp} {x:Str} {u:Value} {pos:Pos} {Q:Value->Shared->Prop} (I:Inv X pins σ H s) (hg:Gl X x) (hm:X.mg x=some u) (h:Q u s)
  (hd:(x == ("__debug__" : Str))=false:=by decide):wpAny (model X.prog X.w) X.A (eval (.Name x pos) X.env) Q E s:=
 Ep I.ok.kind hg (Calls.loadGlobal_global (by rw[I.ok.glob];exact I.mod.glob.keeps I.bk) hm h) hd
theorem qjn {E:Value->Shared->Prop} {pins:List (Addr×Obj)} {s:Shared} {σ:St} {H:Hp} {x:Str} {u:Value} {pos:Pos} {Q:Value->Shared->Prop} (I:Inv X pins σ H s) (hg:Gl X x) (hm:X.mg x=none) (hv:bootBuiltins x=some u) (h:Q u s)
  (hn:x ≠ "__name__" :=by decide) (hd:(x == ("__debug__" : Str))=false:=by decide):wpAny (model X.prog X.w) X.A (eval (.Name x pos) X.env) Q E s:=by
 obtain ⟨mb,h1,h2⟩:=I.mod.blt;exact Ep I.ok.kind hg (Calls.loadGlobal_builtin (by rw[I.ok.glob];exact I.mod.glob.keeps I.bk) hm (by rw[I.ok.blt];exact h1.keeps I.bk) ((h2 x hn).trans hv) h) hd
theorem qe9 {x:Str} {v:V} {u:Value} {pos:Pos} (hg:Gl X x) (hm:X.mg x=some u) (r:RelV v u) (hd:(x == ("__debug__" : Str))=false:=by decide):PE X (.Name x pos) (tC v):=
 λ_ _ _ H _ I h=>qdg I hg hm ⟨v,H,I,r,h⟩ hd
theorem qkg {x:Str} {v:V} {u:Value} {pos:Pos} (hg:Gl X x) (hm:X.mg x=none) (hv:bootBuiltins x=some u) (r:RelV v u) (hn:x ≠ "__name__" :=by decide) (hd:(x == ("__debug__" : Str))=false:=by decide):PE X (.Name x pos) (tC v):=
 λ_ _ _ H _ I h=>qjn I hg hm hv ⟨v,H,I,r,h⟩ hn hd
variable {a b:Expr} {ta tb:TE} {pos:Pos}
def PC (X:Cx) (op:CmpOp) (a b:Expr) (t:TE):Prop:=
 ∀ (pins:List (Addr×Obj)) (s:Shared) (σ:St) (H:Hp) (Q:VK),Inv X pins σ H s->t σ H Q ->
  wpAny (model X.prog X.w) X.A (eval a X.env) (λv s₁=>wpAny (model X.prog X.w) X.A (eval b X.env) (λu s₂=>wpAny (model X.prog X.w) X.A (compareOp op v u) (EP X pins σ Q) X.xe s₂) X.xe s₁) X.xe s
theorem quo (b:Expr) {op:CmpOp} (h:op≠.In) (h2:op≠.NotIn):behindInMarks op b=false:=by
 have e1:(op == CmpOp.In)=false:=by cases op<;>first|rfl|exact absurd rfl h
 have e2:(op == CmpOp.NotIn)=false:=by cases op<;>first|rfl|exact absurd rfl h2
 cases b<;>simp[behindInMarks,e1,e2]
inductive tBS (x:V) (H:Hp) (Q:Bool->Hp->Prop):Prop
 | mk (c:Bool) (h:x=.bl c) (k:Q c H)
def tB (t:TE):TT:=λσ H Q=>t σ H λx H1=>tBS x H1 Q
theorem qrb {op:CmpOp} {t:TE} (h:PC X op a b t) (h1:behindInMarks op b=false:=by first|exact quo _ (by decide) (by decide)|rfl):PT X (.Compare a [op] [b] pos) (tB t):=by
 intro pins s σ H Q I hw;refine EZ (thn (h pins s σ H _ I hw) λv s1 h1=>thn h1 λu s2 h2=>thn h2 λc s3 hq__=>?_) h1;obtain ⟨x,H1,I1,r1,q1⟩:=hq__;obtain ⟨d,rfl,q⟩:=q1;cases r1;exact BP ⟨H1,I1,q⟩
theorem qct {e:Expr} {t:TE} (h:PE X e t) (he:∀ whole,isTrue e X.env whole=(do let v <- whole;standAt e.pos;holding [v] (truthy v)):=by intro _;rfl):PT X e (tB t):=by
 intro pins s σ H Q I hw;refine isTrue_plain (thn (h pins s σ H _ I hw) λv s1 hq__=>?_) (he _);obtain ⟨x,H1,I1,r1,q1⟩:=hq__;obtain ⟨d,rfl,q⟩:=q1;cases r1;exact BP ⟨H1,I1,q⟩
variable {tA tB':TT} {rest:List Expr}
def qEc (t u:TT):TT:=λσ H Q=>t σ H λc H1=>if c=true then u σ H1 Q else Q false H1
def tOr (t u:TT):TT:=λσ H Q=>t σ H λc H1=>if c=true then Q true H1 else u σ H1 Q
def qEd (t:TT):TT:=λσ H Q=>t σ H λc H1=>Q (!c) H1
theorem qkh (ha:PT X a tA):PW X (.BoolOp .And [a] pos) tA:=by
 intro wh pins s σ H Q I h;refine isTrue_and (thn (ha pins s σ H Q I h) λc s1 e=>?_)
 cases c with
 | true=>exact isTrue_and_nil e
 | false=>exact e
theorem qe0 (ha:PT X a tA):PW X (.BoolOp .Or [a] pos) tA:=by
 intro wh pins s σ H Q I h;refine isTrue_or (thn (ha pins s σ H Q I h) λc s1 e=>?_)
 cases c with
 | false=>exact isTrue_or_nil e
 | true=>exact e
theorem qod (ha:PT X a tA) (hb:PW X (.BoolOp .And (b :: rest) pos) tB'):PW X (.BoolOp .And (a :: b :: rest) pos) (qEc tA tB'):=by
 intro wh pins s σ H Q I h;refine isTrue_and (thn (ha pins s σ H _ I h) λc s1 hq__=>?_);obtain ⟨H1,I1,q1⟩:=hq__
 cases c with
 | true=>exact hb wh pins s1 σ H1 Q I1 q1
 | false=>exact ⟨H1,I1,q1⟩
theorem qhb (ha:PT X a tA) (hb:PW X (.BoolOp .Or (b :: rest) pos) tB'):PW X (.BoolOp .Or (a :: b :: rest) pos) (tOr tA tB'):=by
 intro wh pins s σ H Q I h;refine isTrue_or (thn (ha pins s σ H _ I h) λc s1 hq__=>?_);obtain ⟨H1,I1,q1⟩:=hq__
 cases c with
 | true=>exact ⟨H1,I1,q1⟩
 | false=>exact hb wh pins s1 σ H1 Q I1 q1
theorem qcz (ha:PT X a tA):PT X (.UnaryOp .Not a pos) (qEd tA):=by
 intro pins s σ H Q I h;exact isTrue_not (ha pins s σ H (λc H1=>Q (!c) H1) I h)
inductive tAndVS (tb:TE) (σ:St) (x:V) (H:Hp) (Q:VK):Prop
 | mk (c:Bool) (h:x=.bl c) (k:if c=true then tb σ H Q else Q (.bl false) H)
def qCl (ta tb:TE):TE:=λσ H Q=>ta σ H λx H1=>tAndVS tb σ x H1 Q
inductive tOrVS (tb:TE) (σ:St) (x:V) (H:Hp) (Q:VK):Prop
 | mk (c:Bool) (h:x=.bl c) (k:if c=true then Q (.bl true) H else tb σ H Q)
def qEe (ta tb:TE):TE:=λσ H Q=>ta σ H λx H1=>tOrVS tb σ x H1 Q
inductive tNotVS (x:V) (H:Hp) (Q:VK):Prop
 | mk (c:Bool) (h:x=.bl c) (k:Q (.bl (!c)) H)
def qCm (ta:TE):TE:=λσ H Q=>ta σ H λx H1=>tNotVS x H1 Q
theorem qfm {op} {t:TE} (h:PE X a t):PE X (.BoolOp op [a] pos) t:=λpins s σ H Q I hw=>BoolOp_one (h pins s σ H Q I hw)
theorem qd6 (ha:PE X a ta) (hb:PE X (.BoolOp .And (b :: rest) pos) tb):PE X (.BoolOp .And (a :: b :: rest) pos) (qCl ta tb):=by
 intro pins s σ H Q I h;refine BoolOp_and (thn (ha pins s σ H _ I h) λv s1 hq__=>?_);obtain ⟨x,H1,I1,r1,q1⟩:=hq__;obtain ⟨c,rfl,q1⟩:=q1;cases r1;refine BP ?_
 cases c with
 | true=>exact hb pins s1 σ H1 Q I1 q1
 | false=>exact ⟨.bl false,H1,I1,rfl,q1⟩
theorem qCn (ha:PE X a ta) (hb:PE X (.BoolOp .Or (b :: rest) pos) tb):PE X (.BoolOp .Or (a :: b :: rest) pos) (qEe ta tb):=by
 intro pins s σ H Q I h;refine BoolOp_or (thn (ha pins s σ H _ I h) λv s1 hq__=>?_);obtain ⟨x,H1,I1,r1,q1⟩:=hq__;obtain ⟨c,rfl,q1⟩:=q1;cases r1;refine BP ?_
 cases c with
 | false=>exact hb pins s1 σ H1 Q I1 q1
 | true=>exact ⟨.bl true,H1,I1,rfl,q1⟩
theorem qv8 (ha:PE X a ta):PE X (.UnaryOp .Not a pos) (qCm ta):=by
 intro pins s σ H Q I h;refine UnaryOp_ (thn (ha pins s σ H _ I h) λv s1 hq__=>?_);obtain ⟨x,H1,I1,r1,q1⟩:=hq__;obtain ⟨c,rfl,q1⟩:=q1;cases r1;exact not_of (BP ⟨.bl (!c),H1,I1,rfl,q1⟩)
def tIf (t:TT) (ta tb:TE):TE:=λσ H Q=>t σ H λc H1=>if c=true then ta σ H1 Q else tb σ H1 Q
theorem qup {c:Expr} (hc:PT X c tA) (ha:PE X a ta) (hb:PE X b tb):PE X (.IfExp c a b pos) (tIf tA ta tb):=by
 intro pins s σ H Q I h;refine wpAny_IfExp (thn (hc pins s σ H _ I h) λd s1 hq__=>?_);obtain ⟨H1,I1,q1⟩:=hq__
 cases d with
 | true=>exact ha pins s1 σ H1 Q I1 q1
 | false=>exact hb pins s1 σ H1 Q I1 q1
end
open PySem PySem.Spec PyProof.Rows
def SqL (K:Frag) (H:Hp) (a:Addr) (xs:List V):Prop:=
 Rd H a (.lst xs) \/
  ∃ (o:Obj) (its:Array Value) (n:Nat),K.lookup a=some o/\o.cls=.type "list" /\ o.dict=none/\o.data=.seq its n/\its.size<=sizeLine/\Vals xs its.toList
def SqT (K:Frag) (H:Hp) (a:Addr) (xs:List V):Prop:=
 Rd H a (.tup xs) \/
  ∃ (o:Obj) (its:Array Value) (n:Nat),K.lookup a=some o/\o.cls=.type "tuple" /\ o.data=.seq its n/\its.size<=sizeLine/\Vals xs its.toList
def qEf:Value->Option V
 | .none=>some .non
 | .bool b=>some (.bl b)
 | .int i _=>some (.int i)
 | .str x _=>some (.str x)
 | .bytes b _=>some (.byt b)
 | .float b _=>some (.flt b)
 | .ref a=>some (.ref a)
 | .type n=>some (.ty n)
 | _=>none
theorem RelV.abs {x:V} {u:Value} (r:RelV x u):qEf u=some x:=by
 cases x with
 | non=>cases r;rfl
 | bl _=>cases r;rfl
 | int _=>obtain ⟨t,rfl⟩:=r;rfl
 | str _=>obtain ⟨t,rfl⟩:=r;rfl
 | byt _=>obtain ⟨t,rfl⟩:=r;rfl
 | flt _=>obtain ⟨t,rfl⟩:=r;rfl
 | ref _=>cases r;rfl
 | ty _=>cases r;rfl
theorem RelV.inj {x y:V} {u:Value} (r:RelV x u) (q:RelV y u):x=y:=AJ (r.abs.symm.trans q.abs)
theorem Vals.inj:∀ {xs ys:List V} {us:List Value},Vals xs us->Vals ys us->xs=ys
 | _,_,_,.nil,.nil=>rfl
 | _,_,_,.cons r t,.cons r' t'=>by rw[r.inj r',Vals.inj t t']
section
variable {X:Cx} {pins:List (Addr×Obj)} {σ:St} {H:Hp} {s:Shared} {a:Addr} {xs ys:List V}
theorem SqL.of {K:Frag} (h:H a=some (.lst xs)):SqL K H a xs:=.inl (.inl h)
theorem SqT.of {K:Frag} (h:H a=some (.tup xs)):SqT K H a xs:=.inl (.inl h)
theorem Inv.list (I:Inv X pins σ H s) (h:SqL X.K H a xs):∃ its:List Value,Vals xs its/\PlainL s.heap a its.toArray/\xs.length<=sizeLine:=by
 rcases h with h|⟨o,its,n,hk,hc,hd,hs,hz,r⟩
 ·obtain ⟨z,its,n,r,e⟩:=h.ok I.hok
  exact ⟨its,r,⟨_,n,e,rfl,rfl,rfl⟩,z⟩
 ·refine ⟨its.toList,r,⟨o,n,I.kIn a o hk,hc,hd,by simpa using hs⟩,?_⟩
  have e:=r.length;simp only[Bb] at e;omega
theorem Inv.tuple (I:Inv X pins σ H s) (h:SqT X.K H a xs):∃ its:List Value,Vals xs its/\IsTup s.heap a its.toArray/\xs.length<=sizeLine:=by
 rcases h with h|⟨o,its,n,hk,hc,hs,hz,r⟩
 ·obtain ⟨z,its,r,p⟩:=h.ok I.hok
  exact ⟨its,r,p,z⟩
 ·refine ⟨its.toList,r,⟨o,I.kIn a o hk,hc,n,by simpa using hs⟩,?_⟩
  have e:=r.length;simp only[Bb] at e;omega
theorem Inv.list_inj (I:Inv X pins σ H s) (h:SqL X.K H a xs) (h':SqL X.K H a ys):xs=ys:=by
 obtain ⟨its,r,⟨o,n,e,_,_,d⟩,_⟩:=I.list h;obtain ⟨its',r',⟨o',n',e',_,_,d'⟩,_⟩:=I.list h';rw[e] at e';cases e';rw[d] at d';injection d' with d1 _
 have:its=its':=by simpa using congrArg Array.toList d1
 subst this;exact r.inj r'
end
abbrev Cx.wish (X:Cx) (E:Value->Shared->Prop):Cx:={ X with xe:=E }
abbrev Cx.nox (X:Cx):Cx:=X.wish λ_ _=>False
theorem Cx.Ok.wish {X:Cx} (ok:X.Ok) (E:Value->Shared->Prop):(X.wish E).Ok:=
 ⟨ok.mod,ok.kind,ok.glob,ok.blt,ok.above,ok.inj,ok.has,ok.cab,ok.hd,ok.frames,ok.stk,ok.exf,ok.bs,ok.bsz,ok.noex,ok.exfs,ok.funs,ok.frf⟩
theorem Cx.Ok.unwish {X:Cx} {E:Value->Shared->Prop} (ok:(X.wish E).Ok):X.Ok:=
 ⟨ok.mod,ok.kind,ok.glob,ok.blt,ok.above,ok.inj,ok.has,ok.cab,ok.hd,ok.frames,ok.stk,ok.exf,ok.bs,ok.bsz,ok.noex,ok.exfs,ok.funs,ok.frf⟩
section
variable {X:Cx} {pins:List (Addr×Obj)} {σ:St} {H:Hp} {s:Shared} {E:Value->Shared->Prop}
theorem Inv.wish (I:Inv X pins σ H s) (E:Value->Shared->Prop):Inv (X.wish E) pins σ H s:=⟨I.ok.wish E,I.os,I.bare,I.base,I.loc,I.cell,I.free,I.freeC,I.pin,I.hok,I.len⟩
theorem Inv.unwish (I:Inv (X.wish E) pins σ H s):Inv X pins σ H s:=⟨I.ok.unwish,I.os,I.bare,I.base,I.loc,I.cell,I.free,I.freeC,I.pin,I.hok,I.len⟩
theorem SP.unwish {D:Ends} {f:Flow} {s':Shared} (h:SP (X.wish E) pins D f s'):SP X pins D f s':=by
 cases f with
 | next=>obtain ⟨σ',H',I,q⟩:=h;exact ⟨σ',H',I.unwish,q⟩
 | brk=>obtain ⟨σ',H',I,q⟩:=h;exact ⟨σ',H',I.unwish,q⟩
 | cont=>obtain ⟨σ',H',I,q⟩:=h;exact ⟨σ',H',I.unwish,q⟩
 | ret u=>obtain ⟨v,σ',H',I,r,q⟩:=h;exact ⟨v,σ',H',I.unwish,r,q⟩
theorem PSs.nox {st:List Stmt} {t:TS} (h:PSs X.nox st t):PSs X st t:=λpins s σ H D I hw =>
 A7 (h pins s σ H D (I.wish _) hw) (λ_ _ q=>q.unwish) λ_ _ z=>False.elim z
end
section
variable {X:Cx} {st:Stmt} {rest:List Stmt} {t u:TS} {e:Expr} {te:TE} {pos:Pos}
def qz6:TS:=λD σ H=>D.nx σ H
def qd3 (t u:TS):TS:=λD σ H=>t { D with nx:=u D } σ H
theorem qak:PSs X [] qz6:=λ_ _ σ H _ I h=>Dt ⟨σ,H,I,h⟩
theorem qaj (h1:PS X st t) (h2:PSs X rest u):PSs X (st :: rest) (qd3 t u):=by
 intro pins s σ H D I h;refine wpAny_execs_cons (thn (h1 pins s σ H { D with nx:=u D } I h) λf s1 q=>?_)
 cases f with
 | next =>
  obtain ⟨σ',H',I',q⟩:=q;exact h2 pins s1 σ' H' D I' q
 | ret v=>exact q
 | brk=>exact q
 | cont=>exact q
theorem qad (h1:PS X st t):PSs X [st] t:=by
 intro pins s σ H D I h;refine wpAny_execs_cons (thn (h1 pins s σ H D I h) λf s1 q=>?_)
 cases f with
 | next=>exact Dt q
 | ret v=>exact q
 | brk=>exact q
 | cont=>exact q
theorem Inv.quiet {pins:List (Addr×Obj)} {σ:St} {H:Hp} {s:Shared} (I:Inv X pins σ H s):interactive X.env=false:=by simp[interactive,I.ok.kind]
def qCo (te:TE):TS:=λD σ H=>te σ H λ_ H1=>D.nx σ H1
theorem qat (he:PE X e te) (hs:swapsWith e none pos.line X.env=pure false:=by rfl):PS X (.Expr e pos) (qCo te):=by
 intro pins s σ H D I h;exact wpAny_Expr_any (thn (he pins s σ H _ I h) λv s1 ⟨x,H1,I1,r1,q1⟩=>⟨σ,H1,I1,q1⟩) I.quiet hs
def qEg (te:TE):TS:=λD σ H=>te σ H D.rt
theorem qah (he:PE X e te):PS X (.Return (some e) pos) (qEg te):=by
 intro pins s σ H D I h;exact wpAny_Return_some (thn (he pins s σ H _ I h) λv s1 ⟨x,H1,I1,r1,q1⟩=>⟨x,σ,H1,I1,r1,q1⟩)
def qCp:TS:=λD _ H=>D.rt .non H
theorem qxf:PS X (.Return none pos) qCp:=λ_ _ σ H _ I h=>wpAny_Return_none ⟨.non,σ,H,I,rfl,h⟩
def qEh (c:TT) (t u:TS):TS:=λD σ H=>c σ H λb H1=>if b=true then t D σ H1 else u D σ H1
theorem qa2 {c:Expr} {a b:List Stmt} {tc:TT} (hc:PT X c tc) (ha:PSs X a t) (hb:PSs X b u):PS X (.If c a b pos) (qEh tc t u):=by
 intro pins s σ H D I h;refine wpAny_If (thn (hc pins s σ H _ I h) λd s1 hq__=>?_);obtain ⟨H1,I1,q1⟩:=hq__
 cases d with
 | true=>exact ha pins s1 σ H1 D I1 q1
 | false=>exact hb pins s1 σ H1 D I1 q1
def qz7:TS:=λ_ _ _=>False
theorem qbm:PS X st qz7:=λ_ _ _ _ _ _ h=>h.elim
end
abbrev TG:=V->St->Hp->(St->Hp->Prop)->Prop
abbrev TGs:=List V->St->Hp->(St->Hp->Prop)->Prop
def PG (X:Cx) (target:Expr) (t:TG):Prop:=
 ∀ (pins:List (Addr×Obj)) (s:Shared) (σ:St) (H:Hp) (v:V) (u:Value) (Q:St->Hp->Prop),Inv X pins σ H s->RelV v u->t v σ H Q ->
  wpAny (model X.prog X.w) X.A (assign target X.env u) (λ_ s'=>∃ σ' H',Inv X pins σ' H' s'/\Q σ' H') X.xe s
def PGs (X:Cx) (ts:List Expr) (t:TGs):Prop:=
 ∀ (pins:List (Addr×Obj)) (s:Shared) (σ:St) (H:Hp) (vs:List V) (us:List Value) (Q:St->Hp->Prop),Inv X pins σ H s->Vals vs us->t vs σ H Q ->
  wpAny (model X.prog X.w) X.A (assignInOrder ((assignEach ts X.env).map (·.2)) us) (λ_ s'=>∃ σ' H',Inv X pins σ' H' s'/\Q σ' H') X.xe s
section
variable {X:Cx} {pos:Pos}
def qd7 (i:Nat):TG:=λv σ H Q=>Q (σ.set i (some v)) H
theorem qnf {i:Nat} {x:Str} (hN:X.N.Nodup) (hi:X.N[i]?=some x) (hx:Loc X.env.scope x) (hf:X.fn x=true\/X.env.scope.names.lookup x=some .local:=by first|exact .inl rfl|exact .inr rfl|assumption):PG X (.Name x pos) (qd7 i):=by
 intro pins s σ H v u Q I r h;exact wpAny_assign_Name (qkf I hN hi hx r (λs' I'=>⟨_,H,I',h⟩) hf)
def qxg:TGs:=λvs σ H Q=>vs=[]/\Q σ H
def qd4 (t:TG) (u:TGs):TGs:=λvs σ H Q=>∃ v r,vs=v :: r/\t v σ H λσ' H'=>u r σ' H' Q
theorem qng:PGs X [] qxg:=by
 intro pins s σ H vs us Q I r h;obtain ⟨e,h⟩:=h;subst e;cases r;exact assignInOrder_nil ⟨σ,H,I,h⟩
theorem qcx {e:Expr} {es:List Expr} {t:TG} {u:TGs} (h1:PG X e t) (h2:PGs X es u)
  (hs:(assignEach (e :: es) X.env).map (·.2)=assign e X.env :: (assignEach es X.env).map (·.2):=by rfl):PGs X (e :: es) (qd4 t u):=by
 intro pins s σ H vs us Q I r h;obtain ⟨v,vr,e1,h⟩:=h;subst e1
 cases r with
 | cons r rr =>
  rw[hs];refine assignInOrder_cons (thn (h1 pins s σ H _ _ _ I r h) λ_ s1 hq__=>?_);obtain ⟨σ1,H1,I1,q1⟩:=hq__;exact h2 pins s1 σ1 H1 _ _ Q I1 rr q1
def qxh (K:Frag) (n:Nat) (t:TGs):TG:=λv σ H Q=>∃ a xs,v=.ref a/\SqT K H a xs/\xs.length=n/\t xs σ H Q
theorem qrc {es:List Expr} {k:Nat} {t:TGs} {n:Nat} (hc:X.calm=true) (h:PGs X es t)
  (hn:(assignEach es X.env).length=n:=by rfl) (hst:(assignEach es X.env).findIdx? (·.1)=none:=by rfl):PG X (.Tuple es k pos) (qxh X.K n t):=by
 intro pins s σ H v u Q I r hw;obtain ⟨a,xs,e1,hq,hl,hw⟩:=hw;subst e1;cases r;obtain ⟨its,rv,ht,hz⟩:=I.tuple hq;refine assign_Tuple_tuple (I.ok.hd hc) ht (by simp[hn,<- hl,rv.length]) hst λh' hx=>?_
 have I1:Inv X pins σ H { s with heap:=h' }:=I.kept (t':=s.toks) λb o e=>hx b o (Av (Am e)) e
 exact h pins _ σ H xs _ Q I1 (by simpa using rv) hw
def qCd (te:TE) (g:TG):TS:=λD σ H=>te σ H λx H1=>g x σ H1 D.nx
theorem qv9 {tg e:Expr} {te:TE} {g:TG} (he:PE X e te) (hg:PG X tg g) (hs:swapsWithSole [tg] e pos.line X.env=pure false:=by rfl) (hw:swappedStores [tg] e X.env=pure none:=by rfl)
  (h1:(assignEach [tg] X.env).map (·.2)=[assign tg X.env]:=by rfl):PS X (.Assign [tg] e pos) (qCd te g):=by
 intro pins s σ H D I h;refine wpAny_Assign_stores (thn (he pins s σ H _ I h) λv s1 hq__=>?_) hs hw;obtain ⟨x,H1,I1,r1,q1⟩:=hq__;rw[h1];exact thn (hg pins s1 σ H1 x v _ I1 r1 q1) λ_ s2 q=>q
theorem qoe {i:Nat} {x:Str} {e:Expr} {te:TE} {pos':Pos} (hN:X.N.Nodup) (hi:X.N[i]?=some x) (hx:Loc X.env.scope x) (he:PE X e te) (hs:swapsWith e (some (.Name x pos')) pos.line X.env=pure false:=by rfl) (hf:X.fn x=true\/X.env.scope.names.lookup x=some .local:=by first|exact .inl rfl|exact .inr rfl|assumption) :
  PS X (.Assign [.Name x pos'] e pos) (qCd te (qd7 i)):=by
 intro pins s σ H D I h;refine wpAny_Assign_Name (thn (he pins s σ H _ I h) λv s1 hq__=>?_) hs;obtain ⟨y,H1,I1,r1,q1⟩:=hq__;exact qkf I1 hN hi hx r1 (λs2 I2=>⟨_,H1,I2,q1⟩) hf
end
section
variable {X:Cx} {pos:Pos}
end
structure It where
 go:Nat->Hp->Prop
 yld:Nat->Hp->V->Hp->Prop
 stop:Nat->Hp->Prop
def qof (X:Cx) (pins:List (Addr×Obj)) (H:Hp) (b:Addr):Prop:=
 H b=none/\b≠X.env.locals/\b ∉ X.fs/\(b∈X.ex\/X.s₀.heap.objs.size<=b)/\(∀ x c,X.env.cells.lookup x=some c->c≠b)/\∀ p∈X.pn ++ pins,p.1≠b
theorem Inv.fpOk {X:Cx} {pins:List (Addr×Obj)} {σ:St} {H H':Hp} {s:Shared} {b:Addr} (I:Inv X pins σ H s) (hb:s.heap.objs.size<=b) (hn:H' b=none):qof X pins H' b:=by
 refine ⟨hn,Cn (AK I.lt hb),I.nofs hb,.inr (AR I.sz hb),λx c e z=>?_,λp hp z=>?_⟩
 ·obtain ⟨v,q⟩:=I.cell x c e
  exact absurd (AK q.lt (by rw[z];exact hb)) (BC _)
 ·exact absurd (AK (Am (I.pin p hp).1) (by rw[z];exact hb)) (BC _)
structure Turn (P:Program) (w:World) (K:Frag) (tg:Expr) (J:It) (fp:List Addr) (it:Addr) (tn:Nat->Heap->Prop):Prop where
 mem:it∈fp
 obj:∀ i h,tn i h->∀ b∈fp,∃ o,h.get? b=some o/\∀ v,o.data≠.cell v
 keep:∀ i h h',tn i h->(∀ b∈fp,∀ o,h.get? b=some o->h'.get? b=some o)->tn i h'
 item:∀ (X:Cx),X.prog=P->X.w=w->X.K=K->X.calm=true->∀ (i:Nat) (pins:List (Addr×Obj)) (s:Shared) (σ:St) (H:Hp) (E:Value->Shared->Prop),Inv X pins σ H s->(∀ b∈fp,qof X pins H b)->tn i s.heap->J.go i H ->
  wpAny (model P w) X.A (pyNext (.ref it)) (λr s1=>∃ u,r=some u /\
   wpAny (model P w) X.A (letOwnedTupleGo tg (.ref it) u) (λ_ s2=>∃ x H',Inv X pins σ H' s2/\RelV x u/\J.yld i H x H'/\tn (i+1) s2.heap/\∀ b∈fp,H' b=none) E s1) E s
 done:∀ (X:Cx),X.prog=P->X.w=w->X.K=K->X.calm=true->∀ (i:Nat) (pins:List (Addr×Obj)) (s:Shared) (σ:St) (H:Hp) (E:Value->Shared->Prop),Inv X pins σ H s->(∀ b∈fp,qof X pins H b)->tn i s.heap->J.stop i H ->
  wpAny (model P w) X.A (pyNext (.ref it)) (λr s1=>r=none/\Inv X pins σ H s1) E s
 self:∀ (A:Around) (i:Nat) (s:Shared) (Q:Value->Shared->Prop) (E:Value->Shared->Prop),tn i s.heap->Q (.ref it) s->wpAny (model P w) A (pyIter (.ref it)) Q E s
abbrev TI:=St->Hp->(It->Hp->Prop)->Prop
def PIE (X:Cx) (pins:List (Addr×Obj)) (σ:St) (tg:Expr) (R:It->Hp->Prop) (itv:Value) (s2:Shared):Prop:=
 ∃ (it:Addr) (fp:List Addr) (tn:Nat->Heap->Prop) (J:It) (H':Hp),itv=.ref it/\Inv X pins σ H' s2/\Turn X.prog X.w X.K tg J fp it tn/\tn 0 s2.heap/\(∀ b∈fp,qof X pins H' b)/\R J H'
def PI (X:Cx) (tg iter:Expr) (wi:TI):Prop:=
 ∀ (pins:List (Addr×Obj)) (s:Shared) (σ:St) (H:Hp) (R:It->Hp->Prop),Inv X pins σ H s->wi σ H R ->
  wpAny (model X.prog X.w) X.A (eval iter X.env) (λv s1=>wpAny (model X.prog X.w) X.A (pyIter v) (PIE X pins σ tg R) X.xe s1) X.xe s
theorem qxi {M:Model} {A:Around} {E:Value->Shared->Prop} {s:Shared} {tg:Expr} {it:Addr} {u:Value} {o:Obj} {n:String} {vs:Array Value} {Q:Unit->Shared->Prop} (ho:s.heap.get? it=some o) (hc:o.cls=.type n) (hd:o.data=.fields vs)
  (hn:["enumerate", "zip", "dict_itemiterator", "dict_reverseitemiterator", "odict_iterator", "itertools.zip_longest", "itertools.pairwise"].contains n=false) (hQ:Q () s):wpAny M A (letOwnedTupleGo tg (.ref it) u) Q E s:=by
 unfold letOwnedTupleGo
 cases tg<;>first
  | exact Ae hQ
  | (cases u<;>first
    | exact Ae hQ
    | (refine Aa (wpAny_load ho ?_)
       rw[hc,hd]
       show wpAny M A (if (["enumerate", "zip", "dict_itemiterator", "dict_reverseitemiterator", "odict_iterator", "itertools.zip_longest", "itertools.pairwise"].contains n && vs[0]? == some (rawInt _))=true then _ else _) Q E s
       rw[Ah (by intro h;rw[hn,Bool.false_and] at h;cases h)];exact Ae hQ))
def Itl (K:Frag) (a:Addr):It:=
 ⟨λi H=>∃ xs x,SqL K H a xs/\xs[i]?=some x,λi H x H'=>H'=H/\∀ xs,SqL K H a xs->xs[i]?=some x,λi H=>∃ xs,SqL K H a xs/\xs.length<=i⟩
def Itr (lo:Int) (n:Nat):It:=⟨λi _=>i<n,λi H x H'=>H'=H/\x=.int (lo+i),λi _=>n<=i⟩
theorem qrd {P:Program} {w:World} {K:Frag} {tg:Expr} (a it:Addr):Turn P w K tg (Itl K a) [it] it (λi h=>h.IsListIter it a i) where
 mem:=by simp
 obj:=λi h st b hb=>by
  have e:b=it:=by simpa using hb
  subst e;obtain ⟨o,e,c,d⟩:=st;exact ⟨o,e,λv z=>by rw[d] at z;cases z⟩
 keep:=λi h h' st k=>st.at λo e=>k it (by simp) o e
 item:=by
  intro X hP hw hK hc i pins s σ H E I hf st hg;subst hP hw hK;obtain ⟨xs,x,hq,hx⟩:=hg;obtain ⟨its,rv,p,hz⟩:=I.list hq;obtain ⟨u,hu,ru⟩:=rv.get hx;obtain ⟨f0,f1,f2,f3,f4,f5⟩:=hf it (by simp);refine wpAny_pyNext_list_item st p.isList (x:=u) (by simpa using hu) λh' st' sb=>?_
  have I1:Inv X pins σ H { s with heap:=h' }:=I.turned (t':=s.toks) (λb o hb e=>(sb.2 b hb).trans e) f0 f1 f3 f4 f5;obtain ⟨o,e,c,d⟩:=id st';exact ⟨u,rfl,qxi (s:={ s with heap:=h' }) e c d (by decide) ⟨x,H,I1,ru,⟨rfl,λys hy=>by rw[I.list_inj hy hq];exact hx⟩,st',λb hb=>(hf b hb).1⟩⟩
 done:=by
  intro X hP hw hK hc i pins s σ H E I hf st hg;subst hP hw hK;obtain ⟨xs,hq,hx⟩:=hg;obtain ⟨its,rv,p,hz⟩:=I.list hq;obtain ⟨f0,f1,f2,f3,f4,f5⟩:=hf it (by simp);have hl:=rv.length;exact wpAny_pyNext_list_end (I.ok.hd hc) st p.isList (by simp;omega) λh' eb=>⟨rfl,I.turned (t':=s.toks) (λb o hb e=>eb b o hb e) f0 f1 f3 f4 f5⟩
 self:=λ_ _ _ _ _ st h=>wpAny_pyIter_listiter st h
theorem qp4 {P:Program} {w:World} {K:Frag} {tg:Expr} (it:Addr) (lo:Int) (n:Nat):Turn P w K tg (Itr lo n) [it] it (λi h=>IsRangeIter h it (lo+(i:Nat)*1) ((n:Int)-(i:Nat)) 1) where
 mem:=by simp
 obj:=λi h st b hb=>by
  have e:b=it:=by simpa using hb
  subst e;exact ⟨_,st,λv z=>by
   have z':Data.fields _=Data.cell v:=z
   cases z'⟩
 keep:=λi h h' st k=>k it (by simp) _ st
 item:=by
  intro X hP hw hK hc i pins s σ H E I hf st hg;subst hP hw hK;obtain ⟨f0,f1,f2,f3,f4,f5⟩:=hf it (by simp);have W:=Walks.range (prog:=X.prog) (w:=X.w) (I.ok.hd hc) it lo 1 n;refine W.item i s _ _ hg st λv h' tk hv st' kk=>?_
  obtain ⟨t,rfl⟩:=hv;have I1:Inv X pins σ H { s with heap:=h',toks:=tk }:=I.turned (λb o hb e=>kk b o (by simpa using hb) e) f0 f1 f3 f4 f5;refine ⟨_,rfl,qxi (s:={ s with heap:=h',toks:=tk }) (n:= "range_iterator") st' rfl rfl (by decide) ⟨.int (lo+i),H,I1,⟨t,?_⟩,⟨rfl,rfl⟩,st',λb hb=>(hf b hb).1⟩⟩;rw[D6]
 done:=by
  intro X hP hw hK hc i pins s σ H E I hf st hg;subst hP hw hK;obtain ⟨f0,f1,f2,f3,f4,f5⟩:=hf it (by simp);exact wpAny_pyNext_range_end (I.ok.hd hc) st (by have:n<=i:=hg;omega) λh' eb=>⟨rfl,I.turned (t':=s.toks) (λb o hb e=>eb b o hb e) f0 f1 f3 f4 f5⟩
 self:=λ_ _ _ _ _ st h=>wpAny_pyIter_rangeiter st h
open PySem PySem.Spec PyProof.Rows
section
variable {X:Cx} {tg:Expr}
def qCq (K:Frag) (tl:TE):TI:=λσ H R=>tl σ H λx H1=>∃ a,x=.ref a/\(∃ xs,SqL K H1 a xs)/\R (Itl K a) H1
theorem qa1 {l:Expr} {tl:TE} (hl:PE X l tl):PI X tg l (qCq X.K tl):=by
 intro pins s σ H R I h;refine thn (hl pins s σ H _ I h) λv s1 hq__=>?_
 obtain ⟨x,H1,I1,r1,q1⟩:=hq__;obtain ⟨a,e,⟨xs,hq⟩,q⟩:=q1;subst e;cases r1;obtain ⟨its,rv,p,hz⟩:=I1.list hq;refine Ce p.isList ?_;refine ⟨s1.heap.objs.size,[s1.heap.objs.size],_,_,H1,rfl,I1.kept (t':=s1.toks) λb o e=>Ab _ e,qrd a _,⟨_,Ao _ rfl,rfl,rfl⟩,λb hb=>?_,q⟩;have e:b=s1.heap.objs.size:=by simpa using hb
 subst e;exact I1.fpOk (Ag _) (I1.hok.fresh (Ag _))
theorem quq {pins:List (Addr×Obj)} {σ:St} {H:Hp} {s:Shared} {R:It->Hp->Prop} {E:Value->Shared->Prop} {lo hi:Int} {t u v:Tok} {tk:Nat} (I:Inv X pins σ H s) (h1:-(2 ^ 62)<=lo) (h2:lo<2 ^ 62) (h3:-(2 ^ 62)<=hi) (h4:hi<2 ^ 62)
  (q:R (Itr lo (hi-lo).toNat) H):wpAny (model X.prog X.w) X.A (pyIter (.ref s.heap.objs.size)) (PIE X pins σ tg R) E { s with heap:=s.heap.push { cls:=.type "range",data:=.fields #[.int lo t,.int hi u,.int 1 v] },toks:=tk }:=by
 refine wpAny_pyIter_range (IsRange.new ..) (small_one h1 h2 h3 h4) ?_;have I1:Inv X pins σ H { s with heap:=s.heap.push { cls:=.type "range",data:=.fields #[.int lo t,.int hi u,.int 1 v] },toks:=tk }:=I.kept λb o e=>Ab _ e
 refine ⟨(s.heap.push { cls:=.type "range",data:=.fields #[.int lo t,.int hi u,.int 1 v] }).objs.size,[(s.heap.push { cls:=.type "range",data:=.fields #[.int lo t,.int hi u,.int 1 v] }).objs.size],_,_,H,rfl,
  I1.kept (t':=tk) λb o e=>Ab _ e,qp4 _ lo (hi-lo).toNat,?_,λb hb=>?_,q⟩
 ·have e1:lo+((0:Nat):Int)*1=lo:=by simp
  have e2:(((hi-lo).toNat:Nat):Int)-((0:Nat):Int)=Builtin.Range.rangeSize lo hi 1:=by rw[rangeSize_one];split<;>omega
  show IsRangeIter _ _ (lo+((0:Nat):Int)*1) ((((hi-lo).toNat:Nat):Int)-((0:Nat):Int)) 1
  rw[e1,e2];exact Ao _ rfl
 ·have e:b=(s.heap.push { cls:=.type "range",data:=.fields #[.int lo t,.int hi u,.int 1 v] }).objs.size:=by simpa using hb
  subst e;exact I1.fpOk (Ag _) (I1.hok.fresh (Ag _))
def qCr (ta:TA):TI:=λσ H R=>ta σ H λvs H1=>∃ j:Int,vs=[.int j] /\ -(2 ^ 62)<=j/\j<2 ^ 62/\R (Itr 0 j.toNat) H1
theorem qd8 {a:Expr} {ta:TA} {p pos:Pos} (hg:Gl X "range") (hm:X.mg "range" = none) (ha:PA X [a] ta) (hs:starEach [a] X.env=[(false,eval a X.env)]:=by rfl):PI X tg (.Call (.Name "range" p) [a] [] pos) (qCr ta):=by
 intro pins s σ H R I h;refine Call_ (qjn I hg hm boot_range (Cf (thn (ha pos pins s σ H _ I h) λus s1 hq__=>?_) hs rfl));obtain ⟨vs,H1,I1,r1,q1⟩:=hq__;obtain ⟨j,e,q1,q2,q⟩:=q1;subst e
 cases r1 with
 | cons r rr =>
  cases rr;obtain ⟨t,rfl⟩:=r;exact call_range_1 (quq I1 (by omega) (by omega) q1 q2 (by simpa using q))
def qEi (wi:TI) (g:TG) (tb:TS):TS:=λD σ H=>wi σ H λJ H1=>∃ W:Nat->Nat->St->Hp->Prop,(∃ m,W 0 m σ H1)/\∀ i m σ H,W i m σ H ->
 (J.stop i H/\D.nx σ H)\/(J.go i H/\∃ N:St->Hp->Prop,(∀ σ' H',N σ' H'->∃ m',m'<m/\W (i+1) m' σ' H')/\∀ x H',J.yld i H x H'->g x σ H' λσ2 H2=>tb { D with nx:=N,ct:=N,bk:=D.nx } σ2 H2)
def qlc (fp:List Addr) (h:Heap):List (Addr×Obj):=fp.filterMap λb=>(h.get? b).map λo=>(b,o)
theorem qew {fp:List Addr} {h:Heap} {b:Addr} {o:Obj} (hb:b∈fp) (e:h.get? b=some o):(b,o)∈qlc fp h:=List.mem_filterMap.mpr ⟨b,hb,by rw[e];rfl⟩
theorem qre {fp:List Addr} {h:Heap} {p:Addr×Obj} (hp:p∈qlc fp h):p.1∈fp/\h.get? p.1=some p.2:=by
 obtain ⟨b,hb,e⟩:=List.mem_filterMap.mp hp
 cases q:h.get? b with
 | none=>rw[q] at e;cases e
 | some o =>
  rw[q] at e;have e':(b,o)=p:=AJ e;subst e';exact ⟨hb,q⟩
theorem Inv.pinned {pins:List (Addr×Obj)} {σ:St} {H:Hp} {s:Shared} {fp:List Addr} (I:Inv X pins σ H s) (hf:∀ b∈fp,qof X pins H b) (ho:∀ b∈fp,∃ o,s.heap.get? b=some o/\∀ v,o.data≠.cell v):Inv X (pins ++ qlc fp s.heap) σ H s:=
 I.pins_of λp hp=>(AA.mp hp).elim (λz=>I.pin p (AM _ z)) λz=>by
  obtain ⟨hb,e⟩:=qre z;obtain ⟨f0,f1,f2,_⟩:=hf p.1 hb;obtain ⟨o,e',d⟩:=ho p.1 hb;rw[e] at e';cases e';exact ⟨e,f0,f1,f2,d⟩
theorem Inv.unpinned {pins pl:List (Addr×Obj)} {σ:St} {H:Hp} {s:Shared} (I:Inv X (pins ++ pl) σ H s):Inv X pins σ H s:=I.pins_of λp hp=>I.pin p (AM _ (Ck _ hp))
theorem qbz {iter:Expr} {body:List Stmt} {wi:TI} {g:TG} {tb:TS} {pos:Pos} (hp:PassesOwn (model X.prog X.w) X.A X.env X.xe) (hc:X.calm=true) (hi:PI X tg iter wi) (hg:PG X tg g) (hb:PSs X body tb)
  (hs:∀ x,foldedSetIterable iter X.env x=pure x:=by intro _;rfl):PS X (.For tg iter body [] pos) (qEi wi g tb):=by
 intro pins s σ H D I h;refine wpAny_For (thn (hi pins s σ H _ I h) λv s1 h1=>thn h1 λitv s2 h2=>?_) hs;obtain ⟨it,fp,tn,J,H2,e,I2,T,st2,f2,W,⟨m0,w0⟩,turn⟩:=h2;subst e;have stat:∀ {H':Hp},(∀ b∈fp,H' b=none)->∀ b∈fp,qof X pins H' b:=λhn b hb=>⟨hn b hb,(f2 b hb).2⟩
 refine codeAny_forLoop_any (λn s'=>∃ i σ' H',Inv X pins σ' H' s'/\tn i s'.heap/\(∀ b∈fp,H' b=none)/\W i n σ' H') ?_ m0 ⟨0,σ,H2,I2,st2,λb hb=>(f2 b hb).1,w0⟩;rintro n s3 ⟨i,σ3,H3,I3,st3,fr3,w3⟩
 rcases turn i n σ3 H3 w3 with ⟨stop,qn⟩|⟨go,N,hN,step⟩
 ·refine CU hp (thn (T.done X rfl rfl rfl hc i pins s3 σ3 H3 X.xe I3 (stat fr3) st3 stop) λr s4 hq__=>?_)
  obtain ⟨hr,I4⟩:=hq__;subst hr;exact Dt ⟨σ3,H3,I4,qn⟩
 ·refine CU hp (thn (T.item X rfl rfl rfl hc i pins s3 σ3 H3 X.xe I3 (stat fr3) st3 go) λr s4 hq__=>?_)
  obtain ⟨u,hr,h4⟩:=hq__;subst hr;refine CU hp (thn h4 λ_ s5 hq__=>?_);obtain ⟨x,H5,I5,r5,y5,st5,fr5⟩:=hq__;have I5':=I5.pinned (stat fr5) (T.obj _ _ st5);refine CU hp (thn (hg _ s5 σ3 H5 x u _ I5' r5 (step x H5 y5)) λ_ s6 hq__=>?_);obtain ⟨σ6,H6,I6,q6⟩:=hq__;refine CU hp (thn (hb _ s6 σ6 H6 _ I6 q6) λf s7 q7=>?_);have again:∀ {σ7:St} {H7:Hp},Inv X (pins ++ qlc fp s5.heap) σ7 H7 s7->N σ7 H7->∃ m,m<n/\∃ i σ' H',Inv X pins σ' H' s7/\tn i s7.heap/\(∀ b∈fp,H' b=none)/\W i m σ' H':=fun {σ7 H7} I7 n7=>by
   obtain ⟨m',hm,w7⟩:=hN σ7 H7 n7;refine ⟨m',hm,i+1,σ7,H7,I7.unpinned,T.keep _ _ _ st5 λb hb o e=>(I7.pin (b,o) (AM _ (AM _ (qew hb e)))).1,λb hb=>?_,w7⟩;obtain ⟨o,e,d⟩:=T.obj _ _ st5 b hb;exact (I7.pin (b,o) (AM _ (AM _ (qew hb e)))).2.1
  cases f with
  | next=>obtain ⟨σ7,H7,I7,n7⟩:=q7;exact again I7 n7
  | cont=>obtain ⟨σ7,H7,I7,n7⟩:=q7;exact again I7 n7
  | brk=>obtain ⟨σ7,H7,I7,q7⟩:=q7;exact ⟨σ7,H7,I7.unpinned,q7⟩
  | ret v=>obtain ⟨x7,σ7,H7,I7,r7,q7⟩:=q7;exact ⟨x7,σ7,H7,I7.unpinned,r7,q7⟩
end
theorem qbn {K:Frag} {a:Addr} {xs:List V} {g:TG} {tb:TS} {D:Ends} {σ:St} {H:Hp} (Pv:Nat->St->Hp->Prop) (h0:Pv 0 σ H) (hl:∀ i σ H,i<=xs.length->Pv i σ H->SqL K H a xs)
  (hs:∀ i x σ H,xs[i]?=some x->Pv i σ H->g x σ H λσ2 H2=>tb { D with nx:=Pv (i+1),ct:=Pv (i+1),bk:=D.nx } σ2 H2) (hd:∀ σ H,Pv xs.length σ H->D.nx σ H) :
  ∃ W:Nat->Nat->St->Hp->Prop,(∃ m,W 0 m σ H)/\∀ i m σ H,W i m σ H ->
   ((Itl K a).stop i H/\D.nx σ H)\/((Itl K a).go i H/\∃ N:St->Hp->Prop,(∀ σ' H',N σ' H'->∃ m',m'<m/\W (i+1) m' σ' H')/\∀ x H',(Itl K a).yld i H x H'->g x σ H' λσ2 H2=>tb { D with nx:=N,ct:=N,bk:=D.nx } σ2 H2):=by
 refine ⟨λi m σ H=>m=xs.length-i/\i<=xs.length/\Pv i σ H,⟨xs.length,by simp,AW _,h0⟩,?_⟩;rintro i m σ H ⟨rfl,hi,p⟩;have q:=hl i σ H hi p
 by_cases hlt:i<xs.length
 ·refine .inr ⟨⟨xs,xs[i],q,by simp[hlt]⟩,Pv (i+1),λσ' H' p'=>⟨xs.length-(i+1),by omega,rfl,hlt,p'⟩,λx H' y=>?_⟩
  obtain ⟨e,y⟩:=y;subst e;exact hs i x σ _ (y xs q) p
 ·have e:i=xs.length:=by omega
  subst e;exact .inl ⟨⟨xs,q,Ag _⟩,hd σ H p⟩
theorem qld {lo:Int} {n:Nat} {g:TG} {tb:TS} {D:Ends} {σ:St} {H:Hp} (Pv:Nat->St->Hp->Prop) (h0:Pv 0 σ H)
  (hs:∀ i σ H,i<n->Pv i σ H->g (.int (lo+i)) σ H λσ2 H2=>tb { D with nx:=Pv (i+1),ct:=Pv (i+1),bk:=D.nx } σ2 H2) (hd:∀ σ H,Pv n σ H->D.nx σ H) :
  ∃ W:Nat->Nat->St->Hp->Prop,(∃ m,W 0 m σ H)/\∀ i m σ H,W i m σ H ->
   ((Itr lo n).stop i H/\D.nx σ H)\/((Itr lo n).go i H/\∃ N:St->Hp->Prop,(∀ σ' H',N σ' H'->∃ m',m'<m/\W (i+1) m' σ' H')/\∀ x H',(Itr lo n).yld i H x H'->g x σ H' λσ2 H2=>tb { D with nx:=N,ct:=N,bk:=D.nx } σ2 H2):=by
 refine ⟨λi m σ H=>m=n-i/\i<=n/\Pv i σ H,⟨n,by simp,AW _,h0⟩,?_⟩;rintro i m σ H ⟨rfl,hi,p⟩
 by_cases hlt:i<n
 ·refine .inr ⟨hlt,Pv (i+1),λσ' H' p'=>⟨n-(i+1),by omega,rfl,hlt,p'⟩,λx H' y=>?_⟩
  obtain ⟨e,y⟩:=y;subst e y;exact hs i σ _ hlt p
 ·have e:i=n:=by omega
  subst e;exact .inl ⟨Ag _,hd σ H p⟩
open PySem PySem.Spec PyProof.Rows
abbrev R2:=V->V->Hp->VK->Prop
def OpR (X:Cx) (f:Value->Value->Sem Value) (r:R2):Prop:=
 ∀ (pins:List (Addr×Obj)) (s:Shared) (σ:St) (H:Hp) (x y:V) (v u:Value) (Q:VK),Inv X pins σ H s->RelV x v->RelV y u->r x y H Q ->
  wpAny (model X.prog X.w) X.A (f v u) (EP X pins σ Q) X.xe s
def UnR (X:Cx) (f:Value->Sem Value) (r:V->Hp->VK->Prop):Prop:=
 ∀ (pins:List (Addr×Obj)) (s:Shared) (σ:St) (H:Hp) (x:V) (v:Value) (Q:VK),Inv X pins σ H s->RelV x v->r x H Q ->
  wpAny (model X.prog X.w) X.A (f v) (EP X pins σ Q) X.xe s
def CallR (X:Cx) (f:Value) (r:List V->Hp->VK->Prop):Prop:=
 ∀ (pins:List (Addr×Obj)) (s:Shared) (σ:St) (H:Hp) (xs:List V) (us:List Value) (Q:VK),Inv X pins σ H s->Vals xs us->r xs H Q ->
  wpAny (model X.prog X.w) X.A (call f us) (EP X pins σ Q) X.xe s
def tOp (r:R2) (ta tb:TE):TE:=λσ H Q=>ta σ H λx H1=>tb σ H1 λy H2=>r x y H2 Q
def tUn (r:V->Hp->VK->Prop) (ta:TE):TE:=λσ H Q=>ta σ H λx H1=>r x H1 Q
inductive rIS (C:Int->Int->Prop) (g:Int->Int->V) (x y:V) (H:Hp) (Q:VK):Prop
 | mk (i j:Int) (hx:x=.int i) (hy:y=.int j) (hc:C i j) (k:Q (g i j) H)
def rI (C:Int->Int->Prop) (g:Int->Int->V):R2:=λx y H Q=>rIS C g x y H Q
inductive rI0S (g:Int->Int->V) (x y:V) (H:Hp) (Q:VK):Prop
 | mk (i j:Int) (hx:x=.int i) (hy:y=.int j) (k:Q (g i j) H)
def rI0 (g:Int->Int->V):R2:=λx y H Q=>rI0S g x y H Q
inductive rUS (g:Int->V) (x:V) (H:Hp) (Q:VK):Prop
 | mk (i:Int) (h:x=.int i) (k:Q (g i) H)
def rU (g:Int->V):V->Hp->VK->Prop:=λx H Q=>rUS g x H Q
section
variable {X:Cx} {a b c:Expr} {ta tb tc:TE} {pos:Pos}
theorem qCe (ha:PE X a ta) (hb:PE X b tb) {pins:List (Addr×Obj)} {s:Shared} {σ:St} {H:Hp} {R:V->V->Hp->Prop} (I:Inv X pins σ H s)
  (h:ta σ H λx H1=>tb σ H1 λy H2=>R x y H2) {Q:Value->Shared->Prop} {f:Value->Value->Sem Value}
  (hf:∀ v u s2 x y H2,Inv X pins σ H2 s2->RelV x v->RelV y u->R x y H2->wpAny (model X.prog X.w) X.A (f v u) Q X.xe s2) :
  wpAny (model X.prog X.w) X.A (eval a X.env) (λv s₁=>wpAny (model X.prog X.w) X.A (eval b X.env) (λu s₂=>wpAny (model X.prog X.w) X.A (f v u) Q X.xe s₂) X.xe s₁) X.xe s:=by
 refine thn (ha pins s σ H _ I h) λv s1 hq__=>?_
 obtain ⟨x,H1,I1,r1,q1⟩:=hq__;refine thn (hb pins s1 σ H1 _ I1 q1) λu s2 hq__=>?_
 obtain ⟨y,H2,I2,r2,q2⟩:=hq__;exact hf v u s2 x y H2 I2 r1 r2 q2
theorem qag {op:Operator} {r:R2} (ho:OpR X (binaryOp op) r) (ha:PE X a ta) (hb:PE X b tb):PE X (.BinOp a op b pos) (tOp r ta tb):=by
 intro pins s σ H Q I h;exact wpAny_BinOp (qCe ha hb I h λv u s2 x y H2 I2 rx ry q=>ho pins s2 σ H2 x y v u Q I2 rx ry q)
theorem qdt {op:UnaryOp} {r:V->Hp->VK->Prop} (ho:UnR X (unaryOp op) r) (ha:PE X a ta):PE X (.UnaryOp op a pos) (tUn r ta):=by
 intro pins s σ H Q I h;exact UnaryOp_ (thn (ha pins s σ H _ I h) λv s1 ⟨x,H1,I1,r1,q1⟩=>ho pins s1 σ H1 x v Q I1 r1 q1)
theorem opI {f:Value->Value->Sem Value} {C:Int->Int->Prop} {g:Int->Int->Int}
  (rule:∀ (i j:Int) (t u:Tok) (s:Shared) (Q:Value->Shared->Prop) (E:Value->Shared->Prop),C i j->Q (.int (g i j) s.toks) { s with toks:=s.toks+1 }->wpAny (model X.prog X.w) X.A (f (.int i t) (.int j u)) Q E s) :
  OpR X f (rI C λi j=>.int (g i j)):=by
 intro pins s σ H x y v u Q I rx ry h;obtain ⟨i,j,rfl,rfl,hc,q⟩:=h;obtain ⟨t,rfl⟩:=rx;obtain ⟨t',rfl⟩:=ry;exact rule i j t t' s _ _ hc ⟨.int (g i j),H,I.tok _,⟨_,rfl⟩,q⟩
theorem qDy {f:Value->Value->Sem Value} {g:Int->Int->Int}
  (rule:∀ (i j:Int) (t u:Tok) (s:Shared) (Q:Value->Shared->Prop) (E:Value->Shared->Prop),Q (.int (g i j) s.toks) { s with toks:=s.toks+1 }->wpAny (model X.prog X.w) X.A (f (.int i t) (.int j u)) Q E s) :
  OpR X f (rI0 λi j=>.int (g i j)):=by
 intro pins s σ H x y v u Q I rx ry h;obtain ⟨i,j,rfl,rfl,q⟩:=h;obtain ⟨t,rfl⟩:=rx;obtain ⟨t',rfl⟩:=ry;exact rule i j t t' s _ _ ⟨.int (g i j),H,I.tok _,⟨_,rfl⟩,q⟩
theorem qCf {f:Value->Value->Sem Value} {g:Int->Int->Bool}
  (rule:∀ (i j:Int) (t u:Tok) (s:Shared) (Q:Value->Shared->Prop) (E:Value->Shared->Prop),Q (.bool (g i j)) s->wpAny (model X.prog X.w) X.A (f (.int i t) (.int j u)) Q E s) :
  OpR X f (rI0 λi j=>.bl (g i j)):=by
 intro pins s σ H x y v u Q I rx ry h;obtain ⟨i,j,rfl,rfl,q⟩:=h;obtain ⟨t,rfl⟩:=rx;obtain ⟨t',rfl⟩:=ry;exact rule i j t t' s _ _ ⟨.bl (g i j),H,I,rfl,q⟩
def qEj (i j:Int):Prop:=0<j/\j<1073741824
def qEk (i j:Int):Prop:=0<=j/\j<=1000000/\i.natAbs<2 ^ 64
def CMul (i j:Int):Prop:=(-(2 ^ 64)<i/\i<2 ^ 64)\/(-(2 ^ 64)<j/\j<2 ^ 64)
theorem CMul.ok {i j:Int} (h:CMul i j):IntMulOk i j:=by
 rcases h with ⟨h1,h2⟩|⟨h1,h2⟩
 ·exact .of_left (intBits_le_64 h1 h2)
 ·exact .of_right (intBits_le_64 h1 h2)
theorem qa4:OpR X (binaryOp .Add) (rI0 λi j=>.int (i+j)):=qDy λ_ _ _ _ _ _ _ q=>add_int q
theorem qdk:OpR X (binaryOp .Sub) (rI0 λi j=>.int (i-j)):=qDy λ_ _ _ _ _ _ _ q=>sub_int q
theorem qd9:OpR X (binaryOp .Mult) (rI CMul λi j=>.int (i*j)):=opI λ_ _ _ _ _ _ _ hc q=>mul_int q hc.ok
theorem qc0:OpR X (binaryOp .FloorDiv) (rI qEj λi j=>.int (i / j)):=opI λi j _ _ _ _ _ hc q=>by
 have h1:(0:Int)<j:=hc.1;have h2:j<1073741824:=hc.2;exact floordiv_int (by omega) (by rw[Eo i (by omega)];exact q) (.inl (PyProof.noPylong_small (by omega)))
theorem qav:OpR X (binaryOp .Mod) (rI (λ_ j=>0<j) λi j=>.int (i % j)):=opI λi j _ _ _ _ _ hc q=>by
 have h1:(0:Int)<j:=hc;exact mod_int' (by omega) (by rw[Int.fmod_eq_emod_of_nonneg i (by omega)];exact q)
theorem qgn:OpR X (binaryOp .Pow) (rI qEk λi j=>.int (i ^ j.toNat)):=opI λ_ _ _ _ _ _ _ hc q=>pow_int_small hc.1 hc.2.1 hc.2.2 q
theorem unI {f:Value->Sem Value} {g:Int->Int}
  (rule:∀ (i:Int) (t:Tok) (s:Shared) (Q:Value->Shared->Prop) (E:Value->Shared->Prop),Q (.int (g i) s.toks) { s with toks:=s.toks+1 }->wpAny (model X.prog X.w) X.A (f (.int i t)) Q E s) :
  UnR X f (rU λi=>.int (g i)):=by
 intro pins s σ H x v Q I rx h;obtain ⟨i,rfl,q⟩:=h;obtain ⟨t,rfl⟩:=rx;exact rule i t s _ _ ⟨.int (g i),H,I.tok _,⟨_,rfl⟩,q⟩
theorem qb5:UnR X (unaryOp .USub) (rU λi=>.int (-i)):=unI λ_ _ _ _ _ q=>neg_int q
end
def qCs:V->V->Bool
 | .non,.non=>true|.non,.int _=>true|.int _,.non=>true|.non,.bl _=>true|.bl _,.non=>true|.non,.str _=>true|.str _,.non=>true
 | .int _,.int _=>true|.bl _,.bl _=>true|.str _,.str _=>true|.byt _,.byt _=>true
 | .int _,.str _=>true|.str _,.int _=>true|.bl _,.str _=>true|.str _,.bl _=>true
 | _,_=>false
def rEq:R2:=λx y H Q=>qCs x y=true/\Q (.bl (decide (x=y))) H
def rNe:R2:=λx y H Q=>qCs x y=true/\Q (.bl (!decide (x=y))) H
theorem qrf {i j:Int}:decide (V.int i=V.int j)=(i == j):=by
 rw[CY]
 simp
theorem qwa {i j:Bool}:decide (V.bl i=V.bl j)=(i == j):=by
 rw[CY]
 simp
theorem qrg {i j:Str}:decide (V.str i=V.str j)=(i == j):=by
 rw[CY]
 simp
theorem qrh {i j:Array UInt8}:decide (V.byt i=V.byt j)=(i.toList == j.toList):=by
 rw[CY];cases i;cases j
 simp
section
variable {X:Cx} {a b c:Expr} {ta tb tc:TE} {pos:Pos}
theorem qa9 {pins:List (Addr×Obj)} {σ:St} {H:Hp} {s:Shared} {Q:VK} {k k':Bool} (I:Inv X pins σ H s) (q:Q (.bl k) H) (e:k=k'):EP X pins σ Q (.bool k') s:=by
 subst e;exact ⟨.bl k,H,I,rfl,q⟩
theorem qey:OpR X (compareOp .Eq) rEq:=by
 intro pins s σ H x y v u Q I rx ry h;obtain ⟨hs,q⟩:=h
 cases x with
 | non =>
  cases rx
  cases y with
  | non=>cases ry;exact PySem.EqNone.eq_none_none (qa9 I q (by simp))
  | bl j=>cases ry;exact PySem.EqNone.eq_none_bool (qa9 I q (by simp))
  | int j=>obtain ⟨t',rfl⟩:=ry;exact PySem.EqNone.eq_none_int (qa9 I q (by simp))
  | str j=>obtain ⟨t',rfl⟩:=ry;exact PySem.EqNone.eq_none_str (qa9 I q (by simp))
  | _=>exact absurd (show false=true from hs) AD
 | bl i =>
  cases rx
  cases y with
  | non=>cases ry;exact PySem.EqNone.eq_bool_none (qa9 I q (by simp))
  | bl j=>cases ry;exact eq_bool (qa9 I q qwa)
  | str j=>obtain ⟨t',rfl⟩:=ry;exact PySem.EqMixed.eq_bool_str (qa9 I q (by simp))
  | _=>exact absurd (show false=true from hs) AD
 | int i =>
  obtain ⟨t,rfl⟩:=rx
  cases y with
  | non=>cases ry;exact PySem.EqNone.eq_int_none (qa9 I q (by simp))
  | int j=>obtain ⟨t',rfl⟩:=ry;exact eq_int (qa9 I q qrf)
  | str j=>obtain ⟨t',rfl⟩:=ry;exact PySem.EqMixed.eq_int_str (qa9 I q (by simp))
  | _=>exact absurd (show false=true from hs) AD
 | str i =>
  obtain ⟨t,rfl⟩:=rx
  cases y with
  | non=>cases ry;exact PySem.EqNone.eq_str_none (qa9 I q (by simp))
  | bl j=>cases ry;exact PySem.EqMixed.eq_str_bool (qa9 I q (by simp))
  | int j=>obtain ⟨t',rfl⟩:=ry;exact PySem.EqMixed.eq_str_int (qa9 I q (by simp))
  | str j=>obtain ⟨t',rfl⟩:=ry;exact eq_str (qa9 I q qrg)
  | _=>exact absurd (show false=true from hs) AD
 | byt i =>
  obtain ⟨t,rfl⟩:=rx
  cases y with
  | byt j=>obtain ⟨t',rfl⟩:=ry;exact PySem.W.eq_bytes (qa9 I q qrh)
  | _=>exact absurd (show false=true from hs) AD
 | _=>cases y<;>exact absurd (show false=true from hs) AD
theorem qp5:OpR X (compareOp .NotEq) rNe:=by
 intro pins s σ H x y v u Q I rx ry h;obtain ⟨hs,q⟩:=h
 cases x with
 | non =>
  cases rx
  cases y with
  | non=>cases ry;exact PySem.EqNone.ne_none_none (qa9 I q (by simp))
  | bl j=>cases ry;exact PySem.EqNone.ne_none_bool (qa9 I q (by simp))
  | int j=>obtain ⟨t',rfl⟩:=ry;exact PySem.EqNone.ne_none_int (qa9 I q (by simp))
  | str j=>obtain ⟨t',rfl⟩:=ry;exact PySem.EqNone.ne_none_str (qa9 I q (by simp))
  | _=>exact absurd (show false=true from hs) AD
 | bl i =>
  cases rx
  cases y with
  | non=>cases ry;exact PySem.EqNone.ne_bool_none (qa9 I q (by simp))
  | bl j=>cases ry;exact ne_bool (qa9 I q (congrArg not qwa))
  | str j=>obtain ⟨t',rfl⟩:=ry;exact PySem.EqMixed.ne_bool_str (qa9 I q (by simp))
  | _=>exact absurd (show false=true from hs) AD
 | int i =>
  obtain ⟨t,rfl⟩:=rx
  cases y with
  | non=>cases ry;exact PySem.EqNone.ne_int_none (qa9 I q (by simp))
  | int j=>obtain ⟨t',rfl⟩:=ry;exact ne_int (qa9 I q (congrArg not qrf))
  | str j=>obtain ⟨t',rfl⟩:=ry;exact PySem.EqMixed.ne_int_str (qa9 I q (by simp))
  | _=>exact absurd (show false=true from hs) AD
 | str i =>
  obtain ⟨t,rfl⟩:=rx
  cases y with
  | non=>cases ry;exact PySem.EqNone.ne_str_none (qa9 I q (by simp))
  | bl j=>cases ry;exact PySem.EqMixed.ne_str_bool (qa9 I q (by simp))
  | int j=>obtain ⟨t',rfl⟩:=ry;exact PySem.EqMixed.ne_str_int (qa9 I q (by simp))
  | str j=>obtain ⟨t',rfl⟩:=ry;exact ne_str (qa9 I q (congrArg not qrg))
  | _=>exact absurd (show false=true from hs) AD
 | byt i =>
  obtain ⟨t,rfl⟩:=rx
  cases y with
  | byt j=>obtain ⟨t',rfl⟩:=ry;exact PySem.W.ne_bytes (qa9 I q (congrArg not qrh))
  | _=>exact absurd (show false=true from hs) AD
 | _=>cases y<;>exact absurd (show false=true from hs) AD
theorem qhl:OpR X (compareOp .Lt) (rI0 λi j=>.bl (decide (i<j))):=qCf λ_ _ _ _ _ _ _ q=>lt_int q
theorem qz8:OpR X (compareOp .LtE) (rI0 λi j=>.bl (decide (i<=j))):=qCf λ_ _ _ _ _ _ _ q=>le_int q
theorem qxj:OpR X (compareOp .Gt) (rI0 λi j=>.bl (decide (j<i))):=qCf λ_ _ _ _ _ _ _ q=>gt_int q
theorem qCt:OpR X (compareOp .GtE) (rI0 λi j=>.bl (decide (j<=i))):=qCf λ_ _ _ _ _ _ _ q=>ge_int q
theorem qri:OpR X (compareOp .In) (λx y H Q=>∃ i j,x=.str i/\y=.str j/\Q (.bl (!(Builtin.Str.occurrences j i 0 j.length 1).isEmpty)) H):=by
 intro pins s σ H x y v u Q I rx ry h;obtain ⟨i,j,rfl,rfl,q⟩:=h;obtain ⟨t,rfl⟩:=rx;obtain ⟨t',rfl⟩:=ry;exact in_str (qa9 I q rfl)
theorem qea:OpR X (compareOp .Is) (λx y H Q=>y=.non/\Q (.bl (decide (x=.non))) H):=by
 intro pins s σ H x y v u Q I rx ry h;obtain ⟨rfl,q⟩:=h;cases ry;refine is_none_gen (qa9 I q ?_)
 cases x<;>first
  | (cases rx;rfl)
  | (obtain ⟨t,rfl⟩:=rx;rfl)
theorem qf4:OpR X (compareOp .IsNot) (λx y H Q=>y=.non/\Q (.bl (!decide (x=.non))) H):=by
 intro pins s σ H x y v u Q I rx ry h;obtain ⟨rfl,q⟩:=h;cases ry;refine isnot_none_gen (qa9 I q ?_)
 cases x<;>first
  | (cases rx;rfl)
  | (obtain ⟨t,rfl⟩:=rx;rfl)
theorem qwb (b:Expr) {op:CmpOp} (h:op≠.In:=by decide) (h2:op≠.NotIn:=by decide):behindInMarks op b=false:=by
 have e1:(op == CmpOp.In)=false:=by cases op<;>first|rfl|exact absurd rfl h
 have e2:(op == CmpOp.NotIn)=false:=by cases op<;>first|rfl|exact absurd rfl h2
 cases b<;>simp[behindInMarks,e1,e2]
theorem qrj {op:CmpOp} {r:R2} (ho:OpR X (compareOp op) r) (ha:PE X a ta) (hb:PE X b tb) (hm:behindInMarks op b=false):PE X (.Compare a [op] [b] pos) (tOp r ta tb):=by
 intro pins s σ H Q I h;exact wpAny_Compare1 (qCe ha hb I h λv u s2 x y H2 I2 rx ry q=>ho pins s2 σ H2 x y v u Q I2 rx ry q) hm
def qxk (t:TE):TT:=λσ H Q=>t σ H λx H'=>∃ k,x=.bl k/\Q k H'
theorem qxl {op:CmpOp} {r:R2} (ho:OpR X (compareOp op) r) (ha:PE X a ta) (hb:PE X b tb) (hm:behindInMarks op b=false):PT X (.Compare a [op] [b] pos) (qxk (tOp r ta tb)):=by
 intro pins s σ H Q I h;refine EZ (thn (ha pins s σ H _ I h) λv s1 ⟨x,H1,I1,r1,q1⟩=>thn (hb pins s1 σ H1 _ I1 q1) λu s2 ⟨y,H2,I2,r2,q2⟩ =>
  thn (ho pins s2 σ H2 x y v u _ I2 r1 r2 q2) λc s3 ⟨z,H3,I3,r3,k,e,q3⟩=>?_) hm
 subst e;cases r3;exact BP ⟨H3,I3,q3⟩
theorem qog:(sizeLine:Nat)<2 ^ 63:=by rw[Bl];decide
theorem qex:OpR X (binaryOp .Add) (λx y H Q=>∃ i j,x=.str i/\y=.str j/\i.length+j.length<=sizeLine/\Q (.str (i ++ j)) H):=by
 intro pins s σ H x y v u Q I rx ry h;obtain ⟨i,j,rfl,rfl,hz,q⟩:=h;obtain ⟨t,rfl⟩:=rx;obtain ⟨t',rfl⟩:=ry;exact add_str (λt' tk=>⟨.str (i ++ j),H,I.tok _,⟨_,rfl⟩,q⟩) hz
def qur (b:Expr):Prop:=∀ o i,subscripted b false o i=operate [o,i] (getItem o i)
theorem vals1 {x:V} {us:List Value} (r:Vals [x] us):∃ u,us=[u]/\RelV x u:=by
 cases r with
 | cons r1 r2=>cases r2;exact ⟨_,rfl,r1⟩
theorem vals2 {x y:V} {us:List Value} (r:Vals [x,y] us):∃ u w',us=[u,w']/\RelV x u/\RelV y w':=by
 cases r with
 | cons r1 r2 =>
  cases r2 with
  | cons r3 r4=>cases r4;exact ⟨_,_,rfl,r1,r3⟩
theorem qhm (hc:X.calm=true):CallR X (.builtin "max") (λxs H Q=>∃ i j,xs=[.int i,.int j]/\Q (.int (if j>i then j else i)) H):=by
 intro pins s σ H xs us Q I r h;obtain ⟨i,j,rfl,q⟩:=h;obtain ⟨u,w',rfl,⟨t,rfl⟩,⟨t',rfl⟩⟩:=vals2 r;refine max_two_ints (I.ok.hd hc) λh' tk k=>⟨_,H,I.kept k,?_,q⟩
 by_cases hj:j>i
 ·rw[Al hj,Al hj];exact ⟨_,rfl⟩
 ·rw[Ah hj,Ah hj];exact ⟨_,rfl⟩
theorem qrk (hc:X.calm=true):CallR X (.builtin "min") (λxs H Q=>∃ i j,xs=[.int i,.int j]/\Q (.int (if j<i then j else i)) H):=by
 intro pins s σ H xs us Q I r h;obtain ⟨i,j,rfl,q⟩:=h;obtain ⟨u,w',rfl,⟨t,rfl⟩,⟨t',rfl⟩⟩:=vals2 r;refine min_two_ints (I.ok.hd hc) λh' tk k=>⟨_,H,I.kept k,?_,q⟩
 by_cases hj:j<i
 ·rw[Al hj,Al hj];exact ⟨_,rfl⟩
 ·rw[Ah hj,Ah hj];exact ⟨_,rfl⟩
theorem qrl:CallR X (.type "int") (λxs H Q=>(∃ i,xs=[.int i]/\Q (.int i) H)\/∃ k,xs=[.bl k]/\Q (.int (if k then 1 else 0)) H):=by
 intro pins s σ H xs us Q I r h
 rcases h with ⟨i,rfl,q⟩|⟨k,rfl,q⟩
 ·obtain ⟨u,rfl,t,rfl⟩:=vals1 r
  exact call_int_int ⟨.int i,H,I,⟨_,rfl⟩,q⟩
 ·obtain ⟨u,rfl,r1⟩:=vals1 r
  cases r1;exact call_int_bool ⟨.int (if k then 1 else 0),H,I.tok _,⟨_,rfl⟩,q⟩
def qEl (K:Frag) (x:V) (H:Hp) (n:Nat):Prop:=
 match x with
 | .str y=>y.length<=sizeLine/\n=y.length
 | .byt y=>y.size<=sizeLine/\n=y.size
 | .ref p=>(∃ xs,SqL K H p xs/\n=xs.length)\/∃ xs,SqT K H p xs/\n=xs.length
 | _=>False
theorem qus:CallR X (.builtin "len") (λxs H Q=>∃ x n,xs=[x]/\qEl X.K x H n/\Q (.int n) H):=by
 intro pins s σ H xs us Q I r h;obtain ⟨x,n,rfl,e,q⟩:=h;obtain ⟨u,rfl,rx⟩:=vals1 r;have hl:=qog;have hs:sizeLine=16777216:=Bl
 cases x with
 | str y =>
  obtain ⟨t,rfl⟩:=rx;obtain ⟨hy,e'⟩:y.length<=sizeLine/\n=y.length:=e;subst e';exact len_str (by omega) ⟨.int _,H,I.tok _,⟨_,rfl⟩,q⟩
 | byt y =>
  obtain ⟨t,rfl⟩:=rx;obtain ⟨hy,e'⟩:y.size<=sizeLine/\n=y.size:=e;subst e';exact PySem.W.len_bytes (by omega) ⟨.int _,H,I.tok _,⟨_,rfl⟩,q⟩
 | ref p =>
  cases rx;have e':(∃ xs,SqL X.K H p xs/\n=xs.length)\/∃ xs,SqT X.K H p xs/\n=xs.length:=e
  rcases e' with ⟨xs,hx,e'⟩|⟨xs,hx,e'⟩
  ·subst e'
   obtain ⟨its,r',pl,hz⟩:=I.list hx;have hlen:=r'.length;exact Calls.call_len_list pl.isList (by simp only[Ax];omega) ⟨.int xs.length,H,I.tok _,⟨_,by simp only[Ax];rw[hlen]⟩,q⟩
  ·subst e'
   obtain ⟨its,r',pl,hz⟩:=I.tuple hx;have hlen:=r'.length;exact len_tuple pl (by simp only[Ax];omega) ⟨.int xs.length,H,I.tok _,⟨_,by simp only[Ax];rw[hlen]⟩,q⟩
 | _=>exact (show False from e).elim
end
open PySem PySem.Spec PyProof.Rows
structure ObjM (h:Heap) (x dx C:Addr) (mA:Str->Option Value):Prop where
 obj:h.get? x=some (PySem.W.instObj C dx)
 ns:h.Ns1 dx mA
 ne:dx≠x
theorem qle {h:Heap} {dx:Addr} {mA:Str->Option Value} (n:h.Ns1 dx mA):∃ od,h.get? dx=some od/\∀ name,PySem.W.lookIn name od=some (mA name):=by
 obtain ⟨o,es,ep,ho,hd,hk,_,hm⟩:=n;refine ⟨o,ho,λname=>?_⟩;have e:=hm name;unfold nsFind findBy at e;rw[<- Array.find?_toList] at e;unfold PySem.W.lookIn;rw[hd];dsimp only
 split
 ·rename_i y q
  rw[q] at e;exact congrArg some e
 ·rename_i q
  rw[q] at e;have a:es.toList.any (·.refKey)=false:=by
   rw[List.any_eq_false];intro y hy;obtain ⟨z,t,hkey⟩:=hk y (Array.mem_toList_iff.mp hy)
   simp[DictEntry.refKey,hkey]
  have a':¬ es.toList.any (·.refKey)=true:=by rw[a];exact AD
  rw[Ah a'];exact congrArg some e
theorem ObjM.look {h:Heap} {x dx C:Addr} {mA:Str->Option Value} (I:ObjM h x dx C mA):∃ od,PySem.W.InstAt h x (PySem.W.instObj C dx) C (some od)/\∀ name,PySem.W.lookIn name od=some (mA name):=
 let ⟨od,ho,hl⟩:=qle I.ns
 ⟨od,⟨I.obj,rfl,rfl,ho⟩,hl⟩
section
variable {prog:Program} {w:World} {A:Around} {E:Value->Shared->Prop} {s:Shared} {K:Frag} {x dx C f:Addr} {mA:Str->Option Value} {name:Str} {v:Value}
theorem qxm {expr:Bool} {Q:Value->Shared->Prop} (X:K.In s.heap) (I:ObjM s.heap x dx C mA) (hg:PySem.W.plainGet K C name=true) (hh:PySem.W.hasDictIn K C=true)
  (ha:PySem.W.findIn K (.ref C) name=some none) (hv:mA name=some v) (hv':PySem.W.handedIn v=true) (h:Q v { s with toks:=s.toks+1 }) :
  wpAny (model prog w) A (getAttr (.ref x) name expr) Q E s:=by
 obtain ⟨od,J,hl⟩:=I.look;exact PySem.W.get_value X J (DF hg).1 (PySem.W.findObj_own hh ha rfl (by rw[hl,hv])) hv' h
theorem qut {pl:Sem Bool} {Q:Value×List Value->Shared->Prop} (X:K.In s.heap) (I:ObjM s.heap x dx C mA) (hg:PySem.W.plainGet K C name=true)
  (hf:PySem.W.findIn K (.ref C) name=some (some (.ref f))) (ht:PySem.W.isFn K (.ref f)=true) (hv:mA name=none) (h:Q (.ref f,[.ref x]) s) :
  wpAny (model prog w) A (getMethod (.ref x) name pl) Q E s:=by
 obtain ⟨od,J,hl⟩:=I.look;exact PySem.W.method_fn X J (DF hg).1 (DF hg).2 hf (BZ.mp ht) (by show (PySem.W.lookIn name od).map (·.isSome)=some false;rw[hl,hv];rfl) h
theorem qxn {ns:List Str} {Q:Unit->Shared->Prop} (X:K.In s.heap) (I:ObjM s.heap x dx C mA)
  (hs:PySem.W.findIn K (.ref C) "__setattr__" = some (some (.builtin "object.__setattr__"))) (hp:PySem.W.plainOver K C=true) (ht:PySem.W.takerIn K C name=some none) (hh:PySem.W.hasDictIn K C=true)
  (hw:PySem.Within mA ns) (hsz:ns.length<=sizeLine)
  (h:∀ h',ObjM h' x dx C (λy=>if y=name then some v else mA y)->Heap.SameBut dx s.heap h'->Q () { s with heap:=h',toks:=s.toks+2 }) :
  wpAny (model prog w) A (setAttr (.ref x) name v) Q E s:=by
 obtain ⟨od,J,hl⟩:=I.look;refine PySem.W.set_plain X J hs (PySem.W.osa_open (s:={ s with toks:=s.toks+1 }) (r:=none) X J hp ht λb=>?_);obtain ⟨cd,hc,hd'⟩:=PySem.W.any_some hh;have hx:s.heap.get? x=some ⟨.ref C,some dx,.plain,#[]⟩:=I.obj;refine Aa (Ae (Aa (Aa (wpAny_loadPart hx (Aa (PySem.W.Looks.here (s:={ s with toks:=s.toks+1 }) (PySem.W.looks_clsIn X hc) ?_))))));rw[hd'];refine Ae (a:=some dx) (Aa (Ae (Aa ?_)));refine wpAny_nsSet1 (s:={ s with toks:=s.toks+1 }) I.ns λh' hn2 hs2=>?_
 obtain ⟨oD,esD,epD,hoD,hdD,hcD⟩:=hn2.count (PySem.Within.cons name v hw);refine Aa (wpAny_lookBehind hoD (by rw[hdD];exact pastItsLine_dict (AR hcD (by rw[Az];omega))) ?_);exact Ae (h _ ⟨(hs2.2 _ (AY I.ne)).trans I.obj,hn2,I.ne⟩ hs2)
theorem qoh {R:Result->Shared->Prop} {vs:List Value} {kw:List (Str×Value)} (X:K.In s.heap) (hm:PySem.W.makesIn K C=true)
  (hi:PySem.W.findIn K (.ref C) "__init__" = some (some (.ref f))) (hf:PySem.W.typeIn K (.ref f)=some (.type "function"))
  (h:codeAny (model prog w) (A.under (.builtin "type.__call__" ⟨.ref C :: vs,kw⟩)) (.call (.ref f) ⟨.ref (s.heap.objs.size+1) :: vs,kw⟩) (PySem.W.InitBack (s.heap.objs.size+1) R)
   {s with heap:=(s.heap.push PySem.W.emptyDict).push (PySem.W.instObj C s.heap.objs.size) }) :
  codeAny (model prog w) A (.call (.ref C) ⟨vs,kw⟩) R s:=by
 obtain ⟨hh,g,d,t,os⟩:=s;exact PySem.W.make_core (DV X hm) (Bz X hi) (λself=>PySem.W.bind_fn X self hf) (.inl rfl) h
theorem qrm {R:Result->Shared->Prop} (X:K.In s.heap) (hm:PySem.W.makesIn K C=true)
  (hi:PySem.W.findIn K (.ref C) "__init__" = some (some (.builtin "object.__init__")))
  (hb:∀ self,PySem.W.Looks (model prog w) s.heap (bindSpecial (.builtin "object.__init__") self) (.builtin "object.__init__",[self]))
  (h:codeAny (model prog w) (A.under (.builtin "type.__call__" ⟨[.ref C],[]⟩)) (.call (.builtin "object.__init__") ⟨[.ref (s.heap.objs.size+1)],[]⟩) (PySem.W.InitBack (s.heap.objs.size+1) R)
   {s with heap:=(s.heap.push PySem.W.emptyDict).push (PySem.W.instObj C s.heap.objs.size) }) :
  codeAny (model prog w) A (.call (.ref C) ⟨[],[]⟩) R s:=by
 obtain ⟨hh,g,d,t,os⟩:=s;exact PySem.W.make_core (DV X hm) (Bz X hi) hb (.inr ⟨rfl,rfl⟩) h
end
def qfl (f:Str) (v:V):List (Str×V)->List (Str×V)
 | []=>[(f,v)]
 | (g,x) :: r=>if g=f then (g,v) :: r else (g,x) :: qfl f v r
theorem qae (f g:Str) (v:V):∀ fs:List (Str×V),(qfl f v fs).lookup g=if g=f then some v else fs.lookup g
 | []=>by
  show List.lookup g [(f,v)]=_
  by_cases h:g=f
  ·have hb:(g == f)=true:=BZ.mpr h
   simp only[List.lookup,hb,Al h]
  ·have hb:(g == f)=false:=BS.mpr h
   simp only[List.lookup,hb,Ah h]
 | (k,x) :: r=>by
  have ih:=qae f g v r;rw[show qfl f v ((k,x) :: r)=(if k=f then (k,v) :: r else (k,x) :: qfl f v r) from rfl]
  by_cases hk:k=f
  ·rw[Al hk]
   by_cases h:g=k
   ·have hb:(g == k)=true:=BZ.mpr h
    simp only[List.lookup,hb,Al (h.trans hk)]
   ·have hb:(g == k)=false:=BS.mpr h
    simp only[List.lookup,hb,Ah (λe:g=f=>h (e.trans hk.symm))]
  ·rw[Ah hk]
   by_cases h:g=k
   ·have hb:(g == k)=true:=BZ.mpr h
    simp only[List.lookup,hb,Ah (λe:g=f=>hk (h.symm.trans e))]
   ·have hb:(g == k)=false:=BS.mpr h
    simp only[List.lookup,hb];exact ih
theorem qhn (f:Str) (v:V):∀ fs:List (Str×V),f∈(qfl f v fs).map (·.1)/\∀ g,g∈fs.map (·.1)->g∈(qfl f v fs).map (·.1)
 | []=>⟨by simp[qfl],λg h=>by simp at h⟩
 | (k,x) :: r=>by
  obtain ⟨i1,i2⟩:=qhn f v r;rw[show qfl f v ((k,x) :: r)=(if k=f then (k,v) :: r else (k,x) :: qfl f v r) from rfl]
  by_cases hk:k=f
  ·rw[Al hk]
   subst hk;exact ⟨by simp,λg h=>by simpa using h⟩
  ·rw[Ah hk]
   refine ⟨?_,λg h=>?_⟩
   ·rw[Aw]
    exact Ap _ i1
   ·rw[Aw] at h ⊢
    rcases Ak.mp h with e|e
    ·exact Ak.mpr (.inl e)
    ·exact Ap _ (i2 g e)
theorem qho (f:Str) (v:V):∀ fs:List (Str×V),(qfl f v fs).length<=fs.length+1
 | []=>by simp[qfl]
 | (k,x) :: r=>by
  have ih:=qho f v r;rw[show qfl f v ((k,x) :: r)=(if k=f then (k,v) :: r else (k,x) :: qfl f v r) from rfl]
  by_cases hk:k=f
  ·rw[Al hk,Az,Az];omega
  ·rw[Ah hk,Az,Az];omega
theorem RelO.some_of {v:V} {o:Option Value} (r:RelO (some v) o):∃ u,o=some u/\RelV v u:=by
 cases o with
 | none=>exact (show False from r).elim
 | some u=>exact ⟨u,rfl,r⟩
theorem RelO.none_of {o:Option Value} (r:RelO none o):o=none:=by
 cases o with
 | none=>rfl
 | some u=>exact (show False from r).elim
theorem qlf {v:V} {u:Value} (r:RelV v u):PySem.W.handedIn u=true:=by
 cases v with
 | non=>cases (show u=Value.none from r);rfl
 | bl b=>cases (show u=Value.bool b from r);rfl
 | int i=>obtain ⟨t,e⟩:=(show ∃ t,u=Value.int i t from r);cases e;rfl
 | str x=>obtain ⟨t,e⟩:=(show ∃ t,u=Value.str x t from r);cases e;rfl
 | byt b=>obtain ⟨t,e⟩:=(show ∃ t,u=Value.bytes b t from r);cases e;rfl
 | flt b=>obtain ⟨t,e⟩:=(show ∃ t,u=Value.float b t from r);cases e;rfl
 | ref a=>cases (show u=Value.ref a from r);rfl
 | ty n=>cases (show u=Value.type n from r);rfl
section
variable {P:Program} {w:World} {H H':Hp} {h h':Heap} {a C dx:Addr} {fs fs':List (Str×V)}
theorem qki (hok:HOk P w H h) (e:H a=some (.ins C dx fs)):∃ mA,ObjM h a dx C mA/\(∀ f,RelO (fs.lookup f) (mA f))/\PySem.Within mA (fs.map (·.1))/\fs.length<=1000/\H dx=some (.own a):=by
 obtain ⟨d,z,ne,ob,mA,n,r,q⟩:=(show ObjOk P w H h a (.ins C dx fs) from hok a _ e);exact ⟨mA,⟨ob,n,ne⟩,r,q,z,d⟩
end
structure Cls (K:Frag) (C:Addr):Prop where
 pg:PySem.W.plainGet K C Str.empty=true
 hd:PySem.W.hasDictIn K C=true
 po:PySem.W.plainOver K C=true
 sa:PySem.W.findIn K (.ref C) "__setattr__" = some (some (.builtin "object.__setattr__"))
theorem Cls.get {K:Frag} {C:Addr} (c:Cls K C) (f:Str):PySem.W.plainGet K C f=true:=c.pg
def NoAttr (K:Frag) (C:Addr) (f:Str):Prop:=PySem.W.findIn K (.ref C) f=some none
theorem NoAttr.taker {K:Frag} {C:Addr} {f:Str} (n:NoAttr K C f):PySem.W.takerIn K C f=some none:=by
 unfold PySem.W.takerIn;rw[show PySem.W.findIn K (.ref C) f=some none from n]
 rfl
structure qrn (K:Frag) (C:Addr) (m:Str) (f:Addr):Prop where
 at_:PySem.W.findIn K (.ref C) m=some (some (.ref f))
 fn:PySem.W.isFn K (.ref f)=true
 kp:keepIn K (.ref f)=true
section
variable {X:Cx} {pins:List (Addr×Obj)} {σ:St} {H:Hp} {s:Shared} {a C dx:Addr} {fs:List (Str×V)} {f:Str} {v:V} {A:Around} {E:Value->Shared->Prop}
theorem qp6 {b:Bool} {Q:Value->Shared->Prop} (I:Inv X pins σ H s) (e:H a=some (.ins C dx fs)) (c:Cls X.K C) (n:NoAttr X.K C f) (l:fs.lookup f=some v)
  (h:∀ u s',Inv X pins σ H s'->RelV v u->Q u s'):wpAny (model X.prog X.w) A (getAttr (.ref a) f b) Q E s:=by
 obtain ⟨mA,O,r,_,_,_⟩:=qki I.hok e;obtain ⟨u,hu,ru⟩:=RelO.some_of (v:=v) (o:=mA f) (by rw[<- l];exact r f);exact qxm I.kIn O (c.get f) c.hd n hu (qlf ru) (h u _ (I.tok _) ru)
theorem qf5 {m:Str} {g:Addr} {pl:Sem Bool} {Q:Value×List Value->Shared->Prop} (I:Inv X pins σ H s) (e:H a=some (.ins C dx fs)) (c:Cls X.K C) (k:qrn X.K C m g) (l:fs.lookup m=none)
  (h:Q (.ref g,[.ref a]) s):wpAny (model X.prog X.w) A (getMethod (.ref a) m pl) Q E s:=by
 obtain ⟨mA,O,r,_,_,_⟩:=qki I.hok e;have hn:mA m=none:=RelO.none_of (by rw[<- l];exact r m);exact qut I.kIn O (c.get m) k.at_ k.fn hn h
theorem qp7 {y:V} {u:Value} {Q:Unit->Shared->Prop} (I:Inv X pins σ H s) (e:H a=some (.ins C dx fs)) (c:Cls X.K C) (n:NoAttr X.K C f) (hl:fs.length<1000) (ry:RelV y u)
  (h:∀ s',Inv X pins σ (upd H a (.ins C dx (qfl f y fs))) s'->Q () s'):wpAny (model X.prog X.w) A (setAttr (.ref a) f u) Q E s:=by
 obtain ⟨mA,O,r,wi,_,ho⟩:=qki I.hok e;have hz:(fs.map (·.1)).length<=sizeLine:=by rw[Ac,Bl];omega
 refine qxn I.kIn O c.sa c.po n.taker c.hd wi hz λh' O' sb=>h _ ?_
 have hd:∃ o,h'.get? dx=some o:=let ⟨o,_,_,e',_⟩:=O'.ns;⟨o,e'⟩
 refine I.write (x:=a) (e:=dx) (by rw[e];exact True.intro) (.inr ho) (λb q hb z=>(sb.2 b hb).trans z) hd ?_;refine ⟨by rw[qas O.ne];exact ho,?_,O.ne,O'.obj,_,O'.ns,λg=>?_,λg hg=>?_⟩
 ·have:=qho f y fs;omega
 ·show RelO ((qfl f y fs).lookup g) (if g=f then some u else mA g)
  rw[qae]
  by_cases q:g=f
  ·rw[Al q,Al q];exact ry
  ·rw[Ah q,Ah q];exact r g
 ·by_cases q:g=f
  ·rw[q];exact (qhn f y fs).1
  ·refine (qhn f y fs).2 g (wi g λz=>hg ?_)
   show (if g=f then some u else mA g)=none
   rw[Ah q];exact z
theorem Inv.made (I:Inv X pins σ H s):Inv X pins σ (upd (upd H s.heap.objs.size (.own (s.heap.objs.size+1))) (s.heap.objs.size+1) (.ins C s.heap.objs.size []))
  {s with heap:=(s.heap.push PySem.W.emptyDict).push (PySem.W.instObj C s.heap.objs.size) }:=by
 have e1:(s.heap.push PySem.W.emptyDict).get? s.heap.objs.size=some PySem.W.emptyDict:=Ao s.heap rfl;have e2:((s.heap.push PySem.W.emptyDict).push (PySem.W.instObj C s.heap.objs.size)).get? (s.heap.objs.size+1)=some (PySem.W.instObj C s.heap.objs.size):=by
  have:=Ao (s.heap.push PySem.W.emptyDict) (o:=PySem.W.instObj C s.heap.objs.size) rfl
  rwa [Bp] at this
 have e3:(s.heap.push PySem.W.emptyDict).Ns s.heap.objs.size (λ_=>none):=⟨PySem.W.emptyDict,#[],_,e1,rfl,(λe he=>absurd he (by simp)),λ_=>rfl⟩;have I1:=I.laid (a:=s.heap.objs.size) (o:=.own (s.heap.objs.size+1)) (h':=s.heap.push PySem.W.emptyDict) (t':=s.toks) (λb u q=>Ab _ q) (Ag _) ⟨_,e1⟩;refine I1.laid (a:=s.heap.objs.size+1) (o:=.ins C s.heap.objs.size []) (t':=s.toks) (λb u q=>Ab _ q) (EU (Bp _ _)) ?_;have ne:s.heap.objs.size≠s.heap.objs.size+1:=Av (BU _);refine ⟨by rw[qas ne,qa5],AW _,ne,e2,λ_=>none,(Heap.Ns1.of_empty e3).at λo q=>Ab _ q,λ_=>True.intro,λy hy=>absurd rfl hy⟩
theorem qro {prog:Program} {w:World} {env:Env} {e:Expr} {f:Str} {pos:Pos} {s:Shared} {Q:Value->Shared->Prop} (hb:attributeBase e f env (eval e env)=eval e env)
  (h:wpAny (model prog w) A (eval e env) (λo s₁=>wpAny (model prog w) A (getAttr o f true) Q E s₁) E s):wpAny (model prog w) A (eval (.Attribute e f pos) env) Q E s:=
 Attribute_any_ h (by rw[arm_eval_Attribute,hb])
end
inductive qCu (K:Frag) (f:Str) (x:V) (H1:Hp) (Q:VK):Prop
 | mk (a C dx:Addr) (fs:List (Str×V)) (v:V) (hx:x=.ref a) (ho:H1 a=some (.ins C dx fs)) (hc:Cls K C) (hn:NoAttr K C f) (hl:fs.lookup f=some v) (k:Q v H1)
def qCv (K:Frag) (ta:TE) (f:Str):TE:=λσ H Q=>ta σ H λx H1=>qCu K f x H1 Q
section
variable {X:Cx} {o e value:Expr} {f:Str} {pos pos' tpos:Pos} {ta tv:TE}
theorem qa7 (he:PE X e ta) (hb:attributeBase e f X.env (eval e X.env)=eval e X.env):PE X (.Attribute e f pos) (qCv X.K ta f):=by
 intro pins s σ H Q I h;refine qro hb (thn (he pins s σ H _ I h) λu s1 hq__=>?_);obtain ⟨x,H1,I1,rx,a,C,dx,fs,v,ex,ea,c,n,l,q⟩:=hq__;subst ex;obtain rfl:u=Value.ref a:=rx;exact qp6 I1 ea c n l λu' s2 I2 ru=>⟨v,H1,I2,ru,q⟩
end
section
variable {X:Cx} {pins:List (Addr×Obj)} {σ:St} {H:Hp} {s:Shared} {A:Around} {E:Value->Shared->Prop} {Q:Value->Shared->Prop} {c:Value} {b:Bool}
inductive TyOf (K:Frag) (H:Hp):V->Value->Prop where
 | non:TyOf K H .non (.type "NoneType")
 | bl (x:Bool):TyOf K H (.bl x) (.type "bool")
 | int (i:Int):TyOf K H (.int i) (.type "int")
 | str (x:Str):TyOf K H (.str x) (.type "str")
 | flt (x:UInt64):TyOf K H (.flt x) (.type "float")
 | lst {a:Addr} {xs:List V} (e:H a=some (.lst xs)):TyOf K H (.ref a) (.type "list")
 | frz {a:Addr} {o:Obj} {xs:List V} (e:H a=some (.frz o (.lst xs))):TyOf K H (.ref a) (.type "list")
 | tup {a:Addr} {xs:List V} (e:H a=some (.tup xs)):TyOf K H (.ref a) (.type "tuple")
 | dK {a:Addr} {kvs:List (Key×V)} (e:H a=some (.dK kvs)):TyOf K H (.ref a) (.type "dict")
 | dT {a:Addr} {kvs:List (List Key×V)} (e:H a=some (.dT kvs)):TyOf K H (.ref a) (.type "dict")
 | ins {a C dx:Addr} {fs:List (Str×V)} (e:H a=some (.ins C dx fs)) (cl:Cls K C) (ha:PySem.W.findIn K (.ref C) "__class__" = some (some (.builtin "object.__class__")))
   (hn:PySem.W.specialIn K (.builtin "object.__class__") "__get__" = some (some (.builtin "getset_descriptor.__get__"))) (htk:PySem.W.takesIn K (.builtin "object.__class__")=some true)
   (hm:PySem.W.mroIn K C (.type "object")=some true):TyOf K H (.ref a) (.ref C)
theorem qrp {x:V} {u t:Value} (I:Inv X pins σ H s) (rx:RelV x u) (ty:TyOf X.K H x t) (e:PySem.W.kitOne X.K t c=some b) (h:∀ tk,Q (.bool b) { s with toks:=tk }) :
  wpAny (model X.prog X.w) A (call (.builtin "isinstance") [u,c]) Q E s:=by
 cases ty with
 | non=>cases (show u=Value.none from rx);exact Bq PySem.W.kitx_none I.kIn True.intro e (λz=>nomatch z) h
 | bl y=>cases (show u=Value.bool y from rx);exact Bq PySem.W.kitx_bool I.kIn True.intro e (λz=>nomatch z) h
 | int i=>obtain ⟨t,q⟩:=(show ∃ t,u=Value.int i t from rx);cases q;exact Bq PySem.W.kitx_int I.kIn True.intro e (λz=>nomatch z) h
 | str y=>obtain ⟨t,q⟩:=(show ∃ t,u=Value.str y t from rx);cases q;exact Bq PySem.W.kitx_str I.kIn True.intro e (λz=>nomatch z) h
 | flt y=>obtain ⟨t,q⟩:=(show ∃ t,u=Value.float y t from rx);cases q;exact Bq PySem.W.kitx_float I.kIn True.intro e (λz=>nomatch z) h
 | @lst a xs ea =>
  cases (show u=Value.ref a from rx)
  obtain ⟨_,_,n,_,h1⟩:=(show ObjOk X.prog X.w H s.heap a (.lst xs) from I.hok a _ ea);exact Bq PySem.W.kitx_list I.kIn ⟨_,h1,rfl⟩ e (λz=>nomatch z) h
 | @frz a ob xs ea =>
  cases (show u=Value.ref a from rx)
  obtain ⟨_,_,_,n,_,h1⟩:=(show ObjOk X.prog X.w H s.heap a (.frz ob (.lst xs)) from I.hok a _ ea);exact Bq PySem.W.kitx_list I.kIn ⟨_,h1,rfl⟩ e (λz=>nomatch z) h
 | @tup a xs ea =>
  cases (show u=Value.ref a from rx)
  obtain ⟨_,_,_,p⟩:=(show ObjOk X.prog X.w H s.heap a (.tup xs) from I.hok a _ ea);obtain ⟨o,h1,h2,_⟩:=p;exact Bq PySem.W.kitx_tuple I.kIn ⟨o,h1,h2⟩ e (λz=>nomatch z) h
 | @dK a kvs ea =>
  cases (show u=Value.ref a from rx)
  obtain ⟨_,_,vs,_,p⟩:=(show ObjOk X.prog X.w H s.heap a (.dK kvs) from I.hok a _ ea);obtain ⟨o,es,ep,h1,h2,_⟩:=p;exact Bq PySem.W.kitx_dict I.kIn ⟨o,h1,h2.1⟩ e (λz=>nomatch z) h
 | @dT a kvs ea =>
  cases (show u=Value.ref a from rx)
  obtain ⟨_,_,xs,_,o,es,ep,h1,h2,_⟩:=(show ObjOk X.prog X.w H s.heap a (.dT kvs) from I.hok a _ ea);exact Bq PySem.W.kitx_dict I.kIn ⟨o,h1,h2.1⟩ e (λz=>nomatch z) h
 | @ins a C dx fs ea cl ha hn htk hm =>
  cases (show u=Value.ref a from rx)
  obtain ⟨mA,O,_⟩:=qki I.hok ea;obtain ⟨od,J,_⟩:=O.look;exact Bq (PySem.W.kitx_own (cl.get _) cl.hd ha hn htk hm) I.kIn J e (λz=>nomatch z) h
end
open PySem PySem.Spec PyProof.Rows
structure Room (k:Nat) (A:Around):Prop where
 hd:A.handled=none
 dp:A.depth+3*k+5<recursionLimit
 un:A.units+16*k+200<cLine
theorem Room.mono {j k:Nat} {A:Around} (r:Room k A) (h:j<=k):Room j A:=⟨r.hd,by have:=r.dp;omega,by have:=r.un;omega⟩
theorem Room.deeper {k:Nat} {A:Around} (r:Room (k+1) A) (env:Env):Room k (A.deeper env):=
 ⟨r.hd,by have:=r.dp;show A.depth+1+3*k+5<_;omega,by have:=r.un;show A.units+3+16*k+200<_;omega⟩
theorem qp8 {A:Around} {C:Addr} {us:List Value} {kw:List (Str×Value)}:(A.under (.builtin "type.__call__" ⟨.ref C :: us,kw⟩)).depth=A.depth+1:=by
 first|rfl|simp[Around.under,Code.weight,Code.isCreation,Code.isGuard,Code.isCaller,Code.frames,Code.isFrame,guardIds]
theorem qp9 {A:Around} {C:Addr} {us:List Value} {kw:List (Str×Value)}:(A.under (.builtin "type.__call__" ⟨.ref C :: us,kw⟩)).units=A.units+1:=by
 first|rfl|simp[Around.under,Code.cUnits,Code.frames,Code.isFrame]
theorem Room.make {k:Nat} {A:Around} (r:Room (k+1) A) (C:Addr) (us:List Value) (kw:List (Str×Value)):Room k (A.under (.builtin "type.__call__" ⟨.ref C :: us,kw⟩)):=
 ⟨r.hd,by have:=r.dp;rw[qp8];omega,by have:=r.un;rw[qp9];omega⟩
theorem Room.depth {k:Nat} {A:Around} (r:Room k A):A.depth<recursionLimit:=by have:=r.dp;omega
theorem Room.units {k:Nat} {A:Around} (r:Room k A):A.units+64<cLine:=by have:=r.un;omega
def qf6:TA:=λ_ H Q=>Q [] H
def qc4 (ta:TE) (tr:TA):TA:=λσ H Q=>ta σ H λx H1=>tr σ H1 λxs H2=>Q (x :: xs) H2
section
variable {X:Cx} {e:Expr} {es:List Expr} {te:TE} {t:TA} {pos:Pos}
theorem qdz:PA X [] qf6:=λ_ _ _ _ H Q I h=>Calls.spliced_nil ⟨[],H,I,.nil,h⟩
theorem qbi (ha:PE X e te) (hr:PA X es t) (hs:starEach (e :: es) X.env=(false,eval e X.env) :: starEach es X.env:=by rfl):PA X (e :: es) (qc4 te t):=by
 intro pos pins s σ H Q I h;rw[hs]
 show wpAny _ _ (spliced ((false,eval e X.env) :: backTo pos (starEach es X.env))) _ _ s
 refine DN (thn (ha pins s σ H _ I h) λu s1 hq__=>?_);obtain ⟨x,H1,I1,r1,q1⟩:=hq__;exact thn (hr pos pins s1 σ H1 _ I1 q1) λus s2 ⟨xs,H2,I2,r2,q2⟩=>⟨x :: xs,H2,I2,.cons r1 r2,q2⟩
end
abbrev Sp:=List V->Hp->VK->XK->Prop
abbrev CXT:=List Env->Hp->Shared->XK->Value->Shared->Prop
structure Env0 (P:Program) (w:World) (K:Frag) (mg:Str->Option Value) (base:Heap) (A:Around) (outer:List Env) (s:Shared) (H:Hp):Prop where
 frames:A.frames=some outer
 mod:Mod K mg base
 bs:∀ b o,base.get? b=some o->s.heap.get? b=some o/\H b=none
 bsz:base.objs.size<=s.heap.objs.size
 funs:s.heap.FunFrames base outer
 frf:∀ b∈frs outer,H b=none
 hok:HOk P w H s.heap
 bare:AllBare s.gens
def CE (outer:List Env) (P:Program) (w:World) (H:Hp) (s:Shared) (Q:VK) (u:Value) (s':Shared):Prop:=
 ∃ v H',s'.os=s.os/\AllBare s'.gens/\Un (frs outer) [] H H' s.heap s'.heap/\HOk P w H' s'.heap/\RelV v u/\Q v H'
def CR (CX:CXT) (outer:List Env) (P:Program) (w:World) (H:Hp) (s:Shared) (Q:VK) (E:XK) (r:Result) (s':Shared):Prop:=
 match r with
 | .ok (.ret u)=>CE outer P w H s Q u s'
 | .ok _=>False
 | .error e=>CX outer H s E e s'
structure qf7 (P:Program) (w:World) (K:Frag) (mg:Str->Option Value) (base:Heap) (CX:CXT) (k:Nat) (f:Addr) (fd:FuncData) (ps:List Str) (sp:Sp):Prop where
 len:∀ vs H Q E,sp vs H Q E->vs.length=ps.length
 run:∀ (A:Around) (outer:List Env) (s:Shared) (H:Hp) (args:Args) (us:List Value) (vs:List V) (Q:VK) (E:XK),Room k A->Env0 P w K mg base A outer s H->BindsTo s fd args (ps.zip us)->Vals vs us->sp vs H Q E ->
  codeAny (model P w) A (.call (.ref f) args) (CR CX outer P w H s Q E) s
theorem Env0.make {P:Program} {w:World} {K:Frag} {mg:Str->Option Value} {base:Heap} {A:Around} {outer:List Env} {s:Shared} {H:Hp} (e:Env0 P w K mg base A outer s H) (C:Addr) (us:List Value) (kw:List (Str×Value)) :
  Env0 P w K mg base (A.under (.builtin "type.__call__" ⟨.ref C :: us,kw⟩)) outer s H:=⟨by first|exact e.frames|(simpa [Around.under,Code.envs,Code.isFrame,pushEnvs] using e.frames),e.mod,e.bs,e.bsz,e.funs,e.frf,e.hok,e.bare⟩
section
variable {X:Cx} {pins:List (Addr×Obj)} {σ:St} {H:Hp} {s s':Shared}
theorem Inv.env0 (I:Inv X pins σ H s):Env0 X.prog X.w X.K X.mg X.base X.A X.stack s H:=
 ⟨I.ok.frames,I.ok.mod,I.bs,AR I.ok.bsz I.sz,I.stack,I.stkFree,I.hok,I.bare⟩
theorem Inv.after {Q:VK} {u:Value} (I:Inv X pins σ H s) (h:CE X.stack X.prog X.w H s Q u s'):EP X pins σ Q u s':=by
 obtain ⟨v,H',os,bare,un,hok,r,q⟩:=h;obtain ⟨hh,g,d,t,os'⟩:=s';obtain rfl:os'=s.os:=os;exact ⟨v,H',I.call (h':=hh) (g':=g) (d':=d) (t':=t) (ch:=[]) un hok bare (λb z=>absurd z (by simp)),r,q⟩
end
def qxo (sp:Sp) (dvs:List V) (E:XK) (t:TA):TE:=λσ H Q=>t σ H λvs H1=>sp (vs ++ dvs) H1 Q E
inductive qwc (C:Addr) (m:Str) (x:V) (H:Hp) (k:Prop):Prop
 | mk (a dx:Addr) (fs:List (Str×V)) (hx:x=.ref a) (ho:H a=some (.ins C dx fs)) (hl:fs.lookup m=none) (hk:k)
def quu (C:Addr) (m:Str) (sp:Sp) (dvs:List V) (E:XK) (ta:TE) (t:TA):TE:=λσ H Q=>ta σ H λx H1=>qwc C m x H1 (t σ H1 λvs H2=>sp (x :: (vs ++ dvs)) H2 Q E)
def Binds (K:Frag) (fd:FuncData) (ps:List Str) (ds:List Value):Prop:=
 ∀ (s:Shared) (us:List Value),K.In s.heap->(us ++ ds).length=ps.length->BindsTo s fd ⟨us,[]⟩ (ps.zip (us ++ ds))
theorem Binds.all {K:Frag} {fd:FuncData} {ps:List Str} (h:∀ us:List Value,us.length=ps.length->bindArgs fd ⟨us,[]⟩=pure (ps.zip us)):Binds K fd ps []:=λs us _ hl=>by
 rw[AN] at hl ⊢;exact .of_eq (h us hl)
def qjo (CX:CXT) (X:Cx) (E:XK):Prop:=∀ (pins:List (Addr×Obj)) (σ:St) (H:Hp) (s:Shared) (e:Value) (s':Shared),Inv X pins σ H s->CX X.stack H s E e s'->X.xe e s'
section
variable {X:Cx} {CX:CXT} {k:Nat} {f C:Addr} {fd:FuncData} {ps:List Str} {sp:Sp} {dvs:List V} {ds:List Value} {E:XK} {x m:Str} {p pos apos:Pos} {e o:Expr} {es:List Expr} {ta:TE} {t:TA}
theorem qrq {pins:List (Addr×Obj)} {σ:St} {H:Hp} {s:Shared} {Q:VK} {us:List Value} {vs:List V} (F:qf7 X.prog X.w X.K X.mg X.base CX k f fd ps sp) (hr:Room k X.A) (hb:Binds X.K fd ps ds) (hd:Vals dvs ds) (hx:qjo CX X E)
  (I:Inv X pins σ H s) (r:Vals vs us) (h:sp (vs ++ dvs) H Q E):wpAny (model X.prog X.w) X.A (call (.ref f) us) (EP X pins σ Q) X.xe s:=by
 have r2:Vals (vs ++ dvs) (us ++ ds):=r.append hd;have hl:(us ++ ds).length=ps.length:=by rw[<- r2.length];exact F.len _ _ _ _ h
 refine BY (BJ (F.run X.A X.stack s H ⟨us,[]⟩ (us ++ ds) (vs ++ dvs) Q E hr I.env0 (hb s us I.kIn hl) r2 h) λr s' hq=>?_)
 cases r with
 | error e=>exact hx pins σ H s e s' I hq
 | ok fl =>
  cases fl with
  | ret u=>exact I.after hq
  | next=>exact False.elim hq
  | brk=>exact False.elim hq
  | cont=>exact False.elim hq
theorem qxp (F:qf7 X.prog X.w X.K X.mg X.base CX k f fd ps sp) (hr:Room k X.A) (hg:Gl X x) (hm:X.mg x=some (.ref f)) (hk:keepIn X.K (.ref f)=true) (hb:Binds X.K fd ps ds) (hd:Vals dvs ds) (hx:qjo CX X E)
  (ha:PA X (e :: es) t) (hdb:(x == ("__debug__" : Str))=false:=by decide) (he:starEach (e :: es) X.env=(false,eval e X.env) :: starEach es X.env:=by rfl) (hpl:(backTo pos (starEach es X.env)).any (·.1)=false:=by rfl) :
  PE X (.Call (.Name x p) (e :: es) [] pos) (qxo sp dvs E t):=by
 intro pins s σ H Q I h;refine BL (qdg I hg hm ?_ hdb);refine B5 (h₀:=X.base) I.ok.mod.kin hk (thn (ha pos pins s σ H _ I h) λus s1 ⟨vs,H1,I1,r,q⟩=>⟨I1.kIn,?_⟩) he hpl;exact qrq F hr hb hd hx I1 r q
theorem qxq {pl:Sem Bool} (he:PE X o ta) (c:Cls X.K C) (hm:qrn X.K C m f) (F:qf7 X.prog X.w X.K X.mg X.base CX k f fd ps sp) (hr:Room k X.A) (hb:Binds X.K fd ps ds) (hd:Vals dvs ds) (hx:qjo CX X E) (ha:PA X (e :: es) t)
  (hst:starEach (e :: es) X.env=(false,eval e X.env) :: starEach es X.env:=by rfl) (hpl:(backTo pos (starEach es X.env)).any (·.1)=false:=by rfl)
  (ht:eval (.Call (.Attribute o m apos) (e :: es) [] pos) X.env=(do
   let ov <- eval o X.env
   standAt apos.atName
   let (f,first) <- holding [ov] (getMethod ov m pl)
   callWith pos f first (backTo pos (starEach (e :: es) X.env)) (backToKw pos (keywordEach [] X.env))):=by rfl) :
  PE X (.Call (.Attribute o m apos) (e :: es) [] pos) (quu C m sp dvs E ta t):=by
 intro pins s σ H Q I h;refine CL (pl:=pl) (thn (he pins s σ H _ I h) λu s1 hq__=>?_) ht;obtain ⟨x,H1,I1,rx,a,dx,fs,ex,ea,l,q⟩:=hq__;subst ex;obtain rfl:u=Value.ref a:=rx;refine qf5 I1 ea c hm l ?_;refine B5 (first:=[.ref a]) (h₀:=X.base) I.ok.mod.kin hm.kp (thn (ha pos pins s1 σ H1 _ I1 q) λus s2 ⟨vs,H2,I2,r,q2⟩=>⟨I2.kIn,?_⟩) hst hpl;exact qrq (us:=.ref a :: us) (vs:=.ref a :: vs) F hr hb hd hx I2 (.cons rfl r) q2
theorem quv {pl:Sem Bool} (he:PE X o ta) (c:Cls X.K C) (hm:qrn X.K C m f) (F:qf7 X.prog X.w X.K X.mg X.base CX k f fd ps sp) (hr:Room k X.A) (hb:Binds X.K fd ps ds) (hd:Vals dvs ds) (hx:qjo CX X E)
  (ht:eval (.Call (.Attribute o m apos) [] [] pos) X.env=(do
   let ov <- eval o X.env
   standAt apos.atName
   let (f,first) <- holding [ov] (getMethod ov m pl)
   callWith pos f first (backTo pos (starEach [] X.env)) (backToKw pos (keywordEach [] X.env))):=by rfl) :
  PE X (.Call (.Attribute o m apos) [] [] pos) (quu C m sp dvs E ta qf6):=by
 intro pins s σ H Q I h;refine CL (pl:=pl) (thn (he pins s σ H _ I h) λu s1 hq__=>?_) ht;obtain ⟨x,H1,I1,rx,a,dx,fs,ex,ea,l,q⟩:=hq__;subst ex;obtain rfl:u=Value.ref a:=rx;refine qf5 I1 ea c hm l ?_;exact PySem.W.callWith_K0 (first:=[.ref a]) I1.kIn hm.kp (qrq (us:=[.ref a]) (vs:=[.ref a]) F hr hb hd hx I1 (.cons rfl .nil) q)
structure Mk (K:Frag) (C f:Addr):Prop where
 makes:PySem.W.makesIn K C=true
 init:PySem.W.findIn K (.ref C) "__init__" = some (some (.ref f))
 fn:PySem.W.isFn K (.ref f)=true
 kp:keepIn K (.ref C)=true
theorem quw {pins:List (Addr×Obj)} {σ:St} {H:Hp} {s:Shared} {Q:VK} {us:List Value} {vs:List V} (M:Mk X.K C f) (F:qf7 X.prog X.w X.K X.mg X.base CX k f fd ps sp) (hr:Room (k+1) X.A) (hb:Binds X.K fd ps ds) (hd:Vals dvs ds)
  (hx:qjo CX X E) (I:Inv X pins σ H s) (r:Vals vs us)
  (h:∀ x dx,H x=none->H dx=none->dx≠x->sp (.ref x :: (vs ++ dvs)) (upd (upd H dx (.own x)) x (.ins C dx [])) (λv H2=>v=.non/\Q (.ref x) H2) E) :
  wpAny (model X.prog X.w) X.A (call (.ref C) us) (EP X pins σ Q) X.xe s:=by
 have hq:=h (s.heap.objs.size+1) s.heap.objs.size (I.hok.fresh (Ci _)) (I.hok.fresh (Ag _)) (Av (BU _));have I2:=Inv.made (C:=C) I;have r2:Vals (V.ref (s.heap.objs.size+1) :: (vs ++ dvs)) (Value.ref (s.heap.objs.size+1) :: (us ++ ds)):=.cons rfl (r.append hd);have hl:(Value.ref (s.heap.objs.size+1) :: us ++ ds).length=ps.length:=by
  have e:=r2.length;rw[F.len _ _ _ _ hq] at e;exact e.symm
 refine BY (qoh (f:=f) I.kIn M.makes M.init (BZ.mp M.fn) (BJ (F.run _ X.stack _ _ ⟨Value.ref (s.heap.objs.size+1) :: us,[]⟩ (Value.ref (s.heap.objs.size+1) :: (us ++ ds)) _ _ E (hr.make C us [])
  (I2.env0.make C us []) (hb _ (Value.ref (s.heap.objs.size+1) :: us) I2.kIn hl) r2 hq) λr s' hq'=>?_))
 cases r with
 | error e=>exact hx pins σ _ _ e s' I2 hq'
 | ok fl =>
  cases fl with
  | ret u =>
   obtain ⟨v,H',I3,rv,ev,q3⟩:=I2.after hq';subst ev;exact ⟨rv,⟨V.ref (s.heap.objs.size+1),H',I3,rfl,q3⟩⟩
  | next=>exact False.elim hq'
  | brk=>exact False.elim hq'
  | cont=>exact False.elim hq'
end
section
variable {X:Cx} {CX:CXT} {k:Nat} {f C:Addr} {fd:FuncData} {ps ks:List Str} {sp:Sp} {E:XK} {x m:Str} {p pos apos kpos:Pos} {e o:Expr} {es:List Expr} {kws:List Keyword} {te ta:TE} {t tk:TA} {nm:Option Str}
variable {g:List Value->List Value->List Value} {gV:List V->List V->List V}
end
structure qaf (N P:List Str) (sc:Scope):Prop where
 kind:sc.kind=.function
 co:sc.isCoroutine=false
 gen:sc.isGenerator=false
 nd:N.Nodup
 pre:N.take P.length=P
 par:∀ x∈P,sc.names.lookup x=some .local\/sc.names.lookup x=some .cell
 nofree:∀ y∈sc.names,y.2≠.free
theorem qlg {kindOf:Str->Option NameKind} {x:Str}:∀ {binds:List (Str×Value)} {m:Str->Option Value},(∀ v,(x,v) ∉ binds)->bindL kindOf binds m x=m x
 | [],_,_=>rfl
 | (n,v) :: r,m,h=>by
  unfold bindL;rw[qlg λw hw=>h w (Ap _ hw)]
  split
  ·have:x≠n:=by rintro rfl;exact h v Au
   simp[this]
  ·rfl
theorem qlh {kindOf:Str->Option NameKind} {x:Str}:∀ {binds:List (Str×Value)} {m:Str->Option Value},(∀ v,(x,v) ∉ binds)->bindC kindOf binds m x=m x
 | [],_,_=>rfl
 | (n,v) :: r,m,h=>by
  unfold bindC;rw[qlh λw hw=>h w (Ap _ hw)]
  split
  ·rfl
  ·have:x≠n:=by rintro rfl;exact h v Au
   simp[this]
theorem qli {kindOf:Str->Option NameKind} {x:Str} {v:Value}:∀ {P:List Str} {vs:List Value} {i:Nat} {m:Str->Option Value},P.Nodup->P[i]?=some x->vs[i]?=some v->kindOf x=some .local ->
  bindL kindOf (P.zip vs) m x=some v
 | [],_,_,_,_,h,_,_=>by simp at h
 | _ :: _,[],_,_,_,_,h,_=>by simp at h
 | p :: P,w :: vs,0,m,nd,h1,h2,hk=>by
  simp at h1 h2;subst h1;subst h2
  show bindL kindOf ((p,w) :: P.zip vs) m p=_
  unfold bindL;rw[qlg λv hv=>(Bf.mp nd).1 (CV hv).1,Al hk]
  simp
 | p :: P,w :: vs,i+1,m,nd,h1,h2,hk=>by
  show bindL kindOf ((p,w) :: P.zip vs) m x=_
  unfold bindL;exact qli (i:=i) (Bf.mp nd).2 (by simpa using h1) (by simpa using h2) hk
theorem qlj {kindOf:Str->Option NameKind} {x:Str} {v:Value}:∀ {P:List Str} {vs:List Value} {i:Nat} {m:Str->Option Value},P.Nodup->P[i]?=some x->vs[i]?=some v->kindOf x≠some .local ->
  bindC kindOf (P.zip vs) m x=some v
 | [],_,_,_,_,h,_,_=>by simp at h
 | _ :: _,[],_,_,_,_,h,_=>by simp at h
 | p :: P,w :: vs,0,m,nd,h1,h2,hk=>by
  simp at h1 h2;subst h1;subst h2
  show bindC kindOf ((p,w) :: P.zip vs) m p=_
  unfold bindC;rw[qlh λv hv=>(Bf.mp nd).1 (CV hv).1,Ah hk]
  simp
 | p :: P,w :: vs,i+1,m,nd,h1,h2,hk=>by
  show bindC kindOf ((p,w) :: P.zip vs) m x=_
  unfold bindC;exact qlj (i:=i) (Bf.mp nd).2 (by simpa using h1) (by simpa using h2) hk
def start (N:List Str) (vs:List V):St:=vs.map some ++ List.replicate (N.length-vs.length) none
def qrr (CX:CXT) (P:Program) (w:World) (K:Frag) (mg:Str->Option Value) (base:Heap) (N:List Str) (qual:Str) (scope:Scope) (f:Addr) (cd:Value) (A:Around) (outer:List Env) (s:Shared) (H:Hp) (E:XK):Cx where
 prog:=P
 w:=w
 K:=K
 mg:=mg
 base:=base
 A:=A.deeper (envOfC qual scope s.heap.objs.size f cd)
 N:=N
 s₀:=s
 H₀:=H
 env:=envOfC qual scope s.heap.objs.size f cd
 outer:=outer
 stack:=envOfC qual scope s.heap.objs.size f cd :: outer
 ex:=[]
 calm:=true
 fn:=λ_=>true
 pn:=[]
 xe:=λe s'=>wpAny (model P w) (A.deeper (envOfC qual scope s.heap.objs.size f cd)) (leaving (envOfC qual scope s.heap.objs.size f cd) e) (λ_ s''=>CX outer H s E e s'') (λe' s''=>CX outer H s E e' s'') s'
theorem qoi {sc:Scope} {n:Nat} {x:Str} (h:sc.names.lookup x=some .cell):∃ c,(cellsFrom n sc.names []).lookup x=some c:=by
 have q:=EN sc.names n [] (.inl h);exact ED.mp q
theorem qrs {CX:CXT} {P:Program} {w:World} {K:Frag} {mg:Str->Option Value} {base:Heap} {N ps:List Str} {qual:Str} {scope:Scope} {f:Addr} {cd:Value} {A:Around} {outer:List Env} {s s1:Shared} {H:Hp} {E:XK} {us:List Value} {vs:List V}
  (S:qaf N ps scope) (hd:A.handled=none) (e0:Env0 P w K mg base A outer s H) (hl:vs.length=ps.length) (r:Vals vs us)
  (x:InCallC s s.heap.objs.size (bindL (envOfC qual scope s.heap.objs.size f cd).kindOf (ps.zip us) λ_=>none) (cellsFrom (s.heap.objs.size+1) scope.names []) (bindC (envOfC qual scope s.heap.objs.size f cd).kindOf (ps.zip us) λ_=>none) s1) :
  Inv (qrr CX P w K mg base N qual scope f cd A outer s H E) [] (start N vs) H s1:=by
 have hpl:ps.length<=N.length:=by have:=congrArg List.length S.pre;rw[As] at this;omega
 obtain ⟨h1,tk,rfl,hk⟩:=x.done;have noA:∀ b:Addr,b ∉ (qrr CX P w K mg base N qual scope f cd A outer s H E).ex:=λb z=>absurd (show b∈([]:List Addr) from z) (by simp)
 refine ⟨⟨e0.mod,S.kind,rfl,rfl,Ag _,λy z c h1 h2=>?_,λy hy=>?_,λy c _ h=>?_,λ_=>hd,Around.frames_deeper e0.frames,.inr ⟨rfl,rfl⟩,λb z=>absurd z (noA b),e0.bs,e0.bsz,λb _ _=>noA b,λb z=>absurd z (noA b),e0.funs,e0.frf⟩,
  rfl,e0.bare,Un.kept hk,⟨_,x.toInCall.ns,λi y v h1 h2 h3=>?_⟩,λy c h=>⟨_,x.cell y c h⟩,e0.hok.fresh (Ag _),λy c h=>?_,λp hp=>absurd (show p∈([]:List (Addr×Obj)) from hp) (by simp),e0.hok.kept hk,?_⟩
 ·exact name_of_addr x.apart (Cq h1) (Cq h2)
 ·have hy:scope.names.lookup y=some .cell\/scope.names.lookup y=some .free:=hy
  rcases hy with hy|hy
  ·exact qoi hy
  ·exact absurd rfl (S.nofree _ (Cq hy))
 ·exact Bn (x.above y c (Cq h))
 ·have hi:i<vs.length:=by
   unfold start at h2
   by_cases hi:i<vs.length
   ·exact hi
   ·rw[BE (by simpa using hi)] at h2
    rw[List.getElem?_replicate] at h2
    split at h2<;>cases h2
  have ha:vs[i]?=some v:=by
   unfold start at h2;rw[AS (by simpa using hi),Ay] at h2
   cases e:vs[i]? with
   | none=>rw[e] at h2;cases h2
   | some a=>rw[e] at h2;cases h2;rfl
  obtain ⟨u,hu,rv⟩:=r.get ha;have hp:ps[i]?=some y:=by
   rw[<- S.pre,List.getElem?_take_of_lt (by omega)];exact h1
  have ndP:ps.Nodup:=by rw[<- S.pre];exact S.nd.sublist (List.take_sublist _ _)
  refine ⟨u,rv,?_⟩
  rcases S.par y (An hp) with k|k
  ·exact .inl ⟨k,qli ndP hp hu k⟩
  ·obtain ⟨c,e⟩:=qoi (n:=s.heap.objs.size+1) k
   refine .inr ⟨.inl k,c,e,?_⟩;have q:=x.cell y c e;rw[qlj ndP hp hu (by show scope.names.lookup y≠_;rw[k];decide)] at q;exact q
 ·exact e0.hok.fresh (Bn (x.above y c (Cq h)))
 ·unfold start
  show _=N.length
  rw[Aq,Ac,List.length_replicate];omega
theorem qxr {CX:CXT} {P:Program} {w:World} {K:Frag} {mg:Str->Option Value} {base:Heap} {k:Nat} {f:Addr} {name qual:Str} {params:Arguments} {body:List Stmt} {scope:Scope} {dV kV doc pm cdv ct oc:Value} {an od:Option Addr}
  {osl:Array (Option Value)} {N ps:List Str} {sp:Sp} (lk:K.lookup f=some ⟨oc,od,.func (fnOf name qual params body scope dV kV doc pm an cdv ct),osl⟩) (hcd:codeIn K cdv qual=true) (S:qaf N ps scope)
  (len:∀ vs H Q E,sp vs H Q E->vs.length=ps.length)
  (hbody:∀ (A:Around) (outer:List Env) (s:Shared) (H:Hp) (vs:List V) (Q:VK) (E:XK),Room k (A.deeper (envOfC qual scope s.heap.objs.size f cdv))->sp vs H Q E ->
   ∃ t,PSs (qrr CX P w K mg base N qual scope f cdv A outer s H E) body t/\t { nx:=λ_ H'=>Q .non H',rt:=Q } (start N vs) H) :
  qf7 P w K mg base CX (k+1) f (fnOf name qual params body scope dV kV doc pm an cdv ct) ps sp:=by
 refine ⟨len,λA outer s H args us vs Q E hr e0 hb r hsp=>?_⟩;have hl:=len _ _ _ _ hsp;have KX:K.In s.heap:=e0.mod.kin.keeps λb o e=>(e0.bs b o e).1
 have lim:s.heap.NoLimit:=e0.mod.nolimit.keeps λb o e=>(e0.bs b o e).1
 have hkind:∀ y∈ps.zip us,scope.names.lookup y.1=some .local\/(scope.names.lookup y.1=some .cell/\((cellsFrom (s.heap.objs.size+1) scope.names []).lookup y.1).isSome=true):=fun ⟨n,v⟩ hy=>by
  rcases S.par n (CV hy).1 with q|q
  ·exact .inl q
  ·exact .inr ⟨q,EN _ _ _ (.inl q)⟩
 refine codeAny_call_function hr.depth (KX _ _ lk) rfl S.co S.gen rfl (PySem.W.codeRec_of KX hcd) (hb _ _ _ _ ?_);refine wpAny_newFunctionEnv_cells S.kind hkind λenv he s1 x=>?_
 subst he;refine ⟨lim.keeps x.toInCall.keep,codeAny_func ?_⟩;obtain ⟨t,ht,hq⟩:=hbody A outer s H vs Q E (hr.deeper _) hsp;have I:Inv (qrr CX P w K mg base N qual scope f cdv A outer s H E) [] (start N vs) H s1:=qrs S hr.hd e0 hl r x;refine A7 (ht [] s1 (start N vs) H _ I hq) (λfl s' hs=>?_) λe s' hs=>hs
 have fin:∀ {σ':St} {H':Hp} {v:V} {u:Value},Inv (qrr CX P w K mg base N qual scope f cdv A outer s H E) [] σ' H' s'->RelV v u->Q v H'->CE outer P w H s Q u s':=
  fun {σ' H' v u} J rv q=>⟨v,H',J.os,J.bare,J.base,J.hok,rv,q⟩
 cases fl with
 | ret u =>
  obtain ⟨v,σ',H',J,rv,q⟩:=hs;exact fin J rv q
 | next =>
  obtain ⟨σ',H',J,q⟩:=hs;exact fin (v:=V.non) (u:=Value.none) J rfl q
 | brk =>
  obtain ⟨_,_,_,q⟩:=hs;exact False.elim q
 | cont =>
  obtain ⟨_,_,_,q⟩:=hs;exact False.elim q
open PySem PySem.Spec PyProof.Rows
section
variable {X:Cx} {x:Str} {p pos:Pos} {e:Expr} {es:List Expr} {t:TA} {id T:String} {r:List V->Hp->VK->Prop}
def tCB (r:List V->Hp->VK->Prop) (t:TA):TE:=λσ H Q=>t σ H λvs H1=>r vs H1 Q
theorem qal (hc:CallR X (.builtin id) r) (hg:Gl X x) (hm:X.mg x=none) (hv:bootBuiltins x=some (.builtin id)) (ha:PA X (e :: es) t) (hn:x ≠ "__name__" :=by decide) (hdb:(x == ("__debug__" : Str))=false:=by decide)
  (he:starEach (e :: es) X.env=(false,eval e X.env) :: starEach es X.env:=by rfl) (hpl:(backTo pos (starEach es X.env)).any (·.1)=false:=by rfl):PE X (.Call (.Name x p) (e :: es) [] pos) (tCB r t):=by
 intro pins s σ H Q I h;refine BL (qjn I hg hm hv ?_ hn hdb);exact DX (thn (ha pos pins s σ H _ I h) λus s1 ⟨vs,H1,I1,r1,q1⟩=>hc pins s1 σ H1 vs us Q I1 r1 q1) he hpl
theorem qbd (hc:CallR X (.type T) r) (hg:Gl X x) (hm:X.mg x=none) (hv:bootBuiltins x=some (.type T)) (ha:PA X (e :: es) t) (hn:x ≠ "__name__" :=by decide) (hdb:(x == ("__debug__" : Str))=false:=by decide)
  (he:starEach (e :: es) X.env=(false,eval e X.env) :: starEach es X.env:=by rfl) (hpl:(backTo pos (starEach es X.env)).any (·.1)=false:=by rfl):PE X (.Call (.Name x p) (e :: es) [] pos) (tCB r t):=by
 intro pins s σ H Q I h;refine BL (qjn I hg hm hv ?_ hn hdb);exact Cf (thn (ha pos pins s σ H _ I h) λus s1 ⟨vs,H1,I1,r1,q1⟩=>hc pins s1 σ H1 vs us Q I1 r1 q1) he hpl
end
end L2
namespace HT
open PySem PyProof.Rows
section
open PySem.SeqAt
open PySem.AutoSeq1 (wpAny_loadPart')
open PySem.MeetsSeq PySem.MeetsSeq2 PySem.MeetsSeq3
end
section
variable {prog:Program} {w:World} {A:Around} {E:Value->Shared->Prop} {s:Shared}
theorem cat_tup {t b:Addr} {vs ws:List Value} {Q:Value->Shared->Prop} (ht:IsTup s.heap t vs.toArray) (hb:IsTup s.heap b ws.toArray) (hv:vs≠[])
  (h1:ws=[]->Q (.ref t) s) (h2:ws≠[]->Q (.ref s.heap.objs.size) { s with heap:=s.heap.push { cls:=.type "tuple",data:=.seq (vs ++ ws).toArray } })
  (hsz:vs.length+ws.length<=sizeLine):wpAny (model prog w) A (binaryOp .Add (.ref t) (.ref b)) Q E s:=by
 obtain ⟨⟨cls,dd,data,sl⟩,ho,hc,n,hd⟩:=id ht;obtain ⟨⟨cls2,dd2,data2,sl2⟩,ho2,hc2,n2,hd2⟩:=id hb;simp only at hc hd hc2 hd2;subst hc hd hc2 hd2;have e:vs.toArray ++ ws.toArray=(vs ++ ws).toArray:=by simp
 by_cases hw:ws=[]
 ·exact concat_meets ⟨_,ho,rfl⟩ ⟨_,ho2,rfl⟩ noFill_tuple_add seq_tuple_add EO EG (EA _ _)
   (tuple_addW1 t b vs.toArray ws.toArray n n2 dd dd2 sl sl2 (by simpa using hv) (by simp[hw])) ⟨ho,ho2,h1 hw⟩
 ·refine concat_meets ⟨_,ho,rfl⟩ ⟨_,ho2,rfl⟩ noFill_tuple_add seq_tuple_add EO EG (EA _ _)
   (tuple_addW2 t b vs.toArray ws.toArray n n2 dd dd2 sl sl2 (by simpa using hv) (by simpa using hw) (by rw[Ax,Ax];exact hsz)) ⟨ho,ho2,?_⟩
  rw[e];exact h2 hw
def sIx (n d:Nat):Option Int->Nat
 | none=>d
 | some v=>if v<0 then (v+(n:Int)).toNat else min v.toNat n
theorem sIx_none (n d:Nat):sIx n d none=d:=rfl
theorem sIx_nat (n d k:Nat):sIx n d (some (k:Int))=min k n:=by
 show (if (k:Int)<0 then ((k:Int)+(n:Int)).toNat else min (k:Int).toNat n)=min k n
 rw[Ah (by omega),DS]
theorem qz9 (n d:Nat) (hd:d<=n) (o:Option Int):sIx n d o<=n:=by
 cases o with
 | none=>exact hd
 | some v =>
  show (if v<0 then (v+(n:Int)).toNat else min v.toNat n)<=n
  by_cases hv:v<0
  ·rw[Al hv];omega
  ·rw[Ah hv];exact Nat.min_le_right _ _
theorem qrt (v:Int) (n d:Nat):(if v<0 then max (v+(n:Int)) 0 else min v (n:Int))=((sIx n d (some v):Nat):Int):=by
 show (if v<0 then max (v+(n:Int)) 0 else min v (n:Int))=(((if v<0 then (v+(n:Int)).toNat else min v.toNat n):Nat):Int)
 by_cases hv:v<0
 ·simp only[Al hv];omega
 ·simp only[Ah hv];omega
theorem qqa (lo hi:Option Int) (n:Nat):Builtin.Slice.sliceAdjust lo hi 1 (n:Int)=(((sIx n 0 lo:Nat):Int),((sIx n n hi:Nat):Int)):=by
 have h1:¬ ((1:Int)<0):=by omega
 unfold Builtin.Slice.sliceAdjust;simp only[h1,CO];refine Prod.ext ?_ ?_
 ·cases lo with
  | none=>rfl
  | some v=>exact qrt v n 0
 ·cases hi with
  | none=>rfl
  | some v=>exact qrt v n n
theorem qqb (i j:Nat):Builtin.Slice.slicePlaces (i:Int) (j:Int) 1=j-i:=by
 unfold Builtin.Slice.slicePlaces;have h1:(1:Int)>0:=by omega
 simp only[h1,DP,Int.ediv_one]
 split<;>omega
theorem qjp {v:Value} {o:Option Int} {Q:Option Int->Shared->Prop} (p:IsPart v o) (h:Q o s):wpAny (model prog w) A (Builtin.Slice.slicePartIndex v) Q E s:=by
 cases p with
 | none=>exact slicePart_none h
 | int i t=>exact slicePart_int h
theorem qhc {sl:Addr} {vl vu:Value} {lo hi:Option Int} {n:Nat} {Q:Int×Int×Nat->Shared->Prop} (hs:s.heap.IsSliceOf sl vl vu .none) (pl:IsPart vl lo) (pu:IsPart vu hi)
  (h:Q (((sIx n 0 lo:Nat):Int),1,sIx n n hi-sIx n 0 lo) s):wpAny (model prog w) A (Builtin.Slice.sliceApplied (.ref sl) (pure (n:Int))) Q E s:=by
 obtain ⟨os,hos,hcs,hds⟩:=id hs;unfold Builtin.Slice.sliceApplied Builtin.Slice.sliceFields;refine Aa (Aa (Bo hos hds (x:=vl) rfl (Aa (Bo hos hds (x:=vu) rfl (Aa (Bo hos hds (x:=.none) rfl (Ae ?_)))))));refine Aa (slicePart_none ?_)
 show wpAny _ _ (if ((1:Int) == 0)=true then _ else _) _ _ s
 rw[Ah (by decide)];refine Aa (qjp pl (Aa (qjp pu (Aa (Ae ?_)))))
 show wpAny _ _ (match Builtin.Slice.sliceAdjust lo hi 1 (n:Int) with|(lo,hi)=>pure (lo,(1:Int),Builtin.Slice.slicePlaces lo hi 1)) _ _ s
 rw[qqa lo hi n]
 show wpAny _ _ (pure (((sIx n 0 lo:Nat):Int),(1:Int),Builtin.Slice.slicePlaces ((sIx n 0 lo:Nat):Int) ((sIx n n hi:Nat):Int) 1)) _ _ s
 rw[qqb];exact Ae h
theorem qux (xs:Array Value) (i k:Nat):((List.range k).filterMap fun (m:Nat)=>xs[((i:Int)+(m:Int)*1).toNat]?).toArray=((xs.toList.drop i).take k).toArray:=by
 have e:(fun (m:Nat)=>xs[((i:Int)+(m:Int)*1).toNat]?)=λm=>xs[i+m]?:=by
  funext m
  have:((i:Int)+(m:Int)*1).toNat=i+m:=by omega
  rw[this]
 rw[e];have:=pick_run xs i k;rw[List.filterMap_map] at this;have e2:((λx=>xs[x]?) ∘ λx=>i+x)=λm=>xs[i+m]?:=rfl
 rw[e2] at this;rw[this]
theorem getItem_tuple_cut {t sl:Addr} {items:Array Value} {vl vu:Value} {lo hi:Option Int} {Q:Value->Shared->Prop} (ht:IsTup s.heap t items) (hs:s.heap.IsSliceOf sl vl vu .none) (pl:IsPart vl lo) (pu:IsPart vu hi)
  (hw:¬ (sIx items.size 0 lo=0/\sIx items.size items.size hi=items.size))
  (h:Q (.ref s.heap.objs.size) { s with heap:=s.heap.push { cls:=.type "tuple",data:=.seq ((items.toList.drop (sIx items.size 0 lo)).take (sIx items.size items.size hi-sIx items.size 0 lo)).toArray } })
  (hsz:items.size<=sizeLine):wpAny (model prog w) A (getItem (.ref t) (.ref sl)) Q E s:=by
 have htake:sizeOk (.seq ((items.toList.drop (sIx items.size 0 lo)).take (sIx items.size items.size hi-sIx items.size 0 lo)).toArray):=by
  show ((items.toList.drop (sIx items.size 0 lo)).take (sIx items.size items.size hi-sIx items.size 0 lo)).toArray.size<=sizeLine
  rw[Ax,As,Co,Bb];omega
 have hj:sIx items.size items.size hi<=items.size:=qz9 _ _ (Ag _) hi;obtain ⟨os,hos,hcs,hds⟩:=id hs;have hTs:s.TypeIs (.ref sl) "slice" :=⟨os,hos,hcs⟩;unfold getItem
 try with_reducible refine Bk ?_
 first|refine Aa (Ae ?_)|skip
 refine Aa (wpAny_sequenceKey ht.typeIs (by decide) ?_);refine Aa (wpAny_callSpecial?_slot (name:=Str.ofString "__getitem__") ht.typeIs CK
  (BK CK ht.typeIs entry_tuple_getitem ?_ (args_tuple_getitem _ _)))
 show wpAny _ _ (Builtin.Tuple.tupleItemsOf (.ref t) >>= _) _ _ s
 refine Aa (tupleItemsOf_ ht ?_);refine Aa (EL hTs ?_);rw[Al (by decide)];refine Aa (qhc hs pl pu ?_);have hno:¬ ((((sIx items.size 0 lo:Nat):Int) == 0 && (1:Int) == 1 && (sIx items.size items.size hi-sIx items.size 0 lo) == items.size)=true):=by
  intro q;rw[CN,CN] at q;have q1:((sIx items.size 0 lo:Nat):Int)=0:=eq_of_beq q.1.1;have q2:sIx items.size items.size hi-sIx items.size 0 lo=items.size:=eq_of_beq q.2;exact hw ⟨by omega,by omega⟩
 show wpAny _ _ (if (((sIx items.size 0 lo:Nat):Int) == 0 && (1:Int) == 1 && (sIx items.size items.size hi-sIx items.size 0 lo) == items.size)=true then _ else _) _ _ s
 rw[Ah hno,qux]
 first
  | exact Aa (m:=Builtin.Tuple.tupleExact _) (BD (Ae ⟨_,rfl,Ae h⟩) htake)
  | exact Aa (m:=Builtin.Tuple.tupleExact _) (BD (Aa (Ae (Ae ⟨_,rfl,Ae h⟩))) htake)
  | exact Aa (Aa (m:=Builtin.Tuple.tupleExact _) (BD (Ae (Ae ⟨_,rfl,Ae h⟩)) htake))
  | exact Aa (Aa (m:=Builtin.Tuple.tupleExact _) (BD (Ae ⟨_,rfl,Ae h⟩) htake))
end
end HT
namespace L2
open PySem PySem.Spec PyProof.Rows
abbrev TO:=St->Hp->(Option Int->Hp->Prop)->Prop
def PO (X:Cx) (e:Option Expr) (t:TO):Prop:=
 ∀ (pins:List (Addr×Obj)) (s:Shared) (σ:St) (H:Hp) (Q:Option Int->Hp->Prop),Inv X pins σ H s->t σ H Q ->
  wpAny (model X.prog X.w) X.A (evalPart e X.env) (λu s'=>∃ o H',Inv X pins σ H' s'/\IsPart u o/\Q o H') X.xe s
def qxs:TO:=λ_ H Q=>Q none H
inductive tPartS (x:V) (H:Hp) (Q:Option Int->Hp->Prop):Prop
 | mk (i:Int) (h:x=.int i) (k:Q (some i) H)
def qCw (t:TE):TO:=λσ H Q=>t σ H λx H1=>tPartS x H1 Q
theorem intsAre_of {ns:List Int}:∀ {us:List Value},Vals (ns.map V.int) us->IntsAre us ns:=by
 induction ns with
 | nil=>intro us r;rw[Dr] at r;cases r;exact .nil
 | cons n ns ih =>
  intro us r;rw[Aw] at r
  cases r with
  | cons r1 r2 =>
   obtain ⟨t,e⟩:=r1;subst e;exact .cons n t (ih r2)
section
variable {X:Cx} {e:Expr} {te:TE} {lo hi:Option Expr} {tl th:TO} {pos p2:Pos}
theorem qb6:PO X none qxs:=by
 intro pins s σ H Q I h;rw[evalPart_none];exact Ae ⟨none,H,I,.none,h⟩
theorem qbx (h:PE X e te):PO X (some e) (qCw te):=by
 intro pins s σ H Q I hw;rw[evalPart_some];refine thn (h pins s σ H _ I hw) λu s1 hq__=>?_
 obtain ⟨x,H1,I1,r1,q1⟩:=hq__;obtain ⟨i,rfl,q⟩:=q1;obtain ⟨t,rfl⟩:=r1;exact ⟨some i,H1,I1,.int i t,q⟩
def SlR (X:Cx) (r:V->Option Int->Option Int->Hp->VK->Prop):Prop:=
 ∀ (pins:List (Addr×Obj)) (s:Shared) (σ:St) (H:Hp) (x:V) (v vl vu:Value) (lo hi:Option Int) (sl:Addr) (Q:VK),Inv X pins σ H s->RelV x v->s.heap.IsSliceOf sl vl vu .none->IsPart vl lo->IsPart vu hi->r x lo hi H Q ->
  ∃ T id,typeLookup (.type T) "__getitem__" = pure (some (.builtin id))/\s.TypeIs v T/\wpAny (model X.prog X.w) X.A (getItem v (.ref sl)) (EP X pins σ Q) X.xe s
def tSl (r:V->Option Int->Option Int->Hp->VK->Prop) (te:TE) (tl th:TO):TE:=λσ H Q=>te σ H λx H1=>tl σ H1 λl H2=>th σ H2 λu H3=>r x l u H3 Q
theorem qbo {r:V->Option Int->Option Int->Hp->VK->Prop} (hr:SlR X r) (he:PE X e te) (hl:PO X lo tl) (hu:PO X hi th):PE X (.Subscript e (.Slice lo hi none p2) pos) (tSl r te tl th):=by
 intro pins s σ H Q I h;refine Subscript_ (thn (he pins s σ H _ I h) λv s1 hq__=>?_);obtain ⟨x,H1,I1,r1,q1⟩:=hq__;refine wpAny_Slice (thn (hl pins s1 σ H1 _ I1 q1) λvl s2 ⟨l,H2,I2,pl,q2⟩=>thn (hu pins s2 σ H2 _ I2 q2) λvu s3 hq__=>?_);obtain ⟨u,H3,I3,pu,q3⟩:=hq__;rw[evalPart_none];refine Ae ?_;have I4:Inv X pins σ H3 { s3 with heap:=s3.heap.push { cls:=.type "slice",data:=.fields #[vl,vu,.none] } }:=I3.kept (t':=s3.toks) λb ob q=>Ab _ q
 obtain ⟨T,id,hT,ht,hg⟩:=hr pins { s3 with heap:=s3.heap.push { cls:=.type "slice",data:=.fields #[vl,vu,.none] } } σ H3 x v vl vu l u s3.heap.objs.size Q I4 r1 (Heap.IsSliceOf.new ..) pl pu q3
 show wpAny (model X.prog X.w) X.A (subscriptTail e (.Slice lo hi none p2) v (.ref s3.heap.objs.size)) (EP X pins σ Q) X.xe { s3 with heap:=s3.heap.push { cls:=.type "slice",data:=.fields #[vl,vu,.none] } }
 exact tail_any (ops:=[.ref s3.heap.objs.size,v]) ht hT hg (by with_unfolding_all rfl)
def qhp (xs:List V) (lo hi:Option Int):List V:=(xs.drop (HT.sIx xs.length 0 lo)).take (HT.sIx xs.length xs.length hi-HT.sIx xs.length 0 lo)
theorem qhq (xs:List V) (lo hi:Option Int):(qhp xs lo hi).length<=xs.length:=by
 unfold qhp;rw[As,Co];omega
def qEm (K:Frag):V->Option Int->Option Int->Hp->VK->Prop:=λx lo hi H Q=>∃ a xs,x=.ref a/\SqT K H a xs /\
 ¬ (HT.sIx xs.length 0 lo=0/\HT.sIx xs.length xs.length hi=xs.length)/\∀ p,H p=none->Q (.ref p) (upd H p (.tup (qhp xs lo hi)))
theorem qAa:SlR X (qEm X.K):=by
 intro pins s σ H x v vl vu lo hi sl Q I rx hs pl pu h;obtain ⟨a,xs,rfl,hx,hw,q⟩:=h;cases rx;obtain ⟨its,r,ht,hz⟩:=I.tuple hx;have hlen:its.toArray.size=xs.length:=by rw[Ax];exact r.length.symm
 refine ⟨"tuple",_,CK.lookup,ht.typeIs,?_⟩;refine HT.getItem_tuple_cut ht hs pl pu (by rw[hlen];exact hw) ?_ (by rw[hlen];exact hz);rw[hlen];refine ⟨.ref s.heap.objs.size,_,I.laid (t':=s.toks) (o:=.tup (qhp xs lo hi)) (λb ob q=>Ab _ q) (Ag _) ?_,rfl,q _ (I.hok.fresh (Ag _))⟩;exact ⟨AR (qhq xs lo hi) hz,_,(r.drop (HT.sIx xs.length 0 lo)).take (HT.sIx xs.length xs.length hi-HT.sIx xs.length 0 lo),IsTup.new _ _⟩
def qCx (K:Frag):R2:=λx y H Q=>∃ a b xs ys,x=.ref a/\y=.ref b/\SqT K H a xs/\SqT K H b ys/\xs≠[]/\xs.length+ys.length<=sizeLine /\
 (ys=[]->Q (.ref a) H)/\(ys≠[]->∀ p,H p=none->Q (.ref p) (upd H p (.tup (xs ++ ys))))
theorem Vals.nil_iff {xs:List V} {us:List Value} (r:Vals xs us):us=[]↔xs=[]:=by
 cases r with
 | nil=>simp
 | cons _ _=>simp
theorem op_catT:OpR X (binaryOp .Add) (qCx X.K):=by
 intro pins s σ H x y v u Q I rx ry h;obtain ⟨a,b,xs,ys,rfl,rfl,ha,hb,hx,hz,q1,q2⟩:=h;cases rx;cases ry;obtain ⟨its,r1,p1,_⟩:=I.tuple ha;obtain ⟨its2,r2,p2,_⟩:=I.tuple hb;refine HT.cat_tup p1 p2 (λz=>hx (r1.nil_iff.mp z)) (λz=>⟨.ref a,H,I,rfl,q1 (r2.nil_iff.mp z)⟩) (λz=>?_) (by rw[<- r1.length,<- r2.length];exact hz);refine ⟨.ref s.heap.objs.size,_,I.laid (t':=s.toks) (o:=.tup (xs ++ ys)) (λb ob q=>Ab _ q) (Ag _) ?_,rfl,q2 (λw=>z (r2.nil_iff.mpr w)) _ (I.hok.fresh (Ag _))⟩;exact ⟨by rw[Aq];exact hz,_,r1.append r2,IsTup.new _ _⟩
end
open PySem PySem.Spec PyProof.Rows
def ixN (n:Nat) (i:Int):Option Nat:=if 0<=i then (if i<n then some i.toNat else none) else if -(n:Int)<=i then some (i+n).toNat else none
def atI {α:Type} (xs:List α) (i:Int):Option α:=(ixN xs.length i).bind λj=>xs[j]?
theorem qxt {n:Nat} {i:Int} {j:Nat} (h:ixN n i=some j):seqIndex? i n=some j/\j<n /\ -(n:Int)<=i/\i<n:=by
 unfold ixN at h
 by_cases h0:0<=i
 ·rw[Al h0] at h
  by_cases h1:i<n
  ·rw[Al h1] at h
   have e:i.toNat=j:=AJ h;exact ⟨by rw[seqIndex_of h0 h1,e],by omega,by omega,h1⟩
  ·rw[Ah h1] at h;cases h
 ·rw[Ah h0] at h
  by_cases h1:-(n:Int)<=i
  ·rw[Al h1] at h
   have e:(i+n).toNat=j:=AJ h;exact ⟨by rw[seqIndex_neg (by omega) h1,e],by omega,h1,by omega⟩
  ·rw[Ah h1] at h;cases h
theorem qru {α:Type} {xs:List α} {i:Int} {v:α} (h:atI xs i=some v):∃ j,seqIndex? i xs.length=some j/\xs[j]?=some v/\j<xs.length /\ -(xs.length:Int)<=i/\i<xs.length:=by
 unfold atI at h
 cases e:ixN xs.length i with
 | none=>rw[e] at h;cases h
 | some j =>
  rw[e] at h;obtain ⟨h1,h2,h3,h4⟩:=qxt e;exact ⟨j,h1,h,h2,h3,h4⟩
theorem qf8 {α:Type} {xs:List α} {j:Nat} {v:α} (h:xs[j]?=some v):atI xs (j:Int)=some v:=by
 have hj:j<xs.length:=(Ai.mp h).1;have e:ixN xs.length (j:Int)=some j:=by
  unfold ixN;rw[Al (by omega),Al (by omega)];simp
 unfold atI;rw[e];exact h
def qnh (b:Expr):Prop:=∀ o i,subscripted b false o i=operate [o,i] (getItem o i)
def IxR (X:Cx) (r:R2):Prop:=
 ∀ (value slice:Expr) (pins:List (Addr×Obj)) (s:Shared) (σ:St) (H:Hp) (x y:V) (v u:Value) (Q:VK),Inv X pins σ H s->RelV x v->RelV y u->r x y H Q ->
  subscripted slice false v u=operate [v,u] (getItem v u)->wpAny (model X.prog X.w) X.A (subscriptTail value slice v u) (EP X pins σ Q) X.xe s
def MtR (X:Cx) (id:String) (r:V->List V->Hp->VK->Prop):Prop:=
 ∀ (pins:List (Addr×Obj)) (s:Shared) (σ:St) (H:Hp) (x:V) (xs:List V) (v:Value) (us:List Value) (Q:VK),Inv X pins σ H s->RelV x v->Vals xs us->r x xs H Q ->
  wpAny (model X.prog X.w) X.A (call (.builtin id) (v :: us)) (EP X pins σ Q) X.xe s
section
variable {X:Cx} {a b:Expr} {ta tb:TE} {pos:Pos}
theorem qxu {r:R2} (hr:IxR X r) (ha:PE X a ta) (hb:PE X b tb) (hs:qnh b):PE X (.Subscript a b pos) (tOp r ta tb):=by
 intro pins s σ H Q I h;exact Subscript_ (qCe ha hb I h λv u s2 x y H2 I2 rx ry q=>hr a b pins s2 σ H2 x y v u Q I2 rx ry q (hs _ _))
inductive rIxLS (K:Frag) (x y:V) (H:Hp) (Q:VK):Prop
 | mk (p:Addr) (xs:List V) (i:Int) (v:V) (hx:x=.ref p) (hy:y=.int i) (hs:SqL K H p xs) (ha:atI xs i=some v) (k:Q v H)
def qDz (K:Frag):R2:=λx y H Q=>rIxLS K x y H Q
inductive rIxTS (K:Frag) (x y:V) (H:Hp) (Q:VK):Prop
 | mk (p:Addr) (xs:List V) (i:Int) (v:V) (hx:x=.ref p) (hy:y=.int i) (hs:SqT K H p xs) (ha:atI xs i=some v) (k:Q v H)
def qCy (K:Frag):R2:=λx y H Q=>rIxTS K x y H Q
theorem qxv:IxR X (qDz X.K):=by
 intro value slice pins s σ H x y v u Q I rx ry h hs;obtain ⟨p,xs,i,z,rfl,rfl,hq,he,q⟩:=h;cases rx;obtain ⟨t,rfl⟩:=ry;obtain ⟨its,r,pl,hz⟩:=I.list hq;obtain ⟨j,h1,h2,h3,h4,h5⟩:=qru he;obtain ⟨w,ew,rw'⟩:=r.get h2;have hl:=r.length;have hn:=qog;have fin:EP X pins σ Q w s:=⟨z,H,I,rw',q⟩
 by_cases h0:0<=i
 ·have hj:i.toNat=j:=by
   rw[seqIndex_of h0 h5] at h1;exact AJ h1
  exact item_listR pl.isList h0 (by omega) (by rw[hj];simpa using ew) fin hs
 ·have hj:(i+(its.toArray.size:Int)).toNat=j:=by
   rw[seqIndex_neg (by omega) h4] at h1;rw[Ax,<- hl];exact AJ h1
  exact EM (x:=w) pl.isList.typeIs slot_list_getitem.lookup
   (wpAny_getItem_list_neg (Q:=λr s'=>r=w/\EP X pins σ Q r s') pl.isList (by omega) (by rw[Ax]<;>omega) (by omega) (by rw[hj];simpa using ew) ⟨rfl,fin⟩) hs
theorem qwd:IxR X (qCy X.K):=by
 intro value slice pins s σ H x y v u Q I rx ry h hs;obtain ⟨p,xs,i,z,rfl,rfl,hq,he,q⟩:=h;cases rx;obtain ⟨t,rfl⟩:=ry;obtain ⟨its,r,pl,hz⟩:=I.tuple hq;obtain ⟨j,h1,h2,h3,h4,h5⟩:=qru he;obtain ⟨w,ew,rw'⟩:=r.get h2;have hl:=r.length;have hn:=qog;have fin:EP X pins σ Q w s:=⟨z,H,I,rw',q⟩;exact EM (x:=w) pl.typeIs slot_tuple_getitem.lookup
  (getItem_tuple (j:=j) (Q:=λr s'=>r=w/\EP X pins σ Q r s') pl (by omega) (by omega) (by rw[Ax,<- hl];exact h1) (by simpa using ew) ⟨rfl,fin⟩) hs
theorem qlk (lo hi:Option Int) (n:Nat):(sliceBounds lo hi none n).1=((HT.sIx n 0 lo:Nat):Int)/\(sliceBounds lo hi none n).2.1=((HT.sIx n n hi:Nat):Int)/\(sliceBounds lo hi none n).2.2=1:=by
 refine ⟨?_,?_,rfl⟩
 ·cases lo with
  | none=>simp[sliceBounds,HT.sIx]
  | some i =>
   simp only[sliceBounds,HT.sIx,Option.getD_none,show (1:Int)>0 by decide,DP]
   by_cases h:i<0
   ·simp only[h,DP]<;>omega
   ·simp only[h,CO]<;>omega
 ·cases hi with
  | none=>simp[sliceBounds,HT.sIx]
  | some i =>
   simp only[sliceBounds,HT.sIx,Option.getD_none,show (1:Int)>0 by decide,DP]
   by_cases h:i<0
   ·simp only[h,DP]<;>omega
   ·simp only[h,CO]<;>omega
theorem qkj (its:List Value) (lo hi:Option Int):slicePick its.toArray lo hi none=((its.drop (HT.sIx its.length 0 lo)).take (HT.sIx its.length its.length hi-HT.sIx its.length 0 lo)).toArray:=by
 obtain ⟨h1,h2,h3⟩:=qlk lo hi its.toArray.size;unfold slicePick;rw[h1,h2,h3];simp only[sliceRange_one,pick_run,Ax]<;>rfl
def qEn (K:Frag):V->Option Int->Option Int->Hp->VK->Prop:=λx lo hi H Q=>∃ a xs,x=.ref a/\SqL K H a xs/\∀ p,H p=none->Q (.ref p) (upd H p (.lst (qhp xs lo hi)))
theorem qxw:SlR X (qEn X.K):=by
 intro pins s σ H x v vl vu lo hi sl Q I rx hs pl pu h;obtain ⟨a,xs,rfl,hx,q⟩:=h;cases rx;obtain ⟨its,r,ht,hz⟩:=I.list hx;have hlen:=r.length;refine ⟨"list",_,slot_list_getitem.lookup,ht.isList.typeIs,?_⟩;refine wpAny_getItem_list_slice ht.isList hs pl pu .none (by simp) ?_ (by rw[Ax]<;>omega);rw[qkj,<- hlen];refine ⟨.ref s.heap.objs.size,_,I.laid (t':=s.toks) (o:=.lst (qhp xs lo hi)) (λb ob q=>Ab _ q) (Ag _) ?_,rfl,q _ (I.hok.fresh (Ag _))⟩;exact ⟨AR (qhq xs lo hi) hz,_,0,(r.drop (HT.sIx xs.length 0 lo)).take (HT.sIx xs.length xs.length hi-HT.sIx xs.length 0 lo),Ao _ rfl⟩
theorem qau:CallR X (.builtin "len") (λxs H Q=>∃ p ys,xs=[.ref p]/\(SqL X.K H p ys\/SqT X.K H p ys)/\Q (.int ys.length) H):=by
 intro pins s σ H xs us Q I r h;obtain ⟨p,ys,rfl,hq,q⟩:=h;obtain ⟨u,rfl,rx⟩:=vals1 r;cases rx;have hn:=qog
 rcases hq with hq|hq
 ·obtain ⟨its,r',pl,hz⟩:=I.list hq
  have hlen:=r'.length;exact Calls.call_len_list pl.isList (by simp only[Ax]<;>omega) ⟨.int ys.length,H,I.tok _,⟨s.toks+1,by rw[Ax,hlen]⟩,q⟩
 ·obtain ⟨its,r',pl,hz⟩:=I.tuple hq
  have hlen:=r'.length;exact len_tuple pl (by simp only[Ax]<;>omega) ⟨.int ys.length,H,I.tok _,⟨s.toks+1,by rw[Ax,hlen]⟩,q⟩
theorem call_list_of:CallR X (.type "list") (λxs H Q=>∃ p ys,xs=[.ref p]/\(SqL X.K H p ys\/SqT X.K H p ys)/\∀ l,H l=none->Q (.ref l) (upd H l (.lst ys))):=by
 intro pins s σ H xs us Q I r h;obtain ⟨p,ys,rfl,hq,q⟩:=h;obtain ⟨u,rfl,rx⟩:=vals1 r;cases rx;have fin:∀ (its:List Value),Vals ys its->ys.length<=sizeLine->∀ (h':Heap) (c':Nat),(∀ b o',s.heap.get? b=some o'->h'.get? b=some o') ->
   h'.get? s.heap.objs.size=some { cls:=.type "list",dict:=none,data:=.seq its.toArray c',slots:=#[] }->EP X pins σ Q (.ref s.heap.objs.size) { s with heap:=h' }:=λits r' hz h' c' kp e =>
  ⟨.ref s.heap.objs.size,_,I.laid (t':=s.toks) kp (Ag _) (show ObjOk X.prog X.w _ h' _ (.lst ys) from ⟨hz,its,c',r',e⟩),rfl,q _ (I.hok.fresh (Ag _))⟩
 rcases hq with hq|hq
 ·obtain ⟨its,r',pl,hz⟩:=I.list hq
  have hlen:=r'.length;obtain ⟨o,ho,hc,n,hd⟩:=pl.isList;exact call_list_seq p (.inl rfl) ho hc hd (λh' c' kp e=>fin its r' hz h' c' kp e) (by simp only[Ax]<;>omega)
 ·obtain ⟨its,r',pl,hz⟩:=I.tuple hq
  have hlen:=r'.length;obtain ⟨o,ho,hc,n,hd⟩:=pl;exact call_list_seq p (.inr rfl) ho hc hd (λh' c' kp e=>fin its r' hz h' c' kp e) (by simp only[Ax]<;>omega)
def tyV (K:Frag) (T:String) (x:V) (H:Hp):Prop:=match x with
 | .str _=>T = "str"
 | .int _=>T = "int"
 | .ref p=>(T = "list" /\ ∃ xs,SqL K H p xs)\/(T = "tuple" /\ ∃ o,K.lookup p=some o/\o.cls=.type "tuple" /\ o.dict=none) \/
   (T = "dict" /\ ((∃ kvs,H p=some (.dK kvs))\/∃ kvs,H p=some (.dT kvs)))\/(T = "set" /\ ∃ S n,H p=some (.set S n))
 | _=>False
theorem qAb {pins:List (Addr×Obj)} {σ:St} {H:Hp} {s:Shared} {T:String} {x:V} {v:Value} (I:Inv X pins σ H s) (r:RelV x v) (ty:tyV X.K T x H) :
  s.TypeIs v T/\∀ a,v=.ref a->∃ ob,s.heap.get? a=some ob/\ob.dict=none:=by
 cases x with
 | str z =>
  obtain ⟨t,rfl⟩:=r
  cases (show T = "str" from ty)
  exact ⟨typeIs_str s z t,λ_ e=>nomatch e⟩
 | int i =>
  obtain ⟨t,rfl⟩:=r
  cases (show T = "int" from ty)
  exact ⟨typeIs_int s i t,λ_ e=>nomatch e⟩
 | ref p =>
  cases r
  rcases ty with ⟨rfl,xs,hq⟩|⟨rfl,o,hk,hc,hd⟩|⟨rfl,hk⟩|⟨rfl,S,n,hk⟩
  ·obtain ⟨its,_,pl,_⟩:=I.list hq
   refine ⟨pl.isList.typeIs,λa e=>?_⟩;cases e;obtain ⟨o,n,e,c,hd,_⟩:=pl;exact ⟨o,e,hd⟩
  ·refine ⟨⟨o,I.kIn p o hk,hc⟩,λa e=>?_⟩
   cases e;exact ⟨o,I.kIn _ o hk,hd⟩
  ·have z:∃ o,s.heap.get? p=some o/\o.ExactDict:=by
    rcases hk with ⟨kvs,hk⟩|⟨kvs,hk⟩
    ·obtain ⟨_,_,_,_,o,_,_,e,ex,_⟩:=I.hok p _ hk
     exact ⟨o,e,ex⟩
    ·obtain ⟨_,_,_,_,o,_,_,e,ex,_⟩:=I.hok p _ hk
     exact ⟨o,e,ex⟩
   obtain ⟨o,e,ex⟩:=z;refine ⟨⟨o,e,ex.1⟩,λa e2=>?_⟩;cases e2;exact ⟨o,e,ex.2.1⟩
  ·obtain ⟨o,_,_,_,e,ex,_⟩:=I.hok p _ hk
   refine ⟨⟨o,e,ex.1⟩,λa e2=>?_⟩;cases e2;exact ⟨o,e,ex.2.1⟩
 | _=>exact False.elim ty
def tBM (K:Frag) (T:String) (r:V->List V->Hp->VK->Prop) (to:TE) (t:TA):TE:=λσ H Q=>to σ H λx H1=>tyV K T x H1/\t σ H1 λxs H2=>r x xs H2 Q
variable {o e:Expr} {es:List Expr} {to:TE} {t:TA} {name:Str} {apos cpos:Pos} {T id:String} {r:V->List V->Hp->VK->Prop}
theorem qkk (pa:PlainAttrs T) (slot:Slot T name id) (hty:typeOf (.builtin id)=pure (.type "method_descriptor")) (hm:MtR X id r) (ho:PE X o to) (ha:PA X (e :: es) t)
  (hbase:attributeBase o name X.env (eval o X.env)=eval o X.env:=by rfl)
  (hfew:((backTo cpos (starEach (e :: es) X.env)).all (λx=>!x.1) && (backToKw cpos (keywordEach [] X.env)).all (λx=>x.1.isSome)
   && decide ((e :: es).length+([]:List Keyword).length+(if ([]:List Keyword).isEmpty then 0 else 1)<30))=true:=by rfl)
  (hline:(apos.endLine == cpos.line)=true:=by rfl) (hs:starEach (e :: es) X.env=(false,eval e X.env) :: starEach es X.env:=by rfl) (hplain:(backTo cpos (starEach es X.env)).any (·.1)=false:=by rfl) :
  PE X (.Call (.Attribute o name apos) (e :: es) [] cpos) (tBM X.K T r to t):=by
 intro pins s σ H Q I h;refine wpAny_Call_method_late hbase hfew hline rfl (thn (ho pins s σ H _ I h) λv s1 hq__=>?_);obtain ⟨x,H1,I1,r1,ty,q1⟩:=hq__;obtain ⟨h1,h2⟩:=qAb I1 r1 ty;refine ⟨T,id,pa,slot,hty,h1,h2,?_⟩;have hA:=ha cpos pins s1 σ H1 _ I1 q1;rw[hs] at hA ⊢;refine EX (by show (false || (backTo cpos (starEach es X.env)).any (·.1))=false;rw[hplain]<;>rfl) (CT ?_);exact thn hA λus s2 ⟨vs,H2,I2,r2,q2⟩=>hm pins s2 σ H2 x vs v us Q I2 r1 r2 q2
end
open PySem PySem.Spec PyProof.Rows
def MtM (X:Cx) (id:String) (r:V->List V->Hp->VK->Prop):Prop:=
 ∀ (pins:List (Addr×Obj)) (s:Shared) (σ:St) (H:Hp) (x:V) (xs:List V) (v:Value) (us:List Value) (Q:VK),Inv X pins σ H s->RelV x v->Vals xs us->r x xs H Q ->
  wpAny (model X.prog X.w) X.A (call (.builtin id) (v :: us)) (EP X pins σ Q) X.xe s
theorem Vals.one:∀ {x:V} {us:List Value},Vals [x] us->∃ u,us=[u]/\RelV x u
 | _,_,.cons r .nil=>⟨_,rfl,r⟩
section
variable {X:Cx} {pins:List (Addr×Obj)} {σ:St} {H:Hp} {s:Shared} {l b:Addr} {xs ys zs:List V}
theorem Inv.lset {its its':List Value} {n:Nat} {f:Array Value->Array Value} {t':Nat} (I:Inv X pins σ H s) (hH:H l=some (.lst xs))
  (e:s.heap.get? l=some { cls:=.type "list",data:=.seq its.toArray n }) (hf:f its.toArray=its'.toArray) (hv:Vals ys its') (hz:ys.length<=sizeLine) :
  Inv X pins σ (upd H l (.lst ys)) { s with heap:=s.heap.update l (Obj.mapSeq f),toks:=t' }:=by
 have q:=PySem.IsL.update e f;rw[hf] at q;refine I.write (x:=l) (e:=l) (by rw[hH];exact trivial) (.inl rfl) (λb' u hb hu=>(Bt s.heap (Obj.mapSeq f) (AY hb)).trans hu) ⟨_,q⟩ ?_;exact ⟨hz,its',_,hv,q⟩
theorem Inv.lnew {its:List Value} {t':Nat} (I:Inv X pins σ H s) (hv:Vals ys its) (hz:ys.length<=sizeLine) :
  Inv X pins σ (upd H s.heap.objs.size (.lst ys)) { s with heap:=s.heap.push { cls:=.type "list",data:=.seq its.toArray },toks:=t' }:=
 I.laid (λ_ _ q=>Ab _ q) (Ag _) ⟨hz,its,0,hv,Ao _ rfl⟩
theorem Inv.fresh (I:Inv X pins σ H s):H s.heap.objs.size=none:=I.hok.fresh (Ag _)
theorem Inv.lstM (I:Inv X pins σ H s) (hH:H l=some (.lst xs)):xs.length<=sizeLine/\∃ (its:List Value) (n:Nat),Vals xs its/\xs.length=its.length/\s.heap.get? l=some { cls:=.type "list",data:=.seq its.toArray n }:=by
 obtain ⟨z,its,n,r,e⟩:=I.hok l _ hH;exact ⟨z,its,n,r,r.length,e⟩
end
section
variable {X:Cx}
def qxx:V->List V->Hp->VK->Prop:=λx vs H Q=>∃ l xs y,x=.ref l/\vs=[y]/\H l=some (.lst xs)/\xs.length<sizeLine/\Q .non (upd H l (.lst (xs ++ [y])))
theorem mt_append:MtM X "list.append" qxx:=by
 intro pins s σ H x vs v us Q I rx rv h;obtain ⟨l,xs,y,rfl,rfl,hH,hz,q⟩:=h;cases rx;obtain ⟨u,rfl,ru⟩:=rv.one;obtain ⟨z,its,n,r,hl,e⟩:=I.lstM hH;refine call_meets F.slot_list_append ⟨_,e,rfl⟩ F.entry_list_append (Fn _ _) (PySem.list_append l its.toArray n u (by rw[Ax];omega)) ⟨e,?_⟩;refine ⟨.non,_,I.lset (its':=its ++ [u]) hH e (by simp) (r.append (.cons ru .nil)) ?_,rfl,q⟩;rw[Aq,Bm];omega
def qEo:R2:=λx y H Q=>∃ l b xs zs,x=.ref l/\y=.ref b/\H l=some (.lst xs)/\H b=some (.lst zs)/\xs.length+zs.length<=sizeLine/\∀ p,H p=none->Q (.ref p) (upd H p (.lst (xs ++ zs)))
theorem op_cat:OpR X (binaryOp .Add) qEo:=by
 intro pins s σ H x y v u Q I rx ry h;obtain ⟨l,b,xs,zs,rfl,rfl,hH,hB,hz,q⟩:=h;cases rx;cases ry;obtain ⟨z,its,n,r,hl,e⟩:=I.lstM hH;obtain ⟨z2,its2,n2,r2,hl2,e2⟩:=I.lstM hB;refine PySem.P.add_list e e2 ?_ (by rw[Ax,Ax];omega);have ea:its.toArray ++ its2.toArray=(its ++ its2).toArray:=by simp
 rw[ea];exact ⟨.ref _,_,I.lnew (t':=s.toks) (r.append r2) (by rw[Aq];omega),rfl,q _ I.fresh⟩
end
section
variable {prog:Program} {w:World} {A:Around} {E:Value->Shared->Prop} {s:Shared}
end
section
variable {X:Cx}
end
open PySem PySem.Spec PyProof.Rows
section
variable {κ:Type} [DecidableEq κ]
def qcq (kvs:List (κ×V)) (k:κ):Option V:=(kvs.find? λkv=>decide (kv.1=k)).map (·.2)
def putK (kvs:List (κ×V)) (k:κ) (v:V):List (κ×V):=
 if (kvs.any λkv=>decide (kv.1=k))=true then kvs.map (λkv=>if kv.1=k then (kv.1,v) else kv) else kvs ++ [(k,v)]
theorem qb7 {p:κ×V} {r:List (κ×V)} {k:κ} (e:p.1=k):qcq (p :: r) k=some p.2:=by simp[qcq,Cc,e]
theorem qb8 {p:κ×V} {r:List (κ×V)} {k:κ} (e:¬ p.1=k):qcq (p :: r) k=qcq r k:=by simp[qcq,Cc,e]
theorem qhh (k:κ):∀ kvs:List (κ×V),(kvs.any λkv=>decide (kv.1=k))=(qcq kvs k).isSome
 | []=>rfl
 | p :: r=>by
  rw[EF]
  by_cases e:p.1=k
  ·simp only[qb7 e,AE e,Bool.true_or,Option.isSome_some]
  ·rw[qb8 e,Bc e,Bool.false_or];exact qhh k r
theorem qoj (k j:κ) (y:V):∀ kvs:List (κ×V),qcq (kvs.map λkv=>if kv.1=k then (kv.1,y) else kv) j=(qcq kvs j).map λx=>if j=k then y else x
 | []=>rfl
 | p :: r=>by
  have ih:=qoj k j y r;rw[Aw]
  by_cases h:p.1=k
  ·rw[Al h]
   by_cases e:p.1=j
   ·rw[qb7 (p:=(p.1,y)) e,qb7 e,Dw,Al (e.symm.trans h)]
   ·rw[qb8 (p:=(p.1,y)) e,qb8 e,ih]
  ·rw[Ah h]
   by_cases e:p.1=j
   ·rw[qb7 (p:=p) e,qb7 e,Dw,Ah (λz=>h (e.trans z))]
   ·rw[qb8 (p:=p) e,qb8 e,ih]
theorem qll (k j:κ) (y:V):∀ kvs:List (κ×V),qcq kvs k=none->qcq (kvs ++ [(k,y)]) j=if j=k then some y else qcq kvs j
 | [],_=>by
  by_cases e:k=j
  ·rw[Al e.symm];exact qb7 (p:=(k,y)) e
  ·rw[Ah (λz=>e z.symm)];exact qb8 (p:=(k,y)) e
 | p :: r,hn=>by
  rw[AV];have hk:¬ p.1=k:=λz=>by rw[qb7 z] at hn;cases hn
  rw[qb8 hk] at hn;have ih:=qll k j y r hn
  by_cases e:p.1=j
  ·rw[qb7 e,qb7 e,Ah (λz=>hk (e.trans z))]
  ·rw[qb8 e,qb8 e,ih]
theorem qfn (kvs:List (κ×V)) (k j:κ) (y:V):qcq (putK kvs k y) j=if j=k then some y else qcq kvs j:=by
 unfold putK
 by_cases a:(kvs.any λkv=>decide (kv.1=k))=true
 ·rw[Al a,qoj]
  rw[qhh] at a
  by_cases e:j=k
  ·obtain ⟨x,hx⟩:=ED.mp a
   rw[Al e,e,hx,Dw,Al rfl]
  ·rw[Ah e]
   cases qcq kvs j with
   | none=>rfl
   | some x=>rw[Dw,Ah e]
 ·rw[Ah a]
  refine qll k j y kvs ?_;rw[qhh] at a
  cases q:qcq kvs k with
  | none=>rfl
  | some x=>rw[q] at a;exact (a rfl).elim
theorem qhr (kvs:List (κ×V)) (k:κ) (v:V):(putK kvs k v).length<=kvs.length+1:=by
 unfold putK
 split
 ·rw[Ac];omega
 ·rw[Aq,Az,BO];omega
theorem RelO.isSome_eq {o:Option V} {u:Option Value} (r:RelO o u):o.isSome=u.isSome:=by
 cases o with
 | none=>cases u with
  | none=>rfl
  | some _=>exact (show False from r).elim
 | some _=>cases u with
  | none=>exact (show False from r).elim
  | some _=>rfl
theorem RelO.getD {o:Option V} {u:Option Value} {d:V} {d':Value} (r:RelO o u) (rd:RelV d d'):RelV (o.getD d) (u.getD d'):=by
 cases o with
 | none=>cases u with
  | none=>exact rd
  | some _=>exact (show False from r).elim
 | some _=>cases u with
  | none=>exact (show False from r).elim
  | some _=>exact r
theorem KV.val {kvs:List (κ×V)} {vs:List (κ×Value)} (r:KV kvs vs) (k:κ):RelO (qcq kvs k) (valueAt vs k):=by
 unfold KV at r
 induction r with
 | nil=>exact True.intro
 | @cons p q ps qs h t ih =>
  obtain ⟨h1,h2⟩:=h
  by_cases e:p.1=k
  ·have e':q.1=k:=h1.symm.trans e
   have b:valueAt (q :: qs) k=some q.2:=by simp[valueAt,Cc,e']
   rw[qb7 e,b];exact h2
  ·have e':¬ q.1=k:=λz=>e (h1.trans z)
   have b:valueAt (q :: qs) k=valueAt qs k:=by simp[valueAt,Cc,e']
   rw[qb8 e,b];exact ih
theorem KV.any {kvs:List (κ×V)} {vs:List (κ×Value)} (r:KV kvs vs) (k:κ):(kvs.any λkv=>decide (kv.1=k))=vs.any λkv=>decide (kv.1=k):=by
 unfold KV at r
 induction r with
 | nil=>rfl
 | cons h t ih=>rw[EF,EF,ih,h.1]
theorem KV.repl {kvs:List (κ×V)} {vs:List (κ×Value)} (r:KV kvs vs) (k:κ) {y:V} {u:Value} (ry:RelV y u) :
  KV (kvs.map λkv=>if kv.1=k then (kv.1,y) else kv) (vs.map λkv=>if kv.1=k then (kv.1,u) else kv):=by
 unfold KV at r ⊢
 induction r with
 | nil=>exact .nil
 | @cons p q ps qs h t ih =>
  rw[Aw,Aw];refine .cons ?_ ih;obtain ⟨h1,h2⟩:=h
  by_cases e:p.1=k
  ·rw[Al e,Al (h1.symm.trans e)];exact ⟨h1,ry⟩
  ·rw[Ah e,Ah (λz=>e (h1.trans z))];exact ⟨h1,h2⟩
theorem KV.put {kvs:List (κ×V)} {vs:List (κ×Value)} (r:KV kvs vs) (k:κ) {y:V} {u:Value} (ry:RelV y u):KV (putK kvs k y) (stored vs k u):=by
 unfold putK stored;rw[r.any k]
 by_cases e:(vs.any λkv=>decide (kv.1=k))=true
 ·rw[Al e,Al e];exact r.repl k ry
 ·rw[Ah e,Ah e];exact Paired.snoc r ⟨rfl,ry⟩
theorem KV.length {kvs:List (κ×V)} {vs:List (κ×Value)} (r:KV kvs vs):kvs.length=vs.length:=EC r
end
theorem qqc {P:Program} {w:World} {k:Key} {u:Value} (r:RelV (kV k) u):(qbw P w).is k u=true:=by
 cases k with
 | inl i=>obtain ⟨t,e⟩:=(show ∃ t,u=Value.int i t from r);subst e;exact qnd P w i t
 | inr x=>obtain ⟨t,e⟩:=(show ∃ t,u=Value.str x t from r);subst e;exact qne P w x t
theorem qlm {P:Program} {w:World}:∀ {ks:List Key} {us:List Value},Vals (ks.map kV) us->ItemsAre (qbw P w) ks us
 | [],_,r=>by rw[Dr] at r;cases r;exact .nil
 | k :: ks,_,r=>by
  rw[Aw] at r
  cases r with
  | cons h t=>exact .cons (qqc h) (qlm t)
abbrev KT (H:Hp):List (List Key×V)->List (List Key×Addr×Value)->Prop:=Paired λp q=>p.1=q.1/\H q.2.1=some (.tup (p.1.map kV))/\RelV p.2 q.2.2
theorem KT.val {H:Hp} {kvs:List (List Key×V)} {xs:List (List Key×Addr×Value)} (r:KT H kvs xs) (k:List Key):RelO (qcq kvs k) ((atKey xs k).map (·.2)):=by
 induction r with
 | nil=>exact True.intro
 | @cons p q ps qs h t ih =>
  obtain ⟨h1,_,h2⟩:=h
  by_cases e:p.1=k
  ·have e':q.1=k:=h1.symm.trans e
   have b:atKey (q :: qs) k=some q.2:=by simp[atKey,Cc,e']
   rw[qb7 e,b];exact h2
  ·have e':¬ q.1=k:=λz=>e (h1.trans z)
   have b:atKey (q :: qs) k=atKey qs k:=by simp[atKey,Cc,e']
   rw[qb8 e,b];exact ih
theorem KT.repl {H:Hp} {kvs:List (List Key×V)} {xs:List (List Key×Addr×Value)} (r:KT H kvs xs) (k:List Key) {y:V} {u:Value} (ry:RelV y u) :
  KT H (kvs.map λkv=>if kv.1=k then (kv.1,y) else kv) (xs.map (putAt k u)):=by
 induction r with
 | nil=>exact .nil
 | @cons p q ps qs h t ih =>
  rw[Aw,Aw];refine .cons ?_ ih;obtain ⟨h1,h2,h3⟩:=h;unfold putAt
  by_cases e:p.1=k
  ·rw[Al e,Al (h1.symm.trans e)];exact ⟨h1,h2,ry⟩
  ·rw[Ah e,Ah (λz=>e (h1.trans z))];exact ⟨h1,h2,h3⟩
theorem KT.put {H:Hp} {kvs:List (List Key×V)} {xs:List (List Key×Addr×Value)} (r:KT H kvs xs) (k:List Key) {b:Addr} {y:V} {u:Value} (hb:H b=some (.tup (k.map kV))) (ry:RelV y u) :
  KT H (putK kvs k y) (storedH xs k b u):=by
 have e:(kvs.any λkv=>decide (kv.1=k))=(atKey xs k).isSome:=by
  rw[qhh,(r.val k).isSome_eq,DQ]
 unfold putK storedH;rw[e]
 by_cases q:(atKey xs k).isSome=true
 ·rw[Al q,Al q];exact r.repl k ry
 ·rw[Ah q,Ah q];exact Paired.snoc r ⟨rfl,hb,ry⟩
theorem KT.keeps {H H':Hp} {kvs:List (List Key×V)} {xs:List (List Key×Addr×Value)} (r:KT H kvs xs) (ht:∀ b ys,H b=some (.tup ys)->H' b=some (.tup ys)):KT H' kvs xs:=
 Paired.mapP r λ_ _ z=>⟨z.1,ht _ _ z.2.1,z.2.2⟩
section
variable {P:Program} {w:World} {H:Hp} {h:Heap} {a:Addr}
theorem qAc {u:HO} (ok:HOk P w H h) (e:Rd H a u):ObjOk P w H h a u:=e.ok ok
theorem qln {kvs:List (Key×V)} (ok:HOk P w H h) (e:Rd H a (.dK kvs)):kvs.length<=sizeLine/\(a == sysModules)=false/\∃ vs,KV kvs vs/\h.DictOf (qbw P w) a vs:=
 show ObjOk P w H h a (.dK kvs) from qAc ok e
theorem qCz {kvs:List (Key×V)} (ok:HOk P w H h) (e:H a=some (.dK kvs)):kvs.length<=sizeLine/\(a == sysModules)=false/\∃ vs,KV kvs vs/\h.DictOf (qbw P w) a vs:=qln ok (.inl e)
theorem qjq {ks:List Key} (ok:HOk P w H h) (e:H a=some (.tup (ks.map kV))):(tupleKind (qbw P w)).is h ks a:=by
 obtain ⟨_,its,r,o,h1,h2,n,h3⟩:=(show ObjOk P w H h a (.tup (ks.map kV)) from ok a _ e);exact ⟨o,its.toArray,n,h1,h2,h3,by simpa using qlm r⟩
theorem qni {kvs:List (List Key×V)} (ok:HOk P w H h) (e:Rd H a (.dT kvs)):kvs.length<=sizeLine/\(a == sysModules)=false /\
  ∃ xs,KT H kvs xs/\h.DictOfH (tupleKind (qbw P w)) a xs:=by
 obtain ⟨z,y,xs,r,o,es,ep,h1,h2,h3,h4,h5⟩:=(show ObjOk P w H h a (.dT kvs) from qAc ok e);refine ⟨z,y,xs,r,o,es,ep,h1,h2,h3,h4,λx hx=>?_,h5⟩;have all:∀ {l:List (List Key×V)} {m:List (List Key×Addr×Value)},KT H l m->∀ x∈m,(tupleKind (qbw P w)).is h x.1 x.2.1:=by
  intro l m q
  induction q with
  | nil=>intro x hx;exact nomatch hx
  | @cons p q ps qs hq t ih =>
   intro x hx
   rcases Ak.mp hx with e|hx
   ·subst e
    exact qjq ok (by rw[<- hq.1];exact hq.2.1)
   ·exact ih x hx
 exact all r x hx
theorem qAd {kvs:List (List Key×V)} (ok:HOk P w H h) (e:H a=some (.dT kvs)):kvs.length<=sizeLine/\(a == sysModules)=false /\
  ∃ xs,KT H kvs xs/\h.DictOfH (tupleKind (qbw P w)) a xs:=qni ok (.inl e)
end
def DGet (H:Hp) (a:Addr) (y:V) (r:Option V):Prop:=
 (∃ kvs k,Rd H a (.dK kvs)/\y=kV k/\r=qcq kvs k)\/∃ kvs k b,Rd H a (.dT kvs)/\y=.ref b/\H b=some (.tup (k.map kV))/\r=qcq kvs k
def DPut (H:Hp) (a:Addr) (y v:V) (H':Hp):Prop:=
 (∃ kvs k,H a=some (.dK kvs)/\y=kV k/\kvs.length<sizeLine/\H'=upd H a (.dK (putK kvs k v))) \/
 ∃ kvs k b,H a=some (.dT kvs)/\y=.ref b/\H b=some (.tup (k.map kV))/\kvs.length<sizeLine/\H'=upd H a (.dT (putK kvs k v))
theorem DGet.k {H:Hp} {a:Addr} {kvs:List (Key×V)} {k:Key} (e:H a=some (.dK kvs)):DGet H a (kV k) (qcq kvs k):=.inl ⟨kvs,k,.inl e,rfl,rfl⟩
theorem DGet.t {H:Hp} {a b:Addr} {kvs:List (List Key×V)} {k:List Key} (e:H a=some (.dT kvs)) (eb:H b=some (.tup (k.map kV))):DGet H a (.ref b) (qcq kvs k):=.inr ⟨kvs,k,b,.inl e,rfl,eb,rfl⟩
theorem DPut.k {H:Hp} {a:Addr} {kvs:List (Key×V)} {k:Key} {v:V} (e:H a=some (.dK kvs)) (hl:kvs.length<sizeLine):DPut H a (kV k) v (upd H a (.dK (putK kvs k v))):=.inl ⟨kvs,k,e,rfl,hl,rfl⟩
theorem DPut.t {H:Hp} {a b:Addr} {kvs:List (List Key×V)} {k:List Key} {v:V} (e:H a=some (.dT kvs)) (eb:H b=some (.tup (k.map kV))) (hl:kvs.length<sizeLine) :
  DPut H a (.ref b) v (upd H a (.dT (putK kvs k v))):=.inr ⟨kvs,k,b,e,rfl,eb,hl,rfl⟩
section
variable {X:Cx} {pins:List (Addr×Obj)} {σ:St} {H:Hp} {s:Shared} {a:Addr} {y v:V} {u r:Value} {o:Option V} {A:Around} {E:Value->Shared->Prop}
theorem Inv.big (I:Inv X pins σ H s):sysModules<s.heap.objs.size:=by
 have h:mainGlobals<s.heap.objs.size:=(I.mod.glob.keeps I.bk).lt;exact ET (by decide) h
theorem qrv {Q:Value->Shared->Prop} (hu:A.units+1<cLine) (I:Inv X pins σ H s) (g:DGet H a y (some v)) (ry:RelV y u) (h:∀ w' s',Inv X pins σ H s'->RelV v w'->Q w' s') :
  wpAny (model X.prog X.w) A (getItem (.ref a) u) Q E s:=by
 rcases g with ⟨kvs,k,e,ey,l⟩|⟨kvs,k,b,e,ey,eb,l⟩
 ·subst ey
  obtain ⟨z,hd,vs,rel,dd⟩:=qln I.hok e;obtain ⟨w',hw,rw'⟩:=RelO.some_of (v:=v) (o:=valueAt vs k) (by rw[l];exact rel.val k);exact wpAny_getItem_of (qqc ry) dd.mapOf hw (h w' _ (I.tok _) rw')
 ·subst ey
  cases (show u=Value.ref b from ry)
  obtain ⟨z,hd,xs,rel,dd⟩:=qni I.hok e;obtain ⟨w',hw,rw'⟩:=RelO.some_of (v:=v) (o:=(atKey xs k).map (·.2)) (by rw[l];exact rel.val k);obtain ⟨p,hp,hp2⟩:=AH.mp hw;refine wpAny_getItem_heap (Cv hu) (qjq I.hok eb) dd hp ?_;rw[hp2];exact h w' _ (I.tok _) rw'
theorem qEp {Q:Value->Shared->Prop} (hu:A.units+1<cLine) (I:Inv X pins σ H s) (g:DGet H a y o) (ry:RelV y u) (h:∀ s',Inv X pins σ H s'->Q (.bool o.isSome) s') :
  wpAny (model X.prog X.w) A (compareOp .In u (.ref a)) Q E s:=by
 rcases g with ⟨kvs,k,e,ey,l⟩|⟨kvs,k,b,e,ey,eb,l⟩
 ·subst ey
  obtain ⟨z,hd,vs,rel,dd⟩:=qln I.hok e;refine wpAny_in_of (qqc ry) hd dd.mapOf ?_;rw[<- (rel.val k).isSome_eq,<- l];exact h _ (I.tok _)
 ·subst ey
  cases (show u=Value.ref b from ry)
  obtain ⟨z,hd,xs,rel,dd⟩:=qni I.hok e;refine wpAny_in_heap (Cv hu) (qjq I.hok eb) hd dd ?_;have q:=(rel.val k).isSome_eq;rw[DQ] at q;rw[<- q,<- l];exact h _ (I.tok _)
theorem qxy {Q:Value->Shared->Prop} (hu:A.units+1<cLine) (I:Inv X pins σ H s) (g:DGet H a y o) (ry:RelV y u) (h:∀ s',Inv X pins σ H s'->Q (.bool (!o.isSome)) s') :
  wpAny (model X.prog X.w) A (compareOp .NotIn u (.ref a)) Q E s:=by
 rcases g with ⟨kvs,k,e,ey,l⟩|⟨kvs,k,b,e,ey,eb,l⟩
 ·subst ey
  obtain ⟨z,hd,vs,rel,dd⟩:=qln I.hok e;refine wpAny_notIn_of (qqc ry) hd dd.mapOf ?_;rw[<- (rel.val k).isSome_eq,<- l];exact h _ (I.tok _)
 ·subst ey
  cases (show u=Value.ref b from ry)
  obtain ⟨z,hd,xs,rel,dd⟩:=qni I.hok e;refine wpAny_notIn_heap (Cv hu) (qjq I.hok eb) hd dd ?_;have q:=(rel.val k).isSome_eq;rw[DQ] at q;rw[<- q,<- l];exact h _ (I.tok _)
theorem qrw {h':Heap} {t':Nat} {ob:HO} (I:Inv X pins σ H s) (mu:Mut (H a)) (hs:Heap.SameBut a s.heap h') (he:∃ q,h'.get? a=some q) (new:ObjOk X.prog X.w (upd H a ob) h' a ob) :
  Inv X pins σ (upd H a ob) { s with heap:=h',toks:=t' }:=
 I.write (x:=a) (e:=a) mu (.inl rfl) (λb q hb z=>(hs.2 b hb).trans z) he new
theorem qAe {P:Program} {w:World} {H':Hp} {h':Heap} {kvs:List (Key×V)} {vs:List (Key×Value)} (z:kvs.length<=sizeLine) (hd:(a == sysModules)=false) (rel:KV kvs vs) (dd:h'.DictOf (qbw P w) a vs) :
  ObjOk P w H' h' a (.dK kvs):=⟨z,hd,vs,rel,dd⟩
theorem qrx {H':Hp} {Q:Unit->Shared->Prop} (hu:A.units+1<cLine) (I:Inv X pins σ H s) (g:DPut H a y v H') (ry:RelV y u) (rv:RelV v r) (h:∀ s',Inv X pins σ H' s'->Q () s') :
  wpAny (model X.prog X.w) A (setItem (.ref a) u r) Q E s:=by
 rcases g with ⟨kvs,k,e,ey,l,eH⟩|⟨kvs,k,b,e,ey,eb,l,eH⟩
 ·subst ey eH
  obtain ⟨z,hd,vs,rel,dd⟩:=qCz I.hok e;have hz:vs.length<=sizeLine:=by rw[<- rel.length];exact z
  have hl:(putK kvs k v).length<=sizeLine:=by have:=qhr kvs k v;omega
  refine wpAny_setItem_pairs (hsz:=hz) (qqc ry) dd λh' dd' hs=>h _ ?_
  have he:∃ q,h'.get? a=some q:=let ⟨q,_,_,hq,_⟩:=dd';⟨q,hq⟩
  exact qrw I (by rw[e];exact True.intro) hs he (qAe hl hd (rel.put k rv) dd')
 ·subst ey eH
  cases (show u=Value.ref b from ry)
  obtain ⟨z,hd,xs,rel,dd⟩:=qAd I.hok e;have hz:xs.length<=sizeLine:=by rw[<- EC rel];exact z
  have hl:(putK kvs k v).length<=sizeLine:=by have:=qhr kvs k v;omega
  refine wpAny_setItem_heap (hsz:=hz) (Cv hu) (qjq I.hok eb) dd λh' dd' hs=>h _ ?_
  obtain ⟨q,es,ep,hq,h2,h3,h4,_,h5⟩:=dd';refine qrw I (by rw[e];exact True.intro) hs ⟨q,hq⟩ ⟨hl,hd,_,(rel.put k eb rv).keeps λc ys ec=>?_,q,es,ep,hq,h2,h3,h4,h5⟩;rw[qas (qaq ec e (λz=>nomatch z))];exact ec
end
section
variable {X:Cx} {pins:List (Addr×Obj)} {σ:St} {H:Hp} {s:Shared} {a:Addr} {kvs:List (Key×V)} {k:Key} {u:Value} {A:Around} {E:Value->Shared->Prop}
end
def qD0 (i:Expr):Prop:=∀ ov iv,subscripted i false ov iv=operate [ov,iv] (getItem ov iv)
theorem qxz {prog:Program} {w:World} {A:Around} {E:Value->Shared->Prop} {s:Shared} {env:Env} {value slice:Expr} {pos:Pos} {T id:String} {Q:Value->Shared->Prop}
  (hl:typeLookup (.type T) "__getitem__" = pure (some (.builtin id))) (hs:qD0 slice)
  (h:wpAny (model prog w) A (eval value env) (λo s₁=>wpAny (model prog w) A (eval slice env) (λi s₂=>s₂.TypeIs o T/\wpAny (model prog w) A (getItem o i) Q E s₂) E s₁) E s) :
  wpAny (model prog w) A (eval (.Subscript value slice pos) env) Q E s:=by
 refine Subscript_ (A7 h (λo s₁ h₁=>A7 h₁ (λi s₂ h₂=>?_) λ_ _ x=>x) λ_ _ x=>x);obtain ⟨hT,h₂⟩:=h₂;unfold subscriptTail;refine Aa ?_;rw[getitemInPython_of_ne hT.not_modules];refine Aa (wpAny_specialOf hT hl ?_);have fin:wpAny (model prog w) A (subscripted slice false o i) (λr s₃=>wpAny (model prog w) A (letTemporaryGo value o r >>= λ_=>pure r) Q E s₃) E s₂:=by
  rw[hs o i];exact wpAny_operating (A7 h₂ (λr s₃ h₃=>Aa (wpAny_letTemporaryGo (Ae h₃))) λ_ _ x=>x)
 first
  | exact Ae (Aa fin)
  | exact Aa (Ae (Aa fin))
  | exact Aa fin
theorem qnj {X:Cx} {pins:List (Addr×Obj)} {σ:St} {H:Hp} {s:Shared} {a:Addr} {y:V} {o:Option V} (I:Inv X pins σ H s) (g:DGet H a y o):s.TypeIs (.ref a) "dict" :=by
 rcases g with ⟨kvs,k,e,_,_⟩|⟨kvs,k,b,e,_,_,_⟩
 ·obtain ⟨_,_,vs,_,dd⟩:=qln I.hok e
  exact dd.typeIs
 ·obtain ⟨_,_,xs,_,dd⟩:=qni I.hok e
  exact dd.typeIs
def qC0 (td ty:TE):TE:=λσ H Q=>td σ H λx H1=>ty σ H1 λy H2=>∃ a v,x=.ref a/\DGet H2 a y (some v)/\Q v H2
def qEq (ty td:TE):TE:=λσ H Q=>ty σ H λy H1=>td σ H1 λx H2=>∃ a o,x=.ref a/\DGet H2 a y o/\Q (.bl o.isSome) H2
def qx0 (ty td:TE):TE:=λσ H Q=>ty σ H λy H1=>td σ H1 λx H2=>∃ a o,x=.ref a/\DGet H2 a y o/\Q (.bl (!o.isSome)) H2
def qC1 (td ty tv:TE):TS:=λD σ H=>tv σ H λv H1=>td σ H1 λx H2=>ty σ H2 λy H3=>∃ a H4,x=.ref a/\DPut H3 a y v H4/\D.nx σ H4
section
variable {X:Cx} {o i e value:Expr} {pos pos' tpos:Pos} {td ty tv:TE}
theorem qhs (hu:X.A.units+1<cLine) (ho:PE X o td) (hi:PE X i ty) (hs:qD0 i):PE X (.Subscript o i pos) (qC0 td ty):=by
 intro pins s σ H Q I h;refine qxz PySem.F.slot_dict_getitem.lookup hs (thn (ho pins s σ H _ I h) λu s1 ⟨x,H1,I1,rx,q1⟩=>thn (hi pins s1 σ H1 _ I1 q1) λiv s2 hq__=>?_);obtain ⟨y,H2,I2,ry,a,v,ex,g,q2⟩:=hq__;subst ex;obtain rfl:u=Value.ref a:=rx;exact ⟨qnj I2 g,qrv hu I2 g ry λw' s3 I3 rw'=>⟨v,H2,I3,rw',q2⟩⟩
theorem qwe (hu:X.A.units+1<cLine) (hi:PE X i ty) (ho:PE X o td):PC X .In i o (qEq ty td):=by
 intro pins s σ H Q I h;refine thn (hi pins s σ H _ I h) λiv s1 ⟨y,H1,I1,ry,q1⟩=>thn (ho pins s1 σ H1 _ I1 q1) λu s2 hq__=>?_
 obtain ⟨x,H2,I2,rx,a,ov,ex,g,q2⟩:=hq__;subst ex;obtain rfl:u=Value.ref a:=rx;exact qEp hu I2 g ry λs3 I3=>⟨.bl ov.isSome,H2,I3,rfl,q2⟩
theorem qry (hu:X.A.units+1<cLine) (hi:PE X i ty) (ho:PE X o td):PC X .NotIn i o (qx0 ty td):=by
 intro pins s σ H Q I h;refine thn (hi pins s σ H _ I h) λiv s1 ⟨y,H1,I1,ry,q1⟩=>thn (ho pins s1 σ H1 _ I1 q1) λu s2 hq__=>?_
 obtain ⟨x,H2,I2,rx,a,ov,ex,g,q2⟩:=hq__;subst ex;obtain rfl:u=Value.ref a:=rx;exact qxy hu I2 g ry λs3 I3=>⟨.bl (!ov.isSome),H2,I3,rfl,q2⟩
theorem qht (hu:X.A.units+1<cLine) (ho:PE X o td) (hi:PE X i ty) (hv:PE X value tv) (hs:swapsWith value (some (.Subscript o i pos')) pos.line X.env=pure false) :
  PS X (.Assign [.Subscript o i pos'] value pos) (qC1 td ty tv):=by
 intro pins s σ H D I h;refine wpAny_Assign_Subscript (thn (hv pins s σ H _ I h) λr s1 ⟨v,H1,I1,rv,q1⟩=>thn (ho pins s1 σ H1 _ I1 q1) λu s2 ⟨x,H2,I2,rx,q2⟩=>thn (hi pins s2 σ H2 _ I2 q2) λiv s3 hq__=>?_) hs;obtain ⟨y,H3,I3,ry,a,H4,ex,g,q3⟩:=hq__;subst ex;obtain rfl:u=Value.ref a:=rx;exact qrx hu I3 g ry rv λs4 I4=>⟨σ,H4,I4,q3⟩
end
theorem quy {P:Program} {w:World} {H:Hp} (h:Heap) (hb:sysModules<h.objs.size):ObjOk P w H (h.push { cls:=.type "dict",data:=.dict #[] }) h.objs.size (.dK []):=
 ⟨AW _,BS.mpr (AY (Av hb)),[],.nil,Heap.DictOf.new h⟩
theorem quz {P:Program} {w:World} {H:Hp} (h:Heap) (hb:sysModules<h.objs.size):ObjOk P w H (h.push { cls:=.type "dict",data:=.dict #[] }) h.objs.size (.dT []):=
 ⟨AW _,BS.mpr (AY (Av hb)),[],.nil,_,#[],0,Ao _ rfl,⟨rfl,rfl,rfl⟩,rfl,rfl,C6⟩
def qAf:TE:=λ_ H Q=>∀ p,H p=none->Q (.ref p) (upd H p (.dK []))
def qAg:TE:=λ_ H Q=>∀ p,H p=none->Q (.ref p) (upd H p (.dT []))
section
variable {X:Cx} {pos:Pos}
theorem qu0:PE X (.Dict [] [] pos) qAf:=λpins s σ H Q I h =>
 wpAny_Dict_empty ⟨.ref s.heap.objs.size,_,I.laid (a:=s.heap.objs.size) (o:=.dK []) (t':=s.toks) (λ_ _ q=>Ab _ q) (Ag _) (quy s.heap I.big),rfl,h _ (I.hok.fresh (Ag _))⟩
theorem qu1:PE X (.Dict [] [] pos) qAg:=λpins s σ H Q I h =>
 wpAny_Dict_empty ⟨.ref s.heap.objs.size,_,I.laid (a:=s.heap.objs.size) (o:=.dT []) (t':=s.toks) (λ_ _ q=>Ab _ q) (Ag _) (quz s.heap I.big),rfl,h _ (I.hok.fresh (Ag _))⟩
end
structure M2 (X:Cx) (o:Expr) (m:Str) (apos:Pos) (e f:Expr) (cpos:Pos):Prop where
 base:attributeBase o m X.env (eval o X.env)=eval o X.env
 few:((backTo cpos (starEach [e,f] X.env)).all (λx=>!x.1) && (backToKw cpos (keywordEach [] X.env)).all (λx=>x.1.isSome)
  && decide (([e,f]:List Expr).length+([]:List Keyword).length+(if ([]:List Keyword).isEmpty then 0 else 1)<30))=true
 line:(apos.endLine == cpos.line)=true
 trees:backTo cpos (starEach [e,f] X.env)=[(false,eval e X.env),(false,eval f X.env)]
def IsD (H:Hp) (a:Addr):Prop:=(∃ kvs,Rd H a (.dK kvs))\/∃ kvs,Rd H a (.dT kvs)
theorem qAh {X:Cx} {pins:List (Addr×Obj)} {σ:St} {H:Hp} {s:Shared} {a:Addr} (I:Inv X pins σ H s) (d:IsD H a) :
  s.TypeIs (.ref a) "dict" /\ (∀ b,Value.ref a=.ref b->∃ ob,s.heap.get? b=some ob/\ob.dict=none)/\(a == sysModules)=false:=by
 rcases d with ⟨kvs,e⟩|⟨kvs,e⟩
 ·obtain ⟨_,hd,vs,_,dd⟩:=qln I.hok e
  refine ⟨dd.typeIs,λb q=>?_,hd⟩;cases q;obtain ⟨ob,_,_,h1,h2,_⟩:=dd;exact ⟨ob,h1,h2.2.1⟩
 ·obtain ⟨_,hd,xs,_,dd⟩:=qni I.hok e
  refine ⟨dd.typeIs,λb q=>?_,hd⟩;cases q;obtain ⟨ob,_,_,h1,h2,_⟩:=dd;exact ⟨ob,h1,h2.2.1⟩
section
variable {X:Cx} {pins:List (Addr×Obj)} {σ:St} {H:Hp} {s:Shared} {a:Addr} {y d:V} {u r:Value} {o:Option V} {A:Around} {E:Value->Shared->Prop}
theorem qAi {Q:Value->Shared->Prop} (hu:A.units+1<cLine) (I:Inv X pins σ H s) (g:DGet H a y o) (ry:RelV y u) (rd:RelV d r) (h:∀ w' s',Inv X pins σ H s'->RelV (o.getD d) w'->Q w' s') :
  wpAny (model X.prog X.w) A (call (.builtin "dict.get") [.ref a,u,r]) Q E s:=by
 rcases g with ⟨kvs,k,e,ey,l⟩|⟨kvs,k,b,e,ey,eb,l⟩
 ·subst ey
  obtain ⟨z,hd,vs,rel,dd⟩:=qln I.hok e;refine call_meetsIn Dy dd.typeIs ES (EH _ _ _) (meets_dict_get_default (qbw X.prog X.w) a (qqc ry) hd r) ⟨_,dd.mapOf,h _ _ (I.tok _) ?_⟩;rw[l];exact (rel.val k).getD rd
 ·subst ey
  cases (show u=Value.ref b from ry)
  obtain ⟨z,hd,xs,rel,dd⟩:=qni I.hok e;refine call_meetsIn Dy dd.typeIs ES (EH _ _ _) (meetsH_dict_get_default (tupleKind (qbw X.prog X.w)) a b hd r) ⟨Cv hu,k,xs,qjq I.hok eb,dd,h _ _ (I.tok _) ?_⟩;rw[l];exact (rel.val k).getD rd
end
def qAj (td ty tx:TE):TE:=λσ H Q=>td σ H λx H1=>∃ a,x=.ref a/\IsD H1 a/\ty σ H1 λy H2=>tx σ H2 λz H3=>∃ o,DGet H3 a y o/\Q (o.getD z) H3
section
variable {X:Cx} {o e f:Expr} {apos cpos:Pos} {td ty tx:TE}
theorem qu2 (hu:X.A.units+1<cLine) (ho:PE X o td) (he:PE X e ty) (hf:PE X f tx) (m:M2 X o "get" apos e f cpos):PE X (.Call (.Attribute o "get" apos) [e,f] [] cpos) (qAj td ty tx):=by
 intro pins s σ H Q I h;refine wpAny_Call_method m.base m.few m.line PySem.F.plainAttrs_dict Dy PySem.F.type_dict_get (thn (ho pins s σ H _ I h) λu s1 hq__=>?_);obtain ⟨x,H1,I1,rx,a,ex,d,q1⟩:=hq__;subst ex;obtain rfl:u=Value.ref a:=rx;obtain ⟨t1,t2,_⟩:=qAh I1 d;refine ⟨t1,t2,?_⟩;rw[m.trees];refine EX rfl (CT (DN (thn (he pins s1 σ H1 _ I1 q1) λiv s2 ⟨y,H2,I2,ry,q2⟩ =>
  DN (thn (hf pins s2 σ H2 _ I2 q2) λfv s3 ⟨z,H3,I3,rz,ov,g,q3⟩=>Calls.spliced_nil ?_))))
 exact qAi hu I3 g ry rz λw' s4 I4 rw'=>⟨_,H3,I4,rw',q3⟩
end
section
variable {X:Cx} {pins:List (Addr×Obj)} {σ:St} {H:Hp} {s:Shared} {a:Addr} {kvs:List (Key×V)} {A:Around} {E:Value->Shared->Prop}
end
section
variable {X:Cx} {pins:List (Addr×Obj)} {σ:St} {H:Hp} {s:Shared} {a:Addr} {y:V} {u:Value} {A:Around} {E:Value->Shared->Prop}
end
end L2
namespace Att
open PySem PySem.W PySem.Calls PyProof.Rows
theorem qhu {P:Params} {h:Heap}:∀ (ns:List Int) (vs:List Value),WellAll P h vs (ns.map WData.int)->IntsAre vs ns:=by
 intro ns
 induction ns with
 | nil =>
  intro vs w;rw[Dr] at w;cases w;exact .nil
 | cons n ns ih =>
  intro vs w;rw[Aw] at w
  cases w with
  | cons a b =>
   cases a;exact .cons _ _ (ih _ b)
theorem qrz {l:OpenLaw} {n:Nat} (hn:l.most=some n) {P:Params} {h:Heap} {args:List WData} {quk:List Value}
  (hpre:l.row.toRowW.claim.pre args=true) (hwl:WellAll P h quk args) :
  ∃ a vs ns,quk=[Value.ref a]/\args=[WData.list (ns.map WData.int)]/\h.get? a=some { cls:=.type "list",data:=.seq vs.toArray }/\IntsAre vs ns/\ns.length<=n:=by
 have hsh:WShape.hasAll [] args [.list .int]=true:=(pre_splitW hpre).1;have hc:l.pre.holds [] { args:=args }=true:=(pre_splitW hpre).2;obtain ⟨d,r,rfl,h1,h2⟩:=hasAllW_cons hsh;obtain rfl:=hasAllW_nil h2;obtain ⟨xs,rfl,h3⟩:=hasW_list h1;obtain ⟨ns,rfl⟩:=items_int h3;have hlen:ns.length<=n:=by
  unfold OpenLaw.pre at hc;have h4:(WTm.not (.lt (.lit (.int (n:Int))) (.len (.arg 0)))).holds [] { args:=[.list (ns.map .int)] }=true:=by
   have h4:=(holds_andW hc).1;rw[hn] at h4;exact h4
  have h5:=condW_of h4 (w_not (w_lt w_lit (w_len_list (w_arg rfl))));rw[Ac] at h5;refine Nat.le_of_not_lt λq=>?_
  have q':(n:Int)<((ns.length:Nat):Int):=by omega
  first
   | (rw[AE q'] at h5;exact absurd h5 (by decide))
   | (simp at h5;omega)
 cases hwl with
 | cons w1 w2 =>
  cases w2
  cases w1 with
  | list ho hall=>exact ⟨_,_,ns,rfl,rfl,ho,qhu ns _ hall,hlen⟩
theorem qr0 (l:OpenLaw) (args:List WData):l.row.toRowW.claim.post args (.bool true) args=true:=
 postW_of (r:=l.row.toRowW) (X:=(true == true))
  (show WShape.has [] (.bool true) .bool=true by first|rfl|decide|simp[WShape.has,WShape.arms,WShape.armsAll])
  (show (WTm.eq .res (.lit (.bool true))).value [] { args:=args,res:=some (.bool true),after:=args }=some (.bool (true == true)) from w_eq_bool (w_res rfl) w_lit) rfl
theorem attach_call {l:OpenLaw} {n:Nat} {q:Program} {loose:List Str} {XP:(Str->Option Value)->Heap->Prop} {YP:World->Heap->Prop} {d:DefRec}
  (hn:l.most=some n) (hdf:d.params.defaults=[])
  (call:∀ (w:World) (s₀ s₁:Shared) (mg mb:Str->Option Value) (fa:Addr) (o:Obj) (pm cd doc:Value) (a:Addr) (vs:List Value) (ns:List Int),
   Ground q loose [] XP w s₀ mg mb s₁.heap->YP w s₁.heap ->
   s₁.heap.get? fa=some o->o.data=.func (docDef d.name d.params d.body d.scope pm cd doc)->s₁.heap.CodeRec cd d.name->mg d.name=some (.ref fa) ->
   s₁.heap.get? a=some { cls:=.type "list",data:=.seq vs.toArray }->IntsAre vs ns->ns.length<=n->s₁.gens = #[] ->
   codeAny (model l.prog w) callerA (.call (.ref fa) ⟨[.ref a],[]⟩) (λr s'=>r=.ok (.ret (.bool true))/\OldK s₁.heap s'.heap/\s'.os=s₁.os/\AllBare s'.gens) s₁) :
  WalkO q loose XP YP l.row.toRowW d [] (λf vs=>PySem.call f vs):=by
 intro w s₀ s₁ mg mb G Y fa o pm cd doc dV kV ho hd hcd hD hmg hg args quk as hpre hlay hrd hwl hlo;obtain rfl:dV=.none:=Dflts.none hD hdf;obtain rfl:kV=.none:=Dflts.noKw hD;obtain ⟨a,vs,ns,rfl,rfl,hobj,hints,hlen⟩:=qrz hn hpre hwl;refine enter_call (BJ (call w s₀ s₁ mg mb fa o pm cd doc a vs ns G Y ho (fd_plain hd) hcd hmg hobj hints hlen hg) λr s' hq=>?_);obtain ⟨rfl,h2,h3,h4⟩:=hq;exact ⟨.inl ⟨.bool true,.bool true,[],rfl,λ_=>rfl,.bool true,qr0 l _,λ_=>⟨List.Pairwise.nil,λ_ hm=>(nomatch hm)⟩⟩,h2,h3,h4⟩
section
variable {prog:Program} {w:World} {A:Around} {E:Value->Shared->Prop} {s:Shared} {K:Frag}
def ledger (h:Heap) (L d:Addr):List (Addr×Obj):=(List.range h.objs.size).filterMap λa=>if a=L\/a=d then none else (h.get? a).map λo=>(a,o)
end
end Att
namespace L2
open PySem PySem.Spec PyProof.Rows
theorem qlo:∀ {vs:List Value} {ns:List Int},IntsAre vs ns->Vals (ns.map V.int) vs
 | _,_,.nil=>.nil
 | _,_,.cons n t h=>.cons ⟨t,rfl⟩ (qlo h)
def qC2 (H:Hp):Prop:=∀ b,H b=none\/∃ o xs,H b=some (.frz o (.lst xs))
theorem qu3 {P:Program} {w:World} {K:Frag} {mg mb:Str->Option Value} {CX:CXT} {k:Nat} {fa a:Addr} {fd:FuncData} {x:Str} {sp:Sp} {s₁:Shared} {vs:List Value} {ns:List Int}
  (KX:K.In s₁.heap) (hns:s₁.heap.Ns mainGlobals mg) (hb:s₁.heap.Ns builtinsNs mb) (hbb:∀ x:Str,x ≠ "__name__" -> mb x=bootBuiltins x) (hlim:s₁.heap.NoLimit) (hnd:s₁.heap.NoDigits) (hg:s₁.gens = #[])
  (ha:s₁.heap.get? a=some { cls:=.type "list",data:=.seq vs.toArray }) (hi:IntsAre vs ns) (hl:ns.length<=sizeLine) (hr:Room k callerA)
  (F:∀ base:Heap,K.In base->base.Ns mainGlobals mg->qf7 P w K mg base CX k fa fd [x] sp) (hbind:∀ (s:Shared) (u:Value),BindsTo s fd ⟨[u],[]⟩ [(x,u)])
  (hsp:∀ H:Hp,qC2 H->SqL K H a (ns.map V.int)->sp [.ref a] H (λv _=>v=.bl true) λ_ _ _=>False)
  (hCX:∀ H e s',CX [] H s₁ (λ_ _ _=>False) e s'->False) :
  codeAny (model P w) callerA (.call (.ref fa) ⟨[.ref a],[]⟩) (λr s'=>r=.ok (.ret (.bool true))/\OldK s₁.heap s'.heap/\s'.os=s₁.os/\AllBare s'.gens) s₁:=by
 have rv:=qlo hi;have lenV:=hi.length;have core:∀ H:Hp,qC2 H->SqL K H a (ns.map V.int)->HOk P w H s₁.heap->(∀ b,H b≠none->b=a)->(H a≠none->K.lookup a=none) ->
   codeAny (model P w) callerA (.call (.ref fa) ⟨[.ref a],[]⟩) (λr s'=>r=.ok (.ret (.bool true))/\OldK s₁.heap s'.heap/\s'.os=s₁.os/\AllBare s'.gens) s₁:=by
  intro H hO hS hok hA hK;have base_of:∀ {b:Addr} {o:Obj},s₁.heap.get? b=some o->H b=none->(qum s₁.heap H).get? b=some o:=λe n=>qun e n
  have noA:∀ {b:Addr} {o:Obj} {es:Array DictEntry} {ep:Nat},s₁.heap.get? b=some o->o.data=.dict es ep->H b=none:=fun {b o es ep} e d=>by
   cases q:H b with
   | none=>rfl
   | some u =>
    have e':b=a:=hA b (by rw[q];simp);subst e';rw[ha] at e;cases e;have d':Data.seq vs.toArray _=Data.dict es ep:=d
    cases d'
  have nsK:∀ {b:Addr} {m:Str->Option Value},s₁.heap.Ns b m->(qum s₁.heap H).Ns b m:=fun {b m} ⟨o,es,ep,e,d,r⟩=>⟨o,es,ep,base_of e (noA e d),d,r⟩
  have hKb:K.In (qum s₁.heap H):=λb o e=>base_of (KX b o e) (by
   cases q:H b with
   | none=>rfl
   | some u =>
    have e':b=a:=hA b (by rw[q];simp);subst e';rw[hK (by rw[q];simp)] at e;cases e)
  have hM:Mod K mg (qum s₁.heap H):=⟨hKb,nsK hns,⟨mb,nsK hb,hbb⟩,let ⟨mc,h1,h2⟩:=hlim;⟨mc,nsK h1,h2⟩,let ⟨mc,h1,h2⟩:=hnd;⟨mc,nsK h1,h2⟩⟩;have e0:Env0 P w K mg (qum s₁.heap H) callerA [] s₁ H:=⟨rfl,hM,λb o e=>qxd e,EU (qq9 _ _),trivial,λb hb=>absurd (show b∈([]:List Addr) from hb) (by simp),hok,.of_eq hg⟩;refine BJ ((F _ hKb (nsK hns)).run callerA [] s₁ H ⟨[.ref a],[]⟩ [.ref a] [.ref a] _ _ hr e0 (hbind s₁ (.ref a)) (.cons rfl .nil) (hsp H hO hS)) λr s' h=>?_
  cases r with
  | error e=>exact (hCX H e s' h).elim
  | ok fl =>
   cases fl with
   | next=>exact False.elim h
   | brk=>exact False.elim h
   | cont=>exact False.elim h
   | ret u =>
    obtain ⟨v,H',os,bare,un,hok',r',q⟩:=h;have q':v=.bl true:=q;subst q';obtain rfl:u=Value.bool true:=r';refine ⟨rfl,OldK.of_keep λb o e=>?_,os,bare⟩
    cases q:H b with
    | none=>exact un.keep b o e q (by intro z;exact absurd (show b∈([]:List Addr) from z) (by simp)) (by simp)
    | some u =>
     rcases hO b with z|⟨ob,xs,z⟩
     ·rw[q] at z;cases z
     ·have z2:=un.frzs b ob _ z
      obtain ⟨e1,_⟩:=hok b _ z;obtain ⟨e2,_⟩:=hok' b _ z2;rw[e] at e1;cases e1;exact e2
 cases hk:K.lookup a with
 | some o =>
  have e:=KX a o hk;rw[ha] at e;cases e;refine core (λ_=>none) (λ_=>.inl rfl) (.inr ⟨_,vs.toArray,_,hk,rfl,rfl,rfl,by rw[Ax,lenV];exact hl,by simpa using rv⟩) (λb u z=>by have z':(none:Option HO)=some u:=z;cases z') (λb z=>absurd rfl z) λz=>absurd rfl z
 | none =>
  refine core (λb=>if b=a then some (.frz { cls:=.type "list",data:=.seq vs.toArray } (.lst (ns.map V.int))) else none) (λb=>?_) (.inl (.inr ⟨{ cls:=.type "list",data:=.seq vs.toArray },Al rfl⟩)) (λb u z=>?_) (λb z=>?_) λ_=>hk
  ·by_cases hb:b=a
   ·exact .inr ⟨_,_,Al hb⟩
   ·exact .inl (Ah hb)
  ·by_cases hb:b=a
   ·have z':=(Al hb).symm.trans z
    cases z'
    subst hb;exact ⟨ha,by rw[Ac];exact hl,vs,_,rv,ha⟩
   ·have z':=(Ah hb).symm.trans z
    cases z'
  ·by_cases hb:b=a
   ·exact hb
   ·exact absurd (Ah hb) z
open PySem PySem.Spec PyProof.Rows
abbrev KOf {K:Frag} {h:Heap} (_:K.In h):Frag:=K
theorem qx1 {l:PySem.W.OpenLaw} {n k:Nat} {q:Program} {loose:List Str} {XP:(Str->Option Value)->Heap->Prop} {YP:World->Heap->Prop} {d:DefRec} {K:Params->Frag} {CX:World->CXT} {sp:World->Sp} {x:Str}
  (hn:l.most=some n) (hn2:n<=sizeLine) (hdf:d.params.defaults=[]) (hr:Room k callerA)
  (hY:∀ (w:World) (h:Heap),YP w h->(K w.params).In h)
  (F:∀ (w:World) (mg:Str->Option Value) (fa:Addr) (h:Heap),(K w.params).In h->h.Ns mainGlobals mg->mg d.name=some (.ref fa) ->
   ∃ fd:FuncData,(∀ (s:Shared) (u:Value),BindsTo s fd ⟨[u],[]⟩ [(x,u)]) /\
    ∀ base:Heap,(K w.params).In base->base.Ns mainGlobals mg->qf7 l.prog w (K w.params) mg base (CX w) k fa fd [x] (sp w))
  (hsp:∀ (w:World) (H:Hp) (a:Addr) (ns:List Int),ns.length<=n->qC2 H->SqL (K w.params) H a (ns.map V.int)->sp w [.ref a] H (λv _=>v=.bl true) λ_ _ _=>False)
  (hCX:∀ (w:World) (H:Hp) (s:Shared) (e:Value) (s':Shared),CX w [] H s (λ_ _ _=>False) e s'->False) :
  PySem.W.WalkO q loose XP YP l.row.toRowW d [] (λf vs=>PySem.call f vs):=by
 refine Att.attach_call hn hdf λw s₀ s₁ mg mb fa o pm cd doc a vs ns G Y ho hd hcd hmg hobj hints hlen hg=>?_
 have KX:=hY w _ Y;obtain ⟨fd,hb,hF⟩:=F w mg fa _ KX G.T.g hmg;exact qu3 KX G.T.g G.T.b G.T.builtins G.T.nolimit G.T.nodigits hg hobj hints (AR hlen hn2) hr hF hb (λH hO hS=>hsp w H a ns hlen hO hS) λH e s'=>hCX w H s₁ e s'
open PySem PySem.Spec PyProof.Rows
def inClass (s:Stmt) (j:Nat):Stmt:=match s with
 | .ClassDef _ _ _ body _ _ _ _ _ _ _=>body.getD j (.Pass ⟨0,0,0,0⟩)
 | _=>.Pass ⟨0,0,0,0⟩
def qcd (s:Stmt):Arguments:=match s with
 | .FunctionDef _ a _ _ _ _ _ _ _ _=>a
 | _=>{ posonlyargs:=[],args:=[],vararg:=none,kwonlyargs:=[],kw_defaults:=[],kwarg:=none,defaults:=[] }
def qby (s:Stmt):List Stmt:=match s with
 | .FunctionDef _ _ b _ _ _ _ _ _ _=>b
 | _=>[]
def qab (s:Stmt):Scope:=match s with
 | .FunctionDef _ _ _ _ _ _ sc _ _ _=>sc
 | _=>{ kind:=.function,names:=[],isGenerator:=false,isCoroutine:=false }
abbrev CX0:CXT:=λ_ _ _ _ _ _=>False
abbrev E0:XK:=λ_ _ _=>False
theorem qu4 {X:Cx}:qjo CX0 X E0:=λ_ _ _ _ _ _ _ h=>h.elim
structure Fun (K:Frag) (x qual:Str) (st:Stmt) (f:Addr) (fd:FuncData):Prop where
 ex:∃ (oc:Value) (od:Option Addr) (kV doc pm:Value) (an:Option Addr) (cdv ct:Value) (osl:Array (Option Value)),
  fd=fnOf x qual (qcd st) (qby st) (qab st) .none kV doc pm an cdv ct/\K.lookup f=some ⟨oc,od,.func fd,osl⟩/\codeIn K cdv qual=true
 kp:keepIn K (.ref f)=true
section
variable {P:Program} {w:World} {K:Frag} {mg:Str->Option Value} {base:Heap}
theorem Fun.ok {x qual:Str} {st:Stmt} {f:Addr} {fd:FuncData} {N ps:List Str} {k:Nat} {sp:Sp} (F:Fun K x qual st f fd) (S:qaf N ps (qab st)) (len:∀ vs H Q E,sp vs H Q E->vs.length=ps.length)
  (hbody:∀ (cdv:Value) (A:Around) (outer:List Env) (s:Shared) (H:Hp) (vs:List V) (Q:VK) (E:XK),Room k (A.deeper (envOfC qual (qab st) s.heap.objs.size f cdv))->sp vs H Q E ->
   ∃ t,PSs (qrr CX0 P w K mg base N qual (qab st) f cdv A outer s H E).nox (qby st) t/\t { nx:=λ_ H'=>Q .non H',rt:=Q } (start N vs) H):qf7 P w K mg base CX0 (k+1) f fd ps sp:=by
 obtain ⟨oc,od,kV,doc,pm,an,cdv,ct,osl,rfl,lk,hcd⟩:=F.ex;refine qxr lk hcd S len λA outer s H vs Q E hr hsp=>?_
 obtain ⟨t,h,q⟩:=hbody cdv A outer s H vs Q E hr hsp;exact ⟨t,h.nox,q⟩
theorem Fun.binds {x qual:Str} {st:Stmt} {f:Addr} {fd:FuncData} {ps:List Str} (F:Fun K x qual st f fd)
  (h:∀ (kV doc pm:Value) (an:Option Addr) (cdv ct:Value) (us:List Value),us.length=ps.length->bindArgs (fnOf x qual (qcd st) (qby st) (qab st) .none kV doc pm an cdv ct) ⟨us,[]⟩=pure (ps.zip us)):Binds K fd ps []:=by
 obtain ⟨oc,od,kV,doc,pm,an,cdv,ct,osl,rfl,lk,hcd⟩:=F.ex;exact .all (h kV doc pm an cdv ct)
theorem qok {x qual:Str} {st:Stmt} {f:Addr} {oc:Value} {od an:Option Addr} {osl:Array (Option Value)} {kV doc pm cdv ct:Value} (l:K.lookup f=some ⟨oc,od,.func (fnOf x qual (qcd st) (qby st) (qab st) .none kV doc pm an cdv ct),osl⟩)
  (c:codeIn K cdv qual=true) (k:keepIn K (.ref f)=true):Fun K x qual st f (fnOf x qual (qcd st) (qby st) (qab st) .none kV doc pm an cdv ct):=⟨⟨oc,od,kV,doc,pm,an,cdv,ct,osl,rfl,l,c⟩,k⟩
end
theorem qfo {A:Around} {k:Nat} (hr:Room k A):A.units+1<cLine:=C4 (Nat.add_le_add_left (by decide:1<=64) _) hr.units
theorem qao {n:Nat} (h:n<=1000):n<sizeLine:=C4 h (by decide)
section
variable {X:Cx}
theorem pv (i:Nat) {x:Str} {pos:Pos} (hN:X.N[i]?=some x:=by rfl) (hv:Vis X.env.scope x:=by first|exact Or.inl rfl|exact Or.inr (Or.inl rfl)|exact Or.inr (Or.inr rfl)) (hd:(x == ("__debug__" : Str))=false:=by decide)
  (hcd:(x == ("__classdict__" : Str))=false:=by decide):PE X (.Name x pos) (qCc i):=qz5 hN hv hd hcd
end
theorem qds {A B:Prop} (h:B):if false=true then A else B:=by
 rw[Ah AD];exact h
theorem qc6 {A B:Prop} (h:A):if true=true then A else B:=by
 rw[Al rfl];exact h
theorem qjg {c A B:Prop} [Decidable c] (h1:c->A) (h2:¬ c->B):if c then A else B:=by
 by_cases h:c
 ·rw[Al h]
  exact h1 h
 ·rw[Ah h]
  exact h2 h
theorem qAk {c A B:Prop} [Decidable c] (hc:c) (h:B):if (!decide c)=true then A else B:=by
 rw[AE hc];exact qds h
def Same (H H':Hp):Prop:=∀ b o,H b=some o->H' b=some o
theorem Same.refl (H:Hp):Same H H:=λ_ _ h=>h
theorem Same.trans {H H1 H2:Hp} (a:Same H H1) (b:Same H1 H2):Same H H2:=λc o h=>b c o (a c o h)
theorem Same.free {H H':Hp} (e:Same H H') {l:Addr} (h:H' l=Option.none):H l=Option.none:=by
 cases q:H l with
 | none=>rfl
 | some o =>
  rw[e l o q] at h;cases h
section
variable {κ:Type} [DecidableEq κ]
end
end L2
set_option maxHeartbeats 4000000
namespace L2
open PySem PySem.Spec PyProof.Rows
section
variable {X:Cx}
theorem qAl:(10:Nat) ^ 100<2 ^ 400:=by decide +kernel
theorem qol {j:Int} (h:j.natAbs<10 ^ 100):j.natAbs.log2<400:=by
 by_cases h0:j.natAbs=0
 ·rw[h0];decide +kernel
 ·exact (Nat.log2_lt h0).mpr (ET h qAl)
def qC3 (_ j:Int):Prop:=0<j/\j<10 ^ 100
theorem qkl:OpR X (binaryOp .FloorDiv) (rI qC3 λi j=>.int (i / j)):=opI λi j _ _ _ _ _ hc q=>by
 have h1:(0:Int)<j:=hc.1;have h2:j<10 ^ 100:=hc.2;have h3:j.natAbs<10 ^ 100:=by omega
 exact floordiv_int (by omega) (by rw[Eo i (by omega)];exact q) (.inl (PyProof.noPylong_of_log2 (ET (qol h3) (by decide))))
def CMulB (i j:Int):Prop:=(-(10 ^ 100)<i/\i<10 ^ 100)/\(-(10 ^ 100)<j/\j<10 ^ 100)
theorem qom {j:Int} (h:j.natAbs<10 ^ 100):Builtin.Int.intBits j<=400:=by
 unfold Builtin.Int.intBits
 split
 ·exact AW _
 ·have:=qol h
  omega
theorem CMulB.ok {i j:Int} (h:CMulB i j):IntMulOk i j:=by
 obtain ⟨⟨h1,h2⟩,h3,h4⟩:=h;have e1:=qom (j:=i) (by omega);have e2:=qom (j:=j) (by omega);have e3:Builtin.Int.intTooBig (Builtin.Int.intBits i+Builtin.Int.intBits j)=false:=by
  unfold Builtin.Int.intTooBig;rw[Bc];have:(bitsLine:Int)=134217728:=by decide +kernel
  omega
 unfold IntMulOk;rw[e3]
 simp
theorem qb2:OpR X (binaryOp .Mult) (rI CMulB λi j=>.int (i*j)):=opI λ_ _ _ _ _ _ _ hc q=>mul_int q hc.ok
end
section
variable {X:Cx}
theorem qhi:CallR X (.builtin "isinstance") (λxs H Q=>∃ x T t b,xs=[x,.ty T]/\TyOf X.K H x t/\PySem.W.kitOne X.K t (.type T)=some b/\Q (.bl b) H):=by
 intro pins s σ H xs us Q I r h;obtain ⟨x,T,t,b,rfl,ty,e,q⟩:=h;obtain ⟨u,w',rfl,ru,rw'⟩:=vals2 r
 cases (show w'=Value.type T from rw')
 exact qrp I ru ty e λtk=>⟨.bl b,H,I.tok tk,rfl,q⟩
end
mutual
inductive Rep (K:Frag) (H:Hp):V->PyData->Prop where
 | non:Rep K H .non .none
 | bl (b:Bool):Rep K H (.bl b) (.bool b)
 | int (i:Int):Rep K H (.int i) (.int i)
 | str (x:Str):Rep K H (.str x) (.str x)
 | lst {a:Addr} {xs:List V} {ds:List PyData}:SqL K H a xs->qq6 K H xs ds->Rep K H (.ref a) (.list ds)
 | tup {a:Addr} {xs:List V} {ds:List PyData}:SqT K H a xs->qq6 K H xs ds->Rep K H (.ref a) (.tuple ds)
inductive qq6 (K:Frag) (H:Hp):List V->List PyData->Prop where
 | nil:qq6 K H [] []
 | cons {v:V} {vs:List V} {d:PyData} {ds:List PyData}:Rep K H v d->qq6 K H vs ds->qq6 K H (v :: vs) (d :: ds)
end
section
variable {X:Cx} {pins:List (Addr×Obj)} {σ:St} {H:Hp} {s:Shared}
mutual
theorem qeb (I:Inv X pins σ H s):∀ (d:PyData) (v:V) (u:Value),Rep X.K H v d->RelV v u->∃ as,Reads s.heap u d as
 | .none,v,u,r,q=>by cases r;cases (show u=Value.none from q);exact ⟨_,.none⟩
 | .bool b,v,u,r,q=>by cases r;cases (show u=Value.bool b from q);exact ⟨_,.bool b⟩
 | .int i,v,u,r,q=>by cases r;obtain ⟨t,e⟩:=(show ∃ t,u=Value.int i t from q);cases e;exact ⟨_,.int i t⟩
 | .str x,v,u,r,q=>by cases r;obtain ⟨t,e⟩:=(show ∃ t,u=Value.str x t from q);cases e;exact ⟨_,.str x t⟩
 | .list ds,v,u,r,q=>by
  cases r with
  | @lst a xs _ hq rs =>
   cases (show u=Value.ref a from q)
   obtain ⟨its,rv,⟨o,n,e,c,_,d⟩,hz⟩:=I.list hq;obtain ⟨as,ra⟩:=qf9 I ds xs its rs rv;exact ⟨_,.list e c d (by simpa using ra)⟩
 | .tuple ds,v,u,r,q=>by
  cases r with
  | @tup a xs _ hq rs =>
   cases (show u=Value.ref a from q)
   obtain ⟨its,rv,⟨o,e,c,n,d⟩,hz⟩:=I.tuple hq;obtain ⟨as,ra⟩:=qf9 I ds xs its rs rv;exact ⟨_,.tuple e c d (by simpa using ra)⟩
 | .dict _,v,u,r,q=>by cases r
theorem qf9 (I:Inv X pins σ H s):∀ (ds:List PyData) (vs:List V) (us:List Value),qq6 X.K H vs ds->Vals vs us->∃ as,ReadsAll s.heap us ds as
 | [],vs,us,r,q=>by cases r;cases q;exact ⟨_,.nil⟩
 | d :: ds,vs,us,r,q=>by
  cases r with
  | cons r1 r2 =>
   cases q with
   | cons q1 q2 =>
    obtain ⟨as,a1⟩:=qeb I d _ _ r1 q1;obtain ⟨bs,a2⟩:=qf9 I ds _ _ r2 q2;exact ⟨_,.cons a1 a2⟩
end
end
def qwf (K:Frag) (neg:Bool):R2:=λx y H Q=>∃ d e,Rep K H x d/\Rep K H y e/\d.canLay0=true/\e.canLay0=true/\d.depth<=20/\Q (.bl (if neg then !PyData.eqv d e else PyData.eqv d e)) H
section
variable {X:Cx}
theorem qon (hu:X.A.units+64<cLine):OpR X (compareOp .Eq) (qwf X.K false):=by
 intro pins s σ H x y v u Q I rx ry h;obtain ⟨d,e,rd,re,cd,ce,hd,q⟩:=h;obtain ⟨as,ra⟩:=qeb I d x v rd rx;obtain ⟨bs,rb⟩:=qeb I e y u re ry;have hm:min d.depth e.depth<=d.depth:=Nat.min_le_left _ _;exact SeqAt.compareEq_reads ra rb cd ce (by omega) ⟨.bl _,H,I,rfl,q⟩
theorem qhv (hu:X.A.units+64<cLine):OpR X (compareOp .NotEq) (qwf X.K true):=by
 intro pins s σ H x y v u Q I rx ry h;obtain ⟨d,e,rd,re,cd,ce,hd,q⟩:=h;obtain ⟨as,ra⟩:=qeb I d x v rd rx;obtain ⟨bs,rb⟩:=qeb I e y u re ry;have hm:min d.depth e.depth<=d.depth:=Nat.min_le_left _ _;exact SeqAt.rcNeAt_reads ra rb cd ce (by omega) X.prog X.w X.xe _ ⟨.bl _,H,I,rfl,q⟩
end
section
variable {X:Cx} {pins:List (Addr×Obj)} {σ:St} {H:Hp} {s:Shared} {h':Heap}
theorem Inv.turnedLaid {t':Nat} {ch:List Addr} {a:Addr} {o:HO} (I:Inv X pins σ H s) (hf:∀ b∈ch,qof X pins H b) (k:∀ b u,b ∉ ch->s.heap.get? b=some u->h'.get? b=some u)
  (hp:s.heap.objs.size<=a) (new:ObjOk X.prog X.w (upd H a o) h' a o):Inv X pins σ (upd H a o) { s with heap:=h',toks:=t' }:=by
 have hna:H a=none:=I.hok.fresh hp;have nch:∀ b u,H b=some u->b ∉ ch:=λb u e z=>by rw[(hf b z).1] at e;cases e
 have nea:∀ b u,s.heap.get? b=some u->b≠a:=λb u e z=>absurd (AK (Am e) (by rw[z];exact hp)) (BC _)
 refine I.step (g':=s.gens) (d':=s.drawn) (ch:=ch) (λb hb=>⟨(hf b hb).2.2.2.1,(hf b hb).2.1,(hf b hb).2.2.2.2.1,(hf b hb).2.2.2.2.2⟩) (λb o _ _ hc e _=>k b o hc e) (λb o _ _ hc e _=>⟨o.slots,k b o hc e⟩)
  (λb o hc e n=>by rw[qas (nea b o e)];exact n) (λb o hc e=>⟨o,k b o hc e⟩) (λb xs e=>by rw[qas (qac e hna)];exact e) (λb o u e=>by rw[qas (qac e hna)];exact e)
  (λb ps e=>⟨#[],by rw[qas (qac e hna),e];simp⟩) (λm hm=>?_) (λb u e=>?_) I.bare
 ·obtain ⟨o,es,ep,ho,r⟩:=hm
  exact ⟨o,es,ep,k _ o (λz=>(hf _ z).2.1 rfl) ho,r⟩
 ·by_cases hb:b=a
  ·subst hb;rw[qa5] at e;cases e;exact new
  ·rw[qas hb] at e
   refine (I.hok b u e).stay (λc v hc q=>k c v ?_ q) (λc q=>by rw[qas (qac q hna)];exact q) λc xs q=>by rw[qas (qac q hna)];exact q
   rcases hc with z|z
   ·rw[z];exact nch b u e
   ·exact nch c _ z
theorem Inv.turnedL {t':Nat} {ch:List Addr} (I:Inv X pins σ H s) (hf:∀ b∈ch,qof X pins H b) (k:∀ b u,b ∉ ch->s.heap.get? b=some u->h'.get? b=some u):Inv X pins σ H { s with heap:=h',toks:=t' }:=by
 have nch:∀ b u,H b=some u->b ∉ ch:=λb u e z=>by rw[(hf b z).1] at e;cases e
 refine I.step (g':=s.gens) (d':=s.drawn) (ch:=ch) (λb hb=>⟨(hf b hb).2.2.2.1,(hf b hb).2.1,(hf b hb).2.2.2.2.1,(hf b hb).2.2.2.2.2⟩) (λb o _ _ hc e _=>k b o hc e) (λb o _ _ hc e _=>⟨o.slots,k b o hc e⟩)
  (λ_ _ _ _ n=>n) (λb o hc e=>⟨o,k b o hc e⟩) (λ_ _ e=>e) (λ_ _ _ e=>e) (λb ps e=>⟨#[],by rw[e];simp⟩) (λm hm=>?_) (λb u e=>?_) I.bare
 ·obtain ⟨o,es,ep,ho,r⟩:=hm
  exact ⟨o,es,ep,k _ o (λz=>(hf _ z).2.1 rfl) ho,r⟩
 ·refine (I.hok b u e).stay (λc v hc q=>k c v ?_ q) (λ_ q=>q) λ_ _ q=>q
  rcases hc with z|z
  ·rw[z];exact nch b u e
  ·exact nch c _ z
end
def Itz (K:Frag) (a b:Addr):It:=
 ⟨λi H=>∃ xs ys x y,SqL K H a xs/\SqL K H b ys/\xs[i]?=some x/\ys[i]?=some y,
   λi H v H'=>∃ p,v=.ref p/\H p=none/\∀ xs ys x y,SqL K H a xs->SqL K H b ys->xs[i]?=some x->ys[i]?=some y->H'=upd H p (.tup [x,y]),
   λi H=>∃ xs ys,SqL K H a xs/\SqL K H b ys/\(xs.length<=i\/ys.length<=i)⟩
theorem qap {h:Heap} {a b:Addr} {o u:Obj} (e:h.get? a=some o) (e':h.get? b=some u) (d:o.cls≠u.cls):a≠b:=λz=>by
 subst z;rw[e] at e';exact d (congrArg Obj.cls (AJ e'))
theorem qzv:Value.type "tuple" ≠ Value.type "zip" :=by decide
theorem qx2:Value.type "list_iterator" ≠ Value.type "zip" :=by decide
theorem qoo:Value.type "tuple" ≠ Value.type "list_iterator" :=by decide
theorem qAm:Value.type "list" ≠ Value.type "zip" :=by decide
theorem qAn:Value.type "list" ≠ Value.type "tuple" :=by decide
theorem qr1:Value.type "list" ≠ Value.type "list_iterator" :=by decide
theorem qu5 {P:Program} {w:World} {K:Frag} {elts:List Expr} {ek:Nat} {epos:Pos} (a b z TI TO i1 i2:Addr) (d1:TI≠TO) (d2:i1≠i2) :
  Turn P w K (.Tuple elts ek epos) (Itz K a b) [z,TI,TO,i1,i2] z (λi h=>IsZip h z TI TO .none/\IsPair h TI (.ref i1) (.ref i2)/\(∃ x y,IsPair h TO x y)/\h.IsListIter i1 a i/\h.IsListIter i2 b i) where
 mem:=by simp
 obj:=λi h st c hc=>by
  obtain ⟨hz,hTI,⟨x,y,hTO⟩,⟨o1,e1,c1,f1⟩,⟨o2,e2,c2,f2⟩⟩:=st;simp only[Ak,AF,Bu] at hc
  rcases hc with rfl|rfl|rfl|rfl|rfl
  ·exact ⟨_,hz,λv q=>by have q':Data.fields _=Data.cell v:=q;cases q'⟩
  ·exact ⟨_,hTI,λv q=>by have q':Data.seq _ _=Data.cell v:=q;cases q'⟩
  ·exact ⟨_,hTO,λv q=>by have q':Data.seq _ _=Data.cell v:=q;cases q'⟩
  ·exact ⟨_,e1,λv q=>by rw[f1] at q;cases q⟩
  ·exact ⟨_,e2,λv q=>by rw[f2] at q;cases q⟩
 keep:=λi h h' st k=>by
  obtain ⟨hz,hTI,⟨x,y,hTO⟩,h1,h2⟩:=st;exact ⟨k z (by simp) _ hz,k TI (by simp) _ hTI,⟨x,y,k TO (by simp) _ hTO⟩,h1.at λo e=>k i1 (by simp) o e,h2.at λo e=>k i2 (by simp) o e⟩
 item:=by
  intro X hP hw hK hc i pins s σ H E I hf st hg;subst hP hw hK;obtain ⟨xs,ys,x,y,qa,qb,hx,hy⟩:=hg;obtain ⟨hz,hTI,⟨x0,y0,hTO⟩,h1,h2⟩:=st;obtain ⟨itsA,rA,pA,zA⟩:=I.list qa;obtain ⟨itsB,rB,pB,zB⟩:=I.list qb;obtain ⟨u,hu,ru⟩:=rA.get hx;obtain ⟨u',hu',ru'⟩:=rB.get hy;have D:ZipApart z TI TO i1 i2 a b:=by
   obtain ⟨o1,e1,c1,f1⟩:=id h1;obtain ⟨o2,e2,c2,f2⟩:=id h2;obtain ⟨oa,na,ea,ca,_,fa⟩:=id pA;obtain ⟨ob,nb,eb,cb,_,fb⟩:=id pB;exact ⟨qap hTI hz qzv,qap hTO hz qzv,qap e1 hz (by rw[c1];exact qx2),qap e2 hz (by rw[c2];exact qx2),d1,qap hTI e1 (by rw[c1];exact qoo),qap hTI e2 (by rw[c2];exact qoo),
    qap hTO e1 (by rw[c1];exact qoo),qap hTO e2 (by rw[c2];exact qoo),d2,qap ea hz (by rw[ca];exact qAm),qap ea hTO (by rw[ca];exact qAn),qap ea e1 (by rw[ca,c1];exact qr1),qap ea e2 (by rw[ca,c2];exact qr1),
    qap eb hz (by rw[cb];exact qAm),qap eb hTO (by rw[cb];exact qAn),qap eb e1 (by rw[cb,c1];exact qr1),qap eb e2 (by rw[cb,c2];exact qr1)⟩
  refine wpAny_pyNext_zip_item D hz hTI hTO h1 h2 pA.isList pB.isList (x:=u) (y:=u') (by simpa using hu) (by simpa using hu') λh' a1 a2 a3 a4 a5 a6 hk=>?_
  refine ⟨.ref s.heap.objs.size,rfl,Es a1 λh'' hz'' sb=>?_⟩;have lz:z<s.heap.objs.size:=Am hz;have nz:s.heap.objs.size≠z:=Cn lz;have k2:∀ c o,c ∉ [z,TI,TO,i1,i2]->s.heap.get? c=some o->h''.get? c=some o:=λc o hc e=>by
   simp only[Ak,AF,Bu,C3] at hc;exact sb.extBut _ _ hc.1 (hk c o hc.1 hc.2.2.1 hc.2.2.2.1 hc.2.2.2.2 e)
  have T2:IsPair h'' s.heap.objs.size u u':=sb.extBut _ _ nz a5;refine ⟨.ref s.heap.objs.size,upd H s.heap.objs.size (.tup [x,y]),I.turnedLaid (t':=s.toks) (ch:=[z,TI,TO,i1,i2]) hf k2 (Ag _) ⟨by show 2<=sizeLine;decide,[u,u'],.cons ru (.cons ru' .nil),_,T2,rfl,_,rfl⟩,rfl,⟨_,rfl,I.hok.fresh (Ag _),λxs' ys' x' y' qa' qb' hx' hy'=>?_⟩,⟨hz'',sb.extBut _ _ D.TIz (hk _ _ D.TIz D.TITO D.TIi1 D.TIi2 hTI),⟨_,_,sb.extBut _ _ D.TOz a2⟩,a3.extBut sb.extBut D.i1z,a4.extBut sb.extBut D.i2z⟩,λb hb=>?_⟩
  ·rw[I.list_inj qa' qa,hx] at hx'
   rw[I.list_inj qb' qb,hy] at hy'
   cases hx';cases hy';rfl
  ·have e:b≠s.heap.objs.size:=λq=>by
    have:∃ o,s.heap.get? b=some o:=by
     simp only[Ak,AF,Bu] at hb;obtain ⟨o1,e1,_⟩:=id h1;obtain ⟨o2,e2,_⟩:=id h2
     rcases hb with rfl|rfl|rfl|rfl|rfl
     ·exact ⟨_,hz⟩
     ·exact ⟨_,hTI⟩
     ·exact ⟨_,hTO⟩
     ·exact ⟨_,e1⟩
     ·exact ⟨_,e2⟩
    obtain ⟨o,e⟩:=this;exact absurd (Am e) (by rw[q];exact BC _)
   rw[qas e];exact (hf b hb).1
 done:=by
  intro X hP hw hK hc i pins s σ H E I hf st hg;subst hP hw hK;obtain ⟨xs,ys,qa,qb,hx⟩:=hg;obtain ⟨hz,hTI,⟨x0,y0,hTO⟩,h1,h2⟩:=st;obtain ⟨itsA,rA,pA,zA⟩:=I.list qa;obtain ⟨itsB,rB,pB,zB⟩:=I.list qb;have D:ZipApart z TI TO i1 i2 a b:=by
   obtain ⟨o1,e1,c1,f1⟩:=id h1;obtain ⟨o2,e2,c2,f2⟩:=id h2;obtain ⟨oa,na,ea,ca,_,fa⟩:=id pA;obtain ⟨ob,nb,eb,cb,_,fb⟩:=id pB;exact ⟨qap hTI hz qzv,qap hTO hz qzv,qap e1 hz (by rw[c1];exact qx2),qap e2 hz (by rw[c2];exact qx2),d1,qap hTI e1 (by rw[c1];exact qoo),qap hTI e2 (by rw[c2];exact qoo),
    qap hTO e1 (by rw[c1];exact qoo),qap hTO e2 (by rw[c2];exact qoo),d2,qap ea hz (by rw[ca];exact qAm),qap ea hTO (by rw[ca];exact qAn),qap ea e1 (by rw[ca,c1];exact qr1),qap ea e2 (by rw[ca,c2];exact qr1),
    qap eb hz (by rw[cb];exact qAm),qap eb hTO (by rw[cb];exact qAn),qap eb e1 (by rw[cb,c1];exact qr1),qap eb e2 (by rw[cb,c2];exact qr1)⟩
  have lA:=rA.length;have lB:=rB.length;refine wpAny_pyNext_zip_end (I.ok.hd hc) D hz hTI hTO h1 h2 pA.isList pB.isList (hx.imp (λq=>by simp;omega) λq=>by simp;omega) λh' hk=>⟨rfl,I.turnedL (t':=s.toks) (ch:=[z,TI,TO,i1,i2]) hf λc o hc e=>?_⟩
  simp only[Ak,AF,Bu,C3] at hc;exact hk c o hc.1 hc.2.2.1 hc.2.2.2.1 hc.2.2.2.2 e
 self:=λ_ _ _ _ _ st h=>Dg st.1 h
section
variable {X:Cx}
def qEr (K:Frag) (ta:TA):TI:=λσ H R=>ta σ H λvs H1=>∃ a b xs ys,vs=[.ref a,.ref b]/\SqL K H1 a xs/\SqL K H1 b ys/\R (Itz K a b) H1
theorem qlp {elts:List Expr} {ek:Nat} {epos:Pos} {e1 e2:Expr} {ta:TA} {p pos:Pos} (hg:Gl X "zip") (hm:X.mg "zip" = none) (ha:PA X [e1,e2] ta)
  (hs:starEach [e1,e2] X.env=[(false,eval e1 X.env),(false,eval e2 X.env)]:=by rfl) (hs2:starEach [e2] X.env=[(false,eval e2 X.env)]:=by rfl) :
  PI X (.Tuple elts ek epos) (.Call (.Name "zip" p) [e1,e2] [] pos) (qEr X.K ta):=by
 intro pins s σ H R I h;refine Call_ (qjn I hg hm (show bootBuiltins "zip" = some (.type "zip") by decide +kernel) (Cf (thn (ha pos pins s σ H _ I h) λus s1 ⟨vs,H1,I1,r1,q1⟩=>?_) (by rw[hs,hs2]) (by rw[hs2];rfl)));obtain ⟨a,b,xs,ys,rfl,qa,qb,q⟩:=q1;obtain ⟨u,u',rfl,ru,ru'⟩:=vals2 r1
 cases (show u=Value.ref a from ru)
 cases (show u'=Value.ref b from ru')
 obtain ⟨itsA,rA,pA,zA⟩:=I1.list qa;obtain ⟨itsB,rB,pB,zB⟩:=I1.list qb;refine call_zip_2 pA.isList pB.isList λh' hz hTI hTO h1 h2 hsz hk=>Dg hz ?_
 refine ⟨s1.heap.objs.size+4,_,_,_,H1,rfl,I1.kept (t':=s1.toks) hk,qu5 a b _ (s1.heap.objs.size+2) (s1.heap.objs.size+3) s1.heap.objs.size (s1.heap.objs.size+1) (Av (BU _)) (Av (BU _)),⟨hz,hTI,⟨_,_,hTO⟩,h1,h2⟩,λc hc=>?_,q⟩;have e:s1.heap.objs.size<=c:=by
  simp only[Ak,AF,Bu] at hc
  rcases hc with rfl|rfl|rfl|rfl|rfl
  ·exact BF _ _
  ·exact BF _ _
  ·exact BF _ _
  ·exact Ag _
  ·exact BF _ _
 exact I1.fpOk e (I1.hok.fresh e)
end
theorem qx3 {K:Frag} {a b:Addr} {xs ys:List V} {g:TG} {tb:TS} {D:Ends} {σ:St} {H:Hp} (Pv:Nat->St->Hp->Prop) (h0:Pv 0 σ H) (hl:∀ i σ H,Pv i σ H->SqL K H a xs/\SqL K H b ys)
  (hs:∀ i x y σ H p,xs[i]?=some x->ys[i]?=some y->H p=none->Pv i σ H->g (.ref p) σ (upd H p (.tup [x,y])) λσ2 H2=>tb { D with nx:=Pv (i+1),ct:=Pv (i+1),bk:=D.nx } σ2 H2)
  (hd:∀ i σ H,i=min xs.length ys.length->Pv i σ H->D.nx σ H) :
  ∃ W:Nat->Nat->St->Hp->Prop,(∃ m,W 0 m σ H)/\∀ i m σ H,W i m σ H ->
   ((Itz K a b).stop i H/\D.nx σ H)\/((Itz K a b).go i H/\∃ N:St->Hp->Prop,(∀ σ' H',N σ' H'->∃ m',m'<m/\W (i+1) m' σ' H')/\∀ x H',(Itz K a b).yld i H x H'->g x σ H' λσ2 H2=>tb { D with nx:=N,ct:=N,bk:=D.nx } σ2 H2):=by
 refine ⟨λi m σ H=>m=min xs.length ys.length-i/\i<=min xs.length ys.length/\Pv i σ H,⟨min xs.length ys.length,by simp,AW _,h0⟩,?_⟩;rintro i m σ H ⟨rfl,hi,p⟩;obtain ⟨qa,qb⟩:=hl i σ H p
 by_cases hlt:i<min xs.length ys.length
 ·have ha:i<xs.length:=by omega
  have hb:i<ys.length:=by omega
  refine .inr ⟨⟨xs,ys,xs[i],ys[i],qa,qb,by simp[ha],by simp[hb]⟩,Pv (i+1),λσ' H' p'=>⟨min xs.length ys.length-(i+1),by omega,rfl,hlt,p'⟩,λx H' y=>?_⟩;obtain ⟨t,rfl,ht,y⟩:=y;have ea:xs[i]?=some xs[i]:=by simp[ha]
  have eb:ys[i]?=some ys[i]:=by simp[hb]
  rw[y xs ys xs[i] ys[i] qa qb ea eb];exact hs i xs[i] ys[i] σ H t ea eb ht p
 ·exact .inl ⟨⟨xs,ys,qa,qb,by omega⟩,hd i σ H (by omega) p⟩
structure FunD (K:Frag) (x qual:Str) (st:Stmt) (dV:Value) (f:Addr) (fd:FuncData):Prop where
 ex:∃ (oc:Value) (od:Option Addr) (kV doc pm:Value) (an:Option Addr) (cdv ct:Value) (osl:Array (Option Value)),
  fd=fnOf x qual (qcd st) (qby st) (qab st) dV kV doc pm an cdv ct/\K.lookup f=some ⟨oc,od,.func fd,osl⟩/\codeIn K cdv qual=true
 kp:keepIn K (.ref f)=true
section
variable {P:Program} {w:World} {K:Frag} {mg:Str->Option Value} {base:Heap}
theorem qga {fd:FuncData} {ps:List Str} {ds:List Value} {T:Addr} {o:Obj} {items:Array Value} {n:Nat} (hd:fd.defaults=.ref T) (lk:K.lookup T=some o) (hs:o.data=.seq items n)
  (h:∀ us:List Value,(us ++ ds).length=ps.length->∃ k,bindArgs fd ⟨us,[]⟩=seqItems? fd.defaults >>= k/\k (some items)=pure (ps.zip (us ++ ds))):Binds K fd ps ds:=λs us kin hl=>by
 obtain ⟨k,h1,h2⟩:=h us hl;exact .of_defaults hd (kin _ _ lk) hs h1 h2
end
def qba (P:Program) (w:World) (K:Frag) (mg:Str->Option Value) (base:Heap) (k:Nat) (x:Str) (ps:List Str) (sp:Sp):Prop:=
 ∃ f fd,qf7 P w K mg base CX0 k f fd ps sp/\mg x=some (.ref f)/\keepIn K (.ref f)=true/\Binds K fd ps []
def qez (P:Program) (w:World) (K:Frag) (mg:Str->Option Value) (base:Heap) (C:Addr) (k:Nat) (m:Str) (ps:List Str) (sp:Sp):Prop:=
 ∃ f fd,qf7 P w K mg base CX0 k f fd ps sp/\qrn K C m f/\Binds K fd ps []
def qC4 (P:Program) (w:World) (K:Frag) (mg:Str->Option Value) (base:Heap) (C:Addr) (k:Nat) (x:Str) (ps:List Str) (ds:List Value) (sp:Sp):Prop:=
 ∃ f fd,qf7 P w K mg base CX0 k f fd ps sp/\mg x=some (.ref C)/\Mk K C f/\Binds K fd ps ds
section
variable {X:Cx} {k:Nat} {C:Addr} {ps:List Str} {sp:Sp} {dvs:List V} {ds:List Value} {x m:Str} {p pos apos:Pos} {e o:Expr} {es:List Expr} {ta:TE} {t:TA}
theorem qC5 (D:qba X.prog X.w X.K X.mg X.base k x ps sp) (hr:Room k X.A) (hg:Gl X x) (ha:PA X (e :: es) t) (hdb:(x == ("__debug__" : Str))=false:=by decide)
  (he:starEach (e :: es) X.env=(false,eval e X.env) :: starEach es X.env:=by rfl) (hpl:(backTo pos (starEach es X.env)).any (·.1)=false:=by rfl):PE X (.Call (.Name x p) (e :: es) [] pos) (qxo sp [] E0 t):=by
 obtain ⟨f,fd,F,hm,hk,hb⟩:=D;exact qxp F hr hg hm hk hb .nil qu4 ha hdb he hpl
end
open PySem PySem.Spec PyProof.Rows
section
variable {X:Cx} {k:Nat} {C:Addr} {ps:List Str} {sp:Sp} {x m:Str} {p pos apos:Pos} {e o:Expr} {es:List Expr} {ta:TE} {t:TA}
theorem qr2 {pl:Sem Bool} (he:PE X o ta) (c:Cls X.K C) (D:qez X.prog X.w X.K X.mg X.base C k m ps sp) (hr:Room k X.A) (ha:PA X (e :: es) t)
  (hst:starEach (e :: es) X.env=(false,eval e X.env) :: starEach es X.env:=by rfl) (hpl:(backTo pos (starEach es X.env)).any (·.1)=false:=by rfl)
  (ht:eval (.Call (.Attribute o m apos) (e :: es) [] pos) X.env=(do
   let ov <- eval o X.env
   standAt apos.atName
   let (f,first) <- holding [ov] (getMethod ov m pl)
   callWith pos f first (backTo pos (starEach (e :: es) X.env)) (backToKw pos (keywordEach [] X.env))):=by rfl) :
  PE X (.Call (.Attribute o m apos) (e :: es) [] pos) (quu C m sp [] E0 ta t):=by
 obtain ⟨f,fd,F,hm,hb⟩:=D;exact qxq (pl:=pl) he c hm F hr hb .nil qu4 ha hst hpl ht
theorem qa0 {pl:Sem Bool} (he:PE X o ta) (c:Cls X.K C) (D:qez X.prog X.w X.K X.mg X.base C k m ps sp) (hr:Room k X.A)
  (ht:eval (.Call (.Attribute o m apos) [] [] pos) X.env=(do
   let ov <- eval o X.env
   standAt apos.atName
   let (f,first) <- holding [ov] (getMethod ov m pl)
   callWith pos f first (backTo pos (starEach [] X.env)) (backToKw pos (keywordEach [] X.env))):=by rfl) :
  PE X (.Call (.Attribute o m apos) [] [] pos) (quu C m sp [] E0 ta qf6):=by
 obtain ⟨f,fd,F,hm,hb⟩:=D;exact quv (pl:=pl) he c hm F hr hb .nil qu4 ht
end
section
variable {P:Program} {w:World} {K:Frag} {mg:Str->Option Value} {base:Heap}
theorem Fun.def_ {x:Str} {st:Stmt} {f:Addr} {fd:FuncData} {ps:List Str} {k:Nat} {sp:Sp} (F:Fun K x x st f fd) (hm:mg x=some (.ref f)) (hf:qf7 P w K mg base CX0 k f fd ps sp) (hb:Binds K fd ps []):qba P w K mg base k x ps sp:=
 ⟨f,fd,hf,hm,F.kp,hb⟩
end
theorem qcj:bootBuiltins "len" = some (.builtin "len"):=by decide +kernel
theorem qbv:bootBuiltins "isinstance" = some (.builtin "isinstance"):=by decide +kernel
theorem qwg:bootBuiltins "sum" = some (.builtin "sum"):=by decide +kernel
theorem qce:bootBuiltins "list" = some (.type "list"):=by decide +kernel
theorem qu6:bootBuiltins "tuple" = some (.type "tuple"):=by decide +kernel
theorem qwh:bootBuiltins "int" = some (.type "int"):=by decide +kernel
theorem qx4:bootBuiltins "bool" = some (.type "bool"):=by decide +kernel
theorem qAo:bootBuiltins "str" = some (.type "str"):=by decide +kernel
theorem qhw (K:Frag):PySem.W.kitOne K (.type "int") (.type "int")=some true:=by rfl
theorem qgo (K:Frag):PySem.W.kitOne K (.type "int") (.type "bool")=some false:=by rfl
theorem qu7 (K:Frag):PySem.W.kitOne K (.type "list") (.type "list")=some true:=by rfl
theorem kit_tuple (K:Frag):PySem.W.kitOne K (.type "tuple") (.type "tuple")=some true:=by rfl
theorem qdu {H:Hp} {p:Addr} {o:HO} (h:H p=none):Same H (upd H p o):=λb u e=>by rw[qas (qac e h)];exact e
open PySem PySem.Spec PyProof.Rows
def blk (X:Cx) (Nc:List Str) (scope:Scope) (cl:List (Str×Addr)) (C:Addr) (s:Shared) (H:Hp) (ex:List Addr):Cx where
 prog:=X.prog
 w:=X.w
 K:=X.K
 mg:=X.mg
 base:=X.base
 A:=X.A
 N:=Nc
 s₀:=s
 H₀:=H
 env:=compEnvC scope cl C X.env
 outer:=X.stack
 stack:=X.stack
 ex:=ex
 fn:=λ_=>false
 calm:=X.calm
 pn:=[]
 xe:=λ_ _=>False
structure qwi (X:Cx) (scope:Scope) (cl:List (Str×Addr)):Prop where
 clos:closureFor scope X.env=pure cl
 kind:scope.kind=.function
 nocell:∀ y∈scope.names,y.2≠.cell
 names:∀ y∈scope.names,y.2=.local->scope.names.lookup y.1=some .local
 sub:∀ x c,cl.lookup x=some c->X.env.cells.lookup x=some c
 has:∀ x,((relabel scope X.env).names.lookup x=some .cell\/(relabel scope X.env).names.lookup x=some .free)->∃ c,cl.lookup x=some c
def FvOk (X:Cx) (scope:Scope) (cl:List (Str×Addr)):List Str->List Nat->Prop
 | [],[]=>True
 | x :: xs,j :: js=>(X.N[j]?=some x/\(X.env.kindOf x=some .cell\/X.env.kindOf x=some .free)/\cl.lookup x=X.env.cells.lookup x /\
   ((relabel scope X.env).names.lookup x=some .cell\/(relabel scope X.env).names.lookup x=some .free))/\FvOk X scope cl xs js
 | _,_=>False
def lcσ (nv:Nat) (fv:List Nat) (σ:St):St:=List.replicate nv none ++ fv.map λj=>(σ[j]?).join
theorem FvOk.len {X:Cx} {scope:Scope} {cl:List (Str×Addr)}:∀ {xs:List Str} {js:List Nat},FvOk X scope cl xs js->xs.length=js.length
 | [],[],_=>rfl
 | _ :: _,_ :: _,h=>by simp[FvOk.len h.2]
 | [],_ :: _,h=>h.elim
 | _ :: _,[],h=>h.elim
theorem FvOk.get {X:Cx} {scope:Scope} {cl:List (Str×Addr)}:∀ {xs:List Str} {js:List Nat} {k:Nat} {x:Str} {j:Nat},FvOk X scope cl xs js->xs[k]?=some x->js[k]?=some j ->
  X.N[j]?=some x/\(X.env.kindOf x=some .cell\/X.env.kindOf x=some .free)/\cl.lookup x=X.env.cells.lookup x/\((relabel scope X.env).names.lookup x=some .cell\/(relabel scope X.env).names.lookup x=some .free)
 | [],[],_,_,_,_,e,_=>by simp at e
 | _ :: _,_ :: _,0,_,_,h,e,e'=>by simp at e e';subst e;subst e';exact h.1
 | _ :: _,_ :: _,k+1,x,j,h,e,e'=>FvOk.get (k:=k) h.2 (by simpa using e) (by simpa using e')
 | [],_ :: _,_,_,_,h,_,_=>h.elim
 | _ :: _,[],_,_,_,h,_,_=>h.elim
abbrev qam:Obj:={ cls:=.type "list",dict:=none,data:=.seq ([]:List Value).toArray }
theorem ltS {h:Heap} {b:Addr} {o:Obj} (e:h.get? b=some o):b≠(h.push qam).objs.size:=Av (by rw[Bp];exact CH (Am e))
theorem neS {h:Heap}:h.objs.size≠(h.push qam).objs.size:=Av (by rw[Bp];exact BU _)
theorem leS {h:Heap}:h.objs.size<=(h.push qam).objs.size:=by rw[Bp];exact Ci _
theorem neZ {h:Heap} {b:Addr} {o:Obj} (e:h.get? b=some o):b≠h.objs.size:=Av (Am e)
section
variable {X:Cx} {pins:List (Addr×Obj)} {σ:St} {H:Hp} {s:Shared} {scope:Scope} {cl:List (Str×Addr)} {vars frees:List Str} {fv:List Nat} {fp:List Addr}
theorem qx5 {h':Heap} {t':Nat} (I:Inv X pins σ H s) (L:qwi X scope cl) (fo:FvOk X scope cl frees fv) (hf:∀ b∈fp,qof X pins H b) (ho:∀ b∈fp,∃ o,s.heap.get? b=some o)
  (hns:h'.Ns (s.heap.push qam).objs.size (λ_=>none)) (hsb:∀ b o,b≠(s.heap.push qam).objs.size->(s.heap.push qam).get? b=some o->h'.get? b=some o) :
  Inv (blk X (vars ++ frees) scope cl (s.heap.push qam).objs.size { s with heap:=s.heap.push qam } H (s.heap.objs.size :: fp)) [(s.heap.objs.size,qam)] (lcσ vars.length fv σ) H { s with heap:=h',toks:=t' }:=by
 have hC:(s.heap.push qam).objs.size=s.heap.objs.size+1:=Bp ..;have hlt:∀ {b:Addr} {o:Obj},s.heap.get? b=some o->b<s.heap.objs.size:=λe=>Am e
 have old:∀ b o,s.heap.get? b=some o->h'.get? b=some o:=λb o e=>hsb b o (ltS e) (Ab _ e)
 have hD:h'.get? s.heap.objs.size=some qam:=hsb _ _ neS (Ao _ rfl);have stk:∀ b∈frs X.stack,b<s.heap.objs.size/\b ∉ fp:=λb hb=>by
  rcases Ak.mp (I.stkSub b hb) with z|z
  ·exact ⟨by rw[z];exact I.lt,λq=>(hf b q).2.1 z⟩
  ·refine ⟨?_,λq=>(hf b q).2.2.1 z⟩
   apply Nat.lt_of_not_le
   intro q;exact I.nofs q z
 have cellL:∀ x c,cl.lookup x=some c->c<s.heap.objs.size:=λx c e=>by
  obtain ⟨v,q⟩:=I.cell x c (L.sub x c e);exact q.lt
 refine ⟨⟨I.ok.mod,L.kind,I.ok.glob,I.ok.blt,Ag _,λx y c e1 e2=>I.ok.inj x y c (L.sub x c e1) (L.sub y c e2),λx h=>L.has x h,(λx c z=>nomatch z),I.ok.hd,I.ok.frames,.inl rfl,λb hb=>?_,λb o e=>?_,?_,λb o e hb=>?_,λb hb hq=>?_,?_,λb hb=>I.stkFree b hb⟩,
  rfl,I.bare,Un.kept λb u e=>?_,⟨_,hns,λi x v e1 e2 e3=>?_⟩,λx c e=>?_,?_,λx c e=>I.freeC x c (L.sub x c e),λp hp=>?_,I.hok.kept old,?_⟩
 ·
  refine ⟨?_,λx c e z=>?_⟩
  ·show b≠(s.heap.push qam).objs.size
   rcases Ak.mp hb with z|z
   ·rw[z];exact neS
   ·obtain ⟨o,e⟩:=ho b z
    exact ltS e
  ·rcases Ak.mp hb with q|q
   ·exact Av (cellL x c e) (z.trans q)
   ·exact (hf b q).2.2.2.2.1 x c (L.sub x c e) z
 ·exact ⟨Ab _ (I.bs b o e).1,(I.bs b o e).2⟩
 ·exact AR (AR I.ok.bsz I.sz) leS
 ·
  rcases Ak.mp hb with q|q
  ·exact neZ (I.bs b o e).1 q
  ·rcases (hf b q).2.2.2.1 with z|z
   ·exact I.ok.noex b o e z
   ·exact absurd (AK (Am (I.ok.bs b o e).1) z) (BC _)
 ·
  obtain ⟨h1,h2⟩:=stk b hq
  rcases Ak.mp hb with q|q
  ·exact Av h1 q
  ·exact h2 q
 ·exact Heap.FunFrames.of_keeps (λb o e _=>⟨o,Ab _ e,rfl⟩) I.stack
 ·exact hsb b u (Av (Am e)) e
 ·
  obtain ⟨m,hn,hl⟩:=I.loc;have hi:vars.length<=i:=by
   apply Nat.le_of_not_lt
   intro z;rw[show lcσ vars.length fv σ=List.replicate vars.length none ++ fv.map λj=>(σ[j]?).join from rfl,AS (by simpa using z),D5 (by simpa using z)] at e2;cases e2
  obtain ⟨k,rfl⟩:∃ k,i=vars.length+k:=⟨i-vars.length,by omega⟩;have e1':frees[k]?=some x:=by
   have e1'':(vars ++ frees)[vars.length+k]?=some x:=e1;rw[BE (by omega)] at e1''
   simpa using e1''
  have e2':(fv.map λj=>(σ[j]?).join)[k]?=some (some v):=by
   rw[show lcσ vars.length fv σ=List.replicate vars.length none ++ fv.map λj=>(σ[j]?).join from rfl,BE (by simp)] at e2
   simpa using e2
  rw[Ay] at e2';obtain ⟨j,hj,ej⟩:=AH.mp e2';have ej':σ[j]?=some (some v):=by
   cases q:σ[j]? with
   | none=>rw[q] at ej;cases ej
   | some y=>rw[q] at ej;exact congrArg some ej
  obtain ⟨f1,f2,f3,f4⟩:=fo.get e1' hj;obtain ⟨u,ru,lk⟩:=hl j x v f1 ej' (f2.elim (λz=>.inr (.inl z)) λz=>.inr (.inr z));refine ⟨u,ru,.inr ⟨f4,?_⟩⟩
  rcases lk with ⟨z,_⟩|⟨_,c,hc,o,q,d⟩
  ·rcases f2 with y|y<;>rw[y] at z<;>cases z
  ·exact ⟨c,f3.trans hc,o,old c o q,d⟩
 ·obtain ⟨v,o,q,d⟩:=I.cell x c (L.sub x c e)
  exact ⟨v,o,old c o q,d⟩
 ·exact I.hok.fresh leS
 ·have e:p=(s.heap.objs.size,qam):=by
   have hp':p∈([]:List (Addr×Obj)) ++ [(s.heap.objs.size,qam)]:=hp
   simpa using hp'
  subst e;refine ⟨hD,I.hok.fresh (Ag _),neS,λq=>?_,λv q=>by have q':Data.seq _ _=Data.cell v:=q;cases q'⟩;exact BC _ (stk _ q).1
 ·show (lcσ vars.length fv σ).length=(vars ++ frees).length
  simp[lcσ,fo.len]
end
def qzw (X:Cx) (ifs:List Expr) (t:TT):Prop:=
 ∀ (pins:List (Addr×Obj)) (s:Shared) (σ:St) (H:Hp) (Q:Bool->Hp->Prop),Inv X pins σ H s->t σ H Q ->
  wpAny (model X.prog X.w) X.A (forIn ifs true λc r=>if r=true then do let ok <- isTrue c X.env (eval c X.env);pure (ForInStep.yield ok) else pure (ForInStep.yield r)) (TP X pins σ Q) X.xe s
def qC6:TT:=λ_ H Q=>Q true H
theorem qop {σ:St} {H:Hp} {Q:Bool->Hp->Prop} (h:Q true H):qC6 σ H Q:=h
theorem qbg {X:Cx}:qzw X [] qC6:=λ_ _ _ H _ I h=>wpAny_tests_nil ⟨H,I,h⟩
theorem qr3 {X:Cx} {c:Expr} {t:TT} (h:PT X c t):qzw X [c] t:=λpins s σ H Q I q=>wpAny_tests_one (h pins s σ H Q I q)
def qfp (J:It) (Q:VK) (g:TG) (tc:TT) (te:TE) (σc:St) (H1:Hp):Prop:=∃ W:Nat->Nat->List V->Hp->Prop,(∃ m,W 0 m [] H1)/\∀ i m ys H2,W i m ys H2 ->
 (J.stop i H2/\ys.length<=sizeLine/\∀ p,H2 p=none->Q (.ref p) (upd H2 p (.lst ys))) \/
 (J.go i H2/\ys.length<sizeLine/\∃ N:List V->Hp->Prop,(∀ zs H',N zs H'->∃ m',m'<m/\W (i+1) m' zs H')/\∀ x H3,J.yld i H2 x H3->g x σc H3 λσ4 H4=>tc σ4 H4 λb H5=>if b=true then te σ4 H5 λv H6=>N (ys ++ [v]) H6 else N ys H5)
def tLC (nv:Nat) (fv:List Nat) (wi:TI) (g:TG) (tc:TT) (te:TE):TE:=λσ H Q=>wi σ H λJ H1=>qfp J Q g tc te (lcσ nv fv σ) H1
theorem qqd {prog:Program} {w:World} {A:Around} {R:Result->Shared->Prop} {s:Shared} {elt target iter:Expr} {ifs:List Expr} {scope:Scope} {pos:Pos} {it acc:Value} {env:Env} (I:Nat->Shared->Prop)
  (turn:∀ n s,I n s->wpAny (model prog w) A (pyNext it) (λr s₁=>match r with
   | none=>R (.ok .next) s₁
   | some v=>wpAny (model prog w) A (letOwnedTupleGo target it v) (λ_ s₁'=>wpAny (model prog w) A (assign target env v) (λ_ s₂ =>
     wpAny (model prog w) A (forIn ifs true λc r=>if r=true then do let ok <- isTrue c env (eval c env);pure (ForInStep.yield ok) else pure (ForInStep.yield r)) (λok s₃ =>
      if ok=true then wpAny (model prog w) A (eval elt env) (λx s₄ =>
       wpAny (model prog w) A (call (.builtin "list.append") [acc,x]) (λ_ s₅=>∃ m,m<n/\I m s₅) (notedBy (model prog w) A env λe s'=>R (.error e) s') s₄) (notedBy (model prog w) A env λe s'=>R (.error e) s') s₃
      else ∃ m,m<n/\I m s₃) (notedBy (model prog w) A env λe s'=>R (.error e) s') s₂) (notedBy (model prog w) A env λe s'=>R (.error e) s') s₁') (notedBy (model prog w) A env λe s'=>R (.error e) s') s₁) (notedBy (model prog w) A env λe s'=>R (.error e) s') s)
  (n:Nat) (h:I n s):codeAny (model prog w) A (.compLoop (.ListComp elt [⟨target,iter,ifs,0⟩] scope pos) 0 it acc env) R s:=by
 refine codeAny_loop rfl I (λn s hI=>?_) n h
 show wpAny _ A ((compTurn (.ListComp elt [⟨target,iter,ifs,0⟩] scope pos) 0 it acc env).onRaise (λx=>do noteFrame x env;theTreesLotGoes x)) _ _ s
 refine wpAny_noted ?_;rw[compTurn_list];refine Aa (Df (Aa (A7 (turn n s hI) (λr s₁ h₁=>?_) λ_ _ h'=>h')))
 cases r with
 | none=>exact Ae h₁
 | some v =>
  refine Aa (A7 h₁ (λ_ s₁' h₁'=>?_) λ_ _ h'=>h');refine Aa (A7 h₁' (λ_ s₂ h₂=>Aa (A7 h₂ (λok s₃ h₃=>?_) λ_ _ h'=>h')) λ_ _ h'=>h')
  cases ok with
  | false=>exact Ae ⟨rfl,h₃⟩
  | true =>
   exact Aa (Aa (A7 h₃ (λx s₄ h₄=>Aa (A7 h₄ (λ_ s₅ h₅=>Ae (Ae ⟨rfl,h₅⟩)) λ_ _ h'=>h')) λ_ _ h'=>h'))
def qnk (nv:Nat) (g:TG):Prop:=∀ x σ H (K:St->Hp->Prop),g x σ H K->g x σ H λσ' H'=>K σ' H'/\σ'.length=σ.length/\∀ i,nv<=i->σ'[i]?=σ[i]?
theorem qec {nv i:Nat} (h:i<nv):qnk nv (qd7 i):=λx σ H K q=>⟨q,by simp,λj hj=>by rw[Bg (by omega)]⟩
theorem qdh {F:Frag} {nv i j:Nat} (hi:i<nv) (hj:j<nv):qnk nv (qxh F 2 (qd4 (qd7 i) (qd4 (qd7 j) qxg))):=λx σ H K ⟨a,xs,e,hq,hl,v,r,e1,v2,r2,e2,e3,q⟩ =>
 ⟨a,xs,e,hq,hl,v,r,e1,v2,r2,e2,e3,q,by simp,λk hk=>by rw[Bg (by omega),Bg (by omega)]⟩
abbrev lobj (us:List Value) (n:Nat):Obj:={ cls:=.type "list",data:=.seq us.toArray n }
theorem qx6 {Y:Cx} {D it:Addr} {J:It} {fp:List Addr} {tn:Nat->Heap->Prop} {g:TG} {tc:TT} {te:TE} {Q:VK} {W:Nat->Nat->List V->Hp->Prop} {nv n0 m0:Nat} {σc:St} {H:Hp} {s:Shared}
  {elt target iter:Expr} {ifs:List Expr} {scope:Scope} {pos:Pos} {R:Result->Shared->Prop} (hx:Y.xe=λ_ _=>False)
  (hc:Y.calm=true) (hg:PG Y target g) (hk:qnk nv g) (hi:qzw Y ifs tc) (he:PE Y elt te) (T:Turn Y.prog Y.w Y.K target J fp it tn)
  (hnv:∀ i,i<nv->∀ v,σc[i]?≠some (some v))
  (d1:D≠Y.env.locals) (d2:D∈Y.ex) (d3:D ∉ Y.fs) (d4:∀ x c,Y.env.cells.lookup x=some c->c≠D) (d5:D ∉ fp) (d6:Y.pn=[])
  (hf:∀ b∈fp,b≠Y.env.locals/\b ∉ Y.fs/\(b∈Y.ex\/Y.s₀.heap.objs.size<=b)/\(∀ x c,Y.env.cells.lookup x=some c->c≠b))
  (I0:Inv Y [(D,lobj [] n0)] σc H s) (st:tn 0 s.heap) (fr:∀ b∈fp,H b=none) (w0:W 0 m0 [] H)
  (turn:∀ i m ys H2,W i m ys H2->(J.stop i H2/\ys.length<=sizeLine/\∀ p,H2 p=none->Q (.ref p) (upd H2 p (.lst ys))) \/
   (J.go i H2/\ys.length<sizeLine/\∃ N:List V->Hp->Prop,(∀ zs H',N zs H'->∃ m',m'<m/\W (i+1) m' zs H')/\∀ x H3,J.yld i H2 x H3->g x σc H3 λσ4 H4=>tc σ4 H4 λb H5=>if b=true then te σ4 H5 λv H6=>N (ys ++ [v]) H6 else N ys H5))
  (hend:∀ ys us n H' s',Inv Y [(D,lobj us n)] σc H' s'->Vals ys us->ys.length<=sizeLine->(∀ p,H' p=none->Q (.ref p) (upd H' p (.lst ys)))->R (.ok .next) s') :
  codeAny (model Y.prog Y.w) Y.A (.compLoop (.ListComp elt [⟨target,iter,ifs,0⟩] scope pos) 0 (.ref it) (.ref D) Y.env) R s:=by
 have fpok:∀ {H':Hp} {o:Obj},(∀ b∈fp,H' b=none)->∀ b∈fp,qof Y [(D,o)] H' b:=fun {H' o} hn b hb=>by
  obtain ⟨f1,f2,f3,f4⟩:=hf b hb;refine ⟨hn b hb,f1,f2,f3,f4,λp hp=>?_⟩;rw[d6] at hp;have e:p=(D,o):=by simpa using hp
  rw[e];exact λz=>d5 (by rw[show D=b from z];exact hb)
 refine qqd (λn s'=>∃ i ys us k H',Inv Y [(D,lobj us k)] σc H' s'/\Vals ys us/\tn i s'.heap/\(∀ b∈fp,H' b=none)/\W i n ys H') ?_ m0 ⟨0,[],[],n0,H,I0,.nil,st,fr,w0⟩;rintro n s3 ⟨i,ys,us,k,H3,I3,rv,st3,fr3,w3⟩;have ex0:∀ {E':Value->Shared->Prop} {e:Value} {s':Shared},Y.xe e s'->E' e s':=fun {E' e s'} z=>by rw[hx] at z;exact z.elim
 rcases turn i n ys H3 w3 with ⟨stop,hz,q⟩|⟨go,hz,N,hN,step⟩
 ·refine thn (T.done Y rfl rfl rfl hc i _ s3 σc H3 _ I3 (fpok fr3) st3 stop) λr s4 hq__=>?_
  obtain ⟨hr,I4⟩:=hq__;subst hr;exact hend ys us k H3 s4 I4 rv hz q
 ·refine thn (T.item Y rfl rfl rfl hc i _ s3 σc H3 _ I3 (fpok fr3) st3 go) λr s4 hq__=>?_
  obtain ⟨u,hr,h4⟩:=hq__;subst hr;refine thn h4 λ_ s5 hq__=>?_
  obtain ⟨x,H5,I5,r5,y5,st5,fr5⟩:=hq__;have I5':=I5.pinned (fpok fr5) (T.obj _ _ st5);refine A7 (hg _ s5 σc H5 x u _ I5' r5 (hk x σc H5 _ (step x H5 y5))) (λ_ s6 hq__=>?_) λ_ _ z=>ex0 z
  obtain ⟨σ6,H6,I6,q6,l6,e6⟩:=hq__;have wk:∀ (i:Nat) v,σc[i]?=some (some v)->σ6[i]?=some (some v):=λi v e=>by
   by_cases h:nv<=i
   ·rw[e6 i h];exact e
   ·exact absurd e (hnv i (by omega) v)
  have back:∀ {o:Obj} {H':Hp} {s':Shared},Inv Y ([(D,o)] ++ qlc fp s5.heap) σ6 H' s'->Inv Y [(D,o)] σc H' s'/\tn (i+1) s'.heap/\∀ b∈fp,H' b=none:=fun {o H' s'} I'=>by
   refine ⟨(I'.unpinned).weak (by rw[<- l6]) wk,T.keep _ _ _ st5 λb hb o e=>(I'.pin (b,o) (AM _ (AM _ (qew hb e)))).1,λb hb=>?_⟩;obtain ⟨o,e,_⟩:=T.obj _ _ st5 b hb;exact (I'.pin (b,o) (AM _ (AM _ (qew hb e)))).2.1
  refine A7 (hi _ s6 σ6 H6 _ I6 q6) (λb s7 hq__=>?_) λ_ _ z=>ex0 z
  obtain ⟨H7,I7,q7⟩:=hq__
  cases b with
  | false =>
   obtain ⟨m',hm,w7⟩:=hN ys H7 q7;obtain ⟨I8,st8,fr8⟩:=back I7;exact ⟨m',hm,i+1,ys,us,k,H7,I8,rv,st8,fr8,w7⟩
  | true =>
   refine A7 (he _ s7 σ6 H7 _ I7 q7) (λu2 s8 hq__=>?_) λ_ _ z=>ex0 z
   obtain ⟨v,H8,I8,r8,n8⟩:=hq__;obtain ⟨m',hm,w8⟩:=hN _ H8 n8;obtain ⟨I9,st9,fr9⟩:=back I8;obtain ⟨eD,nD,_,_,_⟩:=I9.pin (D,lobj us k) (by simp);have hlen:=rv.length;refine call_meets F.slot_list_append ⟨_,eD,rfl⟩ F.entry_list_append (Fn _ _) (PySem.list_append D us.toArray k u2 (by rw[Ax];omega)) ⟨eD,?_⟩;have q:=PySem.IsL.update eD (λx_1=>x_1.push u2);have eq:us.toArray.push u2=(us ++ [u2]).toArray:=by simp
   rw[eq] at q;obtain ⟨n',q⟩:∃ n',(s8.heap.update D (Obj.mapSeq λx_1=>x_1.push u2)).get? D=some (lobj (us ++ [u2]) n'):=⟨_,q⟩;have I10:Inv Y [] σc H8 s8:=I9.pins_of λp hp=>by cases hp
   have I11:Inv Y [] σc H8 { s8 with heap:=s8.heap.update D (Obj.mapSeq λx_1=>x_1.push u2),toks:=s8.toks }:=
    I10.turned (it:=D) (λb o hb e=>(Bt s8.heap (Obj.mapSeq _) (AY hb)).trans e) nD d1 (.inl d2) d4 (λp hp=>by rw[d6] at hp;cases hp)
   refine ⟨m',hm,i+1,ys ++ [v],us ++ [u2],n',H8,I11.pins_of (λp hp=>?_),rv.append (.cons r8 .nil),?_,fr9,w8⟩
   ·have e:p=(D,lobj (us ++ [u2]) n'):=by simpa using hp
    subst e;exact ⟨q,nD,d1,d3,λv z=>by have z':Data.seq _ _=Data.cell v:=z;cases z'⟩
   ·refine T.keep _ _ _ st9 λb hb o e=>?_
    exact (Bt s8.heap (Obj.mapSeq _) (λz=>d5 (by rw[z];exact hb))).trans e
section
variable {X:Cx} {pins:List (Addr×Obj)} {σ:St} {H:Hp} {s:Shared} {scope:Scope} {cl:List (Str×Addr)} {vars frees:List Str} {fv:List Nat} {elt target iter:Expr} {ifs:List Expr} {pos:Pos}
def qAp (X:Cx) (pins:List (Addr×Obj)) (σ:St) (Q:VK) (D C:Addr) (s':Shared):Prop:=
 ∃ (ys:List V) (H':Hp) (oC:Obj) (m:Str->Option Value),Inv X (pins ++ [(C,oC)]) σ (upd H' D (.lst ys)) s'/\s'.heap.Ns C m/\qof X pins (upd H' D (.lst ys)) C/\Q (.ref D) (upd H' D (.lst ys))
theorem qr4 {J:It} {fp:List Addr} {it:Addr} {tn:Nat->Heap->Prop} {g:TG} {tc:TT} {te:TE} {Q:VK} {W:Nat->Nat->List V->Hp->Prop} {m0:Nat} {E:Value->Shared->Prop} {E2:Value->Addr->Value->Shared->Prop}
  (hc:X.calm=true) (L:qwi X scope cl) (fo:FvOk X scope cl frees fv) (hk:qnk vars.length g)
  (hg:∀ C s H ex,PG (blk X (vars ++ frees) scope cl C s H ex) target g) (hi:∀ C s H ex,qzw (blk X (vars ++ frees) scope cl C s H ex) ifs tc) (he:∀ C s H ex,PE (blk X (vars ++ frees) scope cl C s H ex) elt te)
  (I:Inv X pins σ H s) (T:Turn X.prog X.w X.K target J fp it tn) (st:tn 0 s.heap) (hf:∀ b∈fp,qof X pins H b) (w0:W 0 m0 [] H)
  (turn:∀ i m ys H2,W i m ys H2->(J.stop i H2/\ys.length<=sizeLine/\∀ p,H2 p=none->Q (.ref p) (upd H2 p (.lst ys))) \/
   (J.go i H2/\ys.length<sizeLine/\∃ N:List V->Hp->Prop,(∀ zs H',N zs H'->∃ m',m'<m/\W (i+1) m' zs H')/\∀ x H3,J.yld i H2 x H3->g x (lcσ vars.length fv σ) H3 λσ4 H4=>tc σ4 H4 λb H5=>if b=true then te σ4 H5 λv H6=>N (ys ++ [v]) H6 else N ys H5)) :
  wpAny (model X.prog X.w) X.A (newList []) (λacc s₃=>wpAny (model X.prog X.w) X.A (newFunctionEnv scope X.env.globals cl [] X.env.qual none .none (some X.env)) (λcenv s₄ =>
   codeAny (model X.prog X.w) X.A (.compStart (.ListComp elt [⟨target,iter,ifs,0⟩] scope pos) 0 (.ref it) acc { cenv with scope:=relabel scope X.env })
    (λr s'=>match r with|.ok _=>∃ D,acc=.ref D/\qAp X pins σ Q D cenv.locals s'|.error x=>E2 acc cenv.locals x s') s₄) E s₃) E s:=by
 have hoo:∀ b∈fp,∃ o,s.heap.get? b=some o:=λb hb=>let ⟨o,e,_⟩:=T.obj 0 _ st b hb;⟨o,e⟩
 refine BD (wpAny_newFunctionEnv L.nocell (by intro y hy;simp at hy) (λh₁ hns hsb=>?_) L.kind);dsimp only at hns hsb ⊢;have hC:(s.heap.push qam).objs.size=s.heap.objs.size+1:=Bp ..;have keep1:∀ b o,b≠(s.heap.push qam).objs.size->(s.heap.push qam).get? b=some o->h₁.get? b=some o:=λb o hb e=>hsb.extBut b o hb (Ab _ e)
 have I0:Inv (blk X (vars ++ frees) scope cl (s.heap.push qam).objs.size { s with heap:=s.heap.push qam } H (s.heap.objs.size :: fp)) [(s.heap.objs.size,qam)] (lcσ vars.length fv σ) H { s with heap:=h₁,toks:=s.toks+([]:List (Str×Value)).length }:=
  qx5 I L fo hf hoo (by simpa using hns) keep1
 have st1:tn 0 h₁:=T.keep 0 _ _ st λb hb o e=>keep1 b o (ltS e) (Ab _ e)
 have loop:codeAny (model X.prog X.w) X.A (.compLoop (.ListComp elt [⟨target,iter,ifs,0⟩] scope pos) 0 (.ref it) (.ref s.heap.objs.size) (compEnvC scope cl (s.heap.push qam).objs.size X.env))
   (λr s'=>match r with|.ok _=>∃ D,Value.ref s.heap.objs.size=.ref D/\qAp X pins σ Q D (s.heap.push qam).objs.size s'|.error x=>E2 (.ref s.heap.objs.size) (s.heap.push qam).objs.size x s') { s with heap:=h₁,toks:=s.toks+([]:List (Str×Value)).length }:=by
  refine qx6 (Y:=blk X (vars ++ frees) scope cl (s.heap.push qam).objs.size { s with heap:=s.heap.push qam } H (s.heap.objs.size :: fp)) (nv:=vars.length) (n0:=0) rfl hc (hg _ _ _ _) hk (hi _ _ _ _) (he _ _ _ _) T (λi hi v e=>?_)
   neS (by show s.heap.objs.size∈s.heap.objs.size :: fp;simp) ?_ (λx c e=>?_) (λz=>?_) rfl (λb hb=>?_) I0 st1 (λb hb=>(hf b hb).1) w0 turn ?_
  ·rw[show lcσ vars.length fv σ=List.replicate vars.length none ++ fv.map λj=>(σ[j]?).join from rfl,AS (by simpa using hi),D5 (by simpa using hi)] at e
   cases e
  ·exact (I0.pin (s.heap.objs.size,qam) (by simp)).2.2.2.1
  ·obtain ⟨v,q⟩:=I.cell x c (L.sub x c e)
   exact Av q.lt
  ·obtain ⟨o,e⟩:=hoo _ z
   exact absurd (Am e) (BC _)
  ·exact ⟨(I0.ok.exf b (Ap _ hb)).1,I0.ok.exfs b (Ap _ hb),.inl (Ap _ hb),(I0.ok.exf b (Ap _ hb)).2⟩
  ·intro ys us n H' s' I' rv hz q
   obtain ⟨eD,nD,_,fD,_⟩:=I'.pin (s.heap.objs.size,lobj us n) (by simp);obtain ⟨mC,hnC,_⟩:=I'.loc;obtain ⟨oC,es,ep,eC,dC,r1,r2⟩:=id hnC;have nC:H' (s.heap.push qam).objs.size=none:=I'.free;have neDC:(s.heap.push qam).objs.size≠s.heap.objs.size:=neS.symm;have lt:∀ {b:Addr} {o:Obj},s.heap.get? b=some o->b≠s.heap.objs.size/\b≠(s.heap.push qam).objs.size:=λe=>⟨neZ e,ltS e⟩
   have nex:∀ {b:Addr} {o:Obj},s.heap.get? b=some o->b ∉ fp->b ∉ s.heap.objs.size :: fp:=λe hb z=>by
    rcases Ak.mp z with z|z
    ·exact (lt e).1 z
    ·exact hb z
   have upn:∀ {b:Addr} {u:HO},H' b=some u->upd H' s.heap.objs.size (.lst ys) b=some u:=λe=>by rw[qas (qac e nD)];exact e
   have un:Un (frs X.stack) fp H (upd H' s.heap.objs.size (.lst ys)) s.heap s'.heap:=
    {keep:=λb o e n hb hx=>I'.base.keep b o (Ab _ e) n hb (nex e hx)
     slot:=λb o e n hb hx=>I'.base.slot b o (Ab _ e) n hb (nex e hx)
     free:=λb o e n hx=>by rw[qas (lt e).1];exact I'.base.free b o (Ab _ e) n (nex e hx)
     there:=λb o e hx=>I'.base.there b o (Ab _ e) (nex e hx)
     tups:=λb xs e=>upn (I'.base.tups b xs e)
     frzs:=λb o u e=>upn (I'.base.frzs b o u e)
     tbls:=λb ps e=>let ⟨more,z⟩:=I'.base.tbls b ps e;⟨more,upn z⟩ }
   have hok:HOk X.prog X.w (upd H' s.heap.objs.size (.lst ys)) s'.heap:=λb u e=>by
    by_cases hb:b=s.heap.objs.size
    ·subst hb;rw[qa5] at e;cases e
     exact ⟨hz,us,n,rv,eD⟩
    ·rw[qas hb] at e
     exact (I'.hok b u e).stay (λc v _ z=>z) (λc z=>upn z) λc xs z=>upn z
   have J1:Inv X pins σ (upd H' s.heap.objs.size (.lst ys)) s':=I.call' (ch:=fp) I'.os un hok I'.bare λb hb=>⟨(hf b hb).2.2.2.1,(hf b hb).2.1,(hf b hb).2.2.2.2.1,(hf b hb).2.2.2.2.2⟩
   have fC:qof X pins (upd H' s.heap.objs.size (.lst ys)) (s.heap.push qam).objs.size:=I.fpOk leS (by rw[qas neDC];exact nC);refine ⟨_,rfl,ys,H',oC,mC,J1.pins_of (λp hp=>?_),hnC,fC,q _ nD⟩
   rcases AA.mp hp with z|z
   ·exact J1.pin p (AM _ z)
   ·have e:p=((s.heap.push qam).objs.size,oC):=by simpa using z
    subst e;exact ⟨eC,fC.1,fC.2.1,fC.2.2.1,λv z=>by rw[dC] at z;cases z⟩
 exact codeAny_compStart_list loop (T.self _ 0 _ _ _ st1 loop)
theorem qhd {wi:TI} {g:TG} {tc:TT} {te:TE} (hc:X.calm=true) (L:qwi X scope cl) (fo:FvOk X scope cl frees fv) (hit:PI X target iter wi) (hk:qnk vars.length g)
  (hg:∀ C s H ex,PG (blk X (vars ++ frees) scope cl C s H ex) target g) (hi:∀ C s H ex,qzw (blk X (vars ++ frees) scope cl C s H ex) ifs tc) (he:∀ C s H ex,PE (blk X (vars ++ frees) scope cl C s H ex) elt te)
  (hs:∀ x,foldedSetIterable iter X.env x=pure x:=by intro _;rfl):PE X (.ListComp elt [⟨target,iter,ifs,0⟩] scope pos) (tLC vars.length fv wi g tc te):=by
 intro pins s σ H Q I h;rw[eval_ListComp];refine Ey (use:=none) rfl hs L.clos L.kind L.names (thn (hit pins s σ H _ I h) λv s1 h1=>thn h1 λitv s2 h2=>?_);obtain ⟨it,fp,tn,J,H2,e,I2,T,st2,f2,W,⟨m0,w0⟩,turn⟩:=h2;subst e;refine A7 (qr4 (E:=X.xe) (E2:=λacc C x s'=>compPost (model X.prog X.w) X.A X.xe none (EP X pins σ Q) acc C (.error x) s') hc L fo hk hg hi he I2 T st2 f2 w0 turn) (λacc s3 h3=>thn h3 λcenv s4 h4=>BJ h4 λr s' h5=>?_) λ_ _ z=>z
 cases r with
 | error x=>exact h5
 | ok f =>
  obtain ⟨D,rfl,ys,H',oC,m,J1,hn,fC,q⟩:=h5;refine ⟨m,hn,λh' sb=>⟨.ref D,_,?_,rfl,q⟩⟩;exact J1.unpinned.turned (t':=s'.toks) (it:=cenv.locals) (λb o hb e=>(sb.2 b hb).trans e) fC.1 fC.2.1 fC.2.2.2.1 fC.2.2.2.2.1 fC.2.2.2.2.2
theorem qdv {wi:TI} {g:TG} {tc:TT} {te:TE} {i:Nat} {x:Str} {spos pos':Pos} (hN:X.N.Nodup) (hix:X.N[i]?=some x) (hlx:Loc X.env.scope x) (hc:X.calm=true) (L:qwi X scope cl) (fo:FvOk X scope cl frees fv) (hit:PI X target iter wi) (hk:qnk vars.length g)
  (hg:∀ C s H ex,PG (blk X (vars ++ frees) scope cl C s H ex) target g) (hi:∀ C s H ex,qzw (blk X (vars ++ frees) scope cl C s H ex) ifs tc) (he:∀ C s H ex,PE (blk X (vars ++ frees) scope cl C s H ex) elt te)
  (hsw:swapsWith (.ListComp elt [⟨target,iter,ifs,0⟩] scope pos) (some (.Name x pos')) spos.line X.env=pure true:=by rfl)
  (hs:∀ x,foldedSetIterable iter X.env x=pure x:=by intro _;rfl) (hf:X.fn x=true\/X.env.scope.names.lookup x=some .local:=by first|exact .inl rfl|exact .inr rfl|assumption) :
  PS X (.Assign [.Name x pos'] (.ListComp elt [⟨target,iter,ifs,0⟩] scope pos) spos) (qCd (tLC vars.length fv wi g tc te) (qd7 i)):=by
 intro pins s σ H Dn I h;rw[exec_Assign_Name_used _ _ _ _ hsw];refine Aa (Df (Aa ?_))
 show wpAny _ X.A (do let _ <- comprehension (.ListComp elt [⟨target,iter,ifs,0⟩] scope pos) scope X.env _ (newList []) false (eval iter X.env) (some (assign (.Name x pos') X.env))) _ _ s
 refine Aa (A7 (Ey (use:=some (assign (.Name x pos') X.env)) (Q:=λ_ s'=>SP X pins Dn .next s') rfl hs L.clos L.kind L.names (thn (hit pins s σ H _ I h) λv s1 h1=>thn h1 λitv s2 h2=>?_)) (λ_ s' hq=>Ae (Ae hq)) λ_ _ e=>e);obtain ⟨it,fp,tn,J,H2,e,I2,T,st2,f2,W,⟨m0,w0⟩,turn⟩:=h2;subst e;refine A7 (qr4 (Q:=λx H1=>qd7 i x σ H1 Dn.nx) (E:=X.xe) (E2:=λacc C y s'=>compPost (model X.prog X.w) X.A X.xe (some (assign (.Name x pos') X.env)) (λ_ s'=>SP X pins Dn .next s') acc C (.error y) s') hc L fo hk hg hi he I2 T st2 f2 w0 turn) (λacc s3 h3=>thn h3 λcenv s4 h4=>BJ h4 λr s' h5=>?_) λ_ _ z=>z
 cases r with
 | error y=>exact h5
 | ok f =>
  obtain ⟨D,rfl,ys,H',oC,m,J1,hn,fC,q⟩:=h5
  show wpAny (model X.prog X.w) X.A (assign (.Name x pos') X.env (.ref D)) (λ_ s''=>∃ m,s''.heap.Ns cenv.locals m/\∀ h',Heap.SameBut cenv.locals s''.heap h'->SP X pins Dn .next { s'' with heap:=h' }) X.xe s'
  refine thn (qnf (i:=i) hN hix hlx hf _ s' σ _ (.ref D) (.ref D) (λσ' H''=>Dn.nx σ' H''/\H''=upd H' D (.lst ys)) J1 rfl ⟨q,rfl⟩) λ_ s6 hq__=>?_
  obtain ⟨σ6,H6,I6,q6,e6⟩:=hq__;subst e6;have eC:=(I6.pin (cenv.locals,oC) (by simp)).1;have eC':=(J1.pin (cenv.locals,oC) (by simp)).1;obtain ⟨o,es,ep,ho,r1⟩:=hn;rw[eC'] at ho;cases ho;refine ⟨m,⟨oC,es,ep,eC,r1⟩,λh' sb=>⟨σ6,_,?_,q6⟩⟩;exact I6.unpinned.turned (t':=s6.toks) (it:=cenv.locals) (λb o hb e=>(sb.2 b hb).trans e) fC.1 fC.2.1 fC.2.2.2.1 fC.2.2.2.2.1 fC.2.2.2.2.2
end
open PySem PySem.Spec PyProof.Rows
theorem qr5 {K:Frag} {a:Addr} {xs:List V} {g:TG} {tc:TT} {te:TE} {Q:VK} {σ:St} {H:Hp} (Pv:Nat->List V->Hp->Prop) (hz:xs.length<=sizeLine) (h0:Pv 0 [] H) (hl:∀ i ys H,Pv i ys H->SqL K H a xs/\ys.length<=i)
  (hs:∀ i x ys H,xs[i]?=some x->Pv i ys H->g x σ H λσ4 H4=>tc σ4 H4 λb H5=>if b=true then te σ4 H5 λv H6=>Pv (i+1) (ys ++ [v]) H6 else Pv (i+1) ys H5)
  (hd:∀ ys H p,Pv xs.length ys H->H p=none->Q (.ref p) (upd H p (.lst ys))) :
  qfp (Itl K a) Q g tc te σ H:=by
 refine ⟨λi m ys H=>m=xs.length-i/\i<=xs.length/\Pv i ys H,⟨xs.length,by simp,AW _,h0⟩,?_⟩;rintro i m ys H2 ⟨rfl,hi,p⟩;obtain ⟨q,hy⟩:=hl i ys H2 p
 by_cases hlt:i<xs.length
 ·refine .inr ⟨⟨xs,xs[i],q,by simp[hlt]⟩,by omega,Pv (i+1),λzs H' p'=>⟨xs.length-(i+1),by omega,rfl,hlt,p'⟩,λx H3 y=>?_⟩
  obtain ⟨e,y⟩:=y;subst e;exact hs i x ys _ (y xs q) p
 ·have e:i=xs.length:=by omega
  subst e;exact .inl ⟨⟨xs,q,Ag _⟩,by omega,λp' hp'=>hd ys H2 p' p hp'⟩
theorem qu8 {lo:Int} {n:Nat} {g:TG} {tc:TT} {te:TE} {Q:VK} {σ:St} {H:Hp} (Pv:Nat->List V->Hp->Prop) (hz:n<=sizeLine) (h0:Pv 0 [] H) (hl:∀ i ys H,Pv i ys H->ys.length<=i)
  (hs:∀ i ys H,i<n->Pv i ys H->g (.int (lo+i)) σ H λσ4 H4=>tc σ4 H4 λb H5=>if b=true then te σ4 H5 λv H6=>Pv (i+1) (ys ++ [v]) H6 else Pv (i+1) ys H5)
  (hd:∀ ys H p,Pv n ys H->H p=none->Q (.ref p) (upd H p (.lst ys))) :
  qfp (Itr lo n) Q g tc te σ H:=by
 refine ⟨λi m ys H=>m=n-i/\i<=n/\Pv i ys H,⟨n,by simp,AW _,h0⟩,?_⟩;rintro i m ys H2 ⟨rfl,hi,p⟩;have hy:=hl i ys H2 p
 by_cases hlt:i<n
 ·refine .inr ⟨hlt,by omega,Pv (i+1),λzs H' p'=>⟨n-(i+1),by omega,rfl,hlt,p'⟩,λx H3 y=>?_⟩
  obtain ⟨e,y⟩:=y;subst e y;exact hs i ys _ hlt p
 ·have e:i=n:=by omega
  subst e;exact .inl ⟨Ag _,by omega,λp' hp'=>hd ys H2 p' p hp'⟩
theorem qwj {K:Frag} {a b:Addr} {xs ys:List V} {g:TG} {tc:TT} {te:TE} {Q:VK} {σ:St} {H:Hp} (Pv:Nat->List V->Hp->Prop) (hz:xs.length<=sizeLine) (h0:Pv 0 [] H) (hl:∀ i zs H,Pv i zs H->SqL K H a xs/\SqL K H b ys/\zs.length<=i)
  (hs:∀ i x y zs H p,xs[i]?=some x->ys[i]?=some y->H p=none->Pv i zs H->g (.ref p) σ (upd H p (.tup [x,y])) λσ4 H4=>tc σ4 H4 λb H5=>if b=true then te σ4 H5 λv H6=>Pv (i+1) (zs ++ [v]) H6 else Pv (i+1) zs H5)
  (hd:∀ i zs H p,i=min xs.length ys.length->Pv i zs H->H p=none->Q (.ref p) (upd H p (.lst zs))) :
  qfp (Itz K a b) Q g tc te σ H:=by
 refine ⟨λi m zs H=>m=min xs.length ys.length-i/\i<=min xs.length ys.length/\Pv i zs H,⟨min xs.length ys.length,by simp,AW _,h0⟩,?_⟩;rintro i m zs H2 ⟨rfl,hi,p⟩;obtain ⟨qa,qb,hy⟩:=hl i zs H2 p
 by_cases hlt:i<min xs.length ys.length
 ·have ha:i<xs.length:=by omega
  have hb:i<ys.length:=by omega
  refine .inr ⟨⟨xs,ys,xs[i],ys[i],qa,qb,by simp[ha],by simp[hb]⟩,by omega,Pv (i+1),λzs H' p'=>⟨min xs.length ys.length-(i+1),by omega,rfl,hlt,p'⟩,λx H3 y=>?_⟩;obtain ⟨t,rfl,ht,y⟩:=y;have ea:xs[i]?=some xs[i]:=by simp[ha]
  have eb:ys[i]?=some ys[i]:=by simp[hb]
  rw[y xs ys xs[i] ys[i] qa qb ea eb];exact hs i xs[i] ys[i] zs H2 t ea eb ht p
 ·exact .inl ⟨⟨xs,ys,qa,qb,by omega⟩,by omega,λp' hp'=>hd i zs H2 p' (by omega) p hp'⟩
open PySem PySem.Spec PyProof.Rows
structure New (H H':Hp) (p:Addr) (o:HO):Prop where
 same:Same H H'
 fresh:H p=none
 at_:H' p=some o
theorem qbb {H:Hp} {p:Addr} {o:HO} (h:H p=none):New H (upd H p o) p o:=⟨qdu h,h,qa5⟩
def But (l:Addr) (H H':Hp):Prop:=∀ b o,H b=some o->b≠l->H' b=some o
theorem qcr {H:Hp} {l:Addr} {o:HO}:But l H (upd H l o):=λb u e n=>by rw[qas n];exact e
theorem But.same {H0 H H':Hp} {l:Addr} (b:But l H H') (s:Same H0 H) (h:H0 l=none):Same H0 H':=λc o e=>b c o (s c o e) (qac e h)
theorem But.tup {H H':Hp} {l:Addr} {o:HO} (b:But l H H') (h:H l=some o) (n:∀ xs,o≠.tup xs):∀ c xs,H c=some (.tup xs)->H' c=some (.tup xs):=λc xs e=>b c _ e (qaq e h (λz=>n xs z.symm))
section
variable {X:Cx} {e:Expr} {es:List Expr} {te:TE} {t:TA} {pos:Pos}
def qC7 (t:TA):TE:=λσ H Q=>t σ H λxs H1=>xs.length<=sizeLine/\∀ p H',New H1 H' p (.tup xs)->Q (.ref p) H'
def qAq (t:TA):TE:=λσ H Q=>t σ H λxs H1=>xs.length<=sizeLine/\∀ p H',New H1 H' p (.lst xs)->Q (.ref p) H'
theorem qbj {x1} (h:PA X es t):PE X (.Tuple es x1 pos) (qC7 t):=by
 intro pins s σ H Q I hq;refine wpAny_Tuple_spliced (thn (h pos pins s σ H _ I hq) λus s1 ⟨xs,H1,I1,r,z,q⟩=>⟨by rw[<- r.length];exact z,?_⟩);have hf:H1 s1.heap.objs.size=none:=I1.hok.fresh (Ag _);refine ⟨.ref s1.heap.objs.size,upd H1 s1.heap.objs.size (.tup xs),I1.laid (t':=s1.toks) (λb u e=>Ab _ e) (Ag _) ?_,rfl,q _ _ (qbb hf)⟩;exact ⟨z,us,r,⟨_,Ao _ rfl,rfl,_,rfl⟩⟩
theorem qa8 (h:PA X es t):PE X (.List es pos) (qAq t):=by
 intro pins s σ H Q I hq;refine wpAny_List_spliced (thn (h pos pins s σ H _ I hq) λus s1 ⟨xs,H1,I1,r,z,q⟩=>⟨by rw[<- r.length];exact z,?_⟩);have hf:H1 s1.heap.objs.size=none:=I1.hok.fresh (Ag _);refine ⟨.ref s1.heap.objs.size,upd H1 s1.heap.objs.size (.lst xs),I1.laid (t':=s1.toks) (λb u e=>Ab _ e) (Ag _) ?_,rfl,q _ _ (qbb hf)⟩;exact ⟨z,us,0,r,Ao _ rfl⟩
theorem CallR.imp {f:Value} {r r':List V->Hp->VK->Prop} (h:CallR X f r) (i:∀ xs H Q,r' xs H Q->r xs H Q):CallR X f r':=λpins s σ H xs us Q I v q=>h pins s σ H xs us Q I v (i xs H Q q)
theorem OpR.imp {f:Value->Value->Sem Value} {r r':R2} (h:OpR X f r) (i:∀ x y H Q,r' x y H Q->r x y H Q):OpR X f r':=λpins s σ H x y v u Q I rx ry q=>h pins s σ H x y v u Q I rx ry (i x y H Q q)
theorem MtM.imp {id:String} {r r':V->List V->Hp->VK->Prop} (h:MtM X id r) (i:∀ x xs H Q,r' x xs H Q->r x xs H Q):MtM X id r':=λpins s σ H x xs v us Q I rx rv q=>h pins s σ H x xs v us Q I rx rv (i x xs H Q q)
theorem qbc:CallR X (.type "list") (λxs H Q=>∃ p ys,xs=[.ref p]/\(SqL X.K H p ys\/SqT X.K H p ys)/\∀ l H',New H H' l (.lst ys)->Q (.ref l) H'):=
 call_list_of.imp λ_ _ _ ⟨p,ys,e,h,q⟩=>⟨p,ys,e,h,λl hl=>q l _ (qbb hl)⟩
inductive rSlLNS (K:Frag) (x:V) (lo hi:Option Int) (H:Hp) (Q:VK):Prop
 | mk:∀ a xs,x=.ref a->SqL K H a xs->(∀ p H',New H H' p (.lst (qhp xs lo hi))->Q (.ref p) H')->rSlLNS K x lo hi H Q
def qAr (K:Frag):V->Option Int->Option Int->Hp->VK->Prop:=λx lo hi H Q=>rSlLNS K x lo hi H Q
theorem qch:SlR X (qAr X.K):=λpins s σ H x v vl vu lo hi sl Q I rx hs p1 p2 ⟨a,xs,e,h,q⟩=>qxw pins s σ H x v vl vu lo hi sl Q I rx hs p1 p2 ⟨a,xs,e,h,λp hp=>q p _ (qbb hp)⟩
inductive qwk  (x y:V) (H:Hp) (Q:VK):Prop
 | mk:∀ l b xs zs,x=.ref l->y=.ref b->H l=some (.lst xs)->H b=some (.lst zs)->xs.length+zs.length<=sizeLine->(∀ p H',New H H' p (.lst (xs ++ zs))->Q (.ref p) H')->qwk x y H Q
def qC8:R2:=λx y H Q=>qwk x y H Q
theorem qgb:OpR X (binaryOp .Add) qC8:=op_cat.imp λ_ _ _ _ ⟨l,b,xs,zs,e1,e2,h1,h2,z,q⟩=>⟨l,b,xs,zs,e1,e2,h1,h2,z,λp hp=>q p _ (qbb hp)⟩
inductive rAppendNS  (x:V) (vs:List V) (H:Hp) (Q:VK):Prop
 | mk:∀ l xs y,x=.ref l->vs=[y]->H l=some (.lst xs)->xs.length<sizeLine->(∀ H',But l H H'->H' l=some (.lst (xs ++ [y]))->Q .non H')->rAppendNS x vs H Q
def qu9:V->List V->Hp->VK->Prop:=λx vs H Q=>rAppendNS x vs H Q
theorem qcf:MtM X "list.append" qu9:=mt_append.imp λ_ _ _ _ ⟨l,xs,y,e1,e2,h,z,q⟩=>⟨l,xs,y,e1,e2,h,z,q _ qcr qa5⟩
end
section
variable {X:Cx} {k:Nat} {C:Addr} {ps:List Str} {sp:Sp} {dvs:List V} {ds:List Value} {x f:Str} {p pos pos':Pos} {e o value:Expr} {es:List Expr} {ta tv:TE} {t:TA}
def qAs (C:Addr) (sp:Sp) (dvs:List V) (E:XK) (t:TA):TE:=λσ H Q=>t σ H λvs H1=>∀ x dx H',Same H1 H'->H1 x=none->H' x=some (.ins C dx [])->sp (.ref x :: (vs ++ dvs)) H' (λv H2=>v=.non/\Q (.ref x) H2) E
theorem qr6 (D:qC4 X.prog X.w X.K X.mg X.base C k x ps ds sp) (hr:Room (k+1) X.A) (hg:Gl X x) (hd:Vals dvs ds) (ha:PA X (e :: es) t) (hdb:(x == ("__debug__" : Str))=false:=by decide)
  (he:starEach (e :: es) X.env=(false,eval e X.env) :: starEach es X.env:=by rfl) (hpl:(backTo pos (starEach es X.env)).any (·.1)=false:=by rfl):PE X (.Call (.Name x p) (e :: es) [] pos) (qAs C sp dvs E0 t):=by
 obtain ⟨f,fd,F,hm,M,hb⟩:=D;intro pins s σ H Q I h;refine BL (qdg I hg hm ?_ hdb);refine B5 (h₀:=X.base) I.ok.mod.kin M.kp (thn (ha pos pins s σ H _ I h) λus s1 ⟨vs,H1,I1,r,q⟩=>⟨I1.kIn,?_⟩) he hpl;refine quw M F hr hb hd qu4 I1 r λy dx h1 h2 h3=>q y dx _ ?_ h1 qa5
 exact (qdu h2).trans (qdu (by rw[qas h3.symm];exact h1))
def qC9 (K:Frag) (ta tv:TE) (f:Str):TS:=λD σ H=>tv σ H λy H1=>ta σ H1 λx H2=>∃ a C dx fs,x=.ref a/\H2 a=some (.ins C dx fs)/\Cls K C/\NoAttr K C f/\fs.length<1000 /\
 ∀ H',But a H2 H'->H' a=some (.ins C dx (qfl f y fs))->D.nx σ H'
theorem qb9 (ha:PE X o ta) (hv:PE X value tv) (hs:swapsWith value (some (.Attribute o f pos')) pos.line X.env=pure false):PS X (.Assign [.Attribute o f pos'] value pos) (qC9 X.K ta tv f):=by
 intro pins s σ H D I h;refine DT (thn (hv pins s σ H _ I h) λu s1 ⟨y,H1,I1,ry,q⟩=>thn (ha pins s1 σ H1 _ I1 q) λov s2 hq__=>?_) hs;obtain ⟨x,H2,I2,rx,a,C,dx,fs,ex,ea,c,n,l,q2⟩:=hq__;subst ex;obtain rfl:ov=Value.ref a:=rx;exact qp7 I2 ea c n l ry λs3 I3=>⟨σ,_,I3,q2 _ qcr qa5⟩
end
theorem qkm {K:Frag} {a b:Addr} {xs ys:List V} {g:TG} {tb:TS} {D:Ends} {σ:St} {H:Hp} (Pv:Nat->St->Hp->Prop) (h0:Pv 0 σ H) (hl:∀ i σ H,Pv i σ H->SqL K H a xs/\SqL K H b ys)
  (hs:∀ i x y σ H p H',xs[i]?=some x->ys[i]?=some y->New H H' p (.tup [x,y])->Pv i σ H->g (.ref p) σ H' λσ2 H2=>tb { D with nx:=Pv (i+1),ct:=Pv (i+1),bk:=D.nx } σ2 H2)
  (hd:∀ i σ H,i=min xs.length ys.length->Pv i σ H->D.nx σ H) :
  ∃ W:Nat->Nat->St->Hp->Prop,(∃ m,W 0 m σ H)/\∀ i m σ H,W i m σ H ->
   ((Itz K a b).stop i H/\D.nx σ H)\/((Itz K a b).go i H/\∃ N:St->Hp->Prop,(∀ σ' H',N σ' H'->∃ m',m'<m/\W (i+1) m' σ' H')/\∀ x H',(Itz K a b).yld i H x H'->g x σ H' λσ2 H2=>tb { D with nx:=N,ct:=N,bk:=D.nx } σ2 H2):=
 qx3 Pv h0 hl (λi x y σ H p e1 e2 hn p'=>hs i x y σ H p _ e1 e2 (qbb hn) p') hd
theorem qDa {X:Cx} {scope:Scope} {cl:List (Str×Addr)} (clos:closureFor scope X.env=pure cl) (kind:scope.kind=.function) (nocell:∀ y∈scope.names,y.2≠.cell)
  (names:∀ y∈scope.names,y.2=.local->scope.names.lookup y.1=some .local) (sub:∀ p∈cl,X.env.cells.lookup p.1=some p.2)
  (has:((relabel scope X.env).names.all λy=>(y.2 != .cell && y.2 != .free) || (cl.lookup y.1).isSome)=true):qwi X scope cl:=by
 refine ⟨clos,kind,nocell,names,λx c e=>?_,λx h=>?_⟩
 ·have:∀ l:List (Str×Addr),l.lookup x=some c->(x,c)∈l:=λl=>by
   induction l with
   | nil=>intro z;simp at z
   | cons p r ih =>
    intro z;obtain ⟨y,d⟩:=p;rw[CM] at z
    by_cases q:(x == y)=true
    ·rw[q] at z
     have e1:x=y:=by simpa using q
     have e2:d=c:=AJ z;subst e1 e2;exact Au
    ·have q':(x == y)=false:=by simpa using q
     rw[q'] at z;exact Ap _ (ih z)
  exact sub (x,c) (this cl e)
 ·have:∀ (l:List (Str×NameKind)) (k:NameKind),l.lookup x=some k->(x,k)∈l:=λl k=>by
   induction l with
   | nil=>intro z;simp at z
   | cons p r ih =>
    intro z;obtain ⟨y,d⟩:=p;rw[CM] at z
    by_cases q:(x == y)=true
    ·rw[q] at z
     have e1:x=y:=by simpa using q
     have e2:d=k:=AJ z;subst e1 e2;exact Au
    ·have q':(x == y)=false:=by simpa using q
     rw[q'] at z;exact Ap _ (ih z)
  rw[Dk] at has
  cases e:cl.lookup x with
  | some c=>exact ⟨c,rfl⟩
  | none =>
   rcases h with h|h
   ·have:=has _ (this _ _ h)
    rw[e] at this
    simp at this
   ·have:=has _ (this _ _ h)
    rw[e] at this
    simp at this
open PySem PySem.Spec PyProof.Rows
section
variable {X:Cx}
theorem qoq (hc:X.calm=true):CallR X (.builtin "sum") (λxs H Q=>∃ (p:Addr) (ns:List Int),xs=[.ref p]/\SqL X.K H p (ns.map V.int)/\Q (.int ns.sum) H):=by
 intro pins s σ H xs us Q I r h;obtain ⟨p,ns,rfl,hq,q⟩:=h;obtain ⟨u,rfl,ru⟩:=vals1 r
 cases (show u=Value.ref p from ru)
 obtain ⟨its,rv,pl,hz⟩:=I.list hq;have hi:IntsAre its ns:=L2.intsAre_of rv;have hn:=hi.numsOf;obtain ⟨ys,e⟩:=hi.allInts.items;have hl:=pl.isList;rw[e] at hl;refine sum_intListG (I.ok.hd hc) hl λh' tk t' hk=>⟨.int ns.sum,H,I.kept hk,⟨t',?_⟩,q⟩
 have e3:its=(intItems ys).toList:=by rw[<- e]
 rw[e3,Ez] at hn;rw[preSum_eq,Bh (by simp),hn]
end
open PySem PySem.Spec PyProof.Rows
def FlT (h:Heap) (e T:Addr) (cls:Value) (dd:Option Addr) (fl:Value):Prop:=
 ∃ oe vs oT ts,h.get? e=some oe/\oe.cls=cls/\oe.dict=dd/\oe.data=.fields vs/\vs[1]?=some (.ref T)/\T≠e/\h.get? T=some oT/\oT.data=.fields ts/\ts[3]?=some fl
def Fl0 (h:Heap) (e:Addr) (cls:Value) (dd:Option Addr):Prop:=
 ∃ oe vs,h.get? e=some oe/\oe.cls=cls/\oe.dict=dd/\oe.data=.fields vs/\vs[1]?=some .none
def FpX (X:Cx) (H:Hp) (b:Addr):Prop:=
 H b=none/\b≠X.env.locals/\b ∉ X.fs/\X.s₀.heap.get? b=none/\(∀ x c,X.env.cells.lookup x=some c->c≠b)/\∀ p∈X.pn,p.1≠b
def Fly (X:Cx) (H:Hp) (h:Heap) (e:Addr) (cls:Value) (dd:Option Addr):Prop:=
 FpX X H e/\(Fl0 h e cls dd\/∃ T fl,FpX X H T/\FlT h e T cls dd fl)
abbrev XW:=Value->Option Addr->St->Hp->Prop
def XE (X:Cx) (W:XW) (ev:Value) (s:Shared):Prop:=
 ∃ e cls dd σ H,ev=.ref e/\Inv X [] σ H s/\Fly X H s.heap e cls dd/\W cls dd σ H
def qgc (X:Cx):Prop:=X.stack=X.env :: X.outer/\X.env.frame=some X.env.locals/\X.ex=[]
section
variable {X:Cx} {σ:St} {H:Hp} {s:Shared} {h':Heap} {M:Model} {A:Around} {E:Value->Shared->Prop} {e T:Addr} {cls fl:Value} {dd:Option Addr}
theorem ObjOk.there {P:Program} {w:World} {H:Hp} {h:Heap} {a:Addr} {o:HO} (x:ObjOk P w H h a o):∃ u,h.get? a=some u:=by
 induction o with
 | lst xs=>obtain ⟨_,_,_,_,e⟩:=x;exact ⟨_,e⟩
 | tup xs=>obtain ⟨_,_,_,u,e,_⟩:=x;exact ⟨u,e⟩
 | dK kvs=>obtain ⟨_,_,_,_,u,_,_,e,_⟩:=x;exact ⟨u,e⟩
 | dT kvs=>obtain ⟨_,_,_,_,u,_,_,e,_⟩:=x;exact ⟨u,e⟩
 | set S n=>obtain ⟨u,_,_,_,e,_⟩:=x;exact ⟨u,e⟩
 | ins C dx fs=>obtain ⟨_,_,_,e,_⟩:=x;exact ⟨_,e⟩
 | own y=>exact x
 | xd fs=>obtain ⟨_,⟨u,_,_,e,_⟩,_⟩:=x;exact ⟨u,e⟩
 | met f y=>exact ⟨_,x⟩
 | rng lo hi=>obtain ⟨_,_,_,e⟩:=x;exact ⟨_,e⟩
 | frz u v _=>obtain ⟨e,_⟩:=x;exact ⟨_,e⟩
 | tbl ps=>exact ⟨_,x⟩
 | ext φ=>exact x.2.1
theorem Inv.fpX {H':Hp} {pins:List (Addr×Obj)} (hs:qgc X) (I:Inv X pins σ H s) (hb:s.heap.get? e=none) (hn:H' e=none):FpX X H' e:=by
 refine ⟨hn,λz=>?_,λz=>?_,?_,λx c q z=>?_,λp hp z=>?_⟩
 ·obtain ⟨m,⟨o,_,_,ho,_⟩,_⟩:=I.loc
  rw[<- z,hb] at ho;cases ho
 ·obtain ⟨_,o,ho,_⟩:=I.funs.mem z
  rw[hb] at ho;cases ho
 ·cases q:X.s₀.heap.get? e with
  | none=>rfl
  | some o =>
   obtain ⟨o',ho'⟩:=I.base.there e o q (by rw[hs.2.2];simp);rw[hb] at ho';cases ho'
 ·obtain ⟨v,o,ho,_⟩:=I.cell x c q
  rw[z,hb] at ho;cases ho
 ·have:=(I.pin p (Ck _ hp)).1
  rw[z,hb] at this;cases this
theorem Inv.noneOf {pins:List (Addr×Obj)} (I:Inv X pins σ H s) (hb:s.heap.get? e=none):H e=none:=by
 cases q:H e with
 | none=>rfl
 | some o =>
  obtain ⟨u,hu⟩:=(I.hok e o q).there;rw[hb] at hu;cases hu
theorem Inv.turnR {H':Hp} {t':Nat} {ch:List Addr} (I:Inv X [] σ H s) (hf:∀ b∈ch,FpX X H b) (k:∀ b u,b ∉ ch->b ∉ frs X.stack->s.heap.get? b=some u->h'.get? b=some u)
  (k2:∀ b u,b ∉ ch->s.heap.get? b=some u->∃ sl,h'.get? b=some { u with slots:=sl }) (hH:∀ b,b ∉ ch->H' b=H b) (hok:HOk X.prog X.w H' h'):Inv X [] σ H' { s with heap:=h',toks:=t' }:=by
 have sup:∀ b o,H b=some o->H' b=some o:=λb o q=>by rw[hH b (λz=>by rw[(hf b z).1] at q;cases q)];exact q
 have nosl:∀ b,b≠X.env.locals->b ∉ X.fs->b ∉ frs X.stack:=λb h1 h2 z=>(Ak.mp (I.stkSub b z)).elim h1 h2
 have neL:∀ b o,X.s₀.heap.get? b=some o->b≠X.env.locals:=λb o q=>Av (AK (Am q) I.ok.above)
 have neC:∀ b o,X.s₀.heap.get? b=some o->b ∉ ch:=λb o q hb=>by rw[(hf b hb).2.2.2.1] at q;cases q
 have cellK:∀ x c,X.env.cells.lookup x=some c->∀ v,s.heap.IsCell c v->h'.IsCell c v:=λx c q v ⟨o,ho,hd⟩=>by
  obtain ⟨sl,q'⟩:=k2 c o (λz=>(hf c z).2.2.2.2.1 x c q rfl) ho;exact ⟨_,q',hd⟩
 refine ⟨I.ok,I.os,I.bare,⟨λb o q n hb hx=>?_,λb o q n hb hx=>?_,λb o q n hx=>?_,λb o q hx=>?_,λb xs q=>sup _ _ (I.base.tups b xs q),λb o xs q=>sup _ _ (I.base.frzs b o xs q),λb ps q=>?_⟩,?_,λx c q=>?_,?_,λx c q=>?_,λp hp=>?_,hok,I.len⟩
 ·exact k b o (neC b o q) (nosl b (neL b o q) hb) (I.base.keep b o q n hb hx)
 ·obtain ⟨sl,e1⟩:=I.base.slot b o q n hb hx
  obtain ⟨sl',e2⟩:=k2 b _ (neC b o q) e1;exact ⟨sl',e2⟩
 ·rw[hH b (neC b o q)]
  exact I.base.free b o q n hx
 ·obtain ⟨o',e1⟩:=I.base.there b o q hx
  obtain ⟨sl',e2⟩:=k2 b _ (neC b o q) e1;exact ⟨_,e2⟩
 ·obtain ⟨m1,e1⟩:=I.base.tbls b ps q
  exact ⟨m1,sup _ _ e1⟩
 ·obtain ⟨m,hn,hl⟩:=I.loc
  refine ⟨m,?_,λi x v e1 e2 e3=>?_⟩
  ·obtain ⟨o,es,ep,ho,r⟩:=hn
   obtain ⟨sl,q⟩:=k2 _ o (λz=>(hf _ z).2.1 rfl) ho;exact ⟨_,es,ep,q,r⟩
  ·obtain ⟨u,r,l⟩:=hl i x v e1 e2 e3
   refine ⟨u,r,?_⟩
   rcases l with l|⟨kk,c,q,z⟩
   ·exact .inl l
   ·exact .inr ⟨kk,c,q,cellK x c q _ z⟩
 ·obtain ⟨v,z⟩:=I.cell x c q
  exact ⟨v,cellK x c q v z⟩
 ·rw[hH _ (λz=>(hf _ z).2.1 rfl)];exact I.free
 ·rw[hH _ (λz=>(hf _ z).2.2.2.2.1 x c q rfl)];exact I.freeC x c q
 ·obtain ⟨q,n,ne,nf,d⟩:=I.pin p hp
  have hp':p∈X.pn:=by
   have:p∈X.pn ++ ([]:List (Addr×Obj)):=hp
   simpa using this
  have nch:p.1 ∉ ch:=λz=>(hf p.1 z).2.2.2.2.2 p hp' rfl
  exact ⟨k p.1 p.2 nch (nosl p.1 ne nf) q,by rw[hH _ nch];exact n,ne,nf,d⟩
theorem Inv.turnS {t':Nat} {ch:List Addr} (I:Inv X [] σ H s) (hf:∀ b∈ch,FpX X H b) (k:∀ b u,b ∉ ch->b ∉ frs X.stack->s.heap.get? b=some u->h'.get? b=some u)
  (k2:∀ b u,b ∉ ch->s.heap.get? b=some u->∃ sl,h'.get? b=some { u with slots:=sl }):Inv X [] σ H { s with heap:=h',toks:=t' }:=by
 have nch:∀ b u,H b=some u->b ∉ ch:=λb u e z=>by rw[(hf b z).1] at e;cases e
 have nst:∀ b u,H b=some u->b ∉ frs X.stack:=λb u e z=>by rw[I.stkFree b z] at e;cases e
 refine I.turnR hf k k2 (λ_ _=>rfl) λb u e=>?_
 refine (I.hok b u e).stay (λc v hc q=>?_) (λ_ q=>q) λ_ _ q=>q
 rcases hc with z|z
 ·subst z;exact k _ v (nch _ u e) (nst _ u e) q
 ·exact k c v (nch c _ z) (nst c _ z) q
theorem Inv.track {o:HO} (I:Inv X [] σ H s) (hf:FpX X H e) (ok:ObjOk X.prog X.w (upd H e o) s.heap e o):Inv X [] σ (upd H e o) s:=by
 refine I.turnR (h':=s.heap) (t':=s.toks) (ch:=[e]) (λb hb=>by rw[Aj.mp hb];exact hf) (λ_ _ _ _ q=>q) (λb u _ q=>⟨u.slots,q⟩) (λb hb=>qas (λz=>hb (by simp[z]))) λb u q=>?_
 by_cases hb:b=e
 ·subst hb;rw[qa5] at q;cases q;exact ok
 ·rw[qas hb] at q
  exact (I.hok b u q).stay (λ_ _ _ q=>q) (λc q=>by rw[qas (qac q hf.1)];exact q) λc xs q=>by rw[qas (qac q hf.1)];exact q
theorem qor {oe:Obj} {vs:Array Value} {head:Value} {hadNext:Bool} {Q:Unit->Shared->Prop} (hs:qgc X) (hA:A.frames=some X.stack) (I:Inv X [] σ H s) (hp:FpX X H e)
  (he:s.heap.get? e=some oe) (hc:oe.cls=cls) (hdd:oe.dict=dd) (hd:oe.data=.fields vs) (hsz:1<vs.size)
  (k:∀ h' T,Inv X [] σ H { s with heap:=h' }->FpX X H T->FlT h' e T cls dd (rawInt X.env.locals)->Q () { s with heap:=h' }) :
  wpAny M A (do let a <- frameOf X.env;let pl <- entryPlaceOf X.env.locals hadNext;let b <- EntryCells.newEntry head a .none (rawInt X.env.locals) .none pl;setField (.ref e) 1 b) Q E s:=by
 have hs0:=hs;obtain ⟨hst,hfr,_⟩:=hs;have hl:=I.stack;rw[hst] at hl hA;have hene:e ∉ frs X.stack:=λhm=>by
  rcases Ak.mp (I.stkSub e hm) with z|z
  ·exact hp.2.1 z
  ·exact hp.2.2.1 z
 refine Aa (wpAny_frameOf_fun hA hl hfr λh₁ hs₁=>?_);refine Aa (wpAny_entryPlaceOf λpl hpl=>?_);unfold EntryCells.newEntry newFields;refine Aa (BD ?_ (hpl.sizeOk5 _ _ _ _ _));have S:(X.env :: X.outer).filterMap (·.frame)=frs X.stack:=by rw[hst];rfl
 rw[S] at hs₁;have he₁:h₁.get? e=some oe:=(hs₁.2.1 e hene).trans he
 generalize hob:({ cls:=.type "traceback",dict:=none,data:=.fields ([head,.ref X.env.locals,.none,rawInt X.env.locals,.none] ++ (if pl.isEmpty then List.replicate 6 Value.none else pl)).toArray }:Obj)=ob
 have hobd:ob.data=.fields ([head,.ref X.env.locals,.none,rawInt X.env.locals,.none] ++ (if pl.isEmpty then List.replicate 6 Value.none else pl)).toArray:=by rw[<- hob]
 have he₂:=Ab (h:=h₁) ob he₁;refine CF he₂ hd hsz ?_;have hTe:h₁.objs.size≠e:=Cn (Am he₁);have hd₃:=Cw hd (·.setIfInBounds 1 (Value.ref h₁.objs.size));have he₃:=BN (Obj.mapFields (·.setIfInBounds 1 (Value.ref h₁.objs.size))) he₂ (Dz hd₃);have hT₃:=(Bt (h₁.push ob) (Obj.mapFields (·.setIfInBounds 1 (Value.ref h₁.objs.size))) (AY hTe)).trans (Ao h₁ (by rw[<- hob];rfl));have kk:∀ b o,b≠e->h₁.get? b=some o->((h₁.push ob).update e (Obj.mapFields (·.setIfInBounds 1 (Value.ref h₁.objs.size)))).get? b=some o:=λb o hb q=>by
  rw[Bt _ _ (AY hb)];exact Ab _ q
 refine k _ h₁.objs.size (I.turnS (t':=s.toks) (ch:=[e]) (λb hb=>by rw[Aj.mp hb];exact hp) (λb u hb hn q=>?_) λb u hb q=>?_) (I.fpX hs0 (by rw[hs₁.1];exact DB (Ag _)) (I.hok.fresh (by rw[hs₁.1];exact Ag _))) ?_
 ·exact kk b u (λz=>hb (by simp[z])) ((hs₁.2.1 b hn).trans q)
 ·obtain ⟨sl,q'⟩:=hs₁.2.2 b u q
  exact ⟨sl,kk b _ (λz=>hb (by simp[z])) q'⟩
 ·refine ⟨_,_,_,_,he₃,(Obj.cls_mapFields _ _).trans hc,?_,hd₃,by simp[hsz],hTe,hT₃,hobd,by simp⟩
  rw[<- hdd];obtain ⟨c9,d9,dt9,sl9⟩:=oe
  cases dt9<;>rfl
theorem qnl {Q:Unit->Shared->Prop} (hs:qgc X) (hA:A.frames=some X.stack) (I:Inv X [] σ H s) (F:Fly X H s.heap e cls dd)
  (k:∀ h' T,Inv X [] σ H { s with heap:=h' }->FpX X H T->FlT h' e T cls dd (rawInt X.env.locals)->Q () { s with heap:=h' }):wpAny M A (noteFrame (.ref e) X.env) Q E s:=by
 obtain ⟨hp,F⟩:=F;unfold noteFrame;simp only[hs.2.1]
 rcases F with ⟨oe,vs,he,hc,hdd,hd,h1⟩|⟨T,fl,hT,oe,vs,oT,ts,he,hc,hdd,hd,h1,hTe,hoT,hdT,h3⟩
 ·refine Aa (Bo he hd h1 ?_)
  rw[Ah (by decide)];exact qor hs hA I hp he hc hdd hd (Cm.mp h1).1 k
 ·refine Aa (Bo he hd h1 ?_)
  rw[Al (show (Value.ref T != Value.none)=true from by simp)];refine Aa (Bo hoT hdT h3 ?_)
  by_cases hfl:(fl == rawInt X.env.locals)=true
  ·rw[Al hfl]
   have:=k s.heap T I hT ⟨oe,vs,oT,ts,he,hc,hdd,hd,h1,hTe,hoT,hdT,by rw[h3,BZ.mp hfl]⟩;exact Ae this
  ·rw[Ah hfl]
   refine Aa (CF hoT hdT (Cm.mp h3).1 ?_);have other:∀ b,b≠T->(s.heap.update T (Obj.mapFields (·.setIfInBounds 3 Value.none))).get? b=s.heap.get? b:=λb hb=>Bt _ _ (AY hb)
   have I2:Inv X [] σ H { s with heap:=s.heap.update T (Obj.mapFields (·.setIfInBounds 3 Value.none)) }:=
    I.turnS (t':=s.toks) (ch:=[T]) (λb hb=>by rw[Aj.mp hb];exact hT) (λb u hb _ q=>(other b (λz=>hb (by simp[z]))).trans q) λb u hb q=>⟨u.slots,(other b (λz=>hb (by simp[z]))).trans q⟩
   exact qor hs hA I2 hp ((other e (AY hTe)).trans he) hc hdd hd (Cm.mp h1).1 k
theorem qfq {Q:Unit->Shared->Prop} (fr:Option Addr) (I:Inv X [] σ H s) (hT:FpX X H T) (F:FlT s.heap e T cls dd fl)
  (k:∀ h',Inv X [] σ H { s with heap:=h' }->FlT h' e T cls dd (fr.elim .none λf=>rawInt f)->Q () { s with heap:=h' }):wpAny M A (setFlight (.ref e) fr) Q E s:=by
 obtain ⟨oe,vs,oT,ts,he,hc,hdd,hd,h1,hTe,hoT,hdT,h3⟩:=F;have hsz3:3<ts.size:=(Cm.mp h3).1;have other:∀ b,b≠T->(s.heap.update T (Obj.mapFields (·.setIfInBounds 3 (fr.elim .none λf=>rawInt f)))).get? b=s.heap.get? b:=λb hb=>Bt _ _ (AY hb)
 unfold setFlight;refine Aa (Bo he hd h1 ?_);rw[Al (show (Value.ref T != Value.none)=true from by simp)];refine CF hoT hdT hsz3 (k _ ?_ ?_)
 ·exact I.turnS (t':=s.toks) (ch:=[T]) (λb hb=>by rw[Aj.mp hb];exact hT) (λb u hb _ q=>(other b (λz=>hb (by simp[z]))).trans q) λb u hb q=>⟨u.slots,(other b (λz=>hb (by simp[z]))).trans q⟩
 ·exact ⟨oe,vs,_,_,(other e (AY hTe)).trans he,hc,hdd,hd,h1,hTe,BN _ hoT (Dz (Cw hdT _)),Cw hdT _,by simp[hsz3]⟩
theorem qqe {W:XW} (hs:qgc X):PassesOwn (model X.prog X.w) X.A X.env (XE X W):=by
 rintro ev s ⟨e,cls,dd,σ,H,rfl,I,F,hw⟩;refine qnl hs I.ok.frames I F λh1 T I1 hT F1=>?_
 unfold cameBackBy;obtain ⟨oe,vs,oT,ts,he,hc,hdd,hd,h1',hTe,hoT,hdT,h3⟩:=id F1;refine Aa (Bo he hd h1' ?_);rw[Ah (show ¬ (Value.ref T == Value.none)=true from by simp)];exact qfq _ I1 hT F1 λh2 I2 F2=>⟨e,cls,dd,σ,H,rfl,I2,⟨F.1,.inr ⟨T,_,hT,F2⟩⟩,hw⟩
end
def CX1 (P:Program) (w:World):CXT:=λouter H s E ev s'=>∃ e T cls dd H',ev=.ref e/\s'.os=s.os/\AllBare s'.gens/\Un (frs outer) [] H H' s.heap s'.heap/\HOk P w H' s'.heap/\FlT s'.heap e T cls dd .none/\H' e=none/\H' T=none /\
 s.heap.get? e=none/\s.heap.get? T=none/\E cls dd H'
theorem CX1.xe {X:Cx} {W:XW} {pins:List (Addr×Obj)} {σ:St} {H:Hp} {s s':Shared} {ev:Value} (hs:qgc X) (I:Inv X pins σ H s) (h:CX1 X.prog X.w X.stack H s (λc d H'=>W c d σ H') ev s'):XE X W ev s':=by
 obtain ⟨e,T,cls,dd,H',rfl,os,bare,un,hok,F,he,hT,le,lT,q⟩:=h;have J:Inv X [] σ H s:=I.pins_of (by simp);have J':Inv X [] σ H' s':=by
  obtain ⟨hh,g,d,t,os'⟩:=s';obtain rfl:os'=s.os:=os;exact J.call (h':=hh) (g':=g) (d':=d) (t':=t) (ch:=[]) un hok bare (λb z=>absurd z (by simp))
 exact ⟨e,cls,dd,σ,H',rfl,J',⟨J.fpX hs le he,.inr ⟨T,_,J.fpX hs lT hT,F⟩⟩,q⟩
theorem qwl {P:Program} {w:World} {K:Frag} {mg:Str->Option Value} {base:Heap} {N:List Str} {qual:Str} {scope:Scope} {f:Addr} {cd:Value} {A:Around} {outer:List Env} {s:Shared} {H:Hp} {E:XK} {ev:Value} {s':Shared}
  (h:XE (qrr (CX1 P w) P w K mg base N qual scope f cd A outer s H E) (λc d _ H'=>E c d H') ev s'):(qrr (CX1 P w) P w K mg base N qual scope f cd A outer s H E).xe ev s':=by
 obtain ⟨e,cls,dd,σ,H',rfl,I,F,q⟩:=h
 show wpAny _ _ (leaving _ _) _ _ _
 unfold leaving;refine Aa (qnl (X:=qrr (CX1 P w) P w K mg base N qual scope f cd A outer s H E) ⟨rfl,rfl,rfl⟩ I.ok.frames I F λh1 T I1 hT F1=>?_);refine qfq none I1 hT F1 λh2 I2 F2=>?_
 exact ⟨e,T,cls,dd,H',rfl,I2.os,I2.bare,I2.base,I2.hok,F2,F.1.1,hT.1,F.1.2.2.2.1,hT.2.2.2.1,q⟩
def qkn (X:Cx) (W:XW):Prop:=qgc X/\∀ ev s,XE X W ev s->X.xe ev s
theorem XE.unwish {X:Cx} {E:Value->Shared->Prop} {W:XW} {ev:Value} {s:Shared} (h:XE (X.wish E) W ev s):XE X W ev s:=
 let ⟨e,cls,dd,σ,H,q,I,F,w⟩:=h;⟨e,cls,dd,σ,H,q,I.unwish,F,w⟩
theorem qay {X:Cx} {W:XW} (hs:qgc X):qkn (X.wish (XE X W)) W:=⟨hs,λ_ _ h=>h.unwish⟩
theorem qos {X:Cx} {W:XW} (hs:qgc X):PassesOwn (model X.prog X.w) X.A X.env (X.wish (XE X W)).xe:=qqe hs
theorem PSs.imp {X:Cx} {E:Value->Shared->Prop} {st:List Stmt} {t:TS} (hE:∀ ev s,E ev s->X.xe ev s) (h:PSs (X.wish E) st t):PSs X st t:=λpins s σ H D I hw =>
 A7 (h pins s σ H D (I.wish _) hw) (λ_ _ q=>q.unwish) λe s z=>hE e s z
section
variable {P:Program} {w:World} {K:Frag} {mg:Str->Option Value} {base:Heap}
abbrev bx (P:Program) (w:World) (K:Frag) (mg:Str->Option Value) (base:Heap) (N:List Str) (qual:Str) (scope:Scope) (f:Addr) (cd:Value) (A:Around) (outer:List Env) (s:Shared) (H:Hp) (E:XK):Cx:=
 (qrr (CX1 P w) P w K mg base N qual scope f cd A outer s H E).wish (XE (qrr (CX1 P w) P w K mg base N qual scope f cd A outer s H E) (λc d _ H'=>E c d H'))
theorem Fun.okX {x qual:Str} {st:Stmt} {f:Addr} {fd:FuncData} {N ps:List Str} {k:Nat} {sp:Sp} (F:Fun K x qual st f fd) (S:qaf N ps (qab st)) (len:∀ vs H Q E,sp vs H Q E->vs.length=ps.length)
  (hbody:∀ (cdv:Value) (A:Around) (outer:List Env) (s:Shared) (H:Hp) (vs:List V) (Q:VK) (E:XK),Room k (A.deeper (envOfC qual (qab st) s.heap.objs.size f cdv))->sp vs H Q E ->
   ∃ t,PSs (bx P w K mg base N qual (qab st) f cdv A outer s H E) (qby st) t/\t { nx:=λ_ H'=>Q .non H',rt:=Q } (start N vs) H):qf7 P w K mg base (CX1 P w) (k+1) f fd ps sp:=by
 obtain ⟨oc,od,kV,doc,pm,an,cdv,ct,osl,rfl,lk,hcd⟩:=F.ex;refine qxr lk hcd S len λA outer s H vs Q E hr hsp=>?_
 obtain ⟨t,h,q⟩:=hbody cdv A outer s H vs Q E hr hsp;exact ⟨t,h.imp λ_ _ z=>qwl z,q⟩
theorem FunD.okX {x qual:Str} {st:Stmt} {dV:Value} {f:Addr} {fd:FuncData} {N ps:List Str} {k:Nat} {sp:Sp} (F:FunD K x qual st dV f fd) (S:qaf N ps (qab st)) (len:∀ vs H Q E,sp vs H Q E->vs.length=ps.length)
  (hbody:∀ (cdv:Value) (A:Around) (outer:List Env) (s:Shared) (H:Hp) (vs:List V) (Q:VK) (E:XK),Room k (A.deeper (envOfC qual (qab st) s.heap.objs.size f cdv))->sp vs H Q E ->
   ∃ t,PSs (bx P w K mg base N qual (qab st) f cdv A outer s H E) (qby st) t/\t { nx:=λ_ H'=>Q .non H',rt:=Q } (start N vs) H):qf7 P w K mg base (CX1 P w) (k+1) f fd ps sp:=by
 obtain ⟨oc,od,kV,doc,pm,an,cdv,ct,osl,rfl,lk,hcd⟩:=F.ex;refine qxr lk hcd S len λA outer s H vs Q E hr hsp=>?_
 obtain ⟨t,h,q⟩:=hbody cdv A outer s H vs Q E hr hsp;exact ⟨t,h.imp λ_ _ z=>qwl z,q⟩
end
def qva (P:Program) (w:World) (K:Frag) (mg:Str->Option Value) (base:Heap) (k:Nat) (x:Str) (ps:List Str) (ds:List Value) (sp:Sp):Prop:=
 ∃ f fd,qf7 P w K mg base (CX1 P w) k f fd ps sp/\mg x=some (.ref f)/\keepIn K (.ref f)=true/\Binds K fd ps ds
def qvb (P:Program) (w:World) (K:Frag) (mg:Str->Option Value) (base:Heap) (C:Addr) (k:Nat) (m:Str) (ps:List Str) (ds:List Value) (sp:Sp):Prop:=
 ∃ f fd,qf7 P w K mg base (CX1 P w) k f fd ps sp/\qrn K C m f/\Binds K fd ps ds
def MkX (P:Program) (w:World) (K:Frag) (mg:Str->Option Value) (base:Heap) (C:Addr) (k:Nat) (x:Str) (ps:List Str) (ds:List Value) (sp:Sp):Prop:=
 ∃ f fd,qf7 P w K mg base (CX1 P w) k f fd ps sp/\mg x=some (.ref C)/\Mk K C f/\Binds K fd ps ds
def qr7 (sp:Sp) (dvs:List V) (W:XW) (t:TA):TE:=λσ H Q=>t σ H λvs H1=>sp (vs ++ dvs) H1 Q λc d H'=>W c d σ H'
def qAt (C:Addr) (m:Str) (sp:Sp) (dvs:List V) (W:XW) (ta:TE) (t:TA):TE:=λσ H Q=>ta σ H λx H1=>qwc C m x H1 (t σ H1 λvs H2=>sp (x :: (vs ++ dvs)) H2 Q λc d H'=>W c d σ H')
def qAu (C:Addr) (sp:Sp) (dvs:List V) (W:XW) (t:TA):TE:=λσ H Q=>t σ H λvs H1=>∀ x dx H',Same H1 H'->H1 x=none->H' x=some (.ins C dx [])->sp (.ref x :: (vs ++ dvs)) H' (λv H2=>v=.non/\Q (.ref x) H2) λc d H'=>W c d σ H'
section
variable {X:Cx} {W:XW} {k:Nat} {f C:Addr} {fd:FuncData} {ps:List Str} {sp:Sp} {dvs:List V} {ds:List Value} {x m:Str} {p pos apos:Pos} {e o:Expr} {es:List Expr} {ta:TE} {t:TA}
theorem qr8 {pins:List (Addr×Obj)} {σ:St} {H:Hp} {s:Shared} {Q:VK} {us:List Value} {vs:List V} (hW:qkn X W) (F:qf7 X.prog X.w X.K X.mg X.base (CX1 X.prog X.w) k f fd ps sp) (hr:Room k X.A) (hb:Binds X.K fd ps ds) (hd:Vals dvs ds)
  (I:Inv X pins σ H s) (r:Vals vs us) (h:sp (vs ++ dvs) H Q λc d H'=>W c d σ H'):wpAny (model X.prog X.w) X.A (call (.ref f) us) (EP X pins σ Q) X.xe s:=by
 have r2:Vals (vs ++ dvs) (us ++ ds):=r.append hd;have hl:(us ++ ds).length=ps.length:=by rw[<- r2.length];exact F.len _ _ _ _ h
 refine BY (BJ (F.run X.A X.stack s H ⟨us,[]⟩ (us ++ ds) (vs ++ dvs) Q _ hr I.env0 (hb s us I.kIn hl) r2 h) λr s' hq=>?_)
 cases r with
 | error e=>exact hW.2 _ _ (CX1.xe hW.1 I hq)
 | ok fl =>
  cases fl with
  | ret u=>exact I.after hq
  | next=>exact False.elim hq
  | brk=>exact False.elim hq
  | cont=>exact False.elim hq
theorem qr9 (hW:qkn X W) (D:qva X.prog X.w X.K X.mg X.base k x ps ds sp) (hr:Room k X.A) (hg:Gl X x) (hd:Vals dvs ds) (ha:PA X (e :: es) t) (hdb:(x == ("__debug__" : Str))=false:=by decide)
  (he:starEach (e :: es) X.env=(false,eval e X.env) :: starEach es X.env:=by rfl) (hpl:(backTo pos (starEach es X.env)).any (·.1)=false:=by rfl):PE X (.Call (.Name x p) (e :: es) [] pos) (qr7 sp dvs W t):=by
 obtain ⟨f,fd,F,hm,hk,hb⟩:=D;intro pins s σ H Q I h;refine BL (qdg I hg hm ?_ hdb);refine B5 (h₀:=X.base) I.ok.mod.kin hk (thn (ha pos pins s σ H _ I h) λus s1 ⟨vs,H1,I1,r,q⟩=>⟨I1.kIn,?_⟩) he hpl;exact qr8 hW F hr hb hd I1 r q
theorem qb0 {pl:Sem Bool} (hW:qkn X W) (he:PE X o ta) (c:Cls X.K C) (D:qvb X.prog X.w X.K X.mg X.base C k m ps ds sp) (hr:Room k X.A) (hd:Vals dvs ds) (ha:PA X (e :: es) t)
  (hst:starEach (e :: es) X.env=(false,eval e X.env) :: starEach es X.env:=by rfl) (hpl:(backTo pos (starEach es X.env)).any (·.1)=false:=by rfl)
  (ht:eval (.Call (.Attribute o m apos) (e :: es) [] pos) X.env=(do
   let ov <- eval o X.env
   standAt apos.atName
   let (f,first) <- holding [ov] (getMethod ov m pl)
   callWith pos f first (backTo pos (starEach (e :: es) X.env)) (backToKw pos (keywordEach [] X.env))):=by rfl) :
  PE X (.Call (.Attribute o m apos) (e :: es) [] pos) (qAt C m sp dvs W ta t):=by
 obtain ⟨f,fd,F,hm,hb⟩:=D;intro pins s σ H Q I h;refine CL (pl:=pl) (thn (he pins s σ H _ I h) λu s1 hq__=>?_) ht;obtain ⟨x,H1,I1,rx,a,dx,fs,ex,ea,l,q⟩:=hq__;subst ex;obtain rfl:u=Value.ref a:=rx;refine qf5 I1 ea c hm l ?_;refine B5 (first:=[.ref a]) (h₀:=X.base) I.ok.mod.kin hm.kp (thn (ha pos pins s1 σ H1 _ I1 q) λus s2 ⟨vs,H2,I2,r,q2⟩=>⟨I2.kIn,?_⟩) hst hpl;exact qr8 (us:=.ref a :: us) (vs:=.ref a :: vs) hW F hr hb hd I2 (.cons rfl r) q2
theorem qsa {pins:List (Addr×Obj)} {σ:St} {H:Hp} {s:Shared} {Q:VK} {us:List Value} {vs:List V} (hW:qkn X W) (M:Mk X.K C f) (F:qf7 X.prog X.w X.K X.mg X.base (CX1 X.prog X.w) k f fd ps sp) (hr:Room (k+1) X.A) (hb:Binds X.K fd ps ds) (hd:Vals dvs ds)
  (I:Inv X pins σ H s) (r:Vals vs us)
  (h:∀ x dx,H x=none->H dx=none->dx≠x->sp (.ref x :: (vs ++ dvs)) (upd (upd H dx (.own x)) x (.ins C dx [])) (λv H2=>v=.non/\Q (.ref x) H2) λc d H'=>W c d σ H') :
  wpAny (model X.prog X.w) X.A (call (.ref C) us) (EP X pins σ Q) X.xe s:=by
 have hq:=h (s.heap.objs.size+1) s.heap.objs.size (I.hok.fresh (Ci _)) (I.hok.fresh (Ag _)) (Av (BU _));have I2:=Inv.made (C:=C) I;have r2:Vals (V.ref (s.heap.objs.size+1) :: (vs ++ dvs)) (Value.ref (s.heap.objs.size+1) :: (us ++ ds)):=.cons rfl (r.append hd);have hl:(Value.ref (s.heap.objs.size+1) :: us ++ ds).length=ps.length:=by
  have e:=r2.length;rw[F.len _ _ _ _ hq] at e;exact e.symm
 refine BY (qoh (f:=f) I.kIn M.makes M.init (BZ.mp M.fn) (BJ (F.run _ X.stack _ _ ⟨Value.ref (s.heap.objs.size+1) :: us,[]⟩ (Value.ref (s.heap.objs.size+1) :: (us ++ ds)) _ _ _ (hr.make C us [])
  (I2.env0.make C us []) (hb _ (Value.ref (s.heap.objs.size+1) :: us) I2.kIn hl) r2 hq) λr s' hq'=>?_))
 cases r with
 | error e=>exact hW.2 _ _ (CX1.xe hW.1 I2 hq')
 | ok fl =>
  cases fl with
  | ret u =>
   obtain ⟨v,H',I3,rv,ev,q3⟩:=I2.after hq';subst ev;exact ⟨rv,⟨V.ref (s.heap.objs.size+1),H',I3,rfl,q3⟩⟩
  | next=>exact False.elim hq'
  | brk=>exact False.elim hq'
  | cont=>exact False.elim hq'
theorem qsb (hW:qkn X W) (D:MkX X.prog X.w X.K X.mg X.base C k x ps ds sp) (hr:Room (k+1) X.A) (hg:Gl X x) (hd:Vals dvs ds) (ha:PA X (e :: es) t) (hdb:(x == ("__debug__" : Str))=false:=by decide)
  (he:starEach (e :: es) X.env=(false,eval e X.env) :: starEach es X.env:=by rfl) (hpl:(backTo pos (starEach es X.env)).any (·.1)=false:=by rfl):PE X (.Call (.Name x p) (e :: es) [] pos) (qAu C sp dvs W t):=by
 obtain ⟨f,fd,F,hm,M,hb⟩:=D;intro pins s σ H Q I h;refine BL (qdg I hg hm ?_ hdb);refine B5 (h₀:=X.base) I.ok.mod.kin M.kp (thn (ha pos pins s σ H _ I h) λus s1 ⟨vs,H1,I1,r,q⟩=>⟨I1.kIn,?_⟩) he hpl;refine qsa hW M F hr hb hd I1 r λy dx h1 h2 h3=>q y dx _ ?_ h1 qa5
 exact (qdu h2).trans (qdu (by rw[qas h3.symm];exact h1))
end
def veMro:List Value:=[.type "ValueError",.type "Exception",.type "BaseException",.type "object"]
def qwm (K:Frag) (C:Addr):Prop:=PySem.W.excIn K C veMro "ValueError.__new__" = true
theorem qAv {K:Frag} {h:Heap} {C:Addr} {bmB:List Value} {newId:String} (X:K.In h) (q:PySem.W.excIn K C bmB newId=true) :
  ∃ bm N nm qn bs hd sn sub ab col dd k0 k1 k2 k3 k5 mN,h.get? C=some (excClassObj nm qn C N bs bm hd sn sub ab col dd k0 k1 k2 k3 k5 newId)/\h.Ns N mN/\mN "__init__" = none/\OwnTail h bmB bm:=by
 unfold PySem.W.excIn at q
 split at q
 case h_2=>cases q
 case h_1 dd cd sl ho =>
  split at q
  case h_2=>cases q
  case h_1 C' bm k0 k1 k2 k3 n k5 hm hsl =>
   simp only[CN,BZ,Bool.not_eq_true'] at q;obtain ⟨⟨⟨⟨⟨q1,q2⟩,q3⟩,q4⟩,q5⟩,q6⟩:=q;subst q1 q2
   cases cd with
   | mk nm bs mro ns qn hd sn sub ab col del =>
    cases sl with
    | mk l =>
     have hm':mro=_:=hm;have hl':l=_:=hsl;have q3':del=false:=q3;subst hm' hl' q3';exact ⟨bm,ns,nm,qn,bs,hd,sn,sub,ab,col,dd,k0,k1,k2,k3,k5,_,X _ _ ho,.of_isNs (PySem.W.isNs_of_in X q5),PySem.W.nsMap_none_of_in X q5 q6,PySem.W.tail_of_in X q4⟩
def qAw (W:XW) (C:Addr) (t:TA):TS:=λ_ σ H=>t σ H λvs H1=>vs.length<=sizeLine/\W (.ref C) none σ H1
theorem qAx {h h':Heap} {N:Addr} {m:Str->Option Value} (k:∀ b o,h.get? b=some o->h'.get? b=some o) (n:h.Ns N m):h'.Ns N m:=
 let ⟨o,es,ep,e,r⟩:=n;⟨o,es,ep,k _ _ e,r⟩
theorem qc7 {X:Cx} {W:XW} {C:Addr} {x:Str} {np cpos pos:Pos} {e:Expr} {es:List Expr} {t:TA} (hW:qkn X W) (hc:X.calm=true) (hE:qwm X.K C) (hg:Gl X x) (hm:X.mg x=some (.ref C)) (ha:PA X (e :: es) t)
  (hdb:(x == ("__debug__" : Str))=false:=by decide) (he:starEach (e :: es) X.env=(false,eval e X.env) :: starEach es X.env:=by rfl) (hpl:(backTo cpos (starEach es X.env)).any (·.1)=false:=by rfl) :
  PS X (.Raise (some (.Call (.Name x np) (e :: es) [] cpos)) none pos) (qAw W C t):=by
 intro pins s σ H D I h;obtain ⟨bm,N,nm,qn,bs,hd,sn,sub,ab,col,dd,k0,k1,k2,k3,k5,mN,hC,hN,hni,hT⟩:=qAv I.ok.mod.kin hE;refine wpAny_Raise_call_subU Cg (by decide +kernel) Cg (C:=C) (nm:=nm) (q:=qn) (N:=N) (bs:=bs) (hdct:=hd) (sn:=sn) (sub:=sub) (ab:=ab) (col:=col) (dd:=dd) (k0:=k0) (k1:=k1) (k2:=k2) (k3:=k3) (k5:=k5) (hT.hasType (by decide +kernel)) (I.ok.hd hc) (by rw[he];show (false || (backTo cpos (starEach es X.env)).any (·.1))=false;rw[hpl];rfl) hni (qdg I hg hm ⟨rfl,?_⟩ hdb);have h2:=ha cpos pins s σ H _ I h;rw[he] at h2 ⊢;refine CT (thn h2 λus s1 ⟨vs,H1,I1,r,q1,q2⟩=>⟨rfl,by rw[<- r.length];exact q1,I1.bk _ _ hC,qAx I1.bk hN,hT.keeps I1.bk,λh' ex hx=>hW.2 _ _ ?_⟩);obtain ⟨tt,hex,_,_⟩:=hx.there;have J:Inv X [] σ H1 s1:=I1.pins_of (by simp);exact ⟨ex,.ref C,none,σ,H1,rfl,J.kept (t':=s1.toks) hx.keeps,⟨J.fpX hW.1 hx.new (J.noneOf hx.new),.inl ⟨_,_,hex,rfl,rfl,rfl,rfl⟩⟩,q2⟩
open PySem PySem.Spec PyProof.Rows
def qzx (a:Addr) (cls:Value) (dd:Option Addr):HO:=.ext λh=>∃ oe vs,h.get? a=some oe/\oe.cls=cls/\oe.dict=dd/\oe.data=.fields vs
abbrev hnd (X:Cx) (e:Addr):Cx:={ X with A:=X.A.mark (some (.ref e)),calm:=false,xe:=λ_ _=>False }
abbrev pnd (X:Cx) (pn:List (Addr×Obj)):Cx:={ X with pn:=pn }
section
variable {X:Cx} {pins:List (Addr×Obj)} {σ:St} {H:Hp} {s:Shared} {e:Addr}
theorem Inv.hnd (I:Inv X pins σ H s) (e:Addr):Inv (hnd X e) pins σ H s:=
 ⟨⟨I.ok.mod,I.ok.kind,I.ok.glob,I.ok.blt,I.ok.above,I.ok.inj,I.ok.has,I.ok.cab,(λz=>nomatch z),I.ok.frames,I.ok.stk,I.ok.exf,I.ok.bs,I.ok.bsz,I.ok.noex,I.ok.exfs,I.ok.funs,I.ok.frf⟩,I.os,I.bare,I.base,I.loc,I.cell,I.free,I.freeC,I.pin,I.hok,I.len⟩
theorem Inv.unhnd (hd:X.calm=true->X.A.handled=none) (I:Inv (L2.hnd X e) pins σ H s):Inv X pins σ H s:=
 ⟨⟨I.ok.mod,I.ok.kind,I.ok.glob,I.ok.blt,I.ok.above,I.ok.inj,I.ok.has,I.ok.cab,hd,I.ok.frames,I.ok.stk,I.ok.exf,I.ok.bs,I.ok.bsz,I.ok.noex,I.ok.exfs,I.ok.funs,I.ok.frf⟩,I.os,I.bare,I.base,I.loc,I.cell,I.free,I.freeC,I.pin,I.hok,I.len⟩
theorem Inv.pnd (I:Inv X pins σ H s):Inv (pnd X (X.pn ++ pins)) [] σ H s:=
 ⟨⟨I.ok.mod,I.ok.kind,I.ok.glob,I.ok.blt,I.ok.above,I.ok.inj,I.ok.has,I.ok.cab,I.ok.hd,I.ok.frames,I.ok.stk,I.ok.exf,I.ok.bs,I.ok.bsz,I.ok.noex,I.ok.exfs,I.ok.funs,I.ok.frf⟩,I.os,I.bare,I.base,I.loc,I.cell,I.free,I.freeC,λp hp=>I.pin p (by
  have:p∈(X.pn ++ pins) ++ ([]:List (Addr×Obj)):=hp
  simpa using this),I.hok,I.len⟩
theorem Inv.unpnd (I:Inv (L2.pnd X (X.pn ++ pins)) [] σ H s):Inv X pins σ H s:=
 ⟨⟨I.ok.mod,I.ok.kind,I.ok.glob,I.ok.blt,I.ok.above,I.ok.inj,I.ok.has,I.ok.cab,I.ok.hd,I.ok.frames,I.ok.stk,I.ok.exf,I.ok.bs,I.ok.bsz,I.ok.noex,I.ok.exfs,I.ok.funs,I.ok.frf⟩,I.os,I.bare,I.base,I.loc,I.cell,I.free,I.freeC,λp hp=>I.pin p (by
  show p∈(X.pn ++ pins) ++ ([]:List (Addr×Obj))
  simpa using hp),I.hok,I.len⟩
theorem SP.unpnd {E:Value->Shared->Prop} {D:Ends} {f:Flow} {s':Shared} (h:SP ((L2.pnd X (X.pn ++ pins)).wish E) [] D f s'):SP X pins D f s':=by
 cases f with
 | next=>obtain ⟨σ',H',I,q⟩:=h;exact ⟨σ',H',I.unwish.unpnd,q⟩
 | brk=>obtain ⟨σ',H',I,q⟩:=h;exact ⟨σ',H',I.unwish.unpnd,q⟩
 | cont=>obtain ⟨σ',H',I,q⟩:=h;exact ⟨σ',H',I.unwish.unpnd,q⟩
 | ret u=>obtain ⟨v,σ',H',I,r,q⟩:=h;exact ⟨v,σ',H',I.unwish.unpnd,r,q⟩
theorem Inv.gone {h':Heap} {t':Nat} {n:Str} {j:Nat} {m:Str->Option Value} {v:Option Value} (I:Inv X pins σ H s) (hN:X.N.Nodup) (hj:X.N[j]?=some n) (hm:s.heap.Ns X.env.locals m)
  (hl:∀ (i:Nat) (x:Str) (v:V),X.N[i]?=some x->σ[i]?=some (some v)->Vis X.env.scope x->∃ u,RelV v u/\Look X.env s.heap m x u)
  (hn:h'.Ns X.env.locals (λx=>if x=n then v else m x)) (hs:Heap.SameBut X.env.locals s.heap h'):Inv X pins (σ.set j none) H { s with heap:=h',toks:=t' }:=by
 have ne0:∀ b o,X.s₀.heap.get? b=some o->b≠X.env.locals:=λb o q=>Av (AK (Am q) I.ok.above)
 refine ⟨I.ok,I.os,I.bare,⟨λb o q n hb hx=>?_,λb o q n hb hx=>?_,I.base.free,λb o q hx=>?_,I.base.tups,I.base.frzs,I.base.tbls⟩,⟨_,hn,λi y v' e1 e2 e3=>?_⟩,λy c q=>?_,I.free,I.freeC,λp hp=>?_,λb u q=>?_,by simpa using I.len⟩
 ·exact (hs.2 b (ne0 b o q)).trans (I.base.keep b o q n hb hx)
 ·obtain ⟨sl,e1⟩:=I.base.slot b o q n hb hx
  exact ⟨sl,(hs.2 b (ne0 b o q)).trans e1⟩
 ·obtain ⟨o',e1⟩:=I.base.there b o q hx
  exact ⟨o',(hs.2 b (ne0 b o q)).trans e1⟩
 ·by_cases hij:i=j
  ·subst hij
   have hi:i<σ.length:=by rw[I.len];exact (Ai.mp hj).1
   rw[Ds hi] at e2;cases e2
  ·rw[Bg (AY hij)] at e2
   obtain ⟨u',r',q⟩:=hl i y v' e1 e2 e3;refine ⟨u',r',?_⟩
   rcases q with ⟨k,q⟩|⟨k,c,q,z⟩
   ·have ny:y≠n:=λz=>hij (qke hN e1 (z ▸ hj))
    exact .inl ⟨k,by simp[ny,q]⟩
   ·exact .inr ⟨k,c,q,z.sameBut hs (I.cne y c q)⟩
 ·obtain ⟨w',z⟩:=I.cell y c q
  exact ⟨w',z.sameBut hs (I.cne y c q)⟩
 ·obtain ⟨q,n,ne,nf,d⟩:=I.pin p hp
  exact ⟨(hs.2 p.1 ne).trans q,n,ne,nf,d⟩
 ·refine (I.hok b u q).stay (λc w' hc q'=>(hs.2 c ?_).trans q') (λ_ q=>q) λ_ _ q=>q
  rintro rfl
  rcases hc with z|z
  ·rw[<- z,I.free] at q;cases q
  ·rw[I.free] at z;cases z
theorem qx7 {M:Model} {A:Around} {E:Value->Shared->Prop} {n:Str} {j:Nat} {pos:Pos} {Q:Unit->Shared->Prop} (I:Inv X pins σ H s) (hN:X.N.Nodup) (hj:X.N[j]?=some n) (hl:X.env.kindOf n=some .local)
  (k:∀ s',Inv X pins (σ.set j none) H s'->Q () s'):wpAny M A (do bindName X.env n .none;unbindBehindTheSuite X.env n pos) Q E s:=by
 obtain ⟨m,hm,hl'⟩:=id I.loc;exact wpAny_nameGoes_keeps hl hm (by rw[I.ok.kind];rfl) λh' v hn hs=>k _ (I.gone hN hj hm hl' hn hs)
end
def qEs (K:Frag) (C:Addr) (cls:Value):Prop:=∃ D,cls=.ref D/\PySem.W.ktsIn K D "BaseException" = true/\PySem.W.mroIn K D (.ref C)=some true
theorem qAy {K:Frag} {h:Heap} {C:Addr} {base:Value} {r:Bool} {nm q:Str} {N:Addr} {bs bm:List Value} {hdct:Bool} {sn:List Str} {sub:List Value} {ab:Bool} {col:Option Bool} {dd:Option Addr} {k0 k1 k2 k3 k5:Option Value} {newId:String}
  (X:K.In h) (e:PySem.W.mroIn K C base=some r) (hC:h.get? C=some (excClassObj nm q C N bs bm hdct sn sub ab col dd k0 k1 k2 k3 k5 newId)):(Value.ref C :: bm).contains base=r:=by
 unfold PySem.W.mroIn PySem.W.clsIn at e
 split at e
 case h_1 ho =>
  have:=X _ _ ho;rw[hC] at this;cases this
  simpa using e
 case h_2=>simp at e
theorem qjh {M:Model} {A:Around} {E:Value->Shared->Prop} {K:Frag} {s:Shared} {e C D:Addr} {oe:Obj} {Q:Bool->Shared->Prop} (X:K.In s.heap) (he:s.heap.get? e=some oe) (hcls:oe.cls=.ref D)
  (hC:PySem.W.ktsIn K C "BaseException" = true) (hD:PySem.W.ktsIn K D "BaseException" = true) (hs:PySem.W.mroIn K D (.ref C)=some true) (hq:Q true s):wpAny M A (excMatches (.ref e) (.ref C)) Q E s:=by
 obtain ⟨nm,qn,N,bs,bm,hdct,sn,sub,ab,col,dd,k0,k1,k2,k3,k5,newId,gC,hb,_⟩:=Dv X hC;obtain ⟨nm',qn',N',bs',bm',hdct',sn',sub',ab',col',dd',k0',k1',k2',k3',k5',newId',gD,hb',_⟩:=Dv X hD;have hcB:(Value.ref C :: bm).contains (.type "BaseException")=true:=by rw[List.contains_cons,hb,EY]
 have hcC:=qAy X hs gD;have f:=tc_notTuple;obtain ⟨hp,g,d,tk,os⟩:=s;unfold excMatches
 repeat (first|(with_reducible refine BG he ?_;rw[hcls])|with_reducible refine BG gC ?_|(with_reducible refine CZ gC ?_;rw[hcB])|(with_reducible refine CZ gD ?_;rw[hcC])|wp_step)
 exact hq
def qDb (D:Ends) (j:Nat):Ends:={ nx:=λσ H=>D.nx (σ.set j none) H,rt:=D.rt,bk:=λσ H=>D.bk (σ.set j none) H,ct:=λσ H=>D.ct (σ.set j none) H }
def hW (K:Frag) (C:Addr) (th:TS) (j:Nat) (D:Ends):XW:=λcls dd σ H=>qEs K C cls/\∀ e H',New H H' e (qzx e cls dd)->th (qDb D j) (σ.set j (some (.ref e))) H'
def qEt (K:Frag) (C:Addr) (tb:XW->TS) (th:TS) (j:Nat):TS:=λD σ H=>tb (hW K C th j D) D σ H
theorem qwn {X:Cx} {C:Addr} {x n:Str} {j:Nat} {np hpos pos:Pos} {body suite:List Stmt} {b₀:Stmt} {tb:XW->TS} {th:TS} (hs:qgc X) (hN:X.N.Nodup) (hj:X.N[j]?=some n) (hl:X.env.kindOf n=some .local) (hx:X.env.scope.names.lookup n=some .local)
  (hg:Gl X x) (hm:X.mg x=some (.ref C)) (hC:PySem.W.ktsIn X.K C "BaseException" = true)
  (hb:∀ pn W,PSs ((pnd X pn).wish (XE (pnd X pn) W)) body (tb W)) (hh:∀ pn e,PSs (hnd (pnd X pn) e) (b₀ :: suite) th) (hdb:(x == ("__debug__" : Str))=false:=by decide) :
  PS X (.Try body [.ExceptHandler (some (.Name x np)) (some n) (b₀ :: suite) hpos] [] [] pos) (qEt X.K C tb th j):=by
 intro pins s σ H D I h;have I0:Inv (pnd X (X.pn ++ pins)) [] σ H s:=I.pnd;refine wpAny_Try_except (A7 (hb (X.pn ++ pins) _ [] s σ H D (I0.wish _) h) (λf s1 q=>?_) λev s1 q=>?_)
 ·cases f with
  | next=>exact Dt q.unpnd
  | brk=>exact q.unpnd
  | cont=>exact q.unpnd
  | ret u=>exact q.unpnd
 ·obtain ⟨e,cls,dd,σ1,H1,rfl,I1,F1,⟨DC,rfl,hD,hDC⟩,w1⟩:=q
  have hs':qgc (pnd X (X.pn ++ pins)):=hs;refine qnl (X:=pnd X (X.pn ++ pins)) hs' I1.ok.frames I1 F1 λh2 T I2 hT F2=>?_
  refine qfq none I2 hT F2 λh3 I3 F3=>?_
  obtain ⟨oe,vs,oT,ts,he,hc,_⟩:=id F3;refine wpAny_handleBy_cons (codeAny_handlers_test (qdg (X:=hnd (pnd X (X.pn ++ pins)) e) (I3.hnd e) hg hm ?_ hdb)) (by intro q;cases q);refine qjh (s:={ s1 with heap:=h3 }) I3.kIn he hc hC hD hDC (codeAny_handlers_suite_as ?_);refine qfq none I3 hT F3 λh4 I4 F4=>?_
  obtain ⟨oe,vs,oT,ts,he,hc,hdd,hd,_⟩:=id F4;have I5:Inv (pnd X (X.pn ++ pins)) [] σ1 (upd H1 e (qzx e (.ref DC) dd)) { s1 with heap:=h4 }:=I4.track F1.1 ⟨⟨oe,vs,he,hc,hdd,hd⟩,⟨oe,he⟩,λg1 g2 ⟨o',v',q1,q2,q3,q4⟩ k=>⟨o',v',k _ q1,q2,q3,q4⟩⟩;refine qkf (X:=pnd X (X.pn ++ pins)) (v:=.ref e) I5 hN hj (.inl hx) rfl (λs6 I6=>?_) (.inr hx);have w2:=w1 e _ (qbb F1.1.1);refine A7 (hh (X.pn ++ pins) e [] s6 _ _ _ (I6.hnd e) w2) (λf s7 q=>?_) λ_ _ z=>False.elim z
  have go:∀ {σ7 H7},Inv (hnd (pnd X (X.pn ++ pins)) e) [] σ7 H7 s7->∀ {Q:Unit->Shared->Prop},(∀ s',Inv X pins (σ7.set j none) H7 s'->Q () s')->wpAny (model X.prog X.w) X.A (do bindName X.env n .none;unbindBehindTheSuite X.env n hpos) Q X.xe s7:=fun {σ7 H7} J {Q} k =>
   qx7 (Inv.unpnd (Inv.unhnd I.ok.hd J)) hN hj hl k
  cases f with
  | next=>obtain ⟨σ7,H7,J,q7⟩:=q;exact go J λs' J'=>⟨_,_,J',q7⟩
  | brk=>obtain ⟨σ7,H7,J,q7⟩:=q;exact go J λs' J'=>⟨_,_,J',q7⟩
  | cont=>obtain ⟨σ7,H7,J,q7⟩:=q;exact go J λs' J'=>⟨_,_,J',q7⟩
  | ret u=>obtain ⟨v,σ7,H7,J,r,q7⟩:=q;exact go J λs' J'=>⟨v,_,_,J',r,q7⟩
open PySem PySem.Spec PyProof.Rows
structure qnm (K:Frag) (D:Addr):Prop where
 ga:PySem.W.findIn K (.ref D) "__getattribute__" = some (some (.builtin "BaseException.__getattribute__"))
 gt:PySem.W.findIn K (.ref D) "__getattr__" = some none
 cl:PySem.W.findIn K (.ref D) "__class__" = some (some (.builtin "object.__class__"))
 ob:PySem.W.mroIn K D (.type "object")=some true
 be:PySem.W.mroIn K D (.type "BaseException")=some true
 kt:PySem.W.ktsIn K D "BaseException" = true
section
variable {prog:Program} {w:World} {A:Around} {E:Value->Shared->Prop} {s:Shared} {K:Frag} {a D:Addr} {oe:Obj} {vs:Array Value}
theorem qsc {Q:Option Value->Shared->Prop} (X:K.In s.heap) (F:qnm K D) (he:s.heap.get? a=some oe) (hc:oe.cls=.ref D) (hd:oe.data=.fields vs) (hdx:∀ dx,oe.dict=some dx->∃ o,s.heap.get? dx=some o) (h:Q (some (.ref D)) { s with toks:=s.toks+1 }) :
  wpAny (model prog w) A (getAttr? (.ref a) "__class__") Q E s:=by
 obtain ⟨hh,g,d,t,os⟩:=s;have L0:PySem.W.Looks (model prog w) hh (typeOf (.ref a)) (.ref D):=hc ▸ (DW he).andThen .now;have L1:=Bz (M:=model prog w) X F.ga;have L2':=Bz (M:=model prog w) X F.gt;have L3:=Bz (M:=model prog w) X F.cl;have L4:=DG (M:=model prog w) X F.be;have f3:=(CA).ga.bind (.ref a);have hx2:(Value.builtin "BaseException.__getattribute__" == Value.builtin "object.__getattribute__")=false:=by decide +kernel
 unfold getAttr? getAttrBy? getAttrBy;refine Aa (wpAny_mkText (Aa (Cs (Bk (Aa (L0.at (Aa (L1.at ?_))))))));have hsel:(onTheHeap (Value.ref D) && Value.builtin "BaseException.__getattribute__" == Value.builtin "object.__getattribute__")=false:=by rw[hx2];rfl
 dsimp only;rw[Ah (by rw[hsel];decide)];unfold getAttrByItsOwn;have hx0:(false && onTheHeap (Value.builtin "BaseException.__getattribute__"))=false:=rfl;unfold hookBefore;refine Aa ?_;rw[Al (show onTheHeap (Value.ref D)=true from rfl)];refine L2'.at ?_;refine Aa (Cs (Bk ?_));unfold callGetattribute;rw[Ah (by decide)];unfold boundAndCalled;rw[f3];refine Aa (Ae ?_);refine BY (BQ CA.ga.plain E6 ?_);have hk:builtinKind "BaseException.__getattribute__" = some .slot:=by decide +kernel
 have hsplit:splitId "BaseException.__getattribute__" = some ("BaseException", "__getattribute__"):=by decide +kernel
 have ha:=Fi (.ref a) (.str "__class__" t);have hT5:(⟨hh,g,d,t,os⟩:Shared).TypeIs (.builtin "object.__class__") "getset_descriptor" :=Ei;have f5:=Ei;have f6:=PySem.F.slot_gs_get.lookup;have f7:=PySem.F.slot_gs_set.lookup;simp only[checkBuiltinCall,hk,hsplit];refine Aa ?_;unfold isInstance
 repeat (first|with_reducible refine L0.at ?_|with_reducible refine L4.at ?_|wp_step)
 refine L3.at ?_
 repeat (any_goals (first|assumption|with_reducible refine L0.at ?_|wp_step))
 obtain ⟨od,I⟩:∃ od,PySem.W.InstAt hh a oe D od:=by
  cases q:oe.dict with
  | none=>exact ⟨none,he,hc,by unfold PySem.W.notCls;rw[hd],by rw[q];trivial⟩
  | some dx =>
   obtain ⟨o,ho⟩:=hdx dx q;exact ⟨some o,he,hc,by unfold PySem.W.notCls;rw[hd],by rw[q];exact ho⟩
 refine PySem.W.class_get (s:=⟨hh,g,d,t+1,os⟩) (od:=od) X I F.ob ?_;refine Ae ?_;exact PySem.W.handed_on rfl (Ae h)
def qEu (a D:Addr) (h:Heap):Prop:=∃ oe vs,h.get? a=some oe/\oe.cls=.ref D/\oe.data=.fields vs/\∀ dx,oe.dict=some dx->∃ o,h.get? dx=some o
theorem qvc (F:qnm K D):PySem.W.KitX K (.ref a) (.ref D) (qEu a D) where
 ty:=λM h _ ⟨oe,vs,he,hc,_⟩=>hc ▸ (DW he).andThen .now
 it:=λ_ _ X _=>by
  obtain ⟨nm,qn,N,bs,bm,hdct,sn,sub,ab,col,dd,k0,k1,k2,k3,k5,newId,gD,_⟩:=Dv X F.kt;intro A' Q' E' s' k q;unfold isType loadHead;exact Aa (wpAny_loadPart (k _ _ gD) (Ae q))
 ne:=λh tp dd its n sl X htp=>by
  obtain ⟨nm,qn,N,bs,bm,hdct,sn,sub,ab,col,dd,k0,k1,k2,k3,k5,newId,gD,_⟩:=Dv X F.kt;refine Bool.eq_false_iff.mpr λq=>?_
  have e:D=tp:=Value.ref.inj (BZ.mp q);subst e;rw[gD] at htp;have h2:=congrArg (Option.map Obj.cls) htp
  simp at h2
 ca:=λX ⟨oe,vs,he,hc,hd,hdx⟩ k=>qsc X F he hc hd hdx k
end
def qDc:V->Value
 | .ref C=>.ref C
 | .ty T=>.type T
 | _=>.none
theorem qlq {X:Cx} {K:Frag} (hK:X.K=K):CallR X (.builtin "isinstance") (λxs H Q=>∃ a D dd c b,xs=[.ref a,c]/\H a=some (qzx a (.ref D) dd)/\qnm K D/\(∀ dx,dd=some dx->∃ fs,H dx=some (.xd fs))/\PySem.W.kitOne K (.ref D) (qDc c)=some b/\Q (.bl b) H):=by
 subst hK;intro pins s σ H xs us Q I r h;obtain ⟨a,D,dd,c,b,rfl,ha,F,hdd,e,q⟩:=h;obtain ⟨u,w',rfl,ru,rw'⟩:=vals2 r
 cases (show u=Value.ref a from ru)
 have hw:w'=qDc c:=by
  cases c<;>first|exact rw'|(exfalso;simp[PySem.W.kitOne,PySem.W.kitCls,qDc] at e)
 subst hw;obtain ⟨⟨oe,vs,he,hc,hdc,hd⟩,_⟩:=(show ObjOk X.prog X.w H s.heap a (qzx a (.ref D) dd) from I.hok a _ ha);refine Bq (qvc F) I.kIn ⟨oe,vs,he,hc,hd,λdx z=>?_⟩ e (λz=>nomatch z) λtk=>⟨.bl b,H,I.tok tk,rfl,q⟩
 obtain ⟨fs,hx⟩:=hdd dx (hdc.symm.trans z);exact (I.hok dx _ hx).there
open PySem PySem.Spec PyProof.Rows
section
variable {X:Cx}
theorem qsd (hc:X.calm=true):CallR X (.builtin "max") (λxs H Q=>∃ (p:Addr) (ns:List Int),xs=[.ref p]/\SqL X.K H p (ns.map V.int)/\0<ns.length/\∀ m,m∈ns->(∀ a∈ns,a<=m)->Q (.int m) H):=by
 intro pins s σ H xs us Q I r h;obtain ⟨p,ns,rfl,hq,hne,q⟩:=h;obtain ⟨u,rfl,ru⟩:=vals1 r
 cases (show u=Value.ref p from ru)
 obtain ⟨its,rv,pl,hz⟩:=I.list hq;have hi:IntsAre its ns:=L2.intsAre_of rv;obtain ⟨ys,e⟩:=hi.allInts.items;have hns:ns=ys.toList.map (·.1):=by rw[<- hi.numsOf,<- Ez,<- e]
 have hl:=pl.isList;rw[e] at hl;have hsz:0<ys.size:=by have h3:=hne;rw[hns,Ac,Bb] at h3;exact h3
 refine max_intList (I.ok.hd hc) hl hsz λv h' tk hv hk=>?_
 obtain ⟨t,rfl⟩:=intItems_at hv;obtain ⟨h1,h2⟩:=argBest_gt (numAt ys) (ys.size-1);refine ⟨.int _,H,I.kept hk,⟨t,rfl⟩,q _ ?_ λa ha=>?_⟩
 ·rw[hns,Fe];exact getD_mem (by rw[Ac,Bb];omega)
 ·rw[hns] at ha
  obtain ⟨j,hj,rfl⟩:=mem_getD ha;rw[Ac,Bb] at hj;rw[<- Fe];exact h2 j (by omega)
theorem qse (hc:X.calm=true):CallR X (.builtin "min") (λxs H Q=>∃ (p:Addr) (ns:List Int),xs=[.ref p]/\SqL X.K H p (ns.map V.int)/\0<ns.length/\∀ m,m∈ns->(∀ a∈ns,m<=a)->Q (.int m) H):=by
 intro pins s σ H xs us Q I r h;obtain ⟨p,ns,rfl,hq,hne,q⟩:=h;obtain ⟨u,rfl,ru⟩:=vals1 r
 cases (show u=Value.ref p from ru)
 obtain ⟨its,rv,pl,hz⟩:=I.list hq;have hi:IntsAre its ns:=L2.intsAre_of rv;obtain ⟨ys,e⟩:=hi.allInts.items;have hns:ns=ys.toList.map (·.1):=by rw[<- hi.numsOf,<- Ez,<- e]
 have hl:=pl.isList;rw[e] at hl;have hsz:0<ys.size:=by have h3:=hne;rw[hns,Ac,Bb] at h3;exact h3
 refine min_intList (I.ok.hd hc) hl hsz λv h' tk hv hk=>?_
 obtain ⟨t,rfl⟩:=intItems_at hv;obtain ⟨h1,h2⟩:=argBest_lt (numAt ys) (ys.size-1);refine ⟨.int _,H,I.kept hk,⟨t,rfl⟩,q _ ?_ λa ha=>?_⟩
 ·rw[hns,Fe];exact getD_mem (by rw[Ac,Bb];omega)
 ·rw[hns] at ha
  obtain ⟨j,hj,rfl⟩:=mem_getD ha;rw[Ac,Bb] at hj;rw[<- Fe];exact h2 j (by omega)
end
theorem qot:bootBuiltins "max" = some (.builtin "max"):=by decide +kernel
theorem qwo:bootBuiltins "min" = some (.builtin "min"):=by decide +kernel
theorem qed:bootBuiltins "sorted" = some (.builtin "sorted"):=by decide +kernel
theorem qaz {X:Cx} (hs:qgc X):qkn X.nox (λ_ _ _ _=>False):=⟨hs,λ_ _ ⟨_,_,_,_,_,_,_,_,w⟩=>w⟩
open PySem PySem.Spec PyProof.Rows
theorem qx8 {H H':Hp} {a:Addr} {o:HO} (s:Same H H') (h:H a=some o):H' a=some o:=s _ _ h
theorem qAz {H H':Hp} {p a:Addr} {u o:HO} (n:New H H' p u) (h:H a=some o):H' a=some o:=n.same _ _ h
theorem qx9 {H H1 H2:Hp} {p:Addr} {u:HO} (a:Same H H1) (n:New H1 H2 p u):Same H H2:=a.trans n.same
open PySem PySem.Spec PyProof.Rows
section
variable {X:Cx} {e e1:Expr} {te t1:TE} {pos p2:Pos}
end
open PySem PySem.Spec PyProof.Rows
section
variable {prog:Program} {w:World} {A:Around} {R:Result->Shared->Prop} {I:Addr} {fp wr:List Addr} {n:Nat} {P:Nat->Value->Prop} {St:Nat->Heap->Prop} {d:Value}
end
section
variable {X:Cx}
theorem qhx:∀ {bs:List Bool} {us:List Value},Vals (bs.map V.bl) us->us=bs.map Value.bool
 | [],_,.nil=>rfl
 | b :: r,_,.cons h t=>by cases (show _=Value.bool b from h);rw[qhx t];rfl
theorem qou (hc:X.calm=true):CallR X (.builtin "all") (λxs H Q=>∃ (p:Addr) (bs:List Bool),xs=[.ref p]/\SqL X.K H p (bs.map V.bl)/\Q (.bl (bs.all id)) H):=by
 intro pins s σ H xs us Q I r h;obtain ⟨p,bs,rfl,hq,q⟩:=h;obtain ⟨u,rfl,ru⟩:=vals1 r
 cases (show u=Value.ref p from ru)
 obtain ⟨its,rv,pl,hz⟩:=I.list hq;have hl:=pl.isList;have hlt:p<s.heap.objs.size:=by obtain ⟨_,e,_⟩:=hl;exact Am e
 have hb:=qhx rv;refine call_all_walk (Ce hl ?_);refine ⟨s.heap.objs.size,[s.heap.objs.size,p],[s.heap.objs.size],its.toArray.size,_,_,λi=>(bs[i]?).getD true,rfl,Walks.list (A:=X.A.in1) (I.ok.hd hc) _ p (Av hlt) its.toArray,
  ⟨⟨_,Ao _ rfl,rfl,rfl⟩,hl.push _⟩,λi v s' Q' E' hP hQ=>?_,λh' tk hk=>?_⟩
 ·rw[hb] at hP
  have hP':(bs.map Value.bool)[i]?=some v:=by simpa using hP
  rw[Ay] at hP';obtain ⟨b,e1,e2⟩:=AH.mp hP';subst e2;simp only[e1,Dh] at hQ;exact BP hQ
 ·have e:((List.range its.toArray.size).all λi=>(bs[i]?).getD true)=bs.all id:=by
   rw[Ax,hb,Ac];exact PyProof.Rows.LSm.range_all bs
  rw[e];refine ⟨.bl _,H,I.kept λb o q=>hk b o (λhm=>?_) (Ab _ q),rfl,q⟩;rw[Aj.mp hm] at q;exact absurd (Am q) (BC _)
end
theorem qwp:bootBuiltins "all" = some (.builtin "all"):=by decide +kernel
open PySem PyProof PyProof.Rows
section
variable {X:Cx}
end
open PySem PySem.Spec PyProof.Rows
section
variable {prog:Program} {w:World} {A:Around} {E:Value->Shared->Prop} {s:Shared}
end
section
variable {X:Cx}
end
open PySem PySem.Spec PyProof.Rows
def RawD (h:Heap) (d:Addr) (es:Array DictEntry) (ep:Nat):Prop:=∃ o,h.get? d=some o/\o.ExactDict/\o.data=.dict es ep
theorem RawD.ty {s:Shared} {d:Addr} {es:Array DictEntry} {ep:Nat} (x:RawD s.heap d es ep):s.TypeIs (.ref d) "dict" :=let ⟨o,a,b,_⟩:=x;⟨o,a,b.1⟩
theorem RawD.up {h h':Heap} {d:Addr} {es:Array DictEntry} {ep:Nat} (x:RawD h d es ep) (e:∀ o,h.get? d=some o->h'.get? d=some o):RawD h' d es ep:=let ⟨o,a,b⟩:=x;⟨o,e o a,b⟩
theorem RawD.lt {h:Heap} {d:Addr} {es:Array DictEntry} {ep:Nat} (x:RawD h d es ep):d<h.objs.size:=let ⟨_,a,_⟩:=x;Am a
section
variable {prog:Program} {w:World} {A:Around} {E:Value->Shared->Prop} {s:Shared}
abbrev qDd (d:Addr) (n ep:Nat):Obj:={ cls:=.type "dict_keyiterator",data:=.fields #[.ref d,.int 0 0,.int n 0,.int ep 0] }
theorem qya {d:Addr} {es:Array DictEntry} {ep:Nat} {Q:Value->Shared->Prop} (lo:(d == sysModules)=false) (hm:RawD s.heap d es ep) (hQ:Q (.ref s.heap.objs.size) { s with heap:=s.heap.push (qDd d es.size ep) }) :
  wpAny (model prog w) A (pyIter (.ref d)) Q E s:=by
 have ty:=hm.ty;obtain ⟨o,h1,h2,h3⟩:=hm;refine wpAny_pyIter_slot ty F.slot_dict_iter (BK F.slot_dict_iter ty F.entry_dict_iter ?_ (F.args_dict_iter_1 _));unfold Builtin.«dict.__iter__»;refine Aa ?_;unfold Builtin.Dict.dictSlotNone;refine Aa (wpAny_notOrdered_dict ty ?_)
 show wpAny _ _ (pure (Value.ref d)) _ _ s;refine Ae ?_
 show wpAny _ _ (Builtin.Dict.showsAll d >>= _) _ _ s;unfold Builtin.Dict.showsAll
 rw[Ah (by rw[lo];exact AD)];refine Aa (Ae ?_);refine Aa (DO h1 h3 ?_);refine Aa (Ea h1 h3 ?_);refine Aa (BD (Ae ⟨_,rfl, "dict_keyiterator",_,⟨_,Ao _ rfl,rfl⟩,BH.lookup,?_⟩));simpa [rawInt] using hQ
theorem qyb {it d:Addr} {i ep:Nat} {es:Array DictEntry} {Q:Option Value->Shared->Prop} (hJ:s.heap.IsKeyIter it d i es.size ep) (hm:RawD s.heap d es ep) (hx:i<es.size)
  (hQ:∀ h',h'.IsKeyIter it d (i+1) es.size ep->Heap.SameBut it s.heap h'->Q (some es[i].key) { s with heap:=h' }):wpAny (model prog w) A (pyNext (.ref it)) Q E s:=by
 obtain ⟨o,ho,hc,hd⟩:=id hJ;obtain ⟨od,h1,h2,h3⟩:=hm;have ty:=hJ.typeIs;unfold pyNext;refine Aa (Cs (wpAny_callSpecial?_slot (name:=Str.ofString "__next__") ty BH (BK BH ty D9 ?_ (D1 _))));refine Aa (Ae ?_);refine Aa ?_;refine Aa ?_
 first|refine Aa (BX ty (Ae ?_))|refine Aa (Cr ty (Ae ?_))
 refine Aa (wpAny_fieldsOf ho hd ?_);simp only[show Builtin.Dict_items.ownsTuple "dict_keyiterator" = false by decide,Cz,CO]
 show wpAny _ _ (if (Value.ref d == Value.none)=true then _ else _) _ _ s;rw[Ah (show ¬ ((Value.ref d == Value.none)=true) from AD)]
 refine Aa (Ae ?_);refine Aa (DO h1 h3 ?_);rw[Ah (by simp)];refine Aa (Ae ?_);refine Aa (Ea h1 h3 ?_);rw[Ah (by simp)];refine Ae ?_;simp only[show ¬ ((i:Int)<0) from by omega,CO,DS,Bv hx];refine Aa ?_
 first|refine Aa (BX ty (Ae ?_))|refine Aa (Cr ty (Ae ?_))
 refine Aa (E3 ty ?_)
 show wpAny _ _ (setField (.ref it) 1 (rawInt ((i:Int)+1)) >>= _) _ _ s;refine Aa (CF ho hd (by simp) ?_)
 have hJ':(s.heap.update it (Obj.mapFields (·.setIfInBounds 1 (rawInt ((i:Int)+1))))).IsKeyIter it d (i+1) es.size ep:=⟨_,BN _ ho (Dz (Cw hd _)),(Obj.cls_mapFields ..).trans hc,by rw[Cw hd];simp[rawInt]⟩;refine Aa (Bk ?_);refine Aa (E3 (s:={ s with heap:=s.heap.update it (Obj.mapFields (·.setIfInBounds 1 (rawInt ((i:Int)+1)))) }) hJ'.typeIs ?_)
 show wpAny _ _ (pure es[i].key) _ _ _
 exact Ae (Ae ⟨_,rfl,Ae (hQ _ hJ' (C0 ..))⟩)
theorem qA0 {it d:Addr} {ep:Nat} {es:Array DictEntry} {Q:Option Value->Shared->Prop} (hh:A.handled=none) (hJ:s.heap.IsKeyIter it d es.size es.size ep) (hm:RawD s.heap d es ep)
  (hQ:∀ h',Heap.ExtBut it s.heap h'->Q none { s with heap:=h' }):wpAny (model prog w) A (pyNext (.ref it)) Q E s:=by
 obtain ⟨o,ho,hc,hd⟩:=id hJ;obtain ⟨od,h1,h2,h3⟩:=hm;have ty:=hJ.typeIs;unfold pyNext;refine Aa (Cs (wpAny_callSpecial?_slot (name:=Str.ofString "__next__") ty BH (BK BH ty D9 ?_ (D1 _))));refine Aa (Ae ?_);refine Aa ?_;refine Aa ?_
 first|refine Aa (BX ty (Ae ?_))|refine Aa (Cr ty (Ae ?_))
 refine Aa (wpAny_fieldsOf ho hd ?_);simp only[show Builtin.Dict_items.ownsTuple "dict_keyiterator" = false by decide,Cz,CO]
 show wpAny _ _ (if (Value.ref d == Value.none)=true then _ else _) _ _ s;rw[Ah (show ¬ ((Value.ref d == Value.none)=true) from AD)]
 refine Aa (Ae ?_);refine Aa (DO h1 h3 ?_);rw[Ah (by simp)];refine Aa (Ae ?_);refine Aa (Ea h1 h3 ?_);rw[Ah (by simp)];refine Ae ?_;simp only[show ¬ ((es.size:Int)<0) from by omega,CO,DS,Array.getElem?_eq_none (Ag _)];refine Aa ?_
 first|refine Aa (BX ty (Ae ?_))|refine Aa (Cr ty (Ae ?_))
 show wpAny _ _ (setField (.ref it) 0 .none >>= _) _ _ s;refine Aa (CF ho hd (by simp) ?_)
 show wpAny _ _ (newExc (.type "StopIteration") [] >>= _) _ _ _;refine Aa ?_
 simp only[newExc,newTuple];refine Aa (BD ?_ (by size_fits));refine Aa (m:=firstArgMember _ _) (wpAny_of_eq (a:=Value.none) (by first|rfl|(simp only[firstArgMember];rfl)) ?_);refine BD ?_ (by size_fits);simp only[raiseNew];refine Aa (wpAny_handled ?_);rw[show A.in1.handled=none from hh];refine Aa (Ae (wpAny_throw ?_));refine Aa (DU (T:= "StopIteration") (b:=true) ⟨_,Ao _ rfl,rfl⟩ isSubtype_stop ?_);exact Ae (hQ _ (((C0 ..).extBut.push _).push _))
theorem qvd (hh:A.handled=none) (J d:Addr) (hne:d≠J) (es:Array DictEntry) (ep:Nat) :
  Walks prog w A J [J,d] [J] es.size (λi v=>∃ e,es[i]?=some e/\v=e.key) (λi h=>h.IsKeyIter J d i es.size ep/\RawD h d es ep) where
 sub:=λb hb=>by simp at hb;simp[hb]
 frame:=λ_ _ _ st hk=>⟨st.1.at λo e=>hk J (by simp) o e,st.2.up λo e=>hk d (by simp) o e⟩
 item:=λi s Q E hi st hQ=>by
  refine qyb st.1 st.2 hi λh' hJ' hs'=>?_
  exact hQ _ h' s.toks ⟨es[i],by simp[hi],rfl⟩ ⟨hJ',st.2.up λo e=>hs'.extBut d o hne e⟩ λb o hb e=>hs'.extBut b o (λh=>hb (by simp[h])) e
 done:=λs Q E st hQ=>qA0 hh st.1 st.2 λh' he'=>hQ h' s.toks λb o hb e=>he' b o (λh=>hb (by simp[h])) e
 self:=λ_ _ _ _ st hQ=>wpAny_pyIter_keyiter st.1 hQ
theorem qwq {d:Addr} {es:Array DictEntry} {ep:Nat} (lo:(d == sysModules)=false):PySem.W.KdlSrc prog w "dict" d d es.size (λi v=>∃ e,es[i]?=some e/\v=e.key) (λh=>RawD h d es ep) where
 type:=λ_ hm=>hm.ty
 there:=λ_ hm=>⟨hm.lt,hm.lt⟩
 keep:=λ_ _ hm hk=>hm.up λo e=>hk d (.inl rfl) o e
 notList:=by decide
 notTuple:=by decide
 hint:=λ_ _ _ _ hm hq=>PySem.W.kdl_hint_dict hm.ty hq
 iter:=λ_ _ hh hm=>⟨_,_,(λ_ _ hq=>qya lo hm hq),qvd hh _ d (Av hm.lt) es ep,⟨⟨_,Ao _ rfl,rfl,rfl⟩,hm.up λ_ e=>Ab _ e⟩⟩
end
open PySem PySem.Spec PyProof.Rows
section
variable {prog:Program} {w:World} {A:Around} {E:Value->Shared->Prop} {s:Shared}
theorem qqf {a:Addr} {vs:List Value} {n:Nat} {P:Fin->Shared->Prop} (ho:s.heap.get? a=some (seqObj "list" vs.toArray n)) (h2:vs.length<2)
  (h:P (.done (.ret .none)) { s with heap:=sortedHeap s.heap a vs ((vs.toArray.zip vs.toArray).map (·.2)) }):wpAny (model prog w) A (Builtin.«list.sort» ⟨[.ref a],[]⟩) P E s:=by
 rw[list_sort_plain];have la:a<s.heap.objs.size:=Am ho;refine Aa (listItems_at ho rfl ?_);refine Aa (DK ho rfl ?_);obtain ⟨e1,h1⟩:∃ e1,(s.heap.update a (Obj.mapSeq λ_=>#[])).get? a=some (seqObj "list" #[] e1):=⟨_,get?_update_seq ho (λ_=>#[])⟩;refine Aa (D4 h1 rfl ?_);refine Aa (Ej ?_);refine Aa (DJ ?_);refine Bk ?_;have h6:(((s.heap.update a (Obj.mapSeq λ_=>#[])).push (seqObj "tuple" vs.toArray 0)).push (seqObj "list" #[] 0)).get? a=some (seqObj "list" #[] e1):=by
  rw[De _ _ _ (by rw[Ek,Dm];exact Av (CH la)),De _ _ _ (by rw[Dm];exact Av la)];exact h1
 show wpAny (model prog w) A _ P E { s with heap:=((s.heap.update a (Obj.mapSeq λ_=>#[])).push (seqObj "tuple" vs.toArray 0)).push (seqObj "list" #[] 0) }
 dsimp only;have z2:vs.toArray.size<2:=by simpa using h2
 rw[Al z2,Al z2];refine Aa (Ae ?_);rw[StateT.run_pure];refine Aa (Ae ?_);dsimp only;refine Aa (D4 h6 rfl ?_);refine Aa (DK h6 rfl ?_ (hsz2:=by rw[Er];show (pairsOf vs).size<=_;rw[pairsOf_size,Bl];omega));simp only[bne_self_eq_false,Cz,CO];exact Ae h
end
theorem qyc (vs:List Value):(vs.toArray.zip vs.toArray).map (·.2)=vs.toArray:=by
 apply Array.ext'
 simpa using List.map_snd_zip (l₁:=vs) (l₂:=vs) (Ag _)
section
variable {X:Cx}
end
open PySem PySem.Spec PyProof.Rows
section
variable {X:Cx} {tg:Expr}
end
section
variable {X:Cx}
inductive qsf (K:Frag) (x y:V) (H:Hp) (Q:VK):Prop
 | mk:∀ a b xs ys,x=.ref a->y=.ref b->SqT K H a xs->SqT K H b ys->xs≠[]->ys≠[]->xs.length+ys.length<=sizeLine->(∀ p H',New H H' p (.tup (xs ++ ys))->Q (.ref p) H')->qsf K x y H Q
def qsg (K:Frag):R2:=λx y H Q=>qsf K x y H Q
theorem qov:OpR X (binaryOp .Add) (qsg X.K):=op_catT.imp λ_ _ _ _ ⟨a,b,xs,ys,e1,e2,h1,h2,z,zy,hz,q⟩=>⟨a,b,xs,ys,e1,e2,h1,h2,z,hz,λe=>absurd e zy,λ_ p hp=>q p _ (qbb hp)⟩
def qA1:TE:=λ_ H Q=>∀ p H',New H H' p (.dT [])->Q (.ref p) H'
theorem qow {pos:Pos}:PE X (.Dict [] [] pos) qA1:=λpins s σ H Q I h=>qu1 pins s σ H Q I λp hp=>h p _ (qbb hp)
end
open PySem PySem.Spec PyProof.Rows
end L2
namespace L2
theorem lq1 {α:Type} {us:List α} (h:us.length=1):∃ a,us=[a]:=by
 cases us with
 | nil=>cases h
 | cons a r=>exact ⟨a,by rw[CB.mp (C1 h)]⟩
theorem lq2 {α:Type} {us:List α} (h:us.length=2):∃ a0 a1,us=[a0,a1]:=by
 cases us with
 | nil=>cases h
 | cons a r=>obtain ⟨a1,e⟩:=lq1 (C1 h);exact ⟨a,a1,by rw[e]⟩
theorem lq3 {α:Type} {us:List α} (h:us.length=3):∃ a0 a1 a2,us=[a0,a1,a2]:=by
 cases us with
 | nil=>cases h
 | cons a r=>obtain ⟨a1,a2,e⟩:=lq2 (C1 h);exact ⟨a,a1,a2,by rw[e]⟩
theorem lq4 {α:Type} {us:List α} (h:us.length=4):∃ a0 a1 a2 a3,us=[a0,a1,a2,a3]:=by
 cases us with
 | nil=>cases h
 | cons a r=>obtain ⟨a1,a2,a3,e⟩:=lq3 (C1 h);exact ⟨a,a1,a2,a3,by rw[e]⟩
theorem lq5 {α:Type} {us:List α} (h:us.length=5):∃ a0 a1 a2 a3 a4,us=[a0,a1,a2,a3,a4]:=by
 cases us with
 | nil=>cases h
 | cons a r=>obtain ⟨a1,a2,a3,a4,e⟩:=lq4 (C1 h);exact ⟨a,a1,a2,a3,a4,by rw[e]⟩
theorem lq6 {α:Type} {us:List α} (h:us.length=6):∃ a0 a1 a2 a3 a4 a5,us=[a0,a1,a2,a3,a4,a5]:=by
 cases us with
 | nil=>cases h
 | cons a r=>obtain ⟨a1,a2,a3,a4,a5,e⟩:=lq5 (C1 h);exact ⟨a,a1,a2,a3,a4,a5,by rw[e]⟩
open PySem PySem.Spec PyProof.Rows PySem.W
def KW (lt:Nat->Nat->Bool) (n:Nat) {α:Type}:KasT α->(α->Prop)->Prop
 | .ret a,Q=>Q a
 | .ask i j k,Q=>i<n/\j<n/\KW lt n (k (lt i j)) Q
theorem KW.bind {lt:Nat->Nat->Bool} {n:Nat} {α β:Type} {f:α->KasT β} {Q:β->Prop}:∀ {t:KasT α},KW lt n t (λa=>KW lt n (f a) Q)->KW lt n (t.bind f) Q
 | .ret a,h=>by rw[KasT.bind.eq_1];exact h
 | .ask i j k,h=>by
  rw[KasT.bind.eq_2];exact ⟨h.1,h.2.1,KW.bind h.2.2⟩
theorem KW.mono {lt:Nat->Nat->Bool} {n:Nat} {α:Type} {Q Q':α->Prop} (hq:∀ a,Q a->Q' a):∀ {t:KasT α},KW lt n t Q->KW lt n t Q'
 | .ret a,h=>hq a h
 | .ask i j k,h=>⟨h.1,h.2.1,KW.mono hq h.2.2⟩
theorem KW.run {lt:Nat->Nat->Bool} {n:Nat} {α:Type} {Q:α->Prop} {cmp:Nat->Nat->(Bool->Shared->Prop)->Shared->Prop} {s:Shared} (hc:∀ i j (C:Bool->Shared->Prop),i<n->j<n->C (lt i j) s->cmp i j C s) :
  ∀ {t:KasT α},KW lt n t Q->KasT.kasWp cmp t (λa s'=>s'=s/\Q a) s
 | .ret a,h=>by rw[KasT.kasWp.eq_1];exact ⟨rfl,h⟩
 | .ask i j k,h=>by
  rw[KasT.kasWp.eq_2];exact hc i j _ h.1 h.2.1 (KW.run hc h.2.2)
structure qD1 (n:Nat) (lt:Nat->Nat->Bool):Prop where
 tot:∀ i j,i<n->j<n->i≠j->lt i j=false->lt j i=true
 tr:∀ i j k,i<n->j<n->k<n->lt i j=true->lt j k=true->lt i k=true
structure PermA (n:Nat) (p:Array Nat):Prop where
 sz:p.size=n
 perm:p.toList.Perm (List.range n)
theorem PermA.lt {n:Nat} {p:Array Nat} (h:PermA n p) {x:Nat} (hx:x<n):p.getD x 0<n:=by
 have hs:=h.sz;rw[AU,Bv (by omega)];have:p[x]∈p.toList:=by simp
 exact BV.mp (h.perm.mem_iff.mp this)
theorem PermA.inj {n:Nat} {p:Array Nat} (h:PermA n p) {x y:Nat} (hx:x<n) (hy:y<n) (hne:x≠y):p.getD x 0≠p.getD y 0:=by
 have hs:=h.sz;have nd:p.toList.Nodup:=h.perm.nodup_iff.mpr List.nodup_range;rw[AU,Bv (by omega),AU,Bv (by omega)];intro e;have e':p.toList[x]'(by simpa using by omega)=p.toList[y]'(by simpa using by omega):=by simpa using e
 have pw:=C8.mp nd
 rcases Nat.lt_or_gt_of_ne hne with h1|h1
 ·exact pw x y (by simpa using by omega) (by simpa using by omega) h1 e'
 ·exact pw y x (by simpa using by omega) (by simpa using by omega) h1 e'.symm
theorem PermA.of {n:Nat} {p q:Array Nat} (h:PermA n p) (hq:q.Perm p):PermA n q:=by
 have e:q.toList.Perm p.toList:=Array.perm_iff_toList_perm.mp hq;exact ⟨by have:=e.length_eq;simpa [h.sz] using this,e.trans h.perm⟩
def Asc (lt:Nat->Nat->Bool) (p:Array Nat) (b:Nat):Prop:=∀ x y,x<y->y<b->lt (p.getD x 0) (p.getD y 0)=true
structure OrdW (n:Nat) (lt:Nat->Nat->Bool):Prop where
 as_:∀ i j,i<n->j<n->lt i j=true->lt j i=false
 tr:∀ i j k,i<n->j<n->k<n->lt j i=false->lt k j=false->lt k i=false
theorem OrdW.irr {n:Nat} {lt:Nat->Nat->Bool} (O:OrdW n lt) {i:Nat} (h:i<n):lt i i=false:=by
 cases e:lt i i with
 | false=>rfl
 | true=>rw[<- e];exact O.as_ i i h h e
def qve (lt:Nat->Nat->Bool) (p:Array Nat) (b:Nat):Prop:=∀ x y,x<y->y<b->lt (p.getD y 0) (p.getD x 0)=false
def qul (lt:Nat->Nat->Bool) (p:Array Nat) (b:Nat):Prop:=∀ x y,x<y->y<b->lt (p.getD x 0) (p.getD y 0)=false
def qko (lt:Nat->Nat->Bool) (p:Array Nat) (i j:Nat):Prop:=∀ a b,i<=a->a<j->i<=b->b<j->lt (p.getD a 0) (p.getD b 0)=false
section
variable {lt:Nat->Nat->Bool} {n:Nat}
theorem qnn (O:OrdW n lt) {p:Array Nat} (hp:PermA n p):∀ (f x:Nat),1<=x->x+f<=n->qve lt p x->KW lt n (kas_asc p f x) (λm=>x<=m/\m<=x+f/\qve lt p m/\(m=x+f\/lt (p.getD m 0) (p.getD (m-1) 0)=true))
 | 0,x,h1,hx,ha=>by rw[kas_asc.eq_1];exact ⟨Ag _,Ag _,ha,.inl rfl⟩
 | f+1,x,h1,hx,ha=>by
  rw[kas_asc.eq_2];refine ⟨hp.lt (by omega),hp.lt (by omega),?_⟩
  cases e:lt (p.getD x 0) (p.getD (x-1) 0) with
  | true=>dsimp only;rw[Al rfl];exact ⟨Ag _,by omega,ha,.inr e⟩
  | false =>
   dsimp only;rw[Ah AD];refine KW.mono (λm hm=>?_) (qnn O hp f (x+1) (by omega) (by omega) ?_)
   ·obtain ⟨m1,m2,m3,m4⟩:=hm
    exact ⟨by omega,by omega,m3,m4.imp (λz=>by omega) id⟩
   ·intro a b hab hb
    by_cases hbx:b=x
    ·subst hbx
     by_cases hax:a=b-1
     ·subst hax;exact e
     ·exact O.tr _ _ _ (hp.lt (by omega)) (hp.lt (by omega)) (hp.lt (by omega)) (ha a (b-1) (by omega) (by omega)) e
    ·exact ha a b hab (by omega)
theorem qkp {p:Array Nat} (hp:PermA n p) {i m x:Nat} (hm:m<=n):(kas_rev p i m).getD x 0=if i<=x/\x<m then p.getD (i+m-1-x) 0 else p.getD x 0:=by
 have hs:=hp.sz;unfold kas_rev;rw[AU,getElem?_mirror_all (by omega)]
 split<;>rw[AU]
theorem qee {p:Array Nat} (hp:PermA n p) (i m:Nat):PermA n (kas_rev p i m):=hp.of (mirror_perm _ _ _ _)
theorem qox (O:OrdW n lt) {p:Array Nat} (hp:PermA n p) {i m:Nat} (hm:m<=n) (hs:qko lt p i m) {a:Nat} (ha:a<n):lt ((kas_rev p i m).getD a 0) (p.getD a 0)=false/\lt (p.getD a 0) ((kas_rev p i m).getD a 0)=false:=by
 rw[qkp hp hm]
 split
 ·exact ⟨hs _ _ (by omega) (by omega) (by omega) (by omega),hs _ _ (by omega) (by omega) (by omega) (by omega)⟩
 ·exact ⟨O.irr (hp.lt ha),O.irr (hp.lt ha)⟩
theorem qsh (O:OrdW n lt) {p:Array Nat} (hp:PermA n p) {i m:Nat} (hm:m<=n) (hs:qko lt p i m) {a b:Nat} (ha:a<n) (hb:b<n) (h:lt (p.getD a 0) (p.getD b 0)=false):lt ((kas_rev p i m).getD a 0) ((kas_rev p i m).getD b 0)=false:=by
 have hq:=qee hp i m;have h1:=qox O hp hm hs ha;have h2:=qox O hp hm hs hb;exact O.tr _ _ _ (hq.lt hb) (hp.lt ha) (hq.lt ha) (O.tr _ _ _ (hq.lt hb) (hp.lt hb) (hp.lt ha) h2.2 h) h1.1
theorem qsi (O:OrdW n lt) {p:Array Nat} (hp:PermA n p) {i m x:Nat} (hm:m<=n) (hx:x<=n) (hs:qko lt p i m) (h:qul lt p x):qul lt (kas_rev p i m) x:=
 λa b hab hb=>qsh O hp hm hs (by omega) (by omega) (h a b hab hb)
theorem qhj (O:OrdW n lt):∀ (f:Nat) (p:Array Nat) (x q:Nat),PermA n p->2<=x->x+f<=n->q+1<=x->qul lt p x->qko lt p (x-(q+1)) x ->
  KW lt n (kas_desc f p x q) (λr=>PermA n r.1/\x<=r.2.1/\r.2.1<=x+f/\r.2.2+1<=r.2.1/\qul lt r.1 r.2.1/\qko lt r.1 (r.2.1-(r.2.2+1)) r.2.1)
 | 0,p,x,q,hp,h1,hx,hq,ha,hs=>by rw[kas_desc.eq_1];exact ⟨hp,Ag _,Ag _,hq,ha,hs⟩
 | f+1,p,x,q,hp,h1,hx,hq,ha,hs=>by
  rw[kas_desc.eq_2];refine ⟨hp.lt (by omega),hp.lt (by omega),?_⟩;have fin:∀ {t:KasT (Array Nat×Nat×Nat)},KW lt n t (λr=>PermA n r.1/\x+1<=r.2.1/\r.2.1<=x+1+f/\r.2.2+1<=r.2.1/\qul lt r.1 r.2.1/\qko lt r.1 (r.2.1-(r.2.2+1)) r.2.1)->KW lt n t (λr=>PermA n r.1/\x<=r.2.1/\r.2.1<=x+(f+1)/\r.2.2+1<=r.2.1/\qul lt r.1 r.2.1/\qko lt r.1 (r.2.1-(r.2.2+1)) r.2.1):=λh=>KW.mono (λr ⟨r1,r2,r3,r4,r5,r6⟩=>⟨r1,by omega,by omega,r4,r5,r6⟩) h
  have one:∀ (p':Array Nat),PermA n p'->qul lt p' x->lt (p'.getD (x-1) 0) (p'.getD x 0)=false->qul lt p' (x+1):=λp' hp' hd e a b hab hb=>by
   by_cases hbx:b=x
   ·subst hbx
    by_cases hax:a=b-1
    ·subst hax;exact e
    ·exact O.tr _ _ _ (hp'.lt (by omega)) (hp'.lt (by omega)) (hp'.lt (by omega)) e (hd a (b-1) (by omega) (by omega))
   ·exact hd a b hab (by omega)
  have seg1:∀ (p':Array Nat),PermA n p'->qko lt p' (x+1-(0+1)) (x+1):=λp' hp' a b h1 h2 h3 h4=>by
   have ea:a=x:=by omega
   have eb:b=x:=by omega
   rw[ea,eb];exact O.irr (hp'.lt (by omega))
  cases e:lt (p.getD x 0) (p.getD (x-1) 0) with
  | true =>
   have e2:=O.as_ _ _ (hp.lt (by omega)) (hp.lt (by omega)) e;dsimp only;rw[Al rfl]
   by_cases hq0:q>0
   ·rw[Al hq0]
    have hp':=qee hp (x-(q+1)) x;refine fin (qhj O f _ (x+1) 0 hp' (by omega) (by omega) (by omega) (one _ hp' (qsi O hp (by omega) (by omega) hs ha) ?_) (seg1 _ hp'));exact qsh O hp (by omega) hs (by omega) (by omega) e2
   ·rw[Ah hq0]
    exact fin (qhj O f _ (x+1) 0 hp (by omega) (by omega) (by omega) (one _ hp ha e2) (seg1 _ hp))
  | false =>
   dsimp only;rw[Ah AD];refine ⟨hp.lt (by omega),hp.lt (by omega),?_⟩
   cases e2:lt (p.getD (x-1) 0) (p.getD x 0) with
   | true =>
    dsimp only;rw[Al rfl];exact ⟨hp,Ag _,(show x<=x+(f+1) by omega),hq,ha,hs⟩
   | false =>
    dsimp only;rw[Ah AD];refine fin (qhj O f _ (x+1) (q+1) hp (by omega) (by omega) (by omega) (one _ hp ha e2) ?_);have key:∀ a,x-(q+1)<=a->a<=x->lt (p.getD a 0) (p.getD x 0)=false/\lt (p.getD x 0) (p.getD a 0)=false:=λa h1 h2=>by
     by_cases hax:a=x
     ·rw[hax];exact ⟨O.irr (hp.lt (by omega)),O.irr (hp.lt (by omega))⟩
     ·have f1:=hs a (x-1) (by omega) (by omega) (by omega) (by omega)
      have f2:=hs (x-1) a (by omega) (by omega) (by omega) (by omega);exact ⟨O.tr _ _ _ (hp.lt (by omega)) (hp.lt (by omega)) (hp.lt (by omega)) e2 f1,O.tr _ _ _ (hp.lt (by omega)) (hp.lt (by omega)) (hp.lt (by omega)) f2 e⟩
    intro a b h1 h2 h3 h4;exact O.tr _ _ _ (hp.lt (by omega)) (hp.lt (show x<n by omega)) (hp.lt (by omega)) (key b (by omega) (by omega)).2 (key a (by omega) (by omega)).1
theorem qgp (O:OrdW n lt) {p:Array Nat} (hp:PermA n p) {m:Nat} (h1:1<=m) (hm:m<n) (hd:qul lt p (m+1)):KW lt n (kas_descPart m n p) (λr=>PermA n r.2/\1<=r.1/\r.1<=n/\qve lt r.2 r.1):=by
 unfold kas_descPart;have tail:∀ {q:Array Nat} {x:Nat},PermA n q->1<=x->x<=n->qul lt q x->KW lt n (kas_tail3 x n q) (λr=>PermA n r.2/\1<=r.1/\r.1<=n/\qve lt r.2 r.1):=fun {q x} hq hx1 hxn hdq=>by
  unfold kas_tail3;have hq':=qee hq 0 x;refine KW.bind (KW.mono (λm' hm'=>?_) (qnn O hq' (n-x) x hx1 (by omega) ?_))
  ·obtain ⟨a1,a2,a3,_⟩:=hm'
   exact ⟨hq',by show 1<=m';omega,by show m'<=n;omega,a3⟩
  ·intro a b hab hb
   rw[qkp hq hxn,qkp hq hxn,Al ⟨AW _,hb⟩,Al ⟨AW _,by omega⟩];exact hdq _ _ (by omega) (by omega)
 refine KW.bind (KW.mono (λr hr=>?_) (qhj O (n-(m+1)) p (m+1) 0 hp (by omega) (by omega) (by omega) hd (λa b h1 h2 h3 h4=>?_)))
 ·obtain ⟨r1,r2,r3,r4,r5,r6⟩:=hr
  by_cases hq:r.2.2>0
  ·rw[Al hq]
   exact tail (qee r1 _ _) (by omega) (by omega) (qsi O r1 (by omega) (by omega) r6 r5)
  ·rw[Ah hq]
   exact tail r1 (by omega) (by omega) r5
 ·have ea:a=m:=by omega
  have eb:b=m:=by omega
  rw[ea,eb];exact O.irr (hp.lt hm)
theorem qsj (O:OrdW n lt) {p:Array Nat} (hp:PermA n p) (hn:2<=n):KW lt n (kas_count n p) (λr=>PermA n r.2/\1<=r.1/\r.1<=n/\qve lt r.2 r.1):=by
 rw[kas_count.eq_1];refine KW.bind (KW.mono (λm hm=>?_) (qnn O hp (n-1) 1 (Ag _) (by omega) (λx y h1 h2=>by omega)));obtain ⟨m1,m2,m3,m4⟩:=hm
 by_cases hmn:m=n
 ·rw[Al (by simpa using hmn)]
  exact ⟨hp,by omega,by omega,m3⟩
 ·rw[Ah (by simpa using hmn)]
  have d0:lt (p.getD m 0) (p.getD (m-1) 0)=true:=by
   rcases m4 with z|z
   ·omega
   ·exact z
  have d1:=O.as_ _ _ (hp.lt (by omega)) (hp.lt (by omega)) d0
  by_cases h1:m>1
  ·rw[Al h1]
   refine ⟨hp.lt (by omega),hp.lt (by omega),?_⟩
   cases e:lt (p.getD 0 0) (p.getD (m-1) 0) with
   | true =>
    dsimp only;rw[Al rfl];exact ⟨hp,by omega,by omega,m3⟩
   | false =>
    dsimp only;rw[Ah AD];have le:∀ a b,a<=b->b<m->lt (p.getD b 0) (p.getD a 0)=false:=λa b hab hb=>by
     by_cases z:a=b
     ·rw[z];exact O.irr (hp.lt (by omega))
     ·exact m3 a b (by omega) hb
    have hs:qko lt p 0 m:=λa b _ ha _ hb=>by
     exact O.tr _ _ _ (hp.lt (by omega)) (hp.lt (show 0<n by omega)) (hp.lt (by omega)) (O.tr _ _ _ (hp.lt (by omega)) (hp.lt (show m-1<n by omega)) (hp.lt (by omega)) (le b (m-1) (by omega) (by omega)) e) (le 0 a (by omega) ha)
    refine qgp O (qee hp 0 m) (by omega) (by omega) λa b hab hb=>qsh O hp (by omega) hs (by omega) (by omega) ?_
    by_cases hbm:b=m
    ·rw[hbm]
     exact O.tr _ _ _ (hp.lt (by omega)) (hp.lt (show m-1<n by omega)) (hp.lt (by omega)) d1 (hs a (m-1) (by omega) (by omega) (by omega) (by omega))
    ·exact hs a b (by omega) (by omega) (by omega) (by omega)
  ·rw[Ah h1]
   have em:m=1:=by omega
   subst em;refine qgp O hp (Ag _) (by omega) λa b hab hb=>?_
   have ea:a=0:=by omega
   have eb:b=1:=by omega
   rw[ea,eb];exact d1
theorem qhy (O:OrdW n lt) {p:Array Nat} (hp:PermA n p) {k:Nat} (hk:k<n) (ha:qve lt p k):∀ (f lo hi:Nat),lo<=hi->hi<=k->hi-lo<=f->(∀ j,j<lo->lt (p.getD k 0) (p.getD j 0)=false)->(∀ j,hi<=j->j<k->lt (p.getD j 0) (p.getD k 0)=false) ->
  KW lt n (kas_place p k f lo hi) (λl=>l<=k/\(∀ j,j<l->lt (p.getD k 0) (p.getD j 0)=false)/\∀ j,l<=j->j<k->lt (p.getD j 0) (p.getD k 0)=false)
 | 0,lo,hi,h1,h2,h3,h4,h5=>by
  rw[kas_place.eq_1];exact ⟨by omega,h4,λj hj=>h5 j (by omega)⟩
 | f+1,lo,hi,h1,h2,h3,h4,h5=>by
  rw[kas_place.eq_2]
  by_cases hlt:lo ≥ hi
  ·rw[Al hlt]
   exact ⟨by omega,h4,λj hj=>h5 j (by omega)⟩
  ·rw[Ah hlt]
   refine ⟨hp.lt hk,hp.lt (by omega),?_⟩;have le:∀ a b,a<=b->b<k->lt (p.getD b 0) (p.getD a 0)=false:=λa b hab hb=>by
    by_cases z:a=b
    ·rw[z];exact O.irr (hp.lt (by omega))
    ·exact ha a b (by omega) hb
   cases e:lt (p.getD k 0) (p.getD ((lo+hi) / 2) 0) with
   | true =>
    dsimp only;rw[Al rfl];have e2:=O.as_ _ _ (hp.lt hk) (hp.lt (by omega)) e;refine qhy O hp hk ha f lo ((lo+hi) / 2) (by omega) (by omega) (by omega) h4 λj hj hjk=>?_
    exact O.tr _ _ _ (hp.lt hk) (hp.lt (by omega)) (hp.lt (by omega)) e2 (le _ j hj hjk)
   | false =>
    dsimp only;rw[Ah AD];refine qhy O hp hk ha f ((lo+hi) / 2+1) hi (by omega) h2 (by omega) (λj hj=>?_) h5;exact O.tr _ _ _ (hp.lt (by omega)) (hp.lt (show (lo+hi) / 2<n by omega)) (hp.lt hk) (le j _ (by omega) (by omega)) e
theorem qsk (O:OrdW n lt):∀ (f:Nat) (p:Array Nat) (k:Nat),PermA n p->1<=k->k+f=n->qve lt p k->KW lt n (kas_bin f p k) (λq=>PermA n q/\qve lt q n)
 | 0,p,k,hp,h1,hk,ha=>by
  rw[kas_bin.eq_1];have:k=n:=by omega
  subst this;exact ⟨hp,ha⟩
 | f+1,p,k,hp,h1,hk,ha=>by
  rw[kas_bin.eq_2];have hkn:k<n:=by omega
  have hs:=hp.sz;refine KW.bind (KW.mono (λl hl=>?_) (qhy O hp hkn ha k 0 k (AW _) (Ag _) (by omega) (λj hj=>by omega) (λj h1 h2=>by omega)));obtain ⟨l1,l2,l3⟩:=hl;have hq:PermA n (bubble p k (k-l)):=hp.of (bubble_perm _ _ _);refine qsk O f _ (k+1) hq (by omega) (by omega) ?_;have hg:∀ x,(bubble p k (k-l)).getD x 0=if x=l then p.getD k 0 else if l<x/\x<=k then p.getD (x-1) 0 else p.getD x 0:=λx=>by
   rw[AU,getElem?_bubble (by omega) (k-l) (by omega),show k-(k-l)=l by omega]
   split
   ·rw[AU]
   ·split<;>rw[AU]
  intro x y hxy hy;rw[hg x,hg y]
  by_cases hx:x=l
  ·rw[Al hx,Ah (by omega),Al ⟨by omega,by omega⟩]
   exact l3 _ (by omega) (by omega)
  ·rw[Ah hx]
   by_cases hy2:y=l
   ·rw[Al hy2,Ah (by omega)]
    exact l2 _ (by omega)
   ·rw[Ah hy2]
    by_cases hx3:l<x/\x<=k
    ·rw[Al hx3,Al ⟨by omega,by omega⟩]
     exact ha _ _ (by omega) (by omega)
    ·rw[Ah hx3]
     by_cases hy3:l<y/\y<=k
     ·rw[Al hy3]
      exact ha _ _ (by omega) (by omega)
     ·rw[Ah hy3]
      exact ha _ _ hxy (by omega)
theorem qvf (O:OrdW n lt) (hn:2<=n):KW lt n (kas_sort n) (λq=>PermA n q/\qve lt q n):=by
 unfold kas_sort;have hp:PermA n (List.range n).toArray:=⟨by simp,by simp⟩;refine KW.bind (KW.mono (λr hr=>?_) (qsj O hp hn));obtain ⟨r1,r2,r3,r4⟩:=hr
 by_cases h:r.1<n
 ·rw[Al h,Nat.max_eq_left r2]
  exact qsk O _ _ _ r1 r2 (by omega) r4
 ·rw[Ah h]
  have e:r.1=n:=by omega
  rw[e] at r4;exact ⟨r1,r4⟩
end
theorem qyd {lt:Nat->Nat->Bool} {n:Nat} (O:qD1 n lt) (W:OrdW n lt) (hn:2<=n):KW lt n (kas_sort n) (λq=>PermA n q/\Asc lt q n):=KW.mono (λ_ h=>⟨h.1,λx y hxy hy=>O.tot _ _ (h.1.lt hy) (h.1.lt (by omega)) (h.1.inj hy (by omega) (by omega)) (h.2 x y hxy hy)⟩) (qvf W hn)
open PySem PySem.Spec PyProof.Rows PySem.W
def blt:List Int->List Int->Bool
 | [],[]=>false
 | [],_ :: _=>true
 | _ :: _,[]=>false
 | a :: r,b :: t=>if a=b then blt r t else decide (a<b)
theorem qfa:∀ (k l:List Int),k≠l->blt k l=false->blt l k=true
 | [],[],h,_=>absurd rfl h
 | [],_ :: _,_,h=>by simp[blt] at h
 | _ :: _,[],_,_=>rfl
 | a :: r,b :: t,h,e=>by
  unfold blt at e ⊢
  by_cases hab:a=b
  ·subst hab
   rw[Al rfl] at e ⊢;exact qfa r t (λz=>h (by rw[z])) e
  ·rw[Ah hab] at e
   rw[Ah (λz=>hab z.symm)]
   simp at e ⊢
   omega
theorem qjr:∀ (k l m:List Int),blt k l=true->blt l m=true->blt k m=true
 | [],[],_,h,_=>by simp[blt] at h
 | _ :: _,[],_,h,_=>by simp[blt] at h
 | [],_ :: _,[],_,h=>by simp[blt] at h
 | _ :: _,_ :: _,[],_,h=>by simp[blt] at h
 | [],_ :: _,_ :: _,_,_=>rfl
 | a :: r,b :: t,c :: u,h1,h2=>by
  unfold blt at h1 h2 ⊢
  by_cases hab:a=b
  ·subst hab
   rw[Al rfl] at h1
   by_cases hbc:a=c
   ·subst hbc
    rw[Al rfl] at h2 ⊢;exact qjr r t u h1 h2
   ·rw[Ah hbc] at h2 ⊢
    exact h2
  ·rw[Ah hab] at h1
   by_cases hbc:b=c
   ·subst hbc
    rw[Ah hab];exact h1
   ·rw[Ah hbc] at h2
    simp at h1 h2
    rw[Ah (by omega)]
    simp;omega
theorem qhz:∀ k:List Int,blt k k=false
 | []=>rfl
 | a :: r=>by unfold blt;rw[Al rfl];exact qhz r
def ltK (ks:List (List Int)) (i j:Nat):Bool:=blt (ks.getD i []) (ks.getD j [])
theorem qEv (ks:List (List Int)) (nd:ks.Nodup):qD1 ks.length (ltK ks) where
 tot:=λi j hi hj hne e=>by
  refine qfa _ _ (λz=>?_) e;rw[AO,AO,Ad hi,Ad hj] at z;have pw:=C8.mp nd
  rcases Nat.lt_or_gt_of_ne hne with h|h
  ·exact pw i j hi hj h z
  ·exact pw j i hj hi h z.symm
 tr:=λi j k _ _ _ h1 h2=>qjr _ _ _ h1 h2
theorem qwr {k l:List Int} (h:blt k l=true):blt l k=false:=by
 cases e:blt l k with
 | false=>rfl
 | true =>
  have:=qjr k l k h e;rw[qhz] at this;cases this
theorem qA2 {k l m:List Int} (h1:blt l k=false) (h2:blt m l=false):blt m k=false:=by
 by_cases e1:k=l
 ·rw[e1];exact h2
 ·by_cases e2:l=m
  ·rw[<- e2];exact h1
  ·exact qwr (qjr _ _ _ (qfa _ _ (λz=>e1 z.symm) h1) (qfa _ _ (λz=>e2 z.symm) h2))
theorem qDe (ks:List (List Int)):OrdW ks.length (ltK ks):=⟨λ_ _ _ _ h=>qwr h,λ_ _ _ _ _ _ h1 h2=>qA2 h1 h2⟩
def qye (h:Heap) (v:Value) (k:List Int):Prop:=∃ b o xs e,v=.ref b/\h.get? b=some o/\o.cls=.type "tuple" /\ o.data=.seq xs e/\Vals (k.map V.int) xs.toList
section
variable {prog:Program} {w:World} {A:Around} {E:Value->Shared->Prop} {s:Shared}
theorem qoy {b fin:Bool} {Q:Bool->Shared->Prop}:∀ (k l:List Int) (us ws:List Value) (i:Nat),Vals (k.map V.int) us->Vals (l.map V.int) ws->fin=decide (k.length<l.length)->Q (blt k l) s->KatLex prog w A b fin Q (us.zip ws) i s
 | [],l,us,ws,i,hu,hw,hf,q=>by
  cases us with
  | cons _ _=>exact absurd hu.length (by simp)
  | nil =>
   rw[List.zip_nil_left];refine kat_nil ?_;rw[hf]
   cases l with
   | nil=>exact q
   | cons _ _=>exact q
 | x :: k,[],us,ws,i,hu,hw,hf,q=>by
  cases ws with
  | cons _ _=>exact absurd hw.length (by simp)
  | nil =>
   rw[List.zip_nil_right];refine kat_nil ?_;rw[hf];exact q
 | x :: k,y :: l,us,ws,i,hu,hw,hf,q=>by
  cases us with
  | nil=>exact absurd hu.length (by simp)
  | cons u us =>
   cases ws with
   | nil=>exact absurd hw.length (by simp)
   | cons v ws =>
    rw[Aw] at hu hw
    cases hu with
    | cons hx hu =>
     cases hw with
     | cons hy hw =>
      obtain ⟨t,rfl⟩:=(show ∃ t,u=Value.int x t from hx);obtain ⟨t',rfl⟩:=(show ∃ t,v=Value.int y t from hy);rw[C5];refine kat_cons (wpAny_eqBool_int ?_)
      by_cases hxy:x=y
      ·subst hxy
       rw[show (x == x)=true by simp];refine kat_yes (qoy k l us ws (i+1) hu hw (by rw[hf];simp) ?_);unfold blt at q
       rwa [Al rfl] at q
      ·rw[show (x == y)=false by simpa using hxy]
       unfold blt at q;rw[Ah hxy] at q;refine kat_no ?_
       cases (b && i == 0) with
       | true=>exact oneLt_int q
       | false=>exact kat_one _ _ (lt_int q)
theorem qA3 {b:Bool} {Q:Bool->Shared->Prop} {x y:Value} {k l:List Int} (hx:qye s.heap x k) (hy:qye s.heap y l) (q:Q (blt k l) s):wpAny (model prog w) A (keyLt' (tuples' b) x y) Q E s:=by
 obtain ⟨a,o,xs,e,rfl,h1,h2,h3,h4⟩:=hx;obtain ⟨a',o',xs',e',rfl,h1',h2',h3',h4'⟩:=hy;refine kat_lt h1 h3 h1' h3' (qoy k l _ _ 0 h4 h4' ?_ q);have e1:k.length=xs.size:=by have:=h4.length;simpa using this
 have e2:l.length=xs'.size:=by have:=h4'.length;simpa using this
 rw[e1,e2]
theorem qws {h:Heap}:∀ {vs:List Value} {ks:List (List Int)},vs.length=ks.length->(∀ (i:Nat) v k,vs[i]?=some v->ks[i]?=some k->qye h v k/\k≠[])->∃ fs,KatTups h vs fs/\fs.length=vs.length/\∀ v∈fs,∃ i t,v=Value.int i t
 | [],[],_,_=>⟨[],.nil,rfl,λv hv=>by cases hv⟩
 | v :: vs,k :: ks,hl,H=>by
  obtain ⟨fs,f1,f2,f3⟩:=qws (vs:=vs) (ks:=ks) (by simpa using hl) (λi v k e1 e2=>H (i+1) v k (by simpa using e1) (by simpa using e2));obtain ⟨⟨b,o,xs,e,rfl,h1,h2,h3,h4⟩,hne⟩:=H 0 v k rfl rfl
  cases k with
  | nil=>exact absurd rfl hne
  | cons i r =>
   obtain ⟨u,us,eu,hu⟩:∃ u us,xs.toList=u :: us/\RelV (.int i) u:=by
    generalize xs.toList=ys at h4
    cases h4 with
    | cons hx _=>exact ⟨_,_,rfl,hx⟩
   obtain ⟨t,rfl⟩:=(show ∃ t,u=Value.int i t from hu);refine ⟨Value.int i t :: fs,?_,by simp[f2],λv hv=>?_⟩
   ·rw[KatTups.eq_2]
    refine ⟨⟨b,o,xs,e,rfl,h1,h2,h3,?_⟩,f1⟩;rw[<- Cd,eu];rfl
   ·rcases Ak.mp hv with h|h
    ·exact ⟨i,t,h⟩
    ·exact f3 v h
theorem qsl {a:Addr} {vs:List Value} {n:Nat} {P:Fin->Shared->Prop} {ks:List (List Int)} (ho:s.heap.get? a=some (seqObj "list" vs.toArray n)) (h2:2<=vs.length) (h64:vs.length<64) (hl:vs.length=ks.length) (nd:ks.Nodup)
  (hT:∀ (i:Nat) v k,vs[i]?=some v->ks[i]?=some k->qye s.heap v k/\k≠[])
  (h:∀ p:Array Nat,PermA ks.length p->Asc (ltK ks) p ks.length->P (.done (.ret .none)) { s with heap:=sortedHeap s.heap a vs (p.map λi=>vs.getD i .none) }):wpAny (model prog w) A (Builtin.«list.sort» ⟨[.ref a],[]⟩) P E s:=by
 rw[list_sort_plain];have la:a<s.heap.objs.size:=Am ho;refine Aa (listItems_at ho rfl ?_);refine Aa (DK ho rfl ?_);obtain ⟨e1,h1⟩:∃ e1,(s.heap.update a (Obj.mapSeq λ_=>#[])).get? a=some (seqObj "list" #[] e1):=⟨_,get?_update_seq ho (λ_=>#[])⟩;refine Aa (D4 h1 rfl ?_);refine Aa (Ej ?_ (by simp only[List.toList_toArray];rw[Bl];omega));refine Aa (DJ ?_);refine Bk ?_;have h6:(((s.heap.update a (Obj.mapSeq λ_=>#[])).push (seqObj "tuple" vs.toArray 0)).push (seqObj "list" #[] 0)).get? a=some (seqObj "list" #[] e1):=by
  rw[De _ _ _ (by rw[Ek,Dm];exact Av (CH la)),De _ _ _ (by rw[Dm];exact Av la)];exact h1
 show wpAny (model prog w) A _ P E { s with heap:=((s.heap.update a (Obj.mapSeq λ_=>#[])).push (seqObj "tuple" vs.toArray 0)).push (seqObj "list" #[] 0) }
 obtain ⟨s3,es3⟩:∃ s3:Shared,s3={ s with heap:=((s.heap.update a (Obj.mapSeq λ_=>#[])).push (seqObj "tuple" vs.toArray 0)).push (seqObj "list" #[] 0) }:=⟨_,rfl⟩;have hT3:∀ (i:Nat) v k,vs[i]?=some v->ks[i]?=some k->qye s3.heap v k/\k≠[]:=λi v k q1 q2=>by
  obtain ⟨⟨b,o,xs,e,rfl,g1,g2,g3,g4⟩,hne⟩:=hT i v k q1 q2;refine ⟨⟨b,o,xs,e,rfl,?_,g2,g3,g4⟩,hne⟩;have hba:b≠a:=λz=>by
   subst z;rw[ho] at g1;cases g1;have g2':(Value.type "list" : Value)=Value.type "tuple" :=g2;injection g2' with e'
   exact absurd e' (by decide)
  rw[es3];exact Ab _ (Ab _ ((C0 s.heap a _).extBut b o hba g1))
 obtain ⟨fs,f1,f2,f3⟩:=qws hl hT3;have z2:¬ vs.toArray.size<2:=by simpa using by omega
 dsimp only;rw[Ah z2,Ah z2,<- es3];refine Aa (kat_kind (T:=.type "int") f1 (by omega) (λv hv=>?_) (by decide) ?_)
 ·obtain ⟨i,t,rfl⟩:=f3 v hv
  exact Looks.of_pure rfl
 have hrun:=kas_runs (prog:=prog) (w:=w) (A:=A) (E:=E) (κ:=tuples' true) (it:=pairsOf vs) (n:=ks.length) (s:=s3) (G:=λp s'=>s'=s3/\PermA ks.length p/\Asc (ltK ks) p ks.length)
  (Q:=λ_ st' s'=>s'=s3/\failedOf st'=none/\∃ p,arrOf st'=p.map (kas_item (pairsOf vs))/\PermA ks.length p/\Asc (ltK ks) p ks.length) (by omega) (by omega)
  (λp st' s' hz ha hf hG=>⟨hG.1,hf,p,ha,hG.2⟩)
  (KW.run (λi j C hi hj hC=>by
   unfold kas_cmp;rw[Ff,Ff];have q1:vs[i]?=some (vs.getD i .none):=by rw[AO,Ad (by omega)];rfl
   have q2:vs[j]?=some (vs.getD j .none):=by rw[AO,Ad (by omega)];rfl
   have q3:ks[i]?=some (ks.getD i []):=by rw[AO,Ad hi];rfl
   have q4:ks[j]?=some (ks.getD j []):=by rw[AO,Ad hj];rfl
   exact qA3 (hT3 i _ _ q1 q3).1 (hT3 j _ _ q2 q4).1 hC) (qyd (qEv ks nd) (qDe ks) (by omega)))
 have est:kas_st (tuples' true) (pairsOf vs) (List.range ks.length).toArray=SortSt.mk' (tuples' true) (vs.toArray.zip vs.toArray) #[] 7 none:=by
  unfold kas_st;have:=kas_range (pairsOf vs);rw[pairsOf_size,hl] at this;rw[this];rfl
 rw[est] at hrun
 show wpAny (model prog w) A (sortRuns'.run (SortSt.mk' (tuples' true) (vs.toArray.zip vs.toArray) #[] 7 none) >>= _) P E s3
 refine Aa (A7 hrun (λr s' hq=>?_) λ_ _ z=>z);obtain ⟨rfl,hf,p,hp,hq⟩:=hq;have h6':s'.heap.get? a=some (seqObj "list" #[] e1):=by rw[es3];exact h6
 have hz:((arrOf r.2).map (·.2)).size<=sizeLine:=by rw[Er,hp,Er,hq.1.sz,Bl];omega
 refine Aa (D4 h6' rfl ?_);refine Aa (DK h6' rfl ?_ (hsz2:=Nat.le_succ_of_le hz));rw[hf];simp only[bne_self_eq_false,Cz,CO];refine Ae ?_;have:=h p hq.1 hq.2;rw[es3];rw[hp,Array.map_map];have ef:((λx:Keyed=>x.2) ∘ kas_item (pairsOf vs))=λi=>vs.getD i .none:=by
  funext i
  show (kas_item (pairsOf vs) i).2=_
  rw[Ff]
 rw[ef];exact this
end
open PySem PySem.Spec PyProof.Rows PySem.W
def pick {α:Type} (idx:List Nat) (xs:List α) (d:α):List α:=idx.map λi=>xs.getD i d
theorem qgd {α:Type} (xs:List α) (d:α):pick (List.range xs.length) xs d=xs:=by
 unfold pick
 apply List.ext_getElem?
 intro i;rw[Ay]
 by_cases h:i<xs.length
 ·rw[List.getElem?_range h,Ad h]
  simp[AO,Ad h]
 ·rw[BM (by simpa using by omega),BM (by omega)];rfl
theorem qsm {α:Type} {idx:List Nat} {xs:List α} {d:α} (h:idx.Perm (List.range xs.length)):(pick idx xs d).Perm xs:=by
 have:=h.map (λi=>xs.getD i d);have e:=qgd xs d;unfold pick at e;rw[e] at this;exact this
def TupsH (H:Hp) (xs:List V) (ks:List (List Int)):Prop:=Paired (λv r=>∃ a,v=V.ref a/\H a=some (.tup (r.map V.int))) xs ks
theorem TupsH.len {H:Hp}:∀ {xs:List V} {ks:List (List Int)},TupsH H xs ks->xs.length=ks.length
 | _,_,.nil=>rfl
 | _,_,.cons _ t=>by simp[TupsH.len t]
theorem TupsH.get {H:Hp}:∀ {xs:List V} {ks:List (List Int)} {i:Nat} {x:V} {k:List Int},TupsH H xs ks->xs[i]?=some x->ks[i]?=some k->∃ a,x=.ref a/\H a=some (.tup (k.map V.int))
 | _,_,_,_,_,.nil,e,_=>by simp at e
 | _,_,0,_,_,.cons r _,e,f=>by simp at e f;subst e f;exact r
 | _,_,i+1,x,k,.cons _ t,e,f=>TupsH.get (i:=i) t (by simpa using e) (by simpa using f)
theorem TupsH.pick {H:Hp} {xs:List V} {ks:List (List Int)} (h:TupsH H xs ks):∀ {idx:List Nat},(∀ i∈idx,i<ks.length)->TupsH H (pick idx xs .non) (pick idx ks [])
 | [],_=>.nil
 | i :: r,hi=>by
  have h0:=hi i Au;have hl:=h.len;refine .cons (h.get (i:=i) ?_ ?_) (TupsH.pick h λj hj=>hi j (Ap _ hj))
  ·show xs[i]?=some (xs.getD i .non)
   rw[AO,Ad (by omega)];rfl
  ·show ks[i]?=some (ks.getD i [])
   rw[AO,Ad h0];rfl
theorem qlr {xs:List V} {vs:List Value} (h:Vals xs vs):∀ {idx:List Nat},(∀ i∈idx,i<xs.length)->Vals (pick idx xs .non) (pick idx vs .none)
 | [],_=>.nil
 | i :: r,hi=>by
  have h0:=hi i Au;have hl:=h.length;refine .cons ?_ (qlr h λj hj=>hi j (Ap _ hj))
  show RelV (xs.getD i .non) (vs.getD i .none)
  rw[AO,Ad h0,AO,Ad (by omega)];exact qh0 h h0 (by omega)
where
 qh0:∀ {xs:List V} {vs:List Value} {i:Nat},Vals xs vs->(h1:i<xs.length)->(h2:i<vs.length)->RelV xs[i] vs[i]
  | _,_,0,.cons r _,_,_=>r
  | _,_,i+1,.cons _ t,h1,h2=>qh0 (i:=i) t (by simpa using h1) (by simpa using h2)
section
variable {prog:Program} {w:World} {A:Around} {E:Value->Shared->Prop} {s:Shared}
theorem qvg {a:Addr} {vs:List Value} {n:Nat} {P:Fin->Shared->Prop} {ks:List (List Int)} (ho:s.heap.get? a=some (seqObj "list" vs.toArray n)) (h64:vs.length<64) (hl:vs.length=ks.length) (nd:ks.Nodup)
  (hT:∀ (i:Nat) v k,vs[i]?=some v->ks[i]?=some k->qye s.heap v k/\k≠[])
  (h:∀ idx:List Nat,idx.Perm (List.range ks.length)->(pick idx ks []).Pairwise (λk l=>blt k l=true)->P (.done (.ret .none)) { s with heap:=sortedHeap s.heap a vs (pick idx vs .none).toArray }):wpAny (model prog w) A (Builtin.«list.sort» ⟨[.ref a],[]⟩) P E s:=by
 by_cases h2:vs.length<2
 ·refine qqf ho h2 ?_
  have:=h (List.range ks.length) (.refl _) (by
   rw[qgd]
   match ks,hl with
   | [],_=>exact .nil
   | [k],_=>exact Di _ _
   | _ :: _ :: _,hl=>simp at hl;omega)
  rw[<- hl,qgd] at this;rw[qyc];exact this
 ·refine qsl ho (by omega) h64 hl nd hT λp hp ha=>?_
  have e:(p.map λi=>vs.getD i .none)=(pick p.toList vs .none).toArray:=by
   apply Array.ext'
   simp[pick]
  rw[e];refine h p.toList hp.perm ?_;rw[C8];intro i j hi hj hij;have hs:=hp.sz;have li:i<p.size:=by simpa [pick] using hi
  have lj:j<p.size:=by simpa [pick] using hj
  have:=ha i j hij (by omega);unfold ltK at this;rw[AU,Bv li,AU,Bv lj] at this
  simpa [pick] using this
end
section
variable {X:Cx}
theorem qyf {pins:List (Addr×Obj)} {σ:St} {H:Hp} {s:Shared} {a:Addr} {k:List Int} (I:Inv X pins σ H s) (h:H a=some (.tup (k.map V.int))):qye s.heap (.ref a) k:=by
 obtain ⟨its,rv,p,_⟩:=I.tuple (SqT.of h);obtain ⟨o,h1,h2,n,h3⟩:=(show s.heap.IsTuple a its.toArray from p);exact ⟨a,o,its.toArray,n,rfl,h1,h2,h3,by simpa using rv⟩
def qA4:List V->Hp->VK->Prop:=λxs H Q=>∃ (a:Addr) (kvs:List (List Key×V)) (ks:List (List Int)),xs=[.ref a]/\H a=some (.dT kvs)/\kvs.map (·.1)=ks.map (λk=>k.map Sum.inl)/\ks.length<64/\ks.Nodup/\(∀ k∈ks,k≠[]) /\
 ∀ ms zs l H',ms.Perm ks->ms.Pairwise (λk l=>blt k l=true)->TupsH H zs ms->New H H' l (.lst zs)->Q (.ref l) H'
theorem qsn {H:Hp}:∀ {kvs:List (List Key×V)} {ys:List (List Key×Addr×Value)} {ks:List (List Int)},KT H kvs ys->kvs.map (·.1)=ks.map (λk=>k.map Sum.inl)->TupsH H (ys.map λy=>V.ref y.2.1) ks
 | [],_,ks,.nil,e=>by
  cases ks with
  | nil=>exact .nil
  | cons _ _=>cases e
 | p :: r,_,ks,.cons (b:=y) hy t,e=>by
  cases ks with
  | nil=>cases e
  | cons k ks =>
   rw[Aw,Aw] at e;injection e with e1 e2
   refine .cons ⟨y.2.1,rfl,?_⟩ (qsn t e2);have:=hy.2.1;rw[e1] at this;rw[this,AI];rfl
theorem qls:∀ ys:List (List Key×Addr×Value),Vals (ys.map λy=>V.ref y.2.1) (ys.map λy=>Value.ref y.2.1)
 | []=>.nil
 | _ :: r=>.cons rfl (qls r)
theorem qgq (hc:X.calm=true):CallR X (.builtin "sorted") qA4:=by
 intro pins s σ H xs us Q I r h;obtain ⟨a,kvs,ks,rfl,ha,ek,h64,nd,hne,q⟩:=h;obtain ⟨u,rfl,rx⟩:=vals1 r
 cases (show u=Value.ref a from rx)
 obtain ⟨hz,lo,ys,kt,o,es,ep,e1,e2,e3,e4,_⟩:=qAd I.hok ha;have hR:RawD s.heap a es ep:=⟨o,e1,e2,e3⟩;have hT:=qsn kt ek;have lk:kvs.length=ks.length:=by have:=congrArg List.length ek;simpa using this
 have ly:ys.length=ks.length:=by have:=hT.len;simpa using this
 have hl:es.size=ys.length:=by rw[<- Bb,e4,Ac]
 refine Ew kind_sorted plain_sorted entry_sorted (args_sorted1 _) ?_;unfold Builtin.«sorted»;refine Aa (m:=checkCount "sorted" 1 1 _) (Ae ?_);refine Aa (PySem.W.kdu_collect (qwq lo) (I.ok.hd hc) hR (by rw[Bl];omega) λh' tk acc hk hacc=>?_);have hlen:acc.toList.length=ks.length:=by rw[Bb,hacc.1,hl,ly]
 have hacc':acc.toList=ys.map λy=>Value.ref y.2.1:=by
  apply List.ext_getElem?
  intro i
  by_cases hi:i<ys.length
  ·obtain ⟨v,hv⟩:∃ v,acc.toList[i]?=some v:=⟨_,Ad (by omega)⟩
   obtain ⟨e,he,hve⟩:=hacc.2 i v (by rw[<- Cd];exact hv);rw[<- Cd,e4,Ay,Ad hi] at he;cases he;rw[hv,Ay,Ad hi,hve];rfl
  ·rw[BM (by omega),BM (by simpa using by omega)]
 have I':Inv X pins σ H { s with heap:=h',toks:=tk }:=I.kept hk;have rv:Vals (ys.map λy=>V.ref y.2.1) acc.toList:=by
  rw[hacc'];exact qls ys
 refine Aa (DJ ?_ (by rw[hlen,Bl];omega));have hS:(h'.push (seqObj "list" acc.toList.toArray 0)).get? h'.objs.size=some (seqObj "list" acc.toList.toArray 0):=Ao _ rfl;refine Aa (Bk (BK slot_list_sort ⟨_,hS,rfl⟩ entry_list_sort (qvg (s:={ s with heap:=h'.push (seqObj "list" acc.toList.toArray 0),toks:=tk }) (ks:=ks) hS (by omega) hlen nd (λi v k q1 q2=>?_) λidx i1 i2=>⟨_,rfl,?_⟩) (args_list_sort _)))
 ·obtain ⟨y,hy⟩:∃ y,ys[i]?=some y:=⟨_,Ad (by have:=(Ai.mp q2).1;omega)⟩
  obtain ⟨b,eb,hb⟩:=hT.get (i:=i) (by rw[Ay,hy];rfl) q2;cases eb;have hv:v=Value.ref y.2.1:=by
   rw[hacc',Ay,hy] at q1;exact (AJ q1).symm
  subst hv;obtain ⟨b,o,xs,e,e1,g1,g2⟩:=qyf I' hb;exact ⟨⟨b,o,xs,e,e1,Ab _ g1,g2⟩,hne k (An q2)⟩
 ·refine Ae ⟨_,rfl,?_⟩
  have hi:∀ i∈idx,i<ks.length:=λi h=>BV.mp (i1.mem_iff.mp h)
  have hil:=i1.length_eq;rw[List.length_range] at hil;obtain ⟨c,hat⟩:∃ c,(sortedHeap (h'.push (seqObj "list" acc.toList.toArray 0)) h'.objs.size acc.toList (pick idx acc.toList .none).toArray).get? h'.objs.size=some (seqObj "list" (pick idx acc.toList .none).toArray c):=sortedHeap_at hS;have kp:∀ b ob,h'.get? b=some ob->(sortedHeap (h'.push (seqObj "list" acc.toList.toArray 0)) h'.objs.size acc.toList (pick idx acc.toList .none).toArray).get? b=some ob:=λb ob hb=>by
   have lb:=Am hb;rw[sortedHeap_old (Av lb) (by rw[Ek];exact CH lb)];exact Ab _ hb
  have vp:Vals (pick idx (ys.map λy=>V.ref y.2.1) .non) (pick idx acc.toList .none):=qlr rv (λi h=>by have:=hi i h;simp;omega);refine ⟨.ref h'.objs.size,_,I'.laid (t':=tk) (o:=.lst (pick idx (ys.map λy=>V.ref y.2.1) .non)) kp (Ag _) ⟨?_,pick idx acc.toList .none,c,vp,hat⟩,rfl,q (pick idx ks []) _ _ _ (qsm i1) i2 (hT.pick hi) (qbb (I'.hok.fresh (Ag _)))⟩
  show (pick idx _ V.non).length<=_
  unfold pick;rw[Ac,Bl];omega
end
open PySem PySem.Spec PyProof.Rows
section
variable {X:Cx} {k:Nat} {C:Addr} {ps:List Str} {sp:Sp} {dvs:List V} {ds:List Value} {m:Str} {pos apos:Pos} {e o:Expr} {es:List Expr} {ta:TE} {t:TA}
end
open PySem PySem.Spec PyProof.Rows PySem.W
section
variable {prog:Program} {w:World} {A:Around} {E:Value->Shared->Prop} {s:Shared}
end
section
variable {X:Cx} {pos:Pos}
end
open PySem PySem.Spec PyProof.Rows
section
variable {prog:Program} {w:World} {A:Around} {E:Value->Shared->Prop} {s:Shared}
end
open PySem PySem.Spec PyProof.Rows
section
variable {X:Cx} {pins:List (Addr×Obj)} {σ:St} {H:Hp} {s:Shared} {d:Addr}
end
section
variable {X:Cx}
end
open PySem PySem.Spec PyProof.Rows
section
variable {prog:Program} {w:World} {A:Around} {E:Value->Shared->Prop} {h:Heap} {g:Array GenState} {d:Drawn} {t:Nat} {os:OsState}
variable {nm q:Str} {C N x:Addr} {bs bm:List Value} {hdct:Bool} {sn:List Str} {sub:List Value} {ab:Bool} {col:Option Bool} {dd:Option Addr} {k0 k1 k2 k3 k5:Option Value}
theorem qji (T:OwnTail h veMro bm) {mN:Str->Option Value} {rest:List Value} {fI:Addr} {oI:Obj} {Q:Fin->Shared->Prop}
  (hC:h.get? C=some (excClassObj nm q C N bs bm hdct sn sub ab col dd k0 k1 k2 k3 k5 "ValueError.__new__")) (hn:h.Ns N mN) (hi:mN "__init__" = some (.ref fI))
  (hfI:h.get? fI=some oI) (hfc:oI.cls=.type "function")
  (hq:∀ h',(∀ b o,h.get? b=some o->h'.get? b=some o)->h'.get? (h.objs.size+1)=some { cls:=.ref C,data:=.fields #[.ref h.objs.size,.none,.none,.none,.bool false,.none] } ->
   wpAny (model prog w) A (call (.ref fI) (.ref (h.objs.size+1) :: rest)) (λr s'=>r=.none/\Q (.done (.ret (.ref (h.objs.size+1)))) s') E ⟨h',g,d,t,os⟩) (hrest:rest.length<=sizeLine) :
  wpAny (model prog w) A (Builtin.«type.__call__» ⟨.ref C :: rest,[]⟩) Q E ⟨h,g,d,t,os⟩:=by
 have F:=Cg;have hBn:veMro.contains (.type "ValueError")=true:=by decide +kernel
 repeat (first|with_reducible refine BG hC ?_|with_reducible refine wpAny_madeBy_exc hC ?_|wp_step)
 refine codeAny_call_builtin_code (DM _ F.quiet) (wpAny_check_new_subU F hBn T hC ?_);refine codeAny_exc_new_subU F hBn F T hC ?_ hrest
 show wpAny _ _ _ _ _ _
 have hC₁:=Ab { cls:=.ref C,data:=.fields #[.ref h.objs.size,.none,.none,.none,.bool false,.none] }
  (Ab { cls:=.type "tuple",data:=.seq rest.toArray } hC)
 have hfI₁:=Ab { cls:=.ref C,data:=.fields #[.ref h.objs.size,.none,.none,.none,.bool false,.none] }
  (Ab { cls:=.type "tuple",data:=.seq rest.toArray } hfI)
 have hn₁:((h.push { cls:=.type "tuple",data:=.seq rest.toArray }).push { cls:=.ref C,data:=.fields #[.ref h.objs.size,.none,.none,.none,.bool false,.none] }).Ns N mN:=
  let ⟨o,es,ep,e,r⟩:=hn;⟨o,es,ep,Ab _ (Ab _ e),r⟩
 have hget:((h.push { cls:=.type "tuple",data:=.seq rest.toArray }).push
   {cls:=.ref C,data:=.fields #[.ref h.objs.size,.none,.none,.none,.bool false,.none] }).get? (h.objs.size+1)=some
   {cls:=.ref C,data:=.fields #[.ref h.objs.size,.none,.none,.none,.bool false,.none] }:=by heap_get
 have hcC:(Value.ref C :: bm).contains (.ref C)=true:=by simp
 have T₁:=T.keeps (h':=(h.push { cls:=.type "tuple",data:=.seq rest.toArray }).push { cls:=.ref C,data:=.fields #[.ref h.objs.size,.none,.none,.none,.bool false,.none] })
  λb o e=>Ab _ (Ab _ e)
 unfold isInstance
 repeat (first|with_reducible refine BG hget ?_|(with_reducible refine CZ hC₁ ?_;rw[hcC])|wp_step)
 show wpAny _ _ (typeLookup (.ref C) _) _ _ _
 refine wpAny_typeLookup_tail hC₁ hn₁ T₁ F.mroIs F.init.lookup ?_;rw[hi];refine Bk (Aa ?_);unfold bindSpecial;refine Aa (EL (T:= "function") ⟨_,hfI₁,hfc⟩ ?_);rw[Al (by decide)];refine Ae (Aa (A7 (hq _ (λb o hb=>Ab _ (Ab _ hb)) hget) (λr s' hr=>?_) λ_ _ x=>x));obtain ⟨rfl,hQ⟩:=hr
 wp_walk
 exact hQ
theorem qso (T:OwnTail h veMro bm) {mN:Str->Option Value} {rest:List Value} {fI:Addr} {oI:Obj} {Q:Value->Shared->Prop}
  (hC:h.get? C=some (excClassObj nm q C N bs bm hdct sn sub ab col dd k0 k1 k2 k3 k5 "ValueError.__new__")) (hn:h.Ns N mN) (hi:mN "__init__" = some (.ref fI))
  (hfI:h.get? fI=some oI) (hfc:oI.cls=.type "function")
  (hq:∀ h',(∀ b o,h.get? b=some o->h'.get? b=some o)->h'.get? (h.objs.size+1)=some { cls:=.ref C,data:=.fields #[.ref h.objs.size,.none,.none,.none,.bool false,.none] } ->
   wpAny (model prog w) (A.under (.builtin "type.__call__" ⟨.ref C :: rest,[]⟩)) (call (.ref fI) (.ref (h.objs.size+1) :: rest)) (λr s'=>r=.none/\Q (.ref (h.objs.size+1)) s') E ⟨h',g,d,t,os⟩) (hrest:rest.length<=sizeLine) :
  wpAny (model prog w) A (call (.ref C) rest) Q E ⟨h,g,d,t,os⟩:=by
 have f1:=tc_lookup;have f2:=tc_bind (.ref C);have hT:(⟨h,g,d,t,os⟩:Shared).TypeIs (.ref C) "type" :=⟨_,hC,rfl⟩;refine BY (Eb ?_)
 show wpAny _ _ (callAny (.ref C) _) _ _ _
 repeat (any_goals (first|assumption|with_reducible refine BG hC ?_|wp_step))
 refine ⟨rfl,?_⟩;refine codeAny_call_builtin_at (DM _ (by decide +kernel)) entry_typeCall (wpAny_check_type_call_sub hC (qji T hC hn hi hfI hfc (λh' hk he=>?_) hrest));exact hq h' hk he
theorem qqg {M:Model} {s:Shared} {env:Env} {y:Sem Value} {newId:String} {Q:Flow->Shared->Prop} (hbase:bm.contains (.type "BaseException")=true) (hh:A.handled=none)
  (h:wpAny M A y (λv s₁=>∃ e dx vs sl,v=.ref e/\s₁.heap.get? C=some (excClassObj nm q C N bs bm hdct sn sub ab col dd k0 k1 k2 k3 k5 newId) /\
   s₁.heap.get? e=some ⟨.ref C,dx,.fields vs,sl⟩/\vs[1]?=some .none/\E (.ref e) s₁) E s):wpAny M A (raiseStmt env (some y) none) Q E s:=by
 have hcB:(Value.ref C :: bm).contains (.type "BaseException")=true:=by rw[List.contains_cons,hbase,EY]
 unfold raiseStmt;refine Aa (A7 h (λv s₁ h₁=>?_) λ_ _ x=>x);obtain ⟨e,dx,vs,sl,rfl,hC,he,h1,hE⟩:=h₁;obtain ⟨hp,g,d,tk,os⟩:=s₁
 repeat (first|with_reducible refine Bo he rfl h1 ?_|with_reducible refine BG he ?_|with_reducible refine BG hC ?_|(with_reducible refine CZ hC ?_;rw[hcB])|wp_step)
 exact wpAny_raiseNew_none hh hE
theorem qno {self:Value} {what:Str}:∀ {bm:List Value},OwnTail h veMro bm->refuseLoop self what bm=refuseLoop self what veMro:=by
 intro bm T
 induction T with
 | base=>rfl
 | own _ _ _ _ ih=>rw[refuseLoop_ref];exact ih
end
def qoz (a:Addr) (cls:Value) (dd:Option Addr):HO:=.ext λh=>∃ oe vs,h.get? a=some oe/\oe.cls=cls/\oe.dict=dd/\oe.data=.fields vs/\vs.size=6/\vs[1]?=some .none
def qo0 (K:Frag) (C f:Addr):Bool:=match K.lookup C with
 | some ⟨.type "type",_,.cls cd,sl⟩=>(match cd.mro,sl.toList with
  | .ref C' :: bm,[_,_,_,_,some (.builtin n),_]=>C' == C && n == "ValueError.__new__" && !cd.hasDel && PySem.W.tailIn K veMro bm && PySem.W.nsOkIn K cd.ns && nsIn K cd.ns "__init__" == some (some (.ref f)) && cd.hasDict
  | _,_=>false)
 | _=>false
structure qA5 (K:Frag) (C f:Addr) (fld:Str):Prop where
 e:qo0 K C f=true
 fn:PySem.W.isFn K (.ref f)=true
 x:qnm K C
 hd:PySem.W.hasDictIn K C=true
 sa:PySem.W.findIn K (.ref C) "__setattr__" = some (some (.builtin "object.__setattr__"))
 na:PySem.W.findIn K (.ref C) fld=some none
theorem qA6 {K:Frag} {h:Heap} {N:Addr} {mg:Str->Option Value} {n:Str} {v:Value} (X:K.In h) (G:h.Ns N mg) (e:nsIn K N n=some (some v)):mg n=some v:=by
 obtain ⟨o,es,ep,ho,hd,_,hf⟩:=G;unfold nsIn at e
 split at e
 ·rename_i c d es' n' sl q
  have:=X _ _ q;rw[ho] at this;cases this;cases hd
  split at e
  ·rename_i en he
   cases e;rw[<- hf];unfold nsFind findBy;rw[<- Array.find?_toList,he]
   rfl
  ·split at e<;>cases e
 ·cases e
structure qsp (h:Heap) (C f:Addr):Prop where
 e:∃ bm N nm qn bs sn sub ab col dd k0 k1 k2 k3 k5 mN,h.get? C=some (excClassObj nm qn C N bs bm true sn sub ab col dd k0 k1 k2 k3 k5 "ValueError.__new__")/\h.Ns N mN/\mN "__init__" = some (.ref f)/\OwnTail h veMro bm
theorem qnp {K:Frag} {h:Heap} {C f:Addr} (X:K.In h) (q:qo0 K C f=true):qsp h C f:=by
 unfold qo0 at q
 split at q
 case h_2=>cases q
 case h_1 dd cd sl ho =>
  split at q
  case h_2=>cases q
  case h_1 C' bm k0 k1 k2 k3 n k5 hm hsl =>
   simp only[CN,BZ,Bool.not_eq_true'] at q;obtain ⟨⟨⟨⟨⟨⟨q1,q2⟩,q3⟩,q4⟩,q5⟩,q6⟩,q7⟩:=q;subst q1 q2
   cases cd with
   | mk nm bs mro ns qn hd sn sub ab col del =>
    cases sl with
    | mk l =>
     have hm':mro=_:=hm;have hl':l=_:=hsl;have q3':del=false:=q3;have q7':hd=true:=q7;subst hm' hl' q3' q7';have hN:=PySem.Heap.Ns.of_isNs (PySem.W.isNs_of_in X q5);exact ⟨bm,ns,nm,qn,bs,sn,sub,ab,col,dd,k0,k1,k2,k3,k5,_,X _ _ ho,hN,qA6 X hN q6,PySem.W.tail_of_in X q4⟩
section
variable {prog:Program} {w:World} {A:Around} {E:Value->Shared->Prop} {K:Frag} {h:Heap} {g:Array GenState} {d:Drawn} {t:Nat} {os:OsState} {C f x:Addr} {o:Obj} {vs:Array Value}
theorem qsq {name:Str} {v:Value} {Q:Unit->Shared->Prop} (X:K.In h) (hE:qsp h C f) (hsa:PySem.W.findIn K (.ref C) "__setattr__" = some (some (.builtin "object.__setattr__"))) (hna:PySem.W.findIn K (.ref C) name=some none)
  (hob:PySem.W.mroIn K C (.type "object")=some true) (hx:h.get? x=some o) (hc:o.cls=.ref C) (hd:o.data=.fields vs) (hdn:o.dict=none)
  (hq:∀ h' tk',h'.get? x=some { o with dict:=some h.objs.size }->h'.Ns1 h.objs.size (λy=>if y=name then some v else none)->(∀ b ob,b≠x->h.get? b=some ob->h'.get? b=some ob)->Q () ⟨h',g,d,tk',os⟩) :
  wpAny (model prog w) A (setAttr (.ref x) name v) Q E ⟨h,g,d,t,os⟩:=by
 obtain ⟨bm,N,nm,qn,bs,sn,sub,ab,col,dd,k0,k1,k2,k3,k5,mN,hC,hn,hi,T⟩:=hE;have SF:=PySem.F.store_ValueError;have I:PySem.W.InstAt h x o C none:=⟨hx,hc,by unfold PySem.W.notCls;rw[hd],by rw[hdn];trivial⟩;refine PySem.W.set_plain (s:=⟨h,g,d,t,os⟩) X I hsa ?_;have L3:=Bz (M:=model prog w) X hna;have sub':PySem.W.Looks (model prog w) h (isInstance (.ref x) (.type "object")) true:=I.type.andThen (DG X hob);refine BQ SF.slot.plain SF.entry (@DL (model prog w) _ _ ⟨h,g,d,t+1,os⟩ "object.__setattr__" "object" "__setattr__" (.ref x) [.str name t,v] [] _ SF.kind SF.split sub' (SF.args (.ref x) (.str name t) v) ?_);have hpass:refuseLoop (.ref x) "__setattr__" (.ref C :: bm)=pure ():=by rw[refuseLoop_ref,qno T];exact SF.passes _
 unfold Builtin.«object.__setattr__»
 repeat (first|rw[refuse_eq]|rw[hpass]|(with_reducible refine BG hx ?_;rw[hc])|with_reducible refine wpAny_mroOf_exc hC ?_|with_reducible refine L3.at ?_|wp_step)
 rw[hdn,Ah (by simp[typeHasDict])]
 split
 ·rename_i hcd
  cases hcd
 split
 ·rename_i c hcd
  rw[hd] at hcd;cases hcd
 ·have hx₁:(h.push { cls:=.type "dict",data:=.dict #[] }).get? x=some o:=Ab _ hx
  have hxs:x≠h.objs.size:=Av (Am hx);refine Aa (wpAny_alloc' ?_);refine Aa (wpAny_update' hx₁ ?_);refine Ae ?_;have hgd:((h.push { cls:=.type "dict",data:=.dict #[] }).update x λo=>{ cls:=o.cls,dict:=some h.objs.size,data:=o.data,slots:=o.slots }).get? h.objs.size
    = some { cls:=.type "dict",data:=.dict #[] }:=
   (Heap.get?_update_ne _ _ _ _ hxs.symm).trans (Heap.get?_push_at rfl rfl)
  have hnd:((h.push { cls:=.type "dict",data:=.dict #[] }).update x λo=>{ cls:=o.cls,dict:=some h.objs.size,data:=o.data,slots:=o.slots }).Ns h.objs.size (λ_=>none):=
   ⟨_,#[],_,hgd,rfl,λe he=>absurd he (by simp),λ_=>rfl⟩
  show wpAny _ _ (Builtin.ObjectAttr.storeInDict h.objs.size (.str name t) name v) _ _ _
  unfold Builtin.ObjectAttr.storeInDict Builtin.ObjectAttr.newKeyGuard;refine Aa (Ae (Aa (wpAny_nsSet1 (Heap.Ns1.of_empty hnd) λh' hn' hs=>?_)));obtain ⟨oD,esD,epD,hoD,hdD,hcD⟩:=hn'.count (Within.cons name v Within.nil);refine Aa (wpAny_lookBehind hoD (by rw[hdD];exact pastItsLine_dict (AR hcD (by rw[Az,BO,Bl];omega))) ?_)
  wp_walk
  refine hq h' _ ?_ hn' (λb ob hbx hb=>?_)
  ·refine (hs.2 x hxs).trans (BN _ hx₁ ?_)
   have hfr:=(Heap.get?_some_iff.mp hx).2;obtain ⟨oc,od,odt,osl⟩:=o
   cases odt<;>first|rfl|exact hfr
  ·exact (hs.2 b (Av (Am hb))).trans ((Heap.get?_update_ne _ _ _ _ hbx).trans (Ab _ hb))
theorem qkq {rest:List Value} {Q:Value->Shared->Prop} (hE:qsp h C f) (hx:h.get? x=some o) (hc:o.cls=.ref C) (hd:o.data=.fields vs) (h0:0<vs.size) (hrest:rest.length<=sizeLine)
  (hq:∀ h' v0,(∀ b ob,b≠x->h.get? b=some ob->h'.get? b=some ob)->h'.get? x=some { o with data:=.fields (vs.setIfInBounds 0 v0) }->Q .none ⟨h',g,d,t,os⟩) :
  wpAny (model prog w) A (call (.builtin "ValueError.__init__") (.ref x :: rest)) Q E ⟨h,g,d,t,os⟩:=by
 obtain ⟨bm,N,nm,qn,bs,sn,sub,ab,col,dd,k0,k1,k2,k3,k5,mN,hC,hn,hi,T⟩:=hE;have F:=Cg;refine BY (BQ F.init.plain F.initEntry (wpAny_check_init_subU F T hC hx hc ?_));have hx₁:(h.push { cls:=.type "tuple",data:=.seq rest.toArray }).get? x=some o:=Ab _ hx;obtain ⟨oc,od,odt,osl⟩:=o;dsimp only at hd hc;subst hd;have e0:vs[0]?=some vs[0]:=Bv h0
 wp_walk
 dsimp only;rw[e0];refine Ae ?_;refine Aa (CF hx₁ rfl h0 ?_);have fin:Q .none ⟨(h.push { cls:=.type "tuple",data:=.seq rest.toArray }).update x (Obj.mapFields (·.setIfInBounds 0 (Value.ref h.objs.size))),g,d,t,os⟩:=by
  refine hq _ (Value.ref h.objs.size) (λb ob hb q=>?_) ?_
  ·rw[Bt _ _ (AY hb)]
   exact Ab _ q
  ·exact BN _ hx₁ rfl
 generalize vs[0]=old
 cases old<;>first|exact Ae (Ae fin)|exact D2 (Ae fin)
end
open PySem PySem.Spec PyProof.Rows
section
variable {prog:Program} {w:World} {A:Around} {E:Value->Shared->Prop} {s:Shared} {K:Frag} {a D:Addr} {oe:Obj} {od:Option Obj}
theorem qyg {name:Str} {v:Value} {expr:Bool} {Q:Value->Shared->Prop} (X:K.In s.heap) (F:qnm K D) (I:PySem.W.InstAt s.heap a oe D od) (hf:PySem.W.findObj K D od name=some (.value v)) (hv:PySem.W.handedIn v=true)
  (h:Q v { s with toks:=s.toks+1 }):wpAny (model prog w) A (getAttr (.ref a) name expr) Q E s:=by
 obtain ⟨hh,g,d,t,os⟩:=s;have L0:=I.type (M:=model prog w);have L1:=Bz (M:=model prog w) X F.ga;have L2':=Bz (M:=model prog w) X F.gt;have Lf:=PySem.W.looks_find (M:=model prog w) X I hf;have sub':PySem.W.Looks (model prog w) hh (isInstance (.ref a) (.type "BaseException")) true:=L0.andThen (DG X F.be);have f3:=(CA).ga.bind (.ref a);have hx2:(Value.builtin "BaseException.__getattribute__" == Value.builtin "object.__getattribute__")=false:=by decide +kernel
 have hsel:(onTheHeap (Value.ref D) && Value.builtin "BaseException.__getattribute__" == Value.builtin "object.__getattribute__")=false:=by rw[hx2];rfl
 refine Aa (wpAny_mkText (Bk (Aa (L0.at (Aa (L1.at ?_))))));dsimp only;rw[Ah (by rw[hsel];decide)];unfold getAttrByItsOwn hookBefore;refine Aa ?_;rw[Al (show onTheHeap (Value.ref D)=true from rfl)];refine L2'.at ?_;refine Aa (Cs (Bk ?_));unfold callGetattribute;rw[show (expr && onTheHeap (Value.builtin "BaseException.__getattribute__"))=false from Bool.and_false _,Ah (by decide)];unfold boundAndCalled;rw[f3];refine Aa (Ae ?_);refine BY (BQ CA.ga.plain E6 ?_);refine @DL (model prog w) _ _ ⟨hh,g,d,t+1,os⟩ "BaseException.__getattribute__" "BaseException" "__getattribute__" (.ref a) [.str name t] [] _ (by decide +kernel) (by decide +kernel) sub' (Fi (.ref a) (.str name t)) ?_
 repeat (first|with_reducible refine L0.at ?_|with_reducible refine Lf.at ?_|wp_step)
 exact PySem.W.handed_on (M:=model prog w) hv h
end
def qDf (K:Frag) (ta:TE) (f:Str):TE:=λσ H Q=>ta σ H λx H1=>∃ a D dx fs v,x=.ref a/\H1 a=some (qzx a (.ref D) (some dx))/\H1 dx=some (.xd fs)/\qnm K D/\PySem.W.hasDictIn K D=true/\PySem.W.findIn K (.ref D) f=some none/\fs.lookup f=some v/\Q v H1
theorem qyh {X:Cx} {K:Frag} {e:Expr} {f:Str} {pos:Pos} {ta:TE} (hK:X.K=K) (he:PE X e ta) (hb:attributeBase e f X.env (eval e X.env)=eval e X.env):PE X (.Attribute e f pos) (qDf K ta f):=by
 subst hK;intro pins s σ H Q I h;refine qro hb (thn (he pins s σ H _ I h) λu s1 hq=>?_);obtain ⟨x,H1,I1,rx,a,D,dx,fs,v,ex,ea,edx,F,hdi,hna,l,q⟩:=hq;subst ex;obtain rfl:u=Value.ref a:=rx;obtain ⟨⟨oe,vs,h1,hc,hdc,hd⟩,_⟩:=(show ObjOk X.prog X.w H1 s1.heap a (qzx a (.ref D) (some dx)) from I1.hok a _ ea);obtain ⟨mA,hN,hr⟩:=(show ObjOk X.prog X.w H1 s1.heap dx (.xd fs) from I1.hok dx _ edx);obtain ⟨u',hu,ru⟩:=RelO.some_of (v:=v) (o:=mA f) (by rw[<- l];exact hr f);obtain ⟨od,ho,hl⟩:=qle hN;have J:PySem.W.InstAt s1.heap a oe D (some od):=⟨h1,hc,by unfold PySem.W.notCls;rw[hd],by rw[hdc];exact ho⟩;exact qyg I1.kIn F J (PySem.W.findObj_own hdi hna rfl (by rw[hl,hu])) (qlf ru) ⟨v,H1,I1.tok _,ru,q⟩
theorem qnq {P:Program} {w:World} {H:Hp} {h:Heap} {a:Addr} {cls:Value} {dd:Option Addr} {oe:Obj} {vs:Array Value} (h1:h.get? a=some oe) (h2:oe.cls=cls) (h3:oe.dict=dd) (h4:oe.data=.fields vs) (h5:vs.size=6) (h6:vs[1]?=some .none):ObjOk P w H h a (qoz a cls dd):=
 ⟨⟨oe,vs,h1,h2,h3,h4,h5,h6⟩,⟨oe,h1⟩,λ_ _ ⟨o',v',q1,q2,q3,q4,q5,q6⟩ k=>⟨o',v',k _ q1,q2,q3,q4,q5,q6⟩⟩
def qDg (K:Frag) (ta tv:TE) (f:Str):TS:=λD σ H=>tv σ H λy H1=>ta σ H1 λx H2=>∃ a C fI,x=.ref a/\H2 a=some (qoz a (.ref C) none)/\qA5 K C fI f /\
 ∀ dx H3,H2 dx=none->dx≠a->H3 a=some (qoz a (.ref C) (some dx))->H3 dx=some (.xd [(f,y)])->(∀ b o,H2 b=some o->b≠a->H3 b=some o)->D.nx σ H3
theorem qyi {X:Cx} {o value:Expr} {f:Str} {pos pos':Pos} {ta tv:TE} (ha:PE X o ta) (hv:PE X value tv) (hs:swapsWith value (some (.Attribute o f pos')) pos.line X.env=pure false):PS X (.Assign [.Attribute o f pos'] value pos) (qDg X.K ta tv f):=by
 intro pins s σ H D I h;refine DT (thn (hv pins s σ H _ I h) λu s1 hq1=>?_) hs;obtain ⟨y,H1,I1,ry,q⟩:=hq1;refine thn (ha pins s1 σ H1 _ I1 q) λov s2 hq2=>?_
 obtain ⟨x,H2,I2,rx,a,C,fI,ex,ea,hE,q2⟩:=hq2;subst ex;obtain rfl:ov=Value.ref a:=rx;obtain ⟨⟨oe,vs,h1,hc,hdn,hd,h6,hv1⟩,_⟩:=(show ObjOk X.prog X.w H2 s2.heap a (qoz a (.ref C) none) from I2.hok a _ ea);obtain ⟨hh,g,d,t,os⟩:=s2;refine qsq I2.kIn (qnp I2.kIn hE.e) hE.sa hE.na hE.x.ob h1 hc hd hdn λh' tk' hx' hn' hk=>?_
 have h1':hh.get? a=some oe:=h1;have hne:hh.objs.size≠a:=Cn (Am h1');have hfree:H2 hh.objs.size=none:=I2.hok.fresh (Ag _);obtain ⟨oD,esD,epD,hoD,_⟩:=id hn';have hpush:(hh.push oD).get? hh.objs.size=some oD:=Ao hh (Heap.get?_some_iff.mp hoD).2;have I3:=I2.laid (a:=hh.objs.size) (o:=.xd [(f,y)]) (h':=hh.push oD) (t':=tk') (λb u q=>Ab _ q) (Ag _) ⟨_,hn'.at (λo q=>by rw[hoD] at q;cases q;exact hpush),λg=>by
  show RelO (List.lookup g [(f,y)]) (if g=f then some u else none)
  by_cases e:g=f
  ·subst e
   rw[Al rfl,CM];simp only[beq_self_eq_true];exact ry
  ·rw[Ah e,CM]
   have:(g == f)=false:=by simpa using e
   rw[this];exact True.intro⟩
 have I4:=I3.write (x:=a) (e:=a) (o:=qoz a (.ref C) (some hh.objs.size)) (h':=h') (t':=tk') (by rw[qas (AY hne),ea];exact True.intro) (.inl rfl) (λb u hb q=>?_) ⟨_,hx'⟩ (qnq hx' hc rfl hd h6 hv1)
 ·refine ⟨σ,_,I4,q2 hh.objs.size _ hfree hne qa5 (by rw[qas hne];exact qa5) λb o e hb=>?_⟩
  rw[qas hb,qas (qac e hfree)];exact e
 ·rcases Heap.get?_push_cases q with ⟨rfl,rfl⟩|q
  ·exact hoD
  ·exact hk b u hb q
structure qA7 (K:Frag) (B:Addr):Prop where
 sp:PySem.W.specialIn K (.ref B) "__getattribute__" = some (some (.builtin "type.__getattribute__"))
 rd:PySem.W.readsIn K B (.type "type")=true
 fi:PySem.W.findCls K (.ref B) (.type "type") "__init__" = some (.val (.builtin "ValueError.__init__"))
def qA8 (K:Frag) (t:TA):TE:=λσ H Q=>t σ H λvs H1=>∃ a C fI fld dd rest,vs=.ref a :: rest/\rest.length<=1000/\qA5 K C fI fld/\H1 a=some (qoz a (.ref C) dd)/\Q .non H1
theorem qA9 {H:Hp} {a:Addr} {o:HO} (h:H a=some o):upd H a o=H:=by
 funext b
 by_cases e:b=a
 ·subst e;rw[qa5,h]
 ·rw[qas e]
theorem qvh {X:Cx} {B:Addr} {x:Str} {np apos pos:Pos} {e:Expr} {es:List Expr} {t:TA} {pl:Sem Bool} (hg:Gl X x) (hm:X.mg x=some (.ref B)) (hB:qA7 X.K B) (ha:PA X (e :: es) t) (hdb:(x == ("__debug__" : Str))=false:=by decide)
  (he:starEach (e :: es) X.env=(false,eval e X.env) :: starEach es X.env:=by rfl) (hpl:(backTo pos (starEach es X.env)).any (·.1)=false:=by rfl)
  (ht:eval (.Call (.Attribute (.Name x np) "__init__" apos) (e :: es) [] pos) X.env=(do
   let ov <- eval (.Name x np) X.env
   standAt apos.atName
   let (f,first) <- holding [ov] (getMethod ov "__init__" pl)
   callWith pos f first (backTo pos (starEach (e :: es) X.env)) (backToKw pos (keywordEach [] X.env))):=by rfl) :
  PE X (.Call (.Attribute (.Name x np) "__init__" apos) (e :: es) [] pos) (qA8 X.K t):=by
 intro pins s σ H Q I h;refine CL (pl:=pl) (qdg I hg hm ?_ hdb) ht;refine PySem.W.method_cls I.kIn hB.sp (PySem.W.cls_value I.kIn hB.rd hB.fi rfl ?_);refine DX (thn (ha pos pins _ σ H _ (I.tok _) h) λus s1 hq=>?_) he hpl;obtain ⟨vs,H1,I1,r1,a,C,fI,fld,dd,rest,ev,hl,hE,hx,q⟩:=hq;subst ev
 cases us with
 | nil=>cases r1
 | cons u us =>
  cases r1 with
  | cons r0 r1 =>
   cases (show u=Value.ref a from r0)
   obtain ⟨⟨oe,ws,h1,hc,hdn,hd,h6,hv1⟩,_⟩:=(show ObjOk X.prog X.w H1 s1.heap a (qoz a (.ref C) dd) from I1.hok a _ hx);obtain ⟨hh,g,d,t,os⟩:=s1;refine qkq (qnp I1.kIn hE.e) h1 hc hd (by omega) (by rw[<- r1.length,Bl];omega) λh' v0 hk hx'=>?_
   have I2:=I1.write (x:=a) (e:=a) (o:=qoz a (.ref C) dd) (h':=h') (t':=t) (by rw[hx];exact True.intro) (.inl rfl) (λb u hb q=>hk b u hb q) ⟨_,hx'⟩ (qnq hx' hc hdn rfl (by simp[h6]) (by rw[Array.getElem?_setIfInBounds_ne (by decide)];exact hv1));rw[qA9 hx] at I2;exact ⟨.non,H1,I2,rfl,q⟩
theorem qDh {K:Frag} {h:Heap} {f:Addr} (X:K.In h) (e:PySem.W.isFn K (.ref f)=true):∃ o,h.get? f=some o/\o.cls=.type "function" :=by
 unfold PySem.W.isFn PySem.W.typeIn at e;obtain ⟨o,ho,hc⟩:=AH.mp (BZ.mp e);exact ⟨o,X _ _ ho,hc⟩
def qqh (H:Hp) (e:Addr):Hp:=λb=>if b=e then none else H b
theorem qh1 {H:Hp} {e b:Addr} (h:b≠e):qqh H e b=H b:=Ah h
theorem qnr {H:Hp} {e:Addr}:qqh H e e=none:=Al rfl
theorem Inv.drop {X:Cx} {σ:St} {H:Hp} {s:Shared} {e:Addr} {φ:Heap->Prop} (I:Inv X [] σ H s) (he:H e=some (.ext φ)):Inv X [] σ (qqh H e) s:=by
 have key:∀ b o,H b=some o->(∀ ψ,o≠.ext ψ)->qqh H e b=some o:=λb o q n=>by
  rw[qh1 (λz=>by rw[z,he] at q;cases q;exact n _ rfl)];exact q
 have no:∀ b,H b=none->qqh H e b=none:=λb q=>by
  by_cases z:b=e
  ·rw[z];exact qnr
  ·rw[qh1 z];exact q
 refine ⟨I.ok,I.os,I.bare,⟨I.base.keep,I.base.slot,λb o q n hx=>no b (I.base.free b o q n hx),I.base.there,λb xs q=>key _ _ (I.base.tups b xs q) (by intro ψ z;cases z),λb o xs q=>key _ _ (I.base.frzs b o xs q) (by intro ψ z;cases z),λb ps q=>?_⟩,I.loc,I.cell,no _ I.free,λx c q=>no _ (I.freeC x c q),λp hp=>?_,λb u q=>?_,I.len⟩
 ·obtain ⟨m1,e1⟩:=I.base.tbls b ps q
  exact ⟨m1,key _ _ e1 (by intro ψ z;cases z)⟩
 ·obtain ⟨q,n,ne,nf,d⟩:=I.pin p hp
  exact ⟨q,no _ n,ne,nf,d⟩
 ·by_cases z:b=e
  ·rw[z,qnr] at q;cases q
  ·rw[qh1 z] at q
   exact (I.hok b u q).stay (λ_ _ _ q=>q) (λc q=>key _ _ q (by intro ψ z;cases z)) λc xs q=>key _ _ q (by intro ψ z;cases z)
def qo1 (C:Addr) (fld:Str):Sp:=λvs H Q _=>∃ ex v,vs=[.ref ex,v]/\H ex=some (qoz ex (.ref C) none)/\∀ dx H',H dx=none->dx≠ex->H' ex=some (qoz ex (.ref C) (some dx))->H' dx=some (.xd [(fld,v)])->(∀ b o,H b=some o->b≠ex->H' b=some o)->Q .non H'
structure qD2 (P:Program) (w:World) (K:Frag) (mg:Str->Option Value) (base:Heap) (C:Addr) (k:Nat) (x:Str) (ps:List Str) (fld:Str):Prop where
 ex:∃ f fd,qf7 P w K mg base CX0 k f fd ps (qo1 C fld)/\mg x=some (.ref C)/\qA5 K C f fld/\Binds K fd ps []
def qyj (W:XW) (C:Addr) (fld:Str) (t:TA):TS:=λ_ σ H=>t σ H λvs H1=>∃ v,vs=[v]/\∀ dx H2,New H1 H2 dx (.xd [(fld,v)])->W (.ref C) (some dx) σ H2
theorem qsr {X:Cx} {W:XW} {C:Addr} {k:Nat} {x fld:Str} {ps:List Str} {np cpos pos:Pos} {e:Expr} {es:List Expr} {t:TA} (hW:qkn X W) (hc:X.calm=true) (D:qD2 X.prog X.w X.K X.mg X.base C k x ps fld) (hr:Room (k+1) X.A) (hg:Gl X x) (ha:PA X (e :: es) t)
  (hdb:(x == ("__debug__" : Str))=false:=by decide) (he:starEach (e :: es) X.env=(false,eval e X.env) :: starEach es X.env:=by rfl) (hpl:(backTo cpos (starEach es X.env)).any (·.1)=false:=by rfl) :
  PS X (.Raise (some (.Call (.Name x np) (e :: es) [] cpos)) none pos) (qyj W C fld t):=by
 intro pins s σ H D' I h;obtain ⟨f,fd,F,hm,hE,hb⟩:=D.ex;obtain ⟨bm,N,nm,qn,bs,sn,sub,ab,col,dd,k0,k1,k2,k3,k5,mN,hC,hN,hi,hT⟩:=(qnp I.ok.mod.kin hE.e).e;rw[arm_exec_Raise];have hplain:(backTo cpos (starEach (e :: es) X.env)).any (·.1)=false:=by rw[he];show (false || (backTo cpos (starEach es X.env)).any (·.1))=false;rw[hpl];rfl
 have main:wpAny (model X.prog X.w) X.A (eval (.Call (.Name x np) (e :: es) [] cpos) X.env) (λv s₁=>∃ ex dx vs sl,v=.ref ex/\s₁.heap.get? C=some (excClassObj nm qn C N bs bm true sn sub ab col dd k0 k1 k2 k3 k5 "ValueError.__new__") /\
   s₁.heap.get? ex=some ⟨.ref C,dx,.fields vs,sl⟩/\vs[1]?=some .none/\X.xe (.ref ex) s₁) X.xe s:=by
  refine wpAny_Call_ofName (qdg I hg hm ?_ hdb);unfold callWith;have h2:=ha cpos pins s σ H _ I h;rw[he] at h2 ⊢;refine Aa (Bk (CT (thn h2 λus s1 hq=>Aa (Df ?_))));obtain ⟨vs,H1,I1,r,v,ev,q⟩:=hq;subst ev;obtain ⟨u,rfl,ru⟩:=vals1 r;rw[<- he];simp only[hplain];have hC1:=I1.bk _ _ hC;refine Aa (wpAny_keeperOf_exc hC1 ?_);have J:Inv X [] σ H1 s1:=I1.pins_of (by simp);obtain ⟨oI,hfI,hfc⟩:∃ oI,s1.heap.get? f=some oI/\oI.cls=.type "function" :=qDh I1.kIn hE.fn;obtain ⟨hh,g,d,tk,os⟩:=s1;refine Aa (qso (hT.keeps I1.bk) hC1 (qAx I1.bk hN) hi hfI hfc (λh' hk hx=>?_) (by show 1<=sizeLine;rw[Bl];omega));have hfree:H1 (hh.objs.size+1)=none:=J.hok.fresh (Ci _);have J2:=J.laid (a:=hh.objs.size+1) (o:=qoz (hh.objs.size+1) (.ref C) none) (h':=h') (t':=tk) hk (Ci _) (qnq hx rfl rfl rfl rfl rfl);have r2:Vals [V.ref (hh.objs.size+1),v] [Value.ref (hh.objs.size+1),u]:=.cons rfl (.cons ru .nil);have hsp:qo1 C fld [V.ref (hh.objs.size+1),v] (upd H1 (hh.objs.size+1) (qoz (hh.objs.size+1) (.ref C) none)) (λw' H3=>w'=.non/\∃ dx,H3 (hh.objs.size+1)=some (qoz (hh.objs.size+1) (.ref C) (some dx))/\W (.ref C) (some dx) σ (qqh H3 (hh.objs.size+1))) (λ_ _ _=>False):=by
   refine ⟨_,v,rfl,qa5,λdx H3 f1 ne h3 h4 h5=>⟨rfl,dx,h3,q dx _ ⟨λb o e=>?_,?_,by rw[qh1 ne];exact h4⟩⟩⟩
   ·have hb:b≠hh.objs.size+1:=qac e hfree
    rw[qh1 hb];exact h5 b o (by rw[qas hb];exact e) hb
   ·rw[qas ne] at f1;exact f1
  have hl:[Value.ref (hh.objs.size+1),u].length=ps.length:=by rw[<- r2.length];exact F.len _ _ _ _ hsp
  refine BY (BJ (F.run _ X.stack _ _ ⟨[Value.ref (hh.objs.size+1),u],[]⟩ [Value.ref (hh.objs.size+1),u] _ _ _ (hr.make C [u] []) (J2.env0.make C [u] []) (hb _ [Value.ref (hh.objs.size+1),u] J2.kIn (by rw[AN];exact hl)) r2 hsp) λr s' hq'=>?_)
  cases r with
  | error e=>exact False.elim hq'
  | ok fl =>
   cases fl with
   | ret u' =>
    obtain ⟨w',H3,I3,rv,ev,dx,h3,hw⟩:=J2.after hq';subst ev;refine ⟨rv,Aa (Bk (wpAny_point (Ae ?_)))⟩;obtain ⟨⟨oe,ws,g1,gc,gd,gf,g6,gv1⟩,_⟩:=(show ObjOk X.prog X.w H3 s'.heap _ (qoz (hh.objs.size+1) (.ref C) (some dx)) from I3.hok _ _ h3);have I4:=I3.drop h3;refine ⟨_,oe.dict,ws,oe.slots,rfl,I3.bk _ _ hC,?_,gv1,hW.2 _ _ ⟨_,.ref C,some dx,σ,_,rfl,I4,⟨J.fpX hW.1 (DB (Ci _)) qnr,.inl ⟨oe,ws,g1,gc,gd,gf,gv1⟩⟩,hw⟩⟩;rw[g1,<- gc,<- gf]
   | next=>exact False.elim hq'
   | brk=>exact False.elim hq'
   | cont=>exact False.elim hq'
 exact Aa (Df (qqg (hT.hasType (by decide +kernel)) (I.ok.hd hc) (Aa (A7 main (λv s₃ h₃=>Aa (Df (Ae h₃))) λ_ _ x=>x))))
open PySem PySem.Spec PyProof.Rows
structure Mk0 (K:Frag) (C:Addr):Prop where
 makes:PySem.W.makesIn K C=true
 init:PySem.W.findIn K (.ref C) "__init__" = some (some (.builtin "object.__init__"))
 kp:keepIn K (.ref C)=true
def qDi (C:Addr):TE:=λ_ H Q=>∀ x dx H',Same H H'->H x=none->H' x=some (.ins C dx [])->Q (.ref x) H'
theorem qyk {X:Cx} {C:Addr} {x:Str} {p pos:Pos} (M:Mk0 X.K C) (hg:Gl X x) (hm:X.mg x=some (.ref C)) (hdb:(x == ("__debug__" : Str))=false:=by decide):PE X (.Call (.Name x p) [] [] pos) (qDi C):=by
 intro pins s σ H Q I h;refine BL (qdg I hg hm ?_ hdb);refine PySem.W.callWith_K0 I.kIn M.kp ?_;have I2:=Inv.made (C:=C) I;have f1:H (s.heap.objs.size+1)=none:=I.hok.fresh (Ci _);have f2:H s.heap.objs.size=none:=I.hok.fresh (Ag _);have hq:=h (s.heap.objs.size+1) s.heap.objs.size (upd (upd H s.heap.objs.size (.own (s.heap.objs.size+1))) (s.heap.objs.size+1) (.ins C s.heap.objs.size [])) ((qdu f2).trans (qdu (by rw[qas (Cn (BU _))];exact f1))) f1 qa5;have Y:=DV (M:=model X.prog X.w) I.kIn M.makes;have kin:=I.kIn;clear I h f1 f2;obtain ⟨hh,g,d,t,os⟩:=s;refine BY (qrm kin M.makes M.init (λself=>PySem.W.Looks.of_pure (PySem.W.oi_bind self)) ?_);have e2:((hh.push PySem.W.emptyDict).push (PySem.W.instObj C hh.objs.size)).get? (hh.objs.size+1)=some (PySem.W.instObj C hh.objs.size):=by
  have:=Ao (hh.push PySem.W.emptyDict) (o:=PySem.W.instObj C hh.objs.size) rfl
  rwa [Bp] at this
 have t1:PySem.W.Looks (model X.prog X.w) ((hh.push PySem.W.emptyDict).push (PySem.W.instObj C hh.objs.size)) (typeOf (.ref (hh.objs.size+1))) (.ref C):=(DW e2).andThen .now;have t2:PySem.W.Looks (model X.prog X.w) ((hh.push PySem.W.emptyDict).push (PySem.W.instObj C hh.objs.size)) (isInstance (.ref (hh.objs.size+1)) (.type "object")) true:=t1.andThen (Y.top.keeps λb o e=>Ab _ (Ab _ e));refine BQ PySem.W.oi_plain PySem.W.entry_oi (@DL (model X.prog X.w) _ _ _ "object.__init__" "object" "__init__" (.ref (hh.objs.size+1)) [] [] _ PySem.W.oi_kind PySem.W.oi_split t2 (PySem.W.oi_args (.ref (hh.objs.size+1))) ?_);rw[PySem.W.oi_run];exact Ae (And.intro rfl ⟨.ref _,_,I2,rfl,hq⟩)
open PySem PySem.Spec PyProof.Rows PySem.Builtin PySem.Builtin.Str
def slS (x:Str) (lo hi:Option Int):Str:=
 if ((strSliceIndices lo hi 1 x.length).length == x.length)=true then x else ⟨((strSliceIndices lo hi 1 x.length).filterMap (x.cps[·]?)).toArray⟩
def qEw:V->Option Int->Option Int->Hp->VK->Prop:=λx lo hi H Q=>∃ z,x=.str z/\(slS z lo hi).length<=sizeLine/\Q (.str (slS z lo hi)) H
theorem qo2 {X:Cx}:SlR X qEw:=by
 intro pins s σ H x v vl vu lo hi sl Q I rx hs pl pu h;obtain ⟨z,rfl,hz,q⟩:=h;obtain ⟨t,rfl⟩:=rx;obtain ⟨l,el,el2⟩:∃ l:Option (Int×Tok),vl=partValue l/\l.map (·.1)=lo:=by
  cases pl with
  | none=>exact ⟨none,rfl,rfl⟩
  | int i t=>exact ⟨some (i,t),rfl,rfl⟩
 obtain ⟨u,eu,eu2⟩:∃ u:Option (Int×Tok),vu=partValue u/\u.map (·.1)=hi:=by
  cases pu with
  | none=>exact ⟨none,rfl,rfl⟩
  | int i t=>exact ⟨some (i,t),rfl,rfl⟩
 subst el eu el2 eu2;have hs':s.heap.IsSlice sl l u none:=hs;refine ⟨"str",_,F.slot_str_getitem.lookup,typeIs_str _ _ _,wpAny_getItem_str_slice (l:=l) (u:=u) (st:=none) hs' rfl ?_⟩;unfold slS at q hz;unfold sliceMade slicePicked
 by_cases c:((strSliceIndices (l.map (·.1)) (u.map (·.1)) 1 z.length).length == z.length)=true
 ·rw[Al c] at q
  rw[Al (by simpa using c)];exact ⟨.str z,H,I,⟨_,rfl⟩,q⟩
 ·rw[Ah c] at q hz
  rw[Ah (by simpa using c)];exact ⟨hz,⟨.str _,H,I.tok _,⟨_,rfl⟩,q⟩⟩
open PySem PySem.Spec PyProof.Rows PySem.W
end L2
namespace L2
open PySem PySem.Spec PyProof.Rows PySem.W
section
variable {prog:Program} {w:World} {A:Around} {E:Value->Shared->Prop} {s:Shared}
end
section
variable {X:Cx}
end
open PySem PySem.Spec PyProof.Rows
section
variable {prog:Program} {w:World} {A:Around} {R:Result->Shared->Prop} {I:Addr} {fp wr:List Addr} {n:Nat} {P:Nat->Value->Prop} {St:Nat->Heap->Prop} {K:Type} [DecidableEq K] {knd:KeyKind prog w K}
end
open PySem PySem.Spec PyProof.Rows
section
variable {prog:Program} {w:World} {A:Around} {E:Value->Shared->Prop} {s:Shared} {K:Type} [DecidableEq K] {knd:KeyKind prog w K}
end
open PySem PySem.Spec PyProof.Rows
section
variable {X:Cx} {k:Nat} {ps:List Str} {sp:Sp} {dvs:List V} {ds:List Value} {x:Str} {p pos:Pos} {e:Expr} {es:List Expr} {t:TA}
end
open PySem
end L2
namespace L2
open PySem
def qyl:TE:=λ_ H Q=>∀ p H',New H H' p (.dK [])->Q (.ref p) H'
theorem qlt {X:Cx} {pos:Pos}:PE X (.Dict [] [] pos) qyl:=λpins s σ H Q I h=>qu0 pins s σ H Q I λp hp=>h p _ (qbb hp)
open PySem
section
variable {X:Cx}
theorem jS (i:Nat) {x:Str} {e:Expr} {te:TE} {pos pos':Pos} (hN:X.N.Nodup) (he:PE X e te) (hi:X.N[i]?=some x:=by rfl) (hx:Loc X.env.scope x:=by exact Or.inl rfl) (hs:swapsWith e (some (.Name x pos')) pos.line X.env=pure false:=by rfl) (hf:X.fn x=true\/X.env.scope.names.lookup x=some .local:=by first|exact .inl rfl|exact .inr rfl|assumption):PS X (.Assign [.Name x pos'] e pos) (qCd te (qd7 i)):=qoe hN hi hx he hs hf
theorem jN (i:Nat) {x:Str} {pos:Pos} (hN:X.N.Nodup) (hi:X.N[i]?=some x:=by rfl) (hx:Loc X.env.scope x:=by exact Or.inl rfl) (hf:X.fn x=true\/X.env.scope.names.lookup x=some .local:=by first|exact .inl rfl|exact .inr rfl|assumption):PG X (.Name x pos) (qd7 i):=qnf hN hi hx hf
theorem jM (i:Nat) {x:Str} {pos:Pos} (L:List Str) (hl:X.N=L:=by rfl) (hd:L.Nodup:=by decide +kernel) (hi:X.N[i]?=some x:=by rfl) (hx:Loc X.env.scope x:=by exact Or.inl rfl) (hf:X.fn x=true\/X.env.scope.names.lookup x=some .local:=by first|exact .inl rfl|exact .inr rfl|assumption):PG X (.Name x pos) (qd7 i):=qnf (by rw[hl];exact hd) hi hx hf
theorem jF {k k2:Nat} {x:Str} {ps:List Str} {sp:Sp} {e:Expr} {es:List Expr} {t:TA} {p pos:Pos} (D:qba X.prog X.w X.K X.mg X.base k x ps sp) (hr:Room k2 X.A) (ha:PA X (e :: es) t) (hk:k<=k2:=by decide) (hg:Gl X x:=by rfl) (hdb:(x == ("__debug__" : Str))=false:=by decide) (he:starEach (e :: es) X.env=(false,eval e X.env) :: starEach es X.env:=by rfl) (hpl:(backTo pos (starEach es X.env)).any (·.1)=false:=by rfl):PE X (.Call (.Name x p) (e :: es) [] pos) (qxo sp [] E0 t):=qC5 D (hr.mono hk) hg ha hdb he hpl
theorem jX {Y:Cx} {k k2:Nat} {x:Str} {ps:List Str} {sp:Sp} {e:Expr} {es:List Expr} {t:TA} {p pos:Pos} (D:qva Y.prog Y.w Y.K Y.mg Y.base k x ps [] sp) (hr:Room k2 Y.A) (ha:PA Y.nox (e :: es) t) (hk:k<=k2:=by decide) (hs:qgc Y:=by exact ⟨rfl,rfl,rfl⟩) (hg:Gl Y.nox x:=by rfl) (hdb:(x == ("__debug__" : Str))=false:=by decide) (he:starEach (e :: es) Y.nox.env=(false,eval e Y.nox.env) :: starEach es Y.nox.env:=by rfl) (hpl:(backTo pos (starEach es Y.nox.env)).any (·.1)=false:=by rfl):PE Y.nox (.Call (.Name x p) (e :: es) [] pos) (qr7 sp [] (λ_ _ _ _=>False) t):=qr9 (qaz hs) D (hr.mono hk) hg .nil ha hdb he hpl
theorem jW {Y:Cx} {W:XW} {k k2:Nat} {x:Str} {ps:List Str} {sp:Sp} {e:Expr} {es:List Expr} {t:TA} {p pos:Pos} (D:qva Y.prog Y.w Y.K Y.mg Y.base k x ps [] sp) (hr:Room k2 Y.A) (ha:PA (Y.wish (XE Y W)) (e :: es) t) (hk:k<=k2:=by decide) (hs:qgc Y:=by exact ⟨rfl,rfl,rfl⟩) (hg:Gl (Y.wish (XE Y W)) x:=by rfl) (hdb:(x == ("__debug__" : Str))=false:=by decide) (he:starEach (e :: es) Y.env=(false,eval e Y.env) :: starEach es Y.env:=by rfl) (hpl:(backTo pos (starEach es Y.env)).any (·.1)=false:=by rfl):PE (Y.wish (XE Y W)) (.Call (.Name x p) (e :: es) [] pos) (qr7 sp [] W t):=qr9 (qay hs) D (hr.mono hk) hg .nil ha hdb he hpl
theorem jC {op:CmpOp} {r:R2} {a b:Expr} {ta tb:TE} {pos:Pos} (ho:OpR X (compareOp op) r) (ha:PE X a ta) (hb:PE X b tb) (hm:behindInMarks op b=false:=by exact qwb _):PT X (.Compare a [op] [b] pos) (qxk (tOp r ta tb)):=qxl ho ha hb hm
theorem jD {op:CmpOp} {r:R2} {a b:Expr} {ta tb:TE} {pos:Pos} (ho:OpR X (compareOp op) r) (ha:PE X a ta) (hb:PE X b tb) (hm:behindInMarks op b=false:=by exact qwb _):PE X (.Compare a [op] [b] pos) (tOp r ta tb):=qrj ho ha hb hm
theorem jI {a b:Expr} {ta tb:TE} {pos:Pos} (ha:PE X a ta) (hb:PE X b tb) (hs:qnh b:=by exact λ_ _=>rfl):PE X (.Subscript a b pos) (tOp (qDz X.K) ta tb):=qxu qxv ha hb hs
theorem jT {a b:Expr} {ta tb:TE} {pos:Pos} (ha:PE X a ta) (hb:PE X b tb) (hs:qnh b:=by exact λ_ _=>rfl):PE X (.Subscript a b pos) (tOp (qCy X.K) ta tb):=qxu qwd ha hb hs
theorem jA1 {e1:Expr} {t1:TE} (h1:PE X e1 t1) (s1:starEach [e1] X.env=(false,eval e1 X.env) :: starEach [] X.env:=by rfl):PA X [e1] (qc4 t1 qf6):=qbi h1 qdz s1
theorem jA2 {e1 e2:Expr} {t1 t2:TE} (h1:PE X e1 t1) (h2:PE X e2 t2) (s1:starEach [e1,e2] X.env=(false,eval e1 X.env) :: starEach [e2] X.env:=by rfl) (s2:starEach [e2] X.env=(false,eval e2 X.env) :: starEach [] X.env:=by rfl):PA X [e1,e2] (qc4 t1 (qc4 t2 qf6)):=qbi h1 (qbi h2 qdz s2) s1
theorem jA3 {e1 e2 e3:Expr} {t1 t2 t3:TE} (h1:PE X e1 t1) (h2:PE X e2 t2) (h3:PE X e3 t3) (s1:starEach [e1,e2,e3] X.env=(false,eval e1 X.env) :: starEach [e2,e3] X.env:=by rfl) (s2:starEach [e2,e3] X.env=(false,eval e2 X.env) :: starEach [e3] X.env:=by rfl) (s3:starEach [e3] X.env=(false,eval e3 X.env) :: starEach [] X.env:=by rfl):PA X [e1,e2,e3] (qc4 t1 (qc4 t2 (qc4 t3 qf6))):=qbi h1 (qbi h2 (qbi h3 qdz s3) s2) s1
theorem jA4 {e1 e2 e3 e4:Expr} {t1 t2 t3 t4:TE} (h1:PE X e1 t1) (h2:PE X e2 t2) (h3:PE X e3 t3) (h4:PE X e4 t4) (s1:starEach [e1,e2,e3,e4] X.env=(false,eval e1 X.env) :: starEach [e2,e3,e4] X.env:=by rfl) (s2:starEach [e2,e3,e4] X.env=(false,eval e2 X.env) :: starEach [e3,e4] X.env:=by rfl) (s3:starEach [e3,e4] X.env=(false,eval e3 X.env) :: starEach [e4] X.env:=by rfl) (s4:starEach [e4] X.env=(false,eval e4 X.env) :: starEach [] X.env:=by rfl):PA X [e1,e2,e3,e4] (qc4 t1 (qc4 t2 (qc4 t3 (qc4 t4 qf6)))):=qbi h1 (qbi h2 (qbi h3 (qbi h4 qdz s4) s3) s2) s1
theorem jA5 {e1 e2 e3 e4 e5:Expr} {t1 t2 t3 t4 t5:TE} (h1:PE X e1 t1) (h2:PE X e2 t2) (h3:PE X e3 t3) (h4:PE X e4 t4) (h5:PE X e5 t5) (s1:starEach [e1,e2,e3,e4,e5] X.env=(false,eval e1 X.env) :: starEach [e2,e3,e4,e5] X.env:=by rfl) (s2:starEach [e2,e3,e4,e5] X.env=(false,eval e2 X.env) :: starEach [e3,e4,e5] X.env:=by rfl) (s3:starEach [e3,e4,e5] X.env=(false,eval e3 X.env) :: starEach [e4,e5] X.env:=by rfl) (s4:starEach [e4,e5] X.env=(false,eval e4 X.env) :: starEach [e5] X.env:=by rfl) (s5:starEach [e5] X.env=(false,eval e5 X.env) :: starEach [] X.env:=by rfl):PA X [e1,e2,e3,e4,e5] (qc4 t1 (qc4 t2 (qc4 t3 (qc4 t4 (qc4 t5 qf6))))):=qbi h1 (qbi h2 (qbi h3 (qbi h4 (qbi h5 qdz s5) s4) s3) s2) s1
theorem jA6 {e1 e2 e3 e4 e5 e6:Expr} {t1 t2 t3 t4 t5 t6:TE} (h1:PE X e1 t1) (h2:PE X e2 t2) (h3:PE X e3 t3) (h4:PE X e4 t4) (h5:PE X e5 t5) (h6:PE X e6 t6) (s1:starEach [e1,e2,e3,e4,e5,e6] X.env=(false,eval e1 X.env) :: starEach [e2,e3,e4,e5,e6] X.env:=by rfl) (s2:starEach [e2,e3,e4,e5,e6] X.env=(false,eval e2 X.env) :: starEach [e3,e4,e5,e6] X.env:=by rfl) (s3:starEach [e3,e4,e5,e6] X.env=(false,eval e3 X.env) :: starEach [e4,e5,e6] X.env:=by rfl) (s4:starEach [e4,e5,e6] X.env=(false,eval e4 X.env) :: starEach [e5,e6] X.env:=by rfl) (s5:starEach [e5,e6] X.env=(false,eval e5 X.env) :: starEach [e6] X.env:=by rfl) (s6:starEach [e6] X.env=(false,eval e6 X.env) :: starEach [] X.env:=by rfl):PA X [e1,e2,e3,e4,e5,e6] (qc4 t1 (qc4 t2 (qc4 t3 (qc4 t4 (qc4 t5 (qc4 t6 qf6)))))):=qbi h1 (qbi h2 (qbi h3 (qbi h4 (qbi h5 (qbi h6 qdz s6) s5) s4) s3) s2) s1
theorem jG2 {e1 e2:Expr} {t1 t2:TG} {k:Nat} {pos:Pos} (h1:PG X e1 t1) (h2:PG X e2 t2) (hc:X.calm=true:=by rfl) (s1:(assignEach [e1,e2] X.env).map (·.2)=assign e1 X.env :: (assignEach [e2] X.env).map (·.2):=by rfl) (s2:(assignEach [e2] X.env).map (·.2)=assign e2 X.env :: (assignEach [] X.env).map (·.2):=by rfl) (hn:(assignEach [e1,e2] X.env).length=2:=by rfl) (hst:(assignEach [e1,e2] X.env).findIdx? (·.1)=none:=by rfl):PG X (.Tuple [e1,e2] k pos) (qxh X.K 2 (qd4 t1 (qd4 t2 qxg))):=qrc hc (qcx h1 (qcx h2 qng s2) s1) hn hst
theorem jG3 {e1 e2 e3:Expr} {t1 t2 t3:TG} {k:Nat} {pos:Pos} (h1:PG X e1 t1) (h2:PG X e2 t2) (h3:PG X e3 t3) (hc:X.calm=true:=by rfl) (s1:(assignEach [e1,e2,e3] X.env).map (·.2)=assign e1 X.env :: (assignEach [e2,e3] X.env).map (·.2):=by rfl) (s2:(assignEach [e2,e3] X.env).map (·.2)=assign e2 X.env :: (assignEach [e3] X.env).map (·.2):=by rfl) (s3:(assignEach [e3] X.env).map (·.2)=assign e3 X.env :: (assignEach [] X.env).map (·.2):=by rfl) (hn:(assignEach [e1,e2,e3] X.env).length=3:=by rfl) (hst:(assignEach [e1,e2,e3] X.env).findIdx? (·.1)=none:=by rfl):PG X (.Tuple [e1,e2,e3] k pos) (qxh X.K 3 (qd4 t1 (qd4 t2 (qd4 t3 qxg)))):=qrc hc (qcx h1 (qcx h2 (qcx h3 qng s3) s2) s1) hn hst
theorem jG4 {e1 e2 e3 e4:Expr} {t1 t2 t3 t4:TG} {k:Nat} {pos:Pos} (h1:PG X e1 t1) (h2:PG X e2 t2) (h3:PG X e3 t3) (h4:PG X e4 t4) (hc:X.calm=true:=by rfl) (s1:(assignEach [e1,e2,e3,e4] X.env).map (·.2)=assign e1 X.env :: (assignEach [e2,e3,e4] X.env).map (·.2):=by rfl) (s2:(assignEach [e2,e3,e4] X.env).map (·.2)=assign e2 X.env :: (assignEach [e3,e4] X.env).map (·.2):=by rfl) (s3:(assignEach [e3,e4] X.env).map (·.2)=assign e3 X.env :: (assignEach [e4] X.env).map (·.2):=by rfl) (s4:(assignEach [e4] X.env).map (·.2)=assign e4 X.env :: (assignEach [] X.env).map (·.2):=by rfl) (hn:(assignEach [e1,e2,e3,e4] X.env).length=4:=by rfl) (hst:(assignEach [e1,e2,e3,e4] X.env).findIdx? (·.1)=none:=by rfl):PG X (.Tuple [e1,e2,e3,e4] k pos) (qxh X.K 4 (qd4 t1 (qd4 t2 (qd4 t3 (qd4 t4 qxg))))):=qrc hc (qcx h1 (qcx h2 (qcx h3 (qcx h4 qng s4) s3) s2) s1) hn hst
theorem jB2 {s1 s2:Stmt} {t1 t2:TS} (h1:PS X s1 t1) (h2:PS X s2 t2):PSs X [s1,s2] (qd3 t1 t2):=qaj h1 (qad h2)
theorem jB3 {s1 s2 s3:Stmt} {t1 t2 t3:TS} (h1:PS X s1 t1) (h2:PS X s2 t2) (h3:PS X s3 t3):PSs X [s1,s2,s3] (qd3 t1 (qd3 t2 t3)):=qaj h1 (qaj h2 (qad h3))
theorem jB4 {s1 s2 s3 s4:Stmt} {t1 t2 t3 t4:TS} (h1:PS X s1 t1) (h2:PS X s2 t2) (h3:PS X s3 t3) (h4:PS X s4 t4):PSs X [s1,s2,s3,s4] (qd3 t1 (qd3 t2 (qd3 t3 t4))):=qaj h1 (qaj h2 (qaj h3 (qad h4)))
theorem jB5 {s1 s2 s3 s4 s5:Stmt} {t1 t2 t3 t4 t5:TS} (h1:PS X s1 t1) (h2:PS X s2 t2) (h3:PS X s3 t3) (h4:PS X s4 t4) (h5:PS X s5 t5):PSs X [s1,s2,s3,s4,s5] (qd3 t1 (qd3 t2 (qd3 t3 (qd3 t4 t5)))):=qaj h1 (qaj h2 (qaj h3 (qaj h4 (qad h5))))
theorem jB6 {s1 s2 s3 s4 s5 s6:Stmt} {t1 t2 t3 t4 t5 t6:TS} (h1:PS X s1 t1) (h2:PS X s2 t2) (h3:PS X s3 t3) (h4:PS X s4 t4) (h5:PS X s5 t5) (h6:PS X s6 t6):PSs X [s1,s2,s3,s4,s5,s6] (qd3 t1 (qd3 t2 (qd3 t3 (qd3 t4 (qd3 t5 t6))))):=qaj h1 (qaj h2 (qaj h3 (qaj h4 (qaj h5 (qad h6)))))
theorem jB7 {s1 s2 s3 s4 s5 s6 s7:Stmt} {t1 t2 t3 t4 t5 t6 t7:TS} (h1:PS X s1 t1) (h2:PS X s2 t2) (h3:PS X s3 t3) (h4:PS X s4 t4) (h5:PS X s5 t5) (h6:PS X s6 t6) (h7:PS X s7 t7):PSs X [s1,s2,s3,s4,s5,s6,s7] (qd3 t1 (qd3 t2 (qd3 t3 (qd3 t4 (qd3 t5 (qd3 t6 t7)))))):=qaj h1 (qaj h2 (qaj h3 (qaj h4 (qaj h5 (qaj h6 (qad h7))))))
theorem qEx {s1 s2 s3 s4 s5 s6 s7 s8 s9 s10 s11 s12 s13 s14 s15:Stmt} {t1 t2 t3 t4 t5 t6 t7 t8 t9 t10 t11 t12 t13 t14 t15:TS} (h1:PS X s1 t1) (h2:PS X s2 t2) (h3:PS X s3 t3) (h4:PS X s4 t4) (h5:PS X s5 t5) (h6:PS X s6 t6) (h7:PS X s7 t7) (h8:PS X s8 t8) (h9:PS X s9 t9) (h10:PS X s10 t10) (h11:PS X s11 t11) (h12:PS X s12 t12) (h13:PS X s13 t13) (h14:PS X s14 t14) (h15:PS X s15 t15):PSs X [s1,s2,s3,s4,s5,s6,s7,s8,s9,s10,s11,s12,s13,s14,s15] (qd3 t1 (qd3 t2 (qd3 t3 (qd3 t4 (qd3 t5 (qd3 t6 (qd3 t7 (qd3 t8 (qd3 t9 (qd3 t10 (qd3 t11 (qd3 t12 (qd3 t13 (qd3 t14 t15)))))))))))))):=qaj h1 (qaj h2 (qaj h3 (qaj h4 (qaj h5 (qaj h6 (qaj h7 (qaj h8 (qaj h9 (qaj h10 (qaj h11 (qaj h12 (qaj h13 (qaj h14 (qad h15))))))))))))))
theorem jL0 {scope:Scope} {cl:List (Str×Addr)} (h1:closureFor scope X.env=pure cl) (h2:scope.kind=.function:=by rfl) (h3:∀ y∈scope.names,y.2≠.cell:=by decide +kernel) (h4:∀ y∈scope.names,y.2=.local->scope.names.lookup y.1=some .local:=by decide +kernel) (h5:∀ p∈cl,X.env.cells.lookup p.1=some p.2:=by intro p hp;cases hp) (h6:((relabel scope X.env).names.all λy=>(y.2 != .cell && y.2 != .free) || (cl.lookup y.1).isSome)=true:=by rfl):qwi X scope cl:=qDa h1 h2 h3 h4 h5 h6
theorem jL1 {scope:Scope} {cl:List (Str×Addr)} (h1:closureFor scope X.env=pure cl) (h2:scope.kind=.function:=by rfl) (h3:∀ y∈scope.names,y.2≠.cell:=by decide +kernel) (h4:∀ y∈scope.names,y.2=.local->scope.names.lookup y.1=some .local:=by decide +kernel) (h5:∀ p∈cl,X.env.cells.lookup p.1=some p.2:=by intro p hp;simp only[Ak,AF,Bu] at hp;rcases hp with rfl<;>rfl) (h6:((relabel scope X.env).names.all λy=>(y.2 != .cell && y.2 != .free) || (cl.lookup y.1).isSome)=true:=by rfl):qwi X scope cl:=qDa h1 h2 h3 h4 h5 h6
theorem jL2 {scope:Scope} {cl:List (Str×Addr)} (h1:closureFor scope X.env=pure cl) (h2:scope.kind=.function:=by rfl) (h3:∀ y∈scope.names,y.2≠.cell:=by decide +kernel) (h4:∀ y∈scope.names,y.2=.local->scope.names.lookup y.1=some .local:=by decide +kernel) (h5:∀ p∈cl,X.env.cells.lookup p.1=some p.2:=by intro p hp;simp only[Ak,AF,Bu] at hp;rcases hp with rfl|rfl<;>rfl) (h6:((relabel scope X.env).names.all λy=>(y.2 != .cell && y.2 != .free) || (cl.lookup y.1).isSome)=true:=by rfl):qwi X scope cl:=qDa h1 h2 h3 h4 h5 h6
end
open PySem PyProof PyProof.Rows
section
variable {X:Cx}
end
open PySem PySem.Calls PySem.NumText PyProof.Rows
section
variable {prog:Program} {w:World} {A:Around} {E:Value->Shared->Prop} {s:Shared} {Q:Value->Shared->Prop} {x:PySem.Str} {t:Tok} {n:Int}
end
open PySem PySem.Spec PyProof.Rows PySem.Builtin PySem.Builtin.Str
def S (l:List Nat):Str:=⟨l.toArray⟩
theorem qc5 (l:List Nat):(S l).length=l.length:=by show l.toArray.size=_;simp
theorem qym {a b:List Nat} (h:S a=S b):a=b:=by
 have:=congrArg (λx:Str=>x.cps.toList) h
 simpa [S] using this
theorem qvi (a b:List Nat):S a ++ S b=S (a ++ b):=by
 show (⟨a.toArray ++ b.toArray⟩:Str)=⟨(a ++ b).toArray⟩
 simp
theorem qlu {X:Cx}:CallR X (.builtin "len") (λxs H Q=>∃ z,xs=[.str (S z)]/\z.length<=sizeLine/\Q (.int z.length) H):=by
 intro pins s σ H xs us Q I r h;obtain ⟨z,rfl,hz,q⟩:=h;exact qus pins s σ H _ us Q I r ⟨_,_,rfl,⟨by rw[qc5];exact hz,rfl⟩,by rw[qc5];exact q⟩
theorem qo3 {X:Cx} {a b:Expr} {ta tb:TE} {pos:Pos} (ha:PE X a ta) (hb:PE X b tb) (hs:qur b) :
  PE X (.Subscript a b pos) (tOp (λx y H Q=>∃ z i c,x=.str (S z)/\y=.int i/\0<=i/\i<2 ^ 63/\z[i.toNat]?=some c/\Q (.str (S [c])) H) ta tb):=by
 intro pins s σ H Q I h;refine Subscript_ (qCe ha hb I h λv u s2 x y H2 I2 rx ry q=>?_);obtain ⟨z,i,c,rfl,rfl,h0,h63,hc,q⟩:=q;obtain ⟨t,rfl⟩:=rx;obtain ⟨t',rfl⟩:=ry;have hl:=(Ai.mp hc).1;have e:seqIndex? i (S z).length=some i.toNat:=PySem.StrLaws.seqIndex_nonneg h0 (by rw[qc5];omega);exact tail_any (typeIs_str s2 (S z) t) PySem.F.slot_str_getitem.lookup (getItem_str (c:=c) (by
  have e1:decide (i < -(2 ^ 63:Int))=false:=Bc (by omega);have e2:decide (i ≥ 2 ^ 63)=false:=Bc (by omega);rw[e1,e2]<;>rfl) (by rw[e];simpa [S] using hc) ⟨.str (S [c]),H2,I2.tok _,⟨_,rfl⟩,q⟩) (hs _ _)
def Its (x:List Nat):It:=⟨λi _=>i<x.length,λi H v H'=>H'=H/\∃ c,x[i]?=some c/\v=.str (S [c]),λi _=>i=x.length⟩
theorem qo4 {P:Program} {w:World} {K:Frag} {tg:Expr} (it:Addr) (x:List Nat) (t:Tok) (ty:String) (hty:ty = "str_ascii_iterator" \/ ty = "str_iterator"):Turn P w K tg (Its x) [it] it (λi h=>h.IsStrIter it ty (S x) t i) where
 mem:=by simp
 obj:=λi h st b hb=>by
  have e:b=it:=by simpa using hb
  subst e;obtain ⟨o,e,c,d⟩:=st;exact ⟨o,e,λv z=>by rw[d] at z;cases z⟩
 keep:=λi h h' st k=>by
  obtain ⟨o,ho,r⟩:=st;exact ⟨o,k it (by simp) o ho,r⟩
 item:=by
  intro X hP hw hK hc i pins s σ H E I hf st hg;subst hP hw hK;obtain ⟨f0,f1,f2,f3,f4,f5⟩:=hf it (by simp);have W:Walks X.prog X.w X.A it [it] [it] (S x).cps.size (SignAt (S x)) (λi h=>h.IsStrIter it ty (S x) t i):=by
   rcases hty with rfl|rfl
   ·exact Walks.strAscii (I.ok.hd hc) it (S x) t
   ·exact Walks.strWide (I.ok.hd hc) it (S x) t
  refine W.item i s _ _ (by have hg':i<x.length:=hg;show i<x.toArray.size;simpa using hg') st λv h' tk hv st' kk=>?_
  obtain ⟨c,u,hx,rfl⟩:=hv;have I1:Inv X pins σ H { s with heap:=h',toks:=tk }:=I.turned (λb o hb e=>kk b o (by simpa using hb) e) f0 f1 f3 f4 f5;obtain ⟨o,e,hcl,d⟩:=id st';exact ⟨_,rfl,qxi (s:={ s with heap:=h',toks:=tk }) e hcl d (by rcases hty with rfl|rfl<;>decide) ⟨.str (S [c]),H,I1,⟨u,rfl⟩,⟨rfl,c,by simpa [S] using hx,rfl⟩,st',λb hb=>(hf b hb).1⟩⟩
 done:=by
  intro X hP hw hK hc i pins s σ H E I hf st hg;subst hP hw hK;obtain ⟨f0,f1,f2,f3,f4,f5⟩:=hf it (by simp);have W:Walks X.prog X.w X.A it [it] [it] (S x).cps.size (SignAt (S x)) (λi h=>h.IsStrIter it ty (S x) t i):=by
   rcases hty with rfl|rfl
   ·exact Walks.strAscii (I.ok.hd hc) it (S x) t
   ·exact Walks.strWide (I.ok.hd hc) it (S x) t
  have e:i=(S x).cps.size:=by
   have h2:i=x.length:=hg;rw[h2];show x.length=x.toArray.size;simp
  subst e;exact W.done s _ _ st λh' tk kk=>⟨rfl,I.turned (λb o hb e=>kk b o (by simpa using hb) e) f0 f1 f3 f4 f5⟩
 self:=λA i s Q E st h=>by
  rcases hty with rfl|rfl
  ·exact wpAny_pyIter_striter_ascii st h
  ·exact wpAny_pyIter_striter_wide st h
def qEy (tl:TE):TI:=λσ H R=>tl σ H λx H1=>∃ z,x=.str (S z)/\R (Its z) H1
theorem qBa {X:Cx} {tg l:Expr} {tl:TE} (hl:PE X l tl):PI X tg l (qEy tl):=by
 intro pins s σ H R I h;refine thn (hl pins s σ H _ I h) λv s1 hq__=>?_
 obtain ⟨x,H1,I1,r1,q1⟩:=hq__;obtain ⟨z,e,q⟩:=q1;subst e;obtain ⟨t,rfl⟩:=r1;have fin:∀ b∈[s1.heap.objs.size],qof X pins H1 b:=λb hb=>by
  have e:b=s1.heap.objs.size:=by simpa using hb
  subst e;exact I1.fpOk (Ag _) (I1.hok.fresh (Ag _))
 cases ha:(S z).cps.all (· < 128)
 ·exact wpAny_pyIter_wide ha ⟨s1.heap.objs.size,[s1.heap.objs.size],_,_,H1,rfl,I1.kept (t':=s1.toks) λb o e=>Ab _ e,qo4 _ z t "str_iterator" (.inr rfl),⟨_,Ao _ rfl,rfl,rfl⟩,fin,q⟩
 ·exact wpAny_pyIter_ascii ha ⟨s1.heap.objs.size,[s1.heap.objs.size],_,_,H1,rfl,I1.kept (t':=s1.toks) λb o e=>Ab _ e,qo4 _ z t "str_ascii_iterator" (.inl rfl),⟨_,Ao _ rfl,rfl,rfl⟩,fin,q⟩
theorem qBb {x:List Nat} {g:TG} {tc:TT} {te:TE} {Q:VK} {σ:St} {H:Hp} (Pv:Nat->List V->Hp->Prop) (hz:x.length<=sizeLine) (h0:Pv 0 [] H) (hl:∀ i ys H,Pv i ys H->ys.length<=i)
  (hs:∀ i c ys H,x[i]?=some c->Pv i ys H->g (.str (S [c])) σ H λσ4 H4=>tc σ4 H4 λb H5=>if b=true then te σ4 H5 λv H6=>Pv (i+1) (ys ++ [v]) H6 else Pv (i+1) ys H5)
  (hd:∀ ys H p H',Pv x.length ys H->New H H' p (.lst ys)->Q (.ref p) H'):qfp (Its x) Q g tc te σ H:=by
 refine ⟨λi m ys H=>m=x.length-i/\i<=x.length/\Pv i ys H,⟨x.length,by simp,AW _,h0⟩,?_⟩;rintro i m ys H2 ⟨rfl,hi,p⟩;have hy:=hl i ys H2 p
 by_cases hlt:i<x.length
 ·refine .inr ⟨hlt,by omega,Pv (i+1),λzs H' p'=>⟨x.length-(i+1),by omega,rfl,hlt,p'⟩,λv H3 y=>?_⟩
  obtain ⟨e,c,y,z⟩:=y;subst e z;exact hs i c ys _ y p
 ·have e:i=x.length:=by omega
  subst e;exact .inl ⟨rfl,by omega,λp' hp'=>hd ys H2 p' _ p (qbb hp')⟩
theorem qyn (K:Frag):PySem.W.kitOne K (.type "str") (.type "str")=some true:=by rfl
theorem qBc {X:Cx}:OpR X (compareOp .In) (λx y H Q=>∃ c j,x=.str (S [c])/\y=.str j/\Q (.bl (decide (c∈j.cps.toList))) H):=by
 intro pins s σ H x y v u Q I rx ry h;obtain ⟨c,j,rfl,rfl,q⟩:=h;exact qri pins s σ H _ _ v u Q I rx ry ⟨_,j,rfl,rfl,by rw[show S [c]=⟨#[c]⟩ from rfl,PySem.StrLaws.found_one];exact q⟩
theorem qwt (x:List Nat) {a b:Nat} (hab:a<=b) (hb:b<=x.length) {lo hi:Option Int} (h:strSliceIndices lo hi 1 (S x).length=strSliceIndices (some (a:Int)) (some (b:Int)) 1 (S x).length):slS (S x) lo hi=S ((x.drop a).take (b-a)):=by
 have hb':b<=(S x).length:=by rw[qc5];exact hb
 have e:=PySem.StrLaws.sliced_plain (S x) hab hb';unfold slS;rw[h]
 by_cases c:((strSliceIndices (some (a:Int)) (some (b:Int)) 1 (S x).length).length == (S x).length)=true
 ·rw[Al c]
  have hl:b-a=x.length:=by
   have:=eq_of_beq c;rw[PySem.StrLaws.strSliceIndices_plain hab hb',qc5] at this
   simpa using this
  have h1:a=0:=by omega
  rw[h1,List.drop_zero,Nat.sub_zero,Bh (by omega)]
 ·rw[Ah c,e]
  show (⟨_⟩:Str)=⟨_⟩
  simp[S]
theorem qss (x:List Nat) {k:Nat} (h:k<=x.length):slS (S x) none (some (k:Int))=S (x.take k):=by
 have e:=qwt x (AW k) h (lo:=none) (hi:=some (k:Int)) (by
  unfold strSliceIndices;have:max (0:Int) (min (0:Int) ((S x).length:Int))=0:=by omega
  simp[this])
 simpa using e
theorem qst (x:List Nat) (k:Nat):slS (S x) (some (k:Int)) none=S (x.drop k):=by
 have key:∀ k:Nat,k<=x.length->slS (S x) (some (k:Int)) none=S (x.drop k):=λk hk=>by
  have e:=qwt x hk (Ag _) (lo:=some (k:Int)) (hi:=none) (by
   rw[qc5];unfold strSliceIndices;have h1:max (0:Int) (min (x.length:Int) (x.length:Int))=x.length:=by omega
   have h2:¬ (x.length:Int)<0:=by omega
   simp[h1,h2])
  rw[e,Bh (by simp)]
 by_cases hk:k<=x.length
 ·exact key k hk
 ·have h1:=key x.length (Ag _)
  rw[EW (by omega)];rw[EW (by omega)] at h1;rw[<- h1];unfold slS;rw[indices_beyond (n:=(S x).length) (i:=(k:Int)) (by rw[qc5];omega),qc5]
open PySem PySem.Spec PyProof.Rows PySem.Builtin PySem.Builtin.Str
def qjj (sep:List Nat):List (List Nat)->List Nat
 | []=>[]
 | [p]=>p
 | p :: ps=>p ++ sep ++ qjj sep ps
theorem qwu (sep:List Nat):∀ (ps:List (List Nat)) (a:List Nat),(ps.map S).foldl (λacc p=>acc ++ (S sep).cps ++ p.cps) a.toArray=(match ps with|[]=>a|_=>a ++ sep ++ qjj sep ps).toArray
 | [],a=>rfl
 | [p],a=>by
  show (a.toArray ++ sep.toArray ++ p.toArray)=_
  simp[qjj]
 | p :: r :: ps,a=>by
  have ih:=qwu sep (r :: ps) (a ++ sep ++ p);rw[Aw,CW];have e:a.toArray ++ (S sep).cps ++ (S p).cps=(a ++ sep ++ p).toArray:=by show a.toArray ++ sep.toArray ++ p.toArray=_;simp
  rw[e,ih]
  simp[qjj]
theorem qBd (sep:List Nat) (ps:List (List Nat)):PySem.Txt.join (S sep) (ps.map S)=S (qjj sep ps):=by
 unfold PySem.Txt.join glued
 cases ps with
 | nil=>rfl
 | cons p ps =>
  show (⟨(ps.map S).foldl (λacc p=>acc ++ (S sep).cps ++ p.cps) p.toArray⟩:Str)=_
  rw[qwu]
  cases ps with
  | nil=>rfl
  | cons r ps=>simp[qjj,S]
def rJoin (K:Frag) (x:V) (vs:List V) (H:Hp) (Q:VK):Prop:=∃ sep ps p,x=.str (S sep)/\vs=[.ref p]/\SqL K H p (ps.map λq=>V.str (S q))/\(ps.map List.length).sum+ps.length*sep.length<=1000000/\Q (.str (S (qjj sep ps))) H
theorem qo5:∀ {ps:List (List Nat)} {us:List Value},Vals (ps.map λq=>V.str (S q)) us->StrsAre us (ps.map S)
 | [],_,.nil=>.nil
 | p :: ps,_,.cons ⟨t,e⟩ r=>by subst e;exact .cons _ _ (qo5 r)
theorem qsu {X:Cx}:MtR X "str.join" (rJoin X.K):=by
 intro pins s σ H x xs v us Q I rx r h;obtain ⟨sep,ps,p,rfl,rfl,hq,hz,q⟩:=h;obtain ⟨t,rfl⟩:=rx;obtain ⟨u,rfl,ru⟩:=vals1 r
 cases (show u=Value.ref p from ru)
 obtain ⟨its,rv,pl,_⟩:=I.list hq;refine join_list (ys:=ps.map S) pl.isList (by simpa using qo5 rv) ?_ λt' k=>⟨.str (S (qjj sep ps)),H,I.tok _,⟨t',by rw[qBd]⟩,q⟩
 have e:((ps.map S).map (·.length))=ps.map List.length:=by
  rw[AI];exact Ba λl _=>qc5 l
 rw[e,Ac,qc5];omega
open PySem PySem.Spec PyProof.Rows
section
variable {X:Cx} {pins:List (Addr×Obj)} {σ:St} {H:Hp} {s:Shared} {scope:Scope} {cl:List (Str×Addr)} {vars frees:List Str} {fv:List Nat} {elt target iter:Expr} {ifs:List Expr} {pos:Pos}
end
section
variable {X:Cx} {σ:St} {EK:XK} {C:Addr} {k:Nat} {x:Str} {ps:List Str} {ds:List Value} {dvs:List V} {sp:Sp} {e:Expr} {es:List Expr} {t:TA} {p pos:Pos} {Nc:List Str} {scope:Scope} {cl:List (Str×Addr)} {s0:Shared} {H0:Hp} {ex:List Addr}
end
open PySem PySem.Spec PyProof.Rows
theorem qge:∀ {ss:List Str} {us:List Value},Vals (ss.map V.str) us->StrsAre us ss
 | [],_,.nil=>.nil
 | s :: ss,_,.cons ⟨t,e⟩ r=>by subst e;exact .cons _ _ (qge r)
theorem qh2:∀ {ss:List Str} {us:List Value},StrsAre us ss->Vals (ss.map V.str) us
 | _,_,.nil=>.nil
 | _,_,.cons y t r=>.cons ⟨t,rfl⟩ (qh2 r)
theorem qlv {X:Cx}:CallR X (.builtin "sorted") (λxs H Q=>∃ (p:Addr) (ss:List Str),xs=[.ref p]/\SqL X.K H p (ss.map V.str)/\ss.length<64/\∀ (ms:List Str) l H',ms.Perm ss->sortedS ms=true->New H H' l (.lst (ms.map V.str))->Q (.ref l) H'):=by
 intro pins s σ H xs us Q I r h;obtain ⟨p,ss,rfl,hq,h64,q⟩:=h;obtain ⟨u,rfl,ru⟩:=vals1 r
 cases (show u=Value.ref p from ru)
 obtain ⟨its,rv,pl,hz⟩:=I.list hq;have hi:StrsAre its ss:=qge rv;have hln:its.length=ss.length:=by have:=rv.length;simpa using this.symm
 refine sorted_strs pl.isList hi (by omega) λout ms a1 a2 a3=>?_
 obtain ⟨e,he⟩:=sortedAll_at s.heap its out;have hl:ms.length<=sizeLine:=by rw[a2.length_eq];simpa using hz
 refine ⟨.ref (s.heap.objs.size+1),upd H (s.heap.objs.size+1) (.lst (ms.map V.str)),I.laid (t':=s.toks) (λ_ _=>sortedAll_old) (Ci _) ⟨by simpa using hl,out.toList,e,qh2 a1,?_⟩,rfl,q ms _ _ a2 a3 (qbb (I.hok.fresh (Ci _)))⟩;rw[he]
open PySem PySem.Spec PyProof.Rows
theorem qkr:plainId "set.update.loop" = true:=by decide +kernel
theorem qo6:entryFor table "set.update.loop" = some Builtin.«set.update.loop» :=entryFor_of_fast (by kernel_rfl)
theorem qns (a:Value):checkTypeCall "set" ⟨[a],[]⟩=pure ():=by kernel_rfl
theorem qqi (a:Value):checkBuiltinCall "set.__new__" ⟨[.type "set",a],[]⟩=pure ():=by kernel_rfl
section
variable {prog:Program} {w:World} {A:Around} {E:Value->Shared->Prop} {s:Shared}
theorem qvj {M:Model} {self a:Value} {Q:Unit->Shared->Prop} (hT:s.TypeIs self "set") (hQ:Q () s) :
  wpAny M A (checkBuiltinCall "set.__init__" ⟨[self,a],[]⟩) Q E s:=by
 simp only[checkBuiltinCall,kind_set_init,split_set_init,sig_set_init];refine Aa (DU hT sub_set_self ?_);simp only[Bool.not_true,Cz,CO];unfold Bind.checkArgs;dsimp only;refine Aa (m:=Bind.printed "set" true _ _) (PyProof.Rows.printed_name (by decide) ?_);refine Aa (m:=Bind.printed "*" false _ _) (PyProof.Rows.printed_star (self:=self) rfl hT λshort=>?_);have hrn:(Manifest.Receiver.self == Manifest.Receiver.none)=false:=by decide
 have hn:(if (Manifest.Receiver.self == Manifest.Receiver.none)=true then [self,a].length else [self,a].length-1)=1:=by simp[hrn]
 rw[hn];simp only[Dr];have hc:Bind.check ⟨.positional, "set", "*",.self,[⟨"iterable",.posOnly,false⟩]⟩ "set" short 1 []=pure ():=by
  simp[Bind.check,Bind.checkCount,Bind.isPositional]
  intro h;exact absurd h (by decide)
 rw[hc];exact Ae hQ
theorem qBe (a:Value) {Q₁:Value->Shared->Prop}
  (h:∀ led:Bool,Q₁ (.ref s.heap.objs.size) { s with heap:=s.heap.push { cls:=.type "set",dict:=none,data:=.set #[] 0 (.fresh 0 0 led) } }) :
  codeAny (model prog w) A (.call (.builtin "set.__new__") ⟨[.type "set",a],[]⟩) (wants Q₁ E) s:=by
 refine Eb ?_
 show wpAny _ A.in1 (do checkBuiltinCall "set.__new__" ⟨[.type "set",a],[]⟩;again (.builtin "set.__new__" ⟨[.type "set",a],[]⟩)) _ _ s
 refine Aa (wpAny_of_eq (qqi a) (Ae ⟨plainId_quiet F.plain_set_new _,Du F.entry_set_new ?_⟩));rw[DE F.plain_set_new _];unfold Builtin.«set.__new__» Builtin.Frozenset.newClass;have hsub:=sub_set_self;obtain ⟨hp,g,d,tk,os⟩:=s;dsimp only
 wp_walk
 refine wpAny_askSetting (Ae ?_);dsimp only;simp only[newObj];refine Aa (wpAny_alloc (Ae ?_));exact Ae (h _)
end
section
variable {prog:Program} {w:World} {A:Around} {R:Result->Shared->Prop} {I:Addr} {fp wr:List Addr} {n:Nat} {P:Nat->Value->Prop} {St:Nat->Heap->Prop} {K:Type} [DecidableEq K] {knd:KeyKind prog w K}
def qef:List K->Nat
 | []=>0
 | k :: l=>if k∈l then qef l else qef l+1
theorem qks (l:List K):qef l<=l.length:=by
 induction l with
 | nil=>exact Ag _
 | cons k l ih=>unfold qef;split<;>simp<;>omega
theorem qyo (W:Walks prog w A.in1 I fp wr n P St) (D:Addr) (hDf:D ∉ fp) (rs:List K) (hn:n<=1000)
  (hP:∀ i v,P i v->∃ k,knd.is k v=true/\v.scannable=true/\rs[i]?=some k) (hl:rs.length=n) :
  ∀ (k i:Nat) (s:Shared) (m:Nat),n-i=k->i<=n->St i s.heap->s.heap.SetOf knd D (λq=>decide (q∈(rs.take i).reverse)) m->m=qef (rs.take i).reverse ->
  (∀ h' tk,h'.SetOf knd D (λq=>decide (q∈rs.reverse)) (qef rs.reverse)->(∀ b o,b ∉ wr->b≠D->s.heap.get? b=some o->h'.get? b=some o)->R (.ok (.ret .none)) { s with heap:=h',toks:=tk }) ->
  codeAny (model prog w) A (.builtin "set.update.loop" ⟨[.ref D,.ref I],[]⟩) R s:=by
 have hDw:D ∉ wr:=λh=>hDf (W.sub _ h)
 intro k
 induction k with
 | zero =>
  intro i s m hk hi hst hd hm hR;have hin:i=n:=by omega
  subst hin;rw[<- hl,AL] at hd hm;refine Du qo6 ?_;rw[DE qkr _]
  show wpAny _ A.in1 (pyNext (.ref I) >>= _) _ _ s
  refine Aa (W.done s _ _ hst λh' tk hm'=>?_);refine Ae (hR h' tk ?_ λb o hb _ e=>hm' b o hb e);obtain ⟨o,es,ep,t,ho,r⟩:=hd;exact ⟨o,es,ep,t,hm' D o hDw ho,hm ▸ r⟩
 | succ k ih =>
  intro i s m hk hi hst hd hm hR;have hlt:i<n:=by omega
  refine Du qo6 ?_;rw[DE qkr _]
  show wpAny _ A.in1 (pyNext (.ref I) >>= _) _ _ s
  refine Aa (W.item i s _ _ hlt hst λv h' tk hp hst' hmk=>?_);obtain ⟨kk,hkey,hsc,hrs⟩:=hP i v hp;obtain ⟨o1,es,ep,t,ho1,rr⟩:=hd;have hd':h'.SetOf knd D (λq=>decide (q∈(rs.take i).reverse)) m:=⟨o1,es,ep,t,hmk D o1 hDw ho1,rr⟩;have ml:m<=1000:=by
   have:=qks (rs.take i).reverse;rw[List.length_reverse,As] at this;omega
  show wpAny _ A.in1 (holding [v] _ >>= _) _ _ _
  refine Aa (Bk ?_);unfold setAdd;refine Bk (Aa (knd.pyHash hkey ?_));refine wpAny_setAddHashed_of (s:={ s with heap:=h',toks:=_ }) hkey hsc hd' (by unfold scanBound;omega) λh2 hs2 hd2=>?_
  have et:rs.take (i+1)=rs.take i ++ [kk]:=by rw[DA,hrs];rfl
  refine Ae ⟨plainId_quiet qkr _,ih (i+1) _ _ (by omega) hlt (W.frame _ _ _ hst' λb hb o e=>?_) ?_ rfl λh3 tk3 hd3 hk3=>?_⟩
  ·exact (hs2.2 b (λh:b=D=>hDf (by rw[<- h];exact hb))).trans e
  ·rw[et]
   have e1:(λq=>decide (q∈(rs.take i ++ [kk]).reverse))=(λk'=>decide (k'∈(rs.take i).reverse) || decide (k'=kk)):=by
    funext q
    simp[Bool.or_comm]
   have e2:qef (rs.take i ++ [kk]).reverse=(if decide (kk∈(rs.take i).reverse)=true then m else m+1):=by
    rw[List.reverse_append,hm]
    show qef (kk :: (rs.take i).reverse)=_
    unfold qef
    by_cases e:kk∈(rs.take i).reverse
    ·rw[Al e,Al (AE e)]
     cases hq:(rs.take i).reverse<;>rfl
    ·rw[Ah e,Ah (by simpa using e)]
     cases hq:(rs.take i).reverse<;>rfl
   rw[e1,e2];exact hd2
  ·exact hR h3 tk3 hd3 λb o hb hbD e=>hk3 b o hb hbD ((hs2.2 b hbD).trans (hmk b o hb e))
end
section
variable {prog:Program} {w:World} {A:Around} {E:Value->Shared->Prop} {s:Shared} {K:Type} [DecidableEq K] {knd:KeyKind prog w K}
theorem qsv {p:Addr} {Q:Bool->Shared->Prop} (hT:s.TypeIs (.ref p) "list") (h:Q false s):wpAny (model prog w) A (Builtin.Frozenset.isAnySet (.ref p)) Q E s:=by
 have f1:=F.sub_list_set;have f2:=F.sub_list_frozenset;unfold Builtin.Frozenset.isAnySet
 wp_walk
 exact h
theorem qyp {id:String} {D p:Addr} {its:List Value} {rs:List K} {Q:Unit->Shared->Prop} (hl:PlainL s.heap p its.toArray) (hpD:p≠D) (hA:A.handled=none) (hn:its.length<=1000) (hlen:rs.length=its.length)
  (hP:∀ (i:Nat) v,its[i]?=some v->∃ k,knd.is k v=true/\v.scannable=true/\rs[i]?=some k) (hD:s.heap.SetOf knd D (λ_=>false) 0)
  (h:∀ h' tk,h'.SetOf knd D (λq=>decide (q∈rs.reverse)) (qef rs.reverse)->(∀ b o,b≠D->s.heap.get? b=some o->h'.get? b=some o)->Q () { s with heap:=h',toks:=tk }) :
  wpAny (model prog w) A (Builtin.Frozenset.updateFrom id D (.ref p)) Q E s:=by
 obtain ⟨ol,nl,e1,e2,e3,e4⟩:=hl;have hpl:p<s.heap.objs.size:=Am e1;have hT:s.TypeIs (.ref p) "list" :=⟨ol,e1,e2⟩;have hDl:D<s.heap.objs.size:=by obtain ⟨o,_,_,_,ho,_⟩:=hD;exact Am ho
 unfold Builtin.Frozenset.updateFrom;refine Aa (qsv hT ?_);rw[Ah (by decide)];refine Aa (EL hT ?_);rw[Ah (by decide)];refine Aa (Ce (PlainL.isList ⟨ol,nl,e1,e2,e3,e4⟩) ?_);have W:=Walks.list (prog:=prog) (w:=w) (A:=A.in1) hA s.heap.objs.size p (Av hpl) its.toArray;have keep:∀ b o,s.heap.get? b=some o->(s.heap.push { cls:=Value.type "list_iterator",data:=Data.fields #[Value.ref p,Value.int 0 0] }).get? b=some o:=λb o q=>Ab _ q
 refine Aa (wpAny_runValue (qyo (A:=A) (knd:=knd) W D ?_ rs (by simpa using hn) (λi v q=>?_) (by simpa using hlen) _ 0 _ 0 rfl (AW _) ⟨⟨_,Ao _ rfl,rfl,rfl⟩,?_⟩ ?_ rfl λh' tk hd' hk=>Ae ?_))
 ·intro hm
  simp only[Ak,AF,Bu] at hm
  rcases hm with e|e
  ·exact absurd e (Av hDl)
  ·exact absurd e.symm hpD
 ·exact hP i v (by simpa using q)
 ·exact PlainL.isList ⟨ol,nl,keep _ _ e1,e2,e3,e4⟩
 ·obtain ⟨o,es,ep,t,ho,r⟩:=hD
  exact ⟨o,es,ep,t,keep _ _ ho,r⟩
 ·refine h h' tk hd' λb o hb q=>?_
  have lt:=Am q;exact hk b o (λhm=>absurd (Aj.mp hm) (Av lt)) hb (keep b o q)
theorem qyq {p:Addr} {its:List Value} {rs:List K} {Q:Value->Shared->Prop} (hl:PlainL s.heap p its.toArray) (hA:A.handled=none) (hn:its.length<=1000) (hlen:rs.length=its.length)
  (hP:∀ (i:Nat) v,its[i]?=some v->∃ k,knd.is k v=true/\v.scannable=true/\rs[i]?=some k)
  (h:∀ h' tk,h'.SetOf knd s.heap.objs.size (λq=>decide (q∈rs.reverse)) (qef rs.reverse)->(∀ b o,s.heap.get? b=some o->h'.get? b=some o)->Q (.ref s.heap.objs.size) { s with heap:=h',toks:=tk }) :
  wpAny (model prog w) A (call (.type "set") [.ref p]) Q E s:=by
 obtain ⟨c,tl,hmro⟩:=Cp.mro;have hmade:=Cp.made;have hsub:=Cp.sub;refine BY (Eb ?_)
 show wpAny _ _ (callAny (.type "set") _) _ _ _
 refine Ae ⟨DM _ (by decide +kernel),Du F.entry_type_call ?_⟩;rw[Around.under_plain (weight_type_call_type "set" [.ref p] []) rfl];have h1:=Cp.notType;have h2:=Cp.canCreate;have hct:=qns (.ref p)
 repeat (any_goals (first|assumption|wp_step))
 refine BJ (qBe (E:=E) (.ref p) (Q₁:=λobj s₁=>∃ led:Bool,obj=.ref s.heap.objs.size/\s₁={ s with heap:=s.heap.push { cls:=.type "set",dict:=none,data:=.set #[] 0 (.fresh 0 0 led) } }) λled=>⟨led,rfl,rfl⟩) λr s₁ hr=>?_
 cases r with
 | error e=>exact hr
 | ok fl =>
  cases fl with
  | ret obj =>
   obtain ⟨led,rfl,rfl⟩:=hr;have hS:(s.heap.push { cls:=.type "set",dict:=none,data:=.set #[] 0 (.fresh 0 0 led) }).get? s.heap.objs.size=some { cls:=.type "set",dict:=none,data:=.set #[] 0 (.fresh 0 0 led) }:=Ao _ rfl;have hT:Shared.TypeIs { s with heap:=s.heap.push { cls:=.type "set",dict:=none,data:=.set #[] 0 (.fresh 0 0 led) } } (.ref s.heap.objs.size) "set" :=⟨_,hS,rfl⟩;have hli:=Cp.init.lookup;have hbi:=Cp.init.bind (.ref s.heap.objs.size)
   repeat (any_goals (first|assumption|wp_step))
   refine BJ (BQ (R:=wants (λr s₂=>r=.none/\Q (.ref s.heap.objs.size) s₂) E) Cp.init.plain F.entry_set_init (qvj hT ?_)) λr₂ s₂ hr₂=>?_
   ·unfold Builtin.«set.__init__» noKeywords
    have hl':PlainL (s.heap.push { cls:=.type "set",dict:=none,data:=.set #[] 0 (.fresh 0 0 led) }) p its.toArray:=by
     obtain ⟨ol,nl,e1,e2,e3,e4⟩:=hl;exact ⟨ol,nl,Ab _ e1,e2,e3,e4⟩
    have hpD:p≠s.heap.objs.size:=by
     obtain ⟨ol,nl,e1,e2,e3,e4⟩:=hl;exact Av (Am e1)
    have hnew:(s.heap.push { cls:=.type "set",dict:=none,data:=.set #[] 0 (.fresh 0 0 led) }).SetOf knd s.heap.objs.size (λ_=>false) 0:=(setObjOf_fresh (knd:=knd) led).setOf hS (by decide)
    repeat (any_goals (first|(refine qyp hl' hpD hA hn hlen hP hnew (λh' tk hd hk=>?_))|assumption|wp_step))
    exact ⟨rfl,h h' tk hd λb o q=>hk b o (Av (Am q)) (Ab _ q)⟩
   ·cases r₂ with
    | error e=>exact hr₂
    | ok fl₂ =>
     cases fl₂ with
     | ret r =>
      obtain ⟨rfl,hq⟩:=hr₂
      repeat (any_goals (first|assumption|wp_step))
     | _=>exact hr₂.elim
  | _=>exact hr.elim
end
def qDj (a:Addr) (n:Nat):HO:=.ext λh=>∃ o es ep t,h.get? a=some o/\o.ExactSet/\o.data=.set es ep t/\t.fits es.size=true/\es.size=n
theorem qsw:∀ {ss:List Str} {us:List Value},Vals (ss.map V.str) us->ss.length=us.length/\∀ (i:Nat) v,us[i]?=some v->∃ k t,v=.str k t/\ss[i]?=some k
 | [],_,.nil=>⟨rfl,λi v h=>by simp at h⟩
 | x :: ss,_,.cons ⟨t,e⟩ r=>by
  subst e;obtain ⟨h1,h2⟩:=qsw r;refine ⟨by simp[h1],λi v h=>?_⟩
  cases i with
  | zero=>cases h;exact ⟨x,t,rfl,rfl⟩
  | succ i=>exact h2 i v h
theorem qsx {X:Cx} (hc:X.calm=true):CallR X (.type "set") (λxs H Q=>∃ (p:Addr) (ss:List Str),xs=[.ref p]/\SqL X.K H p (ss.map V.str)/\ss.length<=1000/\∀ a H',New H H' a (qDj a (qef ss.reverse))->Q (.ref a) H'):=by
 intro pins s σ H xs us Q I r h;obtain ⟨p,ss,rfl,hq,hz,q⟩:=h;obtain ⟨u,rfl,ru⟩:=vals1 r
 cases (show u=Value.ref p from ru)
 obtain ⟨its,rv,pl,_⟩:=I.list hq;obtain ⟨hl,hP⟩:=qsw rv;refine qyq (knd:=PySem.strKind X.prog X.w) pl (I.ok.hd hc) (by omega) hl (λi v e=>?_) λh' tk hd hk'=>?_
 ·obtain ⟨k,t,rfl,e'⟩:=hP i v e
  exact ⟨k,by simp[PySem.strKind,Value.isStrOf],rfl,e'⟩
 ·obtain ⟨o,es,ep,t,ho,hex,hdt,_,_,_,hf,hn⟩:=hd
  refine ⟨.ref s.heap.objs.size,_,I.laid (a:=s.heap.objs.size) (o:=qDj s.heap.objs.size (qef ss.reverse)) (h':=h') (t':=tk) hk' (Ag _) ?_,rfl,q _ _ (qbb (I.hok.fresh (Ag _)))⟩;refine ⟨⟨o,es,ep,t,ho,hex,hdt,hf,hn⟩,⟨o,ho⟩,λh1 h2 x y=>?_⟩;obtain ⟨o,es,ep,t,ho,r⟩:=x;exact ⟨o,es,ep,t,y _ ho,r⟩
theorem qsy {X:Cx}:CallR X (.builtin "len") (λxs H Q=>∃ (a:Addr) (n:Nat),xs=[.ref a]/\H a=some (qDj a n)/\n<=1000/\Q (.int n) H):=by
 intro pins s σ H xs us Q I r h;obtain ⟨a,n,rfl,ha,hz,q⟩:=h;obtain ⟨u,rfl,ru⟩:=vals1 r
 cases (show u=Value.ref a from ru)
 obtain ⟨⟨o,es,ep,t,ho,hex,hdt,hf,hn⟩,_⟩:=I.hok a _ ha;refine call_len_set ho hex hdt hf (by omega) ?_;exact ⟨.int n,H,I.tok (s.toks+1+1),⟨_,by rw[hn]⟩,q⟩
theorem qBf:bootBuiltins "set" = some (.type "set"):=by decide +kernel
open PySem PySem.Spec PyProof.Rows
def leT (a b:List Nat):Bool:=decide (¬ b<a)
def qbe (l:List (List Nat)):List (List Nat):=l.mergeSort leT
theorem qlw (a b c:List Nat) (h1:leT a b=true) (h2:leT b c=true):leT a c=true:=by
 unfold leT at *
 have h1:=AG h1;have h2:=AG h2;exact AE (List.le_trans h1 h2)
theorem qsz (a b:List Nat):(leT a b || leT b a)=true:=by
 unfold leT
 rcases List.le_total a b with h|h
 ·rw[show decide (¬ b<a)=true from AE h];rfl
 ·rw[show decide (¬ a<b)=true from AE h,EY]
theorem qvk {a b:List Nat} (h1:leT a b=true) (h2:leT b a=true):a=b:=List.le_antisymm (AG h1) (AG h2)
theorem qa3 (l:List (List Nat)):(qbe l).Perm l:=List.mergeSort_perm l leT
theorem qo7 (l:List (List Nat)):(qbe l).Pairwise (λa b=>leT a b=true):=EI qlw qsz l
theorem qBg:∀ {a b:List (List Nat)},a.Perm b->a.Pairwise (λa b=>leT a b=true)->b.Pairwise (λa b=>leT a b=true)->a=b
 | [],b,p,_,_=>p.nil_eq
 | x :: a,[],p,_,_=>absurd p.symm.nil_eq (by simp)
 | x :: a,y :: b,p,h1,h2=>by
  have h1':=Ca.mp h1;have h2':=Ca.mp h2;have e:x=y:=by
   rcases Ak.mp (p.mem_iff.mp (Au (a:=x) (l:=a))) with e|e
   ·exact e
   ·rcases Ak.mp (p.symm.mem_iff.mp (Au (a:=y) (l:=b))) with e'|e'
    ·exact e'.symm
    ·exact qvk (h1'.1 y e') (h2'.1 x e)
  subst e;rw[qBg (List.Perm.cons_inv p) h1'.2 h2'.2]
theorem qkt {a b:List (List Nat)} (p:a.Perm b) (h:a.Pairwise (λa b=>leT a b=true)):a=qbe b:=qBg (p.trans (qa3 b).symm) h (qo7 b)
theorem qfb {a b:List (List Nat)} (p:a.Perm b):qbe a=qbe b:=qkt ((qa3 a).trans p) (qo7 a)
theorem qlx:∀ (x:List Nat) (l:List (List Nat)),risingS (S x) (l.map S)=true->(x :: l).Pairwise (λa b=>leT a b=true)
 | x,[],_=>Di ..
 | x,y :: l,h=>by
  have h:(!ltCps (S y).cps.toList (S x).cps.toList && risingS (S y) (l.map S))=true:=h;rw[CN] at h;have t:=qlx y l h.2;have e:leT x y=true:=by
   have h1:=h.1;rw[ltCps_eq] at h1;unfold leT S at *
   simpa using h1
  refine Ca.mpr ⟨λz hz=>?_,t⟩
  rcases Ak.mp hz with rfl|hz
  ·exact e
  ·exact qlw _ _ _ e ((Ca.mp t).1 z hz)
theorem qqj:∀ {l:List (List Nat)},sortedS (l.map S)=true->l.Pairwise (λa b=>leT a b=true)
 | [],_=>.nil
 | x :: l,h=>qlx x l h
theorem qD3 (x:Str):S x.cps.toList=x:=by unfold S;simp
theorem qo8 {ss:List (List Nat)} {ms:List Str} (p:ms.Perm (ss.map S)) (h:sortedS ms=true):ms=(qbe ss).map S:=by
 have e:ms=(ms.map λx=>x.cps.toList).map S:=by
  rw[AI]
  conv=>lhs;rw[<- Fl ms]
  exact Ba λx _=>(qD3 x).symm
 have e2:(ss.map S).map (λx=>x.cps.toList)=ss:=by
  rw[AI]
  conv=>rhs;rw[<- Fl ss]
  exact Ba λx _=>by show (S x).cps.toList=x;unfold S;simp
 rw[e] at h;have p':=p.map (λx=>x.cps.toList);rw[e2] at p';rw[e,qkt p' (qqj h)]
theorem qfr {X:Cx}:CallR X (.builtin "sorted") (λxs H Q=>∃ (p:Addr) (ss:List (List Nat)),xs=[.ref p]/\SqL X.K H p (ss.map λq=>V.str (S q))/\ss.length<64/\∀ l H',New H H' l (.lst ((qbe ss).map λq=>V.str (S q)))->Q (.ref l) H'):=by
 intro pins s σ H xs us Q I r h;obtain ⟨p,ss,rfl,hq,h64,q⟩:=h;refine qlv pins s σ H _ us Q I r ⟨p,ss.map S,rfl,by rw[AI];exact hq,by simpa using h64,λms l H' h1 h2 n=>q l H' ?_⟩;rw[qo8 h1 h2,AI] at n;exact n
section
variable {X:Cx}
theorem qs0 {P:Program} {w:World}:∀ {kvs:List (Key×V)} {vs:List (Key×Value)} {es:List DictEntry},KV kvs vs->PySem.Pairs (qbw P w) es vs->kvs.length=es.length/\∀ (i:Nat) k v,kvs[i]?=some (k,v)->∃ e,es[i]?=some e/\RelV (kV k) e.key/\RelV v e.val
 | _,_,_,.nil,.nil=>⟨rfl,λi k v h=>by simp at h⟩
 | _,_,_,.cons (a:=p) (b:=q) ⟨h1,h2⟩ t,.cons (e:=e) hk hv r=>by
  obtain ⟨hl,at_⟩:=qs0 t r;refine ⟨by simp[hl],λi k v h=>?_⟩
  cases i with
  | zero =>
   cases h;refine ⟨e,rfl,?_,?_⟩
   ·subst h1
    rcases qbh hk with ⟨i,t,e1,e2⟩|⟨x,t,e1,e2⟩
    ·rw[e1,e2];exact ⟨t,rfl⟩
    ·rw[e1,e2];exact ⟨t,rfl⟩
   ·rw[hv];exact h2
  | succ i=>exact at_ i k v h
theorem qh0:∀ {xs:List V} {us:List Value},xs.length=us.length->(∀ (i:Nat) x v,xs[i]?=some x->us[i]?=some v->RelV x v)->Vals xs us
 | [],[],_,_=>.nil
 | [],_ :: _,h,_=>by simp at h
 | _ :: _,[],h,_=>by simp at h
 | x :: xs,u :: us,h,g=>.cons (g 0 x u rfl rfl) (qh0 (by simpa using h) λi y v hy hv=>g (i+1) y v hy hv)
theorem qjk (hc:X.calm=true):CallR X (.builtin "sorted") (λxs H Q=>∃ (a:Addr) (kvs:List (Key×V)) (ss:List (List Nat)),xs=[.ref a]/\Rd H a (.dK kvs)/\kvs.map (·.1)=ss.map (λq=>Sum.inr (S q))/\ss.length<64/\∀ l H',New H H' l (.lst ((qbe ss).map λq=>V.str (S q)))->Q (.ref l) H'):=by
 intro pins s σ H xs us Q I r h;obtain ⟨a,kvs,ss,rfl,ha,ek,h64,q⟩:=h;obtain ⟨u,rfl,rx⟩:=vals1 r
 cases (show u=Value.ref a from rx)
 obtain ⟨hz,lo,vs,kt,o,es,ep,e1,e2,e3,ek',e4,_⟩:=qln I.hok ha;have hR:RawD s.heap a es ep:=⟨o,e1,e2,e3⟩;obtain ⟨hl,at_⟩:=qs0 kt e4;have hl:kvs.length=es.size:=by simpa using hl
 have lk:kvs.length=ss.length:=by have:=congrArg List.length ek;simpa using this
 refine Ew kind_sorted plain_sorted entry_sorted (args_sorted1 _) ?_;unfold Builtin.«sorted»;refine Aa (m:=checkCount "sorted" 1 1 _) (Ae ?_);refine Aa (PySem.W.kdu_collect (qwq lo) (I.ok.hd hc) hR (by rw[Bl];omega) λh' tk acc hk hacc=>?_);have hlen:acc.toList.length=ss.length:=by rw[Bb,hacc.1];omega
 have rv:Vals ((ss.map S).map V.str) acc.toList:=by
  refine qh0 (by simpa using hlen.symm) λi x v hx hv=>?_
  obtain ⟨e,he,hve⟩:=hacc.2 i v (by rw[<- Cd];exact hv);have hi:i<kvs.length:=by have:=(Ai.mp hv).1;omega
  obtain ⟨e',he',hk',_⟩:=at_ i kvs[i].1 kvs[i].2 (by rw[Ad hi]);rw[Cd,he] at he'
  cases he'
  have e5:(kvs.map (·.1))[i]?=some kvs[i].1:=by simp[hi]
  rw[ek,Ay] at e5;rw[AI,Ay] at hx
  cases hq:ss[i]? with
  | none=>rw[hq] at hx;cases hx
  | some z =>
   rw[hq] at hx e5;cases hx;have e6:=AJ e5;rw[<- e6] at hk';rw[hve];exact hk'
 have hS:StrsAre acc.toList (ss.map S):=qge rv;have I':Inv X pins σ H { s with heap:=h',toks:=tk }:=I.kept hk;refine Aa (DJ ?_ (by rw[hlen,Bl];omega));have hoL:(h'.push (seqObj "list" acc.toList.toArray 0)).get? h'.objs.size=some (seqObj "list" acc.toList.toArray 0):=Ao _ rfl;refine Aa (Bk (BK slot_list_sort ⟨_,hoL,rfl⟩ entry_list_sort (list_sort_treeK (s:={ s with heap:=h'.push (seqObj "list" acc.toList.toArray 0),toks:=tk }) strKind_oneLt hoL hS.keysOf (λv₁ v₂ rest e=>keyKind_strs (by rw[<- e];exact hS)) (by omega) λst' a1 a2=>⟨_,rfl,?_⟩) (args_list_sort _)));refine Ae ⟨_,rfl,?_⟩;obtain ⟨ms,m1,m2,m3⟩:=sorted_out_str hS a1 a2;have em:=qo8 m2 m3;subst em;obtain ⟨c,hat⟩:∃ c,(sortedHeap (h'.push (seqObj "list" acc.toList.toArray 0)) h'.objs.size acc.toList ((arrOf st').map (·.2))).get? h'.objs.size=some (seqObj "list" ((arrOf st').map (·.2)) c):=sortedHeap_at hoL;have kp:∀ b ob,h'.get? b=some ob->(sortedHeap (h'.push (seqObj "list" acc.toList.toArray 0)) h'.objs.size acc.toList ((arrOf st').map (·.2))).get? b=some ob:=λb ob hb=>by
  have lb:=Am hb;rw[sortedHeap_old (Av lb) (by rw[Ek];exact CH lb)];exact Ab _ hb
 have hl2:((qbe ss).map S).length<=sizeLine:=by rw[Ac,(qa3 ss).length_eq,Bl];omega
 have vv:=qh2 m1;rw[AI] at vv;exact ⟨.ref h'.objs.size,upd H h'.objs.size (.lst ((qbe ss).map λq=>V.str (S q))),I'.laid (t':=tk) kp (Ag _) ⟨by simpa using hl2,_,c,vv,by rw[hat]⟩,rfl,q _ _ (qbb (I'.hok.fresh (Ag _)))⟩
end
open PySem PySem.Spec PyProof.Rows
end L2
namespace L2
open PySem PySem.Spec PyProof.Rows
open PySem PySem.Spec PyProof.Rows
section
variable {P:Program} {w:World} {K:Frag} {mg:Str->Option Value} {base:Heap}
end
open PySem PySem.Spec PyProof.Rows
section
variable {X:Cx} {k:Nat} {f C:Addr} {fd:FuncData} {ps:List Str} {sp:Sp} {m:Str} {pos apos:Pos} {o:Expr} {ta:TE}
end
open PySem PySem.Spec PyProof.Rows
abbrev qcs (h:Heap) (T:Addr) (a b c:Value):Prop:=h.get? T=some { cls:=.type "tuple",data:=.seq #[a,b,c] }
structure Z3 (z TI TO i1 i2 i3 l1 l2 l3:Addr):Prop where
 nd:[z,TO,i1,i2,i3].Nodup
 fx:∀ c∈[TI,l1,l2,l3],c ∉ [z,TO,i1,i2,i3]
section
variable {prog:Program} {w:World} {A:Around} {E:Value->Shared->Prop} {s:Shared}
theorem qnt {T:Addr} {a b c x:Value} {k:Nat} {Q:Unit->Shared->Prop} (hT:qcs s.heap T a b c)
  (h:∀ h',h'.get? T=some { cls:=.type "tuple",data:=.seq ((#[a,b,c]:Array Value).setIfInBounds k x) }->Heap.SameBut T s.heap h'->Q () { s with heap:=h' }) :
  wpAny (model prog w) A (updateSeq T (·.setIfInBounds k x)) Q E s:=by
 refine wpAny_updateSeq hT rfl (h _ ?_ (C0 ..));rw[BN _ hT rfl]
 simp[Obj.mapSeq]
theorem qyr {z TI TO i1 i2 i3 l1 l2 l3:Addr} {k:Nat} {xs ys us:Array Value} {x y u a b c:Value} {Q:Value->Shared->Prop} (D:Z3 z TI TO i1 i2 i3 l1 l2 l3)
  (hz:IsZip s.heap z TI TO .none) (hTI:qcs s.heap TI (.ref i1) (.ref i2) (.ref i3)) (hTO:qcs s.heap TO a b c)
  (h1:s.heap.IsListIter i1 l1 k) (h2:s.heap.IsListIter i2 l2 k) (h3:s.heap.IsListIter i3 l3 k) (hl1:s.heap.IsList l1 xs) (hl2:s.heap.IsList l2 ys) (hl3:s.heap.IsList l3 us) (hx:xs[k]?=some x) (hy:ys[k]?=some y) (hu:us[k]?=some u)
  (hQ:∀ h',IsZip h' z TI TO (rawInt s.heap.objs.size)->qcs h' TO x y u->h'.IsListIter i1 l1 (k+1)->h'.IsListIter i2 l2 (k+1)->h'.IsListIter i3 l3 (k+1)->qcs h' s.heap.objs.size x y u ->
   (∀ c o,c ∉ [z,TO,i1,i2,i3]->s.heap.get? c=some o->h'.get? c=some o)->Q (.ref s.heap.objs.size) { s with heap:=h' }) :
  wpAny (model prog w) A (Builtin.«zip.__next__» ⟨[.ref z],[]⟩) (λfin s'=>∃ v,fin=.done (.ret v)/\Q v s') E s:=by
 have nd:=D.nd;simp only[Bf,Ak,AF,Bu,C3,C6,Fh,C9] at nd;obtain ⟨⟨zT,z1,z2,z3⟩,⟨T1,T2,T3⟩,⟨i12,i13⟩,i23⟩:=nd;have f1:=D.fx l1 (by simp);have f2:=D.fx l2 (by simp);have f3:=D.fx l3 (by simp);simp only[Ak,AF,Bu,C3] at f1 f2 f3
 show wpAny _ _ (field (.ref z) 2 >>= _) _ _ _
 refine Aa (Bo hz rfl (x:=.bool false) rfl ?_)
 show wpAny _ _ (field (.ref z) 3 >>= _) _ _ _
 refine Aa (Bo hz rfl (x:=.ref TI) rfl ?_);refine Aa (CG hTI rfl ?_)
 show wpAny _ _ (Builtin.SmallTypes.ownedTupleIsFree (.ref z) >>= _) _ _ _
 refine Aa ?_;unfold Builtin.SmallTypes.ownedTupleIsFree;refine Aa (Bo hz rfl (x:=.none) rfl (Ae ?_));simp only[DP];refine Aa (wpAny_rule ?_);refine Aa (Bo hz rfl (x:=.ref TO) rfl ?_);refine Aa (Cu hz (by simp) λg1 hz1 s1=>?_)
 replace hz1:IsZip g1 z TI TO .ellipsis:=hz1
 refine Aa ?_;simp only[List.zipIdx_cons,List.zipIdx_nil,List.forIn_cons,List.forIn_nil];refine Aa (Aa (DI ?_))
 show wpAny _ _ (Builtin.SmallTypes.nextOf (.ref i1) >>= _) _ _ _
 refine Aa (Dp (h1.extBut s1.extBut (AY z1)) (hl1.extBut s1.extBut f1.1) hx λg2 q1 s2=>Ae ?_);have k2:∀ c o,c≠z->c≠i1->s.heap.get? c=some o->g2.get? c=some o:=λc o a b e=>s2.extBut _ _ b (s1.extBut _ _ a e)
 have t2:qcs g2 TO a b c:=k2 _ _ (AY zT) T1 hTO;refine Aa (CG t2 rfl ?_);refine Aa (qnt t2 λg3 t3 s3=>?_)
 replace t3:qcs g3 TO x b c:=t3
 have k3:∀ c o,c≠z->c≠i1->c≠TO->s.heap.get? c=some o->g3.get? c=some o:=λc o a b d e=>s3.extBut _ _ d (k2 c o a b e)
 refine Aa (D2 (Ae ?_));refine Aa (Aa (DI ?_))
 show wpAny _ _ (Builtin.SmallTypes.nextOf (.ref i2) >>= _) _ _ _
 refine Aa (Dp (h2.at λo e=>k3 _ o (AY z2) (AY i12) (AY T2) e) (hl2.at λo e=>k3 _ o f2.1 f2.2.2.1 f2.2.1 e) hy λg4 q2 s4=>Ae ?_);have t4:qcs g4 TO x b c:=s4.extBut _ _ T2 t3;refine Aa (CG t4 rfl ?_);refine Aa (qnt t4 λg5 t5 s5=>?_)
 replace t5:qcs g5 TO x y c:=t5
 have k5:∀ c o,c≠z->c≠i1->c≠TO->c≠i2->s.heap.get? c=some o->g5.get? c=some o:=λc o a b d f e=>s5.extBut _ _ d (s4.extBut _ _ f (k3 c o a b d e))
 refine Aa (D2 (Ae ?_));refine Aa (Aa (DI ?_))
 show wpAny _ _ (Builtin.SmallTypes.nextOf (.ref i3) >>= _) _ _ _
 refine Aa (Dp (h3.at λo e=>k5 _ o (AY z3) (AY i13) (AY T3) (AY i23) e) (hl3.at λo e=>k5 _ o f3.1 f3.2.2.1 f3.2.1 f3.2.2.2.1 e) hu λg6 q3 s6=>Ae ?_);have t6:qcs g6 TO x y c:=s6.extBut _ _ T3 t5;refine Aa (CG t6 rfl ?_);refine Aa (qnt t6 λg7 t7 s7=>?_)
 replace t7:qcs g7 TO x y u:=t7
 have k7:∀ c o,c≠z->c≠i1->c≠TO->c≠i2->c≠i3->s.heap.get? c=some o->g7.get? c=some o:=λc o a b d f g e=>s7.extBut _ _ d (s6.extBut _ _ g (k5 c o a b d f e))
 refine Aa (D2 (Ae (Ae ?_)));refine Aa (CG t7 rfl ?_);refine Aa (Ej ?_);have hsz:g7.objs.size=s.heap.objs.size:=by rw[s7.1,s6.1,s5.1,s4.1,s3.1,s2.1,s1.1]
 have hz7:IsZip g7 z TI TO .ellipsis:=s7.extBut _ _ zT (s6.extBut _ _ z3 (s5.extBut _ _ zT (s4.extBut _ _ z2 (s3.extBut _ _ zT (s2.extBut _ _ z1 hz1)))));have p1:g7.IsListIter i1 l1 (k+1):=q1.at λo e=>s7.extBut _ _ (AY T1) (s6.extBut _ _ i13 (s5.extBut _ _ (AY T1) (s4.extBut _ _ i12 (s3.extBut _ _ (AY T1) e))))
 have p2:g7.IsListIter i2 l2 (k+1):=q2.at λo e=>s7.extBut _ _ (AY T2) (s6.extBut _ _ i23 (s5.extBut _ _ (AY T2) e))
 have p3:g7.IsListIter i3 l3 (k+1):=q3.at λo e=>s7.extBut _ _ (AY T3) e
 have hzlt:z<g7.objs.size:=Am hz7
 show wpAny _ _ (Builtin.SmallTypes.ownedTupleHandOut (.ref z) (.ref g7.objs.size) >>= _) _ _ _
 refine Aa ?_;unfold Builtin.SmallTypes.ownedTupleHandOut;have hz8:IsZip (g7.push { cls:=.type "tuple",data:=.seq #[x,y,u] }) z TI TO .ellipsis:=Ab _ hz7;refine Aa (Cu hz8 (by simp) λg8 hz8 s8=>?_)
 replace hz8:IsZip g8 z TI TO (rawInt g7.objs.size):=hz8
 refine Cu hz8 (by simp) λg9 hz9 s9=>?_
 replace hz9:IsZip g9 z TI TO (rawInt g7.objs.size):=hz9
 have up:∀ c o,c≠z->g7.get? c=some o->g9.get? c=some o:=λc o c1 e=>s9.extBut _ _ c1 (s8.extBut _ _ c1 (Ab _ e))
 have hT9:qcs g9 g7.objs.size x y u:=s9.extBut _ _ (Cn hzlt) (s8.extBut _ _ (Cn hzlt) (Ao _ rfl));rw[hsz] at hz9 hT9;refine Ae ⟨_,rfl,?_⟩
 show Q (.ref g7.objs.size) _
 rw[hsz];refine hQ g9 hz9 (up _ _ (AY zT) t7) (p1.at λo e=>up _ o (AY z1) e) (p2.at λo e=>up _ o (AY z2) e) (p3.at λo e=>up _ o (AY z3) e) hT9 λc o n e=>?_
 simp only[Ak,AF,Bu,C3] at n;exact up c o n.1 (k7 c o n.1 n.2.2.1 n.2.1 n.2.2.2.1 n.2.2.2.2 e)
theorem qBh {z TI TO i1 i2 i3 l1 l2 l3:Addr} {k:Nat} {xs:Array Value} {Q:Fin->Shared->Prop} (hh:A.handled=none) (D:Z3 z TI TO i1 i2 i3 l1 l2 l3)
  (hz:IsZip s.heap z TI TO .none) (hTI:qcs s.heap TI (.ref i1) (.ref i2) (.ref i3)) (h1:s.heap.IsListIter i1 l1 k) (hl1:s.heap.IsList l1 xs) (hx:xs[k]?=none)
  (hE:∀ h' e,(∀ c o,c ∉ [z,TO,i1,i2,i3]->s.heap.get? c=some o->h'.get? c=some o)->(∃ o,h'.get? e=some o/\o.cls=.type "StopIteration")->E (.ref e) { s with heap:=h' }) :
  wpAny (model prog w) A (Builtin.«zip.__next__» ⟨[.ref z],[]⟩) Q E s:=by
 have nd:=D.nd;simp only[Bf,Ak,AF,Bu,C3,C6,Fh,C9] at nd;obtain ⟨⟨zT,z1,z2,z3⟩,_⟩:=nd;have f1:=D.fx l1 (by simp);simp only[Ak,AF,Bu,C3] at f1
 show wpAny _ _ (field (.ref z) 2 >>= _) _ _ _
 refine Aa (Bo hz rfl (x:=.bool false) rfl ?_)
 show wpAny _ _ (field (.ref z) 3 >>= _) _ _ _
 refine Aa (Bo hz rfl (x:=.ref TI) rfl ?_);refine Aa (CG hTI rfl ?_)
 show wpAny _ _ (Builtin.SmallTypes.ownedTupleIsFree (.ref z) >>= _) _ _ _
 refine Aa ?_;unfold Builtin.SmallTypes.ownedTupleIsFree;refine Aa (Bo hz rfl (x:=.none) rfl (Ae ?_));simp only[DP];refine Aa (wpAny_rule ?_);refine Aa (Bo hz rfl (x:=.ref TO) rfl ?_);refine Aa (Cu hz (by simp) λg1 hz1 s1=>?_)
 replace hz1:IsZip g1 z TI TO .ellipsis:=hz1
 refine Aa ?_;simp only[List.zipIdx_cons,List.zipIdx_nil,List.forIn_cons,List.forIn_nil];refine Aa (Aa (DI ?_))
 show wpAny _ _ (Builtin.SmallTypes.nextOf (.ref i1) >>= _) _ _ _
 refine Aa (wpAny_nextOf_list_end hh (h1.extBut s1.extBut (AY z1)) (hl1.extBut s1.extBut f1.1) hx λg2 e s2 he=>?_);obtain ⟨oe,hoe,hce⟩:=he;have hz2:IsZip g2 z TI TO .ellipsis:=s2 _ _ z1 hz1;have hez:e≠z:=λx=>by subst x;rw[hz2] at hoe;cases hoe;simp at hce
 refine Cu hz2 (by simp) λg3 _ s3=>hE g3 e (λc o n x=>?_) ⟨oe,s3.extBut _ _ hez hoe,hce⟩
 simp only[Ak,AF,Bu,C3] at n;exact s3.extBut _ _ n.1 (s2 _ _ n.2.2.1 (s1.extBut _ _ n.1 x))
theorem qys {z TI TO i1 i2 i3 l1 l2 l3:Addr} {k:Nat} {xs ys us:Array Value} {x y u a b c:Value} {Q:Option Value->Shared->Prop} (D:Z3 z TI TO i1 i2 i3 l1 l2 l3)
  (hz:IsZip s.heap z TI TO .none) (hTI:qcs s.heap TI (.ref i1) (.ref i2) (.ref i3)) (hTO:qcs s.heap TO a b c)
  (h1:s.heap.IsListIter i1 l1 k) (h2:s.heap.IsListIter i2 l2 k) (h3:s.heap.IsListIter i3 l3 k) (hl1:s.heap.IsList l1 xs) (hl2:s.heap.IsList l2 ys) (hl3:s.heap.IsList l3 us) (hx:xs[k]?=some x) (hy:ys[k]?=some y) (hu:us[k]?=some u)
  (hQ:∀ h',IsZip h' z TI TO (rawInt s.heap.objs.size)->qcs h' TO x y u->h'.IsListIter i1 l1 (k+1)->h'.IsListIter i2 l2 (k+1)->h'.IsListIter i3 l3 (k+1)->qcs h' s.heap.objs.size x y u ->
   (∀ c o,c ∉ [z,TO,i1,i2,i3]->s.heap.get? c=some o->h'.get? c=some o)->Q (some (.ref s.heap.objs.size)) { s with heap:=h' }) :
  wpAny (model prog w) A (pyNext (.ref z)) Q E s:=by
 have hT:s.TypeIs (.ref z) "zip" :=⟨_,hz,rfl⟩;unfold pyNext;exact Aa (Cs (wpAny_callSpecial?_slot (name:=Str.ofString "__next__") hT Dx
  (BK Dx hT F.entry_zip_next
   (qyr D hz hTI hTO h1 h2 h3 hl1 hl2 hl3 hx hy hu λh' a1 a2 a3 a4 a5 a6 a7=>Ae (hQ h' a1 a2 a3 a4 a5 a6 a7)) (F.args_zip_next_1 _))))
theorem qyt {z TI TO i1 i2 i3 l1 l2 l3:Addr} {k:Nat} {xs:Array Value} {Q:Option Value->Shared->Prop} (hh:A.handled=none) (D:Z3 z TI TO i1 i2 i3 l1 l2 l3)
  (hz:IsZip s.heap z TI TO .none) (hTI:qcs s.heap TI (.ref i1) (.ref i2) (.ref i3)) (h1:s.heap.IsListIter i1 l1 k) (hl1:s.heap.IsList l1 xs) (hx:xs[k]?=none)
  (hQ:∀ h',(∀ c o,c ∉ [z,TO,i1,i2,i3]->s.heap.get? c=some o->h'.get? c=some o)->Q none { s with heap:=h' }):wpAny (model prog w) A (pyNext (.ref z)) Q E s:=by
 have hT:s.TypeIs (.ref z) "zip" :=⟨_,hz,rfl⟩;unfold pyNext;refine Aa (Cs (wpAny_callSpecial?_slot (name:=Str.ofString "__next__") hT Dx
  (BK Dx hT F.entry_zip_next (qBh hh D hz hTI h1 hl1 hx λh' e hk he=>?_) (F.args_zip_next_1 _))))
 obtain ⟨o,ho,hc⟩:=he;refine Aa (DU (T:= "StopIteration") (b:=true) ⟨o,ho,hc⟩ isSubtype_stop ?_);exact Ae (hQ _ hk)
end
open PySem PySem.Spec PyProof.Rows
theorem qyu (a b c:Value):checkTypeCall "zip" ⟨[a,b,c],[]⟩=pure ():=by kernel_rfl
theorem qyv (a b c:Value):checkBuiltinCall "zip.__new__" ⟨[.type "zip",a,b,c],[]⟩=pure ():=by kernel_rfl
theorem qEz (a b c d:Value):argsOk "object.__init__" ⟨[a,b,c,d],[]⟩:=by
 unfold argsOk;rw[signature?_of (id:= "object.__init__") (n:=['_','_','t','i','n','i','_','_']) (o:=['t','c','e','j','b','o']) (by kernel_rfl) F.owner_object];kernel_rfl
abbrev qnu (l:Addr):Obj:={ cls:=.type "list_iterator",data:=.fields #[.ref l,.int 0 0] }
abbrev z3a (h:Heap) (l1 l2 l3:Addr):Heap:=((h.push (qnu l1)).push (qnu l2)).push (qnu l3)
abbrev z3b (h:Heap) (l1 l2 l3:Addr):Heap:=(z3a h l1 l2 l3).push { cls:=.type "tuple",data:=.seq #[.ref h.objs.size,.ref (h.push (qnu l1)).objs.size,.ref ((h.push (qnu l1)).push (qnu l2)).objs.size] }
abbrev z3c (h:Heap) (l1 l2 l3:Addr):Heap:=(z3b h l1 l2 l3).push { cls:=.type "tuple",data:=.seq #[.none,.none,.none] }
abbrev z3d (h:Heap) (l1 l2 l3:Addr):Heap:=(z3c h l1 l2 l3).push { cls:=.type "zip",data:=.fields #[.none,.bool false,.bool false,.ref (z3a h l1 l2 l3).objs.size,.ref (z3b h l1 l2 l3).objs.size] }
theorem qyw (l1 l2 l3:Addr) (xs ys us:Array Value) :
  Meets (Builtin.«zip.__new__» ⟨[.type "zip",.ref l1,.ref l2,.ref l3],[]⟩) (λ_ R s=>s.heap.IsList l1 xs/\s.heap.IsList l2 ys/\s.heap.IsList l3 us /\
   R (.ok (.ret (.ref (z3c s.heap l1 l2 l3).objs.size))) { s with heap:=z3d s.heap l1 l2 l3 }):=
 .of_wp λprog w A R s h=>by
  obtain ⟨hp,g,d,tk,os⟩:=s;obtain ⟨hl1,hl2,hl3,h⟩:=h;have hsub:=sub_zip;have hL1:Heap.IsList (Shared.heap ⟨hp,g,d,tk,os⟩) l1 xs:=hl1;have hL2:Heap.IsList (Shared.heap ⟨hp.push (qnu l1),g,d,tk,os⟩) l2 ys:=D0 hl2 _;have hL3:Heap.IsList (Shared.heap ⟨(hp.push (qnu l1)).push (qnu l2),g,d,tk,os⟩) l3 us:=D0 (D0 hl3 _) _
  wp_walk using Ce hL1,Ce hL2,Ce hL3
  exact ⟨_,rfl,h⟩
section
variable {prog:Program} {w:World} {A:Around} {E:Value->Shared->Prop} {s:Shared}
theorem qs1 {l1 l2 l3:Addr} {xs ys us:Array Value} {Q:Value->Shared->Prop} (hl1:s.heap.IsList l1 xs) (hl2:s.heap.IsList l2 ys) (hl3:s.heap.IsList l3 us)
  (h:∀ h',IsZip h' (s.heap.objs.size+5) (s.heap.objs.size+3) (s.heap.objs.size+4) .none->qcs h' (s.heap.objs.size+3) (.ref s.heap.objs.size) (.ref (s.heap.objs.size+1)) (.ref (s.heap.objs.size+2)) ->
   qcs h' (s.heap.objs.size+4) .none .none .none->h'.IsListIter s.heap.objs.size l1 0->h'.IsListIter (s.heap.objs.size+1) l2 0->h'.IsListIter (s.heap.objs.size+2) l3 0 ->
   (∀ c o,s.heap.get? c=some o->h'.get? c=some o)->Q (.ref (s.heap.objs.size+5)) { s with heap:=h' }) :
  wpAny (model prog w) A (call (.type "zip") [.ref l1,.ref l2,.ref l3]) Q E s:=by
 refine callType_new F.called_zip (by decide) (qyu _ _ _) (qyv _ _ _) (λobj=>qEz obj _ _ _) F.entry_zip_new
  (qyw l1 l2 l3 xs ys us) ⟨hl1,hl2,hl3,?_⟩
 have y1:(s.heap.push (qnu l1)).objs.size=s.heap.objs.size+1:=Bp ..;have y2:((s.heap.push (qnu l1)).push (qnu l2)).objs.size=s.heap.objs.size+2:=by rw[Bp,y1]
 have y3:(z3a s.heap l1 l2 l3).objs.size=s.heap.objs.size+3:=by rw[Bp,y2]
 have y4:(z3b s.heap l1 l2 l3).objs.size=s.heap.objs.size+4:=by rw[Bp,y3]
 have y5:(z3c s.heap l1 l2 l3).objs.size=s.heap.objs.size+5:=by rw[Bp,y4]
 have g6:(z3d s.heap l1 l2 l3).get? (z3c s.heap l1 l2 l3).objs.size=some _:=Ao _ rfl;have g5:(z3d s.heap l1 l2 l3).get? (z3b s.heap l1 l2 l3).objs.size=some _:=Ab _ (Ao _ rfl);have g4:(z3d s.heap l1 l2 l3).get? (z3a s.heap l1 l2 l3).objs.size=some _:=Ab _ (Ab _ (Ao _ rfl));have g3:(z3d s.heap l1 l2 l3).get? ((s.heap.push (qnu l1)).push (qnu l2)).objs.size=some _:=Ab _ (Ab _ (Ab _ (Ao _ rfl)));have g2:(z3d s.heap l1 l2 l3).get? (s.heap.push (qnu l1)).objs.size=some _:=Ab _ (Ab _ (Ab _ (Ab _ (Ao _ rfl))));have g1:(z3d s.heap l1 l2 l3).get? s.heap.objs.size=some _:=Ab _ (Ab _ (Ab _ (Ab _ (Ab _ (Ao _ rfl)))))
 show _/\_
 rw[y3,y4,y5] at g6;rw[y4] at g5;rw[y1,y2,y3] at g4;rw[y2] at g3;rw[y1] at g2;rw[y5];exact ⟨⟨_,g6,rfl⟩,h _ g6 g4 g5 ⟨_,g1,rfl,rfl⟩ ⟨_,g2,rfl,rfl⟩ ⟨_,g3,rfl,rfl⟩ λc o x =>
  Ab _ (Ab _ (Ab _ (Ab _ (Ab _ (Ab _ x)))))⟩
end
def It3 (K:Frag) (a b c:Addr):It:=
 ⟨λi H=>∃ xs ys us x y u,SqL K H a xs/\SqL K H b ys/\SqL K H c us/\xs[i]?=some x/\ys[i]?=some y/\us[i]?=some u,
   λi H v H'=>∃ p,v=.ref p/\H p=none/\∀ xs ys us x y u,SqL K H a xs->SqL K H b ys->SqL K H c us->xs[i]?=some x->ys[i]?=some y->us[i]?=some u->H'=upd H p (.tup [x,y,u]),
   λi H=>∃ xs ys us,SqL K H a xs/\SqL K H b ys/\SqL K H c us/\xs.length<=i⟩
theorem qyx {P:Program} {w:World} {K:Frag} {elts:List Expr} {ek:Nat} {epos:Pos} (a b c z TI TO i1 i2 i3:Addr) (d1:TI≠TO) (d2:i1≠i2) (d3:i1≠i3) (d4:i2≠i3) :
  Turn P w K (.Tuple elts ek epos) (It3 K a b c) [z,TI,TO,i1,i2,i3] z (λi h=>IsZip h z TI TO .none/\qcs h TI (.ref i1) (.ref i2) (.ref i3)/\(∃ x y u,qcs h TO x y u)/\h.IsListIter i1 a i/\h.IsListIter i2 b i/\h.IsListIter i3 c i):=by
 have DD:∀ {h:Heap} {i:Nat} {xs ys us:Array Value} {x y u:Value},IsZip h z TI TO .none->qcs h TI (.ref i1) (.ref i2) (.ref i3)->qcs h TO x y u->h.IsListIter i1 a i->h.IsListIter i2 b i->h.IsListIter i3 c i->h.IsList a xs->h.IsList b ys->h.IsList c us->Z3 z TI TO i1 i2 i3 a b c:=by
  intro h i xs ys us x y u hz hTI hTO h1 h2 h3 pA pB pC;obtain ⟨o1,e1,c1,_⟩:=h1;obtain ⟨o2,e2,c2,_⟩:=h2;obtain ⟨o3,e3,c3,_⟩:=h3;have nl:∀ {l:Addr} {vs:Array Value},h.IsList l vs->l ∉ [z,TO,i1,i2,i3]:=fun {l vs} p=>by
   obtain ⟨ol,el,cl,_⟩:=p;simp only[Ak,AF,Bu,C3];exact ⟨qap el hz (by rw[cl];exact qAm),qap el hTO (by rw[cl];exact qAn),qap el e1 (by rw[cl,c1];exact qr1),qap el e2 (by rw[cl,c2];exact qr1),qap el e3 (by rw[cl,c3];exact qr1)⟩
  refine ⟨?_,λd hd=>?_⟩
  ·simp only[Bf,Ak,AF,Bu,C3,C6,Fh,C9]
   exact ⟨⟨(qap hTO hz qzv).symm,(qap e1 hz (by rw[c1];exact qx2)).symm,(qap e2 hz (by rw[c2];exact qx2)).symm,(qap e3 hz (by rw[c3];exact qx2)).symm⟩,⟨qap hTO e1 (by rw[c1];exact qoo),qap hTO e2 (by rw[c2];exact qoo),qap hTO e3 (by rw[c3];exact qoo)⟩,⟨d2,d3⟩,d4⟩
  ·simp only[Ak,AF,Bu] at hd
   rcases hd with rfl|rfl|rfl|rfl
   ·simp only[Ak,AF,Bu,C3]
    exact ⟨qap hTI hz qzv,d1,qap hTI e1 (by rw[c1];exact qoo),qap hTI e2 (by rw[c2];exact qoo),qap hTI e3 (by rw[c3];exact qoo)⟩
   ·exact nl pA
   ·exact nl pB
   ·exact nl pC
 have sub:∀ {d:Addr},d ∉ [z,TI,TO,i1,i2,i3]->d ∉ [z,TO,i1,i2,i3]:=fun {d} h q=>h (by
  simp only[Ak,AF,Bu] at q ⊢
  rcases q with q|q|q|q|q<;>simp[q])
 refine ⟨by simp,?_,?_,?_,?_,λ_ _ _ _ _ st h=>Dg st.1 h⟩
 ·intro i h st d hc
  obtain ⟨hz,hTI,⟨x,y,u,hTO⟩,⟨o1,e1,c1,f1⟩,⟨o2,e2,c2,f2⟩,⟨o3,e3,c3,f3⟩⟩:=st;simp only[Ak,AF,Bu] at hc
  rcases hc with rfl|rfl|rfl|rfl|rfl|rfl
  ·exact ⟨_,hz,λv q=>by have q':Data.fields _=Data.cell v:=q;cases q'⟩
  ·exact ⟨_,hTI,λv q=>by have q':Data.seq _ _=Data.cell v:=q;cases q'⟩
  ·exact ⟨_,hTO,λv q=>by have q':Data.seq _ _=Data.cell v:=q;cases q'⟩
  ·exact ⟨_,e1,λv q=>by rw[f1] at q;cases q⟩
  ·exact ⟨_,e2,λv q=>by rw[f2] at q;cases q⟩
  ·exact ⟨_,e3,λv q=>by rw[f3] at q;cases q⟩
 ·intro i h h' st k
  obtain ⟨hz,hTI,⟨x,y,u,hTO⟩,h1,h2,h3⟩:=st;exact ⟨k z (by simp) _ hz,k TI (by simp) _ hTI,⟨x,y,u,k TO (by simp) _ hTO⟩,h1.at λo e=>k i1 (by simp) o e,h2.at λo e=>k i2 (by simp) o e,h3.at λo e=>k i3 (by simp) o e⟩
 ·intro X hP hw hK hc i pins s σ H E I hf st hg
  subst hP hw hK;obtain ⟨xs,ys,us,x,y,u,qa,qb,qc,hx,hy,hu⟩:=hg;obtain ⟨hz,hTI,⟨x0,y0,u0,hTO⟩,h1,h2,h3⟩:=st;obtain ⟨itsA,rA,pA,zA⟩:=I.list qa;obtain ⟨itsB,rB,pB,zB⟩:=I.list qb;obtain ⟨itsC,rC,pC,zC⟩:=I.list qc;obtain ⟨v1,hv1,r1⟩:=rA.get hx;obtain ⟨v2,hv2,r2⟩:=rB.get hy;obtain ⟨v3,hv3,r3⟩:=rC.get hu;have D:=DD hz hTI hTO h1 h2 h3 pA.isList pB.isList pC.isList;have nd:=D.nd;simp only[Bf,Ak,AF,Bu,C3,C6,Fh,C9] at nd;obtain ⟨⟨zT,z1,z2,z3⟩,_⟩:=nd;have fT:=D.fx TI (by simp);refine qys D hz hTI hTO h1 h2 h3 pA.isList pB.isList pC.isList (x:=v1) (y:=v2) (u:=v3) (by simpa using hv1) (by simpa using hv2) (by simpa using hv3) λh' a1 a2 a3 a4 a5 a6 hk=>?_
  refine ⟨.ref s.heap.objs.size,rfl,Es a1 λh'' hz'' sb=>?_⟩;have nz:s.heap.objs.size≠z:=Cn (Am hz);have k2:∀ d o,d ∉ [z,TI,TO,i1,i2,i3]->s.heap.get? d=some o->h''.get? d=some o:=λd o hd e=>sb.extBut _ _ (λq=>hd (by rw[q];simp)) (hk d o (sub hd) e)
  have T2:qcs h'' s.heap.objs.size v1 v2 v3:=sb.extBut _ _ nz a6;refine ⟨.ref s.heap.objs.size,upd H s.heap.objs.size (.tup [x,y,u]),I.turnedLaid (t':=s.toks) (ch:=[z,TI,TO,i1,i2,i3]) hf k2 (Ag _) ⟨by show 3<=sizeLine;decide,[v1,v2,v3],.cons r1 (.cons r2 (.cons r3 .nil)),_,T2,rfl,_,rfl⟩,rfl,⟨_,rfl,I.hok.fresh (Ag _),λxs' ys' us' x' y' u' qa' qb' qc' hx' hy' hu'=>?_⟩,⟨hz'',sb.extBut _ _ (λq=>fT (by rw[q];simp)) (hk _ _ fT hTI),⟨_,_,_,sb.extBut _ _ (AY zT) a2⟩,a3.extBut sb.extBut (AY z1),a4.extBut sb.extBut (AY z2),a5.extBut sb.extBut (AY z3)⟩,λd hd=>?_⟩
  ·rw[I.list_inj qa' qa,hx] at hx'
   rw[I.list_inj qb' qb,hy] at hy';rw[I.list_inj qc' qc,hu] at hu'
   cases hx';cases hy';cases hu';rfl
  ·have e:d≠s.heap.objs.size:=λq=>by
    have:∃ o,s.heap.get? d=some o:=by
     simp only[Ak,AF,Bu] at hd;obtain ⟨o1,e1,_⟩:=id h1;obtain ⟨o2,e2,_⟩:=id h2;obtain ⟨o3,e3,_⟩:=id h3
     rcases hd with rfl|rfl|rfl|rfl|rfl|rfl
     ·exact ⟨_,hz⟩
     ·exact ⟨_,hTI⟩
     ·exact ⟨_,hTO⟩
     ·exact ⟨_,e1⟩
     ·exact ⟨_,e2⟩
     ·exact ⟨_,e3⟩
    obtain ⟨o,e⟩:=this;exact absurd (Am e) (by rw[q];exact BC _)
   rw[qas e];exact (hf d hd).1
 ·intro X hP hw hK hc i pins s σ H E I hf st hg
  subst hP hw hK;obtain ⟨xs,ys,us,qa,qb,qc,hx⟩:=hg;obtain ⟨hz,hTI,⟨x0,y0,u0,hTO⟩,h1,h2,h3⟩:=st;obtain ⟨itsA,rA,pA,zA⟩:=I.list qa;obtain ⟨itsB,rB,pB,zB⟩:=I.list qb;obtain ⟨itsC,rC,pC,zC⟩:=I.list qc;have D:=DD hz hTI hTO h1 h2 h3 pA.isList pB.isList pC.isList;have lA:=rA.length;exact qyt (I.ok.hd hc) D hz hTI h1 pA.isList (by simp;omega) λh' hk=>⟨rfl,I.turnedL (t':=s.toks) (ch:=[z,TI,TO,i1,i2,i3]) hf λd o hd e=>hk d o (sub hd) e⟩
section
variable {X:Cx}
def qDk (K:Frag) (ta:TA):TI:=λσ H R=>ta σ H λvs H1=>∃ a b c xs ys us,vs=[.ref a,.ref b,.ref c]/\SqL K H1 a xs/\SqL K H1 b ys/\SqL K H1 c us/\R (It3 K a b c) H1
theorem vals3 {a b c:V} {us:List Value} (h:Vals [a,b,c] us):∃ u v x,us=[u,v,x]/\RelV a u/\RelV b v/\RelV c x:=by
 cases h with|cons r1 t=>cases t with|cons r2 t=>cases t with|cons r3 t=>cases t;exact ⟨_,_,_,rfl,r1,r2,r3⟩
theorem qyy {elts:List Expr} {ek:Nat} {epos:Pos} {e1 e2 e3:Expr} {ta:TA} {p pos:Pos} (hg:Gl X "zip") (hm:X.mg "zip" = none) (ha:PA X [e1,e2,e3] ta)
  (hs:starEach [e1,e2,e3] X.env=[(false,eval e1 X.env),(false,eval e2 X.env),(false,eval e3 X.env)]:=by rfl) (hs2:starEach [e2,e3] X.env=[(false,eval e2 X.env),(false,eval e3 X.env)]:=by rfl) :
  PI X (.Tuple elts ek epos) (.Call (.Name "zip" p) [e1,e2,e3] [] pos) (qDk X.K ta):=by
 intro pins s σ H R I h;refine Call_ (qjn I hg hm (show bootBuiltins "zip" = some (.type "zip") by decide +kernel) (Cf (thn (ha pos pins s σ H _ I h) λus s1 ⟨vs,H1,I1,r1,q1⟩=>?_) (by rw[hs,hs2]) (by rw[hs2];rfl)));obtain ⟨a,b,c,xs,ys,us',rfl,qa,qb,qc,q⟩:=q1;obtain ⟨u,u',u'',rfl,ru,ru',ru''⟩:=vals3 r1
 cases (show u=Value.ref a from ru)
 cases (show u'=Value.ref b from ru')
 cases (show u''=Value.ref c from ru'')
 obtain ⟨itsA,rA,pA,zA⟩:=I1.list qa;obtain ⟨itsB,rB,pB,zB⟩:=I1.list qb;obtain ⟨itsC,rC,pC,zC⟩:=I1.list qc;refine qs1 pA.isList pB.isList pC.isList λh' hz hTI hTO h1 h2 h3 hk=>Dg hz ?_
 refine ⟨s1.heap.objs.size+5,_,_,_,H1,rfl,I1.kept (t':=s1.toks) hk,qyx a b c _ (s1.heap.objs.size+3) (s1.heap.objs.size+4) s1.heap.objs.size (s1.heap.objs.size+1) (s1.heap.objs.size+2) (by simp) (by simp) (by simp) (by simp),⟨hz,hTI,⟨_,_,_,hTO⟩,h1,h2,h3⟩,λd hd=>?_,q⟩;have e:s1.heap.objs.size<=d:=by
  simp only[Ak,AF,Bu] at hd
  rcases hd with rfl|rfl|rfl|rfl|rfl|rfl
  ·exact BF _ _
  ·exact BF _ _
  ·exact BF _ _
  ·exact Ag _
  ·exact BF _ _
  ·exact BF _ _
 exact I1.fpOk e (I1.hok.fresh e)
end
theorem qvl {K:Frag} {a b c:Addr} {xs ys us:List V} {g:TG} {tb:TS} {D:Ends} {σ:St} {H:Hp} (Pv:Nat->St->Hp->Prop) (l1:xs.length<=ys.length) (l2:xs.length<=us.length) (h0:Pv 0 σ H) (hl:∀ i σ H,Pv i σ H->SqL K H a xs/\SqL K H b ys/\SqL K H c us)
  (hs:∀ i x y u σ H p,xs[i]?=some x->ys[i]?=some y->us[i]?=some u->H p=none->Pv i σ H->g (.ref p) σ (upd H p (.tup [x,y,u])) λσ2 H2=>tb { D with nx:=Pv (i+1),ct:=Pv (i+1),bk:=D.nx } σ2 H2)
  (hd:∀ σ H,Pv xs.length σ H->D.nx σ H) :
  ∃ W:Nat->Nat->St->Hp->Prop,(∃ m,W 0 m σ H)/\∀ i m σ H,W i m σ H ->
   ((It3 K a b c).stop i H/\D.nx σ H)\/((It3 K a b c).go i H/\∃ N:St->Hp->Prop,(∀ σ' H',N σ' H'->∃ m',m'<m/\W (i+1) m' σ' H')/\∀ x H',(It3 K a b c).yld i H x H'->g x σ H' λσ2 H2=>tb { D with nx:=N,ct:=N,bk:=D.nx } σ2 H2):=by
 refine ⟨λi m σ H=>m=xs.length-i/\i<=xs.length/\Pv i σ H,⟨xs.length,by simp,AW _,h0⟩,?_⟩;rintro i m σ H ⟨rfl,hi,p⟩;obtain ⟨qa,qb,qc⟩:=hl i σ H p
 by_cases ha:i<xs.length
 ·have hb:i<ys.length:=by omega
  have hc:i<us.length:=by omega
  have ea:xs[i]?=some xs[i]:=by simp[ha]
  have eb:ys[i]?=some ys[i]:=by simp[hb]
  have ec:us[i]?=some us[i]:=by simp[hc]
  refine .inr ⟨⟨xs,ys,us,xs[i],ys[i],us[i],qa,qb,qc,ea,eb,ec⟩,Pv (i+1),λσ' H' p'=>⟨xs.length-(i+1),by omega,rfl,ha,p'⟩,λx H' y=>?_⟩;obtain ⟨t,rfl,ht,y⟩:=y;rw[y xs ys us xs[i] ys[i] us[i] qa qb qc ea eb ec];exact hs i xs[i] ys[i] us[i] σ H t ea eb ec ht p
 ·have ei:i=xs.length:=by omega
  subst ei;exact .inl ⟨⟨xs,ys,us,qa,qb,qc,Ag _⟩,hd σ H p⟩
end L2
namespace TB
structure Good (ps:List (Int×Int)):Prop where
 lo:1<=ps.length
 hi:ps.length<=5
 each:∀ (i:Nat) p,ps[i]?=some p->0<=p.1/\1<=p.2
 next:∀ (i:Nat) p q,ps[i]?=some p->ps[i+1]?=some q->p.1<=q.1/\q.2 % p.2=0
def qs2 (g:Option Int) (last:Int):Prop:=∀ z,g=some z->last<=z
end TB
namespace TB
def cut (d a w:Int):Int:=(d-a) / w*w
def Bd (x:Int):Prop:=-(10 ^ 45)<x/\x<10 ^ 45
def qBi (ps:List (Int×Int)):Prop:=∀ (i:Nat) p,ps[i]?=some p->0<=p.1/\p.1<10 ^ 45/\1<=p.2/\p.2<10 ^ 45
theorem qyz {x w B:Int} (hw:1<=w) (hB:0<=B) (h1:-B<=x) (h2:x<B):-B<=x / w/\x / w<B:=by
 have hBw:B*1<=B*w:=D7 hw hB
 constructor
 ·refine Int.le_ediv_of_mul_le (by omega) ?_
  have:-B*w = -(B*w):=Int.neg_mul _ _;omega
 ·exact Fd (by omega) (by omega)
theorem qBj {d a w:Int} (hw:1<=w):cut d a w<=d-a:=by
 have h:=Fc (d-a) w;have h1:=Be (d-a) (show w≠0 by omega);unfold cut;rw[Cb] at h;omega
theorem qBk {d a w:Int} (hw:1<=w):d-a<cut d a w+w:=by
 have h:=Fc (d-a) w;have h1:=A8 (d-a) (show 0<w by omega);unfold cut;rw[Cb] at h;omega
theorem qwv {d a w:Int} (hd:Bd d) (ha:0<=a) (ha':a<10 ^ 45) (hw:1<=w) (hw':w<10 ^ 45):-(4*10 ^ 45)<cut d a w/\cut d a w<4*10 ^ 45:=by
 have h1:=qBj (d:=d) (a:=a) hw;have h2:=qBk (d:=d) (a:=a) hw;unfold Bd at hd;omega
theorem qvm {ps:List (Int×Int)} {p:Int×Int} (h:ps[ps.length-1]?=some p):ps.getLast?.getD (0,1)=p:=by
 rw[Et,h];rfl
end TB
namespace TB
open PySem L2
def PairAt (H:Hp) (v:V) (p:Int×Int):Prop:=∃ a,v=.ref a/\H a=some (.tup [.int p.1,.int p.2])
def Pairs (H:Hp) (xs:List V) (ps:List (Int×Int)):Prop:=Paired (PairAt H) xs ps
theorem PairAt.same {H H':Hp} (s:Same H H') {v:V} {p:Int×Int}:PairAt H v p->PairAt H' v p:=fun ⟨a,e,h⟩=>⟨a,e,s _ _ h⟩
def qs3 (H H':Hp):Prop:=∀ b xs,H b=some (.tup xs)->H' b=some (.tup xs)
theorem Same.tup {H H':Hp} (s:Same H H'):qs3 H H':=λb xs h=>s b _ h
theorem PairAt.tupS {H H':Hp} (s:qs3 H H') {v:V} {p:Int×Int}:PairAt H v p->PairAt H' v p:=fun ⟨a,e,h⟩=>⟨a,e,s _ _ h⟩
theorem Pairs.tupS {H H':Hp} (s:qs3 H H'):∀ {xs:List V} {ps:List (Int×Int)},Pairs H xs ps->Pairs H' xs ps
 | _,_,.nil=>.nil
 | _,_,.cons r t=>.cons (r.tupS s) (Pairs.tupS s t)
theorem Pairs.same {H H':Hp} (s:Same H H') {xs:List V} {ps:List (Int×Int)} (h:Pairs H xs ps):Pairs H' xs ps:=Pairs.tupS (Same.tup s) h
theorem Pairs.length {H:Hp}:∀ {xs:List V} {ps:List (Int×Int)},Pairs H xs ps->xs.length=ps.length
 | _,_,.nil=>rfl
 | _,_,.cons _ t=>by simp[Pairs.length t]
theorem Pairs.get {H:Hp}:∀ {xs:List V} {ps:List (Int×Int)} {i:Nat} {x:V},Pairs H xs ps->xs[i]?=some x->∃ p,ps[i]?=some p/\PairAt H x p
 | _,_,_,_,.nil,e=>by simp at e
 | _,_,0,_,.cons r _,e=>by simp at e;subst e;exact ⟨_,rfl,r⟩
 | _,_,i+1,x,.cons _ t,e=>by
  obtain ⟨u,h1,h2⟩:=Pairs.get (i:=i) (x:=x) t (by simpa using e);exact ⟨u,by simpa using h1,h2⟩
theorem Pairs.get' {H:Hp}:∀ {xs:List V} {ps:List (Int×Int)} {i:Nat} {p:Int×Int},Pairs H xs ps->ps[i]?=some p->∃ x,xs[i]?=some x/\PairAt H x p
 | _,_,_,_,.nil,e=>by simp at e
 | _,_,0,_,.cons r _,e=>by simp at e;subst e;exact ⟨_,rfl,r⟩
 | _,_,i+1,x,.cons _ t,e=>by
  obtain ⟨u,h1,h2⟩:=Pairs.get' (i:=i) (p:=x) t (by simpa using e);exact ⟨u,by simpa using h1,h2⟩
theorem Pairs.snoc {H:Hp} {v:V} {p:Int×Int} (r:PairAt H v p):∀ {xs:List V} {ps:List (Int×Int)},Pairs H xs ps->Pairs H (xs ++ [v]) (ps ++ [p])
 | _,_,.nil=>.cons r .nil
 | _,_,.cons q t=>.cons q (Pairs.snoc r t)
def qqk (p:Int×Int):PyData:=.tuple [.int p.1,.int p.2]
def qly (ps:List (Int×Int)):PyData:=.list (ps.map qqk)
theorem qs4:∀ ps:List (Int×Int),PyData.canLayAll0 (ps.map qqk)=true
 | []=>rfl
 | p :: r=>by simp[PyData.canLayAll0,qqk,PyData.canLay0,qs4 r]
theorem qh3 (ps:List (Int×Int)):(qly ps).canLay0=true:=by simp[qly,PyData.canLay0,qs4]
theorem qs5:∀ ps:List (Int×Int),PyData.depthAll (ps.map qqk)<=1
 | []=>by simp[PyData.depthAll]
 | p :: r=>by
  have:=qs5 r
  simp[PyData.depthAll,qqk,PyData.depth]
  omega
theorem qs6 (ps:List (Int×Int)):(qly ps).depth<=20:=by
 have:=qs5 ps
 simp[qly,PyData.depth];omega
theorem Pairs.reps {K:Frag} {H:Hp}:∀ {xs:List V} {ps:List (Int×Int)},Pairs H xs ps->qq6 K H xs (ps.map qqk)
 | _,_,.nil=>.nil
 | _,_,.cons ⟨a,e,h⟩ t=>by
  subst e;exact .cons (.tup (SqT.of h) (.cons (.int _) (.cons (.int _) .nil))) (Pairs.reps t)
theorem Pairs.rep {K:Frag} {H:Hp} {l:Addr} {xs:List V} {ps:List (Int×Int)} (h:H l=some (.lst xs)) (r:Pairs H xs ps):Rep K H (.ref l) (qly ps):=.lst (SqL.of h) r.reps
theorem qh4 {K:Frag} {H:Hp}:∀ ns:List Int,qq6 K H (ns.map V.int) (ns.map PyData.int)
 | []=>.nil
 | n :: r=>.cons (.int n) (qh4 r)
theorem qh5:∀ ns:List Int,PyData.canLayAll0 (ns.map PyData.int)=true
 | []=>rfl
 | n :: r=>by simp[PyData.canLayAll0,PyData.canLay0,qh5 r]
theorem qh6:∀ ns:List Int,PyData.depthAll (ns.map PyData.int)=0
 | []=>rfl
 | n :: r=>by simp[PyData.depthAll,PyData.depth,qh6 r]
def gv:Option Int->V
 | none=>.non
 | some i=>.int i
theorem qDl:¬ (("kept_steps" : Str) = "gone_age"):=by decide +kernel
def rf (l:Addr) (g:V):List (Str×V):=qfl "gone_age" g (qfl "kept_steps" (.ref l) [])
theorem qs7 (l:Addr) (g:V):(rf l g).lookup ("kept_steps" : Str)=some (.ref l):=by
 unfold rf;rw[qae,Ah qDl,qae,Al rfl]
theorem qDm (l:Addr) (g:V):(rf l g).lookup ("gone_age" : Str)=some g:=by
 unfold rf;rw[qae,Al rfl]
theorem qlz (l:Addr) (g:V) {m:Str} (h1:¬ m = "gone_age") (h2:¬ m = "kept_steps"):(rf l g).lookup m=none:=by
 unfold rf;rw[qae,Ah h1,qae,Ah h2]
 rfl
structure RuleAt (C:Addr) (H:Hp) (r l:Addr) (ps:List (Int×Int)) (g:Option Int):Prop where
 ob:∃ dx,H r=some (.ins C dx (rf l (gv g)))
 ls:∃ xs,H l=some (.lst xs)/\Pairs H xs ps
theorem RuleAt.same {C:Addr} {H H':Hp} {r l:Addr} {ps:List (Int×Int)} {g:Option Int} (s:Same H H') (h:RuleAt C H r l ps g):RuleAt C H' r l ps g:=
 ⟨let ⟨dx,e⟩:=h.ob;⟨dx,s _ _ e⟩,let ⟨xs,e,p⟩:=h.ls;⟨xs,s _ _ e,p.same s⟩⟩
theorem qh7 {xs:List V} {v:V} (h:xs[xs.length-1]?=some v):atI xs (-1)=some v:=by
 have hl:xs.length-1<xs.length:=(Ai.mp h).1;have e:ixN xs.length (-1)=some (xs.length-1):=by
  unfold ixN;rw[Ah (by decide),Al (by omega)]
  congr 1;omega
 unfold atI;rw[e];exact h
theorem qE0 (xs:List V):qhp xs (some 1) none=xs.drop 1:=by
 unfold qhp;rw[HT.sIx_none,show (some (1:Int))=some ((1:Nat):Int) from rfl,HT.sIx_nat]
 by_cases h:1<=xs.length
 ·rw[Eg h]
  exact Bh (by simp)
 ·have e:xs=[]:=by cases xs with|nil=>rfl|cons _ _=>simp at h
  subst e;rfl
def qnv:Sp:=λvs H Q _=>∃ x,vs=[x]/\((∃ i,x=.int i/\Q (.bl true) H))
def qql:Sp:=λvs H Q _=>∃ x p,vs=[x]/\PairAt H x p/\Q (.bl true) H
def qgf:Sp:=λvs H Q _=>∃ x p,vs=[x]/\PairAt H x p/\0<=p.1/\1<=p.2/\Q .non H
inductive qc8 (vs:List V) (H:Hp) (Q:VK) (E_:XK):Prop
 | mk:∀ x y p q,vs=[x,y]->PairAt H x p->PairAt H y q->1<=p.2->p.1<=q.1->q.2 % p.2=0->Q .non H->qc8 vs H Q E_
def qku:Sp:=λvs H Q _=>∃ g last,vs=[gv g,.int last]/\qs2 g last/\Q .non H
inductive qs8 (C:Addr) (vs:List V) (H:Hp) (Q:VK) (E_:XK):Prop
 | mk:∀ r l ps g,vs=[.ref r]->RuleAt C H r l ps g->Q (gv g) H->qs8 C vs H Q E_
def qww (K:Frag):Sp:=λvs H Q _=>∃ (a:Addr) (ns:List Int),vs=[.ref a]/\SqL K H a (ns.map V.int)/\ns.length<=63/\∀ H',Q (.bl true) H'
open PySem L2
theorem New.after {H H1 H2:Hp} {p:Addr} {o:HO} (s:Same H H1) (n:New H1 H2 p o):New H H2 p o:=⟨s.trans n.same,s.free n.fresh,n.at_⟩
def lw (ps:List (Int×Int)):Int:=(ps.getLast?.getD (0,1)).2
def eV (ps:List (Int×Int)) (g:Option Int) (d:Int):List V:=(ps.map λp=>V.int (cut d p.1 p.2)) ++ [gv (g.map λz=>cut d z (lw ps))]
def GBd (g:Option Int):Prop:=∀ z,g=some z->0<=z/\z<10 ^ 45
structure Pr (ps:List (Int×Int)) (g:Option Int):Prop where
 good:Good ps
 size:qBi ps
 gone:∀ p,ps[ps.length-1]?=some p->qs2 g p.1
 gb:GBd g
theorem Pr.last {ps:List (Int×Int)} {g:Option Int} (P:Pr ps g):∃ p,ps[ps.length-1]?=some p/\lw ps=p.2:=by
 have hl:=P.good.lo;refine ⟨ps[ps.length-1]'(by omega),Ad _,?_⟩;unfold lw;rw[qvm (Ad _)]
theorem Pairs.but {H H':Hp} {m:Addr} {o:HO} {xs:List V} {ps:List (Int×Int)} (h:Pairs H xs ps) (b:But m H H') (hm:H m=some o) (nt:∀ xs,o≠.tup xs):Pairs H' xs ps:=h.tupS (b.tup hm nt)
theorem qs9 {xs:List V}:∀ ys,(HO.lst xs)≠.tup ys:=λ_ z=>by cases z
theorem qc9 {C dx:Addr} {fs:List (Str×V)}:∀ ys,(HO.ins C dx fs)≠.tup ys:=λ_ z=>by cases z
inductive ql0 (C:Addr) (vs:List V) (H:Hp) (Q:VK) (E_:XK):Prop
 | mk:∀ r l ps g xs,vs=[.ref r]->RuleAt C H r l ps g->H l=some (.lst xs)->(∀ p H',New H H' p (.lst xs)->Q (.ref p) H')->ql0 C vs H Q E_
def qqm:Sp:=λvs H Q _=>∃ n w,vs=[.int n,.int w]/\1<=w/\w<10 ^ 45 /\ -(10 ^ 46)<=n/\n<10 ^ 46/\Q (.int (n / w*w)) H
inductive qh8 (C:Addr) (vs:List V) (H:Hp) (Q:VK) (E_:XK):Prop
 | mk:∀ r l ps g d,vs=[.ref r,.int d]->RuleAt C H r l ps g->Pr ps g->Bd d->(∀ H',Same H H'->Q (gv (g.map λz=>cut d z (lw ps))) H')->qh8 C vs H Q E_
inductive qh9 (C:Addr) (vs:List V) (H:Hp) (Q:VK) (E_:XK):Prop
 | mk:∀ r l ps g d,vs=[.ref r,.int d]->RuleAt C H r l ps g->Pr ps g->Bd d->(∀ p H',New H H' p (.lst (eV ps g d))->Q (.ref p) H')->qh9 C vs H Q E_
def dV:V->PyData
 | .int i=>.int i
 | _=>.none
def Ed (v:V):Prop:=v=.non\/∃ i,v=.int i
theorem qia {K:Frag} {H:Hp}:∀ {vs:List V},(∀ v∈vs,Ed v)->qq6 K H vs (vs.map dV)
 | [],_=>.nil
 | v :: r,h=>by
  refine .cons ?_ (qia λu hu=>h u (Ap _ hu))
  rcases h v Au with e|⟨i,e⟩
  ·subst e;exact .non
  ·subst e;exact .int i
theorem qwx:∀ vs:List V,PyData.canLayAll0 (vs.map dV)=true
 | []=>rfl
 | v :: r=>by
  have:(dV v).canLay0=true:=by cases v<;>rfl
  simp[PyData.canLayAll0,this,qwx r]
theorem ed_lay' (vs:List V):(PyData.list (vs.map dV)).canLay0=true:=by simp[PyData.canLay0,qwx]
theorem qCg {α β:Type} (f:α->β) (xs:List α) (i:Nat) (x:α) (h:xs[i]?=some x):(xs.take (i+1)).map f=(xs.take i).map f ++ [f x]:=by
 rw[DA,h]
 simp
open PySem L2
end TB
namespace TB
def mc (p e:Int×Int):Int:=(e.1-p.1+e.2-1) / p.2
open PySem L2
theorem qan {i:Nat} {v:V} {σ:St} {H:Hp} {K:St->Hp->Prop} (h:K (σ.set i (some v)) H):qd7 i v σ H K:=h
theorem qy0 {K:Frag} {a b:Addr} {xs ys:List V} {g:TG} {tc:TT} {te:TE} {Q:VK} {σ:St} {H:Hp} (Pv:Nat->List V->Hp->Prop) (hz:xs.length<=sizeLine) (h0:Pv 0 [] H) (hl:∀ i zs H,Pv i zs H->SqL K H a xs/\SqL K H b ys/\zs.length<=i)
  (hs:∀ i x y zs H p H',xs[i]?=some x->ys[i]?=some y->New H H' p (.tup [x,y])->Pv i zs H->g (.ref p) σ H' λσ4 H4=>tc σ4 H4 λb H5=>if b=true then te σ4 H5 λv H6=>Pv (i+1) (zs ++ [v]) H6 else Pv (i+1) zs H5)
  (hd:∀ i zs H p H',i=min xs.length ys.length->Pv i zs H->New H H' p (.lst zs)->Q (.ref p) H'):qfp (Itz K a b) Q g tc te σ H:=
 qwj Pv hz h0 hl (λi x y zs H p e1 e2 hn p'=>hs i x y zs H p _ e1 e2 (qbb hn) p') λi zs H p e p' hp=>hd i zs H p _ e p' (qbb hp)
theorem qib {lo:Int} {n:Nat} {g:TG} {tc:TT} {te:TE} {Q:VK} {σ:St} {H:Hp} (Pv:Nat->List V->Hp->Prop) (hz:n<=sizeLine) (h0:Pv 0 [] H) (hl:∀ i ys H,Pv i ys H->ys.length<=i)
  (hs:∀ i ys H,i<n->Pv i ys H->g (.int (lo+i)) σ H λσ4 H4=>tc σ4 H4 λb H5=>if b=true then te σ4 H5 λv H6=>Pv (i+1) (ys ++ [v]) H6 else Pv (i+1) ys H5)
  (hd:∀ ys H p H',Pv n ys H->New H H' p (.lst ys)->Q (.ref p) H'):qfp (Itr lo n) Q g tc te σ H:=
 qu8 Pv hz h0 hl hs λys H p p' hp=>hd ys H p _ p' (qbb hp)
open PySem L2
end TB
namespace TB
open PySem L2
def gE:V->V->V
 | .non,y=>y
 | .int i,.int j=>.int (if j>i then j else i)
 | x,_=>x
theorem qy1 {x y:V} (hx:Ed x) (hy:Ed y):gE x y=gE y x:=by
 rcases hx with rfl|⟨i,rfl⟩<;>rcases hy with rfl|⟨j,rfl⟩<;>try rfl
 simp only[gE]
 congr 1
 split<;>split<;>omega
theorem qo9:∀ {xs ys:List V},(∀ v∈xs,Ed v)->(∀ v∈ys,Ed v)->List.zipWith gE xs ys=List.zipWith gE ys xs
 | [],ys,_,_=>by simp
 | x :: xs,[],_,_=>rfl
 | x :: xs,y :: ys,h1,h2=>by
  simp only[Dq];rw[qy1 (h1 x Au) (h2 y Au),qo9 (λv hv=>h1 v (Ap _ hv)) λv hv=>h2 v (Ap _ hv)]
theorem zip_get {xs ys:List V} {i:Nat} {x y:V} (h1:xs[i]?=some x) (h2:ys[i]?=some y):(List.zipWith gE xs ys)[i]?=some (gE x y):=by
 rw[Fb,h1,h2]
theorem qkv {α:Type} (xs:List α) (i:Nat) (x:α) (h:xs[i]?=some x):xs.take (i+1)=xs.take i ++ [x]:=by
 rw[DA,h];rfl
def qic:Sp:=λvs H Q _=>∃ x y,vs=[x,y]/\Ed x/\Ed y/\Q (gE x y) H
theorem qDn (g:Option Int):Ed (gv g):=by cases g with
 | none=>exact .inl rfl
 | some z=>exact .inr ⟨z,rfl⟩
def qD4 (v:V):Bool:=!decide (v=V.non)
open PySem L2
def EB (x:Int):Prop:=-(4*10 ^ 45)<x/\x<4*10 ^ 45
structure EdS (EV:List V) (es:List Int) (ge:Option Int):Prop where
 eq:EV=es.map V.int ++ [gv ge]
 bd:∀ x∈es,EB x
 gb:∀ z,ge=some z->EB z
theorem EdS.ed {EV:List V} {es:List Int} {ge:Option Int} (h:EdS EV es ge):∀ v∈EV,Ed v:=by
 intro v hv;rw[h.eq] at hv
 rcases AA.mp hv with z|z
 ·obtain ⟨i,_,e⟩:=Af.mp z;exact .inr ⟨i,e.symm⟩
 ·rw[Aj.mp z];exact qDn ge
theorem EdS.of {ps:List (Int×Int)} {g:Option Int} {d:Int} (P:Pr ps g) (hd:Bd d):EdS (eV ps g d) (ps.map λp=>cut d p.1 p.2) (g.map λz=>cut d z (lw ps)):=by
 refine ⟨by unfold eV;rw[AI];rfl,λx hx=>?_,λz hz=>?_⟩
 ·obtain ⟨p,hp,rfl⟩:=Af.mp hx
  obtain ⟨i,hi,e⟩:=AZ hp;have hs:=P.size i p (by rw[<- e];exact Ad hi);exact qwv hd hs.1 hs.2.1 hs.2.2.1 hs.2.2.2
 ·cases g with
  | none=>cases hz
  | some y =>
   cases hz;obtain ⟨p,hp,ep⟩:=P.last;have hs:=P.size _ p hp;have hg:=P.gb y rfl;rw[ep];exact qwv hd hg.1 hg.2 hs.2.2.1 hs.2.2.2
def qy2:Option Int->Option Int->Option Int
 | none,y=>y
 | some i,some j=>some (if j>i then j else i)
 | x,none=>x
theorem qDo (x y:Option Int):gE (gv x) (gv y)=gv (qy2 x y):=by cases x<;>cases y<;>rfl
theorem EdS.max {E1 E2:List V} {a b:List Int} {g1 g2:Option Int} (h1:EdS E1 a g1) (h2:EdS E2 b g2) (hl:a.length=b.length):EdS (List.zipWith gE E1 E2) (List.zipWith (λi j=>if j>i then j else i) a b) (qy2 g1 g2):=by
 refine ⟨?_,λx hx=>?_,λz hz=>?_⟩
 ·rw[h1.eq,h2.eq,List.zipWith_append (by simpa using hl)]
  congr 1
  ·rw[List.zipWith_map_left,List.zipWith_map_right,List.map_zipWith];rfl
  ·show [gE (gv g1) (gv g2)]=_
   rw[qDo]
 ·obtain ⟨i,hi,e⟩:=AZ hx
  have hi':=hi;rw[BI] at hi';have hia:i<a.length:=by omega
  have hib:i<b.length:=by omega
  rw[List.getElem_zipWith] at e;have e1:=h1.bd a[i] (DY _);have e2:=h2.bd b[i] (DY _);rw[<- e]
  split
  ·exact e2
  ·exact e1
 ·cases g1 with
  | none=>exact h2.gb z hz
  | some i =>
   cases g2 with
   | none=>exact h1.gb z hz
   | some j =>
    have e1:=h1.gb i rfl;have e2:=h2.gb j rfl;simp only[qy2,Option.some.injEq] at hz;rw[<- hz]
    split
    ·exact e2
    ·exact e1
def wl (ws es:List Int) (t:Int):List Int:=((ws.zip es).filter λx=>decide (t<x.2)).map (·.1)
def qck (ge:Option Int) (t:Int):Prop:=∃ z,ge=some z/\t<z
def CellOf (ws es:List Int) (ge:Option Int) (t:Int) (o:Option (Int×Int)):Prop:=
 (∀ e0,es[0]?=some e0->(e0<=t->o=some (t,0))/\(t<e0->(qck ge t->o=none)/\(¬ qck ge t->∃ w,(wl ws es t)[(wl ws es t).length-1]?=some w/\o=some (t / w*w,w))))
theorem qBl {ws es:List Int} {t w0 e0:Int} (h1:ws[0]?=some w0) (h2:es[0]?=some e0) (h:t<e0):1<=(wl ws es t).length:=by
 cases ws with
 | nil=>simp at h1
 | cons w r =>
  cases es with
  | nil=>simp at h2
  | cons e s =>
   simp at h2
   subst h2;unfold wl;rw[C5,CC (by simpa using h)]
   simp
theorem qta {ws es:List Int} {t w:Int} (h:w∈wl ws es t):w∈ws:=by
 unfold wl at h;obtain ⟨x,hx,rfl⟩:=Af.mp h;exact (CV (Eh.mp hx).1).1
theorem qE1 {ws es:List Int} {t:Int} {i:Nat} {w e:Int} (h1:ws[i]?=some w) (h2:es[i]?=some e) (h:t<e):((((ws.zip es).take (i+1)).filter λx=>decide (t<x.2)).map (·.1))=((((ws.zip es).take i).filter λx=>decide (t<x.2)).map (·.1)) ++ [w]:=by
 have hz:(ws.zip es)[i]?=some (w,e):=by rw[Eu];exact ⟨h1,h2⟩
 rw[qkv _ i _ hz,Cy,AB]
 simp[h]
theorem qE2 {ws es:List Int} {t:Int} {i:Nat} {w e:Int} (h1:ws[i]?=some w) (h2:es[i]?=some e) (h:¬ t<e):((((ws.zip es).take (i+1)).filter λx=>decide (t<x.2)).map (·.1))=((((ws.zip es).take i).filter λx=>decide (t<x.2)).map (·.1)):=by
 have hz:(ws.zip es)[i]?=some (w,e):=by rw[Eu];exact ⟨h1,h2⟩
 rw[qkv _ i _ hz,Cy,AB]
 simp[h]
theorem qBm {ws es:List Int} {t:Int} {i:Nat} (h:(ws.zip es).length<=i):((((ws.zip es).take i).filter λx=>decide (t<x.2)).map (·.1))=wl ws es t:=by
 rw[Bh h];rfl
theorem qBn (ws es:List Int) (t:Int) (i:Nat):((((ws.zip es).take i).filter λx=>decide (t<x.2)).map (·.1)).length<=i:=by
 rw[Ac];exact AR (E9 _ _) (by rw[As];omega)
def qBo (H:Hp) (v:V) (o:Option (Int×Int)):Prop:=match o with
 | none=>v=.non
 | some p=>PairAt H v p
theorem CellOf.uniq {ws es:List Int} {ge:Option Int} {t:Int} {o o':Option (Int×Int)} {e0:Int} (h0:es[0]?=some e0) (h:CellOf ws es ge t o) (h':CellOf ws es ge t o'):o=o':=by
 obtain ⟨a1,a2⟩:=h e0 h0;obtain ⟨b1,b2⟩:=h' e0 h0
 by_cases hc:e0<=t
 ·rw[a1 hc,b1 hc]
 ·have hlt:t<e0:=by omega
  by_cases hg:qck ge t
  ·rw[(a2 hlt).1 hg,(b2 hlt).1 hg]
  ·obtain ⟨w,hw,rfl⟩:=(a2 hlt).2 hg
   obtain ⟨w',hw',rfl⟩:=(b2 hlt).2 hg;rw[hw] at hw'
   cases hw'
   rfl
inductive qjs (vs:List V) (H:Hp) (Q:VK) (E_:XK):Prop
 | mk:∀ (e:Addr) (es:List Int) (ge:Option Int) (t:Int),vs=[.ref e,.int t]->H e=some (.lst (es.map V.int ++ [gv ge]))->(qck ge t->Q (.bl true) H)->(¬ qck ge t->Q (.bl false) H)->qjs vs H Q E_
inductive qid (C:Addr) (vs:List V) (H:Hp) (Q:VK) (E_:XK):Prop
 | mk:∀ (r l:Addr) (ps:List (Int×Int)) (g:Option Int) (e:Addr) (es:List Int) (ge:Option Int) (t e0:Int),vs=[.ref r,.ref e,.int t]->RuleAt C H r l ps g->H e=some (.lst (es.map V.int ++ [gv ge]))->es.length=ps.length->1<=ps.length->ps.length<=5->es[0]?=some e0->t<e0->(∀ w H',(wl (ps.map (·.2)) es t)[(wl (ps.map (·.2)) es t).length-1]?=some w->Same H H'->Q (.int w) H')->qid C vs H Q E_
def qnw (t:Int):Prop:=-(10 ^ 46)<=t/\t<10 ^ 46
inductive qjt (C:Addr) (vs:List V) (H:Hp) (Q:VK) (E_:XK):Prop
 | mk:∀ (r l:Addr) (ps:List (Int×Int)) (g:Option Int) (e:Addr) (es:List Int) (ge:Option Int) (t:Int),vs=[.ref r,.ref e,.int t]->RuleAt C H r l ps g->H e=some (.lst (es.map V.int ++ [gv ge]))->es.length=ps.length->1<=ps.length->ps.length<=5->qBi ps->qnw t->(∀ v o H',CellOf (ps.map (·.2)) es ge t o->qBo H' v o->Same H H'->Q v H')->qjt C vs H Q E_
inductive qtb (vs:List V) (H:Hp) (Q:VK) (E_:XK):Prop
 | mk:∀ (l:Addr) (xs:List V) (ps:List (Int×Int)) (g:Option Int) (d:Int),vs=[.ref l,gv g,.int d]->H l=some (.lst xs)->Pairs H xs ps->Pr ps g->Bd d->(∀ p H',New H H' p (.lst (eV ps g d))->Q (.ref p) H')->qtb vs H Q E_
inductive qfc (vs:List V) (H:Hp) (Q:VK) (E_:XK):Prop
 | mk:∀ (a b:Addr) (xs ys:List V),vs=[.ref a,.ref b]->H a=some (.lst xs)->H b=some (.lst ys)->(∀ v∈xs,Ed v)->(∀ v∈ys,Ed v)->xs.length=ys.length->xs.length<=1000->(∀ p H',New H H' p (.lst (List.zipWith gE xs ys))->Q (.ref p) H')->qfc vs H Q E_
theorem CellOf.a {ws es:List Int} {ge:Option Int} {t e0:Int} (h0:es[0]?=some e0) (h:e0<=t):CellOf ws es ge t (some (t,0)):=λx hx=>by
 rw[h0] at hx;cases hx;exact ⟨λ_=>rfl,λh'=>absurd h (by omega)⟩
theorem CellOf.b {ws es:List Int} {ge:Option Int} {t e0:Int} (h0:es[0]?=some e0) (h:t<e0) (hg:qck ge t):CellOf ws es ge t none:=λx hx=>by
 rw[h0] at hx;cases hx;exact ⟨λh'=>absurd h (by omega),λ_=>⟨λ_=>rfl,λn=>absurd hg n⟩⟩
theorem CellOf.c {ws es:List Int} {ge:Option Int} {t e0 w:Int} (h0:es[0]?=some e0) (h:t<e0) (hg:¬ qck ge t) (hw:(wl ws es t)[(wl ws es t).length-1]?=some w):CellOf ws es ge t (some (t / w*w,w)):=λx hx=>by
 rw[h0] at hx;cases hx;exact ⟨λh'=>absurd h (by omega),λ_=>⟨λn=>absurd n hg,λ_=>⟨w,hw,rfl⟩⟩⟩
theorem qie {K:Frag} {H H':Hp} {a:Addr} {xs:List V} (s:Same H H') (h:SqL K H a xs):SqL K H' a xs:=by
 rcases h with (h|⟨o,h⟩)|h
 ·exact .inl (.inl (s _ _ h))
 ·exact .inl (.inr ⟨o,s _ _ h⟩)
 ·exact .inr h
theorem ql1:∀ es:List Int,(es.map V.int).filter qD4=es.map V.int
 | []=>rfl
 | e :: r=>by rw[Aw,CC (by rfl),ql1 r]
theorem known (es:List Int) (ge:Option Int):(es.map V.int ++ [gv ge]).filter qD4=(es ++ ge.toList).map V.int:=by
 rw[Cy,ql1,AB]
 cases ge<;>rfl
theorem qcy {K:Frag} {a:Addr} {xs:List V} {g:TG} {tc:TT} {te:TE} {Q:VK} {σ:St} {H:Hp} (Pv:Nat->List V->Hp->Prop) (hz:xs.length<=sizeLine) (h0:Pv 0 [] H) (hl:∀ i ys H,Pv i ys H->SqL K H a xs/\ys.length<=i)
  (hs:∀ i x ys H,xs[i]?=some x->Pv i ys H->g x σ H λσ4 H4=>tc σ4 H4 λb H5=>if b=true then te σ4 H5 λv H6=>Pv (i+1) (ys ++ [v]) H6 else Pv (i+1) ys H5)
  (hd:∀ ys H p H',Pv xs.length ys H->New H H' p (.lst ys)->Q (.ref p) H'):qfp (Itl K a) Q g tc te σ H:=
 qr5 Pv hz h0 hl hs λys H p p' hp=>hd ys H p _ p' (qbb hp)
open PySem L2
def quk (rs:List (Int×Int)):List Int:=rs.map λp=>p.1
def qD5 (rs:List (Int×Int)):List Int:=rs.map λp=>p.2
def qD6 (rs:List (Int×Int)):List Int:=rs.map λp=>p.1*p.2
def rN (rs:List (Int×Int)):Int:=(qD5 rs).sum
def rT (rs:List (Int×Int)):Int:=(qD6 rs).sum
structure qpa (rs:List (Int×Int)) (vm vt vl vg:Int):Prop where
 m:vm=rN rs
 t:vt=rT rs
 lo:vl∈quk rs
 lo':∀ a∈quk rs,vl<=a
 hi:vg∈quk rs
 hi':∀ a∈quk rs,a<=vg
def dTup (ns:List Int):PyData:=.tuple (ns.map PyData.int)
theorem qy3 (ns:List Int):(dTup ns).canLay0=true:=by simp[dTup,PyData.canLay0,qh5]
theorem qy4 {K:Frag} {H:Hp} {a:Addr} {ns:List Int} (h:H a=some (.tup (ns.map V.int))):Rep K H (.ref a) (dTup ns):=.tup (SqT.of h) (qh4 ns)
theorem qy5 (xs:List V) (k:Nat) (h:k<=xs.length):qhp xs none (some (k:Int))=xs.take k:=by
 unfold qhp;rw[HT.sIx_none,HT.sIx_nat,Eg h]
 simp
theorem qy6 (xs:List V) (k:Nat) (h:k<=xs.length):qhp xs (some (k:Int)) none=xs.drop k:=by
 unfold qhp;rw[HT.sIx_none,HT.sIx_nat,Eg h];exact Bh (by simp)
theorem mapN' (f:Int×Int->Int) (rs:List (Int×Int)) {i:Nat} {p:Int×Int} (h:rs[i]?=some p):((rs.take (i+1)).map f).map V.int=((rs.take i).map f).map V.int ++ [V.int (f p)]:=by
 rw[DA,h]
 simp
theorem qhk {K:Frag} {l:Addr} {xs:List V} {rs:List (Int×Int)} {te:TE} {Q:VK} {σ:St} {H:Hp} (f:Int×Int->Int) (hl:H l=some (.lst xs)) (hp:Pairs H xs rs) (hz:rs.length<=200)
  (hs:∀ p∈rs,∀ Q':VK,Q' (.int (f p)) H->te ((σ.set 0 (some (.int p.1))).set 1 (some (.int p.2))) H Q')
  (hd:∀ a H',New H H' a (.lst ((rs.map f).map V.int))->Q (.ref a) H'):qfp (Itl K l) Q (qxh K 2 (qd4 (qd7 0) (qd4 (qd7 1) qxg))) qC6 te σ H:=by
 have hlen:=hp.length;refine qcy (xs:=xs) (λi ys H2=>H2=H/\ys=((rs.take i).map f).map V.int) (Bn (qao (by omega))) ⟨rfl,rfl⟩ (λi ys H2 h2=>⟨SqL.of (by rw[h2.1];exact hl),by rw[h2.2];simp;omega⟩) ?_ ?_
 ·rintro i x ys H2 hi ⟨rfl,rfl⟩
  obtain ⟨p,hpi,a,rfl,ha⟩:=hp.get hi;refine ⟨a,_,rfl,SqT.of ha,rfl,_,_,rfl,_,_,rfl,rfl,qop (qc6 ?_)⟩;refine hs p (An hpi) _ ⟨rfl,?_⟩;rw[mapN' f rs hpi]
 ·rintro ys H2 a H' ⟨rfl,rfl⟩ n
  rw[hlen,AL] at n;exact hd a H' n
inductive ql2 (vs:List V) (H:Hp) (Q:VK) (E_:XK):Prop
 | mk:∀ a b m t lo hi m' t' lo' hi',vs=[.ref a,.ref b]->H a=some (.tup [.int m,.int t,.int lo,.int hi])->H b=some (.tup [.int m',.int t',.int lo',.int hi'])->(∀ p H',New H H' p (.tup [.int (m+m'),.int (t+t'),.int (if lo'<lo then lo' else lo),.int (if hi'>hi then hi' else hi)])->Q (.ref p) H')->ql2 vs H Q E_
open PySem L2
def rof (ru:Addr) (day:Int) (le dy dh:Addr):List (Str×V):=qfl "cell_heaps" (.ref dh) (qfl "whole_ones" (.ref dy) (qfl "kept_edges" (.ref le) (qfl "kept_day" (.int day) (qfl "kept_rule" (.ref ru) []))))
section
variable (ru:Addr) (day:Int) (le dy dh:Addr)
theorem qtc:(rof ru day le dy dh).lookup ("kept_rule" : Str)=some (.ref ru):=by
 unfold rof;rw[qae,Ah (by decide +kernel),qae,Ah (by decide +kernel),qae,Ah (by decide +kernel),qae,Ah (by decide +kernel),qae,Al rfl]
theorem qBp:(rof ru day le dy dh).lookup ("kept_day" : Str)=some (.int day):=by
 unfold rof;rw[qae,Ah (by decide +kernel),qae,Ah (by decide +kernel),qae,Ah (by decide +kernel),qae,Al rfl]
theorem qpb:(rof ru day le dy dh).lookup ("kept_edges" : Str)=some (.ref le):=by
 unfold rof;rw[qae,Ah (by decide +kernel),qae,Ah (by decide +kernel),qae,Al rfl]
theorem qpc:(rof ru day le dy dh).lookup ("whole_ones" : Str)=some (.ref dy):=by
 unfold rof;rw[qae,Ah (by decide +kernel),qae,Al rfl]
theorem qju:(rof ru day le dy dh).lookup ("cell_heaps" : Str)=some (.ref dh):=by
 unfold rof;rw[qae,Al rfl]
theorem qe1 {m:Str} (h1:¬ m = "cell_heaps") (h2:¬ m = "whole_ones") (h3:¬ m = "kept_edges") (h4:¬ m = "kept_day") (h5:¬ m = "kept_rule"):(rof ru day le dy dh).lookup m=none:=by
 unfold rof;rw[qae,Ah h1,qae,Ah h2,qae,Ah h3,qae,Ah h4,qae,Ah h5];rfl
theorem qkw:(rof ru day le dy dh).lookup ("put" : Str)=none:=qe1 _ _ _ _ _ (by decide +kernel) (by decide +kernel) (by decide +kernel) (by decide +kernel) (by decide +kernel)
theorem qpd:(rof ru day le dy dh).lookup ("pour_into_cell" : Str)=none:=qe1 _ _ _ _ _ (by decide +kernel) (by decide +kernel) (by decide +kernel) (by decide +kernel) (by decide +kernel)
theorem qpe:(rof ru day le dy dh).lookup ("rule" : Str)=none:=qe1 _ _ _ _ _ (by decide +kernel) (by decide +kernel) (by decide +kernel) (by decide +kernel) (by decide +kernel)
theorem qtd:(rof ru day le dy dh).lookup ("day" : Str)=none:=qe1 _ _ _ _ _ (by decide +kernel) (by decide +kernel) (by decide +kernel) (by decide +kernel) (by decide +kernel)
theorem qif:(rof ru day le dy dh).lookup ("edges" : Str)=none:=qe1 _ _ _ _ _ (by decide +kernel) (by decide +kernel) (by decide +kernel) (by decide +kernel) (by decide +kernel)
theorem qfs:(rof ru day le dy dh).lookup ("young" : Str)=none:=qe1 _ _ _ _ _ (by decide +kernel) (by decide +kernel) (by decide +kernel) (by decide +kernel) (by decide +kernel)
theorem qft:(rof ru day le dy dh).lookup ("heaps" : Str)=none:=qe1 _ _ _ _ _ (by decide +kernel) (by decide +kernel) (by decide +kernel) (by decide +kernel) (by decide +kernel)
end
abbrev KV:=List (List Key×V)
structure qar where
 ru:Addr
 rl:Addr
 le:Addr
 dy:Addr
 dh:Addr
 ps:List (Int×Int)
 g:Option Int
 day:Int
 es:List Int
 ge:Option Int
 Y:KV
 Z:KV
structure RollAt (C R:Addr) (H:Hp) (ro:Addr) (D:qar):Prop where
 ob:∃ dx,H ro=some (.ins C dx (rof D.ru D.day D.le D.dy D.dh))
 rule:RuleAt R H D.ru D.rl D.ps D.g
 ed:H D.le=some (.lst (D.es.map V.int ++ [gv D.ge]))
 yo:H D.dy=some (.dT D.Y)
 he:H D.dh=some (.dT D.Z)
 ne:D.dy≠D.dh
theorem RollAt.same {C R:Addr} {H H':Hp} {ro:Addr} {D:qar} (s:Same H H') (h:RollAt C R H ro D):RollAt C R H' ro D:=
 ⟨let ⟨dx,e⟩:=h.ob;⟨dx,s _ _ e⟩,h.rule.same s,s _ _ h.ed,s _ _ h.yo,s _ _ h.he,h.ne⟩
theorem qBq {kvs:KV}:∀ xs,HO.dT kvs≠.tup xs:=λ_ z=>by cases z
theorem RuleAt.but2 {C:Addr} {H H':Hp} {r l a:Addr} {ps:List (Int×Int)} {g:Option Int} {o:HO} (h:RuleAt C H r l ps g) (b:But a H H') (ha:H a=some o) (nt:∀ xs,o≠.tup xs) (nl:∀ xs,o≠.lst xs) (hr:r≠a):RuleAt C H' r l ps g:=by
 obtain ⟨dx,e⟩:=h.ob;obtain ⟨xs,e2,p⟩:=h.ls;exact ⟨⟨dx,b _ _ e hr⟩,xs,b _ _ e2 (qaq e2 ha (λz=>nl xs z.symm)),p.but b ha nt⟩
theorem RollAt.putY {C R:Addr} {H H':Hp} {ro:Addr} {D:qar} {Y':KV} (A:RollAt C R H ro D) (b:But D.dy H H') (h:H' D.dy=some (.dT Y')):RollAt C R H' ro { D with Y:=Y' }:=by
 obtain ⟨dx,e⟩:=A.ob;obtain ⟨dx2,e2⟩:=A.rule.ob;exact ⟨⟨dx,b _ _ e (qaq e A.yo (by intro z;cases z))⟩,A.rule.but2 b A.yo qBq (by intro xs z;cases z) (qaq e2 A.yo (by intro z;cases z)),b _ _ A.ed (qaq A.ed A.yo (by intro z;cases z)),h,b _ _ A.he A.ne.symm,A.ne⟩
theorem RollAt.putZ {C R:Addr} {H H':Hp} {ro:Addr} {D:qar} {Z':KV} (A:RollAt C R H ro D) (b:But D.dh H H') (h:H' D.dh=some (.dT Z')):RollAt C R H' ro { D with Z:=Z' }:=by
 obtain ⟨dx,e⟩:=A.ob;obtain ⟨dx2,e2⟩:=A.rule.ob;exact ⟨⟨dx,b _ _ e (qaq e A.he (by intro z;cases z))⟩,A.rule.but2 b A.he qBq (by intro xs z;cases z) (qaq e2 A.he (by intro z;cases z)),b _ _ A.ed (qaq A.ed A.he (by intro z;cases z)),b _ _ A.yo A.ne,h,A.ne⟩
def But2 (a b:Addr) (H H':Hp):Prop:=∀ c o,H c=some o->c≠a->c≠b->H' c=some o
structure qdl (D:qar):Prop where
 pr:Pr D.ps D.g
 es:D.es.length=D.ps.length
def newD (ru rl le dy dh:Addr) (ps:List (Int×Int)) (g:Option Int) (day:Int):qar:=⟨ru,rl,le,dy,dh,ps,g,day,ps.map (λp=>cut day p.1 p.2),g.map (λz=>cut day z (lw ps)),[],[]⟩
def YOk (Y:KV):Prop:=∀ k x,qcq Y k=some x->∃ n,x=V.int n
def ZOk (H:Hp) (Z:KV):Prop:=∀ k x,qcq Z k=some x->∃ (h:Addr) (m t lo hi:Int),x=.ref h/\H h=some (.tup [.int m,.int t,.int lo,.int hi])
theorem ZOk.same {H H':Hp} {Z:KV} (s:Same H H') (h:ZOk H Z):ZOk H' Z:=λk x e=>by
 obtain ⟨a,m,t,lo,hi,e1,e2⟩:=h k x e;exact ⟨a,m,t,lo,hi,e1,s _ _ e2⟩
def yv (Y:KV) (k:List Key):Int:=match qcq Y k with
 | some (.int n)=>n
 | _=>0
def kk (a b:Int):List Key:=[.inl a,.inl b]
theorem qBr {Y:KV} (h:YOk Y) (k:List Key):(qcq Y k).getD (V.int 0)=V.int (yv Y k):=by
 unfold yv
 cases e:qcq Y k with
 | none=>rfl
 | some x =>
  obtain ⟨n,rfl⟩:=h k x e
  rfl
def qBs (H:Hp) (Z:KV) (k:List Key) (v m a b lo hi:Int):Prop:=
 (qcq Z k=none/\qpa [(v,m)] a b lo hi)\/∃ (h0:Addr) (m0 t0 lo0 hi0 a' b' lo' hi':Int),qcq Z k=some (.ref h0)/\H h0=some (.tup [.int m0,.int t0,.int lo0,.int hi0])/\qpa [(v,m)] a' b' lo' hi'/\a=m0+a'/\b=t0+b'/\lo=(if lo'<lo0 then lo' else lo0)/\hi=(if hi'>hi0 then hi' else hi0)
def Puts (H H':Hp) (D D':qar) (o:Option (Int×Int)) (t v m:Int):Prop:=
 (o=none/\D'=D)\/(o=some (t,0)/\D'={ D with Y:=putK D.Y (kk t v) (.int (yv D.Y (kk t v)+m)) }) \/
 ∃ (s w:Int) (h:Addr) (a b lo hi:Int),o=some (s,w)/\1<=w/\D'={ D with Z:=putK D.Z (kk s w) (.ref h) }/\H' h=some (.tup [.int a,.int b,.int lo,.int hi])/\qBs H D.Z (kk s w) v m a b lo hi
theorem CellOf.some_ {ws es:List Int} {ge:Option Int} {t:Int} {p:Int×Int} (h:CellOf ws es ge t (some p)) (hl:1<=es.length) (hw:∀ w∈ws,1<=w):p=(t,0)\/1<=p.2:=by
 obtain ⟨h1,h2⟩:=h es[0] (Ad (by omega))
 by_cases c:es[0]<=t
 ·exact .inl (AJ (h1 c))
 ·obtain ⟨g1,g2⟩:=h2 (by omega)
  by_cases hg:qck ge t
  ·cases g1 hg
  ·obtain ⟨w,e1,e2⟩:=g2 hg
   cases e2;exact .inr (hw w (qta (An e1)))
theorem Pr.w1 {ps:List (Int×Int)} {g:Option Int} (P:Pr ps g) {w:Int} (h:w∈ps.map (·.2)):1<=w:=by
 obtain ⟨p,hp,rfl⟩:=Af.mp h;obtain ⟨i,hi,e⟩:=AZ hp;exact (P.size i p (by rw[<- e];exact Ad hi)).2.2.1
def qvn (p:Int×Int):Prop:=(-(10 ^ 51)<p.1/\p.1<10 ^ 51)/\1<=p.2/\p.2<10 ^ 45
inductive qig (vs:List V) (H:Hp) (Q:VK) (E_:XK):Prop
 | mk:∀ l xs rs,vs=[.ref l]->H l=some (.lst xs)->Pairs H xs rs->(∀ p∈rs,qvn p)->rs.length<=200->(rs=[]->Q .non H)->(rs≠[]->∀ a m t lo hi H',qpa rs m t lo hi->New H H' a (.tup [.int m,.int t,.int lo,.int hi])->Q (.ref a) H')->qig vs H Q E_
inductive qgr (C R:Addr) (vs:List V) (H:Hp) (Q:VK) (E_:XK):Prop
 | mk:∀ (ro dx ru rl:Addr) (ps:List (Int×Int)) (g:Option Int) (day:Int),vs=[.ref ro,.ref ru,.int day]->H ro=some (.ins C dx [])->RuleAt R H ru rl ps g->Pr ps g->Bd day->(∀ le dy dh H',H le=none->H dy=none->H dh=none->RollAt C R H' ro (newD ru rl le dy dh ps g day)->But ro H H'->Q .non H')->qgr C R vs H Q E_
inductive qfd (C R N:Addr) (vs:List V) (H:Hp) (Q:VK) (E:XK):Prop
 | mk:∀ (ro:Addr) (D:qar) (t v m:Int),vs=[.ref ro,.int t,.int v,.int m]->RollAt C R H ro D->qdl D->qnw t->(1<=m->qvn (v,m))->YOk D.Y->ZOk H D.Z->D.Y.length<=900->D.Z.length<=900->(m<1->E (.ref N) none H)->(1<=m->∀ o,CellOf (D.ps.map (·.2)) D.es D.ge t o->∀ D' H',Puts H H' D D' o t v m->RollAt C R H' ro D'->But2 D.dy D.dh H H'->Q (.bl o.isSome) H')->qfd C R N vs H Q E
def qvo (C R:Addr):Sp:=λvs H Q _=>∃ (ro:Addr) (D:qar),vs=[.ref ro]/\RollAt C R H ro D/\Q (.ref D.ru) H
def qy7 (C R:Addr):Sp:=λvs H Q _=>∃ (ro:Addr) (D:qar),vs=[.ref ro]/\RollAt C R H ro D/\Q (.int D.day) H
def qte (C R:Addr):Sp:=λvs H Q _=>∃ (ro:Addr) (D:qar),vs=[.ref ro]/\RollAt C R H ro D/\∀ p H',New H H' p (.lst (D.es.map V.int ++ [gv D.ge]))->Q (.ref p) H'
def TupAt (H:Hp) (v:V) (r:List Int):Prop:=∃ a,v=.ref a/\H a=some (.tup (r.map V.int))
def Tups (H:Hp) (xs:List V) (rs:List (List Int)):Prop:=Paired (TupAt H) xs rs
theorem TupAt.same {H H':Hp} (s:Same H H') {v:V} {r:List Int}:TupAt H v r->TupAt H' v r:=fun ⟨a,e,h⟩=>⟨a,e,s _ _ h⟩
theorem Tups.same {H H':Hp} (s:Same H H'):∀ {xs:List V} {rs:List (List Int)},Tups H xs rs->Tups H' xs rs
 | _,_,.nil=>.nil
 | _,_,.cons r t=>.cons (r.same s) (Tups.same s t)
theorem Tups.length {H:Hp}:∀ {xs:List V} {rs:List (List Int)},Tups H xs rs->xs.length=rs.length
 | _,_,.nil=>rfl
 | _,_,.cons _ t=>by simp[Tups.length t]
theorem Tups.get {H:Hp}:∀ {xs:List V} {rs:List (List Int)} {i:Nat} {x:V},Tups H xs rs->xs[i]?=some x->∃ r,rs[i]?=some r/\TupAt H x r
 | _,_,_,_,.nil,e=>by simp at e
 | _,_,0,_,.cons r _,e=>by simp at e;subst e;exact ⟨_,rfl,r⟩
 | _,_,i+1,x,.cons _ t,e=>by
  obtain ⟨u,h1,h2⟩:=Tups.get (i:=i) (x:=x) t (by simpa using e);exact ⟨u,by simpa using h1,h2⟩
def qjl (rs:List (List Int)):PyData:=.list (rs.map dTup)
theorem ql3:∀ rs:List (List Int),PyData.canLayAll0 (rs.map dTup)=true
 | []=>rfl
 | r :: t=>by simp[PyData.canLayAll0,qy3,ql3 t]
theorem qfu (rs:List (List Int)):(qjl rs).canLay0=true:=by simp[qjl,PyData.canLay0,ql3]
theorem qfv:∀ rs:List (List Int),PyData.depthAll (rs.map dTup)<=1
 | []=>by simp[PyData.depthAll]
 | r :: t=>by
  have:=qfv t
  simp[PyData.depthAll,dTup,PyData.depth,qh6]
  omega
theorem qvp (rs:List (List Int)):(qjl rs).depth<=20:=by
 have:=qfv rs
 simp[qjl,PyData.depth];omega
theorem Tups.reps {K:Frag} {H:Hp}:∀ {xs:List V} {rs:List (List Int)},Tups H xs rs->qq6 K H xs (rs.map dTup)
 | _,_,.nil=>.nil
 | _,_,.cons ⟨a,e,h⟩ t=>by
  subst e;exact .cons (qy4 h) (Tups.reps t)
theorem Tups.rep {K:Frag} {H:Hp} {l:Addr} {xs:List V} {rs:List (List Int)} (h:H l=some (.lst xs)) (r:Tups H xs rs):Rep K H (.ref l) (qjl rs):=.lst (SqL.of h) r.reps
open PySem L2
abbrev HP4:=Int×Int×Int×Int
structure Abs where
 y:List Int->Option Int
 z:List Int->Option HP4
def mg4 (a b:HP4):HP4:=(a.1+b.1,a.2.1+b.2.1,(if b.2.2.1<a.2.2.1 then b.2.2.1 else a.2.2.1),(if b.2.2.2>a.2.2.2 then b.2.2.2 else a.2.2.2))
def qgs (v m:Int):HP4:=(m,v*m,v,v)
def qd5 {α:Type} (f:List Int->Option α) (k:List Int) (x:α):List Int->Option α:=λj=>if j=k then some x else f j
theorem qaw {α:Type} (f:List Int->Option α) (k:List Int) (x:α):qd5 f k x k=some x:=Al rfl
theorem qbk {α:Type} (f:List Int->Option α) {k j:List Int} (x:α) (h:j≠k):qd5 f k x j=f j:=Ah h
theorem qbs {α:Type} (f:List Int->Option α) (k:List Int) (x y:α):qd5 (qd5 f k x) k y=qd5 f k y:=by
 funext j;unfold qd5;split<;>rfl
theorem qfw {α:Type} (f:List Int->Option α) {k l:List Int} (x y:α) (h:k≠l):qd5 (qd5 f k x) l y=qd5 (qd5 f l y) k x:=by
 funext j;unfold qd5
 by_cases h1:j=k
 ·subst h1;rw[Ah h,Al rfl]
  simp
 ·by_cases h2:j=l
  ·subst h2;simp[h1]
  ·simp[h1,h2]
def qcc (o:Option HP4) (b:HP4):HP4:=match o with
 | none=>b
 | some a=>mg4 a b
theorem qzy {a b:HP4} (h1:a.1=b.1) (h2:a.2.1=b.2.1) (h3:a.2.2.1=b.2.2.1) (h4:a.2.2.2=b.2.2.2):a=b:=by
 obtain ⟨_,_,_,_⟩:=a;obtain ⟨_,_,_,_⟩:=b
 simp at h1 h2 h3 h4
 simp[h1,h2,h3,h4]
theorem qvq (a b:HP4):mg4 a b=mg4 b a:=by
 unfold mg4;refine qzy ?_ ?_ ?_ ?_<;>dsimp only
 ·omega
 ·omega
 ·split<;>split<;>omega
 ·split<;>split<;>omega
theorem qtf (h a b:HP4):mg4 (mg4 h a) b=mg4 (mg4 h b) a:=by
 unfold mg4;refine qzy ?_ ?_ ?_ ?_<;>dsimp only
 ·omega
 ·omega
 ·repeat' split
  all_goals omega
 ·repeat' split
  all_goals omega
theorem qgg (o:Option HP4) (a b:HP4):qcc (some (qcc o a)) b=qcc (some (qcc o b)) a:=by
 cases o with
 | none=>exact qvq a b
 | some h=>exact qtf h a b
theorem qqn (o:Option HP4) (v m n:Int):qcc (some (qcc o (qgs v m))) (qgs v n)=qcc o (qgs v (m+n)):=by
 have e:v*m+v*n=v*(m+n):=(D8 v m n).symm
 cases o with
 | none =>
  show mg4 (qgs v m) (qgs v n)=qgs v (m+n)
  unfold mg4 qgs;refine qzy ?_ ?_ ?_ ?_<;>dsimp only
  ·exact e
  ·split<;>rfl
  ·split<;>rfl
 | some h =>
  show mg4 (mg4 h (qgs v m)) (qgs v n)=mg4 h (qgs v (m+n))
  unfold mg4 qgs;refine qzy ?_ ?_ ?_ ?_<;>dsimp only
  ·omega
  ·rw[Int.add_assoc,e]
  ·repeat' split
   all_goals omega
  ·repeat' split
   all_goals omega
abbrev Rd3:=Int×Int×Int
def qcu (cell:Int->Option (Int×Int)) (s:Abs) (r:Rd3):Abs:=match cell r.1 with
 | none=>s
 | some (a,w)=>if w=0 then { s with y:=qd5 s.y [r.1,r.2.1] ((s.y [r.1,r.2.1]).getD 0+r.2.2) } else { s with z:=qd5 s.z [a,w] (qcc (s.z [a,w]) (qgs r.2.1 r.2.2)) }
theorem qtg (cell:Int->Option (Int×Int)) (s:Abs) (r q:Rd3):qcu cell (qcu cell s r) q=qcu cell (qcu cell s q) r:=by
 unfold qcu
 cases e1:cell r.1 with
 | none=>cases e2:cell q.1<;>rfl
 | some p =>
  obtain ⟨a,w⟩:=p
  cases e2:cell q.1 with
  | none=>rfl
  | some p2 =>
   obtain ⟨b,u⟩:=p2;dsimp only
   by_cases hw:w=0
   ·by_cases hu:u=0
    ·rw[Al hw,Al hu,Al hu,Al hw]
     dsimp only
     by_cases hk:[r.1,r.2.1]=[q.1,q.2.1]
     ·rw[hk,qaw,qbs,qaw,qbs]
      simp only[Dh]
      congr 2
      omega
     ·rw[qbk _ _ (λz=>hk z.symm),qbk _ _ hk,qfw _ _ _ hk]
    ·rw[Al hw,Ah hu,Ah hu,Al hw]
   ·by_cases hu:u=0
    ·rw[Ah hw,Al hu,Al hu,Ah hw]
    ·rw[Ah hw,Ah hu,Ah hu,Ah hw]
     dsimp only
     by_cases hk:[a,w]=[b,u]
     ·rw[hk,qaw,qbs,qaw,qbs,qgg]
     ·rw[qbk _ _ (λz=>hk z.symm),qbk _ _ hk,qfw _ _ _ hk]
theorem qqo (cell:Int->Option (Int×Int)) (s:Abs) (t v m n:Int):qcu cell (qcu cell s (t,v,m)) (t,v,n)=qcu cell s (t,v,m+n):=by
 unfold qcu;dsimp only
 cases e1:cell t with
 | none=>rfl
 | some p =>
  obtain ⟨a,w⟩:=p;dsimp only
  by_cases hw:w=0
  ·rw[Al hw,Al hw,Al hw]
   dsimp only;rw[qaw,qbs];simp only[Dh]
   congr 2
   omega
  ·rw[Ah hw,Ah hw,Ah hw]
   dsimp only;rw[qaw,qbs,qqn]
def qpf:Abs:=⟨λ_=>none,λ_=>none⟩
def qdi (cell:Int->Option (Int×Int)) (rs:List Rd3):Abs:=rs.foldl (qcu cell) qpf
theorem qjv (cell:Int->Option (Int×Int)) (rs:List Rd3) (r:Rd3):qdi cell (rs ++ [r])=qcu cell (qdi cell rs) r:=by
 unfold qdi;rw[Dc];rfl
structure SKeys {α:Type} (f:List Int->Option α) (ms:List (List Int)):Prop where
 srt:ms.Pairwise (λk l=>blt k l=true)
 mem:∀ k,k∈ms↔f k≠none
theorem qkx {k l:List Int} (h1:blt k l=true) (h2:blt l k=true):False:=by
 have:=qjr k l k h1 h2;rw[qhz] at this;cases this
theorem SKeys.uniq {α:Type} {f:List Int->Option α} {ms ms':List (List Int)} (a:SKeys f ms) (b:SKeys f ms'):ms=ms':=by
 have nd:∀ {l:List (List Int)},l.Pairwise (λk l=>blt k l=true)->l.Nodup:=λh=>h.imp fun {k l} hb e=>by rw[e,qhz] at hb;cases hb
 refine List.Perm.eq_of_pairwise (le:=λk l=>blt k l=true) (λk l _ _ h1 h2=>(qkx h1 h2).elim) a.srt b.srt ?_;rw[El (nd a.srt) (nd b.srt)];intro k;rw[a.mem,b.mem]
def kI (k:List Int):List Key:=k.map Sum.inl
theorem qih {k l:List Int} (h:kI k=kI l):k=l:=by
 induction k generalizing l with
 | nil=>cases l with
  | nil=>rfl
  | cons _ _=>cases h
 | cons a r ih=>cases l with
  | nil=>cases h
  | cons b t =>
   unfold kI at h;rw[Aw,Aw] at h;injection h with h1 h2
   injection h1 with h1
   rw[h1,ih h2]
theorem qBt (k:List Int):(kI k).map kV=k.map V.int:=by
 unfold kI;rw[AI];rfl
theorem qpg (kvs:KV) (k:List Key) (v:V):(k∈kvs.map (·.1)->(putK kvs k v).map (·.1)=kvs.map (·.1))/\(k ∉ kvs.map (·.1)->(putK kvs k v).map (·.1)=kvs.map (·.1) ++ [k]):=by
 unfold putK
 by_cases h:(kvs.any λkv=>decide (kv.1=k))=true
 ·have hm:k∈kvs.map (·.1):=by
   obtain ⟨x,hx,e⟩:=DZ.mp h;exact Af.mpr ⟨x,hx,by simpa using e⟩
  refine ⟨λ_=>?_,λn=>absurd hm n⟩;rw[Al h,AI]
  apply Ba
  intro x hx
  show (if x.1=k then (x.1,v) else x).1=x.1
  split<;>rfl
 ·have hm:k ∉ kvs.map (·.1):=λhm=>h (by
   obtain ⟨x,hx,e⟩:=Af.mp hm;exact DZ.mpr ⟨x,hx,by simpa using e⟩)
  refine ⟨λn=>absurd n hm,λ_=>?_⟩;rw[Ah h,AB];rfl
theorem valV_mem {kvs:KV} {k:List Key}:qcq kvs k≠none↔k∈kvs.map (·.1):=by
 unfold qcq
 constructor
 ·intro h
  cases e:kvs.find? λkv=>decide (kv.1=k) with
  | none=>rw[e] at h;exact absurd rfl h
  | some x =>
   have:=List.find?_some e;exact Af.mpr ⟨x,List.mem_of_find?_eq_some e,by simpa using this⟩
 ·intro h z
  obtain ⟨x,hx,e⟩:=Af.mp h;rw[Option.map_eq_none_iff,List.find?_eq_none] at z;exact z x hx (by simpa using e)
structure DKeys (kvs:KV) (ks:List (List Int)):Prop where
 eq:kvs.map (·.1)=ks.map kI
 nd:ks.Nodup
 ne:∀ k∈ks,k.length=2
theorem DKeys.nil:DKeys [] []:=⟨rfl,.nil,λk h=>by cases h⟩
theorem DKeys.put {kvs:KV} {ks:List (List Int)} (h:DKeys kvs ks) (k:List Int) (hk:k.length=2) (v:V):∃ ks',DKeys (putK kvs (kI k) v) ks'/\∀ j,j∈ks'↔j∈ks\/j=k:=by
 have hm:kI k∈kvs.map (·.1)↔k∈ks:=by
  rw[h.eq]
  constructor
  ·intro z
   obtain ⟨j,hj,e⟩:=Af.mp z;rw[<- qih e];exact hj
  ·exact λz=>Af.mpr ⟨k,z,rfl⟩
 by_cases hin:k∈ks
 ·refine ⟨ks,⟨by rw[(qpg _ _ _).1 (hm.mpr hin)];exact h.eq,h.nd,h.ne⟩,λj=>⟨.inl,λz=>z.elim id λe=>by rw[e];exact hin⟩⟩
 ·refine ⟨ks ++ [k],⟨by rw[(qpg _ _ _).2 (λz=>hin (hm.mp z)),h.eq,AB];rfl,?_,?_⟩,λj=>by simp⟩
  ·rw[List.nodup_append]
   exact ⟨h.nd,Di _ _,λa ha b hb e=>by
    rw[Aj.mp hb] at e;exact hin (by rw[<- e];exact ha)⟩
  ·intro j hj
   rcases AA.mp hj with z|z
   ·exact h.ne j z
   ·rw[Aj.mp z];exact hk
theorem DKeys.ne' {kvs:KV} {ks:List (List Int)} (h:DKeys kvs ks):∀ k∈ks,k≠[]:=λk hk z=>by
 have:=h.ne k hk;rw[z] at this;cases this
theorem DKeys.mem {kvs:KV} {ks:List (List Int)} (h:DKeys kvs ks) (k:List Int):k∈ks↔qcq kvs (kI k)≠none:=by
 rw[valV_mem,h.eq]
 constructor
 ·exact λz=>Af.mpr ⟨k,z,rfl⟩
 ·intro z
  obtain ⟨j,hj,e⟩:=Af.mp z;rw[<- qih e];exact hj
def v4 (h:HP4):List V:=[.int h.1,.int h.2.1,.int h.2.2.1,.int h.2.2.2]
structure RAbs (H:Hp) (D:qar) (s:Abs) (LY LZ:List (List Int)):Prop where
 yv:∀ k,qcq D.Y (kI k)=(s.y k).map V.int
 yk:∃ ks,DKeys D.Y ks/\ks ⊆ LY
 zn:∀ k,s.z k=none->qcq D.Z (kI k)=none
 zs:∀ k h,s.z k=some h->∃ a,qcq D.Z (kI k)=some (.ref a)/\H a=some (.tup (v4 h))
 zk:∃ ks,DKeys D.Z ks/\ks ⊆ LZ
theorem RAbs.same {H H':Hp} {D:qar} {s:Abs} {LY LZ:List (List Int)} (e:Same H H') (h:RAbs H D s LY LZ):RAbs H' D s LY LZ:=
 ⟨h.yv,h.yk,h.zn,λk x q=>(h.zs k x q).imp λ_ z=>⟨z.1,e _ _ z.2⟩,h.zk⟩
theorem RAbs.tups {H H':Hp} {D:qar} {s:Abs} {LY LZ:List (List Int)} (e:qs3 H H') (h:RAbs H D s LY LZ):RAbs H' D s LY LZ:=
 ⟨h.yv,h.yk,h.zn,λk x q=>(h.zs k x q).imp λ_ z=>⟨z.1,e _ _ z.2⟩,h.zk⟩
theorem RAbs.mono {H:Hp} {D:qar} {s:Abs} {LY LZ LY' LZ':List (List Int)} (h:RAbs H D s LY LZ) (a:LY ⊆ LY') (b:LZ ⊆ LZ'):RAbs H D s LY' LZ':=
 ⟨h.yv,h.yk.imp λ_ z=>⟨z.1,λ_ y=>a (z.2 y)⟩,h.zn,h.zs,h.zk.imp λ_ z=>⟨z.1,λ_ y=>b (z.2 y)⟩⟩
theorem RAbs.zero {H:Hp} {D:qar} {LY LZ:List (List Int)} (eY:D.Y=[]) (eZ:D.Z=[]):RAbs H D qpf LY LZ where
 yv:=λk=>by rw[eY];rfl
 yk:=⟨[],by rw[eY];exact DKeys.nil,λ_ z=>by cases z⟩
 zn:=λk _=>by rw[eZ];rfl
 zs:=λk x z=>by cases z
 zk:=⟨[],by rw[eZ];exact DKeys.nil,λ_ z=>by cases z⟩
theorem RAbs.yok {H:Hp} {D:qar} {s:Abs} {LY LZ:List (List Int)} (h:RAbs H D s LY LZ):∀ k x,qcq D.Y (kI k)=some x->∃ n,x=V.int n:=λk x e=>by
 rw[h.yv] at e
 cases e2:s.y k with
 | none=>rw[e2] at e;cases e
 | some n=>rw[e2] at e;exact ⟨n,(AJ e).symm⟩
theorem qwy {kvs:KV} {ks L:List (List Int)} (h:DKeys kvs ks) (hs:ks ⊆ L):kvs.length<=L.length:=by
 have:=congrArg List.length h.eq;rw[Ac,Ac] at this;rw[this];exact BW h.nd hs
open PySem L2
theorem qph {v m a b lo hi:Int} (h:qpa [(v,m)] a b lo hi):a=m/\b=v*m/\lo=v/\hi=v:=by
 refine ⟨by rw[h.m];simp[rN,qD5],by rw[h.t];simp[rT,qD6],?_,?_⟩
 ·have:=h.lo;simpa [quk] using this
 ·have:=h.hi;simpa [quk] using this
theorem qwz {kvs:KV} {ks:List (List Int)} (h:DKeys kvs ks) {k:List Key} {x:V} (e:qcq kvs k=some x):∃ j,k=kI j:=by
 have:k∈kvs.map (·.1):=valV_mem.mp (by rw[e];simp);rw[h.eq] at this;obtain ⟨j,_,e⟩:=Af.mp this;exact ⟨j,e.symm⟩
theorem RAbs.YOk {H:Hp} {D:qar} {s:Abs} {LY LZ:List (List Int)} (h:RAbs H D s LY LZ):YOk D.Y:=λk x e=>by
 obtain ⟨ks,d,_⟩:=h.yk;obtain ⟨j,rfl⟩:=qwz d e;exact h.yok j x e
theorem RAbs.ZOk {H:Hp} {D:qar} {s:Abs} {LY LZ:List (List Int)} (h:RAbs H D s LY LZ):ZOk H D.Z:=λk x e=>by
 obtain ⟨ks,d,_⟩:=h.zk;obtain ⟨j,rfl⟩:=qwz d e
 cases ez:s.z j with
 | none=>rw[h.zn j ez] at e;cases e
 | some p =>
  obtain ⟨a,e1,e2⟩:=h.zs j p ez;rw[e] at e1;cases e1;exact ⟨a,p.1,p.2.1,p.2.2.1,p.2.2.2,rfl,e2⟩
theorem RAbs.ylen {H:Hp} {D:qar} {s:Abs} {LY LZ:List (List Int)} (h:RAbs H D s LY LZ):D.Y.length<=LY.length:=by
 obtain ⟨ks,d,e⟩:=h.yk;exact qwy d e
theorem RAbs.zlen {H:Hp} {D:qar} {s:Abs} {LY LZ:List (List Int)} (h:RAbs H D s LY LZ):D.Z.length<=LZ.length:=by
 obtain ⟨ks,d,e⟩:=h.zk;exact qwy d e
def qD7 (r:Rd3):List Int:=[r.1,r.2.1]
def qzz (cell:Int->Option (Int×Int)) (r:Rd3):List Int:=match cell r.1 with
 | none=>[]
 | some (a,w)=>[a,w]
theorem RAbs.put {H H':Hp} {D D':qar} {o:Option (Int×Int)} {t v m:Int} {s:Abs} {LY LZ:List (List Int)} {cell:Int->Option (Int×Int)} (h:RAbs H D s LY LZ) (hp:Puts H H' D D' o t v m) (eo:cell t=o) (ts:qs3 H H')
  (hy:[t,v]∈LY) (hz:∀ a w,o=some (a,w)->[a,w]∈LZ):RAbs H' D' (qcu cell s (t,v,m)) LY LZ:=by
 have h2:=h.tups ts;unfold qcu;dsimp only
 rcases hp with ⟨rfl,rfl⟩|⟨rfl,rfl⟩|⟨a,w,b,m1,t1,lo1,hi1,rfl,hw,rfl,hb,po⟩
 ·rw[eo];exact h2
 ·rw[eo]
  dsimp only;rw[Al rfl];have ey:TB.yv D.Y (kk t v)=(s.y [t,v]).getD 0:=by
   unfold TB.yv;have:=h.yv [t,v];rw[show kk t v=kI [t,v] from rfl,this]
   cases s.y [t,v]<;>rfl
  refine ⟨λk=>?_,?_,h2.zn,h2.zs,h2.zk⟩
  ·show qcq (putK D.Y (kI [t,v]) _) (kI k)=(qd5 s.y [t,v] ((s.y [t,v]).getD 0+m) k).map V.int
   rw[qfn,ey]
   by_cases hk:k=[t,v]
   ·subst hk;rw[Al rfl,qaw];rfl
   ·rw[Ah (λz=>hk (qih z)),qbk _ _ hk];exact h.yv k
  ·obtain ⟨ks,d,e⟩:=h.yk
   obtain ⟨ks',d',e'⟩:=d.put [t,v] rfl (V.int (TB.yv D.Y (kk t v)+m));exact ⟨ks',d',λj hj=>(e' j).mp hj |>.elim (λz=>e z) λz=>by rw[z];exact hy⟩
 ·rw[eo]
  dsimp only;rw[Ah (by omega)];have ev:(m1,t1,lo1,hi1)=qcc (s.z [a,w]) (qgs v m):=by
   rcases po with ⟨p1,p2⟩|⟨h0,m0,t0,lo0,hi0,a',b',lo',hi',p1,p2,p3,rfl,rfl,rfl,rfl⟩
   ·obtain ⟨rfl,rfl,rfl,rfl⟩:=qph p2
    cases ez:s.z [a,w] with
    | none=>rfl
    | some q =>
     obtain ⟨_,e1,_⟩:=h.zs _ q ez;rw[show kk a w=kI [a,w] from rfl,e1] at p1;cases p1
   ·obtain ⟨rfl,rfl,rfl,rfl⟩:=qph p3
    cases ez:s.z [a,w] with
    | none =>
     have:=h.zn _ ez;rw[show kk a w=kI [a,w] from rfl,this] at p1;cases p1
    | some q =>
     obtain ⟨_,e1,e2⟩:=h.zs _ q ez;rw[show kk a w=kI [a,w] from rfl,e1] at p1;cases p1;rw[p2] at e2;have e3:[V.int m0,V.int t0,V.int lo0,V.int hi0]=v4 q:=by injection e2 with e2;injection e2
     unfold v4 at e3;injection e3 with c1 e3
     injection e3 with c2 e3
     injection e3 with c3 e3
     injection e3 with c4 e3
     injection c1 with c1
     injection c2 with c2
     injection c3 with c3
     injection c4 with c4
     subst c1 c2 c3 c4
     rfl
  have hb':H' b=some (.tup (v4 (qcc (s.z [a,w]) (qgs v m)))):=by rw[<- ev];exact hb
  refine ⟨h2.yv,h2.yk,λk hk=>?_,λk q hk=>?_,?_⟩
  ·have hk:qd5 s.z [a,w] (qcc (s.z [a,w]) (qgs v m)) k=none:=hk
   show qcq (putK D.Z (kI [a,w]) _) (kI k)=_
   rw[qfn]
   by_cases hk2:k=[a,w]
   ·subst hk2;rw[qaw] at hk;cases hk
   ·rw[Ah (λz=>hk2 (qih z))]
    rw[qbk _ _ hk2] at hk;exact h.zn k hk
  ·have hk:qd5 s.z [a,w] (qcc (s.z [a,w]) (qgs v m)) k=some q:=hk
   show ∃ c,qcq (putK D.Z (kI [a,w]) (.ref b)) (kI k)=some (.ref c)/\_
   rw[qfn]
   by_cases hk2:k=[a,w]
   ·subst hk2
    rw[qaw] at hk;cases hk;exact ⟨b,Al rfl,hb'⟩
   ·rw[qbk _ _ hk2] at hk
    rw[Ah (λz=>hk2 (qih z))];exact h2.zs k q hk
  ·obtain ⟨ks,d,e⟩:=h.zk
   obtain ⟨ks',d',e'⟩:=d.put [a,w] rfl (V.ref b);exact ⟨ks',d',λj hj=>(e' j).mp hj |>.elim (λz=>e z) λz=>by rw[z];exact hz a w rfl⟩
inductive qpi (C R:Addr) (vs:List V) (H:Hp) (Q:VK) (E_:XK):Prop
 | mk:∀ (ro:Addr) (D:qar) (t v m:Int),vs=[.ref ro,.int t,.int v,.int m]->RollAt C R H ro D->qdl D->qnw t->1<=m->qvn (v,m)->TB.YOk D.Y->TB.ZOk H D.Z->D.Y.length<=900->D.Z.length<=900->(∀ o,CellOf (D.ps.map (·.2)) D.es D.ge t o->∀ D' H',Puts H H' D D' o t v m->RollAt C R H' ro D'->But2 D.dy D.dh H H'->Q (.bl o.isSome) H')->qpi C R vs H Q E_
def qnx (s:Abs) (k:List Int):List Int:=k ++ [(s.y k).getD 0]
def i4 (h:HP4):List Int:=[h.1,h.2.1,h.2.2.1,h.2.2.2]
def qpj (s:Abs) (k:List Int):List Int:=k ++ i4 ((s.z k).getD (0,0,0,0))
inductive qii (C R:Addr) (vs:List V) (H:Hp) (Q:VK) (E_:XK):Prop
 | mk:∀ (ro:Addr) (D:qar) (s:Abs) (LY LZ:List (List Int)),vs=[.ref ro]->RollAt C R H ro D->RAbs H D s LY LZ->LY.length<64->(∀ l xs ms H',Same H H'->H l=none->H' l=some (.lst xs)->SKeys s.y ms->ms.length<64->Tups H' xs (ms.map (qnx s))->Q (.ref l) H')->qii C R vs H Q E_
inductive qij (C R:Addr) (vs:List V) (H:Hp) (Q:VK) (E_:XK):Prop
 | mk:∀ (ro:Addr) (D:qar) (s:Abs) (LY LZ:List (List Int)),vs=[.ref ro]->RollAt C R H ro D->RAbs H D s LY LZ->LZ.length<64->(∀ l xs ms H',Same H H'->H l=none->H' l=some (.lst xs)->SKeys s.z ms->ms.length<64->Tups H' xs (ms.map (qpj s))->Q (.ref l) H')->qij C R vs H Q E_
theorem Tups.snoc {H:Hp} {v:V} {r:List Int} (h:TupAt H v r):∀ {xs:List V} {rs:List (List Int)},Tups H xs rs->Tups H (xs ++ [v]) (rs ++ [r])
 | _,_,.nil=>.cons h .nil
 | _,_,.cons q t=>.cons q (Tups.snoc h t)
theorem SKeys.ofD {kvs:KV} {ks ms:List (List Int)} {α:Type} {f:List Int->Option α} (d:DKeys kvs ks) (hf:∀ k,qcq kvs (kI k)≠none↔f k≠none) (p:ms.Perm ks) (hs:ms.Pairwise (λk l=>blt k l=true)):SKeys f ms:=
 ⟨hs,λk=>by rw[p.mem_iff,d.mem,hf]⟩
open PySem L2
def ROk (r:Rd3):Prop:=qnw r.1/\qvn (r.2.1,r.2.2)
def l3 (r:Rd3):List Int:=[r.1,r.2.1,r.2.2]
open Classical in
noncomputable def qca (ws es:List Int) (ge:Option Int) (t:Int):Option (Int×Int):=if h:∃ o,CellOf ws es ge t o then h.choose else none
theorem qky {ws es:List Int} {ge:Option Int} {t:Int} {o:Option (Int×Int)} (hl:1<=es.length) (h:CellOf ws es ge t o):qca ws es ge t=o:=by
 have hx:∃ o,CellOf ws es ge t o:=⟨o,h⟩;unfold qca;rw[dif_pos hx];exact CellOf.uniq (e0:=es[0]) (Ad (by omega)) hx.choose_spec h
def dd (Y Z:KV):qar:=⟨0,0,0,0,0,[],none,0,[],none,Y,Z⟩
open PySem L2
def RR (C R:Addr) (H:Hp) (ro:Addr) (c:qar) (s:Abs) (LY LZ:List (List Int)):Prop:=
 ∃ Y Z,RollAt C R H ro { c with Y:=Y,Z:=Z }/\RAbs H { c with Y:=Y,Z:=Z } s LY LZ
theorem RR.same {C R:Addr} {H H':Hp} {ro:Addr} {c:qar} {s:Abs} {LY LZ:List (List Int)} (e:Same H H') (h:RR C R H ro c s LY LZ):RR C R H' ro c s LY LZ:=
 let ⟨Y,Z,a,b⟩:=h;⟨Y,Z,a.same e,b.same e⟩
theorem But2.tups {H H':Hp} {a b:Addr} {Y Z:KV} (h:But2 a b H H') (ha:H a=some (.dT Y)) (hb:H b=some (.dT Z)):qs3 H H':=λx xs e =>
 h x _ e (qaq e ha (by intro z;cases z)) (qaq e hb (by intro z;cases z))
theorem But2.keep {H H':Hp} {a b:Addr} {Y Z:KV} (h:But2 a b H H') (ha:H a=some (.dT Y)) (hb:H b=some (.dT Z)) {x:Addr} {o:HO} (e:H x=some o) (n:∀ K,o≠.dT K):H' x=some o:=
 h x _ e (qaq e ha (n _)) (qaq e hb (n _))
theorem But2.trans {H H1 H2:Hp} {a b:Addr} (h:But2 a b H H1) (h2:But2 a b H1 H2):But2 a b H H2:=λx o e n m=>h2 x o (h x o e n m) n m
theorem But2.refl (a b:Addr) (H:Hp):But2 a b H H:=λ_ _ e _ _=>e
theorem RuleAt.keep2 {C:Addr} {H H':Hp} {r l a b:Addr} {ps:List (Int×Int)} {g:Option Int} {Y Z:KV} (h:RuleAt C H r l ps g) (e:But2 a b H H') (ha:H a=some (.dT Y)) (hb:H b=some (.dT Z)):RuleAt C H' r l ps g:=by
 obtain ⟨dx,e1⟩:=h.ob;obtain ⟨xs,e2,p⟩:=h.ls;exact ⟨⟨dx,e.keep ha hb e1 (by intro K z;cases z)⟩,xs,e.keep ha hb e2 (by intro K z;cases z),p.tupS (e.tups ha hb)⟩
theorem RR.frame {C R:Addr} {H H':Hp} {ro:Addr} {c:qar} {s:Abs} {LY LZ:List (List Int)} {a b:Addr} {Y Z:KV} (h:RR C R H ro c s LY LZ) (e:But2 a b H H') (ha:H a=some (.dT Y)) (hb:H b=some (.dT Z))
  (n1:c.dy≠a) (n2:c.dy≠b) (n3:c.dh≠a) (n4:c.dh≠b):RR C R H' ro c s LY LZ:=by
 obtain ⟨Y',Z',A,B⟩:=h;obtain ⟨dx,e1⟩:=A.ob;exact ⟨Y',Z',⟨⟨dx,e.keep ha hb e1 (by intro K z;cases z)⟩,A.rule.keep2 e ha hb,e.keep ha hb A.ed (by intro K z;cases z),e _ _ A.yo n1 n2,e _ _ A.he n3 n4,A.ne⟩,B.tups (e.tups ha hb)⟩
theorem RR.dicts {C R:Addr} {H:Hp} {ro:Addr} {c:qar} {s:Abs} {LY LZ:List (List Int)} (h:RR C R H ro c s LY LZ):(∃ Y,H c.dy=some (.dT Y))/\∃ Z,H c.dh=some (.dT Z):=
 let ⟨_,_,A,_⟩:=h;⟨⟨_,A.yo⟩,⟨_,A.he⟩⟩
theorem RR.obj {C R:Addr} {H:Hp} {ro:Addr} {c:qar} {s:Abs} {LY LZ:List (List Int)} (h:RR C R H ro c s LY LZ):∃ dx,H ro=some (.ins C dx (rof c.ru c.day c.le c.dy c.dh)):=
 let ⟨_,_,A,_⟩:=h;A.ob
noncomputable abbrev cellD (c:qar):Int->Option (Int×Int):=qca (c.ps.map (·.2)) c.es c.ge
theorem RR.put {C R:Addr} {H:Hp} {ro:Addr} {c:qar} {s:Abs} {LY LZ:List (List Int)} {t v m:Int} {Q:VK} {E:XK} (h:RR C R H ro c s LY LZ) (ok:qdl c) (hr:qnw t) (h1:1<=m) (hb:qvn (v,m)) (ly:LY.length<64) (lz:LZ.length<64)
  (hy:[t,v]∈LY) (hz:∀ a w,cellD c t=some (a,w)->[a,w]∈LZ)
  (q:∀ H',RR C R H' ro c (qcu (cellD c) s (t,v,m)) LY LZ->But2 c.dy c.dh H H'->Q (.bl (cellD c t).isSome) H'):qpi C R [.ref ro,.int t,.int v,.int m] H Q E:=by
 obtain ⟨Y,Z,A,B⟩:=h;have hes:1<=c.es.length:=by rw[ok.es];exact ok.pr.good.lo
 refine ⟨ro,_,t,v,m,rfl,A,⟨ok.pr,ok.es⟩,hr,h1,hb,B.YOk,B.ZOk,AR B.ylen (by omega),AR B.zlen (by omega),λo hc D' H' pu A' b'=>?_⟩;have eo:cellD c t=o:=qky hes hc;rw[<- eo];have B':=B.put pu eo (b'.tups A.yo A.he) hy (λa w e=>hz a w (eo.trans e));refine q H' ?_ b'
 rcases pu with ⟨_,rfl⟩|⟨_,rfl⟩|⟨_,_,_,_,_,_,_,_,_,rfl,_,_⟩
 ·exact ⟨Y,Z,A',B'⟩
 ·exact ⟨_,Z,A',B'⟩
 ·exact ⟨Y,_,A',B'⟩
open Classical in
noncomputable def qb4 (s:Abs):List (List Int):=if h:∃ ms,SKeys s.y ms then h.choose.map (qnx s) else []
open Classical in
noncomputable def qcb (s:Abs):List (List Int):=if h:∃ ms,SKeys s.z ms then h.choose.map (qpj s) else []
theorem qda {s:Abs} {ms:List (List Int)} (h:SKeys s.y ms):ms.map (qnx s)=qb4 s:=by
 have hx:∃ ms,SKeys s.y ms:=⟨ms,h⟩;unfold qb4;rw[dif_pos hx,SKeys.uniq h hx.choose_spec]
theorem qdb {s:Abs} {ms:List (List Int)} (h:SKeys s.z ms):ms.map (qpj s)=qcb s:=by
 have hx:∃ ms,SKeys s.z ms:=⟨ms,h⟩;unfold qcb;rw[dif_pos hx,SKeys.uniq h hx.choose_spec]
def qw0 (rs:List (List Int)):Prop:=rs.length<=900/\∀ r∈rs,r.length<=10
theorem RR.young {C R:Addr} {H:Hp} {ro:Addr} {c:qar} {s:Abs} {LY LZ:List (List Int)} {Q:VK} {E:XK} (h:RR C R H ro c s LY LZ) (ly:LY.length<64)
  (q:∀ l xs H',Same H H'->H l=none->H' l=some (.lst xs)->Tups H' xs (qb4 s)->qw0 (qb4 s)->Q (.ref l) H'):qii C R [.ref ro] H Q E:=by
 obtain ⟨Y,Z,A,B⟩:=h;refine ⟨ro,_,s,LY,LZ,rfl,A,B,ly,λl xs ms H' e f hl sk hm tu=>?_⟩;rw[qda sk] at tu;refine q l xs H' e f hl tu ?_;rw[<- qda sk];obtain ⟨ks,dk,_⟩:=B.yk;refine ⟨by rw[Ac];omega,λr hr=>?_⟩;obtain ⟨k,hk,rfl⟩:=Af.mp hr;have:k∈ks:=(dk.mem k).mpr (by rw[B.yv];have:=(sk.mem k).mp hk;cases z:s.y k with|none=>exact absurd z this|some _=>simp);have:=dk.ne k this;unfold qnx;rw[Aq,this];simp
theorem RR.heaps {C R:Addr} {H:Hp} {ro:Addr} {c:qar} {s:Abs} {LY LZ:List (List Int)} {Q:VK} {E:XK} (h:RR C R H ro c s LY LZ) (lz:LZ.length<64)
  (q:∀ l xs H',Same H H'->H l=none->H' l=some (.lst xs)->Tups H' xs (qcb s)->qw0 (qcb s)->Q (.ref l) H'):qij C R [.ref ro] H Q E:=by
 obtain ⟨Y,Z,A,B⟩:=h;refine ⟨ro,_,s,LY,LZ,rfl,A,B,lz,λl xs ms H' e f hl sk hm tu=>?_⟩;rw[qdb sk] at tu;refine q l xs H' e f hl tu ?_;rw[<- qdb sk];obtain ⟨ks,dk,_⟩:=B.zk;refine ⟨by rw[Ac];omega,λr hr=>?_⟩;obtain ⟨k,hk,rfl⟩:=Af.mp hr;have:k∈ks:=(dk.mem k).mpr (by
  have:=(sk.mem k).mp hk
  cases z:s.z k with
  | none=>exact absurd z this
  | some h4=>obtain ⟨a,e1,_⟩:=B.zs k h4 z;rw[e1];simp)
 have:=dk.ne k this;unfold qpj i4;rw[Aq,this];simp
theorem Tups.tupS {H H':Hp} (s:qs3 H H'):∀ {xs:List V} {rs:List (List Int)},Tups H xs rs->Tups H' xs rs
 | _,_,.nil=>.nil
 | _,_,.cons ⟨a,e,h⟩ t=>.cons ⟨a,e,s _ _ h⟩ (Tups.tupS s t)
open PySem L2
def qdm (cell:Int->Option (Int×Int)) (s:Abs) (a:Int) (x:HP4):Abs:=match cell a with
 | none=>s
 | some (b,w)=>{ s with z:=qd5 s.z [b,w] (qcc (s.z [b,w]) x) }
def qth (H:Hp) (Z:KV) (k:List Key) (x y:HP4):Prop:=
 (qcq Z k=none/\y=x)\/∃ (h0:Addr) (x0:HP4),qcq Z k=some (.ref h0)/\H h0=some (.tup (v4 x0))/\y=mg4 x0 x
theorem qw1 {x y:HP4} (h:v4 x=v4 y):x=y:=by
 unfold v4 at h;injection h with h1 h
 injection h with h2 h
 injection h with h3 h
 injection h with h4 _
 injection h1 with h1
 injection h2 with h2
 injection h3 with h3
 injection h4 with h4
 exact qzy h1 h2 h3 h4
theorem RAbs.pour {H H':Hp} {D:qar} {a w:Int} {b:Addr} {x y:HP4} {s:Abs} {LY LZ:List (List Int)} (h:RAbs H D s LY LZ) (po:qth H D.Z (kk a w) x y) (hb:H' b=some (.tup (v4 y))) (ts:qs3 H H') (hz:[a,w]∈LZ) :
  RAbs H' { D with Z:=putK D.Z (kk a w) (.ref b) } { s with z:=qd5 s.z [a,w] (qcc (s.z [a,w]) x) } LY LZ:=by
 have h2:=h.tups ts;have ev:y=qcc (s.z [a,w]) x:=by
  rcases po with ⟨p1,p2⟩|⟨h0,x0,p1,p2,p3⟩
  ·cases ez:s.z [a,w] with
   | none=>exact p2
   | some q =>
    obtain ⟨_,e1,_⟩:=h.zs _ q ez;rw[show kk a w=kI [a,w] from rfl,e1] at p1;cases p1
  ·cases ez:s.z [a,w] with
   | none =>
    have:=h.zn _ ez;rw[show kk a w=kI [a,w] from rfl,this] at p1;cases p1
   | some q =>
    obtain ⟨_,e1,e2⟩:=h.zs _ q ez;rw[show kk a w=kI [a,w] from rfl,e1] at p1;cases p1;rw[p2] at e2;have e3:v4 x0=v4 q:=by injection e2 with e2;injection e2
    rw[p3,qw1 e3]
    rfl
 subst ev;refine ⟨h2.yv,h2.yk,λk hk=>?_,λk q hk=>?_,?_⟩
 ·have hk:qd5 s.z [a,w] (qcc (s.z [a,w]) x) k=none:=hk
  show qcq (putK D.Z (kI [a,w]) _) (kI k)=_
  rw[qfn]
  by_cases hk2:k=[a,w]
  ·subst hk2;rw[qaw] at hk;cases hk
  ·rw[Ah (λz=>hk2 (qih z))]
   rw[qbk _ _ hk2] at hk;exact h.zn k hk
 ·have hk:qd5 s.z [a,w] (qcc (s.z [a,w]) x) k=some q:=hk
  show ∃ c,qcq (putK D.Z (kI [a,w]) (.ref b)) (kI k)=some (.ref c)/\_
  rw[qfn]
  by_cases hk2:k=[a,w]
  ·subst hk2
   rw[qaw] at hk;cases hk;exact ⟨b,Al rfl,hb⟩
  ·rw[qbk _ _ hk2] at hk
   rw[Ah (λz=>hk2 (qih z))];exact h2.zs k q hk
 ·obtain ⟨ks,d,e⟩:=h.zk
  obtain ⟨ks',d',e'⟩:=d.put [a,w] rfl (V.ref b);exact ⟨ks',d',λj hj=>(e' j).mp hj |>.elim (λz=>e z) λz=>by rw[z];exact hz⟩
def qcv (cell:Int->Option (Int×Int)) (s:Abs):List Int->Abs
 | [t,v,m]=>qcu cell s (t,v,m)
 | _=>s
def qb3 (cell:Int->Option (Int×Int)) (s:Abs):List Int->Abs
 | [a,_,m,t,lo,hi]=>qdm cell s a (m,t,lo,hi)
 | _=>s
def qfx (cell:Int->Option (Int×Int)) (s:Abs) (Y Z:List (List Int)):Abs:=Z.foldl (qb3 cell) (Y.foldl (qcv cell) s)
inductive ql4 (C R:Addr) (vs:List V) (H:Hp) (Q:VK) (E_:XK):Prop
 | mk:∀ (ro:Addr) (D:qar) (c h:Addr) (s w:Int) (x:HP4),vs=[.ref ro,.ref c,.ref h]->RollAt C R H ro D->H c=some (.tup [.int s,.int w])->H h=some (.tup (v4 x))->ZOk H D.Z->D.Z.length<=900->(∀ h2 y H',H' h2=some (.tup (v4 y))->qth H D.Z (kk s w) x y->RollAt C R H' ro { D with Z:=putK D.Z (kk s w) (.ref h2) }->But D.dh H H'->Q .non H')->ql4 C R vs H Q E_
inductive qpk (C R:Addr) (vs:List V) (H:Hp) (Q:VK) (E_:XK):Prop
 | mk:∀ (ro:Addr) (c:qar) (s:Abs) (LY LZ:List (List Int)) (a:Int) (h:Addr) (x:HP4),vs=[.ref ro,.int a,.ref h]->RR C R H ro c s LY LZ->qdl c->qnw a->H h=some (.tup (v4 x))->LZ.length<64->(∀ b w,cellD c a=some (b,w)->[b,w]∈LZ)->(∀ H',RR C R H' ro c (qdm (cellD c) s a x) LY LZ->But2 c.dy c.dh H H'->Q .non H')->qpk C R vs H Q E_
structure qpl (cell:Int->Option (Int×Int)) (LY LZ Y Z:List (List Int)):Prop where
 y:∀ r∈Y,∃ t v m,r=[t,v,m]/\ROk (t,v,m)/\[t,v]∈LY/\∀ a w,cell t=some (a,w)->[a,w]∈LZ
 z:∀ r∈Z,∃ a w m t lo hi,r=[a,w,m,t,lo,hi]/\qnw a/\∀ b w,cell a=some (b,w)->[b,w]∈LZ
def ApartD (c d:qar):Prop:=c.dy≠d.dy/\c.dy≠d.dh/\c.dh≠d.dy/\c.dh≠d.dh
inductive qfe (C R:Addr) (vs:List V) (H:Hp) (Q:VK) (E_:XK):Prop
 | mk:∀ (ro r2:Addr) (c c2:qar) (s s2:Abs) (LY LZ LY2 LZ2:List (List Int)),vs=[.ref ro,.ref r2]->RR C R H ro c s LY LZ->RR C R H r2 c2 s2 LY2 LZ2->qdl c->ApartD c2 c->LY.length<64->LZ.length<64->LY2.length<64->LZ2.length<64->qpl (cellD c) LY LZ (qb4 s2) (qcb s2)->(∀ H',RR C R H' ro c (qfx (cellD c) s (qb4 s2) (qcb s2)) LY LZ->But2 c.dy c.dh H H'->Q .non H')->qfe C R vs H Q E_
open PySem L2
theorem SKeys.nd {α:Type} {f:List Int->Option α} {ms:List (List Int)} (h:SKeys f ms):ms.Nodup:=h.srt.imp fun {k l} hb e=>by rw[e,qhz] at hb;cases hb
open PySem L2
theorem qff {ws es:List Int} {ge:Option Int} (hw:1<=ws.length) (he:1<=es.length) (t:Int):CellOf ws es ge t (qca ws es ge t):=by
 obtain ⟨o,h⟩:∃ o,CellOf ws es ge t o:=by
  by_cases c:es[0]<=t
  ·exact ⟨some (t,0),λe0 h0=>⟨λ_=>rfl,λz=>by rw[Ad (by omega)] at h0;have:=AJ h0;omega⟩⟩
  ·by_cases hg:qck ge t
   ·exact ⟨none,λe0 h0=>⟨λz=>by rw[Ad (by omega)] at h0;have:=AJ h0;omega,λ_=>⟨λ_=>rfl,λz=>absurd hg z⟩⟩⟩
   ·have hn:=qBl (ws:=ws) (es:=es) (t:=t) (w0:=ws[0]) (e0:=es[0]) (Ad (by omega)) (Ad (by omega)) (by omega)
    refine ⟨some (t / (wl ws es t)[(wl ws es t).length-1]*(wl ws es t)[(wl ws es t).length-1],(wl ws es t)[(wl ws es t).length-1]),λe0 h0=>⟨λz=>by rw[Ad (by omega)] at h0;have:=AJ h0;omega,λ_=>⟨λz=>absurd z hg,λ_=>⟨_,Ad (by omega),rfl⟩⟩⟩⟩
 rw[qky he h];exact h
theorem qpm {e t w:Int} (hw:1<=w) (h:w ∣ e) (hl:e<=t):e<=t / w*w:=by
 obtain ⟨k,rfl⟩:=h;have:k<=t / w:=(Int.le_ediv_iff_mul_le (by omega)).mpr (by rw[Cb];exact hl);rw[Cb w k];exact Int.mul_le_mul_of_nonneg_right this (by omega)
def qCh (W:Int) (cell:Int->Option (Int×Int)):Prop:=∀ t a w,cell t=some (a,w)->a<=t/\t-W<=a
theorem qti {ws es:List Int} {ge:Option Int} {W:Int} (hw:1<=ws.length) (he:1<=es.length) (hW:0<=W) (hb:∀ w∈ws,1<=w/\w<=W):qCh W (qca ws es ge):=λt a w e=>by
 have h:=qff (ge:=ge) hw he t;rw[e] at h;obtain ⟨h1,h2⟩:=h es[0] (Ad (by omega))
 by_cases c:es[0]<=t
 ·have:=h1 c
  cases this;omega
 ·obtain ⟨g1,g2⟩:=h2 (by omega)
  by_cases hg:qck ge t
  ·cases g1 hg
  ·obtain ⟨w',hl,e2⟩:=g2 hg
   cases e2;have:=hb w (qta (An hl));have h1:=Int.ediv_mul_le t (b:=w) (by omega);have h2:=Int.lt_ediv_add_one_mul_self t (b:=w) (by omega);rw[Int.add_mul,Int.one_mul] at h2;omega
open PySem L2
def qy8 (cell:Int->Option (Int×Int)) (r:Rd3):List Int:=match cell r.1 with
 | none=>[]
 | some (a,w)=>if w=0 then [0,r.1,r.2.1] else [1,a,w]
def Tags (cell:Int->Option (Int×Int)) (s:Abs) (L:List Rd3):Prop:=(∀ k,s.y k≠none->∃ r∈L,qy8 cell r=0 :: k)/\∀ k,s.z k≠none->∃ r∈L,qy8 cell r=1 :: k
theorem Tags.put {cell:Int->Option (Int×Int)} {s:Abs} {L:List Rd3} (h:Tags cell s L) (r:Rd3):Tags cell (qcu cell s r) (L ++ [r]):=by
 have up:∀ {x:List Int},(∃ r∈L,qy8 cell r=x)->∃ q∈L ++ [r],qy8 cell q=x:=fun ⟨q,hq,e⟩=>⟨q,Ck _ hq,e⟩
 have me:r∈L ++ [r]:=AM _ Au;unfold qcu
 rcases e:cell r.1 with _|⟨a,w⟩
 ·exact ⟨λk hk=>up (h.1 k hk),λk hk=>up (h.2 k hk)⟩
 ·dsimp only
  split
  ·rename_i hw
   refine ⟨λk hk=>?_,λk hk=>up (h.2 k hk)⟩
   by_cases ek:k=[r.1,r.2.1]
   ·exact ⟨r,me,by unfold qy8;rw[e];dsimp only;rw[Al hw,ek]⟩
   ·have hk:qd5 s.y [r.1,r.2.1] _ k≠none:=hk
    rw[qbk _ _ ek] at hk;exact up (h.1 k hk)
  ·rename_i hw
   refine ⟨λk hk=>up (h.1 k hk),λk hk=>?_⟩
   by_cases ek:k=[a,w]
   ·exact ⟨r,me,by unfold qy8;rw[e];dsimp only;rw[Ah hw,ek]⟩
   ·have hk:qd5 s.z [a,w] _ k≠none:=hk
    rw[qbk _ _ ek] at hk;exact up (h.2 k hk)
theorem Tags.puts {cell:Int->Option (Int×Int)}:∀ (rs:List Rd3) {s:Abs} {L:List Rd3},Tags cell s L->Tags cell (rs.foldl (qcu cell) s) (L ++ rs)
 | [],_,L,h=>by rw[AN];exact h
 | r :: t,s,L,h=>by
  have:=Tags.puts t (h.put r);rw[Dd] at this;exact this
theorem qy9 (cell:Int->Option (Int×Int)) (rs:List Rd3):Tags cell (qdi cell rs) rs:=Tags.puts rs (L:=[]) ⟨λ_ h=>absurd rfl h,λ_ h=>absurd rfl h⟩
structure AbsB (B N:Int) (s:Abs):Prop where
 y:∀ k n,s.y k=some n->∃ t v,k=[t,v]/\(-B<=t/\t<=B)/\(-(10 ^ 45)<v/\v<10 ^ 45)/\1<=n/\n<=N
 z:∀ k x,s.z k=some x->∃ a w,k=[a,w] /\ -B<=a/\a<=B
theorem qDp {B N:Int}:AbsB B N qpf:=⟨(λ_ _ h=>by cases h),(λ_ _ h=>by cases h)⟩
theorem AbsB.put {B W N M:Int} {cell:Int->Option (Int×Int)} (cn:qCh W cell) {s:Abs} (h:AbsB B N s) (hN:0<=N) (hM:0<=M) {r:Rd3} (ht:-B<=r.1-W/\r.1<=B) (hW:0<=W) (hv:-(10 ^ 45)<r.2.1/\r.2.1<10 ^ 45) (hm:1<=r.2.2/\r.2.2<=M):AbsB B (N+M) (qcu cell s r):=by
 have h':AbsB B (N+M) s:=⟨λk n e=>by obtain ⟨t,v,e1,e2,e3,e4,e5⟩:=h.y k n e;exact ⟨t,v,e1,e2,e3,e4,by omega⟩,h.z⟩;unfold qcu
 rcases e:cell r.1 with _|⟨a,w⟩
 ·exact h'
 ·dsimp only
  split
  ·refine ⟨λk n hk=>?_,h'.z⟩
   have hk:qd5 s.y [r.1,r.2.1] _ k=some n:=hk
   by_cases ek:k=[r.1,r.2.1]
   ·rw[ek,qaw] at hk
    have hk:=AJ hk;refine ⟨r.1,r.2.1,ek,by omega,hv,?_⟩
    cases e2:s.y [r.1,r.2.1] with
    | none=>rw[e2] at hk;simp at hk;omega
    | some n0 =>
     obtain ⟨_,_,_,_,_,e4,e5⟩:=h.y _ _ e2;rw[e2] at hk
     simp at hk
     omega
   ·rw[qbk _ _ ek] at hk;exact h'.y k n hk
  ·refine ⟨h'.y,λk x hk=>?_⟩
   have hk:qd5 s.z [a,w] _ k=some x:=hk
   by_cases ek:k=[a,w]
   ·have:=cn _ _ _ e
    exact ⟨a,w,ek,by omega,by omega⟩
   ·rw[qbk _ _ ek] at hk;exact h'.z k x hk
def RLt (r:Rd3):Prop:=(-(5*10 ^ 45)<=r.1/\r.1<=5*10 ^ 45)/\(-(10 ^ 45)<r.2.1/\r.2.1<10 ^ 45)/\1<=r.2.2/\r.2.2<=10 ^ 31
theorem qtj {cell:Int->Option (Int×Int)} (cn:qCh (10 ^ 36) cell):∀ (rs:List Rd3) {s:Abs} {N:Int},AbsB (5*10 ^ 45+10 ^ 36) N s->0<=N->(∀ r∈rs,RLt r)->AbsB (5*10 ^ 45+10 ^ 36) (N+10 ^ 31*rs.length) (rs.foldl (qcu cell) s)
 | [],s,N,h,_,_=>by simpa using h
 | r :: t,s,N,h,hN,hr=>by
  obtain ⟨h1,h2,h3,h4⟩:=hr r Au;have a:=h.put cn hN (M:=10 ^ 31) (by omega) (r:=r) (by omega) (by omega) h2 ⟨h3,h4⟩;have:=qtj cn t a (by omega) λq hq=>hr q (Ap _ hq)
  rw[CW];have e:N+10 ^ 31+10 ^ 31*(t.length:Int)=N+10 ^ 31*((r :: t).length:Int):=by
   rw[Az];push_cast;omega
  rw[<- e];exact this
theorem qkz {α:Type} {f:List Int->Option α} {ks:List (List Int)} (nd:ks.Nodup) (h:∀ k,k∈ks↔f k≠none):∃ ms,SKeys f ms/\ms.length=ks.length:=by
 have tot:∀ a b:List Int,(!blt b a || !blt a b)=true:=λa b=>by
  cases h1:blt b a<;>cases h2:blt a b<;>simp
  exact qkx h1 h2
 have tr:∀ a b c:List Int,(!blt b a)=true->(!blt c b)=true->(!blt c a)=true:=λa b c h1 h2=>by
  simp at h1 h2 ⊢
  by_cases e1:a=b
  ·subst e1;exact h2
  ·by_cases e2:b=c
   ·subst e2;exact h1
   ·have a1:=qfa b a (λz=>e1 z.symm) h1
    have a2:=qfa c b (λz=>e2 z.symm) h2;have a3:=qjr _ _ _ a1 a2
    cases h3:blt c a with
    | false=>rfl
    | true=>exact (qkx a3 h3).elim
 have pm:=List.mergeSort_perm ks (λa b=>!blt b a);refine ⟨ks.mergeSort (λa b=>!blt b a),⟨?_,λk=>by rw[pm.mem_iff,h]⟩,pm.length_eq⟩;have srt:=EI tr tot ks;have nd':=pm.nodup_iff.mpr nd;rw[C7] at nd';refine (srt.and nd').imp fun {a b} hab=>?_
 obtain ⟨h1,h2⟩:=hab
 simp at h1
 exact qfa b a (λz=>h2 z.symm) h1
open PySem L2
structure Fall (ws es:List Int) (ge:Option Int):Prop where
 len:ws.length=es.length
 pos:∀ (i:Nat) w,ws[i]?=some w->1<=w
 dv:∀ (i j:Nat) a b,i<=j->ws[i]?=some a->ws[j]?=some b->a ∣ b
 ml:∀ (i:Nat) w e,ws[i]?=some w->es[i]?=some e->w ∣ e
 gl:∀ (i:Nat) w z,ws[i]?=some w->ge=some z->w ∣ z
 dn:∀ (i j:Nat) a b,i<=j->es[i]?=some a->es[j]?=some b->b<=a
structure StepAt (ws es:List Int) (t:Int) (i:Nat) (w e:Int):Prop where
 gw:ws[i]?=some w
 ge:es[i]?=some e
 lt:t<e
 nx:∀ e',es[i+1]?=some e'->e'<=t
theorem qDq {ws es:List Int} {t:Int} (h:∀ x∈es,x<=t):wl ws es t=[]:=by
 unfold wl;rw[List.filter_eq_nil_iff.mpr,Dr];intro x hx;have:=h x.2 (CV hx).2
 simp;omega
theorem ql5:∀ {i:Nat} {ws es:List Int} {t w e:Int},(∀ (i j:Nat) a b,i<=j->es[i]?=some a->es[j]?=some b->b<=a)->StepAt ws es t i w e->(wl ws es t).getLast?=some w
 | 0,ws,es,t,w,e,F,S=>by
  cases ws with
  | nil=>have:=S.gw;simp at this
  | cons w1 wr =>
   cases es with
   | nil=>have:=S.ge;simp at this
   | cons e1 er =>
    have ew:=S.gw;have ee:=S.ge
    simp at ew ee
    subst ew;subst ee;have hr:∀ x∈er,x<=t:=λx hx=>by
     obtain ⟨k,hk,rfl⟩:=AZ hx;have h0:0<er.length:=by omega
     have a:=S.nx er[0] (by simp[h0]);have b:=F 1 (k+1) er[0] er[k] (by omega) (by simp[h0]) (by simp[hk]);omega
    have e1:wl (w1 :: wr) (e1 :: er) t=w1 :: wl wr er t:=by
     unfold wl;rw[C5,CC (by simpa using S.lt)];rfl
    rw[e1,qDq hr];rfl
 | i+1,ws,es,t,w,e,F,S=>by
  cases ws with
  | nil=>have:=S.gw;simp at this
  | cons w1 wr =>
   cases es with
   | nil=>have:=S.ge;simp at this
   | cons e1 er =>
    have S':StepAt wr er t i w e:=⟨by simpa using S.gw,by simpa using S.ge,S.lt,λe' h=>S.nx e' (by simpa using h)⟩;have ih:=ql5 (λa b x y h h1 h2=>F (a+1) (b+1) x y (by omega) (by simpa using h1) (by simpa using h2)) S';have hlt:t<e1:=by
     have:=F 0 (i+1) e1 e (by omega) (by simp) S.ge;have:=S.lt;omega
    have e2:wl (w1 :: wr) (e1 :: er) t=w1 :: wl wr er t:=by
     unfold wl;rw[C5,CC (by simpa using hlt)];rfl
    rw[e2,List.getLast?_cons,ih];rfl
theorem qik:∀ {es ws:List Int} {t e0:Int},ws.length=es.length->es[0]?=some e0->t<e0->∃ i w e,StepAt ws es t i w e
 | [],ws,t,e0,_,h,_=>by simp at h
 | e1 :: er,[],t,e0,hl,_,_=>by simp at hl
 | e1 :: er,w1 :: wr,t,e0,hl,h,hlt=>by
  simp at h
  subst h
  by_cases hc:∃ e2,er[0]?=some e2/\t<e2
  ·obtain ⟨e2,he2,h2⟩:=hc
   obtain ⟨i,w,e,S⟩:=qik (es:=er) (ws:=wr) (by simpa using hl) he2 h2;exact ⟨i+1,w,e,by simpa using S.gw,by simpa using S.ge,S.lt,λe' h=>S.nx e' (by simpa using h)⟩
  ·refine ⟨0,w1,e1,by simp,by simp,hlt,λe' h=>?_⟩
   have h':er[0]?=some e':=by simpa using h
   by_cases z:t<e'
   ·exact absurd ⟨e',h',z⟩ hc
   ·omega
theorem ql6 {w t e:Int} (hw:1<=w) (hd:w ∣ e) (h:t<e):t / w*w+w<=e:=by
 obtain ⟨k,rfl⟩:=hd;have h1:t / w<k:=Fd (by omega) (by rwa [Cb] at h);have h2:=D7 (show t / w+1<=k by omega) (show 0<=w by omega);rw[D8,D6,Cb w (t / w)] at h2;exact h2
theorem qqp {w:Int} (t:Int) (hw:1<=w):t / w*w<=t/\t<t / w*w+w:=by
 have a:=Int.mul_ediv_add_emod t w;have b:=Be t (show w≠0 by omega);have c:=A8 t (show 0<w by omega);rw[Cb] at a;omega
theorem qil (t w:Int):w ∣ t / w*w:=⟨t / w,Cb _ _⟩
theorem qza {w s x:Int} (hw:1<=w) (hd:w ∣ x) (h1:x<=s) (h2:s<x+w):s / w*w=x:=by
 have a:=qpm hw hd h1;have b:=qqp s hw;obtain ⟨k,rfl⟩:=hd;have c:=ql6 hw (show w ∣ w*(k+1) from ⟨k+1,rfl⟩) (show s<w*(k+1) by rw[D8,D6];exact h2);rw[D8,D6] at c;omega
theorem StepAt.cell {ws es:List Int} {ge:Option Int} {t s w e:Int} {i:Nat} (F:Fall ws es ge) (S:StepAt ws es t i w e) (h1:t / w*w<=s) (h2:s<t / w*w+w):StepAt ws es s i w e/\(qck ge s↔qck ge t)/\s / w*w=t / w*w:=by
 have hw:=F.pos i w S.gw;refine ⟨⟨S.gw,S.ge,?_,λe' he'=>?_⟩,?_,qza hw (qil t w) h1 h2⟩
 ·have:=ql6 hw (F.ml i w e S.gw S.ge) S.lt
  omega
 ·have hl:i+1<ws.length:=by rw[F.len];exact (Ai.mp he').1
  have hd:w ∣ e':=Ct (F.dv i (i+1) w ws[i+1] (by omega) S.gw (Ad hl)) (F.ml (i+1) _ e' (Ad hl) he');have:=qpm hw hd (S.nx e' he');omega
 ·constructor
  ·rintro ⟨z,hz,h⟩
   have hd:=F.gl i w z S.gw hz;refine ⟨z,hz,?_⟩
   by_cases c:t<z
   ·exact c
   ·have:=qpm hw hd (show z<=t by omega);omega
  ·rintro ⟨z,hz,h⟩
   have hd:=F.gl i w z S.gw hz;exact ⟨z,hz,by have:=ql6 hw hd h;omega⟩
theorem StepAt.idx {ws es:List Int} {ge:Option Int} {t:Int} {i j:Nat} {w e w' e':Int} (F:Fall ws es ge) (S:StepAt ws es t i w e) (h:es[j]?=some e') (hlt:t<e'):j<=i:=by
 by_cases c:j<=i
 ·exact c
 ·have hl:i+1<es.length:=by have:=(Ai.mp h).1;omega
  have a:=S.nx es[i+1] (Ad hl);have b:=F.dn (i+1) j _ e' (by omega) (Ad hl) h;omega
open PySem L2
theorem qk0 {ws es:List Int} {ge:Option Int} {t w e e0:Int} {i:Nat} (F:Fall ws es ge) (h0:es[0]?=some e0) (S:StepAt ws es t i w e) (hg:¬ qck ge t):CellOf ws es ge t (some (t / w*w,w)):=by
 have hlt:t<e0:=by have:=F.dn 0 i e0 e (by omega) h0 S.ge;have:=S.lt;omega
 exact CellOf.c h0 hlt hg (by rw[<- Et];exact ql5 F.dn S)
theorem qqq {ws es:List Int} {ge:Option Int} {t e0:Int} {o:Option (Int×Int)} (F:Fall ws es ge) (h0:es[0]?=some e0) (C:CellOf ws es ge t o) :
  (e0<=t/\o=some (t,0))\/(t<e0/\qck ge t/\o=none)\/(t<e0/\¬ qck ge t/\∃ i w e,StepAt ws es t i w e/\o=some (t / w*w,w)):=by
 by_cases hc:e0<=t
 ·exact .inl ⟨hc,C.uniq h0 (CellOf.a h0 hc)⟩
 ·have hlt:t<e0:=by omega
  by_cases hg:qck ge t
  ·exact .inr (.inl ⟨hlt,hg,C.uniq h0 (CellOf.b h0 hlt hg)⟩)
  ·obtain ⟨i,w,e,S⟩:=qik F.len h0 hlt
   exact .inr (.inr ⟨hlt,hg,i,w,e,S,C.uniq h0 (qk0 F h0 S hg)⟩)
theorem behind {ws es:List Int} {ge:Option Int} {t w e e0:Int} {i:Nat} {o:Option (Int×Int)} (F:Fall ws es ge) (h0:es[0]?=some e0) (S:StepAt ws es t i w e) (hg:¬ qck ge t) (C:CellOf ws es ge (t / w*w+w) o):∃ p,o=some p/\p.1=t / w*w+w:=by
 have hw:=F.pos i w S.gw;have h1:=qqp t hw
 rcases qqq F h0 C with ⟨_,rfl⟩|⟨_,⟨z,hz,h⟩,rfl⟩|⟨_,_,j,w',e',S',rfl⟩
 ·exact ⟨_,rfl,rfl⟩
 ·exact absurd ⟨z,hz,by omega⟩ hg
 ·refine ⟨_,rfl,?_⟩
  have hji:j<=i:=StepAt.idx (w':=w') (e':=e') F S S'.ge (by have:=S'.lt;omega);have hd:w' ∣ w:=F.dv j i w' w hji S'.gw S.gw;have hw':=F.pos j w' S'.gw;exact qza hw' (Int.dvd_add (Ct hd (qil t w)) hd) (by omega) (by omega)
structure Later (es es':List Int) (ge ge':Option Int):Prop where
 len:es'.length=es.length
 up:∀ (i:Nat) a b,es[i]?=some a->es'[i]?=some b->a<=b
 gn:∀ z,ge=some z->∃ z',ge'=some z'/\z<=z'
theorem Later.gone {es es':List Int} {ge ge':Option Int} {t:Int} (L:Later es es' ge ge') (h:qck ge t):qck ge' t:=by
 obtain ⟨z,hz,h⟩:=h;obtain ⟨z',hz',h'⟩:=L.gn z hz;exact ⟨z',hz',by omega⟩
theorem qqr {ws es es':List Int} {ge ge':Option Int} {t e0 e0':Int} {o:Option (Int×Int)} (L:Later es es' ge ge') (h0:es[0]?=some e0) (h0':es'[0]?=some e0') (hlt:t<e0) (hg:qck ge t) (C:CellOf ws es' ge' t o):o=none:=
 C.uniq h0' (CellOf.b h0' (by have:=L.up 0 e0 e0' h0 h0';omega) (L.gone hg))
theorem qqs {ws es es':List Int} {ge ge':Option Int} {t w e e0':Int} {i:Nat} (F:Fall ws es ge) (F':Fall ws es' ge') (L:Later es es' ge ge') (h0':es'[0]?=some e0') (S:StepAt ws es t i w e) :
  ∃ o,(∀ s,t / w*w<=s->s<t / w*w+w->∀ o',CellOf ws es' ge' s o'->o'=o)/\∀ p,o=some p->p.1<=t / w*w/\t / w*w+w<=p.1+p.2:=by
 have hw:=F.pos i w S.gw;have h1:=qqp t hw;have hle:i<es'.length:=by rw[L.len];exact (Ai.mp S.ge).1
 have hu:=L.up i e es'[i] S.ge (Ad hle);have hend:=ql6 hw (F.ml i w e S.gw S.ge) S.lt;have hlt0:t / w*w<e0':=by
  have:=F'.dn 0 i e0' es'[i] (by omega) h0' (Ad hle);omega
 obtain ⟨j,w',e',S'⟩:=qik F'.len h0' hlt0;have hij:i<=j:=StepAt.idx (w':=w') (e':=es'[i]) F' S' (Ad hle) (by omega);have hd:w ∣ w':=F.dv i j w w' hij S.gw S'.gw;have hw':=F'.pos j w' S'.gw;have h2:=qqp (t / w*w) hw';have h3:t / w*w+w<=t / w*w / w'*w'+w':=by
  have hdd:w ∣ t / w*w / w'*w'+w':=Int.dvd_add (Ct hd (qil _ w')) hd;have:=ql6 hw hdd (show t / w*w<t / w*w / w'*w'+w' by omega);have e:t / w*w / w*w=t / w*w:=qza hw (qil t w) (by omega) (by omega);omega
 have all:∀ s,t / w*w<=s->s<t / w*w+w->StepAt ws es' s j w' e'/\(qck ge' s↔qck ge' (t / w*w))/\s / w'*w'=t / w*w / w'*w':=
  λs a b=>StepAt.cell F' S' (by omega) (by omega)
 by_cases hg:qck ge' (t / w*w)
 ·refine ⟨none,λs a b o' C=>?_,λp h=>by cases h⟩
  obtain ⟨S2,g2,_⟩:=all s a b;have:s<e0':=by have:=F'.dn 0 j e0' e' (by omega) h0' S2.ge;have:=S2.lt;omega
  exact C.uniq h0' (CellOf.b h0' this (g2.mpr hg))
 ·refine ⟨some (t / w*w / w'*w',w'),λs a b o' C=>?_,λp h=>?_⟩
  ·obtain ⟨S2,g2,e2⟩:=all s a b
   have:=C.uniq h0' (qk0 F' h0' S2 λg=>hg (g2.mp g));rw[this,e2]
  ·cases h
   exact ⟨h2.1,h3⟩
open PySem L2
theorem qk1 {ps:List (Int×Int)} (G:Good ps):∀ (k i:Nat) p q,ps[i]?=some p->ps[i+k]?=some q->p.1<=q.1/\p.2 ∣ q.2
 | 0,i,p,q,hp,hq=>by rw[Nat.add_zero,hp] at hq;cases hq;exact ⟨CS _,Int.dvd_refl _⟩
 | k+1,i,p,q,hp,hq=>by
  have hl:i+k<ps.length:=by have:=(Ai.mp hq).1;omega
  obtain ⟨a,b⟩:=qk1 G k i p ps[i+k] hp (Ad hl);obtain ⟨c,d⟩:=G.next (i+k) ps[i+k] q (Ad hl) (by rw[Nat.add_assoc];exact hq);exact ⟨by omega,Ct b (Dl d)⟩
theorem Fall.of {ps:List (Int×Int)} {g:Option Int} (P:Pr ps g) (d:Int):Fall (ps.map (·.2)) (ps.map λp=>cut d p.1 p.2) (g.map λz=>cut d z (lw ps)) where
 len:=by rw[Ac,Ac]
 pos:=λi w h=>by
  rw[Ay] at h;obtain ⟨p,hp,rfl⟩:=AH.mp h;exact (P.good.each i p hp).2
 dv:=λi j a b hij ha hb=>by
  rw[Ay] at ha hb;obtain ⟨p,hp,rfl⟩:=AH.mp ha;obtain ⟨q,hq,rfl⟩:=AH.mp hb;exact (qk1 P.good (j-i) i p q hp (by rw[show i+(j-i)=j by omega];exact hq)).2
 ml:=λi w e hw he=>by
  rw[Ay] at hw he;obtain ⟨p,hp,rfl⟩:=AH.mp hw;rw[hp] at he;cases he;exact qil _ _
 gl:=λi w z hw hz=>by
  rw[Ay] at hw;obtain ⟨p,hp,rfl⟩:=AH.mp hw;obtain ⟨y,rfl,rfl⟩:=AH.mp hz;obtain ⟨q,hq,eq⟩:=P.last;have hi:=(Ai.mp hp).1;have:=(qk1 P.good (ps.length-1-i) i p q hp (by rw[show i+(ps.length-1-i)=ps.length-1 by omega];exact hq)).2;rw[eq];exact Ct this (qil _ _)
 dn:=λi j a b hij ha hb=>by
  rw[Ay] at ha hb;obtain ⟨p,hp,rfl⟩:=AH.mp ha;obtain ⟨q,hq,rfl⟩:=AH.mp hb;obtain ⟨h1,h2⟩:=qk1 P.good (j-i) i p q hp (by rw[show i+(j-i)=j by omega];exact hq);have wp:=(P.good.each i p hp).2;have wq:=(P.good.each j q hq).2;have a:=(qqp (d-q.1) wq).1;exact qpm wp (Ct h2 (qil _ _)) (show (d-q.1) / q.2*q.2<=d-p.1 by omega)
def mx (i j:Int):Int:=if j>i then j else i
theorem qBu (i j:Int):i<=mx i j/\j<=mx i j/\(mx i j=i\/mx i j=j):=by unfold mx;split<;>omega
theorem qvr {a b:List Int} {i:Nat} {x:Int} (h:(List.zipWith mx a b)[i]?=some x):∃ u v,a[i]?=some u/\b[i]?=some v/\x=mx u v:=by
 rw[Fb] at h
 split at h
 ·rename_i u v hu hv;exact ⟨u,v,hu,hv,(AJ h).symm⟩
 ·cases h
theorem qzb {g1 g2:Option Int} {z:Int} (h:qy2 g1 g2=some z):g1=some z\/g2=some z:=by
 cases g1 with
 | none=>exact .inr h
 | some i =>
  cases g2 with
  | none=>exact .inl h
  | some j =>
   simp only[qy2,Option.some.injEq] at h;rw[<- h]
   split
   ·exact .inr rfl
   ·exact .inl rfl
theorem Fall.max {ws a b:List Int} {g1 g2:Option Int} (F:Fall ws a g1) (G:Fall ws b g2):Fall ws (List.zipWith mx a b) (qy2 g1 g2) where
 len:=by rw[BI,<- F.len,<- G.len];omega
 pos:=F.pos
 dv:=F.dv
 ml:=λi w e hw he=>by
  obtain ⟨u,v,hu,hv,rfl⟩:=qvr he
  rcases (qBu u v).2.2 with h|h
  ·rw[h];exact F.ml i w u hw hu
  ·rw[h];exact G.ml i w v hw hv
 gl:=λi w z hw hz=>by
  rcases qzb hz with h|h
  ·exact F.gl i w z hw h
  ·exact G.gl i w z hw h
 dn:=λi j x y hij hx hy=>by
  obtain ⟨u,v,hu,hv,rfl⟩:=qvr hx;obtain ⟨u',v',hu',hv',rfl⟩:=qvr hy;have c:=F.dn i j u u' hij hu hu';have d:=G.dn i j v v' hij hv hv';have e:=qBu u v
  rcases (qBu u' v').2.2 with h|h<;>omega
open PySem L2
theorem qk2 (cell:Int->Option (Int×Int)) (s:Abs) (r:Rd3) (b:Int) (x:HP4):qdm cell (qcu cell s r) b x=qcu cell (qdm cell s b x) r:=by
 unfold qcu qdm
 rcases e1:cell r.1 with _|⟨a,w⟩
 ·rcases e2:cell b with _|⟨c,u⟩<;>rfl
 ·rcases e2:cell b with _|⟨c,u⟩
  ·rfl
  ·dsimp only
   by_cases hw:w=0
   ·rw[Al hw,Al hw]
   ·rw[Ah hw,Ah hw]
    dsimp only
    by_cases hk:[a,w]=[c,u]
    ·rw[hk,qaw,qbs,qaw,qbs,qgg]
    ·rw[qbk _ _ (λz=>hk z.symm),qbk _ _ hk,qfw _ _ _ hk]
theorem qtk (cell:Int->Option (Int×Int)) (s:Abs) (r z:List Int):qb3 cell (qcv cell s r) z=qcv cell (qb3 cell s z) r:=by
 unfold qb3 qcv
 split<;>split<;>first|rfl|exact qk2 _ _ _ _ _
theorem ql7 (cell:Int->Option (Int×Int)):∀ (Z:List (List Int)) (s:Abs) (r:List Int),Z.foldl (qb3 cell) (qcv cell s r)=qcv cell (Z.foldl (qb3 cell) s) r
 | [],_,_=>rfl
 | z :: t,s,r=>by rw[CW,CW,qtk,ql7 cell t]
open PySem L2
theorem qc1 {S A:Type} {op:S->A->S} (comm:∀ s r q,op (op s r) q=op (op s q) r) {l l':List A} (p:l.Perm l'):∀ s,l.foldl op s=l'.foldl op s:=by
 induction p with
 | nil=>intro s;rfl
 | cons x _ ih=>intro s;exact ih _
 | swap x y l=>intro s;simp only[CW];rw[comm]
 | trans _ _ ih1 ih2=>intro s;rw[ih1,ih2]
theorem qdw {S A:Type} {op:S->A->S} (comm:∀ s r q,op (op s r) q=op (op s q) r) (x:A) (l:List A) (s:S):(x :: l).foldl op s=op (l.foldl op s) x:=by
 have h:=qc1 comm (List.perm_append_comm (l₁:=[x]) (l₂:=l)) s;have e:(l ++ [x]).foldl op s=op (l.foldl op s) x:=by rw[Dc];rfl
 rw[<- e,<- h];rfl
theorem ql8 {S:Type} {op:S->List Int->S} (comm:∀ s r q,op (op s r) q=op (op s q) r) {ms:List (List Int)} (nd:ms.Nodup) {f g:List Int->List Int} {k:List Int} (hk:k∈ms) (hfg:∀ j,j≠k->f j=g j) (s:S):∃ X,(ms.map f).foldl op s=op X (f k)/\(ms.map g).foldl op s=op X (g k):=by
 have p:=List.perm_cons_erase hk;have nd':=p.nodup_iff.mp nd;rw[Bf] at nd';have e:(ms.erase k).map f=(ms.erase k).map g:=Ba λj hj=>hfg j λz=>nd'.1 (z ▸ hj)
 refine ⟨((ms.erase k).map f).foldl op s,?_,?_⟩
 ·rw[qc1 comm (p.map f) s,Aw,qdw comm]
 ·rw[qc1 comm (p.map g) s,Aw,qdw comm,e]
theorem qfg (cell:Int->Option (Int×Int)) (s:Abs) (r q:List Int):qcv cell (qcv cell s r) q=qcv cell (qcv cell s q) r:=by
 unfold qcv
 split<;>split<;>first|rfl|exact qtg _ _ _ _
theorem qqt (cell:Int->Option (Int×Int)) (s:Abs) (a b:Int) (x y:HP4):qdm cell (qdm cell s a x) b y=qdm cell (qdm cell s b y) a x:=by
 unfold qdm
 rcases e1:cell a with _|⟨c,u⟩
 ·rcases e2:cell b with _|⟨d,w⟩<;>rfl
 ·rcases e2:cell b with _|⟨d,w⟩
  ·rfl
  ·dsimp only
   by_cases hk:[c,u]=[d,w]
   ·rw[hk,qaw,qbs,qaw,qbs,qgg]
   ·rw[qbk _ _ (λz=>hk z.symm),qbk _ _ hk,qfw _ _ _ hk]
theorem qeg (cell:Int->Option (Int×Int)) (s:Abs) (r q:List Int):qb3 cell (qb3 cell s r) q=qb3 cell (qb3 cell s q) r:=by
 unfold qb3
 split<;>split<;>first|rfl|exact qqt _ _ _ _ _ _
structure ql9 (cell cell':Int->Option (Int×Int)):Prop where
 n:∀ t,cell t=none->cell' t=none
 h:∀ t a w,cell t=some (a,w)->w≠0->cell' t=cell' a/\∀ b u,cell' a=some (b,u)->u≠0
structure KF (s:Abs):Prop where
 y:∃ my,SKeys s.y my/\∀ k∈my,k.length=2
 z:∃ mz,SKeys s.z mz/\∀ k∈mz,k.length=2
theorem qfy {α:Type} {f:List Int->Option α} {ms:List (List Int)} (h:SKeys f ms) (h2:∀ k∈ms,k.length=2) {k:List Int} (hk:k.length=2) (x:α):∃ ms',SKeys (qd5 f k x) ms'/\(∀ j∈ms',j.length=2)/\((k∈ms->ms'=ms)/\(k ∉ ms->ms'.Perm (k :: ms))):=by
 by_cases c:k∈ms
 ·refine ⟨ms,⟨h.srt,λj=>?_⟩,h2,λ_=>rfl,λz=>absurd c z⟩
  by_cases e:j=k
  ·subst e;rw[qaw];simp[c]
  ·rw[qbk _ _ e];exact h.mem j
 ·have nd:(k :: ms).Nodup:=Bf.mpr ⟨c,h.nd⟩
  have mem:∀ j,j∈k :: ms↔qd5 f k x j≠none:=λj=>by
   by_cases e:j=k
   ·subst e;rw[qaw];simp
   ·rw[qbk _ _ e,Ak]
    exact ⟨λz=>(h.mem j).mp (z.resolve_left e),λz=>.inr ((h.mem j).mpr z)⟩
  obtain ⟨ms',s',_⟩:=qkz nd mem;have pm:ms'.Perm (k :: ms):=by
   rw[El s'.nd nd];intro j;rw[s'.mem,mem]
  refine ⟨ms',s',λj hj=>?_,λz=>absurd z c,λ_=>pm⟩
  rcases Ak.mp (pm.mem_iff.mp hj) with e|e
  ·rw[e];exact hk
  ·exact h2 j e
theorem qqu {S0:Abs} {cell':Int->Option (Int×Int)} {s:Abs} {my mz:List (List Int)} (sy:SKeys s.y my) (h2:∀ k∈my,k.length=2) (sz:SKeys s.z mz) (t v m:Int) :
  qfx cell' S0 (qb4 { s with y:=qd5 s.y [t,v] ((s.y [t,v]).getD 0+m) }) (qcb { s with y:=qd5 s.y [t,v] ((s.y [t,v]).getD 0+m) })=qcu cell' (qfx cell' S0 (qb4 s) (qcb s)) (t,v,m):=by
 obtain ⟨my',sy',_,hin,hout⟩:=qfy sy h2 (k:=[t,v]) rfl ((s.y [t,v]).getD 0+m)
 generalize es:({ s with y:=qd5 s.y [t,v] ((s.y [t,v]).getD 0+m) }:Abs)=s'
 have ey':s'.y=qd5 s.y [t,v] ((s.y [t,v]).getD 0+m):=by rw[<- es]
 have ez':s'.z=s.z:=by rw[<- es]
 have sy'':SKeys s'.y my':=by rw[ey'];exact sy'
 have ezr:qcb s'=qcb s:=by
  have:SKeys s'.z mz:=by rw[ez'];exact sz
  rw[<- qdb this,<- qdb sz];refine Ba λk _=>?_
  unfold qpj;rw[ez']
 rw[ezr,<- qda sy'',<- qda sy];unfold qfx
 show _=qcv cell' ((qcb s).foldl (qb3 cell') ((my.map (qnx s)).foldl (qcv cell') S0)) [t,v,m]
 rw[<- ql7]
 congr 1
 have ne:∀ j,j≠[t,v]->qnx s' j=qnx s j:=λj hj=>by unfold qnx;rw[ey',qbk _ _ hj]
 have at_:qnx s' [t,v]=[t,v,(s.y [t,v]).getD 0+m]:=by unfold qnx;rw[ey',qaw];rfl
 by_cases c:[t,v]∈my
 ·rw[hin c]
  obtain ⟨X,e1,e2⟩:=ql8 (qfg cell') sy.nd c ne S0;rw[e1,e2,at_]
  show qcu cell' X (t,v,_)=qcu cell' (qcu cell' X (t,v,(s.y [t,v]).getD 0)) (t,v,m)
  rw[qqo]
 ·rw[qc1 (qfg cell') ((hout c).map _) S0,Aw,qdw (qfg cell'),at_]
  have e:my.map (qnx s')=my.map (qnx s):=Ba λj hj=>ne j λz=>c (by rw[<- z];exact hj)
  have en:s.y [t,v]=none:=by
   cases q:s.y [t,v] with
   | none=>rfl
   | some n=>exact absurd ((sy.mem _).mpr (by rw[q];simp)) c
  rw[e,en]
  show qcu cell' _ (t,v,0+m)=qcu cell' _ (t,v,m)
  rw[CJ]
theorem qtl (a b c:HP4):mg4 (mg4 a b) c=mg4 a (mg4 b c):=by
 unfold mg4;refine qzy ?_ ?_ ?_ ?_<;>dsimp only
 ·omega
 ·omega
 ·repeat' split
  all_goals omega
 ·repeat' split
  all_goals omega
theorem qny (o:Option HP4) (b c:HP4):qcc (some (qcc o b)) c=qcc o (mg4 b c):=by
 cases o with
 | none=>rfl
 | some a=>exact qtl a b c
theorem qvs {cell':Int->Option (Int×Int)} {t a:Int} (hc:cell' t=cell' a) (hu:∀ b u,cell' a=some (b,u)->u≠0) (X:Abs) (v m:Int):qdm cell' X a (qgs v m)=qcu cell' X (t,v,m):=by
 unfold qdm qcu;dsimp only;rw[hc]
 rcases e:cell' a with _|⟨b,u⟩
 ·rfl
 ·dsimp only
  rw[Ah (hu b u e)]
theorem qzc (cell':Int->Option (Int×Int)) (X:Abs) (a:Int) (x y:HP4):qdm cell' (qdm cell' X a x) a y=qdm cell' X a (mg4 x y):=by
 unfold qdm
 rcases e:cell' a with _|⟨b,u⟩
 ·rfl
 ·dsimp only
  rw[qaw,qbs,qny]
theorem take_heap {S0:Abs} {cell':Int->Option (Int×Int)} {s:Abs} {my mz:List (List Int)} (sy:SKeys s.y my) (sz:SKeys s.z mz) (h2:∀ k∈mz,k.length=2) {t a:Int} (hc:cell' t=cell' a) (hu:∀ b u,cell' a=some (b,u)->u≠0) (w v m:Int) :
  qfx cell' S0 (qb4 { s with z:=qd5 s.z [a,w] (qcc (s.z [a,w]) (qgs v m)) }) (qcb { s with z:=qd5 s.z [a,w] (qcc (s.z [a,w]) (qgs v m)) })=qcu cell' (qfx cell' S0 (qb4 s) (qcb s)) (t,v,m):=by
 obtain ⟨mz',sz',_,hin,hout⟩:=qfy sz h2 (k:=[a,w]) rfl (qcc (s.z [a,w]) (qgs v m))
 generalize es:({ s with z:=qd5 s.z [a,w] (qcc (s.z [a,w]) (qgs v m)) }:Abs)=s'
 have ez':s'.z=qd5 s.z [a,w] (qcc (s.z [a,w]) (qgs v m)):=by rw[<- es]
 have ey':s'.y=s.y:=by rw[<- es]
 have sz'':SKeys s'.z mz':=by rw[ez'];exact sz'
 have eyr:qb4 s'=qb4 s:=by
  have:SKeys s'.y my:=by rw[ey'];exact sy
  rw[<- qda this,<- qda sy];refine Ba λk _=>?_
  unfold qnx;rw[ey']
 rw[eyr,<- qdb sz'',<- qdb sz,<- qvs hc hu];unfold qfx
 generalize (qb4 s).foldl (qcv cell') S0=S1
 have ne:∀ j,j≠[a,w]->qpj s' j=qpj s j:=λj hj=>by unfold qpj;rw[ez',qbk _ _ hj]
 have at_:qpj s' [a,w]=[a,w] ++ i4 (qcc (s.z [a,w]) (qgs v m)):=by unfold qpj;rw[ez',qaw];rfl
 have pr:∀ (X:Abs) (x:HP4),qb3 cell' X ([a,w] ++ i4 x)=qdm cell' X a x:=λX x=>rfl
 by_cases c:[a,w]∈mz
 ·rw[hin c]
  obtain ⟨X,e1,e2⟩:=ql8 (qeg cell') sz.nd c ne S1;rw[e1,e2,at_,pr]
  show _=qdm cell' (qb3 cell' X ([a,w] ++ i4 ((s.z [a,w]).getD (0,0,0,0)))) a (qgs v m)
  rw[pr]
  cases q:s.z [a,w] with
  | none=>exact absurd q ((sz.mem _).mp c)
  | some x=>rw[Dh,qzc];rfl
 ·rw[qc1 (qeg cell') ((hout c).map _) S1,Aw,qdw (qeg cell'),at_,pr]
  have e:mz.map (qpj s')=mz.map (qpj s):=Ba λj hj=>ne j λz=>c (by rw[<- z];exact hj)
  have en:s.z [a,w]=none:=by
   cases q:s.z [a,w] with
   | none=>rfl
   | some n=>exact absurd ((sz.mem _).mpr (by rw[q];simp)) c
  rw[e,en];rfl
theorem qvt {S0:Abs} {cell cell':Int->Option (Int×Int)} (co:ql9 cell cell') {s:Abs} (kf:KF s) (r:Rd3) :
  qfx cell' S0 (qb4 (qcu cell s r)) (qcb (qcu cell s r))=qcu cell' (qfx cell' S0 (qb4 s) (qcb s)) r/\KF (qcu cell s r):=by
 obtain ⟨my,sy,hy⟩:=kf.y;obtain ⟨mz,sz,hz⟩:=kf.z;obtain ⟨t,v,m⟩:=r
 rcases e:cell t with _|⟨a,w⟩
 ·have e1:qcu cell s (t,v,m)=s:=by unfold qcu;dsimp only;rw[e]
  have e2:∀ X,qcu cell' X (t,v,m)=X:=λX=>by unfold qcu;dsimp only;rw[co.n t e]
  rw[e1,e2];exact ⟨rfl,kf⟩
 ·by_cases hw:w=0
  ·have e1:qcu cell s (t,v,m)={ s with y:=qd5 s.y [t,v] ((s.y [t,v]).getD 0+m) }:=by unfold qcu;dsimp only;rw[e];dsimp only;rw[Al hw]
   rw[e1];refine ⟨qqu sy hy sz t v m,?_,⟨mz,sz,hz⟩⟩;obtain ⟨my',sy',h',_⟩:=qfy sy hy (k:=[t,v]) rfl ((s.y [t,v]).getD 0+m);exact ⟨my',sy',h'⟩
  ·have e1:qcu cell s (t,v,m)={ s with z:=qd5 s.z [a,w] (qcc (s.z [a,w]) (qgs v m)) }:=by unfold qcu;dsimp only;rw[e];dsimp only;rw[Ah hw]
   rw[e1];obtain ⟨c1,c2⟩:=co.h t a w e hw;refine ⟨take_heap sy sz hz c1 c2 w v m,⟨my,sy,hy⟩,?_⟩;obtain ⟨mz',sz',h',_⟩:=qfy sz hz (k:=[a,w]) rfl (qcc (s.z [a,w]) (qgs v m));exact ⟨mz',sz',h'⟩
theorem kf0:KF qpf:=⟨⟨[],⟨.nil,λk=>⟨(λh=>by cases h),λh=>absurd rfl h⟩⟩,(λk h=>by cases h)⟩,⟨[],⟨.nil,λk=>⟨(λh=>by cases h),λh=>absurd rfl h⟩⟩,(λk h=>by cases h)⟩⟩
theorem qma {S0:Abs} {cell cell':Int->Option (Int×Int)} (co:ql9 cell cell'):∀ (rs:List Rd3) {s s':Abs},KF s->qfx cell' S0 (qb4 s) (qcb s)=s'->qfx cell' S0 (qb4 (rs.foldl (qcu cell) s)) (qcb (rs.foldl (qcu cell) s))=rs.foldl (qcu cell') s'
 | [],_,_,_,e=>e
 | r :: t,s,s',kf,e=>by
  obtain ⟨h1,h2⟩:=qvt co kf r;exact qma co t h2 (by rw[h1,e])
theorem qzd {cell cell':Int->Option (Int×Int)} (co:ql9 cell cell') (rs:List Rd3) (S0:Abs):qfx cell' S0 (qb4 (qdi cell rs)) (qcb (qdi cell rs))=rs.foldl (qcu cell') S0:=by
 refine qma co rs kf0 ?_;have hy:qb4 qpf=[]:=(qda (ms:=[]) ⟨.nil,λk=>⟨(λh=>by cases h),λh=>absurd rfl h⟩⟩).symm;have hz:qcb qpf=[]:=(qdb (ms:=[]) ⟨.nil,λk=>⟨(λh=>by cases h),λh=>absurd rfl h⟩⟩).symm;rw[hy,hz];rfl
theorem qtm {cell cell':Int->Option (Int×Int)} (co:ql9 cell cell') (rs:List Rd3):qfx cell' qpf (qb4 (qdi cell rs)) (qcb (qdi cell rs))=qdi cell' rs:=qzd co rs qpf
theorem qmb {ws es es':List Int} {ge ge':Option Int} (F:Fall ws es ge) (F':Fall ws es' ge') (L:Later es es' ge ge') (hl:1<=es.length):ql9 (qca ws es ge) (qca ws es' ge'):=by
 have hl':1<=es'.length:=by rw[L.len];exact hl
 have hw:1<=ws.length:=by rw[F.len];exact hl
 have h0:es[0]?=some es[0]:=Ad (by omega);have h0':es'[0]?=some es'[0]:=Ad (by omega);have up:=L.up 0 _ _ h0 h0';refine ⟨λt e=>?_,λt a w e hw0=>?_⟩
 ·have C:=qff (ge:=ge) hw hl t
  have C':=qff (ge:=ge') hw hl' t;rw[e] at C
  by_cases c:es[0]<=t
  ·cases (C es[0] h0).1 c
  ·by_cases hg:qck ge t
   ·exact qqr L h0 h0' (by omega) hg C'
   ·obtain ⟨w,_,e2⟩:=((C es[0] h0).2 (by omega)).2 hg
    cases e2
 ·have C:=qff (ge:=ge) hw hl t
  rw[e] at C;have hlt:t<es[0]:=by
   by_cases c:es[0]<=t
   ·have:=(C es[0] h0).1 c
    cases this;exact absurd rfl hw0
   ·omega
  obtain ⟨i,w',e',S⟩:=qik F.len h0 hlt;have hg:¬ qck ge t:=λg=>by cases ((C es[0] h0).2 hlt).1 g
  have:=C.uniq h0 (qk0 F h0 S hg);cases this;have hw1:=F.pos i w S.gw;have fl:=qqp t hw1;obtain ⟨o,ho,_⟩:=qqs F F' L h0' S;have a1:=ho t fl.1 fl.2 _ (qff hw hl' t);have a2:=ho (t / w*w) (CS _) (by omega) _ (qff hw hl' (t / w*w));refine ⟨a1.trans a2.symm,λb u eb hu=>?_⟩;have C2:=qff (ge:=ge') hw hl' (t / w*w);rw[eb] at C2;have lt2:t / w*w<es'[0]:=by omega
  obtain ⟨j,w2,e2,S2⟩:=qik F'.len h0' lt2;have hg2:¬ qck ge' (t / w*w):=λg=>by cases ((C2 es'[0] h0').2 lt2).1 g
  have:=C2.uniq h0' (qk0 F' h0' S2 hg2);cases this;have:=F'.pos j _ S2.gw;omega
open PySem L2
theorem RR.putX {C R N:Addr} {H:Hp} {ro:Addr} {c:qar} {s:Abs} {LY LZ:List (List Int)} {t v m:Int} {Q:VK} {E:XK} (h:RR C R H ro c s LY LZ) (ok:qdl c) (hr:qnw t) (h1:1<=m) (hb:qvn (v,m)) (ly:LY.length<64) (lz:LZ.length<64)
  (hy:[t,v]∈LY) (hz:∀ a w,cellD c t=some (a,w)->[a,w]∈LZ)
  (q:∀ H',RR C R H' ro c (qcu (cellD c) s (t,v,m)) LY LZ->But2 c.dy c.dh H H'->Q (.bl (cellD c t).isSome) H'):qfd C R N [.ref ro,.int t,.int v,.int m] H Q E:=by
 obtain ⟨ro',D',t',v',m',e,A,ok',ht',h1',hb',y,z,l1,l2,k⟩:=RR.put (Q:=Q) (E:=E) h ok hr h1 hb ly lz hy hz q;exact ⟨ro',D',t',v',m',e,A,ok',ht',λ_=>hb',y,z,l1,l2,λz=>absurd z (by omega),λ_=>k⟩
theorem RR.putN {C R N:Addr} {H:Hp} {ro:Addr} {c:qar} {s:Abs} {LY LZ:List (List Int)} {t v m:Int} {Q:VK} {E:XK} (h:RR C R H ro c s LY LZ) (ok:qdl c) (hr:qnw t) (h1:m<1) (ly:LY.length<64) (lz:LZ.length<64)
  (q:E (.ref N) none H):qfd C R N [.ref ro,.int t,.int v,.int m] H Q E:=by
 obtain ⟨Y,Z,A,B⟩:=h;exact ⟨ro,_,t,v,m,rfl,A,⟨ok.pr,ok.es⟩,hr,λz=>absurd z (by omega),B.YOk,B.ZOk,AR B.ylen (by omega),AR B.zlen (by omega),λ_=>q,λz=>absurd z (by omega)⟩
end TB
namespace TX
def sg (n:Int):List Nat:=(toString n).toList.map Char.toNat
def qCi (x:List Nat):List Nat:=if x.take 1=[45] then x.drop 1 else x
def qze (c:Nat):Prop:=48<=c/\c<=57
instance (c:Nat):Decidable (qze c):=inferInstanceAs (Decidable (_/\_))
def Good (x:List Nat):Prop:=qCi x≠[]/\(qCi x).length<=1000/\¬ ((qCi x).head?=some 48/\x≠[48])/\∀ c∈qCi x,qze c
instance (x:List Nat):Decidable (Good x):=inferInstanceAs (Decidable (_/\_/\_/\_))
end TX
namespace TX
open L2
end TX
namespace TB
open PySem L2 TX
def OddV (H:Hp) (v:V):Prop:=v=.non\/(∃ i,v=.int i)\/(∃ b,v=.bl b)\/(∃ p xs,v=.ref p/\H p=some (.tup xs))\/∃ p xs,v=.ref p/\H p=some (.lst xs)
def TextV (H:Hp) (v:V):Prop:=(∃ x,v=.str (S x)/\x.length<=3000)\/OddV H v
theorem TextV.same {H H':Hp} {v:V} (h:TextV H v) (s:Same H H'):TextV H' v:=by
 rcases h with h|h|h|h|⟨p,xs,e,h⟩|⟨p,xs,e,h⟩
 ·exact .inl h
 ·exact .inr (.inl h)
 ·exact .inr (.inr (.inl h))
 ·exact .inr (.inr (.inr (.inl h)))
 ·exact .inr (.inr (.inr (.inr (.inl ⟨p,xs,e,s _ _ h⟩))))
 ·exact .inr (.inr (.inr (.inr (.inr ⟨p,xs,e,s _ _ h⟩))))
theorem OddV.ty {K:Frag} {H:Hp} {v:V} (h:OddV H v):∃ t,TyOf K H v t/\PySem.W.kitOne K t (.type "str")=some false:=by
 rcases h with rfl|⟨i,rfl⟩|⟨b,rfl⟩|⟨p,xs,rfl,h⟩|⟨p,xs,rfl,h⟩
 ·exact ⟨_,.non,rfl⟩
 ·exact ⟨_,.int _,rfl⟩
 ·exact ⟨_,.bl _,rfl⟩
 ·exact ⟨_,.tup h,rfl⟩
 ·exact ⟨_,.lst h,rfl⟩
open PySem L2 TX
def qE3 (x:List Nat):Prop:=1<=x.length/\x.length<=1000/\(x=[48]\/(x.head?≠some 48/\∀ c∈x,qze c))
instance (x:List Nat):Decidable (qE3 x):=inferInstanceAs (Decidable (_/\_/\_))
open PySem L2
abbrev tS (w:List Nat):V:=V.str (S w)
def kS (x:List Nat):Key:=Sum.inr (S x)
theorem qtn {a b:List Nat} (h:kS a=kS b):a=b:=qym (Sum.inr.inj h)
def Ents {α:Type} (R:V->α->Prop) (kvs:List (Key×V)) (E:List (List Nat×α)):Prop:=Paired (fun (p:Key×V) (e:List Nat×α)=>p.1=kS e.1/\R p.2 e.2) kvs E
section
variable {α:Type} {R R':V->α->Prop} {kvs:List (Key×V)} {E:List (List Nat×α)}
theorem Ents.keys (h:Ents R kvs E):kvs.map (·.1)=(E.map (·.1)).map (λq=>Sum.inr (S q)):=by
 unfold Ents at h
 induction h with
 | nil=>rfl
 | cons a t ih=>rw[Aw,Aw,Aw,ih,a.1];rfl
theorem Ents.len (h:Ents R kvs E):kvs.length=E.length:=by have:=congrArg List.length h.keys;simpa using this
theorem Ents.imp (h:Ents R kvs E) (f:∀ v a,R v a->R' v a):Ents R' kvs E:=by
 unfold Ents at h ⊢
 induction h with
 | nil=>exact .nil
 | cons a t ih=>exact .cons ⟨a.1,f _ _ a.2⟩ ih
theorem qmc (p:Key×V) (l:List (Key×V)) (k:Key):qcq (p :: l) k=if p.1=k then some p.2 else qcq l k:=by
 unfold qcq;rw[Cc]
 by_cases e:p.1=k
 ·rw[Al e,AE e];rfl
 ·rw[Ah e,Bc e]
theorem Ents.hasn (h:Ents R kvs E) {x:List Nat} (hx:x ∉ E.map (·.1)):qcq kvs (kS x)=none:=by
 unfold Ents at h
 induction h with
 | nil=>rfl
 | @cons p e ps es a t ih =>
  rw[Aw,Ak,C3] at hx;rw[qmc,Ah (λz=>hx.1 (qtn (z.symm.trans a.1))),ih hx.2]
theorem Ents.has (h:Ents R kvs E) {x:List Nat} (hx:x∈E.map (·.1)):∃ v a,qcq kvs (kS x)=some v/\(x,a)∈E/\R v a:=by
 unfold Ents at h
 induction h with
 | nil=>cases hx
 | @cons p e ps es a t ih =>
  rw[qmc]
  by_cases z:p.1=kS x
  ·have ex:e.1=x:=qtn (a.1.symm.trans z)
   rw[Al z];exact ⟨_,e.2,rfl,by rw[<- ex];exact Au,a.2⟩
  ·rw[Aw,Ak] at hx
   rcases hx with e'|hx
   ·exact absurd (by rw[a.1,e']) z
   ·rw[Ah z]
    obtain ⟨v,b,h1,h2,h3⟩:=ih hx;exact ⟨v,b,h1,Ap _ h2,h3⟩
theorem Ents.snoc {v:V} {a:α} {x:List Nat} (r:R v a):∀ {kvs:List (Key×V)} {E:List (List Nat×α)},Ents R kvs E->Ents R (kvs ++ [(kS x,v)]) (E ++ [(x,a)])
 | _,_,.nil=>.cons ⟨rfl,r⟩ .nil
 | _,_,.cons b t=>.cons b (Ents.snoc r t)
theorem Ents.put (h:Ents R kvs E) {x:List Nat} (hx:x ∉ E.map (·.1)) {v:V} {a:α} (r:R v a):Ents R (putK kvs (kS x) v) (E ++ [(x,a)]):=by
 have e:putK kvs (kS x) v=kvs ++ [(kS x,v)]:=by
  unfold putK;rw[Ah];intro z;obtain ⟨p,hp,hk⟩:=DZ.mp z;have:p.1∈kvs.map (·.1):=Af.mpr ⟨p,hp,rfl⟩;rw[h.keys,AG hk] at this;obtain ⟨y,hy,ey⟩:=Af.mp this;exact hx ((qtn (show kS y=kS x from ey)) ▸ hy)
 rw[e];exact h.snoc r
end
def bof (ru:Addr) (day:Int) (le dm dr:Addr):List (Str×V):=qfl "kept_rolls" (.ref dr) (qfl "kept_marks" (.ref dm) (qfl "kept_edges" (.ref le) (qfl "kept_day" (.int day) (qfl "kept_rule" (.ref ru) []))))
section
variable (ru:Addr) (day:Int) (le dm dr:Addr)
theorem qw2:(bof ru day le dm dr).lookup ("kept_rule" : Str)=some (.ref ru):=by
 unfold bof;rw[qae,Ah (by decide +kernel),qae,Ah (by decide +kernel),qae,Ah (by decide +kernel),qae,Ah (by decide +kernel),qae,Al rfl]
theorem qto:(bof ru day le dm dr).lookup ("kept_day" : Str)=some (.int day):=by
 unfold bof;rw[qae,Ah (by decide +kernel),qae,Ah (by decide +kernel),qae,Ah (by decide +kernel),qae,Al rfl]
theorem qtp:(bof ru day le dm dr).lookup ("kept_edges" : Str)=some (.ref le):=by
 unfold bof;rw[qae,Ah (by decide +kernel),qae,Ah (by decide +kernel),qae,Al rfl]
theorem qw3:(bof ru day le dm dr).lookup ("kept_marks" : Str)=some (.ref dm):=by
 unfold bof;rw[qae,Ah (by decide +kernel),qae,Al rfl]
theorem qmd:(bof ru day le dm dr).lookup ("kept_rolls" : Str)=some (.ref dr):=by
 unfold bof;rw[qae,Al rfl]
theorem qdn {m:Str} (h1:¬ m = "kept_rolls") (h2:¬ m = "kept_marks") (h3:¬ m = "kept_edges") (h4:¬ m = "kept_day") (h5:¬ m = "kept_rule"):(bof ru day le dm dr).lookup m=none:=by
 unfold bof;rw[qae,Ah h1,qae,Ah h2,qae,Ah h3,qae,Ah h4,qae,Ah h5];rfl
end
structure qbf where
 ru:Addr
 rl:Addr
 le:Addr
 dm:Addr
 dr:Addr
 ps:List (Int×Int)
 g:Option Int
 day:Int
def TxtL (H:Hp) (v:V) (ms:List (List Nat)):Prop:=∃ a,v=.ref a/\H a=some (.lst (ms.map tS))
theorem TxtL.same {H H':Hp} {v:V} {ms:List (List Nat)} (h:TxtL H v ms) (s:Same H H'):TxtL H' v ms:=let ⟨a,e,q⟩:=h;⟨a,e,s _ _ q⟩
end TB
local macro_rules | `(tactic| walk_at "same") => `(tactic| first | exact L2.Same.refl _ | assumption | exact L2.New.same (by assumption) | (refine L2.qx9 ?_ (by assumption); walk_at "same") | (refine L2.Same.trans ?_ (by assumption); walk_at "same"))
local macro_rules | `(tactic| walk_at "fact") => `(tactic| first | assumption | exact L2.New.at_ (by assumption) | (refine L2.qAz (by assumption) ?_; walk_at "fact") | (refine L2.qx8 (by assumption) ?_; walk_at "fact"))
local macro_rules | `(tactic| walk_at "sq") => `(tactic| first | assumption | exact L2.SqL.of (by walk_at "fact") | exact L2.SqT.of (by walk_at "fact") | exact Or.inl (L2.SqL.of (by walk_at "fact")) | exact Or.inr (L2.SqT.of (by walk_at "fact")) | exact Or.inl (by assumption) | walk_at "fact")
local macro_rules | `(tactic| walk_at "c") => `(tactic| first
 | ((with_reducible show _<=PySem.sizeLine);first|exact Bn (L2.qao (E7 rfl))|exact Bn (L2.qao (by omega))|exact Bn (L2.qao (by simp only[Ac,Aq,Az,BO];omega)))
 | ((with_reducible show _<PySem.sizeLine);first|exact L2.qao (by omega)|exact L2.qao (by simp only[Ac,Aq,Az,BO];omega))
 | decide|omega|(dsimp only;first|decide|omega)|(simp only[Ac,Aq,Az,BO];omega)
 | ((with_reducible refine And.intro ?_ ?_)<;>walk_at "c")
 | (refine And.intro ?_ ?_<;>walk_at "c")|(refine Or.inl ?_;walk_at "c")|(refine Or.inr ?_;walk_at "c"))
local macro_rules | `(tactic| walk_at "at") => `(tactic| first | rfl | assumption | exact L2.qf8 (by assumption) | exact TB.qh7 (by assumption))
local macro_rules | `(tactic| walk_at "ty") => `(tactic| first | exact L2.TyOf.int _ | exact L2.TyOf.bl _ | exact L2.TyOf.non | exact L2.TyOf.str _ | exact L2.TyOf.lst (by walk_at "fact") | exact L2.TyOf.tup (by walk_at "fact"))
local macro_rules | `(tactic| walk_at "kit") => `(tactic| first | exact L2.qhw _ | exact L2.qgo _ | exact L2.qu7 _ | exact L2.kit_tuple _ | rfl)
local macro_rules | `(tactic| walk_at "r1") => `(tactic| first
 | refine L2.tVarS.mk _ rfl ?_
 | refine L2.rI0S.mk _ _ rfl rfl ?_
 | refine L2.rIxLS.mk _ _ _ _ rfl rfl (by walk_at "sq") (by walk_at "at") ?_
 | refine L2.rIxTS.mk _ _ _ _ rfl rfl (by walk_at "sq") (by walk_at "at") ?_
 | refine L2.rIS.mk _ _ rfl rfl (by walk_at "c") ?_
 | refine L2.tBS.mk _ rfl ?_
 | refine L2.tAndVS.mk _ rfl ?_
 | refine L2.tOrVS.mk _ rfl ?_
 | refine L2.tNotVS.mk _ rfl ?_
 | refine L2.rUS.mk _ rfl ?_
 | refine L2.tPartS.mk _ rfl ?_
 | refine L2.rSlLNS.mk _ _ rfl (by walk_at "sq") ?_
 | refine L2.rAppendNS.mk _ _ _ rfl rfl (by walk_at "fact") (by walk_at "c") ?_
 | refine Exists.intro _ (And.intro rfl ?_)
 | refine Exists.intro _ (Exists.intro _ (And.intro rfl (And.intro rfl ?_)))
 | refine And.intro rfl ?_
 | refine Exists.intro _ (Exists.intro _ (And.intro rfl (And.intro (by walk_at "sq") ?_)))
 | refine Exists.intro _ (Exists.intro _ (Exists.intro _ (Exists.intro _ (And.intro rfl (And.intro rfl (And.intro (by walk_at "sq") (And.intro (by walk_at "at") ?_)))))))
 | refine And.intro (Or.inl ⟨rfl,_,L2.SqL.of (by walk_at "fact")⟩) ?_
 | refine Exists.intro _ (Exists.intro _ (Exists.intro _ (And.intro rfl (And.intro rfl (And.intro (by walk_at "fact") (And.intro (by walk_at "c") ?_))))))
 | refine Exists.intro _ (Exists.intro _ (Exists.intro _ (Exists.intro _ (And.intro rfl (And.intro (by walk_at "ty") (And.intro (by walk_at "kit") ?_))))))
 | refine Exists.intro _ (Exists.intro _ (And.intro rfl ?_))
 | refine And.intro (by walk_at "c") ?_
 | refine L2.qc6 ?_
 | refine L2.qds ?_)
local macro_rules | `(tactic| walk_at "n") => `(tactic| simp only [L2.tNil, List.cons_append, List.nil_append, List.append_nil])
local macro_rules | `(tactic| walk_at "r") => `(tactic| (walk_at "r1"; repeat walk_at "r1"))
namespace TB
open PySem L2
abbrev FG (K:Frag) (mg:Str->Option Value) (n:Str) (s:Stmt):Prop:=∃ f fd,Fun K n n s f fd/\mg n=some (.ref f)
abbrev FGd (K:Frag) (mg:Str->Option Value) (n:Str) (s:Stmt) (vs:Array Value):Prop:=∃ f fd dT o m,FunD K n n s (.ref dT) f fd/\mg n=some (.ref f)/\fd.defaults=.ref dT/\K.lookup dT=some o/\o.data=.seq vs m
abbrev FM (K:Frag) (C:Addr) (n q:Str) (s:Stmt):Prop:=∃ f fd,Fun K n q s f fd/\qrn K C n f
abbrev FMd (K:Frag) (C:Addr) (n q:Str) (s:Stmt) (i:Int):Prop:=∃ f fd dT o m t,FunD K n q s (.ref dT) f fd/\qrn K C n f/\fd.defaults=.ref dT/\K.lookup dT=some o/\o.data=.seq #[.int i t] m
abbrev FMn (K:Frag) (C:Addr) (n q:Str) (s:Stmt):Prop:=∃ f fd dT o m,FunD K n q s (.ref dT) f fd/\qrn K C n f/\fd.defaults=.ref dT/\K.lookup dT=some o/\o.data=.seq #[.none] m
abbrev FI (K:Frag) (C:Addr) (q:Str) (s:Stmt):Prop:=∃ f fd,Fun K "__init__" q s f fd/\Mk K C f
abbrev FId (K:Frag) (C:Addr) (q:Str) (s:Stmt) (vs:Array Value):Prop:=∃ f fd dT o m,FunD K "__init__" q s (.ref dT) f fd/\Mk K C f/\fd.defaults=.ref dT/\K.lookup dT=some o/\o.data=.seq vs m
section
variable {K:Frag} {h:Heap} {mg:Str->Option Value} {n q:Str} {s:Stmt} {f dT C:Addr} {od an dd:Option Addr} {sl ds:Array (Option Value)} {oc kV dc pm cd ct dk:Value} {dn:Nat} {dt:Tok} {v:Int} {vs:Array Value}
theorem fnG (X:K.In h) (G:h.Ns mainGlobals mg) (a:nsIn K mainGlobals n=some (some (.ref f))) (l:K.lookup f=some ⟨oc,od,.func (fnOf n n (qcd s) (qby s) (qab s) .none kV dc pm an cd ct),sl⟩) (c:codeIn K cd n=true) (k:keepIn K (.ref f)=true):FG K mg n s:=⟨f,_,qok l c k,mg_of X G a⟩
theorem qE4 (X:K.In h) (G:h.Ns mainGlobals mg) (a:nsIn K mainGlobals n=some (some (.ref f))) (l:K.lookup f=some ⟨oc,od,.func (fnOf n n (qcd s) (qby s) (qab s) (.ref dT) kV dc pm an cd ct),sl⟩) (c:codeIn K cd n=true) (k:keepIn K (.ref f)=true) (d:K.lookup dT=some ⟨dk,dd,.seq vs dn,ds⟩):FGd K mg n s vs:=⟨f,_,dT,_,_,⟨⟨_,_,_,_,_,_,_,_,_,rfl,l,c⟩,k⟩,mg_of X G a,rfl,d,rfl⟩
theorem fnM (a:PySem.W.findIn K (.ref C) n=some (some (.ref f))) (i:PySem.W.isFn K (.ref f)=true) (l:K.lookup f=some ⟨oc,od,.func (fnOf n q (qcd s) (qby s) (qab s) .none kV dc pm an cd ct),sl⟩) (c:codeIn K cd q=true) (k:keepIn K (.ref f)=true):FM K C n q s:=⟨f,_,qok l c k,⟨a,i,k⟩⟩
theorem qD8 (a:PySem.W.findIn K (.ref C) n=some (some (.ref f))) (i:PySem.W.isFn K (.ref f)=true) (l:K.lookup f=some ⟨oc,od,.func (fnOf n q (qcd s) (qby s) (qab s) (.ref dT) kV dc pm an cd ct),sl⟩) (c:codeIn K cd q=true) (k:keepIn K (.ref f)=true) (d:K.lookup dT=some ⟨dk,dd,.seq #[.int v dt] dn,ds⟩):FMd K C n q s v:=⟨f,_,dT,_,_,dt,⟨⟨_,_,_,_,_,_,_,_,_,rfl,l,c⟩,k⟩,⟨a,i,k⟩,rfl,d,rfl⟩
theorem qE5 (a:PySem.W.findIn K (.ref C) n=some (some (.ref f))) (i:PySem.W.isFn K (.ref f)=true) (l:K.lookup f=some ⟨oc,od,.func (fnOf n q (qcd s) (qby s) (qab s) (.ref dT) kV dc pm an cd ct),sl⟩) (c:codeIn K cd q=true) (k:keepIn K (.ref f)=true) (d:K.lookup dT=some ⟨dk,dd,.seq #[.none] dn,ds⟩):FMn K C n q s:=⟨f,_,dT,_,_,⟨⟨_,_,_,_,_,_,_,_,_,rfl,l,c⟩,k⟩,⟨a,i,k⟩,rfl,d,rfl⟩
theorem fnI (m:PySem.W.makesIn K C=true) (kc:keepIn K (.ref C)=true) (a:PySem.W.findIn K (.ref C) "__init__" = some (some (.ref f))) (i:PySem.W.isFn K (.ref f)=true) (l:K.lookup f=some ⟨oc,od,.func (fnOf "__init__" q (qcd s) (qby s) (qab s) .none kV dc pm an cd ct),sl⟩) (c:codeIn K cd q=true) (k:keepIn K (.ref f)=true):FI K C q s:=⟨f,_,qok l c k,⟨m,a,i,kc⟩⟩
theorem qE6 (m:PySem.W.makesIn K C=true) (kc:keepIn K (.ref C)=true) (a:PySem.W.findIn K (.ref C) "__init__" = some (some (.ref f))) (i:PySem.W.isFn K (.ref f)=true) (l:K.lookup f=some ⟨oc,od,.func (fnOf "__init__" q (qcd s) (qby s) (qab s) (.ref dT) kV dc pm an cd ct),sl⟩) (c:codeIn K cd q=true) (k:keepIn K (.ref f)=true) (d:K.lookup dT=some ⟨dk,dd,.seq vs dn,ds⟩):FId K C q s vs:=⟨f,_,dT,_,_,⟨⟨_,_,_,_,_,_,_,_,_,rfl,l,c⟩,k⟩,⟨m,a,i,kc⟩,rfl,d,rfl⟩
theorem fnX {fl:Str} (xi:qo0 K C f=true) (xK:qnm K C) (xh:PySem.W.hasDictIn K C=true) (xs:PySem.W.findIn K (.ref C) "__setattr__" = some (some (.builtin "object.__setattr__"))) (xn:PySem.W.findIn K (.ref C) fl=some none) (a:PySem.W.findIn K (.ref C) "__init__" = some (some (.ref f))) (i:PySem.W.isFn K (.ref f)=true) (l:K.lookup f=some ⟨oc,od,.func (fnOf "__init__" q (qcd s) (qby s) (qab s) .none kV dc pm an cd ct),sl⟩) (c:codeIn K cd q=true) (k:keepIn K (.ref f)=true):∃ f fd,Fun K "__init__" q s f fd/\qA5 K C f fl:=⟨f,_,qok l c k,⟨xi,i,xK,xh,xs,xn⟩⟩
theorem naI (h:PySem.W.findIn K (.ref C) n=some none):NoAttr K C n:=h
theorem exI (h:PySem.W.excIn K C veMro "ValueError.__new__" = true):qwm K C:=h
theorem cI (X:K.In h) (G:h.Ns mainGlobals mg) (a:nsIn K mainGlobals n=some (some (.int v dt))):∃ t,mg n=some (.int v t):=⟨_,mg_of X G a⟩
theorem cS {x:Str} (X:K.In h) (G:h.Ns mainGlobals mg) (a:nsIn K mainGlobals n=some (some (.str x dt))):∃ t,mg n=some (.str x t):=⟨_,mg_of X G a⟩
end
theorem scp {N P:List Str} {sc:Scope} (h1:sc.kind=.function:=by rfl) (h2:sc.isCoroutine=false:=by rfl) (h3:sc.isGenerator=false:=by rfl) (h4:N.Nodup:=by decide +kernel) (h5:N.take P.length=P:=by rfl) (h6:∀ x∈P,sc.names.lookup x=some .local\/sc.names.lookup x=some .cell:=by decide +kernel) (h7:∀ y∈sc.names,y.2≠.free:=by decide +kernel):qaf N P sc:=⟨h1,h2,h3,h4,h5,h6,h7⟩
def top (i:Nat):Stmt:=PySem.Challenge.pw_thinbook_k72_a_book_under_another_rule.main.body.getD i (.Pass ⟨0,0,0,0⟩)
abbrev qjw:Stmt:=(top 11)
abbrev qme:Stmt:=(top 12)
abbrev qjx:Stmt:=(top 16)
abbrev qjy:Stmt:=(top 17)
abbrev qe2:Stmt:=(top 18)
abbrev qmf:Stmt:=(top 19)
abbrev qmg:Stmt:=(top 20)
abbrev qjz:Stmt:=(top 21)
abbrev qmh:Stmt:=(top 22)
abbrev qmi:Stmt:=(top 24)
abbrev qpn:Stmt:=(top 25)
abbrev qim:Stmt:=(inClass (top 27) 0)
abbrev qgh:Stmt:=(inClass (top 27) 1)
abbrev qcl:Stmt:=(inClass (top 27) 2)
abbrev qd0:Stmt:=(inClass (top 27) 3)
abbrev qeh:Stmt:=(inClass (top 27) 4)
abbrev qin:Stmt:=(inClass (top 27) 5)
abbrev qj0:Stmt:=(inClass (top 27) 6)
abbrev qgt:Stmt:=(inClass (top 27) 7)
abbrev qgu:Stmt:=(inClass (top 27) 8)
abbrev qgv:Stmt:=(inClass (top 27) 9)
abbrev qtq:Stmt:=(top 28)
abbrev qmj:Stmt:=(top 31)
abbrev qd1:Stmt:=(top 32)
abbrev qdo:Stmt:=(top 33)
abbrev qfz:Stmt:=(top 34)
abbrev qgw:Stmt:=(top 35)
abbrev qfh:Stmt:=(inClass (top 36) 0)
abbrev qgx:Stmt:=(inClass (top 36) 1)
abbrev qio:Stmt:=(inClass (top 36) 2)
abbrev qip:Stmt:=(top 37)
abbrev qw4:Stmt:=(top 39)
abbrev qmk:Stmt:=(top 40)
abbrev qml:Stmt:=(top 57)
abbrev qf0:Stmt:=(top 61)
abbrev qei:Stmt:=(top 63)
abbrev qej:Stmt:=(top 64)
abbrev qnz:Stmt:=(top 67)
abbrev qek:Stmt:=(top 72)
abbrev qmm:Stmt:=(top 73)
abbrev qmn:Stmt:=(top 74)
abbrev qf1:Stmt:=(top 77)
abbrev qiq:Stmt:=(inClass (top 78) 0)
abbrev qel:Stmt:=(inClass (top 78) 1)
abbrev qcm:Stmt:=(inClass (top 78) 2)
abbrev qem:Stmt:=(inClass (top 78) 3)
abbrev qgi:Stmt:=(inClass (top 78) 4)
abbrev qir:Stmt:=(inClass (top 78) 11)
abbrev qj1:Stmt:=(inClass (top 78) 12)
abbrev qgy:Stmt:=(inClass (top 78) 13)
abbrev qgz:Stmt:=(inClass (top 78) 14)
abbrev qg0:Stmt:=(inClass (top 78) 15)
abbrev qis:Stmt:=(inClass (top 78) 16)
abbrev qg1:Stmt:=(top 79)
abbrev qtr:Stmt:=(top 81)
abbrev qg2:Stmt:=(top 82)
abbrev qmo:Stmt:=(top 83)
abbrev qw5:Stmt:=(top 84)
abbrev qe3:Stmt:=(top 86)
abbrev qg3:Stmt:=(top 87)
abbrev qit:Stmt:=(top 88)
abbrev qiu:Stmt:=(top 89)
abbrev qiv:Stmt:=(top 90)
abbrev qiw:Stmt:=(top 91)
abbrev qg4:Stmt:=(top 92)
abbrev qix:Stmt:=(top 93)
abbrev qen:Stmt:=(top 94)
abbrev qg5:Stmt:=(top 95)
abbrev qe4:Stmt:=(top 96)
abbrev qdp:Stmt:=(top 97)
abbrev qe5:Stmt:=(top 98)
abbrev qg6:Stmt:=(top 99)
abbrev qe6:Stmt:=(top 100)
abbrev qg7:Stmt:=(top 101)
abbrev qiy:Stmt:=(top 102)
abbrev qdq:Stmt:=(top 103)
abbrev qc2:Stmt:=(top 104)
abbrev qzf:Stmt:=(top 105)
abbrev qiz:Stmt:=(inClass (top 6) 0)
theorem sc_is_whole:qaf ["thing"] ["thing"] (qab qjw):=scp
theorem sc_floored:qaf ["number", "width"] ["number", "width"] (qab qme):=scp
theorem sc_gone_cut:qaf ["rule", "day", "gone"] ["rule", "day"] (qab qjx):=scp
theorem sc_edges_at:qaf ["rule", "day", "cuts"] ["rule", "day"] (qab qjy):=scp
theorem sc_greater_edge:qaf ["one", "other"] ["one", "other"] (qab qe2):=scp
theorem sc_greater:qaf ["one", "other"] ["one", "other"] (qab qmf):=scp
theorem sc_is_gone:qaf ["edges", "time"] ["edges", "time"] (qab qmg):=scp
theorem sc_width_at:qaf ["rule", "edges", "time", "widths"] ["rule", "edges", "time"] (qab qjz):=scp
theorem sc_cell_at:qaf ["rule", "edges", "time", "width"] ["rule", "edges", "time"] (qab qmh):=scp
theorem sc_heap_of:qaf ["runs", "values", "how_many", "total"] ["runs"] (qab qmi):=scp
theorem sc_poured:qaf ["one", "other"] ["one", "other"] (qab qpn):=scp
theorem sc_Roll_init:qaf ["self", "rule", "day"] ["self", "rule", "day"] (qab qim):=scp
theorem sc_Roll_put:qaf ["self", "time", "value", "many", "cell"] ["self", "time", "value", "many"] (qab qgh):=scp
theorem sc_Roll_pour_into_cell:qaf ["self", "cell", "heap"] ["self", "cell", "heap"] (qab qcl):=scp
theorem sc_Roll_take_heap:qaf ["self", "start", "heap", "cell"] ["self", "start", "heap"] (qab qd0):=scp
theorem sc_Roll_take_all:qaf ["self", "roll", "time", "value", "many", "row"] ["self", "roll"] (qab qeh):=scp
theorem sc_Roll_rule:qaf ["self"] ["self"] (qab qin):=scp
theorem sc_Roll_day:qaf ["self"] ["self"] (qab qj0):=scp
theorem sc_Roll_edges:qaf ["self"] ["self"] (qab qgt):=scp
theorem sc_Roll_young:qaf ["self"] ["self"] (qab qgu):=scp
theorem sc_Roll_heaps:qaf ["self"] ["self"] (qab qgv):=scp
theorem sc_begun:qaf ["rule", "day", "edges", "roll"] ["rule", "day", "edges"] (qab qtq):=scp
theorem sc_is_step:qaf ["thing"] ["thing"] (qab qmj):=scp
theorem sc_check_one_step:qaf ["step"] ["step"] (qab qd1):=scp
theorem sc_check_next_step:qaf ["step", "behind"] ["step", "behind"] (qab qdo):=scp
theorem sc_check_steps:qaf ["steps", "step", "behind"] ["steps"] (qab qfz):=scp
theorem sc_check_gone:qaf ["gone", "last_age"] ["gone", "last_age"] (qab qgw):=scp
theorem sc_Rule_init:qaf ["self", "steps", "gone", "kept"] ["self", "steps", "gone"] (qab qfh):=scp
theorem sc_Rule_steps:qaf ["self"] ["self"] (qab qgx):=scp
theorem sc_Rule_gone:qaf ["self"] ["self"] (qab qio):=scp
theorem sc_widths_of:qaf ["rule"] ["rule"] (qab qip):=scp
theorem sc_aged:qaf ["roll", "day", "new"] ["roll", "day"] (qab qw4):=scp
theorem sc_roll_of:qaf ["rule", "day", "edges", "readings", "new", "time", "value", "many"] ["rule", "day", "edges", "readings"] (qab qmk):=scp
theorem sc_measure:qaf ["word"] ["word"] (qab qml):=scp
theorem sc_check_begin:qaf ["edge", "a"] ["edge", "a"] (qab qf0):=scp
theorem sc_greatest_gone:qaf ["rolls", "edge", "roll"] ["rolls"] (qab qei):=scp
theorem sc_pieces_of_all:qaf ["rolls", "a", "b"] ["rolls", "a", "b"] (qab qej):=scp
theorem sc_asked:qaf ["word", "rolls", "a", "b", "ask", "laid"] ["word", "rolls", "a", "b"] (qab qnz):=scp
theorem sc_is_small_word:qaf ["thing", "longest"] ["thing", "longest"] (qab qek):=scp
theorem sc_is_name:qaf ["thing"] ["thing"] (qab qmm):=scp
theorem sc_is_mark:qaf ["thing"] ["thing"] (qab qmn):=scp
theorem sc_check_marks:qaf ["marks"] ["marks"] (qab qf1):=scp
theorem sc_Book_init:qaf ["self", "rule", "day"] ["self", "rule", "day"] (qab qiq):=scp
theorem sc_Book_enrol:qaf ["self", "name", "marks", "told"] ["self", "name", "marks"] (qab qel):=scp
theorem sc_Book_check_enrolled:qaf ["self", "name"] ["self", "name"] (qab qcm):=scp
theorem sc_Book_own_roll:qaf ["self", "name"] ["self", "name"] (qab qem):=scp
theorem sc_Book_put:qaf ["self", "name", "time", "value", "many"] ["self", "name", "time", "value", "many"] (qab qgi):=scp
theorem sc_Book_rule:qaf ["self"] ["self"] (qab qir):=scp
theorem sc_Book_day:qaf ["self"] ["self"] (qab qj1):=scp
theorem sc_Book_edges:qaf ["self"] ["self"] (qab qgy):=scp
theorem sc_Book_names:qaf ["self"] ["self"] (qab qgz):=scp
theorem sc_Book_marks:qaf ["self", "name"] ["self", "name"] (qab qg0):=scp
theorem sc_Book_roll:qaf ["self", "name"] ["self", "name"] (qab qis):=scp
theorem sc_begun_book:qaf ["rule", "day", "edges", "book"] ["rule", "day", "edges"] (qab qg1):=scp
theorem sc_moved:qaf ["book", "rule", "day", "new", "name"] ["book", "rule", "day"] (qab qtr):=scp
theorem sc_book_under:qaf ["book", "rule"] ["book", "rule"] (qab qg2):=scp
theorem sc_book_of:qaf ["rule", "day", "edges", "names", "readings", "new", "name", "marks", "time", "value", "many"] ["rule", "day", "edges", "names", "readings"] (qab qmo):=scp
theorem sc_told:qaf ["book", "rows", "name", "roll"] ["book"] (qab qw5):=scp
theorem sc__law_cell_at:qaf ["_law_script", "_law_k"] ["_law_script", "_law_k"] (qab qe3):=scp
theorem sc__law_mixed:qaf ["_law_draw", "_law_k", "_law_number"] ["_law_draw", "_law_k"] (qab qg3):=scp
theorem sc__law_name:qaf ["_law_draw", "_law_k", "_law_some", "_law_length", "_law_body", "_law_at"] ["_law_draw", "_law_k"] (qab qit):=scp
theorem sc__law_mark:qaf ["_law_draw", "_law_k", "_law_some", "_law_length", "_law_body", "_law_at"] ["_law_draw", "_law_k"] (qab qiu):=scp
theorem sc__law_rule:qaf ["_law_draw", "_law_wide", "_law_age", "_law_width", "_law_steps", "_law_k"] ["_law_draw"] (qab qiv):=scp
theorem sc__law_time:qaf ["_law_steps", "_law_gone_here", "_law_day", "_law_draw", "_law_last", "_law_far", "_law_back"] ["_law_steps", "_law_gone_here", "_law_day", "_law_draw"] (qab qiw):=scp
theorem sc__law_value:qaf ["_law_draw", "_law_number"] ["_law_draw"] (qab qg4):=scp
theorem sc__law_many:qaf ["_law_draw", "_law_number"] ["_law_draw"] (qab qix):=scp
theorem sc__law_readings:qaf ["_law_cells", "_law_names", "_law_steps", "_law_gone_here", "_law_day", "_law_found", "_law_draw", "_law_name_here"] ["_law_cells", "_law_names", "_law_steps", "_law_gone_here", "_law_day"] (qab qen):=scp
theorem sc__law_edges:qaf ["_law_steps", "_law_gone_here", "_law_day", "_law_found"] ["_law_steps", "_law_gone_here", "_law_day"] (qab qg5):=scp
theorem sc__law_greater:qaf ["_law_one", "_law_other", "_law_found", "_law_here", "_law_there"] ["_law_one", "_law_other"] (qab qe4):=scp
theorem sc__law_other_ages:qaf ["_law_steps", "_law_draw", "_law_wide", "_law_age", "_law_found", "_law_k"] ["_law_steps", "_law_draw"] (qab qdp):=scp
theorem sc__law_no_rule:qaf ["_law_book", "_law_steps", "e"] ["_law_book", "_law_steps"] (qab qe5):=scp
theorem sc__law_right:qaf ["_law_book", "_law_made", "_law_day", "_law_edges_here", "_law_names", "_law_readings_here", "_law_due"] ["_law_book", "_law_made", "_law_day", "_law_edges_here", "_law_names", "_law_readings_here"] (qab qg6):=scp
theorem sc__law_all_put:qaf ["_law_book", "_law_readings_here", "_law_name_here", "_law_time_here", "_law_value_here", "_law_many_here"] ["_law_book", "_law_readings_here"] (qab qe6):=scp
theorem sc__law_apart:qaf ["_law_books", "_law_strange", "_law_signs", "_law_before", "_law_book", "_law_marks", "_law_names"] ["_law_books", "_law_strange"] (qab qg7):=scp
theorem sc__law_gone:qaf ["_law_roll", "_law_edge", "e"] ["_law_roll", "_law_edge"] (qab qiy):=scp
theorem sc__law_roll_right:qaf ["_law_book", "_law_made", "_law_day", "_law_edges_here", "_law_name_here", "_law_readings_here", "_law_roll", "_law_mine", "_law_edge", "_law_time_here", "_law_due"] ["_law_book", "_law_made", "_law_day", "_law_edges_here", "_law_name_here", "_law_readings_here"] (qab qdq):=scp
theorem sc__law_other_widths:qaf ["_law_book", "_law_changed", "_law_steps", "_law_broad"] ["_law_book", "_law_changed", "_law_steps"] (qab qc2):=scp
theorem sc_law:qaf ["_law_script", "_law_steps", "_law_gone_here", "_law_made", "_law_day", "_law_one", "_law_names", "_law_ages", "_law_end", "_law_other", "_law_readings_here", "_law_mid", "_law_book", "_law_name_here", "_law_marks", "_law_first", "_law_edges_here", "_law_changed", "_law_back"] ["_law_script"] (qab qzf):=scp
theorem sc_Gone_init:qaf ["self", "edge"] ["self", "edge"] (qab qiz):=scp
structure Txt (K:Frag) (mg:Str->Option Value) (C_Roll C_Rule C_HowMany C_Book C_BookError C_NoNumber C_NoRule C_Backward C_Gone C_NoAsk C_NoName C_NoMark:Addr):Prop where
 f_is_whole:FG K mg "is_whole" qjw
 f_floored:FG K mg "floored" qme
 f_gone_cut:FG K mg "gone_cut" qjx
 f_edges_at:FG K mg "edges_at" qjy
 f_greater_edge:FG K mg "greater_edge" qe2
 f_greater:FG K mg "greater" qmf
 f_is_gone:FG K mg "is_gone" qmg
 f_width_at:FG K mg "width_at" qjz
 f_cell_at:FG K mg "cell_at" qmh
 f_heap_of:FG K mg "heap_of" qmi
 f_poured:FG K mg "poured" qpn
 f_Roll_init:FI K C_Roll "Roll.__init__" qim
 f_Roll_put:FMd K C_Roll "put" "Roll.put" qgh 1
 f_Roll_pour_into_cell:FM K C_Roll "pour_into_cell" "Roll.pour_into_cell" qcl
 f_Roll_take_heap:FM K C_Roll "take_heap" "Roll.take_heap" qd0
 f_Roll_take_all:FM K C_Roll "take_all" "Roll.take_all" qeh
 f_Roll_rule:FM K C_Roll "rule" "Roll.rule" qin
 f_Roll_day:FM K C_Roll "day" "Roll.day" qj0
 f_Roll_edges:FM K C_Roll "edges" "Roll.edges" qgt
 f_Roll_young:FM K C_Roll "young" "Roll.young" qgu
 f_Roll_heaps:FM K C_Roll "heaps" "Roll.heaps" qgv
 f_begun:FG K mg "begun" qtq
 f_is_step:FG K mg "is_step" qmj
 f_check_one_step:FG K mg "check_one_step" qd1
 f_check_next_step:FG K mg "check_next_step" qdo
 f_check_steps:FG K mg "check_steps" qfz
 f_check_gone:FG K mg "check_gone" qgw
 f_Rule_init:FId K C_Rule "Rule.__init__" qfh #[.none]
 f_Rule_steps:FM K C_Rule "steps" "Rule.steps" qgx
 f_Rule_gone:FM K C_Rule "gone" "Rule.gone" qio
 f_widths_of:FG K mg "widths_of" qip
 f_aged:FG K mg "aged" qw4
 f_roll_of:FG K mg "roll_of" qmk
 f_measure:FG K mg "measure" qml
 f_check_begin:FG K mg "check_begin" qf0
 f_greatest_gone:FG K mg "greatest_gone" qei
 f_pieces_of_all:FG K mg "pieces_of_all" qej
 f_asked:FGd K mg "asked" qnz #[.none,.none]
 f_is_small_word:FG K mg "is_small_word" qek
 f_is_name:FG K mg "is_name" qmm
 f_is_mark:FG K mg "is_mark" qmn
 f_check_marks:FG K mg "check_marks" qf1
 f_Book_init:FI K C_Book "Book.__init__" qiq
 f_Book_enrol:FMn K C_Book "enrol" "Book.enrol" qel
 f_Book_check_enrolled:FM K C_Book "check_enrolled" "Book.check_enrolled" qcm
 f_Book_own_roll:FM K C_Book "own_roll" "Book.own_roll" qem
 f_Book_put:FMd K C_Book "put" "Book.put" qgi 1
 f_Book_rule:FM K C_Book "rule" "Book.rule" qir
 f_Book_day:FM K C_Book "day" "Book.day" qj1
 f_Book_edges:FM K C_Book "edges" "Book.edges" qgy
 f_Book_names:FM K C_Book "names" "Book.names" qgz
 f_Book_marks:FM K C_Book "marks" "Book.marks" qg0
 f_Book_roll:FM K C_Book "roll" "Book.roll" qis
 f_begun_book:FG K mg "begun_book" qg1
 f_moved:FG K mg "moved" qtr
 f_book_under:FG K mg "book_under" qg2
 f_book_of:FG K mg "book_of" qmo
 f_told:FG K mg "told" qw5
 f__law_cell_at:FG K mg "_law_cell_at" qe3
 f__law_mixed:FG K mg "_law_mixed" qg3
 f__law_name:FG K mg "_law_name" qit
 f__law_mark:FG K mg "_law_mark" qiu
 f__law_rule:FG K mg "_law_rule" qiv
 f__law_time:FG K mg "_law_time" qiw
 f__law_value:FG K mg "_law_value" qg4
 f__law_many:FG K mg "_law_many" qix
 f__law_readings:FG K mg "_law_readings" qen
 f__law_edges:FG K mg "_law_edges" qg5
 f__law_greater:FG K mg "_law_greater" qe4
 f__law_other_ages:FG K mg "_law_other_ages" qdp
 f__law_no_rule:FG K mg "_law_no_rule" qe5
 f__law_right:FG K mg "_law_right" qg6
 f__law_all_put:FG K mg "_law_all_put" qe6
 f__law_apart:FG K mg "_law_apart" qg7
 f__law_gone:FG K mg "_law_gone" qiy
 f__law_roll_right:FG K mg "_law_roll_right" qdq
 f__law_other_widths:FG K mg "_law_other_widths" qc2
 f_law:FG K mg "law" qzf
 f_Gone_init:∃ f fd,Fun K "__init__" "Gone.__init__" qiz f fd/\qA5 K C_Gone f "edge"
 cl_Roll:Cls K C_Roll
 mg_Roll:mg "Roll" = some (.ref C_Roll)
 na_Roll_kept_rule:NoAttr K C_Roll "kept_rule"
 na_Roll_kept_day:NoAttr K C_Roll "kept_day"
 na_Roll_kept_edges:NoAttr K C_Roll "kept_edges"
 na_Roll_whole_ones:NoAttr K C_Roll "whole_ones"
 na_Roll_cell_heaps:NoAttr K C_Roll "cell_heaps"
 cl_Rule:Cls K C_Rule
 mg_Rule:mg "Rule" = some (.ref C_Rule)
 na_Rule_kept_steps:NoAttr K C_Rule "kept_steps"
 na_Rule_gone_age:NoAttr K C_Rule "gone_age"
 cl_HowMany:Cls K C_HowMany
 mg_HowMany:mg "HowMany" = some (.ref C_HowMany)
 mk_HowMany:Mk0 K C_HowMany
 cl_Book:Cls K C_Book
 mg_Book:mg "Book" = some (.ref C_Book)
 na_Book_kept_rule:NoAttr K C_Book "kept_rule"
 na_Book_kept_day:NoAttr K C_Book "kept_day"
 na_Book_kept_edges:NoAttr K C_Book "kept_edges"
 na_Book_kept_marks:NoAttr K C_Book "kept_marks"
 na_Book_kept_rolls:NoAttr K C_Book "kept_rolls"
 mg_BookError:mg "BookError" = some (.ref C_BookError)
 mg_NoNumber:mg "NoNumber" = some (.ref C_NoNumber)
 mg_NoRule:mg "NoRule" = some (.ref C_NoRule)
 mg_Backward:mg "Backward" = some (.ref C_Backward)
 mg_Gone:mg "Gone" = some (.ref C_Gone)
 mg_NoAsk:mg "NoAsk" = some (.ref C_NoAsk)
 mg_NoName:mg "NoName" = some (.ref C_NoName)
 mg_NoMark:mg "NoMark" = some (.ref C_NoMark)
 ex_BookError:qwm K C_BookError
 kx_BookError:qnm K C_BookError
 hit_BookError_BookError:PySem.W.mroIn K C_BookError (.ref C_BookError)=some true
 is_BookError_BookError:PySem.W.kitOne K (.ref C_BookError) (.ref C_BookError)=some true
 is_BookError_NoNumber:PySem.W.kitOne K (.ref C_BookError) (.ref C_NoNumber)=some false
 is_BookError_NoRule:PySem.W.kitOne K (.ref C_BookError) (.ref C_NoRule)=some false
 is_BookError_Backward:PySem.W.kitOne K (.ref C_BookError) (.ref C_Backward)=some false
 is_BookError_Gone:PySem.W.kitOne K (.ref C_BookError) (.ref C_Gone)=some false
 is_BookError_NoAsk:PySem.W.kitOne K (.ref C_BookError) (.ref C_NoAsk)=some false
 is_BookError_NoName:PySem.W.kitOne K (.ref C_BookError) (.ref C_NoName)=some false
 is_BookError_NoMark:PySem.W.kitOne K (.ref C_BookError) (.ref C_NoMark)=some false
 is_BookError_ValueError:PySem.W.kitOne K (.ref C_BookError) (.type "ValueError")=some true
 ex_NoNumber:qwm K C_NoNumber
 kx_NoNumber:qnm K C_NoNumber
 hit_NoNumber_BookError:PySem.W.mroIn K C_NoNumber (.ref C_BookError)=some true
 is_NoNumber_BookError:PySem.W.kitOne K (.ref C_NoNumber) (.ref C_BookError)=some true
 hit_NoNumber_NoNumber:PySem.W.mroIn K C_NoNumber (.ref C_NoNumber)=some true
 is_NoNumber_NoNumber:PySem.W.kitOne K (.ref C_NoNumber) (.ref C_NoNumber)=some true
 is_NoNumber_NoRule:PySem.W.kitOne K (.ref C_NoNumber) (.ref C_NoRule)=some false
 is_NoNumber_Backward:PySem.W.kitOne K (.ref C_NoNumber) (.ref C_Backward)=some false
 is_NoNumber_Gone:PySem.W.kitOne K (.ref C_NoNumber) (.ref C_Gone)=some false
 is_NoNumber_NoAsk:PySem.W.kitOne K (.ref C_NoNumber) (.ref C_NoAsk)=some false
 is_NoNumber_NoName:PySem.W.kitOne K (.ref C_NoNumber) (.ref C_NoName)=some false
 is_NoNumber_NoMark:PySem.W.kitOne K (.ref C_NoNumber) (.ref C_NoMark)=some false
 is_NoNumber_ValueError:PySem.W.kitOne K (.ref C_NoNumber) (.type "ValueError")=some true
 ex_NoRule:qwm K C_NoRule
 kx_NoRule:qnm K C_NoRule
 hit_NoRule_BookError:PySem.W.mroIn K C_NoRule (.ref C_BookError)=some true
 is_NoRule_BookError:PySem.W.kitOne K (.ref C_NoRule) (.ref C_BookError)=some true
 is_NoRule_NoNumber:PySem.W.kitOne K (.ref C_NoRule) (.ref C_NoNumber)=some false
 hit_NoRule_NoRule:PySem.W.mroIn K C_NoRule (.ref C_NoRule)=some true
 is_NoRule_NoRule:PySem.W.kitOne K (.ref C_NoRule) (.ref C_NoRule)=some true
 is_NoRule_Backward:PySem.W.kitOne K (.ref C_NoRule) (.ref C_Backward)=some false
 is_NoRule_Gone:PySem.W.kitOne K (.ref C_NoRule) (.ref C_Gone)=some false
 is_NoRule_NoAsk:PySem.W.kitOne K (.ref C_NoRule) (.ref C_NoAsk)=some false
 is_NoRule_NoName:PySem.W.kitOne K (.ref C_NoRule) (.ref C_NoName)=some false
 is_NoRule_NoMark:PySem.W.kitOne K (.ref C_NoRule) (.ref C_NoMark)=some false
 is_NoRule_ValueError:PySem.W.kitOne K (.ref C_NoRule) (.type "ValueError")=some true
 kx_Backward:qnm K C_Backward
 hit_Backward_BookError:PySem.W.mroIn K C_Backward (.ref C_BookError)=some true
 is_Backward_BookError:PySem.W.kitOne K (.ref C_Backward) (.ref C_BookError)=some true
 is_Backward_NoNumber:PySem.W.kitOne K (.ref C_Backward) (.ref C_NoNumber)=some false
 is_Backward_NoRule:PySem.W.kitOne K (.ref C_Backward) (.ref C_NoRule)=some false
 hit_Backward_Backward:PySem.W.mroIn K C_Backward (.ref C_Backward)=some true
 is_Backward_Backward:PySem.W.kitOne K (.ref C_Backward) (.ref C_Backward)=some true
 is_Backward_Gone:PySem.W.kitOne K (.ref C_Backward) (.ref C_Gone)=some false
 is_Backward_NoAsk:PySem.W.kitOne K (.ref C_Backward) (.ref C_NoAsk)=some false
 is_Backward_NoName:PySem.W.kitOne K (.ref C_Backward) (.ref C_NoName)=some false
 is_Backward_NoMark:PySem.W.kitOne K (.ref C_Backward) (.ref C_NoMark)=some false
 is_Backward_ValueError:PySem.W.kitOne K (.ref C_Backward) (.type "ValueError")=some true
 kx_Gone:qnm K C_Gone
 hit_Gone_BookError:PySem.W.mroIn K C_Gone (.ref C_BookError)=some true
 is_Gone_BookError:PySem.W.kitOne K (.ref C_Gone) (.ref C_BookError)=some true
 is_Gone_NoNumber:PySem.W.kitOne K (.ref C_Gone) (.ref C_NoNumber)=some false
 is_Gone_NoRule:PySem.W.kitOne K (.ref C_Gone) (.ref C_NoRule)=some false
 is_Gone_Backward:PySem.W.kitOne K (.ref C_Gone) (.ref C_Backward)=some false
 hit_Gone_Gone:PySem.W.mroIn K C_Gone (.ref C_Gone)=some true
 is_Gone_Gone:PySem.W.kitOne K (.ref C_Gone) (.ref C_Gone)=some true
 is_Gone_NoAsk:PySem.W.kitOne K (.ref C_Gone) (.ref C_NoAsk)=some false
 is_Gone_NoName:PySem.W.kitOne K (.ref C_Gone) (.ref C_NoName)=some false
 is_Gone_NoMark:PySem.W.kitOne K (.ref C_Gone) (.ref C_NoMark)=some false
 is_Gone_ValueError:PySem.W.kitOne K (.ref C_Gone) (.type "ValueError")=some true
 ex_NoAsk:qwm K C_NoAsk
 kx_NoAsk:qnm K C_NoAsk
 hit_NoAsk_BookError:PySem.W.mroIn K C_NoAsk (.ref C_BookError)=some true
 is_NoAsk_BookError:PySem.W.kitOne K (.ref C_NoAsk) (.ref C_BookError)=some true
 is_NoAsk_NoNumber:PySem.W.kitOne K (.ref C_NoAsk) (.ref C_NoNumber)=some false
 is_NoAsk_NoRule:PySem.W.kitOne K (.ref C_NoAsk) (.ref C_NoRule)=some false
 is_NoAsk_Backward:PySem.W.kitOne K (.ref C_NoAsk) (.ref C_Backward)=some false
 is_NoAsk_Gone:PySem.W.kitOne K (.ref C_NoAsk) (.ref C_Gone)=some false
 hit_NoAsk_NoAsk:PySem.W.mroIn K C_NoAsk (.ref C_NoAsk)=some true
 is_NoAsk_NoAsk:PySem.W.kitOne K (.ref C_NoAsk) (.ref C_NoAsk)=some true
 is_NoAsk_NoName:PySem.W.kitOne K (.ref C_NoAsk) (.ref C_NoName)=some false
 is_NoAsk_NoMark:PySem.W.kitOne K (.ref C_NoAsk) (.ref C_NoMark)=some false
 is_NoAsk_ValueError:PySem.W.kitOne K (.ref C_NoAsk) (.type "ValueError")=some true
 ex_NoName:qwm K C_NoName
 kx_NoName:qnm K C_NoName
 hit_NoName_BookError:PySem.W.mroIn K C_NoName (.ref C_BookError)=some true
 is_NoName_BookError:PySem.W.kitOne K (.ref C_NoName) (.ref C_BookError)=some true
 is_NoName_NoNumber:PySem.W.kitOne K (.ref C_NoName) (.ref C_NoNumber)=some false
 is_NoName_NoRule:PySem.W.kitOne K (.ref C_NoName) (.ref C_NoRule)=some false
 is_NoName_Backward:PySem.W.kitOne K (.ref C_NoName) (.ref C_Backward)=some false
 is_NoName_Gone:PySem.W.kitOne K (.ref C_NoName) (.ref C_Gone)=some false
 is_NoName_NoAsk:PySem.W.kitOne K (.ref C_NoName) (.ref C_NoAsk)=some false
 hit_NoName_NoName:PySem.W.mroIn K C_NoName (.ref C_NoName)=some true
 is_NoName_NoName:PySem.W.kitOne K (.ref C_NoName) (.ref C_NoName)=some true
 is_NoName_NoMark:PySem.W.kitOne K (.ref C_NoName) (.ref C_NoMark)=some false
 is_NoName_ValueError:PySem.W.kitOne K (.ref C_NoName) (.type "ValueError")=some true
 ex_NoMark:qwm K C_NoMark
 kx_NoMark:qnm K C_NoMark
 hit_NoMark_BookError:PySem.W.mroIn K C_NoMark (.ref C_BookError)=some true
 is_NoMark_BookError:PySem.W.kitOne K (.ref C_NoMark) (.ref C_BookError)=some true
 is_NoMark_NoNumber:PySem.W.kitOne K (.ref C_NoMark) (.ref C_NoNumber)=some false
 is_NoMark_NoRule:PySem.W.kitOne K (.ref C_NoMark) (.ref C_NoRule)=some false
 is_NoMark_Backward:PySem.W.kitOne K (.ref C_NoMark) (.ref C_Backward)=some false
 is_NoMark_Gone:PySem.W.kitOne K (.ref C_NoMark) (.ref C_Gone)=some false
 is_NoMark_NoAsk:PySem.W.kitOne K (.ref C_NoMark) (.ref C_NoAsk)=some false
 is_NoMark_NoName:PySem.W.kitOne K (.ref C_NoMark) (.ref C_NoName)=some false
 hit_NoMark_NoMark:PySem.W.mroIn K C_NoMark (.ref C_NoMark)=some true
 is_NoMark_NoMark:PySem.W.kitOne K (.ref C_NoMark) (.ref C_NoMark)=some true
 is_NoMark_ValueError:PySem.W.kitOne K (.ref C_NoMark) (.type "ValueError")=some true
 bi_BookError:qA7 K C_BookError
 b_all:mg "all" = none
 b_bool:mg "bool" = none
 b_int:mg "int" = none
 b_isinstance:mg "isinstance" = none
 b_len:mg "len" = none
 b_list:mg "list" = none
 b_max:mg "max" = none
 b_min:mg "min" = none
 b_range:mg "range" = none
 b_set:mg "set" = none
 b_sorted:mg "sorted" = none
 b_str:mg "str" = none
 b_sum:mg "sum" = none
 b_tuple:mg "tuple" = none
 b_zip:mg "zip" = none
 c_MOST_STEPS:∃ t,mg "MOST_STEPS" = some (.int 5 t)
 c_LETTERS:∃ t,mg "LETTERS" = some (.str "abcdefghijklmnopqrstuvwxyz" t)
 c_LONGEST_NAME:∃ t,mg "LONGEST_NAME" = some (.int 12 t)
 c_LONGEST_MARK:∃ t,mg "LONGEST_MARK" = some (.int 8 t)
 c_MOST_MARKS:∃ t,mg "MOST_MARKS" = some (.int 8 t)
theorem qBv {K:Frag} {mg:Str->Option Value} {C_Roll C_Rule C_HowMany C_Book C_BookError C_NoNumber C_NoRule C_Backward C_Gone C_NoAsk C_NoName C_NoMark:Addr} (_:nsIn K mainGlobals "Roll" = some (some (.ref C_Roll))) (_:nsIn K mainGlobals "Rule" = some (some (.ref C_Rule))) (_:nsIn K mainGlobals "HowMany" = some (some (.ref C_HowMany))) (_:nsIn K mainGlobals "Book" = some (some (.ref C_Book))) (_:nsIn K mainGlobals "BookError" = some (some (.ref C_BookError))) (_:nsIn K mainGlobals "NoNumber" = some (some (.ref C_NoNumber))) (_:nsIn K mainGlobals "NoRule" = some (some (.ref C_NoRule))) (_:nsIn K mainGlobals "Backward" = some (some (.ref C_Backward))) (_:nsIn K mainGlobals "Gone" = some (some (.ref C_Gone))) (_:nsIn K mainGlobals "NoAsk" = some (some (.ref C_NoAsk))) (_:nsIn K mainGlobals "NoName" = some (some (.ref C_NoName))) (_:nsIn K mainGlobals "NoMark" = some (some (.ref C_NoMark))) (T:Txt K mg C_Roll C_Rule C_HowMany C_Book C_BookError C_NoNumber C_NoRule C_Backward C_Gone C_NoAsk C_NoName C_NoMark):∃ C_Roll C_Rule C_HowMany C_Book C_BookError C_NoNumber C_NoRule C_Backward C_Gone C_NoAsk C_NoName C_NoMark,Txt K mg C_Roll C_Rule C_HowMany C_Book C_BookError C_NoNumber C_NoRule C_Backward C_Gone C_NoAsk C_NoName C_NoMark:=⟨C_Roll,C_Rule,C_HowMany,C_Book,C_BookError,C_NoNumber,C_NoRule,C_Backward,C_Gone,C_NoAsk,C_NoName,C_NoMark,T⟩
section
variable {P:Program} {w:World} {K:Frag} {mg:Str->Option Value} {base:Heap} {C_Roll C_Rule C_HowMany C_Book C_BookError C_NoNumber C_NoRule C_Backward C_Gone C_NoAsk C_NoName C_NoMark:Addr} (T:Txt K mg C_Roll C_Rule C_HowMany C_Book C_BookError C_NoNumber C_NoRule C_Backward C_Gone C_NoAsk C_NoName C_NoMark)
include T in
theorem qgj:qba P w K mg base 1 "is_whole" ["thing"] qnv:=by
 obtain ⟨f,fd,F,hm⟩:=T.f_is_whole;have nd:=sc_is_whole.nd;refine F.def_ hm (F.ok sc_is_whole (λvs H Q E h=>?_) (λcdv A outer s H vs Q E hr h=>?_)) (F.binds λ_ _ _ _ _ _ us hl=>by obtain ⟨_,rfl⟩:=L2.lq1 hl;rfl)
 ·obtain ⟨x,rfl,_⟩:=h;rfl
 ·obtain ⟨x,rfl,i,rfl,q⟩:=h
  refine ⟨_,(qad (qah (qd6 (qal qhi rfl T.b_isinstance qbv (jA2 (pv 0) (qkg (v:=.ty "int") rfl T.b_int qwh rfl))) (qfm (qv8 (qal qhi rfl T.b_isinstance qbv (jA2 (pv 0) (qkg (v:=.ty "bool") rfl T.b_bool qx4 rfl)))))))),?_⟩;refine ⟨_,rfl,_,_,_,true,rfl,.int i,qhw _,_,rfl,qc6 ?_⟩;exact ⟨_,rfl,_,_,_,false,rfl,.int i,qgo _,_,rfl,q⟩
include T in
theorem qts:qba P w K mg base 2 "is_step" ["thing"] qql:=by
 obtain ⟨f,fd,F,hm⟩:=T.f_is_step;have nd:=sc_is_step.nd;refine F.def_ hm (F.ok sc_is_step (λvs H Q E h=>?_) (λcdv A outer s H vs Q E hr h=>?_)) (F.binds λ_ _ _ _ _ _ us hl=>by obtain ⟨_,rfl⟩:=L2.lq1 hl;rfl)
 ·obtain ⟨x,p,rfl,_⟩:=h;rfl
 ·obtain ⟨x,p,rfl,⟨a,rfl,ha⟩,q⟩:=h
  refine ⟨_,(qad (qah (qd6 (qal qhi rfl T.b_isinstance qbv (jA2 (pv 0) (qkg (v:=.ty "tuple") rfl T.b_tuple qu6 rfl))) (qd6 (jD qey (qal qau rfl T.b_len qcj (jA1 (pv 0))) qaa) (qd6 (jF (qgj T) hr (jA1 (jT (pv 0) qaa))) (qfm (jF (qgj T) hr (jA1 (jT (pv 0) qaa))))))))),?_⟩;refine ⟨_,rfl,_,_,_,true,rfl,.tup ha,kit_tuple _,_,rfl,qc6 ?_⟩;refine ⟨_,rfl,a,_,rfl,.inr (SqT.of ha),rfl,_,rfl,qc6 ?_⟩;refine ⟨_,rfl,a,_,0,_,rfl,rfl,SqT.of ha,rfl,_,rfl,_,rfl,_,rfl,qc6 ?_⟩;exact ⟨_,rfl,a,_,1,_,rfl,rfl,SqT.of ha,rfl,_,rfl,_,rfl,q⟩
include T in
theorem qhe:qba P w K mg base 3 "check_one_step" ["step"] qgf:=by
 obtain ⟨f,fd,F,hm⟩:=T.f_check_one_step;have nd:=sc_check_one_step.nd;refine F.def_ hm (F.ok sc_check_one_step (λvs H Q E h=>?_) (λcdv A outer s H vs Q E hr h=>?_)) (F.binds λ_ _ _ _ _ _ us hl=>by obtain ⟨_,rfl⟩:=L2.lq1 hl;rfl)
 ·obtain ⟨x,p,rfl,_⟩:=h;rfl
 ·obtain ⟨x,p,rfl,hp,h1,h2,q⟩:=h
  obtain ⟨a,rfl,ha⟩:=id hp;refine ⟨_,(jB3 (qa2 (qcz (qct (jF (qts T) hr (jA1 (pv 0))))) (qad qbm) qak) (qa2 (jC qhl (jT (pv 0) qaa) qaa) (qad qbm) qak) (qa2 (jC qhl (jT (pv 0) qaa) qaa) (qad qbm) qak)),?_⟩;refine ⟨_,rfl,_,p,rfl,hp,_,rfl,qds ?_⟩;refine ⟨_,rfl,a,_,0,_,rfl,rfl,SqT.of ha,rfl,_,_,rfl,rfl,_,rfl,qjg (λz=>?_) λ_=>?_⟩
  ·exact absurd (AG z) (by omega)
  refine ⟨_,rfl,a,_,1,_,rfl,rfl,SqT.of ha,rfl,_,_,rfl,rfl,_,rfl,qjg (λz=>?_) λ_=>q⟩;exact absurd (AG z) (by omega)
include T in
theorem qgk:qba P w K mg base 1 "check_next_step" ["step", "behind"] qc8:=by
 obtain ⟨f,fd,F,hm⟩:=T.f_check_next_step;have nd:=sc_check_next_step.nd;refine F.def_ hm (F.ok sc_check_next_step (λvs H Q E h=>?_) (λcdv A outer s H vs Q E hr h=>?_)) (F.binds λ_ _ _ _ _ _ us hl=>by obtain ⟨_,_,rfl⟩:=L2.lq2 hl;rfl)
 ·obtain ⟨x,y,p,p',rfl,_⟩:=h;rfl
 ·obtain ⟨x,y,p,p',rfl,⟨a,rfl,ha⟩,⟨b,rfl,hb⟩,h0,h1,h2,q⟩:=h
  refine ⟨_,(jB2 (qa2 (jC qhl (jT (pv 1) qaa) (jT (pv 0) qaa)) (qad qbm) qak) (qa2 (jC qp5 (qag qav (jT (pv 1) qaa) (jT (pv 0) qaa)) qaa) (qad qbm) qak)),?_⟩;refine ⟨_,rfl,b,_,0,_,rfl,rfl,SqT.of hb,rfl,_,rfl,a,_,0,_,rfl,rfl,SqT.of ha,rfl,_,_,rfl,rfl,_,rfl,qjg (λz=>?_) λ_=>?_⟩
  ·exact absurd (AG z) (by omega)
  refine ⟨_,rfl,b,_,1,_,rfl,rfl,SqT.of hb,rfl,_,rfl,a,_,1,_,rfl,rfl,SqT.of ha,rfl,_,_,rfl,rfl,(by show 0<p.2;omega),rfl,_,rfl,?_⟩;refine qAk ?_ q;exact congrArg V.int h2
inductive qtt (N:Addr) (vs:List V) (H:Hp) (Q:VK) (E:XK):Prop
 | mk:∀ l xs ps,vs=[.ref l]->H l=some (.lst xs)->Pairs H xs ps->1<=ps.length->(ps.length<=5->Good ps/\∀ H',Same H H'->Q .non H')->(5<ps.length->∀ H',Same H H'->E (.ref N) none H')->qtt N vs H Q E
inductive qn0 (C N:Addr) (vs:List V) (H:Hp) (Q:VK) (E:XK):Prop
 | mk:∀ r dx l xs ps g,vs=[.ref r,.ref l,gv g]->H r=some (.ins C dx [])->H l=some (.lst xs)->Pairs H xs ps->1<=ps.length->(ps.length<=5->Good ps/\(∀ p,ps[ps.length-1]?=some p->qs2 g p.1)/\∀ l' H',H l'=none->RuleAt C H' r l' ps g->But r H H'->Q .non H')->(5<ps.length->∀ H',Same H H'->E (.ref N) none H')->qn0 C N vs H Q E
include T in
theorem qk3:qva P w K mg base 4 "check_steps" ["steps"] [] (qtt C_NoRule):=by
 obtain ⟨f,fd,F,hm⟩:=T.f_check_steps;have nd:=sc_check_steps.nd;refine ⟨f,fd,(F.okX sc_check_steps (λvs H Q E h=>?_) (λcdv A outer s H vs Q E hr h=>?_)),hm,F.kp,(F.binds λ_ _ _ _ _ _ us hl=>by obtain ⟨_,rfl⟩:=L2.lq1 hl;rfl)⟩
 ·obtain ⟨l,xs,ps,rfl,_⟩:=h;rfl
 ·obtain ⟨l,xs,ps,rfl,hl,hp,g1,q,qE⟩:=h
  have hlen:=hp.length;refine ⟨_,(jB3 (qa2 (PW.pt (qhb (jC qhl (qal qau rfl T.b_len qcj (jA1 (pv 0))) qaa) (qe0 (jC qxj (qal qau rfl T.b_len qcj (jA1 (pv 0))) (qe9 (v:=.int 5) rfl T.c_MOST_STEPS.choose_spec ⟨_,rfl⟩))))) (qad (qc7 (qay ⟨rfl,rfl,rfl⟩) rfl T.ex_NoRule rfl T.mg_NoRule (jA1 qbr))) qak) (qbz (qos ⟨rfl,rfl,rfl⟩) rfl (qa1 (pv 0)) (jN 1 nd) (qad (qat (jF (qhe T) hr (jA1 (pv 1)))))) (qbz (qos ⟨rfl,rfl,rfl⟩) rfl (qlp rfl T.b_zip (jA2 (pv 0) (qbo qch (pv 0) (qbx qaa) qb6))) (jG2 (jN 1 nd) (jN 2 nd)) (qad (qat (jF (qgk T) hr (jA2 (pv 1) (pv 2))))))),?_⟩;refine ⟨_,rfl,l,xs,rfl,.inl (SqL.of hl),_,_,rfl,rfl,_,rfl,qjg (λz=>?_) λ_=>?_⟩
  ·exact absurd (AG z) (by omega)
  refine ⟨_,rfl,l,xs,rfl,.inl (SqL.of hl),_,_,rfl,rfl,_,rfl,qjg (λz=>?_) λz=>?_⟩
  ·exact ⟨by walk_at "c",qE (by have:=AG z;omega) H (Same.refl _)⟩
  have g2:ps.length<=5:=by simp at z;omega
  obtain ⟨G,q⟩:=q g2;refine ⟨_,rfl,l,rfl,⟨_,SqL.of hl⟩,qbn (xs:=xs) (λi σ H2=>H2=H/\∃ v,σ=[some (.ref l),v,none]) ⟨rfl,none,rfl⟩ (λi σ H2 _ h2=>by rw[h2.1];exact SqL.of hl) ?_ ?_⟩
  ·rintro i x σ H2 hi ⟨rfl,v,rfl⟩
   obtain ⟨p,hpi,hx⟩:=hp.get hi;obtain ⟨e1,e2⟩:=G.each i p hpi;exact ⟨_,rfl,_,p,rfl,hx,e1,e2,rfl,_,rfl⟩
  ·rintro σ H2 ⟨rfl,v,rfl⟩
   refine ⟨_,rfl,_,rfl,_,rfl,_,xs,rfl,SqL.of hl,λl2 H3 n3=>?_⟩;refine ⟨l,l2,xs,_,rfl,SqL.of (n3.same _ _ hl),SqL.of n3.at_,qkm (xs:=xs) (ys:=qhp xs (some 1) none) (λi σ H4=>Same H3 H4/\∃ u v,σ=[some (.ref l),u,v]) ⟨Same.refl _,_,_,rfl⟩
    (λi σ H4 h4=>⟨SqL.of (h4.1 _ _ (n3.same _ _ hl)),SqL.of (h4.1 _ _ n3.at_)⟩) ?_ ?_⟩
   ·rintro i x y σ H4 p H5 hx hy n5 ⟨s4,u,v',rfl⟩
    obtain ⟨p1,hp1,hx1⟩:=hp.get hx;have hy':xs[i+1]?=some y:=by
     have:qhp xs (some 1) none=xs.drop 1:=qE0 xs;rw[this,List.getElem?_drop] at hy
     rwa [Nat.add_comm] at hy
    obtain ⟨p2,hp2,hx2⟩:=hp.get hy';obtain ⟨e1,e2⟩:=G.next i p1 p2 hp1 hp2;obtain ⟨_,e3⟩:=G.each i p1 hp1;have s5:Same H2 H5:=n3.same.trans (s4.trans n5.same);refine ⟨p,_,rfl,SqT.of n5.at_,rfl,_,_,rfl,_,_,rfl,rfl,?_⟩;exact ⟨_,rfl,_,rfl,x,y,p1,p2,rfl,hx1.same s5,hx2.same s5,e3,e1,e2,s4.trans n5.same,_,_,rfl⟩
   ·rintro i σ H4 _ ⟨s4,_,_,_⟩
    exact q H4 (n3.same.trans s4)
include T in
theorem qmp:qba P w K mg base 2 "check_gone" ["gone", "last_age"] qku:=by
 obtain ⟨f,fd,F,hm⟩:=T.f_check_gone;have nd:=sc_check_gone.nd;refine F.def_ hm (F.ok sc_check_gone (λvs H Q E h=>?_) (λcdv A outer s H vs Q E hr h=>?_)) (F.binds λ_ _ _ _ _ _ us hl=>by obtain ⟨_,_,rfl⟩:=L2.lq2 hl;rfl)
 ·obtain ⟨g,last,rfl,_⟩:=h;rfl
 ·obtain ⟨g,last,rfl,hg,q⟩:=h
  refine ⟨_,(jB2 (qa2 (jC qea (pv 0) qbp) (qad qxf) qak) (qa2 (PW.pt (qhb (qcz (qct (jF (qgj T) hr (jA1 (pv 0))))) (qe0 (jC qhl (pv 0) (pv 1))))) (qad qbm) qak)),?_⟩
  cases g with
  | none=>exact ⟨_,rfl,rfl,_,rfl,qc6 q⟩
  | some z =>
   refine ⟨_,rfl,rfl,_,rfl,qds ?_⟩;refine ⟨_,rfl,_,rfl,z,rfl,_,rfl,qds ?_⟩;refine ⟨_,rfl,_,rfl,_,_,rfl,rfl,_,rfl,qjg (λy=>?_) λ_=>q⟩;exact absurd (AG y) (by have:=hg z rfl;omega)
include T in
theorem qn1:∃ f fd dT o n,qf7 P w K mg base (CX1 P w) 5 f fd ["self", "steps", "gone"] (qn0 C_Rule C_NoRule)/\FunD K "__init__" "Rule.__init__" qfh (.ref dT) f fd/\Mk K C_Rule f/\fd.defaults=.ref dT/\K.lookup dT=some o/\o.data=.seq #[.none] n:=by
 obtain ⟨f,fd,dT,o,n,F,M,h1,h2,h3⟩:=T.f_Rule_init;have nd:=sc_Rule_init.nd;refine ⟨f,fd,dT,o,n,(F.okX sc_Rule_init (λvs H Q E h=>?_) (λcdv A outer s H vs Q E hr h=>?_)),F,M,h1,h2,h3⟩
 ·obtain ⟨r,dx,l,xs,ps,g,rfl,_⟩:=h;rfl
 ·obtain ⟨r,dx,l,xs,ps,g,rfl,hro,hl,hp,g1,k,kE⟩:=h
  refine ⟨_,(jB5 (jS 3 nd (qbd qbc rfl T.b_list qce (jA1 (pv 1)))) (qat (jW (qk3 T) hr (jA1 (pv 3)))) (qat (jF (qmp T) hr (jA2 (pv 2) (jT (jI (pv 3) (qdt qb5 qaa)) qaa)))) (qb9 (pv 0) (pv 3) rfl) (qb9 (pv 0) (pv 2) rfl)),?_⟩;refine ⟨_,rfl,l,xs,rfl,.inl (SqL.of hl),λl' H1 n1=>?_⟩;refine ⟨_,rfl,l',xs,ps,rfl,n1.at_,hp.same n1.same,g1,λg5=>⟨(k g5).1,λH2 s2=>?_⟩,λg6 H2 s2=>kE g6 H2 (n1.same.trans s2)⟩;obtain ⟨G,hg,k⟩:=k g5;have hl2:=s2 _ _ n1.at_;have hp2:=(hp.same n1.same).same s2;have hlen:=hp.length;obtain ⟨v,hv⟩:∃ v,xs[xs.length-1]?=some v:=⟨xs[xs.length-1]'(by omega),Ad _⟩;obtain ⟨p,hpv,a,rfl,ha⟩:=hp2.get hv;refine ⟨_,rfl,_,rfl,_,rfl,l',xs,-1,_,rfl,rfl,SqL.of hl2,qh7 hv,a,_,0,_,rfl,rfl,SqT.of ha,rfl,g,p.1,rfl,hg p (by rw[<- hlen];exact hpv),?_⟩;have hr2:=s2 _ _ (n1.same _ _ hro);have nrl:r≠l':=qac hro n1.fresh;refine ⟨_,rfl,_,rfl,r,C_Rule,dx,[],rfl,hr2,T.cl_Rule,T.na_Rule_kept_steps,(by show 0<1000;decide),λH3 b3 h3=>?_⟩;refine ⟨_,rfl,_,rfl,r,C_Rule,dx,_,rfl,h3,T.cl_Rule,T.na_Rule_gone_age,(by show 1<1000;decide),λH4 b4 h4=>?_⟩;refine k l' _ n1.fresh ⟨⟨dx,h4⟩,xs,b4 _ _ (b3 _ _ hl2 nrl.symm) nrl.symm,(hp2.but b3 hr2 qc9).but b4 h3 qc9⟩ λb o e hb=>?_
  exact b4 _ _ (b3 _ _ (s2 _ _ (n1.same _ _ e)) hb) hb
include T in
theorem qk4:MkX P w K mg base C_Rule 5 "Rule" ["self", "steps", "gone"] [] (qn0 C_Rule C_NoRule):=by
 obtain ⟨f,fd,dT,o,n,hf,F,M,h1,h2,h3⟩:=qn1 (P:=P) (w:=w) (base:=base) T;refine ⟨f,fd,hf,T.mg_Rule,M,qga h1 h2 h3 λus hl=>?_⟩;obtain ⟨oc,od,kV,doc,pm,an,cdv,ct,osl,rfl,lk,hcd⟩:=F.ex;obtain ⟨_,_,_,rfl⟩:=L2.lq3 (us:=us) (by simpa using hl);exact ⟨_,rfl,rfl⟩
include T in
theorem qbl:qez P w K mg base C_Rule 1 "steps" ["self"] (ql0 C_Rule):=by
 obtain ⟨f,fd,F,hm⟩:=T.f_Rule_steps;have nd:=sc_Rule_steps.nd;refine ⟨f,fd,(F.ok sc_Rule_steps (λvs H Q E h=>?_) (λcdv A outer s H vs Q E hr h=>?_)),hm,(F.binds λ_ _ _ _ _ _ us hl=>by obtain ⟨_,rfl⟩:=L2.lq1 hl;rfl)⟩
 ·obtain ⟨r,l,ps,g,xs,rfl,_⟩:=h;rfl
 ·obtain ⟨r,l,ps,g,xs,rfl,R,hl,k⟩:=h
  obtain ⟨dx,hob⟩:=R.ob;refine ⟨_,(qad (qah (qbd qbc rfl T.b_list qce (jA1 (qa7 (pv 0) rfl))))),?_⟩;exact ⟨_,rfl,r,C_Rule,dx,_,_,rfl,hob,T.cl_Rule,T.na_Rule_kept_steps,qs7 _ _,l,xs,rfl,.inl (SqL.of hl),k⟩
include T in
theorem qfi:qez P w K mg base C_Rule 1 "gone" ["self"] (qs8 C_Rule):=by
 obtain ⟨f,fd,F,hm⟩:=T.f_Rule_gone;have nd:=sc_Rule_gone.nd;refine ⟨f,fd,(F.ok sc_Rule_gone (λvs H Q E h=>?_) (λcdv A outer s H vs Q E hr h=>?_)),hm,(F.binds λ_ _ _ _ _ _ us hl=>by obtain ⟨_,rfl⟩:=L2.lq1 hl;rfl)⟩
 ·obtain ⟨r,l,ps,g,rfl,_⟩:=h;rfl
 ·obtain ⟨r,l,ps,g,rfl,R,q⟩:=h
  obtain ⟨dx,hob⟩:=R.ob;refine ⟨_,(qad (qah (qa7 (pv 0) rfl))),?_⟩;exact ⟨_,rfl,r,C_Rule,dx,_,_,rfl,hob,T.cl_Rule,T.na_Rule_gone_age,qDm _ _,q⟩
include T in
theorem qi0:qba P w K mg base 1 "floored" ["number", "width"] qqm:=by
 obtain ⟨f,fd,F,hm⟩:=T.f_floored;have nd:=sc_floored.nd;refine F.def_ hm (F.ok sc_floored (λvs H Q E h=>?_) (λcdv A outer s H vs Q E hr h=>?_)) (F.binds λ_ _ _ _ _ _ us hl=>by obtain ⟨_,_,rfl⟩:=L2.lq2 hl;rfl)
 ·obtain ⟨n,w',rfl,_⟩:=h;rfl
 ·obtain ⟨n,w',rfl,h1,h2,h3,h4,q⟩:=h
  have hb:=qyz h1 (by decide:(0:Int)<=10 ^ 46) h3 h4;refine ⟨_,(qad (qah (qag qb2 (qag qkl (pv 0) (pv 1)) (pv 1)))),?_⟩;exact ⟨_,rfl,_,rfl,_,_,rfl,rfl,⟨by omega,by omega⟩,_,rfl,_,_,rfl,rfl,⟨⟨by omega,by omega⟩,by omega,by omega⟩,q⟩
include T in
theorem qqv:qba P w K mg base 2 "gone_cut" ["rule", "day"] (qh8 C_Rule):=by
 obtain ⟨f,fd,F,hm⟩:=T.f_gone_cut;have nd:=sc_gone_cut.nd;refine F.def_ hm (F.ok sc_gone_cut (λvs H Q E h=>?_) (λcdv A outer s H vs Q E hr h=>?_)) (F.binds λ_ _ _ _ _ _ us hl=>by obtain ⟨_,_,rfl⟩:=L2.lq2 hl;rfl)
 ·obtain ⟨r,l,ps,g,d,rfl,_⟩:=h;rfl
 ·obtain ⟨r,l,ps,g,d,rfl,R,Pg,hd,q⟩:=h
  obtain ⟨dx,hob⟩:=R.ob;obtain ⟨xs,hl,hx⟩:=R.ls;have n1:(rf l (gv g)).lookup ("gone" : Str)=none:=qlz _ _ (by decide +kernel) (by decide +kernel);have n2:(rf l (gv g)).lookup ("steps" : Str)=none:=qlz _ _ (by decide +kernel) (by decide +kernel);obtain ⟨p,hp,ep⟩:=Pg.last;have hlen:=hx.length;refine ⟨_,(jB3 (jS 2 nd (qa0 (pv 0) T.cl_Rule (qfi T) (hr.mono (by decide)))) (qa2 (jC qea (pv 2) qbp) (qad (qah qbp)) qak) (qah (jF (qi0 T) hr (jA2 (qag qdk (pv 1) (pv 2)) (jT (jI (qa0 (pv 0) T.cl_Rule (qbl T) (hr.mono (by decide))) (qdt qb5 qaa)) qaa))))),?_⟩;refine ⟨_,rfl,r,dx,_,rfl,hob,n1,r,l,ps,g,rfl,R,?_⟩
  cases g with
  | none=>exact ⟨_,rfl,rfl,_,rfl,qc6 (q H (Same.refl _))⟩
  | some z =>
   refine ⟨_,rfl,rfl,_,rfl,qds ?_⟩;refine ⟨_,rfl,_,rfl,_,_,rfl,rfl,?_⟩;refine ⟨_,rfl,r,dx,_,rfl,hob,n2,r,l,ps,_,xs,rfl,R,hl,λp1 H1 m1=>?_⟩;obtain ⟨v,hv,a,rfl,ha⟩:=hx.get' hp;have hz:=Pg.gb z rfl;have hs:=Pg.size _ p hp;unfold Bd at hd;refine ⟨_,rfl,p1,xs,-1,_,rfl,rfl,SqL.of m1.at_,qh7 (by rw[hlen];exact hv),a,_,1,_,rfl,rfl,SqT.of (m1.same _ _ ha),rfl,d-z,p.2,rfl,hs.2.2.1,hs.2.2.2,by omega,by omega,?_⟩;have:=q H1 m1.same;rw[ep] at this;exact this
include T in
theorem qj2:qba P w K mg base 3 "edges_at" ["rule", "day"] (qh9 C_Rule):=by
 obtain ⟨f,fd,F,hm⟩:=T.f_edges_at;have nd:=sc_edges_at.nd;refine F.def_ hm (F.ok sc_edges_at (λvs H Q E h=>?_) (λcdv A outer s H vs Q E hr h=>?_)) (F.binds λ_ _ _ _ _ _ us hl=>by obtain ⟨_,_,rfl⟩:=L2.lq2 hl;rfl)
 ·obtain ⟨r,l,ps,g,d,rfl,_⟩:=h;rfl
 ·obtain ⟨r,l,ps,g,d,rfl,R,Pg,hd,q⟩:=h
  obtain ⟨dx,hob⟩:=R.ob;obtain ⟨xs,hl,hx⟩:=R.ls;have n2:(rf l (gv g)).lookup ("steps" : Str)=none:=qlz _ _ (by decide +kernel) (by decide +kernel);have hlen:=hx.length;have h5:=Pg.good.hi;refine ⟨_,(jB2 (qdv (i:=2) (vars:=[ "age", "width" ]) (frees:=[ "day" ]) (fv:=[1]) nd rfl (Or.inl rfl) rfl (jL1 rfl) ⟨⟨rfl,.inl rfl,rfl,.inl rfl⟩,trivial⟩ (qa1 (qa0 (pv 0) T.cl_Rule (qbl T) (hr.mono (by decide)))) (qdh (by decide) (by decide)) (λ_ _ _ _=>(jG2 (jM 0 [ "age", "width", "day" ]) (jM 1 [ "age", "width", "day" ]))) (λ_ _ _ _=>qbg) (λ_ _ _ _=>(jF (qi0 T) hr (jA2 (qag qdk (pv 2) (pv 0)) (pv 1))))) (qah (qag qgb (pv 2) (qa8 (jA1 (jF (qqv T) hr (jA2 (pv 0) (pv 1)))))))),?_⟩;refine ⟨_,rfl,r,dx,_,rfl,hob,n2,r,l,ps,g,xs,rfl,R,hl,λp1 H1 m1=>?_⟩;refine ⟨p1,rfl,⟨_,SqL.of m1.at_⟩,qr5 (xs:=xs) (λi ys H2=>Same H1 H2/\ys=(ps.take i).map λp=>V.int (cut d p.1 p.2)) (Bn (qao (by omega))) ⟨Same.refl _,rfl⟩ (λi ys H2 h2=>⟨SqL.of (h2.1 _ _ m1.at_),by rw[h2.2];simp;omega⟩) ?_ ?_⟩
  ·rintro i x ys H2 hi ⟨s2,rfl⟩
   obtain ⟨p,hpi,a,rfl,ha⟩:=hx.get hi;have hs:=Pg.size i p hpi;unfold Bd at hd;refine ⟨a,_,rfl,SqT.of (s2 _ _ (m1.same _ _ ha)),rfl,_,_,rfl,_,_,rfl,rfl,qop (qc6 ?_)⟩;refine ⟨_,rfl,_,rfl,_,_,rfl,rfl,_,rfl,d-p.1,p.2,rfl,hs.2.2.1,hs.2.2.2,by omega,by omega,s2,?_⟩;exact (qCg _ ps i p hpi).symm
  ·rintro ys H2 c1 ⟨s2,rfl⟩ hc
   have nc:=qbb (o:=.lst ((ps.take xs.length).map λp=>V.int (cut d p.1 p.2))) hc
   generalize upd H2 c1 _=H3 at nc ⊢
   have s3:Same H H3:=m1.same.trans (s2.trans nc.same);rw[hlen,AL] at nc;refine ⟨_,rfl,_,rfl,_,rfl,r,l,ps,g,d,rfl,R.same s3,Pg,hd,λH4 s4=>⟨by show 1<=sizeLine;decide,λc2 H5 n5=>?_⟩⟩;refine ⟨c1,c2,_,_,rfl,rfl,n5.same _ _ (s4 _ _ nc.at_),n5.at_,Bn (qao (by simp;omega)),λz H6 n6=>?_⟩;exact q z H6 (New.after (s3.trans (s4.trans n5.same)) n6)
include T in
theorem qtu:qba P w K mg base 1 "is_gone" ["edges", "time"] qjs:=by
 obtain ⟨f,fd,F,hm⟩:=T.f_is_gone;have nd:=sc_is_gone.nd;refine F.def_ hm (F.ok sc_is_gone (λvs H Q E h=>?_) (λcdv A outer s H vs Q E hr h=>?_)) (F.binds λ_ _ _ _ _ _ us hl=>by obtain ⟨_,_,rfl⟩:=L2.lq2 hl;rfl)
 ·obtain ⟨e,es,ge,t,rfl,_⟩:=h;rfl
 ·obtain ⟨e,es,ge,t,rfl,he,q1,q2⟩:=h
  have hlast:(es.map V.int ++ [gv ge])[(es.map V.int ++ [gv ge]).length-1]?=some (gv ge):=by simp
  refine ⟨_,(qad (qah (qd6 (jD qf4 (jI (pv 0) (qdt qb5 qaa)) qbp) (qfm (jD qhl (pv 1) (jI (pv 0) (qdt qb5 qaa))))))),?_⟩
  cases ge with
  | none =>
   walk_at "r"
   exact q2 fun ⟨z,e,_⟩=>by cases e
  | some y =>
   walk_at "r"
   show Q (.bl (decide (t<y))) H
   by_cases h:t<y
   ·rw[AE h];exact q1 ⟨y,rfl,h⟩
   ·rw[Bc h];exact q2 fun ⟨z,e,h'⟩=>by cases e;exact h h'
include T in
theorem qqw:qba P w K mg base 2 "width_at" ["rule", "edges", "time"] (qid C_Rule):=by
 obtain ⟨f,fd,F,hm⟩:=T.f_width_at;have nd:=sc_width_at.nd;refine F.def_ hm (F.ok sc_width_at (λvs H Q E h=>?_) (λcdv A outer s H vs Q E hr h=>?_)) (F.binds λ_ _ _ _ _ _ us hl=>by obtain ⟨_,_,_,rfl⟩:=L2.lq3 hl;rfl)
 ·obtain ⟨r,l,ps,g,e,es,ge,t,e0,rfl,_⟩:=h;rfl
 ·obtain ⟨r,l,ps,g,e,es,ge,t,e0,rfl,R,he,hl,h1,h5,h0,hlt,q⟩:=h
  obtain ⟨dx,hob⟩:=R.ob;obtain ⟨xs,hxl,hx⟩:=R.ls;have n2:(rf l (gv g)).lookup ("steps" : Str)=none:=qlz _ _ (by decide +kernel) (by decide +kernel);have hlen:=hx.length;refine ⟨_,(jB2 (qdv (i:=3) (vars:=[ "step", "edge" ]) (frees:=[ "time" ]) (fv:=[2]) nd rfl (Or.inl rfl) rfl (jL1 rfl) ⟨⟨rfl,.inl rfl,rfl,.inl rfl⟩,trivial⟩ (qlp rfl T.b_zip (jA2 (qa0 (pv 0) T.cl_Rule (qbl T) (hr.mono (by decide))) (pv 1))) (qdh (by decide) (by decide)) (λ_ _ _ _=>(jG2 (jM 0 [ "step", "edge", "time" ]) (jM 1 [ "step", "edge", "time" ]))) (λ_ _ _ _=>(qr3 (jC qxj (pv 1) (pv 2)))) (λ_ _ _ _=>(qxu (show IxR _ (qCy K) from qwd) (pv 0) qaa (λ_ _=>rfl)))) (qah (jI (pv 3) (qdt qb5 qaa)))),?_⟩;refine ⟨_,rfl,r,dx,_,rfl,hob,n2,r,l,ps,g,xs,rfl,R,hxl,λp1 H1 m1=>?_⟩;have he1:=m1.same _ _ he;refine ⟨_,rfl,p1,e,xs,_,rfl,SqL.of m1.at_,SqL.of he1,?_⟩;refine qy0 (xs:=xs) (λi zs H2=>Same H1 H2/\zs=((((((ps.map (·.2)).zip es).take i).filter λx=>decide (t<x.2)).map (·.1)).map V.int)) (Bn (qao (by omega))) ⟨Same.refl _,rfl⟩ (λi zs H2 h2=>⟨SqL.of (h2.1 _ _ m1.at_),SqL.of (h2.1 _ _ he1),by rw[h2.2,Ac];exact qBn _ _ _ _⟩) ?_ ?_
  ·rintro i x y zs H2 p H3 hxi hyi n3 ⟨s2,rfl⟩
   obtain ⟨pi,hpi,a,rfl,ha⟩:=hx.get hxi;have hi:i<es.length:=by have:=(Ai.mp hpi).1;omega
   have hy:y=V.int es[i]:=by
    rw[AS (by simpa using hi),Ay,Ad hi] at hyi;exact (AJ hyi).symm
   subst hy;have hw:(ps.map (·.2))[i]?=some pi.2:=by rw[Ay,hpi];rfl
   have ha3:H3 a=some (.tup [.int pi.1,.int pi.2]):=n3.same _ _ (s2 _ _ (m1.same _ _ ha))
   walk_at "r"
   refine qjg (λz=>?_) λz=>?_
   ·walk_at "r"
    refine ⟨s2.trans n3.same,?_⟩;have:=qE1 hw (Ad hi) (by simpa using z:t<es[i]);rw[this,AB];rfl
   ·refine ⟨s2.trans n3.same,?_⟩
    rw[qE2 hw (Ad hi) (by simpa using z)]
  ·rintro i zs H2 p H3 hi ⟨s2,rfl⟩ n3
   have ez:((((ps.map (·.2)).zip es).take i).filter λx=>decide (t<x.2)).map (·.1)=wl (ps.map (·.2)) es t:=qBm (by rw[hi];simp only[List.length_zip,Ac,Aq,Bm];omega);rw[ez] at n3;have hne:1<=(wl (ps.map (·.2)) es t).length:=qBl (w0:=(ps[0]'(by omega)).2) (by rw[Ay,Ad (by omega:0<ps.length)];rfl) h0 hlt;obtain ⟨w',hw'⟩:∃ w',(wl (ps.map (·.2)) es t)[(wl (ps.map (·.2)) es t).length-1]?=some w':=⟨_,Ad (by omega)⟩;have hlast:((wl (ps.map (·.2)) es t).map V.int)[((wl (ps.map (·.2)) es t).map V.int).length-1]?=some (V.int w'):=by rw[Ac,Ay,hw'];rfl
   walk_at "r"
   exact q w' H3 hw' (m1.same.trans (s2.trans n3.same))
include T in
theorem qmq:qba P w K mg base 3 "cell_at" ["rule", "edges", "time"] (qjt C_Rule):=by
 obtain ⟨f,fd,F,hm⟩:=T.f_cell_at;have nd:=sc_cell_at.nd;refine F.def_ hm (F.ok sc_cell_at (λvs H Q E h=>?_) (λcdv A outer s H vs Q E hr h=>?_)) (F.binds λ_ _ _ _ _ _ us hl=>by obtain ⟨_,_,_,rfl⟩:=L2.lq3 hl;rfl)
 ·obtain ⟨r,l,ps,g,e,es,ge,t,rfl,_⟩:=h;rfl
 ·obtain ⟨r,l,ps,g,e,es,ge,t,rfl,R,he,hl,h1,h5,hsz,ht,q⟩:=h
  obtain ⟨e0,h0⟩:∃ e0,es[0]?=some e0:=⟨_,Ad (by omega)⟩;have hi0:atI (es.map V.int ++ [gv ge]) 0=some (.int e0):=qf8 (j:=0) (by rw[AS (by simp;omega),Ay,h0];rfl);refine ⟨_,(jB4 (qa2 (jC qCt (pv 2) (jI (pv 1) qaa)) (qad (qah (qbj (jA2 (pv 2) qaa)))) qak) (qa2 (qct (jF (qtu T) hr (jA2 (pv 1) (pv 2)))) (qad (qah qbp)) qak) (jS 3 nd (jF (qqw T) hr (jA3 (pv 0) (pv 1) (pv 2)))) (qah (qbj (jA2 (jF (qi0 T) hr (jA2 (pv 2) (pv 3))) (pv 3))))),?_⟩
  walk_at "r"
  refine qjg (λz=>?_) λz=>?_
  ·simp at z
   walk_at "r";intro p H1 n1
   refine q (.ref p) (some (t,0)) H1 (λx hx=>?_) ⟨p,rfl,n1.at_⟩ n1.same;rw[h0] at hx;cases hx;exact ⟨λ_=>rfl,λh=>absurd z (by omega)⟩
  ·simp at z
   walk_at "r"
   refine ⟨e,es,ge,t,rfl,he,λhg=>?_,λhg=>?_⟩
   ·walk_at "r"
    refine q .non none H (λx hx=>?_) rfl (Same.refl _);rw[h0] at hx;cases hx;exact ⟨λh=>absurd z (by omega),λ_=>⟨λ_=>rfl,λn=>absurd hg n⟩⟩
   ·walk_at "r"
    refine ⟨r,l,ps,g,e,es,ge,t,e0,rfl,R,he,hl,h1,h5,h0,z,λw' H1 hw' s1=>?_⟩;have hwm:w'∈ps.map (·.2):=qta (An hw');obtain ⟨pi,hpi,rfl⟩:=Af.mp hwm;obtain ⟨i,hi,ei⟩:=AZ hpi;have hs:=hsz i pi (by rw[<- ei];exact Ad hi);refine ⟨_,rfl,_,rfl,t,pi.2,rfl,hs.2.2.1,hs.2.2.2,ht.1,ht.2,?_⟩
    walk_at "r";intro p H2 n2
    refine q (.ref p) (some (t / pi.2*pi.2,pi.2)) H2 (λx hx=>?_) ⟨p,rfl,n2.at_⟩ (s1.trans n2.same);rw[h0] at hx;cases hx;exact ⟨λh=>absurd z (by omega),λ_=>⟨λn=>absurd n hg,λ_=>⟨pi.2,hw',rfl⟩⟩⟩
include T in
theorem qtv:qba P w K mg base 1 "heap_of" ["runs"] qig:=by
 obtain ⟨f,fd,F,hm⟩:=T.f_heap_of;have nd:=sc_heap_of.nd;refine F.def_ hm (F.ok sc_heap_of (λvs H Q E h=>?_) (λcdv A outer s H vs Q E hr h=>?_)) (F.binds λ_ _ _ _ _ _ us hl=>by obtain ⟨_,rfl⟩:=L2.lq1 hl;rfl)
 ·obtain ⟨l,xs,rs,rfl,_⟩:=h;rfl
 ·obtain ⟨l,xs,rs,rfl,hl,hp,ok,h2,q0,q⟩:=h
  have hlen:=hp.length;refine ⟨_,(jB5 (qa2 (jC qey (qal qau rfl T.b_len qcj (jA1 (pv 0))) qaa) (qad (qah qbp)) qak) (qdv (i:=1) (vars:=[ "value", "many" ]) (frees:=[]) (fv:=[]) nd rfl (Or.inl rfl) rfl (jL0 rfl) trivial (qa1 (pv 0)) (qdh (by decide) (by decide)) (λ_ _ _ _=>(jG2 (jM 0 [ "value", "many" ]) (jM 1 [ "value", "many" ]))) (λ_ _ _ _=>qbg) (λ_ _ _ _=>(pv 0))) (jS 2 nd (qal (qoq rfl) rfl T.b_sum qwg (jA1 (qhd (vars:=[ "value", "many" ]) (frees:=[]) (fv:=[]) rfl (jL0 rfl) trivial (qa1 (pv 0)) (qdh (by decide) (by decide)) (λ_ _ _ _=>(jG2 (jM 0 [ "value", "many" ]) (jM 1 [ "value", "many" ]))) (λ_ _ _ _=>qbg) (λ_ _ _ _=>(pv 1)))))) (jS 3 nd (qal (qoq rfl) rfl T.b_sum qwg (jA1 (qhd (vars:=[ "value", "many" ]) (frees:=[]) (fv:=[]) rfl (jL0 rfl) trivial (qa1 (pv 0)) (qdh (by decide) (by decide)) (λ_ _ _ _=>(jG2 (jM 0 [ "value", "many" ]) (jM 1 [ "value", "many" ]))) (λ_ _ _ _=>qbg) (λ_ _ _ _=>(qag qb2 (pv 0) (pv 1))))))) (qah (qbj (jA4 (pv 2) (pv 3) (qal (qse rfl) rfl T.b_min qwo (jA1 (pv 1))) (qal (qsd rfl) rfl T.b_max qot (jA1 (pv 1))))))),?_⟩
  walk_at "r"
  refine qjg (λz=>?_) λz=>?_
  ·have z':xs.length=0:=by simpa using z
   exact q0 (CB.mp (by omega))
  ·have z':¬ xs.length=0:=by simpa using z
   have hne:rs≠[]:=λe=>z' (by rw[hlen,e];rfl)
   have h1:1<=rs.length:=by omega
   have mulB:∀ p∈rs,CMulB p.1 p.2:=λp hp=>by
    have:=ok p hp;unfold qvn at this;exact ⟨⟨by omega,by omega⟩,by omega,by omega⟩
   refine ⟨_,rfl,l,rfl,⟨_,SqL.of hl⟩,qhk (λp=>p.1) hl hp h2 (λp hp Q' hq=>⟨_,rfl,hq⟩) λa1 H1 n1=>?_⟩;have hl1:=n1.same _ _ hl;have hp1:=hp.same n1.same;refine ⟨_,rfl,l,rfl,⟨_,SqL.of hl1⟩,qhk (λp=>p.2) hl1 hp1 h2 (λp hp Q' hq=>⟨_,rfl,hq⟩) λa2 H2 n2=>⟨a2,_,rfl,SqL.of n2.at_,?_⟩⟩;have hl2:=n2.same _ _ hl1;have hp2:=hp1.same n2.same;refine ⟨_,rfl,l,rfl,⟨_,SqL.of hl2⟩,qhk (λp=>p.1*p.2) hl2 hp2 h2 (λp hp Q' hq=>⟨_,rfl,_,rfl,_,_,rfl,rfl,mulB p hp,hq⟩) λa3 H3 n3=>⟨a3,_,rfl,SqL.of n3.at_,?_⟩⟩;have hv:=n3.same _ _ (n2.same _ _ n1.at_);refine ⟨_,rfl,_,rfl,_,rfl,a1,_,rfl,SqL.of hv,by simp;omega,λlo hlo hlo'=>?_⟩;refine ⟨_,rfl,a1,_,rfl,SqL.of hv,by simp;omega,λhi hhi hhi'=>?_⟩
   walk_at "r";intro a H5 n5
   exact q hne a _ _ lo hi H5 ⟨rfl,rfl,hlo,hlo',hhi,hhi'⟩ (New.after (n1.same.trans (n2.same.trans n3.same)) n5)
include T in
theorem qvu:qba P w K mg base 1 "poured" ["one", "other"] ql2:=by
 obtain ⟨f,fd,F,hm⟩:=T.f_poured;have nd:=sc_poured.nd;refine F.def_ hm (F.ok sc_poured (λvs H Q E h=>?_) (λcdv A outer s H vs Q E hr h=>?_)) (F.binds λ_ _ _ _ _ _ us hl=>by obtain ⟨_,_,rfl⟩:=L2.lq2 hl;rfl)
 ·obtain ⟨a,b,m,t,lo,hi,m',t',lo',hi',rfl,_⟩:=h;rfl
 ·obtain ⟨a,b,m,t,lo,hi,m',t',lo',hi',rfl,ha,hb,q⟩:=h
  refine ⟨_,(qad (qah (qbj (jA4 (qag qa4 (jT (pv 0) qaa) (jT (pv 1) qaa)) (qag qa4 (jT (pv 0) qaa) (jT (pv 1) qaa)) (qal (qrk rfl) rfl T.b_min qwo (jA2 (jT (pv 0) qaa) (jT (pv 1) qaa))) (qal (qhm rfl) rfl T.b_max qot (jA2 (jT (pv 0) qaa) (jT (pv 1) qaa))))))),?_⟩
  walk_at "r";intro p H1 n1
  exact q p H1 n1
include T in
theorem qe7:qba P w K mg base 1 "greater_edge" ["one", "other"] qic:=by
 obtain ⟨f,fd,F,hm⟩:=T.f_greater_edge;have nd:=sc_greater_edge.nd;refine F.def_ hm (F.ok sc_greater_edge (λvs H Q E h=>?_) (λcdv A outer s H vs Q E hr h=>?_)) (F.binds λ_ _ _ _ _ _ us hl=>by obtain ⟨_,_,rfl⟩:=L2.lq2 hl;rfl)
 ·obtain ⟨x,y,rfl,_⟩:=h;rfl
 ·obtain ⟨x,y,rfl,hx,hy,q⟩:=h
  refine ⟨_,(jB3 (qa2 (jC qea (pv 0) qbp) (qad (qah (pv 1))) qak) (qa2 (jC qea (pv 1) qbp) (qad (qah (pv 0))) qak) (qah (qal (qhm rfl) rfl T.b_max qot (jA2 (pv 0) (pv 1))))),?_⟩
  rcases hx with rfl|⟨i,rfl⟩
  ·exact ⟨_,rfl,rfl,_,rfl,qc6 ⟨_,rfl,q⟩⟩
  ·refine ⟨_,rfl,rfl,_,rfl,qds ?_⟩
   rcases hy with rfl|⟨j,rfl⟩
   ·exact ⟨_,rfl,rfl,_,rfl,qc6 ⟨_,rfl,q⟩⟩
   ·exact ⟨_,rfl,rfl,_,rfl,qds ⟨_,rfl,_,rfl,_,_,rfl,q⟩⟩
include T in
theorem qmr:qba P w K mg base 2 "greater" ["one", "other"] qfc:=by
 obtain ⟨f,fd,F,hm⟩:=T.f_greater;have nd:=sc_greater.nd;refine F.def_ hm (F.ok sc_greater (λvs H Q E h=>?_) (λcdv A outer s H vs Q E hr h=>?_)) (F.binds λ_ _ _ _ _ _ us hl=>by obtain ⟨_,_,rfl⟩:=L2.lq2 hl;rfl)
 ·obtain ⟨a,b,xs,ys,rfl,_⟩:=h;rfl
 ·obtain ⟨a,b,xs,ys,rfl,ha,hb,hx,hy,he,hz,q⟩:=h
  refine ⟨_,(jB2 (qa2 (jC qp5 (qal qau rfl T.b_len qcj (jA1 (pv 0))) (qal qau rfl T.b_len qcj (jA1 (pv 1)))) (qad qbm) qak) (qah (qhd (vars:=[ "left", "right" ]) (frees:=[]) (fv:=[]) rfl (jL0 rfl) trivial (qlp rfl T.b_zip (jA2 (pv 0) (pv 1))) (qdh (by decide) (by decide)) (λ_ _ _ _=>(jG2 (jM 0 [ "left", "right" ]) (jM 1 [ "left", "right" ]))) (λ_ _ _ _=>qbg) (λ_ _ _ _=>(jF (qe7 T) hr (jA2 (pv 0) (pv 1))))))),?_⟩;refine ⟨_,rfl,a,xs,rfl,.inl (SqL.of ha),_,rfl,b,ys,rfl,.inl (SqL.of hb),rfl,_,rfl,?_⟩;refine qAk (by rw[he]) ?_;refine ⟨_,rfl,_,rfl,a,b,xs,ys,rfl,SqL.of ha,SqL.of hb,?_⟩;refine qwj (xs:=xs) (λi zs H2=>Same H H2/\zs=(List.zipWith gE xs ys).take i) (Bn (qao hz)) ⟨Same.refl _,rfl⟩ (λi zs H2 h2=>⟨SqL.of (h2.1 _ _ ha),SqL.of (h2.1 _ _ hb),by rw[h2.2];simp;omega⟩) ?_ ?_
  ·rintro i x y zs H2 p h1 h2 hn ⟨s2,rfl⟩
   have n:=qbb (o:=.tup [x,y]) hn
   generalize upd H2 p _=H3 at n ⊢
   refine ⟨p,_,rfl,SqT.of n.at_,rfl,_,_,rfl,_,_,rfl,rfl,qop (qc6 ?_)⟩;exact ⟨_,rfl,_,rfl,x,y,rfl,hx x (An h1),hy y (An h2),s2.trans n.same,(qkv _ i _ (zip_get h1 h2)).symm⟩
  ·rintro i zs H2 p hi ⟨s2,rfl⟩ hn
   have n:=qbb (o:=.lst ((List.zipWith gE xs ys).take i)) hn;have e:(List.zipWith gE xs ys).take i=List.zipWith gE xs ys:=Bh (by rw[BI,hi];exact Ag _);rw[e] at n ⊢;exact q p _ (New.after s2 n)
include T in
theorem qvv:qC4 P w K mg base C_Roll 4 "Roll" ["self", "rule", "day"] [] (qgr C_Roll C_Rule):=by
 obtain ⟨f,fd,F,M⟩:=T.f_Roll_init;have nd:=sc_Roll_init.nd;refine ⟨f,fd,(F.ok sc_Roll_init (λvs H Q E h=>?_) (λcdv A outer s H vs Q E hr h=>?_)),T.mg_Roll,M,(F.binds λ_ _ _ _ _ _ us hl=>by obtain ⟨_,_,_,rfl⟩:=L2.lq3 hl;rfl)⟩
 ·obtain ⟨ro,dx,ru,rl,ps,g,day,rfl,_⟩:=h;rfl
 ·obtain ⟨ro,dx,ru,rl,ps,g,day,rfl,hro,R,Pg,hd,q⟩:=h
  obtain ⟨dx2,hru⟩:=R.ob;have nru:ru≠ro:=qaq hru hro (by intro z;injection z with _ _ z;have:=qs7 rl (gv g);rw[z] at this;cases this);refine ⟨_,(jB5 (qb9 (pv 0) (pv 1) rfl) (qb9 (pv 0) (pv 2) rfl) (qb9 (pv 0) (jF (qj2 T) hr (jA2 (pv 1) (pv 2))) rfl) (qb9 (pv 0) qow rfl) (qb9 (pv 0) qow rfl)),?_⟩;refine ⟨_,rfl,_,rfl,ro,C_Roll,dx,[],rfl,hro,T.cl_Roll,T.na_Roll_kept_rule,(by show 0<1000;decide),λH1 b1 h1=>?_⟩;refine ⟨_,rfl,_,rfl,ro,C_Roll,dx,_,rfl,h1,T.cl_Roll,T.na_Roll_kept_day,(by show 1<1000;decide),λH2 b2 h2=>?_⟩;have R2:=(R.but2 b1 hro qc9 (by intro xs z;cases z) nru).but2 b2 h1 qc9 (by intro xs z;cases z) nru;refine ⟨_,rfl,_,rfl,ru,rl,ps,g,day,rfl,R2,Pg,hd,λle H3 n3=>?_⟩;refine ⟨_,rfl,ro,C_Roll,dx,_,rfl,n3.same _ _ h2,T.cl_Roll,T.na_Roll_kept_edges,(by show 2<1000;decide),λH4 b4 h4=>?_⟩;intro dy H5 n5;refine ⟨_,rfl,ro,C_Roll,dx,_,rfl,n5.same _ _ h4,T.cl_Roll,T.na_Roll_whole_ones,(by show 3<1000;decide),λH6 b6 h6=>?_⟩;intro dh H7 n7;refine ⟨_,rfl,ro,C_Roll,dx,_,rfl,n7.same _ _ h6,T.cl_Roll,T.na_Roll_cell_heaps,(by show 4<1000;decide),λH8 b8 h8=>?_⟩;have R8:=((((R2.same n3.same).but2 b4 (n3.same _ _ h2) qc9 (by intro xs z;cases z) nru).same n5.same |>.but2 b6 (n5.same _ _ h4) qc9 (by intro xs z;cases z) nru).same n7.same).but2 b8 (n7.same _ _ h6) qc9 (by intro xs z;cases z) nru;have bb:But ro H H8:=λb o e hb=>b8 _ _ (n7.same _ _ (b6 _ _ (n5.same _ _ (b4 _ _ (n3.same _ _ (b2 _ _ (b1 _ _ e hb) hb)) hb)) hb)) hb
  have fr:∀ b,b≠ro->H8 b=none->H b=none:=λb hb h0=>by
   cases e:H b with
   | none=>rfl
   | some o=>rw[bb b o e hb] at h0;cases h0
  have e4:H4 le=some (.lst (eV ps g day)):=b4 _ _ n3.at_ (qaq n3.at_ (n3.same _ _ h2) (by intro z;cases z));have e6:H6 dy=some (.dT []):=b6 _ _ n5.at_ (qaq n5.at_ (n5.same _ _ h4) (by intro z;cases z));have up2:∀ b o,H b=some o->b≠ro->H2 b=some o:=λb o e hb=>b2 _ _ (b1 _ _ e hb) hb
  have fr2:∀ b,H2 b=none->H b=none:=λb h0=>by
   cases e:H b with
   | none=>rfl
   | some o =>
    by_cases hb:b=ro
    ·subst hb;rw[h2] at h0;cases h0
    ·rw[up2 b o e hb] at h0;cases h0
  have fr4:∀ b,H4 b=none->H2 b=none:=λb h0=>by
   cases e:H2 b with
   | none=>rfl
   | some o =>
    by_cases hb:b=ro
    ·subst hb;rw[h4] at h0;cases h0
    ·rw[b4 _ _ (n3.same _ _ e) hb] at h0;cases h0
  have fr6:∀ b,H6 b=none->H4 b=none:=λb h0=>by
   cases e:H4 b with
   | none=>rfl
   | some o =>
    by_cases hb:b=ro
    ·subst hb;rw[h6] at h0;cases h0
    ·rw[b6 _ _ (n5.same _ _ e) hb] at h0;cases h0
  refine q le dy dh H8 (fr2 _ n3.fresh) (fr2 _ (fr4 _ n5.fresh)) (fr2 _ (fr4 _ (fr6 _ n7.fresh))) ⟨⟨dx,h8⟩,R8,?_,?_,?_,qac e6 n7.fresh⟩ bb
  ·have e8:=b8 _ _ (n7.same _ _ (b6 _ _ (n5.same _ _ e4) (qaq (n5.same _ _ e4) (n5.same _ _ h4) (by intro z;cases z)))) (qaq (n7.same _ _ (b6 _ _ (n5.same _ _ e4) (qaq (n5.same _ _ e4) (n5.same _ _ h4) (by intro z;cases z)))) (n7.same _ _ h6) (by intro z;cases z))
   show H8 le=some (.lst (((ps.map λp=>cut day p.1 p.2).map V.int) ++ [gv (g.map λz=>cut day z (lw ps))]))
   rw[<- (EdS.of Pg hd).eq];exact e8
  ·exact b8 _ _ (n7.same _ _ e6) (qaq (n7.same _ _ e6) (n7.same _ _ h6) (by intro z;cases z))
  ·exact b8 _ _ n7.at_ (qaq n7.at_ (n7.same _ _ h6) (by intro z;cases z))
include T in
theorem qcn:qez P w K mg base C_Roll 2 "pour_into_cell" ["self", "cell", "heap"] (ql4 C_Roll C_Rule):=by
 obtain ⟨f,fd,F,hm⟩:=T.f_Roll_pour_into_cell;have nd:=sc_Roll_pour_into_cell.nd;refine ⟨f,fd,(F.ok sc_Roll_pour_into_cell (λvs H Q E h=>?_) (λcdv A outer s H vs Q E hr h=>?_)),hm,(F.binds λ_ _ _ _ _ _ us hl=>by obtain ⟨_,_,_,rfl⟩:=L2.lq3 hl;rfl)⟩
 ·obtain ⟨ro,D,c,h,s,w',x,rfl,_⟩:=h;rfl
 ·obtain ⟨ro,D,c,h,s',w',x,rfl,A',hc,hh,hZ,hl,q⟩:=h
  obtain ⟨dx,hob⟩:=A'.ob;refine ⟨_,(qad (qa2 (qrb (qwe (qfo hr) (pv 1) (qa7 (pv 0) rfl))) (qad (qht (qfo hr) (qa7 (pv 0) rfl) (pv 1) (jF (qvu T) hr (jA2 (qhs (qfo hr) (qa7 (pv 0) rfl) (pv 1) (λ_ _=>rfl)) (pv 2))) rfl)) (qad (qht (qfo hr) (qa7 (pv 0) rfl) (pv 1) (pv 2) rfl)))),?_⟩;refine ⟨_,rfl,_,rfl,ro,C_Roll,dx,_,_,rfl,hob,T.cl_Roll,T.na_Roll_cell_heaps,qju _ _ _ _ _,D.dh,_,rfl,DGet.t (k:=kk s' w') A'.he hc,_,rfl,?_⟩
  cases e:qcq D.Z (kk s' w') with
  | none =>
   refine qds ?_;refine ⟨_,rfl,_,rfl,ro,C_Roll,dx,_,_,rfl,hob,T.cl_Roll,T.na_Roll_cell_heaps,qju _ _ _ _ _,_,rfl,D.dh,_,rfl,DPut.t (k:=kk s' w') A'.he hc (qao (by omega)),?_⟩;exact q h x _ (qcr _ _ hh (qaq hh A'.he (by intro z;cases z))) (.inl ⟨e,rfl⟩) (A'.putZ qcr qa5) qcr
  | some xx =>
   obtain ⟨h0,m0,t0,lo0,hi0,rfl,hh0⟩:=hZ _ _ e;refine qc6 ?_;refine ⟨_,rfl,ro,C_Roll,dx,_,_,rfl,hob,T.cl_Roll,T.na_Roll_cell_heaps,qju _ _ _ _ _,_,rfl,D.dh,_,rfl,(by have:=DGet.t (k:=kk s' w') A'.he hc;rwa [e] at this),_,rfl,?_⟩;refine ⟨h0,h,m0,t0,lo0,hi0,x.1,x.2.1,x.2.2.1,x.2.2.2,rfl,hh0,hh,λp H1 n1=>?_⟩;have A1:=A'.same n1.same;refine ⟨_,rfl,ro,C_Roll,dx,_,_,rfl,n1.same _ _ hob,T.cl_Roll,T.na_Roll_cell_heaps,qju _ _ _ _ _,_,rfl,D.dh,_,rfl,DPut.t (k:=kk s' w') A1.he (n1.same _ _ hc) (qao (by omega)),?_⟩;refine q p (mg4 (m0,t0,lo0,hi0) x) _ (qcr _ _ n1.at_ (qaq n1.at_ A1.he (by intro z;cases z))) (.inr ⟨h0,(m0,t0,lo0,hi0),e,hh0,rfl⟩) (A1.putZ qcr qa5) λb o eo hb=>qcr _ _ (n1.same _ _ eo) hb
include T in
theorem qj3:∃ f fd dT o n t,qf7 P w K mg base (CX1 P w) 4 f fd ["self", "time", "value", "many"] (qfd C_Roll C_Rule C_NoNumber)/\FunD K "put" "Roll.put" qgh (.ref dT) f fd/\qrn K C_Roll "put" f/\fd.defaults=.ref dT/\K.lookup dT=some o/\o.data=.seq #[.int 1 t] n:=by
 obtain ⟨f,fd,dT,o,n,t,F,M,h1,h2,h3⟩:=T.f_Roll_put;have nd:=sc_Roll_put.nd;refine ⟨f,fd,dT,o,n,t,(F.okX sc_Roll_put (λvs H Q E h=>?_) (λcdv A outer s H vs Q E hr h=>?_)),F,M,h1,h2,h3⟩
 ·obtain ⟨ro,D,t,v,m,rfl,_⟩:=h;rfl
 ·obtain ⟨ro,D,t,v,m,rfl,A',ok,ht,hm,hY,hZ,ly,lz,hE,q⟩:=h
  obtain ⟨dx,hob⟩:=A'.ob;refine ⟨_,(jB5 (qa2 (jC qhl (pv 3) qaa) (qad (qc7 (qay ⟨rfl,rfl,rfl⟩) rfl T.ex_NoNumber rfl T.mg_NoNumber (jA1 qbr))) qak) (jS 4 nd (jF (qmq T) hr (jA3 (qa7 (pv 0) rfl) (qa7 (pv 0) rfl) (pv 1)))) (qa2 (jC qea (pv 4) qbp) (qad (qah qd2)) qak) (qa2 (jC qey (jT (pv 4) qaa) qaa) (qad (qht (qfo hr) (qa7 (pv 0) rfl) (qbj (jA2 (pv 1) (pv 2))) (qag qa4 (qu2 (qfo hr) (qa7 (pv 0) rfl) (qbj (jA2 (pv 1) (pv 2))) qaa ⟨rfl,rfl,rfl,rfl⟩) (pv 3)) rfl)) (qad (qat (qr2 (pv 0) T.cl_Roll (qcn T) (hr.mono (by decide)) (jA2 (pv 4) (jF (qtv T) hr (jA1 (qa8 (jA1 (qbj (jA2 (pv 2) (pv 3)))))))))))) (qah qd2)),?_⟩
  walk_at "r"
  refine qjg (λz=>?_) λz=>?_
  ·exact ⟨by walk_at "c",hE (by simpa using z)⟩
  have z1:1<=m:=by
   have:¬ m<1:=by simpa using z
   omega
  have rok:=hm z1;have lo:=ok.pr.good.lo;refine ⟨_,rfl,ro,C_Roll,dx,_,_,rfl,hob,T.cl_Roll,T.na_Roll_kept_rule,qtc _ _ _ _ _,_,rfl,ro,C_Roll,dx,_,_,rfl,hob,T.cl_Roll,T.na_Roll_kept_edges,qpb _ _ _ _ _,_,rfl,D.ru,D.rl,D.ps,D.g,D.le,D.es,D.ge,t,rfl,A'.rule,A'.ed,ok.es,lo,ok.pr.good.hi,ok.pr.size,ht,λcv o H1 hc cat s1=>?_⟩;have hob1:=s1 _ _ hob;have A1:=A'.same s1
  cases o with
  | none =>
   cases (show cv=.non from cat)
   walk_at "r"
   exact q z1 none hc D H1 (.inl ⟨rfl,rfl⟩) A1 λc o e _ _=>s1 _ _ e
  | some p =>
   obtain ⟨c,rfl,hcv⟩:=cat;have hp:=CellOf.some_ hc (by rw[ok.es];exact lo) λw' hw'=>ok.pr.w1 hw'
   rcases hp with rfl|hp
   ·walk_at "r"
    refine ⟨ro,C_Roll,dx,_,_,rfl,hob1,T.cl_Roll,T.na_Roll_whole_ones,qpc _ _ _ _ _,D.dy,rfl,.inr ⟨_,.inl A1.yo⟩,?_⟩
    walk_at "r";intro p2 H2 n2
    have A2:=A1.same n2.same;refine ⟨_,DGet.t (k:=kk t v) A2.yo n2.at_,?_⟩;rw[qBr hY]
    walk_at "r"
    refine ⟨ro,C_Roll,dx,_,_,rfl,n2.same _ _ hob1,T.cl_Roll,T.na_Roll_whole_ones,qpc _ _ _ _ _,?_⟩
    walk_at "r";intro p3 H3 n3
    have A3:=A2.same n3.same;refine ⟨D.dy,_,rfl,DPut.t (k:=kk t v) A3.yo n3.at_ (qao (by omega)),?_⟩
    show Q _ _
    exact q z1 (some (t,0)) hc _ _ (.inr (.inl ⟨rfl,rfl⟩)) (A3.putY qcr qa5) λc o e hc1 _=>qcr _ _ (n3.same _ _ (n2.same _ _ (s1 _ _ e))) hc1
   ·walk_at "r"
    refine qjg (λz=>?_) λz=>?_
    ·exact absurd z (by simp;omega)
    refine ⟨_,rfl,ro,dx,_,rfl,hob1,qpd _ _ _ _ _,_,rfl,?_⟩
    walk_at "r";intro p2 H2 n2
    walk_at "r";intro p3 H3 n3
    refine ⟨p3,_,[(v,m)],rfl,n3.at_,.cons ⟨p2,rfl,n3.same _ _ n2.at_⟩ .nil,(λq hq=>by rw[Aj.mp hq];exact rok),by simp,(λe=>by cases e),λ_ h4 a' b' lo' hi' H4 hof n4=>?_⟩;have s4:Same H1 H4:=n2.same.trans (n3.same.trans n4.same);refine ⟨ro,D,c,h4,p.1,p.2,(a',b',lo',hi'),rfl,A1.same s4,s4 _ _ hcv,n4.at_,hZ.same (s1.trans s4),lz,λh5 y H5 e5 po A5 b5=>?_⟩
    show Q _ _
    refine q z1 (some p) hc _ H5 (.inr (.inr ⟨p.1,p.2,h5,y.1,y.2.1,y.2.2.1,y.2.2.2,rfl,hp,rfl,e5,?_⟩)) A5 λc o e _ hc2=>b5 _ _ (s4 _ _ (s1 _ _ e)) hc2
    rcases po with ⟨po1,rfl⟩|⟨h0,x0,e1,e2,rfl⟩
    ·exact .inl ⟨po1,hof⟩
    ·obtain ⟨h0',m0',t0',lo0',hi0',e4,e9⟩:=hZ _ _ e1
     cases e4;rw[s4 _ _ (s1 _ _ e9)] at e2;have e6:v4 (m0',t0',lo0',hi0')=v4 x0:=by injection e2 with e2;injection e2
     have e7:=qw1 e6;subst e7;exact .inr ⟨h0,m0',t0',lo0',hi0',a',b',lo',hi',e1,e9,hof,rfl,rfl,rfl,rfl⟩
include T in
theorem qeo:qvb P w K mg base C_Roll 4 "put" ["self", "time", "value", "many"] [] (qfd C_Roll C_Rule C_NoNumber):=by
 obtain ⟨f,fd,dT,o,n,t,hf,F,M,h1,h2,h3⟩:=qj3 (P:=P) (w:=w) (base:=base) T;refine ⟨f,fd,hf,M,qga h1 h2 h3 λus hl=>?_⟩;obtain ⟨oc,od,kV,doc,pm,an,cdv,ct,osl,rfl,lk,hcd⟩:=F.ex;obtain ⟨_,_,_,_,rfl⟩:=L2.lq4 (us:=us) (by simpa using hl);exact ⟨_,rfl,rfl⟩
include T in
theorem qms:∃ t,qvb P w K mg base C_Roll 4 "put" ["self", "time", "value", "many"] [.int 1 t] (qfd C_Roll C_Rule C_NoNumber):=by
 obtain ⟨f,fd,dT,o,n,t,hf,F,M,h1,h2,h3⟩:=qj3 (P:=P) (w:=w) (base:=base) T;refine ⟨t,f,fd,hf,M,qga h1 h2 h3 λus hl=>?_⟩;obtain ⟨oc,od,kV,doc,pm,an,cdv,ct,osl,rfl,lk,hcd⟩:=F.ex;obtain ⟨a,b,c,rfl⟩:=L2.lq3 (us:=us) (by simpa using hl);exact ⟨_,rfl,rfl⟩
include T in
theorem qi1:qez P w K mg base C_Roll 1 "rule" ["self"] (qvo C_Roll C_Rule):=by
 obtain ⟨f,fd,F,hm⟩:=T.f_Roll_rule;have nd:=sc_Roll_rule.nd;refine ⟨f,fd,(F.ok sc_Roll_rule (λvs H Q E h=>?_) (λcdv A outer s H vs Q E hr h=>?_)),hm,(F.binds λ_ _ _ _ _ _ us hl=>by obtain ⟨_,rfl⟩:=L2.lq1 hl;rfl)⟩
 ·obtain ⟨ro,D,rfl,_⟩:=h;rfl
 ·obtain ⟨ro,D,rfl,A',q⟩:=h
  obtain ⟨dx,hob⟩:=A'.ob;refine ⟨_,(qad (qah (qa7 (pv 0) rfl))),?_⟩;exact ⟨_,rfl,ro,C_Roll,dx,_,_,rfl,hob,T.cl_Roll,T.na_Roll_kept_rule,qtc _ _ _ _ _,q⟩
include T in
theorem qj4:qez P w K mg base C_Roll 1 "day" ["self"] (qy7 C_Roll C_Rule):=by
 obtain ⟨f,fd,F,hm⟩:=T.f_Roll_day;have nd:=sc_Roll_day.nd;refine ⟨f,fd,(F.ok sc_Roll_day (λvs H Q E h=>?_) (λcdv A outer s H vs Q E hr h=>?_)),hm,(F.binds λ_ _ _ _ _ _ us hl=>by obtain ⟨_,rfl⟩:=L2.lq1 hl;rfl)⟩
 ·obtain ⟨ro,D,rfl,_⟩:=h;rfl
 ·obtain ⟨ro,D,rfl,A',q⟩:=h
  obtain ⟨dx,hob⟩:=A'.ob;refine ⟨_,(qad (qah (qa7 (pv 0) rfl))),?_⟩;exact ⟨_,rfl,ro,C_Roll,dx,_,_,rfl,hob,T.cl_Roll,T.na_Roll_kept_day,qBp _ _ _ _ _,q⟩
include T in
theorem qep:qez P w K mg base C_Roll 1 "edges" ["self"] (qte C_Roll C_Rule):=by
 obtain ⟨f,fd,F,hm⟩:=T.f_Roll_edges;have nd:=sc_Roll_edges.nd;refine ⟨f,fd,(F.ok sc_Roll_edges (λvs H Q E h=>?_) (λcdv A outer s H vs Q E hr h=>?_)),hm,(F.binds λ_ _ _ _ _ _ us hl=>by obtain ⟨_,rfl⟩:=L2.lq1 hl;rfl)⟩
 ·obtain ⟨ro,D,rfl,_⟩:=h;rfl
 ·obtain ⟨ro,D,rfl,A',q⟩:=h
  obtain ⟨dx,hob⟩:=A'.ob;refine ⟨_,(qad (qah (qbd qbc rfl T.b_list qce (jA1 (qa7 (pv 0) rfl))))),?_⟩;exact ⟨_,rfl,ro,C_Roll,dx,_,_,rfl,hob,T.cl_Roll,T.na_Roll_kept_edges,qpb _ _ _ _ _,D.le,_,rfl,.inl (SqL.of A'.ed),q⟩
theorem qw6 {H:Hp} {D:qar} {s:Abs} {LY LZ:List (List Int)} (h:RAbs H D s LY LZ) (k:List Int):qcq D.Z (kI k)≠none↔s.z k≠none:=by
 cases e:s.z k with
 | none=>simp[h.zn k e]
 | some p=>obtain ⟨a,e1,_⟩:=h.zs k p e;rw[e1];simp
include T in
theorem qdc:qez P w K mg base C_Roll 1 "young" ["self"] (qii C_Roll C_Rule):=by
 obtain ⟨f,fd,F,hm⟩:=T.f_Roll_young;have nd:=sc_Roll_young.nd;refine ⟨f,fd,(F.ok sc_Roll_young (λvs H Q E h=>?_) (λcdv A outer s H vs Q E hr h=>?_)),hm,(F.binds λ_ _ _ _ _ _ us hl=>by obtain ⟨_,rfl⟩:=L2.lq1 hl;rfl)⟩
 ·obtain ⟨ro,D,ab,LY,LZ,rfl,_⟩:=h;rfl
 ·obtain ⟨ro,D,ab,LY,LZ,rfl,A',RA,hL,q⟩:=h
  obtain ⟨dx,hob⟩:=A'.ob;obtain ⟨ks,dk,hks⟩:=RA.yk;have hkl:ks.length<64:=C4 (BW dk.nd hks) hL;refine ⟨_,(qad (qah (qhd (vars:=[ "key" ]) (frees:=[ "self" ]) (fv:=[0]) rfl (jL1 rfl) ⟨⟨rfl,.inl rfl,rfl,.inl rfl⟩,trivial⟩ (qa1 (qal (qgq rfl) rfl T.b_sorted qed (jA1 (qa7 (pv 0) rfl)))) (qec (by decide)) (λ_ _ _ _=>(jM 0 [ "key", "self" ])) (λ_ _ _ _=>qbg) (λ_ _ _ _=>(qag (show OpR _ _ (qsg K) from qov) (pv 0) (qbj (jA1 (qhs (by exact qfo hr) (show PE _ _ (qCv K _ _) from qa7 (pv 1) rfl) (pv 0) (λ_ _=>rfl))))))))),?_⟩;refine ⟨_,rfl,ro,C_Roll,dx,_,_,rfl,hob,T.cl_Roll,T.na_Roll_whole_ones,qpc _ _ _ _ _,D.dy,D.Y,ks,rfl,A'.yo,dk.eq,hkl,dk.nd,dk.ne',λms zs l1 H1 pm sm tz n1=>?_⟩;have sk:SKeys ab.y ms:=SKeys.ofD dk (λk=>by rw[RA.yv];cases ab.y k<;>simp) pm sm;have hml:ms.length=ks.length:=pm.length_eq;have tz1:Tups H1 zs ms:=Tups.same n1.same (show Tups H zs ms from tz);have hzl:=tz1.length;refine ⟨l1,rfl,⟨_,SqL.of n1.at_⟩,qcy (xs:=zs) (λi ys H2=>Same H1 H2/\Tups H2 ys ((ms.take i).map (qnx ab))) (Bn (qao (by omega))) ⟨Same.refl _,.nil⟩ (λi ys H2 h2=>⟨SqL.of (h2.1 _ _ n1.at_),by have:=h2.2.length;rw[this,Ac,As];omega⟩) ?_ ?_⟩
  ·rintro i x ys H2 hi ⟨s2,ty⟩
   obtain ⟨k,hki,b,rfl,hb⟩:=tz1.get hi;have hkm:k∈ms:=An hki;have hk2:=dk.ne k (pm.mem_iff.mp hkm);have s02:=n1.same.trans s2;have A2:=A'.same s02;have hb2:=s2 _ _ hb;obtain ⟨n,hn⟩:∃ n,ab.y k=some n:=by
    cases e:ab.y k with
    | none=>exact absurd e ((sk.mem k).mp hkm)
    | some n=>exact ⟨n,rfl⟩
   have hv:qcq D.Y (kI k)=some (.int n):=by rw[RA.yv,hn];rfl
   refine qan (qop (qc6 ?_));refine ⟨_,rfl,_,rfl,ro,C_Roll,dx,_,_,rfl,s02 _ _ hob,T.cl_Roll,T.na_Roll_whole_ones,qpc _ _ _ _ _,_,rfl,D.dy,.int n,rfl,?_,(by show 1<=sizeLine;decide),λp3 H3 n3=>?_⟩
   ·have:=DGet.t (k:=kI k) A2.yo (by rw[qBt];exact hb2)
    rw[hv] at this;exact this
   ·refine ⟨b,p3,_,_,rfl,rfl,SqT.of (n3.same _ _ hb2),SqT.of n3.at_,(by intro z;have:=congrArg List.length z;rw[Ac,hk2] at this;cases this),(by intro z;cases z),(by rw[Ac,hk2];show 2+1<=sizeLine;decide),λp4 H4 n4=>?_⟩
    have s4:=n3.same.trans n4.same;refine ⟨s2.trans s4,?_⟩;rw[qkv _ i _ hki,AB];refine Tups.snoc ⟨p4,rfl,?_⟩ (ty.same s4);rw[n4.at_]
    show some (HO.tup (k.map V.int ++ [V.int n]))=some (.tup ((k ++ [(ab.y k).getD 0]).map V.int))
    rw[hn,AB];rfl
  ·rintro ys H2 l3 H3 ⟨s2,ty⟩ n3
   rw[hzl,AL] at ty;exact q l3 ys ms H3 (n1.same.trans (s2.trans n3.same)) ((n1.same.trans s2).free n3.fresh) n3.at_ sk (by omega) (ty.same n3.same)
include T in
theorem qdd:qez P w K mg base C_Roll 1 "heaps" ["self"] (qij C_Roll C_Rule):=by
 obtain ⟨f,fd,F,hm⟩:=T.f_Roll_heaps;have nd:=sc_Roll_heaps.nd;refine ⟨f,fd,(F.ok sc_Roll_heaps (λvs H Q E h=>?_) (λcdv A outer s H vs Q E hr h=>?_)),hm,(F.binds λ_ _ _ _ _ _ us hl=>by obtain ⟨_,rfl⟩:=L2.lq1 hl;rfl)⟩
 ·obtain ⟨ro,D,ab,LY,LZ,rfl,_⟩:=h;rfl
 ·obtain ⟨ro,D,ab,LY,LZ,rfl,A',RA,hL,q⟩:=h
  obtain ⟨dx,hob⟩:=A'.ob;obtain ⟨ks,dk,hks⟩:=RA.zk;have hkl:ks.length<64:=C4 (BW dk.nd hks) hL;refine ⟨_,(qad (qah (qhd (vars:=[ "cell" ]) (frees:=[ "self" ]) (fv:=[0]) rfl (jL1 rfl) ⟨⟨rfl,.inl rfl,rfl,.inl rfl⟩,trivial⟩ (qa1 (qal (qgq rfl) rfl T.b_sorted qed (jA1 (qa7 (pv 0) rfl)))) (qec (by decide)) (λ_ _ _ _=>(jM 0 [ "cell", "self" ])) (λ_ _ _ _=>qbg) (λ_ _ _ _=>(qag (show OpR _ _ (qsg K) from qov) (pv 0) (qhs (by exact qfo hr) (show PE _ _ (qCv K _ _) from qa7 (pv 1) rfl) (pv 0) (λ_ _=>rfl))))))),?_⟩;refine ⟨_,rfl,ro,C_Roll,dx,_,_,rfl,hob,T.cl_Roll,T.na_Roll_cell_heaps,qju _ _ _ _ _,D.dh,D.Z,ks,rfl,A'.he,dk.eq,hkl,dk.nd,dk.ne',λms zs l1 H1 pm sm tz n1=>?_⟩;have sk:SKeys ab.z ms:=SKeys.ofD dk (λk=>qw6 RA k) pm sm;have hml:ms.length=ks.length:=pm.length_eq;have tz1:Tups H1 zs ms:=Tups.same n1.same (show Tups H zs ms from tz);have hzl:=tz1.length;refine ⟨l1,rfl,⟨_,SqL.of n1.at_⟩,qcy (xs:=zs) (λi ys H2=>Same H1 H2/\Tups H2 ys ((ms.take i).map (qpj ab))) (Bn (qao (by omega))) ⟨Same.refl _,.nil⟩ (λi ys H2 h2=>⟨SqL.of (h2.1 _ _ n1.at_),by have:=h2.2.length;rw[this,Ac,As];omega⟩) ?_ ?_⟩
  ·rintro i x ys H2 hi ⟨s2,ty⟩
   obtain ⟨k,hki,b,rfl,hb⟩:=tz1.get hi;have hkm:k∈ms:=An hki;have hk2:=dk.ne k (pm.mem_iff.mp hkm);have s02:=n1.same.trans s2;have A2:=A'.same s02;have hb2:=s2 _ _ hb;obtain ⟨n,hn⟩:∃ n,ab.z k=some n:=by
    cases e:ab.z k with
    | none=>exact absurd e ((sk.mem k).mp hkm)
    | some n=>exact ⟨n,rfl⟩
   obtain ⟨hh,hv,hht⟩:=RA.zs k n hn;refine qan (qop (qc6 ?_));refine ⟨_,rfl,_,rfl,ro,C_Roll,dx,_,_,rfl,s02 _ _ hob,T.cl_Roll,T.na_Roll_cell_heaps,qju _ _ _ _ _,?_⟩;refine ⟨_,rfl,D.dh,.ref hh,rfl,?_,?_⟩
   ·have:=DGet.t (k:=kI k) A2.he (by rw[qBt];exact hb2)
    rw[hv] at this;exact this
   ·refine ⟨b,hh,_,_,rfl,rfl,SqT.of hb2,SqT.of (s02 _ _ hht),(by intro z;have:=congrArg List.length z;rw[Ac,hk2] at this;cases this),(by intro z;cases z),(by rw[Ac,hk2];show 2+4<=sizeLine;decide),λp4 H4 n4=>?_⟩
    refine ⟨s2.trans n4.same,?_⟩;rw[qkv _ i _ hki,AB];refine Tups.snoc ⟨p4,rfl,?_⟩ (ty.same n4.same);rw[n4.at_]
    show some (HO.tup (k.map V.int ++ v4 n))=some (.tup ((k ++ i4 ((ab.z k).getD (0,0,0,0))).map V.int))
    rw[hn,AB];rfl
  ·rintro ys H2 l3 H3 ⟨s2,ty⟩ n3
   rw[hzl,AL] at ty;exact q l3 ys ms H3 (n1.same.trans (s2.trans n3.same)) ((n1.same.trans s2).free n3.fresh) n3.at_ sk (by omega) (ty.same n3.same)
include T in
theorem qhf:qez P w K mg base C_Roll 4 "take_heap" ["self", "start", "heap"] (qpk C_Roll C_Rule):=by
 obtain ⟨f,fd,F,hm⟩:=T.f_Roll_take_heap;have nd:=sc_Roll_take_heap.nd;refine ⟨f,fd,(F.ok sc_Roll_take_heap (λvs H Q E h=>?_) (λcdv A outer s H vs Q E hr h=>?_)),hm,(F.binds λ_ _ _ _ _ _ us hl=>by obtain ⟨_,_,_,rfl⟩:=L2.lq3 hl;rfl)⟩
 ·obtain ⟨ro,c,s,LY,LZ,a,h,x,rfl,_⟩:=h;rfl
 ·obtain ⟨ro,c,s',LY,LZ,a,h,x,rfl,⟨Y,Z,A',B'⟩,ok,ha,hh,lz,hz,q⟩:=h
  obtain ⟨dx,hob⟩:=A'.ob;refine ⟨_,(jB2 (jS 3 nd (jF (qmq T) hr (jA3 (qa7 (pv 0) rfl) (qa7 (pv 0) rfl) (pv 1)))) (qa2 (jC qf4 (pv 3) qbp) (qad (qat (qr2 (pv 0) T.cl_Roll (qcn T) (hr.mono (by decide)) (jA2 (pv 3) (pv 2))))) qak)),?_⟩;have lo:=ok.pr.good.lo;refine ⟨_,rfl,ro,C_Roll,dx,_,_,rfl,hob,T.cl_Roll,T.na_Roll_kept_rule,qtc _ _ _ _ _,_,rfl,ro,C_Roll,dx,_,_,rfl,hob,T.cl_Roll,T.na_Roll_kept_edges,qpb _ _ _ _ _,_,rfl,c.ru,c.rl,c.ps,c.g,c.le,c.es,c.ge,a,rfl,A'.rule,A'.ed,ok.es,lo,ok.pr.good.hi,ok.pr.size,ha,λcv o H1 hc cat s1=>?_⟩;have hob1:=s1 _ _ hob;have A1:=A'.same s1;have eo:cellD c a=o:=qky (by rw[ok.es];exact lo) hc
  cases o with
  | none =>
   cases (show cv=.non from cat)
   walk_at "r"
   refine q H1 ?_ λb o e _ _=>s1 _ _ e
   unfold qdm;rw[eo];exact ⟨Y,Z,A1,B'.same s1⟩
  | some p =>
   obtain ⟨cc,rfl,hcv⟩:=cat;obtain ⟨b,w'⟩:=p;have B1:=B'.same s1
   walk_at "r"
   refine ⟨ro,dx,_,rfl,hob1,qpd _ _ _ _ _,_,rfl,_,rfl,?_⟩;simp only[qf6,AV,AX,AN];refine ⟨ro,_,cc,h,b,w',x,rfl,A1,hcv,s1 _ _ hh,B1.ZOk,AR B1.zlen (by omega),λh2 y H2 hh2 po A2 b2=>?_⟩
   show Q _ _
   have bb:But2 c.dy c.dh H H2:=λz o e _ n2=>b2 _ _ (s1 _ _ e) n2
   refine q H2 ?_ bb;unfold qdm;rw[eo];exact ⟨Y,_,A2,B1.pour po hh2 (λz xs e=>b2 _ _ e (qaq e A1.he (by intro z;cases z))) (hz b w' eo)⟩
abbrev IvT (C_Roll C_Rule:Addr) (H1:Hp) (ro r2:Addr) (c:qar) (s2 s':Abs) (LY LZ:List (List Int)) (i:Nat) (σ:St) (H3:Hp):Prop:=But2 c.dy c.dh H1 H3/\RR C_Roll C_Rule H3 ro c (((qb4 s2).take i).foldl (qcv (cellD c)) s') LY LZ/\∃ v3 v4 v5:Option V,σ=[some (.ref ro),some (.ref r2),v3,v4,v5,none]
abbrev IvU (C_Roll C_Rule:Addr) (H4:Hp) (ro r2:Addr) (c:qar) (s2 s':Abs) (LY LZ:List (List Int)) (v3 v4 v5:Option V) (i:Nat) (σ:St) (H5:Hp):Prop:=But2 c.dy c.dh H4 H5/\RR C_Roll C_Rule H5 ro c (((qcb s2).take i).foldl (qb3 (cellD c)) ((qb4 s2).foldl (qcv (cellD c)) s')) LY LZ/\∃ v6:Option V,σ=[some (.ref ro),some (.ref r2),v3,v4,v5,v6]
include T in
theorem qeq:qez P w K mg base C_Roll 5 "take_all" ["self", "roll"] (qfe C_Roll C_Rule):=by
 obtain ⟨f,fd,F,hm⟩:=T.f_Roll_take_all;have nd:=sc_Roll_take_all.nd;refine ⟨f,fd,(F.ok sc_Roll_take_all (λvs H Q E h=>?_) (λcdv A outer s H vs Q E hr h=>?_)),hm,(F.binds λ_ _ _ _ _ _ us hl=>by obtain ⟨_,_,rfl⟩:=L2.lq2 hl;rfl)⟩
 ·obtain ⟨ro,r2,c,c2,s,s2,LY,LZ,LY2,LZ2,rfl,_⟩:=h;rfl
 ·obtain ⟨ro,r2,c,c2,s',s2,LY,LZ,LY2,LZ2,rfl,R1,R2,ok,ap,ly,lz,ly2,lz2,tk,q⟩:=h
  obtain ⟨dx,hob⟩:=R1.obj;obtain ⟨dx2,hob2⟩:=R2.obj;refine ⟨_,(jB2 (qbz AQ rfl (qa1 (qa0 (pv 1) T.cl_Roll (qdc T) (hr.mono (by decide)))) (jG3 (jN 2 nd) (jN 3 nd) (jN 4 nd)) (qad (qat (qb0 (qaz ⟨rfl,rfl,rfl⟩) (pv 0) T.cl_Roll (qeo T) (hr.mono (by decide)) .nil (jA3 (pv 2) (pv 3) (pv 4)))))) (qbz AQ rfl (qa1 (qa0 (pv 1) T.cl_Roll (qdd T) (hr.mono (by decide)))) (jN 5 nd) (qad (qat (qr2 (pv 0) T.cl_Roll (qhf T) (hr.mono (by decide)) (jA2 (jT (pv 5) qaa) (qbo qAa (pv 5) (qbx qaa) qb6))))))),?_⟩;refine ⟨_,rfl,r2,dx2,_,rfl,hob2,qfs _ _ _ _ _,?_⟩;simp only[qf6,AV,AX,AN];refine R2.young ly2 λl xs H1 s1 f1 hl tl kl=>?_
  have R1a:=R1.same s1;obtain ⟨⟨Y1,hY1⟩,⟨Z1,hZ1⟩⟩:=R1a.dicts;refine ⟨l,rfl,⟨_,SqL.of hl⟩,qbn (D:={ nx:=_,rt:=Q }) (xs:=xs) (λi σ H3=>IvT C_Roll C_Rule H1 ro r2 c s2 s' LY LZ i σ H3) ⟨But2.refl _ _ _,R1a,none,none,none,rfl⟩ (λi σ H3 _ h3=>SqL.of (h3.1.keep hY1 hZ1 hl (by intro K z;cases z))) ?_ ?_⟩
  ·rintro i x σ H3 hxi ⟨b3,R3,v3,v4,v5,rfl⟩
   obtain ⟨r',hr',ta,rfl,hta⟩:=tl.get hxi;obtain ⟨t,v,m,rfl,rok,hy,hz⟩:=tk.y r' (An hr');have hta3:=b3.keep hY1 hZ1 hta (by intro K z;cases z);obtain ⟨dx3,hob3⟩:=R3.obj;refine ⟨ta,_,rfl,SqT.of hta3,rfl,_,_,rfl,_,_,rfl,_,_,rfl,rfl,?_⟩;refine ⟨_,rfl,ro,dx3,_,rfl,hob3,qkw _ _ _ _ _,_,rfl,_,rfl,_,rfl,?_⟩;simp only[qf6,AV,AX,AN];refine R3.putX ok rok.1 rok.2.2.1 rok.2 ly lz hy hz λH4 R4 b4=>?_
   refine ⟨b3.trans b4,?_,_,_,_,rfl⟩;rw[qkv _ i _ hr',Dc];exact R4
  ·rintro σ H3 ⟨b3,R3,v3,v4,v5,rfl⟩
   rw[tl.length,AL] at R3;have R2':=(R2.same s1).frame b3 hY1 hZ1 ap.1 ap.2.1 ap.2.2.1 ap.2.2.2;obtain ⟨dx4,hob4⟩:=R2'.obj;refine ⟨_,rfl,r2,dx4,_,rfl,hob4,qft _ _ _ _ _,?_⟩;simp only[qf6,AV,AX,AN];refine R2'.heaps lz2 λl4 xs4 H4 s4 f4 hl4 tl4 kl4=>?_
   have R4:=R3.same s4;obtain ⟨⟨Y4,hY4⟩,⟨Z4,hZ4⟩⟩:=R4.dicts;have b04:But2 c.dy c.dh H H4:=λz o e n1 n2=>s4 _ _ (b3 _ _ (s1 _ _ e) n1 n2)
   refine ⟨l4,rfl,⟨_,SqL.of hl4⟩,qbn (D:={ nx:=_,rt:=Q }) (xs:=xs4) (λi σ H5=>IvU C_Roll C_Rule H4 ro r2 c s2 s' LY LZ v3 v4 v5 i σ H5) ⟨But2.refl _ _ _,R4,none,rfl⟩ (λi σ H5 _ h5=>SqL.of (h5.1.keep hY4 hZ4 hl4 (by intro K z;cases z))) ?_ ?_⟩
   ·rintro i x σ H5 hxi ⟨b5,R5,v6,rfl⟩
    obtain ⟨r',hr',ta,rfl,hta⟩:=tl4.get hxi;obtain ⟨a,w',m,t,lo,hi,rfl,ha,hz⟩:=tk.z r' (An hr');have hta5:=b5.keep hY4 hZ4 hta (by intro K z;cases z);obtain ⟨dx5,hob5⟩:=R5.obj
    walk_at "r"
    refine ⟨ro,dx5,_,rfl,hob5,qe1 _ _ _ _ _ (by decide +kernel) (by decide +kernel) (by decide +kernel) (by decide +kernel) (by decide +kernel),?_⟩
    walk_at "r"
    refine ⟨λz=>by have z1:HT.sIx 6 0 (some 2)=0:=z.1;revert z1;decide,λp hp=>?_⟩;have n6:New H5 (upd H5 p (.tup (qhp (List.map V.int [a,w',m,t,lo,hi]) (some 2) none))) p (.tup (TB.v4 (m,t,lo,hi))):=qbb hp;simp only[qf6,AV,AX,AN];refine ⟨ro,c,_,LY,LZ,a,p,(m,t,lo,hi),rfl,R5.same n6.same,ok,ha,n6.at_,lz,hz,λH7 R7 b7=>?_⟩;refine ⟨λz o e n1 n2=>b7 _ _ (n6.same _ _ (b5 _ _ e n1 n2)) n1 n2,?_,_,rfl⟩;rw[qkv _ i _ hr',Dc];exact R7
   ·rintro σ H5 ⟨b5,R5,v6,rfl⟩
    rw[tl4.length,AL] at R5;exact q H5 R5 (b04.trans b5)
theorem qzg (ru:Addr) (day:Int) (le dy dh p:Addr):qfl "kept_edges" (.ref p) (rof ru day le dy dh)=rof ru day p dy dh:=by rfl
inductive qmt (C R:Addr) (vs:List V) (H:Hp) (Q:VK) (E_:XK):Prop
 | mk:∀ (ru rl e:Addr) (ps:List (Int×Int)) (g:Option Int) (day:Int) (EV:List V) (es:List Int) (ge:Option Int),vs=[.ref ru,.int day,.ref e]->RuleAt R H ru rl ps g->Pr ps g->Bd day->H e=some (.lst EV)->(∀ v∈EV,Ed v)->EV.length<=10->EV.length=ps.length+1->EdS EV es ge->es.length=ps.length->(∀ ro c H',RollAt C R H' ro c->c.ps=ps->c.g=g->c.day=day->c.Y=[]->c.Z=[]->EdS (List.zipWith gE (eV ps g day) EV) c.es c.ge->c.es.length=ps.length->Same H H'->H c.dy=none->H c.dh=none->(c.ru=ru/\c.rl=rl/\H c.le=none)->Q (.ref ro) H')->qmt C R vs H Q E_
include T in
theorem qn2:qba P w K mg base 6 "begun" ["rule", "day", "edges"] (qmt C_Roll C_Rule):=by
 obtain ⟨f,fd,F,hm⟩:=T.f_begun;have nd:=sc_begun.nd;refine F.def_ hm (F.ok sc_begun (λvs H Q E h=>?_) (λcdv A outer s H vs Q E hr h=>?_)) (F.binds λ_ _ _ _ _ _ us hl=>by obtain ⟨_,_,_,rfl⟩:=L2.lq3 hl;rfl)
 ·obtain ⟨ru,rl,e,ps,g,day,EV,es,ge,rfl,_⟩:=h;rfl
 ·obtain ⟨ru,rl,e,ps,g,day,EV,es,ge,rfl,R,Pg,hd,he,hEd,h10,hEl,Ee,hln,q⟩:=h
  refine ⟨_,(jB3 (jS 3 nd (qr6 (qvv T) (hr.mono (by decide)) rfl .nil (jA2 (pv 0) (pv 1)))) (qb9 (pv 3) (jF (qmr T) hr (jA2 (qa7 (pv 3) rfl) (pv 2))) rfl) (qah (pv 3))),?_⟩;refine ⟨_,rfl,_,rfl,λro dx H1 s1 f1 d1=>?_⟩;refine ⟨ro,dx,ru,rl,ps,g,day,rfl,d1,R.same s1,Pg,hd,λle dy dh H2 z1 z2 z3 A2 b2=>⟨rfl,?_⟩⟩;have s2:Same H H2:=b2.same s1 f1;obtain ⟨dx2,hob⟩:=A2.ob;have E0':=EdS.of Pg hd;have hob':H2 ro=some (.ins C_Roll dx2 (rof ru day le dy dh)):=hob;have hed:H2 le=some (.lst (eV ps g day)):=by rw[E0'.eq];exact A2.ed
  have l0:(eV ps g day).length=ps.length+1:=by rw[E0'.eq];simp
  have g5:=Pg.good.hi;refine ⟨_,rfl,ro,C_Roll,dx2,_,_,rfl,hob',T.cl_Roll,T.na_Roll_kept_edges,qpb _ _ _ _ _,_,rfl,le,e,_,EV,rfl,hed,s2 _ _ he,E0'.ed,hEd,by rw[l0,hEl],by omega,λp H3 n3=>?_⟩;refine ⟨_,rfl,ro,C_Roll,dx2,_,rfl,n3.same _ _ hob',T.cl_Roll,T.na_Roll_kept_edges,(by show 5<1000;decide),λH4 b4 h4=>?_⟩;rw[qzg] at h4;have A3:=A2.same n3.same;have M:=E0'.max Ee (by rw[Ac];exact hln.symm);have hro3:=n3.same _ _ hob';have hp4:H4 p=some (.lst (List.zipWith gE (eV ps g day) EV)):=b4 _ _ n3.at_ (qaq n3.at_ hro3 (by intro z;cases z));obtain ⟨dxr,hru⟩:=A3.rule.ob;have nru:ru≠ro:=qaq hru hro3 (by intro z;injection z with _ _ z;have:=qs7 rl (gv g);have z':rf rl (gv g)=rof ru day le dy dh:=z;rw[z'] at this;cases this);have s04:Same H H4:=b4.same (s2.trans n3.same) f1;refine ⟨_,rfl,q ro { newD ru rl p dy dh ps g day with es:=_,ge:=_ } H4 ⟨⟨dx2,h4⟩,A3.rule.but2 b4 hro3 qc9 (by intro xs z;cases z) nru,?_,b4 _ _ A3.yo (qaq A3.yo hro3 (by intro z;cases z)),b4 _ _ A3.he (qaq A3.he hro3 (by intro z;cases z)),A3.ne⟩ rfl rfl rfl rfl rfl M ?_ s04 (s1.free z2) (s1.free z3) ⟨rfl,rfl,s2.free n3.fresh⟩⟩
  ·rw[M.eq] at hp4;exact hp4
  ·show (List.zipWith _ _ _).length=ps.length
   rw[BI,Ac];omega
theorem EdS.uniq {E:List V} {a b:List Int} {g h:Option Int} (x:EdS E a g) (y:EdS E b h):a=b/\g=h:=by
 have e:=x.eq.symm.trans y.eq;have hl:(a.map V.int).length=(b.map V.int).length:=by have:=congrArg List.length e;simp only[Aq,Bm] at this;omega
 obtain ⟨e1,e2⟩:=List.append_inj e hl;refine ⟨?_,?_⟩
 ·have:∀ {a b:List Int},a.map V.int=b.map V.int->a=b:=fun {a b} e=>by
   induction a generalizing b with
   | nil=>cases b with
    | nil=>rfl
    | cons _ _=>cases e
   | cons x t ih=>cases b with
    | nil=>cases e
    | cons y u=>injection e with h1 h2;injection h1 with h1;rw[h1,ih h2]
  exact this e1
 ·injection e2 with h1 _
  cases g<;>cases h<;>first|rfl|(injection h1 with h1;rw[h1])|cases h1
inductive qi2 (C R:Addr) (vs:List V) (H:Hp) (Q:VK) (E_:XK):Prop
 | mk:∀ (ro:Addr) (c:qar) (s:Abs) (LY LZ LY' LZ':List (List Int)) (d:Int) (fs:List Int) (fg:Option Int),vs=[.ref ro,.int d]->RR C R H ro c s LY LZ->qdl c->EdS (c.es.map V.int ++ [gv c.ge]) c.es c.ge->Bd c.day->Bd d->c.day<=d->LY.length<64->LZ.length<64->EdS (List.zipWith gE (eV c.ps c.g d) (c.es.map V.int ++ [gv c.ge])) fs fg->LY'.length<64->LZ'.length<64->qpl (qca (c.ps.map (·.2)) fs fg) LY' LZ' (qb4 s) (qcb s)->(∀ r' c' H',c'.ps=c.ps->c'.g=c.g->c'.day=d->c'.es=fs->c'.ge=fg->qdl c'->RR C R H' r' c' (qfx (qca (c.ps.map (·.2)) fs fg) qpf (qb4 s) (qcb s)) LY' LZ'->Same H H'->(H c'.dy=none/\H c'.dh=none)->(c'.ru=c.ru/\c'.rl=c.rl/\H c'.le=none)->Q (.ref r') H')->qi2 C R vs H Q E_
include T in
theorem qBw:qba P w K mg base 7 "aged" ["roll", "day"] (qi2 C_Roll C_Rule):=by
 obtain ⟨f,fd,F,hm⟩:=T.f_aged;have nd:=sc_aged.nd;refine F.def_ hm (F.ok sc_aged (λvs H Q E h=>?_) (λcdv A outer s H vs Q E hr h=>?_)) (F.binds λ_ _ _ _ _ _ us hl=>by obtain ⟨_,_,rfl⟩:=L2.lq2 hl;rfl)
 ·obtain ⟨ro,c,s',LY,LZ,LY',LZ',d,fs,fg,rfl,_⟩:=h;rfl
 ·obtain ⟨ro,c,s',LY,LZ,LY',LZ',d,fs,fg,rfl,R0,ok,E0',hd0,hd,hle,ly,lz,Ef,ly',lz',tk,q⟩:=h
  obtain ⟨dx,hob⟩:=R0.obj;obtain ⟨Y0,Z0,A0,B0⟩:=id R0;have hEl:(c.es.map V.int ++ [gv c.ge]).length=c.ps.length+1:=by simp[ok.es]
  have g5:=ok.pr.good.hi;refine ⟨_,(jB4 (qa2 (jC qhl (pv 1) (qa0 (pv 0) T.cl_Roll (qj4 T) (hr.mono (by decide)))) (qad qbm) qak) (jS 2 nd (jF (qn2 T) hr (jA3 (qa0 (pv 0) T.cl_Roll (qi1 T) (hr.mono (by decide))) (pv 1) (qa0 (pv 0) T.cl_Roll (qep T) (hr.mono (by decide)))))) (qat (qr2 (pv 2) T.cl_Roll (qeq T) (hr.mono (by decide)) (jA1 (pv 0)))) (qah (pv 2))),?_⟩
  walk_at "r"
  refine ⟨ro,dx,_,rfl,hob,qtd _ _ _ _ _,ro,_,rfl,A0,?_⟩
  walk_at "r"
  refine qjg (λz=>absurd (AG z) (by show ¬ d<c.day;omega)) λ_=>?_
  walk_at "r"
  refine ⟨ro,dx,_,rfl,hob,qpe _ _ _ _ _,ro,_,rfl,A0,?_⟩
  walk_at "r"
  refine ⟨ro,dx,_,rfl,hob,qif _ _ _ _ _,ro,_,rfl,A0,λle H3 n3=>?_⟩;have s03:=n3.same;refine ⟨c.ru,c.rl,le,c.ps,c.g,d,_,c.es,c.ge,rfl,A0.rule.same s03,ok.pr,hd,n3.at_,E0'.ed,AR (EU hEl) (by omega),hEl,E0',ok.es,λr' c' H4 A4 e1 e2 e3 eY eZ Ec hcl s4 f1 f2 w1=>?_⟩;obtain ⟨z1,z2⟩:=EdS.uniq Ec Ef;have okc:qdl c':=⟨by rw[e1,e2];exact ok.pr,by rw[hcl,e1]⟩;have ec:{ c' with Y:=[],Z:=[] }=c':=by
   cases c'
   simp only at eY eZ;rw[eY,eZ]
  have R4:RR C_Roll C_Rule H4 r' c' qpf LY' LZ':=⟨[],[],by rw[ec];exact A4,RAbs.zero rfl rfl⟩;have s04:=s03.trans s4;have ecell:cellD c'=qca (c.ps.map (·.2)) fs fg:=by unfold cellD;rw[e1,z1,z2]
  obtain ⟨dx4,hob4⟩:=R4.obj;obtain ⟨⟨Yr,hYr⟩,⟨Zr,hZr⟩⟩:=(R0.same s03).dicts
  walk_at "r"
  refine ⟨r',dx4,_,rfl,hob4,qe1 _ _ _ _ _ (by decide +kernel) (by decide +kernel) (by decide +kernel) (by decide +kernel) (by decide +kernel),?_⟩
  walk_at "r"
  refine ⟨r',ro,c',c,qpf,s',LY',LZ',LY,LZ,rfl,R4,R0.same s04,okc,⟨qac hYr f1,qac hYr f2,qac hZr f1,qac hZr f2⟩,ly',lz',ly,lz,by rw[ecell];exact tk,λH5 R5 b5=>?_⟩;rw[ecell] at R5
  walk_at "r"
  exact q r' c' H5 e1 e2 e3 z1 z2 okc R5 (λb o e=>b5 _ _ (s04 _ _ e) (qac (s03 _ _ e) f1) (qac (s03 _ _ e) f2)) ⟨s03.free f1,s03.free f2⟩ ⟨w1.1,w1.2.1,s03.free w1.2.2⟩
inductive qj5 (C R:Addr) (vs:List V) (H:Hp) (Q:VK) (E_:XK):Prop
 | mk:∀ (ru rl e lr:Addr) (ps:List (Int×Int)) (g:Option Int) (day:Int) (EV:List V) (es:List Int) (ge:Option Int) (ys:List V) (rs:List Rd3),vs=[.ref ru,.int day,.ref e,.ref lr]->RuleAt R H ru rl ps g->Pr ps g->Bd day->H e=some (.lst EV)->(∀ v∈EV,Ed v)->EV.length<=10->EV.length=ps.length+1->EdS EV es ge->es.length=ps.length->H lr=some (.lst ys)->Tups H ys (rs.map l3)->(∀ r∈rs,ROk r)->rs.length<60->(∀ ro c LY LZ H',c.ps=ps->c.g=g->c.day=day->EdS (List.zipWith gE (eV ps g day) EV) c.es c.ge->qdl c->RR C R H' ro c (qdi (cellD c) rs) LY LZ->LY.length<=rs.length->LZ.length<=rs.length->Same H H'->H c.dy=none->H c.dh=none->(c.ru=ru/\c.rl=rl/\H c.le=none)->Q (.ref ro) H')->qj5 C R vs H Q E_
include T in
theorem qtw:qba P w K mg base 7 "roll_of" ["rule", "day", "edges", "readings"] (qj5 C_Roll C_Rule):=by
 obtain ⟨f,fd,F,hm⟩:=T.f_roll_of;have nd:=sc_roll_of.nd;refine F.def_ hm (F.ok sc_roll_of (λvs H Q E h=>?_) (λcdv A outer s H vs Q E hr h=>?_)) (F.binds λ_ _ _ _ _ _ us hl=>by obtain ⟨_,_,_,_,rfl⟩:=L2.lq4 hl;rfl)
 ·obtain ⟨ru,rl,e,lr,ps,g,day,EV,es,ge,ys,rs,rfl,_⟩:=h;rfl
 ·obtain ⟨ru,rl,e,lr,ps,g,day,EV,es,ge,ys,rs,rfl,R,Pg,hd,he,hEd,h10,hEl,Ee,hln,hlr,hT,hR,h60,q⟩:=h
  refine ⟨_,(jB3 (jS 4 nd (jF (qn2 T) hr (jA3 (pv 0) (pv 1) (pv 2)))) (qbz AQ rfl (qa1 (pv 3)) (jG3 (jN 5 nd) (jN 6 nd) (jN 7 nd)) (qad (qat (qb0 (qaz ⟨rfl,rfl,rfl⟩) (pv 4) T.cl_Roll (qeo T) (hr.mono (by decide)) .nil (jA3 (pv 5) (pv 6) (pv 7)))))) (qah (pv 4))),?_⟩;refine ⟨_,rfl,_,rfl,_,rfl,ru,rl,e,ps,g,day,EV,es,ge,rfl,R,Pg,hd,he,hEd,h10,hEl,Ee,hln,λro c H1 A1 e1 e2 e3 eY eZ Ec hcl s1 f1 f2 w1=>?_⟩;have okc:qdl c:=⟨by rw[e1,e2];exact Pg,by rw[hcl,e1]⟩;have ec:{ c with Y:=[],Z:=[] }=c:=by
   cases c;simp only at eY eZ;rw[eY,eZ]
  have R1:RR C_Roll C_Rule H1 ro c qpf (rs.map qD7) (rs.map (qzz (cellD c))):=⟨[],[],by rw[ec];exact A1,RAbs.zero rfl rfl⟩;clear A1 ec eY eZ;have hyl:=hT.length;rw[Ac] at hyl;refine ⟨_,rfl,lr,rfl,⟨_,SqL.of (s1 _ _ hlr)⟩,qbn (xs:=ys) (λi σ H2=>Same H H2/\RR C_Roll C_Rule H2 ro c (qdi (cellD c) (rs.take i)) (rs.map qD7) (rs.map (qzz (cellD c)))/\∃ v5 v6 v7:Option V,σ=[some (.ref ru),some (.int day),some (.ref e),some (.ref lr),some (.ref ro),v5,v6,v7]) ⟨s1,R1,none,none,none,rfl⟩ (λi σ H2 _ h2=>SqL.of (h2.1 _ _ hlr)) ?_ ?_⟩
  ·rintro i x σ H2 hxi ⟨s2,R2,v5,v6,v7,rfl⟩
   obtain ⟨r',hr',a,rfl,ha⟩:=hT.get hxi;rw[Ay] at hr';obtain ⟨r,hri,rfl⟩:=AH.mp hr';have hm:=An hri;have ok:=hR r hm;have htk:rs.take (i+1)=rs.take i ++ [r]:=qkv _ i _ hri;obtain ⟨dx,hob⟩:=R2.obj;refine ⟨a,_,rfl,SqT.of (s2 _ _ ha),rfl,_,_,rfl,_,_,rfl,_,_,rfl,rfl,?_⟩;refine ⟨_,rfl,ro,dx,_,rfl,hob,qkw _ _ _ _ _,_,rfl,_,rfl,_,rfl,?_⟩;simp only[qf6,AV,AX,AN];refine R2.putX okc ok.1 ok.2.2.1 ok.2 (by rw[Ac];omega) (by rw[Ac];omega) (Af.mpr ⟨r,hm,rfl⟩) (λa w e=>Af.mpr ⟨r,hm,by unfold qzz;rw[e]⟩) λH3 R3 b3=>?_
   refine ⟨λb o eb=>b3 _ _ (s2 _ _ eb) (qac eb f1) (qac eb f2),?_,_,_,_,rfl⟩;rw[htk,qjv];exact R3
  ·rintro σ H2 ⟨s2,R2,v5,v6,v7,rfl⟩
   rw[hyl,AL] at R2;exact ⟨_,rfl,q ro c _ _ H2 e1 e2 e3 Ec okc R2 (by rw[Ac];exact Ag _) (by rw[Ac];exact Ag _) s2 f1 f2 w1⟩
def qvw (cell:Int->Option (Int×Int)) (r:List Int):List Int:=match cell (r.headD 0) with
 | none=>[]
 | some p=>[p.1,p.2]
theorem qzh {x y:V} (hx:Ed x) (hy:Ed y):gE x (gE x y)=gE x y:=by
 rcases hx with rfl|⟨i,rfl⟩<;>rcases hy with rfl|⟨j,rfl⟩<;>try rfl
 ·show V.int (if i>i then i else i)=V.int i
  split<;>rfl
 ·show V.int (if (if j>i then j else i)>i then (if j>i then j else i) else i)=V.int (if j>i then j else i)
  congr 1
  repeat' split
  all_goals omega
theorem qk5:∀ {xs ys:List V},(∀ v∈xs,Ed v)->(∀ v∈ys,Ed v)->List.zipWith gE xs (List.zipWith gE xs ys)=List.zipWith gE xs ys
 | [],ys,_,_=>by simp
 | x :: xs,[],_,_=>rfl
 | x :: xs,y :: ys,h1,h2=>by
  simp only[Dq];rw[qzh (h1 x Au) (h2 y Au),qk5 (λv hv=>h1 v (Ap _ hv)) λv hv=>h2 v (Ap _ hv)]
theorem RR.skeys {C R:Addr} {H:Hp} {ro:Addr} {c:qar} {s:Abs} {LY LZ:List (List Int)} (h:RR C R H ro c s LY LZ):∃ my mz,SKeys s.y my/\SKeys s.z mz/\(∀ k∈my,k.length=2)/\∀ k∈mz,k.length=2:=by
 obtain ⟨Y,Z,A,B⟩:=h;obtain ⟨ks,dk,_⟩:=B.yk;obtain ⟨js,dj,_⟩:=B.zk;have hy:∀ k,k∈ks↔s.y k≠none:=λk=>by rw[dk.mem,B.yv];cases s.y k<;>simp
 have hz:∀ k,k∈js↔s.z k≠none:=λk=>by rw[dj.mem];exact qw6 B k
 obtain ⟨my,sy,_⟩:=qkz dk.nd hy;obtain ⟨mz,sz,_⟩:=qkz dj.nd hz;exact ⟨my,mz,sy,sz,λk hk=>dk.ne k ((hy k).mpr ((sy.mem k).mp hk)),λk hk=>dj.ne k ((hz k).mpr ((sz.mem k).mp hk))⟩
def TagL (s:Abs) (T:List (List Int)):Prop:=(∀ k,s.y k≠none->(0 :: k)∈T)/\∀ k,s.z k≠none->(1 :: k)∈T
theorem TagL.of {cell:Int->Option (Int×Int)} {s:Abs} {rs:List Rd3} (h:Tags cell s rs):TagL s (rs.map (qy8 cell)):=
 ⟨λk hk=>let ⟨r,hr,e⟩:=h.1 k hk;Af.mpr ⟨r,hr,e⟩,λk hk=>let ⟨r,hr,e⟩:=h.2 k hk;Af.mpr ⟨r,hr,e⟩⟩
theorem qvx {s:Abs} {T:List (List Int)} {my mz:List (List Int)} (tg:TagL s T) (hy:SKeys s.y my) (hz:SKeys s.z mz):my.length+mz.length<=T.length:=by
 have nd:(my.map (λk=>(0:Int) :: k) ++ mz.map (λk=>(1:Int) :: k)).Nodup:=by
  rw[List.nodup_append];refine ⟨?_,?_,λa ha b hb e=>?_⟩
  ·rw[C7,CI];exact hy.nd.imp λhne e=>hne (by injection e)
  ·rw[C7,CI];exact hz.nd.imp λhne e=>hne (by injection e)
  ·obtain ⟨k,_,rfl⟩:=Af.mp ha
   obtain ⟨l,_,rfl⟩:=Af.mp hb;injection e with e _
   omega
 have sub:(my.map (λk=>(0:Int) :: k) ++ mz.map (λk=>(1:Int) :: k)) ⊆ T:=λx hx=>by
  rcases AA.mp hx with h|h
  ·obtain ⟨k,hk,rfl⟩:=Af.mp h
   exact tg.1 k ((hy.mem k).mp hk)
  ·obtain ⟨k,hk,rfl⟩:=Af.mp h
   exact tg.2 k ((hz.mem k).mp hk)
 have:=BW nd sub
 simpa using this
theorem qzi {cell:Int->Option (Int×Int)} {s:Abs} {my mz:List (List Int)} {B N:Int} (h:AbsB B N s) (hB:B<10 ^ 46) (hN:N<10 ^ 45) (sy:SKeys s.y my) (sz:SKeys s.z mz):qpl cell my (my.map (qvw cell) ++ mz.map (qvw cell)) (qb4 s) (qcb s):=by
 refine ⟨λr hr=>?_,λr hr=>?_⟩
 ·rw[<- qda sy] at hr
  obtain ⟨k,hk,rfl⟩:=Af.mp hr
  cases e:s.y k with
  | none=>exact absurd e ((sy.mem k).mp hk)
  | some n =>
   obtain ⟨t,v,rfl,h1,h2,h3,h4⟩:=h.y k n e;refine ⟨t,v,n,by unfold qnx;rw[e];rfl,⟨by unfold qnw;dsimp only;omega,by unfold qvn;dsimp only;omega⟩,hk,λa w ec=>Ck _ (Af.mpr ⟨_,hk,?_⟩)⟩;unfold qvw;dsimp only [List.headD];rw[ec]
 ·rw[<- qdb sz] at hr
  obtain ⟨k,hk,rfl⟩:=Af.mp hr
  cases e:s.z k with
  | none=>exact absurd e ((sz.mem k).mp hk)
  | some x =>
   obtain ⟨a,w,rfl,h1,h2⟩:=h.z k x e;refine ⟨a,w,x.1,x.2.1,x.2.2.1,x.2.2.2,by unfold qpj i4;rw[e];rfl,by unfold qnw;omega,λb w' ec=>AM _ (Af.mpr ⟨_,hk,?_⟩)⟩;unfold qvw;dsimp only [List.headD];rw[ec]
theorem qzj {x:V} (hx:Ed x):gE x x=x:=by
 rcases hx with rfl|⟨i,rfl⟩
 ·rfl
 ·show V.int (if i>i then i else i)=V.int i
  split<;>rfl
theorem qpo:∀ {xs:List V},(∀ v∈xs,Ed v)->List.zipWith gE xs xs=xs
 | [],_=>rfl
 | x :: xs,h=>by
  rw[Dq,qzj (h x Au),qpo λv hv=>h v (Ap _ hv)]
theorem qzk {a b:List Int} (g1 g2:Option Int) (h:a.length=b.length):Later b (List.zipWith mx a b) g2 (qy2 g1 g2) where
 len:=by rw[BI];omega
 up:=λi x y hx hy=>by
  obtain ⟨u,v,hu,hv,rfl⟩:=qvr hy;rw[hx] at hv;cases hv;exact (qBu u x).2.1
 gn:=λz hz=>by
  subst hz
  cases g1 with
  | none=>exact ⟨z,rfl,CS _⟩
  | some j=>exact ⟨mx j z,rfl,(qBu j z).2.1⟩
theorem RR.mono {C R:Addr} {H:Hp} {ro:Addr} {c:qar} {s:Abs} {LY LZ LY' LZ':List (List Int)} (h:RR C R H ro c s LY LZ) (a:LY ⊆ LY') (b:LZ ⊆ LZ'):RR C R H ro c s LY' LZ':=
 let ⟨Y,Z,A,B⟩:=h;⟨Y,Z,A,B.mono a b⟩
structure R63 (C R:Addr) (H:Hp) (r:Addr) (q:qar) (ps:List (Int×Int)) (g:Option Int) (d:Int) (es:List Int) (ge:Option Int) (rs:List Rd3) (LY LZ:List (List Int)):Prop where
 R:RR C R H r q (qdi (qca (ps.map (·.2)) es ge) rs) LY LZ
 ok:qdl q
 qp:q.ps=ps
 qg:q.g=g
 qd:q.day=d
 qe:q.es=es
 qh:q.ge=ge
 P:Pr ps g
 wb:∀ p∈ps,p.2<=10 ^ 35
 E:EdS (es.map V.int ++ [gv ge]) es ge
 F:Fall (ps.map (·.2)) es ge
 dom:List.zipWith gE (eV ps g d) (es.map V.int ++ [gv ge])=es.map V.int ++ [gv ge]
 hd:Bd d
 hr:∀ r∈rs,RLt r
 ly:LY.length<=rs.length
 lz:LZ.length<=rs.length
structure qzl (ps:List (Int×Int)) (g:Option Int) (D:Int) (EV:List V) (es:List Int) (ge:Option Int) (fs:List Int) (fg:Option Int):Prop where
 Ef:EdS (List.zipWith gE (eV ps g D) EV) fs fg
 F:Fall (ps.map (·.2)) fs fg
 L:Later es fs ge fg
 eq:List.zipWith gE (eV ps g D) EV=fs.map V.int ++ [gv fg]
 dom:List.zipWith gE (eV ps g D) (fs.map V.int ++ [gv fg])=fs.map V.int ++ [gv fg]
 E:EdS (fs.map V.int ++ [gv fg]) fs fg
theorem qD9 {ps:List (Int×Int)} {g:Option Int} (P:Pr ps g) {D:Int} (hD:Bd D) {es:List Int} {ge:Option Int} {EV:List V} (E:EdS EV es ge) (F:Fall (ps.map (·.2)) es ge):∃ fs fg,qzl ps g D EV es ge fs fg:=by
 have l1:(ps.map λp=>cut D p.1 p.2).length=es.length:=by have:=F.len;rw[Ac] at this ⊢;exact this
 have M:=(EdS.of P hD).max E l1;have M':=M;rw[M.eq] at M';refine ⟨_,_,M,(Fall.of P D).max F,qzk _ _ l1,M.eq,?_,M'⟩;rw[<- M.eq];exact qk5 (EdS.of P hD).ed E.ed
section
variable {C R N:Addr} {H H':Hp} {r ru rl:Addr} {q:qar} {ps ps2:List (Int×Int)} {g g2:Option Int} {d D:Int} {es fs:List Int} {ge fg:Option Int} {rs:List Rd3} {LY LZ:List (List Int)} {Q:VK} {E:XK}
theorem R63.same (e:Same H H') (h:R63 C R H r q ps g d es ge rs LY LZ):R63 C R H' r q ps g d es ge rs LY LZ:={ h with R:=h.R.same e }
theorem R63.cellD (h:R63 C R H r q ps g d es ge rs LY LZ):TB.cellD q=qca (ps.map (·.2)) es ge:=by unfold TB.cellD;rw[h.qp,h.qe,h.qh]
theorem R63.eq (h:R63 C R H r q ps g d es ge rs LY LZ):q.es.map V.int ++ [gv q.ge]=es.map V.int ++ [gv ge]:=by rw[h.qe,h.qh]
theorem R63.len (h:R63 C R H r q ps g d es ge rs LY LZ):1<=es.length:=by have:=h.F.len;have:=h.P.good.lo;rw[Ac] at *;omega
theorem R63.take (h:R63 C R H r q ps g d es ge rs LY LZ) (h50:rs.length<=50) (cell':Int->Option (Int×Int)) :
  ∃ LY' LZ',LY'.length<=rs.length/\LZ'.length<=rs.length/\qpl cell' LY' LZ' (qb4 (qdi (qca (ps.map (·.2)) es ge) rs)) (qcb (qdi (qca (ps.map (·.2)) es ge) rs)):=by
 obtain ⟨my,mz,sy,sz,h2,hz2⟩:=h.R.skeys;have nr:qCh (10 ^ 36) (qca (ps.map (·.2)) es ge):=qti (by rw[Ac];exact h.P.good.lo) h.len (by decide) λw hw=>by
  obtain ⟨p,hp,rfl⟩:=Af.mp hw;obtain ⟨i,hi,e⟩:=AZ hp;have:=h.wb p hp;exact ⟨(h.P.good.each i p (by rw[<- e];exact Ad hi)).2,by omega⟩
 have hab:=qtj nr rs (s:=qpf) (N:=0) qDp (by omega) λr hr=>h.hr r hr
 have hN:0+10 ^ 31*(rs.length:Int)<=10 ^ 33:=by omega
 have hab':AbsB (5*10 ^ 45+10 ^ 36) (10 ^ 33) (qdi (qca (ps.map (·.2)) es ge) rs):=⟨λk n e=>by obtain ⟨t,v,e1,e2,e3,e4,e5⟩:=hab.y k n e;exact ⟨t,v,e1,e2,e3,e4,by omega⟩,hab.z⟩;have cnt:=qvx (TagL.of (qy9 (qca (ps.map (·.2)) es ge) rs)) sy sz;rw[Ac] at cnt;have tk:=qzi (cell:=cell') hab' (by omega) (by omega) sy sz;exact ⟨_,_,by omega,by rw[Aq,Ac,Ac];omega,tk⟩
theorem R63.put {t:Rd3} (h:R63 C R H r q ps g d es ge rs LY LZ) (h50:rs.length<50) (ht:RLt t) (k:∀ H',R63 C R H' r q ps g d es ge (rs ++ [t]) ([t.1,t.2.1] :: LY) (qzz (qca (ps.map (·.2)) es ge) t :: LZ)->But2 q.dy q.dh H H'->Q (.bl (qca (ps.map (·.2)) es ge t.1).isSome) H'):qfd C R N [.ref r,.int t.1,.int t.2.1,.int t.2.2] H Q E:=by
 have l1:=h.ly;have l2:=h.lz;have ht':=ht;obtain ⟨t1,t2⟩:=ht;have ec:=h.cellD;refine (h.R.mono (E8 [t.1,t.2.1] _) (E8 (qzz (qca (ps.map (·.2)) es ge) t) _)).putX h.ok (by unfold qnw;omega) t2.2.1 (by unfold qvn;dsimp only;omega) (by rw[Az];omega) (by rw[Az];omega) Au (λa w e=>by rw[ec] at e;unfold qzz;rw[e];exact Au) λH3 R3 b3=>?_
 rw[ec] at R3 ⊢;refine k H3 { h with R:=?_,hr:=λr hr=>(AA.mp hr).elim (h.hr r) λz=>by rw[Aj.mp z];exact ht',ly:=by rw[Az,Aq,Bm];omega,lz:=by rw[Az,Aq,Bm];omega } b3;rw[qjv];exact R3
theorem R63.aged (h:R63 C R H r q ps g d es ge rs LY LZ) (h50:rs.length<=50) (hD:Bd D) (hdD:d<=D) (U:qzl ps g D (es.map V.int ++ [gv ge]) es ge fs fg) (k:∀ r' q' LY' LZ' H',Same H H'->R63 C R H' r' q' ps g D fs fg rs LY' LZ'->(H q'.dy=none/\H q'.dh=none)->(q'.ru=q.ru/\q'.rl=q.rl/\H q'.le=none)->Q (.ref r') H'):qi2 C R [.ref r,.int D] H Q E:=by
 have l1:=h.ly;have l2:=h.lz;obtain ⟨LY',LZ',l3,l4,tk⟩:=h.take (by omega) (qca (ps.map (·.2)) fs fg);refine ⟨r,q,_,LY,LZ,LY',LZ',D,fs,fg,rfl,h.R,h.ok,by rw[h.eq,h.qe,h.qh];exact h.E,by rw[h.qd];exact h.hd,hD,by rw[h.qd];exact hdD,by omega,by omega,by rw[h.qp,h.qg,h.eq];exact U.Ef,by omega,by omega,by rw[h.qp];exact tk,λr' c' H' e1 e2 e3 e4 e5 ok' R' s f f2=>?_⟩;have hT:=qtm (qmb h.F U.F U.L h.len) rs;rw[h.qp,hT] at R';exact k r' c' LY' LZ' H' s ⟨R',ok',by rw[e1,h.qp],by rw[e2,h.qg],e3,e4,e5,h.P,h.wb,U.E,U.F,U.dom,hD,h.hr,by omega,by omega⟩ f f2
end
theorem qc3 {n:Nat} (h:n<=20000):n<=sizeLine:=by rw[Bl];omega
def qax (n:Int) (x:List Nat):Prop:=1<=x.length/\(x.length:Int)<=n/\∀ c∈x,97<=c/\c<=122
instance (n:Int) (x:List Nat):Decidable (qax n x):=inferInstanceAs (Decidable (_/\_/\_))
def qco (n:Int):V->Bool
 | .str s=>decide (qax n s.cps.toList)
 | _=>false
theorem qcg (n:Int) (x:List Nat):qco n (.str (S x))=decide (qax n x):=rfl
theorem qBx (c:Nat):decide (c∈(Str.ofString "abcdefghijklmnopqrstuvwxyz").cps.toList)=decide (97<=c/\c<=122):=by
 have e:(Str.ofString "abcdefghijklmnopqrstuvwxyz").cps.toList=[97,98,99,100,101,102,103,104,105,106,107,108,109,110,111,112,113,114,115,116,117,118,119,120,121,122]:=by decide +kernel
 rw[e,decide_eq_decide]
 simp
 omega
def qvy:Sp:=λvs H Q _=>∃ v n,vs=[v,.int n]/\TextV H v/\∀ H',Same H H'->Q (.bl (qco n v)) H'
include T in
theorem qer:qba P w K mg base 1 "is_small_word" ["thing", "longest"] qvy:=by
 obtain ⟨f,fd,F,hm⟩:=T.f_is_small_word;have nd:=sc_is_small_word.nd;refine F.def_ hm (F.ok sc_is_small_word (λvs H Q E h=>?_) (λcdv A outer s H vs Q E hr h=>?_)) (F.binds λ_ _ _ _ _ _ us hl=>by obtain ⟨_,_,rfl⟩:=L2.lq2 hl;rfl)
 ·obtain ⟨v,n,rfl,_⟩:=h;rfl
 ·obtain ⟨v,n,rfl,hv,q⟩:=h
  refine ⟨_,(jB2 (qa2 (qcz (qct (qal qhi rfl T.b_isinstance qbv (jA2 (pv 0) (qkg (v:=.ty "str") rfl T.b_str qAo rfl))))) (qad (qah qd2)) qak) (qah (qd6 (jD qz8 qaa (qal qlu rfl T.b_len qcj (jA1 (pv 0)))) (qd6 (jD qz8 (qal qlu rfl T.b_len qcj (jA1 (pv 0))) (pv 1)) (qfm (qal (qou rfl) rfl T.b_all qwp (jA1 (qhd (vars:=[ "sign" ]) (frees:=[]) (fv:=[]) rfl (jL0 rfl) trivial (qBa (pv 0)) (qec (by decide)) (λ_ _ _ _=>(jM 0 [ "sign" ])) (λ_ _ _ _=>qbg) (λ_ _ _ _=>(qrj qBc (pv 0) (qe9 (v:=.str "abcdefghijklmnopqrstuvwxyz") rfl T.c_LETTERS.choose_spec ⟨_,rfl⟩) rfl)))))))))),?_⟩
  rcases hv with ⟨x,rfl,hx⟩|hv
  ·have no:¬ qax n x->Q (V.bl false) H:=λz=>by
    have:=q H (Same.refl _);rw[qcg,Bc z] at this;exact this
   refine ⟨_,rfl,_,_,_,_,rfl,.str _,qyn K,_,rfl,qds ?_⟩
   walk_at "r"
   refine ⟨qc3 (by omega),?_⟩
   walk_at "r"
   by_cases l1:(1:Int)<=x.length
   ·rw[Al (AE l1)]
    walk_at "r"
    refine ⟨qc3 (by omega),?_⟩
    walk_at "r"
    by_cases l2:(x.length:Int)<=n
    ·rw[Al (AE l2)]
     refine ⟨_,rfl,_,rfl,qBb (x:=x) (λi ys H2=>Same H H2/\ys=(x.take i).map λd=>V.bl (decide (97<=d/\d<=122))) (qc3 (by omega)) ⟨Same.refl _,rfl⟩ (λi ys H2 h2=>by rw[h2.2,Ac,As];omega) ?_ ?_⟩
     ·rintro i d ys H2 hi ⟨s2,rfl⟩
      refine qan (qop (qc6 ?_));refine ⟨_,rfl,d,_,rfl,rfl,s2,?_⟩;rw[qBx];exact (qCg _ x i d hi).symm
     ·rintro ys H2 p H3 ⟨s2,rfl⟩ n3
      rw[AL] at n3;refine ⟨p,x.map λd=>decide (97<=d/\d<=122),rfl,SqL.of (by rw[AI];exact n3.at_),?_⟩;have:=q H3 (s2.trans n3.same);have ef:decide (qax n x)=(x.map λd=>decide (97<=d/\d<=122)).all id:=by
       rw[CY,decide_eq_true_iff,Dk]
       constructor
       ·intro h b hb
        obtain ⟨d,hd,rfl⟩:=Af.mp hb;exact AE (h.2.2 d hd)
       ·intro h
        refine ⟨by omega,l2,λd hd=>?_⟩;exact AG (h _ (Af.mpr ⟨d,hd,rfl⟩))
      rw[qcg,ef] at this;exact this
    ·rw[Ah (λy=>l2 (AG y))]
     exact no λh=>l2 h.2.1
   ·rw[Ah (λy=>l1 (AG y))]
    exact no λh=>l1 (by have:=h.1;omega)
  ·obtain ⟨t,ty,kt⟩:=OddV.ty (K:=K) hv
   refine ⟨_,rfl,_,_,_,_,rfl,ty,kt,_,rfl,qc6 ?_⟩;have:=q H (Same.refl _)
   rcases hv with rfl|⟨i,rfl⟩|⟨b,rfl⟩|⟨p,xs,rfl,h⟩|⟨p,xs,rfl,h⟩<;>exact this
def qmu (n:Int):Sp:=λvs H Q _=>∃ v,vs=[v]/\TextV H v/\∀ H',Same H H'->Q (.bl (qco n v)) H'
include T in
theorem qmv:qba P w K mg base 2 "is_name" ["thing"] (qmu 12):=by
 obtain ⟨f,fd,F,hm⟩:=T.f_is_name;have nd:=sc_is_name.nd;refine F.def_ hm (F.ok sc_is_name (λvs H Q E h=>?_) (λcdv A outer s H vs Q E hr h=>?_)) (F.binds λ_ _ _ _ _ _ us hl=>by obtain ⟨_,rfl⟩:=L2.lq1 hl;rfl)
 ·obtain ⟨v,rfl,_⟩:=h;rfl
 ·obtain ⟨v,rfl,hv,q⟩:=h
  refine ⟨_,(qad (qah (jF (qer T) hr (jA2 (pv 0) (qe9 (v:=.int 12) rfl T.c_LONGEST_NAME.choose_spec ⟨_,rfl⟩))))),?_⟩;exact ⟨_,rfl,v,12,rfl,hv,q⟩
include T in
theorem qtx:qba P w K mg base 2 "is_mark" ["thing"] (qmu 8):=by
 obtain ⟨f,fd,F,hm⟩:=T.f_is_mark;have nd:=sc_is_mark.nd;refine F.def_ hm (F.ok sc_is_mark (λvs H Q E h=>?_) (λcdv A outer s H vs Q E hr h=>?_)) (F.binds λ_ _ _ _ _ _ us hl=>by obtain ⟨_,rfl⟩:=L2.lq1 hl;rfl)
 ·obtain ⟨v,rfl,_⟩:=h;rfl
 ·obtain ⟨v,rfl,hv,q⟩:=h
  refine ⟨_,(qad (qah (jF (qer T) hr (jA2 (pv 0) (qe9 (v:=.int 8) rfl T.c_LONGEST_MARK.choose_spec ⟨_,rfl⟩))))),?_⟩;exact ⟨_,rfl,v,8,rfl,hv,q⟩
theorem qty:(Str.ofString "")=S []:=by decide +kernel
theorem small_iff {n:Int} {v:V}:qco n v=true↔∃ x,v=tS x/\qax n x:=by
 constructor
 ·intro h
  obtain ⟨s,rfl⟩:∃ s,v=.str s:=by
   cases v<;>first|exact ⟨_,rfl⟩|exact Bool.noConfusion h
  exact ⟨s.cps.toList,by rw[show tS s.cps.toList=V.str (S s.cps.toList) from rfl,qD3],AG h⟩
 ·rintro ⟨x,rfl,h⟩
  rw[qcg];exact AE h
def qbq (vs:List V):Prop:=(∀ v∈vs,qco 8 v=true)/\vs.Nodup/\vs.length<=8
theorem qk6 {n:Int}:∀ {vs:List V},(∀ v∈vs,qco n v=true)->∃ ms:List (List Nat),vs=ms.map tS/\∀ m∈ms,qax n m
 | [],_=>⟨[],rfl,by simp⟩
 | v :: vs,h=>by
  obtain ⟨x,rfl,hx⟩:=small_iff.mp (h v Au);obtain ⟨ms,rfl,hm⟩:=qk6 (vs:=vs) λv hv=>h v (Ap _ hv)
  exact ⟨x :: ms,rfl,λm hm'=>by
   rcases Ak.mp hm' with rfl|z
   ·exact hx
   ·exact hm m z⟩
theorem qbt {a b:List Nat} (h:tS a=tS b):a=b:=qym (V.str.inj h)
theorem qi3 {α β:Type} {f:α->β} (inj:∀ a b,f a=f b->a=b):∀ {l:List α},(l.map f).Nodup↔l.Nodup
 | []=>by simp
 | x :: l=>by
  rw[Aw,Bf,Bf,qi3 inj];refine and_congr ⟨λh z=>h (Af.mpr ⟨x,z,rfl⟩),λh z=>?_⟩ Iff.rfl;obtain ⟨y,hy,e⟩:=Af.mp z;exact h (inj _ _ e ▸ hy)
theorem qmw {α:Type} [DecidableEq α]:∀ l:List α,qef l=l.length↔l.Nodup
 | []=>by simp[qef]
 | x :: l=>by
  have:=qks l;have ih:=qmw l;unfold qef;rw[Bf]
  by_cases e:x∈l
  ·rw[Al e,Az]
   exact ⟨λh=>by omega,λh=>absurd e h.1⟩
  ·rw[Ah e,Az]
   exact ⟨λh=>⟨e,ih.mp (by omega)⟩,λh=>by have:=ih.mpr h.2;omega⟩
def qtz (N:Addr):Sp:=λvs H Q E=>∃ (l:Addr) (us:List V),vs=[.ref l]/\H l=some (.lst us)/\(∀ v∈us,TextV H v)/\us.length<=60/\(qbq us->∀ H',Same H H'->Q .non H')/\(¬ qbq us->∀ H',Same H H'->E (.ref N) none H')
include T in
theorem qk7:qva P w K mg base 3 "check_marks" ["marks"] [] (qtz C_NoMark):=by
 obtain ⟨f,fd,F,hm⟩:=T.f_check_marks;have nd:=sc_check_marks.nd;refine ⟨f,fd,(F.okX sc_check_marks (λvs H Q E h=>?_) (λcdv A outer s H vs Q E hr h=>?_)),hm,F.kp,(F.binds λ_ _ _ _ _ _ us hl=>by obtain ⟨_,rfl⟩:=L2.lq1 hl;rfl)⟩
 ·obtain ⟨l,us,rfl,_⟩:=h;rfl
 ·obtain ⟨l,us,rfl,hl,hv,hz,q1,q2⟩:=h
  refine ⟨_,(jB3 (qa2 (qcz (qct (qal (qou rfl) rfl T.b_all qwp (jA1 (qhd (vars:=[ "mark" ]) (frees:=[]) (fv:=[]) rfl (jL0 rfl) trivial (qa1 (pv 0)) (qec (by decide)) (λ_ _ _ _=>(jM 0 [ "mark" ])) (λ_ _ _ _=>qbg) (λ_ _ _ _=>(jF (qtx T) hr (jA1 (pv 0))))))))) (qad (qc7 (qay ⟨rfl,rfl,rfl⟩) rfl T.ex_NoMark rfl T.mg_NoMark (jA1 qbr))) qak) (qa2 (jC qp5 (qal qsy rfl T.b_len qcj (jA1 (qbd (qsx rfl) rfl T.b_set qBf (jA1 (pv 0))))) (qal qau rfl T.b_len qcj (jA1 (pv 0)))) (qad (qc7 (qay ⟨rfl,rfl,rfl⟩) rfl T.ex_NoMark rfl T.mg_NoMark (jA1 qbr))) qak) (qa2 (jC qxj (qal qau rfl T.b_len qcj (jA1 (pv 0))) (qe9 (v:=.int 8) rfl T.c_MOST_MARKS.choose_spec ⟨_,rfl⟩)) (qad (qc7 (qay ⟨rfl,rfl,rfl⟩) rfl T.ex_NoMark rfl T.mg_NoMark (jA1 qbr))) qak)),?_⟩;refine ⟨_,rfl,l,rfl,⟨_,SqL.of hl⟩,qcy (xs:=us) (λi ys H2=>Same H H2/\ys=(us.take i).map λv=>V.bl (qco 8 v)) (qc3 (by omega)) ⟨Same.refl _,rfl⟩ (λi ys H2 h2=>⟨SqL.of (h2.1 _ _ hl),by rw[h2.2,Ac,As];omega⟩) ?_ ?_⟩
  ·rintro i v ys H2 hi ⟨s2,rfl⟩
   refine qan (qop (qc6 ?_));refine ⟨_,rfl,v,rfl,(hv v (An hi)).same s2,λH3 s3=>⟨s2.trans s3,?_⟩⟩;exact (qCg _ us i v hi).symm
  ·rintro ys H2 p H3 ⟨s2,rfl⟩ n3
   rw[AL] at n3;have s03:=s2.trans n3.same;refine ⟨p,us.map λv=>qco 8 v,rfl,SqL.of (by rw[AI];exact n3.at_),_,rfl,?_⟩
   by_cases a1:∀ v∈us,qco 8 v=true
   ·have e1:(us.map λv=>qco 8 v).all id=true:=by
     rw[Dk];intro b hb;obtain ⟨v,hv,rfl⟩:=Af.mp hb;exact a1 v hv
    rw[e1];refine qds ?_;obtain ⟨ms,rfl,hm⟩:=qk6 a1;have hl3:=s03 _ _ hl;rw[show (ms.map tS)=(ms.map S).map V.str by rw[AI];rfl] at hl3;refine ⟨_,rfl,l,ms.map S,rfl,SqL.of hl3,by simp at hz ⊢;omega,λst H4 n4=>?_⟩;have hl4:=n4.same _ _ hl3;have su:=qks (ms.map S).reverse;rw[List.length_reverse,Ac] at su;rw[Ac] at hz;refine ⟨st,_,rfl,n4.at_,by omega,_,rfl,l,_,rfl,.inl (SqL.of hl4),rfl,_,rfl,?_⟩;have s04:=s03.trans n4.same;have ed:(!decide (V.int (qef (ms.map S).reverse:Nat)=V.int (((ms.map S).map V.str).length:Nat))) = !decide (ms.map tS).Nodup:=by
     congr 1
     rw[decide_eq_decide];rw[qi3 (λ_ _=>qbt),<- qi3 (f:=S) (λ_ _=>qym),<- (List.reverse_perm (ms.map S)).nodup_iff,<- qmw]
     simp
     omega
    rw[ed]
    by_cases a2:(ms.map tS).Nodup
    ·rw[AE a2]
     refine qds ?_;refine ⟨_,rfl,l,_,rfl,.inl (SqL.of hl4),_,_,rfl,rfl,_,rfl,?_⟩;refine qjg (λz=>?_) λz=>?_
     ·walk_at "r"
      refine q2 (λh=>?_) H4 s04;have:=AG z;have:=h.2.2
      simp at *
      omega
     ·refine q1 ⟨a1,a2,?_⟩ H4 s04
      have:=of_decide_eq_false (Bool.not_eq_true _ ▸ z)
      simp at *
      omega
    ·rw[Bc a2]
     refine qc6 ?_
     walk_at "r"
     exact q2 (λh=>a2 h.2.1) H4 s04
   ·have e1:(us.map λv=>qco 8 v).all id=false:=by
     rw[Bool.eq_false_iff];intro h;rw[Dk] at h;exact a1 λv hv=>h _ (Af.mpr ⟨v,hv,rfl⟩)
    rw[e1];refine qc6 ?_
    walk_at "r"
    exact q2 (λh=>a1 h.1) H3 s03
abbrev RC:=Addr×qar×List Rd3×List (List Nat)
abbrev qa6:=List (List Nat×RC)
structure EdOk (B:qbf) (es:List Int) (ge:Option Int):Prop where
 P:Pr B.ps B.g
 wb:∀ p∈B.ps,p.2<=10 ^ 35
 E:EdS (es.map V.int ++ [gv ge]) es ge
 F:Fall (B.ps.map (·.2)) es ge
 dom:List.zipWith gE (eV B.ps B.g B.day) (es.map V.int ++ [gv ge])=es.map V.int ++ [gv ge]
 hd:Bd B.day
structure RB (CR R:Addr) (H:Hp) (B:qbf) (es:List Int) (ge:Option Int) (e:RC):Prop where
 ex:∃ LY LZ,R63 CR R H e.1 e.2.1 B.ps B.g B.day es ge e.2.2.1 LY LZ
 ru:e.2.1.ru=B.ru
 rl:e.2.1.rl=B.rl
 n50:e.2.2.1.length<=50
structure BkC (C CR R:Addr) (H:Hp) (b:Addr) (B:qbf) (es:List Int) (ge:Option Int) (X:qa6):Prop where
 ob:∃ dx,H b=some (.ins C dx (bof B.ru B.day B.le B.dm B.dr))
 rule:RuleAt R H B.ru B.rl B.ps B.g
 ed:H B.le=some (.lst (es.map V.int ++ [gv ge]))
 ms:∃ kvs,H B.dm=some (.dK kvs)/\Ents (λv (e:RC)=>TxtL H v (qbe e.2.2.2)) kvs X
 rs:∃ kvs,H B.dr=some (.dK kvs)/\Ents (λv e=>v=.ref e.1/\RB CR R H B es ge e) kvs X
 ne:B.dm≠B.dr
 ok:EdOk B es ge
section
variable {C CR R b:Addr} {B:qbf} {es:List Int} {ge:Option Int} {X:qa6} {H H':Hp}
theorem RB.same {e:RC} (h:RB CR R H B es ge e) (s:Same H H'):RB CR R H' B es ge e:=⟨let ⟨a,b,r⟩:=h.ex;⟨a,b,r.same s⟩,h.ru,h.rl,h.n50⟩
theorem BkC.same (h:BkC C CR R H b B es ge X) (s:Same H H'):BkC C CR R H' b B es ge X:=
 ⟨let ⟨dx,e⟩:=h.ob;⟨dx,s _ _ e⟩,h.rule.same s,s _ _ h.ed,let ⟨k,e,r⟩:=h.ms;⟨k,s _ _ e,r.imp λ_ _ q=>q.same s⟩,let ⟨k,e,r⟩:=h.rs;⟨k,s _ _ e,r.imp λ_ _ ⟨e1,e2⟩=>⟨e1,e2.same s⟩⟩,h.ne,h.ok⟩
theorem RB.frame {e:RC} {q:qar} {Y Z:KV} (h:RB CR R H B es ge e) (bu:But2 q.dy q.dh H H') (hy:H q.dy=some (.dT Y)) (hz:H q.dh=some (.dT Z)) (ap:ApartD e.2.1 q):RB CR R H' B es ge e:=
 ⟨let ⟨a,b,r⟩:=h.ex;⟨a,b,{ r with R:=r.R.frame bu hy hz ap.1 ap.2.1 ap.2.2.1 ap.2.2.2 }⟩,h.ru,h.rl,h.n50⟩
theorem TxtL.but2 {v:V} {ms:List (List Nat)} {a c:Addr} {Y Z:KV} (h:TxtL H v ms) (bu:But2 a c H H') (hy:H a=some (.dT Y)) (hz:H c=some (.dT Z)):TxtL H' v ms:=
 let ⟨x,e,q⟩:=h;⟨x,e,bu.keep hy hz q (by intro K z;cases z)⟩
def XOk (X:qa6):Prop:=X.Pairwise λp p'=>p.1≠p'.1/\ApartD p.2.2.1 p'.2.2.1
theorem ApartD.symm {a b:qar} (h:ApartD a b):ApartD b a:=⟨h.1.symm,h.2.2.1.symm,h.2.1.symm,h.2.2.2.symm⟩
theorem XOk.one (h:XOk X) {x:List Nat} {e e':RC} (h1:(x,e)∈X) (h2:(x,e')∈X):e=e':=by
 unfold XOk at h
 induction X with
 | nil=>cases h1
 | cons p X ih =>
  rw[Ca] at h
  rcases Ak.mp h1 with z1|z1<;>rcases Ak.mp h2 with z2|z2
  ·exact (Fj (z1.trans z2.symm)).2
  ·exact absurd (show p.1=x by rw[<- z1]) (h.1 _ z2).1
  ·exact absurd (show p.1=x by rw[<- z2]) (h.1 _ z1).1
  ·exact ih h.2 z1 z2
theorem XOk.apart (h:XOk X) {x y:List Nat} {e e':RC} (h1:(x,e)∈X) (h2:(y,e')∈X) (n:y≠x):ApartD e'.2.1 e.2.1:=by
 unfold XOk at h
 induction X with
 | nil=>cases h1
 | cons p X ih =>
  rw[Ca] at h
  rcases Ak.mp h1 with z1|z1<;>rcases Ak.mp h2 with z2|z2
  ·exact absurd (Fj (z1.trans z2.symm)).1.symm n
  ·have:=(h.1 _ z2).2;rw[<- z1] at this;exact this.symm
  ·have:=(h.1 _ z1).2;rw[<- z2] at this;exact this
  ·exact ih h.2 z1 z2
def qjf (x:List Nat) (r:Rd3) (p:List Nat×RC):List Nat×RC:=if p.1=x then (p.1,p.2.1,p.2.2.1,p.2.2.2.1 ++ [r],p.2.2.2.2) else p
theorem qf2 (x:List Nat) (r:Rd3) (p:List Nat×RC):(qjf x r p).1=p.1:=by unfold qjf;split<;>rfl
theorem qpp (x:List Nat) (r:Rd3) (p:List Nat×RC):(qjf x r p).2.2.1=p.2.2.1:=by unfold qjf;split<;>rfl
theorem qw7 (x:List Nat) (r:Rd3) (p:List Nat×RC):(qjf x r p).2.1=p.2.1:=by unfold qjf;split<;>rfl
theorem qt0 (x:List Nat) (r:Rd3) (p:List Nat×RC):(qjf x r p).2.2.2.2=p.2.2.2.2:=by unfold qjf;split<;>rfl
theorem XOk.add (h:XOk X) (x:List Nat) (r:Rd3):XOk (X.map (qjf x r)):=by
 unfold XOk at h ⊢;rw[CI];exact h.imp fun {p p'} z=>by rw[qf2,qf2,qpp,qpp];exact z
theorem Ents.map2 {α β:Type} {R1:V->α->Prop} {R2:V->β->Prop} {kvs:List (Key×V)} {E:List (List Nat×α)} {f:List Nat×α->List Nat×β} (h:Ents R1 kvs E) (h1:∀ p,(f p).1=p.1) (g:∀ p∈E,∀ v,R1 v p.2->R2 v (f p).2):Ents R2 kvs (E.map f):=by
 unfold Ents at h ⊢
 induction h with
 | nil=>exact .nil
 | cons a t ih=>exact .cons ⟨by rw[h1];exact a.1,g _ Au _ a.2⟩ (ih λp m=>g p (Ap _ m))
theorem BkC.put {x:List Nat} {e:RC} {r:Rd3} {Y Z:KV} (h:BkC C CR R H b B es ge X) (ok:XOk X) (hx:(x,e)∈X) (bu:But2 e.2.1.dy e.2.1.dh H H') (hy:H e.2.1.dy=some (.dT Y)) (hz:H e.2.1.dh=some (.dT Z)) (R':RB CR R H' B es ge (e.1,e.2.1,e.2.2.1 ++ [r],e.2.2.2)):BkC C CR R H' b B es ge (X.map (qjf x r)):=by
 refine ⟨let ⟨dx,e⟩:=h.ob;⟨dx,bu.keep hy hz e (by intro K z;cases z)⟩,h.rule.keep2 bu hy hz,bu.keep hy hz h.ed (by intro K z;cases z),?_,?_,h.ne,h.ok⟩
 ·obtain ⟨k,e1,q⟩:=h.ms
  exact ⟨k,bu.keep hy hz e1 (by intro K z;cases z),q.map2 (qf2 x r) λp _ v z=>by rw[qt0];exact z.but2 bu hy hz⟩
 ·obtain ⟨k,e1,q⟩:=h.rs
  refine ⟨k,bu.keep hy hz e1 (by intro K z;cases z),q.map2 (qf2 x r) λp hp v z=>⟨by rw[qw7];exact z.1,?_⟩⟩
  by_cases n:p.1=x
  ·have ep:p.2=e:=ok.one (x:=x) (by rw[<- n];exact hp) hx
   unfold qjf;rw[Al n,ep];exact R'
  ·unfold qjf
   rw[Ah n];exact z.2.frame bu hy hz (ok.apart hx (y:=p.1) hp n)
end
theorem qqx (es:List Int) (ge:Option Int):Later es es ge ge where
 len:=rfl
 up:=λi x y hx hy=>by rw[hx] at hy;cases hy;exact CS _
 gn:=λz hz=>⟨z,hz,CS _⟩
theorem EdOk.up {B:qbf} {es:List Int} {ge:Option Int} (h:EdOk B es ge):qzl B.ps B.g B.day (es.map V.int ++ [gv ge]) es ge es ge:=
 ⟨by rw[h.dom];exact h.E,h.F,qqx _ _,h.dom,h.dom,h.E⟩
theorem EdOk.of {ru rl le dm dr:Addr} {ps:List (Int×Int)} {g:Option Int} {day:Int} (P:Pr ps g) (wb:∀ p∈ps,p.2<=10 ^ 35) (hd:Bd day):EdOk ⟨ru,rl,le,dm,dr,ps,g,day⟩ (ps.map λp=>cut day p.1 p.2) (g.map λz=>cut day z (lw ps)):=by
 have Ex:=EdS.of P hd;have Ex':=Ex;rw[Ex.eq] at Ex';refine ⟨P,wb,Ex',Fall.of P day,?_,hd⟩
 show List.zipWith gE (eV ps g day) _=_
 rw[<- Ex.eq];exact qpo Ex.ed
inductive qmx (C CR R:Addr) (vs:List V) (H:Hp) (Q:VK) (E_:XK):Prop
 | mk:∀ (b dx ru rl:Addr) (ps:List (Int×Int)) (g:Option Int) (day:Int),vs=[.ref b,.ref ru,.int day]->H b=some (.ins C dx [])->RuleAt R H ru rl ps g->Pr ps g->(∀ p∈ps,p.2<=10 ^ 35)->Bd day->(∀ le dm dr H',BkC C CR R H' b ⟨ru,rl,le,dm,dr,ps,g,day⟩ (ps.map λp=>cut day p.1 p.2) (g.map λz=>cut day z (lw ps)) []->H le=none->H dm=none->H dr=none->But b H H'->Q .non H')->qmx C CR R vs H Q E_
include T in
theorem qpq:qC4 P w K mg base C_Book 4 "Book" ["self", "rule", "day"] [] (qmx C_Book C_Roll C_Rule):=by
 obtain ⟨f,fd,F,M⟩:=T.f_Book_init;have nd:=sc_Book_init.nd;refine ⟨f,fd,(F.ok sc_Book_init (λvs H Q E h=>?_) (λcdv A outer s H vs Q E hr h=>?_)),T.mg_Book,M,(F.binds λ_ _ _ _ _ _ us hl=>by obtain ⟨_,_,_,rfl⟩:=L2.lq3 hl;rfl)⟩
 ·obtain ⟨ro,dx,ru,rl,ps,g,day,rfl,_⟩:=h;rfl
 ·obtain ⟨ro,dx,ru,rl,ps,g,day,rfl,hro,R,Pg,wb,hd,q⟩:=h
  obtain ⟨dx2,hru⟩:=R.ob;have nru:ru≠ro:=qaq hru hro (by intro z;injection z with _ _ z;have:=qs7 rl (gv g);rw[z] at this;cases this);refine ⟨_,(jB5 (qb9 (pv 0) (pv 1) rfl) (qb9 (pv 0) (pv 2) rfl) (qb9 (pv 0) (jF (qj2 T) hr (jA2 (pv 1) (pv 2))) rfl) (qb9 (pv 0) qlt rfl) (qb9 (pv 0) qlt rfl)),?_⟩;refine ⟨_,rfl,_,rfl,ro,C_Book,dx,[],rfl,hro,T.cl_Book,T.na_Book_kept_rule,(by show 0<1000;decide),λH1 b1 h1=>?_⟩;refine ⟨_,rfl,_,rfl,ro,C_Book,dx,_,rfl,h1,T.cl_Book,T.na_Book_kept_day,(by show 1<1000;decide),λH2 b2 h2=>?_⟩;have R2:=(R.but2 b1 hro qc9 (by intro xs z;cases z) nru).but2 b2 h1 qc9 (by intro xs z;cases z) nru;refine ⟨_,rfl,_,rfl,ru,rl,ps,g,day,rfl,R2,Pg,hd,λle H3 n3=>?_⟩;refine ⟨_,rfl,ro,C_Book,dx,_,rfl,n3.same _ _ h2,T.cl_Book,T.na_Book_kept_edges,(by show 2<1000;decide),λH4 b4 h4=>?_⟩;intro dy H5 n5;refine ⟨_,rfl,ro,C_Book,dx,_,rfl,n5.same _ _ h4,T.cl_Book,T.na_Book_kept_marks,(by show 3<1000;decide),λH6 b6 h6=>?_⟩;intro dh H7 n7;refine ⟨_,rfl,ro,C_Book,dx,_,rfl,n7.same _ _ h6,T.cl_Book,T.na_Book_kept_rolls,(by show 4<1000;decide),λH8 b8 h8=>?_⟩;have R8:=((((R2.same n3.same).but2 b4 (n3.same _ _ h2) qc9 (by intro xs z;cases z) nru).same n5.same |>.but2 b6 (n5.same _ _ h4) qc9 (by intro xs z;cases z) nru).same n7.same).but2 b8 (n7.same _ _ h6) qc9 (by intro xs z;cases z) nru;have bb:But ro H H8:=λb o e hb=>b8 _ _ (n7.same _ _ (b6 _ _ (n5.same _ _ (b4 _ _ (n3.same _ _ (b2 _ _ (b1 _ _ e hb) hb)) hb)) hb)) hb
  have e4:H4 le=some (.lst (eV ps g day)):=b4 _ _ n3.at_ (qaq n3.at_ (n3.same _ _ h2) (by intro z;cases z));have e6:H6 dy=some (.dK []):=b6 _ _ n5.at_ (qaq n5.at_ (n5.same _ _ h4) (by intro z;cases z));have fb:∀ {G G':Hp} {o:HO},(∀ b o,G b=some o->b≠ro->G' b=some o)->G' ro=some o->∀ b,G' b=none->G b=none:=fun {G G' o} k1 k2 b h0=>by
   cases e:G b with
   | none=>rfl
   | some u =>
    by_cases hb:b=ro
    ·subst hb;rw[k2] at h0;cases h0
    ·rw[k1 b u e hb] at h0;cases h0
  have fr2:=fb (G:=H) (G':=H2) (λb o e hb=>b2 _ _ (b1 _ _ e hb) hb) h2;have fr4:=fb (G:=H2) (G':=H4) (λb o e hb=>b4 _ _ (n3.same _ _ e) hb) h4;have fr6:=fb (G:=H4) (G':=H6) (λb o e hb=>b6 _ _ (n5.same _ _ e) hb) h6;refine q le dy dh H8 ⟨⟨dx,h8⟩,R8,?_,⟨[],?_,.nil⟩,⟨[],?_,.nil⟩,qac e6 n7.fresh,EdOk.of Pg wb hd⟩ (fr2 _ n3.fresh) (fr2 _ (fr4 _ n5.fresh)) (fr2 _ (fr4 _ (fr6 _ n7.fresh))) bb
  ·have e8:=b8 _ _ (n7.same _ _ (b6 _ _ (n5.same _ _ e4) (qaq (n5.same _ _ e4) (n5.same _ _ h4) (by intro z;cases z)))) (qaq (n7.same _ _ (b6 _ _ (n5.same _ _ e4) (qaq (n5.same _ _ e4) (n5.same _ _ h4) (by intro z;cases z)))) (n7.same _ _ h6) (by intro z;cases z))
   show H8 le=some (.lst (((ps.map λp=>cut day p.1 p.2).map V.int) ++ [gv (g.map λz=>cut day z (lw ps))]))
   rw[<- (EdS.of Pg hd).eq];exact e8
  ·exact b8 _ _ (n7.same _ _ e6) (qaq (n7.same _ _ e6) (n7.same _ _ h6) (by intro z;cases z))
  ·exact b8 _ _ n7.at_ (qaq n7.at_ (n7.same _ _ h6) (by intro z;cases z))
inductive qj6 (C CR R:Addr) (vs:List V) (H:Hp) (Q:VK) (E_:XK):Prop
 | mk:∀ (b:Addr) (B:qbf) (es:List Int) (ge:Option Int) (X:qa6),vs=[.ref b]->BkC C CR R H b B es ge X->X.length<64->(∀ l H',New H H' l (.lst ((qbe (X.map (·.1))).map tS))->Q (.ref l) H')->qj6 C CR R vs H Q E_
include T in
theorem qde:qez P w K mg base C_Book 1 "names" ["self"] (qj6 C_Book C_Roll C_Rule):=by
 obtain ⟨f,fd,F,hm⟩:=T.f_Book_names;have nd:=sc_Book_names.nd;refine ⟨f,fd,(F.ok sc_Book_names (λvs H Q E h=>?_) (λcdv A outer s H vs Q E hr h=>?_)),hm,(F.binds λ_ _ _ _ _ _ us hl=>by obtain ⟨_,rfl⟩:=L2.lq1 hl;rfl)⟩
 ·obtain ⟨b,B,es,ge,X,rfl,_⟩:=h;rfl
 ·obtain ⟨b,B,es,ge,X,rfl,A',hz,q⟩:=h
  obtain ⟨dx,hob⟩:=A'.ob;obtain ⟨kvs,hk,en⟩:=A'.rs;refine ⟨_,(qad (qah (qal (qjk rfl) rfl T.b_sorted qed (jA1 (qa7 (pv 0) rfl))))),?_⟩;exact ⟨_,rfl,b,C_Book,dx,_,_,rfl,hob,T.cl_Book,T.na_Book_kept_rolls,qmd _ _ _ _ _,B.dr,kvs,X.map (·.1),rfl,.inl hk,en.keys,by simpa using hz,q⟩
inductive qmy (C CR R:Addr) (vs:List V) (H:Hp) (Q:VK) (E_:XK):Prop
 | mk:∀ (b:Addr) (B:qbf) (es:List Int) (ge:Option Int) (X:qa6),vs=[.ref b]->BkC C CR R H b B es ge X->Q (.ref B.ru) H->qmy C CR R vs H Q E_
inductive qpr (C CR R:Addr) (vs:List V) (H:Hp) (Q:VK) (E_:XK):Prop
 | mk:∀ (b:Addr) (B:qbf) (es:List Int) (ge:Option Int) (X:qa6),vs=[.ref b]->BkC C CR R H b B es ge X->Q (.int B.day) H->qpr C CR R vs H Q E_
inductive qj7 (C CR R:Addr) (vs:List V) (H:Hp) (Q:VK) (E_:XK):Prop
 | mk:∀ (b:Addr) (B:qbf) (es:List Int) (ge:Option Int) (X:qa6),vs=[.ref b]->BkC C CR R H b B es ge X->(∀ p H',New H H' p (.lst (es.map V.int ++ [gv ge]))->Q (.ref p) H')->qj7 C CR R vs H Q E_
include T in
theorem qfj:qez P w K mg base C_Book 1 "rule" ["self"] (qmy C_Book C_Roll C_Rule):=by
 obtain ⟨f,fd,F,hm⟩:=T.f_Book_rule;have nd:=sc_Book_rule.nd;refine ⟨f,fd,(F.ok sc_Book_rule (λvs H Q E h=>?_) (λcdv A outer s H vs Q E hr h=>?_)),hm,(F.binds λ_ _ _ _ _ _ us hl=>by obtain ⟨_,rfl⟩:=L2.lq1 hl;rfl)⟩
 ·obtain ⟨b,B,es,ge,X,rfl,_⟩:=h;rfl
 ·obtain ⟨b,B,es,ge,X,rfl,A',q⟩:=h
  obtain ⟨dx,hob⟩:=A'.ob;refine ⟨_,(qad (qah (qa7 (pv 0) rfl))),?_⟩;exact ⟨_,rfl,b,C_Book,dx,_,_,rfl,hob,T.cl_Book,T.na_Book_kept_rule,qw2 _ _ _ _ _,q⟩
include T in
theorem qj8:qez P w K mg base C_Book 1 "day" ["self"] (qpr C_Book C_Roll C_Rule):=by
 obtain ⟨f,fd,F,hm⟩:=T.f_Book_day;have nd:=sc_Book_day.nd;refine ⟨f,fd,(F.ok sc_Book_day (λvs H Q E h=>?_) (λcdv A outer s H vs Q E hr h=>?_)),hm,(F.binds λ_ _ _ _ _ _ us hl=>by obtain ⟨_,rfl⟩:=L2.lq1 hl;rfl)⟩
 ·obtain ⟨b,B,es,ge,X,rfl,_⟩:=h;rfl
 ·obtain ⟨b,B,es,ge,X,rfl,A',q⟩:=h
  obtain ⟨dx,hob⟩:=A'.ob;refine ⟨_,(qad (qah (qa7 (pv 0) rfl))),?_⟩;exact ⟨_,rfl,b,C_Book,dx,_,_,rfl,hob,T.cl_Book,T.na_Book_kept_day,qto _ _ _ _ _,q⟩
include T in
theorem qes:qez P w K mg base C_Book 1 "edges" ["self"] (qj7 C_Book C_Roll C_Rule):=by
 obtain ⟨f,fd,F,hm⟩:=T.f_Book_edges;have nd:=sc_Book_edges.nd;refine ⟨f,fd,(F.ok sc_Book_edges (λvs H Q E h=>?_) (λcdv A outer s H vs Q E hr h=>?_)),hm,(F.binds λ_ _ _ _ _ _ us hl=>by obtain ⟨_,rfl⟩:=L2.lq1 hl;rfl)⟩
 ·obtain ⟨b,B,es,ge,X,rfl,_⟩:=h;rfl
 ·obtain ⟨b,B,es,ge,X,rfl,A',q⟩:=h
  obtain ⟨dx,hob⟩:=A'.ob;refine ⟨_,(qad (qah (qbd qbc rfl T.b_list qce (jA1 (qa7 (pv 0) rfl))))),?_⟩;exact ⟨_,rfl,b,C_Book,dx,_,_,rfl,hob,T.cl_Book,T.na_Book_kept_edges,qtp _ _ _ _ _,B.le,_,rfl,.inl (SqL.of A'.ed),q⟩
def qhg (X:qa6) (v:V):Prop:=∃ x,v=tS x/\qax 12 x/\x∈X.map (·.1)
inductive qj9 (C CR R N:Addr) (vs:List V) (H:Hp) (Q:VK) (E:XK):Prop
 | mk:∀ (b:Addr) (B:qbf) (es:List Int) (ge:Option Int) (X:qa6) (v:V),vs=[.ref b,v]->BkC C CR R H b B es ge X->TextV H v->(qhg X v->∀ H',Same H H'->Q .non H')->(¬ qhg X v->∀ H',Same H H'->E (.ref N) none H')->qj9 C CR R N vs H Q E
include T in
theorem qcp:qvb P w K mg base C_Book 3 "check_enrolled" ["self", "name"] [] (qj9 C_Book C_Roll C_Rule C_NoName):=by
 obtain ⟨f,fd,F,hm⟩:=T.f_Book_check_enrolled;have nd:=sc_Book_check_enrolled.nd;refine ⟨f,fd,(F.okX sc_Book_check_enrolled (λvs H Q E h=>?_) (λcdv A outer s H vs Q E hr h=>?_)),hm,(F.binds λ_ _ _ _ _ _ us hl=>by obtain ⟨_,_,rfl⟩:=L2.lq2 hl;rfl)⟩
 ·obtain ⟨b,B,es,ge,X,v,rfl,_⟩:=h;rfl
 ·obtain ⟨b,B,es,ge,X,v,rfl,A',hv,q1,q2⟩:=h
  obtain ⟨dx,hob⟩:=A'.ob;obtain ⟨kvs,hk,en⟩:=A'.rs;refine ⟨_,(qad (qa2 (PW.pt (qhb (qcz (qct (jF (qmv T) hr (jA1 (pv 1))))) (qe0 (qrb (qry (qfo hr) (pv 1) (qa7 (pv 0) rfl)))))) (qad (qc7 (qay ⟨rfl,rfl,rfl⟩) rfl T.ex_NoName rfl T.mg_NoName (jA1 qbr))) qak)),?_⟩;refine ⟨_,rfl,v,rfl,hv,λH1 s1=>⟨_,rfl,?_⟩⟩
  cases hs:qco 12 v with
  | false =>
   refine qc6 ?_
   walk_at "r"
   refine q2 (fun ⟨x,e,hx,_⟩=>?_) H1 s1;rw[small_iff.mpr ⟨x,e,hx⟩] at hs;cases hs
  | true =>
   refine qds ?_;obtain ⟨x,rfl,hx⟩:=small_iff.mp hs;refine ⟨_,rfl,_,rfl,b,C_Book,dx,_,_,rfl,s1 _ _ hob,T.cl_Book,T.na_Book_kept_rolls,qmd _ _ _ _ _,B.dr,_,rfl,DGet.k (k:=kS x) (s1 _ _ hk),_,rfl,?_⟩
   by_cases hin:x∈X.map (·.1)
   ·obtain ⟨u,a,e1,_,_⟩:=en.has hin
    rw[e1];refine qds ?_;exact q1 ⟨x,rfl,hx,hin⟩ H1 s1
   ·rw[en.hasn hin]
    refine qc6 ?_
    walk_at "r"
    refine q2 (fun ⟨y,e,_,hy⟩=>hin ?_) H1 s1;rw[qbt e];exact hy
inductive qps (C CR R N:Addr) (vs:List V) (H:Hp) (Q:VK) (E:XK):Prop
 | mk:∀ (b:Addr) (B:qbf) (es:List Int) (ge:Option Int) (X:qa6) (v:V),vs=[.ref b,v]->BkC C CR R H b B es ge X->TextV H v->(∀ x e,v=tS x->qax 12 x->(x,e)∈X->RB CR R H B es ge e->∀ H',Same H H'->Q (.ref e.1) H')->(¬ qhg X v->∀ H',Same H H'->E (.ref N) none H')->qps C CR R N vs H Q E
include T in
theorem qbu:qvb P w K mg base C_Book 4 "own_roll" ["self", "name"] [] (qps C_Book C_Roll C_Rule C_NoName):=by
 obtain ⟨f,fd,F,hm⟩:=T.f_Book_own_roll;have nd:=sc_Book_own_roll.nd;refine ⟨f,fd,(F.okX sc_Book_own_roll (λvs H Q E h=>?_) (λcdv A outer s H vs Q E hr h=>?_)),hm,(F.binds λ_ _ _ _ _ _ us hl=>by obtain ⟨_,_,rfl⟩:=L2.lq2 hl;rfl)⟩
 ·obtain ⟨b,B,es,ge,X,v,rfl,_⟩:=h;rfl
 ·obtain ⟨b,B,es,ge,X,v,rfl,A',hv,q1,q2⟩:=h
  obtain ⟨dx,hob⟩:=A'.ob;refine ⟨_,(jB2 (qat (qb0 (qay ⟨rfl,rfl,rfl⟩) (pv 0) T.cl_Book (qcp T) (hr.mono (by decide)) .nil (jA1 (pv 1)))) (qah (qhs (qfo hr) (qa7 (pv 0) rfl) (pv 1) (λ_ _=>rfl)))),?_⟩;refine ⟨_,rfl,b,dx,_,rfl,hob,qdn _ _ _ _ _ (by decide +kernel) (by decide +kernel) (by decide +kernel) (by decide +kernel) (by decide +kernel),_,rfl,b,B,es,ge,X,v,rfl,A',hv,λhin H1 s1=>?_,λhn H1 s1=>q2 hn H1 s1⟩;obtain ⟨x,rfl,hx,hxE⟩:=hin;obtain ⟨kvs,hk,en⟩:=A'.rs;obtain ⟨u,a,e1,e2,rfl,re⟩:=en.has hxE;have g:=DGet.k (k:=kS x) (s1 _ _ hk);rw[e1] at g;exact ⟨_,rfl,b,C_Book,dx,_,_,rfl,s1 _ _ hob,T.cl_Book,T.na_Book_kept_rolls,qmd _ _ _ _ _,_,rfl,B.dr,_,rfl,g,q1 x a rfl hx e2 re H1 s1⟩
inductive qmz (C CR R N:Addr) (vs:List V) (H:Hp) (Q:VK) (E:XK):Prop
 | mk:∀ (b:Addr) (B:qbf) (es:List Int) (ge:Option Int) (X:qa6) (v:V),vs=[.ref b,v]->BkC C CR R H b B es ge X->TextV H v->(∀ x e,v=tS x->qax 12 x->(x,e)∈X->∀ r' q' LY' LZ' H',Same H H'->R63 CR R H' r' q' B.ps B.g B.day es ge e.2.2.1 LY' LZ'->(H q'.dy=none/\H q'.dh=none)->(q'.ru=B.ru/\q'.rl=B.rl/\H q'.le=none)->Q (.ref r') H')->(¬ qhg X v->∀ H',Same H H'->E (.ref N) none H')->qmz C CR R N vs H Q E
include T in
theorem qn3:qvb P w K mg base C_Book 8 "roll" ["self", "name"] [] (qmz C_Book C_Roll C_Rule C_NoName):=by
 obtain ⟨f,fd,F,hm⟩:=T.f_Book_roll;have nd:=sc_Book_roll.nd;refine ⟨f,fd,(F.okX sc_Book_roll (λvs H Q E h=>?_) (λcdv A outer s H vs Q E hr h=>?_)),hm,(F.binds λ_ _ _ _ _ _ us hl=>by obtain ⟨_,_,rfl⟩:=L2.lq2 hl;rfl)⟩
 ·obtain ⟨b,B,es,ge,X,v,rfl,_⟩:=h;rfl
 ·obtain ⟨b,B,es,ge,X,v,rfl,A',hv,q1,q2⟩:=h
  obtain ⟨dx,hob⟩:=A'.ob;refine ⟨_,(qad (qah (jF (qBw T) hr (jA2 (qb0 (qay ⟨rfl,rfl,rfl⟩) (pv 0) T.cl_Book (qbu T) (hr.mono (by decide)) .nil (jA1 (pv 1))) (qa7 (pv 0) rfl))))),?_⟩;refine ⟨_,rfl,b,dx,_,rfl,hob,qdn _ _ _ _ _ (by decide +kernel) (by decide +kernel) (by decide +kernel) (by decide +kernel) (by decide +kernel),_,rfl,b,B,es,ge,X,v,rfl,A',hv,λx e ev hx hm re H1 s1=>?_,λhn H1 s1=>q2 hn H1 s1⟩;obtain ⟨LY,LZ,r⟩:=re.ex;refine ⟨_,rfl,b,C_Book,dx,_,_,rfl,s1 _ _ hob,T.cl_Book,T.na_Book_kept_day,qto _ _ _ _ _,?_⟩;simp only[qf6,AV,AX,AN];refine (r.same s1).aged re.n50 A'.ok.hd (CS _) A'.ok.up λr' q' LY' LZ' H2 s2 R2 f2 w2=>?_
  exact q1 x e ev hx hm r' q' LY' LZ' H2 (s1.trans s2) R2 ⟨s1.free f2.1,s1.free f2.2⟩ ⟨by rw[w2.1,re.ru],by rw[w2.2.1,re.rl],s1.free w2.2.2⟩
inductive qk8 (C CR R N M:Addr) (vs:List V) (H:Hp) (Q:VK) (E:XK):Prop
 | mk:∀ (b:Addr) (B:qbf) (es:List Int) (ge:Option Int) (X:qa6) (v:V) (t va m:Int),vs=[.ref b,v,.int t,.int va,.int m]->BkC C CR R H b B es ge X->TextV H v->qnw t->(1<=m->RLt (t,va,m))->(∀ x e,(x,e)∈X->e.2.2.1.length<50)->(¬ qhg X v->∀ H',Same H H'->E (.ref N) none H')->(∀ x e,v=tS x->qax 12 x->(x,e)∈X->m<1->∀ H',Same H H'->E (.ref M) none H')->(∀ x e,v=tS x->qax 12 x->(x,e)∈X->1<=m->∀ H',But2 e.2.1.dy e.2.1.dh H H'->RB CR R H' B es ge (e.1,e.2.1,e.2.2.1 ++ [(t,va,m)],e.2.2.2)->Q (.bl (qca (B.ps.map (·.2)) es ge t).isSome) H')->qk8 C CR R N M vs H Q E
include T in
theorem qqy:∃ f fd dT o n t,qf7 P w K mg base (CX1 P w) 5 f fd ["self", "name", "time", "value", "many"] (qk8 C_Book C_Roll C_Rule C_NoName C_NoNumber)/\FunD K "put" "Book.put" qgi (.ref dT) f fd/\qrn K C_Book "put" f/\fd.defaults=.ref dT/\K.lookup dT=some o/\o.data=.seq #[.int 1 t] n:=by
 obtain ⟨f,fd,dT,o,n,t,F,M,h1,h2,h3⟩:=T.f_Book_put;have nd:=sc_Book_put.nd;refine ⟨f,fd,dT,o,n,t,(F.okX sc_Book_put (λvs H Q E h=>?_) (λcdv A outer s H vs Q E hr h=>?_)),F,M,h1,h2,h3⟩
 ·obtain ⟨b,B,es,ge,X,v,t,va,m,rfl,_⟩:=h;rfl
 ·obtain ⟨b,B,es,ge,X,v,t,va,m,rfl,A',hv,ht,hrl,h50,q1,q2,q3⟩:=h
  obtain ⟨dx,hob⟩:=A'.ob;refine ⟨_,(qad (qah (qb0 (qay ⟨rfl,rfl,rfl⟩) (qb0 (qay ⟨rfl,rfl,rfl⟩) (pv 0) T.cl_Book (qbu T) (hr.mono (by decide)) .nil (jA1 (pv 1))) T.cl_Roll (qeo T) (hr.mono (by decide)) .nil (jA3 (pv 2) (pv 3) (pv 4))))),?_⟩;refine ⟨_,rfl,b,dx,_,rfl,hob,qdn _ _ _ _ _ (by decide +kernel) (by decide +kernel) (by decide +kernel) (by decide +kernel) (by decide +kernel),_,rfl,b,B,es,ge,X,v,rfl,A',hv,λx e ev hx hm re H1 s1=>?_,λhn H1 s1=>q1 hn H1 s1⟩;obtain ⟨LY,LZ,r⟩:=re.ex;have r1:=r.same s1;obtain ⟨dx1,hob1⟩:=r1.R.obj;have l1:=r1.ly;have l2:=r1.lz;have l5:=h50 x e hm;refine ⟨e.1,dx1,_,rfl,hob1,qkw _ _ _ _ _,_,rfl,_,rfl,_,rfl,?_⟩;simp only[qf6,AV,AX,AN]
  by_cases hm1:1<=m
  ·refine r1.put (t:=(t,va,m)) l5 (hrl hm1) λH2 R2 b2=>?_
   exact q3 x e ev hx hm hm1 H2 (λc o z n1 n2=>b2 _ _ (s1 _ _ z) n1 n2) ⟨⟨_,_,R2⟩,re.ru,re.rl,by show (e.2.2.1 ++ [_]).length<=50;rw[Aq,Bm];omega⟩
  ·exact r1.R.putN r1.ok ht (by omega) (by omega) (by omega) (q2 x e ev hx hm (by omega) H1 s1)
include T in
theorem qg8:qvb P w K mg base C_Book 5 "put" ["self", "name", "time", "value", "many"] [] (qk8 C_Book C_Roll C_Rule C_NoName C_NoNumber):=by
 obtain ⟨f,fd,dT,o,n,t,hf,F,M,h1,h2,h3⟩:=qqy (P:=P) (w:=w) (base:=base) T;refine ⟨f,fd,hf,M,qga h1 h2 h3 λus hl=>?_⟩;obtain ⟨oc,od,kV,doc,pm,an,cdv,ct,osl,rfl,lk,hcd⟩:=F.ex;obtain ⟨_,_,_,_,_,rfl⟩:=L2.lq5 (us:=us) (by simpa using hl);exact ⟨_,rfl,rfl⟩
def rmS (H:Hp) (L:List Addr):Hp:=λc=>if c∈L then none else H c
section
variable {H H':Hp} {L:List Addr}
theorem qcw {c:Addr} {o:HO} (h:H c=some o) (n:c ∉ L):rmS H L c=some o:=by unfold rmS;rw[Ah n];exact h
theorem qet {c:Addr} {o:HO} (h:rmS H L c=some o):H c=some o/\c ∉ L:=by
 unfold rmS at h
 split at h
 ·cases h
 ·rename_i n;exact ⟨h,n⟩
theorem qzm:Same (rmS H L) H:=λc o e=>(qet e).1
theorem qpt (s:Same H H'):Same (rmS H L) (rmS H' L):=λc o e=>qcw (s _ _ (qet e).1) (qet e).2
theorem qt1 {d:Addr} (b:But d H H'):But d (rmS H L) (rmS H' L):=λc o e n=>qcw (b _ _ (qet e).1 n) (qet e).2
end
def LsL (H:Hp) (L:List Addr):Prop:=∀ l∈L,∃ zs,H l=some (.lst zs)
theorem LsL.no {H:Hp} {L:List Addr} (h:LsL H L) {c:Addr} {o:HO} (e:H c=some o) (n:∀ zs,o≠.lst zs):c ∉ L:=λz=>by
 obtain ⟨zs,q⟩:=h c z;rw[q] at e;exact n zs (AJ e).symm
theorem LsL.same {H H':Hp} {L:List Addr} (h:LsL H L) (s:Same H H'):LsL H' L:=λl hl=>let ⟨zs,e⟩:=h l hl;⟨zs,s _ _ e⟩
section
variable {H:Hp} {L:List Addr}
theorem Pairs.rmS (hL:LsL H L):∀ {xs:List V} {ps:List (Int×Int)},Pairs H xs ps->Pairs (TB.rmS H L) xs ps
 | _,_,.nil=>.nil
 | _,_,.cons ⟨a,e,q⟩ t=>.cons ⟨a,e,qcw q (hL.no q (by intro zs z;cases z))⟩ (Pairs.rmS hL t)
theorem RuleAt.rmS {R r l:Addr} {ps:List (Int×Int)} {g:Option Int} (hL:LsL H L) (h:RuleAt R H r l ps g) (n:l ∉ L):RuleAt R (TB.rmS H L) r l ps g:=
 ⟨let ⟨dx,e⟩:=h.ob;⟨dx,qcw e (hL.no e (by intro zs z;cases z))⟩,let ⟨xs,e,p⟩:=h.ls;⟨xs,qcw e n,Pairs.rmS hL p⟩⟩
theorem RR.rmS {C R ro:Addr} {c:qar} {s:Abs} {LY LZ:List (List Int)} (hL:LsL H L) (h:RR C R H ro c s LY LZ) (n1:c.le ∉ L) (n2:c.rl ∉ L):RR C R (TB.rmS H L) ro c s LY LZ:=by
 obtain ⟨Y,Z,A,Bs⟩:=h;obtain ⟨dx,e⟩:=A.ob;refine ⟨Y,Z,⟨⟨dx,qcw e (hL.no e (by intro zs z;cases z))⟩,A.rule.rmS hL n2,qcw A.ed n1,qcw A.yo (hL.no A.yo (by intro zs z;cases z)),qcw A.he (hL.no A.he (by intro zs z;cases z)),A.ne⟩,⟨Bs.yv,Bs.yk,Bs.zn,λk x q=>(Bs.zs k x q).imp λ_ z=>⟨z.1,qcw z.2 (hL.no z.2 (by intro zs y;cases y))⟩,Bs.zk⟩⟩
theorem RB.rmS {CR R:Addr} {B:qbf} {es:List Int} {ge:Option Int} {e:RC} (hL:LsL H L) (h:RB CR R H B es ge e) (n1:e.2.1.le ∉ L) (n2:e.2.1.rl ∉ L):RB CR R (TB.rmS H L) B es ge e:=
 ⟨let ⟨a,b,r⟩:=h.ex;⟨a,b,{ r with R:=r.R.rmS hL n1 n2 }⟩,h.ru,h.rl,h.n50⟩
end
theorem Ents.mem {α:Type} {R1:V->α->Prop} {kvs:List (Key×V)} {E:List (List Nat×α)} {x:List Nat} {a:α} (h:Ents R1 kvs E) (hx:(x,a)∈E):∃ v,R1 v a:=by
 unfold Ents at h
 induction h with
 | nil=>cases hx
 | cons b t ih =>
  rcases Ak.mp hx with z|z
  ·rw[<- z] at b;exact ⟨_,b.2⟩
  ·exact ih z
section
variable {C CR R b:Addr} {B:qbf} {es:List Int} {ge:Option Int} {X:qa6} {H H':Hp} {L:List Addr}
theorem BkC.dicts (h:BkC C CR R H b B es ge X) {x:List Nat} {e:RC} (hx:(x,e)∈X):(∃ Y,H e.2.1.dy=some (.dT Y))/\∃ Z,H e.2.1.dh=some (.dT Z):=by
 obtain ⟨k,_,q⟩:=h.rs;obtain ⟨v,_,re⟩:=q.mem hx;obtain ⟨_,_,r⟩:=re.ex;exact r.R.dicts
theorem R63.begun {ro:Addr} {c:qar} (A:RollAt CR R H ro c) (ok:EdOk B es ge) (e1:c.ps=B.ps) (e2:c.g=B.g) (e3:c.day=B.day) (eY:c.Y=[]) (eZ:c.Z=[]) (Ec:EdS (List.zipWith gE (eV B.ps B.g B.day) (es.map V.int ++ [gv ge])) c.es c.ge) (hcl:c.es.length=B.ps.length):R63 CR R H ro c B.ps B.g B.day es ge [] [] []:=by
 have ec:{ c with Y:=[],Z:=[] }=c:=by
  cases c;simp only at eY eZ;rw[eY,eZ]
 rw[ok.dom] at Ec;obtain ⟨z1,z2⟩:=EdS.uniq Ec ok.E;exact ⟨⟨[],[],by rw[ec];exact A,RAbs.zero rfl rfl⟩,⟨by rw[e1,e2];exact ok.P,by rw[hcl,e1]⟩,e1,e2,e3,z1,z2,ok.P,ok.wb,ok.E,ok.F,ok.dom,ok.hd,(by intro r h;cases h),Ag _,Ag _⟩
end
theorem RuleAt.butK {C:Addr} {H H':Hp} {r l a:Addr} {ps:List (Int×Int)} {g:Option Int} {kvs:List (Key×V)} (h:RuleAt C H r l ps g) (b:But a H H') (ha:H a=some (.dK kvs)):RuleAt C H' r l ps g:=
 h.but2 b ha (by intro xs z;cases z) (by intro xs z;cases z) (by obtain ⟨dx,e⟩:=h.ob;exact qaq e ha (by intro z;cases z))
theorem TxtL.butK {H H':Hp} {a:Addr} {kvs:List (Key×V)} {v:V} {ms:List (List Nat)} (h:TxtL H v ms) (b:But a H H') (ha:H a=some (.dK kvs)):TxtL H' v ms:=
 let ⟨c,e,q⟩:=h;⟨c,e,b _ _ q (qaq q ha (by intro z;cases z))⟩
theorem RR.butK {C R ro a:Addr} {H H':Hp} {c:qar} {s:Abs} {LY LZ:List (List Int)} {kvs:List (Key×V)} (h:RR C R H ro c s LY LZ) (b:But a H H') (ha:H a=some (.dK kvs)):RR C R H' ro c s LY LZ:=by
 obtain ⟨Y,Z,A,Bs⟩:=h;obtain ⟨dx,e⟩:=A.ob;exact ⟨Y,Z,⟨⟨dx,b _ _ e (qaq e ha (by intro z;cases z))⟩,A.rule.butK b ha,b _ _ A.ed (qaq A.ed ha (by intro z;cases z)),b _ _ A.yo (qaq A.yo ha (by intro z;cases z)),b _ _ A.he (qaq A.he ha (by intro z;cases z)),A.ne⟩,Bs.tups λx xs e=>b _ _ e (qaq e ha (by intro z;cases z))⟩
theorem RB.butK {CR R a:Addr} {H H':Hp} {B:qbf} {es:List Int} {ge:Option Int} {e:RC} {kvs:List (Key×V)} (h:RB CR R H B es ge e) (b:But a H H') (ha:H a=some (.dK kvs)):RB CR R H' B es ge e:=
 ⟨let ⟨x,y,r⟩:=h.ex;⟨x,y,{ r with R:=r.R.butK b ha }⟩,h.ru,h.rl,h.n50⟩
theorem qm0 {C CR R:Addr} {G4 G5 G6 G7:Hp} {b l2 ro:Addr} {B:qbf} {es:List Int} {ge:Option Int} {X:qa6} {c:qar} {x:List Nat} {ms:List (List Nat)} {km kr:List (Key×V)} (A4:BkC C CR R G4 b B es ge X) (hin:x ∉ X.map (·.1)) (hkm:G4 B.dm=some (.dK km)) (hkr:G4 B.dr=some (.dK kr)) (b5:But B.dm G4 G5) (d5:G5 B.dm=some (.dK (putK km (kS x) (.ref l2)))) (s6:Same G5 G6)
  (b7:But B.dr G6 G7) (d7:G7 B.dr=some (.dK (putK kr (kS x) (.ref ro)))) (tl:TxtL G4 (.ref l2) (qbe ms)) (re:RB CR R G6 B es ge (ro,c,[],ms)):BkC C CR R G7 b B es ge (X ++ [(x,(ro,c,[],ms))]):=by
 obtain ⟨dx,hob⟩:=A4.ob;obtain ⟨km',hkm',enm⟩:=A4.ms;obtain ⟨kr',hkr',enr⟩:=A4.rs;rw[hkm] at hkm'
 cases hkm'
 rw[hkr] at hkr'
 cases hkr'
 have hkr6:=s6 _ _ (b5 _ _ hkr (λz=>A4.ne z.symm));have hob6:=s6 _ _ (b5 _ _ hob (qaq hob hkm (by intro z;cases z)));refine ⟨⟨dx,b7 _ _ hob6 (qaq hob6 hkr6 (by intro z;cases z))⟩,((A4.rule.butK b5 hkm).same s6).butK b7 hkr6,?_,⟨_,b7 _ _ (s6 _ _ d5) A4.ne,(enm.put hin (a:=(ro,c,[],ms)) tl).imp λv e q=>((q.butK b5 hkm).same s6).butK b7 hkr6⟩,⟨_,d7,?_⟩,A4.ne,A4.ok⟩
 ·have e:=s6 _ _ (b5 _ _ A4.ed (qaq A4.ed hkm (by intro z;cases z)))
  exact b7 _ _ e (qaq e hkr6 (by intro z;cases z))
 ·have en6:Ents (λv (e:RC)=>v=.ref e.1/\RB CR R G6 B es ge e) kr X:=enr.imp λv _ ⟨e,q⟩=>⟨e,(q.butK b5 hkm).same s6⟩
  exact (en6.put hin (a:=(ro,c,[],ms)) ⟨rfl,re⟩).imp λv _ ⟨e,q⟩=>⟨e,q.butK b7 hkr6⟩
def MkV (H:Hp) (v:V) (us:List V):Prop:=(v=.non/\us=[])\/∃ l,v=.ref l/\H l=some (.lst us)
theorem qzn {us:List V} {m:V} {σ:St} {H:Hp} {Kt:VK} (hσ:σ[2]?=some (some m)) (hm:MkV H m us) (k:∀ l H2,Same H H2->H2 l=some (.lst us)->Kt (.ref l) H2) :
  tIf (qxk (tOp (λx y H Q=>y=V.non/\Q (V.bl (decide (x=V.non))) H) (qCc 2) (tC V.non))) (qAq qf6) (qCc 2) σ H Kt:=by
 rcases hm with ⟨rfl,rfl⟩|⟨l,rfl,hl⟩
 ·exact ⟨_,hσ,rfl,_,rfl,qc6 ⟨AW _,λl H2 n2=>k l H2 n2.same n2.at_⟩⟩
 ·exact ⟨_,hσ,rfl,_,rfl,qds ⟨_,hσ,k l H (Same.refl _) hl⟩⟩
inductive qi4 (C CR R N M:Addr) (vs:List V) (H:Hp) (Q:VK) (E:XK):Prop
 | mk:∀ (b:Addr) (B:qbf) (es:List Int) (ge:Option Int) (X:qa6) (v m:V) (us:List V),vs=[.ref b,v,m]->BkC C CR R H b B es ge X->TextV H v->MkV H m us->(∀ u∈us,TextV H u)->us.length<=60->X.length<=60->((qco 12 v=false\/qhg X v)->∀ H',Same H H'->E (.ref N) none H')->(¬ (qco 12 v=false\/qhg X v)->¬ qbq us->∀ H',Same H H'->E (.ref M) none H')->(∀ x ms,v=tS x->qax 12 x->x ∉ X.map (·.1)->us=ms.map tS->qbq us->∀ ro c H',But2 B.dm B.dr H H'->H c.dy=none->H c.dh=none->BkC C CR R H' b B es ge (X ++ [(x,(ro,c,[],ms))])->(∀ L,LsL H L->BkC C CR R (rmS H L) b B es ge X->BkC C CR R (rmS H' L) b B es ge (X ++ [(x,(ro,c,[],ms))]))->Q .non H')->qi4 C CR R N M vs H Q E
include T in
theorem qm1:∃ f fd dT o n,qf7 P w K mg base (CX1 P w) 7 f fd ["self", "name", "marks"] (qi4 C_Book C_Roll C_Rule C_NoName C_NoMark)/\FunD K "enrol" "Book.enrol" qel (.ref dT) f fd/\qrn K C_Book "enrol" f/\fd.defaults=.ref dT/\K.lookup dT=some o/\o.data=.seq #[.none] n:=by
 obtain ⟨f,fd,dT,o,n,F,M,h1,h2,h3⟩:=T.f_Book_enrol;have nd:=sc_Book_enrol.nd;refine ⟨f,fd,dT,o,n,(F.okX sc_Book_enrol (λvs H Q E h=>?_) (λcdv A outer s H vs Q E hr h=>?_)),F,M,h1,h2,h3⟩
 ·obtain ⟨b,B,es,ge,X,v,m,us,rfl,_⟩:=h;rfl
 ·obtain ⟨b,B,es,ge,X,v,m,us,rfl,A',hv,hm,hu,hz,hE,q1,q2,q3⟩:=h
  obtain ⟨dx,hob⟩:=A'.ob;obtain ⟨kr,hkr,enr⟩:=A'.rs;refine ⟨_,(jB5 (qa2 (PW.pt (qhb (qcz (qct (jF (qmv T) hr (jA1 (pv 1))))) (qe0 (qrb (qwe (qfo hr) (pv 1) (qa7 (pv 0) rfl)))))) (qad (qc7 (qay ⟨rfl,rfl,rfl⟩) rfl T.ex_NoName rfl T.mg_NoName (jA1 qbr))) qak) (jS 3 nd (qup (jC qea (pv 2) qbp) (qa8 qdz) (pv 2))) (qat (jW (qk7 T) hr (jA1 (pv 3)))) (qht (qfo hr) (qa7 (pv 0) rfl) (pv 1) (qal qfr rfl T.b_sorted qed (jA1 (pv 3))) rfl) (qht (qfo hr) (qa7 (pv 0) rfl) (pv 1) (jF (qn2 T) hr (jA3 (qa7 (pv 0) rfl) (qa7 (pv 0) rfl) (qa7 (pv 0) rfl))) rfl)),?_⟩;refine ⟨_,rfl,v,rfl,hv,λH1 s1=>⟨_,rfl,?_⟩⟩
  cases hs:qco 12 v with
  | false =>
   refine qc6 ?_
   walk_at "r"
   exact q1 (.inl hs) H1 s1
  | true =>
   refine qds ?_;obtain ⟨x,rfl,hx⟩:=small_iff.mp hs;refine ⟨_,rfl,_,rfl,b,C_Book,dx,_,_,rfl,s1 _ _ hob,T.cl_Book,T.na_Book_kept_rolls,qmd _ _ _ _ _,B.dr,_,rfl,DGet.k (k:=kS x) (s1 _ _ hkr),_,rfl,?_⟩
   by_cases hin:x∈X.map (·.1)
   ·obtain ⟨u,a,e1,_,_⟩:=enr.has hin
    rw[e1];refine qc6 ?_
    walk_at "r"
    exact q1 (.inr ⟨x,rfl,hx,hin⟩) H1 s1
   ·rw[enr.hasn hin]
    refine qds ?_;have hm1:MkV H1 m us:=by
     rcases hm with h|⟨l,e,hl⟩
     ·exact .inl h
     ·exact .inr ⟨l,e,s1 _ _ hl⟩
    refine qzn rfl hm1 λl H2 s2 hl=>qan ?_
    have s02:=s1.trans s2;refine ⟨_,rfl,l,us,rfl,hl,λu hu'=>(hu u hu').same s02,hz,λok H3 s3=>?_,λbad H3 s3=>q2 (λh=>?_) bad H3 (s02.trans s3)⟩
    case refine_2 =>
     rcases h with h|⟨y,e,_,hy⟩
     ·rw[hs] at h;cases h
     ·exact hin (qbt e ▸ hy)
    obtain ⟨ms,rfl,_⟩:=qk6 ok.1;have s03:=s02.trans s3;rw[Ac] at hz;refine ⟨_,rfl,l,ms,rfl,SqL.of (s3 _ _ hl),by omega,λl2 H4 n4=>?_⟩;have s04:=s03.trans n4.same;have A4:=A'.same s04;obtain ⟨km,hkm,enm⟩:=A4.ms;obtain ⟨kr4,hkr4,enr4⟩:=A4.rs;have lm:=enm.len;have lr:=enr4.len;refine ⟨_,rfl,b,C_Book,dx,_,_,rfl,s04 _ _ hob,T.cl_Book,T.na_Book_kept_marks,qw3 _ _ _ _ _,_,rfl,B.dm,_,rfl,DPut.k (k:=kS x) hkm (by rw[Bl];omega),?_⟩
    generalize h5:upd H4 B.dm (.dK (putK km (kS x) (.ref l2)))=H5
    have b5:But B.dm H4 H5:=by rw[<- h5];exact qcr
    have d5:H5 B.dm=some (.dK (putK km (kS x) (.ref l2))):=by rw[<- h5];exact qa5
    have hob5:=b5 _ _ (s04 _ _ hob) (qaq (s04 _ _ hob) hkm (by intro z;cases z));have E0':=A'.ok.E;have l0:(es.map V.int ++ [gv ge]).length=B.ps.length+1:=by have:=A'.ok.F.len;rw[Ac] at this;simp;omega
    have l9:es.length=B.ps.length:=by have:=A'.ok.F.len;rw[Ac] at this;omega
    have g5:=A'.ok.P.good.hi;refine ⟨_,rfl,b,C_Book,dx,_,_,rfl,hob5,T.cl_Book,T.na_Book_kept_rule,qw2 _ _ _ _ _,_,rfl,b,C_Book,dx,_,_,rfl,hob5,T.cl_Book,T.na_Book_kept_day,qto _ _ _ _ _,_,rfl,b,C_Book,dx,_,_,rfl,hob5,T.cl_Book,T.na_Book_kept_edges,qtp _ _ _ _ _,B.ru,B.rl,B.le,B.ps,B.g,B.day,_,_,_,rfl,A4.rule.butK b5 hkm,A'.ok.P,A'.ok.hd,b5 _ _ A4.ed (qaq A4.ed hkm (by intro z;cases z)),E0'.ed,by omega,l0,E0',l9,λro c H6 A6 e1 e2 e3 eY eZ Ec hcl s6 f1 f2 w1=>?_⟩;have hkr6:=s6 _ _ (b5 _ _ hkr4 (λz=>A'.ne z.symm));refine ⟨_,rfl,b,C_Book,dx,_,_,rfl,s6 _ _ hob5,T.cl_Book,T.na_Book_kept_rolls,qmd _ _ _ _ _,_,rfl,B.dr,_,rfl,DPut.k (k:=kS x) hkr6 (by rw[Bl];omega),?_⟩
    generalize h7:upd H6 B.dr (.dK (putK kr4 (kS x) (.ref ro)))=H7
    have b7:But B.dr H6 H7:=by rw[<- h7];exact qcr
    have d7:H7 B.dr=some (.dK (putK kr4 (kS x) (.ref ro))):=by rw[<- h7];exact qa5
    have re:RB C_Roll C_Rule H6 B es ge (ro,c,[],ms):=⟨⟨[],[],R63.begun A6 A'.ok e1 e2 e3 eY eZ Ec hcl⟩,w1.1,w1.2.1,AW _⟩;have tl:TxtL H4 (.ref l2) (qbe ms):=⟨l2,rfl,n4.at_⟩;have fr:∀ a,H5 a=none->H a=none:=λa z=>by
     cases e:H a with
     | none=>rfl
     | some o =>
      by_cases na:a=B.dm
      ·rw[na,d5] at z;cases z
      ·rw[b5 _ _ (s04 _ _ e) na] at z;cases z
    refine q3 x ms rfl hx hin rfl ok ro c H7 (λc' o e n1 n2=>b7 _ _ (s6 _ _ (b5 _ _ (s04 _ _ e) n1)) n2) (fr _ f1) (fr _ f2) (qm0 A4 hin hkm hkr4 b5 d5 s6 b7 d7 tl re) λL hL Ar=>?_
    have hL4:=hL.same s04;have nd1:B.dm ∉ L:=hL4.no hkm (by intro zs z;cases z);have nd2:B.dr ∉ L:=hL4.no hkr4 (by intro zs z;cases z);have hL5:LsL H5 L:=λl hl=>let ⟨zs,e⟩:=hL4 l hl;⟨zs,b5 _ _ e (λz=>nd1 (z ▸ hl))⟩
    have A4r:=Ar.same (qpt s04);have nl2:l2 ∉ L:=λz=>by obtain ⟨zs,e⟩:=hL.same s03 l2 z;rw[n4.fresh] at e;cases e
    have nle:c.le ∉ L:=λz=>by obtain ⟨zs,e⟩:=hL5 c.le z;rw[w1.2.2] at e;cases e
    have nrl:c.rl ∉ L:=by rw[w1.2.1];obtain ⟨xs,e,_⟩:=Ar.rule.ls;exact (qet e).2
    exact qm0 A4r hin (qcw hkm nd1) (qcw hkr4 nd2) (qt1 b5) (qcw d5 nd1) (qpt s6) (qt1 b7) (qcw d7 nd2) ⟨l2,rfl,qcw n4.at_ nl2⟩ (re.rmS (hL5.same s6) nle nrl)
inductive qka (C CR R N:Addr) (vs:List V) (H:Hp) (Q:VK) (E:XK):Prop
 | mk:∀ (b:Addr) (B:qbf) (es:List Int) (ge:Option Int) (X:qa6) (v:V),vs=[.ref b,v]->BkC C CR R H b B es ge X->TextV H v->(∀ x e,v=tS x->qax 12 x->(x,e)∈X->∀ l H',Same H H'->H l=none->H' l=some (.lst ((qbe e.2.2.2).map tS))->Q (.ref l) H')->(¬ qhg X v->∀ H',Same H H'->E (.ref N) none H')->qka C CR R N vs H Q E
include T in
theorem qeu:qvb P w K mg base C_Book 4 "marks" ["self", "name"] [] (qka C_Book C_Roll C_Rule C_NoName):=by
 obtain ⟨f,fd,F,hm⟩:=T.f_Book_marks;have nd:=sc_Book_marks.nd;refine ⟨f,fd,(F.okX sc_Book_marks (λvs H Q E h=>?_) (λcdv A outer s H vs Q E hr h=>?_)),hm,(F.binds λ_ _ _ _ _ _ us hl=>by obtain ⟨_,_,rfl⟩:=L2.lq2 hl;rfl)⟩
 ·obtain ⟨b,B,es,ge,X,v,rfl,_⟩:=h;rfl
 ·obtain ⟨b,B,es,ge,X,v,rfl,A',hv,q1,q2⟩:=h
  obtain ⟨dx,hob⟩:=A'.ob;refine ⟨_,(jB2 (qat (qb0 (qay ⟨rfl,rfl,rfl⟩) (pv 0) T.cl_Book (qcp T) (hr.mono (by decide)) .nil (jA1 (pv 1)))) (qah (qbd qbc rfl T.b_list qce (jA1 (qhs (qfo hr) (qa7 (pv 0) rfl) (pv 1) (λ_ _=>rfl)))))),?_⟩;refine ⟨_,rfl,b,dx,_,rfl,hob,qdn _ _ _ _ _ (by decide +kernel) (by decide +kernel) (by decide +kernel) (by decide +kernel) (by decide +kernel),_,rfl,b,B,es,ge,X,v,rfl,A',hv,λhin H1 s1=>?_,λhn H1 s1=>q2 hn H1 s1⟩;obtain ⟨x,rfl,hx,hxE⟩:=hin;obtain ⟨kvs,hk,en⟩:=A'.ms;obtain ⟨u,a,e1,e2,l,rfl,hl⟩:=en.has hxE;have g:=DGet.k (k:=kS x) (s1 _ _ hk);rw[e1] at g;exact ⟨_,rfl,b,C_Book,dx,_,_,rfl,s1 _ _ hob,T.cl_Book,T.na_Book_kept_marks,qw3 _ _ _ _ _,_,rfl,B.dm,_,rfl,g,l,_,rfl,.inl (SqL.of (s1 _ _ hl)),λl2 H2 n2=>q1 x a rfl hx e2 l2 H2 (s1.trans n2.same) (s1.free n2.fresh) n2.at_⟩
theorem qzo (ru:Addr) (day:Int) (le dm dr p:Addr):qfl "kept_edges" (.ref p) (bof ru day le dm dr)=bof ru day p dm dr:=by rfl
inductive qm2 (C CR R:Addr) (vs:List V) (H:Hp) (Q:VK) (E_:XK):Prop
 | mk:∀ (ru rl e:Addr) (ps:List (Int×Int)) (g:Option Int) (day:Int) (es fs:List Int) (ge fg:Option Int),vs=[.ref ru,.int day,.ref e]->RuleAt R H ru rl ps g->Pr ps g->(∀ p∈ps,p.2<=10 ^ 35)->Bd day->H e=some (.lst (es.map V.int ++ [gv ge]))->EdS (es.map V.int ++ [gv ge]) es ge->es.length=ps.length->qzl ps g day (es.map V.int ++ [gv ge]) es ge fs fg->(∀ b le dm dr H',BkC C CR R H' b ⟨ru,rl,le,dm,dr,ps,g,day⟩ fs fg []->Same H H'->H b=none->H le=none->H dm=none->H dr=none->Q (.ref b) H')->qm2 C CR R vs H Q E_
include T in
theorem qg9:qba P w K mg base 6 "begun_book" ["rule", "day", "edges"] (qm2 C_Book C_Roll C_Rule):=by
 obtain ⟨f,fd,F,hm⟩:=T.f_begun_book;have nd:=sc_begun_book.nd;refine F.def_ hm (F.ok sc_begun_book (λvs H Q E h=>?_) (λcdv A outer s H vs Q E hr h=>?_)) (F.binds λ_ _ _ _ _ _ us hl=>by obtain ⟨_,_,_,rfl⟩:=L2.lq3 hl;rfl)
 ·obtain ⟨ru,rl,e,ps,g,day,es,fs,ge,fg,rfl,_⟩:=h;rfl
 ·obtain ⟨ru,rl,e,ps,g,day,es,fs,ge,fg,rfl,R,Pg,wb,hd,he,Ee,hln,U,q⟩:=h
  refine ⟨_,(jB3 (jS 3 nd (qr6 (qpq T) (hr.mono (by decide)) rfl .nil (jA2 (pv 0) (pv 1)))) (qb9 (pv 3) (jF (qmr T) hr (jA2 (qa7 (pv 3) rfl) (pv 2))) rfl) (qah (pv 3))),?_⟩;refine ⟨_,rfl,_,rfl,λb dx H1 s1 f1 d1=>?_⟩;refine ⟨b,dx,ru,rl,ps,g,day,rfl,d1,R.same s1,Pg,wb,hd,λle dm dr H2 A2 z1 z2 z3 b2=>⟨rfl,?_⟩⟩;have s2:Same H H2:=b2.same s1 f1;obtain ⟨dx2,hob⟩:=A2.ob;have E0':=EdS.of Pg hd;have g5:=Pg.good.hi;have l0:(eV ps g day).length=ps.length+1:=by rw[E0'.eq];simp
  have hEl:(es.map V.int ++ [gv ge]).length=ps.length+1:=by simp[hln]
  have hed:H2 le=some (.lst (eV ps g day)):=by rw[E0'.eq];exact A2.ed
  refine qan ?_;refine ⟨_,rfl,b,C_Book,dx2,_,_,rfl,hob,T.cl_Book,T.na_Book_kept_edges,qtp _ _ _ _ _,_,rfl,le,e,_,_,rfl,hed,s2 _ _ he,E0'.ed,Ee.ed,by rw[l0,hEl],by omega,λp H3 n3=>?_⟩;refine ⟨_,rfl,b,C_Book,dx2,_,rfl,n3.same _ _ hob,T.cl_Book,T.na_Book_kept_edges,(by show 5<1000;decide),λH4 b4 h4=>?_⟩;rw[qzo] at h4;have A3:=A2.same n3.same;have hb3:=n3.same _ _ hob;obtain ⟨dxr,hru⟩:=A3.rule.ob;have nru:ru≠b:=qaq hru hb3 (by intro z;injection z with _ _ z;have:=qs7 rl (gv g);have z':rf rl (gv g)=bof ru day le dm dr:=z;rw[z'] at this;cases this);have s04:Same H H4:=b4.same (s2.trans n3.same) f1;have hp4:H4 p=some (.lst (List.zipWith gE (eV ps g day) (es.map V.int ++ [gv ge]))):=b4 _ _ n3.at_ (qaq n3.at_ hb3 (by intro z;cases z));rw[U.eq] at hp4;obtain ⟨km,hkm,enm⟩:=A3.ms;obtain ⟨kr,hkr,enr⟩:=A3.rs;refine ⟨_,rfl,q b p dm dr H4 ⟨⟨dx2,h4⟩,A3.rule.but2 b4 hb3 qc9 (by intro xs z;cases z) nru,hp4,⟨km,b4 _ _ hkm (qaq hkm hb3 (by intro z;cases z)),?_⟩,⟨kr,b4 _ _ hkr (qaq hkr hb3 (by intro z;cases z)),?_⟩,A3.ne,⟨Pg,wb,U.E,U.F,U.dom,hd⟩⟩ s04 f1 (s2.free n3.fresh) (s1.free z2) (s1.free z3)⟩
  ·cases enm;exact .nil
  ·cases enr;exact .nil
theorem qpu {F:St->Hp->Prop} {σ σ':St} {H:Hp} (e:σ=σ') (h:F σ' H):F σ H:=e ▸ h
include T in
theorem qci:qvb P w K mg base C_Book 7 "enrol" ["self", "name", "marks"] [] (qi4 C_Book C_Roll C_Rule C_NoName C_NoMark):=by
 obtain ⟨f,fd,dT,o,n,hf,F,M,h1,h2,h3⟩:=qm1 (P:=P) (w:=w) (base:=base) T;refine ⟨f,fd,hf,M,qga h1 h2 h3 λus hl=>?_⟩;obtain ⟨oc,od,kV,doc,pm,an,cdv,ct,osl,rfl,lk,hcd⟩:=F.ex;obtain ⟨_,_,_,rfl⟩:=L2.lq3 (us:=us) (by simpa using hl);exact ⟨_,rfl,rfl⟩
theorem R63.moved {C R:Addr} {H:Hp} {r ro:Addr} {q c:qar} {ps ps2:List (Int×Int)} {g g2:Option Int} {d D:Int} {es fs:List Int} {ge fg:Option Int} {rs:List Rd3} {LY LZ:List (List Int)} {Q:VK} {E:XK} (h:R63 C R H r q ps g d es ge rs LY LZ) (N:R63 C R H ro c ps2 g2 D fs fg [] [] []) (h50:rs.length<=50) (hw:ps2.map (·.2)=ps.map (·.2)) (L:Later es fs ge fg) (ap:ApartD q c)
  (k:∀ LY' LZ' H',R63 C R H' ro c ps2 g2 D fs fg rs LY' LZ'->But2 c.dy c.dh H H'->Q .non H'):qfe C R [.ref ro,.ref r] H Q E:=by
 have l1:=h.ly;have l2:=h.lz;obtain ⟨LY',LZ',l3,l4,tk⟩:=h.take h50 (qca (ps2.map (·.2)) fs fg);have ec:=N.cellD;refine ⟨ro,r,c,q,qpf,_,LY',LZ',LY,LZ,rfl,N.R.mono (List.nil_subset _) (List.nil_subset _),h.R,N.ok,ap,by omega,by omega,by omega,by omega,by rw[ec];exact tk,λH' R' b'=>?_⟩;have F0:=h.F;rw[<- hw] at F0;have hT:=qtm (qmb F0 N.F L h.len) rs;rw[hw] at hT;rw[ec,hw,hT,<- hw] at R';exact k LY' LZ' H' { N with R:=R',hr:=h.hr,ly:=l3,lz:=l4 } b'
def qpv (x:List Nat) (rs:List Rd3) (p:List Nat×RC):List Nat×RC:=if p.1=x then (p.1,p.2.1,p.2.2.1,rs,p.2.2.2.2) else p
theorem qw8 (x:List Nat) (rs:List Rd3) (p:List Nat×RC):(qpv x rs p).1=p.1:=by unfold qpv;split<;>rfl
theorem qBy (x:List Nat) (rs:List Rd3) (p:List Nat×RC):(qpv x rs p).2.1=p.2.1:=by unfold qpv;split<;>rfl
theorem qBz (x:List Nat) (rs:List Rd3) (p:List Nat×RC):(qpv x rs p).2.2.2.2=p.2.2.2.2:=by unfold qpv;split<;>rfl
theorem BkC.set {C CR R b:Addr} {B:qbf} {es:List Int} {ge:Option Int} {X:qa6} {H H':Hp} {x:List Nat} {e:RC} {rs:List Rd3} {Y Z:KV} (h:BkC C CR R H b B es ge X) (ok:XOk X) (hx:(x,e)∈X) (bu:But2 e.2.1.dy e.2.1.dh H H') (hy:H e.2.1.dy=some (.dT Y)) (hz:H e.2.1.dh=some (.dT Z)) (R':RB CR R H' B es ge (e.1,e.2.1,rs,e.2.2.2)):BkC C CR R H' b B es ge (X.map (qpv x rs)):=by
 refine ⟨let ⟨dx,e⟩:=h.ob;⟨dx,bu.keep hy hz e (by intro K z;cases z)⟩,h.rule.keep2 bu hy hz,bu.keep hy hz h.ed (by intro K z;cases z),?_,?_,h.ne,h.ok⟩
 ·obtain ⟨k,e1,q⟩:=h.ms
  exact ⟨k,bu.keep hy hz e1 (by intro K z;cases z),q.map2 (qw8 x rs) λp _ v z=>by rw[qBz];exact z.but2 bu hy hz⟩
 ·obtain ⟨k,e1,q⟩:=h.rs
  refine ⟨k,bu.keep hy hz e1 (by intro K z;cases z),q.map2 (qw8 x rs) λp hp v z=>⟨by rw[qBy];exact z.1,?_⟩⟩
  by_cases n:p.1=x
  ·have ep:p.2=e:=ok.one (x:=x) (by rw[<- n];exact hp) hx
   unfold qpv;rw[Al n,ep];exact R'
  ·unfold qpv
   rw[Ah n];exact z.2.frame bu hy hz (ok.apart hx (y:=p.1) hp n)
theorem qt2 {X:qa6} {x:List Nat} {ro:Addr} {c:qar} {rs:List Rd3} {ms:List (List Nat)} (hn:x ∉ X.map (·.1)):(X ++ [(x,(ro,c,[],ms))]).map (qpv x rs)=X ++ [(x,(ro,c,rs,ms))]:=by
 rw[AB]
 congr 1
 ·have:X.map (qpv x rs)=X.map id:=Ba λp hp=>by
   unfold qpv;rw[Ah (λe=>hn (Af.mpr ⟨p,hp,e⟩))];rfl
  rw[this,Fl]
 ·show [qpv x rs (x,(ro,c,[],ms))]=_
  unfold qpv;rw[Al rfl]
theorem qm3:∀ {a b:List (List Nat)},a.map tS=b.map tS->a=b
 | [],[],_=>rfl
 | [],_ :: _,e=>by cases e
 | _ :: _,[],e=>by cases e
 | u :: a,w :: b,e=>by
  rw[Aw,Aw] at e;injection e with e1 e2
  rw[qbt e1,qm3 e2]
theorem qqz {a b:List (List Nat)} (p:a.Perm b) (h:qbq (b.map tS)):qbq (a.map tS):=by
 have pm:=p.map tS;exact ⟨λv hv=>h.1 v (pm.mem_iff.mp hv),pm.nodup_iff.mpr h.2.1,by rw[pm.length_eq];exact h.2.2⟩
structure qk9 (X:qa6) (n:Nat):Prop where
 ok:XOk X
 sm:∀ p∈X,qax 12 p.1
 mm:∀ p∈X,qbq (p.2.2.2.2.map tS)
 ln:X.length<=20
 rs:∀ p∈X,p.2.2.2.1.length<=n
structure qDr (X X':qa6):Prop where
 nm:X'.map (·.1)=qbe (X.map (·.1))
 en:∀ p∈X',∃ e:RC,(p.1,e)∈X/\p.2.2.2.1=e.2.2.1/\p.2.2.2.2=qbe e.2.2.2
inductive qpw (C CR R:Addr) (vs:List V) (H:Hp) (Q:VK) (E_:XK):Prop
 | mk:∀ (b:Addr) (B:qbf) (es:List Int) (ge:Option Int) (X:qa6) (ru rl:Addr) (ps:List (Int×Int)) (g:Option Int) (day:Int) (fs:List Int) (fg:Option Int),vs=[.ref b,.ref ru,.int day]->BkC C CR R H b B es ge X->qk9 X 50->RuleAt R H ru rl ps g->Pr ps g->(∀ p∈ps,p.2<=10 ^ 35)->ps.map (·.2)=B.ps.map (·.2)->Bd day->qzl ps g day (es.map V.int ++ [gv ge]) es ge fs fg->(∀ b' le dm dr X' H',BkC C CR R H' b' ⟨ru,rl,le,dm,dr,ps,g,day⟩ fs fg X'->XOk X'->qDr X X'->(∀ p∈X',H p.2.2.1.dy=none/\H p.2.2.1.dh=none)->Same H H'->H b'=none->H le=none->H dm=none->H dr=none->Q (.ref b') H')->qpw C CR R vs H Q E_
include T in
theorem qzp:qba P w K mg base 8 "moved" ["book", "rule", "day"] (qpw C_Book C_Roll C_Rule):=by
 obtain ⟨f,fd,F,hm⟩:=T.f_moved;have nd:=sc_moved.nd;refine F.def_ hm (F.ok sc_moved (λvs H Q E h=>?_) (λcdv A outer s H vs Q E hr h=>?_)) (F.binds λ_ _ _ _ _ _ us hl=>by obtain ⟨_,_,_,rfl⟩:=L2.lq3 hl;rfl)
 ·obtain ⟨b,B,es,ge,X,ru,rl,ps,g,day,fs,fg,rfl,_⟩:=h;rfl
 ·obtain ⟨b,B,es,ge,X,ru,rl,ps,g,day,fs,fg,rfl,A',XG,R,Pg,wb,hw,hd,U,q⟩:=h
  obtain ⟨dx,hob⟩:=A'.ob;have no:∀ (B:qbf) {m:Str},¬ m = "kept_rolls" -> ¬ m = "kept_marks" -> ¬ m = "kept_edges" -> ¬ m = "kept_day" -> ¬ m = "kept_rule" -> (bof B.ru B.day B.le B.dm B.dr).lookup m=none:=λB _ a b c d e=>qdn _ _ _ _ _ a b c d e
  have hln:es.length=ps.length:=by have:=A'.ok.F.len;have e:=congrArg List.length hw;rw[Ac,Ac] at e;rw[Ac] at this;omega
  have x20:=XG.ln;refine ⟨_,(jB3 (jS 3 nd (jF (qg9 T) hr (jA3 (pv 1) (pv 2) (qa0 (pv 0) T.cl_Book (qes T) (hr.mono (by decide)))))) (qbz AQ rfl (qa1 (qa0 (pv 0) T.cl_Book (qde T) (hr.mono (by decide)))) (jN 4 nd) (jB2 (qat (qb0 (qaz ⟨rfl,rfl,rfl⟩) (pv 3) T.cl_Book (qci T) (hr.mono (by decide)) .nil (jA2 (pv 4) (qb0 (qaz ⟨rfl,rfl,rfl⟩) (pv 0) T.cl_Book (qeu T) (hr.mono (by decide)) .nil (jA1 (pv 4)))))) (qat (qr2 (qb0 (qaz ⟨rfl,rfl,rfl⟩) (pv 3) T.cl_Book (qbu T) (hr.mono (by decide)) .nil (jA1 (pv 4))) T.cl_Roll (qeq T) (hr.mono (by decide)) (jA1 (qb0 (qaz ⟨rfl,rfl,rfl⟩) (pv 0) T.cl_Book (qbu T) (hr.mono (by decide)) .nil (jA1 (pv 4)))))))) (qah (pv 3))),?_⟩;refine ⟨_,rfl,_,rfl,_,rfl,b,dx,_,rfl,hob,no B (by decide +kernel) (by decide +kernel) (by decide +kernel) (by decide +kernel) (by decide +kernel),b,B,es,ge,X,rfl,A',λe H1 n1=>?_⟩;refine ⟨ru,rl,e,ps,g,day,es,fs,ge,fg,rfl,R.same n1.same,Pg,wb,hd,n1.at_,A'.ok.E,hln,U,λb' le dm dr H2 B2 s2 f1 f2 f3 f4=>qan ?_⟩;refine qpu (σ':=[some (.ref b),some (.ref ru),some (.int day),some (.ref b'),none]) rfl ?_;have s02:=n1.same.trans s2;have A2:=A'.same s02;refine ⟨_,rfl,b,dx,_,rfl,s02 _ _ hob,no B (by decide +kernel) (by decide +kernel) (by decide +kernel) (by decide +kernel) (by decide +kernel),b,B,es,ge,X,rfl,A2,by omega,λln H3 n3=>?_⟩;have s03:=s02.trans n3.same;have g1:H b'=none:=n1.same.free f1;have g2:H le=none:=n1.same.free f2;have g3:H dm=none:=n1.same.free f3;have g4:H dr=none:=n1.same.free f4;have snm:∀ y∈qbe (X.map (·.1)),y∈X.map (·.1):=λy hy=>(qa3 _).mem_iff.mp hy
  have snd:(qbe (X.map (·.1))).Nodup:=(qa3 _).nodup_iff.mpr (by unfold List.Nodup;rw[CI];exact XG.ok.imp λz=>z.1);refine ⟨ln,rfl,⟨_,SqL.of n3.at_⟩,qbn (xs:=(qbe (X.map (·.1))).map tS) (λj σ H'=>∃ (X':qa6) (v4:Option V),Same H H'/\H' ln=some (.lst ((qbe (X.map (·.1))).map tS))/\BkC C_Book C_Roll C_Rule H' b' ⟨ru,rl,le,dm,dr,ps,g,day⟩ fs fg X'/\XOk X'/\X'.map (·.1)=(qbe (X.map (·.1))).take j/\(∀ p∈X',∃ e:RC,(p.1,e)∈X/\p.2.2.2.1=e.2.2.1/\p.2.2.2.2=qbe e.2.2.2)/\(∀ p∈X',H p.2.2.1.dy=none/\H p.2.2.1.dh=none)/\σ=[some (.ref b),some (.ref ru),some (.int day),some (.ref b'),v4]) ⟨[],_,s03,n3.at_,B2.same n3.same,.nil,rfl,(by intro p h;cases h),(by intro p h;cases h),rfl⟩ (λj σ H' _ ⟨_,_,_,z,_⟩=>SqL.of z) ?_ ?_⟩
  ·rintro j x' σ H4 hxj ⟨X',v4,s4,hln4,B4,xk,nm,en,fr,rfl⟩
   obtain ⟨x,hxs,rfl⟩:∃ x,(qbe (X.map (·.1)))[j]?=some x/\x'=tS x:=by
    rw[Ay] at hxj;obtain ⟨x,e1,e2⟩:=AH.mp hxj;exact ⟨x,e1,e2.symm⟩
   obtain ⟨⟨x0,e0⟩,he0,ex0⟩:=Af.mp (snm x (An hxs));have ex0:x0=x:=ex0;subst ex0;have hsx:=XG.sm _ he0;have hmk:=XG.mm _ he0;have tx:∀ {H:Hp},TextV H (tS x0):=.inl ⟨x0,rfl,by have:=hsx.2.1;dsimp only at this;omega⟩;have inx:qhg X (tS x0):=⟨x0,rfl,hsx,Af.mpr ⟨_,he0,rfl⟩⟩;have hni:x0 ∉ X'.map (·.1):=by
    rw[nm];intro z;obtain ⟨i,hi,ei⟩:=AZ z;rw[As] at hi;rw[DR] at ei;have jl:=(Ai.mp hxs).1;have ej:=(Ai.mp hxs).2;have:=(Dj (xs:=qbe (X.map (·.1))) (i:=i) (j:=j) (h₀:=by omega) (h₁:=jl) snd).mp (by rw[ei,ej]);omega
   have lX':X'.length<=20:=by
    have:=congrArg List.length nm;rw[Ac,As,(qa3 _).length_eq,Ac] at this;omega
   refine qan ?_;refine qpu (σ':=[some (.ref b),some (.ref ru),some (.int day),some (.ref b'),some (tS x0)]) rfl ?_;obtain ⟨dx',hob'⟩:=B4.ob;refine ⟨_,rfl,b',dx',_,rfl,hob',no _ (by decide +kernel) (by decide +kernel) (by decide +kernel) (by decide +kernel) (by decide +kernel),_,rfl,_,rfl,b,dx,_,rfl,s4 _ _ hob,no B (by decide +kernel) (by decide +kernel) (by decide +kernel) (by decide +kernel) (by decide +kernel),_,rfl,b,B,es,ge,X,tS x0,rfl,A'.same s4,tx,λy e' ey hy hm l H5 s5 f5 h5=>?_,λz=>absurd inx z⟩;have ey:=qbt ey;subst ey;have ee:=XG.ok.one hm he0;subst ee;have ok5:qbq ((qbe e'.2.2.2).map tS):=qqz (qa3 _) hmk;have l8:=ok5.2.2;refine ⟨b',_,fs,fg,X',tS x0,.ref l,_,rfl,B4.same s5,tx,.inr ⟨l,rfl,h5⟩,λu hu=>?_,by omega,by omega,λz=>?_,λ_ z=>absurd ok5 z,λy2 ms ey2 hy2 hn2 eu ok ro c H6 b6 c1 c2 B6 _=>?_⟩
   ·obtain ⟨m,hm',rfl⟩:=Af.mp hu
    have:=ok5.1 (tS m) hu;rw[qcg] at this;exact .inl ⟨m,rfl,by have:=(AG this).2.1;omega⟩
   ·rcases z with z|⟨y,e,_,hy'⟩
    ·rw[qcg,AE hsx] at z;cases z
    ·exact absurd (qbt e ▸ hy') hni
   have ey2:=qbt ey2;subst ey2;have ems:qbe e'.2.2.2=ms:=qm3 eu;have s45:Same H H5:=s4.trans s5;have s06:Same H H6:=λz o e=>b6 _ _ (s45 _ _ e) (qac e g3) (qac e g4)
   have xk6:XOk (X' ++ [(x0,(ro,c,[],ms))]):=by
    unfold XOk;rw[CP];refine ⟨xk,by simp,λp hp p' hp'=>?_⟩;rw[Aj.mp hp'];obtain ⟨⟨Y,hY⟩,⟨Z,hZ⟩⟩:=(B4.same s5).dicts (x:=p.1) (e:=p.2) hp;exact ⟨λe=>hni (Af.mpr ⟨p,hp,e⟩),qac hY c1,qac hY c2,qac hZ c1,qac hZ c2⟩
   have m6:(x0,((ro,c,[],ms):RC))∈X' ++ [(x0,((ro,c,[],ms):RC))]:=AM _ (Aj.mpr rfl);obtain ⟨dx6,hob6⟩:=B6.ob;have inx6:qhg (X' ++ [(x0,((ro,c,[],ms):RC))]) (tS x0):=⟨x0,rfl,hsx,Af.mpr ⟨_,m6,rfl⟩⟩;refine ⟨_,rfl,b',dx6,_,rfl,hob6,no _ (by decide +kernel) (by decide +kernel) (by decide +kernel) (by decide +kernel) (by decide +kernel),_,rfl,b',_,fs,fg,_,tS x0,rfl,B6,tx,λy3 e3 ey3 hy3 hm3 re3 H7 s7=>?_,λz=>absurd inx6 z⟩;have ey3:=qbt ey3;subst ey3;have ee3:=xk6.one hm3 m6;subst ee3;obtain ⟨LY6,LZ6,N6⟩:=re3.ex;have N7:=N6.same s7;obtain ⟨dxo,hro⟩:=N7.R.obj;refine ⟨ro,dxo,_,rfl,hro,qe1 _ _ _ _ _ (by decide +kernel) (by decide +kernel) (by decide +kernel) (by decide +kernel) (by decide +kernel),_,rfl,b,dx,_,rfl,s7 _ _ (s06 _ _ hob),no B (by decide +kernel) (by decide +kernel) (by decide +kernel) (by decide +kernel) (by decide +kernel),_,rfl,b,B,es,ge,X,tS x0,rfl,(A'.same s06).same s7,tx,λy4 e4 ey4 hy4 hm4 re4 H8 s8=>?_,λz=>absurd inx z⟩;have ey4:=qbt ey4;subst ey4;have ee4:=XG.ok.one hm4 he0;subst ee4;obtain ⟨LY4,LZ4,R4⟩:=re4.ex;simp only[qf6,AV,AX,AN];have N8:=N7.same s8;have e1:LY6=[]:=CB.mp (by have:=N8.ly;simpa using this);have e2:LZ6=[]:=CB.mp (by have:=N8.lz;simpa using this);subst e1;subst e2;have N8':R63 C_Roll C_Rule H8 ro c ps g day fs fg [] [] []:=N8;obtain ⟨⟨Yo,hYo⟩,⟨Zo,hZo⟩⟩:=(A'.same s45).dicts he0;refine (R4.same s8).moved N8' (XG.rs _ he0) hw U.L ⟨qac hYo c1,qac hYo c2,qac hZo c1,qac hZo c2⟩ λLY9 LZ9 H9 R9 b9=>?_
   have s68:=s7.trans s8;obtain ⟨⟨Y8,hY8⟩,⟨Z8,hZ8⟩⟩:=N8.R.dicts;have B9:=(B6.same s68).set xk6 m6 b9 hY8 hZ8 (rs:=e4.2.2.1) ⟨⟨_,_,R9⟩,re3.ru,re3.rl,XG.rs _ he0⟩;rw[qt2 hni] at B9;have g5:H c.dy=none:=s45.free c1;have g6:H c.dh=none:=s45.free c2;refine ⟨X' ++ [(x0,(ro,c,e4.2.2.1,ms))],_,λz o e=>b9 _ _ (s68 _ _ (s06 _ _ e)) (qac e g5) (qac e g6),?_,B9,?_,?_,λp hp=>?_,λp hp=>?_,rfl⟩
   ·obtain ⟨km,hkm,_⟩:=(B4.same s5).ms
    obtain ⟨kr,hkr,_⟩:=(B4.same s5).rs;have e5:=s5 _ _ hln4;have e6:=s68 _ _ (b6 _ _ e5 (qaq e5 hkm (by intro z;cases z)) (qaq e5 hkr (by intro z;cases z)));exact b9.keep hY8 hZ8 e6 (by intro K z;cases z)
   ·have:=xk6
    unfold XOk at this ⊢;rw[CP] at this ⊢;refine ⟨this.1,by simp,λp hp p' hp'=>?_⟩;have z:=this.2.2 p hp _ (Aj.mpr rfl);rw[Aj.mp hp'];exact z
   ·rw[AB,nm,Bw,hxs];rfl
   ·rcases AA.mp hp with z|z
    ·exact en p z
    ·rw[Aj.mp z];exact ⟨e4,he0,rfl,ems.symm⟩
   ·rcases AA.mp hp with z|z
    ·exact fr p z
    ·rw[Aj.mp z];exact ⟨g5,g6⟩
  ·rintro σ H4 ⟨X',v4,s4,hln4,B4,xk,nm,en,fr,rfl⟩
   rw[Ac,AL] at nm;exact ⟨_,rfl,q b' le dm dr X' H4 B4 xk ⟨nm,en⟩ fr s4 g1 g2 g3 g4⟩
theorem ints_rep {F:Frag} {H:Hp} {l:Addr} {ns:List Int} (h:H l=some (.lst (ns.map V.int))):Rep F H (.ref l) (.list (ns.map PyData.int)):=.lst (SqL.of h) (qh4 ns)
theorem qpx (ns:List Int):(PyData.list (ns.map PyData.int)).canLay0=true:=by simp only[PyData.canLay0,qh5]
theorem qvz (ns:List Int):(PyData.list (ns.map PyData.int)).depth<=20:=by simp[PyData.depth,qh6]
theorem qpy:∀ ns ms:List Int,PyData.eqvAll (ns.map PyData.int) (ms.map PyData.int)=decide (ns=ms)
 | [],[]=>by simp[PyData.eqvAll]
 | [],_ :: _=>by simp[PyData.eqvAll]
 | _ :: _,[]=>by simp[PyData.eqvAll]
 | n :: ns,m :: ms=>by
  rw[Aw,Aw,PyData.eqvAll,qpy ns ms]
  by_cases h1:n=m<;>by_cases h2:ns=ms<;>simp[h1,h2,PyData.eqv]
theorem qv0 (ns ms:List Int):PyData.eqv (.list (ns.map PyData.int)) (.list (ms.map PyData.int))=decide (ns=ms):=by
 rw[PyData.eqv,qpy]
inductive qi5 (R:Addr) (vs:List V) (H:Hp) (Q:VK) (E_:XK):Prop
 | mk:∀ (ru rl:Addr) (ps:List (Int×Int)) (g:Option Int),vs=[.ref ru]->RuleAt R H ru rl ps g->ps.length<=5->(∀ p H',Same H H'->H' p=some (.lst ((ps.map (·.2)).map V.int))->Q (.ref p) H')->qi5 R vs H Q E_
include T in
theorem qi6:qba P w K mg base 3 "widths_of" ["rule"] (qi5 C_Rule):=by
 obtain ⟨f,fd,F,hm⟩:=T.f_widths_of;have nd:=sc_widths_of.nd;refine F.def_ hm (F.ok sc_widths_of (λvs H Q E h=>?_) (λcdv A outer s H vs Q E hr h=>?_)) (F.binds λ_ _ _ _ _ _ us hl=>by obtain ⟨_,rfl⟩:=L2.lq1 hl;rfl)
 ·obtain ⟨ru,rl,ps,g,rfl,_⟩:=h;rfl
 ·obtain ⟨ru,rl,ps,g,rfl,R,h5,q⟩:=h
  obtain ⟨dxr,hru⟩:=R.ob;obtain ⟨xr,hxl,hxr⟩:=R.ls;have nst:(rf rl (gv g)).lookup ("steps" : Str)=none:=TB.qlz _ _ (by decide +kernel) (by decide +kernel);refine ⟨_,(qad (qah (qhd (vars:=[ "age", "width" ]) (frees:=[]) (fv:=[]) rfl (jL0 rfl) trivial (qa1 (qa0 (pv 0) T.cl_Rule (qbl T) (hr.mono (by decide)))) (qdh (by decide) (by decide)) (λ_ _ _ _=>(jG2 (jM 0 [ "age", "width" ]) (jM 1 [ "age", "width" ]))) (λ_ _ _ _=>qbg) (λ_ _ _ _=>(pv 1))))),?_⟩;refine ⟨_,rfl,ru,dxr,_,rfl,hru,nst,ru,rl,ps,g,xr,rfl,R,hxl,λl1 H1 n1=>?_⟩;refine ⟨l1,rfl,⟨_,SqL.of n1.at_⟩,qhk (λp=>p.2) n1.at_ (hxr.same n1.same) (by omega) (λp _ Q' q'=>⟨_,rfl,q'⟩) λa H2 n2=>?_⟩;exact q a H2 (n1.same.trans n2.same) (by rw[n2.at_])
inductive qm4 (C CR R N:Addr) (vs:List V) (H:Hp) (Q:VK) (E:XK):Prop
 | mk:∀ (b:Addr) (B:qbf) (es:List Int) (ge:Option Int) (X:qa6) (ru rl:Addr) (ps:List (Int×Int)) (g:Option Int),vs=[.ref b,.ref ru]->BkC C CR R H b B es ge X->qk9 X 50->RuleAt R H ru rl ps g->ps.length<=5->(ps.map (·.2)≠B.ps.map (·.2)->∀ H',Same H H'->E (.ref N) none H')->(ps.map (·.2)=B.ps.map (·.2)->Pr ps g/\(∀ p∈ps,p.2<=10 ^ 35)/\∃ (fs:List Int) (fg:Option Int),qzl ps g B.day (es.map V.int ++ [gv ge]) es ge fs fg/\∀ b' le dm dr X' H',BkC C CR R H' b' ⟨ru,rl,le,dm,dr,ps,g,B.day⟩ fs fg X'->XOk X'->qDr X X'->(∀ p∈X',H p.2.2.1.dy=none/\H p.2.2.1.dh=none)->Same H H'->H b'=none->H le=none->H dm=none->H dr=none->Q (.ref b') H')->qm4 C CR R N vs H Q E
include T in
theorem qev:qva P w K mg base 9 "book_under" ["book", "rule"] [] (qm4 C_Book C_Roll C_Rule C_NoRule):=by
 obtain ⟨f,fd,F,hm⟩:=T.f_book_under;have nd:=sc_book_under.nd;refine ⟨f,fd,(F.okX sc_book_under (λvs H Q E h=>?_) (λcdv A outer s H vs Q E hr h=>?_)),hm,F.kp,(F.binds λ_ _ _ _ _ _ us hl=>by obtain ⟨_,_,rfl⟩:=L2.lq2 hl;rfl)⟩
 ·obtain ⟨b,B,es,ge,X,ru,rl,ps,g,rfl,_⟩:=h;rfl
 ·obtain ⟨b,B,es,ge,X,ru,rl,ps,g,rfl,A',XG,Ru,p5,qE,q⟩:=h
  obtain ⟨dx,hob⟩:=A'.ob;have no:∀ {m:Str},¬ m = "kept_rolls" -> ¬ m = "kept_marks" -> ¬ m = "kept_edges" -> ¬ m = "kept_day" -> ¬ m = "kept_rule" -> (bof B.ru B.day B.le B.dm B.dr).lookup m=none:=λa b c d e=>qdn _ _ _ _ _ a b c d e
  refine ⟨_,(jB2 (qa2 (jC (qhv hr.units) (jF (qi6 T) hr (jA1 (qa0 (pv 0) T.cl_Book (qfj T) (hr.mono (by decide))))) (jF (qi6 T) hr (jA1 (pv 1)))) (qad (qc7 (qay ⟨rfl,rfl,rfl⟩) rfl T.ex_NoRule rfl T.mg_NoRule (jA1 qbr))) qak) (qah (jF (qzp T) hr (jA3 (pv 0) (pv 1) (qa0 (pv 0) T.cl_Book (qj8 T) (hr.mono (by decide))))))),?_⟩;refine ⟨_,rfl,b,dx,_,rfl,hob,no (by decide +kernel) (by decide +kernel) (by decide +kernel) (by decide +kernel) (by decide +kernel),b,B,es,ge,X,rfl,A',?_⟩;refine ⟨B.ru,B.rl,B.ps,B.g,rfl,A'.rule,A'.ok.P.good.hi,λp1 H1 s1 hp1=>?_⟩;refine ⟨_,rfl,ru,rl,ps,g,rfl,Ru.same s1,p5,λp2 H2 s2 hp2=>?_⟩;refine ⟨_,_,ints_rep (s2 _ _ hp1),ints_rep hp2,qpx _,qpx _,qvz _,_,rfl,?_⟩
  show if (!PyData.eqv _ _)=true then _ else _
  rw[qv0];have s02:=s1.trans s2
  by_cases hw:B.ps.map (·.2)=ps.map (·.2)
  ·rw[AE hw]
   refine qds ?_;obtain ⟨Pg,wb,fs,fg,U,q⟩:=q hw.symm;refine ⟨_,rfl,_,rfl,_,rfl,b,dx,_,rfl,s02 _ _ hob,no (by decide +kernel) (by decide +kernel) (by decide +kernel) (by decide +kernel) (by decide +kernel),b,B,es,ge,X,rfl,A'.same s02,?_⟩;refine ⟨b,B,es,ge,X,ru,rl,ps,g,B.day,fs,fg,rfl,A'.same s02,XG,Ru.same s02,Pg,wb,hw.symm,A'.ok.hd,U,λb' le dm dr X' H' B' xk mv fr s z1 z2 z3 z4=>q b' le dm dr X' H' B' xk mv (λp hp=>⟨s02.free (fr p hp).1,s02.free (fr p hp).2⟩) (s02.trans s) (s02.free z1) (s02.free z2) (s02.free z3) (s02.free z4)⟩
  ·rw[Bc hw]
   refine qc6 ?_;exact ⟨qc3 (E7 rfl),qE (λe=>hw e.symm) H2 s02⟩
theorem qq0 {σ:St} {H:Hp} {K:List V->Hp->Prop} (h:K [] H):qf6 σ H K:=h
theorem qDs (x:Option Int):Ed (gv x):=by cases x with|none=>exact .inl rfl|some i=>exact .inr ⟨i,rfl⟩
include T in
theorem qn4:qD2 P w K mg base C_Gone 1 "Gone" ["self", "edge"] "edge" :=by
 obtain ⟨f,fd,F,hE⟩:=T.f_Gone_init;have nd:=sc_Gone_init.nd;refine ⟨f,fd,(F.ok sc_Gone_init (λvs H Q E h=>?_) (λcdv A outer s H vs Q E hr h=>?_)),T.mg_Gone,hE,(F.binds λ_ _ _ _ _ _ us hl=>by obtain ⟨_,_,rfl⟩:=L2.lq2 hl;rfl)⟩
 ·obtain ⟨ex,v,rfl,_⟩:=h;rfl
 ·obtain ⟨ex,v,rfl,hx,q⟩:=h
  refine ⟨_,(jB2 (qat (qvh rfl T.mg_BookError T.bi_BookError (jA2 (pv 0) qbr))) (qyi (pv 0) (pv 1) rfl)),?_⟩;refine ⟨_,rfl,ex,C_Gone,f, "edge",none,_,rfl,by decide,hE,hx,?_⟩;exact ⟨_,rfl,_,rfl,ex,C_Gone,f,rfl,hx,hE,λdx H3 f1 ne h3 h4 h5=>q dx H3 f1 ne h3 h4 h5⟩
inductive qt3 (C:Addr) (vs:List V) (H:Hp) (E_:VK) (E:XK):Prop
 | mk:∀ (z x:Int) (w:V),vs=[.int z,.int x]->w=w->x<z->(∀ dx H',New H H' dx (.xd [("edge",.int z)])->E (.ref C) (some dx) H')->qt3 C vs H E_ E
include T in
theorem qla:qva P w K mg base 3 "check_begin" ["edge", "a"] [] (qt3 C_Gone):=by
 obtain ⟨f,fd,F,hm⟩:=T.f_check_begin;have nd:=sc_check_begin.nd;refine ⟨f,fd,(F.okX sc_check_begin (λvs H Q E h=>?_) (λcdv A outer s H vs Q E hr h=>?_)),hm,F.kp,(F.binds λ_ _ _ _ _ _ us hl=>by obtain ⟨_,_,rfl⟩:=L2.lq2 hl;rfl)⟩
 ·obtain ⟨z,x,_,rfl,_⟩:=h;rfl
 ·obtain ⟨z,x,_,rfl,_,lt,qE⟩:=h
  refine ⟨_,(qad (qa2 (PW.pt (qod (jC qf4 (pv 0) qbp) (qkh (PW.pt (qhb (jC qea (pv 1) qbp) (qe0 (jC qhl (pv 1) (pv 0)))))))) (qad (qsr (qay ⟨rfl,rfl,rfl⟩) rfl (qn4 T) (hr.mono (by decide)) rfl (jA1 (pv 0)))) qak)),?_⟩
  walk_at "r"
  rw[AE lt];refine qc6 ?_;exact ⟨_,rfl,qq0 ⟨_,rfl,λdx H2 n2=>qE dx H2 n2⟩⟩
def qm5:Sp:=λvs H Q _=>∃ v:V,vs=[.str (Str.ofString "many")]/\v=v/\∀ x H',Same H H'->Q (.ref x) H'
include T in
theorem qt4:qba P w K mg base 1 "measure" ["word"] qm5:=by
 obtain ⟨f,fd,F,hm⟩:=T.f_measure;have nd:=sc_measure.nd;refine F.def_ hm (F.ok sc_measure (λvs H Q E h=>?_) (λcdv A outer s H vs Q E hr h=>?_)) (F.binds λ_ _ _ _ _ _ us hl=>by obtain ⟨_,rfl⟩:=L2.lq1 hl;rfl)
 ·obtain ⟨_,rfl,_⟩:=h;rfl
 ·obtain ⟨_,rfl,_,q⟩:=h
  refine ⟨_,(jB6 (qa2 (jC qey (pv 0) qbr) (qad (qah (qyk T.mk_HowMany rfl T.mg_HowMany))) qak) (qa2 (jC qey (pv 0) qbr) (qad qbm) qak) (qa2 (jC qey (pv 0) qbr) (qad qbm) qak) (qa2 (jC qey (pv 0) qbr) (qad qbm) qak) (qa2 (jC qey (pv 0) qbr) (qad qbm) qak) qbm),?_⟩;refine ⟨_,rfl,rfl,_,rfl,?_⟩;rw[AE rfl];exact qc6 λx dx H1 s1 _ _=>q x H1 s1
inductive qt5 (C R:Addr) (vs:List V) (H:Hp) (Q:VK) (E_:XK):Prop
 | mk:∀ (l ro:Addr) (D:qar),vs=[.ref l]->H l=some (.lst [.ref ro])->RollAt C R H ro D->(∀ H',Same H H'->Q (gv D.ge) H')->qt5 C R vs H Q E_
include T in
theorem qi7:qba P w K mg base 3 "greatest_gone" ["rolls"] (qt5 C_Roll C_Rule):=by
 obtain ⟨f,fd,F,hm⟩:=T.f_greatest_gone;have nd:=sc_greatest_gone.nd;refine F.def_ hm (F.ok sc_greatest_gone (λvs H Q E h=>?_) (λcdv A outer s H vs Q E hr h=>?_)) (F.binds λ_ _ _ _ _ _ us hl=>by obtain ⟨_,rfl⟩:=L2.lq1 hl;rfl)
 ·obtain ⟨l,ro,D,rfl,_⟩:=h;rfl
 ·obtain ⟨l,ro,D,rfl,hl,A0,q⟩:=h
  obtain ⟨dx,hob⟩:=A0.ob;refine ⟨_,(jB3 (jS 1 nd qbp) (qbz AQ rfl (qa1 (pv 0)) (jN 2 nd) (qad (jS 1 nd (jF (qe7 T) hr (jA2 (pv 1) (jI (qa0 (pv 2) T.cl_Roll (qep T) (hr.mono (by decide))) (qdt qb5 qaa))))))) (qah (pv 1))),?_⟩;refine ⟨_,rfl,l,rfl,⟨_,SqL.of hl⟩,qbn (xs:=[.ref ro]) (λi σ H'=>Same H H'/\∃ v,σ=[some (.ref l),some (if i=0 then V.non else gv D.ge),v]) ⟨Same.refl _,none,rfl⟩ (λi σ H' _ h'=>SqL.of (h'.1 _ _ hl)) ?_ ?_⟩
  ·rintro i x σ H2 hi ⟨s2,v,rfl⟩
   have i0:i=0:=by
    have:=(Ai.mp hi).1
    simp at this;exact this
   subst i0;cases hi;refine qan ?_;refine ⟨_,rfl,_,rfl,ro,dx,_,rfl,s2 _ _ hob,qif _ _ _ _ _,qq0 ⟨ro,D,rfl,A0.same s2,λle H3 n3=>?_⟩⟩;have hat:atI (D.es.map V.int ++ [gv D.ge]) (-1)=some (gv D.ge):=qh7 (by simp);refine ⟨_,rfl,le,_,_,_,rfl,rfl,SqL.of n3.at_,hat,?_⟩;refine ⟨_,_,rfl,.inl rfl,qDs _,s2.trans n3.same,some (.ref ro),?_⟩
   cases D.ge<;>rfl
  ·rintro σ H2 ⟨s2,v,rfl⟩
   exact ⟨_,rfl,q H2 s2⟩
inductive qpz (C R G:Addr) (vs:List V) (H:Hp) (E_:VK) (E:XK):Prop
 | mk:∀ (l ro:Addr) (D:qar) (z x:Int),vs=[.ref l,.int x,.non]->H l=some (.lst [.ref ro])->RollAt C R H ro D->D.ge=some z->x<z->(∀ dx H2 H3,Same H H2->New H2 H3 dx (.xd [("edge",.int z)])->E (.ref G) (some dx) H3)->qpz C R G vs H E_ E
include T in
theorem qi8:qva P w K mg base 5 "pieces_of_all" ["rolls", "a", "b"] [] (qpz C_Roll C_Rule C_Gone):=by
 obtain ⟨f,fd,F,hm⟩:=T.f_pieces_of_all;have nd:=sc_pieces_of_all.nd;refine ⟨f,fd,(F.okX sc_pieces_of_all (λvs H Q E h=>?_) (λcdv A outer s H vs Q E hr h=>?_)),hm,F.kp,(F.binds λ_ _ _ _ _ _ us hl=>by obtain ⟨_,_,_,rfl⟩:=L2.lq3 hl;rfl)⟩
 ·obtain ⟨l,ro,D,z,x,rfl,_⟩:=h;rfl
 ·obtain ⟨l,ro,D,z,x,rfl,hl,A0,ez,lt,qE⟩:=h
  refine ⟨_,(jB2 (qat (jW (qla T) hr (jA2 (jF (qi7 T) hr (jA1 (pv 0))) (pv 1)))) qbm),?_⟩;refine ⟨_,rfl,l,ro,D,rfl,hl,A0,λH1 s1=>?_⟩;rw[ez];exact ⟨_,rfl,z,x,.non,rfl,rfl,lt,λdx H3 n3=>qE dx H1 H3 s1 n3⟩
inductive qgl (C R G:Addr) (vs:List V) (H:Hp) (E_:VK) (E:XK):Prop
 | mk:∀ (l ro:Addr) (D:qar) (z x:Int),vs=[.str (Str.ofString "many"),.ref l,.int x,.non]->H l=some (.lst [.ref ro])->RollAt C R H ro D->D.ge=some z->x<z->(∀ dx H2 H3,Same H H2->New H2 H3 dx (.xd [("edge",.int z)])->E (.ref G) (some dx) H3)->qgl C R G vs H E_ E
include T in
theorem qzq:∃ f fd dT o n,qf7 P w K mg base (CX1 P w) 6 f fd ["word", "rolls", "a", "b"] (qgl C_Roll C_Rule C_Gone)/\FunD K "asked" "asked" qnz (.ref dT) f fd/\mg "asked" = some (.ref f)/\fd.defaults=.ref dT/\K.lookup dT=some o/\o.data=.seq #[.none,.none] n:=by
 obtain ⟨f,fd,dT,o,n,F,M,h1,h2,h3⟩:=T.f_asked;have nd:=sc_asked.nd;refine ⟨f,fd,dT,o,n,(F.okX sc_asked (λvs H Q E h=>?_) (λcdv A outer s H vs Q E hr h=>?_)),F,M,h1,h2,h3⟩
 ·obtain ⟨l,ro,D,z,x,rfl,_⟩:=h;rfl
 ·obtain ⟨l,ro,D,z,x,rfl,hl,A0,ez,lt,qE⟩:=h
  refine ⟨_,(jB3 (jS 4 nd (jF (qt4 T) hr (jA1 (pv 0)))) (jS 5 nd (jW (qi8 T) hr (jA3 (pv 1) (pv 2) (pv 3)))) qbm),?_⟩;refine ⟨_,rfl,.non,rfl,rfl,λme H1 s1=>qan ?_⟩;exact ⟨_,rfl,_,rfl,_,rfl,l,ro,D,z,x,rfl,s1 _ _ hl,A0.same s1,ez,lt,λdx H2 H3 s2 n3=>qE dx H2 H3 (s1.trans s2) n3⟩
include T in
theorem qt6:qva P w K mg base 6 "asked" ["word", "rolls", "a", "b"] [.none] (qgl C_Roll C_Rule C_Gone):=by
 obtain ⟨f,fd,dT,o,n,hf,F,M,h1,h2,h3⟩:=qzq (P:=P) (w:=w) (base:=base) T;refine ⟨f,fd,hf,M,F.kp,qga h1 h2 h3 λus hl=>?_⟩;obtain ⟨oc,od,kV,doc,pm,an,cdv,ct,osl,rfl,lk,hcd⟩:=F.ex;obtain ⟨_,_,_,rfl⟩:=L2.lq3 (us:=us) (by simpa using hl);exact ⟨_,rfl,rfl⟩
inductive qm6 (K:Frag) (vs:List V) (H:Hp) (Q:VK) (E_:XK):Prop
 | mk:∀ (a:Addr) (ns:List Int) (k:Int),vs=[.ref a,.int k]->SqL K H a (ns.map V.int)->0<=k->Q (.int (ns[k.toNat]?.getD 0)) H->qm6 K vs H Q E_
include T in
theorem qb1:qba P w K mg base 1 "_law_cell_at" ["_law_script", "_law_k"] (qm6 K):=by
 obtain ⟨f,fd,F,hm⟩:=T.f__law_cell_at;have nd:=sc__law_cell_at.nd;refine F.def_ hm (F.ok sc__law_cell_at (λvs H Q E h=>?_) (λcdv A outer s H vs Q E hr h=>?_)) (F.binds λ_ _ _ _ _ _ us hl=>by obtain ⟨_,_,rfl⟩:=L2.lq2 hl;rfl)
 ·obtain ⟨a,ns,k,rfl,_⟩:=h;rfl
 ·obtain ⟨a,ns,k,rfl,hS,h0,q⟩:=h
  refine ⟨_,(jB2 (qa2 (jC qhl (pv 1) (qal qau rfl T.b_len qcj (jA1 (pv 0)))) (qad (qah (jI (pv 0) (pv 1)))) qak) (qah qaa)),?_⟩
  walk_at "r"
  refine qjg (λz=>?_) λz=>?_
  ·have z':k<ns.length:=by simpa using z
   have hk:k.toNat<ns.length:=by omega
   have hi:atI (ns.map V.int) k=some (.int ns[k.toNat]):=by
    have:=qf8 (xs:=ns.map V.int) (j:=k.toNat) (v:=V.int ns[k.toNat]) (by simp[hk])
    rwa [Int.toNat_of_nonneg h0] at this
   walk_at "r"
   rw[Ad hk] at q;exact q
  ·have z':¬ k<ns.length:=by simpa using z
   rw[BM (by omega)] at q;exact q
def qz0 (d k:Int):Int:=(d % 2147483629+69621*k+1)*48271 % 2147483629*((d % 2147483629+69621*k+1)*48271 % 2147483629 / 1009+69621) % 2147483629
def qv1:Sp:=λvs H Q _=>∃ d k,vs=[.int d,.int k]/\0<=k/\k<=200/\∀ m,(0<=m/\m=qz0 d k)->m<2147483629->Q (.int m) H
include T in
theorem qai:qba P w K mg base 1 "_law_mixed" ["_law_draw", "_law_k"] qv1:=by
 obtain ⟨f,fd,F,hm⟩:=T.f__law_mixed;have nd:=sc__law_mixed.nd;refine F.def_ hm (F.ok sc__law_mixed (λvs H Q E h=>?_) (λcdv A outer s H vs Q E hr h=>?_)) (F.binds λ_ _ _ _ _ _ us hl=>by obtain ⟨_,_,rfl⟩:=L2.lq2 hl;rfl)
 ·obtain ⟨d,k,rfl,_⟩:=h;rfl
 ·obtain ⟨d,k,rfl,h1,h2,q⟩:=h
  refine ⟨_,(jB2 (jS 2 nd (qag qav (qag qd9 (qag qa4 (qag qa4 (qag qav (pv 0) qaa) (qag qd9 qaa (pv 1))) qaa) qaa) qaa)) (qah (qag qav (qag qd9 (pv 2) (qag qa4 (qag qc0 (pv 2) qaa) qaa)) qaa))),?_⟩;have m1:0<=d % 2147483629/\d % 2147483629<2147483629:=by omega
  walk_at "r"
  exact q _ ⟨by omega,rfl⟩ (by omega)
theorem qB0:(Str.ofString "abcdefghijklmnopqrstuvwxyz")=S [97,98,99,100,101,102,103,104,105,106,107,108,109,110,111,112,113,114,115,116,117,118,119,120,121,122]:=by decide +kernel
theorem qp0 {i:Int} (h0:0<=i) (h1:i<26):∃ c,[97,98,99,100,101,102,103,104,105,106,107,108,109,110,111,112,113,114,115,116,117,118,119,120,121,122][i.toNat]?=some c/\(97<=c/\c<=122)/\c=97+i.toNat:=by
 obtain ⟨j,rfl⟩:=CD h0;have hj:j<26:=by omega
 have al:∀ j,j<26->[97,98,99,100,101,102,103,104,105,106,107,108,109,110,111,112,113,114,115,116,117,118,119,120,121,122][j]?=some (97+j):=by decide
 exact ⟨97+j,al j hj,by omega,rfl⟩
theorem Fg:∀ cs:List Nat,qjj [] (cs.map λc=>[c])=cs
 | []=>rfl
 | [c]=>rfl
 | c :: d :: cs=>by
  have ih:=Fg (d :: cs)
  show [c] ++ [] ++ qjj [] ((d :: cs).map λc=>[c])=_
  rw[ih];rfl
theorem qn5:∀ cs:List Nat,((cs.map λc=>[c]).map List.length).sum=cs.length
 | []=>rfl
 | c :: cs=>by
  have ih:=qn5 cs;simp only[Aw,List.sum_cons,Az,BO] at ih ⊢;omega
def qv2:Sp:=λvs H Q _=>∃ d k,vs=[.int d,.int k]/\∀ (x:List Nat) H',Same H H'->qax 8 x->Q (.str (S x)) H'
include T in
theorem qn6:qba P w K mg base 2 "_law_mark" ["_law_draw", "_law_k"] qv2:=by
 obtain ⟨f,fd,F,hm⟩:=T.f__law_mark;have nd:=sc__law_mark.nd;refine F.def_ hm (F.ok sc__law_mark (λvs H Q E h=>?_) (λcdv A outer s H vs Q E hr h=>?_)) (F.binds λ_ _ _ _ _ _ us hl=>by obtain ⟨_,_,rfl⟩:=L2.lq2 hl;rfl)
 ·obtain ⟨d,k,rfl,_⟩:=h;rfl
 ·obtain ⟨d,k,rfl,q⟩:=h
  refine ⟨_,(jB5 (qoe (i:=2) nd rfl (Or.inr rfl) qbr) (jS 3 nd (qag qav (jF (qai T) hr (jA2 (pv 0) qaa)) qaa)) (jS 4 nd (qkk ER E5 E4 qsu qbr (jA1 (qhd (vars:=[ "_law_j" ]) (frees:=[ "_law_some", "_law_draw" ]) (fv:=[2,0]) rfl (jL2 rfl) ⟨⟨rfl,.inl rfl,rfl,.inl rfl⟩,⟨⟨rfl,.inl rfl,rfl,.inl rfl⟩,trivial⟩⟩ (qd8 rfl T.b_range (jA1 (pv 3))) (qec (by decide)) (λ_ _ _ _=>(jM 0 [ "_law_j", "_law_some", "_law_draw" ])) (λ_ _ _ _=>qbg) (λ_ _ _ _=>(qo3 (pv 1) (qag qav (jF (qai T) hr (jA2 (pv 2) (qag qa4 qaa (pv 0)))) qaa) (λ_ _=>rfl))))))) (jS 5 nd (qag qav (jF (qai T) hr (jA2 (pv 0) qaa)) (qag qa4 (pv 3) qaa))) (qah (qag qex (qag qex (qbo qo2 (pv 4) qb6 (qbx (pv 5))) (qo3 (pv 2) (qag qav (qag qa4 (qag qc0 (pv 0) qaa) (qag qd9 qaa (pv 1))) qaa) (λ_ _=>rfl))) (qbo qo2 (pv 4) (qbx (pv 5)) qb6)))),?_⟩;rw[qB0]
  walk_at "r"
  intro m m0 m1
  walk_at "r"
  have m8:0<=m % 8/\m % 8<8:=by omega
  refine qib (n:=(m % 8).toNat) (λi ys H2=>Same H H2/\∃ cs:List Nat,cs.length=i/\(∀ c∈cs,97<=c/\c<=122)/\ys=cs.map λc=>V.str (S [c])) (qc3 (by omega)) ⟨Same.refl _,[],rfl,by simp,rfl⟩ (λi ys H2 h2=>by obtain ⟨_,cs,h3,_,h4⟩:=h2;rw[h4,Ac,h3];exact Ag _) ?_ ?_
  ·rintro i ys H2 hi ⟨s2,cs,hl,hc,rfl⟩
   refine qan (qop (qc6 ?_))
   walk_at "r"
   intro a a0 a1;have a26:0<=a % 26/\a % 26<26:=by omega
   obtain ⟨c,hca,hcb,_⟩:=qp0 a26.1 a26.2
   walk_at "r"
   refine ⟨_,_,c,rfl,rfl,a26.1,by omega,hca,?_⟩;refine ⟨s2,cs ++ [c],by simp[hl],λx hx=>?_,by simp⟩
   rcases AA.mp hx with z|z
   ·exact hc x z
   ·rw[Aj.mp z];exact hcb
  ·rintro ys H2 p H3 ⟨s2,cs,hl,hc,rfl⟩ n3
   rw[qty];have e3:H3 p=some (.lst ((cs.map λc=>[c]).map λq=>V.str (S q))):=by rw[AI];exact n3.at_
   refine ⟨[],cs.map λc=>[c],p,rfl,rfl,SqL.of e3,by rw[qn5];simp;omega,?_⟩;rw[Fg];have s3:=s2.trans n3.same
   walk_at "r"
   intro b b0 b1;obtain ⟨j,hj⟩:=CD (Be b (show (m % 8+1)≠0 by omega));have hj1:=A8 b (show (0:Int)<m % 8+1 by omega);rw[hj] at hj1;have lj:j<=cs.length:=by omega
   have lc8:cs.length<=7:=by omega
   have d26:0<=(d / 3+7*k) % 26/\(d / 3+7*k) % 26<26:=by omega
   obtain ⟨c,hca,hcb,_⟩:=qp0 d26.1 d26.2
   walk_at "r"
   rw[hj,qss cs lj];refine ⟨qc3 (by rw[qc5,As];omega),?_⟩
   walk_at "r"
   refine ⟨_,_,c,rfl,rfl,d26.1,by omega,hca,?_⟩
   walk_at "r"
   refine ⟨qc3 (by rw[qc5,qc5,As];simp;omega),?_⟩;rw[qvi]
   walk_at "r"
   rw[qst cs j];refine ⟨qc3 (by rw[qc5,Co];omega),?_⟩
   walk_at "r"
   refine ⟨qc3 (by rw[qc5,qc5];simp;omega),?_⟩;rw[qvi];refine q _ _ s3 ⟨by simp;omega,by simp;omega,λx hx=>?_⟩
   rcases AA.mp hx with z|z
   ·rcases AA.mp z with z|z
    ·exact hc x (Cj z)
    ·rw[Aj.mp z];exact hcb
   ·exact hc x (CQ z)
def ltr (z:Int):Nat:=97+(z % 26).toNat
def qv3 (d:Int):List Nat:=(List.range (qz0 d 1 % 12).toNat).map λj=>ltr (qz0 d (3+(j:Nat)))
def atF (d:Int):Nat:=(qz0 d 2 % (qz0 d 1 % 12+1)).toNat
def nmF (d k:Int):List Nat:=(qv3 d).take (atF d) ++ [ltr (d+5*k)] ++ (qv3 d).drop (atF d)
theorem qB1 {d k l:Int} (h:k≠l) (h1:k<l+26) (h2:l<k+26):nmF d k≠nmF d l:=λe=>by
 unfold nmF at e;rw[Dd,Dd] at e;have e2:=EJ e;have e3:ltr (d+5*k)=ltr (d+5*l):=by injection e2
 unfold ltr at e3;have n1:=Be (d+5*k) (show (26:Int)≠0 by decide);have n2:=Be (d+5*l) (show (26:Int)≠0 by decide);have e4:(d+5*k) % 26=(d+5*l) % 26:=by omega
 omega
def qq1:Sp:=λvs H Q _=>∃ d k,vs=[.int d,.int k]/\∀ H',Same H H'->qax 12 (nmF d k)->Q (.str (S (nmF d k))) H'
include T in
theorem qi9:qba P w K mg base 2 "_law_name" ["_law_draw", "_law_k"] qq1:=by
 obtain ⟨f,fd,F,hm⟩:=T.f__law_name;have nd:=sc__law_name.nd;refine F.def_ hm (F.ok sc__law_name (λvs H Q E h=>?_) (λcdv A outer s H vs Q E hr h=>?_)) (F.binds λ_ _ _ _ _ _ us hl=>by obtain ⟨_,_,rfl⟩:=L2.lq2 hl;rfl)
 ·obtain ⟨d,k,rfl,_⟩:=h;rfl
 ·obtain ⟨d,k,rfl,q⟩:=h
  refine ⟨_,(jB5 (qoe (i:=2) nd rfl (Or.inr rfl) qbr) (jS 3 nd (qag qav (jF (qai T) hr (jA2 (pv 0) qaa)) qaa)) (jS 4 nd (qkk ER E5 E4 qsu qbr (jA1 (qhd (vars:=[ "_law_j" ]) (frees:=[ "_law_some", "_law_draw" ]) (fv:=[2,0]) rfl (jL2 rfl) ⟨⟨rfl,.inl rfl,rfl,.inl rfl⟩,⟨⟨rfl,.inl rfl,rfl,.inl rfl⟩,trivial⟩⟩ (qd8 rfl T.b_range (jA1 (pv 3))) (qec (by decide)) (λ_ _ _ _=>(jM 0 [ "_law_j", "_law_some", "_law_draw" ])) (λ_ _ _ _=>qbg) (λ_ _ _ _=>(qo3 (pv 1) (qag qav (jF (qai T) hr (jA2 (pv 2) (qag qa4 qaa (pv 0)))) qaa) (λ_ _=>rfl))))))) (jS 5 nd (qag qav (jF (qai T) hr (jA2 (pv 0) qaa)) (qag qa4 (pv 3) qaa))) (qah (qag qex (qag qex (qbo qo2 (pv 4) qb6 (qbx (pv 5))) (qo3 (pv 2) (qag qav (qag qa4 (pv 0) (qag qd9 qaa (pv 1))) qaa) (λ_ _=>rfl))) (qbo qo2 (pv 4) (qbx (pv 5)) qb6)))),?_⟩;rw[qB0]
  walk_at "r"
  intro m m0 m1
  walk_at "r"
  have m12:0<=m % 12/\m % 12<12:=by omega
  refine qib (n:=(m % 12).toNat) (λi ys H2=>Same H H2/\∃ cs:List Nat,cs.length=i/\((∀ c∈cs,97<=c/\c<=122)/\cs=(List.range i).map λj=>ltr (qz0 d (3+(j:Nat))))/\ys=cs.map λc=>V.str (S [c])) (qc3 (by omega)) ⟨Same.refl _,[],rfl,⟨by simp,rfl⟩,rfl⟩ (λi ys H2 h2=>by obtain ⟨_,cs,h3,_,h4⟩:=h2;rw[h4,Ac,h3];exact Ag _) ?_ ?_
  ·rintro i ys H2 hi ⟨s2,cs,hl,⟨hc,hcs⟩,rfl⟩
   refine qan (qop (qc6 ?_))
   walk_at "r"
   intro a a0 a1;have a26:0<=a % 26/\a % 26<26:=by omega
   obtain ⟨c,hca,hcb,hcc⟩:=qp0 a26.1 a26.2
   walk_at "r"
   refine ⟨_,_,c,rfl,rfl,a26.1,by omega,hca,?_⟩;refine ⟨s2,cs ++ [c],by simp[hl],⟨λx hx=>?_,?_⟩,by simp⟩
   case refine_2 =>
    rw[List.range_succ,AB,<- hcs,hcc,a0.2,List.map_singleton,CJ];rfl
   rcases AA.mp hx with z|z
   ·exact hc x z
   ·rw[Aj.mp z];exact hcb
  ·rintro ys H2 p H3 ⟨s2,cs,hl,⟨hc,hcs⟩,rfl⟩ n3
   rw[qty];have e3:H3 p=some (.lst ((cs.map λc=>[c]).map λq=>V.str (S q))):=by rw[AI];exact n3.at_
   refine ⟨[],cs.map λc=>[c],p,rfl,rfl,SqL.of e3,by rw[qn5];simp;omega,?_⟩;rw[Fg];have s3:=s2.trans n3.same
   walk_at "r"
   intro b b0 b1;obtain ⟨j,hj⟩:=CD (Be b (show (m % 12+1)≠0 by omega));have hj1:=A8 b (show (0:Int)<m % 12+1 by omega);rw[hj] at hj1;have lj:j<=cs.length:=by omega
   have lc8:cs.length<=11:=by omega
   have d26:0<=(d+5*k) % 26/\(d+5*k) % 26<26:=by omega
   obtain ⟨c,hca,hcb,hcc⟩:=qp0 d26.1 d26.2
   walk_at "r"
   rw[hj,qss cs lj];refine ⟨qc3 (by rw[qc5,As];omega),?_⟩
   walk_at "r"
   refine ⟨_,_,c,rfl,rfl,d26.1,by omega,hca,?_⟩
   walk_at "r"
   refine ⟨qc3 (by rw[qc5,qc5,As];simp;omega),?_⟩;rw[qvi]
   walk_at "r"
   rw[qst cs j];refine ⟨qc3 (by rw[qc5,Co];omega),?_⟩
   walk_at "r"
   refine ⟨qc3 (by rw[qc5,qc5];simp;omega),?_⟩;rw[qvi];have eb:cs=qv3 d:=by rw[hcs];unfold qv3;rw[<- m0.2]
   have ej:j=atF d:=by unfold atF;rw[<- m0.2,<- b0.2,hj];rfl
   have ec:c=ltr (d+5*k):=hcc;have en:cs.take j ++ [c] ++ cs.drop j=nmF d k:=by unfold nmF;rw[<- eb,<- ej,<- ec]
   have sw:qax 12 (cs.take j ++ [c] ++ cs.drop j):=⟨by simp;omega,by simp;omega,λx hx=>by
    rcases AA.mp hx with z|z
    ·rcases AA.mp z with z|z
     ·exact hc x (Cj z)
     ·rw[Aj.mp z];exact hcb
    ·exact hc x (CQ z)⟩
   rw[en] at sw ⊢;exact q _ s3 sw
theorem qE7 {s u:TS} {D:Ends} {σ:St} {H:Hp} (J:St->Hp->Prop) (h1:∀ N:St->Hp->Prop,(∀ σ' H',J σ' H'->N σ' H')->s { D with nx:=N } σ H) (h2:∀ σ' H',J σ' H'->u D σ' H'):qd3 s u D σ H:=h1 (u D) h2
theorem qdx {F:St->Hp->Prop} {σ σ':St} {H:Hp} (e:σ=σ') (h:F σ' H):F σ H:=e ▸ h
structure PrB (ps:List (Int×Int)) (g:Option Int):Prop where
 P:Pr ps g
 b:∀ p∈ps,p.1<10 ^ 23/\p.2<=3072
 gb:∀ z,g=some z->z<10 ^ 23
theorem PrB.wb {ps:List (Int×Int)} {g:Option Int} (h:PrB ps g):∀ p∈ps,p.2<=10 ^ 35:=λp hp=>Int.le_trans (h.b p hp).2 (by decide)
def wB:Nat->Int
 | 0=>3
 | n+1=>4*wB n
structure Chn (qs:List (Int×Int)) (age width:Int):Prop where
 each:∀ (i:Nat) p,qs[i]?=some p->(0<=p.1/\p.1<10 ^ 23)/\1<=p.2/\p.2<=3072
 next:∀ (i:Nat) p q,qs[i]?=some p->qs[i+1]?=some q->p.1<=q.1/\q.2 % p.2=0
 last:∀ p,qs[qs.length-1]?=some p->p.1<=age/\width % p.2=0
theorem Chn.nil (a w:Int):Chn [] a w:=⟨λi p h=>by simp at h,λi p q h=>by simp at h,λp h=>by simp at h⟩
theorem Chn.snoc {qs:List (Int×Int)} {a w a' k:Int} (h:Chn qs a w) (a0:0<=a) (a1:a<10 ^ 23) (w0:1<=w) (w1:w<=3072) (ha:a<=a'):Chn (qs ++ [(a,w)]) a' (w*k):=by
 refine ⟨λi p e=>?_,λi p q e e'=>?_,λp e=>?_⟩
 ·rw[Fm] at e
  split at e
  ·exact h.each i p e
  ·have:p=(a,w):=by
    have:=An e
    simpa using this
   subst this;exact ⟨⟨a0,a1⟩,w0,w1⟩
 ·rw[Fm] at e e'
  split at e'
  ·rw[Al (by omega)] at e
   exact h.next i p q e e'
  ·have hq:q=(a,w):=by
    have:=An e'
    simpa using this
   have h0:i+1-qs.length=0:=by
    have:=(Ai.mp e').1
    simp at this
    omega
   rw[Al (by omega)] at e;rw[show i=qs.length-1 by omega] at e;subst hq;exact h.last p e
 ·rw[Aq,Bm,Nat.add_sub_cancel,BE (Ag _),Nat.sub_self] at e
  cases e;exact ⟨ha,Int.mul_emod_right _ _⟩
theorem Chn.pr {qs:List (Int×Int)} {a w:Int} {g:Option Int} (h:Chn qs a w) (h1:1<=qs.length) (h5:qs.length<=5) (hg:∀ z,g=some z->a<=z/\z<10 ^ 23):PrB qs g:=by
 refine ⟨⟨⟨h1,h5,λi p e=>⟨(h.each i p e).1.1,(h.each i p e).2.1⟩,h.next⟩,λi p e=>?_,λp e z ez=>Int.le_trans (h.last p e).1 (hg z ez).1,λz ez=>?_⟩,λp hp=>?_,λz ez=>(hg z ez).2⟩
 ·have:=h.each i p e
  exact ⟨this.1.1,by omega,this.2.1,by omega⟩
 ·have:=hg z ez
  obtain ⟨p,e⟩:∃ p,qs[qs.length-1]?=some p:=⟨_,Ad (by omega)⟩;have l:=h.last p e;have q:=h.each _ p e;exact ⟨by omega,by omega⟩
 ·obtain ⟨i,hi,e⟩:=AZ hp
  have:=h.each i p (by rw[<- e];exact Ad hi);exact ⟨this.1.2,this.2.2⟩
theorem qE8 (m w:Int) (h0:1<=w) (h1:w<=10 ^ 20):∃ z,atI [V.int 1,V.int 1,V.int 10,V.int w] (m % 4)=some (.int z)/\1<=z/\z<=10 ^ 20:=by
 rcases (show m % 4=0\/m % 4=1\/m % 4=2\/m % 4=3 by omega) with e|e|e|e<;>rw[e]
 ·exact ⟨_,rfl,by decide,by decide⟩
 ·exact ⟨_,rfl,by decide,by decide⟩
 ·exact ⟨_,rfl,by decide,by decide⟩
 ·exact ⟨_,rfl,h0,h1⟩
theorem qq2 {x k w:Int} (h0:0<=x) (h1:x<=k) (w0:1<=w) (w1:w<=10 ^ 20):0<=x*w/\x*w<=k*10 ^ 20:=
 ⟨Int.mul_nonneg h0 (by omega),En h1 w1 (by omega) (by omega)⟩
theorem qDt {i:Nat} (h:i<=5):wB i<=3072:=by
 rcases (show i=0\/i=1\/i=2\/i=3\/i=4\/i=5 by omega) with rfl|rfl|rfl|rfl|rfl|rfl<;>decide
def qq3:Sp:=λvs H Q _=>∃ d,vs=[.int d]/\∀ t l xs ps g H',Same H H'->H l=none->H' t=some (.tup [.ref l,gv g])->H' l=some (.lst xs)->Pairs H' xs ps->PrB ps g->Q (.ref t) H'
include T in
theorem qn7:qba P w K mg base 2 "_law_rule" ["_law_draw"] qq3:=by
 obtain ⟨f,fd,F,hm⟩:=T.f__law_rule;have nd:=sc__law_rule.nd;refine F.def_ hm (F.ok sc__law_rule (λvs H Q E h=>?_) (λcdv A outer s H vs Q E hr h=>?_)) (F.binds λ_ _ _ _ _ _ us hl=>by obtain ⟨_,rfl⟩:=L2.lq1 hl;rfl)
 ·obtain ⟨d,rfl,_⟩:=h;rfl
 ·obtain ⟨d,rfl,q⟩:=h
  refine ⟨_,(jB7 (jS 1 nd (jI (qa8 (jA4 qaa qaa qaa (qag qa4 qaa (qag qav (qag qc0 (pv 0) qaa) (qag qgn qaa qaa))))) (qag qav (jF (qai T) hr (jA2 (pv 0) qaa)) qaa))) (jS 2 nd (qag qb2 (qag qav (jF (qai T) hr (jA2 (pv 0) qaa)) qaa) (pv 1))) (jS 3 nd (qag qa4 qaa (qag qav (jF (qai T) hr (jA2 (pv 0) qaa)) qaa))) (jS 4 nd (qa8 qdz)) (qbz AQ rfl (qd8 rfl T.b_range (jA1 (qag qa4 qaa (qag qav (jF (qai T) hr (jA2 (pv 0) qaa)) qaa)))) (jN 5 nd) (jB3 (qat (qkk BA By Bx qcf (pv 4) (jA1 (qbj (jA2 (pv 2) (pv 3)))))) (jS 2 nd (qag qa4 (pv 2) (qag qb2 (qag qav (jF (qai T) hr (jA2 (pv 0) (qag qa4 qaa (qag qd9 qaa (pv 5))))) qaa) (pv 1)))) (jS 3 nd (qag qb2 (pv 3) (qag qa4 qaa (qag qav (jF (qai T) hr (jA2 (pv 0) (qag qa4 qaa (qag qd9 qaa (pv 5))))) qaa)))))) (qa2 (jC qey (qag qav (jF (qai T) hr (jA2 (pv 0) qaa)) qaa) qaa) (qad (qah (qbj (jA2 (pv 4) qbp)))) qak) (qah (qbj (jA2 (pv 4) (qag qa4 (pv 2) (qag qb2 (qag qav (jF (qai T) hr (jA2 (pv 0) qaa)) qaa) (pv 1))))))),?_⟩;have w20:0<=d / 7 % 10 ^ 20/\d / 7 % 10 ^ 20<10 ^ 20:=⟨Be _ (by decide),A8 _ (by decide)⟩
  walk_at "r";intro p0 H0 n0
  walk_at "r";intro m0 m00 m01
  obtain ⟨z,hz,z0,z1⟩:=qE8 m0 (1+d / 7 % 10 ^ 20) (by omega) (by omega);refine ⟨_,_,rfl,rfl,by decide,p0,_,_,_,rfl,rfl,SqL.of n0.at_,hz,qan ?_⟩;refine qdx (σ':=[some (.int d),some (.int z),none,none,none,none]) rfl ?_;refine ⟨_,rfl,d,41,rfl,by decide,by decide,λm1 m10 m11=>?_⟩;have ma:=qq2 (x:=m1 % 4) (k:=3) (by omega) (by omega) z0 z1;refine ⟨_,_,rfl,rfl,by decide,_,rfl,_,_,rfl,rfl,⟨⟨by omega,by omega⟩,by omega,by omega⟩,qan ?_⟩
  generalize m1 % 4*z=age0 at ma
  refine qdx (σ':=[some (.int d),some (.int z),some (.int age0),none,none,none]) rfl ?_;refine ⟨_,rfl,d,42,rfl,by decide,by decide,λm2 m20 m21=>?_⟩;refine ⟨_,_,rfl,rfl,by decide,_,_,rfl,rfl,qan ?_⟩;refine qdx (σ':=[some (.int d),some (.int z),some (.int age0),some (.int (1+m2 % 3)),none,none]) rfl ?_;refine ⟨AW _,λl H1 n1=>qan ?_⟩;refine qdx (σ':=[some (.int d),some (.int z),some (.int age0),some (.int (1+m2 % 3)),some (.ref l),none]) rfl ?_;refine ⟨_,rfl,d,43,rfl,by decide,by decide,λm3 m30 m31=>?_⟩;have fl:H l=none:=n0.same.free n1.fresh;refine ⟨_,_,rfl,rfl,by decide,_,_,rfl,rfl,_,rfl,by omega,by omega,qld (n:=(1+m3 % 5).toNat) (λi σ H2=>Same H H2/\∃ (qs:List (Int×Int)) (xs:List V) (a w':Int) (v5:Option V),H2 l=some (.lst xs)/\Pairs H2 xs qs/\qs.length=i/\Chn qs a w'/\(0<=a/\a<=(3+4*i)*10 ^ 20)/\(1<=w'/\w'<=wB i)/\σ=[some (.int d),some (.int z),some (.int a),some (.int w'),some (.ref l),v5]) ⟨n0.same.trans n1.same,[],[],age0,_,_,n1.at_,.nil,rfl,Chn.nil _ _,⟨ma.1,by have:=ma.2;simpa using this⟩,⟨by omega,by show 1+m2 % 3<=3;omega⟩,rfl⟩ ?_ ?_⟩
  ·rintro i σ H2 hi ⟨s2,qs,xs,a,w',v5,hl,hp,hq,ch,ab,wb,rfl⟩
   rw[CJ];have i5:i<5:=by omega
   have w5:=qDt (i:=i) (by omega);have xl:=hp.length;refine qan (qdx (σ':=[some (.int d),some (.int z),some (.int a),some (.int w'),some (.ref l),some (.int i)]) rfl ?_);refine ⟨_,rfl,.inl ⟨rfl,_,SqL.of hl⟩,_,rfl,_,rfl,qc3 (by simp),λt H3 n3=>?_⟩;refine ⟨l,_,_,rfl,rfl,n3.same _ _ hl,qao (by omega),λH4 b4 h4=>?_⟩;refine ⟨_,rfl,_,rfl,_,rfl,_,_,rfl,rfl,by walk_at "c",_,_,rfl,rfl,d,_,rfl,by omega,by omega,λm4 m40 m41=>?_⟩;have mb:=qq2 (x:=m4 % 5) (k:=4) (by omega) (by omega) z0 z1;refine ⟨_,_,rfl,rfl,by decide,_,rfl,_,_,rfl,rfl,⟨⟨by omega,by omega⟩,by omega,by omega⟩,_,_,rfl,rfl,qan ?_⟩
   generalize m4 % 5*z=ad at mb
   refine qdx (σ':=[some (.int d),some (.int z),some (.int (a+ad)),some (.int w'),some (.ref l),some (.int i)]) rfl ?_;refine ⟨_,rfl,_,rfl,_,rfl,_,_,rfl,rfl,by walk_at "c",_,_,rfl,rfl,d,_,rfl,by omega,by omega,λm5 m50 m51=>?_⟩;refine ⟨_,_,rfl,rfl,by decide,_,_,rfl,rfl,_,_,rfl,rfl,⟨⟨by omega,by omega⟩,by omega,by omega⟩,qan ?_⟩;have wn:w'*(1+m5 % 4)<=wB i*4:=En wb.2 (by omega) (by omega) (by omega);have wp:1*1<=w'*(1+m5 % 4):=En wb.1 (by omega) (by omega) (by omega);refine ⟨b4.same (s2.trans n3.same) fl,qs ++ [(a,w')],_,a+ad,w'*(1+m5 % 4),_,h4,?_,by simp[hq],ch.snoc ab.1 (by omega) wb.1 (by omega) (by omega),⟨by omega,by have:=mb.2;omega⟩,⟨by omega,by show _<=4*wB i;omega⟩,rfl⟩;exact ((hp.same n3.same).but b4 (n3.same _ _ hl) qs9).snoc ⟨t,rfl,b4 _ _ n3.at_ (qaq n3.at_ (n3.same _ _ hl) (by intro z;cases z))⟩
  ·rintro σ H2 ⟨s2,qs,xs,a,w',v5,hl,hp,hq,ch,ab,wb,rfl⟩
   have n5:1<=qs.length/\qs.length<=5:=by omega
   refine ⟨_,rfl,d,60,rfl,by decide,by decide,λm6 m60 m61=>?_⟩;refine ⟨_,_,rfl,rfl,by decide,rfl,_,rfl,?_⟩;refine qjg (λz=>?_) λz'=>?_
   ·refine ⟨_,rfl,qc3 (by simp),λt H3 n3=>?_⟩
    exact q t l xs qs none H3 (s2.trans n3.same) fl n3.at_ (n3.same _ _ hl) (hp.same n3.same) (ch.pr n5.1 n5.2 λz e=>by cases e)
   ·refine ⟨_,rfl,_,rfl,_,rfl,d,61,rfl,by decide,by decide,λm7 m70 m71=>?_⟩
    have mb:=qq2 (x:=m7 % 9) (k:=8) (by omega) (by omega) z0 z1;refine ⟨_,_,rfl,rfl,by decide,_,rfl,_,_,rfl,rfl,⟨⟨by omega,by omega⟩,by omega,by omega⟩,_,_,rfl,rfl,qc3 (by simp),λt H3 n3=>?_⟩;refine q t l xs qs (some (a+m7 % 9*z)) H3 (s2.trans n3.same) fl n3.at_ (n3.same _ _ hl) (hp.same n3.same) (ch.pr n5.1 n5.2 λy e=>?_);cases e;have:=ab.2;exact ⟨by omega,by omega⟩
def T42 (t:Int):Prop:=-(10 ^ 42)<t/\t<10 ^ 42
theorem qE9 (m a b c d:Int) {W:Int} (ha:1<=a/\a<W) (hb:1<=b/\b<W) (hc:1<=c/\c<W) (hd:1<=d/\d<W):∃ z,atI [V.int a,V.int b,V.int c,V.int d] (m % 4)=some (.int z)/\1<=z/\z<W:=by
 rcases (show m % 4=0\/m % 4=1\/m % 4=2\/m % 4=3 by omega) with e|e|e|e<;>rw[e]
 ·exact ⟨_,rfl,ha⟩
 ·exact ⟨_,rfl,hb⟩
 ·exact ⟨_,rfl,hc⟩
 ·exact ⟨_,rfl,hd⟩
theorem Pairs.at {H:Hp} {xs:List V} {ps:List (Int×Int)} (h:Pairs H xs ps) {i:Nat} (hi:i<ps.length):∃ a p,xs[i]?=some (.ref a)/\p∈ps/\ps[i]?=some p/\H a=some (.tup [.int p.1,.int p.2]):=by
 have hl:=h.length;have e:xs[i]?=some xs[i]:=Ad (by omega);obtain ⟨p,hp,a,ea,q⟩:=h.get e;rw[ea] at e;exact ⟨a,p,e,An hp,hp,q⟩
inductive qkb (vs:List V) (H:Hp) (Q:VK) (E_:XK):Prop
 | mk:∀ (l:Addr) (xs:List V) (ps:List (Int×Int)) (g:Option Int) (day d:Int),vs=[.ref l,gv g,.int day,.int d]->H l=some (.lst xs)->Pairs H xs ps->PrB ps g->(-(10 ^ 31)<=day/\day<=10 ^ 31)->(∀ t H',Same H H'->T42 t->Q (.int t) H')->qkb vs H Q E_
include T in
theorem qn8:qba P w K mg base 2 "_law_time" ["_law_steps", "_law_gone_here", "_law_day", "_law_draw"] qkb:=by
 obtain ⟨f,fd,F,hm⟩:=T.f__law_time;have nd:=sc__law_time.nd;refine F.def_ hm (F.ok sc__law_time (λvs H Q E h=>?_) (λcdv A outer s H vs Q E hr h=>?_)) (F.binds λ_ _ _ _ _ _ us hl=>by obtain ⟨_,_,_,_,rfl⟩:=L2.lq4 hl;rfl)
 ·obtain ⟨l,xs,ps,g,day,d,rfl,_⟩:=h;rfl
 ·obtain ⟨l,xs,ps,g,day,d,rfl,hl,hp,pb,hd,q⟩:=h
  have lo:=pb.P.good.lo;have xl:=hp.length;obtain ⟨aL,pL,eL,mL,_,hL⟩:=hp.at (i:=ps.length-1) (by omega);obtain ⟨a0,p0,e0,m0,_,h0⟩:=hp.at (i:=0) (by omega);rw[<- xl] at eL;have bL:=pb.b pL mL;have b0:=pb.b p0 m0;obtain ⟨iL,hiL,eiL⟩:=AZ mL;have gL:=pb.P.good.each iL pL (by rw[<- eiL];exact Ad hiL);obtain ⟨i0,hi0,ei0⟩:=AZ m0;have g0:=pb.P.good.each i0 p0 (by rw[<- ei0];exact Ad hi0);have i0':atI xs 0=some (.ref a0):=qf8 (j:=0) e0;refine ⟨_,(jB6 (jS 4 nd (qag qa4 (jT (jI (pv 0) (qdt qb5 qaa)) qaa) (jT (jI (pv 0) (qdt qb5 qaa)) qaa))) (jS 5 nd (jI (qa8 (jA4 qaa (qag qa4 (qag qa4 (qag qb2 qaa (jT (jI (pv 0) qaa) qaa)) (jT (jI (pv 0) qaa) qaa)) qaa) (qag qa4 (qag qb2 qaa (pv 4)) qaa) (qag qa4 (qag qb2 qaa (pv 4)) qaa))) (qag qav (jF (qai T) hr (jA2 (pv 3) qaa)) qaa))) (qa2 (jC qey (qag qav (jF (qai T) hr (jA2 (pv 3) qaa)) qaa) qaa) (qad (qah (qag qdk (pv 2) (qag qav (qag qc0 (pv 3) qaa) (qag qgn qaa qaa))))) qak) (jS 6 nd (qag qc0 (pv 3) qaa)) (qa2 (PW.pt (qod (jC qf4 (pv 1) qbp) (qkh (jC qey (qag qav (jF (qai T) hr (jA2 (pv 3) qaa)) qaa) qaa)))) (qad (qah (qag qa4 (qag qdk (qag qdk (pv 2) (pv 1)) (qag qav (pv 6) (qag qa4 (qag qb2 qaa (jT (jI (pv 0) (qdt qb5 qaa)) qaa)) qaa))) (jT (jI (pv 0) (qdt qb5 qaa)) qaa)))) qak) (qah (qag qdk (qag qa4 (pv 2) qaa) (qag qav (pv 6) (pv 5))))),?_⟩
  walk_at "r"
  intro p1 H1 n1
  walk_at "r"
  intro m1 m10 m11;obtain ⟨f,hf,f0,f1⟩:=qE9 m1 4 (2*p0.2+p0.1+2) (2*(pL.1+pL.2)+9) (3*(pL.1+pL.2)+9) (W:=10 ^ 25) (by decide) (by omega) (by omega) (by omega);refine ⟨_,_,rfl,rfl,by decide,p1,_,_,_,rfl,rfl,SqL.of n1.at_,hf,qan ?_⟩;refine qdx (σ':=[some (.ref l),some (gv g),some (.int day),some (.int d),some (.int (pL.1+pL.2)),some (.int f),none]) rfl ?_;have d40:0<=d / 5 % 10 ^ 40/\d / 5 % 10 ^ 40<10 ^ 40:=⟨Be _ (by decide),A8 _ (by decide)⟩;refine ⟨_,rfl,d,72,rfl,by decide,by decide,λm2 _ _=>⟨_,_,rfl,rfl,by decide,rfl,_,rfl,?_⟩⟩;refine qjg (λz=>?_) λz=>?_
  ·walk_at "r"
   exact q (day-d / 5 % 10 ^ 40) H1 n1.same ⟨by omega,by omega⟩
  refine ⟨_,rfl,_,_,rfl,rfl,by walk_at "c",qan ?_⟩;refine qdx (σ':=[some (.ref l),some (gv g),some (.int day),some (.int d),some (.int (pL.1+pL.2)),some (.int f),some (.int (d / 5))]) rfl ?_;have fin:T42 (day+3-d / 5 % f):=by
   have h1:=Be (d / 5) (show f≠0 by omega);have h2:=A8 (d / 5) (show 0<f by omega);exact ⟨by omega,by omega⟩
  refine ⟨_,rfl,rfl,_,rfl,?_⟩
  cases g with
  | none =>
   refine qds ?_;refine ⟨_,rfl,_,_,rfl,rfl,_,rfl,_,rfl,_,_,rfl,rfl,by walk_at "c",_,_,rfl,rfl,q _ H1 n1.same fin⟩
  | some gz =>
   refine qc6 ?_;refine ⟨_,rfl,d,73,rfl,by decide,by decide,λm3 _ _=>⟨_,_,rfl,rfl,by decide,rfl,_,rfl,?_⟩⟩;have gzb:=pb.gb gz rfl;have gz0:=(pb.P.gb gz rfl).1;refine qjg (λz=>?_) λz=>?_
   ·have hl1:=n1.same _ _ hl
    have hL1:=n1.same _ _ hL;have h1:=Be (d / 5) (show 2*pL.2+3≠0 by omega);have h2:=A8 (d / 5) (show 0<2*pL.2+3 by omega);have fin2:T42 (day-gz-d / 5 % (2*pL.2+3)+pL.2):=⟨by omega,by omega⟩;have e1:gv (some gz)=V.int gz:=rfl;refine qdx (σ':=[some (.ref l),some (.int gz),some (.int day),some (.int d),some (.int (pL.1+pL.2)),some (.int f),some (.int (d / 5))]) rfl ?_
    walk_at "r"
    exact q _ H1 n1.same fin2
   ·refine ⟨_,rfl,_,_,rfl,rfl,_,rfl,_,rfl,_,_,rfl,rfl,by walk_at "c",_,_,rfl,rfl,q _ H1 n1.same fin⟩
def qn9:Sp:=λvs H Q _=>∃ d,vs=[.int d]/\∀ v,-(10 ^ 40)<=v->v<=10 ^ 40->Q (.int v) H
include T in
theorem qm7:qba P w K mg base 2 "_law_value" ["_law_draw"] qn9:=by
 obtain ⟨f,fd,F,hm⟩:=T.f__law_value;have nd:=sc__law_value.nd;refine F.def_ hm (F.ok sc__law_value (λvs H Q E h=>?_) (λcdv A outer s H vs Q E hr h=>?_)) (F.binds λ_ _ _ _ _ _ us hl=>by obtain ⟨_,rfl⟩:=L2.lq1 hl;rfl)
 ·obtain ⟨d,rfl,_⟩:=h;rfl
 ·obtain ⟨d,rfl,q⟩:=h
  refine ⟨_,(jB3 (jS 1 nd (jF (qai T) hr (jA2 (pv 0) qaa))) (qa2 (jC qey (qag qav (pv 1) qaa) qaa) (qad (qah (qag qdk (qag qav (qag qc0 (pv 0) qaa) (qag qb2 qaa (qag qgn qaa qaa))) (qag qgn qaa qaa)))) qak) (qah (qag qdk (qag qav (qag qc0 (pv 1) qaa) qaa) qaa))),?_⟩;refine ⟨_,rfl,d,74,rfl,by decide,by decide,λm m0 m1=>qan ?_⟩;refine qdx (σ':=[some (.int d),some (.int m)]) rfl ?_;have d40:0<=d / 3 % (2*10 ^ 40)/\d / 3 % (2*10 ^ 40)<2*10 ^ 40:=⟨Be _ (by decide),A8 _ (by decide)⟩
  walk_at "r"
  refine qjg (λz=>?_) λz=>?_
  ·walk_at "r"
   exact q (d / 3 % (2*10 ^ 40)-10 ^ 40) (by omega) (by omega)
  ·walk_at "r"
   exact q (m / 4 % 19-9) (by omega) (by omega)
theorem qFa (m n a:Int) (hn:0<=n) (ha:0<=a/\a<10 ^ 30):∃ z,atI [V.int 1,V.int 1,V.int (1+n / 5 % 5),V.int (1+a),V.int 2] (m % 5)=some (.int z)/\1<=z/\z<=10 ^ 31:=by
 rcases (show m % 5=0\/m % 5=1\/m % 5=2\/m % 5=3\/m % 5=4 by omega) with e|e|e|e|e<;>rw[e]
 ·exact ⟨_,rfl,by decide,by decide⟩
 ·exact ⟨_,rfl,by decide,by decide⟩
 ·exact ⟨_,rfl,by omega,by omega⟩
 ·exact ⟨_,rfl,by omega,by omega⟩
 ·exact ⟨_,rfl,by decide,by decide⟩
def qq4:Sp:=λvs H Q _=>∃ d,vs=[.int d]/\∀ m H',Same H H'->1<=m->m<=10 ^ 31->Q (.int m) H'
include T in
theorem qoa:qba P w K mg base 2 "_law_many" ["_law_draw"] qq4:=by
 obtain ⟨f,fd,F,hm⟩:=T.f__law_many;have nd:=sc__law_many.nd;refine F.def_ hm (F.ok sc__law_many (λvs H Q E h=>?_) (λcdv A outer s H vs Q E hr h=>?_)) (F.binds λ_ _ _ _ _ _ us hl=>by obtain ⟨_,rfl⟩:=L2.lq1 hl;rfl)
 ·obtain ⟨d,rfl,_⟩:=h;rfl
 ·obtain ⟨d,rfl,q⟩:=h
  refine ⟨_,(jB2 (jS 1 nd (jF (qai T) hr (jA2 (pv 0) qaa))) (qah (jI (qa8 (jA5 qaa qaa (qag qa4 qaa (qag qav (qag qc0 (pv 1) qaa) qaa)) (qag qa4 qaa (qag qav (qag qc0 (pv 0) qaa) (qag qgn qaa qaa))) qaa)) (qag qav (pv 1) qaa)))),?_⟩;refine ⟨_,rfl,d,75,rfl,by decide,by decide,λm m0 m1=>qan ?_⟩;refine qdx (σ':=[some (.int d),some (.int m)]) rfl ?_;have d30:0<=d / 3 % 10 ^ 30/\d / 3 % 10 ^ 30<10 ^ 30:=⟨Be _ (by decide),A8 _ (by decide)⟩
  walk_at "r"
  intro p1 H1 n1;obtain ⟨z,hz,z0,z1⟩:=qFa m m (d / 3 % 10 ^ 30) m0.1 d30
  walk_at "r"
  exact q z H1 n1.same z0 z1
def RdN (H:Hp) (v:V) (r:List Nat×Rd3):Prop:=∃ a,v=.ref a/\H a=some (.tup [tS r.1,.int r.2.1,.int r.2.2.1,.int r.2.2.2])
def RdNs (H:Hp) (ys:List V) (rs:List (List Nat×Rd3)):Prop:=Paired (RdN H) ys rs
theorem RdNs.tupS {H H':Hp} (s:qs3 H H'):∀ {ys:List V} {rs:List (List Nat×Rd3)},RdNs H ys rs->RdNs H' ys rs
 | _,_,.nil=>.nil
 | _,_,.cons ⟨a,e,q⟩ t=>.cons ⟨a,e,s _ _ q⟩ (RdNs.tupS s t)
theorem RdNs.snoc {H:Hp} {v:V} {r:List Nat×Rd3} (h:RdN H v r):∀ {ys:List V} {rs:List (List Nat×Rd3)},RdNs H ys rs->RdNs H (ys ++ [v]) (rs ++ [r])
 | _,_,.nil=>.cons h .nil
 | _,_,.cons b t=>.cons b (RdNs.snoc h t)
theorem RdNs.length {H:Hp}:∀ {ys:List V} {rs:List (List Nat×Rd3)},RdNs H ys rs->ys.length=rs.length
 | _,_,.nil=>rfl
 | _,_,.cons _ t=>by rw[Az,Az,RdNs.length t]
def RL63 (r:Rd3):Prop:=T42 r.1/\(-(10 ^ 40)<=r.2.1/\r.2.1<=10 ^ 40)/\1<=r.2.2/\r.2.2<=10 ^ 31
inductive qja (vs:List V) (H:Hp) (Q:VK) (E_:XK):Prop
 | mk:∀ (lc ln ls:Addr) (cs:List Int) (nms:List (List Nat)) (xs:List V) (ps:List (Int×Int)) (g:Option Int) (day:Int),vs=[.ref lc,.ref ln,.ref ls,gv g,.int day]->H lc=some (.lst (cs.map V.int))->cs.length<=63->H ln=some (.lst (nms.map tS))->1<=nms.length->nms.length<=60->H ls=some (.lst xs)->Pairs H xs ps->PrB ps g->(-(10 ^ 31)<=day/\day<=10 ^ 31)->(∀ l ys rs H',Same H H'->H l=none->H' l=some (.lst ys)->RdNs H' ys rs->rs.length=cs.length->(∀ r∈rs,r.1∈nms/\RL63 r.2)->Q (.ref l) H')->qja vs H Q E_
include T in
theorem qjb:qba P w K mg base 3 "_law_readings" ["_law_cells", "_law_names", "_law_steps", "_law_gone_here", "_law_day"] qja:=by
 obtain ⟨f,fd,F,hm⟩:=T.f__law_readings;have nd:=sc__law_readings.nd;refine F.def_ hm (F.ok sc__law_readings (λvs H Q E h=>?_) (λcdv A outer s H vs Q E hr h=>?_)) (F.binds λ_ _ _ _ _ _ us hl=>by obtain ⟨_,_,_,_,_,rfl⟩:=L2.lq5 hl;rfl)
 ·obtain ⟨lc,ln,ls,cs,nms,xs,ps,g,day,rfl,_⟩:=h;rfl
 ·obtain ⟨lc,ln,ls,cs,nms,xs,ps,g,day,rfl,hc,hcl,hn,n1',n60,hl,hp,pb,hd,q⟩:=h
  refine ⟨_,(jB3 (jS 5 nd (qa8 qdz)) (qbz AQ rfl (qa1 (pv 0)) (jN 6 nd) (jB2 (jS 7 nd (jI (pv 1) (qag qav (jF (qai T) hr (jA2 (pv 6) qaa)) (qal qau rfl T.b_len qcj (jA1 (pv 1)))))) (qat (qkk BA By Bx qcf (pv 5) (jA1 (qbj (jA4 (pv 7) (jF (qn8 T) hr (jA4 (pv 2) (pv 3) (pv 4) (pv 6))) (jF (qm7 T) hr (jA1 (pv 6))) (jF (qoa T) hr (jA1 (pv 6)))))))))) (qah (pv 5))),?_⟩;refine ⟨AW _,λlf H1 n1=>qan ?_⟩;refine qdx (σ':=[some (.ref lc),some (.ref ln),some (.ref ls),some (gv g),some (.int day),some (.ref lf),none,none]) rfl ?_;refine ⟨_,rfl,lc,rfl,⟨_,SqL.of (n1.same _ _ hc)⟩,qbn (xs:=cs.map V.int) (λi σ H2=>Same H H2/\∃ (ys:List V) (rs:List (List Nat×Rd3)) (v6 v7:Option V),H2 lf=some (.lst ys)/\RdNs H2 ys rs/\rs.length=i/\(∀ r∈rs,r.1∈nms/\RL63 r.2)/\σ=[some (.ref lc),some (.ref ln),some (.ref ls),some (gv g),some (.int day),some (.ref lf),v6,v7]) ⟨n1.same,[],[],_,_,n1.at_,.nil,rfl,by simp,rfl⟩ (λi σ H2 _ h2=>SqL.of (h2.1 _ _ hc)) ?_ ?_⟩
  ·rintro i x σ H2 hi ⟨s2,ys,rs,v6,v7,hf,hr,hrl,hrs,rfl⟩
   obtain ⟨d,rfl⟩:∃ d,x=V.int d:=by
    obtain ⟨d,_,e⟩:=Af.mp (An hi);exact ⟨d,e.symm⟩
   have ic:i<cs.length:=by have:=(Ai.mp hi).1;rw[Ac] at this;exact this
   refine qan (qdx (σ':=[some (.ref lc),some (.ref ln),some (.ref ls),some (gv g),some (.int day),some (.ref lf),some (.int d),v7]) rfl ?_);refine ⟨_,rfl,_,rfl,d,76,rfl,by decide,by decide,λm m0 m1=>?_⟩;have hm1:=Be m (show (nms.length:Int)≠0 by omega);have hm2:=A8 m (show (0:Int)<nms.length by omega);obtain ⟨j,hj⟩:=CD hm1;have jl:j<nms.length:=by omega
   have hnj:(nms.map tS)[j]?=some (tS nms[j]):=by simp[jl]
   have hnm:nms[j]∈nms:=DY jl
   generalize nms[j]=nm at hnj hnm
   refine ⟨_,rfl,ln,_,rfl,.inl (SqL.of (s2 _ _ hn)),?_⟩;rw[Ac];refine ⟨_,_,rfl,rfl,by omega,?_⟩;rw[hj];refine ⟨ln,_,_,_,rfl,rfl,SqL.of (s2 _ _ hn),qf8 hnj,qan ?_⟩;refine qdx (σ':=[some (.ref lc),some (.ref ln),some (.ref ls),some (gv g),some (.int day),some (.ref lf),some (.int d),some (tS nm)]) rfl ?_;refine ⟨_,rfl,.inl ⟨rfl,_,SqL.of hf⟩,_,rfl,_,rfl,_,rfl,_,rfl,_,rfl,ls,xs,ps,g,day,d,rfl,s2 _ _ hl,hp.same s2,pb,hd,λt H3 s3 ht=>?_⟩;refine ⟨_,rfl,d,rfl,λva va0 va1=>⟨_,rfl,d,rfl,λmm H4 s4 mm0 mm1=>?_⟩⟩;refine ⟨qc3 (by simp),λta H5 n5=>?_⟩;have s25:=s3.trans (s4.trans n5.same);have hf5:=s25 _ _ hf;refine ⟨lf,_,_,rfl,rfl,hf5,qao (by have:=hr.length;omega),λH6 b6 h6=>?_⟩;refine ⟨b6.same (s2.trans s25) n1.fresh,_,rs ++ [(nm,t,va,mm)],_,_,h6,?_,by simp[hrl],λr hr'=>?_,rfl⟩
   ·exact ((RdNs.tupS (Same.tup s25) hr).tupS (b6.tup hf5 qs9)).snoc ⟨ta,rfl,b6 _ _ n5.at_ (qaq n5.at_ hf5 (by intro z;cases z))⟩
   ·rcases AA.mp hr' with z|z
    ·exact hrs r z
    ·rw[Aj.mp z];exact ⟨hnm,ht,⟨va0,va1⟩,mm0,mm1⟩
  ·rintro σ H2 ⟨s2,ys,rs,v6,v7,hf,hr,hrl,hrs,rfl⟩
   rw[Ac] at hrl;exact ⟨_,rfl,q lf ys rs H2 s2 n1.fresh hf hr hrl hrs⟩
def qDu (H:Hp) (v:V) (n:List Nat×List (List Nat)):Prop:=∃ a l,v=.ref a/\H a=some (.tup [tS n.1,.ref l])/\H l=some (.lst (n.2.map tS))
def NmsAt (H:Hp) (ys:List V) (NM:List (List Nat×List (List Nat))):Prop:=Paired (qDu H) ys NM
theorem NmsAt.same {H H':Hp} (s:Same H H'):∀ {ys:List V} {NM:List (List Nat×List (List Nat))},NmsAt H ys NM->NmsAt H' ys NM
 | _,_,.nil=>.nil
 | _,_,.cons ⟨a,l,e,h1,h2⟩ t=>.cons ⟨a,l,e,s _ _ h1,s _ _ h2⟩ (NmsAt.same s t)
theorem NmsAt.length {H:Hp}:∀ {ys:List V} {NM:List (List Nat×List (List Nat))},NmsAt H ys NM->ys.length=NM.length
 | _,_,.nil=>rfl
 | _,_,.cons _ t=>by rw[Az,Az,NmsAt.length t]
theorem NmsAt.get {H:Hp}:∀ {ys:List V} {NM:List (List Nat×List (List Nat))} {i:Nat} {y:V},NmsAt H ys NM->ys[i]?=some y->∃ n,NM[i]?=some n/\qDu H y n
 | _,_,_,_,.nil,h=>by simp at h
 | _,_,0,_,.cons b t,h=>by cases h;exact ⟨_,rfl,b⟩
 | _,_,i+1,_,.cons b t,h=>NmsAt.get (i:=i) t h
theorem RdNs.get {H:Hp}:∀ {ys:List V} {rs:List (List Nat×Rd3)} {i:Nat} {y:V},RdNs H ys rs->ys[i]?=some y->∃ r,rs[i]?=some r/\RdN H y r
 | _,_,_,_,.nil,h=>by simp at h
 | _,_,0,_,.cons b t,h=>by cases h;exact ⟨_,rfl,b⟩
 | _,_,i+1,_,.cons b t,h=>RdNs.get (i:=i) t h
def qf3 (RS:List (List Nat×Rd3)) (x:List Nat):List Rd3:=(RS.filter λr=>decide (r.1=x)).map (·.2)
theorem qjc (RS:List (List Nat×Rd3)) (r:List Nat×Rd3) (x:List Nat):qf3 (RS ++ [r]) x=if x=r.1 then qf3 RS x ++ [r.2] else qf3 RS x:=by
 unfold qf3;rw[Cy,AB]
 by_cases h:x=r.1
 ·rw[Al h,List.filter_cons,AE h.symm];rfl
 ·rw[Ah h,List.filter_cons,Bc (λe=>h e.symm)];simp
theorem qdy (RS:List (List Nat×Rd3)) (x:List Nat):(qf3 RS x).length<=RS.length:=by
 unfold qf3;rw[Ac];exact E9 _ _
structure qCj (NM:List (List Nat×List (List Nat))):Prop where
 nd:(NM.map (·.1)).Nodup
 sm:∀ n∈NM,qax 12 n.1
 mm:∀ n∈NM,qbq (n.2.map tS)
 ln:NM.length<=20
inductive qm8 (C CR R:Addr) (vs:List V) (H:Hp) (Q:VK) (E_:XK):Prop
 | mk:∀ (ru rl e lnm lrd:Addr) (ps:List (Int×Int)) (g:Option Int) (day:Int) (es fs:List Int) (ge fg:Option Int) (ys zs:List V) (NM:List (List Nat×List (List Nat))) (RS:List (List Nat×Rd3)),vs=[.ref ru,.int day,.ref e,.ref lnm,.ref lrd]->RuleAt R H ru rl ps g->Pr ps g->(∀ p∈ps,p.2<=10 ^ 35)->Bd day->H e=some (.lst (es.map V.int ++ [gv ge]))->EdS (es.map V.int ++ [gv ge]) es ge->es.length=ps.length->qzl ps g day (es.map V.int ++ [gv ge]) es ge fs fg->H lnm=some (.lst ys)->NmsAt H ys NM->qCj NM->H lrd=some (.lst zs)->RdNs H zs RS->(∀ r∈RS,r.1∈NM.map (·.1)/\RLt r.2)->RS.length<=40->(∀ b le dm dr X H',BkC C CR R H' b ⟨ru,rl,le,dm,dr,ps,g,day⟩ fs fg X->XOk X->X.map (λp=>(p.1,p.2.2.2.2))=NM->(∀ p∈X,p.2.2.2.1=qf3 RS p.1)->(∀ p∈X,H p.2.2.1.dy=none/\H p.2.2.1.dh=none)->Same H H'->H b=none->H le=none->H dm=none->H dr=none->Q (.ref b) H')->qm8 C CR R vs H Q E_
include T in
theorem qt7:qba P w K mg base 8 "book_of" ["rule", "day", "edges", "names", "readings"] (qm8 C_Book C_Roll C_Rule):=by
 obtain ⟨f,fd,F,hm⟩:=T.f_book_of;have nd:=sc_book_of.nd;refine F.def_ hm (F.ok sc_book_of (λvs H Q E h=>?_) (λcdv A outer s H vs Q E hr h=>?_)) (F.binds λ_ _ _ _ _ _ us hl=>by obtain ⟨_,_,_,_,_,rfl⟩:=L2.lq5 hl;rfl)
 ·obtain ⟨ru,rl,e,lnm,lrd,ps,g,day,es,fs,ge,fg,ys,zs,NM,RS,rfl,_⟩:=h;rfl
 ·obtain ⟨ru,rl,e,lnm,lrd,ps,g,day,es,fs,ge,fg,ys,zs,NM,RS,rfl,R,Pg,wb,hd,he,Ee,hln,U,hnm,tnm,nk,hrd,trd,hR,r40,q⟩:=h
  have no:∀ (B:qbf) {m:Str},¬ m = "kept_rolls" -> ¬ m = "kept_marks" -> ¬ m = "kept_edges" -> ¬ m = "kept_day" -> ¬ m = "kept_rule" -> (bof B.ru B.day B.le B.dm B.dr).lookup m=none:=λB _ a b c d e=>qdn _ _ _ _ _ a b c d e
  refine ⟨_,(jB4 (jS 5 nd (jF (qg9 T) hr (jA3 (pv 0) (pv 1) (pv 2)))) (qbz AQ rfl (qa1 (pv 3)) (jG2 (jN 6 nd) (jN 7 nd)) (qad (qat (qb0 (qaz ⟨rfl,rfl,rfl⟩) (pv 5) T.cl_Book (qci T) (hr.mono (by decide)) .nil (jA2 (pv 6) (pv 7)))))) (qbz AQ rfl (qa1 (pv 4)) (jG4 (jN 6 nd) (jN 8 nd) (jN 9 nd) (jN 10 nd)) (qad (qat (qb0 (qaz ⟨rfl,rfl,rfl⟩) (pv 5) T.cl_Book (qg8 T) (hr.mono (by decide)) .nil (jA4 (pv 6) (pv 8) (pv 9) (pv 10)))))) (qah (pv 5))),?_⟩;refine ⟨_,rfl,_,rfl,_,rfl,ru,rl,e,ps,g,day,es,fs,ge,fg,rfl,R,Pg,wb,hd,he,Ee,hln,U,λb le dm dr H1 B1 s1 g1 g2 g3 g4=>qan ?_⟩;refine qpu (σ':=[some (.ref ru),some (.int day),some (.ref e),some (.ref lnm),some (.ref lrd),some (.ref b),none,none,none,none,none]) rfl ?_;have k20:=nk.ln;refine ⟨_,rfl,lnm,rfl,⟨_,SqL.of (s1 _ _ hnm)⟩,qbn (xs:=ys) (λj σ H'=>∃ (X:qa6) (v6 v7:Option V),Same H H'/\BkC C_Book C_Roll C_Rule H' b ⟨ru,rl,le,dm,dr,ps,g,day⟩ fs fg X/\XOk X/\X.map (λp=>(p.1,p.2.2.2.2))=NM.take j/\(∀ p∈X,p.2.2.2.1=[])/\(∀ p∈X,H p.2.2.1.dy=none/\H p.2.2.1.dh=none)/\σ=[some (.ref ru),some (.int day),some (.ref e),some (.ref lnm),some (.ref lrd),some (.ref b),v6,v7,none,none,none]) ⟨[],_,_,s1,B1,.nil,rfl,(by intro p h;cases h),(by intro p h;cases h),rfl⟩ (λj σ H' _ ⟨_,_,_,z,_⟩=>SqL.of (z _ _ hnm)) ?_ ?_⟩
  ·rintro j y σ H2 hyj ⟨X,v6,v7,s2,B2,xk,nm,r0,fr,rfl⟩
   obtain ⟨⟨x,ms⟩,hxn,a,l,rfl,ha,hl⟩:=tnm.get hyj;have hmem:=An hxn;have hsx:qax 12 x:=nk.sm _ hmem;have hmk:qbq (ms.map tS):=nk.mm _ hmem;have tx:∀ {H:Hp},TextV H (tS x):=.inl ⟨x,rfl,by have:=hsx.2.1;omega⟩;have nmf:X.map (·.1)=(NM.map (·.1)).take j:=by
    have:=congrArg (List.map Prod.fst) nm;rw[AI,EE] at this;exact this
   have hni:x ∉ X.map (·.1):=by
    rw[nmf];intro z;obtain ⟨i,hi,ei⟩:=AZ z;rw[As] at hi;rw[DR] at ei;have jl:j<(NM.map (·.1)).length:=by rw[Ac];exact (Ai.mp hxn).1
    have ej:(NM.map (·.1))[j]=x:=by rw[List.getElem_map,(Ai.mp hxn).2]
    have:=(Dj (xs:=NM.map (·.1)) (i:=i) (j:=j) (h₀:=by omega) (h₁:=jl) nk.nd).mp (by rw[ei,ej]);omega
   have lX:X.length<=20:=by
    have:=congrArg List.length nmf;rw[Ac,As,Ac] at this;omega
   refine ⟨a,_,rfl,SqT.of (s2 _ _ ha),rfl,_,_,rfl,_,_,rfl,rfl,?_⟩;refine qpu (σ':=[some (.ref ru),some (.int day),some (.ref e),some (.ref lnm),some (.ref lrd),some (.ref b),some (tS x),some (.ref l),none,none,none]) rfl ?_;obtain ⟨dx,hob⟩:=B2.ob;have l8:=hmk.2.2;refine ⟨_,rfl,b,dx,_,rfl,hob,no _ (by decide +kernel) (by decide +kernel) (by decide +kernel) (by decide +kernel) (by decide +kernel),_,rfl,_,rfl,b,_,fs,fg,X,tS x,.ref l,_,rfl,B2,tx,.inr ⟨l,rfl,s2 _ _ hl⟩,λu hu=>?_,AR l8 (by decide),by omega,λz=>?_,λ_ z=>absurd hmk z,λy2 ms2 ey2 hy2 hn2 eu ok ro c H3 b3 c1 c2 B3 _=>?_⟩
   ·obtain ⟨m,hm',rfl⟩:=Af.mp hu
    have:=hmk.1 (tS m) hu;rw[qcg] at this;exact .inl ⟨m,rfl,by have:=(AG this).2.1;omega⟩
   ·rcases z with z|⟨y,e,_,hy'⟩
    ·rw[qcg,AE hsx] at z;cases z
    ·exact absurd (qbt e ▸ hy') hni
   have ey2:=qbt ey2;subst ey2;have ems:ms=ms2:=qm3 eu;subst ems;refine ⟨X ++ [(x,(ro,c,[],ms))],_,_,λz o e=>b3 _ _ (s2 _ _ e) (qac e g3) (qac e g4),B3,?_,?_,λp hp=>?_,λp hp=>?_,rfl⟩
   ·unfold XOk
    rw[CP];refine ⟨xk,by simp,λp hp p' hp'=>?_⟩;rw[Aj.mp hp'];obtain ⟨⟨Y,hY⟩,⟨Z,hZ⟩⟩:=B2.dicts (x:=p.1) (e:=p.2) hp;exact ⟨λe=>hni (Af.mpr ⟨p,hp,e⟩),qac hY c1,qac hY c2,qac hZ c1,qac hZ c2⟩
   ·rw[AB,nm,Bw,hxn];rfl
   ·rcases AA.mp hp with z|z
    ·exact r0 p z
    ·rw[Aj.mp z]
   ·rcases AA.mp hp with z|z
    ·exact fr p z
    ·rw[Aj.mp z];exact ⟨s2.free c1,s2.free c2⟩
  rintro σ H2 ⟨X,v6,v7,s2,B2,xk,nm,r0,fr,rfl⟩;rw[tnm.length,AL] at nm;refine ⟨_,rfl,lrd,rfl,⟨_,SqL.of (s2 _ _ hrd)⟩,qbn (xs:=zs) (λj σ H'=>∃ (X:qa6) (v6 v8 v9 v10:Option V),Same H H'/\BkC C_Book C_Roll C_Rule H' b ⟨ru,rl,le,dm,dr,ps,g,day⟩ fs fg X/\XOk X/\X.map (λp=>(p.1,p.2.2.2.2))=NM/\(∀ p∈X,p.2.2.2.1=qf3 (RS.take j) p.1)/\(∀ p∈X,H p.2.2.1.dy=none/\H p.2.2.1.dh=none)/\σ=[some (.ref ru),some (.int day),some (.ref e),some (.ref lnm),some (.ref lrd),some (.ref b),v6,v7,v8,v9,v10]) ⟨X,_,_,_,_,s2,B2,xk,nm,λp hp=>by rw[r0 p hp];rfl,fr,rfl⟩ (λj σ H' _ ⟨_,_,_,_,_,z,_⟩=>SqL.of (z _ _ hrd)) ?_ ?_⟩
  ·clear B2 xk nm r0 fr s2
   rintro j y σ H3 hyj ⟨X,v6,v8,v9,v10,s3,B3,xk,nm,rr,fr,rfl⟩;obtain ⟨⟨x,t,va,m⟩,hrj,a,rfl,ha⟩:=trd.get hyj;have hmem:=An hrj;obtain ⟨hxn,hlt⟩:=hR _ hmem;have nmf:X.map (·.1)=NM.map (·.1):=by
    have:=congrArg (List.map Prod.fst) nm;rw[AI] at this;exact this
   have hin:x∈X.map (·.1):=by rw[nmf];exact hxn
   obtain ⟨n0,hn0,en0⟩:=Af.mp hxn;have hsx:qax 12 x:=by have:=nk.sm _ hn0;rw[en0] at this;exact this
   have tx:∀ {H:Hp},TextV H (tS x):=.inl ⟨x,rfl,by have:=hsx.2.1;omega⟩;refine ⟨a,_,rfl,SqT.of (s3 _ _ ha),rfl,_,_,rfl,_,_,rfl,_,_,rfl,_,_,rfl,rfl,?_⟩;refine qpu (σ':=[some (.ref ru),some (.int day),some (.ref e),some (.ref lnm),some (.ref lrd),some (.ref b),some (tS x),v7,some (.int t),some (.int va),some (.int m)]) rfl ?_;obtain ⟨dx,hob⟩:=B3.ob;have m1:1<=m:=hlt.2.2.1;have tb:qnw t:=by have:=hlt.1;exact ⟨by dsimp only at this;omega,by dsimp only at this;omega⟩
   refine ⟨_,rfl,b,dx,_,rfl,hob,no _ (by decide +kernel) (by decide +kernel) (by decide +kernel) (by decide +kernel) (by decide +kernel),_,rfl,_,rfl,_,rfl,_,rfl,b,_,fs,fg,X,tS x,t,va,m,rfl,B3,tx,tb,λ_=>hlt,λy e' he'=>?_,λz=>absurd ⟨x,rfl,hsx,hin⟩ z,λy e' _ _ _ h1=>absurd h1 (by omega),λy e' ey hy he' _ H4 b4 R4=>?_⟩
   ·rw[show e'.2.2.1=qf3 (RS.take j) y from rr (y,e') he']
    have:=qdy (RS.take j) y;rw[As] at this;omega
   have ey:=qbt ey;subst ey;obtain ⟨⟨Y,hY⟩,⟨Z,hZ⟩⟩:=B3.dicts he';have fe:=fr (x,e') he';refine ⟨X.map (qjf x (t,va,m)),_,_,_,_,λz o e=>b4 _ _ (s3 _ _ e) (qac e fe.1) (qac e fe.2),B3.put xk he' b4 hY hZ R4,xk.add x _,?_,λp hp=>?_,λp hp=>?_,rfl⟩
   ·rw[AI,<- nm]
    exact Ba λp _=>by show ((qjf x (t,va,m) p).1,(qjf x (t,va,m) p).2.2.2.2)=_;rw[qf2,qt0]
   ·obtain ⟨p0,h0,rfl⟩:=Af.mp hp
    rw[qf2,Bw,hrj]
    show _=qf3 (RS.take j ++ [(x,t,va,m)]) p0.1
    rw[qjc];unfold qjf
    by_cases h:p0.1=x
    ·rw[Al h,Al h]
     show p0.2.2.2.1 ++ [_]=_
     rw[rr p0 h0]
    ·rw[Ah h,Ah h];exact rr p0 h0
   ·obtain ⟨p0,h0,rfl⟩:=Af.mp hp
    rw[qpp];exact fr p0 h0
  ·rintro σ H3 ⟨X,v6,v8,v9,v10,s3,B3,xk,nm,rr,fr,rfl⟩
   rw[trd.length,AL] at rr;exact ⟨_,rfl,q b le dm dr X H3 B3 xk nm rr fr s3 g1 g2 g3 g4⟩
abbrev TR:=List Nat×List (List Nat)×Abs
def TRow (H:Hp) (v:V) (r:TR):Prop:=∃ (a l1 l2 l3:Addr) (ys zs:List V),v=.ref a/\H a=some (.tup [tS r.1,.ref l1,.ref l2,.ref l3])/\H l1=some (.lst (r.2.1.map tS))/\H l2=some (.lst ys)/\Tups H ys (qb4 r.2.2)/\H l3=some (.lst zs)/\Tups H zs (qcb r.2.2)
def TRows (H:Hp) (vs:List V) (rows:List TR):Prop:=Paired (TRow H) vs rows
theorem TRow.same {H H':Hp} {v:V} {r:TR} (h:TRow H v r) (s:Same H H'):TRow H' v r:=
 let ⟨a,l1,l2,l3,ys,zs,e,h0,h1,h2,t2,h3,t3⟩:=h;⟨a,l1,l2,l3,ys,zs,e,s _ _ h0,s _ _ h1,s _ _ h2,t2.same s,s _ _ h3,t3.same s⟩
theorem TRows.same {H H':Hp} (s:Same H H'):∀ {vs:List V} {rows:List TR},TRows H vs rows->TRows H' vs rows
 | _,_,.nil=>.nil
 | _,_,.cons h t=>.cons (h.same s) (TRows.same s t)
theorem TRows.snoc {H:Hp} {v:V} {r:TR} (h:TRow H v r):∀ {vs:List V} {rows:List TR},TRows H vs rows->TRows H (vs ++ [v]) (rows ++ [r])
 | _,_,.nil=>.cons h .nil
 | _,_,.cons b t=>.cons b (TRows.snoc h t)
theorem TRows.length {H:Hp}:∀ {vs:List V} {rows:List TR},TRows H vs rows->vs.length=rows.length
 | _,_,.nil=>rfl
 | _,_,.cons _ t=>by rw[Az,Az,TRows.length t]
def qt8 (X:qa6) (cell:Int->Option (Int×Int)) (rows:List TR):Prop:=rows.map (·.1)=qbe (X.map (·.1))/\∀ r∈rows,∃ e:RC,(r.1,e)∈X/\r.2.1=qbe e.2.2.2/\r.2.2=qdi cell e.2.2.1
inductive qp1 (C CR R:Addr) (vs:List V) (H:Hp) (Q:VK) (E_:XK):Prop
 | mk:∀ (b:Addr) (B:qbf) (es:List Int) (ge:Option Int) (X:qa6),vs=[.ref b]->BkC C CR R H b B es ge X->qk9 X 50->(∀ l ws rows H',Same H H'->H l=none->H' l=some (.lst ws)->TRows H' ws rows->qt8 X (qca (B.ps.map (·.2)) es ge) rows->Q (.ref l) H')->qp1 C CR R vs H Q E_
include T in
theorem qw9:qba P w K mg base 5 "told" ["book"] (qp1 C_Book C_Roll C_Rule):=by
 obtain ⟨f,fd,F,hm⟩:=T.f_told;have nd:=sc_told.nd;refine F.def_ hm (F.ok sc_told (λvs H Q E h=>?_) (λcdv A outer s H vs Q E hr h=>?_)) (F.binds λ_ _ _ _ _ _ us hl=>by obtain ⟨_,rfl⟩:=L2.lq1 hl;rfl)
 ·obtain ⟨b,B,es,ge,X,rfl,_⟩:=h;rfl
 ·obtain ⟨b,B,es,ge,X,rfl,A',XG,q⟩:=h
  obtain ⟨dx,hob⟩:=A'.ob;have no:∀ {m:Str},¬ m = "kept_rolls" -> ¬ m = "kept_marks" -> ¬ m = "kept_edges" -> ¬ m = "kept_day" -> ¬ m = "kept_rule" -> (bof B.ru B.day B.le B.dm B.dr).lookup m=none:=λa b c d e=>qdn _ _ _ _ _ a b c d e
  have x20:=XG.ln;have snm:∀ y∈qbe (X.map (·.1)),y∈X.map (·.1):=λy hy=>(qa3 _).mem_iff.mp hy
  refine ⟨_,(jB3 (jS 1 nd (qa8 qdz)) (qbz AQ rfl (qa1 (qa0 (pv 0) T.cl_Book (qde T) (hr.mono (by decide)))) (jN 2 nd) (jB2 (jS 3 nd (qb0 (qaz ⟨rfl,rfl,rfl⟩) (pv 0) T.cl_Book (qbu T) (hr.mono (by decide)) .nil (jA1 (pv 2)))) (qat (qkk BA By Bx qcf (pv 1) (jA1 (qbj (jA4 (pv 2) (qb0 (qaz ⟨rfl,rfl,rfl⟩) (pv 0) T.cl_Book (qeu T) (hr.mono (by decide)) .nil (jA1 (pv 2))) (qa0 (pv 3) T.cl_Roll (qdc T) (hr.mono (by decide))) (qa0 (pv 3) T.cl_Roll (qdd T) (hr.mono (by decide)))))))))) (qah (pv 1))),?_⟩;refine ⟨AW _,λlf H1 n1=>qan ?_⟩;refine qpu (σ':=[some (.ref b),some (.ref lf),none,none]) rfl ?_;refine ⟨_,rfl,b,dx,_,rfl,n1.same _ _ hob,no (by decide +kernel) (by decide +kernel) (by decide +kernel) (by decide +kernel) (by decide +kernel),b,B,es,ge,X,rfl,A'.same n1.same,by omega,λln H2 n2=>?_⟩;have nlf:ln≠lf:=λz=>by have:=n2.fresh;rw[z,n1.at_] at this;cases this
  refine ⟨ln,rfl,⟨_,SqL.of n2.at_⟩,qbn (xs:=(qbe (X.map (·.1))).map tS) (λj σ H'=>∃ (ws:List V) (rows:List TR) (v2 v3:Option V),Same H H'/\H' ln=some (.lst ((qbe (X.map (·.1))).map tS))/\H' lf=some (.lst ws)/\TRows (rmS H' [lf]) ws rows/\rows.map (·.1)=(qbe (X.map (·.1))).take j/\(∀ r∈rows,∃ e:RC,(r.1,e)∈X/\r.2.1=qbe e.2.2.2/\r.2.2=qdi (qca (B.ps.map (·.2)) es ge) e.2.2.1)/\σ=[some (.ref b),some (.ref lf),v2,v3]) ⟨[],[],_,_,n1.same.trans n2.same,n2.at_,n2.same _ _ n1.at_,.nil,rfl,(by intro p h;cases h),rfl⟩ (λj σ H' _ ⟨_,_,_,_,_,z,_⟩=>SqL.of z) ?_ ?_⟩
  ·rintro j x' σ H3 hxj ⟨ws,rows,v2,v3,s3,hln,hlf,tr,nm,en,rfl⟩
   obtain ⟨x,hxs,rfl⟩:∃ x,(qbe (X.map (·.1)))[j]?=some x/\x'=tS x:=by
    rw[Ay] at hxj;obtain ⟨x,e1,e2⟩:=AH.mp hxj;exact ⟨x,e1,e2.symm⟩
   obtain ⟨⟨x0,e0⟩,he0,ex0⟩:=Af.mp (snm x (An hxs));have ex0:x0=x:=ex0;subst ex0;have hsx:=XG.sm _ he0;have tx:∀ {H:Hp},TextV H (tS x0):=.inl ⟨x0,rfl,by have:=hsx.2.1;dsimp only at this;omega⟩;have inx:qhg X (tS x0):=⟨x0,rfl,hsx,Af.mpr ⟨_,he0,rfl⟩⟩;have rl:rows.length<=20:=by
    have:=congrArg List.length nm;rw[Ac,As,(qa3 _).length_eq,Ac] at this;omega
   refine qan ?_;refine qpu (σ':=[some (.ref b),some (.ref lf),some (tS x0),v3]) rfl ?_;refine ⟨_,rfl,b,dx,_,rfl,s3 _ _ hob,no (by decide +kernel) (by decide +kernel) (by decide +kernel) (by decide +kernel) (by decide +kernel),_,rfl,b,B,es,ge,X,tS x0,rfl,A'.same s3,tx,λy e' ey hy hm re H4 s4=>qan ?_,λz=>absurd inx z⟩;have ey:=qbt ey;subst ey;have ee:=XG.ok.one hm he0;subst ee;obtain ⟨LY,LZ,R3⟩:=re.ex;have R4:=R3.same s4;have l1:=R4.ly;have l2:=R4.lz;have l5:=XG.rs _ he0;dsimp only at l5;refine qpu (σ':=[some (.ref b),some (.ref lf),some (tS x0),some (.ref e'.1)]) rfl ?_;have s04:=s3.trans s4;refine ⟨_,rfl,.inl ⟨rfl,_,SqL.of (s4 _ _ hlf)⟩,_,rfl,_,rfl,b,dx,_,rfl,s04 _ _ hob,no (by decide +kernel) (by decide +kernel) (by decide +kernel) (by decide +kernel) (by decide +kernel),_,rfl,b,B,es,ge,X,tS x0,rfl,A'.same s04,tx,λy5 e5 ey5 hy5 hm5 lm H5 s5 f5 h5=>?_,λz=>absurd inx z⟩;have ey5:=qbt ey5;subst ey5;have ee5:=XG.ok.one hm5 he0;subst ee5;have R5:=R4.same s5;obtain ⟨dxo,hro⟩:=R5.R.obj;refine ⟨_,rfl,e5.1,dxo,_,rfl,hro,qfs _ _ _ _ _,?_⟩;simp only[qf6,AV,AX,AN];refine R5.R.young (by omega) λa1 as1 H6 s6 g6 ha1 ta1 _=>?_
   refine ⟨_,rfl,e5.1,dxo,_,rfl,s6 _ _ hro,qft _ _ _ _ _,?_⟩;simp only[qf6,AV,AX,AN];refine (R5.R.same s6).heaps (by omega) λa2 as2 H7 s7 g7 ha2 ta2 _=>?_
   refine ⟨qc3 (by simp),λta H8 n8=>?_⟩;have s38:=s4.trans (s5.trans (s6.trans (s7.trans n8.same)));have hlf8:=s38 _ _ hlf;refine ⟨lf,ws,_,rfl,rfl,hlf8,qao (by have:=tr.length;omega),λH9 b9 h9=>?_⟩;have nf:∀ {c:Addr} {G:Hp},Same H3 G->G c=none->c ∉ [lf]:=fun {c G} sg hc z=>by
    rw[Aj.mp z,sg _ _ hlf] at hc;cases hc
   have up:∀ {c:Addr} {o:HO},H8 c=some o->c ∉ [lf]->rmS H9 [lf] c=some o:=fun {c o} e n=>qcw (b9 _ _ e (λz=>n (Aj.mpr z))) n
   have tu:∀ {vs:List V} {rs:List (List Int)},Tups H8 vs rs->Tups (rmS H9 [lf]) vs rs:=λt=>t.tupS λc xs e=>up e (λz=>by rw[Aj.mp z,hlf8] at e;cases e)
   refine ⟨_,rows ++ [(x0,qbe e5.2.2.2,qdi (qca (B.ps.map (·.2)) es ge) e5.2.2.1)],_,_,b9.same (s3.trans s38) n1.fresh,?_,h9,?_,?_,λr hr=>?_,rfl⟩
   ·exact b9 _ _ (s38 _ _ hln) nlf
   ·refine TRows.snoc ⟨ta,lm,a1,a2,as1,as2,rfl,up n8.at_ (nf (s4.trans (s5.trans (s6.trans s7))) n8.fresh),up (n8.same _ _ (s7 _ _ (s6 _ _ h5))) (nf s4 f5),up (n8.same _ _ (s7 _ _ ha1)) (nf (s4.trans s5) g6),tu ((ta1.same s7).same n8.same),up (n8.same _ _ ha2) (nf (s4.trans (s5.trans s6)) g7),tu (ta2.same n8.same)⟩ (tr.same ?_)
    exact λc o e=>up (s38 _ _ (qet e).1) (qet e).2
   ·rw[AB,nm,Bw,hxs];rfl
   ·rcases AA.mp hr with z|z
    ·exact en r z
    ·rw[Aj.mp z];exact ⟨e5,he0,rfl,rfl⟩
  ·rintro σ H3 ⟨ws,rows,v2,v3,s3,hln,hlf,tr,nm,en,rfl⟩
   rw[Ac,AL] at nm;exact ⟨_,rfl,q lf ws rows H3 s3 n1.fresh hlf (tr.same qzm) ⟨nm,en⟩⟩
include T in
theorem qha:qba P w K mg base 1 "_law_edges" ["_law_steps", "_law_gone_here", "_law_day"] qtb:=by
 obtain ⟨f,fd,F,hm⟩:=T.f__law_edges;have nd:=sc__law_edges.nd;refine F.def_ hm (F.ok sc__law_edges (λvs H Q E h=>?_) (λcdv A outer s H vs Q E hr h=>?_)) (F.binds λ_ _ _ _ _ _ us hl=>by obtain ⟨_,_,_,rfl⟩:=L2.lq3 hl;rfl)
 ·obtain ⟨l,xs,ps,g,d,rfl,_⟩:=h;rfl
 ·obtain ⟨l,xs,ps,g,d,rfl,hl,hx,Pg,hd,q⟩:=h
  have hlen:=hx.length;have h5:=Pg.good.hi;obtain ⟨p,hp,ep⟩:=Pg.last;refine ⟨_,(jB3 (qdv (i:=3) (vars:=[ "_law_age", "_law_width" ]) (frees:=[ "_law_day" ]) (fv:=[2]) nd rfl (Or.inl rfl) rfl (jL1 rfl) ⟨⟨rfl,.inl rfl,rfl,.inl rfl⟩,trivial⟩ (qa1 (pv 0)) (qdh (by decide) (by decide)) (λ_ _ _ _=>(jG2 (jM 0 [ "_law_age", "_law_width", "_law_day" ]) (jM 1 [ "_law_age", "_law_width", "_law_day" ]))) (λ_ _ _ _=>qbg) (λ_ _ _ _=>(qag qb2 (qag qkl (qag qdk (pv 2) (pv 0)) (pv 1)) (pv 1)))) (qa2 (jC qea (pv 1) qbp) (qad (qah (qag qgb (pv 3) (qa8 (jA1 qbp))))) qak) (qah (qag qgb (pv 3) (qa8 (jA1 (qag qb2 (qag qkl (qag qdk (pv 2) (pv 1)) (jT (jI (pv 0) (qdt qb5 qaa)) qaa)) (jT (jI (pv 0) (qdt qb5 qaa)) qaa))))))),?_⟩;refine ⟨_,rfl,l,rfl,⟨_,SqL.of hl⟩,qcy (xs:=xs) (λi ys H2=>Same H H2/\ys=(ps.take i).map λp=>V.int (cut d p.1 p.2)) (Bn (qao (by omega))) ⟨Same.refl _,rfl⟩ (λi ys H2 h2=>⟨SqL.of (h2.1 _ _ hl),by rw[h2.2];simp;omega⟩) ?_ ?_⟩
  ·rintro i x ys H2 hi ⟨s2,rfl⟩
   obtain ⟨p,hpi,a,rfl,ha⟩:=hx.get hi;have hs:=Pg.size i p hpi;unfold Bd at hd;have hb:=qyz (x:=d-p.1) (B:=10 ^ 46) hs.2.2.1 (by decide) (by omega) (by omega);refine ⟨a,_,rfl,SqT.of (s2 _ _ ha),rfl,_,_,rfl,_,_,rfl,rfl,qop (qc6 ?_)⟩;refine ⟨_,rfl,_,rfl,_,_,rfl,rfl,_,rfl,_,_,rfl,rfl,⟨by show 0<p.2;omega,by show p.2<_;omega⟩,_,rfl,_,_,rfl,rfl,⟨⟨by omega,by omega⟩,by omega,by omega⟩,s2,?_⟩;exact (qCg _ ps i p hpi).symm
  ·rintro ys H2 c1 H3 ⟨s2,rfl⟩ n3
   rw[hlen,AL] at n3;have s3:Same H H3:=s2.trans n3.same
   cases g with
   | none =>
    refine ⟨_,rfl,rfl,_,rfl,qc6 ?_⟩
    walk_at "r";intro c2 H4 n4
    refine ⟨c1,c2,_,_,rfl,rfl,n4.same _ _ n3.at_,n4.at_,Bn (qao (by simp;omega)),λz H6 n6=>?_⟩;exact q z H6 (New.after (s3.trans n4.same) n6)
   | some z =>
    refine ⟨_,rfl,rfl,_,rfl,qds ?_⟩;obtain ⟨v,hv,a,rfl,ha⟩:=hx.get' hp;have hz:=Pg.gb z rfl;have hs:=Pg.size _ p hp;unfold Bd at hd;have hb:=qyz (x:=d-z) (B:=10 ^ 46) hs.2.2.1 (by decide) (by omega) (by omega);have hat:atI xs (-1)=some (.ref a):=qh7 (by rw[hlen];exact hv)
    walk_at "r";intro c2 H4 n4
    refine ⟨c1,c2,_,_,rfl,rfl,n4.same _ _ n3.at_,n4.at_,Bn (qao (by simp;omega)),λy H6 n6=>?_⟩;have e:eV ps (some z) d=(ps.map λp=>V.int (cut d p.1 p.2)) ++ [V.int ((d-z) / p.2*p.2)]:=by
     show (ps.map λp=>V.int (cut d p.1 p.2)) ++ [V.int (cut d z (lw ps))]=_
     rw[ep];rfl
    refine q y H6 ?_;rw[e];exact New.after (s3.trans n4.same) n6
inductive qkc (C CR R:Addr) (vs:List V) (H:Hp) (Q:VK) (E_:XK):Prop
 | mk:∀ (b lrd:Addr) (B:qbf) (es:List Int) (ge:Option Int) (X:qa6) (zs:List V) (RS:List (List Nat×Rd3)),vs=[.ref b,.ref lrd]->BkC C CR R H b B es ge X->XOk X->(∀ p∈X,qax 12 p.1)->H lrd=some (.lst zs)->RdNs H zs RS->(∀ r∈RS,r.1∈X.map (·.1)/\RLt r.2)->(∀ p∈X,p.2.2.2.1.length+RS.length<=40)->(∀ X' H',BkC C CR R H' b B es ge X'->XOk X'->X'.map (λp=>(p.1,p.2.1,p.2.2.1,p.2.2.2.2))=X.map (λp=>(p.1,p.2.1,p.2.2.1,p.2.2.2.2))->(∀ p∈X',∃ e:RC,(p.1,e)∈X/\p.2.2.2.1=e.2.2.1 ++ qf3 RS p.1)->(∀ c o,H c=some o->(∀ p∈X,c≠p.2.2.1.dy/\c≠p.2.2.1.dh)->H' c=some o)->Q .non H')->qkc C CR R vs H Q E_
include T in
theorem qe8:qba P w K mg base 6 "_law_all_put" ["_law_book", "_law_readings_here"] (qkc C_Book C_Roll C_Rule):=by
 obtain ⟨f,fd,F,hm⟩:=T.f__law_all_put;have nd:=sc__law_all_put.nd;refine F.def_ hm (F.ok sc__law_all_put (λvs H Q E h=>?_) (λcdv A outer s H vs Q E hr h=>?_)) (F.binds λ_ _ _ _ _ _ us hl=>by obtain ⟨_,_,rfl⟩:=L2.lq2 hl;rfl)
 ·obtain ⟨b,lrd,B,es,ge,X,zs,RS,rfl,_⟩:=h;rfl
 ·obtain ⟨b,lrd,B,es,ge,X0,zs,RS,rfl,A',xk0,hsm,hrd,trd,hR,h40,q⟩:=h
  have no:∀ {m:Str},¬ m = "kept_rolls" -> ¬ m = "kept_marks" -> ¬ m = "kept_edges" -> ¬ m = "kept_day" -> ¬ m = "kept_rule" -> (bof B.ru B.day B.le B.dm B.dr).lookup m=none:=λa b c d e=>qdn _ _ _ _ _ a b c d e
  refine ⟨_,(qad (qbz AQ rfl (qa1 (pv 1)) (jG4 (jN 2 nd) (jN 3 nd) (jN 4 nd) (jN 5 nd)) (qad (qat (qb0 (qaz ⟨rfl,rfl,rfl⟩) (pv 0) T.cl_Book (qg8 T) (hr.mono (by decide)) .nil (jA4 (pv 2) (pv 3) (pv 4) (pv 5))))))),?_⟩;refine ⟨_,rfl,lrd,rfl,⟨_,SqL.of hrd⟩,qbn (xs:=zs) (λj σ H'=>∃ (X:qa6) (v2 v3 v4 v5:Option V),(∀ c o,H c=some o->(∀ p∈X0,c≠p.2.2.1.dy/\c≠p.2.2.1.dh)->H' c=some o)/\BkC C_Book C_Roll C_Rule H' b B es ge X/\XOk X/\X.map (λp=>(p.1,p.2.1,p.2.2.1,p.2.2.2.2))=X0.map (λp=>(p.1,p.2.1,p.2.2.1,p.2.2.2.2))/\(∀ p∈X,∃ e:RC,(p.1,e)∈X0/\p.2.2.2.1=e.2.2.1 ++ qf3 (RS.take j) p.1)/\σ=[some (.ref b),some (.ref lrd),v2,v3,v4,v5]) ⟨X0,_,_,_,_,λc o e _=>e,A',xk0,rfl,λp hp=>⟨p.2,hp,by simp[qf3]⟩,rfl⟩ (λj σ H' _ ⟨_,_,_,_,_,z,_⟩=>SqL.of (z _ _ hrd λp hp=>?_)) ?_ ?_⟩
  ·obtain ⟨⟨Y,hY⟩,⟨Z,hZ⟩⟩:=A'.dicts (x:=p.1) (e:=p.2) hp
   exact ⟨qaq hrd hY (by intro z;cases z),qaq hrd hZ (by intro z;cases z)⟩
  ·rintro j y σ H3 hyj ⟨X,v2,v3,v4,v5,kp,B3,xk,nm,rr,rfl⟩
   obtain ⟨⟨x,t,va,m⟩,hrj,a,rfl,ha⟩:=trd.get hyj;have hmem:=An hrj;obtain ⟨hxn,hlt⟩:=hR _ hmem;have nmf:X.map (·.1)=X0.map (·.1):=by
    have:=congrArg (List.map Prod.fst) nm;rw[AI,AI] at this;exact this
   have nmq:∀ p∈X,∃ p0∈X0,p.1=p0.1/\p.2.2.1=p0.2.2.1:=λp hp=>by
    have:(p.1,p.2.1,p.2.2.1,p.2.2.2.2)∈X0.map (λp=>(p.1,p.2.1,p.2.2.1,p.2.2.2.2)):=by rw[<- nm];exact Af.mpr ⟨p,hp,rfl⟩
    obtain ⟨p0,h0,e0⟩:=Af.mp this;injection e0 with z1 z2
    injection z2 with z2 z3
    injection z3 with z3 z4
    exact ⟨p0,h0,z1.symm,z3.symm⟩
   have hin:x∈X.map (·.1):=by rw[nmf];exact hxn
   obtain ⟨n0,hn0,en0⟩:=Af.mp hxn;have hsx:qax 12 x:=by have:=hsm _ hn0;rw[en0] at this;exact this
   have tx:∀ {H:Hp},TextV H (tS x):=.inl ⟨x,rfl,by have:=hsx.2.1;omega⟩;have ha3:=kp _ _ ha λp hp=>by
    obtain ⟨⟨Y,hY⟩,⟨Z,hZ⟩⟩:=A'.dicts (x:=p.1) (e:=p.2) hp;exact ⟨qaq ha hY (by intro z;cases z),qaq ha hZ (by intro z;cases z)⟩
   refine ⟨a,_,rfl,SqT.of ha3,rfl,_,_,rfl,_,_,rfl,_,_,rfl,_,_,rfl,rfl,?_⟩;refine qpu (σ':=[some (.ref b),some (.ref lrd),some (tS x),some (.int t),some (.int va),some (.int m)]) rfl ?_;obtain ⟨dx,hob⟩:=B3.ob;have m1:1<=m:=hlt.2.2.1;have tb:qnw t:=by have:=hlt.1;exact ⟨by dsimp only at this;omega,by dsimp only at this;omega⟩
   have jl:j<RS.length:=(Ai.mp hrj).1;refine ⟨_,rfl,b,dx,_,rfl,hob,no (by decide +kernel) (by decide +kernel) (by decide +kernel) (by decide +kernel) (by decide +kernel),_,rfl,_,rfl,_,rfl,_,rfl,b,_,es,ge,X,tS x,t,va,m,rfl,B3,tx,tb,λ_=>hlt,λy e' he'=>?_,λz=>absurd ⟨x,rfl,hsx,hin⟩ z,λy e' _ _ _ h1=>absurd h1 (by omega),λy e' ey hy he' _ H4 b4 R4=>?_⟩
   ·obtain ⟨e0,he0,er0⟩:=rr (y,e') he'
    have l1:=h40 _ he0;have l2:=qdy (RS.take j) y;rw[As] at l2;rw[show e'.2.2.1=e0.2.2.1 ++ qf3 (RS.take j) y from er0,Aq];dsimp only at l1;omega
   have ey:=qbt ey;subst ey;obtain ⟨⟨Y,hY⟩,⟨Z,hZ⟩⟩:=B3.dicts he';obtain ⟨p0,hp0,_,eq0⟩:=nmq (x,e') he';have eq0:e'.2.1=p0.2.2.1:=eq0;refine ⟨X.map (qjf x (t,va,m)),_,_,_,_,λc o e nc=>?_,B3.put xk he' b4 hY hZ R4,xk.add x _,?_,λp hp=>?_,rfl⟩
   ·have:=nc p0 hp0
    rw[<- eq0] at this;exact b4 _ _ (kp c o e nc) this.1 this.2
   ·rw[AI,<- nm]
    exact Ba λp _=>by show ((qjf x (t,va,m) p).1,(qjf x (t,va,m) p).2.1,(qjf x (t,va,m) p).2.2.1,(qjf x (t,va,m) p).2.2.2.2)=_;rw[qf2,qw7,qpp,qt0]
   ·obtain ⟨p1,h1,rfl⟩:=Af.mp hp
    obtain ⟨e1,he1,er1⟩:=rr p1 h1;refine ⟨e1,by rw[qf2];exact he1,?_⟩;rw[qf2,Bw,hrj]
    show _=e1.2.2.1 ++ qf3 (RS.take j ++ [(x,t,va,m)]) p1.1
    rw[qjc];unfold qjf
    by_cases h:p1.1=x
    ·rw[Al h,Al h,<- Dd,<- er1]
    ·rw[Ah h,Ah h];exact er1
  ·rintro σ H3 ⟨X,v2,v3,v4,v5,kp,B3,xk,nm,rr,rfl⟩
   rw[trd.length,AL] at rr;exact q X H3 B3 xk nm rr kp
section
variable {K:Frag} {H:Hp} {p q:Addr} {xs ys:List V} {Q:VK}
theorem eqT {rs:List (List Int)} (hp:H p=some (.lst xs)) (tp:Tups H xs rs) (hq:H q=some (.lst ys)) (tq:Tups H ys rs) (h:Q (.bl true) H):qwf K false (.ref p) (.ref q) H Q:=
 ⟨_,_,tp.rep hp,tq.rep hq,qfu _,qfu _,qvp _,by rw[Ah (by decide),BR _ (qfu _)];exact h⟩
theorem qt9:∀ vs:List V,PyData.depthAll (vs.map dV)<=0
 | []=>Ag _
 | v :: vs=>by
  show max (PyData.depth (dV v)) (PyData.depthAll (vs.map dV))<=0
  have:=qt9 vs;have:PyData.depth (dV v)=0:=by cases v<;>rfl
  omega
theorem neE (hp:H p=some (.lst xs)) (hq:H q=some (.lst xs)) (he:∀ v∈xs,Ed v) (h:Q (.bl false) H):qwf K true (.ref p) (.ref q) H Q:=
 ⟨_,_,.lst (SqL.of hp) (qia he),.lst (SqL.of hq) (qia he),ed_lay' _,ed_lay' _,by show PyData.depthAll _+1<=20;have:=qt9 xs;omega,by rw[Al rfl,BR _ (ed_lay' _)];exact h⟩
theorem eqE (hp:H p=some (.lst xs)) (hq:H q=some (.lst xs)) (he:∀ v∈xs,Ed v) (h:Q (.bl true) H):qwf K false (.ref p) (.ref q) H Q:=
 ⟨_,_,.lst (SqL.of hp) (qia he),.lst (SqL.of hq) (qia he),ed_lay' _,ed_lay' _,by show PyData.depthAll _+1<=20;have:=qt9 xs;omega,by rw[Ah (by decide),BR _ (ed_lay' _)];exact h⟩
theorem neP {ps:List (Int×Int)} (hp:H p=some (.lst xs)) (tp:Pairs H xs ps) (hq:H q=some (.lst ys)) (tq:Pairs H ys ps) (h:Q (.bl false) H):qwf K true (.ref p) (.ref q) H Q:=
 ⟨_,_,tp.rep hp,tq.rep hq,qh3 _,qh3 _,qs6 _,by rw[Al rfl,BR _ (qh3 _)];exact h⟩
end
theorem qm9:∀ {a b:List TR},a.map (·.1)=b.map (·.1)->(∀ r1∈a,∀ r2∈b,r1.1=r2.1->r1=r2)->a=b
 | [],[],_,_=>rfl
 | [],_ :: _,e,_=>by cases e
 | _ :: _,[],e,_=>by cases e
 | x :: a,y :: b,e,f=>by
  rw[Aw,Aw] at e;injection e with e1 e2
  rw[f x Au y Au e1,qm9 e2 λr1 h1 r2 h2=>f r1 (Ap _ h1) r2 (Ap _ h2)]
noncomputable def dTR (r:TR):PyData:=.tuple [.str (S r.1),.list (r.2.1.map λm=>.str (S m)),qjl (qb4 r.2.2),qjl (qcb r.2.2)]
def qCk (r:TR):Prop:=qax 12 r.1/\∀ m∈r.2.1,qax 8 m
theorem qxa {n:Int} {x:List Nat} (h:qax n x):(PyData.str (S x)).canLay0=true:=by
 show PyData.strOk (S x)=true
 unfold PyData.strOk;rw[Array.all_eq_true'];intro c hc;have:=h.2.2 c (by simpa [S] using hc)
 simp;omega
theorem qlb {K:Frag} {H:Hp}:∀ ms:List (List Nat),qq6 K H (ms.map tS) (ms.map λm=>PyData.str (S m))
 | []=>.nil
 | _ :: ms=>.cons (.str _) (qlb ms)
theorem qua {n:Int}:∀ ms:List (List Nat),(∀ m∈ms,qax n m)->PyData.canLayAll0 (ms.map λm=>PyData.str (S m))=true
 | [],_=>rfl
 | m :: ms,h=>by
  show (PyData.canLay0 (.str (S m)) && PyData.canLayAll0 (ms.map λm=>PyData.str (S m)))=true
  rw[qxa (h m Au),qua ms λx hx=>h x (Ap _ hx)];rfl
theorem qub:∀ ms:List (List Nat),PyData.depthAll (ms.map λm=>PyData.str (S m))=0
 | []=>rfl
 | m :: ms=>by
  show max (PyData.depth (.str (S m))) (PyData.depthAll (ms.map λm=>PyData.str (S m)))=0
  rw[qub ms];rfl
theorem qB2 {r:TR} (h:qCk r):(dTR r).canLay0=true:=by
 show (PyData.canLay0 (.str (S r.1)) && (PyData.canLayAll0 (r.2.1.map λm=>PyData.str (S m)) && (PyData.canLay0 (qjl (qb4 r.2.2)) && (PyData.canLay0 (qjl (qcb r.2.2)) && true))))=true
 rw[qxa h.1,qua _ h.2,qfu,qfu];rfl
theorem qB3 (r:TR):(dTR r).depth<=4:=by
 have h1:=qfv (qb4 r.2.2);have h2:=qfv (qcb r.2.2);have h3:=qub r.2.1;simp only[dTR,qjl,PyData.depth,PyData.depthAll];omega
theorem TRow.rep {K:Frag} {H:Hp} {v:V} {r:TR} (h:TRow H v r):Rep K H v (dTR r):=by
 obtain ⟨a,l1,l2,l3,ys,zs,rfl,h0,h1,h2,t2,h3,t3⟩:=h;exact .tup (SqT.of h0) (.cons (.str _) (.cons (.lst (SqL.of h1) (qlb _)) (.cons (t2.rep h2) (.cons (t3.rep h3) .nil))))
theorem TRows.reps {K:Frag} {H:Hp}:∀ {vs:List V} {rows:List TR},TRows H vs rows->qq6 K H vs (rows.map dTR)
 | _,_,.nil=>.nil
 | _,_,.cons h t=>.cons h.rep (TRows.reps t)
theorem quc:∀ rows:List TR,(∀ r∈rows,qCk r)->PyData.canLayAll0 (rows.map dTR)=true
 | [],_=>rfl
 | r :: rows,h=>by
  show (PyData.canLay0 (dTR r) && PyData.canLayAll0 (rows.map dTR))=true
  rw[qB2 (h r Au),quc rows λx hx=>h x (Ap _ hx)];rfl
theorem qud:∀ rows:List TR,PyData.depthAll (rows.map dTR)<=4
 | []=>AW _
 | r :: rows=>by
  show max (PyData.depth (dTR r)) (PyData.depthAll (rows.map dTR))<=4
  have:=qB3 r;have:=qud rows;omega
theorem qFb {K:Frag} {H:Hp} {p q:Addr} {xs ys:List V} {rows:List TR} {Q:VK} (hp:H p=some (.lst xs)) (tp:TRows H xs rows) (hq:H q=some (.lst ys)) (tq:TRows H ys rows) (hr:∀ r∈rows,qCk r) (h:Q (.bl true) H):qwf K false (.ref p) (.ref q) H Q:=by
 have c:(PyData.list (rows.map dTR)).canLay0=true:=quc rows hr;refine ⟨_,_,.lst (SqL.of hp) tp.reps,.lst (SqL.of hq) tq.reps,c,c,?_,?_⟩
 ·show PyData.depthAll (rows.map dTR)+1<=20
  have:=qud rows;omega
 ·rw[Ah (by decide),BR _ c]
  exact h
theorem NmsAt.snoc {H:Hp} {v:V} {n:List Nat×List (List Nat)} (h:qDu H v n):∀ {ys:List V} {NM:List (List Nat×List (List Nat))},NmsAt H ys NM->NmsAt H (ys ++ [v]) (NM ++ [n])
 | _,_,.nil=>.cons h .nil
 | _,_,.cons b t=>.cons b (NmsAt.snoc h t)
theorem nmu:∀ {NM:List (List Nat×List (List Nat))} {x:List Nat} {a b:List (List Nat)},(NM.map (·.1)).Nodup->(x,a)∈NM->(x,b)∈NM->a=b
 | [],_,_,_,_,h,_=>by cases h
 | n :: NM,x,a,b,nd,h1,h2=>by
  rw[Aw,Bf] at nd
  rcases Ak.mp h1 with z1|z1<;>rcases Ak.mp h2 with z2|z2
  ·exact (Fj (z1.trans z2.symm)).2
  ·exact absurd (Af.mpr ⟨_,z2,by rw[<- z1]⟩) nd.1
  ·exact absurd (Af.mpr ⟨_,z1,by rw[<- z2]⟩) nd.1
  ·exact nmu nd.2 z1 z2
structure RelX (X:qa6) (NM:List (List Nat×List (List Nat))) (RS:List (List Nat×Rd3)) (cell:Int->Option (Int×Int)):Prop where
 nm:(X.map (·.1)).Perm (NM.map (·.1))
 en:∀ p∈X,∃ ms,(p.1,ms)∈NM/\qbe p.2.2.2.2=qbe ms/\qdi cell p.2.2.2.1=qdi cell (qf3 RS p.1)
theorem RelX.rows {X X2:qa6} {NM:List (List Nat×List (List Nat))} {RS:List (List Nat×Rd3)} {cell:Int->Option (Int×Int)} (h:RelX X NM RS cell) (nd:(NM.map (·.1)).Nodup) (xk:XOk X) (n2:X2.map (λp=>(p.1,p.2.2.2.2))=NM) (r2:∀ p∈X2,p.2.2.2.1=qf3 RS p.1) {ra rb:List TR} (ta:qt8 X cell ra) (tb:qt8 X2 cell rb):ra=rb:=by
 have e2:X2.map (·.1)=NM.map (·.1):=by
  have:=congrArg (List.map Prod.fst) n2;rw[AI] at this;exact this
 refine qm9 ?_ λx hx y hy e=>?_
 ·rw[ta.1,tb.1,e2]
  exact qfb h.nm
 ·obtain ⟨ea,ha,a1,a2⟩:=ta.2 x hx
  obtain ⟨eb,hb,b1,b2⟩:=tb.2 y hy;obtain ⟨ms,hm,m1,m2⟩:=h.en (x.1,ea) ha;have hb':(y.1,eb.2.2.2)∈NM:=by rw[<- n2];exact Af.mpr ⟨_,hb,rfl⟩
  have em:ms=eb.2.2.2:=by
   have hm':(y.1,ms)∈NM:=by rw[<- e];exact hm
   exact nmu nd hm' hb'
  have er:=r2 (y.1,eb) hb;obtain ⟨x1,x2,x3⟩:=x;obtain ⟨y1,y2,y3⟩:=y;dsimp only at *
  subst e;rw[a1,b1,a2,b2,er,m1,em,m2]
inductive qkd (C CR R:Addr) (vs:List V) (H:Hp) (Q:VK) (E_:XK):Prop
 | mk:∀ (b:Addr) (B:qbf) (es:List Int) (ge:Option Int) (X:qa6) (le lnm lrd:Addr) (ys zs:List V) (NM:List (List Nat×List (List Nat))) (RS:List (List Nat×Rd3)),vs=[.ref b,.ref B.ru,.int B.day,.ref le,.ref lnm,.ref lrd]->BkC C CR R H b B es ge X->qk9 X 50->H le=some (.lst (es.map V.int ++ [gv ge]))->H lnm=some (.lst ys)->NmsAt H ys NM->qCj NM->H lrd=some (.lst zs)->RdNs H zs RS->(∀ r∈RS,r.1∈NM.map (·.1)/\RLt r.2)->RS.length<=40->RelX X NM RS (qca (B.ps.map (·.2)) es ge)->(∀ H',Same H H'->Q (.bl true) H')->qkd C CR R vs H Q E_
theorem qv4 {n:Int} {ms:List (List Nat)} (h:qbq (ms.map tS)) (hn:n=8):∀ m∈qbe ms,qax n m:=λm hm=>by
 have:=h.1 (tS m) (Af.mpr ⟨m,(qa3 _).mem_iff.mp hm,rfl⟩);rw[qcg] at this;rw[hn];exact AG this
include T in
theorem qdf:qba P w K mg base 9 "_law_right" ["_law_book", "_law_made", "_law_day", "_law_edges_here", "_law_names", "_law_readings_here"] (qkd C_Book C_Roll C_Rule):=by
 obtain ⟨f,fd,F,hm⟩:=T.f__law_right;have nd:=sc__law_right.nd;refine F.def_ hm (F.ok sc__law_right (λvs H Q E h=>?_) (λcdv A outer s H vs Q E hr h=>?_)) (F.binds λ_ _ _ _ _ _ us hl=>by obtain ⟨_,_,_,_,_,_,rfl⟩:=L2.lq6 hl;rfl)
 ·obtain ⟨b,B,es,ge,X,le,lnm,lrd,ys,zs,NM,RS,rfl,_⟩:=h;rfl
 ·obtain ⟨b,B,es,ge,X,le,lnm,lrd,ys,zs,NM,RS,rfl,A',XG,hle,hnm,tnm,nk,hrd,trd,hR,r40,rel,q⟩:=h
  obtain ⟨dx,hob⟩:=A'.ob;obtain ⟨xs0,hxs0,pxs0⟩:=A'.rule.ls;obtain ⟨dxu,hu⟩:=A'.rule.ob;have no:∀ (B:qbf) {m:Str},¬ m = "kept_rolls" -> ¬ m = "kept_marks" -> ¬ m = "kept_edges" -> ¬ m = "kept_day" -> ¬ m = "kept_rule" -> (bof B.ru B.day B.le B.dm B.dr).lookup m=none:=λB _ a b c d e=>qdn _ _ _ _ _ a b c d e
  have rno:∀ {m:Str},¬ m = "gone_age" -> ¬ m = "kept_steps" -> (rf B.rl (gv B.g)).lookup m=none:=λa b=>qlz _ _ a b
  have hln:es.length=B.ps.length:=by have:=A'.ok.F.len;rw[Ac] at this;omega
  have k20:=nk.ln;refine ⟨_,(jB4 (qa2 (PW.pt (qhb (jC qp5 (qa0 (pv 0) T.cl_Book (qj8 T) (hr.mono (by decide))) (pv 2)) (qhb (jC (qhv hr.units) (qa0 (pv 0) T.cl_Book (qes T) (hr.mono (by decide))) (pv 3)) (qe0 (jC (qhv hr.units) (qa0 (qa0 (pv 0) T.cl_Book (qfj T) (hr.mono (by decide))) T.cl_Rule (qbl T) (hr.mono (by decide))) (qa0 (pv 1) T.cl_Rule (qbl T) (hr.mono (by decide)))))))) (qad (qah qd2)) qak) (qa2 (jC qp5 (qa0 (qa0 (pv 0) T.cl_Book (qfj T) (hr.mono (by decide))) T.cl_Rule (qfi T) (hr.mono (by decide))) (qa0 (pv 1) T.cl_Rule (qfi T) (hr.mono (by decide)))) (qad (qah qd2)) qak) (jS 6 nd (jF (qt7 T) hr (jA5 (pv 1) (pv 2) (qbd qbc rfl T.b_list qce (jA1 (pv 3))) (qhd (vars:=[ "_law_name_here", "_law_marks" ]) (frees:=[]) (fv:=[]) rfl (jL0 rfl) trivial (qa1 (pv 4)) (qdh (by decide) (by decide)) (λ_ _ _ _=>(jG2 (jM 0 [ "_law_name_here", "_law_marks" ]) (jM 1 [ "_law_name_here", "_law_marks" ]))) (λ_ _ _ _=>qbg) (λ_ _ _ _=>(qbj (jA2 (pv 0) (qbd (show CallR _ _ (λxs H Q=>∃ p ys,xs=[V.ref p]/\(SqL K H p ys\/SqT K H p ys)/\∀ (l:Addr) (H':Hp),New H H' l (HO.lst ys)->Q (V.ref l) H') from qbc) rfl T.b_list qce (jA1 (pv 1))))))) (qbd qbc rfl T.b_list qce (jA1 (pv 5)))))) (qah (qd6 (jD (qon hr.units) (jF (qw9 T) hr (jA1 (pv 0))) (jF (qw9 T) hr (jA1 (pv 6)))) (qfm (jD (qon hr.units) (qa0 (pv 6) T.cl_Book (qes T) (hr.mono (by decide))) (pv 3)))))),?_⟩;refine ⟨_,rfl,b,dx,_,rfl,hob,no B (by decide +kernel) (by decide +kernel) (by decide +kernel) (by decide +kernel) (by decide +kernel),b,B,es,ge,X,rfl,A',_,rfl,rfl,_,rfl,?_⟩;rw[AE rfl];refine qds ?_;refine ⟨_,rfl,b,dx,_,rfl,hob,no B (by decide +kernel) (by decide +kernel) (by decide +kernel) (by decide +kernel) (by decide +kernel),b,B,es,ge,X,rfl,A',λp1 H1 n1=>⟨_,rfl,?_⟩⟩;refine neE n1.at_ (n1.same _ _ hle) A'.ok.E.ed ⟨_,rfl,qds ?_⟩;have A1:=A'.same n1.same;refine ⟨_,rfl,b,dx,_,rfl,n1.same _ _ hob,no B (by decide +kernel) (by decide +kernel) (by decide +kernel) (by decide +kernel) (by decide +kernel),b,B,es,ge,X,rfl,A1,?_⟩;refine ⟨B.ru,dxu,_,rfl,n1.same _ _ hu,rno (by decide +kernel) (by decide +kernel),B.ru,B.rl,B.ps,B.g,xs0,rfl,A1.rule,n1.same _ _ hxs0,λp3 H3 n3=>?_⟩;refine ⟨_,rfl,B.ru,dxu,_,rfl,n3.same _ _ (n1.same _ _ hu),rno (by decide +kernel) (by decide +kernel),B.ru,B.rl,B.ps,B.g,xs0,rfl,A1.rule.same n3.same,n3.same _ _ (n1.same _ _ hxs0),λp4 H4 n4=>?_⟩;have px4:=((pxs0.same n1.same).same n3.same).same n4.same;refine neP (n4.same _ _ n3.at_) px4 n4.at_ px4 ⟨_,rfl,qds ?_⟩;have s4:=n1.same.trans (n3.same.trans n4.same);have A4:=A'.same s4;refine ⟨_,rfl,b,dx,_,rfl,s4 _ _ hob,no B (by decide +kernel) (by decide +kernel) (by decide +kernel) (by decide +kernel) (by decide +kernel),b,B,es,ge,X,rfl,A4,?_⟩;refine ⟨B.ru,dxu,_,rfl,s4 _ _ hu,rno (by decide +kernel) (by decide +kernel),B.ru,B.rl,B.ps,B.g,rfl,A4.rule,?_⟩;refine ⟨_,rfl,B.ru,dxu,_,rfl,s4 _ _ hu,rno (by decide +kernel) (by decide +kernel),B.ru,B.rl,B.ps,B.g,rfl,A4.rule,?_⟩;have fl:qCs (gv B.g) (gv B.g)=true:=by cases B.g<;>rfl
  refine ⟨fl,_,rfl,?_⟩;rw[AE rfl];refine qds ?_;refine ⟨_,rfl,_,rfl,_,rfl,le,_,rfl,.inl (SqL.of (s4 _ _ hle)),λl5 H5 n5=>?_⟩;have s5:=s4.trans n5.same;refine ⟨_,rfl,lnm,rfl,⟨_,SqL.of (s5 _ _ hnm)⟩,qcy (xs:=ys) (λi vs H2=>Same H5 H2/\NmsAt H2 vs (NM.take i)) (qc3 (by have:=tnm.length;omega)) ⟨Same.refl _,.nil⟩ (λi vs H2 h2=>⟨SqL.of (h2.1 _ _ (s5 _ _ hnm)),by rw[h2.2.length,As];omega⟩) ?_ ?_⟩
  ·rintro i y vs H6 hi ⟨s6,t6⟩
   obtain ⟨⟨x,ms⟩,hxn,a,l,rfl,ha,hl⟩:=tnm.get hi;have s06:=s5.trans s6;refine ⟨a,_,rfl,SqT.of (s06 _ _ ha),rfl,_,_,rfl,_,_,rfl,rfl,qop (qc6 ?_)⟩;refine ⟨_,rfl,_,rfl,l,_,rfl,.inl (SqL.of (s06 _ _ hl)),λl7 H7 n7=>⟨qc3 (by simp),λta H8 n8=>⟨s6.trans (n7.same.trans n8.same),?_⟩⟩⟩;rw[Bw,hxn];exact (t6.same (n7.same.trans n8.same)).snoc ⟨ta,l7,rfl,n8.at_,n8.same _ _ n7.at_⟩
  ·rintro vs H6 pl H7 ⟨s6,t6⟩ n7
   rw[tnm.length,AL] at t6;have s7:=s5.trans (s6.trans n7.same);refine ⟨_,rfl,lrd,_,rfl,.inl (SqL.of (s7 _ _ hrd)),λl8 H8 n8=>?_⟩;have s8:=s7.trans n8.same;refine ⟨B.ru,B.rl,l5,pl,l8,B.ps,B.g,B.day,es,es,ge,ge,vs,zs,NM,RS,rfl,A'.rule.same s8,A'.ok.P,A'.ok.wb,A'.ok.hd,n8.same _ _ (n7.same _ _ (s6 _ _ n5.at_)),A'.ok.E,hln,A'.ok.up,n8.same _ _ n7.at_,(t6.same n7.same).same n8.same,nk,n8.at_,trd.tupS (Same.tup s8),hR,r40,λb2 le2 dm2 dr2 X2 H9 B9 xk9 nm9 rs9 fr9 s9 f1 f2 f3 f4=>qan ?_⟩;refine qpu (σ':=[some (.ref b),some (.ref B.ru),some (.int B.day),some (.ref le),some (.ref lnm),some (.ref lrd),some (.ref b2)]) rfl ?_;have s09:=s8.trans s9;have A9:=A'.same s09;have nmf:X2.map (·.1)=NM.map (·.1):=by
    have:=congrArg (List.map Prod.fst) nm9;rw[AI] at this;exact this
   have m9:∀ p∈X2,(p.1,p.2.2.2.2)∈NM:=λp hp=>by rw[<- nm9];exact Af.mpr ⟨p,hp,rfl⟩
   have XG2:qk9 X2 50:=⟨xk9,λp hp=>nk.sm _ (m9 p hp),λp hp=>nk.mm _ (m9 p hp),by have:=congrArg List.length nmf;rw[Ac,Ac] at this;omega,λp hp=>by rw[rs9 p hp];exact AR (qdy _ _) (by omega)⟩;refine ⟨_,rfl,b,B,es,ge,X,rfl,A9,XG,λl10 ws10 ra H10 s10 f10 hl10 tr10 ta=>?_⟩;refine ⟨_,rfl,b2,_,es,ge,X2,rfl,B9.same s10,XG2,λl11 ws11 rb H11 s11 f11 hl11 tr11 tb=>?_⟩;have er:=rel.rows nk.nd XG.ok nm9 rs9 ta tb;subst er;have rk:∀ r∈ra,qCk r:=λr hr=>by
    obtain ⟨e,he,m1,_⟩:=ta.2 r hr;refine ⟨XG.sm _ he,λm hm=>?_⟩;rw[m1] at hm;exact qv4 (XG.mm _ he) rfl m hm
   refine qFb (s11 _ _ hl10) (tr10.same s11) hl11 tr11 rk ⟨_,rfl,qc6 ?_⟩;have s911:=s10.trans s11;have B11:=B9.same s911;obtain ⟨dx2,hob2⟩:=B11.ob;refine ⟨_,rfl,b2,dx2,_,rfl,hob2,no _ (by decide +kernel) (by decide +kernel) (by decide +kernel) (by decide +kernel) (by decide +kernel),b2,_,es,ge,X2,rfl,B11,λp12 H12 n12=>⟨_,rfl,?_⟩⟩;refine eqE n12.at_ (n12.same _ _ (s911 _ _ (s09 _ _ hle))) A'.ok.E.ed ?_;exact q H12 (s09.trans (s911.trans n12.same))
theorem BkC.butK7 {C CR R:Addr} {H H':Hp} {b a:Addr} {B:qbf} {es:List Int} {ge:Option Int} {X:qa6} {kvs:List (Key×V)} (h:BkC C CR R H b B es ge X) (bu:But a H H') (ha:H a=some (.dK kvs)) (n1:B.dm≠a) (n2:B.dr≠a):BkC C CR R H' b B es ge X:=
 ⟨let ⟨dx,e⟩:=h.ob;⟨dx,bu _ _ e (qaq e ha (by intro z;cases z))⟩,h.rule.butK bu ha,bu _ _ h.ed (qaq h.ed ha (by intro z;cases z)),
  let ⟨k,e,r⟩:=h.ms;⟨k,bu _ _ e n1,r.imp λ_ _ q=>q.butK bu ha⟩,let ⟨k,e,r⟩:=h.rs;⟨k,bu _ _ e n2,r.imp λ_ _ ⟨e1,e2⟩=>⟨e1,e2.butK bu ha⟩⟩,h.ne,h.ok⟩
theorem BkC.but7 {C CR R:Addr} {H H':Hp} {b a d:Addr} {B:qbf} {es:List Int} {ge:Option Int} {X:qa6} {k1 k2:List (Key×V)} (h:BkC C CR R H b B es ge X) (bu:But2 a d H H') (ha:H a=some (.dK k1)) (hd:H d=some (.dK k2)) (n1:B.dm≠a) (n2:B.dr≠a) (n3:B.dm≠d) (n4:B.dr≠d):BkC C CR R H' b B es ge X:=by
 have b1:But a H (λz=>if z=d then H d else H' z):=λz o e n=>by
  by_cases zd:z=d
  ·simp only[Al zd];rw[<- zd];exact e
  ·simp only[Ah zd];exact bu _ _ e n zd
 have b2:But d (λz=>if z=d then H d else H' z) H':=λz o e n=>by simp only[Ah n] at e;exact e
 exact (h.butK7 b1 ha n1 n2).butK7 b2 (by simp only[Al];exact hd) n3 n4
def sgn:Nat->List (List Nat)
 | 0=>[[111,108,100]]
 | 1=>[[110,101,119],[120]]
 | _=>[[101,118,101,110],[110,101,119]]
theorem qDv:(Str.ofString "old")=S [111,108,100]:=by decide +kernel
theorem qB4:(Str.ofString "new")=S [110,101,119]:=by decide +kernel
theorem w_x:(Str.ofString "x")=S [120]:=by decide +kernel
theorem qB5:(Str.ofString "even")=S [101,118,101,110]:=by decide +kernel
theorem lt3 {i:Nat} (h:i<3):i=0\/i=1\/i=2:=by omega
theorem que {i:Nat} (h:i<3):∀ m∈sgn i,qax 8 m:=by
 rcases lt3 h with rfl|rfl|rfl<;>intro m hm<;>simp only[sgn,Ak,AF,Bu] at hm<;>rcases hm with rfl|rfl<;>(unfold qax;decide)
theorem qB6 {i:Nat} (h:i<3):qbq ((sgn i).map tS):=by
 refine ⟨λv hv=>?_,?_,?_⟩
 ·obtain ⟨m,hm,rfl⟩:=Af.mp hv
  show qco 8 (.str (S m))=true
  rw[qcg];exact AE (que h m hm)
 ·have nd:(sgn i).Nodup:=by rcases lt3 h with rfl|rfl|rfl<;>(unfold sgn;decide)
  exact List.Pairwise.map _ (λa b n e=>n (qbt e)) nd
 ·rw[Ac];rcases lt3 h with rfl|rfl|rfl<;>decide
theorem qv5 {i:Nat} (h:i<3):qbe (sgn i)=sgn i:=by
 refine (qkt (Em _) ?_).symm
 rcases lt3 h with rfl|rfl|rfl<;>(unfold sgn;decide)
theorem qEa {K:Frag} {H:Hp} {p q:Addr} {n:Int} {ms:List (List Nat)} {Q:VK} (hm:∀ m∈ms,qax n m) (hp:H p=some (.lst (ms.map tS))) (hq:H q=some (.lst (ms.map tS))) (h:Q (.bl false) H):qwf K true (.ref p) (.ref q) H Q:=by
 have c:(PyData.list (ms.map λm=>PyData.str (S m))).canLay0=true:=qua ms hm;refine ⟨_,_,.lst (SqL.of hp) (qlb _),.lst (SqL.of hq) (qlb _),c,c,?_,by rw[Al rfl,BR _ c];exact h⟩
 show PyData.depthAll _+1<=20
 rw[qub];decide
def D3 (BB:Nat->qbf):Prop:=∀ i j,i<3->j<3->i≠j->((BB i).dm≠(BB j).dm/\(BB i).dr≠(BB j).dm)/\(BB i).dm≠(BB j).dr/\(BB i).dr≠(BB j).dr
theorem qB7 {α:Type} {f:Nat->α} {i:Nat} {y:α} (h:[f 0,f 1,f 2][i]?=some y):i<3/\y=f i:=by
 match i,h with
 | 0,h=>exact ⟨by decide,by cases h;rfl⟩
 | 1,h=>exact ⟨by decide,by cases h;rfl⟩
 | 2,h=>exact ⟨by decide,by cases h;rfl⟩
structure L3 (H:Hp) (lb ls:Addr) (bs sl:Nat->Addr):Prop where
 hb:H lb=some (.lst [.ref (bs 0),.ref (bs 1),.ref (bs 2)])
 hs:H ls=some (.lst [.ref (sl 0),.ref (sl 1),.ref (sl 2)])
 hl:∀ i,i<3->H (sl i)=some (.lst ((sgn i).map tS))
theorem L3.up {H H':Hp} {lb ls:Addr} {bs sl:Nat->Addr} (h:L3 H lb ls bs sl) (k:∀ a xs,H a=some (.lst xs)->H' a=some (.lst xs)):L3 H' lb ls bs sl:=⟨k _ _ h.hb,k _ _ h.hs,λi hi=>k _ _ (h.hl i hi)⟩
theorem L3.same {H H':Hp} {lb ls:Addr} {bs sl:Nat->Addr} (h:L3 H lb ls bs sl) (s:Same H H'):L3 H' lb ls bs sl:=h.up λ_ _ e=>s _ _ e
def fA (a b c:Addr):Nat->Addr
 | 0=>a
 | 1=>b
 | _=>c
structure B3 (C CR R:Addr) (H:Hp) (bs:Nat->Addr) (BB:Nat->qbf) (eF:Nat->List Int) (gF:Nat->Option Int) (XX:Nat->qa6):Prop where
 bk:∀ i,i<3->BkC C CR R H (bs i) (BB i) (eF i) (gF i) (XX i)
theorem B3.same {C CR R:Addr} {H H':Hp} {bs:Nat->Addr} {BB:Nat->qbf} {eF:Nat->List Int} {gF:Nat->Option Int} {XX:Nat->qa6} (h:B3 C CR R H bs BB eF gF XX) (s:Same H H'):B3 C CR R H' bs BB eF gF XX:=⟨λi hi=>(h.bk i hi).same s⟩
def qFc (x:List Nat) (XX:Nat->qa6) (j:Nat) (YY:Nat->qa6):Prop:=∀ i,i<3->(i<j->∃ ro c,YY i=XX i ++ [(x,(ro,c,[],sgn i))])/\(j<=i->YY i=XX i)
def NmL (H:Hp) (XX:Nat->qa6) (i:Nat) (v:V):Prop:=∃ l,v=.ref l/\H l=some (.lst ((qbe ((XX i).map (·.1))).map tS))
inductive qna (C CR R:Addr) (vs:List V) (H:Hp) (Q:VK) (E_:XK):Prop
 | mk:∀ (lb:Addr) (x:List Nat) (bs:Nat->Addr) (BB:Nat->qbf) (eF:Nat->List Int) (gF:Nat->Option Int) (XX:Nat->qa6),vs=[.ref lb,tS x]->H lb=some (.lst [.ref (bs 0),.ref (bs 1),.ref (bs 2)])->B3 C CR R H bs BB eF gF XX->(∀ i,i<3->(XX i).length<=20/\(∀ p∈XX i,qax 12 p.1)/\x ∉ (XX i).map (·.1))->qax 12 x->D3 BB->(∀ H',Q (.bl true) H')->qna C CR R vs H Q E_
include T in
theorem qnb:qba P w K mg base 10 "_law_apart" ["_law_books", "_law_strange"] (qna C_Book C_Roll C_Rule):=by
 obtain ⟨f,fd,F,hm⟩:=T.f__law_apart;have nd:=sc__law_apart.nd;refine F.def_ hm (F.ok sc__law_apart (λvs H Q E h=>?_) (λcdv A outer s H vs Q E hr h=>?_)) (F.binds λ_ _ _ _ _ _ us hl=>by obtain ⟨_,_,rfl⟩:=L2.lq2 hl;rfl)
 ·obtain ⟨lb,x,bs,BB,eF,gF,XX,rfl,_⟩:=h;rfl
 ·obtain ⟨lb,x,bs,BB,eF,gF,XX,rfl,hlb,B0,xk,hx,dd,q⟩:=h
  have no:∀ (B:qbf) {m:Str},¬ m = "kept_rolls" -> ¬ m = "kept_marks" -> ¬ m = "kept_edges" -> ¬ m = "kept_day" -> ¬ m = "kept_rule" -> (bof B.ru B.day B.le B.dm B.dr).lookup m=none:=λB _ a b c d e=>qdn _ _ _ _ _ a b c d e
  have tx:∀ {H:Hp},TextV H (tS x):=.inl ⟨x,rfl,by have:=hx.2.1;omega⟩;refine ⟨_,(jB5 (jS 2 nd (qa8 (jA3 (qa8 (jA1 qbr)) (qa8 (jA2 qbr qbr)) (qa8 (jA2 qbr qbr))))) (qdv (i:=3) (vars:=[ "_law_book" ]) (frees:=[]) (fv:=[]) nd rfl (Or.inl rfl) rfl (jL0 rfl) trivial (qa1 (pv 0)) (qec (by decide)) (λ_ _ _ _=>(jM 0 [ "_law_book" ])) (λ_ _ _ _=>qbg) (λ_ _ _ _=>(qa0 (pv 0) T.cl_Book (qde T) (hr.mono (by decide))))) (qbz AQ rfl (qlp rfl T.b_zip (jA2 (pv 0) (pv 2))) (jG2 (jN 4 nd) (jN 5 nd)) (qad (qat (qb0 (qaz ⟨rfl,rfl,rfl⟩) (pv 4) T.cl_Book (qci T) (hr.mono (by decide)) .nil (jA2 (pv 1) (qbd qbc rfl T.b_list qce (jA1 (pv 5)))))))) (qbz AQ rfl (qyy rfl T.b_zip (jA3 (pv 0) (pv 2) (pv 3))) (jG3 (jN 4 nd) (jN 5 nd) (jN 6 nd)) (qad (qa2 (PW.pt (qhb (jC (qhv hr.units) (qb0 (qaz ⟨rfl,rfl,rfl⟩) (pv 4) T.cl_Book (qeu T) (hr.mono (by decide)) .nil (jA1 (pv 1))) (pv 5)) (qe0 (jC (qhv hr.units) (qa0 (pv 4) T.cl_Book (qde T) (hr.mono (by decide))) (qal qfr rfl T.b_sorted qed (jA1 (qag qgb (pv 6) (qa8 (jA1 (pv 1)))))))))) (qad (qah qd2)) qak))) (qah qd2)),?_⟩;refine ⟨qc3 (by simp),λs0 H1 n1=>⟨qc3 (by simp),λs1 H2 n2=>⟨qc3 (by simp),λs2 H3 n3=>⟨qc3 (by simp),λls H4 n4=>qan ?_⟩⟩⟩⟩;refine qpu (σ':=[some (.ref lb),some (tS x),some (.ref ls),none,none,none,none]) rfl ?_;have s04:=n1.same.trans (n2.same.trans (n3.same.trans n4.same));have hl0:=n1.at_;have hl1:=n2.at_;have hl2:=n3.at_;rw[qDv] at hl0;rw[qB4,w_x] at hl1;rw[qB5,qB4] at hl2;have L4:L3 H4 lb ls bs (fA s0 s1 s2):=⟨s04 _ _ hlb,n4.at_,λi hi=>by
   rcases lt3 hi with rfl|rfl|rfl
   ·exact n4.same _ _ (n3.same _ _ (n2.same _ _ hl0))
   ·exact n4.same _ _ (n3.same _ _ hl1)
   ·exact n4.same _ _ hl2⟩
  have B4:=B0.same s04;clear hl0 hl1 hl2 n1 n2 n3 n4 s04;refine ⟨_,rfl,lb,rfl,⟨_,SqL.of L4.hb⟩,qcy (xs:=[.ref (bs 0),.ref (bs 1),.ref (bs 2)]) (λi ws H2=>Same H4 H2/\ws.length=i/\∀ j v,ws[j]?=some v->NmL H2 XX j v) (qc3 (by simp)) ⟨Same.refl _,rfl,λj v h=>by simp at h⟩ (λi ws H2 h2=>⟨SqL.of (h2.1 _ _ L4.hb),by rw[h2.2.1];exact Ag _⟩) ?_ ?_⟩
  ·rintro i y ws H5 hi ⟨s5,lw,nw⟩
   obtain ⟨i3,rfl⟩:=qB7 (f:=λi=>V.ref (bs i)) hi;have Bi:=(B4.same s5).bk i i3;obtain ⟨dx,hob⟩:=Bi.ob;refine qan (qop (qc6 ?_));refine ⟨_,rfl,bs i,dx,_,rfl,hob,no _ (by decide +kernel) (by decide +kernel) (by decide +kernel) (by decide +kernel) (by decide +kernel),bs i,_,_,_,XX i,rfl,Bi,by have:=(xk i i3).1;omega,λl H6 n6=>⟨s5.trans n6.same,by rw[Aq,lw];rfl,λj v hj=>?_⟩⟩
   by_cases hjl:j<ws.length
   ·rw[AS hjl] at hj
    obtain ⟨l',e1,e2⟩:=nw j v hj;exact ⟨l',e1,n6.same _ _ e2⟩
   ·rw[BE (by omega)] at hj
    have ej:j-ws.length=0:=by
     by_cases z:j-ws.length=0
     ·exact z
     ·rw[BM (by simp;omega)] at hj;cases hj
    rw[ej] at hj;cases hj;have:j=i:=by omega
    subst this;exact ⟨l,rfl,n6.at_⟩
  rintro ws H5 pl H6 ⟨s5,lw,nw⟩ n6;have L6:=(L4.same s5).same n6.same;have B6:=(B4.same s5).same n6.same;have nw6:∀ j v,ws[j]?=some v->NmL H6 XX j v:=λj v h=>let ⟨l,e1,e2⟩:=nw j v h;⟨l,e1,n6.same _ _ e2⟩
  have hpl:=n6.at_;clear nw n6 s5 L4 B4;refine qan ?_;refine qpu (σ':=[some (.ref lb),some (tS x),some (.ref ls),some (.ref pl),none,none,none]) rfl ?_;refine ⟨_,rfl,_,rfl,lb,ls,_,_,rfl,SqL.of L6.hb,SqL.of L6.hs,qkm (xs:=[.ref (bs 0),.ref (bs 1),.ref (bs 2)]) (λj σ H'=>∃ (YY:Nat->qa6) (v4 v5:Option V),L3 H' lb ls bs (fA s0 s1 s2)/\B3 C_Book C_Roll C_Rule H' bs BB eF gF YY/\qFc x XX j YY/\H' pl=some (.lst ws)/\(∀ j v,ws[j]?=some v->NmL H' XX j v)/\σ=[some (.ref lb),some (tS x),some (.ref ls),some (.ref pl),v4,v5,none]) ⟨XX,_,_,L6,B6,λi _=>⟨λh=>absurd h (Nat.not_lt_zero _),λ_=>rfl⟩,hpl,nw6,rfl⟩ (λj σ H' ⟨_,_,_,z,_⟩=>⟨SqL.of z.hb,SqL.of z.hs⟩) ?_ ?_⟩
  ·rintro j y y2 σ H7 p H8 hj hj2 n8 ⟨YY,v4,v5,L7,B7,io,hpl,nw,rfl⟩
   obtain ⟨i3,rfl⟩:=qB7 (f:=λi=>V.ref (bs i)) hj;obtain ⟨_,rfl⟩:=qB7 (f:=λi=>V.ref (fA s0 s1 s2 i)) hj2;refine ⟨p,_,rfl,SqT.of n8.at_,rfl,_,_,rfl,_,_,rfl,rfl,?_⟩;refine qpu (σ':=[some (.ref lb),some (tS x),some (.ref ls),some (.ref pl),some (.ref (bs j)),some (.ref (fA s0 s1 s2 j)),none]) rfl ?_;have B8:=B7.same n8.same;have L8:=L7.same n8.same;have ey:YY j=XX j:=(io j i3).2 (Ag _);have Bj:=B8.bk j i3;obtain ⟨dx,hob⟩:=Bj.ob;rw[ey] at Bj;refine ⟨_,rfl,bs j,dx,_,rfl,hob,no _ (by decide +kernel) (by decide +kernel) (by decide +kernel) (by decide +kernel) (by decide +kernel),_,rfl,_,rfl,fA s0 s1 s2 j,_,rfl,.inl (SqL.of (L8.hl j i3)),λlm H9 n9=>?_⟩;have Bj9:=Bj.same n9.same;have mk:=qB6 i3;refine ⟨bs j,BB j,eF j,gF j,XX j,tS x,.ref lm,(sgn j).map tS,rfl,Bj9,tx,.inr ⟨lm,rfl,n9.at_⟩,λu hu=>?_,AR mk.2.2 (by decide),by have:=(xk j i3).1;omega,λz=>?_,λ_ z=>absurd mk z,λy2 ms2 ey2 hy2 hn2 eu ok ro c H10 b10 c1 c2 B10 _=>?_⟩
   ·obtain ⟨m,hm',rfl⟩:=Af.mp hu
    exact .inl ⟨m,rfl,by have:=(que i3 m hm').2.1;omega⟩
   ·rcases z with z|⟨y,e,_,hy'⟩
    ·rw[qcg,AE hx] at z;cases z
    ·exact absurd (qbt e ▸ hy') (xk j i3).2.2
   have ey2:=qbt ey2;subst ey2;have ems:sgn j=ms2:=qm3 eu;subst ems;obtain ⟨k1,hk1,_⟩:=Bj9.ms;obtain ⟨k2,hk2,_⟩:=Bj9.rs;have kl:∀ a xs,H9 a=some (.lst xs)->H10 a=some (.lst xs):=λa xs e=>b10 _ _ e (qaq e hk1 (by intro z;cases z)) (qaq e hk2 (by intro z;cases z))
   have s79:=n8.same.trans n9.same;refine ⟨λi=>if i=j then XX j ++ [(x,(ro,c,[],sgn j))] else YY i,_,_,(L8.same n9.same).up kl,⟨λi hi=>?_⟩,λi hi=>?_,kl _ _ (s79 _ _ hpl),λj' v' h=>let ⟨l,e1,e2⟩:=nw j' v' h;⟨l,e1,kl _ _ (s79 _ _ e2)⟩,rfl⟩
   ·by_cases e:i=j
    ·subst e;rw[Al rfl];exact B10
    ·rw[Ah e]
     have d:=dd i j hi i3 e;exact ((B8.bk i hi).same n9.same).but7 b10 hk1 hk2 d.1.1 d.1.2 d.2.1 d.2.2
   ·by_cases e:i=j
    ·subst e;dsimp only;rw[Al rfl];exact ⟨λ_=>⟨ro,c,rfl⟩,λz=>absurd z (by omega)⟩
    ·dsimp only;rw[Ah e];exact ⟨λz=>(io i hi).1 (by omega),λz=>(io i hi).2 (by omega)⟩
  ·rintro i σ H7 ei ⟨YY,v4,v5,L7,B7,io,hpl,nw,rfl⟩
   have ei:i=3:=ei;subst ei;have lw3:ws.length=3:=lw;refine ⟨_,rfl,_,rfl,_,rfl,lb,ls,pl,_,_,_,rfl,SqL.of L7.hb,SqL.of L7.hs,SqL.of hpl,qvl (xs:=[.ref (bs 0),.ref (bs 1),.ref (bs 2)]) (ys:=[.ref (fA s0 s1 s2 0),.ref (fA s0 s1 s2 1),.ref (fA s0 s1 s2 2)]) (us:=ws) (λj σ H'=>∃ (v4 v5 v6:Option V),Same H7 H'/\σ=[some (.ref lb),some (tS x),some (.ref ls),some (.ref pl),v4,v5,v6]) (Ag _) (by rw[lw3];exact Ag _) ⟨_,_,_,Same.refl _,rfl⟩ (λj σ H' ⟨_,_,_,z,_⟩=>⟨SqL.of (z _ _ L7.hb),SqL.of (z _ _ L7.hs),SqL.of (z _ _ hpl)⟩) ?_ ?_⟩
   ·rintro j y y2 y3 σ H8 p hj hj2 hj3 hp ⟨v4,v5,v6,s8,rfl⟩
    obtain ⟨i3,rfl⟩:=qB7 (f:=λi=>V.ref (bs i)) hj;obtain ⟨_,rfl⟩:=qB7 (f:=λi=>V.ref (fA s0 s1 s2 i)) hj2;obtain ⟨ln,rfl,hln⟩:=nw j _ hj3;have n9:=qbb (o:=.tup [.ref (bs j),.ref (fA s0 s1 s2 j),.ref ln]) hp;refine ⟨p,_,rfl,SqT.of n9.at_,rfl,_,_,rfl,_,_,rfl,_,_,rfl,rfl,?_⟩;refine qpu (σ':=[some (.ref lb),some (tS x),some (.ref ls),some (.ref pl),some (.ref (bs j)),some (.ref (fA s0 s1 s2 j)),some (.ref ln)]) rfl ?_;have s9:=s8.trans n9.same;obtain ⟨ro,c,ey⟩:=(io j i3).1 i3;have Bj:=B7.bk j i3;rw[ey] at Bj;have hmem:(x,((ro,c,[],sgn j):RC))∈XX j ++ [(x,(ro,c,[],sgn j))]:=AM _ (Aj.mpr rfl);have l21:=(xk j i3).1;have nin:=(xk j i3).2.2;obtain ⟨dx,hob⟩:=Bj.ob;refine ⟨_,rfl,bs j,dx,_,rfl,s9 _ _ hob,no _ (by decide +kernel) (by decide +kernel) (by decide +kernel) (by decide +kernel) (by decide +kernel),_,rfl,bs j,_,_,_,_,tS x,rfl,Bj.same s9,tx,λy' e' ey' hy' hm' lm H10 s10 f10 h10=>?_,λz=>absurd ⟨x,rfl,hx,Af.mpr ⟨_,hmem,rfl⟩⟩ z⟩;have ey':=qbt ey';subst ey';have ee:e'.2.2.2=sgn j:=by
     rcases AA.mp hm' with z|z
     ·exact absurd (Af.mpr ⟨_,z,rfl⟩) nin
     ·injection Aj.mp z with _ z2
      rw[z2]
    rw[ee,qv5 i3] at h10;have s010:=s9.trans s10;refine ⟨_,rfl,qEa (que i3) h10 (s010 _ _ (L7.hl j i3)) ⟨_,rfl,qds ?_⟩⟩;refine ⟨_,rfl,bs j,dx,_,rfl,s010 _ _ hob,no _ (by decide +kernel) (by decide +kernel) (by decide +kernel) (by decide +kernel) (by decide +kernel),bs j,_,_,_,_,rfl,Bj.same s010,by rw[Aq];simp;omega,λl11 H11 n11=>?_⟩;have s011:=s010.trans n11.same;have lns:(qbe ((XX j).map (·.1))).length=(XX j).length:=by rw[(qa3 _).length_eq,Ac]
    refine ⟨_,rfl,_,rfl,qc3 (by simp),λl12 H12 n12=>⟨ln,l12,_,_,rfl,rfl,n12.same _ _ (s011 _ _ hln),n12.at_,qc3 (by rw[Ac,lns];simp;omega),λl13 H13 n13=>?_⟩⟩;refine ⟨l13,qbe ((XX j).map (·.1)) ++ [x],rfl,SqL.of (by rw[AB];exact n13.at_),by rw[Aq,lns];simp;omega,λl14 H14 n14=>?_⟩;have es:qbe (qbe ((XX j).map (·.1)) ++ [x])=qbe ((XX j ++ [(x,((ro,c,[],sgn j):RC))]).map (·.1)):=by
     rw[AB];exact qfb ((qa3 _).append_right _)
    have h14:=n14.at_;rw[es] at h14;refine qEa (n:=12) (λm hm=>?_) (n14.same _ _ (n13.same _ _ (n12.same _ _ n11.at_))) h14 ⟨_,rfl,qds ⟨_,_,_,s8.trans (n9.same.trans (s10.trans (n11.same.trans (n12.same.trans (n13.same.trans n14.same))))),rfl⟩⟩;have hm:=(qa3 _).mem_iff.mp hm;obtain ⟨p0,h0,rfl⟩:=Af.mp hm
    rcases AA.mp h0 with z|z
    ·exact (xk j i3).2.1 p0 z
    ·rw[Aj.mp z];exact hx
   ·rintro σ H8 ⟨v4,v5,v6,s8,rfl⟩
    exact q H8
structure Hold (X:qa6) (NM:List (List Nat×List (List Nat))) (RS:List (List Nat×Rd3)):Prop where
 ok:XOk X
 nm:(X.map (·.1)).Perm (NM.map (·.1))
 en:∀ p∈X,∃ ms,(p.1,ms)∈NM/\p.2.2.2.2.Perm ms/\p.2.2.2.1=qf3 RS p.1
theorem qv6 (A B:List (List Nat×Rd3)) (x:List Nat):qf3 (A ++ B) x=qf3 A x ++ qf3 B x:=by
 unfold qf3;rw[Cy,AB]
section
variable {X X':qa6} {NM:List (List Nat×List (List Nat))} {RS R2:List (List Nat×Rd3)}
theorem Hold.rel (h:Hold X NM RS) (cell:Int->Option (Int×Int)):RelX X NM RS cell:=
 ⟨h.nm,λp hp=>let ⟨ms,m1,m2,m3⟩:=h.en p hp;⟨ms,m1,qfb m2,by rw[m3]⟩⟩
theorem Hold.good (h:Hold X NM RS) (nk:qCj NM) (r:RS.length<=40):qk9 X 50:=
 ⟨h.ok,λp hp=>let ⟨ms,m1,_,_⟩:=h.en p hp;nk.sm _ m1,λp hp=>by
  obtain ⟨ms,m1,m2,_⟩:=h.en p hp;have k:=nk.mm _ m1;have pm:=m2.map tS;exact ⟨λv hv=>k.1 v (pm.mem_iff.mp hv),pm.nodup_iff.mpr k.2.1,by rw[pm.length_eq];exact k.2.2⟩,
   by have:=h.nm.length_eq;rw[Ac,Ac] at this;have:=nk.ln;omega,λp hp=>by
  obtain ⟨_,_,_,m3⟩:=h.en p hp;rw[m3];exact AR (qdy _ _) (by omega)⟩
theorem Hold.mv (h:Hold X NM RS) (m:qDr X X') (ok:XOk X'):Hold X' NM RS:=
 ⟨ok,by rw[m.nm];exact (qa3 _).trans h.nm,λp hp=>by
  obtain ⟨e,he,e1,e2⟩:=m.en p hp;obtain ⟨ms,m1,m2,m3⟩:=h.en _ he;exact ⟨ms,m1,by rw[e2];exact (qa3 _).trans m2,by rw[e1];exact m3⟩⟩
theorem Hold.put (h:Hold X NM RS) (ok:XOk X') (em:X'.map (λp=>(p.1,p.2.1,p.2.2.1,p.2.2.2.2))=X.map (λp=>(p.1,p.2.1,p.2.2.1,p.2.2.2.2))) (er:∀ p∈X',∃ e:RC,(p.1,e)∈X/\p.2.2.2.1=e.2.2.1 ++ qf3 R2 p.1):Hold X' NM (RS ++ R2):=by
 have en:X'.map (·.1)=X.map (·.1):=by
  have:=congrArg (List.map Prod.fst) em;rw[AI,AI] at this;exact this
 refine ⟨ok,by rw[en];exact h.nm,λp hp=>?_⟩;obtain ⟨e,he,e1⟩:=er p hp;have hq:(p.1,p.2.1,p.2.2.1,p.2.2.2.2)∈X.map (λp=>(p.1,p.2.1,p.2.2.1,p.2.2.2.2)):=by rw[<- em];exact Af.mpr ⟨p,hp,rfl⟩
 obtain ⟨q,hq,eq⟩:=Af.mp hq;injection eq with q1 eq
 injection eq with q2 eq
 injection eq with q3 q4
 obtain ⟨ms,m1,m2,m3⟩:=h.en q hq;have ee:q.2=e:=by
  have:(p.1,q.2)∈X:=by rw[<- q1];exact hq
  exact h.ok.one this he
 refine ⟨ms,by rw[<- q1];exact m1,by rw[<- q4];exact m2,?_⟩;rw[e1,qv6,<- ee,m3,q1]
theorem Hold.names (ok:XOk X) (em:X.map (λp=>(p.1,p.2.2.2.2))=NM) (r0:∀ p∈X,p.2.2.2.1=[]):Hold X NM []:=
 ⟨ok,by rw[<- em,AI];exact Em _,λp hp=>⟨p.2.2.2.2,by rw[<- em];exact Af.mpr ⟨p,hp,rfl⟩,Em _,by rw[r0 p hp];rfl⟩⟩
theorem Hold.strange (h:Hold X NM RS) {x:List Nat} (n:x ∉ NM.map (·.1)):x ∉ X.map (·.1):=λz=>n (h.nm.mem_iff.mp z)
theorem Hold.memR (h:Hold X NM RS) (hR:∀ r∈R2,r.1∈NM.map (·.1)):∀ r∈R2,r.1∈X.map (·.1):=λr hr=>h.nm.mem_iff.mpr (hR r hr)
end
theorem quf (ps:List (Int×Int)) (g:Option Int) (d:Int):(ps.map λp=>cut d p.1 p.2).map V.int ++ [gv (g.map λz=>cut d z (lw ps))]=eV ps g d:=by
 unfold eV;rw[AI];rfl
def qxb (d:Int) (n:Nat):List (List Nat):=(List.range n).map λj=>nmF d (j:Nat)
theorem qzr (d:Int) {n:Nat} (h:n<=20):(qxb d n).Nodup:=by
 unfold qxb List.Nodup;rw[CI];refine (List.pairwise_lt_range (n:=n)).imp_of_mem fun {i j} hi hj hij=>qB1 (by omega) ?_ ?_
 ·have:=BV.mp hi;have:=BV.mp hj;omega
 ·have:=BV.mp hi;have:=BV.mp hj;omega
theorem qB8 (d:Int) {n:Nat} (h:n<=9):nmF d 9 ∉ qxb d n:=λz=>by
 obtain ⟨j,hj,e⟩:=Af.mp z;have:=BV.mp hj;exact qB1 (d:=d) (k:=(j:Nat)) (l:=9) (by omega) (by omega) (by omega) e
structure NmC (d:Int) (j:Nat) (NM:List (List Nat×List (List Nat))):Prop where
 nm:NM.map (·.1)=qxb d j
 sm:∀ n∈NM,qax 12 n.1
 mm:∀ n∈NM,qbq (n.2.map tS)
theorem NmC.zero (d:Int):NmC d 0 []:=⟨rfl,(by intro n h;cases h),(by intro n h;cases h)⟩
theorem NmC.next {d:Int} {j:Nat} {NM:List (List Nat×List (List Nat))} (h:NmC d j NM) {ms:List (List Nat)} (s:qax 12 (nmF d (j:Nat))) (m:qbq (ms.map tS)):NmC d (j+1) (NM ++ [(nmF d (j:Nat),ms)]):=by
 refine ⟨?_,λn hn=>?_,λn hn=>?_⟩
 ·rw[AB,h.nm];unfold qxb;rw[List.range_succ,AB];rfl
 ·rcases AA.mp hn with z|z
  ·exact h.sm n z
  ·rw[Aj.mp z];exact s
 ·rcases AA.mp hn with z|z
  ·exact h.mm n z
  ·rw[Aj.mp z];exact m
theorem NmC.ok {d:Int} {j:Nat} {NM:List (List Nat×List (List Nat))} (h:NmC d j NM) (l:j<=20):qCj NM:=
 ⟨by rw[h.nm];exact qzr d l,h.sm,h.mm,by have:=congrArg List.length h.nm;unfold qxb at this;rw[Ac,Ac,List.length_range] at this;omega⟩
theorem NmC.no9 {d:Int} {j:Nat} {NM:List (List Nat×List (List Nat))} (h:NmC d j NM) (l:j<=9):nmF d 9 ∉ NM.map (·.1):=by rw[h.nm];exact qB8 d l
theorem qzs:qbq (([]:List (List Nat)).map tS):=⟨(by intro v h;cases h),List.Pairwise.nil,AW _⟩
theorem qB9 {m:List Nat} (h:qax 8 m):qbq ([m].map tS):=⟨λv hv=>by
 rw[Aj.mp (show v∈[tS m] from hv)]
 show qco 8 (.str (S m))=true
 rw[qcg];exact AE h,by simp,by show 1<=8;decide⟩
theorem qug {X:Cx} {K:Frag} (hK:X.K=K):SlR X (qAr K):=by subst hK;exact qch
theorem qzt (x:List Nat) (i:Nat) (h:qax 8 x):∃ ms:List (List Nat),qhp [tS x] none (some ((0+(i:Int)) % 2))=ms.map tS/\qbq (ms.map tS):=by
 rw[CJ]
 rcases (show (i:Int) % 2=0\/(i:Int) % 2=1 by omega) with e|e<;>rw[e]
 ·exact ⟨[],rfl,qzs⟩
 ·exact ⟨[x],rfl,qB9 h⟩
theorem qCa (ns:List Int):∃ ms:List Int,qhp (ns.map V.int) (some 5) (some 17)=ms.map V.int/\ms.length<=12:=by
 unfold qhp;rw[show (some (5:Int))=some ((5:Nat):Int) from rfl,show (some (17:Int))=some ((17:Nat):Int) from rfl,HT.sIx_nat,HT.sIx_nat];simp only[<- EE,<- List.map_drop];exact ⟨_,rfl,by simp only[As,Co];omega⟩
theorem RdNs.take {H:Hp}:∀ {ys:List V} {rs:List (List Nat×Rd3)} (n:Nat),RdNs H ys rs->RdNs H (ys.take n) (rs.take n)
 | _,_,0,_=>by rw[List.take_zero,List.take_zero];exact .nil
 | _,_,_+1,.nil=>.nil
 | _,_,n+1,.cons b t=>.cons b (RdNs.take n t)
theorem RdNs.drop {H:Hp}:∀ {ys:List V} {rs:List (List Nat×Rd3)} (n:Nat),RdNs H ys rs->RdNs H (ys.drop n) (rs.drop n)
 | _,_,0,h=>h
 | _,_,_+1,.nil=>.nil
 | _,_,n+1,.cons _ t=>RdNs.drop n t
theorem RL63.lt {r:Rd3} (h:RL63 r):RLt r:=by
 obtain ⟨⟨a,b⟩,⟨c,d⟩,e,f⟩:=h;exact ⟨⟨by omega,by omega⟩,⟨by omega,by omega⟩,e,f⟩
include T in
theorem qjm:qba P w K mg base 1 "_law_greater" ["_law_one", "_law_other"] qfc:=by
 obtain ⟨f,fd,F,hm⟩:=T.f__law_greater;have nd:=sc__law_greater.nd;refine F.def_ hm (F.ok sc__law_greater (λvs H Q E h=>?_) (λcdv A outer s H vs Q E hr h=>?_)) (F.binds λ_ _ _ _ _ _ us hl=>by obtain ⟨_,_,rfl⟩:=L2.lq2 hl;rfl)
 ·obtain ⟨a,b,xs,ys,rfl,_⟩:=h;rfl
 ·obtain ⟨a,b,xs,ys,rfl,ha,hb,hx,hy,hxy,hz,q⟩:=h
  have hzl:(List.zipWith gE xs ys).length=xs.length:=by rw[BI];omega
  refine ⟨_,(jB3 (jS 2 nd (qa8 qdz)) (qbz AQ rfl (qlp rfl T.b_zip (jA2 (pv 0) (pv 1))) (jG2 (jN 3 nd) (jN 4 nd)) (qad (qa2 (PW.pt (qhb (jC qea (pv 3) qbp) (qe0 (jC qea (pv 4) qbp)))) (qad (qat (qkk BA By Bx qcf (pv 2) (jA1 (jI (qa8 (jA2 (pv 3) (pv 4))) (qbd qrl rfl T.b_int qwh (jA1 (jD qea (pv 3) qbp)))))))) (qad (qat (qkk BA By Bx qcf (pv 2) (jA1 (qal (qhm rfl) rfl T.b_max qot (jA2 (pv 3) (pv 4)))))))))) (qah (pv 2))),?_⟩
  walk_at "r";intro l H1 n1;walk_at "r"
  refine ⟨a,b,xs,ys,rfl,SqL.of (n1.same _ _ ha),SqL.of (n1.same _ _ hb),qkm (xs:=xs) (λi σ H2=>Same H H2/\∃ v3 v4,H2 l=some (.lst ((List.zipWith gE xs ys).take i))/\σ=[some (.ref a),some (.ref b),some (.ref l),v3,v4]) ⟨n1.same,none,none,n1.at_,rfl⟩ (λi σ H2 h2=>⟨SqL.of (h2.1 _ _ ha),SqL.of (h2.1 _ _ hb)⟩) ?_ ?_⟩
  ·rintro i x y σ H2 p H3 hxi hyi n3 ⟨s2,v3,v4,hl,rfl⟩
   have hzi:=zip_get hxi hyi;have hl3:=n3.same _ _ hl;have s3:=s2.trans n3.same;have hsm:((List.zipWith gE xs ys).take i).length<sizeLine:=qao (by rw[As];omega);have fin:∀ H6 H7,Same H3 H6->But l H6 H7->H7 l=some (.lst ((List.zipWith gE xs ys).take i ++ [gE x y]))->Same H H7/\∃ v3 v4,H7 l=some (.lst ((List.zipWith gE xs ys).take (i+1)))/\[some (V.ref a),some (V.ref b),some (V.ref l),some x,some y]=[some (V.ref a),some (V.ref b),some (V.ref l),v3,v4]:=λH6 H7 s6 b7 h7=>⟨b7.same (s3.trans s6) n1.fresh,_,_,by rw[qkv _ i _ hzi];exact h7,rfl⟩
   refine ⟨p,_,rfl,SqT.of n3.at_,rfl,_,_,rfl,_,_,rfl,rfl,?_⟩
   rcases hx x (An hxi) with rfl|⟨i1,rfl⟩
   ·walk_at "r"
    intro p6 H6 n6;have hl6:=n6.same _ _ hl3
    walk_at "r"
    refine qq0 (.inr ⟨true,rfl,p6,_,_,_,rfl,rfl,SqL.of n6.at_,rfl,?_⟩);exact qq0 ⟨l,_,_,rfl,rfl,hl6,hsm,λH7 b7 h7=>fin H6 H7 n6.same b7 h7⟩
   ·rcases hy y (An hyi) with rfl|⟨j1,rfl⟩
    ·walk_at "r"
     intro p6 H6 n6;have hl6:=n6.same _ _ hl3
     walk_at "r"
     refine qq0 (.inr ⟨false,rfl,p6,_,_,_,rfl,rfl,SqL.of n6.at_,rfl,?_⟩);exact qq0 ⟨l,_,_,rfl,rfl,hl6,hsm,λH7 b7 h7=>fin H6 H7 n6.same b7 h7⟩
    ·walk_at "r"
     exact λH7 b7 h7=>fin H3 H7 (Same.refl _) b7 h7
  ·rintro i σ H2 hi ⟨s2,v3,v4,hl,rfl⟩
   have e:(List.zipWith gE xs ys).take i=List.zipWith gE xs ys:=Bh (by rw[BI,hi];exact Ag _);rw[e] at hl;exact ⟨_,rfl,q l H2 ⟨s2,n1.fresh,hl⟩⟩
theorem qFd (m w:Int) (h0:1<=w) (h1:w<=10 ^ 20):∃ z,atI [V.int 1,V.int 3,V.int 10,V.int w] (m % 4)=some (.int z)/\1<=z/\z<=10 ^ 20:=by
 rcases (show m % 4=0\/m % 4=1\/m % 4=2\/m % 4=3 by omega) with e|e|e|e<;>rw[e]
 ·exact ⟨_,rfl,by decide,by decide⟩
 ·exact ⟨_,rfl,by decide,by decide⟩
 ·exact ⟨_,rfl,by decide,by decide⟩
 ·exact ⟨_,rfl,h0,h1⟩
inductive qp2 (vs:List V) (H:Hp) (Q:VK) (E_:XK):Prop
 | mk:∀ (ls:Addr) (xs:List V) (ps:List (Int×Int)) (g:Option Int) (d:Int),vs=[.ref ls,.int d]->H ls=some (.lst xs)->Pairs H xs ps->PrB ps g->(∀ t l ys qs g2 H',Same H H'->H l=none->H' t=some (.tup [.ref l,gv g2])->H' l=some (.lst ys)->Pairs H' ys qs->PrB qs g2->qs.map (·.2)=ps.map (·.2)->Q (.ref t) H')->qp2 vs H Q E_
include T in
theorem qgm:qba P w K mg base 2 "_law_other_ages" ["_law_steps", "_law_draw"] qp2:=by
 obtain ⟨f,fd,F,hm⟩:=T.f__law_other_ages;have nd:=sc__law_other_ages.nd;refine F.def_ hm (F.ok sc__law_other_ages (λvs H Q E h=>?_) (λcdv A outer s H vs Q E hr h=>?_)) (F.binds λ_ _ _ _ _ _ us hl=>by obtain ⟨_,_,rfl⟩:=L2.lq2 hl;rfl)
 ·obtain ⟨ls,xs,ps,g,d,rfl,_⟩:=h;rfl
 ·obtain ⟨ls,xs,ps,g,d,rfl,hls,hps,pb,q⟩:=h
  have lo:=pb.P.good.lo;have hi5:=pb.P.good.hi;have xl:=hps.length;refine ⟨_,(jB6 (jS 2 nd (jI (qa8 (jA4 qaa qaa qaa (qag qa4 qaa (qag qav (qag qc0 (pv 1) qaa) (qag qgn qaa qaa))))) (qag qav (jF (qai T) hr (jA2 (pv 1) qaa)) qaa))) (jS 3 nd (qag qd9 (qag qav (jF (qai T) hr (jA2 (pv 1) qaa)) qaa) (pv 2))) (jS 4 nd (qa8 qdz)) (qbz AQ rfl (qd8 rfl T.b_range (jA1 (qal qau rfl T.b_len qcj (jA1 (pv 0))))) (jN 5 nd) (jB2 (qat (qkk BA By Bx qcf (pv 4) (jA1 (qbj (jA2 (pv 3) (jT (jI (pv 0) (pv 5)) qaa)))))) (jS 3 nd (qag qa4 (pv 3) (qag qd9 (qag qav (jF (qai T) hr (jA2 (pv 1) (qag qa4 qaa (pv 5)))) qaa) (pv 2)))))) (qa2 (jC qey (qag qav (jF (qai T) hr (jA2 (pv 1) qaa)) qaa) qaa) (qad (qah (qbj (jA2 (pv 4) qbp)))) qak) (qah (qbj (jA2 (pv 4) (qag qa4 (pv 3) (qag qd9 (qag qav (jF (qai T) hr (jA2 (pv 1) qaa)) qaa) (pv 2))))))),?_⟩;have w20:0<=d / 7 % 10 ^ 20/\d / 7 % 10 ^ 20<10 ^ 20:=⟨Be _ (by decide),A8 _ (by decide)⟩
  walk_at "r";intro p0 H0 n0
  walk_at "r";intro m0 m00 m01
  obtain ⟨z,hz,z0,z1⟩:=qFd m0 (1+d / 7 % 10 ^ 20) (by omega) (by omega);refine ⟨_,_,rfl,rfl,by decide,p0,_,_,_,rfl,rfl,SqL.of n0.at_,hz,qan ?_⟩;refine qdx (σ':=[some (.ref ls),some (.int d),some (.int z),none,none,none]) rfl ?_;refine ⟨_,rfl,d,81,rfl,by decide,by decide,λm1 m10 m11=>?_⟩;have ma:=qq2 (x:=m1 % 5) (k:=4) (by omega) (by omega) z0 z1;refine ⟨_,_,rfl,rfl,by decide,_,rfl,_,_,rfl,rfl,.inl ⟨by omega,by omega⟩,qan ?_⟩
  generalize m1 % 5*z=age0 at ma
  refine qdx (σ':=[some (.ref ls),some (.int d),some (.int z),some (.int age0),none,none]) rfl ?_;refine ⟨AW _,λl H1 n1=>qan ?_⟩;refine qdx (σ':=[some (.ref ls),some (.int d),some (.int z),some (.int age0),some (.ref l),none]) rfl ?_;have fl:H l=none:=n0.same.free n1.fresh;have s01:=n0.same.trans n1.same;have nls:ls≠l:=qac hls fl;refine ⟨_,rfl,ls,xs,rfl,.inl (SqL.of (s01 _ _ hls)),_,rfl,by omega,by omega,qld (n:=xs.length) (λi σ H2=>Same H H2/\∃ (qs:List (Int×Int)) (ys:List V) (a w':Int) (v5:Option V),H2 l=some (.lst ys)/\Pairs H2 ys qs/\qs.length=i/\qs.map (·.2)=(ps.map (·.2)).take i/\Chn qs a w'/\(∀ p,ps[i]?=some p->w'=p.2)/\(0<=a/\a<=(4+4*i)*10 ^ 20)/\σ=[some (.ref ls),some (.int d),some (.int z),some (.int a),some (.ref l),v5]) ⟨s01,[],[],age0,((ps[0]?).getD (0,1)).2,_,n1.at_,.nil,rfl,rfl,Chn.nil _ _,λp e=>by rw[e];rfl,⟨ma.1,by have:=ma.2;simpa using this⟩,rfl⟩ ?_ ?_⟩
  ·rintro i σ H2 hi ⟨s2,qs,ys,a,w',v5,hl,hp,hq,hw,ch,wn,ab,rfl⟩
   rw[CJ];have ip:i<ps.length:=by omega
   obtain ⟨aP,pi,eP,mP,hpi,hP⟩:=hps.at (i:=i) ip;have w1:=pb.P.good.each i pi hpi;have w2:=pb.b pi mP;have ew:=wn pi hpi;subst ew;have yl:=hp.length;have hat:atI xs (i:Int)=some (.ref aP):=qf8 eP;refine qan (qdx (σ':=[some (.ref ls),some (.int d),some (.int z),some (.int a),some (.ref l),some (.int i)]) rfl ?_);refine ⟨_,rfl,.inl ⟨rfl,_,SqL.of hl⟩,_,rfl,_,rfl,_,rfl,ls,xs,_,_,rfl,rfl,SqL.of (s2 _ _ hls),hat,aP,_,_,_,rfl,rfl,SqT.of (s2 _ _ hP),rfl,qc3 (by simp),λt H3 n3=>?_⟩;refine ⟨l,_,_,rfl,rfl,n3.same _ _ hl,qao (by omega),λH4 b4 h4=>?_⟩;refine ⟨_,rfl,_,rfl,_,rfl,_,_,rfl,rfl,d,_,rfl,by omega,by omega,λm4 m40 m41=>?_⟩;have mb:=qq2 (x:=m4 % 5) (k:=4) (by omega) (by omega) z0 z1;refine ⟨_,_,rfl,rfl,by decide,_,rfl,_,_,rfl,rfl,.inl ⟨by omega,by omega⟩,_,_,rfl,rfl,qan ?_⟩
   generalize m4 % 5*z=ad at mb
   obtain ⟨k,hk⟩:∃ k,∀ p,ps[i+1]?=some p->pi.2*k=p.2:=by
    cases hn:ps[i+1]? with
    | none=>exact ⟨1,λp e=>by cases e⟩
    | some pj =>
     have:=(pb.P.good.next i pi pj hpi hn).2;exact ⟨pj.2 / pi.2,λp e=>by cases e;exact Int.mul_ediv_cancel' (Dl this)⟩
   refine ⟨b4.same (s2.trans n3.same) fl,qs ++ [(a,pi.2)],_,a+ad,pi.2*k,_,h4,?_,by simp[hq],?_,ch.snoc ab.1 (by omega) w1.2 w2.2 (by omega),hk,⟨by omega,by have:=mb.2;omega⟩,rfl⟩
   ·exact ((hp.same n3.same).but b4 (n3.same _ _ hl) qs9).snoc ⟨t,rfl,b4 _ _ n3.at_ (qaq n3.at_ (n3.same _ _ hl) (by intro z;cases z))⟩
   ·rw[AB,hw,Bw,Ay,hpi];rfl
  ·rintro σ H2 ⟨s2,qs,ys,a,w',v5,hl,hp,hq,hw,ch,wn,ab,rfl⟩
   have n5:1<=qs.length/\qs.length<=5:=by omega
   have ew:qs.map (·.2)=ps.map (·.2):=by rw[hw];exact Bh (by rw[Ac];omega)
   refine ⟨_,rfl,d,88,rfl,by decide,by decide,λm6 m60 m61=>?_⟩;refine ⟨_,_,rfl,rfl,by decide,rfl,_,rfl,?_⟩;refine qjg (λz=>?_) λz'=>?_
   ·refine ⟨_,rfl,qc3 (by simp),λt H3 n3=>?_⟩
    exact q t l ys qs none H3 (s2.trans n3.same) fl n3.at_ (n3.same _ _ hl) (hp.same n3.same) (ch.pr n5.1 n5.2 λz e=>by cases e) ew
   ·refine ⟨_,rfl,_,rfl,_,rfl,d,89,rfl,by decide,by decide,λm7 m70 m71=>?_⟩
    have mb:=qq2 (x:=m7 % 9) (k:=8) (by omega) (by omega) z0 z1;refine ⟨_,_,rfl,rfl,by decide,_,rfl,_,_,rfl,rfl,.inl ⟨by omega,by omega⟩,_,_,rfl,rfl,qc3 (by simp),λt H3 n3=>?_⟩;refine q t l ys qs (some (a+m7 % 9*z)) H3 (s2.trans n3.same) fl n3.at_ (n3.same _ _ hl) (hp.same n3.same) (ch.pr n5.1 n5.2 λy e=>?_) ew;cases e;have:=ab.2;exact ⟨by omega,by omega⟩
theorem lk1 (f:Str) (v:V):[(f,v)].lookup f=some v:=by rw[CM];simp
inductive qjd (C CR R:Addr) (vs:List V) (H:Hp) (Q:VK) (E_:XK):Prop
 | mk:∀ (b:Addr) (B:qbf) (es:List Int) (ge:Option Int) (X:qa6) (l:Addr) (xs:List V) (ps:List (Int×Int)),vs=[.ref b,.ref l]->BkC C CR R H b B es ge X->qk9 X 50->H l=some (.lst xs)->Pairs H xs ps->1<=ps.length->(ps.length<=5->Good ps/\ps.map (·.2)≠B.ps.map (·.2))->(∀ H',Same H H'->Q (.bl true) H')->qjd C CR R vs H Q E_
include T in
theorem qdj:qba P w K mg base 10 "_law_no_rule" ["_law_book", "_law_steps"] (qjd C_Book C_Roll C_Rule):=by
 obtain ⟨f,fd,F,hm⟩:=T.f__law_no_rule;have nd:=sc__law_no_rule.nd;refine F.def_ hm (F.ok sc__law_no_rule (λvs H Q E h=>?_) (λcdv A outer s H vs Q E hr h=>?_)) (F.binds λ_ _ _ _ _ _ us hl=>by obtain ⟨_,_,rfl⟩:=L2.lq2 hl;rfl)
 ·obtain ⟨b,B,es,ge,X,l,xs,ps,rfl,_⟩:=h;rfl
 ·obtain ⟨b,B,es,ge,X,l,xs,ps,rfl,A',XG,hl,hp,p1,gd,q⟩:=h
  refine ⟨_,(jB2 (qwn (j:=2) ⟨rfl,rfl,rfl⟩ nd rfl rfl rfl rfl T.mg_BookError T.kx_BookError.kt (λ_ _=>(qad (qat (jW (qev T) hr (jA2 (pv 0) (qsb (qay ⟨rfl,rfl,rfl⟩) (qk4 T) (hr.mono (by decide)) rfl .nil (jA2 (pv 1) qbp))))))) (λ_ _=>(qad (qah (qd6 (qal (qlq (K:=K) rfl) rfl T.b_isinstance qbv (jA2 (pv 2) (qe9 (v:=.ref C_NoRule) rfl T.mg_NoRule rfl))) (qfm (qv8 (qal (qlq (K:=K) rfl) rfl T.b_isinstance qbv (jA2 (pv 2) (qe9 (v:=.ref C_Backward) rfl T.mg_Backward rfl)))))))))) (qah qd2)),?_⟩;refine ⟨_,rfl,_,rfl,λru dx H1 s1 f1 d1=>?_⟩;refine ⟨ru,dx,l,xs,ps,none,rfl,d1,s1 _ _ hl,hp.same s1,p1,λp5=>⟨(gd p5).1,(λp _ z e=>by cases e),λrl H2 f2 R2 b2=>⟨rfl,?_⟩⟩,λp6 H2 s2=>⟨⟨C_NoRule,rfl,T.kx_NoRule.kt,T.hit_NoRule_BookError⟩,λex H4 n4=>?_⟩⟩
  ·have s2:Same H H2:=b2.same s1 f1
   refine ⟨b,B,es,ge,X,ru,rl,ps,none,rfl,A'.same s2,XG,R2,p5,λ_ H3 s3=>⟨⟨C_NoRule,rfl,T.kx_NoRule.kt,T.hit_NoRule_BookError⟩,λex H4 n4=>?_⟩,λe=>absurd e (gd p5).2⟩;refine ⟨_,rfl,ex,C_NoRule,none,.ref C_NoRule,true,rfl,n4.at_,T.kx_NoRule,(λ_ z=>by cases z),T.is_NoRule_NoRule,_,rfl,qc6 ?_⟩;refine ⟨_,rfl,ex,C_NoRule,none,.ref C_Backward,false,rfl,n4.at_,T.kx_NoRule,(λ_ z=>by cases z),T.is_NoRule_Backward,_,rfl,?_⟩;exact q H4 (s2.trans (s3.trans n4.same))
  ·refine ⟨_,rfl,ex,C_NoRule,none,.ref C_NoRule,true,rfl,n4.at_,T.kx_NoRule,(λ_ z=>by cases z),T.is_NoRule_NoRule,_,rfl,qc6 ?_⟩
   refine ⟨_,rfl,ex,C_NoRule,none,.ref C_Backward,false,rfl,n4.at_,T.kx_NoRule,(λ_ z=>by cases z),T.is_NoRule_Backward,_,rfl,?_⟩;exact q H4 (s1.trans (s2.trans n4.same))
inductive qnc (C R:Addr) (vs:List V) (H:Hp) (Q:VK) (E_:XK):Prop
 | mk:∀ (ro:Addr) (D:qar) (z:Int),vs=[.ref ro,.int z]->RollAt C R H ro D->D.ge=some z->(∀ H',Same H H'->Q (.bl true) H')->qnc C R vs H Q E_
include T in
theorem qob:qba P w K mg base 7 "_law_gone" ["_law_roll", "_law_edge"] (qnc C_Roll C_Rule):=by
 obtain ⟨f,fd,F,hm⟩:=T.f__law_gone;have nd:=sc__law_gone.nd;refine F.def_ hm (F.ok sc__law_gone (λvs H Q E h=>?_) (λcdv A outer s H vs Q E hr h=>?_)) (F.binds λ_ _ _ _ _ _ us hl=>by obtain ⟨_,_,rfl⟩:=L2.lq2 hl;rfl)
 ·obtain ⟨ro,D,z,rfl,_⟩:=h;rfl
 ·obtain ⟨ro,D,z,rfl,A0,ez,q⟩:=h
  obtain ⟨fG,fdG,FG,hE⟩:=T.f_Gone_init;refine ⟨_,(jB2 (qwn (j:=2) ⟨rfl,rfl,rfl⟩ nd rfl rfl rfl rfl T.mg_Gone T.kx_Gone.kt (λ_ _=>(qad (qat (qr9 (dvs:=[.non]) (qay ⟨rfl,rfl,rfl⟩) (qt6 T) (hr.mono (by decide)) rfl (.cons rfl .nil) (jA3 qbr (qa8 (jA1 (pv 0))) (qag qdk (pv 1) qaa)))))) (λ_ _=>(qad (qah (jD qey (qyh (K:=K) rfl (pv 2) rfl) (pv 1)))))) (qah qd2)),?_⟩;refine ⟨_,rfl,qc3 (by simp),λl H1 n1=>?_⟩;refine ⟨_,rfl,_,_,rfl,rfl,l,ro,D,z,z-1,rfl,n1.at_,A0.same n1.same,ez,by omega,λdx H2 H3 s2 n3=>⟨⟨C_Gone,rfl,T.kx_Gone.kt,T.hit_Gone_Gone⟩,λex H4 n4=>?_⟩⟩;refine ⟨_,rfl,ex,C_Gone,dx,_,_,rfl,n4.at_,n4.same _ _ n3.at_,T.kx_Gone,hE.hd,hE.na,lk1 _ _,?_⟩;refine ⟨_,rfl,rfl,?_⟩;rw[AE rfl];exact q H4 (n1.same.trans (s2.trans (n3.same.trans n4.same)))
theorem RLt.ok {r:Rd3} (h:RLt r):ROk r:=by
 obtain ⟨h1,h2,h3,h4⟩:=h;exact ⟨⟨by omega,by omega⟩,⟨by dsimp only;omega,by dsimp only;omega⟩,h3,by dsimp only;omega⟩
theorem RR.butl {C R:Addr} {H H':Hp} {ro:Addr} {c:qar} {s:Abs} {LY LZ:List (List Int)} {a:Addr} {xs:List V} (h:RR C R H ro c s LY LZ) (b:But a H H') (ha:H a=some (.lst xs)) (n1:c.le≠a) (n2:c.rl≠a):RR C R H' ro c s LY LZ:=by
 obtain ⟨Y,Z,A,B⟩:=h;obtain ⟨dx,e1⟩:=A.ob;obtain ⟨dx2,e2⟩:=A.rule.ob;obtain ⟨ys,e3,p⟩:=A.rule.ls;have ts:qs3 H H':=λx ys e=>b x _ e (qaq e ha (by intro z;cases z))
 exact ⟨Y,Z,⟨⟨dx,b _ _ e1 (qaq e1 ha (by intro z;cases z))⟩,⟨⟨dx2,b _ _ e2 (qaq e2 ha (by intro z;cases z))⟩,ys,b _ _ e3 n2,p.tupS ts⟩,b _ _ A.ed n1,b _ _ A.yo (qaq A.yo ha (by intro z;cases z)),b _ _ A.he (qaq A.he ha (by intro z;cases z)),A.ne⟩,B.tups ts⟩
theorem qzu {F:Frag} {nv i j l m:Nat} (hi:i<nv) (hj:j<nv) (hl:l<nv) (hm:m<nv):qnk nv (qxh F 4 (qd4 (qd7 i) (qd4 (qd7 j) (qd4 (qd7 l) (qd4 (qd7 m) qxg))))):=λx σ H K ⟨a,xs,e,hq,hl',v,r,e1,v2,r2,e2,v3,r3,e3,v4,r4,e4,e5,q⟩ =>
 ⟨a,xs,e,hq,hl',v,r,e1,v2,r2,e2,v3,r3,e3,v4,r4,e4,e5,q,by simp,λk hk=>by rw[Bg (by omega),Bg (by omega),Bg (by omega),Bg (by omega)]⟩
section
variable {C R:Addr} {H H1 H2 H3 H4:Hp} {r lm ta:Addr} {q:qar} {ps:List (Int×Int)} {g:Option Int} {d:Int} {es:List Int} {ge:Option Int} {n:Nat} {rs:List Rd3} {t:Rd3} {LY LZ:List (List Int)} {ys:List V}
structure RI72 (C R:Addr) (H H':Hp) (r lm:Addr) (q:qar) (ps:List (Int×Int)) (g:Option Int) (d:Int) (es:List Int) (ge:Option Int) (n:Nat):Prop where
 s:Same H H'
 ex:∃ rs LY LZ ys,R63 C R H' r q ps g d es ge rs LY LZ/\H' lm=some (.lst ys)/\Tups H' ys (rs.map l3)/\rs.length<=n
theorem RI72.same (h:RI72 C R H H1 r lm q ps g d es ge n) (s:Same H1 H2):RI72 C R H H2 r lm q ps g d es ge n:=
 ⟨h.s.trans s,let ⟨rs,LY,LZ,ys,a,b,c,e⟩:=h.ex;⟨rs,LY,LZ,ys,a.same s,s _ _ b,c.same s,e⟩⟩
theorem RI72.next (h:R63 C R H2 r q ps g d es ge (rs ++ [t]) LY LZ) (hn:rs.length<=n) (s:Same H H2) (hl:H2 lm=some (.lst ys)) (ty:Tups H2 ys (rs.map l3)) (n3:New H2 H3 ta (.tup [.int t.1,.int t.2.1,.int t.2.2])) (b4:But lm H3 H4) (h4:H4 lm=some (.lst (ys ++ [.ref ta]))) (fl:H lm=none) (n1:q.le≠lm) (n2:q.rl≠lm):RI72 C R H H4 r lm q ps g d es ge (n+1):=by
 have hl3:=n3.same _ _ hl;have R3:=h.same n3.same;have ts:qs3 H3 H4:=λz zs e=>b4 _ _ e (qaq e hl3 (by intro z;cases z))
 refine ⟨b4.same (s.trans n3.same) fl,_,_,_,_,{ R3 with R:=R3.R.butl b4 hl3 n1 n2 },h4,?_,by rw[Aq];simp;omega⟩;rw[AB];exact Tups.snoc (r:=l3 t) ⟨ta,rfl,ts _ _ n3.at_⟩ ((ty.same n3.same).tupS ts)
theorem qFe {EV:List V} (E:EdS EV es ge):∀ v∈EV,v=.non\/∃ i,v=.int i/\EB i:=λv hv=>by
 rw[E.eq] at hv
 rcases AA.mp hv with z|z
 ·obtain ⟨i,hi,e⟩:=Af.mp z
  exact .inr ⟨i,e.symm,E.bd i hi⟩
 ·have e:=Aj.mp z
  cases hg:ge with
  | none=>rw[hg] at e;exact .inl e
  | some i=>rw[hg] at e;exact .inr ⟨i,e,E.gb i hg⟩
end
inductive quh (C CR R:Addr) (vs:List V) (H:Hp) (Q:VK) (E_:XK):Prop
 | mk:∀ (b:Addr) (B:qbf) (es:List Int) (ge:Option Int) (X:qa6) (led lrd:Addr) (x:List Nat) (e:RC) (zs:List V) (RS:List (List Nat×Rd3)),vs=[.ref b,.ref B.ru,.int B.day,.ref led,tS x,.ref lrd]->BkC C CR R H b B es ge X->XOk X->qax 12 x->(x,e)∈X->e.2.2.1=qf3 RS x->RS.length<=20->H led=some (.lst (es.map V.int ++ [gv ge]))->H lrd=some (.lst zs)->RdNs H zs RS->(∀ H',Same H H'->Q (.bl true) H')->quh C CR R vs H Q E_
include T in
theorem qdr:qba P w K mg base 9 "_law_roll_right" ["_law_book", "_law_made", "_law_day", "_law_edges_here", "_law_name_here", "_law_readings_here"] (quh C_Book C_Roll C_Rule):=by
 obtain ⟨f,fd,F,hm⟩:=T.f__law_roll_right;have nd:=sc__law_roll_right.nd;refine F.def_ hm (F.ok sc__law_roll_right (λvs H Q E h=>?_) (λcdv A outer s H vs Q E hr h=>?_)) (F.binds λ_ _ _ _ _ _ us hl=>by obtain ⟨_,_,_,_,_,_,rfl⟩:=L2.lq6 hl;rfl)
 ·obtain ⟨b,B,es,ge,X,led,lrd,x,e,zs,RS,rfl,_⟩:=h;rfl
 ·obtain ⟨b,B,es,ge,X,led,lrd,x,e,zs,RS,rfl,A',xk,hx,hm,ers,r20,hed,hrd,trd,q⟩:=h
  obtain ⟨dx,hob⟩:=A'.ob;have tx:∀ {H:Hp},TextV H (tS x):=.inl ⟨x,rfl,by have:=hx.2.1;omega⟩;have inx:qhg X (tS x):=⟨x,rfl,hx,Af.mpr ⟨_,hm,rfl⟩⟩;have no:(bof B.ru B.day B.le B.dm B.dr).lookup ("roll" : Str)=none:=qdn _ _ _ _ _ (by decide +kernel) (by decide +kernel) (by decide +kernel) (by decide +kernel) (by decide +kernel);obtain ⟨xs0,hxs0,pxs0⟩:=A'.rule.ls;have P:=A'.ok.P;have g5:=P.good.hi;have hEl:(es.map V.int ++ [gv ge]).length=B.ps.length+1:=by have:=A'.ok.F.len;rw[Ac] at this;simp;omega
  have hln:es.length=B.ps.length:=by have:=A'.ok.F.len;rw[Ac] at this;omega
  have rl:=qdy RS x;have zl:=trd.length;refine ⟨_,(jB7 (jS 6 nd (qb0 (qaz ⟨rfl,rfl,rfl⟩) (pv 0) T.cl_Book (qn3 T) (hr.mono (by decide)) .nil (jA1 (pv 4)))) (qa2 (PW.pt (qhb (jC (qhv hr.units) (qa0 (pv 6) T.cl_Roll (qep T) (hr.mono (by decide))) (pv 3)) (qhb (jC qp5 (qa0 (pv 6) T.cl_Roll (qj4 T) (hr.mono (by decide))) (pv 2)) (qe0 (jC (qhv hr.units) (qa0 (qa0 (pv 6) T.cl_Roll (qi1 T) (hr.mono (by decide))) T.cl_Rule (qbl T) (hr.mono (by decide))) (qa0 (pv 1) T.cl_Rule (qbl T) (hr.mono (by decide)))))))) (qad (qah qd2)) qak) (qa2 (PW.pt (qod (jC qf4 (jI (pv 3) (qdt qb5 qaa)) qbp) (qkh (qcz (qct (jF (qob T) hr (jA2 (pv 6) (jI (pv 3) (qdt qb5 qaa))))))))) (qad (qah qd2)) qak) (qdv (i:=7) (vars:=[ "_law_one", "_law_time_here", "_law_value_here", "_law_many_here" ]) (frees:=[ "_law_name_here" ]) (fv:=[4]) nd rfl (Or.inl rfl) rfl (jL1 rfl) ⟨⟨rfl,.inl rfl,rfl,.inl rfl⟩,trivial⟩ (qa1 (pv 5)) (qzu (by decide) (by decide) (by decide) (by decide)) (λ_ _ _ _=>(jG4 (jM 0 [ "_law_one", "_law_time_here", "_law_value_here", "_law_many_here", "_law_name_here" ]) (jM 1 [ "_law_one", "_law_time_here", "_law_value_here", "_law_many_here", "_law_name_here" ]) (jM 2 [ "_law_one", "_law_time_here", "_law_value_here", "_law_many_here", "_law_name_here" ]) (jM 3 [ "_law_one", "_law_time_here", "_law_value_here", "_law_many_here", "_law_name_here" ]))) (λ_ _ _ _=>(qr3 (jC qey (pv 0) (pv 4)))) (λ_ _ _ _=>(qbj (jA3 (pv 1) (pv 2) (pv 3))))) (qbz AQ rfl (qa1 (pv 3)) (jN 8 nd) (qad (qa2 (jC qf4 (pv 8) qbp) (qad (qbz AQ rfl (qa1 (qa8 (jA3 (qag qdk (pv 8) qaa) (pv 8) (qag qa4 (pv 8) qaa)))) (jN 9 nd) (jB2 (qat (qb0 (dvs:=[.int 1]) (qaz ⟨rfl,rfl,rfl⟩) (pv 6) T.cl_Roll (Exists.choose_spec (qms T)) (hr.mono (by decide)) (.cons ⟨_,rfl⟩ .nil) (jA2 (pv 9) qaa))) (qat (qkk BA By Bx qcf (pv 7) (jA1 (qbj (jA3 (pv 9) qaa qaa)))))))) qak))) (jS 10 nd (jF (qtw T) hr (jA4 (pv 1) (pv 2) (qbd qbc rfl T.b_list qce (jA1 (pv 3))) (pv 7)))) (qah (qd6 (jD (qon hr.units) (qa0 (pv 6) T.cl_Roll (qdc T) (hr.mono (by decide))) (qa0 (pv 10) T.cl_Roll (qdc T) (hr.mono (by decide)))) (qfm (jD (qon hr.units) (qa0 (pv 6) T.cl_Roll (qdd T) (hr.mono (by decide))) (qa0 (pv 10) T.cl_Roll (qdd T) (hr.mono (by decide)))))))),?_⟩;refine ⟨_,rfl,b,dx,_,rfl,hob,no,_,rfl,b,B,es,ge,X,tS x,rfl,A',tx,λy e' ey hy hm' r q' LY LZ H1 s1 R1 f1 w1=>qan ?_,λz=>absurd inx z⟩;have ey:=qbt ey;subst ey;have ee:=xk.one hm' hm;subst ee;refine qdx (σ':=[some (.ref b),some (.ref B.ru),some (.int B.day),some (.ref led),some (tS x),some (.ref lrd),some (.ref r),none,none,none,none]) rfl ?_;obtain ⟨Yr,Zr,Ar,Br⟩:=R1.R;obtain ⟨dxr,hr⟩:=R1.R.obj;refine ⟨_,rfl,r,dxr,_,rfl,hr,qif _ _ _ _ _,r,_,rfl,Ar,λp2 H2 n2=>?_⟩;have n2at:=n2.at_;rw[show ({ q' with Y:=Yr,Z:=Zr }:qar).es.map V.int ++ [gv ({ q' with Y:=Yr,Z:=Zr }:qar).ge]=es.map V.int ++ [gv ge] from R1.eq] at n2at;have s02:=s1.trans n2.same;refine ⟨_,rfl,neE n2at (s02 _ _ hed) A'.ok.E.ed ⟨_,rfl,qds ?_⟩⟩;refine ⟨_,rfl,r,dxr,_,rfl,n2.same _ _ hr,qtd _ _ _ _ _,r,_,rfl,Ar.same n2.same,?_⟩;refine ⟨_,rfl,rfl,_,rfl,?_⟩;rw[show ({ q' with Y:=Yr,Z:=Zr }:qar).day=B.day from R1.qd,AE rfl];refine qds ?_;refine ⟨_,rfl,r,dxr,_,rfl,n2.same _ _ hr,qpe _ _ _ _ _,r,_,rfl,Ar.same n2.same,?_⟩;rw[show ({ q' with Y:=Yr,Z:=Zr }:qar).ru=B.ru from w1.1];have rule2:=A'.rule.same s02;obtain ⟨dxu,hu2⟩:=rule2.ob;have hxs2:=s02 _ _ hxs0;refine ⟨B.ru,dxu,_,rfl,hu2,qlz _ _ (by decide +kernel) (by decide +kernel),B.ru,B.rl,B.ps,B.g,xs0,rfl,rule2,hxs2,λp3 H3 n3=>?_⟩;refine ⟨_,rfl,B.ru,dxu,_,rfl,n3.same _ _ hu2,qlz _ _ (by decide +kernel) (by decide +kernel),B.ru,B.rl,B.ps,B.g,xs0,rfl,rule2.same n3.same,n3.same _ _ hxs2,λp4 H4 n4=>?_⟩;have pxs4:=((pxs0.same s02).same n3.same).same n4.same;refine neP (n4.same _ _ n3.at_) pxs4 n4.at_ pxs4 ⟨_,rfl,qds ?_⟩;have s14:=n2.same.trans (n3.same.trans n4.same);have s04:=s1.trans s14;have hat:atI (es.map V.int ++ [gv ge]) (-1)=some (gv ge):=qh7 (by simp);dsimp only [qz6];refine qE7 (λσ H'=>Same H4 H'/\σ=[some (.ref b),some (.ref B.ru),some (.int B.day),some (.ref led),some (tS x),some (.ref lrd),some (.ref r),none,none,none,none]) (λN' hN'=>?_) ?_
  ·refine ⟨_,rfl,_,rfl,led,_,_,_,rfl,rfl,SqL.of (s04 _ _ hed),hat,?_⟩
   cases hg:ge with
   | none=>exact ⟨rfl,_,rfl,qds (hN' _ _ ⟨Same.refl _,rfl⟩)⟩
   | some z =>
    refine ⟨rfl,_,rfl,qc6 ?_⟩;rw[hg] at hat;refine ⟨_,rfl,_,rfl,_,rfl,led,_,_,_,rfl,rfl,SqL.of (by rw[<- hg];exact s04 _ _ hed),hat,r,_,z,rfl,Ar.same s14,(by show q'.ge=_;rw[R1.qh,hg]),λH5 s5=>⟨_,rfl,qds (hN' _ _ ⟨s5,rfl⟩)⟩⟩
  rintro σ H5 ⟨s45,rfl⟩;have s05:=s04.trans s45;have s15:=s14.trans s45;refine ⟨_,rfl,lrd,rfl,⟨_,SqL.of (s05 _ _ hrd)⟩,qcy (xs:=zs) (λi vs H2=>Same H5 H2/\Tups H2 vs ((qf3 (RS.take i) x).map l3)) (qc3 (by omega)) ⟨Same.refl _,.nil⟩ (λi vs H2 h2=>⟨SqL.of (h2.1 _ _ (s05 _ _ hrd)),by rw[h2.2.length,Ac];have:=qdy (RS.take i) x;rw[As] at this;omega⟩) ?_ ?_⟩
  ·rintro i y vs H6 hi ⟨s6,t6⟩
   obtain ⟨t,hti,a,rfl,ha⟩:=trd.get hi;refine ⟨a,_,rfl,SqT.of (s6 _ _ (s05 _ _ ha)),rfl,_,_,rfl,_,_,rfl,_,_,rfl,_,_,rfl,rfl,?_⟩;have e1:(qf3 (RS.take (i+1)) x).map l3=(qf3 (RS.take i) x).map l3 ++ if t.1=x then [l3 t.2] else []:=by
    rw[Bw,hti]
    show (qf3 (RS.take i ++ [t]) x).map l3=_
    rw[qjc]
    by_cases h:t.1=x
    ·rw[Al h,Al h.symm,AB];rfl
    ·rw[Ah h,Ah (λz=>h z.symm),AN]
   refine ⟨_,rfl,_,rfl,rfl,_,rfl,?_⟩;refine qjg (λz=>?_) λz=>?_
   ·have h:t.1=x:=qbt (AG z)
    refine ⟨_,rfl,_,rfl,_,rfl,qc3 (by simp),λta H7 n7=>⟨s6.trans n7.same,?_⟩⟩;rw[e1,Al h];exact Tups.snoc (r:=l3 t.2) ⟨ta,rfl,n7.at_⟩ (t6.same n7.same)
   ·have h:¬ t.1=x:=λh=>by rw[h] at z;simp at z
    refine ⟨s6,?_⟩;rw[e1,Ah h,AN];exact t6
  rintro vs H6 lm H7 ⟨s6,t6⟩ n7;rw[zl,AL] at t6;refine qan ?_;refine qdx (σ':=[some (.ref b),some (.ref B.ru),some (.int B.day),some (.ref led),some (tS x),some (.ref lrd),some (.ref r),some (.ref lm),none,none,none]) rfl ?_;have s57:=s6.trans n7.same;have s17:=s15.trans s57;have flm:H lm=none:=(s05.trans s6).free n7.fresh;have nle:q'.le≠lm:=(qac (s6 _ _ (s15 _ _ Ar.ed)) n7.fresh);have nrl:q'.rl≠lm:=by
   obtain ⟨_,e0,_⟩:=Ar.rule.ls;exact qac (s6 _ _ (s15 _ _ e0)) n7.fresh
  rw[ers] at R1;have I0:RI72 C_Roll C_Rule H H7 r lm q' B.ps B.g B.day es ge 20:=⟨s05.trans s57,_,_,_,_,R1.same s17,n7.at_,t6.same n7.same,by omega⟩;have ev:=qFe A'.ok.E;refine ⟨_,rfl,led,rfl,⟨_,SqL.of (I0.s _ _ hed)⟩,qbn (D:={ nx:=_,rt:=Q }) (xs:=es.map V.int ++ [gv ge]) (λi σ H'=>RI72 C_Roll C_Rule H H' r lm q' B.ps B.g B.day es ge (20+3*i)/\∃ v8 v9:Option V,σ=[some (.ref b),some (.ref B.ru),some (.int B.day),some (.ref led),some (tS x),some (.ref lrd),some (.ref r),some (.ref lm),v8,v9,none]) ⟨I0,_,_,rfl⟩ (λi σ H2 _ h2=>SqL.of (h2.1.s _ _ hed)) ?_ ?_⟩
  ·rintro i v σ H8 hvi ⟨I8,v8,v9,rfl⟩
   have il:=(Ai.mp hvi).1
   rcases ev v (An hvi) with rfl|⟨y,rfl,yb⟩
   ·refine qan ⟨_,rfl,rfl,_,rfl,qds ?_⟩
    obtain ⟨rs,LY,LZ,ys,a1,a2,a3,a4⟩:=I8.ex;exact ⟨⟨I8.s,rs,LY,LZ,ys,a1,a2,a3,by omega⟩,_,_,rfl⟩
   ·refine qan ⟨_,rfl,rfl,_,rfl,qc6 ?_⟩
    refine ⟨_,rfl,_,_,rfl,rfl,_,rfl,_,rfl,_,_,rfl,rfl,qc3 (by simp),λp H9 n9=>?_⟩;have I9:=I8.same n9.same;obtain ⟨_,_,_,_,_,hlm8,_,_⟩:=I8.ex;refine ⟨p,rfl,⟨_,SqL.of n9.at_⟩,qbn (D:={ nx:=_,rt:=Q }) (xs:=[.int (y-1),.int y,.int (y+1)]) (λj σ H'=>RI72 C_Roll C_Rule H H' r lm q' B.ps B.g B.day es ge (20+3*i+j)/\H' p=some (.lst [.int (y-1),.int y,.int (y+1)])/\∃ v9:Option V,σ=[some (.ref b),some (.ref B.ru),some (.int B.day),some (.ref led),some (tS x),some (.ref lrd),some (.ref r),some (.ref lm),some (.int y),v9,none]) ⟨I9,n9.at_,_,rfl⟩ (λj σ H2 _ h2=>SqL.of h2.2.1) ?_ ?_⟩
    ·rintro j t σ H10 htj ⟨I10,hp10,v9,rfl⟩
     obtain ⟨u,rfl,u1,u2⟩:∃ u,t=.int u/\y-1<=u/\u<=y+1:=by
      match j,htj with
      | 0,h=>cases h;exact ⟨_,rfl,by omega,by omega⟩
      | 1,h=>cases h;exact ⟨_,rfl,by omega,by omega⟩
      | 2,h=>cases h;exact ⟨_,rfl,by omega,by omega⟩
     have jl:=(Ai.mp htj).1;simp only[Az,BO] at jl;obtain ⟨rs,LY,LZ,ys,R10,hl10,ty10,ln⟩:=I10.ex;obtain ⟨dxr,hr10⟩:=R10.R.obj;obtain ⟨⟨Y,hY⟩,⟨Z,hZ⟩⟩:=R10.R.dicts;have yl:=ty10.length;rw[Ac] at yl;have ub:RLt (u,3,1):=by
      unfold EB at yb;exact ⟨⟨by show _<=u;omega,by show u<=_;omega⟩,⟨by show _<(3:Int);decide,by show (3:Int)<_;decide⟩,by show 1<=(1:Int);decide,by show (1:Int)<=_;decide⟩
     refine qan (qdx (σ':=[some (.ref b),some (.ref B.ru),some (.int B.day),some (.ref led),some (tS x),some (.ref lrd),some (.ref r),some (.ref lm),some (.int y),some (.int u),none]) rfl ?_);refine ⟨_,rfl,r,dxr,_,rfl,hr10,qkw _ _ _ _ _,_,rfl,?_⟩;simp only[qf6,AV,AX,AN];refine R10.put (t:=(u,3,1)) (by omega) ub λH11 R11 b11=>?_
     have kp:∀ {z:Addr} {o:HO},H10 z=some o->(∀ K,o≠.dT K)->H11 z=some o:=λe n=>b11.keep hY hZ e n
     have hl11:=kp hl10 (by intro K z;cases z);have s11:Same H H11:=λc o e=>b11 _ _ (I10.s _ _ e) (qac e f1.1) (qac e f1.2)
     refine ⟨_,rfl,.inl ⟨rfl,_,SqL.of hl11⟩,_,rfl,qc3 (by simp),λta H12 n12=>?_⟩;refine ⟨lm,_,_,rfl,rfl,n12.same _ _ hl11,qao (by omega),λH13 b13 h13=>?_⟩;refine ⟨RI72.next R11 ln s11 hl11 (ty10.tupS λz zs e=>kp e (by intro K z;cases z)) n12 b13 h13 flm nle nrl,?_,_,rfl⟩;exact b13 _ _ (n12.same _ _ (kp hp10 (by intro K z;cases z))) (qac hlm8 n9.fresh).symm
    ·rintro σ H10 ⟨I10,_,v9,rfl⟩
     obtain ⟨rs,LY,LZ,ys,a1,a2,a3,a4⟩:=I10.ex;exact ⟨⟨I10.s,rs,LY,LZ,ys,a1,a2,a3,by simp only[Az,BO] at a4;omega⟩,_,_,rfl⟩
  ·rintro σ H8 ⟨I8,v8,v9,rfl⟩
   obtain ⟨rs,LY,LZ,ys,R8,hl8,ty8,ln⟩:=I8.ex;rw[hEl] at ln;refine ⟨_,rfl,_,rfl,_,rfl,led,_,rfl,.inl (SqL.of (I8.s _ _ hed)),λle9 H9 n9=>?_⟩;have s09:=I8.s.trans n9.same;refine ⟨_,rfl,B.ru,B.rl,le9,lm,B.ps,B.g,B.day,_,es,ge,ys,rs,rfl,A'.rule.same s09,P,A'.ok.hd,n9.at_,A'.ok.E.ed,by omega,hEl,A'.ok.E,hln,n9.same _ _ hl8,ty8.same n9.same,λr hr=>(R8.hr r hr).ok,by omega,λdu c LY2 LZ2 H10 e1 e2 e3 Ec okc R3 ly2 lz2 s10 f3 f4 w3=>qan ?_⟩;refine qdx (σ':=[some (.ref b),some (.ref B.ru),some (.int B.day),some (.ref led),some (tS x),some (.ref lrd),some (.ref r),some (.ref lm),v8,v9,some (.ref du)]) rfl ?_;rw[A'.ok.dom] at Ec;obtain ⟨z1,z2⟩:=EdS.uniq Ec A'.ok.E;have ecl:cellD c=qca (B.ps.map (·.2)) es ge:=by unfold cellD;rw[e1,z1,z2]
   rw[ecl] at R3;have l1:=R8.ly;have l2:=R8.lz;have Rr:=R8.R.same (n9.same.trans s10);have s010:=s09.trans s10;clear Ec
   generalize qdi (qca (B.ps.map (·.2)) es ge) rs=st at Rr R3
   obtain ⟨dxr2,hr2⟩:=Rr.obj;obtain ⟨dxd,hd⟩:=R3.obj;refine ⟨_,rfl,r,dxr2,_,rfl,hr2,qfs _ _ _ _ _,?_⟩;simp only[qf6,AV,AX,AN];refine Rr.young (by omega) λc1 cs1 H16 s16 _ hc1 tc1 _=>?_
   refine ⟨_,rfl,du,dxd,_,rfl,s16 _ _ hd,qfs _ _ _ _ _,?_⟩;simp only[qf6,AV,AX,AN];refine (R3.same s16).young (by omega) λc2 cs2 H17 s17 _ hc2 tc2 _=>?_
   refine eqT (s17 _ _ hc1) (tc1.same s17) hc2 tc2 ⟨_,rfl,qc6 ?_⟩;have s1517:=s16.trans s17;refine ⟨_,rfl,r,dxr2,_,rfl,s1517 _ _ hr2,qft _ _ _ _ _,?_⟩;simp only[qf6,AV,AX,AN];refine (Rr.same s1517).heaps (by omega) λc3 cs3 H18 s18 _ hc3 tc3 _=>?_
   refine ⟨_,rfl,du,dxd,_,rfl,s18 _ _ (s1517 _ _ hd),qft _ _ _ _ _,?_⟩;simp only[qf6,AV,AX,AN];refine ((R3.same s1517).same s18).heaps (by omega) λc4 cs4 H19 s19 _ hc4 tc4 _=>?_
   refine eqT (s19 _ _ hc3) (tc3.same s19) hc4 tc4 ?_;exact q H19 (s010.trans (s1517.trans (s18.trans s19)))
theorem qCb (ys:List V) (v:V):qhp (ys ++ [v]) none (some (-1))=ys:=by
 unfold qhp;rw[HT.sIx_none];have:HT.sIx (ys ++ [v]).length (ys ++ [v]).length (some (-1))=ys.length:=by
  show (if (-1:Int)<0 then ((-1:Int)+((ys ++ [v]).length:Int)).toNat else min (-1:Int).toNat (ys ++ [v]).length)=_
  rw[Al (by omega),Aq,Bm];omega
 rw[this]
 simp
theorem qDw (ys:List V) (v:V):qhp (ys ++ [v]) (some (-1)) none=[v]:=by
 unfold qhp;rw[HT.sIx_none];have:HT.sIx (ys ++ [v]).length 0 (some (-1))=ys.length:=by
  show (if (-1:Int)<0 then ((-1:Int)+((ys ++ [v]).length:Int)).toNat else min (-1:Int).toNat (ys ++ [v]).length)=_
  rw[Al (by omega),Aq,Bm];omega
 rw[this]
 simp
theorem qje {H:Hp}:∀ {qs:List (Int×Int)} {p:Int×Int} {xs:List V},Pairs H xs (qs ++ [p])->∃ ys v,xs=ys ++ [v]/\Pairs H ys qs/\PairAt H v p
 | [],p,_,.cons r .nil=>⟨[],_,rfl,.nil,r⟩
 | q :: qs,p,_,.cons r t=>by
  obtain ⟨ys,v,e,h1,h2⟩:=qje t;exact ⟨_ :: ys,v,by rw[e];rfl,.cons r h1,h2⟩
theorem qv7 {qs:List (Int×Int)} {p:Int×Int} (G:Good (qs ++ [p])) (h:1<=qs.length):Good qs:=by
 have up:∀ {i:Nat} {x:Int×Int},qs[i]?=some x->(qs ++ [p])[i]?=some x:=fun {i x} e=>by
  rw[AS (Ai.mp e).1];exact e
 have l:=G.hi;rw[Aq] at l;exact ⟨h,by omega,λi x e=>G.each i x (up e),λi x y e1 e2=>G.next i x y (up e1) (up e2)⟩
theorem qui {qs:List (Int×Int)} {p m:Int×Int} (G:Good (qs ++ [p])) (m0:0<=m.1) (m1:1<=m.2) (l:qs.length<=4) (n:∀ x,qs[qs.length-1]?=some x->x.1<=p.1->p.2 % x.2=0->x.1<=m.1/\m.2 % x.2=0):Good (qs ++ [m]):=by
 have up:∀ {i:Nat} {x:Int×Int},qs[i]?=some x->(qs ++ [p])[i]?=some x:=fun {i x} e=>by
  rw[AS (Ai.mp e).1];exact e
 have two:∀ {i:Nat} {x:Int×Int},(qs ++ [m])[i]?=some x->qs[i]?=some x\/(i=qs.length/\x=m):=fun {i x} e=>by
  rcases Nat.lt_or_ge i qs.length with h|h
  ·rw[AS h] at e;exact .inl e
  ·rw[BE h] at e
   have h2:i-qs.length=0:=by have:=(Ai.mp e).1;simp at this;omega
   rw[h2] at e;exact .inr ⟨by omega,by simpa using e.symm⟩
 refine ⟨by simp,by simp;omega,λi x e=>?_,λi x y e1 e2=>?_⟩
 ·rcases two e with h|⟨_,rfl⟩
  ·exact G.each i x (up h)
  ·exact ⟨m0,m1⟩
 ·rcases two e2 with h2|⟨i2,rfl⟩
  ·rcases two e1 with h1|⟨i1,_⟩
   ·exact G.next i x y (up h1) (up h2)
   ·have:=(Ai.mp h2).1;omega
  ·rcases two e1 with h1|⟨i1,_⟩
   ·have hp:(qs ++ [p])[i+1]?=some p:=by rw[i2];simp
    obtain ⟨a,b⟩:=G.next i x p (up h1) hp;exact n x (by rw[<- i2];exact h1) a b
   ·omega
theorem qoc {qs:List (Int×Int)} {p:Int×Int} (G:Good (qs ++ [p])):Good (qs ++ [(p.1,2*p.2)]):=by
 obtain ⟨a,b⟩:=G.each qs.length p (by simp);have l:=G.hi;rw[Aq] at l;refine qui G a (by show 1<=2*p.2;omega) (by simp at l;omega) λx _ h1 h2=>⟨h1,?_⟩
 show 2*p.2 % x.2=0
 exact Int.emod_eq_zero_of_dvd (Ct (Dl h2) ⟨2,by rw[Cb]⟩)
theorem qq5 {qs:List (Int×Int)} {p:Int×Int} (G:Good (qs ++ [p])) (h5:((qs ++ [p]) ++ [p]).length<=5):Good ((qs ++ [p]) ++ [p]):=by
 obtain ⟨a,b⟩:=G.each qs.length p (by simp);have l:qs.length<=3:=by simp at h5;omega
 have G2:Good ((qs ++ [p]) ++ [p]):=by
  have each:∀ (i:Nat) x,((qs ++ [p]) ++ [p])[i]?=some x->0<=x.1/\1<=x.2:=λi x e=>by
   rcases AA.mp (An e) with h|h
   ·obtain ⟨j,hj,e2⟩:=AZ h
    exact G.each j x (by rw[<- e2];exact Ad hj)
   ·rw[Aj.mp h];exact ⟨a,b⟩
  refine ⟨by simp,h5,each,λi x y e1 e2=>?_⟩
  rcases Nat.lt_or_ge (i+1) (qs ++ [p]).length with h|h
  ·rw[AS h] at e2
   rw[AS (by omega)] at e1;exact G.next i x y e1 e2
  ·have i2:=(Ai.mp e2).1
   rw[Aq] at i2 h
   simp at i2 h
   have ei:i=qs.length:=by omega
   subst ei;have x1:x=p:=by simp at e1;exact e1.symm
   have y1:y=p:=by simp at e2;exact e2.symm
   rw[x1,y1];exact ⟨CS _,Int.emod_self⟩
 exact G2
inductive quj (C CR R:Addr) (vs:List V) (H:Hp) (Q:VK) (E_:XK):Prop
 | mk:∀ (b:Addr) (B:qbf) (es:List Int) (ge:Option Int) (X:qa6) (b2:Addr) (B2:qbf) (es2:List Int) (ge2:Option Int) (X2:qa6) (l:Addr) (xs:List V) (ps:List (Int×Int)) (g:Option Int),vs=[.ref b,.ref b2,.ref l]->BkC C CR R H b B es ge X->qk9 X 50->BkC C CR R H b2 B2 es2 ge2 X2->qk9 X2 50->B.ps.map (·.2)=ps.map (·.2)->B2.ps.map (·.2)=ps.map (·.2)->H l=some (.lst xs)->Pairs H xs ps->PrB ps g->(∀ H',Same H H'->Q (.bl true) H')->quj C CR R vs H Q E_
include T in
theorem qfk:qba P w K mg base 11 "_law_other_widths" ["_law_book", "_law_changed", "_law_steps"] (quj C_Book C_Roll C_Rule):=by
 obtain ⟨f,fd,F,hm⟩:=T.f__law_other_widths;have nd:=sc__law_other_widths.nd;refine F.def_ hm (F.ok sc__law_other_widths (λvs H Q E h=>?_) (λcdv A outer s H vs Q E hr h=>?_)) (F.binds λ_ _ _ _ _ _ us hl=>by obtain ⟨_,_,_,rfl⟩:=L2.lq3 hl;rfl)
 ·obtain ⟨b,B,es,ge,X,b2,B2,es2,ge2,X2,l,xs,ps,g,rfl,_⟩:=h;rfl
 ·obtain ⟨b,B,es,ge,X,b2,B2,es2,ge2,X2,l,xs,ps,g,rfl,A1,XG1,A2,XG2,w1,w2,hl,hp,pb,q⟩:=h
  have G:=pb.P.good;obtain ⟨qs,p,rfl⟩:∃ qs p,ps=qs ++ [p]:=by
   have:=G.lo;exact ⟨ps.dropLast,ps.getLast (by intro z;rw[z] at this;simp at this),(List.dropLast_concat_getLast _).symm⟩
  obtain ⟨ys,v,rfl,hys,a,rfl,ha⟩:=qje hp;have hi5:=G.hi;rw[Aq] at hi5
  simp at hi5
  have bp:=pb.b p (by simp);obtain ⟨a0,a1⟩:=G.each qs.length p (by simp);have hat:atI (ys ++ [.ref a]) (-1)=some (.ref a):=qh7 (by simp);have yl:=hys.length;refine ⟨_,(jB3 (jS 3 nd (qag qgb (qbo qch (pv 2) qb6 (qbx (qdt qb5 qaa))) (qa8 (jA1 (qbj (jA2 (jT (jI (pv 2) (qdt qb5 qaa)) qaa) (qag qb2 qaa (jT (jI (pv 2) (qdt qb5 qaa)) qaa)))))))) (qa2 (PW.pt (qhb (qcz (qct (jF (qdj T) hr (jA2 (pv 0) (pv 3))))) (qe0 (PW.pt (qod (qcz (qct (jF (qdj T) hr (jA2 (pv 1) (qag qgb (pv 2) (qbo qch (pv 2) (qbx (qdt qb5 qaa)) qb6)))))) (qkh (jC qhl (qal qau rfl T.b_len qcj (jA1 (pv 2))) qaa))))))) (qad (qah qd2)) qak) (qah (qCn (jD qey (qal qau rfl T.b_len qcj (jA1 (pv 2))) qaa) (qfm (jF (qdj T) hr (jA2 (pv 0) (qbo qch (pv 2) qb6 (qbx (qdt qb5 qaa))))))))),?_⟩;refine ⟨_,rfl,_,rfl,_,rfl,l,_,rfl,SqL.of hl,λl1 H1 n1=>?_⟩;rw[qCb] at n1;have hl1:=n1.same _ _ hl;have ha1:=n1.same _ _ ha;refine ⟨_,rfl,_,rfl,l,_,_,_,rfl,rfl,SqL.of hl1,hat,a,_,0,_,rfl,rfl,SqT.of ha1,rfl,_,rfl,_,rfl,l,_,_,_,rfl,rfl,SqL.of hl1,hat,a,_,1,_,rfl,rfl,SqT.of ha1,rfl,?_⟩;refine ⟨_,_,rfl,rfl,by walk_at "c",qc3 (by simp),λt H2 n2=>⟨qc3 (by simp),λl3 H3 n3=>?_⟩⟩;refine ⟨l1,l3,_,_,rfl,rfl,n3.same _ _ (n2.same _ _ n1.at_),n3.at_,qc3 (by simp;omega),λl4 H4 n4=>qan ?_⟩;refine qdx (σ':=[some (.ref b),some (.ref b2),some (.ref l),some (.ref l4)]) rfl ?_;have s24:=n3.same.trans n4.same;have s14:=n2.same.trans s24;have s04:=n1.same.trans s14;have hb4:Pairs H4 (ys ++ [.ref t]) (qs ++ [(p.1,2*p.2)]):=Pairs.snoc ⟨t,rfl,s24 _ _ n2.at_⟩ (hys.same s04);have ne1:(qs ++ [(p.1,2*p.2)]).map (·.2)≠(qs ++ [p]).map (·.2):=λe=>by
   rw[AB,AB] at e;have:=EJ e
   simp at this
   omega
  refine ⟨_,rfl,_,rfl,b,B,es,ge,X,l4,_,_,rfl,A1.same s04,XG1,n4.at_,hb4,by simp,λ_=>⟨qoc G,by rw[w1];exact ne1⟩,λH5 s5=>⟨_,rfl,qds ?_⟩⟩;have s05:=s04.trans s5;have hl5:=s05 _ _ hl;refine ⟨_,rfl,_,rfl,_,rfl,_,rfl,_,rfl,l,_,rfl,SqL.of hl5,λl6 H6 n6=>?_⟩;rw[qDw] at n6;refine ⟨l,l6,_,_,rfl,rfl,n6.same _ _ hl5,n6.at_,qc3 (by simp;omega),λl7 H7 n7=>?_⟩;have s57:=n6.same.trans n7.same;have s07:=s05.trans s57;have ne2:((qs ++ [p]) ++ [p]).map (·.2)≠(qs ++ [p]).map (·.2):=λe=>by
   have:=congrArg List.length e
   simp at this
  refine ⟨b2,B2,es2,ge2,X2,l7,_,_,rfl,A2.same s07,XG2,n7.at_,Pairs.snoc ⟨a,rfl,s07 _ _ ha⟩ (hp.same s07),by simp,λh5=>⟨qq5 G h5,by rw[w2];exact ne2⟩,λH8 s8=>⟨_,rfl,qds ?_⟩⟩;have s08:=s07.trans s8;have hl8:=s08 _ _ hl;refine ⟨_,rfl,l,_,rfl,.inl (SqL.of hl8),rfl,_,rfl,?_⟩;refine qjg (λz=>q H8 s08) λz=>?_
  have z2:1<=qs.length:=by
   rcases Nat.eq_zero_or_pos qs.length with h|h
   ·have e1:(ys ++ [V.ref a]).length=1:=by rw[Aq,yl,h];rfl
    rw[e1] at z
    simp at z
   ·exact h
  refine ⟨_,rfl,_,rfl,_,rfl,_,rfl,l,_,rfl,SqL.of hl8,λl9 H9 n9=>?_⟩;rw[qCb] at n9;have s09:=s08.trans n9.same;have ne3:qs.map (·.2)≠(qs ++ [p]).map (·.2):=λe=>by
   have:=congrArg List.length e
   simp at this
  refine ⟨b,B,es,ge,X,l9,_,_,rfl,A1.same s09,XG1,n9.at_,hys.same s09,z2,λ_=>⟨qv7 G z2,by rw[w1];exact ne3⟩,λH10 s10=>q H10 (s09.trans s10)⟩
def f3 {α:Type} (a b c:α):Nat->α
 | 0=>a
 | 1=>b
 | _=>c
theorem qxc {P:Nat->Prop} (h0:P 0) (h1:P 1) (h2:P 2):∀ i,i<3->P i:=λi hi=>by
 rcases lt3 hi with rfl|rfl|rfl
 ·exact h0
 ·exact h1
 ·exact h2
theorem qFf {C CR R:Addr} {H:Hp} {b0 b1 b2:Addr} {B0 B1 B2:qbf} {e0 e1 e2:List Int} {g0 g1 g2:Option Int} {X0 X1 X2:qa6} (h0:BkC C CR R H b0 B0 e0 g0 X0) (h1:BkC C CR R H b1 B1 e1 g1 X1) (h2:BkC C CR R H b2 B2 e2 g2 X2):∀ i,i<3->BkC C CR R H (fA b0 b1 b2 i) (f3 B0 B1 B2 i) (f3 e0 e1 e2 i) (f3 g0 g1 g2 i) (f3 X0 X1 X2 i):=
 qxc h0 h1 h2
theorem qFg {P:qa6->Prop} {X0 X1 X2:qa6} (h0:P X0) (h1:P X1) (h2:P X2):∀ i,i<3->P (f3 X0 X1 X2 i):=qxc h0 h1 h2
def DDs (a b:qbf):Prop:=(a.dm≠b.dm/\a.dr≠b.dm)/\a.dm≠b.dr/\a.dr≠b.dr
theorem DDs.symm {a b:qbf} (h:DDs a b):DDs b a:=⟨⟨h.1.1.symm,h.2.1.symm⟩,h.1.2.symm,h.2.2.symm⟩
theorem qFh {B0 B1 B2:qbf} (h01:DDs B0 B1) (h02:DDs B0 B2) (h12:DDs B1 B2):D3 (f3 B0 B1 B2):=λi j hi hj ne=>by
 rcases lt3 hi with rfl|rfl|rfl<;>rcases lt3 hj with rfl|rfl|rfl
 ·exact absurd rfl ne
 ·exact h01
 ·exact h02
 ·exact h01.symm
 ·exact absurd rfl ne
 ·exact h12
 ·exact h02.symm
 ·exact h12.symm
 ·exact absurd rfl ne
theorem BkC.newD {C CR R:Addr} {H:Hp} {b:Addr} {B:qbf} {es:List Int} {ge:Option Int} {X:qa6} (h:BkC C CR R H b B es ge X) {B2:qbf} (h3:H B2.dm=none) (h4:H B2.dr=none):DDs B B2:=by
 obtain ⟨_,e1,_⟩:=h.ms;obtain ⟨_,e2,_⟩:=h.rs;exact ⟨⟨qac e1 h3,qac e2 h3⟩,qac e1 h4,qac e2 h4⟩
include T in
theorem qDx {f:Addr} {fd:FuncData} (F:Fun K "law" "law" qzf f fd):qf7 P w K mg base CX0 12 f fd ["_law_script"] (qww K):=by
 have nd:=sc_law.nd;refine F.ok sc_law (λvs H Q E h=>?_) (λcdv A outer s H vs Q E hr h=>?_)
 ·obtain ⟨a,ns,rfl,_⟩:=h;rfl
 ·obtain ⟨a,ns,rfl,hS,hn,k⟩:=h
  refine ⟨_,(qaj (qv9 (jF (qn7 T) hr (jA1 (jF (qb1 T) hr (jA2 (pv 0) qaa)))) (jG2 (jN 1 nd) (jN 2 nd))) (qaj (jS 3 nd (qsb (qaz ⟨rfl,rfl,rfl⟩) (qk4 T) (hr.mono (by decide)) rfl .nil (jA2 (qbd qbc rfl T.b_list qce (jA1 (pv 1))) (pv 2)))) (qaj (jS 4 nd (qag qdk (qag qav (jF (qb1 T) hr (jA2 (pv 0) qaa)) (qag qb2 qaa (qag qgn qaa qaa))) (qag qgn qaa qaa))) (qaj (qoe (i:=5) nd rfl (Or.inr rfl) (jF (qb1 T) hr (jA2 (pv 0) qaa))) (qaj (qdv (i:=6) (vars:=[ "_law_k" ]) (frees:=[ "_law_one" ]) (fv:=[5]) nd rfl (Or.inl rfl) rfl (jL1 rfl) ⟨⟨rfl,.inl rfl,rfl,.inl rfl⟩,trivial⟩ (qd8 rfl T.b_range (jA1 (qag qa4 qaa (qag qav (jF (qb1 T) hr (jA2 (pv 0) qaa)) qaa)))) (qec (by decide)) (λ_ _ _ _=>(jM 0 [ "_law_k", "_law_one" ])) (λ_ _ _ _=>qbg) (λ_ _ _ _=>(qbj (jA2 (jF (qi9 T) hr (jA2 (pv 1) (pv 0))) (qbo (qug (K:=K) rfl) (qa8 (jA1 (jF (qn6 T) hr (jA2 (pv 1) (pv 0))))) qb6 (qbx (qag qav (pv 0) qaa))))))) (qaj (qv9 (jF (qgm T) hr (jA2 (pv 1) (jF (qb1 T) hr (jA2 (pv 0) qaa)))) (jG2 (jN 7 nd) (jN 8 nd))) (qaj (jS 9 nd (qsb (qaz ⟨rfl,rfl,rfl⟩) (qk4 T) (hr.mono (by decide)) rfl .nil (jA2 (qbd qbc rfl T.b_list qce (jA1 (pv 7))) (pv 8)))) (qaj (jS 10 nd (jF (qjb T) hr (jA5 (qbo qch (pv 0) (qbx qaa) (qbx qaa)) (qhd (vars:=[ "_law_name_here", "_law_marks" ]) (frees:=[]) (fv:=[]) rfl (jL0 rfl) trivial (qa1 (pv 6)) (qdh (by decide) (by decide)) (λ_ _ _ _=>(jG2 (jM 0 [ "_law_name_here", "_law_marks" ]) (jM 1 [ "_law_name_here", "_law_marks" ]))) (λ_ _ _ _=>qbg) (λ_ _ _ _=>(pv 0))) (pv 1) (pv 2) (pv 4)))) (qEx (jS 11 nd (qag qc0 (qag qd9 qaa (qal qau rfl T.b_len qcj (jA1 (pv 10)))) qaa)) (jS 12 nd (qr6 (qpq T) (hr.mono (by decide)) rfl .nil (jA2 (pv 3) (pv 4)))) (qbz AQ rfl (qa1 (pv 6)) (jG2 (jN 13 nd) (jN 14 nd)) (qad (qat (qb0 (qaz ⟨rfl,rfl,rfl⟩) (pv 12) T.cl_Book (qci T) (hr.mono (by decide)) .nil (jA2 (pv 13) (qbd qbc rfl T.b_list qce (jA1 (pv 14)))))))) (qat (jF (qe8 T) hr (jA2 (pv 12) (qbo qch (pv 10) qb6 (qbx (pv 11)))))) (jS 15 nd (jF (qha T) hr (jA3 (pv 1) (pv 2) (pv 4)))) (jS 16 nd (jF (qjm T) hr (jA2 (pv 15) (jF (qha T) hr (jA3 (pv 7) (pv 8) (pv 4)))))) (jS 17 nd (jX (qev T) hr (jA2 (pv 12) (pv 9)))) (qa2 (qcz (qct (jF (qdf T) hr (jA6 (pv 17) (pv 9) (pv 4) (pv 16) (pv 6) (qbo qch (pv 10) qb6 (qbx (pv 11))))))) (qad (qah qd2)) qak) (qat (jF (qe8 T) hr (jA2 (pv 17) (qbo qch (pv 10) (qbx (pv 11)) qb6)))) (qa2 (qcz (qct (jF (qdf T) hr (jA6 (pv 12) (pv 3) (pv 4) (pv 15) (pv 6) (qbo qch (pv 10) qb6 (qbx (pv 11))))))) (qad (qah qd2)) qak) (jS 18 nd (jX (qev T) hr (jA2 (pv 17) (pv 3)))) (qbz AQ rfl (qa1 (pv 6)) (jG2 (jN 13 nd) (jN 14 nd)) (jB2 (qa2 (qcz (qct (jF (qdr T) hr (jA6 (pv 17) (pv 9) (pv 4) (pv 16) (pv 13) (pv 10))))) (qad (qah qd2)) qak) (qa2 (qcz (qct (jF (qdr T) hr (jA6 (pv 18) (pv 3) (pv 4) (pv 16) (pv 13) (pv 10))))) (qad (qah qd2)) qak))) (qa2 (qcz (qct (jF (qdf T) hr (jA6 (pv 17) (pv 9) (pv 4) (pv 16) (pv 6) (pv 10))))) (qad (qah qd2)) qak) (qa2 (qcz (qct (jF (qdf T) hr (jA6 (pv 18) (pv 3) (pv 4) (pv 16) (pv 6) (pv 10))))) (qad (qah qd2)) qak) (qah (qd6 (jF (qfk T) hr (jA3 (pv 12) (pv 17) (pv 1))) (qfm (jF (qnb T) hr (jA2 (qa8 (jA3 (pv 12) (pv 17) (pv 18))) (jF (qi9 T) hr (jA2 (pv 5) qaa)))))))))))))))),?_⟩;refine ⟨_,rfl,a,ns,0,rfl,hS,by decide,_,rfl,λtt ls xs ps g H1 s1 fl htt hls hp pb=>?_⟩;refine ⟨tt,_,rfl,SqT.of htt,rfl,_,_,rfl,_,_,rfl,rfl,?_⟩;refine qdx (σ':=[some (.ref a),some (.ref ls),some (gv g),none,none,none,none,none,none,none,none,none,none,none,none,none,none,none,none]) rfl ?_
  replace hS:=qie s1 hS
  clear s1 fl htt;dsimp only;refine ⟨_,rfl,ls,_,rfl,.inl (SqL.of hls),λl2 H2 n2=>⟨_,rfl,λru dx H3 s3 f3 d3=>?_⟩⟩;refine ⟨ru,dx,l2,xs,ps,g,rfl,d3,s3 _ _ n2.at_,(hp.same n2.same).same s3,pb.P.good.lo,λ_=>⟨pb.P.good,pb.P.gone,λrl H4 f4 R4 b4=>⟨rfl,qan ?_⟩⟩,λz=>absurd z (by have:=pb.P.good.hi;omega)⟩;have s14:Same H1 H4:=b4.same (n2.same.trans s3) (n2.same.free f3)
  replace hS:=qie s14 hS
  replace hls:=s14 _ _ hls
  replace hp:=hp.same s14
  clear s14 b4 f4 d3 f3 s3 n2;refine qdx (σ':=[some (.ref a),some (.ref ls),some (gv g),some (.ref ru),none,none,none,none,none,none,none,none,none,none,none,none,none,none,none]) rfl ?_;have d1:0<=(ns[(1:Int).toNat]?.getD 0) % (2*10 ^ 30)/\(ns[(1:Int).toNat]?.getD 0) % (2*10 ^ 30)<2*10 ^ 30:=⟨Be _ (by decide),A8 _ (by decide)⟩;refine ⟨_,rfl,a,ns,1,rfl,hS,by decide,?_⟩
  generalize ns[(1:Int).toNat]?.getD 0=c1 at d1
  refine ⟨_,_,rfl,rfl,by walk_at "c",_,_,rfl,rfl,by walk_at "c",_,_,rfl,rfl,by walk_at "c",_,_,rfl,rfl,by walk_at "c",_,_,rfl,rfl,qan ?_⟩;obtain ⟨day,eday⟩:∃ day,day=c1 % (2*10 ^ 30)-10 ^ 30:=⟨_,rfl⟩;have dB:-(10 ^ 31)<=day/\day<=10 ^ 31:=by omega
  refine qdx (σ':=[some (.ref a),some (.ref ls),some (gv g),some (.ref ru),some (.int day),none,none,none,none,none,none,none,none,none,none,none,none,none,none]) (by rw[eday];rfl) ?_;clear eday d1;have hd:Bd day:=⟨by omega,by omega⟩;refine ⟨_,rfl,a,ns,2,rfl,hS,by decide,qan ?_⟩
  generalize ns[(2:Int).toNat]?.getD 0=dn
  refine qdx (σ':=[some (.ref a),some (.ref ls),some (gv g),some (.ref ru),some (.int day),some (.int dn),none,none,none,none,none,none,none,none,none,none,none,none,none]) rfl ?_;refine ⟨_,rfl,a,ns,3,rfl,hS,by decide,_,_,rfl,rfl,by decide,_,_,rfl,rfl,_,rfl,?_⟩;obtain ⟨N,hN⟩:∃ N:Nat,1+(ns[(3:Int).toNat]?.getD 0) % 3=N:=⟨(1+(ns[(3:Int).toNat]?.getD 0) % 3).toNat,by omega⟩;have N4:1<=N/\N<=3:=by omega
  rw[hN];refine ⟨by omega,by omega,qib (n:=N) (λi ys H5=>Same H4 H5/\∃ NM,NmsAt H5 ys NM/\NmC dn i NM) (qc3 (by omega)) ⟨Same.refl _,[],.nil,NmC.zero dn⟩ (λi ys H5 h5=>by obtain ⟨_,NM,t,c⟩:=h5;rw[t.length];have:=congrArg List.length c.nm;simp[qxb] at this;omega) ?_ ?_⟩
  ·rintro i ys H5 hi ⟨s5,NM,tn,nc⟩
   refine qan (qop (qc6 ?_));refine ⟨_,rfl,_,rfl,_,_,rfl,λH6 s6 sw=>?_⟩;refine ⟨_,rfl,_,rfl,_,_,rfl,λx H7 s7 sx=>⟨qc3 (by simp),λl8 H8 n8=>?_⟩⟩;obtain ⟨ms,ems,mok⟩:=qzt x i sx;refine ⟨_,rfl,_,_,rfl,rfl,by decide,_,rfl,l8,_,rfl,SqL.of n8.at_,λl9 H9 n9=>⟨qc3 (by simp),λt10 H10 n10=>⟨s5.trans (s6.trans (s7.trans (n8.same.trans (n9.same.trans n10.same)))),NM ++ [(nmF dn i,ms)],?_,?_⟩⟩⟩
   ·have h9:=n9.at_
    rw[ems] at h9;refine (NmsAt.same (s6.trans (s7.trans (n8.same.trans (n9.same.trans n10.same)))) tn).snoc ⟨t10,l9,rfl,?_,n10.same _ _ h9⟩;have h10:=n10.at_;rw[CJ] at h10;exact h10
   ·rw[CJ] at sw
    exact nc.next sw mok
  rintro ys H5 lnm H6 ⟨s5,NM,tn,nc⟩ n6;refine qan ?_;refine qdx (σ':=[some (.ref a),some (.ref ls),some (gv g),some (.ref ru),some (.int day),some (.int dn),some (.ref lnm),none,none,none,none,none,none,none,none,none,none,none,none]) rfl ?_;have s46:=s5.trans n6.same
  replace hS:=qie s46 hS
  replace hls:=s46 _ _ hls
  replace hp:=hp.same s46
  replace R4:=R4.same s46
  replace tn:=tn.same n6.same
  have hnm:=n6.at_;have nk:=nc.ok (show N<=20 by omega);clear s46 s5 n6;refine ⟨_,rfl,_,rfl,a,ns,4,rfl,hS,by decide,?_⟩
  generalize ns[(4:Int).toNat]?.getD 0=far
  refine ⟨ls,xs,ps,g,far,rfl,hls,hp,pb,λt2 la as qs g2 H7 s7 fla ht2 hla hq pb2 ew=>?_⟩;refine ⟨t2,_,rfl,SqT.of ht2,rfl,_,_,rfl,_,_,rfl,rfl,?_⟩;refine qdx (σ':=[some (.ref a),some (.ref ls),some (gv g),some (.ref ru),some (.int day),some (.int dn),some (.ref lnm),some (.ref la),some (gv g2),none,none,none,none,none,none,none,none,none,none]) rfl ?_;refine ⟨_,rfl,la,_,rfl,.inl (SqL.of hla),λl8 H8 n8=>⟨_,rfl,λru2 dx9 H9 s9 f9 d9=>?_⟩⟩;refine ⟨ru2,dx9,l8,as,qs,g2,rfl,d9,s9 _ _ n8.at_,(hq.same n8.same).same s9,pb2.P.good.lo,λ_=>⟨pb2.P.good,pb2.P.gone,λrl2 H10 f10 R10 b10=>⟨rfl,qan ?_⟩⟩,λz=>absurd z (by have:=pb2.P.good.hi;omega)⟩;have s710:Same H7 H10:=b10.same (n8.same.trans s9) (n8.same.free f9);have s610:=s7.trans s710
  replace hS:=qie s610 hS
  replace hls:=s610 _ _ hls
  replace hp:=hp.same s610
  replace R4:=R4.same s610
  replace tn:=tn.same s610
  replace hnm:=s610 _ _ hnm
  replace hla:=s710 _ _ hla
  replace hq:=hq.same s710
  clear s610 s710 b10 f10 d9 f9 s9 n8 s7 fla ht2;refine qdx (σ':=[some (.ref a),some (.ref ls),some (gv g),some (.ref ru),some (.int day),some (.int dn),some (.ref lnm),some (.ref la),some (gv g2),some (.ref ru2),none,none,none,none,none,none,none,none,none]) rfl ?_;obtain ⟨cs,ec,hcs⟩:=qCa ns;refine ⟨_,rfl,_,rfl,_,rfl,a,_,rfl,hS,λlc H8 n8=>?_⟩;rw[ec] at n8;refine ⟨_,rfl,lnm,rfl,⟨_,SqL.of (n8.same _ _ hnm)⟩,qcy (xs:=ys) (λi vs H2=>Same H8 H2/\vs=((NM.map (·.1)).take i).map tS) (qc3 (by have:=tn.length;have:=nk.ln;omega)) ⟨Same.refl _,rfl⟩ (λi vs H2 h2=>⟨SqL.of (h2.1 _ _ (n8.same _ _ hnm)),by rw[h2.2,Ac,As];omega⟩) ?_ ?_⟩
  ·rintro i y vs H9 hi ⟨s9,rfl⟩
   obtain ⟨⟨x,ms⟩,hxn,t,l,rfl,ha,hl⟩:=tn.get hi;refine ⟨t,_,rfl,SqT.of (s9 _ _ (n8.same _ _ ha)),rfl,_,_,rfl,_,_,rfl,rfl,qop (qc6 ?_)⟩;refine ⟨_,rfl,s9,?_⟩;rw[Bw,Ay,hxn]
   simp
  rintro vs H9 ln H10 ⟨s9,rfl⟩ n10;have tl:=tn.length;rw[tl,<- Ac (f:=λn:List Nat×List (List Nat)=>n.1),AL] at n10;have s810:=n8.same.trans (s9.trans n10.same);have nl3:(NM.map (·.1)).length=N:=by rw[nc.nm];simp[qxb]
  refine ⟨_,rfl,_,rfl,_,rfl,lc,ln,ls,cs,NM.map (·.1),xs,ps,g,day,rfl,n10.same _ _ (s9 _ _ n8.at_),by omega,n10.at_,by omega,by omega,s810 _ _ hls,hp.same s810,pb,dB,λlrd zs RS H11 s11 _ hrd trd lrs hR=>qan ?_⟩;refine qdx (σ':=[some (.ref a),some (.ref ls),some (gv g),some (.ref ru),some (.int day),some (.int dn),some (.ref lnm),some (.ref la),some (gv g2),some (.ref ru2),some (.ref lrd),none,none,none,none,none,none,none,none]) rfl ?_;have s711:=s810.trans s11
  replace hS:=qie s711 hS
  replace hls:=s711 _ _ hls
  replace hp:=hp.same s711
  replace R4:=R4.same s711
  replace tn:=tn.same s711
  replace hnm:=s711 _ _ hnm
  replace hla:=s711 _ _ hla
  replace hq:=hq.same s711
  replace R10:=R10.same s711
  have zl:=trd.length;have rl12:RS.length<=12:=by omega
  clear s711 s810 s11 s9 n8 n10;refine ⟨_,rfl,lrd,zs,rfl,.inl (SqL.of hrd),_,_,rfl,rfl,by walk_at "c",_,_,rfl,rfl,by walk_at "c",qan ?_⟩;obtain ⟨M,eM,M2⟩:∃ M:Nat,2*(zs.length:Int) / 3=M/\M<=zs.length:=⟨2*zs.length / 3,by omega,by omega⟩;refine qdx (σ':=[some (.ref a),some (.ref ls),some (gv g),some (.ref ru),some (.int day),some (.int dn),some (.ref lnm),some (.ref la),some (gv g2),some (.ref ru2),some (.ref lrd),some (.int M),none,none,none,none,none,none,none]) (by rw[<- eM];rfl) ?_;refine ⟨_,rfl,_,rfl,λb dxb H12 s12 f12 d12=>?_⟩;refine ⟨b,dxb,ru,rl,ps,g,day,rfl,d12,R4.same s12,pb.P,pb.wb,hd,λle dm dr H13 B13 g3 g4 g5 b13=>⟨rfl,qan ?_⟩⟩;have s13:Same H11 H13:=b13.same s12 f12;have fm:=s12.free g4;have fr:=s12.free g5;refine qdx (σ':=[some (.ref a),some (.ref ls),some (gv g),some (.ref ru),some (.int day),some (.int dn),some (.ref lnm),some (.ref la),some (gv g2),some (.ref ru2),some (.ref lrd),some (.int M),some (.ref b),none,none,none,none,none,none]) rfl ?_;have k20:=nk.ln;have no:∀ (B:qbf) {m:Str},¬ m = "kept_rolls" -> ¬ m = "kept_marks" -> ¬ m = "kept_edges" -> ¬ m = "kept_day" -> ¬ m = "kept_rule" -> (bof B.ru B.day B.le B.dm B.dr).lookup m=none:=λB _ a b c d e=>qdn _ _ _ _ _ a b c d e
  refine ⟨_,rfl,lnm,rfl,⟨_,SqL.of (s13 _ _ hnm)⟩,qbn (xs:=ys) (λj σ H'=>∃ (X:qa6) (v6 v7:Option V),Same H11 H'/\BkC C_Book C_Roll C_Rule H' b ⟨ru,rl,le,dm,dr,ps,g,day⟩ (ps.map λp=>cut day p.1 p.2) (g.map λz=>cut day z (lw ps)) X/\XOk X/\X.map (λp=>(p.1,p.2.2.2.2))=NM.take j/\(∀ p∈X,p.2.2.2.1=[])/\(∀ p∈X,H11 p.2.2.1.dy=none/\H11 p.2.2.1.dh=none)/\σ=[some (.ref a),some (.ref ls),some (gv g),some (.ref ru),some (.int day),some (.int dn),some (.ref lnm),some (.ref la),some (gv g2),some (.ref ru2),some (.ref lrd),some (.int M),some (.ref b),v6,v7,none,none,none,none]) ⟨[],_,_,s13,B13,.nil,rfl,(by intro p h;cases h),(by intro p h;cases h),rfl⟩ (λj σ H' _ ⟨_,_,_,z,_⟩=>SqL.of (z _ _ hnm)) ?_ ?_⟩
  ·rintro j y σ H2 hyj ⟨X,v6,v7,s2,B2,xk,nm,r0,frX,rfl⟩
   obtain ⟨⟨x,ms⟩,hxn,t,l,rfl,ha,hl⟩:=tn.get hyj;have hmem:=An hxn;have hsx:qax 12 x:=nk.sm _ hmem;have hmk:qbq (ms.map tS):=nk.mm _ hmem;have tx:∀ {H:Hp},TextV H (tS x):=.inl ⟨x,rfl,by have:=hsx.2.1;omega⟩;have nmf:X.map (·.1)=(NM.map (·.1)).take j:=by
    have:=congrArg (List.map Prod.fst) nm;rw[AI,EE] at this;exact this
   have hni:x ∉ X.map (·.1):=by
    rw[nmf];intro z;obtain ⟨i,hi,ei⟩:=AZ z;rw[As] at hi;rw[DR] at ei;have jl:j<(NM.map (·.1)).length:=by rw[Ac];exact (Ai.mp hxn).1
    have ej:(NM.map (·.1))[j]=x:=by rw[List.getElem_map,(Ai.mp hxn).2]
    have:=(Dj (xs:=NM.map (·.1)) (i:=i) (j:=j) (h₀:=by omega) (h₁:=jl) nk.nd).mp (by rw[ei,ej]);omega
   have lX:X.length<=20:=by
    have:=congrArg List.length nmf;rw[Ac,As,Ac] at this;omega
   refine ⟨t,_,rfl,SqT.of (s2 _ _ ha),rfl,_,_,rfl,_,_,rfl,rfl,?_⟩;refine qdx (σ':=[some (.ref a),some (.ref ls),some (gv g),some (.ref ru),some (.int day),some (.int dn),some (.ref lnm),some (.ref la),some (gv g2),some (.ref ru2),some (.ref lrd),some (.int M),some (.ref b),some (tS x),some (.ref l),none,none,none,none]) rfl ?_;obtain ⟨dx2,hob⟩:=B2.ob;have l8:=hmk.2.2;refine ⟨_,rfl,b,dx2,_,rfl,hob,no _ (by decide +kernel) (by decide +kernel) (by decide +kernel) (by decide +kernel) (by decide +kernel),_,rfl,_,rfl,l,_,rfl,.inl (SqL.of (s2 _ _ hl)),λlm H9 n9=>?_⟩;refine ⟨b,_,_,_,X,tS x,.ref lm,_,rfl,B2.same n9.same,tx,.inr ⟨lm,rfl,n9.at_⟩,λu hu=>?_,AR l8 (by decide),by omega,λz=>?_,λ_ z=>absurd hmk z,λy2 ms2 ey2 hy2 hn2 eu ok ro c H3 b3 c1 c2 B3 _=>?_⟩
   ·obtain ⟨m,hm',rfl⟩:=Af.mp hu
    have:=hmk.1 (tS m) hu;rw[qcg] at this;exact .inl ⟨m,rfl,by have:=(AG this).2.1;omega⟩
   ·rcases z with z|⟨y,e,_,hy'⟩
    ·rw[qcg,AE hsx] at z;cases z
    ·exact absurd (qbt e ▸ hy') hni
   have ey2:=qbt ey2;subst ey2;have ems:ms=ms2:=qm3 eu;subst ems;refine ⟨X ++ [(x,(ro,c,[],ms))],_,_,λz o e=>b3 _ _ (n9.same _ _ (s2 _ _ e)) (qac e fm) (qac e fr),B3,?_,?_,λp hp=>?_,λp hp=>?_,rfl⟩
   ·unfold XOk
    rw[CP];refine ⟨xk,by simp,λp hp p' hp'=>?_⟩;rw[Aj.mp hp'];obtain ⟨⟨Y,hY⟩,⟨Z,hZ⟩⟩:=(B2.same n9.same).dicts (x:=p.1) (e:=p.2) hp;exact ⟨λe=>hni (Af.mpr ⟨p,hp,e⟩),qac hY c1,qac hY c2,qac hZ c1,qac hZ c2⟩
   ·rw[AB,nm,Bw,hxn];rfl
   ·rcases AA.mp hp with z|z
    ·exact r0 p z
    ·rw[Aj.mp z]
   ·rcases AA.mp hp with z|z
    ·exact frX p z
    ·rw[Aj.mp z];exact ⟨(s2.trans n9.same).free c1,(s2.trans n9.same).free c2⟩
  rintro σ H14 ⟨X,v6,v7,s14,B14,xk,nm,r0,frX,rfl⟩;rw[tn.length,AL] at nm;have hold:=Hold.names xk nm r0;have hR':∀ r∈RS,r.1∈NM.map (·.1)/\RLt r.2:=λr hr=>⟨(hR r hr).1,(hR r hr).2.lt⟩
  refine ⟨_,rfl,_,rfl,_,rfl,_,rfl,lrd,zs,rfl,SqL.of (s14 _ _ hrd),λlA H15 n15=>?_⟩;rw[qy5 zs M M2] at n15;refine ⟨b,lA,_,_,_,X,zs.take M,RS.take M,rfl,B14.same n15.same,xk,λp hp=>(hold.good nk (by simp)).sm p hp,n15.at_,RdNs.take M (RdNs.tupS (λz zs e=>n15.same _ _ (s14 _ _ e)) trd),λr hr=>⟨hold.memR (λr hr=>(hR' r (Cj hr)).1) r hr,(hR' r (Cj hr)).2⟩,λp hp=>?_,λX1 H16 B16 xk1 em1 er1 kp1=>?_⟩
  ·rw[r0 p hp,As];simp;omega
  have hold1:=hold.put xk1 em1 er1;rw[AX] at hold1;have s16:Same H11 H16:=λc o e=>kp1 _ _ (n15.same _ _ (s14 _ _ e)) λp hp=>⟨qac e (frX p hp).1,qac e (frX p hp).2⟩
  have tk12:(RS.take M).length<=40:=by rw[As];omega
  have good1:=hold1.good nk tk12;refine ⟨_,rfl,_,rfl,_,rfl,ls,xs,ps,g,day,rfl,s16 _ _ hls,hp.same s16,pb.P,hd,λlf H17 n17=>qan ?_⟩;refine qdx (σ':=[some (.ref a),some (.ref ls),some (gv g),some (.ref ru),some (.int day),some (.int dn),some (.ref lnm),some (.ref la),some (gv g2),some (.ref ru2),some (.ref lrd),some (.int M),some (.ref b),v6,v7,some (.ref lf),none,none,none]) rfl ?_;have s17:=s16.trans n17.same;refine ⟨_,rfl,_,rfl,_,rfl,_,rfl,la,as,qs,g2,day,rfl,s17 _ _ hla,hq.same s17,pb2.P,hd,λlo H18 n18=>?_⟩;have edP:=(EdS.of pb.P hd).ed;have edQ:=(EdS.of pb2.P hd).ed;have lqp:qs.length=ps.length:=by have:=congrArg List.length ew;rw[Ac,Ac] at this;exact this
  have p5:=pb.P.good.hi;have leq:(eV ps g day).length=(eV qs g2 day).length:=by unfold eV;simp;omega
  have le6:(eV ps g day).length<=1000:=by unfold eV;simp;omega
  refine ⟨lf,lo,_,_,rfl,n18.same _ _ n17.at_,n18.at_,edP,edQ,leq,le6,λled H19 n19=>qan ?_⟩;refine qdx (σ':=[some (.ref a),some (.ref ls),some (gv g),some (.ref ru),some (.int day),some (.int dn),some (.ref lnm),some (.ref la),some (gv g2),some (.ref ru2),some (.ref lrd),some (.int M),some (.ref b),v6,v7,some (.ref lf),some (.ref led),none,none]) rfl ?_;have s1619:=n17.same.trans (n18.same.trans n19.same);have s19:=s16.trans s1619;have hf:=n19.same _ _ (n18.same _ _ n17.at_);rw[<- quf] at hf;have he:=n19.at_;have B19:=B16.same s1619;have wq:(∀ p∈qs,p.2<=10 ^ 35):=pb2.wb;have F19:Fall (qs.map (·.2)) (ps.map λp=>cut day p.1 p.2) (g.map λz=>cut day z (lw ps)):=by rw[ew];exact B19.ok.F
  obtain ⟨fs,fg,U⟩:=qD9 pb2.P hd B19.ok.E F19;refine ⟨_,rfl,_,rfl,b,_,_,_,X1,ru2,rl2,qs,g2,rfl,B19,good1,R10.same s19,(by omega),λz=>absurd ew z,λ_=>⟨pb2.P,wq,fs,fg,U,λb2 le2 dm2 dr2 Y1 H20 B20 yk1 mv1 fr1 s20 h1 h2 h3 h4=>qan ?_⟩⟩;refine qdx (σ':=[some (.ref a),some (.ref ls),some (gv g),some (.ref ru),some (.int day),some (.int dn),some (.ref lnm),some (.ref la),some (gv g2),some (.ref ru2),some (.ref lrd),some (.int M),some (.ref b),v6,v7,some (.ref lf),some (.ref led),some (.ref b2),none]) rfl ?_;have eE:List.zipWith gE (eV ps g day) (eV qs g2 day)=fs.map V.int ++ [gv fg]:=by
   rw[qo9 edP edQ,<- U.eq,quf]
  rw[eE] at he;have holdA:=hold1.mv mv1 yk1;have hRt:∀ r∈RS.take M,r.1∈NM.map (·.1)/\RLt r.2:=λr hr=>hR' r (Cj hr)
  have s1120:=s19.trans s20;refine ⟨_,rfl,_,rfl,_,rfl,_,rfl,_,rfl,_,rfl,_,rfl,_,rfl,lrd,zs,rfl,SqL.of (s1120 _ _ hrd),λlB H21 n21=>?_⟩;rw[qy5 zs M M2] at n21;have s1121:=s1120.trans n21.same;refine ⟨b2,⟨ru2,rl2,le2,dm2,dr2,qs,g2,day⟩,_,_,Y1,led,lnm,lB,ys,zs.take M,NM,RS.take M,rfl,B20.same n21.same,holdA.good nk tk12,n21.same _ _ (s20 _ _ he),s1121 _ _ hnm,tn.same s1121,nk,n21.at_,RdNs.take M (RdNs.tupS (λz zs e=>s1121 _ _ e) trd),hRt,tk12,holdA.rel _,λH22 s22=>⟨_,rfl,qds ?_⟩⟩;have s2022:=n21.same.trans s22;have s1122:=s1120.trans s2022;refine ⟨_,rfl,_,rfl,_,rfl,_,rfl,lrd,zs,rfl,SqL.of (s1122 _ _ hrd),λlC H23 n23=>?_⟩;rw[qy6 zs M M2] at n23;have s1123:=s1122.trans n23.same;have B23:=B20.same (s2022.trans n23.same);refine ⟨b2,lC,_,_,_,Y1,zs.drop M,RS.drop M,rfl,B23,holdA.ok,λp hp=>(holdA.good nk tk12).sm p hp,n23.at_,RdNs.drop M (RdNs.tupS (λz zs e=>s1123 _ _ e) trd),λr hr=>⟨holdA.memR (λr hr=>(hR' r (CQ hr)).1) r hr,(hR' r (CQ hr)).2⟩,λp hp=>?_,λY3 H24 B24 yk3 em3 er3 kp3=>?_⟩
  ·obtain ⟨_,_,_,e⟩:=holdA.en p hp
   have:=qdy (RS.take M) p.1;rw[As] at this;rw[e,Co];omega
  have hold3:=holdA.put yk3 em3 er3;rw[List.take_append_drop] at hold3;have s1924:Same H19 H24:=λc o e=>kp3 _ _ (n23.same _ _ (s2022 _ _ (s20 _ _ e))) λp hp=>⟨qac e (fr1 p hp).1,qac e (fr1 p hp).2⟩
  have s1124:=s19.trans s1924;have he24:=s1924 _ _ he;have hf24:=s1924 _ _ hf;have C24:=B19.same s1924;refine ⟨_,rfl,_,rfl,_,rfl,_,rfl,_,rfl,_,rfl,_,rfl,_,rfl,lrd,zs,rfl,SqL.of (s1124 _ _ hrd),λlD H25 n25=>?_⟩;rw[qy5 zs M M2] at n25;have s1125:=s1124.trans n25.same;refine ⟨b,⟨ru,rl,le,dm,dr,ps,g,day⟩,_,_,X1,lf,lnm,lD,ys,zs.take M,NM,RS.take M,rfl,C24.same n25.same,good1,n25.same _ _ hf24,s1125 _ _ hnm,tn.same s1125,nk,n25.at_,RdNs.take M (RdNs.tupS (λz zs e=>s1125 _ _ e) trd),hRt,tk12,hold1.rel _,λH26 s26=>⟨_,rfl,qds ?_⟩⟩;have s2426:=n25.same.trans s26;have rs40:RS.length<=40:=by omega
  have good3:=hold3.good nk rs40;have B26:=B24.same s2426;have F26:Fall (ps.map (·.2)) fs fg:=by rw[<- ew];exact B26.ok.F
  obtain ⟨fs5,fg5,U5⟩:=qD9 pb.P hd B26.ok.E F26;refine ⟨_,rfl,_,rfl,b2,_,_,_,Y3,ru,rl,ps,g,rfl,B26,good3,(R4.same s1124).same s2426,p5,λz=>absurd ew.symm z,λ_=>⟨pb.P,pb.wb,fs5,fg5,U5,λb4 le4 dm4 dr4 Y4 H27 B27 yk4 mv4 fr4 s27 _ _ k3 k4=>qan ?_⟩⟩;obtain ⟨rfl,rfl⟩:fs5=fs/\fg5=fg:=by
   have e5:=U5.Ef;rw[<- eE,qk5 edP edQ,eE] at e5;exact EdS.uniq e5 B26.ok.E
  refine qdx (σ':=[some (.ref a),some (.ref ls),some (gv g),some (.ref ru),some (.int day),some (.int dn),some (.ref lnm),some (.ref la),some (gv g2),some (.ref ru2),some (.ref lrd),some (.int M),some (.ref b),v6,v7,some (.ref lf),some (.ref led),some (.ref b2),some (.ref b4)]) rfl ?_;have hold4:=hold3.mv mv4 yk4;have s2427:=s2426.trans s27;have s1127:=s1124.trans s2427;have C27:=B24.same s2427;have hnm27:=s1127 _ _ hnm;have tn27:=tn.same s1127;have hrd27:=s1127 _ _ hrd;have trd27:=RdNs.tupS (λz zs e=>s1127 _ _ e) trd;have he27:=s2427 _ _ he24;have D27:=C24.same s2427;have mem:∀ {Y:qa6} {x:List Nat},Hold Y NM RS->x∈NM.map (·.1)->∃ e:RC,(x,e)∈Y/\e.2.2.1=qf3 RS x:=fun {Y x} h hx=>by
   obtain ⟨p,hp,e⟩:=Af.mp (h.nm.mem_iff.mpr hx);obtain ⟨_,_,_,e3⟩:=h.en p hp;subst e;exact ⟨p.2,hp,e3⟩
  refine ⟨_,rfl,lnm,rfl,⟨_,SqL.of hnm27⟩,qbn (D:={ nx:=_,rt:=Q }) (xs:=ys) (λj σ H'=>Same H27 H'/\∃ v6 v7:Option V,σ=[some (.ref a),some (.ref ls),some (gv g),some (.ref ru),some (.int day),some (.int dn),some (.ref lnm),some (.ref la),some (gv g2),some (.ref ru2),some (.ref lrd),some (.int M),some (.ref b),v6,v7,some (.ref lf),some (.ref led),some (.ref b2),some (.ref b4)]) ⟨Same.refl _,_,_,rfl⟩ (λi σ H2 _ h2=>SqL.of (h2.1 _ _ hnm27)) ?_ ?_⟩
  ·rintro j y σ H28 hyj ⟨s28,v6,v7,rfl⟩
   obtain ⟨⟨x,ms⟩,hxn,t,l,rfl,ha,hl⟩:=tn27.get hyj;have hmem:=An hxn;have hsx:qax 12 x:=nk.sm _ hmem;have hxm:x∈NM.map (·.1):=Af.mpr ⟨_,hmem,rfl⟩;refine ⟨t,_,rfl,SqT.of (s28 _ _ ha),rfl,_,_,rfl,_,_,rfl,rfl,?_⟩;refine qdx (σ':=[some (.ref a),some (.ref ls),some (gv g),some (.ref ru),some (.int day),some (.int dn),some (.ref lnm),some (.ref la),some (gv g2),some (.ref ru2),some (.ref lrd),some (.int M),some (.ref b),some (tS x),some (.ref l),some (.ref lf),some (.ref led),some (.ref b2),some (.ref b4)]) rfl ?_;obtain ⟨e1,m1,r1⟩:=mem hold3 hxm;obtain ⟨e2,m2,r2⟩:=mem hold4 hxm;refine ⟨_,rfl,_,rfl,_,rfl,_,rfl,_,rfl,_,rfl,b2,⟨ru2,rl2,le2,dm2,dr2,qs,g2,day⟩,_,_,Y3,led,lrd,x,e1,zs,RS,rfl,C27.same s28,hold3.ok,hsx,m1,r1,by omega,s28 _ _ he27,s28 _ _ hrd27,RdNs.tupS (λz zs e=>s28 _ _ e) trd27,λH29 s29=>⟨_,rfl,qds ?_⟩⟩;have s29':=s28.trans s29;refine ⟨_,rfl,_,rfl,_,rfl,_,rfl,_,rfl,_,rfl,b4,⟨ru,rl,le4,dm4,dr4,ps,g,day⟩,_,_,Y4,led,lrd,x,e2,zs,RS,rfl,B27.same s29',hold4.ok,hsx,m2,r2,by omega,s29' _ _ he27,s29' _ _ hrd27,RdNs.tupS (λz zs e=>s29' _ _ e) trd27,λH30 s30=>⟨_,rfl,qds ⟨s29'.trans s30,_,_,rfl⟩⟩⟩
  rintro σ H28 ⟨s28,v8,v9,rfl⟩;refine ⟨_,rfl,_,rfl,_,rfl,_,rfl,_,rfl,_,rfl,b2,⟨ru2,rl2,le2,dm2,dr2,qs,g2,day⟩,_,_,Y3,led,lnm,lrd,ys,zs,NM,RS,rfl,C27.same s28,good3,s28 _ _ he27,s28 _ _ hnm27,tn27.same s28,nk,s28 _ _ hrd27,RdNs.tupS (λz zs e=>s28 _ _ e) trd27,hR',rs40,hold3.rel _,λH29 s29=>⟨_,rfl,qds ?_⟩⟩;have s2729:=s28.trans s29;refine ⟨_,rfl,_,rfl,_,rfl,_,rfl,_,rfl,_,rfl,b4,⟨ru,rl,le4,dm4,dr4,ps,g,day⟩,_,_,Y4,led,lnm,lrd,ys,zs,NM,RS,rfl,B27.same s2729,hold4.good nk rs40,s2729 _ _ he27,s2729 _ _ hnm27,tn27.same s2729,nk,s2729 _ _ hrd27,RdNs.tupS (λz zs e=>s2729 _ _ e) trd27,hR',rs40,hold4.rel _,λH30 s30=>⟨_,rfl,qds ?_⟩⟩;have s2730:=s2729.trans s30;refine ⟨_,rfl,_,rfl,_,rfl,b,⟨ru,rl,le,dm,dr,ps,g,day⟩,_,_,X1,b2,⟨ru2,rl2,le2,dm2,dr2,qs,g2,day⟩,_,_,Y3,ls,xs,ps,g,rfl,D27.same s2730,good1,C27.same s2730,good3,rfl,ew,s2730 _ _ (s1127 _ _ hls),(hp.same s1127).same s2730,pb,λH31 s31=>⟨_,rfl,qc6 ?_⟩⟩;have s2731:=s2730.trans s31;refine ⟨_,rfl,_,rfl,_,rfl,qc3 (by simp),λlb H32 n32=>?_⟩;refine ⟨_,rfl,_,_,rfl,λH33 s33 sw=>?_⟩;have s3133:=s2731.trans (n32.same.trans s33);have a01:=B19.newD (B2:=⟨ru2,rl2,le2,dm2,dr2,qs,g2,day⟩) h3 h4;have a02:=(C24.same s2426).newD (B2:=⟨ru,rl,le4,dm4,dr4,ps,g,day⟩) k3 k4;have a12:=B26.newD (B2:=⟨ru,rl,le4,dm4,dr4,ps,g,day⟩) k3 k4;have n9:=nc.no9 (show N<=9 by omega);have ok3:∀ {X:qa6} {R0:List (List Nat×Rd3)},Hold X NM R0->R0.length<=40->X.length<=20/\(∀ p∈X,qax 12 p.1)/\nmF dn 9 ∉ X.map (·.1):=fun {X R0} h hl=>⟨(by have:=h.nm.length_eq;rw[Ac,Ac] at this;omega),(h.good nk hl).sm,h.strange n9⟩
  refine ⟨lb,nmF dn 9,fA b b2 b4,f3 ⟨ru,rl,le,dm,dr,ps,g,day⟩ ⟨ru2,rl2,le2,dm2,dr2,qs,g2,day⟩ ⟨ru,rl,le4,dm4,dr4,ps,g,day⟩,f3 _ _ _,f3 _ _ _,f3 X1 Y3 Y4,rfl,s33 _ _ n32.at_,⟨qFf (D27.same s3133) (C27.same s3133) (B27.same s3133)⟩,qFg (P:=λX=>X.length<=20/\(∀ p∈X,qax 12 p.1)/\nmF dn 9 ∉ X.map (·.1)) (ok3 hold1 tk12) (ok3 hold3 rs40) (ok3 hold4 rs40),sw,qFh a01 a02 a12,k⟩
end
theorem walk {l:PySem.W.OpenLaw} {q:Program} {loose:List Str} {XP:(Str->Option Value)->Heap->Prop} {YP:World->Heap->Prop} {d:DefRec} {K:Params->Frag} (hn:l.most=some 63) (hdf:d.params.defaults=[]) (hdn:d.name = "law")
  (hY:∀ (w:World) (h:Heap),YP w h->(K w.params).In h)
  (F:∀ (w:World) (mg:Str->Option Value) (h:Heap),(K w.params).In h->h.Ns mainGlobals mg->∃ C_Roll C_Rule C_HowMany C_Book C_BookError C_NoNumber C_NoRule C_Backward C_Gone C_NoAsk C_NoName C_NoMark,Txt (K w.params) mg C_Roll C_Rule C_HowMany C_Book C_BookError C_NoNumber C_NoRule C_Backward C_Gone C_NoAsk C_NoName C_NoMark) :
  PySem.W.WalkO q loose XP YP l.row.toRowW d [] (λf vs=>PySem.call f vs):=by
 refine L2.qx1 (n:=63) (k:=12) (x:= "_law_script") (CX:=λ_=>CX0) (sp:=λw=>qww (K w.params)) hn (by decide) hdf ⟨rfl,by decide,by decide⟩ hY (λw mg fa h kin ns hm=>?_) (λ_ _ a ns hl _ hS=>⟨a,ns,rfl,hS,hl,λ_=>rfl⟩) λ_ _ _ _ _ z=>z
 obtain ⟨C_Roll,C_Rule,C_HowMany,C_Book,C_BookError,C_NoNumber,C_NoRule,C_Backward,C_Gone,C_NoAsk,C_NoName,C_NoMark,T⟩:=F w mg h kin ns;obtain ⟨f,fd,Fu,hm'⟩:=T.f_law;rw[hdn,hm'] at hm;cases hm;refine ⟨fd,?_,λbase kb nb=>qDx T Fu⟩;obtain ⟨oc,od,kV,doc,pm,an,cdv,ct,osl,rfl,lk,hcd⟩:=Fu.ex;exact λs u=>.of_eq rfl
end TB
structure PySem.W.Fast:Prop where(tw14074209087172645947 tw1268734618807859639 tw11267132566646760548 tw11232662410203687090 tw5527235017513498205 tw8482070235361781703 tw3849030491970424861 tw401121953485170049 tw16098336936368998822 tw16267474699218278903 tw15037532252921758614 tw15940915316740382812 tw16267891919736737277 tw14481583741125177204 tw9214567082050518670 tw17922225093597329895 tw3060272983915253414 tw5040948554299858422 tw4503876709472711249 tw7410598785034181160 tw11070781332242306073 tw9849265870515035301 tw6647048279698177881 tw17553793133263028468 tw9213053140215848667 tw438909841723157504 tw6173010519775845529 tw6028494294550256272 tw5833200802989957560 tw10027577586124098538 tw12443623420309029662 tw6595640796418107308 tw16096473219139480536 tw18111030162580839455 tw722114414353202442 tw16128047004046846361 tw17826141885740180871 tw6466612495313325954 tw3579688598428366411 tw16889001645868766057 tw15290339442204387493 tw7663464925807835377 tw4369419650689124542 tw1042996580012037177 tw15853974124717972542 tw5188184074467725434 tw6750538800522057886 tw11144036990606239424 tw9903632522076869346 tw8264288609221142567 tw3912425984072475967 tw5673277253903782284 tw16659122484014450632 tw10886038284080523377 tw9266589032531064033 tw8480662308262580542 tw4211097605145616085 tw16893096713299800424 tw15082923630121013941 tw7878804826095509575 tw1394915995029467654 tw4335074768680349783 tw3617605842203173161 tw9934764788211927232 tw6362893330121218950 tw8382313162139451288 tw17495588768154349055 tw16964707346934658464 tw16139779963963919944 tw15016405184708675716 tw7023572094617435340 tw4294747563312861104 tw7618406294826907809 tw1808975830445509445 tw6697146910529137304 tw12555783295254547240 tw375524416823981057 tw15420304240548380257 tw5558018158146835705 tw18149296999243608983 tw15724649647376064052 tw11785033062632569761 tw10288027660864698707 tw5904820969739473893 tw13867449923624325125 tw15801132359817066553 tw6790569967134506736 tw2353471215323167433 tw15696393423676615 tw7792060927728689588 tw11037952337973991799 tw15531196043158092385 tw6630981225430535494 tw1045281507306675977 tw4143387645542983415 tw13649269253394349449 tw12497129285210776281 tw7322844636304295904 tw6522205851609790222 tw2835468126726576946 tw5616712709102866702 tw6114655622846782618 tw15522974814108582310 tw12495654419200164052 tw2715043856131280942 tw4982245506105034741 tw2209949504427670619 tw8915513150751509638 tw11505794777887067871 tw82925257216084373 tw17059455619912309226 tw1327254007826825469 tw6096996711839129187 tw2272639339652030080 tw18277876919723991481 tw5210228520001924860 tw3051179225382366094 tw16814048726212465107 tw14332229592772454823 tw14557761224669079566 tw6419445400811049132 tw7042766026441210871 tw15608269692893512097 tw1128698722992200812 tw15236898430084003298 tw14926936878579783757 tw4924797781324044987 tw2247671697642066601 tw2210169580113303633 tw15270741063567835293 tw1567007712920892569 tw15620812924362019426 tw7405711939912529553 tw8505099863681231554 tw14571517257929205970 tw5056069667869222684 tw11951506629874404850 tw17903947109868596270 tw16927973400553035370 tw17566825656223225620 tw8721182160638872454 tw4443529332024401937 tw15680283074997162882 tw5467549271657489932 tw4591299681485876210 tw2329621871952884082 tw8552296677412279255 tw10856109823565186036 tw4456003055603063204 tw9458001415267845849 tw4861053681257771655 tw4312176958742872033 tw14074631271098950039 tw11841012538718581952 tw4581204646646458693 tw15305269730193760838 tw13982668848974945518 tw13543783704030613322 tw6612823558234688262 tw17151657252923283474 tw7172724743210911646 tw14267025808973314522 tw5113821400316203130 tw12973027161914542115 tw2330315878710243670 tw11090087720941288763 tw6553776247358435190 tw13139591889879740572 tw9886053524016146759 tw15952930652064276551 tw4666108649285172588 tw16754667266365475682 tw12452502083894034277 tw11093613809316401704 tw5129901918470152739 tw10137490732312091555 tw16061863122985176241 tw7493475852420424049 tw17698663292827137886 tw1552877213031509474 tw12027471199967809878 tw13366927453853571226 tw978620619083815382 tw13061753757186521016 tw10230210719809902266 tw8857053160174804874 tw11190207961987119318 tw15595354174190342768 tw18034845976889408005 tw14726445260640705727 tw9339134268045549880 tw13933866656543396774 tw9181951512059387212 tw16082427159955600219 tw15412064534056367826 tw2335208652797103717 tw4801505989098229757 tw11711713941349200608 tw13728227605297011558 tw9582120308153292535 tw573924926279539948 tw1276865862951504585 tw15011696706858899857 tw16062347374892052336 tw15674662908602829735 tw14185660146123797066 tw10523629120880271052 tw46632775420106454 tw3845989671727135517 tw3085743311344034276 tw4389770020231075861 tw13396091266200916394 tw11990251914366878976 tw18192681272189036167 tw4083156186163271902 tw13972287015847594117 tw7228164352300435653 tw1721992364058253430 tw7437063701724945654 tw2334444801072718481 tw17061899118594050335 tw12508492156770892936 tw17441315994140484424 tw14151500058770995749 tw3160950641603462016 tw7111576827910041856 tw6980632981369441599 tw7835017538971477204 tw6720680026964431746 tw15723996664709376846 tw11877067036777455091 tw15833125365501368351 tw2401504143810097286 tw7122495604902974456 tw929709502206997516 tw6366595260461985474 tw9510549605970348553 tw11798962247563289174 tw18083321041934461105 tw6421868304456884466 tw13256087604599794152 tw12519339425542232496 tw5899731948905398148 tw11399191574481211026 tw15048230640586492505 tw12753139060012646819 tw11778534133097858753 tw11920191246715978717 tw213158183304962540 tw5330385649809773927 tw1874256992509829421 tw1378308571596361937 tw12415976341237961151 tw2618153499995503439 tw11837885016509705766 tw8225619731168506864 tw7598090127467461819 tw17234103733900986543 tw10916506187547627719 tw17410848948071374486 tw2941225829993056946 tw14821998708760526339 tw11225153867992011054 tw5544385581768297116 tw8703957040680545948 tw16831582120708597218 tw18089214446436411949 tw11708279729564504265 tw3729118165198693110 tw15429781690429946688 tw5385678721448046060 tw5289466892962539736 tw9478192620222540231 tw14725549434665971344 tw8088012342608500879 tw2902750397893490335 tw17077268694103885 tw907391812908890553 tw12732473992270763816 tw6488688712346777824 tw10125876568719048438 tw11115087543732942367 tw12276705369210481382 tw17548087834703949381 tw3329859281459808735 tw9440689574650636882 tw18393100374766396178 tw16462236622693900877 tw16449079221868924547 tw18413526497926866097 tw17457925457849894403 tw7644772487431334765 tw15227549452179808835 tw5057159592716649877 tw3478729826912484503 tw13900970741618007516 tw8467010153249434122 tw14023397276982356240 tw459498340879655017 tw14296117471504251711 tw5526704936153489532 tw12455406213217702067 tw15496650656524597476 tw12778889693860609298 tw6809503037841364349 tw9102263082324735934 tw5305149817929017531 tw4716258084264559490 tw5000105726481127816 tw16991994212708637154 tw16085802577727316714 tw12384990332761764130 tw10408827143787600018 tw12650867060431416647 tw122607596242888704 tw12086447631454627389 tw4342340896878453959 tw2827522184678680475 tw2394023450081162880 tw3250528263958954662 tw12075085647255059351 tw3786826086532199992 tw9725779103706059577 tw7866233361017678712 tw15699961570151053686 tw10520942656633731883 tw13219034993071161649 tw3985707571693494783 tw3777257477874706797 tw6009086522895739294 tw5916097059349942992 tw2671466853032428267 tw18428455290232912217 tw11508586036922204263 tw7653853586719296672 tw12838080951684446776 tw7361384286402586173 tw6700702300274472672 tw7913311058486931570 tw11124685514576658138 tw6037747965994777815 tw4911529012569876223 tw8362694397572456087 tw10745385698001596439 tw3202778414354985287 tw5528575056006418434 tw4254149169078480260 tw9423659585793864428 tw4206726764084842449 tw14421579092841059247 tw11988635093574567368 tw637780136549135345 tw1533522718026097743 tw393152202159823842 tw10958638252058059494 tw8554833453628296145 tw14876563789650716474 tw10294068676019438090 tw7848372190842042426 tw11266238057514052633 tw7266352697723204510 tw10584311886790077644 tw11285613216131158535 tw5766634933840887899 tw10662487685494491174 tw187809689094244000 tw6178166467151920692 tw16199956115873922803 tw12127411891284745382 tw9755356618627937007 tw7849551438004764135 tw7745253639736992859 tw14694162399749812490 tw8161593889043150898 tw7463099511460844353 tw5411747570451224291 tw5297931837072288966 tw11365153210891461099 tw2898798158780557635 tw15790543013950036481 tw15631577363303271445 tw17240970618786835395 tw9838790258154128770 tw13663129134546424978 tw9496127086263186829 tw12136834503955377199 tw7785357803477140768 tw13968035533200604429 tw15879015471893784489 tw15054986791142713659 tw7676856649463625573 tw16923225868117215087 tw13686348259081383665 tw5764946255623648278 tw3859171664046188801 tw1906168205963995924 tw5542694413954958407 tw436213375841291751 tw17116758531831565697 tw9520747910154862937 tw15632821806780009605 tw7414559352552510141 tw15494645163588244128 tw14981651049793617669 tw4267481959642521831 tw3903583688531960988 tw6390319372459187319 tw3814316884481057502 tw958573917403696700 tw17010667556445099792 tw12628183508083648615 tw1221374483387128877 tw9773455017315016498 tw14283544060076447898 tw12452179018175605137 tw16287475497134574683 tw15507652774433797033 tw10377837950460212264 tw8120116038451590232 tw2948832058721939680 tw14618557023084432696 tw16864350902535919230 tw15260261225265647703 tw1250329957809198261 tw4785387686580327693 tw15561454295949898443 tw1483723734288205466 tw10474423855116870123 tw808710807939223886 tw165922013289436618 tw13691992534172889505 tw12213008082781024721 tw18196297506875567954 tw16617823327066269295 tw6565659804194692019 tw2127138354968467551 tw9223898308887272956 tw3205401460275744765 tw16872614885208239319 tw17386879778532124131 tw3652247868528441396 tw7471662355530280944 tw4460115136416926354 tw2627214010741685670 tw18299205643485019568 tw13152982321359916923 tw10242763479364703638 tw14859656158360647029 tw174567305828176151 tw1017651730392745289 tw5136907592614983376 tw4579004061969378518 tw2765787313008591297 tw13160787036658467090 tw11857352740806418975 tw14946021414673121419 tw14639677625028659155 tw11569727285610331182 tw485677725698777868 tw18183623145852101854 tw3942244095241821125 tw4266360424221093042 tw9343989327342044223 tw11302197286979678822 tw7649123340204891070 tw17090181939853950322 tw1321642802085743550 tw11742049065839159496 tw8475589248026552018 tw8240377139438541167 tw15432857714627961894 tw14688252439659223019 tw6752537654578447793 tw17073537011943131512 tw11081278352978692483 tw3979804010939065791 tw212905817901300557 tw17113882185334395544 tw17680803499818922148 tw13132081036529070456 tw8448284460421805272 tw2561344530185842898 tw14085045190106367907 tw9986998771074523731 tw6557483163858384613 tw3490491971642274107 tw3477022328509055432 tw17130616007917290967 tw8531459458370442990 tw544021720983852826 tw2178411708405695098 tw1994078593516496276 tw17150721980616514261 tw12594268908238883668 tw8873676183910694313 tw6422136463731049547 tw13470940500683562311 tw11873502313904084222 tw10291640414031838330 tw4211287685526596539 tw3746977696673774947 tw3281470847563392125 tw11734114358385515662 tw10379824184683314844 tw18073453498804382630 tw15576236090012787187 tw4895563484162974178 tw6470100353013152271 tw16737666389439565044 tw15287261016223799718 tw13491805808442434324 tw9550379395842689149 tw7675907493775284352 tw15976710741537673496 tw9842699564995255544 tw17422624936204434468 tw3882367144158232191 tw15510223521552115212 tw5025907162694082862 tw13022211080403855996 tw12679478151713011872 tw12073720284270895458 tw10475555083287696364 tw5303801584398164519 tw5521540604652127082 tw4765577881252998405 tw760721336029407539 tw4511418071457924188 tw14616733066583925178 tw13080628438424753223 tw11473543023755273125 tw8668345545032666506 tw3127216464694382278 tw16265778318302148809 tw16019495702531084117 tw10203216567484498830 tw11513064399829501932 tw8649496702567979517 tw5539386862110308888 tw9157211932761106341 tw836507234677788655 tw8072810527255473349 tw7313028959050136927 tw13479248459699460993 tw7150125093947120383 tw3910216664055469273 tw16906885969786420686 tw9030700984862244452 tw16505157575354002763 tw14022580063786318892 tw13949902472392394930 tw8287355994240346064 tw14408300161820673643 tw12685265133868422111 tw10661295521789945453 tw13306018541526433567 tw8359522089258673885 tw45049421328463765 tw12804188587976702275 tw11509319944192348621 tw4783154341863124537 tw2794716647486855921 tw1584945059385942140 tw1368385523774537946 tw12884552580880363199 tw10319990190507110792 tw12422250981139090280 tw215084468101267079 tw10299003707461547739 tw9427739589743508227 tw14267479657942496241 tw4642142173258147058 tw10334615334650182738 tw9497265517344826005 tw13575949104938330189 tw8265187374226429096 tw17614820543601203658 tw14486371973019035861 tw10577788650356221239 tw8794960908534575105 tw9984227433610771845 tw3329592270250834939 tw13933012062692833467 tw11759439172927213941 tw5668430516985177229 tw16490228814048877180 tw3751708717943258813 tw3206034594058576962 tw14438444876176587160 tw15507145805652534558 tw11494224037757285748 tw8854848789580758554 tw7918724743742848502 tw12631361268744881475 tw9700898349647032941 tw16637260200877091341 tw11750427217325036383 tw12996166754702562328 tw9151193366019182801 tw7603954803527025939 tw7862157651398562820 tw5388400434679435961 tw5005974186730897511 tw2226093603310315197 tw2217032983226573796 tw15491883378163474694 tw15439525422174007549 tw14029490775232102773 tw126851409941805674 tw10387040708772729784 tw10542501457095015722 tw9551663414295189592 tw17062037776650046913 tw2004107375435888714 tw7478706885806505730 tw4169080135500371104 tw17255118286412315806 tw16910986962948248859 tw16170742516300117761 tw14368412763752746689 tw12283673170204993390 tw9448136160417680453 tw13498994930812666817 tw8722153714587665644 tw14195112615331476478 tw9038333297009135028 tw800920902724233060 tw2059507034354890973 tw1923968196298991775 tw17324505319433356955 tw9443427568206168666 tw8709997094245765047 tw5976723522664722723 tw5084521994827412419 tw4651234909073640809 tw4334471802193221961 tw2196066652457499697 tw17355397816910360391 tw10858818175210241976 tw9456628121073335558 tw5165613897838520930 tw3684784502182119654 tw3418836887438653524 tw9428574524246666589 tw6412308580808841759 tw13750545651389071364 tw11468098974843671004 tw10982595438594663748 tw14200776332466058930 tw9636339151865635880 tw9488826539700664975 tw18097583238517853841 tw17767327602291527329 tw1739947850248511260 tw8503252577849519234 tw6112334218781324804 tw5396632002042191815 tw2502901944678690555 tw2142942605091376001 tw17749366664860069098 tw16506568502442707649 tw16143650356387478474 tw14226680057998907157 tw12944064673056157891 tw12330259567567425249 tw11159339352577699527 tw10164075012128048550 tw5597543147677301311 tw4818894533802680966 tw8406372201427530132 tw88527009494811358 tw8537774483453355259 tw810188430953063786 tw6800973374348967775 tw6552940419823443941 tw5758650302847988285 tw4670452290661450150 tw364741038105861937 tw3573449184951067615 tw1953154692640277285 tw1847865498527219841 tw16536249496773443276 tw15998905000199434817 tw15606845744303528165 tw13847621816306376499 tw13017047138470127977 tw12819869590036026778 tw11896667571524300940 tw9820700647007397172 tw9657138924016218449 tw9046142472917544109 tw7663758623004326942 tw4926788091461867175 tw4592694982396788507 tw4455373164630815022 tw3952017857092009963 tw2920583444226782873 tw17870646582856877541 tw16059372796350921787 tw15670819309985085698 tw14455503134503751546 tw12942062177645749912 tw12331711253195731087 tw11599850005607507190 tw10357905502411550863 tw632876880129243698 tw17292121235389073617 tw13798070219887716529 tw1329822694415804035 tw4623535685489477292 tw4532502323072827520 tw2905557149370013689 tw17147047571582125377 tw16730564433563494252 tw16624696101115078062 tw15970004236970048639 tw15951245504082781858 tw15071957030257830415 tw13187679286747508880 tw12622287549553896833 tw11178524404622104576 tw9875299774518630151 tw9082898620527998124 tw8018773519497481506 tw7960466604120269263 tw6056191243293554201 tw5764184968653125623 tw5277256601867738558 tw43453216230238788 tw3247510652134316612 tw2770662729026664736 tw2581439044305355533 tw2531497217718520231 tw18171479085024097751 tw17065610130336122864 tw14670424268016510026 tw13088026233512232293 tw12923759258330236344 tw9586135952769638833 tw9400756004925919441 tw2916446705374303543 tw14424159814128329259 tw11798035226680272889 tw9702458880724855388 tw6316720782841453961 tw6114978793385322486 tw9984879710390030123 tw9941412732234631734 tw9876431255842470001 tw9835312078560399337 tw9597938284763719830 tw9560598565713750404 tw9530417286730869363 tw9500146800513061103 tw942686712093917718 tw9410711282572943001 tw9354995901168527683 tw934321520421690209 tw9303102277106368188 tw9286949081897799998 tw9249852036124619702 tw8849185746965231406 tw8834113054103576123 tw8825198714060236950 tw8822700463787099154 tw8808607498460534723 tw8780881859857099942 tw8740958919043135634 tw871897426529506979 tw8617500249708899640 tw8585077664016058342 tw850429614622993198 tw8494363339034044354 tw8484812405562008128 tw846910409845790301 tw8456223871143896134 tw8366955452381486664 tw8290036249402370363 tw8170750061778415670 tw8111236149957784818 tw7922958490503517494 tw7903983880961949175 tw789870597951411560 tw7849355057070156409 tw7839184896322019090 tw7803462547468471586 tw7696797411415739811 tw7646263559412400499 tw7622397705557052922 tw7600203922083639089 tw7584804211702979490 tw7385125110499365328 tw732566593634885085 tw7289913909387420539 tw7283292334985488777 tw7078015801062747240 tw7041344500266678067 tw6975272641090955790 tw6761977376641581214 tw6712008984984701746 tw6645913212877811748 tw6609568718854355049 tw6457271374136436807 tw6414623265843270687 tw6395405617290327174 tw6346869508432708224 tw618407325512519024 tw6150762510401985586 tw6061477544414806056 tw6036160794747113682 tw5924005628919772099 tw5858839600444722846 tw571129850722975223 tw5678402326585829767 tw5650177970181716607 tw5593680700104860044 tw5460020922541363211 tw5354635796282569302 tw5336256269839270793 tw5317594800472568756 tw5284209801659912244 tw5162002273264275961 tw5159752833076873391 tw5068673324396100179 tw5010149371849169581 tw4948279746651176267 tw4812749018989560423 tw4792046855513099742 tw4727345085341807875 tw4725074809170866023 tw4688127307971616371 tw4633749519051847417 tw4583210116528244664 tw4580958883256669870 tw4573193637056926074 tw4528337295599640417 tw4482300764000453280 tw4376665016889329907 tw4348311615333123717 tw4346772208409176752 tw4321134739762498444 tw4200094559410125981 tw4156644890732743383 tw4156159164989108977 tw3937916430007612080 tw3922050592772967107 tw3875977369986310348 tw3816442413877460055 tw3807693196904755581 tw3672146869116092243 tw3638538602662455415 tw3475091092090752603 tw3403500249663339125 tw3182445162278090582 tw3151272440680247354 tw3061101513738826582 tw3048982672428455993 tw3046423129552990321 tw3023709899886336367 tw2957252922074585066 tw282406205144852177 tw2821462893221069696 tw270939115713782634 tw2700897192646773373 tw2602407742591448435 tw2532509595690008195 tw2478598465862905309 tw2477588300581180445 tw2298592850511171027 tw216768472089668752 tw2142705954561327564 tw2116526030523585351 tw1975599062413252414 tw1950373574038247029 tw1908941010834402668 tw188520385446476124 tw1883682963439255317 tw1854074934743233353 tw18344305936983312928 tw18341411584947492813 tw18330970281082685590 tw18287185058327515778 tw18272888102588550460 tw18207662468153190364 tw18129577531512905446 tw18120299074916248812 tw18080595710208409141 tw18076762270112641128 tw17960865598604969501 tw17913872318066002204 tw17879491850469835826 tw17857536486265836156 tw1778300191191638438 tw17712217108078511322 tw17694207718732341337 tw17611069239645755160 tw17573137351821544536 tw17570716638185425356 tw1750324577376059631 tw17253258892674043956 tw17101123237495806579 tw17078082681612931429 tw17062494653398469523 tw17004845501605805382 tw16961613338372296040 tw16957653689743243465 tw16825613259319459127 tw16809667875660260609 tw16673633454806865141 tw16588723379187763434 tw16572451678653738137 tw16528963278791176722 tw16344438015681241614 tw16320909202561236260 tw1632042204076093966 tw16291604872837401767 tw16260899764944566800 tw16190499884261040545 tw16052332715045058407 tw16038227377789549776 tw15920650681354682313 tw15888040868477497839 tw15845280016738022180 tw15789187317390223958 tw15727794215517505422 tw15687148150084707495 tw15550200138284447225 tw15443786690358544032 tw15320930446601254348 tw15301469413213947620 tw1529259602363425660 tw15285487426057092496 tw1527715947732902744 tw15221154071882863412 tw15119465739229481543 tw15105615547256698546 tw14907958123724343266 tw14732662881301191466 tw14666530373909021105 tw14657061609909863260 tw14634095007445324781 tw14507440322673718560 tw14425851410257880839 tw14373732434185526516 tw14287709500225404886 tw14273257481850303195 tw1424195980298414462 tw14157900334526853082 tw14124671237346385102 tw13905666998061272274 tw13765956118011979864 tw13756185631728047843 tw13704767116626942747 tw13681054161667684558 tw13672561896795544695 tw13655997932622747876 tw13643706413669647804 tw13614412945699857392 tw13408944543769929327 tw13257190381585510285 tw13216478716110803204 tw13202002157641537090 tw13186374769489714249 tw13174726269692737878 tw13161288652469701280 tw1303523306330487769 tw12893824588752074689 tw12885682345815242118 tw12853186846363969302 tw12782086569352684848 tw12722097388268000363 tw12707860473262756604 tw12636321555616727677 tw12515395150210772789 tw12337482731952950030 tw12298655941168819441 tw12209181734506377415 tw12189718981522261789 tw11988630528232703046 tw11951587284831983641 tw11936035123544894870 tw11913145153869418568 tw11883097369531020437 tw11829823946523466245 tw11824761713000157699 tw11624854686035294935 tw11543915155354264596 tw11508272488444377548 tw11473537777306189026 tw11387641614870162830 tw11361380826723804775 tw1112980008230125581 tw1098853802730656857 tw10883194201875028698 tw1077912673864882228 tw10775828993647924944 tw10761360757031287044 tw10736089050000736785 tw10703507084274233970 tw10580569147505651611 tw10471658539829751184 tw10381205974898878007 tw10359489995422835369 tw10322207647054427882 tw10274527905901793749 tw10218842299057901794 tw10120888552561893230 tw10040604210990983518 tw10008883793096192913:True)
open PySem PySem.W PyProof.Rows
set_option maxRecDepth 100000 in
set_option maxHeartbeats 0 in
theorem PySem.Challenge.cw_thinbook_k72_a_book_under_another_rule_holds : PySem.Challenge.rw_thinbook_k72_a_book_under_another_rule.Holds := by
 w_on;o_law;k_head;(case hw=>w_witness2)
 k_fill
 refine TB.walk (l:=PySem.Challenge.rw_thinbook_k72_a_book_under_another_rule) rfl rfl rfl (λw h Y=>PySem.W.kIn_of Y) ?F
 case F =>
  intro w mg h KX G;refine' TB.qBv ?a0 ?a1 ?a2 ?a3 ?a4 ?a5 ?a6 ?a7 ?a8 ?a9 ?a10 ?a11 ?T
  (case a0|a1|a2|a3|a4|a5|a6|a7|a8|a9|a10|a11=>k_is)
  refine' ⟨TB.fnG KX G ?_ ?_ ?_ ?_,TB.fnG KX G ?_ ?_ ?_ ?_,TB.fnG KX G ?_ ?_ ?_ ?_,TB.fnG KX G ?_ ?_ ?_ ?_,TB.fnG KX G ?_ ?_ ?_ ?_,TB.fnG KX G ?_ ?_ ?_ ?_,TB.fnG KX G ?_ ?_ ?_ ?_,TB.fnG KX G ?_ ?_ ?_ ?_,TB.fnG KX G ?_ ?_ ?_ ?_,TB.fnG KX G ?_ ?_ ?_ ?_,TB.fnG KX G ?_ ?_ ?_ ?_,TB.fnI ?_ ?_ ?_ ?_ ?_ ?_ ?_,TB.qD8 ?_ ?_ ?_ ?_ ?_ ?_,TB.fnM ?_ ?_ ?_ ?_ ?_,TB.fnM ?_ ?_ ?_ ?_ ?_,TB.fnM ?_ ?_ ?_ ?_ ?_,TB.fnM ?_ ?_ ?_ ?_ ?_,TB.fnM ?_ ?_ ?_ ?_ ?_,TB.fnM ?_ ?_ ?_ ?_ ?_,TB.fnM ?_ ?_ ?_ ?_ ?_,TB.fnM ?_ ?_ ?_ ?_ ?_,TB.fnG KX G ?_ ?_ ?_ ?_,TB.fnG KX G ?_ ?_ ?_ ?_,TB.fnG KX G ?_ ?_ ?_ ?_,TB.fnG KX G ?_ ?_ ?_ ?_,TB.fnG KX G ?_ ?_ ?_ ?_,TB.fnG KX G ?_ ?_ ?_ ?_,TB.qE6 ?_ ?_ ?_ ?_ ?_ ?_ ?_ ?_,TB.fnM ?_ ?_ ?_ ?_ ?_,TB.fnM ?_ ?_ ?_ ?_ ?_,TB.fnG KX G ?_ ?_ ?_ ?_,TB.fnG KX G ?_ ?_ ?_ ?_,TB.fnG KX G ?_ ?_ ?_ ?_,TB.fnG KX G ?_ ?_ ?_ ?_,TB.fnG KX G ?_ ?_ ?_ ?_,TB.fnG KX G ?_ ?_ ?_ ?_,TB.fnG KX G ?_ ?_ ?_ ?_,TB.qE4 KX G ?_ ?_ ?_ ?_ ?_,TB.fnG KX G ?_ ?_ ?_ ?_,TB.fnG KX G ?_ ?_ ?_ ?_,TB.fnG KX G ?_ ?_ ?_ ?_,TB.fnG KX G ?_ ?_ ?_ ?_,TB.fnI ?_ ?_ ?_ ?_ ?_ ?_ ?_,TB.qE5 ?_ ?_ ?_ ?_ ?_ ?_,TB.fnM ?_ ?_ ?_ ?_ ?_,TB.fnM ?_ ?_ ?_ ?_ ?_,TB.qD8 ?_ ?_ ?_ ?_ ?_ ?_,TB.fnM ?_ ?_ ?_ ?_ ?_,TB.fnM ?_ ?_ ?_ ?_ ?_,TB.fnM ?_ ?_ ?_ ?_ ?_,TB.fnM ?_ ?_ ?_ ?_ ?_,TB.fnM ?_ ?_ ?_ ?_ ?_,TB.fnM ?_ ?_ ?_ ?_ ?_,TB.fnG KX G ?_ ?_ ?_ ?_,TB.fnG KX G ?_ ?_ ?_ ?_,TB.fnG KX G ?_ ?_ ?_ ?_,TB.fnG KX G ?_ ?_ ?_ ?_,TB.fnG KX G ?_ ?_ ?_ ?_,TB.fnG KX G ?_ ?_ ?_ ?_,TB.fnG KX G ?_ ?_ ?_ ?_,TB.fnG KX G ?_ ?_ ?_ ?_,TB.fnG KX G ?_ ?_ ?_ ?_,TB.fnG KX G ?_ ?_ ?_ ?_,TB.fnG KX G ?_ ?_ ?_ ?_,TB.fnG KX G ?_ ?_ ?_ ?_,TB.fnG KX G ?_ ?_ ?_ ?_,TB.fnG KX G ?_ ?_ ?_ ?_,TB.fnG KX G ?_ ?_ ?_ ?_,TB.fnG KX G ?_ ?_ ?_ ?_,TB.fnG KX G ?_ ?_ ?_ ?_,TB.fnG KX G ?_ ?_ ?_ ?_,TB.fnG KX G ?_ ?_ ?_ ?_,TB.fnG KX G ?_ ?_ ?_ ?_,TB.fnG KX G ?_ ?_ ?_ ?_,TB.fnG KX G ?_ ?_ ?_ ?_,TB.fnG KX G ?_ ?_ ?_ ?_,TB.fnG KX G ?_ ?_ ?_ ?_,TB.fnG KX G ?_ ?_ ?_ ?_,TB.fnX ?h1 ⟨?_,?_,?_,?_,?_,?h2⟩ ?_ ?_ ?_ ?_ ?_ ?_ ?_ ?_,⟨?_,?_,?_,?_⟩,mg_of KX G ?_,TB.naI ?_,TB.naI ?_,TB.naI ?_,TB.naI ?_,TB.naI ?_,⟨?_,?_,?_,?_⟩,mg_of KX G ?_,TB.naI ?_,TB.naI ?_,⟨?_,?_,?_,?_⟩,mg_of KX G ?_,⟨?_,?_,?_⟩,⟨?_,?_,?_,?_⟩,mg_of KX G ?_,TB.naI ?_,TB.naI ?_,TB.naI ?_,TB.naI ?_,TB.naI ?_,mg_of KX G ?_,mg_of KX G ?_,mg_of KX G ?_,mg_of KX G ?_,mg_of KX G ?_,mg_of KX G ?_,mg_of KX G ?_,mg_of KX G ?_,TB.exI ?h3,⟨?_,?_,?_,?_,?_,?h4⟩,?_,?h5,?h6,?h7,?h8,?h9,?h10,?h11,?h12,?h13,TB.exI ?h14,⟨?_,?_,?_,?_,?_,?h15⟩,?_,?h16,?_,?h17,?h18,?h19,?h20,?h21,?h22,?h23,?h24,TB.exI ?h25,⟨?_,?_,?_,?_,?_,?h26⟩,?_,?h27,?h28,?_,?h29,?h30,?h31,?h32,?h33,?h34,?h35,⟨?_,?_,?_,?_,?_,?h36⟩,?_,?h37,?h38,?h39,?_,?h40,?h41,?h42,?h43,?h44,?h45,⟨?_,?_,?_,?_,?_,?h46⟩,?_,?h47,?h48,?h49,?h50,?_,?h51,?h52,?h53,?h54,?h55,TB.exI ?h56,⟨?_,?_,?_,?_,?_,?h57⟩,?_,?h58,?h59,?h60,?h61,?h62,?_,?h63,?h64,?h65,?h66,TB.exI ?h67,⟨?_,?_,?_,?_,?_,?h68⟩,?_,?h69,?h70,?h71,?h72,?h73,?h74,?_,?h75,?h76,?h77,TB.exI ?h78,⟨?_,?_,?_,?_,?_,?h79⟩,?_,?h80,?h81,?h82,?h83,?h84,?h85,?h86,?_,?h87,?h88,⟨?h89,?h90,?h91⟩,mg_none_of KX G ?_,mg_none_of KX G ?_,mg_none_of KX G ?_,mg_none_of KX G ?_,mg_none_of KX G ?_,mg_none_of KX G ?_,mg_none_of KX G ?_,mg_none_of KX G ?_,mg_none_of KX G ?_,mg_none_of KX G ?_,mg_none_of KX G ?_,mg_none_of KX G ?_,mg_none_of KX G ?_,mg_none_of KX G ?_,mg_none_of KX G ?_,TB.cI KX G ?_,TB.cS KX G ?_,TB.cI KX G ?_,TB.cI KX G ?_,TB.cI KX G ?_⟩
  (case h2|h4|h15|h26|h36|h46|h57|h68|h79=>kts_isx)
  (case h3|h14|h25|h56|h67|h78=>k_exc)
  (case h5|h6|h7|h8|h9|h10|h11|h12|h13|h16|h17|h18|h19|h20|h21|h22|h23|h24|h27|h28|h29|h30|h31|h32|h33|h34|h35|h37|h38|h39|h40|h41|h42|h43|h44|h45|h47|h48|h49|h50|h51|h52|h53|h54|h55|h58|h59|h60|h61|h62|h63|h64|h65|h66|h69|h70|h71|h72|h73|h74|h75|h76|h77|h80|h81|h82|h83|h84|h85|h86|h87|h88=>kit_is)
  all_goals try k_is
  all_goals kernel_rfl
