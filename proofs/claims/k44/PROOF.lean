import PyProof.Rows.All
import Wide.All
import OpenK.AllK
import Wide.FinOn
import Lean
import PyProof.EqAt
import PyProof.EqKinds
import PyProof.TupleCall
import PyProof.NeKinds
import PyProof.ListRange
import PyProof.Draws
import PyProof.Rows.SortStr
import KE.KDictSum
import KE.KEqDict
import KE.KDictOf
import KE.KRevSl
import PyProof.StrWalks
import PyProof.StrBlock2
import PyProof.SetKind
import PyProof.SetRoads
import PyProof.Rows.SetFrom
import PyProof.ReprRoads
import PyProof.ReprLen
import PyProof.NsDelKeeps
import PyProof.ListMulRoad
import PyProof.FactsAll.tuple_2
import KE.KLam
import KE.KNestM
import PyProof.AttrMissHeap
import PyProof.Rows.SortShell
import PySem.Challenge.RW_figurejudge_k44_each_by_no_hidden_number
set_option Elab.async false
set_option linter.all false
set_option maxRecDepth 100000
set_option maxHeartbeats 4000000
open List renaming length_map → AA, getElem?_eq_some_iff → AD, map_append → AF, length_append → AH, mem_singleton → AI, getElem?_map → AJ, mem_of_getElem? → AL, replicate → AO, getD_eq_getElem?_getD → AQ, mem_append → AS, mem_cons_of_mem → AV, mem_cons_self → Aa, mem_map → Ac, range → Ad, getElem?_append_right → Ae, getElem?_eq_getElem → Ag, size_toArray → Aj, mem_cons → Ak, getElem?_append_left → Am, length_take → Ao, length_range → Aw, take_length → Ay, map_cons → A0, mem_range → A_, length_cons → A', range_succ → BD, length_replicate → BE, getElem?_eq_none → BJ, Nodup → BK, mem_append_right → BP, nodup_append → BR, append_nil → BU, mem_filter → Bc, filter_append → Bd, filter_cons → Be, length_filter_le → Bh, nodup_cons → Bk, getElem?_of_mem → Bl, forall_mem_cons → Bn, eq_of_mem_replicate → Bp
open List renaming take_of_length_le → Bv, replicate_succ → Bz, take_append_drop → B1, mem_of_mem_take → B6, getElem?_set_self → B9, any_eq_true → B_, getElem?_range → CA, map_nil → CH, getElem?_set_ne → CJ, length_drop → CK, getElem?_toArray → CS, any_cons → CY, mem_of_mem_drop → Cb, filter_nil → Cg, map_congr_left → Ci, drop_eq_getElem_cons → C5, forIn_cons → C7, mem_append_left → C8, append_assoc → C_, ext_getElem? → DD, filterMap_cons → DK, getElem?_replicate → DN, lookup_cons → DO, all_eq_true → DP, getElem?_cons_succ → DT, range_succ_eq_map → DZ, map_map → Dc, pairwise_lt_range → De, of_mem_zip → Di, find?_cons → Dj, length_nil → Dk, length_singleton → Dm, flatten_cons → Dp, getElem_inj → D1, getElem_mem → D4, not_mem_nil → D6, length_set → EH, nil_append → EI, all_map → EY, forIn_nil → Ea
open List renaming take_add_one → Ec, sum_replicate_nat → Ed, take_zero → Ef, eraseIdx_eq_take_drop_succ → Eg, eq_nil_or_concat → Ei, concat_eq_append → Ej, all_cons → Ew, map_take → Ez, take_append_of_le_length → E3, replicate_succ' → E4, length_reverse → FA, length_flatMap → FC, flatMap_append → FD, foldl → FU, length_eraseIdx_of_lt → Fd, pairwise_cons → Fe, lookup_append → Fi, drop_zero → Fj, exists_mem_of_ne_nil → Fo, length → Fu, flatMap_cons → Fz, foldl_append → F_, length_erase_of_mem → GG, length_eq_zero_iff → GL, mem_reverse → GP, mem_flatMap → GU, any_map → Gb, flatMap_singleton → Gh, drop_of_length_le → Gj, map_const' → Gq, mem_iff_getElem? → Gu, eq_replicate_iff → Gy, length_dropLast → G7, nodup_nil → G8, map_id → G_, count_le_length → HF, mem_iff_getElem → HG, length_pos_iff → HL, map_eq_nil_iff → HM, filter_sublist → HN
open List renaming map_drop → HS, map_set → Hv
open PySem renaming wpAny_bind → AB, wpAny_pure → AK, Shared → AN, mainGlobals → Ah, Program → Az, rawInt → A7, FuncData → BC, starEach → BL, Around → BQ, mem_of_lookup → BS, wpAny_newObj_type → BX, wpAny_callSpecial?_slot → Ba, wpAny_call_entry → Bb, bootBuiltins → Bg, wpAny_field → Bi, wpAny_holding → Bj, wpAny_setField_rec → Bo, wpAny_mono → B0, wpAny_truthy_bool → B2, compareOp → CB, sysModules → CL, IsPair → CO, binaryOp → CQ, wpAny_Call_Name_kw → CU, wpAny_seqItems → Ca, Arguments → Cs, wpAny_pyIter_tuple → Ct, Builtin → Cz, wpAny_passesOwn → C6, NameKind → C9, wpAny_setState_of → DC, Paired → DG, wpAny_setEntries_of → DM, codeAmong → DU, wpAny_rule → Dd, codeAny_builtin → Dl, backTo → Dr, qualnameIn → Dz, valueAt → D2, wpAny_isInstance → D3
open PySem renaming pyNext → D9, wpAny_attempt → ED, wpAny_ite_split → EJ, assignEach → EL, sliceBounds → ER, wpAny_pyIter_list → ET, codeAny_mono → EU, wpAny_pyIter_enum → EX, fits_of_scanBound → Eb, codeAny_call_function → Eh, wpAny_execs_cons → Em, call_meets → En, wpAny_pyIter_zip → Eo, scanBound → Ep, plainId_quiet → Ey, wpAny_execs_nil → E5, letOwnedTupleGo → E6, getItem → FF, wpAny_typeOf → FG, tupleKind → FL, wpAny_Name → FO, wpAny_newFunctionEnv_cells → FR, tupleKind_room_in1 → FW, wpAny_letOwnedTupleGo_enum → FX, closureFor → FY, firstArgMember → FZ, ZipApart → Fb, isSubtype_stop → Fc, wpAny_fieldsOf → Fg, wpAny_binaryOp_repeat_ref → Fl, wpAny_letOwnedTupleGo_zip → Fm, foldedSetIterable → Fs, codeAny → Ft, wpAny_standAt → F', IsPart → GA, wpAny_getItem_list_slice → GB, attributeBase → GC, wpAny_comprehension_free → GD, noFill_tuple_add → GJ, wpAny_askSetting → GK
open PySem renaming pickOrder → GR, builtinsNs → GX, typeIs_str → GZ, typeIs_int → Ga, pushCells_keeps → Gp, sizeLine_eq → G3, bindArgs → G5, subscripted → G6, newFunctionEnv → G9, isSubtype_type → HA, dictSetDefault → HB, wpAny_newTuple → HD, callerA → HH, TriplesOk → HI, seq_tuple_add → HP, wpAny_onRaise → HR, BindsTo → Hi, Keyword → Hj, storeSet → Ht, setNext → Hu, stored → H_, call → II
open PySem.W renaming Frag → AE, keepIn → AR, fnOf → Al, nsIn → Aq, codeIn → Ax, mg_of → A8, kitOne → BF, mg_none_of → BM, tabObj → B5, kia_one → B7, envX → Cq, codeHdIn → DV, CodeHd → Dy, codeHd_of_K → D_, cellsFrom_some → EV, methodObj → Fp, instObj → Gm, OpenLaw → Gn, hideAll_size → Gz, hideAll_none → G0, lookIn → G4, hideAll_get → HJ, of_hideAll → HW, callWith_K → HX, codeRec_of → HY, kitx_list → Hg, kitx_dict → Hh, plainGet → Hy
open PySem.Heap renaming get?_push_of_some → AG, get?_push_size → AU, lt_size → AX, size_push → BG, SameBut → B8, get?_update_self → CC, get?_update_other → DX, ExtBut → ES, IsTuple → Hn
open Nat renaming le_refl → AM, lt_of_lt_of_le → Ab, ne_of_lt → Ap, pow_le_pow_right → BA, le_trans → BH, zero_le → BI, pow_succ → Bm, not_lt_zero → Bw, sub_self → B4, lt_irrefl → CD, le_of_lt → CG, lt_succ_of_lt → CM, zero_add → CN, lt_succ_self → CW, ne_of_gt → Cm, lt_trans → Cp, le_succ → Cr, lt_of_le_of_lt → Cv, mul_comm → C', pow_pos → DE, pow_lt_pow_right → DF, mul_le_mul → DS, pow_zero → Dh, mod_lt → Dw, pow_le_pow_left → EB, eq_zero_or_pos → EM, div_div_eq_div_mul → Ee, div_lt_iff_lt_mul → Ek, div_eq_of_lt → Es, mod_eq_of_lt → Et, mul_le_mul_right → E2, min_eq_left → E_, lt_or_ge → FK, not_lt → Fh, add_zero → Gf, sub_zero → Gg, le_of_eq → Hr, zero_mul → Hw, add_mul → IC, one_mul → ID
open Nat renaming div_one → IE
open Or renaming inl → AW, inr → CZ
open Int renaming toNat_natCast → AY, natCast_mul → Bx, natCast_add → Cf, emod_lt_of_pos → Dg, emod_nonneg → EK, natCast_ediv → Er, natCast_emod → GV, toNat → GW, zero_add → Gk, le_refl → IB
open Option.some renaming inj → AZ, injEq → Fv
open PySem.PassesOwn renaming never → Af
open PySem.F renaming plainAttrs_list → Ai, slot_list_append → Au, type_list_append → Av, called_set → CI, slot_tuple_iterator_next → Cy, slot_list_extend → DI, type_list_extend → DJ, slot_zip_next → Dn, args_tuple_add_2 → EC, plainAttrs_tuple → EE, slot_tuple_index → EF, type_tuple_index → EG, entry_tuple_add → EO, slot_tuple_add → EW, slot_tuple_mul → EZ, args_tuple_iterator_next_1 → E8, slot_dict_setdefault → E9, entry_tuple_iterator_next → FH, slot_str_getitem → GF, slot_tuple_rmul → GN, args_zip_next_1 → GQ, plain_list_iadd → GS, slot_str_index → Gd, entry_zip_next → Ge, plainAttrs_str → Gi, plain_set_new → Gr, slot_int_rmul → Gs, slot_set_iter → Gv, slot_list_pop → Gw, type_list_pop → Gx
open Bool renaming false_ne_true → An, and_eq_true → CV, eq_iff_iff → Cc, false_eq_true → Cw, not_eq_true' → DA, and_false → FV, true_or → Hl
open PySem.Paired renaming length → As
open PySem.Builtin.SmallTypes renaming ownedTupleIsFree → A6, nextOf → BV, ownedTupleHandOut → D'
open Option renaming map_eq_some_iff → A9, bind_eq_some_iff → DQ, bind_eq_bind → HK, isSome_map → Hm
open Array renaming getElem?_eq_getElem → BB, length_toList → BN, getD_eq_getD_getElem? → BY, getElem?_toList → Bs, getElem?_eq_none → Df, toList_push → Fw, toList_extract → HE, toList → Hf
open PySem.SetTable renaming below → BO, grown → CF, insertAt → Fy, orStandIn → He, relaid → IG
open Sum renaming inr → BW, inl → Bu
open PySem.NameKind renaming free → BZ, cell → Ex
open List.Nodup renaming length_le_of_subset → Bf
open PySem.Value renaming ref → Bq, none → CT, bool → DW, int → EN, type → FN, str → GI
open PyProof.Rows renaming slot_tuple_getitem → Br, callWith_type1 → B3, IntsAre → CP, subscriptTail → Eu, envOfC → E7, envOfC → FE, AllBare → Fq, Subscript_ → GY, sortedS → G', tupleItemsOf_ → HQ
open False renaming elim → Bt
open PySem.Builtin.Tuple renaming tupleExact → By, tupleItemsOf → Ds, tupleTooMany → Dx
open PyProof.Rows.F renaming plain_set_update_loop → B', entry_set_update_loop → EA
open True renaming intro → Cd
open ForInStep renaming yield → Ce
open PySem.BindsTo renaming of_defaults → Cj
open Ne renaming symm → Ck
open PySem.Str renaming ofString → Co
open PySem.SeqAt renaming EqAt → Cu, RcAt → IJ
open List.Pairwise renaming sublist → C0, nil → Hk
open PySem.Builtin.Slice renaming slicePlaces → C4, sliceAdjust → D7, sliceApplied → FT
open PySem.Around renaming under_plainId → DB, frames_deeper → E1
open PySem.Builtin.List renaming listTooLong → DH, listLengthHint → FI, listExtendWith → FJ, listSameRef → GH
open PySem.Heap.SameBut renaming update → DL, refl → Hs
open PySem.Calls renaming callWith_builtin → DY, evalArgs_plain → Dv, Name_function_global → FP, spliced_cons → FQ, call_function_entry → Fn
open PySem.SetTable.below renaming go → Dq
open PySem.Obj renaming mapSeq → Du, putSet → Ff, data_mapDictKeys → HC
open Nat.succ renaming inj → D5
open Classical renaming byContradiction → D8
open PySem.SetTable.probe renaming go → Fx
open PySem.Builtin.Str renaming occurrences → GO
open PySem.SeqAt.EqAt renaming int_str → HU, str_int → HV, str_str → Hd, same → IF
open PySem.Heap.IsSliceOf renaming new → HZ
open String renaming splitOnAux → Ho
open PySem.pickOrder renaming go → Hq
open PyProof.Rows.IsTup renaming new → Hz
open PySem.Shared renaming heap → IA
open Iff renaming rfl → IH
open PySem.Walks renaming list → IK
namespace L2
open PySem PySem.Spec PyProof.Rows
abbrev Key:=Sum Int Str
def kT:Key->Value->Bool
 | .inl k,v=>Value.isInt k v
 | .inr x,v=>Value.isStrOf x v
def YU(w:World):Key->Int
 | .inl k=>hashInt k
 | .inr x=>hashStr w x
theorem cE:∀{k:Key} {v:Value},kT k v=true->(∃i t,k=Bu i/\v=EN i t)∨(∃x t,k=BW x/\v=GI x t)
 | .inl i,v,h=>by
  obtain⟨t,e⟩:=Value.isInt_shape (k:=i) (v:=v) h
  exact .inl ⟨i,t,rfl,e⟩
 | .inr x,v,h=>by
  obtain⟨t,e⟩:=Value.isStrOf_shape (x:=x) (v:=v) h
  exact .inr ⟨x,t,rfl,e⟩
theorem Kr(i:Int)(t:Tok):kT (.inl i) (.int i t)=true:=by simp[kT,Value.isInt]
theorem Ks(x:Str)(t:Tok):kT (.inr x) (.str x t)=true:=by simp[kT,Value.isStrOf]
theorem Si(a b:Int):decide ((Bu a:Key)=Bu b)=(a == b):=by
 by_cases e:a=b
 ·subst e;simp
 ·have h:¬(Bu a:Key)=Bu b:=λq=>e (Sum.inl.inj q)
  rw[decide_eq_false h]
  exact(beq_eq_false_iff_ne.mpr e).symm
theorem Sj(a b:Str):decide ((BW a:Key)=BW b)=decide (a=b):=by
 by_cases e:a=b
 ·subst e;simp
 ·have h:¬(BW a:Key)=BW b:=λq=>e (Sum.inr.inj q)
  rw[decide_eq_false h,decide_eq_false e]
theorem Sk(a:Int)(b:Str):decide ((Bu a:Key)=BW b)=false:=decide_eq_false (λq=>nomatch q)
theorem Sl(a:Str)(b:Int):decide ((BW a:Key)=Bu b)=false:=decide_eq_false (λq=>nomatch q)
def b_(prog:Az)(w:World):PySem.KeyKind prog w Key where
 is:=kT
 hash:=YU w
 inj:=λv a b ha hb=>by
  rcases cE ha with⟨i,t,rfl,rfl⟩ | ⟨x,t,rfl,rfl⟩
  ·rcases cE hb with⟨j,u,rfl,e⟩ | ⟨y,u,rfl,e⟩
   ·injection e with e1 _;rw[e1]
   ·exact nomatch e
  ·rcases cE hb with⟨j,u,rfl,e⟩ | ⟨y,u,rfl,e⟩
   ·exact nomatch e
   ·injection e with e1 _;rw[e1]
 byValue:=λk v h=>by
  rcases cE h with⟨i,t,rfl,rfl⟩ | ⟨x,t,rfl,rfl⟩<;>rfl
 pyHash:=λhv h=>by
  rcases cE hv with⟨i,t,rfl,rfl⟩ | ⟨x,t,rfl,rfl⟩
  ·exact wpAny_pyHash_int h
  ·exact wpAny_pyHash_str h
 eqBool:=λhu hv h=>by
  rcases cE hu with⟨i,t,rfl,rfl⟩ | ⟨x,t,rfl,rfl⟩
  ·rcases cE hv with⟨j,u,rfl,rfl⟩ | ⟨y,u,rfl,rfl⟩
   ·rw[Si] at h;exact wpAny_eqBool_int h
   ·rw[Sk] at h;exact HU i t y u _ _ _ _ h
  ·rcases cE hv with⟨j,u,rfl,rfl⟩ | ⟨y,u,rfl,rfl⟩
   ·rw[Sl] at h;exact HV x t j u _ _ _ _ h
   ·rw[Sj] at h;exact wpAny_eqBool_str h
 «strs» :=λk x t v h=>by
  rcases cE h with⟨i,u,rfl,e⟩ | ⟨y,u,rfl,e⟩
  ·exact nomatch e
  ·injection e with e1 _
   subst e1
   cases v<;>rfl
theorem IV(prog:Az)(w:World)(k:Key)(v:Value):(b_ prog w).is k v=kT k v:=rfl
theorem yI(prog:Az)(w:World)(i:Int)(t:Tok):(b_ prog w).is (.inl i) (.int i t)=true:=Kr i t
theorem yJ(prog:Az)(w:World)(x:Str)(t:Tok):(b_ prog w).is (.inr x) (.str x t)=true:=Ks x t
inductive V where
 | non | bl (b:Bool) | int (i:Int) | str (x:Str) | j9 (b:Array UInt8) | flt (b:UInt64) | ref (a:Addr) | ty (n:String)
 deriving DecidableEq
def RelV:V->Value->Prop
 | .non,u=>u=CT
 | .bl b,u=>u=DW b
 | .int i,u=>∃t,u=EN i t
 | .str x,u=>∃t,u=GI x t
 | .j9 b,u=>∃t,u=Value.bytes b t
 | .flt b,u=>∃t,u=Value.float b t
 | .ref a,u=>u=Bq a
 | .ty n,u=>u=FN n
abbrev Vals:List V->List Value->Prop:=DG RelV
theorem Vals.length{xs:List V}{us:List Value}(r:Vals xs us):xs.length=us.length:=As r
theorem Vals.get:∀{xs:List V} {us:List Value} {i:Nat} {x:V},Vals xs us->xs[i]? =some x->∃u,us[i]? =some u/\RelV x u
 | _,_,_,_,.nil,e=>by simp at e
 | _,_,0,_,.cons r _,e=>by simp at e;subst e;exact⟨_,rfl,r⟩
 | _,_,i+1,x,.cons _ t,e=>by
  obtain⟨u,h1,h2⟩:=Vals.get (i:=i) (x:=x) t (by simpa using e)
  exact⟨u,by simpa using h1,h2⟩
theorem Vals.set{x:V}{u:Value}(r:RelV x u):∀{xs:List V} {us:List Value} (i:Nat),Vals xs us->Vals (xs.set i x) (us.set i u)
 | _,_,_,.nil=>.nil
 | _,_,0,.cons _ t=>.cons r t
 | _,_,i+1,.cons q t=>.cons q (Vals.set r i t)
theorem Vals.append:∀{xs ys:List V} {us ws:List Value},Vals xs us->Vals ys ws->Vals (xs++ys) (us++ws)
 | _,_,_,_,.nil,s=>s
 | _,_,_,_,.cons r t,s=>.cons r (Vals.append t s)
theorem Vals.take:∀{xs:List V} {us:List Value} (n:Nat),Vals xs us->Vals (xs.take n) (us.take n)
 | _,_,0,_=>.nil
 | _,_,_+1,.nil=>.nil
 | _,_,n+1,.cons r t=>.cons r (Vals.take n t)
theorem Vals.drop:∀{xs:List V} {us:List Value} (n:Nat),Vals xs us->Vals (xs.drop n) (us.drop n)
 | _,_,0,r=>r
 | _,_,_+1,.nil=>.nil
 | _,_,n+1,.cons _ t=>Vals.drop n t
def j':Option V->Option Value->Prop
 | some v,some u=>RelV v u
 | none,none=>True
 | _,_=>False
def KV{κ:Type}:List (κ×V)->List (κ×Value)->Prop:=DG λ(p:κ×V) (q:κ×Value)=>p.1=q.1/\RelV p.2 q.2
def kV:Key->V
 | .inl i=>.int i
 | .inr x=>.str x
inductive HO where
 | lst (xs:List V)
 | tup (xs:List V)
 | dK (kvs:List (Key×V)) | dT (kvs:List (List Key×V))
 | set (S:Int->Bool) (n:Nat)
 | ins (C dx:Addr) (fs:List (Str×V))
 | own (x:Addr)
 | xd (fs:List (Str×V))
 | met (f x:Addr)
 | rng (lo hi:Int)
 | dC (o:Obj) (u:HO)
 | fw (ps:Array Value)
 | ext (φ:Heap->Prop)
abbrev Hp:=Addr->Option HO
def upd(H:Hp)(a:Addr)(o:HO):Hp:=λb=>if b=a then some o else H b
theorem af{H:Hp}{a:Addr}{o:HO}:upd H a o a=some o:=by unfold upd;rw[if_pos rfl]
theorem ao{H:Hp}{a b:Addr}{o:HO}(h:b≠a):upd H a o b=H b:=by unfold upd;rw[if_neg h]
theorem gE{H:Hp}{a b:Addr}{o u:HO}(h:H a=some o)(h':H b=some u)(d:o≠u):a≠b:=by
 intro e;subst e;rw[h] at h';exact d (AZ h')
theorem aq{H:Hp}{a b:Addr}{o:HO}(h:H a=some o)(h':H b=none):a≠b:=by
 intro e;subst e;rw[h] at h';cases h'
section
variable(P:Az)(w:World)
def bE(H:Hp)(h:Heap)(a:Addr):HO->Prop
 | .lst xs=>xs.length<=sizeLine/\∃(its:List Value) (n:Nat),Vals xs its/\h.get? a=some {cls:=.type "list",data:=.seq its.toArray n}
 | .tup xs=>(xs.length<=sizeLine/\∃o,h.get? a=some o/\o.dict=none)/\∃its:List Value,Vals xs its/\IsTup h a its.toArray
 | .dK kvs=>kvs.length<=sizeLine/\(a == CL)=false/\∃vs,KV kvs vs/\h.DictOf (b_ P w) a vs
 | .dT kvs=>kvs.length<=sizeLine/\(a == CL)=false/\∃xs:List (List Key×Addr×Value),
   DG (λ(p:List Key×V) (q:List Key×Addr×Value)=>p.1=q.1/\H q.2.1=some (.tup (p.1.map kV))/\RelV p.2 q.2.2) kvs xs/\
   ∃o es ep,h.get? a=some o/\o.ExactDict/\o.data=.dict es ep/\es.toList=xs.map (entryOfKey (FL (b_ P w)))/\(xs.map (·.1)).Nodup
 | .set S n=>h.SetOf (intKind P w) a S n
 | .ins C dx fs=>H dx=some (.own a)/\fs.length<=1000/\dx≠a/\h.get? a=some (Gm C dx)/\
   ∃mA,h.Ns1 dx mA/\(∀f,j' (fs.lookup f) (mA f))/\PySem.Within mA (fs.map (·.1))
 | .own _=>∃o,h.get? a=some o
 | .xd fs=>∃mA,h.Ns1 a mA/\∀f,j' (fs.lookup f) (mA f)
 | .rng lo hi=>∃t u v,h.get? a=some {cls:=.type "range",data:=.fields #[.int lo t,.int hi u,.int 1 v]}
 | .dC o u=>h.get? a=some o/\bE H h a u
 | .fw ps=>h.get? a=some {cls:=.none,data:=.fields ps}
 | .met f x=>h.get? a=some (Fp (.ref f) (.ref x))
 | .ext φ=>φ h/\(∃o,h.get? a=some o)/\∀h1 h2:Heap,φ h1->(∀o,h1.get? a=some o->h2.get? a=some o)->φ h2
def dq(H:Hp)(h:Heap):Prop:=∀a o,H a=some o->bE P w H h a o
end
section
variable{P:Az}{w:World}{H H':Hp}{h h':Heap}{a:Addr}{o:HO}
theorem bE.lt(x:bE P w H h a o):a<h.objs.size:=by
 cases o with
 | lst xs=>obtain⟨_,_,_,_,e⟩:=x;exact AX e
 | tup xs=>obtain⟨_,_,_,p⟩:=x;exact p.lt
 | dK kvs=>obtain⟨_,_,_,_,o,_,_,e,_⟩:=x;exact AX e
 | dT kvs=>obtain⟨_,_,_,_,o,_,_,e,_⟩:=x;exact AX e
 | set S n=>obtain⟨o,_,_,_,e,_⟩:=x;exact AX e
 | ins C dx fs=>obtain⟨_,_,_,e,_⟩:=x;exact AX e
 | own y=>obtain⟨_,e⟩:=x;exact AX e
 | xd fs=>obtain⟨_,⟨_,_,_,e,_⟩,_⟩:=x;exact AX e
 | rng lo hi=>obtain⟨_,_,_,e⟩:=x;exact AX e
 | dC ob u=>obtain⟨e,_⟩:=x;exact AX e
 | fw ps=>exact AX (show h.get? a=some _ from x)
 | met f y=>exact AX (show h.get? a=some _ from x)
 | ext φ=>obtain⟨_,⟨_,e⟩,_⟩:=x;exact AX e
theorem Paired.qz{α β:Type}{F G:α->β->Prop}:∀{l₁:List α} {l₂:List β},DG F l₁ l₂->(∀a b,F a b->G a b)->DG G l₁ l₂
 | _,_,.nil,_=>.nil
 | _,_,.cons r t,f=>.cons (f _ _ r) (Paired.qz t f)
theorem bE.stay(x:bE P w H h a o)(k:∀b u,(b=a∨H b=some (.own a))->h.get? b=some u->h'.get? b=some u)
  (ho:∀b,H b=some (.own a)->H' b=some (.own a)) (ht:∀b xs,H b=some (.tup xs)->H' b=some (.tup xs)):bE P w H' h' a o:=by
 induction o with
 | lst xs=>obtain⟨z,its,n,r,e⟩:=x;exact⟨z,its,n,r,k _ _ (.inl rfl) e⟩
 | tup xs=>obtain⟨⟨z,o2,e2,d2⟩,its,r,ob,e,c⟩:=x;exact⟨⟨z,o2,k _ _ (.inl rfl) e2,d2⟩,its,r,ob,k _ _ (.inl rfl) e,c⟩
 | dK kvs=>obtain⟨z,y,vs,r,ob,es,ep,e,c⟩:=x;exact⟨z,y,vs,r,ob,es,ep,k _ _ (.inl rfl) e,c⟩
 | dT kvs=>
  obtain⟨z,y,xs,r,ob,es,ep,e,c⟩:=x
  exact⟨z,y,xs,Paired.qz r λp q z=>⟨z.1,ht _ _ z.2.1,z.2.2⟩,ob,es,ep,k _ _ (.inl rfl) e,c⟩
 | set S n=>obtain⟨ob,es,ep,t,e,c⟩:=x;exact⟨ob,es,ep,t,k _ _ (.inl rfl) e,c⟩
 | ins C dx fs=>
  obtain⟨d,z,ne,e,mA,⟨od,es,ep,e2,c⟩,r⟩:=x
  exact⟨ho _ d,z,ne,k _ _ (.inl rfl) e,mA,⟨od,es,ep,k _ _ (.inr d) e2,c⟩,r⟩
 | own y=>obtain⟨ob,e⟩:=x;exact⟨ob,k _ _ (.inl rfl) e⟩
 | xd fs=>obtain⟨mA,⟨od,es,ep,e,c⟩,r⟩:=x;exact⟨mA,⟨od,es,ep,k _ _ (.inl rfl) e,c⟩,r⟩
 | rng lo hi=>obtain⟨t,u,v,e⟩:=x;exact⟨t,u,v,k _ _ (.inl rfl) e⟩
 | dC ob u ih=>obtain⟨e,q⟩:=x;exact⟨k _ _ (.inl rfl) e,ih q⟩
 | fw ps=>
  have e:h.get? a=some {cls:=.none,data:=.fields ps}:=x
  show h'.get? a=some {cls:=.none,data:=.fields ps}
  exact k a _ (.inl rfl) e
 | met f y=>
  have e:h.get? a=some (Fp (.ref f) (.ref y)):=x
  show h'.get? a=some (Fp (.ref f) (.ref y))
  exact k a _ (.inl rfl) e
 | ext φ=>obtain⟨p,⟨o,e⟩,st⟩:=x;exact⟨st _ _ p λo q=>k _ _ (.inl rfl) q,⟨o,k _ _ (.inl rfl) e⟩,st⟩
theorem dq.lt(x:dq P w H h)(e:H a=some o):a<h.objs.size:=(x a o e).lt
theorem dq.fresh(x:dq P w H h)(e:h.objs.size<=a):H a=none:=by
 cases q:H a with
 | none=>rfl
 | some u=>exact absurd (Ab (x.lt q) e) (CD _)
theorem dq.kept(x:dq P w H h)(k:∀b u,h.get? b=some u->h'.get? b=some u):dq P w H h':=λa o e=>
 (x a o e).stay (λb u _ q=>k b u q) (λ_ q=>q) λ_ _ q=>q
theorem dq.laid(x:dq P w H h)(k:∀b u,h.get? b=some u->h'.get? b=some u)(hp:h.objs.size<=a)(new:bE P w (upd H a o) h' a o):dq P w (upd H a o) h':=λb u e=>by
 have hn:=x.fresh hp
 by_cases hb:b=a
 ·subst hb;rw[af] at e;cases e;exact new
 ·rw[ao hb] at e
  exact(x b u e).stay (λc v _ q=>k c v q) (λc q=>by rw[ao (aq q hn)];exact q) λc xs q=>by rw[ao (aq q hn)];exact q
end
def Rd(H:Hp)(a:Addr)(u:HO):Prop:=H a=some u∨∃o,H a=some (.dC o u)
theorem Rd.ok{P:Az}{w:World}{H:Hp}{h:Heap}{a:Addr}{u:HO}(r:Rd H a u)(x:dq P w H h):bE P w H h a u:=by
 rcases r with r | ⟨o,r⟩
 ·exact x a u r
 ·obtain⟨_,q⟩:=x a _ r
  exact q
def Kt:Option HO->Prop
 | some (.lst _)=>True
 | some (.dK _)=>True
 | some (.dT _)=>True
 | some (.set _ _)=>True
 | some (.ins _ _ _)=>True
 | some (.ext _)=>True
 | _=>False
section
variable{P:Az}{w:World}{H:Hp}{h h':Heap}{x e:Addr}{o':HO}
theorem dq.write(ok:dq P w H h)(mu:Kt (H x))(he:e=x∨H e=some (.own x))(k:∀b u,b≠e->h.get? b=some u->h'.get? b=some u)(heo:∃u,h'.get? e=some u)
  (new:bE P w (upd H x o') h' x o'):dq P w (upd H x o') h':=λb u q=>by
 have Sm:∀c y,H c=some (.own y)->c≠x:=λc y r z=>by subst z;rw[r] at mu;exact mu
 have YV:∀c xs,H c=some (.tup xs)->c≠x:=λc xs r z=>by subst z;rw[r] at mu;exact mu
 by_cases hb:b=x
 ·subst hb;rw[af] at q;cases q;exact new
 ·rw[ao hb] at q
  by_cases hbe:b=e
  ·have q':H b=some (.own x):=by
    rcases he with z | z
    ·exact absurd (hbe.trans z) hb
    ·rw[hbe];exact z
   rw[q] at q';cases q'
   obtain⟨v,hv⟩:=heo
   exact⟨v,by rw[hbe];exact hv⟩
  ·refine(ok b u q).stay (λc v hc r=>k c v ?_ r) (λc r=>by rw[ao (Sm c b r)];exact r) λc xs r=>by rw[ao (YV c xs r)];exact r
   rcases hc with rfl | hc
   ·exact hbe
   ·rintro rfl
    rcases he with z | z
    ·exact Sm c b hc z
    ·rw[hc] at z;cases z;exact hb rfl
end
structure Un (fs ex:List Addr)(H H':Hp)(h h':Heap):Prop where
 keep:∀b o,h.get? b=some o->H b=none->b ∉ fs->b ∉ ex->h'.get? b=some o
 slot:∀b o,h.get? b=some o->H b=none->b∈fs->b ∉ ex->∃sl,h'.get? b=some {o with slots:=sl}
 free:∀b o,h.get? b=some o->H b=none->b ∉ ex->H' b=none
 there:∀b o,h.get? b=some o->b ∉ ex->∃o',h'.get? b=some o'
 tups:∀b xs,H b=some (.tup xs)->H' b=some (.tup xs)
 kd:∀b o u,H b=some (.dC o u)->H' b=some (.dC o u)
 ke:∀b ps,H b=some (.fw ps)->∃more,H' b=some (.fw (ps++more))
section
variable{fs fs' ex ex':List Addr}{H H1 H2:Hp}{h h1 h2 h':Heap}{a x e:Addr}{o:HO}
theorem Un.any(u:Un fs ex H H1 h h1){b:Addr}{ob:Obj}(q:h.get? b=some ob)(n:H b=none)(hx:b ∉ ex):∃sl,h1.get? b=some {ob with slots:=sl}:=by
 by_cases hb:b∈fs
 ·exact u.slot b ob q n hb hx
 ·exact⟨ob.slots,u.keep b ob q n hb hx⟩
theorem Un.kept(k:∀b u,h.get? b=some u->h'.get? b=some u):Un fs ex H H h h':=
 ⟨λb ob q _ _ _=>k b ob q,λb ob q _ _ _=>⟨ob.slots,k b ob q⟩,λ_ _ _ n _=>n,λb ob q _=>⟨ob,k b ob q⟩,λ_ _ q=>q,λ_ _ _ q=>q,λ_ ps q=>⟨#[],by rw[q];simp⟩⟩
theorem Un.refl:Un fs ex H H h h:=Un.kept λ_ _ q=>q
theorem Un.laid(k:∀b u,h.get? b=some u->h'.get? b=some u)(hp:h.objs.size<=a)(hn:H a=none):Un fs ex H (upd H a o) h h' where
 keep:=λb u q _ _ _=>k b u q
 slot:=λb u q _ _ _=>⟨u.slots,k b u q⟩
 free:=λb u q n _=>by rw[ao (Ap (Ab (AX q) hp))];exact n
 there:=λb u q _=>⟨u,k b u q⟩
 tups:=λb xs q=>by rw[ao (aq q hn)];exact q
 kd:=λb u xs q=>by rw[ao (aq q hn)];exact q
 ke:=λb ps q=>⟨#[],by rw[ao (aq q hn),q];simp⟩
theorem Un.write(mu:Kt (H x))(he:e=x∨H e=some (.own x))(k:∀b u,b≠e->h.get? b=some u->h'.get? b=some u)(heo:∃u,h'.get? e=some u):Un fs ex H (upd H x o) h h':=by
 have hx:∀b,H b=none->b≠x:=λb n z=>by subst z;rw[n] at mu;exact mu
 have hb:∀b,H b=none->b≠e:=λb n z=>by
  subst z
  rcases he with r | r
  ·exact hx b n r
  ·rw[n] at r;cases r
 have hm:∀b u,H b=some u->¬Kt (some u)->b≠x:=λb u q nm z=>by subst z;rw[q] at mu;exact nm mu
 refine⟨λb u q n _ _=>k b u (hb b n) q,λb u q n _ _=>⟨u.slots,k b u (hb b n) q⟩,λb u q n _=>by rw[ao (hx b n)];exact n,λb u q _=>?_,
  λb xs q=>by rw[ao (hm b _ q λz=>z)];exact q,λb u xs q=>by rw[ao (hm b _ q λz=>z)];exact q,λb ps q=>⟨#[],by rw[ao (hm b _ q λz=>z),q];simp⟩⟩
 by_cases hbe:b=e
 ·subst hbe;exact heo
 ·exact⟨u,k b u hbe q⟩
end
def PD(h:Heap)(H:Hp):List Addr:=(Ad h.objs.size).filter λa=>(H a).isSome
def kf(h:Heap)(H:Hp):Heap:=PySem.W.hideAll h (PD h H)
theorem uL(h:Heap)(H:Hp):(kf h H).objs.size=h.objs.size:=Gz _ _
theorem wF{h:Heap}{H:Hp}{b:Addr}{o:Obj}(e:h.get? b=some o)(n:H b=none):(kf h H).get? b=some o:=
 HJ _ e λhm=>by
  have q:(H b).isSome=true:=(Bc.mp hm).2
  rw[n] at q;simp at q
theorem zi{h:Heap}{H:Hp}{b:Addr}{o:Obj}(e:(kf h H).get? b=some o):h.get? b=some o/\H b=none:=by
 have e':h.get? b=some o:=HW (PD h H) e
 refine⟨e',?_⟩
 cases q:H b with
 | none=>rfl
 | some x=>
  have hm:b∈PD h H:=Bc.mpr ⟨A_.mpr (AX e'),by simp[q]⟩
  have z:(kf h H).get? b=none:=G0 (PD h H) hm
  rw[z] at e;cases e
structure Mod (K:AE)(mg:Str->Option Value)(base:Heap):Prop where
 uM:K.In base
 glob:base.Ns Ah mg
 blt:∃mb,base.Ns GX mb/\∀x:Str,x≠"__name__"->mb x=Bg x
 nolimit:base.NoLimit
structure Cx where
 prog:Az
 w:World
 K:AE
 mg:Str->Option Value
 base:Heap
 A:BQ
 N:List Str
 s₀:AN
 H₀:Hp
 env:Env
 outer:List Env
 stack:List Env
 ex:List Addr
 fn:Str->Bool
 calm:Bool
 pn:List (Addr×Obj)
 xe:Value->AN->Prop
def frs(l:List Env):List Addr:=l.filterMap (·.frame)
abbrev Cx.fs (X:Cx):List Addr:=frs X.outer
def zj(sc:Scope)(x:Str):Prop:=sc.names.lookup x=some .local∨sc.names.lookup x=some .cell∨sc.names.lookup x=some .free
def Loc(sc:Scope)(x:Str):Prop:=sc.names.lookup x=some .local∨sc.names.lookup x=some .cell
def Look(env:Env)(h:Heap)(m:Str->Option Value)(x:Str)(u:Value):Prop:=
 (env.kindOf x=some .local/\m x=some u)∨((env.kindOf x=some .cell∨env.kindOf x=some .free)/\∃c,env.cells.lookup x=some c/\h.IsCell c (some u))
structure Cx.Ok (X:Cx):Prop where
 mod:Mod X.K X.mg X.base
 kind:X.env.scope.kind=.function
 glob:X.env.globals=Ah
 blt:X.env.builtins=GX
 above:X.s₀.heap.objs.size<=X.env.locals
 inj:∀x y c,X.env.cells.lookup x=some c->X.env.cells.lookup y=some c->x=y
 has:∀x,(X.env.kindOf x=some .cell∨X.env.kindOf x=some .free)->∃c,X.env.cells.lookup x=some c
 cab:∀x c,X.fn x=true->X.env.cells.lookup x=some c->X.s₀.heap.objs.size<=c
 hd:X.calm=true->X.A.handled=none
 frames:X.A.frames=some X.stack
 stk:X.stack=X.outer∨(X.stack=X.env::X.outer/\X.env.frame=some X.env.locals)
 Sn:∀b∈X.ex,b≠X.env.locals/\∀x c,X.env.cells.lookup x=some c->c≠b
 bs:∀b o,X.base.get? b=some o->X.s₀.heap.get? b=some o/\X.H₀ b=none
 oC:X.base.objs.size<=X.s₀.heap.objs.size
 wG:∀b o,X.base.get? b=some o->b ∉ X.ex
 wH:∀b∈X.ex,b ∉ X.fs
 hV:X.s₀.heap.FunFrames X.base X.outer
 uN:∀b∈X.fs,X.H₀ b=none
structure Inv (X:Cx)(pins:List (Addr×Obj))(σ:List (Option V))(H:Hp)(s:AN):Prop where
 ok:X.Ok
 os:s.os=X.s₀.os
 bare:Fq s.gens
 base:Un X.fs X.ex X.H₀ H X.s₀.heap s.heap
 loc:∃m,s.heap.Ns X.env.locals m/\∀(i:Nat) (x:Str) (v:V),X.N[i]? =some x->σ[i]? =some (some v)->zj X.env.scope x->∃u,RelV v u/\Look X.env s.heap m x u
 cell:∀x c,X.env.cells.lookup x=some c->∃v,s.heap.IsCell c v
 free:H X.env.locals=none
 fZ:∀x c,X.env.cells.lookup x=some c->H c=none
 pin:∀p∈X.pn++pins,s.heap.get? p.1=some p.2/\H p.1=none/\p.1≠X.env.locals/\p.1 ∉ X.fs/\∀v,p.2.data≠.cell v
 hok:dq X.prog X.w H s.heap
 len:σ.length=X.N.length
section
variable{X:Cx}{pins:List (Addr×Obj)}{σ:List (Option V)}{H H':Hp}{s:AN}{h':Heap}
theorem Cx.Ok.So(ok:X.Ok){b:Addr}{o:Obj}(e:X.base.get? b=some o):b ∉ X.fs:=λhb=>by
 have:=(ok.hV.mem hb).1
 rw[e] at this;cases this
theorem Inv.bs(I:Inv X pins σ H s):∀b o,X.base.get? b=some o->s.heap.get? b=some o/\H b=none:=λb o e=>
 ⟨I.base.keep b o (I.ok.bs b o e).1 (I.ok.bs b o e).2 (I.ok.So e) (I.ok.wG b o e),I.base.free b o (I.ok.bs b o e).1 (I.ok.bs b o e).2 (I.ok.wG b o e)⟩
theorem Inv.bk(I:Inv X pins σ H s):∀b o,X.base.get? b=some o->s.heap.get? b=some o:=λb o e=>(I.bs b o e).1
theorem Inv.mod(I:Inv X pins σ H s):Mod X.K X.mg X.base:=I.ok.mod
theorem Inv.h_(I:Inv X pins σ H s):X.K.In s.heap:=I.ok.mod.uM.keeps I.bk
theorem Inv.lt(I:Inv X pins σ H s):X.env.locals<s.heap.objs.size:=let ⟨_,hn,_⟩:=I.loc;hn.lt
theorem Inv.sz(I:Inv X pins σ H s):X.s₀.heap.objs.size<=s.heap.objs.size:=BH I.ok.above (CG I.lt)
theorem Inv.YW(I:Inv X pins σ H s){a:Addr}(h:s.heap.objs.size<=a):a ∉ X.fs:=λhb=>by
 obtain⟨_,o,ho,_⟩:=I.ok.hV.mem hb
 exact absurd (Ab (AX ho) (BH I.sz h)) (CD _)
theorem Inv.uO(I:Inv X pins σ H s):∀x c,X.env.cells.lookup x=some c->c≠X.env.locals:=λx c e z=>by
 obtain⟨v,o,ho,hd⟩:=I.cell x c e
 obtain⟨m,⟨o',es,ep,ho',hd',_⟩,_⟩:=I.loc
 rw[z,ho'] at ho;cases ho;rw[hd'] at hd;cases hd
theorem Inv.hV(I:Inv X pins σ H s):s.heap.FunFrames X.base X.outer:=by
 have all:∀(l:List Env),(∀b∈frs l,b∈X.fs)->X.s₀.heap.FunFrames X.base l->s.heap.FunFrames X.base l:=by
  intro l
  induction l with
  | nil=>intro _ _;trivial
  | cons env r ih=>
   intro hs hl
   obtain⟨hk,⟨L,o,hf,hn,ho,hd⟩,hr⟩:=hl
   have hL:L∈X.fs:=hs L (by unfold frs;rw[DK,hf];exact Aa)
   obtain⟨sl,e⟩:=I.base.slot L o ho (I.ok.uN L hL) hL λz=>I.ok.wH L z hL
   exact⟨hk,⟨L,_,hf,hn,e,hd⟩,ih (λb hb=>hs b (by unfold frs;rw[DK,hf];exact AV _ hb)) hr⟩
 exact all X.outer (λ_ hb=>hb) I.ok.hV
theorem Inv.stack(I:Inv X pins σ H s):s.heap.FunFrames X.base X.stack:=by
 rcases I.ok.stk with e | ⟨e,hf⟩
 ·rw[e];exact I.hV
 ·rw[e]
  obtain⟨m,hn,_⟩:=I.loc
  refine .cons (by rw[I.ok.kind];decide) hf hn ?_ I.hV
  exact Heap.get?_none_of_le (BH I.ok.oC I.ok.above)
theorem Inv.oE(I:Inv X pins σ H s):∀b∈frs X.stack,b∈X.env.locals::X.fs:=λb hb=>by
 rcases I.ok.stk with e | ⟨e,hf⟩
 ·rw[e] at hb;exact AV _ hb
 ·rw[e] at hb
  unfold frs at hb
  rw[DK,hf] at hb
  exact hb
theorem Inv.mC(I:Inv X pins σ H s):∀b∈frs X.stack,H b=none:=λb hb=>by
 rcases Ak.mp (I.oE b hb) with e | hb
 ·rw[e];exact I.free
 ·obtain⟨_,o,ho,_⟩:=I.ok.hV.mem hb
  exact I.base.free b o ho (I.ok.uN b hb) λz=>I.ok.wH b z hb
theorem Inv.step{g':Array GenState}{t':Nat}{d':Drawn}{ch:List Addr}(I:Inv X pins σ H s)
  (hch:∀b∈ch,(b∈X.ex∨X.s₀.heap.objs.size<=b)/\b≠X.env.locals/\(∀x c,X.env.cells.lookup x=some c->c≠b)/\∀p∈X.pn++pins,p.1≠b)
  (keep:∀b o,b≠X.env.locals->b ∉ X.fs->b ∉ ch->s.heap.get? b=some o->H b=none->h'.get? b=some o)
  (slot:∀b o,b≠X.env.locals->b∈X.fs->b ∉ ch->s.heap.get? b=some o->H b=none->∃sl,h'.get? b=some {o with slots:=sl}) (free:∀b o,b ∉ ch->s.heap.get? b=some o->H b=none->H' b=none)
  (there:∀b o,b ∉ ch->s.heap.get? b=some o->∃o',h'.get? b=some o')
  (tups:∀b xs,H b=some (.tup xs)->H' b=some (.tup xs)) (kd:∀b o u,H b=some (.dC o u)->H' b=some (.dC o u)) (ke:∀b ps,H b=some (.fw ps)->∃more,H' b=some (.fw (ps++more)))
  (ns:∀m,s.heap.Ns X.env.locals m->h'.Ns X.env.locals m) (hok:dq X.prog X.w H' h') (hg:Fq g'):
  Inv X pins σ H' {s with heap:=h',gens:=g',drawn:=d',toks:=t'}:=by
 have Xn:∀b o,X.s₀.heap.get? b=some o->b≠X.env.locals:=λb o e=>Ap (Ab (AX e) I.ok.above)
 have PF:∀b o,X.s₀.heap.get? b=some o->b ∉ X.ex->b ∉ ch:=λb o e hx hb=>by
  rcases(hch b hb).1 with z | z
  ·exact hx z
  ·exact absurd (Ab (AX e) z) (CD _)
 have cellK:∀x c,X.env.cells.lookup x=some c->∀v,s.heap.IsCell c v->h'.IsCell c v:=λx c e v ⟨o,ho,hd⟩=>by
  have oF:c ∉ ch:=λz=>(hch c z).2.2.1 x c e rfl
  by_cases hc:c∈X.fs
  ·obtain⟨sl,q⟩:=slot c o (I.uO x c e) hc oF ho (I.fZ x c e)
   exact⟨_,q,hd⟩
  ·exact⟨o,keep c o (I.uO x c e) hc oF ho (I.fZ x c e),hd⟩
 refine⟨I.ok,I.os,hg,⟨λb o e n hb hx=>?_,λb o e n hb hx=>?_,λb o e n hx=>?_,λb o e hx=>?_,λb xs e=>tups b xs (I.base.tups b xs e),λb o xs e=>kd b o xs (I.base.kd b o xs e),λb ps e=>?_⟩,?_,λx c e=>?_,?_,λx c e=>?_,λp hp=>?_,hok,I.len⟩
 ·exact keep b o (Xn b o e) hb (PF b o e hx) (I.base.keep b o e n hb hx) (I.base.free b o e n hx)
 ·obtain⟨sl,e1⟩:=I.base.slot b o e n hb hx
  obtain⟨sl',e2⟩:=slot b _ (Xn b o e) hb (PF b o e hx) e1 (I.base.free b o e n hx)
  exact⟨sl',e2⟩
 ·obtain⟨o',e1⟩:=I.base.there b o e hx
  exact free b o' (PF b o e hx) e1 (I.base.free b o e n hx)
 ·obtain⟨o',e1⟩:=I.base.there b o e hx
  exact there b o' (PF b o e hx) e1
 ·obtain⟨m1,e1⟩:=I.base.ke b ps e
  obtain⟨m2,e2⟩:=ke b _ e1
  exact⟨m1++m2,by rw[e2,Array.append_assoc]⟩
 ·obtain⟨m,hn,hl⟩:=I.loc
  refine⟨m,ns m hn,λi x v e1 e2 e3=>?_⟩
  obtain⟨u,r,l⟩:=hl i x v e1 e2 e3
  refine⟨u,r,?_⟩
  rcases l with l | ⟨k,c,e,z⟩
  ·exact .inl l
  ·exact .inr ⟨k,c,e,cellK x c e _ z⟩
 ·obtain⟨v,z⟩:=I.cell x c e
  exact⟨v,cellK x c e v z⟩
 ·obtain⟨m,⟨o,_,_,ho,_⟩,_⟩:=I.loc
  exact free _ o (λz=>(hch _ z).2.1 rfl) ho I.free
 ·obtain⟨v,o,ho,hd⟩:=I.cell x c e
  exact free c o (λz=>(hch c z).2.2.1 x c e rfl) ho (I.fZ x c e)
 ·obtain⟨e,n,ne,nf,d⟩:=I.pin p hp
  have oF:p.1 ∉ ch:=λz=>(hch p.1 z).2.2.2 p hp rfl
  exact⟨keep p.1 p.2 ne nf oF e n,free p.1 p.2 oF e n,ne,nf,d⟩
theorem Inv.un{t':Nat}(I:Inv X pins σ H s)(u:Un X.fs [] H H' s.heap h')(hok:dq X.prog X.w H' h'):Inv X pins σ H' {s with heap:=h',toks:=t'}:=by
 obtain⟨m,⟨o,es,ep,ho,r⟩,_⟩:=id I.loc
 obtain⟨sl,hL⟩:=u.any ho I.free (by simp)
 exact I.step (g':=s.gens) (d':=s.drawn) (ch:=[]) (λ_ z=>nomatch z) (λb o _ hb _ e n=>u.keep b o e n hb (by simp)) (λb o _ hb _ e n=>u.slot b o e n hb (by simp)) (λb o _ e n=>u.free b o e n (by simp)) (λb o _ e=>u.there b o e (by simp)) u.tups u.kd u.ke (λm' hm=>by
  obtain⟨o',es',ep',ho',r'⟩:=hm
  rw[ho] at ho';cases ho'
  exact⟨_,es',ep',hL,r'⟩) hok I.bare
theorem Inv.call{g':Array GenState}{t':Nat}{d':Drawn}{ch:List Addr}(I:Inv X pins σ H s)(u:Un (frs X.stack) ch H H' s.heap h')(hok:dq X.prog X.w H' h')(hg:Fq g')
  (hch:∀b∈ch,(b∈X.ex∨X.s₀.heap.objs.size<=b)/\b≠X.env.locals/\(∀x c,X.env.cells.lookup x=some c->c≠b)/\∀p∈X.pn++pins,p.1≠b):
  Inv X pins σ H' {s with heap:=h',gens:=g',drawn:=d',toks:=t'}:=by
 obtain⟨m,⟨o,es,ep,ho,r⟩,_⟩:=id I.loc
 obtain⟨sl,hL⟩:=u.any ho I.free λz=>(hch _ z).2.1 rfl
 exact I.step (ch:=ch) hch (λb o hL hb hc e n=>u.keep b o e n (λz=>(Ak.mp (I.oE b z)).elim hL hb) hc) (λb o _ _ hc e n=>u.any e n hc) (λb o hc e n=>u.free b o e n hc) (λb o hc e=>u.there b o e hc) u.tups u.kd u.ke (λm' hm=>by
  obtain⟨o',es',ep',ho',r'⟩:=hm
  rw[ho] at ho';cases ho'
  exact⟨_,es',ep',hL,r'⟩) hok hg
theorem Inv.turned{t':Nat}{it:Addr}(I:Inv X pins σ H s)(k:∀b o,b≠it->s.heap.get? b=some o->h'.get? b=some o)(hn:H it=none)(hL:it≠X.env.locals)
  (h1:it∈X.ex∨X.s₀.heap.objs.size<=it) (h2:∀x c,X.env.cells.lookup x=some c->c≠it) (h3:∀p∈X.pn++pins,p.1≠it):Inv X pins σ H {s with heap:=h',toks:=t'}:=by
 have Xo:∀b u,H b=some u->b≠it:=λb u e z=>by rw[z,hn] at e;cases e
 refine I.step (g':=s.gens) (d':=s.drawn) (ch:=[it]) (λb hb=>?_) (λb o _ _ hc e _=>k b o (λz=>hc (by simp[z])) e) (λb o _ _ hc e _=>⟨o.slots,k b o (λz=>hc (by simp[z])) e⟩) (λ_ _ _ _ n=>n)
  (λb o hc e=>⟨o,k b o (λz=>hc (by simp[z])) e⟩) (λ_ _ e=>e) (λ_ _ _ e=>e) (λb ps e=>⟨#[],by rw[e];simp⟩) (λm hm=>?_) (λb u e=>?_) I.bare
 ·have e:b=it:=by simpa using hb
  subst e
  exact⟨h1,hL,h2,h3⟩
 ·obtain⟨o,es,ep,ho,r⟩:=hm
  exact⟨o,es,ep,k _ o (Ck hL) ho,r⟩
 ·refine(I.hok b u e).stay (λc v hc q=>k c v ?_ q) (λ_ q=>q) λ_ _ q=>q
  rcases hc with z | z
  ·rw[z];exact Xo b u e
  ·exact Xo c _ z
theorem Inv.tok(I:Inv X pins σ H s)(t:Nat):Inv X pins σ H {s with toks:=t}:=I.un (h':=s.heap) (t':=t) Un.refl I.hok
theorem Inv.kept{t':Nat}(I:Inv X pins σ H s)(k:∀b u,s.heap.get? b=some u->h'.get? b=some u):Inv X pins σ H {s with heap:=h',toks:=t'}:=I.un (Un.kept k) (I.hok.kept k)
theorem Inv.laid{a:Addr}{o:HO}{t':Nat}(I:Inv X pins σ H s)(k:∀b u,s.heap.get? b=some u->h'.get? b=some u)(hp:s.heap.objs.size<=a)(new:bE X.prog X.w (upd H a o) h' a o):
  Inv X pins σ (upd H a o) {s with heap:=h',toks:=t'}:=I.un (Un.laid k hp (I.hok.fresh hp)) (I.hok.laid k hp new)
theorem Inv.write{x e:Addr}{o:HO}{t':Nat}(I:Inv X pins σ H s)(mu:Kt (H x))(he:e=x∨H e=some (.own x))(k:∀b u,b≠e->s.heap.get? b=some u->h'.get? b=some u)(heo:∃u,h'.get? e=some u)
  (new:bE X.prog X.w (upd H x o) h' x o):Inv X pins σ (upd H x o) {s with heap:=h',toks:=t'}:=I.un (Un.write mu he k heo) (I.hok.write mu he k heo new)
theorem Inv.zk{PH:List (Addr×Obj)}(I:Inv X pins σ H s)(h:∀p∈PH,s.heap.get? p.1=some p.2/\H p.1=none/\p.1≠X.env.locals/\p.1 ∉ X.fs/\∀v,p.2.data≠.cell v):Inv X PH σ H s:=
 ⟨I.ok,I.os,I.bare,I.base,I.loc,I.cell,I.free,I.fZ,λp hp=>(AS.mp hp).elim (λz=>I.pin p (C8 _ z)) (h p),I.hok,I.len⟩
theorem wI{N:List Str}(hN:N.Nodup){i j:Nat}{x:Str}(a:N[i]? =some x)(b:N[j]? =some x):i=j:=by
 obtain⟨h1,e1⟩:=AD.mp a
 obtain⟨h2,e2⟩:=AD.mp b
 exact(D1 hN).mp (e1.trans e2.symm)
theorem uP{M:Model}{A:BQ}{E:Value->AN->Prop}{i:Nat}{x:Str}{v:V}{u:Value}{Q:Unit->AN->Prop}(I:Inv X pins σ H s)(hN:X.N.Nodup)(hi:X.N[i]? =some x)(hx:Loc X.env.scope x)(r:RelV v u)
  (h:∀s',Inv X pins (σ.set i (some v)) H s'->(∃a,B8 a s.heap s'.heap/\(a=X.env.locals∨X.env.cells.lookup x=some a))->Q () s') (hf:X.fn x=true∨X.env.scope.names.lookup x=some .local:=by first | exact .inl rfl | exact .inr rfl | assumption):wpAny M A (storeName X.env x u) Q E s:=by
 obtain⟨m,hn,hl⟩:=id I.loc
 have hcls:(X.env.scope.kind == .class||(X.env.scope.kind == .module&&X.env.locals != X.env.globals))=false:=by rw[I.ok.kind];rfl
 have Xp:i<σ.length:=by rw[I.len];exact(AD.mp hi).1
 have uO:=I.uO
 have tracked:∀{a:Addr} {h':Heap},(∃o,s.heap.get? a=some o/\H a=none)->B8 a s.heap h'->dq X.prog X.w H h':=λ{a h'} ha hs b ob e=>by
  obtain⟨_,_,hfree⟩:=ha
  refine(I.hok b ob e).stay (λc w' hc q=>(hs.2 c ?_).trans q) (λ_ q=>q) λ_ _ q=>q
  rintro rfl
  rcases hc with rfl | hc
  ·rw[hfree] at e;cases e
  ·rw[hfree] at hc;cases hc
 rcases hx with hk | hk
 ·refine wpAny_storeName_local hk hn (λh' hn' hs=>?_) hcls
  obtain⟨oL,_,_,hoL,_⟩:=id hn
  refine h _ ⟨I.ok,I.os,I.bare,⟨λb o e n hb hx=>?_,λb o e n hb hx=>?_,I.base.free,λb o e hx=>?_,I.base.tups,I.base.kd,I.base.ke⟩,⟨_,hn',λj y v' e1 e2 e3=>?_⟩,λy c e=>?_,I.free,I.fZ,λp hp=>?_,tracked ⟨oL,hoL,I.free⟩ hs,by simpa using I.len⟩ ⟨_,hs,.inl rfl⟩
  ·exact(hs.2 b (Ap (Ab (AX e) I.ok.above))).trans (I.base.keep b o e n hb hx)
  ·obtain⟨sl,e1⟩:=I.base.slot b o e n hb hx
   exact⟨sl,(hs.2 b (Ap (Ab (AX e) I.ok.above))).trans e1⟩
  ·obtain⟨o',e1⟩:=I.base.there b o e hx
   exact⟨o',(hs.2 b (Ap (Ab (AX e) I.ok.above))).trans e1⟩
  ·by_cases hj:j=i
   ·subst hj
    rw[hi] at e1;cases e1
    rw[B9 Xp] at e2
    cases e2
    exact⟨u,r,.inl ⟨hk,by simp⟩⟩
   ·rw[CJ (Ck hj)] at e2
    obtain⟨u',r',q⟩:=hl j y v' e1 e2 e3
    refine⟨u',r',?_⟩
    rcases q with⟨k,e⟩ | ⟨k,c,e,z⟩
    ·refine .inl ⟨k,?_⟩
     have:y≠x:=λe=>hj (wI hN e1 (e▸hi))
     simp[this,e]
    ·exact .inr ⟨k,c,e,z.sameBut hs (uO y c e)⟩
  ·obtain⟨w',z⟩:=I.cell y c e
   exact⟨w',z.sameBut hs (uO y c e)⟩
  ·obtain⟨e,n,ne,nf,d⟩:=I.pin p hp
   exact⟨(hs.2 p.1 ne).trans e,n,ne,nf,d⟩
 ·have hfn:X.fn x=true:=by
   rcases hf with z | z
   ·exact z
   ·rw[z] at hk;cases hk
  obtain⟨c,hc⟩:=I.ok.has x (.inl hk)
  obtain⟨w',z⟩:=I.cell x c hc
  refine wpAny_storeName_cell I.ok.kind hk hc z (λh' hc' hs=>?_)
  obtain⟨oc,hoc,YX⟩:=id z
  refine h {s with heap:=h'} ⟨I.ok,I.os,I.bare,⟨λb o e n hb hx=>?_,λb o e n hb hx=>?_,I.base.free,λb o e hx=>?_,I.base.tups,I.base.kd,I.base.ke⟩,⟨m,hn.sameBut hs (Ck (uO x c hc)),λj y v' e1 e2 e3=>?_⟩,λy c' e=>?_,I.free,I.fZ,λp hp=>?_,tracked ⟨oc,hoc,I.fZ x c hc⟩ hs,by simpa using I.len⟩ ⟨c,hs,.inr hc⟩
  ·exact(hs.2 b (Ap (Ab (AX e) (I.ok.cab x c hfn hc)))).trans (I.base.keep b o e n hb hx)
  ·obtain⟨sl,e1⟩:=I.base.slot b o e n hb hx
   exact⟨sl,(hs.2 b (Ap (Ab (AX e) (I.ok.cab x c hfn hc)))).trans e1⟩
  ·obtain⟨o',e1⟩:=I.base.there b o e hx
   exact⟨o',(hs.2 b (Ap (Ab (AX e) (I.ok.cab x c hfn hc)))).trans e1⟩
  ·by_cases hj:j=i
   ·subst hj
    rw[hi] at e1;cases e1
    rw[B9 Xp] at e2
    cases e2
    exact⟨u,r,.inr ⟨.inl hk,c,hc,hc'⟩⟩
   ·rw[CJ (Ck hj)] at e2
    obtain⟨u',r',q⟩:=hl j y v' e1 e2 e3
    refine⟨u',r',?_⟩
    rcases q with q | ⟨k,c',e,z'⟩
    ·exact .inl q
    ·refine .inr ⟨k,c',e,z'.sameBut hs ?_⟩
     rintro rfl
     exact hj (wI hN e1 (I.ok.inj _ _ _ e hc▸hi))
  ·by_cases hcc:c'=c
   ·subst hcc;exact⟨_,hc'⟩
   ·obtain⟨w2,z2⟩:=I.cell y c' e
    exact⟨w2,z2.sameBut hs hcc⟩
  ·obtain⟨e,n,ne,nf,d⟩:=I.pin p hp
   refine⟨(hs.2 p.1 ?_).trans e,n,ne,nf,d⟩
   intro q
   rw[q,hoc] at e
   have q':oc=p.2:=AZ e
   exact d w' (by rw[<-q'];exact YX)
theorem mZ{M:Model}{A:BQ}{E:Value->AN->Prop}{i:Nat}{x:Str}{v:V}{u:Value}{Q:Unit->AN->Prop}(I:Inv X pins σ H s)(hN:X.N.Nodup)(hi:X.N[i]? =some x)(hx:Loc X.env.scope x)(r:RelV v u)
  (h:∀s',Inv X pins (σ.set i (some v)) H s'->Q () s') (hf:X.fn x=true∨X.env.scope.names.lookup x=some .local:=by first | exact .inl rfl | exact .inr rfl | assumption):wpAny M A (storeName X.env x u) Q E s:=
 uP I hN hi hx r (λs' I' _=>h s' I') hf
theorem Inv.call'{s':AN}{ch:List Addr}(I:Inv X pins σ H s)(ho:s'.os=s.os)(u:Un (frs X.stack) ch H H' s.heap s'.heap)(hok:dq X.prog X.w H' s'.heap)(hg:Fq s'.gens)
  (hch:∀b∈ch,(b∈X.ex∨X.s₀.heap.objs.size<=b)/\b≠X.env.locals/\(∀x c,X.env.cells.lookup x=some c->c≠b)/\∀p∈X.pn++pins,p.1≠b):Inv X pins σ H' s':=by
 obtain⟨h',g',d',t',o'⟩:=s'
 have e:o'=s.os:=ho
 subst e
 exact I.call (g':=g') (t':=t') (d':=d') u hok hg hch
end
abbrev XK:=Value->Option Addr->Hp->Prop
abbrev St:=List (Option V)
abbrev VK:=V->Hp->Prop
abbrev TE:=St->Hp->VK->Prop
abbrev TT:=St->Hp->(Bool->Hp->Prop)->Prop
abbrev TA:=St->Hp->(List V->Hp->Prop)->Prop
structure Ends where
 nx:St->Hp->Prop
 rt:VK
 bk:St->Hp->Prop:=λ_ _=>False
 ct:St->Hp->Prop:=λ_ _=>False
abbrev TS:=Ends->St->Hp->Prop
def EP(X:Cx)(pins:List (Addr×Obj))(σ:St)(Q:VK)(u:Value)(s':AN):Prop:=∃v H',Inv X pins σ H' s'/\RelV v u/\Q v H'
def TP(X:Cx)(pins:List (Addr×Obj))(σ:St)(Q:Bool->Hp->Prop)(b:Bool)(s':AN):Prop:=∃H',Inv X pins σ H' s'/\Q b H'
def AP(X:Cx)(pins:List (Addr×Obj))(σ:St)(Q:List V->Hp->Prop)(us:List Value)(s':AN):Prop:=∃vs H',Inv X pins σ H' s'/\Vals vs us/\Q vs H'
def SP(X:Cx)(pins:List (Addr×Obj))(D:Ends)(f:Flow)(s':AN):Prop:=
 match f with
 | .next=>∃σ' H',Inv X pins σ' H' s'/\D.nx σ' H'
 | .brk=>∃σ' H',Inv X pins σ' H' s'/\D.bk σ' H'
 | .cont=>∃σ' H',Inv X pins σ' H' s'/\D.ct σ' H'
 | .ret u=>∃v σ' H',Inv X pins σ' H' s'/\RelV v u/\D.rt v H'
def PE(X:Cx)(e:Expr)(t:TE):Prop:=
 ∀(pins:List (Addr×Obj)) (s:AN) (σ:St) (H:Hp) (Q:VK),Inv X pins σ H s->t σ H Q->wpAny (model X.prog X.w) X.A (eval e X.env) (EP X pins σ Q) X.xe s
def PT(X:Cx)(e:Expr)(t:TT):Prop:=
 ∀(pins:List (Addr×Obj)) (s:AN) (σ:St) (H:Hp) (Q:Bool->Hp->Prop),Inv X pins σ H s->t σ H Q->wpAny (model X.prog X.w) X.A (isTrue e X.env (eval e X.env)) (TP X pins σ Q) X.xe s
def PW(X:Cx)(e:Expr)(t:TT):Prop:=
 ∀(whole:Sem Value) (pins:List (Addr×Obj)) (s:AN) (σ:St) (H:Hp) (Q:Bool->Hp->Prop),Inv X pins σ H s->t σ H Q->wpAny (model X.prog X.w) X.A (isTrue e X.env whole) (TP X pins σ Q) X.xe s
theorem PW.pt{X:Cx}{e:Expr}{t:TT}(h:PW X e t):PT X e t:=h _
def PA(X:Cx)(es:List Expr)(t:TA):Prop:=
 ∀(pos:Pos) (pins:List (Addr×Obj)) (s:AN) (σ:St) (H:Hp) (Q:List V->Hp->Prop),Inv X pins σ H s->t σ H Q->wpAny (model X.prog X.w) X.A (spliced (Dr pos (BL es X.env))) (AP X pins σ Q) X.xe s
def PS(X:Cx)(st:Stmt)(t:TS):Prop:=
 ∀(pins:List (Addr×Obj)) (s:AN) (σ:St) (H:Hp) (D:Ends),Inv X pins σ H s->t D σ H->wpAny (model X.prog X.w) X.A (exec st X.env) (SP X pins D) X.xe s
def jE(X:Cx)(st:List Stmt)(t:TS):Prop:=
 ∀(pins:List (Addr×Obj)) (s:AN) (σ:St) (H:Hp) (D:Ends),Inv X pins σ H s->t D σ H->wpAny (model X.prog X.w) X.A (execs st X.env) (SP X pins D) X.xe s
theorem aM{α:Type}{t:Sem α}{Q Q':α->AN->Prop}{M:Model}{A:BQ}{E:Value->AN->Prop}{s:AN}(h:wpAny M A t Q E s)(hQ:∀a s,Q a s->Q' a s):wpAny M A t Q' E s:=B0 h hQ λ_ _ x=>x
section
variable{X:Cx}
def NH(i:Nat):TE:=λσ H Q=>∃v,σ[i]? =some (some v)/\Q v H
def tC(v:V):TE:=λ_ H Q=>Q v H
theorem Sq{i:Nat}{x:Str}{pos:Pos}(hN:X.N[i]? =some x)(hv:zj X.env.scope x)(hd:(x == ("__debug__":Str))=false:=by decide)(hcd:(x == ("__classdict__":Str))=false:=by decide):PE X (.Name x pos) (NH i):=by
 intro pins s σ H Q I h
 obtain⟨v,e,h⟩:=h
 obtain⟨m,hn,hl⟩:=I.loc
 obtain⟨u,r,l⟩:=hl i x v hN e hv
 have fin:EP X pins σ Q u s:=⟨v,H,I,r,h⟩
 rcases l with⟨hk,hm⟩ | ⟨hk,c,hc,hcell⟩
 ·exact FO (wpAny_loadName_local I.ok.kind hk hn hm fin) hd
 ·rcases hk with hk | hk
  ·exact FO (wpAny_loadName_cell I.ok.kind hk hc hcell fin) hd
  ·exact FO (wpAny_loadName_free I.ok.kind hk hc hcell fin hcd) hd
theorem ak{i j pos}:PE X (.Constant (.int i) j pos) (tC (.int i)):=λ_ _ _ H _ I h=>wpAny_Constant_int ⟨.int i,H,I.tok _,⟨_,rfl⟩,h⟩
theorem kU{b j pos}:PE X (.Constant (.bool b) j pos) (tC (.bl b)):=λ_ _ _ H _ I h=>Constant_bool ⟨.bl b,H,I,rfl,h⟩
theorem ia{j pos}:PE X (.Constant .none j pos) (tC .non):=λ_ _ _ H _ I h=>Constant_none ⟨.non,H,I,rfl,h⟩
theorem cq{x j pos}:PE X (.Constant (.str x) j pos) (tC (.str x)):=λ_ _ _ H _ I h=>Calls.Constant_str ⟨.str x,H,I.tok _,⟨_,rfl⟩,h⟩
def Gl(X:Cx)(x:Str):Prop:=X.env.kindOf x=some .globalImplicit
theorem zl{E:Value->AN->Prop}{pins:List (Addr×Obj)}{s:AN}{σ:St}{H:Hp}{x:Str}{u:Value}{pos:Pos}{Q:Value->AN->Prop}(I:Inv X pins σ H s)(hg:Gl X x)(hm:X.mg x=some u)(h:Q u s)
  (hd:(x == ("__debug__":Str))=false:=by decide):wpAny (model X.prog X.w) X.A (eval (.Name x pos) X.env) Q E s:=
 FP I.ok.kind hg (Calls.loadGlobal_global (by rw[I.ok.glob];exact I.mod.glob.keeps I.bk) hm h) hd
theorem i'{E:Value->AN->Prop}{pins:List (Addr×Obj)}{s:AN}{σ:St}{H:Hp}{x:Str}{u:Value}{pos:Pos}{Q:Value->AN->Prop}(I:Inv X pins σ H s)(hg:Gl X x)(hm:X.mg x=none)(hv:Bg x=some u)(h:Q u s)
  (hn:x≠"__name__":=by decide) (hd:(x == ("__debug__":Str))=false:=by decide):wpAny (model X.prog X.w) X.A (eval (.Name x pos) X.env) Q E s:=by
 obtain⟨mb,h1,h2⟩:=I.mod.blt
 exact FP I.ok.kind hg (Calls.loadGlobal_builtin (by rw[I.ok.glob];exact I.mod.glob.keeps I.bk) hm (by rw[I.ok.blt];exact h1.keeps I.bk) ((h2 x hn).trans hv) h) hd
theorem fB{x:Str}{v:V}{u:Value}{pos:Pos}(hg:Gl X x)(hm:X.mg x=none)(hv:Bg x=some u)(r:RelV v u)(hn:x≠"__name__":=by decide)(hd:(x == ("__debug__":Str))=false:=by decide):PE X (.Name x pos) (tC v):=
 λ_ _ _ H _ I h=>i' I hg hm hv ⟨v,H,I,r,h⟩ hn hd
variable{a b:Expr}{ta tb:TE}{pos:Pos}
def PC(X:Cx)(op:CmpOp)(a b:Expr)(t:TE):Prop:=
 ∀(pins:List (Addr×Obj)) (s:AN) (σ:St) (H:Hp) (Q:VK),Inv X pins σ H s->t σ H Q->
  wpAny (model X.prog X.w) X.A (eval a X.env) (λv s₁=>wpAny (model X.prog X.w) X.A (eval b X.env) (λu s₂=>wpAny (model X.prog X.w) X.A (CB op v u) (EP X pins σ Q) X.xe s₂) X.xe s₁) X.xe s
def tB(t:TE):TT:=λσ H Q=>t σ H λx H1=>∃c,x=.bl c/\Q c H1
theorem Ku{op:CmpOp}{t:TE}(h:PC X op a b t)(h1:behindInMarks op b=false:=by first | exact YY _ (by decide) (by decide) | rfl):PT X (.Compare a [op] [b] pos) (tB t):=by
 intro pins s σ H Q I hw
 refine wpAny_isTrue_Compare1 (aM (h pins s σ H _ I hw) λv s1 h1=>aM h1 λu s2 h2=>aM h2 λc s3 ⟨x,H1,I1,r1,q1⟩=>?_) h1
 obtain⟨d,rfl,q⟩:=q1
 cases r1
 exact B2 ⟨H1,I1,q⟩
variable{tA PJ:TT}{rest:List Expr}
def YZ(t u:TT):TT:=λσ H Q=>t σ H λc H1=>if c=true then u σ H1 Q else Q false H1
def tOr(t u:TT):TT:=λσ H Q=>t σ H λc H1=>if c=true then Q true H1 else u σ H1 Q
def Y_(t:TT):TT:=λσ H Q=>t σ H λc H1=>Q (!c) H1
theorem tG(ha:PT X a tA):PW X (.BoolOp .And [a] pos) tA:=by
 intro wh pins s σ H Q I h
 refine isTrue_and (aM (ha pins s σ H Q I h) λc s1 e=>?_)
 cases c with
 | true=>exact isTrue_and_nil e
 | false=>exact e
theorem oG(ha:PT X a tA):PW X (.BoolOp .Or [a] pos) tA:=by
 intro wh pins s σ H Q I h
 refine isTrue_or (aM (ha pins s σ H Q I h) λc s1 e=>?_)
 cases c with
 | false=>exact isTrue_or_nil e
 | true=>exact e
theorem wJ(ha:PT X a tA)(hb:PW X (.BoolOp .And (b::rest) pos) PJ):PW X (.BoolOp .And (a::b::rest) pos) (YZ tA PJ):=by
 intro wh pins s σ H Q I h
 refine isTrue_and (aM (ha pins s σ H _ I h) λc s1 ⟨H1,I1,q1⟩=>?_)
 cases c with
 | true=>exact hb wh pins s1 σ H1 Q I1 q1
 | false=>exact⟨H1,I1,q1⟩
theorem rj(ha:PT X a tA)(hb:PW X (.BoolOp .Or (b::rest) pos) PJ):PW X (.BoolOp .Or (a::b::rest) pos) (tOr tA PJ):=by
 intro wh pins s σ H Q I h
 refine isTrue_or (aM (ha pins s σ H _ I h) λc s1 ⟨H1,I1,q1⟩=>?_)
 cases c with
 | true=>exact⟨H1,I1,q1⟩
 | false=>exact hb wh pins s1 σ H1 Q I1 q1
theorem wK(ha:PT X a tA):PT X (.UnaryOp .Not a pos) (Y_ tA):=by
 intro pins s σ H Q I h
 exact isTrue_not (ha pins s σ H (λc H1=>Q (!c) H1) I h)
def Wq(ta tb:TE):TE:=λσ H Q=>ta σ H λx H1=>∃c,x=.bl c/\if c=true then tb σ H1 Q else Q (.bl false) H1
def Y0(ta tb:TE):TE:=λσ H Q=>ta σ H λx H1=>∃c,x=.bl c/\if c=true then Q (.bl true) H1 else tb σ H1 Q
def Wr(ta:TE):TE:=λσ H Q=>ta σ H λx H1=>∃c,x=.bl c/\Q (.bl (!c)) H1
theorem Kv{op}{t:TE}(h:PE X a t):PE X (.BoolOp op [a] pos) t:=λpins s σ H Q I hw=>BoolOp_one (h pins s σ H Q I hw)
theorem Sr(ha:PE X a ta)(hb:PE X (.BoolOp .And (b::rest) pos) tb):PE X (.BoolOp .And (a::b::rest) pos) (Wq ta tb):=by
 intro pins s σ H Q I h
 refine BoolOp_and (aM (ha pins s σ H _ I h) λv s1 ⟨x,H1,I1,r1,q1⟩=>?_)
 obtain⟨c,rfl,q1⟩:=q1
 cases r1
 refine B2 ?_
 cases c with
 | true=>exact hb pins s1 σ H1 Q I1 q1
 | false=>exact⟨.bl false,H1,I1,rfl,q1⟩
theorem Ws(ha:PE X a ta)(hb:PE X (.BoolOp .Or (b::rest) pos) tb):PE X (.BoolOp .Or (a::b::rest) pos) (Y0 ta tb):=by
 intro pins s σ H Q I h
 refine BoolOp_or (aM (ha pins s σ H _ I h) λv s1 ⟨x,H1,I1,r1,q1⟩=>?_)
 obtain⟨c,rfl,q1⟩:=q1
 cases r1
 refine B2 ?_
 cases c with
 | false=>exact hb pins s1 σ H1 Q I1 q1
 | true=>exact⟨.bl true,H1,I1,rfl,q1⟩
theorem Kw(ha:PE X a ta):PE X (.UnaryOp .Not a pos) (Wr ta):=by
 intro pins s σ H Q I h
 refine UnaryOp_ (aM (ha pins s σ H _ I h) λv s1 ⟨x,H1,I1,r1,q1⟩=>?_)
 obtain⟨c,rfl,q1⟩:=q1
 cases r1
 exact not_of (B2 ⟨.bl (!c),H1,I1,rfl,q1⟩)
end
def bC(K:AE)(H:Hp)(a:Addr)(xs:List V):Prop:=
 Rd H a (.lst xs)∨
  ∃(o:Obj) (its:Array Value) (n:Nat),K.lookup a=some o/\o.cls=.type "list"/\o.dict=none/\o.data=.seq its n/\its.size<=sizeLine/\Vals xs its.toList
def bN(K:AE)(H:Hp)(a:Addr)(xs:List V):Prop:=
 Rd H a (.tup xs)∨
  ∃(o:Obj) (its:Array Value) (n:Nat),K.lookup a=some o/\o.cls=.type "tuple"/\o.data=.seq its n/\its.size<=sizeLine/\Vals xs its.toList
def Y1:Value->Option V
 | .none=>some .non
 | .bool b=>some (.bl b)
 | .int i _=>some (.int i)
 | .str x _=>some (.str x)
 | .bytes b _=>some (.j9 b)
 | .float b _=>some (.flt b)
 | .ref a=>some (.ref a)
 | .type n=>some (.ty n)
 | _=>none
theorem RelV.abs{x:V}{u:Value}(r:RelV x u):Y1 u=some x:=by
 cases x with
 | non=>cases r;rfl
 | bl _=>cases r;rfl
 | int _=>obtain⟨t,rfl⟩:=r;rfl
 | str _=>obtain⟨t,rfl⟩:=r;rfl
 | j9 _=>obtain⟨t,rfl⟩:=r;rfl
 | flt _=>obtain⟨t,rfl⟩:=r;rfl
 | ref _=>cases r;rfl
 | ty _=>cases r;rfl
theorem RelV.inj{x y:V}{u:Value}(r:RelV x u)(q:RelV y u):x=y:=AZ (r.abs.symm.trans q.abs)
theorem Vals.inj:∀{xs ys:List V} {us:List Value},Vals xs us->Vals ys us->xs=ys
 | _,_,_,.nil,.nil=>rfl
 | _,_,_,.cons r t,.cons r' t'=>by rw[r.inj r',Vals.inj t t']
section
variable{X:Cx}{pins:List (Addr×Obj)}{σ:St}{H:Hp}{s:AN}{a:Addr}{xs ys:List V}
theorem bC.of{K:AE}(h:H a=some (.lst xs)):bC K H a xs:=.inl (.inl h)
theorem bN.of{K:AE}(h:H a=some (.tup xs)):bN K H a xs:=.inl (.inl h)
theorem Inv.list(I:Inv X pins σ H s)(h:bC X.K H a xs):∃its:List Value,Vals xs its/\PlainL s.heap a its.toArray/\xs.length<=sizeLine:=by
 rcases h with h | ⟨o,its,n,hk,hc,hd,hs,hz,r⟩
 ·obtain⟨z,its,n,r,e⟩:=h.ok I.hok
  exact⟨its,r,⟨_,n,e,rfl,rfl,rfl⟩,z⟩
 ·refine⟨its.toList,r,⟨o,n,I.h_ a o hk,hc,hd,by simpa using hs⟩,?_⟩
  have e:=r.length
  simp only[BN] at e
  omega
theorem Inv.tuple(I:Inv X pins σ H s)(h:bN X.K H a xs):∃its:List Value,Vals xs its/\IsTup s.heap a its.toArray/\xs.length<=sizeLine:=by
 rcases h with h | ⟨o,its,n,hk,hc,hs,hz,r⟩
 ·obtain⟨z,its,r,p⟩:=h.ok I.hok
  exact⟨its,r,p,z.1⟩
 ·refine⟨its.toList,r,⟨o,I.h_ a o hk,hc,n,by simpa using hs⟩,?_⟩
  have e:=r.length
  simp only[BN] at e
  omega
theorem Inv.kg(I:Inv X pins σ H s)(h:bC X.K H a xs)(h':bC X.K H a ys):xs=ys:=by
 obtain⟨its,r,⟨o,n,e,_,_,d⟩,_⟩:=I.list h
 obtain⟨its',r',⟨o',n',e',_,_,d'⟩,_⟩:=I.list h'
 rw[e] at e';cases e'
 rw[d] at d'
 injection d' with d1 _
 have:its=its':=by simpa using congrArg Hf d1
 subst this
 exact r.inj r'
theorem Inv.ja(I:Inv X pins σ H s)(h:bN X.K H a xs)(h':bN X.K H a ys):xs=ys:=by
 obtain⟨its,r,⟨o,e,_,n,d⟩,_⟩:=I.tuple h
 obtain⟨its',r',⟨o',e',_,n',d'⟩,_⟩:=I.tuple h'
 rw[e] at e';cases e'
 rw[d] at d'
 injection d' with d1 _
 have:its=its':=by simpa using congrArg Hf d1
 subst this
 exact r.inj r'
end
abbrev Cx.wish (X:Cx)(E:Value->AN->Prop):Cx:={X with xe:=E}
abbrev Cx.qc (X:Cx):Cx:=X.wish λ_ _=>False
theorem Cx.Ok.wish{X:Cx}(ok:X.Ok)(E:Value->AN->Prop):(X.wish E).Ok:=
 ⟨ok.mod,ok.kind,ok.glob,ok.blt,ok.above,ok.inj,ok.has,ok.cab,ok.hd,ok.frames,ok.stk,ok.Sn,ok.bs,ok.oC,ok.wG,ok.wH,ok.hV,ok.uN⟩
theorem Cx.Ok.ib{X:Cx}{E:Value->AN->Prop}(ok:(X.wish E).Ok):X.Ok:=
 ⟨ok.mod,ok.kind,ok.glob,ok.blt,ok.above,ok.inj,ok.has,ok.cab,ok.hd,ok.frames,ok.stk,ok.Sn,ok.bs,ok.oC,ok.wG,ok.wH,ok.hV,ok.uN⟩
section
variable{X:Cx}{pins:List (Addr×Obj)}{σ:St}{H:Hp}{s:AN}{E:Value->AN->Prop}
theorem Inv.wish(I:Inv X pins σ H s)(E:Value->AN->Prop):Inv (X.wish E) pins σ H s:=⟨I.ok.wish E,I.os,I.bare,I.base,I.loc,I.cell,I.free,I.fZ,I.pin,I.hok,I.len⟩
theorem Inv.ib(I:Inv (X.wish E) pins σ H s):Inv X pins σ H s:=⟨I.ok.ib,I.os,I.bare,I.base,I.loc,I.cell,I.free,I.fZ,I.pin,I.hok,I.len⟩
theorem SP.ib{D:Ends}{f:Flow}{s':AN}(h:SP (X.wish E) pins D f s'):SP X pins D f s':=by
 cases f with
 | next=>obtain⟨σ',H',I,q⟩:=h;exact⟨σ',H',I.ib,q⟩
 | brk=>obtain⟨σ',H',I,q⟩:=h;exact⟨σ',H',I.ib,q⟩
 | cont=>obtain⟨σ',H',I,q⟩:=h;exact⟨σ',H',I.ib,q⟩
 | ret u=>obtain⟨v,σ',H',I,r,q⟩:=h;exact⟨v,σ',H',I.ib,r,q⟩
theorem jE.qc{st:List Stmt}{t:TS}(h:jE X.qc st t):jE X st t:=λpins s σ H D I hw=>
 B0 (h pins s σ H D (I.wish _) hw) (λ_ _ q=>q.ib) λ_ _ z=>Bt z
end
section
variable{X:Cx}{st:Stmt}{rest:List Stmt}{t u:TS}{e:Expr}{te:TE}{pos:Pos}
def jJ:TS:=λD σ H=>D.nx σ H
def md(t u:TS):TS:=λD σ H=>t {D with nx:=u D} σ H
theorem bQ:jE X [] jJ:=λ_ _ σ H _ I h=>E5 ⟨σ,H,I,h⟩
theorem ah(h1:PS X st t)(h2:jE X rest u):jE X (st::rest) (md t u):=by
 intro pins s σ H D I h
 refine Em (aM (h1 pins s σ H {D with nx:=u D} I h) λf s1 q=>?_)
 cases f with
 | next=>
  obtain⟨σ',H',I',q⟩:=q
  exact h2 pins s1 σ' H' D I' q
 | ret v=>exact q
 | brk=>exact q
 | cont=>exact q
theorem au(h1:PS X st t):jE X [st] t:=by
 intro pins s σ H D I h
 refine Em (aM (h1 pins s σ H D I h) λf s1 q=>?_)
 cases f with
 | next=>exact E5 q
 | ret v=>exact q
 | brk=>exact q
 | cont=>exact q
theorem Inv.quiet{pins:List (Addr×Obj)}{σ:St}{H:Hp}{s:AN}(I:Inv X pins σ H s):interactive X.env=false:=by simp[interactive,I.ok.kind]
def IW(te:TE):TS:=λD σ H=>te σ H λ_ H1=>D.nx σ H1
theorem bG(he:PE X e te)(hs:swapsWith e none pos.line X.env=pure false:=by rfl):PS X (.Expr e pos) (IW te):=by
 intro pins s σ H D I h
 exact wpAny_Expr_any (aM (he pins s σ H _ I h) λv s1 ⟨x,H1,I1,r1,q1⟩=>⟨σ,H1,I1,q1⟩) I.quiet hs
def Y4(te:TE):TS:=λD σ H=>te σ H D.rt
theorem aO(he:PE X e te):PS X (.Return (some e) pos) (Y4 te):=by
 intro pins s σ H D I h
 exact wpAny_Return_some (aM (he pins s σ H _ I h) λv s1 ⟨x,H1,I1,r1,q1⟩=>⟨x,σ,H1,I1,r1,q1⟩)
def kh(c:TT)(t u:TS):TS:=λD σ H=>c σ H λb H1=>if b=true then t D σ H1 else u D σ H1
theorem cM{c:Expr}{a b:List Stmt}{tc:TT}(hc:PT X c tc)(ha:jE X a t)(hb:jE X b u):PS X (.If c a b pos) (kh tc t u):=by
 intro pins s σ H D I h
 refine wpAny_If (aM (hc pins s σ H _ I h) λd s1 ⟨H1,I1,q1⟩=>?_)
 cases d with
 | true=>exact ha pins s1 σ H1 D I1 q1
 | false=>exact hb pins s1 σ H1 D I1 q1
end
abbrev TG:=V->St->Hp->(St->Hp->Prop)->Prop
abbrev uQ:=List V->St->Hp->(St->Hp->Prop)->Prop
def PG(X:Cx)(target:Expr)(t:TG):Prop:=
 ∀(pins:List (Addr×Obj)) (s:AN) (σ:St) (H:Hp) (v:V) (u:Value) (Q:St->Hp->Prop),Inv X pins σ H s->RelV v u->t v σ H Q->
  wpAny (model X.prog X.w) X.A (assign target X.env u) (λ_ s'=>∃σ' H',Inv X pins σ' H' s'/\Q σ' H') X.xe s
def Kx(X:Cx)(ts:List Expr)(t:uQ):Prop:=
 ∀(pins:List (Addr×Obj)) (s:AN) (σ:St) (H:Hp) (vs:List V) (us:List Value) (Q:St->Hp->Prop),Inv X pins σ H s->Vals vs us->t vs σ H Q->
  wpAny (model X.prog X.w) X.A (assignInOrder ((EL ts X.env).map (·.2)) us) (λ_ s'=>∃σ' H',Inv X pins σ' H' s'/\Q σ' H') X.xe s
abbrev NI:=V->V->V->Hp->(Hp->Prop)->Prop
def Ss(X:Cx)(t:NI):Prop:=
 ∀(pins:List (Addr×Obj)) (s:AN) (σ:St) (H:Hp) (o i v:V) (ov iv u:Value) (Q:Hp->Prop),Inv X pins σ H s->RelV o ov->RelV i iv->RelV v u->t o i v H Q->
  wpAny (model X.prog X.w) X.A (setItem ov iv u) (λ_ s'=>∃H',Inv X pins σ H' s'/\Q H') X.xe s
section
variable{X:Cx}{pos:Pos}
def az(i:Nat):TG:=λv σ H Q=>Q (σ.set i (some v)) H
theorem ay{i:Nat}{x:Str}(hN:X.N.Nodup)(hi:X.N[i]? =some x)(hx:Loc X.env.scope x)(hf:X.fn x=true∨X.env.scope.names.lookup x=some .local:=by first | exact .inl rfl | exact .inr rfl | assumption):PG X (.Name x pos) (az i):=by
 intro pins s σ H v u Q I r h
 exact wpAny_assign_Name (mZ I hN hi hx r (λs' I'=>⟨_,H,I',h⟩) hf)
def Y5:uQ:=λvs σ H Q=>vs=[]/\Q σ H
def Wt(t:TG)(u:uQ):uQ:=λvs σ H Q=>∃v r,vs=v::r/\t v σ H λσ' H'=>u r σ' H' Q
theorem jZ:Kx X [] Y5:=by
 intro pins s σ H vs us Q I r h
 obtain⟨e,h⟩:=h
 subst e
 cases r
 exact assignInOrder_nil ⟨σ,H,I,h⟩
theorem dD{e:Expr}{es:List Expr}{t:TG}{u:uQ}(h1:PG X e t)(h2:Kx X es u)
  (hs:(EL (e::es) X.env).map (·.2)=assign e X.env::(EL es X.env).map (·.2):=by rfl):Kx X (e::es) (Wt t u):=by
 intro pins s σ H vs us Q I r h
 obtain⟨v,vr,e1,h⟩:=h
 subst e1
 cases r with
 | cons r rr=>
  rw[hs]
  refine assignInOrder_cons (aM (h1 pins s σ H _ _ _ I r h) λ_ s1 ⟨σ1,H1,I1,q1⟩=>?_)
  exact h2 pins s1 σ1 H1 _ _ Q I1 rr q1
def Sv(K:AE)(n:Nat)(t:uQ):TG:=λv σ H Q=>∃a xs,v=.ref a/\bN K H a xs/\xs.length=n/\t xs σ H Q
theorem oH{es:List Expr}{k:Nat}{t:uQ}{n:Nat}(hc:X.calm=true)(h:Kx X es t)
  (hn:(EL es X.env).length=n:=by rfl) (hst:(EL es X.env).findIdx? (·.1)=none:=by rfl):PG X (.Tuple es k pos) (Sv X.K n t):=by
 intro pins s σ H v u Q I r hw
 obtain⟨a,xs,e1,hq,hl,hw⟩:=hw
 subst e1
 cases r
 obtain⟨its,rv,ht,hz⟩:=I.tuple hq
 refine assign_Tuple_tuple (I.ok.hd hc) ht (by simp[hn,<-hl,rv.length]) hst λh' hx=>?_
 have I1:Inv X pins σ H {s with heap:=h'}:=I.kept (t':=s.toks) λb o e=>hx b o (Ap (AX e)) e
 exact h pins _ σ H xs _ Q I1 (by simpa using rv) hw
def Y6(to ti:TE)(t:NI):TG:=λv σ H Q=>to σ H λo H1=>ti σ H1 λi H2=>t o i v H2 λH3=>Q σ H3
theorem Ky{o i:Expr}{to ti:TE}{t:NI}(ho:PE X o to)(hi:PE X i ti)(hs:Ss X t)
  (ha:∀v,assign (.Subscript o i pos) X.env v=(do
   let ov <-holding [v] (eval o X.env)
   let iv <-holding [v,ov] (eval i X.env)
   standAt pos
   holding [v,ov,iv] (setItem ov iv v)
   release [v,ov,iv] []):=by intro _;rfl):PG X (.Subscript o i pos) (Y6 to ti t):=by
 intro pins s σ H v u Q I r h
 rw[ha]
 refine AB (Bj (aM (ho pins s σ H _ I h) λov s1 ⟨x,H1,I1,r1,q1⟩=>?_))
 refine AB (Bj (aM (hi pins s1 σ H1 _ I1 q1) λiv s2 ⟨y,H2,I2,r2,q2⟩=>?_))
 refine AB (F' (AB (Bj (aM (hs pins s2 σ H2 x y v ov iv u _ I2 r1 r2 r q2) λ_ s3 ⟨H3,I3,q3⟩=>?_))))
 exact wpAny_release ⟨σ,H3,I3,q3⟩
def gM(te:TE)(g:TG):TS:=λD σ H=>te σ H λx H1=>g x σ H1 D.nx
theorem rl{tg e:Expr}{te:TE}{g:TG}(he:PE X e te)(hg:PG X tg g)(hs:swapsWithSole [tg] e pos.line X.env=pure false:=by rfl)(hw:swappedStores [tg] e X.env=pure none:=by rfl)
  (h1:(EL [tg] X.env).map (·.2)=[assign tg X.env]:=by rfl):PS X (.Assign [tg] e pos) (gM te g):=by
 intro pins s σ H D I h
 refine wpAny_Assign_stores (aM (he pins s σ H _ I h) λv s1 ⟨x,H1,I1,r1,q1⟩=>?_) hs hw
 rw[h1]
 exact aM (hg pins s1 σ H1 x v _ I1 r1 q1) λ_ s2 q=>q
theorem av{i:Nat}{x:Str}{e:Expr}{te:TE}{pos':Pos}(hN:X.N.Nodup)(hi:X.N[i]? =some x)(hx:Loc X.env.scope x)(he:PE X e te)(hs:swapsWith e (some (.Name x pos')) pos.line X.env=pure false:=by rfl)(hf:X.fn x=true∨X.env.scope.names.lookup x=some .local:=by first | exact .inl rfl | exact .inr rfl | assumption):
  PS X (.Assign [.Name x pos'] e pos) (gM te (az i)):=by
 intro pins s σ H D I h
 refine wpAny_Assign_Name (aM (he pins s σ H _ I h) λv s1 ⟨y,H1,I1,r1,q1⟩=>?_) hs
 exact mZ I1 hN hi hx r1 (λs2 I2=>⟨_,H1,I2,q1⟩) hf
def oI(c:TT)(tb:TS):TS:=λD σ H=>∃W:Nat->St->Hp->Prop,(∃m,W m σ H)/\∀m σ H,W m σ H->
 c σ H λb H1=>if b=true then ∃N:St->Hp->Prop,(∀σ' H',N σ' H'->∃m',m'<m/\W m' σ' H')/\tb {D with nx:=N,ct:=N,bk:=D.nx} σ H1 else D.nx σ H1
theorem fg{c:Expr}{body:List Stmt}{tc:TT}{tb:TS}(hp:PassesOwn (model X.prog X.w) X.A X.env X.xe)(hc:PT X c tc)(hb:jE X body tb):PS X (.While c body [] pos) (oI tc tb):=by
 intro pins s σ H D I h
 obtain⟨W,⟨m0,w0⟩,turn⟩:=h
 refine wpAny_While (codeAny_whileLoop (λn s'=>∃σ' H',Inv X pins σ' H' s'/\W n σ' H') ?_ m0 ⟨σ,H,I,w0⟩)
 rintro n s1 ⟨σ1,H1,I1,w1⟩
 refine C6 hp (aM (hc pins s1 σ1 H1 _ I1 (turn n σ1 H1 w1)) λb s2 ⟨H2,I2,q2⟩=>?_)
 cases b with
 | true=>
  obtain⟨N,hN,q2⟩:=q2
  rw[if_pos rfl]
  refine C6 hp (aM (hb pins s2 σ1 H2 _ I2 q2) λf s3 q3=>?_)
  cases f with
  | next=>
   obtain⟨σ3,H3,I3,n3⟩:=q3
   obtain⟨m',hm,w3⟩:=hN σ3 H3 n3
   exact⟨m',hm,σ3,H3,I3,w3⟩
  | cont=>
   obtain⟨σ3,H3,I3,n3⟩:=q3
   obtain⟨m',hm,w3⟩:=hN σ3 H3 n3
   exact⟨m',hm,σ3,H3,I3,w3⟩
  | brk=>exact q3
  | ret v=>exact q3
 | false=>
  rw[if_neg An]
  exact E5 ⟨σ1,H2,I2,q2⟩
end
structure It where
 go:Nat->Hp->Prop
 oJ:Nat->Hp->V->Hp->Prop
 stop:Nat->Hp->Prop
def gy(X:Cx)(pins:List (Addr×Obj))(H:Hp)(b:Addr):Prop:=
 H b=none/\b≠X.env.locals/\b ∉ X.fs/\(b∈X.ex∨X.s₀.heap.objs.size<=b)/\(∀x c,X.env.cells.lookup x=some c->c≠b)/\∀p∈X.pn++pins,p.1≠b
theorem Inv.iE{X:Cx}{pins:List (Addr×Obj)}{σ:St}{H H':Hp}{s:AN}{b:Addr}(I:Inv X pins σ H s)(hb:s.heap.objs.size<=b)(hn:H' b=none):gy X pins H' b:=by
 refine⟨hn,Cm (Ab I.lt hb),I.YW hb,.inr (BH I.sz hb),λx c e z=>?_,λp hp z=>?_⟩
 ·obtain⟨v,q⟩:=I.cell x c e
  exact absurd (Ab q.lt (by rw[z];exact hb)) (CD _)
 ·exact absurd (Ab (AX (I.pin p hp).1) (by rw[z];exact hb)) (CD _)
structure Turn (P:Az)(w:World)(K:AE)(tg:Expr)(J:It)(fp:List Addr)(it:Addr)(tn:Nat->Heap->Prop):Prop where
 mem:it∈fp
 obj:∀i h,tn i h->∀b∈fp,∃o,h.get? b=some o/\∀v,o.data≠.cell v
 keep:∀i h h',tn i h->(∀b∈fp,∀o,h.get? b=some o->h'.get? b=some o)->tn i h'
 item:∀(X:Cx),X.prog=P->X.w=w->X.K=K->X.calm=true->∀(i:Nat) (pins:List (Addr×Obj)) (s:AN) (σ:St) (H:Hp) (E:Value->AN->Prop),Inv X pins σ H s->(∀b∈fp,gy X pins H b)->tn i s.heap->J.go i H->
  wpAny (model P w) X.A (D9 (.ref it)) (λr s1=>∃u,r=some u/\
   wpAny (model P w) X.A (E6 tg (.ref it) u) (λ_ s2=>∃x H',Inv X pins σ H' s2/\RelV x u/\J.oJ i H x H'/\tn (i+1) s2.heap/\∀b∈fp,H' b=none) E s1) E s
 done:∀(X:Cx),X.prog=P->X.w=w->X.K=K->X.calm=true->∀(i:Nat) (pins:List (Addr×Obj)) (s:AN) (σ:St) (H:Hp) (E:Value->AN->Prop),Inv X pins σ H s->(∀b∈fp,gy X pins H b)->tn i s.heap->J.stop i H->
  wpAny (model P w) X.A (D9 (.ref it)) (λr s1=>r=none/\Inv X pins σ H s1) E s
 self:∀(A:BQ) (i:Nat) (s:AN) (Q:Value->AN->Prop) (E:Value->AN->Prop),tn i s.heap->Q (.ref it) s->wpAny (model P w) A (pyIter (.ref it)) Q E s
abbrev TI:=St->Hp->(It->Hp->Prop)->Prop
def PIE(X:Cx)(pins:List (Addr×Obj))(σ:St)(tg:Expr)(R:It->Hp->Prop)(itv:Value)(s2:AN):Prop:=
 ∃(it:Addr) (fp:List Addr) (tn:Nat->Heap->Prop) (J:It) (H':Hp),itv=.ref it/\Inv X pins σ H' s2/\Turn X.prog X.w X.K tg J fp it tn/\tn 0 s2.heap/\(∀b∈fp,gy X pins H' b)/\R J H'
def PI(X:Cx)(tg iter:Expr)(wi:TI):Prop:=
 ∀(pins:List (Addr×Obj)) (s:AN) (σ:St) (H:Hp) (R:It->Hp->Prop),Inv X pins σ H s->wi σ H R->
  wpAny (model X.prog X.w) X.A (eval iter X.env) (λv s1=>wpAny (model X.prog X.w) X.A (pyIter v) (PIE X pins σ tg R) X.xe s1) X.xe s
theorem rm{M:Model}{A:BQ}{E:Value->AN->Prop}{s:AN}{tg:Expr}{it:Addr}{u:Value}{o:Obj}{n:String}{vs:Array Value}{Q:Unit->AN->Prop}(ho:s.heap.get? it=some o)(hc:o.cls=.type n)(hd:o.data=.fields vs)
  (hn:["enumerate","zip","dict_itemiterator","dict_reverseitemiterator","odict_iterator","itertools.zip_longest","itertools.pairwise"].contains n=false) (hQ:Q () s):wpAny M A (E6 tg (.ref it) u) Q E s:=by
 unfold E6
 cases tg<;>first
  | exact AK hQ
  | (cases u<;>first
    | exact AK hQ
    | (refine AB (wpAny_load ho ?_)
       rw[hc,hd]
       show wpAny M A (if(["enumerate","zip","dict_itemiterator","dict_reverseitemiterator","odict_iterator","itertools.zip_longest","itertools.pairwise"].contains n&&vs[0]? == some (A7 _))=true then _ else _) Q E s
       rw[if_neg (by intro h;rw[hn,Bool.false_and] at h;cases h)]
       exact AK hQ))
def wL(K:AE)(a:Addr):It:=
 ⟨λi H=>∃xs x,bC K H a xs/\xs[i]? =some x,λi H x H'=>H'=H/\∀xs,bC K H a xs->xs[i]? =some x,λi H=>∃xs,bC K H a xs/\xs.length<=i⟩
def uR(K:AE)(a:Addr):It:=
 ⟨λi H=>∃xs x,bN K H a xs/\xs[i]? =some x,λi H x H'=>H'=H/\∀xs,bN K H a xs->xs[i]? =some x,λi H=>∃xs,bN K H a xs/\xs.length<=i⟩
def uS(lo:Int)(n:Nat):It:=⟨λi _=>i<n,λi H x H'=>H'=H/\x=.int (lo+i),λi _=>n<=i⟩
theorem Kz{P:Az}{w:World}{K:AE}{tg:Expr}(a it:Addr):Turn P w K tg (wL K a) [it] it (λi h=>h.IsListIter it a i) where
 mem:=by simp
 obj:=λi h st b hb=>by
  have e:b=it:=by simpa using hb
  subst e
  obtain⟨o,e,c,d⟩:=st
  exact⟨o,e,λv z=>by rw[d] at z;cases z⟩
 keep:=λi h h' st k=>st.at λo e=>k it (by simp) o e
 item:=by
  intro X hP hw hK hc i pins s σ H E I hf st hg
  subst hP hw hK
  obtain⟨xs,x,hq,hx⟩:=hg
  obtain⟨its,rv,p,hz⟩:=I.list hq
  obtain⟨u,hu,ru⟩:=rv.get hx
  obtain⟨f0,f1,f2,f3,f4,f5⟩:=hf it (by simp)
  refine wpAny_pyNext_list_item st p.isList (x:=u) (by simpa using hu) λh' st' sb=>?_
  have I1:Inv X pins σ H {s with heap:=h'}:=I.turned (t':=s.toks) (λb o hb e=>(sb.2 b hb).trans e) f0 f1 f3 f4 f5
  obtain⟨o,e,c,d⟩:=id st'
  exact⟨u,rfl,rm (s:={s with heap:=h'}) e c d (by decide) ⟨x,H,I1,ru,⟨rfl,λys hy=>by rw[I.kg hy hq];exact hx⟩,st',λb hb=>(hf b hb).1⟩⟩
 done:=by
  intro X hP hw hK hc i pins s σ H E I hf st hg
  subst hP hw hK
  obtain⟨xs,hq,hx⟩:=hg
  obtain⟨its,rv,p,hz⟩:=I.list hq
  obtain⟨f0,f1,f2,f3,f4,f5⟩:=hf it (by simp)
  have hl:=rv.length
  exact wpAny_pyNext_list_end (I.ok.hd hc) st p.isList (by simp;omega) λh' eb=>⟨rfl,I.turned (t':=s.toks) (λb o hb e=>eb b o hb e) f0 f1 f3 f4 f5⟩
 self:=λ_ _ _ _ _ st h=>wpAny_pyIter_listiter st h
theorem IX{P:Az}{w:World}{K:AE}{tg:Expr}(a it:Addr):Turn P w K tg (uR K a) [it] it (λi h=>h.IsTupleIter it a i) where
 mem:=by simp
 obj:=λi h st b hb=>by
  have e:b=it:=by simpa using hb
  subst e
  obtain⟨o,e,c,d⟩:=st
  exact⟨o,e,λv z=>by rw[d] at z;cases z⟩
 keep:=λi h h' st k=>st.at λo e=>k it (by simp) o e
 item:=by
  intro X hP hw hK hc i pins s σ H E I hf st hg
  subst hP hw hK
  obtain⟨xs,x,hq,hx⟩:=hg
  obtain⟨its,rv,p,hz⟩:=I.tuple hq
  obtain⟨u,hu,ru⟩:=rv.get hx
  obtain⟨f0,f1,f2,f3,f4,f5⟩:=hf it (by simp)
  refine wpAny_pyNext_tuple_item st (show s.heap.IsTuple a its.toArray from p) (x:=u) (by simpa using hu) λh' st' sb=>?_
  have I1:Inv X pins σ H {s with heap:=h'}:=I.turned (t':=s.toks) (λb o hb e=>(sb.2 b hb).trans e) f0 f1 f3 f4 f5
  obtain⟨o,e,c,d⟩:=id st'
  exact⟨u,rfl,rm (s:={s with heap:=h'}) e c d (by decide) ⟨x,H,I1,ru,⟨rfl,λys hy=>by rw[I.ja hy hq];exact hx⟩,st',λb hb=>(hf b hb).1⟩⟩
 done:=by
  intro X hP hw hK hc i pins s σ H E I hf st hg
  subst hP hw hK
  obtain⟨xs,hq,hx⟩:=hg
  obtain⟨its,rv,p,hz⟩:=I.tuple hq
  obtain⟨f0,f1,f2,f3,f4,f5⟩:=hf it (by simp)
  have hl:=rv.length
  exact wpAny_pyNext_tuple_end (I.ok.hd hc) st (show s.heap.IsTuple a its.toArray from p) (by simp;omega) λh' eb=>⟨rfl,I.turned (t':=s.toks) (λb o hb e=>eb b o hb e) f0 f1 f3 f4 f5⟩
 self:=λ_ _ _ _ _ st h=>wpAny_pyIter_tupleiter st h
theorem IY{P:Az}{w:World}{K:AE}{tg:Expr}(it:Addr)(lo:Int)(n:Nat):Turn P w K tg (uS lo n) [it] it (λi h=>IsRangeIter h it (lo+(i:Nat)*1) ((n:Int)-(i:Nat)) 1) where
 mem:=by simp
 obj:=λi h st b hb=>by
  have e:b=it:=by simpa using hb
  subst e
  exact⟨_,st,λv z=>by
   have z':Data.fields _=Data.cell v:=z
   cases z'⟩
 keep:=λi h h' st k=>k it (by simp) _ st
 item:=by
  intro X hP hw hK hc i pins s σ H E I hf st hg
  subst hP hw hK
  obtain⟨f0,f1,f2,f3,f4,f5⟩:=hf it (by simp)
  have W:=Walks.range (prog:=X.prog) (w:=X.w) (I.ok.hd hc) it lo 1 n
  refine W.item i s _ _ hg st λv h' tk hv st' kk=>?_
  obtain⟨t,rfl⟩:=hv
  have I1:Inv X pins σ H {s with heap:=h',toks:=tk}:=I.turned (λb o hb e=>kk b o (by simpa using hb) e) f0 f1 f3 f4 f5
  refine⟨_,rfl,rm (s:={s with heap:=h',toks:=tk}) (n:="range_iterator") st' rfl rfl (by decide) ⟨.int (lo+i),H,I1,⟨t,?_⟩,⟨rfl,rfl⟩,st',λb hb=>(hf b hb).1⟩⟩
  rw[Int.mul_one]
 done:=by
  intro X hP hw hK hc i pins s σ H E I hf st hg
  subst hP hw hK
  obtain⟨f0,f1,f2,f3,f4,f5⟩:=hf it (by simp)
  exact wpAny_pyNext_range_end (I.ok.hd hc) st (by have:n<=i:=hg;omega) λh' eb=>⟨rfl,I.turned (t':=s.toks) (λb o hb e=>eb b o hb e) f0 f1 f3 f4 f5⟩
 self:=λ_ _ _ _ _ st h=>wpAny_pyIter_rangeiter st h
section
variable{X:Cx}{tg:Expr}
def Wu(K:AE)(tl:TE):TI:=λσ H R=>tl σ H λx H1=>∃a,x=.ref a/\(∃xs,bC K H1 a xs)/\R (wL K a) H1
def Sx(K:AE)(tl:TE):TI:=λσ H R=>tl σ H λx H1=>∃a,x=.ref a/\(∃xs,bN K H1 a xs)/\R (uR K a) H1
theorem bM{l:Expr}{tl:TE}(hl:PE X l tl):PI X tg l (Wu X.K tl):=by
 intro pins s σ H R I h
 refine aM (hl pins s σ H _ I h) λv s1 ⟨x,H1,I1,r1,q1⟩=>?_
 obtain⟨a,e,⟨xs,hq⟩,q⟩:=q1
 subst e
 cases r1
 obtain⟨its,rv,p,hz⟩:=I1.list hq
 refine ET p.isList ?_
 refine⟨s1.heap.objs.size,[s1.heap.objs.size],_,_,H1,rfl,I1.kept (t':=s1.toks) λb o e=>AG _ e,Kz a _,⟨_,AU _ rfl,rfl,rfl⟩,λb hb=>?_,q⟩
 have e:b=s1.heap.objs.size:=by simpa using hb
 subst e
 exact I1.iE (AM _) (I1.hok.fresh (AM _))
theorem dN{l:Expr}{tl:TE}(hl:PE X l tl):PI X tg l (Sx X.K tl):=by
 intro pins s σ H R I h
 refine aM (hl pins s σ H _ I h) λv s1 ⟨x,H1,I1,r1,q1⟩=>?_
 obtain⟨a,e,⟨xs,hq⟩,q⟩:=q1
 subst e
 cases r1
 obtain⟨its,rv,p,hz⟩:=I1.tuple hq
 refine Ct (show s1.heap.IsTuple a its.toArray from p) ?_
 refine⟨s1.heap.objs.size,[s1.heap.objs.size],_,_,H1,rfl,I1.kept (t':=s1.toks) λb o e=>AG _ e,IX a _,⟨_,AU _ rfl,rfl,rfl⟩,λb hb=>?_,q⟩
 have e:b=s1.heap.objs.size:=by simpa using hb
 subst e
 exact I1.iE (AM _) (I1.hok.fresh (AM _))
theorem NJ{pins:List (Addr×Obj)}{σ:St}{H:Hp}{s:AN}{R:It->Hp->Prop}{E:Value->AN->Prop}{lo hi:Int}{t u v:Tok}{tk:Nat}(I:Inv X pins σ H s)(h1: -(2 ^ 62)<=lo)(h2:lo<2 ^ 62)(h3: -(2 ^ 62)<=hi)(h4:hi<2 ^ 62)
  (q:R (uS lo (hi-lo).toNat) H):wpAny (model X.prog X.w) X.A (pyIter (.ref s.heap.objs.size)) (PIE X pins σ tg R) E {s with heap:=s.heap.push {cls:=.type "range",data:=.fields #[.int lo t,.int hi u,.int 1 v]},toks:=tk}:=by
 refine wpAny_pyIter_range (IsRange.new ..) (small_one h1 h2 h3 h4) ?_
 have I1:Inv X pins σ H {s with heap:=s.heap.push {cls:=.type "range",data:=.fields #[.int lo t,.int hi u,.int 1 v]},toks:=tk}:=I.kept λb o e=>AG _ e
 refine⟨(s.heap.push {cls:=.type "range",data:=.fields #[.int lo t,.int hi u,.int 1 v]}).objs.size,[(s.heap.push {cls:=.type "range",data:=.fields #[.int lo t,.int hi u,.int 1 v]}).objs.size],_,_,H,rfl,
  I1.kept (t':=tk) λb o e=>AG _ e,IY _ lo (hi-lo).toNat,?_,λb hb=>?_,q⟩
 ·have e1:lo+((0:Nat):Int)*1=lo:=by simp
  have e2:(((hi-lo).toNat:Nat):Int)-((0:Nat):Int)=Builtin.Range.rangeSize lo hi 1:=by rw[rangeSize_one];split<;>omega
  show IsRangeIter _ _ (lo+((0:Nat):Int)*1) ((((hi-lo).toNat:Nat):Int)-((0:Nat):Int)) 1
  rw[e1,e2]
  exact AU _ rfl
 ·have e:b=(s.heap.push {cls:=.type "range",data:=.fields #[.int lo t,.int hi u,.int 1 v]}).objs.size:=by simpa using hb
  subst e
  exact I1.iE (AM _) (I1.hok.fresh (AM _))
def Wv(ta:TA):TI:=λσ H R=>ta σ H λvs H1=>∃j:Int,vs=[.int j]/\ -(2 ^ 62)<=j/\j<2 ^ 62/\R (uS 0 j.toNat) H1
theorem bh{a:Expr}{ta:TA}{p pos:Pos}(hg:Gl X "range")(hm:X.mg "range"=none)(ha:PA X [a] ta)(hs:BL [a] X.env=[(false,eval a X.env)]:=by rfl):PI X tg (.Call (.Name "range" p) [a] [] pos) (Wv ta):=by
 intro pins s σ H R I h
 refine Call_ (i' I hg hm boot_range (B3 (aM (ha pos pins s σ H _ I h) λus s1 ⟨vs,H1,I1,r1,q1⟩=>?_) hs rfl))
 obtain⟨j,e,q1,q2,q⟩:=q1
 subst e
 cases r1 with
 | cons r rr=>
  cases rr
  obtain⟨t,rfl⟩:=r
  exact call_range_1 (NJ I1 (by omega) (by omega) q1 q2 (by simpa using q))
def Y7(wi:TI)(g:TG)(tb:TS):TS:=λD σ H=>wi σ H λJ H1=>∃W:Nat->Nat->St->Hp->Prop,(∃m,W 0 m σ H1)/\∀i m σ H,W i m σ H->
 (J.stop i H/\D.nx σ H)∨(J.go i H/\∃N:St->Hp->Prop,(∀σ' H',N σ' H'->∃m',m'<m/\W (i+1) m' σ' H')/\∀x H',J.oJ i H x H'->g x σ H' λσ2 H2=>tb {D with nx:=N,ct:=N,bk:=D.nx} σ2 H2)
def oK(fp:List Addr)(h:Heap):List (Addr×Obj):=fp.filterMap λb=>(h.get? b).map λo=>(b,o)
theorem jK{fp:List Addr}{h:Heap}{b:Addr}{o:Obj}(hb:b∈fp)(e:h.get? b=some o):(b,o)∈oK fp h:=List.mem_filterMap.mpr ⟨b,hb,by rw[e];rfl⟩
theorem KA{fp:List Addr}{h:Heap}{p:Addr×Obj}(hp:p∈oK fp h):p.1∈fp/\h.get? p.1=some p.2:=by
 obtain⟨b,hb,e⟩:=List.mem_filterMap.mp hp
 cases q:h.get? b with
 | none=>rw[q] at e;cases e
 | some o=>
  rw[q] at e
  have e':(b,o)=p:=AZ e
  subst e'
  exact⟨hb,q⟩
theorem Inv.pinned{pins:List (Addr×Obj)}{σ:St}{H:Hp}{s:AN}{fp:List Addr}(I:Inv X pins σ H s)(hf:∀b∈fp,gy X pins H b)(ho:∀b∈fp,∃o,s.heap.get? b=some o/\∀v,o.data≠.cell v):Inv X (pins++oK fp s.heap) σ H s:=
 I.zk λp hp=>(AS.mp hp).elim (λz=>I.pin p (BP _ z)) λz=>by
  obtain⟨hb,e⟩:=KA z
  obtain⟨f0,f1,f2,_⟩:=hf p.1 hb
  obtain⟨o,e',d⟩:=ho p.1 hb
  rw[e] at e';cases e'
  exact⟨e,f0,f1,f2,d⟩
theorem Inv.m_{pins pl:List (Addr×Obj)}{σ:St}{H:Hp}{s:AN}(I:Inv X (pins++pl) σ H s):Inv X pins σ H s:=I.zk λp hp=>I.pin p (BP _ (C8 _ hp))
theorem aY{iter:Expr}{body:List Stmt}{wi:TI}{g:TG}{tb:TS}{pos:Pos}(hp:PassesOwn (model X.prog X.w) X.A X.env X.xe)(hc:X.calm=true)(hi:PI X tg iter wi)(hg:PG X tg g)(hb:jE X body tb)
  (hs:∀x,Fs iter X.env x=pure x:=by intro _;rfl):PS X (.For tg iter body [] pos) (Y7 wi g tb):=by
 intro pins s σ H D I h
 refine wpAny_For (aM (hi pins s σ H _ I h) λv s1 h1=>aM h1 λitv s2 h2=>?_) hs
 obtain⟨it,fp,tn,J,H2,e,I2,T,st2,f2,W,⟨m0,w0⟩,turn⟩:=h2
 subst e
 have stat:∀{H':Hp},(∀b∈fp,H' b=none)->∀b∈fp,gy X pins H' b:=λhn b hb=>⟨hn b hb,(f2 b hb).2⟩
 refine codeAny_forLoop_any (λn s'=>∃i σ' H',Inv X pins σ' H' s'/\tn i s'.heap/\(∀b∈fp,H' b=none)/\W i n σ' H') ?_ m0 ⟨0,σ,H2,I2,st2,λb hb=>(f2 b hb).1,w0⟩
 rintro n s3 ⟨i,σ3,H3,I3,st3,Xq,w3⟩
 rcases turn i n σ3 H3 w3 with⟨stop,qn⟩ | ⟨go,N,hN,step⟩
 ·refine C6 hp (aM (T.done X rfl rfl rfl hc i pins s3 σ3 H3 X.xe I3 (stat Xq) st3 stop) λr s4 ⟨hr,I4⟩=>?_)
  subst hr
  exact E5 ⟨σ3,H3,I4,qn⟩
 ·refine C6 hp (aM (T.item X rfl rfl rfl hc i pins s3 σ3 H3 X.xe I3 (stat Xq) st3 go) λr s4 ⟨u,hr,h4⟩=>?_)
  subst hr
  refine C6 hp (aM h4 λ_ s5 ⟨x,H5,I5,r5,y5,zm,PK⟩=>?_)
  have I5':=I5.pinned (stat PK) (T.obj _ _ zm)
  refine C6 hp (aM (hg _ s5 σ3 H5 x u _ I5' r5 (step x H5 y5)) λ_ s6 ⟨σ6,H6,I6,q6⟩=>?_)
  refine C6 hp (aM (hb _ s6 σ6 H6 _ I6 q6) λf s7 q7=>?_)
  have again:∀{σ7:St} {H7:Hp},Inv X (pins++oK fp s5.heap) σ7 H7 s7->N σ7 H7->∃m,m<n/\∃i σ' H',Inv X pins σ' H' s7/\tn i s7.heap/\(∀b∈fp,H' b=none)/\W i m σ' H':=λ{σ7 H7} I7 n7=>by
   obtain⟨m',hm,w7⟩:=hN σ7 H7 n7
   refine⟨m',hm,i+1,σ7,H7,I7.m_,T.keep _ _ _ zm λb hb o e=>(I7.pin (b,o) (BP _ (BP _ (jK hb e)))).1,λb hb=>?_,w7⟩
   obtain⟨o,e,d⟩:=T.obj _ _ zm b hb
   exact(I7.pin (b,o) (BP _ (BP _ (jK hb e)))).2.1
  cases f with
  | next=>obtain⟨σ7,H7,I7,n7⟩:=q7;exact again I7 n7
  | cont=>obtain⟨σ7,H7,I7,n7⟩:=q7;exact again I7 n7
  | brk=>obtain⟨σ7,H7,I7,q7⟩:=q7;exact⟨σ7,H7,I7.m_,q7⟩
  | ret v=>obtain⟨x7,σ7,H7,I7,r7,q7⟩:=q7;exact⟨x7,σ7,H7,I7.m_,r7,q7⟩
end
theorem gN{K:AE}{a:Addr}{xs:List V}{g:TG}{tb:TS}{D:Ends}{σ:St}{H:Hp}(Pv:Nat->St->Hp->Prop)(h0:Pv 0 σ H)(hl:∀i σ H,i<=xs.length->Pv i σ H->bC K H a xs)
  (hs:∀i x σ H,xs[i]? =some x->Pv i σ H->g x σ H λσ2 H2=>tb {D with nx:=Pv (i+1),ct:=Pv (i+1),bk:=D.nx} σ2 H2) (hd:∀σ H,Pv xs.length σ H->D.nx σ H):
  ∃W:Nat->Nat->St->Hp->Prop,(∃m,W 0 m σ H)/\∀i m σ H,W i m σ H->
   ((wL K a).stop i H/\D.nx σ H)∨((wL K a).go i H/\∃N:St->Hp->Prop,(∀σ' H',N σ' H'->∃m',m'<m/\W (i+1) m' σ' H')/\∀x H',(wL K a).oJ i H x H'->g x σ H' λσ2 H2=>tb {D with nx:=N,ct:=N,bk:=D.nx} σ2 H2):=by
 refine⟨λi m σ H=>m=xs.length-i/\i<=xs.length/\Pv i σ H,⟨xs.length,by simp,BI _,h0⟩,?_⟩
 rintro i m σ H ⟨rfl,hi,p⟩
 have q:=hl i σ H hi p
 by_cases hlt:i<xs.length
 ·refine .inr ⟨⟨xs,xs[i],q,by simp[hlt]⟩,Pv (i+1),λσ' H' p'=>⟨xs.length-(i+1),by omega,rfl,hlt,p'⟩,λx H' y=>?_⟩
  obtain⟨e,y⟩:=y
  subst e
  exact hs i x σ _ (y xs q) p
 ·have e:i=xs.length:=by omega
  subst e
  exact .inl ⟨⟨xs,q,AM _⟩,hd σ H p⟩
theorem zo{K:AE}{a:Addr}{xs:List V}{g:TG}{tb:TS}{D:Ends}{σ:St}{H:Hp}(Pv:Nat->St->Hp->Prop)(h0:Pv 0 σ H)(hl:∀i σ H,i<=xs.length->Pv i σ H->bN K H a xs)
  (hs:∀i x σ H,xs[i]? =some x->Pv i σ H->g x σ H λσ2 H2=>tb {D with nx:=Pv (i+1),ct:=Pv (i+1),bk:=D.nx} σ2 H2) (hd:∀σ H,Pv xs.length σ H->D.nx σ H):
  ∃W:Nat->Nat->St->Hp->Prop,(∃m,W 0 m σ H)/\∀i m σ H,W i m σ H->
   ((uR K a).stop i H/\D.nx σ H)∨((uR K a).go i H/\∃N:St->Hp->Prop,(∀σ' H',N σ' H'->∃m',m'<m/\W (i+1) m' σ' H')/\∀x H',(uR K a).oJ i H x H'->g x σ H' λσ2 H2=>tb {D with nx:=N,ct:=N,bk:=D.nx} σ2 H2):=by
 refine⟨λi m σ H=>m=xs.length-i/\i<=xs.length/\Pv i σ H,⟨xs.length,by simp,BI _,h0⟩,?_⟩
 rintro i m σ H ⟨rfl,hi,p⟩
 have q:=hl i σ H hi p
 by_cases hlt:i<xs.length
 ·refine .inr ⟨⟨xs,xs[i],q,by simp[hlt]⟩,Pv (i+1),λσ' H' p'=>⟨xs.length-(i+1),by omega,rfl,hlt,p'⟩,λx H' y=>?_⟩
  obtain⟨e,y⟩:=y
  subst e
  exact hs i x σ _ (y xs q) p
 ·have e:i=xs.length:=by omega
  subst e
  exact .inl ⟨⟨xs,q,AM _⟩,hd σ H p⟩
theorem gZ{lo:Int}{n:Nat}{g:TG}{tb:TS}{D:Ends}{σ:St}{H:Hp}(Pv:Nat->St->Hp->Prop)(h0:Pv 0 σ H)
  (hs:∀i σ H,i<n->Pv i σ H->g (.int (lo+i)) σ H λσ2 H2=>tb {D with nx:=Pv (i+1),ct:=Pv (i+1),bk:=D.nx} σ2 H2) (hd:∀σ H,Pv n σ H->D.nx σ H):
  ∃W:Nat->Nat->St->Hp->Prop,(∃m,W 0 m σ H)/\∀i m σ H,W i m σ H->
   ((uS lo n).stop i H/\D.nx σ H)∨((uS lo n).go i H/\∃N:St->Hp->Prop,(∀σ' H',N σ' H'->∃m',m'<m/\W (i+1) m' σ' H')/\∀x H',(uS lo n).oJ i H x H'->g x σ H' λσ2 H2=>tb {D with nx:=N,ct:=N,bk:=D.nx} σ2 H2):=by
 refine⟨λi m σ H=>m=n-i/\i<=n/\Pv i σ H,⟨n,by simp,BI _,h0⟩,?_⟩
 rintro i m σ H ⟨rfl,hi,p⟩
 by_cases hlt:i<n
 ·refine .inr ⟨hlt,Pv (i+1),λσ' H' p'=>⟨n-(i+1),by omega,rfl,hlt,p'⟩,λx H' y=>?_⟩
  obtain⟨e,y⟩:=y
  subst e y
  exact hs i σ _ hlt p
 ·have e:i=n:=by omega
  subst e
  exact .inl ⟨AM _,hd σ H p⟩
abbrev R2:=V->V->Hp->VK->Prop
def cQ(X:Cx)(f:Value->Value->Sem Value)(r:R2):Prop:=
 ∀(pins:List (Addr×Obj)) (s:AN) (σ:St) (H:Hp) (x y:V) (v u:Value) (Q:VK),Inv X pins σ H s->RelV x v->RelV y u->r x y H Q->
  wpAny (model X.prog X.w) X.A (f v u) (EP X pins σ Q) X.xe s
def Sy(X:Cx)(f:Value->Sem Value)(r:V->Hp->VK->Prop):Prop:=
 ∀(pins:List (Addr×Obj)) (s:AN) (σ:St) (H:Hp) (x:V) (v:Value) (Q:VK),Inv X pins σ H s->RelV x v->r x H Q->
  wpAny (model X.prog X.w) X.A (f v) (EP X pins σ Q) X.xe s
def cZ(X:Cx)(f:Value)(r:List V->Hp->VK->Prop):Prop:=
 ∀(pins:List (Addr×Obj)) (s:AN) (σ:St) (H:Hp) (xs:List V) (us:List Value) (Q:VK),Inv X pins σ H s->Vals xs us->r xs H Q->
  wpAny (model X.prog X.w) X.A (call f us) (EP X pins σ Q) X.xe s
def Y8(X:Cx)(r:V->Hp->(Bool->Hp->Prop)->Prop):Prop:=
 ∀(pins:List (Addr×Obj)) (s:AN) (σ:St) (H:Hp) (x:V) (v:Value) (Q:Bool->Hp->Prop),Inv X pins σ H s->RelV x v->r x H Q->
  wpAny (model X.prog X.w) X.A (truthy v) (TP X pins σ Q) X.xe s
def PL(r:R2)(ta tb:TE):TE:=λσ H Q=>ta σ H λx H1=>tb σ H1 λy H2=>r x y H2 Q
def tUn(r:V->Hp->VK->Prop)(ta:TE):TE:=λσ H Q=>ta σ H λx H1=>r x H1 Q
def rI(C:Int->Int->Prop)(g:Int->Int->V):R2:=λx y H Q=>∃i j,x=.int i/\y=.int j/\C i j/\Q (g i j) H
def uT(g:Int->Int->V):R2:=λx y H Q=>∃i j,x=.int i/\y=.int j/\Q (g i j) H
def rU(g:Int->V):V->Hp->VK->Prop:=λx H Q=>∃i,x=.int i/\Q (g i) H
section
variable{X:Cx}{a b c:Expr}{ta tb tc:TE}{pos:Pos}
theorem NK(ha:PE X a ta)(hb:PE X b tb){pins:List (Addr×Obj)}{s:AN}{σ:St}{H:Hp}{R:V->V->Hp->Prop}(I:Inv X pins σ H s)
  (h:ta σ H λx H1=>tb σ H1 λy H2=>R x y H2) {Q:Value->AN->Prop} {f:Value->Value->Sem Value}
  (hf:∀v u s2 x y H2,Inv X pins σ H2 s2->RelV x v->RelV y u->R x y H2->wpAny (model X.prog X.w) X.A (f v u) Q X.xe s2):
  wpAny (model X.prog X.w) X.A (eval a X.env) (λv s₁=>wpAny (model X.prog X.w) X.A (eval b X.env) (λu s₂=>wpAny (model X.prog X.w) X.A (f v u) Q X.xe s₂) X.xe s₁) X.xe s:=by
 refine aM (ha pins s σ H _ I h) λv s1 ⟨x,H1,I1,r1,q1⟩=>?_
 refine aM (hb pins s1 σ H1 _ I1 q1) λu s2 ⟨y,H2,I2,r2,q2⟩=>?_
 exact hf v u s2 x y H2 I2 r1 r2 q2
theorem aH{op:Operator}{r:R2}(ho:cQ X (CQ op) r)(ha:PE X a ta)(hb:PE X b tb):PE X (.BinOp a op b pos) (PL r ta tb):=by
 intro pins s σ H Q I h
 exact wpAny_BinOp (NK ha hb I h λv u s2 x y H2 I2 rx ry q=>ho pins s2 σ H2 x y v u Q I2 rx ry q)
theorem pN{op:UnaryOp}{r:V->Hp->VK->Prop}(ho:Sy X (unaryOp op) r)(ha:PE X a ta):PE X (.UnaryOp op a pos) (tUn r ta):=by
 intro pins s σ H Q I h
 exact UnaryOp_ (aM (ha pins s σ H _ I h) λv s1 ⟨x,H1,I1,r1,q1⟩=>ho pins s1 σ H1 x v Q I1 r1 q1)
theorem PN{f:Value->Value->Sem Value}{C:Int->Int->Prop}{g:Int->Int->Int}
  (rule:∀(i j:Int) (t u:Tok) (s:AN) (Q:Value->AN->Prop) (E:Value->AN->Prop),C i j->Q (.int (g i j) s.toks) {s with toks:=s.toks+1}->wpAny (model X.prog X.w) X.A (f (.int i t) (.int j u)) Q E s):
  cQ X f (rI C λi j=>.int (g i j)):=by
 intro pins s σ H x y v u Q I rx ry h
 obtain⟨i,j,rfl,rfl,hc,q⟩:=h
 obtain⟨t,rfl⟩:=rx
 obtain⟨t',rfl⟩:=ry
 exact rule i j t t' s _ _ hc ⟨.int (g i j),H,I.tok _,⟨_,rfl⟩,q⟩
theorem Sz{f:Value->Value->Sem Value}{g:Int->Int->Int}
  (rule:∀(i j:Int) (t u:Tok) (s:AN) (Q:Value->AN->Prop) (E:Value->AN->Prop),Q (.int (g i j) s.toks) {s with toks:=s.toks+1}->wpAny (model X.prog X.w) X.A (f (.int i t) (.int j u)) Q E s):
  cQ X f (uT λi j=>.int (g i j)):=by
 intro pins s σ H x y v u Q I rx ry h
 obtain⟨i,j,rfl,rfl,q⟩:=h
 obtain⟨t,rfl⟩:=rx
 obtain⟨t',rfl⟩:=ry
 exact rule i j t t' s _ _ ⟨.int (g i j),H,I.tok _,⟨_,rfl⟩,q⟩
theorem IZ{f:Value->Value->Sem Value}{g:Int->Int->Bool}
  (rule:∀(i j:Int) (t u:Tok) (s:AN) (Q:Value->AN->Prop) (E:Value->AN->Prop),Q (.bool (g i j)) s->wpAny (model X.prog X.w) X.A (f (.int i t) (.int j u)) Q E s):
  cQ X f (uT λi j=>.bl (g i j)):=by
 intro pins s σ H x y v u Q I rx ry h
 obtain⟨i,j,rfl,rfl,q⟩:=h
 obtain⟨t,rfl⟩:=rx
 obtain⟨t',rfl⟩:=ry
 exact rule i j t t' s _ _ ⟨.bl (g i j),H,I,rfl,q⟩
def Y9(i j:Int):Prop:=0<=j/\j<=1000000/\i.natAbs<2 ^ 64
def NL(i j:Int):Prop:=(-(2 ^ 64)<i/\i<2 ^ 64)∨(-(2 ^ 64)<j/\j<2 ^ 64)
theorem NL.ok{i j:Int}(h:NL i j):IntMulOk i j:=by
 rcases h with⟨h1,h2⟩ | ⟨h1,h2⟩
 ·exact .of_left (intBits_le_64 h1 h2)
 ·exact .of_right (intBits_le_64 h1 h2)
theorem cK:cQ X (CQ .Add) (uT λi j=>.int (i+j)):=Sz λ_ _ _ _ _ _ _ q=>add_int q
theorem ki:cQ X (CQ .Sub) (uT λi j=>.int (i-j)):=Sz λ_ _ _ _ _ _ _ q=>sub_int q
theorem dr:cQ X (CQ .Mult) (rI NL λi j=>.int (i*j)):=PN λ_ _ _ _ _ _ _ hc q=>mul_int q hc.ok
theorem SA:cQ X (CQ .Mod) (rI (λ_ j=>0<j) λi j=>.int (i % j)):=PN λi j _ _ _ _ _ hc q=>by
 have h1:(0:Int)<j:=hc
 exact mod_int' (by omega) (by rw[Int.fmod_eq_emod_of_nonneg i (by omega)];exact q)
theorem rn:cQ X (CQ .Pow) (rI Y9 λi j=>.int (i ^ j.toNat)):=PN λ_ _ _ _ _ _ _ hc q=>pow_int_small hc.1 hc.2.1 hc.2.2 q
theorem unI{f:Value->Sem Value}{g:Int->Int}
  (rule:∀(i:Int) (t:Tok) (s:AN) (Q:Value->AN->Prop) (E:Value->AN->Prop),Q (.int (g i) s.toks) {s with toks:=s.toks+1}->wpAny (model X.prog X.w) X.A (f (.int i t)) Q E s):
  Sy X f (rU λi=>.int (g i)):=by
 intro pins s σ H x v Q I rx h
 obtain⟨i,rfl,q⟩:=h
 obtain⟨t,rfl⟩:=rx
 exact rule i t s _ _ ⟨.int (g i),H,I.tok _,⟨_,rfl⟩,q⟩
theorem mD:Sy X (unaryOp .USub) (rU λi=>.int (-i)):=unI λ_ _ _ _ _ q=>neg_int q
end
def NM:V->V->Bool
 | .non,.non=>true | .non,.int _=>true | .int _,.non=>true | .non,.bl _=>true | .bl _,.non=>true | .non,.str _=>true | .str _,.non=>true
 | .int _,.int _=>true | .bl _,.bl _=>true | .str _,.str _=>true | .j9 _,.j9 _=>true
 | .int _,.str _=>true | .str _,.int _=>true | .bl _,.str _=>true | .str _,.bl _=>true
 | _,_=>false
def rEq:R2:=λx y H Q=>NM x y=true/\Q (.bl (decide (x=y))) H
def rNe:R2:=λx y H Q=>NM x y=true/\Q (.bl (!decide (x=y))) H
theorem zp{i j:Int}:decide (V.int i=V.int j)=(i == j):=by
 rw[Cc]
 simp
theorem KC{i j:Bool}:decide (V.bl i=V.bl j)=(i == j):=by
 rw[Cc]
 simp
theorem zq{i j:Str}:decide (V.str i=V.str j)=(i == j):=by
 rw[Cc]
 simp
theorem zt{i j:Array UInt8}:decide (V.j9 i=V.j9 j)=(i.toList == j.toList):=by
 rw[Cc]
 cases i
 cases j
 simp
section
variable{X:Cx}{a b c:Expr}{ta tb tc:TE}{pos:Pos}
theorem bx{pins:List (Addr×Obj)}{σ:St}{H:Hp}{s:AN}{Q:VK}{k k':Bool}(I:Inv X pins σ H s)(q:Q (.bl k) H)(e:k=k'):EP X pins σ Q (.bool k') s:=by
 subst e
 exact⟨.bl k,H,I,rfl,q⟩
theorem ic:cQ X (CB .Eq) rEq:=by
 intro pins s σ H x y v u Q I rx ry h
 obtain⟨hs,q⟩:=h
 cases x with
 | non=>
  cases rx
  cases y with
  | non=>cases ry;exact PySem.EqNone.eq_none_none (bx I q (by simp))
  | bl j=>cases ry;exact PySem.EqNone.eq_none_bool (bx I q (by simp))
  | int j=>obtain⟨t',rfl⟩:=ry;exact PySem.EqNone.eq_none_int (bx I q (by simp))
  | str j=>obtain⟨t',rfl⟩:=ry;exact PySem.EqNone.eq_none_str (bx I q (by simp))
  | _=>exact absurd (show false=true from hs) An
 | bl i=>
  cases rx
  cases y with
  | non=>cases ry;exact PySem.EqNone.eq_bool_none (bx I q (by simp))
  | bl j=>cases ry;exact eq_bool (bx I q KC)
  | str j=>obtain⟨t',rfl⟩:=ry;exact PySem.EqMixed.eq_bool_str (bx I q (by simp))
  | _=>exact absurd (show false=true from hs) An
 | int i=>
  obtain⟨t,rfl⟩:=rx
  cases y with
  | non=>cases ry;exact PySem.EqNone.eq_int_none (bx I q (by simp))
  | int j=>obtain⟨t',rfl⟩:=ry;exact eq_int (bx I q zp)
  | str j=>obtain⟨t',rfl⟩:=ry;exact PySem.EqMixed.eq_int_str (bx I q (by simp))
  | _=>exact absurd (show false=true from hs) An
 | str i=>
  obtain⟨t,rfl⟩:=rx
  cases y with
  | non=>cases ry;exact PySem.EqNone.eq_str_none (bx I q (by simp))
  | bl j=>cases ry;exact PySem.EqMixed.eq_str_bool (bx I q (by simp))
  | int j=>obtain⟨t',rfl⟩:=ry;exact PySem.EqMixed.eq_str_int (bx I q (by simp))
  | str j=>obtain⟨t',rfl⟩:=ry;exact eq_str (bx I q zq)
  | _=>exact absurd (show false=true from hs) An
 | j9 i=>
  obtain⟨t,rfl⟩:=rx
  cases y with
  | j9 j=>obtain⟨t',rfl⟩:=ry;exact PySem.W.eq_bytes (bx I q zt)
  | _=>exact absurd (show false=true from hs) An
 | _=>cases y<;>exact absurd (show false=true from hs) An
theorem jL:cQ X (CB .NotEq) rNe:=by
 intro pins s σ H x y v u Q I rx ry h
 obtain⟨hs,q⟩:=h
 cases x with
 | non=>
  cases rx
  cases y with
  | non=>cases ry;exact PySem.EqNone.ne_none_none (bx I q (by simp))
  | bl j=>cases ry;exact PySem.EqNone.ne_none_bool (bx I q (by simp))
  | int j=>obtain⟨t',rfl⟩:=ry;exact PySem.EqNone.ne_none_int (bx I q (by simp))
  | str j=>obtain⟨t',rfl⟩:=ry;exact PySem.EqNone.ne_none_str (bx I q (by simp))
  | _=>exact absurd (show false=true from hs) An
 | bl i=>
  cases rx
  cases y with
  | non=>cases ry;exact PySem.EqNone.ne_bool_none (bx I q (by simp))
  | bl j=>cases ry;exact ne_bool (bx I q (congrArg not KC))
  | str j=>obtain⟨t',rfl⟩:=ry;exact PySem.EqMixed.ne_bool_str (bx I q (by simp))
  | _=>exact absurd (show false=true from hs) An
 | int i=>
  obtain⟨t,rfl⟩:=rx
  cases y with
  | non=>cases ry;exact PySem.EqNone.ne_int_none (bx I q (by simp))
  | int j=>obtain⟨t',rfl⟩:=ry;exact ne_int (bx I q (congrArg not zp))
  | str j=>obtain⟨t',rfl⟩:=ry;exact PySem.EqMixed.ne_int_str (bx I q (by simp))
  | _=>exact absurd (show false=true from hs) An
 | str i=>
  obtain⟨t,rfl⟩:=rx
  cases y with
  | non=>cases ry;exact PySem.EqNone.ne_str_none (bx I q (by simp))
  | bl j=>cases ry;exact PySem.EqMixed.ne_str_bool (bx I q (by simp))
  | int j=>obtain⟨t',rfl⟩:=ry;exact PySem.EqMixed.ne_str_int (bx I q (by simp))
  | str j=>obtain⟨t',rfl⟩:=ry;exact ne_str (bx I q (congrArg not zq))
  | _=>exact absurd (show false=true from hs) An
 | j9 i=>
  obtain⟨t,rfl⟩:=rx
  cases y with
  | j9 j=>obtain⟨t',rfl⟩:=ry;exact PySem.W.ne_bytes (bx I q (congrArg not zt))
  | _=>exact absurd (show false=true from hs) An
 | _=>cases y<;>exact absurd (show false=true from hs) An
theorem PQ:cQ X (CB .Lt) (uT λi j=>.bl (decide (i<j))):=IZ λ_ _ _ _ _ _ _ q=>lt_int q
theorem PR:cQ X (CB .LtE) (uT λi j=>.bl (decide (i<=j))):=IZ λ_ _ _ _ _ _ _ q=>le_int q
theorem pO:cQ X (CB .Gt) (uT λi j=>.bl (decide (j<i))):=IZ λ_ _ _ _ _ _ _ q=>gt_int q
theorem Ww:cQ X (CB .GtE) (uT λi j=>.bl (decide (j<=i))):=IZ λ_ _ _ _ _ _ _ q=>ge_int q
theorem wM:cQ X (CB .Is) (λx y H Q=>y=.non/\Q (.bl (decide (x=.non))) H):=by
 intro pins s σ H x y v u Q I rx ry h
 obtain⟨rfl,q⟩:=h
 cases ry
 refine is_none_gen (bx I q ?_)
 cases x<;>first
  | (cases rx;rfl)
  | (obtain⟨t,rfl⟩:=rx;rfl)
theorem Q4:cQ X (CB .IsNot) (λx y H Q=>y=.non/\Q (.bl (!decide (x=.non))) H):=by
 intro pins s σ H x y v u Q I rx ry h
 obtain⟨rfl,q⟩:=h
 cases ry
 refine isnot_none_gen (bx I q ?_)
 cases x<;>first
  | (cases rx;rfl)
  | (obtain⟨t,rfl⟩:=rx;rfl)
theorem bj(b:Expr){op:CmpOp}(h:op≠.In:=by decide)(h2:op≠.NotIn:=by decide):behindInMarks op b=false:=by
 have e1:(op == CmpOp.In)=false:=by cases op<;>first | rfl | exact absurd rfl h
 have e2:(op == CmpOp.NotIn)=false:=by cases op<;>first | rfl | exact absurd rfl h2
 cases b<;>simp[behindInMarks,e1,e2]
theorem f_{op:CmpOp}{r:R2}(ho:cQ X (CB op) r)(ha:PE X a ta)(hb:PE X b tb)(hm:behindInMarks op b=false):PE X (.Compare a [op] [b] pos) (PL r ta tb):=by
 intro pins s σ H Q I h
 exact wpAny_Compare1 (NK ha hb I h λv u s2 x y H2 I2 rx ry q=>ho pins s2 σ H2 x y v u Q I2 rx ry q) hm
def PU(t:TE):TT:=λσ H Q=>t σ H λx H'=>∃k,x=.bl k/\Q k H'
theorem aX{op:CmpOp}{r:R2}(ho:cQ X (CB op) r)(ha:PE X a ta)(hb:PE X b tb)(hm:behindInMarks op b=false):PT X (.Compare a [op] [b] pos) (PU (PL r ta tb)):=by
 intro pins s σ H Q I h
 refine wpAny_isTrue_Compare1 (aM (ha pins s σ H _ I h) λv s1 ⟨x,H1,I1,r1,q1⟩=>aM (hb pins s1 σ H1 _ I1 q1) λu s2 ⟨y,H2,I2,r2,q2⟩=>
  aM (ho pins s2 σ H2 x y v u _ I2 r1 r2 q2) λc s3 ⟨z,H3,I3,r3,k,e,q3⟩=>?_) hm
 subst e
 cases r3
 exact B2 ⟨H3,I3,q3⟩
def SD(r r':R2)(ta tb tc:TE):TE:=λσ H Q=>ta σ H λx H1=>tb σ H1 λy H2=>r x y H2 λz H3=>∃k,z=.bl k/\
 (if k=true then tc σ H3 λw' H4=>r' y w' H4 Q else Q (.bl false) H3)
theorem NN{op op':CmpOp}{r r':R2}(ho:cQ X (CB op) r)(ho':cQ X (CB op') r')(ha:PE X a ta)(hb:PE X b tb)(hc:PE X c tc)
  (hm:lastMarks [op,op'] [b,c]=false:=by with_unfolding_all rfl):PT X (.Compare a [op,op'] [b,c] pos) (PU (SD r r' ta tb tc)):=by
 intro pins s σ H Q I h
 refine isTrue_chain (aM (ha pins s σ H _ I h) λv s1 ⟨x,H1,I1,r1,q1⟩=>test_link (aM (hb pins s1 σ H1 _ I1 q1) λu s2 ⟨y,H2,I2,r2,q2⟩=>
  aM (ho pins s2 σ H2 x y v u _ I2 r1 r2 q2) λd s3 ⟨z,H3,I3,r3,k,e,q3⟩=>?_)) hm
 subst e
 cases r3
 refine B2 ?_
 cases k with
 | false=>
  obtain⟨k',e',q'⟩:=q3
  cases e'
  exact ite_ff ⟨H3,I3,q'⟩
 | true=>
  refine ite_tt (test_last (aM (hc pins s3 σ H3 _ I3 q3) λw' s4 ⟨z',H4,I4,r4,q4⟩=>aM (ho' pins s4 σ H4 y z' u w' _ I4 r2 r4 q4) λd' s5 ⟨z2,H5,I5,r5,k2,e2,q5⟩=>?_))
  subst e2
  cases r5
  exact B2 ⟨H5,I5,q5⟩
def NP(K:AE)(x:V)(H:Hp)(k:Bool):Prop:=
 match x with
 | .non=>k=false
 | .bl b=>k=b
 | .int i=>k=(i != 0)
 | .str y=>y.length<=sizeLine/\k=((y.length:Int) != 0)
 | .j9 y=>y.size<=sizeLine/\k=((y.size:Int) != 0)
 | .ref p=>(∃xs,bC K H p xs/\k= !xs.isEmpty)∨(∃xs,bN K H p xs/\k= !xs.isEmpty)∨∃kvs,H p=some (.dK kvs)/\k= !kvs.isEmpty
 | _=>False
theorem I_{κ:Type}{kvs:List (κ×V)}{vs:List (κ×Value)}(r:KV kvs vs):(!vs.isEmpty)= !kvs.isEmpty:=by
 cases r<;>rfl
theorem rq{xs:List V}{its:List Value}(r:Vals xs its):(!its.toArray.isEmpty)= !xs.isEmpty:=by
 cases r<;>simp
theorem mE:(sizeLine:Nat)<2 ^ 63:=by rw[G3];decide
theorem SE:Y8 X (λx H Q=>∃k,NP X.K x H k/\Q k H):=by
 intro pins s σ H x v Q I rx h
 obtain⟨k,e,q⟩:=h
 have hl:=mE
 have hs:sizeLine=16777216:=G3
 cases x with
 | non=>
  cases rx
  have e':k=false:=e
  subst e'
  exact truthy_none ⟨H,I,q⟩
 | bl b=>
  cases rx
  have e':k=b:=e
  subst e'
  exact B2 ⟨H,I,q⟩
 | int i=>
  obtain⟨t,rfl⟩:=rx
  have e':k=(i != 0):=e
  subst e'
  exact PySem.P.truthy_int ⟨H,I,q⟩
 | str y=>
  obtain⟨t,rfl⟩:=rx
  obtain⟨hy,e'⟩:y.length<=sizeLine/\k=((y.length:Int) != 0):=e
  subst e'
  exact PySem.P.truthy_str (by omega) ⟨H,I.tok _,q⟩
 | j9 y=>
  obtain⟨t,rfl⟩:=rx
  obtain⟨hy,e'⟩:y.size<=sizeLine/\k=((y.size:Int) != 0):=e
  subst e'
  exact PySem.W.truthy_bytes (by omega) ⟨H,I.tok _,q⟩
 | ref p=>
  cases rx
  have e':(∃xs,bC X.K H p xs/\k= !xs.isEmpty)∨(∃xs,bN X.K H p xs/\k= !xs.isEmpty)∨∃kvs,H p=some (.dK kvs)/\k= !kvs.isEmpty:=e
  rcases e' with⟨xs,hx,e'⟩ | ⟨xs,hx,e'⟩ | ⟨kvs,hx,e'⟩
  ·subst e'
   obtain⟨its,r,pl,hz⟩:=I.list hx
   have hlen:=r.length
   exact wpAny_truthy_list pl.isList (by simp only[Aj];omega) ⟨H,I.tok _,by rw[rq r];exact q⟩
  ·subst e'
   obtain⟨its,r,pl,hz⟩:=I.tuple hx
   have hlen:=r.length
   exact truthy_tuple pl (by simp only[Aj];omega) ⟨H,I.tok _,by rw[rq r];exact q⟩
  ·subst e'
   obtain⟨hz,hS,vs,r,m⟩:kvs.length<=sizeLine/\(p == CL)=false/\∃vs,KV kvs vs/\s.heap.DictOf (b_ X.prog X.w) p vs:=I.hok p _ hx
   have hlen:kvs.length=vs.length:=As r
   exact wpAny_truthy_dict hS m (by omega) ⟨H,I.tok _,by rw[I_ r];exact q⟩
 | _=>exact(show False from e).elim
theorem fJ(ha:PE X a ta)(he:∀whole,isTrue a X.env whole=(do let v <-whole;standAt a.pos;holding [v] (truthy v))):
  PT X a (λσ H Q=>ta σ H λx H'=>∃k,NP X.K x H' k/\Q k H'):=by
 intro pins s σ H Q I h
 exact isTrue_plain (aM (ha pins s σ H _ I h) λv s1 ⟨x,H1,I1,r1,q1⟩=>SE pins s1 σ H1 x v Q I1 r1 q1) (he _)
theorem rA:cQ X (CQ .Add) (λx y H Q=>∃i j,x=.str i/\y=.str j/\i.length+j.length<=sizeLine/\Q (.str (i++j)) H):=by
 intro pins s σ H x y v u Q I rx ry h
 obtain⟨i,j,rfl,rfl,hz,q⟩:=h
 obtain⟨t,rfl⟩:=rx
 obtain⟨t',rfl⟩:=ry
 exact add_str (λt' tk=>⟨.str (i++j),H,I.tok _,⟨_,rfl⟩,q⟩) hz
theorem vals1{x:V}{us:List Value}(r:Vals [x] us):∃u,us=[u]/\RelV x u:=by
 cases r with
 | cons r1 r2=>cases r2;exact⟨_,rfl,r1⟩
theorem vals2{x y:V}{us:List Value}(r:Vals [x,y] us):∃u w',us=[u,w']/\RelV x u/\RelV y w':=by
 cases r with
 | cons r1 r2=>
  cases r2 with
  | cons r3 r4=>cases r4;exact⟨_,_,rfl,r1,r3⟩
theorem wN:cZ X (.builtin "abs") (λxs H Q=>∃i,xs=[.int i]/\Q (.int (if i<0 then-i else i)) H):=by
 intro pins s σ H xs us Q I r h
 obtain⟨i,rfl,q⟩:=h
 obtain⟨u,rfl,t,rfl⟩:=vals1 r
 exact call_abs_int λu tk=>⟨.int (if i<0 then-i else i),H,I.tok _,⟨_,rfl⟩,q⟩
theorem KD:cZ X (.type "int") (λxs H Q=>(∃i,xs=[.int i]/\Q (.int i) H)∨∃k,xs=[.bl k]/\Q (.int (if k then 1 else 0)) H):=by
 intro pins s σ H xs us Q I r h
 rcases h with⟨i,rfl,q⟩ | ⟨k,rfl,q⟩
 ·obtain⟨u,rfl,t,rfl⟩:=vals1 r
  exact call_int_int ⟨.int i,H,I,⟨_,rfl⟩,q⟩
 ·obtain⟨u,rfl,r1⟩:=vals1 r
  cases r1
  exact call_int_bool ⟨.int (if k then 1 else 0),H,I.tok _,⟨_,rfl⟩,q⟩
theorem Ja:cZ X (.type "bool") (λxs H Q=>(∃i,xs=[.int i]/\Q (.bl (i != 0)) H)∨∃k,xs=[.bl k]/\Q (.bl k) H):=by
 intro pins s σ H xs us Q I r h
 rcases h with⟨i,rfl,q⟩ | ⟨k,rfl,q⟩
 ·obtain⟨u,rfl,t,rfl⟩:=vals1 r
  exact call_bool_int ⟨.bl (i != 0),H,I,rfl,q⟩
 ·obtain⟨u,rfl,r1⟩:=vals1 r
  cases r1
  exact call_bool_bool ⟨.bl k,H,I,rfl,q⟩
def SF(K:AE)(x:V)(H:Hp)(n:Nat):Prop:=
 match x with
 | .str y=>y.length<=sizeLine/\n=y.length
 | .j9 y=>y.size<=sizeLine/\n=y.size
 | .ref p=>(∃xs,bC K H p xs/\n=xs.length)∨∃xs,bN K H p xs/\n=xs.length
 | _=>False
theorem NQ:cZ X (.builtin "len") (λxs H Q=>∃x n,xs=[x]/\SF X.K x H n/\Q (.int n) H):=by
 intro pins s σ H xs us Q I r h
 obtain⟨x,n,rfl,e,q⟩:=h
 obtain⟨u,rfl,rx⟩:=vals1 r
 have hl:=mE
 have hs:sizeLine=16777216:=G3
 cases x with
 | str y=>
  obtain⟨t,rfl⟩:=rx
  obtain⟨hy,e'⟩:y.length<=sizeLine/\n=y.length:=e
  subst e'
  exact len_str (by omega) ⟨.int _,H,I.tok _,⟨_,rfl⟩,q⟩
 | j9 y=>
  obtain⟨t,rfl⟩:=rx
  obtain⟨hy,e'⟩:y.size<=sizeLine/\n=y.size:=e
  subst e'
  exact PySem.W.len_bytes (by omega) ⟨.int _,H,I.tok _,⟨_,rfl⟩,q⟩
 | ref p=>
  cases rx
  have e':(∃xs,bC X.K H p xs/\n=xs.length)∨∃xs,bN X.K H p xs/\n=xs.length:=e
  rcases e' with⟨xs,hx,e'⟩ | ⟨xs,hx,e'⟩
  ·subst e'
   obtain⟨its,r',pl,hz⟩:=I.list hx
   have hlen:=r'.length
   exact Calls.call_len_list pl.isList (by simp only[Aj];omega) ⟨.int xs.length,H,I.tok _,⟨_,by simp only[Aj];rw[hlen]⟩,q⟩
  ·subst e'
   obtain⟨its,r',pl,hz⟩:=I.tuple hx
   have hlen:=r'.length
   exact len_tuple pl (by simp only[Aj];omega) ⟨.int xs.length,H,I.tok _,⟨_,by simp only[Aj];rw[hlen]⟩,q⟩
 | _=>exact(show False from e).elim
end
structure NR (h:Heap)(x dx C:Addr)(mA:Str->Option Value):Prop where
 obj:h.get? x=some (Gm C dx)
 ns:h.Ns1 dx mA
 ne:dx≠x
theorem KG{h:Heap}{dx:Addr}{mA:Str->Option Value}(n:h.Ns1 dx mA):∃od,h.get? dx=some od/\∀name,G4 name od=some (mA name):=by
 obtain⟨o,es,ep,ho,hd,hk,_,hm⟩:=n
 refine⟨o,ho,λname=>?_⟩
 have e:=hm name
 unfold nsFind findBy at e
 rw[<-Array.find?_toList] at e
 unfold G4
 rw[hd]
 dsimp only
 split
 ·rename_i y q
  rw[q] at e
  exact congrArg some e
 ·rename_i q
  rw[q] at e
  have a:es.toList.any (·.refKey)=false:=by
   rw[List.any_eq_false]
   intro y hy
   obtain⟨z,t,hkey⟩:=hk y (Array.mem_toList_iff.mp hy)
   simp[DictEntry.refKey,hkey]
  have a':¬es.toList.any (·.refKey)=true:=by rw[a];exact An
  rw[if_neg a']
  exact congrArg some e
theorem NR.look{h:Heap}{x dx C:Addr}{mA:Str->Option Value}(I:NR h x dx C mA):∃od,PySem.W.InstAt h x (Gm C dx) C (some od)/\∀name,G4 name od=some (mA name):=
 let ⟨od,ho,hl⟩:=KG I.ns
 ⟨od,⟨I.obj,rfl,rfl,ho⟩,hl⟩
theorem j'.some_of{v:V}{o:Option Value}(r:j' (some v) o):∃u,o=some u/\RelV v u:=by
 cases o with
 | none=>exact(show False from r).elim
 | some u=>exact⟨u,rfl,r⟩
section
variable{P:Az}{w:World}{H H':Hp}{h h':Heap}{a C dx:Addr}{fs fs':List (Str×V)}
theorem Q5(hok:dq P w H h)(e:H a=some (.ins C dx fs)):∃mA,NR h a dx C mA/\(∀f,j' (fs.lookup f) (mA f))/\PySem.Within mA (fs.map (·.1))/\fs.length<=1000/\H dx=some (.own a):=by
 obtain⟨d,z,ne,ob,mA,n,r,q⟩:=(show bE P w H h a (.ins C dx fs) from hok a _ e)
 exact⟨mA,⟨ob,n,ne⟩,r,q,z,d⟩
end
structure Cls (K:AE)(C:Addr):Prop where
 pg:Hy K C Str.empty=true
 hd:PySem.W.hasDictIn K C=true
 po:PySem.W.plainOver K C=true
 sa:PySem.W.findIn K (.ref C) "__setattr__"=some (some (.builtin "object.__setattr__"))
theorem Cls.get{K:AE}{C:Addr}(c:Cls K C)(f:Str):Hy K C f=true:=c.pg
section
variable{X:Cx}{pins:List (Addr×Obj)}{σ:St}{H:Hp}{s:AN}{A:BQ}{E:Value->AN->Prop}{Q:Value->AN->Prop}{c:Value}{b:Bool}
inductive gA (K:AE)(H:Hp):V->Value->Prop where
 | non:gA K H .non (.type "NoneType")
 | bl (x:Bool):gA K H (.bl x) (.type "bool")
 | int (i:Int):gA K H (.int i) (.type "int")
 | str (x:Str):gA K H (.str x) (.type "str")
 | flt (x:UInt64):gA K H (.flt x) (.type "float")
 | lst {a:Addr} {xs:List V} (e:H a=some (.lst xs)):gA K H (.ref a) (.type "list")
 | dC {a:Addr} {o:Obj} {xs:List V} (e:H a=some (.dC o (.lst xs))):gA K H (.ref a) (.type "list")
 | tup {a:Addr} {xs:List V} (e:H a=some (.tup xs)):gA K H (.ref a) (.type "tuple")
 | dK {a:Addr} {kvs:List (Key×V)} (e:H a=some (.dK kvs)):gA K H (.ref a) (.type "dict")
 | dT {a:Addr} {kvs:List (List Key×V)} (e:H a=some (.dT kvs)):gA K H (.ref a) (.type "dict")
 | ins {a C dx:Addr} {fs:List (Str×V)} (e:H a=some (.ins C dx fs)) (cl:Cls K C) (ha:PySem.W.findIn K (.ref C) "__class__"=some (some (.builtin "object.__class__")))
   (hn:PySem.W.specialIn K (.builtin "object.__class__") "__get__"=some (some (.builtin "getset_descriptor.__get__"))) (htk:PySem.W.takesIn K (.builtin "object.__class__")=some true)
   (hm:PySem.W.mroIn K C (.type "object")=some true):gA K H (.ref a) (.ref C)
theorem KH{x:V}{u t:Value}(I:Inv X pins σ H s)(rx:RelV x u)(ty:gA X.K H x t)(e:BF X.K t c=some b)(h:∀tk,Q (.bool b) {s with toks:=tk}):
  wpAny (model X.prog X.w) A (call (.builtin "isinstance") [u,c]) Q E s:=by
 cases ty with
 | non=>cases(show u=CT from rx);exact B7 PySem.W.kitx_none I.h_ Cd e (λz=>nomatch z) h
 | bl y=>cases(show u=DW y from rx);exact B7 PySem.W.kitx_bool I.h_ Cd e (λz=>nomatch z) h
 | int i=>obtain⟨t,q⟩:=(show ∃t,u=EN i t from rx);cases q;exact B7 PySem.W.kitx_int I.h_ Cd e (λz=>nomatch z) h
 | str y=>obtain⟨t,q⟩:=(show ∃t,u=GI y t from rx);cases q;exact B7 PySem.W.kitx_str I.h_ Cd e (λz=>nomatch z) h
 | flt y=>obtain⟨t,q⟩:=(show ∃t,u=Value.float y t from rx);cases q;exact B7 PySem.W.kitx_float I.h_ Cd e (λz=>nomatch z) h
 | @lst a xs ea=>
  cases(show u=Bq a from rx)
  obtain⟨_,_,n,_,h1⟩:=(show bE X.prog X.w H s.heap a (.lst xs) from I.hok a _ ea)
  exact B7 Hg I.h_ ⟨_,h1,rfl⟩ e (λz=>nomatch z) h
 | @dC a ob xs ea=>
  cases(show u=Bq a from rx)
  obtain⟨_,_,_,n,_,h1⟩:=(show bE X.prog X.w H s.heap a (.dC ob (.lst xs)) from I.hok a _ ea)
  exact B7 Hg I.h_ ⟨_,h1,rfl⟩ e (λz=>nomatch z) h
 | @tup a xs ea=>
  cases(show u=Bq a from rx)
  obtain⟨_,_,_,p⟩:=(show bE X.prog X.w H s.heap a (.tup xs) from I.hok a _ ea)
  obtain⟨o,h1,h2,_⟩:=p
  exact B7 PySem.W.kitx_tuple I.h_ ⟨o,h1,h2⟩ e (λz=>nomatch z) h
 | @dK a kvs ea=>
  cases(show u=Bq a from rx)
  obtain⟨_,_,vs,_,p⟩:=(show bE X.prog X.w H s.heap a (.dK kvs) from I.hok a _ ea)
  obtain⟨o,es,ep,h1,h2,_⟩:=p
  exact B7 Hh I.h_ ⟨o,h1,h2.1⟩ e (λz=>nomatch z) h
 | @dT a kvs ea=>
  cases(show u=Bq a from rx)
  obtain⟨_,_,xs,_,o,es,ep,h1,h2,_⟩:=(show bE X.prog X.w H s.heap a (.dT kvs) from I.hok a _ ea)
  exact B7 Hh I.h_ ⟨o,h1,h2.1⟩ e (λz=>nomatch z) h
 | @ins a C dx fs ea cl ha hn htk hm=>
  cases(show u=Bq a from rx)
  obtain⟨mA,O,_⟩:=Q5 I.hok ea
  obtain⟨od,J,_⟩:=O.look
  exact B7 (PySem.W.kitx_own (cl.get _) cl.hd ha hn htk hm) I.h_ J e (λz=>nomatch z) h
end
structure aQ (k:Nat)(A:BQ):Prop where
 hd:A.handled=none
 dp:A.depth+3*k+5<recursionLimit
 un:A.units+16*k+200<cLine
 gd:A.guards=some []
theorem aQ.mono{j k:Nat}{A:BQ}(r:aQ k A)(h:j<=k):aQ j A:=⟨r.hd,by have:=r.dp;omega,by have:=r.un;omega,r.gd⟩
theorem aQ.deeper{k:Nat}{A:BQ}(r:aQ (k+1) A)(env:Env):aQ k (A.deeper env):=
 ⟨r.hd,by have:=r.dp;show A.depth+1+3*k+5<_;omega,by have:=r.un;show A.units+3+16*k+200<_;omega,r.gd⟩
theorem aQ.depth{k:Nat}{A:BQ}(r:aQ k A):A.depth<recursionLimit:=by have:=r.dp;omega
theorem aQ.units{k:Nat}{A:BQ}(r:aQ k A):A.units+64<cLine:=by have:=r.un;omega
def Y':TA:=λ_ H Q=>Q [] H
def Wx(ta:TE)(tr:TA):TA:=λσ H Q=>ta σ H λx H1=>tr σ H1 λxs H2=>Q (x::xs) H2
section
variable{X:Cx}{e:Expr}{es:List Expr}{te:TE}{t:TA}{pos:Pos}
theorem ag:PA X [] Y':=λ_ _ _ _ H Q I h=>Calls.spliced_nil ⟨[],H,I,.nil,h⟩
theorem ae(ha:PE X e te)(hr:PA X es t)(hs:BL (e::es) X.env=(false,eval e X.env)::BL es X.env:=by rfl):PA X (e::es) (Wx te t):=by
 intro pos pins s σ H Q I h
 rw[hs]
 show wpAny _ _ (spliced ((false,eval e X.env)::Dr pos (BL es X.env))) _ _ s
 refine FQ (aM (ha pins s σ H _ I h) λu s1 ⟨x,H1,I1,r1,q1⟩=>?_)
 exact aM (hr pos pins s1 σ H1 _ I1 q1) λus s2 ⟨xs,H2,I2,r2,q2⟩=>⟨x::xs,H2,I2,.cons r1 r2,q2⟩
def Za(t:TA):TE:=λσ H Q=>t σ H λxs H1=>xs.length<=sizeLine/\∀p,H1 p=none->Q (.ref p) (upd H1 p (.tup xs))
def Zb(t:TA):TE:=λσ H Q=>t σ H λxs H1=>xs.length<=sizeLine/\∀p,H1 p=none->Q (.ref p) (upd H1 p (.lst xs))
theorem cB{x1}(h:PA X es t):PE X (.Tuple es x1 pos) (Za t):=by
 intro pins s σ H Q I hq
 refine wpAny_Tuple_spliced (aM (h pos pins s σ H _ I hq) λus s1 ⟨xs,H1,I1,r,z,q⟩=>⟨by rw[<-r.length];exact z,?_⟩)
 have hf:H1 s1.heap.objs.size=none:=I1.hok.fresh (AM _)
 refine⟨.ref s1.heap.objs.size,upd H1 s1.heap.objs.size (.tup xs),I1.laid (t':=s1.toks) (λb u e=>AG _ e) (AM _) ?_,rfl,q _ hf⟩
 exact⟨⟨z,_,AU _ rfl,rfl⟩,us,r,⟨_,AU _ rfl,rfl,_,rfl⟩⟩
theorem bt(h:PA X es t):PE X (.List es pos) (Zb t):=by
 intro pins s σ H Q I hq
 refine wpAny_List_spliced (aM (h pos pins s σ H _ I hq) λus s1 ⟨xs,H1,I1,r,z,q⟩=>⟨by rw[<-r.length];exact z,?_⟩)
 have hf:H1 s1.heap.objs.size=none:=I1.hok.fresh (AM _)
 refine⟨.ref s1.heap.objs.size,upd H1 s1.heap.objs.size (.lst xs),I1.laid (t':=s1.toks) (λb u e=>AG _ e) (AM _) ?_,rfl,q _ hf⟩
 exact⟨z,us,0,r,AU _ rfl⟩
end
abbrev Sp:=List V->Hp->VK->XK->Prop
abbrev oM:=List Env->Hp->AN->XK->Value->AN->Prop
structure qA (P:Az)(w:World)(K:AE)(mg:Str->Option Value)(base:Heap)(A:BQ)(outer:List Env)(s:AN)(H:Hp):Prop where
 frames:A.frames=some outer
 mod:Mod K mg base
 bs:∀b o,base.get? b=some o->s.heap.get? b=some o/\H b=none
 oC:base.objs.size<=s.heap.objs.size
 hV:s.heap.FunFrames base outer
 uN:∀b∈frs outer,H b=none
 hok:dq P w H s.heap
 bare:Fq s.gens
def CE(outer:List Env)(P:Az)(w:World)(H:Hp)(s:AN)(Q:VK)(u:Value)(s':AN):Prop:=
 ∃v H',s'.os=s.os/\Fq s'.gens/\Un (frs outer) [] H H' s.heap s'.heap/\dq P w H' s'.heap/\RelV v u/\Q v H'
def CR(CX:oM)(outer:List Env)(P:Az)(w:World)(H:Hp)(s:AN)(Q:VK)(E:XK)(r:Result)(s':AN):Prop:=
 match r with
 | .ok (.ret u)=>CE outer P w H s Q u s'
 | .ok _=>False
 | .error e=>CX outer H s E e s'
structure aV (P:Az)(w:World)(K:AE)(mg:Str->Option Value)(base:Heap)(CX:oM)(k:Nat)(f:Addr)(fd:BC)(ps:List Str)(sp:Sp):Prop where
 len:∀vs H Q E,sp vs H Q E->vs.length=ps.length
 run:∀(A:BQ) (outer:List Env) (s:AN) (H:Hp) (args:Args) (us:List Value) (vs:List V) (Q:VK) (E:XK),aQ k A->qA P w K mg base A outer s H->Hi s fd args (ps.zip us)->Vals vs us->sp vs H Q E->
  Ft (model P w) A (.call (.ref f) args) (CR CX outer P w H s Q E) s
theorem aV.imp{P:Az}{w:World}{K:AE}{mg:Str->Option Value}{base:Heap}{CX:oM}{k:Nat}{f:Addr}{fd:BC}{ps:List Str}{sp Xr:Sp}(F:aV P w K mg base CX k f fd ps sp)
  (h:∀vs H Q E,Xr vs H Q E->sp vs H Q E):aV P w K mg base CX k f fd ps Xr:=
 ⟨λvs H Q E q=>F.len vs H Q E (h _ _ _ _ q),λA outer s H args us vs Q E hr he hb hv hs=>F.run A outer s H args us vs Q E hr he hb hv (h _ _ _ _ hs)⟩
section
variable{X:Cx}{pins:List (Addr×Obj)}{σ:St}{H:Hp}{s s':AN}
theorem Inv.env0(I:Inv X pins σ H s):qA X.prog X.w X.K X.mg X.base X.A X.stack s H:=
 ⟨I.ok.frames,I.ok.mod,I.bs,BH I.ok.oC I.sz,I.stack,I.mC,I.hok,I.bare⟩
theorem Inv.after{Q:VK}{u:Value}(I:Inv X pins σ H s)(h:CE X.stack X.prog X.w H s Q u s'):EP X pins σ Q u s':=by
 obtain⟨v,H',os,bare,un,hok,r,q⟩:=h
 obtain⟨hh,g,d,t,os'⟩:=s'
 obtain rfl:os'=s.os:=os
 exact⟨v,H',I.call (h':=hh) (g':=g) (d':=d) (t':=t) (ch:=[]) un hok bare (λb z=>absurd z (by simp)),r,q⟩
end
def Wy(sp:Sp)(rB:List V)(E:XK)(t:TA):TE:=λσ H Q=>t σ H λvs H1=>sp (vs++rB) H1 Q E
def Binds(K:AE)(fd:BC)(ps:List Str)(ds:List Value):Prop:=
 ∀(s:AN) (us:List Value),K.In s.heap->(us++ds).length=ps.length->Hi s fd ⟨us,[]⟩ (ps.zip (us++ds))
theorem Binds.all{K:AE}{fd:BC}{ps:List Str}(h:∀us:List Value,us.length=ps.length->G5 fd ⟨us,[]⟩=pure (ps.zip us)):Binds K fd ps []:=λs us _ hl=>by
 rw[BU] at hl ⊢
 exact .of_eq (h us hl)
def Passes(CX:oM)(X:Cx)(E:XK):Prop:=∀(pins:List (Addr×Obj)) (σ:St) (H:Hp) (s:AN) (e:Value) (s':AN),Inv X pins σ H s->CX X.stack H s E e s'->X.xe e s'
section
variable{X:Cx}{CX:oM}{k:Nat}{f C:Addr}{fd:BC}{ps:List Str}{sp:Sp}{rB:List V}{ds:List Value}{E:XK}{x m:Str}{p pos apos:Pos}{e o:Expr}{es:List Expr}{ta:TE}{t:TA}
theorem KI{pins:List (Addr×Obj)}{σ:St}{H:Hp}{s:AN}{Q:VK}{us:List Value}{vs:List V}(F:aV X.prog X.w X.K X.mg X.base CX k f fd ps sp)(hr:aQ k X.A)(hb:Binds X.K fd ps ds)(hd:Vals rB ds)(hx:Passes CX X E)
  (I:Inv X pins σ H s) (r:Vals vs us) (h:sp (vs++rB) H Q E):wpAny (model X.prog X.w) X.A (call (.ref f) us) (EP X pins σ Q) X.xe s:=by
 have r2:Vals (vs++rB) (us++ds):=r.append hd
 have hl:(us++ds).length=ps.length:=by rw[<-r2.length];exact F.len _ _ _ _ h
 refine wpAny_call (EU (F.run X.A X.stack s H ⟨us,[]⟩ (us++ds) (vs++rB) Q E hr I.env0 (hb s us I.h_ hl) r2 h) λr s' hq=>?_)
 cases r with
 | error e=>exact hx pins σ H s e s' I hq
 | ok fl=>
  cases fl with
  | ret u=>exact I.after hq
  | next=>exact Bt hq
  | brk=>exact Bt hq
  | cont=>exact Bt hq
theorem aE(F:aV X.prog X.w X.K X.mg X.base CX k f fd ps sp)(hr:aQ k X.A)(hg:Gl X x)(hm:X.mg x=some (.ref f))(hk:AR X.K (.ref f)=true)(hb:Binds X.K fd ps ds)(hd:Vals rB ds)(hx:Passes CX X E)
  (ha:PA X (e::es) t) (hdb:(x == ("__debug__":Str))=false:=by decide) (he:BL (e::es) X.env=(false,eval e X.env)::BL es X.env:=by rfl) (hpl:(Dr pos (BL es X.env)).any (·.1)=false:=by rfl):
  PE X (.Call (.Name x p) (e::es) [] pos) (Wy sp rB E t):=by
 intro pins s σ H Q I h
 refine CU (zl I hg hm ?_ hdb)
 refine HX (h₀:=X.base) I.ok.mod.uM hk (aM (ha pos pins s σ H _ I h) λus s1 ⟨vs,H1,I1,r,q⟩=>⟨I1.h_,?_⟩) he hpl
 exact KI F hr hb hd hx I1 r q
end
structure aU (N P:List Str)(sc:Scope):Prop where
 kind:sc.kind=.function
 co:sc.isCoroutine=false
 gen:sc.isGenerator=false
 nd:N.Nodup
 pre:N.take P.length=P
 par:∀x∈P,sc.names.lookup x=some .local∨sc.names.lookup x=some .cell
 SG:∀y∈sc.names,y.2≠.free
theorem uV{kindOf:Str->Option C9}{x:Str}:∀{binds:List (Str×Value)} {m:Str->Option Value},(∀v,(x,v) ∉ binds)->bindL kindOf binds m x=m x
 | [],_,_=>rfl
 | (n,v)::r,m,h=>by
  unfold bindL
  rw[uV λw hw=>h w (AV _ hw)]
  split
  ·have:x≠n:=by rintro rfl;exact h v Aa
   simp[this]
  ·rfl
theorem uW{kindOf:Str->Option C9}{x:Str}:∀{binds:List (Str×Value)} {m:Str->Option Value},(∀v,(x,v) ∉ binds)->bindC kindOf binds m x=m x
 | [],_,_=>rfl
 | (n,v)::r,m,h=>by
  unfold bindC
  rw[uW λw hw=>h w (AV _ hw)]
  split
  ·rfl
  ·have:x≠n:=by rintro rfl;exact h v Aa
   simp[this]
theorem uX{kindOf:Str->Option C9}{x:Str}{v:Value}:∀{P:List Str} {vs:List Value} {i:Nat} {m:Str->Option Value},P.Nodup->P[i]? =some x->vs[i]? =some v->kindOf x=some .local->
  bindL kindOf (P.zip vs) m x=some v
 | [],_,_,_,_,h,_,_=>by simp at h
 | _::_,[],_,_,_,_,h,_=>by simp at h
 | p::P,w::vs,0,m,nd,h1,h2,hk=>by
  simp at h1 h2;subst h1;subst h2
  show bindL kindOf ((p,w)::P.zip vs) m p=_
  unfold bindL
  rw[uV λv hv=>(Bk.mp nd).1 (Di hv).1,if_pos hk]
  simp
 | p::P,w::vs,i+1,m,nd,h1,h2,hk=>by
  show bindL kindOf ((p,w)::P.zip vs) m x=_
  unfold bindL
  exact uX (i:=i) (Bk.mp nd).2 (by simpa using h1) (by simpa using h2) hk
theorem uY{kindOf:Str->Option C9}{x:Str}{v:Value}:∀{P:List Str} {vs:List Value} {i:Nat} {m:Str->Option Value},P.Nodup->P[i]? =some x->vs[i]? =some v->kindOf x≠some .local->
  bindC kindOf (P.zip vs) m x=some v
 | [],_,_,_,_,h,_,_=>by simp at h
 | _::_,[],_,_,_,_,h,_=>by simp at h
 | p::P,w::vs,0,m,nd,h1,h2,hk=>by
  simp at h1 h2;subst h1;subst h2
  show bindC kindOf ((p,w)::P.zip vs) m p=_
  unfold bindC
  rw[uW λv hv=>(Bk.mp nd).1 (Di hv).1,if_neg hk]
  simp
 | p::P,w::vs,i+1,m,nd,h1,h2,hk=>by
  show bindC kindOf ((p,w)::P.zip vs) m x=_
  unfold bindC
  exact uY (i:=i) (Bk.mp nd).2 (by simpa using h1) (by simpa using h2) hk
def start(N:List Str)(vs:List V):St:=vs.map some++AO (N.length-vs.length) none
def kj(CX:oM)(P:Az)(w:World)(K:AE)(mg:Str->Option Value)(base:Heap)(N:List Str)(qual:Str)(scope:Scope)(f:Addr)(cd:Value)(A:BQ)(outer:List Env)(s:AN)(H:Hp)(E:XK):Cx where
 prog:=P
 w:=w
 K:=K
 mg:=mg
 base:=base
 A:=A.deeper (E7 qual scope s.heap.objs.size f cd)
 N:=N
 s₀:=s
 H₀:=H
 env:=E7 qual scope s.heap.objs.size f cd
 outer:=outer
 stack:=E7 qual scope s.heap.objs.size f cd::outer
 ex:=[]
 calm:=true
 fn:=λ_=>true
 pn:=[]
 xe:=λe s'=>wpAny (model P w) (A.deeper (E7 qual scope s.heap.objs.size f cd)) (leaving (E7 qual scope s.heap.objs.size f cd) e) (λ_ s''=>CX outer H s E e s'') (λe' s''=>CX outer H s E e' s'') s'
theorem gP{sc:Scope}{n:Nat}{x:Str}(h:sc.names.lookup x=some .cell):∃c,(cellsFrom n sc.names []).lookup x=some c:=by
 have q:=EV sc.names n [] (.inl h)
 exact Option.isSome_iff_exists.mp q
theorem uZ{CX:oM}{P:Az}{w:World}{K:AE}{mg:Str->Option Value}{base:Heap}{N ps:List Str}{qual:Str}{scope:Scope}{f:Addr}{cd:Value}{A:BQ}{outer:List Env}{s s1:AN}{H:Hp}{E:XK}{us:List Value}{vs:List V}
  (S:aU N ps scope) (hd:A.handled=none) (e0:qA P w K mg base A outer s H) (hl:vs.length=ps.length) (r:Vals vs us)
  (x:InCallC s s.heap.objs.size (bindL (E7 qual scope s.heap.objs.size f cd).kindOf (ps.zip us) λ_=>none) (cellsFrom (s.heap.objs.size+1) scope.names []) (bindC (E7 qual scope s.heap.objs.size f cd).kindOf (ps.zip us) λ_=>none) s1):
  Inv (kj CX P w K mg base N qual scope f cd A outer s H E) [] (start N vs) H s1:=by
 have hpl:ps.length<=N.length:=by have:=congrArg Fu S.pre;rw[Ao] at this;omega
 obtain⟨h1,tk,rfl,hk⟩:=x.done
 have kW:∀b:Addr,b ∉ (kj CX P w K mg base N qual scope f cd A outer s H E).ex:=λb z=>absurd (show b∈([]:List Addr) from z) (by simp)
 refine⟨⟨e0.mod,S.kind,rfl,rfl,AM _,λy z c h1 h2=>?_,λy hy=>?_,λy c _ h=>?_,λ_=>hd,E1 e0.frames,.inr ⟨rfl,rfl⟩,λb z=>absurd z (kW b),e0.bs,e0.oC,λb _ _=>kW b,λb z=>absurd z (kW b),e0.hV,e0.uN⟩,
  rfl,e0.bare,Un.kept hk,⟨_,x.toInCall.ns,λi y v h1 h2 h3=>?_⟩,λy c h=>⟨_,x.cell y c h⟩,e0.hok.fresh (AM _),λy c h=>?_,λp hp=>absurd (show p∈([]:List (Addr×Obj)) from hp) (by simp),e0.hok.kept hk,?_⟩
 ·exact name_of_addr x.apart (BS h1) (BS h2)
 ·have hy:scope.names.lookup y=some .cell∨scope.names.lookup y=some .free:=hy
  rcases hy with hy | hy
  ·exact gP hy
  ·exact absurd rfl (S.SG _ (BS hy))
 ·exact CG (x.above y c (BS h))
 ·have hi:i<vs.length:=by
   unfold start at h2
   by_cases hi:i<vs.length
   ·exact hi
   ·rw[Ae (by simpa using hi)] at h2
    rw[DN] at h2
    split at h2<;>cases h2
  have ha:vs[i]? =some v:=by
   unfold start at h2
   rw[Am (by simpa using hi),AJ] at h2
   cases e:vs[i]? with
   | none=>rw[e] at h2;cases h2
   | some a=>rw[e] at h2;cases h2;rfl
  obtain⟨u,hu,rv⟩:=r.get ha
  have hp:ps[i]? =some y:=by
   rw[<-S.pre,List.getElem?_take_of_lt (by omega)];exact h1
  have zu:ps.Nodup:=by rw[<-S.pre];exact S.nd.sublist (List.take_sublist _ _)
  refine⟨u,rv,?_⟩
  rcases S.par y (AL hp) with k | k
  ·exact .inl ⟨k,uX zu hp hu k⟩
  ·obtain⟨c,e⟩:=gP (n:=s.heap.objs.size+1) k
   refine .inr ⟨.inl k,c,e,?_⟩
   have q:=x.cell y c e
   rw[uY zu hp hu (by show scope.names.lookup y≠_;rw[k];decide)] at q
   exact q
 ·exact e0.hok.fresh (CG (x.above y c (BS h)))
 ·unfold start
  show _=N.length
  rw[AH,AA,BE]
  omega
theorem PV{CX:oM}{P:Az}{w:World}{K:AE}{mg:Str->Option Value}{base:Heap}{k:Nat}{f:Addr}{name qual:Str}{params:Cs}{body:List Stmt}{scope:Scope}{dV kV doc pm cdv ct oc:Value}{an od:Option Addr}
  {osl:Array (Option Value)} {N ps:List Str} {sp:Sp} (lk:K.lookup f=some ⟨oc,od,.func (Al name qual params body scope dV kV doc pm an cdv ct),osl⟩) (hcd:Ax K cdv qual=true) (S:aU N ps scope)
  (len:∀vs H Q E,sp vs H Q E->vs.length=ps.length)
  (hbody:∀(A:BQ) (outer:List Env) (s:AN) (H:Hp) (vs:List V) (Q:VK) (E:XK),aQ k (A.deeper (E7 qual scope s.heap.objs.size f cdv))->sp vs H Q E->
   ∃t,jE (kj CX P w K mg base N qual scope f cdv A outer s H E) body t/\t {nx:=λ_ H'=>Q .non H',rt:=Q} (start N vs) H):
  aV P w K mg base CX (k+1) f (Al name qual params body scope dV kV doc pm an cdv ct) ps sp:=by
 refine⟨len,λA outer s H args us vs Q E hr e0 hb r hsp=>?_⟩
 have hl:=len _ _ _ _ hsp
 have KX:K.In s.heap:=e0.mod.uM.keeps λb o e=>(e0.bs b o e).1
 have lim:s.heap.NoLimit:=e0.mod.nolimit.keeps λb o e=>(e0.bs b o e).1
 have hkind:∀y∈ps.zip us,scope.names.lookup y.1=some .local∨(scope.names.lookup y.1=some .cell/\((cellsFrom (s.heap.objs.size+1) scope.names []).lookup y.1).isSome=true):=λ⟨n,v⟩ hy=>by
  rcases S.par n (Di hy).1 with q | q
  ·exact .inl q
  ·exact .inr ⟨q,EV _ _ _ (.inl q)⟩
 refine Eh hr.depth (KX _ _ lk) rfl S.co S.gen rfl (HY KX hcd) (hb _ _ _ _ ?_)
 refine FR S.kind hkind λenv he s1 x=>?_
 subst he
 refine⟨lim.keeps x.toInCall.keep,codeAny_func ?_⟩
 obtain⟨t,ht,hq⟩:=hbody A outer s H vs Q E (hr.deeper _) hsp
 have I:Inv (kj CX P w K mg base N qual scope f cdv A outer s H E) [] (start N vs) H s1:=uZ S hr.hd e0 hl r x
 refine B0 (ht [] s1 (start N vs) H _ I hq) (λfl s' hs=>?_) λe s' hs=>hs
 have fin:∀{σ':St} {H':Hp} {v:V} {u:Value},Inv (kj CX P w K mg base N qual scope f cdv A outer s H E) [] σ' H' s'->RelV v u->Q v H'->CE outer P w H s Q u s':=
  λ{σ' H' v u} J rv q=>⟨v,H',J.os,J.bare,J.base,J.hok,rv,q⟩
 cases fl with
 | ret u=>
  obtain⟨v,σ',H',J,rv,q⟩:=hs
  exact fin J rv q
 | next=>
  obtain⟨σ',H',J,q⟩:=hs
  exact fin (v:=V.non) (u:=CT) J rfl q
 | brk=>
  obtain⟨_,_,_,q⟩:=hs
  exact Bt q
 | cont=>
  obtain⟨_,_,_,q⟩:=hs
  exact Bt q
section
variable{X:Cx}{x:Str}{p pos:Pos}{e:Expr}{es:List Expr}{t:TA}{id T:String}{r:List V->Hp->VK->Prop}
def Xs(r:List V->Hp->VK->Prop)(t:TA):TE:=λσ H Q=>t σ H λvs H1=>r vs H1 Q
theorem aF(hc:cZ X (.builtin id) r)(hg:Gl X x)(hm:X.mg x=none)(hv:Bg x=some (.builtin id))(ha:PA X (e::es) t)(hn:x≠"__name__":=by decide)(hdb:(x == ("__debug__":Str))=false:=by decide)
  (he:BL (e::es) X.env=(false,eval e X.env)::BL es X.env:=by rfl) (hpl:(Dr pos (BL es X.env)).any (·.1)=false:=by rfl):PE X (.Call (.Name x p) (e::es) [] pos) (Xs r t):=by
 intro pins s σ H Q I h
 refine CU (i' I hg hm hv ?_ hn hdb)
 exact PyProof.Rows.callWith_builtin1 (aM (ha pos pins s σ H _ I h) λus s1 ⟨vs,H1,I1,r1,q1⟩=>hc pins s1 σ H1 vs us Q I1 r1 q1) he hpl
theorem aW(hc:cZ X (.type T) r)(hg:Gl X x)(hm:X.mg x=none)(hv:Bg x=some (.type T))(ha:PA X (e::es) t)(hn:x≠"__name__":=by decide)(hdb:(x == ("__debug__":Str))=false:=by decide)
  (he:BL (e::es) X.env=(false,eval e X.env)::BL es X.env:=by rfl) (hpl:(Dr pos (BL es X.env)).any (·.1)=false:=by rfl):PE X (.Call (.Name x p) (e::es) [] pos) (Xs r t):=by
 intro pins s σ H Q I h
 refine CU (i' I hg hm hv ?_ hn hdb)
 exact B3 (aM (ha pos pins s σ H _ I h) λus s1 ⟨vs,H1,I1,r1,q1⟩=>hc pins s1 σ H1 vs us Q I1 r1 q1) he hpl
end
end L2
namespace HT
open PySem PyProof.Rows
section
variable{prog:Az}{w:World}{A:BQ}{E:Value->AN->Prop}{s:AN}
theorem Q6{t b:Addr}{vs ws:List Value}{Q:Value->AN->Prop}(ht:IsTup s.heap t vs.toArray)(hb:IsTup s.heap b ws.toArray)(hv:vs≠[])
  (h1:ws=[]->Q (.ref t) s) (h2:ws≠[]->Q (.ref s.heap.objs.size) {s with heap:=s.heap.push {cls:=.type "tuple",data:=.seq (vs++ws).toArray}})
  (hsz:vs.length+ws.length<=sizeLine):wpAny (model prog w) A (CQ .Add (.ref t) (.ref b)) Q E s:=by
 obtain⟨⟨cls,dd,data,sl⟩,ho,hc,n,hd⟩:=id ht
 obtain⟨⟨cls2,dd2,data2,sl2⟩,ho2,hc2,n2,hd2⟩:=id hb
 simp only at hc hd hc2 hd2
 subst hc hd hc2 hd2
 have e:vs.toArray++ws.toArray=(vs++ws).toArray:=by simp
 by_cases hw:ws=[]
 ·exact concat_meets ⟨_,ho,rfl⟩ ⟨_,ho2,rfl⟩ GJ HP EW EO (EC _ _)
   (tuple_addW1 t b vs.toArray ws.toArray n n2 dd dd2 sl sl2 (by simpa using hv) (by simp[hw])) ⟨ho,ho2,h1 hw⟩
 ·refine concat_meets ⟨_,ho,rfl⟩ ⟨_,ho2,rfl⟩ GJ HP EW EO (EC _ _)
   (tuple_addW2 t b vs.toArray ws.toArray n n2 dd dd2 sl sl2 (by simpa using hv) (by simpa using hw) (by rw[Aj,Aj];exact hsz)) ⟨ho,ho2,?_⟩
  rw[e]
  exact h2 hw
def bp(n d:Nat):Option Int->Nat
 | none=>d
 | some v=>if v<0 then(v+(n:Int)).toNat else min v.toNat n
theorem tH(n d k:Nat):bp n d (some (k:Int))=min k n:=by
 show(if(k:Int)<0 then((k:Int)+(n:Int)).toNat else min (k:Int).toNat n)=min k n
 rw[if_neg (by omega),AY]
theorem SH(n d:Nat)(hd:d<=n)(o:Option Int):bp n d o<=n:=by
 cases o with
 | none=>exact hd
 | some v=>
  show(if v<0 then(v+(n:Int)).toNat else min v.toNat n)<=n
  by_cases hv:v<0
  ·rw[if_pos hv];omega
  ·rw[if_neg hv];exact Nat.min_le_right _ _
theorem zv(v:Int)(n d:Nat):(if v<0 then max (v+(n:Int)) 0 else min v (n:Int))=((bp n d (some v):Nat):Int):=by
 show(if v<0 then max (v+(n:Int)) 0 else min v (n:Int))=(((if v<0 then(v+(n:Int)).toNat else min v.toNat n):Nat):Int)
 by_cases hv:v<0
 ·simp only[if_pos hv];omega
 ·simp only[if_neg hv];omega
theorem Jb(lo hi:Option Int)(n:Nat):D7 lo hi 1 (n:Int)=(((bp n 0 lo:Nat):Int),((bp n n hi:Nat):Int)):=by
 have h1:¬((1:Int)<0):=by omega
 unfold D7
 simp only[h1,if_false]
 refine Prod.ext ?_ ?_
 ·cases lo with
  | none=>rfl
  | some v=>exact zv v n 0
 ·cases hi with
  | none=>rfl
  | some v=>exact zv v n n
theorem Jc(i j:Nat):C4 (i:Int) (j:Int) 1=j-i:=by
 unfold C4
 have h1:(1:Int)>0:=by omega
 simp only[h1,if_true,Int.ediv_one]
 split<;>omega
theorem rC{v:Value}{o:Option Int}{Q:Option Int->AN->Prop}(p:GA v o)(h:Q o s):wpAny (model prog w) A (Builtin.Slice.slicePartIndex v) Q E s:=by
 cases p with
 | none=>exact slicePart_none h
 | int i t=>exact slicePart_int h
theorem km{sl:Addr}{vl vu:Value}{lo hi:Option Int}{n:Nat}{Q:Int×Int×Nat->AN->Prop}(hs:s.heap.IsSliceOf sl vl vu .none)(pl:GA vl lo)(pu:GA vu hi)
  (h:Q (((bp n 0 lo:Nat):Int),1,bp n n hi-bp n 0 lo) s):wpAny (model prog w) A (FT (.ref sl) (pure (n:Int))) Q E s:=by
 obtain⟨os,hos,hcs,hds⟩:=id hs
 unfold FT Builtin.Slice.sliceFields
 refine AB (AB (Bi hos hds (x:=vl) rfl (AB (Bi hos hds (x:=vu) rfl (AB (Bi hos hds (x:=.none) rfl (AK ?_)))))))
 refine AB (slicePart_none ?_)
 show wpAny _ _ (if((1:Int) == 0)=true then _ else _) _ _ s
 rw[if_neg (by decide)]
 refine AB (rC pl (AB (rC pu (AB (AK ?_)))))
 show wpAny _ _ (match D7 lo hi 1 (n:Int) with | (lo,hi)=>pure (lo,(1:Int),C4 lo hi 1)) _ _ s
 rw[Jb lo hi n]
 show wpAny _ _ (pure (((bp n 0 lo:Nat):Int),(1:Int),C4 ((bp n 0 lo:Nat):Int) ((bp n n hi:Nat):Int) 1)) _ _ s
 rw[Jc]
 exact AK h
theorem NS(xs:Array Value)(i k:Nat):((Ad k).filterMap λ(m:Nat)=>xs[((i:Int)+(m:Int)*1).toNat]?).toArray=((xs.toList.drop i).take k).toArray:=by
 have e:(λ(m:Nat)=>xs[((i:Int)+(m:Int)*1).toNat]?)=λm=>xs[i+m]? :=by
  funext m
  have:((i:Int)+(m:Int)*1).toNat=i+m:=by omega
  rw[this]
 rw[e]
 have:=pick_run xs i k
 rw[List.filterMap_map] at this
 have e2:((λx=>xs[x]?)∘λx=>i+x)=λm=>xs[i+m]? :=rfl
 rw[e2] at this
 rw[this]
theorem qb{t sl:Addr}{items:Array Value}{vl vu:Value}{lo hi:Option Int}{Q:Value->AN->Prop}(ht:IsTup s.heap t items)(hs:s.heap.IsSliceOf sl vl vu .none)(pl:GA vl lo)(pu:GA vu hi)
  (hw:¬(bp items.size 0 lo=0/\bp items.size items.size hi=items.size))
  (h:Q (.ref s.heap.objs.size) {s with heap:=s.heap.push {cls:=.type "tuple",data:=.seq ((items.toList.drop (bp items.size 0 lo)).take (bp items.size items.size hi-bp items.size 0 lo)).toArray}})
  (hsz:items.size<=sizeLine):wpAny (model prog w) A (FF (.ref t) (.ref sl)) Q E s:=by
 have wy:sizeOk (.seq ((items.toList.drop (bp items.size 0 lo)).take (bp items.size items.size hi-bp items.size 0 lo)).toArray):=by
  show((items.toList.drop (bp items.size 0 lo)).take (bp items.size items.size hi-bp items.size 0 lo)).toArray.size<=sizeLine
  rw[Aj,Ao,CK,BN]
  omega
 have hj:bp items.size items.size hi<=items.size:=SH _ _ (AM _) hi
 obtain⟨os,hos,hcs,hds⟩:=id hs
 have hTs:s.TypeIs (.ref sl) "slice":=⟨os,hos,hcs⟩
 unfold FF
 try with_reducible refine Bj ?_
 first | refine AB (AK ?_) | skip
 refine AB (wpAny_sequenceKey ht.typeIs (by decide) ?_)
 refine AB (Ba (name:=Co "__getitem__") ht.typeIs Br
  (Bb Br ht.typeIs entry_tuple_getitem ?_ (args_tuple_getitem _ _)))
 show wpAny _ _ (Ds (.ref t) >>= _) _ _ s
 refine AB (HQ ht ?_)
 refine AB (FG hTs ?_)
 rw[if_pos (by decide)]
 refine AB (km hs pl pu ?_)
 have hno:¬((((bp items.size 0 lo:Nat):Int) == 0&&(1:Int) == 1&&(bp items.size items.size hi-bp items.size 0 lo) == items.size)=true):=by
  intro q
  rw[CV,CV] at q
  have q1:((bp items.size 0 lo:Nat):Int)=0:=eq_of_beq q.1.1
  have q2:bp items.size items.size hi-bp items.size 0 lo=items.size:=eq_of_beq q.2
  exact hw ⟨by omega,by omega⟩
 show wpAny _ _ (if(((bp items.size 0 lo:Nat):Int) == 0&&(1:Int) == 1&&(bp items.size items.size hi-bp items.size 0 lo) == items.size)=true then _ else _) _ _ s
 rw[if_neg hno,NS]
 first
  | exact AB (m:=By _) (BX (AK ⟨_,rfl,AK h⟩) wy)
  | exact AB (m:=By _) (BX (AB (AK (AK ⟨_,rfl,AK h⟩))) wy)
  | exact AB (AB (m:=By _) (BX (AK (AK ⟨_,rfl,AK h⟩)) wy))
  | exact AB (AB (m:=By _) (BX (AK ⟨_,rfl,AK h⟩) wy))
end
end HT
namespace L2
open PySem PySem.Spec PyProof.Rows
abbrev TO:=St->Hp->(Option Int->Hp->Prop)->Prop
def PO(X:Cx)(e:Option Expr)(t:TO):Prop:=
 ∀(pins:List (Addr×Obj)) (s:AN) (σ:St) (H:Hp) (Q:Option Int->Hp->Prop),Inv X pins σ H s->t σ H Q->
  wpAny (model X.prog X.w) X.A (evalPart e X.env) (λu s'=>∃o H',Inv X pins σ H' s'/\GA u o/\Q o H') X.xe s
def zx:TO:=λ_ H Q=>Q none H
def Wz(t:TE):TO:=λσ H Q=>t σ H λx H1=>∃i,x=.int i/\Q (some i) H1
theorem intsAre_of{ns:List Int}:∀{us:List Value},Vals (ns.map V.int) us->CP us ns:=by
 induction ns with
 | nil=>intro us r;rw[CH] at r;cases r;exact .nil
 | cons n ns ih=>
  intro us r
  rw[A0] at r
  cases r with
  | cons r1 r2=>
   obtain⟨t,e⟩:=r1
   subst e
   exact .cons n t (ih r2)
section
variable{X:Cx}{e:Expr}{te:TE}{lo hi:Option Expr}{tl th:TO}{pos p2:Pos}
theorem dQ:PO X none zx:=by
 intro pins s σ H Q I h
 rw[evalPart_none]
 exact AK ⟨none,H,I,.none,h⟩
theorem fE(h:PE X e te):PO X (some e) (Wz te):=by
 intro pins s σ H Q I hw
 rw[evalPart_some]
 refine aM (h pins s σ H _ I hw) λu s1 ⟨x,H1,I1,r1,q1⟩=>?_
 obtain⟨i,rfl,q⟩:=q1
 obtain⟨t,rfl⟩:=r1
 exact⟨some i,H1,I1,.int i t,q⟩
def zy(X:Cx)(r:V->Option Int->Option Int->Hp->VK->Prop):Prop:=
 ∀(pins:List (Addr×Obj)) (s:AN) (σ:St) (H:Hp) (x:V) (v vl vu:Value) (lo hi:Option Int) (sl:Addr) (Q:VK),Inv X pins σ H s->RelV x v->s.heap.IsSliceOf sl vl vu .none->GA vl lo->GA vu hi->r x lo hi H Q->
  ∃T id,typeLookup (.type T) "__getitem__"=pure (some (.builtin id))/\s.TypeIs v T/\wpAny (model X.prog X.w) X.A (FF v (.ref sl)) (EP X pins σ Q) X.xe s
def tSl(r:V->Option Int->Option Int->Hp->VK->Prop)(te:TE)(tl th:TO):TE:=λσ H Q=>te σ H λx H1=>tl σ H1 λl H2=>th σ H2 λu H3=>r x l u H3 Q
theorem fK{r:V->Option Int->Option Int->Hp->VK->Prop}(hr:zy X r)(he:PE X e te)(hl:PO X lo tl)(hu:PO X hi th):PE X (.Subscript e (.Slice lo hi none p2) pos) (tSl r te tl th):=by
 intro pins s σ H Q I h
 refine GY (aM (he pins s σ H _ I h) λv s1 ⟨x,H1,I1,r1,q1⟩=>?_)
 refine wpAny_Slice (aM (hl pins s1 σ H1 _ I1 q1) λvl s2 ⟨l,H2,I2,pl,q2⟩=>aM (hu pins s2 σ H2 _ I2 q2) λvu s3 ⟨u,H3,I3,pu,q3⟩=>?_)
 rw[evalPart_none]
 refine AK ?_
 have I4:Inv X pins σ H3 {s3 with heap:=s3.heap.push {cls:=.type "slice",data:=.fields #[vl,vu,.none]}}:=I3.kept (t':=s3.toks) λb ob q=>AG _ q
 obtain⟨T,id,hT,ht,hg⟩:=hr pins {s3 with heap:=s3.heap.push {cls:=.type "slice",data:=.fields #[vl,vu,.none]}} σ H3 x v vl vu l u s3.heap.objs.size Q I4 r1 (HZ ..) pl pu q3
 show wpAny (model X.prog X.w) X.A (Eu e (.Slice lo hi none p2) v (.ref s3.heap.objs.size)) (EP X pins σ Q) X.xe {s3 with heap:=s3.heap.push {cls:=.type "slice",data:=.fields #[vl,vu,.none]}}
 exact tail_any (ops:=[.ref s3.heap.objs.size,v]) ht hT hg (by with_unfolding_all rfl)
def fL(xs:List V)(lo hi:Option Int):List V:=(xs.drop (HT.bp xs.length 0 lo)).take (HT.bp xs.length xs.length hi-HT.bp xs.length 0 lo)
theorem qd(xs:List V)(lo hi:Option Int):(fL xs lo hi).length<=xs.length:=by
 unfold fL
 rw[Ao,CK]
 omega
def Zc(K:AE):V->Option Int->Option Int->Hp->VK->Prop:=λx lo hi H Q=>∃a xs,x=.ref a/\bN K H a xs/\
 ¬(HT.bp xs.length 0 lo=0/\HT.bp xs.length xs.length hi=xs.length)/\∀p,H p=none->Q (.ref p) (upd H p (.tup (fL xs lo hi)))
theorem SJ:zy X (Zc X.K):=by
 intro pins s σ H x v vl vu lo hi sl Q I rx hs pl pu h
 obtain⟨a,xs,rfl,hx,hw,q⟩:=h
 cases rx
 obtain⟨its,r,ht,hz⟩:=I.tuple hx
 have hlen:its.toArray.size=xs.length:=by rw[Aj];exact r.length.symm
 refine⟨"tuple",_,Br.lookup,ht.typeIs,?_⟩
 refine HT.qb ht hs pl pu (by rw[hlen];exact hw) ?_ (by rw[hlen];exact hz)
 rw[hlen]
 refine⟨.ref s.heap.objs.size,_,I.laid (t':=s.toks) (o:=.tup (fL xs lo hi)) (λb ob q=>AG _ q) (AM _) ?_,rfl,q _ (I.hok.fresh (AM _))⟩
 exact⟨⟨BH (qd xs lo hi) hz,_,AU _ rfl,rfl⟩,_,(r.drop (HT.bp xs.length 0 lo)).take (HT.bp xs.length xs.length hi-HT.bp xs.length 0 lo),Hz _ _⟩
def WA(K:AE):R2:=λx y H Q=>∃a b xs ys,x=.ref a/\y=.ref b/\bN K H a xs/\bN K H b ys/\xs≠[]/\xs.length+ys.length<=sizeLine/\
 (ys=[]->Q (.ref a) H)/\(ys≠[]->∀p,H p=none->Q (.ref p) (upd H p (.tup (xs++ys))))
theorem Vals.tI{xs:List V}{us:List Value}(r:Vals xs us):us=[]↔xs=[]:=by
 cases r with
 | nil=>simp
 | cons _ _=>simp
theorem zA:cQ X (CQ .Add) (WA X.K):=by
 intro pins s σ H x y v u Q I rx ry h
 obtain⟨a,b,xs,ys,rfl,rfl,ha,hb,hx,hz,q1,q2⟩:=h
 cases rx
 cases ry
 obtain⟨its,r1,p1,_⟩:=I.tuple ha
 obtain⟨its2,r2,p2,_⟩:=I.tuple hb
 refine HT.Q6 p1 p2 (λz=>hx (r1.tI.mp z)) (λz=>⟨.ref a,H,I,rfl,q1 (r2.tI.mp z)⟩) (λz=>?_) (by rw[<-r1.length,<-r2.length];exact hz)
 refine⟨.ref s.heap.objs.size,_,I.laid (t':=s.toks) (o:=.tup (xs++ys)) (λb ob q=>AG _ q) (AM _) ?_,rfl,q2 (λw=>z (r2.tI.mpr w)) _ (I.hok.fresh (AM _))⟩
 exact⟨⟨by rw[AH];exact hz,_,AU _ rfl,rfl⟩,_,r1.append r2,Hz _ _⟩
end
def oi(n:Nat)(i:Int):Option Nat:=if 0<=i then(if i<n then some i.toNat else none) else if-(n:Int)<=i then some (i+n).toNat else none
def jb{α:Type}(xs:List α)(i:Int):Option α:=(oi xs.length i).bind λj=>xs[j]?
theorem zB{n:Nat}{i:Int}{j:Nat}(h:oi n i=some j):seqIndex? i n=some j/\j<n/\ -(n:Int)<=i/\i<n:=by
 unfold oi at h
 by_cases h0:0<=i
 ·rw[if_pos h0] at h
  by_cases h1:i<n
  ·rw[if_pos h1] at h
   have e:i.toNat=j:=AZ h
   exact⟨by rw[seqIndex_of h0 h1,e],by omega,by omega,h1⟩
  ·rw[if_neg h1] at h;cases h
 ·rw[if_neg h0] at h
  by_cases h1: -(n:Int)<=i
  ·rw[if_pos h1] at h
   have e:(i+n).toNat=j:=AZ h
   exact⟨by rw[seqIndex_neg (by omega) h1,e],by omega,h1,by omega⟩
  ·rw[if_neg h1] at h;cases h
theorem tJ{α:Type}{xs:List α}{i:Int}{v:α}(h:jb xs i=some v):∃j,seqIndex? i xs.length=some j/\xs[j]? =some v/\j<xs.length/\ -(xs.length:Int)<=i/\i<xs.length:=by
 unfold jb at h
 cases e:oi xs.length i with
 | none=>rw[e] at h;cases h
 | some j=>
  rw[e] at h
  obtain⟨h1,h2,h3,h4⟩:=zB e
  exact⟨j,h1,h,h2,h3,h4⟩
theorem ax{α:Type}{xs:List α}{j:Nat}{v:α}(h:xs[j]? =some v):jb xs (j:Int)=some v:=by
 have hj:j<xs.length:=(AD.mp h).1
 have e:oi xs.length (j:Int)=some j:=by
  unfold oi
  rw[if_pos (by omega),if_pos (by omega)];simp
 unfold jb;rw[e];exact h
theorem wO{α:Type}(xs:List α)(v:α):jb (xs++[v]) (-1)=some v:=by
 have hl:(xs++[v]).length=xs.length+1:=by simp
 have e:oi (xs++[v]).length (-1)=some xs.length:=by
  unfold oi
  rw[hl,if_neg (by decide),if_pos (by omega)]
  congr 1
  omega
 unfold jb
 rw[e]
 show(xs++[v])[xs.length]? =some v
 simp
def Q7(b:Expr):Prop:=∀o i,G6 b false o i=operate [o,i] (FF o i)
def zC(X:Cx)(r:R2):Prop:=
 ∀(value slice:Expr) (pins:List (Addr×Obj)) (s:AN) (σ:St) (H:Hp) (x y:V) (v u:Value) (Q:VK),Inv X pins σ H s->RelV x v->RelV y u->r x y H Q->
  G6 slice false v u=operate [v,u] (FF v u)->wpAny (model X.prog X.w) X.A (Eu value slice v u) (EP X pins σ Q) X.xe s
def Xt(X:Cx)(id:String)(r:V->List V->Hp->VK->Prop):Prop:=
 ∀(pins:List (Addr×Obj)) (s:AN) (σ:St) (H:Hp) (x:V) (xs:List V) (v:Value) (us:List Value) (Q:VK),Inv X pins σ H s->RelV x v->Vals xs us->r x xs H Q->
  wpAny (model X.prog X.w) X.A (call (.builtin id) (v::us)) (EP X pins σ Q) X.xe s
section
variable{X:Cx}{a b:Expr}{ta tb:TE}{pos:Pos}
theorem aC{r:R2}(hr:zC X r)(ha:PE X a ta)(hb:PE X b tb)(hs:Q7 b):PE X (.Subscript a b pos) (PL r ta tb):=by
 intro pins s σ H Q I h
 exact GY (NK ha hb I h λv u s2 x y H2 I2 rx ry q=>hr a b pins s2 σ H2 x y v u Q I2 rx ry q (hs _ _))
def SK(K:AE):R2:=λx y H Q=>∃p xs i v,x=.ref p/\y=.int i/\bC K H p xs/\jb xs i=some v/\Q v H
def SM(K:AE):R2:=λx y H Q=>∃p xs i v,x=.ref p/\y=.int i/\bN K H p xs/\jb xs i=some v/\Q v H
def Zd:R2:=λx y H Q=>∃z i c,x=.str z/\y=.int i/\z.length<=sizeLine/\jb z.cps.toList i=some c/\Q (.str ⟨#[c]⟩) H
theorem Q8:zC X (SK X.K):=by
 intro value slice pins s σ H x y v u Q I rx ry h hs
 obtain⟨p,xs,i,z,rfl,rfl,hq,he,q⟩:=h
 cases rx
 obtain⟨t,rfl⟩:=ry
 obtain⟨its,r,pl,hz⟩:=I.list hq
 obtain⟨j,h1,h2,h3,h4,h5⟩:=tJ he
 obtain⟨w,ew,rD⟩:=r.get h2
 have hl:=r.length
 have hn:=mE
 have fin:EP X pins σ Q w s:=⟨z,H,I,rD,q⟩
 by_cases h0:0<=i
 ·have hj:i.toNat=j:=by
   rw[seqIndex_of h0 h5] at h1
   exact AZ h1
  exact item_listR pl.isList h0 (by omega) (by rw[hj];simpa using ew) fin hs
 ·have hj:(i+(its.toArray.size:Int)).toNat=j:=by
   rw[seqIndex_neg (by omega) h4] at h1
   rw[Aj,<-hl]
   exact AZ h1
  exact subscriptTail_builtinR (x:=w) pl.isList.typeIs slot_list_getitem.lookup
   (wpAny_getItem_list_neg (Q:=λr s'=>r=w/\EP X pins σ Q r s') pl.isList (by omega) (by rw[Aj]<;>omega) (by omega) (by rw[hj];simpa using ew) ⟨rfl,fin⟩) hs
theorem SN:zC X (SM X.K):=by
 intro value slice pins s σ H x y v u Q I rx ry h hs
 obtain⟨p,xs,i,z,rfl,rfl,hq,he,q⟩:=h
 cases rx
 obtain⟨t,rfl⟩:=ry
 obtain⟨its,r,pl,hz⟩:=I.tuple hq
 obtain⟨j,h1,h2,h3,h4,h5⟩:=tJ he
 obtain⟨w,ew,rD⟩:=r.get h2
 have hl:=r.length
 have hn:=mE
 have fin:EP X pins σ Q w s:=⟨z,H,I,rD,q⟩
 exact subscriptTail_builtinR (x:=w) pl.typeIs slot_tuple_getitem.lookup
  (getItem_tuple (j:=j) (Q:=λr s'=>r=w/\EP X pins σ Q r s') pl (by omega) (by omega) (by rw[Aj,<-hl];exact h1) (by simpa using ew) ⟨rfl,fin⟩) hs
theorem KJ:zC X Zd:=by
 intro value slice pins s σ H x y v u Q I rx ry h hs
 obtain⟨z,i,c,rfl,rfl,hz,he,q⟩:=h
 obtain⟨t,rfl⟩:=rx
 obtain⟨t',rfl⟩:=ry
 obtain⟨j,h1,h2,h3,h4,h5⟩:=tJ he
 have hl:z.cps.toList.length=z.length:=by simp[Str.length]
 rw[hl] at h1 h4 h5
 have hn:=mE
 exact tail_any (GZ s z t) slot_str_getitem.lookup (getItem_str (c:=c) (by
  have e1:decide (i< -(2 ^ 63:Int))=false:=decide_eq_false (by omega)
  have e2:decide (i ≥ 2 ^ 63)=false:=decide_eq_false (by omega)
  rw[e1,e2,Bool.or_false]) (by rw[h1];simpa using h2) ⟨.str ⟨#[c]⟩,H,I.tok _,⟨_,rfl⟩,q⟩) hs
theorem Jd(its:List Value)(n j:Nat)(u:Value):Du (·.setIfInBounds j u) {cls:=.type "list",data:=.seq its.toArray n}={cls:=.type "list",data:=.seq (its.set j u).toArray n}:=by
 simp[Du]
theorem Inv.lst{pins:List (Addr×Obj)}{σ:St}{H:Hp}{s:AN}{p:Addr}{xs:List V}(I:Inv X pins σ H s)(h:H p=some (.lst xs)):
  ∃(its:List Value) (n:Nat),Vals xs its/\s.heap.get? p=some {cls:=.type "list",data:=.seq its.toArray n}/\xs.length<=sizeLine:=by
 obtain⟨z,its,n,r,e⟩:=I.hok p _ h
 exact⟨its,n,r,e,z⟩
theorem Inv.SO{pins:List (Addr×Obj)}{σ:St}{H:Hp}{s:AN}{p:Addr}{xs ys:List V}{its its':List Value}{n n':Nat}{f:Obj->Obj}(I:Inv X pins σ H s)(h:H p=some (.lst xs))
  (ho:s.heap.get? p=some {cls:=.type "list",data:=.seq its.toArray n}) (hf:f {cls:=.type "list",data:=.seq its.toArray n}={cls:=.type "list",data:=.seq its'.toArray n'}) (r:Vals ys its') (hz:ys.length<=sizeLine) (t:Nat):
  Inv X pins σ (upd H p (.lst ys)) {s with heap:=s.heap.update p f,toks:=t}:=by
 have e:(s.heap.update p f).get? p=some {cls:=.type "list",data:=.seq its'.toArray n'}:=by
  rw[CC f ho (by rw[hf]<;>rfl),hf]
 refine I.write (x:=p) (e:=p) (by rw[h];trivial) (.inl rfl) (λb u hb q=>(DX _ _ (Ck hb)).trans q) ⟨_,e⟩ ?_
 exact⟨hz,its',n',r,e⟩
def WB:V->V->V->Hp->(Hp->Prop)->Prop:=λo i v H Q=>∃p xs k j,o=.ref p/\i=.int k/\H p=some (.lst xs)/\oi xs.length k=some j/\Q (upd H p (.lst (xs.set j v)))
theorem set_list:Ss X WB:=by
 intro pins s σ H o i v ov iv u Q I ro ri rv h
 obtain⟨p,xs,k,j,rfl,rfl,hp,hj,q⟩:=h
 cases ro
 obtain⟨t,rfl⟩:=ri
 obtain⟨its,n,r,ho,hz⟩:=I.lst hp
 obtain⟨h1,h2,h3,h4⟩:=zB hj
 have hl:=r.length
 have hn:=mE
 have I':Inv X pins σ (upd H p (.lst (xs.set j v))) {s with heap:=s.heap.update p (Du (·.setIfInBounds j u))}:=
  I.SO hp ho (Jd its n j u) (r.set rv j) (by rw[EH];exact hz) s.toks
 by_cases h0:0<=k
 ·have hk:k.toNat=j:=by
   rw[seqIndex_of h0 h4] at h1
   exact AZ h1
  exact PySem.W.ki_setAt ho h0 (by omega) (by rw[Aj,<-hl];exact h4) (by rw[hk];exact⟨_,I',q⟩)
 ·have hk:(k+(its.toArray.size:Int)).toNat=j:=by
   rw[seqIndex_neg (by omega) h3] at h1
   rw[Aj,<-hl]
   exact AZ h1
  exact PySem.W.ki_setBack ho (by omega) (by rw[Aj,<-hl];exact h3) (by omega) (by rw[hk];exact⟨_,I',q⟩)
theorem wQ(lo hi:Option Int)(n:Nat):(ER lo hi none n).1=((HT.bp n 0 lo:Nat):Int)/\(ER lo hi none n).2.1=((HT.bp n n hi:Nat):Int)/\(ER lo hi none n).2.2=1:=by
 refine⟨?_,?_,rfl⟩
 ·cases lo with
  | none=>simp[ER,HT.bp]
  | some i=>
   simp only[ER,HT.bp,Option.getD_none,show(1:Int)>0 by decide,if_true]
   by_cases h:i<0
   ·simp only[h,if_true]<;>omega
   ·simp only[h,if_false]<;>omega
 ·cases hi with
  | none=>simp[ER,HT.bp]
  | some i=>
   simp only[ER,HT.bp,Option.getD_none,show(1:Int)>0 by decide,if_true]
   by_cases h:i<0
   ·simp only[h,if_true]<;>omega
   ·simp only[h,if_false]<;>omega
theorem vP(its:List Value)(lo hi:Option Int):slicePick its.toArray lo hi none=((its.drop (HT.bp its.length 0 lo)).take (HT.bp its.length its.length hi-HT.bp its.length 0 lo)).toArray:=by
 obtain⟨h1,h2,h3⟩:=wQ lo hi its.toArray.size
 unfold slicePick
 rw[h1,h2,h3]
 simp only[sliceRange_one,pick_run,Aj]<;>rfl
def SQ(K:AE):V->Option Int->Option Int->Hp->VK->Prop:=λx lo hi H Q=>∃a xs,x=.ref a/\bC K H a xs/\∀p,H p=none->Q (.ref p) (upd H p (.lst (fL xs lo hi)))
theorem Q9:zy X (SQ X.K):=by
 intro pins s σ H x v vl vu lo hi sl Q I rx hs pl pu h
 obtain⟨a,xs,rfl,hx,q⟩:=h
 cases rx
 obtain⟨its,r,ht,hz⟩:=I.list hx
 have hlen:=r.length
 refine⟨"list",_,slot_list_getitem.lookup,ht.isList.typeIs,?_⟩
 refine GB ht.isList hs pl pu .none (by simp) ?_ (by rw[Aj]<;>omega)
 rw[vP,<-hlen]
 refine⟨.ref s.heap.objs.size,_,I.laid (t':=s.toks) (o:=.lst (fL xs lo hi)) (λb ob q=>AG _ q) (AM _) ?_,rfl,q _ (I.hok.fresh (AM _))⟩
 exact⟨BH (qd xs lo hi) hz,_,0,(r.drop (HT.bp xs.length 0 lo)).take (HT.bp xs.length xs.length hi-HT.bp xs.length 0 lo),AU _ rfl⟩
def f':V->Bool
 | .non=>true
 | .bl _=>true
 | .int _=>true
 | .str _=>true
 | _=>false
def jF:V->V->Bool
 | .non,.non=>true
 | .bl a,.bl b=>a == b
 | .bl a,.int b=>(if a then 1 else 0) == b
 | .int a,.bl b=>a == (if b then 1 else 0)
 | .int a,.int b=>a == b
 | .str a,.str b=>a == b
 | _,_=>false
theorem KL{A:BQ}{s:AN}{y x:V}{u v:Value}(ry:RelV y u)(rx:RelV x v)(fy:f' y=true)(fx:f' x=true):Cu A s u v (jF y x):=by
 cases y with
 | non=>
  cases ry
  cases x with
  | non=>cases rx;exact IF _
  | bl b=>cases rx;exact SeqAt.EqAt.none_bool b
  | int b=>obtain⟨t,rfl⟩:=rx;exact SeqAt.EqAt.none_int b t
  | str b=>obtain⟨t,rfl⟩:=rx;exact SeqAt.EqAt.none_str b t
  | _=>exact absurd (show false=true from fx) An
 | bl a=>
  cases ry
  cases x with
  | non=>cases rx;exact SeqAt.EqAt.bool_none a
  | bl b=>cases rx;exact SeqAt.EqAt.bool_bool a b
  | int b=>obtain⟨t,rfl⟩:=rx;exact SeqAt.EqAt.bool_int a b t
  | str b=>obtain⟨t,rfl⟩:=rx;exact SeqAt.EqAt.bool_str a b t
  | _=>exact absurd (show false=true from fx) An
 | int a=>
  obtain⟨t',rfl⟩:=ry
  cases x with
  | non=>cases rx;exact SeqAt.EqAt.int_none a t'
  | bl b=>cases rx;exact SeqAt.EqAt.int_bool a t' b
  | int b=>obtain⟨t,rfl⟩:=rx;exact SeqAt.EqAt.int_int a t' b t
  | str b=>obtain⟨t,rfl⟩:=rx;exact HU a t' b t
  | _=>exact absurd (show false=true from fx) An
 | str a=>
  obtain⟨t',rfl⟩:=ry
  cases x with
  | non=>cases rx;exact SeqAt.EqAt.str_none a t'
  | bl b=>cases rx;exact SeqAt.EqAt.str_bool a t' b
  | int b=>obtain⟨t,rfl⟩:=rx;exact HV a t' b t
  | str b=>obtain⟨t,rfl⟩:=rx;exact Hd a t' b t
  | _=>exact absurd (show false=true from fx) An
 | _=>exact absurd (show false=true from fy) An
def kn(x:V)(u:Value):Bool:=match u with
 | .none=>jF .non x
 | .bool b=>jF (.bl b) x
 | .int i _=>jF (.int i) x
 | .str z _=>jF (.str z) x
 | _=>false
theorem KN{x y:V}{u:Value}(r:RelV y u)(f:f' y=true):kn x u=jF y x:=by
 cases y with
 | non=>cases r;rfl
 | bl b=>cases r;rfl
 | int i=>obtain⟨t,rfl⟩:=r;rfl
 | str z=>obtain⟨t,rfl⟩:=r;rfl
 | _=>exact absurd (show false=true from f) An
theorem mF{x:V}:∀{xs:List V} {us:List Value},Vals xs us->xs.all f'=true->us.any (kn x)=xs.any λy=>jF y x
 | _,_,.nil,_=>rfl
 | y::xs,u::us,.cons r t,f=>by
  rw[Ew,CV] at f
  rw[CY,CY,KN r f.1,mF t f.2]
theorem ko{A:BQ}{s:AN}{x:V}{v:Value}(rx:RelV x v)(fx:f' x=true):∀{xs:List V} {us:List Value},Vals xs us->xs.all f'=true->∀u∈us,Cu A s u v (kn x u)
 | _,_,.nil,_=>λu hu=>by cases hu
 | y::xs,u::us,.cons r t,f=>λu' hu=>by
  rw[Ew,CV] at f
  rcases Ak.mp hu with rfl | hu
  ·rw[KN r f.1];exact KL r rx f.1 fx
  ·exact ko rx fx t f.2 u' hu
def inV(x:V)(xs:List V):Bool:=xs.any λy=>jF y x
def PX(K:AE)(neg:Bool):R2:=λx y H Q=>∃p xs,y=.ref p/\(bC K H p xs∨bN K H p xs)/\f' x=true/\xs.all f'=true/\Q (.bl (if neg then !inV x xs else inV x xs)) H
theorem KO:cQ X (CB .In) (PX X.K false):=by
 intro pins s σ H x y v u Q I rx ry h
 obtain⟨p,xs,rfl,hq,fx,fs,q⟩:=h
 cases ry
 rcases hq with hq | hq
 ·obtain⟨its,r,pl,hz⟩:=I.list hq
  refine SeqAt.in_listAt (kn x) pl.isList (λw hw=>ko rx fx r fs w (by simpa using hw)) ⟨.bl _,H,I,rfl,?_⟩
  rw[show its.toArray.any (kn x)=its.any (kn x) by simp,mF r fs]
  exact q
 ·obtain⟨its,r,pl,hz⟩:=I.tuple hq
  refine SeqAt.in_tupleAt (kn x) pl (λw hw=>ko rx fx r fs w (by simpa using hw)) ⟨.bl _,H,I,rfl,?_⟩
  rw[show its.toArray.any (kn x)=its.any (kn x) by simp,mF r fs]
  exact q
theorem wR:cQ X (CB .NotIn) (PX X.K true):=by
 intro pins s σ H x y v u Q I rx ry h
 obtain⟨p,xs,rfl,hq,fx,fs,q⟩:=h
 cases ry
 rcases hq with hq | hq
 ·obtain⟨its,r,pl,hz⟩:=I.list hq
  refine SeqAt.notIn_listAt (kn x) pl.isList (λw hw=>ko rx fx r fs w (by simpa using hw)) ⟨.bl _,H,I,rfl,?_⟩
  rw[show its.toArray.any (kn x)=its.any (kn x) by simp,mF r fs]
  exact q
 ·obtain⟨its,r,pl,hz⟩:=I.tuple hq
  refine SeqAt.notIn_tupleAt (kn x) pl (λw hw=>ko rx fx r fs w (by simpa using hw)) ⟨.bl _,H,I,rfl,?_⟩
  rw[show its.toArray.any (kn x)=its.any (kn x) by simp,mF r fs]
  exact q
theorem wU:cZ X (.type "list") (λxs H Q=>∃p ys,xs=[.ref p]/\(bC X.K H p ys∨bN X.K H p ys)/\∀l,H l=none->Q (.ref l) (upd H l (.lst ys))):=by
 intro pins s σ H xs us Q I r h
 obtain⟨p,ys,rfl,hq,q⟩:=h
 obtain⟨u,rfl,rx⟩:=vals1 r
 cases rx
 have fin:∀(its:List Value),Vals ys its->ys.length<=sizeLine->∀(h':Heap) (c':Nat),(∀b o',s.heap.get? b=some o'->h'.get? b=some o')->
   h'.get? s.heap.objs.size=some {cls:=.type "list",dict:=none,data:=.seq its.toArray c',slots:= #[]}->EP X pins σ Q (.ref s.heap.objs.size) {s with heap:=h'}:=λits r' hz h' c' kp e=>
  ⟨.ref s.heap.objs.size,_,I.laid (t':=s.toks) kp (AM _) (show bE X.prog X.w _ h' _ (.lst ys) from⟨hz,its,c',r',e⟩),rfl,q _ (I.hok.fresh (AM _))⟩
 rcases hq with hq | hq
 ·obtain⟨its,r',pl,hz⟩:=I.list hq
  have hlen:=r'.length
  obtain⟨o,ho,hc,n,hd⟩:=pl.isList
  exact call_list_seq p (.inl rfl) ho hc hd (λh' c' kp e=>fin its r' hz h' c' kp e) (by simp only[Aj]<;>omega)
 ·obtain⟨its,r',pl,hz⟩:=I.tuple hq
  have hlen:=r'.length
  obtain⟨o,ho,hc,n,hd⟩:=pl
  exact call_list_seq p (.inr rfl) ho hc hd (λh' c' kp e=>fin its r' hz h' c' kp e) (by simp only[Aj]<;>omega)
theorem vQ:cZ X (.type "tuple") (λxs H Q=>∃p ys,xs=[.ref p]/\((bC X.K H p ys/\∀l,H l=none->Q (.ref l) (upd H l (.tup ys)))∨(bN X.K H p ys/\Q (.ref p) H))):=by
 intro pins s σ H xs us Q I r h
 obtain⟨p,ys,rfl,h⟩:=h
 obtain⟨u,rfl,rx⟩:=vals1 r
 cases rx
 rcases h with⟨hq,q⟩ | ⟨hq,q⟩
 ·obtain⟨its,r',pl,hz⟩:=I.list hq
  have hlen:=r'.length
  refine call_tuple_list pl.isList (λh' kp=>?_) (by simp only[Aj]<;>omega)
  have I1:Inv X pins σ H {s with heap:=h'}:=I.kept (t':=s.toks) kp
  have I2:Inv X pins σ (upd H h'.objs.size (.tup ys)) {s with heap:=h'.push {cls:=.type "tuple",data:=.seq its.toArray}}:=
   I1.laid (t':=s.toks) (λb o e=>AG _ e) (AM _) (show bE X.prog X.w _ _ _ (.tup ys) from⟨⟨hz,_,AU _ rfl,rfl⟩,its,r',Hz _ _⟩)
  exact⟨.ref h'.objs.size,_,I2,rfl,q _ (I1.hok.fresh (AM _))⟩
 ·obtain⟨its,r',pl,hz⟩:=I.tuple hq
  exact call_tuple_same pl ⟨.ref p,H,I,rfl,q⟩
def SR(K:AE)(T:String)(x:V)(H:Hp):Prop:=match x with
 | .str _=>T="str"
 | .int _=>T="int"
 | .ref p=>(T="list"/\∃xs,bC K H p xs)∨(T="tuple"/\∃o,K.lookup p=some o/\o.cls=.type "tuple"/\o.dict=none)∨
   (T="dict"/\((∃kvs,H p=some (.dK kvs))∨∃kvs,H p=some (.dT kvs)))∨(T="set"/\∃S n,H p=some (.set S n))
 | _=>False
theorem KP{pins:List (Addr×Obj)}{σ:St}{H:Hp}{s:AN}{T:String}{x:V}{v:Value}(I:Inv X pins σ H s)(r:RelV x v)(ty:SR X.K T x H):
  s.TypeIs v T/\∀a,v=.ref a->∃ob,s.heap.get? a=some ob/\ob.dict=none:=by
 cases x with
 | str z=>
  obtain⟨t,rfl⟩:=r
  cases(show T="str" from ty)
  exact⟨GZ s z t,λ_ e=>nomatch e⟩
 | int i=>
  obtain⟨t,rfl⟩:=r
  cases(show T="int" from ty)
  exact⟨Ga s i t,λ_ e=>nomatch e⟩
 | ref p=>
  cases r
  rcases ty with⟨rfl,xs,hq⟩ | ⟨rfl,o,hk,hc,hd⟩ | ⟨rfl,hk⟩ | ⟨rfl,S,n,hk⟩
  ·obtain⟨its,_,pl,_⟩:=I.list hq
   refine⟨pl.isList.typeIs,λa e=>?_⟩
   cases e
   obtain⟨o,n,e,c,hd,_⟩:=pl
   exact⟨o,e,hd⟩
  ·refine⟨⟨o,I.h_ p o hk,hc⟩,λa e=>?_⟩
   cases e
   exact⟨o,I.h_ _ o hk,hd⟩
  ·have z:∃o,s.heap.get? p=some o/\o.ExactDict:=by
    rcases hk with⟨kvs,hk⟩ | ⟨kvs,hk⟩
    ·obtain⟨_,_,_,_,o,_,_,e,ex,_⟩:=I.hok p _ hk
     exact⟨o,e,ex⟩
    ·obtain⟨_,_,_,_,o,_,_,e,ex,_⟩:=I.hok p _ hk
     exact⟨o,e,ex⟩
   obtain⟨o,e,ex⟩:=z
   refine⟨⟨o,e,ex.1⟩,λa e2=>?_⟩
   cases e2
   exact⟨o,e,ex.2.1⟩
  ·obtain⟨o,_,_,_,e,ex,_⟩:=I.hok p _ hk
   refine⟨⟨o,e,ex.1⟩,λa e2=>?_⟩
   cases e2
   exact⟨o,e,ex.2.1⟩
 | _=>exact Bt ty
def Ze(K:AE)(T:String)(r:V->List V->Hp->VK->Prop)(to:TE):TE:=λσ H Q=>to σ H λx H1=>SR K T x H1/\r x [] H1 Q
def tBM(K:AE)(T:String)(r:V->List V->Hp->VK->Prop)(to:TE)(t:TA):TE:=λσ H Q=>to σ H λx H1=>SR K T x H1/\t σ H1 λxs H2=>r x xs H2 Q
variable{o e:Expr}{es:List Expr}{to:TE}{t:TA}{name:Str}{apos cpos:Pos}{T id:String}{r:V->List V->Hp->VK->Prop}
theorem KQ(pa:PlainAttrs T)(slot:Slot T name id)(hty:typeOf (.builtin id)=pure (.type "method_descriptor"))(hm:Xt X id r)(ho:PE X o to)
  (hbase:GC o name X.env (eval o X.env)=eval o X.env:=by rfl) (hline:(apos.endLine == cpos.line)=true:=by rfl):PE X (.Call (.Attribute o name apos) [] [] cpos) (Ze X.K T r to):=by
 intro pins s σ H Q I h
 refine wpAny_Call_method0_late hbase hline (aM (ho pins s σ H _ I h) λv s1 ⟨x,H1,I1,r1,ty,q1⟩=>?_)
 obtain⟨h1,h2⟩:=KP I1 r1 ty
 exact⟨T,id,pa,slot,hty,h1,h2,DY rfl (PySem.evalArgs_none (hm pins s1 σ H1 x [] v [] Q I1 r1 .nil q1))⟩
theorem cC(pa:PlainAttrs T)(slot:Slot T name id)(hty:typeOf (.builtin id)=pure (.type "method_descriptor"))(hm:Xt X id r)(ho:PE X o to)(ha:PA X (e::es) t)
  (hbase:GC o name X.env (eval o X.env)=eval o X.env:=by rfl)
  (hfew:((Dr cpos (BL (e::es) X.env)).all (λx=> !x.1)&&(backToKw cpos (keywordEach [] X.env)).all (λx=>x.1.isSome)
   &&decide ((e::es).length+([]:List Hj).length+(if([]:List Hj).isEmpty then 0 else 1)<30))=true:=by rfl)
  (hline:(apos.endLine == cpos.line)=true:=by rfl) (hs:BL (e::es) X.env=(false,eval e X.env)::BL es X.env:=by rfl) (hplain:(Dr cpos (BL es X.env)).any (·.1)=false:=by rfl):
  PE X (.Call (.Attribute o name apos) (e::es) [] cpos) (tBM X.K T r to t):=by
 intro pins s σ H Q I h
 refine wpAny_Call_method_late hbase hfew hline rfl (aM (ho pins s σ H _ I h) λv s1 ⟨x,H1,I1,r1,ty,q1⟩=>?_)
 obtain⟨h1,h2⟩:=KP I1 r1 ty
 refine⟨T,id,pa,slot,hty,h1,h2,?_⟩
 have hA:=ha cpos pins s1 σ H1 _ I1 q1
 rw[hs] at hA ⊢
 refine DY (by show(false||(Dr cpos (BL es X.env)).any (·.1))=false;rw[hplain]<;>rfl) (Dv ?_)
 exact aM hA λus s2 ⟨vs,H2,I2,r2,q2⟩=>hm pins s2 σ H2 x vs v us Q I2 r1 r2 q2
end
def wV(X:Cx)(id:String)(r:V->List V->Hp->VK->Prop):Prop:=
 ∀(pins:List (Addr×Obj)) (s:AN) (σ:St) (H:Hp) (x:V) (xs:List V) (v:Value) (us:List Value) (Q:VK),Inv X pins σ H s->RelV x v->Vals xs us->r x xs H Q->
  wpAny (model X.prog X.w) X.A (call (.builtin id) (v::us)) (EP X pins σ Q) X.xe s
theorem Vals.one:∀{x:V} {us:List Value},Vals [x] us->∃u,us=[u]/\RelV x u
 | _,_,.cons r .nil=>⟨_,rfl,r⟩
theorem Vals.zero:∀{us:List Value},Vals [] us->us=[]
 | _,.nil=>rfl
theorem Vals.dropLast{xs:List V}{us:List Value}(h:Vals xs us):Vals xs.dropLast us.dropLast:=by
 induction h with
 | nil=>exact .nil
 | cons r t ih=>
  cases t with
  | nil=>exact .nil
  | cons q t'=>exact .cons r ih
theorem Vals.rep{xs:List V}{us:List Value}(h:Vals xs us):∀k:Nat,Vals (AO k xs).flatten (AO k us).flatten
 | 0=>.nil
 | k+1=>by
  rw[Bz,Bz,Dp,Dp]
  exact Vals.append h (Vals.rep h k)
theorem Je{α:Type}(l:List α):l.eraseIdx (l.length-1)=l.dropLast:=by
 induction l with
 | nil=>rfl
 | cons a r ih=>
  cases r with
  | nil=>rfl
  | cons b r=>
   have e:(a::b::r).length-1=((b::r).length-1)+1:=by
    have h1:(a::b::r).length=r.length+2:=rfl
    have h2:(b::r).length=r.length+1:=rfl
    omega
   rw[e,List.eraseIdx_cons_succ,ih]
   all_goals rfl
theorem foldl_rep(its:List Value):∀(k:Nat) (acc:List Value),
  FU (λx1 x2=>x1++x2) acc.toArray (AO k its.toArray)=(acc++(AO k its).flatten).toArray
 | 0,acc=>by simp
 | k+1,acc=>by
  have e:acc.toArray++its.toArray=(acc++its).toArray:=by simp
  have e2:(acc++its)++(AO k its).flatten=acc++(AO (k+1) its).flatten:=by
   rw[Bz,Dp,C_]
  rw[<-e2,<-foldl_rep its k (acc++its),<-e,Bz,List.foldl_cons]
section
variable{X:Cx}{pins:List (Addr×Obj)}{σ:St}{H:Hp}{s:AN}{l b:Addr}{xs ys zs:List V}
theorem Inv.NT{its its':List Value}{n:Nat}{f:Array Value->Array Value}{t':Nat}(I:Inv X pins σ H s)(hH:H l=some (.lst xs))
  (e:s.heap.get? l=some {cls:=.type "list",data:=.seq its.toArray n}) (hf:f its.toArray=its'.toArray) (hv:Vals ys its') (hz:ys.length<=sizeLine):
  Inv X pins σ (upd H l (.lst ys)) {s with heap:=s.heap.update l (Du f),toks:=t'}:=by
 have q:=PySem.IsL.update e f
 rw[hf] at q
 refine I.write (x:=l) (e:=l) (by rw[hH];exact trivial) (.inl rfl) (λb' u hb hu=>(DX s.heap (Du f) (Ck hb)).trans hu) ⟨_,q⟩ ?_
 exact⟨hz,its',_,hv,q⟩
theorem Inv.NU{its:List Value}{t':Nat}(I:Inv X pins σ H s)(hv:Vals ys its)(hz:ys.length<=sizeLine):
  Inv X pins σ (upd H s.heap.objs.size (.lst ys)) {s with heap:=s.heap.push {cls:=.type "list",data:=.seq its.toArray},toks:=t'}:=
 I.laid (λ_ _ q=>AG _ q) (AM _) ⟨hz,its,0,hv,AU _ rfl⟩
theorem Inv.fresh(I:Inv X pins σ H s):H s.heap.objs.size=none:=I.hok.fresh (AM _)
theorem Inv.qB(I:Inv X pins σ H s)(hH:H l=some (.lst xs)):xs.length<=sizeLine/\∃(its:List Value) (n:Nat),Vals xs its/\xs.length=its.length/\s.heap.get? l=some {cls:=.type "list",data:=.seq its.toArray n}:=by
 obtain⟨z,its,n,r,e⟩:=I.hok l _ hH
 exact⟨z,its,n,r,r.length,e⟩
theorem wW{n:Nat}(h:n<=sizeLine):DH n=false:=by
 unfold DH
 exact decide_eq_false (by omega)
end
section
variable{X:Cx}
def Ra:V->List V->Hp->VK->Prop:=λx vs H Q=>∃l xs y,x=.ref l/\vs=[y]/\H l=some (.lst xs)/\xs.length<sizeLine/\Q .non (upd H l (.lst (xs++[y])))
theorem bz:wV X "list.append" Ra:=by
 intro pins s σ H x vs v us Q I rx rv h
 obtain⟨l,xs,y,rfl,rfl,hH,hz,q⟩:=h
 cases rx
 obtain⟨u,rfl,ru⟩:=rv.one
 obtain⟨z,its,n,r,hl,e⟩:=I.qB hH
 refine En F.slot_list_append ⟨_,e,rfl⟩ F.entry_list_append (F.args_list_append_2 _ _) (PySem.list_append l its.toArray n u (by rw[Aj];omega)) ⟨e,?_⟩
 refine⟨.non,_,I.NT (its':=its++[u]) hH e (by simp) (r.append (.cons ru .nil)) ?_,rfl,q⟩
 rw[AH,Dm]
 omega
def Rb:V->List V->Hp->VK->Prop:=λx vs H Q=>∃l b xs zs,x=.ref l/\vs=[.ref b]/\H l=some (.lst xs)/\H b=some (.lst zs)/\xs.length+zs.length<=sizeLine/\Q .non (upd H l (.lst (xs++zs)))
theorem kX:wV X "list.extend" Rb:=by
 intro pins s σ H x vs v us Q I rx rv h
 obtain⟨l,b,xs,zs,rfl,rfl,hH,hB,hz,q⟩:=h
 cases rx
 obtain⟨u,rfl,ru⟩:=rv.one
 cases ru
 obtain⟨z,its,n,r,hl,e⟩:=I.qB hH
 obtain⟨z2,its2,n2,r2,hl2,e2⟩:=I.qB hB
 have hsz:its.toArray.size+its2.toArray.size<=sizeLine:=by rw[Aj,Aj];omega
 have Jf:¬(!its.toArray.isEmpty&&DH (its.toArray.size+its2.toArray.size))=true:=by
  rw[wW hsz,FV]
  exact An
 refine En F.slot_list_extend ⟨_,e,rfl⟩ F.entry_list_extend (F.args_list_extend_2 _ _)
  (AutoSeq1.list_extend_list_list_0 l its.toArray n b its2.toArray n2 Jf (by rw[Aj];omega) (by omega)) ⟨e,e2,?_⟩
 refine⟨.non,_,I.NT (its':=its++its2) hH e (by simp) (r.append r2) ?_,rfl,q⟩
 rw[AH]
 omega
def Zf:V->List V->Hp->VK->Prop:=λx vs H Q=>∃l xs y,x=.ref l/\vs=[]/\H l=some (.lst xs)/\xs[xs.length-1]? =some y/\Q y (upd H l (.lst xs.dropLast))
theorem KR:wV X "list.pop" Zf:=by
 intro pins s σ H x vs v us Q I rx rv h
 obtain⟨l,xs,y,rfl,rfl,hH,hy,q⟩:=h
 cases rx
 have hus:=rv.zero
 subst hus
 obtain⟨z,its,n,r,hl,e⟩:=I.qB hH
 obtain⟨u,hu,ru⟩:=r.get hy
 have hy':its.toArray[its.toArray.size-1]? =some u:=by
  show its.toArray[its.length-1]? =some u
  rw[<-Bs,<-hl]
  exact hu
 refine En F.slot_list_pop ⟨_,e,rfl⟩ F.entry_list_pop (F.args_list_pop_1 _) (MeetsSeq.list_pop_last l its.toArray n u hy' (by rw[Aj];omega)) ⟨e,?_⟩
 refine⟨y,_,I.NT (its':=its.dropLast) hH e ?_ r.dropLast ?_,ru,q⟩
 ·show its.toArray.eraseIdxIfInBounds (its.toArray.size-1)=its.dropLast.toArray
  rw[Aj,List.eraseIdxIfInBounds_toArray,Je]
 ·rw[G7]
  omega
def Zg:R2:=λx y H Q=>∃l b xs zs,x=.ref l/\y=.ref b/\H l=some (.lst xs)/\H b=some (.lst zs)/\xs.length+zs.length<=sizeLine/\∀p,H p=none->Q (.ref p) (upd H p (.lst (xs++zs)))
theorem KS:cQ X (CQ .Add) Zg:=by
 intro pins s σ H x y v u Q I rx ry h
 obtain⟨l,b,xs,zs,rfl,rfl,hH,hB,hz,q⟩:=h
 cases rx
 cases ry
 obtain⟨z,its,n,r,hl,e⟩:=I.qB hH
 obtain⟨z2,its2,n2,r2,hl2,e2⟩:=I.qB hB
 refine PySem.P.add_list e e2 ?_ (by rw[Aj,Aj];omega)
 have ea:its.toArray++its2.toArray=(its++its2).toArray:=by simp
 rw[ea]
 exact⟨.ref _,_,I.NU (t':=s.toks) (r.append r2) (by rw[AH];omega),rfl,q _ I.fresh⟩
def Zh:R2:=λx y H Q=>∃l k xs,x=.ref l/\y=.int k/\H l=some (.lst xs)/\ -(2 ^ 63)<=k/\k<2 ^ 63/\xs.length*k.toNat<=sizeLine/\
 ∀p,H p=none->Q (.ref p) (upd H p (.lst (AO k.toNat xs).flatten))
theorem len_rep{α:Type}(xs:List α)(k:Nat):(AO k xs).flatten.length=k*xs.length:=by
 induction k with
 | zero=>simp
 | succ k ih=>rw[Bz,Dp,AH,ih,Nat.succ_mul,Nat.add_comm]
theorem SU:cQ X (CQ .Mult) Zh:=by
 intro pins s σ H x y v u Q I rx ry h
 obtain⟨l,k,xs,rfl,rfl,hH,h1,h2,hz,q⟩:=h
 cases rx
 obtain⟨t,rfl⟩:=ry
 obtain⟨z,its,n,r,hl,e⟩:=I.qB hH
 have hlen:its.toArray.size*k.toNat<=sizeLine:=by rw[Aj,<-hl];exact hz
 have hcap:¬its.toArray.size*k.toNat>(2 ^ 63-1) / 8:=by
  have:(sizeLine:Nat)<=(2 ^ 63-1) / 8:=by decide
  omega
 have hfit:¬(!Builtin.List.listFitsIndex k)=true:=by
  rw[fitsIndex_both h1 h2]
  exact An
 have Jf:¬DH (its.toArray.size*k.toNat)=true:=by
  rw[wW hlen]
  exact An
 have hnew:FU (λx1 x2=>x1++x2) #[] (AO (if its.toArray.isEmpty=true then 0 else k.toNat) its.toArray)=(AO k.toNat its).flatten.toArray:=by
  have f0:∀m:Nat,FU (λx1 x2=>x1++x2) #[] (AO m its.toArray)=(AO m its).flatten.toArray:=λm=>by
   have:=foldl_rep its m []
   rw[EI] at this
   exact this
  rw[f0]
  cases its with
  | nil=>simp
  | cons a r'=>rw[if_neg (by simp)]
 refine Fl (T:="list") (U:="int") (by decide) ⟨_,e,rfl⟩ (λs'=>Ga s' k t) noFill_list_mul F.fills_int_mul F.slot_int_rmul repeat_list F.slot_int_index.lookup
  (En F.slot_int_rmul (Ga s k t) F.entry_int_rmul (F.args_int_rmul_2 _ _) (int___rmul___int_list k t l its.toArray n)
   ⟨e,rfl,⟨_,e,rfl⟩,En F.slot_list_mul ⟨_,e,rfl⟩ F.entry_list_mul (F.args_list_mul_2 _ _) (AutoListH.list___mul___list_int_3 l its.toArray n k t hfit hcap Jf) ⟨e,?_⟩⟩)
 rw[hnew]
 exact⟨.ref _,_,I.NU (t':=s.toks) (r.rep k.toNat) (by rw[len_rep,C'];exact hz),rfl,q _ I.fresh⟩
end
end L2
namespace Xu
open PySem PySem.W PySem.Calls PyProof.Rows
theorem rE{P:Params}{h:Heap}:∀(ns:List Int) (vs:List Value),WellAll P h vs (ns.map WData.int)->CP vs ns:=by
 intro ns
 induction ns with
 | nil=>
  intro vs w
  rw[CH] at w
  cases w
  exact .nil
 | cons n ns ih=>
  intro vs w
  rw[A0] at w
  cases w with
  | cons a b=>
   cases a
   exact .cons _ _ (ih _ b)
theorem KU{l:OpenLaw}{n:Nat}(hn:l.most=some n){P:Params}{h:Heap}{args:List WData}{vals:List Value}
  (hpre:l.row.toRowW.claim.pre args=true) (hwl:WellAll P h vals args):
  ∃a vs ns,vals=[Bq a]/\args=[WData.list (ns.map WData.int)]/\h.get? a=some {cls:=.type "list",data:=.seq vs.toArray}/\CP vs ns/\ns.length<=n:=by
 have hsh:WShape.hasAll [] args [.list .int]=true:=(pre_splitW hpre).1
 have hc:l.pre.holds [] {args:=args}=true:=(pre_splitW hpre).2
 obtain⟨d,r,rfl,h1,h2⟩:=hasAllW_cons hsh
 obtain rfl:=hasAllW_nil h2
 obtain⟨xs,rfl,h3⟩:=hasW_list h1
 obtain⟨ns,rfl⟩:=items_int h3
 have hlen:ns.length<=n:=by
  unfold OpenLaw.pre at hc
  have h4:(WTm.not (.lt (.lit (.int (n:Int))) (.len (.arg 0)))).holds [] {args:=[.list (ns.map .int)]}=true:=by
   have h4:=(holds_andW hc).1
   rw[hn] at h4
   exact h4
  have h5:=condW_of h4 (w_not (w_lt w_lit (w_len_list (w_arg rfl))))
  rw[AA] at h5
  refine Nat.le_of_not_lt λq=>?_
  have q':(n:Int)<((ns.length:Nat):Int):=by omega
  first
   | (rw[decide_eq_true q'] at h5;exact absurd h5 (by decide))
   | (simp at h5;omega)
 cases hwl with
 | cons w1 w2=>
  cases w2
  cases w1 with
  | list ho hall=>exact⟨_,_,ns,rfl,rfl,ho,rE ns _ hall,hlen⟩
theorem KW(l:OpenLaw)(args:List WData):l.row.toRowW.claim.post args (.bool true) args=true:=
 postW_of (r:=l.row.toRowW) (X:=(true == true))
  (show WShape.has [] (.bool true) .bool=true by first | rfl | decide | simp[WShape.has,WShape.arms,WShape.armsAll])
  (show(WTm.eq .res (.lit (.bool true))).value [] {args:=args,res:=some (.bool true),after:=args}=some (.bool (true == true)) from w_eq_bool (w_res rfl) w_lit) rfl
theorem yK{l:OpenLaw}{n:Nat}{q:Az}{loose:List Str}{XP:(Str->Option Value)->Heap->Prop}{YP:World->Heap->Prop}{d:DefRec}
  (hn:l.most=some n) (hdf:d.params.defaults=[])
  (call:∀(w:World) (s₀ s₁:AN) (mg mb:Str->Option Value) (fa:Addr) (o:Obj) (pm cd doc:Value) (a:Addr) (vs:List Value) (ns:List Int),
   Ground q loose [] XP w s₀ mg mb s₁.heap->YP w s₁.heap->
   s₁.heap.get? fa=some o->o.data=.func (docDef d.name d.params d.body d.scope pm cd doc)->s₁.heap.CodeRec cd d.name->mg d.name=some (.ref fa)->
   s₁.heap.get? a=some {cls:=.type "list",data:=.seq vs.toArray}->CP vs ns->ns.length<=n->s₁.gens= #[]->
   Ft (model l.prog w) HH (.call (.ref fa) ⟨[.ref a],[]⟩) (λr s'=>r=.ok (.ret (.bool true))/\OldK s₁.heap s'.heap/\s'.os=s₁.os/\Fq s'.gens) s₁):
  WalkO q loose XP YP l.row.toRowW d [] (λf vs=>II f vs):=by
 intro w s₀ s₁ mg mb G Y fa o pm cd doc dV kV ho hd hcd hD hmg hg args vals as hpre hlay hrd hwl hlo
 obtain rfl:dV=.none:=Dflts.none hD hdf
 obtain rfl:kV=.none:=Dflts.noKw hD
 obtain⟨a,vs,ns,rfl,rfl,hobj,hints,hlen⟩:=KU hn hpre hwl
 refine enter_call (EU (call w s₀ s₁ mg mb fa o pm cd doc a vs ns G Y ho (fd_plain hd) hcd hmg hobj hints hlen hg) λr s' hq=>?_)
 obtain⟨rfl,h2,h3,h4⟩:=hq
 exact⟨.inl ⟨.bool true,.bool true,[],rfl,λ_=>rfl,.bool true,KW l _,λ_=>⟨Hk,λ_ hm=>(nomatch hm)⟩⟩,h2,h3,h4⟩
end Xu
namespace L2
open PySem PySem.Spec PyProof.Rows
theorem kY:∀{vs:List Value} {ns:List Int},CP vs ns->Vals (ns.map V.int) vs
 | _,_,.nil=>.nil
 | _,_,.cons n t h=>.cons ⟨t,rfl⟩ (kY h)
def aL(s:Stmt):Cs:=match s with
 | .FunctionDef _ a _ _ _ _ _ _ _ _=>a
 | _=>{posonlyargs:=[],args:=[],vararg:=none,kwonlyargs:=[],kw_defaults:=[],kwarg:=none,defaults:=[]}
def aK(s:Stmt):List Stmt:=match s with
 | .FunctionDef _ _ b _ _ _ _ _ _ _=>b
 | _=>[]
def aj(s:Stmt):Scope:=match s with
 | .FunctionDef _ _ _ _ _ _ sc _ _ _=>sc
 | _=>{kind:=.function,names:=[],isGenerator:=false,isCoroutine:=false}
abbrev bK:oM:=λ_ _ _ _ _ _=>False
abbrev E0:XK:=λ_ _ _=>False
theorem aN{X:Cx}:Passes bK X E0:=λ_ _ _ _ _ _ _ h=>h.elim
structure dO (K:AE)(x qual:Str)(st:Stmt)(f:Addr)(fd:BC):Prop where
 ex:∃(oc:Value) (od:Option Addr) (kV doc pm:Value) (an:Option Addr) (cdv ct:Value) (osl:Array (Option Value)),
  fd=Al x qual (aL st) (aK st) (aj st) .none kV doc pm an cdv ct/\K.lookup f=some ⟨oc,od,.func fd,osl⟩/\Ax K cdv qual=true
 kp:AR K (.ref f)=true
section
variable{P:Az}{w:World}{K:AE}{mg:Str->Option Value}{base:Heap}
theorem dO.ok{x qual:Str}{st:Stmt}{f:Addr}{fd:BC}{N ps:List Str}{k:Nat}{sp:Sp}(F:dO K x qual st f fd)(S:aU N ps (aj st))(len:∀vs H Q E,sp vs H Q E->vs.length=ps.length)
  (hbody:∀(cdv:Value) (A:BQ) (outer:List Env) (s:AN) (H:Hp) (vs:List V) (Q:VK) (E:XK),aQ k (A.deeper (E7 qual (aj st) s.heap.objs.size f cdv))->sp vs H Q E->
   ∃t,jE (kj bK P w K mg base N qual (aj st) f cdv A outer s H E).qc (aK st) t/\t {nx:=λ_ H'=>Q .non H',rt:=Q} (start N vs) H):aV P w K mg base bK (k+1) f fd ps sp:=by
 obtain⟨oc,od,kV,doc,pm,an,cdv,ct,osl,rfl,lk,hcd⟩:=F.ex
 refine PV lk hcd S len λA outer s H vs Q E hr hsp=>?_
 obtain⟨t,h,q⟩:=hbody cdv A outer s H vs Q E hr hsp
 exact⟨t,h.qc,q⟩
theorem dO.binds{x qual:Str}{st:Stmt}{f:Addr}{fd:BC}{ps:List Str}(F:dO K x qual st f fd)
  (h:∀(kV doc pm:Value) (an:Option Addr) (cdv ct:Value) (us:List Value),us.length=ps.length->G5 (Al x qual (aL st) (aK st) (aj st) .none kV doc pm an cdv ct) ⟨us,[]⟩=pure (ps.zip us)):Binds K fd ps []:=by
 obtain⟨oc,od,kV,doc,pm,an,cdv,ct,osl,rfl,lk,hcd⟩:=F.ex
 exact .all (h kV doc pm an cdv ct)
theorem bZ{x qual:Str}{st:Stmt}{f:Addr}{oc:Value}{od an:Option Addr}{osl:Array (Option Value)}{kV doc pm cdv ct:Value}(l:K.lookup f=some ⟨oc,od,.func (Al x qual (aL st) (aK st) (aj st) .none kV doc pm an cdv ct),osl⟩)
  (c:Ax K cdv qual=true) (k:AR K (.ref f)=true):dO K x qual st f (Al x qual (aL st) (aK st) (aj st) .none kV doc pm an cdv ct):=⟨⟨oc,od,kV,doc,pm,an,cdv,ct,osl,rfl,l,c⟩,k⟩
end
theorem cN{A:BQ}{k:Nat}(hr:aQ k A):A.units+1<cLine:=Cv (Nat.add_le_add_left (by decide:1<=64) _) hr.units
section
variable{X:Cx}
theorem pv(i:Nat){x:Str}{pos:Pos}(hN:X.N[i]? =some x:=by rfl)(hv:zj X.env.scope x:=by first | exact AW rfl | exact CZ (AW rfl) | exact CZ (CZ rfl))(hd:(x == ("__debug__":Str))=false:=by decide)
  (hcd:(x == ("__classdict__":Str))=false:=by decide):PE X (.Name x pos) (NH i):=Sq hN hv hd hcd
end
theorem cX{A B:Prop}(h:B):if false=true then A else B:=by
 rw[if_neg An]
 exact h
theorem fM{A B:Prop}(h:A):if true=true then A else B:=by
 rw[if_pos rfl]
 exact h
theorem cI{c A B:Prop}[Decidable c](h1:c->A)(h2:¬c->B):if c then A else B:=by
 by_cases h:c
 ·rw[if_pos h]
  exact h1 h
 ·rw[if_neg h]
  exact h2 h
def Same(H H':Hp):Prop:=∀b o,H b=some o->H' b=some o
theorem Same.refl(H:Hp):Same H H:=λ_ _ h=>h
theorem Same.trans{H H1 H2:Hp}(a:Same H H1)(b:Same H1 H2):Same H H2:=λc o h=>b c o (a c o h)
theorem Same.free{H H':Hp}(e:Same H H'){l:Addr}(h:H' l=Option.none):H l=Option.none:=by
 cases q:H l with
 | none=>rfl
 | some o=>
  rw[e l o q] at h
  cases h
theorem Same.seq{K:AE}{H H':Hp}{a:Addr}{xs:List V}(e:Same H H')(h:bC K H a xs):bC K H' a xs:=by
 rcases h with(h | ⟨o,h⟩) | h
 ·exact .inl (.inl (e _ _ h))
 ·exact .inl (.inr ⟨o,e _ _ h⟩)
 ·exact .inr h
section
variable{κ:Type}[DecidableEq κ]
def cw(kvs:List (κ×V))(k:κ):Option V:=(kvs.find? λkv=>decide (kv.1=k)).map (·.2)
def putK(kvs:List (κ×V))(k:κ)(v:V):List (κ×V):=
 if(kvs.any λkv=>decide (kv.1=k))=true then kvs.map (λkv=>if kv.1=k then(kv.1,v) else kv) else kvs++[(k,v)]
theorem qC{k:κ}:cw ([]:List (κ×V)) k=none:=rfl
theorem dP{p:κ×V}{r:List (κ×V)}{k:κ}(e:p.1=k):cw (p::r) k=some p.2:=by simp[cw,Dj,e]
theorem cJ{p:κ×V}{r:List (κ×V)}{k:κ}(e:¬p.1=k):cw (p::r) k=cw r k:=by simp[cw,Dj,e]
theorem qD(k:κ):∀kvs:List (κ×V),(kvs.any λkv=>decide (kv.1=k))=(cw kvs k).isSome
 | []=>rfl
 | p::r=>by
  rw[CY]
  by_cases e:p.1=k
  ·simp only[dP e,decide_eq_true e,Hl,Option.isSome_some]
  ·rw[cJ e,decide_eq_false e,Bool.false_or];exact qD k r
theorem iW(kvs:List (κ×V))(k:κ)(v:V):(putK kvs k v).length<=kvs.length+1:=by
 unfold putK
 split
 ·rw[AA];omega
 ·rw[AH,A',Dk];omega
theorem kq{kvs:List (κ×V)}{k:κ}(v:V)(h:cw kvs k=none):putK kvs k v=kvs++[(k,v)]:=by
 unfold putK
 rw[qD,h]
 exact if_neg (by decide)
theorem j'.oN{o:Option V}{u:Option Value}(r:j' o u):o.isSome=u.isSome:=by
 cases o with
 | none=>cases u with
  | none=>rfl
  | some _=>exact(show False from r).elim
 | some _=>cases u with
  | none=>exact(show False from r).elim
  | some _=>rfl
theorem KV.val{kvs:List (κ×V)}{vs:List (κ×Value)}(r:KV kvs vs)(k:κ):j' (cw kvs k) (D2 vs k):=by
 unfold KV at r
 induction r with
 | nil=>exact Cd
 | @cons p q ps qs h t ih=>
  obtain⟨h1,h2⟩:=h
  by_cases e:p.1=k
  ·have e':q.1=k:=h1.symm.trans e
   have b:D2 (q::qs) k=some q.2:=by simp[D2,Dj,e']
   rw[dP e,b];exact h2
  ·have e':¬q.1=k:=λz=>e (h1.trans z)
   have b:D2 (q::qs) k=D2 qs k:=by simp[D2,Dj,e']
   rw[cJ e,b];exact ih
theorem KV.any{kvs:List (κ×V)}{vs:List (κ×Value)}(r:KV kvs vs)(k:κ):(kvs.any λkv=>decide (kv.1=k))=vs.any λkv=>decide (kv.1=k):=by
 unfold KV at r
 induction r with
 | nil=>rfl
 | cons h t ih=>rw[CY,CY,ih,h.1]
theorem KV.repl{kvs:List (κ×V)}{vs:List (κ×Value)}(r:KV kvs vs)(k:κ){y:V}{u:Value}(ry:RelV y u):
  KV (kvs.map λkv=>if kv.1=k then(kv.1,y) else kv) (vs.map λkv=>if kv.1=k then(kv.1,u) else kv):=by
 unfold KV at r ⊢
 induction r with
 | nil=>exact .nil
 | @cons p q ps qs h t ih=>
  rw[A0,A0]
  refine .cons ?_ ih
  obtain⟨h1,h2⟩:=h
  by_cases e:p.1=k
  ·rw[if_pos e,if_pos (h1.symm.trans e)];exact⟨h1,ry⟩
  ·rw[if_neg e,if_neg (λz=>e (h1.trans z))];exact⟨h1,h2⟩
theorem KV.put{kvs:List (κ×V)}{vs:List (κ×Value)}(r:KV kvs vs)(k:κ){y:V}{u:Value}(ry:RelV y u):KV (putK kvs k y) (H_ vs k u):=by
 unfold putK H_
 rw[r.any k]
 by_cases e:(vs.any λkv=>decide (kv.1=k))=true
 ·rw[if_pos e,if_pos e];exact r.repl k ry
 ·rw[if_neg e,if_neg e];exact Paired.snoc r ⟨rfl,ry⟩
theorem KV.length{kvs:List (κ×V)}{vs:List (κ×Value)}(r:KV kvs vs):kvs.length=vs.length:=As r
end
theorem pP{P:Az}{w:World}{k:Key}{u:Value}(r:RelV (kV k) u):(b_ P w).is k u=true:=by
 cases k with
 | inl i=>obtain⟨t,e⟩:=(show ∃t,u=EN i t from r);subst e;exact yI P w i t
 | inr x=>obtain⟨t,e⟩:=(show ∃t,u=GI x t from r);subst e;exact yJ P w x t
theorem u_{P:Az}{w:World}:∀{ks:List Key} {us:List Value},Vals (ks.map kV) us->ItemsAre (b_ P w) ks us
 | [],_,r=>by rw[CH] at r;cases r;exact .nil
 | k::ks,_,r=>by
  rw[A0] at r
  cases r with
  | cons h t=>exact .cons (pP h) (u_ t)
abbrev KT (H:Hp):List (List Key×V)->List (List Key×Addr×Value)->Prop:=DG λp q=>p.1=q.1/\H q.2.1=some (.tup (p.1.map kV))/\RelV p.2 q.2.2
theorem KT.val{H:Hp}{kvs:List (List Key×V)}{xs:List (List Key×Addr×Value)}(r:KT H kvs xs)(k:List Key):j' (cw kvs k) ((atKey xs k).map (·.2)):=by
 induction r with
 | nil=>exact Cd
 | @cons p q ps qs h t ih=>
  obtain⟨h1,_,h2⟩:=h
  by_cases e:p.1=k
  ·have e':q.1=k:=h1.symm.trans e
   have b:atKey (q::qs) k=some q.2:=by simp[atKey,Dj,e']
   rw[dP e,b];exact h2
  ·have e':¬q.1=k:=λz=>e (h1.trans z)
   have b:atKey (q::qs) k=atKey qs k:=by simp[atKey,Dj,e']
   rw[cJ e,b];exact ih
theorem KT.repl{H:Hp}{kvs:List (List Key×V)}{xs:List (List Key×Addr×Value)}(r:KT H kvs xs)(k:List Key){y:V}{u:Value}(ry:RelV y u):
  KT H (kvs.map λkv=>if kv.1=k then(kv.1,y) else kv) (xs.map (putAt k u)):=by
 induction r with
 | nil=>exact .nil
 | @cons p q ps qs h t ih=>
  rw[A0,A0]
  refine .cons ?_ ih
  obtain⟨h1,h2,h3⟩:=h
  unfold putAt
  by_cases e:p.1=k
  ·rw[if_pos e,if_pos (h1.symm.trans e)];exact⟨h1,h2,ry⟩
  ·rw[if_neg e,if_neg (λz=>e (h1.trans z))];exact⟨h1,h2,h3⟩
theorem KT.put{H:Hp}{kvs:List (List Key×V)}{xs:List (List Key×Addr×Value)}(r:KT H kvs xs)(k:List Key){b:Addr}{y:V}{u:Value}(hb:H b=some (.tup (k.map kV)))(ry:RelV y u):
  KT H (putK kvs k y) (storedH xs k b u):=by
 have e:(kvs.any λkv=>decide (kv.1=k))=(atKey xs k).isSome:=by
  rw[qD,(r.val k).oN,Hm]
 unfold putK storedH
 rw[e]
 by_cases q:(atKey xs k).isSome=true
 ·rw[if_pos q,if_pos q];exact r.repl k ry
 ·rw[if_neg q,if_neg q];exact Paired.snoc r ⟨rfl,hb,ry⟩
theorem KT.keeps{H H':Hp}{kvs:List (List Key×V)}{xs:List (List Key×Addr×Value)}(r:KT H kvs xs)(ht:∀b ys,H b=some (.tup ys)->H' b=some (.tup ys)):KT H' kvs xs:=
 Paired.qz r λ_ _ z=>⟨z.1,ht _ _ z.2.1,z.2.2⟩
section
variable{P:Az}{w:World}{H:Hp}{h:Heap}{a:Addr}
theorem PY{u:HO}(ok:dq P w H h)(e:Rd H a u):bE P w H h a u:=e.ok ok
theorem pQ{kvs:List (Key×V)}(ok:dq P w H h)(e:Rd H a (.dK kvs)):kvs.length<=sizeLine/\(a == CL)=false/\∃vs,KV kvs vs/\h.DictOf (b_ P w) a vs:=
 show bE P w H h a (.dK kvs) from PY ok e
theorem wz{kvs:List (Key×V)}(ok:dq P w H h)(e:H a=some (.dK kvs)):kvs.length<=sizeLine/\(a == CL)=false/\∃vs,KV kvs vs/\h.DictOf (b_ P w) a vs:=pQ ok (.inl e)
theorem oO{ks:List Key}(ok:dq P w H h)(e:H a=some (.tup (ks.map kV))):(FL (b_ P w)).is h ks a:=by
 obtain⟨_,its,r,o,h1,h2,n,h3⟩:=(show bE P w H h a (.tup (ks.map kV)) from ok a _ e)
 exact⟨o,its.toArray,n,h1,h2,h3,by simpa using u_ r⟩
theorem rF{kvs:List (List Key×V)}(ok:dq P w H h)(e:Rd H a (.dT kvs)):kvs.length<=sizeLine/\(a == CL)=false/\
  ∃xs,KT H kvs xs/\h.DictOfH (FL (b_ P w)) a xs:=by
 obtain⟨z,y,xs,r,o,es,ep,h1,h2,h3,h4,h5⟩:=(show bE P w H h a (.dT kvs) from PY ok e)
 refine⟨z,y,xs,r,o,es,ep,h1,h2,h3,h4,λx hx=>?_,h5⟩
 have all:∀{l:List (List Key×V)} {m:List (List Key×Addr×Value)},KT H l m->∀x∈m,(FL (b_ P w)).is h x.1 x.2.1:=by
  intro l m q
  induction q with
  | nil=>intro x hx;exact nomatch hx
  | @cons p q ps qs hq t ih=>
   intro x hx
   rcases Ak.mp hx with e | hx
   ·subst e
    exact oO ok (by rw[<-hq.1];exact hq.2.1)
   ·exact ih x hx
 exact all r x hx
theorem PZ{kvs:List (List Key×V)}(ok:dq P w H h)(e:H a=some (.dT kvs)):kvs.length<=sizeLine/\(a == CL)=false/\
  ∃xs,KT H kvs xs/\h.DictOfH (FL (b_ P w)) a xs:=rF ok (.inl e)
end
def oP(H:Hp)(a:Addr)(y:V)(r:Option V):Prop:=
 (∃kvs k,Rd H a (.dK kvs)/\y=kV k/\r=cw kvs k)∨∃kvs k b,Rd H a (.dT kvs)/\y=.ref b/\H b=some (.tup (k.map kV))/\r=cw kvs k
def ju(H:Hp)(a:Addr)(y v:V)(H':Hp):Prop:=
 (∃kvs k,H a=some (.dK kvs)/\y=kV k/\kvs.length<sizeLine/\H'=upd H a (.dK (putK kvs k v)))∨
 ∃kvs k b,H a=some (.dT kvs)/\y=.ref b/\H b=some (.tup (k.map kV))/\kvs.length<sizeLine/\H'=upd H a (.dT (putK kvs k v))
theorem ju.k{H:Hp}{a:Addr}{kvs:List (Key×V)}{k:Key}{v:V}(e:H a=some (.dK kvs))(hl:kvs.length<sizeLine):ju H a (kV k) v (upd H a (.dK (putK kvs k v))):=.inl ⟨kvs,k,e,rfl,hl,rfl⟩
theorem ju.t{H:Hp}{a b:Addr}{kvs:List (List Key×V)}{k:List Key}{v:V}(e:H a=some (.dT kvs))(eb:H b=some (.tup (k.map kV)))(hl:kvs.length<sizeLine):
  ju H a (.ref b) v (upd H a (.dT (putK kvs k v))):=.inr ⟨kvs,k,b,e,rfl,eb,hl,rfl⟩
section
variable{X:Cx}{pins:List (Addr×Obj)}{σ:St}{H:Hp}{s:AN}{a:Addr}{y v:V}{u r:Value}{o:Option V}{A:BQ}{E:Value->AN->Prop}
theorem Inv.big(I:Inv X pins σ H s):CL<s.heap.objs.size:=by
 have h:Ah<s.heap.objs.size:=(I.mod.glob.keeps I.bk).lt
 exact Cp (by decide) h
theorem KY{Q:Value->AN->Prop}(hu:A.units+1<cLine)(I:Inv X pins σ H s)(g:oP H a y (some v))(ry:RelV y u)(h:∀w' s',Inv X pins σ H s'->RelV v w'->Q w' s'):
  wpAny (model X.prog X.w) A (FF (.ref a) u) Q E s:=by
 rcases g with⟨kvs,k,e,ey,l⟩ | ⟨kvs,k,b,e,ey,eb,l⟩
 ·subst ey
  obtain⟨z,hd,vs,rel,dd⟩:=pQ I.hok e
  obtain⟨w',hw,rD⟩:=j'.some_of (v:=v) (o:=D2 vs k) (by rw[l];exact rel.val k)
  exact wpAny_getItem_of (pP ry) dd.mapOf hw (h w' _ (I.tok _) rD)
 ·subst ey
  cases(show u=Bq b from ry)
  obtain⟨z,hd,xs,rel,dd⟩:=rF I.hok e
  obtain⟨w',hw,rD⟩:=j'.some_of (v:=v) (o:=(atKey xs k).map (·.2)) (by rw[l];exact rel.val k)
  obtain⟨p,hp,hp2⟩:=A9.mp hw
  refine wpAny_getItem_heap (FW hu) (oO I.hok eb) dd hp ?_
  rw[hp2]
  exact h w' _ (I.tok _) rD
theorem Rc{Q:Value->AN->Prop}(hu:A.units+1<cLine)(I:Inv X pins σ H s)(g:oP H a y o)(ry:RelV y u)(h:∀s',Inv X pins σ H s'->Q (.bool (!o.isSome)) s'):
  wpAny (model X.prog X.w) A (CB .NotIn u (.ref a)) Q E s:=by
 rcases g with⟨kvs,k,e,ey,l⟩ | ⟨kvs,k,b,e,ey,eb,l⟩
 ·subst ey
  obtain⟨z,hd,vs,rel,dd⟩:=pQ I.hok e
  refine wpAny_notIn_of (pP ry) hd dd.mapOf ?_
  rw[<-(rel.val k).oN,<-l]
  exact h _ (I.tok _)
 ·subst ey
  cases(show u=Bq b from ry)
  obtain⟨z,hd,xs,rel,dd⟩:=rF I.hok e
  refine wpAny_notIn_heap (FW hu) (oO I.hok eb) hd dd ?_
  have q:=(rel.val k).oN
  rw[Hm] at q
  rw[<-q,<-l]
  exact h _ (I.tok _)
theorem mG{h':Heap}{t':Nat}{ob:HO}(I:Inv X pins σ H s)(mu:Kt (H a))(hs:B8 a s.heap h')(he:∃q,h'.get? a=some q)(new:bE X.prog X.w (upd H a ob) h' a ob):
  Inv X pins σ (upd H a ob) {s with heap:=h',toks:=t'}:=
 I.write (x:=a) (e:=a) mu (.inl rfl) (λb q hb z=>(hs.2 b hb).trans z) he new
theorem wX{P:Az}{w:World}{H':Hp}{h':Heap}{kvs:List (Key×V)}{vs:List (Key×Value)}(z:kvs.length<=sizeLine)(hd:(a == CL)=false)(rel:KV kvs vs)(dd:h'.DictOf (b_ P w) a vs):
  bE P w H' h' a (.dK kvs):=⟨z,hd,vs,rel,dd⟩
theorem KZ{H':Hp}{Q:Unit->AN->Prop}(hu:A.units+1<cLine)(I:Inv X pins σ H s)(g:ju H a y v H')(ry:RelV y u)(rv:RelV v r)(h:∀s',Inv X pins σ H' s'->Q () s'):
  wpAny (model X.prog X.w) A (setItem (.ref a) u r) Q E s:=by
 rcases g with⟨kvs,k,e,ey,l,eH⟩ | ⟨kvs,k,b,e,ey,eb,l,eH⟩
 ·subst ey eH
  obtain⟨z,hd,vs,rel,dd⟩:=wz I.hok e
  have hz:vs.length<=sizeLine:=by rw[<-rel.length];exact z
  have hl:(putK kvs k v).length<=sizeLine:=by have:=iW kvs k v;omega
  refine wpAny_setItem_pairs (hsz:=hz) (pP ry) dd λh' oj hs=>h _ ?_
  have he:∃q,h'.get? a=some q:=let ⟨q,_,_,hq,_⟩:=oj;⟨q,hq⟩
  exact mG I (by rw[e];exact Cd) hs he (wX hl hd (rel.put k rv) oj)
 ·subst ey eH
  cases(show u=Bq b from ry)
  obtain⟨z,hd,xs,rel,dd⟩:=PZ I.hok e
  have hz:xs.length<=sizeLine:=by rw[<-As rel];exact z
  have hl:(putK kvs k v).length<=sizeLine:=by have:=iW kvs k v;omega
  refine wpAny_setItem_heap (hsz:=hz) (FW hu) (oO I.hok eb) dd λh' oj hs=>h _ ?_
  obtain⟨q,es,ep,hq,h2,h3,h4,_,h5⟩:=oj
  refine mG I (by rw[e];exact Cd) hs ⟨q,hq⟩ ⟨hl,hd,_,(rel.put k eb rv).keeps λc ys ec=>?_,q,es,ep,hq,h2,h3,h4,h5⟩
  rw[ao (gE ec e (λz=>nomatch z))]
  exact ec
end
def SV(i:Expr):Prop:=∀ov iv,G6 i false ov iv=operate [ov,iv] (FF ov iv)
theorem Rf{prog:Az}{w:World}{A:BQ}{E:Value->AN->Prop}{s:AN}{env:Env}{value slice:Expr}{pos:Pos}{T id:String}{Q:Value->AN->Prop}
  (hl:typeLookup (.type T) "__getitem__"=pure (some (.builtin id))) (hs:SV slice)
  (h:wpAny (model prog w) A (eval value env) (λo s₁=>wpAny (model prog w) A (eval slice env) (λi s₂=>s₂.TypeIs o T/\wpAny (model prog w) A (FF o i) Q E s₂) E s₁) E s):
  wpAny (model prog w) A (eval (.Subscript value slice pos) env) Q E s:=by
 refine GY (B0 h (λo s₁ h₁=>B0 h₁ (λi s₂ h₂=>?_) λ_ _ x=>x) λ_ _ x=>x)
 obtain⟨hT,h₂⟩:=h₂
 unfold Eu
 refine AB ?_
 rw[getitemInPython_of_ne hT.not_modules]
 refine AB (wpAny_specialOf hT hl ?_)
 have fin:wpAny (model prog w) A (G6 slice false o i) (λr s₃=>wpAny (model prog w) A (letTemporaryGo value o r >>= λ_=>pure r) Q E s₃) E s₂:=by
  rw[hs o i]
  exact wpAny_operating (B0 h₂ (λr s₃ h₃=>AB (wpAny_letTemporaryGo (AK h₃))) λ_ _ x=>x)
 first
  | exact AK (AB fin)
  | exact AB (AK (AB fin))
  | exact AB fin
theorem yL{X:Cx}{pins:List (Addr×Obj)}{σ:St}{H:Hp}{s:AN}{a:Addr}{y:V}{o:Option V}(I:Inv X pins σ H s)(g:oP H a y o):s.TypeIs (.ref a) "dict":=by
 rcases g with⟨kvs,k,e,_,_⟩ | ⟨kvs,k,b,e,_,_,_⟩
 ·obtain⟨_,_,vs,_,dd⟩:=pQ I.hok e
  exact dd.typeIs
 ·obtain⟨_,_,xs,_,dd⟩:=rF I.hok e
  exact dd.typeIs
def WC(td ty:TE):TE:=λσ H Q=>td σ H λx H1=>ty σ H1 λy H2=>∃a v,x=.ref a/\oP H2 a y (some v)/\Q v H2
def Rg(ty td:TE):TE:=λσ H Q=>ty σ H λy H1=>td σ H1 λx H2=>∃a o,x=.ref a/\oP H2 a y o/\Q (.bl (!o.isSome)) H2
def WD(td ty tv:TE):TS:=λD σ H=>tv σ H λv H1=>td σ H1 λx H2=>ty σ H2 λy H3=>∃a H4,x=.ref a/\ju H3 a y v H4/\D.nx σ H4
section
variable{X:Cx}{o i e value:Expr}{pos pos' tpos:Pos}{td ty tv:TE}
theorem dJ(hu:X.A.units+1<cLine)(ho:PE X o td)(hi:PE X i ty)(hs:SV i):PE X (.Subscript o i pos) (WC td ty):=by
 intro pins s σ H Q I h
 refine Rf PySem.F.slot_dict_getitem.lookup hs (aM (ho pins s σ H _ I h) λu s1 ⟨x,H1,I1,rx,q1⟩=>aM (hi pins s1 σ H1 _ I1 q1) λiv s2 ⟨y,H2,I2,ry,a,v,ex,g,q2⟩=>?_)
 subst ex
 obtain rfl:u=Bq a:=rx
 exact⟨yL I2 g,KY hu I2 g ry λw' s3 I3 rD=>⟨v,H2,I3,rD,q2⟩⟩
theorem u0(hu:X.A.units+1<cLine)(hi:PE X i ty)(ho:PE X o td):PC X .NotIn i o (Rg ty td):=by
 intro pins s σ H Q I h
 refine aM (hi pins s σ H _ I h) λiv s1 ⟨y,H1,I1,ry,q1⟩=>aM (ho pins s1 σ H1 _ I1 q1) λu s2 ⟨x,H2,I2,rx,a,ov,ex,g,q2⟩=>?_
 subst ex
 obtain rfl:u=Bq a:=rx
 exact Rc hu I2 g ry λs3 I3=>⟨.bl (!ov.isSome),H2,I3,rfl,q2⟩
theorem j_(hu:X.A.units+1<cLine)(ho:PE X o td)(hi:PE X i ty)(hv:PE X value tv)(hs:swapsWith value (some (.Subscript o i pos')) pos.line X.env=pure false):
  PS X (.Assign [.Subscript o i pos'] value pos) (WD td ty tv):=by
 intro pins s σ H D I h
 refine wpAny_Assign_Subscript (aM (hv pins s σ H _ I h) λr s1 ⟨v,H1,I1,rv,q1⟩=>aM (ho pins s1 σ H1 _ I1 q1) λu s2 ⟨x,H2,I2,rx,q2⟩=>aM (hi pins s2 σ H2 _ I2 q2) λiv s3 ⟨y,H3,I3,ry,a,H4,ex,g,q3⟩=>?_) hs
 subst ex
 obtain rfl:u=Bq a:=rx
 exact KZ hu I3 g ry rv λs4 I4=>⟨σ,H4,I4,q3⟩
end
theorem wY{P:Az}{w:World}{H:Hp}(h:Heap)(hb:CL<h.objs.size):bE P w H (h.push {cls:=.type "dict",data:=.dict #[]}) h.objs.size (.dK []):=
 ⟨BI _,beq_eq_false_iff_ne.mpr (Ck (Ap hb)),[],.nil,Heap.DictOf.new h⟩
theorem NV{P:Az}{w:World}{H:Hp}(h:Heap)(hb:CL<h.objs.size):bE P w H (h.push {cls:=.type "dict",data:=.dict #[]}) h.objs.size (.dT []):=
 ⟨BI _,beq_eq_false_iff_ne.mpr (Ck (Ap hb)),[],.nil,_, #[],0,AU _ rfl,⟨rfl,rfl,rfl⟩,rfl,rfl,G8⟩
def SW:TE:=λ_ H Q=>∀p,H p=none->Q (.ref p) (upd H p (.dK []))
section
variable{X:Cx}{pos:Pos}
theorem wZ:PE X (.Dict [] [] pos) SW:=λpins s σ H Q I h=>
 wpAny_Dict_empty ⟨.ref s.heap.objs.size,_,I.laid (a:=s.heap.objs.size) (o:=.dK []) (t':=s.toks) (λ_ _ q=>AG _ q) (AM _) (wY s.heap I.big),rfl,h _ (I.hok.fresh (AM _))⟩
end
def w_:List (TE×TE)->St->Hp->(List (V×V)->Hp->Prop)->Prop
 | [],_,H,Q=>Q [] H
 | (tk,tv)::r,σ,H,Q=>tk σ H λx H1=>tv σ H1 λy H2=>w_ r σ H2 λps H3=>Q ((x,y)::ps) H3
abbrev VV:List (V×V)->List (Value×Value)->Prop:=DG λp q=>RelV p.1 q.1/\RelV p.2 q.2
def K_(X:Cx)(pos:Pos)(keys:List (Option Expr))(values:List Expr)(rG:List (TE×TE)):Prop:=
 ∀(pins:List (Addr×Obj)) (s:AN) (σ:St) (H:Hp) (Q:List (V×V)->Hp->Prop),Inv X pins σ H s->w_ rG σ H Q->
  wpAny (model X.prog X.w) X.A (evalPairs (pairTrees keys values X.env pos)) (λvs s'=>∃ps H',Inv X pins σ H' s'/\VV ps vs/\Q ps H') X.xe s
theorem tK{X:Cx}{pos:Pos}:K_ X pos [] [] []:=λpins s σ H Q I h=>pairTrees_nil_walk ⟨[],H,I,.nil,h⟩
theorem kr{X:Cx}{pos:Pos}{k v:Expr}{ks:List (Option Expr)}{vs:List Expr}{tk tv:TE}{rG:List (TE×TE)}(hk:PE X k tk)(hv:PE X v tv)(hr:K_ X pos ks vs rG):
  K_ X pos (some k::ks) (v::vs) ((tk,tv)::rG):=λpins s σ H Q I h=>
 pairTrees_cons_walk (aM (hk pins s σ H _ I h) λu s1 ⟨x,H1,I1,rx,q1⟩=>aM (hv pins s1 σ H1 _ I1 q1) λw2 s2 ⟨y,H2,I2,ry,q2⟩=>
  aM (hr pins s2 σ H2 _ I2 q2) λws s3 ⟨ps,H3,I3,rel,q3⟩=>⟨(x,y)::ps,H3,I3,.cons ⟨rx,ry⟩ rel,q3⟩)
def jc(kvs more:List (Key×V)):List (Key×V):=more.foldl (λacc kv=>putK acc kv.1 kv.2) kvs
theorem KV.merge:∀{more:List (Key×V)} {rs:List (Key×Value)} {kvs:List (Key×V)} {vs:List (Key×Value)},KV more rs->KV kvs vs->KV (jc kvs more) (merged vs rs):=by
 intro more rs kvs vs r
 unfold KV at r
 induction r generalizing kvs vs with
 | nil=>intro q;exact q
 | @cons p q ps qs h t ih=>
  intro r0
  have e:KV (putK kvs p.1 p.2) (H_ vs q.1 q.2):=by
   have:=r0.put p.1 h.2
   rw[<-h.1];exact this
  exact ih e
theorem om:∀(more kvs:List (Key×V)),(jc kvs more).length<=kvs.length+more.length
 | [],kvs=>by show kvs.length<=kvs.length+0;omega
 | p::r,kvs=>by
  have h1:=om r (putK kvs p.1 p.2)
  have h2:=iW kvs p.1 p.2
  show(jc (putK kvs p.1 p.2) r).length<=_
  rw[A'];omega
theorem rH{P:Az}{w:World}:∀{kvs:List (Key×V)} {ws:List (Value×Value)},VV (kvs.map λkv=>(kV kv.1,kv.2)) ws->∃rs,Carries (b_ P w) ws rs/\KV kvs rs
 | [],_,r=>by rw[CH] at r;cases r;exact⟨[],Cd,.nil⟩
 | p::kvs,_,r=>by
  rw[A0] at r
  cases r with
  | @cons a b as bs h t=>
   obtain⟨rs,c,q⟩:=rH (P:=P) (w:=w) t
   obtain⟨b1,b2⟩:=b
   exact⟨(p.1,b2)::rs,⟨pP h.1,rfl,c⟩,.cons ⟨rfl,h.2⟩ q⟩
def WE(rG:List (TE×TE)):TE:=λσ H Q=>∀p,H p=none->w_ rG σ (upd H p (.dK [])) λps H2=>H2 p=some (.dK [])/\∃kvs:List (Key×V),ps=kvs.map (λkv=>(kV kv.1,kv.2))/\kvs.length<=15/\Q (.ref p) (upd H2 p (.dK (jc [] kvs)))
theorem zD{X:Cx}{pos:Pos}{keys:List (Option Expr)}{values:List Expr}{rG:List (TE×TE)}(h:K_ X pos keys values rG)(hall:keys.all (·.isSome)=true)(hl:keys.length=values.length)(h0:keys≠[])
  (h15:keys.length<=15):PE X (.Dict keys values pos) (WE rG):=by
 intro pins s σ H Q I q
 have hn:=I.hok.fresh (AM s.heap.objs.size)
 have I1:=I.laid (a:=s.heap.objs.size) (o:=.dK []) (h':=s.heap.push {cls:=.type "dict",data:=.dict #[]}) (t':=s.toks) (λ_ _ q=>AG _ q) (AM _) (wY s.heap I.big)
 refine wpAny_Dict_walk (knd:=b_ X.prog X.w) hall hl h0 h15 (aM (h pins _ σ _ _ I1 (q _ hn)) λws s2 ⟨ps,H2,I2,rel,e,kvs,ep,lk,q2⟩=>?_)
 subst ep
 obtain⟨rs,c,rk⟩:=rH (P:=X.prog) (w:=X.w) rel
 obtain⟨z,hd,vs0,r0,dd⟩:=wz I2.hok e
 cases r0
 refine⟨rs,c,dd,λh' oj hs=>⟨.ref s.heap.objs.size,_,?_,rfl,q2⟩⟩
 have hz:(jc [] kvs).length<=sizeLine:=by
  have h1:=om kvs []
  rw[Dk] at h1
  rw[G3];omega
 have he:∃q,h'.get? s.heap.objs.size=some q:=let ⟨q,_,_,hq,_⟩:=oj;⟨q,hq⟩
 exact mG I2 (by rw[e];exact Cd) hs he (wX hz hd (rk.merge .nil) oj)
structure M2 (X:Cx)(o:Expr)(m:Str)(apos:Pos)(e f:Expr)(cpos:Pos):Prop where
 base:GC o m X.env (eval o X.env)=eval o X.env
 few:((Dr cpos (BL [e,f] X.env)).all (λx=> !x.1)&&(backToKw cpos (keywordEach [] X.env)).all (λx=>x.1.isSome)
  &&decide (([e,f]:List Expr).length+([]:List Hj).length+(if([]:List Hj).isEmpty then 0 else 1)<30))=true
 line:(apos.endLine == cpos.line)=true
 trees:Dr cpos (BL [e,f] X.env)=[(false,eval e X.env),(false,eval f X.env)]
def Xv(H:Hp)(a:Addr):Prop:=(∃kvs,Rd H a (.dK kvs))∨∃kvs,Rd H a (.dT kvs)
theorem SX{X:Cx}{pins:List (Addr×Obj)}{σ:St}{H:Hp}{s:AN}{a:Addr}(I:Inv X pins σ H s)(d:Xv H a):
  s.TypeIs (.ref a) "dict"/\(∀b,Bq a=.ref b->∃ob,s.heap.get? b=some ob/\ob.dict=none)/\(a == CL)=false:=by
 rcases d with⟨kvs,e⟩ | ⟨kvs,e⟩
 ·obtain⟨_,hd,vs,_,dd⟩:=pQ I.hok e
  refine⟨dd.typeIs,λb q=>?_,hd⟩
  cases q
  obtain⟨ob,_,_,h1,h2,_⟩:=dd
  exact⟨ob,h1,h2.2.1⟩
 ·obtain⟨_,hd,xs,_,dd⟩:=rF I.hok e
  refine⟨dd.typeIs,λb q=>?_,hd⟩
  cases q
  obtain⟨ob,_,_,h1,h2,_⟩:=dd
  exact⟨ob,h1,h2.2.1⟩
section
variable{X:Cx}{pins:List (Addr×Obj)}{σ:List (Option V)}{H H':Hp}{s:AN}{h':Heap}
theorem Inv.m9{t':Nat}{ch:List Addr}{p:Addr}{o:HO}(I:Inv X pins σ H s)(hf:∀b∈ch,gy X pins H b)
  (k:∀b u,b ∉ ch->s.heap.get? b=some u->h'.get? b=some u) (hp:s.heap.objs.size<=p) (new:bE X.prog X.w (upd H p o) h' p o):
  Inv X pins σ (upd H p o) {s with heap:=h',toks:=t'}:=by
 have hn:H p=none:=I.hok.fresh hp
 have oF:∀b u,H b=some u->b ∉ ch:=λb u e z=>by have q:=(hf b z).1;rw[e] at q;cases q
 have old:∀b u,s.heap.get? b=some u->b≠p:=λb u e=>Ap (Ab (AX e) hp)
 have rJ:∀b u,H b=some u->upd H p o b=some u:=λb u e=>by rw[ao (aq e hn)];exact e
 refine I.step (g':=s.gens) (d':=s.drawn) (ch:=ch) (λb hb=>?_) (λb o _ _ hc e _=>k b o hc e) (λb o _ _ hc e _=>⟨o.slots,k b o hc e⟩) (λb o _ e n=>by rw[ao (old b o e)];exact n)
  (λb o hc e=>⟨o,k b o hc e⟩) (λb xs e=>rJ b _ e) (λb _ _ e=>rJ b _ e) (λb ps e=>⟨#[],by rw[rJ b _ e];simp⟩) (λm hm=>?_) (λb u e=>?_) I.bare
 ·obtain⟨f0,f1,f2,f3,f4,f5⟩:=hf b hb
  exact⟨f3,f1,f4,f5⟩
 ·obtain⟨ob,es,ep,ho,r⟩:=hm
  exact⟨ob,es,ep,k _ ob (λz=>(hf _ z).2.1 rfl) ho,r⟩
 ·by_cases hb:b=p
  ·subst hb;rw[af] at e;cases e;exact new
  ·rw[ao hb] at e
   refine(I.hok b u e).stay (λc v hc q=>k c v ?_ q) (λc q=>rJ c _ q) λc xs q=>rJ c _ q
   rcases hc with z | z
   ·rw[z];exact oF b u e
   ·exact oF c _ z
end
def K0(K:AE)(a:Addr):It:=
 ⟨λi H=>∃xs x,bC K H a xs/\xs[i]? =some x,
  λi H x H'=>∃y p,(∀xs,bC K H a xs->xs[i]? =some y)/\H p=none/\x=.ref p/\H'=upd H p (.tup [.int i,y]),
  λi H=>∃xs,bC K H a xs/\xs.length<=i⟩
theorem K1{P:Az}{w:World}{K:AE}{elts:List Expr}{x1}{tpos:Pos}(a e it:Addr)(hne:e≠it):
  Turn P w K (.Tuple elts x1 tpos) (K0 K a) [e,it] e (λi h=>(∃old,IsEnum h e it i old)/\h.IsListIter it a i) where
 mem:=by simp
 obj:=λi h st b hb=>by
  obtain⟨⟨old,st1⟩,st2⟩:=st
  rcases Ak.mp hb with z | z
  ·subst z;exact⟨_,st1,λv z=>by cases z⟩
  ·have z':b=it:=by simpa using z
   subst z'
   obtain⟨o,e,c,d⟩:=st2
   exact⟨o,e,λv z=>by rw[d] at z;cases z⟩
 keep:=λi h h' st k=>by
  obtain⟨⟨old,st1⟩,st2⟩:=st
  exact⟨⟨old,k e (by simp) _ st1⟩,st2.at λo q=>k it (by simp) o q⟩
 item:=by
  intro X hP hw hK hc i pins s σ H E I hf st hg
  subst hP hw hK
  obtain⟨⟨old,st1⟩,st2⟩:=st
  obtain⟨xs,x,hq,hx⟩:=hg
  obtain⟨its,rv,p,hz⟩:=I.list hq
  obtain⟨u,hu,ru⟩:=rv.get hx
  refine wpAny_pyNext_enum_item st1 st2 p.isList (x:=u) (by simpa using hu) hne λh1 eo SY ht hsz kk=>?_
  have nn:H s.heap.objs.size=none:=I.hok.fresh (AM _)
  have I1:Inv X pins σ (upd H s.heap.objs.size (.tup [.int i,x])) {s with heap:=h1,toks:=s.toks+1}:=
   I.m9 (ch:=[e,it]) hf (λb o hb q=>kk b o (λz=>hb (by simp[z])) (λz=>hb (by simp[z])) q) (AM _)
    ⟨⟨by show 2<=sizeLine;decide,_,ht,rfl⟩,[.int i s.toks,u],.cons ⟨_,rfl⟩ (.cons ru .nil),⟨_,ht,rfl,_,rfl⟩⟩
  have le:e<s.heap.objs.size:=AX st1
  have li:it<s.heap.objs.size:=by obtain⟨o,q,_⟩:=id st2;exact AX q
  refine⟨_,rfl,FX eo λh2 e2 sb=>?_⟩
  obtain⟨f0,f1,f2,f3,f4,f5⟩:=hf e (by simp)
  have I2:=I1.turned (h':=h2) (t':=s.toks+1) (it:=e) (λb o hb q=>(sb.2 b hb).trans q) (by rw[ao (Ap le)];exact f0) f1 f3 f4 f5
  refine⟨.ref s.heap.objs.size,_,I2,rfl,⟨x,s.heap.objs.size,λys hy=>by rw[I.kg hy hq];exact hx,nn,rfl,rfl⟩,⟨⟨u,by simpa using e2⟩,SY.at λo q=>(sb.2 it (Ck hne)).trans q⟩,λb hb=>?_⟩
  rcases Ak.mp hb with z | z
  ·subst z;rw[ao (Ap le)];exact f0
  ·have z':b=it:=by simpa using z
   subst z';rw[ao (Ap li)];exact(hf b (by simp)).1
 done:=by
  intro X hP hw hK hc i pins s σ H E I hf st hg
  subst hP hw hK
  obtain⟨⟨old,st1⟩,st2⟩:=st
  obtain⟨xs,hq,hx⟩:=hg
  obtain⟨its,rv,p,hz⟩:=I.list hq
  obtain⟨f0,f1,f2,f3,f4,f5⟩:=hf it (by simp)
  have hl:=rv.length
  exact wpAny_pyNext_enum_end (I.ok.hd hc) st1 st2 p.isList (by simp;omega) λh' eb=>⟨rfl,I.turned (t':=s.toks) (λb o hb e=>eb b o hb e) f0 f1 f3 f4 f5⟩
 self:=λ_ _ _ _ _ st h=>by
  obtain⟨⟨old,st1⟩,st2⟩:=st
  exact EX st1 h
def WG(K:AE)(ta:TA):TI:=λσ H R=>ta σ H λvs H1=>∃a,vs=[.ref a]/\(∃xs,bC K H1 a xs)/\R (K0 K a) H1
theorem Rh{X:Cx}{elts:List Expr}{x1}{tpos:Pos}{a:Expr}{ta:TA}{p pos:Pos}(hg:Gl X "enumerate")(hm:X.mg "enumerate"=none)(ha:PA X [a] ta)(hs:BL [a] X.env=[(false,eval a X.env)]:=by rfl):
  PI X (.Tuple elts x1 tpos) (.Call (.Name "enumerate" p) [a] [] pos) (WG X.K ta):=by
 intro pins s σ H R I h
 refine Call_ (i' I hg hm boot_enumerate (B3 (aM (ha pos pins s σ H _ I h) λus s1 ⟨vs,H1,I1,r1,q1⟩=>?_) hs rfl))
 obtain⟨l,e,⟨xs,hq⟩,q⟩:=q1
 subst e
 cases r1 with
 | cons r rr=>
  cases rr
  cases r
  obtain⟨its,rv,pl,hz⟩:=I1.list hq
  refine call_enumerate_list pl.isList λh' he hit hsz kk=>?_
  have I2:Inv X pins σ H1 {s1 with heap:=h'}:=I1.kept (t':=s1.toks) kk
  refine EX he ?_
  refine⟨s1.heap.objs.size+1,[s1.heap.objs.size+1,s1.heap.objs.size],_,_,H1,rfl,I2,K1 l _ _ (Nat.succ_ne_self _),⟨⟨_,by simpa using he⟩,hit⟩,λb hb=>?_,q⟩
  rcases Ak.mp hb with z | z
  ·subst z;exact I1.iE (Cr _) (I1.hok.fresh (Cr _))
  ·have z':b=s1.heap.objs.size:=by simpa using z
   subst z';exact I1.iE (AM _) (I1.hok.fresh (AM _))
theorem NW{K:AE}{a:Addr}{xs:List V}{g:TG}{tb:TS}{D:Ends}{σ:St}{H:Hp}(Pv:Nat->St->Hp->Prop)(h0:Pv 0 σ H)(hl:∀i σ H,i<=xs.length->Pv i σ H->bC K H a xs)
  (hs:∀i x p σ H,xs[i]? =some x->Pv i σ H->H p=none->g (.ref p) σ (upd H p (.tup [.int i,x])) λσ2 H2=>tb {D with nx:=Pv (i+1),ct:=Pv (i+1),bk:=D.nx} σ2 H2) (hd:∀σ H,Pv xs.length σ H->D.nx σ H):
  ∃W:Nat->Nat->St->Hp->Prop,(∃m,W 0 m σ H)/\∀i m σ H,W i m σ H->
   ((K0 K a).stop i H/\D.nx σ H)∨((K0 K a).go i H/\∃N:St->Hp->Prop,(∀σ' H',N σ' H'->∃m',m'<m/\W (i+1) m' σ' H')/\∀x H',(K0 K a).oJ i H x H'->g x σ H' λσ2 H2=>tb {D with nx:=N,ct:=N,bk:=D.nx} σ2 H2):=by
 refine⟨λi m σ H=>m=xs.length-i/\i<=xs.length/\Pv i σ H,⟨xs.length,by simp,BI _,h0⟩,?_⟩
 rintro i m σ H ⟨rfl,hi,p⟩
 have q:=hl i σ H hi p
 by_cases hlt:i<xs.length
 ·refine .inr ⟨⟨xs,xs[i],q,by simp[hlt]⟩,Pv (i+1),λσ' H' p'=>⟨xs.length-(i+1),by omega,rfl,hlt,p'⟩,λx H' y=>?_⟩
  obtain⟨z,pa,hz,hn,e1,e2⟩:=y
  subst e1 e2
  exact hs i z pa σ H (hz xs q) p hn
 ·have e:i=xs.length:=by omega
  subst e
  exact .inl ⟨⟨xs,q,AM _⟩,hd σ H p⟩
def gB(env:Env):List (Str×C9)->List (Str×Addr)->List (Str×Addr)
 | [],cs=>cs
 | (n,k)::r,cs=>gB env r (if k == .free then(n,(env.cells.lookup n).getD 0)::cs else cs)
theorem rK{env:Env}:∀(names:List (Str×C9)) (cs:List (Str×Addr)),(∀y∈names,y.2=.free->∃c,env.cells.lookup y.1=some c)->
  (forIn names cs λ(x:Str×C9) (r:List (Str×Addr))=>(match x with
   | (name,kind)=>if(kind == BZ)=true then(cellOf env name >>= λa=>pure (Ce ((name,a)::r)):Sem (ForInStep (List (Str×Addr)))) else pure (Ce r)))=pure (gB env names cs)
 | [],cs,_=>rfl
 | (n,k)::r,cs,h=>by
  have ih:=λcs'=>rK r cs' λy hy=>h y (AV _ hy)
  rw[C7]
  by_cases hk:k=.free
  ·subst hk
   obtain⟨c,hc⟩:=h (n,.free) Aa rfl
   have e:cellOf env n=pure c:=by unfold cellOf;rw[hc]
   simp only[beq_self_eq_true,if_true,e,pure_bind]
   rw[ih]
   show _=pure (gB env r (if(BZ == BZ)=true then _ else _))
   rw[hc];rfl
  ·have hb:(k == BZ)=false:=by simpa using hk
   simp only[hb,Cw,if_false,pure_bind]
   rw[ih]
   show _=pure (gB env r (if(k == BZ)=true then _ else _))
   rw[hb];rfl
theorem kZ{env:Env}{scope:Scope}(h:∀y∈scope.names,y.2=.free->∃c,env.cells.lookup y.1=some c):FY scope env=pure (gB env scope.names []):=by
 unfold FY
 have e:=rK (env:=env) scope.names [] h
 show((forIn scope.names [] _:Sem (List (Str×Addr))) >>= λcs=>pure cs)=_
 rw[bind_pure]
 refine Eq.trans ?_ e
 first
  | rfl
  | (congr 1;funext x r;obtain⟨n,k⟩:=x;dsimp only;split<;>simp)
theorem w4{env:Env}{x:Str}{c:Addr}:∀(names:List (Str×C9)) (cs:List (Str×Addr)),(x,c)∈gB env names cs->(x,c)∈cs∨((x,BZ)∈names/\c=(env.cells.lookup x).getD 0)
 | [],cs,h=>.inl h
 | (n,k)::r,cs,h=>by
  have h':(x,c)∈gB env r (if(k == BZ)=true then(n,(env.cells.lookup n).getD 0)::cs else cs):=h
  rcases w4 r _ h' with z | ⟨z1,z2⟩
  ·by_cases hk:k=.free
   ·subst hk
    simp only[beq_self_eq_true,if_true,Ak] at z
    rcases z with z | z
    ·cases z;exact .inr ⟨Aa,rfl⟩
    ·exact .inl z
   ·have hb:(k == BZ)=false:=by simpa using hk
    rw[hb] at z
    exact .inl z
  ·exact .inr ⟨AV _ z1,z2⟩
theorem u6{env:Env}{p:Str×Addr}:∀(names:List (Str×C9)) (cs:List (Str×Addr)),p∈cs->p∈gB env names cs
 | [],cs,h=>h
 | (n,k)::r,cs,h=>by
  show p∈gB env r (if(k == BZ)=true then(n,(env.cells.lookup n).getD 0)::cs else cs)
  refine u6 r _ ?_
  split
  ·exact AV _ h
  ·exact h
theorem w6{env:Env}{x:Str}:∀(names:List (Str×C9)) (cs:List (Str×Addr)),(x,BZ)∈names->(x,(env.cells.lookup x).getD 0)∈gB env names cs
 | [],_,h=>by cases h
 | (n,k)::r,cs,h=>by
  show _∈gB env r (if(k == BZ)=true then(n,(env.cells.lookup n).getD 0)::cs else cs)
  rcases Ak.mp h with z | z
  ·cases z
   exact u6 r _ (by simp)
  ·exact w6 r _ z
theorem mH{α β:Type}[BEq α][LawfulBEq α]{x:α}{c:β}:∀{l:List (α×β)},l.lookup x=some c->(x,c)∈l
 | [],h=>by simp at h
 | (n,k)::r,h=>by
  rw[DO] at h
  by_cases e:x=n
  ·subst e;simp at h;subst h;exact Aa
  ·have:(x == n)=false:=by simpa using e
   rw[this] at h
   exact AV _ (mH h)
theorem mI{α β:Type}[BEq α][LawfulBEq α]{x:α}{c:β}:∀{l:List (α×β)},(x,c)∈l->∃c',l.lookup x=some c'
 | [],h=>by cases h
 | (n,k)::r,h=>by
  rw[DO]
  by_cases e:x=n
  ·subst e;simp
  ·have q:(x == n)=false:=by simpa using e
   rw[q]
   rcases Ak.mp h with z | z
   ·cases z;exact absurd rfl e
   ·exact mI z
theorem dS{env:Env}{x:Str}{k':C9}:∀{names:List (Str×C9)},
  (names.map λ(n,k)=>if(k == BZ&&env.scope.kind == .function&&env.kindOf n == some .cell) then(n,Ex) else(n,k)).lookup x=some k'->
  (x,k')∈names∨(k'=.cell/\(x,BZ)∈names)
 | [],h=>by simp at h
 | (n,k)::r,h=>by
  rw[A0,DO] at h
  dsimp only at h
  by_cases e:x=n
  ·subst e
   by_cases hc:(k == BZ&&env.scope.kind == .function&&env.kindOf x == some .cell)=true
   ·rw[if_pos hc] at h
    simp at h
    have hk:k=.free:=by
     simp only[CV,beq_iff_eq] at hc
     exact hc.1.1
    subst hk
    exact .inr ⟨h.symm,Aa⟩
   ·rw[if_neg hc] at h
    simp at h
    subst h
    exact .inl Aa
  ·have q:(x == (if(k == BZ&&env.scope.kind == .function&&env.kindOf n == some .cell)=true then(n,Ex) else(n,k)).1)=false:=by
    split<;>simpa using e
   rw[q] at h
   rcases dS h with z | ⟨z1,z2⟩
   ·exact .inl (AV _ z)
   ·exact .inr ⟨z1,AV _ z2⟩
structure aG (X:Cx)(scope:Scope)(own aI:List Str)(bD:List Nat):Prop where
 cell:∀y∈scope.names,y.2≠.cell
 kind:scope.kind=.function
 names:∀y∈scope.names,y.2=.local->scope.names.lookup y.1=some .local
 free:∀y∈scope.names,y.2=.free->X.env.scope.names.lookup y.1=some .cell∨X.env.scope.names.lookup y.1=some .free
 frl:bD.length=aI.length
 frN:∀(i j:Nat),bD[i]? =some j->X.N[j]? =aI[i]?
 frF:∀x∈aI,(x,BZ)∈scope.names/\scope.names.lookup x=some .free
def fN(X:Cx)(own aI:List Str)(scope:Scope)(C:Addr)(s₃:AN)(H₃:Hp)(fp:List Addr):Cx:=
 {X with N:=own++aI,s₀:=s₃,H₀:=H₃,env:=compEnvC scope (gB X.env scope.names []) C X.env,outer:=X.stack,stack:=X.stack,ex:=fp,fn:=λ_=>false,pn:=[],xe:=λ_ _=>False}
def w8(own:List Str)(bD:List Nat)(σ:St):St:=AO own.length none++bD.map λj=>(σ[j]?).join
section
variable{X:Cx}{pins:List (Addr×Obj)}{σ:List (Option V)}{H:Hp}{s:AN}{scope:Scope}{own aI:List Str}{bD:List Nat}
theorem aG.cells(sc:aG X scope own aI bD)(ok:X.Ok):∀y∈scope.names,y.2=.free->∃c,X.env.cells.lookup y.1=some c:=λy hy hf=>by
 rcases sc.free y hy hf with z | z
 ·exact ok.has y.1 (.inl z)
 ·exact ok.has y.1 (.inr z)
theorem aG.look(sc:aG X scope own aI bD)(ok:X.Ok){x:Str}{c:Addr}(h:(gB X.env scope.names []).lookup x=some c):X.env.cells.lookup x=some c/\(x,BZ)∈scope.names:=by
 rcases w4 _ _ (mH h) with z | ⟨z1,z2⟩
 ·cases z
 ·obtain⟨c',hc⟩:=sc.cells ok (x,.free) z1 rfl
  have hc':X.env.cells.lookup x=some c':=hc
  rw[hc'] at z2
  have z3:c=c':=z2
  subst z3
  exact⟨hc',z1⟩
theorem aG.P_(sc:aG X scope own aI bD)(ok:X.Ok){x:Str}(h:(x,BZ)∈scope.names):∃c,(gB X.env scope.names []).lookup x=some c/\X.env.cells.lookup x=some c:=by
 obtain⟨c,hc⟩:=mI (w6 (env:=X.env) scope.names [] h)
 exact⟨c,hc,(sc.look ok hc).1⟩
theorem Inv.block{fp:List Addr}{h₄:Heap}{tk:Nat}(I:Inv X pins σ H s)(sc:aG X scope own aI bD)(hfp:∀b∈fp,gy X pins H b)(hfl:∀b∈fp,b<s.heap.objs.size)
  (k:∀b o,s.heap.get? b=some o->h₄.get? b=some o) (hn:h₄.Ns s.heap.objs.size λ_=>none):
  Inv (fN X own aI scope s.heap.objs.size s H fp) [] (w8 own bD σ) H {s with heap:=h₄,toks:=tk}:=by
 have ok:=I.ok
 refine⟨⟨ok.mod,by show(relabel scope X.env).kind=_;exact sc.kind,ok.glob,ok.blt,AM _,?_,?_,λx c h=>(nomatch h),ok.hd,ok.frames,.inl rfl,?_,λb o e=>I.bs b o e,BH ok.oC I.sz,?_,?_,I.stack,I.mC⟩,rfl,I.bare,Un.kept k,?_,?_,I.fresh,?_,λp hp=>(nomatch hp),I.hok.kept k,?_⟩
 ·intro x y c e1 e2
  exact ok.inj x y c (sc.look ok e1).1 (sc.look ok e2).1
 ·intro x h
  have mem:(x,BZ)∈scope.names:=by
   rcases h with h | h
   ·rcases dS h with z | ⟨_,z⟩
    ·exact absurd rfl (sc.cell _ z)
    ·exact z
   ·rcases dS h with z | ⟨z,_⟩
    ·exact z
    ·cases z
  obtain⟨c,hc,_⟩:=sc.P_ ok mem
  exact⟨c,hc⟩
 ·intro b hb
  obtain⟨f0,f1,f2,f3,f4,f5⟩:=hfp b hb
  exact⟨Ap (hfl b hb),λx c e=>f4 x c (sc.look ok e).1⟩
 ·intro b o e hb
  rcases(hfp b hb).2.2.2.1 with z | z
  ·exact ok.wG b o e z
  ·exact absurd (Ab (AX e) (BH ok.oC z)) (CD _)
 ·intro b hb hfs
  obtain⟨f0,f1,f2,_⟩:=hfp b hb
  rcases Ak.mp (I.oE b hfs) with z | z
  ·exact f1 z
  ·exact f2 z
 ·refine⟨_,hn,λi x v e1 e2 e3=>?_⟩
  have e1':(own++aI)[i]? =some x:=e1
  have e2':(AO own.length none++bD.map λj=>(σ[j]?).join)[i]? =some (some v):=e2
  by_cases hi:i<own.length
  ·rw[Am (by simpa using hi)] at e2'
   rw[DN] at e2'
   split at e2'<;>cases e2'
  ·rw[Ae (by simp;omega),BE] at e2'
   rw[Ae (by omega)] at e1'
   rw[AJ] at e2'
   cases ej:bD[i-own.length]? with
   | none=>rw[ej] at e2';cases e2'
   | some j=>
    rw[ej] at e2'
    have Jg:(σ[j]?).join=some v:=by simpa using e2'
    have e4:σ[j]? =some (some v):=by
     cases q:σ[j]? with
     | none=>rw[q] at Jg;cases Jg
     | some o=>rw[q] at Jg;simpa using Jg
    have e5:=(sc.frN _ j ej).trans e1'
    obtain⟨hm,hlk⟩:=sc.frF x (AL e1')
    obtain⟨m,hnL,hl⟩:=I.loc
    have hv:zj X.env.scope x:=by
     rcases sc.free (x,.free) hm rfl with z | z
     ·exact .inr (.inl z)
     ·exact .inr (.inr z)
    obtain⟨u,r,lk⟩:=hl j x v e5 e4 hv
    refine⟨u,r,.inr ?_⟩
    obtain⟨c,hc,hc'⟩:=sc.P_ ok hm
    have S_:h₄.IsCell c (some u):=by
     rcases lk with⟨z,_⟩ | ⟨_,c',hx,⟨o,ho,hd⟩⟩
     ·exfalso
      have z':X.env.scope.names.lookup x=some .local:=z
      rcases sc.free (x,.free) hm rfl with q | q
      ·rw[show X.env.scope.names.lookup x=some .cell from q] at z';cases z'
      ·rw[show X.env.scope.names.lookup x=some .free from q] at z';cases z'
     ·rw[hc'] at hx;cases hx
      exact⟨o,k _ o ho,hd⟩
    refine⟨?_,c,hc,S_⟩
    have e3':zj (relabel scope X.env) x:=e3
    rcases e3' with z | z | z
    ·exfalso
     rcases dS z with q | ⟨q,_⟩
     ·have:=sc.names _ q rfl
      rw[show scope.names.lookup x=some .local from this] at hlk
      cases hlk
     ·cases q
    ·exact .inl z
    ·exact .inr z
 ·intro x c e
  obtain⟨v,o,ho,hd⟩:=I.cell x c (sc.look ok e).1
  exact⟨v,o,k _ o ho,hd⟩
 ·intro x c e
  exact I.fZ x c (sc.look ok e).1
 ·show(AO own.length none++bD.map λj=>(σ[j]?).join).length=(own++aI).length
  simp[sc.frl]
end
theorem ng{prog:Az}{w:World}{A:BQ}{R:Result->AN->Prop}{s:AN}{elt target iter:Expr}{ifs:List Expr}{scope:Scope}{pos:Pos}{it acc:Value}{env:Env}(I:Nat->AN->Prop)
  (turn:∀n s,I n s->wpAny (model prog w) A (D9 it) (λr s₁=>match r with
   | none=>R (.ok .next) s₁
   | some v=>wpAny (model prog w) A (E6 target it v) (λ_ s₁'=>wpAny (model prog w) A (assign target env v) (λ_ s₂=>
     wpAny (model prog w) A (forIn ifs true λc r=>if r=true then do let ok <-isTrue c env (eval c env);pure (Ce ok) else pure (Ce r)) (λok s₃=>
      if ok=true then wpAny (model prog w) A (eval elt env) (λx s₄=>
       wpAny (model prog w) A (call (.builtin "list.append") [acc,x]) (λ_ s₅=>∃m,m<n/\I m s₅) (λ_ _=>False) s₄) (λ_ _=>False) s₃
      else ∃m,m<n/\I m s₃) (λ_ _=>False) s₂) (λ_ _=>False) s₁') (λ_ _=>False) s₁) (λ_ _=>False) s)
  (n:Nat) (h:I n s):
  Ft (model prog w) A (.compLoop (.ListComp elt [⟨target,iter,ifs,0⟩] scope pos) 0 it acc env) R s:=by
 refine codeAny_loop rfl I (λn s hI=>?_) n h
 show wpAny _ A ((compTurn (.ListComp elt [⟨target,iter,ifs,0⟩] scope pos) 0 it acc env).onRaise (λx=>do noteFrame x env;theTreesLotGoes x)) _ _ s
 refine wpAny_noted ?_
 rw[compTurn_list]
 refine AB (F' (AB (B0 (turn n s hI) (λr s₁ h₁=>?_) λ_ _ h'=>h'.elim)))
 cases r with
 | none=>exact AK h₁
 | some v=>
  refine AB (B0 h₁ (λ_ s₁' h₁'=>?_) λ_ _ h'=>h'.elim)
  refine AB (B0 h₁' (λ_ s₂ h₂=>AB (B0 h₂ (λok s₃ h₃=>?_) λ_ _ h'=>h'.elim)) λ_ _ h'=>h'.elim)
  cases ok with
  | false=>exact AK ⟨rfl,h₃⟩
  | true=>
   exact AB (AB (B0 h₃ (λx s₄ h₄=>AB (B0 h₄ (λ_ s₅ h₅=>AK (AK ⟨rfl,h₅⟩)) λ_ _ h'=>h'.elim)) λ_ _ h'=>h'.elim))
def tL(X:Cx)(ifs:List Expr)(t:TT):Prop:=
 ∀(pins:List (Addr×Obj)) (s:AN) (σ:St) (H:Hp) (Q:Bool->Hp->Prop),Inv X pins σ H s->t σ H Q->
  wpAny (model X.prog X.w) X.A (forIn ifs true λc r=>if r=true then do let ok <-isTrue c X.env (eval c X.env);pure (Ce ok) else pure (Ce r)) (TP X pins σ Q) X.xe s
def P0:TT:=λ_ H Q=>Q true H
theorem br{X:Cx}:tL X [] P0:=λ_ _ _ H _ I h=>wpAny_tests_nil ⟨H,I,h⟩
theorem iF{X:Cx}{c:Expr}{t:TT}(h:PT X c t):tL X [c] t:=λpins s σ H Q I hq=>wpAny_tests_one (h pins s σ H Q I hq)
def iX(J:It)(g:TG)(tt:TT)(te:TE)(D:Addr)(σ:St)(H:Hp)(R:Hp->Prop):Prop:=
 ∃W:Nat->Nat->St->Hp->Prop,(∃m,W 0 m σ H)/\∀i m σ H,W i m σ H->(J.stop i H/\R H)∨(J.go i H/\∃N:St->Hp->Prop,(∀σ' H',N σ' H'->∃m',m'<m/\W (i+1) m' σ' H')/\
  ∀x H',J.oJ i H x H'->g x σ H' λσ2 H2=>tt σ2 H2 λb H3=>if b=true then te σ2 H3 λy H4=>∃ys,H4 D=some (.lst ys)/\ys.length<sizeLine/\N σ2 (upd H4 D (.lst (ys++[y]))) else N σ2 H3)
section
variable{X:Cx}{scope:Scope}{own aI:List Str}{bD:List Nat}{elt tg iter:Expr}{ifs:List Expr}{pos:Pos}{g:TG}{tt:TT}{te:TE}
theorem rL{pins:List (Addr×Obj)}{σ:St}{H:Hp}{s:AN}{J:It}{fp:List Addr}{it:Addr}{tn:Nat->Heap->Prop}{R:Addr->Hp->Prop}{RR:Value->Addr->Result->AN->Prop}{E:Value->AN->Prop}
  (sc:aG X scope own aI bD) (hc:X.calm=true)
  (hg:∀C s₃ H₃ fp,PG (fN X own aI scope C s₃ H₃ fp) tg g) (ht:∀C s₃ H₃ fp,tL (fN X own aI scope C s₃ H₃ fp) ifs tt) (he:∀C s₃ H₃ fp,PE (fN X own aI scope C s₃ H₃ fp) elt te)
  (I:Inv X pins σ H s) (T:Turn X.prog X.w X.K tg J fp it tn) (st:tn 0 s.heap) (hfp:∀b∈fp,gy X pins H b)
  (h:∀D,H D=none->iX J g tt te D (w8 own bD σ) (upd H D (.lst [])) (R D))
  (hRR:∀D C H' s' m,Inv X pins σ H' s'->s.heap.objs.size<=C->s'.heap.Ns C m->H' C=none->R D H'->RR (.ref D) C (.ok .next) s'):
  wpAny (model X.prog X.w) X.A (newList []) (λacc s₃=>wpAny (model X.prog X.w) X.A (G9 scope X.env.globals (gB X.env scope.names []) [] X.env.qual none .none (some X.env)) (λcenv s₄=>
   Ft (model X.prog X.w) X.A (.compStart (.ListComp elt [⟨tg,iter,ifs,0⟩] scope pos) 0 (.ref it) acc {cenv with scope:=relabel scope X.env}) (RR acc cenv.locals) s₄) E s₃) E s:=by
 refine BX (wpAny_newFunctionEnv sc.cell (by intro y hy;simp at hy) (λh₁ hns₁ hsb₁=>?_) sc.kind)
 dsimp only at hns₁ hsb₁ ⊢
 have hD:=I.fresh
 have I3:Inv X pins σ (upd H s.heap.objs.size (.lst [])) {s with heap:=s.heap.push {cls:=.type "list",dict:=none,data:=.seq ([]:List Value).toArray}}:=I.NU (its:=[]) (t':=s.toks) .nil (BI _)
 have hsz:(s.heap.push {cls:=.type "list",dict:=none,data:=.seq ([]:List Value).toArray}).objs.size=s.heap.objs.size+1:=BG ..
 generalize hs3:({s with heap:=s.heap.push {cls:=.type "list",dict:=none,data:=.seq ([]:List Value).toArray}}:AN)=s₃ at I3
 have hh3:s.heap.push {cls:=.type "list",dict:=none,data:=.seq ([]:List Value).toArray}=s₃.heap:=by rw[<-hs3]
 rw[hh3] at hns₁ hsb₁ hsz ⊢
 have hfl:∀b∈fp,b<s.heap.objs.size:=λb hb=>by
  obtain⟨o,e,_⟩:=T.obj 0 _ st b hb
  exact AX e
 have NX:∀b∈fp,gy X pins (upd H s.heap.objs.size (.lst [])) b:=λb hb=>by
  obtain⟨f0,f⟩:=hfp b hb
  exact⟨by rw[ao (Ap (hfl b hb))];exact f0,f⟩
 have Zi:∀b∈fp,b<s₃.heap.objs.size:=λb hb=>by rw[hsz];exact CM (hfl b hb)
 have k4:∀b o,s₃.heap.get? b=some o->h₁.get? b=some o:=λb o e=>(hsb₁.2 b (Ap (AX e))).trans (AG _ e)
 have k3:∀b o,s.heap.get? b=some o->s₃.heap.get? b=some o:=λb o e=>by rw[<-hh3];exact AG _ e
 have hnone:(λx:Str=>List.lookup x ([]:List (Str×Value)).reverse)=λ_=>none:=by funext x;rfl
 have WH:h₁.Ns s₃.heap.objs.size λ_=>none:=by
  have q:=hns₁
  first
   | exact q
   | (rw[hnone] at q;exact q)
 have I4:=I3.block (own:=own) (tk:=s.toks+([]:List (Str×Value)).length) sc NX Zi k4 WH
 have P1:tn 0 h₁:=T.keep _ _ _ st λb hb o e=>k4 b o (k3 b o e)
 generalize hX:fN X own aI scope s₃.heap.objs.size s₃ (upd H s.heap.objs.size (.lst [])) fp=X' at I4
 have Xw:X'.prog=X.prog:=by rw[<-hX];rfl
 have Xx:X'.w=X.w:=by rw[<-hX];rfl
 have hXK:X'.K=X.K:=by rw[<-hX];rfl
 have hXA:X'.A=X.A:=by rw[<-hX];rfl
 have Xy:X'.calm=true:=by rw[<-hX];exact hc
 have hXx:X'.xe=λ_ _=>False:=by rw[<-hX];rfl
 have hXe:X'.env=compEnvC scope (gB X.env scope.names []) s₃.heap.objs.size X.env:=by rw[<-hX];rfl
 have hg':PG X' tg g:=by rw[<-hX];exact hg _ _ _ _
 have ht':tL X' ifs tt:=by rw[<-hX];exact ht _ _ _ _
 have he':PE X' elt te:=by rw[<-hX];exact he _ _ _ _
 have ofX:∀{H':Hp} {s':AN} {σ':St},Inv X' [] σ' H' s'->Inv X pins σ H' s'/\(∃m,s'.heap.Ns s₃.heap.objs.size m)/\H' s₃.heap.objs.size=none:=by
  intro H' s' σ' I'
  subst hX
  refine⟨I3.call' (ch:=fp) I'.os I'.base I'.hok I'.bare λb hb=>?_,let ⟨m,hn,_⟩:=I'.loc;⟨m,hn⟩,I'.free⟩
  obtain⟨f0,f1,f2,f3,f4,f5⟩:=NX b hb
  exact⟨f3,f1,f4,f5⟩
 have stat:∀{H':Hp},(∀b∈fp,H' b=none)->∀b∈fp,gy X' [] H' b:=by
  intro H' hn b hb
  subst hX
  obtain⟨a1,a2⟩:=I4.ok.Sn b hb
  exact⟨hn b hb,a1,I4.ok.wH b hb,.inl hb,a2,λp hp=>by cases hp⟩
 obtain⟨W,⟨m0,w0⟩,turn⟩:=h s.heap.objs.size hD
 have loop:Ft (model X.prog X.w) X.A (.compLoop (.ListComp elt [⟨tg,iter,ifs,0⟩] scope pos) 0 (.ref it) (.ref s.heap.objs.size) X'.env) (RR (.ref s.heap.objs.size) s₃.heap.objs.size)
   {s₃ with heap:=h₁,toks:=s.toks+([]:List (Str×Value)).length}:=by
  refine ng (λn s'=>∃i σ' H',Inv X' [] σ' H' s'/\tn i s'.heap/\(∀b∈fp,H' b=none)/\W i n σ' H') ?_ m0 ⟨0,_,_,I4,P1,λb hb=>(NX b hb).1,w0⟩
  rintro n s5 ⟨i,σ5,H5,I5,zm,PK,w5⟩
  rw[<-Xw,<-Xx,<-hXA]
  have P2:∀{α:Type} {t:Sem α} {Q:α->AN->Prop} {s:AN},wpAny (model X'.prog X'.w) X'.A t Q X'.xe s->wpAny (model X'.prog X'.w) X'.A t Q (λ_ _=>False) s:=λh=>by rw[hXx] at h;exact h
  have T':Turn X'.prog X'.w X'.K tg J fp it tn:=by rw[Xw,Xx,hXK];exact T
  rcases turn i n σ5 H5 w5 with⟨stop,q⟩ | ⟨go,N,hN,step⟩
  ·refine aM (T'.done X' rfl rfl rfl Xy i [] s5 σ5 H5 _ I5 (stat PK) zm stop) λr s6 ⟨hr,I6⟩=>?_
   subst hr
   obtain⟨J1,⟨m,J2⟩,J3⟩:=ofX I6
   exact hRR _ _ H5 s6 m J1 (by rw[hsz];exact Cr _) J2 J3 q
  ·refine aM (T'.item X' rfl rfl rfl Xy i [] s5 σ5 H5 _ I5 (stat PK) zm go) λr s6 ⟨u,hr,h6⟩=>?_
   subst hr
   refine aM h6 λ_ s7 ⟨x,H7,I7,r7,y7,S0,fr7⟩=>?_
   have I7':=I7.pinned (stat fr7) (T'.obj _ _ S0)
   have again:∀{s9:AN} {σ9:St} {H9:Hp},Inv X' ([]++oK fp s7.heap) σ9 H9 s9->N σ9 H9->∃m,m<n/\∃i σ' H',Inv X' [] σ' H' s9/\tn i s9.heap/\(∀b∈fp,H' b=none)/\W i m σ' H':=λ{s9 σ9 H9} I9 n9=>by
    obtain⟨m',hm,w9⟩:=hN σ9 H9 n9
    refine⟨m',hm,i+1,σ9,H9,I9.m_,T'.keep _ _ _ S0 λb hb o e=>(I9.pin (b,o) (BP _ (BP _ (jK hb e)))).1,λb hb=>?_,w9⟩
    obtain⟨o,e,d⟩:=T'.obj _ _ S0 b hb
    exact(I9.pin (b,o) (BP _ (BP _ (jK hb e)))).2.1
   refine aM (P2 (hg' _ s7 σ5 H7 x u _ I7' r7 (step x H7 y7))) λ_ s8 ⟨σ8,H8,I8,q8⟩=>?_
   refine aM (P2 (ht' _ s8 σ8 H8 _ I8 q8)) λb s9 ⟨H9,I9,q9⟩=>?_
   cases b with
   | false=>exact again I9 (by simpa using q9)
   | true=>
    rw[if_pos rfl] at q9
    refine aM (P2 (he' _ s9 σ8 H9 _ I9 q9)) λy s10 ⟨v,xa,I10,r10,q10⟩=>?_
    obtain⟨ys,e10,z10,n10⟩:=q10
    refine aM (P2 (bz _ s10 σ8 xa (.ref s.heap.objs.size) [v] (.ref s.heap.objs.size) [y] (λ_ H'=>H'=upd xa s.heap.objs.size (.lst (ys++[v]))) I10 rfl (.cons r10 .nil) ⟨_,ys,v,rfl,rfl,e10,z10,rfl⟩)) λu s11 ⟨v',P4,I11,_,K2⟩=>?_
    subst K2
    exact again I11 n10
 rw[hXe] at loop
 have e4:({s with heap:=h₁,toks:=s.toks+([]:List (Str×Value)).length}:AN)={s₃ with heap:=h₁,toks:=s.toks+([]:List (Str×Value)).length}:=by rw[<-hs3]
 rw[e4]
 exact codeAny_compStart_list loop (T.self _ 0 _ _ _ P1 loop)
end
def P5(own:List Str)(bD:List Nat)(wi:TI)(g:TG)(tt:TT)(te:TE):TE:=λσ H Q=>wi σ H λJ H1=>∀D,H1 D=none->iX J g tt te D (w8 own bD σ) (upd H1 D (.lst [])) λH'=>Q (.ref D) H'
section
variable{X:Cx}{scope:Scope}{own aI:List Str}{bD:List Nat}{elt tg iter:Expr}{ifs:List Expr}{pos:Pos}{wi:TI}{g:TG}{tt:TT}{te:TE}
theorem ck(sc:aG X scope own aI bD)(hc:X.calm=true)(hi:PI X tg iter wi)
  (hg:∀C s₃ H₃ fp,PG (fN X own aI scope C s₃ H₃ fp) tg g) (ht:∀C s₃ H₃ fp,tL (fN X own aI scope C s₃ H₃ fp) ifs tt) (he:∀C s₃ H₃ fp,PE (fN X own aI scope C s₃ H₃ fp) elt te)
  (hs:∀x,Fs iter X.env x=pure x:=by intro _;rfl):PE X (.ListComp elt [⟨tg,iter,ifs,0⟩] scope pos) (P5 own bD wi g tt te):=by
 intro pins s σ H Q I h
 rw[eval_ListComp]
 refine GD (use:=none) rfl hs (kZ (sc.cells I.ok)) sc.kind sc.names (aM (hi pins s σ H _ I h) λv s1 h1=>aM h1 λitv s2 h2=>?_)
 obtain⟨it,fp,tn,J,H2,e,I2,T,st2,f2,q⟩:=h2
 subst e
 refine rL (RR:=λacc C=>compPost (model X.prog X.w) X.A X.xe none (EP X pins σ Q) acc C) (R:=λD H'=>Q (.ref D) H') sc hc hg ht he I2 T st2 f2 q ?_
 intro D C H' s' m I' hC hn hf hq
 refine⟨m,hn,λh' sb=>?_⟩
 obtain⟨f0,f1,f2,f3,f4,f5⟩:=I2.iE (H':=H') hC hf
 exact⟨.ref D,H',I'.turned (t':=s'.toks) (it:=C) (λb o hb e=>(sb.2 b hb).trans e) f0 f1 f3 f4 f5,rfl,hq⟩
theorem cO{i:Nat}{y:Str}{py spos:Pos}(sc:aG X scope own aI bD)(hc:X.calm=true)(hi:PI X tg iter wi)
  (hg:∀C s₃ H₃ fp,PG (fN X own aI scope C s₃ H₃ fp) tg g) (ht:∀C s₃ H₃ fp,tL (fN X own aI scope C s₃ H₃ fp) ifs tt) (he:∀C s₃ H₃ fp,PE (fN X own aI scope C s₃ H₃ fp) elt te)
  (hN:X.N.Nodup) (hi':X.N[i]? =some y) (hx:X.env.scope.names.lookup y=some .local)
  (hsw:swapsWith (.ListComp elt [⟨tg,iter,ifs,0⟩] scope pos) (some (.Name y py)) spos.line X.env=pure true:=by rfl)
  (hs:∀x,Fs iter X.env x=pure x:=by intro _;rfl):PS X (.Assign [.Name y py] (.ListComp elt [⟨tg,iter,ifs,0⟩] scope pos) spos) (gM (P5 own bD wi g tt te) (az i)):=by
 intro pins s σ H D I h
 rw[exec_Assign_Name_used _ _ _ _ hsw]
 refine AB (F' (AB ?_))
 show wpAny _ X.A (do let _ <-comprehension (.ListComp elt [⟨tg,iter,ifs,0⟩] scope pos) scope X.env _ (newList []) false (eval iter X.env) (some (assign (.Name y py) X.env))) _ _ s
 refine AB (B0 (GD (use:=some (assign (.Name y py) X.env)) (Q:=λ_ s'=>SP X pins D .next s') rfl hs (kZ (sc.cells I.ok)) sc.kind sc.names
  (aM (hi pins s σ H _ I h) λv s1 h1=>aM h1 λitv s2 h2=>?_)) (λ_ s' hq=>AK (AK hq)) λ_ _ e=>e)
 obtain⟨it,fp,tn,J,H2,e,I2,T,st2,f2,q⟩:=h2
 subst e
 refine rL (RR:=λacc C=>compPost (model X.prog X.w) X.A X.xe (some (assign (.Name y py) X.env)) (λ_ s'=>SP X pins D .next s') acc C) (R:=λE H'=>D.nx (σ.set i (some (.ref E))) H') sc hc hg ht he I2 T st2 f2 q ?_
 intro E C H' s' m I' hC hn hf hq
 show wpAny _ X.A (assign (.Name y py) X.env (.ref E)) _ _ _
 obtain⟨f0,f1,f2,f3,f4,f5⟩:=I2.iE (H':=H') hC hf
 refine wpAny_assign_Name (uP I' hN hi' (.inl hx) (v:=.ref E) (u:=.ref E) rfl (λs3 I3 ⟨a,sb,ha⟩=>?_) (.inr hx))
 have hCa:C≠a:=by
  rcases ha with z | z
  ·rw[z];exact f1
  ·exact(f4 y a z).symm
 refine⟨m,hn.sameBut sb hCa,λh' sb'=>?_⟩
 exact⟨_,H',I3.turned (t':=s3.toks) (it:=C) (λb o hb e=>(sb'.2 b hb).trans e) f0 f1 f3 f4 f5,hq⟩
end
theorem fh{lo:Int}{n:Nat}{g:TG}{tt:TT}{te:TE}{D:Addr}{σ:St}{H:Hp}{R:Hp->Prop}(Pv:Nat->St->Hp->Prop)(h0:Pv 0 σ H)
  (hs:∀i σ H,i<n->Pv i σ H->g (.int (lo+i)) σ H λσ2 H2=>tt σ2 H2 λb H3=>if b=true then te σ2 H3 λy H4=>∃ys,H4 D=some (.lst ys)/\ys.length<sizeLine/\Pv (i+1) σ2 (upd H4 D (.lst (ys++[y]))) else Pv (i+1) σ2 H3)
  (hd:∀σ H,Pv n σ H->R H):iX (uS lo n) g tt te D σ H R:=by
 refine⟨λi m σ H=>m=n-i/\i<=n/\Pv i σ H,⟨n,by simp,BI _,h0⟩,?_⟩
 rintro i m σ H ⟨rfl,hi,p⟩
 by_cases hlt:i<n
 ·refine .inr ⟨hlt,Pv (i+1),λσ' H' p'=>⟨n-(i+1),by omega,rfl,hlt,p'⟩,λx H' y=>?_⟩
  obtain⟨e,y⟩:=y
  subst e y
  exact hs i σ _ hlt p
 ·have e:i=n:=by omega
  subst e
  exact .inl ⟨AM _,hd σ H p⟩
theorem cR{K:AE}{a:Addr}{xs:List V}{g:TG}{tt:TT}{te:TE}{D:Addr}{σ:St}{H:Hp}{R:Hp->Prop}(Pv:Nat->St->Hp->Prop)(h0:Pv 0 σ H)(hl:∀i σ H,i<=xs.length->Pv i σ H->bC K H a xs)
  (hs:∀i x σ H,xs[i]? =some x->Pv i σ H->g x σ H λσ2 H2=>tt σ2 H2 λb H3=>if b=true then te σ2 H3 λy H4=>∃ys,H4 D=some (.lst ys)/\ys.length<sizeLine/\Pv (i+1) σ2 (upd H4 D (.lst (ys++[y]))) else Pv (i+1) σ2 H3)
  (hd:∀σ H,Pv xs.length σ H->R H):iX (wL K a) g tt te D σ H R:=by
 refine⟨λi m σ H=>m=xs.length-i/\i<=xs.length/\Pv i σ H,⟨xs.length,by simp,BI _,h0⟩,?_⟩
 rintro i m σ H ⟨rfl,hi,p⟩
 have q:=hl i σ H hi p
 by_cases hlt:i<xs.length
 ·refine .inr ⟨⟨xs,xs[i],q,by simp[hlt]⟩,Pv (i+1),λσ' H' p'=>⟨xs.length-(i+1),by omega,rfl,hlt,p'⟩,λx H' y=>?_⟩
  obtain⟨e,y⟩:=y
  subst e
  exact hs i x σ _ (y xs q) p
 ·have e:i=xs.length:=by omega
  subst e
  exact .inl ⟨⟨xs,q,AM _⟩,hd σ H p⟩
theorem fi{K:AE}{a:Addr}{xs:List V}{g:TG}{tt:TT}{te:TE}{D:Addr}{σ:St}{H:Hp}{R:Hp->Prop}(Pv:Nat->St->Hp->Prop)(h0:Pv 0 σ H)(hl:∀i σ H,i<=xs.length->Pv i σ H->bN K H a xs)
  (hs:∀i x σ H,xs[i]? =some x->Pv i σ H->g x σ H λσ2 H2=>tt σ2 H2 λb H3=>if b=true then te σ2 H3 λy H4=>∃ys,H4 D=some (.lst ys)/\ys.length<sizeLine/\Pv (i+1) σ2 (upd H4 D (.lst (ys++[y]))) else Pv (i+1) σ2 H3)
  (hd:∀σ H,Pv xs.length σ H->R H):iX (uR K a) g tt te D σ H R:=by
 refine⟨λi m σ H=>m=xs.length-i/\i<=xs.length/\Pv i σ H,⟨xs.length,by simp,BI _,h0⟩,?_⟩
 rintro i m σ H ⟨rfl,hi,p⟩
 have q:=hl i σ H hi p
 by_cases hlt:i<xs.length
 ·refine .inr ⟨⟨xs,xs[i],q,by simp[hlt]⟩,Pv (i+1),λσ' H' p'=>⟨xs.length-(i+1),by omega,rfl,hlt,p'⟩,λx H' y=>?_⟩
  obtain⟨e,y⟩:=y
  subst e
  exact hs i x σ _ (y xs q) p
 ·have e:i=xs.length:=by omega
  subst e
  exact .inl ⟨⟨xs,q,AM _⟩,hd σ H p⟩
section
variable{X:Cx}
def WI(i j:Int):Prop:=0<j/\j.natAbs.log2<9000
theorem iG:cQ X (CQ .FloorDiv) (rI WI λi j=>.int (i / j)):=PN λi j _ _ _ _ _ hc q=>by
 obtain⟨h0,h1⟩:=hc
 refine floordiv_int (by omega) ?_ (.inl (PyProof.noPylong_of_log2 h1))
 rw[Int.fdiv_eq_ediv_of_nonneg _ (by omega)]
 exact q
theorem K3(hc:X.calm=true):cZ X (.builtin "sum") (λxs H Q=>∃(a:Addr) (ns:List Int),xs=[.ref a]/\bC X.K H a (ns.map V.int)/\Q (.int ns.sum) H):=by
 intro pins s σ H xs us Q I r h
 obtain⟨a,ns,rfl,hq,q⟩:=h
 obtain⟨u,rfl,ru⟩:=vals1 r
 cases ru
 obtain⟨its,rv,p,_⟩:=I.list hq
 have hi:CP its ns:=intsAre_of rv
 have all:=hi.allInts
 obtain⟨ys,hy⟩:=all.items
 have e:(numsOf its.toArray.toList).sum=ns.sum:=by rw[show its.toArray.toList=its from rfl,hi.numsOf]
 have hl:=p.isList
 rw[hy] at hl e
 rw[nums_intItems] at e
 refine sum_intListG (I.ok.hd hc) hl λh' tk t' k=>⟨.int (preSum (numAt ys) ys.size),H,I.kept k,⟨t',rfl⟩,?_⟩
 rw[preSum_eq,Bv (by simp)]
 first
  | (rw[e];exact q)
  | (simp only[e];exact q)
theorem yM:cZ X (.builtin "isinstance") (λxs H Q=>∃(x:V) (t:Value) (T:String) (b:Bool),xs=[x,.ty T]/\gA X.K H x t/\BF X.K t (.type T)=some b/\Q (.bl b) H):=by
 intro pins s σ H xs us Q I r h
 obtain⟨x,t,T,b,rfl,ty,e,q⟩:=h
 obtain⟨u,w',rfl,rx,rT⟩:=vals2 r
 cases(show w'=FN T from rT)
 exact KH I rx ty e λtk=>⟨.bl b,H,I.tok tk,rfl,q⟩
theorem S3{K:AE}:BF K (.type "int") (.type "int")=some true:=by rfl
theorem S4{K:AE}:BF K (.type "int") (.type "bool")=some false:=by rfl
theorem xb{K:AE}:BF K (.type "list") (.type "list")=some true:=by rfl
theorem xc{K:AE}:BF K (.type "tuple") (.type "tuple")=some true:=by rfl
theorem zE:cQ X (CQ .Add) (λx y H Q=>∃(a b:Addr) (ys:List V),x=.ref a/\y=.ref b/\bN X.K H a []/\bN X.K H b ys/\Q (.ref b) H):=by
 intro pins s σ H x y v u Q I rx ry h
 obtain⟨a,b,ys,rfl,rfl,ha,hb,q⟩:=h
 cases rx
 cases ry
 obtain⟨its,r1,p1,_⟩:=I.tuple ha
 obtain⟨its2,r2,p2,_⟩:=I.tuple hb
 cases r1
 obtain⟨⟨cls,dd,data,sl⟩,ho,hc,n,hd⟩:=id p1
 obtain⟨⟨cls2,dd2,data2,sl2⟩,ho2,hc2,n2,hd2⟩:=id p2
 simp only at hc hd hc2 hd2
 subst hc hd hc2 hd2
 exact concat_meets ⟨_,ho,rfl⟩ ⟨_,ho2,rfl⟩ GJ HP EW EO (EC _ _)
  (tuple_addW0 a b #[] its2.toArray n n2 dd dd2 sl sl2 rfl) ⟨ho,ho2,⟨.ref b,H,I,rfl,q⟩⟩
def P6(K:AE):R2:=λx y H Q=>∃(a b:Addr) (xs ys:List V),x=.ref a/\y=.ref b/\bN K H a xs/\bN K H b ys/\ys≠[]/\xs.length+ys.length<=sizeLine/\
 (xs=[]->Q (.ref b) H)/\(xs≠[]->∀p,H p=none->Q (.ref p) (upd H p (.tup (xs++ys))))
theorem Ri:cQ X (CQ .Add) (P6 X.K):=by
 intro pins s σ H x y v u Q I rx ry h
 obtain⟨a,b,xs,ys,rfl,rfl,ha,hb,hy,hz,q1,q2⟩:=h
 by_cases hx:xs=[]
 ·subst hx
  exact zE pins s σ H _ _ v u Q I rx ry ⟨a,b,ys,rfl,rfl,ha,hb,q1 rfl⟩
 ·exact zA pins s σ H _ _ v u Q I rx ry ⟨a,b,xs,ys,rfl,rfl,ha,hb,hx,hz,λz=>absurd z hy,λ_=>q2 hx⟩
end
def u9(scope esc:Scope)(N own aI:List Str)(bD:List Nat):Bool:=
 scope.names.all (λy=>y.2 != .cell)&&scope.kind == .function&&scope.names.all (λy=>y.2 != .local||scope.names.lookup y.1 == some .local)
 &&scope.names.all (λy=>y.2 != .free||(esc.names.lookup y.1 == some .cell||esc.names.lookup y.1 == some .free))
 &&bD.length == aI.length&&(Ad bD.length).all (λi=>(bD[i]?).bind (λj=>N[j]?) == aI[i]?)
 &&aI.all (λx=>scope.names.contains (x,BZ)&&scope.names.lookup x == some .free)
theorem aG.mk'{X:Cx}{scope esc:Scope}{N own aI:List Str}{bD:List Nat}(hs:X.env.scope=esc)(hN:X.N=N)(h:u9 scope esc N own aI bD=true):aG X scope own aI bD:=by
 unfold u9 at h
 simp only[CV,DP,bne_iff_ne,beq_iff_eq,Bool.or_eq_true,List.contains_iff_mem] at h
 obtain⟨⟨⟨⟨⟨⟨h1,h2⟩,h3⟩,h4⟩,h5⟩,h6⟩,h7⟩:=h
 refine⟨h1,h2,λy hy hl=>?_,λy hy hf=>?_,h5,λi j e=>?_,λx hx=>h7 x hx⟩
 ·rcases h3 y hy with z | z
  ·exact absurd hl z
  ·exact z
 ·rw[hs]
  rcases h4 y hy with z | z
  ·exact absurd hf z
  ·exact z
 ·have hi:i<bD.length:=(AD.mp e).1
  have q:=h6 i (A_.mpr hi)
  rw[e] at q
  rw[hN]
  exact q
def KB(d:Addr)(H H':Hp):Prop:=∀b o,H b=some o->b≠d->H' b=some o
theorem KB.write{d:Addr}{H:Hp}{o:HO}:KB d H (upd H d o):=λb o h n=>by rw[ao n];exact h
theorem Same.new{H:Hp}{p:Addr}{o:HO}(h:H p=none):Same H (upd H p o):=λb u e=>by rw[ao (aq e h)];exact e
theorem Same.kbn{d:Addr}{H H1 H2:Hp}(s:Same H H1)(h:H d=none)(k:KB d H1 H2):Same H H2:=λb o e=>k b o (s b o e) (aq e h)
def bF(H H':Hp):Prop:=∀b xs,H b=some (.tup xs)->H' b=some (.tup xs)
theorem bF.trans{H H1 H2:Hp}(a:bF H H1)(b:bF H1 H2):bF H H2:=λc o h=>b c o (a c o h)
theorem Same.kt{H H':Hp}(s:Same H H'):bF H H':=λb xs h=>s b _ h
theorem bF.lst{H:Hp}{d:Addr}{xs:List V}{o:HO}(h:H d=some (.lst xs)):bF H (upd H d o):=λb ys e=>by
 rw[ao (gE e h (λz=>nomatch z))];exact e
def cx(H:Hp)(ps:List Addr)(ls:List (List Int)):Prop:=DG (λp (l:List Int)=>H p=some (.tup (l.map V.int))) ps ls
theorem cx.keep{H H':Hp}{ps:List Addr}{ls:List (List Int)}(t:cx H ps ls)(k:bF H H'):cx H' ps ls:=Paired.qz t λ_ _ h=>k _ _ h
theorem cx.get{H:Hp}:∀{ps:List Addr} {ls:List (List Int)} {i:Nat} {p:Addr},cx H ps ls->ps[i]? =some p->∃l,ls[i]? =some l/\H p=some (.tup (l.map V.int))
 | _,_,_,_,.nil,e=>by simp at e
 | _,_,0,_,.cons r _,e=>by simp at e;subst e;exact⟨_,rfl,r⟩
 | _,_,i+1,p,.cons _ t,e=>by
  obtain⟨u,h1,h2⟩:=cx.get (i:=i) (p:=p) t (by simpa using e)
  exact⟨u,by simpa using h1,h2⟩
theorem cf{α β:Type}{F:α->β->Prop}:∀{xs ys:List α} {us ws:List β},DG F xs us->DG F ys ws->DG F (xs++ys) (us++ws)
 | _,_,_,_,.nil,s=>s
 | _,_,_,_,.cons r t,s=>.cons r (cf t s)
end L2
namespace L2
open PySem
theorem bI:Bg "len"=some (.builtin "len"):=by decide+kernel
theorem K4:Bg "abs"=some (.builtin "abs"):=by decide+kernel
theorem xf:Bg "sum"=some (.builtin "sum"):=by decide+kernel
theorem K5:Bg "min"=some (.builtin "min"):=by decide+kernel
theorem cy:Bg "isinstance"=some (.builtin "isinstance"):=by decide+kernel
theorem oQ:Bg "sorted"=some (.builtin "sorted"):=by decide+kernel
theorem S5:Bg "all"=some (.builtin "all"):=by decide+kernel
theorem xg:Bg "any"=some (.builtin "any"):=by decide+kernel
theorem j0:Bg "list"=some (.type "list"):=by decide+kernel
theorem bB:Bg "tuple"=some (.type "tuple"):=by decide+kernel
theorem xh:Bg "int"=some (.type "int"):=by decide+kernel
theorem tM:Bg "bool"=some (.type "bool"):=by decide+kernel
theorem S6:Bg "set"=some (.type "set"):=by decide+kernel
end L2
namespace L2
open PySem PySem.Spec PyProof.Rows
def Zj(K:AE):List V->Hp->VK->Prop:=λxs H Q=>∃x n,xs=[x]/\SF K x H n/\Q (.int n) H
def Zk(K:AE):List V->Hp->VK->Prop:=λxs H Q=>∃(a:Addr) (ns:List Int),xs=[.ref a]/\bC K H a (ns.map V.int)/\Q (.int ns.sum) H
def Zm(K:AE):List V->Hp->VK->Prop:=λxs H Q=>∃(x:V) (t:Value) (T:String) (b:Bool),xs=[x,.ty T]/\gA K H x t/\BF K t (.type T)=some b/\Q (.bl b) H
section
variable{X:Cx}
theorem aP(K:AE)(hK:X.K=K:=by rfl):cZ X (.builtin "len") (Zj K):=by subst hK;exact NQ
theorem oR(K:AE)(hc:X.calm=true:=by rfl)(hK:X.K=K:=by rfl):cZ X (.builtin "sum") (Zk K):=by subst hK;exact K3 hc
theorem dI(K:AE)(hK:X.K=K:=by rfl):cZ X (.builtin "isinstance") (Zm K):=by subst hK;exact yM
theorem bo(K:AE)(hK:X.K=K:=by rfl):zC X (SK K):=by subst hK;exact Q8
theorem aD(K:AE)(hK:X.K=K:=by rfl):zC X (SM K):=by subst hK;exact SN
theorem nh(K:AE)(hK:X.K=K:=by rfl):zy X (SQ K):=by subst hK;exact Q9
theorem xi(K:AE)(hK:X.K=K:=by rfl):cQ X (CQ .Add) (P6 K):=by subst hK;exact Ri
theorem oS(K:AE)(hK:X.K=K:=by rfl):cQ X (CB .In) (PX K false):=by subst hK;exact KO
theorem vb(K:AE)(hK:X.K=K:=by rfl):cQ X (CB .NotIn) (PX K true):=by subst hK;exact wR
def S7(_ j:Int):Prop:=0<j
theorem cpos{i j:Int}(h:0<j):S7 i j:=h
theorem fF:cQ X (CQ .Mod) (rI S7 λi j=>.int (i % j)):=SA
end
inductive Dt where
 | non | bl (b:Bool) | int (i:Int) | str (x:Str) | tup (xs:List Dt) | lst (xs:List Dt)
mutual
def Dt.beq:Dt->Dt->Bool
 | .non,.non=>true
 | .bl a,.bl b=>a == b
 | .bl a,.int b=>(if a then 1 else 0) == b
 | .int a,.bl b=>a == (if b then 1 else 0)
 | .int a,.int b=>a == b
 | .str a,.str b=>a == b
 | .tup xs,.tup ys=>Dt.eh xs ys
 | .lst xs,.lst ys=>Dt.eh xs ys
 | _,_=>false
def Dt.eh:List Dt->List Dt->Bool
 | [],[]=>true
 | x::xs,y::ys=>x.beq y&&Dt.eh xs ys
 | _,_=>false
end
mutual
def Dt.dep:Dt->Nat
 | .tup xs=>Dt.deps xs+1
 | .lst xs=>Dt.deps xs+1
 | _=>0
def Dt.deps:List Dt->Nat
 | []=>0
 | x::xs=>max x.dep (Dt.deps xs)
end
mutual
def aJ(K:AE)(H:Hp):V->Dt->Prop
 | x,.non=>x=.non
 | x,.bl b=>x=.bl b
 | x,.int i=>x=.int i
 | x,.str z=>x=.str z
 | x,.tup ds=>∃a xs,x=.ref a/\bN K H a xs/\bq K H xs ds
 | x,.lst ds=>∃a xs,x=.ref a/\bC K H a xs/\bq K H xs ds
def bq(K:AE)(H:Hp):List V->List Dt->Prop
 | [],[]=>True
 | x::xs,d::ds=>aJ K H x d/\bq K H xs ds
 | _,_=>False
end
theorem Dt.beq_refl(d:Dt):d.beq d=true:=by
 induction d using Dt.rec (motive_2:=λxs=>Dt.eh xs xs=true) with
 | non=>simp[Dt.beq]
 | bl b=>simp[Dt.beq]
 | int b=>simp[Dt.beq]
 | str b=>simp[Dt.beq]
 | tup xs ih=>simp[Dt.beq,ih]
 | lst xs ih=>simp[Dt.beq,ih]
 | nil=>simp[Dt.eh]
 | cons x xs h1 h2=>simp[Dt.eh,h1,h2]
theorem bq.length{K:AE}{H:Hp}:∀{xs:List V} {ds:List Dt},bq K H xs ds->xs.length=ds.length
 | [],[],_=>rfl
 | [],_::_,h=>by simp[bq] at h
 | _::_,[],h=>by simp[bq] at h
 | x::xs,d::ds,h=>by
  rw[bq] at h
  rw[A',A',bq.length h.2]
theorem bq.get{K:AE}{H:Hp}:∀{xs:List V} {ds:List Dt} {i:Nat} {x:V},bq K H xs ds->xs[i]? =some x->∃d,ds[i]? =some d/\aJ K H x d
 | [],_,_,_,_,e=>by simp at e
 | _::_,[],_,_,h,_=>by simp[bq] at h
 | x::xs,d::ds,0,y,h,e=>by
  rw[bq] at h
  simp at e;subst e
  exact⟨d,rfl,h.1⟩
 | x::xs,d::ds,i+1,y,h,e=>by
  rw[bq] at h
  obtain⟨d',h1,h2⟩:=bq.get (i:=i) (x:=y) h.2 (by simpa using e)
  exact⟨d',by simpa using h1,h2⟩
theorem Dt.ku{d:Dt}:∀{ds:List Dt},d∈ds->d.dep<=Dt.deps ds
 | [],h=>by cases h
 | x::xs,h=>by
  rw[Dt.deps]
  rcases Ak.mp h with rfl | h
  ·exact Nat.le_max_left ..
  ·exact BH (Dt.ku h) (Nat.le_max_right ..)
def wA(xs ys:List Dt)(j:Nat):Bool:=match xs[j]?,ys[j]? with
 | some x,some y=>x.beq y
 | _,_=>false
theorem tN(n:Nat)(e:Nat->Bool):(Ad (n+1)).all e=(e 0&&(Ad n).all λj=>e (j+1)):=by
 rw[DZ,Ew,EY];rfl
theorem ky:∀(xs ys:List Dt),xs.length=ys.length->(Ad xs.length).all (wA xs ys)=Dt.eh xs ys
 | [],[],_=>by simp[Dt.eh]
 | x::xs,y::ys,h=>by
  have h':xs.length=ys.length:=by simpa using h
  rw[A',tN,Dt.eh,<-ky xs ys h']
  rfl
theorem kz:∀(xs ys:List Dt),xs.length≠ys.length->Dt.eh xs ys=false
 | [],[],h=>absurd rfl h
 | [],_::_,_=>by simp[Dt.eh]
 | _::_,[],_=>by simp[Dt.eh]
 | x::xs,y::ys,h=>by
  have h':xs.length≠ys.length:=λz=>h (by simp[z])
  rw[Dt.eh,kz xs ys h',FV]
section
variable{X:Cx}{pins:List (Addr×Obj)}{σ:St}{H:Hp}{s:AN}
theorem mJ{a:Addr}{xs ys:List V}(I:Inv X pins σ H s)(h1:bC X.K H a xs)(h2:bN X.K H a ys):False:=by
 obtain⟨its,_,p,_⟩:=I.list h1
 obtain⟨its2,_,q,_⟩:=I.tuple h2
 exact SeqAt.ne_of_list_tuple p.isList (show s.heap.IsTuple a its2.toArray from q) rfl
theorem tO(I:Inv X pins σ H s)(d:Dt):∀(x:V) (d':Dt),aJ X.K H x d->aJ X.K H x d'->d=d':=by
 induction d using Dt.rec (motive_2:=λds=>∀(xs:List V) (ds':List Dt),bq X.K H xs ds->bq X.K H xs ds'->ds=ds') with
 | non=>intro x d' h h';cases d'<;>simp_all [aJ]
 | bl b=>intro x d' h h';cases d'<;>simp_all [aJ]
 | int b=>intro x d' h h';cases d'<;>simp_all [aJ]
 | str b=>intro x d' h h';cases d'<;>simp_all [aJ]
 | tup ds ih=>
  intro x d' h h'
  rw[aJ] at h
  obtain⟨a,xs,rfl,hq,hd⟩:=h
  cases d' with
  | tup ds'=>
   rw[aJ] at h'
   obtain⟨a',xs',e,hq',hd'⟩:=h'
   cases e
   rw[I.ja hq' hq] at hd'
   rw[ih xs ds' hd hd']
  | lst ds'=>
   rw[aJ] at h'
   obtain⟨a',xs',e,hq',hd'⟩:=h'
   cases e
   exact(mJ I hq' hq).elim
  | _=>simp[aJ] at h'
 | lst ds ih=>
  intro x d' h h'
  rw[aJ] at h
  obtain⟨a,xs,rfl,hq,hd⟩:=h
  cases d' with
  | lst ds'=>
   rw[aJ] at h'
   obtain⟨a',xs',e,hq',hd'⟩:=h'
   cases e
   rw[I.kg hq' hq] at hd'
   rw[ih xs ds' hd hd']
  | tup ds'=>
   rw[aJ] at h'
   obtain⟨a',xs',e,hq',hd'⟩:=h'
   cases e
   exact(mJ I hq hq').elim
  | _=>simp[aJ] at h'
 | nil=>
  rename_i xs ds' h h'
  cases xs with
  | nil=>cases ds' with
   | nil=>rfl
   | cons _ _=>simp[bq] at h'
  | cons _ _=>simp[bq] at h
 | cons d ds h1 h2=>
  rename_i xs ds' h h'
  cases xs with
  | nil=>simp[bq] at h
  | cons x xs=>cases ds' with
   | nil=>simp[bq] at h'
   | cons d' ds'=>
    rw[bq] at h h'
    rw[h1 x d' h.1 h'.1,h2 xs ds' h.2 h'.2]
theorem ni{A:BQ}{xs ys:List V}{ds ds':List Dt}{its its2:List Value}(r1:Vals xs its)(r2:Vals ys its2)(h1:bq X.K H xs ds)(h2:bq X.K H ys ds')
  (ih:∀d∈ds,∀(d':Dt) (x y:V) (u v:Value),aJ X.K H x d->aJ X.K H y d'->RelV x u->RelV y v->Cu A s u v (d.beq d')):
  ∀j (a:j<its.toArray.size) (b:j<its2.toArray.size),Cu A s its.toArray[j] its2.toArray[j] (wA ds ds' j):=λj a b=>by
 have a':j<its.length:=by simpa using a
 have b':j<its2.length:=by simpa using b
 have la:=r1.length
 have lb:=r2.length
 have ex:xs[j]? =some (xs[j]'(by omega)):=Ag (by omega)
 have ey:ys[j]? =some (ys[j]'(by omega)):=Ag (by omega)
 obtain⟨u,eu,ru⟩:=r1.get ex
 obtain⟨v,ev,rv⟩:=r2.get ey
 obtain⟨d,ed,hd⟩:=h1.get ex
 obtain⟨d',ed',hd'⟩:=h2.get ey
 have e1:its.toArray[j]=u:=by
  rw[Ag a'] at eu
  simpa using AZ eu
 have e2:its2.toArray[j]=v:=by
  rw[Ag b'] at ev
  simpa using AZ ev
 rw[e1,e2]
 have e3:wA ds ds' j=d.beq d':=by unfold wA;rw[ed,ed']
 rw[e3]
 exact ih d (AL ed) d' _ _ u v hd hd' ru rv
theorem NY{A:BQ}{a b:Addr}{xs ys:List V}{ds ds':List Dt}(I:Inv X pins σ H s)(q1:bC X.K H a xs)(q2:bC X.K H b ys)(h1:bq X.K H xs ds)(h2:bq X.K H ys ds')(hu:A.units<cLine)
  (ih:∀d∈ds,∀(d':Dt) (x y:V) (u v:Value),aJ X.K H x d->aJ X.K H y d'->RelV x u->RelV y v->Cu A.in1 s u v (d.beq d')):IJ A s (.ref a) (.ref b) (Dt.eh ds ds'):=by
 obtain⟨its,r1,p1,_⟩:=I.list q1
 obtain⟨its2,r2,p2,_⟩:=I.list q2
 have l1:=r1.length
 have l2:=r2.length
 have l3:=h1.length
 have l4:=h2.length
 by_cases hl:ds.length=ds'.length
 ·have:=SeqAt.RcAt.lists p1.isList p2.isList (by simp;omega) hu (ni r1 r2 h1 h2 ih)
  rw[show its.toArray.size=ds.length by simp;omega,ky ds ds' hl] at this
  exact this
 ·rw[kz ds ds' hl]
  exact SeqAt.RcAt.lists_lengths p1.isList p2.isList (by simp;omega) hu
theorem K6{A:BQ}{a b:Addr}{xs ys:List V}{ds ds':List Dt}(I:Inv X pins σ H s)(q1:bN X.K H a xs)(q2:bN X.K H b ys)(h1:bq X.K H xs ds)(h2:bq X.K H ys ds')(hu:A.units<cLine)
  (ih:∀d∈ds,∀(d':Dt) (x y:V) (u v:Value),aJ X.K H x d->aJ X.K H y d'->RelV x u->RelV y v->Cu A.in1 s u v (d.beq d')):IJ A s (.ref a) (.ref b) (Dt.eh ds ds'):=by
 obtain⟨its,r1,p1,_⟩:=I.tuple q1
 obtain⟨its2,r2,p2,_⟩:=I.tuple q2
 have l1:=r1.length
 have l2:=r2.length
 have l3:=h1.length
 have l4:=h2.length
 have:=SeqAt.RcAt.tuples (show s.heap.IsTuple a its.toArray from p1) (show s.heap.IsTuple b its2.toArray from p2) hu (ni r1 r2 h1 h2 ih)
 by_cases hl:ds.length=ds'.length
 ·rw[show min its.toArray.size its2.toArray.size=ds.length by simp;omega,ky ds ds' hl,show(its.toArray.size == its2.toArray.size)=true by simp;omega,Bool.and_true] at this
  exact this
 ·rw[show(its.toArray.size == its2.toArray.size)=false by simp;omega,FV] at this
  rw[kz ds ds' hl]
  exact this
theorem xj(I:Inv X pins σ H s)(d:Dt):∀(A:BQ) (d':Dt) (x y:V) (u v:Value),A.units+d.dep<cLine->aJ X.K H x d->aJ X.K H y d'->RelV x u->RelV y v->Cu A s u v (d.beq d'):=by
 have flat:∀{A:BQ} {d d':Dt} {x y:V} {u v:Value},f' x=true->f' y=true->jF x y=d.beq d'->RelV x u->RelV y v->Cu A s u v (d.beq d'):=λfx fy e ru rv=>e▸KL ru rv fx fy
 have zF:∀{a:Addr} {xs:List V},bC X.K H a xs->∃its:Array Value,s.heap.IsList a its:=λq=>let ⟨its,_,p,_⟩:=I.list q;⟨_,p.isList⟩
 have zG:∀{a:Addr} {xs:List V},bN X.K H a xs->∃its:Array Value,s.heap.IsTuple a its:=λq=>let ⟨its,_,p,_⟩:=I.tuple q;⟨_,p⟩
 have refs:∀{A:BQ} {a b:Addr} {d d':Dt},aJ X.K H (.ref a) d->aJ X.K H (.ref b) d'->IJ A s (.ref a) (.ref b) (d.beq d')->Cu A s (.ref a) (.ref b) (d.beq d'):=by
  intro A a b d d' h h' r
  by_cases e:a=b
  ·subst e
   rw[<-tO I d _ _ h h',Dt.beq_refl]
   exact IF _
  ·exact SeqAt.EqAt.of_refs e r
 induction d using Dt.rec (motive_2:=λds=>∀d∈ds,∀(A:BQ) (d':Dt) (x y:V) (u v:Value),A.units+d.dep<cLine->aJ X.K H x d->aJ X.K H y d'->RelV x u->RelV y v->Cu A s u v (d.beq d')) with
 | non=>
  intro A d' x y u v hu h h' ru rv
  rw[aJ] at h
  subst h
  have hu':A.units<cLine:=by omega
  cases d' with
  | tup ds'=>
   rw[aJ] at h';obtain⟨b,ys,rfl,q,_⟩:=h'
   cases ru;cases rv
   obtain⟨its,p⟩:=zG q
   exact SeqAt.EqAt.none_tuple p hu'
  | lst ds'=>
   rw[aJ] at h';obtain⟨b,ys,rfl,q,_⟩:=h'
   cases ru;cases rv
   obtain⟨its,p⟩:=zF q
   exact SeqAt.EqAt.none_list p hu'
  | _=>rw[aJ] at h';subst h';exact flat rfl rfl (by simp[Dt.beq,jF]) ru rv
 | bl b0=>
  intro A d' x y u v hu h h' ru rv
  rw[aJ] at h
  subst h
  have hu':A.units<cLine:=by omega
  cases d' with
  | tup ds'=>
   rw[aJ] at h';obtain⟨b,ys,rfl,q,_⟩:=h'
   cases ru;cases rv
   obtain⟨its,p⟩:=zG q
   exact SeqAt.EqAt.bool_tuple _ p hu'
  | lst ds'=>
   rw[aJ] at h';obtain⟨b,ys,rfl,q,_⟩:=h'
   cases ru;cases rv
   obtain⟨its,p⟩:=zF q
   exact SeqAt.EqAt.bool_list _ p hu'
  | _=>rw[aJ] at h';subst h';exact flat rfl rfl (by simp[Dt.beq,jF]) ru rv
 | int i0=>
  intro A d' x y u v hu h h' ru rv
  rw[aJ] at h
  subst h
  have hu':A.units<cLine:=by omega
  cases d' with
  | tup ds'=>
   rw[aJ] at h';obtain⟨b,ys,rfl,q,_⟩:=h'
   obtain⟨t,rfl⟩:=ru;cases rv
   obtain⟨its,p⟩:=zG q
   exact SeqAt.EqAt.int_tuple _ _ p hu'
  | lst ds'=>
   rw[aJ] at h';obtain⟨b,ys,rfl,q,_⟩:=h'
   obtain⟨t,rfl⟩:=ru;cases rv
   obtain⟨its,p⟩:=zF q
   exact SeqAt.EqAt.int_list _ _ p hu'
  | _=>rw[aJ] at h';subst h';exact flat rfl rfl (by simp[Dt.beq,jF]) ru rv
 | str z0=>
  intro A d' x y u v hu h h' ru rv
  rw[aJ] at h
  subst h
  have hu':A.units<cLine:=by omega
  cases d' with
  | tup ds'=>
   rw[aJ] at h';obtain⟨b,ys,rfl,q,_⟩:=h'
   obtain⟨t,rfl⟩:=ru;cases rv
   obtain⟨its,p⟩:=zG q
   exact SeqAt.EqAt.str_tuple _ _ p hu'
  | lst ds'=>
   rw[aJ] at h';obtain⟨b,ys,rfl,q,_⟩:=h'
   obtain⟨t,rfl⟩:=ru;cases rv
   obtain⟨its,p⟩:=zF q
   exact SeqAt.EqAt.str_list _ _ p hu'
  | _=>rw[aJ] at h';subst h';exact flat rfl rfl (by simp[Dt.beq,jF]) ru rv
 | tup ds ih=>
  intro A d' x y u v hu h h' ru rv
  have hD:=h
  have hD':=h'
  rw[aJ] at h
  obtain⟨a,xs,rfl,q,hd⟩:=h
  cases ru
  obtain⟨its,p⟩:=zG q
  have hu':A.units<cLine:=by omega
  cases d' with
  | non=>rw[aJ] at h';subst h';cases rv;exact SeqAt.EqAt.tuple_none p hu'
  | bl b=>rw[aJ] at h';subst h';cases rv;exact SeqAt.EqAt.tuple_bool _ p hu'
  | int b=>rw[aJ] at h';subst h';obtain⟨t,rfl⟩:=rv;exact SeqAt.EqAt.tuple_int _ _ p hu'
  | str b=>rw[aJ] at h';subst h';obtain⟨t,rfl⟩:=rv;exact SeqAt.EqAt.tuple_str _ _ p hu'
  | lst ds'=>
   rw[aJ] at h';obtain⟨b,ys,rfl,q',_⟩:=h'
   cases rv
   obtain⟨its2,p2⟩:=zF q'
   exact SeqAt.EqAt.tuple_list p p2 hu'
  | tup ds'=>
   rw[aJ] at h';obtain⟨b,ys,rfl,q',hd'⟩:=h'
   cases rv
   refine refs hD hD' ?_
   have:=K6 (A:=A) I q q' hd hd' hu' λd hm d' x y u v h1 h2 r1 r2=>ih d hm A.in1 d' x y u v (by
    have:=Dt.ku hm
    rw[Dt.dep] at hu
    show A.units+1+d.dep<cLine
    omega) h1 h2 r1 r2
   simpa[Dt.beq] using this
 | lst ds ih=>
  intro A d' x y u v hu h h' ru rv
  have hD:=h
  have hD':=h'
  rw[aJ] at h
  obtain⟨a,xs,rfl,q,hd⟩:=h
  cases ru
  obtain⟨its,p⟩:=zF q
  have hu':A.units<cLine:=by omega
  cases d' with
  | non=>rw[aJ] at h';subst h';cases rv;exact SeqAt.EqAt.list_none p hu'
  | bl b=>rw[aJ] at h';subst h';cases rv;exact SeqAt.EqAt.list_bool _ p hu'
  | int b=>rw[aJ] at h';subst h';obtain⟨t,rfl⟩:=rv;exact SeqAt.EqAt.list_int _ _ p hu'
  | str b=>rw[aJ] at h';subst h';obtain⟨t,rfl⟩:=rv;exact SeqAt.EqAt.list_str _ _ p hu'
  | tup ds'=>
   rw[aJ] at h';obtain⟨b,ys,rfl,q',_⟩:=h'
   cases rv
   obtain⟨its2,p2⟩:=zG q'
   exact SeqAt.EqAt.list_tuple p p2 hu'
  | lst ds'=>
   rw[aJ] at h';obtain⟨b,ys,rfl,q',hd'⟩:=h'
   cases rv
   refine refs hD hD' ?_
   have:=NY (A:=A) I q q' hd hd' hu' λd hm d' x y u v h1 h2 r1 r2=>ih d hm A.in1 d' x y u v (by
    have:=Dt.ku hm
    rw[Dt.dep] at hu
    show A.units+1+d.dep<cLine
    omega) h1 h2 r1 r2
   simpa[Dt.beq] using this
 | nil=>
  rename_i d hd A d' x y u v a1 a2 a3 a4 a5
  cases hd
 | cons d ds h1 h2=>
  rename_i d0 hd A d' x y u v a1 a2 a3 a4 a5
  rcases Ak.mp hd with e | hd
  ·subst e;exact h1 A d' x y u v a1 a2 a3 a4 a5
  ·exact h2 d0 hd A d' x y u v a1 a2 a3 a4 a5
def Dt.S8:Dt->Bool
 | .tup _=>true
 | .lst _=>true
 | _=>false
def Zn(K:AE)(neg:Bool):R2:=λx y H Q=>∃d d':Dt,aJ K H x d/\aJ K H y d'/\d.S8=true/\d'.S8=true/\d.dep<=40/\Q (.bl (if neg then !d.beq d' else d.beq d')) H
theorem K7(K:AE)(hu:X.A.units+64<cLine)(hK:X.K=K:=by rfl):cQ X (CB .NotEq) (λx y H Q=>Zn K true x y H Q/\∃d d':Dt,aJ K H x d/\aJ K H y d'/\((∃ds ds',d=.tup ds/\d'=.tup ds')∨∃ds ds',d=.lst ds/\d'=.lst ds')):=by
 subst hK
 intro pins s σ H x y v u Q I rx ry h
 obtain⟨⟨d,d',h,h',sq,sq',hd,q⟩,e,e',g,g',hk⟩:=h
 have e1:=tO I d x e h g
 have e2:=tO I d' y e' h' g'
 subst e1 e2
 have hA:∀e:Dt,e.dep<=40->X.A.in1.units+e.dep<cLine:=λe he=>by show X.A.units+1+e.dep<cLine;omega
 have hu':X.A.units<cLine:=by omega
 rcases hk with⟨ds,ds',rfl,rfl⟩ | ⟨ds,ds',rfl,rfl⟩
 ·rw[aJ] at h h'
  obtain⟨a,xs,rfl,q1,h1⟩:=h
  obtain⟨b,ys,rfl,q2,h2⟩:=h'
  cases rx
  cases ry
  have ih:∀d∈ds,∀(d':Dt) (x y:V) (u v:Value),aJ X.K H x d->aJ X.K H y d'->RelV x u->RelV y v->Cu X.A.in1 s u v (d.beq d'):=λd hm d' x y u v h1 h2 r1 r2=>
   xj I d X.A.in1 d' x y u v (hA d (by have:=Dt.ku hm;rw[Dt.dep] at hd;omega)) h1 h2 r1 r2
  obtain⟨its,r1,p1,_⟩:=I.tuple q1
  obtain⟨its2,r2,p2,_⟩:=I.tuple q2
  have l1:=r1.length
  have l2:=r2.length
  have l3:=h1.length
  have l4:=h2.length
  have z:=SeqAt.RcNeAt.tuples (show s.heap.IsTuple a its.toArray from p1) (show s.heap.IsTuple b its2.toArray from p2) hu' (ni r1 r2 h1 h2 ih)
  have fin:SeqAt.RcNeAt X.A s (.ref a) (.ref b) (!Dt.eh ds ds'):=by
   by_cases hl:ds.length=ds'.length
   ·rw[show min its.toArray.size its2.toArray.size=ds.length by simp;omega,ky ds ds' hl,show(its.toArray.size == its2.toArray.size)=true by simp;omega,Bool.and_true] at z
    exact z
   ·rw[show(its.toArray.size == its2.toArray.size)=false by simp;omega,FV] at z
    rw[kz ds ds' hl]
    exact z
  exact fin _ _ _ _ ⟨.bl _,H,I,rfl,by simpa[Dt.beq] using q⟩
 ·rw[aJ] at h h'
  obtain⟨a,xs,rfl,q1,h1⟩:=h
  obtain⟨b,ys,rfl,q2,h2⟩:=h'
  cases rx
  cases ry
  have ih:∀d∈ds,∀(d':Dt) (x y:V) (u v:Value),aJ X.K H x d->aJ X.K H y d'->RelV x u->RelV y v->Cu X.A.in1 s u v (d.beq d'):=λd hm d' x y u v h1 h2 r1 r2=>
   xj I d X.A.in1 d' x y u v (hA d (by have:=Dt.ku hm;rw[Dt.dep] at hd;omega)) h1 h2 r1 r2
  obtain⟨its,r1,p1,_⟩:=I.list q1
  obtain⟨its2,r2,p2,_⟩:=I.list q2
  have l1:=r1.length
  have l2:=r2.length
  have l3:=h1.length
  have l4:=h2.length
  have fin:SeqAt.RcNeAt X.A s (.ref a) (.ref b) (!Dt.eh ds ds'):=by
   by_cases hl:ds.length=ds'.length
   ·have z:=SeqAt.RcNeAt.lists p1.isList p2.isList (by simp;omega) hu' (ni r1 r2 h1 h2 ih)
    rw[show its.toArray.size=ds.length by simp;omega,ky ds ds' hl] at z
    exact z
   ·rw[kz ds ds' hl]
    exact SeqAt.RcNeAt.lists_lengths p1.isList p2.isList (by simp;omega) hu'
  exact fin _ _ _ _ ⟨.bl _,H,I,rfl,by simpa[Dt.beq] using q⟩
end
theorem jd{K:AE}{H:Hp}:∀(ns:List Int),bq K H (ns.map V.int) (ns.map Dt.int)
 | []=>by simp[bq]
 | n::ns=>by rw[A0,A0,bq];exact⟨by rw[aJ],jd ns⟩
theorem oT:∀(ns:List Int),Dt.deps (ns.map Dt.int)=0
 | []=>by simp[Dt.deps]
 | n::ns=>by rw[A0,Dt.deps,oT ns];simp[Dt.dep]
section
variable{X:Cx}
def WJ(K:AE):List V->Hp->VK->Prop:=λxs H Q=>∃(p:Addr) (ys:List V),xs=[.ref p]/\(bC K H p ys∨bN K H p ys)/\∀l,H l=none->Q (.ref l) (upd H l (.lst ys))
theorem nj(K:AE)(hK:X.K=K:=by rfl):cZ X (.type "list") (WJ K):=by subst hK;exact wU
def S9(K:AE):List V->Hp->VK->Prop:=λxs H Q=>∃(p:Addr) (ys:List V),xs=[.ref p]/\((bC K H p ys/\∀l,H l=none->Q (.ref l) (upd H l (.tup ys)))∨(bN K H p ys/\Q (.ref p) H))
theorem a_(K:AE)(hK:X.K=K:=by rfl):cZ X (.type "tuple") (S9 K):=by subst hK;exact vQ
end
end L2
namespace L2
open PySem
theorem tP{ns:List Int}{i:Nat}{x:V}(h:(ns.map V.int)[i]? =some x):∃f,x=.int f/\ns[i]? =some f:=by
 rw[AJ] at h
 cases e:ns[i]? with
 | none=>rw[e] at h;cases h
 | some f=>rw[e] at h;exact⟨f,(AZ h).symm,rfl⟩
end L2
namespace L2
open PySem PySem.Spec PyProof.Rows
theorem rM{ys:List Str}:∀{us:List Value},Vals (ys.map V.str) us->StrsAre us ys:=by
 induction ys with
 | nil=>intro us r;cases r;exact .nil
 | cons y ys ih=>
  intro us r
  rw[A0] at r
  cases r with
  | cons a b=>
   obtain⟨t,rfl⟩:=a
   exact .cons y t (ih b)
theorem vd:∀{us:List Value} {ys:List Str},StrsAre us ys->Vals (ys.map V.str) us
 | _,_,.nil=>.nil
 | _,_,.cons y t r=>.cons ⟨t,rfl⟩ (vd r)
theorem NZ(sep:Str)(ys:List Str)(h:(ys.map (·.length)).sum+ys.length*sep.length<=16777216):(Txt.join sep ys).length<=sizeLine:=by
 have hok:=joinOk_of h
 unfold JoinOk at hok
 rw[DA] at hok
 have e:ys=(ys.map λy=>(y,(0:Tok))).map (·.1):=by rw[Dc];exact(G_ ys).symm
 rw[e] at hok ⊢
 exact joinFit_length hok
section
variable{X:Cx}
def rJoin(K:AE):V->List V->Hp->VK->Prop:=λx vs H Q=>∃(sep:Str) (a:Addr) (ys:List Str),x=.str sep/\vs=[.ref a]/\bC K H a (ys.map V.str)/\(ys.map (·.length)).sum+ys.length*sep.length<=16777216/\∀z:Str,z.length<=sizeLine->z=Txt.join sep ys->Q (.str z) H
theorem N_(K:AE)(hK:X.K=K:=by rfl):wV X "str.join" (rJoin K):=by
 subst hK
 intro pins s σ H x vs v us Q I rx rv h
 obtain⟨sep,a,ys,rfl,rfl,hq,hz,q⟩:=h
 obtain⟨t,rfl⟩:=rx
 obtain⟨u,rfl,ru⟩:=rv.one
 cases ru
 obtain⟨its,r,p,_⟩:=I.list hq
 exact join_list p.isList (show StrsAre its.toArray.toList ys from rM r) hz λt' k=>⟨.str _,H,I.tok k,⟨t',rfl⟩,q _ (NZ sep ys hz) rfl⟩
def Ta(K:AE):List V->Hp->VK->Prop:=λxs H Q=>∃(a:Addr) (ss:List Str),xs=[.ref a]/\bC K H a (ss.map V.str)/\ss.length<64/\
 ∀(p:Addr) (ss':List Str),H p=none->ss'.Perm ss->G' ss'=true->Q (.ref p) (upd H p (.lst (ss'.map V.str)))
theorem yN(K:AE)(hK:X.K=K:=by rfl):cZ X (.builtin "sorted") (Ta K):=by
 subst hK
 intro pins s σ H xs us Q I r h
 obtain⟨a,ss,rfl,hq,hl,q⟩:=h
 obtain⟨u,rfl,ru⟩:=vals1 r
 cases ru
 obtain⟨its,rv,p,hz⟩:=I.list hq
 have hlen:=rv.length
 rw[AA] at hlen
 refine sorted_strs p.isList (rM rv) (by omega) λout ss' a1 a2 a3=>?_
 obtain⟨e,he⟩:=sortedAll_at s.heap its out
 have hp:s.heap.objs.size<=s.heap.objs.size+1:=Cr _
 refine⟨.ref (s.heap.objs.size+1),upd H (s.heap.objs.size+1) (.lst (ss'.map V.str)),?_,rfl,q _ ss' (I.hok.fresh hp) a2 a3⟩
 refine I.laid (t':=s.toks) (h':=sortedAll s.heap its out) (λ_ _=>sortedAll_old) hp ⟨?_,out.toList,e,vd a1,?_⟩
 ·rw[AA,a2.length_eq]
  rw[AA] at hz
  exact hz
 ·rw[he]
  first
   | done
   | rfl
def Zo:V->Option Int->Option Int->Hp->VK->Prop:=λx lo hi H Q=>∃z:Str,x=.str z/\z.length<=sizeLine/\Q (.str (Txt.slice z lo hi)) H
theorem qe{v:Value}{o:Option Int}(p:GA v o):∃l:Option (Int×Tok),v=partValue l/\l.map (·.1)=o:=by
 cases p with
 | none=>exact⟨none,rfl,rfl⟩
 | int i t=>exact⟨some (i,t),rfl,rfl⟩
theorem Tb:zy X Zo:=by
 intro pins s σ H x v vl vu lo hi sl Q I rx hs pl pu h
 obtain⟨z,rfl,hz,q⟩:=h
 obtain⟨t,rfl⟩:=rx
 obtain⟨l,rfl,hl⟩:=qe pl
 obtain⟨u,rfl,hu⟩:=qe pu
 subst hl hu
 obtain⟨o,ho,hc,hd⟩:=hs
 refine⟨"str",_,GF.lookup,GZ _ _ _,wpAny_getItem_str_slice (l:=l) (u:=u) (st:=none) ⟨o,ho,hc,hd⟩ rfl ?_⟩
 exact post_val_or_str ⟨BH (Txt.slice_le z _ _) hz,λt' k=>⟨.str _,H,I.tok k,⟨t',rfl⟩,q⟩⟩
theorem zH(K:AE){es:List Expr}{k:Nat}{t:uQ}{n:Nat}{pos:Pos}(hc:X.calm=true)(h:Kx X es t)
  (hn:(EL es X.env).length=n:=by rfl) (hst:(EL es X.env).findIdx? (·.1)=none:=by rfl) (hK:X.K=K:=by rfl):PG X (.Tuple es k pos) (Sv K n t):=by
 subst hK;exact oH hc h hn hst
end
mutual
def Dt.noL:Dt->Bool
 | .lst _=>false
 | .tup xs=>Dt.Td xs
 | _=>true
def Dt.Td:List Dt->Bool
 | []=>true
 | x::xs=>x.noL&&Dt.Td xs
end
theorem g_{K:AE}{H:Hp}{a:Addr}{xs:List V}{ds:List Dt}(h:bC K H a xs)(d:bq K H xs ds):aJ K H (.ref a) (.lst ds):=by rw[aJ];exact⟨a,xs,rfl,h,d⟩
theorem nq{K:AE}{H:Hp}:bq K H [] []:=by simp[bq]
end L2
namespace L2
open PySem
def cm(d e:Addr)(H H':Hp):Prop:=∀b o,H b=some o->b≠d->b≠e->H' b=some o
theorem cm.trans{d e:Addr}{H H1 H2:Hp}(a:cm d e H H1)(b:cm d e H1 H2):cm d e H H2:=λc o h n m=>b c o (a c o h n m) n m
theorem KB.l{d e:Addr}{H H':Hp}(k:KB d H H'):cm d e H H':=λb o h n _=>k b o h n
theorem KB.r{d e:Addr}{H H':Hp}(k:KB e H H'):cm d e H H':=λb o h _ n=>k b o h n
theorem Same.kb2{d e:Addr}{H H':Hp}(s:Same H H'):cm d e H H':=λb o h _ _=>s b o h
theorem aV.none{P:Az}{w:World}{K:AE}{mg:Str->Option Value}{base:Heap}{CX:oM}{k:Nat}{f:Addr}{fd:BC}{ps:List Str}{sp:Sp}(h:∀vs H Q E,¬sp vs H Q E):aV P w K mg base CX k f fd ps sp:=
 ⟨λvs H Q E q=>(h _ _ _ _ q).elim,λA outer s H args us vs Q E _ _ _ _ hs=>(h _ _ _ _ hs).elim⟩
end L2
namespace L2
open PySem PySem.Spec PyProof.Rows
theorem tQ{α β:Type}{r:α->β->Prop}{xs:List α}{ys:List β}(h:DG r xs ys):DG r xs.reverse ys.reverse:=by
 induction h with
 | nil=>exact .nil
 | cons a _ ih=>rw[List.reverse_cons,List.reverse_cons];exact cf ih (.cons a .nil)
end L2
namespace L2
open PySem PySem.Spec PyProof.Rows
open AutoSeq1 (wpAny_loadPart')
section
variable{prog:Az}{w:World}{A:BQ}{E:Value->AN->Prop}{s:AN}
theorem gC{it t:Addr}{i:Nat}{items:Array Value}{x:Value}{Q:Value->AN->Prop}(hit:s.heap.IsTupleIter it t i)(ht:s.heap.IsTuple t items)(hx:items[i]? =some x)
  (hQ:∀h',h'.IsTupleIter it t (i+1)->B8 it s.heap h'->Q x {s with heap:=h'}):wpAny (model prog w) A (BV (.ref it)) Q E s:=by
 obtain⟨o,ho,hc,hd⟩:=id hit
 obtain⟨ol,hol,_,nl,hdl⟩:=ht
 unfold BV
 refine AB (Ba (name:=Co "__next__") hit.typeIs Cy (Bb Cy hit.typeIs FH ?_ (E8 _)))
 (show wpAny _ _ (field (.ref it) 0 >>= _) _ _ s);(refine AB (Bi ho hd (x:=.ref t) rfl ?_))
 (show wpAny _ _ (if(Bq t == CT)=true then _ else _) _ _ s);rw[if_neg (show ¬((Bq t == CT)=true) from An)]
 (show wpAny _ _ (field (.ref it) 1 >>= _) _ _ s);(refine AB (Bi ho hd (x:=.int i 0) rfl ?_))
 (show wpAny _ _ (seqItems? (.ref t) >>= _) _ _ s);(refine AB (Ca hol hdl ?_))
 simp only[AY,hx];refine AB (wpAny_setField ho hd (by simp) (AK ⟨x,rfl,AK (hQ _ ?_ (DL ..))⟩))
 exact⟨_,CC _ ho (Obj.isFreed_of_fields (Obj.data_mapFields hd _)),(Obj.cls_mapFields ..).trans hc,(by rw[Obj.data_mapFields hd];simp[A7])⟩
theorem iY{it t:Addr}{i:Nat}{items:Array Value}{Q:Value->AN->Prop}(hh:A.handled=none)(hit:s.heap.IsTupleIter it t i)(ht:s.heap.IsTuple t items)(hx:items[i]? =none)
  (hE:∀h' e,ES it s.heap h'->(∃o,h'.get? e=some o/\o.cls=.type "StopIteration")->E (.ref e) {s with heap:=h'}):wpAny (model prog w) A (BV (.ref it)) Q E s:=by
 obtain⟨o,ho,hc,hd⟩:=id hit
 obtain⟨ol,hol,_,nl,hdl⟩:=ht
 unfold BV
 refine AB (Ba (name:=Co "__next__") hit.typeIs Cy (Bb Cy hit.typeIs FH ?_ (E8 _)))
 (show wpAny _ _ (field (.ref it) 0 >>= _) _ _ s);(refine AB (Bi ho hd (x:=.ref t) rfl ?_))
 (show wpAny _ _ (if(Bq t == CT)=true then _ else _) _ _ s);rw[if_neg (show ¬((Bq t == CT)=true) from An)]
 (show wpAny _ _ (field (.ref it) 1 >>= _) _ _ s);(refine AB (Bi ho hd (x:=.int i 0) rfl ?_))
 (show wpAny _ _ (seqItems? (.ref t) >>= _) _ _ s);(refine AB (Ca hol hdl ?_))
 simp only[AY,hx];refine AB (Dd (AB (wpAny_setField ho hd (by simp) ?_)))
 (show wpAny _ _ (newExc (.type "StopIteration") [] >>= _) _ _ _);(refine AB ?_);simp only[newExc,newTuple]
 (refine AB (BX ?_ (by size_fits)))
 (refine AB (m:=FZ _ _) (wpAny_of_eq (a:=CT) (by first | rfl | (simp only[FZ];rfl)) ?_));(refine BX ?_ (by size_fits))
 simp only[raiseNew];refine AB (wpAny_handled ?_)
 (first | rw[show A.in1.handled=none from hh] | rw[hh]);refine AB (AK (wpAny_throw ?_))
 exact hE _ _ (((DL (a:=it) ..).extBut.push _).push _) ⟨_,AU _ rfl,rfl⟩
theorem K8(hh:A.handled=none)(it t:Addr)(hne:t≠it)(items:Array Value):Draws prog w A it [it,t] items.size (λi v=>items[i]? =some v) (λi h=>h.IsTupleIter it t i/\h.IsTuple t items) where
 live:=λ_ _ st=>let ⟨o,ho,_⟩:=st.1;⟨o,ho⟩
 frame:=λ_ _ _ st hk=>⟨(let ⟨o,ho,r⟩:=st.1;⟨o,hk it (by simp) o ho,r⟩),(let ⟨o,ho,r⟩:=st.2;⟨o,hk t (by simp) o ho,r⟩)⟩
 item:=λi s Q E hi st hQ=>gC st.1 st.2 (x:=items[i]) (by simp[hi]) λh' hit' hs'=>hQ _ h' s.toks (by simp[hi]) ⟨hit',(let ⟨o,ho,r⟩:=st.2;⟨o,(hs'.2 t hne).trans ho,r⟩)⟩ hs'
 done:=λs Q E st hE=>iY hh st.1 st.2 (by simp) hE
theorem Jh(hh:A.handled=none)(it t:Addr)(items:Array Value)(i:Nat)(hx:items[i]? =none):Draws prog w A it [it,t] 0 (λ_ _=>True) (λ_ h=>h.IsTupleIter it t i/\h.IsTuple t items) where
 live:=λ_ _ st=>let ⟨o,ho,_⟩:=st.1;⟨o,ho⟩
 frame:=λ_ _ _ st hk=>⟨(let ⟨o,ho,r⟩:=st.1;⟨o,hk it (by simp) o ho,r⟩),(let ⟨o,ho,r⟩:=st.2;⟨o,hk t (by simp) o ho,r⟩)⟩
 item:=λi s Q E hi st hQ=>absurd hi (Bw _)
 done:=λs Q E st hE=>iY hh st.1 st.2 hx hE
end
theorem rN(l:Addr)(items:Array Value)(n:Nat)(dct:Option Addr)(sl:Array (Option Value)):
  Meets (Cz.«enumerate.__new__» ⟨[.type "enumerate",.ref l],[]⟩) (λ_ R s=>s.heap.get? l=some {cls:=.type "tuple",dict:=dct,data:=.seq items n,slots:=sl}/\R (.ok (.ret (.ref (s.heap.push {cls:=.type "tuple_iterator",data:=.fields #[.ref l,.int 0 0]}).objs.size)))
    {s with heap:=(s.heap.push {cls:=.type "tuple_iterator",data:=.fields #[.ref l,.int 0 0]}).push {cls:=.type "enumerate",data:=.fields #[.none,.bool false,.ref s.heap.objs.size,A7 0,.none,.none]}}):=
 .of_wp λprog w A R s h=>by
  obtain⟨hp,g,d,tk,os⟩:=s
  obtain⟨hl,h⟩:=h
  have hsub:=sub_enumerate
  have hL:Hn (IA ⟨hp,g,d,tk,os⟩) l items:=⟨_,hl,rfl,n,rfl⟩
  wp_walk using wpAny_loadPart' hl
  (refine wpAny_stack_any λst=>AK ?_);split
  ·rename_i c _ _ _ _ _
   cases(c == FN "enumerate")
   ·wp_walk using wpAny_loadPart' hl,Ct hL
    exact⟨_,rfl,h⟩
   ·wp_walk using wpAny_loadPart' hl,Ct hL
    exact⟨_,rfl,h⟩
  ·wp_walk using wpAny_loadPart' hl,Ct hL
   exact⟨_,rfl,h⟩
section
variable{prog:Az}{w:World}{A:BQ}{E:Value->AN->Prop}{s:AN}
theorem vR{l:Addr}{items:Array Value}{Q:Value->AN->Prop}(hL:s.heap.IsTuple l items)
  (h:∀h',IsEnum h' (s.heap.objs.size+1) s.heap.objs.size 0 .none->h'.IsTupleIter s.heap.objs.size l 0->h'.objs.size=s.heap.objs.size+2->(∀b o,s.heap.get? b=some o->h'.get? b=some o)->Q (.ref (s.heap.objs.size+1)) {s with heap:=h'}):
  wpAny (model prog w) A (call (.type "enumerate") [.ref l]) Q E s:=by
 obtain⟨⟨c,dct,dt,sl⟩,hl,hc,n,hd⟩:=hL
 replace hc:c=.type "tuple":=hc
 replace hd:dt=.seq items n:=hd
 subst hc hd
 refine callType_new F.called_enumerate (by decide) (F.typeCall_enumerate_1 _) (F.newCall_enumerate_1 _) (λobj=>F.args_object_init_2 obj _) F.entry_enumerate_new (rN l items n dct sl) ⟨hl,?_⟩
 have hz:(s.heap.push {cls:=.type "tuple_iterator",data:=.fields #[.ref l,.int 0 0]}).objs.size=s.heap.objs.size+1:=BG ..
 show _/\_
 rw[hz]
 have he:IsEnum ((s.heap.push {cls:=.type "tuple_iterator",data:=.fields #[.ref l,.int 0 0]}).push {cls:=.type "enumerate",data:=.fields #[.none,.bool false,.ref s.heap.objs.size,A7 0,.none,.none]}) (s.heap.objs.size+1) s.heap.objs.size 0 .none:=by
  have:=AU (s.heap.push {cls:=.type "tuple_iterator",data:=.fields #[.ref l,.int 0 0]}) (o:={cls:=.type "enumerate",data:=.fields #[.none,.bool false,.ref s.heap.objs.size,A7 0,.none,.none]}) rfl
  rw[hz] at this;exact this
 exact⟨⟨_,he,rfl⟩,h _ he ⟨_,AG _ (AU _ rfl),rfl,rfl⟩ (by rw[BG,hz]) λb o x=>AG _ (AG _ x)⟩
end
def tR(K:AE)(a:Addr):It:=
 ⟨λi H=>∃xs x,bN K H a xs/\xs[i]? =some x,
  λi H x H'=>∃y p,(∀xs,bN K H a xs->xs[i]? =some y)/\H p=none/\x=.ref p/\H'=upd H p (.tup [.int i,y]),
  λi H=>∃xs,bN K H a xs/\xs.length<=i⟩
theorem Ji{P:Az}{w:World}{K:AE}{elts:List Expr}{x1}{tpos:Pos}(a e it:Addr)(hne:e≠it)(hea:e≠a)(hia:it≠a):
  Turn P w K (.Tuple elts x1 tpos) (tR K a) [e,it] e (λi h=>(∃old,IsEnum h e it i old)/\h.IsTupleIter it a i) where
 mem:=by simp
 obj:=λi h st b hb=>by
  obtain⟨⟨old,st1⟩,st2⟩:=st
  rcases Ak.mp hb with z | z
  ·subst z;exact⟨_,st1,λv z=>by cases z⟩
  ·have z':b=it:=by simpa using z
   subst z'
   obtain⟨o,e,c,d⟩:=st2
   exact⟨o,e,λv z=>by rw[d] at z;cases z⟩
 keep:=λi h h' st k=>by
  obtain⟨⟨old,st1⟩,st2⟩:=st
  exact⟨⟨old,k e (by simp) _ st1⟩,let ⟨o,q,r⟩:=st2;⟨o,k it (by simp) o q,r⟩⟩
 item:=by
  intro X hP hw hK hc i pins s σ H E I hf st hg
  subst hP hw hK
  obtain⟨⟨old,st1⟩,st2⟩:=st
  obtain⟨xs,x,hq,hx⟩:=hg
  obtain⟨its,rv,p,hz⟩:=I.tuple hq
  obtain⟨u,hu,ru⟩:=rv.get hx
  have hlt:i<its.toArray.size:=by
   have:=(AD.mp hu).1
   simpa using this
  have D:=K8 (prog:=X.prog) (w:=X.w) (A:=X.A.in1) (I.ok.hd hc) it a (Ck hia) its.toArray
  refine wpAny_pyNext_enum_itemD D st1 ⟨st2,p⟩ hlt hne (by simp[hne,hea]) λv h1 tk hv eo SY ht hsz kk=>?_
  have ev:v=u:=by
   have:its[i]? =some v:=by simpa using hv
   rw[hu] at this
   exact(AZ this).symm
  subst ev
  have nn:H s.heap.objs.size=none:=I.hok.fresh (AM _)
  have I1:Inv X pins σ (upd H s.heap.objs.size (.tup [.int i,x])) {s with heap:=h1,toks:=tk+1}:=
   I.m9 (ch:=[e,it]) hf (λb o hb q=>kk b o (λz=>hb (by simp[z])) (λz=>hb (by simp[z])) q) (AM _)
    ⟨⟨by show 2<=sizeLine;decide,_,ht,rfl⟩,[.int i tk,v],.cons ⟨_,rfl⟩ (.cons ru .nil),⟨_,ht,rfl,_,rfl⟩⟩
  have le:e<s.heap.objs.size:=AX st1
  have li:it<s.heap.objs.size:=by obtain⟨o,q,_⟩:=id st2;exact AX q
  refine⟨_,rfl,FX eo λh2 e2 sb=>?_⟩
  obtain⟨f0,f1,f2,f3,f4,f5⟩:=hf e (by simp)
  have I2:=I1.turned (h':=h2) (t':=tk+1) (it:=e) (λb o hb q=>(sb.2 b hb).trans q) (by rw[ao (Ap le)];exact f0) f1 f3 f4 f5
  refine⟨.ref s.heap.objs.size,_,I2,rfl,⟨x,s.heap.objs.size,λys hy=>by rw[I.ja hy hq];exact hx,nn,rfl,rfl⟩,⟨⟨v,by simpa using e2⟩,let ⟨o,q,r⟩:=SY.1;⟨o,(sb.2 it (Ck hne)).trans q,r⟩⟩,λb hb=>?_⟩
  rcases Ak.mp hb with z | z
  ·subst z;rw[ao (Ap le)];exact f0
  ·have z':b=it:=by simpa using z
   subst z';rw[ao (Ap li)];exact(hf b (by simp)).1
 done:=by
  intro X hP hw hK hc i pins s σ H E I hf st hg
  subst hP hw hK
  obtain⟨⟨old,st1⟩,st2⟩:=st
  obtain⟨xs,hq,hx⟩:=hg
  obtain⟨its,rv,p,hz⟩:=I.tuple hq
  obtain⟨f0,f1,f2,f3,f4,f5⟩:=hf it (by simp)
  have hl:=rv.length
  have D:=Jh (prog:=X.prog) (w:=X.w) (A:=X.A.in1) (I.ok.hd hc) it a its.toArray i (by simp;omega)
  exact wpAny_pyNext_enum_endD D st1 ⟨st2,p⟩ λh' eb=>⟨rfl,I.turned (t':=s.toks) (λb o hb e=>eb b o hb e) f0 f1 f3 f4 f5⟩
 self:=λ_ _ _ _ _ st h=>by
  obtain⟨⟨old,st1⟩,st2⟩:=st
  exact EX st1 h
def Te(K:AE)(ta:TA):TI:=λσ H R=>ta σ H λvs H1=>∃a,vs=[.ref a]/\(∃xs,bN K H1 a xs)/\R (tR K a) H1
theorem xk{X:Cx}{elts:List Expr}{x1}{tpos:Pos}{a:Expr}{ta:TA}{p pos:Pos}(hg:Gl X "enumerate")(hm:X.mg "enumerate"=none)(ha:PA X [a] ta)(hs:BL [a] X.env=[(false,eval a X.env)]:=by rfl):
  PI X (.Tuple elts x1 tpos) (.Call (.Name "enumerate" p) [a] [] pos) (Te X.K ta):=by
 intro pins s σ H R I h
 refine Call_ (i' I hg hm boot_enumerate (B3 (aM (ha pos pins s σ H _ I h) λus s1 ⟨vs,H1,I1,r1,q1⟩=>?_) hs rfl))
 obtain⟨l,e,⟨xs,hq⟩,q⟩:=q1
 subst e
 cases r1 with
 | cons r rr=>
  cases rr
  cases r
  obtain⟨its,rv,pl,hz⟩:=I1.tuple hq
  have bl:l<s1.heap.objs.size:=by obtain⟨o,e,_⟩:=pl;exact AX e
  refine vR pl λh' he hit hsz kk=>?_
  have I2:Inv X pins σ H1 {s1 with heap:=h'}:=I1.kept (t':=s1.toks) kk
  refine EX he ?_
  refine⟨s1.heap.objs.size+1,[s1.heap.objs.size+1,s1.heap.objs.size],_,_,H1,rfl,I2,Ji l _ _ (Nat.succ_ne_self _) (Cm (CM bl)) (Cm bl),⟨⟨_,by simpa using he⟩,hit⟩,λb hb=>?_,q⟩
  rcases Ak.mp hb with z | z
  ·subst z;exact I1.iE (Cr _) (I1.hok.fresh (Cr _))
  ·have z':b=s1.heap.objs.size:=by simpa using z
   subst z';exact I1.iE (AM _) (I1.hok.fresh (AM _))
theorem K9{K:AE}{a:Addr}{xs:List V}{g:TG}{tb:TS}{D:Ends}{σ:St}{H:Hp}(Pv:Nat->St->Hp->Prop)(h0:Pv 0 σ H)(hl:∀i σ H,i<=xs.length->Pv i σ H->bN K H a xs)
  (hs:∀i x p σ H,xs[i]? =some x->Pv i σ H->H p=none->g (.ref p) σ (upd H p (.tup [.int i,x])) λσ2 H2=>tb {D with nx:=Pv (i+1),ct:=Pv (i+1),bk:=D.nx} σ2 H2) (hd:∀σ H,Pv xs.length σ H->D.nx σ H):
  ∃W:Nat->Nat->St->Hp->Prop,(∃m,W 0 m σ H)/\∀i m σ H,W i m σ H->
   ((tR K a).stop i H/\D.nx σ H)∨((tR K a).go i H/\∃N:St->Hp->Prop,(∀σ' H',N σ' H'->∃m',m'<m/\W (i+1) m' σ' H')/\∀x H',(tR K a).oJ i H x H'->g x σ H' λσ2 H2=>tb {D with nx:=N,ct:=N,bk:=D.nx} σ2 H2):=by
 refine⟨λi m σ H=>m=xs.length-i/\i<=xs.length/\Pv i σ H,⟨xs.length,by simp,BI _,h0⟩,?_⟩
 rintro i m σ H ⟨rfl,hi,p⟩
 have q:=hl i σ H hi p
 by_cases hlt:i<xs.length
 ·refine .inr ⟨⟨xs,xs[i],q,by simp[hlt]⟩,Pv (i+1),λσ' H' p'=>⟨xs.length-(i+1),by omega,rfl,hlt,p'⟩,λx H' y=>?_⟩
  obtain⟨z,pa,hz,hn,e1,e2⟩:=y
  subst e1 e2
  exact hs i z pa σ H (hz xs q) p hn
 ·have e:i=xs.length:=by omega
  subst e
  exact .inl ⟨⟨xs,q,AM _⟩,hd σ H p⟩
end L2
namespace L2
open PySem PySem.Spec PyProof.Rows
section
variable{X:Cx}
def Zp(K:AE):List V->Hp->VK->Prop:=λxs H Q=>∃(a:Addr) (bs:List Bool),xs=[.ref a]/\bC K H a (bs.map V.bl)/\Q (.bl (bs.all id)) H
theorem rO{bs:List Bool}{its:List Value}(r:Vals (bs.map V.bl) its):its=bs.map DW:=by
 induction bs generalizing its with
 | nil=>cases r;rfl
 | cons b bs ih=>
  cases r with
  | cons r1 r2=>
   rw[A0,ih r2]
   exact congrArg (· ::_) r1
theorem K'(K:AE)(hc:X.calm=true)(hK:X.K=K:=by rfl):cZ X (.builtin "all") (Zp K):=by
 subst hK
 intro pins s σ H xs us Q I r h
 obtain⟨a,bs,rfl,hq,q⟩:=h
 obtain⟨u,rfl,ru⟩:=vals1 r
 cases ru
 obtain⟨its,rv,p,_⟩:=I.list hq
 have e:=rO rv
 have bl:a<s.heap.objs.size:=by obtain⟨o,e,_⟩:=p.isList;exact AX e
 refine call_all_walk ?_
 refine ET p.isList ?_
 refine⟨s.heap.objs.size,_,_,_,_,_,λi=>(bs.getD i false),rfl,IK (A:=X.A.in1) (I.ok.hd hc) _ a (Ap bl) its.toArray,⟨⟨_,AU _ rfl,rfl,rfl⟩,p.isList.push _⟩,?_,λh' tk k=>?_⟩
 ·intro i v s' Q' E' hv hQ'
  have:v=.bool (bs.getD i false):=by
   rw[CS,e,AJ] at hv
   rw[AQ]
   cases eb:bs[i]? with
   | none=>rw[eb] at hv;cases hv
   | some b=>rw[eb] at hv;exact(AZ hv).symm
  rw[this]
  exact B2 hQ'
 ·refine⟨.bl (bs.all id),H,I.kept λb o eo=>k b o (λz=>Ap (AX eo) (AI.mp z)) (AG _ eo),?_,q⟩
  have hl:its.toArray.size=bs.length:=by simp[e]
  have ea:∀cs:List Bool,(Ad cs.length).all (λi=>cs.getD i false)=cs.all id:=λcs=>by
   induction cs with
   | nil=>rfl
   | cons c cs ih=>
    rw[A',DZ,Ew,EY,Ew,<-ih]
    rfl
  show _=DW _
  rw[hl,ea]
end
section
variable{X:Cx}{pins:List (Addr×Obj)}{σ:List (Option V)}{H:Hp}{s:AN}
theorem Inv.freeze{d:Addr}{kvs:List (Key×V)}(I:Inv X pins σ H s)(e:H d=some (.dK kvs)):∃o,Inv X pins σ (upd H d (.dC o (.dK kvs))) s:=by
 obtain⟨hz,lo,vs,rel,dd⟩:=wz I.hok e
 obtain⟨o,es,ep,ho,r⟩:=id dd
 exact⟨o,I.write (x:=d) (e:=d) (o:=.dC o (.dK kvs)) (h':=s.heap) (t':=s.toks) (by rw[e];trivial) (.inl rfl) (λb u _ q=>q) ⟨o,ho⟩ ⟨ho,hz,lo,vs,rel,dd⟩⟩
theorem Inv.frozen{d:Addr}{kvs:List (Key×V)}{o:Obj}(I:Inv X pins σ H s)(e:H d=some (.dC o (.dK kvs))):∃vs es ep,KV kvs vs/\o.data=.dict es ep/\s.heap.DictAt (b_ X.prog X.w) d vs ep/\(d == CL)=false:=by
 obtain⟨ho,hz,lo,vs,rel,dd⟩:=(show bE X.prog X.w H s.heap d (.dC o (.dK kvs)) from I.hok d _ e)
 obtain⟨o2,es,ep,ho2,r1,r2,r3⟩:=id dd
 have:o2=o:=by rw[ho] at ho2;exact(AZ ho2).symm
 subst this
 exact⟨vs,es,ep,rel,r2,⟨o2,es,ho2,r1,r2,r3⟩,lo⟩
end
theorem Tg{k:Key}{v:Value}(h:kT k v=true):RelV (kV k) v:=by
 rcases cE h with⟨i,t,rfl,rfl⟩ | ⟨x,t,rfl,rfl⟩
 ·exact⟨t,rfl⟩
 ·exact⟨t,rfl⟩
theorem WK{kvs:List (Key×V)}{vs:List (Key×Value)}(r:KV kvs vs){i:Nat}{k:Key}{v:V}(e:kvs[i]? =some (k,v)):∃u,vs[i]? =some (k,u)/\RelV v u:=by
 unfold KV at r
 induction r generalizing i with
 | nil=>simp at e
 | @cons p q ps qs h t ih=>
  cases i with
  | zero=>
   have e':p=(k,v):=by simpa using e
   subst e'
   obtain⟨q1,q2⟩:=q
   obtain⟨h1,h2⟩:=h
   cases(show k=q1 from h1)
   exact⟨q2,rfl,h2⟩
  | succ i=>exact ih (by simpa using e)
def qf(d:Addr)(o:Obj)(kvs:List (Key×V)):It:=
 ⟨λi H=>H d=some (.dC o (.dK kvs))/\i<kvs.length,λi H x H'=>H'=H/\∃k v,kvs[i]? =some (k,v)/\x=kV k,λi H=>H d=some (.dC o (.dK kvs))/\kvs.length<=i⟩
theorem La{P:Az}{w:World}{K:AE}{tg:Expr}(d it:Addr)(o:Obj)(kvs:List (Key×V)):
  Turn P w K tg (qf d o kvs) [it] it (λi h=>∃es ep,o.data=.dict es ep/\h.IsKeyIter it d i kvs.length ep) where
 mem:=by simp
 obj:=λi h st b hb=>by
  have e:b=it:=by simpa using hb
  subst e
  obtain⟨_,_,_,o,e,c,d⟩:=st
  exact⟨o,e,λv z=>by rw[d] at z;cases z⟩
 keep:=λi h h' st k=>by
  obtain⟨es,ep,h1,st⟩:=st
  exact⟨es,ep,h1,st.at λo e=>k it (by simp) o e⟩
 item:=by
  intro X hP hw hK hc i pins s σ H E I hf st hg
  subst hP hw hK
  obtain⟨es,ep,h1,st⟩:=st
  obtain⟨hH,hi⟩:=hg
  obtain⟨vs,es',ep',rel,h2,da,lo⟩:=I.frozen hH
  have ee:ep'=ep:=by rw[h1] at h2;cases h2;rfl
  subst ee
  have hl:kvs.length=vs.length:=rel.length
  obtain⟨⟨k,v⟩,hk⟩:∃p,kvs[i]? =some p:=⟨kvs[i],by simp[hi]⟩
  obtain⟨u,hu,ru⟩:=WK rel hk
  obtain⟨f0,f1,f2,f3,f4,f5⟩:=hf it (by simp)
  rw[hl] at st
  refine wpAny_pyNext_dict_item st da hu λkey h' hkey st' sb=>?_
  have I1:Inv X pins σ H {s with heap:=h'}:=I.turned (t':=s.toks) (λb o hb e=>(sb.2 b hb).trans e) f0 f1 f3 f4 f5
  obtain⟨o',e,c,d'⟩:=id st'
  rw[<-hl] at st'
  exact⟨key,rfl,rm (s:={s with heap:=h'}) e c d' (by decide) ⟨kV k,H,I1,Tg hkey,⟨rfl,k,v,hk,rfl⟩,⟨es,ep',h1,st'⟩,λb hb=>(hf b hb).1⟩⟩
 done:=by
  intro X hP hw hK hc i pins s σ H E I hf st hg
  subst hP hw hK
  obtain⟨es,ep,h1,st⟩:=st
  obtain⟨hH,hi⟩:=hg
  obtain⟨vs,es',ep',rel,h2,da,lo⟩:=I.frozen hH
  have ee:ep'=ep:=by rw[h1] at h2;cases h2;rfl
  subst ee
  have hl:kvs.length=vs.length:=rel.length
  rw[hl] at st
  obtain⟨f0,f1,f2,f3,f4,f5⟩:=hf it (by simp)
  exact wpAny_pyNext_dict_end (I.ok.hd hc) st da (BJ (by omega)) λh' eb=>⟨rfl,I.turned (t':=s.toks) (λb o hb e=>eb b o hb e) f0 f1 f3 f4 f5⟩
 self:=λ_ _ _ _ _ st h=>by
  obtain⟨_,_,_,st⟩:=st
  exact wpAny_pyIter_keyiter st h
theorem N0{d:Addr}{ob:Obj}{kvs:List (Key×V)}{g:TG}{tb:TS}{D:Ends}{σ:St}{H:Hp}(Pv:Nat->St->Hp->Prop)(h0:Pv 0 σ H)(hl:∀i σ H,i<=kvs.length->Pv i σ H->H d=some (.dC ob (.dK kvs)))
  (hs:∀i k v σ H,kvs[i]? =some (k,v)->Pv i σ H->g (kV k) σ H λσ2 H2=>tb {D with nx:=Pv (i+1),ct:=Pv (i+1),bk:=D.nx} σ2 H2) (hd:∀σ H,Pv kvs.length σ H->D.nx σ H):
  ∃W:Nat->Nat->St->Hp->Prop,(∃m,W 0 m σ H)/\∀i m σ H,W i m σ H->
   ((qf d ob kvs).stop i H/\D.nx σ H)∨((qf d ob kvs).go i H/\∃N:St->Hp->Prop,(∀σ' H',N σ' H'->∃m',m'<m/\W (i+1) m' σ' H')/\∀x H',(qf d ob kvs).oJ i H x H'->g x σ H' λσ2 H2=>tb {D with nx:=N,ct:=N,bk:=D.nx} σ2 H2):=by
 refine⟨λi m σ H=>m=kvs.length-i/\i<=kvs.length/\Pv i σ H,⟨kvs.length,by simp,BI _,h0⟩,?_⟩
 rintro i m σ H ⟨rfl,hi,p⟩
 have q:=hl i σ H hi p
 by_cases hlt:i<kvs.length
 ·refine .inr ⟨⟨q,hlt⟩,Pv (i+1),λσ' H' p'=>⟨kvs.length-(i+1),by omega,rfl,hlt,p'⟩,λx H' y=>?_⟩
  obtain⟨rfl,k,v,hk,rfl⟩:=y
  exact hs i k v σ H' hk p
 ·have e:i=kvs.length:=by omega
  subst e
  exact .inl ⟨⟨q,AM _⟩,hd σ H p⟩
section
variable{X:Cx}{pins:List (Addr×Obj)}{σ:List (Option V)}{H:Hp}{s:AN}{h':Heap}
theorem Inv.zI{t':Nat}{ch:List Addr}(I:Inv X pins σ H s)(hf:∀b∈ch,gy X pins H b)(k:∀b u,b ∉ ch->s.heap.get? b=some u->h'.get? b=some u):Inv X pins σ H {s with heap:=h',toks:=t'}:=by
 have oF:∀b u,H b=some u->b ∉ ch:=λb u e z=>by have q:=(hf b z).1;rw[e] at q;cases q
 refine I.step (g':=s.gens) (d':=s.drawn) (ch:=ch) (λb hb=>?_) (λb o _ _ hc e _=>k b o hc e) (λb o _ _ hc e _=>⟨o.slots,k b o hc e⟩) (λ_ _ _ _ n=>n)
  (λb o hc e=>⟨o,k b o hc e⟩) (λ_ _ e=>e) (λ_ _ _ e=>e) (λb ps e=>⟨#[],by rw[e];simp⟩) (λm hm=>?_) (λb u e=>?_) I.bare
 ·obtain⟨f0,f1,f2,f3,f4,f5⟩:=hf b hb
  exact⟨f3,f1,f4,f5⟩
 ·obtain⟨ob,es,ep,ho,r⟩:=hm
  exact⟨ob,es,ep,k _ ob (λz=>(hf _ z).2.1 rfl) ho,r⟩
 ·refine(I.hok b u e).stay (λc v hc q=>k c v ?_ q) (λ_ q=>q) λ_ _ q=>q
  rcases hc with z | z
  ·rw[z];exact oF b u e
  ·exact oF c _ z
end
def Ti(K:AE)(a b:Addr):It:=
 ⟨λi H=>∃xs ys x y,bC K H a xs/\bC K H b ys/\xs[i]? =some x/\ys[i]? =some y,
  λi H v H'=>∃x y p,(∀xs,bC K H a xs->xs[i]? =some x)/\(∀ys,bC K H b ys->ys[i]? =some y)/\H p=none/\v=.ref p/\H'=upd H p (.tup [x,y]),
  λi H=>∃xs ys,bC K H a xs/\bC K H b ys/\(xs.length<=i∨ys.length<=i)⟩
theorem N1{P:Az}{w:World}{K:AE}{elts:List Expr}{x1}{tpos:Pos}(a b z TI TO i1 i2:Addr)(D:Fb z TI TO i1 i2 a b):
  Turn P w K (.Tuple elts x1 tpos) (Ti K a b) [z,TO,i1,i2,TI] z (λi h=>IsZip h z TI TO .none/\CO h TI (.ref i1) (.ref i2)/\(∃x y,CO h TO x y)/\h.IsListIter i1 a i/\h.IsListIter i2 b i) where
 mem:=by simp
 obj:=λi h st c hc=>by
  obtain⟨hz,hTI,⟨x,y,hTO⟩,h1,h2⟩:=st
  have hc':c=z∨c=TO∨c=i1∨c=i2∨c=TI:=by simpa using hc
  rcases hc' with q | q | q | q | q
  ·subst q;exact⟨_,hz,λv e=>nomatch e⟩
  ·subst q;exact⟨_,hTO,λv e=>nomatch e⟩
  ·subst q
   obtain⟨o,e,_,d⟩:=h1
   exact⟨o,e,λv q=>by rw[d] at q;cases q⟩
  ·subst q
   obtain⟨o,e,_,d⟩:=h2
   exact⟨o,e,λv q=>by rw[d] at q;cases q⟩
  ·subst q;exact⟨_,hTI,λv e=>nomatch e⟩
 keep:=λi h h' st k=>by
  obtain⟨hz,hTI,⟨x,y,hTO⟩,h1,h2⟩:=st
  exact⟨k z (by simp) _ hz,k TI (by simp) _ hTI,⟨x,y,k TO (by simp) _ hTO⟩,h1.at λo q=>k i1 (by simp) o q,h2.at λo q=>k i2 (by simp) o q⟩
 item:=by
  intro X hP hw hK hc i pins s σ H E I hf st hg
  subst hP hw hK
  obtain⟨hz,hTI,⟨u1,u2,hTO⟩,h1,h2⟩:=st
  obtain⟨xs,ys,x,y,hq,hq2,hx,hy⟩:=hg
  obtain⟨its,rv,p,_⟩:=I.list hq
  obtain⟨its2,ve,p2,_⟩:=I.list hq2
  obtain⟨u,hu,ru⟩:=rv.get hx
  obtain⟨v,hv,rv'⟩:=ve.get hy
  refine wpAny_pyNext_zip_item D hz hTI hTO h1 h2 p.isList p2.isList (x:=u) (y:=v) (by simpa using hu) (by simpa using hv) λh1' a1 a2 a3 a4 a5 a6 kk=>?_
  have nn:H s.heap.objs.size=none:=I.hok.fresh (AM _)
  have xl:∀c∈[z,TO,i1,i2],gy X pins H c:=λc hc=>hf c (by
   have hc':c=z∨c=TO∨c=i1∨c=i2:=by simpa using hc
   rcases hc' with q | q | q | q<;>simp[q])
  have I1:Inv X pins σ (upd H s.heap.objs.size (.tup [x,y])) {s with heap:=h1',toks:=s.toks}:=
   I.m9 (ch:=[z,TO,i1,i2]) xl (λc o hc q=>kk c o (λe=>hc (by simp[e])) (λe=>hc (by simp[e])) (λe=>hc (by simp[e])) (λe=>hc (by simp[e])) q) (AM _)
    ⟨⟨by show 2<=sizeLine;decide,_,a5,rfl⟩,[u,v],.cons ru (.cons rv' .nil),⟨_,a5,rfl,_,rfl⟩⟩
  have lz:z<s.heap.objs.size:=AX hz
  have Tj:TI<s.heap.objs.size:=AX hTI
  have Tn:TO<s.heap.objs.size:=AX hTO
  have l1:i1<s.heap.objs.size:=by obtain⟨o,q,_⟩:=id h1;exact AX q
  have l2:i2<s.heap.objs.size:=by obtain⟨o,q,_⟩:=id h2;exact AX q
  refine⟨_,rfl,Fm a1 λh2' e2 sb=>?_⟩
  obtain⟨f0,f1,f2,f3,f4,f5⟩:=hf z (by simp)
  have I2:=I1.turned (h':=h2') (t':=s.toks) (it:=z) (λc o hc q=>(sb.2 c hc).trans q) (by rw[ao (Ap lz)];exact f0) f1 f3 f4 f5
  refine⟨.ref s.heap.objs.size,_,I2,rfl,⟨x,y,s.heap.objs.size,λzs hy=>by rw[I.kg hy hq];exact hx,λzs hz'=>by rw[I.kg hz' hq2];exact hy,nn,rfl,rfl⟩,
   ⟨e2,(sb.2 TI D.TIz).trans (kk _ _ D.TIz D.TITO D.TIi1 D.TIi2 hTI),⟨_,_,(sb.2 TO D.TOz).trans a2⟩,a3.at λo q=>(sb.2 i1 D.i1z).trans q,a4.at λo q=>(sb.2 i2 D.i2z).trans q⟩,λc hc=>?_⟩
  have hlt:c<s.heap.objs.size:=by
   have hc':c=z∨c=TO∨c=i1∨c=i2∨c=TI:=by simpa using hc
   rcases hc' with q | q | q | q | q
   ·rw[q];exact lz
   ·rw[q];exact Tn
   ·rw[q];exact l1
   ·rw[q];exact l2
   ·rw[q];exact Tj
  rw[ao (Ap hlt)]
  exact(hf c hc).1
 done:=by
  intro X hP hw hK hc i pins s σ H E I hf st hg
  subst hP hw hK
  obtain⟨hz,hTI,⟨u1,u2,hTO⟩,h1,h2⟩:=st
  obtain⟨xs,ys,hq,hq2,hx⟩:=hg
  obtain⟨its,rv,p,_⟩:=I.list hq
  obtain⟨its2,ve,p2,_⟩:=I.list hq2
  have hl:=rv.length
  have hl2:=ve.length
  have hend:its.toArray[i]? =none∨its2.toArray[i]? =none:=by
   rcases hx with q | q
   ·exact .inl (by simp;omega)
   ·exact .inr (by simp;omega)
  have xl:∀c∈[z,TO,i1,i2],gy X pins H c:=λc hc=>hf c (by
   have hc':c=z∨c=TO∨c=i1∨c=i2:=by simpa using hc
   rcases hc' with q | q | q | q<;>simp[q])
  exact wpAny_pyNext_zip_end (I.ok.hd hc) D hz hTI hTO h1 h2 p.isList p2.isList hend λh' kk=>
   ⟨rfl,I.zI (t':=s.toks) (ch:=[z,TO,i1,i2]) xl (λc o hc q=>kk c o (λe=>hc (by simp[e])) (λe=>hc (by simp[e])) (λe=>hc (by simp[e])) (λe=>hc (by simp[e])) q)⟩
 self:=λ_ _ _ _ _ st h=>Eo st.1 h
def To(K:AE)(ta:TA):TI:=λσ H R=>ta σ H λvs H1=>∃a b,vs=[.ref a,.ref b]/\(∃xs,bC K H1 a xs)/\(∃ys,bC K H1 b ys)/\R (Ti K a b) H1
theorem Tp{X:Cx}{elts:List Expr}{x1}{tpos:Pos}{a b:Expr}{ta:TA}{p pos:Pos}(hg:Gl X "zip")(hm:X.mg "zip"=none)(ha:PA X [a,b] ta)
  (hs:BL [a,b] X.env=[(false,eval a X.env),(false,eval b X.env)]:=by rfl) (hs2:BL [b] X.env=[(false,eval b X.env)]:=by rfl):
  PI X (.Tuple elts x1 tpos) (.Call (.Name "zip" p) [a,b] [] pos) (To X.K ta):=by
 intro pins s σ H R I h
 refine Call_ (i' I hg hm boot_zip (B3 (aM (ha pos pins s σ H _ I h) λus s1 ⟨vs,H1,I1,r1,q1⟩=>?_) (by rw[hs,hs2]) (by rw[hs2];rfl)))
 obtain⟨l1,l2,e,⟨xs,hq⟩,⟨ys,hq2⟩,q⟩:=q1
 subst e
 cases r1 with
 | cons r rr=>
  cases rr with
  | cons r' rr=>
   cases rr
   cases r
   cases r'
   obtain⟨its,rv,pl,_⟩:=I1.list hq
   obtain⟨its2,ve,Lb,_⟩:=I1.list hq2
   have a1:l1<s1.heap.objs.size:=by obtain⟨_,e,_⟩:=pl.isList;exact AX e
   have a2:l2<s1.heap.objs.size:=by obtain⟨_,e,_⟩:=Lb.isList;exact AX e
   refine call_zip_2 pl.isList Lb.isList λh' hz hTI hTO hi1 hi2 hsz kk=>?_
   have I2:Inv X pins σ H1 {s1 with heap:=h'}:=I1.kept (t':=s1.toks) kk
   refine Eo hz ?_
   refine⟨s1.heap.objs.size+4,[s1.heap.objs.size+4,s1.heap.objs.size+3,s1.heap.objs.size,s1.heap.objs.size+1,s1.heap.objs.size+2],_,_,H1,rfl,I2,N1 l1 l2 _ _ _ _ _ (zipApart_new a1 a2),⟨hz,hTI,⟨_,_,hTO⟩,hi1,hi2⟩,λc hc=>?_,q⟩
   have hle:s1.heap.objs.size<=c:=by
    have hc':c=s1.heap.objs.size+4∨c=s1.heap.objs.size+3∨c=s1.heap.objs.size∨c=s1.heap.objs.size+1∨c=s1.heap.objs.size+2:=by simpa using hc
    rcases hc' with q | q | q | q | q<;>(rw[q];first | exact Nat.le_add_right _ _ | exact AM _)
   exact I1.iE hle (I1.hok.fresh hle)
theorem Rj(t:SetTable)(es:Array (Int×Value))(h:Int)(x:Value):(layNew t es h x).2.1.led=t.led:=by
 unfold layNew
 split
 ·unfold SetTable.put He SetTable.standIn
  dsimp only
  repeat' split
  all_goals rfl
 ·rfl
theorem Lc(t:SetTable)(es:Array (Int×Value))(n:Nat):(relayAll t es n).2.1.led=t.led:=by
 unfold relayAll
 split
 ·rename_i q r e
  unfold IG SetTable.laid at e
  dsimp only
  split
  ·simp only[HK,DQ,Option.pure_def,Fv,Prod.mk.injEq] at e
   obtain⟨_,_,e1,_⟩:=e
   rw[<-e1]
  ·rfl
 ·rfl
section
variable{P:Az}{w:World}{A:BQ}{E:Value->AN->Prop}{s:AN}
abbrev eB (w:World):Obj:={cls:=.type "set",dict:=none,data:=.set #[] 0 (.fresh 0 0 (!w.params.followText "set-order"))}
theorem N5(v:Value){Q:Value->AN->Prop}(h:Q (.ref s.heap.objs.size) {s with heap:=s.heap.push (eB w)}):
  Ft (model P w) A (.call (.builtin "set.__new__") ⟨[.type "set",v],[]⟩) (wants Q E) s:=by
 refine codeAny_of_tree ?_
 show wpAny (model P w) A.in1 (do checkBuiltinCall "set.__new__" ⟨[.type "set",v],[]⟩;again (.builtin "set.__new__" ⟨[.type "set",v],[]⟩)) _ _ s
 refine AB (wpAny_of_eq (PySem.F.newCall_set_1 v) (AK ⟨Ey Gr _,Dl PySem.F.entry_set_new ?_⟩))
 rw[DB Gr]
 unfold Cz.«set.__new__» Builtin.Frozenset.newClass
 have hsub:=sub_set_self
 obtain⟨hp,g,d,tk,os⟩:=s
 dsimp only
 wp_walk
 refine GK (AK ?_)
 dsimp only
 simp only[newObj]
 exact AB (wpAny_alloc (AK (AK h)))
end
namespace SI
theorem Ld:Manifest.owners.lookup (String.ofList ['r', 'o', 't', 'a', 'r', 'e', 't', 'i', '_', 't', 'e', 's'].reverse)=some Manifest.sig_set_iterator:=by kernel_rfl
theorem slot_next:Slot "set_iterator" "__next__" "set_iterator.__next__":=
 .of (owner:="set_iterator") (n:="__next__") (by rw[typeLookup_type,builtinLookup_eq_fast];kernel_rfl) (by decide+kernel) (by decide+kernel) (by decide+kernel)
  (by first | exact .inl (by decide+kernel) | exact .inr (by decide+kernel)) (by rw[HA];kernel_rfl)
theorem vf:Slot "set_iterator" "__iter__" "set_iterator.__iter__":=
 .of (owner:="set_iterator") (n:="__iter__") (by rw[typeLookup_type,builtinLookup_eq_fast];kernel_rfl) (by decide+kernel) (by decide+kernel) (by decide+kernel)
  (by first | exact .inl (by decide+kernel) | exact .inr (by decide+kernel)) (by rw[HA];kernel_rfl)
theorem entry_next:entryFor table "set_iterator.__next__"=some Cz.«set_iterator.__next__» :=entryFor_of_tree (by kernel_rfl)
theorem Jj:entryFor table "set_iterator.__iter__"=some Cz.«dict_keyiterator.__iter__» :=
 entryFor_alias (id':="dict_keyiterator.__iter__") (by kernel_rfl) (by first | rfl | decide+kernel | (unfold String.splitOn;simp+decide [Ho])) (by decide+kernel) (by kernel_rfl)
theorem args_next(v:Value):argsOk "set_iterator.__next__" ⟨[v],[]⟩:=by
 unfold argsOk;rw[signature?_of (id:="set_iterator.__next__") (n:=['_', '_', 't', 'x', 'e', 'n', '_', '_']) (o:=['r', 'o', 't', 'a', 'r', 'e', 't', 'i', '_', 't', 'e', 's']) (by kernel_rfl) Ld];kernel_rfl
theorem Le(v:Value):argsOk "set_iterator.__iter__" ⟨[v],[]⟩:=by
 unfold argsOk;rw[signature?_of (id:="set_iterator.__iter__") (n:=['_', '_', 'r', 'e', 't', 'i', '_', '_']) (o:=['r', 'o', 't', 'a', 'r', 'e', 't', 'i', '_', 't', 'e', 's']) (by kernel_rfl) Ld];kernel_rfl
theorem tS:entryFor table "set.__iter__"=some Cz.«frozenset.__iter__» :=
 entryFor_alias (id':="frozenset.__iter__") (by kernel_rfl) (by first | rfl | decide+kernel | (unfold String.splitOn;simp+decide [Ho])) (by decide+kernel) (by kernel_rfl)
end SI
abbrev kB (h:Heap)(I:Addr)(F:Array Value):Prop:=h.get? I=some {cls:=.type "set_iterator",dict:=none,data:=.fields F,slots:= #[]}
section
variable{P:Az}{w:World}{A:BQ}{E:Value->AN->Prop}{s:AN}
theorem tT{I:Addr}{F:Array Value}{Q:Value->AN->Prop}(hI:kB s.heap I F)(h:Q (.ref I) s):wpAny (model P w) A (pyIter (.ref I)) Q E s:=by
 have hT:s.TypeIs (.ref I) "set_iterator":=⟨_,hI,rfl⟩
 refine wpAny_pyIter_slot hT SI.vf (Bb SI.vf hT SI.Jj ?_ (SI.Le _))
 show wpAny (model P w) _ (ret (.ref I)) _ _ s
 exact AK ⟨_,rfl,"set_iterator",_,hT,SI.slot_next.lookup,h⟩
theorem zJ{I:Addr}{F:Array Value}{k0:Option Nat}{Q:Option Value->AN->Prop}(hh:A.handled=none)(hI:kB s.heap I F)(hk:2<F.size)(h:∀h',ES I s.heap h'->Q none {s with heap:=h'}):
  wpAny (model P w) A.in1 (do setField (.ref I) 2 .none;raiseNew (<-newExc (.type "StopIteration") []))
   (λfin s'=>∃v,fin=Fin.done (Flow.ret v)/\wpAny (model P w) A (pure (some v)) Q E s')
   (λe s'=>wpAny (model P w) A (do if <-isInstance e (.type "StopIteration") then pure none else throw e) Q E s') s:=by
 refine AB (Bo hI hk λh1 e1 b1=>?_)
 refine AB ?_
 simp only[newExc,newTuple]
 refine AB (BX ?_ (by size_fits))
 refine AB (m:=FZ _ _) (wpAny_of_eq (a:=CT) (by first | rfl | (simp only[FZ];rfl)) ?_)
 refine BX ?_ (by size_fits)
 simp only[raiseNew]
 refine AB (wpAny_handled ?_)
 rw[show A.in1.handled=none from hh]
 refine AB (AK (wpAny_throw ?_))
 refine AB (D3 (T:="StopIteration") (b:=true) ⟨_,AU _ rfl,rfl⟩ Fc ?_)
 exact AK (h _ ((b1.extBut.push _).push _))
theorem vg{T:Addr}{xs:Array Value}{B:BQ}{E':Value->AN->Prop}{Q':Option (Array Value)->AN->Prop}(hT:s.heap.get? T=some {cls:=.type "tuple",data:=.seq xs})(h:Q' (some xs) s):wpAny (model P w) B (seqItems? (.ref T)) Q' E' s:=by
 unfold seqItems?
 dsimp only
 refine AB (wpAny_load hT ?_)
 exact AK h
theorem pR{a:Addr}{Q:Bool->AN->Prop}(h:Q (w.params.followText "set-order") s):wpAny (model P w) A setsByText Q E s:=by
 unfold setsByText
 exact AB (GK (AK h))
end
theorem vh{α:Type}(f:Nat->Nat):∀(n k:Nat) (l:List α) (out:Array α),l.length=n->(Hq f n k l out).toList.Perm (out.toList++l)
 | 0,k,l,out,h=>by
  have:l=[]:=GL.mp h
  subst this
  unfold Hq
  rw[BU]
 | n+1,k,l,out,h=>by
  have lt:f k % l.length<l.length:=Dw _ (by omega)
  unfold Hq
  rw[Ag lt]
  dsimp only
  refine(vh f n (k+1) _ _ (by rw[Fd lt];omega)).trans ?_
  rw[Fw,C_]
  refine List.Perm.append_left _ ?_
  have e:l=l.take (f k % l.length)++l[f k % l.length]::l.drop (f k % l.length+1):=by rw[<-C5 lt,B1]
  rw[Eg]
  conv=>rhs;rw[e]
  show(l[f k % l.length]::(l.take (f k % l.length)++l.drop (f k % l.length+1))).Perm _
  exact List.perm_middle.symm
section
variable{P:Az}{w:World}{A:BQ}{E:Value->AN->Prop}
theorem vi{α:Type}:∀(n:Nat) (l:List α) (s:AN) (Q:List α->AN->Prop),l.length=n->(∀ys d',ys.Perm l->Q ys {s with drawn:=d'})->wpAny (model P w) A (drawOrder n l) Q E s
 | 0,l,s,Q,hl,h=>by
  have:l=[]:=GL.mp hl
  subst this
  unfold drawOrder
  exact AK (h [] s.drawn (.refl _))
 | n+1,[],s,Q,hl,h=>by cases hl
 | n+1,x::l,s,Q,hl,h=>by
  unfold drawOrder
  have go:∀i,i<(x::l).length->wpAny (model P w) A (match (x::l)[i]? with | some y=>do return y::(<-drawOrder n ((x::l).eraseIdx i)) | none=>unsupported "internal:drawOrder") Q E {s with drawn:=s.drawn.bump .order}:=λi hi=>by
   rw[Ag hi]
   dsimp only
   refine AB (vi n _ _ _ (by rw[Fd hi];omega) λys d' p=>AK ?_)
   refine h _ d' ?_
   have e:(x::l)=(x::l).take i++(x::l)[i]::(x::l).drop (i+1):=by rw[<-C5 hi,B1]
   refine(p.cons _).trans ?_
   rw[Eg]
   conv=>rhs;rw[e]
   exact List.perm_middle.symm
  refine AB ?_
  exact λ_ _ hΓ=>⟨by simp,go _ (Dw _ (by simp))⟩
end
section
variable{P:Az}{w:World}{A:BQ}{E:Value->AN->Prop}{s:AN}
theorem N6{r:Addr}{Q:Bool->AN->Prop}(hT:s.TypeIs (.ref r) "set")(h:Q false s):wpAny (model P w) A (FI (.ref r)) Q E s:=by
 unfold FI
 refine AB (wpAny_specialOf hT PySem.F.slot_set_len.lookup ?_)
 generalize hid:("set.__len__":String)=id0
 wp_delta
 rw[show splitId id0=some ("set","__len__") from by subst hid;decide+kernel]
 subst hid
 refine AB (D3 (T:="set") (b:=true) hT (by rw[HA];kernel_rfl) ?_)
 refine EJ (λhab=>absurd hab (by decide)) (λ_=>?_)
 refine EJ (λ_=>?_) (λhab=>absurd (by decide+kernel) hab)
 exact AB (FG hT (AK h))
end
end L2
namespace L2
open PySem PySem.Spec PyProof.Rows
open PySem.AutoSeq1 (wpAny_loadPart')
theorem oU:∀{l:List Str} {ss:List Str},l.Nodup->(∀y∈l,y∈ss)->l.length<=ss.length
 | [],ss,_,_=>BI _
 | x::l,ss,h,hs=>by
  rw[Bk] at h
  have hx:=hs x Aa
  have:=oU (l:=l) (ss:=ss.erase x) h.2 λy hy=>(List.mem_erase_of_ne (λe:y=x=>h.1 (by rw[<-e];exact hy))).mpr (hs y (AV _ hy))
  rw[GG hx] at this
  have hp:0<ss.length:=List.length_pos_of_mem hx
  rw[A']
  omega
theorem qE(x:Str)(l:List Str):inV (.str x) (l.map V.str)=decide (x∈l):=by
 induction l with
 | nil=>rfl
 | cons y l ih=>
  unfold inV at ih ⊢
  rw[A0,CY,ih]
  show((y == x)||_)=_
  by_cases e:y=x
  ·simp[e]
  ·have e':¬x=y:=λz=>e z.symm
   simp[e,e']
end L2
namespace L2
open PySem PySem.Spec PyProof.Rows PySem.W PySem.Builtin PySem.Builtin.ObjectAttr
end L2
namespace HT
open PySem PySem.Spec PyProof.Rows
section
variable{prog:Az}{w:World}{A:BQ}{E:Value->AN->Prop}{s:AN}
theorem oB{t sl:Addr}{items:Array Value}{vl vu:Value}{lo hi:Option Int}{Q:Value->AN->Prop}(ht:IsTup s.heap t items)(hs:s.heap.IsSliceOf sl vl vu .none)(pl:GA vl lo)(pu:GA vu hi)
  (hw:bp items.size 0 lo=0/\bp items.size items.size hi=items.size) (h:Q (.ref t) s):wpAny (model prog w) A (FF (.ref t) (.ref sl)) Q E s:=by
 obtain⟨os,hos,hcs,hds⟩:=id hs
 have hTs:s.TypeIs (.ref sl) "slice":=⟨os,hos,hcs⟩
 unfold FF
 try with_reducible refine Bj ?_
 first | refine AB (AK ?_) | skip
 refine AB (wpAny_sequenceKey ht.typeIs (by decide) ?_)
 refine AB (Ba (name:=Co "__getitem__") ht.typeIs Br
  (Bb Br ht.typeIs entry_tuple_getitem ?_ (args_tuple_getitem _ _)))
 show wpAny _ _ (Ds (.ref t) >>= _) _ _ s
 refine AB (HQ ht ?_)
 refine AB (FG hTs ?_)
 rw[if_pos (by decide)]
 refine AB (km hs pl pu ?_)
 have hyes:(((bp items.size 0 lo:Nat):Int) == 0&&(1:Int) == 1&&(bp items.size items.size hi-bp items.size 0 lo) == items.size)=true:=by
  rw[hw.1,hw.2];simp
 show wpAny _ _ (if(((bp items.size 0 lo:Nat):Int) == 0&&(1:Int) == 1&&(bp items.size items.size hi-bp items.size 0 lo) == items.size)=true then _ else _) _ _ s
 rw[if_pos hyes]
 refine AB ?_
 unfold Builtin.Tuple.tupleIsExact
 refine AB (FG ht.typeIs (AK ?_))
 rw[if_pos (by decide)]
 exact AB (Dd (AK ⟨_,rfl,AK h⟩))
end
end HT
namespace L2
open PySem PySem.Spec PyProof.Rows
section
variable{X:Cx}
def P7(K:AE):V->Option Int->Option Int->Hp->VK->Prop:=λx lo hi H Q=>∃a xs,x=.ref a/\bN K H a xs/\
 ((HT.bp xs.length 0 lo=0/\HT.bp xs.length xs.length hi=xs.length)->Q (.ref a) H)/\
 (¬(HT.bp xs.length 0 lo=0/\HT.bp xs.length xs.length hi=xs.length)->∀p,H p=none->Q (.ref p) (upd H p (.tup (fL xs lo hi))))
theorem tU(K:AE)(hK:X.K=K:=by rfl):zy X (P7 K):=by
 subst hK
 intro pins s σ H x v vl vu lo hi sl Q I rx hs pl pu h
 obtain⟨a,xs,rfl,hx,hw,q⟩:=h
 by_cases c:HT.bp xs.length 0 lo=0/\HT.bp xs.length xs.length hi=xs.length
 ·cases rx
  obtain⟨its,r,ht,hz⟩:=I.tuple hx
  have hlen:its.toArray.size=xs.length:=by rw[Aj];exact r.length.symm
  refine⟨"tuple",_,Br.lookup,ht.typeIs,?_⟩
  exact HT.oB ht hs pl pu (by rw[hlen];exact c) ⟨.ref a,H,I,rfl,hw c⟩
 ·exact SJ pins s σ H _ v vl vu lo hi sl Q I rx hs pl pu ⟨a,xs,rfl,hx,c,q c⟩
end
section
open Builtin
theorem qF:fillsNumberSlot (.type "tuple") "mul"=pure false:=
 PySem.fillsNumberSlot_seq (id:="tuple.__mul__") (r:=some (.builtin "tuple.__rmul__")) EZ.lookup (by decide+kernel) GN.lookup (by decide+kernel)
theorem xm:seqRepeat? (.type "tuple")=pure (some (.builtin "tuple.__mul__")):=by
 unfold seqRepeat?
 rw[PySem.seqSlot_of (T:="tuple") (name:="__mul__") (id:="tuple.__mul__") EZ.lookup (by decide+kernel),PySem.seqSlot_of (T:="tuple") (name:="__rmul__") (id:="tuple.__rmul__") GN.lookup (by decide+kernel)]
 rfl
theorem tV(a:Int)(t:Tok)(l:Addr)(items:Array Value)(n:Nat)(dd:Option Addr)(sl:Array (Option Value)):
  Meets (Cz.«int.__rmul__» ⟨[.int a t,.ref l],[]⟩) (λ_ R s=>s.heap.get? l=some {cls:=.type "tuple",dict:=dd,data:=.seq items n,slots:=sl}/\R (.ok (.ret Value.notImplemented)) s):=
 .of_wp λprog w A R s h=>by obtain⟨hp,g,d,tk,os⟩:=s;obtain⟨hl,h⟩:=h;wp_walk;exact⟨_,rfl,h⟩
theorem Lg(l:Addr)(items:Array Value)(n:Nat)(dd:Option Addr)(sl:Array (Option Value))(x:Int)(u:Tok)(hc0:¬(decide (x< -(2 ^ 63))||decide (x ≥ 2 ^ 63))=true)(hc1:¬(items.isEmpty||x == 1)=true)(hc2:¬(decide (x<=0)||items.isEmpty)=true)
  (hc3:¬((items.size:Int)*x>(2 ^ 63-1) / 8)) (hc4:¬Dx ((items.size:Int)*x)=true) (hc5:(FU (λx1 x2=>x1++x2) #[] (AO x.toNat items)).size<=sizeLine):
  Meets (Cz.«tuple.__mul__» ⟨[.ref l,.int x u],[]⟩) (λ_ R s=>s.heap.get? l=some {cls:=.type "tuple",dict:=dd,data:=.seq items n,slots:=sl}/\R (.ok (.ret (Bq s.heap.objs.size))) {s with heap:=s.heap.push {cls:=FN "tuple",data:=Data.seq (FU (λx1 x2=>x1++x2) #[] (AO x.toNat items))},toks:=s.toks}):=
 .of_wp λprog w A R s h=>by
  obtain⟨hp,g,d,tk,os⟩:=s;obtain⟨hl,h⟩:=h
  have f1:=AutoSeq1.idx_int
  have ht:IsTup hp l items:=⟨_,hl,rfl,n,rfl⟩
  wp_walk using wpAny_loadPart' hl
  rw[if_neg hc0]
  dsimp only
  refine AB (HQ ht ?_)
  rw[if_neg hc1]
  try dsimp only
  rw[if_neg hc2]
  try dsimp only
  rw[if_neg hc3]
  try dsimp only
  rw[if_neg hc4]
  try dsimp only
  first
   | exact AB (m:=By _) (BX (AK ⟨_,rfl,h⟩) hc5)
   | exact AB (m:=By _) (BX (AK h) hc5)
   | exact AB (m:=By _) (BX (AB (AK (AK ⟨_,rfl,h⟩))) hc5)
def WL(K:AE):R2:=λx y H Q=>∃(a:Addr) (xs:List V) (k:Nat),x=.ref a/\y=.int (k:Int)/\bN K H a xs/\xs≠[]/\2<=k/\xs.length*k<=100000/\∀p,H p=none->Q (.ref p) (upd H p (.tup (AO k xs).flatten))
theorem xn{X:Cx}(K:AE)(hK:X.K=K:=by rfl):cQ X (CQ .Mult) (WL K):=by
 subst hK
 intro pins s σ H x y v u Q I rx ry h
 obtain⟨a,xs,k,rfl,rfl,ha,hx,hk,hz,q⟩:=h
 cases rx
 obtain⟨t,rfl⟩:=ry
 obtain⟨its,r,p1,_⟩:=I.tuple ha
 obtain⟨⟨cls,dd,data,sl⟩,ho,hc,n,hd⟩:=id p1
 simp only at hc hd
 subst hc hd
 have li:its.length=xs.length:=r.length.symm
 have lp:0<its.length:=by rw[li];exact HL.mpr hx
 have mk:its.length*k<=100000:=by rw[li];exact hz
 have kk:k<=100000:=BH (Nat.le_mul_of_pos_left k lp) mk
 have e0:its.toArray.isEmpty=false:=by cases its with | nil=>simp at lp | cons _ _=>simp
 have e1:((its.toArray.size:Nat):Int)*(k:Int)=((its.length*k:Nat):Int):=by rw[Aj,Bx]
 have hnew:FU (λx1 x2=>x1++x2) #[] (AO (k:Int).toNat its.toArray)=(AO k its).flatten.toArray:=by
  have:=foldl_rep its k []
  rw[EI] at this
  rw[AY]
  exact this
 have lf:(AO k its).flatten.length<=100000:=by rw[len_rep,C'];exact mk
 have m0:¬(decide ((k:Int)< -(2 ^ 63))||decide ((k:Int) ≥ 2 ^ 63))=true:=by
  rw[decide_eq_false (by omega),decide_eq_false (by omega)];decide
 have m1:¬(its.toArray.isEmpty||(k:Int) == 1)=true:=by
  rw[e0,Bool.false_or]
  intro z
  have:=eq_of_beq z
  omega
 have m2:¬(decide ((k:Int)<=0)||its.toArray.isEmpty)=true:=by rw[e0,decide_eq_false (by omega)];decide
 have m3:¬(((its.toArray.size:Nat):Int)*(k:Int)>(2 ^ 63-1) / 8):=by rw[e1];omega
 have m4:¬Dx (((its.toArray.size:Nat):Int)*(k:Int))=true:=by
  rw[e1]
  simp[Dx,sizeLine]
  omega
 refine Fl (T:="tuple") (U:="int") (by decide) ⟨_,ho,rfl⟩ (λs'=>Ga s' _ t) qF PySem.F.fills_int_mul Gs xm PySem.F.slot_int_index.lookup
  (En Gs (Ga s _ t) PySem.F.entry_int_rmul (PySem.F.args_int_rmul_2 _ _) (tV _ t a its.toArray n dd sl)
   ⟨ho,rfl,⟨_,ho,rfl⟩,En EZ ⟨_,ho,rfl⟩ PySem.F.entry_tuple_mul (PySem.F.args_tuple_mul_2 _ _) (Lg a its.toArray n dd sl _ t m0 m1 m2 m3 m4 (by rw[hnew,Aj];exact BH lf (by decide))) ⟨ho,?_⟩⟩)
 rw[hnew]
 refine⟨.ref _,_,I.laid (t':=s.toks) (o:=.tup (AO k xs).flatten) (λb ob q=>AG _ q) (AM _) ?_,rfl,q _ (I.hok.fresh (AM _))⟩
 exact⟨⟨by rw[len_rep,C'];exact BH hz (by decide),_,AU _ rfl,rfl⟩,_,r.rep k,Hz _ _⟩
end
section
variable{X:Cx}
theorem Tq{K:AE}:BF K (.type "bool") (.type "bool")=some true:=by rfl
end
section
variable{X:Cx}{e:Expr}{lo hi:Option Expr}{st:Expr}{te:TE}{tl th tk:TO}{p2 pos:Pos}
def Zq(K:AE):List V->Hp->VK->Prop:=λxs H Q=>∃(a:Addr) (bs:List Bool),xs=[.ref a]/\bC K H a (bs.map V.bl)/\Q (.bl (bs.any id)) H
theorem oV(K:AE)(hc:X.calm=true)(hK:X.K=K:=by rfl):cZ X (.builtin "any") (Zq K):=by
 subst hK
 intro pins s σ H xs us Q I r h
 obtain⟨a,bs,rfl,hq,q⟩:=h
 obtain⟨u,rfl,ru⟩:=vals1 r
 cases ru
 obtain⟨its,rv,p,_⟩:=I.list hq
 have e:=rO rv
 have bl:a<s.heap.objs.size:=by obtain⟨o,e,_⟩:=p.isList;exact AX e
 refine call_any_walk ?_
 refine ET p.isList ?_
 refine⟨s.heap.objs.size,_,_,_,_,_,λi=>(bs.getD i false),rfl,IK (A:=X.A.in1) (I.ok.hd hc) _ a (Ap bl) its.toArray,⟨⟨_,AU _ rfl,rfl,rfl⟩,p.isList.push _⟩,?_,λh' tk k=>?_⟩
 ·intro i v s' Q' E' hv hQ'
  have:v=.bool (bs.getD i false):=by
   rw[CS,e,AJ] at hv
   rw[AQ]
   cases eb:bs[i]? with
   | none=>rw[eb] at hv;cases hv
   | some b=>rw[eb] at hv;exact(AZ hv).symm
  rw[this]
  exact B2 hQ'
 ·refine⟨.bl (bs.any id),H,I.kept λb o eo=>k b o (λz=>Ap (AX eo) (AI.mp z)) (AG _ eo),?_,q⟩
  have hl:its.toArray.size=bs.length:=by simp[e]
  have ea:∀cs:List Bool,(Ad cs.length).any (λi=>cs.getD i false)=cs.any id:=λcs=>by
   induction cs with
   | nil=>rfl
   | cons c cs ih=>
    rw[A',DZ,CY,Gb,CY,<-ih]
    rfl
  show _=DW _
  rw[hl,ea]
def WM(K:AE)(x:V)(l u k:Option Int):Hp->VK->Prop:=λH Q=>∃a xs,l=none/\u=none/\k=some (-1)/\x=.ref a/\bC K H a xs/\∀p,H p=none->Q (.ref p) (upd H p (.lst xs.reverse))
def WN(K:AE)(te:TE)(tl th tk:TO):TE:=λσ H Q=>te σ H λx H1=>tl σ H1 λl H2=>th σ H2 λu H3=>tk σ H3 λk H4=>WM K x l u k H4 Q
theorem Rk(K:AE)(he:PE X e te)(hl:PO X lo tl)(hu:PO X hi th)(hk:PO X (some st) tk)(hK:X.K=K:=by rfl):PE X (.Subscript e (.Slice lo hi (some st) p2) pos) (WN K te tl th tk):=by
 subst hK
 intro pins s σ H Q I h
 refine GY (aM (he pins s σ H _ I h) λv s1 ⟨x,H1,I1,r1,q1⟩=>?_)
 refine wpAny_Slice (aM (hl pins s1 σ H1 _ I1 q1) λvl s2 ⟨l,H2,I2,pl,q2⟩=>aM (hu pins s2 σ H2 _ I2 q2) λvu s3 ⟨u,H3,I3,pu,q3⟩=>aM (hk pins s3 σ H3 _ I3 q3) λvk s4 ⟨k,H4,I4,pk,q4⟩=>?_)
 obtain⟨a,xs,rfl,rfl,rfl,rfl,hx,q⟩:=q4
 cases pl
 cases pu
 cases pk with
 | int i t=>
  cases r1
  have I5:Inv X pins σ H4 {s4 with heap:=s4.heap.push {cls:=.type "slice",data:=.fields #[.none,.none,.int (-1) t]}}:=I4.kept (t':=s4.toks) λb ob q=>AG _ q
  obtain⟨its,r,ht,hz⟩:=I5.list hx
  have hlen:its.toArray.size=xs.length:=by rw[Aj];exact r.length.symm
  show wpAny (model X.prog X.w) X.A (Eu e (.Slice lo hi (some st) p2) (.ref a) (.ref s4.heap.objs.size)) (EP X pins σ Q) X.xe {s4 with heap:=s4.heap.push {cls:=.type "slice",data:=.fields #[.none,.none,.int (-1) t]}}
  refine tail_any (ops:=[.ref a,.ref s4.heap.objs.size]) ht.isList.typeIs list_getitem_lookup ?_ (by with_unfolding_all rfl)
  refine GB (lo:=none) (hi:=none) (st:=some (-1)) ht.isList (HZ ..) .none .none (.int _ _) (by decide) ?_ (by rw[hlen];exact hz)
  rw[PySem.W.krv_pick]
  refine⟨.ref _,_,I5.laid (o:=.lst xs.reverse) (t':=s4.toks) (λ_ _ q=>AG _ q) (AM _) ?_,rfl,q _ (I5.hok.fresh (AM _))⟩
  exact⟨by rw[FA];exact hz,_,0,tQ r,AU _ rfl⟩
end
def Its(x:Str):It:=⟨λi _=>i<x.cps.size,λi H y H'=>H'=H/\∃c,x.cps[i]? =some c/\y=.str ⟨#[c]⟩,λi _=>x.cps.size<=i⟩
theorem N7{P:Az}{w:World}{K:AE}{tg:Expr}(it:Addr)(x:Str)(t:Tok):Turn P w K tg (Its x) [it] it (λi h=>h.IsStrIter it "str_ascii_iterator" x t i) where
 mem:=by simp
 obj:=λi h st b hb=>by
  have e:b=it:=by simpa using hb
  subst e
  obtain⟨o,e,c,d⟩:=st
  exact⟨o,e,λv z=>by rw[d] at z;cases z⟩
 keep:=λi h h' st k=>let ⟨o,ho,r⟩:=st;⟨o,k it (by simp) o ho,r⟩
 item:=by
  intro X hP hw hK hc i pins s σ H E I hf st hg
  subst hP hw hK
  obtain⟨f0,f1,f2,f3,f4,f5⟩:=hf it (by simp)
  have hg':i<x.cps.size:=hg
  refine wpAny_pyNext_ascii_item st (c:=x.cps[i]) (by simp[hg']) λh' st' sb=>?_
  have I1:Inv X pins σ H {s with heap:=h',toks:=s.toks+1}:=I.turned (λb o hb e=>(sb.2 b hb).trans e) f0 f1 f3 f4 f5
  obtain⟨o,e,c,d⟩:=id st'
  exact⟨_,rfl,rm (s:={s with heap:=h',toks:=s.toks+1}) e c d (by decide) ⟨.str ⟨#[x.cps[i]]⟩,H,I1,⟨_,rfl⟩,⟨rfl,_,by simp[hg'],rfl⟩,st',λb hb=>(hf b hb).1⟩⟩
 done:=by
  intro X hP hw hK hc i pins s σ H E I hf st hg
  subst hP hw hK
  obtain⟨f0,f1,f2,f3,f4,f5⟩:=hf it (by simp)
  have hg':x.cps.size<=i:=hg
  exact wpAny_pyNext_ascii_end (I.ok.hd hc) st (by simp[hg']) λh' eb=>⟨rfl,I.turned (t':=s.toks) (λb o hb e=>eb b o hb e) f0 f1 f3 f4 f5⟩
 self:=λ_ _ _ _ _ st h=>wpAny_pyIter_striter_ascii st h
def Zr(tl:TE):TI:=λσ H R=>tl σ H λx H1=>∃z:Str,x=.str z/\z.cps.all (· <128)=true/\R (Its z) H1
section
variable{X:Cx}{tg:Expr}
theorem Ts{l:Expr}{tl:TE}(hl:PE X l tl):PI X tg l (Zr tl):=by
 intro pins s σ H R I h
 refine aM (hl pins s σ H _ I h) λv s1 ⟨x,H1,I1,r1,q1⟩=>?_
 obtain⟨z,rfl,ha,q⟩:=q1
 obtain⟨t,rfl⟩:=r1
 refine wpAny_pyIter_ascii ha ?_
 refine⟨s1.heap.objs.size,[s1.heap.objs.size],_,_,H1,rfl,I1.kept (t':=s1.toks) λb o e=>AG _ e,N7 _ z t,⟨_,AU _ rfl,rfl,rfl⟩,λb hb=>?_,q⟩
 have e:b=s1.heap.objs.size:=by simpa using hb
 subst e
 exact I1.iE (AM _) (I1.hok.fresh (AM _))
end
theorem Rm{z:Str}{g:TG}{tb:TS}{D:Ends}{σ:St}{H:Hp}(Pv:Nat->St->Hp->Prop)(h0:Pv 0 σ H)
  (hs:∀i c σ H,z.cps[i]? =some c->Pv i σ H->g (.str ⟨#[c]⟩) σ H λσ2 H2=>tb {D with nx:=Pv (i+1),ct:=Pv (i+1),bk:=D.nx} σ2 H2) (hd:∀σ H,Pv z.cps.size σ H->D.nx σ H):
  ∃W:Nat->Nat->St->Hp->Prop,(∃m,W 0 m σ H)/\∀i m σ H,W i m σ H->
   ((Its z).stop i H/\D.nx σ H)∨((Its z).go i H/\∃N:St->Hp->Prop,(∀σ' H',N σ' H'->∃m',m'<m/\W (i+1) m' σ' H')/\∀x H',(Its z).oJ i H x H'->g x σ H' λσ2 H2=>tb {D with nx:=N,ct:=N,bk:=D.nx} σ2 H2):=by
 refine⟨λi m σ H=>m=z.cps.size-i/\i<=z.cps.size/\Pv i σ H,⟨z.cps.size,by simp,BI _,h0⟩,?_⟩
 rintro i m σ H ⟨rfl,hi,p⟩
 by_cases hlt:i<z.cps.size
 ·refine .inr ⟨hlt,Pv (i+1),λσ' H' p'=>⟨z.cps.size-(i+1),by omega,rfl,hlt,p'⟩,λx H' y=>?_⟩
  obtain⟨rfl,c,hc,rfl⟩:=y
  exact hs i c σ _ hc p
 ·have e:i=z.cps.size:=by omega
  subst e
  exact .inl ⟨AM _,hd _ _ p⟩
section
variable{X:Cx}{e:Expr}{lo hi:Option Expr}{st:Expr}{te:TE}{tl th tk:TO}{p2 pos:Pos}
def oW(x:Str):Str:=⟨x.cps.reverse⟩
theorem picked_rev(x:Str)(t:Tok):((slicePicked x none none (some (-1,t))).filterMap (x.cps[·]?)).toArray=x.cps.reverse:=by
 have e:slicePicked x none none (some (-1,t))=(Ad x.cps.size).reverse:=by
  have h:slicePicked x none none (some (-1,t))=sliceRange ((x.cps.size:Int)-1) (-1) (-1):=rfl
  rw[h,PySem.W.krv_sliceRange,PySem.W.krv_range]
 rw[e,List.filterMap_reverse,PySem.W.krv_all,<-Array.toList_reverse]
def WO(x:V)(l u k:Option Int):Hp->VK->Prop:=λH Q=>∃z:Str,l=none/\u=none/\k=some (-1)/\x=.str z/\z.length<=sizeLine/\Q (.str (oW z)) H
def WQ(te:TE)(tl th tk:TO):TE:=λσ H Q=>te σ H λx H1=>tl σ H1 λl H2=>th σ H2 λu H3=>tk σ H3 λk H4=>WO x l u k H4 Q
theorem Rn(he:PE X e te)(hl:PO X lo tl)(hu:PO X hi th)(hk:PO X (some st) tk):PE X (.Subscript e (.Slice lo hi (some st) p2) pos) (WQ te tl th tk):=by
 intro pins s σ H Q I h
 refine GY (aM (he pins s σ H _ I h) λv s1 ⟨x,H1,I1,r1,q1⟩=>?_)
 refine wpAny_Slice (aM (hl pins s1 σ H1 _ I1 q1) λvl s2 ⟨l,H2,I2,pl,q2⟩=>aM (hu pins s2 σ H2 _ I2 q2) λvu s3 ⟨u,H3,I3,pu,q3⟩=>aM (hk pins s3 σ H3 _ I3 q3) λvk s4 ⟨k,H4,I4,pk,q4⟩=>?_)
 obtain⟨z,rfl,rfl,rfl,rfl,hz,q⟩:=q4
 cases pl
 cases pu
 cases pk with
 | int i t=>
  obtain⟨t0,rfl⟩:=r1
  have I5:Inv X pins σ H4 {s4 with heap:=s4.heap.push {cls:=.type "slice",data:=.fields #[.none,.none,.int (-1) t]}}:=I4.kept (t':=s4.toks) λb ob q=>AG _ q
  show wpAny (model X.prog X.w) X.A (Eu e (.Slice lo hi (some st) p2) (.str z t0) (.ref s4.heap.objs.size)) (EP X pins σ Q) X.xe {s4 with heap:=s4.heap.push {cls:=.type "slice",data:=.fields #[.none,.none,.int (-1) t]}}
  refine tail_any (ops:=[.str z t0,.ref s4.heap.objs.size]) (GZ _ _ _) GF.lookup ?_ (by with_unfolding_all rfl)
  refine wpAny_getItem_str_slice (l:=none) (u:=none) (st:=some (-1,t)) ⟨_,AU _ rfl,rfl,rfl⟩ rfl ?_
  have e1:sliceMade z t0 none none (some (-1,t))=.str (oW z):=by
   unfold sliceMade
   rw[picked_rev]
   rfl
  rw[e1]
  exact⟨by show z.cps.reverse.size<=sizeLine;rw[Array.size_reverse];exact hz,⟨.str _,H4,I5.tok _,⟨_,rfl⟩,q⟩⟩
end
section
variable{X:Cx}
def Tt:V->List V->Hp->VK->Prop:=λx vs H Q=>∃(z y:Str) (i:Nat) (rest:List Nat),x=.str z/\vs=[.str y]/\GO z y 0 z.length 1=i::rest/\Q (.int (i:Nat)) H
theorem N8:wV X "str.index" Tt:=by
 intro pins s σ H x vs v us Q I rx rv h
 obtain⟨z,y,i,rest,rfl,rfl,ho,q⟩:=h
 obtain⟨t,rfl⟩:=rx
 obtain⟨u,rfl,ru⟩:=rv.one
 obtain⟨t2,rfl⟩:=ru
 exact call_gives Gd (GZ _ _ _) PySem.F.entry_str_index (PySem.F.args_str_index_2 _ _) (gives_str_index z y t t2 i rest ho) ⟨.int _,H,I.tok _,⟨_,rfl⟩,q⟩
theorem Ro:cQ X (CQ .Mult) (λx y H Q=>∃(z:Str) (n:Int),x=.str z/\y=.int n/\0<=n/\n<=1000/\z.length<=1000/\Q (.str (Txt.mul z n)) H):=by
 intro pins s σ H x y v u Q I rx ry h
 obtain⟨z,n,rfl,rfl,h0,h1,h2,q⟩:=h
 obtain⟨t,rfl⟩:=rx
 obtain⟨t',rfl⟩:=ry
 refine SB.mul ⟨?_,?_,?_⟩ λt' k=>⟨.str _,H,I.tok k,⟨t',rfl⟩,q⟩
 ·have a:¬n< -(2 ^ 63:Int):=by omega
  have b:¬n ≥ 2 ^ 63:=by omega
  simp only[a,b,decide_false,Bool.or_self]
 ·intro a b c
  have e:(1000:Int)<=(2 ^ 63-1) / n:=by
   rw[Int.le_ediv_iff_mul_le (by omega)]
   omega
  omega
 ·intro a b
  have h3:z.length*n.toNat<=1000*1000:=DS h2 (by omega)
  have h4:(1000*1000:Nat)<=sizeLine:=by decide
  exact decide_eq_false (by omega)
end
theorem Lh{d:Addr}{ob:Obj}{kvs:List (Key×V)}{g:TG}{tt:TT}{te:TE}{D:Addr}{σ:St}{H:Hp}{R:Hp->Prop}(Pv:Nat->St->Hp->Prop)(h0:Pv 0 σ H)(hl:∀i σ H,i<=kvs.length->Pv i σ H->H d=some (.dC ob (.dK kvs)))
  (hs:∀i k v σ H,kvs[i]? =some (k,v)->Pv i σ H->g (kV k) σ H λσ2 H2=>tt σ2 H2 λb H3=>if b=true then te σ2 H3 λy H4=>∃ys,H4 D=some (.lst ys)/\ys.length<sizeLine/\Pv (i+1) σ2 (upd H4 D (.lst (ys++[y]))) else Pv (i+1) σ2 H3)
  (hd:∀σ H,Pv kvs.length σ H->R H):iX (qf d ob kvs) g tt te D σ H R:=by
 refine⟨λi m σ H=>m=kvs.length-i/\i<=kvs.length/\Pv i σ H,⟨kvs.length,by simp,BI _,h0⟩,?_⟩
 rintro i m σ H ⟨rfl,hi,p⟩
 have q:=hl i σ H hi p
 by_cases hlt:i<kvs.length
 ·refine .inr ⟨⟨q,hlt⟩,Pv (i+1),λσ' H' p'=>⟨kvs.length-(i+1),by omega,rfl,hlt,p'⟩,λx H' y=>?_⟩
  obtain⟨rfl,k,v,hk,rfl⟩:=y
  exact hs i k v σ H' hk p
 ·have e:i=kvs.length:=by omega
  subst e
  exact .inl ⟨⟨q,AM _⟩,hd σ H p⟩
theorem oX{X:Cx}{a:Expr}{ta:TE}(K:AE)(ha:PE X a ta)(he:∀whole,isTrue a X.env whole=(do let v <-whole;standAt a.pos;holding [v] (truthy v)))(hK:X.K=K:=by rfl):
  PT X a (λσ H Q=>ta σ H λx H'=>∃k,NP K x H' k/\Q k H'):=by subst hK;exact fJ ha he
section
variable{prog:Az}{w:World}{A:BQ}{E:Value->AN->Prop}{s:AN}
theorem bY{h h':Heap}{it t b:Addr}{i:Nat}(x:h.IsTupleIter it t i)(sb:ES b h h')(n:it≠b):h'.IsTupleIter it t i:=let ⟨o,ho,r⟩:=x;⟨o,sb _ _ n ho,r⟩
theorem dU{h h':Heap}{t b:Addr}{ys:Array Value}(x:h.IsTuple t ys)(sb:ES b h h')(n:t≠b):h'.IsTuple t ys:=let ⟨o,ho,r⟩:=x;⟨o,sb _ _ n ho,r⟩
abbrev zK (l:Addr):Obj:={cls:=.type "tuple_iterator",data:=.fields #[.ref l,.int 0 0]}
end
structure gQ (ps aI:List Str)(scope:Scope):Prop where
 kind:scope.kind=.function
 co:scope.isCoroutine=false
 gen:scope.isGenerator=false
 Li:∀x∈scope.names,x.2≠.cell
 par:∀x∈ps,scope.names.lookup x=some .local
 free:∀x∈aI,scope.names.lookup x=some .free
 only:∀x,scope.names.lookup x=some .free->x∈aI
 nd:(ps++aI).Nodup
structure iH (h:Heap)(cl:List (Str×Addr))(aI:List Str)(fvs:List V):Prop where
 inj:∀x y c,cl.lookup x=some c->cl.lookup y=some c->x=y
 cell:∀x c,cl.lookup x=some c->∃v,h.IsCell c v
 vals:DG (λx v=>∃c u,cl.lookup x=some c/\h.IsCell c (some u)/\RelV v u) aI fvs
def Lj(P:Az)(w:World)(K:AE)(mg:Str->Option Value)(base:Heap)(N:List Str)(qual:Str)(scope:Scope)(f:Addr)(cd:Value)(cl:List (Str×Addr))(A:BQ)(outer:List Env)(s:AN)(H:Hp):Cx where
 prog:=P
 w:=w
 K:=K
 mg:=mg
 base:=base
 A:=A.deeper (Cq qual scope s.heap.objs.size f cd cl)
 N:=N
 s₀:=s
 H₀:=H
 env:=Cq qual scope s.heap.objs.size f cd cl
 outer:=outer
 stack:=Cq qual scope s.heap.objs.size f cd cl::outer
 ex:=[]
 calm:=true
 fn:=λ_=>false
 pn:=[]
 xe:=λ_ _=>False
theorem zL{ps:List Str}{us:List Value}(nd:ps.Nodup)(hl:ps.length<=us.length){i:Nat}{y:Str}{u:Value}(hp:ps[i]? =some y)(hu:us[i]? =some u):(ps.zip us).reverse.lookup y=some u:=by
 have hm:(y,u)∈(ps.zip us).reverse:=by
  rw[GP]
  refine AL (i:=i) ?_
  rw[List.getElem?_zip_eq_some]
  exact⟨hp,hu⟩
 have hn:((ps.zip us).reverse.map (·.1)).Nodup:=by
  rw[List.map_reverse]
  refine(List.reverse_perm _).nodup_iff.mpr ?_
  rw[List.map_fst_zip hl]
  exact nd
 generalize (ps.zip us).reverse=l at hm hn
 induction l with
 | nil=>cases hm
 | cons p l ih=>
  rw[A0,Bk] at hn
  rcases Ak.mp hm with e | e
  ·subst e;exact List.lookup_cons_self
  ·have:y≠p.1:=λz=>hn.1 (by rw[<-z];exact Ac.mpr ⟨_,e,rfl⟩)
   obtain⟨a,b⟩:=p
   rw[DO,show(y == a)=false from beq_false_of_ne this]
   exact ih e hn.2
theorem dW{α β:Type}{F:α->β->Prop}:∀{l:List α} {m:List β} {i:Nat} {a:α},DG F l m->l[i]? =some a->∃b,m[i]? =some b/\F a b
 | _,_,_,_,.nil,h=>by simp at h
 | _,_,0,_,.cons r _,h=>by simp at h;subst h;exact⟨_,rfl,r⟩
 | _,_,i+1,_,.cons _ t,h=>by
  simp only[DT] at h ⊢
  exact dW t h
theorem Rp{P:Az}{w:World}{K:AE}{mg:Str->Option Value}{base:Heap}{ps aI:List Str}{qual:Str}{scope:Scope}{f:Addr}{cd:Value}{cl:List (Str×Addr)}{A:BQ}{outer:List Env}{s:AN}{H:Hp}{us:List Value}{vs fvs:List V}{h1:Heap}{fo:Obj}{tk:Nat}
  (S:gQ ps aI scope) (hd:A.handled=none) (e0:qA P w K mg base A outer s H) (hl:vs.length=ps.length) (r:Vals vs us) (C:iH base cl aI fvs)
  (hns:h1.Ns s.heap.objs.size λx=>(ps.zip us).reverse.lookup x) (hsb:B8 s.heap.objs.size (s.heap.push fo) h1):
  Inv (Lj P w K mg base (ps++aI) qual scope f cd cl A outer s H) [] (vs.map some++fvs.map some) H {s with heap:=h1,toks:=tk}:=by
 have hk:∀b o,s.heap.get? b=some o->h1.get? b=some o:=λb o e=>hsb.extBut b o (Ap (AX e)) (AG _ e)
 have hkb:∀b o,base.get? b=some o->h1.get? b=some o:=λb o e=>hk b o (e0.bs b o e).1
 have kW:∀b:Addr,b ∉ (Lj P w K mg base (ps++aI) qual scope f cd cl A outer s H).ex:=λb z=>absurd (show b∈([]:List Addr) from z) (by simp)
 have lf:aI.length=fvs.length:=As C.vals
 refine⟨⟨e0.mod,S.kind,rfl,rfl,AM _,C.inj,λy hy=>?_,λy c z=>(nomatch z),λ_=>hd,E1 e0.frames,.inr ⟨rfl,rfl⟩,λb z=>absurd z (kW b),e0.bs,e0.oC,λb _ _=>kW b,λb z=>absurd z (kW b),e0.hV,e0.uN⟩,
  rfl,e0.bare,Un.kept hk,⟨_,hns,λi y v h1' h2 h3=>?_⟩,λy c h=>?_,e0.hok.fresh (AM _),λy c h=>?_,λp hp=>absurd (show p∈([]:List (Addr×Obj)) from hp) (by simp),e0.hok.kept hk,?_⟩
 ·have hy:scope.names.lookup y=some .cell∨scope.names.lookup y=some .free:=hy
  rcases hy with hy | hy
  ·exact absurd rfl (S.Li _ (BS hy))
  ·have hm:=S.only y hy
   obtain⟨i,hi⟩:=Bl hm
   obtain⟨v,_,c,u,hc,_⟩:=dW C.vals hi
   exact⟨c,hc⟩
 ·have ie:(ps++aI)[i]? =some y:=h1'
  by_cases hi:i<ps.length
  ·rw[Am hi] at ie
   rw[Am (by rw[AA];omega),AJ] at h2
   obtain⟨v',hv',e⟩:=A9.mp h2
   have e':v'=v:=AZ e
   subst e'
   obtain⟨u,hu,rv⟩:=r.get hv'
   have zu:ps.Nodup:=(BR.mp S.nd).1
   exact⟨u,rv,.inl ⟨S.par y (AL ie),zL zu (by rw[<-hl,r.length];exact AM _) ie hu⟩⟩
  ·rw[Ae (by omega)] at ie
   rw[Ae (by rw[AA];omega),AA,hl,AJ] at h2
   obtain⟨v',hv',e⟩:=A9.mp h2
   have e':v'=v:=AZ e
   subst e'
   obtain⟨v2,hv2,c,u,hc,⟨o,ho,hd'⟩,rv⟩:=dW C.vals ie
   rw[hv'] at hv2
   cases hv2
   exact⟨u,rv,.inr ⟨.inr (S.free y (AL ie)),c,hc,o,hkb _ _ ho,hd'⟩⟩
 ·obtain⟨v,o,ho,hd'⟩:=C.cell y c h
  exact⟨v,o,hkb _ _ ho,hd'⟩
 ·obtain⟨v,o,ho,hd'⟩:=C.cell y c h
  exact(e0.bs c o ho).2
 ·show _=(ps++aI).length
  rw[AH,AA,AA,AH,hl,lf]
theorem Tv{P:Az}{w:World}{K:AE}{mg:Str->Option Value}{base:Heap}{k:Nat}{f c':Addr}{name qual:Str}{params:Cs}{body:Expr}{scope:Scope}{cl:List (Str×Addr)}{pm ctv:Value}{ps aI:List Str}{fvs:List V}{sp:Sp}
  (ho:base.get? f=some (PySem.W.kla_obj name qual params body scope cl pm c' ctv)) (oY:base.CodeRec (.ref c') qual) (S:gQ ps aI scope) (C:iH base cl aI fvs) (len:∀vs H Q E,sp vs H Q E->vs.length=ps.length)
  (hbody:∀(A:BQ) (outer:List Env) (s:AN) (H:Hp) (vs:List V) (Q:VK) (E:XK),aQ k (A.deeper (Cq qual scope s.heap.objs.size f (.ref c') cl))->sp vs H Q E->
   ∃t,PE (Lj P w K mg base (ps++aI) qual scope f (.ref c') cl A outer s H) body t/\t (vs.map some++fvs.map some) H Q):
  aV P w K mg base bK (k+1) f (PySem.W.kla_fn name qual params body scope cl pm (.ref c') ctv) ps sp:=by
 refine⟨len,λA outer s H args us vs Q E hr e0 hb r hsp=>?_⟩
 have hl:=len _ _ _ _ hsp
 have lim:s.heap.NoLimit:=e0.mod.nolimit.keeps λb o e=>(e0.bs b o e).1
 have N9:s.heap.CodeRec (.ref c') qual:=by
  obtain⟨c,oc,vs',tq,hc,hoc,hdc,hq⟩:=oY
  exact⟨c,oc,vs',tq,hc,(e0.bs _ _ hoc).1,hdc,hq⟩
 refine PySem.W.kla_callFunE hr.depth (e0.bs _ _ ho).1 rfl S.co S.gen rfl N9 (hb _ _ _ _ ?_)
 have hloc:∀y∈ps.zip us,scope.names.lookup y.1=some .local:=λ⟨n,v⟩ hy=>S.par n (Di hy).1
 refine wpAny_newFunctionEnv S.Li hloc (λh₁ hns hsb=>⟨lim.fresh _ hsb,?_⟩) S.kind
 obtain⟨t,ht,hq⟩:=hbody A outer s H vs Q E (hr.deeper _) hsp
 have I:Inv (Lj P w K mg base (ps++aI) qual scope f (.ref c') cl A outer s H) [] (vs.map some++fvs.map some) H {s with heap:=h₁,toks:=s.toks+(ps.zip us).length}:=Rp S hr.hd e0 hl r C hns hsb
 refine PySem.W.kla_codeExpr (B0 (ht [] _ _ H _ I hq) (λv s' hs=>?_) λe s' hs=>hs.elim)
 obtain⟨x,H',J,rv,q⟩:=hs
 exact⟨x,H',J.os,J.bare,J.base,J.hok,rv,q⟩
section
variable{X:Cx}{x:Str}{p pos:Pos}{e:Expr}{es:List Expr}{t:TA}{k:Nat}{f:Addr}{fd:BC}{ps:List Str}{sp:Sp}
def Tw(i:Nat)(f:Addr)(sp:Sp)(t:TA):TE:=λσ H Q=>σ[i]? =some (some (.ref f))/\t σ H λvs H1=>sp vs H1 Q E0
theorem qG(F:aV X.prog X.w X.K X.mg X.base bK k f fd ps sp){i:Nat}{o:Obj}(ho:X.base.get? f=some o)(hof:o.data=.func fd)(hr:aQ k X.A)(hb:∀us:List Value,us.length=ps.length->G5 fd ⟨us,[]⟩=pure (ps.zip us))
  (hN:X.N[i]? =some x) (hv:zj X.env.scope x) (ha:PA X (e::es) t) (hdb:(x == ("__debug__":Str))=false:=by decide) (hcd:(x == ("__classdict__":Str))=false:=by decide)
  (he:BL (e::es) X.env=(false,eval e X.env)::BL es X.env:=by rfl) (hpl:(Dr pos (BL es X.env)).any (·.1)=false:=by rfl):
  PE X (.Call (.Name x p) (e::es) [] pos) (Tw i f sp t):=by
 intro pins s σ H Q I h
 obtain⟨hi,h⟩:=h
 obtain⟨m,hn,hl⟩:=I.loc
 obtain⟨u,r,l⟩:=hl i x (.ref f) hN hi hv
 obtain rfl:u=Bq f:=r
 have fin:wpAny (model X.prog X.w) X.A (callWith pos (.ref f) [] (Dr pos (BL (e::es) X.env)) []) (EP X pins σ Q) X.xe s:=by
  have h0:wpAny (model X.prog X.w) X.A (spliced (Dr pos (BL (e::es) X.env))) (λus s₁=>s₁.heap.get? f=some o/\wpAny (model X.prog X.w) X.A (call (.ref f) ([]++us)) (EP X pins σ Q) X.xe s₁) X.xe s:=by
   refine aM (ha pos pins s σ H _ I h) λus s1 ⟨vs,H1,I1,r,q⟩=>⟨I1.bk _ _ ho,?_⟩
   exact KI (ds:=[]) (rB:=[]) F hr (Binds.all hb) .nil aN I1 r (by rw[BU];exact q)
  rw[he] at h0 ⊢
  refine PySem.W.callWith_of (P:=λh=>h.get? f=some o) ?_ (λh hf=>⟨.frame,.inl rfl,(PySem.W.Looks.ld (part:=none) hf).andThen ?_⟩) (Dv h0)
  ·show((false||(Dr pos (BL es X.env)).any (·.1))||false)=false
   rw[hpl];rfl
  ·rw[hof]
   exact .now
 rcases l with⟨hk,hm⟩ | ⟨hk,c,hc,hcell⟩
 ·exact CU (FO (wpAny_loadName_local I.ok.kind hk hn hm fin) hdb)
 ·rcases hk with hk | hk
  ·exact CU (FO (wpAny_loadName_cell I.ok.kind hk hc hcell fin) hdb)
  ·exact CU (FO (wpAny_loadName_free I.ok.kind hk hc hcell fin hcd) hdb)
end
def k_(f:Addr)(o:Obj):HO:=.ext λh=>h.get? f=some o
def lg(c:Addr)(qual:Str):HO:=.ext λh=>h.CodeRec (.ref c) qual
section
variable{P:Az}{w:World}{H:Hp}{h:Heap}
theorem rP{f:Addr}{o:Obj}(e:h.get? f=some o):bE P w H h f (k_ f o):=
 ⟨e,⟨o,e⟩,λh1 h2 q k=>k o q⟩
theorem Lk{c:Addr}{qual:Str}(e:h.CodeRec (.ref c) qual):bE P w H h c (lg c qual):=by
 refine⟨e,?_,λh1 h2 q k=>?_⟩
 ·obtain⟨c',o,vs,t,e1,e2,_⟩:=e
  cases e1
  exact⟨o,e2⟩
 ·obtain⟨c',o,vs,t,e1,e2,r⟩:=q
  cases e1
  exact⟨c,o,vs,t,rfl,k o e2,r⟩
end
def Tab(H:Hp)(T:Addr)(L:List (Pos×Str)):Prop:=
 ∃ps:Array Value,H T=some (.fw ps)/\HI ps.toList/\∀p∈L,DU p.1 ps.toList=none∨∃c,DU p.1 ps.toList=some (.ref c)/\H c=some (lg c p.2)
theorem Tab.same{H H':Hp}{T:Addr}{L:List (Pos×Str)}(x:Tab H T L)(s:Same H H'):Tab H' T L:=by
 obtain⟨ps,h1,h2,h3⟩:=x
 refine⟨ps,s _ _ h1,h2,λp hp=>?_⟩
 rcases h3 p hp with z | ⟨c,z,q⟩
 ·exact .inl z
 ·exact .inr ⟨c,z,s _ _ q⟩
theorem Jk{p q:Pos}{c:Value}:∀(l:List Value),HI l->∀d,DU p (l++[A7 q.line,A7 q.col,c])=some d->DU p l=some d∨(DU p l=none/\p.line=q.line/\p.col=q.col/\d=c):=by
 intro l
 fun_induction HI l with
 | case1=>
  intro _ d h
  simp only[EI,DU,A7] at h
  split at h
  ·rename_i hc
   simp at hc
   cases h
   exact .inr ⟨rfl,by omega,by omega,rfl⟩
  ·cases h
 | case2 a t b u x rest ih=>
  intro hl d h
  simp only[List.cons_append,DU] at h ⊢
  split at h
  ·rename_i hc;rw[if_pos hc];exact .inl h
  ·rename_i hc;rw[if_neg hc];exact ih hl d h
 | case3 l h1 h2=>intro h;exact h.elim
def Apart(L:List (Pos×Str)):Prop:=∀p∈L,∀q∈L,p.1.line=q.1.line->p.1.col=q.1.col->p=q
theorem Tab.grown{H H':Hp}{T c':Addr}{L:List (Pos×Str)}{ps:Array Value}{q:Pos×Str}(hq:q∈L)(ap:Apart L)(h2:HI ps.toList)(h3:∀p∈L,DU p.1 ps.toList=none∨∃c,DU p.1 ps.toList=some (.ref c)/\H c=some (lg c p.2))
  (hT:H' T=some (.fw (ps++ #[A7 q.1.line,A7 q.1.col,.ref c']))) (hc:H' c'=some (lg c' q.2)) (k:∀b φ,H b=some (.ext φ)->H' b=some (.ext φ)):Tab H' T L:=by
 have e:(ps++ #[A7 q.1.line,A7 q.1.col,.ref c']).toList=ps.toList++[A7 q.1.line,A7 q.1.col,.ref c']:=by simp
 refine⟨_,hT,by rw[e];exact TriplesOk_snoc _ _ _ _ h2,λp hp=>?_⟩
 rw[e]
 cases z:DU p.1 (ps.toList++[A7 q.1.line,A7 q.1.col,.ref c']) with
 | none=>exact .inl rfl
 | some d=>
  rcases Jk _ h2 d z with y | ⟨_,y1,y2,y3⟩
  ·rcases h3 p hp with n | ⟨c,n,r⟩
   ·rw[n] at y;cases y
   ·rw[n] at y;cases y
    exact .inr ⟨c,rfl,k _ _ r⟩
  ·have:=ap p hp q hq y1 y2
   subst this
   subst y3
   exact .inr ⟨c',rfl,hc⟩
section
variable{X:Cx}{pos:Pos}{params:Cs}{body:Expr}{scope:Scope}{c T:Addr}{clos:List (Str×Addr)}{L:List (Pos×Str)}{bm:Addr}{ob:Obj}
abbrev lamO (X:Cx)(params:Cs)(body:Expr)(scope:Scope)(clos:List (Str×Addr))(c':Addr)(ctv:Value):Obj:=PySem.W.kla_obj "<lambda>" (X.env.qual++"<lambda>") params body scope clos ((X.mg "__name__").getD .none) c' ctv
def Tx(X:Cx)(params:Cs)(body:Expr)(scope:Scope)(clos:List (Str×Addr))(T:Addr)(L:List (Pos×Str)):TE:=λσ H Q=>
 Tab H T L/\∀f c' ctv H',H f=none->H' f=some (k_ f (lamO X params body scope clos c' ctv))->H' c'=some (lg c' (X.env.qual++"<lambda>"))->Tab H' T L->KB T H H'->Q (.ref f) H'
def fj(mg:Str->Option Value)(base:Heap):Prop:=
 ∃bm o,mg "__builtins__"=some (.ref bm)/\bm≠GX/\base.get? bm=some o/\o.cls=.type "module"/\o.dict=some GX/\o.data=.plain
theorem Tz(hcode:X.env.code=.ref c)(C:Dy X.base c T)(hB:fj X.mg X.base)(hcl:FY scope X.env=pure clos)(hdef:defaultsOf params X.env=([],[]))(hL:(pos,X.env.qual++"<lambda>")∈L)(ap:Apart L)(hfs:X.ex=[]):
  PE X (.Lambda params body scope pos) (Tx X params body scope clos T L):=by
 intro pins s σ H Q I ⟨⟨ps,hT,ht,htab⟩,h⟩
 refine PySem.W.kla_eval hdef ?_
 have rQ:s.heap.get? T=some (B5 ps):=I.hok T _ hT
 have hg:s.heap.Ns Ah X.mg:=I.ok.mod.glob.keeps I.bk
 have TC:Ah≠T:=λq=>by
  obtain⟨o,es,ep,e,hd,_⟩:=hg
  rw[q,rQ] at e;cases e;cases hd
 have xo:s.heap.BuiltinsAt X.mg T:=by
  obtain⟨bm,o,h1,h2,h3,h4,h5,h6⟩:=hB
  refine⟨bm,o,h1,h2,λq=>?_,λq=>?_,I.bk _ _ h3,h4,h5,h6⟩
  ·obtain⟨o',es,ep,e,hd,_⟩:=I.ok.mod.glob
   rw[q,e] at h3;cases h3;rw[hd] at h6;cases h6
  ·have:=I.bk _ _ h3
   rw[q,rQ] at this;cases this;cases h4
 have Ll:=C.keeps I.bk
 rcases htab _ hL with hn | ⟨c',hc',TF⟩
 ·refine PySem.W.kla_makeFunction (mg:=X.mg) hcl I.ok.glob hg hcode Ll rQ ht hn TC xo λc' ctv h' tk hx hge hlt hrec htb=>?_
  have nc:H c'=none:=I.hok.fresh hge
  have Lm:s.heap.objs.size<=h'.objs.size:=CG (Cv hge hlt)
  have nf:H h'.objs.size=none:=I.hok.fresh Lm
  have fc:h'.objs.size≠c':=Cm hlt
  have Tc:T≠c':=aq hT nc
  have Tf:T≠h'.objs.size:=aq hT nf
  have fT:=Ck Tf
  have cT:=Ck Tc
  have keep:∀b o,b≠T->s.heap.get? b=some o->(h'.push (lamO X params body scope clos c' ctv)).get? b=some o:=λb o hb e=>AG _ (hx b o hb e)
  let H':Hp:=upd (upd (upd H T (.fw (ps++ #[A7 pos.line,A7 pos.col,.ref c']))) c' (lg c' (X.env.qual++"<lambda>"))) h'.objs.size (k_ h'.objs.size (lamO X params body scope clos c' ctv))
  have eT:H' T=some (.fw (ps++ #[A7 pos.line,A7 pos.col,.ref c'])):=by show upd _ _ _ _=_;rw[ao Tf,ao Tc,af]
  have ec:H' c'=some (lg c' (X.env.qual++"<lambda>")):=by show upd _ _ _ _=_;rw[ao fc.symm,af]
  have ef:H' h'.objs.size=some (k_ h'.objs.size (lamO X params body scope clos c' ctv)):=af
  have eo:∀b,b≠T->b≠c'->b≠h'.objs.size->H' b=H b:=λb h1 h2 h3=>by show upd _ _ _ _=_;rw[ao h3,ao h2,ao h1]
  have kb:KB T H H':=λb o e hb=>by rw[eo b hb (aq e nc) (aq e nf)];exact e
  have hnew:∀b o,s.heap.get? b=some o->b≠c'/\b≠h'.objs.size:=λb o e=>⟨Ap (Ab (AX e) hge),Ap (Ab (AX e) Lm)⟩
  have TH:=Tab.grown (H:=H) (H':=H') hL ap ht htab eT ec λb φ e=>kb b _ e λz=>by rw[z,hT] at e;cases e
  have hok':dq X.prog X.w H' (h'.push (lamO X params body scope clos c' ctv)):=λb u e=>by
   by_cases b1:b=T
   ·subst b1
    rw[eT] at e;cases e
    exact AG _ htb
   by_cases b2:b=c'
   ·subst b2
    rw[ec] at e;cases e
    exact Lk (hrec.push _)
   by_cases b3:b=h'.objs.size
   ·subst b3
    rw[ef] at e;cases e
    exact rP (AU _ rfl)
   rw[eo b b1 b2 b3] at e
   refine(I.hok b u e).stay (λd v hd q=>keep d v ?_ q) (λd q=>kb d _ q ?_) λd xs q=>kb d _ q ?_
   ·rintro rfl
    rcases hd with z | z
    ·exact b1 z.symm
    ·rw[hT] at z;cases z
   ·rintro rfl;rw[hT] at q;cases q
   ·rintro rfl;rw[hT] at q;cases q
  refine⟨.ref h'.objs.size,H',?_,rfl,h _ _ _ _ nf ef ec TH kb⟩
  have ne_T:∀b,H b=none->b≠T:=λb n z=>by rw[z,hT] at n;cases n
  refine I.un ⟨λb o e n _ _=>keep b o (ne_T b n) e,λb o e n _ _=>⟨o.slots,keep b o (ne_T b n) e⟩,λb o e n _=>by rw[eo b (ne_T b n) (hnew b o e).1 (hnew b o e).2];exact n,λb o e _=>?_,λb xs e=>kb b _ e λz=>?_,λb o u e=>kb b _ e λz=>?_,λb qs e=>?_⟩ hok'
  ·by_cases hb:b=T
   ·subst hb;exact⟨_,AG _ htb⟩
   ·exact⟨o,keep b o hb e⟩
  ·rw[z,hT] at e;cases e
  ·rw[z,hT] at e;cases e
  ·by_cases hb:b=T
   ·subst hb
    rw[hT] at e;cases e
    exact⟨_,eT⟩
   ·exact⟨#[],by rw[kb b _ e hb];simp⟩
 ·refine PySem.W.kla_makeFunctionHit (mg:=X.mg) hcl I.ok.glob hg hcode Ll rQ ht hc' xo λctv h' tk hk hsz=>?_
  have nf:H h'.objs.size=none:=I.hok.fresh hsz
  have keep:∀b o,s.heap.get? b=some o->(h'.push (lamO X params body scope clos c' ctv)).get? b=some o:=λb o e=>AG _ (hk b o e)
  have kb:Same H (upd H h'.objs.size (k_ h'.objs.size (lamO X params body scope clos c' ctv))):=λb o e=>by rw[ao (aq e nf)];exact e
  refine⟨.ref h'.objs.size,upd H h'.objs.size (k_ h'.objs.size (lamO X params body scope clos c' ctv)),I.laid keep hsz (rP (AU _ rfl)),rfl,h _ c' ctv _ nf af (kb _ _ TF) (Tab.same ⟨ps,hT,ht,htab⟩ kb) λb o e _=>kb b o e⟩
end
def dv(D:List Addr)(H:Hp):Hp:=λb=>if b∈D then none else H b
def ig(D:List Addr)(H H2:Hp):Hp:=λb=>if b∈D then H b else H2 b
theorem mK{D:List Addr}{H:Hp}{b:Addr}(h:b∈D):dv D H b=none:=if_pos h
theorem fO{D:List Addr}{H:Hp}{b:Addr}(h:b ∉ D):dv D H b=H b:=if_neg h
theorem zM{D:List Addr}{H H2:Hp}{b:Addr}(h:b∈D):ig D H H2 b=H b:=if_pos h
theorem eE{D:List Addr}{H H2:Hp}{b:Addr}(h:b ∉ D):ig D H H2 b=H2 b:=if_neg h
def wide(h:Heap)(H:Hp)(fs:List Addr):Heap:=PySem.W.hideAll (kf h H) fs
theorem Ln(h:Heap)(H:Hp)(fs:List Addr):(wide h H fs).objs.size=h.objs.size:=(Gz _ _).trans (uL _ _)
theorem qH{h:Heap}{H:Hp}{fs:List Addr}{b:Addr}{o:Obj}(e:h.get? b=some o)(n:H b=none)(nf:b ∉ fs):(wide h H fs).get? b=some o:=HJ _ (wF e n) nf
theorem Rq{h:Heap}{H:Hp}{fs:List Addr}{b:Addr}{o:Obj}(e:(wide h H fs).get? b=some o):h.get? b=some o/\H b=none:=zi (HW fs e)
theorem Lo{h:Heap}{H:Hp}{fs:List Addr}{b:Addr}(hb:b∈fs):(wide h H fs).get? b=none:=G0 fs hb
theorem funFrames_base{h base base':Heap}:∀{l:List Env},h.FunFrames base l->(∀b∈frs l,base'.get? b=none)->h.FunFrames base' l
 | [],_,_=>trivial
 | env::r,⟨hk,⟨L,o,hf,hn,ho,hd⟩,hr⟩,k=>by
  have e:frs (env::r)=L::frs r:=by unfold frs;rw[DK,hf]
  exact⟨hk,⟨L,o,hf,k L (by rw[e];exact Aa),ho,hd⟩,funFrames_base hr λb hb=>k b (by rw[e];exact AV _ hb)⟩
structure Wide (X:Cx)(σ:St)(D:List Addr)(H:Hp)(base':Heap):Prop where
 sub:∀b o,X.base.get? b=some o->base'.get? b=some o
 mod:Mod X.K X.mg base'
 ext:∀a φ,a∈D->H a=some (.ext φ)->φ base'
 val:∀(i:Nat) (x:Str) (v:V),X.N[i]? =some x->σ[i]? =some (some v)->X.env.scope.names.lookup x=some .cell->∃c u,X.env.cells.lookup x=some c/\base'.IsCell c (some u)/\RelV v u
 cell:∀x c,X.env.cells.lookup x=some c->∃v,base'.IsCell c v
 inj:∀x y c,X.env.cells.lookup x=some c->X.env.cells.lookup y=some c->x=y
section
variable{X:Cx}{k:Nat}{f:Addr}{fd:BC}{ps:List Str}{sp:Sp}{pins:List (Addr×Obj)}{σ:St}{H:Hp}{s:AN}{D:List Addr}
theorem zN(I:Inv X pins σ H s)(hfn:∀x,X.fn x=true)(hD:∀a∈D,∃φ,H a=some (.ext φ)):Wide X σ D H (wide s.heap (dv D H) (frs X.stack)):=by
 have nD:∀b,H b=none->b ∉ D:=λb n z=>by obtain⟨φ,e⟩:=hD b z;rw[n] at e;cases e
 have nfr:∀b o,X.base.get? b=some o->b ∉ frs X.stack:=λb o e z=>by
  rcases Ak.mp (I.oE b z) with q | q
  ·have:=AX e
   rw[q] at this
   exact absurd (Ab this (BH I.ok.oC I.ok.above)) (CD _)
  ·exact I.ok.So e q
 have sub:∀b o,X.base.get? b=some o->(wide s.heap (dv D H) (frs X.stack)).get? b=some o:=λb o e=>
  qH (I.bs b o e).1 (by rw[fO (nD b (I.bs b o e).2)];exact(I.bs b o e).2) (nfr b o e)
 have cellK:∀x c v,X.env.cells.lookup x=some c->s.heap.IsCell c v->(wide s.heap (dv D H) (frs X.stack)).IsCell c v:=λx c v e ⟨o,ho,hd⟩=>by
  refine⟨o,qH ho (by rw[fO (nD c (I.fZ x c e))];exact I.fZ x c e) λz=>?_,hd⟩
  rcases Ak.mp (I.oE c z) with q | q
  ·exact I.uO x c e q
  ·obtain⟨_,o',ho',_⟩:=I.ok.hV.mem q
   exact absurd (Ab (AX ho') (I.ok.cab x c (hfn x) e)) (CD _)
 refine⟨sub,⟨I.ok.mod.uM.keeps sub,I.ok.mod.glob.keeps sub,?_,I.ok.mod.nolimit.keeps sub⟩,λa φ ha e=>?_,λi x v h1 h2 h3=>?_,λx c e=>?_,I.ok.inj⟩
 ·obtain⟨mb,h1,h2⟩:=I.ok.mod.blt
  exact⟨mb,h1.keeps sub,h2⟩
 ·obtain⟨p,⟨o,ho⟩,st⟩:=I.hok a _ e
  refine st _ _ p λo' e'=>qH e' (mK ha) λz=>?_
  rw[I.mC a z] at e;cases e
 ·obtain⟨m,_,hl⟩:=I.loc
  obtain⟨u,r,l⟩:=hl i x v h1 h2 (.inr (.inl h3))
  rcases l with⟨q,_⟩ | ⟨_,c,e,z⟩
  ·have q':X.env.scope.names.lookup x=some .local:=q
   rw[h3] at q';cases q'
  ·exact⟨c,u,e,cellK x c _ e z,r⟩
 ·obtain⟨v,z⟩:=I.cell x c e
  exact⟨v,cellK x c v e z⟩
theorem Rt{Q:VK}{us:List Value}{vs:List V}(I:Inv X pins σ H s)(hfn:∀x,X.fn x=true)(hD:∀a∈D,∃φ,H a=some (.ext φ))(F:aV X.prog X.w X.K X.mg (wide s.heap (dv D H) (frs X.stack)) bK k f fd ps sp)(hr:aQ k X.A)
  (hb:Binds X.K fd ps []) (r:Vals vs us) (h:sp vs (dv D H) (λv H2=>(∀b∈D,H2 b=none)->Q v (ig D H H2)) E0):wpAny (model X.prog X.w) X.A (call (.ref f) us) (EP X pins σ Q) X.xe s:=by
 have W:=zN I hfn hD
 have hl:(us++[]).length=ps.length:=by rw[BU,<-r.length];exact F.len _ _ _ _ h
 have rR:∀b u,H b=some u->(∀φ,u≠.ext φ)->dv D H b=some u:=λb u e ne=>by
  rw[fO λz=>?_];exact e
  obtain⟨φ,q⟩:=hD b z
  rw[e] at q;cases q;exact ne φ rfl
 have uU:∀b u,dv D H b=some u->b ∉ D/\H b=some u:=λb u e=>by
  by_cases hb:b∈D
  ·rw[mK hb] at e;cases e
  ·rw[fO hb] at e;exact⟨hb,e⟩
 have Zs:dq X.prog X.w (dv D H) s.heap:=λb u e=>(I.hok b u (uU b u e).2).stay (λ_ _ _ q=>q) (λd q=>rR d _ q λφ z=>nomatch z) λd xs q=>rR d _ q λφ z=>nomatch z
 have nU:∀b,H b=none->dv D H b=none:=λb n=>by
  by_cases hb:b∈D
  ·exact mK hb
  ·rw[fO hb];exact n
 have e0:qA X.prog X.w X.K X.mg (wide s.heap (dv D H) (frs X.stack)) X.A X.stack s (dv D H):=
  ⟨I.ok.frames,W.mod,λb o e=>Rq e,Hr (Ln _ _ _),funFrames_base I.stack λb hb=>Lo hb,λb hb=>nU b (I.mC b hb),Zs,I.bare⟩
 refine wpAny_call (EU (F.run X.A X.stack s (dv D H) ⟨us,[]⟩ us vs _ _ hr e0 (by have:=hb s us I.h_ hl;rwa [BU] at this) r h) λr s' hq=>?_)
 cases r with
 | error e=>exact hq.elim
 | ok fl=>
  cases fl with
  | next=>exact Bt hq
  | brk=>exact Bt hq
  | cont=>exact Bt hq
  | ret u=>
   obtain⟨v,H2,os,bare,un,hok,r,q⟩:=hq
   have inD:∀b,b∈D->∃φ o,H b=some (.ext φ)/\s.heap.get? b=some o/\s'.heap.get? b=some o/\H2 b=none:=λb hb=>by
    obtain⟨φ,e⟩:=hD b hb
    obtain⟨p,⟨o,ho⟩,st⟩:=I.hok b _ e
    refine⟨φ,o,e,ho,un.keep b o ho (mK hb) (λz=>?_) (by simp),un.free b o ho (mK hb) (by simp)⟩
    rw[I.mC b z] at e;cases e
   have Lp:∀b u,H2 b=some u->b ∉ D:=λb u e z=>by obtain⟨_,_,_,_,_,n⟩:=inD b z;rw[n] at e;cases e
   have Zt:dq X.prog X.w (ig D H H2) s'.heap:=λb u e=>by
    by_cases hb:b∈D
    ·rw[zM hb] at e
     obtain⟨φ,o,e1,ho,ho',_⟩:=inD b hb
     rw[e1] at e;cases e
     obtain⟨p,_,st⟩:=I.hok b _ e1
     exact⟨st _ _ p λo2 e2=>by rw[ho] at e2;cases e2;exact ho',⟨o,ho'⟩,st⟩
    ·rw[eE hb] at e
     exact(hok b u e).stay (λ_ _ _ q=>q) (λd q=>by rw[eE (Lp d _ q)];exact q) λd xs q=>by rw[eE (Lp d _ q)];exact q
   have unR:Un (frs X.stack) [] H (ig D H H2) s.heap s'.heap:=by
    have nD:∀b,H b=none->b ∉ D:=λb n z=>by obtain⟨φ,e⟩:=hD b z;rw[n] at e;cases e
    refine⟨λb o e n h1 h2=>un.keep b o e (nU b n) h1 h2,λb o e n h1 h2=>un.slot b o e (nU b n) h1 h2,λb o e n h2=>by rw[eE (nD b n)];exact un.free b o e (nU b n) h2,un.there,λb xs e=>?_,λb o u e=>?_,λb qs e=>?_⟩
    ·have e1:=rR b _ e λφ z=>nomatch z
     rw[eE (uU b _ e1).1];exact un.tups b xs e1
    ·have e1:=rR b _ e λφ z=>nomatch z
     rw[eE (uU b _ e1).1];exact un.kd b o u e1
    ·have e1:=rR b _ e λφ z=>nomatch z
     rw[eE (uU b _ e1).1];exact un.ke b qs e1
   exact I.after ⟨v,_,os,bare,unR,Zt,r,q λb hb=>by obtain⟨_,_,_,_,_,n⟩:=inD b hb;exact n⟩
end
section
variable{X:Cx}{x:Str}{p pos:Pos}{e:Expr}{es:List Expr}{t:TA}{k:Nat}{f:Addr}{fd:BC}{ps:List Str}
def TJ(X:Cx)(k:Nat)(f:Addr)(fd:BC)(ps:List Str)(t:TA):TE:=λσ H Q=>t σ H λvs H1=>∃D:List Addr,(∀a∈D,∃φ,H1 a=some (.ext φ))/\
 ∀base':Heap,Wide X σ D H1 base'->∃sp:Sp,aV X.prog X.w X.K X.mg base' bK k f fd ps sp/\sp vs (dv D H1) (λv H2=>(∀b∈D,H2 b=none)->Q v (ig D H1 H2)) E0
theorem xp(hfn:∀x,X.fn x=true)(hr:aQ k X.A)(hg:Gl X x)(hm:X.mg x=some (.ref f))(hk:AR X.K (.ref f)=true)(hb:Binds X.K fd ps [])
  (ha:PA X (e::es) t) (hdb:(x == ("__debug__":Str))=false:=by decide) (he:BL (e::es) X.env=(false,eval e X.env)::BL es X.env:=by rfl) (hpl:(Dr pos (BL es X.env)).any (·.1)=false:=by rfl):
  PE X (.Call (.Name x p) (e::es) [] pos) (TJ X k f fd ps t):=by
 intro pins s σ H Q I h
 refine CU (zl I hg hm ?_ hdb)
 refine HX (h₀:=X.base) I.ok.mod.uM hk (aM (ha pos pins s σ H _ I h) λus s1 ⟨vs,H1,I1,r,D,hD,q⟩=>⟨I1.h_,?_⟩) he hpl
 obtain⟨sp,F,hsp⟩:=q _ (zN I1 hfn hD)
 exact Rt I1 hfn hD F hr hb r hsp
end
def pS(ts:List Addr)(H:Hp):Prop:=(∀b,H b=none∨(∃o xs,H b=some (.dC o (.lst xs)))∨(b∈ts/\H b=some (.fw #[])))/\∀b∈ts,H b=some (.fw #[])
theorem pS.tab{ts:List Addr}{H:Hp}{T:Addr}{L:List (Pos×Str)}(x:pS ts H)(h:T∈ts):Tab H T L:=⟨#[],x.2 T h,trivial,λp _=>.inl rfl⟩
theorem Lq{P:Az}{w:World}{K:AE}{mg mb:Str->Option Value}{CX:oM}{k:Nat}{fa a:Addr}{fd:BC}{x:Str}{sp:Sp}{s₁:AN}{vs:List Value}{ns:List Int}{ts:List Addr}
  (KX:K.In s₁.heap) (hns:s₁.heap.Ns Ah mg) (hb:s₁.heap.Ns GX mb) (hbb:∀x:Str,x≠"__name__"->mb x=Bg x) (hlim:s₁.heap.NoLimit) (hg:s₁.gens= #[])
  (ha:s₁.heap.get? a=some {cls:=.type "list",data:=.seq vs.toArray}) (hi:CP vs ns) (hl:ns.length<=sizeLine) (hr:aQ k HH)
  (hts:∀T∈ts,(∃c,Dy s₁.heap c T)/\s₁.heap.get? T=some (B5 #[])/\K.lookup T=none) (xo:fj mg s₁.heap)
  (F:∀base:Heap,K.In base->base.Ns Ah mg->fj mg base->aV P w K mg base CX k fa fd [x] sp) (hbind:∀(s:AN) (u:Value),Hi s fd ⟨[u],[]⟩ [(x,u)])
  (hsp:∀H:Hp,pS ts H->bC K H a (ns.map V.int)->sp [.ref a] H (λv _=>v=.bl true) λ_ _ _=>False)
  (hCX:∀H e s',CX [] H s₁ (λ_ _ _=>False) e s'->False):
  Ft (model P w) HH (.call (.ref fa) ⟨[.ref a],[]⟩) (λr s'=>r=.ok (.ret (.bool true))/\OldK s₁.heap s'.heap/\s'.os=s₁.os/\Fq s'.gens) s₁:=by
 have rv:=kY hi
 have lenV:=hi.length
 have aT:a ∉ ts:=λz=>by
  have:=(hts a z).2.1
  rw[ha] at this;cases this
 have core:∀H:Hp,pS ts H->bC K H a (ns.map V.int)->dq P w H s₁.heap->(∀b,H b≠none->b=a∨b∈ts)->(H a≠none->K.lookup a=none)->
   Ft (model P w) HH (.call (.ref fa) ⟨[.ref a],[]⟩) (λr s'=>r=.ok (.ret (.bool true))/\OldK s₁.heap s'.heap/\s'.os=s₁.os/\Fq s'.gens) s₁:=by
  intro H hO hS hok hA hK
  have tW:∀{b:Addr} {o:Obj},s₁.heap.get? b=some o->H b=none->(kf s₁.heap H).get? b=some o:=λe n=>wF e n
  have kW:∀{b:Addr} {o:Obj},s₁.heap.get? b=some o->o≠{cls:=.type "list",data:=.seq vs.toArray}->o≠B5 #[]->H b=none:=λ{b o} e d1 d2=>by
   cases q:H b with
   | none=>rfl
   | some u=>
    rcases hA b (by rw[q];simp) with e' | e'
    ·subst e'
     rw[ha] at e;cases e
     exact absurd rfl d1
    ·have:=(hts b e').2.1
     rw[e] at this;cases this
     exact absurd rfl d2
  have P8:∀{b:Addr} {m:Str->Option Value},s₁.heap.Ns b m->(kf s₁.heap H).Ns b m:=λ{b m} ⟨o,es,ep,e,d,r⟩=>⟨o,es,ep,tW e (kW e (λz=>by rw[z] at d;cases d) λz=>by rw[z] at d;cases d),d,r⟩
  have Xz:K.In (kf s₁.heap H):=λb o e=>tW (KX b o e) (by
   cases q:H b with
   | none=>rfl
   | some u=>
    rcases hA b (by rw[q];simp) with e' | e'
    ·subst e'
     rw[hK (by rw[q];simp)] at e;cases e
    ·rw[(hts b e').2.2] at e;cases e)
  have hBb:fj mg (kf s₁.heap H):=by
   obtain⟨bm,o,h1,h2,h3,h4,h5,h6⟩:=xo
   exact⟨bm,o,h1,h2,tW h3 (kW h3 (λz=>by rw[z] at h4;exact absurd (Value.type.inj h4) (by decide)) λz=>by rw[z] at h4;cases h4),h4,h5,h6⟩
  have hM:Mod K mg (kf s₁.heap H):=⟨Xz,P8 hns,⟨mb,P8 hb,hbb⟩,let ⟨mc,h1,h2⟩:=hlim;⟨mc,P8 h1,h2⟩⟩
  have e0:qA P w K mg (kf s₁.heap H) HH [] s₁ H:=⟨rfl,hM,λb o e=>zi e,Hr (uL _ _),trivial,λb hb=>absurd (show b∈([]:List Addr) from hb) (by simp),hok,.of_eq hg⟩
  refine EU ((F _ Xz (P8 hns) hBb).run HH [] s₁ H ⟨[.ref a],[]⟩ [.ref a] [.ref a] _ _ hr e0 (hbind s₁ (.ref a)) (.cons rfl .nil) (hsp H hO hS)) λr s' h=>?_
  cases r with
  | error e=>exact(hCX H e s' h).elim
  | ok fl=>
   cases fl with
   | next=>exact Bt h
   | brk=>exact Bt h
   | cont=>exact Bt h
   | ret u=>
    obtain⟨v,H',os,bare,un,hok',r',q⟩:=h
    have q':v=.bl true:=q
    subst q'
    obtain rfl:u=DW true:=r'
    refine⟨rfl,⟨λb o e=>?_,λb o e=>un.there b o e (by simp)⟩,os,bare⟩
    cases q:H b with
    | none=>exact .inl (un.keep b o e q (by intro z;exact absurd (show b∈([]:List Addr) from z) (by simp)) (by simp))
    | some u=>
     rcases hO.1 b with z | ⟨ob,xs,z⟩ | ⟨hb,z⟩
     ·rw[q] at z;cases z
     ·have z2:=un.kd b ob _ z
      obtain⟨e1,_⟩:=hok b _ z
      obtain⟨e2,_⟩:=hok' b _ z2
      rw[e] at e1;cases e1
      exact .inl e2
     ·obtain⟨more,z2⟩:=un.ke b _ z
      have e2:s'.heap.get? b=some (B5 (#[]++more)):=hok' b _ z2
      obtain⟨⟨c,hc⟩,e3,_⟩:=hts b hb
      have e4:o=B5 #[]:=by rw[e] at e3;exact AZ e3
      subst e4
      exact .inr (.inl ⟨(hc.tab e3).isCodeTable,rfl, #[],more,rfl,e2⟩)
 have tne:∀T∈ts,T≠a:=λT hT z=>aT (z▸hT)
 cases hk:K.lookup a with
 | some o=>
  have e:=KX a o hk
  rw[ha] at e
  cases e
  refine core (λb=>if b∈ts then some (.fw #[]) else none) ⟨λb=>?_,λb hb=>if_pos hb⟩ (.inr ⟨_,vs.toArray,_,hk,rfl,rfl,rfl,by rw[Aj,lenV];exact hl,by simpa using rv⟩) (λb u z=>?_) (λb z=>?_) λz=>absurd (if_neg aT) z
  ·by_cases hb:b∈ts
   ·exact .inr (.inr ⟨hb,if_pos hb⟩)
   ·exact .inl (if_neg hb)
  ·by_cases hb:b∈ts
   ·have z':=(if_pos hb).symm.trans z
    cases z'
    exact(hts b hb).2.1
   ·have z':=(if_neg hb).symm.trans z
    cases z'
  ·by_cases hb:b∈ts
   ·exact .inr hb
   ·exact absurd (if_neg hb) z
 | none=>
  have eA:∀b,b=a->(if b∈ts then some (HO.fw #[]) else if b=a then some (HO.dC {cls:=.type "list",data:=.seq vs.toArray} (.lst (ns.map V.int))) else none)=some (HO.dC {cls:=.type "list",data:=.seq vs.toArray} (.lst (ns.map V.int))):=λb hb=>by
   rw[if_neg (hb▸aT),if_pos hb]
  have eN:∀b,b ∉ ts->b≠a->(if b∈ts then some (HO.fw #[]) else if b=a then some (HO.dC {cls:=.type "list",data:=.seq vs.toArray} (.lst (ns.map V.int))) else none)=none:=λb h1 h2=>by
   rw[if_neg h1,if_neg h2]
  refine core (λb=>if b∈ts then some (.fw #[]) else if b=a then some (.dC {cls:=.type "list",data:=.seq vs.toArray} (.lst (ns.map V.int))) else none) ⟨λb=>?_,λb hb=>if_pos hb⟩ (.inl (.inr ⟨{cls:=.type "list",data:=.seq vs.toArray},eA a rfl⟩)) (λb u z=>?_) (λb z=>?_) λ_=>hk
  ·by_cases hb:b∈ts
   ·exact .inr (.inr ⟨hb,if_pos hb⟩)
   by_cases hb2:b=a
   ·exact .inr (.inl ⟨_,_,eA b hb2⟩)
   ·exact .inl (eN b hb hb2)
  ·by_cases hb:b∈ts
   ·have z':=(if_pos hb).symm.trans z
    cases z'
    exact(hts b hb).2.1
   by_cases hb2:b=a
   ·have z':=(eA b hb2).symm.trans z
    cases z'
    subst hb2
    exact⟨ha,by rw[AA];exact hl,vs,_,rv,ha⟩
   ·have z':=(eN b hb hb2).symm.trans z
    cases z'
  ·by_cases hb:b∈ts
   ·exact .inr hb
   by_cases hb2:b=a
   ·exact .inl hb2
   ·exact absurd (eN b hb hb2) z
theorem N'{l:Gn}{n k:Nat}{q:Az}{loose:List Str}{XP:(Str->Option Value)->Heap->Prop}{YP:World->Heap->Prop}{d:DefRec}{K:Params->AE}{sp:World->List Addr->Sp}{x:Str}
  (hn:l.most=some n) (hn2:n<=sizeLine) (hdf:d.params.defaults=[]) (hr:aQ k HH)
  (hY:∀(w:World) (h:Heap),YP w h->(K w.params).In h)
  (F:∀(w:World) (mg:Str->Option Value) (fa:Addr) (h:Heap),(K w.params).In h->h.Ns Ah mg->mg d.name=some (.ref fa)->YP w h->
   ∃(fd:BC) (ts:List Addr),(∀T∈ts,(∃c,Dy h c T)/\h.get? T=some (B5 #[])/\(K w.params).lookup T=none)/\(∀(s:AN) (u:Value),Hi s fd ⟨[u],[]⟩ [(x,u)])/\
    ∀base:Heap,(K w.params).In base->base.Ns Ah mg->fj mg base->aV l.prog w (K w.params) mg base bK k fa fd [x] (sp w ts))
  (hsp:∀(w:World) (H:Hp) (a:Addr) (ns:List Int) (ts:List Addr),ns.length<=n->pS ts H->bC (K w.params) H a (ns.map V.int)->sp w ts [.ref a] H (λv _=>v=.bl true) λ_ _ _=>False):
  PySem.W.WalkO q loose XP YP l.row.toRowW d [] (λf vs=>II f vs):=by
 refine Xu.yK hn hdf λw s₀ s₁ mg mb fa o pm cd doc a vs ns G Y ho hd hcd hmg hobj hints hlen hg=>?_
 have KX:=hY w _ Y
 obtain⟨fd,ts,h1,hb,hF⟩:=F w mg fa _ KX G.T.g hmg Y
 obtain⟨bm,ob,b1,b2,b3,b4⟩:=G.T.bmain
 exact Lq KX G.T.g G.T.b G.T.builtins G.T.nolimit hg hobj hints (BH hlen hn2) hr h1 ⟨bm,ob,b1,b2,b3,b4⟩ hF hb (λH hO hS=>hsp w H a ns ts hlen hO hS) λH e s'=>id
section
variable{P:Az}{w:World}{A:BQ}{E:Value->AN->Prop}{s:AN}{K:Type}[DecidableEq K]{knd:KeyKind P w K}
theorem qI{d:Addr}{kvs:List (K×Value)}{k:K}{key dflt:Value}{Q:Value->AN->Prop}(hkey:knd.is k key=true)(hm:s.heap.DictOf knd d kvs)(hsz:kvs.length<=sizeLine)
  (hthere:∀v,D2 kvs k=some v->Q v {s with toks:=s.toks+1})
  (hnew:D2 kvs k=none->∀h',h'.DictOf knd d (H_ kvs k dflt)->B8 d s.heap h'->Q dflt {s with heap:=h',toks:=s.toks+1}):
  wpAny (model P w) A (HB d key dflt) Q E s:=by
 obtain⟨f,hf⟩:∃f,f=D2 kvs:=⟨_,rfl⟩
 have hmap:=hm.mapOf
 obtain⟨o,es,ep,ho,hc,hd,hk,hp,hn⟩:=hm
 have hes:es.size<=sizeLine:=by
  have e1:=hp.length
  have e2:es.toList.length=es.size:=by simp
  omega
 have hidx:(es.findIdx? λe=>knd.is k e.key)=kvs.findIdx? λkv=>decide (kv.1=k):=by
  rw[<-hp.findIdx k];obtain⟨l⟩:=es;simp
 have hfind:=hp.find k
 unfold HB
 try with_reducible refine Bj ?_
 refine AB (knd.pyHash hkey ?_)
 refine AB (wpAny_dictFind_of (s:={s with toks:=s.toks+1}) hkey ho hd hk ?_)
 cases hi:es.findIdx? λe=>knd.is k e.key with
 | some i=>
  have hfk:D2 kvs k=(es[i]?).map (·.val):=by
   obtain⟨o',es',ep',ho',hc',hd',hk',hf'⟩:=hmap
   rw[ho] at ho';cases ho'
   rw[hd] at hd';cases hd'
   rw[<-hf' k,findBy_of_findIdx?,hi]
  refine AB (wpAny_dictEntries (s:={s with toks:=s.toks+1}) ho hd ?_)
  cases he:es[i]? with
  | none=>
   exfalso
   have:=Array.findIdx?_eq_some_iff_findIdx_eq.mp hi
   have hlt:i<es.size:=this.1
   rw[BB hlt] at he
   exact nomatch he
  | some e=>
   rw[he] at hfk
   exact AB (Dd (AK (hthere e.val hfk)))
 | none=>
  have hfk:D2 kvs k=none:=by
   obtain⟨o',es',ep',ho',hc',hd',hk',hf'⟩:=hmap
   rw[ho] at ho';cases ho'
   rw[hd] at hd';cases hd'
   rw[<-hf' k,findBy_of_findIdx?,hi]
  have hnot:k ∉ kvs.map (·.1):=not_mem_of_findIdx_none (hidx▸hi)
  have hany:¬(kvs.any λkv=>decide (kv.1=k))=true:=by
   rw[B_];rintro⟨kv,hkv,he⟩
   exact hnot (Ac.mpr ⟨kv,hkv,of_decide_eq_true he⟩)
  refine AB (Dd (AB (wpAny_updateDictKeys (hz:=hes) (s:={s with toks:=s.toks+1}) ho hd (AK (hnew hfk _ ⟨_,_,ep+1,CC _ ho (Obj.isFreed_of_dict (HC hd _)),
   hc.mapDictKeys _,HC hd _,hk.push hkey _,?_,?_⟩ (DL ..))))))
  ·rw[H_,if_neg hany]
   have:=hp.append hkey (knd.hash k) dflt
   obtain⟨l⟩:=es
   simpa using this
  ·rw[H_,if_neg hany,AF,BR]
   refine⟨hn,by simp,?_⟩
   intro a ha b hb
   simp only[A0,CH,AI] at hb
   subst hb
   exact λe=>hnot (e▸ha)
theorem qJ(knd:KeyKind P w K){d:Addr}{k:K}{key dflt:Value}(hkey:knd.is k key=true)(hd:(d == CL)=false):
  MeetsIn P w (Cz.«dict.setdefault» ⟨[.ref d,key,dflt],[]⟩) (λ_ R s=>∃kvs,s.heap.DictOf knd d kvs/\kvs.length<=sizeLine/\
   (∀v,D2 kvs k=some v->R (.ok (.ret v)) {s with toks:=s.toks+1})/\
   (D2 kvs k=none->∀h',h'.DictOf knd d (H_ kvs k dflt)->B8 d s.heap h'->R (.ok (.ret dflt)) {s with heap:=h',toks:=s.toks+1})):=
 .of_wp λA R s ⟨kvs,hm,hz,h1,h2⟩=>by
  unfold Cz.«dict.setdefault»
  refine AB ?_
  unfold Builtin.Dict.keyAndDefault
  refine AB (wpAny_notOrdered_dict hm.typeIs ?_)
  show wpAny _ _ (pure (d,key,some dflt)) _ _ s
  refine AK ?_
  show wpAny _ _ (if(d == CL)=true then _ else(HB d key dflt >>= _)) _ _ s
  rw[if_neg (by rw[hd];exact An)]
  exact AB (qI hkey hm hz (λv hv=>AK ⟨v,rfl,h1 v hv⟩) λhn h' hm' hs'=>AK ⟨dflt,rfl,h2 hn h' hm' hs'⟩)
end
section
variable{X:Cx}{o e f:Expr}{apos cpos:Pos}{td ty tx:TE}
def TK(td ty tx:TE):TE:=λσ H Q=>td σ H λx H1=>∃a,x=.ref a/\Xv H1 a/\ty σ H1 λy H2=>tx σ H2 λz H3=>∃kvs k,H3 a=some (.dK kvs)/\y=kV k/\kvs.length<sizeLine/\
 (∀v,cw kvs k=some v->Q v H3)/\(cw kvs k=none->Q z (upd H3 a (.dK (putK kvs k z))))
theorem Oa(ho:PE X o td)(he:PE X e ty)(hf:PE X f tx)(m:M2 X o "setdefault" apos e f cpos):PE X (.Call (.Attribute o "setdefault" apos) [e,f] [] cpos) (TK td ty tx):=by
 intro pins s σ H Q I h
 refine wpAny_Call_method m.base m.few m.line PySem.F.plainAttrs_dict E9 PySem.F.type_dict_setdefault (aM (ho pins s σ H _ I h) λu s1 ⟨x,H1,I1,rx,a,ex,d,q1⟩=>?_)
 subst ex
 obtain rfl:u=Bq a:=rx
 obtain⟨t1,t2,_⟩:=SX I1 d
 refine⟨t1,t2,?_⟩
 rw[m.trees]
 refine DY rfl (Dv (FQ (aM (he pins s1 σ H1 _ I1 q1) λiv s2 ⟨y,H2,I2,ry,q2⟩=>
  FQ (aM (hf pins s2 σ H2 _ I2 q2) λfv s3 ⟨z,H3,I3,rz,kvs,k,ek,ey,hl,q3,q4⟩=>Calls.spliced_nil ?_))))
 subst ey
 obtain⟨hz,hd,vs,rel,dd⟩:=pQ I3.hok (.inl ek)
 have lv:vs.length<=sizeLine:=by rw[<-rel.length];exact hz
 refine call_meetsIn E9 dd.typeIs PySem.F.entry_dict_setdefault (PySem.F.args_dict_setdefault_3 _ _ _) (qJ (b_ X.prog X.w) (pP ry) hd) ⟨vs,dd,lv,λv hv=>?_,λhv h' oj hs=>?_⟩
 ·have rr:=rel.val k
  rw[hv] at rr
  cases hq:cw kvs k with
  | none=>rw[hq] at rr;exact rr.elim
  | some x=>rw[hq] at rr;exact⟨x,H3,I3.tok _,rr,q3 x hq⟩
 ·have rr:=rel.val k
  rw[hv] at rr
  cases hq:cw kvs k with
  | some x=>rw[hq] at rr;exact rr.elim
  | none=>
   have hl2:(putK kvs k z).length<=sizeLine:=by have:=iW kvs k z;omega
   have he':∃q,h'.get? a=some q:=let ⟨q,_,_,hq,_⟩:=oj;⟨q,hq⟩
   exact⟨z,_,mG I3 (by rw[ek];exact Cd) hs he' (wX hl2 hd (rel.put k rz) oj),rz,q4 hq⟩
def TL(tk tv:TE):TE:=λσ H Q=>∀p,H p=none->tk σ (upd H p (.dT [])) λx H1=>tv σ H1 λy H2=>H2 p=some (.dT [])/\∃b ks,x=.ref b/\H2 b=some (.tup (ks.map kV))/\Q (.ref p) (upd H2 p (.dT [(ks,y)]))
theorem Ob{pos:Pos}{k v:Expr}{tk tv:TE}(hu:X.A.units<cLine)(hk:PE X k tk)(hv:PE X v tv):PE X (.Dict [some k] [v] pos) (TL tk tv):=by
 intro pins s σ H Q I q
 have hn:=I.hok.fresh (AM s.heap.objs.size)
 have I1:=I.laid (a:=s.heap.objs.size) (o:=.dT []) (h':=s.heap.push {cls:=.type "dict",data:=.dict #[]}) (t':=s.toks) (λ_ _ q=>AG _ q) (AM _) (NV s.heap I.big)
 have hall:([some k]:List (Option Expr)).all (·.isSome)=true:=rfl
 have hl:([some k]:List (Option Expr)).length=[v].length:=rfl
 rw[arm_eval_Dict,zip_pairTrees [some k] [v] X.env pos hall hl,dictDisplay_pairs _ (λz=>by
  have:=pairTrees_length [some k] [v] X.env pos hall hl
  rw[z] at this;cases this) (by rw[pairTrees_length [some k] [v] X.env pos hall hl];show 1<17;decide)]
 refine AB (F' (AB ?_))
 unfold subDict
 refine AB (wpAny_alloc ?_)
 refine AB (Bj ?_)
 rw[if_pos (by rw[pairTrees_length [some k] [v] X.env pos hall hl];show 1<=15;decide)]
 have hp:K_ X pos [some k] [v] [(tk,tv)]:=kr hk hv tK
 refine AB (aM (hp pins _ σ _ (λps H2=>match ps with | [(x,y)]=>H2 s.heap.objs.size=some (.dT [])/\∃b ks,x=.ref b/\H2 b=some (.tup (ks.map kV))/\Q (.ref s.heap.objs.size) (upd H2 s.heap.objs.size (.dT [(ks,y)])) | _=>False) I1 (q _ hn)) λws s2 ⟨ps,H2,I2,rel,q2⟩=>?_)
 cases rel with
 | nil=>exact Bt q2
 | @cons p0 w0 ps' ws' r0 rt=>
  cases rt with
  | cons r1 rt1=>exact Bt q2
  | nil=>
   obtain⟨e,b,ks,eb,hb,q3⟩:=q2
   obtain⟨x0,y0⟩:=p0
   obtain⟨kv,vv⟩:=w0
   cases eb
   cases(show kv=Bq b from r0.1)
   obtain⟨z,hd,xs,rx,dd⟩:=PZ I2.hok e
   cases rx
   refine Bj (AB ?_)
   rw[C7]
   refine AB (AB (wpAny_dictSet_heap (knd:=FL (b_ X.prog X.w)) (k:=ks) (xs:=[]) (show(FL (b_ X.prog X.w)).room X.A from hu) (oO I2.hok hb) dd (λh' oj hs=>AK ?_) (BI _)))
   dsimp only
   rw[Ea]
   refine AK (AK (AK (AK ?_)))
   obtain⟨q',es,ep,hq,h2,h3,h4,_,h5⟩:=oj
   have new:bE X.prog X.w (upd H2 s.heap.objs.size (.dT [(ks,y0)])) h' s.heap.objs.size (.dT [(ks,y0)]):=by
    refine⟨by show 1<=sizeLine;decide,hd,_,(KT.put (.nil:KT H2 [] []) ks hb r0.2).keeps λc ys ec=>?_,q',es,ep,hq,h2,h3,h4,h5⟩
    rw[ao (gE ec e (λz=>nomatch z))]
    exact ec
   exact⟨.ref s.heap.objs.size,_,mG I2 (by rw[e];exact Cd) hs ⟨q',hq⟩ new,rfl,q3⟩
end
theorem Jl{K:AE}{a:Addr}{xs:List V}{g:TG}{tt:TT}{te:TE}{D:Addr}{σ:St}{H:Hp}{R:Hp->Prop}(Pv:Nat->St->Hp->Prop)(h0:Pv 0 σ H)(hl:∀i σ H,i<=xs.length->Pv i σ H->bN K H a xs)
  (hs:∀i x p σ H,xs[i]? =some x->Pv i σ H->H p=none->g (.ref p) σ (upd H p (.tup [.int i,x])) λσ2 H2=>tt σ2 H2 λb H3=>if b=true then te σ2 H3 λy H4=>∃ys,H4 D=some (.lst ys)/\ys.length<sizeLine/\Pv (i+1) σ2 (upd H4 D (.lst (ys++[y]))) else Pv (i+1) σ2 H3)
  (hd:∀σ H,Pv xs.length σ H->R H):iX (tR K a) g tt te D σ H R:=by
 refine⟨λi m σ H=>m=xs.length-i/\i<=xs.length/\Pv i σ H,⟨xs.length,by simp,BI _,h0⟩,?_⟩
 rintro i m σ H ⟨rfl,hi,p⟩
 have q:=hl i σ H hi p
 by_cases hlt:i<xs.length
 ·refine .inr ⟨⟨xs,xs[i],q,by simp[hlt]⟩,Pv (i+1),λσ' H' p'=>⟨xs.length-(i+1),by omega,rfl,hlt,p'⟩,λx H' y=>?_⟩
  obtain⟨z,pa,hz,hn,rfl,rfl⟩:=y
  exact hs i z pa σ H (hz xs q) p hn
 ·have e:i=xs.length:=by omega
  subst e
  exact .inl ⟨⟨xs,q,AM _⟩,hd σ H p⟩
theorem TN{c:TT}{tb:TS}{D:Ends}{σ:St}{H:Hp}(W:Nat->St->Hp->Prop)(h0:∃m,W m σ H)
  (hs:∀m σ H,W m σ H->c σ H λb H1=>if b=true then tb {D with nx:=λσ' H'=>∃m',m'<m/\W m' σ' H',ct:=λσ' H'=>∃m',m'<m/\W m' σ' H',bk:=D.nx} σ H1 else D.nx σ H1)
  (mono:∀σ H Q Q',(∀b H1,Q b H1->Q' b H1)->c σ H Q->c σ H Q'):oI c tb D σ H:=by
 refine⟨W,h0,λm σ H w=>mono σ H _ _ (λb H1 q=>?_) (hs m σ H w)⟩
 cases b with
 | true=>exact⟨_,λσ' H' p=>p,q⟩
 | false=>exact q
structure mf (K:AE)(x qual:Str)(st:Stmt)(f:Addr)(fd:BC)(cd:Value):Prop where
 ex:∃(oc:Value) (od:Option Addr) (dV kV doc pm:Value) (an:Option Addr) (ct:Value) (osl:Array (Option Value)),
  fd=Al x qual (aL st) (aK st) (aj st) dV kV doc pm an cd ct/\K.lookup f=some ⟨oc,od,.func fd,osl⟩/\Ax K cd qual=true
 kp:AR K (.ref f)=true
section
variable{P:Az}{w:World}{K:AE}{mg:Str->Option Value}{base:Heap}
theorem mf.ok{x qual:Str}{st:Stmt}{f:Addr}{fd:BC}{cd:Value}{N ps:List Str}{k:Nat}{sp:Sp}(F:mf K x qual st f fd cd)(S:aU N ps (aj st))(len:∀vs H Q E,sp vs H Q E->vs.length=ps.length)
  (hbody:∀(A:BQ) (outer:List Env) (s:AN) (H:Hp) (vs:List V) (Q:VK) (E:XK),aQ k (A.deeper (E7 qual (aj st) s.heap.objs.size f cd))->sp vs H Q E->
   ∃t,jE (kj bK P w K mg base N qual (aj st) f cd A outer s H E).qc (aK st) t/\t {nx:=λ_ H'=>Q .non H',rt:=Q} (start N vs) H):aV P w K mg base bK (k+1) f fd ps sp:=by
 obtain⟨oc,od,dV,kV,doc,pm,an,ct,osl,rfl,lk,hcd⟩:=F.ex
 refine PV lk hcd S len λA outer s H vs Q E hr hsp=>?_
 obtain⟨t,h,q⟩:=hbody A outer s H vs Q E hr hsp
 exact⟨t,h.qc,q⟩
theorem mL{x qual:Str}{st:Stmt}{f:Addr}{oc:Value}{od an:Option Addr}{osl:Array (Option Value)}{dV kV doc pm cd ct:Value}(l:K.lookup f=some ⟨oc,od,.func (Al x qual (aL st) (aK st) (aj st) dV kV doc pm an cd ct),osl⟩)
  (c:Ax K cd qual=true) (k:AR K (.ref f)=true):mf K x qual st f (Al x qual (aL st) (aK st) (aj st) dV kV doc pm an cd ct) cd:=⟨⟨oc,od,dV,kV,doc,pm,an,ct,osl,rfl,l,c⟩,k⟩
end
section
variable{X:Cx}{pos:Pos}{params:Cs}{body:Expr}{scope:Scope}{c T:Addr}{clos:List (Str×Addr)}{L:List (Pos×Str)}
theorem zO(hcode:X.env.code=.ref c)(hC:DV X.K c T=true)(hB:fj X.mg X.base)(hcl:FY scope X.env=pure clos)(hdef:defaultsOf params X.env=([],[]))(hL:(pos,X.env.qual++"<lambda>")∈L)(ap:Apart L)(hfs:X.ex=[]):
  PE X (.Lambda params body scope pos) (Tx X params body scope clos T L):=λpins s σ H Q I h=>Tz hcode (D_ I.ok.mod.uM hC) hB hcl hdef hL ap hfs pins s σ H Q I h
theorem vj{K:AE}{c T:Addr}{od:Option Addr}{vs:Array Value}{sl:Array (Option Value)}(lc:K.lookup c=some ⟨.type "code",od,.fields vs,sl⟩)
  (e:((match (vs[11]? :Option Value) with | some (.ref P')=>P' == T | _=>false)&&(match vs.getD 18 .none with | .str _ _=>true | _=>false)&&(match vs.getD 7 .none with | .int _ _=>true | _=>false)&&
   (match vs.getD 9 .none with | .bool _=>true | _=>false)&&(match vs.getD 10 .none with | .int _ _=>true | _=>false)&&c != T)=true):DV K c T=true:=by
 unfold DV
 rw[lc]
 exact e
end
def kvsOf{α κ:Type}(key:α->κ)(xs:List α):List (κ×V):=xs.zipIdx.map λp=>(key p.1,V.int ((p.2:Nat):Int))
section
variable{α κ:Type}[DecidableEq κ]{key:α->κ}
theorem Lr(xs:List α):(kvsOf key xs).length=xs.length:=by unfold kvsOf;rw[AA,List.length_zipIdx]
theorem rS(xs:List α)(x:α):kvsOf key (xs++[x])=kvsOf key xs++[(key x,V.int ((xs.length:Nat):Int))]:=by
 unfold kvsOf
 rw[List.zipIdx_append,AF]
 simp
theorem oZ:∀{kvs:List (κ×V)} {k:κ},(∀p∈kvs,p.1≠k)->cw kvs k=none
 | [],_,_=>rfl
 | p::r,k,h=>by rw[cJ (h p Aa)];exact oZ λq hq=>h q (AV _ hq)
theorem nu(inj:∀a b,key a=key b->a=b){xs:List α}{x:α}(h:x ∉ xs):cw (kvsOf key xs) (key x)=none:=by
 refine oZ λp hp e=>h ?_
 unfold kvsOf at hp
 obtain⟨q,hq,rfl⟩:=Ac.mp hp
 obtain⟨y,i⟩:=q
 have:=(List.mem_zipIdx hq).2.2
 have e':=inj _ _ e
 rw[<-e',this]
 exact D4 ..
theorem qK{kvs more:List (κ×V)}{k:κ}(h:cw kvs k=none):cw (kvs++more) k=cw more k:=by
 induction kvs with
 | nil=>rfl
 | cons p r ih=>
  by_cases e:p.1=k
  ·rw[dP e] at h;cases h
  ·rw[cJ e] at h
   show cw (p::(r++more)) k=_
   rw[cJ e];exact ih h
theorem qL{kvs more:List (κ×V)}{k:κ}{v:V}(h:cw kvs k=some v):cw (kvs++more) k=some v:=by
 induction kvs with
 | nil=>cases h
 | cons p r ih=>
  by_cases e:p.1=k
  ·rw[dP e] at h
   show cw (p::(r++more)) k=_
   rw[dP e];exact h
  ·rw[cJ e] at h
   show cw (p::(r++more)) k=_
   rw[cJ e];exact ih h
theorem rV(inj:∀a b,key a=key b->a=b):∀(n:Nat) {xs:List α} {i:Nat} {x:α},xs.length=n->xs.Nodup->xs[i]? =some x->cw (kvsOf key xs) (key x)=some (.int ((i:Nat):Int))
 | 0,xs,i,x,hl,_,h=>by
  have:=(AD.mp h).1
  omega
 | n+1,xs,i,x,hl,nd,h=>by
  rcases Ei xs with rfl | ⟨ys,y,e⟩
  ·simp at hl
  rw[Ej] at e
  subst e
  rw[rS]
  have hy:y ∉ ys:=λz=>((BR.mp nd).2.2 y z y (AI.mpr rfl)) rfl
  by_cases hi:i<ys.length
  ·rw[Am hi] at h
   exact qL (rV inj n (by simpa using hl) (BR.mp nd).1 h)
  ·have hb:=(AD.mp h).1
   rw[AH] at hb
   have hi2:i=ys.length:=by simp at hb;omega
   subst hi2
   rw[Ae (AM _),B4] at h
   have:=AZ h
   subst this
   rw[qK (nu inj hy)]
   exact dP rfl
end
structure gb (α:Type) where
 Rep:α->V->Hp->Prop
 Num:Hp->Addr->List α->Prop
 same:∀{x:α} {v:V} {H H':Hp},Rep x v H->bF H H'->Rep x v H'
 keep:∀{H H':Hp} {D:Addr} {xs:List α},Num H D xs->H' D=H D->Num H' D xs
 isD:∀{H:Hp} {D:Addr} {xs:List α},Num H D xs->∃o,H D=some o/\(∀l,o≠.lst l)/\(∀l,o≠.tup l)
 there:∀{H:Hp} {D:Addr} {xs:List α} {i:Nat} {x:α} {v:V},Num H D xs->Rep x v H->xs.Nodup->xs[i]? =some x->oP H D v (some (.int ((i:Nat):Int)))
 miss:∀{H:Hp} {D:Addr} {xs:List α} {x:α} {v:V},Num H D xs->Rep x v H->x ∉ xs->oP H D v none
 put:∀{H:Hp} {D:Addr} {xs:List α} {x:α} {v:V},Num H D xs->Rep x v H->x ∉ xs->xs.length<sizeLine->∃H',ju H D v (.int ((xs.length:Nat):Int)) H'/\KB D H H'/\Num H' D (xs++[x])
 Oc:∀{X:Cx} {pos kpos cpos:Pos} {x:Str} {i j:Nat},X.A.units+1<cLine->PE X (.Name x kpos) (NH i)->PE X (.Constant (.int 0) j cpos) (tC (.int 0))->PE X (.Dict [some (.Name x kpos)] [.Constant (.int 0) j cpos] pos)
  (λσ H Q=>∃y v,σ[i]? =some (some v)/\Rep y v H/\∀D H',H D=none->Same H H'->Num H' D [y]->Q (.ref D) H')
theorem Ru(a b:Nat)(h:(Bu (a:Int):Key)=Bu (b:Int)):a=b:=by injection h with h;omega
def mh(l:List Nat):List Key:=l.map λ(x:Nat)=>(Bu (x:Int):Key)
theorem qM(a b:List Nat)(h:mh a=mh b):a=b:=by
 unfold mh at h
 induction a generalizing b with
 | nil=>cases b with
  | nil=>rfl
  | cons y b=>cases h
 | cons x a ih=>cases b with
  | nil=>cases h
  | cons y b=>
   rw[A0,A0] at h
   injection h with h1 h2
   rw[Ru _ _ h1,ih b h2]
theorem pT(l:List Nat):(mh l).map kV=(l.map λ(x:Nat)=>V.int (x:Int)):=by unfold mh;rw[Dc];rfl
def qN:gb (List Nat) where
 Rep:=λx v H=>∃p,v=.ref p/\H p=some (.tup (x.map λ(z:Nat)=>V.int (z:Int)))
 Num:=λH D xs=>H D=some (.dT (kvsOf mh xs))
 same:=λ{x v H H'} ⟨p,e,h⟩ k=>⟨p,e,k _ _ h⟩
 keep:=λh e=>e.trans h
 isD:=λh=>⟨_,h,(λl z=>by cases z),(λl z=>by cases z)⟩
 there:=λ{H D xs i x v} h ⟨p,r,hp⟩ nd e=>by
  subst r
  exact .inr ⟨_,mh x,p,.inl h,rfl,by rw[pT];exact hp,(rV qM _ rfl nd e).symm⟩
 miss:=λ{H D xs x v} h ⟨p,r,hp⟩ n=>by
  subst r
  exact .inr ⟨_,mh x,p,.inl h,rfl,by rw[pT];exact hp,(nu qM n).symm⟩
 put:=λ{H D xs x v} h ⟨p,r,hp⟩ n hl=>by
  subst r
  refine⟨_,ju.t (k:=mh x) h (by rw[pT];exact hp) (by rw[Lr];exact hl),KB.write,?_⟩
  rw[af,kq _ (nu qM n),rS]
 Oc:=λ{X pos kpos cpos x i j} hu h1 h2 pins s σ H Q I q=>by
  obtain⟨y,v,hv,⟨p,rfl,hp⟩,q⟩:=q
  refine Ob (Nat.lt_of_succ_lt hu) h1 h2 pins s σ H Q I λD hD=>⟨_,hv,?_⟩
  have sD:=Same.new (o:=.dT []) hD
  refine⟨af,p,mh y,rfl,by rw[pT];exact sD _ _ hp,q D _ hD (sD.kbn hD KB.write) ?_⟩
  rw[af];rfl
theorem gQ.mk'{ps aI:List Str}{scope:Scope}(h1:scope.kind=.function)(h2:scope.isCoroutine=false)(h3:scope.isGenerator=false)(h4:∀x∈scope.names,x.2≠.cell)(h5:∀x∈ps,scope.names.lookup x=some .local)(h6:∀x∈aI,scope.names.lookup x=some .free)
  (h7:∀p∈scope.names,p.2=.free->p.1∈aI) (h8:(ps++aI).Nodup):gQ ps aI scope:=⟨h1,h2,h3,h4,h5,h6,λx e=>h7 (x,.free) (BS e) rfl,h8⟩
def FnAt(P:Az)(w:World)(K:AE)(mg:Str->Option Value)(base:Heap)(k:Nat)(f:Addr)(n:Nat)(sp:Sp):Prop:=
 ∃(o:Obj) (fd:BC) (ps:List Str),base.get? f=some o/\o.data=.func fd/\ps.length=n/\(∀us:List Value,us.length=ps.length->G5 fd ⟨us,[]⟩=pure (ps.zip us))/\aV P w K mg base bK k f fd ps sp
theorem o_{D:List Addr}{H1 H2:Hp}(s:Same (dv D H1) H2):Same H1 (ig D H1 H2):=λb o e=>by
 by_cases hb:b∈D
 ·rw[zM hb];exact e
 ·rw[eE hb];exact s _ _ (by rw[fO hb];exact e)
theorem iI{D:List Addr}{H:Hp}{b:Addr}{o:HO}(hD:∀a∈D,∃φ,H a=some (.ext φ))(e:H b=some o)(hn:∀φ,o≠.ext φ):dv D H b=some o:=by
 rw[fO λz=>?_]
 ·exact e
 ·obtain⟨φ,q⟩:=hD b z
  rw[e] at q
  exact hn φ (AZ q)
def rW(c:Addr)(v:V):HO:=.ext λh=>∃u,h.IsCell c (some u)/\RelV v u
theorem Od{P:Az}{w:World}{H:Hp}{h:Heap}{c:Addr}{v:V}{u:Value}(e:h.IsCell c (some u))(r:RelV v u):bE P w H h c (rW c v):=
 ⟨⟨u,e,r⟩,(let ⟨o,ho,_⟩:=e;⟨o,ho⟩),λh1 h2 ⟨u,⟨o,ho,hd⟩,r⟩ k=>⟨u,⟨o,k o ho,hd⟩,r⟩⟩
def kC(cs:List (Addr×V))(H:Hp):Hp:=λb=>match cs.lookup b with
 | some v=>some (rW b v)
 | none=>H b
theorem zP{cs:List (Addr×V)}{H:Hp}{b:Addr}{v:V}(h:cs.lookup b=some v):kC cs H b=some (rW b v):=by unfold kC;rw[h]
theorem qO{cs:List (Addr×V)}{H:Hp}{b:Addr}(h:cs.lookup b=none):kC cs H b=H b:=by unfold kC;rw[h]
theorem o3{cs:List (Addr×V)}{H:Hp}(h:∀c v,cs.lookup c=some v->H c=none):Same H (kC cs H):=λb o e=>by
 cases q:cs.lookup b with
 | none=>rw[qO q];exact e
 | some v=>rw[h b v q] at e;cases e
def g0(X:Cx)(σ:St)(cs:List (Addr×V)):Prop:=∀c v,cs.lookup c=some v->∃(i:Nat) (x:Str),X.N[i]? =some x/\σ[i]? =some (some v)/\X.env.scope.names.lookup x=some .cell/\X.env.cells.lookup x=some c
section
variable{X:Cx}{pins:List (Addr×Obj)}{σ:St}{H:Hp}{s:AN}{cs:List (Addr×V)}
theorem g0.free(C:g0 X σ cs)(I:Inv X pins σ H s):∀c v,cs.lookup c=some v->H c=none:=λc v e=>by
 obtain⟨i,x,_,_,_,h⟩:=C c v e
 exact I.fZ x c h
theorem g0.hok(C:g0 X σ cs)(I:Inv X pins σ H s):dq X.prog X.w (kC cs H) s.heap:=λb u e=>by
 have sm:=o3 (C.free I)
 cases q:cs.lookup b with
 | some v=>
  rw[zP q] at e
  cases e
  obtain⟨i,x,h1,h2,h3,h4⟩:=C b v q
  obtain⟨m,_,hl⟩:=I.loc
  obtain⟨u,r,l⟩:=hl i x v h1 h2 (.inr (.inl h3))
  rcases l with⟨z,_⟩ | ⟨_,c,e,z⟩
  ·have z':X.env.scope.names.lookup x=some .local:=z
   rw[h3] at z';cases z'
  ·rw[h4] at e;cases e
   exact Od z r
 | none=>
  rw[qO q] at e
  exact(I.hok b u e).stay (λ_ _ _ z=>z) (λd z=>sm _ _ z) λd xs z=>sm _ _ z
theorem g0.un(C:g0 X σ cs)(I:Inv X pins σ H s)(hfn:∀x,X.fn x=true)(hex:X.ex=[]):Un X.fs [] X.H₀ (kC cs H) X.s₀.heap s.heap:=by
 have B:=I.base
 rw[hex] at B
 have sm:=o3 (C.free I)
 refine⟨B.keep,B.slot,λb o e n hx=>?_,B.there,λb xs e=>sm _ _ (B.tups b xs e),λb o xs e=>sm _ _ (B.kd b o xs e),λb ps e=>?_⟩
 ·cases q:cs.lookup b with
  | none=>rw[qO q];exact B.free b o e n hx
  | some v=>
   obtain⟨i,x,_,_,_,h4⟩:=C b v q
   exact absurd (Ab (AX e) (I.ok.cab x b (hfn x) h4)) (CD _)
 ·obtain⟨m,z⟩:=B.ke b ps e
  exact⟨m,sm _ _ z⟩
end
abbrev TB:=(St->V->Hp->Prop)->St->Hp->Prop
def SPR(X:Cx)(pins:List (Addr×Obj))(R:St->V->Hp->Prop)(f:Flow)(s':AN):Prop:=
 match f with
 | .ret u=>∃v σ' H',Inv X pins σ' H' s'/\RelV v u/\R σ' v H'
 | _=>False
def ny(X:Cx)(st:List Stmt)(t:TB):Prop:=
 ∀(pins:List (Addr×Obj)) (s:AN) (σ:St) (H:Hp) (R:St->V->Hp->Prop),Inv X pins σ H s->t R σ H->wpAny (model X.prog X.w) X.A (execs st X.env) (SPR X pins R) X.xe s
section
variable{X:Cx}{st:Stmt}{rest:List Stmt}{t:TS}{u:TB}{e:Expr}{te:TE}{pos:Pos}
theorem TQ(he:PE X e te):ny X [.Return (some e) pos] (λR σ H=>te σ H (R σ)):=by
 intro pins s σ H R I h
 refine Em (wpAny_Return_some (aM (he pins s σ H _ I h) λv s1 ⟨x,H1,I1,r1,q1⟩=>?_))
 exact⟨x,σ,H1,I1,r1,q1⟩
theorem tX(h1:PS X st t)(h2:ny X rest u):ny X (st::rest) (λR σ H=>t {nx:=u R,rt:=λ_ _=>False} σ H):=by
 intro pins s σ H R I h
 refine Em (aM (h1 pins s σ H {nx:=u R,rt:=λ_ _=>False} I h) λf s1 q=>?_)
 cases f with
 | next=>
  obtain⟨σ',H',I',q⟩:=q
  exact h2 pins s1 σ' H' R I' q
 | ret v=>obtain⟨_,_,_,_,_,z⟩:=q;exact z.elim
 | brk=>obtain⟨_,_,_,z⟩:=q;exact z.elim
 | cont=>obtain⟨_,_,_,z⟩:=q;exact z.elim
theorem ny.qc{st:List Stmt}(h:ny X.qc st u):ny X st u:=λpins s σ H R I hw=>
 B0 (h pins s σ H R (I.wish _) hw) (λf s' q=>by
  cases f with
  | ret v=>obtain⟨x,σ',H',J,r,z⟩:=q;exact⟨x,σ',H',J.ib,r,z⟩
  | next=>exact q
  | brk=>exact q
  | cont=>exact q) λ_ _ z=>Bt z
end
theorem mf.okR{P:Az}{w:World}{K:AE}{mg:Str->Option Value}{base:Heap}{x qual:Str}{st:Stmt}{f:Addr}{fd:BC}{cd:Value}{N ps:List Str}{k:Nat}{sp:Sp}(F:mf K x qual st f fd cd)(S:aU N ps (aj st))(len:∀vs H Q E,sp vs H Q E->vs.length=ps.length)
  (hbody:∀(A:BQ) (outer:List Env) (s:AN) (H:Hp) (vs:List V) (Q:VK) (E:XK),(∀x y c,(E7 qual (aj st) s.heap.objs.size f cd).cells.lookup x=some c->(E7 qual (aj st) s.heap.objs.size f cd).cells.lookup y=some c->x=y)->aQ k (A.deeper (E7 qual (aj st) s.heap.objs.size f cd))->sp vs H Q E->
   ∃t,ny (kj bK P w K mg base N qual (aj st) f cd A outer s H E).qc (aK st) t/\t (λσ v H2=>∃cs,g0 (kj bK P w K mg base N qual (aj st) f cd A outer s H E) σ cs/\((∀c v,cs.lookup c=some v->H2 c=none)->Q v (kC cs H2))) (start N vs) H):aV P w K mg base bK (k+1) f fd ps sp:=by
 obtain⟨oc,od,dV,kV,doc,pm,an,ct,osl,rfl,lk,hcd⟩:=F.ex
 refine⟨len,λA outer s H args us vs Q E hr e0 hb r hsp=>?_⟩
 have hl:=len _ _ _ _ hsp
 have KX:K.In s.heap:=e0.mod.uM.keeps λb o e=>(e0.bs b o e).1
 have lim:s.heap.NoLimit:=e0.mod.nolimit.keeps λb o e=>(e0.bs b o e).1
 have hkind:∀y∈ps.zip us,(aj st).names.lookup y.1=some .local∨((aj st).names.lookup y.1=some .cell/\((cellsFrom (s.heap.objs.size+1) (aj st).names []).lookup y.1).isSome=true):=λ⟨n,v⟩ hy=>by
  rcases S.par n (Di hy).1 with q | q
  ·exact .inl q
  ·exact .inr ⟨q,EV _ _ _ (.inl q)⟩
 refine Eh hr.depth (KX _ _ lk) rfl S.co S.gen rfl (HY KX hcd) (hb _ _ _ _ ?_)
 refine FR S.kind hkind λenv he s1 x=>?_
 subst he
 refine⟨lim.keeps x.toInCall.keep,codeAny_func ?_⟩
 have I:Inv (kj bK P w K mg base N qual (aj st) f cd A outer s H E) [] (start N vs) H s1:=uZ S hr.hd e0 hl r x
 obtain⟨t,ht,hq⟩:=hbody A outer s H vs Q E I.ok.inj (hr.deeper _) hsp
 refine B0 (ht.qc [] s1 (start N vs) H _ I hq) (λfl s' hs=>?_) λe s' hs=>hs
 cases fl with
 | ret u=>
  obtain⟨v,σ',H',J,rv,cs,C,q⟩:=hs
  exact⟨v,kC cs H',J.os,J.bare,C.un J (λ_=>rfl) rfl,C.hok J,rv,q (C.free J)⟩
 | next=>exact Bt hs
 | brk=>exact Bt hs
 | cont=>exact Bt hs
structure Jm (K:AE)(mg:Str->Option Value)(base:Heap)(D:List Addr)(H:Hp)(base':Heap):Prop where
 sub:∀b o,base.get? b=some o->base'.get? b=some o
 mod:Mod K mg base'
 ext:∀a φ,a∈D->H a=some (.ext φ)->φ base'
theorem Wide.b{X:Cx}{σ:St}{D:List Addr}{H:Hp}{base':Heap}(W:Wide X σ D H base'):Jm X.K X.mg X.base D H base':=⟨W.sub,W.mod,W.ext⟩
def kD(P:Az)(w:World)(K:AE)(mg:Str->Option Value)(base:Heap)(H:Hp)(D:List Addr)(k:Nat)(f:Addr)(n:Nat)(sp:Sp):Prop:=∀base',Jm K mg base D H base'->FnAt P w K mg base' k f n sp
theorem kD.same{P:Az}{w:World}{K:AE}{mg:Str->Option Value}{base:Heap}{H H':Hp}{D:List Addr}{k:Nat}{f:Addr}{n:Nat}{sp:Sp}(F:kD P w K mg base H D k f n sp)(k':∀b φ,b∈D->H b=some (.ext φ)->H' b=some (.ext φ)):kD P w K mg base H' D k f n sp:=
 λbase' W=>F base' ⟨W.sub,W.mod,λa φ ha e=>W.ext a φ ha (k' a φ ha e)⟩
theorem kD.lam{X:Cx}{D:List Addr}{H:Hp}{params:Cs}{body:Expr}{scope:Scope}{clos:List (Str×Addr)}{c' f:Addr}{ctv:Value}{ps aI:List Str}{fvs:List V}{k:Nat}{sp:Sp}
  (hf:H f=some (k_ f (lamO X params body scope clos c' ctv))) (TR:f∈D) (hc:H c'=some (lg c' (X.env.qual++"<lambda>"))) (hcD:c'∈D) (S:gQ ps aI scope) (Zu:∀x y c,X.env.cells.lookup x=some c->X.env.cells.lookup y=some c->x=y) (sub:∀p∈clos,X.env.cells.lookup p.1=some p.2/\p.1∈aI)
  (vals:DG (λ(x:Str) (v:V)=>∃c,clos.lookup x=X.env.cells.lookup x/\X.env.cells.lookup x=some c/\c∈D/\H c=some (rW c v)) aI fvs)
  (hb:∀(us:List Value),us.length=ps.length->G5 (PySem.W.kla_fn "<lambda>" (X.env.qual++"<lambda>") params body scope clos ((X.mg "__name__").getD .none) (.ref c') ctv) ⟨us,[]⟩=pure (ps.zip us)) (len:∀vs H Q E,sp vs H Q E->vs.length=ps.length)
  (hbody:∀(base':Heap),Jm X.K X.mg X.base D H base'->∀(A:BQ) (outer:List Env) (s:AN) (H:Hp) (vs:List V) (Q:VK) (E:XK),aQ k (A.deeper (Cq (X.env.qual++"<lambda>") scope s.heap.objs.size f (.ref c') clos))->sp vs H Q E->
   ∃t,PE (Lj X.prog X.w X.K X.mg base' (ps++aI) (X.env.qual++"<lambda>") scope f (.ref c') clos A outer s H) body t/\t (vs.map some++fvs.map some) H Q):kD X.prog X.w X.K X.mg X.base H D (k+1) f ps.length sp:=λbase' W=>by
 have ho:base'.get? f=some (lamO X params body scope clos c' ctv):=W.ext f _ TR hf
 have oY:base'.CodeRec (.ref c') (X.env.qual++"<lambda>"):=W.ext c' _ hcD hc
 have vals':DG (λ(x:Str) (v:V)=>∃c u,clos.lookup x=some c/\base'.IsCell c (some u)/\RelV v u) aI fvs:=Paired.qz vals λx v ⟨c,h0,h1,h2,h3⟩=>by
  obtain⟨u,e,r⟩:=W.ext c _ h2 h3
  exact⟨c,u,h0.trans h1,e,r⟩
 have sub':∀x c,clos.lookup x=some c->X.env.cells.lookup x=some c/\x∈aI:=λx c e=>sub (x,c) (BS e)
 have C:iH base' clos aI fvs:=by
  refine⟨λx y c h1 h2=>Zu x y c (sub' x c h1).1 (sub' y c h2).1,λx c h=>?_,vals'⟩
  obtain⟨i,hi⟩:=Bl (sub' x c h).2
  obtain⟨v,_,c2,u,h1,h2,_⟩:=dW vals' hi
  rw[h] at h1;cases h1
  exact⟨_,h2⟩
 exact⟨_,_,ps,ho,rfl,rfl,hb,Tv ho oY S C len (hbody base' W)⟩
section
variable{P:Az}{w:World}{A:BQ}{E:Value->AN->Prop}
theorem xq{its:List Value}{ss:List Str}{t:Str}{tt:Tok}{j:Nat}(r:Vals (ss.map V.str) its)(hj:ss[j]? =some t)(hlt:∀i,i<j->ss[i]? ≠some t){s:AN}{Q:Option PySem.Fin×Unit->AN->Prop}
  (hQ:Q (some (Fin.done (Flow.ret (.int (j:Nat) s.toks))),()) {s with toks:=s.toks+1}):
  ∀k i,i+k=its.length->i<=j->wpAny (model P w) A (forIn (List.range' i k) (none,()) (λ(i:Nat) (__s:Option PySem.Fin×Unit)=>
   match its.toArray[i]? with
   | some y=>do
    let __do_lift <-eqBool y (GI t tt)
    if __do_lift=true then do
      let __do_lift <-retInt (i:Int)
      pure (ForInStep.done (some __do_lift,()))
     else pure (Ce (none,()))
   | x=>pure (Ce (none,())))) Q E s
 | 0,i,hk,hi=>by
  have h1:=(AD.mp hj).1
  have h2:=Vals.length r
  rw[AA] at h2
  omega
 | k+1,i,hk,hi=>by
  rw[List.range'_succ,C7]
  have h2:=Vals.length r
  rw[AA] at h2
  obtain⟨z,hz⟩:∃z,ss[i]? =some z:=⟨_,Ag (by omega)⟩
  obtain⟨y,hy,ry⟩:=Vals.get r (show(ss.map V.str)[i]? =some (.str z) by rw[AJ,hz];rfl)
  obtain⟨ty,rfl⟩:=ry
  have hy':its.toArray[i]? =some (GI z ty):=by rw[CS];exact hy
  refine AB ?_
  rw[hy']
  refine AB (Hd z ty t tt P w E _ ?_)
  by_cases e:i=j
  ·subst e
   have:z=t:=AZ (hz.symm.trans hj)
   subst this
   rw[show(z == z)=true from beq_self_eq_true z]
   refine AB ?_
   unfold retInt
   refine AB (wpAny_mkInt ?_)
   exact AK (AK (AK hQ))
  ·have hne:z≠t:=λq=>hlt i (by omega) (by rw[hz,q])
   rw[show(z == t)=false from beq_false_of_ne hne]
   refine AK ?_
   exact xq r hj hlt hQ k (i+1) (by omega) (by omega)
end
section
variable{X:Cx}
def Rv(K:AE):V->List V->Hp->VK->Prop:=λx vs H Q=>∃(p:Addr) (ss:List Str) (t:Str) (j:Nat),x=.ref p/\vs=[.str t]/\bN K H p (ss.map V.str)/\ss[j]? =some t/\(∀i,i<j->ss[i]? ≠some t)/\Q (.int (j:Nat)) H
theorem o4(K:AE)(hK:X.K=K:=by rfl):wV X "tuple.index" (Rv K):=by
 subst hK
 intro pins s σ H x vs v us Q I rx rv h
 obtain⟨p,ss,t,j,rfl,rfl,hq,hj,hlt,q⟩:=h
 cases rx
 obtain⟨u,rfl,ru⟩:=rv.one
 obtain⟨tt,rfl⟩:=ru
 obtain⟨its,r,pl,hz⟩:=I.tuple hq
 obtain⟨o,ho,hcl,n,hd⟩:=pl
 refine Bb F.slot_tuple_index ⟨o,ho,hcl⟩ F.entry_tuple_index ?_ (F.args_tuple_index_2 _ _)
 obtain⟨ocls,odict,odata,oslots⟩:=o
 simp only at hcl hd
 subst hcl hd
 unfold Cz.«tuple.index» selfAndSome noKeywords Ds
 simp only[Std.Legacy.Range.forIn_eq_forIn_range']
 wp_walk
 have hsz:[:min its.toArray.size its.toArray.size].size=its.length:=by simp[Std.Legacy.Range.size]
 rw[hsz]
 refine xq (P:=X.prog) (w:=X.w) (A:=X.A.in1) (E:=X.xe) (s:=s) (tt:=tt) r hj hlt ?_ its.length 0 (by omega) (BI _)
 exact AK ⟨_,rfl,.int (j:Nat),H,I.tok _,⟨_,rfl⟩,q⟩
def Rx:List V->Hp->VK->Prop:=λxs H Q=>∃(d:Addr) (kvs:List (Key×V)) (ss:List Int),xs=[.ref d]/\H d=some (.dK kvs)/\kvs.map (·.1)=ss.map Bu/\ss.length<64/\
 ∀(p:Addr) (ss':List Int),H p=none->ss'.Perm ss->ss'.Pairwise (· <= ·)->Q (.ref p) (upd H p (.lst (ss'.map V.int)))
theorem nz:∀{vs:List Value} {ss:List Int},vs.length=ss.length->(∀(i:Nat) (v:Value) (x:Int),vs[i]? =some v->ss[i]? =some x->∃t,v=.int x t)->CP vs ss
 | [],[],_,_=>.nil
 | [],_::_,h,_=>by cases h
 | _::_,[],h,_=>by cases h
 | v::vs,x::ss,h,k=>by
  obtain⟨t,rfl⟩:=k 0 v x rfl rfl
  exact .cons x t (nz (D5 h) λi v y e1 e2=>k (i+1) v y e1 e2)
theorem yO(hc:X.calm=true):cZ X (.builtin "sorted") Rx:=by
 intro pins s σ H xs us Q I r h
 obtain⟨d,kvs,ss,rfl,hd,hk,h64,q⟩:=h
 obtain⟨u,rfl,ru⟩:=vals1 r
 cases ru
 obtain⟨hz,lo,vs,rel,dd⟩:=wz I.hok hd
 obtain⟨ep,hat⟩:=dd.dictAt
 have hlk:kvs.length=ss.length:=by have:=congrArg Fu hk;simpa using this
 have Ls:kvs.length=vs.length:=rel.length
 have hks:∀(i:Nat) (k:Key) (x:Value),vs[i]? =some (k,x)->∃y,ss[i]? =some y/\k=Bu y:=λi k x e=>by
  have h1:(vs.map (·.1))[i]? =some k:=by rw[AJ,e];rfl
  have h2:vs.map (·.1)=ss.map Bu:=by
   rw[<-hk]
   have:∀{l:List (Key×V)} {m:List (Key×Value)},KV l m->m.map (·.1)=l.map (·.1):=λ{l m} q=>by
    unfold KV at q
    induction q with
    | nil=>rfl
    | cons a _ ih=>rw[A0,A0,ih,a.1]
   exact this rel
  rw[h2,AJ] at h1
  cases es:ss[i]? with
  | none=>rw[es] at h1;cases h1
  | some y=>rw[es] at h1;exact⟨y,rfl,(AZ h1).symm⟩
 refine Fn kind_sorted plain_sorted entry_sorted (args_sorted1 _) ?_
 unfold Cz.«sorted»
 (refine AB (m:=checkCount "sorted" 1 1 _) (AK ?_))
 refine AB (PySem.W.kdu_collect (A:=X.A.in1) (PySem.W.kdl_dict (knd:=b_ X.prog X.w) (kvs:=vs) (ep:=ep) lo) (I.ok.hd hc) hat (by omega) λh' tk acc k it=>?_)
 have hl:acc.toList.length=ss.length:=by rw[BN,it.1];omega
 have hS:CP acc.toList ss:=nz hl λi v x e1 e2=>by
  obtain⟨kk,z,ek,ik⟩:=it.2 i v (by rw[<-Bs];exact e1)
  obtain⟨y,ey,rfl⟩:=hks i kk z ek
  rw[e2] at ey
  cases ey
  rw[IV] at ik
  rcases cE ik with⟨x',t,z,ev⟩ | ⟨_,_,z,_⟩
  ·cases z
   exact⟨t,ev⟩
  ·cases z
 refine AB (wpAny_newList ?_ (by rw[hl];exact CG (Ab h64 (by decide))))
 have hoL:(h'.push (seqObj "list" acc.toList.toArray 0)).get? h'.objs.size=some (seqObj "list" acc.toList.toArray 0):=AU _ rfl
 refine AB (Bj (Bb slot_list_sort ⟨_,hoL,rfl⟩ entry_list_sort (list_sort_tree hoL hS (by rw[hl];exact h64) λout ss' a1 a2 a3=>⟨_,rfl,?_⟩) (args_list_sort _)))
 have I1:Inv X pins σ H {s with heap:=h',toks:=tk}:=I.kept k
 obtain⟨e,he⟩:=sortedHeap_at (out:=out) hoL
 have kp:∀b u,h'.get? b=some u->(sortedHeap (h'.push (seqObj "list" acc.toList.toArray 0)) h'.objs.size acc.toList (out)).get? b=some u:=λb u eb=>by
  have lt:=AX eb
  rw[sortedHeap_old (Ap lt) (by rw[BG];exact CM lt)]
  exact AG _ eb
 have I2:=I1.laid (a:=h'.objs.size) (o:=.lst (ss'.map V.int)) (t':=tk) kp (AM _) ⟨by rw[AA,a2.length_eq];exact CG (Ab h64 (by decide)),(out).toList,e,kY a1,he⟩
 exact AK ⟨_,rfl,⟨.ref h'.objs.size,_,I2,rfl,q _ ss' (I1.hok.fresh (AM _)) a2 a3⟩⟩
end
section
variable{X:Cx}{o e:Expr}{es:List Expr}{apos cpos:Pos}{name:Str}{id:String}{r:V->List V->Hp->VK->Prop}{to:TE}{t:TA}
def Zv(r:V->List V->Hp->VK->Prop)(to:TE)(t:TA):TE:=λσ H Q=>to σ H λx H1=>(∃p xs,x=.ref p/\H1 p=some (.tup xs))/\t σ H1 λvs H2=>r x vs H2 Q
theorem xr(pa:PlainAttrs "tuple")(slot:Slot "tuple" name id)(hty:typeOf (.builtin id)=pure (.type "method_descriptor"))(hm:wV X id r)(ho:PE X o to)(ha:PA X (e::es) t)
  (hbase:GC o name X.env (eval o X.env)=eval o X.env:=by rfl)
  (hfew:((Dr cpos (BL (e::es) X.env)).all (λx=> !x.1)&&(backToKw cpos (keywordEach [] X.env)).all (λx=>x.1.isSome)
   &&decide ((e::es).length+([]:List Hj).length+(if([]:List Hj).isEmpty then 0 else 1)<30))=true:=by rfl)
  (hline:(apos.endLine == cpos.line)=true:=by rfl) (hs:BL (e::es) X.env=(false,eval e X.env)::BL es X.env:=by rfl) (hplain:(Dr cpos (BL es X.env)).any (·.1)=false:=by rfl):
  PE X (.Call (.Attribute o name apos) (e::es) [] cpos) (Zv r to t):=by
 intro pins s σ H Q I h
 refine wpAny_Call_method_late hbase hfew hline rfl (aM (ho pins s σ H _ I h) λv s1 ⟨x,H1,I1,r1,⟨p,xs,ex,ep⟩,q1⟩=>?_)
 subst ex
 obtain rfl:v=Bq p:=r1
 obtain⟨⟨_,o2,e2,d2⟩,its,_,ob,e1,c1,_⟩:=(show bE X.prog X.w H1 s1.heap p (.tup xs) from I1.hok p _ ep)
 have h1:s1.TypeIs (.ref p) "tuple":=⟨ob,e1,c1⟩
 have h2:∀a,Bq p=.ref a->∃ob,s1.heap.get? a=some ob/\ob.dict=none:=λa ea=>by cases ea;exact⟨o2,e2,d2⟩
 refine⟨"tuple",id,pa,slot,hty,h1,h2,?_⟩
 have hA:=ha cpos pins s1 σ H1 _ I1 q1
 rw[hs] at hA ⊢
 refine DY (by show(false||(Dr cpos (BL es X.env)).any (·.1))=false;rw[hplain]<;>rfl) (Dv ?_)
 exact aM hA λus s2 ⟨vs,H2,I2,r2,q2⟩=>hm pins s2 σ H2 (.ref p) vs (.ref p) us Q I2 rfl r2 q2
end
theorem xt{α β:Type}[BEq α][LawfulBEq α]:∀{l:List (α×β)} {a:α} {b:β},l.lookup a=some b->(a,b)∈l
 | (x,y)::l,a,b,h=>by
  rw[DO] at h
  by_cases e:a=x
  ·subst e
   rw[beq_self_eq_true] at h
   cases h
   exact Aa
  ·rw[show(a == x)=false from beq_false_of_ne e] at h
   exact AV _ (xt h)
structure xu (X:Cx)(σ:St)(l:List (Nat×Str×Addr×V)):Prop where
 at':∀q∈l,X.N[q.1]? =some q.2.1/\σ[q.1]? =some (some q.2.2.2)/\X.env.scope.names.lookup q.2.1=some .cell/\X.env.cells.lookup q.2.1=some q.2.2.1
 nd:(l.map (·.2.1)).Nodup
def o6(l:List (Nat×Str×Addr×V)):List (Addr×V):=l.map λq=>(q.2.2.1,q.2.2.2)
theorem xu.cells{X:Cx}{σ:St}{l:List (Nat×Str×Addr×V)}(C:xu X σ l):g0 X σ (o6 l):=λc v h=>by
 obtain⟨q,hq,e⟩:=Ac.mp (show(c,v)∈o6 l from xt h)
 cases e
 obtain⟨h1,h2,h3,h4⟩:=C.at' q hq
 exact⟨q.1,q.2.1,h1,h2,h3,h4⟩
theorem mM{α β:Type}[BEq α][LawfulBEq α]:∀{l:List (α×β)} {a:α} {b:β},(a,b)∈l->∃b',l.lookup a=some b'
 | (x,y)::l,a,b,h=>by
  rw[DO]
  by_cases e:a=x
  ·subst e;rw[beq_self_eq_true];exact⟨y,rfl⟩
  ·rw[show(a == x)=false from beq_false_of_ne e]
   rcases Ak.mp h with z | z
   ·cases z;exact absurd rfl e
   ·exact mM z
theorem zQ:∀{l:List (Nat×Str×Addr×V)},(l.map (·.2.1)).Nodup->∀q∈l,∀p∈l,q.2.1=p.2.1->q=p
 | [],_=>λ_ h=>by cases h
 | x::l,nd=>λq hq p hp e=>by
  rw[A0,Bk] at nd
  rcases Ak.mp hq with z | z
  ·rcases Ak.mp hp with y | y
   ·rw[z,y]
   ·exact absurd (Ac.mpr ⟨p,y,by rw[<-e,z]⟩) nd.1
  ·rcases Ak.mp hp with y | y
   ·exact absurd (Ac.mpr ⟨q,z,by rw[e,y]⟩) nd.1
   ·exact zQ nd.2 q z p y e
theorem xu.look{X:Cx}{σ:St}{l:List (Nat×Str×Addr×V)}(C:xu X σ l)(inj:∀x y c,X.env.cells.lookup x=some c->X.env.cells.lookup y=some c->x=y){q:Nat×Str×Addr×V}(hq:q∈l):(o6 l).lookup q.2.2.1=some q.2.2.2:=by
 obtain⟨v,hv⟩:=mM (l:=o6 l) (Ac.mpr ⟨q,hq,rfl⟩)
 obtain⟨p,hp,e⟩:=Ac.mp (show(q.2.2.1,v)∈o6 l from xt hv)
 injection e with e1 e2
 have:=zQ C.nd q hq p hp (inj _ _ _ (C.at' q hq).2.2.2 (by rw[<-e1];exact(C.at' p hp).2.2.2))
 rw[hv,<-e2,this]
theorem xu.got{X:Cx}{σ:St}{l:List (Nat×Str×Addr×V)}(C:xu X σ l)(inj:∀x y c,X.env.cells.lookup x=some c->X.env.cells.lookup y=some c->x=y)(H:Hp){q:Nat×Str×Addr×V}(hq:q∈l):kC (o6 l) H q.2.2.1=some (rW q.2.2.1 q.2.2.2):=zP (C.look inj hq)
theorem apart1(p:Pos×Str):Apart [p]:=λa ha b hb _ _=>by rw[AI.mp ha,AI.mp hb]
section
variable{X:Cx}
def WR(K:AE):List V->Hp->VK->Prop:=λxs H Q=>∃(a:Addr) (ns:List Int),xs=[.ref a]/\bC K H a (ns.map V.int)/\ns≠[]/\∀m:Int,m∈ns->(∀x∈ns,m<=x)->Q (.int m) H
theorem vm(K:AE)(hc:X.calm=true)(hK:X.K=K:=by rfl):cZ X (.builtin "min") (WR K):=by
 subst hK
 intro pins s σ H xs us Q I r h
 obtain⟨a,ns,rfl,hq,hne,q⟩:=h
 obtain⟨u,rfl,ru⟩:=vals1 r
 cases ru
 obtain⟨its,rv,p,_⟩:=I.list hq
 have hi:CP its ns:=intsAre_of rv
 obtain⟨xs,e⟩:=hi.allInts.items
 have hns:ns=xs.toList.map (·.1):=by rw[<-hi.numsOf,<-nums_intItems,<-e]
 have hsz:0<xs.size:=by
  rcases EM xs.size with z | z
  ·have:xs.toList=[]:=List.eq_nil_of_length_eq_zero (by rw[BN];exact z)
   exact absurd (by rw[hns,this];rfl) hne
  ·exact z
 have hl:=p.isList
 rw[e] at hl
 refine min_intList (I.ok.hd hc) hl hsz λv h' tk hv hk=>?_
 obtain⟨t,rfl⟩:=intItems_at hv
 obtain⟨h1,h2⟩:=argBest_lt (numAt xs) (xs.size-1)
 have na:∀j,j<xs.size->ns[j]? =some (numAt xs j):=λj hj=>by
  rw[hns,AJ,Bs,numAt,BB hj]
  rfl
 refine⟨.int _,H,I.kept hk,⟨t,rfl⟩,q _ (AL (na _ (by omega))) λx hx=>?_⟩
 obtain⟨i,hi'⟩:=Bl hx
 have hlt:i<xs.size:=by
  have:=(AD.mp hi').1
  rw[hns,AA,BN] at this
  exact this
 rw[na i hlt] at hi'
 have e3:=AZ hi'
 rw[<-e3]
 exact h2 i (by omega)
end
abbrev dc (h:Heap)(z TI TO:Addr)(f0:Value)(fl:Bool):Prop:=h.get? z=some {cls:=.type "zip",dict:=none,data:=.fields #[f0,.bool fl,.bool false,.ref TI,.ref TO],slots:= #[]}
section
variable{prog:Az}{w:World}{A:BQ}{E:Value->AN->Prop}{s:AN}
theorem vn{z TI TO i1 i2 l1 l2:Addr}{k:Nat}{f0:Value}{fl:Bool}{xs ys:Array Value}{x y a b:Value}{Q:Value->AN->Prop}(D:Fb z TI TO i1 i2 l1 l2)(gz:dc s.heap z TI TO f0 fl)(hfree:∀Q':Bool->AN->Prop,Q' true s->wpAny (model prog w) A (A6 (.ref z)) Q' E s)(gI:CO s.heap TI (.ref i1) (.ref i2))(gO:CO s.heap TO a b)
  (g1:s.heap.IsTupleIter i1 l1 k) (g2:s.heap.IsTupleIter i2 l2 k) (m1:s.heap.IsTuple l1 xs) (m2:s.heap.IsTuple l2 ys) (ex:xs[k]? =some x) (ey:ys[k]? =some y)
  (q:∀h',IsZip h' z TI TO (A7 s.heap.objs.size)->CO h' TO x y->h'.IsTupleIter i1 l1 (k+1)->h'.IsTupleIter i2 l2 (k+1)->CO h' s.heap.objs.size x y->h'.objs.size=s.heap.objs.size+1->
   (∀c o,c≠z->c≠TO->c≠i1->c≠i2->s.heap.get? c=some o->h'.get? c=some o)->Q (.ref s.heap.objs.size) {s with heap:=h'}):
  wpAny (model prog w) A (Cz.«zip.__next__» ⟨[.ref z],[]⟩) (λfin s'=>∃v,fin=.done (.ret v)/\Q v s') E s:=by
 show wpAny _ _ (field (.ref z) 2 >>= _) _ _ _;refine AB (Bi gz rfl (x:=.bool false) rfl ?_)
 show wpAny _ _ (field (.ref z) 3 >>= _) _ _ _;refine AB (Bi gz rfl (x:=.ref TI) rfl ?_);refine AB (Ca gI rfl ?_)
 show wpAny _ _ (A6 (.ref z) >>= _) _ _ _;refine AB (hfree _ ?_);simp only[if_true];refine AB (Dd ?_)
 refine AB (Bi gz rfl (x:=.ref TO) rfl ?_);refine AB (Bo gz (by simp) λh1 z1 s1=>?_)
 replace z1:dc h1 z TI TO .ellipsis fl:=z1
 refine AB ?_;simp only[List.zipIdx_cons,List.zipIdx_nil,C7,Ea];refine AB (AB (HR ?_))
 show wpAny _ _ (BV (.ref i1) >>= _) _ _ _;refine AB (gC (bY g1 s1.extBut D.i1z) (dU m1 s1.extBut D.l1z) ex λh2 TU s2=>AK ?_)
 have O2:CO h2 TO a b:=s2.extBut _ _ D.TOi1 (s1.extBut _ _ D.TOz gO)
 refine AB (Ca O2 rfl ?_);refine AB (wpAny_updateSeq_pair O2 λh3 O3 s3=>?_)
 replace O3:CO h3 TO x b:=O3
 refine AB (wpAny_letGo (AK ?_));refine AB (AB (HR ?_))
 show wpAny _ _ (BV (.ref i2) >>= _) _ _ _;refine AB (gC (bY (bY (bY g2 s1.extBut D.i2z) s2.extBut D.i12.symm) s3.extBut D.TOi2.symm) (dU (dU (dU m2 s1.extBut D.l2z) s2.extBut D.l2i1) s3.extBut D.l2TO) ey λh4 it4 s4=>AK ?_)
 have O4:CO h4 TO x b:=s4.extBut _ _ D.TOi2 O3
 refine AB (Ca O4 rfl ?_);refine AB (wpAny_updateSeq_pair O4 λh5 O5 s5=>?_)
 replace O5:CO h5 TO x y:=O5
 refine AB (wpAny_letGo (AK (AK ?_)));refine AB (Ca O5 rfl ?_);refine AB (HD ?_)
 have sz:h5.objs.size=s.heap.objs.size:=by rw[s5.1,s4.1,s3.1,s2.1,s1.1]
 have z5:dc h5 z TI TO .ellipsis fl:=s5.extBut _ _ D.TOz.symm (s4.extBut _ _ D.i2z.symm (s3.extBut _ _ D.TOz.symm (s2.extBut _ _ D.i1z.symm z1)))
 have k5:∀c o,c≠z->c≠TO->c≠i1->c≠i2->s.heap.get? c=some o->h5.get? c=some o:=λc o c1 c2 c3 c4 e=>s5.extBut _ _ c2 (s4.extBut _ _ c4 (s3.extBut _ _ c2 (s2.extBut _ _ c3 (s1.extBut _ _ c1 e))))
 have a5:h5.IsTupleIter i1 l1 (k+1):=bY (bY (bY TU s3.extBut D.TOi1.symm) s4.extBut D.i12) s5.extBut D.TOi1.symm
 have b5:h5.IsTupleIter i2 l2 (k+1):=bY it4 s5.extBut D.TOi2.symm
 have XA:z<h5.objs.size:=AX z5
 show wpAny _ _ (D' (.ref z) (.ref h5.objs.size) >>= _) _ _ _
 refine AB ?_;unfold D'
 have z6:dc (h5.push {cls:=.type "tuple",data:=.seq #[x,y]}) z TI TO .ellipsis fl:=AG _ z5
 refine AB (Bo z6 (by simp) λh7 z7 s7=>?_)
 replace z7:dc h7 z TI TO (A7 h5.objs.size) fl:=z7
 refine Bo z7 (by simp) λh8 z8 s8=>?_
 replace z8:IsZip h8 z TI TO (A7 h5.objs.size):=z8
 have up:∀c o,c≠z->h5.get? c=some o->h8.get? c=some o:=λc o c1 e=>s8.extBut _ _ c1 (s7.extBut _ _ c1 (AG _ e))
 have T8:CO h8 h5.objs.size x y:=s8.extBut _ _ (Cm XA) (s7.extBut _ _ (Cm XA) (AU _ rfl))
 have e8:h8.objs.size=h5.objs.size+1:=by rw[s8.1,s7.1,BG]
 rw[sz] at z8 T8 e8
 refine AK ⟨_,rfl,?_⟩;show Q (.ref h5.objs.size) _;rw[sz]
 exact q h8 z8 (up _ _ D.TOz O5) (let ⟨o,ho,r⟩:=a5;⟨o,up _ _ D.i1z ho,r⟩) (let ⟨o,ho,r⟩:=b5;⟨o,up _ _ D.i2z ho,r⟩) T8 e8 λc o c1 c2 c3 c4 e=>up c o c1 (k5 c o c1 c2 c3 c4 e)
theorem rX{z TI TO i1 i2 l1 l2:Addr}{k:Nat}{f0:Value}{fl:Bool}{xs ys:Array Value}{a b:Value}{Q:Fin->AN->Prop}(hh:A.handled=none)(D:Fb z TI TO i1 i2 l1 l2)(gz:dc s.heap z TI TO f0 fl)(hfree:∀Q':Bool->AN->Prop,Q' true s->wpAny (model prog w) A (A6 (.ref z)) Q' E s)(gI:CO s.heap TI (.ref i1) (.ref i2))(gO:CO s.heap TO a b)
  (g1:s.heap.IsTupleIter i1 l1 k) (g2:s.heap.IsTupleIter i2 l2 k) (m1:s.heap.IsTuple l1 xs) (m2:s.heap.IsTuple l2 ys) (ex:xs[k]? =none)
  (q:∀h' e,(∀c o,c≠z->c≠TO->c≠i1->c≠i2->s.heap.get? c=some o->h'.get? c=some o)->(∃o,h'.get? e=some o/\o.cls=.type "StopIteration")->E (.ref e) {s with heap:=h'}):
  wpAny (model prog w) A (Cz.«zip.__next__» ⟨[.ref z],[]⟩) Q E s:=by
 show wpAny _ _ (field (.ref z) 2 >>= _) _ _ _;refine AB (Bi gz rfl (x:=.bool false) rfl ?_)
 show wpAny _ _ (field (.ref z) 3 >>= _) _ _ _;refine AB (Bi gz rfl (x:=.ref TI) rfl ?_);refine AB (Ca gI rfl ?_)
 show wpAny _ _ (A6 (.ref z) >>= _) _ _ _;refine AB (hfree _ ?_);simp only[if_true];refine AB (Dd ?_)
 refine AB (Bi gz rfl (x:=.ref TO) rfl ?_);refine AB (Bo gz (by simp) λh1 z1 s1=>?_)
 replace z1:dc h1 z TI TO .ellipsis fl:=z1
 refine AB ?_;simp only[List.zipIdx_cons,List.zipIdx_nil,C7,Ea];refine AB (AB (HR ?_))
 show wpAny _ _ (BV (.ref i1) >>= _) _ _ _;refine AB (iY hh (bY g1 s1.extBut D.i1z) (dU m1 s1.extBut D.l1z) ex λh2 e s2 he=>?_)
 obtain⟨oe,hoe,hce⟩:=he
 have z2:dc h2 z TI TO .ellipsis fl:=s2 _ _ D.i1z.symm z1
 have nez:e≠z:=λx=>by subst x;rw[z2] at hoe;cases hoe;simp at hce
 refine Bo z2 (by simp) λh3 _ s3=>q h3 e (λc o c1 _ c3 _ x=>s3.extBut _ _ c1 (s2 _ _ c3 (s1.extBut _ _ c1 x))) ⟨oe,s3.extBut _ _ nez hoe,hce⟩
theorem xv{z TI TO p:Addr}{fl:Bool}{op:Obj}(gz:dc s.heap z TI TO (A7 p) fl)(gp:s.heap.get? p=some op):
  wpAny (model prog w) A (A6 (.ref z)) (λr s'=>r=false/\∃h0,s'={s with heap:=h0}/\dc h0 z TI TO (A7 p) true/\B8 z s.heap h0) E s:=by
 unfold A6
 refine AB (Bi gz rfl (x:=A7 p) rfl ?_)
 show wpAny _ _ (loadIfAlive ((p:Int).toNat) >>= _) _ _ _
 rw[AY]
 refine AB (PySem.W.kdx_alive gp ?_)
 simp only[Option.isNone_some,Cw,if_false]
 refine AB (Bi gz rfl (x:=.bool fl) rfl ?_)
 cases fl with
 | true=>
  rw[if_neg (show ¬((DW true != DW true)=true) from An)]
  exact AK ⟨rfl,s.heap,rfl,gz,Hs _ _⟩
 | false=>
  rw[if_pos (show(DW false != DW true)=true from rfl)]
  refine AB (Bo gz (by simp) λh₃ he₃ hs₃=>?_)
  exact AK ⟨rfl,h₃,rfl,he₃,hs₃⟩
theorem xx{z TI TO p:Addr}{fl:Bool}(gz:dc s.heap z TI TO (A7 p) fl)(gp:s.heap.get? p=none)(Q':Bool->AN->Prop)(h:Q' true s):wpAny (model prog w) A (A6 (.ref z)) Q' E s:=by
 unfold A6
 refine AB (Bi gz rfl (x:=A7 p) rfl ?_)
 show wpAny _ _ (loadIfAlive ((p:Int).toNat) >>= _) _ _ _
 rw[AY]
 refine AB ?_
 have al:∀Q:Option Obj->AN->Prop,Q none s->wpAny (model prog w) A (loadIfAlive p) Q E s:=λQ h=>by
  have h':Q (s.heap.get? p) s:=by rw[gp];exact h
  exact λ_ _ _=>h'
 refine al _ ?_
 exact AK h
theorem xy{z TI TO:Addr}{fl:Bool}(gz:dc s.heap z TI TO .none fl)(Q':Bool->AN->Prop)(h:Q' true s):wpAny (model prog w) A (A6 (.ref z)) Q' E s:=by
 unfold A6
 refine AB (Bi gz rfl (x:=.none) rfl (AK h))
theorem Lu{z TI TO i1 i2 l1 l2 p:Addr}{k:Nat}{fl:Bool}{op:Obj}{xs ys:Array Value}{x y a b:Value}{Q:Value->AN->Prop}(D:Fb z TI TO i1 i2 l1 l2)(gz:dc s.heap z TI TO (A7 p) fl)(gp:s.heap.get? p=some op)(gI:CO s.heap TI (.ref i1) (.ref i2))(gO:CO s.heap TO a b)
  (g1:s.heap.IsTupleIter i1 l1 k) (g2:s.heap.IsTupleIter i2 l2 k) (m1:s.heap.IsTuple l1 xs) (m2:s.heap.IsTuple l2 ys) (ex:xs[k]? =some x) (ey:ys[k]? =some y)
  (q:∀h',dc h' z TI TO (A7 p) true->CO h' TO a b->h'.IsTupleIter i1 l1 (k+1)->h'.IsTupleIter i2 l2 (k+1)->CO h' s.heap.objs.size x y->h'.objs.size=s.heap.objs.size+1->
   (∀c o,c≠z->c≠TO->c≠i1->c≠i2->s.heap.get? c=some o->h'.get? c=some o)->Q (.ref s.heap.objs.size) {s with heap:=h'}):
  wpAny (model prog w) A (Cz.«zip.__next__» ⟨[.ref z],[]⟩) (λfin s'=>∃v,fin=.done (.ret v)/\Q v s') E s:=by
 show wpAny _ _ (field (.ref z) 2 >>= _) _ _ _;refine AB (Bi gz rfl (x:=.bool false) rfl ?_)
 show wpAny _ _ (field (.ref z) 3 >>= _) _ _ _;refine AB (Bi gz rfl (x:=.ref TI) rfl ?_);refine AB (Ca gI rfl ?_)
 show wpAny _ _ (A6 (.ref z) >>= _) _ _ _
 refine AB (B0 (xv gz gp) (λr s' h=>?_) λ_ _ h=>h)
 obtain⟨rfl,h0,rfl,z0,sb⟩:=h
 simp only[Cw,if_false,List.forIn_toArray,C7,Ea]
 refine AB (AB (AB (Bj ?_)))
 show wpAny _ _ (BV (.ref i1) >>= _) _ _ _
 refine AB (gC (bY g1 sb.extBut D.i1z) (dU m1 sb.extBut D.l1z) ex λh2 TU s2=>AK (AK ?_))
 refine AB (AB (Bj ?_))
 show wpAny _ _ (BV (.ref i2) >>= _) _ _ _
 refine AB (gC (bY (bY g2 sb.extBut D.i2z) s2.extBut D.i12.symm) (dU (dU m2 sb.extBut D.l2z) s2.extBut D.l2i1) ey λh3 it3 s3=>AK (AK (AK ?_)))
 show wpAny _ _ (newTuple [x,y] >>= _) _ _ _
 refine AB (HD ?_)
 have sz:h3.objs.size=s.heap.objs.size:=by rw[s3.1,s2.1,sb.1]
 refine AK ⟨_,rfl,?_⟩
 have up:∀c o,h3.get? c=some o->(h3.push {cls:=.type "tuple",data:=.seq #[x,y]}).get? c=some o:=λc o e=>AG _ e
 show Q (.ref h3.objs.size) _
 have T8:CO (h3.push {cls:=.type "tuple",data:=.seq #[x,y]}) h3.objs.size x y:=AU _ rfl
 have a3:h3.IsTupleIter i1 l1 (k+1):=bY TU s3.extBut D.i12
 rw[sz] at T8 ⊢
 exact q _ (up _ _ (s3.extBut _ _ D.i2z.symm (s2.extBut _ _ D.i1z.symm z0))) (up _ _ (s3.extBut _ _ D.TOi2 (s2.extBut _ _ D.TOi1 (sb.extBut _ _ D.TOz gO)))) (let ⟨o,ho,r⟩:=a3;⟨o,up _ _ ho,r⟩) (let ⟨o,ho,r⟩:=it3;⟨o,up _ _ ho,r⟩) T8 (by rw[BG,sz]) λc o c1 c2 c3 c4 e=>up _ _ (s3.extBut _ _ c4 (s2.extBut _ _ c3 (sb.extBut _ _ c1 e)))
theorem Jn{z TI TO i1 i2 l1 l2 p:Addr}{k:Nat}{fl:Bool}{op:Obj}{xs ys:Array Value}{a b:Value}{Q:Fin->AN->Prop}(hh:A.handled=none)(D:Fb z TI TO i1 i2 l1 l2)(gz:dc s.heap z TI TO (A7 p) fl)(gp:s.heap.get? p=some op)(gI:CO s.heap TI (.ref i1) (.ref i2))
  (g1:s.heap.IsTupleIter i1 l1 k) (m1:s.heap.IsTuple l1 xs) (ex:xs[k]? =none)
  (q:∀h' e,(∀c o,c≠z->c≠TO->c≠i1->c≠i2->s.heap.get? c=some o->h'.get? c=some o)->(∃o,h'.get? e=some o/\o.cls=.type "StopIteration")->E (.ref e) {s with heap:=h'}):
  wpAny (model prog w) A (Cz.«zip.__next__» ⟨[.ref z],[]⟩) Q E s:=by
 show wpAny _ _ (field (.ref z) 2 >>= _) _ _ _;refine AB (Bi gz rfl (x:=.bool false) rfl ?_)
 show wpAny _ _ (field (.ref z) 3 >>= _) _ _ _;refine AB (Bi gz rfl (x:=.ref TI) rfl ?_);refine AB (Ca gI rfl ?_)
 show wpAny _ _ (A6 (.ref z) >>= _) _ _ _
 refine AB (B0 (xv gz gp) (λr s' h=>?_) λ_ _ h=>h)
 obtain⟨rfl,h0,rfl,z0,sb⟩:=h
 simp only[Cw,if_false,List.forIn_toArray,C7,Ea]
 refine AB (AB (AB (Bj ?_)))
 show wpAny _ _ (BV (.ref i1) >>= _) _ _ _
 exact AB (iY hh (bY g1 sb.extBut D.i1z) (dU m1 sb.extBut D.l1z) ex λh2 e s2 he=>q h2 e (λc o c1 _ c3 _ x=>s2 _ _ c3 (sb.extBut _ _ c1 x)) he)
theorem Lv{z TI TO i1 i2 l1 l2:Addr}{k:Nat}{f0:Value}{fl:Bool}{xs ys:Array Value}{x y a b:Value}{Q:Option Value->AN->Prop}(D:Fb z TI TO i1 i2 l1 l2)(gz:dc s.heap z TI TO f0 fl)(hf:f0=.none∨∃p:Nat,f0=A7 p)(gI:CO s.heap TI (.ref i1) (.ref i2))(gO:CO s.heap TO a b)
  (g1:s.heap.IsTupleIter i1 l1 k) (g2:s.heap.IsTupleIter i2 l2 k) (m1:s.heap.IsTuple l1 xs) (m2:s.heap.IsTuple l2 ys) (ex:xs[k]? =some x) (ey:ys[k]? =some y)
  (q:∀h' f0' TV a' b',dc h' z TI TO f0' TV->(∃p:Nat,f0'=A7 p)->(f0=.none->f0'=A7 s.heap.objs.size/\TV=false)->CO h' TO a' b'->h'.IsTupleIter i1 l1 (k+1)->h'.IsTupleIter i2 l2 (k+1)->CO h' s.heap.objs.size x y->h'.objs.size=s.heap.objs.size+1->
   (∀c o,c≠z->c≠TO->c≠i1->c≠i2->s.heap.get? c=some o->h'.get? c=some o)->Q (some (.ref s.heap.objs.size)) {s with heap:=h'}):wpAny (model prog w) A (D9 (.ref z)) Q E s:=by
 have ty:s.TypeIs (.ref z) "zip":=⟨_,gz,rfl⟩
 unfold D9
 refine AB (ED (Ba (name:=Co "__next__") ty Dn (Bb Dn ty Ge ?_ (GQ _))))
 rcases hf with rfl | ⟨p,rfl⟩
 ·exact vn D gz (xy gz) gI gO g1 g2 m1 m2 ex ey λh' a1 a2 a3 a4 a5 a6 a7=>AK (q h' _ _ _ _ a1 ⟨_,rfl⟩ (λ_=>⟨rfl,rfl⟩) a2 a3 a4 a5 a6 a7)
 ·cases gp:s.heap.get? p with
  | none=>exact vn D gz (xx gz gp) gI gO g1 g2 m1 m2 ex ey λh' a1 a2 a3 a4 a5 a6 a7=>AK (q h' _ _ _ _ a1 ⟨_,rfl⟩ (λz=>nomatch z) a2 a3 a4 a5 a6 a7)
  | some op=>exact Lu D gz gp gI gO g1 g2 m1 m2 ex ey λh' a1 a2 a3 a4 a5 a6 a7=>AK (q h' _ _ _ _ a1 ⟨_,rfl⟩ (λz=>nomatch z) a2 a3 a4 a5 a6 a7)
theorem Jo{z TI TO i1 i2 l1 l2:Addr}{k:Nat}{f0:Value}{fl:Bool}{xs ys:Array Value}{a b:Value}{Q:Option Value->AN->Prop}(hh:A.handled=none)(D:Fb z TI TO i1 i2 l1 l2)(gz:dc s.heap z TI TO f0 fl)(hf:f0=.none∨∃p:Nat,f0=A7 p)(gI:CO s.heap TI (.ref i1) (.ref i2))(gO:CO s.heap TO a b)
  (g1:s.heap.IsTupleIter i1 l1 k) (g2:s.heap.IsTupleIter i2 l2 k) (m1:s.heap.IsTuple l1 xs) (m2:s.heap.IsTuple l2 ys) (ex:xs[k]? =none)
  (q:∀h',(∀c o,c≠z->c≠TO->c≠i1->c≠i2->s.heap.get? c=some o->h'.get? c=some o)->Q none {s with heap:=h'}):wpAny (model prog w) A (D9 (.ref z)) Q E s:=by
 have ty:s.TypeIs (.ref z) "zip":=⟨_,gz,rfl⟩
 unfold D9
 refine AB (ED (Ba (name:=Co "__next__") ty Dn (Bb Dn ty Ge ?_ (GQ _))))
 rcases hf with rfl | ⟨p,rfl⟩
 ·exact rX hh D gz (xy gz) gI gO g1 g2 m1 m2 ex λh' e hk he=>(by
   obtain⟨o,ho,hc⟩:=he
   exact AB (D3 (T:="StopIteration") (b:=true) ⟨o,ho,hc⟩ Fc (AK (q _ hk))))
 ·cases gp:s.heap.get? p with
  | none=>exact rX hh D gz (xx gz gp) gI gO g1 g2 m1 m2 ex λh' e hk he=>(by
    obtain⟨o,ho,hc⟩:=he
    exact AB (D3 (T:="StopIteration") (b:=true) ⟨o,ho,hc⟩ Fc (AK (q _ hk))))
  | some op=>exact Jn (ys:=ys) (a:=a) (b:=b) hh D gz gp gI g1 m1 ex λh' e hk he=>(by
    obtain⟨o,ho,hc⟩:=he
    exact AB (D3 (T:="StopIteration") (b:=true) ⟨o,ho,hc⟩ Fc (AK (q _ hk))))
abbrev Lw (h:Heap)(l1 l2:Addr):Heap:=(h.push (zK l1)).push (zK l2)
abbrev P9 (h:Heap)(l1 l2:Addr):Heap:=(Lw h l1 l2).push {cls:=.type "tuple",data:=.seq #[.ref h.objs.size,.ref (h.push (zK l1)).objs.size]}
abbrev Lx (h:Heap)(l1 l2:Addr):Heap:=(P9 h l1 l2).push {cls:=.type "tuple",data:=.seq #[.none,.none]}
abbrev vo (h:Heap)(l1 l2:Addr):Heap:=(Lx h l1 l2).push {cls:=.type "zip",data:=.fields #[.none,.bool false,.bool false,.ref (Lw h l1 l2).objs.size,.ref (P9 h l1 l2).objs.size]}
theorem Jp(l1 l2:Addr)(xs ys:Array Value):Meets (Cz.«zip.__new__» ⟨[.type "zip",.ref l1,.ref l2],[]⟩) (λ_ R s=>s.heap.IsTuple l1 xs/\s.heap.IsTuple l2 ys/\R (.ok (.ret (.ref (Lx s.heap l1 l2).objs.size))) {s with heap:=vo s.heap l1 l2}):=
 .of_wp λprog w A R s h=>by
  obtain⟨hp,g,d,tk,os⟩:=s;obtain⟨m1,m2,h⟩:=h
  have hsub:=PySem.sub_zip
  have L1:Hn (IA ⟨hp,g,d,tk,os⟩) l1 xs:=m1
  have L2:Hn (IA ⟨hp.push (zK l1),g,d,tk,os⟩) l2 ys:=let ⟨o,ho,r⟩:=m2;⟨o,AG _ ho,r⟩
  wp_walk using Ct L1,Ct L2
  exact⟨_,rfl,h⟩
theorem Ly{l1 l2:Addr}{xs ys:Array Value}{Q:Value->AN->Prop}(m1:s.heap.IsTuple l1 xs)(m2:s.heap.IsTuple l2 ys)
  (q:∀h',IsZip h' (s.heap.objs.size+4) (s.heap.objs.size+2) (s.heap.objs.size+3) .none->CO h' (s.heap.objs.size+2) (.ref s.heap.objs.size) (.ref (s.heap.objs.size+1))->
   CO h' (s.heap.objs.size+3) .none .none->h'.IsTupleIter s.heap.objs.size l1 0->h'.IsTupleIter (s.heap.objs.size+1) l2 0->
   (∀c o,s.heap.get? c=some o->h'.get? c=some o)->Q (.ref (s.heap.objs.size+4)) {s with heap:=h'}):wpAny (model prog w) A (call (.type "zip") [.ref l1,.ref l2]) Q E s:=by
 refine callType_new PySem.F.called_zip (by decide) (PySem.F.typeCall_zip_2 _ _) (PySem.F.newCall_zip_2 _ _) (λobj=>PySem.F.args_object_init_3 obj _ _) PySem.F.entry_zip_new (Jp l1 l2 xs ys) ⟨m1,m2,?_⟩
 have e1:(s.heap.push (zK l1)).objs.size=s.heap.objs.size+1:=BG ..
 have e2:(Lw s.heap l1 l2).objs.size=s.heap.objs.size+2:=by rw[BG,e1]
 have e3:(P9 s.heap l1 l2).objs.size=s.heap.objs.size+3:=by rw[BG,e2]
 have e4:(Lx s.heap l1 l2).objs.size=s.heap.objs.size+4:=by rw[BG,e3]
 have p5:(vo s.heap l1 l2).get? (Lx s.heap l1 l2).objs.size=some _:=AU _ rfl
 have up:∀{c:Addr} {o:Obj},(Lx s.heap l1 l2).get? c=some o->(vo s.heap l1 l2).get? c=some o:=λx=>AG _ x
 have p4:(vo s.heap l1 l2).get? (P9 s.heap l1 l2).objs.size=some _:=up (AU _ rfl)
 have p3:(vo s.heap l1 l2).get? (Lw s.heap l1 l2).objs.size=some _:=up (AG _ (AU _ rfl))
 have TX:∀{c:Addr} {o:Obj},(Lw s.heap l1 l2).get? c=some o->(vo s.heap l1 l2).get? c=some o:=λx=>up (AG _ (AG _ x))
 have p2:(vo s.heap l1 l2).get? (s.heap.push (zK l1)).objs.size=some _:=TX (AU _ rfl)
 have p1:(vo s.heap l1 l2).get? s.heap.objs.size=some _:=TX (AG _ (AU _ rfl))
 show _/\_
 rw[e2,e3,e4] at p5
 rw[e1,e2] at p3
 rw[e3] at p4
 rw[e1] at p2
 rw[e4]
 exact⟨⟨_,p5,rfl⟩,q _ p5 p3 p4 ⟨_,p1,rfl,rfl⟩ ⟨_,p2,rfl,rfl⟩ λc o x=>TX (AG _ (AG _ x))⟩
end
def Oe(K:AE)(a b:Addr):It:=
 ⟨λi H=>∃xs ys x y,bN K H a xs/\bN K H b ys/\xs[i]? =some x/\ys[i]? =some y,
  λi H v H'=>∃x y p,(∀xs,bN K H a xs->xs[i]? =some x)/\(∀ys,bN K H b ys->ys[i]? =some y)/\H p=none/\v=.ref p/\H'=upd H p (.tup [x,y]),
  λi H=>∃xs ys,bN K H a xs/\bN K H b ys/\xs.length<=i⟩
theorem Lz{P:Az}{w:World}{K:AE}{elts:List Expr}{x1}{tpos:Pos}(a b z TI TO i1 i2:Addr)(D:Fb z TI TO i1 i2 a b):
  Turn P w K (.Tuple elts x1 tpos) (Oe K a b) [z,TO,i1,i2,TI] z (λi h=>IsZip h z TI TO .none/\CO h TI (.ref i1) (.ref i2)/\(∃x y,CO h TO x y)/\h.IsTupleIter i1 a i/\h.IsTupleIter i2 b i) where
 mem:=by simp
 obj:=λi h st c hc=>by
  obtain⟨hz,hTI,⟨x,y,hTO⟩,h1,h2⟩:=st
  have hc':c=z∨c=TO∨c=i1∨c=i2∨c=TI:=by simpa using hc
  rcases hc' with q | q | q | q | q
  ·subst q;exact⟨_,hz,λv e=>nomatch e⟩
  ·subst q;exact⟨_,hTO,λv e=>nomatch e⟩
  ·subst q
   obtain⟨o,e,_,d⟩:=h1
   exact⟨o,e,λv q=>by rw[d] at q;cases q⟩
  ·subst q
   obtain⟨o,e,_,d⟩:=h2
   exact⟨o,e,λv q=>by rw[d] at q;cases q⟩
  ·subst q;exact⟨_,hTI,λv e=>nomatch e⟩
 keep:=λi h h' st k=>by
  obtain⟨hz,hTI,⟨x,y,hTO⟩,h1,h2⟩:=st
  exact⟨k z (by simp) _ hz,k TI (by simp) _ hTI,⟨x,y,k TO (by simp) _ hTO⟩,let ⟨o,ho,r⟩:=h1;⟨o,k i1 (by simp) o ho,r⟩,let ⟨o,ho,r⟩:=h2;⟨o,k i2 (by simp) o ho,r⟩⟩
 item:=by
  intro X hP hw hK hc i pins s σ H E I hf st hg
  subst hP hw hK
  obtain⟨hz,hTI,⟨u1,u2,hTO⟩,h1,h2⟩:=st
  obtain⟨xs,ys,x,y,hq,hq2,hx,hy⟩:=hg
  obtain⟨its,rv,p,_⟩:=I.tuple hq
  obtain⟨its2,ve,p2,_⟩:=I.tuple hq2
  obtain⟨u,hu,ru⟩:=rv.get hx
  obtain⟨v,hv,rv'⟩:=ve.get hy
  refine Lv D hz (.inl rfl) hTI hTO h1 h2 (show s.heap.IsTuple a its.toArray from p) (show s.heap.IsTuple b its2.toArray from p2) (x:=u) (y:=v) (by simpa using hu) (by simpa using hv) λh1' f0' TV a' b' a1 _ aw a2 a3 a4 a5 a6 kk=>?_
  obtain⟨rfl,rfl⟩:=aw rfl
  have nn:H s.heap.objs.size=none:=I.hok.fresh (AM _)
  have xl:∀c∈[z,TO,i1,i2],gy X pins H c:=λc hc=>hf c (by
   have hc':c=z∨c=TO∨c=i1∨c=i2:=by simpa using hc
   rcases hc' with q | q | q | q<;>simp[q])
  have I1:Inv X pins σ (upd H s.heap.objs.size (.tup [x,y])) {s with heap:=h1',toks:=s.toks}:=
   I.m9 (ch:=[z,TO,i1,i2]) xl (λc o hc q=>kk c o (λe=>hc (by simp[e])) (λe=>hc (by simp[e])) (λe=>hc (by simp[e])) (λe=>hc (by simp[e])) q) (AM _)
    ⟨⟨by show 2<=sizeLine;decide,_,a5,rfl⟩,[u,v],.cons ru (.cons rv' .nil),⟨_,a5,rfl,_,rfl⟩⟩
  have lz:z<s.heap.objs.size:=AX hz
  have Tj:TI<s.heap.objs.size:=AX hTI
  have Tn:TO<s.heap.objs.size:=AX hTO
  have l1:i1<s.heap.objs.size:=by obtain⟨o,q,_⟩:=id h1;exact AX q
  have l2:i2<s.heap.objs.size:=by obtain⟨o,q,_⟩:=id h2;exact AX q
  refine⟨_,rfl,Fm a1 λh2' e2 sb=>?_⟩
  obtain⟨f0,f1,f2,f3,f4,f5⟩:=hf z (by simp)
  have I2:=I1.turned (h':=h2') (t':=s.toks) (it:=z) (λc o hc q=>(sb.2 c hc).trans q) (by rw[ao (Ap lz)];exact f0) f1 f3 f4 f5
  refine⟨.ref s.heap.objs.size,_,I2,rfl,⟨x,y,s.heap.objs.size,λzs hy=>by rw[I.ja hy hq];exact hx,λzs hz'=>by rw[I.ja hz' hq2];exact hy,nn,rfl,rfl⟩,
   ⟨e2,(sb.2 TI D.TIz).trans (kk _ _ D.TIz D.TITO D.TIi1 D.TIi2 hTI),⟨_,_,(sb.2 TO D.TOz).trans a2⟩,let ⟨o,ho,r⟩:=a3;⟨o,(sb.2 i1 D.i1z).trans ho,r⟩,let ⟨o,ho,r⟩:=a4;⟨o,(sb.2 i2 D.i2z).trans ho,r⟩⟩,λc hc=>?_⟩
  have hlt:c<s.heap.objs.size:=by
   have hc':c=z∨c=TO∨c=i1∨c=i2∨c=TI:=by simpa using hc
   rcases hc' with q | q | q | q | q
   ·rw[q];exact lz
   ·rw[q];exact Tn
   ·rw[q];exact l1
   ·rw[q];exact l2
   ·rw[q];exact Tj
  rw[ao (Ap hlt)]
  exact(hf c hc).1
 done:=by
  intro X hP hw hK hc i pins s σ H E I hf st hg
  subst hP hw hK
  obtain⟨hz,hTI,⟨u1,u2,hTO⟩,h1,h2⟩:=st
  obtain⟨xs,ys,hq,hq2,hx⟩:=hg
  obtain⟨its,rv,p,_⟩:=I.tuple hq
  obtain⟨its2,ve,p2,_⟩:=I.tuple hq2
  have hl:=rv.length
  have xl:∀c∈[z,TO,i1,i2],gy X pins H c:=λc hc=>hf c (by
   have hc':c=z∨c=TO∨c=i1∨c=i2:=by simpa using hc
   rcases hc' with q | q | q | q<;>simp[q])
  exact Jo (I.ok.hd hc) D hz (.inl rfl) hTI hTO h1 h2 (show s.heap.IsTuple a its.toArray from p) (show s.heap.IsTuple b its2.toArray from p2) (by simp;omega) λh' kk=>
   ⟨rfl,I.zI (t':=s.toks) (ch:=[z,TO,i1,i2]) xl (λc o hc q=>kk c o (λe=>hc (by simp[e])) (λe=>hc (by simp[e])) (λe=>hc (by simp[e])) (λe=>hc (by simp[e])) q)⟩
 self:=λ_ _ _ _ _ st h=>Eo st.1 h
def Qa(K:AE)(ta:TA):TI:=λσ H R=>ta σ H λvs H1=>∃a b,vs=[.ref a,.ref b]/\(∃xs,bN K H1 a xs)/\(∃ys,bN K H1 b ys)/\R (Oe K a b) H1
theorem Ry{X:Cx}{elts:List Expr}{x1}{tpos:Pos}{a b:Expr}{ta:TA}{p pos:Pos}(hg:Gl X "zip")(hm:X.mg "zip"=none)(ha:PA X [a,b] ta)
  (hs:BL [a,b] X.env=[(false,eval a X.env),(false,eval b X.env)]:=by rfl) (hs2:BL [b] X.env=[(false,eval b X.env)]:=by rfl):
  PI X (.Tuple elts x1 tpos) (.Call (.Name "zip" p) [a,b] [] pos) (Qa X.K ta):=by
 intro pins s σ H R I h
 refine Call_ (i' I hg hm boot_zip (B3 (aM (ha pos pins s σ H _ I h) λus s1 ⟨vs,H1,I1,r1,q1⟩=>?_) (by rw[hs,hs2]) (by rw[hs2];rfl)))
 obtain⟨l1,l2,e,⟨xs,hq⟩,⟨ys,hq2⟩,q⟩:=q1
 subst e
 cases r1 with
 | cons r rr=>
  cases rr with
  | cons r' rr=>
   cases rr
   cases r
   cases r'
   obtain⟨its,rv,pl,_⟩:=I1.tuple hq
   obtain⟨its2,ve,Lb,_⟩:=I1.tuple hq2
   have a1:l1<s1.heap.objs.size:=by obtain⟨_,e,_⟩:=(show s1.heap.IsTuple l1 its.toArray from pl);exact AX e
   have a2:l2<s1.heap.objs.size:=by obtain⟨_,e,_⟩:=(show s1.heap.IsTuple l2 its2.toArray from Lb);exact AX e
   refine Ly (show s1.heap.IsTuple l1 its.toArray from pl) (show s1.heap.IsTuple l2 its2.toArray from Lb) λh' hz hTI hTO hi1 hi2 kk=>?_
   have I2:Inv X pins σ H1 {s1 with heap:=h'}:=I1.kept (t':=s1.toks) kk
   refine Eo hz ?_
   refine⟨s1.heap.objs.size+4,[s1.heap.objs.size+4,s1.heap.objs.size+3,s1.heap.objs.size,s1.heap.objs.size+1,s1.heap.objs.size+2],_,_,H1,rfl,I2,Lz l1 l2 _ _ _ _ _ (zipApart_new a1 a2),⟨hz,hTI,⟨_,_,hTO⟩,hi1,hi2⟩,λc hc=>?_,q⟩
   have hle:s1.heap.objs.size<=c:=by
    have hc':c=s1.heap.objs.size+4∨c=s1.heap.objs.size+3∨c=s1.heap.objs.size∨c=s1.heap.objs.size+1∨c=s1.heap.objs.size+2:=by simpa using hc
    rcases hc' with q | q | q | q | q<;>(rw[q];first | exact Nat.le_add_right _ _ | exact AM _)
   exact I1.iE hle (I1.hok.fresh hle)
theorem LA{K:AE}{a b:Addr}{xs ys:List V}{g:TG}{tt:TT}{te:TE}{D:Addr}{σ:St}{H:Hp}{R:Hp->Prop}(Pv:Nat->St->Hp->Prop)(hlen:xs.length=ys.length)(h0:Pv 0 σ H)(hl:∀i σ H,i<=xs.length->Pv i σ H->bN K H a xs/\bN K H b ys)
  (hs:∀i x y p σ H,xs[i]? =some x->ys[i]? =some y->Pv i σ H->H p=none->g (.ref p) σ (upd H p (.tup [x,y])) λσ2 H2=>tt σ2 H2 λb H3=>if b=true then te σ2 H3 λy H4=>∃ys,H4 D=some (.lst ys)/\ys.length<sizeLine/\Pv (i+1) σ2 (upd H4 D (.lst (ys++[y]))) else Pv (i+1) σ2 H3)
  (hd:∀σ H,Pv xs.length σ H->R H):iX (Oe K a b) g tt te D σ H R:=by
 refine⟨λi m σ H=>m=xs.length-i/\i<=xs.length/\Pv i σ H,⟨xs.length,by simp,BI _,h0⟩,?_⟩
 rintro i m σ H ⟨rfl,hi,p⟩
 obtain⟨q1,q2⟩:=hl i σ H hi p
 by_cases hlt:i<xs.length
 ·refine .inr ⟨⟨xs,ys,xs[i],ys[i]'(by omega),q1,q2,by simp[hlt],by simp[hlen▸hlt]⟩,Pv (i+1),λσ' H' p'=>⟨xs.length-(i+1),by omega,rfl,hlt,p'⟩,λv H' y=>?_⟩
  obtain⟨x,y,p',e1,e2,e3,rfl,rfl⟩:=y
  exact hs i x y p' σ H (e1 xs q1) (e2 ys q2) p e3
 ·have e:i=xs.length:=by omega
  subst e
  exact .inl ⟨⟨xs,ys,q1,q2,AM _⟩,hd σ H p⟩
theorem aA{t u:TS}{D:Ends}{σ:St}{H:Hp}(h:∀R:St->Hp->Prop,R=u D->t {D with nx:=R} σ H):md t u D σ H:=h _ rfl
theorem fP{t u:TS}{D:Ends}{σ:St}{H:Hp}(Pv:St->Hp->Prop)(h1:∀σ H,Pv σ H->u D σ H)(h2:∀R:St->Hp->Prop,(∀σ H,Pv σ H->R σ H)->t {D with nx:=R} σ H):md t u D σ H:=h2 _ h1
def wB(J:It)(g:TG)(tb:TS)(D:Ends)(σ:St)(H:Hp):Prop:=∃W:Nat->Nat->St->Hp->Prop,(∃m,W 0 m σ H)/\∀i m σ H,W i m σ H->
 (J.stop i H/\D.nx σ H)∨(J.go i H/\∃N:St->Hp->Prop,(∀σ' H',N σ' H'->∃m',m'<m/\W (i+1) m' σ' H')/\∀x H',J.oJ i H x H'->g x σ H' λσ2 H2=>tb {D with nx:=N,ct:=N,bk:=D.nx} σ2 H2)
theorem g5{K:AE}{a:Addr}{xs:List V}{g:TG}{tb:TS}{D:Ends}{σ:St}{H:Hp}(Pv:Nat->St->Hp->Prop)(h0:Pv 0 σ H)(hl:∀i σ H,i<=xs.length->Pv i σ H->bC K H a xs)
  (hs:∀i x σ H (N:St->Hp->Prop),(∀σ H,Pv (i+1) σ H->N σ H)->xs[i]? =some x->Pv i σ H->g x σ H λσ2 H2=>tb {D with nx:=N,ct:=N,bk:=D.nx} σ2 H2) (hd:∀σ H,Pv xs.length σ H->D.nx σ H):wB (wL K a) g tb D σ H:=
 gN Pv h0 hl (λi x σ H e p=>hs i x σ H _ (λ_ _ z=>z) e p) hd
theorem kE{K:AE}{a:Addr}{xs:List V}{g:TG}{tb:TS}{D:Ends}{σ:St}{H:Hp}(Pv:Nat->St->Hp->Prop)(h0:Pv 0 σ H)(hl:∀i σ H,i<=xs.length->Pv i σ H->bN K H a xs)
  (hs:∀i x σ H (N:St->Hp->Prop),(∀σ H,Pv (i+1) σ H->N σ H)->xs[i]? =some x->Pv i σ H->g x σ H λσ2 H2=>tb {D with nx:=N,ct:=N,bk:=D.nx} σ2 H2) (hd:∀σ H,Pv xs.length σ H->D.nx σ H):wB (uR K a) g tb D σ H:=
 zo Pv h0 hl (λi x σ H e p=>hs i x σ H _ (λ_ _ z=>z) e p) hd
theorem cP{lo:Int}{n:Nat}{g:TG}{tb:TS}{D:Ends}{σ:St}{H:Hp}(Pv:Nat->St->Hp->Prop)(h0:Pv 0 σ H)
  (hs:∀i σ H (N:St->Hp->Prop),(∀σ H,Pv (i+1) σ H->N σ H)->i<n->Pv i σ H->g (.int (lo+i)) σ H λσ2 H2=>tb {D with nx:=N,ct:=N,bk:=D.nx} σ2 H2) (hd:∀σ H,Pv n σ H->D.nx σ H):wB (uS lo n) g tb D σ H:=
 gZ (lo:=lo) Pv h0 (λi σ H e p=>hs i σ H _ (λ_ _ z=>z) e p) hd
theorem LB{d:Addr}{ob:Obj}{kvs:List (Key×V)}{g:TG}{tb:TS}{D:Ends}{σ:St}{H:Hp}(Pv:Nat->St->Hp->Prop)(h0:Pv 0 σ H)(hl:∀i σ H,i<=kvs.length->Pv i σ H->H d=some (.dC ob (.dK kvs)))
  (hs:∀i k v σ H (N:St->Hp->Prop),(∀σ H,Pv (i+1) σ H->N σ H)->kvs[i]? =some (k,v)->Pv i σ H->g (kV k) σ H λσ2 H2=>tb {D with nx:=N,ct:=N,bk:=D.nx} σ2 H2) (hd:∀σ H,Pv kvs.length σ H->D.nx σ H):wB (qf d ob kvs) g tb D σ H:=
 N0 Pv h0 hl (λi k v σ H e p=>hs i k v σ H _ (λ_ _ z=>z) e p) hd
theorem j1{c:TT}{tb:TS}{D:Ends}{σ:St}{H:Hp}(W:Nat->St->Hp->Prop)(h0:∃m,W m σ H)
  (hs:∀m σ H (N:St->Hp->Prop),(∀σ' H' m',m'<m->W m' σ' H'->N σ' H')->W m σ H->c σ H λb H1=>if b=true then tb {D with nx:=N,ct:=N,bk:=D.nx} σ H1 else D.nx σ H1)
  (mono:∀σ H Q Q',(∀b H1,Q b H1->Q' b H1)->c σ H Q->c σ H Q'):oI c tb D σ H:=TN W h0 (λm σ H w=>hs m σ H _ (λ_ _ m' h w'=>⟨m',h,w'⟩) w) mono
section
variable{X:Cx}{pins:List (Addr×Obj)}{σ:St}{H:Hp}{s:AN}
theorem Og(I:Inv X pins σ H s){T:Addr}{ps:Array Value}{L:List (Pos×Str)}{q:Pos×Str}(hT:H T=some (.fw ps))(ht:HI ps.toList)(htab:∀p∈L,DU p.1 ps.toList=none∨∃c,DU p.1 ps.toList=some (.ref c)/\H c=some (lg c p.2))(hL:q∈L)(ap:Apart L)
  {c':Addr} {h':Heap} {tk:Tok} (o:Obj) (ho:o.isFreed=false) (hx:ES T s.heap h') (hge:s.heap.objs.size<=c') (hlt:c'<h'.objs.size) (hrec:h'.CodeRec (.ref c') q.2) (htb:h'.get? T=some (B5 (ps++ #[A7 q.1.line,A7 q.1.col,.ref c']))):
  ∃H',Inv X pins σ H' {s with heap:=h'.push o,toks:=tk}/\H h'.objs.size=none/\H' h'.objs.size=some (k_ h'.objs.size o)/\H' c'=some (lg c' q.2)/\Tab H' T L/\KB T H H':=by
 have nc:H c'=none:=I.hok.fresh hge
 have Lm:s.heap.objs.size<=h'.objs.size:=CG (Cv hge hlt)
 have nf:H h'.objs.size=none:=I.hok.fresh Lm
 have fc:h'.objs.size≠c':=Cm hlt
 have Tc:T≠c':=aq hT nc
 have Tf:T≠h'.objs.size:=aq hT nf
 have keep:∀b u,b≠T->s.heap.get? b=some u->(h'.push o).get? b=some u:=λb u hb e=>AG _ (hx b u hb e)
 obtain⟨H',hH⟩:∃H':Hp,H'=upd (upd (upd H T (.fw (ps++ #[A7 q.1.line,A7 q.1.col,.ref c']))) c' (lg c' q.2)) h'.objs.size (k_ h'.objs.size o):=⟨_,rfl⟩
 have eT:H' T=some (.fw (ps++ #[A7 q.1.line,A7 q.1.col,.ref c'])):=by rw[hH,ao Tf,ao Tc,af]
 have ec:H' c'=some (lg c' q.2):=by rw[hH,ao fc.symm,af]
 have ef:H' h'.objs.size=some (k_ h'.objs.size o):=by rw[hH,af]
 have eo:∀b,b≠T->b≠c'->b≠h'.objs.size->H' b=H b:=λb h1 h2 h3=>by rw[hH,ao h3,ao h2,ao h1]
 have kb:KB T H H':=λb u e hb=>by rw[eo b hb (aq e nc) (aq e nf)];exact e
 have hnew:∀b u,s.heap.get? b=some u->b≠c'/\b≠h'.objs.size:=λb u e=>⟨Ap (Ab (AX e) hge),Ap (Ab (AX e) Lm)⟩
 have Oh:=Tab.grown (H:=H) (H':=H') hL ap ht htab eT ec λb φ e=>kb b _ e λz=>by rw[z,hT] at e;cases e
 have hok':dq X.prog X.w H' (h'.push o):=λb u e=>by
  by_cases b1:b=T
  ·subst b1
   rw[eT] at e;cases e
   exact AG _ htb
  by_cases b2:b=c'
  ·subst b2
   rw[ec] at e;cases e
   exact Lk (hrec.push _)
  by_cases b3:b=h'.objs.size
  ·subst b3
   rw[ef] at e;cases e
   exact rP (AU _ ho)
  rw[eo b b1 b2 b3] at e
  refine(I.hok b u e).stay (λd v hd z=>keep d v ?_ z) (λd z=>kb d _ z ?_) λd xs z=>kb d _ z ?_
  ·rintro rfl
   rcases hd with z' | z'
   ·exact b1 z'.symm
   ·rw[hT] at z';cases z'
  ·rintro rfl;rw[hT] at z;cases z
  ·rintro rfl;rw[hT] at z;cases z
 have neT:∀b,H b=none->b≠T:=λb n z=>by rw[z,hT] at n;cases n
 refine⟨H',I.un ⟨λb u e n _ _=>keep b u (neT b n) e,λb u e n _ _=>⟨u.slots,keep b u (neT b n) e⟩,λb u e n _=>by rw[eo b (neT b n) (hnew b u e).1 (hnew b u e).2];exact n,λb u e _=>?_,λb xs e=>kb b _ e λz=>?_,λb u v e=>kb b _ e λz=>?_,λb qs e=>?_⟩ hok',nf,ef,ec,Oh,kb⟩
 ·by_cases hb:b=T
  ·subst hb;exact⟨_,AG _ htb⟩
  ·exact⟨u,keep b u hb e⟩
 ·rw[z,hT] at e;cases e
 ·rw[z,hT] at e;cases e
 ·by_cases hb:b=T
  ·subst hb
   rw[hT] at e;cases e
   exact⟨_,eT⟩
  ·exact⟨#[],by rw[kb b _ e hb];simp⟩
end
section
variable{X:Cx}{pos:Pos}{name:Str}{params:Cs}{body:List Stmt}{scope:Scope}{c T:Addr}{clos:List (Str×Addr)}{L:List (Pos×Str)}
abbrev qP (X:Cx)(name:Str)(params:Cs)(body:List Stmt)(scope:Scope)(clos:List (Str×Addr))(doc:Value)(c':Addr)(ctv:Value):Obj:=PySem.W.fnMade name (Dz X.env name name) params body scope clos doc ((X.mg "__name__").getD .none) c' ctv
def TY(X:Cx)(name:Str)(params:Cs)(body:List Stmt)(scope:Scope)(clos:List (Str×Addr))(T:Addr)(L:List (Pos×Str))(i:Nat):TS:=λD σ H=>
 Tab H T L/\∀f c' ctv doc H',H f=none->H' f=some (k_ f (qP X name params body scope clos doc c' ctv))->H' c'=some (lg c' (Dz X.env name name))->Tab H' T L->KB T H H'->D.nx (σ.set i (some (.ref f))) H'
theorem T_{i:Nat}(hN:X.N.Nodup)(hi:X.N[i]? =some name)(hx:Loc X.env.scope name)(hcode:X.env.code=.ref c)(C:Dy X.base c T)(hB:fj X.mg X.base)(hcl:FY scope X.env=pure clos)(hd0:params.defaults=[])(hk0:params.kw_defaults=[])(ha:annTrees params none X.env=[])
  (hL:(pos,Dz X.env name name)∈L) (ap:Apart L) (hf:X.fn name=true∨X.env.scope.names.lookup name=some .local:=by first | exact .inl rfl | exact .inr rfl | assumption):
  PS X (.FunctionDef name params body [] none [] scope none name pos) (TY X name params body scope clos T L i):=by
 intro pins s σ H D I ⟨⟨ps,hT,ht,htab⟩,h⟩
 refine PySem.W.nestDef_K hd0 hk0 ha ?_
 have rQ:s.heap.get? T=some (B5 ps):=I.hok T _ hT
 have hg:s.heap.Ns Ah X.mg:=I.ok.mod.glob.keeps I.bk
 have TC:Ah≠T:=λq=>by
  obtain⟨o,es,ep,e,hd,_⟩:=hg
  rw[q,rQ] at e;cases e;cases hd
 have xo:s.heap.BuiltinsAt X.mg T:=by
  obtain⟨bm,o,h1,h2,h3,h4,h5,h6⟩:=hB
  refine⟨bm,o,h1,h2,λq=>?_,λq=>?_,I.bk _ _ h3,h4,h5,h6⟩
  ·obtain⟨o',es,ep,e,hd,_⟩:=I.ok.mod.glob
   rw[q,e] at h3;cases h3;rw[hd] at h6;cases h6
  ·have:=I.bk _ _ h3
   rw[q,rQ] at this;cases this;cases h4
 have Ll:=C.keeps I.bk
 rcases htab _ hL with hn | ⟨c',hc',TF⟩
 ·refine PySem.W.makeFunction_K (mg:=X.mg) hcl I.ok.glob hg hcode Ll rQ ht hn TC xo λc' ctv doc h' tk hx' hge hlt hrec htb=>?_
  obtain⟨H',I',nf,ef,ec,Oh,kb⟩:=Og (tk:=tk) I hT ht htab hL ap (qP X name params body scope clos doc c' ctv) rfl hx' hge hlt hrec htb
  exact mZ I' hN hi hx (v:=.ref h'.objs.size) rfl (λs' T2=>⟨_,H',T2,h _ _ _ _ _ nf ef ec Oh kb⟩) hf
 ·refine PySem.W.makeFunction_hit (mg:=X.mg) hcl I.ok.glob hg hcode Ll rQ ht hc' xo λctv doc h' tk hk hsz=>?_
  have nf:H h'.objs.size=none:=I.hok.fresh hsz
  have keep:∀b o,s.heap.get? b=some o->(h'.push (qP X name params body scope clos doc c' ctv)).get? b=some o:=λb o e=>AG _ (hk b o e)
  have kb:Same H (upd H h'.objs.size (k_ h'.objs.size (qP X name params body scope clos doc c' ctv))):=λb o e=>by rw[ao (aq e nf)];exact e
  have I':=I.laid (t':=tk) keep hsz (rP (P:=X.prog) (w:=X.w) (H:=upd H h'.objs.size (k_ h'.objs.size (qP X name params body scope clos doc c' ctv))) (AU _ rfl))
  exact mZ I' hN hi hx (v:=.ref h'.objs.size) rfl (λs' T2=>⟨_,_,T2,h _ c' ctv doc _ nf af (kb _ _ TF) (Tab.same ⟨ps,hT,ht,htab⟩ kb) λb o e _=>kb b o e⟩) hf
end
theorem qQ(xs:Array Nat)(j:Nat)(mono:∀i k,i<k->k<xs.size->xs.getD i j<xs.getD k j):∀(fuel lo hi:Nat),hi-lo<=fuel->lo<=hi->hi<=xs.size->(∀i,i<lo->xs.getD i j<j)->(∀i,hi<=i->i<xs.size->j<=xs.getD i j)->
  Dq xs j fuel lo hi<=xs.size/\(∀i,i<Dq xs j fuel lo hi->xs.getD i j<j)/\(∀i,Dq xs j fuel lo hi<=i->i<xs.size->j<=xs.getD i j)
 | 0,lo,hi,hf,h1,h2,h3,h4=>by
  have:lo=hi:=by omega
  subst this
  unfold Dq
  exact⟨h2,h3,h4⟩
 | fuel+1,lo,hi,hf,h1,h2,h3,h4=>by
  unfold Dq
  by_cases lt:lo<hi
  ·rw[if_pos lt]
   dsimp only
   by_cases q:xs.getD ((lo+hi) / 2) j<j
   ·rw[if_pos q]
    refine qQ xs j mono fuel _ hi (by omega) (by omega) h2 (λi hi'=>?_) h4
    by_cases z:i=(lo+hi) / 2
    ·rw[z];exact q
    ·exact Cp (mono i ((lo+hi) / 2) (by omega) (by omega)) q
   ·rw[if_neg q]
    refine qQ xs j mono fuel lo _ (by omega) (by omega) (by omega) h3 λi hi' hs=>?_
    by_cases z:i=(lo+hi) / 2
    ·rw[z];omega
    ·have:=mono ((lo+hi) / 2) i (by omega) hs
     omega
  ·rw[if_neg lt]
   have:lo=hi:=by omega
   subst this
   exact⟨h2,h3,h4⟩
def Up(xs:Array Nat):Prop:=xs.toList.Pairwise (· < ·)
theorem Up.at{xs:Array Nat}(h:Up xs){d i k:Nat}(lt:i<k)(hk:k<xs.size):xs.getD i d<xs.getD k d:=by
 rw[BY,BY,BB (by omega),BB hk]
 have:=List.pairwise_iff_getElem.mp h i k (by simp;omega) (by simp;omega) lt
 simpa using this
theorem Up.below{xs:Array Nat}(h:Up xs)(j:Nat):BO xs j<=xs.size/\(∀i,i<BO xs j->xs.getD i j<j)/\(∀i,BO xs j<=i->i<xs.size->j<=xs.getD i j):=
 qQ xs j (λi k lt hk=>h.at lt hk) xs.size 0 xs.size (by omega) (BI _) (AM _) (λi hi=>absurd hi (Bw _)) λi h1 h2=>by omega
theorem Up.Oi{xs:Array Nat}(h:Up xs){j i:Nat}(hi:i<=xs.size)(lo:∀k,k<i->xs.getD k j<j)(up:∀k,i<=k->k<xs.size->j<=xs.getD k j):BO xs j=i:=by
 obtain⟨h1,h2,h3⟩:=h.below j
 by_cases z:BO xs j<i
 ·have a:=lo _ z
  have b:=h3 _ (AM _) (by omega)
  omega
 ·by_cases y:i<BO xs j
  ·have a:=h2 _ y
   have b:=up _ (AM _) (by omega)
   omega
  ·omega
structure ij (t:SetTable):Prop where
 up:Up t.place
 dm:t.dummies= #[]
theorem Jq(f m:Nat)(l:Bool):ij (SetTable.fresh f m l):=⟨.nil,rfl⟩
theorem jM(t:SetTable)(n:Nat):ij (t.standIn n):=by
 refine⟨?_,rfl⟩
 show((Array.range n).toList).Pairwise (· < ·)
 rw[Array.toList_range]
 exact De
theorem zR(j:Nat):SetTable.has #[] j=false:=by
 unfold SetTable.has
 rw[Df (by simp)];rfl
theorem vp{t:SetTable}(h:ij t){x:Int}:∀(fuel:Nat) (p:SetTable.Probe) (j:Nat) (d:Option Nat),p.dummy=none->Fx t (λ_=>x+1) x fuel p=some (.empty j d)->d=none/\t.place[BO t.place j]? ≠some j
 | 0,p,j,d,_,e=>by unfold Fx at e;cases e
 | fuel+1,p,j,d,hp,e=>by
  unfold Fx at e
  have hs:t.slot p.j=if(t.place[BO t.place p.j]? == some p.j)=true then .live (BO t.place p.j) else .empty:=by
   unfold SetTable.slot
   dsimp only
   rw[h.dm,zR]
   rfl
  rw[hs] at e
  by_cases z:(t.place[BO t.place p.j]? == some p.j)=true
  ·rw[if_pos z] at e
   dsimp only at e
   rw[if_neg (by rw[beq_iff_eq];omega)] at e
   refine vp h fuel _ j d ?_ e
   unfold SetTable.advance
   split<;>exact hp
  ·rw[if_neg z] at e
   dsimp only at e
   injection e with e1
   injection e1 with e2 e3
   subst e2
   exact⟨by rw[<-e3];exact hp,λy=>z (by rw[y];exact beq_self_eq_true _)⟩
theorem toList_insertAt{α:Type}(xs:Array α)(p:Nat)(x:α)(h:p<=xs.size):(Fy xs p x).toList=xs.toList.take p++x::xs.toList.drop p:=by
 unfold Fy
 rw[Array.toList_append,Fw,HE,HE]
 simp[List.extract_eq_take_drop]
 rw[Bv (by simp)]
theorem Oj{t:SetTable}(h:ij t){j:Nat}(hj:t.place[BO t.place j]? ≠some j):ij (t.put j).1:=by
 obtain⟨h1,h2,h3⟩:=h.up.below j
 unfold SetTable.put
 dsimp only
 refine⟨?_,?_⟩
 ·show((Fy t.place (BO t.place j) j).toList).Pairwise (· < ·)
  rw[toList_insertAt _ _ _ h1,List.pairwise_append]
  have at':∀{i:Nat} {a:Nat},t.place.toList[i]? =some a->t.place.getD i j=a/\i<t.place.size:=λ{i a} e=>by
   rw[Bs] at e
   refine⟨by rw[BY,e];rfl,?_⟩
   exact(Array.getElem?_eq_some_iff.mp e).1
  have lo:∀a∈t.place.toList.take (BO t.place j),a<j:=λa ha=>by
   obtain⟨i,hi⟩:=Gu.mp ha
   rw[List.getElem?_take] at hi
   split at hi
   ·rename_i lt
    obtain⟨e,_⟩:=at' hi
    rw[<-e];exact h2 i lt
   ·cases hi
  have hi:∀a∈t.place.toList.drop (BO t.place j),j<a:=λa ha=>by
   obtain⟨i,hi⟩:=Gu.mp ha
   rw[List.getElem?_drop] at hi
   obtain⟨e,hs⟩:=at' hi
   have h0:=h3 (BO t.place j) (AM _) (by omega)
   have n0:t.place.getD (BO t.place j) j≠j:=λz=>hj (by
    rw[BB (by omega)]
    rw[BY,BB (by omega)] at z
    exact congrArg some z)
   by_cases z:i=0
   ·subst z
    rw[Gf] at e
    omega
   ·have:=h.up.at (d:=j) (show BO t.place j<BO t.place j+i by omega) hs
    omega
  refine⟨C0 (List.take_sublist _ _) h.up,Fe.mpr ⟨hi,C0 (List.drop_sublist _ _) h.up⟩,λa ha b hb=>?_⟩
  have a1:=lo a ha
  rcases Ak.mp hb with z | z
  ·rw[z];exact a1
  ·have:=hi b z;omega
 ·rw[h.dm,zR];rfl
theorem Rz{t:SetTable}(h:ij t)(n:Nat):ij (t.orStandIn n):=by
 unfold He
 split
 ·exact h
 ·exact jM _ _
theorem Ol{t:SetTable}(r:ij t)(es:Array (Int×Value))(h:Int)(x:Value):ij (layNew t es h x).2.1:=by
 unfold layNew
 cases e:t.freeSlot h with
 | none=>exact jM _ _
 | some q=>
  obtain⟨sl,wd⟩:=q
  dsimp only
  refine Rz ?_ _
  unfold SetTable.freeSlot SetTable.probe at e
  split at e
  ·rename_i j d e1
   obtain⟨rfl,hj⟩:=vp r _ _ j d rfl e1
   injection e with e2
   injection e2 with e3 e4
   subst e3
   exact Oj r hj
  ·cases e
theorem RA{α:Type}(f:Nat->Option α)(l:List Nat)(hl:l.Pairwise (· < ·)):(((l.filterMap λj=>(f j).map (j, ·)).map (·.1))).Pairwise (· < ·):=by
 refine C0 ?_ hl
 induction l with
 | nil=>exact .slnil
 | cons a l ih=>
  rw[DK]
  cases f a with
  | none=>exact .cons _ (ih (Fe.mp hl).2)
  | some v=>exact .cons_cons _ (ih (Fe.mp hl).2)
theorem Jr(t:SetTable)(es:Array (Int×Value))(n:Nat):ij (relayAll t es n).2.1:=by
 unfold relayAll
 split
 ·rename_i q r e
  dsimp only
  split
  ·unfold IG SetTable.laid at e
   simp only[HK,DQ,Option.pure_def,Fv,Prod.mk.injEq] at e
   obtain⟨ow,_,e1,_⟩:=e
   rw[<-e1]
   refine⟨?_,rfl⟩
   show List.Pairwise (· < ·) (_:List Nat)
   exact RA (λj=>ow.getD j none) _ De
  ·exact jM _ _
 ·exact jM _ _
structure cY (P:Az)(w:World)(h:Heap)(a:Addr)(es:Array (Int×Value))(ep:Nat)(t:SetTable)(ks:List Int):Prop where
 obj:∃o,h.get? a=some o/\o.ExactSet/\o.data=.set es ep t
 elems:ElemsOf (intKind P w) es.toList
 small:es.size<Ep
 fits:t.fits es.size=true
 led:t.led= !w.params.followText "set-order"
 rise:ij t
 vals:CP (es.toList.map (·.2)) ks
 once:ks.Nodup
theorem cY.at{P:Az}{w:World}{h h':Heap}{a:Addr}{es:Array (Int×Value)}{ep:Nat}{t:SetTable}{ks:List Int}(s:cY P w h a es ep t ks)(k:∀o,h.get? a=some o->h'.get? a=some o):cY P w h' a es ep t ks:=by
 obtain⟨o,e,r⟩:=s.obj
 exact⟨⟨o,k o e,r⟩,s.elems,s.small,s.fits,s.led,s.rise,s.vals,s.once⟩
theorem cY.len{P:Az}{w:World}{h:Heap}{a:Addr}{es:Array (Int×Value)}{ep:Nat}{t:SetTable}{ks:List Int}(s:cY P w h a es ep t ks):es.size=ks.length:=by
 have:=s.vals.length
 rw[AA,BN] at this
 exact this
theorem lh{vs us:List Value}(p:vs.Perm us):∀{ks:List Int},CP us ks->∃ks',CP vs ks'/\ks'.Perm ks:=by
 induction p with
 | nil=>intro ks h;cases h;exact⟨[],.nil,.refl _⟩
 | cons x _ ih=>
  intro ks h
  cases h with
  | cons y tk r=>
   obtain⟨k',a,b⟩:=ih r
   exact⟨y::k',.cons y tk a,b.cons y⟩
 | swap x y l=>
  intro ks h
  cases h with
  | cons a ta r=>
   cases r with
   | cons b tb r=>exact⟨b::a::_,.cons b tb (.cons a ta r),.swap a b _⟩
 | trans _ _ ih1 ih2=>
  intro ks h
  obtain⟨k1,a1,b1⟩:=ih2 h
  obtain⟨k2,a2,b2⟩:=ih1 a1
  exact⟨k2,a2,b2.trans b1⟩
theorem ints_app{us vs:List Value}{ks ls:List Int}(h1:CP us ks)(h2:CP vs ls):CP (us++vs) (ks++ls):=by
 induction h1 with
 | nil=>exact h2
 | cons x tk _ ih=>exact .cons x tk ih
theorem Om{us:List Value}{ks:List Int}(h:CP us ks){x:Int}:x∈ks↔∃tk,EN x tk∈us:=by
 induction h with
 | nil=>simp
 | cons y tk _ ih=>
  constructor
  ·intro m
   rcases Ak.mp m with e | m
   ·exact⟨tk,by rw[e];exact Aa⟩
   ·obtain⟨t',m'⟩:=ih.mp m
    exact⟨t',AV _ m'⟩
  ·rintro⟨t',m⟩
   rcases Ak.mp m with e | m
   ·injection e with e1 _
    rw[e1];exact Aa
   ·exact AV _ (ih.mpr ⟨t',m⟩)
section
variable{P:Az}{w:World}{A:BQ}{E:Value->AN->Prop}{s:AN}
theorem Oo{a:Addr}{es:Array (Int×Value)}{ep:Nat}{t:SetTable}{ks:List Int}{x:Int}{tk:Tok}{Q:Bool->AN->Prop}(S:cY P w s.heap a es ep t ks)(room:ks.length+1<Ep)
  (hold:x∈ks->Q false s)
  (hnew:x ∉ ks->∀h' es' ep' t' ks',B8 a s.heap h'->cY P w h' a es' ep' t' ks'->(∀y,y∈ks'↔y∈ks∨y=x)->ks'.length=ks.length+1->Q true {s with heap:=h'}):
  wpAny (model P w) A (setAddHashed a (.int x tk) (hashInt x)) Q E s:=by
 obtain⟨o,ho,hex,hd⟩:=S.obj
 have XB:=S.len
 have XC:(intKind P w).is x (.int x tk)=true:=intKind_is P w x tk
 have T3:(EN x tk).scannable=true:=rfl
 have hhash:hashInt x=(intKind P w).hash x:=rfl
 rw[hhash]
 unfold setAddHashed setAddHashedIn
 refine Bj (AB (DC ho hd S.fits ?_))
 dsimp only
 rw[byScan_of T3 S.small S.elems,if_pos rfl]
 unfold setAddByScan
 refine AB (AB (Dd (AB (wpAny_setScan_of XC ho hd S.fits S.elems ?_))))
 have T4:x∈ks↔∃e∈es.toList,(intKind P w).is x e.2=true:=by
  rw[Om S.vals]
  constructor
  ·rintro⟨t',m⟩
   obtain⟨e,he,e2⟩:=Ac.mp m
   exact⟨e,he,by rw[e2];exact intKind_is P w x t'⟩
  ·rintro⟨e,he,hi⟩
   obtain⟨t',e2⟩:=Value.isInt_shape (k:=x) (v:=e.2) hi
   exact⟨t',by rw[<-e2];exact Ac.mpr ⟨e,he,rfl⟩⟩
 cases hr:List.findIdx? (λe=>(intKind P w).is x e.2) es.toList with
 | some j=>
  dsimp only
  obtain⟨hj,hpj,_⟩:=List.findIdx?_eq_some_iff_getElem.mp hr
  exact AK (AK (hold (T4.mpr ⟨_,D4 hj,hpj⟩)))
 | none=>
  dsimp only
  have nk:x ∉ ks:=λm=>by
   obtain⟨e,he,hp⟩:=T4.mp m
   have:=List.findIdx?_eq_none_iff.mp hr e he
   rw[hp] at this
   cases this
  have hperm:=layNew_perm t es ((intKind P w).hash x) (.int x tk)
  have hfits:=layNew_fits t es ((intKind P w).hash x) (.int x tk)
  have Js:=Rj t es ((intKind P w).hash x) (.int x tk)
  have Jt:=Ol S.rise es ((intKind P w).hash x) (.int x tk)
  generalize layNew t es ((intKind P w).hash x) (.int x tk)=L at hperm hfits Js Jt ⊢
  obtain⟨es1,t1,wasDummy,gave⟩:=L
  dsimp only at hperm hfits Js Jt ⊢
  rw[Fw] at hperm
  have el1:ElemsOf (intKind P w) es1.toList:=(S.elems.push XC T3).perm hperm
  have sz1:es1.size=es.size+1:=by rw[<-BN,hperm.length_eq,AH,BN];rfl
  have XD:es1.size<Ep:=by omega
  obtain⟨vq,v1,p1⟩:=lh (hperm.map (·.2)) (ks:=ks++[x]) (by rw[AF];exact ints_app S.vals (.cons x tk .nil))
  have XE:vq.Nodup:=p1.nodup_iff.mpr (BR.mpr ⟨S.once,by simp,λy hy z hz=>by rw[AI.mp hz];exact λe=>nk (e▸hy)⟩)
  have T5:∀y,y∈vq↔y∈ks∨y=x:=λy=>by rw[p1.mem_iff,AS,AI]
  have qg:vq.length=ks.length+1:=by rw[p1.length_eq,AH];rfl
  have fin:∀t2:SetTable,t2.fits es1.size=true->t2.led=t.led->ij t2->
    wpAny (model P w) A (do
     Ht a es1 t2
     if(!wasDummy&&t2.tooFull)=true then do
       (match (relayAll t2 es1 (CF es1.size)).2.2 with | true=>rule "set.scan.the-table-gave-way" | false=>pure ())
       Ht a (relayAll t2 es1 (CF es1.size)).1 (relayAll t2 es1 (CF es1.size)).2.1
       pure (some true)
      else pure (some true)) (λr s'=>r=some true/\Q true s') E s:=λt2 f2 l2 r2=>by
   refine AB (wpAny_storeSet_of ho hd ?_ (Eb XD))
   have hg:(s.heap.update a (Ff es1 t2)).get? a=some {o with data:=.set es1 (ep+1) t2}:=by
    have q:=CC (Ff es1 t2) ho (by rw[putSet_of es1 t2 hd];rfl)
    rw[putSet_of es1 t2 hd] at q
    exact q
   have XF:=DL s.heap a (Ff es1 t2)
   have S1:cY P w (s.heap.update a (Ff es1 t2)) a es1 (ep+1) t2 vq:=⟨⟨_,hg,hex,rfl⟩,el1,XD,f2,by rw[l2];exact S.led,r2,v1,XE⟩
   split
   ·have pr:=relayAll_perm t2 es1 (CF es1.size)
    have fr:=relayAll_fits t2 es1 (CF es1.size)
    have lr:=Lc t2 es1 (CF es1.size)
    have T6:=Jr t2 es1 (CF es1.size)
    generalize relayAll t2 es1 (CF es1.size)=Rl at pr fr lr T6 ⊢
    obtain⟨es2,t3,gv⟩:=Rl
    dsimp only at pr fr lr T6 ⊢
    have sz2:es2.size=es1.size:=by rw[<-BN,pr.length_eq,BN]
    have XG:es2.size<Ep:=by omega
    obtain⟨vt,v2,p2'⟩:=lh (pr.map (·.2)) v1
    refine AB ?_
    have rest:wpAny (model P w) A (do Ht a es2 t3;pure (some true)) (λr s'=>r=some true/\Q true s') E {s with heap:=s.heap.update a (Ff es1 t2)}:=by
     refine AB (wpAny_storeSet_of hg rfl (AK ⟨rfl,?_⟩) (Eb XG))
     have hg2:=CC (Ff es2 t3) hg (by rw[putSet_of es2 t3 rfl];rfl)
     rw[putSet_of es2 t3 rfl] at hg2
     exact hnew nk _ es2 (ep+1+1) t3 vt (XF.trans (DL _ a _)) ⟨⟨_,hg2,hex,rfl⟩,el1.perm pr,XG,by rw[sz2] at fr ⊢;exact fr,by rw[lr,l2];exact S.led,T6,v2,p2'.nodup_iff.mpr XE⟩
      (λy=>by rw[p2'.mem_iff];exact T5 y) (by rw[p2'.length_eq];exact qg)
    cases gv
    ·exact AK rest
    ·exact Dd rest
   ·exact AK ⟨rfl,hnew nk _ es1 (ep+1) t2 vq XF S1 T5 qg⟩
  refine AB ?_
  have rest:wpAny (model P w) A (do
    let byValue <-if t1.plain=true then hashByValue 8 (.int x tk) else pure true
    Ht a es1 (if byValue=true then t1 else {t1 with plain:=false})
    if(!wasDummy&&(if byValue=true then t1 else {t1 with plain:=false}).tooFull)=true then do
      (match (relayAll (if byValue=true then t1 else {t1 with plain:=false}) es1 (CF es1.size)).2.2 with | true=>rule "set.scan.the-table-gave-way" | false=>pure ())
      Ht a (relayAll (if byValue=true then t1 else {t1 with plain:=false}) es1 (CF es1.size)).1 (relayAll (if byValue=true then t1 else {t1 with plain:=false}) es1 (CF es1.size)).2.1
      pure (some true)
     else pure (some true)) (λr s'=>r=some true/\Q true s') E s:=by
   cases hpl:t1.plain with
   | true=>
    rw[if_pos rfl,hashByValue_scannable 8 T3]
    refine AB (AK ?_)
    exact fin t1 hfits Js Jt
   | false=>
    rw[if_neg (by decide)]
    refine AB (AK ?_)
    exact fin t1 hfits Js Jt
  have go:∀r s',(r=some true/\Q true s')->wpAny (model P w) A (match r with | some added=>pure added | none=>setAddHashedIn a (.int x tk) ((intKind P w).hash x) 99999) Q E s':=λr s' ⟨e,q⟩=>by
   subst e
   exact AK q
  cases gave
  ·exact AK (aM rest go)
  ·exact Dd (aM rest go)
end
theorem rY{us:List Value}{xs:List Int}(hi:CP us xs):∀(i:Nat) (v:Value),us[i]? =some v->∃x t,xs[i]? =some x/\v=.int x t:=by
 induction hi with
 | nil=>intro i v hv;simp at hv
 | cons y ty _ ih=>
  intro i v hv
  cases i with
  | zero=>
   have e:EN y ty=v:=by simpa using hv
   exact⟨y,ty,rfl,e.symm⟩
  | succ i=>exact ih i v (by simpa using hv)
section
variable{P:Az}{w:World}{A:BQ}{R:Result->AN->Prop}{I S:Addr}{fp wr:List Addr}{G:Array GenState->Array GenState->Prop}{n:Nat}{Pv:Nat->Value->Prop}{St:Nat->AN->Prop}
theorem LC(W:WalksS P w A.in1 I fp wr G n Pv St)(hSf:S ∉ fp)(xs:List Int)(XH:xs.length=n)(hval:∀i v,Pv i v->∃x t,xs[i]? =some x/\v=.int x t)(hb:n+1<Ep):
  ∀(k i:Nat) (s:AN) (es:Array (Int×Value)) (ep:Nat) (t:SetTable) (ks:List Int),n-i=k->i<=n->St i s->cY P w s.heap S es ep t ks->(∀y,y∈ks↔y∈xs.take i)->ks.length<=i->
   (∀s' es' ep' t' ks',Moved (S::wr) G s s'->cY P w s'.heap S es' ep' t' ks'->(∀y,y∈ks'↔y∈xs)->ks'.length<=n->R (.ok (.ret .none)) s')->
   Ft (model P w) A (.builtin "set.update.loop" ⟨[.ref S,.ref I],[]⟩) R s:=by
 have hSw:S ∉ wr:=λz=>hSf (W.sub _ z)
 have more:∀b∈wr,b∈S::wr:=λb z=>AV _ z
 intro k
 induction k with
 | zero=>
  intro i s es ep t ks hk hi st hS hm hl hR
  have e:i=n:=by omega
  subst e
  refine Dl EA ?_
  rw[DB B']
  show wpAny (model P w) A.in1 (D9 (.ref I) >>= _) _ _ s
  refine AB (W.done s _ _ st λs' mv=>?_)
  show wpAny (model P w) A.in1 (ret CT) _ _ s'
  refine AK (hR s' es ep t ks (mv.mono more) (hS.at λo q=>mv.heap S o hSw q) (λy=>?_) hl)
  rw[hm y,Bv (by omega)]
 | succ k ih=>
  intro i s es ep t ks hk hi st hS hm hl hR
  have lt:i<n:=by omega
  refine Dl EA ?_
  rw[DB B']
  show wpAny (model P w) A.in1 (D9 (.ref I) >>= _) _ _ s
  refine AB (W.item i s _ _ lt st λv s' hv st' mv=>?_)
  obtain⟨x,tx,ex,rfl⟩:=hval i v hv
  have hS':cY P w s'.heap S es ep t ks:=hS.at λo q=>mv.heap S o hSw q
  have tk1:∀y,y∈xs.take (i+1)↔y∈xs.take i∨y=x:=λy=>by rw[Ec,ex];simp
  show wpAny (model P w) A.in1 (holding [EN x tx] (setAdd S (.int x tx)) >>= _) _ _ s'
  refine AB (Bj ?_)
  unfold setAdd
  refine Bj (AB ((intKind P w).pyHash (k:=x) (intKind_is _ _ _ _) ?_))
  refine Oo (s:={s' with toks:=s'.toks+1}) hS' (by omega) (λhx=>?_) (λhx h' es' ep' t' ks' sb S2 m2 l2=>?_)
  ·refine AK ⟨Ey B' _,ih (i+1) _ es ep t ks (by omega) lt (W.frame _ s' s'.heap _ st' (Cr _) λb _ o q=>q) hS' (λy=>?_) (by omega) λs2 es2 T7 t2 vt mv2 S2 m2 l2=>?_⟩
   ·rw[hm y,tk1 y]
    constructor
    ·exact .inl
    ·rintro(z | z)
     ·exact z
     ·rw[z];exact(hm x).mp hx
   ·exact hR s2 es2 T7 t2 vt (Moved.trans W.gtrans ((mv.mono more).then_heap (Cr _) λb o _ q=>q) mv2) S2 m2 l2
  ·refine AK ⟨Ey B' _,ih (i+1) _ es' ep' t' ks' (by omega) lt (W.frame _ s' h' _ st' (Cr _) λb hb o q=>?_) S2 (λy=>?_) (by omega) λs2 es2 T7 t2 vt mv2 S2 m2 l2=>?_⟩
   ·exact(sb.2 b (λz=>hSf (z▸hb))).trans q
   ·rw[m2 y,hm y,tk1 y]
   ·exact hR s2 es2 T7 t2 vt (Moved.trans W.gtrans ((mv.mono more).then_heap (Cr _) λb o hb q=>(sb.2 b (λz=>hb (z▸Aa))).trans q) mv2) S2 m2 l2
end
section
variable{P:Az}{w:World}{A:BQ}{E:Value->AN->Prop}{s:AN}
theorem Ju(h:Heap):cY P w (h.push (eB w)) h.objs.size #[] 0 (.fresh 0 0 (!w.params.followText "set-order")) []:=
 ⟨⟨_,AU _ rfl,⟨rfl,rfl,rfl⟩,rfl⟩,λe he=>(by simp at he),by decide,rfl,rfl,Jq _ _ _,.nil,by simp⟩
theorem yP{l:Addr}{its:Array Value}{xs:List Int}{Q:Value->AN->Prop}(hh:A.handled=none)(hl:s.heap.IsList l its)(hi:CP its.toList xs)(hb:its.size+1<Ep)
  (h:∀(h':Heap) (tk:Nat) es ep t ks,cY P w h' s.heap.objs.size es ep t ks->(∀y,y∈ks↔y∈xs)->ks.length<=its.size->(∀b o,b<s.heap.objs.size->s.heap.get? b=some o->h'.get? b=some o)->Q (.ref s.heap.objs.size) {s with heap:=h',toks:=tk}):
  wpAny (model P w) A (call (.type "set") [.ref l]) Q E s:=by
 obtain⟨c,tl,hmro⟩:=CI.mro
 have hmade:=CI.made
 have hsub:=CI.sub
 refine wpAny_call (codeAny_of_tree ?_)
 show wpAny _ _ (callAny (.type "set") _) _ _ _
 refine AK ⟨Code.quiet_builtin _ (by decide+kernel),Dl PySem.F.entry_type_call ?_⟩
 rw[Around.under_plain (weight_type_call_type "set" [.ref l] []) rfl]
 have a1:=CI.notType
 have a2:=CI.canCreate
 have a3:=PySem.F.typeCall_set_1 (.ref l)
 repeat (any_goals (first | assumption | wp_step))
 refine EU (N5 (.ref l) (E:=E) (Q:=λobj s₁=>obj=.ref s.heap.objs.size/\s₁={s with heap:=s.heap.push (eB w)}) ⟨rfl,rfl⟩) λr s₁ hr=>?_
 cases r with
 | error e=>exact hr
 | ok fl=>
  cases fl with
  | ret obj=>
   obtain⟨rfl,rfl⟩:=hr
   have gS:(s.heap.push (eB w)).get? s.heap.objs.size=some (eB w):=AU _ rfl
   have hT:Shared.TypeIs {s with heap:=s.heap.push (eB w)} (.ref s.heap.objs.size) "set":=⟨_,gS,rfl⟩
   have a4:=CI.init.lookup
   have a5:=CI.init.bind (.ref s.heap.objs.size)
   repeat (any_goals (first | assumption | wp_step))
   refine EU (codeAny_call_builtin (R:=wants (λr s₂=>r=.none/\∃h' tk es ep t ks,s₂={s with heap:=h',toks:=tk}/\cY P w h' s.heap.objs.size es ep t ks/\(∀y,y∈ks↔y∈xs)/\ks.length<=its.size/\
     (∀b o,b<s.heap.objs.size->s.heap.get? b=some o->h'.get? b=some o)) E) CI.init.plain PySem.F.entry_set_init (check_set_init_1 hT ?_)) λr₂ s₂ hr₂=>?_
   ·obtain⟨ol,hol,hcl,nl,hdl⟩:=hl
    obtain⟨ocls,odict,odata,oslots⟩:=ol
    simp only at hcl hdl
    subst hcl hdl
    have hol':(s.heap.push (eB w)).get? l=some {cls:=.type "list",dict:=odict,data:=.seq its nl,slots:=oslots}:=AG _ hol
    have b1:=PySem.F.sub_list_set
    have b2:=PySem.F.sub_list_frozenset
    have b3:(FN "list" == FN "dict")=false:=by decide
    have hl1:(s.heap.push (eB w)).IsList l its:=⟨_,hol',rfl,nl,rfl⟩
    unfold Cz.«set.__init__» noKeywords Builtin.Frozenset.updateFrom
    generalize hPI:pyIter=PI
    wp_walk
    subst hPI
    refine ET hl1 ?_
    refine AB (wpAny_runValue ?_)
    have lS:l<s.heap.objs.size:=AX hol
    have hh3:A.in1.in1.in1.handled=none:=by simp[hh]
    have Qb:l≠(s.heap.push (eB w)).objs.size:=by rw[BG];exact Ap (CM lS)
    have nf:s.heap.objs.size ∉ [(s.heap.push (eB w)).objs.size,l]:=by
     rw[BG]
     simp only[Ak,D6,or_false,not_or]
     exact⟨Ap (CW _),Cm lS⟩
    have XH:xs.length=its.size:=by rw[<-hi.length,BN]
    have hval:∀(i:Nat) (v:Value),its[i]? =some v->∃x t,xs[i]? =some x/\v=.int x t:=λi v hv=>rY hi i v (by rw[Bs];exact hv)
    refine LC ((IK hh3 _ l Qb its).toS) nf xs XH hval hb (its.size-0) 0 _ #[] 0 _ [] (by omega) (BI _) ⟨⟨_,AU _ rfl,rfl,rfl⟩,hl1.push _⟩ ((Ju s.heap).at λo q=>AG _ q) (λy=>by simp) (AM _) ?hR
    case hR=>
     intro s' es' ep' t' ks' hm hS' hmem hlen
     obtain⟨h',g',d',tk',os'⟩:=s'
     have eg:g'=s.gens:=hm.gens
     have ed:d'=s.drawn:=hm.drawn
     have eo:os'=s.os:=hm.os
     subst eg ed eo
     show wpAny _ _ _ _ _ _
     refine AK ?_
     show wpAny _ _ (ret CT) _ _ _
     refine AK ⟨rfl,h',tk',es',ep',t',ks',rfl,hS',hmem,hlen,λb o hb e=>?_⟩
     refine hm.heap b o ?_ (AG _ (AG _ e))
     simp only[Ak,D6,or_false,not_or]
     rw[BG]
     exact⟨Ap hb,Ap (CM hb)⟩
   ·cases r₂ with
    | error e=>exact hr₂
    | ok fl₂=>
     cases fl₂ with
     | ret r=>
      obtain⟨rfl,h',tk,es,ep,t,ks,rfl,hS',hm,XB,hk'⟩:=hr₂
      repeat (any_goals (first | assumption | wp_step))
      exact h _ _ _ _ _ _ hS' hm XB hk'
     | _=>exact hr₂.elim
  | _=>exact hr.elim
theorem xA{I a:Addr}{sl i ep':Nat}{es:Array (Int×Value)}{ep:Nat}{t:SetTable}{ks:List Int}{v:Value}{nx:Nat}{Q:Option Value->AN->Prop}(hI:kB s.heap I #[A7 sl,A7 i,.ref a,A7 es.size,A7 ep'])
  (S:cY P w s.heap a es ep t ks) (hn:∀(B:BQ) (E':Value->AN->Prop) (Q':Option (Value×Nat)->AN->Prop),Q' (some (v,nx)) s->wpAny (model P w) B (Hu a sl i ep') Q' E' s)
  (h:∀h',kB h' I #[A7 nx,A7 (i+1:Nat),.ref a,A7 es.size,A7 ep']->B8 I s.heap h'->Q (some v) {s with heap:=h'}):wpAny (model P w) A (D9 (.ref I)) Q E s:=by
 have hT:s.TypeIs (.ref I) "set_iterator":=⟨_,hI,rfl⟩
 obtain⟨o,ho,hex,hd⟩:=S.obj
 unfold D9
 refine AB (ED (Ba (name:=Co "__next__") hT SI.slot_next (Bb SI.slot_next hT SI.entry_next ?_ (SI.args_next _))))
 refine AB (AK ?_)
 refine AB (Fg hI rfl ?_)
 refine AB (DM ho hd S.fits ?_)
 rw[if_neg (by simp[A7])]
 dsimp only[A7]
 rw[AY,AY,AY]
 refine AB (hn _ _ _ ?_)
 dsimp only
 refine AB (Bo hI (by simp) λh1 e1 b1=>?_)
 refine AB (Bo e1 (by simp) λh2 e2 b2=>?_)
 refine AK ⟨v,rfl,AK (h h2 ?_ (b1.trans b2))⟩
 simpa[A7] using e2
theorem zS{I a:Addr}{sl i ep':Nat}{es:Array (Int×Value)}{ep:Nat}{t:SetTable}{ks:List Int}{Q:Option Value->AN->Prop}(hh:A.handled=none)(hI:kB s.heap I #[A7 sl,A7 i,.ref a,A7 es.size,A7 ep'])
  (S:cY P w s.heap a es ep t ks) (hn:∀(B:BQ) (E':Value->AN->Prop) (Q':Option (Value×Nat)->AN->Prop),Q' none s->wpAny (model P w) B (Hu a sl i ep') Q' E' s)
  (h:∀h',ES I s.heap h'->Q none {s with heap:=h'}):wpAny (model P w) A (D9 (.ref I)) Q E s:=by
 have hT:s.TypeIs (.ref I) "set_iterator":=⟨_,hI,rfl⟩
 obtain⟨o,ho,hex,hd⟩:=S.obj
 unfold D9
 refine AB (ED (Ba (name:=Co "__next__") hT SI.slot_next (Bb SI.slot_next hT SI.entry_next ?_ (SI.args_next _))))
 refine AB (AK ?_)
 refine AB (Fg hI rfl ?_)
 refine AB (DM ho hd S.fits ?_)
 rw[if_neg (by simp[A7])]
 dsimp only[A7]
 rw[AY,AY,AY]
 refine AB (hn _ _ _ ?_)
 dsimp only
 exact zJ (k0:=none) hh hI (by simp) h
theorem Oq{I a T:Addr}{i p:Nat}{es:Array (Int×Value)}{ep:Nat}{t:SetTable}{ks:List Int}{hv:Int}{v:Value}{ord:List Nat}{Q:Option Value->AN->Prop}(hI:kB s.heap I #[.ref T,A7 i,.ref a,A7 es.size,A7 ep])
  (hT':s.heap.get? T=some {cls:=.type "tuple",data:=.seq (ord.map λ(i:Nat)=>A7 i).toArray}) (S:cY P w s.heap a es ep t ks) (hp:ord[i]? =some p) (he:es[p]? =some (hv,v))
  (h:∀h',kB h' I #[.ref T,A7 (i+1:Nat),.ref a,A7 es.size,A7 ep]->B8 I s.heap h'->Q (some v) {s with heap:=h'}):wpAny (model P w) A (D9 (.ref I)) Q E s:=by
 have hT:s.TypeIs (.ref I) "set_iterator":=⟨_,hI,rfl⟩
 obtain⟨o,ho,hex,hd⟩:=S.obj
 unfold D9
 refine AB (ED (Ba (name:=Co "__next__") hT SI.slot_next (Bb SI.slot_next hT SI.entry_next ?_ (SI.args_next _))))
 refine AB (AK ?_)
 refine AB (Fg hI rfl ?_)
 refine AB (DM ho hd S.fits ?_)
 rw[if_neg (by simp[A7])]
 dsimp only[A7]
 refine AB (vg hT' ?_)
 dsimp only
 have e1:(ord.map λ(i:Nat)=>A7 i).toArray[((i:Nat):Int).toNat]? =some (A7 p):=by
  rw[AY,CS,AJ,hp];rfl
 rw[e1]
 dsimp only[A7]
 refine AB ?_
 unfold setNextDrawn
 refine AB (DC ho hd S.fits ?_)
 dsimp only
 rw[AY,AY,if_neg (by simp),he]
 refine AK ?_
 refine AB (Bo hI (by simp) λh1 e1 b1=>?_)
 refine AK ⟨v,rfl,AK (h h1 ?_ b1)⟩
 simpa[A7] using e1
theorem RB{I a T:Addr}{i:Nat}{es:Array (Int×Value)}{ep:Nat}{t:SetTable}{ks:List Int}{ord:List Nat}{Q:Option Value->AN->Prop}(hh:A.handled=none)(hI:kB s.heap I #[.ref T,A7 i,.ref a,A7 es.size,A7 ep])
  (hT':s.heap.get? T=some {cls:=.type "tuple",data:=.seq (ord.map λ(i:Nat)=>A7 i).toArray}) (S:cY P w s.heap a es ep t ks) (hp:ord[i]? =none)
  (h:∀h',ES I s.heap h'->Q none {s with heap:=h'}):wpAny (model P w) A (D9 (.ref I)) Q E s:=by
 have hT:s.TypeIs (.ref I) "set_iterator":=⟨_,hI,rfl⟩
 obtain⟨o,ho,hex,hd⟩:=S.obj
 unfold D9
 refine AB (ED (Ba (name:=Co "__next__") hT SI.slot_next (Bb SI.slot_next hT SI.entry_next ?_ (SI.args_next _))))
 refine AB (AK ?_)
 refine AB (Fg hI rfl ?_)
 refine AB (DM ho hd S.fits ?_)
 rw[if_neg (by simp[A7])]
 dsimp only[A7]
 refine AB (vg hT' ?_)
 dsimp only
 have e1:(ord.map λ(i:Nat)=>A7 i).toArray[((i:Nat):Int).toNat]? =none:=by
  rw[AY,CS,AJ,hp];rfl
 rw[e1]
 dsimp only
 refine AB (Bo hI (by simp) λh1 e1 b1=>?_)
 exact zJ (s:={s with heap:=h1}) (k0:=none) hh e1 (by simp) λh2 x=>h h2 (λc o hc q=>x c o hc (b1.extBut c o hc q))
theorem rZ{a:Addr}{es:Array (Int×Value)}{ep:Nat}{t:SetTable}{ks:List Int}{sl i:Nat}{Q:Option (Value×Nat)->AN->Prop}(S:cY P w s.heap a es ep t ks)(hb:w.params.followText "set-order"=true)
  (h:Q (((GR (w.params.setOrder a ep) es)[i]?).map λe=>(e.2,sl)) s):wpAny (model P w) A (Hu a sl i ep) Q E s:=by
 obtain⟨o,ho,hex,hd⟩:=S.obj
 unfold Hu
 refine AB (DC ho hd S.fits ?_)
 dsimp only
 refine AB (pR (a:=a) ?_)
 rw[hb,if_pos rfl,if_neg (by simp)]
 refine AB ?_
 unfold setWalk
 refine AB (DC ho hd S.fits ?_)
 dsimp only
 refine AB (pR (a:=a) ?_)
 rw[hb,if_pos rfl]
 refine AB (GK (AK ?_))
 exact AK h
theorem vw{a:Addr}{es:Array (Int×Value)}{ep:Nat}{t:SetTable}{ks:List Int}{sl i:Nat}{Q:Option (Value×Nat)->AN->Prop}(S:cY P w s.heap a es ep t ks)(hb:w.params.followText "set-order"=false)(h1:¬(!t.plain&&decide (es.size>1))=true)
  (h:Q (match es[BO t.place sl]?,t.place[BO t.place sl]? with | some (_,x),some j=>some (x,j+1) | _,_=>none) s):wpAny (model P w) A (Hu a sl i ep) Q E s:=by
 obtain⟨o,ho,hex,hd⟩:=S.obj
 have hl:t.led=true:=by rw[S.led,hb];rfl
 unfold Hu
 refine AB (DC ho hd S.fits ?_)
 dsimp only
 refine AB (pR (a:=a) ?_)
 rw[hb,if_neg (by decide)]
 refine EJ (λhab=>absurd hab h1) (λ_=>?_)
 refine AB ?_
 show wpAny (model P w) A (if(!t.led&& !es.isEmpty)=true then unsupported _ else pure ()) _ _ s
 rw[hl,if_neg (by simp)]
 exact AK (AK h)
abbrev Qd (ks:List Int):Nat->Value->Prop:=λi v=>∃x tk,ks[i]? =some x/\v=.int x tk
theorem Jv{I a:Addr}{es:Array (Int×Value)}{ep:Nat}{t:SetTable}{ks ks':List Int}(hh:A.handled=none)(hne:a≠I)(hb:w.params.followText "set-order"=true)
  (hv:CP ((GR (w.params.setOrder a ep) es).toList.map (·.2)) ks') (hl:ks'.length=es.size):
  Walks P w A I [I,a] [I] es.size (Qd ks') (λi h=>kB h I #[A7 0,A7 i,.ref a,A7 es.size,A7 ep]/\cY P w h a es ep t ks) where
 sub:=λb hb=>by simp at hb;simp[hb]
 frame:=λ_ _ _ st hk=>⟨hk I (by simp) _ st.1,st.2.at λo q=>hk a (by simp) o q⟩
 item:=λi s Q E hi st hQ=>by
  have hsz:(GR (w.params.setOrder a ep) es).size=es.size:=by rw[<-BN,<-AA (f:=(·.2)),hv.length,hl]
  obtain⟨e,he⟩:∃e,(GR (w.params.setOrder a ep) es)[i]? =some e:=⟨_,BB (by omega)⟩
  refine xA (sl:=0) (v:=e.2) (nx:=0) st.1 st.2 (λB E' Q' q=>rZ st.2 hb (by rw[he];exact q)) λh' e1 b1=>hQ e.2 h' s.toks ?_ ⟨e1,st.2.at λo q=>(b1.2 a hne).trans q⟩ λb o hb q=>(b1.2 b (by simpa using hb)).trans q
  obtain⟨x,tk,ex,ev⟩:=rY hv i e.2 (by rw[AJ,Bs,he];rfl)
  exact⟨x,tk,ex,ev⟩
 done:=λs Q E st hQ=>by
  have hsz:(GR (w.params.setOrder a ep) es).size=es.size:=by rw[<-BN,<-AA (f:=(·.2)),hv.length,hl]
  have he:(GR (w.params.setOrder a ep) es)[es.size]? =none:=Df (by omega)
  exact zS (sl:=0) hh st.1 st.2 (λB E' Q' q=>rZ st.2 hb (by rw[he];exact q)) λh' x=>hQ h' s.toks λb o hb q=>x b o (by simpa using hb) q
 self:=λ_ _ _ _ st hQ=>tT st.1 hQ
theorem yQ{I a T:Addr}{es:Array (Int×Value)}{ep:Nat}{t:SetTable}{ks ks':List Int}{ord:List Nat}(hh:A.handled=none)(hne:a≠I)(hTI:T≠I)(hp:ord.Perm (Ad es.size))
  (hv:CP (ord.map λp=>(es.getD p (0,.none)).2) ks'):
  Walks P w A I [I,a,T] [I] es.size (Qd ks') (λi h=>kB h I #[.ref T,A7 i,.ref a,A7 es.size,A7 ep]/\cY P w h a es ep t ks/\h.get? T=some {cls:=.type "tuple",data:=.seq (ord.map λ(i:Nat)=>A7 i).toArray}) where
 sub:=λb hb=>by simp at hb;simp[hb]
 frame:=λ_ _ _ st hk=>⟨hk I (by simp) _ st.1,st.2.1.at λo q=>hk a (by simp) o q,hk T (by simp) _ st.2.2⟩
 item:=λi s Q E hi st hQ=>by
  have lo:ord.length=es.size:=by rw[hp.length_eq,Aw]
  obtain⟨p,ho⟩:∃p,ord[i]? =some p:=⟨_,Ag (by omega)⟩
  have hlt:p<es.size:=A_.mp (hp.mem_iff.mp (AL ho))
  have he:es[p]? =some ((es.getD p (0,.none)).1,(es.getD p (0,.none)).2):=by
   rw[BB hlt,BY,BB hlt];rfl
  refine Oq st.1 st.2.2 st.2.1 ho he λh' e1 b1=>hQ _ h' s.toks ?_ ⟨e1,st.2.1.at λo q=>(b1.2 a hne).trans q,(b1.2 T hTI).trans st.2.2⟩ λb o hb q=>(b1.2 b (by simpa using hb)).trans q
  obtain⟨x,tk,ex,ev⟩:=rY hv i _ (by rw[AJ,ho];rfl)
  exact⟨x,tk,ex,ev⟩
 done:=λs Q E st hQ=>by
  have lo:ord.length=es.size:=by rw[hp.length_eq,Aw]
  exact RB hh st.1 st.2.2 st.2.1 (BJ (by omega)) λh' x=>hQ h' s.toks λb o hb q=>x b o (by simpa using hb) q
 self:=λ_ _ _ _ st hQ=>tT st.1 hQ
def slotAt(t:SetTable)(i:Nat):Nat:=if i=0 then 0 else t.place.getD (i-1) 0+1
theorem below_at{t:SetTable}(r:ij t){i:Nat}(hi:i<=t.place.size):BO t.place (slotAt t i)=i:=by
 have d:∀{k:Nat} (d:Nat),k<t.place.size->t.place.getD k d=t.place.getD k 0:=λ{k} d hk=>by
  rw[BY,BY,BB hk];rfl
 unfold slotAt
 refine r.up.Oi hi (λk hk=>?_) (λk hk hs=>?_)
 ·rw[if_neg (by omega),d _ (by omega)]
  by_cases z:k=i-1
  ·subst z;omega
  ·have:=r.up.at (d:=0) (show k<i-1 by omega) (by omega);omega
 ·rw[d _ hs]
  by_cases z:i=0
  ·rw[if_pos z];omega
  ·rw[if_neg z]
   have:=r.up.at (d:=0) (show i-1<k by omega) hs;omega
theorem LF{I a:Addr}{es:Array (Int×Value)}{ep:Nat}{t:SetTable}{ks:List Int}(hh:A.handled=none)(hne:a≠I)(hb:w.params.followText "set-order"=false)(h1:¬(!t.plain&&decide (es.size>1))=true)(hf:t.fits es.size=true)(r:ij t)(hv:CP (es.toList.map (·.2)) ks):
  Walks P w A I [I,a] [I] es.size (Qd ks) (λi h=>kB h I #[A7 (slotAt t i:Nat),A7 i,.ref a,A7 es.size,A7 ep]/\cY P w h a es ep t ks) where
 sub:=λb hb=>by simp at hb;simp[hb]
 frame:=λ_ _ _ st hk=>⟨hk I (by simp) _ st.1,st.2.at λo q=>hk a (by simp) o q⟩
 item:=λi s Q E hi st hQ=>by
  have tp:t.place.size=es.size:=by
   unfold SetTable.fits at hf
   simp only[CV,beq_iff_eq] at hf
   exact hf.1
  have hb':=below_at r (i:=i) (by omega)
  obtain⟨e,he⟩:∃e,es[i]? =some e:=⟨_,BB (by omega)⟩
  have hp:t.place[i]? =some (t.place.getD i 0):=by rw[BY,BB (by omega)];rfl
  refine xA (sl:=slotAt t i) (v:=e.2) (nx:=t.place.getD i 0+1) st.1 st.2 (λB E' Q' q=>vw st.2 hb h1 ?_) λh' e1 b1=>hQ e.2 h' s.toks ?_ ⟨?_,st.2.at λo q=>(b1.2 a hne).trans q⟩ λb o hb q=>(b1.2 b (by simpa using hb)).trans q
  ·rw[hb',he,hp]
   exact q
  ·obtain⟨x,tk,ex,ev⟩:=rY hv i e.2 (by rw[AJ,Bs,he];rfl)
   exact⟨x,tk,ex,ev⟩
  ·rw[show slotAt t (i+1)=t.place.getD i 0+1 by unfold slotAt;rw[if_neg (by omega),Nat.add_sub_cancel]]
   exact e1
 done:=λs Q E st hQ=>by
  have tp:t.place.size=es.size:=by
   unfold SetTable.fits at hf
   simp only[CV,beq_iff_eq] at hf
   exact hf.1
  have hb':=below_at r (i:=es.size) (by omega)
  refine zS hh st.1 st.2 (λB E' Q' q=>vw st.2 hb h1 ?_) λh' x=>hQ h' s.toks λb o hb q=>x b o (by simpa using hb) q
  rw[hb',Df (AM _)]
  exact q
 self:=λ_ _ _ _ st hQ=>tT st.1 hQ
theorem Jw{a:Addr}{es:Array (Int×Value)}{ep:Nat}{t:SetTable}{ks:List Int}{Q:Value->AN->Prop}(S:cY P w s.heap a es ep t ks)
  (h:∀(I:Addr) (h1:Heap) (d1:Drawn) (fx:List Addr) (ks':List Int) (St:Nat->Heap->Prop),ks'.Perm ks->s.heap.objs.size<=I->I<h1.objs.size->(∀b∈fx,s.heap.objs.size<=b/\b<h1.objs.size)->(∀b o,s.heap.get? b=some o->h1.get? b=some o)->St 0 h1->
   (∀B:BQ,B.handled=none->Walks P w B I (I::a::fx) [I] es.size (Qd ks') St)->Q (.ref I) {s with heap:=h1,drawn:=d1}):
  wpAny (model P w) A (pyIter (.ref a)) Q E s:=by
 obtain⟨o,ho,hex,hd⟩:=S.obj
 have hT:s.TypeIs (.ref a) "set":=⟨o,ho,hex.1⟩
 have la:a<s.heap.objs.size:=AX ho
 have hsz:=S.len
 refine wpAny_pyIter_slot hT Gv (Bb Gv hT SI.tS ?_ (PySem.F.args_set_iter_1 _))
 unfold Cz.«frozenset.__iter__» Builtin.Frozenset.slot0 slotArgs
 simp only[List.isEmpty_nil,Bool.not_true,Cw, ↓reduceIte,bind_assoc,Dk,bne_self_eq_false]
 unfold Builtin.Frozenset.addrOf Builtin.Frozenset.sizeOf
 refine AB (AK ?_)
 try dsimp only
 refine AB (AK ?_)
 refine AB (AB (DM ho hd S.fits (AK ?_)))
 unfold setDrawn
 refine AB (AB (DC ho hd S.fits ?_))
 dsimp only
 refine AB (pR (a:=a) (AK ?_))
 refine EJ (λhab=>?_) (λhab=>?_)
 ·have hab':(!w.params.followText "set-order"&&(!t.plain&&decide (es.size>1)))=true:=hab
  refine AB (vi _ _ _ _ (Aw) λys d' p=>?_)
  have ly:ys.length=es.size:=by rw[p.length_eq,Aw]
  refine AB (HD ?_ (by rw[AA,ly];exact Eb S.small))
  have hoT:(s.heap.push {cls:=.type "tuple",data:=.seq (ys.map λ(i:Nat)=>A7 i).toArray}).get? s.heap.objs.size=some {cls:=.type "tuple",data:=.seq (ys.map λ(i:Nat)=>A7 i).toArray}:=AU _ rfl
  have LG:(s.heap.push {cls:=.type "tuple",data:=.seq (ys.map λ(i:Nat)=>A7 i).toArray}).objs.size=s.heap.objs.size+1:=BG ..
  refine AB (wpAny_setEpoch_of (s:={s with heap:=s.heap.push {cls:=.type "tuple",data:=.seq (ys.map λ(i:Nat)=>A7 i).toArray},drawn:=d'}) (AG _ ho) hd S.fits ?_)
  have SS:cY P w (s.heap.push {cls:=.type "tuple",data:=.seq (ys.map λ(i:Nat)=>A7 i).toArray}) a es ep t ks:=S.at λo q=>AG _ q
  have old:∀b o,s.heap.get? b=some o->(s.heap.push {cls:=.type "tuple",data:=.seq (ys.map λ(i:Nat)=>A7 i).toArray}).get? b=some o:=λb o q=>AG _ q
  generalize s.heap.push {cls:=.type "tuple",data:=.seq (ys.map λ(i:Nat)=>A7 i).toArray}=h1 at hoT LG SS old ⊢
  refine AB (BX (AK ⟨_,rfl,"set_iterator",_,⟨_,AU _ rfl,rfl⟩,SI.slot_next.lookup,?_⟩))
  have ent:((Ad es.size).map λp=>(es.getD p (0,.none)).2)=es.toList.map (·.2):=by
   apply DD
   intro i
   rw[AJ,AJ,show es.toList[i]? =es[i]? from Bs]
   by_cases hi:i<es.size
   ·rw[CA hi,BB hi]
    show some (es.getD i (0,.none)).2=some es[i].2
    rw[BY,BB hi];rfl
   ·rw[BJ (by rw[Aw];omega),Df (by omega)];rfl
  obtain⟨ks',v',p'⟩:=lh (p.map λp=>(es.getD p (0,.none)).2) (ks:=ks) (by rw[ent];exact S.vals)
  refine h h1.objs.size (h1.push _) d' [s.heap.objs.size] ks' _ p' (by rw[LG];exact Cr _) (by rw[BG];exact CW _) (λb hb=>?_) (λb o q=>AG _ (old b o q)) ?_ (λB hB=>yQ (ep:=ep) (t:=t) (ks:=ks) hB ?_ ?_ p v')
  ·rw[AI.mp hb,BG,LG]
   exact⟨AM _,CM (CW _)⟩
  ·exact⟨AU _ rfl,SS.at λo q=>AG _ q,AG _ hoT⟩
  ·rw[LG];exact Ap (CM la)
  ·rw[LG];exact Ap (CW _)
 ·have hab':¬(!w.params.followText "set-order"&&(!t.plain&&decide (es.size>1)))=true:=hab
  refine AB (AK ?_)
  refine AB (wpAny_setEpoch_of ho hd S.fits ?_)
  refine AB (BX (AK ⟨_,rfl,"set_iterator",_,⟨_,AU _ rfl,rfl⟩,SI.slot_next.lookup,?_⟩))
  have Qb:a≠s.heap.objs.size:=Ap la
  cases hb:w.params.followText "set-order" with
  | true=>
   obtain⟨ks',v',p'⟩:=lh ((vh (w.params.setOrder a ep) es.size 0 es.toList #[] (by simp)).map (·.2)) (ks:=ks) (by simpa using S.vals)
   exact h s.heap.objs.size (s.heap.push _) s.drawn [] ks' _ p' (AM _) (by rw[BG];exact CW _) (λb hb=>by simp at hb) (λb o q=>AG _ q) ⟨AU _ rfl,S.at λo q=>AG _ q⟩
    (λB hB=>Jv (ep:=ep) (t:=t) (ks:=ks) hB Qb hb v' (by rw[p'.length_eq,hsz]))
  | false=>
   rw[hb] at hab'
   have h1:¬(!t.plain&&decide (es.size>1))=true:=by simpa using hab'
   exact h s.heap.objs.size (s.heap.push _) s.drawn [] ks _ (.refl _) (AM _) (by rw[BG];exact CW _) (λb hb=>by simp at hb) (λb o q=>AG _ q) ⟨AU _ rfl,S.at λo q=>AG _ q⟩
    (λB hB=>LF (ep:=ep) (t:=t) (ks:=ks) hB Qb hb h1 S.fits S.rise S.vals)
theorem xB{a:Addr}{es:Array (Int×Value)}{ep:Nat}{t:SetTable}{ks:List Int}{Q:List Value->AN->Prop}(S:cY P w s.heap a es ep t ks)(hh:A.handled=none)
  (h:∀(h':Heap) (tk:Nat) (d':Drawn) (acc:List Value) (ks':List Int),(∀b o,s.heap.get? b=some o->h'.get? b=some o)->CP acc ks'->ks'.Perm ks->Q acc {s with heap:=h',toks:=tk,drawn:=d'}):
  wpAny (model P w) A (collect (.ref a)) Q E s:=by
 obtain⟨o,ho,hex,hd⟩:=S.obj
 have la:a<s.heap.objs.size:=AX ho
 have hsz:=S.len
 unfold collect
 refine AB (wpAny_runValue (Dl entry_proto_collect' ?_))
 rw[DB PySem.F.plain_proto_collect]
 show wpAny (model P w) A.in1 (newList [] >>= λl=>again (.builtin "list.__iadd__" ⟨[l,.ref a],[]⟩)) _ _ s
 refine AB (BX ?_)
 refine AK ⟨Ey GS _,Dl entry_list_iadd' ?_⟩
 rw[DB GS]
 have g1:(s.heap.push {cls:=.type "list",data:=.seq ([]:List Value).toArray}).get? s.heap.objs.size=some {cls:=.type "list",data:=.seq #[]}:=AU _ rfl
 have z1:(s.heap.push {cls:=.type "list",data:=.seq ([]:List Value).toArray}).objs.size=s.heap.objs.size+1:=BG ..
 have k1:∀b o,s.heap.get? b=some o->(s.heap.push {cls:=.type "list",data:=.seq ([]:List Value).toArray}).get? b=some o:=λb o q=>AG _ q
 show wpAny (model P w) A.in1 (FJ (.ref s.heap.objs.size) (.ref a) (.ref s.heap.objs.size)) _ _ _
 generalize s.heap.push {cls:=.type "list",data:=.seq ([]:List Value).toArray}=h1 at g1 z1 k1 ⊢
 have S1:cY P w h1 a es ep t ks:=S.at λo q=>k1 a o q
 have T1:Shared.TypeIs {s with heap:=h1} (.ref a) "set":=⟨o,k1 a o ho,hex.1⟩
 unfold FJ
 refine AB (FG T1 ?_)
 have n1:GH (.ref s.heap.objs.size) (.ref a)=false:=by simp[GH];exact Cm la
 rw[if_neg (by rw[n1];decide)]
 refine AB (Jw (s:={s with heap:=h1}) S1 λI h2 d2 fx ks' St pk XI ltI fxo k2 st W=>?_)
 refine AB (Bj (N6 ⟨o,k2 a o (k1 a o ho),hex.1⟩ ?_))
 refine EJ (λ_=>?_) (λhab=>absurd (by decide+kernel) hab)
 have lS:s.heap.objs.size<h1.objs.size:=by rw[z1];exact CW _
 have nf:s.heap.objs.size ∉ I::a::fx:=λm=>by
  rcases Ak.mp m with q | m
  ·exact absurd XI (by rw[<-q];exact Nat.not_le.mpr lS)
  ·rcases Ak.mp m with q | m
   ·exact absurd la (by rw[<-q];exact CD _)
   ·exact absurd (fxo _ m).1 (Nat.not_le.mpr lS)
 refine AB (Dd (AB ?_))
 have g2:=k2 _ _ g1
 show wpAny (model P w) A.in1 (updateSeq s.heap.objs.size (·.push .none) >>= λ_=>updateSeq s.heap.objs.size (·.pop)) _ _ _
 refine AB (wpAny_updateSeq g2 rfl ?_)
 have g3:=CC (Du (·.push CT)) g2 rfl
 refine wpAny_updateSeq (hz:=by seq_fits) g3 rfl ?_
 have g4:=CC (Du (·.pop)) g3 rfl
 have k4:∀b o,b≠s.heap.objs.size->h2.get? b=some o->((h2.update s.heap.objs.size (Du (·.push CT))).update s.heap.objs.size (Du (·.pop))).get? b=some o:=λb o nb q=>
  (DX _ _ (Ck nb)).trans ((DX _ _ (Ck nb)).trans q)
 have P1:=(W A.in1 hh).frame 0 _ _ st λb hb o q=>k4 b o (λz=>nf (z▸hb)) q
 refine AK ⟨Ey PySem.F.plain_extend_loop _,codeAny_extend_loopS (W A.in1 hh).toS (Eb S.small) s.heap.objs.size nf _ es.size 0 _ #[] _ rfl (BI _) P1 g4 (ItemsOf.nil _) λs' acc' c' hm hS' hacc=>?_⟩
 show wpAny (model P w) A (load s.heap.objs.size >>= _) _ _ s'
 refine AB (wpAny_load hS' ?_)
 refine AK ?_
 rw[Moved.eq_with hm]
 refine h s'.heap s'.toks d2 acc'.toList ks' (λb o q=>hm.heap b o (λm=>?_) (k4 b o (Ap (AX q)) (k2 b o (k1 b o q)))) ?_ pk
 ·have lb:=AX q
  rcases Ak.mp m with z | m
  ·exact absurd lb (by rw[z];exact CD _)
  ·have z:=AI.mp m
   exact absurd (Cp lb lS) (by rw[z];exact Fh.mpr XI)
 ·have ll:acc'.toList.length=ks'.length:=by rw[BN,hacc.1,hsz,pk.length_eq]
  refine nz ll λi v x e1 e2=>?_
  obtain⟨y,tk,ey,ev⟩:=hacc.2 i v (by rw[<-Bs];exact e1)
  rw[e2] at ey
  cases ey
  exact⟨tk,ev⟩
end
def r_(P:Az)(w:World)(a:Addr)(ks:List Int):HO:=.ext λh=>∃es ep t ks',cY P w h a es ep t ks'/\ks'.Perm ks
section
variable{X:Cx}
def WS(X:Cx):List V->Hp->VK->Prop:=λxs H Q=>∃(l:Addr) (ss:List Int),xs=[.ref l]/\bC X.K H l (ss.map V.int)/\ss.length+1<Ep/\
 ∀(p:Addr) (ks:List Int),H p=none->ks.Nodup->(∀y,y∈ks↔y∈ss)->ks.length<=ss.length->Q (.ref p) (upd H p (r_ X.prog X.w p ks))
theorem LH(hc:X.calm=true):cZ X (.type "set") (WS X):=by
 intro pins s σ H xs us Q I r h
 obtain⟨l,ss,rfl,hq,hb,q⟩:=h
 obtain⟨u,rfl,ru⟩:=vals1 r
 cases ru
 obtain⟨its,rv,p,_⟩:=I.list hq
 have hl:=rv.length
 rw[AA] at hl
 refine yP (I.ok.hd hc) p.isList (intsAre_of rv) (by simp;omega) λh' tk es ep t ks S hm hlen kp=>?_
 have k':∀b o,s.heap.get? b=some o->h'.get? b=some o:=λb o e=>kp b o (AX e) e
 have hp:s.heap.objs.size<=s.heap.objs.size:=AM _
 have I2:=I.laid (a:=s.heap.objs.size) (o:=r_ X.prog X.w s.heap.objs.size ks) (t':=tk) k' hp ⟨⟨es,ep,t,ks,S,.refl _⟩,(let ⟨o,e,_⟩:=S.obj;⟨o,e⟩),λh1 h2 ⟨es1,ep1,t1,vq,S1,p1⟩ k2=>⟨es1,ep1,t1,vq,S1.at k2,p1⟩⟩
 exact⟨.ref s.heap.objs.size,_,I2,rfl,q _ ks (I.hok.fresh hp) S.once hm (by simp at hlen;omega)⟩
def LI(X:Cx):List V->Hp->VK->Prop:=λxs H Q=>∃(a:Addr) (ks:List Int),xs=[.ref a]/\H a=some (r_ X.prog X.w a ks)/\ks.length<64/\
 ∀(p:Addr) (ss':List Int),H p=none->ss'.Perm ks->ss'.Pairwise (· <= ·)->Q (.ref p) (upd H p (.lst (ss'.map V.int)))
theorem vS(hc:X.calm=true):cZ X (.builtin "sorted") (LI X):=by
 intro pins s σ H xs us Q I r h
 obtain⟨a,ks,rfl,ha,h64,q⟩:=h
 obtain⟨u,rfl,ru⟩:=vals1 r
 cases ru
 obtain⟨⟨es,ep,t,ks0,S,p0⟩,_,_⟩:=(show bE X.prog X.w H s.heap a (r_ X.prog X.w a ks) from I.hok a _ ha)
 refine Fn kind_sorted plain_sorted entry_sorted (args_sorted1 _) ?_
 unfold Cz.«sorted»
 (refine AB (m:=checkCount "sorted" 1 1 _) (AK ?_))
 refine AB (xB (A:=X.A.in1) S (I.ok.hd hc) λh' tk d' acc vq k hS p1=>?_)
 have hl:acc.length=ks.length:=by rw[hS.length,p1.length_eq,p0.length_eq]
 refine AB (wpAny_newList ?_ (by rw[hl];exact CG (Ab h64 (by decide))))
 have hoL:(h'.push (seqObj "list" acc.toArray 0)).get? h'.objs.size=some (seqObj "list" acc.toArray 0):=AU _ rfl
 refine AB (Bj (Bb slot_list_sort ⟨_,hoL,rfl⟩ entry_list_sort (list_sort_tree hoL hS (by rw[hl];exact h64) λout ss' a1 a2 a3=>⟨_,rfl,?_⟩) (args_list_sort _)))
 have I1:Inv X pins σ H {s with heap:=h',toks:=tk,drawn:=d'}:=I.step (g':=s.gens) (d':=d') (ch:=[]) (λb z=>by cases z) (λb o _ _ _ e _=>k b o e) (λb o _ _ _ e _=>⟨o.slots,k b o e⟩) (λ_ _ _ _ n=>n)
  (λb o _ e=>⟨o,k b o e⟩) (λ_ _ e=>e) (λ_ _ _ e=>e) (λb ps e=>⟨#[],by rw[e];simp⟩) (λm ⟨ob,e1,e2,hb,r⟩=>⟨ob,e1,e2,k _ ob hb,r⟩) (λb u e=>(I.hok b u e).stay (λc v _ z=>k c v z) (λ_ z=>z) λ_ _ z=>z) I.bare
 obtain⟨e,he⟩:=sortedHeap_at (out:=out) hoL
 have kp:∀b u,h'.get? b=some u->(sortedHeap (h'.push (seqObj "list" acc.toArray 0)) h'.objs.size acc (out)).get? b=some u:=λb u eb=>by
  have lt:=AX eb
  rw[sortedHeap_old (Ap lt) (by rw[BG];exact CM lt)]
  exact AG _ eb
 have I2:=I1.laid (a:=h'.objs.size) (o:=.lst (ss'.map V.int)) (t':=tk) kp (AM _) ⟨by rw[AA,a2.length_eq,p1.length_eq,p0.length_eq];exact CG (Ab h64 (by decide)),(out).toList,e,kY a1,he⟩
 exact AK ⟨_,rfl,⟨.ref h'.objs.size,_,I2,rfl,q _ ss' (I1.hok.fresh (AM _)) ((a2.trans p1).trans p0) a3⟩⟩
end
def WT(K:AE)(ta:TA):TI:=λσ H R=>To K ta σ H R∨Qa K ta σ H R
theorem RC{X:Cx}{elts:List Expr}{x1}{tpos:Pos}{a b:Expr}{ta:TA}{p pos:Pos}(hg:Gl X "zip")(hm:X.mg "zip"=none)(ha:PA X [a,b] ta)
  (hs:BL [a,b] X.env=[(false,eval a X.env),(false,eval b X.env)]:=by rfl) (hs2:BL [b] X.env=[(false,eval b X.env)]:=by rfl):
  PI X (.Tuple elts x1 tpos) (.Call (.Name "zip" p) [a,b] [] pos) (WT X.K ta):=by
 intro pins s σ H R I h
 rcases h with h | h
 ·exact Tp hg hm ha hs hs2 pins s σ H R I h
 ·exact Ry hg hm ha hs hs2 pins s σ H R I h
theorem Ot{K:AE}{a b:Addr}{xs ys:List V}{g:TG}{tt:TT}{te:TE}{D:Addr}{σ:St}{H:Hp}{R:Hp->Prop}(Pv:Nat->St->Hp->Prop)(hlen:xs.length=ys.length)(h0:Pv 0 σ H)(hl:∀i σ H,i<=xs.length->Pv i σ H->bC K H a xs/\bC K H b ys)
  (hs:∀i x y p σ H,xs[i]? =some x->ys[i]? =some y->Pv i σ H->H p=none->g (.ref p) σ (upd H p (.tup [x,y])) λσ2 H2=>tt σ2 H2 λb H3=>if b=true then te σ2 H3 λy H4=>∃ys,H4 D=some (.lst ys)/\ys.length<sizeLine/\Pv (i+1) σ2 (upd H4 D (.lst (ys++[y]))) else Pv (i+1) σ2 H3)
  (hd:∀σ H,Pv xs.length σ H->R H):iX (Ti K a b) g tt te D σ H R:=by
 refine⟨λi m σ H=>m=xs.length-i/\i<=xs.length/\Pv i σ H,⟨xs.length,by simp,BI _,h0⟩,?_⟩
 rintro i m σ H ⟨rfl,hi,p⟩
 obtain⟨q1,q2⟩:=hl i σ H hi p
 by_cases hlt:i<xs.length
 ·refine .inr ⟨⟨xs,ys,xs[i],ys[i]'(by omega),q1,q2,by simp[hlt],by simp[hlen▸hlt]⟩,Pv (i+1),λσ' H' p'=>⟨xs.length-(i+1),by omega,rfl,hlt,p'⟩,λv H' y=>?_⟩
  obtain⟨x,y,p',e1,e2,e3,rfl,rfl⟩:=y
  exact hs i x y p' σ H (e1 xs q1) (e2 ys q2) p e3
 ·have e:i=xs.length:=by omega
  subst e
  exact .inl ⟨⟨xs,ys,q1,q2,.inl (AM _)⟩,hd σ H p⟩
theorem RD{X:Cx}{tg:Expr}(K:AE){l:Expr}{tl:TE}(hl:PE X l tl)(hK:X.K=K:=by rfl):PI X tg l (Sx K tl):=by subst hK;exact dN hl
theorem g6:∀(names:List (Str×C9)) (n:Nat) (acc:List (Str×Addr)),cellsFrom n names acc=cellsFrom n names []++acc
 | [],_,_=>rfl
 | (name,kind)::r,n,acc=>by
  unfold cellsFrom
  split
  ·rw[g6 r (n+1) ((name,n)::acc),g6 r (n+1) [(name,n)],C_];rfl
  ·exact g6 r n acc
theorem o7:∀{names:List (Str×C9)} {n:Nat} {acc:List (Str×Addr)} {x:Str} {c:Addr},(x,c)∈cellsFrom n names acc->(x,Ex)∈names∨(x,c)∈acc
 | [],_,_,_,_,h=>.inr h
 | (name,kind)::r,n,acc,x,c,h=>by
  unfold cellsFrom at h
  split at h
  ·rename_i hk
   rcases o7 h with z | z
   ·exact .inl (AV _ z)
   ·rcases Ak.mp z with z | z
    ·cases z
     refine .inl ?_
     rw[show kind=Ex by simpa using hk]
     exact Aa
    ·exact .inr z
  ·rcases o7 h with z | z
   ·exact .inl (AV _ z)
   ·exact .inr z
theorem RE{M:Model}{A:BQ}{E:Value->AN->Prop}{s:AN}{scope:Scope}{globals:Addr}{closure:List (Str×Addr)}{binds:List (Str×Value)}{qual:Str}{func:Option Addr}{code:Value}{builtins:Addr}{Q:Env->AN->Prop}
  (hl:∀x∈binds,scope.names.lookup x.1=some .local)
  (hQ:∀h',h'.Ns s.heap.objs.size (λx=>binds.reverse.lookup x)->B8 s.heap.objs.size (pushCells (s.heap.push {cls:=.type "frame",data:=.dict #[]}) scope.names) h'->
   Q (newEnv scope s.heap.objs.size globals (cellsFrom (s.heap.objs.size+1) scope.names closure) qual func code none builtins) {s with heap:=h',toks:=s.toks+binds.length})
  (hk:scope.kind=.function):wpAny M A (G9 scope globals closure binds qual func code none builtins) Q E s:=by
 simp only[G9,Option.isSome_none,Cw,if_false]
 refine AB (wpAny_alloc ?_)
 refine AB (wpAny_layCells _ (λname kind cells=>by cases hkc:kind == Ex<;>simp[hkc]) _ _ _ _ ?_)
 rw[show({s with heap:=s.heap.push {cls:=.type "frame",data:=.dict #[]}}:AN).heap.objs.size=s.heap.objs.size+1 from BG ..]
 generalize hcs:cellsFrom (s.heap.objs.size+1) scope.names closure=cs at hQ ⊢
 refine AB ?_
 refine wpAny_forIn_list _
  (λrest _ s'=>∃done h',binds=done++rest/\s'={s with heap:=h',toks:=s.toks+done.length}/\h'.Ns s.heap.objs.size (λx=>done.reverse.lookup x)/\B8 s.heap.objs.size (pushCells (s.heap.push {cls:=.type "frame",data:=.dict #[]}) scope.names) h') _ ?_ ?_ binds _
  ⟨[],_,rfl,rfl,(Heap.Ns.new s.heap (.type "frame")).keeps (Gp _ _),Hs ..⟩
 ·rintro⟨name,v⟩ rest _ s' ⟨done,h',hb,rfl,hns,hsb⟩
  have hk':Env.kindOf {scope,locals:=s.heap.objs.size,globals,cells:=cs,qual,func,code,frame:=some s.heap.objs.size,builtins} name=some .local:=hl (name,v) (by rw[hb];simp)
  have hp:(({scope,locals:=s.heap.objs.size,globals,cells:=cs,qual,func,code,frame:=some s.heap.objs.size,builtins}:Env).scope.kind == .class||(({scope,locals:=s.heap.objs.size,globals,cells:=cs,qual,func,code,frame:=some s.heap.objs.size,builtins}:Env).scope.kind == .module&&
    ({scope,locals:=s.heap.objs.size,globals,cells:=cs,qual,func,code,frame:=some s.heap.objs.size,builtins}:Env).locals != ({scope,locals:=s.heap.objs.size,globals,cells:=cs,qual,func,code,frame:=some s.heap.objs.size,builtins}:Env).globals))=false:=by
   show(scope.kind == .class||(scope.kind == .module&&_))=false
   rw[hk];rfl
  simp only[storeName_local hk' hp]
  refine AB (wpAny_nsSet hns λh'' hns' hsb'=>AK ⟨done++[(name,v)],h'',by simp[hb],?_,?_,hsb.trans hsb'⟩)
  ·simp[Nat.add_assoc]
  ·rw[lookup_reverse_snoc];exact hns'
 ·rintro _ s' ⟨done,h',hb,rfl,hns,hsb⟩
  rw[BU] at hb;subst hb
  exact AK (hQ h' hns hsb)
structure o8 (ps aI:List Str)(scope:Scope):Prop where
 kind:scope.kind=.function
 co:scope.isCoroutine=false
 gen:scope.isGenerator=false
 par:∀x∈ps,scope.names.lookup x=some .local
 free:∀x∈aI,scope.names.lookup x=some .free
 only:∀p∈scope.names,p.2=.free->p.1∈aI
 Zw:∀p∈scope.names,p.2=.cell->p.1 ∉ aI
 nd:(ps++aI).Nodup
def tY(scope:Scope)(x:Str):Bool:=match scope.names.lookup x with | some .cell=>true | _=>false
def LJ(P:Az)(w:World)(K:AE)(mg:Str->Option Value)(base:Heap)(N:List Str)(qual:Str)(scope:Scope)(f:Addr)(cd:Value)(cl:List (Str×Addr))(A:BQ)(outer:List Env)(s:AN)(H:Hp):Cx where
 prog:=P
 w:=w
 K:=K
 mg:=mg
 base:=base
 A:=A.deeper (Cq qual scope s.heap.objs.size f cd (cellsFrom (s.heap.objs.size+1) scope.names cl))
 N:=N
 s₀:=s
 H₀:=H
 env:=Cq qual scope s.heap.objs.size f cd (cellsFrom (s.heap.objs.size+1) scope.names cl)
 outer:=outer
 stack:=Cq qual scope s.heap.objs.size f cd (cellsFrom (s.heap.objs.size+1) scope.names cl)::outer
 ex:=[]
 calm:=true
 fn:=tY scope
 pn:=[]
 xe:=λ_ _=>False
theorem il{n:Nat}{names:List (Str×C9)}{cl:List (Str×Addr)}{x:Str}{c:Addr}(h:(cellsFrom n names cl).lookup x=some c):(cellsFrom n names []).lookup x=some c∨((cellsFrom n names []).lookup x=none/\cl.lookup x=some c):=by
 rw[g6,Fi] at h
 cases e:(cellsFrom n names []).lookup x with
 | none=>rw[e] at h;exact .inr ⟨rfl,h⟩
 | some d=>rw[e] at h;exact .inl h
theorem inv_def{P:Az}{w:World}{K:AE}{mg:Str->Option Value}{base:Heap}{ps aI:List Str}(ls:List Str){qual:Str}{scope:Scope}{f:Addr}{cd:Value}{cl:List (Str×Addr)}{A:BQ}{outer:List Env}{s:AN}{H:Hp}{us:List Value}{vs fvs:List V}{h1:Heap}{tk:Nat}
  (S:o8 ps aI scope) (hd:A.handled=none) (e0:qA P w K mg base A outer s H) (hl:vs.length=ps.length) (r:Vals vs us) (C:iH base cl aI fvs)
  (hns:h1.Ns s.heap.objs.size λx=>(ps.zip us).reverse.lookup x) (hsb:B8 s.heap.objs.size (pushCells (s.heap.push {cls:=.type "frame",data:=.dict #[]}) scope.names) h1):
  Inv (LJ P w K mg base (ps++aI++ls) qual scope f cd cl A outer s H) [] (vs.map some++fvs.map some++ls.map λ_=>none) H {s with heap:=h1,toks:=tk}:=by
 have hk:∀b o,s.heap.get? b=some o->h1.get? b=some o:=λb o e=>hsb.extBut b o (Ap (AX e)) (Gp _ _ b o (AG _ e))
 have hkb:∀b o,base.get? b=some o->h1.get? b=some o:=λb o e=>hk b o (e0.bs b o e).1
 have kW:∀b:Addr,b ∉ (LJ P w K mg base (ps++aI++ls) qual scope f cd cl A outer s H).ex:=λb z=>absurd (show b∈([]:List Addr) from z) (by simp)
 have lf:aI.length=fvs.length:=As C.vals
 have ok:=cellsFrom_ok scope.names (s.heap.push {cls:=.type "frame",data:=.dict #[]}) (s.heap.objs.size+1) [] ⟨λ_ _ hm=>(nomatch hm),Hk⟩ (by rw[BG];exact AM _)
 rw[BG] at ok
 have own:∀{x:Str} {c:Addr},(cellsFrom (s.heap.objs.size+1) scope.names []).lookup x=some c->h1.IsCell c none/\s.heap.objs.size<c:=λ{x c} e=>by
  obtain⟨i1,i2⟩:=ok.empty x c (BS e)
  exact⟨i1.sameBut hsb (Cm i2),i2⟩
 have old:∀{x:Str} {c:Addr},cl.lookup x=some c->c<s.heap.objs.size:=λ{x c} e=>by
  obtain⟨v,o,ho,_⟩:=C.cell x c e
  exact AX (e0.bs _ _ ho).1
 refine⟨⟨e0.mod,S.kind,rfl,rfl,AM _,λy z c h1' h2'=>?_,λy hy=>?_,λy c hf h=>?_,λ_=>hd,E1 e0.frames,.inr ⟨rfl,rfl⟩,λb z=>absurd z (kW b),e0.bs,e0.oC,λb _ _=>kW b,λb z=>absurd z (kW b),e0.hV,e0.uN⟩,
  rfl,e0.bare,Un.kept hk,⟨_,hns,λi y v h1' h2 h3=>?_⟩,λy c h=>?_,e0.hok.fresh (AM _),λy c h=>?_,λp hp=>absurd (show p∈([]:List (Addr×Obj)) from hp) (by simp),e0.hok.kept hk,?_⟩
 ·rcases il h1' with a1 | ⟨_,a1⟩<;>rcases il h2' with a2 | ⟨_,a2⟩
  ·exact name_of_addr ok.apart (BS a1) (BS a2)
  ·exact absurd (own a1).2 (Fh.mpr (CG (old a2)))
  ·exact absurd (own a2).2 (Fh.mpr (CG (old a1)))
  ·exact C.inj y z c a1 a2
 ·have hy:scope.names.lookup y=some .cell∨scope.names.lookup y=some .free:=hy
  show ∃c,(cellsFrom (s.heap.objs.size+1) scope.names cl).lookup y=some c
  rw[g6,Fi]
  cases e:(cellsFrom (s.heap.objs.size+1) scope.names []).lookup y with
  | some c=>exact⟨c,rfl⟩
  | none=>
   rcases hy with hy | hy
   ·obtain⟨c,q⟩:=gP (n:=s.heap.objs.size+1) hy
    rw[e] at q;cases q
   ·have hm:=S.only _ (BS hy) rfl
    obtain⟨i,hi⟩:=Bl hm
    obtain⟨v,_,c,u,hc,_⟩:=dW C.vals hi
    exact⟨c,hc⟩
 ·have hf':tY scope y=true:=hf
  have hy:scope.names.lookup y=some .cell:=by
   unfold tY at hf'
   split at hf'
   ·assumption
   ·cases hf'
  obtain⟨c',q⟩:=gP (n:=s.heap.objs.size+1) hy
  rcases il (show(cellsFrom (s.heap.objs.size+1) scope.names cl).lookup y=some c from h) with a1 | ⟨a0,_⟩
  ·exact CG (own a1).2
  ·rw[a0] at q;cases q
 ·have ie:(ps++aI++ls)[i]? =some y:=h1'
  have h2':(vs.map some++fvs.map some++ls.map λ_=>(none:Option V))[i]? =some (some v):=h2
  by_cases hi2:i<(ps++aI).length
  ·rw[Am hi2] at ie
   rw[Am (by rw[AH,AA,AA,hl,<-lf];rw[AH] at hi2;exact hi2)] at h2'
   by_cases hi:i<ps.length
   ·rw[Am hi] at ie
    rw[Am (by rw[AA];omega),AJ] at h2'
    obtain⟨v',hv',e⟩:=A9.mp h2'
    have e':v'=v:=AZ e
    subst e'
    obtain⟨u,hu,rv⟩:=r.get hv'
    have zu:ps.Nodup:=(BR.mp S.nd).1
    exact⟨u,rv,.inl ⟨S.par y (AL ie),zL zu (by rw[<-hl,r.length];exact AM _) ie hu⟩⟩
   ·rw[Ae (by omega)] at ie
    rw[Ae (by rw[AA];omega),AA,hl,AJ] at h2'
    obtain⟨v',hv',e⟩:=A9.mp h2'
    have e':v'=v:=AZ e
    subst e'
    obtain⟨v2,hv2,c,u,hc,⟨o,ho,hd'⟩,rv⟩:=dW C.vals ie
    rw[hv'] at hv2
    cases hv2
    have hm:=AL ie
    refine⟨u,rv,.inr ⟨.inr (S.free y hm),c,?_,o,hkb _ _ ho,hd'⟩⟩
    show(cellsFrom (s.heap.objs.size+1) scope.names cl).lookup y=some c
    rw[g6,Fi]
    cases e:(cellsFrom (s.heap.objs.size+1) scope.names []).lookup y with
    | none=>exact hc
    | some d=>
     rcases o7 (BS e) with z | z
     ·exact absurd hm (S.Zw _ z rfl)
     ·cases z
  ·rw[Ae (by rw[AH,AA,AA,hl,<-lf];rw[AH] at hi2;omega),AJ] at h2'
   obtain⟨_,_,e⟩:=A9.mp h2'
   cases e
 ·rcases il (show(cellsFrom (s.heap.objs.size+1) scope.names cl).lookup y=some c from h) with a1 | ⟨_,a1⟩
  ·exact⟨_,(own a1).1⟩
  ·obtain⟨v,o,ho,hd'⟩:=C.cell y c a1
   exact⟨v,o,hkb _ _ ho,hd'⟩
 ·rcases il (show(cellsFrom (s.heap.objs.size+1) scope.names cl).lookup y=some c from h) with a1 | ⟨_,a1⟩
  ·exact e0.hok.fresh (CG (own a1).2)
  ·obtain⟨v,o,ho,hd'⟩:=C.cell y c a1
   exact(e0.bs c o ho).2
 ·show _=(ps++aI++ls).length
  rw[AH,AH,AA,AA,AA,AH,AH,hl,lf]
theorem RF{P:Az}{w:World}{K:AE}{mg:Str->Option Value}{base:Heap}{k:Nat}{f c':Addr}{name qual:Str}{params:Cs}{body:List Stmt}{scope:Scope}{cl:List (Str×Addr)}{doc pm ctv:Value}{ps aI ls:List Str}{fvs:List V}{sp:Sp}
  (ho:base.get? f=some (PySem.W.fnMade name qual params body scope cl doc pm c' ctv)) (oY:base.CodeRec (.ref c') qual) (S:o8 ps aI scope) (C:iH base cl aI fvs) (len:∀vs H Q E,sp vs H Q E->vs.length=ps.length)
  (hbody:∀(A:BQ) (outer:List Env) (s:AN) (H:Hp) (vs:List V) (Q:VK) (E:XK),aQ k (A.deeper (Cq qual scope s.heap.objs.size f (.ref c') (cellsFrom (s.heap.objs.size+1) scope.names cl)))->sp vs H Q E->
   ∃t,jE (LJ P w K mg base (ps++aI++ls) qual scope f (.ref c') cl A outer s H) body t/\t {nx:=λ_ H'=>Q .non H',rt:=Q} (vs.map some++fvs.map some++ls.map λ_=>none) H):
  aV P w K mg base bK (k+1) f (PySem.W.fnX name qual params body scope cl .none .none doc pm none (.ref c') ctv) ps sp:=by
 refine⟨len,λA outer s H args us vs Q E hr e0 hb r hsp=>?_⟩
 have hl:=len _ _ _ _ hsp
 have lim:s.heap.NoLimit:=e0.mod.nolimit.keeps λb o e=>(e0.bs b o e).1
 have N9:s.heap.CodeRec (.ref c') qual:=by
  obtain⟨c,oc,vs',tq,hc,hoc,hdc,hq⟩:=oY
  exact⟨c,oc,vs',tq,hc,(e0.bs _ _ hoc).1,hdc,hq⟩
 refine Eh hr.depth (e0.bs _ _ ho).1 rfl S.co S.gen rfl N9 (hb _ _ _ _ ?_)
 have hloc:∀y∈ps.zip us,scope.names.lookup y.1=some .local:=λ⟨n,v⟩ hy=>S.par n (Di hy).1
 refine RE hloc (λh₁ hns hsb=>?_) S.kind
 have hk:∀b o,s.heap.get? b=some o->h₁.get? b=some o:=λb o e=>hsb.extBut b o (Ap (AX e)) (Gp _ _ b o (AG _ e))
 refine⟨lim.keeps hk,?_⟩
 obtain⟨t,ht,hq⟩:=hbody A outer s H vs Q E (hr.deeper _) hsp
 have I:=inv_def (tk:=s.toks+(ps.zip us).length) (qual:=qual) (f:=f) (cd:=.ref c') ls S hr.hd e0 hl r C hns hsb
 refine codeAny_func (B0 (ht [] _ _ H _ I hq) (λfl s' hs=>?_) λe s' hs=>hs.elim)
 have fin:∀{σ':St} {H':Hp} {v:V} {u:Value},Inv (LJ P w K mg base (ps++aI++ls) qual scope f (.ref c') cl A outer s H) [] σ' H' s'->RelV v u->Q v H'->CE outer P w H s Q u s':=
  λ{σ' H' v u} J rv q=>⟨v,H',J.os,J.bare,J.base,J.hok,rv,q⟩
 cases fl with
 | ret u=>
  obtain⟨v,σ',H',J,rv,q⟩:=hs
  exact fin J rv q
 | next=>
  obtain⟨σ',H',J,q⟩:=hs
  exact fin (v:=V.non) (u:=CT) J rfl q
 | brk=>
  obtain⟨_,_,_,q⟩:=hs
  exact Bt q
 | cont=>
  obtain⟨_,_,_,q⟩:=hs
  exact Bt q
theorem FnAt.WU{X:Cx}{σ:St}{D:List Addr}{H:Hp}{base':Heap}{name:Str}{params:Cs}{body:List Stmt}{scope:Scope}{clos:List (Str×Addr)}{c' f:Addr}{doc ctv:Value}{ps aI ls:List Str}{fvs:List V}{k:Nat}{sp:Sp}(W:Wide X σ D H base')
  (hf:H f=some (k_ f (qP X name params body scope clos doc c' ctv))) (TR:f∈D) (hc:H c'=some (lg c' (Dz X.env name name))) (hcD:c'∈D) (S:o8 ps aI scope) (sub:∀p∈clos,X.env.cells.lookup p.1=some p.2)
  (vals:DG (λ(x:Str) (v:V)=>∃i:Nat,X.N[i]? =some x/\σ[i]? =some (some v)/\X.env.scope.names.lookup x=some .cell/\clos.lookup x=X.env.cells.lookup x) aI fvs)
  (hb:∀(us:List Value),us.length=ps.length->G5 (PySem.W.fnX name (Dz X.env name name) params body scope clos .none .none doc ((X.mg "__name__").getD .none) none (.ref c') ctv) ⟨us,[]⟩=pure (ps.zip us)) (len:∀vs H Q E,sp vs H Q E->vs.length=ps.length)
  (hbody:∀(A:BQ) (outer:List Env) (s:AN) (H:Hp) (vs:List V) (Q:VK) (E:XK),aQ k (A.deeper (Cq (Dz X.env name name) scope s.heap.objs.size f (.ref c') (cellsFrom (s.heap.objs.size+1) scope.names clos)))->sp vs H Q E->
   ∃t,jE (LJ X.prog X.w X.K X.mg base' (ps++aI++ls) (Dz X.env name name) scope f (.ref c') clos A outer s H) body t/\t {nx:=λ_ H'=>Q .non H',rt:=Q} (vs.map some++fvs.map some++ls.map λ_=>none) H):FnAt X.prog X.w X.K X.mg base' (k+1) f ps.length sp:=by
 have ho:base'.get? f=some (qP X name params body scope clos doc c' ctv):=W.ext f _ TR hf
 have oY:base'.CodeRec (.ref c') (Dz X.env name name):=W.ext c' _ hcD hc
 have sub':∀x c,clos.lookup x=some c->X.env.cells.lookup x=some c:=λx c e=>sub (x,c) (BS e)
 have C:iH base' clos aI fvs:=by
  refine⟨λx y c h1 h2=>W.inj x y c (sub' x c h1) (sub' y c h2),λx c h=>W.cell x c (sub' x c h),Paired.qz vals λx v ⟨i,h1,h2,h3,h4⟩=>?_⟩
  obtain⟨c,u,e1,e2,e3⟩:=W.val i x v h1 h2 h3
  exact⟨c,u,h4.trans e1,e2,e3⟩
 exact⟨_,_,ps,ho,rfl,rfl,hb,RF ho oY S C len hbody⟩
end L2
namespace My
open PySem L2
def top(i:Nat):Stmt:=PySem.Challenge.pw_figurejudge_k44_each_by_no_hidden_number.main.body.getD i (.Pass ⟨0,0,0,0⟩)
abbrev dE:Stmt:=top 1
abbrev bR:Stmt:=top 3
abbrev eK:Stmt:=top 4
abbrev dF:Stmt:=top 5
abbrev eF:Stmt:=top 7
abbrev dG:Stmt:=top 9
abbrev dg:Stmt:=top 10
abbrev dh:Stmt:=top 11
abbrev fk:Stmt:=top 12
abbrev iJ:Stmt:=top 13
abbrev bH:Stmt:=top 14
abbrev cS:Stmt:=top 15
abbrev cU:Stmt:=top 16
abbrev gR:Stmt:=top 18
abbrev iK:Stmt:=top 19
abbrev g7:Stmt:=top 20
abbrev eZ:Stmt:=top 21
abbrev g8:Stmt:=top 22
abbrev g9:Stmt:=top 23
abbrev dk:Stmt:=top 24
abbrev gT:Stmt:=top 25
abbrev eI:Stmt:=top 26
abbrev hJ:Stmt:=top 27
abbrev fQ:Stmt:=top 28
abbrev gc:Stmt:=top 29
abbrev dw:Stmt:=top 30
abbrev eP:Stmt:=top 31
abbrev dX:Stmt:=top 32
abbrev fm:Stmt:=top 33
abbrev fR:Stmt:=top 34
abbrev gF:Stmt:=top 35
set_option genInjectivity false in
set_option genSizeOf false in
structure cb where
 gG:Addr
 iL:BC
 ip:Addr
 gH:BC
 xC:Addr
 iq:Addr
 jv:BC
 gJ:Addr
 iM:BC
 iZ:Addr
 kF:BC
 gK:Addr
 iN:BC
 gf:Addr
 iu:BC
 gg:Addr
 iw:BC
 jN:Addr
 mj:BC
 kG:Addr
 lq:BC
 cV:Addr
 iO:BC
 dR:Addr
 cW:Addr
 lA:Addr
 jO:BC
 LK:Addr
 lC:Addr
 jP:BC
 LN:Addr
 nA:Addr
 o9:BC
 nB:Addr
 pb:BC
 lD:Addr
 nE:BC
 lE:Addr
 nG:BC
 lF:Addr
 nH:BC
 je:Addr
 jQ:BC
 i_:Addr
 kH:BC
 nI:Addr
 pe:BC
 i4:Addr
 kI:BC
 lG:Addr
 nJ:BC
 fS:Addr
 gi:BC
 jR:Addr
 ml:BC
 iy:Addr
 jw:BC
 pU:Addr
 qR:BC
 zT:Addr
 iP:Addr
 iA:Addr
 i5:BC
 jS:Addr
 mn:BC
 lH:Addr
 nK:BC
 Jx:Addr
 LO:BC
structure Txt (K:AE)(mg:Str->Option Value)(a:cb):Prop where
 vT:dO K "all_letters" "all_letters" dE a.gG a.iL
 jx:mg "all_letters"=some (.ref a.gG)
 jy:AR K (.ref a.gG)=true
 jz:Binds K a.iL ["base","many"] []
 xD:mf K "grown_from" "grown_from" bR a.ip a.gH (.ref a.xC)
 xE:mg "grown_from"=some (.ref a.ip)
 xF:AR K (.ref a.ip)=true
 xG:Binds K a.gH ["first","many","onward","is_yes","most"] []
 T9:∃t,Binds K a.gH ["first","many","onward","is_yes","most"] [.int 2000 t]
 xH:dO K "machine_of" "machine_of" eK a.iq a.jv
 xI:mg "machine_of"=some (.ref a.iq)
 xJ:AR K (.ref a.iq)=true
 xK:Binds K a.jv ["base","names","growth","most"] []
 vU:dO K "own_letters" "own_letters" dF a.gJ a.iM
 vV:mg "own_letters"=some (.ref a.gJ)
 vW:AR K (.ref a.gJ)=true
 vX:Binds K a.iM ["base","names","own"] []
 yR:dO K "turned_no" "turned_no" eF a.iZ a.kF
 qh:mg "turned_no"=some (.ref a.iZ)
 qi:AR K (.ref a.iZ)=true
 qj:Binds K a.kF ["machine"] []
 vY:dO K "other_names" "other_names" dG a.gK a.iN
 oo:mg "other_names"=some (.ref a.gK)
 oq:AR K (.ref a.gK)=true
 ot:Binds K a.iN ["machine","name"] []
 tZ:dO K "letters_over" "letters_over" dg a.gf a.iu
 t_:mg "letters_over"=some (.ref a.gf)
 t7:AR K (.ref a.gf)=true
 t8:Binds K a.iu ["base","machine","name"] []
 t9:dO K "rooms_before" "rooms_before" dh a.gg a.iw
 ua:mg "rooms_before"=some (.ref a.gg)
 ub:AR K (.ref a.gg)=true
 uc:Binds K a.iw ["machine","letters"] []
 Jy:dO K "going_on" "going_on" fk a.jN a.mj
 Jz:mg "going_on"=some (.ref a.jN)
 JA:AR K (.ref a.jN)=true
 JB:Binds K a.mj ["machine","letters"] []
 Ou:dO K "led_to" "led_to" iJ a.kG a.lq
 Ov:mg "led_to"=some (.ref a.kG)
 Ow:AR K (.ref a.kG)=true
 Ox:Binds K a.lq ["machine","some","letters"] []
 vZ:mf K "sets_growth" "sets_growth" bH a.cV a.iO (.ref a.dR)
 ou:DV K a.dR a.cW=true
 wb:mg "sets_growth"=some (.ref a.cV)
 we:AR K (.ref a.cV)=true
 wg:Binds K a.iO ["base","machine","name"] []
 LP:mf K "some_of" "some_of" cS a.lA a.jO (.ref a.LK)
 LQ:mg "some_of"=some (.ref a.lA)
 LU:AR K (.ref a.lA)=true
 LV:Binds K a.jO ["base","machine","name","most"] []
 XJ:∃t,Binds K a.jO ["base","machine","name","most"] [.int 2000 t]
 LW:mf K "each_of" "each_of" cU a.lC a.jP (.ref a.LN)
 lI:mg "each_of"=some (.ref a.lC)
 lJ:AR K (.ref a.lC)=true
 vy:Binds K a.jP ["base","machine","name","most"] []
 LX:∃t,Binds K a.jP ["base","machine","name","most"] [.int 2000 t]
 Oy:dO K "_law_feed" "_law_feed" gR a.nA a.o9
 Oz:mg "_law_feed"=some (.ref a.nA)
 OA:AR K (.ref a.nA)=true
 OB:Binds K a.o9 ["_law_script"] []
 OC:dO K "_law_draw" "_law_draw" iK a.nB a.pb
 bS:mg "_law_draw"=some (.ref a.nB)
 bT:AR K (.ref a.nB)=true
 bU:Binds K a.pb ["_law_feed_here","_law_many"] []
 LY:dO K "_law_after" "_law_after" g7 a.lD a.nE
 LZ:mg "_law_after"=some (.ref a.lD)
 L_:AR K (.ref a.lD)=true
 L0:Binds K a.nE ["_law_word"] []
 L3:dO K "_law_names" "_law_names" eZ a.lE a.nG
 L4:mg "_law_names"=some (.ref a.lE)
 L5:AR K (.ref a.lE)=true
 L6:Binds K a.nG ["_law_feed_here","_law_many"] []
 L7:dO K "_law_great" "_law_great" g8 a.lF a.nH
 L8:mg "_law_great"=some (.ref a.lF)
 L9:AR K (.ref a.lF)=true
 Ma:Binds K a.nH ["_law_feed_here"] []
 vz:dO K "_law_rings" "_law_rings" g9 a.je a.jQ
 vA:mg "_law_rings"=some (.ref a.je)
 vB:AR K (.ref a.je)=true
 vC:Binds K a.jQ ["_law_moves"] []
 yS:dO K "_law_machine" "_law_machine" dk a.i_ a.kH
 qk:mg "_law_machine"=some (.ref a.i_)
 ql:AR K (.ref a.i_)=true
 qm:Binds K a.kH ["_law_feed_here","_law_base","_law_names_here","_law_most"] []
 OD:dO K "_law_says" "_law_says" gT a.nI a.pe
 OE:mg "_law_says"=some (.ref a.nI)
 OG:AR K (.ref a.nI)=true
 OH:Binds K a.pe ["_law_base","_law_machine_here","_law_numbers"] []
 yT:dO K "_law_letters" "_law_letters" eI a.i4 a.kI
 yU:mg "_law_letters"=some (.ref a.i4)
 yV:AR K (.ref a.i4)=true
 yW:Binds K a.kI ["_law_base","_law_many"] []
 Mb:dO K "_law_grown" "_law_grown" hJ a.lG a.nJ
 Md:mg "_law_grown"=some (.ref a.lG)
 Me:AR K (.ref a.lG)=true
 Mf:Binds K a.nJ ["_law_first","_law_many","_law_onward","_law_most"] []
 Mg:dO K "_law_alike" "_law_alike" fQ a.fS a.gi
 lK:mg "_law_alike"=some (.ref a.fS)
 lL:AR K (.ref a.fS)=true
 lM:Binds K a.gi ["_law_found","_law_due_here"] []
 JC:dO K "_law_wholes" "_law_wholes" gc a.jR a.ml
 JD:mg "_law_wholes"=some (.ref a.jR)
 JE:AR K (.ref a.jR)=true
 JF:Binds K a.ml ["_law_base","_law_names_here","_law_name"] []
 xM:dO K "_law_going_on" "_law_going_on" dw a.iy a.jw
 xN:mg "_law_going_on"=some (.ref a.iy)
 xO:AR K (.ref a.iy)=true
 xP:Binds K a.jw ["_law_machine_here","_law_noughts"] []
 RG:mf K "_law_due" "_law_due" eP a.pU a.qR (.ref a.zT)
 RH:DV K a.zT a.iP=true
 RI:mg "_law_due"=some (.ref a.pU)
 RJ:AR K (.ref a.pU)=true
 RK:Binds K a.qR ["_law_base","_law_machine_here","_law_name"] []
 JG:dO K "_law_hidden" "_law_hidden" dX a.iA a.i5
 JH:mg "_law_hidden"=some (.ref a.iA)
 JI:AR K (.ref a.iA)=true
 JJ:Binds K a.i5 ["_law_base","_law_machine_here","_law_name","_law_numbers"] []
 JK:dO K "_law_turned" "_law_turned" fm a.jS a.mn
 jT:mg "_law_turned"=some (.ref a.jS)
 jU:AR K (.ref a.jS)=true
 jV:Binds K a.mn ["_law_machine_here"] []
 Mh:dO K "_law_chain" "_law_chain" fR a.lH a.nK
 Mi:mg "_law_chain"=some (.ref a.lH)
 Mj:AR K (.ref a.lH)=true
 Mk:Binds K a.nK ["_law_feed_here","_law_base","_law_names_here","_law_at"] []
 WV:dO K "law" "law" gF a.Jx a.LO
 afX:mg "law"=some (.ref a.Jx)
 bV:mg "range"=none
 bW:mg "tuple"=none
 cg:mg "len"=none
 mq:mg "enumerate"=none
 mN:mg "list"=none
 qS:mg "sorted"=none
 Qe:mg "abs"=none
 JL:mg "sum"=none
 cF:mg "isinstance"=none
 JM:mg "any"=none
 xQ:mg "bool"=none
 Qg:mg "min"=none
 WW:mg "all"=none
 JN:mg "int"=none
 WX:mg "set"=none
 WY:mg "zip"=none
 tne:a.cW≠a.iP
theorem ud{c:TT}{tb:TS}{D:Ends}{σ:St}{H:Hp}(W:Nat->St->Hp->Prop)(h0:∃m,W m σ H)
  (hs:∀m σ H,W m σ H->c σ H λb H1=>if b=true then tb {D with nx:=λσ' H'=>∃m',m'<m/\W m' σ' H',ct:=λσ' H'=>∃m',m'<m/\W m' σ' H',bk:=D.nx} σ H1 else D.nx σ H1)
  (mono:∀σ H Q Q',(∀b H1,Q b H1->Q' b H1)->c σ H Q->c σ H Q'):oI c tb D σ H:=by
 refine⟨W,h0,λm σ H w=>mono σ H _ _ (λb H1 q=>?_) (hs m σ H w)⟩
 cases b with
 | true=>exact⟨_,λσ' H' p=>p,q⟩
 | false=>exact q
theorem i6{H:Hp}{D:Addr}{kvs:List (Key×V)}{x:Str}{v:V}(h:Rd H D (.dK kvs))(e:cw kvs (BW x)=some v):oP H D (.str x) (some v):=.inl ⟨kvs,BW x,h,rfl,e.symm⟩
def fd(L:Addr)(n sd:Int):List (Key×V):=[(BW ("left":Str),.ref L),(BW ("number":Str),.int n),(BW ("seed":Str),.int sd)]
theorem zU(L:Addr)(n sd:Int):cw (fd L n sd) (BW ("left":Str))=some (.ref L):=dP rfl
theorem jf(L:Addr)(n sd:Int):cw (fd L n sd) (BW ("number":Str))=some (.int n):=by
 unfold fd
 rw[cJ (show ¬((BW ("left":Str):Key)=BW ("number":Str)) by decide+kernel),dP rfl]
theorem uf(L:Addr)(n sd:Int):cw (fd L n sd) (BW ("seed":Str))=some (.int sd):=by
 unfold fd
 rw[cJ (show ¬((BW ("left":Str):Key)=BW ("seed":Str)) by decide+kernel),cJ (show ¬((BW ("number":Str):Key)=BW ("seed":Str)) by decide+kernel),dP rfl]
theorem zV(L:Addr)(n sd v:Int):putK (fd L n sd) (BW ("number":Str)) (.int v)=fd L v sd:=by
 unfold putK fd
 have a1:¬((BW ("left":Str):Key)=BW ("number":Str)):=by decide+kernel
 have a2:¬((BW ("seed":Str):Key)=BW ("number":Str)):=by decide+kernel
 simp only[CY,List.any_nil,A0,CH,a1,a2,if_false,if_true,decide_true,decide_false,Hl,Bool.or_true]
theorem RL(L:Addr)(n sd v:Int):putK (fd L n sd) (BW ("seed":Str)) (.int v)=fd L n v:=by
 unfold putK fd
 have a1:¬((BW ("left":Str):Key)=BW ("seed":Str)):=by decide+kernel
 have a2:¬((BW ("number":Str):Key)=BW ("seed":Str)):=by decide+kernel
 simp only[CY,List.any_nil,A0,CH,a1,a2,if_false,if_true,decide_true,decide_false,Hl,Bool.or_true]
structure aZ (H:Hp)(F L:Addr):Prop where
 ex:∃(ms:List Int) (n sd:Int),H F=some (.dK (fd L n sd))/\H L=some (.lst (ms.map V.int))/\0<=n/\(∀m∈ms,0<=m)/\0<=sd/\sd<2147483648
theorem aZ.same{H H':Hp}{F L:Addr}(h:aZ H F L)(s:Same H H'):aZ H' F L:=by
 obtain⟨ms,n,sd,a,b,c⟩:=h.ex
 exact⟨ms,n,sd,s _ _ a,s _ _ b,c⟩
def Ua:Sp:=λvs H Q _=>∃(F L:Addr) (m:Nat),vs=[.ref F,.int m]/\aZ H F L/\0<m/\m<2 ^ 1000/\∀(r:Nat) (H':Hp),r<m->cm F L H H'->aZ H' F L->Q (.int (r:Nat)) H'
section
variable{P:Az}{w:World}{K:AE}{mg:Str->Option Value}{base:Heap}
theorem lN:aU ["_law_feed_here","_law_many","_law_found","_law_one","_law_two"] ["_law_feed_here","_law_many"] (aj iK):=⟨rfl,rfl,rfl,by decide+kernel,rfl,by decide+kernel,by decide+kernel⟩
theorem jg{a:cb}(T:Txt K mg a):aV P w K mg base bK 1 a.nB a.pb ["_law_feed_here","_law_many"] Ua:=by
 refine T.OC.ok lN (λvs H Q E h=>?_) (λcdv A outer s H vs Q E hr h=>?_)
 ·obtain⟨F,L,m,rfl,_⟩:=h
  rfl
 ·obtain⟨F,L,many,rfl,hf,hm0,hm1,k⟩:=h
  refine⟨_,(ah (fg Af (PW.pt (wJ (aX ic (dJ (cN hr) (pv 0) cq (λ_ _=>rfl)) ak (bj _)) (tG (aX (K7 K hr.units) (dJ (cN hr) (pv 0) cq (λ_ _=>rfl)) (bt ag) (bj _)))))
   (au (j_ (cN hr) (pv 0) cq (KQ Ai Gw Gx KR (dJ (cN hr) (pv 0) cq (λ_ _=>rfl))) rfl)))
  (ah (cM (aX pO (dJ (cN hr) (pv 0) cq (λ_ _=>rfl)) ak (bj _))
   (ah (av (i:=2) lN.nd rfl (AW rfl) (aH fF (dJ (cN hr) (pv 0) cq (λ_ _=>rfl)) (pv 1)))
   (ah (j_ (cN hr) (pv 0) cq (aH iG (dJ (cN hr) (pv 0) cq (λ_ _=>rfl)) (pv 1)) rfl)
   (au (aO (pv 2)))))
   bQ)
  (ah (av (i:=3) lN.nd rfl (AW rfl) (aH fF (aH cK (aH dr (dJ (cN hr) (pv 0) cq (λ_ _=>rfl)) ak) ak) ak))
  (ah (j_ (cN hr) (pv 0) cq (aH fF (aH cK (aH dr (pv 3) ak) ak) ak) rfl)
  (ah (av (i:=4) lN.nd rfl (AW rfl) (aH fF (aH dr (dJ (cN hr) (pv 0) cq (λ_ _=>rfl)) (dJ (cN hr) (pv 0) cq (λ_ _=>rfl))) ak))
  (au (aO (aH fF (aH cK (aH dr (aH fF (aH dr (pv 3) (pv 3)) ak) ak) (pv 4)) (pv 1))))))))),?_⟩
  obtain⟨ms0,n0,sd0,e0,l0,hn0,Zx,hs0,hs1⟩:=hf.ex
  have zW:F≠L:=gE e0 l0 (λz=>nomatch z)
  have put:∀{H':Hp} {kv:List (Key×V)},H' F=some (.dK kv)->kv.length=3->kv.length<sizeLine:=λ_ z=>by rw[z];decide
  refine ud (λm σ H'=>∃(ms:List Int) (n sd:Int),m=ms.length/\σ=[some (.ref F),some (.int (many:Nat)),none,none,none]/\cm F L H H'/\H' F=some (.dK (fd L n sd))/\H' L=some (.lst (ms.map V.int))/\0<=n/\(∀m∈ms,0<=m)/\0<=sd/\sd<2147483648)
   ⟨_,ms0,n0,sd0,rfl,rfl,λb o e _ _=>e,e0,l0,hn0,Zx,hs0,hs1⟩ ?_ ?_
  ·rintro m σ H1 ⟨ms,n,sd,rfl,rfl,k1,e1,l1,hn,hms,hs,hs'⟩
   have OI:∀kv:List (Key×V),kv.length=3->kv.length<sizeLine:=λkv z=>by rw[z];decide
   refine⟨_,rfl,F,.int n,rfl,i6 (.inl e1) (jf ..),rfl,_,rfl,?_⟩
   refine cI (λhz=>?_) (λhz=>?_)
   ·have hz':n=0:=V.int.inj (of_decide_eq_true hz)
    subst hz'
    refine⟨_,rfl,F,.ref L,rfl,i6 (.inl e1) (zU ..),by decide,λE hE=>?_⟩
    have sE:=Same.new (o:=.lst []) hE
    have e2:=sE _ _ e1
    have l2:=sE _ _ l1
    have k2:cm F L H (upd H1 E (.lst [])):=k1.trans sE.kb2
    refine⟨⟨.lst (ms.map .int),.lst [],g_ (.of l2) (jd ms),g_ (.of af) nq,rfl,rfl,?dep,_,rfl,?_⟩,.lst (ms.map .int),.lst [],g_ (.of l2) (jd ms),g_ (.of af) nq,.inr ⟨_,_,rfl,rfl⟩⟩
    case dep=>rw[Dt.dep,oT];decide
    have eb:(if true=true then !(Dt.lst (ms.map .int)).beq (.lst []) else(Dt.lst (ms.map .int)).beq (.lst []))=decide (ms≠[]):=by
     rw[if_pos rfl,Dt.beq]
     cases ms with
     | nil=>simp[Dt.eh]
     | cons y ys=>simp[Dt.eh]
    rw[eb]
    generalize upd H1 E (.lst [])=H2 at e2 l2 k2 ⊢
    refine cI (λhne=>?_) (λhem=>?_)
    ·have hne':ms≠[]:=of_decide_eq_true hne
     have hl:0<ms.length:=HL.mpr hne'
     obtain⟨x,hx⟩:∃x,ms[ms.length-1]? =some x:=⟨_,Ag (by omega)⟩
     have hx0:=hms x (AL hx)
     refine⟨_,rfl,F,.ref L,rfl,i6 (.inl e2) (zU ..),.inl ⟨rfl,_,.of l2⟩,L,_,.int x,rfl,rfl,l2,by rw[AA,AJ,hx];rfl,?_⟩
     have e3:(upd H2 L (.lst (ms.map V.int).dropLast)) F=some (.dK (fd L 0 sd)):=by rw[ao zW];exact e2
     refine⟨_,rfl,F,_,rfl,ju.k (k:=BW ("number":Str)) e3 (OI _ rfl),?_⟩
     refine⟨ms.dropLast.length,by rw[G7];omega,ms.dropLast,x,sd,rfl,rfl,?_,?_,?_,hx0,λm hm=>hms m (List.dropLast_subset _ hm),hs,hs'⟩
     ·exact k2.trans ((KB.r KB.write).trans (KB.l KB.write))
     ·rw[af,zV]
     ·rw[ao zW.symm,af,List.map_dropLast]
    ·
     refine⟨_,rfl,F,.int 0,rfl,i6 (.inl e2) (jf ..),_,_,rfl,rfl,_,rfl,?_⟩
     refine cI (λz=>absurd (of_decide_eq_true z) (by decide)) (λ_=>?_)
     refine⟨_,rfl,F,.int sd,rfl,i6 (.inl e2) (uf ..),_,_,rfl,rfl,.inr (by constructor<;>decide),_,_,rfl,rfl,_,_,rfl,rfl,cpos (by decide),?_⟩
     have o0:0<=(sd*48271+7919) % 2147483647:=EK _ (by decide)
     have o1:(sd*48271+7919) % 2147483647<2147483647:=Dg _ (by decide)
     dsimp only[az]
     generalize (sd*48271+7919) % 2147483647=one at o0 o1 ⊢
     refine⟨_,rfl,_,_,rfl,rfl,.inr (by constructor<;>decide),_,_,rfl,rfl,_,_,rfl,rfl,cpos (by decide),_,rfl,F,_,rfl,ju.k (k:=BW ("seed":Str)) e2 (OI _ rfl),?_⟩
     have t0:0<=(one*40692+104729) % 2147483399:=EK _ (by decide)
     have t1:(one*40692+104729) % 2147483399<2147483399:=Dg _ (by decide)
     rw[RL]
     generalize (one*40692+104729) % 2147483399=s2 at t0 t1 ⊢
     have e3:(upd H2 F (.dK (fd L 0 s2))) F=some (.dK (fd L 0 s2)):=af
     have l3:(upd H2 F (.dK (fd L 0 s2))) L=some (.lst (ms.map V.int)):=by rw[ao zW.symm];exact l2
     have k3:cm F L H (upd H2 F (.dK (fd L 0 s2))):=k2.trans (KB.l KB.write)
     generalize upd H2 F (.dK (fd L 0 s2))=H3 at e3 l3 k3 ⊢
     refine⟨_,rfl,F,.int s2,rfl,i6 (.inl e3) (uf ..),_,rfl,F,.int s2,rfl,i6 (.inl e3) (uf ..),_,_,rfl,rfl,.inl (by constructor<;>omega),_,_,rfl,rfl,cpos (by decide),?_⟩
     refine⟨_,rfl,_,rfl,_,_,rfl,rfl,.inl (by constructor<;>omega),_,_,rfl,rfl,cpos (by decide),_,_,rfl,rfl,.inr (by constructor<;>decide),_,rfl,_,_,rfl,rfl,_,rfl,_,_,rfl,rfl,cpos (by omega),?_⟩
     have f0:0<=(one*one % 2147483629*2147483563+s2*s2 % 2147483563) % (many:Int):=EK _ (by omega)
     have f1:(one*one % 2147483629*2147483563+s2*s2 % 2147483563) % (many:Int)<(many:Int):=Dg _ (by omega)
     obtain⟨r,hr'⟩:∃r:Nat,(one*one % 2147483629*2147483563+s2*s2 % 2147483563) % (many:Int)=(r:Int):=⟨_,(Int.toNat_of_nonneg f0).symm⟩
     have:=k r H3 (by omega) k3 ⟨ms,0,s2,e3,l3,IB _,hms,t0,by omega⟩
     rw[<-hr'] at this
     exact this
   ·
    have hn0':0<n:=by
     have:n≠0:=λz=>hz (by rw[z];simp)
     omega
    refine cX ⟨_,rfl,F,.int n,rfl,i6 (.inl e1) (jf ..),_,_,rfl,rfl,_,rfl,?_⟩
    refine cI (λ_=>?_) (λz=>absurd (decide_eq_true hn0') z)
    refine⟨_,rfl,F,.int n,rfl,i6 (.inl e1) (jf ..),_,rfl,_,_,rfl,rfl,cpos (by omega),?_⟩
    refine⟨_,rfl,F,.int n,rfl,i6 (.inl e1) (jf ..),_,rfl,_,_,rfl,rfl,⟨by omega,?log⟩,_,rfl,F,_,rfl,ju.k (k:=BW ("number":Str)) e1 (OI _ rfl),?_⟩
    case log=>
     rw[Int.natAbs_natCast,Nat.log2_lt (by omega)]
     exact Ab hm1 (BA (by decide) (by decide))
    refine⟨_,rfl,?_⟩
    have f0:0<=n % (many:Int):=EK _ (by omega)
    have f1:n % (many:Int)<(many:Int):=Dg _ (by omega)
    obtain⟨r,hr'⟩:∃r:Nat,n % (many:Int)=(r:Int):=⟨_,(Int.toNat_of_nonneg f0).symm⟩
    rw[zV]
    have:=k r (upd H1 F (.dK (fd L (n / (many:Int)) sd))) (by omega) (k1.trans (KB.l KB.write)) ⟨ms,n / (many:Int),sd,af,by rw[ao zW.symm];exact l1,Int.ediv_nonneg hn (by omega),hms,hs,hs'⟩
    rw[<-hr'] at this
    exact this
  ·rintro σ H Q Q' hQ ⟨v,e1,a,y,e2,e3,e4,b,e5,q⟩
   refine⟨v,e1,a,y,e2,e3,e4,b,e5,?_⟩
   revert q
   cases b with
   | false=>exact λq=>hQ _ _ q
   | true=>
    rintro⟨v,e1,a,y,e2,e3,z,q⟩
    refine⟨v,e1,a,y,e2,e3,z,λp hp=>?_⟩
    obtain⟨⟨d,d',a1,a2,a3,a4,a5,b,a6,q⟩,z2⟩:=q p hp
    exact⟨⟨d,d',a1,a2,a3,a4,a5,b,a6,hQ _ _ q⟩,z2⟩
def Ub(K:AE):Sp:=λvs H Q _=>∃(a:Addr) (ns:List Int),vs=[.ref a]/\bC K H a (ns.map V.int)/\ns.length<=63/\∀(F L:Addr) (H':Hp),H F=none->H L=none->Same H H'->aZ H' F L->Q (.ref F) H'
def RM:Sp:=λvs H Q _=>∃(F L:Addr),vs=[.ref F]/\aZ H F L/\∀(r:Nat) (H':Hp),r<10 ^ 60->cm F L H H'->aZ H' F L->Q (.int (r:Nat)) H'
theorem gj:aU ["_law_feed_here","_law_found","_law_k","_law_turn"] ["_law_feed_here"] (aj g8):=⟨rfl,rfl,rfl,by decide+kernel,rfl,by decide+kernel,by decide+kernel⟩
theorem JO{a:cb}(T:Txt K mg a):aV P w K mg base bK 2 a.lF a.nH ["_law_feed_here"] RM:=by
 have bw:=jg (P:=P) (w:=w) (base:=base) T
 refine T.L7.ok gj (λvs H Q E h=>?_) (λcdv A outer s H vs Q E hr h=>?_)
 ·obtain⟨F,L,rfl,_⟩:=h
  rfl
 ·obtain⟨F,L,rfl,hf,k⟩:=h
  have bf:aQ 1 _:=hr
  refine⟨_,(ah (cM (aX ic (aE bw bf rfl T.bS T.bT T.bU .nil aN (ae (pv 0) (ae ak ag))) ak (bj _))
   (au (aO (aE bw bf rfl T.bS T.bT T.bU .nil aN (ae (pv 0) (ae ak ag)))))
   bQ)
  (ah (av (i:=1) gj.nd rfl (AW rfl) ak)
  (ah (aY Af rfl (bh rfl T.bV (ae (aH cK ak (aE bw bf rfl T.bS T.bT T.bU .nil aN (ae (pv 0) (ae ak ag)))) ag)) (ay (i:=2) gj.nd rfl (AW rfl))
   (au (av (i:=1) gj.nd rfl (AW rfl) (aH cK (aH dr (pv 1) (aH rn ak ak)) (aE bw bf rfl T.bS T.bT T.bU .nil aN (ae (pv 0) (ae (aH rn ak ak) ag)))))))
  (ah (aY Af rfl (bh rfl T.bV (ae (aE bw bf rfl T.bS T.bT T.bU .nil aN (ae (pv 0) (ae ak ag))) ag)) (ay (i:=3) gj.nd rfl (AW rfl))
   (au (av (i:=1) gj.nd rfl (AW rfl) (aH iG (pv 1) ak))))
  (au (aO (pv 1))))))),?_⟩
  have p1:(3:Nat)<2 ^ 1000:=Ab (show 3<2 ^ 2 by decide) (BA (by decide) (by decide))
  have p40:(40:Nat)<2 ^ 1000:=Ab (show 40<2 ^ 6 by decide) (BA (by decide) (by decide))
  have p18:(18:Nat)<2 ^ 1000:=Ab (show 18<2 ^ 6 by decide) (BA (by decide) (by decide))
  have pg:(10 ^ 18:Nat)<2 ^ 1000:=Ab (show(10 ^ 18:Nat)<2 ^ 60 by decide) (BA (by decide) (by decide))
  refine⟨_,rfl,F,L,3,rfl,hf,by decide,p1,λr H1 r1 k1 f1=>⟨rfl,_,rfl,?_⟩⟩
  refine cI (λ_=>?_) (λ_=>?_)
  ·exact⟨_,rfl,F,L,40,rfl,f1,by decide,p40,λq H2 q1 k2 f2=>k q H2 (Ab (show q<10 ^ 2 by omega) (BA (by decide) (by decide))) (k1.trans k2) f2⟩
  ·refine⟨_,rfl,F,L,3,rfl,f1,by decide,p1,λt H2 t1 k2 f2=>⟨_,_,rfl,rfl,_,rfl,by omega,by omega,gZ (n:=(1+(t:Int)).toNat) (λi σ H'=>∃(f:Nat) (v2:Option V),σ=[some (.ref F),some (.int (f:Nat)),v2,none]/\cm F L H2 H'/\aZ H' F L/\f<(10 ^ 18) ^ i)
    ⟨0,none,rfl,λb o e _ _=>e,f2,by simp⟩ ?_ ?_⟩⟩
   ·rintro i σ H3 hi ⟨f,v2,rfl,k3,f3,Ml⟩
    refine⟨_,rfl,_,_,rfl,rfl,⟨by decide,by decide,by decide⟩,_,_,rfl,rfl,.inr (by constructor<;>decide),_,rfl,_,_,rfl,rfl,⟨by decide,by decide,by decide⟩,F,L,10 ^ 18,rfl,f3,by decide,pg,λq H4 q1 k4 f4=>⟨_,_,rfl,rfl,f*10 ^ 18+q,some (.int (0+(i:Int))),?_,k3.trans k4,f4,?_⟩⟩
    ·rw[Cf,Bx];rfl
    ·have h1:(f+1)*10 ^ 18<=(10 ^ 18) ^ i*10 ^ 18:=E2 _ Ml
     rw[Bm (10 ^ 18) i]
     omega
   ·rintro σ H3 ⟨f,v2,rfl,k3,f3,Ml⟩
    have hb:f<10 ^ 60:=by
     have:(10 ^ 18:Nat) ^ (1+(t:Int)).toNat<=(10 ^ 18) ^ 3:=BA (by decide) (by omega)
     exact Ab Ml (BH this (by decide))
    refine⟨_,rfl,F,L,18,rfl,f3,by decide,p18,λu H4 u1 k4 f4=>⟨_,rfl,by omega,by omega,gZ (n:=(u:Int).toNat) (λi σ H'=>∃(f:Nat) (v3:Option V),σ=[some (.ref F),some (.int (f:Nat)),v2,v3]/\cm F L H4 H'/\aZ H' F L/\f<10 ^ 60)
     ⟨f,none,rfl,λb o e _ _=>e,f4,hb⟩ ?_ ?_⟩⟩
    ·rintro i σ H5 hi ⟨g,v3,rfl,k5,f5,hg⟩
     refine⟨_,rfl,_,_,rfl,rfl,⟨by decide,by decide⟩,g / 10,some (.int (0+(i:Int))),?_,k5,f5,Cv (Nat.div_le_self _ _) hg⟩
     rw[Er];rfl
    ·rintro σ H5 ⟨g,v3,rfl,k5,f5,hg⟩
     exact⟨_,rfl,k g H5 hg (k1.trans (k2.trans (k3.trans (k4.trans k5)))) f5⟩
theorem RN(ms:List Int)(n:Nat):fL (ms.map V.int) none (some (n:Int))=(ms.take n).map V.int:=by
 unfold fL
 rw[show HT.bp (ms.map V.int).length 0 none=0 from rfl,HT.tH]
 rw[Fj,AA,Gg,<-Ez]
 congr 1
 by_cases h:n<=ms.length
 ·rw[E_ h]
 ·rw[Nat.min_eq_right (by omega),Bv (AM _),Bv (by omega)]
theorem OJ(L:Addr)(n sd:Int):jc [] (fd L n sd)=fd L n sd:=by
 have a1:¬((BW ("left":Str):Key)=BW ("number":Str)):=by decide+kernel
 have a2:¬((BW ("left":Str):Key)=BW ("seed":Str)):=by decide+kernel
 have a3:¬((BW ("number":Str):Key)=BW ("seed":Str)):=by decide+kernel
 unfold jc fd
 simp only[List.foldl_cons,List.foldl_nil]
 rw[kq _ qC]
 rw[kq _ (show cw ([]++[((BW ("left":Str):Key),V.ref L)]) (BW ("number":Str))=none from(cJ a1).trans qC)]
 rw[kq _ (show cw ([]++[((BW ("left":Str):Key),V.ref L)]++[((BW ("number":Str):Key),V.int n)]) (BW ("seed":Str))=none from(cJ a2).trans ((cJ a3).trans qC))]
 rfl
theorem jh:aU ["_law_script","_law_seed","_law_cell","_law_great_here"] ["_law_script"] (aj gR):=⟨rfl,rfl,rfl,by decide+kernel,rfl,by decide+kernel,by decide+kernel⟩
theorem Mm{a:cb}(T:Txt K mg a):aV P w K mg base bK 1 a.nA a.o9 ["_law_script"] (Ub K):=by
 refine T.Oy.ok jh (λvs H Q E h=>?_) (λcdv A outer s H vs Q E hr h=>?_)
 ·obtain⟨sa,ns,rfl,_⟩:=h
  rfl
 ·obtain⟨sa,ns,rfl,hS,hns,k⟩:=h
  refine⟨_,(ah (av (i:=1) jh.nd rfl (AW rfl) ak)
  (ah (aY Af rfl (bM (fK (nh K) (pv 0) dQ (fE ak))) (ay (i:=2) jh.nd rfl (AW rfl))
   (au (av (i:=1) jh.nd rfl (AW rfl) (aH fF (aH cK (aH dr (pv 1) ak) (pv 2)) ak))))
  (ah (cO (i:=3) (aG.mk' (esc:=aj gR) (N:=["_law_script","_law_seed","_law_cell","_law_great_here"]) (own:=["_law_cell"]) (aI:=[]) (bD:=[]) rfl rfl (by decide+kernel)) rfl (bM (fK (nh K) (pv 0) dQ (fE ak))) (λ_ _ _ _=>(ay (i:=0) (show BK (["_law_cell"]:List Str) by decide+kernel) rfl (AW rfl))) (λ_ _ _ _=>(iF (aX Ww (aF wN (by rfl) T.Qe K4 (ae (pv 0) ag)) (aH rn ak ak) (bj _)))) (λ_ _ _ _=>(aF wN (by rfl) T.Qe K4 (ae (pv 0) ag))) jh.nd rfl rfl)
  (au (aO (zD (kr cq (Rk K (pv 3) dQ dQ (fE (pN mD ak))) (kr cq ak (kr cq (pv 1) tK))) rfl rfl (λz=>nomatch z) (by decide))))))),?_⟩
  have ec:fL (ns.map V.int) none (some (63:Int))=(ns.take 63).map V.int:=by rw[show(some (63:Int))=some ((63:Nat):Int) from rfl,RN]
  dsimp only[md,gM,tC,az]
  refine⟨_,rfl,_,rfl,sa,_,rfl,hS,λp hp=>?_⟩
  rw[ec]
  have sp:=Same.new (o:=.lst ((ns.take 63).map V.int)) hp
  refine⟨p,rfl,⟨_,.of af⟩,gN (xs:=(ns.take 63).map V.int) (λi σ H'=>∃(sd:Int) (v2:Option V),σ=[some (.ref sa),some (.int sd),v2,none]/\H'=upd H p (.lst ((ns.take 63).map V.int))/\0<=sd/\sd<2147483648)
   ⟨7919,none,rfl,rfl,by decide,by decide⟩ (λi σ H' _ ⟨_,_,_,e,_⟩=>by rw[e];exact .of af) ?_ ?_⟩
  ·rintro i x σ H1 hx ⟨sd,v2,rfl,rfl,h0,h1⟩
   obtain⟨c,rfl,_⟩:=tP hx
   refine⟨_,rfl,_,_,rfl,rfl,.inr (by constructor<;>decide),_,rfl,_,_,rfl,rfl,_,_,rfl,rfl,cpos (by decide),_,_,rfl,rfl,EK _ (by decide),?_⟩
   have:=Dg (sd*69621+c) (show(0:Int)<2147483647 by decide)
   omega
  rintro σ H1 ⟨sd,v2,rfl,rfl,h0,h1⟩
  generalize upd H p (.lst ((ns.take 63).map V.int))=H1 at sp ⊢
  refine⟨_,rfl,_,rfl,sa,_,rfl,sp.seq hS,λp2 hp2=>?_⟩
  rw[ec]
  have XM:=Same.new (o:=.lst ((ns.take 63).map V.int)) hp2
  refine⟨p2,rfl,⟨_,.of af⟩,λC hC=>?_⟩
  have nC:p2≠C:=aq af hC
  have Qh:H1 C=none:=XM.free hC
  refine cR (xs:=(ns.take 63).map V.int) (λi σ H'=>∃(v:Option V) (ms:List Int),σ=[v]/\Same H1 H'/\H' p2=some (.lst ((ns.take 63).map V.int))/\H' C=some (.lst (ms.map V.int))/\(∀m∈ms,0<=m)/\ms.length<=i)
   ⟨none,[],?sg,XM.trans (Same.new hC),(Same.new hC) _ _ af,af,(λm hm=>by cases hm),AM _⟩ (λi σ H' _ ⟨_,_,_,_,h,_⟩=>.of h) ?_ ?_
  case sg=>rfl
  ·rintro i x σ H2 hx ⟨v,ms,rfl,s2,e2,c2,hms,lm⟩
   obtain⟨c,rfl,hc⟩:=tP hx
   have hi:i<(ns.take 63).length:=(AD.mp hc).1
   rw[Ao] at hi
   refine⟨_,rfl,c,rfl,_,_,rfl,rfl,⟨by decide,by decide,by decide⟩,_,_,rfl,rfl,_,rfl,?_⟩
   refine cI (λ_=>?_) (λ_=>⟨_,ms,rfl,s2,e2,c2,hms,by omega⟩)
   refine⟨_,rfl,c,rfl,_,c2,?_,_,ms++[if c<0 then-c else c],rfl,s2.kbn Qh KB.write,by rw[ao nC];exact e2,?_,?_,?_⟩
   ·rw[AA];exact Cv (show ms.length<=100 by omega) (by decide)
   ·rw[af,AF];rfl
   ·intro m hm
    rcases AS.mp hm with hm | hm
    ·exact hms m hm
    ·rw[AI.mp hm];split<;>omega
   ·rw[AH];show ms.length+1<=i+1;omega
  rintro σ H2 ⟨v,ms,rfl,s2,e2,c2,hms,lm⟩
  have Qi:=sp.trans s2
  refine λF hF=>?_
  have sF:=Same.new (o:=.dK []) hF
  refine⟨_,rfl,_,rfl,_,rfl,C,_,rfl,rfl,rfl,rfl,.of (sF _ _ c2),λL hL=>⟨_,rfl,?_⟩⟩
  have sL:=Same.new (o:=.lst (ms.map V.int).reverse) hL
  have zW:F≠L:=aq af hL
  refine⟨sL _ _ af,fd L 0 sd,rfl,(by show 3<=15;decide),?_⟩
  rw[OJ]
  refine k F L _ (Qi.free hF) ((Qi.trans sF).free hL) (((Qi.trans sF).trans sL).kbn (Qi.free hF) KB.write) ⟨ms.reverse,0,sd,af,?_,IB _,λm hm=>hms m (GP.mp hm),h0,h1⟩
  rw[ao zW.symm,af,List.map_reverse]
def ai(ds:List Nat):List Int:=ds.map λ(d:Nat)=>(d:Int)
theorem xR(ds:List Nat)(i:Nat):(ai ds)[i]? =ds[i]?.map λ(d:Nat)=>(d:Int):=by simp[ai]
theorem di{ds:List Nat}{i:Nat}{x:V}(h:((ai ds).map V.int)[i]? =some x):∃n:Nat,x=.int (n:Int)/\ds[i]? =some n:=by
 obtain⟨f,rfl,hf⟩:=tP h
 rw[xR] at hf
 cases e:ds[i]? with
 | none=>rw[e] at hf;cases hf
 | some n=>rw[e] at hf;exact⟨n,by rw[<-AZ hf],rfl⟩
theorem mO{rs:List Addr}{i:Nat}{x:V}(h:(rs.map V.ref)[i]? =some x):∃r,x=.ref r/\rs[i]? =some r:=by
 rw[AJ] at h
 cases e:rs[i]? with
 | none=>rw[e] at h;cases h
 | some r=>rw[e] at h;exact⟨r,(AZ h).symm,rfl⟩
theorem take_snoc{α:Type}{xs:List α}{i:Nat}{x:α}(h:xs[i]? =some x):xs.take (i+1)=xs.take i++[x]:=by rw[Ec,h];rfl
theorem aB(ds:List Nat):(ai ds).length=ds.length:=by simp[ai]
theorem aR(xs ys:List Nat):ai (xs++ys)=ai xs++ai ys:=by simp[ai]
structure Moves (n b:Nat)(mv:List (List Nat)):Prop where
 len:mv.length=n
 lead:∀l∈mv,l.length=b/\∀x∈l,x<n
theorem item_at{α:Type}{xs:List α}{i:Nat}(d:α)(h:i<xs.length):xs[i]? =some (xs.getD i d):=by rw[AQ,Ag h];rfl
theorem cG{ds:List Nat}{i:Nat}(h:i<ds.length):((ai ds).map V.int)[i]? =some (.int (ds.getD i 0:Nat)):=by
 rw[AJ,xR,item_at 0 h];rfl
theorem Moves.row{H:Hp}{n b:Nat}{mv:List (List Nat)}{ps:List Addr}(h:Moves n b mv)(tp:cx H ps (mv.map ai)){r:Nat}(hr:r<n):
  ps[r]? =some (ps.getD r 0)/\H (ps.getD r 0)=some (.tup ((ai (mv.getD r [])).map V.int))/\(mv.getD r []).length=b:=by
 have lp:ps.length=n:=by rw[As tp,AA,h.len]
 have hp:=item_at 0 (show r<ps.length by omega)
 obtain⟨l',hl',el⟩:=tp.get hp
 have hm:=item_at [] (show r<mv.length by rw[h.len];exact hr)
 rw[AJ,hm] at hl'
 have:=AZ hl'
 subst this
 exact⟨hp,el,(h.lead _ (AL hm)).1⟩
def dy(H:Hp)(ma nm:Addr)(bs:List Bool)(mv:List (List Nat)):Prop:=∃(ya va:Addr) (ps:List Addr),H ma=some (.tup [.ref nm,.ref ya,.ref va])/\H ya=some (.tup (bs.map V.bl))/\H va=some (.tup (ps.map V.ref))/\cx H ps (mv.map ai)
theorem dy.keep{H H':Hp}{ma nm:Addr}{bs:List Bool}{mv:List (List Nat)}(h:dy H ma nm bs mv)(k:bF H H'):dy H' ma nm bs mv:=by
 obtain⟨ya,va,ps,h1,h2,h3,h4⟩:=h
 exact⟨ya,va,ps,k _ _ h1,k _ _ h2,k _ _ h3,h4.keep k⟩
theorem qT{bs:List Bool}{i:Nat}{x:V}(h:(bs.map V.bl)[i]? =some x):∃c,x=.bl c/\bs[i]? =some c:=by
 rw[AJ] at h
 obtain⟨c,e,rfl⟩:=A9.mp h
 exact⟨c,rfl,e⟩
def stp(mv:List (List Nat))(r a:Nat):Nat:=(mv.getD r []).getD a 0
def run(mv:List (List Nat)):Nat->List Nat->Nat
 | r,[]=>r
 | r,a::w=>run mv (stp mv r a) w
def lang(bs:List Bool)(mv:List (List Nat))(r:Nat)(w:List Nat):Bool:=bs.getD (run mv r w) false
def bX(B:Nat)(w:List Nat):Prop:=∀a∈w,a<B
theorem bX.nil(B:Nat):bX B []:=λa h=>by cases h
theorem bX.cons{B a:Nat}{w:List Nat}(h:a<B)(hw:bX B w):bX B (a::w):=λx hx=>(Ak.mp hx).elim (λe=>e▸h) (hw x)
theorem bX.app{B:Nat}{v w:List Nat}(hv:bX B v)(hw:bX B w):bX B (v++w):=λx hx=>(AS.mp hx).elim (hv x) (hw x)
theorem gk(mv:List (List Nat)):∀(v w:List Nat) (r:Nat),run mv r (v++w)=run mv (run mv r v) w
 | [],_,_=>rfl
 | a::v,w,r=>gk mv v w (stp mv r a)
theorem Moves.stp{n B:Nat}{mv:List (List Nat)}(m:Moves n B mv){r a:Nat}(hr:r<n)(ha:a<B):stp mv r a<n:=by
 unfold My.stp
 have h1:mv[r]? =some (mv.getD r []):=item_at [] (by rw[m.len];exact hr)
 obtain⟨h2,h3⟩:=m.lead _ (AL h1)
 have h4:=item_at 0 (show a<(mv.getD r []).length by rw[h2];exact ha)
 exact h3 _ (AL h4)
theorem Moves.run{n B:Nat}{mv:List (List Nat)}(m:Moves n B mv):∀{w:List Nat} {r:Nat},r<n->bX B w->My.run mv r w<n
 | [],_,hr,_=>hr
 | a::w,r,hr,hw=>Moves.run m (w:=w) (m.stp hr (hw a Aa)) λx hx=>hw x (AV _ hx)
def cz:List Nat->Nat->Option Nat
 | [],s=>some s
 | t::l,s=>if t<s then cz l s else if t=s then cz l (s+1) else none
def eQ:List (List Nat)->Nat->Nat->Option Nat
 | [],_,s=>some s
 | r::rs,i,s=>if i<s then(cz r s).bind λs'=>eQ rs (i+1) s' else none
theorem lO:∀(l:List Nat) (t s:Nat),cz (l++[t]) s=(cz l s).bind λs'=>cz [t] s'
 | [],_,_=>rfl
 | x::l,t,s=>by
  show cz (x::(l++[t])) s=(cz (x::l) s).bind _
  simp only[cz]
  by_cases h:x<s
  ·rw[if_pos h,if_pos h];exact lO l t s
  ·rw[if_neg h,if_neg h]
   by_cases h2:x=s
   ·rw[if_pos h2,if_pos h2];exact lO l t (s+1)
   ·rw[if_neg h2,if_neg h2];rfl
theorem r9:∀(rs:List (List Nat)) (r:List Nat) (i s:Nat),eQ (rs++[r]) i s=(eQ rs i s).bind λs'=>if i+rs.length<s' then cz r s' else none
 | [],r,i,s=>by
  show(if i<s then(cz r s).bind λs'=>some s' else none)=if i+0<s then cz r s else none
  rw[Gf]
  split
  ·cases cz r s<;>rfl
  ·rfl
 | x::rs,r,i,s=>by
  show(if i<s then(cz x s).bind λs'=>eQ (rs++[r]) (i+1) s' else none)=(if i<s then(cz x s).bind λs'=>eQ rs (i+1) s' else none).bind _
  by_cases h:i<s
  ·rw[if_pos h,if_pos h]
   cases cz x s with
   | none=>rfl
   | some s'=>
    show eQ (rs++[r]) (i+1) s'=(eQ rs (i+1) s').bind _
    rw[r9 rs r (i+1) s']
    congr 1
    funext q
    rw[A',show i+1+rs.length=i+(rs.length+1) by omega]
  ·rw[if_neg h,if_neg h];rfl
def dH{α:Type}(on:α->Nat->α):α->List Nat->α
 | x,[]=>x
 | x,a::w=>dH on (on x a) w
theorem xS{α:Type}(on:α->Nat->α):∀(v w:List Nat) (x:α),dH on x (v++w)=dH on (dH on x v) w
 | [],_,_=>rfl
 | a::v,w,x=>xS on v w (on x a)
structure cp {α:Type}(x0:α)(on:α->Nat->α)(m:Nat)(xs:List α)(mv:List (List Nat)):Prop where
 once:xs.Nodup
 first:xs[0]? =some x0
 reach:∀x∈xs,∃w,bX m w/\x=dH on x0 w
 row:∀(i:Nat) (r:List Nat),mv[i]? =some r->r.length=m/\∃x,xs[i]? =some x/\∀(c t:Nat),r[c]? =some t->xs[t]? =some (on x c)
 go:eQ mv 0 1=some xs.length
theorem cp.cD{α:Type}{x0:α}{on:α->Nat->α}{m:Nat}{xs:List α}{mv:List (List Nat)}(g:cp x0 on m xs mv)(h:mv.length=xs.length):Moves xs.length m mv:=by
 refine⟨h,λl hl=>?_⟩
 obtain⟨i,hi⟩:=Bl hl
 obtain⟨h1,x,_,h2⟩:=g.row i l hi
 refine⟨h1,λt ht=>?_⟩
 obtain⟨c,hc⟩:=Bl ht
 exact(AD.mp (h2 c t hc)).1
theorem cp.run{α:Type}{x0:α}{on:α->Nat->α}{m:Nat}{xs:List α}{mv:List (List Nat)}(g:cp x0 on m xs mv)(h:mv.length=xs.length):∀(w:List Nat) (i:Nat) (x:α),xs[i]? =some x->bX m w->xs[run mv i w]? =some (dH on x w)
 | [],_,_,e,_=>e
 | a::w,i,x,e,hw=>by
  have hi:=(AD.mp e).1
  have ha:=hw a Aa
  have h1:=item_at [] (show i<mv.length by omega)
  obtain⟨l1,y,ey,h2⟩:=g.row i _ h1
  rw[e] at ey
  have:=AZ ey
  subst this
  have h3:=item_at 0 (show a<(mv.getD i []).length by rw[l1];exact ha)
  exact cp.run g h w _ _ (h2 a _ h3) λz hz=>hw z (AV _ hz)
theorem Mn(xs:List Nat)(i y:Nat):((ai xs).map V.int).set i (.int (y:Nat))=(ai (xs.set i y)).map V.int:=by
 rw[ai,ai,Hv,Hv]
theorem Uc{n i:Nat}(h:i<n):oi n (i:Int)=some i:=by
 unfold oi
 rw[if_pos (by omega),if_pos (by omega),AY]
theorem i7{α β:Type}{F:α->β->Prop}{l:List α}{m:List β}{a:α}{b:β}(h:DG F l m)(r:F a b):DG F (l++[a]) (m++[b]):=by
 induction h with
 | nil=>exact .cons r .nil
 | cons q t ih=>exact .cons q ih
def lets(b:Nat):Nat->List (List Int)
 | 0=>[[]]
 | n+1=>(lets b n).flatMap λl=>(Ad b).map λ(f:Nat)=>l++[(f:Int)]
theorem fq(b:Nat):∀n,(lets b n).length=b ^ n
 | 0=>rfl
 | n+1=>by
  show((lets b n).flatMap λl=>(Ad b).map λ(f:Nat)=>l++[(f:Int)]).length=_
  rw[FC]
  have:(List.map (λl:List Int=>((Ad b).map λ(f:Nat)=>l++[(f:Int)]).length) (lets b n))=AO (lets b n).length b:=by
   rw[Ci (g:=λ_=>b) (λl _=>by simp)]
   exact Gq ..
  rw[this,Ed,fq b n,Bm]
theorem qU(b:Nat):∀(n:Nat) (l:List Int),l∈lets b n->l.length=n
 | 0,l,h=>by
  have h':l∈[([]:List Int)]:=h
  simp at h';subst h';rfl
 | n+1,l,h=>by
  have h':l∈(lets b n).flatMap λl=>(Ad b).map λ(f:Nat)=>l++[(f:Int)]:=h
  obtain⟨l',h1,h2⟩:=GU.mp h'
  obtain⟨f,_,rfl⟩:=Ac.mp h2
  rw[AH,qU b n l' h1];rfl
theorem xT(b:Nat)(ls:List (List Int)):(ls.flatMap λl=>(Ad b).map λ(f:Nat)=>l++[(f:Int)]).length=ls.length*b:=by
 rw[FC]
 have:(List.map (λl:List Int=>((Ad b).map λ(f:Nat)=>l++[(f:Int)]).length) ls)=AO ls.length b:=by
  rw[Ci (g:=λ_=>b) (λl _=>by simp)]
  exact Gq ..
 rw[this,Ed]
def vD:Sp:=λvs H Q _=>∃(b n:Nat),vs=[.int b,.int n]/\b<=4/\n<=4/\∀(D:Addr) (ps:List Addr) (H':Hp),H D=none->Same H H'->H' D=some (.lst (ps.map V.ref))->cx H' ps (lets b n)->Q (.ref D) H'
theorem dM:aU ["base","many","letters","spot","longer","letter"] ["base","many"] (aj dE):=⟨rfl,rfl,rfl,by decide+kernel,rfl,by decide+kernel,by decide+kernel⟩
theorem cL{b n:Nat}(hb:b<=4)(hn:n<=4):b ^ n<=256:=
 BH (EB hb n) (BA (by decide) hn)
theorem iQ{a:cb}(T:Txt K mg a):aV P w K mg base bK 1 a.gG a.iL ["base","many"] vD:=by
 refine T.vT.ok dM (λvs H Q E h=>?_) (λcdv A outer s H vs Q E hr h=>?_)
 ·obtain⟨b,n,rfl,_⟩:=h
  rfl
 ·obtain⟨b,n,rfl,hb,hn,k⟩:=h
  refine⟨_,(ah (av (i:=2) dM.nd rfl (AW rfl) (bt (ae (cB ag) ag)))
  (ah (aY Af rfl (bh rfl T.bV (ae (pv 1) ag)) (ay (i:=3) dM.nd rfl (AW rfl))
   (ah (av (i:=4) dM.nd rfl (AW rfl) (bt ag))
   (ah (aY Af rfl (bM (pv 2)) (ay (i:=5) dM.nd rfl (CZ rfl))
    (au (bG (cC Ai DI DJ kX (pv 4) (ae (ck (aG.mk' (esc:=aj dE) (N:=["base","many","letters","spot","longer","letter"]) (own:=["figure"]) (aI:=["letter"]) (bD:=[5]) rfl rfl (by decide+kernel)) rfl (bh rfl T.bV (ae (pv 0) ag)) (λ_ _ _ _=>(ay (i:=0) (show BK (["figure","letter"]:List Str) by decide+kernel) rfl (AW rfl))) (λ_ _ _ _=>br) (λ_ _ _ _=>(aH (xi K) (pv 1) (cB (ae (pv 0) ag))))) ag)))))
   (au (av (i:=2) dM.nd rfl (AW rfl) (pv 4))))))
  (au (aO (pv 2))))),?_⟩
  refine⟨by decide,λp hp=>⟨by show 1<=sizeLine;decide,λD hD=>?_⟩⟩
  have se:H D=none:=(Same.new hp).free hD
  refine⟨_,rfl,n,rfl,by omega,by omega,gZ (lo:=0) (n:=(n:Int).toNat) (λi σ H'=>∃(D:Addr) (ps:List Addr) (v3 v4 v5:Option V),σ=[some (.int b),some (.int n),some (.ref D),v3,v4,v5]/\H D=none/\Same H H'/\H' D=some (.lst (ps.map V.ref))/\cx H' ps (lets b i))
   ⟨D,[p],none,none,none,rfl,se,(Same.new hp).trans (Same.new hD),af,.cons (by rw[ao (aq (o:=.tup []) af hD)];exact af) .nil⟩ ?_ ?_⟩
  ·rintro i σ H1 hi ⟨D,ps,v3,v4,v5,rfl,hD,s1,eD,t1⟩
   rw[AY] at hi
   have lps:ps.length=b ^ i:=by rw[As t1,fq]
   have bi:b ^ i<=256:=cL hb (by omega)
   have bi1:b ^ (i+1)<=256:=cL hb (by omega)
   refine⟨by decide,λE hE=>?_⟩
   have Mp:H E=none:=s1.free hE
   have xU:D≠E:=aq eD hE
   refine⟨_,rfl,D,rfl,⟨ps.map V.ref,.of (by rw[ao xU];exact eD)⟩,gN (xs:=ps.map V.ref) (λj σ H'=>∃(qs:List Addr) (v5:Option V),σ=[some (.int b),some (.int n),some (.ref D),some (.int (0+(i:Int))),some (.ref E),v5]/\
     Same H H'/\H' D=some (.lst (ps.map V.ref))/\cx H' ps (lets b i)/\H' E=some (.lst (qs.map V.ref))/\cx H' qs (((lets b i).take j).flatMap λl=>(Ad b).map λ(f:Nat)=>l++[(f:Int)]))
    ⟨[],v5,rfl,s1.trans (Same.new hE),by rw[ao xU];exact eD,t1.keep (Same.new hE).kt,af,.nil⟩ (λj σ H' _ ⟨_,_,_,_,h,_⟩=>.of h) ?_ ?_⟩
   ·rintro j y σ H2 hj ⟨qs,v5,rfl,s2,xV,t2,pf,u2⟩
    rw[AJ] at hj
    cases ep:ps[j]? with
    | none=>rw[ep] at hj;cases hj
    | some p=>
     rw[ep] at hj
     have ey:y=.ref p:=(AZ hj).symm
     subst ey
     obtain⟨l,el,hl⟩:=t2.get ep
     have jlt:j<ps.length:=(AD.mp ep).1
     refine⟨_,rfl,.inl ⟨rfl,_,.of pf⟩,_,rfl,b,rfl,by omega,by omega,λC hC=>?_⟩
     have nEC:E≠C:=aq pf hC
     have XN:D≠C:=aq xV hC
     refine fh (λf σ H'=>∃(rs:List Addr) (v:Option V),σ=[v,some (.ref p)]/\Same H2 H'/\H' C=some (.lst (rs.map V.ref))/\cx H' rs ((Ad f).map λ(f:Nat)=>l++[(f:Int)]))
      ⟨[],none,rfl,Same.new hC,af,.nil⟩ ?_ ?_
     ·rintro f σ H3 hf ⟨rs,v,rfl,s3,mP,t3⟩
      refine⟨_,rfl,_,rfl,by show 1<=sizeLine;decide,λq hq=>?_⟩
      have lrs:rs.length=f:=by rw[As t3];simp
      have xW:C≠q:=aq mP hq
      have ll:l.length=i:=qU b i l (AL el)
      have e0:(0:Int)+(f:Int)=(f:Int):=by omega
      have hq2:H2 q=none:=s3.free hq
      have Mq:(rs.map V.ref).length<sizeLine:=by rw[AA,lrs];exact Ab (show f<10 by omega) (by decide)
      have s4:Same H2 (upd H3 q (.tup [.int (0+(f:Int))])):=s3.trans (Same.new hq)
      have t4:=t3.keep (Same.new (o:=.tup [.int (0+(f:Int))]) hq).kt
      refine⟨p,q,l.map V.int,[.int (0+(f:Int))],rfl,rfl,.of (s4 _ _ hl),.of af,by simp,?_,λhl0=>?_,λhl0 r hr=>?_⟩
      ·rw[AA,ll];exact BH (show i+1<=10 by omega) (by decide)
      ·have hl1:l=[]:=by cases l with | nil=>rfl | cons _ _=>cases hl0
       subst hl1
       have kJ:(upd H3 q (.tup [.int (0+(f:Int))])) C=some (.lst (rs.map V.ref)):=by rw[ao xW];exact mP
       refine⟨rs.map V.ref,kJ,Mq,rs++[q],_,rfl,?_,by rw[af,AF];rfl,?_⟩
       ·exact s4.kbn hC KB.write
       ·rw[BD,AF]
        refine cf (t4.keep (bF.lst kJ)) (.cons (bF.lst kJ _ _ ?_) .nil)
        rw[af]
        simp
      ·have Ud:C≠r:=aq (by rw[ao xW];exact mP) hr
       have kJ:(upd (upd H3 q (.tup [.int (0+(f:Int))])) r (.tup (l.map V.int++[.int (0+(f:Int))]))) C=some (.lst (rs.map V.ref)):=by rw[ao Ud,ao xW];exact mP
       refine⟨rs.map V.ref,kJ,Mq,rs++[r],_,rfl,?_,by rw[af,AF];rfl,?_⟩
       ·exact(s4.trans (Same.new hr)).kbn hC KB.write
       ·rw[BD,AF]
        refine cf ((t4.keep (Same.new hr).kt).keep (bF.lst kJ)) (.cons (bF.lst kJ _ _ ?_) .nil)
        rw[af]
        simp
     ·rintro σ H3 ⟨rs,v,rfl,s3,mP,t3⟩
      have lrs:rs.length=b:=by rw[As t3];simp
      have lqs:qs.length<=1024:=by
       rw[As u2,xT,Ao]
       have:=DS (show min j (lets b i).length<=256 by rw[fq];omega) hb
       omega
      have Mr:=s3 _ _ pf
      refine⟨E,C,qs.map V.ref,rs.map V.ref,rfl,rfl,Mr,mP,?_,?_⟩
      ·rw[AA,AA,lrs];exact BH (show qs.length+b<=2000 by omega) (by decide)
      ·have kt:=bF.lst (o:=.lst (qs.map V.ref++rs.map V.ref)) Mr
       refine⟨qs++rs,_,rfl,(s2.trans s3).kbn Mp KB.write,?_,(t2.keep s3.kt).keep kt,?_,?_⟩
       ·rw[ao xU];exact s3 _ _ xV
       ·rw[af,AF]
       ·have e1:(lets b i).take (j+1)=(lets b i).take j++[l]:=by rw[Ec,el];rfl
        rw[e1,FD]
        refine cf ((u2.keep s3.kt).keep kt) ?_
        rw[Gh]
        have:=t3.keep kt
        rwa [show((b:Nat):Int).toNat=b from AY b] at this
   ·rintro σ H2 ⟨qs,v5,rfl,s2,xV,t2,pf,u2⟩
    refine⟨_,rfl,E,qs,_,_,_,rfl,Mp,s2,pf,?_⟩
    have e1:(lets b i).take (ps.map V.ref).length=lets b i:=by rw[AA,As t2];exact Ay ..
    rw[e1] at u2
    exact u2
  ·rintro σ H1 ⟨D,ps,v3,v4,v5,rfl,hD,s1,eD,t1⟩
   exact⟨_,rfl,k D ps H1 hD s1 eD (by rwa [AY] at t1)⟩
def fU(b n:Nat):List Int:=if h:n=0∨b<2 then [] else((n % b:Nat):Int)::fU b (n / b)
termination_by n
decreasing_by exact Nat.div_lt_self (by omega) (by omega)
theorem lP(b:Nat):fU b 0=[]:=by rw[fU,dif_pos (.inl rfl)]
theorem qV{b n:Nat}(hb:2<=b)(hn:0<n):fU b n=((n % b:Nat):Int)::fU b (n / b):=by rw[fU,dif_neg (by omega)]
theorem xX{b:Nat}(hb:2<=b):∀(L n:Nat),n<2 ^ L->(fU b n).length<=L
 | 0,n,h=>by
  have:n=0:=by simpa using h
  subst this;rw[lP];simp
 | L+1,n,h=>by
  by_cases hn:n=0
  ·subst hn;rw[lP];simp
  ·rw[qV hb (by omega),A']
   refine Nat.succ_le_succ (xX hb L _ ?_)
   rw[Ek (by omega)]
   refine Ab h ?_
   rw[Bm]
   exact Nat.mul_le_mul_left _ hb
theorem vE{b:Nat}(h:b<=1000):(b:Int).natAbs.log2<9000:=by
 rw[Int.natAbs_natCast]
 by_cases hb:b=0
 ·subst hb;decide
 ·rw[Nat.log2_lt hb]
  refine Cv h ?_
  refine Ab (show 1000<2 ^ 10 by decide) (BA (by decide) (by decide))
def fl(b:Nat):Nat->Nat->List Nat
 | 0,_=>[]
 | n+1,L=>fl b n (L / b)++[L % b]
theorem fz(b:Nat):∀n L,(fl b n L).length=n
 | 0,_=>rfl
 | n+1,L=>by rw[fl,AH,fz b n];rfl
theorem nO{b:Nat}(hb:0<b):∀n L,∀d∈fl b n L,d<b
 | 0,_,d,h=>by cases h
 | n+1,L,d,h=>by
  rw[fl] at h
  rcases AS.mp h with h | h
  ·exact nO hb n _ d h
  ·have:d=L % b:=by simpa using h
   rw[this];exact Dw _ hb
def lst(b:Nat)(acc:Nat)(ds:List Nat):Nat:=ds.foldl (λl d=>l*b+d) acc
theorem kK(b acc d:Nat)(ds:List Nat):lst b acc (d::ds)=lst b (acc*b+d) ds:=rfl
theorem Ms{b:Nat}:∀(ds:List Nat) (k acc:Nat),(∀d∈ds,d<b)->fl b (k+ds.length) (lst b acc ds)=fl b k acc++ds
 | [],k,acc,_=>by simp[lst]
 | d::t,k,acc,h=>by
  have hd:d<b:=h d Aa
  rw[kK,A',show k+(t.length+1)=(k+1)+t.length by omega,Ms t (k+1) _ λx hx=>h x (AV _ hx),fl]
  have e1:(acc*b+d) / b=acc:=by
   rw[C',Nat.mul_add_div (by omega),Es hd];rfl
  have e2:(acc*b+d) % b=d:=by
   rw[C',Nat.mul_add_mod,Et hd]
  rw[e1,e2,C_];rfl
theorem sf{b:Nat}:∀(ds:List Nat) (k acc:Nat),(∀d∈ds,d<b)->acc<b ^ k->lst b acc ds<b ^ (k+ds.length)
 | [],k,acc,_,h=>h
 | d::t,k,acc,h,ha=>by
  have hd:d<b:=h d Aa
  rw[kK,A',show k+(t.length+1)=(k+1)+t.length by omega]
  refine sf t (k+1) _ (λx hx=>h x (AV _ hx)) ?_
  rw[Bm]
  have:=E2 b (show acc+1<=b ^ k from ha)
  rw[IC,ID] at this
  omega
theorem zX{b:Nat}(hb:0<b)(g:List Int->Nat->List Int):∀(ls:List (List Int)) (i:Nat),(ls.flatMap λl=>(Ad b).map (g l))[i]? =ls[i / b]?.map λl=>g l (i % b)
 | [],i=>by simp
 | l::ls,i=>by
  rw[Fz]
  by_cases h:i<b
  ·rw[Am (by simpa using h),Es h,Et h]
   simp[h]
  ·have e1:i / b=(i-b) / b+1:=by
    have:=Nat.sub_add_cancel (Fh.mp h)
    conv=>lhs;rw[<-this]
    exact Nat.add_div_right _ hb
   have e2:i % b=(i-b) % b:=Nat.mod_eq_sub_mod (Fh.mp h)
   rw[Ae (by simpa using Fh.mp h),e1,e2]
   have:=zX hb g ls (i-b)
   simpa using this
theorem ug{b:Nat}(hb:0<b):∀(n L:Nat),L<b ^ n->(lets b n)[L]? =some (ai (fl b n L))
 | 0,L,h=>by
  have:L=0:=by simpa using h
  subst this;rfl
 | n+1,L,h=>by
  show((lets b n).flatMap λl=>(Ad b).map λ(f:Nat)=>l++[(f:Int)])[L]? =_
  rw[zX hb (λl f=>l++[(f:Int)])]
  have h1:L / b<b ^ n:=by
   rw[Ek hb]
   rw[Bm] at h
   exact h
  rw[ug hb n (L / b) h1]
  simp[ai,fl]
theorem si{b:Nat}(hb:2<=b):∀(p n:Nat),p<(fU b n).length↔0<n / b ^ p
 | 0,n=>by
  by_cases hn:n=0
  ·subst hn;rw[lP];simp
  ·rw[qV hb (by omega),Dh,IE]
   simp;omega
 | p+1,n=>by
  by_cases hn:n=0
  ·subst hn;rw[lP];simp
  ·rw[qV hb (by omega),A',Nat.succ_lt_succ_iff,si hb p,Ee,Bm,C' b]
def gD(b:Nat)(ns:List Nat)(p:Nat):Nat:=lst b 0 (ns.map λn=>n / b ^ p % b)
theorem xY{b:Nat}(hb:0<b)(ns:List Nat)(p:Nat):gD b ns p<b ^ ns.length:=by
 have:=sf (b:=b) (ns.map λn=>n / b ^ p % b) 0 0 (λd hd=>by
  obtain⟨n,_,rfl⟩:=Ac.mp hd
  exact Dw _ hb) (by simp)
 rw[AA,CN] at this
 exact this
def bu(b:Nat)(ns:List Nat):Nat:=ns.foldr (λn m=>max (fU b n).length m) 0
theorem xZ{b:Nat}:∀{ns:List Nat} {n:Nat},n∈ns->(fU b n).length<=bu b ns
 | m::ns,n,h=>by
  show _<=max (fU b m).length (bu b ns)
  rcases Ak.mp h with rfl | h
  ·omega
  ·have:=xZ (b:=b) h
   omega
theorem zY{b:Nat}:∀{ns:List Nat},ns≠[]->∃n∈ns,(fU b n).length=bu b ns
 | [m],_=>⟨m,Aa,by show _=max (fU b m).length 0;omega⟩
 | m::m'::ns,_=>by
  obtain⟨n,hn,e⟩:=zY (b:=b) (ns:=m'::ns) (by simp)
  have e':bu b (m::m'::ns)=max (fU b m).length (bu b (m'::ns)):=rfl
  rw[e']
  by_cases h:(fU b m).length<=bu b (m'::ns)
  ·exact⟨n,AV _ hn,by omega⟩
  ·exact⟨m,Aa,by omega⟩
theorem vF{b:Nat}(hb:2<=b){L:Nat}:∀{ns:List Nat},(∀n∈ns,n<2 ^ L)->bu b ns<=L
 | [],_=>BI _
 | m::ns,h=>by
  show max (fU b m).length (bu b ns)<=L
  have:=vF hb (ns:=ns) λn hn=>h n (AV _ hn)
  have:=xX hb L m (h m Aa)
  omega
theorem lst_snoc(b acc:Nat)(ds:List Nat)(d:Nat):lst b acc (ds++[d])=lst b acc ds*b+d:=by simp[lst,F_]
def nP(b:Nat)(ns:List Nat):List Nat:=(Ad (bu b ns)).map (gD b ns)
structure gU {α:Type}(x0:α)(on:α->Nat->α)(m:Nat)(xs:List α)(x:α)(leads:List Nat)(ys:List α):Prop where
 once:ys.Nodup
 pre:∃more,ys=xs++more
 reach:∀y∈ys,∃w,bX m w/\y=dH on x0 w
 at':∀(c t:Nat),leads[c]? =some t->ys[t]? =some (on x c)
 go:cz leads xs.length=some ys.length
theorem nQ:∀(l:List Nat) (s s':Nat),cz l s=some s'->s'<=s+l.length
 | [],s,s',h=>by cases h;exact AM _
 | t::l,s,s',h=>by
  rw[cz] at h
  rw[A']
  split at h
  ·have:=nQ l s s' h;omega
  ·split at h
   ·have:=nQ l (s+1) s' h;omega
   ·cases h
theorem j3{α:Type}{xs more:List α}{i:Nat}{x:α}(h:xs[i]? =some x):(xs++more)[i]? =some x:=by
 rw[Am (AD.mp h).1];exact h
section
variable{α:Type}{x0:α}{on:α->Nat->α}{m:Nat}{xs ys:List α}{mv:List (List Nat)}{x:α}{leads:List Nat}
theorem cp.begin:cp x0 on m [x0] []:=⟨by simp,rfl,λx hx=>⟨[],.nil m,by rw[AI.mp hx];rfl⟩,λi r h=>by simp at h,rfl⟩
theorem gU.start(g:cp x0 on m xs mv):gU x0 on m xs x [] xs:=⟨g.once,⟨[],by simp⟩,g.reach,λc t h=>by simp at h,rfl⟩
theorem gU.old(g:gU x0 on m xs x leads ys){t:Nat}(h:ys[t]? =some (on x leads.length)):gU x0 on m xs x (leads++[t]) ys:=by
 have ht:=(AD.mp h).1
 refine⟨g.once,g.pre,g.reach,λc u hu=>?_,?_⟩
 ·by_cases hc:c<leads.length
  ·rw[Am hc] at hu;exact g.at' c u hu
  ·have hb:=(AD.mp hu).1
   rw[AH] at hb
   have e:c=leads.length:=by simp at hb;omega
   subst e
   rw[Ae (AM _),B4] at hu
   have:=AZ hu
   subst this
   exact h
 ·rw[lO,g.go]
  show cz [t] ys.length=_
  simp only[cz]
  rw[if_pos ht]
theorem gU.new(g:gU x0 on m xs x leads ys)(hm:leads.length<m)(hx:∃w,bX m w/\x=dH on x0 w)(h:on x leads.length ∉ ys):gU x0 on m xs x (leads++[ys.length]) (ys++[on x leads.length]):=by
 obtain⟨more,e⟩:=g.pre
 refine⟨?_,⟨more++[on x leads.length],by rw[e,C_]⟩,λy hy=>?_,λc u hu=>?_,?_⟩
 ·rw[BR]
  exact⟨g.once,by simp,λa ha b hb z=>h (by rw[<-AI.mp hb,<-z];exact ha)⟩
 ·rcases AS.mp hy with z | z
  ·exact g.reach y z
  ·rw[AI.mp z]
   obtain⟨w,hw,ex⟩:=hx
   exact⟨w++[leads.length],hw.app (.cons hm (.nil m)),by rw[xS,<-ex];rfl⟩
 ·by_cases hc:c<leads.length
  ·rw[Am hc] at hu;exact j3 (g.at' c u hu)
  ·have hb:=(AD.mp hu).1
   rw[AH] at hb
   have e:c=leads.length:=by simp at hb;omega
   subst e
   rw[Ae (AM _),B4] at hu
   have:=AZ hu
   subst this
   rw[Ae (AM _),B4];rfl
 ·rw[lO,g.go,AH]
  show cz [ys.length] ys.length=_
  simp only[cz]
  rw[if_neg (CD _)]
  simp
theorem cp.next(g:cp x0 on m xs mv)(hx:xs[mv.length]? =some x)(r:gU x0 on m xs x leads ys)(hl:leads.length=m):cp x0 on m ys (mv++[leads]):=by
 obtain⟨more,e⟩:=r.pre
 have hlt:=(AD.mp hx).1
 refine⟨r.once,by rw[e];exact j3 g.first,r.reach,λi row hr=>?_,?_⟩
 ·by_cases hi:i<mv.length
  ·rw[Am hi] at hr
   obtain⟨h1,y,h2,h3⟩:=g.row i row hr
   exact⟨h1,y,by rw[e];exact j3 h2,λc t ht=>by rw[e];exact j3 (h3 c t ht)⟩
  ·have hb:=(AD.mp hr).1
   rw[AH] at hb
   have ei:i=mv.length:=by simp at hb;omega
   subst ei
   rw[Ae (AM _),B4] at hr
   have:=AZ hr
   subst this
   exact⟨hl,x,by rw[e];exact j3 hx,r.at'⟩
 ·rw[r9,g.go]
  show(if 0+mv.length<xs.length then cz leads xs.length else none)=_
  rw[if_pos (by omega)];exact r.go
end
def fV{α:Type}(R:gb α)(H:Hp)(vs:List V)(xs:List α):Prop:=DG (λv x=>R.Rep x v H) vs xs
section
variable{α:Type}(R:gb α)(many:Nat)(on:α->Nat->α)(yes:α->Bool)(Ok:α->Prop)(Ev:Hp->Prop)
def x4:Sp:=λvs H Q _=>∃(x:α) (v:V) (a:Nat),vs=[v,.int a]/\R.Rep x v H/\Ok x/\a<many/\Ev H/\∀v' H',Same H H'->R.Rep (on x a) v' H'->Q v' H'
def OL:Sp:=λvs H Q _=>∃(x:α) (v:V),vs=[v]/\R.Rep x v H/\Ok x/\Ev H/\∀H',Same H H'->Q (.bl (yes x)) H'
def RO(f1 f2:Addr):Sp:=λvs H Q _=>∃(x0:α) (v0:V) (most:Nat),vs=[v0,.int many,.ref f1,.ref f2,.int most]/\R.Rep x0 v0 H/\Ok x0/\Ev H/\most<=10000/\many<=1000/\
 (∀(xs:List α) (H':Hp),Same H H'->xs.Nodup->(∀x∈xs,∃w,bX many w/\x=dH on x0 w)->most<xs.length->Q .non H')/\
 ∀(xs:List α) (mv:List (List Nat)) (vs:List V) (p Rr ya va:Addr) (ps:List Addr) (H':Hp),Same H H'->H Rr=none->mv.length=xs.length->xs.length<=most->cp x0 on many xs mv->H' p=some (.tup [.ref Rr,.ref ya,.ref va])->H' Rr=some (.lst vs)->fV R H' vs xs->H' ya=some (.tup ((xs.map yes).map V.bl))->H' va=some (.tup (ps.map V.ref))->cx H' ps (mv.map ai)->Q (.ref p) H'
end
theorem j4{H:Hp}{a:Addr}{o o':HO}(h:H a=some o)(hn:∀l,o≠.tup l):bF H (upd H a o'):=λb xs e=>by
 rw[ao (gE e h λz=>hn xs z.symm)];exact e
theorem Mt{H H':Hp}{a:Addr}{o:HO}(h:H a=some o)(hn:∀l,o≠.tup l)(k:KB a H H'):bF H H':=λb xs e=>k _ _ e (gE e h λz=>hn xs z.symm)
theorem fV.keep{α:Type}{R:gb α}{H H':Hp}{vs:List V}{xs:List α}(h:fV R H vs xs)(k:bF H H'):fV R H' vs xs:=Paired.qz h λ_ _ z=>R.same z k
theorem fV.at{α:Type}{R:gb α}{H:Hp}:∀{vs:List V} {xs:List α} {i:Nat} {x:α},fV R H vs xs->xs[i]? =some x->∃v,vs[i]? =some v/\R.Rep x v H
 | _,_,_,_,.nil,e=>by simp at e
 | _,_,0,_,.cons r _,e=>by simp at e;subst e;exact⟨_,rfl,r⟩
 | _,_,i+1,_,.cons _ t,e=>by
  simp only[DT] at e ⊢
  exact fV.at t e
theorem cH:aU ["first","many","onward","is_yes","most","rooms","numbers","moves","room","leads","letter","to","yes"] ["first","many","onward","is_yes","most"] (aj bR):=⟨rfl,rfl,rfl,by decide+kernel,rfl,by decide+kernel,by decide+kernel⟩
set_option maxHeartbeats 16000000 in
theorem wj{a:cb}(T:Txt K mg a){α:Type}(R:gb α){many:Nat}{on:α->Nat->α}{yes:α->Bool}{Ok:α->Prop}{Ev:Hp->Prop}{f1 f2:Addr}{k:Nat}
  (F1:FnAt P w K mg base k f1 2 (x4 R many on Ok Ev)) (F2:FnAt P w K mg base k f2 1 (OL R yes Ok Ev)) (jG:∀x a,Ok x->a<many->Ok (on x a)) (x5:∀H H',Ev H->Same H H'->Ev H'):
  aV P w K mg base bK (k+1) a.ip a.gH ["first","many","onward","is_yes","most"] (RO R many on yes Ok Ev f1 f2):=by
 obtain⟨o1,fd1,ps1,ho1,hf1,hl1,hb1,G1⟩:=F1
 obtain⟨o2,fd2,ps2,ho2,hf2,hl2,hb2,G2⟩:=F2
 refine T.xD.ok cH (λvs H Q E h=>?_) (λAr outer sh H vs Q E hr h=>?_)
 ·obtain⟨x0,v0,most,rfl,_⟩:=h
  rfl
 ·obtain⟨x0,v0,most,rfl,r0,k0,zZ,hbm,WZ,q0,q⟩:=h
  refine⟨_,(ah (av (i:=5) cH.nd rfl (AW rfl) (bt (ae (pv 0) ag)))
  (ah (av (i:=6) cH.nd rfl (AW rfl) (R.Oc (cN hr) (pv 0) ak))
  (ah (av (i:=7) cH.nd rfl (AW rfl) (bt ag))
  (ah (fg Af (NN PQ PR (aF (aP K) (by rfl) T.cg bI (ae (pv 7) ag)) (aF (aP K) (by rfl) T.cg bI (ae (pv 5) ag)) (pv 4))
   (ah (av (i:=8) cH.nd rfl (AW rfl) (aC (bo K) (pv 5) (aF (aP K) (by rfl) T.cg bI (ae (pv 7) ag)) (λ_ _=>rfl)))
   (ah (av (i:=9) cH.nd rfl (AW rfl) (bt ag))
   (ah (aY Af rfl (bh rfl T.bV (ae (pv 1) ag)) (ay (i:=10) cH.nd rfl (AW rfl))
    (ah (av (i:=11) cH.nd rfl (AW rfl) (qG (i:=2) G1 ho1 hf1 hr hb1 rfl (AW rfl) (ae (pv 8) (ae (pv 10) ag))))
    (ah (cM (Ku (u0 (cN hr) (pv 11) (pv 6)) (by with_unfolding_all rfl))
     (ah (j_ (cN hr) (pv 6) (pv 11) (aF (aP K) (by rfl) T.cg bI (ae (pv 5) ag)) rfl)
     (au (bG (cC Ai Au Av bz (pv 5) (ae (pv 11) ag)))))
     bQ)
    (au (bG (cC Ai Au Av bz (pv 9) (ae (dJ (cN hr) (pv 6) (pv 11) (λ_ _=>rfl)) ag)))))))
   (au (bG (cC Ai Au Av bz (pv 7) (ae (aW (a_ K) (by rfl) T.bW bB (ae (pv 9) ag)) ag))))))))
  (ah (cM (aX pO (aF (aP K) (by rfl) T.cg bI (ae (pv 5) ag)) (pv 4) (bj _))
   (au (aO ia))
   bQ)
  (ah (av (i:=12) cH.nd rfl (AW rfl) (aW (a_ K) (by rfl) T.bW bB (ae (ck (aG.mk' (esc:=aj bR) (N:=["first","many","onward","is_yes","most","rooms","numbers","moves","room","leads","letter","to","yes"]) (own:=["room"]) (aI:=["is_yes"]) (bD:=[3]) rfl rfl (by decide+kernel)) rfl (bM (pv 5)) (λ_ _ _ _=>(ay (i:=0) (show BK (["room","is_yes"]:List Str) by decide+kernel) rfl (AW rfl))) (λ_ _ _ _=>br) (λ_ _ _ _=>(aW Ja (by rfl) T.xQ tM (ae (qG (i:=1) G2 ho2 hf2 hr hb2 (by rfl) (by first | exact AW rfl | exact CZ (AW rfl) | exact CZ (CZ rfl)) (ae (pv 0) ag)) ag)))) ag)))
  (au (aO (cB (ae (pv 5) (ae (pv 12) (ae (aW (a_ K) (by rfl) T.bW bB (ae (pv 7) ag)) ag)))))))))))),?_⟩
  have big:(100000:Nat)<=sizeLine:=by decide
  have wC:∀(w:List Nat) (x:α),Ok x->bX many w->Ok (dH on x w):=by
   intro w
   induction w with
   | nil=>intro x hx _;exact hx
   | cons c w ih=>intro x hx hw;exact ih _ (jG x c hx (hw c Aa)) λz hz=>hw z (AV _ hz)
  refine aA λY hY=>?_
  refine⟨_,rfl,by show 1<=sizeLine;omega,λRr hR=>?_⟩
  have sR:=Same.new (o:=.lst [v0]) hR
  dsimp only[az]
  subst hY
  refine aA λY hY=>?_
  refine⟨x0,v0,rfl,R.same r0 sR.kt,λD H2 hD s2 num=>?_⟩
  have Mu:H2 Rr=some (.lst [v0]):=s2 _ _ af
  have se:H D=none:=sR.free hD
  have DR:Rr≠D:=aq (show(upd H Rr (.lst [v0])) Rr=some (.lst [v0]) from af) hD
  dsimp only[az]
  subst hY
  refine aA λY hY=>?_
  refine⟨by show 0<=sizeLine;omega,λM hM=>?_⟩
  have sM:=Same.new (o:=.lst []) hM
  have vG:H M=none:=sR.free (s2.free hM)
  have MR:M≠Rr:=(aq Mu hM).symm
  obtain⟨oD,Ue,_,_⟩:=R.isD num
  have MD:M≠D:=(aq Ue hM).symm
  have Mw:=(sR.trans s2).trans sM
  dsimp only[az]
  subst hY
  refine fP (t:=oI _ _) (u:=md _ _) (λσ H'=>∃(xs:List α) (mv:List (List Nat)) (vs:List V) (ps:List Addr) (v8 v9 v10 v11:Option V),σ=[some v0,some (.int (many:Nat)),some (.ref f1),some (.ref f2),some (.int (most:Nat)),some (.ref Rr),some (.ref D),some (.ref M),v8,v9,v10,v11,none]/\Same H H'/\
   H' Rr=some (.lst vs)/\fV R H' vs xs/\H' M=some (.lst (ps.map V.ref))/\cx H' ps (mv.map ai)/\cp x0 on many xs mv/\xs.length<=20000/\(xs.length<=most->mv.length=xs.length)) ?re (λY rest=>?_)
  case re=>
   rintro σ H' ⟨xs,mv,vs,ps,v8,v9,v10,v11,rfl,s',eR,rp,eM,tp,g,lx,hl⟩
   have x6:vs.length=xs.length:=As rp
   have lps:ps.length=mv.length:=by rw[As tp,AA]
   refine aA λY hY=>?_
   refine⟨_,rfl,_,vs.length,rfl,.inl ⟨_,.of eR,rfl⟩,_,rfl,_,_,rfl,rfl,_,rfl,?_⟩
   by_cases hc:xs.length<=most
   rotate_left
   ·rw[show decide ((most:Int)<((vs.length:Nat):Int))=true from decide_eq_true (by omega)]
    exact fM (q0 xs H' s' g.once g.reach (by omega))
   have hl:=hl hc
   rw[show decide ((most:Int)<((vs.length:Nat):Int))=false from decide_eq_false (by omega)]
   refine cX ?_
   subst hY
   dsimp only[jJ]
   refine aA λY hY=>?_
   refine⟨_,rfl,Rr,rfl,⟨_,.of eR⟩,λC hC=>?_⟩
   refine cR (xs:=vs) (λj σ H2=>∃v:Option V,σ=[v,some (.ref f2)]/\Same H' H2/\H2 C=some (.lst (((xs.take j).map yes).map V.bl)))
    ⟨none,?sg,Same.new hC,af⟩ (λj σ H2 _ ⟨_,_,s2,_⟩=>.of (s2 _ _ eR)) ?_ ?_
   case sg=>rfl
   ·rintro j y σ H2 hy ⟨v,rfl,s2,c2⟩
    have hj:j<xs.length:=by rw[<-x6];exact(AD.mp hy).1
    have ex:xs[j]? =some xs[j]:=Ag hj
    obtain⟨v',hv',rv⟩:=rp.at ex
    rw[hy] at hv'
    have hv2:=AZ hv'
    subst hv2
    obtain⟨w,hw,ew⟩:=g.reach xs[j] (D4 ..)
    have okx:Ok xs[j]:=by rw[ew];exact wC w x0 k0 hw
    refine⟨rfl,_,rfl,xs[j],y,rfl,R.same rv s2.kt,okx,x5 _ _ zZ (s'.trans s2),λH3 s3=>?_⟩
    refine .inr ⟨_,rfl,_,s3 _ _ c2,by rw[AA,AA,Ao];omega,_,rfl,(s2.trans s3).kbn hC KB.write,?_⟩
    rw[af,take_snoc ex,AF,AF];rfl
   rintro σ H2 ⟨v,rfl,s2,c2⟩
   rw[x6,Ay] at c2
   refine⟨C,_,rfl,.inl ⟨.of c2,λYa hYa=>?_⟩⟩
   have sY:=Same.new (o:=.tup ((xs.map yes).map V.bl)) hYa
   dsimp only[az]
   subst hY
   refine⟨_,rfl,_,rfl,_,rfl,M,_,rfl,.inl ⟨.of (sY _ _ (s2 _ _ eM)),λVa Ug=>⟨by show 3<=sizeLine;omega,λp hp=>?_⟩⟩⟩
   have sV:=Same.new (o:=.tup (ps.map V.ref)) Ug
   have sP:=Same.new (o:=.tup [.ref Rr,.ref Ya,.ref Va]) hp
   have dz:=((s2.trans sY).trans sV).trans sP
   exact q xs mv vs p Rr Ya Va ps _ (s'.trans dz) hR hl hc g af (dz _ _ eR) (rp.keep dz.kt) (sP _ _ (sV _ _ af)) (sP _ _ af) (tp.keep dz.kt)
  refine j1 (λm σ H'=>∃(xs:List α) (mv:List (List Nat)) (vs:List V) (ps:List Addr) (v8 v9 v10 v11:Option V),m=most+1-mv.length/\σ=[some v0,some (.int (many:Nat)),some (.ref f1),some (.ref f2),some (.int (most:Nat)),some (.ref Rr),some (.ref D),some (.ref M),v8,v9,v10,v11,none]/\Same H H'/\
    H' Rr=some (.lst vs)/\fV R H' vs xs/\R.Num H' D xs/\H' M=some (.lst (ps.map V.ref))/\cx H' ps (mv.map ai)/\cp x0 on many xs mv/\mv.length<=xs.length/\xs.length<=20000)
   ⟨_,[x0],[],[v0],[],none,none,none,none,rfl,rfl,Mw,sM _ _ Mu,.cons (R.same r0 Mw.kt) .nil,R.keep num (ao MD.symm),af,.nil,cp.begin,by simp,by simp⟩ ?_ ?_
  ·rintro m σ H4 N hN ⟨xs,mv,vs,ps,v8,v9,v10,v11,rfl,rfl,s4,eR,rp,nm,eM,tp,g,hl,lx⟩
   have x6:vs.length=xs.length:=As rp
   have lps:ps.length=mv.length:=by rw[As tp,AA]
   refine⟨_,rfl,_,ps.length,rfl,.inl ⟨_,.of eM,by rw[AA]⟩,_,rfl,_,vs.length,rfl,.inl ⟨_,.of eR,rfl⟩,_,_,rfl,rfl,_,rfl,?_⟩
   by_cases hlt:mv.length<xs.length
   ·rw[show decide (((ps.length:Nat):Int)<((vs.length:Nat):Int))=true from decide_eq_true (by omega)]
    refine fM ⟨_,rfl,_,_,rfl,rfl,_,rfl,?_⟩
    by_cases hc:xs.length<=most
    rotate_left
    ·rw[show decide (((vs.length:Nat):Int)<=((most:Nat):Int))=false from decide_eq_false (by omega)]
     refine cX ?_
     exact rest _ _ ⟨xs,mv,vs,ps,v8,v9,v10,v11,rfl,s4,eR,rp,eM,tp,g,lx,λz=>absurd z hc⟩
    rw[show decide (((vs.length:Nat):Int)<=((most:Nat):Int))=true from decide_eq_true (by omega)]
    refine fM ?_
    refine aA λY hY=>?_
    obtain⟨x,ex⟩:∃x,xs[mv.length]? =some x:=⟨_,Ag hlt⟩
    obtain⟨vx,Uh,rx⟩:=rp.at ex
    have x8:=g.reach x (AL ex)
    have okx:Ok x:=by obtain⟨w,hw,ew⟩:=x8;rw[ew];exact wC w x0 k0 hw
    refine⟨_,rfl,_,rfl,_,ps.length,rfl,.inl ⟨_,.of eM,by rw[AA]⟩,Rr,_,_,vx,rfl,rfl,.of eR,ax (by rw[lps];exact Uh),?_⟩
    dsimp only[az]
    subst hY
    refine aA λY hY=>?_
    refine⟨by show 0<=sizeLine;omega,λL hL=>?_⟩
    have sL:=Same.new (o:=.lst []) hL
    have hL0:H L=none:=s4.free hL
    have LR:L≠Rr:=(aq eR hL).symm
    have LM:L≠M:=(aq eM hL).symm
    obtain⟨oD4,OM,_,_⟩:=R.isD nm
    have LD:L≠D:=(aq OM hL).symm
    dsimp only[az]
    subst hY
    refine aA λY hY=>?_
    refine⟨_,rfl,_,rfl,by omega,by omega,cP (n:=(many:Int).toNat) (λj σ H'=>∃(ys:List α) (us:List V) (leads:List Nat) (v10 v11:Option V),σ=[some v0,some (.int (many:Nat)),some (.ref f1),some (.ref f2),some (.int (most:Nat)),some (.ref Rr),some (.ref D),some (.ref M),some vx,some (.ref L),v10,v11,none]/\Same H H'/\bF H4 H'/\
      H' Rr=some (.lst us)/\fV R H' us ys/\R.Num H' D ys/\H' M=some (.lst (ps.map V.ref))/\H' L=some (.lst ((ai leads).map V.int))/\leads.length=j/\gU x0 on many xs x leads ys)
     ⟨xs,vs,[],v10,v11,rfl,s4.trans sL,sL.kt,sL _ _ eR,rp.keep sL.kt,R.keep nm (ao LD.symm),sL _ _ eM,af,rfl,gU.start g⟩ ?_ ?_⟩
    ·rintro j σ H5 N2 lQ hj ⟨ys,us,leads,v10,v11,rfl,s5,ph,qo,pj,pq,ox,x9,ll,gr⟩
     have ej:(0:Int)+(j:Int)=((j:Nat):Int):=by omega
     rw[ej]
     have Ui:j<many:=by omega
     have ly:=nQ _ _ _ gr.go
     have Qj:us.length=ys.length:=As pj
     dsimp only[az]
     refine aA λY hY=>?_
     refine⟨rfl,_,rfl,_,rfl,x,vx,j,rfl,R.same rx ph,okx,Ui,x5 _ _ zZ s5,λto H6 s6 pw=>?_⟩
     have oy:=s6 _ _ qo
     have mQ:=s6 _ _ ox
     have Mx:=s6 _ _ x9
     have qp:=pj.keep s6.kt
     obtain⟨Uj,kN,Uk,Mz⟩:=R.isD pq
     have sj:=R.keep pq ((s6 _ _ kN).trans kN.symm)
     have OO:=s6 _ _ kN
     have Ul:bF H4 H6:=λb l z=>s6 _ _ (ph _ _ z)
     have MA:=s5.trans s6
     dsimp only[az]
     subst hY
     refine fP (t:=kh _ _ _) (u:=IW _) (λσ H'=>∃(zs:List α) (ws:List V) (t:Nat),σ=[some v0,some (.int (many:Nat)),some (.ref f1),some (.ref f2),some (.int (most:Nat)),some (.ref Rr),some (.ref D),some (.ref M),some vx,some (.ref L),some (.int (j:Nat)),some to,none]/\Same H H'/\bF H6 H'/\
      H' Rr=some (.lst ws)/\fV R H' ws zs/\R.Num H' D zs/\H' M=some (.lst (ps.map V.ref))/\H' L=some (.lst ((ai leads).map V.int))/\zs[t]? =some (on x j)/\gU x0 on many xs x (leads++[t]) zs) ?Um (λY sk=>?_)
     case Um=>
      rintro σ H7 ⟨zs,ws,t,rfl,s7,sr,lR,Uo,su,Uq,yb,hz,MB⟩
      refine⟨_,rfl,AW ⟨rfl,_,.of yb⟩,_,rfl,_,rfl,D,_,rfl,R.there su (R.same pw sr) MB.once hz,L,_,_,rfl,rfl,yb,by rw[AA,aB];omega,?_⟩
      have kL:bF H7 (upd H7 L (.lst ((ai leads).map V.int++[.int (t:Nat)]))):=j4 yb (λl z=>nomatch z)
      refine lQ _ _ ⟨zs,ws,leads++[t],_,_,rfl,s7.kbn hL0 KB.write,λb l z=>kL _ _ (sr _ _ (Ul _ _ z)),by rw[ao LR.symm];exact lR,Uo.keep kL,R.keep su (ao LD.symm),by rw[ao LM.symm];exact Uq,?_,by rw[AH,ll];rfl,MB⟩
      rw[af,aR,AF];rfl
     by_cases hm:on x j∈ys
     ·obtain⟨i,hi⟩:=Bl hm
      refine⟨_,rfl,_,rfl,D,_,rfl,R.there sj pw gr.once hi,_,rfl,?_⟩
      refine cX ?_
      exact sk _ _ ⟨ys,us,i,rfl,MA,λ_ _ z=>z,oy,qp,sj,mQ,Mx,hi,gr.old (by rw[ll];exact hi)⟩
     ·refine⟨_,rfl,_,rfl,D,_,rfl,R.miss sj pw hm,_,rfl,?_⟩
      refine fM ?_
      obtain⟨H7,OP,px,su⟩:=R.put sj pw hm (by omega)
      have MC:=gr.new (by omega) x8 (by rw[ll];exact hm)
      rw[ll] at MC
      have lR:=px _ _ oy DR
      refine⟨_,rfl,_,us.length,rfl,.inl ⟨_,.of oy,rfl⟩,_,rfl,_,rfl,D,H7,rfl,by rw[Qj];exact OP,?_⟩
      refine⟨_,rfl,AW ⟨rfl,_,.of lR⟩,_,rfl,Rr,_,_,rfl,rfl,lR,by omega,?_⟩
      have sr:bF H6 H7:=Mt OO Mz px
      have kR:bF H7 (upd H7 Rr (.lst (us++[to]))):=j4 lR (λl z=>nomatch z)
      have pz:bF H6 (upd H7 Rr (.lst (us++[to]))):=λb l z=>kR _ _ (sr _ _ z)
      refine sk _ _ ⟨ys++[on x j],us++[to],ys.length,rfl,(MA.kbn se px).kbn hR KB.write,pz,af,?_,R.keep su (ao DR.symm),by rw[ao MR];exact px _ _ mQ MD,by rw[ao LR];exact px _ _ Mx LD,by rw[Ae (AM _),B4];rfl,MC⟩
      exact i7 (qp.keep pz) (R.same pw pz)
    ·rintro σ H5 ⟨ys,us,leads,v10,v11,rfl,s5,ph,qo,pj,pq,ox,x9,ll,gr⟩
     subst hY
     have Ur:leads.length=many:=by rw[ll];omega
     have g2:=g.next ex gr Ur
     have ly:=nQ _ _ _ gr.go
     obtain⟨more,sv⟩:=gr.pre
     have lxy:xs.length<=ys.length:=by rw[sv,AH];omega
     refine⟨_,rfl,AW ⟨rfl,_,.of ox⟩,_,rfl,L,_,rfl,.inl ⟨.of x9,λt ht=>?_⟩⟩
     have sT:=Same.new (o:=.tup ((ai leads).map V.int)) ht
     have Us:M≠t:=aq ox ht
     have nRt:Rr≠t:=aq qo ht
     obtain⟨Uj,kN,Uk,Mz⟩:=R.isD pq
     have Ut:D≠t:=aq kN ht
     have mQ:=sT _ _ ox
     refine⟨M,_,_,rfl,rfl,mQ,by rw[AA];omega,?_⟩
     have kM:bF (upd H5 t (.tup ((ai leads).map V.int))) (upd (upd H5 t (.tup ((ai leads).map V.int))) M (.lst (ps.map V.ref++[.ref t]))):=j4 mQ (λl z=>nomatch z)
     have kA:bF H5 (upd (upd H5 t (.tup ((ai leads).map V.int))) M (.lst (ps.map V.ref++[.ref t]))):=λb l z=>kM _ _ (sT.kt _ _ z)
     refine hN _ _ _ ?_ ⟨ys,mv++[leads],us,ps++[t],_,_,_,_,rfl,rfl,(s5.trans sT).kbn vG KB.write,by rw[ao MR.symm];exact sT _ _ qo,pj.keep kA,R.keep pq (by rw[ao MD.symm,ao Ut]),by rw[af,AF];rfl,?_,g2,by rw[AH];simp;omega,by omega⟩
     ·rw[AH];simp;omega
     ·rw[AF]
      exact i7 ((tp.keep ph).keep kA) (by rw[ao Us.symm,af])
   ·have e:mv.length=xs.length:=by omega
    rw[show decide (((ps.length:Nat):Int)<((vs.length:Nat):Int))=false from decide_eq_false (by omega)]
    refine cX ⟨_,rfl,cX ?_⟩
    exact rest _ _ ⟨xs,mv,vs,ps,v8,v9,v10,v11,rfl,s4,eR,rp,eM,tp,g,lx,λ_=>e⟩
  ·rintro σ H Q Q' h ⟨v,e1,v2,n1,e2,l1,v3,e3,v4,n2,e4,l2,i,j,e5,e6,k,e7,z⟩
   refine⟨v,e1,v2,n1,e2,l1,v3,e3,v4,n2,e4,l2,i,j,e5,e6,k,e7,?_⟩
   cases k with
   | false=>
    rw[if_neg An] at z ⊢
    obtain⟨k',e8,q⟩:=z
    exact⟨k',e8,h _ _ q⟩
   | true=>
    rw[if_pos rfl] at z ⊢
    obtain⟨v5,e9,i2,j2,e10,K2,k2,ME,q⟩:=z
    exact⟨v5,e9,i2,j2,e10,K2,k2,ME,h _ _ q⟩
def OQ(P:Az)(w:World)(K:AE)(mg:Str->Option Value)(base:Heap)(k:Nat):Sp:=λvs H Q _=>∃(b most:Nat) (nm g:Addr) (ss:List Str) (α:Type) (R:gb α) (on:α->Nat->α) (yes:α->Bool) (Ok:α->Prop) (Ev:Hp->Prop) (x0:α) (v0:V) (f1 f2:Addr) (D:List Addr),
 vs=[.int b,.ref nm,.ref g,.int most]/\b<=4/\ss.length<=4/\H nm=some (.tup (ss.map V.str))/\H g=some (.tup [v0,.ref f1,.ref f2])/\(∀a∈D,∃φ,H a=some (.ext φ))/\
 kD P w K mg base H D k f1 2 (x4 R (b ^ ss.length) on Ok Ev)/\kD P w K mg base H D k f2 1 (OL R yes Ok Ev)/\(∀x a,Ok x->a<b ^ ss.length->Ok (on x a))/\(∀H H',Ev H->Same H H'->Ev H')/\
 (∀D H,(∀a∈D,∃φ,H a=some (.ext φ))->Ev H->Ev (dv D H))/\R.Rep x0 v0 H/\Ok x0/\Ev H/\most<=10000/\(∀(xs:List α) (H':Hp),Same H H'->xs.Nodup->(∀x∈xs,∃w,bX (b ^ ss.length) w/\x=dH on x0 w)->most<xs.length->Q .non H')/\
 ∀(xs:List α) (mv:List (List Nat)) (p:Addr) (H':Hp),Same H H'->mv.length=xs.length->xs.length<=most->cp x0 on (b ^ ss.length) xs mv->dy H' p nm (xs.map yes) mv->Q (.ref p) H'
theorem jA:aU ["base","names","growth","most","many","grown"] ["base","names","growth","most"] (aj eK):=⟨rfl,rfl,rfl,by decide+kernel,rfl,by decide+kernel,by decide+kernel⟩
theorem wk{a:cb}(T:Txt K mg a)(k:Nat):aV P w K mg base bK (k+2) a.iq a.jv ["base","names","growth","most"] (OQ P w K mg base k):=by
 have fA:=iQ (P:=P) (w:=w) (base:=base) T
 refine T.xH.ok jA (λvs H Q E h=>?_) (λcdv A outer s H vs Q E hr h=>?_)
 ·obtain⟨b,most,nm,g,ss,α,R,on,yes,Ok,Ev,x0,v0,f1,f2,D,rfl,_⟩:=h
  rfl
 ·obtain⟨b,most,nm,g,ss,α,R,on,yes,Ok,Ev,x0,v0,f1,f2,D,rfl,hb4,vH,jH,eg,hD,F1,F2,jG,x5,evU,r0,ok0,zZ,hbm,q0,q⟩:=h
  have eU:aQ 1 _:=hr.mono (by omega)
  have OS:aQ (k+1) _:=hr
  refine⟨_,(ah (av (i:=4) jA.nd rfl (AW rfl) (aF (aP K) (by rfl) T.cg bI (ae (aE fA eU rfl T.jx T.jy T.jz .nil aN (ae (pv 0) (ae (aF (aP K) (by rfl) T.cg bI (ae (pv 1) ag)) ag))) ag)))
  (ah (av (i:=5) jA.nd rfl (AW rfl) (xp (λ_=>rfl) OS rfl T.xE T.xF T.xG (ae (aC (aD K) (pv 2) ak (λ_ _=>rfl)) (ae (pv 4) (ae (aC (aD K) (pv 2) ak (λ_ _=>rfl)) (ae (aC (aD K) (pv 2) ak (λ_ _=>rfl)) (ae (pv 3) ag)))))))
  (ah (cM (aX wM (pv 5) ia (bj _))
   (au (aO ia))
   bQ)
  (au (aO (cB (ae (pv 1) (ae (aC (aD K) (pv 5) ak (λ_ _=>rfl)) (ae (aC (aD K) (pv 5) ak (λ_ _=>rfl)) ag))))))))),?_⟩
  have big:(10000:Nat)<=sizeLine:=by decide
  have hB:b ^ ss.length<=256:=cL hb4 vH
  refine⟨_,rfl,_,rfl,_,ss.length,rfl,.inr ⟨_,.of jH,by rw[AA]⟩,b,ss.length,rfl,hb4,vH,λD0 Uu H1 se s1 e1 t1=>?_⟩
  refine⟨_,b ^ ss.length,rfl,.inl ⟨_,.of e1,by rw[AA,As t1,fq]⟩,?_⟩
  dsimp only[az]
  have Uv:=s1 _ _ eg
  refine⟨_,rfl,g,_,_,v0,rfl,rfl,.of Uv,ax (j:=0) rfl,_,rfl,_,rfl,g,_,_,.ref f1,rfl,rfl,.of Uv,ax (j:=1) rfl,_,rfl,g,_,_,.ref f2,rfl,rfl,.of Uv,ax (j:=2) rfl,_,rfl,?_⟩
  have hD1:∀a∈D,∃φ,H1 a=some (.ext φ):=λa ha=>let ⟨φ,e⟩:=hD a ha;⟨φ,s1 _ _ e⟩
  refine⟨D,hD1,λbase' W=>?_⟩
  have F1':=(F1.same λb φ _ e=>s1 _ _ e) base' W.b
  have F2':=(F2.same λb φ _ e=>s1 _ _ e) base' W.b
  refine⟨_,wj (k:=k) T R F1' F2' jG x5,?_⟩
  have ktu:bF H1 (dv D H1):=λb xs z=>iI hD1 z (λ_ y=>nomatch y)
  refine⟨x0,v0,most,rfl,R.same (R.same r0 s1.kt) ktu,ok0,evU D H1 hD1 (x5 _ _ zZ s1),hbm,by omega,λxs H2 s2 nd rc lt n2=>?_,λxs mv vs p Rr ya va ps H2 s2 Uw hl hlm gr ep _ _ ey ev tp n2=>?_⟩
  ·have dz:=s1.trans (o_ s2)
   generalize ig D H1 H2=H3 at dz ⊢
   dsimp only[az]
   refine⟨_,rfl,rfl,_,rfl,?_⟩
   exact cI (λ_=>q0 xs H3 dz nd rc lt) (λz=>absurd rfl z)
  have s3:=o_ s2
  have o2:∀{b:Addr} {o:HO},H2 b=some o->ig D H1 H2 b=some o:=λ{b o} e=>by
   rw[eE λz=>?_]
   ·exact e
   ·rw[n2 b z] at e;cases e
  have Ux:=o2 ep
  have XO:=o2 ey
  have Qk:=o2 ev
  have MF:=tp.keep (show bF H2 (ig D H1 H2) from λb xs z=>o2 z)
  have dz:=s1.trans s3
  generalize ig D H1 H2=H3 at s3 Ux XO Qk MF dz ⊢
  dsimp only[az]
  refine⟨_,rfl,rfl,_,rfl,?_⟩
  refine cI (λz=>absurd z (by simp)) (λ_=>?_)
  refine⟨_,rfl,_,rfl,p,_,_,.ref ya,rfl,rfl,.of Ux,ax (j:=1) rfl,_,rfl,p,_,_,.ref va,rfl,rfl,.of Ux,ax (j:=2) rfl,by show 3<=sizeLine;decide,λm hm=>?_⟩
  have sm:=Same.new (o:=.tup [.ref nm,.ref ya,.ref va]) hm
  exact q xs mv m _ (dz.trans sm) hl hlm gr ⟨ya,va,ps,af,sm _ _ XO,sm _ _ Qk,MF.keep sm.kt⟩
def idx:List Str->Str->Nat
 | [],_=>0
 | s::ss,t=>if s=t then 0 else idx ss t+1
theorem sx:∀{ss:List Str} {t:Str},t∈ss->ss[idx ss t]? =some t/\idx ss t<ss.length/\∀i,i<idx ss t->ss[i]? ≠some t
 | [],_,h=>by cases h
 | s::ss,t,h=>by
  unfold idx
  by_cases e:s=t
  ·rw[if_pos e]
   exact⟨by rw[e];rfl,by rw[A'];omega,λi hi=>absurd hi (Bw _)⟩
  ·rw[if_neg e]
   obtain⟨h1,h2,h3⟩:=sx (ss:=ss) ((Ak.mp h).resolve_left λz=>e z.symm)
   refine⟨h1,by rw[A'];omega,λi hi z=>?_⟩
   cases i with
   | zero=>exact e (AZ z)
   | succ i=>exact h3 i (by omega) z
def pk(b m:Nat)(sp:List Nat)(L:Nat):Nat:=lst b 0 (sp.map λs=>(fl b m L).getD s 0)
theorem uh(b acc:Nat)(ds:List Nat)(d:Nat):lst b acc (ds++[d])=lst b acc ds*b+d:=by simp[lst,F_]
theorem W_{b m:Nat}(hb:0<b)(sp:List Nat)(L:Nat):pk b m sp L<b ^ sp.length:=by
 have:=sf (b:=b) (sp.map λs=>(fl b m L).getD s 0) 0 0 (λd hd=>by
  obtain⟨s,_,rfl⟩:=Ac.mp hd
  by_cases h:s<(fl b m L).length
  ·exact nO hb m L _ (AL (item_at 0 h))
  ·rw[AQ,BJ (by omega)];exact hb) (by rw[Dh];decide)
 rw[AA,CN] at this
 exact this
def nS(b:Nat)(ss ts:List Str):List Nat:=(Ad (b ^ ss.length)).map (pk b ss.length (ts.map (idx ss)))
theorem qW(b:Nat)(ss ts:List Str):(nS b ss ts).length=b ^ ss.length:=by rw[nS,AA,Aw]
theorem z_(b:Nat)(ss ts:List Str){L:Nat}(h:L<b ^ ss.length):(nS b ss ts).getD L 0=pk b ss.length (ts.map (idx ss)) L:=by
 rw[nS,AQ,AJ,CA h];rfl
def W0:Sp:=λvs H Q _=>∃(b:Nat) (na oa:Addr) (ss ts:List Str),vs=[.int b,.ref na,.ref oa]/\0<b/\b<=4/\ss.length<=4/\H na=some (.tup (ss.map V.str))/\H oa=some (.tup (ts.map V.str))/\ts.length<=8/\(∀t∈ts,t∈ss)/\
 ∀(D:Addr) (H':Hp),H D=none->Same H H'->H' D=some (.lst ((ai (nS b ss ts)).map V.int))->Q (.ref D) H'
theorem Ia{rs:List Str}{i:Nat}{x:V}(h:(rs.map V.str)[i]? =some x):∃r,x=.str r/\rs[i]? =some r:=by
 rw[AJ] at h
 cases e:rs[i]? with
 | none=>rw[e] at h;cases h
 | some r=>rw[e] at h;exact⟨r,(AZ h).symm,rfl⟩
theorem dj:aU ["base","names","own","spots","numbers","letter","number","spot"] ["base","names","own"] (aj dF):=⟨rfl,rfl,rfl,by decide+kernel,rfl,by decide+kernel,by decide+kernel⟩
theorem ui{a:cb}(T:Txt K mg a):aV P w K mg base bK 2 a.gJ a.iM ["base","names","own"] W0:=by
 have fA:=iQ (P:=P) (w:=w) (base:=base) T
 refine T.vU.ok dj (λvs H Q E h=>?_) (λcdv A outer s H vs Q E hr h=>?_)
 ·obtain⟨b,na,oa,ss,ts,rfl,_⟩:=h
  rfl
 ·obtain⟨b,na,oa,ss,ts,rfl,hb0,hb4,vH,en,eo,lt8,hsub,k⟩:=h
  have eU:aQ 1 _:=hr
  refine⟨_,(ah (cO (i:=3) (aG.mk' (esc:=aj dF) (N:=["base","names","own","spots","numbers","letter","number","spot"]) (own:=["name"]) (aI:=["names"]) (bD:=[1]) rfl rfl (by decide+kernel)) rfl (dN (pv 2)) (λ_ _ _ _=>(ay (i:=0) (show BK (["name","names"]:List Str) by decide+kernel) rfl (AW rfl))) (λ_ _ _ _=>br) (λ_ _ _ _=>(xr EE EF EG (o4 K) (pv 1) (ae (pv 0) ag))) dj.nd rfl rfl)
  (ah (av (i:=4) dj.nd rfl (AW rfl) (bt ag))
  (ah (aY Af rfl (bM (aE fA eU rfl T.jx T.jy T.jz .nil aN (ae (pv 0) (ae (aF (aP K) (by rfl) T.cg bI (ae (pv 1) ag)) ag)))) (ay (i:=5) dj.nd rfl (AW rfl))
   (ah (av (i:=6) dj.nd rfl (AW rfl) ak)
   (ah (aY Af rfl (bM (pv 3)) (ay (i:=7) dj.nd rfl (AW rfl))
    (au (av (i:=6) dj.nd rfl (AW rfl) (aH cK (aH dr (pv 6) (pv 0)) (aC (aD K) (pv 5) (pv 7) (λ_ _=>rfl))))))
   (au (bG (cC Ai Au Av bz (pv 4) (ae (pv 6) ag)))))))
  (au (aO (pv 4)))))),?_⟩
  have big:(10000:Nat)<=sizeLine:=by decide
  have hB:b ^ ss.length<=256:=cL hb4 vH
  refine aA λY hY=>?_
  refine⟨_,rfl,oa,rfl,⟨_,.of eo⟩,λC hC=>?_⟩
  refine fi (xs:=ts.map V.str) (λj σ H'=>∃v:Option V,σ=[v,some (.ref na)]/\Same H H'/\H' C=some (.lst ((ai ((ts.take j).map (idx ss))).map V.int)))
   ⟨none,?sg,Same.new hC,af⟩ (λj σ H' _ ⟨_,_,s,_⟩=>.of (s _ _ eo)) ?_ ?_
  case sg=>rfl
  ·rintro j x σ H' hx ⟨v,rfl,s',c'⟩
   obtain⟨t,rfl,et⟩:=Ia hx
   have hj:=(AD.mp et).1
   obtain⟨i1,i2,i3⟩:=sx (hsub t (AL et))
   refine⟨_,rfl,⟨na,_,rfl,s' _ _ en⟩,_,rfl,na,ss,t,idx ss t,rfl,rfl,.of (s' _ _ en),i1,i3,_,c',?_,_,rfl,s'.kbn hC KB.write,?_⟩
   ·rw[AA,aB,AA,Ao];omega
   ·rw[af,take_snoc et,AF,aR,AF];rfl
  rintro σ H1 ⟨v,rfl,s1,c1⟩
  rw[AA,Ay] at c1
  dsimp only[az]
  subst hY
  refine aA λY hY=>?_
  refine⟨by decide,λN hN=>?_⟩
  have sN:=Same.new (o:=.lst []) hN
  have XQ:H N=none:=s1.free hN
  have nCN:C≠N:=aq c1 hN
  dsimp only[az]
  subst hY
  refine aA λY hY=>?_
  have s2:=s1.trans sN
  refine⟨_,rfl,_,rfl,_,ss.length,rfl,.inr ⟨_,.of (s2 _ _ en),by rw[AA]⟩,b,ss.length,rfl,hb4,vH,λDa pa H3 Ib s3 e3 t3=>?_⟩
  have MG:pa.length=b ^ ss.length:=by rw[As t3,fq]
  have nDN:Da≠N:=λy=>by rw[y] at Ib;rw[af] at Ib;cases Ib
  refine⟨Da,rfl,⟨_,.of e3⟩,g5 (xs:=pa.map V.ref) (λi σ H'=>∃(v5 v6 v7:Option V),σ=[some (.int (b:Nat)),some (.ref na),some (.ref oa),some (.ref C),some (.ref N),v5,v6,v7]/\Same H H'/\bF H3 H'/\H' Da=some (.lst (pa.map V.ref))/\H' C=some (.lst ((ai (ts.map (idx ss))).map V.int))/\H' N=some (.lst ((ai ((Ad i).map (pk b ss.length (ts.map (idx ss))))).map V.int)))
   ⟨none,none,none,rfl,s2.trans s3,(Same.refl _).kt,e3,s3 _ _ (sN _ _ c1),s3 _ _ af⟩ (λi σ H' _ ⟨_,_,_,_,_,_,e,_⟩=>.of e) ?_ ?_⟩
  ·rintro i x σ H4 M1 yc hx ⟨v5,v6,v7,rfl,s4,t4,e4,c4,n4⟩
   obtain⟨p,rfl,ep⟩:=mO hx
   have hi:i<b ^ ss.length:=by rw[<-MG];exact(AD.mp ep).1
   obtain⟨l',hl',el⟩:=t3.get ep
   rw[ug hb0 _ _ hi] at hl'
   have:=AZ hl'
   subst this
   have el4:=t4 _ _ el
   dsimp only[az]
   refine aA λY2 de=>?_
   dsimp only[gM,tC,az]
   subst de
   refine aA λY2 de=>?_
   refine⟨_,rfl,C,rfl,⟨_,.of c4⟩,g5 (xs:=(ai (ts.map (idx ss))).map V.int) (λj σ H'=>∃v7:Option V,σ=[some (.int (b:Nat)),some (.ref na),some (.ref oa),some (.ref C),some (.ref N),some (.ref p),some (.int (lst b 0 (((ts.map (idx ss)).take j).map λs=>(fl b ss.length i).getD s 0):Nat)),v7]/\H'=H4)
    ⟨v7,rfl,rfl⟩ (λj σ H' _ ⟨_,_,e⟩=>e▸.of c4) ?_ ?_⟩
   ·rintro j y σ H5 M2 vI hy ⟨v7,rfl,rfl⟩
    obtain⟨sp,rfl,es⟩:=di hy
    have hsp:sp<ss.length:=by
     obtain⟨t,ht,rfl⟩:=Ac.mp (AL es)
     exact(sx (hsub t ht)).2.1
    refine⟨_,rfl,_,rfl,_,_,rfl,rfl,.inr (by constructor<;>omega),_,rfl,_,rfl,p,_,_,.int ((fl b ss.length i).getD sp 0:Nat),rfl,rfl,.of el4,ax (cG (by rw[fz];exact hsp)),_,_,rfl,rfl,vI _ _ ⟨some (.int (sp:Nat)),?_,rfl⟩⟩
    rw[take_snoc es,AF,A0,CH,uh,Cf,Bx]
    rfl
   ·rintro σ H5 ⟨v7,rfl,rfl⟩
    rw[AA,aB,Ay]
    subst de
    refine⟨_,rfl,.inl ⟨rfl,_,.of n4⟩,_,rfl,N,_,_,rfl,rfl,n4,?_,yc _ _ ⟨_,_,_,rfl,s4.kbn XQ KB.write,t4.trans (bF.lst n4),by rw[ao nDN];exact e4,by rw[ao nCN];exact c4,?_⟩⟩
    ·rw[AA,aB,AA,Aw];omega
    ·rw[af,BD,AF,aR,AF];rfl
  ·rintro σ H4 ⟨v5,v6,v7,rfl,s4,t4,e4,c4,n4⟩
   rw[AA,MG] at n4
   subst hY
   exact⟨_,rfl,k N H4 XQ s4 n4⟩
def Ql:List (Pos×Str):=[(⟨83,13,83,69⟩,(("sets_growth":Str)++".<locals>.")++"<lambda>"),(⟨84,26,84,72⟩,(("sets_growth":Str)++".<locals>.")++"<lambda>")]
def Uy:List (Pos×Str):=[(⟨225,4,229,43⟩,(("_law_due":Str)++".<locals>.")++"_law_onward")]
structure TB (a:cb)(H:Hp):Prop where
 sg:Tab H a.cW Ql
 du:Tab H a.iP Uy
def KX(a:cb)(H H':Hp):Prop:=∀b o,H b=some o->(∀qs,o≠.fw qs)->H' b=some o
theorem KX.trans{a:cb}{H H1 H2:Hp}(x:KX a H H1)(y:KX a H1 H2):KX a H H2:=λb o e n=>y b o (x b o e n) n
theorem KX.same{a:cb}{H H':Hp}(s:Same H H'):KX a H H':=λb o e _=>s b o e
theorem KX.kt{a:cb}{H H':Hp}(x:KX a H H'):bF H H':=λb xs e=>x b _ e λ_ z=>nomatch z
theorem KX.kb{a:cb}{H H':Hp}{T:Addr}{L:List (Pos×Str)}(t:Tab H T L)(k:KB T H H'):KX a H H':=λb o e n=>k b o e λz=>by
 obtain⟨qs,h,_⟩:=t
 rw[z,h] at e
 exact n qs (AZ e).symm
theorem _root_.L2.Tab.XR{H H':Hp}{T d:Addr}{L L':List (Pos×Str)}(x:Tab H T L)(y:Tab H d L')(s:KB d H H')(hd:T≠d):Tab H' T L:=by
 obtain⟨ps,h1,h2,h3⟩:=x
 obtain⟨qs,g,_⟩:=y
 refine⟨ps,s _ _ h1 hd,h2,λp hp=>?_⟩
 rcases h3 p hp with z | ⟨c,z1,z2⟩
 ·exact .inl z
 ·exact .inr ⟨c,z1,s _ _ z2 λe=>by rw[e,g] at z2;cases z2⟩
theorem TB.same{a:cb}{H H':Hp}(t:TB a H)(s:Same H H'):TB a H':=⟨t.sg.same s,t.du.same s⟩
theorem TB.ksg{K:AE}{mg:Str->Option Value}{a:cb}(T:Txt K mg a){H H':Hp}(t:TB a H)(k:KB a.cW H H')(y:Tab H' a.cW Ql):TB a H':=⟨y,t.du.XR t.sg k T.tne.symm⟩
theorem TB.kdu{K:AE}{mg:Str->Option Value}{a:cb}(T:Txt K mg a){H H':Hp}(t:TB a H)(k:KB a.iP H H')(y:Tab H' a.iP Uy):TB a H':=⟨t.sg.XR t.du k T.tne,y⟩
def Mc(b:Nat)(H:Hp)(m:Addr)(ss:List Str)(bs:List Bool)(mv:List (List Nat)):Prop:=∃nm,dy H m nm bs mv/\H nm=some (.tup (ss.map V.str))/\Moves bs.length (b ^ ss.length) mv/\0<bs.length
def own(b:Nat)(us ss:List Str)(c:Nat):Nat:=(nS b us ss).getD c 0
theorem Uz{b:Nat}(hb:0<b){us ss:List Str}{c:Nat}(hc:c<b ^ us.length):own b us ss c<b ^ ss.length:=by
 unfold own
 rw[z_ b us ss hc]
 have:=W_ (m:=us.length) hb (ss.map (idx us)) c
 rwa [AA] at this
theorem JP{α:Type}{x0:α}{on:α->Nat->α}{B:Nat}{xs:List α}{mv:List (List Nat)}{yes:α->Bool}(g:cp x0 on B xs mv)(h:mv.length=xs.length){w:List Nat}(hw:bX B w):lang (xs.map yes) mv 0 w=yes (dH on x0 w):=by
 have:=g.run h w 0 x0 g.first hw
 unfold lang
 rw[AQ,AJ,this]
 rfl
theorem MH{α:Type}{x0:α}{on:α->Nat->α}{B:Nat}{xs:List α}{mv:List (List Nat)}(g:cp x0 on B xs mv):0<xs.length:=(AD.mp g.first).1
def bP(H:Hp)(as:List Addr)(xss:List (List Nat)):Prop:=DG (λ(b:Addr) (l:List Nat)=>H b=some (.lst ((ai l).map V.int))) as xss
theorem bP.keep{H H':Hp}{as:List Addr}{xss:List (List Nat)}(h:bP H as xss)(k:∀b∈as,∀o,H b=some o->H' b=some o):bP H' as xss:=by
 unfold bP at h ⊢
 induction h with
 | nil=>exact .nil
 | cons r t ih=>exact .cons (k _ Aa _ r) (ih λb hb=>k b (AV _ hb))
theorem bP.at{H:Hp}{as:List Addr}{xss:List (List Nat)}{i:Nat}{b:Addr}(h:bP H as xss)(hi:as[i]? =some b):∃l,xss[i]? =some l/\H b=some (.lst ((ai l).map V.int)):=dW h hi
theorem bP.back{H:Hp}:∀{as:List Addr} {xss:List (List Nat)} {i:Nat} {l:List Nat},bP H as xss->xss[i]? =some l->∃b,as[i]? =some b/\H b=some (.lst ((ai l).map V.int))
 | _,_,_,_,.nil,e=>by simp at e
 | _,_,0,_,.cons r _,e=>by simp at e;subst e;exact⟨_,rfl,r⟩
 | _,_,i+1,_,.cons _ t,e=>by
  simp only[DT] at e ⊢
  exact bP.back t e
theorem bP.len{H:Hp}{as:List Addr}{xss:List (List Nat)}(h:bP H as xss):as.length=xss.length:=As h
theorem bP.snoc{H:Hp}{as:List Addr}{xss:List (List Nat)}{b:Addr}{l:List Nat}(h:bP H as xss)(e:H b=some (.lst ((ai l).map V.int))):bP H (as++[b]) (xss++[l]):=by
 unfold bP at h ⊢
 induction h with
 | nil=>exact .cons e .nil
 | cons r t ih=>exact .cons r ih
theorem bP.mem{H:Hp}{as:List Addr}{xss:List (List Nat)}{b:Addr}(h:bP H as xss)(hb:b∈as):∃l,H b=some (.lst ((ai l).map V.int)):=by
 obtain⟨i,hi⟩:=Bl hb
 obtain⟨l,_,e⟩:=h.at hi
 exact⟨l,e⟩
theorem bP.set{H:Hp}:∀{as:List Addr} {xss:List (List Nat)} {i:Nat} {b:Addr} {l:List Nat},bP H as xss->as.Nodup->as[i]? =some b->bP (upd H b (.lst ((ai l).map V.int))) as (xss.set i l)
 | _,_,_,_,_,.nil,_,e=>by simp at e
 | a::as,x::xss,0,b,l,.cons r t,nd,e=>by
  simp at e;subst e
  refine .cons af (bP.keep t λc hc o q=>?_)
  rw[ao (λz:c=a=>(Bk.mp nd).1 (z▸hc))];exact q
 | a::as,x::xss,i+1,b,l,.cons r t,nd,e=>by
  simp only[DT] at e
  refine .cons ?_ (bP.set t (Bk.mp nd).2 e)
  rw[ao (λz:a=b=>(Bk.mp nd).1 (z▸AL e))];exact r
def oth(ss:List Str)(x:Str):List Str:=ss.filter λs=> !decide (V.str s=V.str x)
theorem RP{ss:List Str}{x y:Str}:y∈oth ss x↔y∈ss/\y≠x:=by
 unfold oth
 rw[Bc]
 refine and_congr IH ?_
 rw[DA,decide_eq_false_iff_not]
 exact not_congr ⟨λe=>by injection e,λe=>by rw[e]⟩
def OT:Sp:=λvs H Q _=>∃(m nm y v:Addr) (ss:List Str) (x:Str),vs=[.ref m,.str x]/\H m=some (.tup [.ref nm,.ref y,.ref v])/\H nm=some (.tup (ss.map V.str))/\ss.length<=4/\
 ∀(N:Addr) (H':Hp),Same H H'->H' N=some (.tup ((oth ss x).map V.str))->Q (.ref N) H'
theorem uj:aU ["machine","name"] ["machine","name"] (aj dG):=⟨rfl,rfl,rfl,by decide+kernel,rfl,by decide+kernel,by decide+kernel⟩
theorem mR{a:cb}(T:Txt K mg a):aV P w K mg base bK 1 a.gK a.iN ["machine","name"] OT:=by
 refine T.vY.ok uj (λvs H Q E h=>?_) (λcdv A outer s H vs Q E hr h=>?_)
 ·obtain⟨m,nm,y,v,ss,x,rfl,_⟩:=h
  rfl
 ·obtain⟨m,nm,y,v,ss,x,rfl,e1,e2,hs,k⟩:=h
  refine⟨_,(au (aO (aW (a_ K) (by rfl) T.bW bB (ae (ck (aG.mk' (esc:=aj dG) (N:=["machine","name"]) (own:=["own"]) (aI:=["name"]) (bD:=[1]) rfl rfl (by decide+kernel)) rfl (dN (aC (aD K) (pv 0) ak (λ_ _=>rfl))) (λ_ _ _ _=>(ay (i:=0) (show BK (["own","name"]:List Str) by decide+kernel) rfl (AW rfl))) (λ_ _ _ _=>(iF (aX jL (pv 0) (pv 1) (bj _)))) (λ_ _ _ _=>(pv 0))) ag)))),?_⟩
  have big:(10000:Nat)<=sizeLine:=by decide
  refine⟨_,rfl,m,_,_,.ref nm,rfl,rfl,.of e1,ax (j:=0) rfl,nm,rfl,⟨_,.of e2⟩,λC hC=>?_⟩
  refine fi (xs:=ss.map V.str) (λi σ H'=>∃v:Option V,σ=[v,some (.str x)]/\Same H H'/\H' C=some (.lst ((oth (ss.take i) x).map V.str)))
   ⟨none,?sg,Same.new hC,af⟩ (λi σ H' _ ⟨_,_,s,_⟩=>.of (s _ _ e2)) ?_ ?_
  case sg=>rfl
  ·rintro i z σ H' hx ⟨v,rfl,s',c'⟩
   rw[AJ] at hx
   obtain⟨t,et,rfl⟩:=A9.mp hx
   have hi:=(AD.mp et).1
   refine⟨_,rfl,_,rfl,rfl,_,rfl,?_⟩
   have tk:oth (ss.take (i+1)) x=oth (ss.take i) x++oth [t] x:=by unfold oth;rw[take_snoc et,Bd]
   refine cI (λz=>?_) (λz=>?_)
   ·have e3:oth [t] x=[t]:=by unfold oth;rw[Be,if_pos z];rfl
    refine⟨_,rfl,_,c',?_,_,rfl,s'.kbn hC KB.write,?_⟩
    ·rw[AA]
     have:=Bh (λs=> !decide (V.str s=V.str x)) (ss.take i)
     rw[Ao] at this
     show(oth (ss.take i) x).length<_
     unfold oth
     omega
    ·rw[af,tk,e3,AF];rfl
   ·have e3:oth [t] x=[]:=by unfold oth;rw[Be,if_neg z];rfl
    exact⟨_,rfl,s',by rw[c',tk,e3,BU]⟩
  rintro σ H1 ⟨v,rfl,s1,c1⟩
  rw[AA,Ay] at c1
  refine⟨C,_,rfl,.inl ⟨.of c1,λY hY=>?_⟩⟩
  have sY:=Same.new (o:=.tup ((oth ss x).map V.str)) hY
  exact k Y _ (s1.trans sY) af
def mr(f:Nat->Nat)(n i:Nat):List (List Nat):=(Ad n).map λt=>(Ad i).filter λr=>f r == t
theorem iR(f:Nat->Nat)(n i:Nat):(mr f n i).length=n:=by unfold mr;rw[AA,Aw]
theorem mS{f:Nat->Nat}{n i t:Nat}(h:t<n):(mr f n i)[t]? =some ((Ad i).filter λr=>f r == t):=by
 unfold mr
 rw[AJ,CA h];rfl
theorem MI{f:Nat->Nat}{n i:Nat}(h:f i<n):mr f n (i+1)=(mr f n i).set (f i) (((Ad i).filter λr=>f r == f i)++[i]):=by
 refine DD λt=>?_
 by_cases ht:t<n
 ·rw[mS ht]
  by_cases e:t=f i
  ·subst e
   rw[B9 (by rw[iR];exact h),BD,Bd]
   congr 2
   simp
  ·rw[CJ (Ck e),mS ht,BD,Bd]
   congr 1
   have:(f i == t)=false:=beq_false_of_ne (Ck e)
   simp[this]
 ·rw[BJ (by rw[iR];omega),BJ (by rw[EH,iR];omega)]
def bJ(b:Nat)(ss os:List Str):List (List Nat):=mr (own b ss os) (b ^ os.length) (b ^ ss.length)
def UA:Sp:=λvs H Q _=>∃(b:Nat) (m nm y v:Addr) (ss:List Str) (x:Str),vs=[.int b,.ref m,.str x]/\0<b/\b<=4/\H m=some (.tup [.ref nm,.ref y,.ref v])/\H nm=some (.tup (ss.map V.str))/\ss.length<=4/\
 ∀(t:Addr) (as:List Addr) (H':Hp),Same H H'->H' t=some (.lst (as.map V.ref))->bP H' as (bJ b ss (oth ss x))->Q (.ref t) H'
theorem pV(ss:List Str)(x:Str):(oth ss x).length<=ss.length:=Bh _ _
theorem dY:aU ["base","machine","name","others","over","letter","other"] ["base","machine","name"] (aj dg):=⟨rfl,rfl,rfl,by decide+kernel,rfl,by decide+kernel,by decide+kernel⟩
set_option maxHeartbeats 16000000 in
theorem sy{a:cb}(T:Txt K mg a):aV P w K mg base bK 3 a.gf a.iu ["base","machine","name"] UA:=by
 have jB:=mR (P:=P) (w:=w) (base:=base) T
 have fA:=iQ (P:=P) (w:=w) (base:=base) T
 have wm:=ui (P:=P) (w:=w) (base:=base) T
 refine T.tZ.ok dY (λvs H Q E h=>?_) (λcdv A outer s H vs Q E hr h=>?_)
 ·obtain⟨b,m,nm,y,v,ss,x,rfl,_⟩:=h
  rfl
 ·obtain⟨b,m,nm,y,v,ss,x,rfl,hb0,hb4,e1,e2,hs,k⟩:=h
  have iS:aQ 1 _:=hr.mono (by decide)
  have eU:aQ 1 _:=hr.mono (by decide)
  have uk:aQ 2 _:=hr
  refine⟨_,(ah (av (i:=3) dY.nd rfl (AW rfl) (aE jB iS rfl T.oo T.oq T.ot .nil aN (ae (pv 1) (ae (pv 2) ag))))
  (ah (cO (i:=4) (aG.mk' (esc:=aj dg) (N:=["base","machine","name","others","over","letter","other"]) (own:=["letter"]) (aI:=[]) (bD:=[]) rfl rfl (by decide+kernel)) rfl (bM (aE fA eU rfl T.jx T.jy T.jz .nil aN (ae (pv 0) (ae (aF (aP K) (by rfl) T.cg bI (ae (pv 3) ag)) ag)))) (λ_ _ _ _=>(ay (i:=0) (show BK (["letter"]:List Str) by decide+kernel) rfl (AW rfl))) (λ_ _ _ _=>br) (λ_ _ _ _=>(bt ag)) dY.nd rfl rfl)
  (ah (aY Af rfl (Rh rfl T.mq (ae (aE wm uk rfl T.vV T.vW T.vX .nil aN (ae (pv 0) (ae (aC (aD K) (pv 1) ak (λ_ _=>rfl)) (ae (pv 3) ag)))) ag)) (oH rfl (dD (ay (i:=5) dY.nd rfl (AW rfl)) (dD (ay (i:=6) dY.nd rfl (AW rfl)) jZ)))
   (au (bG (cC Ai Au Av bz (aC (bo K) (pv 4) (pv 6) (λ_ _=>rfl)) (ae (pv 5) ag)))))
  (au (aO (pv 4)))))),?_⟩
  have big:(10000:Nat)<=sizeLine:=by decide
  refine⟨_,rfl,_,rfl,m,nm,y,v,ss,x,rfl,e1,e2,hs,λN H1 s1 eN=>?_⟩
  have ho:=pV ss x
  generalize hos:oth ss x=os at eN ho k ⊢
  have Zy:∀t∈os,t∈ss:=λt ht=>by rw[<-hos] at ht;exact(RP.mp ht).1
  have hB:b ^ os.length<=256:=cL hb4 (by omega)
  have hB2:b ^ ss.length<=256:=cL hb4 (by omega)
  dsimp only[az]
  refine⟨_,rfl,_,rfl,_,os.length,rfl,.inr ⟨_,.of eN,by rw[AA]⟩,b,os.length,rfl,hb4,by omega,λD0 Uu H2 se s2 e3 t3=>?_⟩
  have l0:Uu.length=b ^ os.length:=by rw[As t3,fq]
  have s12:=s1.trans s2
  refine⟨D0,rfl,⟨_,.of e3⟩,λL hL=>?_⟩
  refine cR (xs:=Uu.map V.ref) (λj σ H'=>∃(v:Option V) (as:List Addr),σ=[v]/\Same H2 H'/\H' L=some (.lst (as.map V.ref))/\as.length=j/\(∀b∈as,H2 b=none)/\as.Nodup/\L ∉ as/\bP H' as ((Ad j).map λ_=>[]))
   ⟨none,[],?sg,Same.new hL,af,rfl,λb hb=>(by cases hb),by simp,by simp,.nil⟩ (λj σ H' _ ⟨_,_,_,s',_⟩=>.of (s' _ _ e3)) ?_ ?_
  case sg=>rfl
  ·rintro j y σ H1 hy ⟨v,as,rfl,s1,l1,la,fr,nd,nl,ls⟩
   have hj:j<b ^ os.length:=by
    have:=(AD.mp hy).1
    rw[AA,l0] at this;exact this
   refine⟨by show 0<=sizeLine;omega,λb hb=>?_⟩
   have MJ:L≠b:=aq l1 hb
   have sb:=Same.new (o:=.lst []) hb
   have bn:b ∉ as:=λz=>by obtain⟨l,e⟩:=ls.mem z;rw[hb] at e;cases e
   refine⟨_,sb _ _ l1,by rw[AA];omega,_,as++[b],rfl,(s1.trans sb).kbn hL KB.write,by rw[af,AF];rfl,by rw[AH,la];rfl,λc hc=>?_,?_,?_,?_⟩
   ·rcases AS.mp hc with z | z
    ·exact fr c z
    ·rw[AI.mp z];exact s1.free hb
   ·rw[BR]
    exact⟨nd,by simp,λx hx y hy e=>bn (by rw[<-AI.mp hy,<-e];exact hx)⟩
   ·intro z
    rcases AS.mp z with z | z
    ·exact nl z
    ·exact MJ (AI.mp z)
   ·rw[BD,AF]
    refine bP.snoc (ls.keep λc hc o q=>?_) ?_
    ·rw[ao (λz:c=L=>nl (z▸hc))];exact sb _ _ q
    ·rw[ao MJ.symm,af];rfl
  rintro σ H3 ⟨v3,as,rfl,s3,l3,la,fr,nd,nl,ls⟩
  rw[AA,l0] at la ls
  have e0:((Ad (b ^ os.length)).map λ_=>([]:List Nat))=mr (own b ss os) (b ^ os.length) 0:=by unfold mr;simp
  rw[e0] at ls
  dsimp only[az]
  have qq:=s12.trans s3
  refine⟨_,rfl,_,rfl,m,_,_,.ref nm,rfl,rfl,.of (qq _ _ e1),ax (j:=0) rfl,_,rfl,b,nm,N,ss,os,rfl,hb0,hb4,hs,qq _ _ e2,(s2.trans s3) _ _ eN,by omega,Zy,λO H4 hO s4 eO=>?_⟩
  refine⟨_,rfl,⟨_,.of eO⟩,?_⟩
  have lT:=s3.trans s4
  refine NW (xs:=(ai (nS b ss os)).map V.int) (λi σ H'=>∃v5 v6:Option V,σ=[some (.int (b:Nat)),some (.ref m),some (.str x),some (.ref N),some (.ref L),v5,v6]/\Same H2 H'/\H' O=some (.lst ((ai (nS b ss os)).map V.int))/\H' L=some (.lst (as.map V.ref))/\bP H' as (mr (own b ss os) (b ^ os.length) i))
   ⟨none,none,rfl,lT,eO,s4 _ _ l3,ls.keep λc _ o q=>s4 _ _ q⟩ (λi σ H' _ ⟨_,_,_,_,o',_⟩=>.of o') ?_ ?_
  ·rintro i y p σ H5 hy ⟨v5,v6,rfl,s5,o5,l5,mT⟩ hp
   have hi:i<b ^ ss.length:=by
    have:=(AD.mp hy).1
    rw[AA,aB,qW] at this;exact this
   rw[cG (by rw[qW];exact hi)] at hy
   have hy':=AZ hy
   subst hy'
   have sp:=Same.new (o:=.tup [.int (i:Nat),.int ((nS b ss os).getD i 0:Nat)]) hp
   have hst:own b ss os i<b ^ os.length:=Uz hb0 hi
   obtain⟨c,hc⟩:∃c,as[own b ss os i]? =some c:=⟨_,Ag (by rw[la];exact hst)⟩
   obtain⟨l,el,hl⟩:=mT.at hc
   rw[mS hst] at el
   have XS:=AZ el
   have bL:L≠c:=λz=>nl (z▸AL hc)
   have JQ:H2 c=none:=fr c (AL hc)
   have bO:O≠c:=λz=>by
    rw[<-z] at hl
    have z1:H3 O=none:=hO
    obtain⟨l9,e9⟩:=ls.mem (AL hc)
    rw[<-z,z1] at e9;cases e9
   refine⟨p,_,rfl,.of af,rfl,_,_,rfl,_,_,rfl,rfl,?_⟩
   refine⟨_,rfl,_,rfl,L,_,_,V.ref c,rfl,rfl,.of (sp _ _ l5),ax (by rw[AJ];exact congrArg (Option.map V.ref) hc),AW ⟨rfl,_,.of (sp _ _ hl)⟩,_,rfl,c,_,_,rfl,rfl,sp _ _ hl,?_,?_⟩
   ·rw[AA,aB,<-XS]
    have:=Bh (λr=>own b ss os r == own b ss os i) (Ad i)
    rw[Aw] at this
    omega
   ·refine⟨_,_,rfl,(s5.trans sp).kbn JQ KB.write,by rw[ao bO];exact sp _ _ o5,by rw[ao bL];exact sp _ _ l5,?_⟩
    rw[MI hst,XS]
    have:=bP.set (l:=l++[i]) (mT.keep λc _ o q=>sp c o q) nd hc
    rw[aR,AF] at this
    exact this
  ·rintro σ H5 ⟨v5,v6,rfl,s5,o5,l5,mT⟩
   rw[AA,aB,qW] at mT
   refine⟨_,rfl,k L as H5 (s12.trans s5) l5 ?_⟩
   exact mT
structure pA (n:Nat)(mv:List (List Nat))(cs:List Nat)(i j:Nat)(dZ:List (List Nat)):Prop where
 len:dZ.length=n
 size:∀(u:Nat) (l:List Nat),dZ[u]? =some l->l.length<=i*cs.length+j
 mem:∀(u:Nat) (l:List Nat),dZ[u]? =some l->∀r,r∈l↔(r<i/\∃c∈cs,stp mv r c=u)∨(r=i/\∃c∈cs.take j,stp mv i c=u)
theorem pA.begin{n:Nat}{mv:List (List Nat)}{cs:List Nat}:pA n mv cs 0 0 ((Ad n).map λ_=>[]):=by
 refine⟨by simp,λu l h=>?_,λu l h r=>?_⟩
 ·rw[AJ] at h
  obtain⟨_,_,rfl⟩:=A9.mp h
  simp
 ·rw[AJ] at h
  obtain⟨_,_,rfl⟩:=A9.mp h
  simp
theorem pA.put{n:Nat}{mv:List (List Nat)}{cs:List Nat}{i j c:Nat}{dZ:List (List Nat)}{l:List Nat}(h:pA n mv cs i j dZ)(hc:cs[j]? =some c)(hl:dZ[stp mv i c]? =some l):pA n mv cs i (j+1) (dZ.set (stp mv i c) (l++[i])):=by
 have hlt:=(AD.mp hl).1
 have tk:∀P:Nat->Prop,(∃x∈cs.take (j+1),P x)↔(∃x∈cs.take j,P x)∨P c:=λP=>by
  rw[take_snoc hc]
  constructor
  ·rintro⟨x,hx,p⟩
   rcases AS.mp hx with z | z
   ·exact .inl ⟨x,z,p⟩
   ·rw[AI.mp z] at p;exact .inr p
  ·rintro(⟨x,hx,p⟩ | p)
   ·exact⟨x,AS.mpr (.inl hx),p⟩
   ·exact⟨c,AS.mpr (.inr (AI.mpr rfl)),p⟩
 refine⟨by rw[EH];exact h.len,λu m hm=>?_,λu m hm r=>?_⟩
 ·by_cases e:stp mv i c=u
  ·subst e
   rw[B9 hlt] at hm
   have:=AZ hm
   subst this
   have:=h.size _ _ hl
   rw[AH,Dm];omega
  ·rw[CJ e] at hm
   have:=h.size _ _ hm
   omega
 ·rw[tk]
  by_cases e:stp mv i c=u
  ·subst e
   rw[B9 hlt] at hm
   have:=AZ hm
   subst this
   rw[AS,h.mem _ _ hl r,AI]
   constructor
   ·rintro((z | ⟨z,y⟩) | z)
    ·exact .inl z
    ·exact .inr ⟨z,.inl y⟩
    ·exact .inr ⟨z,.inr rfl⟩
   ·rintro(z | ⟨z,y | y⟩)
    ·exact .inl (.inl z)
    ·exact .inl (.inr ⟨z,y⟩)
    ·exact .inr z
  ·rw[CJ e] at hm
   rw[h.mem _ _ hm r]
   refine or_congr IH (and_congr IH ?_)
   exact⟨.inl,λz=>z.elim id λy=>absurd y e⟩
theorem pA.next{n:Nat}{mv:List (List Nat)}{cs:List Nat}{i:Nat}{dZ:List (List Nat)}(h:pA n mv cs i cs.length dZ):pA n mv cs (i+1) 0 dZ:=by
 refine⟨h.len,λu l hl=>?_,λu l hl r=>?_⟩
 ·have:=h.size u l hl
  rw[IC,ID];omega
 ·rw[h.mem u l hl r,Ay,Ef]
  constructor
  ·rintro(⟨z,y⟩ | ⟨z,y⟩)
   ·exact .inl ⟨by omega,y⟩
   ·subst z;exact .inl ⟨by omega,y⟩
  ·rintro(⟨z,y⟩ | ⟨_,_,z,_⟩)
   ·by_cases e:r=i
    ·subst e;exact .inr ⟨rfl,y⟩
    ·exact .inl ⟨by omega,y⟩
   ·cases z
def iB(H:Hp)(m nm y v:Addr)(ps:List Addr)(bs:List Bool)(mv:List (List Nat))(B:Nat):Prop:=H m=some (.tup [.ref nm,.ref y,.ref v])/\H y=some (.tup (bs.map V.bl))/\H v=some (.tup (ps.map V.ref))/\cx H ps (mv.map ai)/\Moves bs.length B mv
theorem iB.keep{H H':Hp}{m nm y v:Addr}{ps:List Addr}{bs:List Bool}{mv:List (List Nat)}{B:Nat}(h:iB H m nm y v ps bs mv B)(k:bF H H'):iB H' m nm y v ps bs mv B:=by
 obtain⟨h1,h2,h3,h4,h5⟩:=h
 exact⟨k _ _ h1,k _ _ h2,k _ _ h3,h4.keep k,h5⟩
def W2:Sp:=λvs H Q _=>∃(m nm y v lt:Addr) (ps:List Addr) (bs:List Bool) (mv:List (List Nat)) (B:Nat) (cs:List Nat),vs=[.ref m,.ref lt]/\iB H m nm y v ps bs mv B/\H lt=some (.lst ((ai cs).map V.int))/\(∀c∈cs,c<B)/\bs.length<=62/\cs.length<=300/\
 ∀(t:Addr) (as:List Addr) (dZ:List (List Nat)) (H':Hp),Same H H'->H' t=some (.lst (as.map V.ref))->bP H' as dZ->dZ.length=bs.length->(∀(u:Nat) (l:List Nat),dZ[u]? =some l->l.length<=20000/\∀r,r∈l↔r<bs.length/\∃c∈cs,stp mv r c=u)->Q (.ref t) H'
theorem d_:aU ["machine","letters","before","room","leads","letter"] ["machine","letters"] (aj dh):=⟨rfl,rfl,rfl,by decide+kernel,rfl,by decide+kernel,by decide+kernel⟩
set_option maxHeartbeats 16000000 in
theorem sA{a:cb}(T:Txt K mg a):aV P w K mg base bK 1 a.gg a.iw ["machine","letters"] W2:=by
 refine T.t9.ok d_ (λvs H Q E h=>?_) (λcdv A outer s H vs Q E hr h=>?_)
 ·obtain⟨m,nm,y,v,lt,ps,bs,mv,B,cs,rfl,_⟩:=h
  rfl
 ·obtain⟨m,nm,y,v,lt,ps,bs,mv,B,cs,rfl,⟨e1,e2,e3,tp,cD⟩,elt,hcs,hn,hc3,k⟩:=h
  refine⟨_,(ah (cO (i:=2) (aG.mk' (esc:=aj dh) (N:=["machine","letters","before","room","leads","letter"]) (own:=["room"]) (aI:=[]) (bD:=[]) rfl rfl (by decide+kernel)) rfl (dN (aC (aD K) (pv 0) ak (λ_ _=>rfl))) (λ_ _ _ _=>(ay (i:=0) (show BK (["room"]:List Str) by decide+kernel) rfl (AW rfl))) (λ_ _ _ _=>br) (λ_ _ _ _=>(bt ag)) d_.nd rfl rfl)
  (ah (aY Af rfl (xk rfl T.mq (ae (aC (aD K) (pv 0) ak (λ_ _=>rfl)) ag)) (oH rfl (dD (ay (i:=3) d_.nd rfl (AW rfl)) (dD (ay (i:=4) d_.nd rfl (AW rfl)) jZ)))
   (au (aY Af rfl (bM (pv 1)) (ay (i:=5) d_.nd rfl (AW rfl))
    (au (bG (cC Ai Au Av bz (aC (bo K) (pv 2) (aC (aD K) (pv 4) (pv 5) (λ_ _=>rfl)) (λ_ _=>rfl)) (ae (pv 3) ag)))))))
  (au (aO (pv 2))))),?_⟩
  have big:(100000:Nat)<=sizeLine:=by decide
  have lps:ps.length=bs.length:=by rw[As tp,AA,cD.len]
  refine⟨_,rfl,m,_,_,.ref y,rfl,rfl,.of e1,ax (j:=1) rfl,y,rfl,⟨_,.of e2⟩,λL hL=>?_⟩
  refine fi (xs:=bs.map V.bl) (λj σ H'=>∃(v:Option V) (as:List Addr),σ=[v]/\Same H H'/\H' L=some (.lst (as.map V.ref))/\as.length=j/\(∀b∈as,H b=none)/\as.Nodup/\L ∉ as/\bP H' as ((Ad j).map λ_=>[]))
   ⟨none,[],?sg,Same.new hL,af,rfl,λb hb=>(by cases hb),by simp,by simp,.nil⟩ (λj σ H' _ ⟨_,_,_,s',_⟩=>.of (s' _ _ e2)) ?_ ?_
  case sg=>rfl
  ·rintro j y σ H1 hy ⟨v,as,rfl,s1,l1,la,fr,nd,nl,ls⟩
   have hj:j<bs.length:=by
    have:=(AD.mp hy).1
    rw[AA] at this;exact this
   refine⟨by show 0<=sizeLine;omega,λb hb=>?_⟩
   have MJ:L≠b:=aq l1 hb
   have sb:=Same.new (o:=.lst []) hb
   have bn:b ∉ as:=λz=>by obtain⟨l,e⟩:=ls.mem z;rw[hb] at e;cases e
   refine⟨_,sb _ _ l1,by rw[AA];omega,_,as++[b],rfl,(s1.trans sb).kbn hL KB.write,by rw[af,AF];rfl,by rw[AH,la];rfl,λc hc=>?_,?_,?_,?_⟩
   ·rcases AS.mp hc with z | z
    ·exact fr c z
    ·rw[AI.mp z];exact s1.free hb
   ·rw[BR]
    exact⟨nd,by simp,λx hx y hy e=>bn (by rw[<-AI.mp hy,<-e];exact hx)⟩
   ·intro z
    rcases AS.mp z with z | z
    ·exact nl z
    ·exact MJ (AI.mp z)
   ·rw[BD,AF]
    refine bP.snoc (ls.keep λc hc o q=>?_) ?_
    ·rw[ao (λz:c=L=>nl (z▸hc))];exact sb _ _ q
    ·rw[ao MJ.symm,af];rfl
  rintro σ H1 ⟨v0,as,rfl,s1,l1,la,fr,nd,nl,ls⟩
  rw[AA] at la ls
  dsimp only[az]
  refine⟨_,rfl,m,_,_,.ref v,rfl,rfl,.of (s1 _ _ e1),ax (j:=2) rfl,_,rfl,⟨_,.of (s1 _ _ e3)⟩,?_⟩
  refine K9 (xs:=ps.map V.ref) (λi σ H'=>∃(v3 v4 v5:Option V) (dZ:List (List Nat)),σ=[some (.ref m),some (.ref lt),some (.ref L),v3,v4,v5]/\Same H H'/\H' L=some (.lst (as.map V.ref))/\bP H' as dZ/\pA bs.length mv cs i 0 dZ)
   ⟨none,none,none,_,rfl,s1,l1,ls,pA.begin⟩ (λi σ H' _ ⟨_,_,_,_,_,s',_⟩=>.of (s' _ _ e3)) ?_ ?_
  ·rintro i z p σ H2 hy ⟨v3,v4,v5,dZ,rfl,s2,l2,mU,Ic⟩ hp
   obtain⟨q,rfl,eq⟩:=mO hy
   have hi:i<bs.length:=by rw[<-lps];exact(AD.mp eq).1
   obtain⟨r1,r2,r3⟩:=cD.row (tp.keep s2.kt) hi
   rw[r1] at eq
   have eq':=AZ eq
   subst eq'
   have sp:=Same.new (o:=.tup [.int (i:Nat),.ref (ps.getD i 0)]) hp
   refine⟨p,_,rfl,.of af,rfl,_,_,rfl,_,_,rfl,rfl,?_⟩
   have XT:=s2.trans sp
   refine⟨_,rfl,_,rfl,⟨_,.of (XT _ _ elt)⟩,?_⟩
   refine gN (xs:=(ai cs).map V.int) (λj σ H'=>∃(v5:Option V) (dZ:List (List Nat)),σ=[some (.ref m),some (.ref lt),some (.ref L),some (.int (i:Nat)),some (.ref (ps.getD i 0)),v5]/\Same H H'/\H' L=some (.lst (as.map V.ref))/\bP H' as dZ/\pA bs.length mv cs i j dZ)
    ⟨_,_,rfl,XT,sp _ _ l2,mU.keep λc _ o q=>sp _ _ q,Ic⟩ (λj σ H' _ ⟨_,_,_,s',_⟩=>.of (s' _ _ elt)) ?_ ?_
   ·rintro j z σ H3 hz ⟨v5,bs3,rfl,s3,l3,Qm,MK⟩
    have hj:j<cs.length:=by
     have:=(AD.mp hz).1
     rw[AA,aB] at this;exact this
    rw[cG hj] at hz
    have hz':=AZ hz
    subst hz'
    have ej:=item_at 0 hj
    have hcB:=hcs _ (AL ej)
    obtain⟨_,x2,_⟩:=cD.row (tp.keep s3.kt) hi
    have hst:=cD.stp hi hcB
    have ex:((ai (mv.getD i [])).map V.int)[cs.getD j 0]? =some (.int (stp mv i (cs.getD j 0):Nat)):=cG (by rw[r3];exact hcB)
    obtain⟨b,hb⟩:∃b,as[stp mv i (cs.getD j 0)]? =some b:=⟨_,Ag (by rw[la];exact hst)⟩
    obtain⟨l,el,hl⟩:=Qm.at hb
    have bL:L≠b:=λz=>nl (z▸AL hb)
    have JQ:H b=none:=fr b (AL hb)
    have lz:=MK.size _ _ el
    have iz:i*cs.length<=62*300:=DS (by omega) hc3
    refine⟨_,rfl,_,rfl,_,rfl,_,_,_,_,rfl,rfl,.of x2,ax ex,L,_,_,V.ref b,rfl,rfl,.of l3,ax (by rw[AJ,hb];rfl),AW ⟨rfl,_,.of hl⟩,_,rfl,b,_,_,rfl,rfl,hl,?_,?_⟩
    ·rw[AA,aB];omega
    ·refine⟨_,_,rfl,s3.kbn JQ KB.write,by rw[ao bL];exact l3,?_,MK.put ej el⟩
     have:=bP.set (l:=l++[i]) Qm nd hb
     rw[aR,AF] at this
     exact this
   ·rintro σ H3 ⟨v5,bs3,rfl,s3,l3,Qm,MK⟩
    rw[AA,aB] at MK
    exact⟨_,_,_,_,rfl,s3,l3,Qm,MK.next⟩
  ·rintro σ H2 ⟨v3,v4,v5,dZ,rfl,s2,l2,mU,Ic⟩
   rw[AA,lps] at Ic
   refine⟨_,rfl,k L as dZ H2 s2 l2 mU Ic.len λu l hl=>⟨?_,λr=>?_⟩⟩
   ·have:=Ic.size u l hl
    have iz:bs.length*cs.length<=62*300:=DS hn hc3
    omega
   ·rw[Ic.mem u l hl r]
    exact⟨λz=>z.elim id λ⟨_,_,y,_⟩=>(by rw[Ef] at y;cases y),AW⟩
def iT(bs:List Bool)(mv:List (List Nat))(cs:List Nat)(r:Nat):Prop:=∃z:List Nat,(∀c∈z,c∈cs)/\lang bs mv r z=true
structure Go (bs:List Bool)(mv:List (List Nat))(cs:List Nat)(X:Nat->Prop)(can:List Bool)(wa:List Nat):Prop where
 len:can.length=bs.length
 wl:∀r∈wa,r<bs.length/\can.getD r false=true
 yes:∀r,bs.getD r false=true->can.getD r false=true
 good:∀r,r<bs.length->can.getD r false=true->iT bs mv cs r
 shut:∀t,t<bs.length->can.getD t false=true->t ∉ wa->¬X t->∀r,r<bs.length->∀c∈cs,stp mv r c=t->can.getD r false=true
theorem Go.begin{bs:List Bool}{mv:List (List Nat)}{cs:List Nat}{wa:List Nat}(h:∀r,r∈wa↔r<bs.length/\bs.getD r false=true):Go bs mv cs (λ_=>False) bs wa:=
 ⟨rfl,λr hr=>(h r).mp hr,λ_ e=>e,λr hr e=>⟨[],λ_ z=>(by cases z),e⟩,λt ht e n=>absurd ((h t).mpr ⟨ht,e⟩) n⟩
theorem Go.pop{bs:List Bool}{mv:List (List Nat)}{cs:List Nat}{can:List Bool}{wa:List Nat}{t:Nat}(g:Go bs mv cs (λ_=>False) can (wa++[t])):Go bs mv cs (λu=>u=t) can wa:=by
 refine⟨g.len,λr hr=>g.wl r (AS.mpr (.inl hr)),g.yes,g.good,λu hu e n nt=>g.shut u hu e (λz=>?_) id⟩
 rcases AS.mp z with y | y
 ·exact n y
 ·exact nt (AI.mp y)
theorem lU{can:List Bool}{r t:Nat}(h:r<can.length):(can.set r true).getD t false=if t=r then true else can.getD t false:=by
 rw[AQ,AQ]
 by_cases e:t=r
 ·subst e;rw[B9 h,if_pos rfl];rfl
 ·rw[CJ (Ck e),if_neg e]
theorem Go.add{bs:List Bool}{mv:List (List Nat)}{cs:List Nat}{can:List Bool}{wa:List Nat}{t r c:Nat}(g:Go bs mv cs (λu=>u=t) can wa)(ht:t<bs.length)(ct:can.getD t false=true)(hr:r<bs.length)(hc:c∈cs)(e:stp mv r c=t):Go bs mv cs (λu=>u=t) (can.set r true) (wa++[r]):=by
 have gd:∀u,(can.set r true).getD u false=if u=r then true else can.getD u false:=λu=>lU (by rw[g.len];exact hr)
 have up:∀u,can.getD u false=true->(can.set r true).getD u false=true:=by
  intro u h
  rw[gd]
  by_cases z:u=r
  ·rw[if_pos z]
  ·rw[if_neg z];exact h
 refine⟨by rw[EH];exact g.len,λu hu=>?_,λu h=>up u (g.yes u h),λu hu h=>?_,λu hu h n nt q hq d hd eq=>?_⟩
 ·rcases AS.mp hu with z | z
  ·exact⟨(g.wl u z).1,up u (g.wl u z).2⟩
  ·rw[AI.mp z];exact⟨hr,by rw[gd,if_pos rfl]⟩
 ·rw[gd] at h
  by_cases z:u=r
  ·subst z
   obtain⟨x,h1,h2⟩:=g.good t ht ct
   refine⟨c::x,λd hd=>(Ak.mp hd).elim (λy=>y▸hc) (h1 d),?_⟩
   show lang bs mv (stp mv u c) x=true
   rw[e];exact h2
  ·rw[if_neg z] at h;exact g.good u hu h
 ·have nr:u≠r:=λz=>n (AS.mpr (.inr (AI.mpr z)))
  rw[gd,if_neg nr] at h
  exact up q (g.shut u hu h (λz=>n (AS.mpr (.inl z))) nt q hq d hd eq)
theorem Go.done{bs:List Bool}{mv:List (List Nat)}{cs:List Nat}{can:List Bool}{wa:List Nat}{t:Nat}(g:Go bs mv cs (λu=>u=t) can wa)(h:∀r,r<bs.length->∀c∈cs,stp mv r c=t->can.getD r false=true):Go bs mv cs (λ_=>False) can wa:=
 ⟨g.len,g.wl,g.yes,g.good,λu hu e n _=>by
  by_cases z:u=t
  ·subst z;exact h
  ·exact g.shut u hu e n z⟩
theorem Go.fin{bs:List Bool}{mv:List (List Nat)}{cs:List Nat}{can:List Bool}{B:Nat}(m:Moves bs.length B mv)(hcs:∀c∈cs,c<B)(g:Go bs mv cs (λ_=>False) can []):∀r,r<bs.length->(can.getD r false=true↔iT bs mv cs r):=by
 have h:∀(z:List Nat) (r:Nat),r<bs.length->(∀c∈z,c∈cs)->lang bs mv r z=true->can.getD r false=true:=λz=>by
  induction z with
  | nil=>intro r hr _ e;exact g.yes r e
  | cons c z ih=>
   intro r hr hz e
   have hc:=hz c Aa
   have hst:=m.stp hr (hcs c hc)
   exact g.shut _ hst (ih _ hst (λd hd=>hz d (AV _ hd)) e) (λz=>nomatch z) id r hr c hc rfl
 exact λr hr=>⟨g.good r hr,λ⟨z,h1,h2⟩=>h z r hr h1 h2⟩
def Zz:Sp:=λvs H Q _=>∃(m nm y v lt:Addr) (ps:List Addr) (bs:List Bool) (mv:List (List Nat)) (B:Nat) (cs:List Nat),vs=[.ref m,.ref lt]/\iB H m nm y v ps bs mv B/\H lt=some (.lst ((ai cs).map V.int))/\(∀c∈cs,c<B)/\bs.length<=62/\cs.length<=300/\
 ∀(C:Addr) (can:List Bool) (H':Hp),Same H H'->H' C=some (.lst (can.map V.bl))->can.length=bs.length->(∀r,r<bs.length->(can.getD r false=true↔iT bs mv cs r))->Q (.ref C) H'
theorem fG:aU ["machine","letters","before","can","waiting","reached","room"] ["machine","letters"] (aj fk):=⟨rfl,rfl,rfl,by decide+kernel,rfl,by decide+kernel,by decide+kernel⟩
set_option maxHeartbeats 16000000 in
theorem yX{a:cb}(T:Txt K mg a):aV P w K mg base bK 2 a.jN a.mj ["machine","letters"] Zz:=by
 have um:=sA (P:=P) (w:=w) (base:=base) T
 refine T.Jy.ok fG (λvs H Q E h=>?_) (λcdv A outer s H vs Q E hr h=>?_)
 ·obtain⟨m,nm,y,v,lt,ps,bs,mv,B,cs,rfl,_⟩:=h
  rfl
 ·obtain⟨m,nm,y,v,lt,ps,bs,mv,B,cs,rfl,gw,elt,hcs,hn,hc3,k⟩:=h
  have sG:aQ 1 _:=hr
  refine⟨_,(ah (av (i:=2) fG.nd rfl (AW rfl) (aE um sG rfl T.ua T.ub T.uc .nil aN (ae (pv 0) (ae (pv 1) ag))))
  (ah (av (i:=3) fG.nd rfl (AW rfl) (aW (nj K) (by rfl) T.mN j0 (ae (aC (aD K) (pv 0) ak (λ_ _=>rfl)) ag)))
  (ah (cO (i:=4) (aG.mk' (esc:=aj fk) (N:=["machine","letters","before","can","waiting","reached","room"]) (own:=["room","yes"]) (aI:=[]) (bD:=[]) rfl rfl (by decide+kernel)) rfl (xk rfl T.mq (ae (aC (aD K) (pv 0) ak (λ_ _=>rfl)) ag)) (λ_ _ _ _=>(zH K (n:=2) rfl (dD (ay (i:=0) (show BK (["room","yes"]:List Str) by decide+kernel) rfl (AW rfl)) (dD (ay (i:=1) (show BK (["room","yes"]:List Str) by decide+kernel) rfl (AW rfl)) jZ)))) (λ_ _ _ _=>(iF (oX K (pv 1) (λ_=>rfl)))) (λ_ _ _ _=>(pv 0)) fG.nd rfl rfl)
  (ah (fg Af (fJ (pv 4) (λ_=>rfl))
   (ah (av (i:=5) fG.nd rfl (AW rfl) (KQ Ai Gw Gx KR (pv 4)))
   (au (aY Af rfl (bM (aC (bo K) (pv 2) (pv 5) (λ_ _=>rfl))) (ay (i:=6) fG.nd rfl (AW rfl))
    (au (cM (wK (fJ (aC (bo K) (pv 3) (pv 6) (λ_ _=>rfl)) (λ_=>rfl)))
     (ah (rl kU (Ky (pv 3) (pv 6) set_list))
     (au (bG (cC Ai Au Av bz (pv 4) (ae (pv 6) ag)))))
     bQ))))))
  (au (aO (pv 3))))))),?_⟩
  have big:(100000:Nat)<=sizeLine:=by decide
  refine aA λY hY=>?_
  refine⟨_,rfl,_,rfl,m,nm,y,v,lt,ps,bs,mv,B,cs,rfl,gw,elt,hcs,hn,hc3,λt as dZ H1 s1 e1 Ie lb ZA=>?_⟩
  obtain⟨a1,a2,a3,tp,cD⟩:=gw
  dsimp only[az]
  subst hY
  refine aA λY hY=>?_
  refine⟨_,rfl,m,_,_,.ref y,rfl,rfl,.of (s1 _ _ a1),ax (j:=1) rfl,y,_,rfl,.inr (.of (s1 _ _ a2)),λC hC=>?_⟩
  have sC:=Same.new (o:=.lst (bs.map V.bl)) hC
  have s2:=s1.trans sC
  dsimp only[az]
  subst hY
  refine aA λY hY=>?_
  refine⟨_,rfl,m,_,_,.ref y,rfl,rfl,.of (s2 _ _ a1),ax (j:=1) rfl,_,rfl,⟨_,.of (s2 _ _ a2)⟩,λD hD=>?_⟩
  generalize hH2:upd H1 C (.lst (bs.map V.bl))=H2 at sC s2 hD ⊢
  have eC:H2 C=some (.lst (bs.map V.bl)):=by rw[<-hH2];exact af
  have mU:bP H2 as dZ:=Ie.keep λb _ o q=>sC _ _ q
  have e2:=sC _ _ e1
  refine Jl (xs:=bs.map V.bl) (λi σ H'=>∃v0 v1:Option V,σ=[v0,v1]/\Same H2 H'/\H' D=some (.lst ((ai ((Ad i).filter λr=>bs.getD r false)).map V.int)))
   ⟨none,none,?sg,Same.new hD,af⟩ (λi σ H' _ ⟨_,_,_,s,_⟩=>.of (s _ _ (s2 _ _ a2))) ?_ ?_
  case sg=>rfl
  ·rintro i x p σ H3 hx ⟨v0,v1,rfl,s3,d3⟩ hp
   obtain⟨tv,rfl,et⟩:=qT hx
   have hi:=(AD.mp et).1
   have sp:=Same.new (o:=.tup [.int (i:Nat),.bl tv]) hp
   have XU:bs.getD i false=tv:=by rw[AQ,et];rfl
   refine⟨p,_,rfl,.of af,rfl,_,_,rfl,_,_,rfl,rfl,?_⟩
   refine⟨_,rfl,tv,rfl,?_⟩
   refine cI (λz=>?_) (λz=>?_)
   ·refine⟨_,rfl,_,sp _ _ d3,?_,_,_,rfl,(s3.trans sp).kbn hD KB.write,?_⟩
    ·rw[AA,aB]
     have:=Bh (λr=>bs.getD r false) (Ad i)
     rw[Aw] at this
     omega
    ·rw[af,BD,Bd,Be,if_pos (by rw[XU];exact z),aR,AF];rfl
   ·exact⟨_,_,rfl,s3.trans sp,by rw[BD,Bd,Be,if_neg (by rw[XU];exact z),Cg,BU];exact sp _ _ d3⟩
  rintro σ H3 ⟨v0,v1,rfl,s3,d3⟩
  rw[AA] at d3
  dsimp only[az]
  subst hY
  have fC:H C=none:=s1.free hC
  have fD:H D=none:=s2.free hD
  have UB:C≠D:=aq eC hD
  have XW:C ∉ as:=λz=>by obtain⟨l,q⟩:=Ie.mem z;rw[hC] at q;cases q
  have UC:D ∉ as:=λz=>by obtain⟨l,q⟩:=mU.mem z;rw[hD] at q;cases q
  have tC:t≠C:=aq e1 hC
  have tD:t≠D:=aq e2 hD
  refine aA λY hY=>?_
  refine j1 (λM σ H'=>∃(v5 v6:Option V) (can:List Bool) (wa:List Nat),M=2*can.count false+wa.length/\σ=[some (.ref m),some (.ref lt),some (.ref t),some (.ref C),some (.ref D),v5,v6]/\Same H H'/\H' t=some (.lst (as.map V.ref))/\bP H' as dZ/\H' C=some (.lst (can.map V.bl))/\H' D=some (.lst ((ai wa).map V.int))/\Go bs mv cs (λ_=>False) can wa/\2*can.count false+wa.length<=1000)
   ⟨_,none,none,bs,_,rfl,rfl,s2.trans s3,s3 _ _ e2,mU.keep λb _ o q=>s3 _ _ q,s3 _ _ eC,d3,Go.begin λr=>?b,?c⟩ ?_ (λσ H Q Q' h ⟨v,e,k,t,q⟩=>⟨v,e,k,t,h _ _ q⟩)
  case b=>rw[Bc,A_]
  case c=>
   have h1:=Bh (λr=>bs.getD r false) (Ad bs.length)
   rw[Aw] at h1
   have h2:bs.count false<=bs.length:=HF
   omega
  ·rintro M σ H4 N hN ⟨v5,v6,can,wa,rfl,rfl,s4,t4,ls4,c4,d4,Qn,hM⟩
   refine⟨_,rfl,_,.inl ⟨_,.of d4,rfl⟩,?_⟩
   rcases Ei wa with rfl | ⟨oz,u,eW⟩
   ·refine cX ?_
    subst hY
    exact⟨_,rfl,k C can H4 s4 c4 Qn.len (Qn.fin cD hcs)⟩
   rw[Ej] at eW
   subst eW
   have ne1:(!((ai (oz++[u])).map V.int).isEmpty)=true:=by rw[aR,AF];simp[ai]
   rw[ne1]
   refine fM ?_
   refine aA λY2 de=>?_
   obtain⟨hu,cu⟩:=Qn.wl u (BP _ (AI.mpr rfl))
   have go5:=Qn.pop
   refine⟨_,rfl,AW ⟨rfl,_,.of d4⟩,D,_,.int (u:Nat),rfl,rfl,d4,?_,?_⟩
   ·rw[aR,AF,AH,Ae (by simp[ai])]
    simp[ai]
   have edl:((ai (oz++[u])).map V.int).dropLast=(ai oz).map V.int:=by rw[aR,AF];exact List.dropLast_concat ..
   rw[edl]
   rw[AH,Dm] at hM hN
   have s5:Same H (upd H4 D (.lst ((ai oz).map V.int))):=s4.kbn fD KB.write
   have t5:(upd H4 D (.lst ((ai oz).map V.int))) t=some (.lst (as.map V.ref)):=by rw[ao tD];exact t4
   have mT:bP (upd H4 D (.lst ((ai oz).map V.int))) as dZ:=ls4.keep λb hb o q=>by rw[ao (λz:b=D=>UC (z▸hb))];exact q
   have c5:(upd H4 D (.lst ((ai oz).map V.int))) C=some (.lst (can.map V.bl)):=by rw[ao UB];exact c4
   have d5:(upd H4 D (.lst ((ai oz).map V.int))) D=some (.lst ((ai oz).map V.int)):=af
   generalize upd H4 D (.lst ((ai oz).map V.int))=H5 at s5 t5 mT c5 d5 ⊢
   dsimp only[az]
   subst de
   obtain⟨l,hl⟩:∃l,dZ[u]? =some l:=⟨_,Ag (by rw[lb];exact hu)⟩
   obtain⟨lsz,UD⟩:=ZA u l hl
   obtain⟨bb,hbb,ebb⟩:=mT.back hl
   have bbC:bb≠C:=λz=>XW (z▸AL hbb)
   have bbD:bb≠D:=λz=>UC (z▸AL hbb)
   refine⟨_,rfl,_,rfl,t,_,_,.ref bb,rfl,rfl,.of t5,ax (by rw[AJ,hbb];rfl),_,rfl,⟨_,.of ebb⟩,?_⟩
   refine g5 (xs:=(ai l).map V.int) (λj σ H'=>∃(v6:Option V) (cn:List Bool) (wa:List Nat),σ=[some (.ref m),some (.ref lt),some (.ref t),some (.ref C),some (.ref D),some (.int (u:Nat)),v6]/\Same H H'/\H' t=some (.lst (as.map V.ref))/\bP H' as dZ/\H' C=some (.lst (cn.map V.bl))/\H' D=some (.lst ((ai wa).map V.int))/\Go bs mv cs (λx=>x=u) cn wa/\cn.getD u false=true/\(∀r∈l.take j,cn.getD r false=true)/\2*cn.count false+wa.length<=2*can.count false+oz.length)
    ⟨_,can,oz,rfl,s5,t5,mT,c5,d5,go5,cu,λr hr=>(by rw[Ef] at hr;cases hr),AM _⟩ (λj σ H' _ ⟨_,_,_,_,_,_,ls',_⟩=>?g) ?_ ?_
   case g=>
    obtain⟨l2,q1,q2⟩:=ls'.at hbb
    rw[hl] at q1
    rw[AZ q1]
    exact .of q2
   ·rintro j z σ H6 N2 lQ hz ⟨v6,eV,ML,rfl,s6,t6,Qo,c6,d6,MM,Qp,Qq,XX⟩
    have hj:j<l.length:=by
     have:=(AD.mp hz).1
     rw[AA,aB] at this;exact this
    rw[cG hj] at hz
    have hz':=AZ hz
    subst hz'
    have ej:=item_at 0 hj
    generalize l.getD j 0=r at ej ⊢
    obtain⟨hrn,c,hc,est⟩:=(UD r).mp (AL ej)
    have lc:eV.length=bs.length:=MM.len
    have er:(eV.map V.bl)[r]? =some (.bl (eV.getD r false)):=by rw[AJ,item_at false (by rw[lc];exact hrn)];rfl
    refine⟨_,rfl,_,rfl,C,_,_,_,rfl,rfl,.of c6,ax er,_,rfl,?_⟩
    have tk:∀JR:List Bool,(∀x,eV.getD x false=true->JR.getD x false=true)->JR.getD r false=true->∀x∈l.take (j+1),JR.getD x false=true:=λJR up hr x hx=>by
     rw[take_snoc ej] at hx
     rcases AS.mp hx with y | y
     ·exact up x (Qq x y)
     ·rw[AI.mp y];exact hr
    cases oY:eV.getD r false with
    | true=>
     refine cX ?_
     exact lQ _ _ ⟨_,eV,ML,rfl,s6,t6,Qo,c6,d6,MM,Qp,tk eV (λ_ h=>h) oY,XX⟩
    | false=>
     refine fM ?_
     refine aA λY2 de=>?_
     have yd:r<eV.length:=by rw[lc];exact hrn
     have cnt:(eV.set r true).count false+1=eV.count false:=by
      have h1:=List.count_set (a:=true) (b:=false) yd
      have h2:eV[r]=false:=by
       rw[AQ,Ag yd] at oY
       exact oY
      have h3:0<eV.count false:=List.count_pos_iff.mpr (h2▸D4 yd)
      rw[h2] at h1
      simp at h1
      omega
     have nc:eV.count false<=eV.length:=HF
     refine⟨_,rfl,_,rfl,C,_,_,r,rfl,rfl,c6,by simp[oi,yd],?_⟩
     rw[show(eV.map V.bl).set r (.bl true)=(eV.set r true).map V.bl from(Hv ..).symm]
     have d7:(upd H6 C (.lst ((eV.set r true).map V.bl))) D=some (.lst ((ai ML).map V.int)):=by rw[ao UB.symm];exact d6
     subst de
     dsimp only
     refine⟨_,rfl,AW ⟨rfl,_,.of d7⟩,_,rfl,D,_,_,rfl,rfl,d7,by rw[AA,aB];omega,?_⟩
     refine lQ _ _ ⟨_,eV.set r true,ML++[r],rfl,(s6.kbn fC KB.write).kbn fD KB.write,by rw[ao tD,ao tC];exact t6,Qo.keep λb hb o q=>?_,by rw[ao UB];exact af,by rw[af,aR,AF];rfl,MM.add hu Qp hrn hc est,?_,tk _ ?_ ?_,?_⟩
     ·rw[ao (λz:b=D=>UC (z▸hb)),ao (λz:b=C=>XW (z▸hb))];exact q
     ·rw[lU yd]
      by_cases z:u=r
      ·rw[if_pos z]
      ·rw[if_neg z];exact Qp
     ·intro x hx
      rw[lU yd]
      by_cases z:x=r
      ·rw[if_pos z]
      ·rw[if_neg z];exact hx
     ·rw[lU yd,if_pos rfl]
     ·rw[AH,Dm];omega
   ·rintro σ H6 ⟨v6,eV,ML,rfl,s6,t6,Qo,c6,d6,MM,Qp,Qq,XX⟩
    rw[AA,aB,Ay] at Qq
    refine hN _ _ _ ?_ ⟨_,_,eV,ML,rfl,rfl,s6,t6,Qo,c6,d6,MM.done λr hr c hc e=>Qq r ((UD r).mpr ⟨hr,c,hc,e⟩),?_⟩<;>omega
theorem qr{ns:List Int}{l k:List Nat}(hp:ns.Perm (ai l))(hs:ns.Pairwise (· <= ·))(hk:k.Pairwise (· < ·))(hl:l.Nodup)(hm:∀r,r∈l↔r∈k):ns=ai k:=by
 have nk:k.Nodup:=hk.imp λh=>Ap h
 have pk:l.Perm k:=(List.perm_ext_iff_of_nodup hl nk).mpr hm
 refine List.Perm.eq_of_pairwise (le:=(· <= ·)) (λa b _ _ h1 h2=>Int.le_antisymm h1 h2) hs ?_ (hp.trans (pk.map _))
 unfold ai
 rw[List.pairwise_map]
 exact hk.imp λh=>by omega
def iC(kvs:List (Key×V))(ks:List Nat):Prop:=kvs.map (·.1)=(ai ks).map Bu/\ks.Nodup
theorem iC.has{kvs:List (Key×V)}{ks:List Nat}(h:iC kvs ks)(t:Nat):(kvs.any λkv=>decide (kv.1=Bu (t:Int)))=true↔t∈ks:=by
 rw[B_]
 constructor
 ·rintro⟨kv,hkv,e⟩
  have e:=of_decide_eq_true e
  have:kv.1∈(ai ks).map (Bu:Int->Key):=by rw[<-h.1];exact Ac.mpr ⟨kv,hkv,rfl⟩
  rw[e] at this
  obtain⟨z,hz,ez⟩:=Ac.mp this
  injection ez with ez
  unfold ai at hz
  obtain⟨q,hq,eq⟩:=Ac.mp hz
  have:q=t:=by omega
  exact this▸hq
 ·intro ht
  have:(Bu (t:Int):Key)∈kvs.map (·.1):=by
   rw[h.1]
   exact Ac.mpr ⟨(t:Int),Ac.mpr ⟨t,ht,rfl⟩,rfl⟩
  obtain⟨kv,hkv,e⟩:=Ac.mp this
  exact⟨kv,hkv,decide_eq_true e⟩
theorem iC.put{kvs:List (Key×V)}{ks:List Nat}(h:iC kvs ks)(t:Nat)(v:V):∃ks',iC (putK kvs (Bu (t:Int)) v) ks'/\∀r,r∈ks'↔r∈ks∨r=t:=by
 unfold putK
 by_cases ht:t∈ks
 ·refine⟨ks,⟨?_,h.2⟩,λr=>⟨.inl,λz=>z.elim id λe=>e▸ht⟩⟩
  rw[if_pos ((h.has t).mpr ht),<-h.1,Dc]
  refine Ci λkv _=>?_
  show(if kv.1=_ then(kv.1,v) else kv).1=kv.1
  split<;>rfl
 ·refine⟨ks++[t],⟨?_,?_⟩,λr=>by rw[AS,AI]⟩
  ·rw[if_neg λz=>ht ((h.has t).mp z),AF,h.1,aR,AF];rfl
  ·rw[BR]
   exact⟨h.2,by simp,λa ha b hb e=>ht (by rw[<-AI.mp hb,<-e];exact ha)⟩
theorem iC.len{kvs:List (Key×V)}{ks:List Nat}(h:iC kvs ks):kvs.length=ks.length:=by
 have:=congrArg Fu h.1
 rwa [AA,AA,aB] at this
def gV(mv:List (List Nat))(n:Nat)(S cs:List Nat):List Nat:=(Ad n).filter λt=>S.any λr=>cs.any λc=>stp mv r c == t
theorem fW{mv:List (List Nat)}{n t:Nat}{S cs:List Nat}:t∈gV mv n S cs↔t<n/\∃r∈S,∃c∈cs,stp mv r c=t:=by
 unfold gV
 rw[Bc,A_,B_]
 refine and_congr IH ⟨λ⟨r,hr,e⟩=>?_,λ⟨r,hr,c,hc,e⟩=>⟨r,hr,B_.mpr ⟨c,hc,beq_iff_eq.mpr e⟩⟩⟩
 obtain⟨c,hc,e⟩:=B_.mp e
 exact⟨r,hr,c,hc,beq_iff_eq.mp e⟩
def gW(mv:List (List Nat))(S cs:List Nat)(i j r:Nat):Prop:=(∃q∈S.take i,∃c∈cs,stp mv q c=r)∨∃q,S[i]? =some q/\∃c∈cs.take j,stp mv q c=r
theorem gW.put{mv:List (List Nat)}{S cs:List Nat}{i j q c r:Nat}(hq:S[i]? =some q)(hc:cs[j]? =some c):gW mv S cs i (j+1) r↔gW mv S cs i j r∨r=stp mv q c:=by
 unfold gW
 rw[take_snoc hc,or_assoc]
 refine or_congr IH ⟨?_,?_⟩
 ·rintro⟨q',hq',d,hd,e⟩
  rcases AS.mp hd with z | z
  ·exact .inl ⟨q',hq',d,z,e⟩
  ·rw[hq] at hq';cases hq'
   rw[AI.mp z] at e
   exact .inr e.symm
 ·rintro(⟨q',hq',d,hd,e⟩ | e)
  ·exact⟨q',hq',d,AS.mpr (.inl hd),e⟩
  ·exact⟨q,hq,c,AS.mpr (.inr (AI.mpr rfl)),e.symm⟩
theorem gW.next{mv:List (List Nat)}{S cs:List Nat}{i q r:Nat}(hq:S[i]? =some q):gW mv S cs i cs.length r↔gW mv S cs (i+1) 0 r:=by
 unfold gW
 rw[Ay,Ef,take_snoc hq]
 constructor
 ·rintro(⟨q',hq',h⟩ | ⟨q',hq',h⟩)
  ·exact .inl ⟨q',AS.mpr (.inl hq'),h⟩
  ·rw[hq] at hq';cases hq'
   exact .inl ⟨q,AS.mpr (.inr (AI.mpr rfl)),h⟩
 ·rintro(⟨q',hq',h⟩ | ⟨_,_,_,z,_⟩)
  ·rcases AS.mp hq' with z | z
   ·exact .inl ⟨q',z,h⟩
   ·rw[AI.mp z] at h;exact .inr ⟨q,hq,h⟩
  ·cases z
def Qr:Sp:=λvs H Q _=>∃(m nm y v sa lt:Addr) (ps:List Addr) (bs:List Bool) (mv:List (List Nat)) (B:Nat) (S cs:List Nat),vs=[.ref m,.ref sa,.ref lt]/\iB H m nm y v ps bs mv B/\H sa=some (.tup ((ai S).map V.int))/\(∀r∈S,r<bs.length)/\H lt=some (.lst ((ai cs).map V.int))/\(∀c∈cs,c<B)/\bs.length<=62/\
 ∀(p:Addr) (H':Hp),Same H H'->H' p=some (.tup ((ai (gV mv bs.length S cs)).map V.int))->Q (.ref p) H'
theorem ji:aU ["machine","some","letters","found","room","leads","letter"] ["machine","some","letters"] (aj iJ):=⟨rfl,rfl,rfl,by decide+kernel,rfl,by decide+kernel,by decide+kernel⟩
set_option maxHeartbeats 16000000 in
theorem MN{a:cb}(T:Txt K mg a):aV P w K mg base bK 1 a.kG a.lq ["machine","some","letters"] Qr:=by
 refine T.Ou.ok ji (λvs H Q E h=>?_) (λcdv A outer s H vs Q E hr h=>?_)
 ·obtain⟨m,nm,y,v,sa,lt,ps,bs,mv,B,S,cs,rfl,_⟩:=h
  rfl
 ·obtain⟨m,nm,y,v,sa,lt,ps,bs,mv,B,S,cs,rfl,⟨a1,a2,a3,tp,cD⟩,eS,hS,elt,hcs,hn,k⟩:=h
  refine⟨_,(ah (av (i:=3) ji.nd rfl (AW rfl) wZ)
  (ah (aY Af rfl (dN (pv 1)) (ay (i:=4) ji.nd rfl (AW rfl))
   (ah (av (i:=5) ji.nd rfl (AW rfl) (aC (aD K) (aC (aD K) (pv 0) ak (λ_ _=>rfl)) (pv 4) (λ_ _=>rfl)))
   (au (aY Af rfl (bM (pv 2)) (ay (i:=6) ji.nd rfl (AW rfl))
    (au (j_ (cN hr) (pv 3) (aC (aD K) (pv 5) (pv 6) (λ_ _=>rfl)) kU rfl))))))
  (au (aO (aW (a_ K) (by rfl) T.bW bB (ae (aF (yO rfl) (by rfl) T.qS oQ (ae (pv 3) ag)) ag)))))),?_⟩
  have big:(100000:Nat)<=sizeLine:=by decide
  refine λF hF=>?_
  have sF:=Same.new (o:=.dK []) hF
  dsimp only[az]
  have few:∀{i j:Nat} {ks:List Nat},ks.Nodup->(∀r,r∈ks↔gW mv S cs i j r)->ks.length<=bs.length:=λ{i j ks} nd hm=>by
   have:=Bf (l₂:=Ad bs.length) nd λr hr=>A_.mpr ?_
   ·rw[Aw] at this;exact this
   ·rcases(hm r).mp hr with⟨q,hq,c,hc,e⟩ | ⟨q,hq,c,hc,e⟩
    ·rw[<-e];exact cD.stp (hS q (B6 hq)) (hcs c hc)
    ·rw[<-e];exact cD.stp (hS q (AL hq)) (hcs c (B6 hc))
  refine⟨_,rfl,sa,rfl,⟨_,.of (sF _ _ eS)⟩,zo (xs:=(ai S).map V.int) (λi σ H'=>∃(v4 v5 v6:Option V) (kvs:List (Key×V)) (ks:List Nat),σ=[some (.ref m),some (.ref sa),some (.ref lt),some (.ref F),v4,v5,v6]/\Same H H'/\H' F=some (.dK kvs)/\iC kvs ks/\∀r,r∈ks↔gW mv S cs i 0 r)
   ⟨none,none,none,[],[],rfl,sF,af,⟨rfl,by simp⟩,λr=>?z⟩ (λi σ H' _ ⟨_,_,_,_,_,_,s',_⟩=>.of (s' _ _ eS)) ?_ ?_⟩
  case z=>unfold gW;simp
  ·rintro i z σ H1 hz ⟨v4,v5,v6,kvs,ks,rfl,s1,f1,MO,MP⟩
   obtain⟨q,rfl,eq⟩:=di hz
   have hq:=hS q (AL eq)
   obtain⟨r1,r2,r3⟩:=cD.row (tp.keep s1.kt) hq
   refine⟨_,rfl,m,_,_,.ref v,rfl,rfl,.of (s1 _ _ a1),ax (j:=2) rfl,_,rfl,v,_,_,.ref (ps.getD q 0),rfl,rfl,.of (s1 _ _ a3),ax (by rw[AJ,r1];rfl),?_⟩
   dsimp only[az]
   refine⟨_,rfl,lt,rfl,⟨_,.of (s1 _ _ elt)⟩,gN (xs:=(ai cs).map V.int) (λj σ H'=>∃(v6:Option V) (kvs:List (Key×V)) (ks:List Nat),σ=[some (.ref m),some (.ref sa),some (.ref lt),some (.ref F),some (.int (q:Nat)),some (.ref (ps.getD q 0)),v6]/\Same H H'/\H' F=some (.dK kvs)/\iC kvs ks/\∀r,r∈ks↔gW mv S cs i j r)
    ⟨_,kvs,ks,rfl,s1,f1,MO,MP⟩ (λj σ H' _ ⟨_,_,_,_,s',_⟩=>.of (s' _ _ elt)) ?_ ?_⟩
   ·rintro j z σ H2 hz ⟨v6,UE,vt,rfl,s2,f2,MQ,MS⟩
    obtain⟨c,rfl,ec⟩:=di hz
    have hcB:=hcs c (AL ec)
    obtain⟨_,x2,_⟩:=cD.row (tp.keep s2.kt) hq
    have ex:((ai (mv.getD q [])).map V.int)[c]? =some (.int (stp mv q c:Nat)):=cG (by rw[r3];exact hcB)
    obtain⟨ks3,fk3,me3⟩:=MQ.put (stp mv q c) (.bl true)
    have lk:=few MQ.2 MS
    refine⟨_,rfl,_,rfl,_,rfl,_,_,_,_,rfl,rfl,.of x2,ax ex,F,_,rfl,ju.k (k:=Bu (stp mv q c:Int)) f2 ?len,?_⟩
    case len=>rw[MQ.len];omega
    exact⟨_,_,ks3,rfl,s2.kbn hF KB.write,af,fk3,λr=>by rw[me3,MS,gW.put eq ec]⟩
   ·rintro σ H2 ⟨v6,UE,vt,rfl,s2,f2,MQ,MS⟩
    rw[AA,aB] at MS
    exact⟨_,_,_,UE,vt,rfl,s2,f2,MQ,λr=>by rw[MS,gW.next eq]⟩
  ·rintro σ H1 ⟨v4,v5,v6,kvs,ks,rfl,s1,f1,MO,MP⟩
   rw[AA,aB] at MP
   have lk:=few MO.2 MP
   refine⟨_,rfl,F,kvs,ai ks,rfl,f1,MO.1,by rw[aB];omega,λp ns hp pm ps=>?_⟩
   have hk:(gV mv bs.length S cs).Pairwise (· < ·):=De.filter _
   have e:=qr pm ps hk MO.2 λr=>by
    rw[MP,fW]
    unfold gW
    rw[Ay]
    constructor
    ·rintro(⟨q,hq,c,hc,e⟩ | ⟨q,hq,c,hc,e⟩)
     ·exact⟨by rw[<-e];exact cD.stp (hS q hq) (hcs c hc),q,hq,c,hc,e⟩
     ·rw[Ef] at hc;cases hc
    ·rintro⟨_,h⟩
     exact .inl h
   subst e
   refine⟨p,_,rfl,.inl ⟨.of af,λp2 hp2=>?_⟩⟩
   exact k p2 _ ((s1.trans (Same.new hp)).trans (Same.new hp2)) af
theorem pW(x:List Nat):(x.map λ(z:Nat)=>V.int (z:Int))=(ai x).map V.int:=by unfold ai;rw[Dc];rfl
theorem apart2{p q:Pos×Str}(h:p.1.line≠q.1.line):Apart [p,q]:=λa ha b hb e _=>by
 rcases Ak.mp ha with z | z<;>rcases Ak.mp hb with y | y
 ·rw[z,y]
 ·rw[z,AI.mp y] at e;exact absurd e h
 ·rw[y,AI.mp z] at e;exact absurd e.symm h
 ·rw[AI.mp z,AI.mp y]
def pC(mv:List (List Nat))(n:Nat)(LL:List (List Nat))(S:List Nat)(l:Nat):List Nat:=gV mv n S (LL.getD l [])
def hU(n:Nat)(S:List Nat):Prop:=∃p:Nat->Bool,S=(Ad n).filter p
theorem hU.lt{n:Nat}{S:List Nat}(h:hU n S):∀r∈S,r<n:=λr hr=>by
 obtain⟨p,rfl⟩:=h
 exact A_.mp (Bc.mp hr).1
theorem pX(mv:List (List Nat))(n:Nat)(S cs:List Nat):hU n (gV mv n S cs):=⟨_,rfl⟩
theorem jj{n:Nat}(h:0<n):hU n [0]:=by
 refine⟨λr=>r == 0,?_⟩
 obtain⟨m,rfl⟩:∃m,n=m+1:=⟨n-1,by omega⟩
 rw[DZ,Be,if_pos (show((0:Nat) == 0)=true from rfl)]
 congr 1
 symm
 rw[List.filter_eq_nil_iff]
 intro a ha
 obtain⟨z,_,rfl⟩:=Ac.mp ha
 simp
def gm:Nat->List (List Nat)
 | 0=>[[]]
 | n+1=>gm n++(gm n).map (· ++[n])
theorem qt:∀n,(gm n).length=2 ^ n
 | 0=>rfl
 | n+1=>by
  show(gm n++(gm n).map (· ++[n])).length=_
  rw[AH,AA,qt n,Bm];omega
theorem mx(p:Nat->Bool):∀n,(Ad n).filter p∈gm n
 | 0=>by simp[gm]
 | n+1=>by
  show _∈gm n++(gm n).map (· ++[n])
  rw[BD,Bd,AS]
  cases h:p n with
  | true=>
   refine .inr (Ac.mpr ⟨_,mx p n,?_⟩)
   rw[Be,if_pos h];rfl
  | false=>
   refine .inl ?_
   rw[Be,if_neg (by rw[h];decide),Cg,BU]
   exact mx p n
theorem RQ{n:Nat}{l:List (List Nat)}(nd:l.Nodup)(h:∀x∈l,hU n x):l.length<=2 ^ n:=by
 rw[<-qt n]
 refine Bf nd λx hx=>?_
 obtain⟨p,rfl⟩:=h x hx
 exact mx p n
theorem uo{n B:Nat}{mv:List (List Nat)}{LL:List (List Nat)}:∀{w:List Nat} {x:List Nat},hU n x->hU n (dH (pC mv n LL) x w)
 | [],x,hx=>hx
 | a::w,x,hx=>uo (B:=B) (w:=w) (pX mv n x _)
def ye(can:List Bool)(S:List Nat):Bool:=S.any λr=>can.getD r false
structure jk (m nm y v:Addr)(ps:List Addr)(bs:List Bool)(mv:List (List Nat))(B:Nat)(ov:Addr)(as:List Addr)(LL:List (List Nat))(cn:Addr)(can:List Bool)(H:Hp):Prop where
 mc:iB H m nm y v ps bs mv B
 o:H ov=some (.lst (as.map V.ref))
 ls:bP H as LL
 c:H cn=some (.lst (can.map V.bl))
theorem jk.keep{m nm y v:Addr}{ps:List Addr}{bs:List Bool}{mv:List (List Nat)}{B:Nat}{ov:Addr}{as:List Addr}{LL:List (List Nat)}{cn:Addr}{can:List Bool}{H H':Hp}(e:jk m nm y v ps bs mv B ov as LL cn can H)(kt:bF H H')(kl:∀b xs,H b=some (.lst xs)->H' b=some (.lst xs)):jk m nm y v ps bs mv B ov as LL cn can H':=
 ⟨e.mc.keep kt,kl _ _ e.o,e.ls.keep λb hb o q=>by obtain⟨l,z⟩:=e.ls.mem hb;rw[z] at q;cases q;exact kl _ _ z,kl _ _ e.c⟩
theorem jk.kx{a:cb}{m nm y v:Addr}{ps:List Addr}{bs:List Bool}{mv:List (List Nat)}{B:Nat}{ov:Addr}{as:List Addr}{LL:List (List Nat)}{cn:Addr}{can:List Bool}{H H':Hp}(e:jk m nm y v ps bs mv B ov as LL cn can H)(k:KX a H H'):jk m nm y v ps bs mv B ov as LL cn can H':=e.keep k.kt λb xs z=>k _ _ z λ_ y=>nomatch y
theorem jk.same{m nm y v:Addr}{ps:List Addr}{bs:List Bool}{mv:List (List Nat)}{B:Nat}{ov:Addr}{as:List Addr}{LL:List (List Nat)}{cn:Addr}{can:List Bool}{H H':Hp}(e:jk m nm y v ps bs mv B ov as LL cn can H)(s:Same H H'):jk m nm y v ps bs mv B ov as LL cn can H':=e.keep s.kt λb xs z=>s _ _ z
theorem jk.dv{m nm y v:Addr}{ps:List Addr}{bs:List Bool}{mv:List (List Nat)}{B:Nat}{ov:Addr}{as:List Addr}{LL:List (List Nat)}{cn:Addr}{can:List Bool}{H:Hp}{D:List Addr}(hD:∀a∈D,∃φ,H a=some (.ext φ))(e:jk m nm y v ps bs mv B ov as LL cn can H):jk m nm y v ps bs mv B ov as LL cn can (L2.dv D H):=
 e.keep (λb xs z=>iI hD z (λ_ y=>nomatch y)) λb xs z=>iI hD z (λ_ y=>nomatch y)
def UG(P:Az)(w:World)(K:AE)(mg:Str->Option Value)(base:Heap)(a:cb):Sp:=λvs H Q _=>∃(b:Nat) (m nm y v:Addr) (ps:List Addr) (ss:List Str) (x:Str) (bs:List Bool) (mv:List (List Nat)),vs=[.int b,.ref m,.str x]/\0<b/\b<=4/\ss.length<=4/\iB H m nm y v ps bs mv (b ^ ss.length)/\H nm=some (.tup (ss.map V.str))/\bs.length<=62/\TB a H/\
 ∀(g z0 f1 f2 ov cn:Addr) (as:List Addr) (can:List Bool) (D:List Addr) (H':Hp),KX a H H'->TB a H'->(∀a∈D,∃φ,H' a=some (.ext φ))->jk m nm y v ps bs mv (b ^ ss.length) ov as (bJ b ss (oth ss x)) cn can H'->can.length=bs.length->(∀r,r<bs.length->(can.getD r false=true↔iT bs mv ((bJ b ss (oth ss x)).getD 0 []) r))->
  H' z0=some (.tup [.int ((0:Nat):Int)])->H' g=some (.tup [.ref z0,.ref f1,.ref f2])->
  kD P w K mg base H' D 2 f1 2 (x4 qN (b ^ (oth ss x).length) (pC mv bs.length (bJ b ss (oth ss x))) (hU bs.length) (jk m nm y v ps bs mv (b ^ ss.length) ov as (bJ b ss (oth ss x)) cn can))->
  kD P w K mg base H' D 2 f2 1 (OL qN (ye can) (hU bs.length) (jk m nm y v ps bs mv (b ^ ss.length) ov as (bJ b ss (oth ss x)) cn can))->Q (.ref g) H'
theorem RS{b:Nat}{ss os:List Str}{l:Nat}{cs:List Nat}(h:(bJ b ss os)[l]? =some cs):(∀c∈cs,c<b ^ ss.length)/\cs.length<=b ^ ss.length:=by
 have hl:l<b ^ os.length:=by
  have:=(AD.mp h).1
  unfold bJ at this
  rwa [iR] at this
 unfold bJ at h
 rw[mS hl] at h
 have:=AZ h
 subst this
 refine⟨λc hc=>A_.mp (Bc.mp hc).1,?_⟩
 have:=Bh (λr=>own b ss os r == l) (Ad (b ^ ss.length))
 rwa [Aw] at this
theorem gn:aU ["base","machine","name","over","can","onward"] ["base","machine","name"] (aj bH):=⟨rfl,rfl,rfl,by decide+kernel,rfl,by decide+kernel,by decide+kernel⟩
set_option maxHeartbeats 16000000 in
theorem uq{a:cb}(T:Txt K mg a)(hB:fj mg base):aV P w K mg base bK 4 a.cV a.iO ["base","machine","name"] (UG P w K mg base a):=by
 have ur:=sy (P:=P) (w:=w) (base:=base) T
 have JS:=yX (P:=P) (w:=w) (base:=base) T
 refine T.vZ.okR gn (λvs H Q E h=>?_) (λAr outer sh H vs Q E inj hr h=>?_)
 ·obtain⟨b,m,nm,y,v,ps,ss,x,bs,mv,rfl,_⟩:=h
  rfl
 ·obtain⟨b,m,nm,y,v,ps,ss,x,bs,mv,rfl,hb0,hb4,vH,gw,jH,hn,tb,q⟩:=h
  have sH:aQ 3 _:=hr
  have yY:aQ 2 _:=hr.mono (by decide)
  refine⟨_,tX (av (i:=3) gn.nd rfl (CZ rfl) (aE ur sH rfl T.t_ T.t7 T.t8 .nil aN (ae (pv 0) (ae (pv 1) (ae (pv 2) ag)))))
   (tX (av (i:=4) gn.nd rfl (CZ rfl) (aE JS yY rfl T.Jz T.JA T.JB .nil aN (ae (pv 1) (ae (aC (bo K) (pv 3) ak (λ_ _=>rfl)) ag))))
   (tX (av (i:=5) gn.nd rfl (AW rfl) (zO (T:=a.cW) (L:=Ql) rfl T.ou hB rfl rfl (Aa) (apart2 (by decide)) rfl))
   (TQ (cB (ae (cB (ae ak ag)) (ae (pv 5) (ae (zO (T:=a.cW) (L:=Ql) rfl T.ou hB rfl rfl (AV _ Aa) (apart2 (by decide)) rfl) ag))))))),?_⟩
  have big:(10000:Nat)<=sizeLine:=by decide
  have hB2:b ^ ss.length<=256:=cL hb4 (by omega)
  refine⟨_,rfl,_,rfl,_,rfl,b,m,nm,y,v,ss,x,rfl,hb0,hb4,gw.1,jH,vH,λov as H1 s1 o1 Ie=>?_⟩
  generalize Ig:bJ b ss (oth ss x)=LL at Ie q
  have hl0:0<LL.length:=by rw[<-Ig];unfold bJ;rw[iR];exact DE hb0
  obtain⟨l0,hl⟩:∃l,LL[0]? =some l:=⟨_,Ag hl0⟩
  have OU:∀{i:Nat} {cs:List Nat},LL[i]? =some cs->(∀c∈cs,c<b ^ ss.length)/\cs.length<=b ^ ss.length:=λ{i cs} h=>by rw[<-Ig] at h;exact RS h
  have e0:LL.getD 0 []=l0:=by rw[AQ,hl];rfl
  obtain⟨b0,ZC,eb0⟩:=Ie.back hl
  dsimp only[az]
  refine⟨_,rfl,_,rfl,ov,_,_,.ref b0,rfl,rfl,.of o1,ax (j:=0) (by rw[AJ,ZC];rfl),m,nm,y,v,b0,ps,bs,mv,b ^ ss.length,l0,rfl,gw.keep s1.kt,eb0,(OU hl).1,hn,by have:=(OU hl).2;omega,λcn can H2 s2 c2 lc hcan=>?_⟩
  have ev2:jk m nm y v ps bs mv (b ^ ss.length) ov as LL cn can H2:=⟨gw.keep (s1.trans s2).kt,s2 _ _ o1,Ie.keep λ_ _ _ z=>s2 _ _ z,c2⟩
  have s12:=s1.trans s2
  have tb2:=tb.same s12
  dsimp only[az]
  refine⟨tb2.sg,λf1 d1 afY H3 hf1 ef1 ec1 OV kb3=>?_⟩
  have k3:KX a H2 H3:=KX.kb tb2.sg kb3
  have qu:=tb2.ksg T kb3 OV
  dsimp only[az]
  refine⟨by show 1<=sizeLine;decide,λz hz=>?_⟩
  have sz:=Same.new (o:=.tup [.int ((0:Nat):Int)]) hz
  have Ih:=qu.same sz
  refine⟨_,rfl,Ih.sg,λf2 d2 afZ H5 hf2 ef2 ec2 ZD XY=>?_⟩
  have k5:KX a (upd H3 z (.tup [.int ((0:Nat):Int)])) H5:=KX.kb Ih.sg XY
  have sI:=Ih.ksg T XY ZD
  have ez5:H5 z=some (.tup [.int ((0:Nat):Int)]):=k5 _ _ af λ_ y=>nomatch y
  have k35:KX a H3 H5:=(KX.same sz).trans k5
  refine⟨by show 3<=sizeLine;decide,λg hg=>?_⟩
  have sg:=Same.new (o:=.tup [.ref z,.ref f1,.ref f2]) hg
  obtain⟨c1,h1⟩:∃c,(FE "sets_growth" (aj bH) sh.heap.objs.size a.cV (.ref a.dR)).cells.lookup ("machine":Str)=some c:=gP rfl
  obtain⟨c2',h2⟩:∃c,(FE "sets_growth" (aj bH) sh.heap.objs.size a.cV (.ref a.dR)).cells.lookup ("over":Str)=some c:=gP rfl
  obtain⟨c3,h3⟩:∃c,(FE "sets_growth" (aj bH) sh.heap.objs.size a.cV (.ref a.dR)).cells.lookup ("can":Str)=some c:=gP rfl
  let l:List (Nat×Str×Addr×V):=[(1,"machine",c1,.ref m),(3,"over",c2',.ref ov),(4,"can",c3,.ref cn)]
  have C:xu (kj bK P w K mg base ["base","machine","name","over","can","onward"] "sets_growth" (aj bH) a.cV (.ref a.dR) Ar outer sh H E) [some (.int (b:Nat)),some (.ref m),some (.str x),some (.ref ov),some (.ref cn),some (.ref f1)] l:=
   ⟨Bn.mpr ⟨⟨rfl,rfl,rfl,h1⟩,Bn.mpr ⟨⟨rfl,rfl,rfl,h2⟩,Bn.mpr ⟨⟨rfl,rfl,rfl,h3⟩,λ_ h=>nomatch h⟩⟩⟩,show(["machine","over","can"]:List Str).Nodup by decide+kernel⟩
  refine⟨o6 l,C.cells,λfr=>?_⟩
  have sm:=o3 fr
  have g1:=C.got inj (upd H5 g (.tup [.ref z,.ref f1,.ref f2])) (q:=(1,"machine",c1,.ref m)) (by simp[l])
  have g2:=C.got inj (upd H5 g (.tup [.ref z,.ref f1,.ref f2])) (q:=(3,"over",c2',.ref ov)) (by simp[l])
  have g3:=C.got inj (upd H5 g (.tup [.ref z,.ref f1,.ref f2])) (q:=(4,"can",c3,.ref cn)) (by simp[l])
  have s6:=sg.trans sm
  have Qs:=k35.trans (KX.same s6)
  have UH:=Qs _ _ ef1 λ_ y=>nomatch y
  have UI:=Qs _ _ ec1 λ_ y=>nomatch y
  have UJ:=s6 _ _ ef2
  have UK:=s6 _ _ ec2
  have Qt:=ev2.kx (k3.trans Qs)
  have hD6:∀x∈[f1,d1,f2,d2,c1,c2',c3],∃φ,kC (o6 l) (upd H5 g (.tup [.ref z,.ref f1,.ref f2])) x=some (.ext φ):=λx hx=>by
   simp only[Ak,D6,or_false] at hx
   rcases hx with z | z | z | z | z | z | z
   ·rw[z];exact⟨_,UH⟩
   ·rw[z];exact⟨_,UI⟩
   ·rw[z];exact⟨_,UJ⟩
   ·rw[z];exact⟨_,UK⟩
   ·rw[z];exact⟨_,g1⟩
   ·rw[z];exact⟨_,g2⟩
   ·rw[z];exact⟨_,g3⟩
  refine q g z f1 f2 ov cn as can [f1,d1,f2,d2,c1,c2',c3] _ ((KX.same s12).trans (k3.trans Qs)) (sI.same s6) hD6 Qt lc (by rw[e0];exact hcan) (s6 _ _ ez5) (sm _ _ af) ?_ ?_
  ·refine kD.lam UH (by simp) UI (by simp) (ps:=["some","letter"]) (aI:=["machine","over"]) (fvs:=[.ref m,.ref ov]) (gQ.mk' rfl rfl rfl (by decide+kernel) (by decide+kernel) (by decide+kernel) (by decide+kernel) (by decide+kernel)) inj (Bn.mpr ⟨⟨rfl,AL (i:=1) rfl⟩,Bn.mpr ⟨⟨rfl,AL (i:=0) rfl⟩,λ_ h=>nomatch h⟩⟩)
    (.cons ⟨c1,rfl,h1,by simp,g1⟩ (.cons ⟨c2',rfl,h2,by simp,g2⟩ .nil)) (λus hl=>match us,hl with | [_,_],_=>rfl) (λvs H Q E h=>?_) (λbase' W A outer s H vs Q E hr h=>?_)
   ·obtain⟨x,v,c,rfl,_⟩:=h
    rfl
   ·obtain⟨S,vv,c,rfl,⟨pp,rfl,ep⟩,jG,hc,ev,kk⟩:=h
    have OW:aV P w K mg base' bK 1 a.kG a.lq ["machine","some","letters"] Qr:=MN T
    have hr1:aQ 1 _:=hr
    refine⟨_,aE OW hr1 (by rfl) T.Ov T.Ow T.Ox .nil aN (ae (pv 2) (ae (pv 0) (ae (aC (bo K) (pv 3) (pv 1) (λ_ _=>rfl)) ag))),?_⟩
    have hcL:c<LL.length:=by rw[<-Ig];unfold bJ;rw[iR];exact hc
    have XZ:LL[c]? =some (LL.getD c []):=item_at [] hcL
    obtain⟨bc,hbc,ebc⟩:=ev.ls.back XZ
    rw[pW] at ep
    refine⟨_,rfl,_,rfl,_,rfl,_,rfl,ov,_,_,.ref bc,rfl,rfl,.of ev.o,ax (by rw[AJ,hbc];rfl),m,nm,y,v,pp,bc,ps,bs,mv,b ^ ss.length,S,_,rfl,ev.mc,ep,jG.lt,ebc,(OU XZ).1,hn,λp H' s' ep'=>?_⟩
    exact kk _ H' s' ⟨p,rfl,by rw[pW];exact ep'⟩
  ·refine kD.lam UJ (by simp) UK (by simp) (ps:=["some"]) (aI:=["can"]) (fvs:=[.ref cn]) (gQ.mk' rfl rfl rfl (by decide+kernel) (by decide+kernel) (by decide+kernel) (by decide+kernel) (by decide+kernel)) inj (Bn.mpr ⟨⟨rfl,AL (i:=0) rfl⟩,λ_ h=>nomatch h⟩)
    (.cons ⟨c3,rfl,h3,by simp,g3⟩ .nil) (λus hl=>match us,hl with | [_],_=>rfl) (λvs H Q E h=>?_) (λbase' W A outer s H vs Q E hr h=>?_)
   ·obtain⟨x,v,rfl,_⟩:=h
    rfl
   ·obtain⟨S,vv,rfl,⟨pp,rfl,ep⟩,jG,ev,kk⟩:=h
    refine⟨_,aF (oV K rfl) (by rfl) T.JM xg (ae (ck (aG.mk' (N:=["some","can"]) (own:=["room"]) (aI:=["can"]) (bD:=[1]) rfl rfl (by rfl)) rfl (dN (pv 0)) (λ_ _ _ _=>(ay (i:=0) (show BK (["room","can"]:List Str) by decide+kernel) rfl (AW rfl))) (λ_ _ _ _=>br) (λ_ _ _ _=>(aC (bo K) (pv 1) (pv 0) (λ_ _=>rfl)))) ag),?_⟩
    rw[pW] at ep
    have lS:S.length<=bs.length:=by
     obtain⟨p,rfl⟩:=jG
     have:=Bh p (Ad bs.length)
     rwa [Aw] at this
    refine⟨_,rfl,pp,rfl,⟨_,.of ep⟩,λL hL=>?_⟩
    refine fi (xs:=(ai S).map V.int) (λj σ H'=>∃(v:Option V),σ=[v,some (.ref cn)]/\Same H H'/\H' L=some (.lst (((S.take j).map λr=>can.getD r false).map V.bl)))
     ⟨none,?sg,Same.new hL,af⟩ (λj σ H' _ ⟨_,_,s',_⟩=>.of (s' _ _ ep)) ?_ ?_
    case sg=>rfl
    ·rintro j z σ H7 hz ⟨v7,rfl,s7,l7⟩
     obtain⟨r,rfl,er⟩:=di hz
     have hr:=jG.lt r (AL er)
     have hj:=(AD.mp er).1
     refine⟨_,rfl,_,rfl,cn,_,_,.bl (can.getD r false),rfl,rfl,.of (s7 _ _ ev.c),ax (by rw[AJ,item_at false (by rw[lc];exact hr)];rfl),_,l7,?_,_,rfl,s7.kbn hL KB.write,?_⟩
     ·rw[AA,AA,Ao];omega
     ·rw[af,take_snoc er,AF,AF];rfl
    rintro σ H7 ⟨v7,rfl,s7,l7⟩
    rw[AA,aB,Ay] at l7
    refine⟨L,_,rfl,.of l7,?_⟩
    rw[Gb]
    exact kk H7 s7
def aS(l:List Nat):Str:=⟨(l.map (97+ ·)).toArray⟩
def my:Str:="abcdefghijklmnopqrstuvwxyz"
theorem yf:my.length<=sizeLine:=by
 have:my.length=26:=by decide+kernel
 rw[this];decide
theorem RT:∀c,c<26->GO my ⟨#[97+c]⟩ 0 my.length 1=[c]:=by decide+kernel
theorem MT:∀c,c<26->my.cps.toList[c]? =some (97+c):=by decide+kernel
theorem kO(a b:List Nat):aS a++aS b=aS (a++b):=by
 show(⟨_⟩:Str)=⟨_⟩
 simp[aS]
theorem fX(l:List Nat):(aS l).length=l.length:=by
 show(l.map (97+ ·)).toArray.size=_
 rw[Aj,AA]
theorem MU{a b:List Nat}(h:aS a=aS b):a=b:=by
 have h1:(a.map (97+ ·)).toArray=(b.map (97+ ·)).toArray:=congrArg Str.cps h
 have h2:a.map (97+ ·)=b.map (97+ ·):=congrArg Hf h1
 exact(List.map_inj_right (λx y z=>by omega)).mp h2
theorem yZ{l:List Nat}(h:∀c∈l,c<26):(aS l).cps.all (· <128)=true:=by
 unfold aS
 rw[List.all_toArray,EY,DP]
 intro c hc
 exact decide_eq_true (by have:=h c hc;show 97+c<128;omega)
theorem kP(l:List Nat):oW (aS l)=aS l.reverse:=by
 show(⟨_⟩:Str)=⟨_⟩
 simp[aS]
theorem MV{l:List Nat}{i x:Nat}(h:(aS l).cps[i]? =some x):∃c,l[i]? =some c/\x=97+c:=by
 have h1:(l.map (97+ ·))[i]? =some x:=by
  rw[<-h]
  show _=(l.map (97+ ·)).toArray[i]?
  rw[CS]
 rw[AJ] at h1
 obtain⟨c,hc,e⟩:=A9.mp h1
 exact⟨c,hc,e.symm⟩
def c_:List Nat->List Nat×Nat
 | []=>([],1)
 | c::cs=>(((c+(c_ cs).2) % 26)::(c_ cs).1,(c+(c_ cs).2) / 26)
theorem lV:∀l,(c_ l).1.length=l.length
 | []=>rfl
 | c::cs=>by rw[c_,A',A',lV cs]
theorem nT:∀{l},(∀c∈l,c<26)->(c_ l).2<=1
 | [],_=>AM _
 | c::cs,h=>by
  have h1:=nT (l:=cs) λx hx=>h x (AV _ hx)
  have h2:=h c Aa
  show(c+(c_ cs).2) / 26<=1
  omega
theorem yg:∀{l},(∀c∈l,c<26)->∀c∈(c_ l).1,c<26
 | [],_,c,hc=>by cases hc
 | c::cs,h,x,hx=>by
  rcases Ak.mp (show x∈((c+(c_ cs).2) % 26)::(c_ cs).1 from hx) with e | e
  ·omega
  ·exact yg (l:=cs) (λy hy=>h y (AV _ hy)) x e
def pD(l:List Nat):List Nat:=((c_ l).1++AO (c_ l).2 0).take 3
structure i8 (l:List Nat):Prop where
 ne:0<l.length
 le:l.length<=3
 lt:∀c∈l,c<26
def rk:List Nat->Nat
 | [a]=>a
 | [a,b]=>26+26*a+b
 | [a,b,c]=>702+676*a+26*b+c
 | _=>0
theorem i8.cases{l:List Nat}(h:i8 l):(∃a,l=[a]/\a<26)∨(∃a b,l=[a,b]/\a<26/\b<26)∨∃a b c,l=[a,b,c]/\a<26/\b<26/\c<26:=by
 have h1:=h.ne
 have h2:=h.le
 have h3:=h.lt
 match l,h1,h2,h3 with
 | [a],_,_,h3=>exact .inl ⟨a,rfl,h3 a (by simp)⟩
 | [a,b],_,_,h3=>exact .inr (.inl ⟨a,b,rfl,h3 a (by simp),h3 b (by simp)⟩)
 | [a,b,c],_,_,h3=>exact .inr (.inr ⟨a,b,c,rfl,h3 a (by simp),h3 b (by simp),h3 c (by simp)⟩)
 | _::_::_::_::_,_,h2,_=>simp at h2
theorem UL{l:List Nat}(h:i8 l):rk (pD l) % 17576=(rk l+1) % 17576:=by
 rcases h.cases with⟨a,rfl,ha⟩ | ⟨a,b,rfl,ha,hb⟩ | ⟨a,b,c,rfl,ha,hb,hc⟩
 ·have e:(a+1) / 26=0∨(a+1) / 26=1:=by omega
  have E:pD [a]=([(a+1) % 26]++AO ((a+1) / 26) 0).take 3:=rfl
  rcases e with e | e<;>rw[E,e]
  ·show((a+1) % 26) % 17576=(a+1) % 17576
   omega
  ·show(26+26*((a+1) % 26)+0) % 17576=(a+1) % 17576
   omega
 ·have e:(a+(b+1) / 26) / 26=0∨(a+(b+1) / 26) / 26=1:=by omega
  have E:pD [a,b]=([(a+(b+1) / 26) % 26,(b+1) % 26]++AO ((a+(b+1) / 26) / 26) 0).take 3:=rfl
  rcases e with e | e<;>rw[E,e]
  ·show(26+26*((a+(b+1) / 26) % 26)+(b+1) % 26) % 17576=(26+26*a+b+1) % 17576
   omega
  ·show(702+676*((a+(b+1) / 26) % 26)+26*((b+1) % 26)+0) % 17576=(26+26*a+b+1) % 17576
   omega
 ·have e:(a+(b+(c+1) / 26) / 26) / 26=0∨(a+(b+(c+1) / 26) / 26) / 26=1:=by omega
  have E:pD [a,b,c]=([(a+(b+(c+1) / 26) / 26) % 26,(b+(c+1) / 26) % 26,(c+1) % 26]++AO ((a+(b+(c+1) / 26) / 26) / 26) 0).take 3:=rfl
  have G:rk [(a+(b+(c+1) / 26) / 26) % 26,(b+(c+1) / 26) % 26,(c+1) % 26] % 17576=(702+676*a+26*b+c+1) % 17576:=by
   show(702+676*((a+(b+(c+1) / 26) / 26) % 26)+26*((b+(c+1) / 26) % 26)+(c+1) % 26) % 17576=_
   omega
  rcases e with e | e<;>rw[E,e]<;>exact G
theorem OX{l:List Nat}(h:i8 l):i8 (pD l):=by
 have h1:=lV l
 have h0:=h.ne
 refine⟨?_,?_,λc hc=>?_⟩
 ·rw[pD,Ao,AH,h1];omega
 ·rw[pD,Ao];omega
 ·rcases AS.mp (B6 hc) with z | z
  ·exact yg h.lt c z
  ·rw[(List.mem_replicate.mp z).2];decide
theorem UM(l:List Nat)(h0:0<l.length)(h:l.length<=4):Txt.slice (aS l) none (some 3)=aS (l.take 3):=by
 match l,h0,h with
 | [a],_,_=>with_unfolding_all rfl
 | [a,b],_,_=>with_unfolding_all rfl
 | [a,b,c],_,_=>with_unfolding_all rfl
 | [a,b,c,d],_,_=>with_unfolding_all rfl
theorem JT(n:Nat)(h:n<=1):Txt.mul "a" (n:Int)=aS (AO n 0):=by
 match n,h with
 | 0,_=>with_unfolding_all rfl
 | 1,_=>with_unfolding_all rfl
theorem UN(l:List Nat)(h:l.length<=3):Txt.join "" (l.map λc=>aS [c])=aS l:=by
 match l,h with
 | [],_=>with_unfolding_all rfl
 | [a],_=>with_unfolding_all rfl
 | [a,b],_=>with_unfolding_all rfl
 | [a,b,c],_=>with_unfolding_all rfl
 | _::_::_::_::_,h=>simp at h
def RU:Sp:=λvs H Q _=>∃l:List Nat,vs=[.str (aS l)]/\i8 l/\Q (.str (aS (pD l))) H
theorem d9:aU ["_law_word","_law_letters_here","_law_found","_law_more","_law_sign","_law_number"] ["_law_word"] (aj g7):=⟨rfl,rfl,rfl,by decide+kernel,rfl,by decide+kernel,by decide+kernel⟩
theorem JU{a:cb}(T:Txt K mg a):aV P w K mg base bK 1 a.lD a.nE ["_law_word"] RU:=by
 refine T.LY.ok d9 (λvs H Q E h=>?_) (λcdv A outer s H vs Q E hr h=>?_)
 ·obtain⟨l,rfl,_⟩:=h
  rfl
 ·obtain⟨l,rfl,hw,k⟩:=h
  refine⟨_,(ah (av (i:=1) d9.nd rfl (AW rfl) cq)
  (ah (av (i:=2) d9.nd rfl (AW rfl) cq)
  (ah (av (i:=3) d9.nd rfl (AW rfl) ak)
  (ah (aY Af rfl (Ts (Rn (pv 0) dQ dQ (fE (pN mD ak)))) (ay (i:=4) d9.nd rfl (AW rfl))
   (ah (av (i:=5) d9.nd rfl (AW rfl) (aH cK (cC Gi Gd PySem.F.type_str_index N8 (pv 1) (ae (pv 4) ag)) (pv 3)))
   (ah (av (i:=2) d9.nd rfl (AW rfl) (aH rA (aC KJ (pv 1) (aH fF (pv 5) ak) (λ_ _=>rfl)) (pv 2)))
   (au (av (i:=3) d9.nd rfl (AW rfl) (aH iG (pv 5) ak))))))
  (au (aO (fK Tb (aH rA (pv 2) (aH Ro cq (pv 3))) dQ (fE ak)))))))),?_⟩
  have lw:=fX l
  have le3:=hw.le
  have big:(100:Nat)<=sizeLine:=by decide
  dsimp only[md,gM,tC,az]
  refine⟨_,rfl,_,rfl,_,rfl,aS l,rfl,rfl,rfl,rfl,by omega,oW (aS l),rfl,?asc,Rm (λi σ H'=>∃v4 v5:Option V,σ=[some (.str (aS l)),some (.str my),some (.str (aS (c_ (l.drop (l.length-i))).1)),some (.int ((c_ (l.drop (l.length-i))).2:Nat)),v4,v5]/\H'=H)
   ⟨none,none,?st,rfl⟩ ?_ ?_⟩
  case asc=>rw[kP];exact yZ λc hc=>hw.lt c (GP.mp hc)
  case st=>rw[Gg,List.drop_length];rfl
  ·rintro i x σ H1 hx ⟨v4,v5,rfl,rfl⟩
   rw[kP] at hx
   obtain⟨c,hc,rfl⟩:=MV hx
   have hi:i<l.length:=by have:=(AD.mp hc).1;rwa [FA] at this
   rw[List.getElem?_reverse hi] at hc
   have ZE:=hw.lt c (AL hc)
   have ed:l.drop (l.length-(i+1))=c::l.drop (l.length-i):=by
    have h1:l.length-(i+1)=l.length-1-i:=by omega
    have h2:l.length-i=l.length-1-i+1:=by omega
    rw[h1,h2]
    exact List.drop_eq_getElem?_toList_append.trans (by rw[hc];rfl)
   have hm:=nT (l:=l.drop (l.length-i)) λx hx=>hw.lt x (Cb hx)
   have hlen:=lV (l.drop (l.length-i))
   rw[CK] at hlen
   have ea:c_ (c::l.drop (l.length-i))=(((c+(c_ (l.drop (l.length-i))).2) % 26)::(c_ (l.drop (l.length-i))).1,(c+(c_ (l.drop (l.length-i))).2) / 26):=rfl
   rw[ed,ea]
   generalize c_ (l.drop (l.length-i))=g at hm hlen ⊢
   have eN:((c:Int)+(g.2:Int)) % 26=(((c+g.2) % 26:Nat):Int):=by rw[GV,Cf];rfl
   have eD:((c:Int)+(g.2:Int)) / 26=(((c+g.2) / 26:Nat):Int):=by rw[Er,Cf];rfl
   refine⟨_,rfl,rfl,_,rfl,my,⟨#[97+c]⟩,c,[],rfl,rfl,RT c ZE,_,rfl,_,_,rfl,rfl,?_⟩
   refine⟨_,rfl,_,rfl,_,_,rfl,rfl,cpos (by decide),my,_,97+(c+g.2) % 26,rfl,rfl,yf,by rw[eN];exact ax (MT _ (Dw _ (by decide))),_,rfl,_,_,rfl,rfl,?len,_,rfl,_,_,rfl,rfl,⟨by decide,by decide⟩,?_⟩
   case len=>
    have e1:Str.length (⟨#[97+(c+g.2) % 26]⟩:Str)=1:=rfl
    rw[e1,fX]
    omega
   refine⟨some (.str ⟨#[97+c]⟩),some (.int ((c:Int)+(g.2:Int))),?_,rfl⟩
   show[some (V.str (aS l)),some (V.str my),some (V.str ((⟨#[97+(c+g.2) % 26]⟩:Str)++aS g.1)),some (V.int (((c:Int)+(g.2:Int)) / 26)),some (V.str ⟨#[97+c]⟩),some (V.int ((c:Int)+(g.2:Int)))]=_
   have e2:(⟨#[97+(c+g.2) % 26]⟩:Str)++aS g.1=aS (((c+g.2) % 26)::g.1):=kO [(c+g.2) % 26] g.1
   rw[e2,eD]
  ·rintro σ H1 ⟨v4,v5,rfl,rfl⟩
   have es:(oW (aS l)).cps.size=l.length:=by
    rw[kP]
    exact(fX _).trans FA
   rw[es,B4,Fj]
   have hm:=nT hw.lt
   have hlen:=lV l
   have h0:=hw.ne
   have ef:pD l=((c_ l).1++AO (c_ l).2 0).take 3:=rfl
   rw[ef] at k
   generalize c_ l=g at hm hlen k ⊢
   refine⟨_,rfl,_,rfl,"a",(g.2:Int),rfl,rfl,by omega,by omega,(by show 1<=1000;decide),_,_,rfl,rfl,?len,_,rfl,_,rfl,?len2,?_⟩
   case len=>
    rw[JT _ hm,fX,fX,BE]
    omega
   case len2=>
    rw[JT _ hm,kO,fX,AH,BE]
    omega
   rw[JT _ hm,kO,UM _ (by rw[AH];omega) (by rw[AH,BE];omega)]
   exact k
theorem RV(l:List Str):(l.map V.str).all f'=true:=by rw[EY];exact DP.mpr λ_ _=>rfl
theorem aZ.sJ{H:Hp}{F L N:Addr}(h:aZ H F L)(e:H N=none):N≠F/\N≠L:=by
 obtain⟨ms,n,sd,a,b,_⟩:=h.ex
 exact⟨(aq a e).symm,(aq b e).symm⟩
theorem aZ.lo{H H':Hp}{F L N:Addr}(h:aZ H' F L)(k:cm F L H H')(e:H' N=none):H N=none:=by
 obtain⟨n1,n2⟩:=h.sJ e
 cases z:H N with
 | none=>rfl
 | some o=>have:=k N o z n1 n2;rw[e] at this;cases this
theorem aZ.upd{H:Hp}{F L N:Addr}{o:HO}(h:aZ H F L)(n:N≠F/\N≠L):aZ (upd H N o) F L:=by
 obtain⟨ms,m,sd,a,b,c⟩:=h.ex
 exact⟨ms,m,sd,by rw[ao n.1.symm];exact a,by rw[ao n.2.symm];exact b,c⟩
theorem cm.nV{H H':Hp}{F L N:Addr}{o:HO}(k:cm F L H H')(e:H N=none):cm F L H (upd H' N o):=λb p h n m=>by
 rw[ao (aq h e)]
 exact k b p h n m
theorem MW{T:(Bool->Hp->Prop)->Prop}{Qf:Bool->Hp->Prop}{c:Bool}(S:Hp->Prop)(h:∀Qc:Bool->Hp->Prop,(∀H',S H'->Qc c H')->T Qc)(x:∀H',S H'->Qf c H'):T Qf:=h Qf x
def iU:List Str:=["and","not","or"]
structure mV (ss:List Str):Prop where
 once:ss.Nodup
 words:∀s∈ss,∃l,i8 l/\s=aS l
 no:∀s∈ss,s ∉ iU
theorem mV.perm{ss rs:List Str}(h:mV ss)(p:rs.Perm ss):mV rs:=⟨p.nodup_iff.mpr h.once,λs hs=>h.words s (p.mem_iff.mp hs),λs hs=>h.no s (p.mem_iff.mp hs)⟩
structure Met (B:List Str)(l:List Nat)(vis:List Str):Prop where
 once:vis.Nodup
 sub:∀v∈vis,v∈B
 ex:∃r0,rk l % 17576=(r0+vis.length) % 17576/\∀(j:Nat) (v:Str),vis[j]? =some v->∃l',v=aS l'/\rk l' % 17576=(r0+j) % 17576
theorem Met.step{B:List Str}{l:List Nat}{vis:List Str}(h:Met B l vis)(hw:i8 l)(hB:B.length<=20)(hl:aS l∈B):Met B (pD l) (vis++[aS l]):=by
 obtain⟨r0,h1,h2⟩:=h.ex
 have len:=oU h.once h.sub
 have fresh:aS l ∉ vis:=λz=>by
  obtain⟨j,hj⟩:=Bl z
  obtain⟨l',e,e2⟩:=h2 j _ hj
  rw[<-MU e,h1] at e2
  have:=(AD.mp hj).1
  omega
 refine⟨?_,λv hv=>?_,r0,?_,λj v hj=>?_⟩
 ·rw[BR]
  exact⟨h.once,by simp,λa ha b hb e=>fresh (by rw[<-AI.mp hb,<-e];exact ha)⟩
 ·rcases AS.mp hv with z | z
  ·exact h.sub v z
  ·rw[AI.mp z];exact hl
 ·rw[UL hw,AH]
  show(rk l+1) % 17576=(r0+(vis.length+1)) % 17576
  omega
 ·by_cases lt:j<vis.length
  ·rw[Am lt] at hj
   exact h2 j v hj
  ·have hl2:=(AD.mp hj).1
   rw[AH] at hl2
   have hl3:j<vis.length+1:=hl2
   have e:j=vis.length:=by omega
   subst e
   rw[Ae (AM _),B4] at hj
   have e2:aS l=v:=AZ hj
   exact⟨l,e2.symm,h1⟩
def RW:Sp:=λvs H Q _=>∃(F L:Addr) (m:Nat),vs=[.ref F,.int m]/\aZ H F L/\m<=6/\
 ∀(D:Addr) (ss:List Str) (H':Hp),H D=none->cm F L H H'->aZ H' F L->H' D=some (.tup (ss.map V.str))->ss.length=m->mV ss->G' ss=true->Q (.ref D) H'
theorem gq:aU ["_law_feed_here","_law_many","_law_found","_law_k","_law_signs","_law_word"] ["_law_feed_here","_law_many"] (aj eZ):=⟨rfl,rfl,rfl,by decide+kernel,rfl,by decide+kernel,by decide+kernel⟩
theorem JV{a:cb}(T:Txt K mg a):aV P w K mg base bK 2 a.lE a.nG ["_law_feed_here","_law_many"] RW:=by
 have bw:=jg (P:=P) (w:=w) (base:=base) T
 have MX:=JU (P:=P) (w:=w) (base:=base) T
 refine T.L3.ok gq (λvs H Q E h=>?_) (λcdv A outer s H vs Q E hr h=>?_)
 ·obtain⟨F,L,m,rfl,_⟩:=h
  rfl
 ·obtain⟨F,L,m,rfl,hf,hm,k⟩:=h
  have bf:aQ 1 _:=hr
  have JW:aQ 1 _:=hr
  refine⟨_,(ah (av (i:=2) gq.nd rfl (AW rfl) (bt ag))
  (ah (aY Af rfl (bh rfl T.bV (ae (pv 1) ag)) (ay (i:=3) gq.nd rfl (AW rfl))
   (ah (cO (i:=4) (aG.mk' (esc:=aj eZ) (N:=["_law_feed_here","_law_many","_law_found","_law_k","_law_signs","_law_word"]) (own:=["_law_sign"]) (aI:=["_law_feed_here"]) (bD:=[0]) rfl rfl (by decide+kernel)) rfl (bh rfl T.bV (ae (aH cK ak (aE bw bf rfl T.bS T.bT T.bU .nil aN (ae (pv 0) (ae ak ag)))) ag)) (λ_ _ _ _=>(ay (i:=0) (show BK (["_law_sign","_law_feed_here"]:List Str) by decide+kernel) rfl (AW rfl))) (λ_ _ _ _=>br) (λ_ _ _ _=>(aE bw bf rfl T.bS T.bT T.bU .nil aN (ae (pv 1) (ae ak ag)))) gq.nd rfl rfl)
   (ah (av (i:=5) gq.nd rfl (AW rfl) (cC Gi PySem.F.slot_str_join PySem.F.type_str_join (N_ K) cq (ae (ck (aG.mk' (esc:=aj eZ) (N:=["_law_feed_here","_law_many","_law_found","_law_k","_law_signs","_law_word"]) (own:=["_law_sign"]) (aI:=[]) (bD:=[]) rfl rfl (by decide+kernel)) rfl (bM (pv 4)) (λ_ _ _ _=>(ay (i:=0) (show BK (["_law_sign"]:List Str) by decide+kernel) rfl (AW rfl))) (λ_ _ _ _=>br) (λ_ _ _ _=>(aC KJ cq (pv 0) (λ_ _=>rfl)))) ag)))
   (ah (fg Af (PW.pt (rj (aX (oS K) (pv 5) (pv 2) (by with_unfolding_all rfl)) (oG (aX (oS K) (pv 5) (cB (ae cq (ae cq (ae cq ag)))) (by with_unfolding_all rfl)))))
    (au (av (i:=5) gq.nd rfl (AW rfl) (aE MX JW rfl T.LZ T.L_ T.L0 .nil aN (ae (pv 5) ag)))))
   (au (bG (cC Ai Au Av bz (pv 2) (ae (pv 5) ag))))))))
  (au (aO (aW (a_ K) (by rfl) T.bW bB (ae (aF (yN K) (by rfl) T.qS oQ (ae (pv 2) ag)) ag)))))),?_⟩
  have p3:(3:Nat)<2 ^ 1000:=Ab (show 3<2 ^ 2 by decide) (BA (by decide) (by decide))
  have p26:(26:Nat)<2 ^ 1000:=Ab (show 26<2 ^ 6 by decide) (BA (by decide) (by decide))
  have big:(100:Nat)<=sizeLine:=by decide
  refine⟨by decide,λN hN=>?_⟩
  have nN:=hf.sJ hN
  refine⟨_,rfl,_,rfl,by omega,by omega,gZ (n:=(m:Int).toNat) (λi σ H'=>∃(fs:List Str) (v3 v4 v5:Option V),σ=[some (.ref F),some (.int (m:Nat)),some (.ref N),v3,v4,v5]/\cm F L H H'/\aZ H' F L/\H' N=some (.lst (fs.map V.str))/\fs.length=i/\mV fs)
   ⟨[],none,none,none,rfl,(Same.new hN).kb2,hf.same (Same.new hN),af,rfl,⟨G8,λs hs=>(by cases hs),λs hs=>(by cases hs)⟩⟩ ?_ ?_⟩
  ·rintro i σ H1 hi ⟨fs,v3,v4,v5,rfl,k1,f1,n1,lf,ok⟩
   rw[AY] at hi
   refine⟨_,rfl,F,L,3,rfl,f1,by decide,p3,λt H2 t1 k2 f2=>⟨_,_,rfl,rfl,_,rfl,by omega,by omega,λC hC=>?_⟩⟩
   have n2:=k2 _ _ n1 nN.1 nN.2
   have nC:=f2.sJ hC
   have nNC:N≠C:=aq n2 hC
   refine fh (λj σ H'=>∃(rs:List Nat) (v:Option V),σ=[v,some (.ref F)]/\cm F L H2 H'/\aZ H' F L/\H' C=some (.lst (rs.map λr=>V.int (r:Nat)))/\rs.length=j/\∀r∈rs,r<26)
    ⟨[],none,rfl,(Same.new hC).kb2,f2.same (Same.new hC),af,rfl,λr hr=>(by cases hr)⟩ ?_ ?_
   ·rintro j σ H3 hj ⟨rs,v,rfl,k3,f3,c3,lr,hrs⟩
    refine⟨_,rfl,F,L,26,rfl,f3,by decide,p26,λr H4 r1 k4 f4=>?_⟩
    have c4:=k4 _ _ c3 nC.1 nC.2
    refine⟨_,c4,?_,rs++[r],_,rfl,cm.nV (k3.trans k4) hC,f4.upd nC,?_,?_,λx hx=>?_⟩
    ·rw[AA];omega
    ·rw[af,AF];rfl
    ·rw[AH,lr];rfl
    ·rcases AS.mp hx with z | z
     ·exact hrs x z
     ·rw[AI.mp z];exact r1
   rintro σ H3 ⟨rs,v,rfl,k3,f3,c3,lr,hrs⟩
   have n3:=k3 _ _ n2 nN.1 nN.2
   have lr':rs.length=t+1:=by omega
   dsimp only[az]
   refine⟨rfl,_,rfl,C,rfl,⟨_,.of c3⟩,λD hD=>?_⟩
   refine cR (xs:=rs.map λr=>V.int (r:Nat)) (λj σ H'=>∃(v:Option V),σ=[v]/\Same H3 H'/\H' D=some (.lst (((rs.take j).map λc=>aS [c]).map V.str)))
    ⟨none,?sg,Same.new hD,af⟩ (λj σ H' _ ⟨_,_,s,_⟩=>.of (s _ _ c3)) ?_ ?_
   case sg=>rfl
   ·rintro j y σ H4 hy ⟨v,rfl,s4,e4⟩
    rw[AJ] at hy
    obtain⟨r,er,rfl⟩:=A9.mp hy
    have hj:j<rs.length:=(AD.mp er).1
    refine⟨_,rfl,my,_,97+r,rfl,rfl,yf,ax (MT r (hrs r (AL er))),_,e4,?_,_,rfl,s4.kbn hD KB.write,?_⟩
    ·rw[AA,AA,Ao];omega
    ·rw[af,take_snoc er,AF,AF];rfl
   rintro σ H4 ⟨v,rfl,s4,e4⟩
   rw[AA,Ay] at e4
   refine⟨"",D,rs.map λc=>aS [c],rfl,rfl,.of e4,?jl,λz hz X_=>?_⟩
   case jl=>
    have e0:(Str.length ("":Str))=0:=rfl
    have e1:((rs.map λc=>aS [c]).map (·.length)).sum=rs.length:=by
     rw[Dc]
     have:(λc=>(aS [c]).length)=λ_=>1:=funext λc=>fX [c]
     show(rs.map λc=>(aS [c]).length).sum=_
     rw[this,Gq]
     induction rs.length with
     | zero=>rfl
     | succ n ih=>rw[Bz,List.sum_cons,ih];omega
    rw[e0,e1];omega
   rw[UN rs (by omega)] at X_
   subst X_
   have wd:i8 rs:=⟨by omega,by omega,hrs⟩
   have n4:=s4 _ _ n3
   have k4:cm F L H H4:=((k1.trans k2).trans k3).trans s4.kb2
   have f4:=f3.same s4
   dsimp only[az]
   refine ud (λmm σ H'=>∃(l:List Nat) (vis:List Str),mm=50-vis.length/\σ=[some (.ref F),some (.int (m:Nat)),some (.ref N),some (.int (0+(i:Int))),some (.ref C),some (.str (aS l))]/\Same H4 H'/\i8 l/\Met (fs++iU) l vis)
    ⟨_,rs,[],rfl,rfl,.refl _,wd,G8,λv hv=>(by cases hv),rk rs,rfl,λj v hj=>(by simp at hj)⟩ ?_ ?_
   ·rintro mm σ H5 ⟨l,vis,rfl,rfl,s5,hw,met⟩
    have n5:=s5 _ _ n4
    refine MW (c:=decide (aS l∈fs++iU)) (Same H5) (λQc hq=>?_) (λH6 s6=>?_)
    ·refine⟨_,rfl,_,rfl,N,_,rfl,.inl (.of n5),rfl,RV fs,_,rfl,?_⟩
     rw[if_neg An,qE]
     refine cI (λz=>?_) (λz=>?_)
     ·have z':aS l∈fs:=of_decide_eq_true z
      have:=hq H5 (.refl _)
      rwa [decide_eq_true (AS.mpr (.inl z'))] at this
     ·have z':aS l ∉ fs:=λy=>z (decide_eq_true y)
      refine⟨_,rfl,by show 3<=sizeLine;decide,λZ hZ=>⟨Z,_,rfl,.inr (.of af),rfl,rfl,_,rfl,?_⟩⟩
      have:=hq _ (Same.new (o:=.tup [.str "and",.str "not",.str "or"]) hZ)
      have ee:decide (aS l∈fs++iU)=(if false=true then !inV (V.str (aS l)) [.str "and",.str "not",.str "or"] else inV (V.str (aS l)) [.str "and",.str "not",.str "or"]):=by
       rw[if_neg (by decide),show([.str "and",.str "not",.str "or"]:List V)=iU.map V.str from rfl,qE]
       exact decide_eq_decide.mpr ⟨λy=>(AS.mp y).resolve_left z',λy=>AS.mpr (.inr y)⟩
      rw[ee] at this
      exact this
    ·refine cI (λz=>?_) (λz=>?_)
     ·have z':=of_decide_eq_true z
      have lB:(fs++iU).length<=20:=by rw[AH];show fs.length+3<=20;omega
      have ZF:=met.step hw lB z'
      have lv:=oU met.once met.sub
      refine⟨_,rfl,l,rfl,hw,50-(vis++[aS l]).length,?_,pD l,vis++[aS l],rfl,rfl,s5.trans s6,OX hw,ZF⟩
      rw[AH]
      show 50-(vis.length+1)<_
      omega
     ·have z':aS l ∉ fs++iU:=λy=>z (decide_eq_true y)
      have n6:=s6 _ _ n5
      refine⟨_,rfl,.inl ⟨rfl,_,.of n6⟩,_,rfl,N,_,_,rfl,rfl,n6,?_,fs++[aS l],_,_,_,rfl,?_,?_,?_,?_,?_⟩
      ·rw[AA];omega
      ·exact cm.nV (k4.trans (s5.trans s6).kb2) hN
      ·exact(f4.same (s5.trans s6)).upd nN
      ·rw[af,AF];rfl
      ·rw[AH,lf];rfl
      ·refine⟨?_,λs hs=>?_,λs hs=>?_⟩
       ·rw[BR]
        exact⟨ok.once,by simp,λa ha b hb e=>z' (AS.mpr (.inl (by rw[<-AI.mp hb,<-e];exact ha)))⟩
       ·rcases AS.mp hs with y | y
        ·exact ok.words s y
        ·exact⟨l,hw,AI.mp y⟩
       ·rcases AS.mp hs with y | y
        ·exact ok.no s y
        ·rw[AI.mp y];exact λx=>z' (AS.mpr (.inr x))
   ·rintro σ H Q Q' hQ ⟨v,e1,v2,e2,a,xs,e3,e4,e5,e6,b,e7,q⟩
    refine⟨v,e1,v2,e2,a,xs,e3,e4,e5,e6,b,e7,?_⟩
    revert q
    cases b with
    | true=>exact λq=>hQ _ _ q
    | false=>
     rintro⟨v,e1,z,q⟩
     refine⟨v,e1,z,λp hp=>?_⟩
     obtain⟨a,xs,e3,e4,e5,e6,b,e7,q⟩:=q p hp
     exact⟨a,xs,e3,e4,e5,e6,b,e7,hQ _ _ q⟩
  ·rintro σ H1 ⟨fs,v3,v4,v5,rfl,k1,f1,n1,lf,ok⟩
   rw[AY] at lf
   refine⟨_,rfl,N,fs,rfl,.of n1,by omega,λp ss hp perm Qu=>?_⟩
   have sp:=Same.new (o:=.lst (ss.map V.str)) hp
   refine⟨p,_,rfl,.inl ⟨.of af,λD hD=>?_⟩⟩
   have sD:=Same.new (o:=.tup (ss.map V.str)) hD
   have kk:=k1.trans sp.kb2
   have ff:=f1.same sp
   exact k D ss _ (ff.lo kk hD) (kk.trans sD.kb2) (ff.same sD) af (by rw[perm.length_eq,lf]) (ok.perm perm) Qu
theorem Moves.at{n b:Nat}{mv:List (List Nat)}(h:Moves n b mv){r f:Nat}(hr:r<n)(hf:f<b):((mv.getD r []).getD f 0)<n:=by
 have h1:mv[r]? =some (mv.getD r []):=item_at [] (by rw[h.len];exact hr)
 obtain⟨l1,l2⟩:=h.lead _ (AL h1)
 have h2:=item_at 0 (show f<(mv.getD r []).length by omega)
 exact l2 _ (AL h2)
def bg(f:Nat->Nat):Nat->Nat->Nat
 | 0,x=>x
 | k+1,x=>f (bg f k x)
theorem mW(f:Nat->Nat):∀a b x,bg f (a+b) x=bg f a (bg f b x)
 | 0,b,x=>by rw[CN];rfl
 | a+1,b,x=>by rw[Nat.succ_add];exact congrArg f (mW f a b x)
theorem jm{f:Nat->Nat}{n:Nat}(h:∀x,x<n->f x<n):∀k x,x<n->bg f k x<n
 | 0,x,hx=>hx
 | k+1,x,hx=>h _ (jm h k x hx)
theorem UO:∀(n:Nat) (g:Nat->Nat),(∀k,k<=n->g k<n)->∃i j,i<j/\j<=n/\g i=g j
 | 0,g,h=>absurd (h 0 (AM _)) (Bw _)
 | n+1,g,h=>by
  by_cases e:∃i,i<=n/\g i=g (n+1)
  ·obtain⟨i,hi,e⟩:=e
   exact⟨i,n+1,by omega,AM _,e⟩
  ·have ne:∀i,i<=n->g i≠g (n+1):=λi hi z=>e ⟨i,hi,z⟩
   have hv:=h (n+1) (AM _)
   obtain⟨i,j,hij,hj,eq⟩:=UO n (λk=>if g (n+1)<g k then g k-1 else g k) (λk hk=>by
    have h1:=h k (by omega)
    have h2:=ne k hk
    show(if g (n+1)<g k then g k-1 else g k)<n
    split<;>omega)
   refine⟨i,j,hij,by omega,?_⟩
   have h1:=ne i (by omega)
   have h2:=ne j hj
   have eq':(if g (n+1)<g i then g i-1 else g i)=(if g (n+1)<g j then g j-1 else g j):=eq
   split at eq'<;>split at eq'<;>omega
theorem ring{f:Nat->Nat}{n r:Nat}(h:∀x,x<n->f x<n)(hr:r<n):∃p,0<p/\p<=n/\bg f p (bg f n r)=bg f n r:=by
 obtain⟨i,j,hij,hj,e⟩:=UO n (λk=>bg f k r) (λk _=>jm h k r hr)
 refine⟨j-i,by omega,by omega,?_⟩
 have e1:bg f n r=bg f (n-j) (bg f j r):=by rw[<-mW];congr 1;omega
 have e2:bg f (j-i) (bg f n r)=bg f (n-i) (bg f j r):=by rw[e1,<-mW];congr 1;omega
 have e3:bg f n r=bg f (n-i) (bg f i r):=by rw[<-mW];congr 1;omega
 rw[e2,e3]
 exact congrArg _ e.symm
theorem lW(f:Nat->Nat):∀k x,bg f k (f x)=bg f (k+1) x
 | 0,_=>rfl
 | k+1,x=>congrArg f (lW f k x)
def jn(f:Nat->Nat)(n x m:Nat):Prop:=(∃k,m=bg f k (bg f n x))/\∀k,m<=bg f k (bg f n x)
theorem jn.next{f:Nat->Nat}{n x m m':Nat}(h:∀x,x<n->f x<n)(hx:x<n)(a:jn f n x m)(b:jn f n (f x) m'):m'=m:=by
 obtain⟨p,p0,_,hp⟩:=ring h hx
 have e:bg f n (f x)=f (bg f n x):=lW f n x
 unfold jn at a b
 rw[e] at b
 generalize bg f n x=c at a b hp
 obtain⟨⟨k1,e1⟩,l1⟩:=a
 obtain⟨⟨k2,e2⟩,l2⟩:=b
 rw[lW] at e2
 have h1:=l1 (k2+1)
 have h3:bg f k1 c=bg f (k1+(p-1)) (f c):=by
  rw[lW,show k1+(p-1)+1=k1+p by omega,mW,hp]
 have h2:=l2 (k1+(p-1))
 rw[<-h3] at h2
 omega
def RX:Sp:=λvs H Q _=>∃(M:Addr) (ps:List Addr) (n b:Nat) (mv:List (List Nat)),vs=[.ref M]/\H M=some (.lst (ps.map V.ref))/\cx H ps (mv.map ai)/\Moves n b mv/\0<b/\n<=2000/\
 ∀(D:Addr) (rs:List Nat) (H':Hp),H D=none->Same H H'->H' D=some (.lst ((ai rs).map V.int))->rs.length=n->(∀r∈rs,r<n)->(∀r,r<n->rs.getD (stp mv r 0) 0=rs.getD r 0)->Q (.ref D) H'
theorem cj:aU ["_law_moves","_law_found","_law_room","_law_at","_law_turn","_law_ring"] ["_law_moves"] (aj g9):=⟨rfl,rfl,rfl,by decide+kernel,rfl,by decide+kernel,by decide+kernel⟩
theorem JX{a:cb}(T:Txt K mg a):aV P w K mg base bK 1 a.je a.jQ ["_law_moves"] RX:=by
 refine T.vz.ok cj (λvs H Q E h=>?_) (λcdv A outer s H vs Q E hr h=>?_)
 ·obtain⟨M,ps,n,b,mv,rfl,_⟩:=h
  rfl
 ·obtain⟨M,ps,n,b,mv,rfl,eM,tp,hm,hb,hn,k⟩:=h
  refine⟨_,(ah (av (i:=1) cj.nd rfl (AW rfl) (bt ag))
  (ah (aY Af rfl (bh rfl T.bV (ae (aF (aP K) (by rfl) T.cg bI (ae (pv 0) ag)) ag)) (ay (i:=2) cj.nd rfl (AW rfl))
   (ah (av (i:=3) cj.nd rfl (AW rfl) (pv 2))
   (ah (aY Af rfl (bM (pv 0)) (ay (i:=4) cj.nd rfl (AW rfl))
    (au (av (i:=3) cj.nd rfl (AW rfl) (aC (aD K) (aC (bo K) (pv 0) (pv 3) (λ_ _=>rfl)) ak (λ_ _=>rfl)))))
   (ah (av (i:=5) cj.nd rfl (AW rfl) (bt (ae (pv 3) ag)))
   (ah (fg Af (aX jL (aC (aD K) (aC (bo K) (pv 0) (aC (bo K) (pv 5) (pN mD ak) (λ_ _=>rfl)) (λ_ _=>rfl)) ak (λ_ _=>rfl)) (pv 3) (bj _))
    (au (bG (cC Ai Au Av bz (pv 5) (ae (aC (aD K) (aC (bo K) (pv 0) (aC (bo K) (pv 5) (pN mD ak) (λ_ _=>rfl)) (λ_ _=>rfl)) ak (λ_ _=>rfl)) ag)))))
   (au (bG (cC Ai Au Av bz (pv 1) (ae (aF (vm K rfl) (by rfl) T.Qg K5 (ae (pv 5) ag)) ag)))))))))
  (au (aO (pv 1))))),?_⟩
  have big:(10000:Nat)<=sizeLine:=by decide
  have lp:ps.length=n:=by rw[As tp,AA,hm.len]
  let f:Nat->Nat:=λx=>(mv.getD x []).getD 0 0
  have hf:∀x,x<n->f x<n:=λx hx=>hm.at hx hb
  have look:∀{H':Hp} (x:Nat),Same H H'->x<n->bC K H' M (ps.map V.ref)/\jb (ps.map V.ref) (x:Int)=some (.ref (ps.getD x 0))/\bN K H' (ps.getD x 0) ((ai (mv.getD x [])).map V.int)/\jb ((ai (mv.getD x [])).map V.int) 0=some (.int (f x:Nat)):=λx s hx=>by
   obtain⟨h1,h2,h3⟩:=hm.row tp hx
   exact⟨.of (s _ _ eM),ax (by rw[AJ,h1];rfl),.of (s _ _ h2),ax (j:=0) (cG (by omega))⟩
  refine aA λY hY=>?_
  refine⟨by decide,λD hD=>?_⟩
  dsimp only[az]
  subst hY
  refine aA λY hY=>?_
  have sD:=Same.new (o:=.lst []) hD
  have nMD:M≠D:=aq eM hD
  refine⟨_,rfl,_,n,rfl,.inl ⟨_,.of (sD _ _ eM),by rw[AA,lp]⟩,_,rfl,by omega,by omega,cP (n:=(n:Int).toNat) (λi σ H'=>∃(rs:List Nat) (v2 v3 v4 v5:Option V),σ=[some (.ref M),some (.ref D),v2,v3,v4,v5]/\Same H H'/\H' D=some (.lst ((ai rs).map V.int))/\rs.length=i/\(∀r∈rs,r<n)/\∀j,j<i->jn f n j (rs.getD j 0))
   ⟨[],none,none,none,none,rfl,sD,af,rfl,λr hr=>(by cases hr),λj hj=>absurd hj (Bw _)⟩ ?_ ?_⟩
  ·rintro i σ H1 N hN hi ⟨rs,v2,v3,v4,v5,rfl,s1,d1,lr,hrs,hra⟩
   rw[AY] at hi
   have ei:(0:Int)+(i:Int)=((bg f 0 i:Nat):Int):=by show _=(i:Int);omega
   dsimp only[az]
   refine aA λY2 de=>?_
   refine⟨_,rfl,?_⟩
   dsimp only[az]
   subst de
   refine aA λY2 de=>?_
   refine⟨_,rfl,M,rfl,⟨_,.of (s1 _ _ eM)⟩,g5 (xs:=ps.map V.ref) (λj σ H'=>∃v4:Option V,σ=[some (.ref M),some (.ref D),some (.int (0+(i:Int))),some (.int (bg f j i:Nat)),v4,v5]/\H'=H1)
    ⟨v4,?st,rfl⟩ (λj σ H' _ ⟨_,_,e⟩=>by rw[e];exact .of (s1 _ _ eM)) ?_ ?_⟩
   case st=>rw[<-ei];rfl
   ·rintro j x σ H2 N2 lQ hx ⟨v4,rfl,rfl⟩
    obtain⟨l1,l2,l3,l4⟩:=look (bg f j i) s1 (jm hf j i hi)
    exact⟨_,rfl,_,rfl,M,_,_,_,rfl,rfl,l1,l2,_,_,_,_,rfl,rfl,l3,l4,lQ _ _ ⟨some x,rfl,rfl⟩⟩
   rintro σ H2 ⟨v4,rfl,rfl⟩
   rw[AA,lp]
   have hat:=jm hf n i hi
   obtain⟨p,hp0,hpn,hp⟩:=ring hf hi
   generalize OY:bg f n i=at_ at hat hp ⊢
   subst de
   dsimp only
   refine aA λY2 de=>?_
   refine⟨_,rfl,by show 1<=sizeLine;decide,λR hR=>?_⟩
   have sR:=Same.new (o:=.lst [.int (at_:Nat)]) hR
   have MY:D≠R:=aq d1 hR
   have UP:H R=none:=s1.free hR
   dsimp only[az]
   subst de
   refine aA λY2 de=>?_
   refine j1 (λm σ H'=>∃(ks:List Nat) (j:Nat),m=p-j/\j<p/\σ=[some (.ref M),some (.ref D),some (.int (0+(i:Int))),some (.int (at_:Nat)),v4,some (.ref R)]/\Same H H'/\H' D=some (.lst ((ai rs).map V.int))/\H' R=some (.lst ((ai (ks++[bg f j at_])).map V.int))/\ks.length=j/\(∀x∈ks,x<n)/\ks=(Ad j).map λk=>bg f k at_)
    ⟨_,[],0,rfl,hp0,rfl,s1.trans sR,by rw[ao MY];exact d1,af,rfl,λx hx=>(by cases hx),rfl⟩ ?_ ?_
   ·rintro m σ H2 N3 Ii ⟨ks,j,rfl,hj,rfl,s2,d2,r2,lk,hks,ek⟩
    have hc:=jm hf j at_ hat
    have stp:bg f (j+1) at_=f (bg f j at_):=rfl
    obtain⟨l1,l2,l3,l4⟩:=look (bg f j at_) s2 hc
    have lst:∀c:Nat,(ai (ks++[c])).map V.int=(ai ks).map V.int++[.int (c:Nat)]:=λc=>by rw[aR,AF];rfl
    have la:jb ((ai (ks++[bg f j at_])).map V.int) (-1)=some (.int (bg f j at_:Nat)):=by rw[lst];exact wO _ _
    have len:((ai (ks++[bg f j at_])).map V.int).length<sizeLine:=by rw[AA,aB,AH,lk];show j+1<_;omega
    generalize hcj:bg f j at_=c at*
    refine⟨_,rfl,_,rfl,_,rfl,R,_,_,_,rfl,rfl,.of r2,la,M,_,_,_,rfl,rfl,l1,l2,_,_,_,_,rfl,rfl,l3,l4,_,rfl,rfl,_,rfl,?_⟩
    refine cI (λz=>?_) (λzz=>?_)
    ·have ne:f c≠at_:=λy=>by rw[y] at z;simp at z
     have lt:j+1<p:=by
      rcases FK (j+1) p with y | y
      ·exact y
      ·have e:p=j+1:=by omega
       rw[e,stp] at hp
       exact absurd hp ne
     refine⟨_,rfl,.inl ⟨rfl,_,.of r2⟩,_,rfl,_,rfl,_,rfl,R,_,_,_,rfl,rfl,.of r2,la,M,_,_,_,rfl,rfl,l1,l2,_,_,_,_,rfl,rfl,l3,l4,R,_,_,rfl,rfl,r2,len,Ii _ _ (p-(j+1)) (by omega) ⟨ks++[c],j+1,rfl,lt,rfl,s2.kbn UP KB.write,by rw[ao MY];exact d2,?_,by rw[AH,lk];rfl,λx hx=>?_,by rw[BD,AF,ek];exact congrArg (λq=>(Ad j).map (λk=>bg f k at_)++[q]) hcj.symm⟩⟩
     ·rw[af,stp,aR (ks++[c]),AF];rfl
     ·rcases AS.mp hx with y | y
      ·exact hks x y
      ·rw[AI.mp y];exact hc
    ·subst de
     dsimp only
     refine⟨_,rfl,.inl ⟨rfl,_,.of d2⟩,_,rfl,R,_,rfl,.of r2,?nn,λm hmm hle=>?_⟩
     case nn=>intro z;have:=congrArg Fu z;rw[aB,AH] at this;cases this
     obtain⟨x,hx,rfl⟩:=Ac.mp hmm
     have hxn:x<n:=by
      rcases AS.mp hx with y | y
      ·exact hks x y
      ·rw[AI.mp y];exact hc
     refine⟨D,_,_,rfl,rfl,d2,?_,hN _ _ ⟨rs++[x],_,_,_,_,rfl,s2.kbn hD KB.write,?_,by rw[AH,lr];rfl,λr hr=>?_,λq hq=>?_⟩⟩
     ·rw[AA,aB];omega
     ·rw[af,aR,AF];rfl
     ·rcases AS.mp hr with y | y
      ·exact hrs r y
      ·rw[AI.mp y];exact hxn
     ·by_cases UQ:q<i
      ·rw[AQ,Am (by omega),<-AQ];exact hra q UQ
      ·have UR:q=i:=by omega
       subst UR
       rw[AQ,Ae (by omega),show q-rs.length=0 by omega]
       have fc:f c=at_:=D8 λy=>zz (by rw[DA,decide_eq_false_iff_not];intro w;injection w with w;exact y (by omega))
       have all:∀k,bg f k at_∈ks++[c]:=λk=>by
        have eL:ks++[c]=(Ad (j+1)).map λk=>bg f k at_:=by rw[BD,AF,ek];exact congrArg (λq=>(Ad j).map (λk=>bg f k at_)++[q]) hcj.symm
        rw[eL]
        induction k with
        | zero=>exact Ac.mpr ⟨0,A_.mpr (by omega),rfl⟩
        | succ k ih=>
         obtain⟨q,hq,e⟩:=Ac.mp ih
         have hq:=A_.mp hq
         show f (bg f k at_)∈_
         rw[<-e]
         by_cases hqj:q<j
         ·exact Ac.mpr ⟨q+1,A_.mpr (by omega),rfl⟩
         ·have:q=j:=by omega
          subst this
          rw[show f (bg f q at_)=at_ by rw[hcj];exact fc]
          exact Ac.mpr ⟨0,A_.mpr (by omega),rfl⟩
       have ex:∃k,x=bg f k at_:=by
        rcases AS.mp hx with y | y
        ·rw[ek] at y
         obtain⟨k,_,e⟩:=Ac.mp y
         exact⟨k,e.symm⟩
        ·rw[AI.mp y];exact⟨j,hcj.symm⟩
       have le:∀k,x<=bg f k at_:=λk=>by
        have:=hle _ (Ac.mpr ⟨_,all k,rfl⟩)
        omega
       unfold jn
       rw[OY]
       exact⟨ex,le⟩
   ·rintro σ H Q Q' hQ ⟨v1,e1,v2,e2,v3,e3,a1,x1,i1,w1,e4,e5,h6,h7,a2,x2,i2,w2,e8,e9,h10,h11,a3,x3,i3,w3,ME,US,h14,h15,v4,UT,UU,b,UW,q⟩
    exact⟨v1,e1,v2,e2,v3,e3,a1,x1,i1,w1,e4,e5,h6,h7,a2,x2,i2,w2,e8,e9,h10,h11,a3,x3,i3,w3,ME,US,h14,h15,v4,UT,UU,b,UW,hQ _ _ q⟩
  ·rintro σ H1 ⟨rs,v2,v3,v4,v5,rfl,s1,d1,lr,hrs,hra⟩
   rw[AY] at lr hra
   subst hY
   exact⟨_,rfl,k D rs H1 hD s1 d1 lr hrs λr hr=>(hra r hr).next hf hr (hra _ (hf r hr))⟩
def OZ:Sp:=λvs H Q _=>∃(M:Addr) (ps:List Addr) (n b:Nat) (mv:List (List Nat)),vs=[.ref M]/\H M=some (.tup (ps.map V.ref))/\cx H ps (mv.map ai)/\Moves n b mv/\0<b/\n<=2000/\
 ∀(D:Addr) (rs:List Nat) (H':Hp),H D=none->Same H H'->H' D=some (.lst ((ai rs).map V.int))->rs.length=n->(∀r∈rs,r<n)->(∀r,r<n->rs.getD (stp mv r 0) 0=rs.getD r 0)->Q (.ref D) H'
theorem y_{a:cb}(T:Txt K mg a):aV P w K mg base bK 1 a.je a.jQ ["_law_moves"] OZ:=by
 refine T.vz.ok cj (λvs H Q E h=>?_) (λcdv A outer s H vs Q E hr h=>?_)
 ·obtain⟨M,ps,n,b,mv,rfl,_⟩:=h
  rfl
 ·obtain⟨M,ps,n,b,mv,rfl,eM,tp,hm,hb,hn,k⟩:=h
  refine⟨_,(ah (av (i:=1) cj.nd rfl (AW rfl) (bt ag))
  (ah (aY Af rfl (bh rfl T.bV (ae (aF (aP K) (by rfl) T.cg bI (ae (pv 0) ag)) ag)) (ay (i:=2) cj.nd rfl (AW rfl))
   (ah (av (i:=3) cj.nd rfl (AW rfl) (pv 2))
   (ah (aY Af rfl (dN (pv 0)) (ay (i:=4) cj.nd rfl (AW rfl))
    (au (av (i:=3) cj.nd rfl (AW rfl) (aC (aD K) (aC (aD K) (pv 0) (pv 3) (λ_ _=>rfl)) ak (λ_ _=>rfl)))))
   (ah (av (i:=5) cj.nd rfl (AW rfl) (bt (ae (pv 3) ag)))
   (ah (fg Af (aX jL (aC (aD K) (aC (aD K) (pv 0) (aC (bo K) (pv 5) (pN mD ak) (λ_ _=>rfl)) (λ_ _=>rfl)) ak (λ_ _=>rfl)) (pv 3) (bj _))
    (au (bG (cC Ai Au Av bz (pv 5) (ae (aC (aD K) (aC (aD K) (pv 0) (aC (bo K) (pv 5) (pN mD ak) (λ_ _=>rfl)) (λ_ _=>rfl)) ak (λ_ _=>rfl)) ag)))))
   (au (bG (cC Ai Au Av bz (pv 1) (ae (aF (vm K rfl) (by rfl) T.Qg K5 (ae (pv 5) ag)) ag)))))))))
  (au (aO (pv 1))))),?_⟩
  have big:(10000:Nat)<=sizeLine:=by decide
  have lp:ps.length=n:=by rw[As tp,AA,hm.len]
  let f:Nat->Nat:=λx=>(mv.getD x []).getD 0 0
  have hf:∀x,x<n->f x<n:=λx hx=>hm.at hx hb
  have look:∀{H':Hp} (x:Nat),Same H H'->x<n->bN K H' M (ps.map V.ref)/\jb (ps.map V.ref) (x:Int)=some (.ref (ps.getD x 0))/\bN K H' (ps.getD x 0) ((ai (mv.getD x [])).map V.int)/\jb ((ai (mv.getD x [])).map V.int) 0=some (.int (f x:Nat)):=λx s hx=>by
   obtain⟨h1,h2,h3⟩:=hm.row tp hx
   exact⟨.of (s _ _ eM),ax (by rw[AJ,h1];rfl),.of (s _ _ h2),ax (j:=0) (cG (by omega))⟩
  refine aA λY hY=>?_
  refine⟨by decide,λD hD=>?_⟩
  dsimp only[az]
  subst hY
  refine aA λY hY=>?_
  have sD:=Same.new (o:=.lst []) hD
  have nMD:M≠D:=aq eM hD
  refine⟨_,rfl,_,n,rfl,.inr ⟨_,.of (sD _ _ eM),by rw[AA,lp]⟩,_,rfl,by omega,by omega,cP (n:=(n:Int).toNat) (λi σ H'=>∃(rs:List Nat) (v2 v3 v4 v5:Option V),σ=[some (.ref M),some (.ref D),v2,v3,v4,v5]/\Same H H'/\H' D=some (.lst ((ai rs).map V.int))/\rs.length=i/\(∀r∈rs,r<n)/\∀j,j<i->jn f n j (rs.getD j 0))
   ⟨[],none,none,none,none,rfl,sD,af,rfl,λr hr=>(by cases hr),λj hj=>absurd hj (Bw _)⟩ ?_ ?_⟩
  ·rintro i σ H1 N hN hi ⟨rs,v2,v3,v4,v5,rfl,s1,d1,lr,hrs,hra⟩
   rw[AY] at hi
   have ei:(0:Int)+(i:Int)=((bg f 0 i:Nat):Int):=by show _=(i:Int);omega
   dsimp only[az]
   refine aA λY2 de=>?_
   refine⟨_,rfl,?_⟩
   dsimp only[az]
   subst de
   refine aA λY2 de=>?_
   refine⟨_,rfl,M,rfl,⟨_,.of (s1 _ _ eM)⟩,kE (xs:=ps.map V.ref) (λj σ H'=>∃v4:Option V,σ=[some (.ref M),some (.ref D),some (.int (0+(i:Int))),some (.int (bg f j i:Nat)),v4,v5]/\H'=H1)
    ⟨v4,?st,rfl⟩ (λj σ H' _ ⟨_,_,e⟩=>by rw[e];exact .of (s1 _ _ eM)) ?_ ?_⟩
   case st=>rw[<-ei];rfl
   ·rintro j x σ H2 N2 lQ hx ⟨v4,rfl,rfl⟩
    obtain⟨l1,l2,l3,l4⟩:=look (bg f j i) s1 (jm hf j i hi)
    exact⟨_,rfl,_,rfl,M,_,_,_,rfl,rfl,l1,l2,_,_,_,_,rfl,rfl,l3,l4,lQ _ _ ⟨some x,rfl,rfl⟩⟩
   rintro σ H2 ⟨v4,rfl,rfl⟩
   rw[AA,lp]
   have hat:=jm hf n i hi
   obtain⟨p,hp0,hpn,hp⟩:=ring hf hi
   generalize OY:bg f n i=at_ at hat hp ⊢
   subst de
   dsimp only
   refine aA λY2 de=>?_
   refine⟨_,rfl,by show 1<=sizeLine;decide,λR hR=>?_⟩
   have sR:=Same.new (o:=.lst [.int (at_:Nat)]) hR
   have MY:D≠R:=aq d1 hR
   have UP:H R=none:=s1.free hR
   dsimp only[az]
   subst de
   refine aA λY2 de=>?_
   refine j1 (λm σ H'=>∃(ks:List Nat) (j:Nat),m=p-j/\j<p/\σ=[some (.ref M),some (.ref D),some (.int (0+(i:Int))),some (.int (at_:Nat)),v4,some (.ref R)]/\Same H H'/\H' D=some (.lst ((ai rs).map V.int))/\H' R=some (.lst ((ai (ks++[bg f j at_])).map V.int))/\ks.length=j/\(∀x∈ks,x<n)/\ks=(Ad j).map λk=>bg f k at_)
    ⟨_,[],0,rfl,hp0,rfl,s1.trans sR,by rw[ao MY];exact d1,af,rfl,λx hx=>(by cases hx),rfl⟩ ?_ ?_
   ·rintro m σ H2 N3 Ii ⟨ks,j,rfl,hj,rfl,s2,d2,r2,lk,hks,ek⟩
    have hc:=jm hf j at_ hat
    have stp:bg f (j+1) at_=f (bg f j at_):=rfl
    obtain⟨l1,l2,l3,l4⟩:=look (bg f j at_) s2 hc
    have lst:∀c:Nat,(ai (ks++[c])).map V.int=(ai ks).map V.int++[.int (c:Nat)]:=λc=>by rw[aR,AF];rfl
    have la:jb ((ai (ks++[bg f j at_])).map V.int) (-1)=some (.int (bg f j at_:Nat)):=by rw[lst];exact wO _ _
    have len:((ai (ks++[bg f j at_])).map V.int).length<sizeLine:=by rw[AA,aB,AH,lk];show j+1<_;omega
    generalize hcj:bg f j at_=c at*
    refine⟨_,rfl,_,rfl,_,rfl,R,_,_,_,rfl,rfl,.of r2,la,M,_,_,_,rfl,rfl,l1,l2,_,_,_,_,rfl,rfl,l3,l4,_,rfl,rfl,_,rfl,?_⟩
    refine cI (λz=>?_) (λzz=>?_)
    ·have ne:f c≠at_:=λy=>by rw[y] at z;simp at z
     have lt:j+1<p:=by
      rcases FK (j+1) p with y | y
      ·exact y
      ·have e:p=j+1:=by omega
       rw[e,stp] at hp
       exact absurd hp ne
     refine⟨_,rfl,.inl ⟨rfl,_,.of r2⟩,_,rfl,_,rfl,_,rfl,R,_,_,_,rfl,rfl,.of r2,la,M,_,_,_,rfl,rfl,l1,l2,_,_,_,_,rfl,rfl,l3,l4,R,_,_,rfl,rfl,r2,len,Ii _ _ (p-(j+1)) (by omega) ⟨ks++[c],j+1,rfl,lt,rfl,s2.kbn UP KB.write,by rw[ao MY];exact d2,?_,by rw[AH,lk];rfl,λx hx=>?_,by rw[BD,AF,ek];exact congrArg (λq=>(Ad j).map (λk=>bg f k at_)++[q]) hcj.symm⟩⟩
     ·rw[af,stp,aR (ks++[c]),AF];rfl
     ·rcases AS.mp hx with y | y
      ·exact hks x y
      ·rw[AI.mp y];exact hc
    ·subst de
     dsimp only
     refine⟨_,rfl,.inl ⟨rfl,_,.of d2⟩,_,rfl,R,_,rfl,.of r2,?nn,λm hmm hle=>?_⟩
     case nn=>intro z;have:=congrArg Fu z;rw[aB,AH] at this;cases this
     obtain⟨x,hx,rfl⟩:=Ac.mp hmm
     have hxn:x<n:=by
      rcases AS.mp hx with y | y
      ·exact hks x y
      ·rw[AI.mp y];exact hc
     refine⟨D,_,_,rfl,rfl,d2,?_,hN _ _ ⟨rs++[x],_,_,_,_,rfl,s2.kbn hD KB.write,?_,by rw[AH,lr];rfl,λr hr=>?_,λq hq=>?_⟩⟩
     ·rw[AA,aB];omega
     ·rw[af,aR,AF];rfl
     ·rcases AS.mp hr with y | y
      ·exact hrs r y
      ·rw[AI.mp y];exact hxn
     ·by_cases UQ:q<i
      ·rw[AQ,Am (by omega),<-AQ];exact hra q UQ
      ·have UR:q=i:=by omega
       subst UR
       rw[AQ,Ae (by omega),show q-rs.length=0 by omega]
       have fc:f c=at_:=D8 λy=>zz (by rw[DA,decide_eq_false_iff_not];intro w;injection w with w;exact y (by omega))
       have all:∀k,bg f k at_∈ks++[c]:=λk=>by
        have eL:ks++[c]=(Ad (j+1)).map λk=>bg f k at_:=by rw[BD,AF,ek];exact congrArg (λq=>(Ad j).map (λk=>bg f k at_)++[q]) hcj.symm
        rw[eL]
        induction k with
        | zero=>exact Ac.mpr ⟨0,A_.mpr (by omega),rfl⟩
        | succ k ih=>
         obtain⟨q,hq,e⟩:=Ac.mp ih
         have hq:=A_.mp hq
         show f (bg f k at_)∈_
         rw[<-e]
         by_cases hqj:q<j
         ·exact Ac.mpr ⟨q+1,A_.mpr (by omega),rfl⟩
         ·have:q=j:=by omega
          subst this
          rw[show f (bg f q at_)=at_ by rw[hcj];exact fc]
          exact Ac.mpr ⟨0,A_.mpr (by omega),rfl⟩
       have ex:∃k,x=bg f k at_:=by
        rcases AS.mp hx with y | y
        ·rw[ek] at y
         obtain⟨k,_,e⟩:=Ac.mp y
         exact⟨k,e.symm⟩
        ·rw[AI.mp y];exact⟨j,hcj.symm⟩
       have le:∀k,x<=bg f k at_:=λk=>by
        have:=hle _ (Ac.mpr ⟨_,all k,rfl⟩)
        omega
       unfold jn
       rw[OY]
       exact⟨ex,le⟩
   ·rintro σ H Q Q' hQ ⟨v1,e1,v2,e2,v3,e3,a1,x1,i1,w1,e4,e5,h6,h7,a2,x2,i2,w2,e8,e9,h10,h11,a3,x3,i3,w3,ME,US,h14,h15,v4,UT,UU,b,UW,q⟩
    exact⟨v1,e1,v2,e2,v3,e3,a1,x1,i1,w1,e4,e5,h6,h7,a2,x2,i2,w2,e8,e9,h10,h11,a3,x3,i3,w3,ME,US,h14,h15,v4,UT,UU,b,UW,hQ _ _ q⟩
  ·rintro σ H1 ⟨rs,v2,v3,v4,v5,rfl,s1,d1,lr,hrs,hra⟩
   rw[AY] at lr hra
   subst hY
   exact⟨_,rfl,k D rs H1 hD s1 d1 lr hrs λr hr=>(hra r hr).next hf hr (hra _ (hf r hr))⟩
theorem aZ.ktu{H H':Hp}{F L:Addr}(h:aZ H F L)(k:cm F L H H'):bF H H':=λb ys e=>by
 obtain⟨ms,n,sd,e1,e2,_⟩:=h.ex
 exact k b _ e (gE e e1 (λz=>nomatch z)) (gE e e2 (λz=>nomatch z))
def MZ:Sp:=λvs H Q _=>∃(F L nm:Addr) (b most:Nat) (ss:List Str),vs=[.ref F,.int b,.ref nm,.int most]/\aZ H F L/\2<=b/\b<=4/\H nm=some (.tup (ss.map V.str))/\ss.length<=3/\0<most/\most<=1000/\
 ∀(ma:Addr) (bs:List Bool) (mv:List (List Nat)) (H':Hp),H ma=none->cm F L H H'->aZ H' F L->dy H' ma nm bs mv->Moves bs.length (b ^ ss.length) mv->0<bs.length->bs.length<=most->(∀r,r<bs.length->bs.getD (stp mv r 0) false=bs.getD r false)->Q (.ref ma) H'
theorem dA:aU ["_law_feed_here","_law_base","_law_names_here","_law_most","_law_many","_law_letters_here","_law_name","_law_moves","_law_room","_law_yes"] ["_law_feed_here","_law_base","_law_names_here","_law_most"] (aj dk):=⟨rfl,rfl,rfl,by decide+kernel,rfl,by decide+kernel,by decide+kernel⟩
theorem yh{a:cb}(T:Txt K mg a):aV P w K mg base bK 2 a.i_ a.kH ["_law_feed_here","_law_base","_law_names_here","_law_most"] MZ:=by
 have bw:=jg (P:=P) (w:=w) (base:=base) T
 have pE:=JX (P:=P) (w:=w) (base:=base) T
 refine T.yS.ok dA (λvs H Q E h=>?_) (λcdv A outer s H vs Q E hr h=>?_)
 ·obtain⟨F,L,nm,b,most,ss,rfl,_⟩:=h
  rfl
 ·obtain⟨F,L,nm,b,most,ss,rfl,hf,hb2,hb4,jH,lss,hm0,hm1,k⟩:=h
  have bf:aQ 1 _:=hr
  have nX:aQ 1 _:=hr
  refine⟨_,(ah (av (i:=4) dA.nd rfl (CZ rfl) (aH cK ak (aE bw bf rfl T.bS T.bT T.bU .nil aN (ae (pv 0) (ae (pv 3) ag)))))
  (ah (av (i:=5) dA.nd rfl (AW rfl) ak)
  (ah (aY Af rfl (dN (pv 2)) (ay (i:=6) dA.nd rfl (AW rfl))
   (au (av (i:=5) dA.nd rfl (AW rfl) (aH dr (pv 5) (pv 1)))))
  (ah (av (i:=7) dA.nd rfl (AW rfl) (bt ag))
  (ah (aY Af rfl (bh rfl T.bV (ae (pv 4) ag)) (ay (i:=8) dA.nd rfl (AW rfl))
   (au (bG (cC Ai Au Av bz (pv 7) (ae (aW (a_ K) (by rfl) T.bW bB (ae (ck (aG.mk' (esc:=aj dk) (N:=["_law_feed_here","_law_base","_law_names_here","_law_most","_law_many","_law_letters_here","_law_name","_law_moves","_law_room","_law_yes"]) (own:=["_law_letter"]) (aI:=["_law_feed_here","_law_many"]) (bD:=[0,4]) rfl rfl (by decide+kernel)) rfl (bh rfl T.bV (ae (pv 5) ag)) (λ_ _ _ _=>(ay (i:=0) (show BK (["_law_letter","_law_feed_here","_law_many"]:List Str) by decide+kernel) rfl (AW rfl))) (λ_ _ _ _=>br) (λ_ _ _ _=>(aE bw bf rfl T.bS T.bT T.bU .nil aN (ae (pv 1) (ae (pv 2) ag))))) ag)) ag)))))
  (ah (av (i:=9) dA.nd rfl (CZ rfl) (ck (aG.mk' (esc:=aj dk) (N:=["_law_feed_here","_law_base","_law_names_here","_law_most","_law_many","_law_letters_here","_law_name","_law_moves","_law_room","_law_yes"]) (own:=["_law_room"]) (aI:=["_law_feed_here"]) (bD:=[0]) rfl rfl (by decide+kernel)) rfl (bM (pv 7)) (λ_ _ _ _=>(ay (i:=0) (show BK (["_law_room","_law_feed_here"]:List Str) by decide+kernel) rfl (AW rfl))) (λ_ _ _ _=>br) (λ_ _ _ _=>(f_ ic (aE bw bf rfl T.bS T.bT T.bU .nil aN (ae (pv 1) (ae ak ag))) ak (bj _)))))
  (au (aO (cB (ae (pv 2) (ae (aW (a_ K) (by rfl) T.bW bB (ae (ck (aG.mk' (esc:=aj dk) (N:=["_law_feed_here","_law_base","_law_names_here","_law_most","_law_many","_law_letters_here","_law_name","_law_moves","_law_room","_law_yes"]) (own:=["_law_room"]) (aI:=["_law_yes"]) (bD:=[9]) rfl rfl (by decide+kernel)) rfl (bM (aE pE nX rfl T.vA T.vB T.vC .nil aN (ae (pv 7) ag))) (λ_ _ _ _=>(ay (i:=0) (show BK (["_law_room","_law_yes"]:List Str) by decide+kernel) rfl (AW rfl))) (λ_ _ _ _=>br) (λ_ _ _ _=>(aC (bo K) (pv 1) (pv 0) (λ_ _=>rfl)))) ag)) (ae (aW (a_ K) (by rfl) T.bW bB (ae (pv 7) ag)) ag)))))))))))),?_⟩
  have yi:(2 ^ 10:Nat)<2 ^ 1000:=DF (by decide) (by decide)
  have big:(10000:Nat)<=sizeLine:=by decide
  have small:∀x:Nat,x<=1000->x<2 ^ 1000:=λx hx=>Cp (show x<2 ^ 10 by omega) yi
  refine aA λY hY=>?_
  refine⟨_,rfl,_,rfl,F,L,most,rfl,hf,hm0,small _ hm1,λr H1 r1 k1 f1=>⟨_,_,rfl,rfl,?_⟩⟩
  have en:(1:Int)+(r:Int)=((1+r:Nat):Int):=by omega
  dsimp only[az]
  subst hY
  refine aA λY hY=>?_
  dsimp only[gM,tC,az]
  subst hY
  have X0:=hf.ktu k1
  rw[en]
  generalize hN:1+r=n
  have n0:0<n:=by omega
  have n1:n<=most:=by omega
  refine aA λY hY=>?_
  refine⟨_,rfl,nm,rfl,⟨_,.of (X0 _ _ jH)⟩,kE (xs:=ss.map V.str) (λi σ H'=>∃v6:Option V,σ=[some (.ref F),some (.int (b:Nat)),some (.ref nm),some (.int (most:Nat)),some (.int (n:Nat)),some (.int (b ^ i:Nat)),v6,none,none,none]/\H'=H1)
   ⟨none,rfl,rfl⟩ (λi σ H' _ ⟨_,_,e⟩=>by rw[e];exact .of (X0 _ _ jH)) ?_ ?_⟩
  ·rintro i x σ H2 N hN hx ⟨v6,rfl,rfl⟩
   have hi:i<ss.length:=by have:=(AD.mp hx).1;rwa [AA] at this
   refine⟨_,rfl,_,rfl,_,_,rfl,rfl,.inr (by constructor<;>omega),hN _ _ ⟨some x,?_,rfl⟩⟩
   have e1:(b ^ (i+1):Nat)=b ^ i*b:=Bm ..
   have e2:((b ^ i:Nat):Int)*(b:Int)=((b ^ (i+1):Nat):Int):=by rw[e1,Bx]
   rw[<-e2]
   rfl
  rintro σ H2 ⟨v6,rfl,rfl⟩
  rw[AA]
  have yj:0<b ^ ss.length:=DE (by omega)
  have ZG:b ^ ss.length<=64:=BH (EB hb4 _) (BH (BA (show 0<4 by decide) lss) (by decide))
  generalize b ^ ss.length=B at yj ZG k ⊢
  subst hY
  dsimp only
  refine aA λY hY=>?_
  refine⟨by decide,λM hM=>?_⟩
  have nM:=f1.sJ hM
  have vG:=f1.lo k1 hM
  dsimp only[az]
  subst hY
  refine aA λY hY=>?_
  refine⟨_,rfl,_,rfl,by omega,by omega,cP (n:=(n:Int).toNat) (λi σ H'=>∃(ps:List Addr) (mv:List (List Nat)) (v8:Option V),σ=[some (.ref F),some (.int (b:Nat)),some (.ref nm),some (.int (most:Nat)),some (.int (n:Nat)),some (.int (B:Nat)),v6,some (.ref M),v8,none]/\cm F L H H'/\aZ H' F L/\H' M=some (.lst (ps.map V.ref))/\cx H' ps (mv.map ai)/\mv.length=i/\∀l∈mv,l.length=B/\∀x∈l,x<n)
   ⟨[],[],none,rfl,k1.trans (Same.new hM).kb2,f1.same (Same.new hM),af,.nil,rfl,λl hl=>(by cases hl)⟩ ?_ ?_⟩
  ·rintro i σ H2 N hN hi ⟨ps,mv,v8,rfl,k2,f2,m2,sO,lm,ok⟩
   rw[AY] at hi
   refine⟨_,rfl,.inl ⟨rfl,_,.of m2⟩,_,rfl,_,rfl,by omega,by omega,λC hC=>?_⟩
   have nC:=f2.sJ hC
   have hC0:=f2.lo k2 hC
   have nMC:M≠C:=aq m2 hC
   refine fh (λj σ H'=>∃(rs:List Nat) (v:Option V),σ=[v,some (.ref F),some (.int (n:Nat))]/\cm F L H2 H'/\aZ H' F L/\H' C=some (.lst ((ai rs).map V.int))/\rs.length=j/\∀r∈rs,r<n)
    ⟨[],none,?sg,(Same.new hC).kb2,f2.same (Same.new hC),af,rfl,λr hr=>(by cases hr)⟩ ?_ ?_
   case sg=>rfl
   ·rintro j σ H3 hj ⟨rs,v,rfl,k3,f3,c3,lr,hrs⟩
    rw[AY] at hj
    refine⟨_,rfl,_,rfl,F,L,n,rfl,f3,n0,small _ (by omega),λq H4 q1 k4 f4=>?_⟩
    refine⟨_,k4 _ _ c3 nC.1 nC.2,?_,rs++[q],_,rfl,cm.nV (k3.trans k4) hC,f4.upd nC,?_,by rw[AH,lr];rfl,λx hx=>?_⟩
    ·rw[AA,aB];omega
    ·rw[af,aR,AF];rfl
    ·rcases AS.mp hx with z | z
     ·exact hrs x z
     ·rw[AI.mp z];exact q1
   rintro σ H3 ⟨rs,v,rfl,k3,f3,c3,lr,hrs⟩
   rw[AY] at lr
   have m3:=k3 _ _ m2 nM.1 nM.2
   refine⟨C,_,rfl,.inl ⟨.of c3,λD hD=>?_⟩⟩
   have sD:=Same.new (o:=.tup ((ai rs).map V.int)) hD
   have m4:=sD _ _ m3
   have yk:cx (upd H3 D (.tup ((ai rs).map V.int))) ps (mv.map ai):=(sO.keep (f2.ktu k3)).keep sD.kt
   have lps:ps.length=i:=by rw[As sO,AA,lm]
   have ktM:bF (upd H3 D (.tup ((ai rs).map V.int))) (upd (upd H3 D (.tup ((ai rs).map V.int))) M (.lst (ps.map V.ref++[.ref D]))):=bF.lst m4
   refine⟨M,_,_,rfl,rfl,m4,?_,hN _ _ ⟨ps++[D],mv++[rs],_,rfl,?_,?_,?_,?_,by rw[AH,lm];rfl,λl hl=>?_⟩⟩
   ·rw[AA,lps];omega
   ·exact cm.nV ((k2.trans k3).trans sD.kb2) vG
   ·exact(f3.same sD).upd nM
   ·rw[af,AF];rfl
   ·rw[AF]
    exact cf (yk.keep ktM) (.cons (ktM _ _ af) .nil)
   ·rcases AS.mp hl with z | z
    ·exact ok l z
    ·rw[AI.mp z];exact⟨lr,hrs⟩
  rintro σ H2 ⟨ps,mv,v8,rfl,k2,f2,m2,sO,lm,ok⟩
  rw[AY] at lm
  have cD:Moves n B mv:=⟨lm,ok⟩
  have lps:ps.length=n:=by rw[As sO,AA,lm]
  subst hY
  dsimp only
  refine aA λW hW=>?_
  refine⟨_,rfl,M,rfl,⟨_,.of m2⟩,λY hY=>?_⟩
  have nY:=f2.sJ hY
  have nMY:M≠Y:=aq m2 hY
  refine cR (xs:=ps.map V.ref) (λj σ H'=>∃(bs:List Bool) (v:Option V),σ=[v,some (.ref F)]/\cm F L H2 H'/\aZ H' F L/\H' Y=some (.lst (bs.map V.bl))/\bs.length=j)
   ⟨[],none,?sg,(Same.new hY).kb2,f2.same (Same.new hY),af,rfl⟩ (λj σ H' _ ⟨_,_,_,k',_⟩=>.of (k' _ _ m2 nM.1 nM.2)) ?_ ?_
  case sg=>rfl
  ·rintro j x σ H3 hx ⟨bs,v,rfl,k3,f3,y3,lb⟩
   have hj:j<ps.length:=by have:=(AD.mp hx).1;rwa [AA] at this
   refine⟨_,rfl,F,L,2,rfl,f3,by decide,small _ (by decide),λq H4 q1 k4 f4=>⟨rfl,?_⟩⟩
   refine⟨_,k4 _ _ y3 nY.1 nY.2,?_,bs++[decide (V.int (q:Nat)=V.int 0)],_,rfl,cm.nV (k3.trans k4) hY,f4.upd nY,?_,by rw[AH,lb];rfl⟩
   ·rw[AA];omega
   ·rw[af,AF];rfl
  rintro σ H3 ⟨bs,v,rfl,k3,f3,y3,lb⟩
  rw[AA,lps] at lb
  have m3:=k3 _ _ m2 nM.1 nM.2
  have MF:=sO.keep (f2.ktu k3)
  have af_:=hf.ktu (k2.trans k3) _ _ jH
  have kk:=k2.trans k3
  dsimp only[az]
  subst hW
  refine⟨_,rfl,_,rfl,M,ps,n,B,mv,rfl,m3,MF,cD,yj,by omega,λR rs H4 hR s4 r4 lr hrs hst=>?_⟩
  have y4:=s4 _ _ y3
  refine⟨R,rfl,⟨_,.of r4⟩,λC hC=>?_⟩
  refine cR (xs:=(ai rs).map V.int) (λj σ H'=>∃(cs:List Bool) (v:Option V),σ=[v,some (.ref Y)]/\Same H4 H'/\H' C=some (.lst (cs.map V.bl))/\cs.length=j/\cs=(rs.take j).map λr=>bs.getD r false)
   ⟨[],none,?sg2,Same.new hC,af,rfl,rfl⟩ (λj σ H' _ ⟨_,_,_,s',_⟩=>.of (s' _ _ r4)) ?_ ?_
  case sg2=>rfl
  ·rintro j x σ H5 hx ⟨cs,v,rfl,s5,c5,lc,sQ⟩
   obtain⟨q,rfl,eq⟩:=di hx
   have hq:=hrs q (AL eq)
   have hj:j<rs.length:=(AD.mp eq).1
   obtain⟨y,ey⟩:∃y,bs[q]? =some y:=⟨_,Ag (by omega)⟩
   refine⟨_,rfl,_,rfl,Y,_,_,.bl y,rfl,rfl,.of (s5 _ _ y4),ax (by rw[AJ,ey];rfl),_,c5,?_,cs++[y],_,rfl,s5.kbn hC KB.write,?_,by rw[AH,lc];rfl,?_⟩
   ·rw[AA];omega
   ·rw[af,AF];rfl
   ·rw[take_snoc eq,AF,<-sQ]
    show cs++[y]=cs++[bs.getD q false]
    rw[AQ,ey];rfl
  rintro σ H5 ⟨cs,v,rfl,s5,c5,lc,sQ⟩
  rw[AA,aB,lr] at lc
  rw[AA,aB,Ay] at sQ
  have M_:∀r,r<n->cs.getD r false=bs.getD (rs.getD r 0) false:=λr hr=>by
   rw[sQ,AQ,AJ,item_at 0 (by omega:r<rs.length)];rfl
  refine⟨C,_,rfl,.inl ⟨.of c5,λD hD=>?_⟩⟩
  have sD:=Same.new (o:=.tup (cs.map V.bl)) hD
  have M0:=(s4.trans s5).trans sD
  refine⟨_,rfl,M,_,rfl,.inl ⟨.of (M0 _ _ m3),λN hN=>?_⟩⟩
  have sN:=Same.new (o:=.tup (ps.map V.ref)) hN
  refine⟨by show 3<=sizeLine;decide,λma hma=>?_⟩
  have sX:=Same.new (o:=.tup [.ref nm,.ref D,.ref N]) hma
  have dz:=M0.trans sN
  refine k ma cs mv _ (aZ.lo (f3.same dz) (kk.trans dz.kb2) hma) (kk.trans (dz.trans sX).kb2) (f3.same (dz.trans sX)) ⟨D,N,ps,af,sX _ _ (sN _ _ af),sX _ _ af,MF.keep (dz.trans sX).kt⟩ (by rw[lc];exact cD) (by omega) (by omega) (λr hr=>by rw[M_ _ (cD.stp (by omega) yj),M_ _ (by omega),hst r (by omega)])
theorem eX:aU ["_law_base","_law_many","_law_found","_law_turn","_law_more","_law_letter"] ["_law_base","_law_many"] (aj eI):=⟨rfl,rfl,rfl,by decide+kernel,rfl,by decide+kernel,by decide+kernel⟩
theorem yl{a:cb}(T:Txt K mg a):aV P w K mg base bK 1 a.i4 a.kI ["_law_base","_law_many"] vD:=by
 refine T.yT.ok eX (λvs H Q E h=>?_) (λcdv A outer s H vs Q E hr h=>?_)
 ·obtain⟨b,n,rfl,_⟩:=h
  rfl
 ·obtain⟨b,n,rfl,hb,hn,k⟩:=h
  refine⟨_,(ah (av (i:=2) eX.nd rfl (AW rfl) (bt (ae (cB ag) ag)))
  (ah (aY Af rfl (bh rfl T.bV (ae (pv 1) ag)) (ay (i:=3) eX.nd rfl (AW rfl))
   (ah (av (i:=4) eX.nd rfl (AW rfl) (bt ag))
   (ah (aY Af rfl (bM (pv 2)) (ay (i:=5) eX.nd rfl (CZ rfl))
    (au (bG (cC Ai DI DJ kX (pv 4) (ae (ck (aG.mk' (esc:=aj eI) (N:=["_law_base","_law_many","_law_found","_law_turn","_law_more","_law_letter"]) (own:=["_law_figure"]) (aI:=["_law_letter"]) (bD:=[5]) rfl rfl (by decide+kernel)) rfl (bh rfl T.bV (ae (pv 0) ag)) (λ_ _ _ _=>(ay (i:=0) (show BK (["_law_figure","_law_letter"]:List Str) by decide+kernel) rfl (AW rfl))) (λ_ _ _ _=>br) (λ_ _ _ _=>(aH (xi K) (pv 1) (cB (ae (pv 0) ag))))) ag)))))
   (au (av (i:=2) eX.nd rfl (AW rfl) (pv 4))))))
  (au (aO (pv 2))))),?_⟩
  refine⟨by decide,λp hp=>⟨by show 1<=sizeLine;decide,λD hD=>?_⟩⟩
  have se:H D=none:=(Same.new hp).free hD
  refine⟨_,rfl,n,rfl,by omega,by omega,gZ (lo:=0) (n:=(n:Int).toNat) (λi σ H'=>∃(D:Addr) (ps:List Addr) (v3 v4 v5:Option V),σ=[some (.int b),some (.int n),some (.ref D),v3,v4,v5]/\H D=none/\Same H H'/\H' D=some (.lst (ps.map V.ref))/\cx H' ps (lets b i))
   ⟨D,[p],none,none,none,rfl,se,(Same.new hp).trans (Same.new hD),af,.cons (by rw[ao (aq (o:=.tup []) af hD)];exact af) .nil⟩ ?_ ?_⟩
  ·rintro i σ H1 hi ⟨D,ps,v3,v4,v5,rfl,hD,s1,eD,t1⟩
   rw[AY] at hi
   have lps:ps.length=b ^ i:=by rw[As t1,fq]
   have bi:b ^ i<=256:=cL hb (by omega)
   have bi1:b ^ (i+1)<=256:=cL hb (by omega)
   refine⟨by decide,λE hE=>?_⟩
   have Mp:H E=none:=s1.free hE
   have xU:D≠E:=aq eD hE
   refine⟨_,rfl,D,rfl,⟨ps.map V.ref,.of (by rw[ao xU];exact eD)⟩,gN (xs:=ps.map V.ref) (λj σ H'=>∃(qs:List Addr) (v5:Option V),σ=[some (.int b),some (.int n),some (.ref D),some (.int (0+(i:Int))),some (.ref E),v5]/\
     Same H H'/\H' D=some (.lst (ps.map V.ref))/\cx H' ps (lets b i)/\H' E=some (.lst (qs.map V.ref))/\cx H' qs (((lets b i).take j).flatMap λl=>(Ad b).map λ(f:Nat)=>l++[(f:Int)]))
    ⟨[],v5,rfl,s1.trans (Same.new hE),by rw[ao xU];exact eD,t1.keep (Same.new hE).kt,af,.nil⟩ (λj σ H' _ ⟨_,_,_,_,h,_⟩=>.of h) ?_ ?_⟩
   ·rintro j y σ H2 hj ⟨qs,v5,rfl,s2,xV,t2,pf,u2⟩
    rw[AJ] at hj
    cases ep:ps[j]? with
    | none=>rw[ep] at hj;cases hj
    | some p=>
     rw[ep] at hj
     have ey:y=.ref p:=(AZ hj).symm
     subst ey
     obtain⟨l,el,hl⟩:=t2.get ep
     have jlt:j<ps.length:=(AD.mp ep).1
     refine⟨_,rfl,.inl ⟨rfl,_,.of pf⟩,_,rfl,b,rfl,by omega,by omega,λC hC=>?_⟩
     have nEC:E≠C:=aq pf hC
     have XN:D≠C:=aq xV hC
     refine fh (λf σ H'=>∃(rs:List Addr) (v:Option V),σ=[v,some (.ref p)]/\Same H2 H'/\H' C=some (.lst (rs.map V.ref))/\cx H' rs ((Ad f).map λ(f:Nat)=>l++[(f:Int)]))
      ⟨[],none,rfl,Same.new hC,af,.nil⟩ ?_ ?_
     ·rintro f σ H3 hf ⟨rs,v,rfl,s3,mP,t3⟩
      refine⟨_,rfl,_,rfl,by show 1<=sizeLine;decide,λq hq=>?_⟩
      have lrs:rs.length=f:=by rw[As t3];simp
      have xW:C≠q:=aq mP hq
      have ll:l.length=i:=qU b i l (AL el)
      have e0:(0:Int)+(f:Int)=(f:Int):=by omega
      have hq2:H2 q=none:=s3.free hq
      have Mq:(rs.map V.ref).length<sizeLine:=by rw[AA,lrs];exact Ab (show f<10 by omega) (by decide)
      have s4:Same H2 (upd H3 q (.tup [.int (0+(f:Int))])):=s3.trans (Same.new hq)
      have t4:=t3.keep (Same.new (o:=.tup [.int (0+(f:Int))]) hq).kt
      refine⟨p,q,l.map V.int,[.int (0+(f:Int))],rfl,rfl,.of (s4 _ _ hl),.of af,by simp,?_,λhl0=>?_,λhl0 r hr=>?_⟩
      ·rw[AA,ll];exact BH (show i+1<=10 by omega) (by decide)
      ·have hl1:l=[]:=by cases l with | nil=>rfl | cons _ _=>cases hl0
       subst hl1
       have kJ:(upd H3 q (.tup [.int (0+(f:Int))])) C=some (.lst (rs.map V.ref)):=by rw[ao xW];exact mP
       refine⟨rs.map V.ref,kJ,Mq,rs++[q],_,rfl,?_,by rw[af,AF];rfl,?_⟩
       ·exact s4.kbn hC KB.write
       ·rw[BD,AF]
        refine cf (t4.keep (bF.lst kJ)) (.cons (bF.lst kJ _ _ ?_) .nil)
        rw[af]
        simp
      ·have Ud:C≠r:=aq (by rw[ao xW];exact mP) hr
       have kJ:(upd (upd H3 q (.tup [.int (0+(f:Int))])) r (.tup (l.map V.int++[.int (0+(f:Int))]))) C=some (.lst (rs.map V.ref)):=by rw[ao Ud,ao xW];exact mP
       refine⟨rs.map V.ref,kJ,Mq,rs++[r],_,rfl,?_,by rw[af,AF];rfl,?_⟩
       ·exact(s4.trans (Same.new hr)).kbn hC KB.write
       ·rw[BD,AF]
        refine cf ((t4.keep (Same.new hr).kt).keep (bF.lst kJ)) (.cons (bF.lst kJ _ _ ?_) .nil)
        rw[af]
        simp
     ·rintro σ H3 ⟨rs,v,rfl,s3,mP,t3⟩
      have lrs:rs.length=b:=by rw[As t3];simp
      have lqs:qs.length<=1024:=by
       rw[As u2,xT,Ao]
       have:=DS (show min j (lets b i).length<=256 by rw[fq];omega) hb
       omega
      have Mr:=s3 _ _ pf
      refine⟨E,C,qs.map V.ref,rs.map V.ref,rfl,rfl,Mr,mP,?_,?_⟩
      ·rw[AA,AA,lrs];exact BH (show qs.length+b<=2000 by omega) (by decide)
      ·have kt:=bF.lst (o:=.lst (qs.map V.ref++rs.map V.ref)) Mr
       refine⟨qs++rs,_,rfl,(s2.trans s3).kbn Mp KB.write,?_,(t2.keep s3.kt).keep kt,?_,?_⟩
       ·rw[ao xU];exact s3 _ _ xV
       ·rw[af,AF]
       ·have e1:(lets b i).take (j+1)=(lets b i).take j++[l]:=by rw[Ec,el];rfl
        rw[e1,FD]
        refine cf ((u2.keep s3.kt).keep kt) ?_
        rw[Gh]
        have:=t3.keep kt
        rwa [show((b:Nat):Int).toNat=b from AY b] at this
   ·rintro σ H2 ⟨qs,v5,rfl,s2,xV,t2,pf,u2⟩
    refine⟨_,rfl,E,qs,_,_,_,rfl,Mp,s2,pf,?_⟩
    have e1:(lets b i).take (ps.map V.ref).length=lets b i:=by rw[AA,As t2];exact Ay ..
    rw[e1] at u2
    exact u2
  ·rintro σ H1 ⟨D,ps,v3,v4,v5,rfl,hD,s1,eD,t1⟩
   exact⟨_,rfl,k D ps H1 hD s1 eD (by rwa [AY] at t1)⟩
def O_{α:Type}(R:gb α)(many:Nat)(on:α->Nat->α)(Ok:α->Prop)(Ev:Hp->Prop)(f1:Addr):Sp:=λvs H Q _=>∃(x0:α) (v0:V) (most bd:Nat),vs=[v0,.int many,.ref f1,.int most]/\R.Rep x0 v0 H/\Ok x0/\Ev H/\(∀l:List α,l.Nodup->(∀x∈l,∃w,bX many w/\x=dH on x0 w)->l.length<=bd)/\bd<=most/\bd<=10000/\many<=1000/\
 ∀(xs:List α) (mv:List (List Nat)) (vs:List V) (p Rr va:Addr) (ps:List Addr) (H':Hp),Same H H'->H Rr=none->mv.length=xs.length->cp x0 on many xs mv->H' p=some (.tup [.ref Rr,.ref va])->H' Rr=some (.lst vs)->fV R H' vs xs->H' va=some (.tup (ps.map V.ref))->cx H' ps (mv.map ai)->Q (.ref p) H'
theorem ft:aU ["_law_first","_law_many","_law_onward","_law_most","_law_came","_law_numbers","_law_moves","_law_found","_law_k","_law_room"] ["_law_first","_law_many","_law_onward","_law_most"] (aj hJ):=⟨rfl,rfl,rfl,by decide+kernel,rfl,by decide+kernel,by decide+kernel⟩
set_option maxHeartbeats 16000000 in
theorem JY{a:cb}(T:Txt K mg a){α:Type}(R:gb α){many:Nat}{on:α->Nat->α}{Ok:α->Prop}{Ev:Hp->Prop}{f1:Addr}{k:Nat}
  (F1:FnAt P w K mg base k f1 2 (x4 R many on Ok Ev)) (jG:∀x a,Ok x->a<many->Ok (on x a)) (x5:∀H H',Ev H->Same H H'->Ev H'):
  aV P w K mg base bK (k+1) a.lG a.nJ ["_law_first","_law_many","_law_onward","_law_most"] (O_ R many on Ok Ev f1):=by
 obtain⟨o1,fd1,ps1,ho1,hf1,hl1,hb1,G1⟩:=F1
 refine T.Mb.ok ft (λvs H Q E h=>?_) (λcdv Ar outer sh H vs Q E hr h=>?_)
 ·obtain⟨x0,v0,most,bd,rfl,_⟩:=h
  rfl
 ·obtain⟨x0,v0,most,bd,rfl,r0,k0,zZ,hbd,hbm,hb1',WZ,q⟩:=h
  refine⟨_,(ah (av (i:=4) ft.nd rfl (AW rfl) (bt (ae (pv 0) ag)))
  (ah (av (i:=5) ft.nd rfl (AW rfl) (R.Oc (cN hr) (pv 0) ak))
  (ah (av (i:=6) ft.nd rfl (AW rfl) (bt ag))
  (ah (fg Af (aX PQ (aF (aP K) (by rfl) T.cg bI (ae (pv 6) ag)) (aF (aP K) (by rfl) T.cg bI (ae (pv 4) ag)) (bj _))
   (ah (av (i:=7) ft.nd rfl (AW rfl) (bt ag))
   (ah (aY Af rfl (bh rfl T.bV (ae (pv 1) ag)) (ay (i:=8) ft.nd rfl (AW rfl))
    (ah (av (i:=9) ft.nd rfl (AW rfl) (qG (i:=2) G1 ho1 hf1 hr hb1 rfl (AW rfl) (ae (aC (bo K) (pv 4) (aF (aP K) (by rfl) T.cg bI (ae (pv 6) ag)) (λ_ _=>rfl)) (ae (pv 8) ag))))
    (ah (cM (Ku (u0 (cN hr) (pv 9) (pv 5)) (by with_unfolding_all rfl))
     (ah (j_ (cN hr) (pv 5) (pv 9) (aF (aP K) (by rfl) T.cg bI (ae (pv 4) ag)) rfl)
     (au (bG (cC Ai Au Av bz (pv 4) (ae (pv 9) ag)))))
     bQ)
    (au (bG (cC Ai Au Av bz (pv 7) (ae (dJ (cN hr) (pv 5) (pv 9) (λ_ _=>rfl)) ag)))))))
   (ah (bG (cC Ai Au Av bz (pv 6) (ae (aW (a_ K) (by rfl) T.bW bB (ae (pv 7) ag)) ag)))
   (au (cM (aX pO (aF (aP K) (by rfl) T.cg bI (ae (pv 4) ag)) (pv 3) (bj _))
    (au (aO ia))
    bQ))))))
  (au (aO (cB (ae (pv 4) (ae (aW (a_ K) (by rfl) T.bW bB (ae (pv 6) ag)) ag))))))))),?_⟩
  have big:(100000:Nat)<=sizeLine:=by decide
  have wC:∀(w:List Nat) (x:α),Ok x->bX many w->Ok (dH on x w):=by
   intro w
   induction w with
   | nil=>intro x hx _;exact hx
   | cons c w ih=>intro x hx hw;exact ih _ (jG x c hx (hw c Aa)) λz hz=>hw z (AV _ hz)
  refine aA λY hY=>?_
  refine⟨_,rfl,by show 1<=sizeLine;omega,λRr hR=>?_⟩
  have sR:=Same.new (o:=.lst [v0]) hR
  dsimp only[az]
  subst hY
  refine aA λY hY=>?_
  refine⟨x0,v0,rfl,R.same r0 sR.kt,λD H2 hD s2 num=>?_⟩
  have Mu:H2 Rr=some (.lst [v0]):=s2 _ _ af
  have se:H D=none:=sR.free hD
  have DR:Rr≠D:=aq (show(upd H Rr (.lst [v0])) Rr=some (.lst [v0]) from af) hD
  dsimp only[az]
  subst hY
  refine aA λY hY=>?_
  refine⟨by show 0<=sizeLine;omega,λM hM=>?_⟩
  have sM:=Same.new (o:=.lst []) hM
  have vG:H M=none:=sR.free (s2.free hM)
  have MR:M≠Rr:=(aq Mu hM).symm
  obtain⟨oD,Ue,_,_⟩:=R.isD num
  have MD:M≠D:=(aq Ue hM).symm
  have Mw:=(sR.trans s2).trans sM
  dsimp only[az]
  subst hY
  refine aA λY hY=>?_
  refine j1 (λm σ H'=>∃(xs:List α) (mv:List (List Nat)) (vs:List V) (ps:List Addr) (v7 v8 v9:Option V),m=bd+1-mv.length/\σ=[some v0,some (.int (many:Nat)),some (.ref f1),some (.int (most:Nat)),some (.ref Rr),some (.ref D),some (.ref M),v7,v8,v9]/\Same H H'/\
    H' Rr=some (.lst vs)/\fV R H' vs xs/\R.Num H' D xs/\H' M=some (.lst (ps.map V.ref))/\cx H' ps (mv.map ai)/\cp x0 on many xs mv/\mv.length<=xs.length)
   ⟨_,[x0],[],[v0],[],none,none,none,rfl,rfl,Mw,sM _ _ Mu,.cons (R.same r0 Mw.kt) .nil,R.keep num (ao MD.symm),af,.nil,cp.begin,by simp⟩ ?_ ?_
  ·rintro m σ H4 N hN ⟨xs,mv,vs,ps,v7,v8,v9,rfl,rfl,s4,eR,rp,nm,eM,tp,g,hl⟩
   have lx:=hbd xs g.once g.reach
   have x6:vs.length=xs.length:=As rp
   have lps:ps.length=mv.length:=by rw[As tp,AA]
   refine⟨_,rfl,_,ps.length,rfl,.inl ⟨_,.of eM,by rw[AA]⟩,_,rfl,_,vs.length,rfl,.inl ⟨_,.of eR,rfl⟩,_,_,rfl,rfl,_,rfl,?_⟩
   by_cases hlt:mv.length<xs.length
   ·rw[show decide (((ps.length:Nat):Int)<((vs.length:Nat):Int))=true from decide_eq_true (by omega)]
    refine fM ?_
    refine aA λY2 de=>?_
    obtain⟨x,ex⟩:∃x,xs[mv.length]? =some x:=⟨_,Ag hlt⟩
    have x8:=g.reach x (AL ex)
    have okx:Ok x:=by obtain⟨w,hw,ew⟩:=x8;rw[ew];exact wC w x0 k0 hw
    refine⟨by show 0<=sizeLine;omega,λL hL=>?_⟩
    have sL:=Same.new (o:=.lst []) hL
    have hL0:H L=none:=s4.free hL
    have LR:L≠Rr:=(aq eR hL).symm
    have LM:L≠M:=(aq eM hL).symm
    obtain⟨oD4,OM,_,_⟩:=R.isD nm
    have LD:L≠D:=(aq OM hL).symm
    dsimp only[az]
    subst de
    refine aA λY2 de=>?_
    refine⟨_,rfl,_,rfl,by omega,by omega,cP (n:=(many:Int).toNat) (λj σ H'=>∃(ys:List α) (us:List V) (leads:List Nat) (v8 v9:Option V),σ=[some v0,some (.int (many:Nat)),some (.ref f1),some (.int (most:Nat)),some (.ref Rr),some (.ref D),some (.ref M),some (.ref L),v8,v9]/\Same H H'/\bF H4 H'/\
      H' Rr=some (.lst us)/\fV R H' us ys/\R.Num H' D ys/\H' M=some (.lst (ps.map V.ref))/\H' L=some (.lst ((ai leads).map V.int))/\leads.length=j/\gU x0 on many xs x leads ys)
     ⟨xs,vs,[],v8,v9,rfl,s4.trans sL,sL.kt,sL _ _ eR,rp.keep sL.kt,R.keep nm (ao LD.symm),sL _ _ eM,af,rfl,gU.start g⟩ ?_ ?_⟩
    ·rintro j σ H5 N2 lQ hj ⟨ys,us,leads,v8,v9,rfl,s5,ph,qo,pj,pq,ox,x9,ll,gr⟩
     have ej:(0:Int)+(j:Int)=((j:Nat):Int):=by omega
     rw[ej]
     have Ui:j<many:=by omega
     have ly:=hbd ys gr.once gr.reach
     have Qj:us.length=ys.length:=As pj
     obtain⟨more,sv⟩:=gr.pre
     obtain⟨vx,Uh,rx⟩:=pj.at (show ys[mv.length]? =some x by rw[sv];exact j3 ex)
     dsimp only[az]
     refine aA λY3 M4=>?_
     refine⟨rfl,_,rfl,_,rfl,_,ps.length,rfl,.inl ⟨_,.of ox,by rw[AA]⟩,Rr,_,_,vx,rfl,rfl,.of qo,ax (by rw[lps];exact Uh),_,rfl,x,vx,j,rfl,rx,okx,Ui,x5 _ _ zZ s5,λto H6 s6 pw=>?_⟩
     have oy:=s6 _ _ qo
     have mQ:=s6 _ _ ox
     have Mx:=s6 _ _ x9
     have qp:=pj.keep s6.kt
     obtain⟨Uj,kN,Uk,Mz⟩:=R.isD pq
     have sj:=R.keep pq ((s6 _ _ kN).trans kN.symm)
     have OO:=s6 _ _ kN
     have Ul:bF H4 H6:=λb l z=>s6 _ _ (ph _ _ z)
     have MA:=s5.trans s6
     dsimp only[az]
     subst M4
     refine fP (t:=kh _ _ _) (u:=IW _) (λσ H'=>∃(zs:List α) (ws:List V) (t:Nat),σ=[some v0,some (.int (many:Nat)),some (.ref f1),some (.int (most:Nat)),some (.ref Rr),some (.ref D),some (.ref M),some (.ref L),some (.int (j:Nat)),some to]/\Same H H'/\bF H6 H'/\
      H' Rr=some (.lst ws)/\fV R H' ws zs/\R.Num H' D zs/\H' M=some (.lst (ps.map V.ref))/\H' L=some (.lst ((ai leads).map V.int))/\zs[t]? =some (on x j)/\gU x0 on many xs x (leads++[t]) zs) ?Um (λY3 sk=>?_)
     case Um=>
      rintro σ H7 ⟨zs,ws,t,rfl,s7,sr,lR,Uo,su,Uq,yb,hz,MB⟩
      refine⟨_,rfl,AW ⟨rfl,_,.of yb⟩,_,rfl,_,rfl,D,_,rfl,R.there su (R.same pw sr) MB.once hz,L,_,_,rfl,rfl,yb,by rw[AA,aB];omega,?_⟩
      have kL:bF H7 (upd H7 L (.lst ((ai leads).map V.int++[.int (t:Nat)]))):=j4 yb (λl z=>nomatch z)
      refine lQ _ _ ⟨zs,ws,leads++[t],_,_,rfl,s7.kbn hL0 KB.write,λb l z=>kL _ _ (sr _ _ (Ul _ _ z)),by rw[ao LR.symm];exact lR,Uo.keep kL,R.keep su (ao LD.symm),by rw[ao LM.symm];exact Uq,?_,by rw[AH,ll];rfl,MB⟩
      rw[af,aR,AF];rfl
     by_cases hm:on x j∈ys
     ·obtain⟨i,hi⟩:=Bl hm
      refine⟨_,rfl,_,rfl,D,_,rfl,R.there sj pw gr.once hi,_,rfl,?_⟩
      refine cX ?_
      exact sk _ _ ⟨ys,us,i,rfl,MA,λ_ _ z=>z,oy,qp,sj,mQ,Mx,hi,gr.old (by rw[ll];exact hi)⟩
     ·refine⟨_,rfl,_,rfl,D,_,rfl,R.miss sj pw hm,_,rfl,?_⟩
      refine fM ?_
      obtain⟨H7,OP,px,su⟩:=R.put sj pw hm (by omega)
      have MC:=gr.new (by omega) x8 (by rw[ll];exact hm)
      rw[ll] at MC
      have lR:=px _ _ oy DR
      refine⟨_,rfl,_,us.length,rfl,.inl ⟨_,.of oy,rfl⟩,_,rfl,_,rfl,D,H7,rfl,by rw[Qj];exact OP,?_⟩
      refine⟨_,rfl,AW ⟨rfl,_,.of lR⟩,_,rfl,Rr,_,_,rfl,rfl,lR,by omega,?_⟩
      have sr:bF H6 H7:=Mt OO Mz px
      have kR:bF H7 (upd H7 Rr (.lst (us++[to]))):=j4 lR (λl z=>nomatch z)
      have pz:bF H6 (upd H7 Rr (.lst (us++[to]))):=λb l z=>kR _ _ (sr _ _ z)
      refine sk _ _ ⟨ys++[on x j],us++[to],ys.length,rfl,(MA.kbn se px).kbn hR KB.write,pz,af,?_,R.keep su (ao DR.symm),by rw[ao MR];exact px _ _ mQ MD,by rw[ao LR];exact px _ _ Mx LD,by rw[Ae (AM _),B4];rfl,MC⟩
      exact i7 (qp.keep pz) (R.same pw pz)
    ·rintro σ H5 ⟨ys,us,leads,v8,v9,rfl,s5,ph,qo,pj,pq,ox,x9,ll,gr⟩
     subst de
     dsimp only
     refine aA λY2 de=>?_
     have Ur:leads.length=many:=by rw[ll];omega
     have g2:=g.next ex gr Ur
     have ly:=hbd ys gr.once gr.reach
     obtain⟨more,sv⟩:=gr.pre
     have lxy:xs.length<=ys.length:=by rw[sv,AH];omega
     have Qj:us.length=ys.length:=As pj
     refine⟨_,rfl,AW ⟨rfl,_,.of ox⟩,_,rfl,L,_,rfl,.inl ⟨.of x9,λt ht=>?_⟩⟩
     have sT:=Same.new (o:=.tup ((ai leads).map V.int)) ht
     have Us:M≠t:=aq ox ht
     have nRt:Rr≠t:=aq qo ht
     obtain⟨Uj,kN,Uk,Mz⟩:=R.isD pq
     have Ut:D≠t:=aq kN ht
     have mQ:=sT _ _ ox
     refine⟨M,_,_,rfl,rfl,mQ,by rw[AA];omega,?_⟩
     have kM:bF (upd H5 t (.tup ((ai leads).map V.int))) (upd (upd H5 t (.tup ((ai leads).map V.int))) M (.lst (ps.map V.ref++[.ref t]))):=j4 mQ (λl z=>nomatch z)
     have kA:bF H5 (upd (upd H5 t (.tup ((ai leads).map V.int))) M (.lst (ps.map V.ref++[.ref t]))):=λb l z=>kM _ _ (sT.kt _ _ z)
     have lR:(upd (upd H5 t (.tup ((ai leads).map V.int))) M (.lst (ps.map V.ref++[.ref t]))) Rr=some (.lst us):=by rw[ao MR.symm];exact sT _ _ qo
     subst de
     dsimp only
     refine⟨_,rfl,_,us.length,rfl,.inl ⟨_,.of lR,rfl⟩,_,rfl,_,_,rfl,rfl,_,rfl,?_⟩
     rw[show decide ((most:Int)<((us.length:Nat):Int))=false from decide_eq_false (by omega)]
     refine cX ?_
     refine hN _ _ _ ?_ ⟨ys,mv++[leads],us,ps++[t],_,_,_,rfl,rfl,(s5.trans sT).kbn vG KB.write,lR,pj.keep kA,R.keep pq (by rw[ao MD.symm,ao Ut]),by rw[af,AF];rfl,?_,g2,by rw[AH];simp;omega⟩
     ·rw[AH];simp;omega
     ·rw[AF]
      exact i7 ((tp.keep ph).keep kA) (by rw[ao Us.symm,af])
   ·have e:mv.length=xs.length:=by omega
    rw[show decide (((ps.length:Nat):Int)<((vs.length:Nat):Int))=false from decide_eq_false (by omega)]
    refine cX ?_
    subst hY
    dsimp only
    refine⟨_,rfl,_,rfl,M,_,rfl,.inl ⟨.of eM,λVa Ug=>⟨by show 2<=sizeLine;omega,λp hp=>?_⟩⟩⟩
    have sV:=Same.new (o:=.tup (ps.map V.ref)) Ug
    have sP:=Same.new (o:=.tup [.ref Rr,.ref Va]) hp
    have dz:=sV.trans sP
    exact q xs mv vs p Rr Va ps _ (s4.trans dz) hR e g af (dz _ _ eR) (rp.keep dz.kt) (sP _ _ af) (tp.keep dz.kt)
  ·rintro σ H Q Q' h ⟨v,e1,v2,n1,e2,l1,v3,e3,v4,n2,e4,l2,i,j,e5,e6,k,e7,z⟩
   exact⟨v,e1,v2,n1,e2,l1,v3,e3,v4,n2,e4,l2,i,j,e5,e6,k,e7,h _ _ z⟩
end
end My
namespace My
open PySem L2
theorem RY(l:List Str):(l.map V.str).all f'=true:=by rw[EY];exact DP.mpr λ_ _=>rfl
open Classical in
noncomputable def nZ (bs:List Bool)(mv:List (List Nat))(cs:List Nat):List Bool:=(Ad bs.length).map λr=>decide (iT bs mv cs r)
open Classical in
theorem uv{bs:List Bool}{mv:List (List Nat)}{cs:List Nat}{r:Nat}(h:r<bs.length):(nZ bs mv cs).getD r false=true↔iT bs mv cs r:=by
 unfold nZ
 rw[AQ,AJ,CA h]
 exact decide_eq_true_iff
theorem UX{can bs:List Bool}{mv:List (List Nat)}{cs:List Nat}(lc:can.length=bs.length)(h:∀r,r<bs.length->(can.getD r false=true↔iT bs mv cs r)):can=nZ bs mv cs:=by
 have l2:(nZ bs mv cs).length=bs.length:=by unfold nZ;rw[AA,Aw]
 refine DD λr=>?_
 by_cases hr:r<bs.length
 ·rw[item_at false (show r<can.length by omega),item_at false (show r<(nZ bs mv cs).length by omega)]
  congr 1
  rw[Cc,h r hr,uv hr]
 ·rw[BJ (by omega),BJ (by omega)]
abbrev tf (b:Nat)(ss:List Str)(x:Str)(bs:List Bool)(mv:List (List Nat)):List Nat->Nat->List Nat:=pC mv bs.length (bJ b ss (oth ss x))
noncomputable abbrev jC (b:Nat) (ss:List Str) (x:Str) (bs:List Bool) (mv:List (List Nat)):List Nat->Bool:=ye (nZ bs mv ((bJ b ss (oth ss x)).getD 0 []))
abbrev pF (b:Nat)(ss:List Str)(x:Str)(bs:List Bool)(mv:List (List Nat))(xs:List (List Nat)):Prop:=∀S∈xs,∃w,bX (b ^ (oth ss x).length) w/\S=dH (tf b ss x bs mv) [0] w
def RZ(a:cb):Sp:=λvs H Q _=>∃(b most:Nat) (m:Addr) (ss:List Str) (x:Str) (bs:List Bool) (mv:List (List Nat)),vs=[.int b,.ref m,.str x,.int most]/\2<=b/\b<=4/\Mc b H m ss bs mv/\ss.length<=4/\bs.length<=62/\most<=10000/\TB a H/\
 ((x ∉ ss/\Q (.ref m) H)∨(x∈ss/\(∀(xs:List (List Nat)) (H':Hp),KX a H H'->TB a H'->xs.Nodup->pF b ss x bs mv xs->most<xs.length->Q .non H')/\
  ∀(p nm:Addr) (xs:List (List Nat)) (mv':List (List Nat)) (H':Hp),KX a H H'->TB a H'->dy H' p nm (xs.map (jC b ss x bs mv)) mv'->H' nm=some (.tup ((oth ss x).map V.str))->mv'.length=xs.length->xs.length<=most->cp [0] (tf b ss x bs mv) (b ^ (oth ss x).length) xs mv'->Q (.ref p) H'))
section
variable{P:Az}{w:World}{K:AE}{mg:Str->Option Value}{base:Heap}
theorem JZ:aU ["base","machine","name","most"] ["base","machine","name","most"] (aj cS):=⟨rfl,rfl,rfl,by decide+kernel,rfl,by decide+kernel,by decide+kernel⟩
theorem J_{a:cb}(T:Txt K mg a)(hB:fj mg base):aV P w K mg base bK 5 a.lA a.jO ["base","machine","name","most"] (RZ a):=by
 have jB:=mR (P:=P) (w:=w) (base:=base) T
 have wq:=uq (P:=P) (w:=w) (base:=base) T hB
 have ym:=wk (P:=P) (w:=w) (base:=base) T 2
 refine T.LP.ok JZ (λvs H Q E h=>?_) (λAr outer s H vs Q E hr h=>?_)
 ·obtain⟨b,most,m,ss,x,bs,mv,rfl,_⟩:=h
  rfl
 ·obtain⟨b,most,m,ss,x,bs,mv,rfl,hb2,hb4,⟨nm,⟨y,v,ps,a1,a2,a3,a4⟩,en,mo,p0⟩,hs,hn,Qv,tb,q⟩:=h
  have iS:aQ 1 _:=hr.mono (by decide)
  have uw:aQ 4 _:=hr
  have wt:aQ 4 _:=hr
  refine⟨_,(ah (cM (aX (vb K) (pv 2) (aC (aD K) (pv 1) ak (λ_ _=>rfl)) (by with_unfolding_all rfl))
   (au (aO (pv 1)))
   bQ)
  (au (aO (aE ym wt rfl T.xI T.xJ T.xK .nil aN (ae (pv 0) (ae (aE jB iS rfl T.oo T.oq T.ot .nil aN (ae (pv 1) (ae (pv 2) ag))) (ae (aE wq uw rfl T.wb T.we T.wg .nil aN (ae (pv 0) (ae (pv 1) (ae (pv 2) ag)))) (ae (pv 3) ag)))))))),?_⟩
  have hb0:0<b:=by omega
  refine⟨_,rfl,_,rfl,m,_,_,.ref nm,rfl,rfl,.of a1,ax (j:=0) rfl,nm,_,rfl,.inr (.of en),rfl,RY _,?_⟩
  rw[qE]
  refine⟨_,rfl,?_⟩
  rcases q with⟨hx,q⟩ | ⟨hx,q0,q⟩
  ·rw[decide_eq_false hx]
   refine cI (λ_=>?_) (λz=>absurd rfl z)
   exact⟨_,rfl,q⟩
  rw[decide_eq_true hx]
  refine cI (λz=>absurd z (by decide)) (λ_=>?_)
  refine⟨_,rfl,_,rfl,_,rfl,m,nm,y,v,ss,x,rfl,a1,en,hs,λN H1 s1 eN=>?_⟩
  refine⟨_,rfl,_,rfl,_,rfl,b,m,nm,y,v,ps,ss,x,bs,mv,rfl,hb0,hb4,hs,⟨s1 _ _ a1,s1 _ _ a2,s1 _ _ a3,a4.keep s1.kt,mo⟩,s1 _ _ en,by omega,tb.same s1,λg z0 f1 f2 ov cn as can D H2 k2 tb2 hD ev2 lc hcan ez eg F1 F2=>?_⟩
  have ho:=pV ss x
  have ec:=UX lc hcan
  refine⟨_,rfl,b,most,N,g,oth ss x,List Nat,qN,tf b ss x bs mv,ye can,hU bs.length,jk m nm y v ps bs mv (b ^ ss.length) ov as (bJ b ss (oth ss x)) cn can,[0],.ref z0,f1,f2,D,rfl,hb4,by omega,k2.kt _ _ eN,eg,hD,F1,F2,λS c _ _=>pX _ _ _ _,λH H' e s=>e.same s,λD H hD e=>e.dv hD,⟨z0,rfl,ez⟩,jj p0,ev2,Qv,λxs H3 s3 nd rc lt=>?_,λxs mv' p H3 s3 hlen hle gr gw=>?_⟩
  ·exact q0 xs H3 ((KX.same s1).trans (k2.trans (KX.same s3))) (tb2.same s3) nd rc lt
  ·rw[ec] at gw
   exact q p N xs mv' H3 ((KX.same s1).trans (k2.trans (KX.same s3))) (tb2.same s3) gw (s3 _ _ (k2.kt _ _ eN)) hlen hle gr
end
end My
namespace My
open PySem L2
theorem qX(bs:List Bool)(i:Nat)(h:i<bs.length):(bs.map (!·)).getD i false= !bs.getD i false:=by
 rw[AQ,AQ,AJ,Ag h];rfl
theorem O0{B:Nat}{bs:List Bool}{mv:List (List Nat)}(m:Moves bs.length B mv)(h:0<bs.length){w:List Nat}(hw:bX B w):lang (bs.map (!·)) mv 0 w= !lang bs mv 0 w:=qX _ _ (m.run h hw)
def UY:Sp:=λvs H Q _=>∃(ma nm:Addr) (bs:List Bool) (mv:List (List Nat)),vs=[.ref ma]/\dy H ma nm bs mv/\bs.length<=5000/\∀(p:Addr) (H':Hp),Same H H'->dy H' p nm (bs.map (!·)) mv->Q (.ref p) H'
section
variable{P:Az}{w:World}{K:AE}{mg:Str->Option Value}{base:Heap}
theorem yn:aU ["machine"] ["machine"] (aj eF):=⟨rfl,rfl,rfl,by decide+kernel,rfl,by decide+kernel,by decide+kernel⟩
theorem yo{a:cb}(T:Txt K mg a):aV P w K mg base bK 1 a.iZ a.kF ["machine"] UY:=by
 refine T.yR.ok yn (λvs H Q E h=>?_) (λcdv A outer s H vs Q E hr h=>?_)
 ·obtain⟨ma,nm,bs,mv,rfl,_⟩:=h
  rfl
 ·obtain⟨ma,nm,bs,mv,rfl,⟨ya,va,ps,e1,e2,e3,tp⟩,hn,k⟩:=h
  refine⟨_,(au (aO (cB (ae (aC (aD K) (pv 0) ak (λ_ _=>rfl)) (ae (aW (a_ K) (by rfl) T.bW bB (ae (ck (aG.mk' (esc:=aj eF) (N:=["machine"]) (own:=["yes"]) (aI:=[]) (bD:=[]) rfl rfl (by decide+kernel)) rfl (dN (aC (aD K) (pv 0) ak (λ_ _=>rfl))) (λ_ _ _ _=>(ay (i:=0) (show BK (["yes"]:List Str) by decide+kernel) rfl (AW rfl))) (λ_ _ _ _=>br) (λ_ _ _ _=>(Kw (pv 0)))) ag)) (ae (aC (aD K) (pv 0) ak (λ_ _=>rfl)) ag)))))),?_⟩
  have big:(10000:Nat)<=sizeLine:=by decide
  refine⟨_,rfl,ma,_,_,.ref nm,rfl,rfl,.of e1,ax (j:=0) rfl,_,rfl,ma,_,_,.ref ya,rfl,rfl,.of e1,ax (j:=1) rfl,ya,rfl,⟨_,.of e2⟩,λC hC=>?_⟩
  refine fi (xs:=bs.map V.bl) (λi σ H'=>∃v:Option V,σ=[v]/\Same H H'/\H' C=some (.lst (((bs.take i).map (!·)).map V.bl)))
   ⟨none,?sg,Same.new hC,af⟩ (λi σ H' _ ⟨_,_,s,_⟩=>.of (s _ _ e2)) ?_ ?_
  case sg=>rfl
  ·rintro i x σ H' hx ⟨v,rfl,s',c'⟩
   obtain⟨t,rfl,et⟩:=qT hx
   have hi:=(AD.mp et).1
   refine⟨_,rfl,_,rfl,_,c',?_,_,rfl,s'.kbn hC KB.write,?_⟩
   ·rw[AA,AA,Ao];omega
   ·rw[af,take_snoc et,AF,AF];rfl
  rintro σ H1 ⟨v,rfl,s1,c1⟩
  rw[AA,Ay] at c1
  refine⟨C,_,rfl,.inl ⟨.of c1,λY hY=>?_⟩⟩
  have sY:=Same.new (o:=.tup ((bs.map (!·)).map V.bl)) hY
  have s2:=s1.trans sY
  refine⟨_,rfl,ma,_,_,.ref va,rfl,rfl,.of (s2 _ _ e1),ax (j:=2) rfl,by show 3<=sizeLine;decide,λp hp=>?_⟩
  have sp:=Same.new (o:=.tup [.ref nm,.ref Y,.ref va]) hp
  exact k p _ (s2.trans sp) ⟨Y,va,ps,af,sp _ _ af,(s2.trans sp) _ _ e3,tp.keep (s2.trans sp).kt⟩
theorem y6:aU ["_law_machine_here"] ["_law_machine_here"] (aj fm):=⟨rfl,rfl,rfl,by decide+kernel,rfl,by decide+kernel,by decide+kernel⟩
theorem y8{a:cb}(T:Txt K mg a):aV P w K mg base bK 1 a.jS a.mn ["_law_machine_here"] UY:=by
 refine T.JK.ok y6 (λvs H Q E h=>?_) (λcdv A outer s H vs Q E hr h=>?_)
 ·obtain⟨ma,nm,bs,mv,rfl,_⟩:=h
  rfl
 ·obtain⟨ma,nm,bs,mv,rfl,⟨ya,va,ps,e1,e2,e3,tp⟩,hn,k⟩:=h
  refine⟨_,(au (aO (cB (ae (aC (aD K) (pv 0) ak (λ_ _=>rfl)) (ae (aW (a_ K) (by rfl) T.bW bB (ae (ck (aG.mk' (esc:=aj fm) (N:=["_law_machine_here"]) (own:=["_law_yes"]) (aI:=[]) (bD:=[]) rfl rfl (by decide+kernel)) rfl (dN (aC (aD K) (pv 0) ak (λ_ _=>rfl))) (λ_ _ _ _=>(ay (i:=0) (show BK (["_law_yes"]:List Str) by decide+kernel) rfl (AW rfl))) (λ_ _ _ _=>br) (λ_ _ _ _=>(Kw (pv 0)))) ag)) (ae (aC (aD K) (pv 0) ak (λ_ _=>rfl)) ag)))))),?_⟩
  have big:(10000:Nat)<=sizeLine:=by decide
  refine⟨_,rfl,ma,_,_,.ref nm,rfl,rfl,.of e1,ax (j:=0) rfl,_,rfl,ma,_,_,.ref ya,rfl,rfl,.of e1,ax (j:=1) rfl,ya,rfl,⟨_,.of e2⟩,λC hC=>?_⟩
  refine fi (xs:=bs.map V.bl) (λi σ H'=>∃v:Option V,σ=[v]/\Same H H'/\H' C=some (.lst (((bs.take i).map (!·)).map V.bl)))
   ⟨none,?sg,Same.new hC,af⟩ (λi σ H' _ ⟨_,_,s,_⟩=>.of (s _ _ e2)) ?_ ?_
  case sg=>rfl
  ·rintro i x σ H' hx ⟨v,rfl,s',c'⟩
   obtain⟨t,rfl,et⟩:=qT hx
   have hi:=(AD.mp et).1
   refine⟨_,rfl,_,rfl,_,c',?_,_,rfl,s'.kbn hC KB.write,?_⟩
   ·rw[AA,AA,Ao];omega
   ·rw[af,take_snoc et,AF,AF];rfl
  rintro σ H1 ⟨v,rfl,s1,c1⟩
  rw[AA,Ay] at c1
  refine⟨C,_,rfl,.inl ⟨.of c1,λY hY=>?_⟩⟩
  have sY:=Same.new (o:=.tup ((bs.map (!·)).map V.bl)) hY
  have s2:=s1.trans sY
  refine⟨_,rfl,ma,_,_,.ref va,rfl,rfl,.of (s2 _ _ e1),ax (j:=2) rfl,by show 3<=sizeLine;decide,λp hp=>?_⟩
  have sp:=Same.new (o:=.tup [.ref nm,.ref Y,.ref va]) hp
  exact k p _ (s2.trans sp) ⟨Y,va,ps,af,sp _ _ af,(s2.trans sp) _ _ e3,tp.keep (s2.trans sp).kt⟩
abbrev nb (bs:List Bool):List Bool:=bs.map (!·)
theorem Qw(bs:List Bool):nb (nb bs)=bs:=by
 unfold nb
 rw[Dc]
 exact(Ci λb _=>by simp).trans (G_ _)
def R_(a:cb):Sp:=λvs H Q _=>∃(b most:Nat) (m:Addr) (ss:List Str) (x:Str) (bs:List Bool) (mv:List (List Nat)),vs=[.int b,.ref m,.str x,.int most]/\2<=b/\b<=4/\Mc b H m ss bs mv/\ss.length<=4/\bs.length<=62/\most<=5000/\TB a H/\
 ((x ∉ ss/\∀(p nm:Addr) (H':Hp),KX a H H'->TB a H'->dy H' p nm bs mv->H' nm=some (.tup (ss.map V.str))->Q (.ref p) H')∨(x∈ss/\(∀(xs:List (List Nat)) (H':Hp),KX a H H'->TB a H'->xs.Nodup->pF b ss x (nb bs) mv xs->most<xs.length->Q .non H')/\
  ∀(p nm:Addr) (xs:List (List Nat)) (mv':List (List Nat)) (H':Hp),KX a H H'->TB a H'->dy H' p nm (nb (xs.map (jC b ss x (nb bs) mv))) mv'->H' nm=some (.tup ((oth ss x).map V.str))->mv'.length=xs.length->xs.length<=most->cp [0] (tf b ss x (nb bs) mv) (b ^ (oth ss x).length) xs mv'->Q (.ref p) H'))
theorem tj:aU ["base","machine","name","most","told"] ["base","machine","name","most"] (aj cU):=⟨rfl,rfl,rfl,by decide+kernel,rfl,by decide+kernel,by decide+kernel⟩
theorem J0{a:cb}(T:Txt K mg a)(hB:fj mg base):aV P w K mg base bK 6 a.lC a.jP ["base","machine","name","most"] (R_ a):=by
 have qv:=yo (P:=P) (w:=w) (base:=base) T
 have M5:=J_ (P:=P) (w:=w) (base:=base) T hB
 refine T.LW.ok tj (λvs H Q E h=>?_) (λAr outer s H vs Q E hr h=>?_)
 ·obtain⟨b,most,m,ss,x,bs,mv,rfl,_⟩:=h
  rfl
 ·obtain⟨b,most,m,ss,x,bs,mv,rfl,hb2,hb4,⟨nm,gw,en,mo,p0⟩,hs,hn,Qv,tb,q⟩:=h
  have pG:aQ 1 _:=hr.mono (by decide)
  have J8:aQ 5 _:=hr
  refine⟨_,(ah (av (i:=4) tj.nd rfl (AW rfl) (aE M5 J8 rfl T.LQ T.LU T.LV .nil aN (ae (pv 0) (ae (aE qv pG rfl T.qh T.qi T.qj .nil aN (ae (pv 1) ag)) (ae (pv 2) (ae (pv 3) ag))))))
  (ah (cM (aX wM (pv 4) ia (bj _))
   (au (aO ia))
   bQ)
  (au (aO (aE qv pG rfl T.qh T.qi T.qj .nil aN (ae (pv 4) ag)))))),?_⟩
  have ln:(nb bs).length=bs.length:=AA _
  refine⟨_,rfl,_,rfl,m,nm,bs,mv,rfl,gw,by omega,λp1 H1 s1 m1=>?_⟩
  refine⟨_,rfl,_,rfl,b,most,p1,ss,x,nb bs,mv,rfl,hb2,hb4,⟨nm,m1,s1 _ _ en,by rw[ln];exact mo,by rw[ln];exact p0⟩,hs,by rw[ln];exact hn,by omega,tb.same s1,?_⟩
  rcases q with⟨hx,q⟩ | ⟨hx,q0,q⟩
  ·refine .inl ⟨hx,?_⟩
   dsimp only[az]
   refine⟨_,rfl,rfl,_,rfl,?_⟩
   refine cI (λz=>absurd z (by simp)) (λ_=>?_)
   refine⟨_,rfl,p1,nm,nb bs,mv,rfl,m1,by omega,λp3 H3 s3 m3=>?_⟩
   rw[show(nb bs).map (!·)=bs from Qw bs] at m3
   exact q p3 nm H3 (KX.same (s1.trans s3)) (tb.same (s1.trans s3)) m3 ((s1.trans s3) _ _ en)
  ·refine .inr ⟨hx,λxs H2 k2 tb2 nd rc lt=>?_,λp2 X1 xs mv2 H2 k2 tb2 m2 en2 hl hle gr=>?_⟩
   ·dsimp only[az]
    refine⟨_,rfl,rfl,_,rfl,?_⟩
    refine cI (λ_=>?_) (λz=>absurd rfl z)
    exact q0 xs H2 ((KX.same s1).trans k2) tb2 nd rc lt
   ·dsimp only[az]
    refine⟨_,rfl,rfl,_,rfl,?_⟩
    refine cI (λz=>absurd z (by simp)) (λ_=>?_)
    refine⟨_,rfl,p2,X1,_,mv2,rfl,m2,by rw[AA];omega,λp3 H3 s3 m3=>?_⟩
    exact q p3 X1 xs mv2 H3 ((KX.same s1).trans (k2.trans (KX.same s3))) (tb2.same s3) m3 (s3 _ _ en2) hl hle gr
section
variable{X:Cx}
def W3(K:AE):R2:=λx y H Q=>∃(a b:Addr) (xs ys:List V),x=.ref a/\y=.ref b/\H a=some (.tup xs)/\H b=some (.tup ys)/\xs.length+ys.length<=sizeLine/\∀u H',Same H H'->H' u=some (.tup (xs++ys))->Q (.ref u) H'
theorem Ij(K:AE)(hK:X.K=K:=by rfl):cQ X (CQ .Add) (W3 K):=by
 subst hK
 intro pins s σ H x y v u Q I rx ry h
 obtain⟨a,b,xs,ys,rfl,rfl,ha,hb,hz,q⟩:=h
 by_cases hx:xs=[]
 ·subst hx
  exact zE pins s σ H _ _ v u Q I rx ry ⟨a,b,ys,rfl,rfl,.of ha,.of hb,q b H (.refl _) hb⟩
 ·exact zA pins s σ H _ _ v u Q I rx ry ⟨a,b,xs,ys,rfl,rfl,.of ha,.of hb,hx,hz,λz=>q a H (.refl _) (by rw[z,BU];exact ha),λ_ p hp=>q p _ (Same.new hp) af⟩
end
theorem qY(bs:List Bool)(mv:List (List Nat))(r:Nat)(v w:List Nat):lang bs mv r (v++w)=lang bs mv (run mv r v) w:=by unfold lang;rw[gk]
def pY(b:Nat)(ss os:List Str)(L:List Nat->Bool)(w:List Nat):Prop:=∃v z:List Nat,bX (b ^ ss.length) v/\bX (b ^ ss.length) z/\v.map (own b ss os)=w/\(∀c∈z,own b ss os c=0)/\L (v++z)=true
theorem gX{b:Nat}{ss os:List Str}{l:Nat}(hl:l<b ^ os.length){c:Nat}:c∈(bJ b ss os).getD l []↔c<b ^ ss.length/\own b ss os c=l:=by
 unfold bJ
 rw[AQ,mS hl]
 show c∈List.filter _ _↔_
 rw[Bc,A_,beq_iff_eq]
theorem O1{b:Nat}{ss os:List Str}{n:Nat}{mv:List (List Nat)}(m:Moves n (b ^ ss.length) mv):∀{w S:List Nat},(∀r∈S,r<n)->bX (b ^ os.length) w->∀t,t∈dH (pC mv n (bJ b ss os)) S w↔∃r∈S,∃v,bX (b ^ ss.length) v/\v.map (own b ss os)=w/\run mv r v=t
 | [],S,hS,_,t=>by
  show t∈S↔_
  constructor
  ·intro h;exact⟨t,h,[],.nil _,rfl,rfl⟩
  ·rintro⟨r,hr,v,_,e,h⟩
   have:v=[]:=HM.mp e
   subst this
   exact h▸hr
 | l::w,S,hS,hw,t=>by
  have hl:=hw l Aa
  have hw':bX (b ^ os.length) w:=λy hy=>hw y (AV _ hy)
  have hS':∀r∈pC mv n (bJ b ss os) S l,r<n:=λr hr=>(fW.mp hr).1
  show t∈dH _ (pC mv n (bJ b ss os) S l) w↔_
  rw[O1 m hS' hw']
  constructor
  ·rintro⟨r,hr,v,hv,e,h⟩
   obtain⟨_,q,hq,c,hc,e2⟩:=fW.mp hr
   obtain⟨hcB,hco⟩:=(gX hl).mp hc
   refine⟨q,hq,c::v,.cons hcB hv,by rw[A0,hco,e],?_⟩
   show run mv (stp mv q c) v=t
   rw[e2];exact h
  ·rintro⟨q,hq,v,hv,e,h⟩
   cases v with
   | nil=>cases e
   | cons c v=>
    rw[A0] at e
    injection e with e1 e2
    have hcB:=hv c Aa
    refine⟨stp mv q c,fW.mpr ⟨m.stp (hS q hq) hcB,q,hq,c,(gX hl).mpr ⟨hcB,e1⟩,rfl⟩,v,λy hy=>hv y (AV _ hy),e2,h⟩
theorem W4{b:Nat}(hb:0<b){ss os:List Str}{bs:List Bool}{mv:List (List Nat)}{can:List Bool}(m:Moves bs.length (b ^ ss.length) mv)(n0:0<bs.length)(hcan:∀r,r<bs.length->(can.getD r false=true↔iT bs mv ((bJ b ss os).getD 0 []) r)){w:List Nat}(hw:bX (b ^ os.length) w):
  ye can (dH (pC mv bs.length (bJ b ss os)) [0] w)=true↔pY b ss os (lang bs mv 0) w:=by
 have h0:∀r∈[0],r<bs.length:=λr hr=>by rw[AI.mp hr];exact n0
 have p0:0<b ^ os.length:=DE hb
 unfold ye
 rw[B_]
 constructor
 ·rintro⟨t,ht,hc⟩
  obtain⟨r,hr,v,hv,e,h⟩:=(O1 m h0 hw t).mp ht
  rw[AI.mp hr] at h
  obtain⟨z,hz,hl⟩:=(hcan t (h▸m.run n0 hv)).mp hc
  refine⟨v,z,hv,λc hc=>((gX p0).mp (hz c hc)).1,e,λc hc=>((gX p0).mp (hz c hc)).2,?_⟩
  rw[qY,h];exact hl
 ·rintro⟨v,z,hv,hz,e,h2,hl⟩
  refine⟨run mv 0 v,(O1 m h0 hw _).mpr ⟨0,AI.mpr rfl,v,hv,e,rfl⟩,(hcan _ (m.run n0 hv)).mpr ⟨z,λc hc=>(gX p0).mpr ⟨hz c hc,h2 c hc⟩,?_⟩⟩
  rw[<-qY];exact hl
theorem n_{b:Nat}:∀(ds:List Nat),(∀d∈ds,d=0)->lst b 0 ds=0
 | [],_=>rfl
 | d::ds,h=>by
  rw[kK,h d Aa,Hw,CN]
  exact n_ ds λx hx=>h x (AV _ hx)
theorem tm{b:Nat}(hb:0<b):∀(n L:Nat),L<b ^ n->lst b 0 (fl b n L)=L
 | 0,L,h=>by
  have:L=0:=by simpa using h
  subst this;rfl
 | n+1,L,h=>by
  rw[fl,uh,tm hb n (L / b) (by rw[Ek hb,<-Bm];exact h)]
  exact Nat.div_add_mod' L b
def Sw(bs:List Bool)(mv:List (List Nat)):Prop:=∀r,r<bs.length->bs.getD (stp mv r 0) false=bs.getD r false
theorem Sw.W5{B:Nat}{bs:List Bool}{mv:List (List Nat)}(s:Sw bs mv)(m:Moves bs.length B mv)(n0:0<bs.length){w:List Nat}(hw:bX B w):lang bs mv 0 (w++[0])=lang bs mv 0 w:=by
 rw[qY]
 exact s _ (m.run n0 hw)
def ins(k:Nat)(f:Nat)(ds:List Nat):List Nat:=ds.take k++f::ds.drop k
def del{α:Type}(k:Nat)(l:List α):List α:=l.take k++l.drop (k+1)
theorem fH(k f:Nat)(ds:List Nat):(ins k f ds).length=ds.length+1:=by
 unfold ins
 rw[AH,A',Ao,CK];omega
theorem gu{k f:Nat}{ds:List Nat}{x:Nat}:x∈ins k f ds↔x=f∨x∈ds:=by
 unfold ins
 rw[AS,Ak]
 constructor
 ·rintro(h | h | h)
  ·exact .inr (B6 h)
  ·exact .inl h
  ·exact .inr (Cb h)
 ·rintro(h | h)
  ·exact .inr (.inl h)
  ·rw[<-B1 k ds] at h
   rcases AS.mp h with z | z
   ·exact .inl z
   ·exact .inr (.inr z)
theorem ins_map(g:Nat->Nat)(k f:Nat)(ds:List Nat):(ins k f ds).map g=ins k (g f) (ds.map g):=by
 unfold ins
 rw[AF,A0,Ez,HS]
theorem R0{k f:Nat}{ds:List Nat}(h:k<=ds.length):del k (ins k f ds)=ds:=by
 unfold del ins
 have h1:(ds.take k).length=k:=by rw[Ao];omega
 have h2:(ds.take k++f::ds.drop k).take k=ds.take k:=by
  rw[E3 (by omega),Bv (by omega)]
 have h3:(ds.take k++f::ds.drop k).drop (k+1)=ds.drop k:=by
  rw[List.drop_append,Gj (by omega),EI,h1,show k+1-k=1 by omega];rfl
 rw[h2,h3,B1]
theorem R3{k:Nat}{l:List Nat}(h:k<l.length):ins k (l.getD k 0) (del k l)=l:=by
 unfold del ins
 have h1:(l.take k).length=k:=by rw[Ao];omega
 have h2:(l.take k++l.drop (k+1)).take k=l.take k:=by
  rw[E3 (by omega),Bv (by omega)]
 have h3:(l.take k++l.drop (k+1)).drop k=l.drop (k+1):=by
  rw[List.drop_append,Gj (by omega),EI,h1,B4];rfl
 rw[h2,h3]
 have h4:l.getD k 0::l.drop (k+1)=l.drop k:=by
  rw[C5 h,AQ,Ag h];rfl
 rw[h4,B1]
theorem pZ{α:Type}{k:Nat}{l:List α}(h:k<l.length):(del k l).length+1=l.length:=by
 unfold del
 rw[AH,Ao,CK];omega
theorem Ik{α β:Type}(g:α->β)(k:Nat)(l:List α):(del k l).map g=del k (l.map g):=by
 unfold del
 rw[AF,Ez,HS]
theorem R4{α:Type}{k:Nat}{l:List α}{x:α}(h:x∈del k l):x∈l:=by
 rcases AS.mp h with z | z
 ·exact B6 z
 ·exact Cb z
theorem p_{ss:List Str}{k:Nat}{x:Str}(nd:ss.Nodup)(hx:ss[k]? =some x):oth ss x=del k ss:=by
 obtain⟨hk,e⟩:=AD.mp hx
 have sp:ss=ss.take k++x::ss.drop (k+1):=by
  conv=>lhs;rw[<-B1 k ss,C5 hk,e]
 have Lp:=nd
 rw[sp,BR] at Lp
 obtain⟨_,n2,n3⟩:=Lp
 rw[Bk] at n2
 have keep:∀l:List Str,x ∉ l->oth l x=l:=λl hl=>by
  unfold oth
  rw[List.filter_eq_self]
  intro s hs
  rw[DA,decide_eq_false_iff_not]
  intro z
  injection z with z
  exact hl (z▸hs)
 have app:∀l m:List Str,oth (l++m) x=oth l x++oth m x:=λl m=>by unfold oth;rw[Bd]
 have cons:∀l:List Str,oth (x::l) x=oth l x:=λl=>by
  unfold oth
  rw[Be,if_neg (by simp)]
 conv=>lhs;rw[sp]
 rw[app,cons,keep _ (λh=>n3 x h x Aa rfl),keep _ n2.1]
 rfl
theorem O6{ss:List Str}(nd:ss.Nodup):ss.map (idx ss)=Ad ss.length:=by
 refine DD λi=>?_
 rw[AJ]
 by_cases hi:i<ss.length
 ·rw[Ag hi,CA hi]
  obtain⟨e,hl,_⟩:=sx (ss:=ss) (t:=ss[i]) (D4 hi)
  obtain⟨_,e3⟩:=AD.mp e
  exact congrArg some ((D1 nd).mp e3)
 ·rw[BJ (by omega),BJ (by rw[Aw];omega)];rfl
theorem Il{b:Nat}{ss:List Str}{k c:Nat}{x:Str}(nd:ss.Nodup)(hx:ss[k]? =some x)(hc:c<b ^ ss.length):own b ss (oth ss x) c=lst b 0 (del k (fl b ss.length c)):=by
 unfold own
 rw[z_ b ss _ hc,p_ nd hx,Ik,O6 nd]
 unfold pk
 congr 1
 rw[Ik]
 congr 1
 refine DD λi=>?_
 rw[AJ]
 by_cases hi:i<ss.length
 ·rw[CA hi,item_at 0 (by rw[fz];exact hi)];rfl
 ·rw[BJ (by rw[Aw];omega),BJ (by rw[fz];omega)];rfl
theorem mX{b:Nat}{ds:List Nat}(h:∀d∈ds,d<b):fl b ds.length (lst b 0 ds)=ds:=by
 have:=Ms ds 0 0 h
 rw[CN] at this
 rw[this];rfl
theorem j5{b:Nat}{ds:List Nat}(h:∀d∈ds,d<b):lst b 0 ds<b ^ ds.length:=by
 have:=sf ds 0 0 h (by rw[Dh];exact Nat.one_pos)
 rwa [CN] at this
theorem mY{b:Nat}{ss:List Str}{k f:Nat}{x:Str}{ds:List Nat}(nd:ss.Nodup)(hx:ss[k]? =some x)(hl:ds.length+1=ss.length)(hf:f<b)(hd:∀d∈ds,d<b):own b ss (oth ss x) (lst b 0 (ins k f ds))=lst b 0 ds:=by
 have hk:=(AD.mp hx).1
 have hi:∀d∈ins k f ds,d<b:=λd h=>(gu.mp h).elim (λe=>e▸hf) (hd d)
 have e:=mX hi
 have lt:=j5 hi
 rw[fH,hl] at e lt
 rw[Il nd hx lt,e,R0 (by omega)]
theorem qZ{b:Nat}(hb:0<b){ss:List Str}{k c:Nat}{x:Str}{ds:List Nat}(nd:ss.Nodup)(hx:ss[k]? =some x)(hl:ds.length+1=ss.length)(hd:∀d∈ds,d<b)(hc:c<b ^ ss.length)(e:own b ss (oth ss x) c=lst b 0 ds):∃f,f<b/\c=lst b 0 (ins k f ds):=by
 have hk:=(AD.mp hx).1
 rw[Il nd hx hc] at e
 have ld:(del k (fl b ss.length c)).length+1=ss.length:=by
  have:=pZ (k:=k) (l:=fl b ss.length c) (by rw[fz];exact hk)
  rwa [fz] at this
 have h1:=mX (b:=b) (ds:=del k (fl b ss.length c)) λd h=>nO hb _ _ d (R4 h)
 have h2:=mX hd
 rw[show(del k (fl b ss.length c)).length=ds.length by omega,e,h2] at h1
 refine⟨(fl b ss.length c).getD k 0,?_,?_⟩
 ·exact nO hb ss.length c _ (AL (item_at 0 (by rw[fz];exact hk)))
 ·rw[h1,R3 (by rw[fz];exact hk),tm hb _ _ hc]
def wd(b:Nat)(ns:List Nat)(k:Nat):List Nat:=(Ad k).map (gD b ns)
theorem p6(b:Nat)(ns:List Nat)(k:Nat):wd b ns (k+1)=wd b ns k++[gD b ns k]:=by
 unfold wd
 rw[BD,AF];rfl
theorem ux{b:Nat}(hb:0<b)(ns:List Nat)(k:Nat):bX (b ^ ns.length) (wd b ns k):=λx hx=>by
 obtain⟨i,_,rfl⟩:=Ac.mp hx
 exact xY hb ns i
theorem pH{b i:Nat}(hb:2<=b){ns:List Nat}(h:∀n∈ns,n / b ^ i=0):bu b ns<=i:=by
 by_cases e:ns=[]
 ·subst e;exact BI _
 ·obtain⟨n,hn,en⟩:=zY (b:=b) e
  rw[<-en]
  rcases FK i (fU b n).length with z | z
  ·have:=(si hb i n).mp z
   have:=h n hn
   omega
  ·exact z
theorem uy{b i:Nat}(hb:2<=b){ns:List Nat}(h:bu b ns<=i):∀n∈ns,n / b ^ i=0:=λn hn=>by
 have h1:=xZ (b:=b) hn
 rcases EM (n / b ^ i) with z | z
 ·exact z
 ·have:=(si hb i n).mpr z
  omega
theorem uz{b i:Nat}(hb:2<=b){ns:List Nat}(h:bu b ns<=i):gD b ns i=0:=by
 unfold gD
 refine n_ _ λd hd=>?_
 obtain⟨n,hn,rfl⟩:=Ac.mp hd
 rw[uy hb h n hn,Nat.zero_mod]
def lX(b:Nat)(bs:List Bool)(mv:List (List Nat))(ns:List Nat):Bool:=lang bs mv 0 (nP b ns)
theorem yp{b:Nat}(hb:2<=b){bs:List Bool}{mv:List (List Nat)}{ns:List Nat}(m:Moves bs.length (b ^ ns.length) mv)(n0:0<bs.length)(sw:Sw bs mv):∀{k:Nat},bu b ns<=k->lang bs mv 0 (wd b ns k)=lX b bs mv ns:=λ{k} hk=>by
 obtain⟨j,rfl⟩:∃j,k=bu b ns+j:=⟨k-bu b ns,by omega⟩
 clear hk
 induction j with
 | zero=>rfl
 | succ j ih=>
  rw[show bu b ns+(j+1)=bu b ns+j+1 from rfl,p6,uz hb (by omega),sw.W5 m n0 (ux (by omega) ns _),ih]
theorem p7(b k N:Nat)(ns:List Nat)(i:Nat):gD b (ins k N ns) i=lst b 0 (ins k (N / b ^ i % b) (ns.map λn=>n / b ^ i % b)):=by
 unfold gD
 rw[ins_map]
theorem Im{b:Nat}(hb:0<b){ss:List Str}{k:Nat}{x:Str}{ns:List Nat}(nd:ss.Nodup)(hx:ss[k]? =some x)(hl:ns.length+1=ss.length)(N i:Nat):own b ss (oth ss x) (gD b (ins k N ns) i)=gD b ns i:=by
 rw[p7,mY nd hx (by rw[AA];exact hl) (Dw _ hb) λd hd=>?_]
 ·rfl
 ·obtain⟨n,_,rfl⟩:=Ac.mp hd
  exact Dw _ hb
theorem UZ{b:Nat}(hb:0<b){ss:List Str}{k:Nat}{x:Str}{ns:List Nat}(nd:ss.Nodup)(hx:ss[k]? =some x)(hl:ns.length+1=ss.length)(N j:Nat):(wd b (ins k N ns) j).map (own b ss (oth ss x))=wd b ns j:=by
 unfold wd
 rw[Dc]
 exact Ci λi _=>Im hb nd hx hl N i
theorem O7{b:Nat}(hb:2<=b){ss:List Str}{k:Nat}{x:Str}{ns:List Nat}{bs:List Bool}{mv:List (List Nat)}(nd:ss.Nodup)(hx:ss[k]? =some x)(hl:ns.length+1=ss.length)(m:Moves bs.length (b ^ ss.length) mv)(n0:0<bs.length)(sw:Sw bs mv){N:Nat}(h:lX b bs mv (ins k N ns)=true):pY b ss (oth ss x) (lang bs mv 0) (nP b ns):=by
 have li:(ins k N ns).length=ss.length:=by rw[fH];exact hl
 have hw:∀j,bX (b ^ ss.length) (wd b (ins k N ns) j):=λj=>by rw[<-li];exact ux (by omega) _ _
 have e:=yp hb (ns:=ins k N ns) (by rw[li];exact m) n0 sw (k:=bu b ns+bu b (ins k N ns)) (by omega)
 have sp:wd b (ins k N ns) (bu b ns+bu b (ins k N ns))=wd b (ins k N ns) (bu b ns)++(wd b (ins k N ns) (bu b ns+bu b (ins k N ns))).drop (bu b ns):=by
  conv=>lhs;rw[<-B1 (bu b ns) (wd b (ins k N ns) (bu b ns+bu b (ins k N ns)))]
  congr 1
  unfold wd
  rw[<-Ez,List.take_range,E_ (by omega)]
 refine⟨_,(wd b (ins k N ns) (bu b ns+bu b (ins k N ns))).drop (bu b ns),hw (bu b ns),λc hc=>hw _ c (Cb hc),UZ (by omega) nd hx hl N _,λc hc=>?_,?_⟩
 ·obtain⟨i,hi,e⟩:=HG.mp hc
  rw[List.getElem_drop] at e
  unfold wd at e
  rw[List.getElem_map,List.getElem_range] at e
  rw[<-e,Im (by omega) nd hx hl]
  exact uz hb (by omega)
 ·rw[<-sp,e];exact h
theorem shorten{n B:Nat}{mv:List (List Nat)}(m:Moves n B mv)(Z:Nat->Prop):∀(l:Nat) (z:List Nat) (r:Nat),z.length=l->r<n->bX B z->(∀c∈z,Z c)->∃z':List Nat,z'.length<=n/\bX B z'/\(∀c∈z',Z c)/\run mv r z'=run mv r z:=λl=>by
 induction l using Nat.strongRecOn with
 | ind l ih=>
  intro z r hl hr hz hZ
  by_cases h:l<=n
  ·exact⟨z,by omega,hz,hZ,rfl⟩
  ·obtain⟨i,j,hij,hj,e⟩:=UO n (λk=>run mv r (z.take k)) λk hk=>m.run hr λc hc=>hz c (B6 hc)
   have le:(z.take i++z.drop j).length<l:=by rw[AH,Ao,CK];omega
   obtain⟨z',h1,h2,h3,h4⟩:=ih _ le (z.take i++z.drop j) r rfl hr (λc hc=>(AS.mp hc).elim (λy=>hz c (B6 y)) λy=>hz c (Cb y)) (λc hc=>(AS.mp hc).elim (λy=>hZ c (B6 y)) λy=>hZ c (Cb y))
   refine⟨z',h1,h2,h3,h4.trans ?_⟩
   rw[gk]
   have e':run mv r (z.take i)=run mv r (z.take j):=e
   rw[e',<-gk,B1]
def yq(b:Nat)(ss:List Str)(x:Str)(ns:List Nat)(mv:List (List Nat))(i r:Nat):Prop:=∃u,bX (b ^ ss.length) u/\u.map (own b ss (oth ss x))=wd b ns i/\run mv 0 u=r
theorem R5{b:Nat}(hb:2<=b){ss:List Str}{x:Str}{ns:List Nat}{bs:List Bool}{mv:List (List Nat)}(m:Moves bs.length (b ^ ss.length) mv)(n0:0<bs.length)(h:∀i,bu b ns<=i->i<=bu b ns+bs.length->∀r,yq b ss x ns mv i r->bs.getD r false=false):¬pY b ss (oth ss x) (lang bs mv 0) (nP b ns):=by
 rintro⟨v,z,hv,hz,e,h0,hl⟩
 obtain⟨z',h1,h2,h3,h4⟩:=shorten m (λc=>own b ss (oth ss x) c=0) z.length z (run mv 0 v) rfl (m.run n0 hv) hz h0
 have zr:∀(y:List Nat),(∀c∈y,own b ss (oth ss x) c=0)->y.map (own b ss (oth ss x))=AO y.length 0:=λy hy=>by
  rw[Gy]
  exact⟨AA _,λd hd=>by obtain⟨c,hc,rfl⟩:=Ac.mp hd;exact hy c hc⟩
 have wr:∀j,wd b ns (bu b ns+j)=nP b ns++AO j 0:=λj=>by
  induction j with
  | zero=>rw[List.replicate_zero,BU];rfl
  | succ j ih=>rw[show bu b ns+(j+1)=bu b ns+j+1 from rfl,p6,uz hb (by omega),ih,C_,E4]
 have:=h (bu b ns+z'.length) (by omega) (by omega) (run mv 0 (v++z')) ⟨v++z',hv.app h2,by rw[AF,e,zr z' h3,wr],rfl⟩
 rw[gk,h4,<-gk] at this
 unfold lang at hl
 rw[this] at hl
 cases hl
def df(b n k l:Nat):List Nat:=(Ad b).map λf=>lst b 0 (ins k f (fl b n l))
def j6(b n k:Nat):List (List Nat):=(Ad (b ^ n)).map (df b n k)
theorem J9(b n k:Nat):(j6 b n k).length=b ^ n:=by unfold j6;rw[AA,Aw]
theorem M6{b n k l:Nat}(h:l<b ^ n):(j6 b n k)[l]? =some (df b n k l):=by unfold j6;rw[AJ,CA h];rfl
theorem Io{ss:List Str}{k:Nat}{x:Str}(nd:ss.Nodup)(hx:ss[k]? =some x):(oth ss x).length=ss.length-1:=by
 have:=pZ (l:=ss) (AD.mp hx).1
 rw[p_ nd hx];omega
theorem yr{b n k l c:Nat}(hb:0<b)(h:c∈df b n k l):c<b ^ (n+1):=by
 unfold df at h
 obtain⟨f,hf,rfl⟩:=Ac.mp h
 have hf':=A_.mp hf
 have:=j5 (b:=b) (ds:=ins k f (fl b n l)) λd hd=>(gu.mp hd).elim (λz=>z▸hf') λz=>nO hb _ _ d z
 rwa [fH,fz] at this
theorem pI{b:Nat}(hb:2<=b){ss:List Str}{k:Nat}{x:Str}(nd:ss.Nodup)(hx:ss[k]? =some x){l c:Nat}(hl:l<b ^ (ss.length-1)):c∈df b (ss.length-1) k l↔c∈(bJ b ss (oth ss x)).getD l []:=by
 have hk:=(AD.mp hx).1
 have hb0:0<b:=by omega
 rw[gX (by rw[Io nd hx];exact hl)]
 have hd:∀d∈fl b (ss.length-1) l,d<b:=λd z=>nO hb0 _ _ d z
 have hlen:(fl b (ss.length-1) l).length+1=ss.length:=by rw[fz];omega
 have ll:lst b 0 (fl b (ss.length-1) l)=l:=tm hb0 _ _ hl
 constructor
 ·intro h
  refine⟨by have:=yr hb0 h;rwa [show ss.length-1+1=ss.length by omega] at this,?_⟩
  unfold df at h
  obtain⟨f,hf,rfl⟩:=Ac.mp h
  rw[mY nd hx hlen (A_.mp hf) hd,ll]
 ·rintro⟨h1,h2⟩
  obtain⟨f,hf,rfl⟩:=qZ hb0 nd hx hlen hd h1 (h2.trans ll.symm)
  exact Ac.mpr ⟨f,A_.mpr hf,rfl⟩
theorem Ip(xs:List V){n:Nat}(h:n<=xs.length):fL xs none (some (n:Int))=xs.take n:=by
 unfold fL
 rw[show HT.bp xs.length xs.length (some (n:Int))=min n xs.length from HT.tH xs.length xs.length n,E_ h]
 show(xs.drop 0).take (n-0)=_
 rw[Fj,Gg]
theorem pJ(xs:List V){n:Nat}(h:n<=xs.length):fL xs (some (n:Int)) none=xs.drop n:=by
 unfold fL
 rw[show HT.bp xs.length 0 (some (n:Int))=min n xs.length from HT.tH xs.length 0 n,E_ h]
 exact Bv (by rw[CK];exact AM _)
theorem vJ(k N:Nat)(ns:List Nat):(ai (ins k N ns)).map V.int=(((ai ns).map V.int).take k++[.int (N:Int)])++((ai ns).map V.int).drop k:=by
 unfold ins ai
 simp[Ez,HS]
theorem uA{σ:St}{H:Hp}{Q:Option Int->Hp->Prop}(h:Q none H):zx σ H Q:=h
theorem yt{K:AE}{H:Hp}{a:Addr}{xs:List V}{lo hi:Option Int}{Q:VK}(ea:H a=some (.tup xs))(h:∀u H',Same H H'->H' u=some (.tup (fL xs lo hi))->Q (.ref u) H'):P7 K (.ref a) lo hi H Q:=by
 refine⟨a,xs,rfl,.of ea,λc=>h a H (Same.refl _) ?_,λ_ p hp=>h p _ (Same.new hp) af⟩
 unfold fL
 rw[c.1,c.2,Fj,Gg,Ay]
 exact ea
def O8:Sp:=λvs H Q _=>∃(b k:Nat) (nm:Addr) (ss:List Str) (x:Str),vs=[.int b,.ref nm,.str x]/\2<=b/\b<=4/\H nm=some (.tup (ss.map V.str))/\ss.Nodup/\ss[k]? =some x/\ss.length<=4/\
 ∀(W:Addr) (as:List Addr) (H':Hp),Same H H'->H' W=some (.lst (as.map V.ref))->bP H' as (j6 b (ss.length-1) k)->Q (.ref W) H'
theorem dn:aU ["_law_base","_law_names_here","_law_name","_law_at","_law_found","_law_letter","_law_numbers","_law_figure","_law_number","_law_one"] ["_law_base","_law_names_here","_law_name"] (aj gc):=⟨rfl,rfl,rfl,by decide+kernel,rfl,by decide+kernel,by decide+kernel⟩
set_option maxHeartbeats 16000000 in
theorem y9{a:cb}(T:Txt K mg a):aV P w K mg base bK 2 a.jR a.ml ["_law_base","_law_names_here","_law_name"] O8:=by
 have za:=yl (P:=P) (w:=w) (base:=base) T
 refine T.JC.ok dn (λvs H Q E h=>?_) (λcdv A outer s H vs Q E hr h=>?_)
 ·obtain⟨b,k,nm,ss,x,rfl,_⟩:=h
  rfl
 ·obtain⟨b,k,nm,ss,x,rfl,hb2,hb4,en,nd,hx,vH,q⟩:=h
  have yu:aQ 1 _:=hr
  refine⟨_,(ah (av (i:=3) dn.nd rfl (AW rfl) (xr EE EF EG (o4 K) (pv 1) (ae (pv 2) ag)))
  (ah (av (i:=4) dn.nd rfl (AW rfl) (bt ag))
  (ah (aY Af rfl (bM (aE za yu rfl T.yU T.yV T.yW .nil aN (ae (pv 0) (ae (aH ki (aF (aP K) (by rfl) T.cg bI (ae (pv 1) ag)) ak) ag)))) (ay (i:=5) dn.nd rfl (AW rfl))
   (ah (av (i:=6) dn.nd rfl (AW rfl) (bt ag))
   (ah (aY Af rfl (bh rfl T.bV (ae (pv 0) ag)) (ay (i:=7) dn.nd rfl (AW rfl))
    (ah (av (i:=8) dn.nd rfl (AW rfl) ak)
    (ah (aY Af rfl (dN (aH (Ij K) (aH (Ij K) (fK (tU K) (pv 5) dQ (fE (pv 3))) (cB (ae (pv 7) ag))) (fK (tU K) (pv 5) (fE (pv 3)) dQ))) (ay (i:=9) dn.nd rfl (AW rfl))
     (au (av (i:=8) dn.nd rfl (AW rfl) (aH cK (aH dr (pv 8) (pv 0)) (pv 9)))))
    (au (bG (cC Ai Au Av bz (pv 6) (ae (pv 8) ag)))))))
   (au (bG (cC Ai Au Av bz (pv 4) (ae (pv 6) ag)))))))
  (au (aO (pv 4)))))),?_⟩
  have big:(10000:Nat)<=sizeLine:=by decide
  have hk:=(AD.mp hx).1
  have hb0:0<b:=by omega
  have lim:∀i,i<k->ss[i]? ≠some x:=λi hi z=>by
   obtain⟨h1,e1⟩:=AD.mp z
   obtain⟨h2,e2⟩:=AD.mp hx
   have:=(D1 nd).mp (e1.trans e2.symm)
   omega
  refine aA λY hY=>?_
  refine⟨_,rfl,⟨nm,_,rfl,en⟩,_,rfl,nm,ss,x,k,rfl,rfl,.of en,hx,lim,?_⟩
  dsimp only[az]
  subst hY
  refine aA λY hY=>?_
  refine⟨by decide,λW hW=>?_⟩
  have sW:=Same.new (o:=.lst []) hW
  dsimp only[az]
  subst hY
  refine aA λY hY=>?_
  have el1:((ss.length:Nat):Int)-1=((ss.length-1:Nat):Int):=by omega
  refine⟨_,rfl,_,rfl,_,ss.length,rfl,.inr ⟨_,.of (sW _ _ en),by rw[AA]⟩,_,_,rfl,rfl,b,ss.length-1,by dsimp only;rw[el1];rfl,hb4,by omega,λDa pa H1 Ib s1 e1 t1=>?_⟩
  generalize hn:ss.length-1=n at t1 q
  have hB:b ^ n<=256:=cL hb4 (by omega)
  have MG:pa.length=b ^ n:=by rw[As t1,fq]
  have nDW:Da≠W:=λy=>by rw[y,af] at Ib;cases Ib
  refine⟨Da,rfl,⟨_,.of e1⟩,g5 (xs:=pa.map V.ref) (λi σ H'=>∃(as:List Addr) (v5 v6 v7 v8 v9:Option V),σ=[some (.int (b:Nat)),some (.ref nm),some (.str x),some (.int (k:Nat)),some (.ref W),v5,v6,v7,v8,v9]/\Same H H'/\bF H1 H'/\H' Da=some (.lst (pa.map V.ref))/\H' W=some (.lst (as.map V.ref))/\bP H' as ((Ad i).map (df b n k))/\W ∉ as)
   ⟨[],none,none,none,none,none,rfl,sW.trans s1,(Same.refl _).kt,e1,s1 _ _ af,.nil,D6⟩ (λi σ H' _ ⟨_,_,_,_,_,_,_,_,_,e,_⟩=>.of e) ?_ ?_⟩
  ·rintro i y σ H2 M1 yc hy ⟨as,v5,v6,v7,v8,v9,rfl,s2,t2,e2,Qx,mU,nW⟩
   obtain⟨p,rfl,ep⟩:=mO hy
   have hi:i<b ^ n:=by rw[<-MG];exact(AD.mp ep).1
   obtain⟨l',hl',el⟩:=t1.get ep
   rw[ug hb0 _ _ hi] at hl'
   have:=AZ hl'
   subst this
   have el2:=t2 _ _ el
   have U_:as.length=i:=by rw[mU.len,AA,Aw]
   dsimp only[az]
   refine aA λY2 de=>?_
   refine⟨by decide,λN hN=>?_⟩
   have sN:=Same.new (o:=.lst []) hN
   have X2:W≠N:=aq Qx hN
   have nNa:N ∉ as:=λz=>by obtain⟨l,e⟩:=mU.mem z;rw[e] at hN;cases hN
   dsimp only[az]
   subst de
   refine aA λY2 de=>?_
   refine⟨_,rfl,_,rfl,by omega,by omega,cP (n:=((b:Nat):Int).toNat) (λj σ H'=>∃(v7 v8 v9:Option V),σ=[some (.int (b:Nat)),some (.ref nm),some (.str x),some (.int (k:Nat)),some (.ref W),some (.ref p),some (.ref N),v7,v8,v9]/\Same H2 H'/\H' N=some (.lst ((ai ((Ad j).map λf=>lst b 0 (ins k f (fl b n i)))).map V.int)))
    ⟨v7,v8,v9,rfl,sN,af⟩ ?_ ?_⟩
   ·rintro j σ H3 M2 vI hj ⟨v7,v8,v9,rfl,s3,Qy⟩
    rw[AY] at hj
    rw[show(0:Int)+(j:Int)=(j:Int) by omega]
    dsimp only[az]
    refine aA λY3 M4=>?_
    dsimp only[gM,tC,az]
    subst M4
    refine aA λY3 M4=>?_
    have el3:=s3 _ _ el2
    have lv:((ai (fl b n i)).map V.int).length=n:=by rw[AA,aB,fz]
    refine⟨_,rfl,uA ⟨_,rfl,_,rfl,yt el3 λu1 H4 s4 e4=>?_⟩⟩
    rw[Ip _ (by rw[lv];omega)] at e4
    refine⟨_,rfl,by show 1<=sizeLine;decide,λu2 hu2=>?_⟩
    have sU:=Same.new (o:=.tup [.int (j:Nat)]) hu2
    refine⟨u1,u2,_,_,rfl,rfl,sU _ _ e4,af,by rw[Ao,lv];show min k n+1<=_;omega,λu3 H5 s5 e5=>?_⟩
    have M0:=(s4.trans sU).trans s5
    refine⟨_,rfl,_,rfl,_,rfl,uA (yt (M0 _ _ el3) λu4 H6 s6 e6=>?_)⟩
    rw[pJ _ (by rw[lv];omega)] at e6
    refine⟨u3,u4,_,_,rfl,rfl,s6 _ _ e5,e6,by rw[AH,Ao,CK,lv];show min k n+1+(n-k)<=_;omega,λu5 H7 s7 e7=>?_⟩
    rw[<-vJ] at e7
    have X3:=(M0.trans s6).trans s7
    have X4:=X3 _ _ Qy
    have s27:=s3.trans X3
    refine⟨u5,rfl,⟨_,.of e7⟩,kE (xs:=(ai (ins k j (fl b n i))).map V.int) (λz σ H'=>∃v9:Option V,σ=[some (.int (b:Nat)),some (.ref nm),some (.str x),some (.int (k:Nat)),some (.ref W),some (.ref p),some (.ref N),some (.int (j:Nat)),some (.int (lst b 0 ((ins k j (fl b n i)).take z):Nat)),v9]/\H'=H7)
     ⟨v9,rfl,rfl⟩ (λz σ H' _ ⟨_,_,e⟩=>e▸.of e7) ?_ ?_⟩
    ·rintro z u σ H8 M3 hM3 hu ⟨v9,rfl,rfl⟩
     obtain⟨d,rfl,ed⟩:=di hu
     refine⟨_,rfl,_,rfl,_,_,rfl,rfl,.inr (by constructor<;>omega),_,rfl,_,_,rfl,rfl,hM3 _ _ ⟨some (.int (d:Nat)),?_,rfl⟩⟩
     rw[take_snoc ed,uh,Cf,Bx]
     rfl
    ·rintro σ H8 ⟨v9,rfl,rfl⟩
     rw[AA,aB,Ay]
     subst M4
     have lQ:H2 N=none:=hN
     refine⟨_,rfl,.inl ⟨rfl,_,.of X4⟩,_,rfl,N,_,_,rfl,rfl,X4,?_,vI _ _ ⟨_,_,_,rfl,s27.kbn lQ KB.write,?_⟩⟩
     ·rw[AA,aB,AA,Aw];omega
     ·rw[af,BD,AF,aR,AF];rfl
   ·rintro σ H3 ⟨v7,v8,v9,rfl,s3,Qy⟩
    rw[AY] at Qy
    subst de
    have U0:=s3 _ _ Qx
    refine⟨_,rfl,.inl ⟨rfl,_,.of U0⟩,_,rfl,W,_,_,rfl,rfl,U0,by rw[AA,U_];omega,yc _ _ ⟨as++[N],_,_,_,_,_,rfl,(s2.trans s3).kbn hW KB.write,(t2.trans s3.kt).trans (bF.lst U0),by rw[ao nDW];exact s3 _ _ e2,by rw[af,AF];rfl,?_,λz=>?_⟩⟩
    ·rw[BD,AF]
     refine bP.snoc (mU.keep λc hc o e=>?_) ?_
     ·rw[ao (λz=>nW (by rw[<-z];exact hc))];exact s3 _ _ e
     ·rw[ao X2.symm];exact Qy
    ·rcases AS.mp z with z | z
     ·exact nW z
     ·exact X2 (AI.mp z)
  ·rintro σ H2 ⟨as,v5,v6,v7,v8,v9,rfl,s2,t2,e2,Qx,mU,nW⟩
   subst hY
   refine⟨_,rfl,q W as H2 s2 Qx ?_⟩
   rw[AA,MG] at mU
   exact mU
theorem n8(r:Nat):∀l:List Nat,inV (.int (r:Int)) ((ai l).map V.int)=decide (r∈l)
 | []=>rfl
 | x::l=>by
  show(jF (.int (x:Int)) (.int (r:Int))||inV (.int (r:Int)) ((ai l).map V.int))=_
  rw[n8 r l]
  by_cases e:x=r
  ·subst e
   rw[show jF (.int (x:Int)) (.int (x:Int))=true from beq_iff_eq.mpr rfl]
   simp
  ·rw[show jF (.int (x:Int)) (.int (r:Int))=false from beq_eq_false_iff_ne.mpr λz=>e (by omega)]
   by_cases h:r∈l
   ·simp[h]
   ·simp[h,Ck e]
theorem uB(l:List Nat):((ai l).map V.int).all f'=true:=by rw[EY];exact DP.mpr λ_ _=>rfl
structure qw (bs:List Bool)(mv:List (List Nat))(cs l:List Nat):Prop where
 nd:l.Nodup
 lt:∀r∈l,r<bs.length
 yes:∀r,r<bs.length->bs.getD r false=true->r∈l
 can:∀r∈l,iT bs mv cs r
def uC(n:Nat)(mv:List (List Nat))(cs l:List Nat):Prop:=∀r,r<n->∀c∈cs,stp mv r c∈l->r∈l
theorem qw.begin(bs:List Bool)(mv:List (List Nat))(cs:List Nat):qw bs mv cs ((Ad bs.length).filter λr=>bs.getD r false):=
 ⟨C0 HN List.nodup_range,λr hr=>A_.mp (Bc.mp hr).1,λr hr h=>Bc.mpr ⟨A_.mpr hr,h⟩,λr hr=>⟨[],(λc hc=>by cases hc),(Bc.mp hr).2⟩⟩
theorem O9{bs:List Bool}{mv:List (List Nat)}{cs:List Nat}{r c:Nat}(hc:c∈cs)(h:iT bs mv cs (stp mv r c)):iT bs mv cs r:=by
 obtain⟨z,h1,h2⟩:=h
 exact⟨c::z,λx hx=>(Ak.mp hx).elim (λe=>e▸hc) λm=>h1 x m,h2⟩
theorem qw.add{bs:List Bool}{mv:List (List Nat)}{cs l:List Nat}(g:qw bs mv cs l){r c:Nat}(hr:r<bs.length)(hn:r ∉ l)(hc:c∈cs)(h:stp mv r c∈l):qw bs mv cs (l++[r]):=
 ⟨BR.mpr ⟨g.nd,by simp,λa ha b hb z=>hn (by rw[<-AI.mp hb,<-z];exact ha)⟩,λx hx=>(AS.mp hx).elim (g.lt x) λz=>by rw[AI.mp z];exact hr,
  λx h1 h2=>C8 _ (g.yes x h1 h2),λx hx=>(AS.mp hx).elim (g.can x) λz=>by rw[AI.mp z];exact O9 hc (g.can _ h)⟩
theorem qw.fin{bs:List Bool}{mv:List (List Nat)}{cs l:List Nat}{B:Nat}(m:Moves bs.length B mv)(hcs:∀c∈cs,c<B)(g:qw bs mv cs l)(s:uC bs.length mv cs l∨bs.length<=l.length):∀r,r∈l↔r<bs.length/\iT bs mv cs r:=by
 have sh:uC bs.length mv cs l:=by
  rcases s with s | s
  ·exact s
  ·intro r hr _ _ _
   have sub:(l++[r]).Nodup->False:=λnd=>by
    have:=Bf (l₂:=Ad bs.length) nd λx hx=>A_.mpr ((AS.mp hx).elim (g.lt x) λz=>by rw[AI.mp z];exact hr)
    rw[AH,Aw] at this
    simp at this
    omega
   by_cases z:r∈l
   ·exact z
   ·exact(sub (BR.mpr ⟨g.nd,by simp,λa ha b hb e=>z (by rw[<-AI.mp hb,<-e];exact ha)⟩)).elim
 have go:∀(z:List Nat) (r:Nat),r<bs.length->(∀c∈z,c∈cs)->lang bs mv r z=true->r∈l:=by
  intro z
  induction z with
  | nil=>intro r hr _ h;exact g.yes r hr h
  | cons c z ih=>
   intro r hr hz h
   have hc:=hz c Aa
   exact sh r hr c hc (ih _ (m.stp hr (hcs c hc)) (λx hx=>hz x (AV _ hx)) h)
 intro r
 constructor
 ·exact λh=>⟨g.lt r h,g.can r h⟩
 ·rintro⟨hr,z,h1,h2⟩
  exact go z r hr h1 h2
structure jW (bs:List Bool)(mv:List (List Nat))(cs l0:List Nat)(j:Nat)(l:List Nat):Prop where
 go:qw bs mv cs l
 le:l0.length<=l.length
 same:l.length=l0.length->l=l0/\∀r,r<j->r ∉ l0->∀c∈cs,stp mv r c ∉ l0
 shut:uC bs.length mv cs l0->l=l0
theorem jW.stay{bs:List Bool}{mv:List (List Nat)}{cs l0 l:List Nat}{j:Nat}(h:jW bs mv cs l0 j l)(q:j∈l∨∀c∈cs,stp mv j c ∉ l):jW bs mv cs l0 (j+1) l:=by
 refine⟨h.go,h.le,λe=>?_,h.shut⟩
 obtain⟨rfl,k⟩:=h.same e
 refine⟨rfl,λr hr hn c hc z=>?_⟩
 by_cases y:r<j
 ·exact k r y hn c hc z
 ·have:r=j:=by omega
  subst this
  exact q.elim hn λf=>f c hc z
theorem jW.add{bs:List Bool}{mv:List (List Nat)}{cs l0 l:List Nat}{j c:Nat}(h:jW bs mv cs l0 j l)(hj:j<bs.length)(hn:j ∉ l)(hc:c∈cs)(hl:stp mv j c∈l):jW bs mv cs l0 (j+1) (l++[j]):=by
 have le:=h.le
 refine⟨h.go.add hj hn hc hl,by rw[AH];omega,λe=>by rw[AH] at e;simp at e;omega,λs=>?_⟩
 have:=h.shut s
 subst this
 exact absurd (s j hj c hc hl) hn
theorem jW.done{bs:List Bool}{mv:List (List Nat)}{cs l0 l:List Nat}{t:Nat}(h:jW bs mv cs l0 bs.length l)(q:uC bs.length mv cs l0∨t<=l0.length):uC bs.length mv cs l∨t+1<=l.length:=by
 rcases q with q | q
 ·rw[h.shut q];exact .inl q
 ·by_cases e:l.length=l0.length
  ·obtain⟨rfl,k⟩:=h.same e
   refine .inl λr hr c hc z=>?_
   by_cases y:r∈l
   ·exact y
   ·exact absurd z (k r hr y c hc)
  ·have:=h.le
   exact .inr (by omega)
def W6:Sp:=λvs H Q _=>∃(m nm y v lt:Addr) (ps:List Addr) (bs:List Bool) (mv:List (List Nat)) (B:Nat) (cs:List Nat),vs=[.ref m,.ref lt]/\iB H m nm y v ps bs mv B/\H lt=some (.lst ((ai cs).map V.int))/\(∀c∈cs,c<B)/\bs.length<=62/\cs.length<=300/\
 ∀(G:Addr) (gs:List Nat) (H':Hp),Same H H'->H' G=some (.lst ((ai gs).map V.int))->(∀r,r∈gs↔r<bs.length/\iT bs mv cs r)->Q (.ref G) H'
theorem gL:aU ["_law_machine_here","_law_noughts","_law_found","_law_turn","_law_room"] ["_law_machine_here","_law_noughts"] (aj dw):=⟨rfl,rfl,rfl,by decide+kernel,rfl,by decide+kernel,by decide+kernel⟩
set_option maxHeartbeats 16000000 in
theorem wu{a:cb}(T:Txt K mg a):aV P w K mg base bK 1 a.iy a.jw ["_law_machine_here","_law_noughts"] W6:=by
 refine T.xM.ok gL (λvs H Q E h=>?_) (λcdv A outer s H vs Q E hr h=>?_)
 ·obtain⟨m,nm,y,v,lt,ps,bs,mv,B,cs,rfl,_⟩:=h
  rfl
 ·obtain⟨m,nm,y,v,lt,ps,bs,mv,B,cs,rfl,⟨a1,a2,a3,tp,cD⟩,elt,hcs,hn,hc3,q⟩:=h
  refine⟨_,(ah (av (i:=2) gL.nd rfl (CZ rfl) (ck (aG.mk' (esc:=aj dw) (N:=["_law_machine_here","_law_noughts","_law_found","_law_turn","_law_room"]) (own:=["_law_room"]) (aI:=["_law_machine_here"]) (bD:=[0]) rfl rfl (by decide+kernel)) rfl (bh rfl T.bV (ae (aF (aP K) (by rfl) T.cg bI (ae (aC (aD K) (pv 0) ak (λ_ _=>rfl)) ag)) ag)) (λ_ _ _ _=>(ay (i:=0) (show BK (["_law_room","_law_machine_here"]:List Str) by decide+kernel) rfl (AW rfl))) (λ_ _ _ _=>(iF (oX K (aC (aD K) (aC (aD K) (pv 1) ak (λ_ _=>rfl)) (pv 0) (λ_ _=>rfl)) (λ_=>rfl)))) (λ_ _ _ _=>(pv 0))))
  (ah (aY Af rfl (dN (aC (aD K) (pv 0) ak (λ_ _=>rfl))) (ay (i:=3) gL.nd rfl (AW rfl))
   (au (aY Af rfl (bh rfl T.bV (ae (aF (aP K) (by rfl) T.cg bI (ae (aC (aD K) (pv 0) ak (λ_ _=>rfl)) ag)) ag)) (ay (i:=4) gL.nd rfl (CZ rfl))
    (au (cM (PW.pt (wJ (aX (vb K) (pv 4) (pv 2) (by with_unfolding_all rfl)) (tG (fJ (aF (oV K rfl) (by rfl) T.JM xg (ae (ck (aG.mk' (esc:=aj dw) (N:=["_law_machine_here","_law_noughts","_law_found","_law_turn","_law_room"]) (own:=["_law_k"]) (aI:=["_law_found","_law_room","_law_machine_here"]) (bD:=[2,4,0]) rfl rfl (by decide+kernel)) rfl (bM (pv 1)) (λ_ _ _ _=>(ay (i:=0) (show BK (["_law_k","_law_found","_law_room","_law_machine_here"]:List Str) by decide+kernel) rfl (AW rfl))) (λ_ _ _ _=>br) (λ_ _ _ _=>(f_ (oS K) (aC (aD K) (aC (aD K) (aC (aD K) (pv 3) ak (λ_ _=>rfl)) (pv 2) (λ_ _=>rfl)) (pv 0) (λ_ _=>rfl)) (pv 1) (by with_unfolding_all rfl)))) ag)) (λ_=>rfl)))))
     (au (bG (cC Ai Au Av bz (pv 2) (ae (pv 4) ag))))
     bQ)))))
  (au (aO (pv 2))))),?_⟩
  have big:(10000:Nat)<=sizeLine:=by decide
  refine aA λY hY=>?_
  refine⟨_,rfl,m,_,_,.ref y,rfl,rfl,.of a1,ax (j:=1) rfl,_,bs.length,rfl,.inr ⟨_,.of a2,by rw[AA]⟩,_,rfl,by omega,by omega,λG hG=>?_⟩
  refine fh (n:=((bs.length:Nat):Int).toNat) (λi σ H'=>∃v0:Option V,σ=[v0,some (.ref m)]/\Same H H'/\H' G=some (.lst ((ai ((Ad i).filter λr=>bs.getD r false)).map V.int)))
   ⟨none,?sg,Same.new hG,af⟩ ?_ ?_
  case sg=>rfl
  ·rintro i σ H' hi ⟨v0,rfl,s',c'⟩
   rw[AY] at hi
   rw[show(0:Int)+(i:Int)=(i:Int) by omega]
   refine⟨_,rfl,m,_,_,.ref y,rfl,rfl,.of (s' _ _ a1),ax (j:=1) rfl,_,rfl,y,_,_,.bl (bs.getD i false),rfl,rfl,.of (s' _ _ a2),ax (by rw[AJ,item_at false hi];rfl),bs.getD i false,rfl,?_⟩
   cases hb:bs.getD i false with
   | true=>
    refine fM ?_
    refine⟨_,rfl,_,c',?_,some (.int (i:Nat)),rfl,s'.kbn hG KB.write,?_⟩
    ·have:=Bh (λr=>bs.getD r false) (Ad i)
     rw[Aw] at this
     rw[AA,aB];omega
    ·rw[af,BD,Bd,Be,if_pos hb,Cg,aR,AF];rfl
   | false=>
    refine cX ?_
    refine⟨some (.int (i:Nat)),rfl,s',?_⟩
    rw[BD,Bd,Be,if_neg (by rw[hb];decide),Cg,BU];exact c'
  rintro σ H1 ⟨v0,rfl,s1,c1⟩
  rw[AY] at c1
  dsimp only[az]
  subst hY
  refine aA λY hY=>?_
  have cap:∀{l:List Nat},qw bs mv cs l->l.length<=bs.length:=λ{l} g=>by
   have:=Bf (l₂:=Ad bs.length) g.nd λx hx=>A_.mpr (g.lt x hx)
   rwa [Aw] at this
  refine⟨_,rfl,m,_,_,.ref y,rfl,rfl,.of (s1 _ _ a1),ax (j:=1) rfl,y,rfl,⟨_,.of (s1 _ _ a2)⟩,kE (xs:=bs.map V.bl) (λt σ H'=>∃(l:List Nat) (v3 v4:Option V),σ=[some (.ref m),some (.ref lt),some (.ref G),v3,v4]/\Same H H'/\H' G=some (.lst ((ai l).map V.int))/\qw bs mv cs l/\(uC bs.length mv cs l∨t<=l.length))
   ⟨_,none,none,rfl,s1,c1,.begin bs mv cs,.inr (BI _)⟩ (λt σ H' _ ⟨_,_,_,_,s,_⟩=>.of (s _ _ a2)) ?_ ?_⟩
  ·rintro t u σ H2 M1 yc hu ⟨l0,v3,v4,rfl,s2,c2,g2,d2⟩
   dsimp only[az]
   refine⟨_,rfl,m,_,_,.ref y,rfl,rfl,.of (s2 _ _ a1),ax (j:=1) rfl,_,bs.length,rfl,.inr ⟨_,.of (s2 _ _ a2),by rw[AA]⟩,_,rfl,by omega,by omega,cP (n:=((bs.length:Nat):Int).toNat) (λj σ H'=>∃(l:List Nat) (v4:Option V),σ=[some (.ref m),some (.ref lt),some (.ref G),some u,v4]/\Same H H'/\H' G=some (.lst ((ai l).map V.int))/\jW bs mv cs l0 j l)
    ⟨l0,v4,rfl,s2,c2,⟨g2,AM _,λ_=>⟨rfl,λr hr=>absurd hr (Bw _)⟩,λ_=>rfl⟩⟩ ?_ ?_⟩
   ·rintro j σ H3 M2 vI hj ⟨l,v4,rfl,s3,c3,h3⟩
    rw[AY] at hj
    rw[show(0:Int)+(j:Int)=(j:Int) by omega]
    dsimp only[az]
    have cl:=cap h3.go
    refine⟨_,rfl,_,rfl,G,_,rfl,.inl (.of c3),rfl,uB _,_,rfl,?_⟩
    rw[if_pos rfl,n8]
    by_cases hm:j∈l
    ·rw[decide_eq_true hm]
     refine cX ?_
     refine cX ?_
     exact vI _ _ ⟨l,some (.int (j:Nat)),rfl,s3,c3,h3.stay (.inl hm)⟩
    rw[decide_eq_false hm]
    refine fM ?_
    obtain⟨r1,r2,r3⟩:=cD.row tp hj
    refine⟨_,rfl,lt,rfl,⟨_,.of (s3 _ _ elt)⟩,λC hC=>?_⟩
    have eCl:∀{H':Hp},Same H3 H'->H' G=some (.lst ((ai l).map V.int)):=λ{H'} s=>s _ _ c3
    refine cR (xs:=(ai cs).map V.int) (λz σ H'=>∃v0:Option V,σ=[v0,some (.ref G),some (.int (j:Nat)),some (.ref m)]/\Same H3 H'/\H' C=some (.lst (((cs.take z).map λc=>decide (stp mv j c∈l)).map V.bl)))
     ⟨none,?sg2,Same.new hC,af⟩ (λz σ H' _ ⟨_,_,s,_⟩=>.of (s _ _ (s3 _ _ elt))) ?_ ?_
    case sg2=>rfl
    ·rintro z cv σ H4 hz ⟨v0,rfl,s4,c4⟩
     obtain⟨c,rfl,ec⟩:=di hz
     have hz':=(AD.mp ec).1
     have hcB:=hcs c (AL ec)
     have lT:=s3.trans s4
     refine⟨_,rfl,m,_,_,.ref v,rfl,rfl,.of (lT _ _ a1),ax (j:=2) rfl,_,rfl,v,_,_,.ref (ps.getD j 0),rfl,rfl,.of (lT _ _ a3),ax (by rw[AJ,r1];rfl),_,rfl,ps.getD j 0,_,_,.int (stp mv j c:Nat),rfl,rfl,.of (lT _ _ r2),ax (cG (by rw[r3];exact hcB)),_,rfl,G,_,rfl,.inl (.of (s4 _ _ c3)),rfl,uB _,_,c4,by rw[AA,AA,Ao];omega,some (.int (c:Nat)),rfl,s4.kbn hC KB.write,?_⟩
     rw[if_neg (by decide),n8,af,take_snoc ec,AF,AF];rfl
    rintro σ H4 ⟨v0,rfl,s4,c4⟩
    rw[AA,aB,Ay] at c4
    refine⟨C,_,rfl,.of c4,_,rfl,?_⟩
    rw[Gb]
    have lT:=s3.trans s4
    by_cases ha:(cs.any (id∘λc=>decide (stp mv j c∈l)))=true
    ·rw[ha]
     refine fM ?_
     obtain⟨c,hc,hd⟩:=B_.mp ha
     have hd':stp mv j c∈l:=of_decide_eq_true hd
     have X5:=s4 _ _ c3
     refine⟨_,rfl,.inl ⟨rfl,_,.of X5⟩,_,rfl,G,_,_,rfl,rfl,X5,by rw[AA,aB];omega,vI _ _ ⟨l++[j],some (.int (j:Nat)),rfl,lT.kbn hG KB.write,?_,h3.add hj hm hc hd'⟩⟩
     rw[af,aR,AF];rfl
    ·rw[Bool.eq_false_iff.mpr ha]
     refine cX ?_
     refine vI _ _ ⟨l,some (.int (j:Nat)),rfl,lT,s4 _ _ c3,h3.stay (.inr λc hc z=>ha (B_.mpr ⟨c,hc,decide_eq_true z⟩))⟩
   ·rintro σ H3 ⟨l,v4,rfl,s3,c3,h3⟩
    rw[AY] at h3
    exact yc _ _ ⟨l,some u,v4,rfl,s3,c3,h3.go,h3.done d2⟩
  ·rintro σ H2 ⟨l,v3,v4,rfl,s2,c2,g2,d2⟩
   rw[AA] at d2
   subst hY
   exact⟨_,rfl,q G l H2 s2 c2 (g2.fin cD hcs d2)⟩
section
variable{X:Cx}{pos:Pos}{name:Str}{params:Cs}{body:List Stmt}{scope:Scope}{c T:Addr}{clos:List (Str×Addr)}{L:List (Pos×Str)}
theorem R6{i:Nat}(hN:X.N.Nodup)(hi:X.N[i]? =some name)(hx:Loc X.env.scope name)(hcode:X.env.code=.ref c)(hC:DV X.K c T=true)(hB:fj X.mg X.base)(hcl:FY scope X.env=pure clos)(hd0:params.defaults=[])(hk0:params.kw_defaults=[])(ha:annTrees params none X.env=[])
  (hL:(pos,Dz X.env name name)∈L) (ap:Apart L) (hf:X.fn name=true∨X.env.scope.names.lookup name=some .local:=by first | exact .inl rfl | exact .inr rfl | assumption):
  PS X (.FunctionDef name params body [] none [] scope none name pos) (TY X name params body scope clos T L i):=λpins s σ H D I h=>T_ hN hi hx hcode (D_ I.ok.mod.uM hC) hB hcl hd0 hk0 ha hL ap hf pins s σ H D I h
end
structure oA (m nm y v:Addr)(ps:List Addr)(bs:List Bool)(mv:List (List Nat))(B:Nat)(W:Addr)(as:List Addr)(LL:List (List Nat))(H:Hp):Prop where
 mc:iB H m nm y v ps bs mv B
 w:H W=some (.lst (as.map V.ref))
 ls:bP H as LL
theorem oA.keep{m nm y v:Addr}{ps:List Addr}{bs:List Bool}{mv:List (List Nat)}{B:Nat}{W:Addr}{as:List Addr}{LL:List (List Nat)}{H H':Hp}(e:oA m nm y v ps bs mv B W as LL H)(kt:bF H H')(kl:∀b xs,H b=some (.lst xs)->H' b=some (.lst xs)):oA m nm y v ps bs mv B W as LL H':=
 ⟨e.mc.keep kt,kl _ _ e.w,e.ls.keep λb hb o q=>by obtain⟨l,z⟩:=e.ls.mem hb;rw[z] at q;cases q;exact kl _ _ z⟩
theorem oA.same{m nm y v:Addr}{ps:List Addr}{bs:List Bool}{mv:List (List Nat)}{B:Nat}{W:Addr}{as:List Addr}{LL:List (List Nat)}{H H':Hp}(e:oA m nm y v ps bs mv B W as LL H)(s:Same H H'):oA m nm y v ps bs mv B W as LL H':=e.keep s.kt λb xs z=>s _ _ z
theorem oA.dv{m nm y v:Addr}{ps:List Addr}{bs:List Bool}{mv:List (List Nat)}{B:Nat}{W:Addr}{as:List Addr}{LL:List (List Nat)}{H:Hp}{D:List Addr}(hD:∀a∈D,∃φ,H a=some (.ext φ))(e:oA m nm y v ps bs mv B W as LL H):oA m nm y v ps bs mv B W as LL (L2.dv D H):=
 e.keep (λb xs z=>iI hD z (λ_ y=>nomatch y)) λb xs z=>iI hD z (λ_ y=>nomatch y)
theorem vK:∀{ks:List Int},(∀y∈ks,∃r:Nat,y=(r:Int))->ks=ai (ks.map GW)
 | [],_=>rfl
 | y::ks,h=>by
  obtain⟨r,e⟩:=h y Aa
  have:=vK (ks:=ks) λz hz=>h z (AV _ hz)
  rw[A0]
  show y::ks=((y.toNat:Nat):Int)::ai (ks.map GW)
  rw[<-this,e,AY]
theorem R7{ks ns:List Int}{mv:List (List Nat)}{n:Nat}{S cs met:List Nat}(nd:ks.Nodup)(hm:∀y,y∈ks↔y∈ai met)(hmet:∀t,t∈met↔t∈gV mv n S cs)(hp:ns.Perm ks)(hs:ns.Pairwise (· <= ·)):ns=ai (gV mv n S cs):=by
 have e:ks=ai (ks.map GW):=vK λy hy=>by
  obtain⟨r,_,rfl⟩:=Ac.mp ((hm y).mp hy)
  exact⟨r,rfl⟩
 have mem:∀r:Nat,r∈ks.map GW↔r∈met:=λr=>by
  have h1:=hm (r:Int)
  rw[e] at h1
  generalize ks.map GW=l at h1 ⊢
  unfold ai at h1
  simp only[Ac] at h1
  constructor
  ·intro h
   obtain⟨z,hz,ez⟩:=h1.mp ⟨r,h,rfl⟩
   have:z=r:=by omega
   exact this▸hz
  ·intro h
   obtain⟨z,hz,ez⟩:=h1.mpr ⟨r,h,rfl⟩
   have:z=r:=by omega
   exact this▸hz
 have M7:(ks.map GW).Nodup:=by
  rw[e] at nd
  unfold ai at nd
  exact(List.pairwise_map.mp nd).imp λh z=>h (by rw[z])
 rw[e] at hp
 exact qr hp hs (C0 HN De) M7 λr=>(mem r).trans (hmet r)
def jD(mv:List (List Nat))(S cs:List Nat):List Nat:=S.flatMap λr=>cs.map (stp mv r)
theorem O'{mv:List (List Nat)}{S cs:List Nat}{t:Nat}:t∈jD mv S cs↔∃r∈S,∃c∈cs,stp mv r c=t:=by
 unfold jD
 simp only[GU,Ac]
theorem M9(mv:List (List Nat))(S cs:List Nat)(r:Nat):jD mv (S++[r]) cs=jD mv S cs++cs.map (stp mv r):=by
 unfold jD
 rw[FD,Fz,List.flatMap_nil,BU]
theorem q_(mv:List (List Nat))(cs:List Nat):∀S:List Nat,(jD mv S cs).length=S.length*cs.length
 | []=>by simp[jD]
 | r::S=>by
  have:=q_ mv cs S
  unfold jD at this ⊢
  rw[Fz,AH,this,AA,A',Nat.succ_mul,Nat.add_comm]
theorem Iq{n:Nat}{S:List Nat}(h:hU n S):S.length<=n:=by
 obtain⟨p,rfl⟩:=h
 have:=Bh p (Ad n)
 rwa [Aw] at this
def W7(a:cb):Sp:=λvs H Q _=>∃(b k:Nat) (m:Addr) (ss:List Str) (x:Str) (bs:List Bool) (mv:List (List Nat)) (bd:Nat),vs=[.int b,.ref m,.str x]/\2<=b/\b<=4/\Mc b H m ss bs mv/\ss.Nodup/\ss[k]? =some x/\ss.length<=4/\bs.length<=62/\TB a H/\
 (∀l:List (List Nat),l.Nodup->pF b ss x bs mv l->l.length<=bd)/\bd<=2000/\
 ∀(p Rr t N Yy va:Addr) (vs:List V) (ps:List Addr) (xs mv':List (List Nat)) (H':Hp),KX a H H'->TB a H'->(∀o,H Rr=some o->∃qs,o=.fw qs)->H' p=some (.tup [.ref Rr,.ref t])->H' t=some (.tup [.ref N,.ref Yy,.ref va])->H' N=some (.tup ((oth ss x).map V.str))->H' Yy=some (.tup ((xs.map (jC b ss x bs mv)).map V.bl))->H' va=some (.tup (ps.map V.ref))->cx H' ps (mv'.map ai)->
  H' Rr=some (.lst vs)->fV qN H' vs xs->mv'.length=xs.length->xs.length<=bd->cp [0] (tf b ss x bs mv) (b ^ (oth ss x).length) xs mv'->Q (.ref p) H'
theorem zb{ss:List Str}{x:Str}{l:List Str}{s:Str}(h:V.str s=V.str x):oth (l++[s]) x=oth l x:=by
 unfold oth
 rw[Bd,Be,if_neg (by rw[decide_eq_true h];decide),Cg,BU]
theorem yv{x:Str}{l:List Str}{s:Str}(h:V.str s≠V.str x):oth (l++[s]) x=oth l x++[s]:=by
 unfold oth
 rw[Bd,Be,if_pos (by rw[decide_eq_false h];decide),Cg]
theorem gY:aU ["_law_base","_law_machine_here","_law_name","_law_wholes_here","_law_going","_law_onward","_law_came","_law_moves","_law_yes"] ["_law_base","_law_machine_here","_law_name"] (aj eP):=⟨rfl,rfl,rfl,by decide+kernel,rfl,by decide+kernel,by decide+kernel⟩
set_option maxHeartbeats 32000000 in
theorem Pa{a:cb}(T:Txt K mg a)(hB:fj mg base):aV P w K mg base bK 3 a.pU a.qR ["_law_base","_law_machine_here","_law_name"] (W7 a):=by
 have J':=y9 (P:=P) (w:=w) (base:=base) T
 have yw:=wu (P:=P) (w:=w) (base:=base) T
 refine T.RG.ok gY (λvs H Q E h=>?_) (λAr outer s H vs Q E hr h=>?_)
 ·obtain⟨b,k,m,ss,x,bs,mv,bd,rfl,_⟩:=h
  rfl
 ·obtain⟨b,k,m,ss,x,bs,mv,bd,rfl,hb2,hb4,⟨nm,⟨y,v,ps,a1,a2,a3,a4⟩,en,mo,p0⟩,M',hx,hs,hn,tb,few,hbd,q⟩:=h
  have zc:aQ 2 _:=hr
  have wx:aQ 1 _:=hr.mono (by decide)
  refine⟨_,(ah (av (i:=3) gY.nd rfl (CZ rfl) (aE J' zc rfl T.JD T.JE T.JF .nil aN (ae (pv 0) (ae (aC (aD K) (pv 1) ak (λ_ _=>rfl)) (ae (pv 2) ag)))))
  (ah (av (i:=4) gY.nd rfl (CZ rfl) (aE yw wx rfl T.xN T.xO T.xP .nil aN (ae (pv 1) (ae (aC (bo K) (pv 3) ak (λ_ _=>rfl)) ag))))
  (ah (R6 (i:=5) (T:=a.iP) (L:=Uy) gY.nd rfl (AW rfl) rfl T.RH hB rfl rfl rfl rfl (Aa) (apart1 _))
  (ah (rl (xp (k:=2) (λ_=>rfl) hr rfl T.Md T.Me T.Mf (ae (cB (ae ak ag)) (ae (aF (aP K) (by rfl) T.cg bI (ae (pv 3) ag)) (ae (pv 5) (ae ak ag))))) (oH rfl (dD (ay (i:=6) gY.nd rfl (AW rfl)) (dD (ay (i:=7) gY.nd rfl (AW rfl)) jZ))))
  (ah (cO (i:=8) (aG.mk' (esc:=aj eP) (N:=["_law_base","_law_machine_here","_law_name","_law_wholes_here","_law_going","_law_onward","_law_came","_law_moves","_law_yes"]) (own:=["_law_room"]) (aI:=["_law_going"]) (bD:=[4]) rfl rfl (by decide+kernel)) rfl (bM (pv 6)) (λ_ _ _ _=>(ay (i:=0) (show BK (["_law_room","_law_going"]:List Str) by decide+kernel) rfl (AW rfl))) (λ_ _ _ _=>br) (λ_ _ _ _=>(aF (oV K rfl) (by rfl) T.JM xg (ae (ck (aG.mk' (esc:=_) (N:=["_law_room","_law_going"]) (own:=["_law_one"]) (aI:=["_law_going"]) (bD:=[1]) rfl rfl (by rfl)) rfl (RD K (pv 0)) (λ_ _ _ _=>(ay (i:=0) (show BK (["_law_one","_law_going"]:List Str) by decide+kernel) rfl (AW rfl))) (λ_ _ _ _=>br) (λ_ _ _ _=>(f_ (oS K) (pv 0) (pv 1) (by with_unfolding_all rfl)))) ag))) gY.nd rfl rfl)
  (au (aO (cB (ae (pv 6) (ae (cB (ae (aW (a_ K) (by rfl) T.bW bB (ae (ck (aG.mk' (esc:=aj eP) (N:=["_law_base","_law_machine_here","_law_name","_law_wholes_here","_law_going","_law_onward","_law_came","_law_moves","_law_yes"]) (own:=["_law_one"]) (aI:=["_law_name"]) (bD:=[2]) rfl rfl (by decide+kernel)) rfl (dN (aC (aD K) (pv 1) ak (λ_ _=>rfl))) (λ_ _ _ _=>(ay (i:=0) (show BK (["_law_one","_law_name"]:List Str) by decide+kernel) rfl (AW rfl))) (λ_ _ _ _=>(iF (aX jL (pv 0) (pv 1) (bj _)))) (λ_ _ _ _=>(pv 0))) ag)) (ae (aW (a_ K) (by rfl) T.bW bB (ae (pv 8) ag)) (ae (pv 7) ag)))) ag)))))))))),?_⟩
  have big:(10000:Nat)<=sizeLine:=by decide
  have scb:(4096:Nat)=Ep:=by decide
  have hb0:0<b:=by omega
  have hk:=(AD.mp hx).1
  have ol:=Io M' hx
  refine aA λY hY=>?_
  refine⟨_,rfl,_,rfl,m,_,_,.ref nm,rfl,rfl,.of a1,ax (j:=0) rfl,_,rfl,b,k,nm,ss,x,rfl,hb2,hb4,en,M',hx,hs,λW as H1 s1 eW U1=>?_⟩
  generalize Ig:j6 b (ss.length-1) k=LL at U1
  have lLL:LL.length=b ^ (ss.length-1):=by rw[<-Ig,J9]
  have X6:∀{l:Nat},l<b ^ (ss.length-1)->LL[l]? =some (df b (ss.length-1) k l):=λ{l} h=>by rw[<-Ig];exact M6 h
  have U2:∀{l c:Nat},c∈df b (ss.length-1) k l->c<b ^ ss.length:=λ{l c} h=>by have:=yr hb0 h;rwa [show ss.length-1+1=ss.length by omega] at this
  have Ka:∀l,(df b (ss.length-1) k l).length=b:=λl=>by unfold df;rw[AA,Aw]
  have pB:0<b ^ (ss.length-1):=DE hb0
  obtain⟨w0,hw0,ew0⟩:=U1.back (X6 pB)
  have U3:iB H1 m nm y v ps bs mv (b ^ ss.length):=⟨s1 _ _ a1,s1 _ _ a2,s1 _ _ a3,a4.keep s1.kt,mo⟩
  dsimp only[az]
  subst hY
  refine aA λY hY=>?_
  refine⟨_,rfl,_,rfl,W,_,_,.ref w0,rfl,rfl,.of eW,ax (j:=0) (by rw[AJ,hw0];rfl),m,nm,y,v,w0,ps,bs,mv,b ^ ss.length,_,rfl,U3,ew0,λc hc=>U2 hc,hn,by rw[Ka];omega,λG gs H2 s2 eG hgs=>?_⟩
  have s12:=s1.trans s2
  have ev2:oA m nm y v ps bs mv (b ^ ss.length) W as LL H2:=(oA.mk U3 eW U1).same s2
  have tb2:=tb.same s12
  dsimp only[az]
  subst hY
  refine aA λY hY=>?_
  refine⟨tb2.du,λf c' ctv doc H3 hf ef ec OV kb3=>?_⟩
  have k3:KX a H2 H3:=KX.kb tb2.du kb3
  have qu:TB a H3:=tb2.kdu T kb3 OV
  have X7:∀b xs,H2 b=some (.lst xs)->H3 b=some (.lst xs):=λb xs z=>k3 _ _ z λ_ y=>nomatch y
  have Qk:=ev2.keep k3.kt X7
  have eG3:=X7 _ _ eG
  dsimp only
  subst hY
  refine aA λY hY=>?_
  refine⟨by show 1<=sizeLine;decide,λz hz=>?_⟩
  have sz:=Same.new (o:=.tup [.int ((0:Nat):Int)]) hz
  have ez:(upd H3 z (.tup [.int ((0:Nat):Int)])) z=some (.tup [.int ((0:Nat):Int)]):=af
  have Qz:=Qk.same sz
  have Ih:=qu.same sz
  have U4:=sz _ _ ef
  have U5:=sz _ _ ec
  have X8:=sz _ _ eG3
  have k4:KX a H (upd H3 z (.tup [.int ((0:Nat):Int)])):=(KX.same s12).trans (k3.trans (KX.same sz))
  generalize upd H3 z (.tup [.int ((0:Nat):Int)])=H4 at sz ez Qz Ih U4 U5 X8 k4 ⊢
  have U_:as.length=b ^ (ss.length-1):=by rw[Qz.ls.len,lLL]
  refine⟨_,rfl,_,b ^ (ss.length-1),rfl,.inl ⟨_,.of Qz.w,by rw[AA,U_]⟩,_,rfl,?_⟩
  have hD:∀x∈[f,c'],∃φ,H4 x=some (.ext φ):=λx hx=>by
   simp only[Ak,D6,or_false] at hx
   rcases hx with z | z<;>subst z
   ·exact⟨_,U4⟩
   ·exact⟨_,U5⟩
  refine⟨[f,c'],hD,λbase' W'=>?_⟩
  have F1:FnAt P w K mg base' 1 f 2 (x4 qN (b ^ (ss.length-1)) (tf b ss x bs mv) (hU bs.length) (oA m nm y v ps bs mv (b ^ ss.length) W as LL)):=by
   refine FnAt.WU (k:=0) W' U4 (by simp) U5 (by simp) (ps:=["_law_room","_law_k"]) (aI:=["_law_machine_here","_law_wholes_here"]) (ls:=["_law_met","_law_one"]) (fvs:=[.ref m,.ref W]) ⟨rfl,rfl,rfl,by decide+kernel,by decide+kernel,by decide+kernel,by decide+kernel,by decide+kernel⟩
    (Bn.mpr ⟨rfl,Bn.mpr ⟨rfl,λ_ h=>nomatch h⟩⟩) (.cons ⟨1,rfl,rfl,rfl,rfl⟩ (.cons ⟨3,rfl,rfl,rfl,rfl⟩ .nil)) (λus hl=>match us,hl with | [_,_],_=>rfl) (λvs H Q E h=>?_) (λA outer s H vs Q E hr h=>?_)
   ·obtain⟨x,v,c,rfl,_⟩:=h
    rfl
   ·obtain⟨S,vv,c,rfl,⟨pp,rfl,ep⟩,jG,hc,ev,kk⟩:=h
    have X9:(["_law_room","_law_k","_law_machine_here","_law_wholes_here","_law_met","_law_one"]:List Str).Nodup:=by decide+kernel
    refine⟨_,ah (av (i:=4) X9 rfl (AW rfl) (bt ag))
     (ah (aY Af rfl (dN (pv 0)) (ay (i:=5) X9 rfl (CZ rfl))
      (au (bG (cC Ai DI DJ kX (pv 4) (ae (ck (aG.mk' (N:=["_law_room","_law_k","_law_machine_here","_law_wholes_here","_law_met","_law_one"]) (own:=["_law_number"]) (aI:=["_law_one","_law_machine_here"]) (bD:=[5,2]) rfl rfl (by rfl)) rfl (bM (aC (bo K) (pv 3) (pv 1) (λ_ _=>rfl))) (λ_ _ _ _=>(ay (i:=0) (show BK (["_law_number","_law_one","_law_machine_here"]:List Str) by decide+kernel) rfl (AW rfl))) (λ_ _ _ _=>br) (λ_ _ _ _=>(aC (aD K) (aC (aD K) (aC (aD K) (pv 2) ak (λ_ _=>rfl)) (pv 1) (λ_ _=>rfl)) (pv 0) (λ_ _=>rfl)))) ag)))))
     (au (aO (aW (a_ K) (by rfl) T.bW bB (ae (aF (vS rfl) (by rfl) T.qS oQ (ae (aW (LH rfl) (by rfl) T.WX S6 (ae (pv 4) ag)) ag)) ag))))),?_⟩
    obtain⟨wc,hwc,Yb⟩:=ev.ls.back (X6 hc)
    have ep':H pp=some (.tup ((ai S).map V.int)):=by rw[<-pW];exact ep
    have lS:=Iq jG
    refine aA λY hY=>?_
    refine⟨by decide,λM hM=>?_⟩
    have sM:=Same.new (o:=.lst []) hM
    dsimp only[az]
    subst hY
    refine aA λY hY=>?_
    refine⟨_,rfl,pp,rfl,⟨_,.of (sM _ _ ep')⟩,kE (xs:=(ai S).map V.int) (λi σ H'=>∃v5:Option V,σ=[some (.ref pp),some (.int (c:Nat)),some (.ref m),some (.ref W),some (.ref M),v5]/\Same H H'/\H' M=some (.lst ((ai (jD mv (S.take i) (df b (ss.length-1) k c))).map V.int)))
     ⟨none,rfl,sM,af⟩ (λi σ H' _ ⟨_,_,s,_⟩=>.of (s _ _ ep')) ?_ ?_⟩
    ·rintro i u σ H5 M1 yc hu ⟨v5,rfl,s5,e5⟩
     obtain⟨r,rfl,er⟩:=di hu
     have hr':=jG.lt r (AL er)
     have hi:=(AD.mp er).1
     obtain⟨r1,r2,r3⟩:=mo.row ev.mc.2.2.2.1 hr'
     dsimp only[az]
     refine⟨_,rfl,.inl ⟨rfl,_,.of e5⟩,_,rfl,_,rfl,W,_,_,.ref wc,rfl,rfl,.of (s5 _ _ ev.w),ax (by rw[AJ,hwc];rfl),wc,rfl,⟨_,.of (s5 _ _ Yb)⟩,λC hC=>?_⟩
     have nMC:M≠C:=aq e5 hC
     refine cR (xs:=(ai (df b (ss.length-1) k c)).map V.int) (λj σ H'=>∃v0:Option V,σ=[v0,some (.int (r:Nat)),some (.ref m)]/\Same H5 H'/\H' C=some (.lst ((ai (((df b (ss.length-1) k c).take j).map (stp mv r))).map V.int)))
      ⟨none,?sg,Same.new hC,af⟩ (λj σ H' _ ⟨_,_,s,_⟩=>.of (s _ _ (s5 _ _ Yb))) ?_ ?_
     case sg=>rfl
     ·rintro j u σ H6 hu ⟨v0,rfl,s6,e6⟩
      obtain⟨d,rfl,ed⟩:=di hu
      have hj:=(AD.mp ed).1
      rw[Ka] at hj
      have U6:=s5.trans s6
      refine⟨_,rfl,m,_,_,.ref v,rfl,rfl,.of (U6 _ _ ev.mc.1),ax (j:=2) rfl,_,rfl,v,_,_,.ref (ps.getD r 0),rfl,rfl,.of (U6 _ _ ev.mc.2.2.1),ax (by rw[AJ,r1];rfl),_,rfl,ps.getD r 0,_,_,.int (stp mv r d:Nat),rfl,rfl,.of (U6 _ _ r2),ax (cG (by rw[r3];exact U2 (AL ed))),_,e6,by rw[AA,aB,AA,Ao];omega,some (.int (d:Nat)),rfl,s6.kbn hC KB.write,?_⟩
      rw[af,take_snoc ed,AF,aR,AF];rfl
     rintro σ H6 ⟨v0,rfl,s6,e6⟩
     rw[AA,aB,Ay] at e6
     have mQ:=s6 _ _ e5
     refine⟨M,C,_,_,rfl,rfl,mQ,e6,?_,yc _ _ ⟨some (.int (r:Nat)),rfl,(s5.trans s6).kbn hM KB.write,?_⟩⟩
     ·rw[AA,aB,AA,aB,AA,q_,Ka,Ao]
      have:=DS (show min i S.length<=62 by omega) hb4
      omega
     ·rw[af,take_snoc er,M9,aR,AF]
    ·rintro σ H5 ⟨v5,rfl,s5,e5⟩
     rw[AA,aB,Ay] at e5
     subst hY
     have lm:(jD mv S (df b (ss.length-1) k c)).length<=248:=by
      rw[q_,Ka]
      exact DS (show S.length<=62 by omega) hb4
     refine⟨_,rfl,M,ai (jD mv S (df b (ss.length-1) k c)),rfl,.of e5,by rw[aB,<-scb];omega,λSt ks hSt Yc mk lk=>?_⟩
     have sS:=Same.new (o:=r_ P w St ks) hSt
     have mem:∀t,t∈jD mv S (df b (ss.length-1) k c)↔t∈gV mv bs.length S ((bJ b ss (oth ss x)).getD c []):=λt=>by
      rw[O',fW]
      constructor
      ·rintro⟨r,hr,d,hd,rfl⟩
       exact⟨mo.stp (jG.lt r hr) (U2 hd),r,hr,d,(pI hb2 M' hx hc).mp hd,rfl⟩
      ·rintro⟨_,r,hr,d,hd,rfl⟩
       exact⟨r,hr,d,(pI hb2 M' hx hc).mpr hd,rfl⟩
     have af0:ks.length<=62:=by
      have:=Bf (l₂:=ai (Ad bs.length)) Yc λy hy=>by
       obtain⟨t,ht,rfl⟩:=Ac.mp ((mk y).mp hy)
       exact Ac.mpr ⟨t,A_.mpr (fW.mp ((mem t).mp ht)).1,rfl⟩
      rw[aB,Aw] at this
      omega
     refine⟨St,ks,rfl,af,by omega,λL ns hL pm Qu=>?_⟩
     have en':=R7 Yc mk mem pm Qu
     subst en'
     have sL:=Same.new (o:=.lst ((ai (gV mv bs.length S ((bJ b ss (oth ss x)).getD c []))).map V.int)) hL
     refine⟨L,_,rfl,.inl ⟨.of af,λt ht=>?_⟩⟩
     have sT:=Same.new (o:=.tup ((ai (gV mv bs.length S ((bJ b ss (oth ss x)).getD c []))).map V.int)) ht
     exact kk (.ref t) _ (((s5.trans sS).trans sL).trans sT) ⟨t,rfl,by rw[pW];exact af⟩
  have jG:∀S c,hU bs.length S->c<b ^ (ss.length-1)->hU bs.length (tf b ss x bs mv S c):=λS c _ _=>pX _ _ _ _
  have ktu:bF H4 (dv [f,c'] H4):=λb xs z=>iI hD z (λ_ y=>nomatch y)
  have hB4:b ^ (ss.length-1)<=256:=cL hb4 (by omega)
  refine⟨_,JY (k:=1) T qN F1 jG (λH H' e s=>e.same s),?_⟩
  have Yd:∀l:List (List Nat),l.Nodup->(∀S∈l,∃w,bX (b ^ (ss.length-1)) w/\S=dH (tf b ss x bs mv) [0] w)->l.length<=bd:=λl nd hl=>few l nd (by unfold pF;rw[ol];exact hl)
  refine⟨[0],.ref z,2000,bd,rfl,⟨z,rfl,ktu _ _ ez⟩,jj p0,Qz.dv hD,Yd,hbd,by omega,by omega,λxs mv' vs p Rr va ps' H5 s5 Uw hl gr ep eR rp eva tp n5=>?_⟩
  have s6:=o_ s5
  have o5:∀{b:Addr} {o:HO},H5 b=some o->ig [f,c'] H4 H5 b=some o:=λ{b o} e=>by
   rw[eE λz=>?_]
   ·exact e
   ·rw[n5 b z] at e;cases e
  have nR:Rr ∉ [f,c']:=λz=>by rw[n5 Rr z] at eR;cases eR
  have Na:H4 Rr=none:=by rw[fO nR] at Uw;exact Uw
  have ph:bF H5 (ig [f,c'] H4 H5):=λb xs z=>o5 z
  have Ye:=o5 ep
  have oy:=o5 eR
  have Qt:=o5 eva
  have Nb:=tp.keep ph
  have qp:=rp.keep ph
  generalize ig [f,c'] H4 H5=H6 at s6 Ye oy Qt Nb qp ⊢
  have lx:xs.length<=bd:=Yd xs gr.once gr.reach
  have x6:vs.length=xs.length:=As qp
  have eG6:=s6 _ _ X8
  have okx:∀S∈xs,hU bs.length S:=λS hS=>by
   obtain⟨w',_,rfl⟩:=gr.reach S hS
   exact uo (B:=0) (jj p0)
  refine⟨p,_,rfl,.of Ye,rfl,_,_,rfl,_,_,rfl,rfl,?_⟩
  dsimp only[az]
  subst hY
  refine aA λY hY=>?_
  refine⟨_,rfl,Rr,rfl,⟨_,.of oy⟩,λC hC=>?_⟩
  have U7:∀r,r<bs.length->decide (r∈gs)=(nZ bs mv ((bJ b ss (oth ss x)).getD 0 [])).getD r false:=λr hr=>by
   rw[Cc,decide_eq_true_iff,hgs r,uv hr]
   have wo:∀c,c∈df b (ss.length-1) k 0↔c∈(bJ b ss (oth ss x)).getD 0 []:=λc=>pI hb2 M' hx pB
   constructor
   ·rintro⟨_,zz,h1,h2⟩
    exact⟨zz,λc hc=>(wo c).mp (h1 c hc),h2⟩
   ·rintro⟨zz,h1,h2⟩
    exact⟨hr,zz,λc hc=>(wo c).mpr (h1 c hc),h2⟩
  refine cR (xs:=vs) (λi σ H'=>∃v0:Option V,σ=[v0,some (.ref G)]/\Same H6 H'/\H' C=some (.lst (((xs.take i).map (jC b ss x bs mv)).map V.bl)))
   ⟨none,?sg,Same.new hC,af⟩ (λi σ H' _ ⟨_,_,s,_⟩=>.of (s _ _ oy)) ?_ ?_
  case sg=>rfl
  ·rintro i u σ H7 hu ⟨v0,rfl,s7,c7⟩
   obtain⟨S,hS,pp,rfl,epp⟩:=dW qp hu
   have hi:=(AD.mp hS).1
   have ok:=okx S (AL hS)
   have lS:=Iq ok
   have U8:H7 pp=some (.tup ((ai S).map V.int)):=by rw[<-pW];exact s7 _ _ epp
   refine⟨_,rfl,pp,rfl,⟨_,.of U8⟩,λC2 Yf=>?_⟩
   refine fi (xs:=(ai S).map V.int) (λj σ H'=>∃v0:Option V,σ=[v0,some (.ref G)]/\Same H7 H'/\H' C2=some (.lst (((S.take j).map λr=>decide (r∈gs)).map V.bl)))
    ⟨none,?sg2,Same.new Yf,af⟩ (λj σ H' _ ⟨_,_,s,_⟩=>.of (s _ _ U8)) ?_ ?_
   case sg2=>rfl
   ·rintro j u σ H8 hu ⟨v0,rfl,s8,c8⟩
    obtain⟨r,rfl,er⟩:=di hu
    have hj:=(AD.mp er).1
    refine⟨_,rfl,_,rfl,G,_,rfl,.inl (.of (s8 _ _ (s7 _ _ eG6))),rfl,uB _,_,c8,by rw[AA,AA,Ao];omega,some (.int (r:Nat)),rfl,s8.kbn Yf KB.write,?_⟩
    rw[if_neg (by decide),n8,af,take_snoc er,AF,AF];rfl
   rintro σ H8 ⟨v0,rfl,s8,c8⟩
   rw[AA,aB,Ay] at c8
   have s78:=s7.trans s8
   refine⟨C2,_,rfl,.of c8,_,s8 _ _ c7,by rw[AA,AA,Ao];omega,some (.ref pp),rfl,s78.kbn hC KB.write,?_⟩
   rw[af,take_snoc hS,AF,AF,Gb]
   refine congrArg (λb=>some (HO.lst (_++[V.bl b]))) ?_
   show S.any (id∘λr=>decide (r∈gs))=S.any λr=>(nZ bs mv ((bJ b ss (oth ss x)).getD 0 [])).getD r false
   rw[Cc,B_,B_]
   constructor
   ·rintro⟨r,hr,e⟩;exact⟨r,hr,(U7 r (ok.lt r hr))▸e⟩
   ·rintro⟨r,hr,e⟩;exact⟨r,hr,by show decide (r∈gs)=true;rw[U7 r (ok.lt r hr)];exact e⟩
  rintro σ H7 ⟨v0,rfl,s7,c7⟩
  rw[x6,Ay] at c7
  have k7:KX a H H7:=k4.trans (KX.same (s6.trans s7))
  have QA:=Ih.same (s6.trans s7)
  dsimp only[az]
  subst hY
  have a1':=k7.kt _ _ a1
  have en':=k7.kt _ _ en
  refine⟨_,rfl,_,rfl,m,_,_,.ref nm,rfl,rfl,.of a1',ax (j:=0) rfl,nm,rfl,⟨_,.of en'⟩,λC3 Yg=>?_⟩
  refine fi (xs:=ss.map V.str) (λj σ H'=>∃v0:Option V,σ=[v0,some (.str x)]/\Same H7 H'/\H' C3=some (.lst ((oth (ss.take j) x).map V.str)))
   ⟨none,?U9,Same.new Yg,af⟩ (λj σ H' _ ⟨_,_,s,_⟩=>.of (s _ _ en')) ?_ ?_
  case U9=>rfl
  ·rintro j u σ H8 hu ⟨v0,rfl,s8,c8⟩
   obtain⟨t,rfl,et⟩:=Ia hu
   have hj:=(AD.mp et).1
   refine⟨_,rfl,_,rfl,rfl,_,rfl,?_⟩
   by_cases e:V.str t=V.str x
   ·rw[decide_eq_true e]
    refine cX ?_
    exact⟨some (.str t),rfl,s8,by rw[take_snoc et,zb (ss:=ss) e];exact c8⟩
   ·rw[decide_eq_false e]
    refine fM ?_
    refine⟨_,rfl,_,c8,?_,some (.str t),rfl,s8.kbn Yg KB.write,?_⟩
    ·have:=pV (ss.take j) x
     rw[Ao] at this
     rw[AA];omega
    ·rw[af,take_snoc et,yv e,AF];rfl
  rintro σ H8 ⟨v0,rfl,s8,c8⟩
  rw[AA,Ay] at c8
  have c78:=s8 _ _ c7
  refine⟨C3,_,rfl,.inl ⟨.of c8,λN hN=>?_⟩⟩
  have sN:=Same.new (o:=.tup ((oth ss x).map V.str)) hN
  refine⟨_,rfl,C,_,rfl,.inl ⟨.of (sN _ _ c78),λYy hYy=>?_⟩⟩
  have sY:=Same.new (o:=.tup ((xs.map (jC b ss x bs mv)).map V.bl)) hYy
  refine⟨_,rfl,by show 3<=sizeLine;decide,λt ht=>⟨by show 2<=sizeLine;decide,λpr hpr=>?_⟩⟩
  have sT:=Same.new (o:=.tup [.ref N,.ref Yy,.ref va]) ht
  have sP:=Same.new (o:=.tup [.ref Rr,.ref t]) hpr
  have s9:=(((s8.trans sN).trans sY).trans sT).trans sP
  have QB:=s7.trans s9
  refine q pr Rr t N Yy va vs ps' xs mv' _ (k7.trans (KX.same s9)) (QA.same s9) (λo e=>?_) af (sP _ _ af) (((sY.trans sT).trans sP) _ _ af) ((sT.trans sP) _ _ af) (QB _ _ Qt) (Nb.keep QB.kt) (QB _ _ oy) (qp.keep QB.kt) hl lx (by rw[ol];exact gr)
  by_cases z:∃qs,o=.fw qs
  ·exact z
  ·have:=k4 _ _ e λqs y=>z ⟨qs,y⟩
   rw[this] at Na;cases Na
end
end My
namespace My
open PySem L2
def fY(f M r:Nat):Nat:=if f=0 then 0 else if f=1 then r else M
def fI(f M B c r:Nat):List Nat:=(AO B (fY f M r)).set c (r+1)
structure jo (f M B:Nat)(cs:Nat->Nat)(mv:List (List Nat)):Prop where
 len:mv.length=M+1
 low:∀r,r<M-1->mv[r]? =some (fI f M B (cs r) r)
 last:mv[M-1]? =some (AO B (M-1))
 dead:mv[M]? =some (AO B M)
def cbs(M:Nat):List Bool:=(Ad (M+1)).map λr=>decide (r=M-1)
theorem j7(M:Nat):(cbs M).length=M+1:=by unfold cbs;rw[AA,Aw]
theorem Nc{M r:Nat}(h:r<M+1):(cbs M).getD r false=decide (r=M-1):=by
 unfold cbs
 rw[AQ,AJ,CA h];rfl
theorem U'{f M r:Nat}(hr:r<=M):fY f M r<=M:=by
 unfold fY
 split
 ·omega
 ·split<;>omega
section
variable{f M B:Nat}{cs:Nat->Nat}{mv:List (List Nat)}
theorem jo.rows(c:jo f M B cs mv)(hM:8<=M){r:Nat}(hr:r<M+1):∃row,mv[r]? =some row/\row.length=B/\∀x∈row,x<M+1:=by
 by_cases h:r<M-1
 ·refine⟨_,c.low r h,by unfold fI;rw[EH,BE],λx hx=>?_⟩
  unfold fI at hx
  rcases List.mem_or_eq_of_mem_set hx with z | z
  ·have:=Bp z
   have:=U' (f:=f) (M:=M) (r:=r) (by omega)
   omega
  ·omega
 ·rcases FK r M with z | z
  ·obtain rfl:r=M-1:=by omega
   refine⟨_,c.last,BE,λx hx=>?_⟩
   have:=Bp hx
   omega
  ·obtain rfl:r=M:=by omega
   refine⟨_,c.dead,BE,λx hx=>?_⟩
   have:=Bp hx
   omega
theorem jo.moves(c:jo f M B cs mv)(hM:8<=M):Moves (M+1) B mv:=⟨c.len,λl hl=>by
 obtain⟨i,hi,rfl⟩:=HG.mp hl
 obtain⟨row,e,h1,h2⟩:=c.rows hM (r:=i) (by rw[<-c.len];exact hi)
 rw[Ag hi] at e
 cases e
 exact⟨h1,h2⟩⟩
theorem jo.j8(c:jo f M B cs mv){r l:Nat}(hr:r<M-1)(hc:cs r<B)(hl:l<B):stp mv r l=if l=cs r then r+1 else fY f M r:=by
 unfold stp
 rw[show mv.getD r []=fI f M B (cs r) r by rw[AQ,c.low r hr];rfl]
 unfold fI
 rw[AQ]
 by_cases e:l=cs r
 ·rw[if_pos e,e,B9 (by rw[BE];exact hc)];rfl
 ·rw[if_neg e,CJ (Ck e),DN,if_pos hl];rfl
theorem jo.kQ(c:jo f M B cs mv)(hM:8<=M){r l:Nat}(h1:M-1<=r)(h2:r<=M)(hl:l<B):stp mv r l=r:=by
 have:mv[r]? =some (AO B r):=by
  rcases FK r M with z | z
  ·obtain rfl:r=M-1:=by omega
   exact c.last
  ·obtain rfl:r=M:=by omega
   exact c.dead
 unfold stp
 rw[show mv.getD r []=AO B r by rw[AQ,this];rfl]
 rw[AQ,DN,if_pos hl];rfl
theorem jo.sw(c:jo f M B cs mv)(hM:8<=M)(hB:0<B)(hc:∀r,r<M-1->cs r<B)(h2:cs (M-2)≠0):Sw (cbs M) mv:=λr hr=>by
 rw[j7] at hr
 have hs:stp mv r 0<M+1:=(c.moves hM).stp hr hB
 rw[Nc hs,Nc hr]
 refine decide_eq_decide.mpr ?_
 by_cases h:r<M-1
 ·rw[c.j8 h (hc r h) hB]
  by_cases e:0=cs r
  ·rw[if_pos e]
   have:r≠M-2:=λz=>h2 (by rw[<-z,<-e])
   omega
  ·rw[if_neg e]
   unfold fY
   split
   ·omega
   ·split<;>omega
 ·rw[c.kQ hM (by omega) (by omega) hB]
def jI(f M k:Nat)(a:Bool)(t:Nat):Prop:=if f=0 then t<=k∨(a=true/\t=M-1) else if f=1 then t<=k else t=k∨(a=true/\t=M)
def ra(f M:Nat)(S:List Nat):Prop:=∃k a,k<=M/\(f<2->k<M)/\∀t,t∈S↔jI f M k a t
theorem jo.away(c:jo f M B cs mv)(hf:f<3)(hM:8<=M)(hc:∀r,r<M-1->cs r<B){S ls:List Nat}(hS:ra f M S)(hl:∀l∈ls,l<B)(h0:ls≠[])(ha:∀l∈ls,∀r,r<M-1->l≠cs r):ra f M (gV mv (M+1) S ls):=by
 obtain⟨k,a,hk,hk2,hm⟩:=hS
 obtain⟨l0,hl0⟩:=Fo ls h0
 have e:∀t,t∈gV mv (M+1) S ls↔t<M+1/\∃r,jI f M k a r/\((r<M-1/\t=fY f M r)∨(M-1<=r/\r<=M/\t=r)):=λt=>by
  rw[fW]
  refine and_congr_right λht=>⟨?_,?_⟩
  ·rintro⟨r,hr,l,hl',e⟩
   have Nd:r<=M:=by
    have:=(hm r).mp hr
    unfold jI at this
    split at this
    ·omega
    ·split at this<;>omega
   refine⟨r,(hm r).mp hr,?_⟩
   by_cases h:r<M-1
   ·rw[c.j8 h (hc r h) (hl l hl'),if_neg (ha l hl' r h)] at e
    exact .inl ⟨h,e.symm⟩
   ·rw[c.kQ hM (by omega) Nd (hl l hl')] at e
    exact .inr ⟨by omega,Nd,e.symm⟩
  ·rintro⟨r,hr,⟨h,e⟩ | ⟨h,h',e⟩⟩
   ·exact⟨r,(hm r).mpr hr,l0,hl0,by rw[c.j8 h (hc r h) (hl l0 hl0),if_neg (ha l0 hl0 r h),e]⟩
   ·exact⟨r,(hm r).mpr hr,l0,hl0,by rw[c.kQ hM h h' (hl l0 hl0),e]⟩
 rcases(show f=0∨f=1∨f=2 by omega) with rfl | rfl | rfl
 ·refine⟨0,a||decide (k=M-1),by omega,λ_=>by omega,λt=>?_⟩
  rw[e]
  simp only[jI,fY,if_true,Bool.or_eq_true,decide_eq_true_eq]
  have:=hk2 (by decide)
  constructor
  ·rintro⟨_,r,h1,h2⟩
   rcases h2 with⟨h2,h3⟩ | ⟨h2,h3,h4⟩
   ·exact .inl (by omega)
   ·rcases h1 with h1 | ⟨h1,h1'⟩
    ·exact .inr ⟨.inr (by omega),by omega⟩
    ·exact .inr ⟨.inl h1,by omega⟩
  ·intro h
   refine⟨by omega,?_⟩
   rcases h with h | ⟨h,h'⟩
   ·exact⟨0,.inl (BI _),.inl ⟨by omega,by omega⟩⟩
   ·exact⟨M-1,by rcases h with h | h;exact .inr ⟨h,rfl⟩;exact .inl (by omega),.inr ⟨by omega,by omega,h'⟩⟩
 ·refine⟨k,a,hk,hk2,λt=>?_⟩
  rw[e]
  simp only[jI,fY,if_true,show ¬(1:Nat)=0 by decide,if_false]
  have:=hk2 (by decide)
  constructor
  ·rintro⟨_,r,h1,h2⟩;omega
  ·intro h
   refine⟨by omega,t,h,?_⟩
   omega
 ·by_cases h:k<M-1
  ·refine⟨M,true,by omega,λz=>absurd z (by omega),λt=>?_⟩
   rw[e]
   simp only[jI,fY,show ¬(2:Nat)=0 by decide,show ¬(2:Nat)=1 by decide,if_false]
   constructor
   ·rintro⟨_,r,h1,h2⟩;simp only[true_and];omega
   ·intro h'
    simp only[true_and] at h'
    exact⟨by omega,k,.inl rfl,.inl ⟨h,by omega⟩⟩
  ·refine⟨k,a,hk,hk2,λt=>?_⟩
   rw[e]
   simp only[jI,fY,show ¬(2:Nat)=0 by decide,show ¬(2:Nat)=1 by decide,if_false]
   constructor
   ·rintro⟨_,r,h1,h2⟩
    rcases h1 with h1 | ⟨h1,h1'⟩
    ·exact .inl (by omega)
    ·exact .inr ⟨h1,by omega⟩
   ·intro h'
    refine⟨by omega,t,h',.inr ⟨by omega,by omega,rfl⟩⟩
theorem jo.along(c:jo f M B cs mv)(hf:f<3)(hM:8<=M)(hc:∀r,r<M-1->cs r<B){S ls:List Nat}(hS:ra f M S)(hl:∀l∈ls,l<B)(h0:ls≠[])(ha:∀r,r<M-1->cs r∈ls)(hb:∀r,r<M-1->∃l∈ls,l≠cs r):ra f M (gV mv (M+1) S ls):=by
 obtain⟨k,a,hk,hk2,hm⟩:=hS
 obtain⟨l0,hl0⟩:=Fo ls h0
 have e:∀t,t∈gV mv (M+1) S ls↔t<M+1/\∃r,jI f M k a r/\((r<M-1/\(t=r+1∨t=fY f M r))∨(M-1<=r/\r<=M/\t=r)):=λt=>by
  rw[fW]
  refine and_congr_right λht=>⟨?_,?_⟩
  ·rintro⟨r,hr,l,hl',e⟩
   have Nd:r<=M:=by
    have:=(hm r).mp hr
    unfold jI at this
    split at this
    ·omega
    ·split at this<;>omega
   refine⟨r,(hm r).mp hr,?_⟩
   by_cases h:r<M-1
   ·rw[c.j8 h (hc r h) (hl l hl')] at e
    refine .inl ⟨h,?_⟩
    split at e
    ·exact .inl e.symm
    ·exact .inr e.symm
   ·rw[c.kQ hM (by omega) Nd (hl l hl')] at e
    exact .inr ⟨by omega,Nd,e.symm⟩
  ·rintro⟨r,hr,⟨h,e | e⟩ | ⟨h,h',e⟩⟩
   ·exact⟨r,(hm r).mpr hr,cs r,ha r h,by rw[c.j8 h (hc r h) (hc r h),if_pos rfl,e]⟩
   ·obtain⟨l,h1,h2⟩:=hb r h
    exact⟨r,(hm r).mpr hr,l,h1,by rw[c.j8 h (hc r h) (hl l h1),if_neg h2,e]⟩
   ·exact⟨r,(hm r).mpr hr,l0,hl0,by rw[c.kQ hM h h' (hl l0 hl0),e]⟩
 rcases(show f=0∨f=1∨f=2 by omega) with rfl | rfl | rfl
 ·refine⟨min (k+1) (M-1),a,by omega,λ_=>by omega,λt=>?_⟩
  rw[e]
  simp only[jI,fY,if_true]
  have:=hk2 (by decide)
  constructor
  ·rintro⟨_,r,h1,h2⟩
   rcases h1 with h1 | ⟨h1,h1'⟩
   ·exact .inl (by omega)
   ·exact .inr ⟨h1,by omega⟩
  ·intro h
   refine⟨by omega,?_⟩
   rcases h with h | ⟨h,h'⟩
   ·rcases EM t with z | z
    ·exact⟨0,.inl (BI _),.inl ⟨by omega,.inr z⟩⟩
    ·exact⟨t-1,.inl (by omega),.inl ⟨by omega,.inl (by omega)⟩⟩
   ·exact⟨M-1,.inr ⟨h,rfl⟩,.inr ⟨by omega,by omega,h'⟩⟩
 ·refine⟨min (k+1) (M-1),a,by omega,λ_=>by omega,λt=>?_⟩
  rw[e]
  simp only[jI,fY,if_true,show ¬(1:Nat)=0 by decide,if_false]
  have:=hk2 (by decide)
  constructor
  ·rintro⟨_,r,h1,h2⟩;omega
  ·intro h
   refine⟨by omega,?_⟩
   by_cases z:t<=k
   ·exact⟨t,z,by omega⟩
   ·exact⟨k,AM _,.inl ⟨by omega,.inl (by omega)⟩⟩
 ·by_cases h:k<M-1
  ·refine⟨k+1,true,by omega,λz=>absurd z (by omega),λt=>?_⟩
   rw[e]
   simp only[jI,fY,show ¬(2:Nat)=0 by decide,show ¬(2:Nat)=1 by decide,if_false]
   constructor
   ·rintro⟨_,r,h1,h2⟩;simp only[true_and];omega
   ·intro h'
    simp only[true_and] at h'
    exact⟨by omega,k,.inl rfl,.inl ⟨h,by omega⟩⟩
  ·refine⟨k,a,hk,hk2,λt=>?_⟩
   rw[e]
   simp only[jI,fY,show ¬(2:Nat)=0 by decide,show ¬(2:Nat)=1 by decide,if_false]
   constructor
   ·rintro⟨_,r,h1,h2⟩
    rcases h1 with h1 | ⟨h1,h1'⟩
    ·exact .inl (by omega)
    ·exact .inr ⟨h1,by omega⟩
   ·intro h'
    refine⟨by omega,t,h',.inr ⟨by omega,by omega,rfl⟩⟩
end
theorem R8{n:Nat}{S S':List Nat}(h:hU n S)(h':hU n S')(e:∀t,t∈S↔t∈S'):S=S':=by
 obtain⟨p,rfl⟩:=h
 obtain⟨q,rfl⟩:=h'
 refine List.filter_congr λt ht=>?_
 have:=e t
 rw[Bc,Bc] at this
 rw[Cc]
 exact⟨λz=>(this.mp ⟨ht,z⟩).2,λz=>(this.mpr ⟨ht,z⟩).2⟩
open Classical in
theorem R9{f M:Nat}{l:List (List Nat)}(nd:l.Nodup)(h:∀S∈l,hU (M+1) S/\ra f M S):l.length<=2*(M+1):=by
 have len:((Ad (M+1)).flatMap λk=>[true,false].map λa=>(Ad (M+1)).filter λt=>decide (jI f M k a t)).length=2*(M+1):=by
  rw[FC]
  have:(Ad (M+1)).map (λk=>([true,false].map λa=>(Ad (M+1)).filter λt=>decide (jI f M k a t)).length)=AO (M+1) 2:=by
   rw[Gy]
   exact⟨by rw[AA,Aw],λx hx=>by obtain⟨i,_,rfl⟩:=Ac.mp hx;rfl⟩
  rw[this,Ed];omega
 rw[<-len]
 refine Bf nd λS hS=>?_
 obtain⟨ok,k,a,hk,_,hm⟩:=h S hS
 refine GU.mpr ⟨k,A_.mpr (by omega),Ac.mpr ⟨a,by cases a<;>simp,?_⟩⟩
 refine R8 ⟨_,rfl⟩ ok λt=>?_
 rw[Bc,A_,hm,decide_eq_true_eq]
 refine⟨And.right,λz=>⟨ok.lt t ((hm t).mpr z),z⟩⟩
theorem Nf{b:Nat}(hb:2<=b){ss:List Str}{k:Nat}{x:Str}(nd:ss.Nodup)(hx:ss[k]? =some x){f M:Nat}{cs:Nat->Nat}{mv:List (List Nat)}(c:jo f M (b ^ ss.length) cs mv)(hf:f<3)(hM:8<=M)(hc:∀r,r<M-1->cs r<b ^ ss.length/\own b ss (oth ss x) (cs r)=0)
  (two:∀l,l<b ^ ss.length->own b ss (oth ss x) l=0->∃l',l'<b ^ ss.length/\own b ss (oth ss x) l'=0/\l'≠l) (all:∀o,o<b ^ (oth ss x).length->∃l,l<b ^ ss.length/\own b ss (oth ss x) l=o)
  {l:List (List Nat)} (M7:l.Nodup) (h:∀S∈l,∃w,bX (b ^ (oth ss x).length) w/\S=dH (pC mv (cbs M).length (bJ b ss (oth ss x))) [0] w):l.length<=2*(M+1):=by
 have hc1:∀r,r<M-1->cs r<b ^ ss.length:=λr hr=>(hc r hr).1
 have step:∀(w:List Nat) (S:List Nat),hU (M+1) S->ra f M S->bX (b ^ (oth ss x).length) w->hU (M+1) (dH (pC mv (M+1) (bJ b ss (oth ss x))) S w)/\ra f M (dH (pC mv (M+1) (bJ b ss (oth ss x))) S w):=λw=>by
  induction w with
  | nil=>exact λS h1 h2 _=>⟨h1,h2⟩
  | cons o w ih=>
   intro S h1 h2 hw
   have ho:=hw o Aa
   refine ih _ (pX _ _ _ _) ?_ λy hy=>hw y (AV _ hy)
   have mem:∀l,l∈(bJ b ss (oth ss x)).getD o []↔l<b ^ ss.length/\own b ss (oth ss x) l=o:=λl=>gX ho
   obtain⟨l1,hl1,el1⟩:=all o ho
   have ne:(bJ b ss (oth ss x)).getD o []≠[]:=λz=>by
    have:=(mem l1).mpr ⟨hl1,el1⟩
    rw[z] at this
    cases this
   by_cases z:o=0
   ·subst z
    exact c.along hf hM hc1 h2 (λl hl=>((mem l).mp hl).1) ne (λr hr=>(mem _).mpr (hc r hr)) λr hr=>by
     obtain⟨l',a1,a2,a3⟩:=two (cs r) (hc1 r hr) (hc r hr).2
     exact⟨l',(mem l').mpr ⟨a1,a2⟩,a3⟩
   ·exact c.away hf hM hc1 h2 (λl hl=>((mem l).mp hl).1) ne λl hl r hr e=>z (by rw[<-((mem l).mp hl).2,e];exact(hc r hr).2)
 refine R9 (f:=f) M7 λS hS=>?_
 obtain⟨w,hw,rfl⟩:=h S hS
 rw[j7]
 refine step w [0] (jj (by omega)) ⟨0,false,by omega,λ_=>by omega,λt=>?_⟩ hw
 rw[AI]
 unfold jI
 rcases(show f=0∨f=1∨f=2 by omega) with rfl | rfl | rfl<;>simp
theorem Pb{b:Nat}(hb:2<=b){ss:List Str}{k:Nat}{x:Str}(nd:ss.Nodup)(hx:ss[k]? =some x):∀l,l<b ^ ss.length->own b ss (oth ss x) l=0->∃l',l'<b ^ ss.length/\own b ss (oth ss x) l'=0/\l'≠l:=λl hl h0=>by
 have hk:=(AD.mp hx).1
 have hz:∀d∈AO (ss.length-1) 0,d<b:=λd hd=>by rw[Bp hd];omega
 have lz:(AO (ss.length-1) 0).length+1=ss.length:=by rw[BE];omega
 have z0:lst b 0 (AO (ss.length-1) 0)=0:=n_ _ λd hd=>Bp hd
 obtain⟨f,hf,e⟩:=qZ (by omega) nd hx lz hz hl (by rw[h0,z0])
 have mk:∀g,g<b->lst b 0 (ins k g (AO (ss.length-1) 0))<b ^ ss.length/\own b ss (oth ss x) (lst b 0 (ins k g (AO (ss.length-1) 0)))=0:=λg hg=>by
  refine⟨?_,by rw[mY nd hx lz hg hz,z0]⟩
  have:=j5 (b:=b) (ds:=ins k g (AO (ss.length-1) 0)) λd hd=>(gu.mp hd).elim (λe=>e▸hg) (hz d)
  rwa [fH,lz] at this
 have inj:∀g,g<b->lst b 0 (ins k g (AO (ss.length-1) 0))=l->g=f:=λg hg eg=>by
  have h1:=mX (b:=b) (ds:=ins k g (AO (ss.length-1) 0)) λd hd=>(gu.mp hd).elim (λe=>e▸hg) (hz d)
  have h2:=mX (b:=b) (ds:=ins k f (AO (ss.length-1) 0)) λd hd=>(gu.mp hd).elim (λe=>e▸hf) (hz d)
  rw[eg,e,fH] at h1
  rw[fH] at h2
  rw[h2] at h1
  have:=congrArg (λz=>z[k]?) h1
  unfold ins at this
  have lk:((AO (ss.length-1) 0).take k).length=k:=by rw[Ao,BE];omega
  simp only[Ae (Hr lk),lk,B4,List.getElem?_cons_zero,Fv] at this
  exact this.symm
 by_cases g:f=0
 ·exact⟨_,(mk 1 (by omega)).1,(mk 1 (by omega)).2,λz=>by have:=inj 1 (by omega) z;omega⟩
 ·exact⟨_,(mk 0 (by omega)).1,(mk 0 (by omega)).2,λz=>g (inj 0 (by omega) z).symm⟩
theorem R'{b:Nat}(hb:2<=b){ss:List Str}{k:Nat}{x:Str}(nd:ss.Nodup)(hx:ss[k]? =some x):∀o,o<b ^ (oth ss x).length->∃l,l<b ^ ss.length/\own b ss (oth ss x) l=o:=λo ho=>by
 have hk:=(AD.mp hx).1
 have lo:(oth ss x).length+1=ss.length:=by rw[p_ nd hx];exact pZ hk
 have hd:=nO (b:=b) (by omega) (oth ss x).length o
 have ld:(fl b (oth ss x).length o).length+1=ss.length:=by rw[fz];exact lo
 refine⟨lst b 0 (ins k 0 (fl b (oth ss x).length o)),?_,?_⟩
 ·have:=j5 (b:=b) (ds:=ins k 0 (fl b (oth ss x).length o)) λd hd'=>(gu.mp hd').elim (λe=>by omega) (hd d)
  rwa [fH,ld] at this
 ·rw[mY nd hx ld (by omega) hd,tm (by omega) _ _ ho]
theorem Ng{b:Nat}:∀(n k f:Nat),k<=n->lst b 0 (ins k f (AO n 0))=f*b ^ (n-k):=by
 have z:∀(m acc:Nat),lst b acc (AO m 0)=acc*b ^ m:=λm=>by
  induction m with
  | zero=>intro acc;show acc=_;rw[Dh,Nat.mul_one]
  | succ m ih=>intro acc;rw[Bz,kK,ih,Gf,Bm,Nat.mul_assoc,C' b]
 intro n k f hk
 unfold ins
 have a1:∀(xs ys:List Nat) (acc:Nat),lst b acc (xs++ys)=lst b (lst b acc xs) ys:=λxs ys acc=>by unfold lst;rw[F_]
 rw[List.take_replicate,List.drop_replicate,a1,z,Hw,kK,z,Hw,CN]
theorem Nh{b:Nat}(hb:2<=b){ss:List Str}{k f:Nat}{x:Str}(nd:ss.Nodup)(hx:ss[k]? =some x)(hf:f<b):f*b ^ (ss.length-1-k)<b ^ ss.length/\own b ss (oth ss x) (f*b ^ (ss.length-1-k))=0:=by
 have hk:=(AD.mp hx).1
 have hz:∀d∈AO (ss.length-1) 0,d<b:=λd hd=>by rw[Bp hd];omega
 have lz:(AO (ss.length-1) 0).length+1=ss.length:=by rw[BE];omega
 rw[<-Ng (ss.length-1) k f (by omega)]
 refine⟨?_,?_⟩
 ·have:=j5 (b:=b) (ds:=ins k f (AO (ss.length-1) 0)) λd hd=>(gu.mp hd).elim (λe=>e▸hf) (hz d)
  rwa [fH,lz] at this
 ·rw[mY nd hx lz hf hz]
  exact n_ _ λd hd=>Bp hd
end My
namespace My
open PySem L2
section
variable{α:Type}{x0:α}{on:α->Nat->α}{m:Nat}
theorem yx{xs:List α}(nd:xs.Nodup){i j:Nat}{x:α}(h:xs[i]? =some x)(g:xs[j]? =some x):i=j:=by
 obtain⟨hi,e⟩:=AD.mp h
 obtain⟨hj,e'⟩:=AD.mp g
 exact(D1 nd).mp (e.trans e'.symm)
theorem uD{xs ys:List α}(ndx:xs.Nodup)(Ir:ys.Nodup){x:α}:∀(l l':List Nat) (c s s1 s2:Nat),l.length=l'.length->cz l s=some s1->cz l' s=some s2->(∀i,i<s->xs[i]? =ys[i]?)->
  (∀k t,l[k]? =some t->xs[t]? =some (on x (c+k)))->(∀k t,l'[k]? =some t->ys[t]? =some (on x (c+k)))->l=l'/\s1=s2/\∀i,i<s1->xs[i]? =ys[i]?
 | [],[],c,s,s1,s2,_,h,h',eq,_,_=>by
  cases h;cases h'
  exact⟨rfl,rfl,eq⟩
 | [],_::_,_,_,_,_,hl,_,_,_,_,_=>by cases hl
 | _::_,[],_,_,_,_,hl,_,_,_,_,_=>by cases hl
 | t::l,t'::l',c,s,s1,s2,hl,h,h',eq,hx,hy=>by
  have ex:xs[t]? =some (on x c):=hx 0 t rfl
  have ey:ys[t']? =some (on x c):=hy 0 t' rfl
  have hx':∀k u,l[k]? =some u->xs[u]? =some (on x (c+1+k)):=λk u z=>by rw[show c+1+k=c+(k+1) by omega];exact hx (k+1) u z
  have hy':∀k u,l'[k]? =some u->ys[u]? =some (on x (c+1+k)):=λk u z=>by rw[show c+1+k=c+(k+1) by omega];exact hy (k+1) u z
  have hl':l.length=l'.length:=D5 hl
  rw[cz] at h h'
  by_cases lt:t<s
  ·rw[if_pos lt] at h
   have e:t'=t:=yx Ir ey (by rw[<-eq t lt];exact ex)
   subst e
   rw[if_pos lt] at h'
   obtain⟨r1,r2,r3⟩:=uD ndx Ir l l' (c+1) s s1 s2 hl' h h' eq hx' hy'
   exact⟨by rw[r1],r2,r3⟩
  ·rw[if_neg lt] at h
   by_cases es:t=s
   ·rw[if_pos es] at h
    have lt':¬t'<s:=λz=>by
     have:=yx ndx ex (by rw[eq t' z];exact ey)
     omega
    rw[if_neg lt'] at h'
    by_cases es':t'=s
    ·rw[if_pos es'] at h'
     obtain⟨r1,r2,r3⟩:=uD ndx Ir l l' (c+1) (s+1) s1 s2 hl' h h' (λi hi=>by
      by_cases z:i<s
      ·exact eq i z
      ·have:i=s:=by omega
       rw[this,<-es,ex,es,<-es',ey]) hx' hy'
     exact⟨by rw[r1,es,es'],r2,r3⟩
    ·rw[if_neg es'] at h';cases h'
   ·rw[if_neg es] at h;cases h
theorem yy{xs ys:List α}(ndx:xs.Nodup)(Ir:ys.Nodup):∀(mv mv':List (List Nat)) (i s s1 s2:Nat),eQ mv i s=some s1->eQ mv' i s=some s2->(∀j,j<s->xs[j]? =ys[j]?)->
  (∀k r,mv[k]? =some r->r.length=m/\∃x,xs[i+k]? =some x/\∀c t,r[c]? =some t->xs[t]? =some (on x c))->(∀k r,mv'[k]? =some r->r.length=m/\∃x,ys[i+k]? =some x/\∀c t,r[c]? =some t->ys[t]? =some (on x c))->
  i+mv.length=xs.length->i+mv'.length=ys.length->s1=xs.length->s2=ys.length->mv=mv'/\xs=ys
 | [],[],i,s,s1,s2,h,h',eq,_,_,l1,l2,e1,e2=>by
  cases h;cases h'
  refine⟨rfl,DD λj=>?_⟩
  by_cases z:j<s
  ·exact eq j z
  ·rw[BJ (by omega),BJ (by omega)]
 | [],r'::mv',i,s,s1,s2,h,h',eq,_,hy,l1,l2,e1,e2=>by
  cases h
  rw[eQ] at h'
  rw[Dk] at l1
  rw[if_neg (by omega)] at h'
  cases h'
 | r::mv,[],i,s,s1,s2,h,h',eq,hx,_,l1,l2,e1,e2=>by
  cases h'
  rw[eQ] at h
  rw[Dk] at l2
  rw[if_neg (by omega)] at h
  cases h
 | r::mv,r'::mv',i,s,s1,s2,h,h',eq,hx,hy,l1,l2,e1,e2=>by
  rw[eQ] at h h'
  by_cases lt:i<s
  ·rw[if_pos lt] at h h'
   obtain⟨a1,ha,h⟩:=DQ.mp h
   obtain⟨a2,ha',h'⟩:=DQ.mp h'
   obtain⟨q1,x,q2,q3⟩:=hx 0 r rfl
   obtain⟨p1,y,p2,p3⟩:=hy 0 r' rfl
   have exy:x=y:=by
    rw[Gf] at q2 p2
    rw[eq i lt,p2] at q2
    exact(AZ q2).symm
   subst exy
   obtain⟨z1,z2,z3⟩:=uD ndx Ir r r' 0 s a1 a2 (q1.trans p1.symm) ha ha' eq (λk t z=>by rw[CN];exact q3 k t z) (λk t z=>by rw[CN];exact p3 k t z)
   subst z1 z2
   obtain⟨w1,w2⟩:=yy ndx Ir mv mv' (i+1) a1 s1 s2 h h' z3 (λk r z=>by rw[show i+1+k=i+(k+1) by omega];exact hx (k+1) r z) (λk r z=>by rw[show i+1+k=i+(k+1) by omega];exact hy (k+1) r z)
    (by rw[A'] at l1;omega) (by rw[A'] at l2;omega) e1 e2
   exact⟨by rw[w1],w2⟩
  ·rw[if_neg lt] at h;cases h
theorem Kb{xs ys:List α}{mv mv':List (List Nat)}(g:cp x0 on m xs mv)(h:mv.length=xs.length)(g':cp x0 on m ys mv')(h':mv'.length=ys.length):mv=mv'/\xs=ys:=
 yy (m:=m) (on:=on) g.once g'.once mv mv' 0 1 _ _ g.go g'.go (λj hj=>by rw[show j=0 by omega,g.first,g'.first]) (λk r z=>by rw[CN];exact g.row k r z) (λk r z=>by rw[CN];exact g'.row k r z) (by omega) (by omega) rfl rfl
theorem Kc{xs ys:List α}{mv:List (List Nat)}(g:cp x0 on m xs mv)(h:mv.length=xs.length)(nd:ys.Nodup)(hy:∀y∈ys,∃w,bX m w/\y=dH on x0 w):ys.length<=xs.length:=
 Bf nd λy z=>by
  obtain⟨w,hw,rfl⟩:=hy y z
  exact AL (g.run h w 0 x0 g.first hw)
end
theorem p8(i:Nat):∀B:Nat,(AO B [V.int (i:Int)]).flatten=(ai (AO B i)).map V.int
 | 0=>rfl
 | B+1=>by
  rw[Bz,Dp,p8 i B,Bz]
  rfl
def Iu(f:Nat):Nat:=if f=2 then 54 else 12
theorem Vb{f:Nat}(h:f<3):([V.int 12,V.int 12,V.int 54])[f]? =some (.int ((Iu f:Nat):Int)):=by
 rcases(show f=0∨f=1∨f=2 by omega) with rfl | rfl | rfl<;>rfl
theorem Vc{f M i:Nat}(h:f<3):([V.int 0,V.int (0+(i:Int)),V.int (M:Int)])[f]? =some (.int ((fY f M i:Nat):Int)):=by
 rcases(show f=0∨f=1∨f=2 by omega) with rfl | rfl | rfl
 ·rfl
 ·rw[Gk];rfl
 ·rfl
def Sb:Sp:=λvs H Q _=>∃(F L nm:Addr) (b k:Nat) (ss:List Str),vs=[.ref F,.int b,.ref nm,.int k]/\aZ H F L/\2<=b/\b<=4/\H nm=some (.tup (ss.map V.str))/\k<ss.length/\ss.length<=3/\
 ∀(ma:Addr) (f M:Nat) (cs:Nat->Nat) (mv:List (List Nat)) (H':Hp),cm F L H H'->aZ H' F L->dy H' ma nm (cbs M) mv->jo f M (b ^ ss.length) cs mv->f<3->8<=M->M<=61->(∀r,r<M-1->∃g,g<b/\cs r=g*b ^ (ss.length-1-k))->cs (M-2)≠0->Q (.ref ma) H'
section
variable{P:Az}{w:World}{K:AE}{mg:Str->Option Value}{base:Heap}
theorem cA:aU ["_law_feed_here","_law_base","_law_names_here","_law_at","_law_form","_law_many","_law_step","_law_letters_here","_law_k","_law_moves","_law_room","_law_goes","_law_figure"] ["_law_feed_here","_law_base","_law_names_here","_law_at"] (aj fR):=⟨rfl,rfl,rfl,by decide+kernel,rfl,by decide+kernel,by decide+kernel⟩
set_option maxHeartbeats 16000000 in
theorem Kd{a:cb}(T:Txt K mg a):aV P w K mg base bK 2 a.lH a.nK ["_law_feed_here","_law_base","_law_names_here","_law_at"] Sb:=by
 have bw:=jg (P:=P) (w:=w) (base:=base) T
 refine T.Mh.ok cA (λvs H Q E h=>?_) (λcdv A outer s H vs Q E hr h=>?_)
 ·obtain⟨F,L,nm,b,k,ss,rfl,_⟩:=h
  rfl
 ·obtain⟨F,L,nm,b,k,ss,rfl,hf,hb2,hb4,jH,hk,hs3,q⟩:=h
  have bf:aQ 1 _:=hr
  refine⟨_,(ah (av (i:=4) cA.nd rfl (AW rfl) (aE bw bf rfl T.bS T.bT T.bU .nil aN (ae (pv 0) (ae ak ag))))
  (ah (av (i:=5) cA.nd rfl (CZ rfl) (aH cK ak (aE bw bf rfl T.bS T.bT T.bU .nil aN (ae (pv 0) (ae (aC (bo K) (bt (ae ak (ae ak (ae ak ag)))) (pv 4) (λ_ _=>rfl)) ag)))))
  (ah (av (i:=6) cA.nd rfl (AW rfl) ak)
  (ah (av (i:=7) cA.nd rfl (AW rfl) ak)
  (ah (aY Af rfl (bh rfl T.bV (ae (aF (aP K) (by rfl) T.cg bI (ae (pv 2) ag)) ag)) (ay (i:=8) cA.nd rfl (AW rfl))
   (ah (av (i:=7) cA.nd rfl (AW rfl) (aH dr (pv 7) (pv 1)))
   (au (av (i:=6) cA.nd rfl (AW rfl) (aC (bo K) (bt (ae (pv 6) (ae (aH dr (pv 6) (pv 1)) ag))) (aW KD (by rfl) T.JN xh (ae (f_ pO (pv 8) (pv 3) (bj _)) ag)) (λ_ _=>rfl))))))
  (ah (av (i:=9) cA.nd rfl (AW rfl) (bt ag))
  (ah (aY Af rfl (bh rfl T.bV (ae (aH ki (pv 5) ak) ag)) (ay (i:=10) cA.nd rfl (AW rfl))
   (ah (av (i:=11) cA.nd rfl (AW rfl) (aH SU (bt (ae (aC (bo K) (bt (ae ak (ae (pv 10) (ae (pv 5) ag)))) (pv 4) (λ_ _=>rfl)) ag)) (pv 7)))
   (ah (av (i:=12) cA.nd rfl (AW rfl) (aE bw bf rfl T.bS T.bT T.bU .nil aN (ae (pv 0) (ae (pv 1) ag))))
   (ah (cM (PW.pt (wJ (aX ic (pv 10) (aH ki (pv 5) ak) (bj _)) (tG (aX ic (pv 12) ak (bj _)))))
    (au (av (i:=12) cA.nd rfl (AW rfl) (aH ki (pv 1) ak)))
    bQ)
   (ah (rl (aH cK (pv 10) ak) (Ky (pv 11) (aH dr (pv 12) (pv 6)) set_list))
   (au (bG (cC Ai Au Av bz (pv 9) (ae (aW (a_ K) (by rfl) T.bW bB (ae (pv 11) ag)) ag)))))))))
  (ah (bG (cC Ai DI DJ kX (pv 9) (ae (bt (ae (aH (xn K) (cB (ae (aH ki (pv 5) ak) ag)) (pv 7)) (ae (aH (xn K) (cB (ae (pv 5) ag)) (pv 7)) ag))) ag)))
  (au (aO (cB (ae (pv 2) (ae (aW (a_ K) (by rfl) T.bW bB (ae (ck (aG.mk' (esc:=aj fR) (N:=["_law_feed_here","_law_base","_law_names_here","_law_at","_law_form","_law_many","_law_step","_law_letters_here","_law_k","_law_moves","_law_room","_law_goes","_law_figure"]) (own:=["_law_room"]) (aI:=["_law_many"]) (bD:=[5]) rfl rfl (by decide+kernel)) rfl (bh rfl T.bV (ae (aH cK (pv 5) ak) ag)) (λ_ _ _ _=>(ay (i:=0) (show BK (["_law_room","_law_many"]:List Str) by decide+kernel) rfl (AW rfl))) (λ_ _ _ _=>br) (λ_ _ _ _=>(f_ ic (pv 0) (aH ki (pv 1) ak) (bj _)))) ag)) (ae (aW (a_ K) (by rfl) T.bW bB (ae (pv 9) ag)) ag)))))))))))))),?_⟩
  have yi:(2 ^ 10:Nat)<2 ^ 1000:=DF (by decide) (by decide)
  have big:(10000:Nat)<=sizeLine:=by decide
  have small:∀x:Nat,x<=1000->x<2 ^ 1000:=λx hx=>Cp (show x<2 ^ 10 by omega) yi
  refine aA λR hR=>?_
  refine⟨_,rfl,F,L,3,rfl,hf,by decide,small _ (by decide),λf H1 f3 k1 f1=>?_⟩
  dsimp only[az]
  subst hR
  refine aA λR hR=>?_
  have Yh:0<Iu f/\Iu f<=54:=by unfold Iu;split<;>omega
  refine⟨_,rfl,by show 3<=sizeLine;decide,λZ hZ=>⟨_,rfl,Z,_,_,.int ((Iu f:Nat):Int),rfl,rfl,.of af,ax (Vb f3),F,L,Iu f,rfl,f1.same (Same.new hZ),Yh.1,small _ (by omega),λr H2 r2 k2 f2=>⟨_,_,rfl,rfl,?_⟩⟩⟩
  have k12:cm F L H H2:=(k1.trans (Same.new hZ).kb2).trans k2
  have en:(8:Int)+(r:Int)=((8+r:Nat):Int):=by omega
  dsimp only[az]
  rw[en]
  subst hR
  refine aA λR hR=>?_
  dsimp only[gM,tC,az]
  subst hR
  refine aA λR hR=>?_
  dsimp only[gM,tC,az]
  subst hR
  obtain⟨M,hN⟩:∃M,8+r=M:=⟨_,rfl⟩
  rw[hN]
  have M8:8<=M:=by omega
  have QC:M<=61:=by omega
  clear en
  have Pc:=hf.ktu k12
  have Pd:=Pc _ _ jH
  clear r2 Yh hN
  refine aA λR hR=>?_
  refine⟨_,rfl,.ref nm,ss.length,rfl,.inr ⟨_,.of Pd,by rw[AA]⟩,_,rfl,by omega,by omega,cP (n:=((ss.length:Nat):Int).toNat) (λi σ H'=>∃v8:Option V,σ=[some (.ref F),some (.int (b:Nat)),some (.ref nm),some (.int (k:Nat)),some (.int (f:Nat)),some (.int (M:Nat)),some (.int (b ^ (i-1-k):Nat)),some (.int (b ^ i:Nat)),v8,none,none,none,none]/\Same H2 H')
   ⟨none,?st0,.refl _⟩ ?_ ?_⟩
  case st0=>rw[show 0-1-k=0 by omega];rfl
  ·rintro i σ H3 N hX hi ⟨v8,rfl,s3⟩
   clear q hf f1 f2 k1 k2 k12 Pc jH Pd yi small big M8 QC hs3
   refine aA λR hR=>?_
   rw[AY] at hi
   have e2:((b ^ i:Nat):Int)*(b:Int)=((b ^ (i+1):Nat):Int):=by rw[Bm,Bx]
   refine⟨_,rfl,_,rfl,_,_,rfl,rfl,.inr (by constructor<;>omega),?_⟩
   dsimp only[az]
   rw[e2]
   subst hR
   refine⟨_,rfl,_,rfl,_,rfl,_,_,rfl,rfl,.inr (by constructor<;>omega),by show 2<=sizeLine;decide,λY hY=>⟨_,rfl,_,rfl,_,_,rfl,rfl,.inr ⟨_,rfl,Y,_,_,.int ((b ^ (i+1-1-k):Nat):Int),rfl,rfl,.of af,?aa,hX _ _ ⟨_,rfl,s3.trans (Same.new hY)⟩⟩⟩⟩
   case aa=>
    by_cases z:k<i
    ·rw[show decide ((k:Int)<0+(i:Int))=true from decide_eq_true (by omega)]
     refine ax (j:=1) ?_
     show some (V.int (((b ^ (i-1-k):Nat):Int)*(b:Int)))=_
     rw[<-Bx,<-Bm,show i+1-1-k=(i-1-k)+1 by omega]
    ·rw[show decide ((k:Int)<0+(i:Int))=false from decide_eq_false (by omega)]
     refine ax (j:=0) ?_
     show some (V.int ((b ^ (i-1-k):Nat):Int))=_
     rw[show i+1-1-k=i-1-k by omega]
  rintro σ H3 ⟨v8,rfl,s3⟩
  rw[AY]
  have hB2:2<=b ^ ss.length:=BH hb2 (by
   have:=BA (show 0<b by omega) (show 1<=ss.length by omega)
   rwa [Nat.pow_one] at this)
  have ZH:b ^ ss.length<=64:=BH (EB hb4 _) (BH (BA (show 0<4 by decide) hs3) (by decide))
  have hst:∀g,g<b->g*b ^ (ss.length-1-k)<b ^ ss.length:=λg hg=>by
   have h1:g*b ^ (ss.length-1-k)<b*b ^ (ss.length-1-k):=Nat.mul_lt_mul_of_pos_right hg (DE (by omega))
   have h2:b*b ^ (ss.length-1-k)<=b ^ ss.length:=by
    rw[C',<-Bm]
    exact BA (by omega) (by omega)
   omega
  have Vd:0<b ^ (ss.length-1-k):=DE (by omega)
  generalize hBe:b ^ ss.length=B at hB2 ZH hst q ⊢
  generalize b ^ (ss.length-1-k)=st at hst Vd q ⊢
  have QD:=f2.same s3
  have k3:cm F L H H3:=k12.trans s3.kb2
  subst hR
  dsimp only
  refine aA λR hR=>?_
  refine⟨by decide,λMv QE=>?_⟩
  have QF:=QD.sJ QE
  have vG:=QD.lo k3 QE
  dsimp only[az]
  subst hR
  refine aA λR hR=>?_
  clear hs3 hk
  refine⟨_,rfl,_,_,rfl,rfl,_,rfl,by omega,by omega,cP (n:=((M:Int)-1).toNat) (λi σ H'=>∃(ps:List Addr) (mv:List (List Nat)) (cl:List Nat) (v10 v11 jq:Option V),σ=[some (.ref F),some (.int (b:Nat)),some (.ref nm),some (.int (k:Nat)),some (.int (f:Nat)),some (.int (M:Nat)),some (.int (st:Nat)),some (.int (B:Nat)),v8,some (.ref Mv),v10,v11,jq]/\cm F L H H'/\aZ H' F L/\H' Mv=some (.lst (ps.map V.ref))/\cx H' ps (mv.map ai)/\mv.length=i/\cl.length=i/\(∀r,r<i->mv[r]? =some (fI f M B (cl.getD r 0) r))/\∀r,r<i->∃g,g<b/\cl.getD r 0=g*st/\(r=M-2->g≠0))
   ⟨[],[],[],none,none,none,rfl,k3.trans (Same.new QE).kb2,QD.same (Same.new QE),af,.nil,rfl,rfl,λr hr=>absurd hr (Bw _),λr hr=>absurd hr (Bw _)⟩ ?_ ?_⟩
  ·rintro i σ H4 N hX hi ⟨ps,mv,cl,v10,v11,jq,rfl,k4,f4,m4,yk,lm,lc,hlow,hg⟩
   have hi':i<M-1:=by omega
   clear q hf f1 f2 QD k1 k2 k12 Pc jH Pd yi k3 s3 hi M8
   refine aA λR hR=>?_
   have lps:ps.length=i:=by rw[As yk,AA,lm]
   refine⟨_,rfl,_,rfl,by show 3<=sizeLine;decide,λY hY=>⟨_,rfl,Y,_,_,.int ((fY f M i:Nat):Int),rfl,rfl,.of af,ax (Vc f3),by show 1<=sizeLine;decide,λZ hZ=>?_⟩⟩
   have sY:=Same.new (o:=.lst [.int 0,.int (0+(i:Int)),.int (M:Int)]) hY
   have sZ:=Same.new (o:=.lst [.int ((fY f M i:Nat):Int)]) hZ
   refine⟨_,rfl,Z,(B:Int),[.int ((fY f M i:Nat):Int)],rfl,rfl,af,by omega,by omega,by rw[AY];show 1*B<=_;omega,λRw Ve=>?_⟩
   rw[AY,p8]
   have sR:=Same.new (o:=.lst ((ai (AO B (fY f M i))).map V.int)) Ve
   have s5:=(sY.trans sZ).trans sR
   have nR:=(f4.same (sY.trans sZ)).sJ Ve
   have Na:H4 Rw=none:=(sY.trans sZ).free Ve
   have r5:(upd (upd (upd H4 Y (.lst [.int 0,.int (0+(i:Int)),.int (M:Int)])) Z (.lst [.int ((fY f M i:Nat):Int)])) Rw (.lst ((ai (AO B (fY f M i))).map V.int))) Rw=_:=af
   have f5:=f4.same s5
   dsimp only[az]
   subst hR
   refine aA λR hR=>?_
   refine⟨_,rfl,_,rfl,F,L,b,rfl,f5,by omega,small _ (by omega),λg H6 g1 k6 f6=>?_⟩
   have r6:=k6 _ _ r5 nR.1 nR.2
   have Yi:cm F L H4 H6:=s5.kb2.trans k6
   clear s5 f5 r5 sR sY sZ k6
   dsimp only[az]
   subst hR
   refine fP (t:=kh _ _ _) (λσ H'=>∃g':Nat,σ=[some (.ref F),some (.int (b:Nat)),some (.ref nm),some (.int (k:Nat)),some (.int (f:Nat)),some (.int (M:Nat)),some (.int (st:Nat)),some (.int (B:Nat)),v8,some (.ref Mv),some (.int (0+(i:Int))),some (.ref Rw),some (.int (g':Nat))]/\g'<b/\(i=M-2->g'≠0)/\H'=H6) ?_ (λR rest=>?_)
   ·rintro σ H7 ⟨g',rfl,hg1,hg2,rfl⟩
    have hgs:=hst g' hg1
    clear hst Vd g1
    refine aA λR hR=>?_
    refine⟨_,rfl,_,_,rfl,rfl,_,rfl,_,rfl,_,rfl,_,_,rfl,rfl,.inl (by constructor<;>omega),Rw,_,_,g'*st,rfl,rfl,r6,?ix,?_⟩
    case ix=>
     rw[<-Bx]
     exact Uc (by rw[AA,aB,BE];exact hgs)
    have ep:((ai (AO B (fY f M i))).map V.int).set (g'*st) (.int (0+(i:Int)+1))=(ai (fI f M B (g'*st) i)).map V.int:=by
     unfold fI
     rw[<-Mn,show(0:Int)+(i:Int)+1=((i+1:Nat):Int) by omega]
    rw[ep]
    have m6:=Yi _ _ m4 QF.1 QF.2
    have nRM:Mv≠Rw:=aq m4 Na
    have f7:=f6.upd (o:=.lst ((ai (fI f M B (g'*st) i)).map V.int)) nR
    have k7:cm F L H4 (upd H7 Rw (.lst ((ai (fI f M B (g'*st) i)).map V.int))):=cm.nV Yi Na
    have m7:(upd H7 Rw (.lst ((ai (fI f M B (g'*st) i)).map V.int))) Mv=some (.lst (ps.map V.ref)):=by rw[ao nRM];exact m6
    have r7:(upd H7 Rw (.lst ((ai (fI f M B (g'*st) i)).map V.int))) Rw=some (.lst ((ai (fI f M B (g'*st) i)).map V.int)):=af
    generalize upd H7 Rw (.lst ((ai (fI f M B (g'*st) i)).map V.int))=H8 at f7 k7 m7 r7 ⊢
    subst hR
    dsimp only
    refine⟨_,rfl,.inl ⟨rfl,_,.of m7⟩,_,rfl,Rw,_,rfl,.inl ⟨.of r7,λD hD=>?_⟩⟩
    have sD:=Same.new (o:=.tup ((ai (fI f M B (g'*st) i)).map V.int)) hD
    have m8:=sD _ _ m7
    have ktM:bF (upd H8 D (.tup ((ai (fI f M B (g'*st) i)).map V.int))) (upd (upd H8 D (.tup ((ai (fI f M B (g'*st) i)).map V.int))) Mv (.lst (ps.map V.ref++[.ref D]))):=bF.lst m8
    refine⟨Mv,_,_,rfl,rfl,m8,by rw[AA,lps];omega,hX _ _ ⟨ps++[D],mv++[fI f M B (g'*st) i],cl++[g'*st],_,_,_,rfl,cm.nV ((k4.trans k7).trans sD.kb2) vG,(f7.same sD).upd QF,by rw[af,AF];rfl,?_,by rw[AH,lm];rfl,by rw[AH,lc];rfl,λr hr=>?_,λr hr=>?_⟩⟩
    ·rw[AF]
     exact cf (((yk.keep (f4.ktu k7)).keep sD.kt).keep ktM) (.cons (ktM _ _ af) .nil)
    ·by_cases z:r<i
     ·have e1:(cl++[g'*st]).getD r 0=cl.getD r 0:=by rw[AQ,Am (by omega),<-AQ]
      rw[Am (by omega),hlow r z,e1]
     ·obtain rfl:r=i:=by omega
      have e1:(cl++[g'*st]).getD r 0=g'*st:=by rw[AQ,Ae (by omega),lc,B4];rfl
      rw[Ae (by omega),lm,B4,e1]
      rfl
    ·by_cases z:r<i
     ·rw[AQ,Am (by omega),<-AQ]
      exact hg r z
     ·obtain rfl:r=i:=by omega
      rw[AQ,Ae (by omega),lc,B4]
      exact⟨g',hg1,rfl,hg2⟩
   ·dsimp only[kh]
    refine⟨_,rfl,_,rfl,_,_,rfl,rfl,rfl,_,rfl,?_⟩
    refine cI (λz=>?_) (λz=>?_)
    ·refine⟨_,rfl,rfl,_,rfl,?_⟩
     refine cI (λy=>?_) (λy=>?_)
     ·refine⟨_,rfl,_,_,rfl,rfl,rest _ _ ⟨b-1,?_,by omega,λ_=>by omega,rfl⟩⟩
      rw[show((b-1:Nat):Int)=(b:Int)-1 by omega]
      rfl
     ·exact rest _ _ ⟨g,rfl,g1,λ_ e=>y (decide_eq_true (by rw[e];rfl)),rfl⟩
    ·refine rest _ _ ⟨g,rfl,g1,λe=>absurd (decide_eq_true ?_) z,rfl⟩
     rw[show(0:Int)+(i:Int)=(M:Int)-2 by omega]
  rintro σ H4 ⟨ps,mv,cl,v10,v11,jq,rfl,k4,f4,m4,yk,lm,lc,hlow,hg⟩
  have eM:((M:Int)-1).toNat=M-1:=by omega
  rw[eM] at lm lc hlow hg
  have eM1:(M:Int)-1=((M-1:Nat):Int):=by omega
  have lps:ps.length=M-1:=by rw[As yk,AA,lm]
  subst hR
  dsimp only
  refine aA λR hR=>?_
  refine⟨_,rfl,.inl ⟨rfl,_,.of m4⟩,_,rfl,_,_,rfl,rfl,by show 1<=sizeLine;decide,λA1 hA1=>⟨_,rfl,A1,_,B,rfl,rfl,.of af,by simp,hB2,by show 1*B<=_;omega,λR1 Yj=>?_⟩⟩
  have er:(AO B [V.int ((M:Int)-1)]).flatten=(ai (AO B (M-1))).map V.int:=by rw[eM1,p8]
  rw[er]
  have sA1:=Same.new (o:=.tup [.int ((M:Int)-1)]) hA1
  have sR1:=Same.new (o:=.tup ((ai (AO B (M-1))).map V.int)) Yj
  refine⟨_,rfl,by show 1<=sizeLine;decide,λA2 hA2=>⟨_,rfl,A2,_,B,rfl,rfl,.of af,by simp,hB2,by show 1*B<=_;omega,λR2 Vf=>?_⟩⟩
  rw[p8]
  have Yk:=Same.new (o:=.tup [.int ((M:Nat):Int)]) hA2
  have Yl:=Same.new (o:=.tup ((ai (AO B M)).map V.int)) Vf
  refine⟨by show 2<=sizeLine;decide,λEl Vg=>?_⟩
  have Vh:=Same.new (o:=.lst [.ref R1,.ref R2]) Vg
  have dz:=(((sA1.trans sR1).trans Yk).trans Yl).trans Vh
  have s2E:=(Yk.trans Yl).trans Vh
  have m5:=dz _ _ m4
  have t1:=s2E _ _ (show(upd _ R1 (.tup ((ai (AO B (M-1))).map V.int))) R1=_ from af)
  have t2:=Vh _ _ (show(upd _ R2 (.tup ((ai (AO B M)).map V.int))) R2=_ from af)
  have Ym:=yk.keep dz.kt
  have f5:=f4.same dz
  have k5:=k4.trans dz.kb2
  refine⟨Mv,El,_,_,rfl,rfl,m5,af,by rw[AA,lps];show M-1+2<=_;omega,?_⟩
  have ktM:=bF.lst (o:=.lst (ps.map V.ref++[.ref R1,.ref R2])) m5
  generalize upd (upd (upd (upd (upd H4 A1 (.tup [.int ((M:Int)-1)])) R1 (.tup ((ai (AO B (M-1))).map V.int))) A2 (.tup [.int ((M:Nat):Int)])) R2 (.tup ((ai (AO B M)).map V.int))) El (.lst [.ref R1,.ref R2])=H5 at m5 t1 t2 Ym f5 k5 ktM ⊢
  have Nb:cx (upd H5 Mv (.lst (ps.map V.ref++[.ref R1,.ref R2]))) (ps++[R1,R2]) ((mv++[AO B (M-1),AO B M]).map ai):=by
   rw[AF]
   exact cf (Ym.keep ktM) (.cons (ktM _ _ t1) (.cons (ktM _ _ t2) .nil))
  have f6:=f5.upd (o:=.lst (ps.map V.ref++[.ref R1,.ref R2])) QF
  have k6:cm F L H (upd H5 Mv (.lst (ps.map V.ref++[.ref R1,.ref R2]))):=cm.nV k5 vG
  have m6:(upd H5 Mv (.lst (ps.map V.ref++[.ref R1,.ref R2]))) Mv=some (.lst ((ps++[R1,R2]).map V.ref)):=by rw[af,AF];rfl
  generalize upd H5 Mv (.lst (ps.map V.ref++[.ref R1,.ref R2]))=H6 at Nb f6 k6 m6 ⊢
  subst hR
  dsimp only
  refine⟨_,rfl,_,rfl,_,_,rfl,rfl,_,rfl,by omega,by omega,λY hY=>?_⟩
  refine fh (λj σ H'=>∃v:Option V,σ=[v,some (.int (M:Nat))]/\Same H6 H'/\H' Y=some (.lst (((Ad j).map λr=>decide (r=M-1)).map V.bl)))
   ⟨none,?sg,Same.new hY,af⟩ ?_ ?_
  case sg=>rfl
  ·rintro j σ H7 hj ⟨v,rfl,s7,y7⟩
   have hj':j<M+1:=by omega
   refine⟨_,rfl,_,rfl,_,_,rfl,rfl,rfl,_,y7,?_,_,rfl,s7.kbn hY KB.write,?_⟩
   ·rw[AA,AA,Aw];omega
   ·rw[af,BD,AF,AF]
    show some (HO.lst (_++[V.bl (decide (V.int (0+(j:Int))=V.int ((M:Int)-1)))]))=some (HO.lst (_++[V.bl (decide (j=M-1))]))
    rw[show decide (V.int (0+(j:Int))=V.int ((M:Int)-1))=decide (j=M-1) from decide_eq_decide.mpr ⟨λe=>by injection e;omega,λe=>by rw[e];congr 1;omega⟩]
  rintro σ H7 ⟨v,rfl,s7,y7⟩
  have eL:((M:Int)+1).toNat=M+1:=by omega
  rw[eL] at y7
  have y7':H7 Y=some (.lst ((cbs M).map V.bl)):=y7
  refine⟨Y,_,rfl,.inl ⟨.of y7',λD hD=>?_⟩⟩
  have sD:=Same.new (o:=.tup ((cbs M).map V.bl)) hD
  have s8:=s7.trans sD
  refine⟨_,rfl,Mv,_,rfl,.inl ⟨.of (s8 _ _ m6),λN hN=>?_⟩⟩
  have sN:=Same.new (o:=.tup ((ps++[R1,R2]).map V.ref)) hN
  refine⟨by show 3<=sizeLine;decide,λma hma=>?_⟩
  have sX:=Same.new (o:=.tup [.ref nm,.ref D,.ref N]) hma
  have s9:=(s8.trans sN).trans sX
  refine q ma f M (λr=>cl.getD r 0) (mv++[AO B (M-1),AO B M]) _ (k6.trans s9.kb2) (f6.same s9) ⟨D,N,ps++[R1,R2],af,sX _ _ (sN _ _ af),sX _ _ af,Nb.keep s9.kt⟩ ⟨?_,?_,?_,?_⟩ f3 M8 QC (λr hr=>?_) ?_
  ·rw[AH,lm];show M-1+2=_;omega
  ·intro r hr
   rw[Am (by omega)]
   exact hlow r hr
  ·rw[Ae (by omega),lm,B4];rfl
  ·rw[Ae (by omega),lm,show M-(M-1)=1 by omega];rfl
  ·obtain⟨g,h1,h2,_⟩:=hg r hr
   exact⟨g,h1,h2⟩
  ·obtain⟨g,h1,h2,h3⟩:=hg (M-2) (by omega)
   show cl.getD (M-2) 0≠0
   rw[h2]
   have:=h3 rfl
   exact Nat.mul_ne_zero this (by omega)
def Lf(x y:V):Prop:=(∃i:Int,x=.int i/\y=.int i)∨(∃b:Bool,x=.bl b/\y=.bl b)∨∃s:Str,x=.str s/\y=.str s
def Tr(H:Hp):Nat->V->V->Prop
 | 0,_,_=>False
 | n+1,x,y=>Lf x y∨∃(p q:Addr) (xs ys:List V),x=.ref p/\y=.ref q/\((H p=some (.tup xs)/\H q=some (.tup ys))∨(H p=some (.lst xs)/\H q=some (.lst ys)))/\xs.length=ys.length/\xs.length<=3000/\∀(i:Nat) (u v:V),xs[i]? =some u->ys[i]? =some v->Tr H n u v
theorem Tr.keep{H H':Hp}(k:Same H H'):∀{n:Nat} {x y:V},Tr H n x y->Tr H' n x y
 | 0,_,_,h=>h
 | n+1,x,y,h=>by
  rcases h with h | ⟨p,q,xs,ys,e1,e2,h1,h3,h4,h5⟩
  ·exact .inl h
  ·exact .inr ⟨p,q,xs,ys,e1,e2,h1.imp (λz=>⟨k _ _ z.1,k _ _ z.2⟩) (λz=>⟨k _ _ z.1,k _ _ z.2⟩),h3,h4,λi u v hu hv=>(h5 i u v hu hv).keep k⟩
def qa(n:Nat):Sp:=λvs H Q _=>∃(x y:V),vs=[x,y]/\Tr H n x y/\∀H',Same H H'->Q (.bl true) H'
theorem Iv(n:Nat):(AO n true).all id=true:=by
 rw[DP]
 intro b hb
 rw[Bp hb];rfl
theorem yz:BF K (.type "list") (.type "tuple")=some false:=by rfl
theorem Ni:BF K (.type "tuple") (.type "list")=some false:=by rfl
theorem Vi:BF K (.type "int") (.type "tuple")=some false:=by rfl
theorem Vj:BF K (.type "int") (.type "list")=some false:=by rfl
theorem Vk:BF K (.type "bool") (.type "tuple")=some false:=by rfl
theorem Vl:BF K (.type "bool") (.type "list")=some false:=by rfl
theorem Vm:BF K (.type "bool") (.type "int")=some true:=by rfl
theorem Vn:BF K (.type "str") (.type "tuple")=some false:=by rfl
theorem Vo:BF K (.type "str") (.type "list")=some false:=by rfl
theorem Vp:BF K (.type "str") (.type "bool")=some false:=by rfl
theorem Vq:BF K (.type "str") (.type "int")=some false:=by rfl
theorem Ke:aU ["_law_found","_law_due_here"] ["_law_found","_law_due_here"] (aj fQ):=⟨rfl,rfl,rfl,by decide+kernel,rfl,by decide+kernel,by decide+kernel⟩
set_option maxHeartbeats 16000000 in
theorem zf{a:cb}(T:Txt K mg a){n:Nat}(jr:aV P w K mg base bK (n+1) a.fS a.gi ["_law_found","_law_due_here"] (qa n)):aV P w K mg base bK (n+1+1) a.fS a.gi ["_law_found","_law_due_here"] (qa (n+1)):=by
 refine T.Mg.ok Ke (λvs H Q E h=>?_) (λcdv A outer s H vs Q E hr h=>?_)
 ·obtain⟨x,y,rfl,_⟩:=h
  rfl
 ·obtain⟨x,y,rfl,tr,k⟩:=h
  have iD:aQ (n+1) _:=hr
  refine⟨_,(ah (cM (PW.pt (rj (fJ (aF (dI K) (by rfl) T.cF cy (ae (pv 1) (ae (fB (v:=.ty "tuple") rfl T.bW bB rfl) ag))) (λ_=>rfl)) (oG (fJ (aF (dI K) (by rfl) T.cF cy (ae (pv 1) (ae (fB (v:=.ty "list") rfl T.mN j0 rfl) ag))) (λ_=>rfl)))))
   (ah (cM (PW.pt (rj (aX jL (aF (dI K) (by rfl) T.cF cy (ae (pv 0) (ae (fB (v:=.ty "tuple") rfl T.bW bB rfl) ag))) (aF (dI K) (by rfl) T.cF cy (ae (pv 1) (ae (fB (v:=.ty "tuple") rfl T.bW bB rfl) ag))) (bj _)) (oG (aX jL (aF (dI K) (by rfl) T.cF cy (ae (pv 0) (ae (fB (v:=.ty "list") rfl T.mN j0 rfl) ag))) (aF (dI K) (by rfl) T.cF cy (ae (pv 1) (ae (fB (v:=.ty "list") rfl T.mN j0 rfl) ag))) (bj _)))))
    (au (aO kU))
    bQ)
   (au (aO (Sr (f_ ic (aF (aP K) (by rfl) T.cg bI (ae (pv 0) ag)) (aF (aP K) (by rfl) T.cg bI (ae (pv 1) ag)) (bj _)) (Kv (aF (K' K rfl) (by rfl) T.WW S5 (ae (ck (aG.mk' (esc:=aj fQ) (N:=["_law_found","_law_due_here"]) (own:=["_law_one","_law_other"]) (aI:=[]) (bD:=[]) rfl rfl (by decide+kernel)) rfl (RC rfl T.WY (ae (pv 0) (ae (pv 1) ag))) (λ_ _ _ _=>(zH K (n:=2) rfl (dD (ay (i:=0) (show BK (["_law_one","_law_other"]:List Str) by decide+kernel) rfl (AW rfl)) (dD (ay (i:=1) (show BK (["_law_one","_law_other"]:List Str) by decide+kernel) rfl (AW rfl)) jZ)))) (λ_ _ _ _=>br) (λ_ _ _ _=>(aE jr iD rfl T.lK T.lL T.lM .nil aN (ae (pv 0) (ae (pv 1) ag))))) ag)))))))
   bQ)
  (ah (cM (PW.pt (rj (aX jL (aF (dI K) (by rfl) T.cF cy (ae (pv 0) (ae (fB (v:=.ty "bool") rfl T.xQ tM rfl) ag))) (aF (dI K) (by rfl) T.cF cy (ae (pv 1) (ae (fB (v:=.ty "bool") rfl T.xQ tM rfl) ag))) (bj _)) (oG (aX jL (aF (dI K) (by rfl) T.cF cy (ae (pv 0) (ae (fB (v:=.ty "int") rfl T.JN xh rfl) ag))) (aF (dI K) (by rfl) T.cF cy (ae (pv 1) (ae (fB (v:=.ty "int") rfl T.JN xh rfl) ag))) (bj _)))))
   (au (aO kU))
   bQ)
  (au (aO (f_ ic (pv 0) (pv 1) (bj _)))))),?_⟩
  have big:(10000:Nat)<=sizeLine:=by decide
  rcases tr with lf | ⟨p,q,xs,ys,rfl,rfl,⟨e1,e2⟩ | ⟨e1,e2⟩,hl,h3,sub⟩
  ·obtain⟨t,b1,b2,ty1,ty2,k1,k2,k3,k4,sc,eq⟩:∃(t:Value) (b1 b2:Bool),gA K H x t/\gA K H y t/\BF K t (.type "tuple")=some false/\BF K t (.type "list")=some false/\BF K t (.type "bool")=some b1/\BF K t (.type "int")=some b2/\NM x y=true/\x=y:=by
    rcases lf with⟨i,rfl,rfl⟩ | ⟨b,rfl,rfl⟩ | ⟨z,rfl,rfl⟩
    ·exact⟨_,false,true,.int i,.int i,Vi,Vj,S4,S3,rfl,rfl⟩
    ·exact⟨_,true,true,.bl b,.bl b,Vk,Vl,Tq,Vm,rfl,rfl⟩
    ·exact⟨_,false,false,.str z,.str z,Vn,Vo,Vp,Vq,rfl,rfl⟩
   refine aA λY hY=>?_
   refine⟨_,rfl,y,t,"tuple",false,rfl,ty2,k1,false,rfl,cX ?_⟩
   refine⟨_,rfl,y,t,"list",false,rfl,ty2,k2,false,rfl,cX ?_⟩
   subst hY
   dsimp only[jJ]
   refine aA λY hY=>?_
   refine⟨_,rfl,x,t,"bool",b1,rfl,ty1,k3,_,rfl,y,t,"bool",b1,rfl,ty2,k3,rfl,_,rfl,?_⟩
   rw[show(!decide (V.bl b1=V.bl b1))=false by rw[decide_eq_true rfl];rfl]
   refine cX ?_
   refine⟨_,rfl,x,t,"int",b2,rfl,ty1,k4,_,rfl,y,t,"int",b2,rfl,ty2,k4,rfl,_,rfl,?_⟩
   rw[show(!decide (V.bl b2=V.bl b2))=false by rw[decide_eq_true rfl];rfl]
   refine cX ?_
   subst hY
   dsimp only[jJ]
   refine⟨_,rfl,_,rfl,sc,?_⟩
   rw[decide_eq_true eq]
   exact k H (.refl _)
  ·refine aA λY hY=>?_
   refine⟨_,rfl,.ref q,_,"tuple",true,rfl,.tup e2,xc,true,rfl,fM ?_⟩
   refine fM ?_
   refine aA λY2 de=>?_
   refine⟨_,rfl,.ref p,_,"tuple",true,rfl,.tup e1,xc,_,rfl,.ref q,_,"tuple",true,rfl,.tup e2,xc,rfl,_,rfl,cX ?_⟩
   refine⟨_,rfl,.ref p,_,"list",false,rfl,.tup e1,Ni,_,rfl,.ref q,_,"list",false,rfl,.tup e2,Ni,rfl,_,rfl,cX ?_⟩
   subst de
   dsimp only[jJ]
   refine⟨_,rfl,_,xs.length,rfl,.inr ⟨_,.of e1,rfl⟩,_,rfl,_,ys.length,rfl,.inr ⟨_,.of e2,rfl⟩,rfl,_,rfl,?_⟩
   rw[hl,show decide (V.int ((ys.length:Nat):Int)=V.int ((ys.length:Nat):Int))=true from decide_eq_true rfl]
   refine fM ?_
   refine .inr ⟨_,rfl,_,rfl,p,q,rfl,⟨_,.of e1⟩,⟨_,.of e2⟩,λC hC=>?_⟩
   refine LA (xs:=xs) (ys:=ys) (λi σ H'=>∃v0 v1:Option V,σ=[v0,v1]/\Same H H'/\H' C=some (.lst ((AO i true).map V.bl))) hl
    ⟨none,none,?sg,Same.new hC,af⟩ (by rintro i σ H' _ ⟨_,_,_,s,_⟩;exact⟨.of (s _ _ e1),.of (s _ _ e2)⟩) ?_ ?_
   case sg=>rfl
   ·rintro i u v r σ H1 hu hv ⟨v0,v1,rfl,s1,c1⟩ hr'
    have hi:=(AD.mp hu).1
    have sp:=Same.new (o:=.tup [u,v]) hr'
    refine⟨r,_,rfl,.of af,rfl,_,_,rfl,_,_,rfl,rfl,?_⟩
    refine⟨_,rfl,_,rfl,u,v,rfl,(sub i u v hu hv).keep (s1.trans sp),λH2 s2=>?_⟩
    have s3:=(s1.trans sp).trans s2
    refine⟨_,s2 _ _ (sp _ _ c1),by rw[AA,BE];omega,_,_,rfl,s3.kbn hC KB.write,?_⟩
    rw[af,E4,AF];rfl
   rintro σ H1 ⟨v0,v1,rfl,s1,c1⟩
   refine⟨C,_,rfl,.of c1,?_⟩
   rw[Iv]
   exact k H1 s1
  ·refine aA λY hY=>?_
   refine⟨_,rfl,.ref q,_,"tuple",false,rfl,.lst e2,yz,false,rfl,cX ?_⟩
   refine⟨_,rfl,.ref q,_,"list",true,rfl,.lst e2,xb,true,rfl,fM ?_⟩
   refine aA λY2 de=>?_
   refine⟨_,rfl,.ref p,_,"tuple",false,rfl,.lst e1,yz,_,rfl,.ref q,_,"tuple",false,rfl,.lst e2,yz,rfl,_,rfl,cX ?_⟩
   refine⟨_,rfl,.ref p,_,"list",true,rfl,.lst e1,xb,_,rfl,.ref q,_,"list",true,rfl,.lst e2,xb,rfl,_,rfl,cX ?_⟩
   subst de
   dsimp only[jJ]
   refine⟨_,rfl,_,xs.length,rfl,.inl ⟨_,.of e1,rfl⟩,_,rfl,_,ys.length,rfl,.inl ⟨_,.of e2,rfl⟩,rfl,_,rfl,?_⟩
   rw[hl,show decide (V.int ((ys.length:Nat):Int)=V.int ((ys.length:Nat):Int))=true from decide_eq_true rfl]
   refine fM ?_
   refine .inl ⟨_,rfl,_,rfl,p,q,rfl,⟨_,.of e1⟩,⟨_,.of e2⟩,λC hC=>?_⟩
   refine Ot (xs:=xs) (ys:=ys) (λi σ H'=>∃v0 v1:Option V,σ=[v0,v1]/\Same H H'/\H' C=some (.lst ((AO i true).map V.bl))) hl
    ⟨none,none,?sg,Same.new hC,af⟩ (by rintro i σ H' _ ⟨_,_,_,s,_⟩;exact⟨.of (s _ _ e1),.of (s _ _ e2)⟩) ?_ ?_
   case sg=>rfl
   ·rintro i u v r σ H1 hu hv ⟨v0,v1,rfl,s1,c1⟩ hr'
    have hi:=(AD.mp hu).1
    have sp:=Same.new (o:=.tup [u,v]) hr'
    refine⟨r,_,rfl,.of af,rfl,_,_,rfl,_,_,rfl,rfl,?_⟩
    refine⟨_,rfl,_,rfl,u,v,rfl,(sub i u v hu hv).keep (s1.trans sp),λH2 s2=>?_⟩
    have s3:=(s1.trans sp).trans s2
    refine⟨_,s2 _ _ (sp _ _ c1),by rw[AA,BE];omega,_,_,rfl,s3.kbn hC KB.write,?_⟩
    rw[af,E4,AF];rfl
   rintro σ H1 ⟨v0,v1,rfl,s1,c1⟩
   refine⟨C,_,rfl,.of c1,?_⟩
   rw[Iv]
   exact k H1 s1
theorem tu{a:cb}(T:Txt K mg a):∀n:Nat,aV P w K mg base bK (n+1) a.fS a.gi ["_law_found","_law_due_here"] (qa n)
 | 0=>aV.none λvs H Q E h=>by
  obtain⟨x,y,_,h,_⟩:=h
  exact h
 | n+1=>zf T (tu T n)
def Vr(K:AE):Sp:=λvs H Q _=>∃(b:Nat) (ma na nm:Addr) (bs:List Bool) (mv:List (List Nat)) (ns:List Nat),vs=[.int b,.ref ma,.ref na]/\2<=b/\b<=4/\dy H ma nm bs mv/\Moves bs.length (b ^ ns.length) mv/\0<bs.length/\H na=some (.lst ((ai ns).map V.int))/\ns.length<=3/\(∀n∈ns,n<2 ^ 600)/\
 ∀H',Same H H'->Q (.bl (lX b bs mv ns)) H'
theorem Pe(mv:List (List Nat))(r:Nat)(xs:List Nat)(f:Nat):run mv r (xs++[f])=(mv.getD (run mv r xs) []).getD f 0:=by rw[gk];rfl
theorem Iw:∀{ns:List Nat},0<(ai ns).sum->∃n∈ns,0<n
 | [],h=>by cases h
 | n::ns,h=>by
  have h':0<(n:Int)+(ai ns).sum:=h
  rcases EM n with z | z
  ·subst z
   obtain⟨m,hm,h0⟩:=Iw (ns:=ns) (by omega)
   exact⟨m,AV _ hm,h0⟩
  ·exact⟨n,Aa,z⟩
theorem rb:∀{ns:List Nat},¬0<(ai ns).sum->∀n∈ns,n=0
 | [],_,n,hn=>by cases hn
 | m::ns,h,n,hn=>by
  have nn:∀l:List Nat,0<=(ai l).sum:=λl=>by
   induction l with
   | nil=>exact IB _
   | cons x l ih=>show 0<=(x:Int)+(ai l).sum;omega
  have h':¬0<(m:Int)+(ai ns).sum:=h
  have h1:=nn ns
  rcases Ak.mp hn with e | e
  ·omega
  ·exact rb (ns:=ns) (by omega) n e
theorem fe:aU ["_law_base","_law_machine_here","_law_numbers","_law_room","_law_left","_law_letter","_law_number"] ["_law_base","_law_machine_here","_law_numbers"] (aj gT):=⟨rfl,rfl,rfl,by decide+kernel,rfl,by decide+kernel,by decide+kernel⟩
theorem Nj{a:cb}(T:Txt K mg a):aV P w K mg base bK 1 a.nI a.pe ["_law_base","_law_machine_here","_law_numbers"] (Vr K):=by
 refine T.OD.ok fe (λvs H Q E h=>?_) (λcdv A outer s H vs Q E hr h=>?_)
 ·obtain⟨b,ma,na,nm,bs,mv,ns,rfl,_⟩:=h
  rfl
 ·obtain⟨b,ma,na,nm,bs,mv,ns,rfl,hb2,hb4,hma,cD,h0,Vs,ln,hns,k⟩:=h
  refine⟨_,(ah (av (i:=3) fe.nd rfl (AW rfl) ak)
  (ah (av (i:=4) fe.nd rfl (AW rfl) (aW (nj K) (by rfl) T.mN j0 (ae (pv 2) ag)))
  (ah (fg Af (aX pO (aF (oR K) (by rfl) T.JL xf (ae (pv 4) ag)) ak (bj _))
   (ah (av (i:=5) fe.nd rfl (AW rfl) ak)
   (ah (aY Af rfl (bM (pv 4)) (ay (i:=6) fe.nd rfl (AW rfl))
    (au (av (i:=5) fe.nd rfl (AW rfl) (aH cK (aH dr (pv 5) (pv 0)) (aH fF (pv 6) (pv 0))))))
   (ah (av (i:=3) fe.nd rfl (AW rfl) (aC (aD K) (aC (aD K) (aC (aD K) (pv 1) ak (λ_ _=>rfl)) (pv 3) (λ_ _=>rfl)) (pv 5) (λ_ _=>rfl)))
   (au (cO (i:=4) (aG.mk' (esc:=aj gT) (N:=["_law_base","_law_machine_here","_law_numbers","_law_room","_law_left","_law_letter","_law_number"]) (own:=["_law_number"]) (aI:=["_law_base"]) (bD:=[0]) rfl rfl (by decide+kernel)) rfl (bM (pv 4)) (λ_ _ _ _=>(ay (i:=0) (show BK (["_law_number","_law_base"]:List Str) by decide+kernel) rfl (AW rfl))) (λ_ _ _ _=>br) (λ_ _ _ _=>(aH iG (pv 0) (pv 1))) fe.nd rfl rfl))))))
  (au (aO (aC (aD K) (aC (aD K) (pv 1) ak (λ_ _=>rfl)) (pv 3) (λ_ _=>rfl))))))),?_⟩
  obtain⟨ya,va,ps,e1,e2,e3,tp⟩:=hma
  have big:(10000:Nat)<=sizeLine:=by decide
  have hbp:∀i,0<b ^ i:=λi=>DE (by omega)
  dsimp only[md,gM,tC,az]
  refine⟨_,rfl,na,_,rfl,.inl (.of Vs),λZ hZ=>?_⟩
  dsimp only[az]
  refine ud (λm σ H'=>∃(i:Nat) (Z:Addr) (v5 v6:Option V),m=bu b ns-i/\i<=bu b ns/\σ=[some (.int (b:Nat)),some (.ref ma),some (.ref na),some (.int (run mv 0 ((Ad i).map (gD b ns)):Nat)),some (.ref Z),v5,v6]/\Same H H'/\H' Z=some (.lst ((ai (ns.map (· / b ^ i))).map V.int)))
   ⟨_,0,Z,none,none,rfl,BI _,rfl,Same.new hZ,?st⟩ ?_ ?_
  case st=>
   rw[af]
   have:ns.map (· / b ^ 0)=ns:=by
    rw[show(λx:Nat=>x / b ^ 0)=id from funext λx=>by rw[Dh,IE];rfl,G_]
   rw[this]
  ·rintro m σ H1 ⟨i,Z,v5,v6,rfl,hi,rfl,s1,z1⟩
   have hgo:∀f∈(Ad i).map (gD b ns),f<b ^ ns.length:=λf hf=>by
    obtain⟨p,_,rfl⟩:=Ac.mp hf
    exact xY (by omega) ns p
   have hg:=cD.run h0 (w:=(Ad i).map (gD b ns)) hgo
   refine⟨_,rfl,Z,_,rfl,.of z1,_,_,rfl,rfl,_,rfl,?_⟩
   refine cI (λz=>?_) (λz=>?_)
   ·obtain⟨x,hx,x0⟩:=Iw (of_decide_eq_true z)
    obtain⟨n,hn,rfl⟩:=Ac.mp hx
    have hip:i<bu b ns:=Ab ((si hb2 i n).mpr x0) (xZ hn)
    refine⟨_,rfl,Z,rfl,⟨_,.of z1⟩,gN (xs:=(ai (ns.map (· / b ^ i))).map V.int) (λj σ H'=>∃v6:Option V,σ=[some (.int (b:Nat)),some (.ref ma),some (.ref na),some (.int (run mv 0 ((Ad i).map (gD b ns)):Nat)),some (.ref Z),some (.int (lst b 0 ((ns.take j).map λn=>n / b ^ i % b):Nat)),v6]/\H'=H1)
     ⟨v6,rfl,rfl⟩ (λj σ H' _ ⟨_,_,e⟩=>by rw[e];exact .of z1) ?_ ?_⟩
    ·rintro j x σ H2 hx ⟨v6,rfl,rfl⟩
     obtain⟨q,rfl,eq⟩:=di hx
     rw[AJ] at eq
     obtain⟨n',en',rfl⟩:=A9.mp eq
     refine⟨_,rfl,_,rfl,_,_,rfl,rfl,.inr (by constructor<;>omega),_,rfl,_,rfl,_,_,rfl,rfl,cpos (by omega),_,_,rfl,rfl,some (.int ((n' / b ^ i:Nat):Int)),?_,rfl⟩
     rw[take_snoc en',AF,A0,CH,lst_snoc]
     have ee:((lst b 0 ((ns.take j).map λn=>n / b ^ i % b):Nat):Int)*(b:Int)+((n' / b ^ i:Nat):Int) % (b:Int)=((lst b 0 ((ns.take j).map λn=>n / b ^ i % b)*b+n' / b ^ i % b:Nat):Int):=by
      rw[Cf,Bx,GV]
     rw[<-ee]
     rfl
    rintro σ H2 ⟨v6,rfl,rfl⟩
    rw[AA,aB,AA,Ay]
    have el:lst b 0 (ns.map λn=>n / b ^ i % b)=gD b ns i:=rfl
    rw[el]
    obtain⟨r1,r2,r3⟩:=cD.row (tp.keep s1.kt) hg
    have hl:gD b ns i<b ^ ns.length:=xY (by omega) ns i
    refine⟨_,rfl,ma,_,_,_,rfl,rfl,.of (s1 _ _ e1),ax (j:=2) rfl,_,rfl,va,_,_,_,rfl,rfl,.of (s1 _ _ e3),ax (by rw[AJ,r1];rfl),_,rfl,_,_,_,_,rfl,rfl,.of r2,ax (cG (by rw[r3];exact hl)),?_⟩
    have eg:(mv.getD (run mv 0 ((Ad i).map (gD b ns))) []).getD (gD b ns i) 0=run mv 0 ((Ad (i+1)).map (gD b ns)):=by
     rw[BD,AF,A0,CH,Pe]
    rw[eg]
    dsimp only[az]
    refine⟨_,rfl,Z,rfl,⟨_,.of z1⟩,λC hC=>?_⟩
    refine cR (xs:=(ai (ns.map (· / b ^ i))).map V.int) (λj σ H'=>∃v:Option V,σ=[v,some (.int (b:Nat))]/\Same H2 H'/\H' C=some (.lst ((ai ((ns.take j).map (· / b ^ (i+1)))).map V.int)))
     ⟨none,?sg,Same.new hC,af⟩ (λj σ H' _ ⟨_,_,s',_⟩=>.of (s' _ _ z1)) ?_ ?_
    case sg=>rfl
    ·rintro j x σ H3 hx ⟨v,rfl,s2,c2⟩
     obtain⟨q,rfl,eq⟩:=di hx
     rw[AJ] at eq
     obtain⟨n',en',rfl⟩:=A9.mp eq
     have hj:j<ns.length:=(AD.mp en').1
     refine⟨_,rfl,_,rfl,_,_,rfl,rfl,⟨by omega,vE (by omega)⟩,_,c2,?_,_,rfl,s2.kbn hC KB.write,?_⟩
     ·rw[AA,aB,AA,Ao];omega
     ·rw[af,take_snoc en',AF,A0,CH,aR,AF]
      have ee:((n' / b ^ i:Nat):Int) / (b:Int)=((n' / b ^ (i+1):Nat):Int):=by
       rw[<-Er,Ee,Bm]
      show some (HO.lst (_++[V.int (((n' / b ^ i:Nat):Int) / (b:Int))]))=_
      rw[ee]
      rfl
    rintro σ H3 ⟨v,rfl,s2,c2⟩
    rw[AA,aB,AA,Ay] at c2
    exact⟨_,by omega,i+1,C,_,_,rfl,hip,rfl,s1.trans s2,c2⟩
   ·have hz:=rb (λy=>z (decide_eq_true y))
    have ei:i=bu b ns:=Nat.le_antisymm hi (pH hb2 λn hn=>hz _ (Ac.mpr ⟨n,hn,rfl⟩))
    subst ei
    refine⟨_,rfl,ma,_,_,_,rfl,rfl,.of (s1 _ _ e1),ax (j:=1) rfl,_,rfl,ya,_,_,.bl (lX b bs mv ns),rfl,rfl,.of (s1 _ _ e2),ax ?_,k H1 s1⟩
    rw[AJ,item_at false hg]
    rfl
  ·rintro σ H Q Q' hQ ⟨v1,e1,a1,x1,e4,h6,i1,i2,e7,e8,b,e9,q⟩
   exact⟨v1,e1,a1,x1,e4,h6,i1,i2,e7,e8,b,e9,hQ _ _ q⟩
def eJ(es:List (Nat×Nat)):List (Key×V):=es.map λe=>(Bu (e.1:Int),V.int (e.2:Nat))
def fu:List (Nat×Nat)->Nat->Option Nat
 | [],_=>none
 | e::es,t=>if e.1=t then some e.2 else fu es t
theorem key_ne{a b:Nat}(h:¬a=b):¬((Bu (a:Int):Key)=Bu (b:Int)):=λz=>h (Int.ofNat_inj.mp (Sum.inl.inj z))
theorem iV(t:Nat):∀es:List (Nat×Nat),cw (eJ es) (Bu (t:Int))=(fu es t).map λc=>V.int (c:Nat)
 | []=>rfl
 | e::es=>by
  show cw ((Bu (e.1:Int),V.int (e.2:Nat))::eJ es) _=_
  by_cases h:e.1=t
  ·rw[fu,if_pos h,dP (by rw[h])]
   rfl
  ·rw[fu,if_neg h,cJ (key_ne h),iV t es]
theorem vL{t:Nat}:∀{es:List (Nat×Nat)},fu es t=none->t ∉ es.map (·.1)
 | [],_,h=>by cases h
 | e::es,h,z=>by
  by_cases q:e.1=t
  ·rw[fu,if_pos q] at h;cases h
  ·rw[fu,if_neg q] at h
   rcases Ak.mp z with y | y
   ·exact q y.symm
   ·exact vL h y
theorem rd:∀(n:Nat) (l:List Nat),l.Nodup->(∀x∈l,x<n)->l.length<=n
 | 0,[],_,_=>AM _
 | 0,x::l,_,h=>absurd (h x Aa) (Bw _)
 | n+1,l,nd,h=>by
  by_cases q:n∈l
  ·have h1:=rd n (l.erase n) (nd.erase n) λx hx=>by
    have h2:=(nd.mem_erase_iff).mp hx
    have:=h x h2.2
    omega
   rw[GG q] at h1
   omega
  ·have:=rd n l nd λx hx=>by
    have h1:=h x hx
    have h2:x≠n:=λz=>q (z▸hx)
    omega
   omega
section
variable{X:Cx}{tg:Expr}
def QG(d:Addr)(kvs:List (Key×V))(H:Hp)(R:It->Hp->Prop):Prop:=(H d=some (.dK kvs)/\∀o,R (qf d o kvs) (upd H d (.dC o (.dK kvs))))∨∃o,H d=some (.dC o (.dK kvs))/\R (qf d o kvs) H
def Vt(tl:TE):TI:=λσ H R=>tl σ H λx H1=>∃d kvs,x=.ref d/\QG d kvs H1 R
theorem yA{l:Expr}{tl:TE}(hl:PE X l tl):PI X tg l (Vt tl):=by
 intro pins s σ H R I h
 refine aM (hl pins s σ H _ I h) λv s1 ⟨x,H0,I0,r1,q1⟩=>?_
 obtain⟨d,kvs,e,q0⟩:=q1
 subst e
 cases r1
 obtain⟨o,H1,I1,hd,q⟩:∃o H1,Inv X pins σ H1 s1/\H1 d=some (.dC o (.dK kvs))/\R (qf d o kvs) H1:=by
  rcases q0 with⟨hd0,q0⟩ | ⟨o,hd,q⟩
  ·obtain⟨o,I1⟩:=I0.freeze hd0
   exact⟨o,_,I1,af,q0 o⟩
  ·exact⟨o,H0,I0,hd,q⟩
 obtain⟨vs,es,ep,rel,h2,da,lo⟩:=I1.frozen hd
 have hl':kvs.length=vs.length:=rel.length
 refine wpAny_pyIter_dict lo da ?_
 refine⟨s1.heap.objs.size,[s1.heap.objs.size],_,_,H1,rfl,I1.kept (t':=s1.toks) λb o e=>AG _ e,La d _ o kvs,⟨es,ep,h2,⟨_,AU _ rfl,rfl,by rw[hl'];rfl⟩⟩,λb hb=>?_,q⟩
 have e:b=s1.heap.objs.size:=by simpa using hb
 subst e
 exact I1.iE (AM _) (I1.hok.fresh (AM _))
end
def js(b k:Nat)(ns:List Nat)(i f:Nat):Nat:=lst b 0 (ins k f (ns.map λn=>n / b ^ i % b))
theorem Vu{b k:Nat}(hb:0<b){ns:List Nat}(i:Nat){f:Nat}(hf:f<b):js b k ns i f<b ^ (ns.length+1):=by
 have:=j5 (b:=b) (ds:=ins k f (ns.map λn=>n / b ^ i % b)) λd hd=>(gu.mp hd).elim (λe=>e▸hf) λh=>by
  obtain⟨n,_,rfl⟩:=Ac.mp h
  exact Dw _ hb
 rwa [fH,AA] at this
theorem Sd{b N f i j:Nat}(hb:0<b)(h:j<i):(N+f*b ^ i) / b ^ j % b=N / b ^ j % b:=by
 obtain⟨d,rfl⟩:∃d,i=j+(d+1):=⟨i-j-1,by omega⟩
 have e:f*b ^ (j+(d+1))=b ^ j*(b*(f*b ^ d)):=by rw[Nat.pow_add,Bm];ac_rfl
 rw[e,Nat.add_mul_div_left _ _ (DE hb),Nat.add_mul_mod_self_left]
theorem Pf{b N f i:Nat}(hf:f<b)(hN:N<b ^ i):(N+f*b ^ i) / b ^ i % b=f:=by
 rw[Nat.add_mul_div_right _ _ (by omega),Es hN,CN,Et hf]
theorem Se{b k N f i:Nat}(hb:0<b){ns:List Nat}(hf:f<b)(hN:N<b ^ i):wd b (ins k (N+f*b ^ i) ns) (i+1)=wd b (ins k N ns) i++[js b k ns i f]:=by
 rw[p6,p7,Pf hf hN]
 congr 1
 unfold wd
 refine Ci λj hj=>?_
 rw[p7,p7,Sd hb (A_.mp hj)]
structure Hid (n b k:Nat)(ns:List Nat)(mv:List (List Nat))(i:Nat)(es:List (Nat×Nat)):Prop where
 once:(es.map (·.1)).Nodup
 good:∀e∈es,e.1<n/\e.2<b ^ i/\run mv 0 (wd b (ins k e.2 ns) i)=e.1
theorem Hid.len{n b k:Nat}{ns:List Nat}{mv:List (List Nat)}{i:Nat}{es:List (Nat×Nat)}(h:Hid n b k ns mv i es):es.length<=n:=by
 have:=rd n (es.map (·.1)) h.once λx hx=>by
  obtain⟨e,he,rfl⟩:=Ac.mp hx
  exact(h.good e he).1
 rwa [AA] at this
theorem vM{t c:Nat}:∀{es:List (Nat×Nat)},fu es t=some c->t∈es.map (·.1)
 | [],h=>by cases h
 | e::es,h=>by
  by_cases q:e.1=t
  ·rw[A0,q];exact Aa
  ·rw[fu,if_neg q] at h
   exact AV _ (vM h)
theorem uE{e:Nat×Nat}:∀{es:List (Nat×Nat)} {i:Nat},(es.map (·.1)).Nodup->es[i]? =some e->fu es e.1=some e.2
 | [],i,_,h=>by cases h
 | a::es,0,_,h=>by
  have:a=e:=by simpa using h
  rw[this,fu,if_pos rfl]
 | a::es,i+1,nd,h=>by
  rw[A0,Bk] at nd
  have h':es[i]? =some e:=by simpa using h
  have:¬a.1=e.1:=λz=>nd.1 (by rw[z];exact Ac.mpr ⟨e,AL h',rfl⟩)
  rw[fu,if_neg this]
  exact uE nd.2 h'
theorem Hid.put{n b k:Nat}{ns:List Nat}{mv:List (List Nat)}{i:Nat}{es:List (Nat×Nat)}(h:Hid n b k ns mv i es){t c:Nat}(l:fu es t=none)(g:t<n/\c<b ^ i/\run mv 0 (wd b (ins k c ns) i)=t):Hid n b k ns mv i (es++[(t,c)]):=by
 refine⟨?_,λe he=>?_⟩
 ·rw[AF,BR]
  exact⟨h.once,by simp,λx hx y hy z=>vL l (by rw[<-show y=t from AI.mp hy,<-z];exact hx)⟩
 ·rcases AS.mp he with z | z
  ·exact h.good e z
  ·rw[AI.mp z];exact g
theorem Sf{es:List (Nat×Nat)}{t c:Nat}(l:fu es t=none):putK (eJ es) (Bu (t:Int)) (.int (c:Int))=eJ (es++[(t,c)]):=by
 rw[kq _ (by rw[iV,l];rfl)]
 unfold eJ
 rw[AF]
 simp
theorem Pg{b:Nat}{ss:List Str}{x:Str}{ns:List Nat}{mv:List (List Nat)}{r:Nat}(h:yq b ss x ns mv 0 r):r=0:=by
 obtain⟨u,_,e,rfl⟩:=h
 have:u=[]:=HM.mp e
 subst this
 rfl
theorem Ph{b:Nat}(hb:0<b){ss:List Str}{k:Nat}{x:Str}{ns:List Nat}{mv:List (List Nat)}(nd:ss.Nodup)(hx:ss[k]? =some x)(hl:ns.length+1=ss.length){i r:Nat}(h:yq b ss x ns mv (i+1) r):∃q f,yq b ss x ns mv i q/\f<b/\r=stp mv q (js b k ns i f):=by
 obtain⟨u,hu,e,rfl⟩:=h
 rw[p6] at e
 obtain⟨u',c,rfl,e1,e2⟩:∃u' c,u=u'++[c]/\u'.map (own b ss (oth ss x))=wd b ns i/\own b ss (oth ss x) c=gD b ns i:=by
  rcases Ei u with rfl | ⟨u',c,ev⟩
  ·simp at e
  ·rw[Ej] at ev
   subst ev
   rw[AF] at e
   have e2:[own b ss (oth ss x) c]=[gD b ns i]:=List.append_inj_right' e rfl
   injection e2 with e2
   exact⟨u',c,rfl,List.append_inj_left' e rfl,e2⟩
 obtain⟨f,hf,ec⟩:=qZ hb nd hx (ds:=ns.map λn=>n / b ^ i % b) (by rw[AA];exact hl) (λd hd=>by obtain⟨n,_,rfl⟩:=Ac.mp hd;exact Dw _ hb) (hu c (BP _ (AI.mpr rfl))) e2
 refine⟨_,f,⟨u',λy hy=>hu y (C8 _ hy),e1,rfl⟩,hf,?_⟩
 rw[gk,ec]
 rfl
def yB:Sp:=λvs H Q _=>∃(b k:Nat) (ma na:Addr) (ss:List Str) (x:Str) (bs:List Bool) (mv:List (List Nat)) (ns:List Nat),vs=[.int b,.ref ma,.str x,.ref na]/\2<=b/\b<=4/\Mc b H ma ss bs mv/\ss.Nodup/\ss[k]? =some x/\ns.length+1=ss.length/\ss.length<=3/\bs.length<=62/\Sw bs mv/\H na=some (.lst ((ai ns).map V.int))/\(∀n∈ns,n<2 ^ 210)/\
 (∀(N:Nat) (H':Hp),Same H H'->N<2 ^ 600->lX b bs mv (ins k N ns)=true->Q (.int (N:Nat)) H')/\∀H',Same H H'->¬pY b ss (oth ss x) (lang bs mv 0) (nP b ns)->Q .non H'
theorem Nk{es:List (Nat×Nat)}{i:Nat}{k:Key}{v:V}(h:(eJ es)[i]? =some (k,v)):∃e,es[i]? =some e/\k=Bu (e.1:Int)/\v=.int (e.2:Nat):=by
 unfold eJ at h
 rw[AJ] at h
 obtain⟨e,he,q⟩:=A9.mp h
 exact⟨e,he,(Prod.mk.inj q).1.symm,(Prod.mk.inj q).2.symm⟩
theorem yC{d:Addr}{kvs:List (Key×V)}{H:Hp}{R:It->Hp->Prop}(h:H d=some (.dK kvs)∨∃o,H d=some (.dC o (.dK kvs)))(g:∀o H',H' d=some (.dC o (.dK kvs))->KB d H H'->R (qf d o kvs) H'):QG d kvs H R:=by
 rcases h with h | ⟨o,h⟩
 ·exact .inl ⟨h,λo=>g o _ af KB.write⟩
 ·exact .inr ⟨o,h,g o H h λb p e _=>e⟩
theorem vN:∀{ns:List Nat},(∀n∈ns,n=0)->(ai ns).sum=0
 | [],_=>rfl
 | n::ns,h=>by
  have h1:n=0:=h n Aa
  have h2:=vN (ns:=ns) λm hm=>h m (AV _ hm)
  show(n:Int)+(ai ns).sum=0
  omega
theorem rf{b:Nat}(hb:2<=b)(ns:List Nat)(i:Nat):(ai (ns.map (· / b ^ i))).sum=0↔bu b ns<=i:=by
 constructor
 ·intro h
  refine pH hb λn hn=>?_
  exact rb (ns:=ns.map (· / b ^ i)) (by rw[h];decide) _ (Ac.mpr ⟨n,hn,rfl⟩)
 ·intro h
  refine vN λm hm=>?_
  obtain⟨n,hn,rfl⟩:=Ac.mp hm
  exact uy hb h n hn
theorem Nl{b i:Nat}(hb:b<=4)(hi:i<=280):b ^ i<2 ^ 600:=by
 have h1:b ^ i<=4 ^ i:=EB hb i
 have h2:4 ^ i<=4 ^ 280:=BA (by decide) hi
 have h3:(4:Nat) ^ 280=2 ^ 560:=by rw[show(4:Nat)=2 ^ 2 by decide,<-Nat.pow_mul]
 have h4:(2:Nat) ^ 560<2 ^ 600:=DF (by decide) (by decide)
 omega
theorem bA:aU ["_law_base","_law_machine_here","_law_name","_law_numbers","_law_at","_law_rooms","_law_weight","_law_left","_law_turns","_law_yes","_law_more","_law_room","_law_figure","_law_letter","_law_number"] ["_law_base","_law_machine_here","_law_name","_law_numbers"] (aj dX):=⟨rfl,rfl,rfl,by decide+kernel,rfl,by decide+kernel,by decide+kernel⟩
set_option maxHeartbeats 40000000 in
theorem zg{a:cb}(T:Txt K mg a):aV P w K mg base bK 1 a.iA a.i5 ["_law_base","_law_machine_here","_law_name","_law_numbers"] yB:=by
 refine T.JG.ok bA (λvs H Q E h=>?_) (λcdv A outer s H vs Q E hr h=>?_)
 ·obtain⟨b,k,ma,na,ss,x,bs,mv,ns,rfl,_⟩:=h
  rfl
 ·obtain⟨b,k,ma,na,ss,x,bs,mv,ns,rfl,hb2,hb4,⟨nm,⟨ya,va,ps,a1,a2,a3,tp⟩,en,cD,n0⟩,nd,hx,hl,hs3,hn,sw,Vs,hns,q1,q2⟩:=h
  refine⟨_,(ah (av (i:=4) bA.nd rfl (AW rfl) (xr EE EF EG (o4 K) (aC (aD K) (pv 1) ak (λ_ _=>rfl)) (ae (pv 2) ag)))
  (ah (av (i:=5) bA.nd rfl (CZ rfl) (zD (kr ak ak tK) rfl rfl (λz=>nomatch z) (by decide)))
  (ah (av (i:=6) bA.nd rfl (AW rfl) ak)
  (ah (av (i:=7) bA.nd rfl (AW rfl) (aW (nj K) (by rfl) T.mN j0 (ae (pv 3) ag)))
  (ah (av (i:=8) bA.nd rfl (AW rfl) ak)
  (ah (fg Af (PW.pt (rj (aX PR (pv 8) (aF (aP K) (by rfl) T.cg bI (ae (aC (aD K) (pv 1) ak (λ_ _=>rfl)) ag)) (bj _)) (oG (aX pO (aF (oR K) (by rfl) T.JL xf (ae (pv 7) ag)) ak (bj _)))))
   (ah (cM (aX ic (aF (oR K) (by rfl) T.JL xf (ae (pv 7) ag)) ak (bj _))
    (ah (cO (i:=9) (aG.mk' (esc:=aj dX) (N:=["_law_base","_law_machine_here","_law_name","_law_numbers","_law_at","_law_rooms","_law_weight","_law_left","_law_turns","_law_yes","_law_more","_law_room","_law_figure","_law_letter","_law_number"]) (own:=["_law_room"]) (aI:=["_law_rooms","_law_machine_here"]) (bD:=[5,1]) rfl rfl (by decide+kernel)) rfl (yA (pv 5)) (λ_ _ _ _=>(ay (i:=0) (show BK (["_law_room","_law_rooms","_law_machine_here"]:List Str) by decide+kernel) rfl (AW rfl))) (λ_ _ _ _=>(iF (oX K (aC (aD K) (aC (aD K) (pv 2) ak (λ_ _=>rfl)) (pv 0) (λ_ _=>rfl)) (λ_=>rfl)))) (λ_ _ _ _=>(dJ (cN hr) (pv 1) (pv 0) (λ_ _=>rfl))) bA.nd rfl rfl)
    (ah (cM (aX (K7 K hr.units) (pv 9) (bt ag) (bj _))
     (au (aO (aC (bo K) (pv 9) ak (λ_ _=>rfl))))
     bQ)
    (au (av (i:=8) bA.nd rfl (AW rfl) (aH cK (pv 8) ak)))))
    bQ)
   (ah (av (i:=10) bA.nd rfl (AW rfl) wZ)
   (ah (aY Af rfl (yA (pv 5)) (ay (i:=11) bA.nd rfl (AW rfl))
    (au (aY Af rfl (bh rfl T.bV (ae (pv 0) ag)) (ay (i:=12) bA.nd rfl (AW rfl))
     (ah (av (i:=13) bA.nd rfl (AW rfl) ak)
     (ah (aY Af rfl (bM (aH KS (aH KS (fK (nh K) (pv 7) dQ (fE (pv 4))) (bt (ae (pv 12) ag))) (fK (nh K) (pv 7) (fE (pv 4)) dQ))) (ay (i:=14) bA.nd rfl (AW rfl))
      (au (av (i:=13) bA.nd rfl (AW rfl) (aH cK (aH dr (pv 13) (pv 0)) (aH fF (pv 14) (pv 0))))))
     (au (bG (Oa (pv 10) (aC (aD K) (aC (aD K) (aC (aD K) (pv 1) ak (λ_ _=>rfl)) (pv 11) (λ_ _=>rfl)) (pv 13) (λ_ _=>rfl)) (aH cK (dJ (cN hr) (pv 5) (pv 11) (λ_ _=>rfl)) (aH dr (pv 12) (pv 6))) ⟨rfl,rfl,rfl,rfl⟩))))))))
   (ah (av (i:=5) bA.nd rfl (CZ rfl) (pv 10))
   (ah (av (i:=6) bA.nd rfl (AW rfl) (aH dr (pv 6) (pv 0)))
   (au (cO (i:=7) (aG.mk' (esc:=aj dX) (N:=["_law_base","_law_machine_here","_law_name","_law_numbers","_law_at","_law_rooms","_law_weight","_law_left","_law_turns","_law_yes","_law_more","_law_room","_law_figure","_law_letter","_law_number"]) (own:=["_law_number"]) (aI:=["_law_base"]) (bD:=[0]) rfl rfl (by decide+kernel)) rfl (bM (pv 7)) (λ_ _ _ _=>(ay (i:=0) (show BK (["_law_number","_law_base"]:List Str) by decide+kernel) rfl (AW rfl))) (λ_ _ _ _=>br) (λ_ _ _ _=>(aH iG (pv 0) (pv 1))) bA.nd rfl rfl))))))))
  (au (aO ia)))))))),?_⟩
  have big:(10000:Nat)<=sizeLine:=by decide
  have hb0:0<b:=by omega
  have hk:=(AD.mp hx).1
  have hkn:k<=ns.length:=by omega
  have lns:ns.length<=2:=by omega
  have hpl:bu b ns<=210:=vF hb2 hns
  have hfirst:∀i,i<k->ss[i]? ≠some x:=λi hi e=>by
   obtain⟨h1,e1⟩:=AD.mp e
   obtain⟨h2,e2⟩:=AD.mp hx
   have:=(D1 nd).mp (e1.trans e2.symm)
   omega
  have li:∀N,(ins k N ns).length=ss.length:=λN=>by rw[fH];exact hl
  refine aA λR hR=>?_
  refine⟨_,rfl,ma,_,_,.ref nm,rfl,rfl,.of a1,ax (j:=0) rfl,⟨nm,_,rfl,en⟩,_,rfl,nm,ss,x,k,rfl,rfl,.of en,hx,hfirst,?_⟩
  dsimp only[az]
  subst hR
  refine aA λR hR=>?_
  refine λD hD=>⟨af,[(Bu 0,.int 0)],rfl,by decide,?_⟩
  have em:jc [] [((Bu 0:Key),V.int 0)]=eJ [(0,0)]:=rfl
  rw[em]
  have sD:Same H (upd (upd H D (.dK [])) D (.dK (eJ [(0,0)]))):=(Same.new hD).kbn hD KB.write
  have d0:(upd (upd H D (.dK [])) D (.dK (eJ [(0,0)]))) D=some (.dK (eJ [(0,0)])):=af
  generalize upd (upd H D (.dK [])) D (.dK (eJ [(0,0)]))=H1 at sD d0 ⊢
  subst hR
  dsimp only[gM,az]
  refine aA λR hR=>?_
  dsimp only[gM,tC,az]
  subst hR
  refine aA λR hR=>?_
  refine⟨_,rfl,na,_,rfl,.inl (.of (sD _ _ Vs)),λZ hZ=>?_⟩
  have sZ:=Same.new (o:=.lst ((ai ns).map V.int)) hZ
  dsimp only[az]
  subst hR
  refine aA λR hR=>?_
  dsimp only[gM,tC,az]
  subst hR
  refine aA λR hR=>?_
  refine j1 (λm σ H'=>∃(i:Nat) (D Z:Addr) (es:List (Nat×Nat)) (v9 v10 v11 jq jt gx:Option V),m=bu b ns+bs.length+1-i/\i<=bu b ns+bs.length+1/\σ=[some (.int (b:Nat)),some (.ref ma),some (.str x),some (.ref na),some (.int (k:Nat)),some (.ref D),some (.int (b ^ i:Nat)),some (.ref Z),some (.int (i-bu b ns:Nat)),v9,v10,v11,jq,jt,gx]/\Same H H'/\H D=none/\H' D=some (.dK (eJ es))/\H' Z=some (.lst ((ai (ns.map (· / b ^ i))).map V.int))/\
    Hid bs.length b k ns mv i es/\(∀r,yq b ss x ns mv i r->r∈es.map (·.1))/\∀j,bu b ns<=j->j<i->∀r,yq b ss x ns mv j r->bs.getD r false=false)
   ⟨_,0,D,Z,[(0,0)],none,none,none,none,none,none,rfl,BI _,?st0,sD.trans sZ,hD,sZ _ _ d0,?zz,⟨by simp,λe he=>?_⟩,λr hr=>by rw[Pg hr];simp,λj _ hj=>absurd hj (Bw _)⟩ ?_ ?_
  case st0=>rw[Nat.zero_sub,Dh];rfl
  case zz=>
   rw[af]
   have:ns.map (· / b ^ 0)=ns:=by
    rw[show(λx:Nat=>x / b ^ 0)=id from funext λx=>by rw[Dh,IE];rfl,G_]
   rw[this]
  ·rw[AI.mp he]
   exact⟨n0,by rw[Dh];exact Nat.one_pos,rfl⟩
  ·rintro m σ H2 N hN ⟨i,D,Z,es,v9,v10,v11,jq,jt,gx,rfl,hi,rfl,s2,hD2,d2,z2,hid,cmp,past⟩
   refine MW (c:=decide (i<=bu b ns+bs.length)) (λH'=>H'=H2) (λQc hq=>?_) (λH' e=>?_)
   ·have hq:=hq H2 rfl
    refine⟨_,rfl,_,rfl,ma,_,_,.ref ya,rfl,rfl,.of (s2 _ _ a1),ax (j:=1) rfl,.ref ya,bs.length,rfl,.inr ⟨_,.of (s2 _ _ a2),by rw[AA]⟩,_,_,rfl,rfl,_,rfl,?_⟩
    refine cI (λz=>?_) (λz=>?_)
    ·have z':=of_decide_eq_true z
     rwa [show decide (i<=bu b ns+bs.length)=true from decide_eq_true (by omega)] at hq
    ·have z':¬((i-bu b ns:Nat):Int)<=(bs.length:Int):=λy=>z (decide_eq_true y)
     refine⟨_,rfl,Z,_,rfl,.of z2,_,_,rfl,rfl,_,rfl,?_⟩
     rw[show decide (i<=bu b ns+bs.length)=false from decide_eq_false (by omega)] at hq
     rw[(rf hb2 ns i).mpr (by omega)]
     exact hq
   subst e
   refine cI (λz=>?_) (λz=>?_)
   ·have hi':i<=bu b ns+bs.length:=of_decide_eq_true z
    have Yn:(eJ es).length=es.length:=by unfold eJ;rw[AA]
    have les:=hid.len
    have Ls:((ai (ns.map (· / b ^ i))).map V.int).length=ns.length:=by rw[AA,aB,AA]
    refine fP (t:=kh _ _ _) (u:=md _ _) (λσ H'=>∃v9:Option V,σ=[some (.int (b:Nat)),some (.ref ma),some (.str x),some (.ref na),some (.int (k:Nat)),some (.ref D),some (.int (b ^ i:Nat)),some (.ref Z),some (.int (i+1-bu b ns:Nat)),v9,v10,v11,jq,jt,gx]/\Same H H'/\(H' D=some (.dK (eJ es))∨∃o,H' D=some (.dC o (.dK (eJ es))))/\H' Z=some (.lst ((ai (ns.map (· / b ^ i))).map V.int))/\(bu b ns<=i->∀r,yq b ss x ns mv i r->bs.getD r false=false)) ?_ (λR rest=>?_)
    ·rintro σ H3 ⟨v9,rfl,s3,d3,z3,now⟩
     refine aA λR hR=>?_
     refine λF hF=>?_
     have Yo:=s3.free hF
     have sF:=Same.new (o:=.dK []) hF
     have Yp:D≠F:=by
      rcases d3 with d | ⟨o,d⟩
      ·exact aq d hF
      ·exact aq d hF
     dsimp only[az]
     subst hR
     refine aA λR hR=>?_
     refine⟨_,rfl,D,eJ es,rfl,yC (by rcases d3 with d | ⟨o,d⟩;exact .inl (sF _ _ d);exact .inr ⟨o,sF _ _ d⟩) λo H4 d4 Vv=>?_⟩
     have s4:Same H H4:=(s3.trans sF).kbn hD2 Vv
     have f4:H4 F=some (.dK []):=Vv _ _ af Yp.symm
     have z4:H4 Z=some (.lst ((ai (ns.map (· / b ^ i))).map V.int)):=Vv _ _ (sF _ _ z3) (by
      rcases d3 with d | ⟨o,d⟩
      ·exact gE z3 d (λz=>nomatch z)
      ·exact gE z3 d (λz=>nomatch z))
     refine LB (λj σ H'=>∃(fs:List (Nat×Nat)) (v11 jq jt gx:Option V),σ=[some (.int (b:Nat)),some (.ref ma),some (.str x),some (.ref na),some (.int (k:Nat)),some (.ref D),some (.int (b ^ i:Nat)),some (.ref Z),some (.int (i+1-bu b ns:Nat)),v9,some (.ref F),v11,jq,jt,gx]/\Same H H'/\H' D=some (.dC o (.dK (eJ es)))/\H' F=some (.dK (eJ fs))/\H' Z=some (.lst ((ai (ns.map (· / b ^ i))).map V.int))/\Hid bs.length b k ns mv (i+1) fs/\∀e∈es.take j,∀f,f<b->stp mv e.1 (js b k ns i f)∈fs.map (·.1))
      ⟨[],v11,jq,jt,gx,rfl,s4,d4,f4,z4,⟨by simp,λe he=>(by cases he)⟩,λe he=>(by cases he)⟩ (λj σ H' _ ⟨_,_,_,_,_,_,_,h,_⟩=>h) ?_ ?_
     ·rintro j kk vv σ H5 N2 lQ hkv ⟨fs,v11,jq,jt,gx,rfl,s5,d5,f5,z5,Vw,Kf⟩
      obtain⟨e,he,rfl,rfl⟩:=Nk hkv
      have heM:=AL he
      obtain⟨e1,e2,e3⟩:=hid.good e heM
      have look:=uE hid.once he
      refine⟨_,rfl,_,rfl,by omega,by omega,cP (n:=(b:Int).toNat) (λg σ H'=>∃(fs:List (Nat×Nat)) (jq jt gx:Option V),σ=[some (.int (b:Nat)),some (.ref ma),some (.str x),some (.ref na),some (.int (k:Nat)),some (.ref D),some (.int (b ^ i:Nat)),some (.ref Z),some (.int (i+1-bu b ns:Nat)),v9,some (.ref F),some (.int (e.1:Nat)),jq,jt,gx]/\Same H H'/\H' D=some (.dC o (.dK (eJ es)))/\H' F=some (.dK (eJ fs))/\H' Z=some (.lst ((ai (ns.map (· / b ^ i))).map V.int))/\Hid bs.length b k ns mv (i+1) fs/\(∀e∈es.take j,∀f,f<b->stp mv e.1 (js b k ns i f)∈fs.map (·.1))/\∀f,f<g->stp mv e.1 (js b k ns i f)∈fs.map (·.1))
       ⟨fs,jq,jt,gx,rfl,s5,d5,f5,z5,Vw,Kf,λf hf=>absurd hf (Bw _)⟩ ?_ ?_⟩
      ·rintro g σ H6 N3 Ii hg ⟨fs,jq,jt,gx,rfl,s6,d6,f6,z6,Nm,Kg,yD⟩
       rw[AY] at hg
       have eg:(0:Int)+(g:Int)=(g:Int):=Gk _
       dsimp only[az]
       refine aA λR hR=>?_
       dsimp only[gM,tC,az]
       subst hR
       refine aA λR hR=>?_
       refine⟨_,rfl,_,rfl,_,rfl,Z,_,rfl,.of z6,λA1 h1=>⟨_,rfl,by show 1<=sizeLine;decide,λA2 h2=>?_⟩⟩
       rw[Ip _ (by rw[Ls];exact hkn)] at h2 ⊢
       rw[eg]
       have t1:=Same.new (o:=.lst (((ai (ns.map (· / b ^ i))).map V.int).take k)) h1
       have t2:=Same.new (o:=.lst [.int (g:Int)]) h2
       refine⟨A1,A2,_,_,rfl,rfl,t2 _ _ af,af,?_,λA3 h3=>?_⟩
       ·rw[Ao,Ls];show min k ns.length+1<=_;omega
       have t3:=Same.new (o:=.lst (((ai (ns.map (· / b ^ i))).map V.int).take k++[.int (g:Int)])) h3
       refine⟨_,rfl,_,rfl,_,rfl,Z,_,rfl,.of (((t1.trans t2).trans t3) _ _ z6),λA4 h4=>?_⟩
       rw[pJ _ (by rw[Ls];exact hkn)]
       have t4:=Same.new (o:=.lst (((ai (ns.map (· / b ^ i))).map V.int).drop k)) h4
       refine⟨A3,A4,_,_,rfl,rfl,t4 _ _ af,af,?_,λA5 h5=>?_⟩
       ·rw[AH,Ao,CK,Ls];show min k ns.length+1+(ns.length-k)<=_;omega
       rw[<-vJ]
       have t5:=Same.new (o:=.lst ((ai (ins k g (ns.map (· / b ^ i)))).map V.int)) h5
       have tA:=(((t1.trans t2).trans t3).trans t4).trans t5
       have l5:(upd (upd (upd (upd (upd H6 A1 (.lst (((ai (ns.map (· / b ^ i))).map V.int).take k))) A2 (.lst [.int (g:Int)])) A3 (.lst (((ai (ns.map (· / b ^ i))).map V.int).take k++[.int (g:Int)]))) A4 (.lst (((ai (ns.map (· / b ^ i))).map V.int).drop k))) A5 (.lst ((ai (ins k g (ns.map (· / b ^ i)))).map V.int))) A5=some (.lst ((ai (ins k g (ns.map (· / b ^ i)))).map V.int)):=af
       generalize upd (upd (upd (upd (upd H6 A1 (.lst (((ai (ns.map (· / b ^ i))).map V.int).take k))) A2 (.lst [.int (g:Int)])) A3 (.lst (((ai (ns.map (· / b ^ i))).map V.int).take k++[.int (g:Int)]))) A4 (.lst (((ai (ns.map (· / b ^ i))).map V.int).drop k))) A5 (.lst ((ai (ins k g (ns.map (· / b ^ i)))).map V.int))=H7 at tA l5 ⊢
       refine⟨A5,rfl,⟨_,.of l5⟩,g5 (xs:=(ai (ins k g (ns.map (· / b ^ i)))).map V.int) (λt σ H'=>∃gx:Option V,σ=[some (.int (b:Nat)),some (.ref ma),some (.str x),some (.ref na),some (.int (k:Nat)),some (.ref D),some (.int (b ^ i:Nat)),some (.ref Z),some (.int (i+1-bu b ns:Nat)),v9,some (.ref F),some (.int (e.1:Nat)),some (.int (g:Int)),some (.int (lst b 0 (((ins k g (ns.map (· / b ^ i))).take t).map (· % b)):Nat)),gx]/\H'=H7)
        ⟨gx,rfl,rfl⟩ (λt σ H' _ ⟨_,_,e⟩=>by rw[e];exact .of l5) ?_ ?_⟩
       ·rintro t y σ H8 N4 hN4 hy ⟨gx,rfl,rfl⟩
        obtain⟨q,rfl,eq⟩:=di hy
        refine⟨_,rfl,_,rfl,_,_,rfl,rfl,.inr (by constructor<;>omega),_,rfl,_,rfl,_,_,rfl,rfl,cpos (by omega),_,_,rfl,rfl,hN4 _ _ ⟨some (.int (q:Int)),?_,rfl⟩⟩
        rw[take_snoc eq,AF,A0,CH,lst_snoc]
        have ee:((lst b 0 (((ins k g (ns.map (· / b ^ i))).take t).map (· % b)):Nat):Int)*(b:Int)+(q:Int) % (b:Int)=((lst b 0 (((ins k g (ns.map (· / b ^ i))).take t).map (· % b))*b+q % b:Nat):Int):=by
         rw[Cf,Bx,GV]
        rw[<-ee]
        rfl
       ·rintro σ H8 ⟨gx,rfl,rfl⟩
        subst hR
        rw[AA,aB,Ay]
        have el:lst b 0 ((ins k g (ns.map (· / b ^ i))).map (· % b))=js b k ns i g:=by
         rw[ins_map,Dc,Et hg];rfl
        rw[el]
        have hlt:js b k ns i g<b ^ ss.length:=by rw[<-hl];exact Vu hb0 i hg
        have s8:Same H H8:=s6.trans tA
        have d8:=tA _ _ d6
        have f8:=tA _ _ f6
        have z8:=tA _ _ z6
        obtain⟨r1,r2,r3⟩:=cD.row (tp.keep s8.kt) e1
        have est:(mv.getD e.1 []).getD (js b k ns i g) 0=stp mv e.1 (js b k ns i g):=rfl
        have hst:stp mv e.1 (js b k ns i g)<bs.length:=cD.stp e1 hlt
        have good:e.2+g*b ^ i<b ^ (i+1)/\run mv 0 (wd b (ins k (e.2+g*b ^ i) ns) (i+1))=stp mv e.1 (js b k ns i g):=by
         refine⟨?_,?_⟩
         ·have h1:(g+1)*b ^ i<=b*b ^ i:=E2 _ hg
          rw[IC,ID] at h1
          rw[Bm,C' (b ^ i)]
          omega
         ·rw[Se hb0 hg e2,gk,e3];rfl
        refine⟨_,rfl,F,rfl,.inl ⟨_,.inl f8⟩,_,rfl,ma,_,_,_,rfl,rfl,.of (s8 _ _ a1),ax (j:=2) rfl,_,rfl,va,_,_,_,rfl,rfl,.of (s8 _ _ a3),ax (by rw[AJ,r1];rfl),_,rfl,_,_,_,_,rfl,rfl,.of r2,ax (cG (by rw[r3];exact hlt)),?_⟩
        rw[est]
        refine⟨_,rfl,_,rfl,D,.int (e.2:Nat),rfl,.inl ⟨eJ es,Bu (e.1:Int),.inr ⟨o,d8⟩,rfl,by rw[iV,look];rfl⟩,_,rfl,_,rfl,_,_,rfl,rfl,.inl (by constructor<;>omega),_,_,rfl,rfl,eJ fs,Bu (stp mv e.1 (js b k ns i g):Int),f8,rfl,?len,λv hv=>?_,λhv=>?_⟩
        case len=>
         have:=Nm.len
         unfold eJ
         rw[AA];omega
        ·refine Ii _ _ ⟨fs,_,_,_,rfl,s8,d8,f8,z8,Nm,Kg,λf hf=>?_⟩
         by_cases y:f<g
         ·exact yD f y
         ·obtain rfl:f=g:=by omega
          rw[iV] at hv
          obtain⟨c,hc,_⟩:=A9.mp hv
          exact vM hc
        ·have hno:fu fs (stp mv e.1 (js b k ns i g))=none:=by
          rw[iV] at hv
          exact Option.map_eq_none_iff.mp hv
         have ev:(e.2:Int)+(g:Int)*((b ^ i:Nat):Int)=((e.2+g*b ^ i:Nat):Int):=by rw[Cf,Bx]
         have sub:∀t,t∈fs.map (·.1)->t∈(fs++[(stp mv e.1 (js b k ns i g),e.2+g*b ^ i)]).map (·.1):=λt ht=>by rw[AF];exact C8 _ ht
         refine Ii _ _ ⟨fs++[(stp mv e.1 (js b k ns i g),e.2+g*b ^ i)],_,_,_,rfl,s8.kbn Yo KB.write,by rw[ao Yp];exact d8,?_,by rw[ao (gE z8 f8 (λz=>nomatch z))];exact z8,Nm.put hno ⟨hst,good⟩,λe he f hf=>sub _ (Kg e he f hf),λf hf=>?_⟩
         ·rw[af]
          show some (HO.dK (putK (eJ fs) (Bu (stp mv e.1 (js b k ns i g):Int)) (.int ((e.2:Int)+(g:Int)*((b ^ i:Nat):Int)))))=_
          rw[ev,Sf hno]
         ·by_cases y:f<g
          ·exact sub _ (yD f y)
          ·obtain rfl:f=g:=by omega
           rw[AF]
           exact BP _ (AI.mpr rfl)
      ·rintro σ H6 ⟨fs,jq,jt,gx,rfl,s6,d6,f6,z6,Nm,Kg,yD⟩
       rw[AY] at yD
       refine lQ _ _ ⟨fs,_,_,_,_,rfl,s6,d6,f6,z6,Nm,λe' he' f hf=>?_⟩
       rw[take_snoc he] at he'
       rcases AS.mp he' with y | y
       ·exact Kg e' y f hf
       ·rw[AI.mp y];exact yD f hf
     ·rintro σ H5 ⟨fs,v11,jq,jt,gx,rfl,s5,d5,f5,z5,Vw,Kf⟩
      rw[Yn,Ay] at Kf
      subst hR
      dsimp only
      refine aA λR hR=>?_
      refine⟨_,rfl,?_⟩
      dsimp only[az]
      subst hR
      refine aA λR hR=>?_
      refine⟨_,rfl,_,rfl,_,_,rfl,rfl,.inr (by constructor<;>omega),?_⟩
      dsimp only[az]
      subst hR
      rw[show((b ^ i:Nat):Int)*(b:Int)=((b ^ (i+1):Nat):Int) by rw[Bm,Bx]]
      refine⟨_,rfl,Z,rfl,⟨_,.of z5⟩,λC hC=>?_⟩
      refine cR (xs:=(ai (ns.map (· / b ^ i))).map V.int) (λj σ H'=>∃v:Option V,σ=[v,some (.int (b:Nat))]/\Same H5 H'/\H' C=some (.lst ((ai ((ns.take j).map (· / b ^ (i+1)))).map V.int)))
       ⟨none,?sg,Same.new hC,af⟩ (λj σ H' _ ⟨_,_,s',_⟩=>.of (s' _ _ z5)) ?_ ?_
      case sg=>rfl
      ·rintro j y σ H6 hy ⟨v,rfl,s6,c6⟩
       obtain⟨q,rfl,eq⟩:=di hy
       rw[AJ] at eq
       obtain⟨n',en',rfl⟩:=A9.mp eq
       have hj:j<ns.length:=(AD.mp en').1
       refine⟨_,rfl,_,rfl,_,_,rfl,rfl,⟨by omega,vE (by omega)⟩,_,c6,?_,_,rfl,s6.kbn hC KB.write,?_⟩
       ·rw[AA,aB,AA,Ao];omega
       ·rw[af,take_snoc en',AF,A0,CH,aR,AF]
        have ee:((n' / b ^ i:Nat):Int) / (b:Int)=((n' / b ^ (i+1):Nat):Int):=by
         rw[<-Er,Ee,Bm]
        show some (HO.lst (_++[V.int (((n' / b ^ i:Nat):Int) / (b:Int))]))=_
        rw[ee]
        rfl
      rintro σ H6 ⟨v,rfl,s6,c6⟩
      rw[AA,aB,AA,Ay] at c6
      refine hN _ _ _ (Nat.sub_lt_sub_left (by omega) (CW i)) ⟨i+1,F,C,fs,_,_,_,_,_,_,rfl,by omega,rfl,s5.trans s6,Yo,s6 _ _ f5,c6,Vw,λr hr=>?_,λj h1 h2 r hr=>?_⟩
      ·obtain⟨q,f,hq,hf,rfl⟩:=Ph hb0 nd hx hl hr
       obtain⟨e,he,rfl⟩:=Ac.mp (cmp q hq)
       exact Kf e he f hf
      ·by_cases y:j<i
       ·exact past j h1 y r hr
       ·obtain rfl:j=i:=by omega
        exact now h1 r hr
    ·dsimp only[kh]
     refine⟨_,rfl,Z,_,rfl,.of z2,rfl,_,rfl,?_⟩
     refine cI (λz=>?_) (λz=>?_)
     ·have hpi:bu b ns<=i:=(rf hb2 ns i).mp (V.int.inj (of_decide_eq_true z))
      refine⟨_,rfl,D,eJ es,rfl,yC (.inl d2) λo H3 d3 kb3=>?_⟩
      have s3:Same H H3:=s2.kbn hD2 kb3
      have z3:H3 Z=some (.lst ((ai (ns.map (· / b ^ i))).map V.int)):=kb3 _ _ z2 (gE z2 d2 (λz=>nomatch z))
      refine λC hC=>?_
      have XN:D≠C:=aq d3 hC
      refine Lh (λj σ H'=>∃(v:Option V),σ=[v,some (.ref D),some (.ref ma)]/\Same H3 H'/\H' C=some (.lst ((ai (((es.take j).filter λe=>bs.getD e.1 false).map (·.2))).map V.int)))
       ⟨none,?sg,Same.new hC,af⟩ (λj σ H' _ ⟨_,_,s',_⟩=>s' _ _ d3) ?_ ?_
      case sg=>rfl
      ·rintro j kk vv σ H4 hkv ⟨v,rfl,s4,c4⟩
       obtain⟨e,he,rfl,rfl⟩:=Nk hkv
       obtain⟨e1,_,_⟩:=hid.good e (AL he)
       have hj:j<es.length:=(AD.mp he).1
       have lT:=s3.trans s4
       refine⟨_,rfl,ma,_,_,_,rfl,rfl,.of (lT _ _ a1),ax (j:=1) rfl,_,rfl,ya,_,_,.bl (bs.getD e.1 false),rfl,rfl,.of (lT _ _ a2),ax (by rw[AJ,item_at false e1];rfl),_,rfl,?_⟩
       refine cI (λy=>?_) (λy=>?_)
       ·refine⟨_,rfl,_,rfl,D,.int (e.2:Nat),rfl,.inl ⟨eJ es,Bu (e.1:Int),.inr ⟨o,s4 _ _ d3⟩,rfl,by rw[iV,uE hid.once he];rfl⟩,_,c4,?_,_,rfl,s4.kbn hC KB.write,?_⟩
        ·rw[AA,aB,AA]
         have:=Bh (λe:Nat×Nat=>bs.getD e.1 false) (es.take j)
         rw[Ao] at this
         omega
        ·rw[af,take_snoc he,Bd,Be,if_pos y,Cg,AF,aR,AF];rfl
       ·refine⟨_,rfl,s4,?_⟩
        rw[c4,take_snoc he,Bd,Be,if_neg y,Cg,BU]
      rintro σ H4 ⟨v,rfl,s4,c4⟩
      rw[Yn,Ay] at c4
      dsimp only[az]
      generalize hcs:(es.filter λe=>bs.getD e.1 false).map (·.2)=cs at c4
      have lT:=s3.trans s4
      refine⟨_,rfl,by decide,λEl Vg=>?_⟩
      have sE:=Same.new (o:=.lst []) Vg
      have c5:=sE _ _ c4
      refine⟨⟨.lst ((ai cs).map .int),.lst [],g_ (.of c5) (jd _),g_ (.of af) nq,rfl,rfl,?dep,_,rfl,?_⟩,.lst ((ai cs).map .int),.lst [],g_ (.of c5) (jd _),g_ (.of af) nq,.inr ⟨_,_,rfl,rfl⟩⟩
      case dep=>rw[Dt.dep,oT];decide
      have eb:(if true=true then !(Dt.lst ((ai cs).map .int)).beq (.lst []) else(Dt.lst ((ai cs).map .int)).beq (.lst []))=decide (cs≠[]):=by
       rw[if_pos rfl,Dt.beq]
       cases cs with
       | nil=>simp[Dt.eh,ai]
       | cons y ys=>simp[Dt.eh,ai]
      rw[eb]
      refine cI (λy=>?_) (λy=>?_)
      ·have hne:cs≠[]:=of_decide_eq_true y
       obtain⟨c,cs',rfl⟩:=List.exists_cons_of_ne_nil hne
       refine⟨_,rfl,C,_,_,.int (c:Nat),rfl,rfl,.of c5,ax (j:=0) rfl,?_⟩
       obtain⟨e,he,ec⟩:=Ac.mp (show c∈(es.filter λe=>bs.getD e.1 false).map (·.2) by rw[hcs];exact Aa)
       obtain⟨he1,he2⟩:=Bc.mp he
       obtain⟨e1,e2,e3⟩:=hid.good e he1
       rw[ec] at e2 e3
       have hp:bu b (ins k c ns)<=i:=pH hb2 λn hn'=>by
        rcases gu.mp hn' with z | z
        ·rw[z];exact Es e2
        ·exact uy hb2 hpi n z
       refine q1 c _ (lT.trans sE) (Cp e2 (Nl hb4 (by omega))) ?_
       rw[<-yp hb2 (by rw[li];exact cD) n0 sw hp]
       unfold lang
       rw[e3];exact he2
      ·have hem:cs=[]:=D8 λz=>y (decide_eq_true z)
       refine⟨_,rfl,_,_,rfl,rfl,rest _ _ ⟨some (.ref C),?_,lT.trans sE,.inr ⟨o,sE _ _ (s4 _ _ d3)⟩,sE _ _ (s4 _ _ z3),λ_ r hr=>?_⟩⟩
       ·rw[show((i+1-bu b ns:Nat):Int)=((i-bu b ns:Nat):Int)+1 by omega]
        rfl
       ·obtain⟨e,he,rfl⟩:=Ac.mp (cmp r hr)
        cases hbe:bs.getD e.1 false with
        | false=>rfl
        | true=>
         have:e.2∈cs:=by rw[<-hcs];exact Ac.mpr ⟨e,Bc.mpr ⟨he,hbe⟩,rfl⟩
         rw[hem] at this
         cases this
     ·have hpi:¬bu b ns<=i:=λy=>z (decide_eq_true (by rw[(rf hb2 ns i).mpr y]))
      refine rest _ _ ⟨v9,?_,s2,.inl d2,z2,λy=>absurd y hpi⟩
      rw[show i+1-bu b ns=i-bu b ns by omega]
   ·have hi':¬i<=bu b ns+bs.length:=λy=>z (decide_eq_true y)
    subst hR
    exact q2 H' s2 (R5 hb2 cD n0 λj h1 h2 r hr=>past j h1 (by omega) r hr)
  ·rintro σ H Q Q' hQ ⟨v,e1,v2,e2,a1,xs,j,v3,e3,e4,e5,e6,y,n,e7,e8,i1,i2,e9,e10,c,K2,q⟩
   refine⟨v,e1,v2,e2,a1,xs,j,v3,e3,e4,e5,e6,y,n,e7,e8,i1,i2,e9,e10,c,K2,?_⟩
   revert q
   cases c with
   | true=>exact λq=>hQ _ _ q
   | false=>
    rintro⟨v1,e1,a1,x1,e4,h6,i1,i2,e7,e8,b,e9,q⟩
    exact⟨v1,e1,a1,x1,e4,h6,i1,i2,e7,e8,b,e9,hQ _ _ q⟩
def wD(K:AE)(ts:List Addr):Sp:=λvs H Q _=>∃(a:Addr) (ns:List Int),vs=[.ref a]/\bC K H a (ns.map V.int)/\ns.length<=63/\pS ts H/\∀H',Q (.bl true) H'
theorem aZ.tb{a:cb}{H H':Hp}{F L:Addr}(t:TB a H)(f:aZ H F L)(k:cm F L H H'):TB a H':=by
 obtain⟨ms,n,sd,e1,e2,_⟩:=f.ex
 have one:∀{T:Addr} {M:List (Pos×Str)},Tab H T M->Tab H' T M:=λ{T M} x=>by
  obtain⟨ps,h1,h2,h3⟩:=x
  refine⟨ps,k _ _ h1 (λz=>by rw[z,e1] at h1;cases h1) (λz=>by rw[z,e2] at h1;cases h1),h2,λp hp=>?_⟩
  rcases h3 p hp with z | ⟨c,z1,z2⟩
  ·exact .inl z
  ·exact .inr ⟨c,z1,k _ _ z2 (λz=>by rw[z,e1] at z2;cases z2) λz=>by rw[z,e2] at z2;cases z2⟩
 exact⟨one t.sg,one t.du⟩
theorem aZ.kx{a:cb}{H H':Hp}{F L:Addr}(f:aZ H F L)(k:KX a H H'):aZ H' F L:=by
 obtain⟨ms,n,sd,e1,e2,h⟩:=f.ex
 exact⟨ms,n,sd,k _ _ e1 (λ_ z=>nomatch z),k _ _ e2 (λ_ z=>nomatch z),h⟩
theorem fresh_ne{H:Hp}{R b:Addr}{o:HO}(h:∀o,H R=some o->∃qs,o=.fw qs)(e:H b=some o)(hn:∀qs,o≠.fw qs):R≠b:=λz=>by
 rw[<-z] at e
 obtain⟨qs,y⟩:=h o e
 exact hn qs y
theorem yE{H:Hp}{n:Nat}{p q:Addr}{α:Type}(f:α->V)(l:List α)(hf:∀x,Lf (f x) (f x))(e1:H p=some (.tup (l.map f)))(e2:H q=some (.tup (l.map f)))(hl:l.length<=3000):Tr H (n+2) (.ref p) (.ref q):=
 .inr ⟨p,q,_,_,rfl,rfl,.inl ⟨e1,e2⟩,rfl,by rw[AA];exact hl,λi u v hu hv=>.inl (by
  rw[hu] at hv
  cases hv
  obtain⟨x,_,rfl⟩:=Ac.mp (AL hu)
  exact hf x)⟩
theorem Sg{H:Hp}{p q:Addr}{ps qs:List Addr}{mv:List (List Nat)}(e1:H p=some (.tup (ps.map V.ref)))(e2:H q=some (.tup (qs.map V.ref)))(t1:cx H ps (mv.map ai))(t2:cx H qs (mv.map ai))(hl:mv.length<=3000)(hr:∀l∈mv,l.length<=3000):Tr H 3 (.ref p) (.ref q):=by
 have l1:ps.length=mv.length:=by rw[As t1,AA]
 have l2:qs.length=mv.length:=by rw[As t2,AA]
 refine .inr ⟨p,q,_,_,rfl,rfl,.inl ⟨e1,e2⟩,by rw[AA,AA,l1,l2],by rw[AA,l1];exact hl,λi u v hu hv=>?_⟩
 obtain⟨a,rfl,ea⟩:=mO hu
 obtain⟨b,rfl,eb⟩:=mO hv
 obtain⟨r,er,h1⟩:=t1.get ea
 obtain⟨r',Yq,h2⟩:=t2.get eb
 rw[er] at Yq
 cases Yq
 refine yE V.int r (λx=>.inl ⟨x,rfl,rfl⟩) h1 h2 ?_
 obtain⟨l,hl',rfl⟩:=Ac.mp (AL er)
 rw[aB];exact hr l hl'
theorem Iy{H:Hp}{m t n1 n2 y1 y2 v1 v2:Addr}{ps qs:List Addr}{us:List Str}{bs:List Bool}{mv:List (List Nat)}(e1:H m=some (.tup [.ref n1,.ref y1,.ref v1]))(e2:H t=some (.tup [.ref n2,.ref y2,.ref v2]))(a1:H n1=some (.tup (us.map V.str)))(a2:H n2=some (.tup (us.map V.str)))
  (b1:H y1=some (.tup (bs.map V.bl))) (b2:H y2=some (.tup (bs.map V.bl))) (c1:H v1=some (.tup (ps.map V.ref))) (c2:H v2=some (.tup (qs.map V.ref))) (t1:cx H ps (mv.map ai)) (t2:cx H qs (mv.map ai)) (lu:us.length<=3000) (lb:bs.length<=3000) (hl:mv.length<=3000) (hr:∀l∈mv,l.length<=3000):Tr H 4 (.ref m) (.ref t):=by
 refine .inr ⟨m,t,_,_,rfl,rfl,.inl ⟨e1,e2⟩,rfl,by show 3<=3000;decide,λi u v hu hv=>?_⟩
 match i,hu,hv with
 | 0,hu,hv=>cases hu;cases hv;exact yE V.str us (λx=>.inr (.inr ⟨x,rfl,rfl⟩)) a1 a2 lu
 | 1,hu,hv=>cases hu;cases hv;exact yE V.bl bs (λx=>.inr (.inl ⟨x,rfl,rfl⟩)) b1 b2 lb
 | 2,hu,hv=>cases hu;cases hv;exact Sg c1 c2 t1 t2 hl hr
def vO:Option Nat->V
 | some N=>.int (N:Nat)
 | none=>.non
def Nn:Sp:=λvs H Q _=>∃(b k:Nat) (ma na:Addr) (ss:List Str) (x:Str) (bs:List Bool) (mv:List (List Nat)) (ns:List Nat),vs=[.int b,.ref ma,.str x,.ref na]/\2<=b/\b<=4/\Mc b H ma ss bs mv/\ss.Nodup/\ss[k]? =some x/\ns.length+1=ss.length/\ss.length<=3/\bs.length<=62/\Sw bs mv/\H na=some (.lst ((ai ns).map V.int))/\(∀n∈ns,n<2 ^ 210)/\
 ∀(o:Option Nat) (H':Hp),Same H H'->(∀N,o=some N->N<2 ^ 600/\lX b bs mv (ins k N ns)=true)->(o=none->¬pY b ss (oth ss x) (lang bs mv 0) (nP b ns))->Q (vO o) H'
theorem ZI{P:Az}{w:World}{K:AE}{mg:Str->Option Value}{base:Heap}{k:Nat}{f:Addr}{fd:BC}{ps:List Str}(F:aV P w K mg base bK k f fd ps yB):aV P w K mg base bK k f fd ps Nn:=F.imp λvs H Q E h=>by
 obtain⟨b,k,ma,na,ss,x,bs,mv,ns,e,h1,h2,h3,h4,h5,h6,h7,h8,h9,h10,h11,q⟩:=h
 exact⟨b,k,ma,na,ss,x,bs,mv,ns,e,h1,h2,h3,h4,h5,h6,h7,h8,h9,h10,h11,λN H' s hN hm=>q (some N) H' s (λM e=>by cases e;exact⟨hN,hm⟩) λe=>(by cases e),λH' s no=>q none H' s (λM e=>by cases e) λ_=>no⟩
def Num(F L:Addr)(H:Hp)(m:Nat)(p:Addr):Prop:=p≠F/\p≠L/\∃l:List Nat,H p=some (.lst ((ai l).map V.int))/\l.length=m/\∀n∈l,n<2 ^ 210
theorem Kh{K:AE}{te:TE}{rt:St}{C nm F L:Addr}{os:List Str}{σ:St}{H:Hp}{R:Hp->Prop}(hσ:σ=none::rt)(hte:∀v H Q,aZ H F L->(∀(r:Nat) (H':Hp),r<2 ^ 210->cm F L H H'->aZ H' F L->Q (.int (r:Nat)) H')->te (v::rt) H Q)(hC:H C=none)(f:aZ H F L)(en:H nm=some (.tup (os.map V.str)))(hos:os.length<=10)
  (k:∀(H':Hp),cm F L H H'->aZ H' F L->Num F L H' os.length C->R H'):iX (uR K nm) (az 0) P0 te C σ (upd H C (.lst [])) R:=by
 have nC:=f.sJ hC
 have big:(10000:Nat)<=sizeLine:=by decide
 refine fi (xs:=os.map V.str) (λj σ H'=>∃(rs:List Nat) (v:Option V),σ=v::rt/\cm F L H H'/\aZ H' F L/\H' C=some (.lst ((ai rs).map V.int))/\rs.length=j/\∀n∈rs,n<2 ^ 210)
  ⟨[],none,hσ,(Same.new hC).kb2,f.same (Same.new hC),af,rfl,λn hn=>(by cases hn)⟩ (λj σ H' _ ⟨_,_,_,k',_⟩=>.of (f.ktu k' _ _ en)) ?_ ?_
 ·rintro j x σ H9 hx ⟨rs,v,rfl,k9,f9,c9,lr,hrs⟩
  have hj:j<os.length:=by have:=(AD.mp hx).1;rwa [AA] at this
  show te (some x::rt) H9 _
  refine hte _ _ _ f9 λq Hx q1 kx fx=>?_
  refine⟨_,kx _ _ c9 nC.1 nC.2,?_,rs++[q],_,rfl,cm.nV (k9.trans kx) hC,fx.upd nC,?_,by rw[AH,lr];rfl,λn hn=>?_⟩
  ·rw[AA,aB];omega
  ·rw[af,aR,AF];rfl
  ·rcases AS.mp hn with z | z
   ·exact hrs n z
   ·rw[AI.mp z];exact q1
 rintro σ H9 ⟨rs,v,rfl,k9,f9,c9,lr,hrs⟩
 rw[AA] at lr
 exact k H9 k9 f9 ⟨nC.1,nC.2,rs,c9,lr,hrs⟩
structure Vx (b:Nat)(ss:List Str)(x:Str)(bs:List Bool)(mv:List (List Nat)):Prop where
 sw:Sw bs mv
 few:bs.length<=62
 sets:∃bd,(∀l:List (List Nat),l.Nodup->(∀S∈l,∃w,bX (b ^ (oth ss x).length) w/\S=dH (pC mv bs.length (bJ b ss (oth ss x))) [0] w)->l.length<=bd)/\bd<=2000
theorem Np{b:Nat}{ss:List Str}{x:Str}{bs:List Bool}{mv:List (List Nat)}(sw:Sw bs mv)(n0:0<bs.length)(h:bs.length<=6):Vx b ss x bs mv:=by
 refine⟨sw,by omega,2 ^ bs.length,λl nd hl=>?_,?_⟩
 ·exact RQ nd λz hz=>by
   obtain⟨w,hw,rfl⟩:=hl z hz
   exact uo (B:=0) (jj n0)
 ·have:(2:Nat) ^ bs.length<=2 ^ 6:=BA (by decide) h
  omega
theorem Nq{b:Nat}(hb:2<=b){ss:List Str}{k:Nat}{x:Str}(nd:ss.Nodup)(hx:ss[k]? =some x){f M:Nat}{cs:Nat->Nat}{mv:List (List Nat)}(c:jo f M (b ^ ss.length) cs mv)(hf:f<3)(hM:8<=M)(vI:M<=61)(hc:∀r,r<M-1->∃g,g<b/\cs r=g*b ^ (ss.length-1-k))(h2:cs (M-2)≠0):Vx b ss x (cbs M) mv:=by
 have hc':∀r,r<M-1->cs r<b ^ ss.length/\own b ss (oth ss x) (cs r)=0:=λr hr=>by
  obtain⟨g,hg,e⟩:=hc r hr
  rw[e]
  exact Nh hb nd hx hg
 refine⟨c.sw hM (DE (by omega)) (λr hr=>(hc' r hr).1) h2,by rw[j7];omega,2*(M+1),λl M7 hl=>?_,by omega⟩
 exact Nf hb nd hx c hf hM hc' (Pb hb nd hx) (R' hb nd hx) M7 hl
theorem W8{n:Nat}(h:n<2 ^ 210):n<2 ^ 600:=Cp h (DF (by decide) (by decide))
structure LS (a:cb)(F L pl nm ma C t N Yy va:Addr)(vs:List V)(ps:List Addr)(pool ss os:List Str)(bs ys:List Bool)(mv xs mv':List (List Nat))(H:Hp):Prop where
 tb:TB a H
 fd:aZ H F L
 po:H pl=some (.tup (pool.map V.str))
 en:H nm=some (.tup (ss.map V.str))
 em:dy H ma nm bs mv
 ec:H C=some (.lst vs)
 rp:fV qN H vs xs
 et:H t=some (.tup [.ref N,.ref Yy,.ref va])
 eN:H N=some (.tup (os.map V.str))
 eY:H Yy=some (.tup (ys.map V.bl))
 ev:H va=some (.tup (ps.map V.ref))
 tp:cx H ps (mv'.map ai)
section
variable{a:cb}{F L pl nm ma C t N Yy va:Addr}{vs:List V}{ps:List Addr}{pool ss os:List Str}{bs ys:List Bool}{mv xs mv':List (List Nat)}{H H':Hp}
theorem LS.all(s:LS a F L pl nm ma C t N Yy va vs ps pool ss os bs ys mv xs mv' H)(tb:TB a H')(fd:aZ H' F L)(kt:bF H H')(ec:H' C=some (.lst vs)):LS a F L pl nm ma C t N Yy va vs ps pool ss os bs ys mv xs mv' H':=
 ⟨tb,fd,kt _ _ s.po,kt _ _ s.en,s.em.keep kt,ec,s.rp.keep kt,kt _ _ s.et,kt _ _ s.eN,kt _ _ s.eY,kt _ _ s.ev,s.tp.keep kt⟩
theorem LS.kx(s:LS a F L pl nm ma C t N Yy va vs ps pool ss os bs ys mv xs mv' H)(k:KX a H H')(tb:TB a H'):LS a F L pl nm ma C t N Yy va vs ps pool ss os bs ys mv xs mv' H':=s.all tb (s.fd.kx k) k.kt (k _ _ s.ec λ_ y=>nomatch y)
theorem LS.same(s:LS a F L pl nm ma C t N Yy va vs ps pool ss os bs ys mv xs mv' H)(k:Same H H'):LS a F L pl nm ma C t N Yy va vs ps pool ss os bs ys mv xs mv' H':=s.kx (KX.same k) (s.tb.same k)
theorem LS.kb2(s:LS a F L pl nm ma C t N Yy va vs ps pool ss os bs ys mv xs mv' H)(k:cm F L H H')(f:aZ H' F L)(nC:C≠F/\C≠L):LS a F L pl nm ma C t N Yy va vs ps pool ss os bs ys mv xs mv' H':=s.all (aZ.tb s.tb s.fd k) f (s.fd.ktu k) (k _ _ s.ec nC.1 nC.2)
end
theorem Sw.nb{B:Nat}{bs:List Bool}{mv:List (List Nat)}(s:Sw bs mv)(m:Moves bs.length B mv)(hB:0<B):Sw (nb bs) mv:=λr hr=>by
 rw[AA] at hr
 rw[qX _ _ (m.stp hr hB),qX _ _ hr,s r hr]
theorem dB:aU ["_law_script","_law_feed_here","_law_pool","_law_names_here","_law_base","_law_machine_here","_law_fellow","_law_yes","_law_spot","_law_name","_law_came","_law_some","_law_due_here","_law_turn","_law_numbers"] ["_law_script"] (aj gF):=⟨rfl,rfl,rfl,by decide+kernel,rfl,by decide+kernel,by decide+kernel⟩
set_option maxHeartbeats 32000000 in
theorem Vy{a:cb}(T:Txt K mg a)(hB:fj mg base):aV P w K mg base bK 7 a.Jx a.LO ["_law_script"] (wD K [a.cW,a.iP]):=by
 have Pj:=Mm (P:=P) (w:=w) (base:=base) T
 have bw:=jg (P:=P) (w:=w) (base:=base) T
 have Nr:=JV (P:=P) (w:=w) (base:=base) T
 have Nt:=JO (P:=P) (w:=w) (base:=base) T
 have pE:=y_ (P:=P) (w:=w) (base:=base) T
 have jX:=y8 (P:=P) (w:=w) (base:=base) T
 have qx:=yh (P:=P) (w:=w) (base:=base) T
 have Nu:=Kd (P:=P) (w:=w) (base:=base) T
 have jr:aV P w K mg base bK 5 a.fS a.gi ["_law_found","_law_due_here"] (qa 4):=tu T 4
 have Sh:=Pa (P:=P) (w:=w) (base:=base) T hB
 have Pk:=Nj (P:=P) (w:=w) (base:=base) T
 have Ki:aV P w K mg base bK 1 a.iA a.i5 ["_law_base","_law_machine_here","_law_name","_law_numbers"] Nn:=ZI (zg T)
 have lY:=J0 (P:=P) (w:=w) (base:=base) T hB
 have Vz:∀t:Tok,Vals [V.int 2000] [EN 2000 t]:=λt=>.cons ⟨t,rfl⟩ .nil
 obtain⟨td2,tE⟩:=T.LX
 refine T.WV.ok dB (λvs H Q E h=>?_) (λcdv A outer s H vs Q E hr h=>?_)
 ·obtain⟨sa,ns,rfl,_⟩:=h
  rfl
 ·obtain⟨sa,ns,rfl,hS,hns,hO,q⟩:=h
  have Nv:aQ 1 _:=hr.mono (by decide)
  have bf:aQ 1 _:=hr.mono (by decide)
  have nX:aQ 1 _:=hr.mono (by decide)
  have i9:aQ 1 _:=hr.mono (by decide)
  have Nw:aQ 1 _:=hr.mono (by decide)
  have zh:aQ 1 _:=hr.mono (by decide)
  have Kj:aQ 2 _:=hr.mono (by decide)
  have Kk:aQ 2 _:=hr.mono (by decide)
  have pK:aQ 2 _:=hr.mono (by decide)
  have Kl:aQ 2 _:=hr.mono (by decide)
  have iD:aQ 5 _:=hr.mono (by decide)
  have Pl:aQ 3 _:=hr.mono (by decide)
  have jY:aQ 6 _:=hr
  refine⟨_,(ah (av (i:=1) dB.nd rfl (CZ rfl) (aE Pj Nv rfl T.Oz T.OA T.OB .nil aN (ae (pv 0) ag)))
  (ah (av (i:=2) dB.nd rfl (AW rfl) (aE Nr Kj rfl T.L4 T.L5 T.L6 .nil aN (ae (pv 1) (ae (aH cK ak (aE bw bf rfl T.bS T.bT T.bU .nil aN (ae (pv 1) (ae ak ag)))) ag))))
  (ah (av (i:=3) dB.nd rfl (AW rfl) (fK (tU K) (pv 2) (fE ak) dQ))
  (ah (av (i:=4) dB.nd rfl (AW rfl) (aH cK ak (aE bw bf rfl T.bS T.bT T.bU .nil aN (ae (pv 1) (ae (aC (bo K) (bt (ae ak (ae ak ag))) (aH iG (aF (aP K) (by rfl) T.cg bI (ae (pv 3) ag)) ak) (λ_ _=>rfl)) ag)))))
  (ah (av (i:=5) dB.nd rfl (CZ rfl) (aE qx pK rfl T.qk T.ql T.qm .nil aN (ae (pv 1) (ae (pv 4) (ae (pv 3) (ae ak ag))))))
  (ah (cM (aX ic (aE bw bf rfl T.bS T.bT T.bU .nil aN (ae (pv 1) (ae ak ag))) ak (bj _))
   (ah (av (i:=6) dB.nd rfl (CZ rfl) (aE qx pK rfl T.qk T.ql T.qm .nil aN (ae (pv 1) (ae (pv 4) (ae (pv 3) (ae ak ag))))))
   (ah (av (i:=7) dB.nd rfl (CZ rfl) (ck (aG.mk' (esc:=aj gF) (N:=["_law_script","_law_feed_here","_law_pool","_law_names_here","_law_base","_law_machine_here","_law_fellow","_law_yes","_law_spot","_law_name","_law_came","_law_some","_law_due_here","_law_turn","_law_numbers"]) (own:=["_law_room"]) (aI:=["_law_machine_here","_law_fellow"]) (bD:=[5,6]) rfl rfl (by decide+kernel)) rfl (bh rfl T.bV (ae (aF (aP K) (by rfl) T.cg bI (ae (aC (aD K) (pv 5) ak (λ_ _=>rfl)) ag)) ag)) (λ_ _ _ _=>(ay (i:=0) (show BK (["_law_room","_law_machine_here","_law_fellow"]:List Str) by decide+kernel) rfl (AW rfl))) (λ_ _ _ _=>br) (λ_ _ _ _=>(Ws (f_ (oS K) ak (cB (ae (pv 0) (ae (aC (aD K) (aC (aD K) (pv 2) ak (λ_ _=>rfl)) ak (λ_ _=>rfl)) ag))) (by with_unfolding_all rfl)) (Kv (aC (aD K) (aC (aD K) (pv 1) ak (λ_ _=>rfl)) (pv 0) (λ_ _=>rfl)))))))
   (au (av (i:=5) dB.nd rfl (CZ rfl) (cB (ae (pv 3) (ae (aW (a_ K) (by rfl) T.bW bB (ae (ck (aG.mk' (esc:=aj gF) (N:=["_law_script","_law_feed_here","_law_pool","_law_names_here","_law_base","_law_machine_here","_law_fellow","_law_yes","_law_spot","_law_name","_law_came","_law_some","_law_due_here","_law_turn","_law_numbers"]) (own:=["_law_room"]) (aI:=["_law_yes"]) (bD:=[7]) rfl rfl (by decide+kernel)) rfl (bM (aE pE nX rfl T.vA T.vB T.vC .nil aN (ae (aC (aD K) (pv 5) ak (λ_ _=>rfl)) ag))) (λ_ _ _ _=>(ay (i:=0) (show BK (["_law_room","_law_yes"]:List Str) by decide+kernel) rfl (AW rfl))) (λ_ _ _ _=>br) (λ_ _ _ _=>(aC (bo K) (pv 1) (pv 0) (λ_ _=>rfl)))) ag)) (ae (aC (aD K) (pv 5) ak (λ_ _=>rfl)) ag))))))))
   bQ)
  (ah (av (i:=8) dB.nd rfl (AW rfl) (aE bw bf rfl T.bS T.bT T.bU .nil aN (ae (pv 1) (ae (aF (aP K) (by rfl) T.cg bI (ae (pv 3) ag)) ag))))
  (ah (cM (aX ic (aE bw bf rfl T.bS T.bT T.bU .nil aN (ae (pv 1) (ae ak ag))) ak (bj _))
   (au (av (i:=5) dB.nd rfl (CZ rfl) (aE jX i9 rfl T.jT T.jU T.jV .nil aN (ae (aE Nu Kl rfl T.Mi T.Mj T.Mk .nil aN (ae (pv 1) (ae (pv 4) (ae (pv 3) (ae (pv 8) ag))))) ag))))
   bQ)
  (ah (av (i:=9) dB.nd rfl (AW rfl) (aC (aD K) (pv 3) (pv 8) (λ_ _=>rfl)))
  (ah (rl (aE Sh Pl rfl T.RI T.RJ T.RK .nil aN (ae (pv 4) (ae (aE jX i9 rfl T.jT T.jU T.jV .nil aN (ae (pv 5) ag)) (ae (pv 9) ag)))) (oH rfl (dD (ay (i:=10) dB.nd rfl (AW rfl)) (dD (ay (i:=11) dB.nd rfl (AW rfl)) jZ))))
  (ah (av (i:=12) dB.nd rfl (AW rfl) (aE jX i9 rfl T.jT T.jU T.jV .nil aN (ae (pv 11) ag)))
  (ah (cM (wK (fJ (aE jr iD rfl T.lK T.lL T.lM .nil aN (ae (aE lY jY rfl T.lI T.lJ tE (Vz _) aN (ae (pv 4) (ae (pv 5) (ae (pv 9) ag)))) (ae (pv 12) ag))) (λ_=>rfl)))
   (au (aO kU))
   bQ)
  (ah (cM (wK (fJ (aE jr iD rfl T.lK T.lL T.lM .nil aN (ae (aE lY jY rfl T.lI T.lJ T.vy .nil aN (ae (pv 4) (ae (pv 5) (ae (pv 9) (ae (aF (aP K) (by rfl) T.cg bI (ae (pv 10) ag)) ag))))) (ae (pv 12) ag))) (λ_=>rfl)))
   (au (aO kU))
   bQ)
  (ah (cM (aX Q4 (aE lY jY rfl T.lI T.lJ T.vy .nil aN (ae (pv 4) (ae (pv 5) (ae (pv 9) (ae (aH ki (aF (aP K) (by rfl) T.cg bI (ae (pv 10) ag)) ak) ag))))) ia (bj _))
   (au (aO kU))
   bQ)
  (ah (aY Af rfl (bh rfl T.bV (ae ak ag)) (ay (i:=13) dB.nd rfl (CZ rfl))
   (ah (cO (i:=14) (aG.mk' (esc:=aj gF) (N:=["_law_script","_law_feed_here","_law_pool","_law_names_here","_law_base","_law_machine_here","_law_fellow","_law_yes","_law_spot","_law_name","_law_came","_law_some","_law_due_here","_law_turn","_law_numbers"]) (own:=["_law_one"]) (aI:=["_law_turn","_law_feed_here"]) (bD:=[13,1]) rfl rfl (by decide+kernel)) rfl (dN (aC (aD K) (pv 12) ak (λ_ _=>rfl))) (λ_ _ _ _=>(ay (i:=0) (show BK (["_law_one","_law_turn","_law_feed_here"]:List Str) by decide+kernel) rfl (AW rfl))) (λ_ _ _ _=>br) (λ_ _ _ _=>(aC (bo K) (bt (ae (aE bw bf rfl T.bS T.bT T.bU .nil aN (ae (pv 2) (ae ak ag))) (ae (aE bw bf rfl T.bS T.bT T.bU .nil aN (ae (pv 2) (ae (aH rn ak ak) ag))) (ae (aE Nt Kk rfl T.L8 T.L9 T.Ma .nil aN (ae (pv 2) ag)) ag)))) (pv 1) (λ_ _=>rfl))) dB.nd rfl rfl)
   (au (cM (aX jL (aE Pk Nw rfl T.OE T.OG T.OH .nil aN (ae (pv 4) (ae (pv 12) (ae (pv 14) ag)))) (f_ wM (aE Ki zh rfl T.JH T.JI T.JJ .nil aN (ae (pv 4) (ae (aE jX i9 rfl T.jT T.jU T.jV .nil aN (ae (pv 5) ag)) (ae (pv 9) (ae (pv 14) ag))))) ia (bj _)) (bj _))
    (au (aO kU))
    bQ))))
  (au (aO (aE jr iD rfl T.lK T.lL T.lM .nil aN (ae (aE lY jY rfl T.lI T.lJ tE (Vz _) aN (ae (pv 4) (ae (pv 5) (ae (aC (aD K) (pv 2) ak (λ_ _=>rfl)) ag)))) (ae (pv 5) ag)))))))))))))))))))),?_⟩
  have big:(10000:Nat)<=sizeLine:=by decide
  have yi:(2 ^ 10:Nat)<2 ^ 1000:=DF (by decide) (by decide)
  have small:∀x:Nat,x<=1000->x<2 ^ 1000:=λx hx=>Cp (show x<2 ^ 10 by omega) yi
  have p9:(10 ^ 9:Nat)<2 ^ 1000:=Ab (show(10 ^ 9:Nat)<2 ^ 30 by decide) (BA (by decide) (by decide))
  have b9:∀x:Nat,x<10 ^ 9->x<2 ^ 210:=λx hx=>Cp hx (by decide)
  have b60:∀x:Nat,x<10 ^ 60->x<2 ^ 210:=λx hx=>Cp hx (by decide)
  have Yr:TB a H:=⟨hO.tab (by simp),hO.tab (by simp)⟩
  refine aA λR hR=>?_
  refine⟨_,rfl,sa,ns,rfl,hS,hns,λF L H1 hF hL s1 f1=>?_⟩
  have Yt:=Yr.same s1
  dsimp only[az]
  subst hR
  refine aA λR hR=>?_
  refine⟨_,rfl,_,rfl,F,L,3,rfl,f1,by decide,small _ (by decide),λr H2 r1 k2 f2=>⟨_,_,rfl,rfl,F,L,2+r,by rw[show((2+r:Nat):Int)=2+(r:Int) by omega];rfl,f2,by omega,λpl pool H3 hpl k3 f3 Iz QH nok Qu=>?_⟩⟩
  have qu:=aZ.tb (aZ.tb Yt f1 k2) f2 k3
  have Yu:=nok.once
  dsimp only[az]
  subst hR
  refine aA λR hR=>?_
  obtain⟨x0,ss,rfl⟩:∃x0 ss,pool=x0::ss:=by
   cases pool with
   | nil=>rw[Dk] at QH;omega
   | cons x l=>exact⟨x,l,rfl⟩
  have nd:ss.Nodup:=(Bk.mp Yu).2
  have xno:x0 ∉ ss:=(Bk.mp Yu).1
  rw[A'] at QH
  refine⟨_,rfl,_,rfl,uA (yt Iz λnm H7 s7 e7=>?_)⟩
  rw[show fL ((x0::ss).map V.str) (some 1) none=ss.map V.str from pJ (n:=1) _ (by rw[AA,A'];omega)] at e7
  have f7:=f3.same s7
  have QA:=qu.same s7
  have VA:=s7 _ _ Iz
  dsimp only[az]
  subst hR
  refine aA λR hR=>?_
  obtain⟨d,hd,hd0,hd3⟩:∃d:Nat,jb ([.int 3,.int 1]:List V) ((ss.length:Int) / 3)=some (.int (d:Nat))/\0<d/\d<=3:=by
   have:(ss.length:Int) / 3=0∨(ss.length:Int) / 3=1:=by omega
   rcases this with e | e
   ·rw[e];exact⟨3,rfl,by decide,by decide⟩
   ·rw[e];exact⟨1,rfl,by decide,by decide⟩
  refine⟨_,rfl,by show 2<=sizeLine;decide,λZ hZ=>?_⟩
  have sZ:=Same.new (o:=.lst [.int 3,.int 1]) hZ
  refine⟨_,rfl,_,ss.length,rfl,.inr ⟨_,.of (sZ _ _ e7),by rw[AA]⟩,_,_,rfl,rfl,⟨by decide,by decide⟩,Z,_,_,_,rfl,rfl,.of af,hd,F,L,d,rfl,f7.same sZ,hd0,small _ (by omega),λr' H8 r1' k8 f8=>⟨_,_,rfl,rfl,?_⟩⟩
  have Yv:=aZ.tb (QA.same sZ) (f7.same sZ) k8
  have pz:=(f7.same sZ).ktu k8
  have Pm:=pz _ _ (sZ _ _ e7)
  have VB:=pz _ _ (sZ _ _ VA)
  have eb:(2:Int)+(r':Int)=((2+r':Nat):Int):=by omega
  dsimp only[az]
  subst hR
  refine aA λR hR=>?_
  rw[eb]
  generalize hbb:2+r'=b
  have hb2:2<=b:=by omega
  have hb4:b<=4:=by omega
  have yj:0<b ^ ss.length:=DE (by omega)
  clear e7 VA f7 QA hd
  refine⟨_,rfl,_,rfl,_,rfl,F,L,nm,b,6,ss,rfl,f8,hb2,hb4,Pm,by omega,by decide,by decide,λma bs mv H9 hma k9 f9 em cD h0 Ny hst=>?_⟩
  have Nz:=aZ.tb Yv f8 k9
  have rg:=f8.ktu k9 _ _ Pm
  have uF:=f8.ktu k9 _ _ VB
  dsimp only[az]
  subst hR
  refine fP (t:=kh _ _ _) (u:=md _ _) (λσ H'=>∃(ma:Addr) (bs:List Bool) (mv:List (List Nat)) (v6 v7:Option V),σ=[some (.ref sa),some (.ref F),some (.ref pl),some (.ref nm),some (.int (b:Nat)),some (.ref ma),v6,v7,none,none,none,none,none,none,none]/\TB a H'/\aZ H' F L/\H' pl=some (.tup ((x0::ss).map V.str))/\H' nm=some (.tup (ss.map V.str))/\dy H' ma nm bs mv/\Moves bs.length (b ^ ss.length) mv/\0<bs.length/\bs.length<=6/\Sw bs mv) ?_ (λR rest=>?_)
  rotate_left
  ·dsimp only[kh]
   refine⟨_,rfl,F,L,2,rfl,f9,by decide,small _ (by decide),λr2 xa r21 k10 kS=>⟨rfl,_,rfl,?_⟩⟩
   have uG:=aZ.tb Nz f9 k10
   have yF:=f9.ktu k10
   have lZ:=yF _ _ rg
   refine cI (λ_=>?_) (λ_=>rest _ _ ⟨ma,bs,mv,none,none,rfl,uG,kS,yF _ _ uF,lZ,em.keep yF,cD,h0,Ny,hst⟩)
   refine⟨_,rfl,_,rfl,_,rfl,F,L,nm,b,6,ss,rfl,kS,hb2,hb4,lZ,by omega,by decide,by decide,λme bs2 mv2 P4 hme k11 f11 em2 af1 h02 af2 hst2=>?_⟩
   have mB:=yF.trans (kS.ktu k11)
   obtain⟨ya,va,ps,e1,e2,e3,tp⟩:=em.keep mB
   obtain⟨y2,v2,ps2,g1,g2,g3,sO⟩:=em2
   have W9:=mB _ _ rg
   have Xa:=mB _ _ uF
   have Km:=aZ.tb uG kS k11
   obtain⟨c0,hc0⟩:∃c,bs2[0]? =some c:=⟨_,Ag h02⟩
   clear lZ uG yF k11 kS k10
   dsimp only[az]
   refine⟨_,rfl,ma,_,_,.ref ya,rfl,rfl,.of e1,ax (j:=1) rfl,.ref ya,bs.length,rfl,.inr ⟨_,.of e2,by rw[AA]⟩,_,rfl,by omega,by omega,λC hC=>?_⟩
   refine fh (λj σ H'=>∃(ys:List Bool) (v:Option V),σ=[v,some (.ref ma),some (.ref me)]/\Same P4 H'/\H' C=some (.lst (ys.map V.bl))/\ys.length=j)
    ⟨[],none,?sg,Same.new hC,af,rfl⟩ ?_ ?_
   case sg=>rfl
   ·rintro j σ IL hj ⟨ys,v,rfl,s12,c12,ly⟩
    rw[AY] at hj
    obtain⟨y,hy⟩:∃y,bs[j]? =some y:=⟨_,Ag hj⟩
    refine⟨_,rfl,_,rfl,me,_,_,.ref y2,rfl,rfl,.of (s12 _ _ g1),ax (j:=1) rfl,y2,_,_,.bl c0,rfl,rfl,.of (s12 _ _ g2),ax (j:=0) (by rw[AJ,hc0];rfl),by show 2<=sizeLine;decide,λZ1 Yw=>?_⟩
    have VC:=s12.trans (Same.new (o:=.tup [.int (0+(j:Int)),.bl c0]) Yw)
    have cZ1:(upd IL Z1 (.tup [.int (0+(j:Int)),.bl c0])) C=some (.lst (ys.map V.bl)):=by rw[ao (aq c12 Yw)];exact c12
    refine⟨Z1,_,rfl,.inr (.of af),rfl,rfl,_,rfl,?_⟩
    have fin:∀z:Bool,(upd IL Z1 (.tup [.int (0+(j:Int)),.bl c0])) C=some (.lst (ys.map V.bl))/\(ys.map V.bl).length<sizeLine/\Same P4 (upd (upd IL Z1 (.tup [.int (0+(j:Int)),.bl c0])) C (.lst (ys.map V.bl++[.bl z])))/\(upd (upd IL Z1 (.tup [.int (0+(j:Int)),.bl c0])) C (.lst (ys.map V.bl++[.bl z]))) C=some (.lst ((ys++[z]).map V.bl))/\(ys++[z]).length=j+1:=λz=>
     ⟨cZ1,by rw[AA];omega,VC.kbn hC KB.write,by rw[af,AF];rfl,by rw[AH,ly];rfl⟩
    refine cI (λ_=>?_) (λ_=>?_)
    ·obtain⟨q1,q2,q3,q4,q5⟩:=fin true
     exact⟨_,q1,q2,_,_,rfl,q3,q4,q5⟩
    ·obtain⟨q1,q2,q3,q4,q5⟩:=fin y
     refine⟨_,rfl,ma,_,_,.ref ya,rfl,rfl,.of (VC _ _ e1),ax (j:=1) rfl,_,rfl,ya,_,_,.bl y,rfl,rfl,.of (VC _ _ e2),?_,_,q1,q2,_,_,rfl,q3,q4,q5⟩
     rw[Gk]
     exact ax (by rw[AJ,hy];rfl)
   rintro σ IL ⟨ys,v,rfl,s12,c12,ly⟩
   rw[AY] at ly
   dsimp only[az]
   refine⟨_,rfl,_,rfl,ma,_,_,.ref va,rfl,rfl,.of (s12 _ _ e1),ax (j:=2) rfl,va,ps,bs.length,b ^ ss.length,mv,rfl,s12 _ _ e3,tp.keep s12.kt,cD,yj,by omega,λR1 rs Yx Yj qq r13 lr hrs hst'=>?_⟩
   have c13:=qq _ _ c12
   refine⟨R1,rfl,⟨_,.of r13⟩,λC1 Qh=>?_⟩
   refine cR (xs:=(ai rs).map V.int) (λj σ H'=>∃(cs:List Bool) (v:Option V),σ=[v,some (.ref C)]/\Same Yx H'/\H' C1=some (.lst (cs.map V.bl))/\cs.length=j/\cs=(rs.take j).map λr=>ys.getD r false)
    ⟨[],none,?sg2,Same.new Qh,af,rfl,rfl⟩ (λj σ H' _ ⟨_,_,_,s',_⟩=>.of (s' _ _ r13)) ?_ ?_
   case sg2=>rfl
   ·rintro j x σ H5 hx ⟨cs,v,rfl,s5,c5,lc,sQ⟩
    obtain⟨q,rfl,eq⟩:=di hx
    have hq:=hrs q (AL eq)
    have hj:j<rs.length:=(AD.mp eq).1
    obtain⟨y,ey⟩:∃y,ys[q]? =some y:=⟨_,Ag (by omega)⟩
    refine⟨_,rfl,_,rfl,C,_,_,.bl y,rfl,rfl,.of (s5 _ _ c13),ax (by rw[AJ,ey];rfl),_,c5,?_,cs++[y],_,rfl,s5.kbn Qh KB.write,?_,by rw[AH,lc];rfl,?_⟩
    ·rw[AA];omega
    ·rw[af,AF];rfl
    ·rw[take_snoc eq,AF,<-sQ]
     show cs++[y]=cs++[ys.getD q false]
     rw[AQ,ey];rfl
   rintro σ H5 ⟨cs,v,rfl,s5,c5,lc,sQ⟩
   rw[AA,aB,lr] at lc
   rw[AA,aB,Ay] at sQ
   have M_:∀r,r<bs.length->cs.getD r false=ys.getD (rs.getD r 0) false:=λr hr=>by
    rw[sQ,AQ,AJ,item_at 0 (by omega:r<rs.length)];rfl
   refine⟨C1,_,rfl,.inl ⟨.of c5,λD hD=>?_⟩⟩
   have sD:=Same.new (o:=.tup (cs.map V.bl)) hD
   have Yz:=((s12.trans qq).trans s5).trans sD
   refine⟨_,rfl,ma,_,_,.ref va,rfl,rfl,.of (Yz _ _ e1),ax (j:=2) rfl,by show 3<=sizeLine;decide,λmb hmb=>?_⟩
   have sm:=Same.new (o:=.tup [.ref nm,.ref D,.ref va]) hmb
   have IM:=Yz.trans sm
   refine rest _ _ ⟨mb,cs,mv,_,_,rfl,Km.same IM,f11.same IM,IM _ _ Xa,IM _ _ W9,⟨D,va,ps,af,sm _ _ af,IM _ _ e3,tp.keep IM.kt⟩,by rw[lc];exact cD,by omega,by omega,λr hr=>?_⟩
   rw[lc] at hr
   rw[M_ _ (cD.stp hr yj),M_ _ hr,hst' r hr]
  clear em cD h0 Ny hst hma Yr Yt qu Yv Nz f1 f2 f3 f8 f9 k2 k3 k8 k9 Pm rg Iz VB uF s1 hF hL hpl pz sZ hZ s7 ma bs mv
  rintro σ H9 ⟨ma,bs,mv,v6,v7,rfl,Nz,f9,uF,rg,em,cD,h0,Ny,hst⟩
  refine aA λR hR=>?_
  refine⟨_,rfl,_,rfl,.ref nm,ss.length,rfl,.inr ⟨_,.of rg,by rw[AA]⟩,F,L,ss.length,rfl,f9,by omega,small _ (by omega),λk xa hk k10 kS=>?_⟩
  have uG:=aZ.tb Nz f9 k10
  have lZ:=f9.ktu k10 _ _ rg
  have Kn:=f9.ktu k10 _ _ uF
  have VD:=em.keep (f9.ktu k10)
  dsimp only[az]
  subst hR
  obtain⟨x,hx⟩:∃x,ss[k]? =some x:=⟨_,Ag hk⟩
  refine fP (t:=kh _ _ _) (u:=md _ _) (λσ H'=>∃(ma:Addr) (bs:List Bool) (mv:List (List Nat)),σ=[some (.ref sa),some (.ref F),some (.ref pl),some (.ref nm),some (.int (b:Nat)),some (.ref ma),v6,v7,some (.int (k:Nat)),none,none,none,none,none,none]/\TB a H'/\aZ H' F L/\H' pl=some (.tup ((x0::ss).map V.str))/\H' nm=some (.tup (ss.map V.str))/\dy H' ma nm bs mv/\Moves bs.length (b ^ ss.length) mv/\0<bs.length/\Vx b ss x (nb bs) mv) ?_ (λR rest=>?_)
  rotate_left
  ·dsimp only[kh]
   refine⟨_,rfl,F,L,3,rfl,kS,by decide,small _ (by decide),λr7 P4 r71 k11 f11=>⟨rfl,_,rfl,?_⟩⟩
   have Km:=aZ.tb uG kS k11
   have mB:=kS.ktu k11
   refine cI (λ_=>?_) (λ_=>rest _ _ ⟨ma,bs,mv,rfl,Km,f11,mB _ _ Kn,mB _ _ lZ,VD.keep mB,cD,h0,Np (Sw.nb hst cD yj) (by rw[AA];exact h0) (by rw[AA];exact Ny)⟩)
   refine⟨_,rfl,_,rfl,_,rfl,_,rfl,F,L,nm,b,k,ss,rfl,f11,hb2,hb4,mB _ _ lZ,hk,by omega,λma2 f M cs mv2 IL k12 IP ZJ ch Ml M8 QC hcs hc2=>⟨ma2,nm,cbs M,mv2,rfl,ZJ,by rw[j7];omega,λp Yx qq m13=>?_⟩⟩
   have VE:=f11.ktu k12
   exact rest _ _ ⟨p,nb (cbs M),mv2,rfl,(aZ.tb Km f11 k12).same qq,IP.same qq,qq _ _ (VE _ _ (mB _ _ Kn)),qq _ _ (VE _ _ (mB _ _ lZ)),m13,by rw[AA,j7];exact ch.moves M8,by rw[AA,j7];omega,by rw[Qw];exact Nq hb2 nd hx ch Ml M8 QC hcs hc2⟩
  clear em VD cD h0 Ny hst Nz uG f9 kS k10 rg lZ uF Kn ma bs mv
  rintro σ H1' ⟨ma,bs,mv,rfl,tb,fd,Iz,jH,em,cD,n0,fit⟩
  obtain⟨bd,few,hbd⟩:=fit.sets
  have lnb:(nb bs).length=bs.length:=AA _
  have QI:=fit.few
  have Ko:bs.length<=62:=by omega
  have Kp:Moves (nb bs).length (b ^ ss.length) mv:=by rw[lnb];exact cD
  have QJ:0<(nb bs).length:=by omega
  refine aA λR hR=>?_
  refine⟨_,rfl,_,rfl,nm,_,_,.str x,rfl,rfl,.of jH,ax (by rw[AJ,hx];rfl),?_⟩
  dsimp only[az]
  subst hR
  refine aA λR hR=>?_
  refine⟨_,rfl,_,rfl,ma,nm,bs,mv,rfl,em,by omega,λq1 J1 NA YA=>?_⟩
  refine⟨_,rfl,b,k,q1,ss,x,nb bs,mv,bd,rfl,hb2,hb4,⟨nm,YA,NA _ _ jH,Kp,QJ⟩,nd,hx,by omega,QI,tb.same NA,few,hbd,λpd C t0 N Yy va vs ps xs mv' H2' k2 tb2 hC epd et eN eY ev tp eC rp hl hlx gr=>?_⟩
  refine⟨pd,_,rfl,.of epd,rfl,_,_,rfl,_,_,rfl,rfl,?_⟩
  have nC:C≠F/\C≠L:=by
   obtain⟨ms,n,sd,z1,z2,_⟩:=(fd.same NA).ex
   exact⟨fresh_ne hC z1 (λ_ y=>nomatch y),fresh_ne hC z2 (λ_ y=>nomatch y)⟩
  dsimp only[az]
  subst hR
  refine aA λR hR=>?_
  refine⟨_,rfl,t0,N,_,mv',rfl,⟨Yy,va,ps,et,eY,ev,tp⟩,by rw[AA];omega,λt YB s3 m3=>?_⟩
  obtain⟨Y2,NB,ps2,YC,YD,ev2,sO⟩:=m3
  have kx:KX a H1' YB:=(KX.same NA).trans (k2.trans (KX.same s3))
  have NC:LS a F L pl nm ma C t N Y2 NB vs ps2 (x0::ss) ss (oth ss x) bs (nb (xs.map (jC b ss x (nb bs) mv))) mv xs mv' YB:=⟨tb2.same s3,fd.kx kx,kx.kt _ _ Iz,kx.kt _ _ jH,em.keep kx.kt,s3 _ _ eC,rp.keep s3.kt,YC,s3 _ _ eN,YD,ev2,sO⟩
  have lx0:0<xs.length:=MH gr
  have x6:vs.length=xs.length:=As rp
  have Pn:=gr.cD hl
  have ho:=pV ss x
  have hB4:b ^ (oth ss x).length<=256:=cL hb4 (by omega)
  have ZK:∀l∈mv',l.length<=3000:=λl hl=>by rw[(Pn.lead l hl).1];omega
  have Xb:∀l∈mv,l.length<=3000:=λl hl=>by rw[(cD.lead l hl).1];have:=cL hb4 (show ss.length<=4 by omega);omega
  have VF:x∈ss:=AL hx
  have tooMany:∀{ys:List (List Nat)} {m:Nat},xs.length<=m->ys.Nodup->pF b ss x (nb bs) mv ys->m<ys.length->False:=λ{ys m} h1 h2 h3 h4=>by
   have:=Kc gr hl h2 h3
   omega
  have uniq:∀{ys mw:List (List Nat)},cp [0] (tf b ss x (nb bs) mv) (b ^ (oth ss x).length) ys mw->mw.length=ys.length->mw=mv'/\ys=xs:=λ{ys mw} g h=>Kb g h gr hl
  have YE:(nb (xs.map (jC b ss x (nb bs) mv))).length=xs.length:=by rw[AA,AA]
  have ZL:(xs.map (jC b ss x (nb bs) mv)).length=xs.length:=by rw[AA]
  have told:∀w,bX (b ^ (oth ss x).length) w->(lang (xs.map (jC b ss x (nb bs) mv)) mv' 0 w=true↔pY b ss (oth ss x) (lang (nb bs) mv 0) w):=λw hw=>by
   rw[JP gr hl hw]
   exact W4 (by omega) Kp QJ (λr hr=>uv hr) hw
  generalize VG:nb (xs.map (jC b ss x (nb bs) mv))=Ys at NC YE
  have Kq:∀{H':Hp},LS a F L pl nm ma C t N Y2 NB vs ps2 (x0::ss) ss (oth ss x) bs Ys mv xs mv' H'->Mc b H' ma ss bs mv:=λs=>⟨nm,s.em,s.en,cD,n0⟩
  have ND:∀{H':Hp} {p n:Addr},LS a F L pl nm ma C t N Y2 NB vs ps2 (x0::ss) ss (oth ss x) bs Ys mv xs mv' H'->dy H' p n Ys mv'->H' n=some (.tup ((oth ss x).map V.str))->Tr H' 4 (.ref p) (.ref t):=λ{H' p n} s gw en'=>by
   obtain⟨y',v',ps',e1,e2,e3,e4⟩:=gw
   exact Iy e1 s.et en' s.eN e2 s.eY e3 s.ev e4 s.tp (by omega) (by omega) (by omega) ZK
  clear em jH Iz tb fd few hC et eN eY ev tp eC rp k2 tb2 YC YD ev2 sO s3 kx epd YA NA
  dsimp only[az]
  subst hR
  refine aA λR hR=>?_
  refine⟨_,rfl,_,rfl,_,rfl,b,2000,ma,ss,x,bs,mv,rfl,hb2,hb4,Kq NC,by omega,Ko,by decide,NC.tb,.inr ⟨VF,λzs H5 k5 sI VH VI VJ=>(tooMany (by omega) VH VI VJ).elim,λp n zs mz H5 k5 sI gw IQ QK VL QL=>?_⟩⟩
  obtain⟨e1,e2⟩:=uniq QL QK
  subst e1 e2
  rw[VG] at gw
  have mT:=NC.kx k5 sI
  refine⟨_,rfl,_,_,rfl,ND mT gw IQ,λH6 s6=>⟨true,rfl,cX ?_⟩⟩
  have lj:=mT.same s6
  dsimp only[jJ]
  subst hR
  refine aA λR hR=>?_
  clear NC mT k5 sI gw IQ s6 QL VL QK
  refine⟨_,rfl,_,rfl,_,rfl,_,rfl,_,vs.length,rfl,.inl ⟨_,.of lj.ec,rfl⟩,b,vs.length,ma,ss,x,bs,mv,rfl,hb2,hb4,Kq lj,by omega,Ko,by omega,lj.tb,.inr ⟨VF,λzs J3 k3 qu nd3 rc3 lt3=>(tooMany (by omega) nd3 rc3 lt3).elim,λp n zs mz J3 k3 qu gw IQ hl3 af3 YF=>?_⟩⟩
  obtain⟨e1,e2⟩:=uniq YF hl3
  subst e1 e2
  rw[VG] at gw
  have VM:=lj.kx k3 qu
  refine⟨_,rfl,_,_,rfl,ND VM gw IQ,λJ4 s4=>⟨true,rfl,cX ?_⟩⟩
  have NF:=VM.same s4
  dsimp only[jJ]
  subst hR
  have el1:((vs.length:Nat):Int)-1=((vs.length-1:Nat):Int):=by omega
  refine aA λR hR=>?_
  refine⟨_,rfl,_,rfl,_,rfl,_,rfl,_,vs.length,rfl,.inl ⟨_,.of NF.ec,rfl⟩,_,_,rfl,rfl,b,vs.length-1,ma,ss,x,bs,mv,by dsimp only;rw[el1];rfl,hb2,hb4,Kq NF,by omega,Ko,by omega,NF.tb,.inr ⟨VF,λws5 J5 k5 sI VH VI VJ=>?_,λp n ws5 mz J5 k5 sI gw IQ QK VL QL=>?_⟩⟩
  rotate_left
  ·obtain⟨e1,e2⟩:=uniq QL QK
   subst e1 e2
   omega
  have lj5:=NF.kx k5 sI
  refine⟨rfl,_,rfl,cX ?_⟩
  dsimp only[jJ]
  subst hR
  clear lj VM NF k3 qu gw IQ s4 YF k5 sI VH VI VJ
  refine aA λR hR=>?_
  refine⟨_,rfl,by decide,by decide,cP (n:=3) (λi σ H'=>∃jt gx:Option V,σ=[some (.ref sa),some (.ref F),some (.ref pl),some (.ref nm),some (.int (b:Nat)),some (.ref ma),v6,v7,some (.int (k:Nat)),some (.str x),some (.ref C),some (.ref t0),some (.ref t),jt,gx]/\LS a F L pl nm ma C t N Y2 NB vs ps2 (x0::ss) ss (oth ss x) bs Ys mv zs mz H')
   ⟨none,none,rfl,lj5⟩ ?_ ?_⟩
  ·rintro i σ H19 Nx hNx hi ⟨jt,gx,rfl,lj⟩
   refine aA λR2 Vf=>?_
   dsimp only[az]
   refine⟨_,rfl,t,_,_,.ref N,rfl,rfl,.of lj.et,ax (j:=0) rfl,N,rfl,⟨_,.of lj.eN⟩,λCn hCn=>?_⟩
   refine Kh (F:=F) (L:=L) (rt:=[some (.int (0+(i:Int))),some (.ref F)]) ?U9 (λv H Q f g=>⟨_,rfl,F,L,9,rfl,f,by decide,small _ (by decide),λr1 Ha q1 ka fa=>⟨_,rfl,_,_,rfl,rfl,⟨by decide,by decide,by decide⟩,F,L,10 ^ 9,rfl,fa,by decide,p9,λr2 Hb q2 kb fb=>⟨_,rfl,F,L,rfl,fb,λr3 Hc q3 kc fc=>?_⟩⟩⟩) hCn lj.fd lj.eN (by omega) λH20 k20 IT N20=>?_
   case U9=>rfl
   ·refine⟨by show 3<=sizeLine;decide,λZl hZl=>?_⟩
    have sl:=Same.new (o:=.lst [.int (r1:Nat),.int (r2:Nat),.int (r3:Nat)]) hZl
    obtain⟨rr,er,hrr⟩:∃rr:Nat,jb ([.int (r1:Nat),.int (r2:Nat),.int (r3:Nat)]:List V) (0+(i:Int))=some (.int (rr:Nat))/\rr<2 ^ 210:=by
     rw[Gk]
     match i,hi with
     | 0,_=>exact⟨r1,rfl,b9 r1 (by omega)⟩
     | 1,_=>exact⟨r2,rfl,b9 r2 q2⟩
     | 2,_=>exact⟨r3,rfl,b60 r3 q3⟩
    exact⟨_,rfl,Zl,_,_,_,rfl,rfl,.of af,er,g rr _ hrr (((ka.trans kb).trans kc).trans sl.kb2) (fc.same sl)⟩
   dsimp only[az]
   subst Vf
   obtain⟨nF,nL,l,el,ll,QM⟩:=N20
   have rh:=lj.kb2 k20 IT nC
   have hll:l.length+1=ss.length:=by
    rw[ll,p_ nd hx];exact pZ hk
   have Xc:∀n∈l,n<2 ^ 600:=λn hn=>W8 (QM n hn)
   refine⟨_,rfl,_,rfl,_,rfl,b,t,Cn,N,Ys,mz,l,rfl,hb2,hb4,⟨Y2,NB,ps2,rh.et,rh.eY,rh.ev,rh.tp⟩,by rw[ll,YE];exact Pn,by omega,el,by omega,Xc,λH21 YG=>?_⟩
   refine⟨_,rfl,_,rfl,ma,nm,bs,mv,rfl,rh.em.keep YG.kt,by omega,λq1 H22 s22 m22=>?_⟩
   have s2:=YG.trans s22
   refine⟨_,rfl,_,rfl,b,k,q1,Cn,ss,x,nb bs,mv,l,rfl,hb2,hb4,⟨nm,m22,s2 _ _ rh.en,Kp,QJ⟩,nd,hx,hll,by omega,QI,fit.sw,s2 _ _ el,QM,λo H23 s23 hsm hno=>?_⟩
   have lw:bX (b ^ (oth ss x).length) (nP b l):=by rw[<-ll];exact ux (by omega) l _
   have ZM:lX b Ys mz l= !lang (zs.map (jC b ss x (nb bs) mv)) mz 0 (nP b l):=by
    rw[<-VG]
    exact O0 (by rw[ZL];exact Pn) (by omega) lw
   have key:lX b Ys mz l=decide (vO o=V.non):=by
    rw[ZM]
    cases o with
    | none=>
     rw[show decide (vO none=V.non)=true from decide_eq_true rfl,DA]
     cases hm:lang (zs.map (jC b ss x (nb bs) mv)) mz 0 (nP b l) with
     | false=>rfl
     | true=>exact absurd ((told _ lw).mp hm) (hno rfl)
    | some M=>
     rw[show decide (vO (some M)=V.non)=false from decide_eq_false (λz=>nomatch z),Bool.not_eq_false']
     exact(told _ lw).mpr (O7 hb2 nd hx hll Kp QJ fit.sw (hsm M rfl).2)
   refine⟨rfl,rfl,_,rfl,?_⟩
   refine cI (λz=>?_) (λ_=>hNx _ _ ⟨_,_,rfl,rh.same (s2.trans s23)⟩)
   rw[key] at z
   simp at z
  ·rintro σ H19 ⟨jt,gx,rfl,lj⟩
   subst hR
   refine⟨_,rfl,_,rfl,_,rfl,pl,_,_,.str x0,rfl,rfl,.of lj.po,ax (j:=0) rfl,b,2000,ma,ss,x0,bs,mv,rfl,hb2,hb4,Kq lj,by omega,Ko,by decide,lj.tb,.inl ⟨xno,λp n J6 k6 tb6 m6 en6=>?_⟩⟩
   have YH:=lj.kx k6 tb6
   obtain⟨y',v',ps',e1,e2,e3,e4⟩:=YH.em
   obtain⟨y3,v3,ps3,h1,h2,h3,h4⟩:=m6
   exact⟨_,rfl,_,_,rfl,Iy h1 e1 en6 YH.en h2 e2 h3 e3 h4 e4 (by omega) (by omega) (by rw[cD.len];omega) Xb,λJ7 s7=>q J7⟩
@[elab_as_elim] theorem qg {P:List Value->Prop} (us:List Value) (e:us.length=1) (h:∀a,P [a]):P us:=by
 cases us with
 | nil=>cases e
 | cons a us=>cases us with
  | nil=>exact h a
  | cons _ _=>cases e
@[elab_as_elim] theorem ln2 {P:List Value->Prop} (us:List Value) (e:us.length=2) (h:∀a0 a1,P [a0,a1]):P us:=by
 cases us with
 | nil=>cases e
 | cons a us=>exact qg (P:=λz=>P (a::z)) us (D5 e) (h a)
@[elab_as_elim] theorem qy {P:List Value->Prop} (us:List Value) (e:us.length=3) (h:∀a0 a1 a2,P [a0,a1,a2]):P us:=by
 cases us with
 | nil=>cases e
 | cons a us=>exact ln2 (P:=λz=>P (a::z)) us (D5 e) (h a)
@[elab_as_elim] theorem tF {P:List Value->Prop} (us:List Value) (e:us.length=4) (h:∀a0 a1 a2 a3,P [a0,a1,a2,a3]):P us:=by
 cases us with
 | nil=>cases e
 | cons a us=>exact qy (P:=λz=>P (a::z)) us (D5 e) (h a)
@[elab_as_elim] theorem YI {P:List Value->Prop} (us:List Value) (e:us.length=5) (h:∀a0 a1 a2 a3 a4,P [a0,a1,a2,a3,a4]):P us:=by
 cases us with
 | nil=>cases e
 | cons a us=>exact tF (P:=λz=>P (a::z)) us (D5 e) (h a)
@[elab_as_elim] theorem ln6 {P:List Value->Prop} (us:List Value) (e:us.length=6) (h:∀a0 a1 a2 a3 a4 a5,P [a0,a1,a2,a3,a4,a5]):P us:=by
 cases us with
 | nil=>cases e
 | cons a us=>exact YI (P:=λz=>P (a::z)) us (D5 e) (h a)
theorem all_mk{l:Gn}{w:World}{K:AE}{h:Heap}{mg:Str->Option Value}{fa:Addr}(X:K.In h)(G:h.Ns Ah mg)(hfa:mg "law"=some (.ref fa))
  {f0:Addr} {od0 an0:Option Addr} {sl0:Array (Option Value)} {oc0 kV0 dc0 pm0 ct0:Value} {YJ:Value}
  {f1:Addr} {od1 VN:Option Addr} {sl1:Array (Option Value)} {oc1 VO VP VQ VR:Value} {NG:Addr}
  {IU dn1:Nat} {ZN:Value} {ZO:Option Addr} {VS:Tok} {ZP:Array (Option Value)}
  {f2:Addr} {od2 an2:Option Addr} {sl2:Array (Option Value)} {oc2 kV2 dc2 pm2 ct2:Value} {YK:Value}
  {f3:Addr} {od3 an3:Option Addr} {sl3:Array (Option Value)} {oc3 kV3 dc3 pm3 ct3:Value} {YL:Value}
  {f4:Addr} {od4 an4:Option Addr} {sl4:Array (Option Value)} {oc4 kV4 dc4 pm4 ct4:Value} {YM:Value}
  {f5:Addr} {od5 an5:Option Addr} {sl5:Array (Option Value)} {oc5 kV5 dc5 pm5 ct5:Value} {YN:Value}
  {f6:Addr} {od6 an6:Option Addr} {sl6:Array (Option Value)} {oc6 kV6 dc6 pm6 ct6:Value} {YO:Value}
  {f7:Addr} {od7 an7:Option Addr} {sl7:Array (Option Value)} {oc7 kV7 dc7 pm7 ct7:Value} {YQ:Value}
  {f8:Addr} {od8 an8:Option Addr} {sl8:Array (Option Value)} {oc8 kV8 dc8 pm8 ct8:Value} {YR:Value}
  {f9:Addr} {od9 an9:Option Addr} {sl9:Array (Option Value)} {oc9 kV9 dc9 pm9 ct9:Value} {YS:Value}
  {kS:Addr} {ZQ VT:Option Addr} {ZR:Array (Option Value)} {ZS VU VW VX VY:Value} {uH:Addr}
  {pL:Addr} {Xd:Option Addr} {og:Array Value} {Xe:Array (Option Value)}
  {f11:Addr} {ZT Po:Option Addr} {ZU:Array (Option Value)} {ZV Pp Pq Pr Pt:Value} {yG:Addr}
  {uI ZW:Nat} {Xf:Value} {Xg:Option Addr} {QN:Tok} {Xh:Array (Option Value)}
  {IP:Addr} {ZX Pu:Option Addr} {ZY:Array (Option Value)} {ZZ Pw Px Py Pz:Value} {yH:Addr}
  {uJ Z_:Nat} {Xi:Value} {Xj:Option Addr} {QO:Tok} {Xk:Array (Option Value)}
  {QP:Addr} {Z0 Z2:Option Addr} {Z3:Array (Option Value)} {Z4 Z5 Z6 Z7 Z8:Value} {VZ:Value}
  {QQ:Addr} {Z9 Z':Option Addr} {aac:Array (Option Value)} {aad aae aaf aag aah:Value} {V_:Value}
  {QR:Addr} {aai aaj:Option Addr} {aak:Array (Option Value)} {aal aam aan aao aap:Value} {V0:Value}
  {QS:Addr} {aaq aar:Option Addr} {aas:Array (Option Value)} {aat aau aav aaw aax:Value} {V1:Value}
  {QT:Addr} {aay aaz:Option Addr} {aaA:Array (Option Value)} {aaB aaC aaD aaE aaF:Value} {V2:Value}
  {QU:Addr} {aaG aaH:Option Addr} {aaI:Array (Option Value)} {aaJ aaK aaL aaM aaN:Value} {V3:Value}
  {QV:Addr} {aaO aaP:Option Addr} {aaQ:Array (Option Value)} {aaR aaS aaT aaU aaV:Value} {V4:Value}
  {IT:Addr} {aaW aaX:Option Addr} {aaY:Array (Option Value)} {aaZ aa_ aa0 aa1 aa2:Value} {V5:Value}
  {QW:Addr} {aa3 aa4:Option Addr} {aa5:Array (Option Value)} {aa6 aa7 aa8 aa9 aa':Value} {V6:Value}
  {QX:Addr} {abb abd:Option Addr} {abe:Array (Option Value)} {abf abg abh abi abj:Value} {V7:Value}
  {QY:Addr} {abk abl:Option Addr} {abm:Array (Option Value)} {abn abo abp abq abr:Value} {V8:Value}
  {QZ:Addr} {abt abu:Option Addr} {abv:Array (Option Value)} {abw abx aby abz abA:Value} {V9:Value}
  {Q_:Addr} {abB abC:Option Addr} {abD:Array (Option Value)} {abE abF abG abH abI:Value} {V':Value}
  {Q0:Addr} {abJ Wa:Option Addr} {abK:Array (Option Value)} {abL Wb Wc Wd Wf:Value} {uK:Addr}
  {pM:Addr} {Xl:Option Addr} {oh:Array Value} {Xm:Array (Option Value)}
  {Q1:Addr} {abM abN:Option Addr} {abO:Array (Option Value)} {abP abQ abR abS abT:Value} {Wg:Value}
  {Q2:Addr} {abU abV:Option Addr} {abW:Array (Option Value)} {abX abY abZ ab_ ab0:Value} {Wh:Value}
  {Q3:Addr} {ab1 ab2:Option Addr} {ab3:Array (Option Value)} {ab4 ab5 ab6 ab7 ab8:Value} {Wi:Value}
  {Wj:Addr} {ab9 Wk:Option Addr} {ab':Array (Option Value)} {aca Wl Wm Wn Wo:Value} {PB:Value}
  (a0:Aq K Ah "all_letters"=some (some (.ref f0))) (l0:K.lookup f0=some ⟨oc0,od0,.func (Al "all_letters" "all_letters" (aL dE) (aK dE) (aj dE) .none kV0 dc0 pm0 an0 YJ ct0),sl0⟩) (c0:Ax K YJ "all_letters"=true) (k0:AR K (.ref f0)=true)
  (a1:Aq K Ah "grown_from"=some (some (.ref f1))) (l1:K.lookup f1=some ⟨oc1,od1,.func (Al "grown_from" "grown_from" (aL bR) (aK bR) (aj bR) (.ref IU) VO VP VQ VN (.ref NG) VR),sl1⟩) (c1:Ax K (.ref NG) "grown_from"=true) (k1:AR K (.ref f1)=true)
  (ld1:K.lookup IU=some ⟨ZN,ZO,.seq #[(.int 2000 VS)] dn1,ZP⟩)
  (a2:Aq K Ah "machine_of"=some (some (.ref f2))) (l2:K.lookup f2=some ⟨oc2,od2,.func (Al "machine_of" "machine_of" (aL eK) (aK eK) (aj eK) .none kV2 dc2 pm2 an2 YK ct2),sl2⟩) (c2:Ax K YK "machine_of"=true) (k2:AR K (.ref f2)=true)
  (a3:Aq K Ah "own_letters"=some (some (.ref f3))) (l3:K.lookup f3=some ⟨oc3,od3,.func (Al "own_letters" "own_letters" (aL dF) (aK dF) (aj dF) .none kV3 dc3 pm3 an3 YL ct3),sl3⟩) (c3:Ax K YL "own_letters"=true) (k3:AR K (.ref f3)=true)
  (a4:Aq K Ah "turned_no"=some (some (.ref f4))) (l4:K.lookup f4=some ⟨oc4,od4,.func (Al "turned_no" "turned_no" (aL eF) (aK eF) (aj eF) .none kV4 dc4 pm4 an4 YM ct4),sl4⟩) (c4:Ax K YM "turned_no"=true) (k4:AR K (.ref f4)=true)
  (a5:Aq K Ah "other_names"=some (some (.ref f5))) (l5:K.lookup f5=some ⟨oc5,od5,.func (Al "other_names" "other_names" (aL dG) (aK dG) (aj dG) .none kV5 dc5 pm5 an5 YN ct5),sl5⟩) (c5:Ax K YN "other_names"=true) (k5:AR K (.ref f5)=true)
  (a6:Aq K Ah "letters_over"=some (some (.ref f6))) (l6:K.lookup f6=some ⟨oc6,od6,.func (Al "letters_over" "letters_over" (aL dg) (aK dg) (aj dg) .none kV6 dc6 pm6 an6 YO ct6),sl6⟩) (c6:Ax K YO "letters_over"=true) (k6:AR K (.ref f6)=true)
  (a7:Aq K Ah "rooms_before"=some (some (.ref f7))) (l7:K.lookup f7=some ⟨oc7,od7,.func (Al "rooms_before" "rooms_before" (aL dh) (aK dh) (aj dh) .none kV7 dc7 pm7 an7 YQ ct7),sl7⟩) (c7:Ax K YQ "rooms_before"=true) (k7:AR K (.ref f7)=true)
  (a8:Aq K Ah "going_on"=some (some (.ref f8))) (l8:K.lookup f8=some ⟨oc8,od8,.func (Al "going_on" "going_on" (aL fk) (aK fk) (aj fk) .none kV8 dc8 pm8 an8 YR ct8),sl8⟩) (c8:Ax K YR "going_on"=true) (k8:AR K (.ref f8)=true)
  (a9:Aq K Ah "led_to"=some (some (.ref f9))) (l9:K.lookup f9=some ⟨oc9,od9,.func (Al "led_to" "led_to" (aL iJ) (aK iJ) (aj iJ) .none kV9 dc9 pm9 an9 YS ct9),sl9⟩) (c9:Ax K YS "led_to"=true) (k9:AR K (.ref f9)=true)
  (a10:Aq K Ah "sets_growth"=some (some (.ref kS))) (l10:K.lookup kS=some ⟨ZS,ZQ,.func (Al "sets_growth" "sets_growth" (aL bH) (aK bH) (aj bH) .none VU VW VX VT (.ref uH) VY),ZR⟩) (c10:Ax K (.ref uH) "sets_growth"=true) (k10:AR K (.ref kS)=true)
  (lc10:K.lookup uH=some ⟨.type "code",Xd,.fields og,Xe⟩) (lv10:og[11]? =some (.ref pL))
  (le10:((match (og[11]? :Option Value) with | some (.ref P')=>P' == pL | _=>false)&&(match og.getD 18 .none with | .str _ _=>true | _=>false)&&(match og.getD 7 .none with | .int _ _=>true | _=>false)&&(match og.getD 9 .none with | .bool _=>true | _=>false)&&(match og.getD 10 .none with | .int _ _=>true | _=>false)&&uH != pL)=true)
  (ln10:K.lookup pL=none) (lt10:h.get? pL=some (B5 #[]))
  (a11:Aq K Ah "some_of"=some (some (.ref f11))) (l11:K.lookup f11=some ⟨ZV,ZT,.func (Al "some_of" "some_of" (aL cS) (aK cS) (aj cS) (.ref uI) Pp Pq Pr Po (.ref yG) Pt),ZU⟩) (c11:Ax K (.ref yG) "some_of"=true) (k11:AR K (.ref f11)=true)
  (ld11:K.lookup uI=some ⟨Xf,Xg,.seq #[(.int 2000 QN)] ZW,Xh⟩)
  (a12:Aq K Ah "each_of"=some (some (.ref IP))) (l12:K.lookup IP=some ⟨ZZ,ZX,.func (Al "each_of" "each_of" (aL cU) (aK cU) (aj cU) (.ref uJ) Pw Px Py Pu (.ref yH) Pz),ZY⟩) (c12:Ax K (.ref yH) "each_of"=true) (k12:AR K (.ref IP)=true)
  (ld12:K.lookup uJ=some ⟨Xi,Xj,.seq #[(.int 2000 QO)] Z_,Xk⟩)
  (a13:Aq K Ah "_law_feed"=some (some (.ref QP))) (l13:K.lookup QP=some ⟨Z4,Z0,.func (Al "_law_feed" "_law_feed" (aL gR) (aK gR) (aj gR) .none Z5 Z6 Z7 Z2 VZ Z8),Z3⟩) (c13:Ax K VZ "_law_feed"=true) (k13:AR K (.ref QP)=true)
  (a14:Aq K Ah "_law_draw"=some (some (.ref QQ))) (l14:K.lookup QQ=some ⟨aad,Z9,.func (Al "_law_draw" "_law_draw" (aL iK) (aK iK) (aj iK) .none aae aaf aag Z' V_ aah),aac⟩) (c14:Ax K V_ "_law_draw"=true) (k14:AR K (.ref QQ)=true)
  (a15:Aq K Ah "_law_after"=some (some (.ref QR))) (l15:K.lookup QR=some ⟨aal,aai,.func (Al "_law_after" "_law_after" (aL g7) (aK g7) (aj g7) .none aam aan aao aaj V0 aap),aak⟩) (c15:Ax K V0 "_law_after"=true) (k15:AR K (.ref QR)=true)
  (a16:Aq K Ah "_law_names"=some (some (.ref QS))) (l16:K.lookup QS=some ⟨aat,aaq,.func (Al "_law_names" "_law_names" (aL eZ) (aK eZ) (aj eZ) .none aau aav aaw aar V1 aax),aas⟩) (c16:Ax K V1 "_law_names"=true) (k16:AR K (.ref QS)=true)
  (a17:Aq K Ah "_law_great"=some (some (.ref QT))) (l17:K.lookup QT=some ⟨aaB,aay,.func (Al "_law_great" "_law_great" (aL g8) (aK g8) (aj g8) .none aaC aaD aaE aaz V2 aaF),aaA⟩) (c17:Ax K V2 "_law_great"=true) (k17:AR K (.ref QT)=true)
  (a18:Aq K Ah "_law_rings"=some (some (.ref QU))) (l18:K.lookup QU=some ⟨aaJ,aaG,.func (Al "_law_rings" "_law_rings" (aL g9) (aK g9) (aj g9) .none aaK aaL aaM aaH V3 aaN),aaI⟩) (c18:Ax K V3 "_law_rings"=true) (k18:AR K (.ref QU)=true)
  (a19:Aq K Ah "_law_machine"=some (some (.ref QV))) (l19:K.lookup QV=some ⟨aaR,aaO,.func (Al "_law_machine" "_law_machine" (aL dk) (aK dk) (aj dk) .none aaS aaT aaU aaP V4 aaV),aaQ⟩) (c19:Ax K V4 "_law_machine"=true) (k19:AR K (.ref QV)=true)
  (a20:Aq K Ah "_law_says"=some (some (.ref IT))) (l20:K.lookup IT=some ⟨aaZ,aaW,.func (Al "_law_says" "_law_says" (aL gT) (aK gT) (aj gT) .none aa_ aa0 aa1 aaX V5 aa2),aaY⟩) (c20:Ax K V5 "_law_says"=true) (k20:AR K (.ref IT)=true)
  (a21:Aq K Ah "_law_letters"=some (some (.ref QW))) (l21:K.lookup QW=some ⟨aa6,aa3,.func (Al "_law_letters" "_law_letters" (aL eI) (aK eI) (aj eI) .none aa7 aa8 aa9 aa4 V6 aa'),aa5⟩) (c21:Ax K V6 "_law_letters"=true) (k21:AR K (.ref QW)=true)
  (a22:Aq K Ah "_law_grown"=some (some (.ref QX))) (l22:K.lookup QX=some ⟨abf,abb,.func (Al "_law_grown" "_law_grown" (aL hJ) (aK hJ) (aj hJ) .none abg abh abi abd V7 abj),abe⟩) (c22:Ax K V7 "_law_grown"=true) (k22:AR K (.ref QX)=true)
  (a23:Aq K Ah "_law_alike"=some (some (.ref QY))) (l23:K.lookup QY=some ⟨abn,abk,.func (Al "_law_alike" "_law_alike" (aL fQ) (aK fQ) (aj fQ) .none abo abp abq abl V8 abr),abm⟩) (c23:Ax K V8 "_law_alike"=true) (k23:AR K (.ref QY)=true)
  (a24:Aq K Ah "_law_wholes"=some (some (.ref QZ))) (l24:K.lookup QZ=some ⟨abw,abt,.func (Al "_law_wholes" "_law_wholes" (aL gc) (aK gc) (aj gc) .none abx aby abz abu V9 abA),abv⟩) (c24:Ax K V9 "_law_wholes"=true) (k24:AR K (.ref QZ)=true)
  (a25:Aq K Ah "_law_going_on"=some (some (.ref Q_))) (l25:K.lookup Q_=some ⟨abE,abB,.func (Al "_law_going_on" "_law_going_on" (aL dw) (aK dw) (aj dw) .none abF abG abH abC V' abI),abD⟩) (c25:Ax K V' "_law_going_on"=true) (k25:AR K (.ref Q_)=true)
  (a26:Aq K Ah "_law_due"=some (some (.ref Q0))) (l26:K.lookup Q0=some ⟨abL,abJ,.func (Al "_law_due" "_law_due" (aL eP) (aK eP) (aj eP) .none Wb Wc Wd Wa (.ref uK) Wf),abK⟩) (c26:Ax K (.ref uK) "_law_due"=true) (k26:AR K (.ref Q0)=true)
  (lc26:K.lookup uK=some ⟨.type "code",Xl,.fields oh,Xm⟩) (lv26:oh[11]? =some (.ref pM))
  (le26:((match (oh[11]? :Option Value) with | some (.ref P')=>P' == pM | _=>false)&&(match oh.getD 18 .none with | .str _ _=>true | _=>false)&&(match oh.getD 7 .none with | .int _ _=>true | _=>false)&&(match oh.getD 9 .none with | .bool _=>true | _=>false)&&(match oh.getD 10 .none with | .int _ _=>true | _=>false)&&uK != pM)=true)
  (ln26:K.lookup pM=none) (lt26:h.get? pM=some (B5 #[]))
  (a27:Aq K Ah "_law_hidden"=some (some (.ref Q1))) (l27:K.lookup Q1=some ⟨abP,abM,.func (Al "_law_hidden" "_law_hidden" (aL dX) (aK dX) (aj dX) .none abQ abR abS abN Wg abT),abO⟩) (c27:Ax K Wg "_law_hidden"=true) (k27:AR K (.ref Q1)=true)
  (a28:Aq K Ah "_law_turned"=some (some (.ref Q2))) (l28:K.lookup Q2=some ⟨abX,abU,.func (Al "_law_turned" "_law_turned" (aL fm) (aK fm) (aj fm) .none abY abZ ab_ abV Wh ab0),abW⟩) (c28:Ax K Wh "_law_turned"=true) (k28:AR K (.ref Q2)=true)
  (a29:Aq K Ah "_law_chain"=some (some (.ref Q3))) (l29:K.lookup Q3=some ⟨ab4,ab1,.func (Al "_law_chain" "_law_chain" (aL fR) (aK fR) (aj fR) .none ab5 ab6 ab7 ab2 Wi ab8),ab3⟩) (c29:Ax K Wi "_law_chain"=true) (k29:AR K (.ref Q3)=true)
  (a30:Aq K Ah "law"=some (some (.ref Wj))) (l30:K.lookup Wj=some ⟨aca,ab9,.func (Al "law" "law" (aL gF) (aK gF) (aj gF) .none Wl Wm Wn Wk PB Wo),ab'⟩) (c30:Ax K PB "law"=true) (k30:AR K (.ref Wj)=true)
  (z0:Aq K Ah "range"=some none)
  (z1:Aq K Ah "tuple"=some none)
  (z2:Aq K Ah "len"=some none)
  (z3:Aq K Ah "enumerate"=some none)
  (z4:Aq K Ah "list"=some none)
  (z5:Aq K Ah "sorted"=some none)
  (z6:Aq K Ah "abs"=some none)
  (z7:Aq K Ah "sum"=some none)
  (z8:Aq K Ah "isinstance"=some none)
  (z9:Aq K Ah "any"=some none)
  (z10:Aq K Ah "bool"=some none)
  (z11:Aq K Ah "min"=some none)
  (z12:Aq K Ah "all"=some none)
  (z13:Aq K Ah "int"=some none)
  (z14:Aq K Ah "set"=some none)
  (z15:Aq K Ah "zip"=some none)
  (tne:pL≠pM)
  :∃(fd:BC) (ts:List Addr),(∀T∈ts,(∃c,Dy h c T)/\h.get? T=some (B5 #[])/\K.lookup T=none)/\(∀(s:AN) (v:Value),Hi s fd ⟨[v],[]⟩ [("_law_script",v)])/\∀base:Heap,K.In base->base.Ns Ah mg->fj mg base->aV l.prog w K mg base bK 7 fa fd ["_law_script"] (wD K ts):=by
 have e:=hfa.symm.trans (A8 X G a30)
 cases e
 have F0:=bZ (st:=dE) l0 c0 k0
 have b0:=F0.binds (ps:=["base","many"]) λ_ _ _ _ _ _ us hl=>ln2 us hl λ_ _=>rfl
 have F1:=mL (st:=bR) l1 c1 k1
 have b1:Binds K (Al "grown_from" "grown_from" (aL bR) (aK bR) (aj bR) (.ref IU) VO VP VQ VN (.ref NG) VR) ["first","many","onward","is_yes","most"] []:=λs us hK hl=>YI us (by rw[BU] at hl;exact hl) λ_ _ _ _ _=>Cj (T:=IU) rfl (hK _ _ ld1) rfl rfl rfl
 have d1:∃t,Binds K (Al "grown_from" "grown_from" (aL bR) (aK bR) (aj bR) (.ref IU) VO VP VQ VN (.ref NG) VR) ["first","many","onward","is_yes","most"] [.int 2000 t]:=⟨VS,λs us hK hl=>have h3:us.length=4:=(by simpa using hl);tF us h3 λ_ _ _ _=>Cj (T:=IU) rfl (hK _ _ ld1) rfl rfl rfl⟩
 have F2:=bZ (st:=eK) l2 c2 k2
 have b2:=F2.binds (ps:=["base","names","growth","most"]) λ_ _ _ _ _ _ us hl=>tF us hl λ_ _ _ _=>rfl
 have F3:=bZ (st:=dF) l3 c3 k3
 have b3:=F3.binds (ps:=["base","names","own"]) λ_ _ _ _ _ _ us hl=>qy us hl λ_ _ _=>rfl
 have F4:=bZ (st:=eF) l4 c4 k4
 have b4:=F4.binds (ps:=["machine"]) λ_ _ _ _ _ _ us hl=>qg us hl λ_=>rfl
 have F5:=bZ (st:=dG) l5 c5 k5
 have b5:=F5.binds (ps:=["machine","name"]) λ_ _ _ _ _ _ us hl=>ln2 us hl λ_ _=>rfl
 have F6:=bZ (st:=dg) l6 c6 k6
 have b6:=F6.binds (ps:=["base","machine","name"]) λ_ _ _ _ _ _ us hl=>qy us hl λ_ _ _=>rfl
 have F7:=bZ (st:=dh) l7 c7 k7
 have b7:=F7.binds (ps:=["machine","letters"]) λ_ _ _ _ _ _ us hl=>ln2 us hl λ_ _=>rfl
 have F8:=bZ (st:=fk) l8 c8 k8
 have b8:=F8.binds (ps:=["machine","letters"]) λ_ _ _ _ _ _ us hl=>ln2 us hl λ_ _=>rfl
 have F9:=bZ (st:=iJ) l9 c9 k9
 have b9:=F9.binds (ps:=["machine","some","letters"]) λ_ _ _ _ _ _ us hl=>qy us hl λ_ _ _=>rfl
 have F10:=mL (st:=bH) l10 c10 k10
 have xa:=vj lc10 le10
 have b10:Binds K (Al "sets_growth" "sets_growth" (aL bH) (aK bH) (aj bH) .none VU VW VX VT (.ref uH) VY) ["base","machine","name"] []:=.all λus hl=>qy us hl λ_ _ _=>rfl
 have F11:=mL (st:=cS) l11 c11 k11
 have b11:Binds K (Al "some_of" "some_of" (aL cS) (aK cS) (aj cS) (.ref uI) Pp Pq Pr Po (.ref yG) Pt) ["base","machine","name","most"] []:=λs us hK hl=>tF us (by rw[BU] at hl;exact hl) λ_ _ _ _=>Cj (T:=uI) rfl (hK _ _ ld11) rfl rfl rfl
 have d11:∃t,Binds K (Al "some_of" "some_of" (aL cS) (aK cS) (aj cS) (.ref uI) Pp Pq Pr Po (.ref yG) Pt) ["base","machine","name","most"] [.int 2000 t]:=⟨QN,λs us hK hl=>have h3:us.length=3:=(by simpa using hl);qy us h3 λ_ _ _=>Cj (T:=uI) rfl (hK _ _ ld11) rfl rfl rfl⟩
 have F12:=mL (st:=cU) l12 c12 k12
 have b12:Binds K (Al "each_of" "each_of" (aL cU) (aK cU) (aj cU) (.ref uJ) Pw Px Py Pu (.ref yH) Pz) ["base","machine","name","most"] []:=λs us hK hl=>tF us (by rw[BU] at hl;exact hl) λ_ _ _ _=>Cj (T:=uJ) rfl (hK _ _ ld12) rfl rfl rfl
 have d12:∃t,Binds K (Al "each_of" "each_of" (aL cU) (aK cU) (aj cU) (.ref uJ) Pw Px Py Pu (.ref yH) Pz) ["base","machine","name","most"] [.int 2000 t]:=⟨QO,λs us hK hl=>have h3:us.length=3:=(by simpa using hl);qy us h3 λ_ _ _=>Cj (T:=uJ) rfl (hK _ _ ld12) rfl rfl rfl⟩
 have F13:=bZ (st:=gR) l13 c13 k13
 have b13:=F13.binds (ps:=["_law_script"]) λ_ _ _ _ _ _ us hl=>qg us hl λ_=>rfl
 have F14:=bZ (st:=iK) l14 c14 k14
 have b14:=F14.binds (ps:=["_law_feed_here","_law_many"]) λ_ _ _ _ _ _ us hl=>ln2 us hl λ_ _=>rfl
 have F15:=bZ (st:=g7) l15 c15 k15
 have b15:=F15.binds (ps:=["_law_word"]) λ_ _ _ _ _ _ us hl=>qg us hl λ_=>rfl
 have F16:=bZ (st:=eZ) l16 c16 k16
 have b16:=F16.binds (ps:=["_law_feed_here","_law_many"]) λ_ _ _ _ _ _ us hl=>ln2 us hl λ_ _=>rfl
 have F17:=bZ (st:=g8) l17 c17 k17
 have b17:=F17.binds (ps:=["_law_feed_here"]) λ_ _ _ _ _ _ us hl=>qg us hl λ_=>rfl
 have F18:=bZ (st:=g9) l18 c18 k18
 have b18:=F18.binds (ps:=["_law_moves"]) λ_ _ _ _ _ _ us hl=>qg us hl λ_=>rfl
 have F19:=bZ (st:=dk) l19 c19 k19
 have b19:=F19.binds (ps:=["_law_feed_here","_law_base","_law_names_here","_law_most"]) λ_ _ _ _ _ _ us hl=>tF us hl λ_ _ _ _=>rfl
 have F20:=bZ (st:=gT) l20 c20 k20
 have b20:=F20.binds (ps:=["_law_base","_law_machine_here","_law_numbers"]) λ_ _ _ _ _ _ us hl=>qy us hl λ_ _ _=>rfl
 have F21:=bZ (st:=eI) l21 c21 k21
 have b21:=F21.binds (ps:=["_law_base","_law_many"]) λ_ _ _ _ _ _ us hl=>ln2 us hl λ_ _=>rfl
 have F22:=bZ (st:=hJ) l22 c22 k22
 have b22:=F22.binds (ps:=["_law_first","_law_many","_law_onward","_law_most"]) λ_ _ _ _ _ _ us hl=>tF us hl λ_ _ _ _=>rfl
 have F23:=bZ (st:=fQ) l23 c23 k23
 have b23:=F23.binds (ps:=["_law_found","_law_due_here"]) λ_ _ _ _ _ _ us hl=>ln2 us hl λ_ _=>rfl
 have F24:=bZ (st:=gc) l24 c24 k24
 have b24:=F24.binds (ps:=["_law_base","_law_names_here","_law_name"]) λ_ _ _ _ _ _ us hl=>qy us hl λ_ _ _=>rfl
 have F25:=bZ (st:=dw) l25 c25 k25
 have b25:=F25.binds (ps:=["_law_machine_here","_law_noughts"]) λ_ _ _ _ _ _ us hl=>ln2 us hl λ_ _=>rfl
 have F26:=mL (st:=eP) l26 c26 k26
 have YT:=vj lc26 le26
 have b26:Binds K (Al "_law_due" "_law_due" (aL eP) (aK eP) (aj eP) .none Wb Wc Wd Wa (.ref uK) Wf) ["_law_base","_law_machine_here","_law_name"] []:=.all λus hl=>qy us hl λ_ _ _=>rfl
 have F27:=bZ (st:=dX) l27 c27 k27
 have b27:=F27.binds (ps:=["_law_base","_law_machine_here","_law_name","_law_numbers"]) λ_ _ _ _ _ _ us hl=>tF us hl λ_ _ _ _=>rfl
 have F28:=bZ (st:=fm) l28 c28 k28
 have b28:=F28.binds (ps:=["_law_machine_here"]) λ_ _ _ _ _ _ us hl=>qg us hl λ_=>rfl
 have F29:=bZ (st:=fR) l29 c29 k29
 have b29:=F29.binds (ps:=["_law_feed_here","_law_base","_law_names_here","_law_at"]) λ_ _ _ _ _ _ us hl=>tF us hl λ_ _ _ _=>rfl
 have F30:=bZ (st:=gF) l30 c30 k30
 have T:Txt K mg ⟨f0,_,f1,_,NG,f2,_,f3,_,f4,_,f5,_,f6,_,f7,_,f8,_,f9,_,kS,_,uH,pL,f11,_,yG,IP,_,yH,QP,_,QQ,_,QR,_,QS,_,QT,_,QU,_,QV,_,IT,_,QW,_,QX,_,QY,_,QZ,_,Q_,_,Q0,_,uK,pM,Q1,_,Q2,_,Q3,_,fa,_⟩:=⟨F0,A8 X G a0,k0,b0,F1,A8 X G a1,k1,b1,d1,F2,A8 X G a2,k2,b2,F3,A8 X G a3,k3,b3,F4,A8 X G a4,k4,b4,F5,A8 X G a5,k5,b5,F6,A8 X G a6,k6,b6,F7,A8 X G a7,k7,b7,F8,A8 X G a8,k8,b8,F9,A8 X G a9,k9,b9,F10,xa,A8 X G a10,k10,b10,F11,A8 X G a11,k11,b11,d11,F12,A8 X G a12,k12,b12,d12,F13,A8 X G a13,k13,b13,F14,A8 X G a14,k14,b14,F15,A8 X G a15,k15,b15,F16,A8 X G a16,k16,b16,F17,A8 X G a17,k17,b17,F18,A8 X G a18,k18,b18,F19,A8 X G a19,k19,b19,F20,A8 X G a20,k20,b20,F21,A8 X G a21,k21,b21,F22,A8 X G a22,k22,b22,F23,A8 X G a23,k23,b23,F24,A8 X G a24,k24,b24,F25,A8 X G a25,k25,b25,F26,YT,A8 X G a26,k26,b26,F27,A8 X G a27,k27,b27,F28,A8 X G a28,k28,b28,F29,A8 X G a29,k29,b29,F30,A8 X G a30,BM X G z0,BM X G z1,BM X G z2,BM X G z3,BM X G z4,BM X G z5,BM X G z6,BM X G z7,BM X G z8,BM X G z9,BM X G z10,BM X G z11,BM X G z12,BM X G z13,BM X G z14,BM X G z15,tne⟩
 exact⟨Al "law" "law" (aL gF) (aK gF) (aj gF) .none Wl Wm Wn Wk PB Wo,[pL,pM],(Bn.mpr ⟨⟨⟨_,D_ X xa⟩,lt10,ln10⟩,(Bn.mpr ⟨⟨⟨_,D_ X YT⟩,lt26,ln26⟩,(λ_ h=>nomatch h)⟩)⟩),λs v=>.of_eq rfl,λbase _ _ hB=>Vy T hB⟩
theorem walk{l:Gn}{q:Az}{loose:List Str}{XP:(Str->Option Value)->Heap->Prop}{YP:World->Heap->Prop}{d:DefRec}{K:Params->AE}(hn:l.most=some 63)(hdf:d.params.defaults=[])
  (hY:∀(w:World) (h:Heap),YP w h->(K w.params).In h)
  (F:∀(w:World) (mg:Str->Option Value) (fa:Addr) (h:Heap),(K w.params).In h->h.Ns Ah mg->mg d.name=some (.ref fa)->YP w h->
   ∃(fd:BC) (ts:List Addr),(∀T∈ts,(∃c,Dy h c T)/\h.get? T=some (B5 #[])/\(K w.params).lookup T=none)/\(∀(s:AN) (u:Value),Hi s fd ⟨[u],[]⟩ [("_law_script",u)])/\
    ∀base:Heap,(K w.params).In base->base.Ns Ah mg->fj mg base->aV l.prog w (K w.params) mg base bK 7 fa fd ["_law_script"] (wD (K w.params) ts)):
  PySem.W.WalkO q loose XP YP l.row.toRowW d [] (λf vs=>II f vs):=
 L2.N' (n:=63) (k:=7) (x:="_law_script") (sp:=λw ts=>wD (K w.params) ts) hn (by decide) hdf ⟨rfl,by decide,by decide,rfl⟩ hY F (λ_ _ a ns _ hl hO hS=>⟨a,ns,rfl,hS,hl,hO,λ_=>rfl⟩)
end
end My
namespace PySem.W.Fast
theorem tw16507169321510533437 : True := trivial
theorem tw17913849161688164066 : True := trivial
theorem tw5802725336687755840 : True := trivial
theorem tw4280954838051109907 : True := trivial
theorem tw9026704137561890916 : True := trivial
theorem tw10727626916466239709 : True := trivial
theorem tw13743083061672409468 : True := trivial
theorem tw5906155044132182216 : True := trivial
theorem tw14326605022272093590 : True := trivial
theorem tw8697885578113078691 : True := trivial
theorem tw8693475853604575480 : True := trivial
theorem tw14593839402839836447 : True := trivial
theorem tw14336806326604795208 : True := trivial
theorem tw9343246721700604435 : True := trivial
theorem tw12598321745564781727 : True := trivial
theorem tw5807718226155859383 : True := trivial
theorem tw12319753512873712714 : True := trivial
theorem tw2612068867018847310 : True := trivial
theorem tw5504903768022907842 : True := trivial
theorem tw5133583116162150212 : True := trivial
theorem tw3453991523968508560 : True := trivial
theorem tw5192002601114966667 : True := trivial
theorem tw7055635802050553825 : True := trivial
theorem tw17688663785766937501 : True := trivial
theorem tw16457644474391478628 : True := trivial
theorem tw6991713812290468045 : True := trivial
theorem tw8182923506728103656 : True := trivial
theorem tw7912799247285260171 : True := trivial
theorem tw8203799258069740238 : True := trivial
theorem tw14645744124834388205 : True := trivial
theorem tw12645234639160884689 : True := trivial
theorem tw16917258275423939579 : True := trivial
theorem tw5328267231938954985 : True := trivial
theorem tw8059306409798474053 : True := trivial
theorem tw3389506218909635628 : True := trivial
theorem tw15011768471556710671 : True := trivial
theorem tw8688863695545754768 : True := trivial
theorem tw8783327920763624121 : True := trivial
theorem tw5338403420516163008 : True := trivial
theorem tw12438203299672017969 : True := trivial
theorem tw8967675426796819756 : True := trivial
theorem tw3025191550999765353 : True := trivial
theorem tw1599324586164541308 : True := trivial
theorem tw15896755065437439111 : True := trivial
theorem tw14614648378385791638 : True := trivial
theorem tw12283914164340026623 : True := trivial
theorem tw9685307989892822395 : True := trivial
theorem tw7940247640128781633 : True := trivial
theorem tw5394003099339778345 : True := trivial
theorem tw4612243833453767342 : True := trivial
theorem tw11290036004011892289 : True := trivial
theorem tw15248350310424873773 : True := trivial
theorem tw154499650076823488 : True := trivial
theorem tw9417218465590912491 : True := trivial
theorem tw11025558935774962106 : True := trivial
theorem tw4100694367488655161 : True := trivial
theorem tw3168459756682911027 : True := trivial
theorem tw8675110765601659944 : True := trivial
theorem tw11034693226042757691 : True := trivial
theorem tw2505074778174969413 : True := trivial
theorem tw16528678595471062445 : True := trivial
theorem tw17834002805989142005 : True := trivial
theorem tw16350362003672187103 : True := trivial
theorem tw9499589636396312611 : True := trivial
theorem tw11598998339470650980 : True := trivial
theorem tw9357566146389706923 : True := trivial
theorem tw10349224084990472120 : True := trivial
theorem tw11366764719193135781 : True := trivial
theorem tw6351236120026673068 : True := trivial
theorem tw4686439418311231864 : True := trivial
theorem tw7815671423659200014 : True := trivial
theorem tw17525037244769503681 : True := trivial
theorem tw17123088557188140748 : True := trivial
theorem tw17044711185220270010 : True := trivial
theorem tw10178275890488372358 : True := trivial
theorem tw6078974576876500512 : True := trivial
theorem tw12899705942599916436 : True := trivial
theorem tw16532083933043381884 : True := trivial
theorem tw2292841618808966721 : True := trivial
theorem tw13471554403900202339 : True := trivial
theorem tw880241848753482897 : True := trivial
theorem tw17552439947112028557 : True := trivial
theorem tw5330412125467981475 : True := trivial
theorem tw13050882872042305800 : True := trivial
theorem tw16759412511130136154 : True := trivial
theorem tw17169066395962213671 : True := trivial
theorem tw6094616330393852172 : True := trivial
theorem tw3713279848555499790 : True := trivial
theorem tw4968464125786934608 : True := trivial
theorem tw3599442212843967993 : True := trivial
end PySem.W.Fast
open PySem PySem.W PyProof.Rows
set_option maxRecDepth 100000 in
set_option maxHeartbeats 0 in
theorem PySem.Challenge.cw_figurejudge_k44_each_by_no_hidden_number_holds : PySem.Challenge.rw_figurejudge_k44_each_by_no_hidden_number.Holds := by
 w_on;o_law;k_head;(case hw=>w_witness2)
 k_fill
 refine My.walk (l:=PySem.Challenge.rw_figurejudge_k44_each_by_no_hidden_number) rfl rfl (fun w h Y=>PySem.W.km_in_of Y) ?F
 case F=>
  intro w mg fa h KX G hmg Y
  refine' My.all_mk KX G hmg ?a0 ?l0 ?c0 ?k0 ?a1 ?l1 ?c1 ?k1 ?ld1 ?a2 ?l2 ?c2 ?k2 ?a3 ?l3 ?c3 ?k3 ?a4 ?l4 ?c4 ?k4 ?a5 ?l5 ?c5 ?k5 ?a6 ?l6 ?c6 ?k6 ?a7 ?l7 ?c7 ?k7 ?a8 ?l8 ?c8 ?k8 ?a9 ?l9 ?c9 ?k9 ?a10 ?l10 ?c10 ?k10 ?lc10 ?lv10 ?le10 ?ln10 ?lt10 ?a11 ?l11 ?c11 ?k11 ?ld11 ?a12 ?l12 ?c12 ?k12 ?ld12 ?a13 ?l13 ?c13 ?k13 ?a14 ?l14 ?c14 ?k14 ?a15 ?l15 ?c15 ?k15 ?a16 ?l16 ?c16 ?k16 ?a17 ?l17 ?c17 ?k17 ?a18 ?l18 ?c18 ?k18 ?a19 ?l19 ?c19 ?k19 ?a20 ?l20 ?c20 ?k20 ?a21 ?l21 ?c21 ?k21 ?a22 ?l22 ?c22 ?k22 ?a23 ?l23 ?c23 ?k23 ?a24 ?l24 ?c24 ?k24 ?a25 ?l25 ?c25 ?k25 ?a26 ?l26 ?c26 ?k26 ?lc26 ?lv26 ?le26 ?ln26 ?lt26 ?a27 ?l27 ?c27 ?k27 ?a28 ?l28 ?c28 ?k28 ?a29 ?l29 ?c29 ?k29 ?a30 ?l30 ?c30 ?k30 ?z0 ?z1 ?z2 ?z3 ?z4 ?z5 ?z6 ?z7 ?z8 ?z9 ?z10 ?z11 ?z12 ?z13 ?z14 ?z15 ?tne
  (case a0=>k_is)
  (case l0=>k_is)
  (case c0=>k_is)
  (case k0=>k_is)
  (case a1=>k_is)
  (case l1=>k_is)
  (case c1=>k_is)
  (case k1=>k_is)
  (case ld1=>k_is)
  (case a2=>k_is)
  (case l2=>k_is)
  (case c2=>k_is)
  (case k2=>k_is)
  (case a3=>k_is)
  (case l3=>k_is)
  (case c3=>k_is)
  (case k3=>k_is)
  (case a4=>k_is)
  (case l4=>k_is)
  (case c4=>k_is)
  (case k4=>k_is)
  (case a5=>k_is)
  (case l5=>k_is)
  (case c5=>k_is)
  (case k5=>k_is)
  (case a6=>k_is)
  (case l6=>k_is)
  (case c6=>k_is)
  (case k6=>k_is)
  (case a7=>k_is)
  (case l7=>k_is)
  (case c7=>k_is)
  (case k7=>k_is)
  (case a8=>k_is)
  (case l8=>k_is)
  (case c8=>k_is)
  (case k8=>k_is)
  (case a9=>k_is)
  (case l9=>k_is)
  (case c9=>k_is)
  (case k9=>k_is)
  (case a10=>k_is)
  (case l10=>k_is)
  (case c10=>k_is)
  (case k10=>k_is)
  (case lc10=>k_is)
  (case lv10=>rfl)
  (case le10=>rfl)
  (case ln10=>kernel_rfl)
  (case lt10=>exact PySem.W.km_tabs_of Y _ (by decide))
  (case a11=>k_is)
  (case l11=>k_is)
  (case c11=>k_is)
  (case k11=>k_is)
  (case ld11=>k_is)
  (case a12=>k_is)
  (case l12=>k_is)
  (case c12=>k_is)
  (case k12=>k_is)
  (case ld12=>k_is)
  (case a13=>k_is)
  (case l13=>k_is)
  (case c13=>k_is)
  (case k13=>k_is)
  (case a14=>k_is)
  (case l14=>k_is)
  (case c14=>k_is)
  (case k14=>k_is)
  (case a15=>k_is)
  (case l15=>k_is)
  (case c15=>k_is)
  (case k15=>k_is)
  (case a16=>k_is)
  (case l16=>k_is)
  (case c16=>k_is)
  (case k16=>k_is)
  (case a17=>k_is)
  (case l17=>k_is)
  (case c17=>k_is)
  (case k17=>k_is)
  (case a18=>k_is)
  (case l18=>k_is)
  (case c18=>k_is)
  (case k18=>k_is)
  (case a19=>k_is)
  (case l19=>k_is)
  (case c19=>k_is)
  (case k19=>k_is)
  (case a20=>k_is)
  (case l20=>k_is)
  (case c20=>k_is)
  (case k20=>k_is)
  (case a21=>k_is)
  (case l21=>k_is)
  (case c21=>k_is)
  (case k21=>k_is)
  (case a22=>k_is)
  (case l22=>k_is)
  (case c22=>k_is)
  (case k22=>k_is)
  (case a23=>k_is)
  (case l23=>k_is)
  (case c23=>k_is)
  (case k23=>k_is)
  (case a24=>k_is)
  (case l24=>k_is)
  (case c24=>k_is)
  (case k24=>k_is)
  (case a25=>k_is)
  (case l25=>k_is)
  (case c25=>k_is)
  (case k25=>k_is)
  (case a26=>k_is)
  (case l26=>k_is)
  (case c26=>k_is)
  (case k26=>k_is)
  (case lc26=>k_is)
  (case lv26=>rfl)
  (case le26=>rfl)
  (case ln26=>kernel_rfl)
  (case lt26=>exact PySem.W.km_tabs_of Y _ (by decide))
  (case a27=>k_is)
  (case l27=>k_is)
  (case c27=>k_is)
  (case k27=>k_is)
  (case a28=>k_is)
  (case l28=>k_is)
  (case c28=>k_is)
  (case k28=>k_is)
  (case a29=>k_is)
  (case l29=>k_is)
  (case c29=>k_is)
  (case k29=>k_is)
  (case a30=>k_is)
  (case l30=>k_is)
  (case c30=>k_is)
  (case k30=>k_is)
  (case z0=>k_is)
  (case z1=>k_is)
  (case z2=>k_is)
  (case z3=>k_is)
  (case z4=>k_is)
  (case z5=>k_is)
  (case z6=>k_is)
  (case z7=>k_is)
  (case z8=>k_is)
  (case z9=>k_is)
  (case z10=>k_is)
  (case z11=>k_is)
  (case z12=>k_is)
  (case z13=>k_is)
  (case z14=>k_is)
  (case z15=>k_is)
  (case tne=>decide)
#print axioms PySem.Challenge.cw_figurejudge_k44_each_by_no_hidden_number_holds
